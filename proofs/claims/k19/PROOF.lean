import PyProof.Rows.All
import Wide.All
import OpenK.AllK
import Wide.FinOn
import PyProof.EqAt
import PyProof.EqKinds
import PyProof.TupleCall
import PyProof.NeKinds
import PyProof.EnumMake
import PyProof.ConsumeWalk
import KE.LcSums
import PyProof.ReprLen
import PyProof.StrLawsRepr
import PyProof.Rows.StrNews2
import PyProof.Rows.SetFrom
import PyProof.WalksMore
import PyProof.StrLawsChain
import PyProof.StrLawsTight
import PyProof.StrLawsIdx
import PyProof.ZipIter
import PyProof.Draws
import PyProof.Rows.FactsT2
import PyProof.ListStr
import PyProof.Rows.StrPartPair
import KE.KSortTup
import KE.KDictSum
import KE.KRevIter
import PyProof.AttrMissHeap
import KE.KDictOf
import KE.KSortKey
import KE.KLam
import KE.KNestM
import PyProof.DictItems
import KE.KPairComp
import PyProof.AutoSeq1
import PyProof.SetNew
import Lean
import PySem.Challenge.RW_touchboats_k19_days_walked
set_option Elab.async false
set_option linter.all false
set_option maxRecDepth 100000
local macro_rules|`(tactic|omega)=>`(tactic|lia)
section
namespace L2
open PySem PySem.Spec PyProof.Rows
abbrev Key:=Sum Int Str
def a8o:Key→Value→Bool
 | .inl k,v=>Value.isInt k v
 | .inr x,v=>Value.isStrOf x v
def keyH (w:World):Key→Int
 | .inl k=>hashInt k
 | .inr x=>hashStr w x
theorem a0G:∀{k:Key} {v:Value},a8o k v=true→(∃i t,k=Sum.inl i∧v=Value.int i t)∨(∃x t,k=Sum.inr x∧v=Value.str x t)
 | .inl i, v, h => by
   obtain⟨t,e⟩:=Value.isInt_shape (k:=i) (v:=v) h;exact .inl ⟨i,t,rfl,e⟩
 | .inr x, v, h => by
   obtain⟨t,e⟩:=Value.isStrOf_shape (x:=x) (v:=v) h;exact .inr ⟨x,t,rfl,e⟩
theorem b0e (i:Int)(t:Tok):a8o (.inl i) (.int i t)=true:=by simp [a8o,Value.isInt]
theorem b0d (x:Str)(t:Tok):a8o (.inr x) (.str x t)=true:=by simp [a8o,Value.isStrOf]
theorem key_ll (a b:Int):decide ((Sum.inl a:Key)=Sum.inl b)=(a == b):=by
 by_cases e:a=b
 · subst e;simp
 · have h:¬(Sum.inl a:Key)=Sum.inl b:=fun q=>e (Sum.inl.inj q);rw [decide_eq_false h];exact(beq_eq_false_iff_ne.mpr e).symm
theorem key_rr (a b:Str):decide ((Sum.inr a:Key)=Sum.inr b)=decide (a=b):=by
 by_cases e:a=b
 · subst e;simp
 · have h:¬(Sum.inr a:Key)=Sum.inr b:=fun q=>e (Sum.inr.inj q);rw [decide_eq_false h,decide_eq_false e]
theorem key_lr (a:Int)(b:Str):decide ((Sum.inl a:Key)=Sum.inr b)=false:=decide_eq_false (fun q=>nomatch q)
theorem key_rl (a:Str)(b:Int):decide ((Sum.inr a:Key)=Sum.inl b)=false:=decide_eq_false (fun q=>nomatch q)
def a0s (prog:Program)(w:World):PySem.KeyKind prog w Key where
 is:=a8o
 hash:=keyH w
 inj:=fun v a b ha hb=>by
   rcases a0G ha with⟨i,t,rfl,rfl⟩ | ⟨x,t,rfl,rfl⟩
   · rcases a0G hb with⟨j,u,rfl,e⟩ | ⟨y,u,rfl,e⟩
     · injection e with e1 _;rw [e1]
     · exact nomatch e
   · rcases a0G hb with⟨j,u,rfl,e⟩ | ⟨y,u,rfl,e⟩
     · exact nomatch e
     · injection e with e1 _;rw [e1]
 byValue:=fun k v h=>by
   rcases a0G h with⟨i,t,rfl,rfl⟩ | ⟨x,t,rfl,rfl⟩ <;> rfl
 pyHash:=fun hv h=>by
   rcases a0G hv with⟨i,t,rfl,rfl⟩ | ⟨x,t,rfl,rfl⟩
   · exact wpAny_pyHash_int h
   · exact wpAny_pyHash_str h
 eqBool:=fun hu hv h=>by
   rcases a0G hu with⟨i,t,rfl,rfl⟩ | ⟨x,t,rfl,rfl⟩
   · rcases a0G hv with⟨j,u,rfl,rfl⟩ | ⟨y,u,rfl,rfl⟩
     · rw [key_ll] at h;exact wpAny_eqBool_int h
     · rw [key_lr] at h;exact SeqAt.EqAt.int_str i t y u _ _ _ _ h
   · rcases a0G hv with⟨j,u,rfl,rfl⟩ | ⟨y,u,rfl,rfl⟩
     · rw [key_rl] at h;exact SeqAt.EqAt.str_int x t j u _ _ _ _ h
     · rw [key_rr] at h;exact wpAny_eqBool_str h
 «strs»:=fun k x t v h=>by
   rcases a0G h with⟨i,u,rfl,e⟩ | ⟨y,u,rfl,e⟩
   · exact nomatch e
   · injection e with e1 _;subst e1;cases v <;> rfl
theorem a6F (prog:Program)(w:World)(i:Int)(t:Tok):(a0s prog w).is (.inl i) (.int i t)=true:=b0e i t
theorem a4e (prog:Program)(w:World)(x:Str)(t:Tok):(a0s prog w).is (.inr x) (.str x t)=true:=b0d x t
end L2
namespace L2
open PySem PySem.Spec PyProof.Rows
inductive V where
 | non | bl (b:Bool) | int (i:Int) | str (x:Str) | byt (b:Array UInt8) | flt (b:UInt64) | ref (a:Addr) | ty (n:String)
 deriving DecidableEq
def RelV:V→Value→Prop
 | .non,u=>u=Value.none
 | .bl b,u=>u=Value.bool b
 | .int i,u=>∃t,u=Value.int i t
 | .str x,u=>∃t,u=Value.str x t
 | .byt b,u=>∃t,u=Value.bytes b t
 | .flt b,u=>∃t,u=Value.float b t
 | .ref a,u=>u=Value.ref a
 | .ty n,u=>u=Value.type n
abbrev Vals:List V→List Value→Prop:=Paired RelV
theorem Vals.length {xs:List V}{us:List Value}(r:Vals xs us):xs.length=us.length:=Paired.length r
theorem Vals.get:∀{xs:List V} {us:List Value} {i:Nat} {x:V},Vals xs us→xs[i]?=some x→∃u,us[i]?=some u∧RelV x u
 | _,_,_,_,.nil,e=>by simp at e
 | _,_,0,_,.cons r _,e=>by simp at e;subst e;exact⟨_,rfl,r⟩
 | _, _, i + 1, x, .cons _ t, e => by
   obtain⟨u,h1,h2⟩:=Vals.get (i:=i) (x:=x) t (by simpa using e);exact⟨u,by simpa using h1,h2⟩
theorem Vals.set {x:V}{u:Value}(r:RelV x u):∀{xs:List V} {us:List Value} (i:Nat),Vals xs us→Vals (xs.set i x) (us.set i u)
 | _,_,_,.nil=>.nil
 | _,_,0,.cons _ t=>.cons r t
 | _,_,i + 1,.cons q t=>.cons q (Vals.set r i t)
theorem Vals.append:∀{xs ys:List V} {us ws:List Value},Vals xs us→Vals ys ws→Vals (xs++ys) (us++ws)
 | _,_,_,_,.nil,s=>s
 | _,_,_,_,.cons r t,s=>.cons r (Vals.append t s)
theorem Vals.take:∀{xs:List V} {us:List Value} (n:Nat),Vals xs us→Vals (xs.take n) (us.take n)
 | _,_,0,_=>.nil
 | _,_,_ + 1,.nil=>.nil
 | _,_,n + 1,.cons r t=>.cons r (Vals.take n t)
theorem Vals.drop:∀{xs:List V} {us:List Value} (n:Nat),Vals xs us→Vals (xs.drop n) (us.drop n)
 | _,_,0,r=>r
 | _,_,_ + 1,.nil=>.nil
 | _,_,n + 1,.cons _ t=>Vals.drop n t
def RelO:Option V→Option Value→Prop
 | some v,some u=>RelV v u
 | none,none=>True
 | _,_=>False
def KV {κ:Type}:List (κ×V)→List (κ×Value)→Prop:=Paired fun(p:κ×V) (q:κ×Value)=>p.1=q.1∧RelV p.2 q.2
def kV:Key→V
 | .inl i=>.int i
 | .inr x=>.str x
inductive HO where
 /-- a list -/
 | lst (xs:List V)
 /-- a tuple (never changes) -/
 | tup (xs:List V)
 /-- a dict whose keys are ints and a2Y; one whose keys are tuples of ints and a2Y (the empty one is both) -/
 | dK (kvs:List (Key×V)) | dT (kvs:List (List Key×V))
 /-- a set of ints: its members, its size -/
 | set (S:Key→Bool) (n:Nat)
 /-- an instance of the class at C, its dict at dx, its attributes -/
 | ins (C dx:Addr) (fs:List (Str×V))
 /-- the dict of the instance at x -/
 | own (x:Addr)
 /-- the dict of an exception -/
 | xd (fs:List (Str×V))
 /-- a bound method, f of x -/
 | met (f x:Addr)
 /-- a range object lo, lo + 1, .. below hi -/
 | rng (lo hi:Int)
 /-- a thing that is known to the object (the script; a dict while a loop walks it): read, never written while it is so -/
 | frz (o:Obj) (u:HO)
 /-- a code object's table -/
 | tbl (ps:Array Value)
 /-- any other thing, by what is true of its one object (a def of one's own: SetO a S n := HO.ext fun h => ..) -/
 | ext (φ:Heap→Prop)
abbrev Hp:=Addr→Option HO
def upd (H:Hp)(a:Addr)(o:HO):Hp:=fun b=>if b=a then some o else H b
theorem a0g {H:Hp}{a:Addr}{o:HO}:upd H a o a=some o:=by unfold upd;rw [if_pos rfl]
theorem a0j {H:Hp}{a b:Addr}{o:HO}(h:b≠a):upd H a o b=H b:=by unfold upd;rw [if_neg h]
theorem a4R {H:Hp}{a:Addr}{o u:HO}:upd (upd H a o) a u=upd H a u:=by
 funext b;unfold upd;split <;> rfl
theorem ne_of {H:Hp}{a b:Addr}{o u:HO}(h:H a=some o)(h':H b=some u)(d:o≠u):a≠b:=by
 intro e;subst e;rw [h] at h';exact d (Option.some.inj h')
theorem a0H {H:Hp}{a b:Addr}{o:HO}(h:H a=some o)(h':H b=none):a≠b:=by
 intro e;subst e;rw [h] at h';cases h'
def a2w (h:Heap)(a:Addr)(items:Array Value):Prop:=∃o,h.get? a=some o∧(o.cls,o.dict)=(Value.type "tuple",none)∧∃n,o.data=.seq items n
theorem a2w.is {h:Heap}{a:Addr}{items:Array Value}(x:a2w h a items):IsTup h a items:=let ⟨o,e,c,r⟩:=x;⟨o,e,(Prod.mk.inj c).1,r⟩
theorem a2w.lt {h:Heap}{a:Addr}{items:Array Value}(x:a2w h a items):a < h.objs.size:=let ⟨_,e,_⟩:=x;Heap.lt_size e
theorem a2w.new (h:Heap)(items:Array Value):a2w (h.push { cls:=.type "tuple",data:=.seq items }) h.objs.size items:=⟨_,Heap.get?_push_size _ rfl,rfl,_,rfl⟩
section
variable (P:Program)(w:World)
def a0X (H:Hp)(h:Heap)(a:Addr):HO→Prop
 | .lst xs=>xs.length≤sizeLine∧∃(its:List Value) (n:Nat),Vals xs its∧h.get? a=some { cls:=.type "list",data:=.seq its.toArray n }
 | .tup xs=>xs.length≤sizeLine∧∃its:List Value,Vals xs its∧a2w h a its.toArray
 | .dK kvs=>kvs.length≤sizeLine∧(a == sysModules)=false∧∃vs,KV kvs vs∧h.DictOf (a0s P w) a vs
 | .dT kvs=>kvs.length≤sizeLine∧(a == sysModules)=false∧∃xs:List (List Key×Addr×Value),
     Paired (fun(p:List Key×V) (q:List Key×Addr×Value)=>p.1=q.1∧H q.2.1=some (.tup (p.1.map kV))∧RelV p.2 q.2.2) kvs xs∧
     ∃o es ep,h.get? a=some o∧o.ExactDict∧o.data=.dict es ep∧es.toList=xs.map (entryOfKey (tupleKind (a0s P w)))∧(xs.map (·.1)).Nodup
 | .set S n=>h.SetOf (a0s P w) a S n
 | .ins C dx fs=>H dx=some (.own a)∧fs.length≤1000∧dx≠a∧h.get? a=some (PySem.W.instObj C dx)∧
     ∃mA,h.Ns1 dx mA∧(∀f,RelO (fs.lookup f) (mA f))∧PySem.Within mA (fs.map (·.1))
 | .own _=>∃o,h.get? a=some o
 | .xd fs=>∃mA,h.Ns1 a mA∧∀f,RelO (fs.lookup f) (mA f)
 | .rng lo hi=>∃t u v,h.get? a=some { cls:=.type "range",data:=.fields #[.int lo t,.int hi u,.int 1 v] }
 | .frz o u=>h.get? a=some o∧a0X H h a u
 | .tbl ps=>h.get? a=some { cls:=.none,data:=.fields ps }
 | .met f x=>h.get? a=some (PySem.W.methodObj (.ref f) (.ref x))
 | .ext φ=>φ h∧(∃o,h.get? a=some o)∧∀h1 h2:Heap,φ h1→(∀o,h1.get? a=some o→h2.get? a=some o)→φ h2
def HOk (H:Hp)(h:Heap):Prop:=∀a o,H a=some o→a0X P w H h a o
end
section
variable {P:Program}{w:World}{H H':Hp}{h h':Heap}{a:Addr}{o:HO}
theorem a0X.lt (x:a0X P w H h a o):a < h.objs.size:=by
 cases o with
 | lst xs=>obtain⟨_,_,_,_,e⟩:=x;exact Heap.lt_size e
 | tup xs=>obtain⟨_,_,_,p⟩:=x;exact p.lt
 | dK kvs=>obtain⟨_,_,_,_,o,_,_,e,_⟩:=x;exact Heap.lt_size e
 | dT kvs=>obtain⟨_,_,_,_,o,_,_,e,_⟩:=x;exact Heap.lt_size e
 | set S n=>obtain⟨o,_,_,_,e,_⟩:=x;exact Heap.lt_size e
 | ins C dx fs=>obtain⟨_,_,_,e,_⟩:=x;exact Heap.lt_size e
 | own y=>obtain⟨_,e⟩:=x;exact Heap.lt_size e
 | xd fs=>obtain⟨_,⟨_,_,_,e,_⟩,_⟩:=x;exact Heap.lt_size e
 | rng lo hi=>obtain⟨_,_,_,e⟩:=x;exact Heap.lt_size e
 | frz ob u=>obtain⟨e,_⟩:=x;exact Heap.lt_size e
 | tbl ps=>exact Heap.lt_size (show h.get? a=some _ from x)
 | met f y=>exact Heap.lt_size (show h.get? a=some _ from x)
 | ext φ=>obtain⟨_,⟨_,e⟩,_⟩:=x;exact Heap.lt_size e
theorem Paired.mapP {α β:Type}{F G:α→β→Prop}:∀{l₁:List α} {l₂:List β},Paired F l₁ l₂→(∀a b,F a b→G a b)→Paired G l₁ l₂
 | _,_,.nil,_=>.nil
 | _,_,.cons r t,f=>.cons (f _ _ r) (Paired.mapP t f)
theorem Paired.imp' {α β:Type}{F G:α→β→Prop}(f:∀a b,F a b→G a b){l₁:List α}{l₂:List β}(r:Paired F l₁ l₂):Paired G l₁ l₂:=Paired.mapP r f
theorem a0X.stay (x:a0X P w H h a o)(k:∀b u,(b=a∨H b=some (.own a))→h.get? b=some u→h'.get? b=some u)
   (ho:∀b,H b=some (.own a)→H' b=some (.own a)) (ht:∀b xs,H b=some (.tup xs)→H' b=some (.tup xs)):a0X P w H' h' a o:=by
 induction o with
 | lst xs=>obtain⟨z,its,n,r,e⟩:=x;exact⟨z,its,n,r,k _ _ (.inl rfl) e⟩
 | tup xs=>obtain⟨z,its,r,ob,e,c⟩:=x;exact⟨z,its,r,ob,k _ _ (.inl rfl) e,c⟩
 | dK kvs=>obtain⟨z,y,vs,r,ob,es,ep,e,c⟩:=x;exact⟨z,y,vs,r,ob,es,ep,k _ _ (.inl rfl) e,c⟩
 | dT kvs =>
   obtain⟨z,y,xs,r,ob,es,ep,e,c⟩:=x;exact⟨z,y,xs,Paired.mapP r fun p q z=>⟨z.1,ht _ _ z.2.1,z.2.2⟩,ob,es,ep,k _ _ (.inl rfl) e,c⟩
 | set S n=>obtain⟨ob,es,ep,t,e,c⟩:=x;exact⟨ob,es,ep,t,k _ _ (.inl rfl) e,c⟩
 | ins C dx fs =>
   obtain⟨d,z,ne,e,mA,⟨od,es,ep,e2,c⟩,r⟩:=x;exact⟨ho _ d,z,ne,k _ _ (.inl rfl) e,mA,⟨od,es,ep,k _ _ (.inr d) e2,c⟩,r⟩
 | own y=>obtain⟨ob,e⟩:=x;exact⟨ob,k _ _ (.inl rfl) e⟩
 | xd fs=>obtain⟨mA,⟨od,es,ep,e,c⟩,r⟩:=x;exact⟨mA,⟨od,es,ep,k _ _ (.inl rfl) e,c⟩,r⟩
 | rng lo hi=>obtain⟨t,u,v,e⟩:=x;exact⟨t,u,v,k _ _ (.inl rfl) e⟩
 | frz ob u ih=>obtain⟨e,q⟩:=x;exact⟨k _ _ (.inl rfl) e,ih q⟩
 | tbl ps =>
   have e:h.get? a=some { cls:=.none,data:=.fields ps }:=x;show h'.get? a=some { cls:=.none,data:=.fields ps };exact k a _ (.inl rfl) e
 | met f y =>
   have e:h.get? a=some (PySem.W.methodObj (.ref f) (.ref y)):=x;show h'.get? a=some (PySem.W.methodObj (.ref f) (.ref y));exact k a _ (.inl rfl) e
 | ext φ=>obtain⟨p,⟨o,e⟩,st⟩:=x;exact⟨st _ _ p fun o q=>k _ _ (.inl rfl) q,⟨o,k _ _ (.inl rfl) e⟩,st⟩
theorem HOk.lt (x:HOk P w H h)(e:H a=some o):a < h.objs.size:=(x a o e).lt
theorem HOk.fresh (x:HOk P w H h)(e:h.objs.size≤a):H a=none:=by
 cases q:H a with
 | none=>rfl
 | some u=>exact absurd (Nat.lt_of_lt_of_le (x.lt q) e) (Nat.lt_irrefl _)
theorem HOk.kept (x:HOk P w H h)(k:∀b u,h.get? b=some u→h'.get? b=some u):HOk P w H h':=fun a o e=>
 (x a o e).stay (fun b u _ q=>k b u q) (fun _ q=>q) fun _ _ q=>q
theorem HOk.laid (x:HOk P w H h)(k:∀b u,h.get? b=some u→h'.get? b=some u)(hp:h.objs.size≤a)(new:a0X P w (upd H a o) h' a o):HOk P w (upd H a o) h':=fun b u e=>by
 have hn:=x.fresh hp
 by_cases hb:b=a
 · subst hb;rw [a0g] at e;cases e;exact new
 · rw [a0j hb] at e;exact(x b u e).stay (fun c v _ q=>k c v q) (fun c q=>by rw [a0j (a0H q hn)];exact q) fun c xs q=>by rw [a0j (a0H q hn)];exact q
end
def Rd (H:Hp)(a:Addr)(u:HO):Prop:=H a=some u∨∃o,H a=some (.frz o u)
theorem Rd.ok {P:Program}{w:World}{H:Hp}{h:Heap}{a:Addr}{u:HO}(r:Rd H a u)(x:HOk P w H h):a0X P w H h a u:=by
 rcases r with r | ⟨o,r⟩
 · exact x a u r
 · obtain⟨_,q⟩:=x a _ r;exact q
def Mut:Option HO→Prop
 | some (.lst _)=>True
 | some (.dK _)=>True
 | some (.dT _)=>True
 | some (.set _ _)=>True
 | some (.ins _ _ _)=>True
 | some (.ext _)=>True
 | _=>False
section
variable {P:Program}{w:World}{H:Hp}{h h':Heap}{x e:Addr}{o':HO}
theorem HOk.write (ok:HOk P w H h)(mu:Mut (H x))(he:e=x∨H e=some (.own x))(k:∀b u,b≠e→h.get? b=some u→h'.get? b=some u)(heo:∃u,h'.get? e=some u)
   (new:a0X P w (upd H x o') h' x o'):HOk P w (upd H x o') h':=fun b u q=>by
 have nown:∀c y,H c=some (.own y)→c≠x:=fun c y r z=>by subst z;rw [r] at mu;exact mu
 have ntup:∀c xs,H c=some (.tup xs)→c≠x:=fun c xs r z=>by subst z;rw [r] at mu;exact mu
 by_cases hb:b=x
 · subst hb;rw [a0g] at q;cases q;exact new
 · rw [a0j hb] at q
   by_cases hbe:b=e
   · have q':H b=some (.own x):=by
       rcases he with z | z
       · exact absurd (hbe.trans z) hb
       · rw [hbe];exact z
     rw [q] at q';cases q';obtain⟨v,hv⟩:=heo;exact⟨v,by rw [hbe];exact hv⟩
   · refine(ok b u q).stay (fun c v hc r=>k c v ?_ r) (fun c r=>by rw [a0j (nown c b r)];exact r) fun c xs r=>by rw [a0j (ntup c xs r)];exact r
     rcases hc with rfl | hc
     · exact hbe
     · rintro rfl;rcases he with z | z
       · exact nown c b hc z
       · rw [hc] at z;cases z;exact hb rfl
end
def NS (H:Hp):Prop:=H sysModules=none∨∃o u,H sysModules=some (.frz o u)
structure Un (fs ex:List Addr)(H H':Hp)(h h':Heap):Prop where
 keep:∀b o,h.get? b=some o→H b=none→b∉fs→b∉ex→h'.get? b=some o
 slot:∀b o,h.get? b=some o→H b=none→b∈fs→b∉ex→∃sl,h'.get? b=some { o with slots:=sl }
 free:∀b o,h.get? b=some o→H b=none→b∉ex→H' b=none
 there:∀b o,h.get? b=some o→b∉ex→∃o',h'.get? b=some o'
 tups:∀b xs,H b=some (.tup xs)→H' b=some (.tup xs)
 frzs:∀b o u,H b=some (.frz o u)→H' b=some (.frz o u)
 tbls:∀b ps,H b=some (.tbl ps)→∃more,H' b=some (.tbl (ps++more))
 sys:NS H→NS H'
section
variable {fs fs' ex ex':List Addr}{H H1 H2:Hp}{h h1 h2 h':Heap}{a x e:Addr}{o:HO}
theorem Un.any (u:Un fs ex H H1 h h1){b:Addr}{ob:Obj}(q:h.get? b=some ob)(n:H b=none)(hx:b∉ex):∃sl,h1.get? b=some { ob with slots:=sl }:=by
 by_cases hb:b∈fs
 · exact u.slot b ob q n hb hx
 · exact⟨ob.slots,u.keep b ob q n hb hx⟩
theorem Un.kept (k:∀b u,h.get? b=some u→h'.get? b=some u):Un fs ex H H h h':=
 ⟨fun b ob q _ _ _=>k b ob q,fun b ob q _ _ _=>⟨ob.slots,k b ob q⟩,fun _ _ _ n _=>n,fun b ob q _=>⟨ob,k b ob q⟩,fun _ _ q=>q,fun _ _ _ q=>q,fun _ ps q=>⟨#[],by rw [q];simp⟩,fun z=>z⟩
theorem Un.refl:Un fs ex H H h h:=Un.kept fun _ _ q=>q
theorem Un.laid (k:∀b u,h.get? b=some u→h'.get? b=some u)(hp:h.objs.size≤a)(hn:H a=none)(hy:sysModules < h.objs.size):Un fs ex H (upd H a o) h h' where
 keep:=fun b u q _ _ _=>k b u q
 slot:=fun b u q _ _ _=>⟨u.slots,k b u q⟩
 free:=fun b u q n _=>by rw [a0j (Nat.ne_of_lt (Nat.lt_of_lt_of_le (Heap.lt_size q) hp))];exact n
 there:=fun b u q _=>⟨u,k b u q⟩
 tups:=fun b xs q=>by rw [a0j (a0H q hn)];exact q
 frzs:=fun b u xs q=>by rw [a0j (a0H q hn)];exact q
 tbls:=fun b ps q=>⟨#[],by rw [a0j (a0H q hn),q];simp⟩
 sys:=fun z=>by unfold NS;rw [a0j (Nat.ne_of_lt (Nat.lt_of_lt_of_le hy hp))];exact z
theorem Un.write (mu:Mut (H x))(he:e=x∨H e=some (.own x))(k:∀b u,b≠e→h.get? b=some u→h'.get? b=some u)(heo:∃u,h'.get? e=some u):Un fs ex H (upd H x o) h h':=by
 have hx:∀b,H b=none→b≠x:=fun b n z=>by subst z;rw [n] at mu;exact mu
 have hb:∀b,H b=none→b≠e:=fun b n z=>by
   subst z;rcases he with r | r
   · exact hx b n r
   · rw [n] at r;cases r
 have hm:∀b u,H b=some u→¬Mut (some u)→b≠x:=fun b u q nm z=>by subst z;rw [q] at mu;exact nm mu
 refine⟨fun b u q n _ _=>k b u (hb b n) q,fun b u q n _ _=>⟨u.slots,k b u (hb b n) q⟩,fun b u q n _=>by rw [a0j (hx b n)];exact n,fun b u q _=>?_,
   fun b xs q=>by rw [a0j (hm b _ q fun z=>z)];exact q,fun b u xs q=>by rw [a0j (hm b _ q fun z=>z)];exact q,fun b ps q=>⟨#[],by rw [a0j (hm b _ q fun z=>z),q];simp⟩,fun z=>by
     rcases z with z | ⟨ob,u,z⟩
     · exact .inl (by rw [a0j (hx _ z)];exact z)
     · exact .inr ⟨ob,u,by rw [a0j (hm _ _ z fun z=>z)];exact z⟩⟩
 by_cases hbe:b=e
 · subst hbe;exact heo
 · exact⟨u,k b u hbe q⟩
end
def trk (h:Heap)(H:Hp):List Addr:=(List.range h.objs.size).filter fun a=>(H a).isSome
def hidT (h:Heap)(H:Hp):Heap:=PySem.W.hideAll h (trk h H)
theorem b0n (h:Heap)(H:Hp):(hidT h H).objs.size=h.objs.size:=PySem.W.hideAll_size _ _
theorem b2b {h:Heap}{H:Hp}{b:Addr}{o:Obj}(e:h.get? b=some o)(n:H b=none):(hidT h H).get? b=some o:=
 PySem.W.hideAll_get _ e fun hm=>by
   have q:(H b).isSome=true:=(List.mem_filter.mp hm).2;rw [n] at q;simp at q
theorem b3K {h:Heap}{H:Hp}{b:Addr}{o:Obj}(e:(hidT h H).get? b=some o):h.get? b=some o∧H b=none:=by
 have e':h.get? b=some o:=PySem.W.of_hideAll (trk h H) e;refine⟨e',?_⟩;cases q:H b with
 | none=>rfl
 | some x =>
   have hm:b∈trk h H:=List.mem_filter.mpr ⟨List.mem_range.mpr (Heap.lt_size e'),by simp [q]⟩;have z:(hidT h H).get? b=none:=PySem.W.hideAll_none (trk h H) hm;rw [z] at e;cases e
def b4w (g h:Heap)(L:Addr):List (Addr×Obj):=(List.range h.objs.size).filterMap fun a=>if a=L∨(g.get? a).isSome=true then none else(h.get? a).map fun o=>(a,o)
def rest (g h:Heap)(L d:Addr):List (Addr×Obj):=(b4w g h L).filter fun p=>decide (p.1≠d)
end L2
namespace L2
open PySem PySem.Spec PyProof.Rows
structure Mod (K:PySem.W.Frag)(mg:Str→Option Value)(base:Heap):Prop where
 kin:K.In base
 glob:base.Ns mainGlobals mg
 blt:∃mb,base.Ns builtinsNs mb∧∀x:Str,x≠"__name__"→mb x=bootBuiltins x
 nolimit:base.NoLimit
structure Cx where
 prog:Program
 w:World
 K:PySem.W.Frag
 mg:Str→Option Value
 base:Heap
 A:Around
 N:List Str
 s₀:Shared
 H₀:Hp
 env:Env
 outer:List Env
 stack:List Env
 ex:List Addr
 fn:Str→Bool
 calm:Bool
 pn:List (Addr×Obj)
 xe:Value→Shared→Prop
def frs (l:List Env):List Addr:=l.filterMap (·.frame)
abbrev Cx.fs (X:Cx):List Addr:=frs X.outer
def Vis (sc:Scope)(x:Str):Prop:=sc.names.lookup x=some .local∨sc.names.lookup x=some .cell∨sc.names.lookup x=some .free
def Loc (sc:Scope)(x:Str):Prop:=sc.names.lookup x=some .local∨sc.names.lookup x=some .cell
def Look (env:Env)(h:Heap)(m:Str→Option Value)(x:Str)(u:Value):Prop:=
 (env.kindOf x=some .local∧m x=some u)∨((env.kindOf x=some .cell∨env.kindOf x=some .free)∧∃c,env.cells.lookup x=some c∧h.IsCell c (some u))
structure Cx.Ok (X:Cx):Prop where
 mod:Mod X.K X.mg X.base
 kind:X.env.scope.kind=.function
 glob:X.env.globals=mainGlobals
 blt:X.env.builtins=builtinsNs
 above:X.s₀.heap.objs.size≤X.env.locals
 inj:∀x y c,X.env.cells.lookup x=some c→X.env.cells.lookup y=some c→x=y
 has:∀x,(X.env.kindOf x=some .cell∨X.env.kindOf x=some .free)→∃c,X.env.cells.lookup x=some c
 cab:∀x c,X.fn x=true→X.env.cells.lookup x=some c→X.s₀.heap.objs.size≤c
 hd:X.calm=true→X.A.handled=none
 frames:X.A.frames=some X.stack
 stk:X.stack=X.outer∨(X.stack=X.env::X.outer∧X.env.frame=some X.env.locals)
 exf:∀b∈X.ex,b≠X.env.locals∧∀x c,X.env.cells.lookup x=some c→c≠b
 bs:∀b o,X.base.get? b=some o→X.s₀.heap.get? b=some o∧X.H₀ b=none
 bsz:X.base.objs.size≤X.s₀.heap.objs.size
 noex:∀b o,X.base.get? b=some o→b∉X.ex
 exfs:∀b∈X.ex,b∉X.fs
 funs:X.s₀.heap.FunFrames X.base X.outer
 frf:∀b∈X.fs,X.H₀ b=none
 nos:NS X.H₀
structure Inv (X:Cx)(pins:List (Addr×Obj))(σ:List (Option V))(H:Hp)(s:Shared):Prop where
 ok:X.Ok
 os:s.os=X.s₀.os
 bare:AllBare s.gens
 base:Un X.fs X.ex X.H₀ H X.s₀.heap s.heap
 loc:∃m,s.heap.Ns X.env.locals m∧∀(i:Nat) (x:Str) (v:V),X.N[i]?=some x→σ[i]?=some (some v)→Vis X.env.scope x→∃u,RelV v u∧Look X.env s.heap m x u
 cell:∀x c,X.env.cells.lookup x=some c→∃v,s.heap.IsCell c v
 free:H X.env.locals=none
 freeC:∀x c,X.env.cells.lookup x=some c→H c=none
 pin:∀p∈X.pn++pins,s.heap.get? p.1=some p.2∧H p.1=none∧p.1≠X.env.locals∧p.1∉X.fs∧∀v,p.2.data≠.cell v
 hok:HOk X.prog X.w H s.heap
 len:σ.length=X.N.length
section
variable {X:Cx}{pins:List (Addr×Obj)}{σ:List (Option V)}{H H':Hp}{s:Shared}{h':Heap}
theorem Cx.Ok.nofr (ok:X.Ok){b:Addr}{o:Obj}(e:X.base.get? b=some o):b∉X.fs:=fun hb=>by
 have:=(ok.funs.mem hb).1;rw [e] at this;cases this
theorem Inv.bs (I:Inv X pins σ H s):∀b o,X.base.get? b=some o→s.heap.get? b=some o∧H b=none:=fun b o e=>
 ⟨I.base.keep b o (I.ok.bs b o e).1 (I.ok.bs b o e).2 (I.ok.nofr e) (I.ok.noex b o e),I.base.free b o (I.ok.bs b o e).1 (I.ok.bs b o e).2 (I.ok.noex b o e)⟩
theorem Inv.bk (I:Inv X pins σ H s):∀b o,X.base.get? b=some o→s.heap.get? b=some o:=fun b o e=>(I.bs b o e).1
theorem Inv.mod (I:Inv X pins σ H s):Mod X.K X.mg X.base:=I.ok.mod
theorem Inv.nos (I:Inv X pins σ H s):NS H:=I.base.sys I.ok.nos
theorem Inv.bigS (I:Inv X pins σ H s):sysModules < s.heap.objs.size:=Nat.lt_trans (by decide) (I.mod.glob.keeps I.bk).lt
theorem Inv.kIn (I:Inv X pins σ H s):X.K.In s.heap:=I.ok.mod.kin.keeps I.bk
theorem Inv.nolimit (I:Inv X pins σ H s):s.heap.NoLimit:=I.ok.mod.nolimit.keeps I.bk
theorem Inv.lt (I:Inv X pins σ H s):X.env.locals < s.heap.objs.size:=let ⟨_,hn,_⟩:=I.loc;hn.lt
theorem Inv.sz (I:Inv X pins σ H s):X.s₀.heap.objs.size≤s.heap.objs.size:=Nat.le_trans I.ok.above (Nat.le_of_lt I.lt)
theorem Inv.nofs (I:Inv X pins σ H s){a:Addr}(h:s.heap.objs.size≤a):a∉X.fs:=fun hb=>by
 obtain⟨_,o,ho,_⟩:=I.ok.funs.mem hb;exact absurd (Nat.lt_of_lt_of_le (Heap.lt_size ho) (Nat.le_trans I.sz h)) (Nat.lt_irrefl _)
theorem Inv.cne (I:Inv X pins σ H s):∀x c,X.env.cells.lookup x=some c→c≠X.env.locals:=fun x c e z=>by
 obtain⟨v,o,ho,hd⟩:=I.cell x c e;obtain⟨m,⟨o',es,ep,ho',hd',_⟩,_⟩:=I.loc;rw [z,ho'] at ho;cases ho;rw [hd'] at hd;cases hd
theorem Inv.funs (I:Inv X pins σ H s):s.heap.FunFrames X.base X.outer:=by
 have all:∀(l:List Env),(∀b∈frs l,b∈X.fs)→X.s₀.heap.FunFrames X.base l→s.heap.FunFrames X.base l:=by
   intro l
   induction l with
   | nil=>intro _ _;trivial
   | cons env r ih =>
     intro hs hl;obtain⟨hk,⟨L,o,hf,hn,ho,hd⟩,hr⟩:=hl;have hL:L∈X.fs:=hs L (by unfold frs;rw [List.filterMap_cons,hf];exact List.mem_cons_self);obtain⟨sl,e⟩:=I.base.slot L o ho (I.ok.frf L hL) hL fun z=>I.ok.exfs L z hL;exact⟨hk,⟨L,_,hf,hn,e,hd⟩,ih (fun b hb=>hs b (by unfold frs;rw [List.filterMap_cons,hf];exact List.mem_cons_of_mem _ hb)) hr⟩
 exact all X.outer (fun _ hb=>hb) I.ok.funs
theorem Inv.stack (I:Inv X pins σ H s):s.heap.FunFrames X.base X.stack:=by
 rcases I.ok.stk with e | ⟨e,hf⟩
 · rw [e];exact I.funs
 · rw [e];obtain⟨m,hn,_⟩:=I.loc;refine .cons (by rw [I.ok.kind];decide) hf hn ?_ I.funs;exact Heap.get?_none_of_le (Nat.le_trans I.ok.bsz I.ok.above)
theorem Inv.stkSub (I:Inv X pins σ H s):∀b∈frs X.stack,b∈X.env.locals::X.fs:=fun b hb=>by
 rcases I.ok.stk with e | ⟨e,hf⟩
 · rw [e] at hb;exact List.mem_cons_of_mem _ hb
 · rw [e] at hb;unfold frs at hb;rw [List.filterMap_cons,hf] at hb;exact hb
theorem Inv.stkFree (I:Inv X pins σ H s):∀b∈frs X.stack,H b=none:=fun b hb=>by
 rcases List.mem_cons.mp (I.stkSub b hb) with e | hb
 · rw [e];exact I.free
 · obtain⟨_,o,ho,_⟩:=I.ok.funs.mem hb;exact I.base.free b o ho (I.ok.frf b hb) fun z=>I.ok.exfs b z hb
theorem Inv.step {g':Array GenState}{t':Nat}{d':Drawn}{ch:List Addr}(I:Inv X pins σ H s)
   (hch:∀b∈ch,(b∈X.ex∨X.s₀.heap.objs.size≤b)∧b≠X.env.locals∧(∀x c,X.env.cells.lookup x=some c→c≠b)∧∀p∈X.pn++pins,p.1≠b)
   (keep:∀b o,b≠X.env.locals→b∉X.fs→b∉ch→s.heap.get? b=some o→H b=none→h'.get? b=some o)
   (slot:∀b o,b≠X.env.locals→b∈X.fs→b∉ch→s.heap.get? b=some o→H b=none→∃sl,h'.get? b=some { o with slots:=sl }) (free:∀b o,b∉ch→s.heap.get? b=some o→H b=none→H' b=none)
   (there:∀b o,b∉ch→s.heap.get? b=some o→∃o',h'.get? b=some o')
   (tups:∀b xs,H b=some (.tup xs)→H' b=some (.tup xs)) (frzs:∀b o u,H b=some (.frz o u)→H' b=some (.frz o u)) (tbls:∀b ps,H b=some (.tbl ps)→∃more,H' b=some (.tbl (ps++more))) (sys:NS H→NS H')
   (ns:∀m,s.heap.Ns X.env.locals m→h'.Ns X.env.locals m) (hok:HOk X.prog X.w H' h') (hg:AllBare g') :
   Inv X pins σ H' { s with heap:=h',gens:=g',drawn:=d',toks:=t' }:=by
 have neL:∀b o,X.s₀.heap.get? b=some o→b≠X.env.locals:=fun b o e=>Nat.ne_of_lt (Nat.lt_of_lt_of_le (Heap.lt_size e) I.ok.above)
 have neC:∀b o,X.s₀.heap.get? b=some o→b∉X.ex→b∉ch:=fun b o e hx hb=>by
   rcases(hch b hb).1 with z | z
   · exact hx z
   · exact absurd (Nat.lt_of_lt_of_le (Heap.lt_size e) z) (Nat.lt_irrefl _)
 have cellK:∀x c,X.env.cells.lookup x=some c→∀v,s.heap.IsCell c v→h'.IsCell c v:=fun x c e v ⟨o,ho,hd⟩=>by
   have nch:c∉ch:=fun z=>(hch c z).2.2.1 x c e rfl
   by_cases hc:c∈X.fs
   · obtain⟨sl,q⟩:=slot c o (I.cne x c e) hc nch ho (I.freeC x c e);exact⟨_,q,hd⟩
   · exact⟨o,keep c o (I.cne x c e) hc nch ho (I.freeC x c e),hd⟩
 refine⟨I.ok,I.os,hg,⟨fun b o e n hb hx=>?_,fun b o e n hb hx=>?_,fun b o e n hx=>?_,fun b o e hx=>?_,fun b xs e=>tups b xs (I.base.tups b xs e),fun b o xs e=>frzs b o xs (I.base.frzs b o xs e),fun b ps e=>?_,fun z=>sys (I.base.sys z)⟩,?_,fun x c e=>?_,?_,fun x c e=>?_,fun p hp=>?_,hok,I.len⟩
 · exact keep b o (neL b o e) hb (neC b o e hx) (I.base.keep b o e n hb hx) (I.base.free b o e n hx)
 · obtain⟨sl,e1⟩:=I.base.slot b o e n hb hx;obtain⟨sl',e2⟩:=slot b _ (neL b o e) hb (neC b o e hx) e1 (I.base.free b o e n hx);exact⟨sl',e2⟩
 · obtain⟨o',e1⟩:=I.base.there b o e hx;exact free b o' (neC b o e hx) e1 (I.base.free b o e n hx)
 · obtain⟨o',e1⟩:=I.base.there b o e hx;exact there b o' (neC b o e hx) e1
 · obtain⟨m1,e1⟩:=I.base.tbls b ps e;obtain⟨m2,e2⟩:=tbls b _ e1;exact⟨m1++m2,by rw [e2,Array.append_assoc]⟩
 · obtain⟨m,hn,hl⟩:=I.loc;refine⟨m,ns m hn,fun i x v e1 e2 e3=>?_⟩;obtain⟨u,r,l⟩:=hl i x v e1 e2 e3;refine⟨u,r,?_⟩;rcases l with l | ⟨k,c,e,z⟩
   · exact .inl l
   · exact .inr ⟨k,c,e,cellK x c e _ z⟩
 · obtain⟨v,z⟩:=I.cell x c e;exact⟨v,cellK x c e v z⟩
 · obtain⟨m,⟨o,_,_,ho,_⟩,_⟩:=I.loc;exact free _ o (fun z=>(hch _ z).2.1 rfl) ho I.free
 · obtain⟨v,o,ho,hd⟩:=I.cell x c e;exact free c o (fun z=>(hch c z).2.2.1 x c e rfl) ho (I.freeC x c e)
 · obtain⟨e,n,ne,nf,d⟩:=I.pin p hp;have nch:p.1∉ch:=fun z=>(hch p.1 z).2.2.2 p hp rfl;exact⟨keep p.1 p.2 ne nf nch e n,free p.1 p.2 nch e n,ne,nf,d⟩
theorem Inv.un {t':Nat}(I:Inv X pins σ H s)(u:Un X.fs [] H H' s.heap h')(hok:HOk X.prog X.w H' h'):Inv X pins σ H' { s with heap:=h',toks:=t' }:=by
 obtain⟨m,⟨o,es,ep,ho,r⟩,_⟩:=id I.loc;obtain⟨sl,hL⟩:=u.any ho I.free (by simp)
 exact I.step (g':=s.gens) (d':=s.drawn) (ch:=[]) (fun _ z=>nomatch z) (fun b o _ hb _ e n=>u.keep b o e n hb (by simp)) (fun b o _ hb _ e n=>u.slot b o e n hb (by simp)) (fun b o _ e n=>u.free b o e n (by simp)) (fun b o _ e=>u.there b o e (by simp)) u.tups u.frzs u.tbls u.sys (fun m' hm=>by
   obtain⟨o',es',ep',ho',r'⟩:=hm;rw [ho] at ho';cases ho'
   exact⟨_,es',ep',hL,r'⟩) hok I.bare
theorem Inv.call {g':Array GenState}{t':Nat}{d':Drawn}{ch:List Addr}(I:Inv X pins σ H s)(u:Un (frs X.stack) ch H H' s.heap h')(hok:HOk X.prog X.w H' h')(hg:AllBare g')
   (hch:∀b∈ch,(b∈X.ex∨X.s₀.heap.objs.size≤b)∧b≠X.env.locals∧(∀x c,X.env.cells.lookup x=some c→c≠b)∧∀p∈X.pn++pins,p.1≠b) :
   Inv X pins σ H' { s with heap:=h',gens:=g',drawn:=d',toks:=t' }:=by
 obtain⟨m,⟨o,es,ep,ho,r⟩,_⟩:=id I.loc;obtain⟨sl,hL⟩:=u.any ho I.free fun z=>(hch _ z).2.1 rfl
 exact I.step (ch:=ch) hch (fun b o hL hb hc e n=>u.keep b o e n (fun z=>(List.mem_cons.mp (I.stkSub b z)).elim hL hb) hc) (fun b o _ _ hc e n=>u.any e n hc) (fun b o hc e n=>u.free b o e n hc) (fun b o hc e=>u.there b o e hc) u.tups u.frzs u.tbls u.sys (fun m' hm=>by
   obtain⟨o',es',ep',ho',r'⟩:=hm;rw [ho] at ho';cases ho'
   exact⟨_,es',ep',hL,r'⟩) hok hg
theorem Inv.turned {t':Nat}{it:Addr}(I:Inv X pins σ H s)(k:∀b o,b≠it→s.heap.get? b=some o→h'.get? b=some o)(hn:H it=none)(hL:it≠X.env.locals)
   (h1:it∈X.ex∨X.s₀.heap.objs.size≤it) (h2:∀x c,X.env.cells.lookup x=some c→c≠it) (h3:∀p∈X.pn++pins,p.1≠it):Inv X pins σ H { s with heap:=h',toks:=t' }:=by
 have nit:∀b u,H b=some u→b≠it:=fun b u e z=>by rw [z,hn] at e;cases e
 refine I.step (g':=s.gens) (d':=s.drawn) (ch:=[it]) (fun b hb=>?_) (fun b o _ _ hc e _=>k b o (fun z=>hc (by simp [z])) e) (fun b o _ _ hc e _=>⟨o.slots,k b o (fun z=>hc (by simp [z])) e⟩) (fun _ _ _ _ n=>n)
   (fun b o hc e=>⟨o,k b o (fun z=>hc (by simp [z])) e⟩) (fun _ _ e=>e) (fun _ _ _ e=>e) (fun b ps e=>⟨#[],by rw [e];simp⟩) (fun z=>z) (fun m hm=>?_) (fun b u e=>?_) I.bare
 · have e:b=it:=by simpa using hb
   subst e;exact⟨h1,hL,h2,h3⟩
 · obtain⟨o,es,ep,ho,r⟩:=hm;exact⟨o,es,ep,k _ o (Ne.symm hL) ho,r⟩
 · refine(I.hok b u e).stay (fun c v hc q=>k c v ?_ q) (fun _ q=>q) fun _ _ q=>q;rcases hc with z | z
   · rw [z];exact nit b u e
   · exact nit c _ z
theorem Inv.tok (I:Inv X pins σ H s)(t:Nat):Inv X pins σ H { s with toks:=t }:=I.un (h':=s.heap) (t':=t) Un.refl I.hok
theorem Inv.kept {t':Nat}(I:Inv X pins σ H s)(k:∀b u,s.heap.get? b=some u→h'.get? b=some u):Inv X pins σ H { s with heap:=h',toks:=t' }:=I.un (Un.kept k) (I.hok.kept k)
theorem Inv.laid {a:Addr}{o:HO}{t':Nat}(I:Inv X pins σ H s)(k:∀b u,s.heap.get? b=some u→h'.get? b=some u)(hp:s.heap.objs.size≤a)(new:a0X X.prog X.w (upd H a o) h' a o) :
   Inv X pins σ (upd H a o) { s with heap:=h',toks:=t' }:=I.un (Un.laid k hp (I.hok.fresh hp) I.bigS) (I.hok.laid k hp new)
theorem Inv.write {x e:Addr}{o:HO}{t':Nat}(I:Inv X pins σ H s)(mu:Mut (H x))(he:e=x∨H e=some (.own x))(k:∀b u,b≠e→s.heap.get? b=some u→h'.get? b=some u)(heo:∃u,h'.get? e=some u)
   (new:a0X X.prog X.w (upd H x o) h' x o):Inv X pins σ (upd H x o) { s with heap:=h',toks:=t' }:=I.un (Un.write mu he k heo) (I.hok.write mu he k heo new)
theorem Inv.pins_of {pins':List (Addr×Obj)}(I:Inv X pins σ H s)(h:∀p∈pins',s.heap.get? p.1=some p.2∧H p.1=none∧p.1≠X.env.locals∧p.1∉X.fs∧∀v,p.2.data≠.cell v):Inv X pins' σ H s:=
 ⟨I.ok,I.os,I.bare,I.base,I.loc,I.cell,I.free,I.freeC,fun p hp=>(List.mem_append.mp hp).elim (fun z=>I.pin p (List.mem_append_left _ z)) (h p),I.hok,I.len⟩
theorem a7w {N:List Str}(hN:N.Nodup){i j:Nat}{x:Str}(a:N[i]?=some x)(b:N[j]?=some x):i=j:=by
 obtain⟨h1,e1⟩:=List.getElem?_eq_some_iff.mp a;obtain⟨h2,e2⟩:=List.getElem?_eq_some_iff.mp b;exact(List.getElem_inj hN).mp (e1.trans e2.symm)
theorem a5y {M:Model}{A:Around}{E:Value→Shared→Prop}{i:Nat}{x:Str}{v:V}{u:Value}{Q:Unit→Shared→Prop}(I:Inv X pins σ H s)(hN:X.N.Nodup)(hi:X.N[i]?=some x)(hx:Loc X.env.scope x)(r:RelV v u)
   (h:∀s',Inv X pins (σ.set i (some v)) H s'→(∃a,Heap.SameBut a s.heap s'.heap∧(a=X.env.locals∨X.env.cells.lookup x=some a))→Q () s') (hf:X.fn x=true∨X.env.scope.names.lookup x=some .local:=by first | exact .inl rfl | exact .inr rfl | assumption):wpAny M A (storeName X.env x u) Q E s:=by
 obtain⟨m,hn,hl⟩:=id I.loc;have hcls:(X.env.scope.kind == .class || (X.env.scope.kind == .module && X.env.locals != X.env.globals))=false:=by rw [I.ok.kind];rfl
 have hiσ:i < σ.length:=by rw [I.len];exact(List.getElem?_eq_some_iff.mp hi).1
 have cne:=I.cne
 have tracked:∀{a:Addr} {h':Heap},(∃o,s.heap.get? a=some o∧H a=none)→Heap.SameBut a s.heap h'→HOk X.prog X.w H h':=fun {a h'} ha hs b ob e=>by
   obtain⟨_,_,hfree⟩:=ha;refine(I.hok b ob e).stay (fun c w' hc q=>(hs.2 c ?_).trans q) (fun _ q=>q) fun _ _ q=>q;rintro rfl;rcases hc with rfl | hc
   · rw [hfree] at e;cases e
   · rw [hfree] at hc;cases hc
 rcases hx with hk | hk
 · refine wpAny_storeName_local hk hn (fun h' hn' hs=>?_) hcls;obtain⟨oL,_,_,hoL,_⟩:=id hn;refine h _ ⟨I.ok,I.os,I.bare,⟨fun b o e n hb hx=>?_,fun b o e n hb hx=>?_,I.base.free,fun b o e hx=>?_,I.base.tups,I.base.frzs,I.base.tbls,I.base.sys⟩,⟨_,hn',fun j y v' e1 e2 e3=>?_⟩,fun y c e=>?_,I.free,I.freeC,fun p hp=>?_,tracked ⟨oL,hoL,I.free⟩ hs,by simpa using I.len⟩ ⟨_,hs,.inl rfl⟩
   · exact(hs.2 b (Nat.ne_of_lt (Nat.lt_of_lt_of_le (Heap.lt_size e) I.ok.above))).trans (I.base.keep b o e n hb hx)
   · obtain⟨sl,e1⟩:=I.base.slot b o e n hb hx;exact⟨sl,(hs.2 b (Nat.ne_of_lt (Nat.lt_of_lt_of_le (Heap.lt_size e) I.ok.above))).trans e1⟩
   · obtain⟨o',e1⟩:=I.base.there b o e hx;exact⟨o',(hs.2 b (Nat.ne_of_lt (Nat.lt_of_lt_of_le (Heap.lt_size e) I.ok.above))).trans e1⟩
   · by_cases hj:j=i
     · subst hj;rw [hi] at e1;cases e1;rw [List.getElem?_set_self hiσ] at e2;cases e2;exact⟨u,r,.inl ⟨hk,by simp⟩⟩
     · rw [List.getElem?_set_ne (Ne.symm hj)] at e2;obtain⟨u',r',q⟩:=hl j y v' e1 e2 e3;refine⟨u',r',?_⟩;rcases q with⟨k,e⟩ | ⟨k,c,e,z⟩
       · refine .inl ⟨k,?_⟩;have:y≠x:=fun e=>hj (a7w hN e1 (e▸hi));simp [this,e]
       · exact .inr ⟨k,c,e,z.sameBut hs (cne y c e)⟩
   · obtain⟨w',z⟩:=I.cell y c e;exact⟨w',z.sameBut hs (cne y c e)⟩
   · obtain⟨e,n,ne,nf,d⟩:=I.pin p hp;exact⟨(hs.2 p.1 ne).trans e,n,ne,nf,d⟩
 · have hfn:X.fn x=true:=by
     rcases hf with z | z
     · exact z
     · rw [z] at hk;cases hk
   obtain⟨c,hc⟩:=I.ok.has x (.inl hk);obtain⟨w',z⟩:=I.cell x c hc;refine wpAny_storeName_cell I.ok.kind hk hc z (fun h' hc' hs=>?_);obtain⟨oc,hoc,hocd⟩:=id z;refine h { s with heap:=h' } ⟨I.ok,I.os,I.bare,⟨fun b o e n hb hx=>?_,fun b o e n hb hx=>?_,I.base.free,fun b o e hx=>?_,I.base.tups,I.base.frzs,I.base.tbls,I.base.sys⟩,⟨m,hn.sameBut hs (Ne.symm (cne x c hc)),fun j y v' e1 e2 e3=>?_⟩,fun y c' e=>?_,I.free,I.freeC,fun p hp=>?_,tracked ⟨oc,hoc,I.freeC x c hc⟩ hs,by simpa using I.len⟩ ⟨c,hs,.inr hc⟩
   · exact(hs.2 b (Nat.ne_of_lt (Nat.lt_of_lt_of_le (Heap.lt_size e) (I.ok.cab x c hfn hc)))).trans (I.base.keep b o e n hb hx)
   · obtain⟨sl,e1⟩:=I.base.slot b o e n hb hx;exact⟨sl,(hs.2 b (Nat.ne_of_lt (Nat.lt_of_lt_of_le (Heap.lt_size e) (I.ok.cab x c hfn hc)))).trans e1⟩
   · obtain⟨o',e1⟩:=I.base.there b o e hx;exact⟨o',(hs.2 b (Nat.ne_of_lt (Nat.lt_of_lt_of_le (Heap.lt_size e) (I.ok.cab x c hfn hc)))).trans e1⟩
   · by_cases hj:j=i
     · subst hj;rw [hi] at e1;cases e1;rw [List.getElem?_set_self hiσ] at e2;cases e2;exact⟨u,r,.inr ⟨.inl hk,c,hc,hc'⟩⟩
     · rw [List.getElem?_set_ne (Ne.symm hj)] at e2;obtain⟨u',r',q⟩:=hl j y v' e1 e2 e3;refine⟨u',r',?_⟩;rcases q with q | ⟨k,c',e,z'⟩
       · exact .inl q
       · refine .inr ⟨k,c',e,z'.sameBut hs ?_⟩;rintro rfl;exact hj (a7w hN e1 (I.ok.inj _ _ _ e hc▸hi))
   · by_cases hcc:c'=c
     · subst hcc;exact⟨_,hc'⟩
     · obtain⟨w2,z2⟩:=I.cell y c' e;exact⟨w2,z2.sameBut hs hcc⟩
   · obtain⟨e,n,ne,nf,d⟩:=I.pin p hp;refine⟨(hs.2 p.1 ?_).trans e,n,ne,nf,d⟩;intro q;rw [q,hoc] at e;have q':oc=p.2:=Option.some.inj e;exact d w' (by rw [← q'];exact hocd)
theorem a3C {M:Model}{A:Around}{E:Value→Shared→Prop}{i:Nat}{x:Str}{v:V}{u:Value}{Q:Unit→Shared→Prop}(I:Inv X pins σ H s)(hN:X.N.Nodup)(hi:X.N[i]?=some x)(hx:Loc X.env.scope x)(r:RelV v u)
   (h:∀s',Inv X pins (σ.set i (some v)) H s'→Q () s') (hf:X.fn x=true∨X.env.scope.names.lookup x=some .local:=by first | exact .inl rfl | exact .inr rfl | assumption):wpAny M A (storeName X.env x u) Q E s:=
 a5y I hN hi hx r (fun s' I' _=>h s' I') hf
end
abbrev XK:=Value→Option Addr→Hp→Prop
abbrev St:=List (Option V)
abbrev VK:=V→Hp→Prop
abbrev TE:=St→Hp→VK→Prop
abbrev TT:=St→Hp→(Bool→Hp→Prop)→Prop
abbrev TA:=St→Hp→(List V→Hp→Prop)→Prop
structure Ends where
 nx:St→Hp→Prop
 rt:VK
 bk:St→Hp→Prop:=fun _ _=>False
 ct:St→Hp→Prop:=fun _ _=>False
abbrev TS:=Ends→St→Hp→Prop
def EP (X:Cx)(pins:List (Addr×Obj))(σ:St)(Q:VK)(u:Value)(s':Shared):Prop:=∃v H',Inv X pins σ H' s'∧RelV v u∧Q v H'
def TP (X:Cx)(pins:List (Addr×Obj))(σ:St)(Q:Bool→Hp→Prop)(b:Bool)(s':Shared):Prop:=∃H',Inv X pins σ H' s'∧Q b H'
def AP (X:Cx)(pins:List (Addr×Obj))(σ:St)(Q:List V→Hp→Prop)(us:List Value)(s':Shared):Prop:=∃vs H',Inv X pins σ H' s'∧Vals vs us∧Q vs H'
def SP (X:Cx)(pins:List (Addr×Obj))(D:Ends)(f:Flow)(s':Shared):Prop:=
 match f with
 | .next=>∃σ' H',Inv X pins σ' H' s'∧D.nx σ' H'
 | .brk=>∃σ' H',Inv X pins σ' H' s'∧D.bk σ' H'
 | .cont=>∃σ' H',Inv X pins σ' H' s'∧D.ct σ' H'
 | .ret u=>∃v σ' H',Inv X pins σ' H' s'∧RelV v u∧D.rt v H'
def PE (X:Cx)(e:Expr)(t:TE):Prop:=
 ∀(pins:List (Addr×Obj)) (s:Shared) (σ:St) (H:Hp) (Q:VK),Inv X pins σ H s→t σ H Q→wpAny (model X.prog X.w) X.A (eval e X.env) (EP X pins σ Q) X.xe s
def PT (X:Cx)(e:Expr)(t:TT):Prop:=
 ∀(pins:List (Addr×Obj)) (s:Shared) (σ:St) (H:Hp) (Q:Bool→Hp→Prop),Inv X pins σ H s→t σ H Q→wpAny (model X.prog X.w) X.A (isTrue e X.env (eval e X.env)) (TP X pins σ Q) X.xe s
def PW (X:Cx)(e:Expr)(t:TT):Prop:=
 ∀(whole:Sem Value) (pins:List (Addr×Obj)) (s:Shared) (σ:St) (H:Hp) (Q:Bool→Hp→Prop),Inv X pins σ H s→t σ H Q→wpAny (model X.prog X.w) X.A (isTrue e X.env whole) (TP X pins σ Q) X.xe s
theorem PW.pt {X:Cx}{e:Expr}{t:TT}(h:PW X e t):PT X e t:=h _
def PA (X:Cx)(es:List Expr)(t:TA):Prop:=
 ∀(pos:Pos) (pins:List (Addr×Obj)) (s:Shared) (σ:St) (H:Hp) (Q:List V→Hp→Prop),Inv X pins σ H s→t σ H Q→wpAny (model X.prog X.w) X.A (spliced (backTo pos (starEach es X.env))) (AP X pins σ Q) X.xe s
def PS (X:Cx)(st:Stmt)(t:TS):Prop:=
 ∀(pins:List (Addr×Obj)) (s:Shared) (σ:St) (H:Hp) (D:Ends),Inv X pins σ H s→t D σ H→wpAny (model X.prog X.w) X.A (exec st X.env) (SP X pins D) X.xe s
def PSs (X:Cx)(st:List Stmt)(t:TS):Prop:=
 ∀(pins:List (Addr×Obj)) (s:Shared) (σ:St) (H:Hp) (D:Ends),Inv X pins σ H s→t D σ H→wpAny (model X.prog X.w) X.A (execs st X.env) (SP X pins D) X.xe s
theorem thn {α:Type}{t:Sem α}{Q Q':α→Shared→Prop}{M:Model}{A:Around}{E:Value→Shared→Prop}{s:Shared}(h:wpAny M A t Q E s)(hQ:∀a s,Q a s→Q' a s):wpAny M A t Q' E s:=wpAny_mono h hQ fun _ _ x=>x
end L2
namespace L2
open PySem PySem.Spec PyProof.Rows
section
variable {X:Cx}
def tVar (i:Nat):TE:=fun σ H Q=>∃v,σ[i]?=some (some v)∧Q v H
def tC (v:V):TE:=fun _ H Q=>Q v H
theorem b2E {i:Nat}{x:Str}{pos:Pos}(hN:X.N[i]?=some x)(hv:Vis X.env.scope x)(hd:(x == ("__debug__":Str))=false:=by decide)(hcd:(x == ("__classdict__":Str))=false:=by decide):PE X (.Name x pos) (tVar i):=by
 intro pins s σ H Q I h;obtain⟨v,e,h⟩:=h;obtain⟨m,hn,hl⟩:=I.loc;obtain⟨u,r,l⟩:=hl i x v hN e hv;have fin:EP X pins σ Q u s:=⟨v,H,I,r,h⟩;rcases l with⟨hk,hm⟩ | ⟨hk,c,hc,hcell⟩
 · exact wpAny_Name (wpAny_loadName_local I.ok.kind hk hn hm fin) hd
 · rcases hk with hk | hk
   · exact wpAny_Name (wpAny_loadName_cell I.ok.kind hk hc hcell fin) hd
   · exact wpAny_Name (wpAny_loadName_free I.ok.kind hk hc hcell fin hcd) hd
theorem a0U {i j pos}:PE X (.Constant (.int i) j pos) (tC (.int i)):=fun _ _ _ H _ I h=>wpAny_Constant_int ⟨.int i,H,I.tok _,⟨_,rfl⟩,h⟩
theorem pe_bl {b j pos}:PE X (.Constant (.bool b) j pos) (tC (.bl b)):=fun _ _ _ H _ I h=>Constant_bool ⟨.bl b,H,I,rfl,h⟩
theorem pe_non {j pos}:PE X (.Constant .none j pos) (tC .non):=fun _ _ _ H _ I h=>Constant_none ⟨.non,H,I,rfl,h⟩
theorem a0N {x j pos}:PE X (.Constant (.str x) j pos) (tC (.str x)):=fun _ _ _ H _ I h=>Calls.Constant_str ⟨.str x,H,I.tok _,⟨_,rfl⟩,h⟩
def Gl (X:Cx)(x:Str):Prop:=X.env.kindOf x=some .globalImplicit
theorem b3X {E:Value→Shared→Prop}{pins:List (Addr×Obj)}{s:Shared}{σ:St}{H:Hp}{x:Str}{u:Value}{pos:Pos}{Q:Value→Shared→Prop}(I:Inv X pins σ H s)(hg:Gl X x)(hm:X.mg x=some u)(h:Q u s)
   (hd:(x == ("__debug__":Str))=false:=by decide):wpAny (model X.prog X.w) X.A (eval (.Name x pos) X.env) Q E s:=
 Calls.Name_function_global I.ok.kind hg (Calls.loadGlobal_global (by rw [I.ok.glob];exact I.mod.glob.keeps I.bk) hm h) hd
theorem a4i {E:Value→Shared→Prop}{pins:List (Addr×Obj)}{s:Shared}{σ:St}{H:Hp}{x:Str}{u:Value}{pos:Pos}{Q:Value→Shared→Prop}(I:Inv X pins σ H s)(hg:Gl X x)(hm:X.mg x=none)(hv:bootBuiltins x=some u)(h:Q u s)
   (hn:x≠"__name__":=by decide) (hd:(x == ("__debug__":Str))=false:=by decide):wpAny (model X.prog X.w) X.A (eval (.Name x pos) X.env) Q E s:=by
 obtain⟨mb,h1,h2⟩:=I.mod.blt;exact Calls.Name_function_global I.ok.kind hg (Calls.loadGlobal_builtin (by rw [I.ok.glob];exact I.mod.glob.keeps I.bk) hm (by rw [I.ok.blt];exact h1.keeps I.bk) ((h2 x hn).trans hv) h) hd
variable {a b:Expr}{ta tb:TE}{pos:Pos}
def tB (t:TE):TT:=fun σ H Q=>t σ H fun x H1=>∃c,x=.bl c∧Q c H1
theorem pt_val {e:Expr}{t:TE}(h:PE X e t)(he:∀whole,isTrue e X.env whole=(do let v ← whole;standAt e.pos;holding [v] (truthy v)):=by intro _;rfl):PT X e (tB t):=by
 intro pins s σ H Q I hw;refine isTrue_plain (thn (h pins s σ H _ I hw) fun v s1 ⟨x,H1,I1,r1,q1⟩=>?_) (he _);obtain⟨d,rfl,q⟩:=q1;cases r1;exact wpAny_truthy_bool ⟨H1,I1,q⟩
variable {tA tB':TT}{rest:List Expr}
def tAnd (t u:TT):TT:=fun σ H Q=>t σ H fun c H1=>if c=true then u σ H1 Q else Q false H1
def tOr (t u:TT):TT:=fun σ H Q=>t σ H fun c H1=>if c=true then Q true H1 else u σ H1 Q
theorem a9q (ha:PT X a tA):PW X (.BoolOp .And [a] pos) tA:=by
 intro wh pins s σ H Q I h;refine isTrue_and (thn (ha pins s σ H Q I h) fun c s1 e=>?_);cases c with
 | true=>exact isTrue_and_nil e
 | false=>exact e
theorem pw_or1 (ha:PT X a tA):PW X (.BoolOp .Or [a] pos) tA:=by
 intro wh pins s σ H Q I h;refine isTrue_or (thn (ha pins s σ H Q I h) fun c s1 e=>?_);cases c with
 | false=>exact isTrue_or_nil e
 | true=>exact e
theorem b2C (ha:PT X a tA)(hb:PW X (.BoolOp .And (b::rest) pos) tB'):PW X (.BoolOp .And (a::b::rest) pos) (tAnd tA tB'):=by
 intro wh pins s σ H Q I h;refine isTrue_and (thn (ha pins s σ H _ I h) fun c s1 ⟨H1,I1,q1⟩=>?_);cases c with
 | true=>exact hb wh pins s1 σ H1 Q I1 q1
 | false=>exact⟨H1,I1,q1⟩
theorem pw_or (ha:PT X a tA)(hb:PW X (.BoolOp .Or (b::rest) pos) tB'):PW X (.BoolOp .Or (a::b::rest) pos) (tOr tA tB'):=by
 intro wh pins s σ H Q I h;refine isTrue_or (thn (ha pins s σ H _ I h) fun c s1 ⟨H1,I1,q1⟩=>?_);cases c with
 | true=>exact⟨H1,I1,q1⟩
 | false=>exact hb wh pins s1 σ H1 Q I1 q1
theorem pe_one {op}{t:TE}(h:PE X a t):PE X (.BoolOp op [a] pos) t:=fun pins s σ H Q I hw=>BoolOp_one (h pins s σ H Q I hw)
def tIf (t:TT)(ta tb:TE):TE:=fun σ H Q=>t σ H fun c H1=>if c=true then ta σ H1 Q else tb σ H1 Q
theorem b1F {c:Expr}(hc:PT X c tA)(ha:PE X a ta)(hb:PE X b tb):PE X (.IfExp c a b pos) (tIf tA ta tb):=by
 intro pins s σ H Q I h;refine wpAny_IfExp (thn (hc pins s σ H _ I h) fun d s1 ⟨H1,I1,q1⟩=>?_);cases d with
 | true=>exact ha pins s1 σ H1 Q I1 q1
 | false=>exact hb pins s1 σ H1 Q I1 q1
end
end L2
namespace L2
open PySem PySem.Spec PyProof.Rows
def SqL (K:PySem.W.Frag)(H:Hp)(a:Addr)(xs:List V):Prop:=
 Rd H a (.lst xs)∨
   ∃(o:Obj) (its:Array Value) (n:Nat),K.lookup a=some o∧o.cls=.type "list"∧o.dict=none∧o.data=.seq its n∧its.size≤sizeLine∧Vals xs its.toList
def SqT (K:PySem.W.Frag)(H:Hp)(a:Addr)(xs:List V):Prop:=
 Rd H a (.tup xs)∨
   ∃(o:Obj) (its:Array Value) (n:Nat),K.lookup a=some o∧o.cls=.type "tuple"∧o.data=.seq its n∧its.size≤sizeLine∧Vals xs its.toList
def absV:Value→Option V
 | .none=>some .non
 | .bool b=>some (.bl b)
 | .int i _=>some (.int i)
 | .str x _=>some (.str x)
 | .bytes b _=>some (.byt b)
 | .float b _=>some (.flt b)
 | .ref a=>some (.ref a)
 | .type n=>some (.ty n)
 | _=>none
theorem RelV.abs {x:V}{u:Value}(r:RelV x u):absV u=some x:=by
 cases x with
 | non=>cases r;rfl
 | bl _=>cases r;rfl
 | int _=>obtain⟨t,rfl⟩:=r;rfl
 | str _=>obtain⟨t,rfl⟩:=r;rfl
 | byt _=>obtain⟨t,rfl⟩:=r;rfl
 | flt _=>obtain⟨t,rfl⟩:=r;rfl
 | ref _=>cases r;rfl
 | ty _=>cases r;rfl
theorem RelV.inj {x y:V}{u:Value}(r:RelV x u)(q:RelV y u):x=y:=Option.some.inj (r.abs.symm.trans q.abs)
theorem Vals.inj:∀{xs ys:List V} {us:List Value},Vals xs us→Vals ys us→xs=ys
 | _,_,_,.nil,.nil=>rfl
 | _,_,_,.cons r t,.cons r' t'=>by rw [r.inj r',Vals.inj t t']
section
variable {X:Cx}{pins:List (Addr×Obj)}{σ:St}{H:Hp}{s:Shared}{a:Addr}{xs ys:List V}
theorem SqL.of {K:PySem.W.Frag}(h:H a=some (.lst xs)):SqL K H a xs:=.inl (.inl h)
theorem SqT.of {K:PySem.W.Frag}(h:H a=some (.tup xs)):SqT K H a xs:=.inl (.inl h)
theorem Inv.list (I:Inv X pins σ H s)(h:SqL X.K H a xs):∃its:List Value,Vals xs its∧PlainL s.heap a its.toArray∧xs.length≤sizeLine:=by
 rcases h with h | ⟨o,its,n,hk,hc,hd,hs,hz,r⟩
 · obtain⟨z,its,n,r,e⟩:=h.ok I.hok;exact⟨its,r,⟨_,n,e,rfl,rfl,rfl⟩,z⟩
 · refine⟨its.toList,r,⟨o,n,I.kIn a o hk,hc,hd,by simpa using hs⟩,?_⟩;have e:=r.length;simp only [Array.length_toList] at e;omega
theorem Inv.tuple (I:Inv X pins σ H s)(h:SqT X.K H a xs):∃its:List Value,Vals xs its∧IsTup s.heap a its.toArray∧xs.length≤sizeLine:=by
 rcases h with h | ⟨o,its,n,hk,hc,hs,hz,r⟩
 · obtain⟨z,its,r,p⟩:=h.ok I.hok;exact⟨its,r,p.is,z⟩
 · refine⟨its.toList,r,⟨o,I.kIn a o hk,hc,n,by simpa using hs⟩,?_⟩;have e:=r.length;simp only [Array.length_toList] at e;omega
theorem Inv.list_inj (I:Inv X pins σ H s)(h:SqL X.K H a xs)(h':SqL X.K H a ys):xs=ys:=by
 obtain⟨its,r,⟨o,n,e,_,_,d⟩,_⟩:=I.list h;obtain⟨its',r',⟨o',n',e',_,_,d'⟩,_⟩:=I.list h';rw [e] at e';cases e';rw [d] at d';injection d' with d1 _;have:its=its':=by simpa using congrArg Array.toList d1
 subst this;exact r.inj r'
theorem Inv.tuple_inj (I:Inv X pins σ H s)(h:SqT X.K H a xs)(h':SqT X.K H a ys):xs=ys:=by
 obtain⟨its,r,⟨o,e,_,n,d⟩,_⟩:=I.tuple h;obtain⟨its',r',⟨o',e',_,n',d'⟩,_⟩:=I.tuple h';rw [e] at e';cases e';rw [d] at d';injection d' with d1 _;have:its=its':=by simpa using congrArg Array.toList d1
 subst this;exact r.inj r'
end
abbrev Cx.wish (X:Cx)(E:Value→Shared→Prop):Cx:={ X with xe:=E }
abbrev Cx.nox (X:Cx):Cx:=X.wish fun _ _=>False
theorem Cx.Ok.wish {X:Cx}(ok:X.Ok)(E:Value→Shared→Prop):(X.wish E).Ok:=
 ⟨ok.mod,ok.kind,ok.glob,ok.blt,ok.above,ok.inj,ok.has,ok.cab,ok.hd,ok.frames,ok.stk,ok.exf,ok.bs,ok.bsz,ok.noex,ok.exfs,ok.funs,ok.frf,ok.nos⟩
theorem Cx.Ok.unwish {X:Cx}{E:Value→Shared→Prop}(ok:(X.wish E).Ok):X.Ok:=
 ⟨ok.mod,ok.kind,ok.glob,ok.blt,ok.above,ok.inj,ok.has,ok.cab,ok.hd,ok.frames,ok.stk,ok.exf,ok.bs,ok.bsz,ok.noex,ok.exfs,ok.funs,ok.frf,ok.nos⟩
section
variable {X:Cx}{pins:List (Addr×Obj)}{σ:St}{H:Hp}{s:Shared}{E:Value→Shared→Prop}
theorem Inv.wish (I:Inv X pins σ H s)(E:Value→Shared→Prop):Inv (X.wish E) pins σ H s:=⟨I.ok.wish E,I.os,I.bare,I.base,I.loc,I.cell,I.free,I.freeC,I.pin,I.hok,I.len⟩
theorem Inv.unwish (I:Inv (X.wish E) pins σ H s):Inv X pins σ H s:=⟨I.ok.unwish,I.os,I.bare,I.base,I.loc,I.cell,I.free,I.freeC,I.pin,I.hok,I.len⟩
theorem SP.unwish {D:Ends}{f:Flow}{s':Shared}(h:SP (X.wish E) pins D f s'):SP X pins D f s':=by
 cases f with
 | next=>obtain⟨σ',H',I,q⟩:=h;exact⟨σ',H',I.unwish,q⟩
 | brk=>obtain⟨σ',H',I,q⟩:=h;exact⟨σ',H',I.unwish,q⟩
 | cont=>obtain⟨σ',H',I,q⟩:=h;exact⟨σ',H',I.unwish,q⟩
 | ret u=>obtain⟨v,σ',H',I,r,q⟩:=h;exact⟨v,σ',H',I.unwish,r,q⟩
theorem PSs.nox {st:List Stmt}{t:TS}(h:PSs X.nox st t):PSs X st t:=fun pins s σ H D I hw=>
 wpAny_mono (h pins s σ H D (I.wish _) hw) (fun _ _ q=>q.unwish) fun _ _ z=>False.elim z
end
section
variable {X:Cx}{st:Stmt}{rest:List Stmt}{t u:TS}{e:Expr}{te:TE}{pos:Pos}
def tNext:TS:=fun D σ H=>D.nx σ H
def tSeq (t u:TS):TS:=fun D σ H=>t { D with nx:=u D } σ H
theorem a6w:PSs X [] tNext:=fun _ _ σ H _ I h=>wpAny_execs_nil ⟨σ,H,I,h⟩
theorem a1k (h1:PS X st t)(h2:PSs X rest u):PSs X (st::rest) (tSeq t u):=by
 intro pins s σ H D I h;refine wpAny_execs_cons (thn (h1 pins s σ H { D with nx:=u D } I h) fun f s1 q=>?_);cases f with
 | next =>
   obtain⟨σ',H',I',q⟩:=q;exact h2 pins s1 σ' H' D I' q
 | ret v=>exact q
 | brk=>exact q
 | cont=>exact q
theorem a3Y (h1:PS X st t):PSs X [st] t:=by
 intro pins s σ H D I h;refine wpAny_execs_cons (thn (h1 pins s σ H D I h) fun f s1 q=>?_);cases f with
 | next=>exact wpAny_execs_nil q
 | ret v=>exact q
 | brk=>exact q
 | cont=>exact q
theorem Inv.quiet {pins:List (Addr×Obj)}{σ:St}{H:Hp}{s:Shared}(I:Inv X pins σ H s):interactive X.env=false:=by simp [interactive,I.ok.kind]
def b3f (te:TE):TS:=fun D σ H=>te σ H fun _ H1=>D.nx σ H1
theorem b3u (he:PE X e te)(hs:swapsWith e none pos.line X.env=pure false:=by rfl):PS X (.Expr e pos) (b3f te):=by
 intro pins s σ H D I h;exact wpAny_Expr_any (thn (he pins s σ H _ I h) fun v s1 ⟨x,H1,I1,r1,q1⟩=>⟨σ,H1,I1,q1⟩) I.quiet hs
def tRet (te:TE):TS:=fun D σ H=>te σ H D.rt
theorem a5H (he:PE X e te):PS X (.Return (some e) pos) (tRet te):=by
 intro pins s σ H D I h;exact wpAny_Return_some (thn (he pins s σ H _ I h) fun v s1 ⟨x,H1,I1,r1,q1⟩=>⟨x,σ,H1,I1,r1,q1⟩)
def tIfS (c:TT)(t u:TS):TS:=fun D σ H=>c σ H fun b H1=>if b=true then t D σ H1 else u D σ H1
theorem b3t {c:Expr}{a b:List Stmt}{tc:TT}(hc:PT X c tc)(ha:PSs X a t)(hb:PSs X b u):PS X (.If c a b pos) (tIfS tc t u):=by
 intro pins s σ H D I h;refine wpAny_If (thn (hc pins s σ H _ I h) fun d s1 ⟨H1,I1,q1⟩=>?_);cases d with
 | true=>exact ha pins s1 σ H1 D I1 q1
 | false=>exact hb pins s1 σ H1 D I1 q1
end
abbrev TG:=V→St→Hp→(St→Hp→Prop)→Prop
abbrev TGs:=List V→St→Hp→(St→Hp→Prop)→Prop
def PG (X:Cx)(target:Expr)(t:TG):Prop:=
 ∀ (pins : List (Addr × Obj)) (s : Shared) (σ : St) (H : Hp) (v : V) (u : Value) (Q : St → Hp → Prop), Inv X pins σ H s → RelV v u → t v σ H Q →
   wpAny (model X.prog X.w) X.A (assign target X.env u) (fun _ s'=>∃σ' H',Inv X pins σ' H' s'∧Q σ' H') X.xe s
def PGs (X:Cx)(ts:List Expr)(t:TGs):Prop:=
 ∀ (pins : List (Addr × Obj)) (s : Shared) (σ : St) (H : Hp) (vs : List V) (us : List Value) (Q : St → Hp → Prop), Inv X pins σ H s → Vals vs us → t vs σ H Q →
   wpAny (model X.prog X.w) X.A (assignInOrder ((assignEach ts X.env).map (·.2)) us) (fun _ s'=>∃σ' H',Inv X pins σ' H' s'∧Q σ' H') X.xe s
abbrev TSet:=V→V→V→Hp→(Hp→Prop)→Prop
def PSet (X:Cx)(t:TSet):Prop:=
 ∀ (pins : List (Addr × Obj)) (s : Shared) (σ : St) (H : Hp) (o i v : V) (ov iv u : Value) (Q : Hp → Prop), Inv X pins σ H s → RelV o ov → RelV i iv → RelV v u → t o i v H Q →
   wpAny (model X.prog X.w) X.A (setItem ov iv u) (fun _ s'=>∃H',Inv X pins σ H' s'∧Q H') X.xe s
section
variable {X:Cx}{pos:Pos}
def a1P (i:Nat):TG:=fun v σ H Q=>Q (σ.set i (some v)) H
theorem b3A {i:Nat}{x:Str}(hN:X.N.Nodup)(hi:X.N[i]?=some x)(hx:Loc X.env.scope x)(hf:X.fn x=true∨X.env.scope.names.lookup x=some .local:=by first | exact .inl rfl | exact .inr rfl | assumption):PG X (.Name x pos) (a1P i):=by
 intro pins s σ H v u Q I r h;exact wpAny_assign_Name (a3C I hN hi hx r (fun s' I'=>⟨_,H,I',h⟩) hf)
def gNil:TGs:=fun vs σ H Q=>vs=[]∧Q σ H
def a4l (t:TG)(u:TGs):TGs:=fun vs σ H Q=>∃v r,vs=v::r∧t v σ H fun σ' H'=>u r σ' H' Q
theorem a6A:PGs X [] gNil:=by
 intro pins s σ H vs us Q I r h;obtain⟨e,h⟩:=h;subst e;cases r;exact assignInOrder_nil ⟨σ,H,I,h⟩
theorem a2Q {e:Expr}{es:List Expr}{t:TG}{u:TGs}(h1:PG X e t)(h2:PGs X es u)
   (hs:(assignEach (e::es) X.env).map (·.2)=assign e X.env::(assignEach es X.env).map (·.2):=by rfl):PGs X (e::es) (a4l t u):=by
 intro pins s σ H vs us Q I r h;obtain⟨v,vr,e1,h⟩:=h;subst e1;cases r with
 | cons r rr =>
   rw [hs];refine assignInOrder_cons (thn (h1 pins s σ H _ _ _ I r h) fun _ s1 ⟨σ1,H1,I1,q1⟩=>?_);exact h2 pins s1 σ1 H1 _ _ Q I1 rr q1
def gTup (K:PySem.W.Frag)(n:Nat)(t:TGs):TG:=fun v σ H Q=>∃a xs,v=.ref a∧SqT K H a xs∧xs.length=n∧t xs σ H Q
theorem a9v {es:List Expr}{k:Nat}{t:TGs}{n:Nat}(hc:X.calm=true)(h:PGs X es t)
   (hn:(assignEach es X.env).length=n:=by rfl) (hst:(assignEach es X.env).findIdx? (·.1)=none:=by rfl):PG X (.Tuple es k pos) (gTup X.K n t):=by
 intro pins s σ H v u Q I r hw;obtain⟨a,xs,e1,hq,hl,hw⟩:=hw;subst e1;cases r;obtain⟨its,rv,ht,hz⟩:=I.tuple hq;refine assign_Tuple_tuple (I.ok.hd hc) ht (by simp [hn,← hl,rv.length]) hst fun h' hx=>?_;have I1:Inv X pins σ H { s with heap:=h' }:=I.kept (t':=s.toks) fun b o e=>hx b o (Nat.ne_of_lt (Heap.lt_size e)) e;exact h pins _ σ H xs _ Q I1 (by simpa using rv) hw
def gSub (to ti:TE)(t:TSet):TG:=fun v σ H Q=>to σ H fun o H1=>ti σ H1 fun i H2=>t o i v H2 fun H3=>Q σ H3
theorem pg_sub {o i:Expr}{to ti:TE}{t:TSet}(ho:PE X o to)(hi:PE X i ti)(hs:PSet X t)
   (ha:∀v,assign (.Subscript o i pos) X.env v=(do
     let ov ← holding [v] (eval o X.env)
     let iv ← holding [v,ov] (eval i X.env)
     standAt pos
     holding [v,ov,iv] (setItem ov iv v)
     release [v,ov,iv] []):=by intro _;rfl):PG X (.Subscript o i pos) (gSub to ti t):=by
 intro pins s σ H v u Q I r h;rw [ha];refine wpAny_bind (wpAny_holding (thn (ho pins s σ H _ I h) fun ov s1 ⟨x,H1,I1,r1,q1⟩=>?_));refine wpAny_bind (wpAny_holding (thn (hi pins s1 σ H1 _ I1 q1) fun iv s2 ⟨y,H2,I2,r2,q2⟩=>?_));refine wpAny_bind (wpAny_standAt (wpAny_bind (wpAny_holding (thn (hs pins s2 σ H2 x y v ov iv u _ I2 r1 r2 r q2) fun _ s3 ⟨H3,I3,q3⟩=>?_))));exact wpAny_release ⟨σ,H3,I3,q3⟩
def tAsg (te:TE)(g:TG):TS:=fun D σ H=>te σ H fun x H1=>g x σ H1 D.nx
theorem ps_asg {tg e:Expr}{te:TE}{g:TG}(he:PE X e te)(hg:PG X tg g)(hs:swapsWithSole [tg] e pos.line X.env=pure false:=by rfl)(hw:swappedStores [tg] e X.env=pure none:=by rfl)
   (h1:(assignEach [tg] X.env).map (·.2)=[assign tg X.env]:=by rfl):PS X (.Assign [tg] e pos) (tAsg te g):=by
 intro pins s σ H D I h;refine wpAny_Assign_stores (thn (he pins s σ H _ I h) fun v s1 ⟨x,H1,I1,r1,q1⟩=>?_) hs hw;rw [h1];exact thn (hg pins s1 σ H1 x v _ I1 r1 q1) fun _ s2 q=>q
theorem a9s {i:Nat}{x:Str}{e:Expr}{te:TE}{pos':Pos}(hN:X.N.Nodup)(hi:X.N[i]?=some x)(hx:Loc X.env.scope x)(he:PE X e te)(hs:swapsWith e (some (.Name x pos')) pos.line X.env=pure false:=by rfl)(hf:X.fn x=true∨X.env.scope.names.lookup x=some .local:=by first | exact .inl rfl | exact .inr rfl | assumption) :
   PS X (.Assign [.Name x pos'] e pos) (tAsg te (a1P i)):=by
 intro pins s σ H D I h;refine wpAny_Assign_Name (thn (he pins s σ H _ I h) fun v s1 ⟨y,H1,I1,r1,q1⟩=>?_) hs;exact a3C I1 hN hi hx r1 (fun s2 I2=>⟨_,H1,I2,q1⟩) hf
def tPar (i j:Nat)(ta:TA):TS:=fun D σ H=>ta σ H fun vs H1=>∃v w,vs=[v,w]∧D.nx ((σ.set i (some v)).set j (some w)) H1
theorem ps_par {i j:Nat}{x y:Str}{a b:Expr}{ta:TA}{px py pt:Pos}{kt k2 pt2}(hc:X.calm=true)(hN:X.N.Nodup)(hi:X.N[i]?=some x)(hj:X.N[j]?=some y)(hij:i≠j)
   (hx:X.env.scope.names.lookup x=some .local) (hy:X.env.scope.names.lookup y=some .local) (ha:PA X [a,b] ta)
   (hw:swappedStores [.Tuple [.Name x px,.Name y py] kt pt] (.Tuple [a,b] k2 pt2) X.env=pure (some [x,y]))
   (hs:swapsWithSole [.Tuple [.Name x px,.Name y py] kt pt] (.Tuple [a,b] k2 pt2) pos.line X.env=pure false:=by rfl) :
   PS X (.Assign [.Tuple [.Name x px,.Name y py] kt pt] (.Tuple [a,b] k2 pt2) pos) (tPar i j ta):=by
 intro pins s σ H D I h;rw [exec_Assign_arm];refine wpAny_bind (wpAny_standAt ?_);rw [hs];refine wpAny_bind (wpAny_pure ?_);rw [if_neg (by decide)];refine wpAny_bind (Tuple_ (thn (ha _ pins s σ H _ I h) fun us s1 ⟨vs,H1,I1,r1,q1⟩=>?_));obtain⟨v,w,e1,q1⟩:=q1;subst e1
 obtain⟨u1,u2,rfl,rv,rw'⟩:∃u1 u2,us=[u1,u2]∧RelV v u1∧RelV w u2:=by
   cases r1 with
   | cons p q =>
     cases q with
     | cons p' q' =>
       cases q';exact⟨_,_,rfl,p,p'⟩
 refine wpAny_newObj_type ?_ (by show 2≤sizeLine;decide);have I2:Inv X pins σ H1 { s1 with heap:=s1.heap.push { cls:=.type "tuple",data:=.seq [u1,u2].toArray } }:=I1.kept (t':=s1.toks) fun b o e=>Heap.get?_push_of_some _ e;rw [hw];refine wpAny_bind (wpAny_pure ?_);show wpAny (model X.prog X.w) X.A (do rule "assign.swapped-stores";let items ← unpackItems (.ref s1.heap.objs.size) 2 none;assignInOrder [fun v=>bindName X.env y v,fun v=>bindName X.env x v] items.reverse;pure Flow.next) _ _ _;refine wpAny_bind (wpAny_rule (wpAny_bind (unpackItems_tuple (items:=#[u1,u2]) (I.ok.hd hc) (IsTup.new s1.heap _) fun h' hx'=>?_)));have I3:=I2.kept (h':=h') (t':=s1.toks) fun b o e=>hx' b o (Nat.ne_of_lt (Heap.lt_size e)) e;show wpAny _ _ (assignInOrder [fun v=>bindName X.env y v,fun v=>bindName X.env x v] [u2,u1]>>=fun _=>pure Flow.next) _ _ _;refine wpAny_bind (assignInOrder_cons (wpAny_bindName (a3C I3 hN hj (.inl hy) rw' (fun s2 I4=>?_) (.inr hy))));refine assignInOrder_cons (wpAny_bindName (a3C I4 hN hi (.inl hx) rv (fun s3 I5=>assignInOrder_nil (wpAny_pure ?_)) (.inr hx)));rw [List.set_comm _ _ (Ne.symm hij)] at I5;exact⟨_,H1,I5,q1⟩
end
section
variable {X:Cx}{pos:Pos}
def tWhile (c:TT)(tb:TS):TS:=fun D σ H=>∃W:Nat→St→Hp→Prop,(∃m,W m σ H)∧∀m σ H,W m σ H→
 c σ H fun b H1=>if b=true then ∃N:St→Hp→Prop,(∀σ' H',N σ' H'→∃m',m' < m∧W m' σ' H')∧tb { D with nx:=N,ct:=N,bk:=D.nx } σ H1 else D.nx σ H1
theorem b1C {c:Expr}{body:List Stmt}{tc:TT}{tb:TS}(hp:PassesOwn (model X.prog X.w) X.A X.env X.xe)(hc:PT X c tc)(hb:PSs X body tb):PS X (.While c body [] pos) (tWhile tc tb):=by
 intro pins s σ H D I h;obtain⟨W,⟨m0,w0⟩,turn⟩:=h;refine wpAny_While (codeAny_whileLoop (fun n s'=>∃σ' H',Inv X pins σ' H' s'∧W n σ' H') ?_ m0 ⟨σ,H,I,w0⟩);rintro n s1 ⟨σ1,H1,I1,w1⟩;refine wpAny_passesOwn hp (thn (hc pins s1 σ1 H1 _ I1 (turn n σ1 H1 w1)) fun b s2 ⟨H2,I2,q2⟩=>?_);cases b with
 | true =>
   obtain⟨N,hN,q2⟩:=q2;rw [if_pos rfl];refine wpAny_passesOwn hp (thn (hb pins s2 σ1 H2 _ I2 q2) fun f s3 q3=>?_);cases f with
   | next =>
     obtain⟨σ3,H3,I3,n3⟩:=q3;obtain⟨m',hm,w3⟩:=hN σ3 H3 n3;exact⟨m',hm,σ3,H3,I3,w3⟩
   | cont =>
     obtain⟨σ3,H3,I3,n3⟩:=q3;obtain⟨m',hm,w3⟩:=hN σ3 H3 n3;exact⟨m',hm,σ3,H3,I3,w3⟩
   | brk=>exact q3
   | ret v=>exact q3
 | false =>
   rw [if_neg Bool.false_ne_true];exact wpAny_execs_nil ⟨σ1,H2,I2,q2⟩
end
structure It where
 go:Nat→Hp→Prop
 yld:Nat→Hp→V→Hp→Prop
 stop:Nat→Hp→Prop
def FpOk (X:Cx)(pins:List (Addr×Obj))(H:Hp)(b:Addr):Prop:=
 H b=none∧b≠X.env.locals∧b∉X.fs∧(b∈X.ex∨X.s₀.heap.objs.size≤b)∧(∀x c,X.env.cells.lookup x=some c→c≠b)∧∀p∈X.pn++pins,p.1≠b
theorem Inv.fpOk {X:Cx}{pins:List (Addr×Obj)}{σ:St}{H H':Hp}{s:Shared}{b:Addr}(I:Inv X pins σ H s)(hb:s.heap.objs.size≤b)(hn:H' b=none):FpOk X pins H' b:=by
 refine⟨hn,Nat.ne_of_gt (Nat.lt_of_lt_of_le I.lt hb),I.nofs hb,.inr (Nat.le_trans I.sz hb),fun x c e z=>?_,fun p hp z=>?_⟩
 · obtain⟨v,q⟩:=I.cell x c e;exact absurd (Nat.lt_of_lt_of_le q.lt (by rw [z];exact hb)) (Nat.lt_irrefl _)
 · exact absurd (Nat.lt_of_lt_of_le (Heap.lt_size (I.pin p hp).1) (by rw [z];exact hb)) (Nat.lt_irrefl _)
structure Turn (P:Program)(w:World)(K:PySem.W.Frag)(tg:Expr)(J:It)(fp:List Addr)(it:Addr)(tn:Nat→Heap→Prop):Prop where
 mem:it∈fp
 obj:∀i h,tn i h→∀b∈fp,∃o,h.get? b=some o∧∀v,o.data≠.cell v
 keep:∀i h h',tn i h→(∀b∈fp,∀o,h.get? b=some o→h'.get? b=some o)→tn i h'
 item:∀(X:Cx),X.prog=P→X.w=w→X.K=K→X.calm=true→∀(i:Nat) (pins:List (Addr×Obj)) (s:Shared) (σ:St) (H:Hp) (E:Value→Shared→Prop),Inv X pins σ H s→(∀b∈fp,FpOk X pins H b)→tn i s.heap→J.go i H→
   wpAny (model P w) X.A (pyNext (.ref it)) (fun r s1=>∃u,r=some u∧
     wpAny (model P w) X.A (letOwnedTupleGo tg (.ref it) u) (fun _ s2=>∃x H',Inv X pins σ H' s2∧RelV x u∧J.yld i H x H'∧tn (i + 1) s2.heap∧∀b∈fp,H' b=none) E s1) E s
 done:∀(X:Cx),X.prog=P→X.w=w→X.K=K→X.calm=true→∀(i:Nat) (pins:List (Addr×Obj)) (s:Shared) (σ:St) (H:Hp) (E:Value→Shared→Prop),Inv X pins σ H s→(∀b∈fp,FpOk X pins H b)→tn i s.heap→J.stop i H→
   wpAny (model P w) X.A (pyNext (.ref it)) (fun r s1=>r=none∧Inv X pins σ H s1) E s
 self:∀(A:Around) (i:Nat) (s:Shared) (Q:Value→Shared→Prop) (E:Value→Shared→Prop),tn i s.heap→Q (.ref it) s→wpAny (model P w) A (pyIter (.ref it)) Q E s
abbrev TI:=St→Hp→(It→Hp→Prop)→Prop
def PIE (X:Cx)(pins:List (Addr×Obj))(σ:St)(tg:Expr)(R:It→Hp→Prop)(itv:Value)(s2:Shared):Prop:=
 ∃(it:Addr) (fp:List Addr) (tn:Nat→Heap→Prop) (J:It) (H':Hp),itv=.ref it∧Inv X pins σ H' s2∧Turn X.prog X.w X.K tg J fp it tn∧tn 0 s2.heap∧(∀b∈fp,FpOk X pins H' b)∧R J H'
def PI (X:Cx)(tg iter:Expr)(wi:TI):Prop:=
 ∀ (pins : List (Addr × Obj)) (s : Shared) (σ : St) (H : Hp) (R : It → Hp → Prop), Inv X pins σ H s → wi σ H R →
   wpAny (model X.prog X.w) X.A (eval iter X.env) (fun v s1=>wpAny (model X.prog X.w) X.A (pyIter v) (PIE X pins σ tg R) X.xe s1) X.xe s
theorem b2d {M:Model}{A:Around}{E:Value→Shared→Prop}{s:Shared}{tg:Expr}{it:Addr}{u:Value}{o:Obj}{n:String}{vs:Array Value}{Q:Unit→Shared→Prop}(ho:s.heap.get? it=some o)(hc:o.cls=.type n)(hd:o.data=.fields vs)
   (hn:["enumerate","zip","dict_itemiterator","dict_reverseitemiterator","odict_iterator","itertools.zip_longest","itertools.pairwise"].contains n=false) (hQ:Q () s):wpAny M A (letOwnedTupleGo tg (.ref it) u) Q E s:=by
 unfold letOwnedTupleGo
 cases tg <;> first
   | exact wpAny_pure hQ
   | (cases u <;> first
       | exact wpAny_pure hQ
       | (refine wpAny_bind (wpAny_load ho ?_)
          rw [hc,hd];show wpAny M A (if(["enumerate","zip","dict_itemiterator","dict_reverseitemiterator","odict_iterator","itertools.zip_longest","itertools.pairwise"].contains n && vs[0]? == some (rawInt _))=true then _ else _) Q E s;rw [if_neg (by intro h;rw [hn,Bool.false_and] at h;cases h)]
          exact wpAny_pure hQ))
def Itl (K:PySem.W.Frag)(a:Addr):It:=
 ⟨fun i H=>∃xs x,SqL K H a xs∧xs[i]?=some x,fun i H x H'=>H'=H∧∀xs,SqL K H a xs→xs[i]?=some x,fun i H=>∃xs,SqL K H a xs∧xs.length≤i⟩
def Itt (K:PySem.W.Frag)(a:Addr):It:=
 ⟨fun i H=>∃xs x,SqT K H a xs∧xs[i]?=some x,fun i H x H'=>H'=H∧∀xs,SqT K H a xs→xs[i]?=some x,fun i H=>∃xs,SqT K H a xs∧xs.length≤i⟩
def Itr (lo:Int)(n:Nat):It:=⟨fun i _=>i < n,fun i H x H'=>H'=H∧x=.int (lo + i),fun i _=>n≤i⟩
theorem a8L {P:Program}{w:World}{K:PySem.W.Frag}{tg:Expr}(a it:Addr):Turn P w K tg (Itl K a) [it] it (fun i h=>h.IsListIter it a i) where
 mem:=by simp
 obj:=fun i h st b hb=>by
   have e:b=it:=by simpa using hb
   subst e;obtain⟨o,e,c,d⟩:=st;exact⟨o,e,fun v z=>by rw [d] at z;cases z⟩
 keep:=fun i h h' st k=>st.at fun o e=>k it (by simp) o e
 item:=by
   intro X hP hw hK hc i pins s σ H E I hf st hg;subst hP hw hK;obtain⟨xs,x,hq,hx⟩:=hg;obtain⟨its,rv,p,hz⟩:=I.list hq;obtain⟨u,hu,ru⟩:=rv.get hx;obtain⟨f0,f1,f2,f3,f4,f5⟩:=hf it (by simp);refine wpAny_pyNext_list_item st p.isList (x:=u) (by simpa using hu) fun h' st' sb=>?_;have I1:Inv X pins σ H { s with heap:=h' }:=I.turned (t':=s.toks) (fun b o hb e=>(sb.2 b hb).trans e) f0 f1 f3 f4 f5;obtain⟨o,e,c,d⟩:=id st';exact⟨u,rfl,b2d (s:={ s with heap:=h' }) e c d (by decide) ⟨x,H,I1,ru,⟨rfl,fun ys hy=>by rw [I.list_inj hy hq];exact hx⟩,st',fun b hb=>(hf b hb).1⟩⟩
 done:=by
   intro X hP hw hK hc i pins s σ H E I hf st hg;subst hP hw hK;obtain⟨xs,hq,hx⟩:=hg;obtain⟨its,rv,p,hz⟩:=I.list hq;obtain⟨f0,f1,f2,f3,f4,f5⟩:=hf it (by simp);have hl:=rv.length;exact wpAny_pyNext_list_end (I.ok.hd hc) st p.isList (by simp;omega) fun h' eb=>⟨rfl,I.turned (t':=s.toks) (fun b o hb e=>eb b o hb e) f0 f1 f3 f4 f5⟩
 self:=fun _ _ _ _ _ st h=>wpAny_pyIter_listiter st h
theorem a7R {P:Program}{w:World}{K:PySem.W.Frag}{tg:Expr}(a it:Addr):Turn P w K tg (Itt K a) [it] it (fun i h=>h.IsTupleIter it a i) where
 mem:=by simp
 obj:=fun i h st b hb=>by
   have e:b=it:=by simpa using hb
   subst e;obtain⟨o,e,c,d⟩:=st;exact⟨o,e,fun v z=>by rw [d] at z;cases z⟩
 keep:=fun i h h' st k=>st.at fun o e=>k it (by simp) o e
 item:=by
   intro X hP hw hK hc i pins s σ H E I hf st hg;subst hP hw hK;obtain⟨xs,x,hq,hx⟩:=hg;obtain⟨its,rv,p,hz⟩:=I.tuple hq;obtain⟨u,hu,ru⟩:=rv.get hx;obtain⟨f0,f1,f2,f3,f4,f5⟩:=hf it (by simp);refine wpAny_pyNext_tuple_item st (show s.heap.IsTuple a its.toArray from p) (x:=u) (by simpa using hu) fun h' st' sb=>?_;have I1:Inv X pins σ H { s with heap:=h' }:=I.turned (t':=s.toks) (fun b o hb e=>(sb.2 b hb).trans e) f0 f1 f3 f4 f5;obtain⟨o,e,c,d⟩:=id st';exact⟨u,rfl,b2d (s:={ s with heap:=h' }) e c d (by decide) ⟨x,H,I1,ru,⟨rfl,fun ys hy=>by rw [I.tuple_inj hy hq];exact hx⟩,st',fun b hb=>(hf b hb).1⟩⟩
 done:=by
   intro X hP hw hK hc i pins s σ H E I hf st hg;subst hP hw hK;obtain⟨xs,hq,hx⟩:=hg;obtain⟨its,rv,p,hz⟩:=I.tuple hq;obtain⟨f0,f1,f2,f3,f4,f5⟩:=hf it (by simp);have hl:=rv.length;exact wpAny_pyNext_tuple_end (I.ok.hd hc) st (show s.heap.IsTuple a its.toArray from p) (by simp;omega) fun h' eb=>⟨rfl,I.turned (t':=s.toks) (fun b o hb e=>eb b o hb e) f0 f1 f3 f4 f5⟩
 self:=fun _ _ _ _ _ st h=>wpAny_pyIter_tupleiter st h
theorem a7T {P:Program}{w:World}{K:PySem.W.Frag}{tg:Expr}(it:Addr)(lo:Int)(n:Nat):Turn P w K tg (Itr lo n) [it] it (fun i h=>IsRangeIter h it (lo + (i:Nat) * 1) ((n:Int) - (i:Nat)) 1) where
 mem:=by simp
 obj:=fun i h st b hb=>by
   have e:b=it:=by simpa using hb
   subst e
   exact⟨_,st,fun v z=>by
     have z':Data.fields _=Data.cell v:=z
     cases z'⟩
 keep:=fun i h h' st k=>k it (by simp) _ st
 item:=by
   intro X hP hw hK hc i pins s σ H E I hf st hg;subst hP hw hK;obtain⟨f0,f1,f2,f3,f4,f5⟩:=hf it (by simp);have W:=Walks.range (prog:=X.prog) (w:=X.w) (I.ok.hd hc) it lo 1 n;refine W.item i s _ _ hg st fun v h' tk hv st' kk=>?_;obtain⟨t,rfl⟩:=hv;have I1:Inv X pins σ H { s with heap:=h',toks:=tk }:=I.turned (fun b o hb e=>kk b o (by simpa using hb) e) f0 f1 f3 f4 f5;refine⟨_,rfl,b2d (s:={ s with heap:=h',toks:=tk }) (n:="range_iterator") st' rfl rfl (by decide) ⟨.int (lo + i),H,I1,⟨t,?_⟩,⟨rfl,rfl⟩,st',fun b hb=>(hf b hb).1⟩⟩;rw [Int.mul_one]
 done:=by
   intro X hP hw hK hc i pins s σ H E I hf st hg;subst hP hw hK;obtain⟨f0,f1,f2,f3,f4,f5⟩:=hf it (by simp);exact wpAny_pyNext_range_end (I.ok.hd hc) st (by have:n≤i:=hg;omega) fun h' eb=>⟨rfl,I.turned (t':=s.toks) (fun b o hb e=>eb b o hb e) f0 f1 f3 f4 f5⟩
 self:=fun _ _ _ _ _ st h=>wpAny_pyIter_rangeiter st h
end L2
namespace L2
open PySem PySem.Spec PyProof.Rows
section
variable {X:Cx}{tg:Expr}
def iList (K:PySem.W.Frag)(tl:TE):TI:=fun σ H R=>tl σ H fun x H1=>∃a,x=.ref a∧(∃xs,SqL K H1 a xs)∧R (Itl K a) H1
def iTup (K:PySem.W.Frag)(tl:TE):TI:=fun σ H R=>tl σ H fun x H1=>∃a,x=.ref a∧(∃xs,SqT K H1 a xs)∧R (Itt K a) H1
theorem b3z {l:Expr}{tl:TE}(hl:PE X l tl):PI X tg l (iList X.K tl):=by
 intro pins s σ H R I h;refine thn (hl pins s σ H _ I h) fun v s1 ⟨x,H1,I1,r1,q1⟩=>?_;obtain⟨a,e,⟨xs,hq⟩,q⟩:=q1;subst e;cases r1;obtain⟨its,rv,p,hz⟩:=I1.list hq;refine wpAny_pyIter_list p.isList ?_;refine⟨s1.heap.objs.size,[s1.heap.objs.size],_,_,H1,rfl,I1.kept (t':=s1.toks) fun b o e=>Heap.get?_push_of_some _ e,a8L a _,⟨_,Heap.get?_push_size _ rfl,rfl,rfl⟩,fun b hb=>?_,q⟩;have e:b=s1.heap.objs.size:=by simpa using hb
 subst e;exact I1.fpOk (Nat.le_refl _) (I1.hok.fresh (Nat.le_refl _))
theorem pi_tup {l:Expr}{tl:TE}(hl:PE X l tl):PI X tg l (iTup X.K tl):=by
 intro pins s σ H R I h;refine thn (hl pins s σ H _ I h) fun v s1 ⟨x,H1,I1,r1,q1⟩=>?_;obtain⟨a,e,⟨xs,hq⟩,q⟩:=q1;subst e;cases r1;obtain⟨its,rv,p,hz⟩:=I1.tuple hq;refine wpAny_pyIter_tuple (show s1.heap.IsTuple a its.toArray from p) ?_;refine⟨s1.heap.objs.size,[s1.heap.objs.size],_,_,H1,rfl,I1.kept (t':=s1.toks) fun b o e=>Heap.get?_push_of_some _ e,a7R a _,⟨_,Heap.get?_push_size _ rfl,rfl,rfl⟩,fun b hb=>?_,q⟩;have e:b=s1.heap.objs.size:=by simpa using hb
 subst e;exact I1.fpOk (Nat.le_refl _) (I1.hok.fresh (Nat.le_refl _))
theorem b1s {pins:List (Addr×Obj)}{σ:St}{H:Hp}{s:Shared}{R:It→Hp→Prop}{E:Value→Shared→Prop}{lo hi:Int}{t u v:Tok}{tk:Nat}(I:Inv X pins σ H s)(h1:-(2 ^ 62)≤lo)(h2:lo < 2 ^ 62)(h3:-(2 ^ 62)≤hi)(h4:hi < 2 ^ 62)
   (q:R (Itr lo (hi - lo).toNat) H):wpAny (model X.prog X.w) X.A (pyIter (.ref s.heap.objs.size)) (PIE X pins σ tg R) E { s with heap:=s.heap.push { cls:=.type "range",data:=.fields #[.int lo t,.int hi u,.int 1 v] },toks:=tk }:=by
 refine wpAny_pyIter_range (IsRange.new ..) (small_one h1 h2 h3 h4) ?_;have I1:Inv X pins σ H { s with heap:=s.heap.push { cls:=.type "range",data:=.fields #[.int lo t,.int hi u,.int 1 v] },toks:=tk }:=I.kept fun b o e=>Heap.get?_push_of_some _ e
 refine⟨(s.heap.push { cls:=.type "range",data:=.fields #[.int lo t,.int hi u,.int 1 v] }).objs.size,[(s.heap.push { cls:=.type "range",data:=.fields #[.int lo t,.int hi u,.int 1 v] }).objs.size],_,_,H,rfl,
   I1.kept (t':=tk) fun b o e=>Heap.get?_push_of_some _ e,a7T _ lo (hi - lo).toNat,?_,fun b hb=>?_,q⟩
 · have e1:lo + ((0:Nat):Int) * 1=lo:=by simp
   have e2:(((hi - lo).toNat:Nat):Int) - ((0:Nat):Int)=Builtin.Range.rangeSize lo hi 1:=by rw [rangeSize_one];split <;> omega
   show IsRangeIter _ _ (lo + ((0:Nat):Int) * 1) ((((hi - lo).toNat:Nat):Int) - ((0:Nat):Int)) 1;rw [e1,e2];exact Heap.get?_push_size _ rfl
 · have e:b=(s.heap.push { cls:=.type "range",data:=.fields #[.int lo t,.int hi u,.int 1 v] }).objs.size:=by simpa using hb
   subst e;exact I1.fpOk (Nat.le_refl _) (I1.hok.fresh (Nat.le_refl _))
def iRng1 (ta:TA):TI:=fun σ H R=>ta σ H fun vs H1=>∃j:Int,vs=[.int j]∧-(2 ^ 62)≤j∧j < 2 ^ 62∧R (Itr 0 j.toNat) H1
theorem a9u {a:Expr}{ta:TA}{p pos:Pos}(hg:Gl X "range")(hm:X.mg "range"=none)(ha:PA X [a] ta)(hs:starEach [a] X.env=[(false,eval a X.env)]:=by rfl):PI X tg (.Call (.Name "range" p) [a] [] pos) (iRng1 ta):=by
 intro pins s σ H R I h;refine Call_ (a4i I hg hm boot_range (PyProof.Rows.callWith_type1 (thn (ha pos pins s σ H _ I h) fun us s1 ⟨vs,H1,I1,r1,q1⟩=>?_) hs rfl));obtain⟨j,e,q1,q2,q⟩:=q1;subst e;cases r1 with
 | cons r rr =>
   cases rr;obtain⟨t,rfl⟩:=r;exact call_range_1 (b1s I1 (by omega) (by omega) q1 q2 (by simpa using q))
def tFor (wi:TI)(g:TG)(tb:TS):TS:=fun D σ H=>wi σ H fun J H1=>∃W:Nat→Nat→St→Hp→Prop,(∃m,W 0 m σ H1)∧∀i m σ H,W i m σ H→
 (J.stop i H∧D.nx σ H)∨(J.go i H∧∃N:St→Hp→Prop,(∀σ' H',N σ' H'→∃m',m' < m∧W (i + 1) m' σ' H')∧∀x H',J.yld i H x H'→g x σ H' fun σ2 H2=>tb { D with nx:=N,ct:=N,bk:=D.nx } σ2 H2)
def a1v (fp:List Addr)(h:Heap):List (Addr×Obj):=fp.filterMap fun b=>(h.get? b).map fun o=>(b,o)
theorem a0J {fp:List Addr}{h:Heap}{b:Addr}{o:Obj}(hb:b∈fp)(e:h.get? b=some o):(b,o)∈a1v fp h:=List.mem_filterMap.mpr ⟨b,hb,by rw [e];rfl⟩
theorem a9G {fp:List Addr}{h:Heap}{p:Addr×Obj}(hp:p∈a1v fp h):p.1∈fp∧h.get? p.1=some p.2:=by
 obtain⟨b,hb,e⟩:=List.mem_filterMap.mp hp;cases q:h.get? b with
 | none=>rw [q] at e;cases e
 | some o =>
   rw [q] at e;have e':(b,o)=p:=Option.some.inj e;subst e';exact⟨hb,q⟩
theorem Inv.pinned {pins:List (Addr×Obj)}{σ:St}{H:Hp}{s:Shared}{fp:List Addr}(I:Inv X pins σ H s)(hf:∀b∈fp,FpOk X pins H b)(ho:∀b∈fp,∃o,s.heap.get? b=some o∧∀v,o.data≠.cell v):Inv X (pins++a1v fp s.heap) σ H s:=
 I.pins_of fun p hp=>(List.mem_append.mp hp).elim (fun z=>I.pin p (List.mem_append_right _ z)) fun z=>by
   obtain⟨hb,e⟩:=a9G z;obtain⟨f0,f1,f2,_⟩:=hf p.1 hb;obtain⟨o,e',d⟩:=ho p.1 hb;rw [e] at e';cases e';exact⟨e,f0,f1,f2,d⟩
theorem Inv.unpinned {pins pl:List (Addr×Obj)}{σ:St}{H:Hp}{s:Shared}(I:Inv X (pins++pl) σ H s):Inv X pins σ H s:=I.pins_of fun p hp=>I.pin p (List.mem_append_right _ (List.mem_append_left _ hp))
theorem ps_for {iter:Expr}{body:List Stmt}{wi:TI}{g:TG}{tb:TS}{pos:Pos}(hp:PassesOwn (model X.prog X.w) X.A X.env X.xe)(hc:X.calm=true)(hi:PI X tg iter wi)(hg:PG X tg g)(hb:PSs X body tb)
   (hs:∀x,foldedSetIterable iter X.env x=pure x:=by intro _;rfl):PS X (.For tg iter body [] pos) (tFor wi g tb):=by
 intro pins s σ H D I h;refine wpAny_For (thn (hi pins s σ H _ I h) fun v s1 h1=>thn h1 fun itv s2 h2=>?_) hs;obtain⟨it,fp,tn,J,H2,e,I2,T,st2,f2,W,⟨m0,w0⟩,turn⟩:=h2;subst e
 -- what stays true of the iterator's objects through the loop
 have stat:∀{H':Hp},(∀b∈fp,H' b=none)→∀b∈fp,FpOk X pins H' b:=fun hn b hb=>⟨hn b hb,(f2 b hb).2⟩;refine codeAny_forLoop_any (fun n s'=>∃i σ' H',Inv X pins σ' H' s'∧tn i s'.heap∧(∀b∈fp,H' b=none)∧W i n σ' H') ?_ m0 ⟨0,σ,H2,I2,st2,fun b hb=>(f2 b hb).1,w0⟩;rintro n s3 ⟨i,σ3,H3,I3,st3,fr3,w3⟩;rcases turn i n σ3 H3 w3 with⟨stop,qn⟩ | ⟨go,N,hN,step⟩
 · refine wpAny_passesOwn hp (thn (T.done X rfl rfl rfl hc i pins s3 σ3 H3 X.xe I3 (stat fr3) st3 stop) fun r s4 ⟨hr,I4⟩=>?_);subst hr;exact wpAny_execs_nil ⟨σ3,H3,I4,qn⟩
 · refine wpAny_passesOwn hp (thn (T.item X rfl rfl rfl hc i pins s3 σ3 H3 X.xe I3 (stat fr3) st3 go) fun r s4 ⟨u,hr,h4⟩=>?_);subst hr;refine wpAny_passesOwn hp (thn h4 fun _ s5 ⟨x,H5,I5,r5,y5,st5,fr5⟩=>?_);have I5':=I5.pinned (stat fr5) (T.obj _ _ st5);refine wpAny_passesOwn hp (thn (hg _ s5 σ3 H5 x u _ I5' r5 (step x H5 y5)) fun _ s6 ⟨σ6,H6,I6,q6⟩=>?_);refine wpAny_passesOwn hp (thn (hb _ s6 σ6 H6 _ I6 q6) fun f s7 q7=>?_)
   have again:∀{σ7:St} {H7:Hp},Inv X (pins++a1v fp s5.heap) σ7 H7 s7→N σ7 H7→∃m,m < n∧∃i σ' H',Inv X pins σ' H' s7∧tn i s7.heap∧(∀b∈fp,H' b=none)∧W i m σ' H':=fun {σ7 H7} I7 n7=>by
     obtain⟨m',hm,w7⟩:=hN σ7 H7 n7;refine⟨m',hm,i + 1,σ7,H7,I7.unpinned,T.keep _ _ _ st5 fun b hb o e=>(I7.pin (b,o) (List.mem_append_right _ (List.mem_append_right _ (a0J hb e)))).1,fun b hb=>?_,w7⟩;obtain⟨o,e,d⟩:=T.obj _ _ st5 b hb;exact(I7.pin (b,o) (List.mem_append_right _ (List.mem_append_right _ (a0J hb e)))).2.1
   cases f with
   | next=>obtain⟨σ7,H7,I7,n7⟩:=q7;exact again I7 n7
   | cont=>obtain⟨σ7,H7,I7,n7⟩:=q7;exact again I7 n7
   | brk=>obtain⟨σ7,H7,I7,q7⟩:=q7;exact⟨σ7,H7,I7.unpinned,q7⟩
   | ret v=>obtain⟨x7,σ7,H7,I7,r7,q7⟩:=q7;exact⟨x7,σ7,H7,I7.unpinned,r7,q7⟩
end
end L2
namespace L2
open PySem PySem.Spec PyProof.Rows
abbrev R2:=V→V→Hp→VK→Prop
def OpR (X:Cx)(f:Value→Value→Sem Value)(r:R2):Prop:=
 ∀ (pins : List (Addr × Obj)) (s : Shared) (σ : St) (H : Hp) (x y : V) (v u : Value) (Q : VK), Inv X pins σ H s → RelV x v → RelV y u → r x y H Q →
   wpAny (model X.prog X.w) X.A (f v u) (EP X pins σ Q) X.xe s
def UnR (X:Cx)(f:Value→Sem Value)(r:V→Hp→VK→Prop):Prop:=
 ∀ (pins : List (Addr × Obj)) (s : Shared) (σ : St) (H : Hp) (x : V) (v : Value) (Q : VK), Inv X pins σ H s → RelV x v → r x H Q →
   wpAny (model X.prog X.w) X.A (f v) (EP X pins σ Q) X.xe s
def a1Y (X:Cx)(f:Value)(r:List V→Hp→VK→Prop):Prop:=
 ∀ (pins : List (Addr × Obj)) (s : Shared) (σ : St) (H : Hp) (xs : List V) (us : List Value) (Q : VK), Inv X pins σ H s → Vals xs us → r xs H Q →
   wpAny (model X.prog X.w) X.A (call f us) (EP X pins σ Q) X.xe s
def TruR (X:Cx)(r:V→Hp→(Bool→Hp→Prop)→Prop):Prop:=
 ∀ (pins : List (Addr × Obj)) (s : Shared) (σ : St) (H : Hp) (x : V) (v : Value) (Q : Bool → Hp → Prop), Inv X pins σ H s → RelV x v → r x H Q →
   wpAny (model X.prog X.w) X.A (truthy v) (TP X pins σ Q) X.xe s
def tOp (r:R2)(ta tb:TE):TE:=fun σ H Q=>ta σ H fun x H1=>tb σ H1 fun y H2=>r x y H2 Q
def tUn (r:V→Hp→VK→Prop)(ta:TE):TE:=fun σ H Q=>ta σ H fun x H1=>r x H1 Q
def rI (C:Int→Int→Prop)(g:Int→Int→V):R2:=fun x y H Q=>∃i j,x=.int i∧y=.int j∧C i j∧Q (g i j) H
def rI0 (g:Int→Int→V):R2:=fun x y H Q=>∃i j,x=.int i∧y=.int j∧Q (g i j) H
def rU (g:Int→V):V→Hp→VK→Prop:=fun x H Q=>∃i,x=.int i∧Q (g i) H
section
variable {X:Cx}{a b c:Expr}{ta tb tc:TE}{pos:Pos}
theorem binT (ha:PE X a ta)(hb:PE X b tb){pins:List (Addr×Obj)}{s:Shared}{σ:St}{H:Hp}{R:V→V→Hp→Prop}(I:Inv X pins σ H s)
   (h:ta σ H fun x H1=>tb σ H1 fun y H2=>R x y H2) {Q:Value→Shared→Prop} {f:Value→Value→Sem Value}
   (hf:∀v u s2 x y H2,Inv X pins σ H2 s2→RelV x v→RelV y u→R x y H2→wpAny (model X.prog X.w) X.A (f v u) Q X.xe s2) :
   wpAny (model X.prog X.w) X.A (eval a X.env) (fun v s₁=>wpAny (model X.prog X.w) X.A (eval b X.env) (fun u s₂=>wpAny (model X.prog X.w) X.A (f v u) Q X.xe s₂) X.xe s₁) X.xe s:=by
 refine thn (ha pins s σ H _ I h) fun v s1 ⟨x,H1,I1,r1,q1⟩=>?_;refine thn (hb pins s1 σ H1 _ I1 q1) fun u s2 ⟨y,H2,I2,r2,q2⟩=>?_;exact hf v u s2 x y H2 I2 r1 r2 q2
theorem a1q {op:Operator}{r:R2}(ho:OpR X (binaryOp op) r)(ha:PE X a ta)(hb:PE X b tb):PE X (.BinOp a op b pos) (tOp r ta tb):=by
 intro pins s σ H Q I h;exact wpAny_BinOp (binT ha hb I h fun v u s2 x y H2 I2 rx ry q=>ho pins s2 σ H2 x y v u Q I2 rx ry q)
theorem pe_un {op:UnaryOp}{r:V→Hp→VK→Prop}(ho:UnR X (unaryOp op) r)(ha:PE X a ta):PE X (.UnaryOp op a pos) (tUn r ta):=by
 intro pins s σ H Q I h;exact UnaryOp_ (thn (ha pins s σ H _ I h) fun v s1 ⟨x,H1,I1,r1,q1⟩=>ho pins s1 σ H1 x v Q I1 r1 q1)
theorem opI {f:Value→Value→Sem Value}{C:Int→Int→Prop}{g:Int→Int→Int}
   (rule:∀(i j:Int) (t u:Tok) (s:Shared) (Q:Value→Shared→Prop) (E:Value→Shared→Prop),C i j→Q (.int (g i j) s.toks) { s with toks:=s.toks + 1 }→wpAny (model X.prog X.w) X.A (f (.int i t) (.int j u)) Q E s) :
   OpR X f (rI C fun i j=>.int (g i j)):=by
 intro pins s σ H x y v u Q I rx ry h;obtain⟨i,j,rfl,rfl,hc,q⟩:=h;obtain⟨t,rfl⟩:=rx;obtain⟨t',rfl⟩:=ry;exact rule i j t t' s _ _ hc ⟨.int (g i j),H,I.tok _,⟨_,rfl⟩,q⟩
theorem opI0 {f:Value→Value→Sem Value}{g:Int→Int→Int}
   (rule:∀(i j:Int) (t u:Tok) (s:Shared) (Q:Value→Shared→Prop) (E:Value→Shared→Prop),Q (.int (g i j) s.toks) { s with toks:=s.toks + 1 }→wpAny (model X.prog X.w) X.A (f (.int i t) (.int j u)) Q E s) :
   OpR X f (rI0 fun i j=>.int (g i j)):=by
 intro pins s σ H x y v u Q I rx ry h;obtain⟨i,j,rfl,rfl,q⟩:=h;obtain⟨t,rfl⟩:=rx;obtain⟨t',rfl⟩:=ry;exact rule i j t t' s _ _ ⟨.int (g i j),H,I.tok _,⟨_,rfl⟩,q⟩
theorem opB0 {f:Value→Value→Sem Value}{g:Int→Int→Bool}
   (rule:∀(i j:Int) (t u:Tok) (s:Shared) (Q:Value→Shared→Prop) (E:Value→Shared→Prop),Q (.bool (g i j)) s→wpAny (model X.prog X.w) X.A (f (.int i t) (.int j u)) Q E s) :
   OpR X f (rI0 fun i j=>.bl (g i j)):=by
 intro pins s σ H x y v u Q I rx ry h;obtain⟨i,j,rfl,rfl,q⟩:=h;obtain⟨t,rfl⟩:=rx;obtain⟨t',rfl⟩:=ry;exact rule i j t t' s _ _ ⟨.bl (g i j),H,I,rfl,q⟩
def CDiv (i j:Int):Prop:=0 < j∧j < 1073741824
def CPow (i j:Int):Prop:=0≤j∧j≤1000000∧i.natAbs < 2 ^ 64
def CMul (i j:Int):Prop:=(-(2 ^ 64) < i∧i < 2 ^ 64)∨(-(2 ^ 64) < j∧j < 2 ^ 64)
theorem CMul.ok {i j:Int}(h:CMul i j):IntMulOk i j:=by
 rcases h with⟨h1,h2⟩ | ⟨h1,h2⟩
 · exact .of_left (intBits_le_64 h1 h2)
 · exact .of_right (intBits_le_64 h1 h2)
theorem a4I:OpR X (binaryOp .Add) (rI0 fun i j=>.int (i + j)):=opI0 fun _ _ _ _ _ _ _ q=>add_int q
theorem op_sub:OpR X (binaryOp .Sub) (rI0 fun i j=>.int (i - j)):=opI0 fun _ _ _ _ _ _ _ q=>sub_int q
theorem a5K:OpR X (binaryOp .Mult) (rI CMul fun i j=>.int (i * j)):=opI fun _ _ _ _ _ _ _ hc q=>mul_int q hc.ok
theorem a6D:OpR X (binaryOp .FloorDiv) (rI CDiv fun i j=>.int (i / j)):=opI fun i j _ _ _ _ _ hc q=>by
 have h1:(0:Int) < j:=hc.1;have h2:j < 1073741824:=hc.2;exact floordiv_int (by omega) (by rw [Int.fdiv_eq_ediv_of_nonneg i (by omega)];exact q) (.inl (PyProof.noPylong_small (by omega)))
theorem a4c:OpR X (binaryOp .Mod) (rI (fun _ j=>0 < j) fun i j=>.int (i % j)):=opI fun i j _ _ _ _ _ hc q=>by
 have h1:(0:Int) < j:=hc;exact mod_int' (by omega) (by rw [Int.fmod_eq_emod_of_nonneg i (by omega)];exact q)
theorem b2F:OpR X (binaryOp .Pow) (rI CPow fun i j=>.int (i ^ j.toNat)):=opI fun _ _ _ _ _ _ _ hc q=>pow_int_small hc.1 hc.2.1 hc.2.2 q
theorem unI {f:Value→Sem Value}{g:Int→Int}
   (rule:∀(i:Int) (t:Tok) (s:Shared) (Q:Value→Shared→Prop) (E:Value→Shared→Prop),Q (.int (g i) s.toks) { s with toks:=s.toks + 1 }→wpAny (model X.prog X.w) X.A (f (.int i t)) Q E s) :
   UnR X f (rU fun i=>.int (g i)):=by
 intro pins s σ H x v Q I rx h;obtain⟨i,rfl,q⟩:=h;obtain⟨t,rfl⟩:=rx;exact rule i t s _ _ ⟨.int (g i),H,I.tok _,⟨_,rfl⟩,q⟩
theorem un_neg:UnR X (unaryOp .USub) (rU fun i=>.int (-i)):=unI fun _ _ _ _ _ q=>neg_int q
end
def scal:V→V→Bool
 | .non,.non=>true | .non,.int _=>true | .int _,.non=>true | .non,.bl _=>true | .bl _,.non=>true | .non,.str _=>true | .str _,.non=>true
 | .int _,.int _=>true | .bl _,.bl _=>true | .str _,.str _=>true | .byt _,.byt _=>true
 | .int _,.str _=>true | .str _,.int _=>true | .bl _,.str _=>true | .str _,.bl _=>true
 | _,_=>false
def rEq:R2:=fun x y H Q=>scal x y=true∧Q (.bl (decide (x=y))) H
theorem b4r {i j:Int}:decide (V.int i=V.int j)=(i == j):=by
 rw [Bool.eq_iff_iff];simp
theorem dec_bl {i j:Bool}:decide (V.bl i=V.bl j)=(i == j):=by
 rw [Bool.eq_iff_iff];simp
theorem b4q {i j:Str}:decide (V.str i=V.str j)=(i == j):=by
 rw [Bool.eq_iff_iff];simp
theorem b4s {i j:Array UInt8}:decide (V.byt i=V.byt j)=(i.toList == j.toList):=by
 rw [Bool.eq_iff_iff];cases i;cases j;simp
section
variable {X:Cx}{a b c:Expr}{ta tb tc:TE}{pos:Pos}
theorem a1c {pins:List (Addr×Obj)}{σ:St}{H:Hp}{s:Shared}{Q:VK}{k k':Bool}(I:Inv X pins σ H s)(q:Q (.bl k) H)(e:k=k'):EP X pins σ Q (.bool k') s:=by
 subst e;exact⟨.bl k,H,I,rfl,q⟩
theorem op_eq:OpR X (compareOp .Eq) rEq:=by
 intro pins s σ H x y v u Q I rx ry h;obtain⟨hs,q⟩:=h;cases x with
 | non =>
   cases rx;cases y with
   | non=>cases ry;exact PySem.EqNone.eq_none_none (a1c I q (by simp))
   | bl j=>cases ry;exact PySem.EqNone.eq_none_bool (a1c I q (by simp))
   | int j=>obtain⟨t',rfl⟩:=ry;exact PySem.EqNone.eq_none_int (a1c I q (by simp))
   | str j=>obtain⟨t',rfl⟩:=ry;exact PySem.EqNone.eq_none_str (a1c I q (by simp))
   | _=>exact absurd (show false=true from hs) Bool.false_ne_true
 | bl i =>
   cases rx;cases y with
   | non=>cases ry;exact PySem.EqNone.eq_bool_none (a1c I q (by simp))
   | bl j=>cases ry;exact eq_bool (a1c I q dec_bl)
   | str j=>obtain⟨t',rfl⟩:=ry;exact PySem.EqMixed.eq_bool_str (a1c I q (by simp))
   | _=>exact absurd (show false=true from hs) Bool.false_ne_true
 | int i =>
   obtain⟨t,rfl⟩:=rx;cases y with
   | non=>cases ry;exact PySem.EqNone.eq_int_none (a1c I q (by simp))
   | int j=>obtain⟨t',rfl⟩:=ry;exact eq_int (a1c I q b4r)
   | str j=>obtain⟨t',rfl⟩:=ry;exact PySem.EqMixed.eq_int_str (a1c I q (by simp))
   | _=>exact absurd (show false=true from hs) Bool.false_ne_true
 | str i =>
   obtain⟨t,rfl⟩:=rx;cases y with
   | non=>cases ry;exact PySem.EqNone.eq_str_none (a1c I q (by simp))
   | bl j=>cases ry;exact PySem.EqMixed.eq_str_bool (a1c I q (by simp))
   | int j=>obtain⟨t',rfl⟩:=ry;exact PySem.EqMixed.eq_str_int (a1c I q (by simp))
   | str j=>obtain⟨t',rfl⟩:=ry;exact eq_str (a1c I q b4q)
   | _=>exact absurd (show false=true from hs) Bool.false_ne_true
 | byt i =>
   obtain⟨t,rfl⟩:=rx;cases y with
   | byt j=>obtain⟨t',rfl⟩:=ry;exact PySem.W.eq_bytes (a1c I q b4s)
   | _=>exact absurd (show false=true from hs) Bool.false_ne_true
 | _=>cases y <;> exact absurd (show false=true from hs) Bool.false_ne_true
theorem op_lt:OpR X (compareOp .Lt) (rI0 fun i j=>.bl (decide (i < j))):=opB0 fun _ _ _ _ _ _ _ q=>lt_int q
theorem op_gt:OpR X (compareOp .Gt) (rI0 fun i j=>.bl (decide (j < i))):=opB0 fun _ _ _ _ _ _ _ q=>gt_int q
theorem op_ge:OpR X (compareOp .GtE) (rI0 fun i j=>.bl (decide (j≤i))):=opB0 fun _ _ _ _ _ _ _ q=>ge_int q
theorem a9C:OpR X (compareOp .Lt) (fun x y H Q=>∃i j,x=.str i∧y=.str j∧Q (.bl (decide (i.cps.toList < j.cps.toList))) H):=by
 intro pins s σ H x y v u Q I rx ry h;obtain⟨i,j,rfl,rfl,q⟩:=h;obtain⟨t,rfl⟩:=rx;obtain⟨t',rfl⟩:=ry;exact lt_str (a1c I q rfl)
theorem a9D:OpR X (compareOp .In) (fun x y H Q=>∃i j,x=.str i∧y=.str j∧Q (.bl (!(Builtin.Str.occurrences j i 0 j.length 1).isEmpty)) H):=by
 intro pins s σ H x y v u Q I rx ry h;obtain⟨i,j,rfl,rfl,q⟩:=h;obtain⟨t,rfl⟩:=rx;obtain⟨t',rfl⟩:=ry;exact in_str (a1c I q rfl)
theorem b3F:OpR X (compareOp .IsNot) (fun x y H Q=>y=.non∧Q (.bl (!decide (x=.non))) H):=by
 intro pins s σ H x y v u Q I rx ry h;obtain⟨rfl,q⟩:=h;cases ry;refine isnot_none_gen (a1c I q ?_)
 cases x <;> first
   | (cases rx;rfl)
   | (obtain⟨t,rfl⟩:=rx;rfl)
theorem OpR.or {f:Value→Value→Sem Value}{r r':R2}(h:OpR X f r)(h':OpR X f r'):OpR X f (fun x y H Q=>r x y H Q∨r' x y H Q):=by
 intro pins s σ H x y v u Q I rx ry q;rcases q with q | q
 · exact h pins s σ H x y v u Q I rx ry q
 · exact h' pins s σ H x y v u Q I rx ry q
theorem a0A (b:Expr){op:CmpOp}(h:op≠.In:=by decide)(h2:op≠.NotIn:=by decide):behindInMarks op b=false:=by
 have e1:(op == CmpOp.In)=false:=by cases op <;> first | rfl | exact absurd rfl h
 have e2:(op == CmpOp.NotIn)=false:=by cases op <;> first | rfl | exact absurd rfl h2
 cases b <;> simp [behindInMarks,e1,e2]
theorem a9z {op:CmpOp}{r:R2}(ho:OpR X (compareOp op) r)(ha:PE X a ta)(hb:PE X b tb)(hm:behindInMarks op b=false):PE X (.Compare a [op] [b] pos) (tOp r ta tb):=by
 intro pins s σ H Q I h;exact wpAny_Compare1 (binT ha hb I h fun v u s2 x y H2 I2 rx ry q=>ho pins s2 σ H2 x y v u Q I2 rx ry q) hm
def tTest (t:TE):TT:=fun σ H Q=>t σ H fun x H'=>∃k,x=.bl k∧Q k H'
theorem a3X {op:CmpOp}{r:R2}(ho:OpR X (compareOp op) r)(ha:PE X a ta)(hb:PE X b tb)(hm:behindInMarks op b=false):PT X (.Compare a [op] [b] pos) (tTest (tOp r ta tb)):=by
 intro pins s σ H Q I h
 refine wpAny_isTrue_Compare1 (thn (ha pins s σ H _ I h) fun v s1 ⟨x,H1,I1,r1,q1⟩=>thn (hb pins s1 σ H1 _ I1 q1) fun u s2 ⟨y,H2,I2,r2,q2⟩=>
   thn (ho pins s2 σ H2 x y v u _ I2 r1 r2 q2) fun c s3 ⟨z,H3,I3,r3,k,e,q3⟩=>?_) hm
 subst e;cases r3;exact wpAny_truthy_bool ⟨H3,I3,q3⟩
def TruV (K:PySem.W.Frag)(x:V)(H:Hp)(k:Bool):Prop:=
 match x with
 | .non=>k=false
 | .bl b=>k=b
 | .int i=>k=(i != 0)
 | .str y=>y.length≤sizeLine∧k=((y.length:Int) != 0)
 | .byt y=>y.size≤sizeLine∧k=((y.size:Int) != 0)
 | .ref p=>(∃xs,SqL K H p xs∧k=!xs.isEmpty)∨(∃xs,SqT K H p xs∧k=!xs.isEmpty)∨∃kvs,H p=some (.dK kvs)∧k=!kvs.isEmpty
 | _=>False
theorem a8w {κ:Type}{kvs:List (κ×V)}{vs:List (κ×Value)}(r:KV kvs vs):(!vs.isEmpty)=!kvs.isEmpty:=by
 cases r <;> rfl
theorem a4L {xs:List V}{its:List Value}(r:Vals xs its):(!its.toArray.isEmpty)=!xs.isEmpty:=by
 cases r <;> simp
theorem a4h:(sizeLine:Nat) < 2 ^ 63:=by rw [sizeLine_eq];decide
theorem tru_ok:TruR X (fun x H Q=>∃k,TruV X.K x H k∧Q k H):=by
 intro pins s σ H x v Q I rx h;obtain⟨k,e,q⟩:=h;have hl:=a4h;have hs:sizeLine=16777216:=sizeLine_eq;cases x with
 | non =>
   cases rx;have e':k=false:=e;subst e';exact truthy_none ⟨H,I,q⟩
 | bl b =>
   cases rx;have e':k=b:=e;subst e';exact wpAny_truthy_bool ⟨H,I,q⟩
 | int i =>
   obtain⟨t,rfl⟩:=rx;have e':k=(i != 0):=e;subst e';exact PySem.P.truthy_int ⟨H,I,q⟩
 | str y =>
   obtain⟨t,rfl⟩:=rx;obtain⟨hy,e'⟩:y.length≤sizeLine∧k=((y.length:Int) != 0):=e;subst e';exact PySem.P.truthy_str (by omega) ⟨H,I.tok _,q⟩
 | byt y =>
   obtain⟨t,rfl⟩:=rx;obtain⟨hy,e'⟩:y.size≤sizeLine∧k=((y.size:Int) != 0):=e;subst e';exact PySem.W.truthy_bytes (by omega) ⟨H,I.tok _,q⟩
 | ref p =>
   cases rx;have e':(∃xs,SqL X.K H p xs∧k=!xs.isEmpty)∨(∃xs,SqT X.K H p xs∧k=!xs.isEmpty)∨∃kvs,H p=some (.dK kvs)∧k=!kvs.isEmpty:=e;rcases e' with⟨xs,hx,e'⟩ | ⟨xs,hx,e'⟩ | ⟨kvs,hx,e'⟩
   · subst e';obtain⟨its,r,pl,hz⟩:=I.list hx;have hlen:=r.length;exact wpAny_truthy_list pl.isList (by simp only [List.size_toArray];omega) ⟨H,I.tok _,by rw [a4L r];exact q⟩
   · subst e';obtain⟨its,r,pl,hz⟩:=I.tuple hx;have hlen:=r.length;exact truthy_tuple pl (by simp only [List.size_toArray];omega) ⟨H,I.tok _,by rw [a4L r];exact q⟩
   · subst e';obtain⟨hz,hS,vs,r,m⟩:kvs.length≤sizeLine∧(p == sysModules)=false∧∃vs,KV kvs vs∧s.heap.DictOf (a0s X.prog X.w) p vs:=I.hok p _ hx;have hlen:kvs.length=vs.length:=Paired.length r;exact wpAny_truthy_dict hS m (by omega) ⟨H,I.tok _,by rw [a8w r];exact q⟩
 | _=>exact(show False from e).elim
theorem a8j:OpR X (binaryOp .Add) (fun x y H Q=>∃i j,x=.str i∧y=.str j∧i.length + j.length≤sizeLine∧Q (.str (i++j)) H):=by
 intro pins s σ H x y v u Q I rx ry h;obtain⟨i,j,rfl,rfl,hz,q⟩:=h;obtain⟨t,rfl⟩:=rx;obtain⟨t',rfl⟩:=ry;exact add_str (fun t' tk=>⟨.str (i++j),H,I.tok _,⟨_,rfl⟩,q⟩) hz
theorem a6n {x:V}{us:List Value}(r:Vals [x] us):∃u,us=[u]∧RelV x u:=by
 cases r with
 | cons r1 r2=>cases r2;exact⟨_,rfl,r1⟩
theorem vals2 {x y:V}{us:List Value}(r:Vals [x,y] us):∃u w',us=[u,w']∧RelV x u∧RelV y w':=by
 cases r with
 | cons r1 r2 =>
   cases r2 with
   | cons r3 r4=>cases r4;exact⟨_,_,rfl,r1,r3⟩
theorem b0H (hc:X.calm=true):a1Y X (.builtin "min") (fun xs H Q=>∃i j,xs=[.int i,.int j]∧Q (.int (if j < i then j else i)) H):=by
 intro pins s σ H xs us Q I r h;obtain⟨i,j,rfl,q⟩:=h;obtain⟨u,w',rfl,⟨t,rfl⟩,⟨t',rfl⟩⟩:=vals2 r;refine min_two_ints (I.ok.hd hc) fun h' tk k=>⟨_,H,I.kept k,?_,q⟩
 by_cases hj:j < i
 · rw [if_pos hj,if_pos hj];exact⟨_,rfl⟩
 · rw [if_neg hj,if_neg hj];exact⟨_,rfl⟩
theorem b0J:a1Y X (.type "int") (fun xs H Q=>(∃i,xs=[.int i]∧Q (.int i) H)∨∃k,xs=[.bl k]∧Q (.int (if k then 1 else 0)) H):=by
 intro pins s σ H xs us Q I r h;rcases h with⟨i,rfl,q⟩ | ⟨k,rfl,q⟩
 · obtain⟨u,rfl,t,rfl⟩:=a6n r;exact call_int_int ⟨.int i,H,I,⟨_,rfl⟩,q⟩
 · obtain⟨u,rfl,r1⟩:=a6n r;cases r1;exact call_int_bool ⟨.int (if k then 1 else 0),H,I.tok _,⟨_,rfl⟩,q⟩
end
end L2
namespace L2
open PySem PySem.Spec PyProof.Rows
theorem RelO.some_of {v:V}{o:Option Value}(r:RelO (some v) o):∃u,o=some u∧RelV v u:=by
 cases o with
 | none=>exact(show False from r).elim
 | some u=>exact⟨u,rfl,r⟩
end L2
namespace L2
open PySem PySem.Spec PyProof.Rows
structure Room (k:Nat)(A:Around):Prop where
 hd:A.handled=none
 dp:A.depth + 3 * k + 5 < recursionLimit
 un:A.units + 16 * k + 200 < cLine
 gd:A.guards=some []
theorem Room.mono {j k:Nat}{A:Around}(r:Room k A)(h:j≤k):Room j A:=⟨r.hd,by have:=r.dp;omega,by have:=r.un;omega,r.gd⟩
theorem Room.deeper {k:Nat}{A:Around}(r:Room (k + 1) A)(env:Env):Room k (A.deeper env):=
 ⟨r.hd,by have:=r.dp;show A.depth + 1 + 3 * k + 5 < _;omega,by have:=r.un;show A.units + 3 + 16 * k + 200 < _;omega,r.gd⟩
theorem Room.in1 {k:Nat}{A:Around}(r:Room (k + 1) A):Room k A.in1:=
 ⟨r.hd,by have:=r.dp;show A.depth + 3 * k + 5 < _;omega,by have:=r.un;show A.units + 1 + 16 * k + 200 < _;omega,r.gd⟩
theorem Room.depth {k:Nat}{A:Around}(r:Room k A):A.depth < recursionLimit:=by have:=r.dp;omega
theorem Room.units {k:Nat}{A:Around}(r:Room k A):A.units + 64 < cLine:=by have:=r.un;omega
def tNil:TA:=fun _ H Q=>Q [] H
def a3L (ta:TE)(tr:TA):TA:=fun σ H Q=>ta σ H fun x H1=>tr σ H1 fun xs H2=>Q (x::xs) H2
section
variable {X:Cx}{e:Expr}{es:List Expr}{te:TE}{t:TA}{pos:Pos}
theorem a0K:PA X [] tNil:=fun _ _ _ _ H Q I h=>Calls.spliced_nil ⟨[],H,I,.nil,h⟩
theorem a0r (ha:PE X e te)(hr:PA X es t)(hs:starEach (e::es) X.env=(false,eval e X.env)::starEach es X.env:=by rfl):PA X (e::es) (a3L te t):=by
 intro pos pins s σ H Q I h;rw [hs];show wpAny _ _ (spliced ((false,eval e X.env)::backTo pos (starEach es X.env))) _ _ s;refine Calls.spliced_cons (thn (ha pins s σ H _ I h) fun u s1 ⟨x,H1,I1,r1,q1⟩=>?_);exact thn (hr pos pins s1 σ H1 _ I1 q1) fun us s2 ⟨xs,H2,I2,r2,q2⟩=>⟨x::xs,H2,I2,.cons r1 r2,q2⟩
def tTup (t:TA):TE:=fun σ H Q=>t σ H fun xs H1=>xs.length≤sizeLine∧∀p,H1 p=none→Q (.ref p) (upd H1 p (.tup xs))
def tLst (t:TA):TE:=fun σ H Q=>t σ H fun xs H1=>xs.length≤sizeLine∧∀p,H1 p=none→Q (.ref p) (upd H1 p (.lst xs))
theorem a9w {x1}(h:PA X es t):PE X (.Tuple es x1 pos) (tTup t):=by
 intro pins s σ H Q I hq;refine wpAny_Tuple_spliced (thn (h pos pins s σ H _ I hq) fun us s1 ⟨xs,H1,I1,r,z,q⟩=>⟨by rw [← r.length];exact z,?_⟩);have hf:H1 s1.heap.objs.size=none:=I1.hok.fresh (Nat.le_refl _);refine⟨.ref s1.heap.objs.size,upd H1 s1.heap.objs.size (.tup xs),I1.laid (t':=s1.toks) (fun b u e=>Heap.get?_push_of_some _ e) (Nat.le_refl _) ?_,rfl,q _ hf⟩;exact⟨z,us,r,⟨_,Heap.get?_push_size _ rfl,rfl,_,rfl⟩⟩
theorem pe_lst (h:PA X es t):PE X (.List es pos) (tLst t):=by
 intro pins s σ H Q I hq;refine wpAny_List_spliced (thn (h pos pins s σ H _ I hq) fun us s1 ⟨xs,H1,I1,r,z,q⟩=>⟨by rw [← r.length];exact z,?_⟩);have hf:H1 s1.heap.objs.size=none:=I1.hok.fresh (Nat.le_refl _);refine⟨.ref s1.heap.objs.size,upd H1 s1.heap.objs.size (.lst xs),I1.laid (t':=s1.toks) (fun b u e=>Heap.get?_push_of_some _ e) (Nat.le_refl _) ?_,rfl,q _ hf⟩;exact⟨z,us,0,r,Heap.get?_push_size _ rfl⟩
end
abbrev Sp:=List V→Hp→VK→XK→Prop
abbrev CXT:=List Env→Hp→Shared→XK→Value→Shared→Prop
structure Env0 (P:Program)(w:World)(K:PySem.W.Frag)(mg:Str→Option Value)(base:Heap)(A:Around)(outer:List Env)(s:Shared)(H:Hp):Prop where
 frames:A.frames=some outer
 mod:Mod K mg base
 bs:∀b o,base.get? b=some o→s.heap.get? b=some o∧H b=none
 bsz:base.objs.size≤s.heap.objs.size
 funs:s.heap.FunFrames base outer
 frf:∀b∈frs outer,H b=none
 hok:HOk P w H s.heap
 bare:AllBare s.gens
 nos:NS H
def CE (outer:List Env)(P:Program)(w:World)(H:Hp)(s:Shared)(Q:VK)(u:Value)(s':Shared):Prop:=
 ∃v H',s'.os=s.os∧AllBare s'.gens∧Un (frs outer) [] H H' s.heap s'.heap∧HOk P w H' s'.heap∧RelV v u∧Q v H'
def CR (CX:CXT)(outer:List Env)(P:Program)(w:World)(H:Hp)(s:Shared)(Q:VK)(E:XK)(r:Result)(s':Shared):Prop:=
 match r with
 | .ok (.ret u)=>CE outer P w H s Q u s'
 | .ok _=>False
 | .error e=>CX outer H s E e s'
structure FnOk (P:Program)(w:World)(K:PySem.W.Frag)(mg:Str→Option Value)(base:Heap)(CX:CXT)(k:Nat)(f:Addr)(fd:FuncData)(ps:List Str)(sp:Sp):Prop where
 len:∀vs H Q E,sp vs H Q E→vs.length=ps.length
 run:∀(A:Around) (outer:List Env) (s:Shared) (H:Hp) (args:Args) (us:List Value) (vs:List V) (Q:VK) (E:XK),Room k A→Env0 P w K mg base A outer s H→BindsTo s fd args (ps.zip us)→Vals vs us→sp vs H Q E→
   codeAny (model P w) A (.call (.ref f) args) (CR CX outer P w H s Q E) s
theorem FnOk.imp {P:Program}{w:World}{K:PySem.W.Frag}{mg:Str→Option Value}{base:Heap}{CX:CXT}{k:Nat}{f:Addr}{fd:FuncData}{ps:List Str}{sp sp':Sp}(F:FnOk P w K mg base CX k f fd ps sp)
   (h:∀vs H Q E,sp' vs H Q E→sp vs H Q E):FnOk P w K mg base CX k f fd ps sp':=
 ⟨fun vs H Q E q=>F.len vs H Q E (h _ _ _ _ q),fun A outer s H args us vs Q E hr he hb hv hs=>F.run A outer s H args us vs Q E hr he hb hv (h _ _ _ _ hs)⟩
section
variable {X:Cx}{pins:List (Addr×Obj)}{σ:St}{H:Hp}{s s':Shared}
theorem Inv.env0 (I:Inv X pins σ H s):Env0 X.prog X.w X.K X.mg X.base X.A X.stack s H:=
 ⟨I.ok.frames,I.ok.mod,I.bs,Nat.le_trans I.ok.bsz I.sz,I.stack,I.stkFree,I.hok,I.bare,I.nos⟩
theorem Inv.after {Q:VK}{u:Value}(I:Inv X pins σ H s)(h:CE X.stack X.prog X.w H s Q u s'):EP X pins σ Q u s':=by
 obtain⟨v,H',os,bare,un,hok,r,q⟩:=h;obtain⟨hh,g,d,t,os'⟩:=s';obtain rfl:os'=s.os:=os;exact⟨v,H',I.call (h':=hh) (g':=g) (d':=d) (t':=t) (ch:=[]) un hok bare (fun b z=>absurd z (by simp)),r,q⟩
end
def tCall (sp:Sp)(dvs:List V)(E:XK)(t:TA):TE:=fun σ H Q=>t σ H fun vs H1=>sp (vs++dvs) H1 Q E
def a8I (K:PySem.W.Frag)(fd:FuncData)(ps:List Str)(ds:List Value):Prop:=
 ∀(s:Shared) (us:List Value),K.In s.heap→(us++ds).length=ps.length→BindsTo s fd ⟨us,[]⟩ (ps.zip (us++ds))
theorem a8I.all {K:PySem.W.Frag}{fd:FuncData}{ps:List Str}(h:∀us:List Value,us.length=ps.length→bindArgs fd ⟨us,[]⟩=pure (ps.zip us)):a8I K fd ps []:=fun s us _ hl=>by
 rw [List.append_nil] at hl ⊢;exact .of_eq (h us hl)
def b0X (CX:CXT)(X:Cx)(E:XK):Prop:=∀(pins:List (Addr×Obj)) (σ:St) (H:Hp) (s:Shared) (e:Value) (s':Shared),Inv X pins σ H s→CX X.stack H s E e s'→X.xe e s'
section
variable {X:Cx}{CX:CXT}{k:Nat}{f C:Addr}{fd:FuncData}{ps:List Str}{sp:Sp}{dvs:List V}{ds:List Value}{E:XK}{x m:Str}{p pos apos:Pos}{e o:Expr}{es:List Expr}{ta:TE}{t:TA}
theorem run_fn {pins:List (Addr×Obj)}{σ:St}{H:Hp}{s:Shared}{Q:VK}{us:List Value}{vs:List V}(F:FnOk X.prog X.w X.K X.mg X.base CX k f fd ps sp)(hr:Room k X.A)(hb:a8I X.K fd ps ds)(hd:Vals dvs ds)(hx:b0X CX X E)
   (I:Inv X pins σ H s) (r:Vals vs us) (h:sp (vs++dvs) H Q E):wpAny (model X.prog X.w) X.A (call (.ref f) us) (EP X pins σ Q) X.xe s:=by
 have r2:Vals (vs++dvs) (us++ds):=r.append hd;have hl:(us++ds).length=ps.length:=by rw [← r2.length];exact F.len _ _ _ _ h
 refine wpAny_call (codeAny_mono (F.run X.A X.stack s H ⟨us,[]⟩ (us++ds) (vs++dvs) Q E hr I.env0 (hb s us I.kIn hl) r2 h) fun r s' hq=>?_);cases r with
 | error e=>exact hx pins σ H s e s' I hq
 | ok fl =>
   cases fl with
   | ret u=>exact I.after hq
   | next=>exact False.elim hq
   | brk=>exact False.elim hq
   | cont=>exact False.elim hq
theorem b3D (F:FnOk X.prog X.w X.K X.mg X.base CX k f fd ps sp)(hr:Room k X.A)(hg:Gl X x)(hm:X.mg x=some (.ref f))(hk:PySem.W.keepIn X.K (.ref f)=true)(hb:a8I X.K fd ps ds)(hd:Vals dvs ds)(hx:b0X CX X E)
   (ha:PA X (e::es) t) (hdb:(x == ("__debug__":Str))=false:=by decide) (he:starEach (e::es) X.env=(false,eval e X.env)::starEach es X.env:=by rfl) (hpl:(backTo pos (starEach es X.env)).any (·.1)=false:=by rfl) :
   PE X (.Call (.Name x p) (e::es) [] pos) (tCall sp dvs E t):=by
 intro pins s σ H Q I h;refine wpAny_Call_Name_kw (b3X I hg hm ?_ hdb);refine PySem.W.callWith_K (h₀:=X.base) I.ok.mod.kin hk (thn (ha pos pins s σ H _ I h) fun us s1 ⟨vs,H1,I1,r,q⟩=>⟨I1.kIn,?_⟩) he hpl;exact run_fn F hr hb hd hx I1 r q
end
def PK (X:Cx)(kws:List Keyword)(t:TA):Prop:=
 ∀(pos:Pos) (pins:List (Addr×Obj)) (s:Shared) (σ:St) (H:Hp) (Q:List V→Hp→Prop),Inv X pins σ H s→t σ H Q→wpAny (model X.prog X.w) X.A (evalAll ((backToKw pos (keywordEach kws X.env)).map (·.2))) (AP X pins σ Q) X.xe s
structure a0o (N P:List Str)(sc:Scope):Prop where
 kind:sc.kind=.function
 co:sc.isCoroutine=false
 gen:sc.isGenerator=false
 nd:N.Nodup
 pre:N.take P.length=P
 par:∀x∈P,sc.names.lookup x=some .local∨sc.names.lookup x=some .cell
 nofree:∀y∈sc.names,y.2≠.free
theorem a6f {kindOf:Str→Option NameKind}{x:Str}:∀{binds:List (Str×Value)} {m:Str→Option Value},(∀v,(x,v)∉binds)→bindL kindOf binds m x=m x
 | [],_,_=>rfl
 | (n, v) :: r, m, h => by
   unfold bindL;rw [a6f fun w hw=>h w (List.mem_cons_of_mem _ hw)]
   split
   · have:x≠n:=by rintro rfl;exact h v List.mem_cons_self
     simp [this]
   · rfl
theorem a6h {kindOf:Str→Option NameKind}{x:Str}:∀{binds:List (Str×Value)} {m:Str→Option Value},(∀v,(x,v)∉binds)→bindC kindOf binds m x=m x
 | [],_,_=>rfl
 | (n, v) :: r, m, h => by
   unfold bindC;rw [a6h fun w hw=>h w (List.mem_cons_of_mem _ hw)]
   split
   · rfl
   · have:x≠n:=by rintro rfl;exact h v List.mem_cons_self
     simp [this]
theorem a6g {kindOf:Str→Option NameKind}{x:Str}{v:Value}:∀{P:List Str} {vs:List Value} {i:Nat} {m:Str→Option Value},P.Nodup→P[i]?=some x→vs[i]?=some v→kindOf x=some .local→
   bindL kindOf (P.zip vs) m x=some v
 | [],_,_,_,_,h,_,_=>by simp at h
 | _::_,[],_,_,_,_,h,_=>by simp at h
 | p :: P, w :: vs, 0, m, nd, h1, h2, hk => by
   simp at h1 h2;subst h1;subst h2;show bindL kindOf ((p,w)::P.zip vs) m p=_;unfold bindL;rw [a6f fun v hv=>(List.nodup_cons.mp nd).1 (List.of_mem_zip hv).1,if_pos hk];simp
 | p :: P, w :: vs, i + 1, m, nd, h1, h2, hk => by
   show bindL kindOf ((p,w)::P.zip vs) m x=_;unfold bindL;exact a6g (i:=i) (List.nodup_cons.mp nd).2 (by simpa using h1) (by simpa using h2) hk
theorem a6i {kindOf:Str→Option NameKind}{x:Str}{v:Value}:∀{P:List Str} {vs:List Value} {i:Nat} {m:Str→Option Value},P.Nodup→P[i]?=some x→vs[i]?=some v→kindOf x≠some .local→
   bindC kindOf (P.zip vs) m x=some v
 | [],_,_,_,_,h,_,_=>by simp at h
 | _::_,[],_,_,_,_,h,_=>by simp at h
 | p :: P, w :: vs, 0, m, nd, h1, h2, hk => by
   simp at h1 h2;subst h1;subst h2;show bindC kindOf ((p,w)::P.zip vs) m p=_;unfold bindC;rw [a6h fun v hv=>(List.nodup_cons.mp nd).1 (List.of_mem_zip hv).1,if_neg hk];simp
 | p :: P, w :: vs, i + 1, m, nd, h1, h2, hk => by
   show bindC kindOf ((p,w)::P.zip vs) m x=_;unfold bindC;exact a6i (i:=i) (List.nodup_cons.mp nd).2 (by simpa using h1) (by simpa using h2) hk
def a3b (N:List Str)(vs:List V):St:=vs.map some++List.replicate (N.length - vs.length) none
def cxOf (CX:CXT)(P:Program)(w:World)(K:PySem.W.Frag)(mg:Str→Option Value)(base:Heap)(N:List Str)(qual:Str)(scope:Scope)(f:Addr)(cd:Value)(A:Around)(outer:List Env)(s:Shared)(H:Hp)(E:XK):Cx where
 prog:=P
 w:=w
 K:=K
 mg:=mg
 base:=base
 A:=A.deeper (envOfC qual scope s.heap.objs.size f cd)
 N:=N
 s₀:=s
 H₀:=H
 env:=envOfC qual scope s.heap.objs.size f cd
 outer:=outer
 stack:=envOfC qual scope s.heap.objs.size f cd::outer
 ex:=[]
 calm:=true
 fn:=fun _=>true
 pn:=[]
 xe:=fun e s'=>wpAny (model P w) (A.deeper (envOfC qual scope s.heap.objs.size f cd)) (leaving (envOfC qual scope s.heap.objs.size f cd) e) (fun _ s''=>CX outer H s E e s'') (fun e' s''=>CX outer H s E e' s'') s'
theorem a7O {sc:Scope}{n:Nat}{x:Str}(h:sc.names.lookup x=some .cell):∃c,(cellsFrom n sc.names []).lookup x=some c:=by
 have q:=PySem.W.cellsFrom_some sc.names n [] (.inl h);exact Option.isSome_iff_exists.mp q
theorem b0k {CX:CXT}{P:Program}{w:World}{K:PySem.W.Frag}{mg:Str→Option Value}{base:Heap}{N ps:List Str}{qual:Str}{scope:Scope}{f:Addr}{cd:Value}{A:Around}{outer:List Env}{s s1:Shared}{H:Hp}{E:XK}{us:List Value}{vs:List V}
   (S:a0o N ps scope) (hd:A.handled=none) (e0:Env0 P w K mg base A outer s H) (hl:vs.length=ps.length) (r:Vals vs us)
   (x:InCallC s s.heap.objs.size (bindL (envOfC qual scope s.heap.objs.size f cd).kindOf (ps.zip us) fun _=>none) (cellsFrom (s.heap.objs.size + 1) scope.names []) (bindC (envOfC qual scope s.heap.objs.size f cd).kindOf (ps.zip us) fun _=>none) s1) :
   Inv (cxOf CX P w K mg base N qual scope f cd A outer s H E) [] (a3b N vs) H s1:=by
 have hpl:ps.length≤N.length:=by have:=congrArg List.length S.pre;rw [List.length_take] at this;omega
 obtain⟨h1,tk,rfl,hk⟩:=x.done;have noA:∀b:Addr,b∉(cxOf CX P w K mg base N qual scope f cd A outer s H E).ex:=fun b z=>absurd (show b∈([]:List Addr) from z) (by simp)
 refine⟨⟨e0.mod,S.kind,rfl,rfl,Nat.le_refl _,fun y z c h1 h2=>?_,fun y hy=>?_,fun y c _ h=>?_,fun _=>hd,Around.frames_deeper e0.frames,.inr ⟨rfl,rfl⟩,fun b z=>absurd z (noA b),e0.bs,e0.bsz,fun b _ _=>noA b,fun b z=>absurd z (noA b),e0.funs,e0.frf,e0.nos⟩,
   rfl,e0.bare,Un.kept hk,⟨_,x.toInCall.ns,fun i y v h1 h2 h3=>?_⟩,fun y c h=>⟨_,x.cell y c h⟩,e0.hok.fresh (Nat.le_refl _),fun y c h=>?_,fun p hp=>absurd (show p∈([]:List (Addr×Obj)) from hp) (by simp),e0.hok.kept hk,?_⟩
 · exact name_of_addr x.apart (PySem.mem_of_lookup h1) (PySem.mem_of_lookup h2)
 · have hy:scope.names.lookup y=some .cell∨scope.names.lookup y=some .free:=hy;rcases hy with hy | hy
   · exact a7O hy
   · exact absurd rfl (S.nofree _ (PySem.mem_of_lookup hy))
 · exact Nat.le_of_lt (x.above y c (PySem.mem_of_lookup h))
 · have hi:i < vs.length:=by
     unfold a3b at h2
     by_cases hi:i < vs.length
     · exact hi
     · rw [List.getElem?_append_right (by simpa using hi)] at h2;rw [List.getElem?_replicate] at h2
       split at h2 <;> cases h2
   have ha:vs[i]?=some v:=by
     unfold a3b at h2;rw [List.getElem?_append_left (by simpa using hi),List.getElem?_map] at h2;cases e:vs[i]? with
     | none=>rw [e] at h2;cases h2
     | some a=>rw [e] at h2;cases h2;rfl
   obtain⟨u,hu,rv⟩:=r.get ha
   have hp:ps[i]?=some y:=by
     rw [← S.pre,List.getElem?_take_of_lt (by omega)];exact h1
   have ndP:ps.Nodup:=by rw [← S.pre];exact S.nd.sublist (List.take_sublist _ _)
   refine⟨u,rv,?_⟩;rcases S.par y (List.mem_of_getElem? hp) with k | k
   · exact .inl ⟨k,a6g ndP hp hu k⟩
   · obtain⟨c,e⟩:=a7O (n:=s.heap.objs.size + 1) k;refine .inr ⟨.inl k,c,e,?_⟩;have q:=x.cell y c e;rw [a6i ndP hp hu (by show scope.names.lookup y≠_;rw [k];decide)] at q;exact q
 · exact e0.hok.fresh (Nat.le_of_lt (x.above y c (PySem.mem_of_lookup h)))
 · unfold a3b;show _=N.length;rw [List.length_append,List.length_map,List.length_replicate];omega
theorem fn_of {CX:CXT}{P:Program}{w:World}{K:PySem.W.Frag}{mg:Str→Option Value}{base:Heap}{k:Nat}{f:Addr}{name qual:Str}{params:Arguments}{body:List Stmt}{scope:Scope}{dV kV doc pm cdv ct oc:Value}{an od:Option Addr}
   {osl:Array (Option Value)} {N ps:List Str} {sp:Sp} (lk:K.lookup f=some ⟨oc,od,.func (PySem.W.fnOf name qual params body scope dV kV doc pm an cdv ct),osl⟩) (hcd:PySem.W.codeIn K cdv qual=true) (S:a0o N ps scope)
   (len:∀vs H Q E,sp vs H Q E→vs.length=ps.length)
   (hbody:∀(A:Around) (outer:List Env) (s:Shared) (H:Hp) (vs:List V) (Q:VK) (E:XK),Room k (A.deeper (envOfC qual scope s.heap.objs.size f cdv))→sp vs H Q E→
     ∃t,PSs (cxOf CX P w K mg base N qual scope f cdv A outer s H E) body t∧t { nx:=fun _ H'=>Q .non H',rt:=Q } (a3b N vs) H) :
   FnOk P w K mg base CX (k + 1) f (PySem.W.fnOf name qual params body scope dV kV doc pm an cdv ct) ps sp:=by
 refine⟨len,fun A outer s H args us vs Q E hr e0 hb r hsp=>?_⟩;have hl:=len _ _ _ _ hsp;have KX:K.In s.heap:=e0.mod.kin.keeps fun b o e=>(e0.bs b o e).1;have lim:s.heap.NoLimit:=e0.mod.nolimit.keeps fun b o e=>(e0.bs b o e).1
 have hkind:∀y∈ps.zip us,scope.names.lookup y.1=some .local∨(scope.names.lookup y.1=some .cell∧((cellsFrom (s.heap.objs.size + 1) scope.names []).lookup y.1).isSome=true):=fun⟨n,v⟩ hy=>by
   rcases S.par n (List.of_mem_zip hy).1 with q | q
   · exact .inl q
   · exact .inr ⟨q,PySem.W.cellsFrom_some _ _ _ (.inl q)⟩
 refine codeAny_call_function hr.depth (KX _ _ lk) rfl S.co S.gen rfl (PySem.W.codeRec_of KX hcd) (hb _ _ _ _ ?_);refine wpAny_newFunctionEnv_cells S.kind hkind fun env he s1 x=>?_;subst he;refine⟨lim.keeps x.toInCall.keep,codeAny_func ?_⟩;obtain⟨t,ht,hq⟩:=hbody A outer s H vs Q E (hr.deeper _) hsp;have I:Inv (cxOf CX P w K mg base N qual scope f cdv A outer s H E) [] (a3b N vs) H s1:=b0k S hr.hd e0 hl r x;refine wpAny_mono (ht [] s1 (a3b N vs) H _ I hq) (fun fl s' hs=>?_) fun e s' hs=>hs
 have fin:∀{σ':St} {H':Hp} {v:V} {u:Value},Inv (cxOf CX P w K mg base N qual scope f cdv A outer s H E) [] σ' H' s'→RelV v u→Q v H'→CE outer P w H s Q u s':=
   fun {σ' H' v u} J rv q=>⟨v,H',J.os,J.bare,J.base,J.hok,rv,q⟩
 cases fl with
 | ret u =>
   obtain⟨v,σ',H',J,rv,q⟩:=hs;exact fin J rv q
 | next =>
   obtain⟨σ',H',J,q⟩:=hs;exact fin (v:=V.non) (u:=Value.none) J rfl q
 | brk =>
   obtain⟨_,_,_,q⟩:=hs;exact False.elim q
 | cont =>
   obtain⟨_,_,_,q⟩:=hs;exact False.elim q
end L2
namespace L2
open PySem PySem.Spec PyProof.Rows
section
variable {X:Cx}{x:Str}{p pos:Pos}{e:Expr}{es:List Expr}{t:TA}{id T:String}{r:List V→Hp→VK→Prop}
def tCB (r:List V→Hp→VK→Prop)(t:TA):TE:=fun σ H Q=>t σ H fun vs H1=>r vs H1 Q
theorem a2o (hc:a1Y X (.builtin id) r)(hg:Gl X x)(hm:X.mg x=none)(hv:bootBuiltins x=some (.builtin id))(ha:PA X (e::es) t)(hn:x≠"__name__":=by decide)(hdb:(x == ("__debug__":Str))=false:=by decide)
   (he:starEach (e::es) X.env=(false,eval e X.env)::starEach es X.env:=by rfl) (hpl:(backTo pos (starEach es X.env)).any (·.1)=false:=by rfl):PE X (.Call (.Name x p) (e::es) [] pos) (tCB r t):=by
 intro pins s σ H Q I h;refine wpAny_Call_Name_kw (a4i I hg hm hv ?_ hn hdb);exact PyProof.Rows.callWith_builtin1 (thn (ha pos pins s σ H _ I h) fun us s1 ⟨vs,H1,I1,r1,q1⟩=>hc pins s1 σ H1 vs us Q I1 r1 q1) he hpl
theorem a2a (hc:a1Y X (.type T) r)(hg:Gl X x)(hm:X.mg x=none)(hv:bootBuiltins x=some (.type T))(ha:PA X (e::es) t)(hn:x≠"__name__":=by decide)(hdb:(x == ("__debug__":Str))=false:=by decide)
   (he:starEach (e::es) X.env=(false,eval e X.env)::starEach es X.env:=by rfl) (hpl:(backTo pos (starEach es X.env)).any (·.1)=false:=by rfl):PE X (.Call (.Name x p) (e::es) [] pos) (tCB r t):=by
 intro pins s σ H Q I h;refine wpAny_Call_Name_kw (a4i I hg hm hv ?_ hn hdb);exact PyProof.Rows.callWith_type1 (thn (ha pos pins s σ H _ I h) fun us s1 ⟨vs,H1,I1,r1,q1⟩=>hc pins s1 σ H1 vs us Q I1 r1 q1) he hpl
end
end L2
namespace HT
open PySem PyProof.Rows
section
variable {prog:Program}{w:World}{A:Around}{E:Value→Shared→Prop}{s:Shared}
theorem cat_tup {t b:Addr}{vs ws:List Value}{Q:Value→Shared→Prop}(ht:IsTup s.heap t vs.toArray)(hb:IsTup s.heap b ws.toArray)(hv:vs≠[])
   (h1:ws=[]→Q (.ref t) s) (h2:ws≠[]→Q (.ref s.heap.objs.size) { s with heap:=s.heap.push { cls:=.type "tuple",data:=.seq (vs++ws).toArray } })
   (hsz:vs.length + ws.length≤sizeLine):wpAny (model prog w) A (binaryOp .Add (.ref t) (.ref b)) Q E s:=by
 obtain⟨⟨cls,dd,data,sl⟩,ho,hc,n,hd⟩:=id ht;obtain⟨⟨cls2,dd2,data2,sl2⟩,ho2,hc2,n2,hd2⟩:=id hb;simp only at hc hd hc2 hd2;subst hc hd hc2 hd2;have e:vs.toArray++ws.toArray=(vs++ws).toArray:=by simp
 by_cases hw:ws=[]
 · exact concat_meets ⟨_,ho,rfl⟩ ⟨_,ho2,rfl⟩ noFill_tuple_add seq_tuple_add PySem.F.slot_tuple_add PySem.F.entry_tuple_add (PySem.F.args_tuple_add_2 _ _)
     (tuple_addW1 t b vs.toArray ws.toArray n n2 dd dd2 sl sl2 (by simpa using hv) (by simp [hw])) ⟨ho,ho2,h1 hw⟩
 · refine concat_meets ⟨_,ho,rfl⟩ ⟨_,ho2,rfl⟩ noFill_tuple_add seq_tuple_add PySem.F.slot_tuple_add PySem.F.entry_tuple_add (PySem.F.args_tuple_add_2 _ _)
     (tuple_addW2 t b vs.toArray ws.toArray n n2 dd dd2 sl sl2 (by simpa using hv) (by simpa using hw) (by rw [List.size_toArray,List.size_toArray];exact hsz)) ⟨ho,ho2,?_⟩
   rw [e];exact h2 hw
def sIx (n d:Nat):Option Int→Nat
 | none=>d
 | some v=>if v < 0 then(v + (n:Int)).toNat else min v.toNat n
theorem sIx_none (n d:Nat):sIx n d none=d:=rfl
theorem sIx_nat (n d k:Nat):sIx n d (some (k:Int))=min k n:=by
 show(if(k:Int) < 0 then((k:Int) + (n:Int)).toNat else min (k:Int).toNat n)=min k n;rw [if_neg (by omega),Int.toNat_natCast]
theorem sIx_le (n d:Nat)(hd:d≤n)(o:Option Int):sIx n d o≤n:=by
 cases o with
 | none=>exact hd
 | some v =>
   show(if v < 0 then(v + (n:Int)).toNat else min v.toNat n)≤n
   by_cases hv:v < 0
   · rw [if_pos hv];omega
   · rw [if_neg hv];exact Nat.min_le_right _ _
theorem b0F (v:Int)(n d:Nat):(if v < 0 then max (v + (n:Int)) 0 else min v (n:Int))=((sIx n d (some v):Nat):Int):=by
 show(if v < 0 then max (v + (n:Int)) 0 else min v (n:Int))=(((if v < 0 then(v + (n:Int)).toNat else min v.toNat n):Nat):Int)
 by_cases hv:v < 0
 · simp only [if_pos hv];omega
 · simp only [if_neg hv];omega
theorem a8G (lo hi:Option Int)(n:Nat):Builtin.Slice.sliceAdjust lo hi 1 (n:Int)=(((sIx n 0 lo:Nat):Int),((sIx n n hi:Nat):Int)):=by
 have h1:¬((1:Int) < 0):=by omega
 unfold Builtin.Slice.sliceAdjust;simp only [h1,if_false];refine Prod.ext ?_ ?_
 · cases lo with
   | none=>rfl
   | some v=>exact b0F v n 0
 · cases hi with
   | none=>rfl
   | some v=>exact b0F v n n
theorem a8f (i j:Nat):Builtin.Slice.slicePlaces (i:Int) (j:Int) 1=j - i:=by
 unfold Builtin.Slice.slicePlaces;have h1:(1:Int) > 0:=by omega
 simp only [h1,if_true,Int.ediv_one]
 split <;> omega
theorem a4E {v:Value}{o:Option Int}{Q:Option Int→Shared→Prop}(p:IsPart v o)(h:Q o s):wpAny (model prog w) A (Builtin.Slice.slicePartIndex v) Q E s:=by
 cases p with
 | none=>exact slicePart_none h
 | int i t=>exact slicePart_int h
theorem a1U {sl:Addr}{vl vu:Value}{lo hi:Option Int}{n:Nat}{Q:Int×Int×Nat→Shared→Prop}(hs:s.heap.IsSliceOf sl vl vu .none)(pl:IsPart vl lo)(pu:IsPart vu hi)
   (h:Q (((sIx n 0 lo:Nat):Int),1,sIx n n hi - sIx n 0 lo) s):wpAny (model prog w) A (Builtin.Slice.sliceApplied (.ref sl) (pure (n:Int))) Q E s:=by
 obtain⟨os,hos,hcs,hds⟩:=id hs;unfold Builtin.Slice.sliceApplied Builtin.Slice.sliceFields;refine wpAny_bind (wpAny_bind (wpAny_field hos hds (x:=vl) rfl (wpAny_bind (wpAny_field hos hds (x:=vu) rfl (wpAny_bind (wpAny_field hos hds (x:=.none) rfl (wpAny_pure ?_)))))));refine wpAny_bind (slicePart_none ?_);show wpAny _ _ (if((1:Int) == 0)=true then _ else _) _ _ s;rw [if_neg (by decide)];refine wpAny_bind (a4E pl (wpAny_bind (a4E pu (wpAny_bind (wpAny_pure ?_)))));show wpAny _ _ (match Builtin.Slice.sliceAdjust lo hi 1 (n:Int) with | (lo,hi)=>pure (lo,(1:Int),Builtin.Slice.slicePlaces lo hi 1)) _ _ s;rw [a8G lo hi n];show wpAny _ _ (pure (((sIx n 0 lo:Nat):Int),(1:Int),Builtin.Slice.slicePlaces ((sIx n 0 lo:Nat):Int) ((sIx n n hi:Nat):Int) 1)) _ _ s;rw [a8f];exact wpAny_pure h
theorem b1E (xs:Array Value)(i k:Nat):((List.range k).filterMap fun(m:Nat)=>xs[((i:Int) + (m:Int) * 1).toNat]?).toArray=((xs.toList.drop i).take k).toArray:=by
 have e:(fun(m:Nat)=>xs[((i:Int) + (m:Int) * 1).toNat]?)=fun m=>xs[i + m]?:=by
   funext m
   have:((i:Int) + (m:Int) * 1).toNat=i + m:=by omega
   rw [this]
 rw [e];have:=pick_run xs i k;rw [List.filterMap_map] at this;have e2:((fun x=>xs[x]?)∘fun x=>i + x)=fun m=>xs[i + m]?:=rfl;rw [e2] at this;rw [this]
theorem getItem_tuple_cut {t sl:Addr}{items:Array Value}{vl vu:Value}{lo hi:Option Int}{Q:Value→Shared→Prop}(ht:IsTup s.heap t items)(hs:s.heap.IsSliceOf sl vl vu .none)(pl:IsPart vl lo)(pu:IsPart vu hi)
   (hw:¬(sIx items.size 0 lo=0∧sIx items.size items.size hi=items.size))
   (h:Q (.ref s.heap.objs.size) { s with heap:=s.heap.push { cls:=.type "tuple",data:=.seq ((items.toList.drop (sIx items.size 0 lo)).take (sIx items.size items.size hi - sIx items.size 0 lo)).toArray } })
   (hsz:items.size≤sizeLine):wpAny (model prog w) A (getItem (.ref t) (.ref sl)) Q E s:=by
 have htake:sizeOk (.seq ((items.toList.drop (sIx items.size 0 lo)).take (sIx items.size items.size hi - sIx items.size 0 lo)).toArray):=by
   show((items.toList.drop (sIx items.size 0 lo)).take (sIx items.size items.size hi - sIx items.size 0 lo)).toArray.size≤sizeLine;rw [List.size_toArray,List.length_take,List.length_drop,Array.length_toList];omega
 have hj:sIx items.size items.size hi≤items.size:=sIx_le _ _ (Nat.le_refl _) hi;obtain⟨os,hos,hcs,hds⟩:=id hs;have hTs:s.TypeIs (.ref sl) "slice":=⟨os,hos,hcs⟩;unfold getItem
 try with_reducible refine wpAny_holding ?_
 first | refine wpAny_bind (wpAny_pure ?_) | skip
 refine wpAny_bind (wpAny_sequenceKey ht.typeIs (by decide) ?_)
 refine wpAny_bind (wpAny_callSpecial?_slot (name:=Str.ofString "__getitem__") ht.typeIs PyProof.Rows.slot_tuple_getitem
   (wpAny_call_entry PyProof.Rows.slot_tuple_getitem ht.typeIs entry_tuple_getitem ?_ (args_tuple_getitem _ _)))
 show wpAny _ _ (Builtin.Tuple.tupleItemsOf (.ref t)>>=_) _ _ s;refine wpAny_bind (tupleItemsOf_ ht ?_);refine wpAny_bind (wpAny_typeOf hTs ?_);rw [if_pos (by decide)];refine wpAny_bind (a1U hs pl pu ?_)
 have hno:¬((((sIx items.size 0 lo:Nat):Int) == 0 && (1:Int) == 1 && (sIx items.size items.size hi - sIx items.size 0 lo) == items.size)=true):=by
   intro q;rw [Bool.and_eq_true,Bool.and_eq_true] at q;have q1:((sIx items.size 0 lo:Nat):Int)=0:=eq_of_beq q.1.1;have q2:sIx items.size items.size hi - sIx items.size 0 lo=items.size:=eq_of_beq q.2;exact hw ⟨by omega,by omega⟩
 show wpAny _ _ (if(((sIx items.size 0 lo:Nat):Int) == 0 && (1:Int) == 1 && (sIx items.size items.size hi - sIx items.size 0 lo) == items.size)=true then _ else _) _ _ s;rw [if_neg hno,b1E]
 first
   | exact wpAny_bind (m:=Builtin.Tuple.tupleExact _) (wpAny_newObj_type (wpAny_pure ⟨_,rfl,wpAny_pure h⟩) htake)
   | exact wpAny_bind (m:=Builtin.Tuple.tupleExact _) (wpAny_newObj_type (wpAny_bind (wpAny_pure (wpAny_pure ⟨_,rfl,wpAny_pure h⟩))) htake)
   | exact wpAny_bind (wpAny_bind (m:=Builtin.Tuple.tupleExact _) (wpAny_newObj_type (wpAny_pure (wpAny_pure ⟨_,rfl,wpAny_pure h⟩)) htake))
   | exact wpAny_bind (wpAny_bind (m:=Builtin.Tuple.tupleExact _) (wpAny_newObj_type (wpAny_pure ⟨_,rfl,wpAny_pure h⟩) htake))
end
end HT
namespace L2
open PySem PySem.Spec PyProof.Rows
abbrev TO:=St→Hp→(Option Int→Hp→Prop)→Prop
def PO (X:Cx)(e:Option Expr)(t:TO):Prop:=
 ∀ (pins : List (Addr × Obj)) (s : Shared) (σ : St) (H : Hp) (Q : Option Int → Hp → Prop), Inv X pins σ H s → t σ H Q →
   wpAny (model X.prog X.w) X.A (evalPart e X.env) (fun u s'=>∃o H',Inv X pins σ H' s'∧IsPart u o∧Q o H') X.xe s
def b3e:TO:=fun _ H Q=>Q none H
def tPart (t:TE):TO:=fun σ H Q=>t σ H fun x H1=>∃i,x=.int i∧Q (some i) H1
section
variable {X:Cx}{e:Expr}{te:TE}{lo hi:Option Expr}{tl th:TO}{pos p2:Pos}
theorem a6y:PO X none b3e:=by
 intro pins s σ H Q I h;rw [evalPart_none];exact wpAny_pure ⟨none,H,I,.none,h⟩
theorem a6x (h:PE X e te):PO X (some e) (tPart te):=by
 intro pins s σ H Q I hw;rw [evalPart_some];refine thn (h pins s σ H _ I hw) fun u s1 ⟨x,H1,I1,r1,q1⟩=>?_;obtain⟨i,rfl,q⟩:=q1;obtain⟨t,rfl⟩:=r1;exact⟨some i,H1,I1,.int i t,q⟩
def SlR (X:Cx)(r:V→Option Int→Option Int→Hp→VK→Prop):Prop:=
 ∀ (pins : List (Addr × Obj)) (s : Shared) (σ : St) (H : Hp) (x : V) (v vl vu : Value) (lo hi : Option Int) (sl : Addr) (Q : VK), Inv X pins σ H s → RelV x v → s.heap.IsSliceOf sl vl vu .none → IsPart vl lo → IsPart vu hi → r x lo hi H Q →
   ∃T id,typeLookup (.type T) "__getitem__"=pure (some (.builtin id))∧s.TypeIs v T∧wpAny (model X.prog X.w) X.A (getItem v (.ref sl)) (EP X pins σ Q) X.xe s
theorem SlR.or {r r':V→Option Int→Option Int→Hp→VK→Prop}(h:SlR X r)(h':SlR X r'):SlR X (fun x lo hi H Q=>r x lo hi H Q∨r' x lo hi H Q):=by
 intro pins s σ H x v vl vu lo hi sl Q I rx hs pl pu q;rcases q with q | q
 · exact h pins s σ H x v vl vu lo hi sl Q I rx hs pl pu q
 · exact h' pins s σ H x v vl vu lo hi sl Q I rx hs pl pu q
def tSl (r:V→Option Int→Option Int→Hp→VK→Prop)(te:TE)(tl th:TO):TE:=fun σ H Q=>te σ H fun x H1=>tl σ H1 fun l H2=>th σ H2 fun u H3=>r x l u H3 Q
theorem a5g {r:V→Option Int→Option Int→Hp→VK→Prop}(hr:SlR X r)(he:PE X e te)(hl:PO X lo tl)(hu:PO X hi th):PE X (.Subscript e (.Slice lo hi none p2) pos) (tSl r te tl th):=by
 intro pins s σ H Q I h;refine Subscript_ (thn (he pins s σ H _ I h) fun v s1 ⟨x,H1,I1,r1,q1⟩=>?_);refine wpAny_Slice (thn (hl pins s1 σ H1 _ I1 q1) fun vl s2 ⟨l,H2,I2,pl,q2⟩=>thn (hu pins s2 σ H2 _ I2 q2) fun vu s3 ⟨u,H3,I3,pu,q3⟩=>?_);rw [evalPart_none];refine wpAny_pure ?_;have I4:Inv X pins σ H3 { s3 with heap:=s3.heap.push { cls:=.type "slice",data:=.fields #[vl,vu,.none] } }:=I3.kept (t':=s3.toks) fun b ob q=>Heap.get?_push_of_some _ q;obtain⟨T,id,hT,ht,hg⟩:=hr pins { s3 with heap:=s3.heap.push { cls:=.type "slice",data:=.fields #[vl,vu,.none] } } σ H3 x v vl vu l u s3.heap.objs.size Q I4 r1 (Heap.IsSliceOf.new ..) pl pu q3;show wpAny (model X.prog X.w) X.A (subscriptTail e (.Slice lo hi none p2) v (.ref s3.heap.objs.size)) (EP X pins σ Q) X.xe { s3 with heap:=s3.heap.push { cls:=.type "slice",data:=.fields #[vl,vu,.none] } };exact tail_any (ops:=[.ref s3.heap.objs.size,v]) ht hT hg (by with_unfolding_all rfl)
def cutV (xs:List V)(lo hi:Option Int):List V:=(xs.drop (HT.sIx xs.length 0 lo)).take (HT.sIx xs.length xs.length hi - HT.sIx xs.length 0 lo)
theorem a4o (xs:List V)(lo hi:Option Int):(cutV xs lo hi).length≤xs.length:=by
 unfold cutV;rw [List.length_take,List.length_drop];omega
def rSlT (K:PySem.W.Frag):V→Option Int→Option Int→Hp→VK→Prop:=fun x lo hi H Q=>∃a xs,x=.ref a∧SqT K H a xs∧
 ¬(HT.sIx xs.length 0 lo=0∧HT.sIx xs.length xs.length hi=xs.length)∧∀p,H p=none→Q (.ref p) (upd H p (.tup (cutV xs lo hi)))
theorem sl_tup:SlR X (rSlT X.K):=by
 intro pins s σ H x v vl vu lo hi sl Q I rx hs pl pu h;obtain⟨a,xs,rfl,hx,hw,q⟩:=h;cases rx;obtain⟨its,r,ht,hz⟩:=I.tuple hx;have hlen:its.toArray.size=xs.length:=by rw [List.size_toArray];exact r.length.symm
 refine⟨"tuple",_,PyProof.Rows.slot_tuple_getitem.lookup,ht.typeIs,?_⟩;refine HT.getItem_tuple_cut ht hs pl pu (by rw [hlen];exact hw) ?_ (by rw [hlen];exact hz);rw [hlen];refine⟨.ref s.heap.objs.size,_,I.laid (t':=s.toks) (o:=.tup (cutV xs lo hi)) (fun b ob q=>Heap.get?_push_of_some _ q) (Nat.le_refl _) ?_,rfl,q _ (I.hok.fresh (Nat.le_refl _))⟩;exact⟨Nat.le_trans (a4o xs lo hi) hz,_,(r.drop (HT.sIx xs.length 0 lo)).take (HT.sIx xs.length xs.length hi - HT.sIx xs.length 0 lo),a2w.new _ _⟩
def rCatT (K:PySem.W.Frag):R2:=fun x y H Q=>∃a b xs ys,x=.ref a∧y=.ref b∧SqT K H a xs∧SqT K H b ys∧xs≠[]∧xs.length + ys.length≤sizeLine∧
 (ys=[]→Q (.ref a) H)∧(ys≠[]→∀p,H p=none→Q (.ref p) (upd H p (.tup (xs++ys))))
theorem Vals.nil_iff {xs:List V}{us:List Value}(r:Vals xs us):us=[]↔xs=[]:=by
 cases r with
 | nil=>simp
 | cons _ _=>simp
theorem b3G:OpR X (binaryOp .Add) (rCatT X.K):=by
 intro pins s σ H x y v u Q I rx ry h;obtain⟨a,b,xs,ys,rfl,rfl,ha,hb,hx,hz,q1,q2⟩:=h;cases rx;cases ry;obtain⟨its,r1,p1,_⟩:=I.tuple ha;obtain⟨its2,r2,p2,_⟩:=I.tuple hb;refine HT.cat_tup p1 p2 (fun z=>hx (r1.nil_iff.mp z)) (fun z=>⟨.ref a,H,I,rfl,q1 (r2.nil_iff.mp z)⟩) (fun z=>?_) (by rw [← r1.length,← r2.length];exact hz);refine⟨.ref s.heap.objs.size,_,I.laid (t':=s.toks) (o:=.tup (xs++ys)) (fun b ob q=>Heap.get?_push_of_some _ q) (Nat.le_refl _) ?_,rfl,q2 (fun w=>z (r2.nil_iff.mpr w)) _ (I.hok.fresh (Nat.le_refl _))⟩;exact⟨by rw [List.length_append];exact hz,_,r1.append r2,a2w.new _ _⟩
end
end L2
namespace L2
open PySem PySem.Spec PyProof.Rows
def ixN (n:Nat)(i:Int):Option Nat:=if 0≤i then(if i < n then some i.toNat else none) else if -(n:Int)≤i then some (i + n).toNat else none
def atI {α:Type}(xs:List α)(i:Int):Option α:=(ixN xs.length i).bind fun j=>xs[j]?
theorem b0i {n:Nat}{i:Int}{j:Nat}(h:ixN n i=some j):seqIndex? i n=some j∧j < n∧-(n:Int)≤i∧i < n:=by
 unfold ixN at h
 by_cases h0:0≤i
 · rw [if_pos h0] at h
   by_cases h1:i < n
   · rw [if_pos h1] at h;have e:i.toNat=j:=Option.some.inj h;exact⟨by rw [seqIndex_of h0 h1,e],by omega,by omega,h1⟩
   · rw [if_neg h1] at h;cases h
 · rw [if_neg h0] at h
   by_cases h1:-(n:Int)≤i
   · rw [if_pos h1] at h;have e:(i + n).toNat=j:=Option.some.inj h;exact⟨by rw [seqIndex_neg (by omega) h1,e],by omega,h1,by omega⟩
   · rw [if_neg h1] at h;cases h
theorem a7a {α:Type}{xs:List α}{i:Int}{v:α}(h:atI xs i=some v):∃j,seqIndex? i xs.length=some j∧xs[j]?=some v∧j < xs.length∧-(xs.length:Int)≤i∧i < xs.length:=by
 unfold atI at h;cases e:ixN xs.length i with
 | none=>rw [e] at h;cases h
 | some j =>
   rw [e] at h;obtain⟨h1,h2,h3,h4⟩:=b0i e;exact⟨j,h1,h,h2,h3,h4⟩
theorem a6Z {α:Type}{xs:List α}{j:Nat}{v:α}(h:xs[j]?=some v):atI xs (j:Int)=some v:=by
 have hj:j < xs.length:=(List.getElem?_eq_some_iff.mp h).1
 have e:ixN xs.length (j:Int)=some j:=by
   unfold ixN;rw [if_pos (by omega),if_pos (by omega)];simp
 unfold atI;rw [e];exact h
theorem b2p {α:Type}(xs:List α)(v:α):atI (xs++[v]) (-1)=some v:=by
 have hl:(xs++[v]).length=xs.length + 1:=by simp
 have e:ixN (xs++[v]).length (-1)=some xs.length:=by
   unfold ixN;rw [hl,if_neg (by decide),if_pos (by omega)]
   congr 1
   omega
 unfold atI;rw [e];show(xs++[v])[xs.length]?=some v;simp
def a7d (b:Expr):Prop:=∀o i,subscripted b false o i=operate [o,i] (getItem o i)
def IxR (X:Cx)(r:R2):Prop:=
 ∀ (value slice : Expr) (pins : List (Addr × Obj)) (s : Shared) (σ : St) (H : Hp) (x y : V) (v u : Value) (Q : VK), Inv X pins σ H s → RelV x v → RelV y u → r x y H Q →
   subscripted slice false v u=operate [v,u] (getItem v u)→wpAny (model X.prog X.w) X.A (subscriptTail value slice v u) (EP X pins σ Q) X.xe s
def MtR (X:Cx)(id:String)(r:V→List V→Hp→VK→Prop):Prop:=
 ∀ (pins : List (Addr × Obj)) (s : Shared) (σ : St) (H : Hp) (x : V) (xs : List V) (v : Value) (us : List Value) (Q : VK), Inv X pins σ H s → RelV x v → Vals xs us → r x xs H Q →
   wpAny (model X.prog X.w) X.A (call (.builtin id) (v::us)) (EP X pins σ Q) X.xe s
section
variable {X:Cx}{a b:Expr}{ta tb:TE}{pos:Pos}
theorem IxR.or {r r':R2}(h:IxR X r)(h':IxR X r'):IxR X (fun x y H Q=>r x y H Q∨r' x y H Q):=by
 intro value slice pins s σ H x y v u Q I rx ry q hs;rcases q with q | q
 · exact h value slice pins s σ H x y v u Q I rx ry q hs
 · exact h' value slice pins s σ H x y v u Q I rx ry q hs
theorem b3B {r:R2}(hr:IxR X r)(ha:PE X a ta)(hb:PE X b tb)(hs:a7d b):PE X (.Subscript a b pos) (tOp r ta tb):=by
 intro pins s σ H Q I h;exact Subscript_ (binT ha hb I h fun v u s2 x y H2 I2 rx ry q=>hr a b pins s2 σ H2 x y v u Q I2 rx ry q (hs _ _))
def rIxL (K:PySem.W.Frag):R2:=fun x y H Q=>∃p xs i v,x=.ref p∧y=.int i∧SqL K H p xs∧atI xs i=some v∧Q v H
def rIxT (K:PySem.W.Frag):R2:=fun x y H Q=>∃p xs i v,x=.ref p∧y=.int i∧SqT K H p xs∧atI xs i=some v∧Q v H
def rIxS:R2:=fun x y H Q=>∃z i c,x=.str z∧y=.int i∧z.length≤sizeLine∧atI z.cps.toList i=some c∧Q (.str ⟨#[c]⟩) H
theorem b0g:IxR X (rIxL X.K):=by
 intro value slice pins s σ H x y v u Q I rx ry h hs;obtain⟨p,xs,i,z,rfl,rfl,hq,he,q⟩:=h;cases rx;obtain⟨t,rfl⟩:=ry;obtain⟨its,r,pl,hz⟩:=I.list hq;obtain⟨j,h1,h2,h3,h4,h5⟩:=a7a he;obtain⟨w,ew,rw'⟩:=r.get h2;have hl:=r.length;have hn:=a4h;have fin:EP X pins σ Q w s:=⟨z,H,I,rw',q⟩
 by_cases h0:0≤i
 · have hj:i.toNat=j:=by
     rw [seqIndex_of h0 h5] at h1;exact Option.some.inj h1
   exact item_listR pl.isList h0 (by omega) (by rw [hj];simpa using ew) fin hs
 · have hj:(i + (its.toArray.size:Int)).toNat=j:=by
     rw [seqIndex_neg (by omega) h4] at h1;rw [List.size_toArray,← hl];exact Option.some.inj h1
   exact subscriptTail_builtinR (x:=w) pl.isList.typeIs slot_list_getitem.lookup
     (wpAny_getItem_list_neg (Q:=fun r s'=>r=w∧EP X pins σ Q r s') pl.isList (by omega) (by rw [List.size_toArray] <;> omega) (by omega) (by rw [hj];simpa using ew) ⟨rfl,fin⟩) hs
theorem ix_tup:IxR X (rIxT X.K):=by
 intro value slice pins s σ H x y v u Q I rx ry h hs;obtain⟨p,xs,i,z,rfl,rfl,hq,he,q⟩:=h;cases rx;obtain⟨t,rfl⟩:=ry;obtain⟨its,r,pl,hz⟩:=I.tuple hq;obtain⟨j,h1,h2,h3,h4,h5⟩:=a7a he;obtain⟨w,ew,rw'⟩:=r.get h2;have hl:=r.length;have hn:=a4h;have fin:EP X pins σ Q w s:=⟨z,H,I,rw',q⟩
 exact subscriptTail_builtinR (x:=w) pl.typeIs slot_tuple_getitem.lookup
   (getItem_tuple (j:=j) (Q:=fun r s'=>r=w∧EP X pins σ Q r s') pl (by omega) (by omega) (by rw [List.size_toArray,← hl];exact h1) (by simpa using ew) ⟨rfl,fin⟩) hs
theorem ix_str:IxR X rIxS:=by
 intro value slice pins s σ H x y v u Q I rx ry h hs;obtain⟨z,i,c,rfl,rfl,hz,he,q⟩:=h;obtain⟨t,rfl⟩:=rx;obtain⟨t',rfl⟩:=ry;obtain⟨j,h1,h2,h3,h4,h5⟩:=a7a he;have hl:z.cps.toList.length=z.length:=by simp [Str.length]
 rw [hl] at h1 h4 h5;have hn:=a4h
 exact tail_any (typeIs_str s z t) slot_str_getitem.lookup (getItem_str (c:=c) (by
   have e1:decide (i < -(2 ^ 63:Int))=false:=decide_eq_false (by omega);have e2:decide (i≥2 ^ 63)=false:=decide_eq_false (by omega)
   rw [e1,e2,Bool.or_false]) (by rw [h1];simpa using h2) ⟨.str ⟨#[c]⟩,H,I.tok _,⟨_,rfl⟩,q⟩) hs
def rIx (K:PySem.W.Frag):R2:=fun x y H Q=>rIxL K x y H Q∨rIxT K x y H Q∨rIxS x y H Q
theorem b2M:IxR X (rIx X.K):=b0g.or (ix_tup.or ix_str)
theorem a8m (its:List Value)(n j:Nat)(u:Value):Obj.mapSeq (·.setIfInBounds j u) { cls:=.type "list",data:=.seq its.toArray n }={ cls:=.type "list",data:=.seq (its.set j u).toArray n }:=by
 simp [Obj.mapSeq]
theorem Inv.lst {pins:List (Addr×Obj)}{σ:St}{H:Hp}{s:Shared}{p:Addr}{xs:List V}(I:Inv X pins σ H s)(h:H p=some (.lst xs)) :
   ∃(its:List Value) (n:Nat),Vals xs its∧s.heap.get? p=some { cls:=.type "list",data:=.seq its.toArray n }∧xs.length≤sizeLine:=by
 obtain⟨z,its,n,r,e⟩:=I.hok p _ h;exact⟨its,n,r,e,z⟩
theorem Inv.lstUpd {pins:List (Addr×Obj)}{σ:St}{H:Hp}{s:Shared}{p:Addr}{xs ys:List V}{its its':List Value}{n n':Nat}{f:Obj→Obj}(I:Inv X pins σ H s)(h:H p=some (.lst xs))
   (ho:s.heap.get? p=some { cls:=.type "list",data:=.seq its.toArray n }) (hf:f { cls:=.type "list",data:=.seq its.toArray n }={ cls:=.type "list",data:=.seq its'.toArray n' }) (r:Vals ys its') (hz:ys.length≤sizeLine) (t:Nat) :
   Inv X pins σ (upd H p (.lst ys)) { s with heap:=s.heap.update p f,toks:=t }:=by
 have e:(s.heap.update p f).get? p=some { cls:=.type "list",data:=.seq its'.toArray n' }:=by
   rw [Heap.get?_update_self f ho (by rw [hf] <;> rfl),hf]
 refine I.write (x:=p) (e:=p) (by rw [h];trivial) (.inl rfl) (fun b u hb q=>(Heap.get?_update_other _ _ (Ne.symm hb)).trans q) ⟨_,e⟩ ?_;exact⟨hz,its',n',r,e⟩
def a9d:V→V→V→Hp→(Hp→Prop)→Prop:=fun o i v H Q=>∃p xs k j,o=.ref p∧i=.int k∧H p=some (.lst xs)∧ixN xs.length k=some j∧Q (upd H p (.lst (xs.set j v)))
theorem b1m:PSet X a9d:=by
 intro pins s σ H o i v ov iv u Q I ro ri rv h;obtain⟨p,xs,k,j,rfl,rfl,hp,hj,q⟩:=h;cases ro;obtain⟨t,rfl⟩:=ri;obtain⟨its,n,r,ho,hz⟩:=I.lst hp;obtain⟨h1,h2,h3,h4⟩:=b0i hj;have hl:=r.length;have hn:=a4h
 have I':Inv X pins σ (upd H p (.lst (xs.set j v))) { s with heap:=s.heap.update p (Obj.mapSeq (·.setIfInBounds j u)) }:=
   I.lstUpd hp ho (a8m its n j u) (r.set rv j) (by rw [List.length_set];exact hz) s.toks
 by_cases h0:0≤k
 · have hk:k.toNat=j:=by
     rw [seqIndex_of h0 h4] at h1;exact Option.some.inj h1
   exact PySem.W.ki_setAt ho h0 (by omega) (by rw [List.size_toArray,← hl];exact h4) (by rw [hk];exact⟨_,I',q⟩)
 · have hk:(k + (its.toArray.size:Int)).toNat=j:=by
     rw [seqIndex_neg (by omega) h3] at h1;rw [List.size_toArray,← hl];exact Option.some.inj h1
   exact PySem.W.ki_setBack ho (by omega) (by rw [List.size_toArray,← hl];exact h3) (by omega) (by rw [hk];exact⟨_,I',q⟩)
theorem a5A (lo hi:Option Int)(n:Nat):(sliceBounds lo hi none n).1=((HT.sIx n 0 lo:Nat):Int)∧(sliceBounds lo hi none n).2.1=((HT.sIx n n hi:Nat):Int)∧(sliceBounds lo hi none n).2.2=1:=by
 refine⟨?_,?_,rfl⟩
 · cases lo with
   | none=>simp [sliceBounds,HT.sIx]
   | some i =>
     simp only [sliceBounds,HT.sIx,Option.getD_none,show(1:Int) > 0 by decide,if_true]
     by_cases h:i < 0
     · simp only [h,if_true] <;> omega
     · simp only [h,if_false] <;> omega
 · cases hi with
   | none=>simp [sliceBounds,HT.sIx]
   | some i =>
     simp only [sliceBounds,HT.sIx,Option.getD_none,show(1:Int) > 0 by decide,if_true]
     by_cases h:i < 0
     · simp only [h,if_true] <;> omega
     · simp only [h,if_false] <;> omega
theorem a4V (its:List Value)(lo hi:Option Int):slicePick its.toArray lo hi none=((its.drop (HT.sIx its.length 0 lo)).take (HT.sIx its.length its.length hi - HT.sIx its.length 0 lo)).toArray:=by
 obtain⟨h1,h2,h3⟩:=a5A lo hi its.toArray.size;unfold slicePick;rw [h1,h2,h3];simp only [sliceRange_one,pick_run,List.size_toArray] <;> rfl
def rSlL (K:PySem.W.Frag):V→Option Int→Option Int→Hp→VK→Prop:=fun x lo hi H Q=>∃a xs,x=.ref a∧SqL K H a xs∧∀p,H p=none→Q (.ref p) (upd H p (.lst (cutV xs lo hi)))
theorem a6o:SlR X (rSlL X.K):=by
 intro pins s σ H x v vl vu lo hi sl Q I rx hs pl pu h;obtain⟨a,xs,rfl,hx,q⟩:=h;cases rx;obtain⟨its,r,ht,hz⟩:=I.list hx;have hlen:=r.length;refine⟨"list",_,slot_list_getitem.lookup,ht.isList.typeIs,?_⟩;refine wpAny_getItem_list_slice ht.isList hs pl pu .none (by simp) ?_ (by rw [List.size_toArray] <;> omega)
 rw [a4V,← hlen];refine⟨.ref s.heap.objs.size,_,I.laid (t':=s.toks) (o:=.lst (cutV xs lo hi)) (fun b ob q=>Heap.get?_push_of_some _ q) (Nat.le_refl _) ?_,rfl,q _ (I.hok.fresh (Nat.le_refl _))⟩;exact⟨Nat.le_trans (a4o xs lo hi) hz,_,0,(r.drop (HT.sIx xs.length 0 lo)).take (HT.sIx xs.length xs.length hi - HT.sIx xs.length 0 lo),Heap.get?_push_size _ rfl⟩
def a2F:V→Bool
 | .non=>true
 | .bl _=>true
 | .int _=>true
 | .str _=>true
 | _=>false
def eqV:V→V→Bool
 | .non,.non=>true
 | .bl a,.bl b=>a == b
 | .bl a,.int b=>(if a then 1 else 0) == b
 | .int a,.bl b=>a == (if b then 1 else 0)
 | .int a,.int b=>a == b
 | .str a,.str b=>a == b
 | _,_=>false
theorem b2S {A:Around}{s:Shared}{y x:V}{u v:Value}(ry:RelV y u)(rx:RelV x v)(fy:a2F y=true)(fx:a2F x=true):SeqAt.EqAt A s u v (eqV y x):=by
 cases y with
 | non =>
   cases ry;cases x with
   | non=>cases rx;exact SeqAt.EqAt.same _
   | bl b=>cases rx;exact SeqAt.EqAt.none_bool b
   | int b=>obtain⟨t,rfl⟩:=rx;exact SeqAt.EqAt.none_int b t
   | str b=>obtain⟨t,rfl⟩:=rx;exact SeqAt.EqAt.none_str b t
   | _=>exact absurd (show false=true from fx) Bool.false_ne_true
 | bl a =>
   cases ry;cases x with
   | non=>cases rx;exact SeqAt.EqAt.bool_none a
   | bl b=>cases rx;exact SeqAt.EqAt.bool_bool a b
   | int b=>obtain⟨t,rfl⟩:=rx;exact SeqAt.EqAt.bool_int a b t
   | str b=>obtain⟨t,rfl⟩:=rx;exact SeqAt.EqAt.bool_str a b t
   | _=>exact absurd (show false=true from fx) Bool.false_ne_true
 | int a =>
   obtain⟨t',rfl⟩:=ry;cases x with
   | non=>cases rx;exact SeqAt.EqAt.int_none a t'
   | bl b=>cases rx;exact SeqAt.EqAt.int_bool a t' b
   | int b=>obtain⟨t,rfl⟩:=rx;exact SeqAt.EqAt.int_int a t' b t
   | str b=>obtain⟨t,rfl⟩:=rx;exact SeqAt.EqAt.int_str a t' b t
   | _=>exact absurd (show false=true from fx) Bool.false_ne_true
 | str a =>
   obtain⟨t',rfl⟩:=ry;cases x with
   | non=>cases rx;exact SeqAt.EqAt.str_none a t'
   | bl b=>cases rx;exact SeqAt.EqAt.str_bool a t' b
   | int b=>obtain⟨t,rfl⟩:=rx;exact SeqAt.EqAt.str_int a t' b t
   | str b=>obtain⟨t,rfl⟩:=rx;exact SeqAt.EqAt.str_str a t' b t
   | _=>exact absurd (show false=true from fx) Bool.false_ne_true
 | _=>exact absurd (show false=true from fy) Bool.false_ne_true
theorem a5J:OpR X (compareOp .NotIn) (fun x y H Q=>∃i j,x=.str i∧y=.str j∧Q (.bl (!(!(Builtin.Str.occurrences j i 0 j.length 1).isEmpty))) H):=by
 intro pins s σ H x y v u Q I rx ry h;obtain⟨i,j,rfl,rfl,q⟩:=h;obtain⟨t,rfl⟩:=rx;obtain⟨t',rfl⟩:=ry;exact notIn_str ⟨.bl _,H,I,rfl,q⟩
theorem a2m:a1Y X (.builtin "len") (fun xs H Q=>∃p ys,xs=[.ref p]∧(SqL X.K H p ys∨SqT X.K H p ys)∧Q (.int ys.length) H):=by
 intro pins s σ H xs us Q I r h;obtain⟨p,ys,rfl,hq,q⟩:=h;obtain⟨u,rfl,rx⟩:=a6n r;cases rx;have hn:=a4h;rcases hq with hq | hq
 · obtain⟨its,r',pl,hz⟩:=I.list hq;have hlen:=r'.length;exact Calls.call_len_list pl.isList (by simp only [List.size_toArray] <;> omega) ⟨.int ys.length,H,I.tok _,⟨s.toks + 1,by rw [List.size_toArray,hlen]⟩,q⟩
 · obtain⟨its,r',pl,hz⟩:=I.tuple hq;have hlen:=r'.length;exact len_tuple pl (by simp only [List.size_toArray] <;> omega) ⟨.int ys.length,H,I.tok _,⟨s.toks + 1,by rw [List.size_toArray,hlen]⟩,q⟩
theorem a6d:a1Y X (.builtin "len") (fun xs H Q=>∃z,xs=[.str z]∧z.length≤sizeLine∧Q (.int z.length) H):=by
 intro pins s σ H xs us Q I r h;obtain⟨z,rfl,hz,q⟩:=h;obtain⟨u,rfl,t,rfl⟩:=a6n r;have hn:=a4h;exact len_str (by omega) ⟨.int z.length,H,I.tok _,⟨_,rfl⟩,q⟩
theorem a1Y.or {f:Value}{r r':List V→Hp→VK→Prop}(h:a1Y X f r)(h':a1Y X f r'):a1Y X f (fun xs H Q=>r xs H Q∨r' xs H Q):=by
 intro pins s σ H xs us Q I rs q;rcases q with q | q
 · exact h pins s σ H xs us Q I rs q
 · exact h' pins s σ H xs us Q I rs q
theorem a3x:a1Y X (.type "list") (fun xs H Q=>∃p ys,xs=[.ref p]∧(SqL X.K H p ys∨SqT X.K H p ys)∧∀l,H l=none→Q (.ref l) (upd H l (.lst ys))):=by
 intro pins s σ H xs us Q I r h;obtain⟨p,ys,rfl,hq,q⟩:=h;obtain⟨u,rfl,rx⟩:=a6n r;cases rx
 have fin:∀(its:List Value),Vals ys its→ys.length≤sizeLine→∀(h':Heap) (c':Nat),(∀b o',s.heap.get? b=some o'→h'.get? b=some o')→
     h'.get? s.heap.objs.size=some { cls:=.type "list",dict:=none,data:=.seq its.toArray c',slots:=#[] }→EP X pins σ Q (.ref s.heap.objs.size) { s with heap:=h' }:=fun its r' hz h' c' kp e=>
   ⟨.ref s.heap.objs.size,_,I.laid (t':=s.toks) kp (Nat.le_refl _) (show a0X X.prog X.w _ h' _ (.lst ys) from⟨hz,its,c',r',e⟩),rfl,q _ (I.hok.fresh (Nat.le_refl _))⟩
 rcases hq with hq | hq
 · obtain⟨its,r',pl,hz⟩:=I.list hq;have hlen:=r'.length;obtain⟨o,ho,hc,n,hd⟩:=pl.isList;exact call_list_seq p (.inl rfl) ho hc hd (fun h' c' kp e=>fin its r' hz h' c' kp e) (by simp only [List.size_toArray] <;> omega)
 · obtain⟨its,r',pl,hz⟩:=I.tuple hq;have hlen:=r'.length;obtain⟨o,ho,hc,n,hd⟩:=pl;exact call_list_seq p (.inr rfl) ho hc hd (fun h' c' kp e=>fin its r' hz h' c' kp e) (by simp only [List.size_toArray] <;> omega)
theorem a5s:a1Y X (.type "tuple") (fun xs H Q=>∃p ys,xs=[.ref p]∧((SqL X.K H p ys∧∀l,H l=none→Q (.ref l) (upd H l (.tup ys)))∨(SqT X.K H p ys∧Q (.ref p) H))):=by
 intro pins s σ H xs us Q I r h;obtain⟨p,ys,rfl,h⟩:=h;obtain⟨u,rfl,rx⟩:=a6n r;cases rx;rcases h with⟨hq,q⟩ | ⟨hq,q⟩
 · obtain⟨its,r',pl,hz⟩:=I.list hq;have hlen:=r'.length;refine call_tuple_list pl.isList (fun h' kp=>?_) (by simp only [List.size_toArray] <;> omega)
   have I1:Inv X pins σ H { s with heap:=h' }:=I.kept (t':=s.toks) kp
   have I2:Inv X pins σ (upd H h'.objs.size (.tup ys)) { s with heap:=h'.push { cls:=.type "tuple",data:=.seq its.toArray } }:=
     I1.laid (t':=s.toks) (fun b o e=>Heap.get?_push_of_some _ e) (Nat.le_refl _) (show a0X X.prog X.w _ _ _ (.tup ys) from⟨hz,its,r',a2w.new _ _⟩)
   exact⟨.ref h'.objs.size,_,I2,rfl,q _ (I1.hok.fresh (Nat.le_refl _))⟩
 · obtain⟨its,r',pl,hz⟩:=I.tuple hq;exact call_tuple_same pl ⟨.ref p,H,I,rfl,q⟩
def tyV (K:PySem.W.Frag)(T:String)(x:V)(H:Hp):Prop:=match x with
 | .str _=>T="str"
 | .int _=>T="int"
 | .ref p=>(T="list"∧∃xs,SqL K H p xs)∨(T="tuple"∧((∃o,K.lookup p=some o∧o.cls=.type "tuple"∧o.dict=none)∨∃xs,H p=some (.tup xs)))∨
     (T="dict"∧((∃kvs,H p=some (.dK kvs))∨∃kvs,H p=some (.dT kvs)))∨(T="set"∧∃S n,H p=some (.set S n))
 | _=>False
theorem b2s {pins:List (Addr×Obj)}{σ:St}{H:Hp}{s:Shared}{T:String}{x:V}{v:Value}(I:Inv X pins σ H s)(r:RelV x v)(ty:tyV X.K T x H) :
   s.TypeIs v T∧∀a,v=.ref a→∃ob,s.heap.get? a=some ob∧ob.dict=none:=by
 cases x with
 | str z =>
   obtain⟨t,rfl⟩:=r;cases(show T="str" from ty);exact⟨typeIs_str s z t,fun _ e=>nomatch e⟩
 | int i =>
   obtain⟨t,rfl⟩:=r;cases(show T="int" from ty);exact⟨typeIs_int s i t,fun _ e=>nomatch e⟩
 | ref p =>
   cases r;rcases ty with⟨rfl,xs,hq⟩ | ⟨rfl,hk⟩ | ⟨rfl,hk⟩ | ⟨rfl,S,n,hk⟩
   · obtain⟨its,_,pl,_⟩:=I.list hq;refine⟨pl.isList.typeIs,fun a e=>?_⟩;cases e;obtain⟨o,n,e,c,hd,_⟩:=pl;exact⟨o,e,hd⟩
   · rcases hk with⟨o,hk,hc,hd⟩ | ⟨xs,hk⟩
     · refine⟨⟨o,I.kIn p o hk,hc⟩,fun a e=>?_⟩;cases e;exact⟨o,I.kIn _ o hk,hd⟩
     · obtain⟨_,_,_,o,e,c,_⟩:=(show a0X X.prog X.w H s.heap p (.tup xs) from I.hok p _ hk);refine⟨⟨o,e,(Prod.mk.inj c).1⟩,fun a e2=>?_⟩;cases e2;exact⟨o,e,(Prod.mk.inj c).2⟩
   · have z:∃o,s.heap.get? p=some o∧o.ExactDict:=by
       rcases hk with⟨kvs,hk⟩ | ⟨kvs,hk⟩
       · obtain⟨_,_,_,_,o,_,_,e,ex,_⟩:=I.hok p _ hk;exact⟨o,e,ex⟩
       · obtain⟨_,_,_,_,o,_,_,e,ex,_⟩:=I.hok p _ hk;exact⟨o,e,ex⟩
     obtain⟨o,e,ex⟩:=z;refine⟨⟨o,e,ex.1⟩,fun a e2=>?_⟩;cases e2;exact⟨o,e,ex.2.1⟩
   · obtain⟨o,_,_,_,e,ex,_⟩:=I.hok p _ hk;refine⟨⟨o,e,ex.1⟩,fun a e2=>?_⟩;cases e2;exact⟨o,e,ex.2.1⟩
 | _=>exact False.elim ty
def tBM0 (K:PySem.W.Frag)(T:String)(r:V→List V→Hp→VK→Prop)(to:TE):TE:=fun σ H Q=>to σ H fun x H1=>tyV K T x H1∧r x [] H1 Q
def tBM (K:PySem.W.Frag)(T:String)(r:V→List V→Hp→VK→Prop)(to:TE)(t:TA):TE:=fun σ H Q=>to σ H fun x H1=>tyV K T x H1∧t σ H1 fun xs H2=>r x xs H2 Q
variable {o e:Expr}{es:List Expr}{to:TE}{t:TA}{name:Str}{apos cpos:Pos}{T id:String}{r:V→List V→Hp→VK→Prop}
theorem pe_bm0 (pa:PlainAttrs T)(slot:Slot T name id)(hty:typeOf (.builtin id)=pure (.type "method_descriptor"))(hm:MtR X id r)(ho:PE X o to)
   (hbase:attributeBase o name X.env (eval o X.env)=eval o X.env:=by rfl) (hline:(apos.endLine == cpos.line)=true:=by rfl):PE X (.Call (.Attribute o name apos) [] [] cpos) (tBM0 X.K T r to):=by
 intro pins s σ H Q I h;refine wpAny_Call_method0_late hbase hline (thn (ho pins s σ H _ I h) fun v s1 ⟨x,H1,I1,r1,ty,q1⟩=>?_);obtain⟨h1,h2⟩:=b2s I1 r1 ty;exact⟨T,id,pa,slot,hty,h1,h2,Calls.callWith_builtin rfl (PySem.evalArgs_none (hm pins s1 σ H1 x [] v [] Q I1 r1 .nil q1))⟩
theorem b1H (pa:PlainAttrs T)(slot:Slot T name id)(hty:typeOf (.builtin id)=pure (.type "method_descriptor"))(hm:MtR X id r)(ho:PE X o to)(ha:PA X (e::es) t)
   (hbase:attributeBase o name X.env (eval o X.env)=eval o X.env:=by rfl)
   (hfew:((backTo cpos (starEach (e::es) X.env)).all (fun x=>!x.1) && (backToKw cpos (keywordEach [] X.env)).all (fun x=>x.1.isSome)
     && decide ((e::es).length + ([]:List Keyword).length + (if([]:List Keyword).isEmpty then 0 else 1) < 30))=true:=by rfl)
   (hline:(apos.endLine == cpos.line)=true:=by rfl) (hs:starEach (e::es) X.env=(false,eval e X.env)::starEach es X.env:=by rfl) (hplain:(backTo cpos (starEach es X.env)).any (·.1)=false:=by rfl) :
   PE X (.Call (.Attribute o name apos) (e::es) [] cpos) (tBM X.K T r to t):=by
 intro pins s σ H Q I h;refine wpAny_Call_method_late hbase hfew hline rfl (thn (ho pins s σ H _ I h) fun v s1 ⟨x,H1,I1,r1,ty,q1⟩=>?_);obtain⟨h1,h2⟩:=b2s I1 r1 ty;refine⟨T,id,pa,slot,hty,h1,h2,?_⟩;have hA:=ha cpos pins s1 σ H1 _ I1 q1;rw [hs] at hA ⊢;refine Calls.callWith_builtin (by show(false || (backTo cpos (starEach es X.env)).any (·.1))=false;rw [hplain] <;> rfl) (Calls.evalArgs_plain ?_)
 exact thn hA fun us s2 ⟨vs,H2,I2,r2,q2⟩=>hm pins s2 σ H2 x vs v us Q I2 r1 r2 q2
end
end L2
namespace L2
open PySem PySem.Spec PyProof.Rows
def MtM (X:Cx)(id:String)(r:V→List V→Hp→VK→Prop):Prop:=
 ∀ (pins : List (Addr × Obj)) (s : Shared) (σ : St) (H : Hp) (x : V) (xs : List V) (v : Value) (us : List Value) (Q : VK), Inv X pins σ H s → RelV x v → Vals xs us → r x xs H Q →
   wpAny (model X.prog X.w) X.A (call (.builtin id) (v::us)) (EP X pins σ Q) X.xe s
theorem Vals.one:∀{x:V} {us:List Value},Vals [x] us→∃u,us=[u]∧RelV x u
 | _,_,.cons r .nil=>⟨_,rfl,r⟩
theorem Vals.zero:∀{us:List Value},Vals [] us→us=[]
 | _,.nil=>rfl
theorem Vals.dropLast {xs:List V}{us:List Value}(h:Vals xs us):Vals xs.dropLast us.dropLast:=by
 induction h with
 | nil=>exact .nil
 | cons r t ih =>
   cases t with
   | nil=>exact .nil
   | cons q t'=>exact .cons r ih
theorem a8y {α:Type}(l:List α):l.eraseIdx (l.length - 1)=l.dropLast:=by
 induction l with
 | nil=>rfl
 | cons a r ih =>
   cases r with
   | nil=>rfl
   | cons b r =>
     have e:(a::b::r).length - 1=((b::r).length - 1) + 1:=by
       have h1:(a::b::r).length=r.length + 2:=rfl;have h2:(b::r).length=r.length + 1:=rfl;omega
     rw [e,List.eraseIdx_cons_succ,ih]
     all_goals rfl
section
variable {X:Cx}{pins:List (Addr×Obj)}{σ:St}{H:Hp}{s:Shared}{l b:Addr}{xs ys zs:List V}
theorem Inv.lset {its its':List Value}{n:Nat}{f:Array Value→Array Value}{t':Nat}(I:Inv X pins σ H s)(hH:H l=some (.lst xs))
   (e:s.heap.get? l=some { cls:=.type "list",data:=.seq its.toArray n }) (hf:f its.toArray=its'.toArray) (hv:Vals ys its') (hz:ys.length≤sizeLine) :
   Inv X pins σ (upd H l (.lst ys)) { s with heap:=s.heap.update l (Obj.mapSeq f),toks:=t' }:=by
 have q:=PySem.IsL.update e f;rw [hf] at q;refine I.write (x:=l) (e:=l) (by rw [hH];exact trivial) (.inl rfl) (fun b' u hb hu=>(Heap.get?_update_other s.heap (Obj.mapSeq f) (Ne.symm hb)).trans hu) ⟨_,q⟩ ?_;exact⟨hz,its',_,hv,q⟩
theorem Inv.lnew {its:List Value}{t':Nat}(I:Inv X pins σ H s)(hv:Vals ys its)(hz:ys.length≤sizeLine) :
   Inv X pins σ (upd H s.heap.objs.size (.lst ys)) { s with heap:=s.heap.push { cls:=.type "list",data:=.seq its.toArray },toks:=t' }:=
 I.laid (fun _ _ q=>Heap.get?_push_of_some _ q) (Nat.le_refl _) ⟨hz,its,0,hv,Heap.get?_push_size _ rfl⟩
theorem Inv.fresh (I:Inv X pins σ H s):H s.heap.objs.size=none:=I.hok.fresh (Nat.le_refl _)
theorem Inv.lstM (I:Inv X pins σ H s)(hH:H l=some (.lst xs)):xs.length≤sizeLine∧∃(its:List Value) (n:Nat),Vals xs its∧xs.length=its.length∧s.heap.get? l=some { cls:=.type "list",data:=.seq its.toArray n }:=by
 obtain⟨z,its,n,r,e⟩:=I.hok l _ hH;exact⟨z,its,n,r,r.length,e⟩
end
section
variable {X:Cx}
def a9f:V→List V→Hp→VK→Prop:=fun x vs H Q=>∃l xs y,x=.ref l∧vs=[y]∧H l=some (.lst xs)∧xs.length < sizeLine∧Q .non (upd H l (.lst (xs++[y])))
theorem a2R:MtM X "list.append" a9f:=by
 intro pins s σ H x vs v us Q I rx rv h;obtain⟨l,xs,y,rfl,rfl,hH,hz,q⟩:=h;cases rx;obtain⟨u,rfl,ru⟩:=rv.one;obtain⟨z,its,n,r,hl,e⟩:=I.lstM hH;refine call_meets F.slot_list_append ⟨_,e,rfl⟩ F.entry_list_append (F.args_list_append_2 _ _) (PySem.list_append l its.toArray n u (by rw [List.size_toArray];omega)) ⟨e,?_⟩;refine⟨.non,_,I.lset (its':=its++[u]) hH e (by simp) (r.append (.cons ru .nil)) ?_,rfl,q⟩;rw [List.length_append,List.length_singleton];omega
def rPop:V→List V→Hp→VK→Prop:=fun x vs H Q=>∃l xs y,x=.ref l∧vs=[]∧H l=some (.lst xs)∧xs[xs.length - 1]?=some y∧Q y (upd H l (.lst xs.dropLast))
theorem mt_pop:MtM X "list.pop" rPop:=by
 intro pins s σ H x vs v us Q I rx rv h;obtain⟨l,xs,y,rfl,rfl,hH,hy,q⟩:=h;cases rx;have hus:=rv.zero;subst hus;obtain⟨z,its,n,r,hl,e⟩:=I.lstM hH;obtain⟨u,hu,ru⟩:=r.get hy
 have hy':its.toArray[its.toArray.size - 1]?=some u:=by
   show its.toArray[its.length - 1]?=some u;rw [← Array.getElem?_toList,← hl];exact hu
 refine call_meets F.slot_list_pop ⟨_,e,rfl⟩ F.entry_list_pop (F.args_list_pop_1 _) (MeetsSeq.list_pop_last l its.toArray n u hy' (by rw [List.size_toArray];omega)) ⟨e,?_⟩;refine⟨y,_,I.lset (its':=its.dropLast) hH e ?_ r.dropLast ?_,ru,q⟩
 · show its.toArray.eraseIdxIfInBounds (its.toArray.size - 1)=its.dropLast.toArray;rw [List.size_toArray,List.eraseIdxIfInBounds_toArray,a8y]
 · rw [List.length_dropLast];omega
def rCat:R2:=fun x y H Q=>∃l b xs zs,x=.ref l∧y=.ref b∧H l=some (.lst xs)∧H b=some (.lst zs)∧xs.length + zs.length≤sizeLine∧∀p,H p=none→Q (.ref p) (upd H p (.lst (xs++zs)))
theorem op_cat:OpR X (binaryOp .Add) rCat:=by
 intro pins s σ H x y v u Q I rx ry h;obtain⟨l,b,xs,zs,rfl,rfl,hH,hB,hz,q⟩:=h;cases rx;cases ry;obtain⟨z,its,n,r,hl,e⟩:=I.lstM hH;obtain⟨z2,its2,n2,r2,hl2,e2⟩:=I.lstM hB;refine PySem.P.add_list e e2 ?_ (by rw [List.size_toArray,List.size_toArray];omega);have ea:its.toArray++its2.toArray=(its++its2).toArray:=by simp
 rw [ea];exact⟨.ref _,_,I.lnew (t':=s.toks) (r.append r2) (by rw [List.length_append];omega),rfl,q _ I.fresh⟩
end
end L2
namespace Att
open PySem PySem.W PySem.Calls PyProof.Rows
theorem a4k {P:Params}{h:Heap}:∀(ns:List Int) (vs:List Value),WellAll P h vs (ns.map WData.int)→IntsAre vs ns:=by
 intro ns
 induction ns with
 | nil =>
   intro vs w;rw [List.map_nil] at w;cases w;exact .nil
 | cons n ns ih =>
   intro vs w;rw [List.map_cons] at w;cases w with
   | cons a b =>
     cases a;exact .cons _ _ (ih _ b)
theorem a8V {l:OpenLaw}{n:Nat}(hn:l.most=some n){P:Params}{h:Heap}{args:List WData}{vals:List Value}
   (hpre:l.row.toRowW.claim.pre args=true) (hwl:WellAll P h vals args) :
   ∃a vs ns,vals=[Value.ref a]∧args=[WData.list (ns.map WData.int)]∧h.get? a=some { cls:=.type "list",data:=.seq vs.toArray }∧IntsAre vs ns∧ns.length≤n:=by
 have hsh:WShape.hasAll [] args [.list .int]=true:=(pre_splitW hpre).1;have hc:l.pre.holds [] { args:=args }=true:=(pre_splitW hpre).2;obtain⟨d,r,rfl,h1,h2⟩:=hasAllW_cons hsh;obtain rfl:=hasAllW_nil h2;obtain⟨xs,rfl,h3⟩:=hasW_list h1;obtain⟨ns,rfl⟩:=items_int h3
 have hlen:ns.length≤n:=by
   unfold OpenLaw.pre at hc
   have h4:(WTm.not (.lt (.lit (.int (n:Int))) (.len (.arg 0)))).holds [] { args:=[.list (ns.map .int)] }=true:=by
     have h4:=(holds_andW hc).1;rw [hn] at h4;exact h4
   have h5:=condW_of h4 (w_not (w_lt w_lit (w_len_list (w_arg rfl))));rw [List.length_map] at h5;refine Nat.le_of_not_lt fun q=>?_;have q':(n:Int) < ((ns.length:Nat):Int):=by omega
   first
     | (rw [decide_eq_true q'] at h5;exact absurd h5 (by decide))
     | (simp at h5;omega)
 cases hwl with
 | cons w1 w2 =>
   cases w2;cases w1 with
   | list ho hall=>exact⟨_,_,ns,rfl,rfl,ho,a4k ns _ hall,hlen⟩
theorem a9t (l:OpenLaw)(args:List WData):l.row.toRowW.claim.post args (.bool true) args=true:=
 postW_of (r:=l.row.toRowW) (X:=(true == true))
   (show WShape.has [] (.bool true) .bool=true by first | rfl | decide | simp [WShape.has,WShape.arms,WShape.armsAll])
   (show(WTm.eq .res (.lit (.bool true))).value [] { args:=args,res:=some (.bool true),after:=args }=some (.bool (true == true)) from w_eq_bool (w_res rfl) w_lit) rfl
theorem attach_call {l:OpenLaw}{n:Nat}{q:Program}{loose:List Str}{XP:(Str→Option Value)→Heap→Prop}{YP:World→Heap→Prop}{d:DefRec}
   (hn:l.most=some n) (hdf:d.params.defaults=[])
   (call:∀(w:World) (s₀ s₁:Shared) (mg mb:Str→Option Value) (fa:Addr) (o:Obj) (pm cd doc:Value) (a:Addr) (vs:List Value) (ns:List Int),
     Ground q loose [] XP w s₀ mg mb s₁.heap→YP w s₁.heap→
     s₁.heap.get? fa=some o→o.data=.func (docDef d.name d.params d.body d.scope pm cd doc)→s₁.heap.CodeRec cd d.name→mg d.name=some (.ref fa)→
     s₁.heap.get? a=some { cls:=.type "list",data:=.seq vs.toArray }→IntsAre vs ns→ns.length≤n→s₁.gens=#[]→
     codeAny (model l.prog w) callerA (.call (.ref fa) ⟨[.ref a],[]⟩) (fun r s'=>r=.ok (.ret (.bool true))∧OldK s₁.heap s'.heap∧s'.os=s₁.os∧AllBare s'.gens) s₁) :
   WalkO q loose XP YP l.row.toRowW d [] (fun f vs=>PySem.call f vs):=by
 intro w s₀ s₁ mg mb G Y fa o pm cd doc dV kV ho hd hcd hD hmg hg args vals as hpre hlay hrd hwl hlo;obtain rfl:dV=.none:=Dflts.none hD hdf;obtain rfl:kV=.none:=Dflts.noKw hD;obtain⟨a,vs,ns,rfl,rfl,hobj,hints,hlen⟩:=a8V hn hpre hwl;refine enter_call (codeAny_mono (call w s₀ s₁ mg mb fa o pm cd doc a vs ns G Y ho (fd_plain hd) hcd hmg hobj hints hlen hg) fun r s' hq=>?_);obtain⟨rfl,h2,h3,h4⟩:=hq;exact⟨.inl ⟨.bool true,.bool true,[],rfl,fun _=>rfl,.bool true,a9t l _,fun _=>⟨List.Pairwise.nil,fun _ hm=>(nomatch hm)⟩⟩,h2,h3,h4⟩
end Att
namespace L2
open PySem PySem.Spec PyProof.Rows
theorem a5w:∀{vs:List Value} {ns:List Int},IntsAre vs ns→Vals (ns.map V.int) vs
 | _,_,.nil=>.nil
 | _,_,.cons n t h=>.cons ⟨t,rfl⟩ (a5w h)
end L2
namespace L2
open PySem PySem.Spec PyProof.Rows
abbrev KOf {K:PySem.W.Frag}{h:Heap}(_:K.In h):PySem.W.Frag:=K
end L2
namespace L2
open PySem PySem.Spec PyProof.Rows
def a1e (s:Stmt):Arguments:=match s with
 | .FunctionDef _ a _ _ _ _ _ _ _ _=>a
 | _=>{ posonlyargs:=[],args:=[],vararg:=none,kwonlyargs:=[],kw_defaults:=[],kwarg:=none,defaults:=[] }
def a0I (s:Stmt):List Stmt:=match s with
 | .FunctionDef _ _ b _ _ _ _ _ _ _=>b
 | _=>[]
def a0f (s:Stmt):Scope:=match s with
 | .FunctionDef _ _ _ _ _ _ sc _ _ _=>sc
 | _=>{ kind:=.function,names:=[],isGenerator:=false,isCoroutine:=false }
abbrev CX0:CXT:=fun _ _ _ _ _ _=>False
abbrev E0:XK:=fun _ _ _=>False
theorem pass0 {X:Cx}:b0X CX0 X E0:=fun _ _ _ _ _ _ _ h=>h.elim
structure Fun (K:PySem.W.Frag)(x qual:Str)(st:Stmt)(f:Addr)(fd:FuncData):Prop where
 ex:∃(oc:Value) (od:Option Addr) (kV doc pm:Value) (an:Option Addr) (cdv ct:Value) (osl:Array (Option Value)),
   fd=PySem.W.fnOf x qual (a1e st) (a0I st) (a0f st) .none kV doc pm an cdv ct∧K.lookup f=some ⟨oc,od,.func fd,osl⟩∧PySem.W.codeIn K cdv qual=true
 kp:PySem.W.keepIn K (.ref f)=true
section
variable {P:Program}{w:World}{K:PySem.W.Frag}{mg:Str→Option Value}{base:Heap}
theorem Fun.ok {x qual:Str}{st:Stmt}{f:Addr}{fd:FuncData}{N ps:List Str}{k:Nat}{sp:Sp}(F:Fun K x qual st f fd)(S:a0o N ps (a0f st))(len:∀vs H Q E,sp vs H Q E→vs.length=ps.length)
   (hbody:∀(cdv:Value) (A:Around) (outer:List Env) (s:Shared) (H:Hp) (vs:List V) (Q:VK) (E:XK),Room k (A.deeper (envOfC qual (a0f st) s.heap.objs.size f cdv))→sp vs H Q E→
     ∃t,PSs (cxOf CX0 P w K mg base N qual (a0f st) f cdv A outer s H E).nox (a0I st) t∧t { nx:=fun _ H'=>Q .non H',rt:=Q } (a3b N vs) H):FnOk P w K mg base CX0 (k + 1) f fd ps sp:=by
 obtain⟨oc,od,kV,doc,pm,an,cdv,ct,osl,rfl,lk,hcd⟩:=F.ex;refine fn_of lk hcd S len fun A outer s H vs Q E hr hsp=>?_;obtain⟨t,h,q⟩:=hbody cdv A outer s H vs Q E hr hsp;exact⟨t,h.nox,q⟩
theorem Fun.binds {x qual:Str}{st:Stmt}{f:Addr}{fd:FuncData}{ps:List Str}(F:Fun K x qual st f fd)
   (h:∀(kV doc pm:Value) (an:Option Addr) (cdv ct:Value) (us:List Value),us.length=ps.length→bindArgs (PySem.W.fnOf x qual (a1e st) (a0I st) (a0f st) .none kV doc pm an cdv ct) ⟨us,[]⟩=pure (ps.zip us)):a8I K fd ps []:=by
 obtain⟨oc,od,kV,doc,pm,an,cdv,ct,osl,rfl,lk,hcd⟩:=F.ex;exact .all (h kV doc pm an cdv ct)
theorem fun_mk {x qual:Str}{st:Stmt}{f:Addr}{oc:Value}{od an:Option Addr}{osl:Array (Option Value)}{kV doc pm cdv ct:Value}(l:K.lookup f=some ⟨oc,od,.func (PySem.W.fnOf x qual (a1e st) (a0I st) (a0f st) .none kV doc pm an cdv ct),osl⟩)
   (c:PySem.W.codeIn K cdv qual=true) (k:PySem.W.keepIn K (.ref f)=true):Fun K x qual st f (PySem.W.fnOf x qual (a1e st) (a0I st) (a0f st) .none kV doc pm an cdv ct):=⟨⟨oc,od,kV,doc,pm,an,cdv,ct,osl,rfl,l,c⟩,k⟩
end
theorem hu_of {A:Around}{k:Nat}(hr:Room k A):A.units + 1 < cLine:=Nat.lt_of_le_of_lt (Nat.add_le_add_left (by decide:1≤64) _) hr.units
section
variable {X:Cx}
theorem pv (i:Nat){x:Str}{pos:Pos}(hN:X.N[i]?=some x:=by rfl)(hv:Vis X.env.scope x:=by first | exact Or.inl rfl | exact Or.inr (Or.inl rfl) | exact Or.inr (Or.inr rfl))(hd:(x == ("__debug__":Str))=false:=by decide)
   (hcd:(x == ("__classdict__":Str))=false:=by decide):PE X (.Name x pos) (tVar i):=b2E hN hv hd hcd
end
theorem iteF {A B:Prop}(h:B):if false=true then A else B:=by
 rw [if_neg Bool.false_ne_true];exact h
theorem iteT {A B:Prop}(h:A):if true=true then A else B:=by
 rw [if_pos rfl];exact h
theorem ite2 {c A B:Prop}[Decidable c](h1:c→A)(h2:¬c→B):if c then A else B:=by
 by_cases h:c
 · rw [if_pos h];exact h1 h
 · rw [if_neg h];exact h2 h
def Same (H H':Hp):Prop:=∀b o,H b=some o→H' b=some o
theorem Same.refl (H:Hp):Same H H:=fun _ _ h=>h
theorem Same.trans {H H1 H2:Hp}(a:Same H H1)(b:Same H1 H2):Same H H2:=fun c o h=>b c o (a c o h)
end L2
end
section
namespace L2
open PySem PySem.Spec PyProof.Rows
theorem a4r {prog:Program}{w:World}{A:Around}{R:Result→Shared→Prop}{s:Shared}{elt target iter:Expr}{ifs:List Expr}{scope:Scope}{pos:Pos}{it acc:Value}{env:Env}(I:Nat→Shared→Prop)
   (turn:∀n s,I n s→wpAny (model prog w) A (pyNext it) (fun r s₁=>match r with
     | none=>R (.ok .next) s₁
     | some v=>wpAny (model prog w) A (letOwnedTupleGo target it v) (fun _ s₁'=>wpAny (model prog w) A (assign target env v) (fun _ s₂=>
         wpAny (model prog w) A (forIn ifs true fun c r=>if r=true then do let ok ← isTrue c env (eval c env);pure (ForInStep.yield ok) else pure (ForInStep.yield r)) (fun ok s₃=>
           if ok=true then wpAny (model prog w) A (eval elt env) (fun x s₄=>
             wpAny (model prog w) A (call (.builtin "list.append") [acc,x]) (fun _ s₅=>∃m,m < n∧I m s₅) (fun _ _=>False) s₄) (fun _ _=>False) s₃
           else ∃m,m < n∧I m s₃) (fun _ _=>False) s₂) (fun _ _=>False) s₁') (fun _ _=>False) s₁) (fun _ _=>False) s)
   (n:Nat) (h:I n s) :
   codeAny (model prog w) A (.compLoop (.ListComp elt [⟨target,iter,ifs,0⟩] scope pos) 0 it acc env) R s:=by
 refine codeAny_loop rfl I (fun n s hI=>?_) n h;show wpAny _ A ((compTurn (.ListComp elt [⟨target,iter,ifs,0⟩] scope pos) 0 it acc env).onRaise (fun x=>do noteFrame x env;theTreesLotGoes x)) _ _ s;refine wpAny_noted ?_;rw [compTurn_list];refine wpAny_bind (wpAny_standAt (wpAny_bind (wpAny_mono (turn n s hI) (fun r s₁ h₁=>?_) fun _ _ h'=>h'.elim)));cases r with
 | none=>exact wpAny_pure h₁
 | some v =>
   refine wpAny_bind (wpAny_mono h₁ (fun _ s₁' h₁'=>?_) fun _ _ h'=>h'.elim);refine wpAny_bind (wpAny_mono h₁' (fun _ s₂ h₂=>wpAny_bind (wpAny_mono h₂ (fun ok s₃ h₃=>?_) fun _ _ h'=>h'.elim)) fun _ _ h'=>h'.elim);cases ok with
   | false=>exact wpAny_pure ⟨rfl,h₃⟩
   | true =>
     exact wpAny_bind (wpAny_bind (wpAny_mono h₃ (fun x s₄ h₄=>wpAny_bind (wpAny_mono h₄ (fun _ s₅ h₅=>wpAny_pure (wpAny_pure ⟨rfl,h₅⟩)) fun _ _ h'=>h'.elim)) fun _ _ h'=>h'.elim))
def a0m (X:Cx)(scope:Scope)(cl:List (Str×Addr))(N:List Str)(fp:List Addr)(C:Addr)(s:Shared)(H:Hp):Cx where
 prog:=X.prog
 w:=X.w
 K:=X.K
 mg:=X.mg
 base:=X.base
 A:=X.A
 N:=N
 s₀:=s
 H₀:=H
 env:=compEnvC scope cl C X.env
 outer:=X.stack
 stack:=X.stack
 ex:=fp
 fn:=fun _=>false
 calm:=X.calm
 pn:=X.pn
 xe:=fun _ _=>False
structure a1i (X:Cx)(scope:Scope)(cl:List (Str×Addr))(N:List Str)(cs:List (Option Nat)):Prop where
 clos:closureFor scope X.env=pure cl
 kind:scope.kind=.function
 nocell:∀y∈scope.names,y.2≠.cell
 names:∀y∈scope.names,y.2=.local→scope.names.lookup y.1=some .local
 sub:∀x c,cl.lookup x=some c→X.env.cells.lookup x=some c
 has:∀x,((relabel scope X.env).names.lookup x=some .cell∨(relabel scope X.env).names.lookup x=some .free)→∃c,cl.lookup x=some c
 len:cs.length=N.length
 cap:∀(k j:Nat) (x:Str),cs[k]?=some (some j)→N[k]?=some x→X.N[j]?=some x∧Vis X.env.scope x∧X.env.kindOf x≠some .local∧(∃c,cl.lookup x=some c)∧((relabel scope X.env).names.lookup x=some .cell∨(relabel scope X.env).names.lookup x=some .free)
def b0U:List (Str×Addr)→List (Str×Addr)→Prop
 | [],_=>True
 | y::r,cells=>cells.lookup y.1=some y.2∧b0U r cells
theorem b0U.get:∀{cl cells:List (Str×Addr)},b0U cl cells→∀x c,cl.lookup x=some c→cells.lookup x=some c
 | [],_,_,_,_,h=>by cases h
 | (y, d) :: r, cells, ⟨h1, h2⟩, x, c, h => by
   rw [List.lookup_cons] at h;cases e:x == y with
   | true =>
     rw [e] at h;have ey:x=y:=by simpa using e
     cases h;rw [ey];exact h1
   | false=>rw [e] at h;exact b0U.get h2 x c h
theorem a4q {X:Cx}{scope:Scope}{cl:List (Str×Addr)}{N:List Str}{cs:List (Option Nat)}(clos:closureFor scope X.env=pure cl)(kind:scope.kind=.function)(nocell:(scope.names.all fun y=>!(y.2 == .cell))=true)
   (names:(scope.names.all fun y=>!(y.2 == .local) || scope.names.lookup y.1 == some .local)=true) (sub:b0U cl X.env.cells)
   (has:((relabel scope X.env).names.all fun y=>!(y.2 == .cell || y.2 == .free) || (cl.lookup y.1).isSome)=true) (len:cs.length=N.length)
   (cap:((cs.zip N).all fun y=>match y.1 with | none=>true | some j=>X.N[j]? == some y.2 && (X.env.scope.names.lookup y.2 == some .cell || X.env.scope.names.lookup y.2 == some .free) && (cl.lookup y.2).isSome &&
     ((relabel scope X.env).names.lookup y.2 == some .cell || (relabel scope X.env).names.lookup y.2 == some .free))=true):a1i X scope cl N cs:=by
 refine⟨clos,kind,fun y hy=>?_,fun y hy e=>?_,sub.get,fun x hx=>?_,len,fun k j x hk hN=>?_⟩
 · have:=List.all_eq_true.mp nocell y hy;intro z;rw [z] at this;cases this
 · have:=List.all_eq_true.mp names y hy;rw [e] at this
   simpa using this
 · rcases hx with hx | hx
   · have:=List.all_eq_true.mp has _ (PySem.mem_of_lookup hx);exact Option.isSome_iff_exists.mp (by simpa using this)
   · have:=List.all_eq_true.mp has _ (PySem.mem_of_lookup hx);exact Option.isSome_iff_exists.mp (by simpa using this)
 · have hz:(cs.zip N)[k]?=some (some j,x):=by rw [List.getElem?_zip_eq_some];exact⟨hk,hN⟩
   have:=List.all_eq_true.mp cap _ (List.mem_of_getElem? hz);simp only [Bool.and_eq_true,Bool.or_eq_true,beq_iff_eq] at this;obtain⟨⟨⟨h1,h2⟩,h3⟩,h4⟩:=this;refine⟨h1,?_,?_,Option.isSome_iff_exists.mp h3,h4⟩
   · rcases h2 with h2 | h2
     · exact .inr (.inl h2)
     · exact .inr (.inr h2)
   · intro z;have z':X.env.scope.names.lookup x=some .local:=z;rw [z'] at h2;rcases h2 with h2 | h2 <;> cases h2
def a8E (cs:List (Option Nat))(σ:St):St:=cs.map fun o=>o.bind fun j=>(σ[j]?).bind id
def PIf (X:Cx)(ifs:List Expr)(t:TT):Prop:=
 ∀ (pins : List (Addr × Obj)) (s : Shared) (σ : St) (H : Hp) (Q : Bool → Hp → Prop), Inv X pins σ H s → t σ H Q →
   wpAny (model X.prog X.w) X.A (forIn ifs true fun c r=>if r=true then do let ok ← isTrue c X.env (eval c X.env);pure (ForInStep.yield ok) else pure (ForInStep.yield r)) (TP X pins σ Q) X.xe s
def tTru:TT:=fun _ H Q=>Q true H
theorem b3x {X:Cx}:PIf X [] tTru:=fun pins s σ H Q I h=>wpAny_tests_nil ⟨H,I,h⟩
theorem b3w {X:Cx}{c:Expr}{t:TT}(h:PT X c t):PIf X [c] t:=fun pins s σ H Q I hq=>wpAny_tests_one (h pins s σ H Q I hq)
def CompW (J:It)(g:TG)(tt:TT)(te:TE)(Q:VK)(D:Addr)(σc:St)(H1:Hp):Prop:=∃W:Nat→Nat→St→Hp→Prop,(∃m,W 0 m σc H1)∧
 ∀i m σ' H',W i m σ' H'→(J.stop i H'∧Q (.ref D) H')∨(J.go i H'∧∀x H2,J.yld i H' x H2→g x σ' H2 fun σ3 H3=>tt σ3 H3 fun b H4=>
    if b=true then te σ3 H4 fun v H5=>∃ys,H5 D=some (.lst ys)∧ys.length < sizeLine∧∃m',m' < m∧W (i + 1) m' σ3 (upd H5 D (.lst (ys++[v])))
    else ∃m',m' < m∧W (i + 1) m' σ3 H4)
def tComp (cs:List (Option Nat))(wi:TI)(g:TG)(tt:TT)(te:TE):TE:=fun σ H Q=>wi σ H fun J H1=>∀D,H1 D=none→CompW J g tt te Q D (a8E cs σ) (upd H1 D (.lst []))
theorem a5o {X:Cx}{scope:Scope}{cl:List (Str×Addr)}{N:List Str}{cs:List (Option Nat)}(S:a1i X scope cl N cs){pins:List (Addr×Obj)}{σ:St}{H:Hp}{s:Shared}{fp:List Addr}{h₁:Heap}{tk:Nat}
   (I:Inv X pins σ H s) (f2:∀b∈fp,FpOk X pins H b) (ho:∀b∈fp,∃o,s.heap.get? b=some o)
   (old:∀b o,s.heap.get? b=some o→h₁.get? b=some o) (hns:h₁.Ns (s.heap.objs.size + 1) (fun x=>([]:List (Str×Value)).reverse.lookup x))
   (hD:h₁.get? s.heap.objs.size=some { cls:=.type "list",data:=.seq ([]:List Value).toArray }) :
   Inv (a0m X scope cl N fp (s.heap.objs.size + 1) s H) pins (a8E cs σ) (upd H s.heap.objs.size (.lst [])) { s with heap:=h₁,toks:=tk }:=by
 have lt:∀b o,s.heap.get? b=some o→b < s.heap.objs.size:=fun b o e=>Heap.lt_size e;have neC:∀b o,s.heap.get? b=some o→b≠s.heap.objs.size + 1:=fun b o e=>Nat.ne_of_lt (Nat.lt_succ_of_lt (lt b o e));have neD:∀b o,s.heap.get? b=some o→b≠s.heap.objs.size:=fun b o e=>Nat.ne_of_lt (lt b o e);have nstk:∀b,b≠X.env.locals→b∉X.fs→b∉frs X.stack:=fun b h1 h2 hb=>(List.mem_cons.mp (I.stkSub b hb)).elim h1 h2
 have cellO:∀x c,cl.lookup x=some c→∃v o,s.heap.get? c=some o∧s.heap.IsCell c v:=fun x c e=>by
   obtain⟨v,q⟩:=I.cell x c (S.sub x c e);obtain⟨o,h1,_⟩:=id q;exact⟨v,o,h1,q⟩
 refine⟨⟨I.ok.mod,S.kind,I.ok.glob,I.ok.blt,Nat.le_succ _,fun x y c h1 h2=>I.ok.inj x y c (S.sub x c h1) (S.sub y c h2),fun x hx=>S.has x hx,fun x c hx=>(by cases hx),I.ok.hd,I.ok.frames,.inl rfl,fun b hb=>?_,I.bs,Nat.le_trans I.ok.bsz I.sz,fun b o e hb=>?_,fun b hb=>?_,I.stack,I.stkFree,I.nos⟩,
   rfl,I.bare,Un.laid old (Nat.le_refl _) I.fresh I.bigS,⟨_,hns,fun i x v e1 e2 e3=>?_⟩,fun x c e=>?_,?_,fun x c e=>?_,fun p hp=>?_,I.hok.laid old (Nat.le_refl _) ⟨Nat.zero_le _,[],0,.nil,hD⟩,?_⟩
 · obtain⟨o,e⟩:=ho b hb;exact⟨neC b o e,fun x c ec=>(f2 b hb).2.2.2.2.1 x c (S.sub x c ec)⟩
 · rcases(f2 b hb).2.2.2.1 with z | z
   · exact I.ok.noex b o e z
   · exact absurd (Nat.lt_of_lt_of_le (Heap.lt_size e) (Nat.le_trans I.ok.bsz z)) (Nat.lt_irrefl _)
 · exact nstk b (f2 b hb).2.1 (f2 b hb).2.2.1
 · have e2':(cs.map fun o=>o.bind fun j=>(σ[j]?).bind id)[i]?=some (some v):=e2;rw [List.getElem?_map] at e2';cases ec:cs[i]? with
   | none=>rw [ec] at e2';cases e2'
   | some o =>
     rw [ec] at e2';cases o with
     | none=>cases e2'
     | some j =>
       have e2'':(σ[j]?).bind id=some v:=by simpa using e2'
       cases es:σ[j]? with
       | none=>rw [es] at e2'';cases e2''
       | some ov =>
         rw [es] at e2'';have e4:ov=some v:=by simpa using e2''
         subst e4;obtain⟨hN,hv,hnl,⟨c,hc⟩,hk⟩:=S.cap i j x ec e1;obtain⟨m,hn,hl⟩:=I.loc;obtain⟨u,r,l⟩:=hl j x v hN es hv;refine⟨u,r,?_⟩;rcases l with⟨hk',_⟩ | ⟨_,c',hc',z⟩
         · exact absurd hk' hnl
         · have ecc:c'=c:=by
             have:=S.sub x c hc;rw [hc'] at this;exact Option.some.inj this
           subst ecc;obtain⟨o,h1,h2⟩:=z;exact .inr ⟨hk,c',hc,⟨o,old _ o h1,h2⟩⟩
 · obtain⟨v,o,h1,o',h2,h3⟩:=cellO x c e;exact⟨v,o',old _ o' h2,h3⟩
 · show upd H s.heap.objs.size (.lst []) (s.heap.objs.size + 1)=none;rw [a0j (Nat.succ_ne_self _)];exact I.hok.fresh (Nat.le_succ _)
 · obtain⟨v,o,h1,_⟩:=cellO x c e;rw [a0j (neD c o h1)];exact I.freeC x c (S.sub x c e)
 · obtain⟨e,n,ne,nf,d⟩:=I.pin p hp;exact⟨old _ _ e,by rw [a0j (neD _ _ e)];exact n,neC _ _ e,nstk _ ne nf,d⟩
 · show(cs.map _).length=N.length;rw [List.length_map];exact S.len
theorem Inv.uncomp {X:Cx}{scope:Scope}{cl:List (Str×Addr)}{N:List Str}{pins:List (Addr×Obj)}{σ σ':St}{H H':Hp}{s s':Shared}{fp:List Addr}{h':Heap}
   (I:Inv X pins σ H s) (f2:∀b∈fp,FpOk X pins H b)
   (J:Inv (a0m X scope cl N fp (s.heap.objs.size + 1) s H) pins σ' H' s') (hs:∀b,b≠s.heap.objs.size + 1→h'.get? b=s'.heap.get? b) :
   Inv X pins σ H' { s' with heap:=h' }:=by
 obtain⟨hh,g,d,t,os'⟩:=s';obtain rfl:os'=s.os:=J.os;have U:Un (frs X.stack) fp H H' s.heap hh:=J.base;have old:∀b o,s.heap.get? b=some o→b≠s.heap.objs.size + 1:=fun b o e=>Nat.ne_of_lt (Nat.lt_succ_of_lt (Heap.lt_size e));have hs':∀b,b≠s.heap.objs.size + 1→h'.get? b=hh.get? b:=hs
 have trC:∀b u,H' b=some u→b≠s.heap.objs.size + 1:=fun b u e z=>by
   have q:H' (s.heap.objs.size + 1)=none:=J.free;rw [z,q] at e;cases e
 show Inv X pins σ H' { s with heap:=h',gens:=g,drawn:=d,toks:=t };refine I.call (h':=h') (g':=g) (d':=d) (t':=t) (ch:=fp) ⟨fun b o e n hb hx=>?_,fun b o e n hb hx=>?_,U.free,fun b o e hx=>?_,U.tups,U.frzs,U.tbls,U.sys⟩ (fun b u e=>?_) J.bare fun b hb=>?_
 · rw [hs' b (old b o e)];exact U.keep b o e n hb hx
 · rw [hs' b (old b o e)];exact U.slot b o e n hb hx
 · rw [hs' b (old b o e)];exact U.there b o e hx
 · refine(J.hok b u e).stay (fun c v hc q=>?_) (fun _ q=>q) fun _ _ q=>q
   have ne:c≠s.heap.objs.size + 1:=by
     rcases hc with z | z
     · rw [z];exact trC b u e
     · exact trC c _ z
   rw [hs' c ne];exact q
 · exact⟨(f2 b hb).2.2.2.1,(f2 b hb).2.1,(f2 b hb).2.2.2.2.1,(f2 b hb).2.2.2.2.2⟩
theorem a9y {X:Cx}{scope:Scope}{cl:List (Str×Addr)}{N:List Str}{cs:List (Option Nat)}{elt tg iter:Expr}{ifs:List Expr}{pos:Pos}{wi:TI}{g:TG}{tt:TT}{te:TE}(S:a1i X scope cl N cs)(hc:X.calm=true)(hi:PI X tg iter wi)
   (hb:∀(fp:List Addr) (C:Addr) (s:Shared) (H:Hp),PG (a0m X scope cl N fp C s H) tg g∧PIf (a0m X scope cl N fp C s H) ifs tt∧PE (a0m X scope cl N fp C s H) elt te)
   (hs:∀x,foldedSetIterable iter X.env x=pure x:=by intro _;rfl) :
   PE X (.ListComp elt [⟨tg,iter,ifs,0⟩] scope pos) (tComp cs wi g tt te):=by
 intro pins s σ H Q I h;rw [eval_ListComp];refine wpAny_comprehension_free (use:=none) rfl hs S.clos S.kind S.names (thn (hi pins s σ H _ I h) fun v s1 h1=>thn h1 fun itv s2 h2=>?_);obtain⟨it,fp,tn,J,H2,rfl,I2,T,st2,f2,q⟩:=h2
 have ho:∀b∈fp,∃o,s2.heap.get? b=some o:=fun b hb=>by
   obtain⟨o,e,_⟩:=T.obj 0 _ st2 b hb;exact⟨o,e⟩
 refine wpAny_newObj_type (wpAny_newFunctionEnv S.nocell (by intro y hy;simp at hy) (fun h₁ hns₁ hsb₁=>?_) S.kind);dsimp only at hns₁ hsb₁ ⊢;have hC:(s2.heap.push { cls:=.type "list",dict:=none,data:=.seq ([]:List Value).toArray }).objs.size=s2.heap.objs.size + 1:=by rw [Heap.size_push]
 generalize hH2:s2.heap.push { cls:=.type "list",dict:=none,data:=.seq ([]:List Value).toArray }=hp2 at hns₁ hsb₁ hC ⊢;have old:∀b o,s2.heap.get? b=some o→h₁.get? b=some o:=fun b o e=>hsb₁.extBut b o (by rw [hC];exact Nat.ne_of_lt (Nat.lt_succ_of_lt (Heap.lt_size e))) (Heap.get?_push_of_some _ (hH2▸Heap.get?_push_of_some _ e));have hD:h₁.get? s2.heap.objs.size=some { cls:=.type "list",data:=.seq ([]:List Value).toArray }:=hsb₁.extBut _ _ (by rw [hC];exact Nat.ne_of_lt (Nat.lt_succ_self _)) (Heap.get?_push_of_some _ (hH2▸Heap.get?_push_size _ rfl));rw [hC] at hns₁ ⊢;obtain⟨W,⟨m0,w0⟩,turn⟩:=q s2.heap.objs.size I2.fresh;have Ic:=a5o S (tk:=s2.toks + ([]:List (Str×Value)).length) I2 f2 ho old hns₁ hD;have nstk:∀b,b≠X.env.locals→b∉X.fs→b∉frs X.stack:=fun b h1 h2 hb=>(List.mem_cons.mp (I2.stkSub b hb)).elim h1 h2
 have stat:∀{H':Hp},(∀b∈fp,H' b=none)→∀b∈fp,FpOk (a0m X scope cl N fp (s2.heap.objs.size + 1) s2 H2) pins H' b:=fun hn b hb=>by
   obtain⟨o,e⟩:=ho b hb;exact⟨hn b hb,Nat.ne_of_lt (Nat.lt_succ_of_lt (Heap.lt_size e)),nstk b (f2 b hb).2.1 (f2 b hb).2.2.1,.inl hb,fun x c ec=>(f2 b hb).2.2.2.2.1 x c (S.sub x c ec),(f2 b hb).2.2.2.2.2⟩
 obtain⟨hg,hf,he⟩:=hb fp (s2.heap.objs.size + 1) s2 H2;have st1:tn 0 h₁:=T.keep _ _ _ st2 fun b hb o e=>old b o e
 have fr1:∀b∈fp,upd H2 s2.heap.objs.size (.lst []) b=none:=fun b hb=>by
   obtain⟨o,e⟩:=ho b hb;rw [a0j (Nat.ne_of_lt (Heap.lt_size e))];exact(f2 b hb).1
 have loop:∀s₃:Shared,s₃={ s2 with heap:=h₁,toks:=s2.toks + ([]:List (Str×Value)).length }→
     codeAny (model X.prog X.w) X.A (.compLoop (.ListComp elt [⟨tg,iter,ifs,0⟩] scope pos) 0 (.ref it) (.ref s2.heap.objs.size) (compEnvC scope cl (s2.heap.objs.size + 1) X.env))
       (compPost (model X.prog X.w) X.A X.xe none (EP X pins σ Q) (.ref s2.heap.objs.size) (s2.heap.objs.size + 1)) s₃:=by
   rintro s₃ rfl;refine a4r (fun n s'=>∃i σ' H',Inv (a0m X scope cl N fp (s2.heap.objs.size + 1) s2 H2) pins σ' H' s'∧tn i s'.heap∧(∀b∈fp,H' b=none)∧W i n σ' H') ?_ m0 ⟨0,_,_,Ic,st1,fr1,w0⟩;rintro n s3 ⟨i,σ3,H3,I3,st3,fr3,w3⟩;rcases turn i n σ3 H3 w3 with⟨stop,qn⟩ | ⟨go,step⟩
   · refine thn (T.done (a0m X scope cl N fp (s2.heap.objs.size + 1) s2 H2) rfl rfl rfl hc i pins s3 σ3 H3 (fun _ _=>False) I3 (stat fr3) st3 stop) fun r s4 ⟨hr,I4⟩=>?_;subst hr;obtain⟨m4,hn4,_⟩:=I4.loc;exact⟨m4,hn4,fun h' hs'=>⟨.ref s2.heap.objs.size,H3,Inv.uncomp I2 f2 I4 fun b hb=>hs'.2 b hb,rfl,qn⟩⟩
   · refine thn (T.item (a0m X scope cl N fp (s2.heap.objs.size + 1) s2 H2) rfl rfl rfl hc i pins s3 σ3 H3 (fun _ _=>False) I3 (stat fr3) st3 go) fun r s4 ⟨u,hr,h4⟩=>?_;subst hr;refine thn h4 fun _ s5 ⟨x,H5,I5,r5,y5,st5,fr5⟩=>?_;have I5':=I5.pinned (stat fr5) (T.obj _ _ st5);refine thn (hg _ s5 σ3 H5 x u _ I5' r5 (step x H5 y5)) fun _ s6 ⟨σ6,H6,I6,q6⟩=>?_
     have again:∀{σ7:St} {H7:Hp} {s7:Shared},Inv (a0m X scope cl N fp (s2.heap.objs.size + 1) s2 H2) (pins++a1v fp s5.heap) σ7 H7 s7→(∃m',m' < n∧W (i + 1) m' σ7 H7)→
         ∃m,m < n∧∃i σ' H',Inv (a0m X scope cl N fp (s2.heap.objs.size + 1) s2 H2) pins σ' H' s7∧tn i s7.heap∧(∀b∈fp,H' b=none)∧W i m σ' H':=fun {σ7 H7 s7} I7 n7=>by
       obtain⟨m',hm,w7⟩:=n7;refine⟨m',hm,i + 1,σ7,H7,I7.unpinned,T.keep _ _ _ st5 fun b hb o e=>(I7.pin (b,o) (List.mem_append_right _ (List.mem_append_right _ (a0J hb e)))).1,fun b hb=>?_,w7⟩;obtain⟨o,e,d⟩:=T.obj _ _ st5 b hb;exact(I7.pin (b,o) (List.mem_append_right _ (List.mem_append_right _ (a0J hb e)))).2.1
     refine thn (hf _ s6 σ6 H6 _ I6 q6) fun ok s7 ⟨H7,I7,q7⟩=>?_;cases ok with
     | false=>exact again I7 q7
     | true =>
       refine thn (he _ s7 σ6 H7 _ I7 q7) fun y s8 ⟨v8,H8,I8,r8,ys,e8,z8,n8⟩=>?_
       have ma:=a2R (X:=a0m X scope cl N fp (s2.heap.objs.size + 1) s2 H2) _ s8 σ6 H8 (.ref s2.heap.objs.size) [v8] (.ref s2.heap.objs.size) [y]
         (fun v H9=>∃m',m' < n∧W (i + 1) m' σ6 H9) I8 rfl (.cons r8 .nil) ⟨_,ys,v8,rfl,rfl,e8,z8,n8⟩
       exact thn ma fun _ s9 ⟨v9,H9,I9,_,q9⟩=>again I9 q9
 exact codeAny_compStart_list (loop _ rfl) (T.self _ 0 _ _ _ st1 (loop _ rfl))
end L2
end
section
namespace L2
open PySem PySem.Spec PyProof.Rows
section
variable {X:Cx}
theorem Vals.getE {xs:List V}{us:List Value}(r:Vals xs us){j:Nat}(h:j < us.length):∃x,xs[j]?=some x∧RelV x us[j]:=by
 have hl:=r.length;have h':j < xs.length:=by omega
 obtain⟨u,e,q⟩:=r.get (i:=j) (x:=xs[j]) (by simp [h']);refine⟨xs[j],by simp [h'],?_⟩;have e':us[j]?=some us[j]:=by simp [h]
 rw [e'] at e;cases e;exact q
theorem a7H {x:V}(h:a2F x=true):eqV x x=true:=by
 cases x <;> simp_all [a2F,eqV]
theorem Inv.turnedNew {pins:List (Addr×Obj)}{σ:St}{H:Hp}{s:Shared}{h':Heap}{t':Nat}{ch:List Addr}{xs:List V}(I:Inv X pins σ H s)(k:∀b o,b∉ch→s.heap.get? b=some o→h'.get? b=some o)
   (hf:∀b∈ch,FpOk X pins H b) (new:a0X X.prog X.w (upd H s.heap.objs.size (.tup xs)) h' s.heap.objs.size (.tup xs)):Inv X pins σ (upd H s.heap.objs.size (.tup xs)) { s with heap:=h',toks:=t' }:=by
 have nch:∀b u,H b=some u→b∉ch:=fun b u e z=>by rw [(hf b z).1] at e;cases e
 have nD:∀b o,s.heap.get? b=some o→b≠s.heap.objs.size:=fun b o e=>Nat.ne_of_lt (Heap.lt_size e)
 refine I.step (g':=s.gens) (d':=s.drawn) (ch:=ch) (fun b hb=>⟨(hf b hb).2.2.2.1,(hf b hb).2.1,(hf b hb).2.2.2.2.1,(hf b hb).2.2.2.2.2⟩) (fun b o _ _ hc e _=>k b o hc e) (fun b o _ _ hc e _=>⟨o.slots,k b o hc e⟩) (fun b o _ e n=>by rw [a0j (nD b o e)];exact n)
   (fun b o hc e=>⟨o,k b o hc e⟩) (fun b ys e=>by rw [a0j (a0H e I.fresh)];exact e) (fun b o u e=>by rw [a0j (a0H e I.fresh)];exact e) (fun b ps e=>⟨#[],by rw [a0j (a0H e I.fresh),e];simp⟩) (fun z=>by unfold NS;rw [a0j (Nat.ne_of_lt I.bigS)];exact z) (fun m hm=>?_) (fun b u e=>?_) I.bare
 · obtain⟨o,es,ep,ho,r⟩:=hm;exact⟨o,es,ep,k _ o (fun z=>(hf _ z).2.1 rfl) ho,r⟩
 · by_cases hb:b=s.heap.objs.size
   · subst hb;rw [a0g] at e;cases e;exact new
   · rw [a0j hb] at e;refine(I.hok b u e).stay (fun c v hc q=>k c v ?_ q) (fun c q=>by rw [a0j (a0H q I.fresh)];exact q) fun c ys q=>by rw [a0j (a0H q I.fresh)];exact q
     rcases hc with z | z
     · rw [z];exact nch b u e
     · exact nch c _ z
end
end L2
end
section
namespace L2
open PySem PySem.Spec PyProof.Rows
theorem a7P:bootBuiltins "len"=some (.builtin "len"):=by decide +kernel
theorem bt_min:bootBuiltins "min"=some (.builtin "min"):=by decide +kernel
theorem a6e:bootBuiltins "sorted"=some (.builtin "sorted"):=by decide +kernel
theorem bt_repr:bootBuiltins "repr"=some (.builtin "repr"):=by decide +kernel
theorem bt_int:bootBuiltins "int"=some (.type "int"):=by decide +kernel
theorem b0M:bootBuiltins "list"=some (.type "list"):=by decide +kernel
theorem b2n:bootBuiltins "tuple"=some (.type "tuple"):=by decide +kernel
theorem bt_set:bootBuiltins "set"=some (.type "set"):=by decide +kernel
theorem at_map {ns:List Int}{k:Int}(h0:0≤k)(h:k < (ns.length:Int)):∃v,atI (ns.map V.int) k=some (.int v):=by
 have hk:k.toNat < ns.length:=by omega
 have q:atI (ns.map V.int) ((k.toNat:Nat):Int)=some (.int ns[k.toNat]):=a6Z (by rw [List.getElem?_map,List.getElem?_eq_getElem hk] <;> rfl)
 rw [show((k.toNat:Nat):Int)=k by omega] at q;exact⟨_,q⟩
structure Kn (P:Program)(w:World)(K:PySem.W.Frag)(mg:Str→Option Value)(base:Heap)(x:Str)(k:Nat)(ps:List Str)(sp:Sp):Prop where
 ex:∃(f:Addr) (fd:FuncData),FnOk P w K mg base CX0 k f fd ps sp∧a8I K fd ps []∧PySem.W.keepIn K (.ref f)=true∧mg x=some (.ref f)∧∃oc od osl,K.lookup f=some ⟨oc,od,.func fd,osl⟩
structure Fn0 (K:PySem.W.Frag)(mg:Str→Option Value)(x:Str)(st:Stmt):Prop where
 ex:∃(f:Addr) (fd:FuncData),Fun K x x st f fd∧mg x=some (.ref f)
theorem a0E {K:PySem.W.Frag}{h:Heap}{mg:Str→Option Value}{x:Str}{st:Stmt}(X:K.In h)(G:h.Ns mainGlobals mg){f:Addr}{oc:Value}{od an:Option Addr}{osl:Array (Option Value)}{kV doc pm cdv ct:Value}
   (a:PySem.W.nsIn K mainGlobals x=some (some (.ref f))) (l:K.lookup f=some ⟨oc,od,.func (PySem.W.fnOf x x (a1e st) (a0I st) (a0f st) .none kV doc pm an cdv ct),osl⟩)
   (c:PySem.W.codeIn K cdv x=true) (k:PySem.W.keepIn K (.ref f)=true):Fn0 K mg x st:=⟨f,_,fun_mk l c k,PySem.W.mg_of X G a⟩
section
variable {P:Program}{w:World}{K:PySem.W.Frag}{mg:Str→Option Value}{base:Heap}
theorem Fn0.ok {x:Str}{st:Stmt}{N ps:List Str}{k:Nat}{sp:Sp}(F:Fn0 K mg x st)(S:a0o N ps (a0f st))(len:∀vs H Q E,sp vs H Q E→vs.length=ps.length)
   (bd:∀(kV doc pm:Value) (an:Option Addr) (cdv ct:Value) (us:List Value),us.length=ps.length→bindArgs (PySem.W.fnOf x x (a1e st) (a0I st) (a0f st) .none kV doc pm an cdv ct) ⟨us,[]⟩=pure (ps.zip us))
   (hbody:∀(f:Addr) (cdv:Value) (A:Around) (outer:List Env) (s:Shared) (H:Hp) (vs:List V) (Q:VK) (E:XK),Room k (A.deeper (envOfC x (a0f st) s.heap.objs.size f cdv))→sp vs H Q E→
     ∃t,PSs (cxOf CX0 P w K mg base N x (a0f st) f cdv A outer s H E).nox (a0I st) t∧t { nx:=fun _ H'=>Q .non H',rt:=Q } (a3b N vs) H):Kn P w K mg base x (k + 1) ps sp:=by
 obtain⟨f,fd,F1,m⟩:=F.ex
 have lk:∃oc od osl,K.lookup f=some ⟨oc,od,.func fd,osl⟩:=by
   obtain⟨oc,od,kV,doc,pm,an,cdv,ct,osl,_,lk,hcd⟩:=F1.ex;exact⟨oc,od,osl,lk⟩
 exact⟨f,fd,F1.ok S len fun cdv A outer s H vs Q E hr h=>hbody f cdv A outer s H vs Q E hr h,F1.binds bd,F1.kp,m,lk⟩
theorem Kn.imp {x:Str}{k:Nat}{ps:List Str}{sp sp':Sp}(G:Kn P w K mg base x k ps sp)(h:∀vs H Q E,sp' vs H Q E→sp vs H Q E):Kn P w K mg base x k ps sp':=by
 obtain⟨f,fd,a,b,c,d⟩:=G.ex;exact⟨f,fd,a.imp h,b,c,d⟩
end
section
variable {X:Cx}{x:Str}{p pos:Pos}{e:Expr}{es:List Expr}{t:TA}{ps:List Str}{sp:Sp}{j k:Nat}
theorem pe_fn (G:Kn X.prog X.w X.K X.mg X.base x k ps sp)(hr:Room j X.A)(hk:k≤j)(hg:Gl X x)(ha:PA X (e::es) t)(hdb:(x == ("__debug__":Str))=false:=by decide)
   (he:starEach (e::es) X.env=(false,eval e X.env)::starEach es X.env:=by rfl) (hpl:(backTo pos (starEach es X.env)).any (·.1)=false:=by rfl) :
   PE X (.Call (.Name x p) (e::es) [] pos) (tCall sp [] E0 t):=by
 intro pins s σ H Q I h;obtain⟨f,fd,F,hb,hkp,hm,_⟩:=G.ex;exact b3D F (hr.mono hk) hg hm hkp hb .nil pass0 ha hdb he hpl pins s σ H Q I h
end
end L2
end
section
namespace L2
open PySem PySem.Spec PyProof.Rows
section
variable {X:Cx}
theorem a8i:OpR X (binaryOp .Mult) (fun x y H Q=>∃i n,x=.str i∧y=.int n∧i.length≤100∧0≤n∧n≤1000∧Q (.str (Txt.mul i n)) H):=by
 intro pins s σ H x y v u Q I rx ry h;obtain⟨i,n,rfl,rfl,h1,h2,h3,q⟩:=h;obtain⟨t,rfl⟩:=rx;obtain⟨t',rfl⟩:=ry;exact SB.mul (mulOk_of 100 1000 h1 h3 (by omega) (by decide) (by decide)) fun t' tk=>⟨.str _,H,I.tok _,⟨_,rfl⟩,q⟩
theorem a4p (x y:Str):(x++y).cps.toList=x.cps.toList++y.cps.toList:=by
 show(x.cps++y.cps).toList=_;simp
theorem a2x (x:Str):x.length=x.cps.toList.length:=by
 show x.cps.size=_;simp
end
theorem Same.lay {H H':Hp}{p:Addr}{o:HO}(s:Same H H')(h:H' p=none):Same H (upd H' p o):=fun b u e=>by
 rw [a0j (a0H (s b u e) h)];exact s b u e
theorem b1f {c:TT}{t u:TS}{D:Ends}{σ:St}{H:Hp}(p:St→Hp→Prop)(h:(∀σ' H',p σ' H'→D.nx σ' H')→tIfS c t u D σ H)(hp:∀σ' H',p σ' H'→D.nx σ' H'):tIfS c t u D σ H:=h hp
theorem a2j {n:Nat}{d:Int}(h0:0≤d)(h1:d < n):ixN n d=some d.toNat:=by
 unfold ixN;rw [if_pos h0,if_pos h1]
theorem b0P {α:Type}{xs:List α}{d:Int}(h0:0≤d)(h1:d < xs.length):∃x,xs[d.toNat]?=some x∧atI xs d=some x:=by
 have hk:d.toNat < xs.length:=by omega
 refine⟨xs[d.toNat],List.getElem?_eq_getElem hk,?_⟩;unfold atI;rw [a2j h0 h1];exact List.getElem?_eq_getElem hk
end L2
end
section
namespace L2
open PySem PySem.Spec PyProof.Rows
section
variable {X:Cx}
def rSlS:V→Option Int→Option Int→Hp→VK→Prop:=fun x lo hi H Q=>∃z,x=.str z∧z.length≤sizeLine∧Q (.str (Txt.slice z lo hi)) H
theorem sl_str:SlR X rSlS:=by
 intro pins s σ H x v vl vu lo hi sl Q I rx hs pl pu h;obtain⟨z,rfl,hz,q⟩:=h;obtain⟨t,rfl⟩:=rx;refine⟨"str",_,F.slot_str_getitem.lookup,typeIs_str _ _ _,?_⟩;cases pl with
 | none =>
   cases pu with
   | none=>exact wpAny_getItem_str_slice (l:=none) (u:=none) (st:=none) hs rfl (post_val_or_str ⟨Nat.le_trans (Txt.slice_le z _ _) hz,fun t' k=>⟨.str _,H,I.tok _,⟨_,rfl⟩,q⟩⟩)
   | int j tj=>exact wpAny_getItem_str_slice (l:=none) (u:=some (j,tj)) (st:=none) hs rfl (post_val_or_str ⟨Nat.le_trans (Txt.slice_le z _ _) hz,fun t' k=>⟨.str _,H,I.tok _,⟨_,rfl⟩,q⟩⟩)
 | int i ti =>
   cases pu with
   | none=>exact wpAny_getItem_str_slice (l:=some (i,ti)) (u:=none) (st:=none) hs rfl (post_val_or_str ⟨Nat.le_trans (Txt.slice_le z _ _) hz,fun t' k=>⟨.str _,H,I.tok _,⟨_,rfl⟩,q⟩⟩)
   | int j tj=>exact wpAny_getItem_str_slice (l:=some (i,ti)) (u:=some (j,tj)) (st:=none) hs rfl (post_val_or_str ⟨Nat.le_trans (Txt.slice_le z _ _) hz,fun t' k=>⟨.str _,H,I.tok _,⟨_,rfl⟩,q⟩⟩)
def rCatA (K:PySem.W.Frag):R2:=fun x y H Q=>∃a b xs ys,x=.ref a∧y=.ref b∧SqT K H a xs∧SqT K H b ys∧xs.length + ys.length≤sizeLine∧
 (xs=[]→Q (.ref b) H)∧(xs≠[]→ys=[]→Q (.ref a) H)∧(xs≠[]→ys≠[]→∀p,H p=none→Q (.ref p) (upd H p (.tup (xs++ys))))
theorem b3H:OpR X (binaryOp .Add) (rCatA X.K):=by
 intro pins s σ H x y v u Q I rx ry h;obtain⟨a,b,xs,ys,rfl,rfl,ha,hb,hz,q0,q1,q2⟩:=h
 by_cases hx:xs=[]
 · cases rx;cases ry;obtain⟨its,r1,p1,_⟩:=I.tuple ha;obtain⟨its2,r2,p2,_⟩:=I.tuple hb;obtain⟨⟨cls,dd,data,sl⟩,ho,hc,n,hd⟩:=id p1;obtain⟨⟨cls2,dd2,data2,sl2⟩,ho2,hc2,n2,hd2⟩:=id p2;simp only at hc hd hc2 hd2;subst hc hd hc2 hd2;have he:its=[]:=r1.nil_iff.mpr hx
   exact concat_meets ⟨_,ho,rfl⟩ ⟨_,ho2,rfl⟩ noFill_tuple_add seq_tuple_add PySem.F.slot_tuple_add PySem.F.entry_tuple_add (PySem.F.args_tuple_add_2 _ _)
     (tuple_addW0 a b its.toArray its2.toArray n n2 dd dd2 sl sl2 (by simp [he])) ⟨ho,ho2,⟨.ref b,H,I,rfl,q0 hx⟩⟩
 · exact b3G pins s σ H _ _ v u Q I rx ry ⟨a,b,xs,ys,rfl,rfl,ha,hb,hx,hz,q1 hx,q2 hx⟩
theorem Inv.big {pins:List (Addr×Obj)}{σ:St}{H:Hp}{s:Shared}(I:Inv X pins σ H s):sysModules < s.heap.objs.size:=by
 have h:mainGlobals < s.heap.objs.size:=(I.mod.glob.keeps I.bk).lt;exact Nat.lt_trans (by decide) h
theorem b2g {P:Program}{w:World}{H:Hp}(h:Heap)(hb:sysModules < h.objs.size):a0X P w H (h.push { cls:=.type "dict",data:=.dict #[] }) h.objs.size (.dK []):=
 ⟨Nat.zero_le _,beq_eq_false_iff_ne.mpr (Ne.symm (Nat.ne_of_lt hb)),[],.nil,Heap.DictOf.new h⟩
end
end L2
end
section
set_option maxHeartbeats 1000000
namespace Pu
open PySem PySem.Spec L2
inductive PV where
 | non | bl (b:Bool) | int (i:Int) | str (x:Str) | ty (n:String) | pot (k:Nat)
 | tup (xs:List PV) | lst (xs:List PV) | dct (ks:List Key) (xs:List PV)
 /-- the script -/
 | scr (ns:List Int)
structure Gh where
 M:List Addr
 pots:List Addr
def KLst (K:PySem.W.Frag)(a:Addr)(xs:List V):Prop:=∃(o:Obj) (its:Array Value) (n:Nat),K.lookup a=some o∧o.cls=.type "list"∧o.dict=none∧o.data=.seq its n∧its.size≤sizeLine∧Vals xs its.toList
def AtL (M:List Addr)(H:Hp)(a:Addr)(xs:List V):Prop:=a∉M∧H a=some (.lst xs)
def AtT (M:List Addr)(H:Hp)(a:Addr)(xs:List V):Prop:=a∉M∧H a=some (.tup xs)
theorem AtL.sq {K:PySem.W.Frag}{M:List Addr}{H:Hp}{a:Addr}{xs:List V}(h:AtL M H a xs):SqL K H a xs:=SqL.of h.2
theorem AtT.sq {K:PySem.W.Frag}{M:List Addr}{H:Hp}{a:Addr}{xs:List V}(h:AtT M H a xs):SqT K H a xs:=SqT.of h.2
mutual
def Rep (K:PySem.W.Frag)(G:Gh)(H:Hp):PV→V→Prop
 | .non,v=>v=.non
 | .bl b,v=>v=.bl b
 | .int i,v=>v=.int i
 | .str x,v=>v=.str x
 | .ty n,v=>v=.ty n
 | .pot k,v=>∃p,G.pots[k]?=some p∧v=.ref p
 | .tup xs,v=>∃a vs,v=.ref a∧AtT G.M H a vs∧Reps K G H xs vs
 | .lst xs,v=>∃a vs,v=.ref a∧AtL G.M H a vs∧Reps K G H xs vs
 | .scr ns,v=>∃a,v=.ref a∧((a∉G.M∧∃o,H a=some (.frz o (.lst (ns.map V.int))))∨KLst K a (ns.map V.int))
 | .dct ks xs,v=>∃a kvs,v=.ref a∧a∉G.M∧H a=some (.dK kvs)∧kvs.map (·.1)=ks∧Reps K G H xs (kvs.map (·.2))
def Reps (K:PySem.W.Frag)(G:Gh)(H:Hp):List PV→List V→Prop
 | [],vs=>vs=[]
 | x::xs,vs=>∃v r,vs=v::r∧Rep K G H x v∧Reps K G H xs r
end
section
variable {K:PySem.W.Frag}{G G':Gh}{H H':Hp}
theorem Rd.keep {a:Addr}{u:HO}(h:Rd H a u)(k:∀o,H a=some o→H' a=some o):Rd H' a u:=h.elim (fun e=>.inl (k _ e)) fun⟨o,e⟩=>.inr ⟨o,k _ e⟩
mutual
theorem Rep.mono (hk:∀b o,b∉G.M→H b=some o→H' b=some o)(hM:∀a∈G'.M,a∈G.M∨H a=none)(hp:∀(k:Nat) (p:Addr),G.pots[k]?=some p→G'.pots[k]?=some p):∀(x:PV) (v:V),Rep K G H x v→Rep K G' H' x v
 | .non,v,h=>h
 | .bl b,v,h=>h
 | .int i,v,h=>h
 | .str x,v,h=>h
 | .ty n,v,h=>h
 | .pot k, v, h => by
   obtain⟨p,e,r⟩:=h;exact⟨p,hp k p e,r⟩
 | .tup xs, v, h => by
   obtain⟨a,vs,e,t,r⟩:=h;refine⟨a,vs,e,?_,Reps.mono hk hM hp xs vs r⟩;obtain⟨n,t⟩:=t;exact⟨fun z=>(hM a z).elim n (fun z=>by rw [z] at t;cases t),hk a _ n t⟩
 | .lst xs, v, h => by
   obtain⟨a,vs,e,t,r⟩:=h;refine⟨a,vs,e,?_,Reps.mono hk hM hp xs vs r⟩;obtain⟨n,t⟩:=t;exact⟨fun z=>(hM a z).elim n (fun z=>by rw [z] at t;cases t),hk a _ n t⟩
 | .scr ns, v, h => by
   obtain⟨a,e,h⟩:=h;refine⟨a,e,?_⟩;rcases h with⟨n,o,t⟩ | h
   · exact .inl ⟨fun z=>(hM a z).elim n (fun z=>by rw [z] at t;cases t),o,hk a _ n t⟩
   · exact .inr h
 | .dct ks xs, v, h => by
   obtain⟨a,kvs,e,n,t,ek,r⟩:=h;exact⟨a,kvs,e,fun z=>(hM a z).elim n (fun z=>by rw [z] at t;cases t),hk a _ n t,ek,Reps.mono hk hM hp xs _ r⟩
theorem Reps.mono (hk:∀b o,b∉G.M→H b=some o→H' b=some o)(hM:∀a∈G'.M,a∈G.M∨H a=none)(hp:∀(k:Nat) (p:Addr),G.pots[k]?=some p→G'.pots[k]?=some p):∀(xs:List PV) (vs:List V),Reps K G H xs vs→Reps K G' H' xs vs
 | [],vs,h=>h
 | x :: xs, vs, h => by
   obtain⟨v,r,e,hx,hr⟩:=h;exact⟨v,r,e,Rep.mono hk hM hp x v hx,Reps.mono hk hM hp xs r hr⟩
end
theorem Rep.same {x:PV}{v:V}(h:Rep K G H x v)(s:Same H H'):Rep K G H' x v:=Rep.mono (fun b o _ e=>s b o e) (fun a z=>.inl z) (fun _ _ e=>e) x v h
theorem Reps.same {x:List PV}{v:List V}(h:Reps K G H x v)(s:Same H H'):Reps K G H' x v:=Reps.mono (fun b o _ e=>s b o e) (fun a z=>.inl z) (fun _ _ e=>e) x v h
def Fr (G:Gh)(H H':Hp):Prop:=∀b o,b∉G.M→H b=some o→H' b=some o
theorem Fr.refl:Fr G H H:=fun _ _ _ e=>e
theorem Fr.trans {H2:Hp}(a:Fr G H H')(b:Fr G H' H2):Fr G H H2:=fun c o n e=>b c o n (a c o n e)
theorem Fr.of (s:Same H H'):Fr G H H':=fun b o _ e=>s b o e
theorem Rep.fr {x:PV}{v:V}(h:Rep K G H x v)(s:Fr G H H'):Rep K G H' x v:=Rep.mono s (fun a z=>.inl z) (fun _ _ e=>e) x v h
theorem Reps.fr {x:List PV}{v:List V}(h:Reps K G H x v)(s:Fr G H H'):Reps K G H' x v:=Reps.mono s (fun a z=>.inl z) (fun _ _ e=>e) x v h
theorem Reps.length:∀{xs:List PV} {vs:List V},Reps K G H xs vs→xs.length=vs.length
 | [],vs,h=>by cases(show vs=[] from h);rfl
 | x :: xs, vs, h => by
   obtain⟨v,r,e,hx,hr⟩:=h;subst e;simp [Reps.length hr]
theorem Reps.get:∀{xs:List PV} {vs:List V} {i:Nat} {v:V},Reps K G H xs vs→vs[i]?=some v→∃x,xs[i]?=some x∧Rep K G H x v
 | [],vs,i,v,h,e=>by cases(show vs=[] from h);simp at e
 | x :: xs, vs, i, v, h, e => by
   obtain⟨w,r,e1,hx,hr⟩:=h;subst e1;cases i with
   | zero=>simp at e;subst e;exact⟨x,rfl,hx⟩
   | succ i=>simpa using Reps.get (i:=i) hr (by simpa using e)
theorem Reps.get':∀{xs:List PV} {vs:List V} {i:Nat} {x:PV},Reps K G H xs vs→xs[i]?=some x→∃v,vs[i]?=some v∧Rep K G H x v:=fun {xs vs i x} h e=>by
 obtain⟨hi,_⟩:=List.getElem?_eq_some_iff.mp e;have hl:=h.length;have e2:vs[i]?=some (vs[i]'(by omega)):=List.getElem?_eq_getElem (by omega);obtain⟨y,ey,r⟩:=h.get e2;rw [e] at ey;cases ey;exact⟨_,e2,r⟩
theorem Reps.append:∀{xs ys:List PV} {vs us:List V},Reps K G H xs vs→Reps K G H ys us→Reps K G H (xs++ys) (vs++us)
 | [],ys,vs,us,h,h'=>by cases(show vs=[] from h);exact h'
 | x :: xs, ys, vs, us, h, h' => by
   obtain⟨w,r,e1,hx,hr⟩:=h;subst e1;exact⟨w,r++us,rfl,hx,Reps.append hr h'⟩
theorem Reps.take:∀{xs:List PV} {vs:List V} (n:Nat),Reps K G H xs vs→Reps K G H (xs.take n) (vs.take n)
 | xs,vs,0,h=>by simp [Reps]
 | [],vs,n + 1,h=>by cases(show vs=[] from h);exact rfl
 | x :: xs, vs, n + 1, h => by
   obtain⟨w,r,e1,hx,hr⟩:=h;subst e1;exact⟨w,r.take n,rfl,hx,Reps.take n hr⟩
theorem Reps.drop:∀{xs:List PV} {vs:List V} (n:Nat),Reps K G H xs vs→Reps K G H (xs.drop n) (vs.drop n)
 | xs,vs,0,h=>by simpa using h
 | [],vs,n + 1,h=>by cases(show vs=[] from h);exact rfl
 | x :: xs, vs, n + 1, h => by
   obtain⟨w,r,e1,hx,hr⟩:=h;subst e1;exact Reps.drop n hr
theorem Reps.one {x:PV}{v:V}(h:Rep K G H x v):Reps K G H [x] [v]:=⟨v,[],rfl,h,rfl⟩
theorem Reps.set:∀{xs:List PV} {vs:List V} (n:Nat) {x:PV} {v:V},Reps K G H xs vs→Rep K G H x v→Reps K G H (xs.set n x) (vs.set n v)
 | [],vs,n,x,v,h,_=>by cases(show vs=[] from h);exact rfl
 | y :: xs, vs, 0, x, v, h, h' => by
   obtain⟨w,r,e1,hx,hr⟩:=h;subst e1;exact⟨v,r,rfl,h',hr⟩
 | y :: xs, vs, n + 1, x, v, h, h' => by
   obtain⟨w,r,e1,hx,hr⟩:=h;subst e1;exact⟨w,r.set n v,rfl,hx,Reps.set n hr h'⟩
def MutO:HO→Prop
 | .lst _=>True
 | .dK _=>True
 | .dT _=>True
 | .set _ _=>True
 | .tbl _=>True
 | _=>False
end
inductive OK where
 | lst | dk (ks:List Key) | dt (ks:List (List Key)) | st (zs:List Key)
def memS (zs:List Key)(k:Key):Bool:=zs.any fun z=>decide (z=k)
def mkO:OK→List V→HO
 | .lst,vs=>.lst vs
 | .dk ks,vs=>.dK (ks.zip vs)
 | .dt ks,vs=>.dT (ks.zip vs)
 | .st zs,_=>.set (memS zs) zs.length
theorem a9M (k:OK)(vs:List V):MutO (mkO k vs):=by cases k <;> trivial
inductive Slot where
 | v (x:PV)
 | ow (k:OK) (xs:List PV)
abbrev Slot.own (xs:List PV):Slot:=.ow .lst xs
abbrev Env:=List (Option Slot)
structure PotK where
 at_:List Addr→Hp→Addr→Nat→Prop
 mono:∀{M H p n m},at_ M H p n→n≤m→at_ M H p m
 keep:∀{M H H' p n},at_ M H p n→H' p=H p→(∀b o,b∉M→H b=some o→H' b=some o)→at_ M H' p n
 more:∀{M M' H p n},at_ M H p n→(∀a∈M',a∈M∨H a=none)→at_ M' H p n
 mu:∀{M H p n},at_ M H p n→∃o,H p=some o∧MutO o
 /-- what is known of all pots together -/
 has:List Addr→Prop:=fun _=>True
 hasM:∀{l:List Addr} {p:Addr},has l→p∉l→has (l++[p]):=by intro _ _ _ _;trivial
structure Ct where
 K:PySem.W.Frag
 T:PotK
 M0:List Addr
 pots0:List Addr
 H0:Hp
 np:Bool
def b0W (C:Ct)(G:Gh)(H:Hp)(o:Option (Option V)):Slot→Prop
 | .v x=>∃v,o=some (some v)∧Rep C.K G H x v
 | .ow k xs=>∃a vs,o=some (some (.ref a))∧a∈G.M∧a∉C.M0∧a∉G.pots∧H a=some (mkO k vs)∧Reps C.K G H xs vs
structure SR (C:Ct)(G:Gh)(σ:St)(H:Hp)(env:Env)(n:Nat):Prop where
 frame:∀b o,b∉C.pots0→C.H0 b=some o→H b=some o
 sub:∀a∈G.M,a∈C.M0∨C.H0 a=none
 sup:∀a∈C.M0,a∈G.M
 pots:∀p∈G.pots,p∈G.M∧C.T.at_ G.M H p n
 pre:∃l,G.pots=C.pots0++l∧(l=[]∨C.np=true)
 mu:∀a∈G.M,∃o,H a=some o∧MutO o
 slots:∀(i:Nat) (s:Slot),env[i]?=some (some s)→b0W C G H (σ[i]?) s
 inj:∀(i j:Nat) (xs ys:OK×List PV) (a:Addr),env[i]?=some (some (.ow xs.1 xs.2))→env[j]?=some (some (.ow ys.1 ys.2))→σ[i]?=some (some (.ref a))→σ[j]?=some (some (.ref a))→i=j
 p0:(∀p∈C.pots0,p∈C.M0)∧C.T.has G.pots
 len:env.length=σ.length
 newp:∀p∈G.pots,p∉C.pots0→p∈C.M0→False
section
variable {C:Ct}{G G':Gh}{σ:St}{H H':Hp}{env:Env}{n:Nat}
theorem SR.hasG (S:SR C G σ H env n):C.T.has G.pots:=S.p0.2
theorem SR.fresh (S:SR C G σ H env n){p:Addr}(h:H p=none):p∉G.M:=fun z=>by
 obtain⟨o,e,_⟩:=S.mu p z;rw [h] at e;cases e
theorem SR.same (S:SR C G σ H env n)(s:Same H H'):SR C G σ H' env n where
 frame b o hb e:=s b o (S.frame b o hb e)
 sub:=S.sub
 sup:=S.sup
 pots p hp:=⟨(S.pots p hp).1,C.T.keep (S.pots p hp).2 (by
   obtain⟨o,e,_⟩:=C.T.mu (S.pots p hp).2
   rw [e,s p o e]) fun b o _ e=>s b o e⟩
 pre:=S.pre
 mu a ha:=by
   obtain⟨o,e,m⟩:=S.mu a ha;exact⟨o,s a o e,m⟩
 slots i x e:=by
   have:=S.slots i x e;cases x with
   | v x =>
     obtain⟨v,e1,r⟩:=this;exact⟨v,e1,r.same s⟩
   | ow kk xs =>
     obtain⟨a,vs,e1,h1,h2,h3,h4,r⟩:=this;exact⟨a,vs,e1,h1,h2,h3,s _ _ h4,r.same s⟩
 inj:=S.inj
 p0:=S.p0
 len:=S.len
 newp:=S.newp
theorem Same.lay1 {p:Addr}{o:HO}(h:H p=none):Same H (upd H p o):=(Same.refl H).lay h
end
end Pu
end
section
set_option maxHeartbeats 1000000
namespace Pu
open PySem PySem.Spec L2
abbrev PK:=PV→Env→Nat→Prop
abbrev pE:=Env→Nat→PK→Prop
abbrev pT:=Env→Nat→(Bool→Env→Nat→Prop)→Prop
abbrev pA:=Env→Nat→(List PV→Env→Nat→Prop)→Prop
abbrev pF:=List PV→Nat→(PV→Nat→Prop)→Prop
def RdV (K:PySem.W.Frag)(G:Gh)(H:Hp)(x:PV)(v:V):Prop:=Rep K G H x v∨∃a vs xs,x=.lst xs∧v=.ref a∧H a=some (.lst vs)∧Reps K G H xs vs
def RdS (C:Ct)(G:Gh)(σ:St)(H:Hp)(env:Env)(x:PV)(v:V):Prop:=Rep C.K G H x v∨∃(i:Nat) (a:Addr) (xs:List PV),env[i]?=some (some (.ow .lst xs))∧σ[i]?=some (some (.ref a))∧x=.lst xs∧v=.ref a
def EOk (K:PySem.W.Frag)(T:PotK)(t:TE)(pe:pE):Prop:=∀(C:Ct) (G:Gh) (σ:St) (H:Hp) (env:Env) (n:Nat) (R:PK) (Q:VK),C.K=K→C.T=T→SR C G σ H env n→pe env n R→
 (∀x env' n' v H',R x env' n'→SR C G σ H' env' n'→Rep K G H' x v→Fr G H H'→Q v H')→t σ H Q
def ROk (K:PySem.W.Frag)(T:PotK)(t:TE)(pe:pE):Prop:=∀(C:Ct) (G:Gh) (σ:St) (H:Hp) (env:Env) (n:Nat) (R:PK) (Q:VK),C.K=K→C.T=T→SR C G σ H env n→pe env n R→
 (∀x env' n' v H',R x env' n'→SR C G σ H' env' n'→RdS C G σ H' env' x v→Fr G H H'→Q v H')→t σ H Q
def NOk (K:PySem.W.Frag)(T:PotK)(t:TE)(pn:pA):Prop:=∀(C:Ct) (G:Gh) (σ:St) (H:Hp) (env:Env) (n:Nat) (R:List PV→Env→Nat→Prop) (Q:VK),C.K=K→C.T=T→SR C G σ H env n→pn env n R→
 (∀xs env' n' a vs Hb,R xs env' n'→SR C G σ Hb env' n'→Fr G H Hb→Hb a=none→Reps K G Hb xs vs→Q (.ref a) (upd Hb a (.lst vs)))→t σ H Q
def TOk (K:PySem.W.Frag)(T:PotK)(t:TT)(pt:pT):Prop:=∀(C:Ct) (G:Gh) (σ:St) (H:Hp) (env:Env) (n:Nat) (R:Bool→Env→Nat→Prop) (Q:Bool→Hp→Prop),C.K=K→C.T=T→SR C G σ H env n→pt env n R→
 (∀b env' n' H',R b env' n'→SR C G σ H' env' n'→Fr G H H'→Q b H')→t σ H Q
def AOk (K:PySem.W.Frag)(T:PotK)(t:TA)(pa:pA):Prop:=∀(C:Ct) (G:Gh) (σ:St) (H:Hp) (env:Env) (n:Nat) (R:List PV→Env→Nat→Prop) (Q:List V→Hp→Prop),C.K=K→C.T=T→SR C G σ H env n→pa env n R→
 (∀xs env' n' vs H',R xs env' n'→SR C G σ H' env' n'→Reps K G H' xs vs→Fr G H H'→Q vs H')→t σ H Q
structure EW (X:Cx)(e:Expr)(t:TE):Prop where
 h:PE X e t
structure SW (X:Cx)(st:Stmt)(t:TS):Prop where
 h:PS X st t
structure GW (X:Cx)(e:Expr)(g:TG):Prop where
 h:PG X e g
theorem vw {X:Cx}(i:Nat){x:Str}{pos:Pos}(hN:X.N[i]?=some x:=by rfl)(hv:Vis X.env.scope x:=by first | exact Or.inl rfl | exact Or.inr (Or.inl rfl) | exact Or.inr (Or.inr rfl))(hd:(x == ("__debug__":Str))=false:=by decide)(hcd:(x == ("__classdict__":Str))=false:=by decide):EW X (.Name x pos) (tVar i):=⟨b2E hN hv hd hcd⟩
def QE {ι:Type}(T:PotK)(K:PySem.W.Frag)(F:ι→Cx)(e:Expr)(pe:pE):Prop:=∃t,(∀z,PE (F z) e t)∧EOk K T t pe
def QR {ι:Type}(T:PotK)(K:PySem.W.Frag)(F:ι→Cx)(e:Expr)(pe:pE):Prop:=∃t,(∀z,PE (F z) e t)∧ROk K T t pe
def QN {ι:Type}(T:PotK)(K:PySem.W.Frag)(F:ι→Cx)(e:Expr)(pn:pA):Prop:=∃t,(∀z,PE (F z) e t)∧NOk K T t pn
def QT {ι:Type}(T:PotK)(K:PySem.W.Frag)(F:ι→Cx)(e:Expr)(pt:pT):Prop:=∃t,(∀z,PT (F z) e t)∧TOk K T t pt
def QW {ι:Type}(T:PotK)(K:PySem.W.Frag)(F:ι→Cx)(e:Expr)(pt:pT):Prop:=∃t,(∀z,PW (F z) e t)∧TOk K T t pt
def QA {ι:Type}(T:PotK)(K:PySem.W.Frag)(F:ι→Cx)(es:List Expr)(pa:pA):Prop:=∃t,(∀z,PA (F z) es t)∧AOk K T t pa
section
variable {T:PotK}{ι:Type}{K:PySem.W.Frag}{F:ι→Cx}{e a b:Expr}{es:List Expr}{pe pa pb:pE}
theorem Reps.nil {K:PySem.W.Frag}{G:Gh}{H:Hp}:Reps K G H [] []:=rfl
theorem Reps.cons {K:PySem.W.Frag}{G:Gh}{H:Hp}{x:PV}{xs:List PV}{v:V}{vs:List V}(h:Rep K G H x v)(h':Reps K G H xs vs):Reps K G H (x::xs) (v::vs):=⟨v,vs,rfl,h,h'⟩
theorem RdS.rd {C:Ct}{G:Gh}{σ:St}{H:Hp}{env:Env}{n:Nat}{x:PV}{v:V}(S:SR C G σ H env n)(h:RdS C G σ H env x v):RdV C.K G H x v:=by
 rcases h with h | ⟨i,a,xs,e1,e2,ex,ev⟩
 · exact .inl h
 · obtain⟨a',vs,e3,_,_,_,h4,r⟩:=S.slots i _ e1;rw [e2] at e3;cases e3;exact .inr ⟨a,vs,xs,ex,ev,h4,r⟩
theorem RdS.fr {C:Ct}{G:Gh}{σ:St}{H H':Hp}{env:Env}{x:PV}{v:V}(h:RdS C G σ H env x v)(f:Fr G H H'):RdS C G σ H' env x v:=by
 rcases h with h | h
 · exact .inl (h.fr f)
 · exact .inr h
theorem RdV.lst {K:PySem.W.Frag}{G:Gh}{H:Hp}{xs:List PV}{v:V}(h:RdV K G H (.lst xs) v):∃a vs,v=.ref a∧SqL K H a vs∧Reps K G H xs vs:=by
 rcases h with⟨a,vs,e,t,r⟩ | ⟨a,vs,ys,ex,ev,h4,r⟩
 · exact⟨a,vs,e,t.sq,r⟩
 · cases ex;exact⟨a,vs,ev,SqL.of h4,r⟩
theorem RdV.rep {K:PySem.W.Frag}{G:Gh}{H:Hp}{x:PV}{v:V}(h:RdV K G H x v)(hx:∀xs,x≠.lst xs):Rep K G H x v:=by
 rcases h with h | ⟨a,vs,ys,ex,ev,h4,r⟩
 · exact h
 · exact absurd ex (hx ys)
theorem RdV.tup {K:PySem.W.Frag}{G:Gh}{H:Hp}{xs:List PV}{v:V}(h:RdV K G H (.tup xs) v):∃a vs,v=.ref a∧SqT K H a vs∧Reps K G H xs vs:=by
 obtain⟨a,vs,e,t,r⟩:=h.rep (fun _ z=>nomatch z);exact⟨a,vs,e,t.sq,r⟩
theorem RdV.int {K:PySem.W.Frag}{G:Gh}{H:Hp}{i:Int}{v:V}(h:RdV K G H (.int i) v):v=.int i:=h.rep (fun _ z=>nomatch z)
theorem RdV.str {K:PySem.W.Frag}{G:Gh}{H:Hp}{i:Str}{v:V}(h:RdV K G H (.str i) v):v=.str i:=h.rep (fun _ z=>nomatch z)
theorem RdV.bl {K:PySem.W.Frag}{G:Gh}{H:Hp}{i:Bool}{v:V}(h:RdV K G H (.bl i) v):v=.bl i:=h.rep (fun _ z=>nomatch z)
theorem RdV.non {K:PySem.W.Frag}{G:Gh}{H:Hp}{v:V}(h:RdV K G H .non v):v=.non:=h.rep (fun _ z=>nomatch z)
def qV (i:Nat):pE:=fun env n R=>match env[i]? with | some (some (.v x))=>R x env n | _=>False
def qO (i:Nat):pE:=fun env n R=>match env[i]? with | some (some (.ow .lst xs))=>R (.lst xs) env n | _=>False
def qC (c:PV):pE:=fun env n R=>R c env n
theorem qV_ex {i:Nat}{env:Env}{n:Nat}{R:PK}(h:qV i env n R):∃x,env[i]?=some (some (.v x))∧R x env n:=by
 unfold qV at h
 split at h
 · exact⟨_,by assumption,h⟩
 · exact h.elim
theorem qO_ex {i:Nat}{env:Env}{n:Nat}{R:PK}(h:qO i env n R):∃xs,env[i]?=some (some (.ow .lst xs))∧R (.lst xs) env n:=by
 unfold qO at h
 split at h
 · exact⟨_,by assumption,h⟩
 · exact h.elim
theorem a0a (i:Nat){x:Str}{pos:Pos}(h:∀z,EW (F z) (.Name x pos) (tVar i)):QE T K F (.Name x pos) (qV i):=by
 refine⟨_,fun z=>(h z).h,fun C G σ H env n R Q hK hT S hp k=>?_⟩;obtain⟨x,e,r⟩:=qV_ex hp;obtain⟨v,ev,rv⟩:=S.slots i _ e;exact⟨v,ev,k _ _ _ _ _ r S (hK▸rv) Fr.refl⟩
theorem a1W (i:Nat){x:Str}{pos:Pos}(h:∀z,EW (F z) (.Name x pos) (tVar i)):QR T K F (.Name x pos) (qO i):=by
 refine⟨_,fun z=>(h z).h,fun C G σ H env n R Q hK hT S hp k=>?_⟩;obtain⟨xs,e,r⟩:=qO_ex hp;obtain⟨a,vs,ev,_,_,_,_,rv⟩:=S.slots i _ e;exact⟨.ref a,ev,k _ _ _ _ _ r S (.inr ⟨i,a,xs,e,ev,rfl,rfl⟩) Fr.refl⟩
theorem QE.r (h:QE T K F e pe):QR T K F e pe:=by
 obtain⟨t,h1,h2⟩:=h;exact⟨t,h1,fun C G σ H env n R Q hK hT S hp k=>h2 C G σ H env n R Q hK hT S hp fun x env' n' v H' r S' rp f=>k x env' n' v H' r S' (.inl (by rw [hK];exact rp)) f⟩
theorem ok_c {K:PySem.W.Frag}{c:PV}{v:V}(h:∀G H,Rep K G H c v):EOk K T (tC v) (qC c):=fun C G σ H env n R Q hK hT S hp k=>k _ _ _ _ _ hp S (h G H) Fr.refl
theorem a0k {i j pos}:QE T K F (.Constant (.int i) j pos) (qC (.int i)):=⟨_,fun z=>a0U,ok_c fun _ _=>rfl⟩
theorem qe_bl {i j pos}:QE T K F (.Constant (.bool i) j pos) (qC (.bl i)):=⟨_,fun z=>pe_bl,ok_c fun _ _=>rfl⟩
theorem a0u {i j pos}:QE T K F (.Constant (.str i) j pos) (qC (.str i)):=⟨_,fun z=>a0N,ok_c fun _ _=>rfl⟩
theorem a3u {j pos}:QE T K F (.Constant .none j pos) (qC .non):=⟨_,fun z=>pe_non,ok_c fun _ _=>rfl⟩
abbrev w1:=PV→(PV→Prop)→Prop
abbrev w2:=PV→PV→(PV→Prop)→Prop
def W2 (K:PySem.W.Frag)(r:R2)(w:w2):Prop:=∀(G:Gh) (H:Hp) (x y:PV) (v u:V) (R:PV→Prop) (Q:VK),(∀p,H p=none→p∉G.M)→RdV K G H x v→RdV K G H y u→w x y R→
 (∀z v' H',R z→Same H H'→Rep K G H' z v'→Q v' H')→r v u H Q
def W1 (K:PySem.W.Frag)(r:V→Hp→VK→Prop)(w:w1):Prop:=∀(G:Gh) (H:Hp) (x:PV) (v:V) (R:PV→Prop) (Q:VK),(∀p,H p=none→p∉G.M)→RdV K G H x v→w x R→
 (∀z v' H',R z→Same H H'→Rep K G H' z v'→Q v' H')→r v H Q
def qOp (w:w2)(pa pb:pE):pE:=fun env n R=>pa env n fun x env1 n1=>pb env1 n1 fun y env2 n2=>w x y fun z=>R z env2 n2
def qOpR (w:w2)(pa pb:pE):pE:=fun env n R=>pa env n fun x env1 n1=>pb env1 n1 fun y env2 n2=>env2=env1∧w x y fun z=>R z env2 n2
def qUn (w:w1)(pa:pE):pE:=fun env n R=>pa env n fun x env1 n1=>w x fun z=>R z env1 n1
theorem a9F {K:PySem.W.Frag}{r:R2}{w:w2}{ta tb:TE}(hw:W2 K r w)(ha:EOk K T ta pa)(hb:ROk K T tb pb):EOk K T (tOp r ta tb) (qOp w pa pb):=fun C G σ H env n R Q hK hT S hp k=>by
 refine ha C G σ H env n _ _ hK hT S hp fun x env1 n1 v H1 p1 S1 r1 f1=>?_;refine hb C G σ H1 env1 n1 _ _ hK hT S1 p1 fun y env2 n2 u H2 p2 S2 r2 f2=>?_;subst hK;exact hw G H2 x y v u _ _ (fun p hp=>S2.fresh hp) (.inl (r1.fr f2)) (r2.rd S2) p2 fun z v' H' rz s rv=>k _ _ _ _ _ rz (S2.same s) rv ((f1.trans f2).trans (Fr.of s))
theorem b2G {K:PySem.W.Frag}{r:R2}{w:w2}{ta tb:TE}(hw:W2 K r w)(ha:ROk K T ta pa)(hb:ROk K T tb pb):EOk K T (tOp r ta tb) (qOpR w pa pb):=fun C G σ H env n R Q hK hT S hp k=>by
 refine ha C G σ H env n _ _ hK hT S hp fun x env1 n1 v H1 p1 S1 r1 f1=>?_;refine hb C G σ H1 env1 n1 _ _ hK hT S1 p1 fun y env2 n2 u H2 p2 S2 r2 f2=>?_;subst hK;obtain⟨e,p2⟩:=p2;subst e;exact hw G H2 x y v u _ _ (fun p hp=>S2.fresh hp) ((r1.fr f2).rd S2) (r2.rd S2) p2 fun z v' H' rz s rv=>k _ _ _ _ _ rz (S2.same s) rv ((f1.trans f2).trans (Fr.of s))
theorem ok_un {K:PySem.W.Frag}{r:V→Hp→VK→Prop}{w:w1}{ta:TE}(hw:W1 K r w)(ha:ROk K T ta pa):EOk K T (tUn r ta) (qUn w pa):=fun C G σ H env n R Q hK hT S hp k=>by
 refine ha C G σ H env n _ _ hK hT S hp fun x env1 n1 v H1 p1 S1 r1 f1=>?_;subst hK;exact hw G H1 x v _ _ (fun p hp=>S1.fresh hp) (r1.rd S1) p1 fun z v' H' rz s rv=>k _ _ _ _ _ rz (S1.same s) rv (f1.trans (Fr.of s))
def wI (C:Int→Int→Prop)(g:Int→Int→PV):w2:=fun x y R=>match x,y with | .int i,.int j=>C i j∧R (g i j) | _,_=>False
theorem W2.I {K:PySem.W.Frag}{C:Int→Int→Prop}{g:Int→Int→V}{g':Int→Int→PV}(hg:∀i j G H,Rep K G H (g' i j) (g i j)):W2 K (rI C g) (wI C g'):=by
 intro G H x y v u R Q hf rx ry hw k;unfold wI at hw
 split at hw
 · exact⟨_,_,rx.int,ry.int,hw.1,k _ _ _ hw.2 (Same.refl _) (hg _ _ _ _)⟩
 · exact hw.elim
def wI0 (g:Int→Int→PV):w2:=fun x y R=>match x,y with | .int i,.int j=>R (g i j) | _,_=>False
theorem W2.I0 {K:PySem.W.Frag}{g:Int→Int→V}{g':Int→Int→PV}(hg:∀i j G H,Rep K G H (g' i j) (g i j)):W2 K (rI0 g) (wI0 g'):=by
 intro G H x y v u R Q hf rx ry hw k;unfold wI0 at hw
 split at hw
 · exact⟨_,_,rx.int,ry.int,k _ _ _ hw (Same.refl _) (hg _ _ _ _)⟩
 · exact hw.elim
def wAdd:w2:=fun x y R=>match x,y with
 | .int i,.int j=>R (.int (i + j))
 | .str i,.str j=>i.length + j.length≤1000000∧R (.str (i++j))
 | .tup xs,.tup ys=>xs.length + ys.length≤1000000∧R (.tup (xs++ys))
 | _,_=>False
theorem mil {n:Nat}(h:n≤1000000):n≤sizeLine:=Nat.le_trans h (by rw [sizeLine_eq];decide)
theorem mil' {n:Nat}(h:n≤1000000):n < sizeLine:=Nat.lt_of_le_of_lt h (by rw [sizeLine_eq];decide)
theorem a3P {K:PySem.W.Frag}{G:Gh}{H:Hp}{p:Addr}{xs:List PV}{vs:List V}(hf:p∉G.M)(hn:H p=none)(r:Reps K G H xs vs):Rep K G (upd H p (.tup vs)) (.tup xs) (.ref p):=
 ⟨p,vs,rfl,⟨hf,a0g⟩,r.same (Same.lay1 hn)⟩
theorem a4Y {K:PySem.W.Frag}{G:Gh}{H:Hp}{p:Addr}{xs:List PV}{vs:List V}(hf:p∉G.M)(hn:H p=none)(r:Reps K G H xs vs):Rep K G (upd H p (.lst vs)) (.lst xs) (.ref p):=
 ⟨p,vs,rfl,⟨hf,a0g⟩,r.same (Same.lay1 hn)⟩
theorem W2.add {K:PySem.W.Frag}:W2 K (fun x y H Q=>(rI0 fun i j=>.int (i + j)) x y H Q∨(∃i j,x=.str i∧y=.str j∧i.length + j.length≤sizeLine∧Q (.str (i++j)) H)∨rCatA K x y H Q) wAdd:=by
 intro G H x y v u R Q hf rx ry hw k;unfold wAdd at hw
 split at hw
 · exact .inl ⟨_,_,rx.int,ry.int,k _ _ _ hw (Same.refl _) rfl⟩
 · exact .inr (.inl ⟨_,_,rx.str,ry.str,mil hw.1,k _ _ _ hw.2 (Same.refl _) rfl⟩)
 · rename_i xs ys;obtain⟨a,vs,ea,ta,ra⟩:=rx.rep (fun _ z=>nomatch z);obtain⟨b,us,eb,tb,rb⟩:=ry.rep (fun _ z=>nomatch z);refine .inr (.inr ⟨a,b,vs,us,ea,eb,ta.sq,tb.sq,?_,fun z=>?_,fun z1 z2=>?_,fun z1 z2 p hp=>?_⟩)
   · rw [← ra.length,← rb.length];exact mil hw.1
   · subst z;have:xs=[]:=List.eq_nil_of_length_eq_zero ra.length;subst this;exact k _ _ _ hw.2 (Same.refl _) ⟨b,us,rfl,tb,rb⟩
   · subst z2;have:ys=[]:=List.eq_nil_of_length_eq_zero rb.length;subst this;exact k _ _ _ hw.2 (Same.refl _) (by rw [List.append_nil];exact⟨a,vs,rfl,ta,ra⟩)
   · exact k _ _ _ hw.2 (Same.lay1 hp) (a3P (hf p hp) hp (ra.append rb))
 · exact hw.elim
theorem a0R {pos:Pos}(ha:QE T K F a pa)(hb:QE T K F b pb)(hK:∀z,(F z).K=K:=by intro _;rfl):QE T K F (.BinOp a .Add b pos) (qOp wAdd pa pb):=by
 obtain⟨ta,h1,h2⟩:=ha;obtain⟨tb,h3,h4⟩:=hb.r;exact⟨_,fun z=>a1q (a4I.or (a8j.or (hK z▸b3H))) (h1 z) (h3 z),a9F W2.add h2 h4⟩
theorem b1w {op:Operator}{r:R2}{w:w2}{pos:Pos}(ho:∀z,OpR (F z) (binaryOp op) r)(hw:W2 K r w)(ha:QE T K F a pa)(hb:QE T K F b pb):QE T K F (.BinOp a op b pos) (qOp w pa pb):=by
 obtain⟨ta,h1,h2⟩:=ha;obtain⟨tb,h3,h4⟩:=hb.r;exact⟨_,fun z=>a1q (ho z) (h1 z) (h3 z),a9F hw h2 h4⟩
def wSub:w2:=wI0 fun i j=>.int (i - j)
def wMul:w2:=fun x y R=>match x,y with
 | .int i,.int j=>CMul i j∧R (.int (i * j))
 | .str i,.int n=>i.length≤100∧0≤n∧n≤1000∧R (.str (Txt.mul i n))
 | _,_=>False
def b1c:w2:=wI CDiv fun i j=>.int (i / j)
def wMod:w2:=wI (fun _ j=>0 < j) fun i j=>.int (i % j)
theorem W2.mul {K:PySem.W.Frag}:W2 K (fun x y H Q=>(rI CMul fun i j=>.int (i * j)) x y H Q∨(∃i n,x=.str i∧y=.int n∧i.length≤100∧0≤n∧n≤1000∧Q (.str (Txt.mul i n)) H)) wMul:=by
 intro G H x y v u R Q hf rx ry hw k;unfold wMul at hw
 split at hw
 · exact .inl ⟨_,_,rx.int,ry.int,hw.1,k _ _ _ hw.2 (Same.refl _) rfl⟩
 · exact .inr ⟨_,_,rx.str,ry.int,hw.1,hw.2.1,hw.2.2.1,k _ _ _ hw.2.2.2 (Same.refl _) rfl⟩
 · exact hw.elim
theorem a3V {pos:Pos}(ha:QE T K F a pa)(hb:QE T K F b pb):QE T K F (.BinOp a .Sub b pos) (qOp wSub pa pb):=b1w (fun _=>op_sub) (W2.I0 fun _ _ _ _=>rfl) ha hb
theorem a9m {pos:Pos}(ha:QE T K F a pa)(hb:QE T K F b pb):QE T K F (.BinOp a .Mult b pos) (qOp wMul pa pb):=b1w (fun _=>a5K.or a8i) W2.mul ha hb
theorem a9n {pos:Pos}(ha:QE T K F a pa)(hb:QE T K F b pb):QE T K F (.BinOp a .FloorDiv b pos) (qOp b1c pa pb):=b1w (fun _=>a6D) (W2.I fun _ _ _ _=>rfl) ha hb
theorem qe_mod {pos:Pos}(ha:QE T K F a pa)(hb:QE T K F b pb):QE T K F (.BinOp a .Mod b pos) (qOp wMod pa pb):=b1w (fun _=>a4c) (W2.I fun _ _ _ _=>rfl) ha hb
end
end Pu
end
section
set_option maxHeartbeats 1000000
namespace L2
open PySem PySem.Spec PyProof.Rows
def EqD (K:PySem.W.Frag)(H:Hp):Nat→V→V→Bool→Prop
 | 0,x,y,b=>a2F x=true∧a2F y=true∧b=eqV x y
 | d + 1, x, y, b => (a2F x = true ∧ a2F y = true ∧ b = eqV x y) ∨
   (∃p q xs ys,∃f:Nat→Bool,x=.ref p∧y=.ref q∧SqT K H p xs∧SqT K H q ys∧(∀(j:Nat) x' y',xs[j]?=some x'→ys[j]?=some y'→EqD K H d x' y' (f j))∧b=((List.range (min xs.length ys.length)).all f && xs.length == ys.length))∨
   (∃p q xs ys,∃f:Nat→Bool,x=.ref p∧y=.ref q∧SqL K H p xs∧SqL K H q ys∧(∀(j:Nat) x' y',xs[j]?=some x'→ys[j]?=some y'→EqD K H d x' y' (f j))∧b=((List.range (min xs.length ys.length)).all f && xs.length == ys.length))∨
   (b=false∧((∃p xs,x=.ref p∧(SqT K H p xs∨SqL K H p xs)∧a2F y=true)∨(∃p xs,y=.ref p∧(SqT K H p xs∨SqL K H p xs)∧a2F x=true)∨
     (∃p q xs ys,x=.ref p∧y=.ref q∧SqT K H p xs∧SqL K H q ys)∨(∃p q xs ys,x=.ref p∧y=.ref q∧SqL K H p xs∧SqT K H q ys)))
section
variable {X:Cx}{pins:List (Addr×Obj)}{σ:St}{H:Hp}{s:Shared}
theorem a1V (I:Inv X pins σ H s){p:Addr}{xs ys:List V}(h:SqT X.K H p xs)(h':SqL X.K H p ys):False:=by
 obtain⟨its,r,⟨o,e,c,n,d⟩,_⟩:=I.tuple h;obtain⟨its',r',⟨o',n',e',c',_,d'⟩,_⟩:=I.list h';rw [e] at e';cases e';rw [c] at c';injection c' with c';exact absurd c' (by decide)
theorem EqD.refl (I:Inv X pins σ H s):∀(d:Nat) (x:V) (b:Bool),EqD X.K H d x x b→b=true:=by
 intro d
 induction d with
 | zero =>
   intro x b h;obtain⟨h1,_,rfl⟩:=h;exact a7H h1
 | succ d ih =>
   intro x b h;rcases h with⟨h1,_,rfl⟩ | ⟨p,q,xs,ys,f,e1,e2,s1,s2,hf,rfl⟩ | ⟨p,q,xs,ys,f,e1,e2,s1,s2,hf,rfl⟩ | ⟨rfl,h⟩
   · exact a7H h1
   · subst e1;cases e2;have:=I.tuple_inj s1 s2;subst this;simp only [Nat.min_self,beq_self_eq_true,Bool.and_true,List.all_eq_true,List.mem_range];intro j hj;exact ih _ _ (hf j xs[j] xs[j] (by simp [hj]) (by simp [hj]))
   · subst e1;cases e2;have:=I.list_inj s1 s2;subst this;simp only [Nat.min_self,beq_self_eq_true,Bool.and_true,List.all_eq_true,List.mem_range];intro j hj;exact ih _ _ (hf j xs[j] xs[j] (by simp [hj]) (by simp [hj]))
   · rcases h with⟨p,xs,rfl,_,h⟩ | ⟨p,xs,rfl,_,h⟩ | ⟨p,q,xs,ys,e1,e2,s1,s2⟩ | ⟨p,q,xs,ys,e1,e2,s1,s2⟩
     · cases h
     · cases h
     · subst e1;cases e2;exact(a1V I s1 s2).elim
     · subst e1;cases e2;exact(a1V I s2 s1).elim
theorem Inv.sqL (I:Inv X pins σ H s){p:Addr}{xs:List V}(h:SqL X.K H p xs):∃its:List Value,Vals xs its∧s.heap.IsList p its.toArray:=by
 obtain⟨its,r,pl,_⟩:=I.list h;exact⟨its,r,pl.isList⟩
theorem Inv.sqT (I:Inv X pins σ H s){p:Addr}{xs:List V}(h:SqT X.K H p xs):∃its:List Value,Vals xs its∧s.heap.IsTuple p its.toArray:=by
 obtain⟨its,r,pl,_⟩:=I.tuple h;exact⟨its,r,pl⟩
theorem a3R (I:Inv X pins σ H s){A:Around}(hu:A.units < cLine){p:Addr}{xs:List V}(hq:SqT X.K H p xs∨SqL X.K H p xs){y:V}{w:Value}(ry:RelV y w)(fy:a2F y=true) :
   SeqAt.RcAt A s (.ref p) w false∧SeqAt.RcNeAt A s (.ref p) w true∧SeqAt.RcAt A s w (.ref p) false∧SeqAt.RcNeAt A s w (.ref p) true∧SeqAt.EqAt A s (.ref p) w false∧SeqAt.EqAt A s w (.ref p) false:=by
 rcases hq with hq | hq
 · obtain⟨its,r,il⟩:=I.sqT hq;cases y with
   | non=>cases ry;exact⟨.tuple_none il hu,.tuple_none il hu,.none_tuple il hu,.none_tuple il hu,.tuple_none il hu,.none_tuple il hu⟩
   | bl b=>cases ry;exact⟨.tuple_bool b il hu,.tuple_bool b il hu,.bool_tuple b il hu,.bool_tuple b il hu,.tuple_bool b il hu,.bool_tuple b il hu⟩
   | int i=>obtain⟨t,rfl⟩:=ry;exact⟨.tuple_int i t il hu,.tuple_int i t il hu,.int_tuple i t il hu,.int_tuple i t il hu,.tuple_int i t il hu,.int_tuple i t il hu⟩
   | str i=>obtain⟨t,rfl⟩:=ry;exact⟨.tuple_str i t il hu,.tuple_str i t il hu,.str_tuple i t il hu,.str_tuple i t il hu,.tuple_str i t il hu,.str_tuple i t il hu⟩
   | _=>cases fy
 · obtain⟨its,r,il⟩:=I.sqL hq;cases y with
   | non=>cases ry;exact⟨.list_none il hu,.list_none il hu,.none_list il hu,.none_list il hu,.list_none il hu,.none_list il hu⟩
   | bl b=>cases ry;exact⟨.list_bool b il hu,.list_bool b il hu,.bool_list b il hu,.bool_list b il hu,.list_bool b il hu,.bool_list b il hu⟩
   | int i=>obtain⟨t,rfl⟩:=ry;exact⟨.list_int i t il hu,.list_int i t il hu,.int_list i t il hu,.int_list i t il hu,.list_int i t il hu,.int_list i t il hu⟩
   | str i=>obtain⟨t,rfl⟩:=ry;exact⟨.list_str i t il hu,.list_str i t il hu,.str_list i t il hu,.str_list i t il hu,.list_str i t il hu,.str_list i t il hu⟩
   | _=>cases fy
theorem a9c {A:Around}{x y:V}{u w:Value}(rx:RelV x u)(ry:RelV y w)(fx:a2F x=true)(fy:a2F y=true):SeqAt.RcAt A s u w (eqV x y)∧SeqAt.RcNeAt A s u w (!eqV x y):=by
 cases x with
 | non =>
   cases rx;cases y with
   | non=>cases ry;exact⟨.none_none,.none_none⟩
   | bl j=>cases ry;exact⟨.none_bool j,.none_bool j⟩
   | int j=>obtain⟨t,rfl⟩:=ry;exact⟨.none_int j t,.none_int j t⟩
   | str j=>obtain⟨t,rfl⟩:=ry;exact⟨.none_str j t,.none_str j t⟩
   | _=>cases fy
 | bl i =>
   cases rx;cases y with
   | non=>cases ry;exact⟨.bool_none i,.bool_none i⟩
   | bl j=>cases ry;exact⟨.bool_bool i j,.bool_bool i j⟩
   | int j=>obtain⟨t,rfl⟩:=ry;exact⟨.bool_int i j t,.bool_int i j t⟩
   | str j=>obtain⟨t,rfl⟩:=ry;exact⟨.bool_str i j t,.bool_str i j t⟩
   | _=>cases fy
 | int i =>
   obtain⟨ti,rfl⟩:=rx;cases y with
   | non=>cases ry;exact⟨.int_none i ti,.int_none i ti⟩
   | bl j=>cases ry;exact⟨.int_bool i ti j,.int_bool i ti j⟩
   | int j=>obtain⟨t,rfl⟩:=ry;exact⟨.int_int i ti j t,.int_int i ti j t⟩
   | str j=>obtain⟨t,rfl⟩:=ry;exact⟨.int_str i ti j t,.int_str i ti j t⟩
   | _=>cases fy
 | str i =>
   obtain⟨ti,rfl⟩:=rx;cases y with
   | non=>cases ry;exact⟨.str_none i ti,.str_none i ti⟩
   | bl j=>cases ry;exact⟨.str_bool i ti j,.str_bool i ti j⟩
   | int j=>obtain⟨t,rfl⟩:=ry;exact⟨.str_int i ti j t,.str_int i ti j t⟩
   | str j=>obtain⟨t,rfl⟩:=ry;exact⟨.str_str i ti j t,.str_str i ti j t⟩
   | _=>cases fy
 | _=>cases fx
theorem a2l (A:Around):A.in1.units=A.units + 1:=rfl
theorem EqD.at (I:Inv X pins σ H s):∀(d:Nat) (A:Around) (x y:V) (u w:Value) (b:Bool),A.units + d < cLine→RelV x u→RelV y w→EqD X.K H d x y b→SeqAt.EqAt A s u w b∧SeqAt.RcAt A s u w b∧SeqAt.RcNeAt A s u w (!b):=by
 intro d
 induction d with
 | zero =>
   intro A x y u w b hu rx ry h;obtain⟨h1,h2,rfl⟩:=h;exact⟨b2S rx ry h1 h2,a9c rx ry h1 h2⟩
 | succ d ih =>
   intro A x y u w b hu rx ry h;have hu0:A.units < cLine:=by omega
   have hu1:A.in1.units + d < cLine:=by rw [a2l];omega
   have hrefl:=EqD.refl I (d + 1) x b;rcases h with⟨h1,h2,rfl⟩ | ⟨p,q,xs,ys,f,e1,e2,s1,s2,hf,eb⟩ | ⟨p,q,xs,ys,f,e1,e2,s1,s2,hf,eb⟩ | ⟨rfl,h⟩
   · exact⟨b2S rx ry h1 h2,a9c rx ry h1 h2⟩
   · subst e1 e2;cases rx;cases ry;obtain⟨its,r1,t1⟩:=I.sqT s1;obtain⟨its2,r2,t2⟩:=I.sqT s2;have z1:its.toArray.size=xs.length:=by simpa using r1.length.symm
     have z2:its2.toArray.size=ys.length:=by simpa using r2.length.symm
     have he:∀j (h1:j < its.toArray.size) (h2:j < its2.toArray.size),SeqAt.EqAt A.in1 s its.toArray[j] its2.toArray[j] (f j):=by
       intro j h1 h2;obtain⟨x',e1,q1⟩:=r1.getE (j:=j) (by simpa using h1);obtain⟨y',e2,q2⟩:=r2.getE (j:=j) (by simpa using h2);exact(ih A.in1 x' y' _ _ (f j) hu1 (by simpa using q1) (by simpa using q2) (hf j x' y' e1 e2)).1
     have rc:SeqAt.RcAt A s (.ref p) (.ref q) b:=by
       rw [eb,← z1,← z2];exact SeqAt.RcAt.tuples t1 t2 hu0 he
     have rn:SeqAt.RcNeAt A s (.ref p) (.ref q) (!b):=by
       rw [eb,← z1,← z2];exact SeqAt.RcNeAt.tuples t1 t2 hu0 he
     refine⟨?_,rc,rn⟩
     by_cases hpq:p=q
     · subst hpq;rw [hrefl (.inr (.inl ⟨p,p,xs,ys,f,rfl,rfl,s1,s2,hf,eb⟩))];exact .same _
     · exact .of_refs hpq rc
   · subst e1 e2;cases rx;cases ry;obtain⟨its,r1,t1⟩:=I.sqL s1;obtain⟨its2,r2,t2⟩:=I.sqL s2;have z1:its.toArray.size=xs.length:=by simpa using r1.length.symm
     have z2:its2.toArray.size=ys.length:=by simpa using r2.length.symm
     have he:∀j (h1:j < its.toArray.size) (h2:j < its2.toArray.size),SeqAt.EqAt A.in1 s its.toArray[j] its2.toArray[j] (f j):=by
       intro j h1 h2;obtain⟨x',e1,q1⟩:=r1.getE (j:=j) (by simpa using h1);obtain⟨y',e2,q2⟩:=r2.getE (j:=j) (by simpa using h2);exact(ih A.in1 x' y' _ _ (f j) hu1 (by simpa using q1) (by simpa using q2) (hf j x' y' e1 e2)).1
     have rr:SeqAt.RcAt A s (.ref p) (.ref q) b∧SeqAt.RcNeAt A s (.ref p) (.ref q) (!b):=by
       by_cases hl:xs.length=ys.length
       · have e3:b=(List.range its.toArray.size).all f:=by rw [eb,hl,Nat.min_self,beq_self_eq_true,Bool.and_true,z1,hl]
         rw [e3];exact⟨SeqAt.RcAt.lists t1 t2 (by rw [z1,z2,hl]) hu0 he,SeqAt.RcNeAt.lists t1 t2 (by rw [z1,z2,hl]) hu0 he⟩
       · have e3:b=false:=by
           rw [eb];have:(xs.length == ys.length)=false:=by simpa using hl
           rw [this,Bool.and_false]
         rw [e3];have e4:(its.toArray.size != its2.toArray.size)=true:=by rw [z1,z2];simpa using hl
         exact⟨SeqAt.RcAt.lists_lengths t1 t2 e4 hu0,SeqAt.RcNeAt.lists_lengths t1 t2 e4 hu0⟩
     refine⟨?_,rr⟩
     by_cases hpq:p=q
     · subst hpq;rw [hrefl (.inr (.inr (.inl ⟨p,p,xs,ys,f,rfl,rfl,s1,s2,hf,eb⟩)))];exact .same _
     · exact .of_refs hpq rr.1
   · rcases h with⟨p,xs,rfl,hq,fy⟩ | ⟨p,xs,rfl,hq,fx⟩ | ⟨p,q,xs,ys,e1,e2,s1,s2⟩ | ⟨p,q,xs,ys,e1,e2,s1,s2⟩
     · cases rx;obtain⟨a1,a2,a3,a4,a5,a6⟩:=a3R I hu0 hq ry fy;exact⟨a5,a1,a2⟩
     · cases ry;obtain⟨a1,a2,a3,a4,a5,a6⟩:=a3R I hu0 hq rx fx;exact⟨a6,a3,a4⟩
     · subst e1 e2;cases rx;cases ry;obtain⟨its,r1,t1⟩:=I.sqT s1;obtain⟨its2,r2,t2⟩:=I.sqL s2;exact⟨.tuple_list t1 t2 hu0,.tuple_list t1 t2 hu0,.tuple_list t1 t2 hu0⟩
     · subst e1 e2;cases rx;cases ry;obtain⟨its,r1,t1⟩:=I.sqL s1;obtain⟨its2,r2,t2⟩:=I.sqT s2;exact⟨.list_tuple t1 t2 hu0,.list_tuple t1 t2 hu0,.list_tuple t1 t2 hu0⟩
end
section
variable {X:Cx}
def rEqD (K:PySem.W.Frag)(d:Nat)(neg:Bool):R2:=fun x y H Q=>∃b,EqD K H d x y b∧Q (.bl (if neg then !b else b)) H
theorem op_eqD (d:Nat)(hu:X.A.units + d < cLine):OpR X (compareOp .Eq) (rEqD X.K d false):=by
 intro pins s σ H x y v u Q I rx ry h;obtain⟨b,hb,q⟩:=h;exact(hb.at I d X.A x y v u b hu rx ry).2.1 X.prog X.w X.xe _ ⟨.bl _,H,I,rfl,q⟩
theorem op_neD (d:Nat)(hu:X.A.units + d < cLine):OpR X (compareOp .NotEq) (rEqD X.K d true):=by
 intro pins s σ H x y v u Q I rx ry h;obtain⟨b,hb,q⟩:=h;exact(hb.at I d X.A x y v u b hu rx ry).2.2 X.prog X.w X.xe _ ⟨.bl _,H,I,rfl,q⟩
def rInD (K:PySem.W.Frag)(d:Nat)(neg:Bool):R2:=fun x y H Q=>∃p ys,∃f:Nat→Bool,y=.ref p∧(SqL K H p ys∨SqT K H p ys)∧(∀(j:Nat) z,ys[j]?=some z→EqD K H d z x (f j))∧Q (.bl (if neg then !((List.range ys.length).any f) else(List.range ys.length).any f)) H
theorem a4P {n:Nat}{f g:Nat→Bool}(h:∀j,j < n→f j=g j):(List.range n).all f=(List.range n).all g:=by
 rw [Bool.eq_iff_iff,List.all_eq_true,List.all_eq_true];constructor
 · intro k j hj;rw [← h j (List.mem_range.mp hj)];exact k j hj
 · intro k j hj;rw [h j (List.mem_range.mp hj)];exact k j hj
theorem EqD.det {pins:List (Addr×Obj)}{σ:St}{H:Hp}{s:Shared}(I:Inv X pins σ H s):∀(d:Nat) (x y:V) (b b':Bool),EqD X.K H d x y b→EqD X.K H d x y b'→b=b':=by
 intro d
 induction d with
 | zero =>
   intro x y b b' h h';rw [h.2.2,h'.2.2]
 | succ d ih =>
   intro x y b b' h h';rcases h with⟨h1,h2,rfl⟩ | ⟨p,q,xs,ys,f,rfl,rfl,s1,s2,hf,rfl⟩ | ⟨p,q,xs,ys,f,rfl,rfl,s1,s2,hf,rfl⟩ | ⟨rfl,h⟩
   · rcases h' with⟨h1',h2',rfl⟩ | ⟨p,q,xs,ys,f,rfl,rfl,s1,s2,hf,rfl⟩ | ⟨p,q,xs,ys,f,rfl,rfl,s1,s2,hf,rfl⟩ | ⟨rfl,h⟩
     · rfl
     · cases h1
     · cases h1
     · rcases h with⟨p,xs,rfl,_,h⟩ | ⟨p,xs,rfl,_,h⟩ | ⟨p,q,xs,ys,rfl,rfl,s1,s2⟩ | ⟨p,q,xs,ys,rfl,rfl,s1,s2⟩
       · cases h1
       · cases h2
       · cases h1
       · cases h1
   · rcases h' with⟨h1',h2',rfl⟩ | ⟨p',q',xs',ys',f',e1,e2,s1',s2',hf',rfl⟩ | ⟨p',q',xs',ys',f',e1,e2,s1',s2',hf',rfl⟩ | ⟨rfl,h⟩
     · cases h1'
     · cases e1;cases e2;have:=I.tuple_inj s1 s1';subst this;have:=I.tuple_inj s2 s2';subst this;rw [a4P fun j hj=>ih _ _ _ _ (hf j (xs[j]'(by omega)) (ys[j]'(by omega)) (List.getElem?_eq_getElem _) (List.getElem?_eq_getElem _)) (hf' j (xs[j]'(by omega)) (ys[j]'(by omega)) (List.getElem?_eq_getElem _) (List.getElem?_eq_getElem _))]
     · cases e1;exact(a1V I s1 s1').elim
     · rcases h with⟨p',xs',e1,_,h⟩ | ⟨p',xs',e1,_,h⟩ | ⟨p',q',xs',ys',e1,e2,s1',s2'⟩ | ⟨p',q',xs',ys',e1,e2,s1',s2'⟩
       · cases h
       · cases h
       · cases e2;exact(a1V I s2 s2').elim
       · cases e1;exact(a1V I s1 s1').elim
   · rcases h' with⟨h1',h2',rfl⟩ | ⟨p',q',xs',ys',f',e1,e2,s1',s2',hf',rfl⟩ | ⟨p',q',xs',ys',f',e1,e2,s1',s2',hf',rfl⟩ | ⟨rfl,h⟩
     · cases h1'
     · cases e1;exact(a1V I s1' s1).elim
     · cases e1;cases e2;have:=I.list_inj s1 s1';subst this;have:=I.list_inj s2 s2';subst this;rw [a4P fun j hj=>ih _ _ _ _ (hf j (xs[j]'(by omega)) (ys[j]'(by omega)) (List.getElem?_eq_getElem _) (List.getElem?_eq_getElem _)) (hf' j (xs[j]'(by omega)) (ys[j]'(by omega)) (List.getElem?_eq_getElem _) (List.getElem?_eq_getElem _))]
     · rcases h with⟨p',xs',e1,_,h⟩ | ⟨p',xs',e1,_,h⟩ | ⟨p',q',xs',ys',e1,e2,s1',s2'⟩ | ⟨p',q',xs',ys',e1,e2,s1',s2'⟩
       · cases h
       · cases h
       · cases e1;exact(a1V I s1' s1).elim
       · cases e2;exact(a1V I s2' s2).elim
   · rcases h' with⟨h1',h2',rfl⟩ | ⟨p',q',xs',ys',f',rfl,rfl,s1',s2',hf',rfl⟩ | ⟨p',q',xs',ys',f',rfl,rfl,s1',s2',hf',rfl⟩ | ⟨rfl,h'⟩
     · rcases h with⟨p,xs,rfl,_,h⟩ | ⟨p,xs,rfl,_,h⟩ | ⟨p,q,xs,ys,rfl,rfl,s1,s2⟩ | ⟨p,q,xs,ys,rfl,rfl,s1,s2⟩
       · cases h1'
       · cases h2'
       · cases h1'
       · cases h1'
     · rcases h with⟨p,xs,e1,_,h⟩ | ⟨p,xs,e1,_,h⟩ | ⟨p,q,xs,ys,e1,e2,s1,s2⟩ | ⟨p,q,xs,ys,e1,e2,s1,s2⟩
       · cases h
       · cases h
       · cases e2;exact(a1V I s2' s2).elim
       · cases e1;exact(a1V I s1' s1).elim
     · rcases h with⟨p,xs,e1,_,h⟩ | ⟨p,xs,e1,_,h⟩ | ⟨p,q,xs,ys,e1,e2,s1,s2⟩ | ⟨p,q,xs,ys,e1,e2,s1,s2⟩
       · cases h
       · cases h
       · cases e1;exact(a1V I s1 s1').elim
       · cases e2;exact(a1V I s2 s2').elim
     · rfl
open Classical in
theorem a7E {pins:List (Addr×Obj)}{σ:St}{H:Hp}{s:Shared}(I:Inv X pins σ H s){d:Nat}{A:Around}(hu:A.units + d < cLine){ys:List V}{its:List Value}(r:Vals ys its){x:V}{v:Value}(rx:RelV x v){f:Nat→Bool}(hf:∀(j:Nat) z,ys[j]?=some z→EqD X.K H d z x (f j)) :
   ∃e:Value→Bool,(∀y,y∈its→SeqAt.EqAt A s y v (e y))∧its.any e=(List.range ys.length).any f:=by
 have key:∀(j j':Nat) (z:Value),its[j]?=some z→its[j']?=some z→f j=f j':=by
   intro j j' z h h';obtain⟨hj,_⟩:=List.getElem?_eq_some_iff.mp h;obtain⟨hj',_⟩:=List.getElem?_eq_some_iff.mp h';obtain⟨w1,a1,b1⟩:=r.getE hj;obtain⟨w2,a2,b2⟩:=r.getE hj';rw [List.getElem?_eq_getElem hj] at h;rw [List.getElem?_eq_getElem hj'] at h';cases h;rw [Option.some.inj h'] at b2;have:=b1.inj b2;subst this;exact EqD.det I d _ _ _ _ (hf j _ a1) (hf j' _ a2)
 let e:Value→Bool:=fun y=>decide (∃j,its[j]?=some y∧f j=true)
 have he:∀(j:Nat) (y:Value),its[j]?=some y→e y=f j:=by
   intro j y h;show decide _=_;cases hb:f j with
   | true=>exact decide_eq_true ⟨j,h,hb⟩
   | false=>exact decide_eq_false fun⟨j',h1,h2⟩=>by rw [key j j' y h h1,h2] at hb;cases hb
 refine⟨e,fun y hy=>?_,?_⟩
 · obtain⟨j,hj,rfl⟩:=List.getElem_of_mem hy;obtain⟨w1,a1,b1⟩:=r.getE hj;rw [he j _ (List.getElem?_eq_getElem hj)];exact((hf j w1 a1).at I d A w1 x _ v (f j) hu b1 rx).1
 · have hl:=r.length;rw [Bool.eq_iff_iff,List.any_eq_true,List.any_eq_true];constructor
   · rintro⟨y,hy,h⟩;obtain⟨j,hj,rfl⟩:=List.getElem_of_mem hy;exact⟨j,List.mem_range.mpr (by omega),by rw [← he j _ (List.getElem?_eq_getElem hj)];exact h⟩
   · rintro⟨j,hj,h⟩;have hj':j < its.length:=by have:=List.mem_range.mp hj;omega
     exact⟨its[j],List.getElem_mem hj',by rw [he j _ (List.getElem?_eq_getElem hj')];exact h⟩
theorem op_inD (d:Nat)(hu:X.A.units + (d + 1) < cLine):OpR X (compareOp .In) (rInD X.K d false):=by
 intro pins s σ H x y v u Q I rx ry h;obtain⟨p,ys,f,rfl,hq,hf,q⟩:=h;cases ry;rcases hq with hq | hq
 · obtain⟨its,r,il⟩:=I.sqL hq;obtain⟨e,h1,h2⟩:=a7E I (A:=X.A.in1) (by rw [a2l];omega) r rx hf;refine SeqAt.in_listAt e il (fun y hy=>h1 y (by simpa using hy)) ⟨.bl _,H,I,rfl,?_⟩;rw [show its.toArray.any e=its.any e by simp,h2];exact q
 · obtain⟨its,r,il⟩:=I.sqT hq;obtain⟨e,h1,h2⟩:=a7E I (A:=X.A.in1) (by rw [a2l];omega) r rx hf;refine SeqAt.in_tupleAt e il (fun y hy=>h1 y (by simpa using hy)) ⟨.bl _,H,I,rfl,?_⟩;rw [show its.toArray.any e=its.any e by simp,h2];exact q
theorem a9B (d:Nat)(hu:X.A.units + (d + 1) < cLine):OpR X (compareOp .NotIn) (rInD X.K d true):=by
 intro pins s σ H x y v u Q I rx ry h;obtain⟨p,ys,f,rfl,hq,hf,q⟩:=h;cases ry;rcases hq with hq | hq
 · obtain⟨its,r,il⟩:=I.sqL hq;obtain⟨e,h1,h2⟩:=a7E I (A:=X.A.in1) (by rw [a2l];omega) r rx hf;refine SeqAt.notIn_listAt e il (fun y hy=>h1 y (by simpa using hy)) ⟨.bl _,H,I,rfl,?_⟩;rw [show its.toArray.any e=its.any e by simp,h2];exact q
 · obtain⟨its,r,il⟩:=I.sqT hq;obtain⟨e,h1,h2⟩:=a7E I (A:=X.A.in1) (by rw [a2l];omega) r rx hf;refine SeqAt.notIn_tupleAt e il (fun y hy=>h1 y (by simpa using hy)) ⟨.bl _,H,I,rfl,?_⟩;rw [show its.toArray.any e=its.any e by simp,h2];exact q
end
end L2
namespace Pu
open PySem PySem.Spec L2
def a3s:PV→Bool
 | .non=>true
 | .bl _=>true
 | .int _=>true
 | .str _=>true
 | _=>false
def cmpb:Nat→PV→Bool
 | 0,x=>a3s x
 | d + 1,.tup xs=>xs.all (cmpb d)
 | d + 1,.lst xs=>xs.all (cmpb d)
 | _ + 1,x=>a3s x
mutual
def eqP:PV→PV→Bool
 | .non,.non=>true
 | .bl a,.bl b=>a == b
 | .bl a,.int b=>(if a then 1 else 0) == b
 | .int a,.bl b=>a == (if b then 1 else 0)
 | .int a,.int b=>a == b
 | .str a,.str b=>a == b
 | .tup xs,.tup ys=>eqPs xs ys
 | .lst xs,.lst ys=>eqPs xs ys
 | _,_=>false
def eqPs:List PV→List PV→Bool
 | [],[]=>true
 | x::xs,y::ys=>eqP x y && eqPs xs ys
 | _,_=>false
end
theorem a3o:∀(xs ys:List PV),((List.range (min xs.length ys.length)).all (fun j=>match xs[j]?,ys[j]? with | some x,some y=>eqP x y | _,_=>false) && xs.length == ys.length)=eqPs xs ys
 | [],[]=>rfl
 | [],_::_=>rfl
 | _::_,[]=>rfl
 | x :: xs, y :: ys => by
   have ih:=a3o xs ys;show _=(eqP x y && eqPs xs ys);rw [← ih];simp only [List.length_cons,Nat.succ_min_succ,List.range_succ_eq_map,List.all_cons,List.all_map,Function.comp_def,List.getElem?_cons_zero,List.getElem?_cons_succ];rw [Bool.and_assoc]
   congr 1
   simp
end Pu
end
section
set_option maxHeartbeats 1000000
namespace Pu
open PySem PySem.Spec L2
section
variable {K:PySem.W.Frag}{G:Gh}{H:Hp}
inductive Sort3 (K:PySem.W.Frag)(G:Gh)(H:Hp)(d:Nat)(x:PV)(v:V):Prop where
 | fl (h:a2F v=true) (s:a3s x=true)
 | tp (p:Addr) (xs:List PV) (vs:List V) (e:x=.tup xs) (ev:v=.ref p) (h:SqT K H p vs) (r:Reps K G H xs vs) (c:xs.all (cmpb d)=true)
 | ls (p:Addr) (xs:List PV) (vs:List V) (e:x=.lst xs) (ev:v=.ref p) (h:SqL K H p vs) (r:Reps K G H xs vs) (c:xs.all (cmpb d)=true)
theorem a3n {x:PV}{v:V}(s:a3s x=true)(h:RdV K G H x v):a2F v=true:=by
 cases x with
 | non=>rw [h.non];rfl
 | bl b=>rw [h.bl];rfl
 | int b=>rw [h.int];rfl
 | str b=>rw [h.str];rfl
 | _=>cases s
theorem b1j {d:Nat}{x:PV}{v:V}(c:cmpb (d + 1) x=true)(h:RdV K G H x v):Sort3 K G H d x v:=by
 cases x with
 | tup xs =>
   obtain⟨a,vs,e,t,r⟩:=h.tup;exact .tp a xs vs rfl e t r c
 | lst xs =>
   obtain⟨a,vs,e,t,r⟩:=h.lst;exact .ls a xs vs rfl e t r c
 | non=>exact .fl (a3n c h) c
 | bl _=>exact .fl (a3n c h) c
 | int _=>exact .fl (a3n c h) c
 | str _=>exact .fl (a3n c h) c
 | ty _=>cases c
 | pot _=>cases c
 | scr _=>cases c
 | dct _ _=>cases c
theorem b0r {x y:PV}{v u:V}(sx:a3s x=true)(sy:a3s y=true)(hx:RdV K G H x v)(hy:RdV K G H y u):eqP x y=eqV v u:=by
 cases x with
 | non =>
   cases hx.non;cases y with
   | non=>cases hy.non;rfl
   | bl j=>cases hy.bl;rfl
   | int j=>cases hy.int;rfl
   | str j=>cases hy.str;rfl
   | _=>cases sy
 | bl i =>
   cases hx.bl;cases y with
   | non=>cases hy.non;rfl
   | bl j=>cases hy.bl;rfl
   | int j=>cases hy.int;rfl
   | str j=>cases hy.str;rfl
   | _=>cases sy
 | int i =>
   cases hx.int;cases y with
   | non=>cases hy.non;rfl
   | bl j=>cases hy.bl;rfl
   | int j=>cases hy.int;rfl
   | str j=>cases hy.str;rfl
   | _=>cases sy
 | str i =>
   cases hx.str;cases y with
   | non=>cases hy.non;rfl
   | bl j=>cases hy.bl;rfl
   | int j=>cases hy.int;rfl
   | str j=>cases hy.str;rfl
   | _=>cases sy
 | _=>cases sx
theorem a7I {xs:List PV}{y:PV}(sy:a3s y=true):eqP (.tup xs) y=false∧eqP (.lst xs) y=false∧eqP y (.tup xs)=false∧eqP y (.lst xs)=false:=by
 cases y <;> first | exact⟨rfl,rfl,rfl,rfl⟩ | cases sy
theorem b0s:∀(d:Nat) (x y:PV) (v u:V),cmpb d x=true→cmpb d y=true→RdV K G H x v→RdV K G H y u→EqD K H d v u (eqP x y):=by
 intro d
 induction d with
 | zero=>intro x y v u cx cy hx hy;exact⟨a3n cx hx,a3n cy hy,b0r cx cy hx hy⟩
 | succ d ih =>
   intro x y v u cx cy hx hy
   have el:∀(xs ys:List PV) (vs us:List V),Reps K G H xs vs→Reps K G H ys us→xs.all (cmpb d)=true→ys.all (cmpb d)=true→∀(j:Nat) x' y',vs[j]?=some x'→us[j]?=some y'→EqD K H d x' y' (match xs[j]?,ys[j]? with | some x,some y=>eqP x y | _,_=>false):=by
     intro xs ys vs us r1 r2 c1 c2 j x' y' e1 e2;obtain⟨x1,ex,rx⟩:=r1.get e1;obtain⟨y1,ey,ry⟩:=r2.get e2;rw [ex,ey];exact ih x1 y1 x' y' (List.all_eq_true.mp c1 x1 (List.mem_of_getElem? ex)) (List.all_eq_true.mp c2 y1 (List.mem_of_getElem? ey)) (.inl rx) (.inl ry)
   cases b1j cx hx with
   | fl fx sx =>
     cases b1j cy hy with
     | fl fy sy=>exact .inl ⟨fx,fy,b0r sx sy hx hy⟩
     | tp q ys us e ev h r c=>subst e;exact .inr (.inr (.inr ⟨(a7I sx).2.2.1,.inr (.inl ⟨q,us,ev,.inl h,fx⟩)⟩))
     | ls q ys us e ev h r c=>subst e;exact .inr (.inr (.inr ⟨(a7I sx).2.2.2,.inr (.inl ⟨q,us,ev,.inr h,fx⟩)⟩))
   | tp p xs vs e ev h r c =>
     subst e;cases b1j cy hy with
     | fl fy sy=>exact .inr (.inr (.inr ⟨(a7I sy).1,.inl ⟨p,vs,ev,.inl h,fy⟩⟩))
     | tp q ys us e2 ev2 h2 r2 c2 =>
       subst e2;refine .inr (.inl ⟨p,q,vs,us,_,ev,ev2,h,h2,el xs ys vs us r r2 c c2,?_⟩);rw [← r.length,← r2.length];exact(a3o xs ys).symm
     | ls q ys us e2 ev2 h2 r2 c2=>subst e2;exact .inr (.inr (.inr ⟨rfl,.inr (.inr (.inl ⟨p,q,vs,us,ev,ev2,h,h2⟩))⟩))
   | ls p xs vs e ev h r c =>
     subst e;cases b1j cy hy with
     | fl fy sy=>exact .inr (.inr (.inr ⟨(a7I sy).2.1,.inl ⟨p,vs,ev,.inr h,fy⟩⟩))
     | tp q ys us e2 ev2 h2 r2 c2=>subst e2;exact .inr (.inr (.inr ⟨rfl,.inr (.inr (.inr ⟨p,q,vs,us,ev,ev2,h,h2⟩))⟩))
     | ls q ys us e2 ev2 h2 r2 c2 =>
       subst e2;refine .inr (.inr (.inl ⟨p,q,vs,us,_,ev,ev2,h,h2,el xs ys vs us r r2 c c2,?_⟩));rw [← r.length,← r2.length];exact(a3o xs ys).symm
end
section
variable {T:PotK}{ι:Type}{K:PySem.W.Frag}{F:ι→Cx}{e a b c:Expr}{es rest:List Expr}{pe pa pb pc:pE}{pos:Pos}
def wEq (d:Nat):w2:=fun x y R=>cmpb d x=true∧cmpb d y=true∧R (.bl (eqP x y))
def wNe (d:Nat):w2:=fun x y R=>cmpb d x=true∧cmpb d y=true∧R (.bl (!eqP x y))
theorem W2.eq {K:PySem.W.Frag}(d:Nat):W2 K (rEqD K d false) (wEq d):=fun G H x y v u R Q hf rx ry hw k=>⟨_,b0s d x y v u hw.1 hw.2.1 rx ry,k _ _ _ hw.2.2 (Same.refl _) rfl⟩
theorem W2.ne {K:PySem.W.Frag}(d:Nat):W2 K (rEqD K d true) (wNe d):=fun G H x y v u R Q hf rx ry hw k=>⟨_,b0s d x y v u hw.1 hw.2.1 rx ry,k _ _ _ hw.2.2 (Same.refl _) rfl⟩
def memP (x:PV)(ys:List PV):Bool:=ys.any fun y=>eqP y x
def wIn (d:Nat)(neg:Bool):w2:=fun x y R=>match x,y with
 | .str i,.str j=>R (.bl (if neg then !(!(Builtin.Str.occurrences j i 0 j.length 1).isEmpty) else !(Builtin.Str.occurrences j i 0 j.length 1).isEmpty))
 | x,.lst ys=>cmpb d x=true∧ys.all (cmpb d)=true∧R (.bl (if neg then !memP x ys else memP x ys))
 | x,.tup ys=>cmpb d x=true∧ys.all (cmpb d)=true∧R (.bl (if neg then !memP x ys else memP x ys))
 | _,_=>False
theorem a4J {x:PV}:∀ys:List PV,((List.range ys.length).any fun j=>match ys[j]? with | some y=>eqP y x | none=>false)=memP x ys
 | []=>rfl
 | y :: ys => by
   have ih:=a4J (x:=x) ys;show _=(eqP y x || memP x ys);rw [← ih];simp only [List.length_cons,List.range_succ_eq_map,List.any_cons,List.any_map,Function.comp_def,List.getElem?_cons_zero,List.getElem?_cons_succ]
theorem W2.in_ {K:PySem.W.Frag}(d:Nat)(neg:Bool){r:R2}(hr:∀x y H Q,(∃i j,x=.str i∧y=.str j∧Q (.bl (if neg then !(!(Builtin.Str.occurrences j i 0 j.length 1).isEmpty) else !(Builtin.Str.occurrences j i 0 j.length 1).isEmpty)) H)∨rInD K d neg x y H Q→r x y H Q):W2 K r (wIn d neg):=by
 intro G H x y v u R Q hf rx ry hw k;refine hr _ _ _ _ ?_
 have seq:∀(ys:List PV) (p:Addr) (us:List V),u=.ref p→(SqL K H p us∨SqT K H p us)→Reps K G H ys us→cmpb d x=true∧ys.all (cmpb d)=true∧R (.bl (if neg then !memP x ys else memP x ys))→rInD K d neg v u H Q:=by
   intro ys p us eu hq r h;refine⟨p,us,fun j=>match ys[j]? with | some y=>eqP y x | none=>false,eu,hq,fun j z ez=>?_,?_⟩
   · obtain⟨y1,ey,ry⟩:=r.get ez;dsimp only;rw [ey];exact b0s d y1 x z v (List.all_eq_true.mp h.2.1 y1 (List.mem_of_getElem? ey)) h.1 (.inl ry) rx
   · rw [← r.length,a4J];exact k _ _ _ h.2.2 (Same.refl _) rfl
 unfold wIn at hw
 split at hw
 · exact .inl ⟨_,_,rx.str,ry.str,k _ _ _ hw (Same.refl _) rfl⟩
 · obtain⟨p,us,eu,hq,r⟩:=ry.lst;exact .inr (seq _ p us eu (.inl hq) r hw)
 · obtain⟨p,us,eu,hq,r⟩:=ry.tup;exact .inr (seq _ p us eu (.inr hq) r hw)
 · exact hw.elim
def wLt:w2:=fun x y R=>match x,y with | .int i,.int j=>R (.bl (decide (i < j))) | .str i,.str j=>R (.bl (decide (i.cps.toList < j.cps.toList))) | _,_=>False
def wGt:w2:=wI0 fun i j=>.bl (decide (j < i))
theorem W2.lt {K:PySem.W.Frag}:W2 K (fun x y H Q=>(rI0 fun i j=>.bl (decide (i < j))) x y H Q∨∃i j,x=.str i∧y=.str j∧Q (.bl (decide (i.cps.toList < j.cps.toList))) H) wLt:=by
 intro G H x y v u R Q hf rx ry hw k;unfold wLt at hw
 split at hw
 · exact .inl ⟨_,_,rx.int,ry.int,k _ _ _ hw (Same.refl _) rfl⟩
 · exact .inr ⟨_,_,rx.str,ry.str,k _ _ _ hw (Same.refl _) rfl⟩
 · exact hw.elim
def isNon:PV→Bool
 | .non=>true
 | _=>false
def a6m:w2:=fun x y R=>match y with | .non=>R (.bl (!isNon x)) | _=>False
theorem isnon {K:PySem.W.Frag}{G:Gh}{H:Hp}{x:PV}{v:V}(h:RdV K G H x v):decide (v=.non)=isNon x:=by
 cases x with
 | non=>rw [h.non];rfl
 | bl b=>rw [h.bl];rfl
 | int b=>rw [h.int];rfl
 | str b=>rw [h.str];rfl
 | tup xs=>obtain⟨a,vs,e,_⟩:=h.tup;rw [e];rfl
 | lst xs=>obtain⟨a,vs,e,_⟩:=h.lst;rw [e];rfl
 | ty n=>rw [show v=.ty n from h.rep (fun _ z=>nomatch z)];rfl
 | pot k=>obtain⟨p,_,e⟩:=h.rep (fun _ z=>nomatch z);rw [e];rfl
 | scr k=>obtain⟨p,e,_⟩:=h.rep (fun _ z=>nomatch z);rw [e];rfl
 | dct ks xs=>obtain⟨a,kvs,e,_⟩:=h.rep (fun _ z=>nomatch z);rw [e];rfl
theorem W2.notN {K:PySem.W.Frag}:W2 K (fun x y H Q=>y=.non∧Q (.bl (!decide (x=.non))) H) a6m:=by
 intro G H x y v u R Q hf rx ry hw k;unfold a6m at hw
 split at hw
 · refine⟨ry.non,k _ _ _ hw (Same.refl _) ?_⟩;rw [isnon rx]
   rfl
 · exact hw.elim
structure Cmp {ι:Type}(K:PySem.W.Frag)(F:ι→Cx)(op:CmpOp)(w:w2):Prop where
 ex:∃r,(∀z,OpR (F z) (compareOp op) r)∧W2 K r w
theorem cEq (d:Nat){k:Nat}(hr:∀z,Room k (F z).A)(hd:d≤30:=by decide)(hK:∀z,(F z).K=K:=by intro _;rfl):Cmp K F .Eq (wEq d):=⟨_,fun z=>hK z▸op_eqD d (by have:=(hr z).units;omega),W2.eq d⟩
theorem cNe (d:Nat){k:Nat}(hr:∀z,Room k (F z).A)(hd:d≤30:=by decide)(hK:∀z,(F z).K=K:=by intro _;rfl):Cmp K F .NotEq (wNe d):=⟨_,fun z=>hK z▸op_neD d (by have:=(hr z).units;omega),W2.ne d⟩
theorem cIn (d:Nat){k:Nat}(hr:∀z,Room k (F z).A)(hd:d≤30:=by decide)(hK:∀z,(F z).K=K:=by intro _;rfl):Cmp K F .In (wIn d false):=⟨_,fun z=>a9D.or (hK z▸op_inD d (by have:=(hr z).units;omega)),W2.in_ d false fun _ _ _ _ h=>h⟩
theorem b0K (d:Nat){k:Nat}(hr:∀z,Room k (F z).A)(hd:d≤30:=by decide)(hK:∀z,(F z).K=K:=by intro _;rfl):Cmp K F .NotIn (wIn d true):=⟨_,fun z=>a5J.or (hK z▸a9B d (by have:=(hr z).units;omega)),W2.in_ d true fun _ _ _ _ h=>h⟩
theorem cLt:Cmp K F .Lt wLt:=⟨_,fun _=>op_lt.or a9C,W2.lt⟩
theorem cGt:Cmp K F .Gt wGt:=⟨_,fun _=>op_gt,W2.I0 fun _ _ _ _=>rfl⟩
theorem b0L:Cmp K F .IsNot a6m:=⟨_,fun _=>b3F,W2.notN⟩
theorem a4H {op:CmpOp}{w:w2}(hc:Cmp K F op w)(ha:QE T K F a pa)(hb:QR T K F b pb)(hm:behindInMarks op b=false):QE T K F (.Compare a [op] [b] pos) (qOp w pa pb):=by
 obtain⟨r,ho,hw⟩:=hc.ex;obtain⟨ta,h1,h2⟩:=ha;obtain⟨tb,h3,h4⟩:=hb;exact⟨_,fun z=>a9z (ho z) (h1 z) (h3 z) hm,a9F hw h2 h4⟩
def qB (pe:pE):pT:=fun env n R=>pe env n fun x env' n'=>match x with | .bl b=>R b env' n' | _=>False
theorem ok_b {K:PySem.W.Frag}{t:TE}(h:EOk K T t pe):TOk K T (tB t) (qB pe):=fun C G σ H env n R Q hK hT S hp k=>by
 refine h C G σ H env n _ _ hK hT S hp fun x env' n' v H' r S' rp f=>?_;cases x with
 | bl b=>exact⟨b,rp,k _ _ _ _ r S' f⟩
 | _=>exact r.elim
theorem a9E {K:PySem.W.Frag}{t:TE}(h:EOk K T t pe):TOk K T (tTest t) (qB pe):=fun C G σ H env n R Q hK hT S hp k=>by
 refine h C G σ H env n _ _ hK hT S hp fun x env' n' v H' r S' rp f=>?_;cases x with
 | bl b=>exact⟨b,rp,k _ _ _ _ r S' f⟩
 | _=>exact r.elim
theorem a9h (h:QE T K F e pe)(he:∀z whole,isTrue e (F z).env whole=(do let v ← whole;standAt e.pos;holding [v] (truthy v)):=by intro _ _;rfl):QT T K F e (qB pe):=by
 obtain⟨t,h1,h2⟩:=h;exact⟨_,fun z=>pt_val (h1 z) (he z),ok_b h2⟩
theorem a0M {op:CmpOp}{w:w2}(hc:Cmp K F op w)(ha:QE T K F a pa)(hb:QR T K F b pb)(hm:behindInMarks op b=false):QT T K F (.Compare a [op] [b] pos) (qB (qOp w pa pb)):=by
 obtain⟨r,ho,hw⟩:=hc.ex;obtain⟨ta,h1,h2⟩:=ha;obtain⟨tb,h3,h4⟩:=hb;exact⟨_,fun z=>a3X (ho z) (h1 z) (h3 z) hm,a9E (a9F hw h2 h4)⟩
theorem a6s {op:CmpOp}{w:w2}(hc:Cmp K F op w)(ha:QR T K F a pa)(hb:QR T K F b pb)(hm:behindInMarks op b=false):QT T K F (.Compare a [op] [b] pos) (qB (qOpR w pa pb)):=by
 obtain⟨r,ho,hw⟩:=hc.ex;obtain⟨ta,h1,h2⟩:=ha;obtain⟨tb,h3,h4⟩:=hb;exact⟨_,fun z=>a3X (ho z) (h1 z) (h3 z) hm,a9E (b2G hw h2 h4)⟩
variable {pt pu:pT}
def qAnd (t u:pT):pT:=fun env n R=>t env n fun b env1 n1=>if b=true then u env1 n1 R else R false env1 n1
def qOr (t u:pT):pT:=fun env n R=>t env n fun b env1 n1=>if b=true then R true env1 n1 else u env1 n1 R
theorem ok_and {K:PySem.W.Frag}{t u:TT}(h:TOk K T t pt)(h':TOk K T u pu):TOk K T (tAnd t u) (qAnd pt pu):=fun C G σ H env n R Q hK hT S hp k=>by
 refine h C G σ H env n _ _ hK hT S hp fun b env1 n1 H1 p1 S1 f1=>?_;cases b with
 | true=>exact h' C G σ H1 env1 n1 _ _ hK hT S1 p1 fun b env2 n2 H2 p2 S2 f2=>k _ _ _ _ p2 S2 (f1.trans f2)
 | false=>exact k _ _ _ _ p1 S1 f1
theorem ok_or {K:PySem.W.Frag}{t u:TT}(h:TOk K T t pt)(h':TOk K T u pu):TOk K T (tOr t u) (qOr pt pu):=fun C G σ H env n R Q hK hT S hp k=>by
 refine h C G σ H env n _ _ hK hT S hp fun b env1 n1 H1 p1 S1 f1=>?_;cases b with
 | false=>exact h' C G σ H1 env1 n1 _ _ hK hT S1 p1 fun b env2 n2 H2 p2 S2 f2=>k _ _ _ _ p2 S2 (f1.trans f2)
 | true=>exact k _ _ _ _ p1 S1 f1
theorem a6r (ha:QT T K F a pt):QW T K F (.BoolOp .And [a] pos) pt:=let ⟨t,h1,h2⟩:=ha;⟨t,fun z=>a9q (h1 z),h2⟩
theorem qw_or1 (ha:QT T K F a pt):QW T K F (.BoolOp .Or [a] pos) pt:=let ⟨t,h1,h2⟩:=ha;⟨t,fun z=>pw_or1 (h1 z),h2⟩
theorem a9g (ha:QT T K F a pt)(hb:QW T K F (.BoolOp .And (b::rest) pos) pu):QW T K F (.BoolOp .And (a::b::rest) pos) (qAnd pt pu):=let ⟨t,h1,h2⟩:=ha;let ⟨u,h3,h4⟩:=hb;⟨_,fun z=>b2C (h1 z) (h3 z),ok_and h2 h4⟩
theorem qw_or (ha:QT T K F a pt)(hb:QW T K F (.BoolOp .Or (b::rest) pos) pu):QW T K F (.BoolOp .Or (a::b::rest) pos) (qOr pt pu):=let ⟨t,h1,h2⟩:=ha;let ⟨u,h3,h4⟩:=hb;⟨_,fun z=>pw_or (h1 z) (h3 z),ok_or h2 h4⟩
theorem QW.qt (h:QW T K F e pt):QT T K F e pt:=let ⟨t,h1,h2⟩:=h;⟨t,fun z=>(h1 z).pt,h2⟩
theorem qe_one {op}(h:QE T K F a pa):QE T K F (.BoolOp op [a] pos) pa:=let ⟨t,h1,h2⟩:=h;⟨t,fun z=>pe_one (h1 z),h2⟩
def qIf (t:pT)(pa pb:pE):pE:=fun env n R=>t env n fun b env1 n1=>if b=true then pa env1 n1 R else pb env1 n1 R
theorem qe_if (hc:QT T K F c pt)(ha:QE T K F a pa)(hb:QE T K F b pb):QE T K F (.IfExp c a b pos) (qIf pt pa pb):=by
 obtain⟨tc,c1,c2⟩:=hc;obtain⟨t,h1,h2⟩:=ha;obtain⟨u,h3,h4⟩:=hb;refine⟨_,fun z=>b1F (c1 z) (h1 z) (h3 z),fun C G σ H env n R Q hK hT S hp k=>?_⟩;refine c2 C G σ H env n _ _ hK hT S hp fun d env1 n1 H1 p1 S1 f1=>?_;cases d with
 | true=>exact h2 C G σ H1 env1 n1 _ _ hK hT S1 p1 fun x env2 n2 v H2 p2 S2 r2 f2=>k _ _ _ _ _ p2 S2 r2 (f1.trans f2)
 | false=>exact h4 C G σ H1 env1 n1 _ _ hK hT S1 p1 fun x env2 n2 v H2 p2 S2 r2 f2=>k _ _ _ _ _ p2 S2 r2 (f1.trans f2)
variable {pl pr:pA}
def qNil:pA:=fun env n R=>R [] env n
def a0c (pe:pE)(pr:pA):pA:=fun env n R=>pe env n fun x env1 n1=>pr env1 n1 fun xs env2 n2=>R (x::xs) env2 n2
theorem a0h:QA T K F [] qNil:=⟨_,fun _=>a0K,fun C G σ H env n R Q hK hT S hp k=>k _ _ _ _ _ hp S Reps.nil Fr.refl⟩
theorem b3J {K:PySem.W.Frag}{t:TE}{u:TA}(h:EOk K T t pe)(h':AOk K T u pr):AOk K T (a3L t u) (a0c pe pr):=fun C G σ H env n R Q hK hT S hp k=>by
 refine h C G σ H env n _ _ hK hT S hp fun x env1 n1 v H1 p1 S1 r1 f1=>?_;exact h' C G σ H1 env1 n1 _ _ hK hT S1 p1 fun xs env2 n2 vs H2 p2 S2 r2 f2=>k _ _ _ _ _ p2 S2 (.cons (r1.fr f2) r2) (f1.trans f2)
def a0C:Expr→Bool
 | .Starred ..=>false
 | _=>true
theorem a0e {e:Expr}{es:List Expr}{env:PySem.Env}(h:a0C e=true):starEach (e::es) env=(false,eval e env)::starEach es env:=by
 cases e <;> first | rfl | cases h
theorem a0b (ha:QE T K F e pe)(hr:QA T K F es pr)(h:a0C e=true:=by rfl):QA T K F (e::es) (a0c pe pr):=by
 obtain⟨t,h1,h2⟩:=ha;obtain⟨u,h3,h4⟩:=hr;exact⟨_,fun z=>a0r (h1 z) (h3 z) (a0e h),b3J h2 h4⟩
def qTup (pa:pA):pE:=fun env n R=>pa env n fun xs env1 n1=>xs.length≤1000000∧R (.tup xs) env1 n1
def qLst (pa:pA):pA:=fun env n R=>pa env n fun xs env1 n1=>xs.length≤1000000∧R xs env1 n1
def qL (pn:pA):pE:=fun env n R=>pn env n fun xs env1 n1=>R (.lst xs) env1 n1
theorem a0Q {x1}(h:QA T K F es pl):QE T K F (.Tuple es x1 pos) (qTup pl):=by
 obtain⟨t,h1,h2⟩:=h;refine⟨_,fun z=>a9w (h1 z),fun C G σ H env n R Q hK hT S hp k=>?_⟩;refine h2 C G σ H env n _ _ hK hT S hp fun xs env1 n1 vs H1 p1 S1 r1 f1=>⟨by rw [← r1.length];exact mil p1.1,fun p hp=>?_⟩;exact k _ _ _ _ _ p1.2 (S1.same (Same.lay1 hp)) (a3P (S1.fresh hp) hp r1) (f1.trans (Fr.of (Same.lay1 hp)))
theorem a1g (h:QA T K F es pl):QN T K F (.List es pos) (qLst pl):=by
 obtain⟨t,h1,h2⟩:=h;refine⟨_,fun z=>pe_lst (h1 z),fun C G σ H env n R Q hK hT S hp k=>?_⟩;exact h2 C G σ H env n _ _ hK hT S hp fun xs env1 n1 vs H1 p1 S1 r1 f1=>⟨by rw [← r1.length];exact mil p1.1,fun p hp=>k _ _ _ _ _ _ p1.2 S1 f1 hp r1⟩
theorem QN.ee (h:QN T K F e pl):QE T K F e (qL pl):=by
 obtain⟨t,h1,h2⟩:=h;refine⟨t,h1,fun C G σ H env n R Q hK hT S hp k=>?_⟩;refine h2 C G σ H env n _ _ hK hT S hp fun xs env1 n1 a vs Hb p1 S1 f1 hn r1=>?_;exact k _ _ _ _ _ p1 (S1.same (Same.lay1 hn)) (a4Y (S1.fresh hn) hn r1) (f1.trans (Fr.of (Same.lay1 hn)))
theorem a7v {K:PySem.W.Frag}{t:TE}(h:ROk K T t pe){C:Ct}{G:Gh}{σ:St}{H:Hp}{env:Env}{n:Nat}{R:PK}{Q:List V→Hp→Prop}(hK:C.K=K)(hT:C.T=T)(S:SR C G σ H env n)(hp:pe env n R)
   (k:∀x env' n' v H',R x env' n'→SR C G σ H' env' n'→RdS C G σ H' env' x v→Fr G H H'→Q [v] H'):a3L t tNil σ H Q:=
 h C G σ H env n _ _ hK hT S hp fun x env1 n1 v H1 p1 S1 r1 f1=>k _ _ _ _ _ p1 S1 r1 f1
end
end Pu
end
section
set_option maxHeartbeats 1000000
namespace HT
open PySem PySem.Spec PyProof.Rows
section
variable {prog:Program}{w:World}{A:Around}{E:Value→Shared→Prop}{s:Shared}
theorem getItem_tuple_whole {t sl:Addr}{items:Array Value}{vl vu:Value}{lo hi:Option Int}{Q:Value→Shared→Prop}(ht:IsTup s.heap t items)(hs:s.heap.IsSliceOf sl vl vu .none)(pl:IsPart vl lo)(pu:IsPart vu hi)
   (hw:sIx items.size 0 lo=0∧sIx items.size items.size hi=items.size) (h:Q (.ref t) s):wpAny (model prog w) A (getItem (.ref t) (.ref sl)) Q E s:=by
 obtain⟨os,hos,hcs,hds⟩:=id hs;have hTs:s.TypeIs (.ref sl) "slice":=⟨os,hos,hcs⟩;have hTt:s.TypeIs (.ref t) "tuple":=ht.typeIs;unfold getItem
 try with_reducible refine wpAny_holding ?_
 first | refine wpAny_bind (wpAny_pure ?_) | skip
 refine wpAny_bind (wpAny_sequenceKey ht.typeIs (by decide) ?_)
 refine wpAny_bind (wpAny_callSpecial?_slot (name:=Str.ofString "__getitem__") ht.typeIs PyProof.Rows.slot_tuple_getitem
   (wpAny_call_entry PyProof.Rows.slot_tuple_getitem ht.typeIs entry_tuple_getitem ?_ (args_tuple_getitem _ _)))
 show wpAny _ _ (Builtin.Tuple.tupleItemsOf (.ref t)>>=_) _ _ s;refine wpAny_bind (tupleItemsOf_ ht ?_);refine wpAny_bind (wpAny_typeOf hTs ?_);rw [if_pos (by decide)];refine wpAny_bind (a1U hs pl pu ?_)
 have hyes:(((sIx items.size 0 lo:Nat):Int) == 0 && (1:Int) == 1 && (sIx items.size items.size hi - sIx items.size 0 lo) == items.size)=true:=by
   rw [hw.1,hw.2];simp
 show wpAny _ _ (if(((sIx items.size 0 lo:Nat):Int) == 0 && (1:Int) == 1 && (sIx items.size items.size hi - sIx items.size 0 lo) == items.size)=true then _ else _) _ _ s;rw [if_pos hyes];unfold Builtin.Tuple.tupleIsExact;refine wpAny_bind (wpAny_bind (wpAny_typeOf hTt (wpAny_pure ?_)));rw [if_pos (by rfl)];exact wpAny_bind (wpAny_rule (wpAny_pure ⟨_,rfl,wpAny_pure h⟩))
end
end HT
namespace L2
open PySem PySem.Spec PyProof.Rows
section
variable {X:Cx}
def rSlTA (K:PySem.W.Frag):V→Option Int→Option Int→Hp→VK→Prop:=fun x lo hi H Q=>∃a xs,x=.ref a∧SqT K H a xs∧
 (cutV xs lo hi=xs→Q (.ref a) H)∧∀p,H p=none→Q (.ref p) (upd H p (.tup (cutV xs lo hi)))
theorem b3j:SlR X (rSlTA X.K):=by
 intro pins s σ H x v vl vu lo hi sl Q I rx hs pl pu h;obtain⟨a,xs,rfl,hx,h1,h2⟩:=h
 by_cases hw:HT.sIx xs.length 0 lo=0∧HT.sIx xs.length xs.length hi=xs.length
 · cases rx;obtain⟨its,r,ht,hz⟩:=I.tuple hx;have hlen:its.toArray.size=xs.length:=by rw [List.size_toArray];exact r.length.symm
   refine⟨"tuple",_,PyProof.Rows.slot_tuple_getitem.lookup,ht.typeIs,?_⟩;refine HT.getItem_tuple_whole ht hs pl pu (by rw [hlen];exact hw) ⟨.ref a,H,I,rfl,h1 ?_⟩;unfold cutV;rw [hw.1,hw.2];simp
 · exact sl_tup pins s σ H (.ref a) v vl vu lo hi sl Q I rx hs pl pu ⟨a,xs,rfl,hx,hw,h2⟩
end
end L2
namespace Pu
open PySem PySem.Spec L2
section
variable {T:PotK}{ι:Type}{K:PySem.W.Frag}{F:ι→Cx}{e a b c:Expr}{es rest:List Expr}{pe pa pb pc:pE}{pos:Pos}{pl pr:pA}
def wIx:w2:=fun x y R=>match x,y with
 | .lst xs,.int i=>match atI xs i with | some z=>R z | none=>False
 | .tup xs,.int i=>match atI xs i with | some z=>R z | none=>False
 | .scr ns,.int i=>match atI ns i with | some z=>R (.int z) | none=>False
 | .str z,.int i=>z.length≤1000000∧match atI z.cps.toList i with | some c=>R (.str ⟨#[c]⟩) | none=>False
 | _,_=>False
theorem a7Q {K:PySem.W.Frag}{G:Gh}{H:Hp}{xs:List PV}{vs:List V}(r:Reps K G H xs vs){i:Int}{z:PV}(h:atI xs i=some z):∃v,atI vs i=some v∧Rep K G H z v:=by
 unfold atI at h ⊢;rw [← r.length];cases e:ixN xs.length i with
 | none=>rw [e] at h;cases h
 | some j =>
   rw [e] at h;exact r.get' h
theorem a5C {K:PySem.W.Frag}{G:Gh}{H:Hp}{ns:List Int}{v:V}(h:RdV K G H (.scr ns) v):∃a,v=.ref a∧SqL K H a (ns.map V.int):=by
 obtain⟨a,e,h⟩:=h.rep (fun _ z=>nomatch z);refine⟨a,e,?_⟩;rcases h with⟨_,o,h⟩ | h
 · exact .inl (.inr ⟨o,h⟩)
 · exact .inr h
theorem W2.ix {K:PySem.W.Frag}:W2 K (rIx K) wIx:=by
 intro G H x y v u R Q hf rx ry hw k;unfold wIx at hw
 split at hw
 · rename_i xs i;obtain⟨a,vs,ev,hq,r⟩:=rx.lst;cases ez:atI xs i with
   | none=>rw [ez] at hw;exact hw.elim
   | some z =>
     rw [ez] at hw;obtain⟨v',e1,r1⟩:=a7Q r ez;exact .inl ⟨a,vs,i,v',ev,ry.int,hq,e1,k _ _ _ hw (Same.refl _) r1⟩
 · rename_i xs i;obtain⟨a,vs,ev,hq,r⟩:=rx.tup;cases ez:atI xs i with
   | none=>rw [ez] at hw;exact hw.elim
   | some z =>
     rw [ez] at hw;obtain⟨v',e1,r1⟩:=a7Q r ez;exact .inr (.inl ⟨a,vs,i,v',ev,ry.int,hq,e1,k _ _ _ hw (Same.refl _) r1⟩)
 · rename_i ns i;obtain⟨a,ev,hq⟩:=a5C rx;cases ez:atI ns i with
   | none=>rw [ez] at hw;exact hw.elim
   | some z =>
     rw [ez] at hw;refine .inl ⟨a,_,i,.int z,ev,ry.int,hq,?_,k _ _ _ hw (Same.refl _) rfl⟩;unfold atI at ez ⊢;rw [List.length_map];cases e:ixN ns.length i with
     | none=>rw [e] at ez;cases ez
     | some j =>
       rw [e] at ez;show(ns.map V.int)[j]?=_;rw [List.getElem?_map,show ns[j]?=some z from ez]
       rfl
 · rename_i z i;obtain⟨hz,hw⟩:=hw;cases ez:atI z.cps.toList i with
   | none=>rw [ez] at hw;exact hw.elim
   | some c =>
     rw [ez] at hw;exact .inr (.inr ⟨z,i,c,rx.str,ry.int,mil hz,ez,k _ _ _ hw (Same.refl _) rfl⟩)
 · exact hw.elim
theorem a0T (ha:QE T K F a pa)(hb:QE T K F b pb)(hs:a7d b:=by exact fun _ _=>rfl)(hK:∀z,(F z).K=K:=by intro _;rfl):QE T K F (.Subscript a b pos) (qOp wIx pa pb):=by
 obtain⟨ta,h1,h2⟩:=ha;obtain⟨tb,h3,h4⟩:=hb.r;exact⟨_,fun z=>b3B (hK z▸b2M) (h1 z) (h3 z) hs,a9F W2.ix h2 h4⟩
theorem qe_ixR (ha:QR T K F a pa)(hb:QE T K F b pb)(hs:a7d b:=by exact fun _ _=>rfl)(hK:∀z,(F z).K=K:=by intro _;rfl):QE T K F (.Subscript a b pos) (qOpR wIx pa pb):=by
 obtain⟨ta,h1,h2⟩:=ha;obtain⟨tb,h3,h4⟩:=hb.r;exact⟨_,fun z=>b3B (hK z▸b2M) (h1 z) (h3 z) hs,b2G W2.ix h2 h4⟩
abbrev pO:=Env→Nat→(Option Int→Env→Nat→Prop)→Prop
def qNo:pO:=fun env n R=>R none env n
def a1Z (pe:pE):pO:=fun env n R=>pe env n fun x env1 n1=>match x with | .int i=>R (some i) env1 n1 | _=>False
def OOk (K:PySem.W.Frag)(T:PotK)(t:TO)(po:pO):Prop:=∀(C:Ct) (G:Gh) (σ:St) (H:Hp) (env:Env) (n:Nat) (R:Option Int→Env→Nat→Prop) (Q:Option Int→Hp→Prop),C.K=K→C.T=T→SR C G σ H env n→po env n R→
 (∀x env' n' H',R x env' n'→SR C G σ H' env' n'→Fr G H H'→Q x H')→t σ H Q
def QO {ι:Type}(T:PotK)(K:PySem.W.Frag)(F:ι→Cx)(e:Option Expr)(po:pO):Prop:=∃t,(∀z,PO (F z) e t)∧OOk K T t po
theorem a8b:QO T K F none qNo:=⟨_,fun _=>a6y,fun C G σ H env n R Q hK hT S hp k=>k _ _ _ _ hp S Fr.refl⟩
theorem a0Y (h:QE T K F e pe):QO T K F (some e) (a1Z pe):=by
 obtain⟨t,h1,h2⟩:=h;refine⟨_,fun z=>a6x (h1 z),fun C G σ H env n R Q hK hT S hp k=>?_⟩;refine h2 C G σ H env n _ _ hK hT S hp fun x env1 n1 v H1 p1 S1 r1 f1=>?_;cases x with
 | int i=>exact⟨i,r1,k _ _ _ _ p1 S1 f1⟩
 | _=>exact p1.elim
def cutP {α:Type}(xs:List α)(lo hi:Option Int):List α:=(xs.drop (HT.sIx xs.length 0 lo)).take (HT.sIx xs.length xs.length hi - HT.sIx xs.length 0 lo)
theorem Reps.cut {K:PySem.W.Frag}{G:Gh}{H:Hp}{xs:List PV}{vs:List V}(r:Reps K G H xs vs)(lo hi:Option Int):Reps K G H (cutP xs lo hi) (cutV vs lo hi):=by
 unfold cutP cutV;rw [← r.length];exact(r.drop _).take _
def wSl (x:PV)(lo hi:Option Int)(R:PV→Prop):Prop:=match x with
 | .lst xs=>R (.lst (cutP xs lo hi))
 | .scr ns=>R (.lst ((cutP ns lo hi).map PV.int))
 | .tup xs=>R (.tup (cutP xs lo hi))
 | .str z=>z.length≤1000000∧R (.str (Txt.slice z lo hi))
 | _=>False
def qSl (pe:pE)(pl ph:pO):pE:=fun env n R=>pe env n fun x env1 n1=>pl env1 n1 fun lo env2 n2=>ph env2 n2 fun hi env3 n3=>wSl x lo hi fun z=>R z env3 n3
theorem a3O {K:PySem.W.Frag}{G:Gh}{H:Hp}:∀ns:List Int,Reps K G H (ns.map PV.int) (ns.map V.int)
 | []=>rfl
 | i::ns=>⟨.int i,ns.map V.int,rfl,rfl,a3O ns⟩
theorem a2G {α β:Type}(f:α→β)(xs:List α)(lo hi:Option Int):cutP (xs.map f) lo hi=(cutP xs lo hi).map f:=by
 unfold cutP;rw [List.length_map,List.map_take,List.map_drop]
theorem sl_ok {K:PySem.W.Frag}{G:Gh}{H:Hp}{x:PV}{v:V}{lo hi:Option Int}{R:PV→Prop}{Q:VK}(hf:∀p,H p=none→p∉G.M)(rx:RdV K G H x v)(hw:wSl x lo hi R)(k:∀z v' H',R z→Same H H'→Rep K G H' z v'→Q v' H') :
   rSlL K v lo hi H Q∨rSlTA K v lo hi H Q∨rSlS v lo hi H Q:=by
 unfold wSl at hw
 split at hw
 · obtain⟨a,vs,ev,hq,r⟩:=rx.lst;exact .inl ⟨a,vs,ev,hq,fun p hp=>k _ _ _ hw (Same.lay1 hp) (a4Y (hf p hp) hp (r.cut lo hi))⟩
 · rename_i ns;obtain⟨a,ev,hq⟩:=a5C rx;refine .inl ⟨a,_,ev,hq,fun p hp=>k _ _ _ hw (Same.lay1 hp) (a4Y (hf p hp) hp ?_)⟩;have:=(a3O (K:=K) (G:=G) (H:=H) ns).cut lo hi;rw [a2G] at this;exact this
 · obtain⟨a,vs,ev,t,r⟩:=rx.rep (fun _ z=>nomatch z);refine .inr (.inl ⟨a,vs,ev,t.sq,fun z=>k _ _ _ hw (Same.refl _) ?_,fun p hp=>k _ _ _ hw (Same.lay1 hp) (a3P (hf p hp) hp (r.cut lo hi))⟩);have rc:=r.cut lo hi;rw [z] at rc;exact⟨a,vs,rfl,t,rc⟩
 · exact .inr (.inr ⟨_,rx.str,mil hw.1,k _ _ _ hw.2 (Same.refl _) rfl⟩)
 · exact hw.elim
theorem a4x {lo hi:Option Expr}{p2:Pos}{ql qh:pO}(he:QE T K F e pe)(hl:QO T K F lo ql)(hh:QO T K F hi qh)(hK:∀z,(F z).K=K:=by intro _;rfl):QE T K F (.Subscript e (.Slice lo hi none p2) pos) (qSl pe ql qh):=by
 obtain⟨t,h1,h2⟩:=he;obtain⟨tl,l1,l2⟩:=hl;obtain⟨th,u1,u2⟩:=hh;refine⟨_,fun z=>a5g ((hK z▸a6o).or ((hK z▸b3j).or sl_str)) (h1 z) (l1 z) (u1 z),fun C G σ H env n R Q hK hT S hp k=>?_⟩;refine h2 C G σ H env n _ _ hK hT S hp fun x env1 n1 v H1 p1 S1 r1 f1=>?_;refine l2 C G σ H1 env1 n1 _ _ hK hT S1 p1 fun lo env2 n2 H2 p2 S2 f2=>?_;refine u2 C G σ H2 env2 n2 _ _ hK hT S2 p2 fun hi env3 n3 H3 p3 S3 f3=>?_;exact sl_ok (fun p hp=>S3.fresh hp) (.inl ((r1.fr f2).fr f3)) p3 fun z v' H' rz s rv=>k _ _ _ _ _ rz (S3.same s) rv (((f1.trans f2).trans f3).trans (Fr.of s))
def WA1 (K:PySem.W.Frag)(r:List V→Hp→VK→Prop)(w:w1):Prop:=∀(G:Gh) (H:Hp) (x:PV) (v:V) (R:PV→Prop) (Q:VK),(∀p,H p=none→p∉G.M)→RdV K G H x v→w x R→
 (∀z v' H',R z→Same H H'→Rep K G H' z v'→Q v' H')→r [v] H Q
theorem b2H {K:PySem.W.Frag}{r:List V→Hp→VK→Prop}{w:w1}{t:TE}(hw:WA1 K r w)(h:ROk K T t pe):EOk K T (tCB r (a3L t tNil)) (qUn w pe):=fun C G σ H env n R Q hK hT S hp k=>by
 refine a7v h hK hT S hp fun x env1 n1 v H1 p1 S1 r1 f1=>?_;subst hK;exact hw G H1 x v _ _ (fun p hp=>S1.fresh hp) (r1.rd S1) p1 fun z v' H' rz s rv=>k _ _ _ _ _ rz (S1.same s) rv (f1.trans (Fr.of s))
theorem b2z {x:Str}{id:String}{r:List V→Hp→VK→Prop}{w:w1}{p:Pos}(hc:∀z,a1Y (F z) (.builtin id) r)(hw:WA1 K r w)(hg:∀z,Gl (F z) x)(hm:∀z,(F z).mg x=none)(hv:bootBuiltins x=some (.builtin id))(ha:QR T K F e pe)(hs:a0C e=true:=by rfl)(hn:x≠"__name__":=by decide)(hdb:(x == ("__debug__":Str))=false:=by decide) :
   QE T K F (.Call (.Name x p) [e] [] pos) (qUn w pe):=by
 obtain⟨t,h1,h2⟩:=ha;exact⟨_,fun z=>a2o (hc z) (hg z) (hm z) hv (a0r (h1 z) a0K (a0e hs)) hn hdb (a0e hs),b2H hw h2⟩
theorem qe_ct1 {x:Str}{id:String}{r:List V→Hp→VK→Prop}{w:w1}{p:Pos}(hc:∀z,a1Y (F z) (.type id) r)(hw:WA1 K r w)(hg:∀z,Gl (F z) x)(hm:∀z,(F z).mg x=none)(hv:bootBuiltins x=some (.type id))(ha:QR T K F e pe)(hs:a0C e=true:=by rfl)(hn:x≠"__name__":=by decide)(hdb:(x == ("__debug__":Str))=false:=by decide) :
   QE T K F (.Call (.Name x p) [e] [] pos) (qUn w pe):=by
 obtain⟨t,h1,h2⟩:=ha;exact⟨_,fun z=>a2a (hc z) (hg z) (hm z) hv (a0r (h1 z) a0K (a0e hs)) hn hdb (a0e hs),b2H hw h2⟩
def wLen:w1:=fun x R=>match x with
 | .lst xs=>R (.int xs.length)
 | .tup xs=>R (.int xs.length)
 | .scr xs=>R (.int xs.length)
 | .str z=>z.length≤1000000∧R (.int z.length)
 | _=>False
theorem WA1.len {K:PySem.W.Frag}:WA1 K (fun xs H Q=>(∃p ys,xs=[.ref p]∧(SqL K H p ys∨SqT K H p ys)∧Q (.int ys.length) H)∨∃z,xs=[.str z]∧z.length≤sizeLine∧Q (.int z.length) H) wLen:=by
 intro G H x v R Q hf rx hw k;unfold wLen at hw
 split at hw
 · obtain⟨a,vs,ev,hq,r⟩:=rx.lst;exact .inl ⟨a,vs,by rw [ev],.inl hq,k _ _ _ hw (Same.refl _) (by rw [r.length];rfl)⟩
 · obtain⟨a,vs,ev,hq,r⟩:=rx.tup;exact .inl ⟨a,vs,by rw [ev],.inr hq,k _ _ _ hw (Same.refl _) (by rw [r.length];rfl)⟩
 · obtain⟨a,ev,hq⟩:=a5C rx;exact .inl ⟨a,_,by rw [ev],.inl hq,k _ _ _ hw (Same.refl _) (by rw [List.length_map];rfl)⟩
 · exact .inr ⟨_,by rw [rx.str],mil hw.1,k _ _ _ hw.2 (Same.refl _) rfl⟩
 · exact hw.elim
theorem a2P {p:Pos}(hg:∀z,Gl (F z) "len")(hm:∀z,(F z).mg "len"=none)(ha:QR T K F e pe)(hs:a0C e=true:=by rfl)(hK:∀z,(F z).K=K:=by intro _;rfl):QE T K F (.Call (.Name "len" p) [e] [] pos) (qUn wLen pe):=b2z (fun z=>(hK z▸a2m).or a6d) WA1.len hg hm a7P ha hs
def a2u:w1:=fun x R=>match x with | .lst xs=>R (.tup xs) | .tup xs=>R (.tup xs) | _=>False
theorem a1N {p:Pos}(hg:∀z,Gl (F z) "tuple")(hm:∀z,(F z).mg "tuple"=none)(ha:QR T K F e pe)(hs:a0C e=true:=by rfl)(hK:∀z,(F z).K=K:=by intro _;rfl):QE T K F (.Call (.Name "tuple" p) [e] [] pos) (qUn a2u pe):=qe_ct1 (fun z=>hK z▸a5s) (fun G H x v R Q hf rx hw k=>by
 unfold a2u at hw
 split at hw
 · obtain⟨a,vs,ev,hq,r⟩:=rx.lst;exact⟨a,vs,by rw [ev],.inl ⟨hq,fun l hl=>k _ _ _ hw (Same.lay1 hl) (a3P (hf l hl) hl r)⟩⟩
 · obtain⟨a,vs,ev,t,r⟩:=rx.rep (fun _ z=>nomatch z);exact⟨a,vs,by rw [ev],.inr ⟨t.sq,k _ _ _ hw (Same.refl _) ⟨a,vs,rfl,t,r⟩⟩⟩
 · exact hw.elim) hg hm b2n ha hs
def b1A (pe:pE):pA:=fun env n R=>pe env n fun x env1 n1=>match x with | .lst xs=>R xs env1 n1 | .tup xs=>R xs env1 n1 | .scr ns=>R (ns.map PV.int) env1 n1 | _=>False
theorem a9j {p:Pos}(hg:∀z,Gl (F z) "list")(hm:∀z,(F z).mg "list"=none)(ha:QR T K F e pe)(hs:a0C e=true:=by rfl)(hK:∀z,(F z).K=K:=by intro _;rfl):QN T K F (.Call (.Name "list" p) [e] [] pos) (b1A pe):=by
 obtain⟨t,h1,h2⟩:=ha;refine⟨_,fun z=>a2a (hK z▸a3x) (hg z) (hm z) b0M (a0r (h1 z) a0K (a0e hs)) (by decide) (by decide) (a0e hs),fun C G σ H env n R Q hK hT S hp k=>?_⟩;refine a7v h2 hK hT S hp fun x env1 n1 v H1 p1 S1 r1 f1=>?_;have rd:RdV K G H1 x v:=hK▸r1.rd S1;cases x with
 | lst xs =>
   obtain⟨a,vs,ev,hq,r⟩:=rd.lst;exact⟨a,vs,by rw [ev],.inl hq,fun l hl=>k _ _ _ _ _ _ p1 S1 f1 hl r⟩
 | tup xs =>
   obtain⟨a,vs,ev,hq,r⟩:=rd.tup;exact⟨a,vs,by rw [ev],.inr hq,fun l hl=>k _ _ _ _ _ _ p1 S1 f1 hl r⟩
 | scr ns =>
   obtain⟨a,ev,hq⟩:=a5C rd;exact⟨a,_,by rw [ev],.inl hq,fun l hl=>k _ _ _ _ _ _ p1 S1 f1 hl (a3O ns)⟩
 | _=>exact p1.elim
def wMin:w2:=fun x y R=>match x,y with | .int i,.int j=>R (.int (if j < i then j else i)) | _,_=>False
theorem ok_cb2 {K:PySem.W.Frag}{r:List V→Hp→VK→Prop}{w:w2}{t u:TE}(hw:W2 K (fun x y H Q=>r [x,y] H Q) w)(h:EOk K T t pa)(h':EOk K T u pb):EOk K T (tCB r (a3L t (a3L u tNil))) (qOp w pa pb):=fun C G σ H env n R Q hK hT S hp k=>by
 refine h C G σ H env n _ _ hK hT S hp fun x env1 n1 v H1 p1 S1 r1 f1=>?_;refine h' C G σ H1 env1 n1 _ _ hK hT S1 p1 fun y env2 n2 u H2 p2 S2 r2 f2=>?_;exact hw G H2 x y v u _ _ (fun p hp=>S2.fresh hp) (.inl (r1.fr f2)) (.inl r2) p2 fun z v' H' rz s rv=>k _ _ _ _ _ rz (S2.same s) rv ((f1.trans f2).trans (Fr.of s))
theorem b2y {p:Pos}(hc:∀z,(F z).calm=true)(hg:∀z,Gl (F z) "min")(hm:∀z,(F z).mg "min"=none)(ha:QE T K F a pa)(hb:QE T K F b pb)(hs:a0C a=true:=by rfl)(hs2:a0C b=true:=by rfl):QE T K F (.Call (.Name "min" p) [a,b] [] pos) (qOp wMin pa pb):=by
 obtain⟨t,h1,h2⟩:=ha;obtain⟨u,h3,h4⟩:=hb;refine⟨_,fun z=>a2o (b0H (hc z)) (hg z) (hm z) bt_min (a0r (h1 z) (a0r (h3 z) a0K (a0e hs2)) (a0e hs)) (by decide) (by decide) (a0e hs) (by rw [a0e hs2];rfl),ok_cb2 (fun G H x y v u R Q hf rx ry hw k=>?_) h2 h4⟩;unfold wMin at hw
 split at hw
 · exact⟨_,_,by rw [rx.int,ry.int],k _ _ _ hw (Same.refl _) rfl⟩
 · exact hw.elim
def a0l (K:PySem.W.Frag)(T:PotK)(f:pF):Sp:=fun vs H Q _=>∃(G:Gh) (xs:List PV) (n:Nat) (R:PV→Nat→Prop),(∀p∈G.pots,p∈G.M∧T.at_ G.M H p n)∧(∀a∈G.M,∃o,H a=some o∧MutO o)∧T.has G.pots∧Reps K G H xs vs∧f xs n R∧
 ∀r n' v H',R r n'→Rep K G H' r v→(∀p∈G.pots,T.at_ G.M H' p n')→(∀b o,b∉G.pots→H b=some o→H' b=some o)→Q v H'
def a0v (f:pF)(pa:pA):pE:=fun env n R=>pa env n fun xs env1 n1=>f xs n1 fun r n2=>R r env1 n2
theorem SR.call {C:Ct}{G:Gh}{σ:St}{H H':Hp}{env:Env}{n n':Nat}(S:SR C G σ H env n)(hk:∀b o,b∉G.pots→H b=some o→H' b=some o)(hp:∀p∈G.pots,C.T.at_ G.M H' p n'):SR C G σ H' env n' where
 frame b o hb e:=by
   by_cases hp:b∈G.pots
   · -- a pot that is new since the entry has no old object
     obtain⟨l,el,_⟩:=S.pre;rw [el] at hp;rcases List.mem_append.mp hp with z | z
     · exact absurd z hb
     · have hM:=(S.pots b (by rw [el];exact hp)).1;rcases S.sub b hM with z2 | z2
       · exact(S.newp b (by rw [el];exact hp) hb z2).elim
       · rw [z2] at e;cases e
   · exact hk b o hp (S.frame b o hb e)
 sub:=S.sub
 sup:=S.sup
 pots p h:=⟨(S.pots p h).1,hp p h⟩
 pre:=S.pre
 mu a ha:=by
   by_cases h:a∈G.pots
   · exact C.T.mu (hp a h)
   · obtain⟨o,e,m⟩:=S.mu a ha;exact⟨o,hk a o h e,m⟩
 slots i x e:=by
   have f:Fr G H H':=fun b o hb he=>hk b o (fun z=>hb (S.pots b z).1) he;have:=S.slots i x e;cases x with
   | v x =>
     obtain⟨v,e1,r⟩:=this;exact⟨v,e1,r.fr f⟩
   | ow kk xs =>
     obtain⟨a,vs,e1,h1,h2,h3,h4,r⟩:=this;exact⟨a,vs,e1,h1,h2,h3,hk _ _ h3 h4,r.fr f⟩
 inj:=S.inj
 p0:=S.p0
 len:=S.len
 newp:=S.newp
theorem a0y {x:Str}{p:Pos}{f:pF}{ps:List Str}{k j:Nat}(hG:∀z,Kn (F z).prog (F z).w (F z).K (F z).mg (F z).base x k ps (a0l K T f))(hr:∀z,Room j (F z).A)(hk:k≤j)(hg:∀z,Gl (F z) x)(ha:QA T K F (e::es) pl)(hdb:(x == ("__debug__":Str))=false:=by decide)
   (hs:a0C e=true:=by rfl) (hpl:∀z,(backTo pos (starEach es (F z).env)).any (·.1)=false:=by intro _;rfl):QE T K F (.Call (.Name x p) (e::es) [] pos) (a0v f pl):=by
 obtain⟨t,h1,h2⟩:=ha;refine⟨_,fun z=>pe_fn (hG z) (hr z) hk (hg z) (h1 z) hdb (a0e hs) (hpl z),fun C G σ H env n R Q hK hT S hp k=>?_⟩;refine h2 C G σ H env n _ _ hK hT S hp fun xs env1 n1 vs H1 p1 S1 r1 f1=>?_;subst hT;rw [List.append_nil];refine⟨G,xs,n1,_,fun p hp=>S1.pots p hp,S1.mu,S1.hasG,r1,p1,fun r n' v H' rr rv hp hk'=>?_⟩;exact k _ _ _ _ _ rr (S1.call hk' hp) rv (f1.trans fun b o hb e=>hk' b o (fun z=>hb (S1.pots b z).1) e)
end
end Pu
end
section
set_option maxHeartbeats 1000000
namespace Pu
open PySem PySem.Spec L2
abbrev pG:=PV→Env→(Env→Prop)→Prop
abbrev pGs:=List PV→Env→(Env→Prop)→Prop
def GOk (K:PySem.W.Frag)(g:TG)(pg:pG):Prop:=∀(C:Ct) (G:Gh) (σ:St) (H:Hp) (env:Env) (n:Nat) (x:PV) (v:V) (R:Env→Prop) (Q:St→Hp→Prop),C.K=K→SR C G σ H env n→Rep K G H x v→pg x env R→
 (∀env' σ',R env'→SR C G σ' H env' n→Q σ' H)→g v σ H Q
def GsOk (K:PySem.W.Frag)(g:TGs)(pg:pGs):Prop:=∀(C:Ct) (G:Gh) (σ:St) (H:Hp) (env:Env) (n:Nat) (x:List PV) (v:List V) (R:Env→Prop) (Q:St→Hp→Prop),C.K=K→SR C G σ H env n→Reps K G H x v→pg x env R→
 (∀env' σ',R env'→SR C G σ' H env' n→Q σ' H)→g v σ H Q
def QG {ι:Type}(K:PySem.W.Frag)(F:ι→Cx)(e:Expr)(pg:pG):Prop:=∃g,(∀z,PG (F z) e g)∧GOk K g pg
def QGs {ι:Type}(K:PySem.W.Frag)(F:ι→Cx)(e:List Expr)(pg:pGs):Prop:=∃g,(∀z,PGs (F z) e g)∧GsOk K g pg
def gN (i:Nat):pG:=fun x env R=>R (env.set i (some (.v x)))
def gNl:pGs:=fun xs env R=>match xs with | []=>R env | _=>False
def gCn (g:pG)(r:pGs):pGs:=fun xs env R=>match xs with | x::xs=>g x env fun env1=>r xs env1 R | []=>False
def gTp (k:Nat)(g:pGs):pG:=fun x env R=>match x with | .tup xs=>xs.length=k∧g xs env R | _=>False
theorem SR.set {C:Ct}{G:Gh}{σ:St}{H:Hp}{env:Env}{n:Nat}(S:SR C G σ H env n)(i:Nat){x:PV}{v:V}(r:Rep C.K G H x v):SR C G (σ.set i (some v)) H (env.set i (some (.v x))) n where
 frame:=S.frame
 sub:=S.sub
 sup:=S.sup
 pots:=S.pots
 pre:=S.pre
 mu:=S.mu
 slots j s e:=by
   by_cases h:i=j
   · subst h
     by_cases hl:i < env.length
     · rw [List.getElem?_set_self hl] at e;cases e;exact⟨v,by rw [List.getElem?_set_self (by rw [← S.len];exact hl)],r⟩
     · rw [List.getElem?_eq_none (by rw [List.length_set];omega)] at e;cases e
   · rw [List.getElem?_set_ne h] at e ⊢;exact S.slots j s e
 inj j k xs ys a e1 e2 e3 e4:=by
   have nj:∀(j:Nat) (xs:OK×List PV),(env.set i (some (.v x)))[j]?=some (some (Slot.ow xs.1 xs.2))→i≠j:=by
     intro j xs e h;subst h
     by_cases hl:i < env.length
     · rw [List.getElem?_set_self hl] at e;cases e
     · rw [List.getElem?_eq_none (by rw [List.length_set];omega)] at e;cases e
   have n1:=nj j xs e1;have n2:=nj k ys e2;rw [List.getElem?_set_ne n1] at e1 e3;rw [List.getElem?_set_ne n2] at e2 e4;exact S.inj j k xs ys a e1 e2 e3 e4
 p0:=S.p0
 len:=by rw [List.length_set,List.length_set];exact S.len
 newp:=S.newp
section
variable {T:PotK}{ι:Type}{K:PySem.W.Frag}{F:ι→Cx}{e a b c:Expr}{es rest:List Expr}{pe pa pb pc:pE}{pos:Pos}{pl pr:pA}{pg:pG}{pgs:pGs}{pt:pT}
theorem a0n {X:Cx}(i:Nat){x:Str}{pos:Pos}(hN:X.N.Nodup)(hi:X.N[i]?=some x)(hx:Loc X.env.scope x)(hf:X.fn x=true∨X.env.scope.names.lookup x=some .local:=by first | exact .inl rfl | exact .inr rfl | assumption):GW X (.Name x pos) (a1P i):=⟨b3A hN hi hx hf⟩
theorem a0p {i:Nat}{x:Str}(h:∀z,GW (F z) (.Name x pos) (a1P i)):QG K F (.Name x pos) (gN i):=⟨_,fun z=>(h z).h,fun C G σ H env n x v R Q hK S r hp k=>k _ _ hp (S.set i (hK▸r))⟩
theorem a1M:QGs K F [] gNl:=⟨_,fun _=>a6A,fun C G σ H env n x v R Q hK S r hp k=>by
 cases x with
 | nil=>exact⟨r,k _ _ hp S⟩
 | cons _ _=>exact hp.elim⟩
theorem a0w (h1:QG K F e pg)(h2:QGs K F es pgs)(hs:∀z,(assignEach (e::es) (F z).env).map (·.2)=assign e (F z).env::(assignEach es (F z).env).map (·.2):=by intro _;rfl):QGs K F (e::es) (gCn pg pgs):=by
 obtain⟨g,a1,a2⟩:=h1;obtain⟨gs,b1,b2⟩:=h2;refine⟨_,fun z=>a2Q (a1 z) (b1 z) (hs z),fun C G σ H env n x v R Q hK S r hp k=>?_⟩;cases x with
 | nil=>exact hp.elim
 | cons x xs =>
   obtain⟨u,us,rfl,ru,rs⟩:=r;exact⟨u,us,rfl,a2 C G σ H env n x u _ _ hK S ru hp fun env' σ' re S'=>b2 C G σ' H env' n xs us _ _ hK S' rs re k⟩
theorem a3t {m:Nat}{k:Nat}(hc:∀z,(F z).calm=true)(h:QGs K F es pgs)(hn:∀z,(assignEach es (F z).env).length=m:=by intro _;rfl)(hst:∀z,(assignEach es (F z).env).findIdx? (·.1)=none:=by intro _;rfl)(hK:∀z,(F z).K=K:=by intro _;rfl):QG K F (.Tuple es k pos) (gTp m pgs):=by
 obtain⟨g,a1,a2⟩:=h;refine⟨_,fun z=>hK z▸a9v (hc z) (a1 z) (hn z) (hst z),fun C G σ H env n x v R Q hK S r hp k=>?_⟩;cases x with
 | tup xs =>
   obtain⟨a,vs,rfl,t,rs⟩:=r;exact⟨a,vs,rfl,t.sq,by rw [← rs.length];exact hp.1,a2 C G σ H env n xs vs _ _ hK S rs hp.2 k⟩
 | _=>exact hp.elim
def ItR (K:PySem.W.Frag)(G:Gh)(H:Hp)(J:It)(xs:List PV):Prop:=∀(G2:Gh) (H2:Hp),(∀b o,b∉G.M→H b=some o→H2 b=some o)→(∀a∈G2.M,a∈G.M∨H a=none)→(∀(k:Nat) (p:Addr),G.pots[k]?=some p→G2.pots[k]?=some p)→(∀p,H2 p=none→p∉G2.M)→
 (∀(i:Nat) x,xs[i]?=some x→J.go i H2∧∀v H3,J.yld i H2 v H3→Same H2 H3∧Rep K G2 H3 x v)∧∀i,xs.length≤i→J.stop i H2
def IOk (K:PySem.W.Frag)(T:PotK)(wi:TI)(pi:pA):Prop:=∀(C:Ct) (G:Gh) (σ:St) (H:Hp) (env:Env) (n:Nat) (R:List PV→Env→Nat→Prop) (Q:It→Hp→Prop),C.K=K→C.T=T→SR C G σ H env n→pi env n R→
 (∀xs env' n' J H',R xs env' n'→SR C G σ H' env' n'→Fr G H H'→ItR K G H' J xs→Q J H')→wi σ H Q
def QI {ι:Type}(T:PotK)(K:PySem.W.Frag)(F:ι→Cx)(tg iter:Expr)(pi:pA):Prop:=∃wi,(∀z,PI (F z) tg iter wi)∧IOk K T wi pi
variable {tg:Expr}
theorem b1X {K:PySem.W.Frag}{G:Gh}{H:Hp}{a:Addr}{xs:List PV}{vs:List V}(t:AtL G.M H a vs)(r:Reps K G H xs vs):ItR K G H (Itl K a) xs:=by
 intro G2 H2 hk hM hp hf;have hq:SqL K H2 a vs:=SqL.of (hk a _ t.1 t.2);have r2:Reps K G2 H2 xs vs:=Reps.mono hk hM hp _ _ r;refine⟨fun i x e=>?_,fun i hi=>⟨vs,hq,by rw [← r.length];exact hi⟩⟩;obtain⟨v,ev,rv⟩:=r2.get' e;refine⟨⟨vs,v,hq,ev⟩,fun v' H3 y=>?_⟩;obtain⟨e3,y⟩:=y;subst e3;have:=y vs hq;rw [ev] at this;cases this;exact⟨Same.refl _,rv⟩
theorem b4b {K:PySem.W.Frag}{G:Gh}{H:Hp}{a:Addr}{xs:List PV}{vs:List V}(t:AtT G.M H a vs)(r:Reps K G H xs vs):ItR K G H (Itt K a) xs:=by
 intro G2 H2 hk hM hp hf;have hq:SqT K H2 a vs:=SqT.of (hk a _ t.1 t.2);have r2:Reps K G2 H2 xs vs:=Reps.mono hk hM hp _ _ r;refine⟨fun i x e=>?_,fun i hi=>⟨vs,hq,by rw [← r.length];exact hi⟩⟩;obtain⟨v,ev,rv⟩:=r2.get' e;refine⟨⟨vs,v,hq,ev⟩,fun v' H3 y=>?_⟩;obtain⟨e3,y⟩:=y;subst e3;have:=y vs hq;rw [ev] at this;cases this;exact⟨Same.refl _,rv⟩
def qIl (pe:pE):pA:=fun env n R=>pe env n fun x env1 n1=>match x with | .lst xs=>R xs env1 n1 | _=>False
def qIt (pe:pE):pA:=fun env n R=>pe env n fun x env1 n1=>match x with | .tup xs=>R xs env1 n1 | _=>False
theorem a3U (h:QE T K F e pe)(hK:∀z,(F z).K=K:=by intro _;rfl):QI T K F tg e (qIl pe):=by
 obtain⟨t,h1,h2⟩:=h;refine⟨_,fun z=>hK z▸b3z (h1 z),fun C G σ H env n R Q hK hT S hp k=>?_⟩;refine h2 C G σ H env n _ _ hK hT S hp fun x env1 n1 v H1 p1 S1 r1 f1=>?_;cases x with
 | lst xs =>
   obtain⟨a,vs,rfl,t,r⟩:=r1;exact⟨a,rfl,⟨vs,t.sq⟩,k _ _ _ _ _ p1 S1 f1 (b1X t r)⟩
 | _=>exact p1.elim
theorem a4G (h:QE T K F e pe)(hK:∀z,(F z).K=K:=by intro _;rfl):QI T K F tg e (qIt pe):=by
 obtain⟨t,h1,h2⟩:=h;refine⟨_,fun z=>hK z▸pi_tup (h1 z),fun C G σ H env n R Q hK hT S hp k=>?_⟩;refine h2 C G σ H env n _ _ hK hT S hp fun x env1 n1 v H1 p1 S1 r1 f1=>?_;cases x with
 | tup xs =>
   obtain⟨a,vs,rfl,t,r⟩:=r1;exact⟨a,rfl,⟨vs,t.sq⟩,k _ _ _ _ _ p1 S1 f1 (b4b t r)⟩
 | _=>exact p1.elim
theorem b0j {K:PySem.W.Frag}{G:Gh}{H:Hp}(lo:Int)(m:Nat):ItR K G H (Itr lo m) ((List.range m).map fun(k:Nat)=>PV.int (lo + k)):=by
 intro G2 H2 hk hM hp hf;refine⟨fun i x e=>?_,fun i hi=>(show m≤i by simpa using hi)⟩;rw [List.getElem?_map] at e;cases e1:(List.range m)[i]? with
 | none=>rw [e1] at e;cases e
 | some j =>
   rw [e1] at e;cases e;obtain⟨hi,e2⟩:=List.getElem?_eq_some_iff.mp e1;rw [List.getElem_range] at e2;subst e2;refine⟨(show i < m by simpa using hi),fun v H3 y=>?_⟩;obtain⟨e3,y⟩:=y;subst e3 y;exact⟨Same.refl _,rfl⟩
def a8d (pe:pE):pA:=fun env n R=>pe env n fun x env1 n1=>match x with | .int j=>(-1000000≤j∧j≤1000000)∧R ((List.range j.toNat).map fun(k:Nat)=>PV.int (0 + k)) env1 n1 | _=>False
theorem a2O {p:Pos}(hg:∀z,Gl (F z) "range")(hm:∀z,(F z).mg "range"=none)(h:QE T K F e pe)(hs:a0C e=true:=by rfl):QI T K F tg (.Call (.Name "range" p) [e] [] pos) (a8d pe):=by
 obtain⟨t,h1,h2⟩:=h;refine⟨_,fun z=>a9u (hg z) (hm z) (a0r (h1 z) a0K (a0e hs)) (by rw [a0e hs];rfl),fun C G σ H env n R Q hK hT S hp k=>?_⟩;refine a7v (pe:=pe) (fun C G σ H env n R Q hK hT S hp k=>h2 C G σ H env n R Q hK hT S hp fun x env' n' v H' r S' rp f=>k x env' n' v H' r S' (.inl (hK▸rp)) f) hK hT S hp fun x env1 n1 v H1 p1 S1 r1 f1=>?_;cases x with
 | int j=>exact⟨j,by rw [(r1.rd S1).int],by omega,by omega,k _ _ _ _ _ p1.2 S1 f1 (b0j 0 _)⟩
 | _=>exact p1.elim
def capS:Option (Option Slot)→Option Slot
 | some (some (.v x))=>some (.v x)
 | _=>none
def capV (cs:List (Option Nat))(env:Env):Env:=cs.map fun o=>o.bind fun j=>capS (env[j]?)
def a5Z (g:pG)(tt:pT)(te:pE):List PV→Env→Nat→(List PV→Nat→Prop)→Prop
 | [],_,n,R=>R [] n
 | x::xs,env,n,R=>g x env fun env1=>tt env1 n fun b env2 n2=>if b=true then te env2 n2 fun y env3 n3=>a5Z g tt te xs env3 n3 fun ys n4=>R (y::ys) n4 else a5Z g tt te xs env2 n2 R
def qTru:pT:=fun env n R=>R true env n
def a9p (cs:List (Option Nat))(pi:pA)(g:pG)(tt:pT)(te:pE):pA:=fun env n R=>pi env n fun xs env1 n1=>xs.length≤1000000∧a5Z g tt te xs (capV cs env1) n1 fun ys n2=>R ys env1 n2
structure Inn (K:PySem.W.Frag)(T:PotK)(G:Gh)(σ:St)(H:Hp)(env:Env)(n:Nat):Prop where
 pots:∀p∈G.pots,p∈G.M∧T.at_ G.M H p n
 has:T.has G.pots
 mu:∀a∈G.M,∃o,H a=some o∧MutO o
 slots:∀(i:Nat) (s:Slot),env[i]?=some (some s)→∃x v,s=.v x∧σ[i]?=some (some v)∧Rep K G H x v
 len:env.length=σ.length
theorem Inn.sr {K:PySem.W.Frag}{T:PotK}{G:Gh}{σ:St}{H:Hp}{env:Env}{n:Nat}(I:Inn K T G σ H env n):SR ⟨K,T,G.M,G.pots,H,false⟩ G σ H env n where
 frame b o _ e:=e
 sub a ha:=.inl ha
 sup a ha:=ha
 pots:=I.pots
 pre:=⟨[],by simp,.inl rfl⟩
 mu:=I.mu
 slots i s e:=by
   obtain⟨x,v,rfl,ev,r⟩:=I.slots i s e;exact⟨v,ev,r⟩
 inj i j xs ys a e1:=by
   obtain⟨x,v,z,_⟩:=I.slots i _ e1;cases z
 p0:=⟨fun p hp=>(I.pots p hp).1,I.has⟩
 len:=I.len
 newp p hp hn:=absurd hp hn
theorem SR.inn {K:PySem.W.Frag}{T:PotK}{G:Gh}{σ:St}{H H0:Hp}{env:Env}{n:Nat}(S:SR ⟨K,T,G.M,G.pots,H0,false⟩ G σ H env n):Inn K T G σ H env n where
 pots:=S.pots
 has:=S.hasG
 mu:=S.mu
 slots i s e:=by
   cases s with
   | v x =>
     obtain⟨v,ev,r⟩:=S.slots i _ e;exact⟨x,v,rfl,ev,r⟩
   | ow kk xs =>
     obtain⟨a,vs,ev,h1,h2,_⟩:=S.slots i _ e;exact absurd h1 h2
 len:=S.len
theorem b3d {K:PySem.W.Frag}:TOk K T tTru qTru:=fun C G σ H env n R Q hK hT S hp k=>k _ _ _ _ hp S Fr.refl
theorem b0D {K:PySem.W.Frag}{T:PotK}{J:It}{g:TG}{tt:TT}{te:TE}{pg:pG}{ptt:pT}{pte:pE}(hg:GOk K g pg)(ht:TOk K T tt ptt)(he:EOk K T te pte){G:Gh}{H1:Hp}{xs:List PV}(hJ:ItR K G H1 J xs)(hl:xs.length≤1000000)
   {σc:St} {env:Env} {n:Nat} {R:List PV→Nat→Prop} {Q:VK} {D:Addr} (hD:H1 D=none) (I0:Inn K T G σc H1 env n) (hp:a5Z pg ptt pte xs env n R)
   (hQ:∀ys n' us H',R ys n'→(∀p∈G.pots,T.at_ (D::G.M) H' p n')→(∀b o,b∉G.pots→H1 b=some o→H' b=some o)→H' D=some (.lst us)→Reps K ⟨D::G.M,G.pots⟩ H' ys us→Q (.ref D) H') :
   CompW J g tt te Q D σc (upd H1 D (.lst [])):=by
 have hDM:D∉G.M:=fun z=>by
   obtain⟨o,e,_⟩:=I0.mu D z;rw [hD] at e;cases e
 let GD:Gh:=⟨D::G.M,G.pots⟩
 refine⟨fun i m σ H=>m=xs.length - i∧i≤xs.length∧∃env n acc us,Inn K T GD σ H env n∧(∀b o,b∉G.pots→H1 b=some o→H b=some o)∧H D=some (.lst us)∧Reps K GD H acc us∧acc.length≤i∧a5Z pg ptt pte (xs.drop i) env n fun ys n'=>R (acc++ys) n',?_,?_⟩
 · refine⟨xs.length,by simp,Nat.zero_le _,env,n,[],[],⟨fun p hp=>⟨List.mem_cons_of_mem _ (I0.pots p hp).1,?_⟩,I0.has,fun a ha=>?_,fun i s e=>?_,I0.len⟩,fun b o _ e=>?_,a0g,rfl,Nat.le_refl _,by simpa using hp⟩
   · have h1:=T.more (M':=D::G.M) (I0.pots p hp).2 (fun a ha=>(List.mem_cons.mp ha).elim (fun z=>.inr (z▸hD)) .inl);refine T.keep h1 ?_ fun b o hb e=>Same.lay1 hD b o e;obtain⟨o,e,_⟩:=T.mu h1;rw [e,Same.lay1 hD p o e]
   · rcases List.mem_cons.mp ha with rfl | ha
     · exact⟨_,a0g,trivial⟩
     · obtain⟨o,e,m⟩:=I0.mu a ha;exact⟨o,Same.lay1 hD a o e,m⟩
   · obtain⟨x,v,rfl,ev,r⟩:=I0.slots i s e;exact⟨x,v,rfl,ev,Rep.mono (G':=GD) (H':=upd H1 D (.lst [])) (fun b o _ e=>Same.lay1 hD b o e) (fun a ha=>(List.mem_cons.mp (show a∈D::G.M from ha)).elim (fun z=>.inr (z▸hD)) .inl) (fun _ _ e=>e) _ _ r⟩
   · exact Same.lay1 hD b o e
 · rintro i m σ H ⟨rfl,hi,env,n,acc,us,I,kp,eD,ra,la,hc⟩
   have hf:∀p,H p=none→p∉GD.M:=fun p hp z=>by
     obtain⟨o,e,_⟩:=I.mu p z;rw [hp] at e;cases e
   have hk:∀b o,b∉G.M→H1 b=some o→H b=some o:=fun b o hb e=>kp b o (fun z=>hb (I0.pots b z).1) e;obtain⟨hgo,hstop⟩:=hJ GD H hk (fun a ha=>(List.mem_cons.mp (show a∈D::G.M from ha)).elim (fun z=>.inr (z▸hD)) .inl) (fun _ _ e=>e) hf
   by_cases hlt:i < xs.length
   · have ex:xs[i]?=some xs[i]:=List.getElem?_eq_getElem hlt;obtain⟨g1,g2⟩:=hgo i _ ex;refine .inr ⟨g1,fun v H2 y=>?_⟩;obtain⟨s2,rv⟩:=g2 v H2 y;rw [List.drop_eq_getElem_cons hlt] at hc;have S0:=I.sr;have S1:SR ⟨K,T,GD.M,GD.pots,H,false⟩ GD σ H2 env n:=S0.same s2;refine hg _ GD σ H2 env n xs[i] v _ _ rfl S1 rv hc fun env1 σ1 hc1 S2=>?_;refine ht _ GD σ1 H2 env1 n _ _ rfl rfl S2 hc1 fun b env2 n2 H4 hc2 S4 f4=>?_
     have pt:∀{H5:Hp} {env5:Env} {n5:Nat},SR ⟨K,T,GD.M,GD.pots,H,false⟩ GD σ1 H5 env5 n5→(∀b o,b∉G.pots→H1 b=some o→H5 b=some o)∧H5 D=some (.lst us):=fun S5=>by
       have nD:D∉G.pots:=fun z=>hDM (I0.pots D z).1;exact⟨fun b o hb e=>S5.frame b o hb (kp b o hb e),S5.frame D _ nD eD⟩
     cases b with
     | false =>
       obtain⟨k1,k2⟩:=pt S4;refine⟨xs.length - (i + 1),by omega,rfl,hlt,env2,n2,acc,us,S4.inn,k1,k2,?_,by omega,hc2⟩;exact Reps.mono (fun b o hb e=>S4.frame b o (fun z=>hb (List.mem_cons_of_mem _ (I0.pots b z).1)) e) (fun a ha=>.inl ha) (fun _ _ e=>e) _ _ ra
     | true =>
       refine he _ GD σ1 H4 env2 n2 _ _ rfl rfl S4 hc2 fun y env3 n3 u H5 hc3 S5 r5 f5=>?_;obtain⟨k1,k2⟩:=pt S5;have ra5:Reps K GD H5 acc us:=Reps.mono (fun b o hb e=>S5.frame b o (fun z=>hb (List.mem_cons_of_mem _ (I0.pots b z).1)) e) (fun a ha=>.inl ha) (fun _ _ e=>e) _ _ ra
       have fD:∀(o:HO),Fr GD H5 (upd H5 D o):=fun o b u hb e=>by
         rw [a0j (fun z=>hb (by rw [z];exact List.mem_cons_self))];exact e
       have I5:=S5.inn;refine⟨us,k2,?_,xs.length - (i + 1),by omega,rfl,hlt,env3,n3,acc++[y],us++[u],⟨fun p hp=>⟨(I5.pots p hp).1,?_⟩,I5.has,fun a ha=>?_,fun j s e=>?_,I5.len⟩,fun b o hb e=>?_,a0g,(ra5.append (.one r5)).fr (fD _),by rw [List.length_append,List.length_singleton];omega,?_⟩
       · have:=ra.length;rw [← this];exact mil' (by omega)
       · have np:p≠D:=fun z=>hDM (by rw [← z];exact(I0.pots p hp).1);exact T.keep (I5.pots p hp).2 (a0j np) fun b o hb e=>fD _ b o hb e
       · by_cases haD:a=D
         · subst haD;exact⟨_,a0g,trivial⟩
         · obtain⟨o,e,m⟩:=I5.mu a ha;exact⟨o,by rw [a0j haD];exact e,m⟩
       · obtain⟨x,v,rfl,ev,r⟩:=I5.slots j s e;exact⟨x,v,rfl,ev,r.fr (fD _)⟩
       · have nb:b≠D:=fun z=>by rw [z,hD] at e;cases e
         rw [a0j nb];exact k1 b o hb e
       · simpa [List.append_assoc] using hc3
   · have ei:i=xs.length:=by omega
     subst ei;refine .inl ⟨hstop _ (Nat.le_refl _),?_⟩;rw [List.drop_length] at hc;exact hQ _ n us H (by simpa [a5Z] using hc) (fun p hp=>(I.pots p hp).2) kp eD ra
end
end Pu
end
section
set_option maxHeartbeats 1000000
namespace Pu
open PySem PySem.Spec L2
section
variable {T:PotK}{ι:Type}{K:PySem.W.Frag}{F:ι→Cx}{e a b c:Expr}{es rest:List Expr}{pe pa pb pc:pE}{pos:Pos}{pl pr:pA}{pg:pG}{pgs:pGs}{pt:pT}
def QIf {ι:Type}(T:PotK)(K:PySem.W.Frag)(F:ι→Cx)(ifs:List Expr)(pt:pT):Prop:=∃t,(∀z,PIf (F z) ifs t)∧TOk K T t pt
theorem b3p:QIf T K F [] qTru:=⟨_,fun _=>b3x,b3d⟩
theorem a9k (h:QT T K F c pt):QIf T K F [c] pt:=let ⟨t,h1,h2⟩:=h;⟨t,fun z=>b3w (h1 z),h2⟩
theorem a6Y {C:Ct}{G:Gh}{σ:St}{H:Hp}{env:Env}{n:Nat}(S:SR C G σ H env n)(cs:List (Option Nat)):Inn C.K C.T G (a8E cs σ) H (capV cs env) n where
 pots:=S.pots
 has:=S.hasG
 mu:=S.mu
 len:=by simp [capV,a8E]
 slots i s e:=by
   unfold capV at e;rw [List.getElem?_map] at e;cases ec:cs[i]? with
   | none=>rw [ec] at e;cases e
   | some o =>
     rw [ec] at e;cases o with
     | none=>cases e
     | some j =>
       have e':capS (env[j]?)=some s:=by simpa using e
       unfold capS at e'
       split at e'
       · rename_i x ex;cases e';obtain⟨v,ev,r⟩:=S.slots j _ ex;refine⟨x,v,rfl,?_,r⟩;unfold a8E;rw [List.getElem?_map,ec];simp [ev]
       · cases e'
def cutH (H:Hp)(D:Addr):Hp:=fun b=>if b=D then none else H b
theorem a1f {H:Hp}{D b:Addr}(h:b≠D):cutH H D b=H b:=if_neg h
theorem a4S {H:Hp}{D:Addr}{o:HO}(h:H D=some o):upd (cutH H D) D o=H:=by
 funext b
 by_cases hb:b=D
 · subst hb;rw [a0g,h]
 · rw [a0j hb,a1f hb]
theorem b3o {scope:Scope}{cl:ι→List (Str×Addr)}{N:List Str}{cs:List (Option Nat)}{elt tg iter:Expr}{ifs:List Expr}{pi:pA}{ptt:pT}{pte:pE}(S:∀z,a1i (F z) scope (cl z) N cs)(hc:∀z,(F z).calm=true)(hi:QI T K F tg iter pi)
   (hg:QG K (fun y:ι×List Addr×Addr×Shared×Hp=>a0m (F y.1) scope (cl y.1) N y.2.1 y.2.2.1 y.2.2.2.1 y.2.2.2.2) tg pg) (ht:QIf T K (fun y:ι×List Addr×Addr×Shared×Hp=>a0m (F y.1) scope (cl y.1) N y.2.1 y.2.2.1 y.2.2.2.1 y.2.2.2.2) ifs ptt)
   (he:QE T K (fun y:ι×List Addr×Addr×Shared×Hp=>a0m (F y.1) scope (cl y.1) N y.2.1 y.2.2.1 y.2.2.2.1 y.2.2.2.2) elt pte)
   (hs:∀z x,foldedSetIterable iter (F z).env x=pure x:=by intro _ _;rfl):QN T K F (.ListComp elt [⟨tg,iter,ifs,0⟩] scope pos) (a9p cs pi pg ptt pte):=by
 obtain⟨wi,i1,i2⟩:=hi;obtain⟨g,hg0,hg⟩:=hg;obtain⟨tt,ht0,ht⟩:=ht;obtain⟨te,he0,he⟩:=he;refine⟨_,fun z=>a9y (S z) (hc z) (i1 z) (fun fp C s H=>⟨hg0 (z,fp,C,s,H),ht0 (z,fp,C,s,H),he0 (z,fp,C,s,H)⟩) (hs z),fun C G σ H env n R Q hK hT S hp k=>?_⟩;refine i2 C G σ H env n _ _ hK hT S hp fun xs env1 n1 J H1 p1 S1 f1 hJ=>?_;intro D hD;have hDM:=S1.fresh hD;refine b0D (G:=G) hg ht he hJ p1.1 hD (hT▸hK▸a6Y S1 cs) p1.2 fun ys n2 us H' rr hpots hk eD ry=>?_
 -- the heap without D
 have nD:∀b o,H1 b=some o→b≠D:=fun b o e z=>by rw [z,hD] at e;cases e
 have hD0:C.H0 D=none:=by
   cases z:C.H0 D with
   | none=>rfl
   | some o =>
     by_cases hp:D∈C.pots0
     · exact absurd (S1.sup D (S1.p0.1 D hp)) hDM
     · have:=S1.frame D o hp z;rw [hD] at this;cases this
 have hk2:∀b o,b∉G.pots→H1 b=some o→cutH H' D b=some o:=fun b o hb e=>by rw [a1f (nD b o e)];exact hk b o hb e
 have nc:∀b,b∉D::G.M→b≠D:=fun b hb z=>hb (by rw [z];exact List.mem_cons_self);have np:∀p∈G.pots,p≠D:=fun p hp z=>hDM (z▸(S1.pots p hp).1)
 have Sb:SR C G σ (cutH H' D) env1 n2:=S1.call hk2 fun p hp=>by
   subst hT;have h2:=C.T.keep (hpots p hp) (H':=cutH H' D) (a1f (np p hp)) fun b o hb e=>by rw [a1f (nc b hb)];exact e
   exact C.T.more h2 fun a ha=>.inl (List.mem_cons_of_mem _ ha)
 have:=k ys env1 n2 D us (cutH H' D) rr Sb (f1.trans fun b o hb e=>hk2 b o (fun z=>hb (S1.pots b z).1) e) (by unfold cutH;rw [if_pos rfl]) ?_
 · rw [a4S eD] at this;exact this
 · exact Reps.mono (G:=⟨D::G.M,G.pots⟩) (fun b o hb e=>by rw [a1f (nc b hb)];exact e) (fun a ha=>.inl (List.mem_cons_of_mem _ ha)) (fun _ _ e=>e) _ _ ry
end
end Pu
end
section
set_option maxHeartbeats 1000000
namespace Pu
open PySem PySem.Spec L2
structure a4D where
 nx:Env→Nat→Prop
 rt:PV→Nat→Prop
 bk:Env→Nat→Prop:=fun _ _=>False
 ct:Env→Nat→Prop:=fun _ _=>False
abbrev pS:=a4D→Env→Nat→Prop
structure Ext (G:Gh)(H:Hp)(G':Gh)(H':Hp):Prop where
 keep:∀b o,b∉G.M→H b=some o→H' b=some o
 new:∀a∈G'.M,a∈G.M∨H a=none
 pot:∀(k:Nat) (p:Addr),G.pots[k]?=some p→G'.pots[k]?=some p
theorem Ext.refl {G:Gh}{H:Hp}:Ext G H G H:=⟨fun _ _ _ e=>e,fun _ h=>.inl h,fun _ _ e=>e⟩
theorem Ext.fr {G:Gh}{H H':Hp}(f:Fr G H H'):Ext G H G H':=⟨f,fun _ h=>.inl h,fun _ _ e=>e⟩
theorem Ext.trans {G G1 G2:Gh}{H H1 H2:Hp}(a:Ext G H G1 H1)(b:Ext G1 H1 G2 H2):Ext G H G2 H2 where
 keep c o hc e:=b.keep c o (fun z=>(a.new c z).elim hc fun z=>by rw [z] at e;cases e) (a.keep c o hc e)
 new c hc:=(b.new c hc).elim (fun z=>a.new c z) fun z=>by
   by_cases hM:c∈G.M
   · exact .inl hM
   · refine .inr ?_;cases e:H c with
     | none=>rfl
     | some o=>rw [a.keep c o hM e] at z;cases z
 pot k p e:=b.pot k p (a.pot k p e)
structure Link (C:Ct)(G:Gh)(H:Hp)(PD:a4D)(D:Ends):Prop where
 nx:∀env n G' σ H',PD.nx env n→SR C G' σ H' env n→Ext G H G' H'→D.nx σ H'
 rt:∀x n v G' σ H' env,PD.rt x n→SR C G' σ H' env n→Rep C.K ⟨C.M0,G'.pots⟩ H' x v→Ext G H G' H'→D.rt v H'
 bk:∀env n G' σ H',PD.bk env n→SR C G' σ H' env n→Ext G H G' H'→D.bk σ H'
 ct:∀env n G' σ H',PD.ct env n→SR C G' σ H' env n→Ext G H G' H'→D.ct σ H'
theorem Link.ext {C:Ct}{G G':Gh}{H H':Hp}{PD:a4D}{D:Ends}(L:Link C G H PD D)(x:Ext G H G' H'):Link C G' H' PD D:=
 ⟨fun env n G2 σ H2 p S e=>L.nx env n G2 σ H2 p S (x.trans e),fun y n v G2 σ H2 env p S r e=>L.rt y n v G2 σ H2 env p S r (x.trans e),fun env n G2 σ H2 p S e=>L.bk env n G2 σ H2 p S (x.trans e),fun env n G2 σ H2 p S e=>L.ct env n G2 σ H2 p S (x.trans e)⟩
def SOk (K:PySem.W.Frag)(T:PotK)(np:Bool)(t:TS)(ps:pS):Prop:=∀(C:Ct) (G:Gh) (σ:St) (H:Hp) (env:Env) (n:Nat) (PD:a4D) (D:Ends),C.K=K→C.T=T→C.np=np→SR C G σ H env n→ps PD env n→Link C G H PD D→t D σ H
def QS {ι:Type}(T:PotK)(np:Bool)(K:PySem.W.Frag)(F:ι→Cx)(st:Stmt)(ps:pS):Prop:=∃t,(∀z,PS (F z) st t)∧SOk K T np t ps
def QSs {ι:Type}(T:PotK)(np:Bool)(K:PySem.W.Frag)(F:ι→Cx)(st:List Stmt)(ps:pS):Prop:=∃t,(∀z,PSs (F z) st t)∧SOk K T np t ps
theorem SR.out {C:Ct}{G:Gh}{σ:St}{H:Hp}{env:Env}{n:Nat}(S:SR C G σ H env n){x:PV}{v:V}(r:Rep C.K G H x v):Rep C.K ⟨C.M0,G.pots⟩ H x v:=
 Rep.mono (G':=⟨C.M0,G.pots⟩) (fun _ _ _ e=>e) (fun a ha=>.inl (S.sup a ha)) (fun _ _ e=>e) _ _ r
theorem SR.old {C:Ct}{G:Gh}{σ:St}{H:Hp}{env:Env}{n:Nat}(S:SR C G σ H env n){a:Addr}(h:H a=none):C.H0 a=none:=by
 cases z:C.H0 a with
 | none=>rfl
 | some o =>
   by_cases hp:a∈C.pots0
   · exact absurd (S.sup a (S.p0.1 a hp)) (S.fresh h)
   · have:=S.frame a o hp z;rw [h] at this;cases this
theorem SR.moreO {C:Ct}{G:Gh}{σ:St}{H:Hp}{env:Env}{n:Nat}(S:SR C G σ H env n){a:Addr}{ob:HO}(mo:MutO ob)(h:H a=none):SR C ⟨a::G.M,G.pots⟩ σ (upd H a ob) env n where
 frame b o hb e:=Same.lay1 h b o (S.frame b o hb e)
 sub b hb:=(List.mem_cons.mp hb).elim (fun z=>.inr (z▸S.old h)) (S.sub b)
 sup b hb:=List.mem_cons_of_mem _ (S.sup b hb)
 pots p hp:=⟨List.mem_cons_of_mem _ (S.pots p hp).1,by
   have h1:=C.T.more (M':=a::G.M) (S.pots p hp).2 (fun c hc=>(List.mem_cons.mp hc).elim (fun z=>.inr (z▸h)) .inl);obtain⟨o,e,_⟩:=C.T.mu h1
   exact C.T.keep h1 (by rw [e,Same.lay1 h p o e]) fun b o _ e=>Same.lay1 h b o e⟩
 pre:=S.pre
 mu b hb:=by
   rcases List.mem_cons.mp hb with rfl | hb
   · exact⟨_,a0g,mo⟩
   · obtain⟨o,e,m⟩:=S.mu b hb;exact⟨o,Same.lay1 h b o e,m⟩
 slots i s e:=by
   have mm:∀{x:PV} {v:V},Rep C.K G H x v→Rep C.K ⟨a::G.M,G.pots⟩ (upd H a ob) x v:=fun r=>Rep.mono (G':=⟨a::G.M,G.pots⟩) (H':=upd H a ob) (fun b o _ e=>Same.lay1 h b o e) (fun c hc=>(List.mem_cons.mp (show c∈a::G.M from hc)).elim (fun z=>.inr (z▸h)) .inl) (fun _ _ e=>e) _ _ r;have:=S.slots i s e;cases s with
   | v x =>
     obtain⟨v,e1,r⟩:=this;exact⟨v,e1,mm r⟩
   | ow kk xs =>
     obtain⟨b,us,e1,h1,h2,h3,h4,r⟩:=this;exact⟨b,us,e1,List.mem_cons_of_mem _ h1,h2,h3,Same.lay1 h _ _ h4,Reps.mono (G':=⟨a::G.M,G.pots⟩) (H':=upd H a ob) (fun b o _ e=>Same.lay1 h b o e) (fun c hc=>(List.mem_cons.mp (show c∈a::G.M from hc)).elim (fun z=>.inr (z▸h)) .inl) (fun _ _ e=>e) _ _ r⟩
 inj:=S.inj
 p0:=S.p0
 len:=S.len
 newp:=S.newp
theorem SR.more {C:Ct}{G:Gh}{σ:St}{H:Hp}{env:Env}{n:Nat}(S:SR C G σ H env n){a:Addr}{vs:List V}(h:H a=none):SR C ⟨a::G.M,G.pots⟩ σ (upd H a (.lst vs)) env n:=S.moreO (ob:=.lst vs) trivial h
theorem SR.ow {C:Ct}{G:Gh}{σ:St}{H:Hp}{env:Env}{n:Nat}(S:SR C G σ H env n)(i:Nat)(kk:OK){a:Addr}{xs:List PV}{vs:List V}(h:H a=none)(r:Reps C.K G H xs vs) :
   SR C ⟨a::G.M,G.pots⟩ (σ.set i (some (.ref a))) (upd H a (mkO kk vs)) (env.set i (some (.ow kk xs))) n:=by
 have S1:=S.moreO (a9M kk vs) h;have aM:a∉G.M:=S.fresh h;have r1:Reps C.K ⟨a::G.M,G.pots⟩ (upd H a (mkO kk vs)) xs vs:=Reps.mono (G':=⟨a::G.M,G.pots⟩) (H':=upd H a (mkO kk vs)) (fun b o _ e=>Same.lay1 h b o e) (fun c hc=>(List.mem_cons.mp (show c∈a::G.M from hc)).elim (fun z=>.inr (z▸h)) .inl) (fun _ _ e=>e) _ _ r
 have other:∀(j:Nat) (ys:OK×List PV),env[j]?=some (some (Slot.ow ys.1 ys.2))→σ[j]?≠some (some (.ref a)):=by
   intro j ys e z;obtain⟨b,us,e1,h1,_⟩:=S.slots j _ e;rw [z] at e1;cases e1;exact aM h1
 exact {
   frame:=S1.frame
   sub:=S1.sub
   sup:=S1.sup
   pots:=S1.pots
   pre:=S1.pre
   mu:=S1.mu
   slots:=fun j s e=>by
     by_cases hj:i=j
     · subst hj
       by_cases hl:i < env.length
       · rw [List.getElem?_set_self hl] at e;cases e;exact⟨a,vs,by rw [List.getElem?_set_self (by rw [← S.len];exact hl)],List.mem_cons_self,fun z=>aM (S.sup a z),fun z=>aM (S.pots a z).1,a0g,r1⟩
       · rw [List.getElem?_eq_none (by rw [List.length_set];omega)] at e;cases e
     · rw [List.getElem?_set_ne hj] at e ⊢;exact S1.slots j s e
   inj:=fun j k xs' ys b e1 e2 e3 e4=>by
     by_cases hj:i=j
     · by_cases hk:i=k
       · omega
       · subst hj;rw [List.getElem?_set_ne hk] at e2 e4
         by_cases hl:i < σ.length
         · rw [List.getElem?_set_self hl] at e3;cases e3;exact absurd e4 (other k ys e2)
         · rw [List.getElem?_eq_none (by rw [List.length_set];omega)] at e3;cases e3
     · rw [List.getElem?_set_ne hj] at e1 e3
       by_cases hk:i=k
       · subst hk
         by_cases hl:i < σ.length
         · rw [List.getElem?_set_self hl] at e4;cases e4;exact absurd e3 (other j xs' e1)
         · rw [List.getElem?_eq_none (by rw [List.length_set];omega)] at e4;cases e4
       · rw [List.getElem?_set_ne hk] at e2 e4;exact S.inj j k xs' ys b e1 e2 e3 e4
   p0:=S.p0
   len:=by rw [List.length_set,List.length_set];exact S.len
   newp:=S.newp }
theorem SR.own {C:Ct}{G:Gh}{σ:St}{H:Hp}{env:Env}{n:Nat}(S:SR C G σ H env n)(i:Nat){a:Addr}{xs:List PV}{vs:List V}(h:H a=none)(r:Reps C.K G H xs vs) :
   SR C ⟨a::G.M,G.pots⟩ (σ.set i (some (.ref a))) (upd H a (.lst vs)) (env.set i (some (.ow .lst xs))) n:=S.ow i .lst h r
theorem SR.putO {C:Ct}{G:Gh}{σ:St}{H:Hp}{env:Env}{n:Nat}(S:SR C G σ H env n){i:Nat}{kk:OK}(k':OK){a:Addr}{xs ys:List PV}{vs:List V}(e:env[i]?=some (some (.ow kk xs)))(ea:σ[i]?=some (some (.ref a)))(r:Reps C.K G H ys vs) :
   SR C G σ (upd H a (mkO k' vs)) (env.set i (some (.ow k' ys))) n∧Fr G H (upd H a (mkO k' vs)):=by
 obtain⟨a',us,ea',aM,a0,ap,eH,_⟩:=S.slots i _ e;rw [ea] at ea';cases ea';have f:Fr G H (upd H a (mkO k' vs)):=fun b o hb he=>by rw [a0j (fun z=>hb (by rw [z];exact aM))];exact he
 refine⟨{
   frame:=fun b o hb he=>?_
   sub:=S.sub
   sup:=S.sup
   pots:=fun p hp=>⟨(S.pots p hp).1,C.T.keep (S.pots p hp).2 (a0j fun z=>ap (by rw [← z];exact hp)) f⟩
   pre:=S.pre
   mu:=fun b hb=>?_
   slots:=fun j s es=>?_
   inj:=fun j k xs' ys' b e1 e2 e3 e4=>?_
   p0:=S.p0
   len:=by rw [List.length_set];exact S.len
   newp:=S.newp },f⟩
 · have hb2:b≠a:=fun z=>by
     rcases S.sub a aM with z2 | z2
     · exact a0 z2
     · rw [z,z2] at he;cases he
   rw [a0j hb2];exact S.frame b o hb he
 · by_cases hba:b=a
   · subst hba;exact⟨_,a0g,a9M k' vs⟩
   · obtain⟨o,he,m⟩:=S.mu b hb;exact⟨o,by rw [a0j hba];exact he,m⟩
 · by_cases hj:i=j
   · subst hj;have hl:i < env.length:=(List.getElem?_eq_some_iff.mp e).1;rw [List.getElem?_set_self hl] at es;cases es;exact⟨a,vs,ea,aM,a0,ap,a0g,r.fr f⟩
   · rw [List.getElem?_set_ne hj] at es;have:=S.slots j s es;cases s with
     | v x =>
       obtain⟨v,e1,r⟩:=this;exact⟨v,e1,r.fr f⟩
     | ow kz zs =>
       obtain⟨b,us',e1,h1,h2,h3,h4,r⟩:=this;have hba:b≠a:=fun z=>hj (S.inj i j (kk,xs) (kz,zs) a e es ea (by rw [e1,z]));exact⟨b,us',e1,h1,h2,h3,by rw [a0j hba];exact h4,r.fr f⟩
 · have back:∀(j:Nat) (zs:OK×List PV),(env.set i (some (.ow k' ys)))[j]?=some (some (Slot.ow zs.1 zs.2))→∃zs':OK×List PV,env[j]?=some (some (.ow zs'.1 zs'.2)):=by
     intro j zs h
     by_cases hj:i=j
     · subst hj;exact⟨(kk,xs),e⟩
     · rw [List.getElem?_set_ne hj] at h;exact⟨zs,h⟩
   obtain⟨z1,e1'⟩:=back j xs' e1;obtain⟨z2,e2'⟩:=back k ys' e2;exact S.inj j k z1 z2 b e1' e2' e3 e4
theorem SR.put {C:Ct}{G:Gh}{σ:St}{H:Hp}{env:Env}{n:Nat}(S:SR C G σ H env n){i:Nat}{a:Addr}{xs ys:List PV}{vs:List V}(e:env[i]?=some (some (.ow .lst xs)))(ea:σ[i]?=some (some (.ref a)))(r:Reps C.K G H ys vs) :
   SR C G σ (upd H a (.lst vs)) (env.set i (some (.ow .lst ys))) n∧Fr G H (upd H a (.lst vs)):=S.putO .lst e ea r
section
variable {T:PotK}{np:Bool}{ι:Type}{K:PySem.W.Frag}{F:ι→Cx}{e a b c:Expr}{es:List Expr}{st:Stmt}{rest:List Stmt}{pe pa pb pc:pE}{pos:Pos}{pl pr:pA}{pg:pG}{pt:pT}{p1 p2:pS}
def qNx:pS:=fun D env n=>D.nx env n
def qSeq (p q:pS):pS:=fun D env n=>p { D with nx:=fun e m=>q D e m } env n
theorem a0S:QSs T np K F [] qNx:=⟨_,fun _=>a6w,fun C G σ H env n PD D hK hT hn S hp L=>L.nx _ _ _ _ _ hp S Ext.refl⟩
theorem a0i (h:QS T np K F st p1):QSs T np K F [st] p1:=let ⟨t,h1,h2⟩:=h;⟨t,fun z=>a3Y (h1 z),h2⟩
theorem a0d (h:QS T np K F st p1)(h':QSs T np K F rest p2):QSs T np K F (st::rest) (qSeq p1 p2):=by
 obtain⟨t,a1,a2⟩:=h;obtain⟨u,b1,b2⟩:=h';refine⟨_,fun z=>a1k (a1 z) (b1 z),fun C G σ H env n PD D hK hT hn S hp L=>?_⟩;refine a2 C G σ H env n _ _ hK hT hn S hp ⟨fun env1 n1 G1 σ1 H1 q1 S1 x1=>?_,L.rt,L.bk,L.ct⟩;exact b2 C G1 σ1 H1 env1 n1 PD D hK hT hn S1 q1 (L.ext x1)
theorem a0x {X:Cx}{i:Nat}{x:Str}{e:Expr}{pos' pos:Pos}(hN:X.N.Nodup)(hi:X.N[i]?=some x)(hx:Loc X.env.scope x)(hs:swapsWith e (some (.Name x pos')) pos.line X.env=pure false:=by rfl)(hf:X.fn x=true∨X.env.scope.names.lookup x=some .local:=by first | exact .inl rfl | exact .inr rfl | assumption)(te:TE)(h:EW X e te):SW X (.Assign [.Name x pos'] e pos) (tAsg te (a1P i)):=⟨a9s hN hi hx h.h hs hf⟩
theorem a1s {X:Cx}{tg e:Expr}{pos:Pos}(hs:swapsWithSole [tg] e pos.line X.env=pure false:=by rfl)(hw:swappedStores [tg] e X.env=pure none:=by rfl)(h1:(assignEach [tg] X.env).map (·.2)=[assign tg X.env]:=by rfl)(te:TE)(g:TG)(h:EW X e te)(hg:GW X tg g):SW X (.Assign [tg] e pos) (tAsg te g):=⟨ps_asg h.h hg.h hs hw h1⟩
theorem a1m {X:Cx}{e:Expr}{pos:Pos}(hs:swapsWith e none pos.line X.env=pure false:=by rfl)(te:TE)(h:EW X e te):SW X (.Expr e pos) (b3f te):=⟨b3u h.h hs⟩
def qSet (i:Nat)(pe:pE):pS:=fun D env n=>pe env n fun x env1 n1=>D.nx (env1.set i (some (.v x))) n1
theorem a0B (i:Nat)(h:∀z te,EW (F z) e te→SW (F z) st (tAsg te (a1P i)))(he:QE T K F e pe):QS T np K F st (qSet i pe):=by
 obtain⟨t,a1,a2⟩:=he;refine⟨_,fun z=>(h z _ ⟨a1 z⟩).h,fun C G σ H env n PD D hK hT hn S hp L=>?_⟩;refine a2 C G σ H env n _ _ hK hT S hp fun x env1 n1 v H1 q1 S1 r1 f1=>?_;exact L.nx _ _ _ _ _ q1 (S1.set i (hK▸r1)) (Ext.fr f1)
def qOwn (i:Nat)(pn:pA):pS:=fun D env n=>pn env n fun xs env1 n1=>D.nx (env1.set i (some (.ow .lst xs))) n1
theorem a5p {G:Gh}{H:Hp}{a:Addr}{o:HO}(h:H a=none):Ext G H ⟨a::G.M,G.pots⟩ (upd H a o):=⟨fun b u _ e=>Same.lay1 h b u e,fun c hc=>(List.mem_cons.mp (show c∈a::G.M from hc)).elim (fun z=>.inr (z▸h)) .inl,fun _ _ e=>e⟩
theorem a7s (i:Nat)(h:∀z te,EW (F z) e te→SW (F z) st (tAsg te (a1P i)))(he:QN T K F e pl):QS T np K F st (qOwn i pl):=by
 obtain⟨t,a1,a2⟩:=he;refine⟨_,fun z=>(h z _ ⟨a1 z⟩).h,fun C G σ H env n PD D hK hT hn S hp L=>?_⟩;refine a2 C G σ H env n _ _ hK hT S hp fun xs env1 n1 a vs Hb q1 S1 f1 hn1 r1=>?_;exact L.nx _ _ _ _ _ q1 (S1.own i hn1 (hK▸r1)) ((Ext.fr f1).trans (a5p hn1))
def qAsg (pe:pE)(g:pG):pS:=fun D env n=>pe env n fun x env1 n1=>g x env1 fun env2=>D.nx env2 n1
theorem a3S {tg:Expr}(h:∀z te g,EW (F z) e te→GW (F z) tg g→SW (F z) st (tAsg te g))(he:QE T K F e pe)(hg:QG K F tg pg):QS T np K F st (qAsg pe pg):=by
 obtain⟨t,a1,a2⟩:=he;obtain⟨g,b1,b2⟩:=hg;refine⟨_,fun z=>(h z _ _ ⟨a1 z⟩ ⟨b1 z⟩).h,fun C G σ H env n PD D hK hT hn S hp L=>?_⟩;refine a2 C G σ H env n _ _ hK hT S hp fun x env1 n1 v H1 q1 S1 r1 f1=>?_;exact b2 C G σ H1 env1 n1 x v _ _ hK S1 r1 q1 fun env' σ' re S'=>L.nx _ _ _ _ _ re S' (Ext.fr f1)
def a2t (pe:pE):pS:=fun D env n=>pe env n fun _ env1 n1=>D.nx env1 n1
theorem a1n (h:∀z te,EW (F z) e te→SW (F z) st (b3f te))(he:QE T K F e pe):QS T np K F st (a2t pe):=by
 obtain⟨t,a1,a2⟩:=he;refine⟨_,fun z=>(h z _ ⟨a1 z⟩).h,fun C G σ H env n PD D hK hT hn S hp L=>?_⟩;exact a2 C G σ H env n _ _ hK hT S hp fun x env1 n1 v H1 q1 S1 r1 f1=>L.nx _ _ _ _ _ q1 S1 (Ext.fr f1)
def qRet (pe:pE):pS:=fun D env n=>pe env n fun x _ n1=>D.rt x n1
theorem a0t (he:QE T K F e pe):QS T np K F (.Return (some e) pos) (qRet pe):=by
 obtain⟨t,a1,a2⟩:=he;refine⟨_,fun z=>a5H (a1 z),fun C G σ H env n PD D hK hT hn S hp L=>?_⟩;exact a2 C G σ H env n _ _ hK hT S hp fun x env1 n1 v H1 q1 S1 r1 f1=>L.rt _ _ _ _ _ _ _ q1 S1 (S1.out (hK▸r1)) (Ext.fr f1)
def b1z (i:Nat):pS:=fun D env n=>match env[i]? with | some (some (.ow .lst xs))=>D.rt (.lst xs) n | _=>False
theorem b3l (i:Nat){x:Str}{p:Pos}(h:∀z,EW (F z) (.Name x p) (tVar i)):QS T np K F (.Return (some (.Name x p)) pos) (b1z i):=by
 refine⟨_,fun z=>a5H (h z).h,fun C G σ H env n PD D hK hT hn S hp L=>?_⟩;unfold b1z at hp
 split at hp
 · rename_i xs ex;obtain⟨a,vs,ev,h1,h2,h3,h4,r⟩:=S.slots i _ ex;refine⟨.ref a,ev,L.rt _ _ _ _ _ _ _ hp S ⟨a,vs,rfl,⟨h2,h4⟩,?_⟩ Ext.refl⟩;exact Reps.mono (G':=⟨C.M0,G.pots⟩) (fun _ _ _ e=>e) (fun a ha=>.inl (S.sup a ha)) (fun _ _ e=>e) _ _ r
 · exact hp.elim
def qIfS (t:pT)(p q:pS):pS:=fun D env n=>t env n fun b env1 n1=>if b=true then p D env1 n1 else q D env1 n1
theorem a1F {x y:List Stmt}(hc:QT T K F c pt)(h1:QSs T np K F x p1)(h2:QSs T np K F y p2):QS T np K F (.If c x y pos) (qIfS pt p1 p2):=by
 obtain⟨tc,c1,c2⟩:=hc;obtain⟨t,a1,a2⟩:=h1;obtain⟨u,b1,b2⟩:=h2;refine⟨_,fun z=>b3t (c1 z) (a1 z) (b1 z),fun C G σ H env n PD D hK hT hn S hp L=>?_⟩;refine c2 C G σ H env n _ _ hK hT S hp fun d env1 n1 H1 q1 S1 f1=>?_;cases d with
 | true=>exact a2 C G σ H1 env1 n1 PD D hK hT hn S1 q1 (L.ext (Ext.fr f1))
 | false=>exact b2 C G σ H1 env1 n1 PD D hK hT hn S1 q1 (L.ext (Ext.fr f1))
def forL (g:pG)(b:pS)(D:a4D):List PV→Env→Nat→Prop
 | [],env,n=>D.nx env n
 | x::xs,env,n=>g x env fun env1=>b { D with nx:=fun e m=>forL g b D xs e m,ct:=fun e m=>forL g b D xs e m,bk:=D.nx } env1 n
def qFor (pi:pA)(g:pG)(b:pS):pS:=fun D env n=>pi env n fun xs env1 n1=>forL g b D xs env1 n1
theorem a1t {tg iter:Expr}{body:List Stmt}(hc:∀z,(F z).calm=true)(hi:QI T K F tg iter pl)(hg:QG K F tg pg)(hb:QSs T np K F body p1)(hp:∀z,PassesOwn (model (F z).prog (F z).w) (F z).A (F z).env (F z).xe:=by intro _;exact PassesOwn.never)(hs:∀z x,foldedSetIterable iter (F z).env x=pure x:=by intro _ _;rfl):QS T np K F (.For tg iter body [] pos) (qFor pl pg p1):=by
 obtain⟨wi,i1,i2⟩:=hi;obtain⟨g,g1,g2⟩:=hg;obtain⟨t,b1,b2⟩:=hb;refine⟨_,fun z=>ps_for (hp z) (hc z) (i1 z) (g1 z) (b1 z) (hs z),fun C G σ H env n PD D hK hT hn S hp L=>?_⟩;refine i2 C G σ H env n _ _ hK hT S hp fun xs env1 n1 J H1 q1 S1 f1 hJ=>?_;have L1:=L.ext (Ext.fr f1);refine⟨fun i m σ H=>m=xs.length - i∧i≤xs.length∧∃G' env n,SR C G' σ H env n∧Ext G H1 G' H∧forL pg p1 PD (xs.drop i) env n,⟨xs.length,by simp,Nat.zero_le _,G,env1,n1,S1,Ext.refl,by simpa using q1⟩,?_⟩;rintro i m σ' H' ⟨rfl,hi,G',env',n',S',x',q'⟩;have hf:∀p,H' p=none→p∉G'.M:=fun p hp=>S'.fresh hp;obtain⟨hgo,hstop⟩:=hJ G' H' x'.keep x'.new x'.pot hf
 by_cases hlt:i < xs.length
 · obtain⟨go1,go2⟩:=hgo i _ (List.getElem?_eq_getElem hlt);rw [List.drop_eq_getElem_cons hlt] at q';refine .inr ⟨go1,fun σ H=>∃G' env n,SR C G' σ H env n∧Ext G H1 G' H∧forL pg p1 PD (xs.drop (i + 1)) env n,fun σ2 H2 h2=>⟨xs.length - (i + 1),by omega,rfl,hlt,h2⟩,fun v H2 y=>?_⟩;obtain⟨s2,rv⟩:=go2 v H2 y;have x2:Ext G' H' G' H2:=Ext.fr (Fr.of s2);refine g2 C G' σ' H2 env' n' _ v _ _ hK (S'.same s2) rv q' fun env2 σ2 q2 S2=>?_;refine b2 C G' σ2 H2 env2 n' _ _ hK hT hn S2 q2 ⟨fun e3 n3 G3 σ3 H3 q3 S3 x3=>?_,fun y n3 v G3 σ3 H3 e3 q3 S3 r3 x3=>?_,fun e3 n3 G3 σ3 H3 q3 S3 x3=>?_,fun e3 n3 G3 σ3 H3 q3 S3 x3=>?_⟩
   · exact⟨G3,e3,n3,S3,(x'.trans x2).trans x3,q3⟩
   · exact L1.rt _ _ _ _ _ _ _ q3 S3 r3 ((x'.trans x2).trans x3)
   · exact L1.nx _ _ _ _ _ q3 S3 ((x'.trans x2).trans x3)
   · exact⟨G3,e3,n3,S3,(x'.trans x2).trans x3,q3⟩
 · have ei:i=xs.length:=by omega
   subst ei;rw [List.drop_length] at q';exact .inl ⟨hstop _ (Nat.le_refl _),L1.nx _ _ _ _ _ q' S' x'⟩
def a2I (t:pT)(b:pS)(D:a4D):Nat→Env→Nat→Prop
 | 0,_,_=>False
 | k + 1,env,n=>t env n fun c env1 n1=>if c=true then b { D with nx:=fun e m=>a2I t b D k e m,ct:=fun e m=>a2I t b D k e m,bk:=D.nx } env1 n1 else D.nx env1 n1
def b2A (t:pT)(b:pS):pS:=fun D env n=>∃k,a2I t b D k env n
theorem b1t {body:List Stmt}(hc:QT T K F c pt)(hb:QSs T np K F body p1)(hp:∀z,PassesOwn (model (F z).prog (F z).w) (F z).A (F z).env (F z).xe:=by intro _;exact PassesOwn.never):QS T np K F (.While c body [] pos) (b2A pt p1):=by
 obtain⟨tc,c1,c2⟩:=hc;obtain⟨t,b1,b2⟩:=hb;refine⟨_,fun z=>b1C (hp z) (c1 z) (b1 z),fun C G σ H env n PD D hK hT hn S hp L=>?_⟩;obtain⟨k,hp⟩:=hp;refine⟨fun m σ H'=>∃G' env n,SR C G' σ H' env n∧Ext G H G' H'∧a2I pt p1 PD m env n,⟨k,G,env,n,S,Ext.refl,hp⟩,?_⟩;rintro m σ1 H1 ⟨G1,env1,n1,S1,x1,q1⟩;cases m with
 | zero=>exact q1.elim
 | succ m =>
   refine c2 C G1 σ1 H1 env1 n1 _ _ hK hT S1 q1 fun d env2 n2 H2 q2 S2 f2=>?_;have x2:=x1.trans (Ext.fr f2);cases d with
   | false=>exact iteF (L.nx _ _ _ _ _ q2 S2 x2)
   | true =>
     refine iteT ⟨fun σ H'=>∃G' env n,SR C G' σ H' env n∧Ext G H G' H'∧a2I pt p1 PD m env n,fun σ' H' h=>⟨m,by omega,h⟩,?_⟩;exact b2 C G1 σ1 H2 env2 n2 _ _ hK hT hn S2 q2 ⟨fun e3 n3 G3 σ3 H3 q3 S3 x3=>⟨G3,e3,n3,S3,x2.trans x3,q3⟩,fun y n3 v G3 σ3 H3 e3 q3 S3 r3 x3=>L.rt _ _ _ _ _ _ _ q3 S3 r3 (x2.trans x3),fun e3 n3 G3 σ3 H3 q3 S3 x3=>L.nx _ _ _ _ _ q3 S3 (x2.trans x3),fun e3 n3 G3 σ3 H3 q3 S3 x3=>⟨G3,e3,n3,S3,x2.trans x3,q3⟩⟩
def a6v (i:Nat)(pe:pE):pE:=fun env n R=>pe env n fun y env1 n1=>match env1[i]? with | some (some (.ow .lst xs))=>xs.length < 1000000∧R .non (env1.set i (some (.ow .lst (xs++[y])))) n1 | _=>False
theorem a0Z (i:Nat){x:Str}{p ap:Pos}(hv:∀z,EW (F z) (.Name x p) (tVar i))(he:QE T K F e pe)(hs:a0C e=true:=by rfl)(hbase:∀z,attributeBase (.Name x p) "append" (F z).env (eval (.Name x p) (F z).env)=eval (.Name x p) (F z).env:=by intro _;rfl)(hline:(ap.endLine == pos.line)=true:=by rfl)
   (hfew:∀z,((backTo pos (starEach [e] (F z).env)).all (fun x=>!x.1) && (backToKw pos (keywordEach [] (F z).env)).all (fun x=>x.1.isSome) && decide (([e]:List Expr).length + ([]:List Keyword).length + (if([]:List Keyword).isEmpty then 0 else 1) < 30))=true:=by intro _;rfl) (hK:∀z,(F z).K=K:=by intro _;rfl):QE T K F (.Call (.Attribute (.Name x p) "append" ap) [e] [] pos) (fun env n R=>(∃xs,env[i]?=some (some (.ow .lst xs)))∧a6v i pe env n R):=by
 obtain⟨t,a1,a2⟩:=he;refine⟨tBM K "list" a9f (tVar i) (a3L t tNil),fun z=>hK z▸b1H PySem.F.plainAttrs_list PySem.F.slot_list_append PySem.F.type_list_append a2R (hv z).h (a0r (a1 z) a0K (a0e hs)) (hbase z) (hfew z) hline (a0e hs),fun C G σ H env n R Q hK hT S hp k=>?_⟩;obtain⟨⟨xs0,e0⟩,hp⟩:=hp;obtain⟨a,vs,ev,h1,h2,h3,h4,r⟩:=S.slots i _ e0;refine⟨.ref a,ev,.inl ⟨rfl,vs,SqL.of h4⟩,?_⟩;refine a2 C G σ H env n _ _ hK hT S hp fun y env1 n1 v H1 q1 S1 r1 f1=>?_
 split at q1
 · rename_i xs ex;obtain⟨a',us,ev',g1,g2,g3,g4,r'⟩:=S1.slots i _ ex;rw [ev] at ev';cases ev';subst hK;obtain⟨S2,f2⟩:=S1.put ex ev (r'.append (.one r1));exact⟨a,us,v,rfl,rfl,g4,by rw [← r'.length];exact mil' (by omega),k _ _ _ _ _ q1.2 S2 rfl (f1.trans f2)⟩
 · exact q1.elim
def qPop (i:Nat):pE:=fun env n R=>match env[i]? with | some (some (.ow .lst xs))=>(match xs[xs.length - 1]? with | some y=>R y (env.set i (some (.ow .lst xs.dropLast))) n | none=>False) | _=>False
theorem a4X {K:PySem.W.Frag}{G:Gh}{H:Hp}{xs:List PV}{vs:List V}(r:Reps K G H xs vs):Reps K G H xs.dropLast vs.dropLast:=by
 rw [List.dropLast_eq_take,List.dropLast_eq_take,← r.length];exact r.take _
theorem a9l (i:Nat){x:Str}{p ap:Pos}(hv:∀z,EW (F z) (.Name x p) (tVar i))(hbase:∀z,attributeBase (.Name x p) "pop" (F z).env (eval (.Name x p) (F z).env)=eval (.Name x p) (F z).env:=by intro _;rfl)(hline:(ap.endLine == pos.line)=true:=by rfl)(hK:∀z,(F z).K=K:=by intro _;rfl):QE T K F (.Call (.Attribute (.Name x p) "pop" ap) [] [] pos) (qPop i):=by
 refine⟨tBM0 K "list" rPop (tVar i),fun z=>hK z▸pe_bm0 PySem.F.plainAttrs_list PySem.F.slot_list_pop PySem.F.type_list_pop mt_pop (hv z).h (hbase z) hline,fun C G σ H env n R Q hK hT S hp k=>?_⟩;unfold qPop at hp
 split at hp
 · rename_i xs ex
   split at hp
   · rename_i y ey;obtain⟨a,vs,ev,h1,h2,h3,h4,r⟩:=S.slots i _ ex;obtain⟨v,e1,rv⟩:=r.get' ey;obtain⟨S2,f2⟩:=S.put ex ev (a4X r);subst hK;exact⟨.ref a,ev,.inl ⟨rfl,vs,SqL.of h4⟩,a,vs,v,rfl,rfl,h4,by rw [← r.length];exact e1,k _ _ _ _ _ hp S2 (rv.fr f2) f2⟩
   · exact hp.elim
 · exact hp.elim
end
end Pu
end
section
set_option maxHeartbeats 1000000
namespace Pu
open PySem PySem.Spec L2
abbrev pSl:=Env→Nat→(Slot→Env→Nat→Prop)→Prop
def b0Y (σ:St)(env:Env)(a:Addr):Prop:=∃(j:Nat) (ys:OK×List PV),env[j]?=some (some (.ow ys.1 ys.2))∧σ[j]?=some (some (.ref a))
theorem SR.slot {C:Ct}{G:Gh}{σ:St}{H:Hp}{env:Env}{n:Nat}(S:SR C G σ H env n)(i:Nat){s:Slot}{v:V}(r:b0W C G H (some (some v)) s)(h:∀(xs:OK×List PV) a,s=.ow xs.1 xs.2→v=.ref a→¬b0Y σ env a):SR C G (σ.set i (some v)) H (env.set i (some s)) n where
 frame:=S.frame
 sub:=S.sub
 sup:=S.sup
 pots:=S.pots
 pre:=S.pre
 mu:=S.mu
 slots j t e:=by
   by_cases hj:i=j
   · subst hj
     by_cases hl:i < env.length
     · rw [List.getElem?_set_self hl] at e;cases e;rw [List.getElem?_set_self (by rw [← S.len];exact hl)];exact r
     · rw [List.getElem?_eq_none (by rw [List.length_set];omega)] at e;cases e
   · rw [List.getElem?_set_ne hj] at e ⊢;exact S.slots j t e
 inj j k xs ys b e1 e2 e3 e4:=by
   by_cases hj:i=j
   · by_cases hk:i=k
     · omega
     · subst hj;rw [List.getElem?_set_ne hk] at e2 e4
       by_cases hl:i < env.length
       · rw [List.getElem?_set_self hl] at e1;rw [List.getElem?_set_self (by rw [← S.len];exact hl)] at e3;cases e1;cases e3;exact absurd ⟨k,ys,e2,e4⟩ (h xs b rfl rfl)
       · rw [List.getElem?_eq_none (by rw [List.length_set];omega)] at e1;cases e1
   · rw [List.getElem?_set_ne hj] at e1 e3
     by_cases hk:i=k
     · subst hk
       by_cases hl:i < env.length
       · rw [List.getElem?_set_self hl] at e2;rw [List.getElem?_set_self (by rw [← S.len];exact hl)] at e4;cases e2;cases e4;exact absurd ⟨j,xs,e1,e3⟩ (h ys b rfl rfl)
       · rw [List.getElem?_eq_none (by rw [List.length_set];omega)] at e2;cases e2
     · rw [List.getElem?_set_ne hk] at e2 e4;exact S.inj j k xs ys b e1 e2 e3 e4
 p0:=S.p0
 len:=by rw [List.length_set,List.length_set];exact S.len
 newp:=S.newp
def Ct.guard (C:Ct)(a:Addr)(vs:List V):Ct:={ C with M0:=a::C.M0,H0:=upd C.H0 a (.lst vs) }
theorem SR.guard {C:Ct}{G:Gh}{σ:St}{H:Hp}{env:Env}{n:Nat}(S:SR C G σ H env n){a:Addr}(vs:List V)(h:H a=none):SR (C.guard a vs) ⟨a::G.M,G.pots⟩ σ (upd H a (.lst vs)) env n:=by
 have S1:=S.more (vs:=vs) h;have aM:=S.fresh h
 exact {
   frame:=fun b o hb e=>by
     by_cases hba:b=a
     · subst hba;have e':upd C.H0 b (.lst vs) b=some o:=e;rw [a0g] at e' ⊢;exact e'
     · have e':upd C.H0 a (.lst vs) b=some o:=e;rw [a0j hba] at e';exact S1.frame b o hb e'
   sub:=fun b hb=>by
     by_cases hba:b=a
     · exact .inl (by rw [hba];exact List.mem_cons_self)
     · rcases S1.sub b hb with z | z
       · exact .inl (List.mem_cons_of_mem _ z)
       · refine .inr ?_;show upd C.H0 a (.lst vs) b=none;rw [a0j hba];exact z
   sup:=fun b hb=>by
     rcases List.mem_cons.mp (show b∈a::C.M0 from hb) with rfl | z
     · exact List.mem_cons_self
     · exact S1.sup b z
   pots:=S1.pots
   pre:=S1.pre
   mu:=S1.mu
   slots:=fun i s e=>by
     cases s with
     | v x =>
       obtain⟨v,ev,r⟩:=S1.slots i _ e;exact⟨v,ev,r⟩
     | ow kk xs =>
       obtain⟨b,us,ev,h1,h2,h3,h4,r⟩:=S1.slots i _ e;obtain⟨b',us',ev',g1,_⟩:=S.slots i _ e;rw [ev] at ev';cases ev';refine⟨b,us,ev,h1,fun z=>?_,h3,h4,r⟩;rcases List.mem_cons.mp (show b∈a::C.M0 from z) with rfl | z
       · exact aM g1
       · exact h2 z
   inj:=S1.inj
   p0:=⟨fun p hp=>List.mem_cons_of_mem _ (S1.p0.1 p hp),S1.p0.2⟩
   len:=S1.len
   newp:=fun p hp hn hM=>by
     rcases List.mem_cons.mp (show p∈a::C.M0 from hM) with rfl | z
     · exact aM (S.pots p hp).1
     · exact S1.newp p hp hn z }
theorem SR.unguard {C:Ct}{G:Gh}{σ:St}{H:Hp}{env:Env}{n:Nat}{a:Addr}{vs:List V}(S:SR (C.guard a vs) G σ H env n)(ha:a∉C.M0)(hp0:∀p∈C.pots0,p∈C.M0)(h0:C.H0 a=none):SR C G σ H env n∧H a=some (.lst vs)∧¬b0Y σ env a:=by
 have hap:a∉C.pots0:=fun z=>ha (hp0 a z)
 refine⟨{
   frame:=fun b o hb e=>S.frame b o hb (by
     show upd C.H0 a (.lst vs) b=some o
     rw [a0j (fun z=>by rw [z,h0] at e;cases e)];exact e)
   sub:=fun b hb=>by
     by_cases hba:b=a
     · exact .inr (hba▸h0)
     · rcases S.sub b hb with z | z
       · rcases List.mem_cons.mp (show b∈a::C.M0 from z) with z | z
         · exact absurd z hba
         · exact .inl z
       · have z':upd C.H0 a (.lst vs) b=none:=z;rw [a0j hba] at z';exact .inr z'
   sup:=fun b hb=>S.sup b (List.mem_cons_of_mem _ hb)
   pots:=S.pots
   pre:=S.pre
   mu:=S.mu
   slots:=fun i s e=>by
     cases s with
     | v x =>
       obtain⟨v,ev,r⟩:=S.slots i _ e;exact⟨v,ev,r⟩
     | ow kk xs =>
       obtain⟨b,us,ev,h1,h2,h3,h4,r⟩:=S.slots i _ e;exact⟨b,us,ev,h1,fun z=>h2 (List.mem_cons_of_mem _ z),h3,h4,r⟩
   inj:=S.inj
   p0:=⟨hp0,S.p0.2⟩
   len:=S.len
   newp:=fun p hp hn hM=>S.newp p hp hn (List.mem_cons_of_mem _ hM) },S.frame a _ hap a0g,?_⟩
 rintro⟨j,ys,e1,e2⟩;obtain⟨b,us,ev,h1,h2,_⟩:=S.slots j _ e1;rw [e2] at ev;cases ev;exact h2 List.mem_cons_self
def LOk (K:PySem.W.Frag)(T:PotK)(t:TE)(pl:pSl):Prop:=∀(C:Ct) (G:Gh) (σ:St) (H:Hp) (env:Env) (n:Nat) (R:Slot→Env→Nat→Prop) (Q:VK),C.K=K→C.T=T→SR C G σ H env n→pl env n R→
 (∀x env' n' v H',R (.v x) env' n'→SR C G σ H' env' n'→Rep K G H' x v→Fr G H H'→Q v H')→
 (∀xs env' n' a vs Hb,R (.ow .lst xs) env' n'→SR C G σ Hb env' n'→Fr G H Hb→Hb a=none→Reps K G Hb xs vs→Q (.ref a) (upd Hb a (.lst vs)))→t σ H Q
def QL {ι:Type}(T:PotK)(K:PySem.W.Frag)(F:ι→Cx)(e:Expr)(pl:pSl):Prop:=∃t,(∀z,PE (F z) e t)∧LOk K T t pl
def sV (pe:pE):pSl:=fun env n R=>pe env n fun x env1 n1=>R (.v x) env1 n1
def sO (pn:pA):pSl:=fun env n R=>pn env n fun xs env1 n1=>R (.ow .lst xs) env1 n1
section
variable {T:PotK}{np:Bool}{ι:Type}{K:PySem.W.Frag}{F:ι→Cx}{e a b c:Expr}{es:List Expr}{st:Stmt}{rest:List Stmt}{pe pa pb pc:pE}{pos:Pos}{pl pr:pA}{pg:pG}{pt:pT}{p1 p2:pS}{s1 s2 s3:pSl}
theorem ql_v (h:QE T K F e pe):QL T K F e (sV pe):=let ⟨t,h1,h2⟩:=h;⟨t,h1,fun C G σ H env n R Q hK hT S hp k _=>h2 C G σ H env n _ _ hK hT S hp fun x env' n' v H' r S' rp f=>k x env' n' v H' r S' rp f⟩
theorem ql_o (h:QN T K F e pl):QL T K F e (sO pl):=let ⟨t,h1,h2⟩:=h;⟨t,h1,fun C G σ H env n R Q hK hT S hp _ k=>h2 C G σ H env n _ _ hK hT S hp fun xs env' n' a vs Hb r S' f hn rs=>k xs env' n' a vs Hb r S' f hn rs⟩
def Got (C:Ct)(G:Gh)(H:Hp)(σ:St)(env:Env)(s:Slot)(v:V):Prop:=b0W C G H (some (some v)) s∧∀(xs:OK×List PV) a,s=.ow xs.1 xs.2→v=.ref a→¬b0Y σ env a
theorem a7F {t:TE}{C:Ct}{G:Gh}{σ:St}{H:Hp}{env:Env}{n:Nat}{R:Slot→Env→Nat→Prop}{Q:VK}(h:LOk K T t s1)(hK:C.K=K)(hT:C.T=T)(S:SR C G σ H env n)(hp:s1 env n R)
   (k:∀s env' n' v G' H',R s env' n'→SR C G' σ H' env' n'→Ext G H G' H'→Got C G' H' σ env' s v→Q v H'):t σ H Q:=by
 refine h C G σ H env n _ _ hK hT S hp (fun x env' n' v H' r S' rp f=>?_) fun xs env' n' a vs Hb r S' f hn rs=>?_
 · exact k _ _ _ _ _ _ r S' (Ext.fr f) ⟨⟨v,rfl,hK▸rp⟩,fun _ _ z=>nomatch z⟩
 · have aM:=S'.fresh hn;have S1:=S'.more (vs:=vs) hn;refine k _ _ _ _ _ _ r S1 ((Ext.fr f).trans (a5p hn)) ⟨⟨a,vs,rfl,List.mem_cons_self,fun z=>aM (S'.sup a z),fun z=>aM (S'.pots a z).1,a0g,?_⟩,fun ys b e1 e2=>?_⟩
   · exact Reps.mono (G':=⟨a::G.M,G.pots⟩) (H':=upd Hb a (.lst vs)) (fun b o _ e=>Same.lay1 hn b o e) (fun c hc=>(List.mem_cons.mp (show c∈a::G.M from hc)).elim (fun z=>.inr (z▸hn)) .inl) (fun _ _ e=>e) _ _ (hK▸rs)
   · cases e2;rintro⟨j,zs,z1,z2⟩;obtain⟨b,us,ev,g1,_⟩:=S'.slots j _ z1;rw [z2] at ev;cases ev;exact aM g1
theorem b0o {t u:TE}{C:Ct}{G:Gh}{σ:St}{H:Hp}{env:Env}{n:Nat}{R:Slot→Slot→Env→Nat→Prop}{Q:V→V→Hp→Prop}(h:LOk K T t s1)(h':LOk K T u s2)(hK:C.K=K)(hT:C.T=T)(S:SR C G σ H env n)(hp:s1 env n fun x env1 n1=>s2 env1 n1 fun y env2 n2=>R x y env2 n2)
   (k:∀x y env' n' v w G' H',R x y env' n'→SR C G' σ H' env' n'→Ext G H G' H'→Got C G' H' σ env' x v→Got C G' H' σ env' y w→(∀(xs ys:OK×List PV) a,x=.ow xs.1 xs.2→y=.ow ys.1 ys.2→v=.ref a→w≠.ref a)→Q v w H'):t σ H fun v H1=>u σ H1 fun w H2=>Q v w H2:=by
 refine h C G σ H env n _ _ hK hT S hp (fun x env1 n1 v H1 q1 S1 r1 f1=>?_) fun xs env1 n1 a vs Hb q1 S1 f1 hn rs=>?_
 · refine a7F h' hK hT S1 q1 fun y env2 n2 w G2 H2 q2 S2 x2 g2=>?_;exact k _ _ _ _ _ _ _ _ q2 S2 ((Ext.fr f1).trans x2) ⟨⟨v,rfl,Rep.mono x2.keep x2.new x2.pot _ _ (hK▸r1)⟩,fun _ _ z=>nomatch z⟩ g2 (fun _ _ _ z=>nomatch z)
 · have aM:=S1.fresh hn;have S1g:=S1.guard vs hn;have a0:a∉C.M0:=fun z=>aM (S1.sup a z);have aH:=S1.old hn;have x1:Ext G H ⟨a::G.M,G.pots⟩ (upd Hb a (.lst vs)):=(Ext.fr f1).trans (a5p hn);have r1:Reps C.K ⟨a::G.M,G.pots⟩ (upd Hb a (.lst vs)) xs vs:=Reps.mono (G':=⟨a::G.M,G.pots⟩) (H':=upd Hb a (.lst vs)) (fun b o _ e=>Same.lay1 hn b o e) (fun c hc=>(List.mem_cons.mp (show c∈a::G.M from hc)).elim (fun z=>.inr (z▸hn)) .inl) (fun _ _ e=>e) _ _ (hK▸rs);refine a7F (C:=C.guard a vs) h' hK hT S1g q1 fun y env2 n2 w G2 H2 q2 S2 x2 g2=>?_;obtain⟨S3,e3,no⟩:=S2.unguard a0 S1.p0.1 aH;have aM2:a∈G2.M:=S2.sup a List.mem_cons_self
   have ap2:a∉G2.pots:=fun z=>by
     by_cases hz:a∈C.pots0
     · exact a0 (S1.p0.1 a hz)
     · exact S2.newp a z hz List.mem_cons_self
   have gy:Got C G2 H2 σ env2 y w:=by
     refine⟨?_,g2.2⟩;cases y with
     | v x=>exact g2.1
     | ow kk ys =>
       obtain⟨b,us,ev,h1,h2,h3,h4,r⟩:=g2.1;exact⟨b,us,ev,h1,fun z=>h2 (List.mem_cons_of_mem _ z),h3,h4,r⟩
   refine k _ _ _ _ _ _ _ _ q2 S3 (x1.trans x2) ⟨⟨a,vs,rfl,aM2,a0,ap2,e3,Reps.mono x2.keep x2.new x2.pot _ _ r1⟩,fun _ _ _ e=>by cases e;exact no⟩ gy fun xs' ys b ex ey ev ew=>?_;subst ey;cases ev;obtain⟨b,us,ev,h1,h2,_⟩:=g2.1;rw [ew] at ev;cases ev;exact h2 List.mem_cons_self
structure AW (X:Cx)(es:List Expr)(t:TA):Prop where
 h:PA X es t
theorem a7l {X:Cx}{i j:Nat}{x y:Str}{a b:Expr}{px py pt:Pos}{kt k2 pt2}{pos:Pos}(hc:X.calm=true)(hN:X.N.Nodup)(hi:X.N[i]?=some x)(hj:X.N[j]?=some y)(hij:i≠j)
   (hx:X.env.scope.names.lookup x=some .local) (hy:X.env.scope.names.lookup y=some .local) (hw:swappedStores [.Tuple [.Name x px,.Name y py] kt pt] (.Tuple [a,b] k2 pt2) X.env=pure (some [x,y]))
   (hs:swapsWithSole [.Tuple [.Name x px,.Name y py] kt pt] (.Tuple [a,b] k2 pt2) pos.line X.env=pure false:=by rfl) (ta:TA) (h:AW X [a,b] ta) :
   SW X (.Assign [.Tuple [.Name x px,.Name y py] kt pt] (.Tuple [a,b] k2 pt2) pos) (tPar i j ta):=⟨ps_par hc hN hi hj hij hx hy h.h hw hs⟩
def qPar (i j:Nat)(s1 s2:pSl):pS:=fun D env n=>s1 env n fun a env1 n1=>s2 env1 n1 fun b env2 n2=>D.nx ((env2.set i (some a)).set j (some b)) n2
theorem a6C {σ:St}{env:Env}{i:Nat}{s:Slot}{v:V}{a:Addr}(hl:env.length=σ.length)(h:b0Y (σ.set i (some v)) (env.set i (some s)) a):b0Y σ env a∨((∃xs:OK×List PV,s=.ow xs.1 xs.2)∧v=.ref a):=by
 obtain⟨j,ys,e1,e2⟩:=h
 by_cases hj:i=j
 · subst hj
   by_cases hl':i < env.length
   · rw [List.getElem?_set_self hl'] at e1;rw [List.getElem?_set_self (by omega)] at e2;cases e1;cases e2;exact .inr ⟨⟨_,rfl⟩,rfl⟩
   · rw [List.getElem?_eq_none (by rw [List.length_set];omega)] at e1;cases e1
 · rw [List.getElem?_set_ne hj] at e1 e2;exact .inl ⟨j,ys,e1,e2⟩
theorem a7r (i j:Nat)(h:∀z ta,AW (F z) [a,b] ta→SW (F z) st (tPar i j ta))(h1:QL T K F a s1)(h2:QL T K F b s2)(n1:a0C a=true:=by rfl)(n2:a0C b=true:=by rfl):QS T np K F st (qPar i j s1 s2):=by
 obtain⟨t,a1,a2⟩:=h1;obtain⟨u,b1,b2⟩:=h2;refine⟨_,fun z=>(h z _ ⟨a0r (a1 z) (a0r (b1 z) a0K (a0e n2)) (a0e n1)⟩).h,fun C G σ H env n PD D hK hT hn S hp L=>?_⟩;refine b0o (Q:=fun v w H2=>∃v' w',[v,w]=[v',w']∧D.nx ((σ.set i (some v')).set j (some w')) H2) a2 b2 hK hT S hp fun x y env2 n2 v w G2 H2 q S2 x2 gx gy ne=>?_;refine⟨v,w,rfl,L.nx _ _ _ _ _ q ((S2.slot i gx.1 gx.2).slot j gy.1 fun ys b e1 e2 z=>?_) x2⟩;rcases a6C S2.len z with z | ⟨⟨xs,ex⟩,ev⟩
 · exact gy.2 ys b e1 e2 z
 · exact ne xs ys b ex e1 ev e2
theorem a6R {X:Cx}{i:Nat}{o ix:Expr}{pos:Pos}(ho:EW X o (tVar i))(ha:∀v,assign (.Subscript o ix pos) X.env v=(do
     let ov ← holding [v] (eval o X.env)
     let iv ← holding [v,ov] (eval ix X.env)
     standAt pos
     holding [v,ov,iv] (setItem ov iv v)
     release [v,ov,iv] []):=by intro _;rfl) (ti:TE) (hi:EW X ix ti):GW X (.Subscript o ix pos) (gSub (tVar i) ti a9d):=⟨pg_sub ho.h hi.h b1m ha⟩
def gAt (i:Nat)(pe:pE):PV→Env→Nat→(Env→Nat→Prop)→Prop:=fun x env n R=>pe env n fun y env1 n1=>match env1[i]?,y with | some (some (.ow .lst xs)),.int d=>(match ixN xs.length d with | some j=>R (env1.set i (some (.ow .lst (xs.set j x)))) n1 | none=>False) | _,_=>False
def qPut (i:Nat)(pv:pE)(pe:pE):pS:=fun D env n=>pv env n fun x env1 n1=>(∃xs,env1[i]?=some (some (.ow .lst xs)))∧gAt i pe x env1 n1 D.nx
theorem a5E (i:Nat){v o ix:Expr}{pv:pE}(h:∀z te g,EW (F z) v te→GW (F z) (.Subscript o ix pos) g→SW (F z) st (tAsg te g))(hv:QE T K F v pv)(hg:∀z ti,EW (F z) ix ti→GW (F z) (.Subscript o ix pos) (gSub (tVar i) ti a9d))(he:QE T K F ix pe):QS T np K F st (qPut i pv pe):=by
 obtain⟨tv,v1,v2⟩:=hv;obtain⟨ti,i1,i2⟩:=he;refine⟨_,fun z=>(h z _ _ ⟨v1 z⟩ (hg z _ ⟨i1 z⟩)).h,fun C G σ H env n PD D hK hT hn S hp L=>?_⟩;refine v2 C G σ H env n _ _ hK hT S hp fun x env1 n1 v H1 q1 S1 r1 f1=>?_;obtain⟨⟨xs0,e0⟩,q1⟩:=q1;obtain⟨a,vs,ev,h1,h2,h3,h4,r⟩:=S1.slots i _ e0;refine⟨.ref a,ev,?_⟩;refine i2 C G σ H1 env1 n1 _ _ hK hT S1 q1 fun y env2 n2 w H2 q2 S2 r2 f2=>?_
 split at q2
 · rename_i xs d ex
   split at q2
   · rename_i j ej;obtain⟨a',us,ev',g1,g2,g3,g4,r'⟩:=S2.slots i _ ex;rw [ev] at ev';cases ev';subst hK;obtain⟨S3,f3⟩:=S2.put ex ev (r'.set j (r1.fr f2));exact⟨a,us,d,j,rfl,r2,g4,by rw [← r'.length];exact ej,L.nx _ _ _ _ _ q2 S3 (Ext.fr ((f1.trans f2).trans f3))⟩
   · exact q2.elim
 · exact q2.elim
def b2e (i:Nat)(env:Env):Env:=match env[i]? with | some (some (.ow .lst xs))=>env.set i (some (.v (.lst xs))) | _=>env
theorem SR.freeze {C:Ct}{G:Gh}{σ:St}{H:Hp}{env:Env}{n:Nat}(S:SR C G σ H env n)(i:Nat):∃G',SR C G' σ H (b2e i env) n∧Ext G H G' H:=by
 unfold b2e
 split
 · rename_i xs ex;obtain⟨a,vs,ev,h1,h2,h3,h4,r⟩:=S.slots i _ ex
   let G':Gh:=⟨G.M.filter (·≠a),G.pots⟩
   have sub:∀b∈G'.M,b∈G.M:=fun b hb=>(List.mem_filter.mp hb).1;have mm:∀{x:PV} {v:V},Rep C.K G H x v→Rep C.K G' H x v:=fun r=>Rep.mono (G':=G') (fun _ _ _ e=>e) (fun b hb=>.inl (sub b hb)) (fun _ _ e=>e) _ _ r;have mms:∀{x:List PV} {v:List V},Reps C.K G H x v→Reps C.K G' H x v:=fun r=>Reps.mono (G':=G') (fun _ _ _ e=>e) (fun b hb=>.inl (sub b hb)) (fun _ _ e=>e) _ _ r
   refine⟨G',{
     frame:=S.frame
     sub:=fun b hb=>S.sub b (sub b hb)
     sup:=fun b hb=>List.mem_filter.mpr ⟨S.sup b hb,decide_eq_true (show b≠a from fun z=>h2 (by rw [← z];exact hb))⟩
     pots:=fun p hp=>⟨List.mem_filter.mpr ⟨(S.pots p hp).1,decide_eq_true (show p≠a from fun z=>h3 (by rw [← z];exact hp))⟩,C.T.more (S.pots p hp).2 fun b hb=>.inl (sub b hb)⟩
     pre:=S.pre
     mu:=fun b hb=>S.mu b (sub b hb)
     slots:=fun j s es=>?_
     inj:=fun j k xs' ys b e1 e2 e3 e4=>?_
     p0:=S.p0
     len:=by rw [List.length_set];exact S.len
     newp:=S.newp },⟨fun _ _ _ e=>e,fun b hb=>.inl (sub b hb),fun _ _ e=>e⟩⟩
   · by_cases hj:i=j
     · subst hj;rw [List.getElem?_set_self (List.getElem?_eq_some_iff.mp ex).1] at es;cases es;exact⟨.ref a,ev,a,vs,rfl,⟨fun z=>by simpa using(List.mem_filter.mp z).2,h4⟩,mms r⟩
     · rw [List.getElem?_set_ne hj] at es;have:=S.slots j s es;cases s with
       | v x =>
         obtain⟨v,e1,r⟩:=this;exact⟨v,e1,mm r⟩
       | ow kz zs =>
         obtain⟨b,us,e1,g1,g2,g3,g4,r⟩:=this;have hba:b≠a:=fun z=>hj (S.inj i j (.lst,xs) (kz,zs) a ex es ev (by rw [e1,z]));exact⟨b,us,e1,List.mem_filter.mpr ⟨g1,by simpa using hba⟩,g2,g3,g4,mms r⟩
   · have back:∀(j:Nat) (zs:OK×List PV),(env.set i (some (.v (.lst xs))))[j]?=some (some (Slot.ow zs.1 zs.2))→env[j]?=some (some (.ow zs.1 zs.2)):=by
       intro j zs h
       by_cases hj:i=j
       · subst hj;rw [List.getElem?_set_self (List.getElem?_eq_some_iff.mp ex).1] at h;cases h
       · rw [List.getElem?_set_ne hj] at h;exact h
     exact S.inj j k xs' ys b (back j _ e1) (back k _ e2) e3 e4
 · exact⟨G,S,Ext.refl⟩
def a6u (i:Nat)(p:pS):pS:=fun D env n=>p D (b2e i env) n
theorem a9i (i:Nat)(h:QS T np K F st p1):QS T np K F st (a6u i p1):=by
 obtain⟨t,a1,a2⟩:=h;refine⟨t,a1,fun C G σ H env n PD D hK hT hn S hp L=>?_⟩;obtain⟨G',S',x'⟩:=S.freeze i;exact a2 C G' σ H _ n PD D hK hT hn S' hp (L.ext x')
end
end Pu
end
section
set_option maxHeartbeats 1000000
namespace Pu
open PySem PySem.Spec L2
def a2M (N:List Str)(xs:List PV):Env:=xs.map (fun x=>some (.v x))++List.replicate (N.length - xs.length) none
def fnP (N ps:List Str)(body:pS):pF:=fun xs n R=>xs.length=ps.length∧body ⟨fun _ m=>R .non m,R,fun _ _=>False,fun _ _=>False⟩ (a2M N xs) n
theorem a4U {K:PySem.W.Frag}{T:PotK}{G:Gh}{H:Hp}{n:Nat}{np:Bool}{N:List Str}{xs:List PV}{vs:List V}(hp:∀p∈G.pots,p∈G.M∧T.at_ G.M H p n)(hm:∀a∈G.M,∃o,H a=some o∧MutO o)(hh:T.has G.pots)(r:Reps K G H xs vs) :
   SR ⟨K,T,G.M,G.pots,H,np⟩ G (L2.a3b N vs) H (a2M N xs) n where
 frame b o _ e:=e
 sub a ha:=.inl ha
 sup a ha:=ha
 pots:=hp
 pre:=⟨[],by simp,.inl rfl⟩
 mu:=hm
 slots i s e:=by
   unfold a2M at e
   by_cases hi:i < xs.length
   · rw [List.getElem?_append_left (by simpa using hi),List.getElem?_map] at e;cases ex:xs[i]? with
     | none=>rw [ex] at e;cases e
     | some x =>
       rw [ex] at e;cases e;obtain⟨v,ev,rv⟩:=r.get' ex;refine⟨v,?_,rv⟩;unfold L2.a3b;rw [List.getElem?_append_left (by rw [List.length_map,← r.length];exact hi),List.getElem?_map,ev]
       rfl
   · rw [List.getElem?_append_right (by simpa using hi),List.getElem?_replicate] at e
     split at e <;> cases e
 inj i j xs' ys a e1:=by
   exfalso
   unfold a2M at e1
   by_cases hi:i < xs.length
   · rw [List.getElem?_append_left (by simpa using hi),List.getElem?_map] at e1;cases ex:xs[i]? with
     | none=>rw [ex] at e1;cases e1
     | some x=>rw [ex] at e1;cases e1
   · rw [List.getElem?_append_right (by simpa using hi),List.getElem?_replicate] at e1
     split at e1 <;> cases e1
 p0:=⟨fun p h=>(hp p h).1,hh⟩
 len:=by unfold a2M L2.a3b;simp [r.length]
 newp p h hn:=absurd h hn
section
variable {P:Program}{w:World}{K:PySem.W.Frag}{mg:Str→Option Value}{base:Heap}{T:PotK}
theorem a1h {x:Str}{st:Stmt}{N ps:List Str}{k:Nat}{body:pS}(F0:Fn0 K mg x st)(sc:a0o N ps (a0f st))
   (bd:∀(kV doc pm:Value) (an:Option Addr) (cdv ct:Value) (us:List Value),us.length=ps.length→bindArgs (PySem.W.fnOf x x (a1e st) (a0I st) (a0f st) .none kV doc pm an cdv ct) ⟨us,[]⟩=pure (ps.zip us))
   (h:∀(f:Addr) (cdv:Value) (A:Around) (outer:List PySem.Env) (s:Shared) (H:Hp) (E:XK),Room k (A.deeper (PyProof.Rows.envOfC x (a0f st) s.heap.objs.size f cdv))→
     QSs T false K (fun _:Unit=>(cxOf CX0 P w K mg base N x (a0f st) f cdv A outer s H E).nox) (a0I st) body) :
   Kn P w K mg base x (k + 1) ps (a0l K T (fnP N ps body)):=by
 refine F0.ok sc (fun vs H Q E h=>?_) bd (fun f cdv A outer s H vs Q E hr hsp=>?_)
 · obtain⟨G,xs,n,R,_,_,_,r,hf,_⟩:=h;rw [← r.length];exact hf.1
 · obtain⟨t,h1,h2⟩:=h f cdv A outer s H E hr;obtain⟨G,xs,n,R,hp,hm,hh,r,hf,k'⟩:=hsp;refine⟨t,h1 (),?_⟩;have S0:=a4U (N:=N) (np:=false) hp hm hh r
   have fin:∀(x:PV) (n':Nat) (v:V) (G':Gh) (σ:St) (H':Hp) (env:Env),R x n'→SR ⟨K,T,G.M,G.pots,H,false⟩ G' σ H' env n'→Rep K ⟨G.M,G'.pots⟩ H' x v→Q v H':=by
     intro x n' v G' σ H' env rr S' rv
     have ep:G'.pots=G.pots:=by
       obtain⟨l,el,hl⟩:=S'.pre;rcases hl with hl | hl
       · rw [el,hl,List.append_nil]
       · cases hl
     rw [ep] at rv;exact k' _ _ _ _ rr rv (fun p hp'=>T.more (S'.pots p (by rw [ep];exact hp')).2 fun a ha=>.inl (S'.sup a ha)) S'.frame
   refine h2 _ G _ H _ n _ _ rfl rfl rfl S0 hf.2 ⟨fun env n' G' σ H' q S' _=>?_,fun x n' v G' σ H' env q S' rv _=>fin x n' v G' σ H' env q S' rv,fun _ _ _ _ _ q=>q.elim,fun _ _ _ _ _ q=>q.elim⟩;exact fin .non n' .non G' σ H' env q S' rfl
end
def b0O:pF:=fun xs n R=>match xs with | [.pot _,.int m]=>(0 < m∧m < 1000000∧n < 1000000000)∧∀d:Int,0≤d→d < m→R (.int d) (n + 1) | _=>False
end Pu
end
section
set_option maxHeartbeats 1000000
namespace Pu
open PySem PySem.Spec L2
section
variable {T:PotK}{np:Bool}{ι:Type}{K:PySem.W.Frag}{F:ι→Cx}{e a b c:Expr}{es:List Expr}{pe pa pb pc:pE}{pos:Pos}{pl pr:pA}
theorem RdV.lst' {G:Gh}{H:Hp}{xs:List PV}{v:V}(h:RdV K G H (.lst xs) v):∃a vs,v=.ref a∧H a=some (.lst vs)∧Reps K G H xs vs:=by
 rcases h with⟨a,vs,e,t,r⟩ | ⟨a,vs,ys,ex,ev,h4,r⟩
 · exact⟨a,vs,e,t.2,r⟩
 · cases ex;exact⟨a,vs,ev,h4,r⟩
def qCat (pa pb:pE):pA:=fun env n R=>pa env n fun x env1 n1=>pb env1 n1 fun y env2 n2=>match x,y with | .lst xs,.lst ys=>env2=env1∧xs.length + ys.length≤1000000∧R (xs++ys) env2 n2 | _,_=>False
theorem qn_cat (ha:QR T K F a pa)(hb:QR T K F b pb):QN T K F (.BinOp a .Add b pos) (qCat pa pb):=by
 obtain⟨t,a1,a2⟩:=ha;obtain⟨u,b1,b2⟩:=hb;refine⟨_,fun z=>a1q op_cat (a1 z) (b1 z),fun C G σ H env n R Q hK hT S hp k=>?_⟩;refine a2 C G σ H env n _ _ hK hT S hp fun x env1 n1 v H1 q1 S1 r1 f1=>?_;refine b2 C G σ H1 env1 n1 _ _ hK hT S1 q1 fun y env2 n2 w H2 q2 S2 r2 f2=>?_
 split at q2
 · rename_i xs ys;obtain⟨e1,hl,q2⟩:=q2;subst e1;obtain⟨l,vs,ev,e1,rx⟩:=RdV.lst' ((r1.fr f2).rd S2);obtain⟨m,us,ew,e2,ry⟩:=RdV.lst' (r2.rd S2);exact⟨l,m,vs,us,ev,ew,e1,e2,by rw [← rx.length,← ry.length];exact mil hl,fun p hn=>k _ _ _ _ _ _ q2 S2 (f1.trans f2) hn (hK▸rx.append ry)⟩
 · exact q2.elim
def a2Y:List PV→Option (List Str)
 | []=>some []
 | .str b::xs=>(a2Y xs).map (b::·)
 | _=>none
theorem a2K {G:Gh}{H:Hp}:∀{xs:List PV} {vs:List V} {bs:List Str},a2Y xs=some bs→Reps K G H xs vs→vs=bs.map V.str
 | [],vs,bs,h,r=>by cases h;exact r
 | .str b :: xs, vs, bs, h, r => by
   obtain⟨v,t,e,rv,rt⟩:=r;cases e1:a2Y xs with
   | none=>simp [a2Y,e1] at h
   | some cs =>
     have:b::cs=bs:=by simpa [a2Y,e1] using h
     subst this;rw [e,show v=.str b from rv,a2K e1 rt]
     rfl
 | .non::_,_,_,h,_=>by cases h
 | .int _::_,_,_,h,_=>by cases h
 | .bl _::_,_,_,h,_=>by cases h
 | .ty _::_,_,_,h,_=>by cases h
 | .pot _::_,_,_,h,_=>by cases h
 | .tup _::_,_,_,h,_=>by cases h
 | .lst _::_,_,_,h,_=>by cases h
 | .dct _ _::_,_,_,h,_=>by cases h
 | .scr _::_,_,_,h,_=>by cases h
theorem a3K:∀bs:List Str,a2Y (bs.map PV.str)=some bs
 | []=>rfl
 | b::bs=>by simp [a2Y,a3K bs]
def a8N:PV→Option Bool
 | .non=>some false
 | .bl b=>some b
 | .int i=>some (i != 0)
 | .str z=>if z.length≤1000000 then some ((z.length:Int) != 0) else none
 | .lst xs=>some (!xs.isEmpty)
 | .tup xs=>some (!xs.isEmpty)
 | _=>none
theorem a3v {G:Gh}{H:Hp}{xs:List PV}{vs:List V}(r:Reps K G H xs vs):(!vs.isEmpty)=!xs.isEmpty:=by
 have:=r.length;cases xs <;> cases vs <;> simp_all
theorem tru_of {G:Gh}{H:Hp}{x:PV}{v:V}{b:Bool}(h:a8N x=some b)(r:RdV K G H x v):TruV K v H b:=by
 cases x with
 | non=>rw [r.non];cases h;rfl
 | bl c=>rw [r.bl];cases h;rfl
 | int i=>rw [r.int];cases h;rfl
 | str z =>
   rw [r.str]
   by_cases hz:z.length≤1000000
   · have h':(if z.length≤1000000 then some ((z.length:Int) != 0) else none)=some b:=h;rw [if_pos hz] at h';cases h';exact⟨mil hz,rfl⟩
   · have h':(if z.length≤1000000 then some ((z.length:Int) != 0) else none)=some b:=h;rw [if_neg hz] at h';cases h'
 | lst xs=>obtain⟨a,vs,ev,hq,rs⟩:=r.lst;rw [ev];cases h;exact .inl ⟨vs,hq,(a3v rs).symm⟩
 | tup xs=>obtain⟨a,vs,ev,hq,rs⟩:=r.tup;rw [ev];cases h;exact .inr (.inl ⟨vs,hq,(a3v rs).symm⟩)
 | _=>cases h
def wNeg:w1:=fun x R=>match x with | .int i=>R (.int (-i)) | _=>False
theorem qe_neg (h:QE T K F a pa):QE T K F (.UnaryOp .USub a pos) (qUn wNeg pa):=by
 obtain⟨t,a1,a2⟩:=h.r;refine⟨_,fun z=>pe_un un_neg (a1 z),ok_un (fun G H x v R Q hf rx hw k=>?_) a2⟩;unfold wNeg at hw
 split at hw
 · exact⟨_,rx.int,k _ _ _ hw (Same.refl _) rfl⟩
 · exact hw.elim
end
def a0O (i:Nat)(pe:pE):pE:=fun env n R=>(∃xs,env[i]?=some (some (.ow .lst xs)))∧a6v i pe env n R
end Pu
end
section
set_option maxHeartbeats 1000000
namespace Pu
open PySem PySem.Spec L2
theorem a0L {g:pG}{b:pS}{D:a4D}(I:Nat→Env→Nat→Prop):∀(xs:List PV) (k:Nat) (env:Env) (n:Nat),I k env n→
   (∀(i:Nat) x env n (N:Env→Nat→Prop),xs[i]?=some x→I (k + i) env n→(∀e m,I (k + i + 1) e m→N e m)→g x env fun env1=>b { D with nx:=N,ct:=N,bk:=D.nx } env1 n)→(∀env n,I (k + xs.length) env n→D.nx env n)→forL g b D xs env n
 | [],k,env,n,h0,_,hd=>hd env n h0
 | x :: xs, k, env, n, h0, hs, hd => by
   show g x env fun env1=>b { D with nx:=fun e m=>forL g b D xs e m,ct:=fun e m=>forL g b D xs e m,bk:=D.nx } env1 n;refine hs 0 x env n _ rfl h0 fun e m h1=>?_;refine a0L I xs (k + 1) e m h1 (fun i y env n N e1 h2 h3=>?_) fun env n h2=>hd env n (by rw [List.length_cons,show k + (xs.length + 1)=k + 1 + xs.length by omega];exact h2);refine hs (i + 1) y env n N (by simpa using e1) (by rw [show k + (i + 1)=k + 1 + i by omega];exact h2) fun e m h4=>h3 e m (by rw [show k + 1 + i + 1=k + (i + 1) + 1 by omega];exact h4)
theorem a4W {j i:Nat}{lo:Int}{x:PV}(h:((List.range j).map fun(k:Nat)=>PV.int (lo + k))[i]?=some x):i < j∧x=.int (lo + i):=by
 rw [List.getElem?_map] at h;cases e:(List.range j)[i]? with
 | none=>rw [e] at h;cases h
 | some y =>
   rw [e] at h;obtain⟨h1,h2⟩:=List.getElem?_eq_some_iff.mp e;rw [List.getElem_range] at h2;cases h;subst h2;exact⟨by simpa using h1,rfl⟩
theorem a6p {j:Nat}{lo:Int}:((List.range j).map fun(k:Nat)=>PV.int (lo + k)).length=j:=by simp
theorem a4t {α:Type}{xs:List α}{d:Int}(h0:0≤d)(h1:d < xs.length):∃x,x∈xs∧atI xs d=some x:=by
 obtain⟨x,e1,e2⟩:=b0P h0 h1;exact⟨x,List.mem_of_getElem? e1,e2⟩
theorem b2Q (a b:Int):eqP (.int a) (.int b)=decide (a=b):=by
 show(a == b)=_;rw [Bool.beq_eq_decide_eq]
theorem a5X (a b:Str):eqP (.str a) (.str b)=decide (a=b):=by
 show(a == b)=_;rw [Bool.beq_eq_decide_eq]
theorem b2R (a b:Bool):eqP (.bl a) (.bl b)=decide (a=b):=by
 show(a == b)=_;rw [Bool.beq_eq_decide_eq]
theorem eqP_ll (xs ys:List PV):eqP (.lst xs) (.lst ys)=eqPs xs ys:=rfl
theorem eqP_tt (xs ys:List PV):eqP (.tup xs) (.tup ys)=eqPs xs ys:=rfl
theorem b4k (x y:PV)(xs ys:List PV):eqPs (x::xs) (y::ys)=(eqP x y && eqPs xs ys):=rfl
theorem b4j:eqPs [] []=true:=rfl
theorem if_t {A B:Prop}{b:Bool}(h:b=true)(q:A):if b=true then A else B:=by rw [if_pos h];exact q
theorem if_f {A B:Prop}{b:Bool}(h:b=false)(q:B):if b=true then A else B:=by rw [if_neg (by rw [h];exact Bool.false_ne_true)];exact q
end Pu
end
section
set_option maxHeartbeats 1000000
namespace Pu
open PySem PySem.Spec L2
section
variable {T:PotK}{np:Bool}{ι:Type}{K:PySem.W.Frag}{F:ι→Cx}{a b:Expr}{st:Stmt}{pos:Pos}{s1 s2:pSl}
theorem gw_two {X:Cx}(K:PySem.W.Frag)(i j:Nat){x y:Str}{px py pos:Pos}{k:Nat}(hc:X.calm=true)(h1:GW X (.Name x px) (a1P i))(h2:GW X (.Name y py) (a1P j))(hn:(assignEach [.Name x px,.Name y py] X.env).length=2:=by rfl)(hst:(assignEach [.Name x px,.Name y py] X.env).findIdx? (·.1)=none:=by rfl)
   (hs:(assignEach [.Name x px,.Name y py] X.env).map (·.2)=assign (.Name x px) X.env::(assignEach [.Name y py] X.env).map (·.2):=by rfl) (hs2:(assignEach [.Name y py] X.env).map (·.2)=assign (.Name y py) X.env::(assignEach [] X.env).map (·.2):=by rfl) (hK:X.K=K:=by rfl) :
   GW X (.Tuple [.Name x px,.Name y py] k pos) (gTup K 2 (a4l (a1P i) (a4l (a1P j) gNil))):=⟨hK▸a9v hc (a2Q h1.h (a2Q h2.h a6A hs2) hs) hn hst⟩
theorem b3n (i j:Nat){tg:Expr}{k:Nat}{p:Pos}(h:∀z te g,EW (F z) (.Tuple [a,b] k p) te→GW (F z) tg g→SW (F z) st (tAsg te g))(hg:∀z,GW (F z) tg (gTup K 2 (a4l (a1P i) (a4l (a1P j) gNil))))(h1:QL T K F a s1)(h2:QL T K F b s2)(n1:a0C a=true:=by rfl)(n2:a0C b=true:=by rfl):QS T np K F st (qPar i j s1 s2):=by
 obtain⟨t,a1,a2⟩:=h1;obtain⟨u,b1,b2⟩:=h2;refine⟨_,fun z=>(h z _ _ ⟨a9w (a0r (a1 z) (a0r (b1 z) a0K (a0e n2)) (a0e n1))⟩ (hg z)).h,fun C G σ H env n PD D hK hT hn S hp L=>?_⟩;refine b0o (Q:=fun v w H2=>[v,w].length≤sizeLine∧∀p,H2 p=none→gTup K 2 (a4l (a1P i) (a4l (a1P j) gNil)) (.ref p) σ (upd H2 p (.tup [v,w])) D.nx) a2 b2 hK hT S hp fun x y env2 n2 v w G2 H2 q S2 x2 gx gy ne=>?_;refine⟨by show 2≤sizeLine;decide,fun p hn'=>⟨p,[v,w],rfl,SqT.of a0g,rfl,v,[w],rfl,w,[],rfl,rfl,?_⟩⟩;have sm:Same H2 (upd H2 p (.tup [v,w])):=Same.lay1 hn';have S3:=S2.same sm
 have keep:∀{s:Slot} {u:V},b0W C G2 H2 (some (some u)) s→b0W C G2 (upd H2 p (.tup [v,w])) (some (some u)) s:=fun {s u} r=>by
   cases s with
   | v x=>obtain⟨v',e,r⟩:=r;exact⟨v',e,r.same sm⟩
   | ow kk xs=>obtain⟨b,us,e,h1,h2,h3,h4,r⟩:=r;exact⟨b,us,e,h1,h2,h3,sm _ _ h4,r.same sm⟩
 refine L.nx _ _ _ _ _ q ((S3.slot i (keep gx.1) gx.2).slot j (keep gy.1) fun ys b e1 e2 z=>?_) (x2.trans (Ext.fr (Fr.of sm)));rcases a6C S3.len z with z | ⟨⟨xs,ex⟩,ev⟩
 · exact gy.2 ys b e1 e2 z
 · exact ne xs ys b ex e1 ev e2
end
end Pu
end
section
set_option maxHeartbeats 4000000
namespace L2
open PySem PySem.Spec PyProof.Rows
section
variable {κ:Type}[DecidableEq κ]
def valV (kvs:List (κ×V))(k:κ):Option V:=(kvs.find? fun kv=>decide (kv.1=k)).map (·.2)
def putK (kvs:List (κ×V))(k:κ)(v:V):List (κ×V):=
 if(kvs.any fun kv=>decide (kv.1=k))=true then kvs.map (fun kv=>if kv.1=k then(kv.1,v) else kv) else kvs++[(k,v)]
theorem a1I {p:κ×V}{r:List (κ×V)}{k:κ}(e:p.1=k):valV (p::r) k=some p.2:=by simp [valV,List.find?_cons,e]
theorem a1j {p:κ×V}{r:List (κ×V)}{k:κ}(e:¬p.1=k):valV (p::r) k=valV r k:=by simp [valV,List.find?_cons,e]
theorem a4Q (k:κ):∀kvs:List (κ×V),(kvs.any fun kv=>decide (kv.1=k))=(valV kvs k).isSome
 | []=>rfl
 | p :: r => by
   rw [List.any_cons]
   by_cases e:p.1=k
   · simp only [a1I e,decide_eq_true e,Bool.true_or,Option.isSome_some]
   · rw [a1j e,decide_eq_false e,Bool.false_or];exact a4Q k r
theorem a2E (kvs:List (κ×V))(k:κ)(v:V):(putK kvs k v).length≤kvs.length + 1:=by
 unfold putK
 split
 · rw [List.length_map];omega
 · rw [List.length_append,List.length_cons,List.length_nil];omega
theorem putK_new {kvs:List (κ×V)}{k:κ}(v:V)(h:valV kvs k=none):putK kvs k v=kvs++[(k,v)]:=by
 unfold putK;rw [a4Q,h];exact if_neg (by decide)
theorem RelO.isSome_eq {o:Option V}{u:Option Value}(r:RelO o u):o.isSome=u.isSome:=by
 cases o with
 | none => cases u with
   | none=>rfl
   | some _=>exact(show False from r).elim
 | some _ => cases u with
   | none=>exact(show False from r).elim
   | some _=>rfl
theorem KV.val {kvs:List (κ×V)}{vs:List (κ×Value)}(r:KV kvs vs)(k:κ):RelO (valV kvs k) (valueAt vs k):=by
 unfold KV at r
 induction r with
 | nil=>exact True.intro
 | @cons p q ps qs h t ih =>
   obtain⟨h1,h2⟩:=h
   by_cases e:p.1=k
   · have e':q.1=k:=h1.symm.trans e;have b:valueAt (q::qs) k=some q.2:=by simp [valueAt,List.find?_cons,e']
     rw [a1I e,b];exact h2
   · have e':¬q.1=k:=fun z=>e (h1.trans z);have b:valueAt (q::qs) k=valueAt qs k:=by simp [valueAt,List.find?_cons,e']
     rw [a1j e,b];exact ih
theorem KV.any {kvs:List (κ×V)}{vs:List (κ×Value)}(r:KV kvs vs)(k:κ):(kvs.any fun kv=>decide (kv.1=k))=vs.any fun kv=>decide (kv.1=k):=by
 unfold KV at r
 induction r with
 | nil=>rfl
 | cons h t ih=>rw [List.any_cons,List.any_cons,ih,h.1]
theorem KV.repl {kvs:List (κ×V)}{vs:List (κ×Value)}(r:KV kvs vs)(k:κ){y:V}{u:Value}(ry:RelV y u) :
   KV (kvs.map fun kv=>if kv.1=k then(kv.1,y) else kv) (vs.map fun kv=>if kv.1=k then(kv.1,u) else kv):=by
 unfold KV at r ⊢
 induction r with
 | nil=>exact .nil
 | @cons p q ps qs h t ih =>
   rw [List.map_cons,List.map_cons];refine .cons ?_ ih;obtain⟨h1,h2⟩:=h
   by_cases e:p.1=k
   · rw [if_pos e,if_pos (h1.symm.trans e)];exact⟨h1,ry⟩
   · rw [if_neg e,if_neg (fun z=>e (h1.trans z))];exact⟨h1,h2⟩
theorem KV.put {kvs:List (κ×V)}{vs:List (κ×Value)}(r:KV kvs vs)(k:κ){y:V}{u:Value}(ry:RelV y u):KV (putK kvs k y) (stored vs k u):=by
 unfold putK stored;rw [r.any k]
 by_cases e:(vs.any fun kv=>decide (kv.1=k))=true
 · rw [if_pos e,if_pos e];exact r.repl k ry
 · rw [if_neg e,if_neg e];exact Paired.snoc r ⟨rfl,ry⟩
theorem KV.keys {kvs:List (κ×V)}{vs:List (κ×Value)}(r:KV kvs vs):kvs.map (·.1)=vs.map (·.1):=by
 unfold KV at r
 induction r with
 | nil=>rfl
 | cons h t ih=>rw [List.map_cons,List.map_cons,ih,h.1]
theorem KV.length {kvs:List (κ×V)}{vs:List (κ×Value)}(r:KV kvs vs):kvs.length=vs.length:=Paired.length r
end
theorem b1W {P:Program}{w:World}{k:Key}{u:Value}(r:RelV (kV k) u):(a0s P w).is k u=true:=by
 cases k with
 | inl i=>obtain⟨t,e⟩:=(show ∃t,u=Value.int i t from r);subst e;exact a6F P w i t
 | inr x=>obtain⟨t,e⟩:=(show ∃t,u=Value.str x t from r);subst e;exact a4e P w x t
theorem a5W {P:Program}{w:World}:∀{ks:List Key} {us:List Value},Vals (ks.map kV) us→ItemsAre (a0s P w) ks us
 | [],_,r=>by rw [List.map_nil] at r;cases r;exact .nil
 | k :: ks, _, r => by
   rw [List.map_cons] at r;cases r with
   | cons h t=>exact .cons (b1W h) (a5W t)
abbrev KT (H:Hp):List (List Key×V)→List (List Key×Addr×Value)→Prop:=Paired fun p q=>p.1=q.1∧H q.2.1=some (.tup (p.1.map kV))∧RelV p.2 q.2.2
theorem KT.val {H:Hp}{kvs:List (List Key×V)}{xs:List (List Key×Addr×Value)}(r:KT H kvs xs)(k:List Key):RelO (valV kvs k) ((atKey xs k).map (·.2)):=by
 induction r with
 | nil=>exact True.intro
 | @cons p q ps qs h t ih =>
   obtain⟨h1,_,h2⟩:=h
   by_cases e:p.1=k
   · have e':q.1=k:=h1.symm.trans e;have b:atKey (q::qs) k=some q.2:=by simp [atKey,List.find?_cons,e']
     rw [a1I e,b];exact h2
   · have e':¬q.1=k:=fun z=>e (h1.trans z);have b:atKey (q::qs) k=atKey qs k:=by simp [atKey,List.find?_cons,e']
     rw [a1j e,b];exact ih
theorem KT.repl {H:Hp}{kvs:List (List Key×V)}{xs:List (List Key×Addr×Value)}(r:KT H kvs xs)(k:List Key){y:V}{u:Value}(ry:RelV y u) :
   KT H (kvs.map fun kv=>if kv.1=k then(kv.1,y) else kv) (xs.map (putAt k u)):=by
 induction r with
 | nil=>exact .nil
 | @cons p q ps qs h t ih =>
   rw [List.map_cons,List.map_cons];refine .cons ?_ ih;obtain⟨h1,h2,h3⟩:=h;unfold putAt
   by_cases e:p.1=k
   · rw [if_pos e,if_pos (h1.symm.trans e)];exact⟨h1,h2,ry⟩
   · rw [if_neg e,if_neg (fun z=>e (h1.trans z))];exact⟨h1,h2,h3⟩
theorem KT.put {H:Hp}{kvs:List (List Key×V)}{xs:List (List Key×Addr×Value)}(r:KT H kvs xs)(k:List Key){b:Addr}{y:V}{u:Value}(hb:H b=some (.tup (k.map kV)))(ry:RelV y u) :
   KT H (putK kvs k y) (storedH xs k b u):=by
 have e:(kvs.any fun kv=>decide (kv.1=k))=(atKey xs k).isSome:=by
   rw [a4Q,(r.val k).isSome_eq,Option.isSome_map]
 unfold putK storedH;rw [e]
 by_cases q:(atKey xs k).isSome=true
 · rw [if_pos q,if_pos q];exact r.repl k ry
 · rw [if_neg q,if_neg q];exact Paired.snoc r ⟨rfl,hb,ry⟩
theorem KT.keeps {H H':Hp}{kvs:List (List Key×V)}{xs:List (List Key×Addr×Value)}(r:KT H kvs xs)(ht:∀b ys,H b=some (.tup ys)→H' b=some (.tup ys)):KT H' kvs xs:=
 Paired.mapP r fun _ _ z=>⟨z.1,ht _ _ z.2.1,z.2.2⟩
section
variable {P:Program}{w:World}{H:Hp}{h:Heap}{a:Addr}
theorem rd_of {u:HO}(ok:HOk P w H h)(e:Rd H a u):a0X P w H h a u:=e.ok ok
theorem b4o {kvs:List (Key×V)}(ok:HOk P w H h)(e:Rd H a (.dK kvs)):kvs.length≤sizeLine∧(a == sysModules)=false∧∃vs,KV kvs vs∧h.DictOf (a0s P w) a vs:=
 show a0X P w H h a (.dK kvs) from rd_of ok e
theorem dk_of {kvs:List (Key×V)}(ok:HOk P w H h)(e:H a=some (.dK kvs)):kvs.length≤sizeLine∧(a == sysModules)=false∧∃vs,KV kvs vs∧h.DictOf (a0s P w) a vs:=b4o ok (.inl e)
theorem b0c {ks:List Key}(ok:HOk P w H h)(e:H a=some (.tup (ks.map kV))):(tupleKind (a0s P w)).is h ks a:=by
 obtain⟨_,its,r,o,h1,h2,n,h3⟩:=(show a0X P w H h a (.tup (ks.map kV)) from ok a _ e);exact⟨o,its.toArray,n,h1,(Prod.mk.inj h2).1,h3,by simpa using a5W r⟩
theorem b4l {kvs:List (List Key×V)}(ok:HOk P w H h)(e:Rd H a (.dT kvs)):kvs.length≤sizeLine∧(a == sysModules)=false∧
   ∃xs,KT H kvs xs∧h.DictOfH (tupleKind (a0s P w)) a xs:=by
 obtain⟨z,y,xs,r,o,es,ep,h1,h2,h3,h4,h5⟩:=(show a0X P w H h a (.dT kvs) from rd_of ok e);refine⟨z,y,xs,r,o,es,ep,h1,h2,h3,h4,fun x hx=>?_,h5⟩
 have all:∀{l:List (List Key×V)} {m:List (List Key×Addr×Value)},KT H l m→∀x∈m,(tupleKind (a0s P w)).is h x.1 x.2.1:=by
   intro l m q
   induction q with
   | nil=>intro x hx;exact nomatch hx
   | @cons p q ps qs hq t ih =>
     intro x hx;rcases List.mem_cons.mp hx with e | hx
     · subst e;exact b0c ok (by rw [← hq.1];exact hq.2.1)
     · exact ih x hx
 exact all r x hx
theorem dt_of {kvs:List (List Key×V)}(ok:HOk P w H h)(e:H a=some (.dT kvs)):kvs.length≤sizeLine∧(a == sysModules)=false∧
   ∃xs,KT H kvs xs∧h.DictOfH (tupleKind (a0s P w)) a xs:=b4l ok (.inl e)
end
def DGet (H:Hp)(a:Addr)(y:V)(r:Option V):Prop:=
 (∃kvs k,Rd H a (.dK kvs)∧y=kV k∧r=valV kvs k)∨∃kvs k b,Rd H a (.dT kvs)∧y=.ref b∧H b=some (.tup (k.map kV))∧r=valV kvs k
def DPut (H:Hp)(a:Addr)(y v:V)(H':Hp):Prop:=
 (∃kvs k,H a=some (.dK kvs)∧y=kV k∧kvs.length < sizeLine∧H'=upd H a (.dK (putK kvs k v)))∨
 ∃kvs k b,H a=some (.dT kvs)∧y=.ref b∧H b=some (.tup (k.map kV))∧kvs.length < sizeLine∧H'=upd H a (.dT (putK kvs k v))
theorem DGet.k {H:Hp}{a:Addr}{kvs:List (Key×V)}{k:Key}(e:H a=some (.dK kvs)):DGet H a (kV k) (valV kvs k):=.inl ⟨kvs,k,.inl e,rfl,rfl⟩
theorem DGet.t {H:Hp}{a b:Addr}{kvs:List (List Key×V)}{k:List Key}(e:H a=some (.dT kvs))(eb:H b=some (.tup (k.map kV))):DGet H a (.ref b) (valV kvs k):=.inr ⟨kvs,k,b,.inl e,rfl,eb,rfl⟩
theorem DPut.k {H:Hp}{a:Addr}{kvs:List (Key×V)}{k:Key}{v:V}(e:H a=some (.dK kvs))(hl:kvs.length < sizeLine):DPut H a (kV k) v (upd H a (.dK (putK kvs k v))):=.inl ⟨kvs,k,e,rfl,hl,rfl⟩
theorem DPut.t {H:Hp}{a b:Addr}{kvs:List (List Key×V)}{k:List Key}{v:V}(e:H a=some (.dT kvs))(eb:H b=some (.tup (k.map kV)))(hl:kvs.length < sizeLine) :
   DPut H a (.ref b) v (upd H a (.dT (putK kvs k v))):=.inr ⟨kvs,k,b,e,rfl,eb,hl,rfl⟩
section
variable {X:Cx}{pins:List (Addr×Obj)}{σ:St}{H:Hp}{s:Shared}{a:Addr}{y v:V}{u r:Value}{o:Option V}{A:Around}{E:Value→Shared→Prop}
theorem b0A {Q:Value→Shared→Prop}(hu:A.units + 1 < cLine)(I:Inv X pins σ H s)(g:DGet H a y (some v))(ry:RelV y u)(h:∀w' s',Inv X pins σ H s'→RelV v w'→Q w' s') :
   wpAny (model X.prog X.w) A (getItem (.ref a) u) Q E s:=by
 rcases g with⟨kvs,k,e,ey,l⟩ | ⟨kvs,k,b,e,ey,eb,l⟩
 · subst ey;obtain⟨z,hd,vs,rel,dd⟩:=b4o I.hok e;obtain⟨w',hw,rw'⟩:=RelO.some_of (v:=v) (o:=valueAt vs k) (by rw [l];exact rel.val k);exact wpAny_getItem_of (b1W ry) dd.mapOf hw (h w' _ (I.tok _) rw')
 · subst ey;cases(show u=Value.ref b from ry);obtain⟨z,hd,xs,rel,dd⟩:=b4l I.hok e;obtain⟨w',hw,rw'⟩:=RelO.some_of (v:=v) (o:=(atKey xs k).map (·.2)) (by rw [l];exact rel.val k);obtain⟨p,hp,hp2⟩:=Option.map_eq_some_iff.mp hw;refine wpAny_getItem_heap (tupleKind_room_in1 hu) (b0c I.hok eb) dd hp ?_;rw [hp2];exact h w' _ (I.tok _) rw'
theorem a6X {h':Heap}{t':Nat}{ob:HO}(I:Inv X pins σ H s)(mu:Mut (H a))(hs:Heap.SameBut a s.heap h')(he:∃q,h'.get? a=some q)(new:a0X X.prog X.w (upd H a ob) h' a ob) :
   Inv X pins σ (upd H a ob) { s with heap:=h',toks:=t' }:=
 I.write (x:=a) (e:=a) mu (.inl rfl) (fun b q hb z=>(hs.2 b hb).trans z) he new
theorem b2V {P:Program}{w:World}{H':Hp}{h':Heap}{kvs:List (Key×V)}{vs:List (Key×Value)}(z:kvs.length≤sizeLine)(hd:(a == sysModules)=false)(rel:KV kvs vs)(dd:h'.DictOf (a0s P w) a vs) :
   a0X P w H' h' a (.dK kvs):=⟨z,hd,vs,rel,dd⟩
theorem b0z {H':Hp}{Q:Unit→Shared→Prop}(hu:A.units + 1 < cLine)(I:Inv X pins σ H s)(g:DPut H a y v H')(ry:RelV y u)(rv:RelV v r)(h:∀s',Inv X pins σ H' s'→Q () s') :
   wpAny (model X.prog X.w) A (setItem (.ref a) u r) Q E s:=by
 rcases g with⟨kvs,k,e,ey,l,eH⟩ | ⟨kvs,k,b,e,ey,eb,l,eH⟩
 · subst ey eH;obtain⟨z,hd,vs,rel,dd⟩:=dk_of I.hok e;have hz:vs.length≤sizeLine:=by rw [← rel.length];exact z
   have hl:(putK kvs k v).length≤sizeLine:=by have:=a2E kvs k v;omega
   refine wpAny_setItem_pairs (hsz:=hz) (b1W ry) dd fun h' dd' hs=>h _ ?_;have he:∃q,h'.get? a=some q:=let ⟨q,_,_,hq,_⟩:=dd';⟨q,hq⟩;exact a6X I (by rw [e];exact True.intro) hs he (b2V hl hd (rel.put k rv) dd')
 · subst ey eH;cases(show u=Value.ref b from ry);obtain⟨z,hd,xs,rel,dd⟩:=dt_of I.hok e;have hz:xs.length≤sizeLine:=by rw [← Paired.length rel];exact z
   have hl:(putK kvs k v).length≤sizeLine:=by have:=a2E kvs k v;omega
   refine wpAny_setItem_heap (hsz:=hz) (tupleKind_room_in1 hu) (b0c I.hok eb) dd fun h' dd' hs=>h _ ?_;obtain⟨q,es,ep,hq,h2,h3,h4,_,h5⟩:=dd';refine a6X I (by rw [e];exact True.intro) hs ⟨q,hq⟩ ⟨hl,hd,_,(rel.put k eb rv).keeps fun c ys ec=>?_,q,es,ep,hq,h2,h3,h4,h5⟩;rw [a0j (ne_of ec e (fun z=>nomatch z))];exact ec
end
def NoSl (i:Expr):Prop:=∀ov iv,subscripted i false ov iv=operate [ov,iv] (getItem ov iv)
theorem b3g {prog:Program}{w:World}{A:Around}{E:Value→Shared→Prop}{s:Shared}{env:Env}{value slice:Expr}{pos:Pos}{T id:String}{Q:Value→Shared→Prop}
   (hl:typeLookup (.type T) "__getitem__"=pure (some (.builtin id))) (hs:NoSl slice)
   (h:wpAny (model prog w) A (eval value env) (fun o s₁=>wpAny (model prog w) A (eval slice env) (fun i s₂=>s₂.TypeIs o T∧wpAny (model prog w) A (getItem o i) Q E s₂) E s₁) E s) :
   wpAny (model prog w) A (eval (.Subscript value slice pos) env) Q E s:=by
 refine Subscript_ (wpAny_mono h (fun o s₁ h₁=>wpAny_mono h₁ (fun i s₂ h₂=>?_) fun _ _ x=>x) fun _ _ x=>x);obtain⟨hT,h₂⟩:=h₂;unfold subscriptTail;refine wpAny_bind ?_;rw [getitemInPython_of_ne hT.not_modules];refine wpAny_bind (wpAny_specialOf hT hl ?_)
 have fin:wpAny (model prog w) A (subscripted slice false o i) (fun r s₃=>wpAny (model prog w) A (letTemporaryGo value o r>>=fun _=>pure r) Q E s₃) E s₂:=by
   rw [hs o i];exact wpAny_operating (wpAny_mono h₂ (fun r s₃ h₃=>wpAny_bind (wpAny_letTemporaryGo (wpAny_pure h₃))) fun _ _ x=>x)
 first
   | exact wpAny_pure (wpAny_bind fin)
   | exact wpAny_bind (wpAny_pure (wpAny_bind fin))
   | exact wpAny_bind fin
theorem a6V {X:Cx}{pins:List (Addr×Obj)}{σ:St}{H:Hp}{s:Shared}{a:Addr}{y:V}{o:Option V}(I:Inv X pins σ H s)(g:DGet H a y o):s.TypeIs (.ref a) "dict":=by
 rcases g with⟨kvs,k,e,_,_⟩ | ⟨kvs,k,b,e,_,_,_⟩
 · obtain⟨_,_,vs,_,dd⟩:=b4o I.hok e;exact dd.typeIs
 · obtain⟨_,_,xs,_,dd⟩:=b4l I.hok e;exact dd.typeIs
def tDGet (td ty:TE):TE:=fun σ H Q=>td σ H fun x H1=>ty σ H1 fun y H2=>∃a v,x=.ref a∧DGet H2 a y (some v)∧Q v H2
def sDPut (td ty tv:TE):TS:=fun D σ H=>tv σ H fun v H1=>td σ H1 fun x H2=>ty σ H2 fun y H3=>∃a H4,x=.ref a∧DPut H3 a y v H4∧D.nx σ H4
section
variable {X:Cx}{o i e value:Expr}{pos pos' tpos:Pos}{td ty tv:TE}
theorem a1d (hu:X.A.units + 1 < cLine)(ho:PE X o td)(hi:PE X i ty)(hs:NoSl i):PE X (.Subscript o i pos) (tDGet td ty):=by
 intro pins s σ H Q I h;refine b3g PySem.F.slot_dict_getitem.lookup hs (thn (ho pins s σ H _ I h) fun u s1 ⟨x,H1,I1,rx,q1⟩=>thn (hi pins s1 σ H1 _ I1 q1) fun iv s2 ⟨y,H2,I2,ry,a,v,ex,g,q2⟩=>?_);subst ex;obtain rfl:u=Value.ref a:=rx;exact⟨a6V I2 g,b0A hu I2 g ry fun w' s3 I3 rw'=>⟨v,H2,I3,rw',q2⟩⟩
theorem a3Z (hu:X.A.units + 1 < cLine)(ho:PE X o td)(hi:PE X i ty)(hv:PE X value tv)(hs:swapsWith value (some (.Subscript o i pos')) pos.line X.env=pure false) :
   PS X (.Assign [.Subscript o i pos'] value pos) (sDPut td ty tv):=by
 intro pins s σ H D I h;refine wpAny_Assign_Subscript (thn (hv pins s σ H _ I h) fun r s1 ⟨v,H1,I1,rv,q1⟩=>thn (ho pins s1 σ H1 _ I1 q1) fun u s2 ⟨x,H2,I2,rx,q2⟩=>thn (hi pins s2 σ H2 _ I2 q2) fun iv s3 ⟨y,H3,I3,ry,a,H4,ex,g,q3⟩=>?_) hs;subst ex;obtain rfl:u=Value.ref a:=rx;exact b0z hu I3 g ry rv fun s4 I4=>⟨σ,H4,I4,q3⟩
end
def a8O:List (TE×TE)→St→Hp→(List (V×V)→Hp→Prop)→Prop
 | [],_,H,Q=>Q [] H
 | (tk,tv)::r,σ,H,Q=>tk σ H fun x H1=>tv σ H1 fun y H2=>a8O r σ H2 fun ps H3=>Q ((x,y)::ps) H3
abbrev VV:List (V×V)→List (Value×Value)→Prop:=Paired fun p q=>RelV p.1 q.1∧RelV p.2 q.2
def PPs (X:Cx)(pos:Pos)(keys:List (Option Expr))(values:List Expr)(trs:List (TE×TE)):Prop:=
 ∀ (pins : List (Addr × Obj)) (s : Shared) (σ : St) (H : Hp) (Q : List (V × V) → Hp → Prop), Inv X pins σ H s → a8O trs σ H Q →
   wpAny (model X.prog X.w) X.A (evalPairs (pairTrees keys values X.env pos)) (fun vs s'=>∃ps H',Inv X pins σ H' s'∧VV ps vs∧Q ps H') X.xe s
theorem b3v {X:Cx}{pos:Pos}:PPs X pos [] [] []:=fun pins s σ H Q I h=>pairTrees_nil_walk ⟨[],H,I,.nil,h⟩
theorem a3F {X:Cx}{pos:Pos}{k v:Expr}{ks:List (Option Expr)}{vs:List Expr}{tk tv:TE}{trs:List (TE×TE)}(hk:PE X k tk)(hv:PE X v tv)(hr:PPs X pos ks vs trs) :
   PPs X pos (some k::ks) (v::vs) ((tk,tv)::trs):=fun pins s σ H Q I h=>
 pairTrees_cons_walk (thn (hk pins s σ H _ I h) fun u s1 ⟨x,H1,I1,rx,q1⟩=>thn (hv pins s1 σ H1 _ I1 q1) fun w2 s2 ⟨y,H2,I2,ry,q2⟩=>
   thn (hr pins s2 σ H2 _ I2 q2) fun ws s3 ⟨ps,H3,I3,rel,q3⟩=>⟨(x,y)::ps,H3,I3,.cons ⟨rx,ry⟩ rel,q3⟩)
def a4f (kvs more:List (Key×V)):List (Key×V):=more.foldl (fun acc kv=>putK acc kv.1 kv.2) kvs
theorem KV.merge:∀{more:List (Key×V)} {rs:List (Key×Value)} {kvs:List (Key×V)} {vs:List (Key×Value)},KV more rs→KV kvs vs→KV (a4f kvs more) (merged vs rs):=by
 intro more rs kvs vs r;unfold KV at r
 induction r generalizing kvs vs with
 | nil=>intro q;exact q
 | @cons p q ps qs h t ih =>
   intro r0
   have e:KV (putK kvs p.1 p.2) (stored vs q.1 q.2):=by
     have:=r0.put p.1 h.2;rw [← h.1];exact this
   exact ih e
theorem a2T:∀(more kvs:List (Key×V)),(a4f kvs more).length≤kvs.length + more.length
 | [],kvs=>by show kvs.length≤kvs.length + 0;omega
 | p :: r, kvs => by
   have h1:=a2T r (putK kvs p.1 p.2);have h2:=a2E kvs p.1 p.2;show(a4f (putK kvs p.1 p.2) r).length≤_;rw [List.length_cons];omega
theorem a4N {P:Program}{w:World}:∀{kvs:List (Key×V)} {ws:List (Value×Value)},VV (kvs.map fun kv=>(kV kv.1,kv.2)) ws→∃rs,Carries (a0s P w) ws rs∧KV kvs rs
 | [],_,r=>by rw [List.map_nil] at r;cases r;exact⟨[],True.intro,.nil⟩
 | p :: kvs, _, r => by
   rw [List.map_cons] at r;cases r with
   | @cons a b as bs h t =>
     obtain⟨rs,c,q⟩:=a4N (P:=P) (w:=w) t;obtain⟨b1,b2⟩:=b;exact⟨(p.1,b2)::rs,⟨b1W h.1,rfl,c⟩,.cons ⟨rfl,h.2⟩ q⟩
def tDisp (trs:List (TE×TE)):TE:=fun σ H Q=>∀p,H p=none→a8O trs σ (upd H p (.dK [])) fun ps H2=>H2 p=some (.dK [])∧∃kvs:List (Key×V),ps=kvs.map (fun kv=>(kV kv.1,kv.2))∧kvs.length≤15∧Q (.ref p) (upd H2 p (.dK (a4f [] kvs)))
theorem b3C {X:Cx}{pos:Pos}{keys:List (Option Expr)}{values:List Expr}{trs:List (TE×TE)}(h:PPs X pos keys values trs)(hall:keys.all (·.isSome)=true)(hl:keys.length=values.length)(h0:keys≠[])
   (h15:keys.length≤15):PE X (.Dict keys values pos) (tDisp trs):=by
 intro pins s σ H Q I q;have hn:=I.hok.fresh (Nat.le_refl s.heap.objs.size);have I1:=I.laid (a:=s.heap.objs.size) (o:=.dK []) (h':=s.heap.push { cls:=.type "dict",data:=.dict #[] }) (t':=s.toks) (fun _ _ q=>Heap.get?_push_of_some _ q) (Nat.le_refl _) (b2g s.heap I.big);refine wpAny_Dict_walk (knd:=a0s X.prog X.w) hall hl h0 h15 (thn (h pins _ σ _ _ I1 (q _ hn)) fun ws s2 ⟨ps,H2,I2,rel,e,kvs,ep,lk,q2⟩=>?_);subst ep;obtain⟨rs,c,rk⟩:=a4N (P:=X.prog) (w:=X.w) rel;obtain⟨z,hd,vs0,r0,dd⟩:=dk_of I2.hok e;cases r0;refine⟨rs,c,dd,fun h' dd' hs=>⟨.ref s.heap.objs.size,_,?_,rfl,q2⟩⟩
 have hz:(a4f [] kvs).length≤sizeLine:=by
   have h1:=a2T kvs [];rw [List.length_nil] at h1;rw [sizeLine_eq];omega
 have he:∃q,h'.get? s.heap.objs.size=some q:=let ⟨q,_,_,hq,_⟩:=dd';⟨q,hq⟩;exact a6X I2 (by rw [e];exact True.intro) hs he (b2V hz hd (rk.merge .nil) dd')
end L2
end
section
set_option maxHeartbeats 1000000
namespace L2
open PySem PySem.Spec PyProof.Rows
def keyD:Key→PyData
 | .inl i=>.int i
 | .inr x=>.str x
mutual
def RdD (H:Hp):PyData→V→Prop
 | .none,v=>v=.non
 | .bool b,v=>v=.bl b
 | .int i,v=>v=.int i
 | .str x,v=>v=.str x
 | .list xs,v=>∃a vs,v=.ref a∧H a=some (.lst vs)∧RdDs H xs vs
 | .tuple xs,v=>∃a vs,v=.ref a∧H a=some (.tup vs)∧RdDs H xs vs
 | .dict kvs,v=>∃a ws,v=.ref a∧H a=some (.dK ws)∧RdKv H kvs ws
def RdDs (H:Hp):List PyData→List V→Prop
 | [],vs=>vs=[]
 | d::ds,vs=>∃v r,vs=v::r∧RdD H d v∧RdDs H ds r
def RdKv (H:Hp):List (PyData×PyData)→List (Key×V)→Prop
 | [],ws=>ws=[]
 | (k,d)::r,ws=>∃q w ws',ws=(q,w)::ws'∧k=keyD q∧RdD H d w∧RdKv H r ws'
end
section
variable {P:Program}{w:World}{H:Hp}{h:Heap}
mutual
theorem a4Z (hok:HOk P w H h)(sy:NS H):∀(d:PyData) (v:V) (u:Value),RdD H d v→RelV v u→∃as,Reads h u d as∧sysModules∉as
 | .none, v, u, r, e => by
   obtain rfl:v=.non:=r;obtain rfl:u=.none:=e;exact⟨[],.none,nofun⟩
 | .bool b, v, u, r, e => by
   obtain rfl:v=.bl b:=r;obtain rfl:u=.bool b:=e;exact⟨[],.bool b,nofun⟩
 | .int i, v, u, r, e => by
   obtain rfl:v=.int i:=r;obtain⟨t,rfl⟩:=e;exact⟨[],.int i t,nofun⟩
 | .str x, v, u, r, e => by
   obtain rfl:v=.str x:=r;obtain⟨t,rfl⟩:=e;exact⟨[],.str x t,nofun⟩
 | .list xs, v, u, r, e => by
   obtain⟨a,vs,rfl,ha,rs⟩:=r;obtain rfl:u=.ref a:=e;obtain⟨_,its,n,rv,ho⟩:=hok a _ ha;obtain⟨as,rr,ns⟩:=a3Q hok sy xs vs its rs rv;refine⟨a::as,.list ho rfl rfl rr,fun z=>?_⟩;rcases List.mem_cons.mp z with z | z
   · rw [← z] at ha;rcases sy with sy | ⟨o,u,sy⟩ <;> rw [sy] at ha <;> cases ha
   · exact ns z
 | .tuple xs, v, u, r, e => by
   obtain⟨a,vs,rfl,ha,rs⟩:=r;obtain rfl:u=.ref a:=e;obtain⟨_,its,rv,ho⟩:=hok a _ ha;obtain⟨as,rr,ns⟩:=a3Q hok sy xs vs its rs rv;obtain⟨o,e1,e2,n,e3⟩:=ho;exact⟨as,.tuple e1 (Prod.mk.inj e2).1 e3 rr,ns⟩
 | .dict kvs, v, u, r, e => by
   obtain⟨a,ws,rfl,ha,rs⟩:=r;obtain rfl:u=.ref a:=e;obtain⟨_,hs,us,rv,o,es,ep,e1,e2,e3,_,e5,_⟩:=hok a _ ha;obtain⟨as,bs,r1,r2,n1,n2⟩:=a5D hok sy kvs ws us es.toList rs rv e5;refine⟨a::as++bs,.dict e1 e2.1 e3 r1 r2,fun z=>?_⟩;rcases List.mem_append.mp z with z | z
   · rcases List.mem_cons.mp z with z | z
     · rw [← z] at hs;exact absurd hs (by decide)
     · exact n1 z
   · exact n2 z
theorem a3Q (hok:HOk P w H h)(sy:NS H):∀(ds:List PyData) (vs:List V) (us:List Value),RdDs H ds vs→Vals vs us→∃as,ReadsAll h us ds as∧sysModules∉as
 | [], vs, us, r, e => by
   obtain rfl:vs=[]:=r;cases e;exact⟨[],.nil,nofun⟩
 | d :: ds, vs, us, r, e => by
   obtain⟨v,r',rfl,r1,r2⟩:=r;cases e with
   | cons e1 e2 =>
     obtain⟨as,a1,a2⟩:=a4Z hok sy d v _ r1 e1;obtain⟨bs,b1,b2⟩:=a3Q hok sy ds r' _ r2 e2;exact⟨as++bs,.cons a1 b1,fun z=>(List.mem_append.mp z).elim a2 b2⟩
theorem a5D (hok:HOk P w H h)(sy:NS H):∀(kvs:List (PyData×PyData)) (ws:List (Key×V)) (us:List (Key×Value)) (es:List DictEntry),RdKv H kvs ws→KV ws us→Pairs (a0s P w) es us→
   ∃as bs,ReadsAll h (es.map (·.key)) (kvs.map (·.1)) as∧ReadsAll h (es.map (·.val)) (kvs.map (·.2)) bs∧sysModules∉as∧sysModules∉bs
 | [], ws, us, es, r, e, p => by
   obtain rfl:ws=[]:=r;cases e;cases p;exact⟨[],[],.nil,.nil,nofun,nofun⟩
 | (k, d) :: kvs, ws, us, es, r, e, p => by
   obtain⟨q,w1,ws',rfl,rfl,r1,r2⟩:=r;cases e with
   | cons e1 e2 =>
     cases p with
     | cons p1 p2 p3 =>
       obtain⟨as,bs,a1,a2,a3,a4⟩:=a5D hok sy kvs ws' _ _ r2 e2 p3;obtain⟨e1,e1'⟩:=e1;dsimp only at e1 e1';obtain⟨cs,c1,c2⟩:=a4Z hok sy d w1 _ r1 e1';rw [← e1] at p1;refine⟨[]++as,cs++bs,.cons ?_ a1,.cons (by dsimp only;rw [p2];exact c1) a2,a3,fun z=>(List.mem_append.mp z).elim c2 a4⟩;rcases a0G p1 with⟨i,t,rfl,e⟩ | ⟨x,t,rfl,e⟩
       · dsimp only;rw [e];exact .int i t
       · dsimp only;rw [e];exact .str x t
end
end
section
variable {X:Cx}{pins:List (Addr×Obj)}{σ:St}{H:Hp}{s:Shared}
theorem b0G {k:Nat}(hr:Room k X.A):a1Y X (.builtin "repr") (fun vs H Q=>∃v d,vs=[v]∧RdD H d v∧d.showable=true∧d.depth≤40∧d.shown.length≤sizeLine∧Q (.str d.shown) H):=by
 intro pins s σ H vs us Q I rv h;obtain⟨v,d,rfl,r,h1,h2,h3,q⟩:=h;obtain⟨u,rfl,ru⟩:=rv.one;obtain⟨as,rr,ns⟩:=a4Z I.hok I.nos d v u r ru;have fin:∀(h':Heap) (t:Tok) (tk:Tok),(∀b o,s.heap.get? b=some o→h'.get? b=some o)→∃v' H',Inv X pins σ H' { s with heap:=h',toks:=tk }∧RelV v' (.str d.shown t)∧Q v' H':=fun h' t tk kp=>⟨.str d.shown,H,I.kept kp,⟨t,rfl⟩,q⟩;cases rr with
 | none=>exact P.repr_of_none (fin s.heap _ _ fun _ _ z=>z)
 | bool b=>exact P.repr_of_bool (by cases b <;> exact fin s.heap _ _ fun _ _ z=>z)
 | int i t=>exact P.repr_of_int (by simpa [PyData.showable] using h1) (fin s.heap _ _ fun _ _ z=>z)
 | str x t=>exact P.repr_of_str (fin s.heap _ _ fun _ _ z=>z) h3
 | list e1 e2 e3 e4=>exact repr_of_reads' (.list e1 e2 e3 e4) h1 (fun _=>ns) hr.gd (by have:=hr.units;omega) (fun _ _ z=>z) (fun h' u tk kp=>fin h' u tk kp) h3
 | tuple e1 e2 e3 e4=>exact repr_of_reads' (.tuple e1 e2 e3 e4) h1 (fun _=>ns) hr.gd (by have:=hr.units;omega) (fun _ _ z=>z) (fun h' u tk kp=>fin h' u tk kp) h3
 | dict e1 e2 e3 e4 e5=>exact repr_of_reads' (.dict e1 e2 e3 e4 e5) h1 (fun _=>ns) hr.gd (by have:=hr.units;omega) (fun _ _ z=>z) (fun h' u tk kp=>fin h' u tk kp) h3
end
end L2
namespace Pu
open PySem PySem.Spec L2
mutual
/-- what a thing holds, for repr -/
def dat:PV→Option PyData
 | .non=>some .none
 | .bl b=>some (.bool b)
 | .int i=>some (.int i)
 | .str x=>some (.str x)
 | .tup xs=>match dats xs with | some ds=>some (.tuple ds) | none=>none
 | .lst xs=>match dats xs with | some ds=>some (.list ds) | none=>none
 | .dct ks xs=>match dats xs with | some ds=>some (.dict ((ks.map keyD).zip ds)) | none=>none
 | _=>none
def dats:List PV→Option (List PyData)
 | []=>some []
 | x::xs=>match dat x,dats xs with | some d,some ds=>some (d::ds) | _,_=>none
end
theorem kv_rd {H:Hp}:∀(kvs:List (Key×V)) (ds:List PyData),RdDs H ds (kvs.map (·.2))→RdKv H (((kvs.map (·.1)).map keyD).zip ds) kvs
 | [], ds, r => by
   cases ds with
   | nil=>exact rfl
   | cons d ds=>obtain⟨v,r',e,_⟩:=r;cases e
 | (q, w) :: kvs, ds, r => by
   cases ds with
   | nil=>exact(List.cons_ne_nil _ _ r).elim
   | cons d ds =>
     obtain⟨v,r',e,r1,r2⟩:=r;cases e;exact⟨q,w,kvs,rfl,rfl,r1,kv_rd kvs ds r2⟩
section
variable {K:PySem.W.Frag}{G:Gh}{H:Hp}
mutual
theorem b2v:∀(x:PV) (v:V) (d:PyData),Rep K G H x v→dat x=some d→RdD H d v
 | .non,v,d,r,e=>by cases e;exact r
 | .bl b,v,d,r,e=>by cases e;exact r
 | .int i,v,d,r,e=>by cases e;exact r
 | .str x,v,d,r,e=>by cases e;exact r
 | .tup xs, v, d, r, e => by
   obtain⟨a,vs,rfl,t,rs⟩:=r;rw [dat] at e;cases ed:dats xs with
   | none=>rw [ed] at e;cases e
   | some ds=>rw [ed] at e;cases e;exact⟨a,vs,rfl,t.2,a3M xs vs ds rs ed⟩
 | .lst xs, v, d, r, e => by
   obtain⟨a,vs,rfl,t,rs⟩:=r;rw [dat] at e;cases ed:dats xs with
   | none=>rw [ed] at e;cases e
   | some ds=>rw [ed] at e;cases e;exact⟨a,vs,rfl,t.2,a3M xs vs ds rs ed⟩
 | .ty _,v,d,r,e=>by cases e
 | .pot _,v,d,r,e=>by cases e
 | .scr _,v,d,r,e=>by cases e
 | .dct ks xs, v, d, r, e => by
   obtain⟨a,kvs,rfl,_,ha,hk,rs⟩:=r;rw [dat] at e;cases ed:dats xs with
   | none=>rw [ed] at e;cases e
   | some ds=>rw [ed] at e;cases e;exact⟨a,kvs,rfl,ha,hk▸kv_rd kvs ds (a3M xs _ ds rs ed)⟩
theorem a3M:∀(xs:List PV) (vs:List V) (ds:List PyData),Reps K G H xs vs→dats xs=some ds→RdDs H ds vs
 | [],vs,ds,r,e=>by cases e;exact r
 | x :: xs, vs, ds, r, e => by
   obtain⟨v,r',rfl,r1,r2⟩:=r;rw [dats] at e;cases e1:dat x with
   | none=>rw [e1] at e;cases e
   | some d =>
     cases e2:dats xs with
     | none=>rw [e1,e2] at e;cases e
     | some ds'=>rw [e1,e2] at e;cases e;exact⟨v,r',rfl,b2v x v d r1 e1,a3M xs r' ds' r2 e2⟩
end
end
def a5v:w1:=fun x R=>match dat x with | some d=>d.showable=true∧d.depth≤40∧d.shown.length≤sizeLine∧R (.str d.shown) | none=>False
theorem bt_repr:bootBuiltins "repr"=some (.builtin "repr"):=by decide +kernel
section
variable {T:PotK}{ι:Type}{K:PySem.W.Frag}{F:ι→Cx}{e:Expr}{pe:pE}{pos:Pos}
theorem a5b {p:Pos}{k:Nat}(hr:∀z,Room k (F z).A)(hg:∀z,Gl (F z) "repr")(hm:∀z,(F z).mg "repr"=none)(ha:QR T K F e pe)(hs:a0C e=true:=by rfl):QE T K F (.Call (.Name "repr" p) [e] [] pos) (qUn a5v pe):=b2z (fun z=>b0G (hr z)) (fun G H x v R Q hf rx hw k=>by
 unfold a5v at hw;cases ed:dat x with
 | none=>rw [ed] at hw;exact hw.elim
 | some d =>
   rw [ed] at hw;obtain⟨h1,h2,h3,q⟩:=hw;refine⟨v,d,rfl,?_,h1,h2,h3,k _ _ _ q (Same.refl _) rfl⟩;rcases rx with rx | ⟨a,vs,xs,rfl,rfl,hv,rs⟩
   · exact b2v x v d rx ed
   · rw [dat] at ed;cases es:dats xs with
     | none=>rw [es] at ed;cases ed
     | some ds=>rw [es] at ed;cases ed;exact⟨a,vs,rfl,hv,a3M xs vs ds rs es⟩) hg hm bt_repr ha hs
end
end Pu
end
section
set_option maxHeartbeats 1000000
namespace L2
open PySem PySem.Spec PyProof.Rows
def Itd (a:Int)(n:Nat):It:=⟨fun i _=>i < n,fun i H x H'=>H'=H∧x=.int (a - i),fun i _=>n≤i⟩
theorem a8M {P:Program}{w:World}{K:PySem.W.Frag}{tg:Expr}(it:Addr)(lo:Int)(n:Nat):Turn P w K tg (Itd lo n) [it] it (fun i h=>IsRangeIter h it (lo + (i:Nat) * -1) ((n:Int) - (i:Nat)) (-1)) where
 mem:=by simp
 obj:=fun i h st b hb=>by
   have e:b=it:=by simpa using hb
   subst e
   exact⟨_,st,fun v z=>by
     have z':Data.fields _=Data.cell v:=z
     cases z'⟩
 keep:=fun i h h' st k=>k it (by simp) _ st
 item:=by
   intro X hP hw hK hc i pins s σ H E I hf st hg;subst hP hw hK;obtain⟨f0,f1,f2,f3,f4,f5⟩:=hf it (by simp);have W:=Walks.range (prog:=X.prog) (w:=X.w) (I.ok.hd hc) it lo (-1) n;refine W.item i s _ _ hg st fun v h' tk hv st' kk=>?_;obtain⟨t,rfl⟩:=hv;have I1:Inv X pins σ H { s with heap:=h',toks:=tk }:=I.turned (fun b o hb e=>kk b o (by simpa using hb) e) f0 f1 f3 f4 f5;refine⟨_,rfl,b2d (s:={ s with heap:=h',toks:=tk }) (n:="range_iterator") st' rfl rfl (by decide) ⟨.int (lo - i),H,I1,⟨t,?_⟩,⟨rfl,rfl⟩,st',fun b hb=>(hf b hb).1⟩⟩;have e:lo + (i:Int) * -1=lo - i:=by omega
   rw [e]
 done:=by
   intro X hP hw hK hc i pins s σ H E I hf st hg;subst hP hw hK;obtain⟨f0,f1,f2,f3,f4,f5⟩:=hf it (by simp);exact wpAny_pyNext_range_end (I.ok.hd hc) st (by have:n≤i:=hg;omega) fun h' eb=>⟨rfl,I.turned (t':=s.toks) (fun b o hb e=>eb b o hb e) f0 f1 f3 f4 f5⟩
 self:=fun _ _ _ _ _ st h=>wpAny_pyIter_rangeiter st h
end L2
namespace Pu
open PySem PySem.Spec L2
section
variable {T:PotK}{ι:Type}{K:PySem.W.Frag}{F:ι→Cx}{tg a b c:Expr}{pa pb pc:pE}{pos:Pos}
theorem b1Y {K:PySem.W.Frag}{G:Gh}{H:Hp}(lo:Int)(m:Nat):ItR K G H (Itd lo m) ((List.range m).map fun(k:Nat)=>PV.int (lo - k)):=by
 intro G2 H2 hk hM hp hf;refine⟨fun i x e=>?_,fun i hi=>(show m≤i by simpa using hi)⟩;rw [List.getElem?_map] at e;cases e1:(List.range m)[i]? with
 | none=>rw [e1] at e;cases e
 | some j =>
   rw [e1] at e;cases e;obtain⟨hi,e2⟩:=List.getElem?_eq_some_iff.mp e1;rw [List.getElem_range] at e2;subst e2;refine⟨(show i < m by simpa using hi),fun v H3 y=>?_⟩;obtain⟨e3,y⟩:=y;subst e3 y;exact⟨Same.refl _,rfl⟩
end
end Pu
end
section
set_option maxHeartbeats 1000000
namespace L2
open PySem PySem.Spec PyProof.Rows
theorem a2Z:∀{ys:List Str} {us:List Value},Vals (ys.map V.str) us→StrsAre us ys
 | [],us,r=>by rw [List.map_nil] at r;cases r;exact .nil
 | y :: ys, us, r => by
   rw [List.map_cons] at r;cases r with
   | cons r1 r2 =>
     obtain⟨t,e⟩:=r1;subst e;exact .cons y t (a2Z r2)
section
variable {X:Cx}
def b2x (K:PySem.W.Frag):V→List V→Hp→VK→Prop:=fun x vs H Q=>∃(l:Addr) (k:Str) (ys:List Str),x=.ref l∧vs=[.str k]∧SqL K H l (ys.map V.str)∧Q (.int (countIn (.str k) (ys.map PyData.str))) H
theorem b1O:MtM X "list.count" (b2x X.K):=by
 intro pins s σ H x vs v us Q I rx rv h;obtain⟨l,k,ys,rfl,rfl,hq,q⟩:=h;cases rx;obtain⟨u,rfl,ru⟩:=rv.one;obtain⟨t,rfl⟩:=ru;obtain⟨its,r,p,hz⟩:=I.list hq;exact count_list_strs p.isList (a2Z r) ⟨.int _,H,I.tok _,⟨_,rfl⟩,q⟩
end
end L2
namespace Pu
open PySem PySem.Spec PyProof.Rows L2
section
variable {T:PotK}{ι:Type}{K:PySem.W.Frag}{F:ι→Cx}{e c:Expr}{pe pc:pE}{pos:Pos}
def a7g:w2:=fun x y R=>match x,y with | .lst xs,.str k=>(match a2Y xs with | some ys=>R (.int (countIn (.str k) (ys.map PyData.str))) | none=>False) | _,_=>False
theorem b1x {ap:Pos}(he:QE T K F e pe)(hc:QE T K F c pc)(hs:a0C c=true:=by rfl)(hbase:∀z,attributeBase e "count" (F z).env (eval e (F z).env)=eval e (F z).env:=by intro _;rfl)(hline:(ap.endLine == pos.line)=true:=by rfl)
   (hfew:∀z,((backTo pos (starEach [c] (F z).env)).all (fun x=>!x.1) && (backToKw pos (keywordEach [] (F z).env)).all (fun x=>x.1.isSome) && decide (([c]:List Expr).length + ([]:List Keyword).length + (if([]:List Keyword).isEmpty then 0 else 1) < 30))=true:=by intro _;rfl) (hK:∀z,(F z).K=K:=by intro _;rfl):QE T K F (.Call (.Attribute e "count" ap) [c] [] pos) (fun env n R=>pe env n fun x env1 n1=>(∃xs,x=.lst xs)∧pc env1 n1 fun y env2 n2=>a7g x y fun z=>R z env2 n2):=by
 obtain⟨t,a1,a2⟩:=he;obtain⟨u,b1,b2⟩:=hc;refine⟨tBM K "list" (b2x K) t (a3L u tNil),fun z=>hK z▸b1H PySem.F.plainAttrs_list PySem.F.slot_list_count PySem.F.type_list_count b1O (a1 z) (a0r (b1 z) a0K (a0e hs)) (hbase z) (hfew z) hline (a0e hs),fun C G σ H env n R Q hK hT S hp k=>?_⟩;refine a2 C G σ H env n _ _ hK hT S hp fun x env1 n1 v H1 q1 S1 r1 f1=>?_;obtain⟨⟨xs,rfl⟩,q1⟩:=q1;obtain⟨a,vs,rfl,ta,ra⟩:=r1;refine⟨.inl ⟨rfl,vs,SqL.of ta.2⟩,?_⟩;refine b2 C G σ H1 env1 n1 _ _ hK hT S1 q1 fun y env2 n2 w H2 q2 S2 r2 f2=>?_;unfold a7g at q2
 split at q2
 · rename_i xs' kk e1;cases e1
   split at q2
   · rename_i ys ey;obtain⟨a',vs',e3,ta',ra'⟩:=(show Rep K G H1 (.lst xs) (.ref a) from⟨a,vs,rfl,ta,ra⟩).fr f2;cases e3;exact⟨a,kk,ys,rfl,by rw [show w=.str kk from r2],a2K ey ra'▸SqL.of ta'.2,k _ _ _ _ _ q2 S2 rfl (f1.trans f2)⟩
   · exact q2.elim
 · exact q2.elim
end
end Pu
namespace Pu
def b2B (pe pc:pE):pE:=fun env n R=>pe env n fun x env1 n1=>(∃xs,x=.lst xs)∧pc env1 n1 fun y env2 n2=>a7g x y fun z=>R z env2 n2
end Pu
end
section
set_option maxHeartbeats 1000000
namespace L2
open PySem PySem.Spec PyProof.Rows
theorem a8e {X:Cx}{scope:Scope}{cl:List (Str×Addr)}{N:List Str}{cs:List (Option Nat)}{elt tg iter:Expr}{ifs:List Expr}{pos spos py:Pos}{wi:TI}{g:TG}{tt:TT}{te:TE}{i:Nat}{y:Str}(hN:X.N.Nodup)(hiy:X.N[i]?=some y)(hy:Loc X.env.scope y)(S:a1i X scope cl N cs)(hc:X.calm=true)(hi:PI X tg iter wi)
   (hb:∀(fp:List Addr) (C:Addr) (s:Shared) (H:Hp),PG (a0m X scope cl N fp C s H) tg g∧PIf (a0m X scope cl N fp C s H) ifs tt∧PE (a0m X scope cl N fp C s H) elt te)
   (hsw:swapsWith (.ListComp elt [⟨tg,iter,ifs,0⟩] scope pos) (some (.Name y py)) spos.line X.env=pure true:=by rfl)
   (hs:∀x,foldedSetIterable iter X.env x=pure x:=by intro _;rfl) (hff:X.fn y=true∨X.env.scope.names.lookup y=some .local:=by first | exact .inl rfl | exact .inr rfl | assumption) :
   PS X (.Assign [.Name y py] (.ListComp elt [⟨tg,iter,ifs,0⟩] scope pos) spos) (tAsg (tComp cs wi g tt te) (a1P i)):=by
 have bn:∀(M:Model) (A:Around) (v:Value) (Q:Unit→Shared→Prop) (E:Value→Shared→Prop) (s:Shared),wpAny M A (storeName X.env y v) Q E s→wpAny M A (assign (.Name y py) X.env v) Q E s:=fun M A v Q E s h=>wpAny_assign_Name h;intro pins s σ H DD I h;rw [exec_Assign_Name_used _ _ _ _ hsw];refine wpAny_bind (wpAny_standAt (wpAny_bind ?_));show wpAny _ _ (do let _ ← comprehension (.ListComp elt [⟨tg,iter,ifs,0⟩] scope pos) scope X.env _ (newList []) false (eval iter X.env) (some (assign (.Name y py) X.env))) _ _ s;refine wpAny_bind (wpAny_mono (Q:=fun _ s'=>SP X pins DD .next s') ?_ (fun _ s' hq=>wpAny_pure (wpAny_pure hq)) fun _ _ e=>e);refine wpAny_comprehension_free (use:=some (assign (.Name y py) X.env)) rfl hs S.clos S.kind S.names (thn (hi pins s σ H _ I h) fun v s1 h1=>thn h1 fun itv s2 h2=>?_);obtain⟨it,fp,tn,J,H2,rfl,I2,T,st2,f2,q⟩:=h2
 have ho:∀b∈fp,∃o,s2.heap.get? b=some o:=fun b hb=>by
   obtain⟨o,e,_⟩:=T.obj 0 _ st2 b hb;exact⟨o,e⟩
 refine wpAny_newObj_type (wpAny_newFunctionEnv S.nocell (by intro y hy;simp at hy) (fun h₁ hns₁ hsb₁=>?_) S.kind);dsimp only at hns₁ hsb₁ ⊢;have hC:(s2.heap.push { cls:=.type "list",dict:=none,data:=.seq ([]:List Value).toArray }).objs.size=s2.heap.objs.size + 1:=by rw [Heap.size_push]
 generalize hH2:s2.heap.push { cls:=.type "list",dict:=none,data:=.seq ([]:List Value).toArray }=hp2 at hns₁ hsb₁ hC ⊢;have old:∀b o,s2.heap.get? b=some o→h₁.get? b=some o:=fun b o e=>hsb₁.extBut b o (by rw [hC];exact Nat.ne_of_lt (Nat.lt_succ_of_lt (Heap.lt_size e))) (Heap.get?_push_of_some _ (hH2▸Heap.get?_push_of_some _ e));have hD:h₁.get? s2.heap.objs.size=some { cls:=.type "list",data:=.seq ([]:List Value).toArray }:=hsb₁.extBut _ _ (by rw [hC];exact Nat.ne_of_lt (Nat.lt_succ_self _)) (Heap.get?_push_of_some _ (hH2▸Heap.get?_push_size _ rfl));rw [hC] at hns₁ ⊢;obtain⟨W,⟨m0,w0⟩,turn⟩:=q s2.heap.objs.size I2.fresh;have Ic:=a5o S (tk:=s2.toks + ([]:List (Str×Value)).length) I2 f2 ho old hns₁ hD;have nstk:∀b,b≠X.env.locals→b∉X.fs→b∉frs X.stack:=fun b h1 h2 hb=>(List.mem_cons.mp (I2.stkSub b hb)).elim h1 h2
 have stat:∀{H':Hp},(∀b∈fp,H' b=none)→∀b∈fp,FpOk (a0m X scope cl N fp (s2.heap.objs.size + 1) s2 H2) pins H' b:=fun hn b hb=>by
   obtain⟨o,e⟩:=ho b hb;exact⟨hn b hb,Nat.ne_of_lt (Nat.lt_succ_of_lt (Heap.lt_size e)),nstk b (f2 b hb).2.1 (f2 b hb).2.2.1,.inl hb,fun x c ec=>(f2 b hb).2.2.2.2.1 x c (S.sub x c ec),(f2 b hb).2.2.2.2.2⟩
 obtain⟨hg,hf,he⟩:=hb fp (s2.heap.objs.size + 1) s2 H2;have st1:tn 0 h₁:=T.keep _ _ _ st2 fun b hb o e=>old b o e
 have fr1:∀b∈fp,upd H2 s2.heap.objs.size (.lst []) b=none:=fun b hb=>by
   obtain⟨o,e⟩:=ho b hb;rw [a0j (Nat.ne_of_lt (Heap.lt_size e))];exact(f2 b hb).1
 have loop:∀s₃:Shared,s₃={ s2 with heap:=h₁,toks:=s2.toks + ([]:List (Str×Value)).length }→
     codeAny (model X.prog X.w) X.A (.compLoop (.ListComp elt [⟨tg,iter,ifs,0⟩] scope pos) 0 (.ref it) (.ref s2.heap.objs.size) (compEnvC scope cl (s2.heap.objs.size + 1) X.env))
       (compPost (model X.prog X.w) X.A X.xe (some (assign (.Name y py) X.env)) (fun _ s'=>SP X pins DD .next s') (.ref s2.heap.objs.size) (s2.heap.objs.size + 1)) s₃:=by
   rintro s₃ rfl;refine a4r (fun n s'=>∃i σ' H',Inv (a0m X scope cl N fp (s2.heap.objs.size + 1) s2 H2) pins σ' H' s'∧tn i s'.heap∧(∀b∈fp,H' b=none)∧W i n σ' H') ?_ m0 ⟨0,_,_,Ic,st1,fr1,w0⟩;rintro n s3 ⟨i,σ3,H3,I3,st3,fr3,w3⟩;rcases turn i n σ3 H3 w3 with⟨stop,qn⟩ | ⟨go,step⟩
   · refine thn (T.done (a0m X scope cl N fp (s2.heap.objs.size + 1) s2 H2) rfl rfl rfl hc i pins s3 σ3 H3 (fun _ _=>False) I3 (stat fr3) st3 stop) fun r s4 ⟨hr,I4⟩=>?_;subst hr;obtain⟨m4,hn4,_⟩:=I4.loc;have I5:Inv X pins σ H3 s4:=Inv.uncomp (h':=s4.heap) I2 f2 I4 fun b hb=>rfl;have oldne:∀b o,s2.heap.get? b=some o→b≠s2.heap.objs.size + 1:=fun b o e=>Nat.ne_of_lt (Nat.lt_succ_of_lt (Heap.lt_size e));have locne:X.env.locals≠s2.heap.objs.size + 1:=Nat.ne_of_lt (Nat.lt_succ_of_lt I2.lt)
     have cellne:∀x c,X.env.cells.lookup x=some c→c≠s2.heap.objs.size + 1:=fun x c e=>by
       obtain⟨v,o,h1,_⟩:=I2.cell x c e;exact oldne c o h1
     refine bn _ _ _ _ _ _ (a5y I5 hN hiy hy (v:=.ref s2.heap.objs.size) rfl (fun s6 I6 ⟨a6,sb6,ha6⟩=>?_) hff)
     have ane:s2.heap.objs.size + 1≠a6:=by
       rcases ha6 with rfl | ha6
       · exact Ne.symm locne
       · exact Ne.symm (cellne _ _ ha6)
     refine⟨m4,hn4.sameBut sb6 ane,fun h' hs'=>⟨_,H3,?_,qn⟩⟩;have hs7:∀b,b≠s2.heap.objs.size + 1→h'.get? b=s6.heap.get? b:=fun b hb=>hs'.2 b hb;have U0:Un (frs X.stack) [s2.heap.objs.size + 1] H3 H3 s6.heap s6.heap:=Un.refl
     have trC:∀b u,H3 b=some u→b≠s2.heap.objs.size + 1:=fun b u e z=>by
       have q:H3 (s2.heap.objs.size + 1)=none:=I4.free;rw [z,q] at e;cases e
     obtain⟨hh6,g6,d6,t6,os6⟩:=s6;refine I6.call (h':=h') (g':=g6) (d':=d6) (t':=t6) (ch:=[s2.heap.objs.size + 1]) ⟨fun b o e n hb hx=>?_,fun b o e n hb hx=>?_,U0.free,fun b o e hx=>?_,U0.tups,U0.frzs,U0.tbls,U0.sys⟩ (fun b u e=>?_) I6.bare fun b hb=>?_
     · have hb':b≠s2.heap.objs.size + 1:=fun z=>hx (by rw [z];exact List.mem_singleton.mpr rfl);rw [hs7 b hb'];exact U0.keep b o e n hb hx
     · have hb':b≠s2.heap.objs.size + 1:=fun z=>hx (by rw [z];exact List.mem_singleton.mpr rfl);rw [hs7 b hb'];exact U0.slot b o e n hb hx
     · have hb':b≠s2.heap.objs.size + 1:=fun z=>hx (by rw [z];exact List.mem_singleton.mpr rfl);rw [hs7 b hb'];exact U0.there b o e hx
     · refine(I6.hok b u e).stay (fun c v hc q=>?_) (fun _ q=>q) fun _ _ q=>q
       have ne:c≠s2.heap.objs.size + 1:=by
         rcases hc with z | z
         · rw [z];exact trC b u e
         · exact trC c _ z
       rw [hs7 c ne];exact q
     · rw [List.mem_singleton.mp hb];refine⟨.inr (Nat.le_succ_of_le I2.sz),Ne.symm locne,cellne,fun p hp=>?_⟩;exact oldne _ _ (I2.pin p hp).1
   · refine thn (T.item (a0m X scope cl N fp (s2.heap.objs.size + 1) s2 H2) rfl rfl rfl hc i pins s3 σ3 H3 (fun _ _=>False) I3 (stat fr3) st3 go) fun r s4 ⟨u,hr,h4⟩=>?_;subst hr;refine thn h4 fun _ s5 ⟨x,H5,I5,r5,y5,st5,fr5⟩=>?_;have I5':=I5.pinned (stat fr5) (T.obj _ _ st5);refine thn (hg _ s5 σ3 H5 x u _ I5' r5 (step x H5 y5)) fun _ s6 ⟨σ6,H6,I6,q6⟩=>?_
     have again:∀{σ7:St} {H7:Hp} {s7:Shared},Inv (a0m X scope cl N fp (s2.heap.objs.size + 1) s2 H2) (pins++a1v fp s5.heap) σ7 H7 s7→(∃m',m' < n∧W (i + 1) m' σ7 H7)→
         ∃m,m < n∧∃i σ' H',Inv (a0m X scope cl N fp (s2.heap.objs.size + 1) s2 H2) pins σ' H' s7∧tn i s7.heap∧(∀b∈fp,H' b=none)∧W i m σ' H':=fun {σ7 H7 s7} I7 n7=>by
       obtain⟨m',hm,w7⟩:=n7;refine⟨m',hm,i + 1,σ7,H7,I7.unpinned,T.keep _ _ _ st5 fun b hb o e=>(I7.pin (b,o) (List.mem_append_right _ (List.mem_append_right _ (a0J hb e)))).1,fun b hb=>?_,w7⟩;obtain⟨o,e,d⟩:=T.obj _ _ st5 b hb;exact(I7.pin (b,o) (List.mem_append_right _ (List.mem_append_right _ (a0J hb e)))).2.1
     refine thn (hf _ s6 σ6 H6 _ I6 q6) fun ok s7 ⟨H7,I7,q7⟩=>?_;cases ok with
     | false=>exact again I7 q7
     | true =>
       refine thn (he _ s7 σ6 H7 _ I7 q7) fun y s8 ⟨v8,H8,I8,r8,ys,e8,z8,n8⟩=>?_
       have ma:=a2R (X:=a0m X scope cl N fp (s2.heap.objs.size + 1) s2 H2) _ s8 σ6 H8 (.ref s2.heap.objs.size) [v8] (.ref s2.heap.objs.size) [y]
         (fun v H9=>∃m',m' < n∧W (i + 1) m' σ6 H9) I8 rfl (.cons r8 .nil) ⟨_,ys,v8,rfl,rfl,e8,z8,n8⟩
       exact thn ma fun _ s9 ⟨v9,H9,I9,_,q9⟩=>again I9 q9
 exact codeAny_compStart_list (loop _ rfl) (T.self _ 0 _ _ _ st1 (loop _ rfl))
end L2
namespace Pu
open PySem PySem.Spec L2
def SwOk (X:Cx)(e:Expr)(t:TE):Prop:=∀(i:Nat) (y:Str) (py spos:Pos),X.N.Nodup→X.N[i]?=some y→Loc X.env.scope y→swapsWith e (some (.Name y py)) spos.line X.env=pure true→(X.fn y=true∨X.env.scope.names.lookup y=some .local)→PS X (.Assign [.Name y py] e spos) (tAsg t (a1P i))
def QNC {ι:Type}(T:PotK)(K:PySem.W.Frag)(F:ι→Cx)(e:Expr)(pn:pA):Prop:=∃t,(∀z,PE (F z) e t)∧(∀z,SwOk (F z) e t)∧NOk K T t pn
section
variable {T:PotK}{np:Bool}{ι:Type}{K:PySem.W.Frag}{F:ι→Cx}{e:Expr}{pl:pA}{pg:pG}{pos:Pos}
theorem b3q {scope:Scope}{cl:ι→List (Str×Addr)}{N:List Str}{cs:List (Option Nat)}{elt tg iter:Expr}{ifs:List Expr}{pi:pA}{ptt:pT}{pte:pE}(S:∀z,a1i (F z) scope (cl z) N cs)(hc:∀z,(F z).calm=true)(hi:QI T K F tg iter pi)
   (hg:QG K (fun y:ι×List Addr×Addr×Shared×Hp=>a0m (F y.1) scope (cl y.1) N y.2.1 y.2.2.1 y.2.2.2.1 y.2.2.2.2) tg pg) (ht:QIf T K (fun y:ι×List Addr×Addr×Shared×Hp=>a0m (F y.1) scope (cl y.1) N y.2.1 y.2.2.1 y.2.2.2.1 y.2.2.2.2) ifs ptt)
   (he:QE T K (fun y:ι×List Addr×Addr×Shared×Hp=>a0m (F y.1) scope (cl y.1) N y.2.1 y.2.2.1 y.2.2.2.1 y.2.2.2.2) elt pte)
   (hs:∀z x,foldedSetIterable iter (F z).env x=pure x:=by intro _ _;rfl):QNC T K F (.ListComp elt [⟨tg,iter,ifs,0⟩] scope pos) (a9p cs pi pg ptt pte):=by
 obtain⟨wi,i1,i2⟩:=hi;obtain⟨g,hg0,hg⟩:=hg;obtain⟨tt,ht0,ht⟩:=ht;obtain⟨te,he0,he⟩:=he;refine⟨_,fun z=>a9y (S z) (hc z) (i1 z) (fun fp C s H=>⟨hg0 (z,fp,C,s,H),ht0 (z,fp,C,s,H),he0 (z,fp,C,s,H)⟩) (hs z),fun z i y py spos hN hi hy hsw hf=>a8e hN hi hy (S z) (hc z) (i1 z) (fun fp C s H=>⟨hg0 (z,fp,C,s,H),ht0 (z,fp,C,s,H),he0 (z,fp,C,s,H)⟩) hsw (hs z) hf,fun C G σ H env n R Q hK hT S hp k=>?_⟩;refine i2 C G σ H env n _ _ hK hT S hp fun xs env1 n1 J H1 p1 S1 f1 hJ=>?_;intro D hD;have hDM:=S1.fresh hD;refine b0D (G:=G) hg ht he hJ p1.1 hD (hT▸hK▸a6Y S1 cs) p1.2 fun ys n2 us H' rr hpots hk eD ry=>?_
 -- the heap without D
 have nD:∀b o,H1 b=some o→b≠D:=fun b o e z=>by rw [z,hD] at e;cases e
 have hD0:C.H0 D=none:=by
   cases z:C.H0 D with
   | none=>rfl
   | some o =>
     by_cases hp:D∈C.pots0
     · exact absurd (S1.sup D (S1.p0.1 D hp)) hDM
     · have:=S1.frame D o hp z;rw [hD] at this;cases this
 have hk2:∀b o,b∉G.pots→H1 b=some o→cutH H' D b=some o:=fun b o hb e=>by rw [a1f (nD b o e)];exact hk b o hb e
 have nc:∀b,b∉D::G.M→b≠D:=fun b hb z=>hb (by rw [z];exact List.mem_cons_self);have np:∀p∈G.pots,p≠D:=fun p hp z=>hDM (z▸(S1.pots p hp).1)
 have Sb:SR C G σ (cutH H' D) env1 n2:=S1.call hk2 fun p hp=>by
   subst hT;have h2:=C.T.keep (hpots p hp) (H':=cutH H' D) (a1f (np p hp)) fun b o hb e=>by rw [a1f (nc b hb)];exact e
   exact C.T.more h2 fun a ha=>.inl (List.mem_cons_of_mem _ ha)
 have:=k ys env1 n2 D us (cutH H' D) rr Sb (f1.trans fun b o hb e=>hk2 b o (fun z=>hb (S1.pots b z).1) e) (by unfold cutH;rw [if_pos rfl]) ?_
 · rw [a4S eD] at this;exact this
 · exact Reps.mono (G:=⟨D::G.M,G.pots⟩) (fun b o hb e=>by rw [a1f (nc b hb)];exact e) (fun a ha=>.inl (List.mem_cons_of_mem _ ha)) (fun _ _ e=>e) _ _ ry
theorem b3k (i:Nat){y:Str}{py spos:Pos}(h:QNC T K F e pl)(hN:∀z,(F z).N.Nodup)(hi:∀z,(F z).N[i]?=some y)(hy:∀z,Loc (F z).env.scope y)(hsw:∀z,swapsWith e (some (.Name y py)) spos.line (F z).env=pure true:=by intro _;rfl)(hf:∀z,(F z).fn y=true∨(F z).env.scope.names.lookup y=some .local:=by intro _;first | exact .inl rfl | exact .inr rfl):QS T np K F (.Assign [.Name y py] e spos) (qSet i (qL pl)):=by
 obtain⟨t,a1,a3,a2⟩:=h
 have he:EOk K T t (qL pl):=fun C G σ H env n R Q hK hT S hp k=>by
   refine a2 C G σ H env n _ _ hK hT S hp fun xs env1 n1 a vs Hb p1 S1 f1 hn r1=>?_;exact k _ _ _ _ _ p1 (S1.same (Same.lay1 hn)) (a4Y (S1.fresh hn) hn r1) (f1.trans (Fr.of (Same.lay1 hn)))
 refine⟨_,fun z=>a3 z i y py spos (hN z) (hi z) (hy z) (hsw z) (hf z),fun C G σ H env n PD D hK hT hn S hp L=>?_⟩;refine he C G σ H env n _ _ hK hT S hp fun x env1 n1 v H1 q1 S1 r1 f1=>?_;exact L.nx _ _ _ _ _ q1 (S1.set i (hK▸r1)) (Ext.fr f1)
end
end Pu
end
section
set_option maxHeartbeats 1000000
namespace Pu
open PySem PySem.Spec L2
def shK:Key→Prop
 | .inl i=>i.natAbs < 10 ^ 60
 | .inr x=>∀c∈x.cps.toList,c < 16 ^ 8
def b0C:Key→Nat
 | .inl _=>61
 | .inr x=>10 * x.length + 2
mutual
def shw:PV→Prop
 | .non=>True
 | .bl _=>True
 | .int i=>i.natAbs < 10 ^ 60
 | .str x=>∀c∈x.cps.toList,c < 16 ^ 8
 | .tup xs=>shws xs
 | .lst xs=>shws xs
 | .dct ks xs=>(∀k∈ks,shK k)∧shws xs
 | _=>False
def shws:List PV→Prop
 | []=>True
 | x::xs=>shw x∧shws xs
end
mutual
def cost:PV→Nat
 | .non=>4
 | .bl _=>5
 | .int _=>61
 | .str x=>10 * x.length + 2
 | .tup xs=>a4C xs + 3
 | .lst xs=>a4C xs + 3
 | .dct ks xs=>(ks.map fun k=>b0C k + 4).sum + a4C xs + 3
 | _=>0
def a4C:List PV→Nat
 | []=>0
 | x::xs=>cost x + 2 + a4C xs
end
mutual
def dep:PV→Nat
 | .tup xs=>deps xs + 1
 | .lst xs=>deps xs + 1
 | .dct _ xs=>deps xs + 1
 | _=>0
def deps:List PV→Nat
 | []=>0
 | x::xs=>max (dep x) (deps xs)
end
theorem a7D {i:Int}(h:i.natAbs < 10 ^ 60):(Str.ofString (toString i)).length≤61:=by
 have e:=int_text_length_le10 (k:=60) (by decide) h;rw [ofString_length];omega
theorem a3w {i:Int}(h:i.natAbs < 10 ^ 60):i.natAbs.log2 < 1920:=by
 by_cases h0:i.natAbs=0
 · rw [h0];decide
 · exact(Nat.log2_lt h0).mpr (Nat.lt_trans h (by decide +kernel))
theorem key_ok {k:Key}(h:shK k):(keyD k).showable=true∧(keyD k).depth=0∧(keyD k).shown.length≤b0C k:=by
 cases k with
 | inl i=>exact⟨by simpa [keyD,PyData.showable] using a3w h,by simp [keyD,PyData.depth],by simpa [keyD,PyData.shown,b0C] using a7D h⟩
 | inr x=>exact⟨by simp [keyD,PyData.showable],by simp [keyD,PyData.depth],by simpa [keyD,PyData.shown,b0C] using StrLaws.reprText_len x h⟩
theorem kv_ok:∀(ks:List Key) (ds:List PyData),(∀k∈ks,shK k)→PyData.showableAll ds=true→PyData.showableKv ((ks.map keyD).zip ds)=true∧PyData.depthKv ((ks.map keyD).zip ds)≤PyData.depthAll ds∧((PyData.shownKv ((ks.map keyD).zip ds)).map (·.length)).sum + 2 * (PyData.shownKv ((ks.map keyD).zip ds)).length≤(ks.map fun k=>b0C k + 4).sum + ((PyData.shownAll ds).map (·.length)).sum + 2 * ds.length
 | [],ds,_,_=>by simp [PyData.showableKv,PyData.depthKv,PyData.shownKv]
 | k::ks,[],_,_=>by simp [PyData.showableKv,PyData.depthKv,PyData.shownKv]
 | k :: ks, d :: ds, hk, hd => by
   have hd':d.showable=true∧PyData.showableAll ds=true:=by simpa [PyData.showableAll] using hd
   obtain⟨h1,h2,h3⟩:=kv_ok ks ds (fun x hx=>hk x (List.mem_cons_of_mem _ hx)) hd'.2;obtain⟨g1,g2,g3⟩:=key_ok (hk k List.mem_cons_self);refine⟨?_,?_,?_⟩
   · simp [PyData.showableKv,g1,hd'.1,h1]
   · simp only [List.map_cons,List.zip_cons_cons,PyData.depthKv,PyData.depthAll,g2];omega
   · simp only [List.map_cons,List.zip_cons_cons,PyData.shownKv,PyData.shownAll,List.sum_cons,List.length_cons];rw [strLen_append,strLen_append];have:(Str.ofString ": ").length=2:=rfl;omega
theorem a6W (ps:List Str):(dictText ps).length≤(ps.map (·.length)).sum + 2 * ps.length + 3:=by
 have h:(Str.join ", " ps).length≤(ps.map (·.length)).sum + ps.length * 2:=StrLaws.join_length_le ", " ps
 have e:(dictText ps).length=1 + (Str.join ", " ps).length + 1:=by
   unfold dictText;rw [strLen_append,strLen_append];rfl
 omega
mutual
theorem a8U:∀(x:PV),shw x→∃d,dat x=some d∧d.showable=true∧d.depth≤dep x∧d.shown.length≤cost x
 | .non,_=>⟨_,rfl,by simp [PyData.showable],by simp [PyData.depth],by simp only [PyData.shown,cost];decide⟩
 | .bl b,_=>⟨_,rfl,by simp [PyData.showable],by simp [PyData.depth],by simp only [PyData.shown,cost];cases b <;> decide⟩
 | .int i,h=>⟨_,rfl,by simpa [PyData.showable] using a3w h,by simp [PyData.depth],by simpa [PyData.shown,cost] using a7D h⟩
 | .str x,h=>⟨_,rfl,by simp [PyData.showable],by simp [PyData.depth],by simpa [PyData.shown,cost] using StrLaws.reprText_len x h⟩
 | .tup xs, h => by
   obtain⟨ds,e,h1,h2,h3,h4⟩:=a3E xs h;refine⟨.tuple ds,by rw [dat,e],by simpa [PyData.showable] using h1,by simp only [PyData.depth,dep];omega,?_⟩;have:=tupleText_len_le (PyData.shownAll ds);have e2:=PyData.shownAll_length ds;simp only [PyData.shown,cost];omega
 | .lst xs, h => by
   obtain⟨ds,e,h1,h2,h3,h4⟩:=a3E xs h;refine⟨.list ds,by rw [dat,e],by simpa [PyData.showable] using h1,by simp only [PyData.depth,dep];omega,?_⟩;have:=listText_len_le (PyData.shownAll ds);have e2:=PyData.shownAll_length ds;simp only [PyData.shown,cost];omega
 | .dct ks xs, h => by
   have h':(∀k∈ks,shK k)∧shws xs:=h;obtain⟨ds,e,h1,h2,h3,h4⟩:=a3E xs h'.2;obtain⟨g1,g2,g3⟩:=kv_ok ks ds h'.1 h1;refine⟨.dict ((ks.map keyD).zip ds),by rw [dat,e],by simpa [PyData.showable] using g1,by simp only [PyData.depth,dep];omega,?_⟩;have:=a6W (PyData.shownKv ((ks.map keyD).zip ds));simp only [PyData.shown,cost];omega
 | .ty _,h=>h.elim
 | .pot _,h=>h.elim
 | .scr _,h=>h.elim
theorem a3E:∀(xs:List PV),shws xs→∃ds,dats xs=some ds∧PyData.showableAll ds=true∧PyData.depthAll ds≤deps xs∧ds.length=xs.length∧((PyData.shownAll ds).map (·.length)).sum + 2 * ds.length≤a4C xs
 | [],_=>⟨[],rfl,by simp [PyData.showableAll],by simp [PyData.depthAll],rfl,by simp [PyData.shownAll,a4C]⟩
 | x :: xs, h => by
   have h':shw x∧shws xs:=h;obtain⟨d,e,a1,a2,a3⟩:=a8U x h'.1;obtain⟨ds,e2,b1,b2,b3,b4⟩:=a3E xs h'.2;refine⟨d::ds,by rw [dats,e,e2],by simp [PyData.showableAll,a1,b1],by simp only [PyData.depthAll,deps];omega,by simp [b3],?_⟩;simp only [PyData.shownAll,a4C,List.map_cons,List.sum_cons,List.length_cons];omega
end
def a8T (x:PV):Str:=match dat x with | some d=>d.shown | none=>Str.ofString ""
theorem a2i {x:PV}{R:PV→Prop}(h:shw x)(h1:dep x≤40)(h2:cost x≤10000000)(q:R (.str (a8T x))):a5v x R:=by
 obtain⟨d,e,a1,a2,a3⟩:=a8U x h;unfold a5v a8T at *;rw [e] at q ⊢;exact⟨a1,by omega,by unfold sizeLine;omega,q⟩
theorem a8S:∀(xs:List PV),(∀x∈xs,shw x)→shws xs
 | [],_=>trivial
 | x::xs,h=>⟨h x List.mem_cons_self,a8S xs fun y hy=>h y (List.mem_cons_of_mem _ hy)⟩
theorem b0y (k:Nat):∀(xs:List PV),(∀x∈xs,dep x≤k)→deps xs≤k
 | [],_=>Nat.zero_le _
 | x :: xs, h => by
   have:=h x List.mem_cons_self;have:=b0y k xs fun y hy=>h y (List.mem_cons_of_mem _ hy);simp only [deps];omega
theorem a7M (k:Nat):∀(xs:List PV),(∀x∈xs,cost x≤k)→a4C xs≤(k + 2) * xs.length
 | [],_=>Nat.zero_le _
 | x :: xs, h => by
   have h1:=h x List.mem_cons_self;have h2:=a7M k xs fun y hy=>h y (List.mem_cons_of_mem _ hy);simp only [a4C,List.length_cons,Nat.mul_succ];omega
end Pu
end
section
set_option maxHeartbeats 3200000
namespace L2
open PySem PySem.Spec PyProof.Rows
def met (val:Nat→Key):Nat→List Key
 | 0=>[]
 | i + 1=>if(met val i).any (fun y=>decide (y=val i)) then met val i else met val i++[val i]
theorem b2J (val:Nat→Key):∀i,(met val i).length≤i
 | 0=>Nat.le_refl _
 | i + 1 => by
   have:=b2J val i;unfold met
   split
   · omega
   · rw [List.length_append,List.length_singleton];omega
theorem b3N (val:Nat→Key)(i:Nat)(k:Key):(met val (i + 1)).any (fun y=>decide (y=k))=((met val i).any (fun y=>decide (y=k)) || decide (k=val i)):=by
 show(if(met val i).any (fun y=>decide (y=val i)) then met val i else met val i++[val i]).any (fun y=>decide (y=k))=_
 by_cases hk:k=val i
 · subst hk;rw [decide_eq_true rfl,Bool.or_true]
   split
   · assumption
   · rw [List.any_append];simp
 · rw [decide_eq_false hk,Bool.or_false]
   split
   · rfl
   · rw [List.any_append]
     have:([val i].any (fun y=>decide (y=k)))=false:=by
       rw [List.any_cons,List.any_nil,Bool.or_false];exact decide_eq_false (Ne.symm hk)
     rw [this,Bool.or_false]
theorem b3M (val:Nat→Key)(i:Nat):(met val (i + 1)).length=if(met val i).any (fun y=>decide (y=val i)) then(met val i).length else(met val i).length + 1:=by
 show(if(met val i).any (fun y=>decide (y=val i)) then met val i else met val i++[val i]).length=_
 split
 · rfl
 · rw [List.length_append,List.length_singleton]
section
variable {prog:Program}{w:World}{A:Around}{R:Result→Shared→Prop}{I:Addr}{fp wr:List Addr}{G:Array GenState→Array GenState→Prop}{n:Nat}{P:Nat→Value→Prop}{St:Nat→Shared→Prop}
theorem b1l (Wk:WalksS prog w A.in1 I fp wr G n P St)(S:Addr)(nf:S∉fp)(val:Nat→Key)(hv:∀i v,P i v→(a0s prog w).is (val i) v=true∧v.scannable=true)(room:n + 1 < scanBound) :
   ∀ (k i : Nat) (s : Shared), n - i = k → i ≤ n → St i s → s.heap.SetOf (a0s prog w) S (fun q => (met val i).any (fun y => decide (y = q))) (met val i).length →
     (∀s',Moved (S::wr) G s s'→s'.heap.SetOf (a0s prog w) S (fun q=>(met val n).any (fun y=>decide (y=q))) (met val n).length→R (.ok (.ret .none)) s')→
     codeAny (model prog w) A (.builtin "set.update.loop" ⟨[.ref S,.ref I],[]⟩) R s:=by
 have nw:S∉wr:=fun h=>nf (Wk.sub _ h);have sub:∀b∈wr,b∈S::wr:=fun b hb=>List.mem_cons_of_mem _ hb;intro k
 induction k with
 | zero =>
   intro i s hk hi st so fin;have ei:i=n:=by omega
   subst ei;refine codeAny_builtin F.entry_set_update_loop ?_;rw [Around.under_plainId F.plain_set_update_loop _];refine wpAny_bind (m:=pyNext (.ref I)) (Wk.done s _ _ st fun s' mv=>?_);refine wpAny_pure (fin s' (mv.mono sub) ?_);obtain⟨o,es,ep,t,ho,more⟩:=so;exact⟨o,es,ep,t,mv.heap S _ nw ho,more⟩
 | succ k ih =>
   intro i s hk hi st so fin;have lt:i < n:=by omega
   refine codeAny_builtin F.entry_set_update_loop ?_;rw [Around.under_plainId F.plain_set_update_loop _];refine wpAny_bind (m:=pyNext (.ref I)) (Wk.item i s _ _ lt st fun v s' pv' st' mv=>?_);obtain⟨kv,sc⟩:=hv i v pv'
   have so':s'.heap.SetOf (a0s prog w) S (fun q=>(met val i).any (fun y=>decide (y=q))) (met val i).length:=by
     obtain⟨o,es,ep,t,ho,more⟩:=so;exact⟨o,es,ep,t,mv.heap S _ nw ho,more⟩
   refine wpAny_bind (m:=holding [v] (setAdd S v)) (wpAny_holding ?_);unfold setAdd;refine wpAny_holding (wpAny_bind ((a0s prog w).pyHash (k:=val i) kv ?_));have rm:(met val i).length + 1 < scanBound:=by have:=b2J val i;omega
   refine wpAny_setAddHashed_of (knd:=a0s prog w) (s:={ s' with toks:=s'.toks + 1 }) kv sc so' rm fun h' sb so2=>?_
   have so3:h'.SetOf (a0s prog w) S (fun q=>(met val (i + 1)).any (fun y=>decide (y=q))) (met val (i + 1)).length:=by
     have e1:(fun q=>(met val i).any (fun y=>decide (y=q)) || decide (q=val i))=fun q=>(met val (i + 1)).any (fun y=>decide (y=q)):=funext fun q=>(b3N val i q).symm;rw [b3M,← e1];exact so2
   refine wpAny_pure ⟨plainId_quiet F.plain_set_update_loop _,ih (i + 1) _ (by omega) lt (Wk.frame _ s' _ _ st' (Nat.le_succ _) fun b hb o e=>?_) so3 fun s2 mv2 so4=>?_⟩
   · rw [sb.2 b (fun z:b=S=>nf (by rw [← z];exact hb))];exact e
   · refine fin s2 (Moved.trans Wk.gtrans ((mv.mono sub).then_heap (Nat.le_succ _) fun b o hb e=>?_) mv2) so4;rw [sb.2 b (fun z:b=S=>hb (by rw [z];exact List.mem_cons_self))];exact e
end
end L2
end
section
set_option maxHeartbeats 1000000
namespace L2
open PySem PySem.Spec PyProof.Rows
def a5O (ys:List Str)(i:Nat):Key:=Sum.inr (ys.getD i (Str.ofString ""))
def SetX (X:Cx)(p:Addr)(S:Key→Bool)(n:Nat):HO:=.ext fun h=>h.SetOf (a0s X.prog X.w) p S n
theorem b1g {ys:List Str}{us:List Value}(r:Vals (ys.map V.str) us){i:Nat}{u:Value}(h:us[i]?=some u):∃t,u=.str (ys.getD i (Str.ofString "")) t:=by
 obtain⟨hi,e⟩:=List.getElem?_eq_some_iff.mp h;obtain⟨x,ex,rx⟩:=r.getE hi;rw [List.getElem?_map] at ex;cases ey:ys[i]? with
 | none=>rw [ey] at ex;cases ex
 | some y =>
   rw [ey] at ex;cases ex;obtain⟨t,et⟩:=rx;refine⟨t,?_⟩;rw [← e,et,List.getD,ey]
   rfl
section
variable {X:Cx}
theorem b0I:a1Y X (.builtin "len") (fun vs H Q=>∃p S n,vs=[.ref p]∧H p=some (SetX X p S n)∧Q (.int n) H):=by
 intro pins s σ H vs us Q I rv h;obtain⟨p,S,n,rfl,e,q⟩:=h;obtain⟨u,rfl,ru⟩:=rv.one;obtain rfl:u=.ref p:=ru;obtain⟨so,_,_⟩:=I.hok p _ e;obtain⟨o,es,ep,t,ho,hex,hd,_,_,hb,hf,hn⟩:=so;refine call_len_set ho hex hd hf (by unfold scanBound at hb;omega) ⟨.int n,H,I.tok _,⟨_,by rw [hn]⟩,q⟩
end
end L2
end
section
set_option maxHeartbeats 1000000
namespace Pu
open PySem PySem.Spec L2
theorem a7n (x:Str)(l u:Option Int):Txt.slice x l u=StrLaws.sliceText x l u:=rfl
theorem b1k (x:Str){p:Nat}(h:p≤x.length):(Txt.slice x none (some (p:Int))).cps.toList=x.cps.toList.take p:=by
 rw [a7n]
 have e:StrLaws.sliceText x none (some (p:Int))=StrLaws.sliceText x (some ((0:Nat):Int)) (some (p:Int)):=by
   unfold StrLaws.sliceText;rw [StrLaws.sliceIdx_none_lo];rfl
 rw [e,StrLaws.sliceText_nat x (Nat.zero_le _) h];simp
def Ltr (c:Nat):Prop:=97≤c∧c≤122
def a3B (z:Str):Prop:=1≤z.cps.toList.length∧z.cps.toList.length≤8∧∀c∈z.cps.toList,Ltr c
abbrev LETS:Str:=Str.ofString "abcdefghijklmnopqrstuvwxyz"
theorem b1S:LETS.cps.toList=(List.range 26).map (97 + ·):=by decide +kernel
theorem a7A:LETS.length=26:=by decide +kernel
theorem a9W {d:Int}(d0:0≤d)(d1:d < 26):atI LETS.cps.toList d=some (97 + d.toNat):=by
 obtain⟨x,e1,e2⟩:=b0P (xs:=LETS.cps.toList) d0 (by rw [← a2x,a7A];exact d1);rw [e2,← e1,b1S,List.getElem?_map,List.getElem?_range (by omega)]
 rfl
theorem a9I {α:Type}{zs:List α}(h:zs.Nodup){z:α}(hz:z∉zs)(j:Nat):(zs.set j z).Nodup:=by
 refine List.pairwise_iff_getElem.mpr fun a b ha hb hab=>?_;rw [List.length_set] at ha hb;rw [List.getElem_set,List.getElem_set]
 split
 · split
   · omega
   · intro e;exact hz (e▸List.getElem_mem hb)
 · split
   · intro e;exact hz (e▸List.getElem_mem ha)
   · exact List.pairwise_iff_getElem.mp h a b ha hb hab
end Pu
end
section
set_option maxHeartbeats 1000000
namespace L2
open PySem PySem.Spec PyProof.Rows
def ItB (b:Bool)(h:Heap)(it l:Addr)(i:Nat):Prop:=match b with | true=>h.IsListIter it l i | false=>h.IsTupleIter it l i
def SeB (b:Bool)(h:Heap)(l:Addr)(items:Array Value):Prop:=match b with | true=>h.IsList l items | false=>h.IsTuple l items
theorem ItB.at {b:Bool}{h h':Heap}{it l:Addr}{i:Nat}(x:ItB b h it l i)(e:∀o,h.get? it=some o→h'.get? it=some o):ItB b h' it l i:=by
 cases b with
 | true=>exact(show h.IsListIter it l i from x).at e
 | false=>exact(show h.IsTupleIter it l i from x).at e
theorem SeB.at {b:Bool}{h h':Heap}{l:Addr}{items:Array Value}(x:SeB b h l items)(e:∀o,h.get? l=some o→h'.get? l=some o):SeB b h' l items:=by
 cases b with
 | true=>exact(show h.IsList l items from x).at e
 | false=>exact(show h.IsTuple l items from x).at e
theorem ItB.obj {b:Bool}{h:Heap}{it l:Addr}{i:Nat}(x:ItB b h it l i):∃o,h.get? it=some o∧(o.cls=.type "list_iterator"∨o.cls=.type "tuple_iterator")∧∀v,o.data≠.cell v:=by
 cases b with
 | true=>obtain⟨o,e,c,d⟩:=(show h.IsListIter it l i from x);exact⟨o,e,.inl c,fun v z=>by rw [d] at z;cases z⟩
 | false=>obtain⟨o,e,c,d⟩:=(show h.IsTupleIter it l i from x);exact⟨o,e,.inr c,fun v z=>by rw [d] at z;cases z⟩
theorem SeB.obj {b:Bool}{h:Heap}{l:Addr}{items:Array Value}(x:SeB b h l items):∃o,h.get? l=some o∧(o.cls=.type "list"∨o.cls=.type "tuple"):=by
 cases b with
 | true=>obtain⟨o,e,c,d⟩:=(show h.IsList l items from x);exact⟨o,e,.inl c⟩
 | false=>obtain⟨o,e,c,d⟩:=(show h.IsTuple l items from x);exact⟨o,e,.inr c⟩
theorem ItB.ne {b b':Bool}{h:Heap}{it l a:Addr}{i:Nat}{items:Array Value}(x:ItB b h it l i)(y:SeB b' h a items):a≠it:=fun z=>by
 obtain⟨o,e,c,_⟩:=x.obj;obtain⟨o',e',c'⟩:=y.obj;rw [z,e] at e';cases e';rcases c with c | c <;> rcases c' with c' | c' <;> (rw [c] at c';exact absurd c' (by decide))
section
variable {prog:Program}{w:World}{A:Around}{E:Value→Shared→Prop}{s:Shared}
theorem a8k {it t:Addr}{i:Nat}{items:Array Value}{x:Value}{Q:Value→Shared→Prop}(hit:s.heap.IsTupleIter it t i)(ht:s.heap.IsTuple t items)(hx:items[i]?=some x)
   (hQ:∀h',h'.IsTupleIter it t (i + 1)→Heap.SameBut it s.heap h'→Q x { s with heap:=h' }):wpAny (model prog w) A (Builtin.SmallTypes.nextOf (.ref it)) Q E s:=by
 obtain⟨oi,hoi,hci,hdi⟩:=id hit;obtain⟨ot,hot,_,nt,hdt⟩:=ht;have ty:=hit.typeIs;unfold Builtin.SmallTypes.nextOf
 refine wpAny_bind (wpAny_callSpecial?_slot (name:=Str.ofString "__next__") ty F.slot_tuple_iterator_next
   (wpAny_call_entry F.slot_tuple_iterator_next ty F.entry_tuple_iterator_next ?_ (F.args_tuple_iterator_next_1 _)))
 show wpAny _ _ (field (.ref it) 0>>=_) _ _ s;refine wpAny_bind (wpAny_field hoi hdi (x:=.ref t) rfl ?_);show wpAny _ _ (if(Value.ref t == Value.none)=true then _ else _) _ _ s;rw [if_neg (show ¬((Value.ref t == Value.none)=true) from Bool.false_ne_true)];show wpAny _ _ (field (.ref it) 1>>=_) _ _ s;refine wpAny_bind (wpAny_field hoi hdi (x:=.int i 0) rfl ?_);show wpAny _ _ (seqItems? (.ref t)>>=_) _ _ s;refine wpAny_bind (wpAny_seqItems hot hdt ?_);simp only [Int.toNat_natCast,hx];refine wpAny_bind (wpAny_setField hoi hdi (by simp) (wpAny_pure ⟨x,rfl,wpAny_pure (hQ _ ?_ (Heap.SameBut.update ..))⟩));exact⟨_,Heap.get?_update_self _ hoi (Obj.isFreed_of_fields (Obj.data_mapFields hdi _)),(Obj.cls_mapFields ..).trans hci,by rw [Obj.data_mapFields hdi];simp [rawInt]⟩
theorem a9K {it t:Addr}{i:Nat}{items:Array Value}{Q:Value→Shared→Prop}(hh:A.handled=none)(hit:s.heap.IsTupleIter it t i)(ht:s.heap.IsTuple t items)(hx:items[i]?=none)
   (hE:∀h' e,Heap.ExtBut it s.heap h'→(∃o,h'.get? e=some o∧o.cls=.type "StopIteration")→E (.ref e) { s with heap:=h' }):wpAny (model prog w) A (Builtin.SmallTypes.nextOf (.ref it)) Q E s:=by
 obtain⟨oi,hoi,hci,hdi⟩:=id hit;obtain⟨ot,hot,_,nt,hdt⟩:=ht;have ty:=hit.typeIs;unfold Builtin.SmallTypes.nextOf
 refine wpAny_bind (wpAny_callSpecial?_slot (name:=Str.ofString "__next__") ty F.slot_tuple_iterator_next
   (wpAny_call_entry F.slot_tuple_iterator_next ty F.entry_tuple_iterator_next ?_ (F.args_tuple_iterator_next_1 _)))
 show wpAny _ _ (field (.ref it) 0>>=_) _ _ s;refine wpAny_bind (wpAny_field hoi hdi (x:=.ref t) rfl ?_);show wpAny _ _ (if(Value.ref t == Value.none)=true then _ else _) _ _ s;rw [if_neg (show ¬((Value.ref t == Value.none)=true) from Bool.false_ne_true)];show wpAny _ _ (field (.ref it) 1>>=_) _ _ s;refine wpAny_bind (wpAny_field hoi hdi (x:=.int i 0) rfl ?_);show wpAny _ _ (seqItems? (.ref t)>>=_) _ _ s;refine wpAny_bind (wpAny_seqItems hot hdt ?_);simp only [Int.toNat_natCast,hx];refine wpAny_bind (wpAny_rule (wpAny_bind (wpAny_setField hoi hdi (by simp) ?_)));show wpAny _ _ (newExc (.type "StopIteration") []>>=_) _ _ _;refine wpAny_bind ?_;simp only [newExc,newTuple];refine wpAny_bind (wpAny_newObj_type ?_ (by size_fits));refine wpAny_bind (m:=firstArgMember _ _) (wpAny_of_eq (a:=Value.none) (by first | rfl | (simp only [firstArgMember];rfl)) ?_);refine wpAny_newObj_type ?_ (by size_fits);simp only [raiseNew];refine wpAny_bind (wpAny_handled ?_)
 first | rw [show A.in1.handled=none from hh] | rw [hh]
 refine wpAny_bind (wpAny_pure (wpAny_throw ?_));exact hE _ _ (((Heap.SameBut.update ..).extBut.push _).push _) ⟨_,Heap.get?_push_size _ rfl,rfl⟩
theorem a3l {b:Bool}{it t:Addr}{i:Nat}{items:Array Value}{x:Value}{Q:Value→Shared→Prop}(hit:ItB b s.heap it t i)(ht:SeB b s.heap t items)(hx:items[i]?=some x)
   (hQ:∀h',ItB b h' it t (i + 1)→Heap.SameBut it s.heap h'→Q x { s with heap:=h' }):wpAny (model prog w) A (Builtin.SmallTypes.nextOf (.ref it)) Q E s:=by
 cases b with
 | true=>exact wpAny_nextOf_list_item hit ht hx hQ
 | false=>exact a8k hit ht hx hQ
theorem a5L {b:Bool}{it t:Addr}{i:Nat}{items:Array Value}{Q:Value→Shared→Prop}(hh:A.handled=none)(hit:ItB b s.heap it t i)(ht:SeB b s.heap t items)(hx:items[i]?=none)
   (hE:∀h' e,Heap.ExtBut it s.heap h'→(∃o,h'.get? e=some o∧o.cls=.type "StopIteration")→E (.ref e) { s with heap:=h' }):wpAny (model prog w) A (Builtin.SmallTypes.nextOf (.ref it)) Q E s:=by
 cases b with
 | true=>exact wpAny_nextOf_list_end hh hit ht hx hE
 | false=>exact a9K hh hit ht hx hE
end
end L2
namespace L2
open PySem PySem.Spec PyProof.Rows
def SqB (b:Bool)(K:PySem.W.Frag)(H:Hp)(a:Addr)(xs:List V):Prop:=match b with | true=>SqL K H a xs | false=>SqT K H a xs
section
variable {X:Cx}
theorem Inv.seqB {b:Bool}{a:Addr}{xs:List V}{pins:List (Addr×Obj)}{σ:St}{H:Hp}{s:Shared}(I:Inv X pins σ H s)(h:SqB b X.K H a xs):∃its:List Value,Vals xs its∧SeB b s.heap a its.toArray∧xs.length≤sizeLine:=by
 cases b with
 | true=>obtain⟨its,r,p,z⟩:=I.list h;exact⟨its,r,p.isList,z⟩
 | false=>obtain⟨its,r,p,z⟩:=I.tuple h;exact⟨its,r,p,z⟩
theorem Inv.seqB_inj {b:Bool}{a:Addr}{xs ys:List V}{pins:List (Addr×Obj)}{σ:St}{H:Hp}{s:Shared}(I:Inv X pins σ H s)(h:SqB b X.K H a xs)(h':SqB b X.K H a ys):xs=ys:=by
 cases b with
 | true=>exact I.list_inj h h'
 | false=>exact I.tuple_inj h h'
end
end L2
end
section
set_option maxHeartbeats 1000000
namespace L2
open PySem PySem.Spec PyProof.Rows
section
variable {prog:Program}{w:World}{A:Around}{E:Value→Shared→Prop}{s:Shared}
structure ZAp (z TI TO i1 i2:Addr):Prop where
 a1:TI≠z
 a2:TO≠z
 a3:i1≠z
 a4:i2≠z
 a5:TI≠TO
 a6:TI≠i1
 a7:TI≠i2
 a8:TO≠i1
 a9:TO≠i2
 a10:i1≠i2
theorem b3b {b1 b2:Bool}{z TI TO i1 i2 l1 l2:Addr}{k:Nat}{xs ys:Array Value}{x y a b:Value}{Q:Value→Shared→Prop}(D:ZAp z TI TO i1 i2)(m1:l1≠z)(m2:l2≠z)(m3:l1≠TO)(m4:l2≠TO)(m5:l1≠i1)(m6:l2≠i1)
   (hz:IsZip s.heap z TI TO .none) (hTI:IsPair s.heap TI (.ref i1) (.ref i2)) (hTO:IsPair s.heap TO a b) (h1:ItB b1 s.heap i1 l1 k) (h2:ItB b2 s.heap i2 l2 k) (hl1:SeB b1 s.heap l1 xs) (hl2:SeB b2 s.heap l2 ys) (hx:xs[k]?=some x) (hy:ys[k]?=some y)
   (hQ:∀h',IsZip h' z TI TO (rawInt s.heap.objs.size)→IsPair h' TO x y→ItB b1 h' i1 l1 (k + 1)→ItB b2 h' i2 l2 (k + 1)→IsPair h' s.heap.objs.size x y→
     (∀c o,c≠z→c≠TO→c≠i1→c≠i2→s.heap.get? c=some o→h'.get? c=some o)→Q (.ref s.heap.objs.size) { s with heap:=h' }) :
   wpAny (model prog w) A (Builtin.«zip.__next__» ⟨[.ref z],[]⟩) (fun fin s'=>∃v,fin=.done (.ret v)∧Q v s') E s:=by
 show wpAny _ _ (field (.ref z) 2>>=_) _ _ _;refine wpAny_bind (wpAny_field hz rfl (x:=.bool false) rfl ?_);show wpAny _ _ (field (.ref z) 3>>=_) _ _ _;refine wpAny_bind (wpAny_field hz rfl (x:=.ref TI) rfl (wpAny_bind (wpAny_seqItems hTI rfl ?_)));show wpAny _ _ (Builtin.SmallTypes.ownedTupleIsFree (.ref z)>>=_) _ _ _;refine wpAny_bind ?_;unfold Builtin.SmallTypes.ownedTupleIsFree;refine wpAny_bind (wpAny_field hz rfl (x:=.none) rfl (wpAny_pure ?_));simp only [if_true];refine wpAny_bind (wpAny_rule (wpAny_bind (wpAny_field hz rfl (x:=.ref TO) rfl (wpAny_bind (wpAny_setField_rec hz (by simp) fun g1 z1 s1=>?_)))))
 replace z1:IsZip g1 z TI TO .ellipsis:=z1
 refine wpAny_bind ?_;simp only [List.zipIdx_cons,List.zipIdx_nil,List.forIn_cons,List.forIn_nil];refine wpAny_bind (wpAny_bind (wpAny_onRaise ?_));show wpAny _ _ (Builtin.SmallTypes.nextOf (.ref i1)>>=_) _ _ _;refine wpAny_bind (a3l (s:={ s with heap:=g1 }) (h1.at fun o e=>s1.extBut _ o D.a3 e) (hl1.at fun o e=>s1.extBut _ o m1 e) hx fun g2 j2 s2=>wpAny_pure ?_);have t2:IsPair g2 TO a b:=s2.extBut _ _ D.a8 (s1.extBut _ _ D.a2 hTO);refine wpAny_bind (wpAny_seqItems t2 rfl (wpAny_bind (wpAny_updateSeq_pair (s:={ s with heap:=g2 }) t2 fun g3 t3 s3=>wpAny_bind (wpAny_letGo (wpAny_pure ?_)))))
 replace t3:IsPair g3 TO x b:=t3
 refine wpAny_bind (wpAny_bind (wpAny_onRaise ?_));show wpAny _ _ (Builtin.SmallTypes.nextOf (.ref i2)>>=_) _ _ _;have up3:∀c o,c≠z→c≠i1→c≠TO→s.heap.get? c=some o→g3.get? c=some o:=fun c o c1 c2 c3 e=>s3.extBut _ o c3 (s2.extBut _ o c2 (s1.extBut _ o c1 e));refine wpAny_bind (a3l (s:={ s with heap:=g3 }) (h2.at fun o e=>up3 _ o D.a4 D.a10.symm D.a9.symm e) (hl2.at fun o e=>up3 _ o m2 m6 m4 e) hy fun g4 j4 s4=>wpAny_pure ?_);have t4:IsPair g4 TO x b:=s4.extBut _ _ D.a9 t3;refine wpAny_bind (wpAny_seqItems t4 rfl (wpAny_bind (wpAny_updateSeq_pair (s:={ s with heap:=g4 }) t4 fun g5 t5 s5=>wpAny_bind (wpAny_letGo (wpAny_pure (wpAny_pure ?_))))))
 replace t5:IsPair g5 TO x y:=t5
 refine wpAny_bind (wpAny_seqItems t5 rfl (wpAny_bind (wpAny_newTuple ?_)));have hsz:g5.objs.size=s.heap.objs.size:=by rw [s5.1,s4.1,s3.1,s2.1,s1.1]
 have z5:IsZip g5 z TI TO .ellipsis:=s5.extBut _ _ D.a2.symm (s4.extBut _ _ D.a4.symm (s3.extBut _ _ D.a2.symm (s2.extBut _ _ D.a3.symm z1)));have up5:∀c o,c≠z→c≠TO→c≠i1→c≠i2→s.heap.get? c=some o→g5.get? c=some o:=fun c o c1 c2 c3 c4 e=>s5.extBut _ _ c2 (s4.extBut _ _ c4 (up3 c o c1 c3 c2 e));have j1:ItB b1 g5 i1 l1 (k + 1):=j2.at fun o e=>s5.extBut _ o D.a8.symm (s4.extBut _ o D.a10 (s3.extBut _ o D.a8.symm e));have j5:ItB b2 g5 i2 l2 (k + 1):=j4.at fun o e=>s5.extBut _ o D.a9.symm e;have zlt:z < g5.objs.size:=Heap.lt_size z5;show wpAny _ _ (Builtin.SmallTypes.ownedTupleHandOut (.ref z) (.ref g5.objs.size)>>=_) _ _ _;refine wpAny_bind ?_;unfold Builtin.SmallTypes.ownedTupleHandOut;have z6:IsZip (g5.push { cls:=.type "tuple",data:=.seq #[x,y] }) z TI TO .ellipsis:=Heap.get?_push_of_some _ z5;refine wpAny_bind (wpAny_setField_rec z6 (by simp) fun g7 z7 s7=>?_)
 replace z7:IsZip g7 z TI TO (rawInt g5.objs.size):=z7
 refine wpAny_setField_rec z7 (by simp) fun g8 z8 s8=>?_
 replace z8:IsZip g8 z TI TO (rawInt g5.objs.size):=z8
 have up8:∀c o,c≠z→g5.get? c=some o→g8.get? c=some o:=fun c o c1 e=>s8.extBut _ _ c1 (s7.extBut _ _ c1 (Heap.get?_push_of_some _ e));have t8:IsPair g8 g5.objs.size x y:=s8.extBut _ _ (Nat.ne_of_gt zlt) (s7.extBut _ _ (Nat.ne_of_gt zlt) (Heap.get?_push_size _ rfl));rw [hsz] at z8 t8;refine wpAny_pure ⟨_,rfl,?_⟩;show Q (.ref g5.objs.size) _;rw [hsz];exact hQ g8 z8 (up8 _ _ D.a2 t5) (j1.at fun o e=>up8 _ o D.a3 e) (j5.at fun o e=>up8 _ o D.a4 e) t8 fun c o c1 c2 c3 c4 e=>up8 c o c1 (up5 c o c1 c2 c3 c4 e)
theorem zipEnd {b1 b2:Bool}{z TI TO i1 i2 l1 l2:Addr}{k:Nat}{xs ys:Array Value}{a b:Value}{Q:Fin→Shared→Prop}(hh:A.handled=none)(D:ZAp z TI TO i1 i2)(m1:l1≠z)(m2:l2≠z)(m3:l1≠TO)(m4:l2≠TO)(m5:l1≠i1)(m6:l2≠i1)
   (hz:IsZip s.heap z TI TO .none) (hTI:IsPair s.heap TI (.ref i1) (.ref i2)) (hTO:IsPair s.heap TO a b) (h1:ItB b1 s.heap i1 l1 k) (h2:ItB b2 s.heap i2 l2 k) (hl1:SeB b1 s.heap l1 xs) (hl2:SeB b2 s.heap l2 ys) (hend:xs[k]?=none∨ys[k]?=none)
   (hE:∀h' e,(∀c o,c≠z→c≠TO→c≠i1→c≠i2→s.heap.get? c=some o→h'.get? c=some o)→(∃o,h'.get? e=some o∧o.cls=.type "StopIteration")→E (.ref e) { s with heap:=h' }) :
   wpAny (model prog w) A (Builtin.«zip.__next__» ⟨[.ref z],[]⟩) Q E s:=by
 show wpAny _ _ (field (.ref z) 2>>=_) _ _ _;refine wpAny_bind (wpAny_field hz rfl (x:=.bool false) rfl ?_);show wpAny _ _ (field (.ref z) 3>>=_) _ _ _;refine wpAny_bind (wpAny_field hz rfl (x:=.ref TI) rfl (wpAny_bind (wpAny_seqItems hTI rfl ?_)));show wpAny _ _ (Builtin.SmallTypes.ownedTupleIsFree (.ref z)>>=_) _ _ _;refine wpAny_bind ?_;unfold Builtin.SmallTypes.ownedTupleIsFree;refine wpAny_bind (wpAny_field hz rfl (x:=.none) rfl (wpAny_pure ?_));simp only [if_true];refine wpAny_bind (wpAny_rule (wpAny_bind (wpAny_field hz rfl (x:=.ref TO) rfl (wpAny_bind (wpAny_setField_rec hz (by simp) fun g1 z1 s1=>?_)))))
 replace z1:IsZip g1 z TI TO .ellipsis:=z1
 refine wpAny_bind ?_;simp only [List.zipIdx_cons,List.zipIdx_nil,List.forIn_cons,List.forIn_nil];refine wpAny_bind (wpAny_bind (wpAny_onRaise ?_));show wpAny _ _ (Builtin.SmallTypes.nextOf (.ref i1)>>=_) _ _ _;have h1':ItB b1 g1 i1 l1 k:=h1.at fun o e=>s1.extBut _ o D.a3 e;have hl1':SeB b1 g1 l1 xs:=hl1.at fun o e=>s1.extBut _ o m1 e
 have nz:∀{g:Heap} {e:Addr} {o:Obj},IsZip g z TI TO .ellipsis→g.get? e=some o→o.cls=.type "StopIteration"→e≠z:=fun {g e o} hz ho hc x=>by
   subst x;rw [hz] at ho;cases ho;exact absurd (show Value.type "zip"=Value.type "StopIteration" from hc) (by decide)
 cases hx:xs[k]? with
 | none =>
   refine wpAny_bind (a5L (s:={ s with heap:=g1 }) hh h1' hl1' hx fun g2 e s2 ⟨oe,hoe,hce⟩=>?_);have z2:IsZip g2 z TI TO .ellipsis:=s2 _ _ D.a3.symm z1;exact wpAny_setField_rec z2 (by simp) fun g3 _ s3=>hE g3 e (fun c o c1 _ c3 _ x=>s3.extBut _ _ c1 (s2 _ _ c3 (s1.extBut _ _ c1 x))) ⟨oe,s3.extBut _ _ (nz z2 hoe hce) hoe,hce⟩
 | some x =>
   have hy:ys[k]?=none:=hend.elim (fun h=>by rw [hx] at h;cases h) id;refine wpAny_bind (a3l (s:={ s with heap:=g1 }) h1' hl1' hx fun g2 j2 s2=>wpAny_pure ?_);have t2:IsPair g2 TO a b:=s2.extBut _ _ D.a8 (s1.extBut _ _ D.a2 hTO);refine wpAny_bind (wpAny_seqItems t2 rfl (wpAny_bind (wpAny_updateSeq_pair (s:={ s with heap:=g2 }) t2 fun g3 t3 s3=>wpAny_bind (wpAny_letGo (wpAny_pure ?_)))));refine wpAny_bind (wpAny_bind (wpAny_onRaise ?_));show wpAny _ _ (Builtin.SmallTypes.nextOf (.ref i2)>>=_) _ _ _;have up3:∀c o,c≠z→c≠i1→c≠TO→s.heap.get? c=some o→g3.get? c=some o:=fun c o c1 c2 c3 e=>s3.extBut _ o c3 (s2.extBut _ o c2 (s1.extBut _ o c1 e));refine wpAny_bind (a5L (s:={ s with heap:=g3 }) hh (h2.at fun o e=>up3 _ o D.a4 D.a10.symm D.a9.symm e) (hl2.at fun o e=>up3 _ o m2 m6 m4 e) hy fun g4 e s4 ⟨oe,hoe,hce⟩=>?_);have z4:IsZip g4 z TI TO .ellipsis:=s4 _ _ D.a4.symm (s3.extBut _ _ D.a2.symm (s2.extBut _ _ D.a3.symm z1));exact wpAny_setField_rec z4 (by simp) fun g5 _ s5=>hE g5 e (fun c o c1 c2 c3 c4 x=>s5.extBut _ _ c1 (s4 _ _ c4 (up3 c o c1 c3 c2 x))) ⟨oe,s5.extBut _ _ (nz z4 hoe hce) hoe,hce⟩
end
def itO (b:Bool)(l:Addr):Obj:=match b with | true=>{ cls:=.type "list_iterator",data:=.fields #[.ref l,.int 0 0] } | false=>{ cls:=.type "tuple_iterator",data:=.fields #[.ref l,.int 0 0] }
theorem a7C (b:Bool)(l:Addr):(itO b l).isFreed=false:=by cases b <;> rfl
theorem b2O {b:Bool}{h:Heap}{l a:Addr}(e:h.get? a=some (itO b l)):ItB b h a l 0:=by
 cases b with
 | true=>exact⟨_,e,rfl,rfl⟩
 | false=>exact⟨_,e,rfl,rfl⟩
theorem iterO {b:Bool}{prog:Program}{w:World}{A:Around}{E:Value→Shared→Prop}{s:Shared}{t:Addr}{items:Array Value}{Q:Value→Shared→Prop}(ht:SeB b s.heap t items)(hQ:Q (.ref s.heap.objs.size) { s with heap:=s.heap.push (itO b t) }):wpAny (model prog w) A (pyIter (.ref t)) Q E s:=by
 cases b with
 | true=>exact wpAny_pyIter_list ht hQ
 | false=>exact wpAny_pyIter_tuple ht hQ
abbrev zh2 (h:Heap)(b1 b2:Bool)(l1 l2:Addr):Heap:=(h.push (itO b1 l1)).push (itO b2 l2)
abbrev zh3 (h:Heap)(b1 b2:Bool)(l1 l2:Addr):Heap:=(zh2 h b1 b2 l1 l2).push { cls:=.type "tuple",data:=.seq #[.ref h.objs.size,.ref (h.push (itO b1 l1)).objs.size] }
abbrev zh4 (h:Heap)(b1 b2:Bool)(l1 l2:Addr):Heap:=(zh3 h b1 b2 l1 l2).push { cls:=.type "tuple",data:=.seq #[.none,.none] }
abbrev zh5 (h:Heap)(b1 b2:Bool)(l1 l2:Addr):Heap:=(zh4 h b1 b2 l1 l2).push { cls:=.type "zip",data:=.fields #[.none,.bool false,.bool false,.ref (zh2 h b1 b2 l1 l2).objs.size,.ref (zh3 h b1 b2 l1 l2).objs.size] }
theorem zipNew (b1 b2:Bool)(l1 l2:Addr)(xs ys:Array Value) :
   Meets (Builtin.«zip.__new__» ⟨[.type "zip",.ref l1,.ref l2],[]⟩) (fun _ R s=>SeB b1 s.heap l1 xs∧SeB b2 s.heap l2 ys∧R (.ok (.ret (.ref (zh4 s.heap b1 b2 l1 l2).objs.size))) { s with heap:=zh5 s.heap b1 b2 l1 l2 }):=
 .of_wp fun prog w A R s hyp=>by
   obtain⟨hp,g,d,tk,os⟩:=s;obtain⟨k1,k2,fin⟩:=hyp;have hsub:=sub_zip;have L1:SeB b1 (Shared.heap ⟨hp,g,d,tk,os⟩) l1 xs:=k1;have L2:SeB b2 (Shared.heap ⟨hp.push (itO b1 l1),g,d,tk,os⟩) l2 ys:=k2.at fun o e=>Heap.get?_push_of_some _ e
   wp_walk using iterO L1,iterO L2
   exact⟨_,rfl,fin⟩
section
variable {prog:Program}{w:World}{A:Around}{E:Value→Shared→Prop}{s:Shared}
theorem zipB {b1 b2:Bool}{l1 l2:Addr}{xs ys:Array Value}{Q:Value→Shared→Prop}(hl1:SeB b1 s.heap l1 xs)(hl2:SeB b2 s.heap l2 ys)
   (h:∀h',IsZip h' (s.heap.objs.size + 4) (s.heap.objs.size + 2) (s.heap.objs.size + 3) .none→IsPair h' (s.heap.objs.size + 2) (.ref s.heap.objs.size) (.ref (s.heap.objs.size + 1))→
     IsPair h' (s.heap.objs.size + 3) .none .none→ItB b1 h' s.heap.objs.size l1 0→ItB b2 h' (s.heap.objs.size + 1) l2 0→(∀c o,s.heap.get? c=some o→h'.get? c=some o)→Q (.ref (s.heap.objs.size + 4)) { s with heap:=h' }) :
   wpAny (model prog w) A (call (.type "zip") [.ref l1,.ref l2]) Q E s:=by
 refine callType_new F.called_zip (by decide) (F.typeCall_zip_2 _ _) (F.newCall_zip_2 _ _) (fun obj=>F.args_object_init_3 obj _ _) F.entry_zip_new (zipNew b1 b2 l1 l2 xs ys) ⟨hl1,hl2,?_⟩;have z1:(s.heap.push (itO b1 l1)).objs.size=s.heap.objs.size + 1:=Heap.size_push ..;have z2:(zh2 s.heap b1 b2 l1 l2).objs.size=s.heap.objs.size + 2:=by rw [Heap.size_push,z1]
 have z3:(zh3 s.heap b1 b2 l1 l2).objs.size=s.heap.objs.size + 3:=by rw [Heap.size_push,z2]
 have z4:(zh4 s.heap b1 b2 l1 l2).objs.size=s.heap.objs.size + 4:=by rw [Heap.size_push,z3]
 have g5:(zh5 s.heap b1 b2 l1 l2).get? (zh4 s.heap b1 b2 l1 l2).objs.size=some _:=Heap.get?_push_size _ rfl;have g4:(zh5 s.heap b1 b2 l1 l2).get? (zh3 s.heap b1 b2 l1 l2).objs.size=some _:=Heap.get?_push_of_some _ (Heap.get?_push_size _ rfl);have g3:(zh5 s.heap b1 b2 l1 l2).get? (zh2 s.heap b1 b2 l1 l2).objs.size=some _:=Heap.get?_push_of_some _ (Heap.get?_push_of_some _ (Heap.get?_push_size _ rfl));have g2:(zh5 s.heap b1 b2 l1 l2).get? (s.heap.push (itO b1 l1)).objs.size=some _:=Heap.get?_push_of_some _ (Heap.get?_push_of_some _ (Heap.get?_push_of_some _ (Heap.get?_push_size _ (a7C b2 l2))));have g1:(zh5 s.heap b1 b2 l1 l2).get? s.heap.objs.size=some _:=Heap.get?_push_of_some _ (Heap.get?_push_of_some _ (Heap.get?_push_of_some _ (Heap.get?_push_of_some _ (Heap.get?_push_size _ (a7C b1 l1)))));show _∧_;rw [z2,z3,z4] at g5;rw [z1,z2] at g3;rw [z3] at g4;rw [z1] at g2;rw [z4];exact⟨⟨_,g5,rfl⟩,h _ g5 g3 g4 (b2O g1) (b2O g2) fun c o x=>Heap.get?_push_of_some _ (Heap.get?_push_of_some _ (Heap.get?_push_of_some _ (Heap.get?_push_of_some _ (Heap.get?_push_of_some _ x))))⟩
end
section
variable {X:Cx}
def ItzB (b1 b2:Bool)(K:PySem.W.Frag)(a c:Addr):It:=
 ⟨fun i H=>∃xs ys x y,SqB b1 K H a xs∧SqB b2 K H c ys∧xs[i]?=some x∧ys[i]?=some y,
  fun i H x H'=>∃p u v,H p=none∧x=.ref p∧H'=upd H p (.tup [u,v])∧(∀xs,SqB b1 K H a xs→xs[i]?=some u)∧∀ys,SqB b2 K H c ys→ys[i]?=some v,
  fun i H=>∃xs ys,SqB b1 K H a xs∧SqB b2 K H c ys∧min xs.length ys.length≤i⟩
theorem a7o {b:Bool}{h:Heap}{l e:Addr}{items:Array Value}{n:String}{o:Obj}(p:SeB b h l items)(he:h.get? e=some o)(hc:o.cls=.type n)(h1:n≠"list")(h2:n≠"tuple"):l≠e:=fun z=>by
 obtain⟨o',e1,c1⟩:=p.obj;rw [z,he] at e1;cases e1;rw [hc] at c1;rcases c1 with c1 | c1
 · exact h1 (Value.type.inj c1)
 · exact h2 (Value.type.inj c1)
theorem b1M {b:Bool}{l z TI TO i1 i2:Addr}{xs:List V}{pins:List (Addr×Obj)}{σ:St}{H:Hp}{s:Shared}{p q:Value}(I:Inv X pins σ H s)(hf:∀d∈[z,TI,TO,i1,i2],FpOk X pins H d)(hTO:IsPair s.heap TO p q)(hq:SqB b X.K H l xs):l≠TO:=fun zz=>by
 obtain⟨f0,f1,f2,f3,f4,f5⟩:=hf TO (by simp);subst zz;cases b with
 | true =>
   obtain⟨its,_,pl,_⟩:=I.list hq;obtain⟨o,e,c1,_⟩:=pl.isList;rw [hTO] at e;cases e;exact absurd (show Value.type "tuple"=Value.type "list" from c1) (by decide)
 | false =>
   rcases hq with hq | ⟨o,its,n,hk,hc1,hs,hz,r⟩
   · rcases hq with e | ⟨o,e⟩
     · rw [f0] at e;cases e
     · rw [f0] at e;cases e
   · have eb:X.base.get? l=some o:=I.ok.mod.kin l o hk;rcases f3 with f3 | f3
     · exact I.ok.noex l o eb f3
     · exact absurd (Nat.lt_of_lt_of_le (Heap.lt_size eb) (Nat.le_trans I.ok.bsz f3)) (Nat.lt_irrefl _)
theorem Inv.turnedAll {pins:List (Addr×Obj)}{σ:St}{H:Hp}{s:Shared}{h':Heap}{t':Nat}{ch:List Addr}(I:Inv X pins σ H s)(k:∀b o,b∉ch→s.heap.get? b=some o→h'.get? b=some o)(hf:∀b∈ch,FpOk X pins H b):Inv X pins σ H { s with heap:=h',toks:=t' }:=by
 have nch:∀b u,H b=some u→b∉ch:=fun b u e z=>by rw [(hf b z).1] at e;cases e
 refine I.step (g':=s.gens) (d':=s.drawn) (ch:=ch) (fun b hb=>⟨(hf b hb).2.2.2.1,(hf b hb).2.1,(hf b hb).2.2.2.2.1,(hf b hb).2.2.2.2.2⟩) (fun b o _ _ hc e _=>k b o hc e) (fun b o _ _ hc e _=>⟨o.slots,k b o hc e⟩) (fun _ _ _ _ n=>n)
   (fun b o hc e=>⟨o,k b o hc e⟩) (fun _ _ e=>e) (fun _ _ _ e=>e) (fun b ps e=>⟨#[],by rw [e];simp⟩) (fun z=>z) (fun m hm=>?_) (fun b u e=>?_) I.bare
 · obtain⟨o,es,ep,ho,r⟩:=hm;exact⟨o,es,ep,k _ o (fun z=>(hf _ z).2.1 rfl) ho,r⟩
 · refine(I.hok b u e).stay (fun c v hc q=>k c v ?_ q) (fun c q=>q) fun c ys q=>q;rcases hc with z | z
   · rw [z];exact nch b u e
   · exact nch c _ z
theorem a8K {b1 b2:Bool}{P:Program}{w:World}{K:PySem.W.Frag}{elts:List Expr}{x1}{pos:Pos}(a c z TI TO i1 i2:Addr)(D:ZAp z TI TO i1 i2) :
   Turn P w K (.Tuple elts x1 pos) (ItzB b1 b2 K a c) [z,TI,TO,i1,i2] z (fun i h=>IsZip h z TI TO .none∧IsPair h TI (.ref i1) (.ref i2)∧(∃p q,IsPair h TO p q)∧ItB b1 h i1 a i∧ItB b2 h i2 c i) where
 mem:=by simp
 obj:=fun i h st e he=>by
   obtain⟨hz,h1,⟨p,q,h2⟩,h3,h4⟩:=st;obtain⟨o3,e3,_,d3⟩:=h3.obj;obtain⟨o4,e4,_,d4⟩:=h4.obj;have he':e=z∨e=TI∨e=TO∨e=i1∨e=i2:=by simpa using he
   rcases he' with rfl | rfl | rfl | rfl | rfl
   · exact⟨_,hz,fun v z=>by cases z⟩
   · exact⟨_,h1,fun v z=>by cases z⟩
   · exact⟨_,h2,fun v z=>by cases z⟩
   · exact⟨_,e3,d3⟩
   · exact⟨_,e4,d4⟩
 keep:=fun i h h' st k=>by
   obtain⟨hz,h1,⟨p,q,h2⟩,h3,h4⟩:=st;exact⟨k z (by simp) _ hz,k TI (by simp) _ h1,⟨p,q,k TO (by simp) _ h2⟩,h3.at fun o e=>k i1 (by simp) o e,h4.at fun o e=>k i2 (by simp) o e⟩
 item:=by
   intro X hP hw hK hc i pins s σ H E I hf st hg;subst hP hw hK;obtain⟨hz,hTI,⟨p,q,hTO⟩,h3,h4⟩:=st;obtain⟨xs,ys,x,y,hq1,hq2,hx,hy⟩:=hg;obtain⟨is1,rv1,p1,hz1⟩:=I.seqB hq1;obtain⟨is2,rv2,p2,hz2⟩:=I.seqB hq2;obtain⟨u,hu,ru⟩:=rv1.get hx;obtain⟨v,hv,rv⟩:=rv2.get hy;have ty:s.TypeIs (.ref z) "zip":=⟨_,hz,rfl⟩;unfold pyNext;refine wpAny_bind (wpAny_attempt (wpAny_callSpecial?_slot (name:=Str.ofString "__next__") ty F.slot_zip_next (wpAny_call_entry F.slot_zip_next ty F.entry_zip_next (b3b D (a7o p1 hz rfl (by decide) (by decide)) (a7o p2 hz rfl (by decide) (by decide)) (b1M I hf hTO hq1) (b1M I hf hTO hq2) (h3.ne p1) (h3.ne p2) hz hTI hTO h3 h4 p1 p2 (by simpa using hu) (by simpa using hv) fun h' a1 a2 a3 a4 a5 k=>wpAny_pure ?_) (F.args_zip_next_1 _))));refine⟨_,rfl,wpAny_letOwnedTupleGo_zip (s:={ s with heap:=h' }) a1 fun h'' z'' sb=>?_⟩;have lt:∀{d:Addr} {o:Obj},s.heap.get? d=some o→s.heap.objs.size≠d:=fun e=>Nat.ne_of_gt (Heap.lt_size e);have ht'':h''.get? s.heap.objs.size=some { cls:=.type "tuple",data:=.seq #[u,v] }:=(sb.2 _ (lt hz)).trans a5
   have k':∀d o,d∉[z,TI,TO,i1,i2]→s.heap.get? d=some o→h''.get? d=some o:=fun d o hb q=>by
     have hb1:d≠z:=fun e=>hb (by simp [e]);exact(sb.2 d hb1).trans (k d o hb1 (fun e=>hb (by simp [e])) (fun e=>hb (by simp [e])) (fun e=>hb (by simp [e])) q)
   have I1:Inv X pins σ (upd H s.heap.objs.size (.tup [x,y])) { s with heap:=h'' }:=
     I.turnedNew (t':=s.toks) k' hf ⟨by show 2≤sizeLine;decide,[u,v],.cons ru (.cons rv .nil),⟨_,ht'',rfl,_,rfl⟩⟩
   obtain⟨o3,e3,_,_⟩:=h3.obj;obtain⟨o4,e4,_,_⟩:=h4.obj
   refine⟨.ref s.heap.objs.size,_,I1,rfl,⟨_,x,y,I.fresh,rfl,rfl,fun zs hzs=>by rw [I.seqB_inj hzs hq1];exact hx,fun zs hzs=>by rw [I.seqB_inj hzs hq2];exact hy⟩,
     ⟨z'',sb.extBut _ _ D.a1 (k _ _ D.a1 D.a5 D.a6 D.a7 hTI),⟨u,v,sb.extBut _ _ D.a2 a2⟩,a3.at fun o e=>sb.extBut _ o D.a3 e,a4.at fun o e=>sb.extBut _ o D.a4 e⟩,fun d hd=>?_⟩
   have hd':d=z∨d=TI∨d=TO∨d=i1∨d=i2:=by simpa using hd
   have hds:d≠s.heap.objs.size:=by
     rcases hd' with rfl | rfl | rfl | rfl | rfl
     · exact(lt hz).symm
     · exact(lt hTI).symm
     · exact(lt hTO).symm
     · exact(lt e3).symm
     · exact(lt e4).symm
   rw [a0j hds];exact(hf d hd).1
 done:=by
   intro X hP hw hK hc i pins s σ H E I hf st hg;subst hP hw hK;obtain⟨hz,hTI,⟨p,q,hTO⟩,h3,h4⟩:=st;obtain⟨xs,ys,hq1,hq2,hmin⟩:=hg;obtain⟨is1,rv1,p1,hz1⟩:=I.seqB hq1;obtain⟨is2,rv2,p2,hz2⟩:=I.seqB hq2;have l1:=rv1.length;have l2:=rv2.length;have ty:s.TypeIs (.ref z) "zip":=⟨_,hz,rfl⟩
   have hend:is1.toArray[i]?=none∨is2.toArray[i]?=none:=by
     rcases Nat.le_total xs.length ys.length with h | h
     · exact .inl (Array.getElem?_eq_none (by rw [List.size_toArray];omega))
     · exact .inr (Array.getElem?_eq_none (by rw [List.size_toArray];omega))
   unfold pyNext;refine wpAny_bind (wpAny_attempt (wpAny_callSpecial?_slot (name:=Str.ofString "__next__") ty F.slot_zip_next (wpAny_call_entry F.slot_zip_next ty F.entry_zip_next (zipEnd (A:=X.A.in1) (I.ok.hd hc) D (a7o p1 hz rfl (by decide) (by decide)) (a7o p2 hz rfl (by decide) (by decide)) (b1M I hf hTO hq1) (b1M I hf hTO hq2) (h3.ne p1) (h3.ne p2) hz hTI hTO h3 h4 p1 p2 hend fun h' e k he=>?_) (F.args_zip_next_1 _))));obtain⟨o,ho,hce⟩:=he;refine wpAny_bind (wpAny_isInstance (T:="StopIteration") (b:=true) ⟨o,ho,hce⟩ isSubtype_stop (wpAny_pure ⟨rfl,?_⟩));exact I.turnedAll (t':=s.toks) (ch:=[z,TI,TO,i1,i2]) (fun d o hd e=>k d o (fun z=>hd (by simp [z])) (fun z=>hd (by simp [z])) (fun z=>hd (by simp [z])) (fun z=>hd (by simp [z])) e) hf
 self:=fun _ _ _ _ _ st h=>wpAny_pyIter_zip st.1 h
end
end L2
end
section
set_option maxHeartbeats 1000000
namespace L2
open PySem PySem.Spec PyProof.Rows
section
variable {X:Cx}
def iZipB (b1 b2:Bool)(K:PySem.W.Frag)(ta:TA):TI:=fun σ H R=>ta σ H fun vs H1=>∃a c,vs=[.ref a,.ref c]∧(∃xs,SqB b1 K H1 a xs)∧(∃ys,SqB b2 K H1 c ys)∧R (ItzB b1 b2 K a c) H1
theorem b3y (b1 b2:Bool){a b:Expr}{ta:TA}{p pos:Pos}{elts:List Expr}{x1}{tpos:Pos}(hg:Gl X "zip")(hm:X.mg "zip"=none)(ha:PA X [a,b] ta)(hs:starEach [a,b] X.env=[(false,eval a X.env),(false,eval b X.env)]:=by rfl)(hs2:starEach [b] X.env=[(false,eval b X.env)]:=by rfl) :
   PI X (.Tuple elts x1 tpos) (.Call (.Name "zip" p) [a,b] [] pos) (iZipB b1 b2 X.K ta):=by
 intro pins s σ H R I h;refine Call_ (a4i I hg hm boot_zip (PyProof.Rows.callWith_type1 (thn (ha pos pins s σ H _ I h) fun us s1 ⟨vs,H1,I1,r1,q1⟩=>?_) (by rw [hs,hs2]) (by rw [hs2];rfl)));obtain⟨a,c,e,⟨xs,h1⟩,⟨ys,h2⟩,q⟩:=q1;subst e;cases r1 with
 | cons r rr =>
   cases rr with
   | cons r' rr =>
     cases rr;cases r;cases r';obtain⟨is1,rv1,p1,hz1⟩:=I1.seqB h1;obtain⟨is2,rv2,p2,hz2⟩:=I1.seqB h2;refine zipB p1 p2 fun h' e1 e2 e3 e4 e5 hk=>?_;refine wpAny_pyIter_zip e1 ?_;have I2:Inv X pins σ H1 { s1 with heap:=h' }:=I1.kept (t':=s1.toks) hk;refine⟨s1.heap.objs.size + 4,[s1.heap.objs.size + 4,s1.heap.objs.size + 2,s1.heap.objs.size + 3,s1.heap.objs.size,s1.heap.objs.size + 1],_,_,H1,rfl,I2,a8K a c _ _ _ _ _ ⟨by simp,by simp,by simp,by simp,by simp,by simp,by simp,by simp,by simp,by simp⟩,⟨e1,e2,⟨_,_,e3⟩,e4,e5⟩,fun d hd=>?_,q⟩
     have hd':s1.heap.objs.size≤d:=by
       simp only [List.mem_cons,List.not_mem_nil,or_false] at hd;rcases hd with rfl | rfl | rfl | rfl | rfl <;> omega
     exact I1.fpOk hd' (I1.hok.fresh hd')
end
end L2
namespace Pu
open PySem PySem.Spec L2
section
variable {T:PotK}{ι:Type}{K:PySem.W.Frag}{F:ι→Cx}{e a b tg:Expr}{pe pa pb:pE}{pos:Pos}
def zipP (xs ys:List PV):List PV:=(xs.zip ys).map fun y=>.tup [y.1,y.2]
def a7Z (b:Bool):PV→Option (List PV)
 | .lst xs=>if b then some xs else none
 | .tup xs=>if b then none else some xs
 | _=>none
theorem b1o {b:Bool}{x:PV}{xs:List PV}(h:a7Z b x=some xs):x=(match b with | true=>.lst xs | false=>.tup xs):=by
 cases x <;> cases b <;> simp [a7Z] at h <;> simp [h]
theorem a9b {b:Bool}{x:PV}{xs:List PV}{G:Gh}{H:Hp}{v:V}(h:a7Z b x=some xs)(r:Rep K G H x v):∃a vs,v=.ref a∧a∉G.M∧Reps K G H xs vs∧∀H2,(∀c o,c∉G.M→H c=some o→H2 c=some o)→SqB b K H2 a vs:=by
 rw [b1o h] at r;cases b with
 | true =>
   obtain⟨a,vs,e,t,r⟩:=r;exact⟨a,vs,e,t.1,r,fun H2 hk=>SqL.of (hk a _ t.1 t.2)⟩
 | false =>
   obtain⟨a,vs,e,t,r⟩:=r;exact⟨a,vs,e,t.1,r,fun H2 hk=>SqT.of (hk a _ t.1 t.2)⟩
def qZip (b1 b2:Bool)(pa pb:pE):pA:=fun env n R=>pa env n fun x env1 n1=>pb env1 n1 fun y env2 n2=>match a7Z b1 x,a7Z b2 y with | some xs,some ys=>R (zipP xs ys) env2 n2 | _,_=>False
theorem b1a (xs ys:List PV):(zipP xs ys).length=min xs.length ys.length:=by simp [zipP]
theorem b1b {xs ys:List PV}{i:Nat}{x:PV}(h:(zipP xs ys)[i]?=some x):∃u v,xs[i]?=some u∧ys[i]?=some v∧x=.tup [u,v]:=by
 unfold zipP at h;rw [List.getElem?_map] at h;cases e:(xs.zip ys)[i]? with
 | none=>rw [e] at h;cases h
 | some y =>
   rw [e] at h;obtain⟨h1,h2⟩:=List.getElem?_zip_eq_some.mp e;exact⟨y.1,y.2,h1,h2,(Option.some.inj h).symm⟩
theorem qi_zip (b1 b2:Bool){p:Pos}{elts:List Expr}{x1:Nat}{tpos:Pos}(hg:∀z,Gl (F z) "zip")(hm:∀z,(F z).mg "zip"=none)(ha:QE T K F a pa)(hb:QE T K F b pb)(hs:a0C a=true:=by rfl)(hs2:a0C b=true:=by rfl)(hK:∀z,(F z).K=K:=by intro _;rfl):QI T K F (.Tuple elts x1 tpos) (.Call (.Name "zip" p) [a,b] [] pos) (qZip b1 b2 pa pb):=by
 obtain⟨t,h1,h2⟩:=ha;obtain⟨u,h3,h4⟩:=hb;refine⟨_,fun z=>hK z▸b3y b1 b2 (hg z) (hm z) (a0r (h1 z) (a0r (h3 z) a0K (a0e hs2)) (a0e hs)) (by rw [a0e hs,a0e hs2];rfl) (by rw [a0e hs2];rfl),fun C G σ H env n R Q hK hT S hp k=>?_⟩;refine h2 C G σ H env n _ _ hK hT S hp fun x env1 n1 v H1 p1 S1 r1 f1=>?_;refine h4 C G σ H1 env1 n1 _ _ hK hT S1 p1 fun y env2 n2 w H2 p2 S2 r2 f2=>?_
 split at p2
 · rename_i xs ys ex ey;obtain⟨a,vs,rfl,na,ra,sa⟩:=a9b ex (r1.fr f2);obtain⟨c,us,rfl,nc,rc,scq⟩:=a9b ey r2;refine⟨a,c,rfl,⟨vs,sa H2 fun _ _ _ e=>e⟩,⟨us,scq H2 fun _ _ _ e=>e⟩,k _ _ _ _ _ p2 S2 (f1.trans f2) ?_⟩;intro G2 H3 hk hM hp hf;have ra':Reps K G2 H3 xs vs:=Reps.mono hk hM hp _ _ ra;have rc':Reps K G2 H3 ys us:=Reps.mono hk hM hp _ _ rc;refine⟨fun i x e=>?_,fun i hi=>⟨vs,us,sa H3 hk,scq H3 hk,by rw [← ra.length,← rc.length,← b1a];exact hi⟩⟩;obtain⟨u,v,eu,ev,rfl⟩:=b1b e;obtain⟨u',eu',ru⟩:=ra'.get' eu;obtain⟨v',ev',rv⟩:=rc'.get' ev;refine⟨⟨vs,us,u',v',sa H3 hk,scq H3 hk,eu',ev'⟩,fun x' H4 y=>?_⟩;obtain⟨p,u2,v2,hn,rfl,rfl,y1,y2⟩:=y;have q1:=y1 vs (sa H3 hk);have q2:=y2 us (scq H3 hk);rw [eu'] at q1;rw [ev'] at q2;cases q1;cases q2;exact⟨Same.lay1 hn,a3P (hf p hn) hn (.cons ru (.one rv))⟩
 · exact p2.elim
end
end Pu
end
section
set_option maxHeartbeats 1000000
namespace L2
open PySem PySem.W PyProof.Rows
namespace Kr
def run {α:Type}(lt:Nat→Nat→Bool):KasT α→α
 | .ret a=>a
 | .ask i j k=>run lt (k (lt i j))
theorem a2n {α β:Type}(lt:Nat→Nat→Bool)(f:α→KasT β):∀t:KasT α,run lt (t.bind f)=run lt (f (run lt t))
 | .ret a=>rfl
 | .ask i j k=>a2n lt f (k (lt i j))
structure Ord (lt:Nat→Nat→Bool):Prop where
 ir:∀a,lt a a=false
 tr:∀a b c,lt a b=true→lt b c=true→lt a c=true
 nt:∀a b c,lt a c=true→lt a b=true∨lt b c=true
variable {lt:Nat→Nat→Bool}(O:Ord lt)
include O
theorem Ord.as {a b:Nat}(h:lt a b=true):lt b a=false:=by
 cases e:lt b a with
 | false=>rfl
 | true=>have:=O.tr _ _ _ h e;rw [O.ir] at this;cases this
theorem Ord.le {a b c:Nat}(h1:lt b a=false)(h2:lt c b=false):lt c a=false:=by
 cases e:lt c a with
 | false=>rfl
 | true=>rcases O.nt c b a e with h | h <;> simp_all
theorem Ord.l1 {a b c:Nat}(h1:lt a b=true)(h2:lt c b=false):lt a c=true:=by
 rcases O.nt a c b h1 with h | h
 · exact h
 · rw [h2] at h;cases h
theorem Ord.l2 {a b c:Nat}(h1:lt b a=false)(h2:lt b c=true):lt a c=true:=by
 rcases O.nt b a c h2 with h | h
 · rw [h1] at h;cases h
 · exact h
omit O
def g (p:Array Nat)(i:Nat):Nat:=p.getD i 0
theorem g_eq (p:Array Nat)(i:Nat):g p i=(p[i]?).getD 0:=by unfold g;rw [Array.getD_eq_getD_getElem?]
theorem a4A {p:Array Nat}{i j:Nat}(h:j≤p.size)(k:Nat):g (kas_rev p i j) k=if i≤k∧k < j then g p (i + j - 1 - k) else g p k:=by
 unfold kas_rev;rw [g_eq,getElem?_mirror_all h]
 split <;> rw [g_eq]
theorem g_bub {p:Array Nat}{k l:Nat}(h:k < p.size)(hl:l≤k)(i:Nat):g (bubble p k (k - l)) i=if i=l then g p k else if l < i∧i≤k then g p (i - 1) else g p i:=by
 rw [g_eq,getElem?_bubble h (k - l) (by omega),show k - (k - l)=l by omega]
 split
 · rw [g_eq]
 · split <;> rw [g_eq]
theorem a1K (p:Array Nat)(i j:Nat):(kas_rev p i j).size=p.size:=mirror_size _ _ _ _
theorem a2N (p:Array Nat)(i j:Nat):(kas_rev p i j).Perm p:=mirror_perm _ _ _ _
def S (lt:Nat→Nat→Bool)(p:Array Nat)(k:Nat):Prop:=∀i j,i≤j→j < k→lt (g p j) (g p i)=false
def D (lt:Nat→Nat→Bool)(p:Array Nat)(k:Nat):Prop:=∀i j,i≤j→j < k→lt (g p i) (g p j)=false
def B (lt:Nat→Nat→Bool)(p:Array Nat)(a k:Nat):Prop:=∀i j,a≤i→i < k→a≤j→j < k→lt (g p i) (g p j)=false
include O
theorem S_succ {p:Array Nat}{n:Nat}(h:S lt p n)(hn:1≤n)(hl:lt (g p n) (g p (n - 1))=false):S lt p (n + 1):=by
 intro i j hij hj;rcases Nat.lt_succ_iff_lt_or_eq.mp hj with h1 | h1
 · exact h i j hij h1
 · subst h1;rcases Nat.lt_or_eq_of_le hij with h2 | h2
   · exact O.le (h i (j - 1) (by omega) (by omega)) hl
   · rw [h2];exact O.ir _
theorem b0Q (p:Array Nat):∀(f n:Nat),1≤n→S lt p n→n≤run lt (kas_asc p f n)∧run lt (kas_asc p f n)≤n + f∧S lt p (run lt (kas_asc p f n))∧(run lt (kas_asc p f n)=n + f∨lt (g p (run lt (kas_asc p f n))) (g p (run lt (kas_asc p f n) - 1))=true)
 | 0,n,hn,h=>⟨Nat.le_refl _,Nat.le_refl _,h,.inl rfl⟩
 | f + 1, n, hn, h => by
   show n≤run lt (if lt (g p n) (g p (n - 1))=true then .ret n else kas_asc p f (n + 1))∧run lt (if lt (g p n) (g p (n - 1))=true then .ret n else kas_asc p f (n + 1))≤n + (f + 1)∧S lt p (run lt (if lt (g p n) (g p (n - 1))=true then .ret n else kas_asc p f (n + 1)))∧(run lt (if lt (g p n) (g p (n - 1))=true then .ret n else kas_asc p f (n + 1))=n + (f + 1)∨lt (g p (run lt (if lt (g p n) (g p (n - 1))=true then .ret n else kas_asc p f (n + 1)))) (g p (run lt (if lt (g p n) (g p (n - 1))=true then .ret n else kas_asc p f (n + 1)) - 1))=true);cases e:lt (g p n) (g p (n - 1)) with
   | true =>
     rw [if_pos rfl];exact⟨Nat.le_refl _,by show n≤_;omega,h,.inr e⟩
   | false =>
     rw [if_neg (by simp)];obtain⟨h1,h2,h3,h4⟩:=b0Q p f (n + 1) (by omega) (S_succ O h hn e);exact⟨by omega,by omega,h3,h4.imp (fun x=>by omega) id⟩
theorem D_rev {p:Array Nat}{a n:Nat}(hn:n≤p.size)(h:D lt p n)(hb:B lt p a n):D lt (kas_rev p a n) n:=by
 intro i j hij hj;rw [a4A hn,a4A hn]
 by_cases c1:a≤i
 · rw [if_pos ⟨c1,by omega⟩,if_pos ⟨by omega,hj⟩];exact hb _ _ (by omega) (by omega) (by omega) (by omega)
 · rw [if_neg (by omega)]
   by_cases c2:a≤j
   · rw [if_pos ⟨c2,hj⟩];exact h _ _ (by omega) (by omega)
   · rw [if_neg (by omega)];exact h _ _ hij hj
theorem a6k {p:Array Nat}{n:Nat}(h:D lt p n)(hn:1≤n)(hl:lt (g p (n - 1)) (g p n)=false):D lt p (n + 1):=by
 intro i j hij hj;rcases Nat.lt_succ_iff_lt_or_eq.mp hj with h1 | h1
 · exact h i j hij h1
 · subst h1;rcases Nat.lt_or_eq_of_le hij with h2 | h2
   · exact O.le hl (h i (j - 1) (by omega) (by omega))
   · rw [h2];exact O.ir _
theorem a5q:∀(f:Nat) (p:Array Nat) (n q:Nat),q + 1≤n→n + f≤p.size→D lt p n→B lt p (n - (q + 1)) n→
   ∃p' n' q',run lt (kas_desc f p n q)=(p',n',q')∧p'.Perm p∧p'.size=p.size∧n≤n'∧n'≤n + f∧q' + 1≤n'∧D lt p' n'∧B lt p' (n' - (q' + 1)) n'
 | 0,p,n,q,hq,hs,h,hb=>⟨p,n,q,rfl,Array.Perm.refl _,rfl,Nat.le_refl _,Nat.le_refl _,hq,h,hb⟩
 | f + 1, p, n, q, hq, hs, h, hb => by
   have one:∀p n,B lt p (n + 1 - (0 + 1)) (n + 1):=fun p n i j h1 h2 h3 h4=>by
     have:i=j:=by omega
     rw [this];exact O.ir _
   cases e:lt (g p n) (g p (n - 1)) with
   | true =>
     by_cases c:q > 0
     · have hd:=D_rev O (by omega:n≤p.size) h hb;have e1:g (kas_rev p (n - (q + 1)) n) n=g p n:=by rw [a4A (by omega),if_neg (by omega)]
       have e2:g (kas_rev p (n - (q + 1)) n) (n - 1)=g p (n - (q + 1)):=by rw [a4A (by omega),if_pos (by omega)];congr 1;omega
       have e3:lt (g p (n - (q + 1))) (g p n)=false:=O.as (O.l1 e (hb _ _ (by omega) (by omega) (by omega) (by omega)));obtain⟨p',n',q',a1,a2,a3,a4,a5,a6,a7,a8⟩:=a5q f (kas_rev p (n - (q + 1)) n) (n + 1) 0 (by omega) (by rw [a1K];omega) (a6k O hd (by omega) (by rw [e1,e2];exact e3)) (one _ _);refine⟨p',n',q',?_,a2.trans (a2N _ _ _),by rw [a3,a1K],by omega,by omega,a6,a7,a8⟩;show run lt (if lt (g p n) (g p (n - 1))=true then(if q > 0 then kas_desc f (kas_rev p (n - (q + 1)) n) (n + 1) 0 else kas_desc f p (n + 1) 0) else _)=_;rw [if_pos e,if_pos c];exact a1
     · obtain⟨p',n',q',a1,a2,a3,a4,a5,a6,a7,a8⟩:=a5q f p (n + 1) 0 (by omega) (by omega) (a6k O h (by omega) (O.as e)) (one _ _);refine⟨p',n',q',?_,a2,a3,by omega,by omega,a6,a7,a8⟩;show run lt (if lt (g p n) (g p (n - 1))=true then(if q > 0 then kas_desc f (kas_rev p (n - (q + 1)) n) (n + 1) 0 else kas_desc f p (n + 1) 0) else _)=_;rw [if_pos e,if_neg c];exact a1
   | false =>
     cases e':lt (g p (n - 1)) (g p n) with
     | true =>
       refine⟨p,n,q,?_,Array.Perm.refl _,rfl,Nat.le_refl _,by omega,hq,h,hb⟩;show run lt (if lt (g p n) (g p (n - 1))=true then _ else KasT.ask (g p (n - 1)) (g p n) fun d=>if d=true then .ret (p,n,q) else kas_desc f p (n + 1) (q + 1))=_;rw [if_neg (by rw [e];simp)];show run lt (if lt (g p (n - 1)) (g p n)=true then .ret (p,n,q) else kas_desc f p (n + 1) (q + 1))=_;rw [if_pos e'];rfl
     | false =>
       have hb':B lt p (n + 1 - (q + 1 + 1)) (n + 1):=by
         have up:∀i,n - (q + 1)≤i→i < n→lt (g p i) (g p n)=false∧lt (g p n) (g p i)=false:=fun i h1 h2=>
           ⟨O.le e' (hb i (n - 1) h1 h2 (by omega) (by omega)),O.le (hb (n - 1) i (by omega) (by omega) h1 h2) e⟩
         intro i j h1 h2 h3 h4
         by_cases ci:i < n
         · by_cases cj:j < n
           · exact hb i j (by omega) ci (by omega) cj
           · rw [show j=n by omega];exact(up i (by omega) ci).1
         · rw [show i=n by omega]
           by_cases cj:j < n
           · exact(up j (by omega) cj).2
           · rw [show j=n by omega];exact O.ir _
       obtain⟨p',n',q',a1,a2,a3,a4,a5,a6,a7,a8⟩:=a5q f p (n + 1) (q + 1) (by omega) (by omega) (a6k O h (by omega) e') hb';refine⟨p',n',q',?_,a2,a3,by omega,by omega,a6,a7,a8⟩;show run lt (if lt (g p n) (g p (n - 1))=true then _ else KasT.ask (g p (n - 1)) (g p n) fun d=>if d=true then .ret (p,n,q) else kas_desc f p (n + 1) (q + 1))=_;rw [if_neg (by rw [e];simp)];show run lt (if lt (g p (n - 1)) (g p n)=true then .ret (p,n,q) else kas_desc f p (n + 1) (q + 1))=_;rw [if_neg (by rw [e'];simp)];exact a1
theorem S_of_D {p:Array Nat}{n:Nat}(hn:n≤p.size)(h:D lt p n):S lt (kas_rev p 0 n) n:=by
 intro i j hij hj;rw [a4A hn,a4A hn,if_pos ⟨by omega,hj⟩,if_pos ⟨by omega,by omega⟩];exact h _ _ (by omega) (by omega)
theorem a7i {p:Array Nat}{n nrem:Nat}(h1:1≤n)(hn:n≤nrem)(hs:nrem≤p.size)(h:D lt p n) :
   ∃m p',run lt (kas_tail3 n nrem p)=(m,p')∧p'.Perm p∧p'.size=p.size∧1≤m∧m≤nrem∧S lt p' m:=by
 obtain⟨a1,a2,a3,_⟩:=b0Q O (kas_rev p 0 n) (nrem - n) n h1 (S_of_D O (by omega) h);refine⟨_,kas_rev p 0 n,?_,a2N _ _ _,a1K _ _ _,?_,?_,a3⟩
 · unfold kas_tail3;rw [a2n];rfl
 · omega
 · omega
theorem a4m {p:Array Nat}{n nrem:Nat}(h1:1≤n)(hn:n + 1≤nrem)(hs:nrem≤p.size)(h:D lt p (n + 1)) :
   ∃m p',run lt (kas_descPart n nrem p)=(m,p')∧p'.Perm p∧p'.size=p.size∧1≤m∧m≤nrem∧S lt p' m:=by
 obtain⟨p',n',q',a1,a2,a3,a4,a5,a6,a7,a8⟩:=a5q O (nrem - (n + 1)) p (n + 1) 0 (by omega) (by omega) h (fun i j h1 h2 h3 h4=>by
   have:i=j:=by omega
   rw [this];exact O.ir _)
 unfold kas_descPart;rw [a2n,a1];dsimp only
 by_cases c:q' > 0
 · rw [if_pos c];obtain⟨m,p2,b1,b2,b3,b4,b5,b6⟩:=a7i O (p:=kas_rev p' (n' - (q' + 1)) n') (n:=n') (nrem:=nrem) (by omega) (by omega) (by rw [a1K];omega) (D_rev O (by omega) a7 a8);exact⟨m,p2,b1,(b2.trans (a2N _ _ _)).trans a2,by rw [b3,a1K,a3],b4,b5,b6⟩
 · rw [if_neg c];obtain⟨m,p2,b1,b2,b3,b4,b5,b6⟩:=a7i O (p:=p') (n:=n') (nrem:=nrem) (by omega) (by omega) (by omega) a7;exact⟨m,p2,b1,b2.trans a2,by rw [b3,a3],b4,b5,b6⟩
theorem b2i {p:Array Nat}{n:Nat}(h1:1≤n)(hs:p.size=n):∃m p',run lt (kas_count n p)=(m,p')∧p'.Perm p∧p'.size=p.size∧1≤m∧m≤n∧S lt p' m:=by
 have s1:S lt p 1:=fun i j h2 h3=>by
   have:i=j:=by omega
   rw [this];exact O.ir _
 obtain⟨a1,a2,a3,a4⟩:=b0Q O p (n - 1) 1 (Nat.le_refl _) s1;unfold kas_count;rw [a2n];generalize run lt (kas_asc p (n - 1) 1)=k at a1 a2 a3 a4 ⊢
 by_cases c:k=n
 · rw [if_pos (by rw [c];exact beq_self_eq_true n)];exact⟨k,p,rfl,Array.Perm.refl _,rfl,a1,by omega,a3⟩
 · rw [if_neg (by simpa using c)];have a5:lt (g p k) (g p (k - 1))=true:=a4.resolve_left (by omega)
   by_cases c1:k > 1
   · rw [if_pos c1];show ∃m p',run lt (if lt (g p 0) (g p (k - 1))=true then .ret (k,p) else kas_descPart k n (kas_rev p 0 k))=(m,p')∧_;cases e:lt (g p 0) (g p (k - 1)) with
     | true=>rw [if_pos rfl];exact⟨k,p,rfl,Array.Perm.refl _,rfl,a1,by omega,a3⟩
     | false =>
       rw [if_neg (by simp)]
       have al:∀i j,i < k→j < k→lt (g p i) (g p j)=false:=fun i j hi hj=>by
         have x1:=a3 j (k - 1) (by omega) (by omega);have x2:=a3 0 i (by omega) hi;exact O.le (O.le x1 e) x2
       have hd:D lt (kas_rev p 0 k) (k + 1):=by
         refine a6k O (fun i j hij hj=>?_) a1 ?_
         · rw [a4A (by omega),a4A (by omega),if_pos ⟨by omega,by omega⟩,if_pos ⟨by omega,hj⟩];exact al _ _ (by omega) (by omega)
         · rw [a4A (by omega),a4A (by omega),if_pos ⟨by omega,by omega⟩,if_neg (by omega)];exact O.as (O.l1 a5 (al _ _ (by omega) (by omega)))
       obtain⟨m,p2,b1,b2,b3,b4,b5,b6⟩:=a4m O (p:=kas_rev p 0 k) (n:=k) (nrem:=n) a1 (by omega) (by rw [a1K];omega) hd;exact⟨m,p2,b1,b2.trans (a2N _ _ _),by rw [b3,a1K],b4,b5,b6⟩
   · rw [if_neg c1];have hk:k=1:=by omega
     subst hk
     exact a4m O (Nat.le_refl _) (by omega) (by omega) (a6k O (fun i j h2 h3=>by
       have:i=j:=by omega
       rw [this];exact O.ir _) (Nat.le_refl _) (O.as a5))
theorem a5e {p:Array Nat}{k:Nat}(h:S lt p k):∀(f l r:Nat),l≤r→r≤k→r - l≤f→(∀i,i < l→lt (g p k) (g p i)=false)→(∀i,r≤i→i < k→lt (g p k) (g p i)=true)→
   run lt (kas_place p k f l r)≤k∧(∀i,i < run lt (kas_place p k f l r)→lt (g p k) (g p i)=false)∧(∀i,run lt (kas_place p k f l r)≤i→i < k→lt (g p k) (g p i)=true)
 | 0, l, r, h1, h2, h3, h4, h5 => by
   have:l=r:=by omega
   subst this;exact⟨h2,h4,h5⟩
 | f + 1, l, r, h1, h2, h3, h4, h5 => by
   by_cases c:l≥r
   · have:l=r:=by omega
     subst this;unfold kas_place;rw [if_pos c];exact⟨h2,h4,h5⟩
   · have e:run lt (kas_place p k (f + 1) l r)=run lt (if lt (g p k) (g p ((l + r) / 2))=true then kas_place p k f l ((l + r) / 2) else kas_place p k f ((l + r) / 2 + 1) r):=by
       conv=>lhs;unfold kas_place
       rw [if_neg c];rfl
     rw [e];cases e2:lt (g p k) (g p ((l + r) / 2)) with
     | true =>
       rw [if_pos rfl];exact a5e h f l ((l + r) / 2) (by omega) (by omega) (by omega) h4 fun i i1 i2=>O.l1 e2 (h _ _ i1 i2)
     | false =>
       rw [if_neg (by simp)];exact a5e h f ((l + r) / 2 + 1) r (by omega) h2 (by omega) (fun i i1=>O.le (h i ((l + r) / 2) (by omega) (by omega)) e2) h5
theorem b2Y:∀(f:Nat) (p:Array Nat) (k:Nat),k + f≤p.size→S lt p k→(run lt (kas_bin f p k)).Perm p∧(run lt (kas_bin f p k)).size=p.size∧S lt (run lt (kas_bin f p k)) (k + f)
 | 0,p,k,_,h=>⟨Array.Perm.refl _,rfl,h⟩
 | f + 1, p, k, hs, h => by
   obtain⟨a1,a2,a3⟩:=a5e O h k 0 k (by omega) (Nat.le_refl _) (by omega) (fun i z=>by omega) (fun i z z2=>by omega)
   have e:run lt (kas_bin (f + 1) p k)=run lt (kas_bin f (bubble p k (k - run lt (kas_place p k k 0 k))) (k + 1)):=by
     show run lt ((kas_place p k k 0 k).bind fun l=>kas_bin f (bubble p k (k - l)) (k + 1))=_;rw [a2n]
   rw [e];generalize run lt (kas_place p k k 0 k)=l at a1 a2 a3 ⊢
   have hS:S lt (bubble p k (k - l)) (k + 1):=by
     intro i j hij hj;rw [g_bub (by omega) a1,g_bub (by omega) a1]
     by_cases ci:i=l
     · rw [if_pos ci]
       by_cases cj:j=l
       · rw [if_pos cj];exact O.ir _
       · rw [if_neg cj,if_pos ⟨by omega,by omega⟩];exact O.as (a3 _ (by omega) (by omega))
     · rw [if_neg ci]
       by_cases cj:j=l
       · rw [if_pos cj,if_neg (by omega)];exact a2 _ (by omega)
       · rw [if_neg cj]
         by_cases c2:l < j
         · rw [if_pos ⟨c2,by omega⟩]
           by_cases c3:l < i
           · rw [if_pos ⟨c3,by omega⟩];exact h _ _ (by omega) (by omega)
           · rw [if_neg (by omega)];exact h _ _ (by omega) (by omega)
         · rw [if_neg (by omega),if_neg (by omega)];exact h _ _ hij (by omega)
   obtain⟨b1,b2,b3⟩:=b2Y f (bubble p k (k - l)) (k + 1) (by rw [bubble_size];omega) hS;exact⟨b1.trans (bubble_perm _ _ _),by rw [b2,bubble_size],by rw [show k + (f + 1)=k + 1 + f by omega];exact b3⟩
theorem sort_ok {n:Nat}(h1:1≤n):(run lt (kas_sort n)).Perm (List.toArray (List.range n))∧(run lt (kas_sort n)).size=n∧S lt (run lt (kas_sort n)) n:=by
 have hz:(List.toArray (List.range n)).size=n:=by simp
 obtain⟨m,p,a1,a2,a3,a4,a5,a6⟩:=b2i O (p:=List.toArray (List.range n)) h1 hz;unfold kas_sort;rw [a2n,a1];dsimp only
 by_cases c:m < n
 · rw [if_pos c,Nat.max_eq_left a4];obtain⟨b1,b2,b3⟩:=b2Y O (n - m) p m (by omega) a6;rw [show m + (n - m)=n by omega] at b3;exact⟨b1.trans a2,by rw [b2,a3,hz],b3⟩
 · rw [if_neg c];have:m=n:=by omega
   subst this;exact⟨a2,by rw [← hz,← a3];rfl,a6⟩
omit O
def InQ {α:Type}(n:Nat)(Q:α→Prop):KasT α→Prop
 | .ret a=>Q a
 | .ask i j k=>i < n∧j < n∧∀b,InQ n Q (k b)
theorem a2s {α β:Type}{n:Nat}{Q:α→Prop}{R:β→Prop}{f:α→KasT β}(hf:∀a,Q a→InQ n R (f a)):∀t:KasT α,InQ n Q t→InQ n R (t.bind f)
 | .ret a,h=>hf a h
 | .ask _ _ k,h=>⟨h.1,h.2.1,fun b=>a2s hf (k b) (h.2.2 b)⟩
def En (n:Nat)(p:Array Nat):Prop:=0 < n∧∀x∈p,x < n
theorem En.g {n:Nat}{p:Array Nat}(h:En n p)(i:Nat):p.getD i 0 < n:=by
 by_cases c:i < p.size
 · rw [show p.getD i 0=p[i] by simp [Array.getD,c]];exact h.2 _ (Array.getElem_mem c)
 · rw [show p.getD i 0=0 by simp [Array.getD,c]];exact h.1
theorem En.perm {n:Nat}{p q:Array Nat}(h:En n p)(hp:q.Perm p):En n q:=⟨h.1,fun x hx=>h.2 x (hp.mem_iff.mp hx)⟩
theorem En.rev {n:Nat}{p:Array Nat}(h:En n p)(i j:Nat):En n (kas_rev p i j):=h.perm (a2N _ _ _)
theorem b0R {n:Nat}{p:Array Nat}(h:En n p):∀f m,InQ n (fun _=>True) (kas_asc p f m)
 | 0,_=>trivial
 | f + 1, m => ⟨h.g _, h.g _, fun b => by
   cases b with
   | true=>exact trivial
   | false=>exact b0R h f (m + 1)⟩
theorem a5r {n:Nat}:∀f p m q,En n p→InQ n (fun r=>En n r.1) (kas_desc f p m q)
 | 0,_,_,_,h=>h
 | f + 1, p, m, q, h => ⟨h.g _, h.g _, fun b => by
   cases b with
   | true =>
     show InQ n _ (if q > 0 then _ else _)
     by_cases c:q > 0
     · rw [if_pos c];exact a5r f _ _ _ (h.rev _ _)
     · rw [if_neg c];exact a5r f _ _ _ h
   | false =>
     refine⟨h.g _,h.g _,fun d=>?_⟩;cases d with
     | true=>exact h
     | false=>exact a5r f _ _ _ h⟩
theorem a7j {n m k:Nat}{p:Array Nat}(h:En n p):InQ n (fun r=>En n r.2) (kas_tail3 m k p):=by
 unfold kas_tail3;refine a2s (Q:=fun _=>True) (fun a _=>?_) _ (b0R (h.rev _ _) _ _);exact(h.rev _ _:En n _)
theorem a4n {n m k:Nat}{p:Array Nat}(h:En n p):InQ n (fun r=>En n r.2) (kas_descPart m k p):=a2s (fun r hr=>by
   by_cases c:r.2.2 > 0
   · rw [if_pos c];exact a7j (hr.rev _ _)
   · rw [if_neg c];exact a7j hr) _ (a5r _ _ _ _ h)
theorem b2j {n k:Nat}{p:Array Nat}(h:En n p):InQ n (fun r=>En n r.2) (kas_count k p):=a2s (fun m _=>by
   by_cases c:(m == k)=true
   · rw [if_pos c];exact h
   · rw [if_neg c]
     by_cases c1:m > 1
     · rw [if_pos c1];refine⟨h.g _,h.g _,fun b=>?_⟩;cases b with
       | true=>exact h
       | false=>exact a4n (h.rev _ _)
     · rw [if_neg c1];exact a4n h) _ (b0R h _ _)
theorem a5f {n k:Nat}{p:Array Nat}(h:En n p):∀f l r,InQ n (fun _=>True) (kas_place p k f l r)
 | 0,_,_=>trivial
 | f + 1, l, r => by
   unfold kas_place
   by_cases c:l≥r
   · rw [if_pos c];exact trivial
   · rw [if_neg c];refine⟨h.g _,h.g _,fun b=>?_⟩;cases b with
     | true=>exact a5f h f _ _
     | false=>exact a5f h f _ _
theorem b2Z {n:Nat}:∀f p k,En n p→InQ n (fun _=>True) (kas_bin f p k)
 | 0,_,_,_=>trivial
 | f + 1,p,k,h=>a2s (fun l _=>b2Z f _ _ (h.perm (bubble_perm _ _ _))) _ (a5f h k 0 k)
theorem sort_in {n:Nat}(h1:1≤n):InQ n (fun _=>True) (kas_sort n):=a2s (fun r hr=>by
   by_cases c:r.1 < n
   · rw [if_pos c];exact b2Z _ _ _ hr
   · rw [if_neg c];exact trivial) _ (b2j ⟨h1,fun x hx=>by simpa using hx⟩)
theorem wp_run {α:Type}{lt:Nat→Nat→Bool}{n:Nat}{P:α→Prop}{ask:Nat→Nat→(Bool→Shared→Prop)→Shared→Prop}{Q:α→Shared→Prop}{s:Shared}(h:∀i j C,i < n→j < n→C (lt i j) s→ask i j C s):∀t:KasT α,InQ n P t→Q (run lt t) s→t.kasWp ask Q s
 | .ret a,_,q=>q
 | .ask i j k,hi,q=>h i j _ hi.1 hi.2.1 (wp_run h (k (lt i j)) (hi.2.2 _) q)
theorem out_ok {α:Type}(lt:α→α→Bool)(O:(∀a,lt a a=false)∧(∀a b c,lt a b=true→lt b c=true→lt a c=true)∧(∀a b c,lt a c=true→lt a b=true∨lt b c=true))(d:α)(xs:List α)(h1:1≤xs.length) :
   let p:=run (fun i j=>lt (xs.getD i d) (xs.getD j d)) (kas_sort xs.length)
   (p.toList.map fun i=>xs.getD i d).Perm xs∧(p.toList.map fun i=>xs.getD i d).Pairwise (fun a b=>lt b a=false):=by
 intro p;have OO:Ord fun i j=>lt (xs.getD i d) (xs.getD j d):=⟨fun a=>O.1 _,fun a b c=>O.2.1 _ _ _,fun a b c=>O.2.2 _ _ _⟩;obtain⟨a1,a2,a3⟩:=sort_ok OO h1;constructor
 · have hp:p.toList.Perm (List.range xs.length):=Array.perm_iff_toList_perm.mp a1;have:=hp.map fun i=>xs.getD i d;refine this.trans (List.Perm.of_eq ?_)
   apply List.ext_getElem (by simp)
   intro i h2 h3;simp [h3]
 · rw [List.pairwise_iff_getElem];intro i j hi hj hij;have hi':i < p.size:=by simpa using hi
   have hj':j < p.size:=by simpa using hj
   have:=a3 i j (Nat.le_of_lt hij) (by rw [← a2];exact hj');simp only [List.getElem_map,Array.getElem_toList];have e1:g p i=p[i]:=by unfold g;simp [Array.getD,hi']
   have e2:g p j=p[j]:=by unfold g;simp [Array.getD,hj']
   have this':lt (xs.getD (g p j) d) (xs.getD (g p i) d)=false:=this;rw [e1,e2] at this';exact this'
end Kr
end L2
end
section
set_option maxHeartbeats 1000000
namespace L2
open PySem PySem.W PySem.Spec PyProof.Rows
def a3k (lt:Nat→Nat→Bool)(vs:List Value):List Value:=if vs.length < 2 then vs else(Kr.run lt (kas_sort vs.length)).toList.map fun i=>vs.getD i Value.none
section
variable {prog:Program}{w:World}{A:Around}{E:Value→Shared→Prop}{s:Shared}
def b2r (h h1:Heap)(a:Addr):Prop:=∀b o,b≠a→h.get? b=some o→h1.get? b=some o
theorem a7X {a:Addr}{vs:List Value}{n:Nat}{lt:Nat→Nat→Bool}{P:PySem.Fin→Shared→Prop}(ho:s.heap.get? a=some (seqObj "list" vs.toArray n))(h64:vs.length < 64)
   (hk:2≤vs.length→∀h1,b2r s.heap h1 a→∃κ,(∀Q:SortKind→Shared→Prop,Q κ { s with heap:=h1 }→wpAny (model prog w) A (keyKind' vs.toArray) Q E { s with heap:=h1 })∧∀i j (C:Bool→Shared→Prop),i < vs.length→j < vs.length→C (lt i j) { s with heap:=h1 }→kas_ask prog w A κ vs i j C { s with heap:=h1 })
   (h:∀h2 e,b2r s.heap h2 a→h2.get? a=some (seqObj "list" (a3k lt vs).toArray e)→P (.done (.ret .none)) { s with heap:=h2 }):wpAny (model prog w) A (Builtin.«list.sort» ⟨[.ref a],[]⟩) P E s:=by
 have ha:a < s.heap.objs.size:=Heap.lt_size ho;have hsz:vs.toArray.size=vs.length:=by simp
 rw [list_sort_plain];refine wpAny_bind (listItems_at ho rfl ?_);refine wpAny_bind (listUpdate_at ho rfl ?_ (by rw [hsz,sizeLine_eq];omega) (Nat.zero_le _));obtain⟨e1,ho1⟩:∃e1,(s.heap.update a (Obj.mapSeq fun _=>(#[]:Array Value))).get? a=some (seqObj "list" #[] e1):=⟨_,get?_update_seq ho fun _=>#[]⟩;refine wpAny_bind (seqEpoch_at ho1 rfl ?_);refine wpAny_bind (wpAny_newTuple ?_ (by show vs.length≤_;rw [sizeLine_eq];omega));refine wpAny_bind (wpAny_newList ?_ (Nat.zero_le _));refine wpAny_holding ?_;show wpAny (model prog w) A _ P E { s with heap:=((s.heap.update a (Obj.mapSeq fun _=>(#[]:Array Value))).push (seqObj "tuple" vs.toArray 0)).push (seqObj "list" #[] 0) };have ho3:=Heap.get?_push_of_some (seqObj "list" #[] 0) (Heap.get?_push_of_some (seqObj "tuple" vs.toArray 0) ho1)
 have k3:b2r s.heap (((s.heap.update a (Obj.mapSeq fun _=>(#[]:Array Value))).push (seqObj "tuple" vs.toArray 0)).push (seqObj "list" #[] 0)) a:=fun b o hb e=>
   Heap.get?_push_of_some _ (Heap.get?_push_of_some _ (((Heap.SameBut.update s.heap a (Obj.mapSeq fun _=>(#[]:Array Value))).2 b hb).trans e))
 generalize ((s.heap.update a (Obj.mapSeq fun _=>(#[]:Array Value))).push (seqObj "tuple" vs.toArray 0)).push (seqObj "list" #[] 0)=h3 at ho3 k3 ⊢;dsimp only
 have last:∀out:Array Value,out.size=vs.length→out=(a3k lt vs).toArray→∃e,(h3.update a (Obj.mapSeq fun _=>out)).get? a=some (seqObj "list" (a3k lt vs).toArray e)∧b2r s.heap (h3.update a (Obj.mapSeq fun _=>out)) a:=fun out _ eo=>
   ⟨_,by rw [← eo];exact get?_update_seq ho3 fun _=>out,fun b o hb e=>((Heap.SameBut.update h3 a (Obj.mapSeq fun _=>out)).2 b hb).trans (k3 b o hb e)⟩
 by_cases h2:vs.toArray.size < 2
 · rw [if_pos h2,if_pos h2];refine wpAny_bind (wpAny_pure ?_);rw [StateT.run_pure];refine wpAny_bind (wpAny_pure ?_);dsimp only
   have eo:(arrOf (SortSt.mk' general' (vs.toArray.zip vs.toArray) #[] 7 none)).map (·.2)=(a3k lt vs).toArray:=by
     have e2:(arrOf (SortSt.mk' general' (vs.toArray.zip vs.toArray) #[] 7 none))=vs.toArray.zip vs.toArray:=rfl;rw [e2];unfold a3k;rw [if_pos (by omega)]
     apply Array.toList_inj.mp
     rw [Array.toList_map,Array.toList_zip];exact List.map_snd_zip (Nat.le_refl _)
   obtain⟨e,x1,x2⟩:=last _ (by rw [eo];unfold a3k;rw [if_pos (by omega)];simp) eo;refine wpAny_bind (seqEpoch_at ho3 rfl ?_);refine wpAny_bind (listUpdate_at ho3 rfl ?_ (Nat.zero_le _) (by rw [eo];unfold a3k;rw [if_pos (by omega),hsz,sizeLine_eq];omega));simp only [bne_self_eq_false,Bool.false_eq_true,if_false];exact wpAny_pure (h _ e x2 x1)
 · rw [if_neg h2,if_neg h2];have l2:2≤vs.length:=by omega
   obtain⟨κ,q1,q2⟩:=hk l2 h3 k3;refine wpAny_bind (q1 _ ?_);have wp:=Kr.wp_run (Q:=fun p s'=>p=Kr.run lt (kas_sort vs.length)∧s'={ s with heap:=h3 }) (P:=fun _=>True) q2 (kas_sort vs.length) (Kr.sort_in (by omega)) ⟨rfl,rfl⟩;refine wpAny_bind (wpAny_mono (kat_run (E:=E) (Q:=fun st' s'=>∃p:Array Nat,p.size=vs.length∧arrOf st'=p.map (kas_item (vs.toArray.zip vs.toArray))∧failedOf st'=none∧p=Kr.run lt (kas_sort vs.length)∧s'={ s with heap:=h3 }) rfl l2 h64 (fun p' st' s' a1 a2 a3 a4=>⟨p',a1,a2,a3,a4⟩) wp) ?_ fun _ _ e=>e);rintro⟨⟨⟩,st'⟩ s' ⟨p,hp,har,hf,ep,rfl⟩;dsimp only
   have eo:(arrOf st').map (·.2)=(a3k lt vs).toArray:=by
     rw [kat_snds rfl har,ep];unfold a3k;rw [if_neg (by omega)]
   have so:((arrOf st').map (·.2)).size=vs.length:=by rw [eo];unfold a3k;rw [if_neg (by omega),List.size_toArray,List.length_map,Array.length_toList,← ep,hp]
   obtain⟨e,x1,x2⟩:=last _ so eo;refine wpAny_bind (seqEpoch_at ho3 rfl ?_);refine wpAny_bind (listUpdate_at ho3 rfl ?_ (Nat.zero_le _) (by rw [so,sizeLine_eq];omega));rw [hf];simp only [bne_self_eq_false,Bool.false_eq_true,if_false];exact wpAny_pure (h _ e x2 x1)
theorem a5z {v:Value}{vs:List Value}{lt:Nat→Nat→Bool}{Q:Value→Shared→Prop}(h64:vs.length < 64)
   (hcol:∀(R:List Value→Shared→Prop),(∀h1 tk,(∀b o,s.heap.get? b=some o→h1.get? b=some o)→s.heap.objs.size≤h1.objs.size→R vs { s with heap:=h1,toks:=tk })→wpAny (model prog w) A.in1 (collect v) R E s)
   (hk:2≤vs.length→∀(A:Around) (E:Value→Shared→Prop) h1 tk,(∀b o,s.heap.get? b=some o→h1.get? b=some o)→∃κ,(∀Q:SortKind→Shared→Prop,Q κ { s with heap:=h1,toks:=tk }→wpAny (model prog w) A (keyKind' vs.toArray) Q E { s with heap:=h1,toks:=tk })∧∀i j (C:Bool→Shared→Prop),i < vs.length→j < vs.length→C (lt i j) { s with heap:=h1,toks:=tk }→kas_ask prog w A κ vs i j C { s with heap:=h1,toks:=tk })
   (h:∀h2 tk D e,(∀b o,s.heap.get? b=some o→h2.get? b=some o)→s.heap.objs.size≤D→h2.get? D=some (seqObj "list" (a3k lt vs).toArray e)→Q (.ref D) { s with heap:=h2,toks:=tk }) :
   wpAny (model prog w) A (call (.builtin "sorted") [v]) Q E s:=by
 refine Calls.call_function_entry kind_sorted plain_sorted entry_sorted (args_sorted1 _) ?_;unfold Builtin.«sorted»;refine wpAny_bind (m:=checkCount "sorted" 1 1 _) (wpAny_pure ?_);refine wpAny_bind (hcol _ fun h1 tk k1 z1=>?_);refine wpAny_bind (wpAny_newList ?_ (by rw [sizeLine_eq];omega));have hoL:(h1.push (seqObj "list" vs.toArray 0)).get? h1.objs.size=some (seqObj "list" vs.toArray 0):=Heap.get?_push_size _ rfl;have kL:∀b o,s.heap.get? b=some o→(h1.push (seqObj "list" vs.toArray 0)).get? b=some o:=fun b o e=>Heap.get?_push_of_some _ (k1 b o e);have ne:∀b o,s.heap.get? b=some o→b≠h1.objs.size:=fun b o e=>Nat.ne_of_lt (Nat.lt_of_lt_of_le (Heap.lt_size e) z1);refine wpAny_bind (wpAny_holding (wpAny_call_entry slot_list_sort ⟨_,hoL,rfl⟩ entry_list_sort ?body (args_list_sort _)))
 case body=>
   refine a7X (lt:=lt) (s:={ s with heap:=h1.push (seqObj "list" vs.toArray 0),toks:=tk }) hoL h64 (fun l2 h3 k3=>?_) fun h3 e k3 e3=>?_
   · exact hk l2 _ _ h3 tk fun b o x=>k3 b o (ne b o x) (kL b o x)
   · exact⟨_,rfl,wpAny_pure ⟨_,rfl,h h3 tk _ e (fun b o x=>k3 b o (ne b o x) (kL b o x)) z1 e3⟩⟩
end
end L2
end
section
set_option maxHeartbeats 1000000
namespace L2
open PySem PySem.W PySem.Spec PyProof.Rows
def a1r:Key→Key→Bool
 | .inl a,.inl b=>decide (a < b)
 | .inr a,.inr b=>decide (a.cps.toList < b.cps.toList)
 | .inl _,.inr _=>true
 | .inr _,.inl _=>false
def lexK:List Key→List Key→Bool
 | [],[]=>false
 | [],_::_=>true
 | _::_,[]=>false
 | x::xs,y::ys=>if x=y then lexK xs ys else a1r x y
theorem b4t {a b:Str}(h:a.cps.toList=b.cps.toList):a=b:=by
 cases a;cases b
 congr 1
 exact Array.toList_inj.mp h
theorem a5j (x:Key):a1r x x=false:=by
 cases x with
 | inl a=>exact decide_eq_false (Int.lt_irrefl a)
 | inr a=>exact decide_eq_false (List.lt_irrefl _)
theorem b1R {x y z:Key}(h1:a1r x y=true)(h2:a1r y z=true):a1r x z=true:=by
 cases x <;> cases y <;> cases z <;> simp only [a1r,decide_eq_true_eq,reduceCtorEq] at * <;> first | omega | exact List.lt_trans h1 h2 | skip
theorem a9U {x y:Key}(h:x≠y):a1r x y=true∨a1r y x=true:=by
 cases x with
 | inl a =>
   cases y with
   | inl b =>
     have:a≠b:=fun e=>h (by rw [e]);simp only [a1r,decide_eq_true_eq];omega
   | inr b=>exact .inl rfl
 | inr a =>
   cases y with
   | inl b=>exact .inr rfl
   | inr b =>
     have hn:a.cps.toList≠b.cps.toList:=fun e=>h (by rw [b4t e]);simp only [a1r,decide_eq_true_eq]
     by_cases c:a.cps.toList < b.cps.toList
     · exact .inl c
     · by_cases c2:b.cps.toList < a.cps.toList
       · exact .inr c2
       · exact absurd (List.le_antisymm (List.not_lt.mp c2) (List.not_lt.mp c)) hn
theorem a6K:∀x:List Key,lexK x x=false
 | []=>rfl
 | x::xs=>by show(if x=x then lexK xs xs else _)=false;rw [if_pos rfl,a6K xs]
theorem a5k:∀{x y z:List Key},lexK x y=true→lexK y z=true→lexK x z=true
 | [],[],_,h,_=>by cases h
 | [],_::_,[],_,h=>by cases h
 | [],_::_,_::_,_,_=>rfl
 | _::_,[],_,h,_=>by cases h
 | _::_,_::_,[],_,h=>by cases h
 | x :: xs, y :: ys, z :: zs, h1, h2 => by
   change (if x=y then lexK xs ys else a1r x y)=true at h1
   change (if y=z then lexK ys zs else a1r y z)=true at h2
   show(if x=z then lexK xs zs else a1r x z)=true
   by_cases c1:x=y
   · rw [if_pos c1] at h1;subst c1
     by_cases c2:x=z
     · rw [if_pos c2] at h2 ⊢;exact a5k h1 h2
     · rw [if_neg c2] at h2 ⊢;exact h2
   · rw [if_neg c1] at h1
     by_cases c2:y=z
     · subst c2;rw [if_neg c1];exact h1
     · rw [if_neg c2] at h2;have h3:=b1R h1 h2
       by_cases c3:x=z
       · rw [c3,a5j] at h3;cases h3
       · rw [if_neg c3];exact h3
theorem a7z:∀{x y:List Key},x≠y→lexK x y=true∨lexK y x=true
 | [],[],h=>absurd rfl h
 | [],_::_,_=>.inl rfl
 | _::_,[],_=>.inr rfl
 | x :: xs, y :: ys, h => by
   show(if x=y then lexK xs ys else a1r x y)=true∨(if y=x then lexK ys xs else a1r y x)=true
   by_cases c:x=y
   · rw [if_pos c,if_pos c.symm];exact a7z fun e=>h (by rw [c,e])
   · rw [if_neg c,if_neg (fun e=>c e.symm)];exact a9U c
theorem a9V {x y z:List Key}(h:lexK x z=true):lexK x y=true∨lexK y z=true:=by
 by_cases c:x=y
 · subst c;exact .inr h
 · rcases a7z c with h1 | h1
   · exact .inl h1
   · exact .inr (a5k h1 h)
def Al:List Key→List Key→Prop
 | .inl _::xs,.inl _::ys=>Al xs ys
 | .inr _::xs,.inr _::ys=>Al xs ys
 | _::_,_::_=>False
 | _,_=>True
def KeyV:Key→Value→Prop
 | .inl i,v=>∃t,v=.int i t
 | .inr z,v=>∃t,v=.str z t
inductive a7f:List Key→List Value→Prop
 | nil:a7f [] []
 | cons {k v ks vs} (h:KeyV k v) (t:a7f ks vs):a7f (k::ks) (v::vs)
section
variable {prog:Program}{w:World}{A:Around}{E:Value→Shared→Prop}{s:Shared}
theorem a8z {x y:Key}{u v:Value}{xs ys:List Key}{Q:Bool→Shared→Prop}(hx:KeyV x u)(hy:KeyV y v)(al:Al (x::xs) (y::ys))(h:Q (decide (x=y)) s):wpAny (model prog w) A (eqBool u v) Q E s:=by
 cases x with
 | inl a =>
   cases y with
   | inl b =>
     obtain⟨t,rfl⟩:=hx;obtain⟨t',rfl⟩:=hy;refine wpAny_eqBool_int ?_
     have e:(a == b)=decide ((Sum.inl a:Key)=.inl b):=by
       rw [Bool.beq_eq_decide_eq];exact decide_eq_decide.mpr ⟨fun e=>by rw [e],fun e=>by injection e⟩
     rw [e];exact h
   | inr b=>exact al.elim
 | inr a =>
   cases y with
   | inl b=>exact al.elim
   | inr b =>
     obtain⟨t,rfl⟩:=hx;obtain⟨t',rfl⟩:=hy;refine eqBool_str ?_
     have e:(a == b)=decide ((Sum.inr a:Key)=.inr b):=by
       rw [Bool.beq_eq_decide_eq];exact decide_eq_decide.mpr ⟨fun e=>by rw [e],fun e=>by injection e⟩
     rw [e];exact h
theorem lt_key {x y:Key}{u v:Value}{xs ys:List Key}{Q:Value→Shared→Prop}(hx:KeyV x u)(hy:KeyV y v)(al:Al (x::xs) (y::ys))(h:Q (.bool (a1r x y)) s):wpAny (model prog w) A (compareOp .Lt u v) Q E s:=by
 cases x with
 | inl a =>
   cases y with
   | inl b =>
     obtain⟨t,rfl⟩:=hx;obtain⟨t',rfl⟩:=hy;exact PyProof.Rows.lt_int h
   | inr b=>exact al.elim
 | inr a =>
   cases y with
   | inl b=>exact al.elim
   | inr b =>
     obtain⟨t,rfl⟩:=hx;obtain⟨t',rfl⟩:=hy;exact PyProof.Rows.lt_str h
theorem a4d {x y:Key}{u v:Value}{xs ys:List Key}{b:Bool}{Q:Bool→Shared→Prop}(hx:KeyV x u)(hy:KeyV y v)(al:Al (x::xs) (y::ys))(h:Q (a1r x y) s):wpAny (model prog w) A (oneLt' b u v) Q E s:=by
 cases b with
 | false=>exact kat_one u v (lt_key hx hy al h)
 | true =>
   cases x with
   | inl a =>
     cases y with
     | inl b =>
       obtain⟨t,rfl⟩:=hx;obtain⟨t',rfl⟩:=hy;exact oneLt_int h
     | inr b=>exact al.elim
   | inr a =>
     cases y with
     | inl b=>exact al.elim
     | inr b =>
       obtain⟨t,rfl⟩:=hx;obtain⟨t',rfl⟩:=hy;exact oneLt_str h
theorem b3W {b fin:Bool}{Q:Bool→Shared→Prop}:∀{xs ys:List Key} {us vs:List Value} (i:Nat),a7f xs us→a7f ys vs→Al xs ys→fin=decide (us.length < vs.length)→Q (lexK xs ys) s→KatLex prog w A b fin Q (us.zip vs) i s:=by
 intro xs
 induction xs with
 | nil =>
   intro ys us vs i hx hy al hf h;cases hx;refine kat_nil ?_;cases hy with
   | nil=>rw [hf];exact h
   | cons _ _=>rw [hf];exact h
 | cons x xs ih =>
   intro ys us vs i hx hy al hf h;cases hx with
   | @cons _ u _ us' hx1 hx2 =>
     cases hy with
     | nil=>rw [List.zip_nil_right];refine kat_nil ?_;rw [hf];exact h
     | @cons y v ys' vs' hy1 hy2 =>
       rw [List.zip_cons_cons];refine kat_cons (a8z hx1 hy1 al ?_);have h':Q (if x=y then lexK xs ys' else a1r x y) s:=h
       by_cases c:x=y
       · rw [decide_eq_true c];rw [if_pos c] at h';refine kat_yes (ih (i + 1) hx2 hy2 ?_ ?_ h')
         · cases x <;> cases y <;> first | exact al | exact al.elim
         · rw [hf,List.length_cons,List.length_cons];exact decide_eq_decide.mpr (by omega)
       · rw [decide_eq_false c];rw [if_neg c] at h';exact kat_no (a4d hx1 hy1 al h')
def TupK (h:Heap)(v:Value)(ks:List Key):Prop:=∃a o items n,v=.ref a∧h.get? a=some o∧o.cls=.type "tuple"∧o.data=.seq items n∧a7f ks items.toList
theorem b4v {b:Bool}{u v:Value}{xs ys:List Key}{Q:Bool→Shared→Prop}(hx:TupK s.heap u xs)(hy:TupK s.heap v ys)(al:Al xs ys)(h:Q (lexK xs ys) s):wpAny (model prog w) A (keyLt' (tuples' b) u v) Q E s:=by
 obtain⟨a,o,items,n,rfl,ho,hc,hd,hk⟩:=hx;obtain⟨a',o',items',n',rfl,ho',hc',hd',hk'⟩:=hy;exact kat_lt ho hd ho' hd' (b3W 0 hk hk' al (by rw [Array.length_toList,Array.length_toList]) h)
end
end L2
end
section
set_option maxHeartbeats 1000000
namespace L2
open PySem PySem.W PySem.Spec PyProof.Rows
theorem a5l:∀{ks:List Key} {us:List Value},Vals (ks.map kV) us→a7f ks us
 | [],_,h=>by cases h;exact .nil
 | .inl i :: ks, _, h => by
   cases h with
   | cons h1 h2=>exact .cons h1 (a5l h2)
 | .inr z :: ks, _, h => by
   cases h with
   | cons h1 h2=>exact .cons h1 (a5l h2)
section
variable {X:Cx}
theorem b3c {pins:List (Addr×Obj)}{σ:St}{H:Hp}{s:Shared}(I:Inv X pins σ H s){a:Addr}{ks:List Key}(h:SqT X.K H a (ks.map kV)):TupK s.heap (.ref a) ks:=by
 obtain⟨its,r,⟨o,ho,hc,n,hd⟩,_⟩:=I.tuple h;exact⟨a,o,its.toArray,n,rfl,ho,hc,hd,a5l r⟩
theorem TupK.keep {h h':Heap}{v:Value}{ks:List Key}(t:TupK h v ks)(k:∀b o,h.get? b=some o→h'.get? b=some o):TupK h' v ks:=by
 obtain⟨a,o,its,n,e,ho,hc,hd,hk⟩:=t;exact⟨a,o,its,n,e,k _ _ ho,hc,hd,hk⟩
def KM (K:PySem.W.Frag)(H:Hp):Nat→V→List Key→Prop
 | 0,y,ks=>∃i,y=.int i∧ks=[.inl i]
 | 1,y,ks=>∃z,y=.str z∧ks=[.inr z]
 | _,y,ks=>∃a,y=.ref a∧SqT K H a (ks.map kV)∧ks≠[]
def Kv1 (h:Heap):Nat→Value→List Key→Prop
 | 0,u,ks=>∃i t,u=.int i t∧ks=[.inl i]
 | 1,u,ks=>∃z t,u=.str z t∧ks=[.inr z]
 | _,u,ks=>TupK h u ks∧ks≠[]
def ltIx (kss:List (List Key))(i j:Nat):Bool:=lexK (kss.getD i []) (kss.getD j [])
theorem a7y (kss:List (List Key)):Kr.Ord (ltIx kss):=⟨fun _=>a6K _,fun _ _ _ h1 h2=>a5k h1 h2,fun _ _ _ h=>a9V h⟩
def b4y (kss:List (List Key)):Prop:=∀x∈kss,∀y∈kss,Al x y
theorem b2L {pins:List (Addr×Obj)}{σ:St}{H:Hp}{s:Shared}(I:Inv X pins σ H s)(m:Nat):∀{ys:List V} {vs:List Value} {kss:List (List Key)},Vals ys vs→Paired (KM X.K H m) ys kss→Paired (Kv1 s.heap m) vs kss
 | _,_,_,.nil,.nil=>.nil
 | _,_,_,.cons h1 r1,.cons h2 r2=>.cons (by
     match m,h2 with
     | 0,⟨i,e1,e2⟩=>subst e1;obtain⟨t,rfl⟩:=h1;exact⟨i,t,rfl,e2⟩
     | 1,⟨i,e1,e2⟩=>subst e1;obtain⟨t,rfl⟩:=h1;exact⟨i,t,rfl,e2⟩
     | _ + 2,⟨a,e1,e2,e3⟩=>subst e1;cases h1;exact⟨b3c I e2,e3⟩) (b2L I m r1 r2)
theorem Kv1.keep {h h':Heap}(k:∀b o,h.get? b=some o→h'.get? b=some o)(m:Nat){u:Value}{ks:List Key}(x:Kv1 h m u ks):Kv1 h' m u ks:=by
 match m,x with
 | 0,x=>exact x
 | 1,x=>exact x
 | _ + 2,x=>exact⟨x.1.keep k,x.2⟩
theorem a1o {α β:Type}{F:α→β→Prop}{xs:List α}{ys:List β}(h:Paired F xs ys)(d:α)(e:β):∀i,i < xs.length→F (xs.getD i d) (ys.getD i e):=by
 induction h with
 | nil=>intro i hi;exact absurd hi (Nat.not_lt_zero _)
 | cons h1 _ ih =>
   intro i hi;cases i with
   | zero=>exact h1
   | succ i=>exact ih i (Nat.lt_of_succ_lt_succ hi)
theorem a4a {α β:Type}{F:α→β→Prop}{xs:List α}{ys:List β}(h:Paired F xs ys):∀x∈xs,∃y∈ys,F x y:=by
 induction h with
 | nil=>intro x hx;cases hx
 | cons h1 _ ih =>
   intro x hx;rcases List.mem_cons.mp hx with rfl | hx
   · exact⟨_,List.mem_cons_self,h1⟩
   · obtain⟨y,hy,hf⟩:=ih x hx;exact⟨y,List.mem_cons_of_mem _ hy,hf⟩
theorem a3J {h:Heap}{m:Nat}:∀{vs:List Value} {kss:List (List Key)},Paired (Kv1 h (m + 2)) vs kss→∃fs,KatTups h vs fs∧fs.length=vs.length∧∀f∈fs,∃k r,(k::r)∈kss∧KeyV k f
 | _,_,.nil=>⟨[],trivial,rfl,fun _ z=>nomatch z⟩
 | _, _, .cons h1 r1 => by
   obtain⟨⟨a,o,its,n,rfl,ho,hc,hd,hk⟩,hne⟩:=h1;obtain⟨fs,t,hl,hf⟩:=a3J r1;cases e:its.toList with
   | nil=>rw [e] at hk;cases hk;exact absurd rfl hne
   | cons f us =>
     rw [e] at hk;cases hk with
     | @cons k _ ks _ h2 h3 =>
       have ef:its[0]?=some f:=by rw [← Array.getElem?_toList,e];rfl
       refine⟨f::fs,KatTups.cons ho hc hd ef t,by rw [List.length_cons,List.length_cons,hl],fun g hg=>?_⟩;rcases List.mem_cons.mp hg with rfl | hg
       · exact⟨k,ks,List.mem_cons_self,h2⟩
       · obtain⟨k',r',h4,h5⟩:=hf g hg;exact⟨k',r',List.mem_cons_of_mem _ h4,h5⟩
theorem a8Q {prog:Program}{w:World}{s:Shared}{m:Nat}{vs:List Value}{kss:List (List Key)}(h2:2≤vs.length)(p:Paired (Kv1 s.heap m) vs kss)(al:b4y kss)(A:Around)(E:Value→Shared→Prop)(h1:Heap)(tk:Nat)(k:∀b o,s.heap.get? b=some o→h1.get? b=some o) :
   ∃κ,(∀Q:SortKind→Shared→Prop,Q κ { s with heap:=h1,toks:=tk }→wpAny (model prog w) A (keyKind' vs.toArray) Q E { s with heap:=h1,toks:=tk })∧∀i j (C:Bool→Shared→Prop),i < vs.length→j < vs.length→C (ltIx kss i j) { s with heap:=h1,toks:=tk }→kas_ask prog w A κ vs i j C { s with heap:=h1,toks:=tk }:=by
 have p1:Paired (Kv1 h1 m) vs kss:=Paired.imp' (fun _ _ x=>x.keep k m) p;have lk:=Paired.length p1
 have mem:∀i,i < vs.length→kss.getD i []∈kss:=fun i hi=>by
   rw [List.getD_eq_getElem?_getD,List.getElem?_eq_getElem (by omega)];exact List.getElem_mem _
 match m,p1 with
 | 0, p1 =>
   refine⟨oneType',fun Q q=>kas_kind (T:=.type "int") h2 (fun v hv=>?_) rfl rfl q,fun i j C hi hj c=>?_⟩
   · obtain⟨ks,_,i,t,rfl,_⟩:=a4a p1 v hv;exact Looks.of_pure rfl
   · obtain⟨a,t,e1,e2⟩:=a1o p1 .none [] i hi;obtain⟨b,t',e3,e4⟩:=a1o p1 .none [] j hj;unfold kas_ask;unfold ltIx at c;rw [e1,e3,keyLt'_oneType];rw [e2,e4] at c;refine a4d (x:=.inl a) (y:=.inl b) (xs:=[]) (ys:=[]) ⟨t,rfl⟩ ⟨t',rfl⟩ trivial ?_
     have e:lexK [.inl a] [.inl b]=a1r (.inl a) (.inl b):=by
       show(if(Sum.inl a:Key)=.inl b then false else a1r (.inl a) (.inl b))=_
       by_cases c:(Sum.inl a:Key)=.inl b
       · rw [if_pos c,c,a5j]
       · rw [if_neg c]
     rw [← e];exact c
 | 1, p1 =>
   refine⟨oneType',fun Q q=>kas_kind (T:=.type "str") h2 (fun v hv=>?_) rfl rfl q,fun i j C hi hj c=>?_⟩
   · obtain⟨ks,_,i,t,rfl,_⟩:=a4a p1 v hv;exact Looks.of_pure rfl
   · obtain⟨a,t,e1,e2⟩:=a1o p1 .none [] i hi;obtain⟨b,t',e3,e4⟩:=a1o p1 .none [] j hj;unfold kas_ask;unfold ltIx at c;rw [e1,e3,keyLt'_oneType];rw [e2,e4] at c;refine a4d (x:=.inr a) (y:=.inr b) (xs:=[]) (ys:=[]) ⟨t,rfl⟩ ⟨t',rfl⟩ trivial ?_
     have e:lexK [.inr a] [.inr b]=a1r (.inr a) (.inr b):=by
       show(if(Sum.inr a:Key)=.inr b then false else a1r (.inr a) (.inr b))=_
       by_cases c:(Sum.inr a:Key)=.inr b
       · rw [if_pos c,c,a5j]
       · rw [if_neg c]
     rw [← e];exact c
 | m' + 2, p1 =>
   obtain⟨fs,kt,fl,hf⟩:=a3J p1
   have asks:∀b i j (C:Bool→Shared→Prop),i < vs.length→j < vs.length→C (ltIx kss i j) { s with heap:=h1,toks:=tk }→kas_ask prog w A (tuples' b) vs i j C { s with heap:=h1,toks:=tk }:=fun b i j C hi hj c=>by
     have x1:=a1o p1 .none [] i hi;have x2:=a1o p1 .none [] j hj;exact b4v (s:={ s with heap:=h1,toks:=tk }) x1.1 x2.1 (al _ (mem i hi) _ (mem j hj)) c
   obtain⟨f0,fr,rfl⟩:∃f0 fr,fs=f0::fr:=by
     cases fs with
     | nil=>rw [← fl] at h2;exact absurd h2 (by simp)
     | cons a r=>exact⟨a,r,rfl⟩
   obtain⟨k0,r0,m0,v0⟩:=hf f0 List.mem_cons_self
   have all:∀T:String,(∀f k r,(k::r)∈kss→KeyV k f→typeOf f=pure (.type T))→∀v∈f0::fr,Looks (model prog w) h1 (typeOf v) (.type T):=fun T hT v hv=>by
     obtain⟨k,r,h3,h4⟩:=hf v hv;exact Looks.of_pure (hT v k r h3 h4)
   cases k0 with
   | inl i0 =>
     refine⟨tuples' (Value.type "int" != Value.type "tuple"),fun Q q=>kat_kind (s:={ s with heap:=h1,toks:=tk }) kt (by simp) (all "int" fun f k r h3 h4=>?_) rfl q,asks _⟩;cases k with
     | inl i=>obtain⟨t,rfl⟩:=h4;rfl
     | inr z=>exact(al _ m0 _ h3).elim
   | inr i0 =>
     refine⟨tuples' (Value.type "str" != Value.type "tuple"),fun Q q=>kat_kind (s:={ s with heap:=h1,toks:=tk }) kt (by simp) (all "str" fun f k r h3 h4=>?_) rfl q,asks _⟩;cases k with
     | inr i=>obtain⟨t,rfl⟩:=h4;rfl
     | inl z=>exact(al _ m0 _ h3).elim
def outV (lt:Nat→Nat→Bool)(ys:List V):List V:=if ys.length < 2 then ys else(Kr.run lt (kas_sort ys.length)).toList.map fun i=>ys.getD i .non
theorem b1d {lt:Nat→Nat→Bool}{ys:List V}{vs:List Value}(r:Vals ys vs)(O:Kr.Ord lt):Vals (outV lt ys) (a3k lt vs):=by
 unfold outV a3k;rw [r.length]
 by_cases c:vs.length < 2
 · rw [if_pos c,if_pos c];exact r
 · rw [if_neg c,if_neg c];obtain⟨a1,a2,_⟩:=Kr.sort_ok O (n:=vs.length) (by omega)
   have hm:∀i∈(Kr.run lt (kas_sort vs.length)).toList,i < vs.length:=fun i hi=>by
     have:=(Array.perm_iff_toList_perm.mp a1).mem_iff.mp hi
     simpa using this
   generalize (Kr.run lt (kas_sort vs.length)).toList=is at hm
   induction is with
   | nil=>exact .nil
   | cons i is ih =>
     refine .cons ?_ (ih fun j hj=>hm j (List.mem_cons_of_mem _ hj));exact a1o r .non .none i (by rw [r.length];exact hm i List.mem_cons_self)
theorem a6b:a1Y X (.builtin "sorted") (fun xs H Q=>∃p ys m kss,xs=[.ref p]∧SqL X.K H p ys∧ys.length < 64∧Paired (KM X.K H m) ys kss∧b4y kss∧∀l,H l=none→Q (.ref l) (upd H l (.lst (outV (ltIx kss) ys)))):=by
 intro pins s σ H xs us Q I r h;obtain⟨p,ys,m,kss,rfl,hq,h64,hp,al,q⟩:=h;obtain⟨u,rfl,rx⟩:=a6n r;cases rx;obtain⟨its,r',pl,hz⟩:=I.list hq;have hlen:=r'.length;have pk:=b2L I m r' hp;have O:=a7y kss;refine a5z (vs:=its) (lt:=ltIx kss) (by omega) (fun R hR=>?_) (fun h2 A E h1 tk k=>a8Q h2 pk al A E h1 tk k) fun h2 tk D e k hD ho=>?_
 · refine collect_list pl.isList (hR _ s.toks (fun b o e=>?_) ?_) (by omega)
   · have hlt:b < s.heap.objs.size:=Heap.lt_size e;rw [Heap.get?_update_ne _ _ _ _ (Nat.ne_of_lt hlt)];exact Heap.get?_push_of_some _ e
   · rw [Heap.size_update,size_push'];omega
 · have vo:=b1d r' O
   have hl:(outV (ltIx kss) ys).length≤sizeLine:=by
     unfold outV
     split
     · omega
     · rw [List.length_map,Array.length_toList,(Kr.sort_ok O (by omega)).2.1];omega
   exact⟨.ref D,_,I.laid (t':=tk) k hD (show a0X X.prog X.w _ h2 _ (.lst (outV (ltIx kss) ys)) from⟨hl,_,e,vo,ho⟩),rfl,q _ (I.hok.fresh hD)⟩
end
end L2
end
section
set_option maxHeartbeats 1000000
namespace Pu
open PySem PySem.Spec L2
def kP:Key→PV
 | .inl i=>.int i
 | .inr z=>.str z
def a5N:List PV→Option (List Key)
 | []=>some []
 | .int i::r=>(a5N r).map (.inl i::·)
 | .str z::r=>(a5N r).map (.inr z::·)
 | _=>none
def keyP:PV→List Key
 | .int i=>[.inl i]
 | .str z=>[.inr z]
 | .tup xs=>(a5N xs).getD []
 | _=>[]
theorem a4j:∀ks:List Key,a5N (ks.map kP)=some ks
 | []=>rfl
 | .inl i::r=>by show(a5N (r.map kP)).map _=_;rw [a4j r];rfl
 | .inr i::r=>by show(a5N (r.map kP)).map _=_;rw [a4j r];rfl
theorem a5m (ks:List Key):keyP (.tup (ks.map kP))=ks:=by show(a5N (ks.map kP)).getD []=_;rw [a4j];rfl
theorem a3N {K:PySem.W.Frag}{G:Gh}{H:Hp}:∀(ks:List Key) {us:List V},Reps K G H (ks.map kP) us→us=ks.map kV
 | [],_,h=>h
 | .inl i :: r, _, h => by
   obtain⟨v,t,rfl,h1,h2⟩:=h;rw [a3N r h2,show v=.int i from h1];rfl
 | .inr i :: r, _, h => by
   obtain⟨v,t,rfl,h1,h2⟩:=h;rw [a3N r h2,show v=.str i from h1];rfl
section
variable {T:PotK}{ι:Type}{K:PySem.W.Frag}{F:ι→Cx}{e:Expr}{pe:pE}{pos:Pos}
def b0V (xs:List PV):Prop:=(∀x∈xs,∃i,x=.int i)∨(∀x∈xs,∃z,x=.str z)∨((∀x∈xs,∃ks,x=.tup (ks.map kP)∧ks≠[])∧∀x∈xs,∀y∈xs,Al (keyP x) (keyP y))
def Srt (ys xs:List PV):Prop:=ys.Perm xs∧ys.Pairwise fun a b=>lexK (keyP b) (keyP a)=false
def a5c (pe:pE):pA:=fun env n R=>pe env n fun x env1 n1=>match x with | .lst xs=>xs.length < 64∧b0V xs∧∀ys,Srt ys xs→R ys env1 n1 | _=>False
theorem a1L {G:Gh}{H:Hp}{P:PV→V→List Key→Prop}:∀(xs:List PV) {us:List V},Reps K G H xs us→(∀x∈xs,∀v,Rep K G H x v→P x v (keyP x))→Paired (fun v ks=>∃x,x∈xs∧P x v ks) us (xs.map keyP)
 | [],_,h,_=>by cases h;exact .nil
 | x :: xs, _, h, hP => by
   obtain⟨v,t,rfl,h1,h2⟩:=h;refine .cons ⟨x,List.mem_cons_self,hP x List.mem_cons_self v h1⟩ ?_;exact Paired.imp' (fun v ks ⟨y,hy,hp⟩=>⟨y,List.mem_cons_of_mem _ hy,hp⟩) (a1L xs h2 fun y hy=>hP y (List.mem_cons_of_mem _ hy))
theorem km_of {G:Gh}{H:Hp}{xs:List PV}{us:List V}(r:Reps K G H xs us)(h:b0V xs):∃m,Paired (KM K H m) us (xs.map keyP)∧b4y (xs.map keyP):=by
 rcases h with h | h | ⟨h,h'⟩
 · refine⟨0,Paired.imp' (fun v ks ⟨_,_,hp⟩=>hp) (a1L (P:=fun _ v ks=>KM K H 0 v ks) xs r fun x hx v hv=>?_),fun a ha b hb=>?_⟩
   · obtain⟨i,rfl⟩:=h x hx;exact⟨i,hv,rfl⟩
   · obtain⟨x,hx,rfl⟩:=List.mem_map.mp ha;obtain⟨y,hy,rfl⟩:=List.mem_map.mp hb;obtain⟨i,rfl⟩:=h x hx;obtain⟨j,rfl⟩:=h y hy;exact trivial
 · refine⟨1,Paired.imp' (fun v ks ⟨_,_,hp⟩=>hp) (a1L (P:=fun _ v ks=>KM K H 1 v ks) xs r fun x hx v hv=>?_),fun a ha b hb=>?_⟩
   · obtain⟨i,rfl⟩:=h x hx;exact⟨i,hv,rfl⟩
   · obtain⟨x,hx,rfl⟩:=List.mem_map.mp ha;obtain⟨y,hy,rfl⟩:=List.mem_map.mp hb;obtain⟨i,rfl⟩:=h x hx;obtain⟨j,rfl⟩:=h y hy;exact trivial
 · refine⟨2,Paired.imp' (fun v ks ⟨_,_,hp⟩=>hp) (a1L (P:=fun _ v ks=>KM K H 2 v ks) xs r fun x hx v hv=>?_),fun a ha b hb=>?_⟩
   · obtain⟨ks,rfl,hne⟩:=h x hx;obtain⟨a,vs,rfl,at',rr⟩:=hv;rw [a5m];refine⟨a,rfl,?_,hne⟩;rw [a3N ks rr] at at';exact SqT.of at'.2
   · obtain⟨x,hx,rfl⟩:=List.mem_map.mp ha;obtain⟨y,hy,rfl⟩:=List.mem_map.mp hb;exact h' x hx y hy
def outP (xs:List PV):List PV:=if xs.length < 2 then xs else(Kr.run (ltIx (xs.map keyP)) (PySem.W.kas_sort xs.length)).toList.map fun i=>xs.getD i .non
theorem a7G (xs:List PV)(i:Nat):(xs.map keyP).getD i []=keyP (xs.getD i .non):=by
 rw [List.getD_eq_getElem?_getD,List.getD_eq_getElem?_getD,List.getElem?_map];cases xs[i]? <;> rfl
theorem b3E (xs:List PV):Srt (outP xs) xs:=by
 unfold outP
 by_cases c:xs.length < 2
 · rw [if_pos c];refine⟨List.Perm.refl _,?_⟩
   match xs,c with
   | [],_=>exact .nil
   | [x],_=>exact List.pairwise_singleton _ _
 · rw [if_neg c]
   have e:ltIx (xs.map keyP)=fun i j=>lexK (keyP (xs.getD i .non)) (keyP (xs.getD j .non)):=by
     funext i j
     unfold ltIx;rw [a7G,a7G]
   rw [e];exact Kr.out_ok (fun a b:PV=>lexK (keyP a) (keyP b)) ⟨fun _=>a6K _,fun _ _ _ h1 h2=>a5k h1 h2,fun _ _ _ h=>a9V h⟩ .non xs (by omega)
theorem a9a {G:Gh}{H:Hp}{xs:List PV}{us:List V}(r:Reps K G H xs us)(i:Nat)(hi:i < xs.length):Rep K G H (xs.getD i .non) (us.getD i .non):=by
 induction xs generalizing us i with
 | nil=>exact absurd hi (Nat.not_lt_zero _)
 | cons x xs ih =>
   obtain⟨v,t,rfl,h1,h2⟩:=r;cases i with
   | zero=>exact h1
   | succ i=>exact ih h2 i (Nat.lt_of_succ_lt_succ hi)
theorem b1q {G:Gh}{H:Hp}{xs:List PV}{us:List V}(r:Reps K G H xs us):Reps K G H (outP xs) (outV (ltIx (xs.map keyP)) us):=by
 unfold outP outV;have hl:us.length=xs.length:=r.length.symm;rw [hl]
 by_cases c:xs.length < 2
 · rw [if_pos c,if_pos c];exact r
 · rw [if_neg c,if_neg c];obtain⟨a1,a2,_⟩:=Kr.sort_ok (a7y (xs.map keyP)) (n:=xs.length) (by omega)
   have hm:∀i∈(Kr.run (ltIx (xs.map keyP)) (PySem.W.kas_sort xs.length)).toList,i < xs.length:=fun i hi=>by
     have:=(Array.perm_iff_toList_perm.mp a1).mem_iff.mp hi
     simpa using this
   generalize (Kr.run (ltIx (xs.map keyP)) (PySem.W.kas_sort xs.length)).toList=is at hm
   induction is with
   | nil=>exact rfl
   | cons i is ih=>exact⟨_,_,rfl,a9a r i (hm i List.mem_cons_self),ih fun j hj=>hm j (List.mem_cons_of_mem _ hj)⟩
theorem a5F {p:Pos}(hg:∀z,Gl (F z) "sorted")(hm:∀z,(F z).mg "sorted"=none)(ha:QR T K F e pe)(hs:a0C e=true:=by rfl)(hK:∀z,(F z).K=K:=by intro _;rfl):QN T K F (.Call (.Name "sorted" p) [e] [] pos) (a5c pe):=by
 obtain⟨t,h1,h2⟩:=ha;refine⟨_,fun z=>a2o (hK z▸a6b) (hg z) (hm z) a6e (a0r (h1 z) a0K (a0e hs)) (by decide) (by decide) (a0e hs),fun C G σ H env n R Q hK hT S hp k=>?_⟩;refine a7v h2 hK hT S hp fun x env1 n1 v H1 p1 S1 r1 f1=>?_;have rd:RdV K G H1 x v:=hK▸r1.rd S1;cases x with
 | lst xs =>
   obtain⟨h64,so,q⟩:=p1;obtain⟨a,us,rfl,hq,r⟩:=rd.lst;obtain⟨m,pk,al⟩:=km_of r so;have hl:us.length=xs.length:=r.length.symm;exact⟨a,us,m,xs.map keyP,rfl,hq,by omega,pk,al,fun l hl=>k _ _ _ _ _ _ (q _ (b3E xs)) S1 f1 hl (b1q r)⟩
 | _=>exact p1.elim
end
end Pu
end
section
set_option maxHeartbeats 1000000
namespace Pu
open PySem PySem.Spec L2
def tupP (ks:List Key):PV:=.tup (ks.map kP)
end Pu
end
section
set_option maxHeartbeats 1000000
namespace L2
open PySem PySem.Spec PyProof.Rows
theorem a5t:bootBuiltins "reversed"=some (.type "reversed"):=by decide +kernel
theorem a2L:isSubtype (.type "range_iterator") (.type "reversed")=pure false:=by rw [isSubtype_type];kernel_rfl
def a8a (n:Int):Obj:={ cls:=.type "range_iterator",data:=.fields #[rawInt (0 + (n - 1) * 1),rawInt n,rawInt (-1)] }
section
variable {prog:Program}{w:World}{A:Around}{E:Value→Shared→Prop}{s:Shared}
theorem a4w {r:Addr}{n:Int}{t u v:Tok}{Q:Value→Shared→Prop}(h0:0≤n)(h1:n≤1000000)(hr:s.heap.get? r=some { cls:=.type "range",data:=.fields #[.int 0 t,.int n u,.int 1 v] })
   (h:Q (.ref s.heap.objs.size) { s with heap:=s.heap.push (a8a n) }):wpAny (model prog w) A (call (.builtin "range.__reversed__") [.ref r]) Q E s:=by
 have hT:s.TypeIs (.ref r) "range":=⟨_,hr,rfl⟩;refine wpAny_call_entry F.slot_range_reversed hT F.entry_range_reversed ?_ (F.args_range_reversed_1 _);unfold Builtin.«range.__reversed__»;refine wpAny_bind (wpAny_of_eq (a:=Value.ref r) rfl ?_);refine wpAny_bind ?_;unfold Builtin.Range.rangeFields;refine wpAny_bind (wpAny_field hr rfl (x:=.int 0 t) rfl ?_);refine wpAny_bind (wpAny_of_eq (a:=some (0:Int)) rfl ?_);refine wpAny_bind (wpAny_field hr rfl (x:=.int n u) rfl ?_);refine wpAny_bind (wpAny_of_eq (a:=some n) rfl ?_);refine wpAny_bind (wpAny_field hr rfl (x:=.int 1 v) rfl ?_);refine wpAny_bind (wpAny_of_eq (a:=some (1:Int)) rfl ?_);refine wpAny_pure ?_
 have hs:Builtin.Range.rangeSize 0 n 1=n:=by
   unfold Builtin.Range.rangeSize;rw [if_pos (by decide),Int.ediv_one]
   split <;> omega
 dsimp only;rw [hs]
 have sm:(Builtin.Range.rangeFitsLong 0 && Builtin.Range.rangeFitsLong n && Builtin.Range.rangeFitsLong 1 && Builtin.Range.rangeFitsLong (-1) && Builtin.Range.rangeFitsLong (0 - 1) && Builtin.Range.rangeFitsLong n)=true:=by
   simp only [Builtin.Range.rangeFitsLong,Bool.and_eq_true,decide_eq_true_eq];omega
 rw [sm];simp only [Bool.not_true,Bool.false_eq_true,if_false,if_true];exact wpAny_bind (wpAny_newObj_type (wpAny_pure ⟨_,rfl,h⟩))
theorem a2H {r:Addr}{n:Int}{t u v:Tok}{Q:Value→Shared→Prop}(h0:0≤n)(h1:n≤1000000)(hr:s.heap.get? r=some { cls:=.type "range",data:=.fields #[.int 0 t,.int n u,.int 1 v] })
   (h:Q (.ref s.heap.objs.size) { s with heap:=s.heap.push (a8a n) }):wpAny (model prog w) A (call (.type "reversed") [.ref r]) Q E s:=by
 have hT:s.TypeIs (.ref r) "range":=⟨_,hr,rfl⟩;refine callType_other (U:="range_iterator") (Q₁:=fun obj s₁=>obj=.ref s.heap.objs.size∧s₁={ s with heap:=s.heap.push (a8a n) }) (by decide +kernel) F.create_reversed ⟨_,_,F.mro_reversed⟩ F.made_reversed a2L (F.typeCall_reversed_1 _) ?_ ?_
 · refine codeAny_of_tree ?_;show wpAny _ A.in1.in1 (do checkBuiltinCall "reversed.__new__" ⟨[.type "reversed",.ref r],[]⟩;again (.builtin "reversed.__new__" ⟨[.type "reversed",.ref r],[]⟩)) _ _ s;refine wpAny_bind (wpAny_of_eq (F.newCall_reversed_1 _) (wpAny_pure ⟨plainId_quiet F.plain_reversed_new _,codeAny_builtin F.entry_reversed_new ?_⟩));rw [Around.under_plainId F.plain_reversed_new _];unfold Builtin.«reversed.__new__»;refine wpAny_bind (wpAny_of_eq (newClass_reversed _) ?_)
   try dsimp only
   refine wpAny_bind (wpAny_of_eq (a:=()) (by first | rfl | kernel_rfl) ?_);refine wpAny_bind (wpAny_of_eq (a:=()) (by first | rfl | kernel_rfl) ?_)
   try dsimp only
   refine wpAny_bind (wpAny_specialOf hT F.slot_range_reversed.lookup ?_)
   try dsimp only
   refine wpAny_bind (wpAny_of_eq (F.slot_range_reversed.bind _) ?_)
   try dsimp only
   first
   | rw [if_neg (show ¬((Value.builtin "range.__reversed__" == Value.none)=true) from Bool.false_ne_true)]
   | (show wpAny _ _ (if(Value.builtin "range.__reversed__" == Value.none)=true then _ else _) _ _ _;rw [if_neg (show ¬((Value.builtin "range.__reversed__" == Value.none)=true) from Bool.false_ne_true)])
   refine wpAny_bind (wpAny_rule ?_);refine wpAny_bind (m:=runValue (.call (.builtin "range.__reversed__") ⟨[.ref r],[]⟩)) (show wpAny _ _ (call (.builtin "range.__reversed__") [.ref r]) _ _ _ from a4w h0 h1 hr ?_)
   first
   | exact wpAny_pure ⟨rfl,rfl⟩
   | exact wpAny_bind (wpAny_pure (wpAny_pure ⟨rfl,rfl⟩))
 · rintro obj s₁ ⟨rfl,rfl⟩;exact⟨⟨_,Heap.get?_push_size _ rfl,rfl⟩,h⟩
end
section
variable {X:Cx}{tg:Expr}
def tRng1 (ta:TA):TE:=fun σ H Q=>ta σ H fun vs H1=>∃j:Int,vs=[.int j]∧∀p,H1 p=none→Q (.ref p) (upd H1 p (.rng 0 j))
theorem a9x {a:Expr}{ta:TA}{p pos:Pos}(hg:Gl X "range")(hm:X.mg "range"=none)(ha:PA X [a] ta)(hs:starEach [a] X.env=[(false,eval a X.env)]:=by rfl):PE X (.Call (.Name "range" p) [a] [] pos) (tRng1 ta):=by
 intro pins s σ H Q I h;refine Call_ (a4i I hg hm boot_range (PyProof.Rows.callWith_type1 (thn (ha pos pins s σ H _ I h) fun us s1 ⟨vs,H1,I1,r1,q1⟩=>?_) hs rfl));obtain⟨j,e,q⟩:=q1;subst e;cases r1 with
 | cons r rr =>
   cases rr;obtain⟨t,rfl⟩:=r;refine call_range_1 ?_;exact⟨.ref s1.heap.objs.size,_,I1.laid (a:=s1.heap.objs.size) (o:=.rng 0 j) (fun b o e=>Heap.get?_push_of_some _ e) (Nat.le_refl _) ⟨_,_,_,Heap.get?_push_size _ rfl⟩,rfl,q _ (I1.hok.fresh (Nat.le_refl _))⟩
def iRevR (ta:TA):TI:=fun σ H R=>ta σ H fun vs H1=>∃(r:Addr) (n:Int),vs=[.ref r]∧H1 r=some (.rng 0 n)∧0≤n∧n≤1000000∧R (Itd (n - 1) n.toNat) H1
theorem a6z {e:Expr}{ta:TA}{p pos:Pos}(hg:Gl X "reversed")(hm:X.mg "reversed"=none)(ha:PA X [e] ta)(hs:starEach [e] X.env=[(false,eval e X.env)]:=by rfl):PI X tg (.Call (.Name "reversed" p) [e] [] pos) (iRevR ta):=by
 intro pins s σ H R I h;refine Call_ (a4i I hg hm a5t (PyProof.Rows.callWith_type1 (thn (ha pos pins s σ H _ I h) fun us s1 ⟨vs,H1,I1,r1,q1⟩=>?_) hs rfl));obtain⟨r,n,e,hr,h0,h2,q⟩:=q1;subst e;cases r1 with
 | cons rr0 rr =>
   cases rr;cases rr0;obtain⟨t,u,v,ho⟩:=(show a0X X.prog X.w H1 s1.heap r (.rng 0 n) from I1.hok r _ hr);refine a2H h0 h2 ho ?_;have I2:Inv X pins σ H1 { s1 with heap:=s1.heap.push (a8a n) }:=I1.kept (t':=s1.toks) fun b o e=>Heap.get?_push_of_some _ e
   have st:IsRangeIter (s1.heap.push (a8a n)) s1.heap.objs.size (n - 1 + ((0:Nat):Int) * -1) ((n.toNat:Int) - ((0:Nat):Int)) (-1):=by
     have e1:n - 1 + ((0:Nat):Int) * -1=0 + (n - 1) * 1:=by omega
     have e2:(n.toNat:Int) - ((0:Nat):Int)=n:=by omega
     rw [e1,e2];exact Heap.get?_push_size _ rfl
   refine wpAny_pyIter_rangeiter (s:={ s1 with heap:=s1.heap.push (a8a n) }) st ?_;refine⟨s1.heap.objs.size,[s1.heap.objs.size],_,_,H1,rfl,I2,a8M _ (n - 1) n.toNat,st,fun b hb=>?_,q⟩;have e:b=s1.heap.objs.size:=by simpa using hb
   subst e;exact I1.fpOk (Nat.le_refl _) (I1.hok.fresh (Nat.le_refl _))
end
end L2
namespace Pu
open PySem PySem.Spec L2
section
variable {T:PotK}{ι:Type}{K:PySem.W.Frag}{F:ι→Cx}{tg e:Expr}{pe:pE}{pos:Pos}
def b1y (pe:pE):pA:=fun env n R=>pe env n fun x env1 n1=>match x with | .int j=>(0≤j∧j≤1000000)∧R ((List.range j.toNat).map fun(k:Nat)=>PV.int (j - 1 - k)) env1 n1 | _=>False
theorem a3T {p p2 pos2:Pos}(hg:∀z,Gl (F z) "reversed")(hm:∀z,(F z).mg "reversed"=none)(hg2:∀z,Gl (F z) "range")(hm2:∀z,(F z).mg "range"=none)(h:QE T K F e pe)(hs:a0C e=true:=by rfl):QI T K F tg (.Call (.Name "reversed" p) [.Call (.Name "range" p2) [e] [] pos2] [] pos) (b1y pe):=by
 obtain⟨t,h1,h2⟩:=h;refine⟨_,fun z=>a6z (hg z) (hm z) (a0r (a9x (hg2 z) (hm2 z) (a0r (h1 z) a0K (a0e hs)) (a0e hs)) a0K (a0e rfl)) (a0e rfl),fun C G σ H env n R Q hK hT S hp k=>?_⟩;refine h2 C G σ H env n _ _ hK hT S hp fun x env1 n1 v H1 p1 S1 r1 f1=>?_;cases x with
 | int j =>
   refine⟨j,by rw [show v=.int j from r1],fun p hn=>⟨p,j,rfl,a0g,p1.1.1,p1.1.2,?_⟩⟩;exact k _ _ _ _ _ p1.2 (S1.same (Same.lay1 hn)) (f1.trans (Fr.of (Same.lay1 hn))) (b1Y (j - 1) _)
 | _=>exact p1.elim
end
end Pu
end
section
set_option maxHeartbeats 1000000
namespace L2
open PySem PySem.Spec PyProof.Rows
section
variable {prog:Program}{w:World}{A:Around}{E:Value→Shared→Prop}{s:Shared}
theorem a3z {t:Addr}{its:Array Value}{ys:List Str}{k:Str}{tok:Tok}{j:Nat}{Q:Value→Shared→Prop}(ht:s.heap.IsTuple t its)(hS:StrsAre its.toList ys)(hj:ys[j]?=some k)(hlt:∀i,i < j→ys[i]?≠some k)(hsm:ys.length≤1000000)
   (h:∀tk,Q (.int j tk) { s with toks:=s.toks + 1 }):wpAny (model prog w) A (call (.builtin "tuple.index") [.ref t,.str k tok]) Q E s:=by
 obtain⟨o,ho,hc,n,hd⟩:=id ht;have hT:s.TypeIs (.ref t) "tuple":=⟨o,ho,hc⟩;refine wpAny_call_entry F.slot_tuple_index hT F.entry_tuple_index ?_ (F.args_tuple_index_2 _ _);unfold Builtin.«tuple.index»;refine wpAny_bind (wpAny_of_eq (a:=(Value.ref t,[Value.str k tok])) rfl ?_);refine wpAny_bind (wpAny_tupleItemsOf ho hd ?_);dsimp only;refine wpAny_bind (wpAny_pure (wpAny_bind (wpAny_pure ?_)));refine wpAny_bind ?_;have hlen:ys.length=its.toList.length:=(StrsAre.length hS).symm
 have at_:∀(i:Nat) (y:Str),ys[i]?=some y→∃u,its[i]?=some (.str y u):=by
   intro i y hy
   have:∀{us:List Value} {zs:List Str},StrsAre us zs→∀(i:Nat),zs[i]?=some y→∃u,us[i]?=some (.str y u):=by
     intro us zs hh
     induction hh with
     | nil=>intro i h;cases h
     | cons x t _ ih =>
       intro i h;cases i with
       | zero=>cases h;exact⟨t,rfl⟩
       | succ i=>exact ih i (by simpa using h)
   obtain⟨u,hu⟩:=this hS i hy;exact⟨u,by rw [← Array.getElem?_toList];exact hu⟩
 have hjl:j < its.size:=by
   have:=(List.getElem?_eq_some_iff.mp hj).1;rw [hlen,Array.length_toList] at this;exact this
 rw [Std.Legacy.Range.forIn_eq_forIn_range'];refine wpAny_forIn_list _ (fun rest r s'=>r.1=none∧s'=s∧∃i,rest=List.range' i (its.size - i)∧i≤j) _ ?_ ?_ _ _ ⟨rfl,rfl,0,?_,Nat.zero_le _⟩
 · rintro x rest ⟨r1,r2⟩ s' ⟨hr,rfl,i0,hi,hij⟩;have hil:its.size - i0=(its.size - i0 - 1) + 1:=by omega
   rw [hil,List.range'_succ] at hi;obtain⟨i,hxi⟩:∃i,x=i:=⟨x,rfl⟩;injection hi with h1 h2;subst h2;have hi0:i0=i:=by rw [← hxi,h1]
   subst hi0;subst hxi;clear h1
   revert hij hil
   generalize x=i;intro hij hil;have hiy:i < ys.length:=by rw [hlen,Array.length_toList];omega
   obtain⟨u,hu⟩:=at_ i ys[i] (List.getElem?_eq_getElem hiy);rw [hu];dsimp only;refine wpAny_bind (eqBool_str ?_)
   by_cases c:i=j
   · subst c
     have:ys[i]=k:=by
       have:=List.getElem?_eq_getElem hiy;rw [hj] at this;exact(Option.some.inj this).symm
     rw [this,beq_self_eq_true,if_pos rfl];refine wpAny_bind (wpAny_bind (wpAny_mkInt (wpAny_pure (wpAny_pure ?_))));exact wpAny_pure ⟨_,rfl,h _⟩
   · have:ys[i]≠k:=fun e=>hlt i (by omega) (by rw [List.getElem?_eq_getElem hiy,e]);rw [beq_eq_false_iff_ne.mpr this,if_neg Bool.false_ne_true];refine wpAny_pure ⟨rfl,rfl,i + 1,?_,by omega⟩;rw [show its.size - (i + 1)=its.size - i - 1 by omega]
 · rintro⟨r1,r2⟩ s' ⟨hr,rfl,i,hi,hij⟩;have hil:its.size - i=(its.size - i - 1) + 1:=by omega
   rw [hil,List.range'_succ] at hi;cases hi
 · simp [Std.Legacy.Range.size]
end
section
variable {X:Cx}
def b2w (K:PySem.W.Frag):V→List V→Hp→VK→Prop:=fun x vs H Q=>∃(l:Addr) (k:Str) (ys:List Str) (j:Nat),x=.ref l∧vs=[.str k]∧SqT K H l (ys.map V.str)∧ys.length≤1000000∧ys[j]?=some k∧(∀i,i < j→ys[i]?≠some k)∧Q (.int j) H
theorem b1N:MtM X "tuple.index" (b2w X.K):=by
 intro pins s σ H x vs v us Q I rx rv h;obtain⟨l,k,ys,j,rfl,rfl,hq,hz0,hj,hlt,q⟩:=h;cases rx;obtain⟨u,rfl,ru⟩:=rv.one;obtain⟨t,rfl⟩:=ru;obtain⟨its,r,p,hz⟩:=I.tuple hq;exact a3z p (a2Z r) hj hlt hz0 fun tk=>⟨.int j,H,I.tok _,⟨_,rfl⟩,q⟩
end
end L2
end
section
set_option maxHeartbeats 1000000
namespace Pu
open PySem PySem.Spec PyProof.Rows L2
section
variable {T:PotK}{ι:Type}{K:PySem.W.Frag}{F:ι→Cx}{e c:Expr}{pe pc:pE}{pos:Pos}
def a3r:w2:=fun x y R=>match x,y with | .tup xs,.str k=>(match a2Y xs with | some ys=>ys.length≤1000000∧∃j:Nat,ys[j]?=some k∧(∀i,i < j→ys[i]?≠some k)∧R (.int j) | none=>False) | _,_=>False
def a1X (pe pc:pE):pE:=fun env n R=>pe env n fun x env1 n1=>(∃xs,x=.tup xs)∧pc env1 n1 fun y env2 n2=>a3r x y fun z=>R z env2 n2
theorem a1u {ap:Pos}(he:QE T K F e pe)(hc:QE T K F c pc)(hs:a0C c=true:=by rfl)(hbase:∀z,attributeBase e "index" (F z).env (eval e (F z).env)=eval e (F z).env:=by intro _;rfl)(hline:(ap.endLine == pos.line)=true:=by rfl)
   (hfew:∀z,((backTo pos (starEach [c] (F z).env)).all (fun x=>!x.1) && (backToKw pos (keywordEach [] (F z).env)).all (fun x=>x.1.isSome) && decide (([c]:List Expr).length + ([]:List Keyword).length + (if([]:List Keyword).isEmpty then 0 else 1) < 30))=true:=by intro _;rfl) (hK:∀z,(F z).K=K:=by intro _;rfl):QE T K F (.Call (.Attribute e "index" ap) [c] [] pos) (a1X pe pc):=by
 obtain⟨t,a1,a2⟩:=he;obtain⟨u,b1,b2⟩:=hc;refine⟨tBM K "tuple" (b2w K) t (a3L u tNil),fun z=>hK z▸b1H PySem.F.plainAttrs_tuple PySem.F.slot_tuple_index PySem.F.type_tuple_index b1N (a1 z) (a0r (b1 z) a0K (a0e hs)) (hbase z) (hfew z) hline (a0e hs),fun C G σ H env n R Q hK hT S hp k=>?_⟩;refine a2 C G σ H env n _ _ hK hT S hp fun x env1 n1 v H1 q1 S1 r1 f1=>?_;obtain⟨⟨xs,rfl⟩,q1⟩:=q1;obtain⟨a,vs,rfl,ta,ra⟩:=r1;refine⟨?_,?_⟩
 · exact .inr (.inl ⟨rfl,.inr ⟨vs,ta.2⟩⟩)
 refine b2 C G σ H1 env1 n1 _ _ hK hT S1 q1 fun y env2 n2 w H2 q2 S2 r2 f2=>?_;unfold a3r at q2
 split at q2
 · rename_i xs' kk e1;cases e1
   split at q2
   · rename_i ys ey;obtain⟨hz,j,hj,hlt,q3⟩:=q2;obtain⟨a',vs',e3,ta',ra'⟩:=(show Rep K G H1 (.tup xs) (.ref a) from⟨a,vs,rfl,ta,ra⟩).fr f2;cases e3;exact⟨a,kk,ys,j,rfl,by rw [show w=.str kk from r2],a2K ey ra'▸SqT.of ta'.2,hz,hj,hlt,k _ _ _ _ _ q3 S2 rfl (f1.trans f2)⟩
   · exact q2.elim
 · exact q2.elim
end
end Pu
end
section
set_option maxHeartbeats 1000000
namespace Pu
open PySem PySem.Spec L2
def frzS:Slot→Option Slot
 | .v x=>some (.v x)
 | .ow .lst xs=>some (.v (.lst xs))
 | .ow (.dk ks) xs=>if ks.length=xs.length then some (.v (.dct ks xs)) else none
 | .ow (.dt _) _=>none
 | .ow (.st _) _=>none
def frz (env:Env):Env:=env.map fun o=>o.bind frzS
end Pu
end
section
set_option maxHeartbeats 1000000
namespace Pu
open PySem PySem.Spec L2
abbrev pSlN:=Env→Nat→(List Slot→Env→Nat→Prop)→Prop
def Gots (C:Ct)(G:Gh)(H:Hp)(σ:St)(env:Env):List Slot→List V→Prop
 | [],vs=>vs=[]
 | s::ss,vs=>∃v r,vs=v::r∧Got C G H σ env s v∧(∀(xs:OK×List PV) a,s=.ow xs.1 xs.2→v=.ref a→∀(ys:OK×List PV) w,(Slot.ow ys.1 ys.2,w)∈ss.zip r→w≠.ref a)∧Gots C G H σ env ss r
section
variable {T:PotK}{np:Bool}{ι:Type}{K:PySem.W.Frag}{F:ι→Cx}{e:Expr}{es:List Expr}{st:Stmt}{s1:pSl}{sl:pSlN}{pos:Pos}
theorem Gots.set {C:Ct}{G:Gh}{H:Hp}{σ:St}{env:Env}{i:Nat}{s0:Slot}{v0:V}(hl:env.length=σ.length):∀{ss:List Slot} {vs:List V},Gots C G H σ env ss vs→(∀(xs:OK×List PV) a,s0=.ow xs.1 xs.2→v0=.ref a→∀(ys:OK×List PV) w,(Slot.ow ys.1 ys.2,w)∈ss.zip vs→w≠.ref a)→Gots C G H (σ.set i (some v0)) (env.set i (some s0)) ss vs
 | [],_,h,_=>h
 | s :: ss, vs, h, no => by
   obtain⟨v,r,rfl,g,ne,h⟩:=h;refine⟨v,r,rfl,⟨g.1,fun xs a e1 e2 z=>?_⟩,ne,Gots.set hl h fun xs a e1 e2 ys w hw=>no xs a e1 e2 ys w (by rw [List.zip_cons_cons];exact List.mem_cons_of_mem _ hw)⟩;rcases a6C hl z with z | ⟨⟨zs,ez⟩,ev⟩
   · exact g.2 xs a e1 e2 z
   · exact no zs a ez ev xs v (by rw [List.zip_cons_cons,e1];exact List.mem_cons_self) e2
end
end Pu
end
section
set_option maxHeartbeats 1000000
namespace L2
open PySem PySem.Spec PyProof.Rows
section
variable {prog:Program}{w:World}{A:Around}{E:Value→Shared→Prop}{s:Shared}
theorem a5Y {it t:Addr}{items:Array Value}(hne:t≠it):∀(n i:Nat) (s:Shared) (Q:List Value→Shared→Prop),s.heap.IsListIter it t i→s.heap.IsList t items→i + n≤items.size→
   (∀h':Heap,h'.IsListIter it t (i + n)→Heap.SameBut it s.heap h'→Q ((items.toList.drop i).take n) { s with heap:=h' })→wpAny (model prog w) A (draw (.ref it) n) Q E s
 | 0, i, s, Q, hit, _, _, hQ => by
   show wpAny _ _ (pure []) Q E s;exact wpAny_pure (by simpa using hQ s.heap hit (Heap.SameBut.refl ..))
 | n + 1, i, s, Q, hit, ht, hle, hQ => by
   have hlt:i < items.size:=by omega
   show wpAny _ _ (pyNext (.ref it)>>=_) Q E s;refine wpAny_bind (wpAny_pyNext_list_item hit ht (x:=items[i]) (by simp [hlt]) fun h₁ hit₁ hs₁=>?_);refine wpAny_bind (wpAny_holding (a5Y hne n (i + 1) _ _ hit₁ (ht.extBut hs₁.extBut hne) (by omega) fun h₂ hit₂ hs₂=>wpAny_pure ?_));have hd:items.toList.drop i=items[i]::items.toList.drop (i + 1):=by simp [List.drop_eq_getElem_cons,hlt]
   have:=hQ h₂ (by rw [show i + (n + 1)=i + 1 + n by omega];exact hit₂) (hs₁.trans hs₂);rw [hd,List.take_succ_cons] at this;exact this
theorem a3q {env:Env}{elts:List Expr}{x1}{pos:Pos}{t:Addr}{items:Array Value}{Q:Unit→Shared→Prop}(hh:A.handled=none)(ht:s.heap.IsList t items)
   (hn:(assignEach elts env).length=items.size) (hstar:(assignEach elts env).findIdx? (·.1)=none)
   (h:∀h',Heap.ExtBut s.heap.objs.size s.heap h'→wpAny (model prog w) A (assignInOrder ((assignEach elts env).map (·.2)) items.toList) Q E { s with heap:=h' }) :
   wpAny (model prog w) A (assign (.Tuple elts x1 pos) env (.ref t)) Q E s:=by
 rw [assign_Tuple];refine wpAny_bind (wpAny_standAt ?_);have hlt:t≠s.heap.objs.size:=by obtain⟨o,ho,_⟩:=ht;exact Nat.ne_of_lt (Heap.lt_size ho)
 unfold unpack;rw [hn,hstar];refine wpAny_bind (wpAny_holding ?_);unfold unpackItems;refine wpAny_bind ?_;unfold notIterableAtAll;refine wpAny_bind (wpAny_specialOf ht.typeIs slot_list_iter.lookup ?_);refine wpAny_pure ?_;simp only [Bool.false_eq_true,if_false];refine wpAny_bind (wpAny_holding (wpAny_pyIter_list ht ?_));refine wpAny_bind (wpAny_holding (a5Y hlt items.size 0 _ _ ⟨_,Heap.get?_push_size _ rfl,rfl,rfl⟩ (ht.push _) (by omega) fun h₁ hit₁ hs₁=>?_))
 have hall:List.take items.size (List.drop 0 items.toList)=items.toList:=by
   rw [List.drop_zero];exact List.take_of_length_le (by simp)
 rw [hall];rw [if_neg (by simp)];have ht₁:h₁.IsList t items:=(ht.push _).extBut hs₁.extBut hlt;refine wpAny_bind (wpAny_holding (wpAny_pyNext_list_end hh hit₁ ht₁ (by simp) fun h₂ he₂=>?_));simp only [Option.isSome_none,Bool.false_eq_true,if_false];exact wpAny_pure (h h₂ fun b o hb e=>he₂ b o hb (hs₁.extBut b o hb (Heap.get?_push_of_some _ e)))
end
section
variable {X:Cx}{pos:Pos}
def gLst (K:PySem.W.Frag)(n:Nat)(t:TGs):TG:=fun v σ H Q=>∃a xs,v=.ref a∧SqL K H a xs∧xs.length=n∧t xs σ H Q
theorem pg_lst {es:List Expr}{k:Nat}{t:TGs}{n:Nat}(hc:X.calm=true)(h:PGs X es t)
   (hn:(assignEach es X.env).length=n:=by rfl) (hst:(assignEach es X.env).findIdx? (·.1)=none:=by rfl):PG X (.Tuple es k pos) (gLst X.K n t):=by
 intro pins s σ H v u Q I r hw;obtain⟨a,xs,e1,hq,hl,hw⟩:=hw;subst e1;cases r;obtain⟨its,rv,ht⟩:=I.sqL hq;refine a3q (I.ok.hd hc) ht (by simp [hn,← hl,rv.length]) hst fun h' hx=>?_;have I1:Inv X pins σ H { s with heap:=h' }:=I.kept (t':=s.toks) fun b o e=>hx b o (Nat.ne_of_lt (Heap.lt_size e)) e;exact h pins _ σ H xs _ Q I1 (by simpa using rv) hw
end
end L2
namespace Pu
open PySem PySem.Spec L2
section
variable {ι:Type}{K:PySem.W.Frag}{F:ι→Cx}{es:List Expr}{pgs:pGs}{pos:Pos}
def gTl (m:Nat)(g:pGs):pG:=fun x env R=>match x with | .lst xs=>xs.length=m∧g xs env R | _=>False
theorem qg_lst {m:Nat}{k:Nat}(hc:∀z,(F z).calm=true)(h:QGs K F es pgs)(hn:∀z,(assignEach es (F z).env).length=m:=by intro _;rfl)(hst:∀z,(assignEach es (F z).env).findIdx? (·.1)=none:=by intro _;rfl)(hK:∀z,(F z).K=K:=by intro _;rfl):QG K F (.Tuple es k pos) (gTl m pgs):=by
 obtain⟨g,a1,a2⟩:=h;refine⟨_,fun z=>hK z▸pg_lst (hc z) (a1 z) (hn z) (hst z),fun C G σ H env n x v R Q hK S r hp k=>?_⟩;cases x with
 | lst xs =>
   obtain⟨a,vs,rfl,t,rs⟩:=r;exact⟨a,vs,rfl,t.sq,by rw [← rs.length];exact hp.1,a2 C G σ H env n xs vs _ _ hK S rs hp.2 k⟩
 | _=>exact hp.elim
end
end Pu
end
section
set_option maxHeartbeats 1000000
namespace L2
open PySem PySem.Spec PyProof.Rows
abbrev LC2 (elt t1 i1 t2 i2:Expr)(ifs:List Expr)(scope:Scope)(pos:Pos):Expr:=.ListComp elt [⟨t1,i1,[],0⟩,⟨t2,i2,ifs,0⟩] scope pos
theorem a8D (elt t1 i1 t2 i2:Expr)(ifs:List Expr)(scope:Scope)(pos:Pos)(it acc:Value)(env:Env) :
   compTurn (LC2 elt t1 i1 t2 i2 ifs scope pos) 1 it acc env=(do
     standAt i2.pos
     match ← pyNext it with
     | none=>pure (.done .next)
     | some v =>
       letOwnedTupleGo t2 it v
       assign t2 env v
       let mut ok:=true
       for c in ifs do
         if ok then ok ← isTrue c env (eval c env)
       if ok then
         (do let _ ← call (.builtin "list.append") [acc,← eval elt env])
       again (.compLoop (LC2 elt t1 i1 t2 i2 ifs scope pos) 1 it acc env)):=by rfl
section
variable {prog:Program}{w:World}{A:Around}{R:Result→Shared→Prop}{s:Shared}{elt t1 i1 t2 i2:Expr}{ifs:List Expr}{scope:Scope}{pos:Pos}{it acc:Value}{env:Env}
theorem loop_i (I:Nat→Shared→Prop)
   (turn:∀n s,I n s→wpAny (model prog w) A (pyNext it) (fun r s₁=>match r with
     | none=>R (.ok .next) s₁
     | some v=>wpAny (model prog w) A (letOwnedTupleGo t2 it v) (fun _ s₁'=>wpAny (model prog w) A (assign t2 env v) (fun _ s₂=>
         wpAny (model prog w) A (forIn ifs true fun c r=>if r=true then do let ok ← isTrue c env (eval c env);pure (ForInStep.yield ok) else pure (ForInStep.yield r)) (fun ok s₃=>
           if ok=true then wpAny (model prog w) A (eval elt env) (fun x s₄=>
             wpAny (model prog w) A (call (.builtin "list.append") [acc,x]) (fun _ s₅=>∃m,m < n∧I m s₅) (fun _ _=>False) s₄) (fun _ _=>False) s₃
           else ∃m,m < n∧I m s₃) (fun _ _=>False) s₂) (fun _ _=>False) s₁') (fun _ _=>False) s₁) (fun _ _=>False) s)
   (n:Nat) (h:I n s):codeAny (model prog w) A (.compLoop (LC2 elt t1 i1 t2 i2 ifs scope pos) 1 it acc env) R s:=by
 refine codeAny_loop rfl I (fun n s hI=>?_) n h;show wpAny _ A ((compTurn (LC2 elt t1 i1 t2 i2 ifs scope pos) 1 it acc env).onRaise (fun x=>do noteFrame x env;theTreesLotGoes x)) _ _ s;refine wpAny_noted ?_;rw [a8D];refine wpAny_bind (wpAny_standAt (wpAny_bind (wpAny_mono (turn n s hI) (fun r s₁ h₁=>?_) fun _ _ h'=>h'.elim)));cases r with
 | none=>exact wpAny_pure h₁
 | some v =>
   refine wpAny_bind (wpAny_mono h₁ (fun _ s₁' h₁'=>?_) fun _ _ h'=>h'.elim);refine wpAny_bind (wpAny_mono h₁' (fun _ s₂ h₂=>wpAny_bind (wpAny_mono h₂ (fun ok s₃ h₃=>?_) fun _ _ h'=>h'.elim)) fun _ _ h'=>h'.elim);cases ok with
   | false=>exact wpAny_pure ⟨rfl,h₃⟩
   | true =>
     exact wpAny_bind (wpAny_bind (wpAny_mono h₃ (fun x s₄ h₄=>wpAny_bind (wpAny_mono h₄ (fun _ s₅ h₅=>wpAny_pure (wpAny_pure ⟨rfl,h₅⟩)) fun _ _ h'=>h'.elim)) fun _ _ h'=>h'.elim))
theorem b3h (h0:codeAny (model prog w) A (.compLoop (LC2 elt t1 i1 t2 i2 ifs scope pos) 1 it acc env) R s)
   (h:wpAny (model prog w) A (pyIter it) (fun it' s'=>codeAny (model prog w) A (.compLoop (LC2 elt t1 i1 t2 i2 ifs scope pos) 1 it' acc env) R s') (fun _ _=>False) s) :
   codeAny (model prog w) A (.compStart (LC2 elt t1 i1 t2 i2 ifs scope pos) 1 it acc env) R s:=by
 refine codeAny_of_tree ?_;show wpAny _ _ ((compStart (LC2 elt t1 i1 t2 i2 ifs scope pos) 1 it acc env).onRaise (fun x=>do noteFrame x env;standAt theWindowsPlace)) _ _ s;refine wpAny_notedAt ?_;unfold compStart;show wpAny _ _ (ask>>=_) _ _ s;refine wpAny_bind (wpAny_askSetting (wpAny_ite ?_))
 split
 · first
     | exact wpAny_bind (wpAny_pure (wpAny_pure (And.intro rfl h0)))
     | exact wpAny_pure (And.intro rfl h0)
 · first
     | exact wpAny_bind (wpAny_rule (wpAny_bind (wpAny_standAt (wpAny_bind (wpAny_mono h (fun it' s' h'=>wpAny_pure (And.intro rfl h')) fun _ _ x=>x.elim)))))
     | (refine wpAny_bind (wpAny_rule ?_);show wpAny _ _ (standAt i2.pos>>=_) _ _ s;exact wpAny_bind (wpAny_standAt (wpAny_bind (wpAny_mono h (fun it' s' h'=>wpAny_pure (And.intro rfl h')) fun _ _ x=>x.elim))))
theorem loop_o (hs:∀x,foldedSetIterable i2 env x=pure x)(I:Nat→Shared→Prop)
   (turn:∀n s,I n s→wpAny (model prog w) A (pyNext it) (fun r s₁=>match r with
     | none=>R (.ok .next) s₁
     | some v=>wpAny (model prog w) A (letOwnedTupleGo t1 it v) (fun _ s₁'=>wpAny (model prog w) A (assign t1 env v) (fun _ s₂=>
         wpAny (model prog w) A (eval i2 env) (fun x s₃=>wpAny (model prog w) A (pyIter x) (fun it2 s₄=>
           codeAny (model prog w) A (.compStart (LC2 elt t1 i1 t2 i2 ifs scope pos) 1 it2 acc env) (fun r s'=>r=.ok .next∧∃m,m < n∧I m s') s₄) (fun _ _=>False) s₃) (fun _ _=>False) s₂) (fun _ _=>False) s₁') (fun _ _=>False) s₁) (fun _ _=>False) s)
   (n:Nat) (h:I n s):codeAny (model prog w) A (.compLoop (LC2 elt t1 i1 t2 i2 ifs scope pos) 0 it acc env) R s:=by
 refine codeAny_loop rfl I (fun n s hI=>?_) n h;show wpAny _ A ((compTurn (LC2 elt t1 i1 t2 i2 ifs scope pos) 0 it acc env).onRaise (fun x=>do noteFrame x env;theTreesLotGoes x)) _ _ s;refine wpAny_noted ?_;unfold compTurn;show wpAny _ _ (standAt i1.pos>>=_) _ _ s;refine wpAny_bind (wpAny_standAt ?_);refine wpAny_bind (wpAny_mono (turn n s hI) (fun r s₁ h₁=>?_) fun _ _ h'=>h'.elim);cases r with
 | none=>exact wpAny_pure h₁
 | some v =>
   refine wpAny_bind (wpAny_mono h₁ (fun _ s₁' h₁'=>?_) fun _ _ h'=>h'.elim);refine wpAny_bind (wpAny_mono h₁' (fun _ s₂ h₂=>wpAny_bind (wpAny_tests_nil ?_)) fun _ _ h'=>h'.elim);refine wpAny_bind (wpAny_mono h₂ (fun x s₃ h₃=>?_) fun _ _ h'=>h'.elim);refine wpAny_bind (wpAny_standAt ?_);show wpAny _ _ (foldedSetIterable i2 env x>>=fun x=>(holding [x] (pyIter x)>>=fun it2=>(runOwn (.compStart (LC2 elt t1 i1 t2 i2 ifs scope pos) 1 it2 acc env) env>>=fun _=>again (.compLoop (LC2 elt t1 i1 t2 i2 ifs scope pos) 0 it acc env)))) _ _ _;refine wpAny_bind (wpAny_of_eq (hs x) (wpAny_bind (wpAny_holding (wpAny_mono h₃ (fun it2 s₄ h₄=>?_) fun _ _ h'=>h'.elim))));refine wpAny_bind (wpAny_runOwn ?_);rw [Around.mark_none];refine codeAny_mono h₄ fun r s' hr=>?_;obtain⟨rfl,hr⟩:=hr;exact wpAny_pure ⟨rfl,hr⟩
end
def CompIn (J:It)(g:TG)(tt:TT)(te:TE)(D:Addr)(N:St→Hp→Prop)(σ:St)(H:Hp):Prop:=∃W:Nat→Nat→St→Hp→Prop,(∃m,W 0 m σ H)∧
 ∀i m σ' H',W i m σ' H'→(J.stop i H'∧N σ' H')∨(J.go i H'∧∀x H2,J.yld i H' x H2→g x σ' H2 fun σ3 H3=>tt σ3 H3 fun b H4=>
    if b=true then te σ3 H4 fun v H5=>∃ys,H5 D=some (.lst ys)∧ys.length < sizeLine∧∃m',m' < m∧W (i + 1) m' σ3 (upd H5 D (.lst (ys++[v])))
    else ∃m',m' < m∧W (i + 1) m' σ3 H4)
def b3a (J:It)(g1:TG)(wi2:TI)(g2:TG)(tt:TT)(te:TE)(Q:VK)(D:Addr)(σc:St)(H1:Hp):Prop:=∃W:Nat→Nat→St→Hp→Prop,(∃m,W 0 m σc H1)∧
 ∀i m σ' H',W i m σ' H'→(J.stop i H'∧Q (.ref D) H')∨(J.go i H'∧∀x H2,J.yld i H' x H2→g1 x σ' H2 fun σ3 H3=>wi2 σ3 H3 fun J2 H4=>CompIn J2 g2 tt te D (fun σ5 H5=>∃m',m' < m∧W (i + 1) m' σ5 H5) σ3 H4)
def tComp2 (cs:List (Option Nat))(wi:TI)(g1:TG)(wi2:TI)(g2:TG)(tt:TT)(te:TE):TE:=fun σ H Q=>wi σ H fun J H1=>∀D,H1 D=none→b3a J g1 wi2 g2 tt te Q D (a8E cs σ) (upd H1 D (.lst []))
theorem b1G {X:Cx}{scope:Scope}{cl:List (Str×Addr)}{N:List Str}{cs:List (Option Nat)}{elt t1 i1 t2 i2:Expr}{ifs:List Expr}{pos:Pos}{wi1 wi2:TI}{g1 g2:TG}{tt:TT}{te:TE}(S:a1i X scope cl N cs)(hc:X.calm=true)(hi:PI X t1 i1 wi1)
   (hb:∀(fp:List Addr) (C:Addr) (s:Shared) (H:Hp),PG (a0m X scope cl N fp C s H) t1 g1∧PI (a0m X scope cl N fp C s H) t2 i2 wi2∧PG (a0m X scope cl N fp C s H) t2 g2∧PIf (a0m X scope cl N fp C s H) ifs tt∧PE (a0m X scope cl N fp C s H) elt te)
   (hs2:∀fp C s H x,foldedSetIterable i2 (a0m X scope cl N fp C s H).env x=pure x)
   (hs:∀x,foldedSetIterable i1 X.env x=pure x:=by intro _;rfl) :
   PE X (LC2 elt t1 i1 t2 i2 ifs scope pos) (tComp2 cs wi1 g1 wi2 g2 tt te):=by
 intro pins s σ H Q I h;rw [eval_ListComp];refine wpAny_comprehension_free (use:=none) rfl hs S.clos S.kind S.names (thn (hi pins s σ H _ I h) fun v s1 h1=>thn h1 fun itv s2 h2=>?_);obtain⟨it,fp,tn,J,H2,rfl,I2,T,st2,f2,q⟩:=h2
 have ho:∀b∈fp,∃o,s2.heap.get? b=some o:=fun b hb=>by
   obtain⟨o,e,_⟩:=T.obj 0 _ st2 b hb;exact⟨o,e⟩
 refine wpAny_newObj_type (wpAny_newFunctionEnv S.nocell (by intro y hy;simp at hy) (fun h₁ hns₁ hsb₁=>?_) S.kind);dsimp only at hns₁ hsb₁ ⊢;have hC:(s2.heap.push { cls:=.type "list",dict:=none,data:=.seq ([]:List Value).toArray }).objs.size=s2.heap.objs.size + 1:=by rw [Heap.size_push]
 generalize hH2:s2.heap.push { cls:=.type "list",dict:=none,data:=.seq ([]:List Value).toArray }=hp2 at hns₁ hsb₁ hC ⊢;have old:∀b o,s2.heap.get? b=some o→h₁.get? b=some o:=fun b o e=>hsb₁.extBut b o (by rw [hC];exact Nat.ne_of_lt (Nat.lt_succ_of_lt (Heap.lt_size e))) (Heap.get?_push_of_some _ (hH2▸Heap.get?_push_of_some _ e));have hD:h₁.get? s2.heap.objs.size=some { cls:=.type "list",data:=.seq ([]:List Value).toArray }:=hsb₁.extBut _ _ (by rw [hC];exact Nat.ne_of_lt (Nat.lt_succ_self _)) (Heap.get?_push_of_some _ (hH2▸Heap.get?_push_size _ rfl));rw [hC] at hns₁ ⊢;obtain⟨W,⟨m0,w0⟩,turn⟩:=q s2.heap.objs.size I2.fresh;have Ic:=a5o S (tk:=s2.toks + ([]:List (Str×Value)).length) I2 f2 ho old hns₁ hD;have nstk:∀b,b≠X.env.locals→b∉X.fs→b∉frs X.stack:=fun b h1 h2 hb=>(List.mem_cons.mp (I2.stkSub b hb)).elim h1 h2
 have stat:∀{H':Hp},(∀b∈fp,H' b=none)→∀b∈fp,FpOk (a0m X scope cl N fp (s2.heap.objs.size + 1) s2 H2) pins H' b:=fun hn b hb=>by
   obtain⟨o,e⟩:=ho b hb;exact⟨hn b hb,Nat.ne_of_lt (Nat.lt_succ_of_lt (Heap.lt_size e)),nstk b (f2 b hb).2.1 (f2 b hb).2.2.1,.inl hb,fun x c ec=>(f2 b hb).2.2.2.2.1 x c (S.sub x c ec),(f2 b hb).2.2.2.2.2⟩
 obtain⟨hg,hi2,hg2,hf,he⟩:=hb fp (s2.heap.objs.size + 1) s2 H2;have st1:tn 0 h₁:=T.keep _ _ _ st2 fun b hb o e=>old b o e
 have fr1:∀b∈fp,upd H2 s2.heap.objs.size (.lst []) b=none:=fun b hb=>by
   obtain⟨o,e⟩:=ho b hb;rw [a0j (Nat.ne_of_lt (Heap.lt_size e))];exact(f2 b hb).1
 have loop:∀s₃:Shared,s₃={ s2 with heap:=h₁,toks:=s2.toks + ([]:List (Str×Value)).length }→
     codeAny (model X.prog X.w) X.A (.compLoop (LC2 elt t1 i1 t2 i2 ifs scope pos) 0 (.ref it) (.ref s2.heap.objs.size) (compEnvC scope cl (s2.heap.objs.size + 1) X.env))
       (compPost (model X.prog X.w) X.A X.xe none (EP X pins σ Q) (.ref s2.heap.objs.size) (s2.heap.objs.size + 1)) s₃:=by
   rintro s₃ rfl;refine loop_o (hs2 fp (s2.heap.objs.size + 1) s2 H2) (fun n s'=>∃i σ' H',Inv (a0m X scope cl N fp (s2.heap.objs.size + 1) s2 H2) pins σ' H' s'∧tn i s'.heap∧(∀b∈fp,H' b=none)∧W i n σ' H') ?_ m0 ⟨0,_,_,Ic,st1,fr1,w0⟩;rintro n s3 ⟨i,σ3,H3,I3,st3,fr3,w3⟩;rcases turn i n σ3 H3 w3 with⟨stop,qn⟩ | ⟨go,step⟩
   · refine thn (T.done (a0m X scope cl N fp (s2.heap.objs.size + 1) s2 H2) rfl rfl rfl hc i pins s3 σ3 H3 (fun _ _=>False) I3 (stat fr3) st3 stop) fun r s4 ⟨hr,I4⟩=>?_;subst hr;obtain⟨m4,hn4,_⟩:=I4.loc;exact⟨m4,hn4,fun h' hs'=>⟨.ref s2.heap.objs.size,H3,Inv.uncomp I2 f2 I4 fun b hb=>hs'.2 b hb,rfl,qn⟩⟩
   · refine thn (T.item (a0m X scope cl N fp (s2.heap.objs.size + 1) s2 H2) rfl rfl rfl hc i pins s3 σ3 H3 (fun _ _=>False) I3 (stat fr3) st3 go) fun r s4 ⟨u,hr,h4⟩=>?_;subst hr;refine thn h4 fun _ s5 ⟨x,H5,I5,r5,y5,st5,fr5⟩=>?_;have I5':=I5.pinned (stat fr5) (T.obj _ _ st5);refine thn (hg _ s5 σ3 H5 x u _ I5' r5 (step x H5 y5)) fun _ s6 ⟨σ6,H6,I6,q6⟩=>?_
     have again:∀{σ7:St} {H7:Hp} {s7:Shared},Inv (a0m X scope cl N fp (s2.heap.objs.size + 1) s2 H2) (pins++a1v fp s5.heap) σ7 H7 s7→(∃m',m' < n∧W (i + 1) m' σ7 H7)→
         ∃m,m < n∧∃i σ' H',Inv (a0m X scope cl N fp (s2.heap.objs.size + 1) s2 H2) pins σ' H' s7∧tn i s7.heap∧(∀b∈fp,H' b=none)∧W i m σ' H':=fun {σ7 H7 s7} I7 n7=>by
       obtain⟨m',hm,w7⟩:=n7;refine⟨m',hm,i + 1,σ7,H7,I7.unpinned,T.keep _ _ _ st5 fun b hb o e=>(I7.pin (b,o) (List.mem_append_right _ (List.mem_append_right _ (a0J hb e)))).1,fun b hb=>?_,w7⟩;obtain⟨o,e,d⟩:=T.obj _ _ st5 b hb;exact(I7.pin (b,o) (List.mem_append_right _ (List.mem_append_right _ (a0J hb e)))).2.1
     refine thn (hi2 _ s6 σ6 H6 _ I6 q6) fun v7 s7 h7=>thn h7 fun itv s8 h8=>?_;obtain⟨it2,fp2,tn2,J2,H8,rfl,I8,T2,st8,f8,W2,⟨m2,w2⟩,turn2⟩:=h8;have stat2:∀{H':Hp},(∀b∈fp2,H' b=none)→∀b∈fp2,FpOk (a0m X scope cl N fp (s2.heap.objs.size + 1) s2 H2) (pins++a1v fp s5.heap) H' b:=fun hn b hb=>⟨hn b hb,(f8 b hb).2⟩
     have inner:codeAny (model X.prog X.w) X.A (.compLoop (LC2 elt t1 i1 t2 i2 ifs scope pos) 1 (.ref it2) (.ref s2.heap.objs.size) (compEnvC scope cl (s2.heap.objs.size + 1) X.env)) (fun r s'=>r=.ok .next∧∃m,m < n∧∃i σ' H',Inv (a0m X scope cl N fp (s2.heap.objs.size + 1) s2 H2) pins σ' H' s'∧tn i s'.heap∧(∀b∈fp,H' b=none)∧W i m σ' H') s8:=by
       refine loop_i (fun n2 s'=>∃i σ' H',Inv (a0m X scope cl N fp (s2.heap.objs.size + 1) s2 H2) (pins++a1v fp s5.heap) σ' H' s'∧tn2 i s'.heap∧(∀b∈fp2,H' b=none)∧W2 i n2 σ' H') ?_ m2 ⟨0,σ6,H8,I8,st8,fun b hb=>(f8 b hb).1,w2⟩;rintro n2 s9 ⟨i9,σ9,H9,I9,st9,fr9,w9⟩;rcases turn2 i9 n2 σ9 H9 w9 with⟨stop2,qn2⟩ | ⟨go2,step2⟩
       · refine thn (T2.done (a0m X scope cl N fp (s2.heap.objs.size + 1) s2 H2) rfl rfl rfl hc i9 (pins++a1v fp s5.heap) s9 σ9 H9 (fun _ _=>False) I9 (stat2 fr9) st9 stop2) fun r s10 ⟨hr,I10⟩=>?_;subst hr;exact⟨rfl,again I10 qn2⟩
       · refine thn (T2.item (a0m X scope cl N fp (s2.heap.objs.size + 1) s2 H2) rfl rfl rfl hc i9 (pins++a1v fp s5.heap) s9 σ9 H9 (fun _ _=>False) I9 (stat2 fr9) st9 go2) fun r s10 ⟨u2,hr,h10⟩=>?_;subst hr;refine thn h10 fun _ s11 ⟨x2,H11,I11,r11,y11,st11,fr11⟩=>?_;have I11':=I11.pinned (stat2 fr11) (T2.obj _ _ st11);refine thn (hg2 _ s11 σ9 H11 x2 u2 _ I11' r11 (step2 x2 H11 y11)) fun _ s12 ⟨σ12,H12,I12,q12⟩=>?_
         have again2:∀{σ7:St} {H7:Hp} {s7:Shared},Inv (a0m X scope cl N fp (s2.heap.objs.size + 1) s2 H2) ((pins++a1v fp s5.heap)++a1v fp2 s11.heap) σ7 H7 s7→(∃m',m' < n2∧W2 (i9 + 1) m' σ7 H7)→
             ∃m,m < n2∧∃i σ' H',Inv (a0m X scope cl N fp (s2.heap.objs.size + 1) s2 H2) (pins++a1v fp s5.heap) σ' H' s7∧tn2 i s7.heap∧(∀b∈fp2,H' b=none)∧W2 i m σ' H':=fun {σ7 H7 s7} I7 n7=>by
           obtain⟨m',hm,w7⟩:=n7;refine⟨m',hm,i9 + 1,σ7,H7,I7.unpinned,T2.keep _ _ _ st11 fun b hb o e=>(I7.pin (b,o) (List.mem_append_right _ (List.mem_append_right _ (a0J hb e)))).1,fun b hb=>?_,w7⟩;obtain⟨o,e,d⟩:=T2.obj _ _ st11 b hb;exact(I7.pin (b,o) (List.mem_append_right _ (List.mem_append_right _ (a0J hb e)))).2.1
         refine thn (hf _ s12 σ12 H12 _ I12 q12) fun ok s13 ⟨H13,I13,q13⟩=>?_;cases ok with
         | false=>exact again2 I13 q13
         | true =>
           refine thn (he _ s13 σ12 H13 _ I13 q13) fun y s14 ⟨v14,H14,I14,r14,ys,e14,z14,n14⟩=>?_
           have ma:=a2R (X:=(a0m X scope cl N fp (s2.heap.objs.size + 1) s2 H2)) _ s14 σ12 H14 (.ref s2.heap.objs.size) [v14] (.ref s2.heap.objs.size) [y]
             (fun v H9=>∃m',m' < n2∧W2 (i9 + 1) m' σ12 H9) I14 rfl (.cons r14 .nil) ⟨_,ys,v14,rfl,rfl,e14,z14,n14⟩
           exact thn ma fun _ s15 ⟨v15,H15,I15,_,q15⟩=>again2 I15 q15
     exact b3h inner (T2.self _ 0 _ _ _ st8 inner)
 exact codeAny_compStart_list (loop _ rfl) (T.self _ 0 _ _ _ st1 (loop _ rfl))
end L2
end
section
set_option maxHeartbeats 1000000
namespace Pu
open PySem PySem.Spec L2
def b2k (g:pG)(tt:pT)(te:pE):List PV→Env→Nat→(List PV→Env→Nat→Prop)→Prop
 | [],env,n,R=>R [] env n
 | x::xs,env,n,R=>g x env fun env1=>tt env1 n fun b env2 n2=>if b=true then te env2 n2 fun y env3 n3=>b2k g tt te xs env3 n3 fun ys e m=>R (y::ys) e m else b2k g tt te xs env2 n2 R
def a2V (g1:pG)(pi2:pA)(g2:pG)(tt:pT)(te:pE):List PV→Env→Nat→(List PV→Nat→Prop)→Prop
 | [],_,n,R=>R [] n
 | x::xs,env,n,R=>g1 x env fun env1=>pi2 env1 n fun ys env2 n2=>ys.length≤1000∧b2k g2 tt te ys env2 n2 fun zs env3 n3=>a2V g1 pi2 g2 tt te xs env3 n3 fun ws n4=>R (zs++ws) n4
def a9o (cs:List (Option Nat))(pi1:pA)(g1:pG)(pi2:pA)(g2:pG)(tt:pT)(te:pE):pA:=fun env n R=>pi1 env n fun xs env1 n1=>xs.length≤1000∧a2V g1 pi2 g2 tt te xs (capV cs env1) n1 fun ys n2=>R ys env1 n2
theorem b2l {K:PySem.W.Frag}{T:PotK}{J:It}{g1 g2:TG}{wi2:TI}{tt:TT}{te:TE}{pg1 pg2:pG}{pi2:pA}{ptt:pT}{pte:pE}(hg1:GOk K g1 pg1)(hi2:IOk K T wi2 pi2)(hg2:GOk K g2 pg2)(ht:TOk K T tt ptt)(he:EOk K T te pte){G:Gh}{H1:Hp}{xs:List PV}(hJ:ItR K G H1 J xs)(hl:xs.length≤1000)
   {σc:St} {env:Env} {n:Nat} {R:List PV→Nat→Prop} {Q:VK} {D:Addr} (hD:H1 D=none) (I0:Inn K T G σc H1 env n) (hp:a2V pg1 pi2 pg2 ptt pte xs env n R)
   (hQ:∀ys n' us H',R ys n'→(∀p∈G.pots,T.at_ (D::G.M) H' p n')→(∀b o,b∉G.pots→H1 b=some o→H' b=some o)→H' D=some (.lst us)→Reps K ⟨D::G.M,G.pots⟩ H' ys us→Q (.ref D) H') :
   b3a J g1 wi2 g2 tt te Q D σc (upd H1 D (.lst [])):=by
 have hDM:D∉G.M:=fun z=>by
   obtain⟨o,e,_⟩:=I0.mu D z;rw [hD] at e;cases e
 have nD:D∉G.pots:=fun z=>hDM (I0.pots D z).1
 let GD:Gh:=⟨D::G.M,G.pots⟩
 have pM:∀b,b∉GD.M→b∉G.pots:=fun b hb z=>hb (List.mem_cons_of_mem _ (I0.pots b z).1);refine⟨fun i m σ H=>m=xs.length - i∧i≤xs.length∧∃env n acc us,Inn K T GD σ H env n∧(∀b o,b∉G.pots→H1 b=some o→H b=some o)∧H D=some (.lst us)∧Reps K GD H acc us∧acc.length≤1000 * i∧a2V pg1 pi2 pg2 ptt pte (xs.drop i) env n fun ys n'=>R (acc++ys) n',?_,?_⟩
 · refine⟨xs.length,by simp,Nat.zero_le _,env,n,[],[],⟨fun p hp=>⟨List.mem_cons_of_mem _ (I0.pots p hp).1,?_⟩,I0.has,fun a ha=>?_,fun i s e=>?_,I0.len⟩,fun b o _ e=>?_,a0g,rfl,Nat.le_refl _,by simpa using hp⟩
   · have h1:=T.more (M':=D::G.M) (I0.pots p hp).2 (fun a ha=>(List.mem_cons.mp ha).elim (fun z=>.inr (z▸hD)) .inl);refine T.keep h1 ?_ fun b o hb e=>Same.lay1 hD b o e;obtain⟨o,e,_⟩:=T.mu h1;rw [e,Same.lay1 hD p o e]
   · rcases List.mem_cons.mp ha with rfl | ha
     · exact⟨_,a0g,trivial⟩
     · obtain⟨o,e,m⟩:=I0.mu a ha;exact⟨o,Same.lay1 hD a o e,m⟩
   · obtain⟨x,v,rfl,ev,r⟩:=I0.slots i s e;exact⟨x,v,rfl,ev,Rep.mono (G':=GD) (H':=upd H1 D (.lst [])) (fun b o _ e=>Same.lay1 hD b o e) (fun a ha=>(List.mem_cons.mp (show a∈D::G.M from ha)).elim (fun z=>.inr (z▸hD)) .inl) (fun _ _ e=>e) _ _ r⟩
   · exact Same.lay1 hD b o e
 · rintro i m σ H ⟨rfl,hi,env,n,acc,us,I,kp,eD,ra,la,hc⟩
   have hf:∀p,H p=none→p∉GD.M:=fun p hp z=>by
     obtain⟨o,e,_⟩:=I.mu p z;rw [hp] at e;cases e
   have hk:∀b o,b∉G.M→H1 b=some o→H b=some o:=fun b o hb e=>kp b o (fun z=>hb (I0.pots b z).1) e;obtain⟨hgo,hstop⟩:=hJ GD H hk (fun a ha=>(List.mem_cons.mp (show a∈D::G.M from ha)).elim (fun z=>.inr (z▸hD)) .inl) (fun _ _ e=>e) hf
   by_cases hlt:i < xs.length
   · have ex:xs[i]?=some xs[i]:=List.getElem?_eq_getElem hlt;obtain⟨gg1,gg2⟩:=hgo i _ ex;refine .inr ⟨gg1,fun v H2 y=>?_⟩;obtain⟨s2,rv⟩:=gg2 v H2 y;rw [List.drop_eq_getElem_cons hlt] at hc;have S0:=I.sr;have S1:SR ⟨K,T,GD.M,GD.pots,H,false⟩ GD σ H2 env n:=S0.same s2;refine hg1 _ GD σ H2 env n xs[i] v _ _ rfl S1 rv hc fun env1 σ1 hc1 S2=>?_;refine hi2 _ GD σ1 H2 env1 n _ _ rfl rfl S2 hc1 fun ys env2 n2 J2 H4 q4 S4 f4 hJ2=>?_;have I4:=S4.inn;have k4:∀b o,b∉G.pots→H1 b=some o→H4 b=some o:=fun b o hb e=>S4.frame b o hb (kp b o hb e);have d4:H4 D=some (.lst us):=S4.frame D _ nD eD;have ra4:Reps K GD H4 acc us:=Reps.mono (fun b o hb e=>S4.frame b o (pM b hb) e) (fun a ha=>.inl ha) (fun _ _ e=>e) _ _ ra;refine⟨fun j m σ H'=>m=ys.length - j∧j≤ys.length∧∃env n acc2 us2,Inn K T GD σ H' env n∧(∀b o,b∉G.pots→H1 b=some o→H' b=some o)∧(∀b o,b∉GD.M→H4 b=some o→H' b=some o)∧H' D=some (.lst us2)∧Reps K GD H' acc2 us2∧acc2.length≤1000 * i + j∧b2k pg2 ptt pte (ys.drop j) env n fun zs env3 n3=>a2V pg1 pi2 pg2 ptt pte (xs.drop (i + 1)) env3 n3 fun ws n4=>R (acc2++(zs++ws)) n4,⟨ys.length,by simp,Nat.zero_le _,env2,n2,acc,us,I4,k4,fun _ _ _ e=>e,d4,ra4,la,q4.2⟩,?_⟩;rintro j m σ5 H5 ⟨rfl,hj,env5,n5,acc5,us5,I5,kp5,kq5,eD5,ra5,la5,hc5⟩
     have hf5:∀p,H5 p=none→p∉GD.M:=fun p hp z=>by
       obtain⟨o,e,_⟩:=I5.mu p z;rw [hp] at e;cases e
     obtain⟨hgo5,hstop5⟩:=hJ2 GD H5 kq5 (fun a ha=>.inl ha) (fun _ _ e=>e) hf5
     by_cases hlt5:j < ys.length
     · have ex5:ys[j]?=some ys[j]:=List.getElem?_eq_getElem hlt5;obtain⟨u1,u2⟩:=hgo5 j _ ex5;refine .inr ⟨u1,fun v6 H6 y6=>?_⟩;obtain⟨s6,rv6⟩:=u2 v6 H6 y6;rw [List.drop_eq_getElem_cons hlt5] at hc5;have S6:SR ⟨K,T,GD.M,GD.pots,H5,false⟩ GD σ5 H6 env5 n5:=I5.sr.same s6;refine hg2 _ GD σ5 H6 env5 n5 ys[j] v6 _ _ rfl S6 rv6 hc5 fun env7 σ7 hc7 S7=>?_;refine ht _ GD σ7 H6 env7 n5 _ _ rfl rfl S7 hc7 fun b env8 n8 H8 hc8 S8 f8=>?_
       have pt:∀{H9:Hp} {env9:Env} {n9:Nat},SR ⟨K,T,GD.M,GD.pots,H5,false⟩ GD σ7 H9 env9 n9→(∀b o,b∉G.pots→H1 b=some o→H9 b=some o)∧(∀b o,b∉GD.M→H4 b=some o→H9 b=some o)∧H9 D=some (.lst us5):=fun S9=>
         ⟨fun b o hb e=>S9.frame b o hb (kp5 b o hb e),fun b o hb e=>S9.frame b o (pM b hb) (kq5 b o hb e),S9.frame D _ nD eD5⟩
       cases b with
       | false =>
         obtain⟨k1,k2,k3⟩:=pt S8;refine⟨ys.length - (j + 1),by omega,rfl,hlt5,env8,n8,acc5,us5,S8.inn,k1,k2,k3,?_,by omega,hc8⟩;exact Reps.mono (fun b o hb e=>S8.frame b o (pM b hb) e) (fun a ha=>.inl ha) (fun _ _ e=>e) _ _ ra5
       | true =>
         refine he _ GD σ7 H8 env8 n8 _ _ rfl rfl S8 hc8 fun y env9 n9 u H9 hc9 S9 r9 f9=>?_;obtain⟨k1,k2,k3⟩:=pt S9;have ra9:Reps K GD H9 acc5 us5:=Reps.mono (fun b o hb e=>S9.frame b o (pM b hb) e) (fun a ha=>.inl ha) (fun _ _ e=>e) _ _ ra5
         have fD:∀(o:HO),Fr GD H9 (upd H9 D o):=fun o b u hb e=>by
           rw [a0j (fun z=>hb (by rw [z];exact List.mem_cons_self))];exact e
         have I9:=S9.inn;refine⟨us5,k3,?_,ys.length - (j + 1),by omega,rfl,hlt5,env9,n9,acc5++[y],us5++[u],⟨fun p hp=>⟨(I9.pots p hp).1,?_⟩,I9.has,fun a ha=>?_,fun q s e=>?_,I9.len⟩,fun b o hb e=>?_,fun b o hb e=>fD _ b o hb (k2 b o hb e),a0g,(ra9.append (.one r9)).fr (fD _),by rw [List.length_append,List.length_singleton];omega,?_⟩
         · have:=ra5.length;rw [← this];exact mil' (by omega)
         · have np:p≠D:=fun z=>hDM (by rw [← z];exact(I0.pots p hp).1);exact T.keep (I9.pots p hp).2 (a0j np) fun b o hb e=>fD _ b o hb e
         · by_cases haD:a=D
           · subst haD;exact⟨_,a0g,trivial⟩
           · obtain⟨o,e,m⟩:=I9.mu a ha;exact⟨o,by rw [a0j haD];exact e,m⟩
         · obtain⟨x,v,rfl,ev,r⟩:=I9.slots q s e;exact⟨x,v,rfl,ev,r.fr (fD _)⟩
         · have nb:b≠D:=fun z=>by rw [z,hD] at e;cases e
           rw [a0j nb];exact k1 b o hb e
         · simpa [List.append_assoc] using hc9
     · have ej:j=ys.length:=by omega
       subst ej;refine .inl ⟨hstop5 _ (Nat.le_refl _),xs.length - (i + 1),by omega,rfl,hlt,env5,n5,acc5,us5,I5,kp5,eD5,ra5,by have:=q4.1;omega,?_⟩;rw [List.drop_length] at hc5;exact hc5
   · have ei:i=xs.length:=by omega
     subst ei;refine .inl ⟨hstop _ (Nat.le_refl _),?_⟩;rw [List.drop_length] at hc;exact hQ _ n us H (by simpa [a2V] using hc) (fun p hp=>(I.pots p hp).2) kp eD ra
section
variable {T:PotK}{ι:Type}{K:PySem.W.Frag}{F:ι→Cx}{pg1 pg2:pG}{pos:Pos}
theorem b1v {scope:Scope}{cl:ι→List (Str×Addr)}{N:List Str}{cs:List (Option Nat)}{elt t1 i1 t2 i2:Expr}{ifs:List Expr}{pi1 pi2:pA}{ptt:pT}{pte:pE}(S:∀z,a1i (F z) scope (cl z) N cs)(hc:∀z,(F z).calm=true)(hi:QI T K F t1 i1 pi1)
   (hg:QG K (fun y:ι×List Addr×Addr×Shared×Hp=>a0m (F y.1) scope (cl y.1) N y.2.1 y.2.2.1 y.2.2.2.1 y.2.2.2.2) t1 pg1)
   (hi2:QI T K (fun y:ι×List Addr×Addr×Shared×Hp=>a0m (F y.1) scope (cl y.1) N y.2.1 y.2.2.1 y.2.2.2.1 y.2.2.2.2) t2 i2 pi2)
   (hg2:QG K (fun y:ι×List Addr×Addr×Shared×Hp=>a0m (F y.1) scope (cl y.1) N y.2.1 y.2.2.1 y.2.2.2.1 y.2.2.2.2) t2 pg2)
   (ht:QIf T K (fun y:ι×List Addr×Addr×Shared×Hp=>a0m (F y.1) scope (cl y.1) N y.2.1 y.2.2.1 y.2.2.2.1 y.2.2.2.2) ifs ptt)
   (he:QE T K (fun y:ι×List Addr×Addr×Shared×Hp=>a0m (F y.1) scope (cl y.1) N y.2.1 y.2.2.1 y.2.2.2.1 y.2.2.2.2) elt pte)
   (hs:∀z x,foldedSetIterable i1 (F z).env x=pure x:=by intro _ _;rfl) (hs2:∀z fp C s H x,foldedSetIterable i2 (a0m (F z) scope (cl z) N fp C s H).env x=pure x:=by intro _ _ _ _ _ _;rfl):QN T K F (LC2 elt t1 i1 t2 i2 ifs scope pos) (a9o cs pi1 pg1 pi2 pg2 ptt pte):=by
 obtain⟨wi,i1',i2'⟩:=hi;obtain⟨g,hg0,hg⟩:=hg;obtain⟨wj,j1,j2⟩:=hi2;obtain⟨g2,hg20,hg2⟩:=hg2;obtain⟨tt,ht0,ht⟩:=ht;obtain⟨te,he0,he⟩:=he;refine⟨_,fun z=>b1G (S z) (hc z) (i1' z) (fun fp C s H=>⟨hg0 (z,fp,C,s,H),j1 (z,fp,C,s,H),hg20 (z,fp,C,s,H),ht0 (z,fp,C,s,H),he0 (z,fp,C,s,H)⟩) (hs2 z) (hs z),fun C G σ H env n R Q hK hT S hp k=>?_⟩;refine i2' C G σ H env n _ _ hK hT S hp fun xs env1 n1 J H1 p1 S1 f1 hJ=>?_;intro D hD;have hDM:=S1.fresh hD;refine b2l (G:=G) hg j2 hg2 ht he hJ p1.1 hD (hT▸hK▸a6Y S1 cs) p1.2 fun ys n2 us H' rr hpots hk eD ry=>?_;have nD:∀b o,H1 b=some o→b≠D:=fun b o e z=>by rw [z,hD] at e;cases e
 have hk2:∀b o,b∉G.pots→H1 b=some o→cutH H' D b=some o:=fun b o hb e=>by rw [a1f (nD b o e)];exact hk b o hb e
 have nc:∀b,b∉D::G.M→b≠D:=fun b hb z=>hb (by rw [z];exact List.mem_cons_self);have np:∀p∈G.pots,p≠D:=fun p hp z=>hDM (z▸(S1.pots p hp).1)
 have Sb:SR C G σ (cutH H' D) env1 n2:=S1.call hk2 fun p hp=>by
   subst hT;have h2:=C.T.keep (hpots p hp) (H':=cutH H' D) (a1f (np p hp)) fun b o hb e=>by rw [a1f (nc b hb)];exact e
   exact C.T.more h2 fun a ha=>.inl (List.mem_cons_of_mem _ ha)
 have:=k ys env1 n2 D us (cutH H' D) rr Sb (f1.trans fun b o hb e=>hk2 b o (fun z=>hb (S1.pots b z).1) e) (by unfold cutH;rw [if_pos rfl]) ?_
 · rw [a4S eD] at this;exact this
 · exact Reps.mono (G:=⟨D::G.M,G.pots⟩) (fun b o hb e=>by rw [a1f (nc b hb)];exact e) (fun a ha=>.inl (List.mem_cons_of_mem _ ha)) (fun _ _ e=>e) _ _ ry
end
end Pu
end
section
set_option maxHeartbeats 1000000
namespace L2
open PySem PySem.W PySem.Spec PyProof.Rows
def a8B (X:Cx)(scope:Scope)(N:List Str)(qual:Str)(f c':Addr)(cl:List (Str×Addr))(s:Shared)(H:Hp):Cx where
 prog:=X.prog
 w:=X.w
 K:=X.K
 mg:=X.mg
 base:=X.base
 A:=X.A.in1.in1.deeper (envX qual scope s.heap.objs.size f (.ref c') cl)
 N:=N
 s₀:=s
 H₀:=H
 env:=envX qual scope s.heap.objs.size f (.ref c') cl
 outer:=X.stack
 stack:=envX qual scope s.heap.objs.size f (.ref c') cl::X.stack
 ex:=[]
 calm:=true
 fn:=fun _=>false
 pn:=[]
 xe:=fun _ _=>False
structure a2X (scope:Scope)(x y:Str):Prop where
 kind:scope.kind=.function
 co:scope.isCoroutine=false
 gen:scope.isGenerator=false
 hx:scope.names.lookup x=some .local
 hy:scope.names.lookup y=some .free
 fr:∀z,scope.names.lookup z=some .free→z=y
 nc:∀z∈scope.names,z.2≠.cell
 ne:(y == x)=false
section
variable {X:Cx}{pins:List (Addr×Obj)}{σ:St}{H:Hp}{s:Shared}
theorem a9Y {scope:Scope}{x y qual:Str}{f c' c:Addr}{vx vy:V}{ux uy:Value}{h1:Heap}{tk k:Nat}(I:Inv X pins σ H s)(hr:Room k X.A)(S:a2X scope x y)(hc:s.heap.IsCell c (some uy))(hH:H c=none)(ry:RelV vy uy)(rx:RelV vx ux)
   (hns:h1.Ns s.heap.objs.size (fun z=>[(x,ux)].reverse.lookup z)) (hsb:Heap.SameBut s.heap.objs.size (s.heap.push { cls:=.type "frame",data:=.dict #[] }) h1) :
   Inv (a8B X scope [x,y] qual f c' [(y,c)] s H) [] [some vx,some vy] H { s with heap:=h1,toks:=tk }:=by
 have hk:∀b o,s.heap.get? b=some o→h1.get? b=some o:=fun b o e=>hsb.extBut b o (Nat.ne_of_lt (Heap.lt_size e)) (Heap.get?_push_of_some _ e);have noA:∀b:Addr,b∉(a8B X scope [x,y] qual f c' [(y,c)] s H).ex:=fun b z=>absurd (show b∈([]:List Addr) from z) (by simp);have e0:=I.env0
 have cl1:∀z d,([(y,c)]:List (Str×Addr)).lookup z=some d→z=y∧d=c:=fun z d e=>by
   rw [List.lookup_cons] at e;cases q:z == y with
   | true=>rw [q] at e;cases e;exact⟨eq_of_beq q,rfl⟩
   | false=>rw [q] at e;cases e
 have cy:([(y,c)]:List (Str×Addr)).lookup y=some c:=by rw [List.lookup_cons,beq_self_eq_true]
 refine⟨⟨e0.mod,S.kind,rfl,rfl,Nat.le_refl _,fun a b d h1 h2=>?_,fun z hz=>?_,fun z d h _=>absurd (show false=true from h) Bool.false_ne_true,fun _=>hr.hd,Around.frames_deeper (show X.A.in1.in1.frames=_ from e0.frames),.inr ⟨rfl,rfl⟩,fun b z=>absurd z (noA b),e0.bs,e0.bsz,fun b _ _=>noA b,fun b z=>absurd z (noA b),e0.funs,e0.frf,e0.nos⟩,
   rfl,e0.bare,Un.kept hk,⟨_,hns,fun i z v h1 h2 h3=>?_⟩,fun z d h=>?_,e0.hok.fresh (Nat.le_refl _),fun z d h=>?_,fun p hp=>absurd (show p∈([]:List (Addr×Obj)) from hp) (by simp),e0.hok.kept hk,rfl⟩
 · exact((cl1 _ _ h1).1).trans (cl1 _ _ h2).1.symm
 · have hz:scope.names.lookup z=some .cell∨scope.names.lookup z=some .free:=hz;rcases hz with hz | hz
   · exact absurd rfl (S.nc _ (PySem.mem_of_lookup hz))
   · exact⟨c,by rw [S.fr z hz];exact cy⟩
 · match i,h1,h2 with
   | 0, h1, h2 =>
     cases h1;cases h2;refine⟨ux,rx,.inl ⟨S.hx,?_⟩⟩;show([(x,ux)]:List (Str×Value)).reverse.lookup x=some ux;rw [List.reverse_singleton,List.lookup_cons,beq_self_eq_true]
   | 1, h1, h2 =>
     cases h1;cases h2;obtain⟨o,ho,hd⟩:=hc;exact⟨uy,ry,.inr ⟨.inr S.hy,c,cy,o,hk _ _ ho,hd⟩⟩
   | i + 2,h1,h2=>cases h2
 · obtain⟨rfl,rfl⟩:=cl1 z d h;obtain⟨o,ho,hd⟩:=hc;exact⟨_,o,hk _ _ ho,hd⟩
 · obtain⟨rfl,rfl⟩:=cl1 z d h;exact hH
theorem b1T {scope:Scope}{x y qual:Str}{params:Arguments}{body:Expr}{f c' c:Addr}{pm ctv:Value}{vx vy:V}{ux uy:Value}{k:Nat}{tb:TE}{Q:VK}{E:Value→Shared→Prop}(I:Inv X pins σ H s)(hr:Room k X.A)(S:a2X scope x y)
   (hc:s.heap.IsCell c (some uy)) (hH:H c=none) (ry:RelV vy uy) (rx:RelV vx ux) (fo:s.heap.get? f=some (kla_obj "<lambda>" qual params body scope [(y,c)] pm c' ctv)) (hcd:s.heap.CodeRec (.ref c') qual)
   (bd:∀u,bindArgs (kla_fn "<lambda>" qual params body scope [(y,c)] pm (.ref c') ctv) ⟨[u],[]⟩=pure [(x,u)])
   (hb:PE (a8B X scope [x,y] qual f c' [(y,c)] s H) body tb) (ht:tb [some vx,some vy] H Q) :
   wpAny (model X.prog X.w) X.A.in1.in1 (call (.ref f) [ux]) (EP X pins σ Q) E s:=by
 refine wpAny_call ?_;refine kla_callFunE (fd:=kla_fn "<lambda>" qual params body scope [(y,c)] pm (.ref c') ctv) (show X.A.depth < recursionLimit from hr.depth) fo rfl S.co S.gen rfl hcd ?_;rw [bd];refine wpAny_pure (wpAny_newFunctionEnv S.nc (fun z hz=>?_) (fun h1 hns hsb=>⟨?_,?_⟩) S.kind)
 · rw [List.mem_singleton.mp hz];exact S.hx
 · refine I.nolimit.keeps fun b o e=>?_;exact hsb.extBut b o (Nat.ne_of_lt (Heap.lt_size e)) (Heap.get?_push_of_some _ e)
 · refine kla_codeExpr (wpAny_mono (hb [] _ [some vx,some vy] H Q (a9Y (tk:=s.toks + 1) I hr S hc hH ry rx hns hsb) ht) (fun v s' h=>?_) fun _ _ z=>z.elim);obtain⟨v',H',J,r,q⟩:=h;exact I.after ⟨v',H',J.os,J.bare,J.base,J.hok,r,q⟩
end
end L2
end
section
set_option maxHeartbeats 1000000
namespace L2
open PySem PySem.W PySem.Spec PyProof.Rows
def a3A (c':Addr)(qual:Str):HO:=.ext fun h=>h.CodeRec (.ref c') qual
def a8n (tb:TE)(vy:V)(kS c':Addr)(qual:Str):List V→List Int→Hp→(List Int→Hp→Prop)→Prop
 | [],ks,H,R=>R ks H
 | x::xs,ks,H,R=>H c'=some (a3A c' qual)∧tb [some x,some vy] H fun y H1=>∃k,y=.int k∧H1 kS=some (.lst (ks.map V.int))∧a8n tb vy kS c' qual xs (ks++[k]) (upd H1 kS (.lst ((ks++[k]).map V.int))) R
def KOut (ks:List Int)(xs ys:List V):Prop:=∃ps:List (Int×V),ps.Perm (ks.zip xs)∧ys=ps.map Prod.snd∧ps.Pairwise fun p q=>p.1≤q.1
section
variable {prog:Program}{w:World}{A:Around}{E:Value→Shared→Prop}{s:Shared}{a kS:Addr}{vs:List Value}{kz:List Int}{keys:Array Value}{e e1:Nat}{P:PySem.Fin→Shared→Prop}
theorem kTail {st:SortSt}(nk:s.heap.get? kS=some (seqObj "list" keys e))(na:s.heap.get? a=some (seqObj "list" #[] e1))(hka:kS≠a)
   (hk:IntsAre keys.toList kz) (hlen:kz.length=vs.length) (h64:vs.length < 64) (hp:(arrOf st).Perm (keys.zip vs.toArray)) (hs:SortedTo (arrOf st) (arrOf st).size) (hfl:failedOf st=none)
   (h:∀h' out c c2,(∀b o,b≠a→b≠kS→s.heap.get? b=some o→h'.get? b=some o)→h'.get? a=some (seqObj "list" out c)→h'.get? kS=some (seqObj "list" #[] c2)→KskOut false kz vs out.toList→P (.done (.ret .none)) { s with heap:=h' }) :
   wpAny (model prog w) A (ksk_tail a false e1 (.ref kS) st) P E s:=by
 have hsz:keys.size=vs.length:=by
   have h1:=hk.length;rw [Array.length_toList] at h1;omega
 have hsz2:(arrOf st).size=vs.length:=by rw [hp.size_eq,Array.size_zip,hsz,List.size_toArray,Nat.min_self]
 have s1:=Heap.SameBut.update s.heap kS (Obj.mapSeq fun _=>(#[]:Array Value));have na1:(s.heap.update kS (Obj.mapSeq fun _=>(#[]:Array Value))).get? a=some (seqObj "list" #[] e1):=(s1.2 a hka.symm).trans na;obtain⟨ck,hck⟩:∃c,(s.heap.update kS (Obj.mapSeq fun _=>(#[]:Array Value))).get? kS=some (seqObj "list" #[] c):=⟨_,get?_update_seq nk fun _=>#[]⟩;have s2:=Heap.SameBut.update (s.heap.update kS (Obj.mapSeq fun _=>(#[]:Array Value))) a (Obj.mapSeq fun _=>(arrOf st).map (·.2))
 obtain⟨c2,hc2⟩:∃c2,((s.heap.update kS (Obj.mapSeq fun _=>(#[]:Array Value))).update a (Obj.mapSeq fun _=>(arrOf st).map (·.2))).get? a=some (seqObj "list" ((arrOf st).map (·.2)) c2):=
   ⟨_,get?_update_seq na1 fun _=>(arrOf st).map (·.2)⟩
 unfold ksk_tail
 try dsimp only
 refine wpAny_bind (listUpdate_at nk rfl ?_ (by rw [hsz,sizeLine_eq];omega) (Nat.zero_le _));refine wpAny_bind (wpAny_letGo ?_);refine wpAny_bind (seqEpoch_at na1 rfl ?_);simp only [Bool.false_eq_true,if_false];refine wpAny_bind (listUpdate_at na1 rfl ?_ (Nat.zero_le _) (Nat.le_trans (Nat.le_of_eq ((Array.size_map ..).trans hsz2)) (by rw [sizeLine_eq];omega)));rw [hfl];simp only [bne_self_eq_false,Bool.false_eq_true,if_false];exact wpAny_pure (h _ _ c2 ck (fun b o h1 h2 e=>(s2.2 b h1).trans ((s1.2 b h2).trans e)) hc2 ((s2.2 kS hka).trans hck) (ksk_out (b:=false) hk hp hs))
theorem kEnd (nk:s.heap.get? kS=some (seqObj "list" keys e))(na:s.heap.get? a=some (seqObj "list" #[] e1))(hka:kS≠a)
   (hk:IntsAre keys.toList kz) (hlen:kz.length=vs.length) (h64:vs.length < 64)
   (h:∀h' out c c2,(∀b o,b≠a→b≠kS→s.heap.get? b=some o→h'.get? b=some o)→h'.get? a=some (seqObj "list" out c)→h'.get? kS=some (seqObj "list" #[] c2)→KskOut false kz vs out.toList→P (.done (.ret .none)) { s with heap:=h' }) :
   wpAny (model prog w) A (ksk_end a false vs.toArray e1 (.ref kS) keys) P E s:=by
 have hsz:keys.size=vs.length:=by
   have h1:=hk.length;rw [Array.length_toList] at h1;omega
 have hzs:(keys.zip vs.toArray).size=vs.length:=by rw [Array.size_zip,hsz,List.size_toArray,Nat.min_self]
 unfold ksk_end;simp only [Bool.false_eq_true,if_false]
 by_cases h2:vs.toArray.size < 2
 · rw [if_pos h2,if_pos h2];refine wpAny_bind (wpAny_pure ?_);rw [StateT.run_pure];refine wpAny_bind (wpAny_pure ?_)
   try dsimp only
   refine kTail (st:=SortSt.mk' general' (keys.zip vs.toArray) #[] 7 none) nk na hka hk hlen h64 (Array.Perm.refl _) ?_ rfl h;intro i j hij hj;have hj2:j < (keys.zip vs.toArray).size:=hj;rw [hzs] at hj2;rw [List.size_toArray] at h2;have:i=j:=by omega
   subst this;exact Int.le_refl _
 · rw [if_neg h2,if_neg h2];rw [List.size_toArray] at h2;rw [ksk_kind hk (by rw [hsz];omega)];refine wpAny_bind (wpAny_pure ?_)
   refine wpAny_bind (wpAny_mono (wpS_sortRuns (a₀:=keys.zip vs.toArray) (st:=SortSt.mk' oneType' (keys.zip vs.toArray) #[] 7 none)
     (Q:=fun _ st'=>(arrOf st').Perm (keys.zip vs.toArray)∧failedOf st'=none∧SortedTo (arrOf st') (keys.zip vs.toArray).size)
     (ksk_intKeys hk) ⟨Array.Perm.refl _,rfl,rfl,rfl⟩ (by rw [hzs];omega) (by rw [hzs];exact h64) fun st' a1 a2 a3=>⟨a1,a2,a3⟩) ?_ fun _ _ e=>e)
   rintro⟨⟨⟩,st'⟩ s' ⟨rfl,hp,hf,hs⟩
   try dsimp only
   exact kTail nk na hka hk hlen h64 hp (by rw [hp.size_eq];exact hs) hf h
end
theorem b0l:∀{ks:List Int} {us:List Value},Vals (ks.map V.int) us→IntsAre us ks
 | [],_,h=>by cases h;exact .nil
 | k :: ks, _, h => by
   cases h with
   | cons h1 h2 =>
     obtain⟨t,rfl⟩:=h1;exact .cons k t (b0l h2)
theorem b3Z {ks:List Int}{xs:List V}{vs:List Value}{out:List Value}(r:Vals xs vs)(h:KskOut false ks vs out):∃ys,KOut ks xs ys∧Vals ys out:=by
 obtain⟨ps,hp,rfl,ho⟩:=h
 replace ho:ps.Pairwise fun p q=>p.1≤q.1:=by simpa using ho
 have ab:∀(ks:List Int) {xs:List V} {vs:List Value},Vals xs vs→(ks.zip vs).map (fun p=>(p.1,(absV p.2).getD .non))=ks.zip xs:=by
   intro ks
   induction ks with
   | nil=>intro xs vs _;rfl
   | cons k ks ih =>
     intro xs vs r;cases r with
     | nil=>rfl
     | cons h1 h2 =>
       rw [List.zip_cons_cons,List.zip_cons_cons,List.map_cons,ih h2];show(k,(absV _).getD _)::_=_;rw [h1.abs];rfl
 have rl:∀(ks:List Int) {xs:List V} {vs:List Value},Vals xs vs→∀p∈ks.zip vs,RelV ((absV p.2).getD .non) p.2:=by
   intro ks
   induction ks with
   | nil=>intro xs vs _ p hp;cases hp
   | cons k ks ih =>
     intro xs vs r p hp;cases r with
     | nil=>cases hp
     | cons h1 h2 =>
       rcases List.mem_cons.mp hp with rfl | hp
       · show RelV ((absV _).getD _) _;rw [h1.abs];exact h1
       · exact ih h2 p hp
 refine⟨ps.map fun p=>(absV p.2).getD .non,⟨ps.map fun p=>(p.1,(absV p.2).getD .non),?_,by rw [List.map_map];rfl,?_⟩,?_⟩
 · rw [← ab ks r];exact hp.map _
 · rw [List.pairwise_map];exact ho
 · have rl2:∀p∈ps,RelV ((absV p.2).getD .non) p.2:=fun p h=>rl ks r p (hp.mem_iff.mp h);clear hp ho
   induction ps with
   | nil=>exact .nil
   | cons p ps ih=>exact .cons (rl2 p List.mem_cons_self) (ih fun q hq=>rl2 q (List.mem_cons_of_mem _ hq))
section
variable {X:Cx}{pins:List (Addr×Obj)}{σ:St}{H:Hp}{s:Shared}
theorem Inv.retrack {a kS:Addr}{ob:Obj}{ks ys:List V}{out:List Value}{c c2:Nat}{h':Heap}(I:Inv X ((a,ob)::pins) σ H s)(hk:H kS=some (.lst ks))(ha0:X.s₀.heap.objs.size≤a)(hp0:∀p∈X.pn++pins,p.1≠a)(hsa:sysModules < a)(hsk:sysModules < kS)
   (keep:∀b o,b≠a→b≠kS→s.heap.get? b=some o→h'.get? b=some o) (ea:h'.get? a=some (seqObj "list" out.toArray c)) (ek:h'.get? kS=some (seqObj "list" #[] c2)) (r:Vals ys out) (hl:ys.length≤sizeLine) :
   Inv X pins σ (upd (upd H kS (.lst [])) a (.lst ys)) { s with heap:=h' }:=by
 obtain⟨ea0,na,neL,nf,nc⟩:=I.pin (a,ob) (List.mem_append_right _ List.mem_cons_self);have nka:kS≠a:=fun z=>by rw [z,na] at hk;cases hk
 have I0:Inv X pins σ H s:=I.pins_of fun p hp=>by
   obtain⟨z1,z2,z3,z4,z5⟩:=I.pin p (List.mem_append_right _ (List.mem_cons_of_mem _ hp));exact⟨z1,z2,z3,z4,z5⟩
 have oth:∀b,b≠a→b≠kS→upd (upd H kS (.lst [])) a (.lst ys) b=H b:=fun b h1 h2=>by rw [a0j h1,a0j h2]
 have ne1:∀b u,H b=some u→(∀z,u≠.lst z)→b≠a∧b≠kS:=fun b u e hu=>⟨(fun z=>by rw [z,na] at e;cases e),(fun z=>by rw [z,hk] at e;cases e;exact hu _ rfl)⟩;refine I0.step (g':=s.gens) (d':=s.drawn) (t':=s.toks) (ch:=[a]) (fun b hb=>?_) (fun b o _ _ hc e n=>?_) (fun b o _ _ hc e n=>⟨o.slots,?_⟩) (fun b o hc e n=>?_) (fun b o hc e=>?_) (fun b xs e=>?_) (fun b o u e=>?_) (fun b ps e=>⟨#[],?_⟩) (fun z=>?_) (fun m hm=>?_) (fun b u e=>?_) I.bare
 · have e:b=a:=by simpa using hb
   subst e;refine⟨.inr ha0,neL,fun x d e z=>?_,hp0⟩;subst z;obtain⟨v,o,ho,hd⟩:=I.cell x _ e;rw [ea0] at ho;cases ho;exact nc _ hd
 · exact keep b o (fun z=>hc (by simp [z])) (fun z=>by rw [z,hk] at n;cases n) e
 · exact keep b o (fun z=>hc (by simp [z])) (fun z=>by rw [z,hk] at n;cases n) e
 · rw [oth b (fun z=>hc (by simp [z])) (fun z=>by rw [z,hk] at n;cases n)];exact n
 · by_cases h2:b=kS
   · exact⟨_,h2▸ek⟩
   · exact⟨o,keep b o (fun z=>hc (by simp [z])) h2 e⟩
 · obtain⟨h1,h2⟩:=ne1 b _ e (fun z q=>by cases q);rw [oth b h1 h2];exact e
 · obtain⟨h1,h2⟩:=ne1 b _ e (fun z q=>by cases q);rw [oth b h1 h2];exact e
 · obtain⟨h1,h2⟩:=ne1 b _ e (fun z q=>by cases q);rw [oth b h1 h2,e];simp
 · unfold NS at z ⊢;rw [oth sysModules (Nat.ne_of_lt hsa) (Nat.ne_of_lt hsk)];exact z
 · obtain⟨o,es,ep,ho,r'⟩:=hm;exact⟨o,es,ep,keep _ o (Ne.symm neL) (fun z=>by have:=I.free;rw [z,hk] at this;cases this) ho,r'⟩
 · by_cases h1:b=a
   · subst h1;rw [a0g] at e;cases e;exact⟨hl,out,c,r,ea⟩
   · rw [a0j h1] at e
     by_cases h2:b=kS
     · subst h2;rw [a0g] at e;cases e;exact⟨Nat.zero_le _,[],c2,.nil,ek⟩
     · rw [a0j h2] at e;refine(I0.hok b u e).stay (fun d v hc q=>keep d v ?_ ?_ q) (fun d q=>?_) fun d xs q=>?_
       · rcases hc with z | z
         · rw [z];exact h1
         · exact(ne1 d _ z (fun z q=>by cases q)).1
       · rcases hc with z | z
         · rw [z];exact h2
         · exact(ne1 d _ z (fun z q=>by cases q)).2
       · obtain⟨z1,z2⟩:=ne1 d _ q (fun z q=>by cases q);rw [oth d z1 z2];exact q
       · obtain⟨z1,z2⟩:=ne1 d _ q (fun z q=>by cases q);rw [oth d z1 z2];exact q
end
end L2
end
section
set_option maxHeartbeats 1000000
namespace L2
open PySem PySem.W PySem.Spec PyProof.Rows
structure a7e (X:Cx)(scope:Scope)(params:Arguments)(body:Expr)(qual x y:Str)(c:Addr)(iy:Nat)(k:Nat)(tb:TE):Prop where
 sc:a2X scope x y
 room:Room k X.A
 cell:X.env.cells.lookup y=some c
 isc:X.env.scope.names.lookup y=some .cell
 nm:X.N[iy]?=some y
 bd:∀(pm ct cd u:Value),bindArgs (kla_fn "<lambda>" qual params body scope [(y,c)] pm cd ct) ⟨[u],[]⟩=pure [(x,u)]
 pe:∀(f c':Addr) (s:Shared) (H:Hp),PE (a8B X scope [x,y] qual f c' [(y,c)] s H) body tb
section
variable {X:Cx}{pins:List (Addr×Obj)}{σ:St}{H:Hp}{s:Shared}{scope:Scope}{params:Arguments}{body:Expr}{qual x y:Str}{c:Addr}{iy k:Nat}{tb:TE}
theorem a7e.val (L:a7e X scope params body qual x y c iy k tb)(I:Inv X pins σ H s){vy:V}(hv:σ[iy]?=some (some vy)):∃uy,RelV vy uy∧s.heap.IsCell c (some uy):=by
 obtain⟨m,hn,hl⟩:=I.loc;obtain⟨u,r,l⟩:=hl iy y vy L.nm hv (.inr (.inl L.isc));refine⟨u,r,?_⟩;rcases l with⟨z,_⟩ | ⟨_,d,e,q⟩
 · have z':X.env.scope.names.lookup y=some .local:=z;rw [L.isc] at z';cases z'
 · rw [L.cell] at e;cases e;exact q
theorem a7e.run (L:a7e X scope params body qual x y c iy k tb)(I:Inv X pins σ H s){vy vx:V}{ux:Value}{f c':Addr}{pm ctv:Value}{Q:VK}{E:Value→Shared→Prop}(hv:σ[iy]?=some (some vy))(rx:RelV vx ux)
   (fo:(f,kla_obj "<lambda>" qual params body scope [(y,c)] pm c' ctv)∈pins) (hcd:H c'=some (a3A c' qual)) (ht:tb [some vx,some vy] H Q) :
   wpAny (model X.prog X.w) X.A.in1.in1 (call (.ref f) [ux]) (EP X pins σ Q) E s:=by
 obtain⟨uy,ry,hc⟩:=L.val I hv;obtain⟨e1,_⟩:=I.pin _ (List.mem_append_right _ fo);obtain⟨e2,_⟩:=(show a0X X.prog X.w H s.heap c' (a3A c' qual) from I.hok c' _ hcd);exact b1T I L.room L.sc hc (I.freeC _ _ L.cell) ry rx e1 e2 (fun u=>L.bd pm ctv (.ref c') u) (L.pe f c' s H) ht
theorem kRest (L:a7e X scope params body qual x y c iy k tb){f c' a kS:Addr}{pm ctv:Value}{vy:V}{xs:List V}{vs:List Value}{e1:Nat}{R:List Int→Hp→Prop}{P:PySem.Fin→Shared→Prop}{E:Value→Shared→Prop}(I:Inv X ((a,seqObj "list" #[] e1)::pins) σ H s)(hv:σ[iy]?=some (some vy))
   (fo:(f,kla_obj "<lambda>" qual params body scope [(y,c)] pm c' ctv)∈pins) (hk:H kS=some (.lst [])) (rv:Vals xs vs) (h64:xs.length < 64) (hka:kS≠a) (ht:a8n tb vy kS c' qual xs [] H R)
   (h:∀s' H3 ks h' out c1 c2,Inv X ((a,seqObj "list" #[] e1)::pins) σ H3 s'→H3 kS=some (.lst (ks.map V.int))→R ks H3→(∀b o,b≠a→b≠kS→s'.heap.get? b=some o→h'.get? b=some o)→h'.get? a=some (seqObj "list" out c1)→
     h'.get? kS=some (seqObj "list" #[] c2)→KskOut false ks vs out.toList→P (.done (.ret .none)) { s' with heap:=h' }) :
   wpAny (model X.prog X.w) X.A.in1.in1 (ksk_rest a (.ref f) false vs.toArray e1 (.ref kS)) P E s:=by
 have lv:xs.length=vs.length:=rv.length;unfold ksk_rest;refine wpAny_bind (wpAny_rule ?_)
 first
   | rw [List.forIn_toArray]
   | (rw [← Array.forIn_toList];simp only [List.toList_toArray])
   | rw [← Array.forIn_toList]
 refine wpAny_bind (ksk_fold (fun i s'=>∃H' ks,Inv X ((a,seqObj "list" #[] e1)::pins) σ H' s'∧H' kS=some (.lst (ks.map V.int))∧ks.length=i∧a8n tb vy kS c' qual (xs.drop i) ks H' R) vs 0 s
   ⟨H,[],I,hk,rfl,by simpa using ht⟩ ?step ?done)
 case step=>
   rintro j u s' hx ⟨H',ks,I',hk',hl,hc⟩;simp only [Nat.zero_add] at hl hc ⊢;have hj:j < vs.length:=(List.getElem?_eq_some_iff.mp hx).1;have hjx:j < xs.length:=by omega
   obtain⟨u2,hu2,ru⟩:=rv.get (List.getElem?_eq_getElem hjx);rw [hx] at hu2;cases hu2;rw [List.drop_eq_getElem_cons hjx] at hc;obtain⟨hcd,hc⟩:=hc;refine wpAny_bind (wpAny_attempt (wpAny_mono (L.run I' hv ru (List.mem_cons_of_mem _ fo) hcd hc (E:=fun _ _=>False)) (fun v s'' he=>?_) fun _ _ hF=>hF.elim));obtain⟨w,H1,I1,rw1,kk,rfl,hk1,hc1⟩:=he;obtain⟨t2,rfl⟩:=rw1
   try dsimp only
   obtain⟨zl,its,n,ri,oi⟩:=(show a0X X.prog X.w H1 s''.heap kS (.lst (ks.map V.int)) from I1.hok kS _ hk1);have li:its.length=ks.length:=by rw [← ri.length,List.length_map]
   have s1:=Heap.SameBut.update s''.heap kS (Obj.mapSeq (·.push (.int kk t2)));obtain⟨c2,hc2⟩:∃c2,(s''.heap.update kS (Obj.mapSeq (·.push (.int kk t2)))).get? kS=some (seqObj "list" (its.toArray.push (.int kk t2)) c2):=⟨_,get?_update_seq oi (·.push (.int kk t2))⟩;refine wpAny_bind (listUpdate_at oi rfl ?_ (by rw [List.size_toArray,li,sizeLine_eq];omega) (Nat.le_trans (Nat.le_of_eq (Array.size_push ..)) (by rw [List.size_toArray,li,sizeLine_eq];omega)));refine wpAny_pure ⟨rfl,upd H1 kS (.lst ((ks++[kk]).map V.int)),ks++[kk],?_,a0g,by rw [List.length_append,hl];rfl,hc1⟩;refine I1.write (t':=s''.toks) (by rw [hk1];trivial) (.inl rfl) (fun b o hb e=>(s1.2 b hb).trans e) ⟨_,hc2⟩ ⟨?_,its++[.int kk t2],c2,?_,?_⟩
   · rw [List.length_map,List.length_append,sizeLine_eq];simp;omega
   · rw [List.map_append];exact ri.append (.cons ⟨t2,rfl⟩ .nil)
   · rw [hc2];simp
 case done=>
   rintro s' ⟨H3,ks,I3,hk3,hl,hc⟩;simp only [Nat.zero_add] at hl hc;rw [List.drop_of_length_le (by omega)] at hc;obtain⟨zl,its,n,ri,oi⟩:=(show a0X X.prog X.w H3 s'.heap kS (.lst (ks.map V.int)) from I3.hok kS _ hk3);obtain⟨ea,_⟩:=I3.pin (a,seqObj "list" #[] e1) (List.mem_append_right _ List.mem_cons_self)
   try dsimp only
   refine wpAny_bind (listItems_at oi rfl ?_);exact kEnd oi ea hka (by simpa using b0l ri) (by omega) (by omega) fun h' out c1 c2 z1 z2 z3 z4=>h s' H3 ks h' out c1 c2 I3 hk3 hc z1 z2 z3 z4
theorem a7W (L:a7e X scope params body qual x y c iy k tb){f c' l:Addr}{pm ctv:Value}{vy:V}{xs:List V}{vs:List Value}{Q:VK}{E:Value→Shared→Prop}(I:Inv X pins σ H s)(hv:σ[iy]?=some (some vy))
   (fo:(f,kla_obj "<lambda>" qual params body scope [(y,c)] pm c' ctv)∈pins) (hl:s.heap.IsList l vs.toArray) (rv:Vals xs vs) (h64:xs.length < 64)
   (h:∀kS a,H kS=none→H a=none→kS≠a→a8n tb vy kS c' qual xs [] (upd H kS (.lst [])) fun ks H3=>H3 a=none→∀ys,KOut ks xs ys→Q (.ref a) (upd (upd H3 kS (.lst [])) a (.lst ys))) :
   wpAny (model X.prog X.w) X.A (call (.builtin "sorted") [.ref l] [(Str.ofString "key",.ref f)]) (EP X pins σ Q) E s:=by
 have lv:xs.length=vs.length:=rv.length;refine call_function_entry_kw kind_sorted plain_sorted entry_sorted (ksk_s1 _ _) ?_;unfold Builtin.«sorted»;refine wpAny_bind (m:=checkCount "sorted" 1 1 _) (wpAny_pure ?_);refine wpAny_bind (collect_list hl ?_ (by rw [sizeLine_eq];omega));refine wpAny_bind (wpAny_newList ?_ (by rw [sizeLine_eq];omega))
 have hsz:((s.heap.push (seqObj "list" #[] 0)).update s.heap.objs.size (Obj.mapSeq (·++vs.toArray))).objs.size=s.heap.objs.size + 1:=by
   rw [Heap.size_update,size_push']
 have hoL:(((s.heap.push (seqObj "list" #[] 0)).update s.heap.objs.size (Obj.mapSeq (·++vs.toArray))).push (seqObj "list" vs.toArray 0)).get? (s.heap.objs.size + 1)=some (seqObj "list" vs.toArray 0):=by
   rw [← hsz];exact Heap.get?_push_size _ rfl
 have keep:∀b o,s.heap.get? b=some o→(((s.heap.push (seqObj "list" #[] 0)).update s.heap.objs.size (Obj.mapSeq (·++vs.toArray))).push (seqObj "list" vs.toArray 0)).get? b=some o:=fun b o q=>by
   have hlt:b < s.heap.objs.size:=Heap.lt_size q;rw [Heap.get?_push_ne _ _ _ (by rw [hsz];exact Nat.ne_of_lt (Nat.lt_succ_of_lt hlt)),Heap.get?_update_ne _ _ _ _ (Nat.ne_of_lt hlt),Heap.get?_push_ne _ _ _ (Nat.ne_of_lt hlt)];exact q
 show wpAny _ _ _ _ _ { s with heap:=((s.heap.push (seqObj "list" #[] 0)).update s.heap.objs.size (Obj.mapSeq (·++vs.toArray))).push (seqObj "list" vs.toArray 0) };rw [hsz];generalize ((s.heap.push (seqObj "list" #[] 0)).update s.heap.objs.size (Obj.mapSeq (·++vs.toArray))).push (seqObj "list" vs.toArray 0)=g1 at hoL keep ⊢;have haS:s.heap.objs.size≤s.heap.objs.size + 1:=Nat.le_succ _;generalize s.heap.objs.size + 1=a at hoL haS ⊢;refine wpAny_bind (wpAny_holding (wpAny_call_entry_kw slot_list_sort ⟨_,hoL,rfl⟩ entry_list_sort ?body (ksk_l1 _ _)))
 case body=>
   show wpAny (model X.prog X.w) X.A.in1.in1 (Builtin.«list.sort» ⟨[.ref a],[(Str.ofString "key",.ref f)]⟩) _ _ _;rw [ksk_t1 f a];have ha:a < g1.objs.size:=Heap.lt_size hoL;have s1:=Heap.SameBut.update g1 a (Obj.mapSeq fun _=>(#[]:Array Value));obtain⟨e1,ho1⟩:∃e1,(g1.update a (Obj.mapSeq fun _=>(#[]:Array Value))).get? a=some (seqObj "list" #[] e1):=⟨_,get?_update_seq hoL fun _=>#[]⟩;have hkS:((g1.update a (Obj.mapSeq fun _=>(#[]:Array Value))).push (seqObj "tuple" vs.toArray 0)).objs.size=g1.objs.size + 1:=by rw [size_push',Heap.size_update]
   unfold ksk_tree;refine wpAny_bind (listItems_at hoL rfl ?_);refine wpAny_bind (listUpdate_at hoL rfl ?_ (by rw [List.size_toArray,sizeLine_eq];omega) (Nat.zero_le _));refine wpAny_bind (seqEpoch_at ho1 rfl ?_);refine wpAny_bind (wpAny_newTuple ?_ (by show vs.length≤_;rw [sizeLine_eq];omega));refine wpAny_bind (wpAny_newList ?_ (Nat.zero_le _));refine wpAny_holding ?_;show wpAny (model X.prog X.w) X.A.in1.in1 _ _ _ { s with heap:=((g1.update a (Obj.mapSeq fun _=>(#[]:Array Value))).push (seqObj "tuple" vs.toArray 0)).push (seqObj "list" #[] 0) };rw [hkS];have oK:(((g1.update a (Obj.mapSeq fun _=>(#[]:Array Value))).push (seqObj "tuple" vs.toArray 0)).push (seqObj "list" #[] 0)).get? (g1.objs.size + 1)=some (seqObj "list" #[] 0):=by rw [← hkS];exact Heap.get?_push_size _ rfl
   have oA:(((g1.update a (Obj.mapSeq fun _=>(#[]:Array Value))).push (seqObj "tuple" vs.toArray 0)).push (seqObj "list" #[] 0)).get? a=some (seqObj "list" #[] e1):=Heap.get?_push_of_some _ (Heap.get?_push_of_some _ ho1)
   have kp:∀b o,s.heap.get? b=some o→(((g1.update a (Obj.mapSeq fun _=>(#[]:Array Value))).push (seqObj "tuple" vs.toArray 0)).push (seqObj "list" #[] 0)).get? b=some o:=fun b o q=>
     Heap.get?_push_of_some _ (Heap.get?_push_of_some _ ((s1.2 b (Nat.ne_of_lt (Nat.lt_of_lt_of_le (Heap.lt_size q) haS))).trans (keep b o q)))
   generalize ((g1.update a (Obj.mapSeq fun _=>(#[]:Array Value))).push (seqObj "tuple" vs.toArray 0)).push (seqObj "list" #[] 0)=g3 at oK oA kp ⊢;have hkS2:s.heap.objs.size≤g1.objs.size + 1:=Nat.le_trans haS (Nat.le_of_lt (Nat.lt_succ_of_lt ha));have hka:g1.objs.size + 1≠a:=Nat.ne_of_gt (Nat.lt_succ_of_lt ha);generalize g1.objs.size + 1=kS at oK hkS2 hka ⊢;have nk:H kS=none:=I.hok.fresh hkS2;have na:H a=none:=I.hok.fresh haS;have I5:Inv X pins σ (upd H kS (.lst [])) { s with heap:=g3 }:=I.laid (t':=s.toks) kp hkS2 ⟨Nat.zero_le _,[],0,.nil,oK⟩;have aL:a≠X.env.locals:=Nat.ne_of_gt (Nat.lt_of_lt_of_le I.lt haS);have aF:a∉X.fs:=I.nofs haS
   have I6:Inv X ((a,seqObj "list" #[] e1)::pins) σ (upd H kS (.lst [])) { s with heap:=g3 }:=I5.pins_of fun p hp=>by
     rcases List.mem_cons.mp hp with rfl | hp
     · exact⟨oA,by rw [a0j hka.symm];exact na,aL,aF,fun v z=>by cases z⟩
     · exact I5.pin p (List.mem_append_right _ hp)
   refine kRest L I6 hv fo a0g rv h64 hka (h kS a nk na hka) fun s' H3 ks h' out c1 c2 I3 hk3 hR z1 z2 z3 z4=>⟨_,rfl,?_⟩;obtain⟨ys,ko,ry⟩:=b3Z rv z4;have hn3:H3 a=none:=(I3.pin (a,seqObj "list" #[] e1) (List.mem_append_right _ List.mem_cons_self)).2.1
   have ly:ys.length≤sizeLine:=by
     obtain⟨ps,hp,rfl,_⟩:=ko;rw [List.length_map,hp.length_eq,List.length_zip,sizeLine_eq];omega
   refine wpAny_pure ⟨_,rfl,.ref a,_,I3.retrack hk3 (Nat.le_trans I.sz haS) (fun p hp=>?_) (Nat.lt_of_lt_of_le I.bigS haS) (Nat.lt_of_lt_of_le I.bigS hkS2) z1 (out:=out.toList) (by simpa using z2) z3 ry ly,rfl,hR hn3 ys ko⟩;exact Nat.ne_of_lt (Nat.lt_of_lt_of_le (Heap.lt_size (I.pin p hp).1) haS)
end
end L2
end
section
set_option maxHeartbeats 1000000
namespace L2
open PySem PySem.W PySem.Spec PyProof.Rows
theorem a6a {h h':Heap}{c':Addr}{q:Str}(x:h.CodeRec (.ref c') q)(k:∀o,h.get? c'=some o→h'.get? c'=some o):h'.CodeRec (.ref c') q:=by
 obtain⟨c,oc,vs,t,e,h1,h2,h3⟩:=x;cases e;exact⟨_,oc,vs,t,rfl,k _ h1,h2,h3⟩
theorem b2m {P:Program}{w:World}{H:Hp}{h:Heap}{c':Addr}{q:Str}(x:h.CodeRec (.ref c') q):a0X P w H h c' (a3A c' q):=by
 refine⟨x,?_,fun h1 h2 y k=>a6a y k⟩;obtain⟨c,oc,vs,t,e,h1,_⟩:=x;cases e;exact⟨oc,h1⟩
section
variable {X:Cx}{pins:List (Addr×Obj)}{σ:St}{H:Hp}{s:Shared}
theorem Inv.grow {Pt c':Addr}{ps more:Array Value}{qual:Str}{h':Heap}{t':Nat}(I:Inv X pins σ H s)(hP:H Pt=some (.tbl ps))(hx:Heap.ExtBut Pt s.heap h')(hge:s.heap.objs.size≤c')(hrec:h'.CodeRec (.ref c') qual)(htb:h'.get? Pt=some (tabObj (ps++more))) :
   Inv X pins σ (upd (upd H c' (a3A c' qual)) Pt (.tbl (ps++more))) { s with heap:=h',toks:=t' }:=by
 have nc:H c'=none:=I.hok.fresh hge;have oth:∀b,b≠Pt→b≠c'→upd (upd H c' (a3A c' qual)) Pt (.tbl (ps++more)) b=H b:=fun b h1 h2=>by rw [a0j h1,a0j h2]
 have ne1:∀b u,H b=some u→(∀z,u≠.tbl z)→b≠Pt∧b≠c':=fun b u e hu=>⟨(fun z=>by rw [z,hP] at e;cases e;exact hu _ rfl),(fun z=>by rw [z,nc] at e;cases e)⟩;have ne2:∀b o,s.heap.get? b=some o→H b=none→b≠Pt∧b≠c':=fun b o e n=>⟨(fun z=>by rw [z,hP] at n;cases n),Nat.ne_of_lt (Nat.lt_of_lt_of_le (Heap.lt_size e) hge)⟩;refine I.un ⟨fun b o e n _ _=>hx b o (ne2 b o e n).1 e,fun b o e n _ _=>⟨o.slots,hx b o (ne2 b o e n).1 e⟩,fun b o e n _=>?_,fun b o e _=>?_,fun b xs e=>?_,fun b o u e=>?_,fun b qs e=>?_,fun z=>?_⟩ (fun b u e=>?_)
 · obtain⟨h1,h2⟩:=ne2 b o e n;rw [oth b h1 h2];exact n
 · by_cases hb:b=Pt
   · exact⟨_,hb▸htb⟩
   · exact⟨o,hx b o hb e⟩
 · obtain⟨h1,h2⟩:=ne1 b _ e (fun z q=>by cases q);rw [oth b h1 h2];exact e
 · obtain⟨h1,h2⟩:=ne1 b _ e (fun z q=>by cases q);rw [oth b h1 h2];exact e
 · by_cases hb:b=Pt
   · subst hb;rw [hP] at e;cases e;exact⟨more,a0g⟩
   · have h2:b≠c':=fun z=>by rw [z,nc] at e;cases e
     exact⟨#[],by rw [oth b hb h2,e];simp⟩
 · have h2:sysModules≠c':=Nat.ne_of_lt (Nat.lt_of_lt_of_le I.bigS hge)
   have h1:sysModules≠Pt:=fun q=>by
     unfold NS at z;rw [q,hP] at z;rcases z with z | ⟨_,_,z⟩ <;> cases z
   unfold NS at z ⊢;rw [oth _ h1 h2];exact z
 · by_cases h1:b=Pt
   · subst h1;rw [a0g] at e;cases e;exact htb
   · rw [a0j h1] at e
     by_cases h2:b=c'
     · subst h2;rw [a0g] at e;cases e;exact b2m hrec
     · rw [a0j h2] at e;refine(I.hok b u e).stay (fun d v hc q=>hx d v ?_ q) (fun d q=>?_) fun d xs q=>?_
       · rcases hc with z | z
         · rw [z];exact h1
         · exact(ne1 d _ z (fun z q=>by cases q)).1
       · obtain⟨z1,z2⟩:=ne1 d _ q (fun z q=>by cases q);rw [oth d z1 z2];exact q
       · obtain⟨z1,z2⟩:=ne1 d _ q (fun z q=>by cases q);rw [oth d z1 z2];exact q
end
def a7k (qual:Str)(tb:TE)(vy:V)(xs:List V)(Q:VK)(c':Addr)(H2:Hp):Prop:=∀kS a,H2 kS=none→H2 a=none→kS≠a→a8n tb vy kS c' qual xs [] (upd H2 kS (.lst [])) fun ks H3=>H3 a=none→∀ys,KOut ks xs ys→Q (.ref a) (upd (upd H3 kS (.lst [])) a (.lst ys))
def b2t (K:Frag)(Pt:Addr)(lpos:Pos)(qual:Str)(iy:Nat)(te tb:TE):TE:=fun σ H Q=>te σ H fun x H1=>∃a xs vy ps,x=.ref a∧SqL K H1 a xs∧xs.length < 64∧σ[iy]?=some (some vy)∧H1 Pt=some (.tbl ps)∧TriplesOk ps.toList∧
 ((codeAmong lpos ps.toList=none∧∀c',H1 c'=none→a7k qual tb vy xs Q c' (upd (upd H1 c' (a3A c' qual)) Pt (.tbl (ps++#[rawInt lpos.line,rawInt lpos.col,.ref c']))))∨∃c',codeAmong lpos ps.toList=some (.ref c')∧H1 c'=some (a3A c' qual)∧a7k qual tb vy xs Q c' H1)
section
variable {X:Cx}{scope:Scope}{params:Arguments}{body:Expr}{qual x y:Str}{c cd Pt:Addr}{iy k:Nat}{tb te:TE}{e:Expr}{p pos kpos lpos:Pos}
theorem a8g (L:a7e X scope params body qual x y c iy k tb)(hq:X.env.qual++"<lambda>"=qual)(hcl:closureFor scope X.env=pure [(y,c)])(hcode:X.env.code=.ref cd)(C:CodeHd X.base cd Pt)(hB:X.base.BuiltinsAt X.mg Pt)(hg:Gl X "sorted")(hm:X.mg "sorted"=none)
   (he:PE X e te) (hs:starEach [e] X.env=[(false,eval e X.env)]) (hdef:defaultsOf params X.env=([],[])) :
   PE X (.Call (.Name "sorted" p) [e] [⟨some "key",.Lambda params body scope lpos,kpos⟩] pos) (b2t X.K Pt lpos qual iy te tb):=by
 intro pins s σ H Q I h;refine wpAny_Call_Name_kw (a4i I hg hm a6e ?_);refine callWith_kw ?_ (by rw [hs];rfl) (by rw [hs];rfl);rw [hs];show wpAny _ _ (spliced ((false,eval e X.env)::[])) _ _ s;refine Calls.spliced_cons (thn (he pins s σ H _ I h) fun u s1 ⟨x',H1,I1,r1,q1⟩=>?_);refine Calls.spliced_nil ?_;obtain⟨a,xs,vy,ps,rfl,hS,h64,hv,hP,ht,hR⟩:=q1;obtain rfl:u=.ref a:=r1;obtain⟨its,rv,⟨ol,nl,ho,hcl',hdl,hsl⟩,_⟩:=I1.list hS;have eP:s1.heap.get? Pt=some (tabObj ps):=I1.hok Pt _ hP;have aP:a≠Pt:=fun z=>by rw [z,eP] at ho;cases ho;cases hcl'
 have C1:CodeHd s1.heap cd Pt:=C.keeps fun b o q=>I1.bk b o q
 have B1:s1.heap.BuiltinsAt X.mg Pt:=by
   obtain⟨bm,o,z1,z2,z3,z4,z5,z6⟩:=hB;exact⟨bm,o,z1,z2,z3,z4,I1.bk _ _ z5,z6⟩
 have gP:mainGlobals≠Pt:=fun q=>by
   obtain⟨o,es,ep,e,hd,_⟩:=I1.mod.glob.keeps I1.bk;rw [q,eP] at e;cases e;cases hd
 refine kws_cons (kla_eval hdef ?_);rw [hq]
 -- behind the making
 have fin:∀(c':Addr) (ctv:Value) (h':Heap) (tk:Nat) (H2:Hp),Inv X pins σ H2 { s1 with heap:=h',toks:=tk }→h'.IsList a its.toArray→a7k qual tb vy xs Q c' H2→
     wpAny (model X.prog X.w) X.A (evalAll ((backToKw pos (keywordEach [] X.env)).map (·.2))) (fun vs s2=>wpAny (model X.prog X.w) X.A (call (.builtin "sorted") [.ref a] (((backToKw pos (keywordEach [⟨some "key",.Lambda params body scope lpos,kpos⟩] X.env)).filterMap (·.1)).zip (.ref h'.objs.size::vs))) (EP X pins σ Q) X.xe s2) X.xe
       { s1 with heap:=h'.push (kla_obj "<lambda>" qual params body scope [(y,c)] ((X.mg "__name__").getD .none) c' ctv),toks:=tk }:=by
   intro c' ctv h' tk H2 I2 hl hR;refine kws_nil ?_;show wpAny (model X.prog X.w) X.A (call (.builtin "sorted") [.ref a] [(Str.ofString "key",.ref h'.objs.size)]) (EP X pins σ Q) X.xe _;have I3:Inv X pins σ H2 { s1 with heap:=h'.push (kla_obj "<lambda>" qual params body scope [(y,c)] ((X.mg "__name__").getD .none) c' ctv),toks:=tk }:=I2.kept (t':=tk) fun b o q=>Heap.get?_push_of_some _ q
   have I4:Inv X ((h'.objs.size,kla_obj "<lambda>" qual params body scope [(y,c)] ((X.mg "__name__").getD .none) c' ctv)::pins) σ H2 { s1 with heap:=h'.push (kla_obj "<lambda>" qual params body scope [(y,c)] ((X.mg "__name__").getD .none) c' ctv),toks:=tk }:=I3.pins_of fun q hq=>by
     rcases List.mem_cons.mp hq with rfl | hq
     · exact⟨Heap.get?_push_size _ rfl,I2.hok.fresh (Nat.le_refl _),Nat.ne_of_gt I2.lt,I2.nofs (Nat.le_refl _),fun v z=>by cases z⟩
     · exact I3.pin q (List.mem_append_right _ hq)
   refine thn (a7W L I4 hv List.mem_cons_self (let ⟨o9,z1,z2⟩:=hl;⟨o9,Heap.get?_push_of_some _ z1,z2⟩) rv h64 hR) fun v s2 h2=>?_;obtain⟨v',H5,I5,r5,q5⟩:=h2;exact⟨v',H5,I5.pins_of fun q hq=>I5.pin q (List.mem_append_right _ (List.mem_cons_of_mem _ hq)),r5,q5⟩
 rcases hR with⟨hnf,hR⟩ | ⟨c',hf,hc',hR⟩
 · refine kla_makeFunction (mg:=X.mg) hcl I1.ok.glob (I1.mod.glob.keeps I1.bk) hcode C1 eP ht hnf gP B1 fun c' ctv h' tk hx hge hlt hrec htb=>?_;exact fin c' ctv h' tk _ (I1.grow hP hx hge hrec htb) ⟨ol,hx _ _ aP ho,hcl',nl,hsl⟩ (hR c' (I1.hok.fresh hge))
 · refine kla_makeFunctionHit (mg:=X.mg) hcl I1.ok.glob (I1.mod.glob.keeps I1.bk) hcode C1 eP ht hf B1 fun ctv h' tk hk hsz=>?_;exact fin c' ctv h' tk _ (I1.kept (t':=tk) hk) ⟨ol,hk _ _ ho,hcl',nl,hsl⟩ hR
end
end L2
end
section
set_option maxHeartbeats 1000000
namespace L2
open PySem PySem.Spec PyProof.Rows
def insL {α:Type}(xs:List α)(k:Nat)(y:α):List α:=xs.take k++y::xs.drop k
theorem b2a {α:Type}(xs:List α)(k:Nat)(y:α):(insL xs k y).length=xs.length + 1:=by
 unfold insL;rw [List.length_append,List.length_cons,List.length_take,List.length_drop];omega
section
variable {X:Cx}
def a9e:V→List V→Hp→VK→Prop:=fun x vs H Q=>∃l xs i y,x=.ref l∧vs=[.int i,y]∧H l=some (.lst xs)∧0≤i∧i≤1000000∧xs.length < sizeLine∧Q .non (upd H l (.lst (insL xs i.toNat y)))
theorem b4c {its:List Value}{i:Int}{u:Value}(h0:0≤i):(have k:=if i < 0 then(i + ((its.toArray.size:Nat):Int)).toNat else min i.toNat its.toArray.size;(its.toArray.extract 0 k).push u++its.toArray.extract k)=(insL its i.toNat u).toArray:=by
 have e:(if i < 0 then(i + ((its.toArray.size:Nat):Int)).toNat else min i.toNat its.toArray.size)=min i.toNat its.length:=by
   rw [if_neg (by omega)];simp
 show(its.toArray.extract 0 (if i < 0 then(i + ((its.toArray.size:Nat):Int)).toNat else min i.toNat its.toArray.size)).push u++its.toArray.extract (if i < 0 then(i + ((its.toArray.size:Nat):Int)).toNat else min i.toNat its.toArray.size)=_;rw [e];unfold insL;rcases Nat.le_total i.toNat its.length with h | h
 · rw [Nat.min_eq_left h];simp;exact List.take_of_length_le (by rw [List.length_drop];exact Nat.le_refl _)
 · rw [Nat.min_eq_right h,List.take_of_length_le h,List.drop_of_length_le h];simp
theorem a9L:MtM X "list.insert" a9e:=by
 intro pins s σ H x vs v us Q I rx rv h;obtain⟨l,xs,i,y,rfl,rfl,hH,h0,h1,hz,q⟩:=h;cases rx;cases rv with
 | cons ri rv =>
   obtain⟨t,rfl⟩:=ri;obtain⟨u,rfl,ru⟩:=Vals.one rv;obtain⟨z,its,n,r,hl,e⟩:=I.lstM hH
   have hf:¬(!Builtin.List.listFitsIndex i)=true:=by
     simp only [Builtin.List.listFitsIndex];simp;omega
   refine call_meets F.slot_list_insert ⟨_,e,rfl⟩ F.entry_list_insert (F.args_list_insert_3 _ _ _) (PySem.AutoSeq1.list_insert_list_int_val_1 l its.toArray n i t u hf (by rw [List.size_toArray];omega)) ⟨e,?_⟩;refine⟨.non,_,I.lset (its':=insL its i.toNat u) hH e (b4c h0) ?_ ?_,rfl,q⟩
   · exact(r.take i.toNat).append (.cons ru (r.drop i.toNat))
   · rw [b2a];omega
end
end L2
namespace Pu
open PySem PySem.Spec L2
section
variable {T:PotK}{ι:Type}{K:PySem.W.Frag}{F:ι→Cx}{e ei:Expr}{pe pi:pE}{pos:Pos}
def a5d (i:Nat)(pi pe:pE):pE:=fun env n R=>(∃xs,env[i]?=some (some (.ow .lst xs)))∧pi env n fun j env1 n1=>pe env1 n1 fun y env2 n2=>match env2[i]?,j with | some (some (.ow .lst xs)),.int j=>(0≤j∧j≤1000000∧xs.length < 1000000)∧R .non (env2.set i (some (.ow .lst (insL xs j.toNat y)))) n2 | _,_=>False
theorem a5G (i:Nat){x:Str}{p ap:Pos}(hv:∀z,EW (F z) (.Name x p) (tVar i))(hi:QE T K F ei pi)(he:QE T K F e pe)(hs1:a0C ei=true:=by rfl)(hs:a0C e=true:=by rfl)(hbase:∀z,attributeBase (.Name x p) "insert" (F z).env (eval (.Name x p) (F z).env)=eval (.Name x p) (F z).env:=by intro _;rfl)(hline:(ap.endLine == pos.line)=true:=by rfl)
   (hfew:∀z,((backTo pos (starEach [ei,e] (F z).env)).all (fun x=>!x.1) && (backToKw pos (keywordEach [] (F z).env)).all (fun x=>x.1.isSome) && decide (([ei,e]:List Expr).length + ([]:List Keyword).length + (if([]:List Keyword).isEmpty then 0 else 1) < 30))=true:=by intro _;rfl)
   (hplain:∀z,(backTo pos (starEach [e] (F z).env)).any (·.1)=false:=by intro _;rfl) (hK:∀z,(F z).K=K:=by intro _;rfl):QE T K F (.Call (.Attribute (.Name x p) "insert" ap) [ei,e] [] pos) (a5d i pi pe):=by
 obtain⟨ti,i1,i2⟩:=hi;obtain⟨t,a1,a2⟩:=he;refine⟨tBM K "list" a9e (tVar i) (a3L ti (a3L t tNil)),fun z=>hK z▸b1H PySem.F.plainAttrs_list PySem.F.slot_list_insert PySem.F.type_list_insert a9L (hv z).h (a0r (i1 z) (a0r (a1 z) a0K (a0e hs)) (a0e hs1)) (hbase z) (hfew z) hline (a0e hs1) (hplain z),fun C G σ H env n R Q hK hT S hp k=>?_⟩;obtain⟨⟨xs0,e0⟩,hp⟩:=hp;obtain⟨a,vs,ev,h1,h2,h3,h4,r⟩:=S.slots i _ e0;refine⟨.ref a,ev,.inl ⟨rfl,vs,SqL.of h4⟩,?_⟩;refine i2 C G σ H env n _ _ hK hT S hp fun j env1 n1 v H1 q1 S1 r1 f1=>?_;refine a2 C G σ H1 env1 n1 _ _ hK hT S1 q1 fun y env2 n2 u H2 q2 S2 r2 f2=>?_
 split at q2
 · rename_i xs j' ex;obtain⟨a',us,ev',g1,g2,g3,g4,r'⟩:=S2.slots i _ ex;rw [ev] at ev';cases ev';subst hK;obtain⟨S3,f3⟩:=S2.put ex ev ((r'.take j'.toNat).append (xs:=xs.take j'.toNat) (ys:=y::xs.drop j'.toNat) (us:=u::us.drop j'.toNat) ⟨u,_,rfl,r2,r'.drop j'.toNat⟩);exact⟨a,us,j',u,rfl,by rw [show v=.int j' from r1],g4,q2.1.1,q2.1.2.1,by rw [← r'.length];exact mil' (by omega),k _ _ _ _ _ q2.2 S3 rfl ((f1.trans f2).trans f3)⟩
 · exact q2.elim
end
end Pu
end
section
set_option maxHeartbeats 1000000
namespace Pu
open PySem PySem.Spec L2
def dPot (c:Addr)(at_ left seed:Int):List (Key×V):=[(Sum.inr (Str.ofString "cells"),.ref c),(Sum.inr (Str.ofString "at"),.int at_),(Sum.inr (Str.ofString "left"),.int left),(Sum.inr (Str.ofString "seed"),.int seed)]
theorem a1b {a b:String}(h:a≠b)(e:(Str.ofString a == Str.ofString b)=false:=by decide):¬((Sum.inr (Str.ofString a):Key)=Sum.inr (Str.ofString b)):=fun z=>by
 have:=Sum.inr.inj z;rw [this] at e;simp at e
theorem a8A {c:Addr}{a l s:Int}:valV (dPot c a l s) (Sum.inr (Str.ofString "cells"):Key)=some (.ref c):=a1I rfl
theorem b4p {c:Addr}{a l s:Int}:valV (dPot c a l s) (Sum.inr (Str.ofString "at"):Key)=some (.int a):=by
 unfold dPot;rw [a1j (a1b (by decide)),a1I rfl]
theorem b0w {c:Addr}{a l s:Int}:valV (dPot c a l s) (Sum.inr (Str.ofString "left"):Key)=some (.int l):=by
 unfold dPot;rw [a1j (a1b (by decide)),a1j (a1b (by decide)),a1I rfl]
theorem b0v {c:Addr}{a l s:Int}:valV (dPot c a l s) (Sum.inr (Str.ofString "seed"):Key)=some (.int s):=by
 unfold dPot;rw [a1j (a1b (by decide)),a1j (a1b (by decide)),a1j (a1b (by decide)),a1I rfl]
theorem a6U {kvs:List (Key×V)}{k:Key}{v:V}(h:(kvs.any fun kv=>decide (kv.1=k))=true):putK kvs k v=kvs.map (fun kv=>if kv.1=k then(kv.1,v) else kv):=by unfold putK;rw [if_pos h]
theorem b4m {c:Addr}{a l s x:Int}:putK (dPot c a l s) (Sum.inr (Str.ofString "at"):Key) (.int x)=dPot c x l s:=by
 rw [a6U (by unfold dPot;simp)];unfold dPot;simp only [List.map_cons,List.map_nil];rw [if_neg (a1b (by decide)),if_pos trivial,if_neg (a1b (by decide)),if_neg (a1b (by decide))]
theorem b0u {c:Addr}{a l s x:Int}:putK (dPot c a l s) (Sum.inr (Str.ofString "left"):Key) (.int x)=dPot c a x s:=by
 rw [a6U (by unfold dPot;simp)];unfold dPot;simp only [List.map_cons,List.map_nil];rw [if_neg (a1b (by decide)),if_neg (a1b (by decide)),if_pos trivial,if_neg (a1b (by decide))]
theorem b0t {c:Addr}{a l s x:Int}:putK (dPot c a l s) (Sum.inr (Str.ofString "seed"):Key) (.int x)=dPot c a l x:=by
 rw [a6U (by unfold dPot;simp)];unfold dPot;simp only [List.map_cons,List.map_nil];rw [if_neg (a1b (by decide)),if_neg (a1b (by decide)),if_neg (a1b (by decide)),if_pos trivial]
structure a6l (cells:List Int)(at_ left seed:Int):Prop where
 c63:cells.length≤63
 a0:0≤at_
 l0:0≤left
 s0:0≤seed
 s1:seed < 2 ^ 62
def DPotAt (M:List Addr)(H:Hp)(p:Addr):Prop:=∃(c:Addr) (cells:List Int) (at_ left seed:Int),H p=some (.dK (dPot c at_ left seed))∧c∉M∧H c=some (.lst (cells.map V.int))∧a6l cells at_ left seed
def potD:PotK where
 at_:=fun M H p _=>DPotAt M H p
 mono:=fun h _=>h
 keep:=fun⟨c,cells,a,l,s,h1,h2,h3,h4⟩ e k=>⟨c,cells,a,l,s,e.trans h1,h2,k c _ h2 h3,h4⟩
 more:=fun⟨c,cells,a,l,s,h1,h2,h3,h4⟩ k=>⟨c,cells,a,l,s,h1,fun z=>(k c z).elim h2 fun z=>(by rw [z] at h3;cases h3),h3,h4⟩
 mu:=fun⟨c,cells,a,l,s,h1,h2,h3,h4⟩=>⟨_,h1,trivial⟩
section
variable {P:Program}{w:World}{K:PySem.W.Frag}{mg:Str→Option Value}{base:Heap}
def spNext:Sp:=fun vs H Q _=>∃(p c:Addr) (cells:List Int) (at_ left seed many:Int),vs=[.ref p,.int many]∧H p=some (.dK (dPot c at_ left seed))∧H c=some (.lst (cells.map V.int))∧a6l cells at_ left seed∧0 < many∧many < 1000000∧
 ∀d at' left' seed',0≤d→d < many→a6l cells at' left' seed'→Q (.int d) (upd H p (.dK (dPot c at' left' seed')))
theorem a9J {x:Str}{k:Nat}{ps:List Str}(G:Kn P w K mg base x k ps spNext):Kn P w K mg base x k ps (a0l K potD b0O):=G.imp fun vs H Q E h=>by
 obtain⟨G,xs,n,R,hp,hm,_,r,hf,k⟩:=h;unfold b0O at hf
 split at hf
 · rename_i kk m;obtain⟨v,rr,rfl,rv,u,r2,rfl,ru,rfl⟩:=r;obtain⟨p,ep,rfl⟩:=rv;obtain rfl:u=.int m:=ru;have pin:p∈G.pots:=List.mem_of_getElem? ep;obtain⟨pM,c,cells,a,l,s,e,hc,ec,ok⟩:=hp p pin;refine⟨p,c,cells,a,l,s,m,rfl,e,ec,ok,hf.1.1,hf.1.2.1,fun d a' l' s' d0 d1 ok'=>?_⟩;refine k _ _ _ _ (hf.2 d d0 d1) rfl (fun q hq=>?_) fun b o hb eb=>?_
   · by_cases hqp:q=p
     · subst hqp;exact⟨c,cells,a',l',s',a0g,hc,by rw [a0j fun z=>hc (by rw [z];exact pM)];exact ec,ok'⟩
     · obtain⟨_,c2,cells2,a2,l2,s2,e2,hc2,ec2,ok2⟩:=hp q hq;exact⟨c2,cells2,a2,l2,s2,by rw [a0j hqp];exact e2,hc2,by rw [a0j fun z=>hc2 (by rw [z];exact pM)];exact ec2,ok2⟩
   · rw [a0j (fun z=>hb (by rw [z];exact pin))];exact eb
 · exact hf.elim
def a3D (K:PySem.W.Frag):Sp:=fun vs H Q _=>∃(a:Addr) (ns:List Int),vs=[.ref a]∧SqL K H a (ns.map V.int)∧ns.length≤63∧
 ∀(H':Hp) (p c:Addr) (cells:List Int) (at_ left seed:Int),Same H H'→H p=none→H c=none→H' p=some (.dK (dPot c at_ left seed))→H' c=some (.lst (cells.map V.int))→a6l cells at_ left seed→Q (.ref p) H'
end
section
variable {ι:Type}{K:PySem.W.Frag}{F:ι→Cx}{e:Expr}{es:List Expr}{st:Stmt}{pos:Pos}{pl:pA}{pe pa pb:pE}
theorem SR.potG {C:Ct}{G:Gh}{σ:St}{H H':Hp}{env:Env}{n:Nat}(S:SR C G σ H env n)(hn:C.np=true){p:Addr}{ob:HO}(mo:MutO ob)(h:H p=none)(sm:Same H H')(h':H' p=some ob)(ok:C.T.at_ (p::G.M) H' p n) :
   SR C ⟨p::G.M,G.pots++[p]⟩ σ H' env n:=by
 have hM:∀a∈p::G.M,a∈G.M∨H a=none:=fun a ha=>(List.mem_cons.mp ha).elim (fun z=>.inr (z▸h)) .inl
 have hp:∀(k:Nat) (q:Addr),G.pots[k]?=some q→(G.pots++[p])[k]?=some q:=fun k q e=>by
   obtain⟨hk,_⟩:=List.getElem?_eq_some_iff.mp e;rw [List.getElem?_append_left hk];exact e
 have mm:∀{x:PV} {v:V},Rep C.K G H x v→Rep C.K ⟨p::G.M,G.pots++[p]⟩ H' x v:=fun r=>Rep.mono (G':=⟨p::G.M,G.pots++[p]⟩) (fun b o _ e=>sm b o e) hM hp _ _ r;have mms:∀{x:List PV} {v:List V},Reps C.K G H x v→Reps C.K ⟨p::G.M,G.pots++[p]⟩ H' x v:=fun r=>Reps.mono (G':=⟨p::G.M,G.pots++[p]⟩) (fun b o _ e=>sm b o e) hM hp _ _ r;have pM:=S.fresh h
 exact {
   frame:=fun b o hb e=>sm b o (S.frame b o hb e)
   sub:=fun a ha=>(List.mem_cons.mp ha).elim (fun z=>.inr (z▸S.old h)) (S.sub a)
   sup:=fun a ha=>List.mem_cons_of_mem _ (S.sup a ha)
   pots:=fun q hq=>by
     rcases List.mem_append.mp hq with z | z
     · refine⟨List.mem_cons_of_mem _ (S.pots q z).1,?_⟩;have h1:=C.T.more (M':=p::G.M) (S.pots q z).2 hM;obtain⟨o,e,_⟩:=C.T.mu h1;exact C.T.keep h1 (by rw [e,sm q o e]) fun b o _ e=>sm b o e
     · rw [List.mem_singleton.mp z];exact⟨List.mem_cons_self,ok⟩
   pre:=by
     obtain⟨l,el,_⟩:=S.pre;exact⟨l++[p],by show G.pots++[p]=_;rw [el,List.append_assoc],.inr hn⟩
   mu:=fun a ha=>by
     rcases List.mem_cons.mp ha with rfl | ha
     · exact⟨ob,h',mo⟩
     · obtain⟨o,e,m⟩:=S.mu a ha;exact⟨o,sm a o e,m⟩
   slots:=fun i s e=>by
     cases s with
     | v x =>
       obtain⟨v,ev,r⟩:=S.slots i _ e;exact⟨v,ev,mm r⟩
     | ow kk xs =>
       obtain⟨b,us,ev,h1,h2,h3,h4,r⟩:=S.slots i _ e;refine⟨b,us,ev,List.mem_cons_of_mem _ h1,h2,fun z=>?_,sm _ _ h4,mms r⟩;rcases List.mem_append.mp z with z | z
       · exact h3 z
       · rw [List.mem_singleton.mp z] at h1;exact pM h1
   inj:=S.inj
   p0:=⟨S.p0.1,C.T.hasM S.p0.2 fun z=>pM (S.pots p z).1⟩
   len:=S.len
   newp:=fun q hq hn' hM=>by
     rcases List.mem_append.mp hq with z | z
     · exact S.newp q z hn' hM
     · rw [List.mem_singleton.mp z] at hM
       exact pM (S.sup p hM) }
end
end Pu
end
section
set_option maxHeartbeats 1000000
namespace Pu
open PySem PySem.W PySem.Spec L2
def TabG (lpos:Pos)(qual:Str)(M:List Addr)(H:Hp)(ps:Array Value):Prop:=TriplesOk ps.toList∧(codeAmong lpos ps.toList=none∨∃c',codeAmong lpos ps.toList=some (.ref c')∧c'∉M∧H c'=some (a3A c' qual))
def tabK (T:PotK)(Pt:Addr)(lpos:Pos)(qual:Str):PotK where
 at_:=fun M H p n=>(p≠Pt∧T.at_ M H p n)∨(p=Pt∧∃ps,H Pt=some (.tbl ps)∧TabG lpos qual M H ps)
 mono:=fun h hl=>h.imp (fun z=>⟨z.1,T.mono z.2 hl⟩) id
 keep:=fun h e k=>by
   rcases h with⟨h1,h2⟩ | ⟨rfl,ps,h2,h3,h4⟩
   · exact .inl ⟨h1,T.keep h2 e k⟩
   · refine .inr ⟨rfl,ps,e.trans h2,h3,h4.imp id ?_⟩;rintro⟨c',z1,z2,z3⟩;exact⟨c',z1,z2,k _ _ z2 z3⟩
 more:=fun h k=>by
   rcases h with⟨h1,h2⟩ | ⟨rfl,ps,h2,h3,h4⟩
   · exact .inl ⟨h1,T.more h2 k⟩
   · refine .inr ⟨rfl,ps,h2,h3,h4.imp id ?_⟩;rintro⟨c',z1,z2,z3⟩;exact⟨c',z1,(fun z=>(k c' z).elim z2 (fun q=>by rw [q] at z3;cases z3)),z3⟩
 mu:=fun h=>by
   rcases h with⟨h1,h2⟩ | ⟨rfl,ps,h2,_⟩
   · exact T.mu h2
   · exact⟨_,h2,trivial⟩
 has:=fun l=>∃l',l=Pt::l'∧Pt∉l'
 hasM:=fun {l p} h hp=>by
   obtain⟨l',rfl,h2⟩:=h;refine⟨l'++[p],rfl,fun z=>?_⟩;rcases List.mem_append.mp z with z | z
   · exact h2 z
   · exact hp (by rw [← List.mem_singleton.mp z];exact List.mem_cons_self)
def a3y:pF:=fun xs n R=>match xs with | [.pot (_ + 1),.int m]=>(0 < m∧m < 1000000∧n < 1000000000)∧∀d:Int,0≤d→d < m→R (.int d) (n + 1) | _=>False
section
variable {P:Program}{w:World}{K:PySem.W.Frag}{mg:Str→Option Value}{base:Heap}{T:PotK}{Pt:Addr}{lpos:Pos}{qual:Str}
theorem b2f {x:Str}{k:Nat}{ps:List Str}(G:Kn P w K mg base x k ps (a0l K T b0O))(hT:T.has=fun _=>True):Kn P w K mg base x k ps (a0l K (tabK T Pt lpos qual) a3y):=G.imp fun vs H Q E h=>by
 obtain⟨G,xs,n,R,hp,hm,hh,r,hf,k⟩:=h;unfold a3y at hf
 split at hf
 · rename_i kk m;obtain⟨v,rr,rfl,rv,u,r2,rfl,ru,rfl⟩:=r;obtain⟨p,ep,rfl⟩:=rv;obtain rfl:u=.int m:=ru;obtain⟨l',el,nl⟩:=hh;have epl:l'[kk]?=some p:=by rw [el] at ep;simpa using ep
   have pl:p∈l':=List.mem_of_getElem? epl;have sub:∀q∈l',q∈G.pots:=fun q hq=>by rw [el];exact List.mem_cons_of_mem _ hq
   have at1:∀q∈l',q∈G.M∧T.at_ G.M H q n:=fun q hq=>by
     obtain⟨a1,a2⟩:=hp q (sub q hq);rcases a2 with⟨_,a2⟩ | ⟨z,_⟩
     · exact⟨a1,a2⟩
     · exact absurd (z▸hq) nl
   have ptM:Pt∈G.pots:=by rw [el];exact List.mem_cons_self
   refine⟨⟨G.M,l'⟩,[.pot kk,.int m],n,fun r n'=>R r n'∧∃d,r=.int d,at1,hm,by rw [hT];trivial,⟨_,_,rfl,⟨p,epl,rfl⟩,_,_,rfl,rfl,rfl⟩,⟨hf.1,fun d d0 d1=>⟨hf.2 d d0 d1,d,rfl⟩⟩,fun r n' v H' rr rv hp' hk=>?_⟩
   have nr:Rep K G H' r v:=by
     obtain⟨_,d,rfl⟩:=rr;exact rv
   refine k r n' v H' rr.1 nr (fun q hq=>?_) fun b o hb e=>hk b o (fun z=>hb (sub b z)) e;rw [el] at hq;rcases List.mem_cons.mp hq with rfl | hq
   · rcases(hp q ptM).2 with⟨z,_⟩ | ⟨_,ps,z1,z2,z3⟩
     · exact absurd rfl z
     · refine .inr ⟨rfl,ps,hk _ _ nl z1,z2,z3.imp id ?_⟩;rintro⟨c',y1,y2,y3⟩;exact⟨c',y1,y2,hk _ _ (fun z=>y2 ((hp c' (sub c' z)).1)) y3⟩
   · exact .inl ⟨fun z=>nl (z▸hq),hp' q hq⟩
 · exact hf.elim
end
section
variable {ι:Type}{K:PySem.W.Frag}{F:ι→Cx}{e:Expr}{es:List Expr}{st:Stmt}{pos:Pos}{pl:pA}{pe pa pb:pE}{Pt:Addr}{lpos:Pos}{qual:Str}
def a3W (i:Nat)(pa:pE):pS:=fun D env n=>pa env n fun x env1 n1=>match x with | .scr ns=>ns.length≤63∧∀q:Nat,D.nx (env1.set i (some (.v (.pot (q + 1))))) n1 | _=>False
theorem a6t (i:Nat){x:Str}{p:Pos}{a:Expr}{k j:Nat}{ps:List Str}(h:∀z te,EW (F z) (.Call (.Name x p) [a] [] pos) te→SW (F z) st (tAsg te (a1P i)))(hG:∀z,Kn (F z).prog (F z).w (F z).K (F z).mg (F z).base x k ps (a3D K))(hr:∀z,Room j (F z).A)(hk:k≤j)(hg:∀z,Gl (F z) x)
   (ha:QE (tabK potD Pt lpos qual) K F a pa) (n1:a0C a=true:=by rfl) (hdb:(x == ("__debug__":Str))=false:=by decide):QS (tabK potD Pt lpos qual) true K F st (a3W i pa):=by
 obtain⟨t,a1,a2⟩:=ha;refine⟨_,fun z=>(h z _ ⟨pe_fn (hG z) (hr z) hk (hg z) (a0r (a1 z) a0K (a0e n1)) hdb (a0e n1)⟩).h,fun C G σ H env n PD D hK hT hn S hp L=>?_⟩;refine a2 C G σ H env n _ _ hK hT S hp fun x env1 n1 v H1 q1 S1 r1 f1=>?_
 split at q1
 · rename_i ns;obtain⟨a,ev,hq⟩:=a5C (.inl r1);refine(show a3D K [v] H1 (fun x H1=>a1P i x σ H1 D.nx) E0 from ?_);refine⟨a,ns,by rw [ev],hq,q1.1,fun H2 p c cells a l s sm hp hc ep ec ok=>?_⟩;have hh:(tabK potD Pt lpos qual).has G.pots:=hT▸S1.hasG;obtain⟨l',el,nl⟩:=hh;have ptM:Pt∈G.pots:=by rw [el];exact List.mem_cons_self
   have S2:=S1.potG hn (p:=p) (ob:=.dK (dPot c a l s)) trivial hp sm ep (by
     rw [hT];refine .inl ⟨fun z=>S1.fresh hp (by rw [z];exact(S1.pots _ ptM).1),c,cells,a,l,s,ep,fun z=>?_,ec,ok⟩;rcases List.mem_cons.mp z with rfl | z
     · rw [ep] at ec;cases ec
     · exact S1.fresh hc z)
   have S3:=S2.set i (x:=.pot (l'.length + 1)) (v:=.ref p) ⟨p,by show(G.pots++[p])[l'.length + 1]?=_;rw [el];simp,rfl⟩;refine L.nx _ _ _ _ _ (q1.2 _) S3 ((Ext.fr f1).trans ⟨fun b o _ e=>sm b o e,fun c hc=>(List.mem_cons.mp (show c∈p::G.M from hc)).elim (fun z=>.inr (z▸hp)) .inl,fun k q e=>?_⟩);obtain⟨hk,_⟩:=List.getElem?_eq_some_iff.mp e;show(G.pots++[p])[k]?=_;rw [List.getElem?_append_left hk];exact e
 · exact q1.elim
end
end Pu
end
section
set_option maxHeartbeats 1000000
namespace Pu
open PySem PySem.W PySem.Spec L2
def a6L (pk:pE)(y:PV):List PV→Nat→(List Int→Nat→Prop)→Prop
 | [],n,R=>R [] n
 | x::xs,n,R=>pk [some (.v x),some (.v y)] n fun r _ n1=>∃k,r=.int k∧a6L pk y xs n1 fun ks n2=>R (k::ks) n2
def SrtK (ks:List Int)(xs ys:List PV):Prop:=∃ps:List (Int×PV),ps.Perm (ks.zip xs)∧ys=ps.map Prod.snd∧ps.Pairwise fun p q=>p.1≤q.1
def a7t (iy:Nat)(pe pk:pE):pA:=fun env n R=>pe env n fun x env1 n1=>match x,env1[iy]? with
 | .lst xs,some (some (.v y))=>xs.length < 64∧a6L pk y xs n1 fun ks n2=>∀ys,SrtK ks xs ys→R ys env1 n2
 | _,_=>False
theorem a5I {α β:Type}{f:α→β}{ps m:List β}(h:ps.Perm m):∀l:List α,m=l.map f→∃l':List α,l'.Perm l∧ps=l'.map f:=by
 induction h with
 | nil=>intro l e;exact⟨l,.refl _,e⟩
 | cons x _ ih =>
   intro l e;cases l with
   | nil=>cases e
   | cons a l =>
     rw [List.map_cons] at e;injection e with e1 e2;obtain⟨l',p,q⟩:=ih l e2;exact⟨a::l',.cons a p,by rw [List.map_cons,e1,q]⟩
 | swap x y r =>
   intro l e
   match l,e with
   | a :: b :: l, e =>
     rw [List.map_cons,List.map_cons] at e;injection e with e1 e2;injection e2 with e2 e3;exact⟨b::a::l,.swap _ _ _,by rw [List.map_cons,List.map_cons,e1,e2,e3]⟩
 | trans _ _ ih1 ih2 =>
   intro l e;obtain⟨l2,p2,q2⟩:=ih2 l e;obtain⟨l1,p1,q1⟩:=ih1 l2 q2;exact⟨l1,p1.trans p2,q1⟩
theorem zip3 {K:PySem.W.Frag}{G:Gh}{H:Hp}:∀(ks:List Int) (xs:List PV) (us:List V),Reps K G H xs us→∃l:List (Int×PV×V),ks.zip us=l.map (fun t=>(t.1,t.2.2))∧ks.zip xs=l.map (fun t=>(t.1,t.2.1))∧∀t∈l,Rep K G H t.2.1 t.2.2
 | [],xs,us,_=>⟨[],by simp,by simp,fun _ z=>nomatch z⟩
 | k::ks,[],us,h=>by cases(show us=[] from h);exact⟨[],rfl,rfl,fun _ z=>nomatch z⟩
 | k :: ks, x :: xs, us, h => by
   obtain⟨v,r,rfl,h1,h2⟩:=h;obtain⟨l,e1,e2,h3⟩:=zip3 ks xs r h2;refine⟨(k,x,v)::l,by rw [List.zip_cons_cons,e1];rfl,by rw [List.zip_cons_cons,e2];rfl,fun t ht=>?_⟩;rcases List.mem_cons.mp ht with rfl | ht
   · exact h1
   · exact h3 t ht
theorem a7q {K:PySem.W.Frag}{G:Gh}{H:Hp}:∀(l:List (Int×PV×V)),(∀t∈l,Rep K G H t.2.1 t.2.2)→Reps K G H (l.map fun t=>t.2.1) (l.map fun t=>t.2.2)
 | [],_=>rfl
 | t::l,h=>⟨_,_,rfl,h t List.mem_cons_self,a7q l fun s hs=>h s (List.mem_cons_of_mem _ hs)⟩
theorem b0a {K:PySem.W.Frag}{G:Gh}{H:Hp}{ks:List Int}{xs:List PV}{us ys:List V}(r:Reps K G H xs us)(h:KOut ks us ys):∃ys',SrtK ks xs ys'∧Reps K G H ys' ys:=by
 obtain⟨ps,hp,rfl,ho⟩:=h;obtain⟨l,e1,e2,h3⟩:=zip3 ks xs us r;rw [e1] at hp;obtain⟨l',p',rfl⟩:=a5I hp l rfl;refine⟨l'.map fun t=>t.2.1,⟨l'.map fun t=>(t.1,t.2.1),by rw [e2];exact p'.map _,by rw [List.map_map];rfl,?_⟩,?_⟩
 · rw [List.pairwise_map] at ho ⊢;exact ho
 · rw [List.map_map];exact a7q l' fun t ht=>h3 t (p'.mem_iff.mp ht)
section
variable {T:PotK}{K:PySem.W.Frag}{Pt:Addr}{lpos:Pos}{qual:Str}
theorem b0b {tb:TE}{pk:pE}(hb:EOk K T tb pk){G:Gh}{H1 H2:Hp}{kS c':Addr}{y:PV}{vy:V}(hh:T.has G.pots)(h0:∀b o,b∉G.pots→H1 b=some o→H2 b=some o)(k1:H1 kS=none)(k2:H2 kS=none)(kM:kS∉G.M)(pM:∀p∈G.pots,p∈G.M)(hm:∀a∈G.M,∃o,H1 a=some o∧MutO o)
   (hc:H2 c'=some (a3A c' qual)) (cM:c'∉G.M) (ry:Rep K G H1 y vy) {R4:List Int→Hp→Prop} {RR:List Int→Nat→Prop}
   (fin:∀ks H4 n2,RR ks n2→(∀b o,b∉G.pots→H2 b=some o→H4 b=some o)→(∀p∈G.pots,T.at_ (kS::G.M) H4 p n2)→H4 kS=some (.lst (ks.map V.int))→R4 ks H4) :
   ∀(xs:List PV) (us:List V) (ks:List Int) (n:Nat) (H3:Hp),Reps K G H1 xs us→(∀b o,b∉G.pots→H2 b=some o→H3 b=some o)→(∀p∈G.pots,T.at_ (kS::G.M) H3 p n)→H3 kS=some (.lst (ks.map V.int))→a6L pk y xs n (fun more n2=>RR (ks++more) n2)→a8n tb vy kS c' qual us ks H3 R4
 | [], us, ks, n, H3, r, fr, at3, e3, hk => by
   cases(show us=[] from r);exact fin ks H3 n (by simpa [a6L] using hk) fr at3 e3
 | x :: xs, us, ks, n, H3, r, fr, at3, e3, hk => by
   obtain⟨u,us,rfl,rx,rr⟩:=r;have kP:kS∉G.pots:=fun z=>kM (pM _ z);have neK:∀b o,H2 b=some o→b≠kS:=fun b o e z=>by rw [z,k2] at e;cases e
   let GD:Gh:=⟨kS::G.M,G.pots⟩
   have fr1:∀b o,b∉G.M→H1 b=some o→H3 b=some o:=fun b o hb e=>fr b o (fun z=>hb (pM b z)) (h0 b o (fun z=>hb (pM b z)) e);have mv:∀{x:PV} {v:V},Rep K G H1 x v→Rep K GD H3 x v:=fun r=>Rep.mono (G':=GD) fr1 (fun a ha=>(List.mem_cons.mp (show a∈kS::G.M from ha)).elim (fun z=>.inr (z▸k1)) .inl) (fun _ _ e=>e) _ _ r
   have I:Inn K T GD [some u,some vy] H3 [some (.v x),some (.v y)] n:=by
     refine⟨fun p hp=>⟨List.mem_cons_of_mem _ (pM p hp),at3 p hp⟩,hh,fun a ha=>?_,fun i s e=>?_,rfl⟩
     · rcases List.mem_cons.mp (show a∈kS::G.M from ha) with rfl | ha
       · exact⟨_,e3,trivial⟩
       · by_cases hp:a∈G.pots
         · exact T.mu (at3 a hp)
         · obtain⟨o,e,m⟩:=hm a ha;exact⟨o,fr a o hp (h0 a o hp e),m⟩
     · match i,e with
       | 0,e=>cases e;exact⟨x,u,rfl,rfl,mv rx⟩
       | 1,e=>cases e;exact⟨y,vy,rfl,rfl,mv ry⟩
       | _ + 2,e=>cases e
   refine⟨fr c' _ (fun z=>cM (pM _ z)) hc,?_⟩;refine hb _ GD _ H3 _ n _ _ rfl rfl I.sr hk fun q env' n1 v H4 rq S4 rv f4=>?_;obtain⟨k,rfl,hk2⟩:=rq;have e4:H4 kS=some (.lst (ks.map V.int)):=S4.frame kS _ kP e3;refine⟨k,rv,e4,?_⟩;refine b0b hb hh h0 k1 k2 kM pM hm hc cM ry fin xs us (ks++[k]) n1 _ rr (fun b o hp e=>?_) (fun p hp=>?_) a0g (by simpa [List.append_assoc] using hk2)
   · rw [a0j (neK b o e)];exact S4.frame b o hp (fr b o hp e)
   · refine T.keep (S4.pots p hp).2 (a0j fun z=>kP (z▸hp)) fun b o hb e=>?_;rw [a0j (fun z=>hb (by rw [z];exact List.mem_cons_self))];exact e
theorem a9H {te tb:TE}{pe pk:pE}{iy:Nat}(h2:ROk K (tabK T Pt lpos qual) te pe)(hb:EOk K (tabK T Pt lpos qual) tb pk):NOk K (tabK T Pt lpos qual) (b2t K Pt lpos qual iy te tb) (a7t iy pe pk):=by
 intro C G σ H env n R Q hK hT S hp k;refine h2 C G σ H env n _ _ hK hT S hp fun x env1 n1 v H1 p1 S1 r1 f1=>?_;have rd:RdV K G H1 x v:=hK▸r1.rd S1
 split at p1
 · rename_i xs y ey;obtain⟨h64,p1⟩:=p1;obtain⟨a,us,rfl,hq,r⟩:=rd.lst;obtain⟨vy,ev,ry⟩:=S1.slots iy _ ey;rw [hK] at ry;have hh:(tabK T Pt lpos qual).has G.pots:=hT▸S1.hasG;obtain⟨l',el,nl⟩:=id hh;have ptM:Pt∈G.pots:=by rw [el];exact List.mem_cons_self
   have atH:∀p∈G.pots,p∈G.M∧(tabK T Pt lpos qual).at_ G.M H1 p n1:=fun p hp=>hT▸S1.pots p hp;have pM:∀p∈G.pots,p∈G.M:=fun p hp=>(atH p hp).1
   obtain⟨ps,eP,tg⟩:∃ps,H1 Pt=some (.tbl ps)∧TabG lpos qual G.M H1 ps:=by
     rcases(atH Pt ptM).2 with⟨z,_⟩ | ⟨_,z⟩
     · exact absurd rfl z
     · exact z
   have ul:us.length=xs.length:=r.length.symm
   have rest:∀c' H2,(∀b o,b∉G.pots→H1 b=some o→H2 b=some o)→(∀p∈G.pots,(tabK T Pt lpos qual).at_ G.M H2 p n1)→H2 c'=some (a3A c' qual)→c'∉G.M→a7k qual tb vy us Q c' H2:=by
     intro c' H2 h0 at2 hc cM kS a2 nk na hka
     have k1:H1 kS=none:=by
       cases e:H1 kS with
       | none=>rfl
       | some o =>
         by_cases hp:kS∈G.pots
         · obtain⟨o2,e2,_⟩:=(tabK T Pt lpos qual).mu (at2 kS hp);rw [nk] at e2;cases e2
         · rw [h0 kS o hp e] at nk;cases nk
     have kM:kS∉G.M:=S1.fresh k1;refine b0b hb hh h0 k1 nk kM pM S1.mu hc cM ry (RR:=fun ks n2=>∀ys,SrtK ks xs ys→R ys env1 n2) (fun ks H4 n2 rr fr4 at4 e4 n4 ys ko=>?_) xs us [] n1 _ r (fun b o hp e=>?_) (fun p hp=>?_) a0g p1
     · obtain⟨ys',so,ry'⟩:=b0a r ko;have ne4:∀b o,H2 b=some o→b≠kS:=fun b o e z=>by rw [z,nk] at e;cases e
       have hk4:∀b o,b∉G.pots→H1 b=some o→upd H4 kS (.lst []) b=some o:=fun b o hp e=>by
         have e2:=h0 b o hp e;rw [a0j (ne4 b o e2)];exact fr4 b o hp e2
       have fr:Fr G H1 (upd H4 kS (.lst [])):=fun b o hb e=>hk4 b o (fun z=>hb (pM b z)) e;refine k ys' env1 n2 a2 ys (upd H4 kS (.lst [])) (rr ys' so) (S1.call hk4 fun p hp=>?_) (f1.trans fr) (by rw [a0j hka.symm];exact n4) (ry'.fr fr);rw [hT];have h5:=(tabK T Pt lpos qual).more (M':=G.M) (at4 p hp) fun a ha=>.inl (List.mem_cons_of_mem _ ha)
       -- kS is none of the pots' things
       have h6:=(tabK T Pt lpos qual).keep (H':=upd H4 kS (.lst [])) (at4 p hp) (a0j fun z=>kM (pM _ (z▸hp))) fun b o hb e=>by
         rw [a0j (fun z=>hb (by rw [z];exact List.mem_cons_self))];exact e
       exact(tabK T Pt lpos qual).more (M':=G.M) h6 fun a ha=>.inl (List.mem_cons_of_mem _ ha)
     · rw [a0j (fun z=>by rw [z,nk] at e;cases e)];exact e
     · have h5:=(tabK T Pt lpos qual).more (M':=kS::G.M) (at2 p hp) fun a ha=>(List.mem_cons.mp ha).elim (fun z=>.inr (z▸nk)) .inl
       exact(tabK T Pt lpos qual).keep h5 (a0j fun z=>kM (pM _ (z▸hp))) fun b o hb e=>by
         rw [a0j (fun z=>hb (by rw [z];exact List.mem_cons_self))];exact e
   refine⟨a,us,vy,ps,rfl,hq,by omega,ev,eP,tg.1,?_⟩;rcases tg.2 with hn | ⟨c',z1,z2,z3⟩
   · refine .inl ⟨hn,fun c' hc'=>rest c' _ (fun b o hp e=>?_) (fun p hp=>?_) ?_ (S1.fresh hc')⟩
     · have b1:b≠Pt:=fun z=>hp (by rw [z];exact ptM);rw [a0j b1,a0j (fun z=>by rw [z,hc'] at e;cases e)];exact e
     · by_cases hpp:p=Pt
       · subst hpp;refine .inr ⟨rfl,_,a0g,?_,.inr ⟨c',?_,S1.fresh hc',?_⟩⟩
         · have e:(ps++#[rawInt lpos.line,rawInt lpos.col,Value.ref c']).toList=ps.toList++[rawInt lpos.line,rawInt lpos.col,.ref c']:=by simp
           rw [e];exact TriplesOk_snoc _ _ _ _ tg.1
         · have e:(ps++#[rawInt lpos.line,rawInt lpos.col,Value.ref c']).toList=ps.toList++[rawInt lpos.line,rawInt lpos.col,.ref c']:=by simp
           rw [e];exact codeAmong_snoc _ tg.1 hn
         · rw [a0j (fun z=>by rw [z,eP] at hc';cases hc'),a0g]
       · rcases(atH p hp).2 with⟨_,z⟩ | ⟨z,_⟩
         · refine .inl ⟨hpp,?_⟩;have nc:p≠c':=fun q=>S1.fresh hc' (by rw [← q];exact pM p hp);have z2:=T.keep (H':=upd H1 c' (a3A c' qual)) z (a0j nc) fun b o _ e=>by rw [a0j (fun q=>by rw [q,hc'] at e;cases e)];exact e
           exact T.keep z2 (by rw [a0j hpp]) fun b o hb e=>by rw [a0j (fun q=>hb (by rw [q];exact pM _ ptM))];exact e
         · exact absurd z hpp
     · rw [a0j (fun z=>by rw [z,eP] at hc';cases hc'),a0g]
   · exact .inr ⟨c',z1,z3,rest c' H1 (fun _ _ _ e=>e) (fun p hp=>(atH p hp).2) z3 z2⟩
 · exact p1.elim
end
section
variable {T:PotK}{ι:Type}{K:PySem.W.Frag}{F:ι→Cx}{Pt cd:Addr}{lpos p pos kpos:Pos}{qual x y:Str}{e body:Expr}{pe pk:pE}{scope:Scope}{params:Arguments}{iy k:Nat}{c:ι→Addr}
theorem b1u (he:QR (tabK T Pt lpos qual) K F e pe)
   (hb:QE (tabK T Pt lpos qual) K (fun q:ι×Addr×Addr×Shared×Hp=>a8B (F q.1) scope [x,y] qual q.2.1 q.2.2.1 [(y,c q.1)] q.2.2.2.1 q.2.2.2.2) body pk)
   (S:a2X scope x y) (hr:∀z,Room k (F z).A) (hc:∀z,(F z).env.cells.lookup y=some (c z)) (hi:∀z,(F z).env.scope.names.lookup y=some .cell) (hn:∀z,(F z).N[iy]?=some y)
   (bd:∀z (pm ct cdv u:Value),bindArgs (kla_fn "<lambda>" qual params body scope [(y,c z)] pm cdv ct) ⟨[u],[]⟩=pure [(x,u)])
   (hq:∀z,(F z).env.qual++"<lambda>"=qual) (hcl:∀z,closureFor scope (F z).env=pure [(y,c z)]) (hcode:∀z,(F z).env.code=.ref cd) (C:∀z,CodeHd (F z).base cd Pt) (hB:∀z,(F z).base.BuiltinsAt (F z).mg Pt)
   (hg:∀z,Gl (F z) "sorted") (hm:∀z,(F z).mg "sorted"=none) (hdef:∀z,defaultsOf params (F z).env=([],[])) (hs:a0C e=true:=by rfl) (hK:∀z,(F z).K=K:=by intro _;rfl) :
   QN (tabK T Pt lpos qual) K F (.Call (.Name "sorted" p) [e] [⟨some "key",.Lambda params body scope lpos,kpos⟩] pos) (a7t iy pe pk):=by
 obtain⟨t,h1,h2⟩:=he;obtain⟨u,h3,h4⟩:=hb;refine⟨_,fun z=>hK z▸a8g (c:=c z) (k:=k) (tb:=u) ⟨S,hr z,hc z,hi z,hn z,bd z,fun f c' s H=>h3 (z,f,c',s,H)⟩ (hq z) (hcl z) (hcode z) (C z) (hB z) (hg z) (hm z) (h1 z) (a0e hs) (hdef z),a9H h2 h4⟩
end
end Pu
end
section
set_option maxHeartbeats 1000000
namespace L2
open PySem PySem.W PySem.Spec PyProof.Rows
def b4x (Pt:Addr)(H:Hp):Prop:=∀b,H b=none∨(∃o xs,H b=some (.frz o (.lst xs)))∨(b=Pt∧H b=some (.tbl #[]))
theorem a9X {P:Program}{w:World}{K:Frag}{mg mb:Str→Option Value}{CX:CXT}{k:Nat}{fa a Pt cd:Addr}{fd:FuncData}{x:Str}{sp:Sp}{s₁:Shared}{vs:List Value}{ns:List Int}
   (KX:K.In s₁.heap) (hns:s₁.heap.Ns mainGlobals mg) (hb:s₁.heap.Ns builtinsNs mb) (hbb:∀x:Str,x≠"__name__"→mb x=bootBuiltins x) (hlim:s₁.heap.NoLimit) (hg:s₁.gens=#[])
   (ha:s₁.heap.get? a=some { cls:=.type "list",data:=.seq vs.toArray }) (hi:IntsAre vs ns) (hl:ns.length≤sizeLine) (hr:Room k callerA)
   (hP:s₁.heap.get? Pt=some (tabObj #[])) (hC:CodeHd s₁.heap cd Pt) (hB:s₁.heap.BuiltinsAt mg Pt) (hKP:K.lookup Pt=none) (hsy:sysModules≠Pt)
   (F:∀base:Heap,K.In base→base.Ns mainGlobals mg→CodeHd base cd Pt→base.BuiltinsAt mg Pt→FnOk P w K mg base CX k fa fd [x] sp) (hbind:∀(s:Shared) (u:Value),BindsTo s fd ⟨[u],[]⟩ [(x,u)])
   (hsp:∀H:Hp,b4x Pt H→H Pt=some (.tbl #[])→SqL K H a (ns.map V.int)→sp [.ref a] H (fun v _=>v=.bl true) fun _ _ _=>False)
   (hCX:∀H e s',CX [] H s₁ (fun _ _ _=>False) e s'→False) :
   codeAny (model P w) callerA (.call (.ref fa) ⟨[.ref a],[]⟩) (fun r s'=>r=.ok (.ret (.bool true))∧OldK s₁.heap s'.heap∧s'.os=s₁.os∧AllBare s'.gens) s₁:=by
 have rv:=a5w hi;have lenV:=hi.length;have haP:a≠Pt:=fun z=>by rw [z,hP] at ha;cases ha
 have core:∀H:Hp,b4x Pt H→H Pt=some (.tbl #[])→SqL K H a (ns.map V.int)→HOk P w H s₁.heap→(∀b,H b≠none→b=a∨b=Pt)→(H a≠none→K.lookup a=none)→
     codeAny (model P w) callerA (.call (.ref fa) ⟨[.ref a],[]⟩) (fun r s'=>r=.ok (.ret (.bool true))∧OldK s₁.heap s'.heap∧s'.os=s₁.os∧AllBare s'.gens) s₁:=by
   intro H hO hPt hS hok hA hK;have base_of:∀{b:Addr} {o:Obj},s₁.heap.get? b=some o→H b=none→(hidT s₁.heap H).get? b=some o:=fun e n=>b2b e n
   have noA:∀{b:Addr} {o:Obj},s₁.heap.get? b=some o→(∀n,o.data≠.seq vs.toArray n)→(∀ps,o.data≠.fields ps)→H b=none:=fun {b o} e d1 d2=>by
     cases q:H b with
     | none=>rfl
     | some u =>
       rcases hA b (by rw [q];simp) with e' | e'
       · subst e';rw [ha] at e;cases e;exact absurd rfl (d1 _)
       · subst e';rw [hP] at e;cases e;exact absurd rfl (d2 _)
   have nsK:∀{b:Addr} {m:Str→Option Value},s₁.heap.Ns b m→(hidT s₁.heap H).Ns b m:=fun {b m} ⟨o,es,ep,e,d,r⟩=>⟨o,es,ep,base_of e (noA e (fun n z=>by rw [d] at z;cases z) (fun n z=>by rw [d] at z;cases z)),d,r⟩
   have hKb:K.In (hidT s₁.heap H):=fun b o e=>base_of (KX b o e) (by
     cases q:H b with
     | none=>rfl
     | some u =>
       rcases hA b (by rw [q];simp) with e' | e'
       · subst e';rw [hK (by rw [q];simp)] at e;cases e
       · subst e'
         rw [hKP] at e;cases e)
   have hM:Mod K mg (hidT s₁.heap H):=⟨hKb,nsK hns,⟨mb,nsK hb,hbb⟩,let ⟨mc,h1,h2⟩:=hlim;⟨mc,nsK h1,h2⟩⟩
   have hC':CodeHd (hidT s₁.heap H) cd Pt:=by
     obtain⟨o,vs',file,tf,flags,tg,inF,text,tt,e1,r1,r2,r3,r4,r5,r6,r7,r8,hne⟩:=hC;refine⟨o,vs',file,tf,flags,tg,inF,text,tt,base_of e1 ?_,r1,r2,r3,r4,r5,r6,r7,r8,hne⟩;cases q:H cd with
     | none=>rfl
     | some u =>
       rcases hA cd (by rw [q];simp) with e' | e'
       · subst e';rw [ha] at e1;cases e1;have z:Value.type "list"=Value.type "code":=r1;injection z with z;exact absurd z (by decide)
       · exact absurd e' hne
   have hB':(hidT s₁.heap H).BuiltinsAt mg Pt:=by
     obtain⟨bm,o,z1,z2,z3,z4,z5,z6,z7,z8⟩:=hB;exact⟨bm,o,z1,z2,z3,z4,base_of z5 (noA z5 (fun n z=>by rw [z8] at z;cases z) (fun n z=>by rw [z8] at z;cases z)),z6,z7,z8⟩
   have nsy:NS H:=by
     rcases hO sysModules with z | ⟨o,xs,z⟩ | ⟨z,_⟩
     · exact .inl z
     · exact .inr ⟨o,_,z⟩
     · exact absurd z hsy
   have e0:Env0 P w K mg (hidT s₁.heap H) callerA [] s₁ H:=⟨rfl,hM,fun b o e=>b3K e,Nat.le_of_eq (b0n _ _),trivial,fun b hb=>absurd (show b∈([]:List Addr) from hb) (by simp),hok,.of_eq hg,nsy⟩;refine codeAny_mono ((F _ hKb (nsK hns) hC' hB').run callerA [] s₁ H ⟨[.ref a],[]⟩ [.ref a] [.ref a] _ _ hr e0 (hbind s₁ (.ref a)) (.cons rfl .nil) (hsp H hO hPt hS)) fun r s' h=>?_;cases r with
   | error e=>exact(hCX H e s' h).elim
   | ok fl =>
     cases fl with
     | next=>exact False.elim h
     | brk=>exact False.elim h
     | cont=>exact False.elim h
     | ret u =>
       obtain⟨v,H',os,bare,un,hok',r',q⟩:=h;have q':v=.bl true:=q;subst q';obtain rfl:u=Value.bool true:=r'
       have kept:∀b o,b≠Pt→s₁.heap.get? b=some o→s'.heap.get? b=some o:=fun b o hb e=>by
         cases q:H b with
         | none=>exact un.keep b o e q (by intro z;exact absurd (show b∈([]:List Addr) from z) (by simp)) (by simp)
         | some u =>
           rcases hO b with z | ⟨ob,xs,z⟩ | ⟨z,_⟩
           · rw [q] at z;cases z
           · have z2:=un.frzs b ob _ z;obtain⟨e1,_⟩:=hok b _ z;obtain⟨e2,_⟩:=hok' b _ z2;rw [e] at e1;cases e1;exact e2
           · exact absurd z hb
       obtain⟨more,hm⟩:=un.tbls Pt #[] hPt;have eP:s'.heap.get? Pt=some (tabObj (#[]++more)):=hok' Pt _ hm;refine⟨rfl,⟨fun b o e=>?_,fun b o e=>?_⟩,os,bare⟩
       · by_cases hb:b=Pt
         · subst hb;rw [hP] at e;cases e;exact .inr (.inl ⟨(hC.tab hP).isCodeTable,rfl,#[],more,rfl,eP⟩)
         · exact .inl (kept b o hb e)
       · by_cases hb:b=Pt
         · subst hb;exact⟨_,eP⟩
         · exact⟨o,kept b o hb e⟩
 have tabOk:∀(H:Hp),a0X P w H s₁.heap Pt (.tbl #[]):=fun H=>hP;cases hk:K.lookup a with
 | some o =>
   have e:=KX a o hk;rw [ha] at e;cases e;refine core (fun b=>if b=Pt then some (.tbl #[]) else none) (fun b=>?_) (if_pos rfl) (.inr ⟨_,vs.toArray,_,hk,rfl,rfl,rfl,by rw [List.size_toArray,lenV];exact hl,by simpa using rv⟩) (fun b u z=>?_) (fun b z=>?_) fun z=>absurd (if_neg haP) z
   · by_cases hb:b=Pt
     · exact .inr (.inr ⟨hb,if_pos hb⟩)
     · exact .inl (if_neg hb)
   · by_cases hb:b=Pt
     · have z':=(if_pos hb).symm.trans z;cases z';subst hb;exact tabOk _
     · have z':=(if_neg hb).symm.trans z;cases z'
   · by_cases hb:b=Pt
     · exact .inr hb
     · exact absurd (if_neg hb) z
 | none =>
   refine core (fun b=>if b=Pt then some (.tbl #[]) else if b=a then some (.frz { cls:=.type "list",data:=.seq vs.toArray } (.lst (ns.map V.int))) else none) (fun b=>?_) (if_pos rfl) (.inl (.inr ⟨{ cls:=.type "list",data:=.seq vs.toArray },?_⟩)) (fun b u z=>?_) (fun b z=>?_) fun _=>hk
   · by_cases hb:b=Pt
     · exact .inr (.inr ⟨hb,if_pos hb⟩)
     · by_cases hb2:b=a
       · exact .inr (.inl ⟨_,_,by simp only [if_neg hb,if_pos hb2];rfl⟩)
       · exact .inl (by simp only [if_neg hb,if_neg hb2])
   · show(if a=Pt then _ else if a=a then _ else _)=_;rw [if_neg haP,if_pos rfl]
   · have z:(if b=Pt then some (HO.tbl #[]) else if b=a then some (.frz { cls:=.type "list",data:=.seq vs.toArray } (.lst (ns.map V.int))) else none)=some u:=z
     by_cases hb:b=Pt
     · rw [if_pos hb] at z;cases z;subst hb;exact tabOk _
     · rw [if_neg hb] at z
       by_cases hb2:b=a
       · rw [if_pos hb2] at z;cases z;subst hb2;exact⟨ha,by rw [List.length_map];exact hl,vs,_,rv,ha⟩
       · rw [if_neg hb2] at z;cases z
   · by_cases hb:b=Pt
     · exact .inr hb
     · by_cases hb2:b=a
       · exact .inl hb2
       · exact absurd (show(if b=Pt then _ else if b=a then _ else none)=none by rw [if_neg hb,if_neg hb2]) z
structure Fn0C (K:Frag)(mg:Str→Option Value)(x:Str)(st:Stmt)(cd:Addr):Prop where
 ex:∃(f:Addr) (oc:Value) (od:Option Addr) (kV doc pm:Value) (an:Option Addr) (ct:Value) (osl:Array (Option Value)),K.lookup f=some ⟨oc,od,.func (fnOf x x (a1e st) (a0I st) (a0f st) .none kV doc pm an (.ref cd) ct),osl⟩∧codeIn K (.ref cd) x=true∧keepIn K (.ref f)=true∧mg x=some (.ref f)
theorem b4e {K:Frag}{h:Heap}{mg:Str→Option Value}{x:Str}{st:Stmt}(X:K.In h)(G:h.Ns mainGlobals mg){f cd:Addr}{oc:Value}{od an:Option Addr}{osl:Array (Option Value)}{kV doc pm ct:Value}
   (a:nsIn K mainGlobals x=some (some (.ref f))) (l:K.lookup f=some ⟨oc,od,.func (fnOf x x (a1e st) (a0I st) (a0f st) .none kV doc pm an (.ref cd) ct),osl⟩)
   (c:codeIn K (.ref cd) x=true) (k:keepIn K (.ref f)=true):Fn0C K mg x st cd:=⟨f,oc,od,kV,doc,pm,an,ct,osl,l,c,k,mg_of X G a⟩
section
variable {P:Program}{w:World}{K:Frag}{mg:Str→Option Value}{base:Heap}
theorem Fn0C.ok {x:Str}{st:Stmt}{cd:Addr}{N ps:List Str}{k:Nat}{sp:Sp}(F:Fn0C K mg x st cd)(S:a0o N ps (a0f st))(len:∀vs H Q E,sp vs H Q E→vs.length=ps.length)
   (bd:∀(kV doc pm:Value) (an:Option Addr) (cdv ct:Value) (us:List Value),us.length=ps.length→bindArgs (fnOf x x (a1e st) (a0I st) (a0f st) .none kV doc pm an cdv ct) ⟨us,[]⟩=pure (ps.zip us))
   (hbody:∀(f:Addr) (A:Around) (outer:List Env) (s:Shared) (H:Hp) (vs:List V) (Q:VK) (E:XK),Room k (A.deeper (envOfC x (a0f st) s.heap.objs.size f (.ref cd)))→sp vs H Q E→
     ∃t,PSs (cxOf CX0 P w K mg base N x (a0f st) f (.ref cd) A outer s H E).nox (a0I st) t∧t { nx:=fun _ H'=>Q .non H',rt:=Q } (a3b N vs) H):Kn P w K mg base x (k + 1) ps sp:=by
 obtain⟨f,oc,od,kV,doc,pm,an,ct,osl,l,hcd,kp,m⟩:=F.ex;refine⟨f,_,fn_of l hcd S len fun A outer s H vs Q E hr hsp=>?_,.all (bd kV doc pm an (.ref cd) ct),kp,m,oc,od,osl,l⟩;obtain⟨t,h,q⟩:=hbody f A outer s H vs Q E hr hsp;exact⟨t,h.nox,q⟩
end
def a7m (K:Frag)(Pt:Addr):Sp:=fun vs H Q _=>∃(a:Addr) (ns:List Int),vs=[.ref a]∧SqL K H a (ns.map V.int)∧ns.length≤63∧b4x Pt H∧H Pt=some (.tbl #[])∧∀H',Q (.bl true) H'
theorem a8J {l:OpenLaw}{q:Program}{loose:List Str}{XP:(Str→Option Value)→Heap→Prop}{d:DefRec}{K:Params→Frag}{as:List Addr}{e:∀P,as=(K P).map (·.1)}{Pt:Addr}{x:Str}{k:Nat}(hn:l.most=some 63)(hdf:d.params.defaults=[])(hk:Room k callerA)(hsy:sysModules≠Pt)
   (F:∀(w:World) (mg:Str→Option Value) (h:Heap),(K w.params).In h→h.Ns mainGlobals mg→∃st x' st',Fn0 (K w.params) mg d.name st∧(∃cd,Fn0C (K w.params) mg x' st' cd∧codeHdIn (K w.params) cd Pt=true)∧(K w.params).lookup Pt=none∧
     (∀(kV doc pm:Value) (an:Option Addr) (cdv ct:Value) (s:Shared) (u:Value),BindsTo s (fnOf d.name d.name (a1e st) (a0I st) (a0f st) .none kV doc pm an cdv ct) ⟨[u],[]⟩ [(x,u)])∧
     ∀cd,Fn0C (K w.params) mg x' st' cd→∀base:Heap,(K w.params).In base→base.Ns mainGlobals mg→CodeHd base cd Pt→base.BuiltinsAt mg Pt→Kn l.prog w (K w.params) mg base d.name k [x] (a7m (K w.params) Pt)) :
   WalkO q loose XP (kmHook K as e [Pt]).says l.row.toRowW d [] (fun f vs=>PySem.call f vs):=by
 refine Att.attach_call hn hdf fun w s₀ s₁ mg mb fa o pm cdv doc a vs ns G Y ho hd hcd hmg hobj hints hlen hg=>?_;have KX:=km_in_of Y;have hP:=km_tabs_of Y Pt List.mem_cons_self;obtain⟨st,x',st',F0,⟨cd,fC,hhd⟩,hKP,hb,hF⟩:=F w mg _ KX G.T.g;obtain⟨f,fd,F1,m⟩:=F0.ex;have e:=hmg.symm.trans m;cases e;have hC:=codeHd_of_K KX hhd
 have hB:s₁.heap.BuiltinsAt mg Pt:=by
   obtain⟨bm,ob,b1,b2,b3,b4,b5,b6⟩:=G.T.bmain;refine⟨bm,ob,b1,b2,fun q=>?_,fun q=>?_,b3,b4,b5,b6⟩
   · obtain⟨o,es,ep,e,hd,_⟩:=G.T.g;rw [q,e] at b3;cases b3;rw [hd] at b6;cases b6
   · rw [q,hP] at b3;cases b3;cases b4
 refine a9X (x:=x) (CX:=CX0) (sp:=a7m (K w.params) Pt) (fd:=fd) KX G.T.g G.T.b G.T.builtins G.T.nolimit hg hobj hints (Nat.le_trans hlen (by decide)) hk hP hC hB hKP hsy (fun base kb nb c1 c2=>?_) (fun s u=>?_) (fun H hO hPt hS=>⟨a,ns,rfl,hS,hlen,hO,hPt,fun _=>rfl⟩) fun _ _ _ z=>z
 · obtain⟨f',fd',a',b',c',m',oc',od',osl',lk'⟩:=(hF cd fC base kb nb c1 c2).ex;have e:=m.symm.trans m';cases e;obtain⟨oc,od,kV,doc,pm,an,cdv,ct,osl,_,lk,hcd⟩:=F1.ex;have e2:=lk.symm.trans lk';cases e2;exact a'
 · obtain⟨oc,od,kV,doc,pm,an,cdv,ct,osl,rfl,lk,hcd⟩:=F1.ex;exact hb kV doc pm an cdv ct s u
end L2
namespace Pu
open PySem PySem.W PySem.Spec L2
section
variable {P:Program}{w:World}{K:PySem.W.Frag}{mg:Str→Option Value}{base:Heap}{T:PotK}{Pt:Addr}{lpos:Pos}{qual:Str}
theorem fn_okC {x:Str}{st:Stmt}{cd:Addr}{N ps:List Str}{k:Nat}{body:pS}(F0:Fn0C K mg x st cd)(sc:a0o N ps (a0f st))
   (bd:∀(kV doc pm:Value) (an:Option Addr) (cdv ct:Value) (us:List Value),us.length=ps.length→bindArgs (PySem.W.fnOf x x (a1e st) (a0I st) (a0f st) .none kV doc pm an cdv ct) ⟨us,[]⟩=pure (ps.zip us))
   (h:∀(f:Addr) (A:Around) (outer:List PySem.Env) (s:Shared) (H:Hp) (E:XK),Room k (A.deeper (PyProof.Rows.envOfC x (a0f st) s.heap.objs.size f (.ref cd)))→
     QSs T false K (fun _:Unit=>(cxOf CX0 P w K mg base N x (a0f st) f (.ref cd) A outer s H E).nox) (a0I st) body) :
   Kn P w K mg base x (k + 1) ps (a0l K T (fnP N ps body)):=by
 refine F0.ok sc (fun vs H Q E h=>?_) bd (fun f A outer s H vs Q E hr hsp=>?_)
 · obtain⟨G,xs,n,R,_,_,_,r,hf,_⟩:=h;rw [← r.length];exact hf.1
 · obtain⟨t,h1,h2⟩:=h f A outer s H E hr;obtain⟨G,xs,n,R,hp,hm,hh,r,hf,k'⟩:=hsp;refine⟨t,h1 (),?_⟩;have S0:=a4U (N:=N) (np:=false) hp hm hh r
   have fin:∀(x:PV) (n':Nat) (v:V) (G':Gh) (σ:St) (H':Hp) (env:Env),R x n'→SR ⟨K,T,G.M,G.pots,H,false⟩ G' σ H' env n'→Rep K ⟨G.M,G'.pots⟩ H' x v→Q v H':=by
     intro x n' v G' σ H' env rr S' rv
     have ep:G'.pots=G.pots:=by
       obtain⟨l,el,hl⟩:=S'.pre;rcases hl with hl | hl
       · rw [el,hl,List.append_nil]
       · cases hl
     rw [ep] at rv;exact k' _ _ _ _ rr rv (fun p hp'=>T.more (S'.pots p (by rw [ep];exact hp')).2 fun a ha=>.inl (S'.sup a ha)) S'.frame
   refine h2 _ G _ H _ n _ _ rfl rfl rfl S0 hf.2 ⟨fun env n' G' σ H' q S' _=>?_,fun x n' v G' σ H' env q S' rv _=>fin x n' v G' σ H' env q S' rv,fun _ _ _ _ _ q=>q.elim,fun _ _ _ _ _ q=>q.elim⟩;exact fin .non n' .non G' σ H' env q S' rfl
theorem b3Y {x:Str}{st:Stmt}{N:List Str}{y:Str}{k:Nat}{body:pS}(F0:Fn0 K mg x st)(sc:a0o N [y] (a0f st))
   (bd:∀(kV doc pm:Value) (an:Option Addr) (cdv ct:Value) (us:List Value),us.length=[y].length→bindArgs (PySem.W.fnOf x x (a1e st) (a0I st) (a0f st) .none kV doc pm an cdv ct) ⟨us,[]⟩=pure ([y].zip us))
   (h:∀(f:Addr) (cdv:Value) (A:Around) (outer:List PySem.Env) (s:Shared) (H:Hp) (E:XK),Room k (A.deeper (PyProof.Rows.envOfC x (a0f st) s.heap.objs.size f cdv))→
     QSs (tabK T Pt lpos qual) true K (fun _:Unit=>(cxOf CX0 P w K mg base N x (a0f st) f cdv A outer s H E).nox) (a0I st) body)
   (hlaw:∀ns:List Int,ns.length≤63→body ⟨fun _ _=>False,fun r _=>r=.bl true,fun _ _=>False,fun _ _=>False⟩ (a2M N [.scr ns]) 0) :
   Kn P w K mg base x (k + 1) [y] (a7m K Pt):=by
 refine F0.ok sc (fun vs H Q E h=>?_) bd (fun f cdv A outer s H vs Q E hr hsp=>?_)
 · obtain⟨a,ns,rfl,_⟩:=h
   rfl
 · obtain⟨t,h1,h2⟩:=h f cdv A outer s H E hr;obtain⟨a,ns,rfl,hS,hl,hO,hPt,q⟩:=hsp;refine⟨t,h1 (),?_⟩
   let G:Gh:=⟨[Pt],[Pt]⟩
   have r:Reps K G H [.scr ns] [.ref a]:=by
     refine .one ⟨a,rfl,?_⟩;rcases hS with(hS | ⟨o,hS⟩) | hS
     · rcases hO a with z | ⟨o,xs,z⟩ | ⟨_,z⟩
       · rw [z] at hS;cases hS
       · rw [z] at hS;cases hS
       · rw [z] at hS;cases hS
     · refine .inl ⟨fun z=>?_,o,hS⟩;rw [List.mem_singleton.mp (show a∈[Pt] from z),hPt] at hS;cases hS
     · exact .inr hS
   have S0:=a4U (T:=tabK T Pt lpos qual) (N:=N) (np:=true) (n:=0) (G:=G) (fun p hp=>by
       rw [List.mem_singleton.mp (show p∈[Pt] from hp)];exact⟨List.mem_cons_self,.inr ⟨rfl,#[],hPt,trivial,.inl rfl⟩⟩) (fun a ha=>by
       rw [List.mem_singleton.mp (show a∈[Pt] from ha)]
       exact⟨_,hPt,trivial⟩) ⟨[],rfl,by simp⟩ r
   refine h2 _ G _ H _ 0 _ _ rfl rfl rfl S0 (hlaw ns hl) ⟨fun _ _ _ _ _ q=>q.elim,fun x n' v G' σ H' env qq S' rv _=>?_,fun _ _ _ _ _ q=>q.elim,fun _ _ _ _ _ q=>q.elim⟩;subst qq;obtain rfl:v=.bl true:=rv;exact q H'
end
end Pu
namespace L2
open PySem PySem.W PySem.Spec PyProof.Rows
theorem b1p {X:Cx}{k:Nat}{scope:Scope}{N:List Str}{qual:Str}{f c':Addr}{cl:List (Str×Addr)}{s:Shared}{H:Hp}(hr:Room (k + 3) X.A):Room k (a8B X scope N qual f c' cl s H).A:=((hr.in1).in1).deeper _
theorem a9Z {scope:Scope}{x y:Str}(kind:scope.kind=.function)(co:scope.isCoroutine=false)(gen:scope.isGenerator=false)(hx:scope.names.lookup x=some .local)(hy:scope.names.lookup y=some .free)
   (fr:(scope.names.filter fun z=>z.2 == .free).map (·.1)=[y]) (nc:∀z∈scope.names,z.2≠.cell) (ne:(y == x)=false):a2X scope x y:=by
 refine⟨kind,co,gen,hx,hy,fun z hz=>?_,nc,ne⟩;have h1:z∈(scope.names.filter fun z=>z.2 == .free).map (·.1):=List.mem_map.mpr ⟨(z,.free),List.mem_filter.mpr ⟨PySem.mem_of_lookup hz,rfl⟩,rfl⟩;rw [fr] at h1;exact List.mem_singleton.mp h1
abbrev ptOf {h:Heap}{c P:Addr}(_:PySem.W.CodeHd h c P):Addr:=P
end L2
end
section
set_option maxHeartbeats 1000000
namespace Pu
open PySem PySem.Spec L2
section
variable {T:PotK}{np:Bool}{ι:Type}{K:PySem.W.Frag}{F:ι→Cx}{a b ea eb:Expr}{st:Stmt}{pos:Pos}{pa pb pi pj:pE}
theorem b4d {X:Cx}(K:PySem.W.Frag){x y:Expr}{gx gy:TG}{pos:Pos}{k:Nat}(hc:X.calm=true)(h1:GW X x gx)(h2:GW X y gy)(hn:(assignEach [x,y] X.env).length=2:=by rfl)(hst:(assignEach [x,y] X.env).findIdx? (·.1)=none:=by rfl)
   (hs:(assignEach [x,y] X.env).map (·.2)=assign x X.env::(assignEach [y] X.env).map (·.2):=by rfl) (hs2:(assignEach [y] X.env).map (·.2)=assign y X.env::(assignEach [] X.env).map (·.2):=by rfl) (hK:X.K=K:=by rfl) :
   GW X (.Tuple [x,y] k pos) (gTup K 2 (a4l gx (a4l gy gNil))):=⟨hK▸a9v hc (a2Q h1.h (a2Q h2.h a6A hs2) hs) hn hst⟩
def b3r (i:Nat)(pa pb pi pj:pE):pS:=fun D env n=>pa env n fun x env1 n1=>pb env1 n1 fun y env2 n2=>(∃xs,env2[i]?=some (some (.ow .lst xs)))∧gAt i pi x env2 n2 fun env3 n3=>gAt i pj y env3 n3 D.nx
theorem b3m (i:Nat){tg:Expr}{k:Nat}{p:Pos}(h:∀z te g,EW (F z) (.Tuple [a,b] k p) te→GW (F z) tg g→SW (F z) st (tAsg te g))(hg:∀z ti tj,EW (F z) ea ti→EW (F z) eb tj→GW (F z) tg (gTup K 2 (a4l (gSub (tVar i) ti a9d) (a4l (gSub (tVar i) tj a9d) gNil))))(h1:QE T K F a pa)(h2:QE T K F b pb)(h3:QE T K F ea pi)(h4:QE T K F eb pj)(n1:a0C a=true:=by rfl)(n2:a0C b=true:=by rfl):QS T np K F st (b3r i pa pb pi pj):=by
 obtain⟨t,a1,a2⟩:=h1;obtain⟨u,b1,b2⟩:=h2;obtain⟨ti,i1,i2⟩:=h3;obtain⟨tj,j1,j2⟩:=h4;refine⟨_,fun z=>(h z _ _ ⟨a9w (a0r (a1 z) (a0r (b1 z) a0K (a0e n2)) (a0e n1))⟩ (hg z _ _ ⟨i1 z⟩ ⟨j1 z⟩)).h,fun C G σ H env n PD D hK hT hn S hp L=>?_⟩;refine a2 C G σ H env n _ _ hK hT S hp fun x env1 n1 v H1 q1 S1 r1 f1=>?_;refine b2 C G σ H1 env1 n1 _ _ hK hT S1 q1 fun y env2 n2 w H2 q2 S2 r2 f2=>?_;obtain⟨⟨xs0,e0⟩,q2⟩:=q2;refine⟨by show 2≤sizeLine;decide,fun p hn'=>⟨p,[v,w],rfl,SqT.of a0g,rfl,v,[w],rfl,?_⟩⟩;have sm:Same H2 (upd H2 p (.tup [v,w])):=Same.lay1 hn';generalize upd H2 p (.tup [v,w])=H3 at sm ⊢;have S3:=S2.same sm;obtain⟨a,vs,ev,h1,h2,h3,h4,r⟩:=S3.slots i _ e0;refine⟨.ref a,ev,?_⟩;refine i2 C G σ H3 env2 n2 _ _ hK hT S3 q2 fun d env3 n3 ud H4 q3 S4 r4 f4=>?_
 split at q3
 · rename_i xs d ex
   split at q3
   · rename_i jj ej;obtain⟨a',us,ev',g1,g2,g3,g4,r'⟩:=S4.slots i _ ex;rw [ev] at ev';cases ev';subst hK;obtain⟨S5,f5⟩:=S4.put ex ev (r'.set jj (((r1.fr f2).same sm).fr f4));refine⟨a,us,d,jj,rfl,r4,g4,by rw [← r'.length];exact ej,?_⟩;refine⟨w,[],rfl,.ref a,ev,?_⟩;refine j2 C G σ _ _ n3 _ _ rfl hT S5 q3 fun d2 env5 n5 ud2 H5 q5 S6 r6 f6=>?_
     split at q5
     · rename_i xs2 d2 ex2
       split at q5
       · rename_i jj2 ej2;obtain⟨a',us2,ev',k1,k2,k3,k4,r7⟩:=S6.slots i _ ex2;rw [ev] at ev';cases ev';obtain⟨S7,f7⟩:=S6.put ex2 ev (r7.set jj2 ((((r2.same sm).fr f4).fr f5).fr f6));exact⟨a,us2,d2,jj2,rfl,r6,k4,by rw [← r7.length];exact ej2,rfl,L.nx _ _ _ _ _ q5 S7 (Ext.fr ((((((f1.trans f2).trans (Fr.of sm)).trans f4).trans f5).trans f6).trans f7))⟩
       · exact q5.elim
     · exact q5.elim
   · exact q3.elim
 · exact q3.elim
end
end Pu
end
section
set_option maxHeartbeats 1000000
namespace Pu
open PySem L2
theorem b0S (zs:List Int)(d:Nat):(zs.map PV.int).all (cmpb d)=true:=by
 rw [List.all_map,List.all_eq_true];intro x _;cases d <;> rfl
theorem a2U {tt:pT}{rest:Pu.Env}{α:Type}(f:α→PV)(c:α→Bool):∀(xs:List α) (s0:Option Slot) (n:Nat) (R:List PV→Nat→Prop),(∀x∈xs,∀m Q,Q (c x) (some (.v (f x))::rest) m→tt (some (.v (f x))::rest) m Q)→R ((xs.filter c).map f) n→a5Z (gN 0) tt (qV 0) (xs.map f) (s0::rest) n R
 | [],_,_,_,_,h=>h
 | x :: xs, s0, n, R, ht, h => by
   show tt (some (.v (f x))::rest) n _;refine ht x List.mem_cons_self n _ ?_
   by_cases hc:c x=true
   · rw [if_pos hc];rw [List.filter_cons,if_pos hc] at h;show a5Z (gN 0) tt (qV 0) (xs.map f) (some (.v (f x))::rest) n _;exact a2U f c xs _ n _ (fun y hy=>ht y (List.mem_cons_of_mem _ hy)) h
   · rw [if_neg hc];rw [List.filter_cons,if_neg hc] at h;exact a2U f c xs _ n _ (fun y hy=>ht y (List.mem_cons_of_mem _ hy)) h
end Pu
end
section
set_option maxHeartbeats 1000000
namespace Pu
open PySem PySem.Spec L2
def lt (f t:Int)(k:Nat):Nat:=97 + ((f + (k:Int) * t) % 26).toNat
def a8H:List Int:=[1,3,5,7,9,11,15,17,19,21,23,25]
theorem lt_ne {f t:Int}(ht:t∈a8H)(f0:0≤f){j k:Nat}(hjk:j < k)(hk:k < 26):lt f t j≠lt f t k:=by
 unfold lt;simp only [a8H,List.mem_cons,List.not_mem_nil,or_false] at ht;rcases ht with rfl | rfl | rfl | rfl | rfl | rfl | rfl | rfl | rfl | rfl | rfl | rfl <;> omega
theorem lt_ltr {f t:Int}{k:Nat}:Ltr (lt f t k):=by
 unfold lt Ltr;have:=Int.emod_nonneg (f + (k:Int) * t) (show(26:Int)≠0 by decide);have:=Int.emod_lt_of_pos (f + (k:Int) * t) (show(0:Int) < 26 by decide);omega
theorem lt_at {f t:Int}{k:Nat}:atI LETS.cps.toList ((f + (k:Int) * t) % 26)=some (lt f t k):=
 a9W (Int.emod_nonneg _ (by decide)) (Int.emod_lt_of_pos _ (by decide))
theorem a7S {t:Int}(ht:t∈a8H):-(2 ^ 64) < t∧t < 2 ^ 64:=by
 simp only [a8H,List.mem_cons,List.not_mem_nil,or_false] at ht;rcases ht with rfl | rfl | rfl | rfl | rfl | rfl | rfl | rfl | rfl | rfl | rfl | rfl <;> decide
def LsE (m:Nat)(z:Str):Prop:=z.cps.toList.length=m∧∀c∈z.cps.toList,Ltr c
theorem LsE.more {m:Nat}{z:Str}(h:LsE m z){c:Nat}(hc:Ltr c):LsE (m + 1) (z++⟨#[c]⟩):=by
 refine⟨by rw [a4p,List.length_append,h.1];rfl,fun d hd=>?_⟩;rw [a4p] at hd;rcases List.mem_append.mp hd with hd | hd
 · exact h.2 d hd
 · have:d=c:=by simpa using hd
   rw [this];exact hc
theorem a8R (x:Str){a b:Nat}(h:a≤b)(hb:b≤x.length):(Txt.slice x (some (a:Int)) (some (b:Int))).cps.toList=(x.cps.toList.drop a).take (b - a):=by
 rw [a7n,StrLaws.sliceText_nat x h hb]
theorem a8C {x:Str}{a b c:Nat}(hx:LsE 7 x)(ha:a≤b)(hb:b≤7)(hc:Ltr c) :
   a3B (Txt.slice x none (some (a:Int))++⟨#[c]⟩++Txt.slice x (some (a:Int)) (some (b:Int)))∧(Txt.slice x none (some (a:Int))++⟨#[c]⟩++Txt.slice x (some (a:Int)) (some (b:Int))).cps.toList[a]?=some c:=by
 have lx:x.length=7:=by rw [a2x];exact hx.1
 have e:(Txt.slice x none (some (a:Int))++⟨#[c]⟩++Txt.slice x (some (a:Int)) (some (b:Int))).cps.toList=x.cps.toList.take a++c::(x.cps.toList.drop a).take (b - a):=by
   rw [a4p,a4p,b1k x (by omega),a8R x ha (by omega)];simp
 have lt:(x.cps.toList.take a).length=a:=by rw [List.length_take,hx.1];omega
 have hl:(x.cps.toList.take a++c::(x.cps.toList.drop a).take (b - a)).length=b + 1:=by
   rw [List.length_append,List.length_cons,lt,List.length_take,List.length_drop,hx.1];omega
 refine⟨⟨by rw [e];omega,by rw [e,hl];omega,fun d hd=>?_⟩,?_⟩
 · rw [e] at hd;rcases List.mem_append.mp hd with hd | hd
   · exact hx.2 d (List.mem_of_mem_take hd)
   · rcases List.mem_cons.mp hd with hd | hd
     · rw [hd];exact hc
     · exact hx.2 d (List.mem_of_mem_drop (List.mem_of_mem_take hd))
 · rw [e,List.getElem?_append_right (by omega),lt,Nat.sub_self];rfl
structure NmA (f t:Int)(a:Nat)(zs:List Str)(i:Nat):Prop where
 len:zs.length=i
 nd:zs.Nodup
 own:∀(j:Nat) (z:Str),zs[j]?=some z→z.cps.toList[a]?=some (lt f t j)
 bt:∀z∈zs,a3B z
theorem NmA.more {f t:Int}{a:Nat}{zs:List Str}{i:Nat}(h:NmA f t a zs i)(ht:t∈a8H)(f0:0≤f)(hi:i < 26){z:Str}(hz:a3B z)(hc:z.cps.toList[a]?=some (lt f t i)):NmA f t a (zs++[z]) (i + 1):=by
 refine⟨by rw [List.length_append,h.len];rfl,?_,fun j y e=>?_,fun y hy=>?_⟩
 · rw [List.nodup_append];refine⟨h.nd,by simp,fun x hx y hy e=>?_⟩;rw [List.mem_singleton.mp hy] at e;obtain⟨j,hj,ej⟩:=List.mem_iff_getElem.mp hx;have:=h.own j x (by rw [List.getElem?_eq_getElem hj,ej]);rw [e,hc] at this;exact lt_ne ht f0 (show j < i by rw [← h.len];exact hj) hi (Option.some.inj this).symm
 · by_cases c:j < zs.length
   · rw [List.getElem?_append_left c] at e;exact h.own j y e
   · have hl:=h.len
     have:j=i:=by
       obtain⟨hh,_⟩:=List.getElem?_eq_some_iff.mp e;rw [List.length_append,List.length_singleton] at hh;omega
     subst this;rw [List.getElem?_append_right (by omega),hl,Nat.sub_self] at e;have e':z=y:=by simpa using e
     rw [← e'];exact hc
 · rcases List.mem_append.mp hy with hy | hy
   · exact h.bt y hy
   · rw [List.mem_singleton.mp hy];exact hz
theorem a6G {z:Str}{zs:List Str}:memP (.str z) (zs.map PV.str)=decide (z∈zs):=by
 unfold memP;rw [List.any_map,Bool.eq_iff_iff,List.any_eq_true,decide_eq_true_iff];constructor
 · rintro⟨y,hy,e⟩;have e':decide (y=z)=true:=by rw [← a5X];exact e
   rw [← of_decide_eq_true e'];exact hy
 · intro h;refine⟨z,h,?_⟩;show eqP (.str z) (.str z)=true;rw [a5X];exact decide_eq_true rfl
theorem a7b (zs:List Str)(d:Nat):(zs.map PV.str).all (cmpb d)=true:=by
 rw [List.all_map,List.all_eq_true];intro x _;cases d <;> rfl
theorem b0m {z:Str}{zs:List Str}{P:List PV}(hP:zs.map PV.str=P){R:PV→Prop}(h:R (.bl (decide (z∈zs)))):wIn 4 false (.str z) (.tup P) R:=by
 subst hP;exact⟨rfl,a7b zs 4,by rw [a6G];exact h⟩
theorem b1L {z:Str}{zs:List Str}{P:List PV}(hP:zs.map PV.str=P){R:PV→Prop}(h:R (.bl (!decide (z∈zs)))):wIn 4 true (.str z) (.tup P) R:=by
 subst hP;exact⟨rfl,a7b zs 4,by rw [a6G];exact h⟩
theorem a7x {z:Str}{zs:List Str}{P:List PV}(hP:zs.map PV.str=P){R:PV→Prop}(h:R (.bl (!decide (z∈zs)))):wIn 4 true (.str z) (.lst P) R:=by
 subst hP;exact⟨rfl,a7b zs 4,by rw [a6G];exact h⟩
def RowS (zs:List Str):Prop:=zs.Nodup∧∀z∈zs,a3B z
abbrev rowP (zs:List Str):PV:=.tup (zs.map PV.str)
inductive Ev where
 | d (x:Str) | t (x y:Str)
abbrev DROP:Str:=Str.ofString "drop"
abbrev a6j:Str:=Str.ofString "touch"
def evK:Ev→List Key
 | .d x=>[.inr DROP,.inr x]
 | .t x y=>[.inr a6j,.inr x,.inr y]
def evP (e:Ev):PV:=tupP (evK e)
theorem b0q (x:Str):evP (.d x)=.tup [.str DROP,.str x]:=rfl
theorem a4B (x y:Str):evP (.t x y)=.tup [.str a6j,.str x,.str y]:=rfl
def shP (es:List Ev):PV:=.tup (es.map evP)
def dayP (ds:List (List Ev)):PV:=.tup (ds.map shP)
theorem ev_al (a b:Ev):Al (evK a) (evK b):=by cases a <;> cases b <;> trivial
theorem ev_ne (e:Ev):evK e≠[]:=by cases e <;> simp [evK]
theorem b2P (es:List Ev):∀ys:List PV,(∀y∈ys,y∈es.map evP)→∃es':List Ev,ys=es'.map evP∧∀e∈es',e∈es
 | [],_=>⟨[],rfl,fun _ z=>nomatch z⟩
 | y :: ys, h => by
   obtain⟨e,he,rfl⟩:=List.mem_map.mp (h y List.mem_cons_self);obtain⟨es',rfl,h2⟩:=b2P es ys fun z hz=>h z (List.mem_cons_of_mem _ hz);exact⟨e::es',rfl,fun z hz=>(List.mem_cons.mp hz).elim (fun e'=>e'▸he) (h2 z)⟩
theorem a8x (es:List Ev):b0V (es.map evP):=by
 refine .inr (.inr ⟨fun x hx=>?_,fun x hx y hy=>?_⟩)
 · obtain⟨e,_,rfl⟩:=List.mem_map.mp hx;exact⟨evK e,rfl,ev_ne e⟩
 · obtain⟨e,_,rfl⟩:=List.mem_map.mp hx;obtain⟨e',_,rfl⟩:=List.mem_map.mp hy;unfold evP tupP;rw [a5m,a5m];exact ev_al e e'
theorem b4h {es:List Ev}{ys:List PV}(h:Srt ys (es.map evP)):∃es':List Ev,ys=es'.map evP∧es'.Perm es:=by
 obtain⟨es',rfl,_⟩:=b2P es ys fun y hy=>h.1.mem_iff.mp hy;refine⟨es',rfl,?_⟩;have:=h.1;clear h
 have inj:∀{a b:List Ev},(a.map evP).Perm (b.map evP)→a.Perm b:=by
   intro a b p;have h1:=p.map fun y=>(match y with | .tup [_,.str x]=>Ev.d x | .tup [_,.str x,.str y]=>Ev.t x y | _=>Ev.d (Str.ofString ""));rw [List.map_map,List.map_map] at h1
   have e:((fun y=>(match y with | PV.tup [_,.str x]=>Ev.d x | .tup [_,.str x,.str y]=>Ev.t x y | _=>Ev.d (Str.ofString "")))∘evP)=id:=by
     funext e
     cases e <;> rfl
   rw [e,List.map_id,List.map_id] at h1;exact h1
 exact inj this
def evB:Ev→List Str
 | .d x=>[x]
 | .t x y=>[x,y]
theorem a3c {es es':List Ev}(h:es'.Perm es):(es'.flatMap evB).Perm (es.flatMap evB):=h.flatMap_right evB
theorem b3L {zs:List Str}(nd:zs.Nodup){i j:Nat}{z:Str}(h1:zs[i]?=some z)(h2:zs[j]?=some z):i=j:=by
 obtain⟨l1,e1⟩:=List.getElem?_eq_some_iff.mp h1;obtain⟨l2,e2⟩:=List.getElem?_eq_some_iff.mp h2;rcases Nat.lt_trichotomy i j with h | h | h
 · exact absurd (e1.trans e2.symm) (List.pairwise_iff_getElem.mp nd i j l1 l2 h)
 · exact h
 · exact absurd (e2.trans e1.symm) (List.pairwise_iff_getElem.mp nd j i l2 l1 h)
def ixS (zs:List Str)(z:Str):Nat:=zs.findIdx fun y=>decide (y=z)
theorem a2v {zs:List Str}{z:Str}(h:z∈zs):zs[ixS zs z]?=some z∧∀i,i < ixS zs z→zs[i]?≠some z:=by
 unfold ixS;have hl:zs.findIdx (fun y=>decide (y=z)) < zs.length:=List.findIdx_lt_length_of_exists ⟨z,h,by simp⟩;refine⟨?_,fun i hi e=>?_⟩
 · rw [List.getElem?_eq_getElem hl];have:=List.findIdx_getElem (w:=hl);rw [of_decide_eq_true this]
 · have:=List.not_of_lt_findIdx hi;obtain⟨l1,e1⟩:=List.getElem?_eq_some_iff.mp e;rw [e1] at this;simp at this
theorem a2k {zs:List Str}{z:Str}(h:z∈zs):ixS zs z < zs.length:=(List.getElem?_eq_some_iff.mp (a2v h).1).1
theorem m_ix {zs:List Str}{z:Str}{P:List PV}(hP:zs.map PV.str=P)(h:z∈zs)(hl:zs.length≤1000000){R:PV→Prop}(q:R (.int (ixS zs z))):a3r (.tup P) (.str z) R:=by
 subst hP;unfold a3r;dsimp only;rw [a3K];exact⟨hl,ixS zs z,(a2v h).1,(a2v h).2,q⟩
end Pu
end
section
set_option maxHeartbeats 1000000
namespace Pu
open PySem PySem.Spec L2
inductive Mk where
 | d | o | t | u
 deriving DecidableEq
def mkS:Mk→Str
 | .d=>Str.ofString "d"
 | .o=>Str.ofString "o"
 | .t=>Str.ofString "t"
 | .u=>Str.ofString "u"
def mkP (m:Mk):PV:=.str (mkS m)
theorem mk_t (m:Mk):decide (mkS m=Str.ofString "t")=decide (m=.t):=by cases m <;> decide +kernel
theorem mk_u (m:Mk):decide (mkS m=Str.ofString "u")=decide (m=.u):=by cases m <;> decide +kernel
theorem mk_d (m:Mk):decide (mkS m=Str.ofString "d")=decide (m=.d):=by cases m <;> decide +kernel
def run (r:Int):Nat→List Nat→List Mk→Option (List Nat)
 | _,st,[]=>some st
 | k,st,.t::m=>run r (k + 1) (k::st) m
 | k,st,.d::m=>run r (k + 1) st m
 | k,[],.o::m=>run r (k + 1) [] m
 | _,_::_,.o::_=>none
 | _,[],.u::_=>none
 | k,p::st,.u::m=>if(k:Int) - p - 1≤r then run r (k + 1) st m else none
theorem a1J {r:Int}:∀(a:List Mk) (k:Nat) (st:List Nat) (b:List Mk),run r k st (a++b)=(run r k st a).bind fun st'=>run r (k + a.length) st' b
 | [],k,st,b=>rfl
 | .t :: a, k, st, b => by
   rw [List.cons_append];show run r (k + 1) (k::st) (a++b)=(run r (k + 1) (k::st) a).bind _;rw [a1J a,List.length_cons,show k + 1 + a.length=k + (a.length + 1) by omega]
 | .d :: a, k, st, b => by
   rw [List.cons_append];show run r (k + 1) st (a++b)=(run r (k + 1) st a).bind _;rw [a1J a,List.length_cons,show k + 1 + a.length=k + (a.length + 1) by omega]
 | .o :: a, k, [], b => by
   rw [List.cons_append];show run r (k + 1) [] (a++b)=(run r (k + 1) [] a).bind _;rw [a1J a,List.length_cons,show k + 1 + a.length=k + (a.length + 1) by omega]
 | .o::a,k,p::st,b=>rfl
 | .u::a,k,[],b=>rfl
 | .u :: a, k, p :: st, b => by
   rw [List.cons_append];show(if(k:Int) - p - 1≤r then run r (k + 1) st (a++b) else none)=(if(k:Int) - p - 1≤r then run r (k + 1) st a else none).bind _
   split
   · rw [a1J a,List.length_cons,show k + 1 + a.length=k + (a.length + 1) by omega]
   · rfl
def Cl (r:Int)(k:Nat)(m:List Mk):Prop:=∀st,run r k st m=some st
theorem Cl.app {r:Int}{k:Nat}{a b:List Mk}(h1:Cl r k a)(h2:Cl r (k + a.length) b):Cl r k (a++b):=fun st=>by rw [a1J,h1 st];exact h2 st
theorem Cl.nil {r:Int}{k:Nat}:Cl r k []:=fun _=>rfl
theorem Cl.d {r:Int}{k:Nat}{m:List Mk}(h:Cl r (k + 1) m):Cl r k (.d::m):=fun st=>h st
theorem Cl.tu {r:Int}{k:Nat}{m:List Mk}(h:Cl r (k + 1) m)(hl:(m.length:Int)≤r):Cl r k (.t::m++[.u]):=fun st=>by
 show run r (k + 1) (k::st) (m++[.u])=some st;rw [a1J,h (k::st)];show(if((k + 1 + m.length:Nat):Int) - k - 1≤r then some st else none)=some st;rw [if_pos (by omega)]
def Seg (r:Int):List Nat→List Mk→Prop
 | [],m=>run r 0 [] m=some []
 | p::ps,m=>∃m1 m2,m=m1++.d::m2∧m1.length=p∧Cl r (p + 1) m2∧Seg r ps m1
theorem Seg.app {r:Int}:∀{ps:List Nat} {m b:List Mk},Seg r ps m→Cl r m.length b→Seg r ps (m++b)
 | [], m, b, h, hb => by
   show run r 0 [] (m++b)=some [];rw [a1J,show run r 0 [] m=some [] from h,Nat.zero_add];exact hb []
 | p :: ps, m, b, h, hb => by
   obtain⟨m1,m2,rfl,e,h2,h3⟩:=h;refine⟨m1,m2++b,by simp,e,h2.app ?_,h3⟩;rw [List.length_append,List.length_cons,e] at hb;rw [show p + 1 + m2.length=p + (m2.length + 1) by omega];exact hb
theorem Seg.wrd {r:Int}:∀{ps:List Nat} {m:List Mk},Seg r ps m→run r 0 [] m=some []
 | [],m,h=>h
 | p :: ps, m, h => by
   obtain⟨m1,m2,rfl,e,h2,h3⟩:=h;rw [a1J,Seg.wrd h3,Nat.zero_add,e];exact h2 []
theorem Seg.len {r:Int}:∀{ps:List Nat} {m:List Mk},Seg r ps m→ps.length≤m.length
 | [],m,_=>Nat.zero_le _
 | p :: ps, m, h => by
   obtain⟨m1,m2,rfl,e,h2,h3⟩:=h;have:=Seg.len h3;rw [List.length_cons,List.length_append,List.length_cons];omega
theorem Seg.push {r:Int}{ps:List Nat}{m:List Mk}(h:Seg r ps m):Seg r (m.length::ps) (m++[.d]):=⟨m,[],rfl,rfl,.nil,h⟩
theorem Seg.over {r:Int}{m:List Mk}(h:Seg r [] m):Seg r [] (m++[.o]):=by
 show run r 0 [] (m++[.o])=some [];rw [a1J,show run r 0 [] m=some [] from h]
 rfl
theorem Seg.drop {r:Int}{ps:List Nat}{m:List Mk}(h:Seg r ps m):Seg r ps (m++[.d]):=h.app (Cl.d .nil)
theorem Seg.popd {r:Int}{p:Nat}{ps:List Nat}{m:List Mk}(h:Seg r (p::ps) m):p < m.length∧m.set p .d=m∧Seg r ps m:=by
 obtain⟨m1,m2,rfl,rfl,h2,h3⟩:=h;refine⟨by simp,by simp,h3.app (Cl.d h2)⟩
theorem Seg.popt {r:Int}{p:Nat}{ps:List Nat}{m:List Mk}(h:Seg r (p::ps) m)(hr:(m.length:Int) - p - 1≤r):p < m.length∧Seg r ps (m.set p .t++[.u]):=by
 obtain⟨m1,m2,rfl,rfl,h2,h3⟩:=h;refine⟨by simp,?_⟩;have e:(m1++Mk.d::m2).set m1.length .t++[.u]=m1++(.t::m2++[.u]):=by simp
 rw [e];refine h3.app (Cl.tu h2 ?_);rw [List.length_append,List.length_cons] at hr;omega
inductive PE where
 | d (i:Nat) | t (i j:Nat)
def peB:PE→List Nat
 | .d i=>[i]
 | .t i j=>[i,j]
def shE:Nat→List Nat→List Mk→List PE
 | _,_,[]=>[]
 | k,st,.t::m=>shE (k + 1) (k::st) m
 | k,st,.d::m=>.d k::shE (k + 1) st m
 | k,st,.o::m=>shE (k + 1) st m
 | k,[],.u::m=>shE (k + 1) [] m
 | k,p::st,.u::m=>.t k p::shE (k + 1) st m
theorem a4F:∀(m:List Mk) (k:Nat) (st:List Nat),st.Nodup→(∀p∈st,p < k)→((shE k st m).flatMap peB).Nodup∧∀q∈(shE k st m).flatMap peB,q∈st∨(k≤q∧q < k + m.length)
 | [],k,st,_,_=>⟨by simp [shE],fun q hq=>by simp [shE] at hq⟩
 | .t :: m, k, st, nd, hs => by
   obtain⟨h1,h2⟩:=a4F m (k + 1) (k::st) (List.nodup_cons.mpr ⟨fun z=>absurd (hs k z) (Nat.lt_irrefl k),nd⟩) (fun p hp=>(List.mem_cons.mp hp).elim (fun e=>by omega) fun hp=>by have:=hs p hp;omega);refine⟨h1,fun q hq=>?_⟩;rw [List.length_cons];rcases h2 q hq with h | h
   · rcases List.mem_cons.mp h with rfl | h
     · exact .inr ⟨Nat.le_refl _,by omega⟩
     · exact .inl h
   · exact .inr (by omega)
 | .d :: m, k, st, nd, hs => by
   obtain⟨h1,h2⟩:=a4F m (k + 1) st nd (fun p hp=>by have:=hs p hp;omega);show((PE.d k::shE (k + 1) st m).flatMap peB).Nodup∧∀q∈(PE.d k::shE (k + 1) st m).flatMap peB,_;simp only [List.flatMap_cons,peB,List.cons_append,List.nil_append];refine⟨List.nodup_cons.mpr ⟨fun z=>?_,h1⟩,fun q hq=>?_⟩
   · rcases h2 k z with h | h
     · exact absurd (hs k h) (Nat.lt_irrefl k)
     · omega
   · rw [List.length_cons];rcases List.mem_cons.mp hq with rfl | hq
     · exact .inr (by omega)
     · rcases h2 q hq with h | h
       · exact .inl h
       · exact .inr (by omega)
 | .o :: m, k, st, nd, hs => by
   obtain⟨h1,h2⟩:=a4F m (k + 1) st nd (fun p hp=>by have:=hs p hp;omega);refine⟨by unfold shE;exact h1,fun q hq=>?_⟩;unfold shE at hq;rw [List.length_cons];rcases h2 q hq with h | h
   · exact .inl h
   · exact .inr (by omega)
 | .u :: m, k, [], nd, hs => by
   obtain⟨h1,h2⟩:=a4F m (k + 1) [] nd (fun p hp=>by have:=hs p hp;omega);refine⟨by unfold shE;exact h1,fun q hq=>?_⟩;unfold shE at hq;rw [List.length_cons];rcases h2 q hq with h | h
   · exact .inl h
   · exact .inr (by omega)
 | .u :: m, k, p :: st, nd, hs => by
   obtain⟨np,nd'⟩:=List.nodup_cons.mp nd;have hp:=hs p List.mem_cons_self;obtain⟨h1,h2⟩:=a4F m (k + 1) st nd' (fun q hq=>by have:=hs q (List.mem_cons_of_mem _ hq);omega);show((PE.t k p::shE (k + 1) st m).flatMap peB).Nodup∧∀q∈(PE.t k p::shE (k + 1) st m).flatMap peB,_;simp only [List.flatMap_cons,peB,List.cons_append,List.nil_append];refine⟨List.nodup_cons.mpr ⟨fun z=>?_,List.nodup_cons.mpr ⟨fun z=>?_,h1⟩⟩,fun q hq=>?_⟩
   · rcases List.mem_cons.mp z with z | z
     · omega
     · rcases h2 k z with h | h
       · have:=hs k (List.mem_cons_of_mem _ h);omega
       · omega
   · rcases h2 p z with h | h
     · exact np h
     · omega
   · rw [List.length_cons];rcases List.mem_cons.mp hq with rfl | hq
     · exact .inr (by omega)
     · rcases List.mem_cons.mp hq with rfl | hq
       · exact .inl List.mem_cons_self
       · rcases h2 q hq with h | h
         · exact .inl (List.mem_cons_of_mem _ h)
         · exact .inr (by omega)
def nm (zs:List Str)(i:Nat):Str:=zs.getD i (Str.ofString "")
def evOf (zs:List Str):PE→Ev
 | .d i=>.d (nm zs i)
 | .t i j=>.t (nm zs i) (nm zs j)
theorem evB_of (zs:List Str)(e:PE):evB (evOf zs e)=(peB e).map (nm zs):=by cases e <;> rfl
theorem a6T (zs:List Str)(es:List PE):(es.map (evOf zs)).flatMap evB=(es.flatMap peB).map (nm zs):=by
 induction es with
 | nil=>rfl
 | cons e es ih=>rw [List.map_cons,List.flatMap_cons,List.flatMap_cons,List.map_append,ih,evB_of]
theorem a6E {zs:List Str}{i:Nat}(h:i < zs.length):zs[i]?=some (nm zs i):=by
 unfold nm;rw [List.getD_eq_getElem?_getD,List.getElem?_eq_getElem h];rfl
theorem b2I {zs:List Str}{i:Nat}(h:i < zs.length):nm zs i∈zs:=List.mem_of_getElem? (a6E h)
theorem nm_inj {zs:List Str}(nd:zs.Nodup){i j:Nat}(hi:i < zs.length)(hj:j < zs.length)(h:nm zs i=nm zs j):i=j:=b3L nd (a6E hi) (by rw [h];exact a6E hj)
structure Fair (zs:List Str)(es:List Ev):Prop where
 nd:(es.flatMap evB).Nodup
 sub:∀b∈es.flatMap evB,b∈zs
theorem a5M {α β:Type}(f:α→β):∀{l:List α},l.Nodup→(∀a∈l,∀b∈l,f a=f b→a=b)→(l.map f).Nodup
 | [],_,_=>by simp
 | a :: l, h, hf => by
   obtain⟨h1,h2⟩:=List.nodup_cons.mp h;rw [List.map_cons,List.nodup_cons];refine⟨fun z=>?_,a5M f h2 fun x hx y hy=>hf x (List.mem_cons_of_mem _ hx) y (List.mem_cons_of_mem _ hy)⟩;obtain⟨b,hb,e⟩:=List.mem_map.mp z;exact h1 (hf b (List.mem_cons_of_mem _ hb) a List.mem_cons_self e▸hb)
theorem b4f {zs:List Str}(nd:zs.Nodup){m:List Mk}(hl:m.length=zs.length):Fair zs ((shE 0 [] m).map (evOf zs)):=by
 obtain⟨h1,h2⟩:=a4F m 0 [] (by simp) (fun _ z=>nomatch z)
 have h3:∀q∈(shE 0 [] m).flatMap peB,q < zs.length:=fun q hq=>by
   rcases h2 q hq with h | h
   · cases h
   · omega
 refine⟨?_,fun b hb=>?_⟩
 · rw [a6T];exact a5M _ h1 fun a ha b hb e=>nm_inj nd (h3 a ha) (h3 b hb) e
 · rw [a6T] at hb;obtain⟨q,hq,rfl⟩:=List.mem_map.mp hb;exact b2I (h3 q hq)
theorem Fair.perm {zs:List Str}{es es':List Ev}(h:Fair zs es)(p:es'.Perm es):Fair zs es':=
 ⟨(a3c p).nodup_iff.mpr h.nd,fun b hb=>h.sub b ((a3c p).mem_iff.mp hb)⟩
def setE (st f:List Str):Ev→List Str
 | .d _=>f
 | .t x y=>(f.set (ixS st x) y).set (ixS st y) x
def exch (f:List Str)(i j:Nat):List Str:=(f.set i (nm f j)).set j (nm f i)
def exE (st f:List Str):Ev→List Str
 | .d _=>f
 | .t x y=>exch f (ixS st x) (ixS st y)
def aft (st:List Str)(es:List Ev):List Str:=es.foldl (setE st) st
def rbh (st:List Str)(es:List Ev):List Str:=es.foldl (exE st) st
theorem b0h {zs:List Str}{x y:Str}(hx:x∈zs)(hy:y∈zs)(h:ixS zs x=ixS zs y):x=y:=by
 have h1:=(a2v hx).1;rw [h,(a2v hy).1] at h1;exact(Option.some.inj h1).symm
theorem a4s {st:List Str}:∀(es:List Ev) (f:List Str),(es.flatMap evB).Nodup→(∀b∈es.flatMap evB,b∈st∧f[ixS st b]?=some b)→es.foldl (setE st) f=es.foldl (exE st) f
 | [],f,_,_=>rfl
 | .d x :: es, f, nd, h => by
   simp only [List.flatMap_cons,evB,List.cons_append,List.nil_append] at nd h;exact a4s es f (List.nodup_cons.mp nd).2 fun b hb=>h b (List.mem_cons_of_mem _ hb)
 | .t x y :: es, f, nd, h => by
   simp only [List.flatMap_cons,evB,List.cons_append,List.nil_append] at nd h;obtain⟨nx,nd1⟩:=List.nodup_cons.mp nd;obtain⟨ny,nd2⟩:=List.nodup_cons.mp nd1;obtain⟨hx1,hx2⟩:=h x List.mem_cons_self;obtain⟨hy1,hy2⟩:=h y (List.mem_cons_of_mem _ List.mem_cons_self)
   have e:setE st f (.t x y)=exE st f (.t x y):=by
     show(f.set (ixS st x) y).set (ixS st y) x=exch f (ixS st x) (ixS st y);unfold exch nm;rw [List.getD_eq_getElem?_getD,List.getD_eq_getElem?_getD,hx2,hy2];rfl
   rw [List.foldl_cons,List.foldl_cons,e];refine a4s es _ nd2 fun b hb=>?_;obtain⟨hb1,hb2⟩:=h b (List.mem_cons_of_mem _ (List.mem_cons_of_mem _ hb));refine⟨hb1,?_⟩;rw [← e];show((f.set (ixS st x) y).set (ixS st y) x)[ixS st b]?=some b;have bx:ixS st x≠ixS st b:=fun z=>nx (by rw [b0h hx1 hb1 z];exact List.mem_cons_of_mem _ hb);have by_:ixS st y≠ixS st b:=fun z=>ny (by rw [b0h hy1 hb1 z];exact hb);rw [List.getElem?_set_ne by_,List.getElem?_set_ne bx];exact hb2
theorem b0T {st:List Str}{es:List Ev}(h:Fair st es):aft st es=rbh st es:=a4s es st h.nd fun b hb=>⟨h.sub b hb,(a2v (h.sub b hb)).1⟩
theorem b1n (st f:List Str)(e:Ev):(setE st f e).length=f.length:=by cases e <;> simp [setE]
theorem a7c (st:List Str)(es:List Ev):(aft st es).length=st.length:=by
 unfold aft
 have:∀(es:List Ev) (f:List Str),(es.foldl (setE st) f).length=f.length:=by
   intro es
   induction es with
   | nil=>intro f;rfl
   | cons e es ih=>intro f;rw [List.foldl_cons,ih,b1n]
 exact this es st
theorem b0p {f:List Str}{i j:Nat}(hi:i < f.length)(hj:j < f.length):(exch f i j).Perm f:=by
 unfold exch nm;rw [List.getD_eq_getElem?_getD,List.getD_eq_getElem?_getD,List.getElem?_eq_getElem hi,List.getElem?_eq_getElem hj];show((f.set i f[j]).set j f[i]).Perm f;exact List.set_set_perm hi hj
theorem b1r {st:List Str}{es:List Ev}(h:∀b∈es.flatMap evB,b∈st):(rbh st es).Perm st:=by
 unfold rbh
 have:∀(es:List Ev) (f:List Str),(∀b∈es.flatMap evB,b∈st)→f.length=st.length→(es.foldl (exE st) f).Perm f:=by
   intro es
   induction es with
   | nil=>intro f _ _;exact List.Perm.refl _
   | cons e es ih =>
     intro f hb hl;rw [List.foldl_cons]
     have p:(exE st f e).Perm f:=by
       cases e with
       | d x=>exact List.Perm.refl _
       | t x y=>exact b0p (by rw [hl];exact a2k (hb x (by simp [evB]))) (by rw [hl];exact a2k (hb y (by simp [evB])))
     exact(ih _ (fun b h=>hb b (by rw [List.flatMap_cons];exact List.mem_append_right _ h)) (by rw [p.length_eq,hl])).trans p
 exact this es st h rfl
theorem a3m {α β:Type}{f:α→β}{l:List α}{i:Nat}{y:β}(h:(l.map f)[i]?=some y):∃x,l[i]?=some x∧y=f x:=by
 rw [List.getElem?_map] at h;cases e:l[i]? with
 | none=>rw [e] at h;cases h
 | some x=>rw [e] at h;exact⟨x,rfl,(Option.some.inj h).symm⟩
theorem a7h {α:Type}{l:List α}{i:Nat}{x:α}(h:l[i]?=some x):l.take (i + 1)=l.take i++[x]:=by
 rw [List.take_add_one,h];rfl
theorem a8Z {j:Int}{m i:Nat}{x:PV}(h:((List.range m).map fun(k:Nat)=>PV.int (j - 1 - k))[i]?=some x):i < m∧x=.int (j - 1 - i):=by
 rw [List.getElem?_map] at h;cases e:(List.range m)[i]? with
 | none=>rw [e] at h;cases h
 | some y =>
   rw [e] at h;obtain⟨h1,h2⟩:=List.getElem?_eq_some_iff.mp e;rw [List.getElem_range] at h2;subst h2;rw [List.length_range] at h1;exact⟨h1,(Option.some.inj h).symm⟩
theorem a8Y {j:Int}{m:Nat}:((List.range m).map fun(k:Nat)=>PV.int (j - 1 - k)).length=m:=by simp
theorem b0B {α:Type}(xs:List α){a b:Nat}(h:b≤xs.length):cutP xs (some (a:Int)) (some (b:Int))=(xs.take b).drop a:=by
 unfold cutP;rw [HT.sIx_nat,HT.sIx_nat,Nat.min_eq_left h,List.drop_take];rcases Nat.le_total a xs.length with h2 | h2
 · rw [Nat.min_eq_left h2]
 · rw [Nat.min_eq_right h2,List.drop_of_length_le (Nat.le_refl _),List.drop_of_length_le h2];simp
theorem b2X {α:Type}(xs:List α)(b:Nat):cutP xs none (some (b:Int))=xs.take b:=by
 unfold cutP;rw [HT.sIx_none,HT.sIx_nat,List.drop_zero,Nat.sub_zero];rcases Nat.le_total b xs.length with h2 | h2
 · rw [Nat.min_eq_left h2]
 · rw [Nat.min_eq_right h2,List.take_of_length_le (Nat.le_refl _),List.take_of_length_le h2]
theorem b2W {α:Type}(xs:List α)(a:Nat):cutP xs (some (a:Int)) none=xs.drop a:=by
 unfold cutP;rw [HT.sIx_nat,HT.sIx_none];rcases Nat.le_total a xs.length with h2 | h2
 · rw [Nat.min_eq_left h2];exact List.take_of_length_le (by rw [List.length_drop];exact Nat.le_refl _)
 · rw [Nat.min_eq_right h2,List.drop_of_length_le h2,List.drop_of_length_le (Nat.le_refl _)];simp
def hiN (s n k:Nat):Nat:=min (k * s + s) (n - 1)
def a0D (s n k:Nat)(row:List Str):List Str:=(row.take (hiN s n k + 1)).drop (k * s)
def putN (s n k:Nat)(row b:List Str):List Str:=row.take (k * s)++b++row.drop (hiN s n k + 1)
theorem a7V {s n k:Nat}{row:List Str}:∀z∈a0D s n k row,z∈row:=fun z hz=>List.mem_of_mem_take (List.mem_of_mem_drop hz)
theorem a3a {s n k:Nat}{row:List Str}(h:RowS row):RowS (a0D s n k row):=
 ⟨(h.1.sublist (List.take_sublist _ _)).sublist (List.drop_sublist _ _),fun z hz=>h.2 z (a7V z hz)⟩
theorem a1E {s n k:Nat}{row:List Str}(hn:row.length=n)(h1:1≤n):(a0D s n k row).length=hiN s n k + 1 - k * s:=by
 unfold a0D;rw [List.length_drop,List.length_take,hn];have:hiN s n k + 1≤n:=by unfold hiN;omega
 omega
theorem b1B {s n k:Nat}{row b:List Str}(hn:row.length=n)(h1:1≤n)(hk:k * s≤hiN s n k)(hb:b.length=(a0D s n k row).length):(putN s n k row b).length=n:=by
 unfold putN;rw [List.length_append,List.length_append,hb,a1E hn h1,List.length_take,List.length_drop,hn];have:hiN s n k + 1≤n:=by unfold hiN;omega
 omega
theorem a8X {s n k:Nat}{row:List Str}(hk:k * s≤hiN s n k + 1):row.take (k * s)++a0D s n k row++row.drop (hiN s n k + 1)=row:=by
 unfold a0D;have e1:row.take (k * s)=(row.take (hiN s n k + 1)).take (k * s):=by rw [List.take_take,Nat.min_eq_left hk]
 rw [e1,List.take_append_drop,List.take_append_drop]
theorem a9r {s n k:Nat}{row b:List Str}(hk:k * s≤hiN s n k + 1)(p:b.Perm (a0D s n k row)):(putN s n k row b).Perm row:=by
 have h1:(putN s n k row b).Perm (row.take (k * s)++a0D s n k row++row.drop (hiN s n k + 1)):=(p.append_left _).append_right _;rw [a8X hk] at h1;exact h1
theorem RowS.perm {a b:List Str}(h:RowS a)(p:b.Perm a):RowS b:=⟨p.nodup_iff.mpr h.1,fun z hz=>h.2 z (p.mem_iff.mp hz)⟩
theorem at2_0 {α:Type}{a b:α}:atI [a,b] 0=some a:=rfl
theorem at2_1 {α:Type}{a b:α}:atI [a,b] 1=some b:=rfl
theorem at3_0 {α:Type}{a b c:α}:atI [a,b,c] 0=some a:=rfl
theorem at3_1 {α:Type}{a b c:α}:atI [a,b,c] 1=some b:=rfl
theorem at3_2 {α:Type}{a b c:α}:atI [a,b,c] 2=some c:=rfl
theorem a4M:decide (DROP=Str.ofString "touch")=false:=by decide +kernel
theorem a7U:decide (a6j=Str.ofString "drop")=false:=by decide +kernel
def isTo:Ev→Bool
 | .d _=>false
 | .t _ _=>true
theorem b4g (st f:List Str)(e:Ev):(exE st f e).length=f.length:=by cases e <;> simp [exE,exch]
theorem a6S (st:List Str):∀(es:List Ev) (f:List Str),(es.foldl (exE st) f).length=f.length
 | [],f=>rfl
 | e::es,f=>by rw [List.foldl_cons,a6S st es,b4g]
theorem a6q (st:List Str):∀(es:List Ev) (f:List Str),(es.filter isTo).foldl (exE st) f=es.foldl (exE st) f
 | [],f=>rfl
 | .d x::es,f=>a6q st es f
 | .t x y :: es, f => by
   rw [List.filter_cons,if_pos (show isTo (.t x y)=true from rfl),List.foldl_cons,List.foldl_cons];exact a6q st es _
end Pu
end
section
set_option maxHeartbeats 1000000
namespace Pu
open PySem PySem.Spec L2
inductive Dy (P:List Str→List Ev→Prop)(s n mx:Nat)(row:List Str):Nat→List (List Ev)→List (List Str)→List Str→Prop where
 | nil:Dy P s n mx row 0 [] [] row
 | cons {i:Nat} {ess:List (List Ev)} {sts:List (List Str)} {r:List Str} {es:List Ev} (h:Dy P s n mx row i ess sts r) (hi:i < mx) (hp:P (a0D s n (mx - 1 - i) r) es) :
     Dy P s n mx row (i + 1) (es::ess) (a0D s n (mx - 1 - i) r::sts) (putN s n (mx - 1 - i) r (aft (a0D s n (mx - 1 - i) r) es))
section
variable {P:List Str→List Ev→Prop}{s n mx:Nat}{row:List Str}
theorem Dy.len {i:Nat}{ess:List (List Ev)}{sts:List (List Str)}{r:List Str}(h:Dy P s n mx row i ess sts r):ess.length=i∧sts.length=i:=by
 induction h with
 | nil=>exact⟨rfl,rfl⟩
 | cons _ _ _ ih=>exact⟨by rw [List.length_cons,ih.1],by rw [List.length_cons,ih.2]⟩
theorem Dy.down {i:Nat}{es:List Ev}{st:List Str}{ess:List (List Ev)}{sts:List (List Str)}{r:List Str}(h:Dy P s n mx row (i + 1) (es::ess) (st::sts) r) :
   ∃r',Dy P s n mx row i ess sts r'∧st=a0D s n (mx - 1 - i) r'∧r=putN s n (mx - 1 - i) r' (aft st es)∧P st es∧i < mx:=by
 cases h with
 | cons h hi hp=>exact⟨_,h,rfl,rfl,hp,hi⟩
theorem Dy.det {i:Nat}{ess:List (List Ev)}{sts:List (List Str)}{r r':List Str}(h:Dy P s n mx row i ess sts r)(h':Dy P s n mx row i ess sts r'):r=r':=by
 induction h generalizing r' with
 | nil=>cases h';rfl
 | cons h hi hp ih =>
   obtain⟨r2,h2,e2,e3,_,_⟩:=h'.down;rw [e3,ih h2]
theorem Dy.tail {i:Nat}{ess:List (List Ev)}{sts:List (List Str)}{r:List Str}(h:Dy P s n mx row i ess sts r):∀j,j≤i→∃r',Dy P s n mx row j (ess.drop (i - j)) (sts.drop (i - j)) r':=by
 induction h with
 | nil=>intro j hj;exact⟨row,by rw [show j=0 by omega];exact .nil⟩
 | @cons i ess sts r es h hi hp ih =>
   intro j hj
   by_cases c:j=i + 1
   · subst c;rw [Nat.sub_self];exact⟨_,.cons h hi hp⟩
   · obtain⟨r',h'⟩:=ih j (by omega);refine⟨r',?_⟩;rw [show i + 1 - j=(i - j) + 1 by omega,List.drop_succ_cons,List.drop_succ_cons];exact h'
theorem Dy.at {ess:List (List Ev)}{sts:List (List Str)}{r:List Str}(h:Dy P s n mx row mx ess sts r){i:Nat}(hi:i < mx) :
   ∃ es st r', ess[mx - 1 - i]? = some es ∧ sts[mx - 1 - i]? = some st ∧ ess.drop (mx - (i + 1)) = es :: ess.drop (mx - i) ∧ sts.drop (mx - (i + 1)) = st :: sts.drop (mx - i) ∧
     Dy P s n mx row i (ess.drop (mx - i)) (sts.drop (mx - i)) r'∧st=a0D s n (mx - 1 - i) r'∧P st es∧Dy P s n mx row (i + 1) (ess.drop (mx - (i + 1))) (sts.drop (mx - (i + 1))) (putN s n (mx - 1 - i) r' (aft st es)):=by
 obtain⟨l1,l2⟩:=h.len;obtain⟨r2,h2⟩:=h.tail (i + 1) (by omega)
 have e1:ess.drop (mx - (i + 1))=ess[mx - 1 - i]::ess.drop (mx - i):=by
   rw [show mx - (i + 1)=mx - 1 - i by omega,List.drop_eq_getElem_cons (by omega),show mx - 1 - i + 1=mx - i by omega]
 have e2:sts.drop (mx - (i + 1))=sts[mx - 1 - i]::sts.drop (mx - i):=by
   rw [show mx - (i + 1)=mx - 1 - i by omega,List.drop_eq_getElem_cons (by omega),show mx - 1 - i + 1=mx - i by omega]
 have h3:=h2;rw [e1,e2] at h3;obtain⟨r',d,es,er,hp,_⟩:=h3.down;refine⟨_,_,r',List.getElem?_eq_getElem (by omega),List.getElem?_eq_getElem (by omega),e1,e2,d,es,hp,?_⟩;rw [← er];exact h2
theorem b2D {s n:Nat}(h1:1≤s)(hn:1≤n){k:Nat}(hk:k < (n + s - 1) / s):k * s≤n - 1:=by
 have:(n + s - 1) / s * s≤n + s - 1:=Nat.div_mul_le_self _ _;have h2:(k + 1) * s≤(n + s - 1) / s * s:=Nat.mul_le_mul_right s hk;rw [Nat.add_mul,Nat.one_mul] at h2;omega
theorem a5a {s n:Nat}(h1:1≤s)(hn:1≤n):(n + s - 1) / s≤n:=by
 refine Nat.div_le_of_le_mul ?_;obtain⟨n,rfl⟩:∃k,n=k + 1:=⟨n - 1,by omega⟩;have:s * (n + 1)=s * n + s:=Nat.mul_succ s n;have:n≤s * n:=Nat.le_mul_of_pos_left n h1;omega
theorem lo_hi {s n k:Nat}(h:k * s≤n - 1):k * s≤hiN s n k:=by unfold hiN;omega
theorem Dy.rows (h1:1≤s)(hn:1≤n)(hmx:mx=(n + s - 1) / s)(hf:∀st es,P st es→Fair st es)(hr:RowS row)(hl:row.length=n){i:Nat}{ess:List (List Ev)}{sts:List (List Str)}{r:List Str}(h:Dy P s n mx row i ess sts r):RowS r∧r.length=n:=by
 induction h with
 | nil=>exact⟨hr,hl⟩
 | @cons i ess sts r es h hi hp ih =>
   have f:=hf _ _ hp;have kh:=lo_hi (s:=s) (n:=n) (b2D h1 hn (show mx - 1 - i < (n + s - 1) / s by omega));refine⟨ih.1.perm (a9r (by omega) ?_),b1B ih.2 hn kh (a7c _ _)⟩;rw [b0T f];exact b1r f.sub
theorem Dy.mem (h1:1≤s)(hn:1≤n)(hmx:mx=(n + s - 1) / s)(hf:∀st es,P st es→Fair st es)(hr:RowS row)(hl:row.length=n){i:Nat}{ess:List (List Ev)}{sts:List (List Str)}{r:List Str}(h:Dy P s n mx row i ess sts r) :
   (∀es∈ess,∃st,P st es∧RowS st∧st.length≤n)∧∀st∈sts,RowS st∧st.length≤n:=by
 induction h with
 | nil=>exact⟨(fun _ z=>nomatch z),(fun _ z=>nomatch z)⟩
 | @cons i ess sts r es h hi hp ih =>
   obtain⟨rS,rL⟩:=h.rows h1 hn hmx hf hr hl;have a:=a3a (s:=s) (n:=n) (k:=mx - 1 - i) rS;have b:(a0D s n (mx - 1 - i) r).length≤n:=by rw [a1E rL hn];unfold hiN;omega
   refine⟨fun e he=>?_,fun st hst=>?_⟩
   · rcases List.mem_cons.mp he with rfl | he
     · exact⟨_,hp,a,b⟩
     · exact ih.1 e he
   · rcases List.mem_cons.mp hst with rfl | hst
     · exact⟨a,b⟩
     · exact ih.2 st hst
end
theorem b2o {z:Str}(h:a3B z):shw (.str z):=fun c hc=>by
 have:=(h.2.2 c hc).2;omega
theorem b0N {z:Str}(h:a3B z):cost (.str z)≤82:=by
 have:=h.2.1;have e:z.length=z.cps.toList.length:=a2x z;show 10 * z.length + 2≤82;omega
structure Show (d c:Nat)(x:PV):Prop where
 sh:shw x
 de:dep x≤d
 co:cost x≤c
theorem Show.tup {d c l:Nat}{xs:List PV}(h:∀x∈xs,Show d c x)(hl:xs.length≤l):Show (d + 1) ((c + 2) * l + 3) (.tup xs):=by
 refine⟨a8S _ fun x hx=>(h x hx).sh,?_,?_⟩
 · have:=b0y d xs fun x hx=>(h x hx).de;show deps xs + 1≤d + 1;omega
 · have:=a7M c xs fun x hx=>(h x hx).co;have h2:=Nat.mul_le_mul_left (c + 2) hl;show a4C xs + 3≤_;omega
theorem Show.lst {d c l:Nat}{xs:List PV}(h:∀x∈xs,Show d c x)(hl:xs.length≤l):Show (d + 1) ((c + 2) * l + 3) (.lst xs):=by
 have t:=Show.tup h hl;exact⟨t.sh,t.de,t.co⟩
theorem Show.le {d c d' c':Nat}{x:PV}(h:Show d c x)(hd:d≤d')(hc:c≤c'):Show d' c' x:=⟨h.sh,Nat.le_trans h.de hd,Nat.le_trans h.co hc⟩
theorem a2W {z:Str}(h:a3B z):Show 0 82 (.str z):=⟨b2o h,Nat.le_refl _,b0N h⟩
theorem a7p {zs:List Str}(h:∀z∈zs,a3B z)(hl:zs.length≤24):Show 1 2100 (rowP zs):=
 (Show.tup (d:=0) (c:=82) (l:=24) (xs:=zs.map PV.str) (fun x hx=>by obtain⟨z,hz,rfl⟩:=List.mem_map.mp hx;exact a2W (h z hz)) (by rw [List.length_map];exact hl)).le (Nat.le_refl _) (by decide)
theorem a3I (z:Str)(h1:∀c∈z.cps.toList,c < 16 ^ 8)(h2:z.length≤8):Show 0 82 (.str z):=⟨h1,Nat.le_refl _,by show 10 * z.length + 2≤82;omega⟩
theorem b4i {e:Ev}(h:∀b∈evB e,a3B b):Show 1 260 (evP e):=by
 cases e with
 | d x =>
   rw [b0q];refine(Show.tup (d:=0) (c:=82) (l:=3) (fun y hy=>?_) (by simp)).le (Nat.le_refl _) (by decide);simp only [List.mem_cons,List.not_mem_nil,or_false] at hy;rcases hy with rfl | rfl
   · exact a3I _ (by decide +kernel) (by decide +kernel)
   · exact a2W (h x (by simp [evB]))
 | t x y =>
   rw [a4B];refine(Show.tup (d:=0) (c:=82) (l:=3) (fun z hz=>?_) (by simp)).le (Nat.le_refl _) (by decide);simp only [List.mem_cons,List.not_mem_nil,or_false] at hz;rcases hz with rfl | rfl | rfl
   · exact a3I _ (by decide +kernel) (by decide +kernel)
   · exact a2W (h _ (by simp [evB]))
   · exact a2W (h _ (by simp [evB]))
theorem a7Y {es:List Ev}(h:∀b∈es.flatMap evB,a3B b)(hl:es.length≤24):Show 2 6300 (shP es):=
 (Show.tup (d:=1) (c:=260) (l:=24) (xs:=es.map evP) (fun x hx=>by obtain⟨e,he,rfl⟩:=List.mem_map.mp hx;exact b4i fun b hb=>h b (List.mem_flatMap.mpr ⟨e,he,hb⟩)) (by rw [List.length_map];exact hl)).le (Nat.le_refl _) (by decide)
theorem b2h {ess:List (List Ev)}(h:∀es∈ess,(∀b∈es.flatMap evB,a3B b)∧es.length≤24)(hl:ess.length≤24):Show 3 152000 (dayP ess):=
 (Show.tup (d:=2) (c:=6300) (l:=24) (xs:=ess.map shP) (fun x hx=>by obtain⟨e,he,rfl⟩:=List.mem_map.mp hx;exact a7Y (h e he).1 (h e he).2) (by rw [List.length_map];exact hl)).le (Nat.le_refl _) (by decide)
theorem b1Z {i:Int}(h:i.natAbs < 1000):Show 0 61 (.int i):=⟨by show i.natAbs < 10 ^ 60;omega,Nat.le_refl _,Nat.le_refl _⟩
theorem a9N {s r:Nat}(h1:s < 1000)(h2:r < 1000):Show 1 130 (.tup [.int (s:Int),.int (r:Int)]):=by
 refine(Show.tup (d:=0) (c:=61) (l:=2) (fun y hy=>?_) (by simp)).le (Nat.le_refl _) (by decide);simp only [List.mem_cons,List.not_mem_nil,or_false] at hy;rcases hy with rfl | rfl <;> exact b1Z (by omega)
end Pu
end
section
set_option maxHeartbeats 1000000
namespace SeT
open PySem PySem.SetTable L2
def lp (mask:Nat)(h:Int):Nat→Nat×Nat
 | 0=>(bits h % (mask + 1),bits h)
 | k + 1=>leap mask (lp mask h k).1 (lp mask h k).2
def rn (mask i:Nat):Nat:=runEnd mask i - i
def vs (mask:Nat)(h:Int)(k off:Nat):Nat:=(lp mask h k).1 + off
def Msk (mask:Nat):Prop:=mask=7∨mask=31∨mask=127
def Rise (xs:List Nat):Prop:=xs.Pairwise (· < ·)
end SeT
end
section
set_option maxHeartbeats 1000000
namespace SeT
open PySem PySem.SetTable L2
def Lx (k' o' k o:Nat):Prop:=k' < k∨(k'=k∧o' < o)
def Rch (mask:Nat)(O:Nat→Prop)(s:Nat)(h:Int):Prop:=∃k o,o≤rn mask (lp mask h k).1∧vs mask h k o=s∧∀k' o',o'≤rn mask (lp mask h k').1→Lx k' o' k o→O (vs mask h k' o')
structure TOk (t:SetTable)(hs:List Int):Prop where
 size:t.place.toList.length=hs.length
 dum:t.dummies=#[]
 mask:Msk t.mask
 rise:Rise t.place.toList
 lim:∀s∈t.place.toList,s≤t.mask
 room:hs.length < t.mask
 reach:∀(i:Nat) s h,t.place.toList[i]?=some s→hs[i]?=some h→Rch t.mask (·∈t.place.toList) s h
section
variable {t:SetTable}{hs:List Int}{h:Int}
def pb (mask:Nat)(h:Int)(k o:Nat):Probe:={ j:=vs mask h k o,more:=rn mask (lp mask h k).1 - o,i:=(lp mask h k).1,perturb:=(lp mask h k).2,dummy:=none }
def nx (mask:Nat)(h:Int)(k o:Nat):Nat×Nat:=if o < rn mask (lp mask h k).1 then(k,o + 1) else(k + 1,0)
end
end SeT
end
section
set_option maxHeartbeats 1000000
namespace SeT
open PySem PySem.SetTable L2
structure Own (mask:Nat)(ow:Array (Option Nat))(sl:List Nat):Prop where
 size:ow.size=mask + 1
 nd:sl.Nodup
 lim:∀s∈sl,s≤mask
 has:∀(k s:Nat),sl[k]?=some s→ow[s]?=some (some k)
 no:∀s,s≤mask→s∉sl→ow[s]?=some none
theorem Own.none {mask:Nat}{ow:Array (Option Nat)}{sl:List Nat}(O:Own mask ow sl){s:Nat}(hs:s≤mask):(ow.getD s (some 0)).isNone=decide (s∉sl):=by
 rw [Array.getD_eq_getD_getElem?]
 by_cases c:s∈sl
 · obtain⟨k,hk⟩:=List.mem_iff_getElem?.mp c;rw [O.has k s hk,decide_eq_false (not_not_intro c)];rfl
 · rw [O.no s hs c,decide_eq_true c];rfl
end SeT
end
section
set_option maxHeartbeats 1000000
namespace SeT
open PySem PySem.Spec PyProof.Rows L2
section
variable (prog:Program)(w:World)
abbrev TK:HeapKind prog w (List Key):=tupleKind (a0s prog w)
def enS (x:List Key×Addr):Int×Value:=((TK prog w).hash x.1,.ref x.2)
structure SetK (h:Heap)(a:Addr)(o:Obj)(es:Array (Int×Value))(ep:Nat)(t:SetTable)(xs:List (List Key×Addr)):Prop where
 ho:h.get? a=some o
 ex:o.ExactSet
 hd:o.data=.set es ep t
 hes:es.toList=xs.map (enS prog w)
 hk:∀x∈xs,(TK prog w).is h x.1 x.2
 nd:(xs.map (·.1)).Nodup
 tb:TOk t (xs.map fun x=>(TK prog w).hash x.1)
 few:5 * xs.length < 3 * t.mask
 led:t.led=!(w.params.followText "set-order")
end
end SeT
end
section
set_option maxHeartbeats 1000000
namespace SeT
open PySem PySem.Spec PyProof.Rows L2
section
variable {prog:Program}{w:World}{A:Around}{E:Value→Shared→Prop}{s:Shared}{a:Addr}{o:Obj}{es:Array (Int×Value)}{ep:Nat}{t:SetTable}{xs:List (List Key×Addr)}
theorem TOk.pl {hs:List Int}(T:TOk t hs)(b:Bool):TOk { t with plain:=b } hs:=⟨T.size,T.dum,T.mask,T.rise,T.lim,T.room,T.reach⟩
end
end SeT
end
section
set_option maxHeartbeats 3200000
namespace SeT
open PySem PySem.Spec PyProof.Rows L2
def Holds (prog:Program)(w:World)(h:Heap)(S:Addr)(rs:List (List Key×Addr)):Prop:=
 ∃o es ep t xs,SetK prog w h S o es ep t xs∧(∀x∈xs,x∈rs)∧∀x∈rs,x.1∈xs.map (·.1)
end SeT
end
section
set_option maxHeartbeats 1600000
namespace SeT
open PySem PySem.Spec PyProof.Rows L2
section
variable {prog:Program}{w:World}{A:Around}{E:Value→Shared→Prop}{s:Shared}
def SetIt (h:Heap)(I a:Addr)(fst:Value)(i n ep:Nat):Prop:=∃o,h.get? I=some o∧o.cls=.type "set_iterator"∧o.data=.fields #[fst,.int i 0,.ref a,.int n 0,.int ep 0]
theorem SetIt.ty {I a:Addr}{fst:Value}{i n ep:Nat}(x:SetIt s.heap I a fst i n ep):s.TypeIs (.ref I) "set_iterator":=by
 obtain⟨o,ho,hc,_⟩:=x;exact⟨o,ho,hc⟩
end
end SeT
end
section
set_option maxHeartbeats 1600000
namespace SeT
open PySem PySem.W PySem.Spec PyProof.Rows L2
abbrev kks (ys:List (List Key×Addr)):List (List Key):=ys.map (·.1)
section
variable {X:Cx}
def SetO (X:Cx)(p:Addr)(rs:List (List Key×Addr)):HO:=.ext fun h=>∃h0 o es ep t xs,SetK X.prog X.w h0 p o es ep t xs∧h.get? p=some o∧(∀x∈xs,x∈rs)∧∀x∈rs,x.1∈kks xs
end
end SeT
end
section
set_option maxHeartbeats 1600000
namespace SeT
open PySem PySem.W PySem.Spec PyProof.Rows L2
section
variable {X:Cx}
def tMo (t:TE):TE:=fun σ H Q=>∃Q',t σ H Q'∧∀v H',Q' v H'→Q v H'
theorem pe_mo {e:Expr}{t:TE}(h:PE X e t):PE X e (tMo t):=by
 intro pins s σ H Q I ⟨Q',h1,h2⟩;exact wpAny_mono (h pins s σ H Q' I h1) (fun u s' ⟨v,H',I',r,q⟩=>⟨v,H',I',r,h2 _ _ q⟩) fun _ _ e=>e
end
end SeT
end
section
set_option maxHeartbeats 1000000
namespace L2
open PySem PySem.Spec PyProof.Rows
section
variable {prog:Program}{w:World}{A:Around}{E:Value→Shared→Prop}{s:Shared}
theorem a5x:isSubtype (.type "list") (.type "set")=pure false:=by rw [isSubtype_type] <;> kernel_rfl
theorem a4T:isSubtype (.type "list") (.type "frozenset")=pure false:=by rw [isSubtype_type] <;> kernel_rfl
theorem a6c {a:Addr}{its:Array Value}{val:Nat→Key}{Q:Value→Shared→Prop}(hd:A.handled=none)(ht:s.heap.IsList a its)(hv:∀(i:Nat) (v:Value),its[i]?=some v→(a0s prog w).is (val i) v=true∧v.scannable=true)(room:its.size + 1 < scanBound)
   (fin:∀(h':Heap) (tk:Nat),h'.SetOf (a0s prog w) s.heap.objs.size (fun q=>(met val its.size).any (fun y=>decide (y=q))) (met val its.size).length→
     (∀b o,b < s.heap.objs.size→s.heap.get? b=some o→h'.get? b=some o)→Q (.ref s.heap.objs.size) { s with heap:=h',toks:=tk }):wpAny (model prog w) A (call (.type "set") [.ref a]) Q E s:=by
 obtain⟨c,tl,mr⟩:=PySem.F.called_set.mro;have md:=PySem.F.called_set.made;have sb:=PySem.F.called_set.sub;refine wpAny_call (codeAny_of_tree (show wpAny (model prog w) _ (callAny (.type "set") _) _ _ s from ?_));refine wpAny_pure ⟨Code.quiet_builtin _ (by decide +kernel),codeAny_builtin PySem.F.entry_type_call ?_⟩;rw [Around.under_plain (weight_type_call_type "set" [.ref a] []) rfl];have x1:=PySem.F.called_set.notType;have x2:=PySem.F.called_set.canCreate;have x3:=PySem.F.typeCall_set_1 (.ref a)
 repeat (any_goals (first | wp_step | assumption))
 let so:Bool→Obj:=fun led=>{ cls:=.type "set",dict:=none,data:=.set #[] 0 (.fresh 0 0 led) }
 refine codeAny_mono (PySem.code_set_new_1 (.ref a) (E:=E) (Q₁:=fun ob s₁=>∃led:Bool,ob=.ref s.heap.objs.size∧s₁={ s with heap:=s.heap.push (so led) }) fun led=>⟨led,rfl,rfl⟩) fun r s₁ hr=>?_;cases r with
 | error e=>exact hr
 | ok fl =>
   cases fl with
   | ret ob =>
     obtain⟨led,rfl,rfl⟩:=hr;have g0:(s.heap.push (so led)).get? s.heap.objs.size=some (so led):=Heap.get?_push_size _ rfl;have ty:Shared.TypeIs { s with heap:=s.heap.push (so led) } (.ref s.heap.objs.size) "set":=⟨_,g0,rfl⟩;have y1:=PySem.F.called_set.init.lookup;have y2:=PySem.F.called_set.init.bind (.ref s.heap.objs.size)
     repeat (any_goals (first | wp_step | assumption))
     refine codeAny_mono (codeAny_call_builtin (R:=wants (fun r s₂=>r=.none∧∃h' tk,s₂={ s with heap:=h',toks:=tk }∧h'.SetOf (a0s prog w) s.heap.objs.size (fun q=>(met val its.size).any (fun y=>decide (y=q))) (met val its.size).length∧
         (∀b o,b < s.heap.objs.size→s.heap.get? b=some o→h'.get? b=some o)) E) PySem.F.called_set.init.plain PySem.F.entry_set_init (PySem.check_set_init_1 ty ?_)) fun r₂ s₂ hr₂=>?_
     · obtain⟨ol,ho,hc,nl,hdl⟩:=ht;obtain⟨oc,od,odt,os⟩:=ol;simp only at hc hdl;subst hc;subst hdl;have ho':(s.heap.push (so led)).get? a=some { cls:=.type "list",dict:=od,data:=.seq its nl,slots:=os }:=Heap.get?_push_of_some _ ho;have z1:=a5x;have z2:=a4T;have z3:(Value.type "list" == Value.type "dict")=false:=by decide
       have t1:(s.heap.push (so led)).IsList a its:=⟨_,ho',rfl,nl,rfl⟩;unfold Builtin.«set.__init__» noKeywords Builtin.Frozenset.updateFrom;generalize hP:pyIter=PI
       wp_walk
       subst hP;refine wpAny_pyIter_list t1 (wpAny_bind (wpAny_runValue ?_));have la:a < s.heap.objs.size:=Heap.lt_size ho;have h3:A.in1.in1.in1.handled=none:=by simp [hd]
       have n1:a≠(s.heap.push (so led)).objs.size:=by rw [Heap.size_push];exact Nat.ne_of_lt (Nat.lt_succ_of_lt la)
       have n2:s.heap.objs.size∉[(s.heap.push (so led)).objs.size,a]:=by
         rw [Heap.size_push];intro z;rcases List.mem_cons.mp z with z | z
         · exact Nat.ne_of_lt (Nat.lt_succ_self _) z
         · exact Nat.ne_of_gt la (List.mem_singleton.mp z)
       refine b1l ((Walks.list h3 _ a n1 its).toS) s.heap.objs.size n2 val hv room (its.size - 0) 0 _ (by omega) (Nat.zero_le _) ⟨⟨_,Heap.get?_push_size _ rfl,rfl,rfl⟩,⟨_,Heap.get?_push_of_some _ ho',rfl,nl,rfl⟩⟩ ?_ ?_
       · have g1:((s.heap.push (so led)).push { cls:=.type "list_iterator",data:=.fields #[.ref a,.int 0 0] }).get? s.heap.objs.size=some (so led):=Heap.get?_push_of_some _ g0;refine⟨so led,#[],0,.fresh 0 0 led,g1,⟨rfl,rfl,rfl⟩,rfl,fun e he=>(nomatch he),fun k=>⟨fun z=>(nomatch z),fun⟨e,he,_⟩=>(nomatch he)⟩,by decide,?_,rfl⟩;cases led <;> decide
       · intro s' mv so';obtain⟨h',g',d',tk',os'⟩:=s';obtain rfl:g'=s.gens:=mv.gens;obtain rfl:d'=s.drawn:=mv.drawn;obtain rfl:os'=s.os:=mv.os;refine wpAny_pure (wpAny_pure ⟨rfl,h',tk',rfl,so',fun b o hb e=>?_⟩);refine mv.heap b o (fun z=>?_) (Heap.get?_push_of_some _ (Heap.get?_push_of_some _ e));rcases List.mem_cons.mp z with z | z
         · exact Nat.ne_of_lt hb z
         · have:=List.mem_singleton.mp z;rw [Heap.size_push] at this;exact Nat.ne_of_lt (Nat.lt_succ_of_lt hb) this
     · cases r₂ with
       | error e=>exact hr₂
       | ok fl₂ =>
         cases fl₂ with
         | ret r =>
           obtain⟨rfl,h',tk,rfl,so',kp⟩:=hr₂
           repeat (any_goals (first | wp_step | assumption))
           exact fin _ _ so' kp
         | _=>exact hr₂.elim
   | _=>exact hr.elim
end
section
variable {X:Cx}
theorem a8F (hc:X.calm=true):a1Y X (.type "set") (fun vs H Q=>∃(a:Addr) (ys:List Str),vs=[.ref a]∧SqL X.K H a (ys.map V.str)∧ys.length≤1000∧∀p,H p=none→Q (.ref p) (upd H p (SetX X p (fun q=>(met (a5O ys) ys.length).any (fun y=>decide (y=q))) (met (a5O ys) ys.length).length))):=by
 intro pins s σ H vs us Q I rv h;obtain⟨a,ys,rfl,hq,hl,k⟩:=h;obtain⟨u,rfl,ru⟩:=rv.one;obtain rfl:u=.ref a:=ru;obtain⟨its,r,ht,_⟩:=I.list hq;have sz:its.toArray.size=ys.length:=by have:=r.length;rw [List.length_map] at this;simpa using this.symm
 refine a6c (val:=a5O ys) (I.ok.hd hc) ht.isList (fun i v e=>?_) (by rw [sz];unfold scanBound;omega) fun h' tk so kp=>?_
 · obtain⟨t,rfl⟩:=b1g r (by simpa using e);exact⟨a4e _ _ _ _,rfl⟩
 · rw [sz] at so
   have I1:Inv X pins σ (upd H s.heap.objs.size (SetX X s.heap.objs.size (fun q=>(met (a5O ys) ys.length).any (fun y=>decide (y=q))) (met (a5O ys) ys.length).length)) { s with heap:=h',toks:=tk }:=
     I.laid (fun b o e=>kp b o (Heap.lt_size e) e) (Nat.le_refl _) ⟨so,by obtain⟨o,_,_,_,e,_⟩:=so;exact⟨o,e⟩,fun h1 h2 x k2=>by
       obtain⟨o,es,ep,t,e,more⟩:=x
       exact⟨o,es,ep,t,k2 o e,more⟩⟩
   exact⟨.ref s.heap.objs.size,_,I1,rfl,k _ (I.hok.fresh (Nat.le_refl _))⟩
def b1e (K:PySem.W.Frag)(t:TE):TE:=fun σ H Q=>∃Q',t σ H Q'∧∀x H1,Q' x H1→∃(a:Addr) (ys:List Str),x=.ref a∧SqL K H1 a (ys.map V.str)∧ys.length≤1000∧∀H2,Same H1 H2→Q (.int (met (a5O ys) ys.length).length) H2
theorem a8h {e:Expr}{t:TE}{p1 p2 pos pos2:Pos}(hc:X.calm=true)(g1:Gl X "len")(m1:X.mg "len"=none)(g2:Gl X "set")(m2:X.mg "set"=none)(he:PE X e t)(hs:starEach [e] X.env=(false,eval e X.env)::starEach [] X.env) :
   PE X (.Call (.Name "len" p1) [.Call (.Name "set" p2) [e] [] pos2] [] pos) (b1e X.K t):=by
 have i1:=a2a (p:=p2) (pos:=pos2) (a8F hc) g2 m2 bt_set (a0r (SeT.pe_mo he) a0K hs) (by decide) (by decide) hs rfl;have i2:=a2o (p:=p1) (pos:=pos) b0I g1 m1 a7P (a0r i1 a0K rfl) (by decide) (by decide) rfl rfl;intro pins s σ H Q I ⟨Q',h1,h2⟩;refine i2 pins s σ H Q I ⟨Q',h1,fun x H1 hx=>?_⟩;obtain⟨a,ys,rfl,hq,hl,k⟩:=h2 x H1 hx;exact⟨a,ys,rfl,hq,hl,fun p hn=>⟨p,_,_,rfl,a0g,k _ ((Same.refl _).lay hn)⟩⟩
end
end L2
namespace Pu
open PySem PySem.Spec L2
section
variable {T:PotK}{ι:Type}{K:PySem.W.Frag}{F:ι→Cx}{pos:Pos}{e:Expr}{pe:pE}
def a2J:w1:=fun x R=>match x with | .lst xs=>(match a2Y xs with | some ys=>ys.length≤1000∧R (.int (met (a5O ys) ys.length).length) | none=>False) | _=>False
theorem a8c {p1 p2 pos2:Pos}(hc:∀z,(F z).calm=true)(g1:∀z,Gl (F z) "len")(m1:∀z,(F z).mg "len"=none)(g2:∀z,Gl (F z) "set")(m2:∀z,(F z).mg "set"=none)(he:QE T K F e pe)(hs:a0C e=true:=by rfl)(hK:∀z,(F z).K=K:=by intro _;rfl) :
   QE T K F (.Call (.Name "len" p1) [.Call (.Name "set" p2) [e] [] pos2] [] pos) (qUn a2J pe):=by
 obtain⟨t,h1,h2⟩:=he;refine⟨_,fun z=>hK z▸a8h (hc z) (g1 z) (m1 z) (g2 z) (m2 z) (h1 z) (a0e hs),fun C G σ H env n R Q hK hT S hp k=>?_⟩;refine⟨_,h2 C G σ H env n _ (fun v H'=>∃x env' n',a2J x (fun r=>R r env' n')∧SR C G σ H' env' n'∧Rep K G H' x v∧Fr G H H') hK hT S hp (fun x env' n' v H' r S' rv f=>⟨x,env',n',r,S',rv,f⟩),fun v H1 hx=>?_⟩;obtain⟨x,env1,n1,r,S1,rv,f1⟩:=hx;unfold a2J at r
 split at r
 · rename_i xs
   split at r
   · rename_i ys ey;obtain⟨a,vs,rfl,t,rs⟩:=rv;exact⟨a,ys,rfl,a2K ey rs▸t.sq,r.1,fun H2 s2=>k _ _ _ _ _ r.2 (S1.same s2) rfl (f1.trans (Fr.of s2))⟩
   · exact r.elim
 · exact r.elim
end
end Pu
end
section
set_option maxHeartbeats 1000000
namespace L2
open PySem PySem.Spec PyProof.Rows
section
variable {X:Cx}{a b:Expr}{rest:List Expr}{ta tb:TE}{pos:Pos}
theorem pe_orT (ha:PE X a ta)(hb:PE X (.BoolOp .Or (b::rest) pos) tb):PE X (.BoolOp .Or (a::b::rest) pos) (fun σ H Q=>ta σ H fun x H1=>∃k,TruV X.K x H1 k∧if k=true then Q x H1 else tb σ H1 Q):=by
 intro pins s σ H Q I h;refine BoolOp_or (thn (ha pins s σ H _ I h) fun v s1 ⟨x,H1,I1,r1,q1⟩=>?_);refine thn (tru_ok pins s1 σ H1 x v (fun k H=>if k=true then Q x H else tb σ H Q) I1 r1 q1) fun c s2 ⟨H2,I2,q2⟩=>?_;cases c with
 | false=>exact hb pins s2 σ H2 Q I2 q2
 | true=>exact⟨x,H2,I2,r1,q2⟩
end
end L2
namespace Pu
open PySem PySem.Spec L2
section
variable {T:PotK}{ι:Type}{K:PySem.W.Frag}{F:ι→Cx}{a b:Expr}{rest:List Expr}{pa pb:pE}{pos:Pos}
def qOrT (pa pb:pE):pE:=fun env n R=>pa env n fun x env1 n1=>match a8N x with | some b=>if b=true then R x env1 n1 else pb env1 n1 R | none=>False
theorem qe_orT (ha:QE T K F a pa)(hb:QE T K F (.BoolOp .Or (b::rest) pos) pb)(hK:∀z,(F z).K=K:=by intro _;rfl):QE T K F (.BoolOp .Or (a::b::rest) pos) (qOrT pa pb):=by
 obtain⟨t,a1,a2⟩:=ha;obtain⟨u,b1,b2⟩:=hb;refine⟨_,fun z=>hK z▸pe_orT (a1 z) (b1 z),fun C G σ H env n R Q hK hT S hp k=>?_⟩;refine a2 C G σ H env n _ _ hK hT S hp fun x env1 n1 v H1 q1 S1 r1 f1=>?_
 split at q1
 · rename_i c ec;refine⟨c,tru_of ec (.inl r1),?_⟩;cases c with
   | true =>
     rw [if_pos rfl] at q1 ⊢;exact k _ _ _ _ _ q1 S1 r1 f1
   | false =>
     rw [if_neg Bool.false_ne_true] at q1 ⊢;exact b2 C G σ H1 env1 n1 _ _ hK hT S1 q1 fun y env2 n2 w H2 q2 S2 r2 f2=>k _ _ _ _ _ q2 S2 r2 (f1.trans f2)
 · exact q1.elim
end
end Pu
end
section
set_option maxHeartbeats 4000000
namespace Tb
open PySem L2 Pu
abbrev a0q:pF:=a3y
abbrev lamP:PySem.Pos:=⟨73,48,73,88⟩
abbrev lamQ:PySem.Str:=PySem.Str.ofString "order_of.<locals>.<lambda>"
def a2g:pS:=(qSeq (qPar 2 3 (sV (qC (.str (PySem.Str.ofString "abcdefghijklmnopqrstuvwxyz")))) (sV (qC (.str (PySem.Str.ofString "")))))
   (qSeq (qSet 4 (qOp wIx (qL (qLst (a0c (qC (.int 1)) (a0c (qC (.int 3)) (a0c (qC (.int 5)) (a0c (qC (.int 7)) (a0c (qC (.int 9)) (a0c (qC (.int 11)) (a0c (qC (.int 15)) (a0c (qC (.int 17)) (a0c (qC (.int 19)) (a0c (qC (.int 21)) qNil)))))))))))) (a0v a0q (a0c (qV 0) (a0c (qC (.int 10)) qNil)))))
   (qSeq (qSet 5 (a0v a0q (a0c (qV 0) (a0c (qC (.int 26)) qNil))))
   (qSeq (qFor (a8d (qC (.int 7))) (gN 6) (qSet 3 (qOp wAdd (qV 3) (qOp wIx (qV 2) (a0v a0q (a0c (qV 0) (a0c (qC (.int 26)) qNil)))))))
   (qSeq (qSet 7 (a0v a0q (a0c (qV 0) (a0c (qC (.int 8)) qNil))))
   (qSeq (qOwn 8 (qLst qNil))
   (qSeq (qFor (a8d (qV 1)) (gN 6) (qSeq (qPar 9 10 (sV (qOp wAdd (qV 7) (a0v a0q (a0c (qV 0) (a0c (qOp wSub (qC (.int 8)) (qV 7)) qNil))))) (sV (qOp wIx (qV 2) (qOp wMod (qOp wAdd (qV 5) (qOp wMul (qV 4) (qV 6))) (qC (.int 26))))))
   (a2t (a0O 8 (qOp wAdd (qOp wAdd (qSl (qV 3) qNo (a1Z (qV 7))) (qV 10)) (qSl (qV 3) (a1Z (qV 7)) (a1Z (qV 9))))))))
   (qSeq (qSet 11 (qOp wIx (qL (qLst (a0c (qC (.str (PySem.Str.ofString "drop"))) (a0c (qC (.str (PySem.Str.ofString "touch"))) (a0c (qC (.str (PySem.Str.ofString "none"))) (a0c (qC (.str (PySem.Str.ofString "d"))) (a0c (qC (.str (PySem.Str.ofString "u"))) (a0c (qC (.str (PySem.Str.ofString "t"))) (a0c (qC (.str (PySem.Str.ofString "o"))) qNil))))))))) (a0v a0q (a0c (qV 0) (a0c (qC (.int 7)) qNil)))))
   (qSeq (qIfS (qAnd (qB (qOp (wIn 4 true) (qV 11) (qO 8))) (qB (qOp (wEq 4) (a0v a0q (a0c (qV 0) (a0c (qC (.int 3)) qNil))) (qC (.int 0))))) (qPut 8 (qV 11) (a0v a0q (a0c (qV 0) (a0c (qV 1) qNil)))) qNx)
   (qRet (qUn a2u (qO 8))))))))))))
def a1A:pF:=fnP ["_law_draws","_law_many","_law_letters","_law_stem","_law_step","_law_first","_law_k","_law_at","_law_found","_law_far","_law_sign","_law_word_here"] ["_law_draws","_law_many"] a2g
def a2D:pS:=(qSeq (qSet 2 (qTup (a0c (qOp wAdd (qC (.int 1)) (a0v a0q (a0c (qV 0) (a0c (qC (.int 8)) qNil)))) (a0c (qOp wIx (qL (qLst (a0c (qC (.int 0)) (a0c (qC (.int 1)) (a0c (qC (.int 7)) (a0c (a0v a0q (a0c (qV 0) (a0c (qC (.int 8)) qNil))) qNil)))))) (a0v a0q (a0c (qV 0) (a0c (qC (.int 4)) qNil)))) qNil))))
   (qSeq (qSet 3 (qOp wIx (qL (qLst (a0c (qOp wAdd (qC (.int 1)) (a0v a0q (a0c (qV 0) (a0c (qV 1) qNil)))) (a0c (qOp wAdd (qC (.int 1)) (a0v a0q (a0c (qV 0) (a0c (qOp wMin (qV 1) (qC (.int 6))) qNil)))) qNil)))) (a0v a0q (a0c (qV 0) (a0c (qC (.int 2)) qNil)))))
   (qRet (qTup (a0c (qV 2) (a0c (a0v a1A (a0c (qV 0) (a0c (qV 3) qNil))) qNil))))))
def a1T:pF:=fnP ["_law_draws","_law_most","_law_meeting","_law_many"] ["_law_draws","_law_most"] a2D
def a2C:pS:=(qSeq (qSet 3 (qOp wIx (qV 0) (qC (.int 0))))
   (qSeq (qSet 4 (qOp wMul (qV 2) (qV 3)))
   (qRet (qTup (a0c (qV 4) (a0c (qIf (qB (qOp wLt (qOp wAdd (qV 4) (qV 3)) (qV 1))) (qOp wAdd (qV 4) (qV 3)) (qOp wSub (qV 1) (qC (.int 1)))) qNil))))))
def a1S:pF:=fnP ["_law_meeting","_law_n","_law_k","_law_size","_law_first"] ["_law_meeting","_law_n","_law_k"] a2C
def a2e:pS:=(qSeq (qPar 2 3 (sO (qLst qNil)) (sO (qLst qNil)))
   (qSeq (qFor (qZip false true (qV 0) (qV 1)) (gTp 2 (gCn (gN 4) (gCn (gN 5) gNl))) (qIfS (qB (qOp (wEq 4) (qV 5) (qC (.str (PySem.Str.ofString "t"))))) (a2t (a0O 2 (qV 4))) (qIfS (qB (qOp (wEq 4) (qV 5) (qC (.str (PySem.Str.ofString "u"))))) (a2t (a0O 3 (qTup (a0c (qC (.str (PySem.Str.ofString "touch"))) (a0c (qV 4) (a0c (qPop 2) qNil)))))) (qIfS (qB (qOp (wEq 4) (qV 5) (qC (.str (PySem.Str.ofString "d"))))) (a2t (a0O 3 (qTup (a0c (qC (.str (PySem.Str.ofString "drop"))) (a0c (qV 4) qNil))))) qNx))))
   (qRet (qUn a2u (qL (a5c (qO 3)))))))
def a1y:pF:=fnP ["_law_start","_law_marks","_law_pile","_law_events","_law_boat","_law_mark"] ["_law_start","_law_marks"] a2e
def a2f:pS:=(qRet (qOp b1c (qOp wSub (qOp wAdd (qV 1) (qOp wIx (qV 0) (qC (.int 0)))) (qC (.int 1))) (qOp wIx (qV 0) (qC (.int 0)))))
def a1z:pF:=fnP ["_law_meeting","_law_n"] ["_law_meeting","_law_n"] a2f
def a2B:pS:=(qSeq (qPar 3 4 (sO (qLst qNil)) (sO (qLst qNil)))
   (qSeq (qFor (a8d (qV 1)) (gN 5) (qSeq (b2A (qAnd (qB (qOpR (wNe 4) (qO 4) (qL (qLst qNil)))) (qB (qOp wGt (qOp wSub (qOp wSub (qV 5) (qOpR wIx (qO 4) (qUn wNeg (qC (.int 1))))) (qC (.int 1))) (qV 2)))) (qPut 3 (qC (.str (PySem.Str.ofString "d"))) (qPop 4)))
   (qSeq (qSet 6 (a0v a0q (a0c (qV 0) (a0c (qC (.int 5)) qNil))))
   (qIfS (qAnd (qB (qOpR (wNe 4) (qO 4) (qL (qLst qNil)))) (qB (qOp wLt (qV 6) (qC (.int 2))))) (qSeq (qPut 3 (qC (.str (PySem.Str.ofString "t"))) (qPop 4))
   (a2t (a0O 3 (qC (.str (PySem.Str.ofString "u")))))) (qIfS (qOr (qB (qOp (wEq 4) (qV 6) (qC (.int 2)))) (qB (qOp (wEq 4) (qV 6) (qC (.int 3))))) (qSeq (a2t (a0O 4 (qV 5)))
   (a2t (a0O 3 (qC (.str (PySem.Str.ofString "d")))))) (a2t (a0O 3 (qIf (qB (qOpR (wNe 4) (qO 4) (qL (qLst qNil)))) (qC (.str (PySem.Str.ofString "d"))) (qOp wIx (qL (qLst (a0c (qC (.str (PySem.Str.ofString "o"))) (a0c (qC (.str (PySem.Str.ofString "o"))) (a0c (qC (.str (PySem.Str.ofString "d"))) qNil))))) (a0v a0q (a0c (qV 0) (a0c (qC (.int 3)) qNil))))))))))))
   (b1z 3)))
def a1R:pF:=fnP ["_law_draws","_law_many","_law_reach","_law_marks","_law_pile","_law_k","_law_way"] ["_law_draws","_law_many","_law_reach"] a2B
def a2h:pS:=(qSeq (qOwn 2 (b1A (qV 0)))
   (qSeq (qFor (qIt (qV 1)) (gN 3) (qIfS (qB (qOp (wEq 4) (qOp wIx (qV 3) (qC (.int 0))) (qC (.str (PySem.Str.ofString "touch"))))) (qSeq (qPut 2 (qOp wIx (qV 3) (qC (.int 2))) (a1X (qV 0) (qOp wIx (qV 3) (qC (.int 1)))))
   (qPut 2 (qOp wIx (qV 3) (qC (.int 1))) (a1X (qV 0) (qOp wIx (qV 3) (qC (.int 2)))))) qNx))
   (qRet (qUn a2u (qO 2)))))
def a1B:pF:=fnP ["_law_start","_law_sheet_here","_law_found","_law_event"] ["_law_start","_law_sheet_here"] a2h
def a3j:pS:=(qSeq (qPar 3 4 (sO (qLst qNil)) (sO (qLst qNil)))
   (qSeq (qFor (b1y (a0v a1z (a0c (qV 1) (a0c (qUn wLen (qV 2)) qNil)))) (gN 5) (qSeq (qAsg (a0v a1S (a0c (qV 1) (a0c (qUn wLen (qV 2)) (a0c (qV 5) qNil)))) (gTp 2 (gCn (gN 6) (gCn (gN 7) gNl))))
   (qSeq (qSet 8 (qSl (qV 2) (a1Z (qV 6)) (a1Z (qOp wAdd (qV 7) (qC (.int 1))))))
   (qSeq (qSet 9 (a0v a1y (a0c (qV 8) (a0c (a0v a1R (a0c (qV 0) (a0c (qUn wLen (qV 8)) (a0c (qOp wIx (qV 1) (qC (.int 1))) qNil)))) qNil))))
   (qSeq (qSet 2 (qOp wAdd (qOp wAdd (qSl (qV 2) qNo (a1Z (qV 6))) (a0v a1B (a0c (qV 8) (a0c (qV 9) qNil)))) (qSl (qV 2) (a1Z (qOp wAdd (qV 7) (qC (.int 1)))) qNo)))
   (qSeq (a2t (a5d 3 (qC (.int 0)) (qV 9)))
   (a2t (a5d 4 (qC (.int 0)) (qV 8)))))))))
   (qRet (qTup (a0c (qUn a2u (qO 3)) (a0c (qUn a2u (qO 4)) (a0c (qV 2) qNil)))))))
def a2r:pF:=fnP ["_law_draws","_law_meeting","_law_row","_law_sheets","_law_starts","_law_k","_law_first","_law_last","_law_start","_law_sheet_here"] ["_law_draws","_law_meeting","_law_row"] a3j
def a3e:pS:=(qSeq (qSet 2 (qOp wIx (qV 0) (qC (.int 0))))
   (qRet (qOp b1c (qOp wSub (qOp wAdd (qV 1) (qV 2)) (qC (.int 1))) (qV 2))))
def a1G:pF:=fnP ["meeting","n","size"] ["meeting","n"] a3e
def a3i:pS:=(qRet (qL (a9o [none,none] (qIt (qV 0)) (gN 0) (qIt (qSl (qV 0) (a1Z (qC (.int 1))) qNo)) (gN 1) qTru (qV 1))))
def a0P:pF:=fnP ["events"] ["events"] a3i
def a1O:pS:=(qSeq (qSet 2 (a0v a0P (a0c (qV 1) qNil)))
   (qSeq (qFor (qIl (qV 2)) (gN 3) (qSeq (qIfS (qB (qOp (wIn 4 true) (qV 3) (qV 0))) (qRet (qTup (a0c (qC (.str (PySem.Str.ofString "strange"))) (a0c (qV 3) qNil)))) qNx)
   (qIfS (qB (qOp wGt (b2B (qV 2) (qV 3)) (qC (.int 1)))) (qRet (qTup (a0c (qC (.str (PySem.Str.ofString "twice"))) (a0c (qV 3) qNil)))) qNx)))
   (qRet (qC .non))))
def a1a:pF:=fnP ["start","sheet","boats","boat"] ["start","sheet"] a1O
def a2b:pS:=(qRet (qL (a9p [none] (qIt (qV 0)) (gN 0) (qB (qOp (wEq 4) (qOp wIx (qV 0) (qC (.int 0))) (qC (.str (PySem.Str.ofString "touch"))))) (qV 0))))
def a0z:pF:=fnP ["events"] ["events"] a2b
def a3g:pS:=(qRet (qOp wGt (a1X (qV 0) (qOp wIx (qV 1) (qC (.int 2)))) (a1X (qV 0) (qOp wIx (qV 1) (qC (.int 1))))))
def a2q:pF:=fnP ["start","touch"] ["start","touch"] a3g
def a4b:pS:=(qSeq (qAsg (qL (a5c (qL (qLst (a0c (a1X (qV 0) (qOp wIx (qV 1) (qC (.int 1)))) (a0c (a1X (qV 0) (qOp wIx (qV 1) (qC (.int 2)))) qNil)))))) (gTl 2 (gCn (gN 2) (gCn (gN 3) gNl))))
   (qRet (qSl (qV 0) (a1Z (qOp wAdd (qV 2) (qC (.int 1)))) (a1Z (qV 3)))))
def a0F:pF:=fnP ["start","touch","low","high"] ["start","touch"] a4b
def a5i:pS:=(qRet (qOp wGt (qUn wLen (a0v a0F (a0c (qV 0) (a0c (qV 2) qNil)))) (qV 1)))
def a3H:pF:=fnP ["start","reach","touch"] ["start","reach","touch"] a5i
def a1C:pS:=(qSeq (qIfS (qB (a0v a2q (a0c (qV 0) (a0c (qV 3) qNil)))) (qRet (qTup (a0c (qC (.str (PySem.Str.ofString "wrong"))) (a0c (qV 3) qNil)))) qNx)
   (qSeq (qIfS (qB (a0v a3H (a0c (qV 0) (a0c (qV 1) (a0c (qV 3) qNil))))) (qRet (qTup (a0c (qC (.str (PySem.Str.ofString "far"))) (a0c (qV 3) qNil)))) qNx)
   (qSeq (qSet 4 (a0v a0P (a0c (qV 2) qNil)))
   (qSeq (qFor (qIt (a0v a0F (a0c (qV 0) (a0c (qV 3) qNil)))) (gN 5) (qIfS (qB (qOp (wIn 4 true) (qV 5) (qV 4))) (qRet (qTup (a0c (qC (.str (PySem.Str.ofString "stays"))) (a0c (qV 3) (a0c (qV 5) qNil))))) qNx))
   (qRet (qC .non))))))
def a0V:pF:=fnP ["start","reach","sheet","touch","boats","boat"] ["start","reach","sheet","touch"] a1C
def a3h:pS:=(qSeq (qIfS (qB (qOp (wNe 4) (qUn a2J (a0v a0P (a0c (qTup (a0c (qV 1) (a0c (qV 2) qNil))) qNil))) (qC (.int 4)))) (qRet (qC (.bl false))) qNx)
   (qSeq (qSet 3 (a0v a0F (a0c (qV 0) (a0c (qV 1) qNil))))
   (qRet (qOp (wNe 4) (qOp (wIn 4 false) (qOp wIx (qV 2) (qC (.int 1))) (qV 3)) (qOp (wIn 4 false) (qOp wIx (qV 2) (qC (.int 2))) (qV 3))))))
def a1H:pF:=fnP ["start","one","other","inner"] ["start","one","other"] a3h
def a1D:pS:=(qSeq (qFor (qIl (qV 2)) (gN 3) (qIfS (qB (a0v a1H (a0c (qV 0) (a0c (qV 1) (a0c (qV 3) qNil))))) (qRet (qTup (a0c (qC (.str (PySem.Str.ofString "cross"))) (a0c (qV 1) (a0c (qV 3) qNil))))) qNx))
   (qRet (qC .non)))
def a0W:pF:=fnP ["start","touch","touches","other"] ["start","touch","touches"] a1D
def a2z:pS:=(qSeq (qSet 3 (a0v a1a (a0c (qV 0) (a0c (qV 2) qNil))))
   (qSeq (qIfS (qB (qOp a6m (qV 3) (qC .non))) (qRet (qV 3)) qNx)
   (qSeq (qSet 4 (a0v a0z (a0c (qV 2) qNil)))
   (qSeq (qFor (qIl (qV 4)) (gN 5) (qSeq (qSet 3 (qOrT (a0v a0V (a0c (qV 0) (a0c (qV 1) (a0c (qV 2) (a0c (qV 5) qNil))))) (a0v a0W (a0c (qV 0) (a0c (qV 5) (a0c (qV 4) qNil))))))
   (qIfS (qB (qOp a6m (qV 3) (qC .non))) (qRet (qV 3)) qNx)))
   (qRet (qC .non))))))
def a1p:pF:=fnP ["start","reach","sheet","reason","touches","touch"] ["start","reach","sheet"] a2z
def a3f:pS:=(qSeq (qSet 3 (a0v a1p (a0c (qV 0) (a0c (qV 1) (a0c (qV 2) qNil)))))
   (qSeq (qIfS (qB (qOp a6m (qV 3) (qC .non))) (qRet (qTup (a0c (qC (.str (PySem.Str.ofString "unsound"))) (a0c (qV 3) qNil)))) qNx)
   (qSeq (qSet 4 (qL (a9p [none] (qIt (qV 2)) (gN 0) (qB (qOp (wEq 4) (qOp wIx (qV 0) (qC (.int 0))) (qC (.str (PySem.Str.ofString "drop"))))) (qV 0))))
   (qSeq (qSet 5 (qL (a7t 0 (a0v a0z (a0c (qV 2) qNil)) (qUn wLen (a0v a0F (a0c (qV 1) (a0c (qV 0) qNil)))))))
   (qRet (qTup (a0c (qC (.str (PySem.Str.ofString "course"))) (a0c (qUn a2u (qL (qCat (qV 4) (qV 5)))) qNil))))))))
def a2p:pF:=fnP ["start","reach","sheet","reason","drops","inner_first"] ["start","reach","sheet"] a3f
def a9A:pS:=(qSeq (qSet 3 (qOp wIx (qV 0) (qC (.int 0))))
   (qSeq (qSet 4 (qOp wMul (qV 2) (qV 3)))
   (qRet (qTup (a0c (qV 4) (a0c (qOp wMin (qOp wAdd (qV 4) (qV 3)) (qOp wSub (qV 1) (qC (.int 1)))) qNil))))))
def a4O:pF:=fnP ["meeting","n","k","size","first"] ["meeting","n","k"] a9A
def a5h:pS:=(qSeq (qAsg (a0v a4O (a0c (qV 0) (a0c (qUn wLen (qV 1)) (a0c (qV 2) qNil)))) (gTp 2 (gCn (gN 4) (gCn (gN 5) gNl))))
   (qRet (qOp wAdd (qOp wAdd (qSl (qV 1) qNo (a1Z (qV 4))) (qV 3)) (qSl (qV 1) (a1Z (qOp wAdd (qV 5) (qC (.int 1)))) qNo))))
def a3G:pF:=fnP ["meeting","row","k","boats","first","last"] ["meeting","row","k","boats"] a5h
def a2A:pS:=(qSeq (qOwn 3 (b1A (qV 0)))
   (qSeq (b3r 3 (qOp wIx (qV 0) (qV 2)) (qOp wIx (qV 0) (qV 1)) (qV 1) (qV 2))
   (qRet (qUn a2u (qO 3)))))
def a1Q:pF:=fnP ["row","one","other","boats"] ["row","one","other"] a2A
def a2c:pS:=(qSeq (qSet 2 (qV 0))
   (qSeq (qFor (qIl (a0v a0z (a0c (qV 1) qNil))) (gN 3) (qSet 2 (a0v a1Q (a0c (qV 2) (a0c (a1X (qV 0) (qOp wIx (qV 3) (qC (.int 1)))) (a0c (a1X (qV 0) (qOp wIx (qV 3) (qC (.int 2)))) qNil))))))
   (qRet (qV 2))))
def a1w:pF:=fnP ["start","sheet","row","touch"] ["start","sheet"] a2c
def a3d:pS:=(qSeq (qAsg (a0v a4O (a0c (qV 0) (a0c (qUn wLen (qV 1)) (a0c (qV 2) qNil)))) (gTp 2 (gCn (gN 3) (gCn (gN 4) gNl))))
   (qRet (qSl (qV 1) (a1Z (qV 3)) (a1Z (qOp wAdd (qV 4) (qC (.int 1)))))))
def a1l:pF:=fnP ["meeting","row","k","first","last"] ["meeting","row","k"] a3d
def a6B:pS:=(qRet (a0v a3G (a0c (qV 0) (a0c (qV 1) (a0c (qV 2) (a0c (a0v a1w (a0c (a0v a1l (a0c (qV 0) (a0c (qV 1) (a0c (qV 2) qNil)))) (a0c (qV 3) qNil))) qNil))))))
def a5u:pF:=fnP ["meeting","row","k","sheet"] ["meeting","row","k","sheet"] a6B
def a2d:pS:=(qSeq (qSet 3 (a0v a1G (a0c (qV 0) (a0c (qUn wLen (qV 1)) qNil))))
   (qSeq (qIfS (qB (qOp (wNe 4) (qUn wLen (qV 2)) (qV 3))) (qRet (qTup (a0c (qC (.str (PySem.Str.ofString "unsound"))) (a0c (qC .non) (a0c (qTup (a0c (qC (.str (PySem.Str.ofString "races"))) (a0c (qV 3) qNil))) qNil))))) qNx)
   (qSeq (qSet 4 (qV 1))
   (qSeq (qFor (b1y (qV 3)) (gN 5) (qSeq (qAsg (a0v a2p (a0c (a0v a1l (a0c (qV 0) (a0c (qV 4) (a0c (qV 5) qNil)))) (a0c (qOp wIx (qV 0) (qC (.int 1))) (a0c (qOp wIx (qV 2) (qV 5)) qNil)))) (gTp 2 (gCn (gN 6) (gCn (gN 7) gNl))))
   (qSeq (qIfS (qB (qOp (wEq 4) (qV 6) (qC (.str (PySem.Str.ofString "unsound"))))) (qRet (qTup (a0c (qC (.str (PySem.Str.ofString "unsound"))) (a0c (qV 5) (a0c (qV 7) qNil))))) qNx)
   (qSet 4 (a0v a5u (a0c (qV 0) (a0c (qV 4) (a0c (qV 5) (a0c (qOp wIx (qV 2) (qV 5)) qNil)))))))))
   (qRet (qTup (a0c (qC (.str (PySem.Str.ofString "row"))) (a0c (qV 4) qNil))))))))
def a1x:pF:=fnP ["meeting","row","day","many","stands","k","word","told"] ["meeting","row","day"] a2d
def b1I:pS:=(qSeq (a3W 1 (qV 0))
   (qSeq (qOwn 2 (qLst qNil))
   (qSeq (qFor (a8d (qC (.int 3))) (gN 3) (qSeq (qAsg (a0v a1T (a0c (qV 1) (a0c (qC (.int 24)) qNil))) (gTp 2 (gCn (gN 4) (gCn (gN 5) gNl))))
   (qSeq (qAsg (a0v a2r (a0c (qV 1) (a0c (qV 4) (a0c (qV 5) qNil)))) (gTp 3 (gCn (gN 6) (gCn (gN 7) (gCn (gN 8) gNl)))))
   (a2t (a0O 2 (qTup (a0c (qV 4) (a0c (qV 5) (a0c (qV 6) (a0c (qTup (a0c (qC (.str (PySem.Str.ofString "row"))) (a0c (qV 8) qNil))) qNil))))))))))
   (qSeq (qSet 9 (qUn a5v (qO 2)))
   (qSeq (a6u 2 (qFor (qIl (qV 2)) (gTp 4 (gCn (gN 4) (gCn (gN 5) (gCn (gN 6) (gCn (gN 10) gNl))))) (qIfS (qB (qOp (wNe 4) (qUn a5v (a0v a1x (a0c (qV 4) (a0c (qV 5) (a0c (qV 6) qNil))))) (qUn a5v (qV 10)))) (qRet (qC (.bl false))) qNx)))
   (qRet (qOp (wEq 4) (qUn a5v (qV 2)) (qV 9))))))))
end Tb
end
section
set_option maxHeartbeats 4000000
namespace Tb
open PySem L2 Pu
def top (i:Nat):Stmt:=PySem.Challenge.pw_touchboats_k19_days_walked.main.body.getD i (.Pass ⟨0,0,0,0⟩)
section
variable {P:Program}{w:World}{K:PySem.W.Frag}{mg:Str→Option Value}{base:Heap}{Pt cd:Addr}
theorem a5U (F0:Fn0 K mg "_law_names" (top 25))(g__law_next:Kn P w K mg base "_law_next" 1 ["_law_draws","_law_many"] (a0l K (tabK potD Pt lamP lamQ) a3y))(m_range:mg "range"=none)(m_tuple:mg "tuple"=none):Kn P w K mg base "_law_names" 2 ["_law_draws","_law_many"] (a0l K (tabK potD Pt lamP lamQ) a1A):=by
 have sc:a0o ["_law_draws","_law_many","_law_letters","_law_stem","_law_step","_law_first","_law_k","_law_at","_law_found","_law_far","_law_sign","_law_word_here"] ["_law_draws","_law_many"] (a0f (top 25)):=⟨rfl,rfl,rfl,by decide +kernel,rfl,by decide +kernel,by decide +kernel⟩
 exact a1h F0 sc (fun _ _ _ _ _ _ us hl=>match us,hl with | [_,_],_=>rfl) (k:=1) (body:=a2g) (fun f cdv A outer s H E hr=>(a0d (b3n 2 3 (fun _=>a1s) (fun _=>gw_two K 2 3 rfl (a0n 2 sc.nd rfl (Or.inl rfl)) (a0n 3 sc.nd rfl (Or.inl rfl))) (ql_v a0u) (ql_v a0u))
   (a0d (a0B 4 (fun _=>a0x (i:=4) sc.nd rfl (Or.inl rfl)) (a0T (QN.ee (a1g (a0b a0k (a0b a0k (a0b a0k (a0b a0k (a0b a0k (a0b a0k (a0b a0k (a0b a0k (a0b a0k (a0b a0k a0h)))))))))))) (a0y (fun _=>g__law_next) (fun _=>hr) (by decide) (fun _=>rfl) (a0b (a0a 0 fun _=>vw 0) (a0b a0k a0h)))))
   (a0d (a0B 5 (fun _=>a0x (i:=5) sc.nd rfl (Or.inl rfl)) (a0y (fun _=>g__law_next) (fun _=>hr) (by decide) (fun _=>rfl) (a0b (a0a 0 fun _=>vw 0) (a0b a0k a0h))))
   (a0d (a1t (fun _=>rfl) (a2O (fun _=>rfl) (fun _=>m_range) a0k) (a0p fun _=>a0n 6 sc.nd rfl (Or.inl rfl)) (a0i (a0B 3 (fun _=>a0x (i:=3) sc.nd rfl (Or.inl rfl)) (a0R (a0a 3 fun _=>vw 3) (a0T (a0a 2 fun _=>vw 2) (a0y (fun _=>g__law_next) (fun _=>hr) (by decide) (fun _=>rfl) (a0b (a0a 0 fun _=>vw 0) (a0b a0k a0h))))))))
   (a0d (a0B 7 (fun _=>a0x (i:=7) sc.nd rfl (Or.inl rfl)) (a0y (fun _=>g__law_next) (fun _=>hr) (by decide) (fun _=>rfl) (a0b (a0a 0 fun _=>vw 0) (a0b a0k a0h))))
   (a0d (a7s 8 (fun _=>a0x (i:=8) sc.nd rfl (Or.inl rfl)) (a1g a0h))
   (a0d (a1t (fun _=>rfl) (a2O (fun _=>rfl) (fun _=>m_range) (a0a 1 fun _=>vw 1)) (a0p fun _=>a0n 6 sc.nd rfl (Or.inl rfl)) (a0d (a7r 9 10 (fun _=>a7l (i:=9) (j:=10) rfl sc.nd rfl rfl (by decide) rfl rfl rfl) (ql_v (a0R (a0a 7 fun _=>vw 7) (a0y (fun _=>g__law_next) (fun _=>hr) (by decide) (fun _=>rfl) (a0b (a0a 0 fun _=>vw 0) (a0b (a3V a0k (a0a 7 fun _=>vw 7)) a0h))))) (ql_v (a0T (a0a 2 fun _=>vw 2) (qe_mod (a0R (a0a 5 fun _=>vw 5) (a9m (a0a 4 fun _=>vw 4) (a0a 6 fun _=>vw 6))) a0k))))
   (a0i (a1n (fun _=>a1m) (a0Z 8 (fun _=>vw 8) (a0R (a0R (a4x (a0a 3 fun _=>vw 3) a8b (a0Y (a0a 7 fun _=>vw 7))) (a0a 10 fun _=>vw 10)) (a4x (a0a 3 fun _=>vw 3) (a0Y (a0a 7 fun _=>vw 7)) (a0Y (a0a 9 fun _=>vw 9)))))))))
   (a0d (a0B 11 (fun _=>a0x (i:=11) sc.nd rfl (Or.inl rfl)) (a0T (QN.ee (a1g (a0b a0u (a0b a0u (a0b a0u (a0b a0u (a0b a0u (a0b a0u (a0b a0u a0h))))))))) (a0y (fun _=>g__law_next) (fun _=>hr) (by decide) (fun _=>rfl) (a0b (a0a 0 fun _=>vw 0) (a0b a0k a0h)))))
   (a0d (a1F (QW.qt (a9g (a0M (b0K 4 fun _=>hr) (a0a 11 fun _=>vw 11) (a1W 8 fun _=>vw 8) rfl) (a6r (a0M (cEq 4 fun _=>hr) (a0y (fun _=>g__law_next) (fun _=>hr) (by decide) (fun _=>rfl) (a0b (a0a 0 fun _=>vw 0) (a0b a0k a0h))) (QE.r a0k) (a0A _))))) (a0i (a5E 8 (fun _=>a1s) (a0a 11 fun _=>vw 11) (fun _=>a6R (vw 8)) (a0y (fun _=>g__law_next) (fun _=>hr) (by decide) (fun _=>rfl) (a0b (a0a 0 fun _=>vw 0) (a0b (a0a 1 fun _=>vw 1) a0h))))) a0S)
   (a0i (a0t (a1N (fun _=>rfl) (fun _=>m_tuple) (a1W 8 fun _=>vw 8))))))))))))))
theorem a6Q (F0:Fn0 K mg "_law_meet" (top 32))(g__law_next:Kn P w K mg base "_law_next" 1 ["_law_draws","_law_many"] (a0l K (tabK potD Pt lamP lamQ) a3y))(g__law_names:Kn P w K mg base "_law_names" 2 ["_law_draws","_law_many"] (a0l K (tabK potD Pt lamP lamQ) a1A))(m_min:mg "min"=none):Kn P w K mg base "_law_meet" 3 ["_law_draws","_law_most"] (a0l K (tabK potD Pt lamP lamQ) a1T):=by
 have sc:a0o ["_law_draws","_law_most","_law_meeting","_law_many"] ["_law_draws","_law_most"] (a0f (top 32)):=⟨rfl,rfl,rfl,by decide +kernel,rfl,by decide +kernel,by decide +kernel⟩
 exact a1h F0 sc (fun _ _ _ _ _ _ us hl=>match us,hl with | [_,_],_=>rfl) (k:=2) (body:=a2D) (fun f cdv A outer s H E hr=>(a0d (a0B 2 (fun _=>a0x (i:=2) sc.nd rfl (Or.inl rfl)) (a0Q (a0b (a0R a0k (a0y (fun _=>g__law_next) (fun _=>hr) (by decide) (fun _=>rfl) (a0b (a0a 0 fun _=>vw 0) (a0b a0k a0h)))) (a0b (a0T (QN.ee (a1g (a0b a0k (a0b a0k (a0b a0k (a0b (a0y (fun _=>g__law_next) (fun _=>hr) (by decide) (fun _=>rfl) (a0b (a0a 0 fun _=>vw 0) (a0b a0k a0h))) a0h)))))) (a0y (fun _=>g__law_next) (fun _=>hr) (by decide) (fun _=>rfl) (a0b (a0a 0 fun _=>vw 0) (a0b a0k a0h)))) a0h))))
   (a0d (a0B 3 (fun _=>a0x (i:=3) sc.nd rfl (Or.inl rfl)) (a0T (QN.ee (a1g (a0b (a0R a0k (a0y (fun _=>g__law_next) (fun _=>hr) (by decide) (fun _=>rfl) (a0b (a0a 0 fun _=>vw 0) (a0b (a0a 1 fun _=>vw 1) a0h)))) (a0b (a0R a0k (a0y (fun _=>g__law_next) (fun _=>hr) (by decide) (fun _=>rfl) (a0b (a0a 0 fun _=>vw 0) (a0b (b2y (fun _=>rfl) (fun _=>rfl) (fun _=>m_min) (a0a 1 fun _=>vw 1) a0k) a0h)))) a0h)))) (a0y (fun _=>g__law_next) (fun _=>hr) (by decide) (fun _=>rfl) (a0b (a0a 0 fun _=>vw 0) (a0b a0k a0h)))))
   (a0i (a0t (a0Q (a0b (a0a 2 fun _=>vw 2) (a0b (a0y (fun _=>g__law_names) (fun _=>hr) (by decide) (fun _=>rfl) (a0b (a0a 0 fun _=>vw 0) (a0b (a0a 3 fun _=>vw 3) a0h))) a0h))))))))
theorem a6P (F0:Fn0 K mg "_law_span" (top 26)):Kn P w K mg base "_law_span" 1 ["_law_meeting","_law_n","_law_k"] (a0l K (tabK potD Pt lamP lamQ) a1S):=by
 have sc:a0o ["_law_meeting","_law_n","_law_k","_law_size","_law_first"] ["_law_meeting","_law_n","_law_k"] (a0f (top 26)):=⟨rfl,rfl,rfl,by decide +kernel,rfl,by decide +kernel,by decide +kernel⟩
 exact a1h F0 sc (fun _ _ _ _ _ _ us hl=>match us,hl with | [_,_,_],_=>rfl) (k:=0) (body:=a2C) (fun f cdv A outer s H E hr=>(a0d (a0B 3 (fun _=>a0x (i:=3) sc.nd rfl (Or.inl rfl)) (a0T (a0a 0 fun _=>vw 0) a0k))
   (a0d (a0B 4 (fun _=>a0x (i:=4) sc.nd rfl (Or.inl rfl)) (a9m (a0a 2 fun _=>vw 2) (a0a 3 fun _=>vw 3)))
   (a0i (a0t (a0Q (a0b (a0a 4 fun _=>vw 4) (a0b (qe_if (a0M cLt (a0R (a0a 4 fun _=>vw 4) (a0a 3 fun _=>vw 3)) (QE.r (a0a 1 fun _=>vw 1)) (a0A _)) (a0R (a0a 4 fun _=>vw 4) (a0a 3 fun _=>vw 3)) (a3V (a0a 1 fun _=>vw 1) a0k)) a0h))))))))
theorem a5S (F0:Fn0 K mg "_law_sheet" (top 29))(m_sorted:mg "sorted"=none)(m_tuple:mg "tuple"=none)(m_zip:mg "zip"=none):Kn P w K mg base "_law_sheet" 1 ["_law_start","_law_marks"] (a0l K (tabK potD Pt lamP lamQ) a1y):=by
 have sc:a0o ["_law_start","_law_marks","_law_pile","_law_events","_law_boat","_law_mark"] ["_law_start","_law_marks"] (a0f (top 29)):=⟨rfl,rfl,rfl,by decide +kernel,rfl,by decide +kernel,by decide +kernel⟩
 exact a1h F0 sc (fun _ _ _ _ _ _ us hl=>match us,hl with | [_,_],_=>rfl) (k:=0) (body:=a2e) (fun f cdv A outer s H E hr=>(a0d (a7r 2 3 (fun _=>a7l (i:=2) (j:=3) rfl sc.nd rfl rfl (by decide) rfl rfl rfl) (ql_o (a1g a0h)) (ql_o (a1g a0h)))
   (a0d (a1t (fun _=>rfl) (qi_zip false true (fun _=>rfl) (fun _=>m_zip) (a0a 0 fun _=>vw 0) (a0a 1 fun _=>vw 1)) (a3t (fun _=>rfl) (a0w (a0p fun _=>a0n 4 sc.nd rfl (Or.inl rfl)) (a0w (a0p fun _=>a0n 5 sc.nd rfl (Or.inl rfl)) a1M))) (a0i (a1F (a0M (cEq 4 fun _=>hr) (a0a 5 fun _=>vw 5) (QE.r a0u) (a0A _)) (a0i (a1n (fun _=>a1m) (a0Z 2 (fun _=>vw 2) (a0a 4 fun _=>vw 4)))) (a0i (a1F (a0M (cEq 4 fun _=>hr) (a0a 5 fun _=>vw 5) (QE.r a0u) (a0A _)) (a0i (a1n (fun _=>a1m) (a0Z 3 (fun _=>vw 3) (a0Q (a0b a0u (a0b (a0a 4 fun _=>vw 4) (a0b (a9l 2 fun _=>vw 2) a0h))))))) (a0i (a1F (a0M (cEq 4 fun _=>hr) (a0a 5 fun _=>vw 5) (QE.r a0u) (a0A _)) (a0i (a1n (fun _=>a1m) (a0Z 3 (fun _=>vw 3) (a0Q (a0b a0u (a0b (a0a 4 fun _=>vw 4) a0h)))))) a0S)))))))
   (a0i (a0t (a1N (fun _=>rfl) (fun _=>m_tuple) (QE.r (QN.ee (a5F (fun _=>rfl) (fun _=>m_sorted) (a1W 3 fun _=>vw 3))))))))))
theorem a5T (F0:Fn0 K mg "_law_races" (top 27)):Kn P w K mg base "_law_races" 1 ["_law_meeting","_law_n"] (a0l K (tabK potD Pt lamP lamQ) a1z):=by
 have sc:a0o ["_law_meeting","_law_n"] ["_law_meeting","_law_n"] (a0f (top 27)):=⟨rfl,rfl,rfl,by decide +kernel,rfl,by decide +kernel,by decide +kernel⟩;exact a1h F0 sc (fun _ _ _ _ _ _ us hl=>match us,hl with | [_,_],_=>rfl) (k:=0) (body:=a2f) (fun f cdv A outer s H E hr=>(a0i (a0t (a9n (a3V (a0R (a0a 1 fun _=>vw 1) (a0T (a0a 0 fun _=>vw 0) a0k)) a0k) (a0T (a0a 0 fun _=>vw 0) a0k)))))
theorem a6O (F0:Fn0 K mg "_law_word" (top 28))(g__law_next:Kn P w K mg base "_law_next" 1 ["_law_draws","_law_many"] (a0l K (tabK potD Pt lamP lamQ) a3y))(m_range:mg "range"=none):Kn P w K mg base "_law_word" 2 ["_law_draws","_law_many","_law_reach"] (a0l K (tabK potD Pt lamP lamQ) a1R):=by
 have sc:a0o ["_law_draws","_law_many","_law_reach","_law_marks","_law_pile","_law_k","_law_way"] ["_law_draws","_law_many","_law_reach"] (a0f (top 28)):=⟨rfl,rfl,rfl,by decide +kernel,rfl,by decide +kernel,by decide +kernel⟩
 exact a1h F0 sc (fun _ _ _ _ _ _ us hl=>match us,hl with | [_,_,_],_=>rfl) (k:=1) (body:=a2B) (fun f cdv A outer s H E hr=>(a0d (a7r 3 4 (fun _=>a7l (i:=3) (j:=4) rfl sc.nd rfl rfl (by decide) rfl rfl rfl) (ql_o (a1g a0h)) (ql_o (a1g a0h)))
   (a0d (a1t (fun _=>rfl) (a2O (fun _=>rfl) (fun _=>m_range) (a0a 1 fun _=>vw 1)) (a0p fun _=>a0n 5 sc.nd rfl (Or.inl rfl)) (a0d (b1t (QW.qt (a9g (a6s (cNe 4 fun _=>hr) (a1W 4 fun _=>vw 4) (QE.r (QN.ee (a1g a0h))) (a0A _)) (a6r (a0M cGt (a3V (a3V (a0a 5 fun _=>vw 5) (qe_ixR (a1W 4 fun _=>vw 4) (qe_neg a0k))) a0k) (QE.r (a0a 2 fun _=>vw 2)) (a0A _))))) (a0i (a5E 3 (fun _=>a1s) a0u (fun _=>a6R (vw 3)) (a9l 4 fun _=>vw 4))))
   (a0d (a0B 6 (fun _=>a0x (i:=6) sc.nd rfl (Or.inl rfl)) (a0y (fun _=>g__law_next) (fun _=>hr) (by decide) (fun _=>rfl) (a0b (a0a 0 fun _=>vw 0) (a0b a0k a0h))))
   (a0i (a1F (QW.qt (a9g (a6s (cNe 4 fun _=>hr) (a1W 4 fun _=>vw 4) (QE.r (QN.ee (a1g a0h))) (a0A _)) (a6r (a0M cLt (a0a 6 fun _=>vw 6) (QE.r a0k) (a0A _))))) (a0d (a5E 3 (fun _=>a1s) a0u (fun _=>a6R (vw 3)) (a9l 4 fun _=>vw 4))
   (a0i (a1n (fun _=>a1m) (a0Z 3 (fun _=>vw 3) a0u)))) (a0i (a1F (QW.qt (qw_or (a0M (cEq 4 fun _=>hr) (a0a 6 fun _=>vw 6) (QE.r a0k) (a0A _)) (qw_or1 (a0M (cEq 4 fun _=>hr) (a0a 6 fun _=>vw 6) (QE.r a0k) (a0A _))))) (a0d (a1n (fun _=>a1m) (a0Z 4 (fun _=>vw 4) (a0a 5 fun _=>vw 5)))
   (a0i (a1n (fun _=>a1m) (a0Z 3 (fun _=>vw 3) a0u)))) (a0i (a1n (fun _=>a1m) (a0Z 3 (fun _=>vw 3) (qe_if (a6s (cNe 4 fun _=>hr) (a1W 4 fun _=>vw 4) (QE.r (QN.ee (a1g a0h))) (a0A _)) a0u (a0T (QN.ee (a1g (a0b a0u (a0b a0u (a0b a0u a0h))))) (a0y (fun _=>g__law_next) (fun _=>hr) (by decide) (fun _=>rfl) (a0b (a0a 0 fun _=>vw 0) (a0b a0k a0h)))))))))))))))
   (a0i (b3l 3 fun _=>vw 3)))))
theorem a5V (F0:Fn0 K mg "_law_after" (top 30))(m_list:mg "list"=none)(m_tuple:mg "tuple"=none):Kn P w K mg base "_law_after" 1 ["_law_start","_law_sheet_here"] (a0l K (tabK potD Pt lamP lamQ) a1B):=by
 have sc:a0o ["_law_start","_law_sheet_here","_law_found","_law_event"] ["_law_start","_law_sheet_here"] (a0f (top 30)):=⟨rfl,rfl,rfl,by decide +kernel,rfl,by decide +kernel,by decide +kernel⟩
 exact a1h F0 sc (fun _ _ _ _ _ _ us hl=>match us,hl with | [_,_],_=>rfl) (k:=0) (body:=a2h) (fun f cdv A outer s H E hr=>(a0d (a7s 2 (fun _=>a0x (i:=2) sc.nd rfl (Or.inl rfl)) (a9j (fun _=>rfl) (fun _=>m_list) (QE.r (a0a 0 fun _=>vw 0))))
   (a0d (a1t (fun _=>rfl) (a4G (a0a 1 fun _=>vw 1)) (a0p fun _=>a0n 3 sc.nd rfl (Or.inl rfl)) (a0i (a1F (a0M (cEq 4 fun _=>hr) (a0T (a0a 3 fun _=>vw 3) a0k) (QE.r a0u) (a0A _)) (a0d (a5E 2 (fun _=>a1s) (a0T (a0a 3 fun _=>vw 3) a0k) (fun _=>a6R (vw 2)) (a1u (a0a 0 fun _=>vw 0) (a0T (a0a 3 fun _=>vw 3) a0k)))
   (a0i (a5E 2 (fun _=>a1s) (a0T (a0a 3 fun _=>vw 3) a0k) (fun _=>a6R (vw 2)) (a1u (a0a 0 fun _=>vw 0) (a0T (a0a 3 fun _=>vw 3) a0k))))) a0S)))
   (a0i (a0t (a1N (fun _=>rfl) (fun _=>m_tuple) (a1W 2 fun _=>vw 2)))))))
theorem a8v (F0:Fn0 K mg "_law_day" (top 31))(g__law_races:Kn P w K mg base "_law_races" 1 ["_law_meeting","_law_n"] (a0l K (tabK potD Pt lamP lamQ) a1z))(g__law_span:Kn P w K mg base "_law_span" 1 ["_law_meeting","_law_n","_law_k"] (a0l K (tabK potD Pt lamP lamQ) a1S))(g__law_word:Kn P w K mg base "_law_word" 2 ["_law_draws","_law_many","_law_reach"] (a0l K (tabK potD Pt lamP lamQ) a1R))(g__law_sheet:Kn P w K mg base "_law_sheet" 1 ["_law_start","_law_marks"] (a0l K (tabK potD Pt lamP lamQ) a1y))(g__law_after:Kn P w K mg base "_law_after" 1 ["_law_start","_law_sheet_here"] (a0l K (tabK potD Pt lamP lamQ) a1B))(m_len:mg "len"=none)(m_range:mg "range"=none)(m_reversed:mg "reversed"=none)(m_tuple:mg "tuple"=none):Kn P w K mg base "_law_day" 3 ["_law_draws","_law_meeting","_law_row"] (a0l K (tabK potD Pt lamP lamQ) a2r):=by
 have sc:a0o ["_law_draws","_law_meeting","_law_row","_law_sheets","_law_starts","_law_k","_law_first","_law_last","_law_start","_law_sheet_here"] ["_law_draws","_law_meeting","_law_row"] (a0f (top 31)):=⟨rfl,rfl,rfl,by decide +kernel,rfl,by decide +kernel,by decide +kernel⟩
 exact a1h F0 sc (fun _ _ _ _ _ _ us hl=>match us,hl with | [_,_,_],_=>rfl) (k:=2) (body:=a3j) (fun f cdv A outer s H E hr=>(a0d (a7r 3 4 (fun _=>a7l (i:=3) (j:=4) rfl sc.nd rfl rfl (by decide) rfl rfl rfl) (ql_o (a1g a0h)) (ql_o (a1g a0h)))
   (a0d (a1t (fun _=>rfl) (a3T (fun _=>rfl) (fun _=>m_reversed) (fun _=>rfl) (fun _=>m_range) (a0y (fun _=>g__law_races) (fun _=>hr) (by decide) (fun _=>rfl) (a0b (a0a 1 fun _=>vw 1) (a0b (a2P (fun _=>rfl) (fun _=>m_len) (QE.r (a0a 2 fun _=>vw 2))) a0h)))) (a0p fun _=>a0n 5 sc.nd rfl (Or.inl rfl)) (a0d (a3S (fun _=>a1s) (a0y (fun _=>g__law_span) (fun _=>hr) (by decide) (fun _=>rfl) (a0b (a0a 1 fun _=>vw 1) (a0b (a2P (fun _=>rfl) (fun _=>m_len) (QE.r (a0a 2 fun _=>vw 2))) (a0b (a0a 5 fun _=>vw 5) a0h)))) (a3t (fun _=>rfl) (a0w (a0p fun _=>a0n 6 sc.nd rfl (Or.inl rfl)) (a0w (a0p fun _=>a0n 7 sc.nd rfl (Or.inl rfl)) a1M))))
   (a0d (a0B 8 (fun _=>a0x (i:=8) sc.nd rfl (Or.inl rfl)) (a4x (a0a 2 fun _=>vw 2) (a0Y (a0a 6 fun _=>vw 6)) (a0Y (a0R (a0a 7 fun _=>vw 7) a0k))))
   (a0d (a0B 9 (fun _=>a0x (i:=9) sc.nd rfl (Or.inl rfl)) (a0y (fun _=>g__law_sheet) (fun _=>hr) (by decide) (fun _=>rfl) (a0b (a0a 8 fun _=>vw 8) (a0b (a0y (fun _=>g__law_word) (fun _=>hr) (by decide) (fun _=>rfl) (a0b (a0a 0 fun _=>vw 0) (a0b (a2P (fun _=>rfl) (fun _=>m_len) (QE.r (a0a 8 fun _=>vw 8))) (a0b (a0T (a0a 1 fun _=>vw 1) a0k) a0h)))) a0h))))
   (a0d (a0B 2 (fun _=>a0x (i:=2) sc.nd rfl (Or.inl rfl)) (a0R (a0R (a4x (a0a 2 fun _=>vw 2) a8b (a0Y (a0a 6 fun _=>vw 6))) (a0y (fun _=>g__law_after) (fun _=>hr) (by decide) (fun _=>rfl) (a0b (a0a 8 fun _=>vw 8) (a0b (a0a 9 fun _=>vw 9) a0h)))) (a4x (a0a 2 fun _=>vw 2) (a0Y (a0R (a0a 7 fun _=>vw 7) a0k)) a8b)))
   (a0d (a1n (fun _=>a1m) (a5G 3 (fun _=>vw 3) a0k (a0a 9 fun _=>vw 9)))
   (a0i (a1n (fun _=>a1m) (a5G 4 (fun _=>vw 4) a0k (a0a 8 fun _=>vw 8))))))))))
   (a0i (a0t (a0Q (a0b (a1N (fun _=>rfl) (fun _=>m_tuple) (a1W 3 fun _=>vw 3)) (a0b (a1N (fun _=>rfl) (fun _=>m_tuple) (a1W 4 fun _=>vw 4)) (a0b (a0a 2 fun _=>vw 2) a0h)))))))))
theorem a8q (F0:Fn0 K mg "races_of" (top 1)):Kn P w K mg base "races_of" 1 ["meeting","n"] (a0l K (tabK potD Pt lamP lamQ) a1G):=by
 have sc:a0o ["meeting","n","size"] ["meeting","n"] (a0f (top 1)):=⟨rfl,rfl,rfl,by decide +kernel,rfl,by decide +kernel,by decide +kernel⟩
 exact a1h F0 sc (fun _ _ _ _ _ _ us hl=>match us,hl with | [_,_],_=>rfl) (k:=0) (body:=a3e) (fun f cdv A outer s H E hr=>(a0d (a0B 2 (fun _=>a0x (i:=2) sc.nd rfl (Or.inl rfl)) (a0T (a0a 0 fun _=>vw 0) a0k))
   (a0i (a0t (a9n (a3V (a0R (a0a 1 fun _=>vw 1) (a0a 2 fun _=>vw 2)) a0k) (a0a 2 fun _=>vw 2))))))
theorem a8u (F0:Fn0 K mg "boats_of" (top 5)):Kn P w K mg base "boats_of" 1 ["events"] (a0l K (tabK potD Pt lamP lamQ) a0P):=by
 have sc:a0o ["events"] ["events"] (a0f (top 5)):=⟨rfl,rfl,rfl,by decide +kernel,rfl,by decide +kernel,by decide +kernel⟩;exact a1h F0 sc (fun _ _ _ _ _ _ us hl=>match us,hl with | [_],_=>rfl) (k:=0) (body:=a3i) (fun f cdv A outer s H E hr=>(a0i (a0t (QN.ee (b1v (N:=["event","boat"]) (cs:=[none,none]) (fun _=>a4q rfl rfl rfl rfl trivial rfl rfl rfl) (fun _=>rfl) (a4G (a0a 0 fun _=>vw 0)) (a0p fun _=>a0n 0 (show List.Nodup (["event","boat"]:List Str) by decide +kernel) rfl (Or.inl rfl)) (a4G (a4x (a0a 0 fun _=>vw 0) (a0Y a0k) a8b)) (a0p fun _=>a0n 1 (show List.Nodup (["event","boat"]:List Str) by decide +kernel) rfl (Or.inl rfl)) b3p (a0a 1 fun _=>vw 1))))))
theorem a5n (F0:Fn0 K mg "boat_reason" (top 12))(g_boats_of:Kn P w K mg base "boats_of" 1 ["events"] (a0l K (tabK potD Pt lamP lamQ) a0P)):Kn P w K mg base "boat_reason" 2 ["start","sheet"] (a0l K (tabK potD Pt lamP lamQ) a1a):=by
 have sc:a0o ["start","sheet","boats","boat"] ["start","sheet"] (a0f (top 12)):=⟨rfl,rfl,rfl,by decide +kernel,rfl,by decide +kernel,by decide +kernel⟩
 exact a1h F0 sc (fun _ _ _ _ _ _ us hl=>match us,hl with | [_,_],_=>rfl) (k:=1) (body:=a1O) (fun f cdv A outer s H E hr=>(a0d (a0B 2 (fun _=>a0x (i:=2) sc.nd rfl (Or.inl rfl)) (a0y (fun _=>g_boats_of) (fun _=>hr) (by decide) (fun _=>rfl) (a0b (a0a 1 fun _=>vw 1) a0h)))
   (a0d (a1t (fun _=>rfl) (a3U (a0a 2 fun _=>vw 2)) (a0p fun _=>a0n 3 sc.nd rfl (Or.inl rfl)) (a0d (a1F (a0M (b0K 4 fun _=>hr) (a0a 3 fun _=>vw 3) (QE.r (a0a 0 fun _=>vw 0)) rfl) (a0i (a0t (a0Q (a0b a0u (a0b (a0a 3 fun _=>vw 3) a0h))))) a0S)
   (a0i (a1F (a0M cGt (b1x (a0a 2 fun _=>vw 2) (a0a 3 fun _=>vw 3)) (QE.r a0k) (a0A _)) (a0i (a0t (a0Q (a0b a0u (a0b (a0a 3 fun _=>vw 3) a0h))))) a0S))))
   (a0i (a0t a3u)))))
theorem a5P (F0:Fn0 K mg "touches_of" (top 6)):Kn P w K mg base "touches_of" 1 ["events"] (a0l K (tabK potD Pt lamP lamQ) a0z):=by
 have sc:a0o ["events"] ["events"] (a0f (top 6)):=⟨rfl,rfl,rfl,by decide +kernel,rfl,by decide +kernel,by decide +kernel⟩;exact a1h F0 sc (fun _ _ _ _ _ _ us hl=>match us,hl with | [_],_=>rfl) (k:=0) (body:=a2b) (fun f cdv A outer s H E hr=>(a0i (a0t (QN.ee (b3o (N:=["event"]) (cs:=[none]) (fun _=>a4q rfl rfl rfl rfl trivial rfl rfl rfl) (fun _=>rfl) (a4G (a0a 0 fun _=>vw 0)) (a0p fun _=>a0n 0 (show List.Nodup (["event"]:List Str) by decide +kernel) rfl (Or.inl rfl)) (a9k (a0M (cEq 4 fun _=>hr) (a0T (a0a 0 fun _=>vw 0) a0k) (QE.r a0u) (a0A _))) (a0a 0 fun _=>vw 0))))))
theorem a8s (F0:Fn0 K mg "is_wrong" (top 8)):Kn P w K mg base "is_wrong" 1 ["start","touch"] (a0l K (tabK potD Pt lamP lamQ) a2q):=by
 have sc:a0o ["start","touch"] ["start","touch"] (a0f (top 8)):=⟨rfl,rfl,rfl,by decide +kernel,rfl,by decide +kernel,by decide +kernel⟩;exact a1h F0 sc (fun _ _ _ _ _ _ us hl=>match us,hl with | [_,_],_=>rfl) (k:=0) (body:=a3g) (fun f cdv A outer s H E hr=>(a0i (a0t (a4H cGt (a1u (a0a 0 fun _=>vw 0) (a0T (a0a 1 fun _=>vw 1) a0k)) (QE.r (a1u (a0a 0 fun _=>vw 0) (a0T (a0a 1 fun _=>vw 1) a0k))) (a0A _)))))
theorem b0f (F0:Fn0 K mg "between" (top 7))(m_sorted:mg "sorted"=none):Kn P w K mg base "between" 1 ["start","touch"] (a0l K (tabK potD Pt lamP lamQ) a0F):=by
 have sc:a0o ["start","touch","low","high"] ["start","touch"] (a0f (top 7)):=⟨rfl,rfl,rfl,by decide +kernel,rfl,by decide +kernel,by decide +kernel⟩
 exact a1h F0 sc (fun _ _ _ _ _ _ us hl=>match us,hl with | [_,_],_=>rfl) (k:=0) (body:=a4b) (fun f cdv A outer s H E hr=>(a0d (a3S (fun _=>a1s) (QN.ee (a5F (fun _=>rfl) (fun _=>m_sorted) (QE.r (QN.ee (a1g (a0b (a1u (a0a 0 fun _=>vw 0) (a0T (a0a 1 fun _=>vw 1) a0k)) (a0b (a1u (a0a 0 fun _=>vw 0) (a0T (a0a 1 fun _=>vw 1) a0k)) a0h))))))) (qg_lst (fun _=>rfl) (a0w (a0p fun _=>a0n 2 sc.nd rfl (Or.inl rfl)) (a0w (a0p fun _=>a0n 3 sc.nd rfl (Or.inl rfl)) a1M))))
   (a0i (a0t (a4x (a0a 0 fun _=>vw 0) (a0Y (a0R (a0a 2 fun _=>vw 2) a0k)) (a0Y (a0a 3 fun _=>vw 3)))))))
theorem b1V (F0:Fn0 K mg "is_far" (top 9))(g_between:Kn P w K mg base "between" 1 ["start","touch"] (a0l K (tabK potD Pt lamP lamQ) a0F))(m_len:mg "len"=none):Kn P w K mg base "is_far" 2 ["start","reach","touch"] (a0l K (tabK potD Pt lamP lamQ) a3H):=by
 have sc:a0o ["start","reach","touch"] ["start","reach","touch"] (a0f (top 9)):=⟨rfl,rfl,rfl,by decide +kernel,rfl,by decide +kernel,by decide +kernel⟩;exact a1h F0 sc (fun _ _ _ _ _ _ us hl=>match us,hl with | [_,_,_],_=>rfl) (k:=1) (body:=a5i) (fun f cdv A outer s H E hr=>(a0i (a0t (a4H cGt (a2P (fun _=>rfl) (fun _=>m_len) (QE.r (a0y (fun _=>g_between) (fun _=>hr) (by decide) (fun _=>rfl) (a0b (a0a 0 fun _=>vw 0) (a0b (a0a 2 fun _=>vw 2) a0h))))) (QE.r (a0a 1 fun _=>vw 1)) (a0A _)))))
theorem a4y (F0:Fn0 K mg "touch_reason" (top 13))(g_is_wrong:Kn P w K mg base "is_wrong" 1 ["start","touch"] (a0l K (tabK potD Pt lamP lamQ) a2q))(g_is_far:Kn P w K mg base "is_far" 2 ["start","reach","touch"] (a0l K (tabK potD Pt lamP lamQ) a3H))(g_boats_of:Kn P w K mg base "boats_of" 1 ["events"] (a0l K (tabK potD Pt lamP lamQ) a0P))(g_between:Kn P w K mg base "between" 1 ["start","touch"] (a0l K (tabK potD Pt lamP lamQ) a0F)):Kn P w K mg base "touch_reason" 3 ["start","reach","sheet","touch"] (a0l K (tabK potD Pt lamP lamQ) a0V):=by
 have sc:a0o ["start","reach","sheet","touch","boats","boat"] ["start","reach","sheet","touch"] (a0f (top 13)):=⟨rfl,rfl,rfl,by decide +kernel,rfl,by decide +kernel,by decide +kernel⟩
 exact a1h F0 sc (fun _ _ _ _ _ _ us hl=>match us,hl with | [_,_,_,_],_=>rfl) (k:=2) (body:=a1C) (fun f cdv A outer s H E hr=>(a0d (a1F (a9h (a0y (fun _=>g_is_wrong) (fun _=>hr) (by decide) (fun _=>rfl) (a0b (a0a 0 fun _=>vw 0) (a0b (a0a 3 fun _=>vw 3) a0h)))) (a0i (a0t (a0Q (a0b a0u (a0b (a0a 3 fun _=>vw 3) a0h))))) a0S)
   (a0d (a1F (a9h (a0y (fun _=>g_is_far) (fun _=>hr) (by decide) (fun _=>rfl) (a0b (a0a 0 fun _=>vw 0) (a0b (a0a 1 fun _=>vw 1) (a0b (a0a 3 fun _=>vw 3) a0h))))) (a0i (a0t (a0Q (a0b a0u (a0b (a0a 3 fun _=>vw 3) a0h))))) a0S)
   (a0d (a0B 4 (fun _=>a0x (i:=4) sc.nd rfl (Or.inl rfl)) (a0y (fun _=>g_boats_of) (fun _=>hr) (by decide) (fun _=>rfl) (a0b (a0a 2 fun _=>vw 2) a0h)))
   (a0d (a1t (fun _=>rfl) (a4G (a0y (fun _=>g_between) (fun _=>hr) (by decide) (fun _=>rfl) (a0b (a0a 0 fun _=>vw 0) (a0b (a0a 3 fun _=>vw 3) a0h)))) (a0p fun _=>a0n 5 sc.nd rfl (Or.inl rfl)) (a0i (a1F (a0M (b0K 4 fun _=>hr) (a0a 5 fun _=>vw 5) (QE.r (a0a 4 fun _=>vw 4)) rfl) (a0i (a0t (a0Q (a0b a0u (a0b (a0a 3 fun _=>vw 3) (a0b (a0a 5 fun _=>vw 5) a0h)))))) a0S)))
   (a0i (a0t a3u)))))))
theorem a8t (F0:Fn0 K mg "is_cross" (top 10))(g_boats_of:Kn P w K mg base "boats_of" 1 ["events"] (a0l K (tabK potD Pt lamP lamQ) a0P))(g_between:Kn P w K mg base "between" 1 ["start","touch"] (a0l K (tabK potD Pt lamP lamQ) a0F))(m_len:mg "len"=none)(m_set:mg "set"=none):Kn P w K mg base "is_cross" 2 ["start","one","other"] (a0l K (tabK potD Pt lamP lamQ) a1H):=by
 have sc:a0o ["start","one","other","inner"] ["start","one","other"] (a0f (top 10)):=⟨rfl,rfl,rfl,by decide +kernel,rfl,by decide +kernel,by decide +kernel⟩
 exact a1h F0 sc (fun _ _ _ _ _ _ us hl=>match us,hl with | [_,_,_],_=>rfl) (k:=1) (body:=a3h) (fun f cdv A outer s H E hr=>(a0d (a1F (a0M (cNe 4 fun _=>hr) (a8c (fun _=>rfl) (fun _=>rfl) (fun _=>m_len) (fun _=>rfl) (fun _=>m_set) (a0y (fun _=>g_boats_of) (fun _=>hr) (by decide) (fun _=>rfl) (a0b (a0Q (a0b (a0a 1 fun _=>vw 1) (a0b (a0a 2 fun _=>vw 2) a0h))) a0h))) (QE.r a0k) (a0A _)) (a0i (a0t qe_bl)) a0S)
   (a0d (a0B 3 (fun _=>a0x (i:=3) sc.nd rfl (Or.inl rfl)) (a0y (fun _=>g_between) (fun _=>hr) (by decide) (fun _=>rfl) (a0b (a0a 0 fun _=>vw 0) (a0b (a0a 1 fun _=>vw 1) a0h))))
   (a0i (a0t (a4H (cNe 4 fun _=>hr) (a4H (cIn 4 fun _=>hr) (a0T (a0a 2 fun _=>vw 2) a0k) (QE.r (a0a 3 fun _=>vw 3)) rfl) (QE.r (a4H (cIn 4 fun _=>hr) (a0T (a0a 2 fun _=>vw 2) a0k) (QE.r (a0a 3 fun _=>vw 3)) rfl)) (a0A _)))))))
theorem a4z (F0:Fn0 K mg "cross_reason" (top 14))(g_is_cross:Kn P w K mg base "is_cross" 2 ["start","one","other"] (a0l K (tabK potD Pt lamP lamQ) a1H)):Kn P w K mg base "cross_reason" 3 ["start","touch","touches"] (a0l K (tabK potD Pt lamP lamQ) a0W):=by
 have sc:a0o ["start","touch","touches","other"] ["start","touch","touches"] (a0f (top 14)):=⟨rfl,rfl,rfl,by decide +kernel,rfl,by decide +kernel,by decide +kernel⟩
 exact a1h F0 sc (fun _ _ _ _ _ _ us hl=>match us,hl with | [_,_,_],_=>rfl) (k:=2) (body:=a1D) (fun f cdv A outer s H E hr=>(a0d (a1t (fun _=>rfl) (a3U (a0a 2 fun _=>vw 2)) (a0p fun _=>a0n 3 sc.nd rfl (Or.inl rfl)) (a0i (a1F (a9h (a0y (fun _=>g_is_cross) (fun _=>hr) (by decide) (fun _=>rfl) (a0b (a0a 0 fun _=>vw 0) (a0b (a0a 1 fun _=>vw 1) (a0b (a0a 3 fun _=>vw 3) a0h))))) (a0i (a0t (a0Q (a0b a0u (a0b (a0a 1 fun _=>vw 1) (a0b (a0a 3 fun _=>vw 3) a0h)))))) a0S)))
   (a0i (a0t a3u))))
theorem a6M (F0:Fn0 K mg "reason_of" (top 15))(g_boat_reason:Kn P w K mg base "boat_reason" 2 ["start","sheet"] (a0l K (tabK potD Pt lamP lamQ) a1a))(g_touches_of:Kn P w K mg base "touches_of" 1 ["events"] (a0l K (tabK potD Pt lamP lamQ) a0z))(g_cross_reason:Kn P w K mg base "cross_reason" 3 ["start","touch","touches"] (a0l K (tabK potD Pt lamP lamQ) a0W))(g_touch_reason:Kn P w K mg base "touch_reason" 3 ["start","reach","sheet","touch"] (a0l K (tabK potD Pt lamP lamQ) a0V)):Kn P w K mg base "reason_of" 4 ["start","reach","sheet"] (a0l K (tabK potD Pt lamP lamQ) a1p):=by
 have sc:a0o ["start","reach","sheet","reason","touches","touch"] ["start","reach","sheet"] (a0f (top 15)):=⟨rfl,rfl,rfl,by decide +kernel,rfl,by decide +kernel,by decide +kernel⟩
 exact a1h F0 sc (fun _ _ _ _ _ _ us hl=>match us,hl with | [_,_,_],_=>rfl) (k:=3) (body:=a2z) (fun f cdv A outer s H E hr=>(a0d (a0B 3 (fun _=>a0x (i:=3) sc.nd rfl (Or.inl rfl)) (a0y (fun _=>g_boat_reason) (fun _=>hr) (by decide) (fun _=>rfl) (a0b (a0a 0 fun _=>vw 0) (a0b (a0a 2 fun _=>vw 2) a0h))))
   (a0d (a1F (a0M b0L (a0a 3 fun _=>vw 3) (QE.r a3u) (a0A _)) (a0i (a0t (a0a 3 fun _=>vw 3))) a0S)
   (a0d (a0B 4 (fun _=>a0x (i:=4) sc.nd rfl (Or.inl rfl)) (a0y (fun _=>g_touches_of) (fun _=>hr) (by decide) (fun _=>rfl) (a0b (a0a 2 fun _=>vw 2) a0h)))
   (a0d (a1t (fun _=>rfl) (a3U (a0a 4 fun _=>vw 4)) (a0p fun _=>a0n 5 sc.nd rfl (Or.inl rfl)) (a0d (a0B 3 (fun _=>a0x (i:=3) sc.nd rfl (Or.inl rfl)) (qe_orT (a0y (fun _=>g_touch_reason) (fun _=>hr) (by decide) (fun _=>rfl) (a0b (a0a 0 fun _=>vw 0) (a0b (a0a 1 fun _=>vw 1) (a0b (a0a 2 fun _=>vw 2) (a0b (a0a 5 fun _=>vw 5) a0h))))) (qe_one (a0y (fun _=>g_cross_reason) (fun _=>hr) (by decide) (fun _=>rfl) (a0b (a0a 0 fun _=>vw 0) (a0b (a0a 5 fun _=>vw 5) (a0b (a0a 4 fun _=>vw 4) a0h)))))))
   (a0i (a1F (a0M b0L (a0a 3 fun _=>vw 3) (QE.r a3u) (a0A _)) (a0i (a0t (a0a 3 fun _=>vw 3))) a0S))))
   (a0i (a0t a3u)))))))
theorem a8r (F0:Fn0C K mg "order_of" (top 16) cd)(hC:PySem.W.CodeHd base cd Pt)(hB:base.BuiltinsAt mg Pt)(g_reason_of:Kn P w K mg base "reason_of" 4 ["start","reach","sheet"] (a0l K (tabK potD Pt lamP lamQ) a1p))(g_touches_of:Kn P w K mg base "touches_of" 1 ["events"] (a0l K (tabK potD Pt lamP lamQ) a0z))(g_between:Kn P w K mg base "between" 1 ["start","touch"] (a0l K (tabK potD Pt lamP lamQ) a0F))(m_len:mg "len"=none)(m_sorted:mg "sorted"=none)(m_tuple:mg "tuple"=none):Kn P w K mg base "order_of" 5 ["start","reach","sheet"] (a0l K (tabK potD Pt lamP lamQ) a2p):=by
 have sc:a0o ["start","reach","sheet","reason","drops","inner_first"] ["start","reach","sheet"] (a0f (top 16)):=⟨rfl,rfl,rfl,by decide +kernel,rfl,by decide +kernel,by decide +kernel⟩
 exact fn_okC F0 sc (fun _ _ _ _ _ _ us hl=>match us,hl with | [_,_,_],_=>rfl) (k:=4) (body:=a3f) (fun f A outer s H E hr=>(a0d (a0B 3 (fun _=>a0x (i:=3) sc.nd rfl (Or.inl rfl)) (a0y (fun _=>g_reason_of) (fun _=>hr) (by decide) (fun _=>rfl) (a0b (a0a 0 fun _=>vw 0) (a0b (a0a 1 fun _=>vw 1) (a0b (a0a 2 fun _=>vw 2) a0h)))))
   (a0d (a1F (a0M b0L (a0a 3 fun _=>vw 3) (QE.r a3u) (a0A _)) (a0i (a0t (a0Q (a0b a0u (a0b (a0a 3 fun _=>vw 3) a0h))))) a0S)
   (a0d (b3k 4 (b3q (N:=["event"]) (cs:=[none]) (fun _=>a4q rfl rfl rfl rfl trivial rfl rfl rfl) (fun _=>rfl) (a4G (a0a 2 fun _=>vw 2)) (a0p fun _=>a0n 0 (show List.Nodup (["event"]:List Str) by decide +kernel) rfl (Or.inl rfl)) (a9k (a0M (cEq 4 fun _=>hr) (a0T (a0a 0 fun _=>vw 0) a0k) (QE.r a0u) (a0A _))) (a0a 0 fun _=>vw 0)) (fun _=>sc.nd) (fun _=>rfl) (fun _=>Or.inl rfl))
   (a0d (a0B 5 (fun _=>a0x (i:=5) sc.nd rfl (Or.inl rfl)) (QN.ee (b1u (x:="touch") (y:="start") (iy:=0) (c:=fun _=>s.heap.objs.size + 1) (QE.r (a0y (fun _=>g_touches_of) (fun _=>hr) (by decide) (fun _=>rfl) (a0b (a0a 2 fun _=>vw 2) a0h))) (a2P (fun _=>rfl) (fun _=>m_len) (QE.r (a0y (fun _=>g_between) (fun _=>b1p hr) (by decide) (fun _=>rfl) (a0b (a0a 1 fun _=>vw 1) (a0b (a0a 0 fun _=>vw 0) a0h))))) (a9Z rfl rfl rfl rfl rfl rfl (by decide +kernel) (by decide +kernel)) (fun _=>hr) (fun _=>rfl) (fun _=>rfl) (fun _=>rfl) (fun _ _ _ _ _=>rfl) (fun _=>rfl) (fun _=>rfl) (fun _=>rfl) (fun _=>hC) (fun _=>hB) (fun _=>rfl) (fun _=>m_sorted) (fun _=>rfl))))
   (a0i (a0t (a0Q (a0b a0u (a0b (a1N (fun _=>rfl) (fun _=>m_tuple) (QE.r (QN.ee (qn_cat (QE.r (a0a 4 fun _=>vw 4)) (QE.r (a0a 5 fun _=>vw 5)))))) a0h))))))))))
theorem k_span (F0:Fn0 K mg "span" (top 2))(m_min:mg "min"=none):Kn P w K mg base "span" 1 ["meeting","n","k"] (a0l K (tabK potD Pt lamP lamQ) a4O):=by
 have sc:a0o ["meeting","n","k","size","first"] ["meeting","n","k"] (a0f (top 2)):=⟨rfl,rfl,rfl,by decide +kernel,rfl,by decide +kernel,by decide +kernel⟩
 exact a1h F0 sc (fun _ _ _ _ _ _ us hl=>match us,hl with | [_,_,_],_=>rfl) (k:=0) (body:=a9A) (fun f cdv A outer s H E hr=>(a0d (a0B 3 (fun _=>a0x (i:=3) sc.nd rfl (Or.inl rfl)) (a0T (a0a 0 fun _=>vw 0) a0k))
   (a0d (a0B 4 (fun _=>a0x (i:=4) sc.nd rfl (Or.inl rfl)) (a9m (a0a 2 fun _=>vw 2) (a0a 3 fun _=>vw 3)))
   (a0i (a0t (a0Q (a0b (a0a 4 fun _=>vw 4) (a0b (b2y (fun _=>rfl) (fun _=>rfl) (fun _=>m_min) (a0R (a0a 4 fun _=>vw 4) (a0a 3 fun _=>vw 3)) (a3V (a0a 1 fun _=>vw 1) a0k)) a0h))))))))
theorem b1U (F0:Fn0 K mg "put_on" (top 19))(g_span:Kn P w K mg base "span" 1 ["meeting","n","k"] (a0l K (tabK potD Pt lamP lamQ) a4O))(m_len:mg "len"=none):Kn P w K mg base "put_on" 2 ["meeting","row","k","boats"] (a0l K (tabK potD Pt lamP lamQ) a3G):=by
 have sc:a0o ["meeting","row","k","boats","first","last"] ["meeting","row","k","boats"] (a0f (top 19)):=⟨rfl,rfl,rfl,by decide +kernel,rfl,by decide +kernel,by decide +kernel⟩
 exact a1h F0 sc (fun _ _ _ _ _ _ us hl=>match us,hl with | [_,_,_,_],_=>rfl) (k:=1) (body:=a5h) (fun f cdv A outer s H E hr=>(a0d (a3S (fun _=>a1s) (a0y (fun _=>g_span) (fun _=>hr) (by decide) (fun _=>rfl) (a0b (a0a 0 fun _=>vw 0) (a0b (a2P (fun _=>rfl) (fun _=>m_len) (QE.r (a0a 1 fun _=>vw 1))) (a0b (a0a 2 fun _=>vw 2) a0h)))) (a3t (fun _=>rfl) (a0w (a0p fun _=>a0n 4 sc.nd rfl (Or.inl rfl)) (a0w (a0p fun _=>a0n 5 sc.nd rfl (Or.inl rfl)) a1M))))
   (a0i (a0t (a0R (a0R (a4x (a0a 1 fun _=>vw 1) a8b (a0Y (a0a 4 fun _=>vw 4))) (a0a 3 fun _=>vw 3)) (a4x (a0a 1 fun _=>vw 1) (a0Y (a0R (a0a 5 fun _=>vw 5) a0k)) a8b))))))
theorem a6N (F0:Fn0 K mg "exchanged" (top 3))(m_list:mg "list"=none)(m_tuple:mg "tuple"=none):Kn P w K mg base "exchanged" 1 ["row","one","other"] (a0l K (tabK potD Pt lamP lamQ) a1Q):=by
 have sc:a0o ["row","one","other","boats"] ["row","one","other"] (a0f (top 3)):=⟨rfl,rfl,rfl,by decide +kernel,rfl,by decide +kernel,by decide +kernel⟩
 exact a1h F0 sc (fun _ _ _ _ _ _ us hl=>match us,hl with | [_,_,_],_=>rfl) (k:=0) (body:=a2A) (fun f cdv A outer s H E hr=>(a0d (a7s 3 (fun _=>a0x (i:=3) sc.nd rfl (Or.inl rfl)) (a9j (fun _=>rfl) (fun _=>m_list) (QE.r (a0a 0 fun _=>vw 0))))
   (a0d (b3m 3 (fun _=>a1s) (fun _ _ _ h1 h2=>b4d K rfl (a6R (vw 3) (by intro _;rfl) _ h1) (a6R (vw 3) (by intro _;rfl) _ h2)) (a0T (a0a 0 fun _=>vw 0) (a0a 2 fun _=>vw 2)) (a0T (a0a 0 fun _=>vw 0) (a0a 1 fun _=>vw 1)) (a0a 1 fun _=>vw 1) (a0a 2 fun _=>vw 2))
   (a0i (a0t (a1N (fun _=>rfl) (fun _=>m_tuple) (a1W 3 fun _=>vw 3)))))))
theorem a5Q (F0:Fn0 K mg "row_behind" (top 11))(g_touches_of:Kn P w K mg base "touches_of" 1 ["events"] (a0l K (tabK potD Pt lamP lamQ) a0z))(g_exchanged:Kn P w K mg base "exchanged" 1 ["row","one","other"] (a0l K (tabK potD Pt lamP lamQ) a1Q)):Kn P w K mg base "row_behind" 2 ["start","sheet"] (a0l K (tabK potD Pt lamP lamQ) a1w):=by
 have sc:a0o ["start","sheet","row","touch"] ["start","sheet"] (a0f (top 11)):=⟨rfl,rfl,rfl,by decide +kernel,rfl,by decide +kernel,by decide +kernel⟩
 exact a1h F0 sc (fun _ _ _ _ _ _ us hl=>match us,hl with | [_,_],_=>rfl) (k:=1) (body:=a2c) (fun f cdv A outer s H E hr=>(a0d (a0B 2 (fun _=>a0x (i:=2) sc.nd rfl (Or.inl rfl)) (a0a 0 fun _=>vw 0))
   (a0d (a1t (fun _=>rfl) (a3U (a0y (fun _=>g_touches_of) (fun _=>hr) (by decide) (fun _=>rfl) (a0b (a0a 1 fun _=>vw 1) a0h))) (a0p fun _=>a0n 3 sc.nd rfl (Or.inl rfl)) (a0i (a0B 2 (fun _=>a0x (i:=2) sc.nd rfl (Or.inl rfl)) (a0y (fun _=>g_exchanged) (fun _=>hr) (by decide) (fun _=>rfl) (a0b (a0a 2 fun _=>vw 2) (a0b (a1u (a0a 0 fun _=>vw 0) (a0T (a0a 3 fun _=>vw 3) a0k)) (a0b (a1u (a0a 0 fun _=>vw 0) (a0T (a0a 3 fun _=>vw 3) a0k)) a0h)))))))
   (a0i (a0t (a0a 2 fun _=>vw 2))))))
theorem a8p (F0:Fn0 K mg "start_on" (top 18))(g_span:Kn P w K mg base "span" 1 ["meeting","n","k"] (a0l K (tabK potD Pt lamP lamQ) a4O))(m_len:mg "len"=none):Kn P w K mg base "start_on" 2 ["meeting","row","k"] (a0l K (tabK potD Pt lamP lamQ) a1l):=by
 have sc:a0o ["meeting","row","k","first","last"] ["meeting","row","k"] (a0f (top 18)):=⟨rfl,rfl,rfl,by decide +kernel,rfl,by decide +kernel,by decide +kernel⟩
 exact a1h F0 sc (fun _ _ _ _ _ _ us hl=>match us,hl with | [_,_,_],_=>rfl) (k:=1) (body:=a3d) (fun f cdv A outer s H E hr=>(a0d (a3S (fun _=>a1s) (a0y (fun _=>g_span) (fun _=>hr) (by decide) (fun _=>rfl) (a0b (a0a 0 fun _=>vw 0) (a0b (a2P (fun _=>rfl) (fun _=>m_len) (QE.r (a0a 1 fun _=>vw 1))) (a0b (a0a 2 fun _=>vw 2) a0h)))) (a3t (fun _=>rfl) (a0w (a0p fun _=>a0n 3 sc.nd rfl (Or.inl rfl)) (a0w (a0p fun _=>a0n 4 sc.nd rfl (Or.inl rfl)) a1M))))
   (a0i (a0t (a4x (a0a 1 fun _=>vw 1) (a0Y (a0a 3 fun _=>vw 3)) (a0Y (a0R (a0a 4 fun _=>vw 4) a0k)))))))
theorem b4a (F0:Fn0 K mg "raced" (top 20))(g_start_on:Kn P w K mg base "start_on" 2 ["meeting","row","k"] (a0l K (tabK potD Pt lamP lamQ) a1l))(g_row_behind:Kn P w K mg base "row_behind" 2 ["start","sheet"] (a0l K (tabK potD Pt lamP lamQ) a1w))(g_put_on:Kn P w K mg base "put_on" 2 ["meeting","row","k","boats"] (a0l K (tabK potD Pt lamP lamQ) a3G)):Kn P w K mg base "raced" 3 ["meeting","row","k","sheet"] (a0l K (tabK potD Pt lamP lamQ) a5u):=by
 have sc:a0o ["meeting","row","k","sheet"] ["meeting","row","k","sheet"] (a0f (top 20)):=⟨rfl,rfl,rfl,by decide +kernel,rfl,by decide +kernel,by decide +kernel⟩;exact a1h F0 sc (fun _ _ _ _ _ _ us hl=>match us,hl with | [_,_,_,_],_=>rfl) (k:=2) (body:=a6B) (fun f cdv A outer s H E hr=>(a0i (a0t (a0y (fun _=>g_put_on) (fun _=>hr) (by decide) (fun _=>rfl) (a0b (a0a 0 fun _=>vw 0) (a0b (a0a 1 fun _=>vw 1) (a0b (a0a 2 fun _=>vw 2) (a0b (a0y (fun _=>g_row_behind) (fun _=>hr) (by decide) (fun _=>rfl) (a0b (a0y (fun _=>g_start_on) (fun _=>hr) (by decide) (fun _=>rfl) (a0b (a0a 0 fun _=>vw 0) (a0b (a0a 1 fun _=>vw 1) (a0b (a0a 2 fun _=>vw 2) a0h)))) (a0b (a0a 3 fun _=>vw 3) a0h))) a0h))))))))
theorem a5R (F0:Fn0 K mg "day_behind" (top 21))(g_races_of:Kn P w K mg base "races_of" 1 ["meeting","n"] (a0l K (tabK potD Pt lamP lamQ) a1G))(g_start_on:Kn P w K mg base "start_on" 2 ["meeting","row","k"] (a0l K (tabK potD Pt lamP lamQ) a1l))(g_order_of:Kn P w K mg base "order_of" 5 ["start","reach","sheet"] (a0l K (tabK potD Pt lamP lamQ) a2p))(g_raced:Kn P w K mg base "raced" 3 ["meeting","row","k","sheet"] (a0l K (tabK potD Pt lamP lamQ) a5u))(m_len:mg "len"=none)(m_range:mg "range"=none)(m_reversed:mg "reversed"=none):Kn P w K mg base "day_behind" 6 ["meeting","row","day"] (a0l K (tabK potD Pt lamP lamQ) a1x):=by
 have sc:a0o ["meeting","row","day","many","stands","k","word","told"] ["meeting","row","day"] (a0f (top 21)):=⟨rfl,rfl,rfl,by decide +kernel,rfl,by decide +kernel,by decide +kernel⟩
 exact a1h F0 sc (fun _ _ _ _ _ _ us hl=>match us,hl with | [_,_,_],_=>rfl) (k:=5) (body:=a2d) (fun f cdv A outer s H E hr=>(a0d (a0B 3 (fun _=>a0x (i:=3) sc.nd rfl (Or.inl rfl)) (a0y (fun _=>g_races_of) (fun _=>hr) (by decide) (fun _=>rfl) (a0b (a0a 0 fun _=>vw 0) (a0b (a2P (fun _=>rfl) (fun _=>m_len) (QE.r (a0a 1 fun _=>vw 1))) a0h))))
   (a0d (a1F (a0M (cNe 4 fun _=>hr) (a2P (fun _=>rfl) (fun _=>m_len) (QE.r (a0a 2 fun _=>vw 2))) (QE.r (a0a 3 fun _=>vw 3)) (a0A _)) (a0i (a0t (a0Q (a0b a0u (a0b a3u (a0b (a0Q (a0b a0u (a0b (a0a 3 fun _=>vw 3) a0h))) a0h)))))) a0S)
   (a0d (a0B 4 (fun _=>a0x (i:=4) sc.nd rfl (Or.inl rfl)) (a0a 1 fun _=>vw 1))
   (a0d (a1t (fun _=>rfl) (a3T (fun _=>rfl) (fun _=>m_reversed) (fun _=>rfl) (fun _=>m_range) (a0a 3 fun _=>vw 3)) (a0p fun _=>a0n 5 sc.nd rfl (Or.inl rfl)) (a0d (a3S (fun _=>a1s) (a0y (fun _=>g_order_of) (fun _=>hr) (by decide) (fun _=>rfl) (a0b (a0y (fun _=>g_start_on) (fun _=>hr) (by decide) (fun _=>rfl) (a0b (a0a 0 fun _=>vw 0) (a0b (a0a 4 fun _=>vw 4) (a0b (a0a 5 fun _=>vw 5) a0h)))) (a0b (a0T (a0a 0 fun _=>vw 0) a0k) (a0b (a0T (a0a 2 fun _=>vw 2) (a0a 5 fun _=>vw 5)) a0h)))) (a3t (fun _=>rfl) (a0w (a0p fun _=>a0n 6 sc.nd rfl (Or.inl rfl)) (a0w (a0p fun _=>a0n 7 sc.nd rfl (Or.inl rfl)) a1M))))
   (a0d (a1F (a0M (cEq 4 fun _=>hr) (a0a 6 fun _=>vw 6) (QE.r a0u) (a0A _)) (a0i (a0t (a0Q (a0b a0u (a0b (a0a 5 fun _=>vw 5) (a0b (a0a 7 fun _=>vw 7) a0h)))))) a0S)
   (a0i (a0B 4 (fun _=>a0x (i:=4) sc.nd rfl (Or.inl rfl)) (a0y (fun _=>g_raced) (fun _=>hr) (by decide) (fun _=>rfl) (a0b (a0a 0 fun _=>vw 0) (a0b (a0a 4 fun _=>vw 4) (a0b (a0a 5 fun _=>vw 5) (a0b (a0T (a0a 2 fun _=>vw 2) (a0a 5 fun _=>vw 5)) a0h))))))))))
   (a0i (a0t (a0Q (a0b a0u (a0b (a0a 4 fun _=>vw 4) a0h))))))))))
theorem k_law (F0:Fn0 K mg "law" (top 33))(g__law_begin:Kn P w K mg base "_law_begin" 1 ["_law_script"] (a3D K))(g__law_meet:Kn P w K mg base "_law_meet" 3 ["_law_draws","_law_most"] (a0l K (tabK potD Pt lamP lamQ) a1T))(g__law_day:Kn P w K mg base "_law_day" 3 ["_law_draws","_law_meeting","_law_row"] (a0l K (tabK potD Pt lamP lamQ) a2r))(g_day_behind:Kn P w K mg base "day_behind" 6 ["meeting","row","day"] (a0l K (tabK potD Pt lamP lamQ) a1x))(m_range:mg "range"=none)(a2i:mg "repr"=none)(hlaw:∀ns:List Int,ns.length≤63→b1I ⟨fun _ _=>False,fun r _=>r=.bl true,fun _ _=>False,fun _ _=>False⟩ (a2M ["_law_script","_law_draws","_law_asks","_law_turn","_law_meeting","_law_row","_law_day_here","_law_starts","_law_after_here","_law_held","_law_due"] [.scr ns]) 0):Kn P w K mg base "law" 7 ["_law_script"] (a7m K Pt):=by
 have sc:a0o ["_law_script","_law_draws","_law_asks","_law_turn","_law_meeting","_law_row","_law_day_here","_law_starts","_law_after_here","_law_held","_law_due"] ["_law_script"] (a0f (top 33)):=⟨rfl,rfl,rfl,by decide +kernel,rfl,by decide +kernel,by decide +kernel⟩
 exact b3Y (T:=potD) (Pt:=Pt) (lpos:=lamP) (qual:=lamQ) F0 sc (fun _ _ _ _ _ _ us hl=>match us,hl with | [_],_=>rfl) (k:=6) (body:=b1I) (fun f cdv A outer s H E hr=>(a0d (a6t 1 (fun _=>a0x (i:=1) sc.nd rfl (Or.inl rfl)) (fun _=>g__law_begin) (fun _=>hr) (by decide) (fun _=>rfl) (a0a 0 fun _=>vw 0))
   (a0d (a7s 2 (fun _=>a0x (i:=2) sc.nd rfl (Or.inl rfl)) (a1g a0h))
   (a0d (a1t (fun _=>rfl) (a2O (fun _=>rfl) (fun _=>m_range) a0k) (a0p fun _=>a0n 3 sc.nd rfl (Or.inl rfl)) (a0d (a3S (fun _=>a1s) (a0y (fun _=>g__law_meet) (fun _=>hr) (by decide) (fun _=>rfl) (a0b (a0a 1 fun _=>vw 1) (a0b a0k a0h))) (a3t (fun _=>rfl) (a0w (a0p fun _=>a0n 4 sc.nd rfl (Or.inl rfl)) (a0w (a0p fun _=>a0n 5 sc.nd rfl (Or.inl rfl)) a1M))))
   (a0d (a3S (fun _=>a1s) (a0y (fun _=>g__law_day) (fun _=>hr) (by decide) (fun _=>rfl) (a0b (a0a 1 fun _=>vw 1) (a0b (a0a 4 fun _=>vw 4) (a0b (a0a 5 fun _=>vw 5) a0h)))) (a3t (fun _=>rfl) (a0w (a0p fun _=>a0n 6 sc.nd rfl (Or.inl rfl)) (a0w (a0p fun _=>a0n 7 sc.nd rfl (Or.inl rfl)) (a0w (a0p fun _=>a0n 8 sc.nd rfl (Or.inl rfl)) a1M)))))
   (a0i (a1n (fun _=>a1m) (a0Z 2 (fun _=>vw 2) (a0Q (a0b (a0a 4 fun _=>vw 4) (a0b (a0a 5 fun _=>vw 5) (a0b (a0a 6 fun _=>vw 6) (a0b (a0Q (a0b a0u (a0b (a0a 8 fun _=>vw 8) a0h))) a0h)))))))))))
   (a0d (a0B 9 (fun _=>a0x (i:=9) sc.nd rfl (Or.inl rfl)) (a5b (fun _=>hr) (fun _=>rfl) (fun _=>a2i) (a1W 2 fun _=>vw 2)))
   (a0d (a9i 2 (a1t (fun _=>rfl) (a3U (a0a 2 fun _=>vw 2)) (a3t (fun _=>rfl) (a0w (a0p fun _=>a0n 4 sc.nd rfl (Or.inl rfl)) (a0w (a0p fun _=>a0n 5 sc.nd rfl (Or.inl rfl)) (a0w (a0p fun _=>a0n 6 sc.nd rfl (Or.inl rfl)) (a0w (a0p fun _=>a0n 10 sc.nd rfl (Or.inl rfl)) a1M))))) (a0i (a1F (a0M (cNe 4 fun _=>hr) (a5b (fun _=>hr) (fun _=>rfl) (fun _=>a2i) (QE.r (a0y (fun _=>g_day_behind) (fun _=>hr) (by decide) (fun _=>rfl) (a0b (a0a 4 fun _=>vw 4) (a0b (a0a 5 fun _=>vw 5) (a0b (a0a 6 fun _=>vw 6) a0h)))))) (QE.r (a5b (fun _=>hr) (fun _=>rfl) (fun _=>a2i) (QE.r (a0a 10 fun _=>vw 10)))) (a0A _)) (a0i (a0t qe_bl)) a0S))))
   (a0i (a0t (a4H (cEq 4 fun _=>hr) (a5b (fun _=>hr) (fun _=>rfl) (fun _=>a2i) (QE.r (a0a 2 fun _=>vw 2))) (QE.r (a0a 9 fun _=>vw 9)) (a0A _)))))))))) hlaw
end
end Tb
end
section
set_option maxHeartbeats 1000000
namespace Pu
open PySem PySem.Spec L2
theorem a5B {r:Int}:∀(m:List Mk) (k:Nat) (st:List Nat),st.Pairwise (fun a b=>b < a)→(∀p∈st,p < k)→run r k st m=some []→
   (∀i j,PE.t i j∈shE k st m→j < i∧k≤i∧(j∈st∨k≤j)∧(i:Int) - j - 1≤r∧i < k + m.length∧∀q,j < q→q < i→q∈(shE k st m).flatMap peB∨(q < k∧q∉st))∧
   ∀i j i' j',PE.t i j∈shE k st m→PE.t i' j'∈shE k st m→(i=i'∧j=j')∨i < j'∨i' < j∨(j < j'∧i' < i)∨(j' < j∧i < i')
 | [],k,st,_,_,_=>⟨fun i j h=>by simp [shE] at h,fun i j i' j' h=>by simp [shE] at h⟩
 | .t :: m, k, st, pw, hs, hr => by
   obtain⟨h1,h2⟩:=a5B m (k + 1) (k::st) (List.pairwise_cons.mpr ⟨hs,pw⟩) (fun p hp=>(List.mem_cons.mp hp).elim (fun e=>by omega) fun hp=>by have:=hs p hp;omega) hr;refine⟨fun i j h=>?_,h2⟩;obtain⟨a,b,c,d,l,e⟩:=h1 i j h;rw [List.length_cons];refine⟨a,by omega,?_,d,by omega,fun q q1 q2=>?_⟩
   · rcases c with c | c
     · rcases List.mem_cons.mp c with rfl | c
       · exact .inr (Nat.le_refl _)
       · exact .inl c
     · exact .inr (by omega)
   · rcases e q q1 q2 with z | ⟨z1,z2⟩
     · exact .inl z
     · refine .inr ⟨?_,fun z=>z2 (List.mem_cons_of_mem _ z)⟩;have:q≠k:=fun z=>z2 (by rw [z];exact List.mem_cons_self);omega
 | .d :: m, k, st, pw, hs, hr => by
   obtain⟨h1,h2⟩:=a5B m (k + 1) st pw (fun p hp=>by have:=hs p hp;omega) hr;have un:shE k st (.d::m)=PE.d k::shE (k + 1) st m:=rfl;rw [un]
   have tl:∀{i j},PE.t i j∈PE.d k::shE (k + 1) st m→PE.t i j∈shE (k + 1) st m:=fun h=>by
     rcases List.mem_cons.mp h with z | z
     · cases z
     · exact z
   refine⟨fun i j h=>?_,fun i j i' j' h h'=>h2 i j i' j' (tl h) (tl h')⟩;obtain⟨a,b,c,d,l,e⟩:=h1 i j (tl h);rw [List.length_cons,List.flatMap_cons];refine⟨a,by omega,c.imp id (fun z=>by omega),d,by omega,fun q q1 q2=>?_⟩;rcases e q q1 q2 with z | ⟨z1,z2⟩
   · exact .inl (List.mem_append_right _ z)
   · by_cases c:q=k
     · exact .inl (List.mem_append_left _ (by rw [c];simp [peB]))
     · exact .inr ⟨by omega,z2⟩
 | .o::m,k,p::st,pw,hs,hr=>by cases hr
 | .o :: m, k, [], pw, hs, hr => by
   obtain⟨h1,h2⟩:=a5B m (k + 1) [] pw (fun p hp=>nomatch hp) hr;have un:shE k [] (.o::m)=shE (k + 1) [] m:=by simp [shE]
   rw [un];refine⟨fun i j h=>?_,h2⟩;obtain⟨a,b,c,d,l,e⟩:=h1 i j h;have cj:k + 1≤j:=c.elim (fun z=>nomatch z) id;rw [List.length_cons];refine⟨a,by omega,.inr (by omega),d,by omega,fun q q1 q2=>?_⟩;rcases e q q1 q2 with z | ⟨z1,z2⟩
   · exact .inl z
   · omega
 | .u::m,k,[],pw,hs,hr=>by cases hr
 | .u :: m, k, p :: st, pw, hs, hr => by
   have hr':(if(k:Int) - p - 1≤r then run r (k + 1) st m else none)=some []:=hr
   split at hr'
   case isFalse=>cases hr'
   case isTrue hpr=>
   obtain⟨pw1,pw2⟩:=List.pairwise_cons.mp pw;have hp:=hs p List.mem_cons_self;obtain⟨h1,h2⟩:=a5B m (k + 1) st pw2 (fun q hq=>by have:=hs q (List.mem_cons_of_mem _ hq);omega) hr';have un:shE k (p::st) (.u::m)=PE.t k p::shE (k + 1) st m:=rfl;rw [un]
   have tl:∀{i j},PE.t i j∈PE.t k p::shE (k + 1) st m→(i=k∧j=p)∨PE.t i j∈shE (k + 1) st m:=fun h=>by
     rcases List.mem_cons.mp h with z | z
     · cases z;exact .inl ⟨rfl,rfl⟩
     · exact .inr z
   refine⟨fun i j h=>?_,fun i j i' j' h h'=>?_⟩
   · rw [List.length_cons,List.flatMap_cons];rcases tl h with⟨rfl,rfl⟩ | h
     · refine⟨hp,Nat.le_refl _,.inl List.mem_cons_self,hpr,by omega,fun q q1 q2=>.inr ⟨q2,fun z=>?_⟩⟩;rcases List.mem_cons.mp z with z | z
       · omega
       · have:=pw1 q z;omega
     · obtain⟨a,b,c,d,l,e⟩:=h1 i j h;refine⟨a,by omega,c.imp (fun z=>List.mem_cons_of_mem _ z) (fun z=>by omega),d,by omega,fun q q1 q2=>?_⟩;rcases e q q1 q2 with z | ⟨z1,z2⟩
       · exact .inl (List.mem_append_right _ z)
       · by_cases c1:q=k
         · exact .inl (List.mem_append_left _ (by rw [c1];simp [peB]))
         · by_cases c2:q=p
           · exact .inl (List.mem_append_left _ (by rw [c2];simp [peB]))
           · refine .inr ⟨by omega,fun z=>?_⟩;rcases List.mem_cons.mp z with z | z
             · exact c2 z
             · exact z2 z
   · have t1:=tl h;have t2:=tl h';clear h h';rcases t1 with⟨rfl,rfl⟩ | h
     · rcases t2 with⟨rfl,rfl⟩ | h'
       · exact .inl ⟨rfl,rfl⟩
       · obtain⟨a,b,c,_⟩:=h1 i' j' h';rcases c with c | c
         · have:=pw1 j' c;exact .inr (.inr (.inr (.inr ⟨by omega,by omega⟩)))
         · exact .inr (.inl (by omega))
     · rcases t2 with⟨rfl,rfl⟩ | h'
       · obtain⟨a,b,c,_⟩:=h1 i j h;rcases c with c | c
         · have:=pw1 j c;exact .inr (.inr (.inr (.inl ⟨by omega,by omega⟩)))
         · exact .inr (.inr (.inl (by omega)))
       · exact h2 i j i' j' h h'
def btwU (st:List Str)(x y:Str):List Str:=(st.take (max (ixS st x) (ixS st y))).drop (min (ixS st x) (ixS st y) + 1)
theorem b2N {zs:List Str}(nd:zs.Nodup){i:Nat}(h:i < zs.length):ixS zs (nm zs i)=i:=b3L nd (a2v (b2I h)).1 (a6E h)
theorem b4u {st:List Str}{x y:Str}(hx:x∈st)(hy:y∈st)(h:ixS st y < ixS st x):(btwU st x y).length=ixS st x - ixS st y - 1:=by
 have:=a2k hx;unfold btwU;rw [List.length_drop,List.length_take];omega
theorem a6H {st:List Str}(nd:st.Nodup){x y z:Str}(hx:x∈st)(hy:y∈st):z∈btwU st x y↔z∈st∧min (ixS st x) (ixS st y) < ixS st z∧ixS st z < max (ixS st x) (ixS st y):=by
 unfold btwU;constructor
 · intro h;obtain⟨q,hq,e⟩:=List.getElem_of_mem h;rw [List.length_drop,List.length_take] at hq;rw [List.getElem_drop,List.getElem_take] at e;have hm:z∈st:=by rw [← e];exact List.getElem_mem _
   have ez:st[min (ixS st x) (ixS st y) + 1 + q]?=some z:=by rw [List.getElem?_eq_getElem (by omega),e]
   have:=b3L nd (a2v hm).1 ez;exact⟨hm,by omega,by omega⟩
 · rintro⟨hm,h1,h2⟩;have hl:=a2k hm;have e:=(a2v hm).1;refine List.mem_of_getElem? (i:=ixS st z - (min (ixS st x) (ixS st y) + 1)) ?_;rw [List.getElem?_drop,show min (ixS st x) (ixS st y) + 1 + (ixS st z - (min (ixS st x) (ixS st y) + 1))=ixS st z by omega,List.getElem?_take,if_pos h2];exact e
structure a4u (r:Int)(st:List Str)(es:List Ev):Prop where
 fair:Fair st es
 ahead:∀x y,Ev.t x y∈es→ixS st y < ixS st x
 near:∀x y,Ev.t x y∈es→((btwU st x y).length:Int)≤r
 full:∀x y,Ev.t x y∈es→∀z∈btwU st x y,z∈es.flatMap evB
 plain:∀x y x' y',Ev.t x y∈es→Ev.t x' y'∈es→(x'∈btwU st x y↔y'∈btwU st x y)
theorem Fair.tx {st:List Str}{es:List Ev}(h:Fair st es){x y:Str}(he:Ev.t x y∈es):x∈st∧y∈st:=
 ⟨h.sub x (List.mem_flatMap.mpr ⟨_,he,by simp [evB]⟩),h.sub y (List.mem_flatMap.mpr ⟨_,he,by simp [evB]⟩)⟩
theorem a4u.perm {r:Int}{st:List Str}{es es':List Ev}(h:a4u r st es)(p:es'.Perm es):a4u r st es':=
 ⟨h.fair.perm p,fun x y hx=>h.ahead x y (p.mem_iff.mp hx),fun x y hx=>h.near x y (p.mem_iff.mp hx),fun x y hx z hz=>(a3c p).mem_iff.mpr (h.full x y (p.mem_iff.mp hx) z hz),fun x y x' y' hx hx'=>h.plain x y x' y' (p.mem_iff.mp hx) (p.mem_iff.mp hx')⟩
theorem b1i {r:Int}{zs:List Str}(nd:zs.Nodup){m:List Mk}(hl:m.length=zs.length)(hw:run r 0 [] m=some []):a4u r zs ((shE 0 [] m).map (evOf zs)):=by
 have fr:=b4f nd hl;obtain⟨h1,h2⟩:=a5B m 0 [] List.Pairwise.nil (fun _ z=>nomatch z) hw
 have ev:∀x y,Ev.t x y∈(shE 0 [] m).map (evOf zs)→∃i j,PE.t i j∈shE 0 [] m∧x=nm zs i∧y=nm zs j∧i < zs.length∧j < i∧ixS zs x=i∧ixS zs y=j:=fun x y h=>by
   obtain⟨e,he,q⟩:=List.mem_map.mp h;cases e with
   | d i=>cases q
   | t i j =>
     cases q;obtain⟨a,b,c,d,l,e⟩:=h1 i j he;exact⟨i,j,he,rfl,rfl,by omega,a,b2N nd (by omega),b2N nd (by omega)⟩
 refine⟨fr,fun x y h=>?_,fun x y h=>?_,fun x y h z hz=>?_,fun x y x' y' h h'=>?_⟩
 · obtain⟨i,j,he,rfl,rfl,li,lj,e1,e2⟩:=ev x y h;rw [e1,e2];exact lj
 · obtain⟨hx,hy⟩:=fr.tx h;obtain⟨i,j,he,_,_,li,lj,e1,e2⟩:=ev x y h;rw [b4u hx hy (by omega),e1,e2];have:=(h1 i j he).2.2.2.1;omega
 · obtain⟨hx,hy⟩:=fr.tx h;obtain⟨i,j,he,_,_,li,lj,e1,e2⟩:=ev x y h;obtain⟨zm,z1,z2⟩:=(a6H nd hx hy).mp hz;rw [e1,e2] at z1 z2;have hq:=(h1 i j he).2.2.2.2.2 (ixS zs z) (by omega) (by omega);rcases hq with hq | ⟨hq,_⟩
   · rw [a6T];refine List.mem_map.mpr ⟨_,hq,?_⟩;have:=a6E (zs:=zs) (a2k zm);rw [(a2v zm).1] at this;exact(Option.some.inj this).symm
   · omega
 · obtain⟨hx,hy⟩:=fr.tx h;obtain⟨hx',hy'⟩:=fr.tx h';obtain⟨i,j,he,_,_,li,lj,e1,e2⟩:=ev x y h;obtain⟨i',j',he',_,_,li',lj',e1',e2'⟩:=ev x' y' h';rw [a6H nd hx hy,a6H nd hx hy,e1,e2,e1',e2'];have:=h2 i j i' j' he he';constructor
   · rintro⟨_,a,b⟩;exact⟨hy',by omega,by omega⟩
   · rintro⟨_,a,b⟩;exact⟨hx',by omega,by omega⟩
end Pu
end
section
set_option maxHeartbeats 1000000
namespace Tb
open PySem L2 Pu
set_option compiler.extract_closed false in
set_option hygiene false in
local macro_rules | `(tactic| walk_at "pu") => do
  let s ← `(tactic| simp only [qSeq,qNx,qSet,qOwn,qAsg,a2t,qRet,b1z,qIfS,qPar,sV,sO,qPut,gAt,a6u,b2e,qV,qO,qC,qOp,qOpR,qUn,wI,wI0,wAdd,wSub,wMul,b1c,wMod,wEq,wNe,wLt,wGt,a6m,qB,qAnd,qOr,qIf,qNil,a0c,qTup,qLst,qL,wIx,qNo,a1Z,qSl,wSl,wLen,a2u,b1A,wMin,a0v,gN,gNl,gCn,gTp,qIl,qIt,a8d,capV,capS,qTru,a9p,qCat,wNeg,a0O,a6v,qPop,a2M,List.map,List.set,List.length_cons,List.length_nil,List.getElem?_cons_zero,List.getElem?_cons_succ,List.cons_append,List.nil_append,List.replicate,Nat.reduceSub,Nat.reduceAdd,Option.bind,true_and,and_true,reduceIte,Bool.not_true,Bool.not_false,beq_self_eq_true,Bool.true_or,Bool.false_or,Bool.or_false,Bool.true_and,Bool.false_and,String.reduceBEq,cmpb,a3s,Bool.false_eq_true,b2Q,a5X,b2R,eqP_ll,eqP_tt,b4k,b4j,decide_true,decide_false,b0O,a8N,b2B,a7g,qZip,qFor,a5c,a5N,b1y,a5d,a1X,b3r,a0q,at2_0,at2_1,at3_0,at3_1,at3_2,Nat.reduceLeDiff,Nat.reduceLT,Int.reduceLT,Int.reduceLE,Nat.zero_le,gTl,a9o,a3y,a3W,qOrT,a7t,a2J])
  match s with
  | `(tactic| simp only [$xs,*]) => `(tactic| (try dsimp only [$(⟨xs.elemsAndSeps⟩),*]) <;> (try $s:tactic))
  | _ => Lean.Macro.throwUnsupported
theorem b3T {q n:Nat}{many:Int}{R:PV→Nat→Prop}(h0:1≤many)(h1:many≤24)(hn:n≤999900000)(h:∀zs n',(zs.length:Int)=many→RowS zs→n'≤n + 100→R (rowP zs) n'):a1A [.pot (q + 1),.int many] n R:=by
 refine⟨rfl,?_⟩;unfold a2g;have ll:LETS.length≤1000000:=by rw [a7A];decide
 have lc:∀c:Nat,(⟨#[c]⟩:Str).length=1:=fun _=>rfl;walk_at "pu";refine⟨by omega,fun d d0 d1=>?_⟩;obtain⟨tv,htv,etv⟩:=a4t (xs:=[PV.int 1,PV.int 3,PV.int 5,PV.int 7,PV.int 9,PV.int 11,PV.int 15,PV.int 17,PV.int 19,PV.int 21]) d0 (by simpa using d1)
 obtain⟨t,rfl,ht⟩:∃t:Int,tv=.int t∧t∈a8H:=by
   simp only [List.mem_cons,List.not_mem_nil,or_false] at htv;rcases htv with rfl | rfl | rfl | rfl | rfl | rfl | rfl | rfl | rfl | rfl <;> exact⟨_,rfl,by decide⟩
 have t30:=a7S ht;rw [etv];dsimp only;refine⟨by omega,fun fi f0 f1=>?_⟩;refine a0L (fun i env m=>∃z s6,env=[some (.v (.pot (q + 1))),some (.v (.int many)),some (.v (.str LETS)),some (.v (.str z)),some (.v (.int t)),some (.v (.int fi)),s6,none,none,none,none,none]∧LsE i z∧m≤n + 2 + i) _ 0 _ _ ⟨Str.ofString "",none,rfl,⟨rfl,(fun c hc=>by rw [show(Str.ofString "").cps.toList=[] from rfl] at hc;cases hc)⟩,by omega⟩ (fun i x env m N ex hI hN=>?_) (fun env m hI=>?_)
 · obtain⟨z,s6,rfl,hz,hm⟩:=hI;obtain⟨hi,rfl⟩:=a4W ex;rw [Nat.zero_add] at hz hm hN;have hi7:i < 7:=hi;walk_at "pu";refine⟨by omega,fun u u0 u1=>⟨ll,?_⟩⟩;rw [a9W u0 u1];dsimp only;have zl:z.length=i:=by rw [a2x];exact hz.1
   refine⟨by rw [zl,lc];omega,?_⟩;exact hN _ _ ⟨_,_,rfl,hz.more ⟨by omega,by omega⟩,by omega⟩
 · obtain⟨z,s6,rfl,hz,hm⟩:=hI;rw [a6p,Nat.zero_add] at hz hm;have hz7:LsE 7 z:=hz
   have hm7:m≤n + 9:=by
     have:(7:Int).toNat=7:=rfl;omega
   have zl:z.length=7:=by rw [a2x];exact hz7.1
   walk_at "pu";refine⟨by omega,fun at_ a0 a1=>?_⟩;obtain⟨a,rfl⟩:=Int.eq_ofNat_of_zero_le a0;refine⟨⟨by omega,by omega⟩,?_⟩;refine a0L (fun i env m'=>∃zs s6 s9 s10,env=[some (.v (.pot (q + 1))),some (.v (.int many)),some (.v (.str LETS)),some (.v (.str z)),some (.v (.int t)),some (.v (.int fi)),s6,some (.v (.int (a:Int))),some (.own (zs.map PV.str)),s9,s10,none]∧NmA fi t a zs i∧m'≤n + 10 + i) _ 0 _ _ ⟨[],_,_,_,rfl,⟨rfl,List.nodup_nil,(fun j z e=>by simp at e),(fun _ z=>nomatch z)⟩,by omega⟩ (fun i x env m' N ex hI hN=>?_) (fun env m' hI=>?_)
   · obtain⟨zs,s6,s9,s10,rfl,hs,hm'⟩:=hI;obtain⟨hi,rfl⟩:=a4W ex;rw [Nat.zero_add] at hs hm' hN;have sl:=hs.len;walk_at "pu";refine⟨⟨by omega,by omega,by omega⟩,fun u u0 u1=>?_⟩;obtain⟨b,rfl⟩:=Int.eq_ofNat_of_zero_le u0;have em:fi + t * (0 + (i:Int))=fi + (i:Int) * t:=by rw [Int.zero_add,Int.mul_comm]
     rw [em,lt_at];dsimp only;have eab:(a:Int) + (b:Int)=((a + b:Nat):Int):=by omega
     rw [eab];have cl:=a8C hz7 (show a≤a + b by omega) (show a + b≤7 by omega) (lt_ltr (f:=fi) (t:=t) (k:=i));have k1:=Txt.slice_le z none (some (a:Int));have k2:=Txt.slice_le z (some (a:Int)) (some ((a + b:Nat):Int));have k3:(Txt.slice z none (some (a:Int))++⟨#[lt fi t i]⟩).length=(Txt.slice z none (some (a:Int))).length + 1:=by rw [a2x,a4p,List.length_append,← a2x];rfl
     refine⟨.inl ⟨by omega,by omega⟩,ll,⟨_,rfl⟩,by omega,by rw [lc];omega,by omega,by omega,by rw [List.length_map];omega,?_⟩;refine hN _ _ ⟨zs++[_],_,_,_,by rw [List.map_append];rfl,hs.more ht f0 (by omega) cl.1 cl.2,by omega⟩
   · obtain⟨zs,s6,s9,s10,rfl,hs,hm'⟩:=hI;rw [a6p,Nat.zero_add] at hs hm';have sl:=hs.len;generalize hZ:zs.map PV.str=Z;have Zl:Z.length=zs.length:=by rw [← hZ,List.length_map]
     walk_at "pu";refine⟨by omega,fun e e0 e1=>?_⟩;obtain⟨x,hx,ex⟩:=a4t (xs:=[PV.str (Str.ofString "drop"),PV.str (Str.ofString "touch"),PV.str (Str.ofString "none"),PV.str (Str.ofString "d"),PV.str (Str.ofString "u"),PV.str (Str.ofString "t"),PV.str (Str.ofString "o")]) e0 (by simpa using e1);rw [ex]
     obtain⟨y,rfl,by_⟩:∃z,x=.str z∧a3B z:=by
       simp only [List.mem_cons,List.not_mem_nil,or_false] at hx;rcases hx with rfl | rfl | rfl | rfl | rfl | rfl | rfl <;> exact⟨_,rfl,by decide,by decide,by unfold Ltr;decide⟩
     dsimp only;have fin:∀m2,m2≤n + 100→R (.tup Z) m2:=fun m2 h2=>by rw [← hZ];exact h zs m2 (by omega) ⟨hs.nd,hs.bt⟩ h2
     refine a7x hZ ?_
     by_cases c:y∈zs
     · exact if_f (by simp [c]) (fin _ (by omega))
     · refine if_t (by simp [c]) ⟨by omega,fun d2 d20 d21=>?_⟩
       by_cases c2:d2=0
       · refine if_t (decide_eq_true c2) ⟨⟨_,rfl⟩,⟨by omega,by omega,by omega⟩,fun j j0 j1=>?_⟩;rw [a2j j0 (by omega)];dsimp only;have es:Z.set j.toNat (.str y)=(zs.set j.toNat y).map PV.str:=by rw [← hZ,List.map_set]
         rw [es];refine h _ _ (by rw [List.length_set];omega) ⟨?_,fun w hw=>?_⟩ (by omega)
         · exact a9I hs.nd c j.toNat
         · rcases List.mem_or_eq_of_mem_set hw with hw | hw
           · exact hs.bt w hw
           · rw [hw];exact by_
       · exact if_f (decide_eq_false c2) (fin _ (by omega))
abbrev pin (p:Nat):PV:=.int (p:Int)
theorem b2u (ms:List Mk)(p:Nat)(m:Mk):(ms.map mkP).set p (mkP m)=(ms.set p m).map mkP:=(List.map_set).symm
theorem b1D {p:Nat}{ps:List Nat}:atI ((p::ps).reverse.map pin) (-1)=some (pin p):=by
 rw [List.reverse_cons,List.map_append];exact b2p (ps.reverse.map pin) (pin p)
theorem a7u {p:Nat}{ps:List Nat}:((p::ps).reverse.map pin)[((p::ps).reverse.map pin).length - 1]?=some (pin p)∧((p::ps).reverse.map pin).dropLast=ps.reverse.map pin:=by
 rw [List.reverse_cons,List.map_append];refine⟨?_,by simp⟩;rw [List.getElem?_append_right (by simp)];simp
abbrev wEnv (q:Nat)(many r:Int)(ms:List Mk)(ps:List Nat)(s5 s6:Option Pu.Slot):Pu.Env:=[some (.v (.pot (q + 1))),some (.v (.int many)),some (.v (.int r)),some (.own (ms.map mkP)),some (.own (ps.reverse.map pin)),s5,s6]
theorem a9O {q:Nat}{many r:Int}{i m:Nat}{s6:Option Pu.Slot}{ms:List Mk}{D:a4D}:∀(ps:List Nat),Seg r ps ms→(∀ps',Seg r ps' ms→(∀p ps'',ps'=p::ps''→(i:Int) - p - 1≤r)→D.nx (wEnv q many r ms ps' (some (.v (.int (i:Int)))) s6) m)→
   a2I (qAnd (qB (qOpR (wNe 4) (qO 4) (qL (qLst qNil)))) (qB (qOp wGt (qOp wSub (qOp wSub (qV 5) (qOpR wIx (qO 4) (qUn wNeg (qC (.int 1))))) (qC (.int 1))) (qV 2)))) (qPut 3 (qC (.str (PySem.Str.ofString "d"))) (qPop 4)) D (ps.length + 1) (wEnv q many r ms ps (some (.v (.int (i:Int)))) s6) m
 | [], hs, h => by
   unfold a2I wEnv;walk_at "pu";exact⟨rfl,rfl,if_f rfl (h [] hs (fun _ _ e=>nomatch e))⟩
 | p :: ps, hs, h => by
   have tp:=b1D (p:=p) (ps:=ps);have pp:=a7u (p:=p) (ps:=ps)
   have pa:((p::ps).reverse.map pin).all (cmpb 3)=true:=by
     have e:(p::ps).reverse.map pin=((p::ps).reverse.map fun p=>((p:Nat):Int)).map PV.int:=by rw [List.map_map];rfl
     rw [e];exact b0S _ 3
   have pe:eqPs ((p::ps).reverse.map pin) []=false:=by
     cases hh:(p::ps).reverse.map pin with
     | nil=>simp at hh
     | cons a l=>rfl
   have base:=fun c=>h (p::ps) hs c;obtain⟨hlt,hset,hs'⟩:=hs.popd;have rec_:=a9O (q:=q) (many:=many) (i:=i) (m:=m) (s6:=s6) (D:=D) ps hs' h;show a2I _ _ _ (ps.length + 1 + 1) _ _;unfold wEnv at *;generalize (p::ps).reverse.map pin=PL at *;generalize hM:ms.map mkP=ML at *;have ml:ML.length=ms.length:=by rw [← hM,List.length_map]
   have mset:ML.set p (.str (Str.ofString "d"))=ML:=by rw [← hM];exact(b2u ms p .d).trans (by rw [hset])
   unfold a2I;walk_at "pu";refine⟨pa,rfl,if_t (by rw [pe];rfl) ?_⟩;rw [tp];dsimp only
   by_cases c:r < (i:Int) - p - 1
   · refine if_t (decide_eq_true c) ⟨⟨_,rfl⟩,?_⟩;rw [pp.1];dsimp only;rw [a2j (by omega) (by omega)];dsimp only;rw [Int.toNat_natCast,mset,pp.2];exact rec_
   · exact if_f (decide_eq_false c) (base fun p' ps'' e=>by cases e;omega)
theorem m_word {q n many:Nat}{r:Int}{R:PV→Nat→Prop}(h24:many≤24)(hn:n≤999900000)(h:∀ms n',ms.length=many→run r 0 [] ms=some []→n'≤n + 50→R (.lst (ms.map mkP)) n'):a1R [.pot (q + 1),.int (many:Int),.int r] n R:=by
 refine⟨rfl,?_⟩;unfold a2B;walk_at "pu";refine⟨⟨by omega,by omega⟩,?_⟩;rw [Int.toNat_natCast];refine a0L (fun i env m=>∃ms ps s5 s6,env=wEnv q many r ms ps s5 s6∧Seg r ps ms∧ms.length=i∧m≤n + 2 * i) _ 0 _ _ ⟨[],[],none,none,rfl,rfl,rfl,by omega⟩ (fun i x env m N ex hI hN=>?_) (fun env m hI=>?_)
 · obtain⟨ms,ps,s5,s6,rfl,hs,hl,hm⟩:=hI;obtain⟨hi,rfl⟩:=a4W ex;rw [Nat.zero_add] at hl hm hN;have ei:(0:Int) + (i:Int)=(i:Int):=by omega
   rw [ei];have w:=fun D=>a9O (q:=q) (many:=(many:Int)) (r:=r) (i:=i) (m:=m) (s6:=s6) (ms:=ms) (D:=D) ps hs;unfold wEnv at w ⊢;walk_at "pu";refine⟨ps.length + 1,w _ fun ps' hs' top=>?_⟩;clear w hs;generalize hP:ps'.reverse.map pin=PL;generalize hM:ms.map mkP=ML;have ml:ML.length=ms.length:=by rw [← hM,List.length_map]
   walk_at "pu";refine⟨by omega,fun w w0 w1=>?_⟩
   have pl:PL.length≤24:=by
     rw [← hP,List.length_map,List.length_reverse];have:=hs'.len;omega
   have pa:PL.all (cmpb 3)=true:=by
     have e:ps'.reverse.map pin=(ps'.reverse.map fun p=>((p:Nat):Int)).map PV.int:=by rw [List.map_map];rfl
     rw [← hP,e];exact b0S _ 3
   have em:∀k:Pu.Mk,ML++[mkP k]=(ms++[k]).map mkP:=fun k=>by rw [List.map_append,hM];rfl
   have emd:ML++[PV.str (Str.ofString "d")]=(ms++[Pu.Mk.d]).map mkP:=em Pu.Mk.d;have emo:ML++[PV.str (Str.ofString "o")]=(ms++[Pu.Mk.o]).map mkP:=em Pu.Mk.o
   have push:∀s5 s6 m',m'≤m + 2→N [some (.v (.pot (q + 1))),some (.v (.int (many:Int))),some (.v (.int r)),some (.own (ML++[PV.str (Str.ofString "d")])),some (.own (PL++[PV.int (i:Int)])),s5,s6] m':=fun s5 s6 m' hm'=>by
     have e2:PL++[PV.int (i:Int)]=(ms.length::ps').reverse.map pin:=by rw [List.reverse_cons,List.map_append,hP,hl];rfl
     rw [emd,e2];exact hN _ _ ⟨_,_,_,_,rfl,hs'.push,by rw [List.length_append,hl];rfl,by omega⟩
   have stay:∀s5 s6 m',m'≤m + 2→N [some (.v (.pot (q + 1))),some (.v (.int (many:Int))),some (.v (.int r)),some (.own (ML++[PV.str (Str.ofString "d")])),some (.own PL),s5,s6] m':=fun s5 s6 m' hm'=>by
     rw [emd,← hP];exact hN _ _ ⟨_,_,_,_,rfl,hs'.drop,by rw [List.length_append,hl];rfl,by omega⟩
   refine⟨pa,rfl,?_⟩;cases ps' with
   | nil =>
     have eP:PL=[]:=by rw [← hP];rfl
     refine if_f (by rw [eP];rfl) ?_
     by_cases c2:w=2
     · exact if_t (decide_eq_true c2) ⟨⟨_,rfl⟩,by omega,⟨_,rfl⟩,by omega,push _ _ _ (by omega)⟩
     refine if_f (decide_eq_false c2) ?_
     by_cases c3:w=3
     · exact if_t (decide_eq_true c3) ⟨⟨_,rfl⟩,by omega,⟨_,rfl⟩,by omega,push _ _ _ (by omega)⟩
     refine if_f (decide_eq_false c3) ⟨⟨_,rfl⟩,pa,rfl,if_f (by rw [eP];rfl) ⟨by omega,fun d d0 d1=>?_⟩⟩;obtain⟨z,hz,ez⟩:=a4t (xs:=[PV.str (Str.ofString "o"),PV.str (Str.ofString "o"),PV.str (Str.ofString "d")]) d0 (by simpa using d1);rw [ez];dsimp only;refine⟨by omega,?_⟩
     have hz':z=PV.str (Str.ofString "o")∨z=PV.str (Str.ofString "d"):=by
       simp only [List.mem_cons,List.not_mem_nil,or_false] at hz;rcases hz with h | h | h
       · exact .inl h
       · exact .inl h
       · exact .inr h
     rcases hz' with rfl | rfl
     · rw [emo,← hP];exact hN _ _ ⟨_,_,_,_,rfl,hs'.over,by rw [List.length_append,hl];rfl,by omega⟩
     · exact stay _ _ _ (by omega)
   | cons p ps' =>
     have pe:eqPs PL []=false:=by
       rw [← hP];cases hh:(p::ps').reverse.map pin with
       | nil=>simp at hh
       | cons a l=>rfl
     refine if_t (by rw [pe];rfl) ?_
     by_cases c1:w < 2
     · refine if_t (decide_eq_true c1) ⟨⟨_,rfl⟩,?_⟩;obtain⟨pp1,pp2⟩:=a7u (p:=p) (ps:=ps');rw [hP] at pp1 pp2;rw [pp1];dsimp only;obtain⟨hlt,hs2⟩:=hs'.popt (by rw [hl];exact top p ps' rfl);rw [a2j (by omega) (by omega)];dsimp only;rw [Int.toNat_natCast,pp2]
       have e3:ML.set p (PV.str (Str.ofString "t"))++[PV.str (Str.ofString "u")]=(ms.set p Pu.Mk.t++[Pu.Mk.u]).map mkP:=by
         rw [List.map_append,← b2u,hM];rfl
       rw [e3];refine⟨⟨_,rfl⟩,by rw [List.length_set];omega,?_⟩;exact hN _ _ ⟨_,_,_,_,rfl,hs2,by rw [List.length_append,List.length_set,hl];rfl,by omega⟩
     refine if_f (decide_eq_false c1) ?_
     by_cases c2:w=2
     · exact if_t (decide_eq_true c2) ⟨⟨_,rfl⟩,by omega,⟨_,rfl⟩,by omega,push _ _ _ (by omega)⟩
     refine if_f (decide_eq_false c2) ?_
     by_cases c3:w=3
     · exact if_t (decide_eq_true c3) ⟨⟨_,rfl⟩,by omega,⟨_,rfl⟩,by omega,push _ _ _ (by omega)⟩
     exact if_f (decide_eq_false c3) ⟨⟨_,rfl⟩,pa,rfl,if_t (by rw [pe];rfl) ⟨by omega,stay _ _ _ (by omega)⟩⟩
 · obtain⟨ms,ps,s5,s6,rfl,hs,hl,hm⟩:=hI;rw [Nat.zero_add,a6p] at hl hm;have:=h ms m (by simpa using hl) hs.wrd (by omega);unfold wEnv;generalize hM:ms.map mkP=ML at *;walk_at "pu";exact this
theorem b0Z {zs:List Str}{k:Nat}(hk:k < zs.length)(m:Pu.Mk)(ms:List Pu.Mk):zipP ((zs.drop k).map PV.str) ((m::ms).map mkP)=.tup [.str (nm zs k),mkP m]::zipP ((zs.drop (k + 1)).map PV.str) (ms.map mkP):=by
 have e:zs.drop k=nm zs k::zs.drop (k + 1):=by
   rw [List.drop_eq_getElem_cons hk];have:=a6E hk;rw [List.getElem?_eq_getElem hk] at this;rw [Option.some.inj this]
 rw [e];rfl
abbrev pst (zs:List Str)(st:List Nat):List PV:=st.reverse.map fun p=>PV.str (nm zs p)
theorem b3s {zs:List Str}{p:Nat}{ps:List Nat}:(pst zs (p::ps))[(pst zs (p::ps)).length - 1]?=some (.str (nm zs p))∧(pst zs (p::ps)).dropLast=pst zs ps:=by
 unfold pst;rw [List.reverse_cons,List.map_append];refine⟨?_,by simp⟩;rw [List.getElem?_append_right (by simp)];simp
theorem a4K {zs:List Str}{r:Int}{n:Nat}{D:a4D}{X:PV}:∀(ms:List Pu.Mk) (k:Nat) (st:List Nat) (acc:List Ev) (s4 s5:Option Pu.Slot),run r k st ms=some []→k + ms.length=zs.length→acc.length≤k→st.length≤k→zs.length≤24→
   (∀s4 s5 pl,D.nx [some (.v (rowP zs)),some (.v X),some (.own pl),some (.own ((acc++(shE k st ms).map (evOf zs)).map evP)),s4,s5] n)→
   forL (gTp 2 (gCn (gN 4) (gCn (gN 5) gNl))) (qIfS (qB (qOp (wEq 4) (qV 5) (qC (.str (PySem.Str.ofString "t"))))) (a2t (a0O 2 (qV 4))) (qIfS (qB (qOp (wEq 4) (qV 5) (qC (.str (PySem.Str.ofString "u"))))) (a2t (a0O 3 (qTup (a0c (qC (.str (PySem.Str.ofString "touch"))) (a0c (qV 4) (a0c (qPop 2) qNil)))))) (qIfS (qB (qOp (wEq 4) (qV 5) (qC (.str (PySem.Str.ofString "d"))))) (a2t (a0O 3 (qTup (a0c (qC (.str (PySem.Str.ofString "drop"))) (a0c (qV 4) qNil))))) qNx))) D
     (zipP ((zs.drop k).map PV.str) (ms.map mkP)) [some (.v (rowP zs)),some (.v X),some (.own (pst zs st)),some (.own (acc.map evP)),s4,s5] n
 | [], k, st, acc, s4, s5, hr, hk, _, _, _, h => by
   have:zipP ((zs.drop k).map PV.str) ([]:List PV)=[]:=by unfold zipP;simp
   rw [List.map_nil,this];have:=h s4 s5 (pst zs st);simp only [shE,List.map_nil,List.append_nil] at this;exact this
 | m :: ms, k, st, acc, s4, s5, hr, hk, ha, hs, h24, h => by
   rw [List.length_cons] at hk;rw [b0Z (by omega)];have go:=a4K (zs:=zs) (r:=r) (n:=n) (D:=D) (X:=X) ms (k + 1);have pl:(pst zs st).length≤24:=by unfold pst;rw [List.length_map,List.length_reverse];omega
   have al:(acc.map evP).length≤24:=by rw [List.length_map];omega
   have e1:∀e:Ev,acc.map evP++[evP e]=(acc++[e]).map evP:=fun e=>by rw [List.map_append];rfl
   unfold rowP at *;generalize hZ:zs.map PV.str=Z at *;generalize hA:acc.map evP=AL at *;unfold forL;have nt:∀z,(decide (mkS m=z))=decide (mkS m=z):=fun _=>rfl;cases m with
   | t =>
     have h':=go (k::st) acc (some (.v (.str (nm zs k)))) (some (.v (mkP .t))) hr (by omega) (by omega) (by rw [List.length_cons];omega) h24 h;have e2:pst zs st++[.str (nm zs k)]=pst zs (k::st):=by unfold pst;rw [List.reverse_cons,List.map_append];rfl
     rw [hA,← e2] at h';generalize pst zs st=PS at *;rw [show mkP .t=.str (mkS .t) from rfl] at *;walk_at "pu";refine(if_t (by rw [mk_t];rfl) ⟨⟨_,rfl⟩,by omega,h'⟩)
   | o =>
     cases st with
     | cons p st=>cases hr
     | nil =>
       have h':=go [] acc (some (.v (.str (nm zs k)))) (some (.v (mkP .o))) hr (by omega) (by omega) (by simp) h24 h;rw [hA] at h';generalize pst zs []=PS at *;rw [show mkP .o=.str (mkS .o) from rfl] at *;walk_at "pu";refine(if_f (by rw [mk_t];rfl) ((if_f (by rw [mk_u];rfl) ((if_f (by rw [mk_d];rfl) h')))))
   | d =>
     have h':=go st (acc++[.d (nm zs k)]) (some (.v (.str (nm zs k)))) (some (.v (mkP .d))) hr (by omega) (by rw [List.length_append,List.length_singleton];omega) (by omega) h24 (by
       intro s4 s5 pl;have:=h s4 s5 pl;rw [List.append_assoc]
       exact this)
     rw [← e1] at h';generalize pst zs st=PS at *;rw [show mkP .d=.str (mkS .d) from rfl] at *;walk_at "pu";refine(if_f (by rw [mk_t];rfl) ((if_f (by rw [mk_u];rfl) ((if_t (by rw [mk_d];rfl) ⟨⟨_,rfl⟩,by omega,h'⟩)))))
   | u =>
     cases st with
     | nil=>cases hr
     | cons p st =>
       have hr':run r (k + 1) st ms=some []:=by
         have:(if(k:Int) - p - 1≤r then run r (k + 1) st ms else none)=some []:=hr
         split at this
         · exact this
         · cases this
       have h':=go st (acc++[.t (nm zs k) (nm zs p)]) (some (.v (.str (nm zs k)))) (some (.v (mkP .u))) hr' (by omega) (by rw [List.length_append,List.length_singleton];omega) (by rw [List.length_cons] at hs;omega) h24 (by
         intro s4 s5 pl;have:=h s4 s5 pl;rw [List.append_assoc]
         exact this)
       rw [← e1] at h';obtain⟨pp1,pp2⟩:=b3s (zs:=zs) (p:=p) (ps:=st);rw [← pp2] at h';generalize pst zs (p::st)=PS at *;rw [show mkP .u=.str (mkS .u) from rfl] at *;walk_at "pu";refine(if_f (by rw [mk_t];rfl) ((if_t (by rw [mk_u];rfl) ⟨⟨_,rfl⟩,?_⟩)));rw [pp1];dsimp only;exact⟨by omega,h'⟩
theorem a2y:∀(m:List Pu.Mk) (k:Nat) (st:List Nat),(shE k st m).length≤m.length
 | [],_,_=>by simp [shE]
 | .t::m,k,st=>by have:=a2y m (k + 1) (k::st);show(shE (k + 1) (k::st) m).length≤m.length + 1;omega
 | .d::m,k,st=>by have:=a2y m (k + 1) st;show(PE.d k::shE (k + 1) st m).length≤m.length + 1;rw [List.length_cons];omega
 | .o::m,k,st=>by have:=a2y m (k + 1) st;unfold shE;rw [List.length_cons];omega
 | .u::m,k,[]=>by have:=a2y m (k + 1) [];unfold shE;rw [List.length_cons];omega
 | .u::m,k,p::st=>by have:=a2y m (k + 1) st;show(PE.t k p::shE (k + 1) st m).length≤m.length + 1;rw [List.length_cons];omega
theorem b3P {zs:List Str}{ms:List Pu.Mk}{r:Int}{n:Nat}{R:PV→Nat→Prop}(hl:ms.length=zs.length)(h24:zs.length≤24)(hw:run r 0 [] ms=some [])(h:∀es:List Ev,es.Perm ((shE 0 [] ms).map (evOf zs))→Srt (es.map evP) (((shE 0 [] ms).map (evOf zs)).map evP)→R (shP es) n):a1y [rowP zs,.lst (ms.map mkP)] n R:=by
 refine⟨rfl,?_⟩;unfold a2e;have go:=fun D s4 s5=>a4K (zs:=zs) (r:=r) (n:=n) (D:=D) (X:=.lst (ms.map mkP)) ms 0 [] [] s4 s5 hw (by omega) (by simp) (by simp) h24;simp only [List.drop_zero,List.nil_append] at go;unfold rowP at *;generalize hM:ms.map mkP=ML at *;generalize hZ:zs.map PV.str=Z at *;walk_at "pu";unfold a7Z;refine go _ _ _ fun s4 s5 pl=>?_;have so:=a8x ((shE 0 [] ms).map (evOf zs));have sl:=a2y ms 0 []
 have hh:∀ys,Srt ys (((shE 0 [] ms).map (evOf zs)).map evP)→R (.tup ys) n:=fun ys hy=>by
   obtain⟨es,rfl,p⟩:=b4h hy;exact h es p hy
 have ll:(((shE 0 [] ms).map (evOf zs)).map evP).length < 64:=by rw [List.length_map,List.length_map];omega
 generalize ((shE 0 [] ms).map (evOf zs)).map evP=EL at *;walk_at "pu";exact⟨ll,so,hh⟩
theorem b3V {zs:List Str}{es:List Ev}{n:Nat}{R:PV→Nat→Prop}(h24:zs.length≤1000)(hb:∀b∈es.flatMap evB,b∈zs)(h:R (rowP (aft zs es)) n):a1B [rowP zs,shP es] n R:=by
 refine⟨rfl,?_⟩;unfold a2h;unfold rowP shP at *;have hix:∀z∈zs,∀{R:PV→Prop},R (.int (ixS zs z))→a3r (.tup (zs.map PV.str)) (.str z) R:=fun z hz {R} q=>m_ix rfl hz (by omega) q
 have go:∀(D:a4D) (hD:∀s3,D.nx [some (.v (.tup (zs.map PV.str))),some (.v (.tup (es.map evP))),some (.own ((es.foldl (setE zs) zs).map PV.str)),s3] n),forL (gN 3) (qIfS (qB (qOp (wEq 4) (qOp wIx (qV 3) (qC (.int 0))) (qC (.str (PySem.Str.ofString "touch"))))) (qSeq (qPut 2 (qOp wIx (qV 3) (qC (.int 2))) (a1X (qV 0) (qOp wIx (qV 3) (qC (.int 1))))) (qPut 2 (qOp wIx (qV 3) (qC (.int 1))) (a1X (qV 0) (qOp wIx (qV 3) (qC (.int 2)))))) qNx) D (es.map evP) [some (.v (.tup (zs.map PV.str))),some (.v (.tup (es.map evP))),some (.own (zs.map PV.str)),none] n:=by
   intro D hD;have hbe:∀e∈es,∀b∈evB e,b∈zs:=fun e he b hb'=>hb b (List.mem_flatMap.mpr ⟨e,he,hb'⟩);generalize hZ:zs.map PV.str=Z at *;generalize hE:es.map evP=E at *;refine a0L (fun i env m=>∃s3,env=[some (.v (.tup Z)),some (.v (.tup E)),some (.own (((es.take i).foldl (setE zs) zs).map PV.str)),s3]∧m=n) _ 0 _ _ ⟨none,by rw [List.take_zero,List.foldl_nil,hZ],rfl⟩ (fun i x env m N ex hI hN=>?_) (fun env m hI=>?_)
   · obtain⟨s3,rfl,rfl⟩:=hI;rw [← hE] at ex;obtain⟨e,ee,rfl⟩:=a3m ex;rw [Nat.zero_add] at hN ⊢;have st:(es.take (i + 1)).foldl (setE zs) zs=setE zs ((es.take i).foldl (setE zs) zs) e:=by rw [a7h ee,List.foldl_append];rfl
     have fl:((es.take i).foldl (setE zs) zs).length=zs.length:=a7c zs (es.take i);rw [st] at hN;generalize (es.take i).foldl (setE zs) zs=f at *;have em:=hbe e (List.mem_of_getElem? ee);generalize hF:f.map PV.str=FL at *;have FLl:FL.length=zs.length:=by rw [← hF,List.length_map];exact fl
     cases e with
     | d x =>
       rw [b0q];walk_at "pu";exact if_f a4M (hN _ _ ⟨_,by rw [show setE zs f (.d x)=f from rfl,hF],rfl⟩)
     | t x y =>
       have hx:=em x (by simp [evB]);have hy:=em y (by simp [evB]);have lx:=a2k hx;have ly:=a2k hy;rw [a4B];walk_at "pu";refine⟨⟨_,rfl⟩,?_⟩;refine⟨⟨_,rfl⟩,hix x hx ?_⟩;dsimp only;rw [a2j (by omega) (by omega)];dsimp only;refine⟨⟨_,rfl⟩,⟨_,rfl⟩,hix y hy ?_⟩;dsimp only;rw [a2j (by omega) (by rw [List.length_set];omega)];dsimp only;rw [Int.toNat_natCast,Int.toNat_natCast]
       have e3:(FL.set (ixS zs x) (.str y)).set (ixS zs y) (.str x)=(setE zs f (.t x y)).map PV.str:=by
         show _=((f.set (ixS zs x) y).set (ixS zs y) x).map PV.str;rw [List.map_set,List.map_set,hF]
       rw [e3];exact hN _ _ ⟨_,rfl,rfl⟩
   · obtain⟨s3,rfl,rfl⟩:=hI;have el:E.length=es.length:=by rw [← hE,List.length_map]
     rw [Nat.zero_add,el,List.take_length];exact hD s3
 generalize hE:es.map evP=E at *;generalize hZ:zs.map PV.str=Z at *;walk_at "pu";refine go _ fun s3=>?_;have h':=h;unfold aft at h';generalize (es.foldl (setE zs) zs).map PV.str=FL at *;walk_at "pu";exact h'
theorem b1Q {s n m:Nat}{r:Int}{R:PV→Nat→Prop}(h1:1≤s)(hn:1≤n)(h:R (.int (((n + s - 1) / s:Nat):Int)) m)(h8:s≤8):a1z [.tup [.int (s:Int),.int r],.int (n:Int)] m R:=by
 refine⟨rfl,?_⟩;unfold a2f;walk_at "pu";refine⟨⟨by omega,by omega⟩,?_⟩
 have e:((n:Int) + s - 1) / s=(((n + s - 1) / s:Nat):Int):=by
   rw [show(n:Int) + s - 1=((n + s - 1:Nat):Int) by omega]
   rfl
 rw [e];exact h
theorem b3U {s n k m:Nat}{r:Int}{R:PV→Nat→Prop}(h8:s≤8)(hn:1≤n)(hk:k≤1000)(h:R (.tup [.int ((k * s:Nat):Int),.int ((hiN s n k:Nat):Int)]) m):a1S [.tup [.int (s:Int),.int r],.int (n:Int),.int (k:Int)] m R:=by
 refine⟨rfl,?_⟩;unfold a2C;walk_at "pu";refine⟨.inr ⟨by omega,by omega⟩,?_⟩;have e2:(k:Int) * s=((k * s:Nat):Int):=(Int.natCast_mul k s).symm;rw [e2];unfold hiN at h
 by_cases c:k * s + s < n
 · refine if_t (decide_eq_true (by omega)) ?_
   try dsimp only
   rw [show((k * s:Nat):Int) + (s:Int)=((min (k * s + s) (n - 1):Nat):Int) by omega];exact h
 · refine if_f (decide_eq_false (by omega)) ?_
   try dsimp only
   rw [show(n:Int) - 1=((min (k * s + s) (n - 1):Nat):Int) by omega];exact h
theorem b2K {s n k m:Nat}{r:Int}{R:PV→Nat→Prop}(h8:s≤8)(hn:1≤n)(hk:k≤1000)(h:R (.tup [.int ((k * s:Nat):Int),.int ((hiN s n k:Nat):Int)]) m):a4O [.tup [.int (s:Int),.int r],.int (n:Int),.int (k:Int)] m R:=by
 refine⟨rfl,?_⟩;unfold a9A;walk_at "pu";refine⟨.inr ⟨by omega,by omega⟩,?_⟩;have e2:(k:Int) * s=((k * s:Nat):Int):=(Int.natCast_mul k s).symm
 have e:(if(n:Int) - 1 < (k:Int) * s + s then(n:Int) - 1 else(k:Int) * s + s)=((hiN s n k:Nat):Int):=by
   rw [e2];unfold hiN
   split <;> omega
 try dsimp only
 rw [e,e2];exact h
theorem a4g {es:List Ev}{n:Nat}{R:PV→Nat→Prop}(hl:es.length≤1000000)(h:R (.lst ((es.filter isTo).map evP)) n):a0z [shP es] n R:=by
 refine⟨rfl,?_⟩;unfold a2b shP;generalize hE:es.map evP=E;have El:E.length=es.length:=by rw [← hE,List.length_map]
 walk_at "pu";refine⟨by omega,?_⟩;rw [← hE];refine a2U evP isTo _ _ _ _ (fun e he m Q hQ=>?_) h;cases e with
 | d x =>
   rw [b0q] at *;walk_at "pu";rw [a4M];exact hQ
 | t x y =>
   rw [a4B] at *;walk_at "pu";exact hQ
theorem a6I {f:List Str}{i j n:Nat}{R:PV→Nat→Prop}(hi:i < f.length)(hj:j < f.length)(h:R (rowP (exch f i j)) n):a1Q [rowP f,.int (i:Int),.int (j:Int)] n R:=by
 refine⟨rfl,?_⟩;unfold a2A;unfold rowP at *;have ai:∀{k:Nat},k < f.length→atI (f.map PV.str) (k:Int)=some (.str (nm f k)):=fun {k} hk=>a6Z (by rw [List.getElem?_map,a6E hk];rfl);have e:((f.map PV.str).set i (.str (nm f j))).set j (.str (nm f i))=(exch f i j).map PV.str:=by unfold exch;rw [List.map_set,List.map_set]
 generalize hF:f.map PV.str=F at *;have Fl:F.length=f.length:=by rw [← hF,List.length_map]
 walk_at "pu";rw [ai hj];dsimp only;rw [ai hi];dsimp only;refine⟨⟨_,rfl⟩,?_⟩;rw [a2j (by omega) (by omega)];dsimp only;rw [a2j (by omega) (by rw [List.length_set];omega)];dsimp only;rw [Int.toNat_natCast,Int.toNat_natCast,e];exact h
theorem m_rowb {zs:List Str}{es:List Ev}{n:Nat}{R:PV→Nat→Prop}(h24:zs.length≤1000)(hl:es.length≤1000)(hb:∀b∈es.flatMap evB,b∈zs)(h:R (rowP (rbh zs es)) n):a1w [rowP zs,shP es] n R:=by
 refine⟨rfl,?_⟩;unfold a2c;have hix:∀z∈zs,∀{R:PV→Prop},R (.int (ixS zs z))→a3r (.tup (zs.map PV.str)) (.str z) R:=fun z hz {R} q=>m_ix rfl hz (by omega) q;have hbe:∀e∈es,∀b∈evB e,b∈zs:=fun e he b hb'=>hb b (List.mem_flatMap.mpr ⟨e,he,hb'⟩);generalize hS:shP es=S;have hr0:rowP zs=.tup (zs.map PV.str):=rfl;generalize hZ:zs.map PV.str=Z at *;rw [hr0];walk_at "pu";rw [← hS];refine a4g (by omega) ?_;dsimp only;rw [hS];refine a0L (fun i env m=>∃s3,env=[some (.v (.tup Z)),some (.v S),some (.v (rowP (((es.filter isTo).take i).foldl (exE zs) zs))),s3]∧m=n) _ 0 _ _ ⟨none,by rw [List.take_zero,List.foldl_nil,hr0],rfl⟩ (fun i x env m N ex hI hN=>?_) (fun env m hI=>?_)
 · obtain⟨s3,rfl,rfl⟩:=hI;obtain⟨e,ee,rfl⟩:=a3m ex;rw [Nat.zero_add] at hN ⊢;have st:((es.filter isTo).take (i + 1)).foldl (exE zs) zs=exE zs (((es.filter isTo).take i).foldl (exE zs) zs) e:=by rw [a7h ee,List.foldl_append];rfl
   have fl:(((es.filter isTo).take i).foldl (exE zs) zs).length=zs.length:=a6S zs _ _;rw [st] at hN;generalize ((es.filter isTo).take i).foldl (exE zs) zs=f at *;obtain⟨he,ht⟩:=List.mem_filter.mp (List.mem_of_getElem? ee);have em:=hbe e he;cases e with
   | d x=>cases ht
   | t x y =>
     have hx:=em x (by simp [evB]);have hy:=em y (by simp [evB]);have lx:=a2k hx;have ly:=a2k hy;rw [a4B];generalize hF:rowP f=F;walk_at "pu";refine⟨⟨_,rfl⟩,hix x hx ?_⟩;refine⟨⟨_,rfl⟩,hix y hy ?_⟩;rw [← hF];refine a6I (by omega) (by omega) ?_;exact hN _ _ ⟨_,rfl,rfl⟩
 · obtain⟨s3,rfl,rfl⟩:=hI;rw [Nat.zero_add,List.length_map,List.take_length,a6q];have h':R (rowP (es.foldl (exE zs) zs)) m:=h;generalize rowP (es.foldl (exE zs) zs)=F at *;walk_at "pu";exact h'
theorem b2c {s n k:Nat}(hn:1≤n):hiN s n k + 1≤n:=by unfold hiN;omega
theorem a9Q {s n k m:Nat}{r:Int}{row:List Str}{R:PV→Nat→Prop}(h8:s≤8)(hn:1≤n)(hl:row.length=n)(hk:k≤1000)(h:R (rowP (a0D s n k row)) m):a1l [.tup [.int (s:Int),.int r],rowP row,.int (k:Int)] m R:=by
 refine⟨rfl,?_⟩;unfold a3d
 have e:cutP (row.map PV.str) (some ((k * s:Nat):Int)) (some (((hiN s n k:Nat):Int) + 1))=(a0D s n k row).map PV.str:=by
   rw [a2G,show((hiN s n k:Nat):Int) + 1=((hiN s n k + 1:Nat):Int) by omega,b0B row (by rw [hl];exact b2c hn)]
   rfl
 unfold rowP at *;generalize hZ:row.map PV.str=Z at *;have Zl:Z.length=n:=by rw [← hZ,List.length_map];exact hl
 walk_at "pu";rw [Zl];refine b2K h8 hn hk ?_;walk_at "pu";rw [e];exact h
theorem m_put {s n k m:Nat}{r:Int}{row b:List Str}{R:PV→Nat→Prop}(h8:s≤8)(hn:1≤n)(h24:n≤1000)(hl:row.length=n)(hb:b.length≤1000)(hk:k≤1000)(h:R (rowP (putN s n k row b)) m):a3G [.tup [.int (s:Int),.int r],rowP row,.int (k:Int),rowP b] m R:=by
 refine⟨rfl,?_⟩;unfold a5h;have e1:cutP (row.map PV.str) none (some ((k * s:Nat):Int))=(row.take (k * s)).map PV.str:=by rw [a2G,b2X]
 have e2:cutP (row.map PV.str) (some (((hiN s n k:Nat):Int) + 1)) none=(row.drop (hiN s n k + 1)).map PV.str:=by
   rw [a2G,show((hiN s n k:Nat):Int) + 1=((hiN s n k + 1:Nat):Int) by omega,b2W]
 have l1:((row.take (k * s)).map PV.str).length≤1000:=by rw [List.length_map,List.length_take];omega
 have l2:((row.drop (hiN s n k + 1)).map PV.str).length≤1000:=by rw [List.length_map,List.length_drop];omega
 have e3:(row.take (k * s)).map PV.str++b.map PV.str++(row.drop (hiN s n k + 1)).map PV.str=(putN s n k row b).map PV.str:=by unfold putN;rw [List.map_append,List.map_append]
 unfold rowP at *;generalize hZ:row.map PV.str=Z at *;generalize hB:b.map PV.str=B at *;have Bl:B.length=b.length:=by rw [← hB,List.length_map]
 have Zl:Z.length=n:=by rw [← hZ,List.length_map];exact hl
 walk_at "pu";rw [Zl];refine b2K h8 hn hk ?_;walk_at "pu";rw [e1,e2];refine⟨by omega,by rw [List.length_append];omega,?_⟩;rw [e3];exact h
theorem b3R {s n k m:Nat}{r:Int}{row:List Str}{es:List Ev}{R:PV→Nat→Prop}(h8:s≤8)(hn:1≤n)(h24:n≤1000)(hl:row.length=n)(hk:k≤1000)(he:es.length≤1000)(hb:∀b∈es.flatMap evB,b∈a0D s n k row)(h:R (rowP (putN s n k row (rbh (a0D s n k row) es))) m):a5u [.tup [.int (s:Int),.int r],rowP row,.int (k:Int),shP es] m R:=by
 refine⟨rfl,?_⟩;unfold a6B;have sl:(a0D s n k row).length≤1000:=by rw [a1E hl hn];have:=b2c (s:=s) (k:=k) hn;omega
 have rl:(rbh (a0D s n k row) es).length≤1000:=by rw [show(rbh (a0D s n k row) es).length=_ from a6S _ _ _];exact sl
 generalize hS:shP es=S;generalize hW:rowP row=W;walk_at "pu";rw [← hW];refine a9Q h8 hn hl hk ?_;rw [← hS];refine m_rowb sl he hb ?_;exact m_put h8 hn h24 hl rl hk h
theorem ins0 {α:Type}(xs:List α)(y:α):insL xs (0:Int).toNat y=y::xs:=rfl
theorem m_day {P:List Str→List Ev→Prop}{q n0 s n:Nat}{r:Int}{row:List Str}{R:PV→Nat→Prop}
   (hP:∀st ms es,RowS st→st.length≤n→ms.length=st.length→run r 0 [] ms=some []→es.Perm ((shE 0 [] ms).map (evOf st))→Srt (es.map evP) (((shE 0 [] ms).map (evOf st)).map evP)→P st es) (hf:∀st es,P st es→Fair st es)
   (h1:1≤s) (h8:s≤8) (hn:1≤n) (h24:n≤24) (hr:RowS row) (hl:row.length=n) (hn0:n0≤999000000)
   (h:∀ess sts r' n',Dy P s n ((n + s - 1) / s) row ((n + s - 1) / s) ess sts r'→n'≤n0 + 2000→R (.tup [dayP ess,.tup (sts.map rowP),rowP r']) n'):a2r [.pot (q + 1),.tup [.int (s:Int),.int r],rowP row] n0 R:=by
 refine⟨rfl,?_⟩;unfold a3j;have rl:(row.map PV.str).length=n:=by rw [List.length_map];exact hl
 have mle:=a5a (s:=s) (n:=n) h1 hn;generalize hW:rowP row=W;have hW':W=.tup (row.map PV.str):=by rw [← hW]
 walk_at "pu";rw [hW'];simp only [wLen,rl];refine b1Q h1 hn ?_ h8;generalize hmx:(n + s - 1) / s=mx at *;refine⟨⟨by omega,by omega⟩,?_⟩;rw [Int.toNat_natCast];refine a0L (fun i env m=>∃ess sts r' s5 s6 s7 s8 s9,env=[some (.v (.pot (q + 1))),some (.v (.tup [.int (s:Int),.int r])),some (.v (rowP r')),some (.own (ess.map shP)),some (.own (sts.map rowP)),s5,s6,s7,s8,s9]∧Dy P s n mx row i ess sts r'∧m≤n0 + 50 * i) _ 0 _ _ ⟨[],[],row,_,_,_,_,_,rfl,.nil,by omega⟩ (fun i x env m N ex hI hN=>?_) (fun env m hI=>?_)
 · obtain⟨ess,sts,r',s5,s6,s7,s8,s9,rfl,hd,hm⟩:=hI;obtain⟨hi,rfl⟩:=a8Z ex;rw [Nat.zero_add] at hd hm hN;obtain⟨rS,rL⟩:=hd.rows h1 hn hmx.symm hf hr hl;have el:=hd.len;have ek:(mx:Int) - 1 - i=((mx - 1 - i:Nat):Int):=by omega
   have kp:(mx - 1 - i) * s≤n - 1:=b2D h1 hn (by omega);rw [ek];have step:=fun es hp=>Dy.cons (es:=es) hd hi hp;generalize mx - 1 - i=k at *;have kh:=lo_hi (s:=s) (n:=n) kp;have hh:=b2c (s:=s) (k:=k) hn
   have e1:cutP (r'.map PV.str) (some ((k * s:Nat):Int)) (some (((hiN s n k:Nat):Int) + 1))=(a0D s n k r').map PV.str:=by
     rw [a2G,show((hiN s n k:Nat):Int) + 1=((hiN s n k + 1:Nat):Int) by omega,b0B r' (by rw [rL];exact hh)]
     rfl
   have e2:cutP (r'.map PV.str) none (some ((k * s:Nat):Int))=(r'.take (k * s)).map PV.str:=by rw [a2G,b2X]
   have e3:cutP (r'.map PV.str) (some (((hiN s n k:Nat):Int) + 1)) none=(r'.drop (hiN s n k + 1)).map PV.str:=by
     rw [a2G,show((hiN s n k:Nat):Int) + 1=((hiN s n k + 1:Nat):Int) by omega,b2W]
   have stS:=a3a (s:=s) (n:=n) (k:=k) rS;have stL:=a1E (s:=s) (k:=k) rL hn;have l1:((r'.take (k * s)).map PV.str).length≤24:=by rw [List.length_map,List.length_take];omega
   have l2:((r'.drop (hiN s n k + 1)).map PV.str).length≤24:=by rw [List.length_map,List.length_drop];omega
   have aL:∀es,((aft (a0D s n k r') es).map PV.str).length≤24:=fun es=>by rw [List.length_map,a7c];omega
   have e4:∀es,(r'.take (k * s)).map PV.str++(aft (a0D s n k r') es).map PV.str++(r'.drop (hiN s n k + 1)).map PV.str=(putN s n k r' (aft (a0D s n k r') es)).map PV.str:=fun es=>by unfold putN;rw [List.map_append,List.map_append]
   have sl:((a0D s n k r').map PV.str).length=(a0D s n k r').length:=by rw [List.length_map]
   have rl':(r'.map PV.str).length=n:=by rw [List.length_map];exact rL
   have hE:(ess.map shP).length < 1000000:=by rw [List.length_map];omega
   have hS:(sts.map rowP).length < 1000000:=by rw [List.length_map];omega
   have ec:∀es,shP es::ess.map shP=(es::ess).map shP:=fun _=>rfl;have ed:∀st,rowP st::sts.map rowP=(st::sts).map rowP:=fun _=>rfl;generalize hES:ess.map shP=ES at *;generalize hST:sts.map rowP=ST at *;unfold rowP at *;generalize hZ:r'.map PV.str=Z at *;walk_at "pu";rw [rl'];refine b3U h8 hn (by omega) ?_;walk_at "pu";rw [e1];generalize hG:a0D s n k r'=st at *;generalize hQ:st.map PV.str=SP at *;rw [sl];refine m_word (by omega) (by omega) fun ms n' hml hw hn'=>?_;rw [← hQ];refine b3P hml (by omega) hw fun es pe se=>?_;have hp:=hP st ms es stS (by omega) hml hw pe se;have fr:=hf st es hp;refine b3V (by omega) fr.sub ?_
   try dsimp only
   have aL':=aL es;rw [e2,e3];refine⟨by omega,by rw [List.length_append];omega,?_⟩;rw [e4];refine⟨⟨_,rfl⟩,hE,⟨_,rfl⟩,hS,?_⟩;have stp:=step es hp;have x1:insL ES (0:Int).toNat (shP es)=(es::ess).map shP:=by rw [ins0,← hES];rfl
   have x2:insL ST (0:Int).toNat (PV.tup (st.map PV.str))=(st::sts).map rowP:=by rw [ins0,← hST];rfl
   rw [x1,x2];exact hN _ _ ⟨_,_,_,_,_,_,_,_,rfl,stp,by omega⟩
 · obtain⟨ess,sts,r',s5,s6,s7,s8,s9,rfl,hd,hm⟩:=hI;rw [Nat.zero_add,a8Y] at hd hm;have:=h ess sts r' m hd (by omega);unfold dayP at this;generalize ess.map shP=ES at *;generalize sts.map rowP=ST at *;generalize rowP r'=RP at *;walk_at "pu";exact this
theorem m_meet {q n0:Nat}{R:PV→Nat→Prop}(hn0:n0≤999000000)(h:∀(s r:Nat) zs n',1≤s→s≤8→r≤7→1≤zs.length→zs.length≤24→RowS zs→n'≤n0 + 200→R (.tup [.tup [.int (s:Int),.int (r:Int)],rowP zs]) n'):a1T [.pot (q + 1),.int 24] n0 R:=by
 refine⟨rfl,?_⟩;unfold a2D;walk_at "pu";refine⟨by omega,fun d0 d00 d01=>⟨by omega,fun d1 d10 d11=>⟨by omega,fun d2 d20 d21=>?_⟩⟩⟩;obtain⟨x,hx,ex⟩:=a4t (xs:=[PV.int 0,PV.int 1,PV.int 7,PV.int d1]) d20 (by simpa using d21)
 obtain⟨r,rfl,r0,r7⟩:∃v:Int,x=.int v∧0≤v∧v≤7:=by
   simp only [List.mem_cons,List.not_mem_nil,or_false] at hx;rcases hx with rfl | rfl | rfl | rfl <;> exact⟨_,rfl,by omega,by omega⟩
 rw [ex];dsimp only;obtain⟨s,rfl⟩:=Int.eq_ofNat_of_zero_le d00;obtain⟨r,rfl⟩:=Int.eq_ofNat_of_zero_le r0;refine⟨by omega,fun d3 d30 d31=>⟨by omega,fun d4 d40 d41=>⟨by omega,fun d5 d50 d51=>?_⟩⟩⟩
 have d41':d4 < 6:=by
   have:(if(6:Int) < 24 then(6:Int) else 24)=6:=rfl;omega
 obtain⟨y,hy,ey⟩:=a4t (xs:=[PV.int (1 + d3),PV.int (1 + d4)]) d50 (by simpa using d51)
 obtain⟨many,rfl,m0,m1⟩:∃v:Int,y=.int v∧1≤v∧v≤24:=by
   simp only [List.mem_cons,List.not_mem_nil,or_false] at hy;rcases hy with rfl | rfl <;> exact⟨_,rfl,by omega,by omega⟩
 rw [ey];dsimp only;refine b3T m0 m1 (by omega) fun zs n' zl zr hn'=>?_;have e:(1:Int) + (s:Int)=((1 + s:Nat):Int):=by omega
 rw [e];exact h (1 + s) r zs n' (by omega) (by omega) (by omega) (by omega) (by omega) zr (by omega)
theorem b3i {a b:Int}{ys:List PV}(h:Srt ys [.int a,.int b]):ys=[.int (min a b),.int (max a b)]:=by
 obtain⟨p,q⟩:=h;have l:=p.length_eq
 match ys,l with
 | [u, v], _ =>
   have hq:lexK (keyP v) (keyP u)=false:=by simpa using q
   have two:(u=.int a∧v=.int b)∨(u=.int b∧v=.int a):=by
     have hu:u∈[PV.int a,PV.int b]:=p.mem_iff.mp (by simp);rcases List.mem_cons.mp hu with e | hu
     · subst e;exact .inl ⟨rfl,by simpa using(List.perm_cons _).mp p⟩
     · have e:u=.int b:=by simpa using hu
       subst e;have p2:=p.trans (List.Perm.swap (PV.int b) (PV.int a) []);exact .inr ⟨rfl,by simpa using(List.perm_cons _).mp p2⟩
   rcases two with⟨rfl,rfl⟩ | ⟨rfl,rfl⟩
   · have:¬b < a:=by
       intro c
       have e:lexK [Sum.inl b] [Sum.inl a]=true:=by
         show(if(Sum.inl b:Key)=Sum.inl a then lexK [] [] else decide (b < a))=true;rw [if_neg (by intro z;cases z;omega)];exact decide_eq_true c
       rw [show keyP (PV.int b)=[Sum.inl b] from rfl,show keyP (PV.int a)=[Sum.inl a] from rfl,e] at hq;cases hq
     rw [show min a b=a by omega,show max a b=b by omega]
   · have:¬a < b:=by
       intro c
       have e:lexK [Sum.inl a] [Sum.inl b]=true:=by
         show(if(Sum.inl a:Key)=Sum.inl b then lexK [] [] else decide (a < b))=true;rw [if_neg (by intro z;cases z;omega)];exact decide_eq_true c
       rw [show keyP (PV.int b)=[Sum.inl b] from rfl,show keyP (PV.int a)=[Sum.inl a] from rfl,e] at hq;cases hq
     rw [show min a b=b by omega,show max a b=a by omega]
theorem a2S {st:List Str}{x y:Str}{n:Nat}{R:PV→Nat→Prop}(hs:st.length≤100)(hx:x∈st)(hy:y∈st)(h:R (rowP (btwU st x y)) n):a0F [rowP st,evP (.t x y)] n R:=by
 refine⟨rfl,?_⟩;unfold a4b;have hix:∀z∈st,∀{R:PV→Prop},R (.int (ixS st z))→a3r (.tup (st.map PV.str)) (.str z) R:=fun z hz {R} q=>m_ix rfl hz (by omega) q;have hr0:rowP st=.tup (st.map PV.str):=rfl;have lx:=a2k hx;have ly:=a2k hy
 have hcut:cutP (st.map PV.str) (some (min (ixS st x:Int) (ixS st y) + 1)) (some (max (ixS st x:Int) (ixS st y)))=(btwU st x y).map PV.str:=by
   have:=b0B (st.map PV.str) (a:=min (ixS st x) (ixS st y) + 1) (b:=max (ixS st x) (ixS st y)) (by rw [List.length_map];omega);unfold btwU;rw [List.map_drop,List.map_take,← this]
   congr 2 <;> omega
 generalize hZ:st.map PV.str=Z at *;rw [hr0,a4B];walk_at "pu";refine⟨⟨_,rfl⟩,hix x hx ?_⟩;refine⟨⟨_,rfl⟩,hix y hy ?_⟩;refine⟨.inl (by simp),fun ys hys=>?_⟩;rw [b3i hys];refine⟨rfl,?_⟩;walk_at "pu";rw [hcut];exact h
theorem b3O {st:List Str}{x y:Str}{n:Nat}{R:PV→Nat→Prop}(hs:st.length≤100)(hx:x∈st)(hy:y∈st)(h:R (.bl (decide (ixS st x < ixS st y))) n):a2q [rowP st,evP (.t x y)] n R:=by
 refine⟨rfl,?_⟩;unfold a3g;have hix:∀z∈st,∀{R:PV→Prop},R (.int (ixS st z))→a3r (.tup (st.map PV.str)) (.str z) R:=fun z hz {R} q=>m_ix rfl hz (by omega) q;have hr0:rowP st=.tup (st.map PV.str):=rfl;generalize hZ:st.map PV.str=Z at *;rw [hr0,a4B];walk_at "pu";refine⟨⟨_,rfl⟩,hix y hy ?_⟩;refine⟨⟨_,rfl⟩,hix x hx ?_⟩;dsimp only;rw [show decide ((ixS st x:Int) < ixS st y)=decide (ixS st x < ixS st y) by rw [decide_eq_decide];omega];exact h
theorem m_far {st:List Str}{r:Int}{x y:Str}{n:Nat}{R:PV→Nat→Prop}(hs:st.length≤100)(hx:x∈st)(hy:y∈st)(h:R (.bl (decide (r < ((btwU st x y).length:Int)))) n):a3H [rowP st,.int r,evP (.t x y)] n R:=by
 refine⟨rfl,?_⟩;unfold a5i;generalize hS:rowP st=S;generalize hT:evP (.t x y)=T;walk_at "pu";subst hS hT;refine a2S hs hx hy ?_;dsimp only;rw [List.length_map];exact h
theorem a3p:∀(es:List Ev) (s0 s1:Option Pu.Slot) (n:Nat) (R:List PV→Nat→Prop),R ((es.flatMap evB).map PV.str) n→a2V (gN 0) (qIt (qSl (qV 0) (a1Z (qC (.int 1))) qNo)) (gN 1) qTru (qV 1) (es.map evP) [s0,s1] n R
 | [],_,_,_,_,h=>h
 | .d x :: es, s0, s1, n, R, h => by
   have ih:=a3p es (some (.v (.tup [.str DROP,.str x]))) (some (.v (.str x))) n (fun ws n4=>R (.str x::ws) n4) h;rw [List.map_cons,b0q];have e:cutP [PV.str DROP,PV.str x] (some 1) none=[.str x]:=rfl;generalize es.map evP=E at *;unfold a2V;walk_at "pu";rw [e];exact⟨by simp,ih⟩
 | .t x y :: es, s0, s1, n, R, h => by
   have ih:=a3p es (some (.v (.tup [.str a6j,.str x,.str y]))) (some (.v (.str y))) n (fun ws n4=>R (.str x::.str y::ws) n4) h;rw [List.map_cons,a4B];have e:cutP [PV.str a6j,PV.str x,PV.str y] (some 1) none=[.str x,.str y]:=rfl;generalize es.map evP=E at *;unfold a2V;walk_at "pu";rw [e];exact⟨by simp,ih⟩
theorem a6J {es:List Ev}{n:Nat}{R:PV→Nat→Prop}(hl:es.length≤1000)(h:R (.lst ((es.flatMap evB).map PV.str)) n):a0P [shP es] n R:=by
 refine⟨rfl,?_⟩;unfold a3i shP;have go:=fun R' h'=>a3p es none none n R' h';generalize hE:es.map evP=E at *;have El:E.length=es.length:=by rw [← hE,List.length_map]
 walk_at "pu";exact⟨by omega,go _ h⟩
theorem a7N {x:Str}:∀{ys:List Str},x∉ys→PySem.Spec.countIn (.str x) (ys.map PySem.PyData.str)=0
 | [],_=>rfl
 | y :: ys, h => by
   have hy:y≠x:=fun e=>h (by rw [e];exact List.mem_cons_self);show(if PySem.Spec.same (.str y) (.str x) then 1 else 0) + PySem.Spec.countIn (.str x) (ys.map PySem.PyData.str)=0;rw [a7N fun z=>h (List.mem_cons_of_mem _ z)]
   have e:PySem.Spec.same (.str y) (.str x)=false:=by
     show decide (y=x)=false;exact decide_eq_false hy
   rw [e];rfl
theorem b0E {x:Str}:∀{ys:List Str},ys.Nodup→x∈ys→PySem.Spec.countIn (.str x) (ys.map PySem.PyData.str)=1
 | [],_,h=>nomatch h
 | y :: ys, nd, h => by
   obtain⟨n1,n2⟩:=List.nodup_cons.mp nd;show(if PySem.Spec.same (.str y) (.str x) then 1 else 0) + PySem.Spec.countIn (.str x) (ys.map PySem.PyData.str)=1
   by_cases e:y=x
   · subst e
     have e:PySem.Spec.same (.str y) (.str y)=true:=by
       show decide (y=y)=true;exact decide_eq_true rfl
     rw [a7N n1,e];rfl
   · have hx:x∈ys:=(List.mem_cons.mp h).elim (fun z=>absurd z.symm e) id
     have e':PySem.Spec.same (.str y) (.str x)=false:=by
       show decide (y=x)=false;exact decide_eq_false e
     rw [b0E n2 hx,e'];rfl
theorem a9T {st:List Str}{es:List Ev}{n:Nat}{R:PV→Nat→Prop}(hf:Fair st es)(hl:es.length≤1000)(h:R .non n):a1a [rowP st,shP es] n R:=by
 refine⟨rfl,?_⟩;unfold a1O;have hr0:rowP st=.tup (st.map PV.str):=rfl;generalize hS:shP es=S;have nin:∀{z:Str} {R:PV→Prop},R (.bl (!decide (z∈st)))→wIn 4 true (.str z) (.tup (st.map PV.str)) R:=fun q=>b1L rfl q;rw [hr0];generalize hZ:st.map PV.str=Z at *;walk_at "pu";rw [← hS];refine a6J hl ?_;rw [hS];have tx:=a3K (es.flatMap evB);generalize hB:(es.flatMap evB).map PV.str=B at *;refine a0L (fun i env m=>∃s3,env=[some (.v (.tup Z)),some (.v S),some (.v (.lst B)),s3]∧m=n) _ 0 _ _ ⟨none,rfl,rfl⟩ (fun i x env m N ex hI hN=>?_) (fun env m hI=>?_)
 · obtain⟨s3,rfl,rfl⟩:=hI;rw [← hB] at ex;obtain⟨z,ez,rfl⟩:=a3m ex;have zm:=List.mem_of_getElem? ez;have zs:=hf.sub z zm;walk_at "pu";refine nin ?_;rw [decide_eq_true zs];refine if_f rfl ?_;refine⟨⟨_,rfl⟩,?_⟩;rw [tx];dsimp only;rw [b0E hf.nd zm];exact hN _ _ ⟨_,rfl,rfl⟩
 · obtain⟨s3,rfl,rfl⟩:=hI;walk_at "pu";exact h
theorem a9P {r:Int}{st:List Str}{es:List Ev}{x y:Str}{n:Nat}{R:PV→Nat→Prop}(hs:st.length≤100)(nd:st.Nodup)(so:a4u r st es)(he:Ev.t x y∈es)(hl:es.length≤1000)(h:R .non n):a0V [rowP st,.int r,shP es,evP (.t x y)] n R:=by
 refine⟨rfl,?_⟩;unfold a1C;obtain⟨hx,hy⟩:=so.fair.tx he;generalize hS:shP es=S;generalize hW:rowP st=W;generalize hT:evP (.t x y)=T;walk_at "pu";subst hW hT;refine b3O hs hx hy ?_;have ah:=so.ahead x y he;refine if_f (decide_eq_false (by omega)) ?_;refine m_far hs hx hy ?_;have ne:=so.near x y he;refine if_f (decide_eq_false (by omega)) ?_;rw [← hS];refine a6J hl ?_;rw [hS];refine a2S hs hx hy ?_;have ful:=so.full x y he;have nin:∀{z:Str} {R:PV→Prop},R (.bl (!decide (z∈es.flatMap evB)))→wIn 4 true (.str z) (.lst ((es.flatMap evB).map PV.str)) R:=fun q=>a7x rfl q;generalize hB:(es.flatMap evB).map PV.str=B at *;generalize hW:rowP st=W;generalize hT:evP (.t x y)=T;refine a0L (fun i env m=>∃s5,env=[some (.v W),some (.v (.int r)),some (.v S),some (.v T),some (.v (.lst B)),s5]∧m=n) _ 0 _ _ ⟨none,rfl,rfl⟩ (fun i z env m N ex hI hN=>?_) (fun env m hI=>?_)
 · obtain⟨s5,rfl,rfl⟩:=hI;obtain⟨z,ez,rfl⟩:=a3m ex;have zm:=ful z (List.mem_of_getElem? ez);walk_at "pu";refine nin ?_;rw [decide_eq_true zm];exact if_f rfl (hN _ _ ⟨_,rfl,rfl⟩)
 · obtain⟨s5,rfl,rfl⟩:=hI;walk_at "pu";exact h
theorem a9R {r:Int}{st:List Str}{es:List Ev}{x y x' y':Str}{n:Nat}{R:PV→Nat→Prop}(hs:st.length≤100)(nd:st.Nodup)(so:a4u r st es)(he:Ev.t x y∈es)(he':Ev.t x' y'∈es)(h:R (.bl false) n):a1H [rowP st,evP (.t x y),evP (.t x' y')] n R:=by
 refine⟨rfl,?_⟩;unfold a3h;obtain⟨hx,hy⟩:=so.fair.tx he;have pl:=so.plain x y x' y' he he';have mb:∀{R:PV→Nat→Prop},R (.lst [.str x,.str y,.str x',.str y']) n→a0P [.tup [.tup [.str a6j,.str x,.str y],.tup [.str a6j,.str x',.str y']]] n R:=fun q=>a6J (es:=[.t x y,.t x' y']) (by simp) q;have mw:∀{R:PV→Nat→Prop},R (rowP (btwU st x y)) n→a0F [rowP st,.tup [.str a6j,.str x,.str y]] n R:=fun q=>a2S hs hx hy q;generalize hW:rowP st=W at *;rw [a4B,a4B];walk_at "pu";refine mb ?_;have tx:a2Y [.str x,.str y,.str x',.str y']=some [x,y,x',y']:=rfl;dsimp only;rw [tx];dsimp only;refine⟨by simp,?_⟩
 by_cases c:((met (a5O [x,y,x',y']) [x,y,x',y'].length).length:Int)=4
 · refine if_f (by rw [decide_eq_true c];rfl) ?_;refine mw ?_;refine b0m rfl ?_;refine b0m rfl ?_;rw [b2R,decide_eq_decide.mpr pl];generalize decide (y'∈btwU st x y)=b;cases b <;> exact⟨rfl,rfl,h⟩
 · refine if_t (by rw [decide_eq_false c];rfl) ?_;exact h
theorem a9S {r:Int}{st:List Str}{es:List Ev}{x y:Str}{n:Nat}{R:PV→Nat→Prop}(hs:st.length≤100)(nd:st.Nodup)(so:a4u r st es)(he:Ev.t x y∈es)(h:R .non n):a0W [rowP st,evP (.t x y),.lst ((es.filter isTo).map evP)] n R:=by
 refine⟨rfl,?_⟩;unfold a1D;have mi:∀{x' y':Str} {R:PV→Nat→Prop},Ev.t x' y'∈es→R (.bl false) n→a1H [rowP st,evP (.t x y),evP (.t x' y')] n R:=fun hh q=>a9R hs nd so he hh q;generalize hW:rowP st=W at *;generalize hT:evP (.t x y)=T at *;generalize hL:(es.filter isTo).map evP=L;walk_at "pu";refine a0L (fun i env m=>∃s3,env=[some (.v W),some (.v T),some (.v (.lst L)),s3]∧m=n) _ 0 _ _ ⟨none,rfl,rfl⟩ (fun i z env m N ex hI hN=>?_) (fun env m hI=>?_)
 · obtain⟨s3,rfl,rfl⟩:=hI;rw [← hL] at ex;obtain⟨e,ee,rfl⟩:=a3m ex;obtain⟨em,et⟩:=List.mem_filter.mp (List.mem_of_getElem? ee);cases e with
   | d z=>cases et
   | t x' y' =>
     generalize hU:evP (.t x' y')=U at *;walk_at "pu";rw [← hU];refine mi em ?_;rw [hU];exact if_f rfl (hN _ _ ⟨_,rfl,rfl⟩)
 · obtain⟨s3,rfl,rfl⟩:=hI;walk_at "pu";exact h
theorem b1P {r:Int}{st:List Str}{es:List Ev}{n:Nat}{R:PV→Nat→Prop}(hs:st.length≤100)(nd:st.Nodup)(so:a4u r st es)(hl:es.length≤1000)(h:R .non n):a1p [rowP st,.int r,shP es] n R:=by
 refine⟨rfl,?_⟩;unfold a2z;have mt:∀{x y:Str} {R:PV→Nat→Prop},Ev.t x y∈es→R .non n→a0V [rowP st,.int r,shP es,evP (.t x y)] n R:=fun he q=>a9P hs nd so he hl q;have mc:∀{x y:Str} {R:PV→Nat→Prop},Ev.t x y∈es→R .non n→a0W [rowP st,evP (.t x y),.lst ((es.filter isTo).map evP)] n R:=fun he q=>a9S hs nd so he q;have mb:∀{R:PV→Nat→Prop},R .non n→a1a [rowP st,shP es] n R:=fun q=>a9T so.fair hl q;have mo:∀{R:PV→Nat→Prop},R (.lst ((es.filter isTo).map evP)) n→a0z [shP es] n R:=fun q=>a4g (by omega) q;generalize hW:rowP st=W at *;generalize hS:shP es=S at *;generalize hL:(es.filter isTo).map evP=L at *;walk_at "pu";refine mb ?_
 try dsimp only
 refine mo ?_;refine a0L (fun i env m=>∃s5,env=[some (.v W),some (.v (.int r)),some (.v S),some (.v .non),some (.v (.lst L)),s5]∧m=n) _ 0 _ _ ⟨none,rfl,rfl⟩ (fun i z env m N ex hI hN=>?_) (fun env m hI=>?_)
 · obtain⟨s3,rfl,rfl⟩:=hI;rw [← hL] at ex;obtain⟨e,ee,rfl⟩:=a3m ex;obtain⟨em,et⟩:=List.mem_filter.mp (List.mem_of_getElem? ee);cases e with
   | d z=>cases et
   | t x' y' =>
     generalize hU:evP (.t x' y')=U at *;walk_at "pu";rw [← hU];refine mt em ?_;walk_at "pu";refine mc em ?_;rw [hU];exact hN _ _ ⟨_,rfl,rfl⟩
 · obtain⟨s3,rfl,rfl⟩:=hI;walk_at "pu";exact h
def evL (st:List Str):Ev→Int
 | .d _=>0
 | .t x y=>((btwU st x y).length:Int)
theorem a7B {st:List Str}{n:Nat}(hs:st.length≤100):∀(ts:List Ev) (R:List Int→Nat→Prop),(∀e∈ts,∃x y,e=.t x y∧x∈st∧y∈st)→R (ts.map (evL st)) n→a6L (qUn wLen (a0v a0F (a0c (qV 1) (a0c (qV 0) qNil)))) (rowP st) (ts.map evP) n R
 | [],R,_,h=>h
 | e :: ts, R, ht, h => by
   obtain⟨x,y,rfl,hx,hy⟩:=ht e List.mem_cons_self;have ih:=a7B hs (n:=n) ts (fun ks n2=>R (evL st (.t x y)::ks) n2) (fun e he=>ht e (List.mem_cons_of_mem _ he)) h;have mb:∀{R:PV→Nat→Prop},R (rowP (btwU st x y)) n→a0F [rowP st,evP (.t x y)] n R:=fun q=>a2S hs hx hy q;rw [List.map_cons];generalize ts.map evP=E at *;generalize hW:rowP st=W at *;generalize hT:evP (.t x y)=T at *;unfold a6L;walk_at "pu";refine mb ?_
   try dsimp only
   refine⟨_,rfl,?_⟩;have e:(((btwU st x y).map PV.str).length:Int)=evL st (.t x y):=by rw [List.length_map];rfl
   rw [e];exact ih
theorem b1h {ts:List Ev}{f:Ev→Int}{ys:List PV}(h:SrtK (ts.map f) (ts.map evP) ys):∃ts':List Ev,ys=ts'.map evP∧ts'.Perm ts∧ts'.Pairwise fun a b=>f a≤f b:=by
 obtain⟨ps,hp,rfl,ho⟩:=h
 have e:(ts.map f).zip (ts.map evP)=ts.map fun e=>(f e,evP e):=by
   clear hp
   induction ts with
   | nil=>rfl
   | cons t ts ih=>simp [ih]
 rw [e] at hp;obtain⟨l,pl,rfl⟩:=a5I hp ts rfl;refine⟨l,by rw [List.map_map];rfl,pl,?_⟩;rw [List.pairwise_map] at ho;exact ho
def isDr (e:Ev):Bool:=!isTo e
theorem b3S {r:Int}{st:List Str}{es:List Ev}{n:Nat}{R:PV→Nat→Prop}(hs:st.length≤63)(nd:st.Nodup)(so:a4u r st es)(hl:es.length≤63)
   (h:∀ts:List Ev,ts.Perm (es.filter isTo)→(ts.Pairwise fun a b=>evL st a≤evL st b)→R (.tup [.str (Str.ofString "course"),.tup ((es.filter isDr++ts).map evP)]) n):a2p [rowP st,.int r,shP es] n R:=by
 refine⟨rfl,?_⟩;unfold a3f;have mr:∀{R:PV→Nat→Prop},R .non n→a1p [rowP st,.int r,shP es] n R:=fun q=>b1P (by omega) nd so (by omega) q;have mo:∀{R:PV→Nat→Prop},R (.lst ((es.filter isTo).map evP)) n→a0z [shP es] n R:=fun q=>a4g (by omega) q
 have tl:((es.filter isTo).map evP).length < 64:=by
   rw [List.length_map];have:=List.length_filter_le isTo es;omega
 have dl:((es.filter isDr).map evP).length < 64:=by
   rw [List.length_map];have:=List.length_filter_le isDr es;omega
 have kk:∀R,R ((es.filter isTo).map (evL st)) n→a6L (qUn wLen (a0v a0F (a0c (qV 1) (a0c (qV 0) qNil)))) (rowP st) ((es.filter isTo).map evP) n R:=fun R q=>a7B (by omega) _ R (fun e he=>by
   obtain⟨em,et⟩:=List.mem_filter.mp he;cases e with
   | d z=>cases et
   | t x y =>
     obtain⟨hx,hy⟩:=so.fair.tx em
     exact⟨x,y,rfl,hx,hy⟩) q
 have hS':shP es=.tup (es.map evP):=rfl;have El:(es.map evP).length=es.length:=List.length_map ..
 have cf:=fun R' q=>a2U (tt:=(qB (qOp (wEq 4) (qOp wIx (qV 0) (qC (.int 0))) (qC (.str (PySem.Str.ofString "drop")))))) (rest:=[]) evP isDr es none n R' (fun e he m Q hQ=>by
   cases e with
   | d x =>
     rw [b0q] at *;walk_at "pu";exact hQ
   | t x y =>
     rw [a4B] at *;walk_at "pu";rw [a7U]
     exact hQ) q
 generalize hW:rowP st=W at *;generalize hS:shP es=S at *;generalize hL:(es.filter isTo).map evP=L at *;generalize hD:(es.filter isDr).map evP=D at *;generalize hE:es.map evP=E at *;walk_at "pu";refine mr ?_
 try dsimp only
 rw [hS']
 try dsimp only
 refine⟨by omega,cf _ ?_⟩;rw [← hS'];refine mo ?_
 try dsimp only
 refine⟨tl,kk _ fun ys hy=>?_⟩;rw [← hL] at hy;obtain⟨ts,rfl,pt,ot⟩:=b1h hy;have:=h ts pt ot;rw [List.map_append,hD] at this;have tsl:(ts.map evP).length < 64:=by rw [List.length_map,pt.length_eq,← List.length_map (f:=evP),hL];exact tl
 generalize ts.map evP=TE at *
 try dsimp only
 refine⟨by omega,this⟩
theorem b3Q {s n m:Nat}{r:Int}{R:PV→Nat→Prop}(h1:1≤s)(hn:1≤n)(h8:s≤8)(h:R (.int (((n + s - 1) / s:Nat):Int)) m):a1G [.tup [.int (s:Int),.int r],.int (n:Int)] m R:=by
 refine⟨rfl,?_⟩;unfold a3e;walk_at "pu";refine⟨⟨by omega,by omega⟩,?_⟩
 have e:((n:Int) + s - 1) / s=(((n + s - 1) / s:Nat):Int):=by
   rw [show(n:Int) + s - 1=((n + s - 1:Nat):Int) by omega]
   rfl
 rw [e];exact h
theorem a4v:decide (Str.ofString "course"=Str.ofString "unsound")=false:=by decide +kernel
theorem m_dayb {P:List Str→List Ev→Prop}{s n m r:Nat}{row row':List Str}{ess:List (List Ev)}{sts:List (List Str)}{R:PV→Nat→Prop}(hf:∀st es,P st es→a4u (r:Int) st es∧es.length≤63)(h1:1≤s)(h8:s≤8)(hn:1≤n)(h24:n≤24)(hr:RowS row)(hl:row.length=n)
   (hd:Dy P s n ((n + s - 1) / s) row ((n + s - 1) / s) ess sts row') (h:R (.tup [.str (Str.ofString "row"),rowP row']) m):a1x [.tup [.int (s:Int),.int (r:Int)],rowP row,dayP ess] m R:=by
 refine⟨rfl,?_⟩;unfold a2d;have mle:=a5a (s:=s) (n:=n) h1 hn;have mr:∀{R:PV→Nat→Prop},R (.int (((n + s - 1) / s:Nat):Int)) m→a1G [.tup [.int (s:Int),.int (r:Int)],.int (n:Int)] m R:=fun q=>b3Q h1 hn h8 q;generalize hmx:(n + s - 1) / s=mx at *;obtain⟨el,sl⟩:=hd.len;have dl:(ess.map shP).length=mx:=by rw [List.length_map];exact el
 have ai:∀{k:Nat} {es:List Ev},ess[k]?=some es→atI (ess.map shP) (k:Int)=some (shP es):=fun {k es} hk=>a6Z (by rw [List.getElem?_map,hk];rfl);unfold dayP;have rl:(row.map PV.str).length=n:=by rw [List.length_map];exact hl
 generalize hE:ess.map shP=E at *;generalize hW:rowP row=W;have hW':W=.tup (row.map PV.str):=by rw [← hW]
 walk_at "pu";rw [hW'];simp only [wLen,rl];refine mr ?_;rw [dl];rw [if_neg (by rw [b2Q,decide_eq_true rfl];decide)];dsimp only;refine⟨rfl,⟨by omega,by omega⟩,?_⟩;rw [Int.toNat_natCast,← hW'];refine a0L (fun i env m'=>∃r' s5 s6 s7,env=[some (.v (.tup [.int (s:Int),.int (r:Int)])),some (.v W),some (.v (.tup E)),some (.v (.int (mx:Int))),some (.v (rowP r')),s5,s6,s7]∧Dy P s n mx row i (ess.drop (mx - i)) (sts.drop (mx - i)) r'∧m'=m) _ 0 _ _ ⟨row,_,_,_,by rw [hW],by rw [Nat.sub_zero,List.drop_of_length_le (by omega),List.drop_of_length_le (by omega)];exact .nil,rfl⟩ (fun i x env m' N ex hI hN=>?_) (fun env m' hI=>?_)
 · obtain⟨r',s5,s6,s7,rfl,di,rfl⟩:=hI;obtain⟨hi,rfl⟩:=a8Z ex;rw [Nat.zero_add] at di hN;obtain⟨es,st,r2,ee,es_,xe,xs,d2,hst,hp,dn⟩:=hd.at hi;have er:=d2.det di;subst er;obtain⟨rS,rL⟩:=di.rows h1 hn hmx.symm (fun st es p=>(hf st es p).1.fair) hr hl;have ek:(mx:Int) - 1 - i=((mx - 1 - i:Nat):Int):=by omega
   rw [ek];obtain⟨so,hlen⟩:=hf st es hp;rw [b0T so.fair] at dn;have k24:mx - 1 - i≤1000:=by omega
   have ai':=ai ee;have stS:RowS st:=by rw [hst];exact a3a rS
   have stL:st.length≤24:=by
     rw [hst,a1E rL hn];have:=b2c (s:=s) (k:=mx - 1 - i) hn;omega
   generalize mx - 1 - i=k at *;generalize hV:rowP r2=V;walk_at "pu";rw [← hV];refine a9Q h8 hn rL k24 ?_
   try dsimp only
   rw [ai',← hst];dsimp only;refine b3S (by omega) stS.1 so hlen fun ts pt ot=>?_;generalize (es.filter isDr++ts).map evP=TE;generalize hQ:shP es=Q;walk_at "pu";refine if_f a4v ?_
   try dsimp only
   rw [← hQ];refine b3R h8 hn (by omega) rL k24 (by omega) (by rw [← hst];exact so.fair.sub) ?_;rw [← hst];exact hN _ _ ⟨_,_,_,_,rfl,dn,rfl⟩
 · obtain⟨r',s5,s6,s7,rfl,di,rfl⟩:=hI;rw [Nat.zero_add,a8Y,Nat.sub_self,List.drop_zero,List.drop_zero] at di;have e:=di.det hd;subst e;generalize rowP r'=V at *;walk_at "pu";exact h
def Ps (r:Nat)(st:List Str)(es:List Ev):Prop:=a4u (r:Int) st es∧es.length≤24
theorem Ps_of {r:Nat}(st:List Str)(ms:List Pu.Mk)(es:List Ev)(hs:RowS st)(hl:ms.length=st.length)(h24:st.length≤24)(hw:run (r:Int) 0 [] ms=some [])(p:es.Perm ((shE 0 [] ms).map (evOf st))):Ps r st es:=by
 refine⟨(b1i hs.1 hl hw).perm p,?_⟩;have:=a2y ms 0 [];rw [p.length_eq,List.length_map];omega
def askP (y:PV):Prop:=∃(s r n:Nat) (row row':List Str) (ess:List (List Ev)) (sts:List (List Str)),1≤s∧s≤8∧r≤7∧1≤n∧n≤24∧RowS row∧row.length=n∧Dy (Ps r) s n ((n + s - 1) / s) row ((n + s - 1) / s) ess sts row'∧y=.tup [.tup [.int (s:Int),.int (r:Int)],rowP row,dayP ess,.tup [.str (Str.ofString "row"),rowP row']]
theorem a7J {zs:List Str}(h:RowS zs)(hl:zs.length≤24):Show 2 4300 (.tup [.str (Str.ofString "row"),rowP zs]):=by
 refine(Show.tup (d:=1) (c:=2100) (l:=2) (fun x hx=>?_) (by simp)).le (Nat.le_refl _) (by decide);simp only [List.mem_cons,List.not_mem_nil,or_false] at hx;rcases hx with rfl | rfl
 · exact(a3I _ (by decide +kernel) (by decide +kernel)).le (by decide) (by decide)
 · exact a7p h.2 hl
theorem b2q {y:PV}(h:askP y):Show 4 700000 y:=by
 obtain⟨s,r,n,row,row',ess,sts,h1,h8,r7,hn,h24,hr,hl,hd,rfl⟩:=h;have m:=hd.mem h1 hn rfl (fun _ _ p=>p.1.fair) hr hl;have l:=hd.len;have mle:=a5a (s:=s) (n:=n) h1 hn;obtain⟨rS,rL⟩:=hd.rows h1 hn rfl (fun _ _ p=>p.1.fair) hr hl;refine(Show.tup (d:=3) (c:=152000) (l:=4) (fun x hx=>?_) (by simp)).le (Nat.le_refl _) (by decide);simp only [List.mem_cons,List.not_mem_nil,or_false] at hx;rcases hx with rfl | rfl | rfl | rfl
 · exact(a9N (by omega) (by omega)).le (by decide) (by decide)
 · exact(a7p hr.2 (by omega)).le (by decide) (by decide)
 · refine b2h (fun es he=>?_) (by omega);obtain⟨st,p,rs,sl⟩:=m.1 es he;exact⟨fun b hb=>rs.2 b (p.1.fair.sub b hb),p.2⟩
 · exact(a7J rS (by omega)).le (by decide) (by decide)
theorem m_law (ns:List Int)(hl:ns.length≤63):b1I ⟨fun _ _=>False,fun r _=>r=.bl true,fun _ _=>False,fun _ _=>False⟩ (a2M ["_law_script","_law_draws","_law_asks","_law_turn","_law_meeting","_law_row","_law_day_here","_law_starts","_law_after_here","_law_held","_law_due"] [.scr ns]) 0:=by
 unfold b1I;walk_at "pu";refine⟨hl,fun q=>?_⟩;refine a0L (fun i env m=>∃ys s3 s4 s5 s6 s7 s8,env=[some (.v (.scr ns)),some (.v (.pot (q + 1))),some (.own ys),s3,s4,s5,s6,s7,s8,none,none]∧ys.length=i∧(∀y∈ys,askP y)∧m≤3000 * i) _ 0 _ _ ⟨[],_,_,_,_,_,_,rfl,rfl,(fun _ z=>nomatch z),by omega⟩ (fun i x env m N ex hI hN=>?_) (fun env m hI=>?_)
 · obtain⟨ys,s3,s4,s5,s6,s7,s8,rfl,hi,hy,hm⟩:=hI;obtain⟨hj,rfl⟩:=a4W ex;rw [Nat.zero_add] at hi hm hN;have hj3:i < 3:=hj;walk_at "pu";refine m_meet (by omega) fun s r zs n' h1 h8 r7 z1 z24 zr hn'=>?_;generalize hZ:rowP zs=Z;walk_at "pu";rw [← hZ];refine m_day (P:=Ps r) (n:=zs.length) (fun st ms es hs hsl hl' hw p se=>Ps_of st ms es hs hl' (by omega) hw p) (fun _ _ p=>p.1.fair) h1 h8 z1 z24 zr rfl (by omega) fun ess sts r' n2 hd hn2=>?_
   · generalize hD:dayP ess=D;generalize hS:PV.tup (sts.map rowP)=S;rw [hZ];generalize hV:rowP r'=V;walk_at "pu";refine⟨⟨_,rfl⟩,by omega,?_⟩;refine hN _ _ ⟨_,_,_,_,_,_,_,rfl,by rw [List.length_append,hi];rfl,fun z hz=>?_,by omega⟩;rcases List.mem_append.mp hz with hz | hz
     · exact hy z hz
     · rw [List.mem_singleton.mp hz,← hD,← hV,← hZ];exact⟨s,r,zs.length,zs,r',ess,sts,h1,h8,r7,z1,z24,zr,rfl,hd,rfl⟩
 · obtain⟨ys,s3,s4,s5,s6,s7,s8,rfl,hi,hy,hm⟩:=hI;have hi3:ys.length=3:=by rw [hi];simp
   have ysS:Show 5 2100009 (.lst ys):=(Show.lst (d:=4) (c:=700000) (l:=3) (fun y h=>b2q (hy y h)) (by omega)).le (Nat.le_refl _) (by decide);walk_at "pu";refine a2i ysS.sh (by have:=ysS.de;omega) (by have:=ysS.co;omega) ?_;refine a0L (fun i env m=>∃s3 s4 s5 s6 s7 s8 s10,env=[some (.v (.scr ns)),some (.v (.pot (q + 1))),some (.v (.lst ys)),s3,s4,s5,s6,s7,s8,some (.v (.str (a8T (.lst ys)))),s10]) _ 0 _ _ ⟨_,_,_,_,_,_,_,rfl⟩ (fun i x env m N ex hI hN=>?_) (fun env m hI=>?_)
   rotate_left
   · obtain⟨s3,s4,s5,s6,s7,s8,s10,rfl⟩:=hI;walk_at "pu";refine a2i ysS.sh (by have:=ysS.de;omega) (by have:=ysS.co;omega) ?_;rw [a5X,decide_eq_true rfl];exact⟨rfl,rfl⟩
   obtain⟨s3,s4,s5,s6,s7,s8,s10,rfl⟩:=hI;have ask:=hy x (List.mem_of_getElem? ex);obtain⟨s,r,n,row,row',ess,sts,h1,h8,r7,hn,h24,hr,hl',hd,rfl⟩:=ask;obtain⟨rS,rL⟩:=hd.rows h1 hn rfl (fun _ _ p=>p.1.fair) hr hl';have stS:=a7J rS (by omega);have ms:=fun Q m h=>m_dayb (P:=Ps r) (m:=m) (R:=Q) (fun _ _ p=>⟨p.1,by have:=p.2;omega⟩) h1 h8 hn h24 hr hl' hd h;generalize hD:dayP ess=D at *;generalize hW:rowP row=W at *;generalize hV:rowP row'=V at *;walk_at "pu";refine ms _ _ ?_
   try dsimp only
   refine a2i stS.sh (by have:=stS.de;omega) (by have:=stS.co;omega) ?_;refine a2i stS.sh (by have:=stS.de;omega) (by have:=stS.co;omega) ?_;refine⟨rfl,rfl,if_f (by rw [a5X,decide_eq_true rfl];rfl) ?_⟩;exact hN _ _ ⟨_,_,_,_,_,_,_,rfl⟩
end Tb
end
section
set_option maxHeartbeats 4000000
namespace Tb
open PySem L2 Pu
section
variable {P:Program}{w:World}{K:PySem.W.Frag}{mg:Str→Option Value}{base:Heap}
theorem a8P {H H':Hp}{a:Addr}{xs:List V}(h:SqL K H a xs)(s:Same H H'):SqL K H' a xs:=h.elim (fun h=>.inl (Rd.keep h fun o e=>s a o e)) .inr
theorem a8W {H H':Hp}(s:Same H H'){c:Addr}(h:H' c=none):H c=none:=by
 cases e:H c with
 | none=>rfl
 | some o=>rw [s c o e] at h;cases h
theorem putK_new {kvs:List (Key×V)}{k:Key}{v:V}(h:∀kv∈kvs,¬kv.1=k):putK kvs k v=kvs++[(k,v)]:=by
 unfold putK;rw [if_neg];rw [Bool.not_eq_true,List.any_eq_false];intro x hx;rw [decide_eq_true_iff];exact h x hx
theorem a8l {c:Addr}{a l s:Int}:a4f [] (dPot c a l s)=dPot c a l s:=by
 unfold a4f dPot;simp only [List.foldl_cons,List.foldl_nil];have e1:putK ([]:List (Key×V)) (Sum.inr (Str.ofString "cells")) (V.ref c)=[(Sum.inr (Str.ofString "cells"),V.ref c)]:=putK_new (fun _ z=>nomatch z);have e2:putK [((Sum.inr (Str.ofString "cells"):Key),V.ref c)] (Sum.inr (Str.ofString "at")) (V.int a)=[(Sum.inr (Str.ofString "cells"),V.ref c),(Sum.inr (Str.ofString "at"),V.int a)]:=putK_new (fun kv hkv=>by rw [List.mem_singleton.mp hkv];exact a1b (by decide))
 have e3:putK [((Sum.inr (Str.ofString "cells"):Key),V.ref c),(Sum.inr (Str.ofString "at"),V.int a)] (Sum.inr (Str.ofString "left")) (V.int l)=[(Sum.inr (Str.ofString "cells"),V.ref c),(Sum.inr (Str.ofString "at"),V.int a),(Sum.inr (Str.ofString "left"),V.int l)]:=putK_new (fun kv hkv=>by
   simp only [List.mem_cons,List.not_mem_nil,or_false] at hkv
   rcases hkv with rfl | rfl <;> exact a1b (by decide))
 have e4:putK [((Sum.inr (Str.ofString "cells"):Key),V.ref c),(Sum.inr (Str.ofString "at"),V.int a),(Sum.inr (Str.ofString "left"),V.int l)] (Sum.inr (Str.ofString "seed")) (V.int s)=[(Sum.inr (Str.ofString "cells"),V.ref c),(Sum.inr (Str.ofString "at"),V.int a),(Sum.inr (Str.ofString "left"),V.int l),(Sum.inr (Str.ofString "seed"),V.int s)]:=putK_new (fun kv hkv=>by
   simp only [List.mem_cons,List.not_mem_nil,or_false] at hkv
   rcases hkv with rfl | rfl | rfl <;> exact a1b (by decide))
 rw [e1,e2,e3,e4]
theorem b1K (F:Fn0 K mg "_law_begin" (top 23))(m_len:mg "len"=none)(m_list:mg "list"=none):Kn P w K mg base "_law_begin" 1 ["_law_script"] (Pu.a3D K):=by
 have sc:a0o ["_law_script"] ["_law_script"] (a0f (top 23)):=⟨rfl,rfl,rfl,by decide +kernel,rfl,by decide +kernel,by decide +kernel⟩;refine F.ok sc (fun vs H Q E h=>?_) (fun _ _ _ _ _ _ us hl=>match us,hl with | [_],_=>rfl) (fun f cdv A outer s H vs Q E hr h=>?_)
 · obtain⟨a,ns,rfl,_⟩:=h
   rfl
 obtain⟨a,ns,rfl,hS,hl63,q⟩:=h;refine⟨_,a3Y (a5H (b3C (a3F a0N (a2a a3x rfl m_list b0M (a0r (a5g a6o (pv 0) a6y (a6x a0U)) a0K)) (a3F a0N a0U (a3F a0N a0U (a3F a0N (a1q a4I a0U (a2o a2m rfl m_len a7P (a0r (a5g a6o (pv 0) a6y (a6x a0U)) a0K))) b3v)))) rfl rfl (by simp) (by simp))),?_⟩
 have cut:cutV (ns.map V.int) none (some 63)=ns.map V.int:=by
   unfold cutV;rw [HT.sIx_none,show(some (63:Int))=some ((63:Nat):Int) from rfl,HT.sIx_nat,List.drop_zero,List.length_map,Nat.min_eq_right hl63];exact List.take_of_length_le (by rw [List.length_map];omega)
 intro p hp;have sm0:Same H (upd H p (.dK [])):=Same.lay1 hp;refine⟨_,rfl,63,rfl,a,_,rfl,a8P hS sm0,fun p0 hp0=>?_⟩;have sm1:=sm0.trans (Same.lay1 (o:=.lst (cutV (ns.map V.int) none (some 63))) hp0);have at1:upd (upd H p (.dK [])) p0 (.lst (cutV (ns.map V.int) none (some 63))) p=some (.dK []):=Same.lay1 hp0 p _ a0g;refine⟨p0,_,rfl,.inl (SqL.of a0g),fun c hc=>?_⟩;have sm2:=sm1.trans (Same.lay1 (o:=.lst (cutV (ns.map V.int) none (some 63))) hc);have at2:=Same.lay1 (o:=.lst (cutV (ns.map V.int) none (some 63))) hc p _ at1;have cn:=a8W sm1 hc;refine⟨_,rfl,63,rfl,a,_,rfl,a8P hS sm2,fun p1 hp1=>?_⟩;have sm3:=sm2.trans (Same.lay1 (o:=.lst (cutV (ns.map V.int) none (some 63))) hp1);have at3:=Same.lay1 (o:=.lst (cutV (ns.map V.int) none (some 63))) hp1 p _ at2;have ct3:=Same.lay1 (o:=.lst (cutV (ns.map V.int) none (some 63))) hp1 c _ a0g;refine⟨p1,_,rfl,.inl (SqL.of a0g),_,_,rfl,rfl,at3,dPot c 0 0 (1000003 + ((cutV (ns.map V.int) none (some 63)).length:Nat)),rfl,by show 4≤15;decide,?_⟩;rw [a8l];have ncp:c≠p:=fun z=>by rw [z] at hc;rw [at1] at hc;cases hc
 refine q _ p c ns 0 0 _ (fun b o e=>?_) hp cn a0g (by rw [a0j ncp];rw [ct3,cut]) ⟨hl63,by omega,by omega,by omega,?_⟩
 · have nbp:b≠p:=fun z=>by rw [z,hp] at e;cases e
   rw [a0j nbp];exact sm3 b o e
 · rw [cut,List.length_map];omega
theorem upd_id {H:Hp}{p:Addr}{o:HO}(h:H p=some o):upd H p o=H:=by
 funext b
 by_cases e:b=p
 · rw [e,a0g,h]
 · rw [a0j e]
theorem b0x {H:Hp}{p c:Addr}{a l s:Int}(h:H p=some (.dK (dPot c a l s))):DGet H p (.str (PySem.Str.ofString "cells")) (some (.ref c)):=a8A (a:=a) (l:=l) (s:=s)▸DGet.k (k:=Sum.inr (PySem.Str.ofString "cells")) h
theorem dgAt {H:Hp}{p c:Addr}{a l s:Int}(h:H p=some (.dK (dPot c a l s))):DGet H p (.str (PySem.Str.ofString "at")) (some (.int a)):=b4p (c:=c) (l:=l) (s:=s)▸DGet.k (k:=Sum.inr (PySem.Str.ofString "at")) h
theorem a7L {H:Hp}{p c:Addr}{a l s:Int}(h:H p=some (.dK (dPot c a l s))):DGet H p (.str (PySem.Str.ofString "left")) (some (.int l)):=b0w (c:=c) (a:=a) (s:=s)▸DGet.k (k:=Sum.inr (PySem.Str.ofString "left")) h
theorem a7K {H:Hp}{p c:Addr}{a l s:Int}(h:H p=some (.dK (dPot c a l s))):DGet H p (.str (PySem.Str.ofString "seed")) (some (.int s)):=b0v (c:=c) (a:=a) (l:=l)▸DGet.k (k:=Sum.inr (PySem.Str.ofString "seed")) h
theorem b4n {c:Addr}{a l s:Int}:(dPot c a l s).length < sizeLine:=by show 4 < sizeLine;decide
theorem dpAt {H:Hp}{p c:Addr}{a l s x:Int}(h:H p=some (.dK (dPot c a l s))):DPut H p (.str (PySem.Str.ofString "at")) (.int x) (upd H p (.dK (dPot c x l s))):=b4m (c:=c) (a:=a) (l:=l) (s:=s)▸DPut.k (k:=Sum.inr (PySem.Str.ofString "at")) h b4n
theorem b2U {H:Hp}{p c:Addr}{a l s x:Int}(h:H p=some (.dK (dPot c a l s))):DPut H p (.str (PySem.Str.ofString "left")) (.int x) (upd H p (.dK (dPot c a x s))):=b0u (c:=c) (a:=a) (l:=l) (s:=s)▸DPut.k (k:=Sum.inr (PySem.Str.ofString "left")) h b4n
theorem b2T {H:Hp}{p c:Addr}{a l s x:Int}(h:H p=some (.dK (dPot c a l s))):DPut H p (.str (PySem.Str.ofString "seed")) (.int x) (upd H p (.dK (dPot c a l x))):=b0t (c:=c) (a:=a) (l:=l) (s:=s)▸DPut.k (k:=Sum.inr (PySem.Str.ofString "seed")) h b4n
theorem b3I (F:Fn0 K mg "_law_next" (top 24))(m_len:mg "len"=none)(m_int:mg "int"=none):Kn P w K mg base "_law_next" 1 ["_law_draws","_law_many"] (a0l K potD b0O):=by
 refine a9J ?_;have sc:a0o ["_law_draws","_law_many","_law_cell","_law_digit"] ["_law_draws","_law_many"] (a0f (top 24)):=⟨rfl,rfl,rfl,by decide +kernel,rfl,by decide +kernel,by decide +kernel⟩;refine F.ok sc (fun vs H Q E h=>?_) (fun _ _ _ _ _ _ us hl=>match us,hl with | [_,_],_=>rfl) (fun f cdv A outer s H vs Q E hr h=>?_)
 · obtain⟨p,c,cells,a,l,s,many,rfl,_⟩:=h
   rfl
 obtain⟨p,c,cells,a,l,sd,many,rfl,hp,hc,⟨c63,a0,l0,s0,s1⟩,n0,n1,q⟩:=h;have hu:=hu_of hr
 refine⟨_,(a1k (b3t (PW.pt (b2C (a3X op_eq (a1d hu (pv 0) a0N (fun _ _=>rfl)) a0U (a0A _)) (a9q (a3X op_lt (a1d hu (pv 0) a0N (fun _ _=>rfl)) (a2o a2m rfl m_len a7P (a0r (a1d hu (pv 0) a0N (fun _ _=>rfl)) a0K)) (a0A _)))))
       (a1k (a9s (i:=2) sc.nd rfl (Or.inl rfl) (b3B b0g (a1d hu (pv 0) a0N (fun _ _=>rfl)) (a1d hu (pv 0) a0N (fun _ _=>rfl)) (fun _ _=>rfl)))
       (a1k (a3Z hu (pv 0) a0N (a1q a4I (a1d hu (pv 0) a0N (fun _ _=>rfl)) a0U) rfl)
       (a1k (a3Z hu (pv 0) a0N (a1q a4c (a1q a4I (a1q a4I (a1q a5K (a1d hu (pv 0) a0N (fun _ _=>rfl)) a0U) (a1q a4c (pv 2) (a1q b2F a0U a0U))) a0U) a0U) rfl)
       (a3Y (a3Z hu (pv 0) a0N (a1q a5K (pv 2) (a2a b0J rfl m_int bt_int (a0r (a9z op_ge (pv 2) (a1q b2F a0U a0U) (a0A _)) a0K))) rfl))))) a6w)
     (a1k (b3t (a3X op_gt (a1d hu (pv 0) a0N (fun _ _=>rfl)) a0U (a0A _))
       (a1k (a9s (i:=3) sc.nd rfl (Or.inl rfl) (a1q a4c (a1d hu (pv 0) a0N (fun _ _=>rfl)) (pv 1)))
       (a1k (a3Z hu (pv 0) a0N (a1q a6D (a1d hu (pv 0) a0N (fun _ _=>rfl)) (pv 1)) rfl)
       (a3Y (a5H (pv 3))))) a6w)
     (a1k (a3Z hu (pv 0) a0N (a1q a4c (a1q a4I (a1q a5K (a1d hu (pv 0) a0N (fun _ _=>rfl)) a0U) a0U) a0U) rfl)
     (a3Y (a5H (a1q a4c (a1q a6D (a1q a4c (a1q a5K (a1d hu (pv 0) a0N (fun _ _=>rfl)) (a1d hu (pv 0) a0N (fun _ _=>rfl))) a0U) a0U) (pv 1))))))),?_⟩
 have sl:(dPot c a l sd).length < sizeLine:=by show 4 < sizeLine;decide
 have cp:c≠p:=fun z=>by rw [z,hp] at hc;cases hc
 refine b1f (fun σ' H'=>∃a' l' s' s2,σ'=[some (.ref p),some (.int many),s2,none]∧a6l cells a' l' s'∧H'=upd H p (.dK (dPot c a' l' s'))) (fun key=>?_) ?_
 · have stay:=key _ _ ⟨a,l,sd,none,rfl,⟨c63,a0,l0,s0,s1⟩,(upd_id hp).symm⟩;refine⟨_,rfl,p,_,rfl,a7L hp,rfl,_,rfl,?_⟩;refine ite2 (fun c1=>?_) (fun c1=>stay);refine⟨_,rfl,p,_,rfl,dgAt hp,_,rfl,p,_,rfl,b0x hp,c,_,rfl,.inl (SqL.of hc),_,_,rfl,rfl,_,rfl,?_⟩;refine ite2 (fun c2=>?_) (fun c2=>stay);have c2':a < (((cells.map V.int).length:Nat):Int):=of_decide_eq_true c2;rw [List.length_map] at c2';obtain⟨v,qa⟩:=at_map (ns:=cells) a0 c2';refine⟨_,rfl,p,_,rfl,b0x hp,_,rfl,p,_,rfl,dgAt hp,c,_,_,_,rfl,rfl,SqL.of hc,qa,?_⟩;refine⟨_,rfl,p,_,rfl,dgAt hp,_,_,rfl,rfl,_,rfl,p,_,rfl,dpAt hp,?_⟩;refine⟨_,rfl,p,_,rfl,a7K a0g,_,_,rfl,rfl,.inl ⟨by omega,by omega⟩,_,rfl,_,_,rfl,rfl,⟨by decide,by decide,by decide⟩,_,_,rfl,rfl,(by show(0:Int) < 10 ^ Int.toNat 30;decide +kernel),_,_,rfl,rfl,_,_,rfl,rfl,_,_,rfl,rfl,(by show(0:Int) < 2305843009213693951;decide),_,rfl,p,_,rfl,b2T a0g,?_⟩;rw [a4R];refine⟨_,rfl,_,rfl,_,_,rfl,rfl,⟨by decide,by decide,by decide⟩,_,_,rfl,rfl,?_⟩;refine .inr ⟨_,rfl,?_⟩
   have hz:0≤v * (if decide ((10:Int) ^ Int.toNat 18≤v)=true then(1:Int) else 0):=by
     by_cases hb:(10:Int) ^ Int.toNat 18≤v
     · rw [if_pos (decide_eq_true hb),Int.mul_one];exact Int.le_trans (by decide +kernel) hb
     · rw [if_neg (by simpa using hb),Int.mul_zero];exact Int.le_refl _
   have hz2:(0:Int)≤(if decide ((10:Int) ^ Int.toNat 18≤v)=true then(1:Int) else 0)∧(if decide ((10:Int) ^ Int.toNat 18≤v)=true then(1:Int) else 0) < 2 ^ 64:=by split <;> decide
   refine⟨_,_,rfl,rfl,.inr ⟨by have:=hz2.1;omega,hz2.2⟩,_,rfl,p,_,rfl,b2U a0g,?_⟩;rw [a4R];exact key _ _ ⟨_,_,_,_,rfl,⟨c63,by omega,hz,Int.emod_nonneg _ (by decide),Int.lt_of_lt_of_le (Int.emod_lt_of_pos _ (by decide)) (by decide)⟩,rfl⟩
 rintro σ' H' ⟨a',l',s',s2,rfl,⟨_,a0',l0',s0',s1'⟩,rfl⟩;refine⟨_,rfl,p,_,rfl,a7L a0g,_,_,rfl,rfl,_,rfl,?_⟩;refine ite2 (fun c1=>?_) (fun c1=>?_)
 · refine⟨_,rfl,p,_,rfl,a7L a0g,_,rfl,_,_,rfl,rfl,n0,?_⟩;refine⟨_,rfl,p,_,rfl,a7L a0g,_,rfl,_,_,rfl,rfl,⟨n0,by omega⟩,_,rfl,p,_,rfl,b2U a0g,?_⟩;rw [a4R];refine⟨_,rfl,?_⟩;exact q _ _ _ _ (Int.emod_nonneg _ (by omega)) (Int.emod_lt_of_pos _ n0) ⟨c63,a0',Int.ediv_nonneg l0' (by omega),s0',s1'⟩
 · refine⟨_,rfl,p,_,rfl,a7K a0g,_,_,rfl,rfl,.inl ⟨by omega,by omega⟩,_,_,rfl,rfl,_,_,rfl,rfl,(by show(0:Int) < 2305843009213693951;decide),_,rfl,p,_,rfl,b2T a0g,?_⟩;rw [a4R];have m0:=Int.emod_nonneg (s' * 1181783497276652981 + 12345678910987) (show(2305843009213693951:Int)≠0 by decide);have m1:=Int.emod_lt_of_pos (s' * 1181783497276652981 + 12345678910987) (show(0:Int) < 2305843009213693951 by decide);generalize (s' * 1181783497276652981 + 12345678910987) % 2305843009213693951=z at m0 m1 ⊢;refine⟨_,rfl,p,_,rfl,a7K a0g,_,rfl,p,_,rfl,a7K a0g,_,_,rfl,rfl,.inl ⟨by omega,by omega⟩,_,_,rfl,rfl,(by show(0:Int) < 2305843009213693921;decide),_,_,rfl,rfl,⟨by decide,by decide⟩,_,rfl,_,_,rfl,rfl,n0,?_⟩;exact q _ _ _ _ (Int.emod_nonneg _ (by omega)) (Int.emod_lt_of_pos _ n0) ⟨c63,a0',l0',m0,by omega⟩
theorem b1J {Pt:Addr}{lpos:Pos}{qual:Str}(F:Fn0 K mg "_law_next" (top 24))(m_len:mg "len"=none)(m_int:mg "int"=none):Kn P w K mg base "_law_next" 1 ["_law_draws","_law_many"] (a0l K (tabK potD Pt lpos qual) a3y):=b2f (b3I F m_len m_int) rfl
end
end Tb
end
section
open PySem PySem.W PyProof.Rows
set_option maxRecDepth 100000 in
set_option maxHeartbeats 0 in
theorem PySem.Challenge.cw_touchboats_k19_days_walked_holds : PySem.Challenge.rw_touchboats_k19_days_walked.Holds := by
 w_on;o_law;k_head;(case hw=>w_witness2)
 k_fill
 refine L2.a8J (l:=PySem.Challenge.rw_touchboats_k19_days_walked) (x:="_law_script") (k:=7) rfl rfl ⟨rfl,by decide,by decide,rfl⟩ (by decide) ?F
 case F=>
   intro w mg h KX G
   have f__law_begin:L2.Fn0 (L2.KOf KX) mg "_law_begin" (Tb.top 23):=by
     dsimp only [L2.KOf]
     refine' L2.a0E KX G ?a ?l ?c ?k
     (case a=>k_is);(case l=>k_is);(case c=>k_is);(case k=>k_is)
   have f__law_next:L2.Fn0 (L2.KOf KX) mg "_law_next" (Tb.top 24):=by
     dsimp only [L2.KOf]
     refine' L2.a0E KX G ?a ?l ?c ?k
     (case a=>k_is);(case l=>k_is);(case c=>k_is);(case k=>k_is)
   have f__law_names:L2.Fn0 (L2.KOf KX) mg "_law_names" (Tb.top 25):=by
     dsimp only [L2.KOf]
     refine' L2.a0E KX G ?a ?l ?c ?k
     (case a=>k_is);(case l=>k_is);(case c=>k_is);(case k=>k_is)
   have f__law_meet:L2.Fn0 (L2.KOf KX) mg "_law_meet" (Tb.top 32):=by
     dsimp only [L2.KOf]
     refine' L2.a0E KX G ?a ?l ?c ?k
     (case a=>k_is);(case l=>k_is);(case c=>k_is);(case k=>k_is)
   have f__law_span:L2.Fn0 (L2.KOf KX) mg "_law_span" (Tb.top 26):=by
     dsimp only [L2.KOf]
     refine' L2.a0E KX G ?a ?l ?c ?k
     (case a=>k_is);(case l=>k_is);(case c=>k_is);(case k=>k_is)
   have f__law_sheet:L2.Fn0 (L2.KOf KX) mg "_law_sheet" (Tb.top 29):=by
     dsimp only [L2.KOf]
     refine' L2.a0E KX G ?a ?l ?c ?k
     (case a=>k_is);(case l=>k_is);(case c=>k_is);(case k=>k_is)
   have f__law_races:L2.Fn0 (L2.KOf KX) mg "_law_races" (Tb.top 27):=by
     dsimp only [L2.KOf]
     refine' L2.a0E KX G ?a ?l ?c ?k
     (case a=>k_is);(case l=>k_is);(case c=>k_is);(case k=>k_is)
   have f__law_word:L2.Fn0 (L2.KOf KX) mg "_law_word" (Tb.top 28):=by
     dsimp only [L2.KOf]
     refine' L2.a0E KX G ?a ?l ?c ?k
     (case a=>k_is);(case l=>k_is);(case c=>k_is);(case k=>k_is)
   have f__law_after:L2.Fn0 (L2.KOf KX) mg "_law_after" (Tb.top 30):=by
     dsimp only [L2.KOf]
     refine' L2.a0E KX G ?a ?l ?c ?k
     (case a=>k_is);(case l=>k_is);(case c=>k_is);(case k=>k_is)
   have f__law_day:L2.Fn0 (L2.KOf KX) mg "_law_day" (Tb.top 31):=by
     dsimp only [L2.KOf]
     refine' L2.a0E KX G ?a ?l ?c ?k
     (case a=>k_is);(case l=>k_is);(case c=>k_is);(case k=>k_is)
   have f_races_of:L2.Fn0 (L2.KOf KX) mg "races_of" (Tb.top 1):=by
     dsimp only [L2.KOf]
     refine' L2.a0E KX G ?a ?l ?c ?k
     (case a=>k_is);(case l=>k_is);(case c=>k_is);(case k=>k_is)
   have f_boats_of:L2.Fn0 (L2.KOf KX) mg "boats_of" (Tb.top 5):=by
     dsimp only [L2.KOf]
     refine' L2.a0E KX G ?a ?l ?c ?k
     (case a=>k_is);(case l=>k_is);(case c=>k_is);(case k=>k_is)
   have f_boat_reason:L2.Fn0 (L2.KOf KX) mg "boat_reason" (Tb.top 12):=by
     dsimp only [L2.KOf]
     refine' L2.a0E KX G ?a ?l ?c ?k
     (case a=>k_is);(case l=>k_is);(case c=>k_is);(case k=>k_is)
   have f_touches_of:L2.Fn0 (L2.KOf KX) mg "touches_of" (Tb.top 6):=by
     dsimp only [L2.KOf]
     refine' L2.a0E KX G ?a ?l ?c ?k
     (case a=>k_is);(case l=>k_is);(case c=>k_is);(case k=>k_is)
   have f_is_wrong:L2.Fn0 (L2.KOf KX) mg "is_wrong" (Tb.top 8):=by
     dsimp only [L2.KOf]
     refine' L2.a0E KX G ?a ?l ?c ?k
     (case a=>k_is);(case l=>k_is);(case c=>k_is);(case k=>k_is)
   have f_between:L2.Fn0 (L2.KOf KX) mg "between" (Tb.top 7):=by
     dsimp only [L2.KOf]
     refine' L2.a0E KX G ?a ?l ?c ?k
     (case a=>k_is);(case l=>k_is);(case c=>k_is);(case k=>k_is)
   have f_is_far:L2.Fn0 (L2.KOf KX) mg "is_far" (Tb.top 9):=by
     dsimp only [L2.KOf]
     refine' L2.a0E KX G ?a ?l ?c ?k
     (case a=>k_is);(case l=>k_is);(case c=>k_is);(case k=>k_is)
   have f_touch_reason:L2.Fn0 (L2.KOf KX) mg "touch_reason" (Tb.top 13):=by
     dsimp only [L2.KOf]
     refine' L2.a0E KX G ?a ?l ?c ?k
     (case a=>k_is);(case l=>k_is);(case c=>k_is);(case k=>k_is)
   have f_is_cross:L2.Fn0 (L2.KOf KX) mg "is_cross" (Tb.top 10):=by
     dsimp only [L2.KOf]
     refine' L2.a0E KX G ?a ?l ?c ?k
     (case a=>k_is);(case l=>k_is);(case c=>k_is);(case k=>k_is)
   have f_cross_reason:L2.Fn0 (L2.KOf KX) mg "cross_reason" (Tb.top 14):=by
     dsimp only [L2.KOf]
     refine' L2.a0E KX G ?a ?l ?c ?k
     (case a=>k_is);(case l=>k_is);(case c=>k_is);(case k=>k_is)
   have f_reason_of:L2.Fn0 (L2.KOf KX) mg "reason_of" (Tb.top 15):=by
     dsimp only [L2.KOf]
     refine' L2.a0E KX G ?a ?l ?c ?k
     (case a=>k_is);(case l=>k_is);(case c=>k_is);(case k=>k_is)
   have f_span:L2.Fn0 (L2.KOf KX) mg "span" (Tb.top 2):=by
     dsimp only [L2.KOf]
     refine' L2.a0E KX G ?a ?l ?c ?k
     (case a=>k_is);(case l=>k_is);(case c=>k_is);(case k=>k_is)
   have f_put_on:L2.Fn0 (L2.KOf KX) mg "put_on" (Tb.top 19):=by
     dsimp only [L2.KOf]
     refine' L2.a0E KX G ?a ?l ?c ?k
     (case a=>k_is);(case l=>k_is);(case c=>k_is);(case k=>k_is)
   have f_exchanged:L2.Fn0 (L2.KOf KX) mg "exchanged" (Tb.top 3):=by
     dsimp only [L2.KOf]
     refine' L2.a0E KX G ?a ?l ?c ?k
     (case a=>k_is);(case l=>k_is);(case c=>k_is);(case k=>k_is)
   have f_row_behind:L2.Fn0 (L2.KOf KX) mg "row_behind" (Tb.top 11):=by
     dsimp only [L2.KOf]
     refine' L2.a0E KX G ?a ?l ?c ?k
     (case a=>k_is);(case l=>k_is);(case c=>k_is);(case k=>k_is)
   have f_start_on:L2.Fn0 (L2.KOf KX) mg "start_on" (Tb.top 18):=by
     dsimp only [L2.KOf]
     refine' L2.a0E KX G ?a ?l ?c ?k
     (case a=>k_is);(case l=>k_is);(case c=>k_is);(case k=>k_is)
   have f_raced:L2.Fn0 (L2.KOf KX) mg "raced" (Tb.top 20):=by
     dsimp only [L2.KOf]
     refine' L2.a0E KX G ?a ?l ?c ?k
     (case a=>k_is);(case l=>k_is);(case c=>k_is);(case k=>k_is)
   have f_day_behind:L2.Fn0 (L2.KOf KX) mg "day_behind" (Tb.top 21):=by
     dsimp only [L2.KOf]
     refine' L2.a0E KX G ?a ?l ?c ?k
     (case a=>k_is);(case l=>k_is);(case c=>k_is);(case k=>k_is)
   have f_law:L2.Fn0 (L2.KOf KX) mg "law" (Tb.top 33):=by
     dsimp only [L2.KOf]
     refine' L2.a0E KX G ?a ?l ?c ?k
     (case a=>k_is);(case l=>k_is);(case c=>k_is);(case k=>k_is)
   have z:∀x,PySem.W.nsIn (L2.KOf KX) mainGlobals x=some none→mg x=none:=fun x e=>PySem.W.mg_none_of KX G e;have m_int:mg "int"=none:=z _ (by dsimp only [L2.KOf];k_is);have m_len:mg "len"=none:=z _ (by dsimp only [L2.KOf];k_is);have m_list:mg "list"=none:=z _ (by dsimp only [L2.KOf];k_is);have m_min:mg "min"=none:=z _ (by dsimp only [L2.KOf];k_is);have m_range:mg "range"=none:=z _ (by dsimp only [L2.KOf];k_is);have a2i:mg "repr"=none:=z _ (by dsimp only [L2.KOf];k_is);have m_reversed:mg "reversed"=none:=z _ (by dsimp only [L2.KOf];k_is);have m_set:mg "set"=none:=z _ (by dsimp only [L2.KOf];k_is);have m_sorted:mg "sorted"=none:=z _ (by dsimp only [L2.KOf];k_is);have m_tuple:mg "tuple"=none:=z _ (by dsimp only [L2.KOf];k_is);have m_zip:mg "zip"=none:=z _ (by dsimp only [L2.KOf];k_is);refine⟨Tb.top 33,"order_of",Tb.top 16,f_law,?zc,?zp,fun _ _ _ _ _ _ s u=>.of_eq rfl,fun cd f_order_of base kb nb hC hB=>?_⟩
   case zc=>
     refine' ⟨_,L2.b4e KX G ?a ?l ?c ?k,?h⟩
     (case a=>k_is);(case l=>k_is);(case c=>k_is);(case k=>k_is);(case h=>kernel_rfl)
   case zp=>kernel_rfl
   have g__law_begin:=Tb.b1K (P:=PySem.Challenge.rw_touchboats_k19_days_walked.prog) (w:=w) (base:=base) f__law_begin m_len m_list;have g__law_next:=Tb.b1J (Pt:=L2.ptOf hC) (lpos:=Tb.lamP) (qual:=Tb.lamQ) (P:=PySem.Challenge.rw_touchboats_k19_days_walked.prog) (w:=w) (base:=base) f__law_next m_len m_int;have g__law_names:=Tb.a5U (Pt:=L2.ptOf hC) (P:=PySem.Challenge.rw_touchboats_k19_days_walked.prog) (w:=w) (base:=base) f__law_names g__law_next m_range m_tuple;have g__law_meet:=Tb.a6Q (Pt:=L2.ptOf hC) (P:=PySem.Challenge.rw_touchboats_k19_days_walked.prog) (w:=w) (base:=base) f__law_meet g__law_next g__law_names m_min;have g__law_span:=Tb.a6P (Pt:=L2.ptOf hC) (P:=PySem.Challenge.rw_touchboats_k19_days_walked.prog) (w:=w) (base:=base) f__law_span;have g__law_sheet:=Tb.a5S (Pt:=L2.ptOf hC) (P:=PySem.Challenge.rw_touchboats_k19_days_walked.prog) (w:=w) (base:=base) f__law_sheet m_sorted m_tuple m_zip;have g__law_races:=Tb.a5T (Pt:=L2.ptOf hC) (P:=PySem.Challenge.rw_touchboats_k19_days_walked.prog) (w:=w) (base:=base) f__law_races;have g__law_word:=Tb.a6O (Pt:=L2.ptOf hC) (P:=PySem.Challenge.rw_touchboats_k19_days_walked.prog) (w:=w) (base:=base) f__law_word g__law_next m_range;have g__law_after:=Tb.a5V (Pt:=L2.ptOf hC) (P:=PySem.Challenge.rw_touchboats_k19_days_walked.prog) (w:=w) (base:=base) f__law_after m_list m_tuple
   have g__law_day:=Tb.a8v (Pt:=L2.ptOf hC) (P:=PySem.Challenge.rw_touchboats_k19_days_walked.prog) (w:=w) (base:=base) f__law_day g__law_races g__law_span g__law_word g__law_sheet g__law_after m_len m_range m_reversed m_tuple;have g_races_of:=Tb.a8q (Pt:=L2.ptOf hC) (P:=PySem.Challenge.rw_touchboats_k19_days_walked.prog) (w:=w) (base:=base) f_races_of;have g_boats_of:=Tb.a8u (Pt:=L2.ptOf hC) (P:=PySem.Challenge.rw_touchboats_k19_days_walked.prog) (w:=w) (base:=base) f_boats_of;have g_boat_reason:=Tb.a5n (Pt:=L2.ptOf hC) (P:=PySem.Challenge.rw_touchboats_k19_days_walked.prog) (w:=w) (base:=base) f_boat_reason g_boats_of;have g_touches_of:=Tb.a5P (Pt:=L2.ptOf hC) (P:=PySem.Challenge.rw_touchboats_k19_days_walked.prog) (w:=w) (base:=base) f_touches_of;have g_is_wrong:=Tb.a8s (Pt:=L2.ptOf hC) (P:=PySem.Challenge.rw_touchboats_k19_days_walked.prog) (w:=w) (base:=base) f_is_wrong;have g_between:=Tb.b0f (Pt:=L2.ptOf hC) (P:=PySem.Challenge.rw_touchboats_k19_days_walked.prog) (w:=w) (base:=base) f_between m_sorted;have g_is_far:=Tb.b1V (Pt:=L2.ptOf hC) (P:=PySem.Challenge.rw_touchboats_k19_days_walked.prog) (w:=w) (base:=base) f_is_far g_between m_len;have g_touch_reason:=Tb.a4y (Pt:=L2.ptOf hC) (P:=PySem.Challenge.rw_touchboats_k19_days_walked.prog) (w:=w) (base:=base) f_touch_reason g_is_wrong g_is_far g_boats_of g_between
   have g_is_cross:=Tb.a8t (Pt:=L2.ptOf hC) (P:=PySem.Challenge.rw_touchboats_k19_days_walked.prog) (w:=w) (base:=base) f_is_cross g_boats_of g_between m_len m_set;have g_cross_reason:=Tb.a4z (Pt:=L2.ptOf hC) (P:=PySem.Challenge.rw_touchboats_k19_days_walked.prog) (w:=w) (base:=base) f_cross_reason g_is_cross;have g_reason_of:=Tb.a6M (Pt:=L2.ptOf hC) (P:=PySem.Challenge.rw_touchboats_k19_days_walked.prog) (w:=w) (base:=base) f_reason_of g_boat_reason g_touches_of g_cross_reason g_touch_reason;have g_order_of:=Tb.a8r (Pt:=L2.ptOf hC) (P:=PySem.Challenge.rw_touchboats_k19_days_walked.prog) (w:=w) (base:=base) f_order_of hC hB g_reason_of g_touches_of g_between m_len m_sorted m_tuple;have g_span:=Tb.k_span (Pt:=L2.ptOf hC) (P:=PySem.Challenge.rw_touchboats_k19_days_walked.prog) (w:=w) (base:=base) f_span m_min;have g_put_on:=Tb.b1U (Pt:=L2.ptOf hC) (P:=PySem.Challenge.rw_touchboats_k19_days_walked.prog) (w:=w) (base:=base) f_put_on g_span m_len;have g_exchanged:=Tb.a6N (Pt:=L2.ptOf hC) (P:=PySem.Challenge.rw_touchboats_k19_days_walked.prog) (w:=w) (base:=base) f_exchanged m_list m_tuple;have g_row_behind:=Tb.a5Q (Pt:=L2.ptOf hC) (P:=PySem.Challenge.rw_touchboats_k19_days_walked.prog) (w:=w) (base:=base) f_row_behind g_touches_of g_exchanged;have g_start_on:=Tb.a8p (Pt:=L2.ptOf hC) (P:=PySem.Challenge.rw_touchboats_k19_days_walked.prog) (w:=w) (base:=base) f_start_on g_span m_len
   have g_raced:=Tb.b4a (Pt:=L2.ptOf hC) (P:=PySem.Challenge.rw_touchboats_k19_days_walked.prog) (w:=w) (base:=base) f_raced g_start_on g_row_behind g_put_on;have g_day_behind:=Tb.a5R (Pt:=L2.ptOf hC) (P:=PySem.Challenge.rw_touchboats_k19_days_walked.prog) (w:=w) (base:=base) f_day_behind g_races_of g_start_on g_order_of g_raced m_len m_range m_reversed;exact Tb.k_law (Pt:=L2.ptOf hC) (P:=PySem.Challenge.rw_touchboats_k19_days_walked.prog) (w:=w) (base:=base) f_law g__law_begin g__law_meet g__law_day g_day_behind m_range a2i (fun ns hl=>Tb.m_law ns hl)
end
