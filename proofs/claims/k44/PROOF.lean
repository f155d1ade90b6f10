import PyProof.Rows.All
import Wide.All
import OpenK.AllK
import Wide.FinOn
import PyProof.EqAt
import PyProof.EqKinds
import PyProof.TupleCall
import PyProof.NeKinds
import PyProof.EnumMake
import PyProof.ConsumeWalk
import KE.LcSums
import PyProof.ReprLen
import PyProof.StrLawsRepr
import PyProof.Rows.StrNews2
import PyProof.Rows.SetFrom
import PyProof.WalksMore
import PyProof.StrLawsChain
import PyProof.StrLawsTight
import PyProof.StrLawsIdx
import PyProof.ZipIter
import PyProof.Draws
import PyProof.Rows.FactsT2
import PyProof.ListStr
import PyProof.Rows.StrPartPair
import KE.KSortTup
import KE.KDictSum
import KE.KRevIter
import PyProof.DictItems
import KE.KPairComp
import PyProof.AutoSeq1
import Lean
import PySem.Challenge.RW_touchboats_k44_apart_and_rounds
set_option Elab.async false
set_option linter.all false
set_option maxRecDepth 100000
section
namespace L2
open PySem PySem.Spec PyProof.Rows
abbrev Key:=Sum Int Str
def a5c:Key→Value→Bool
 | .inl k,v=>Value.isInt k v
 | .inr x,v=>Value.isStrOf x v
def keyH (w:World):Key→Int
 | .inl k=>hashInt k
 | .inr x=>hashStr w x
theorem a0q:∀{k:Key} {v:Value},a5c k v=true→(∃i t,k=Sum.inl i∧v=Value.int i t)∨(∃x t,k=Sum.inr x∧v=Value.str x t)
 | .inl i, v, h => by
   obtain⟨t,e⟩:=Value.isInt_shape (k:=i) (v:=v) h;exact .inl ⟨i,t,rfl,e⟩
 | .inr x, v, h => by
   obtain⟨t,e⟩:=Value.isStrOf_shape (x:=x) (v:=v) h;exact .inr ⟨x,t,rfl,e⟩
theorem a6p (i:Int)(t:Tok):a5c (.inl i) (.int i t)=true:=by simp [a5c,Value.isInt]
theorem a6o (x:Str)(t:Tok):a5c (.inr x) (.str x t)=true:=by simp [a5c,Value.isStrOf]
theorem key_ll (a b:Int):decide ((Sum.inl a:Key)=Sum.inl b)=(a == b):=by
 by_cases e:a=b
 · subst e;simp
 · have h:¬(Sum.inl a:Key)=Sum.inl b:=fun q=>e (Sum.inl.inj q);rw [decide_eq_false h];exact(beq_eq_false_iff_ne.mpr e).symm
theorem key_rr (a b:Str):decide ((Sum.inr a:Key)=Sum.inr b)=decide (a=b):=by
 by_cases e:a=b
 · subst e;simp
 · have h:¬(Sum.inr a:Key)=Sum.inr b:=fun q=>e (Sum.inr.inj q);rw [decide_eq_false h,decide_eq_false e]
theorem key_lr (a:Int)(b:Str):decide ((Sum.inl a:Key)=Sum.inr b)=false:=decide_eq_false (fun q=>nomatch q)
theorem key_rl (a:Str)(b:Int):decide ((Sum.inr a:Key)=Sum.inl b)=false:=decide_eq_false (fun q=>nomatch q)
def a0W (prog:Program)(w:World):PySem.KeyKind prog w Key where
 is:=a5c
 hash:=keyH w
 inj:=fun v a b ha hb=>by
   rcases a0q ha with⟨i,t,rfl,rfl⟩ | ⟨x,t,rfl,rfl⟩
   · rcases a0q hb with⟨j,u,rfl,e⟩ | ⟨y,u,rfl,e⟩
     · injection e with e1 _;rw [e1]
     · exact nomatch e
   · rcases a0q hb with⟨j,u,rfl,e⟩ | ⟨y,u,rfl,e⟩
     · exact nomatch e
     · injection e with e1 _;rw [e1]
 byValue:=fun k v h=>by
   rcases a0q h with⟨i,t,rfl,rfl⟩ | ⟨x,t,rfl,rfl⟩ <;> rfl
 pyHash:=fun hv h=>by
   rcases a0q hv with⟨i,t,rfl,rfl⟩ | ⟨x,t,rfl,rfl⟩
   · exact wpAny_pyHash_int h
   · exact wpAny_pyHash_str h
 eqBool:=fun hu hv h=>by
   rcases a0q hu with⟨i,t,rfl,rfl⟩ | ⟨x,t,rfl,rfl⟩
   · rcases a0q hv with⟨j,u,rfl,rfl⟩ | ⟨y,u,rfl,rfl⟩
     · rw [key_ll] at h;exact wpAny_eqBool_int h
     · rw [key_lr] at h;exact SeqAt.EqAt.int_str i t y u _ _ _ _ h
   · rcases a0q hv with⟨j,u,rfl,rfl⟩ | ⟨y,u,rfl,rfl⟩
     · rw [key_rl] at h;exact SeqAt.EqAt.str_int x t j u _ _ _ _ h
     · rw [key_rr] at h;exact wpAny_eqBool_str h
 «strs»:=fun k x t v h=>by
   rcases a0q h with⟨i,u,rfl,e⟩ | ⟨y,u,rfl,e⟩
   · exact nomatch e
   · injection e with e1 _;subst e1;cases v <;> rfl
theorem a3X (prog:Program)(w:World)(i:Int)(t:Tok):(a0W prog w).is (.inl i) (.int i t)=true:=a6p i t
theorem a3W (prog:Program)(w:World)(x:Str)(t:Tok):(a0W prog w).is (.inr x) (.str x t)=true:=a6o x t
end L2
namespace L2
open PySem PySem.Spec PyProof.Rows
inductive V where
 | non | bl (b:Bool) | int (i:Int) | str (x:Str) | byt (b:Array UInt8) | flt (b:UInt64) | ref (a:Addr) | ty (n:String)
 deriving DecidableEq
def RelV:V→Value→Prop
 | .non,u=>u=Value.none
 | .bl b,u=>u=Value.bool b
 | .int i,u=>∃t,u=Value.int i t
 | .str x,u=>∃t,u=Value.str x t
 | .byt b,u=>∃t,u=Value.bytes b t
 | .flt b,u=>∃t,u=Value.float b t
 | .ref a,u=>u=Value.ref a
 | .ty n,u=>u=Value.type n
abbrev Vals:List V→List Value→Prop:=Paired RelV
theorem Vals.length {xs:List V}{us:List Value}(r:Vals xs us):xs.length=us.length:=Paired.length r
theorem Vals.get:∀{xs:List V} {us:List Value} {i:Nat} {x:V},Vals xs us→xs[i]?=some x→∃u,us[i]?=some u∧RelV x u
 | _,_,_,_,.nil,e=>by simp at e
 | _,_,0,_,.cons r _,e=>by simp at e;subst e;exact⟨_,rfl,r⟩
 | _, _, i + 1, x, .cons _ t, e => by
   obtain⟨u,h1,h2⟩:=Vals.get (i:=i) (x:=x) t (by simpa using e);exact⟨u,by simpa using h1,h2⟩
theorem Vals.set {x:V}{u:Value}(r:RelV x u):∀{xs:List V} {us:List Value} (i:Nat),Vals xs us→Vals (xs.set i x) (us.set i u)
 | _,_,_,.nil=>.nil
 | _,_,0,.cons _ t=>.cons r t
 | _,_,i + 1,.cons q t=>.cons q (Vals.set r i t)
theorem Vals.append:∀{xs ys:List V} {us ws:List Value},Vals xs us→Vals ys ws→Vals (xs++ys) (us++ws)
 | _,_,_,_,.nil,s=>s
 | _,_,_,_,.cons r t,s=>.cons r (Vals.append t s)
theorem Vals.take:∀{xs:List V} {us:List Value} (n:Nat),Vals xs us→Vals (xs.take n) (us.take n)
 | _,_,0,_=>.nil
 | _,_,_ + 1,.nil=>.nil
 | _,_,n + 1,.cons r t=>.cons r (Vals.take n t)
theorem Vals.drop:∀{xs:List V} {us:List Value} (n:Nat),Vals xs us→Vals (xs.drop n) (us.drop n)
 | _,_,0,r=>r
 | _,_,_ + 1,.nil=>.nil
 | _,_,n + 1,.cons _ t=>Vals.drop n t
def RelO:Option V→Option Value→Prop
 | some v,some u=>RelV v u
 | none,none=>True
 | _,_=>False
def KV {κ:Type}:List (κ×V)→List (κ×Value)→Prop:=Paired fun(p:κ×V) (q:κ×Value)=>p.1=q.1∧RelV p.2 q.2
def kV:Key→V
 | .inl i=>.int i
 | .inr x=>.str x
inductive HO where
 /-- a list -/
 | lst (xs:List V)
 /-- a tuple (never changes) -/
 | tup (xs:List V)
 /-- a dict whose keys are ints and a2t; one whose keys are tuples of ints and a2t (the empty one is both) -/
 | dK (kvs:List (Key×V)) | dT (kvs:List (List Key×V))
 /-- a set of ints: its members, its size -/
 | set (S:Key→Bool) (n:Nat)
 /-- an instance of the class at C, its dict at dx, its attributes -/
 | ins (C dx:Addr) (fs:List (Str×V))
 /-- the dict of the instance at x -/
 | own (x:Addr)
 /-- the dict of an exception -/
 | xd (fs:List (Str×V))
 /-- a bound method, f of x -/
 | met (f x:Addr)
 /-- a range object lo, lo + 1, .. below hi -/
 | rng (lo hi:Int)
 /-- a thing that is known to the object (the script; a dict while a loop walks it): read, never written while it is so -/
 | frz (o:Obj) (u:HO)
 /-- a code object's table -/
 | tbl (ps:Array Value)
 /-- any other thing, by what is true of its one object (a def of one's own: SetO a S n := HO.ext fun h => ..) -/
 | ext (φ:Heap→Prop)
abbrev Hp:=Addr→Option HO
def upd (H:Hp)(a:Addr)(o:HO):Hp:=fun b=>if b=a then some o else H b
theorem a0i {H:Hp}{a:Addr}{o:HO}:upd H a o a=some o:=by unfold upd;rw [if_pos rfl]
theorem a0g {H:Hp}{a b:Addr}{o:HO}(h:b≠a):upd H a o b=H b:=by unfold upd;rw [if_neg h]
theorem a0s {H:Hp}{a b:Addr}{o:HO}(h:H a=some o)(h':H b=none):a≠b:=by
 intro e;subst e;rw [h] at h';cases h'
def a1l (h:Heap)(a:Addr)(items:Array Value):Prop:=∃o,h.get? a=some o∧(o.cls,o.dict)=(Value.type "tuple",none)∧∃n,o.data=.seq items n
theorem a1l.is {h:Heap}{a:Addr}{items:Array Value}(x:a1l h a items):IsTup h a items:=let ⟨o,e,c,r⟩:=x;⟨o,e,(Prod.mk.inj c).1,r⟩
theorem a1l.lt {h:Heap}{a:Addr}{items:Array Value}(x:a1l h a items):a < h.objs.size:=let ⟨_,e,_⟩:=x;Heap.lt_size e
theorem a1l.new (h:Heap)(items:Array Value):a1l (h.push { cls:=.type "tuple",data:=.seq items }) h.objs.size items:=⟨_,Heap.get?_push_size _ rfl,rfl,_,rfl⟩
section
variable (P:Program)(w:World)
def a1k (H:Hp)(h:Heap)(a:Addr):HO→Prop
 | .lst xs=>xs.length≤sizeLine∧∃(its:List Value) (n:Nat),Vals xs its∧h.get? a=some { cls:=.type "list",data:=.seq its.toArray n }
 | .tup xs=>xs.length≤sizeLine∧∃its:List Value,Vals xs its∧a1l h a its.toArray
 | .dK kvs=>kvs.length≤sizeLine∧(a == sysModules)=false∧∃vs,KV kvs vs∧h.DictOf (a0W P w) a vs
 | .dT kvs=>kvs.length≤sizeLine∧(a == sysModules)=false∧∃xs:List (List Key×Addr×Value),
     Paired (fun(p:List Key×V) (q:List Key×Addr×Value)=>p.1=q.1∧H q.2.1=some (.tup (p.1.map kV))∧RelV p.2 q.2.2) kvs xs∧
     ∃o es ep,h.get? a=some o∧o.ExactDict∧o.data=.dict es ep∧es.toList=xs.map (entryOfKey (tupleKind (a0W P w)))∧(xs.map (·.1)).Nodup
 | .set S n=>h.SetOf (a0W P w) a S n
 | .ins C dx fs=>H dx=some (.own a)∧fs.length≤1000∧dx≠a∧h.get? a=some (PySem.W.instObj C dx)∧
     ∃mA,h.Ns1 dx mA∧(∀f,RelO (fs.lookup f) (mA f))∧PySem.Within mA (fs.map (·.1))
 | .own _=>∃o,h.get? a=some o
 | .xd fs=>∃mA,h.Ns1 a mA∧∀f,RelO (fs.lookup f) (mA f)
 | .rng lo hi=>∃t u v,h.get? a=some { cls:=.type "range",data:=.fields #[.int lo t,.int hi u,.int 1 v] }
 | .frz o u=>h.get? a=some o∧a1k H h a u
 | .tbl ps=>h.get? a=some { cls:=.none,data:=.fields ps }
 | .met f x=>h.get? a=some (PySem.W.methodObj (.ref f) (.ref x))
 | .ext φ=>φ h∧(∃o,h.get? a=some o)∧∀h1 h2:Heap,φ h1→(∀o,h1.get? a=some o→h2.get? a=some o)→φ h2
def HOk (H:Hp)(h:Heap):Prop:=∀a o,H a=some o→a1k P w H h a o
end
section
variable {P:Program}{w:World}{H H':Hp}{h h':Heap}{a:Addr}{o:HO}
theorem a1k.lt (x:a1k P w H h a o):a < h.objs.size:=by
 cases o with
 | lst xs=>obtain⟨_,_,_,_,e⟩:=x;exact Heap.lt_size e
 | tup xs=>obtain⟨_,_,_,p⟩:=x;exact p.lt
 | dK kvs=>obtain⟨_,_,_,_,o,_,_,e,_⟩:=x;exact Heap.lt_size e
 | dT kvs=>obtain⟨_,_,_,_,o,_,_,e,_⟩:=x;exact Heap.lt_size e
 | set S n=>obtain⟨o,_,_,_,e,_⟩:=x;exact Heap.lt_size e
 | ins C dx fs=>obtain⟨_,_,_,e,_⟩:=x;exact Heap.lt_size e
 | own y=>obtain⟨_,e⟩:=x;exact Heap.lt_size e
 | xd fs=>obtain⟨_,⟨_,_,_,e,_⟩,_⟩:=x;exact Heap.lt_size e
 | rng lo hi=>obtain⟨_,_,_,e⟩:=x;exact Heap.lt_size e
 | frz ob u=>obtain⟨e,_⟩:=x;exact Heap.lt_size e
 | tbl ps=>exact Heap.lt_size (show h.get? a=some _ from x)
 | met f y=>exact Heap.lt_size (show h.get? a=some _ from x)
 | ext φ=>obtain⟨_,⟨_,e⟩,_⟩:=x;exact Heap.lt_size e
theorem Paired.mapP {α β:Type}{F G:α→β→Prop}:∀{l₁:List α} {l₂:List β},Paired F l₁ l₂→(∀a b,F a b→G a b)→Paired G l₁ l₂
 | _,_,.nil,_=>.nil
 | _,_,.cons r t,f=>.cons (f _ _ r) (Paired.mapP t f)
theorem a1k.stay (x:a1k P w H h a o)(k:∀b u,(b=a∨H b=some (.own a))→h.get? b=some u→h'.get? b=some u)
   (ho:∀b,H b=some (.own a)→H' b=some (.own a)) (ht:∀b xs,H b=some (.tup xs)→H' b=some (.tup xs)):a1k P w H' h' a o:=by
 induction o with
 | lst xs=>obtain⟨z,its,n,r,e⟩:=x;exact⟨z,its,n,r,k _ _ (.inl rfl) e⟩
 | tup xs=>obtain⟨z,its,r,ob,e,c⟩:=x;exact⟨z,its,r,ob,k _ _ (.inl rfl) e,c⟩
 | dK kvs=>obtain⟨z,y,vs,r,ob,es,ep,e,c⟩:=x;exact⟨z,y,vs,r,ob,es,ep,k _ _ (.inl rfl) e,c⟩
 | dT kvs =>
   obtain⟨z,y,xs,r,ob,es,ep,e,c⟩:=x;exact⟨z,y,xs,Paired.mapP r fun p q z=>⟨z.1,ht _ _ z.2.1,z.2.2⟩,ob,es,ep,k _ _ (.inl rfl) e,c⟩
 | set S n=>obtain⟨ob,es,ep,t,e,c⟩:=x;exact⟨ob,es,ep,t,k _ _ (.inl rfl) e,c⟩
 | ins C dx fs =>
   obtain⟨d,z,ne,e,mA,⟨od,es,ep,e2,c⟩,r⟩:=x;exact⟨ho _ d,z,ne,k _ _ (.inl rfl) e,mA,⟨od,es,ep,k _ _ (.inr d) e2,c⟩,r⟩
 | own y=>obtain⟨ob,e⟩:=x;exact⟨ob,k _ _ (.inl rfl) e⟩
 | xd fs=>obtain⟨mA,⟨od,es,ep,e,c⟩,r⟩:=x;exact⟨mA,⟨od,es,ep,k _ _ (.inl rfl) e,c⟩,r⟩
 | rng lo hi=>obtain⟨t,u,v,e⟩:=x;exact⟨t,u,v,k _ _ (.inl rfl) e⟩
 | frz ob u ih=>obtain⟨e,q⟩:=x;exact⟨k _ _ (.inl rfl) e,ih q⟩
 | tbl ps =>
   have e:h.get? a=some { cls:=.none,data:=.fields ps }:=x;show h'.get? a=some { cls:=.none,data:=.fields ps };exact k a _ (.inl rfl) e
 | met f y =>
   have e:h.get? a=some (PySem.W.methodObj (.ref f) (.ref y)):=x;show h'.get? a=some (PySem.W.methodObj (.ref f) (.ref y));exact k a _ (.inl rfl) e
 | ext φ=>obtain⟨p,⟨o,e⟩,st⟩:=x;exact⟨st _ _ p fun o q=>k _ _ (.inl rfl) q,⟨o,k _ _ (.inl rfl) e⟩,st⟩
theorem HOk.lt (x:HOk P w H h)(e:H a=some o):a < h.objs.size:=(x a o e).lt
theorem HOk.fresh (x:HOk P w H h)(e:h.objs.size≤a):H a=none:=by
 cases q:H a with
 | none=>rfl
 | some u=>exact absurd (Nat.lt_of_lt_of_le (x.lt q) e) (Nat.lt_irrefl _)
theorem HOk.kept (x:HOk P w H h)(k:∀b u,h.get? b=some u→h'.get? b=some u):HOk P w H h':=fun a o e=>
 (x a o e).stay (fun b u _ q=>k b u q) (fun _ q=>q) fun _ _ q=>q
theorem HOk.laid (x:HOk P w H h)(k:∀b u,h.get? b=some u→h'.get? b=some u)(hp:h.objs.size≤a)(new:a1k P w (upd H a o) h' a o):HOk P w (upd H a o) h':=fun b u e=>by
 have hn:=x.fresh hp
 by_cases hb:b=a
 · subst hb;rw [a0i] at e;cases e;exact new
 · rw [a0g hb] at e;exact(x b u e).stay (fun c v _ q=>k c v q) (fun c q=>by rw [a0g (a0s q hn)];exact q) fun c xs q=>by rw [a0g (a0s q hn)];exact q
end
def Rd (H:Hp)(a:Addr)(u:HO):Prop:=H a=some u∨∃o,H a=some (.frz o u)
theorem Rd.ok {P:Program}{w:World}{H:Hp}{h:Heap}{a:Addr}{u:HO}(r:Rd H a u)(x:HOk P w H h):a1k P w H h a u:=by
 rcases r with r | ⟨o,r⟩
 · exact x a u r
 · obtain⟨_,q⟩:=x a _ r;exact q
def Mut:Option HO→Prop
 | some (.lst _)=>True
 | some (.dK _)=>True
 | some (.dT _)=>True
 | some (.set _ _)=>True
 | some (.ins _ _ _)=>True
 | some (.ext _)=>True
 | _=>False
section
variable {P:Program}{w:World}{H:Hp}{h h':Heap}{x e:Addr}{o':HO}
theorem HOk.write (ok:HOk P w H h)(mu:Mut (H x))(he:e=x∨H e=some (.own x))(k:∀b u,b≠e→h.get? b=some u→h'.get? b=some u)(heo:∃u,h'.get? e=some u)
   (new:a1k P w (upd H x o') h' x o'):HOk P w (upd H x o') h':=fun b u q=>by
 have nown:∀c y,H c=some (.own y)→c≠x:=fun c y r z=>by subst z;rw [r] at mu;exact mu
 have ntup:∀c xs,H c=some (.tup xs)→c≠x:=fun c xs r z=>by subst z;rw [r] at mu;exact mu
 by_cases hb:b=x
 · subst hb;rw [a0i] at q;cases q;exact new
 · rw [a0g hb] at q
   by_cases hbe:b=e
   · have q':H b=some (.own x):=by
       rcases he with z | z
       · exact absurd (hbe.trans z) hb
       · rw [hbe];exact z
     rw [q] at q';cases q';obtain⟨v,hv⟩:=heo;exact⟨v,by rw [hbe];exact hv⟩
   · refine(ok b u q).stay (fun c v hc r=>k c v ?_ r) (fun c r=>by rw [a0g (nown c b r)];exact r) fun c xs r=>by rw [a0g (ntup c xs r)];exact r
     rcases hc with rfl | hc
     · exact hbe
     · rintro rfl;rcases he with z | z
       · exact nown c b hc z
       · rw [hc] at z;cases z;exact hb rfl
end
def NS (H:Hp):Prop:=H sysModules=none∨∃o u,H sysModules=some (.frz o u)
structure Un (fs ex:List Addr)(H H':Hp)(h h':Heap):Prop where
 keep:∀b o,h.get? b=some o→H b=none→b∉fs→b∉ex→h'.get? b=some o
 slot:∀b o,h.get? b=some o→H b=none→b∈fs→b∉ex→∃sl,h'.get? b=some { o with slots:=sl }
 free:∀b o,h.get? b=some o→H b=none→b∉ex→H' b=none
 there:∀b o,h.get? b=some o→b∉ex→∃o',h'.get? b=some o'
 tups:∀b xs,H b=some (.tup xs)→H' b=some (.tup xs)
 frzs:∀b o u,H b=some (.frz o u)→H' b=some (.frz o u)
 tbls:∀b ps,H b=some (.tbl ps)→∃more,H' b=some (.tbl (ps++more))
 sys:NS H→NS H'
section
variable {fs fs' ex ex':List Addr}{H H1 H2:Hp}{h h1 h2 h':Heap}{a x e:Addr}{o:HO}
theorem Un.any (u:Un fs ex H H1 h h1){b:Addr}{ob:Obj}(q:h.get? b=some ob)(n:H b=none)(hx:b∉ex):∃sl,h1.get? b=some { ob with slots:=sl }:=by
 by_cases hb:b∈fs
 · exact u.slot b ob q n hb hx
 · exact⟨ob.slots,u.keep b ob q n hb hx⟩
theorem Un.kept (k:∀b u,h.get? b=some u→h'.get? b=some u):Un fs ex H H h h':=
 ⟨fun b ob q _ _ _=>k b ob q,fun b ob q _ _ _=>⟨ob.slots,k b ob q⟩,fun _ _ _ n _=>n,fun b ob q _=>⟨ob,k b ob q⟩,fun _ _ q=>q,fun _ _ _ q=>q,fun _ ps q=>⟨#[],by rw [q];simp⟩,fun z=>z⟩
theorem Un.refl:Un fs ex H H h h:=Un.kept fun _ _ q=>q
theorem Un.laid (k:∀b u,h.get? b=some u→h'.get? b=some u)(hp:h.objs.size≤a)(hn:H a=none)(hy:sysModules < h.objs.size):Un fs ex H (upd H a o) h h' where
 keep:=fun b u q _ _ _=>k b u q
 slot:=fun b u q _ _ _=>⟨u.slots,k b u q⟩
 free:=fun b u q n _=>by rw [a0g (Nat.ne_of_lt (Nat.lt_of_lt_of_le (Heap.lt_size q) hp))];exact n
 there:=fun b u q _=>⟨u,k b u q⟩
 tups:=fun b xs q=>by rw [a0g (a0s q hn)];exact q
 frzs:=fun b u xs q=>by rw [a0g (a0s q hn)];exact q
 tbls:=fun b ps q=>⟨#[],by rw [a0g (a0s q hn),q];simp⟩
 sys:=fun z=>by unfold NS;rw [a0g (Nat.ne_of_lt (Nat.lt_of_lt_of_le hy hp))];exact z
theorem Un.write (mu:Mut (H x))(he:e=x∨H e=some (.own x))(k:∀b u,b≠e→h.get? b=some u→h'.get? b=some u)(heo:∃u,h'.get? e=some u):Un fs ex H (upd H x o) h h':=by
 have hx:∀b,H b=none→b≠x:=fun b n z=>by subst z;rw [n] at mu;exact mu
 have hb:∀b,H b=none→b≠e:=fun b n z=>by
   subst z;rcases he with r | r
   · exact hx b n r
   · rw [n] at r;cases r
 have hm:∀b u,H b=some u→¬Mut (some u)→b≠x:=fun b u q nm z=>by subst z;rw [q] at mu;exact nm mu
 refine⟨fun b u q n _ _=>k b u (hb b n) q,fun b u q n _ _=>⟨u.slots,k b u (hb b n) q⟩,fun b u q n _=>by rw [a0g (hx b n)];exact n,fun b u q _=>?_,
   fun b xs q=>by rw [a0g (hm b _ q fun z=>z)];exact q,fun b u xs q=>by rw [a0g (hm b _ q fun z=>z)];exact q,fun b ps q=>⟨#[],by rw [a0g (hm b _ q fun z=>z),q];simp⟩,fun z=>by
     rcases z with z | ⟨ob,u,z⟩
     · exact .inl (by rw [a0g (hx _ z)];exact z)
     · exact .inr ⟨ob,u,by rw [a0g (hm _ _ z fun z=>z)];exact z⟩⟩
 by_cases hbe:b=e
 · subst hbe;exact heo
 · exact⟨u,k b u hbe q⟩
end
def trk (h:Heap)(H:Hp):List Addr:=(List.range h.objs.size).filter fun a=>(H a).isSome
def hidT (h:Heap)(H:Hp):Heap:=PySem.W.hideAll h (trk h H)
theorem a6u (h:Heap)(H:Hp):(hidT h H).objs.size=h.objs.size:=PySem.W.hideAll_size _ _
theorem a7v {h:Heap}{H:Hp}{b:Addr}{o:Obj}(e:h.get? b=some o)(n:H b=none):(hidT h H).get? b=some o:=
 PySem.W.hideAll_get _ e fun hm=>by
   have q:(H b).isSome=true:=(List.mem_filter.mp hm).2;rw [n] at q;simp at q
theorem a8R {h:Heap}{H:Hp}{b:Addr}{o:Obj}(e:(hidT h H).get? b=some o):h.get? b=some o∧H b=none:=by
 have e':h.get? b=some o:=PySem.W.of_hideAll (trk h H) e;refine⟨e',?_⟩;cases q:H b with
 | none=>rfl
 | some x =>
   have hm:b∈trk h H:=List.mem_filter.mpr ⟨List.mem_range.mpr (Heap.lt_size e'),by simp [q]⟩;have z:(hidT h H).get? b=none:=PySem.W.hideAll_none (trk h H) hm;rw [z] at e;cases e
def a9o (g h:Heap)(L:Addr):List (Addr×Obj):=(List.range h.objs.size).filterMap fun a=>if a=L∨(g.get? a).isSome=true then none else(h.get? a).map fun o=>(a,o)
def rest (g h:Heap)(L d:Addr):List (Addr×Obj):=(a9o g h L).filter fun p=>decide (p.1≠d)
end L2
namespace L2
open PySem PySem.Spec PyProof.Rows
structure Mod (K:PySem.W.Frag)(mg:Str→Option Value)(base:Heap):Prop where
 kin:K.In base
 glob:base.Ns mainGlobals mg
 blt:∃mb,base.Ns builtinsNs mb∧∀x:Str,x≠"__name__"→mb x=bootBuiltins x
 nolimit:base.NoLimit
structure Cx where
 prog:Program
 w:World
 K:PySem.W.Frag
 mg:Str→Option Value
 base:Heap
 A:Around
 N:List Str
 s₀:Shared
 H₀:Hp
 env:Env
 outer:List Env
 stack:List Env
 ex:List Addr
 fn:Str→Bool
 calm:Bool
 pn:List (Addr×Obj)
 xe:Value→Shared→Prop
def frs (l:List Env):List Addr:=l.filterMap (·.frame)
abbrev Cx.fs (X:Cx):List Addr:=frs X.outer
def Vis (sc:Scope)(x:Str):Prop:=sc.names.lookup x=some .local∨sc.names.lookup x=some .cell∨sc.names.lookup x=some .free
def Loc (sc:Scope)(x:Str):Prop:=sc.names.lookup x=some .local∨sc.names.lookup x=some .cell
def Look (env:Env)(h:Heap)(m:Str→Option Value)(x:Str)(u:Value):Prop:=
 (env.kindOf x=some .local∧m x=some u)∨((env.kindOf x=some .cell∨env.kindOf x=some .free)∧∃c,env.cells.lookup x=some c∧h.IsCell c (some u))
structure Cx.Ok (X:Cx):Prop where
 mod:Mod X.K X.mg X.base
 kind:X.env.scope.kind=.function
 glob:X.env.globals=mainGlobals
 blt:X.env.builtins=builtinsNs
 above:X.s₀.heap.objs.size≤X.env.locals
 inj:∀x y c,X.env.cells.lookup x=some c→X.env.cells.lookup y=some c→x=y
 has:∀x,(X.env.kindOf x=some .cell∨X.env.kindOf x=some .free)→∃c,X.env.cells.lookup x=some c
 cab:∀x c,X.fn x=true→X.env.cells.lookup x=some c→X.s₀.heap.objs.size≤c
 hd:X.calm=true→X.A.handled=none
 frames:X.A.frames=some X.stack
 stk:X.stack=X.outer∨(X.stack=X.env::X.outer∧X.env.frame=some X.env.locals)
 exf:∀b∈X.ex,b≠X.env.locals∧∀x c,X.env.cells.lookup x=some c→c≠b
 bs:∀b o,X.base.get? b=some o→X.s₀.heap.get? b=some o∧X.H₀ b=none
 bsz:X.base.objs.size≤X.s₀.heap.objs.size
 noex:∀b o,X.base.get? b=some o→b∉X.ex
 exfs:∀b∈X.ex,b∉X.fs
 funs:X.s₀.heap.FunFrames X.base X.outer
 frf:∀b∈X.fs,X.H₀ b=none
 nos:NS X.H₀
structure Inv (X:Cx)(pins:List (Addr×Obj))(σ:List (Option V))(H:Hp)(s:Shared):Prop where
 ok:X.Ok
 os:s.os=X.s₀.os
 bare:AllBare s.gens
 base:Un X.fs X.ex X.H₀ H X.s₀.heap s.heap
 loc:∃m,s.heap.Ns X.env.locals m∧∀(i:Nat) (x:Str) (v:V),X.N[i]?=some x→σ[i]?=some (some v)→Vis X.env.scope x→∃u,RelV v u∧Look X.env s.heap m x u
 cell:∀x c,X.env.cells.lookup x=some c→∃v,s.heap.IsCell c v
 free:H X.env.locals=none
 freeC:∀x c,X.env.cells.lookup x=some c→H c=none
 pin:∀p∈X.pn++pins,s.heap.get? p.1=some p.2∧H p.1=none∧p.1≠X.env.locals∧p.1∉X.fs∧∀v,p.2.data≠.cell v
 hok:HOk X.prog X.w H s.heap
 len:σ.length=X.N.length
section
variable {X:Cx}{pins:List (Addr×Obj)}{σ:List (Option V)}{H H':Hp}{s:Shared}{h':Heap}
theorem Cx.Ok.nofr (ok:X.Ok){b:Addr}{o:Obj}(e:X.base.get? b=some o):b∉X.fs:=fun hb=>by
 have:=(ok.funs.mem hb).1;rw [e] at this;cases this
theorem Inv.bs (I:Inv X pins σ H s):∀b o,X.base.get? b=some o→s.heap.get? b=some o∧H b=none:=fun b o e=>
 ⟨I.base.keep b o (I.ok.bs b o e).1 (I.ok.bs b o e).2 (I.ok.nofr e) (I.ok.noex b o e),I.base.free b o (I.ok.bs b o e).1 (I.ok.bs b o e).2 (I.ok.noex b o e)⟩
theorem Inv.bk (I:Inv X pins σ H s):∀b o,X.base.get? b=some o→s.heap.get? b=some o:=fun b o e=>(I.bs b o e).1
theorem Inv.mod (I:Inv X pins σ H s):Mod X.K X.mg X.base:=I.ok.mod
theorem Inv.nos (I:Inv X pins σ H s):NS H:=I.base.sys I.ok.nos
theorem Inv.bigS (I:Inv X pins σ H s):sysModules < s.heap.objs.size:=Nat.lt_trans (by decide) (I.mod.glob.keeps I.bk).lt
theorem Inv.kIn (I:Inv X pins σ H s):X.K.In s.heap:=I.ok.mod.kin.keeps I.bk
theorem Inv.lt (I:Inv X pins σ H s):X.env.locals < s.heap.objs.size:=let ⟨_,hn,_⟩:=I.loc;hn.lt
theorem Inv.sz (I:Inv X pins σ H s):X.s₀.heap.objs.size≤s.heap.objs.size:=Nat.le_trans I.ok.above (Nat.le_of_lt I.lt)
theorem Inv.nofs (I:Inv X pins σ H s){a:Addr}(h:s.heap.objs.size≤a):a∉X.fs:=fun hb=>by
 obtain⟨_,o,ho,_⟩:=I.ok.funs.mem hb;exact absurd (Nat.lt_of_lt_of_le (Heap.lt_size ho) (Nat.le_trans I.sz h)) (Nat.lt_irrefl _)
theorem Inv.cne (I:Inv X pins σ H s):∀x c,X.env.cells.lookup x=some c→c≠X.env.locals:=fun x c e z=>by
 obtain⟨v,o,ho,hd⟩:=I.cell x c e;obtain⟨m,⟨o',es,ep,ho',hd',_⟩,_⟩:=I.loc;rw [z,ho'] at ho;cases ho;rw [hd'] at hd;cases hd
theorem Inv.funs (I:Inv X pins σ H s):s.heap.FunFrames X.base X.outer:=by
 have all:∀(l:List Env),(∀b∈frs l,b∈X.fs)→X.s₀.heap.FunFrames X.base l→s.heap.FunFrames X.base l:=by
   intro l
   induction l with
   | nil=>intro _ _;trivial
   | cons env r ih =>
     intro hs hl;obtain⟨hk,⟨L,o,hf,hn,ho,hd⟩,hr⟩:=hl;have hL:L∈X.fs:=hs L (by unfold frs;rw [List.filterMap_cons,hf];exact List.mem_cons_self);obtain⟨sl,e⟩:=I.base.slot L o ho (I.ok.frf L hL) hL fun z=>I.ok.exfs L z hL;exact⟨hk,⟨L,_,hf,hn,e,hd⟩,ih (fun b hb=>hs b (by unfold frs;rw [List.filterMap_cons,hf];exact List.mem_cons_of_mem _ hb)) hr⟩
 exact all X.outer (fun _ hb=>hb) I.ok.funs
theorem Inv.stack (I:Inv X pins σ H s):s.heap.FunFrames X.base X.stack:=by
 rcases I.ok.stk with e | ⟨e,hf⟩
 · rw [e];exact I.funs
 · rw [e];obtain⟨m,hn,_⟩:=I.loc;refine .cons (by rw [I.ok.kind];decide) hf hn ?_ I.funs;exact Heap.get?_none_of_le (Nat.le_trans I.ok.bsz I.ok.above)
theorem Inv.stkSub (I:Inv X pins σ H s):∀b∈frs X.stack,b∈X.env.locals::X.fs:=fun b hb=>by
 rcases I.ok.stk with e | ⟨e,hf⟩
 · rw [e] at hb;exact List.mem_cons_of_mem _ hb
 · rw [e] at hb;unfold frs at hb;rw [List.filterMap_cons,hf] at hb;exact hb
theorem Inv.stkFree (I:Inv X pins σ H s):∀b∈frs X.stack,H b=none:=fun b hb=>by
 rcases List.mem_cons.mp (I.stkSub b hb) with e | hb
 · rw [e];exact I.free
 · obtain⟨_,o,ho,_⟩:=I.ok.funs.mem hb;exact I.base.free b o ho (I.ok.frf b hb) fun z=>I.ok.exfs b z hb
theorem Inv.step {g':Array GenState}{t':Nat}{d':Drawn}{ch:List Addr}(I:Inv X pins σ H s)
   (hch:∀b∈ch,(b∈X.ex∨X.s₀.heap.objs.size≤b)∧b≠X.env.locals∧(∀x c,X.env.cells.lookup x=some c→c≠b)∧∀p∈X.pn++pins,p.1≠b)
   (keep:∀b o,b≠X.env.locals→b∉X.fs→b∉ch→s.heap.get? b=some o→H b=none→h'.get? b=some o)
   (slot:∀b o,b≠X.env.locals→b∈X.fs→b∉ch→s.heap.get? b=some o→H b=none→∃sl,h'.get? b=some { o with slots:=sl }) (free:∀b o,b∉ch→s.heap.get? b=some o→H b=none→H' b=none)
   (there:∀b o,b∉ch→s.heap.get? b=some o→∃o',h'.get? b=some o')
   (tups:∀b xs,H b=some (.tup xs)→H' b=some (.tup xs)) (frzs:∀b o u,H b=some (.frz o u)→H' b=some (.frz o u)) (tbls:∀b ps,H b=some (.tbl ps)→∃more,H' b=some (.tbl (ps++more))) (sys:NS H→NS H')
   (ns:∀m,s.heap.Ns X.env.locals m→h'.Ns X.env.locals m) (hok:HOk X.prog X.w H' h') (hg:AllBare g') :
   Inv X pins σ H' { s with heap:=h',gens:=g',drawn:=d',toks:=t' }:=by
 have neL:∀b o,X.s₀.heap.get? b=some o→b≠X.env.locals:=fun b o e=>Nat.ne_of_lt (Nat.lt_of_lt_of_le (Heap.lt_size e) I.ok.above)
 have neC:∀b o,X.s₀.heap.get? b=some o→b∉X.ex→b∉ch:=fun b o e hx hb=>by
   rcases(hch b hb).1 with z | z
   · exact hx z
   · exact absurd (Nat.lt_of_lt_of_le (Heap.lt_size e) z) (Nat.lt_irrefl _)
 have cellK:∀x c,X.env.cells.lookup x=some c→∀v,s.heap.IsCell c v→h'.IsCell c v:=fun x c e v ⟨o,ho,hd⟩=>by
   have nch:c∉ch:=fun z=>(hch c z).2.2.1 x c e rfl
   by_cases hc:c∈X.fs
   · obtain⟨sl,q⟩:=slot c o (I.cne x c e) hc nch ho (I.freeC x c e);exact⟨_,q,hd⟩
   · exact⟨o,keep c o (I.cne x c e) hc nch ho (I.freeC x c e),hd⟩
 refine⟨I.ok,I.os,hg,⟨fun b o e n hb hx=>?_,fun b o e n hb hx=>?_,fun b o e n hx=>?_,fun b o e hx=>?_,fun b xs e=>tups b xs (I.base.tups b xs e),fun b o xs e=>frzs b o xs (I.base.frzs b o xs e),fun b ps e=>?_,fun z=>sys (I.base.sys z)⟩,?_,fun x c e=>?_,?_,fun x c e=>?_,fun p hp=>?_,hok,I.len⟩
 · exact keep b o (neL b o e) hb (neC b o e hx) (I.base.keep b o e n hb hx) (I.base.free b o e n hx)
 · obtain⟨sl,e1⟩:=I.base.slot b o e n hb hx;obtain⟨sl',e2⟩:=slot b _ (neL b o e) hb (neC b o e hx) e1 (I.base.free b o e n hx);exact⟨sl',e2⟩
 · obtain⟨o',e1⟩:=I.base.there b o e hx;exact free b o' (neC b o e hx) e1 (I.base.free b o e n hx)
 · obtain⟨o',e1⟩:=I.base.there b o e hx;exact there b o' (neC b o e hx) e1
 · obtain⟨m1,e1⟩:=I.base.tbls b ps e;obtain⟨m2,e2⟩:=tbls b _ e1;exact⟨m1++m2,by rw [e2,Array.append_assoc]⟩
 · obtain⟨m,hn,hl⟩:=I.loc;refine⟨m,ns m hn,fun i x v e1 e2 e3=>?_⟩;obtain⟨u,r,l⟩:=hl i x v e1 e2 e3;refine⟨u,r,?_⟩;rcases l with l | ⟨k,c,e,z⟩
   · exact .inl l
   · exact .inr ⟨k,c,e,cellK x c e _ z⟩
 · obtain⟨v,z⟩:=I.cell x c e;exact⟨v,cellK x c e v z⟩
 · obtain⟨m,⟨o,_,_,ho,_⟩,_⟩:=I.loc;exact free _ o (fun z=>(hch _ z).2.1 rfl) ho I.free
 · obtain⟨v,o,ho,hd⟩:=I.cell x c e;exact free c o (fun z=>(hch c z).2.2.1 x c e rfl) ho (I.freeC x c e)
 · obtain⟨e,n,ne,nf,d⟩:=I.pin p hp;have nch:p.1∉ch:=fun z=>(hch p.1 z).2.2.2 p hp rfl;exact⟨keep p.1 p.2 ne nf nch e n,free p.1 p.2 nch e n,ne,nf,d⟩
theorem Inv.un {t':Nat}(I:Inv X pins σ H s)(u:Un X.fs [] H H' s.heap h')(hok:HOk X.prog X.w H' h'):Inv X pins σ H' { s with heap:=h',toks:=t' }:=by
 obtain⟨m,⟨o,es,ep,ho,r⟩,_⟩:=id I.loc;obtain⟨sl,hL⟩:=u.any ho I.free (by simp)
 exact I.step (g':=s.gens) (d':=s.drawn) (ch:=[]) (fun _ z=>nomatch z) (fun b o _ hb _ e n=>u.keep b o e n hb (by simp)) (fun b o _ hb _ e n=>u.slot b o e n hb (by simp)) (fun b o _ e n=>u.free b o e n (by simp)) (fun b o _ e=>u.there b o e (by simp)) u.tups u.frzs u.tbls u.sys (fun m' hm=>by
   obtain⟨o',es',ep',ho',r'⟩:=hm;rw [ho] at ho';cases ho'
   exact⟨_,es',ep',hL,r'⟩) hok I.bare
theorem Inv.call {g':Array GenState}{t':Nat}{d':Drawn}{ch:List Addr}(I:Inv X pins σ H s)(u:Un (frs X.stack) ch H H' s.heap h')(hok:HOk X.prog X.w H' h')(hg:AllBare g')
   (hch:∀b∈ch,(b∈X.ex∨X.s₀.heap.objs.size≤b)∧b≠X.env.locals∧(∀x c,X.env.cells.lookup x=some c→c≠b)∧∀p∈X.pn++pins,p.1≠b) :
   Inv X pins σ H' { s with heap:=h',gens:=g',drawn:=d',toks:=t' }:=by
 obtain⟨m,⟨o,es,ep,ho,r⟩,_⟩:=id I.loc;obtain⟨sl,hL⟩:=u.any ho I.free fun z=>(hch _ z).2.1 rfl
 exact I.step (ch:=ch) hch (fun b o hL hb hc e n=>u.keep b o e n (fun z=>(List.mem_cons.mp (I.stkSub b z)).elim hL hb) hc) (fun b o _ _ hc e n=>u.any e n hc) (fun b o hc e n=>u.free b o e n hc) (fun b o hc e=>u.there b o e hc) u.tups u.frzs u.tbls u.sys (fun m' hm=>by
   obtain⟨o',es',ep',ho',r'⟩:=hm;rw [ho] at ho';cases ho'
   exact⟨_,es',ep',hL,r'⟩) hok hg
theorem Inv.turned {t':Nat}{it:Addr}(I:Inv X pins σ H s)(k:∀b o,b≠it→s.heap.get? b=some o→h'.get? b=some o)(hn:H it=none)(hL:it≠X.env.locals)
   (h1:it∈X.ex∨X.s₀.heap.objs.size≤it) (h2:∀x c,X.env.cells.lookup x=some c→c≠it) (h3:∀p∈X.pn++pins,p.1≠it):Inv X pins σ H { s with heap:=h',toks:=t' }:=by
 have nit:∀b u,H b=some u→b≠it:=fun b u e z=>by rw [z,hn] at e;cases e
 refine I.step (g':=s.gens) (d':=s.drawn) (ch:=[it]) (fun b hb=>?_) (fun b o _ _ hc e _=>k b o (fun z=>hc (by simp [z])) e) (fun b o _ _ hc e _=>⟨o.slots,k b o (fun z=>hc (by simp [z])) e⟩) (fun _ _ _ _ n=>n)
   (fun b o hc e=>⟨o,k b o (fun z=>hc (by simp [z])) e⟩) (fun _ _ e=>e) (fun _ _ _ e=>e) (fun b ps e=>⟨#[],by rw [e];simp⟩) (fun z=>z) (fun m hm=>?_) (fun b u e=>?_) I.bare
 · have e:b=it:=by simpa using hb
   subst e;exact⟨h1,hL,h2,h3⟩
 · obtain⟨o,es,ep,ho,r⟩:=hm;exact⟨o,es,ep,k _ o (Ne.symm hL) ho,r⟩
 · refine(I.hok b u e).stay (fun c v hc q=>k c v ?_ q) (fun _ q=>q) fun _ _ q=>q;rcases hc with z | z
   · rw [z];exact nit b u e
   · exact nit c _ z
theorem Inv.tok (I:Inv X pins σ H s)(t:Nat):Inv X pins σ H { s with toks:=t }:=I.un (h':=s.heap) (t':=t) Un.refl I.hok
theorem Inv.kept {t':Nat}(I:Inv X pins σ H s)(k:∀b u,s.heap.get? b=some u→h'.get? b=some u):Inv X pins σ H { s with heap:=h',toks:=t' }:=I.un (Un.kept k) (I.hok.kept k)
theorem Inv.laid {a:Addr}{o:HO}{t':Nat}(I:Inv X pins σ H s)(k:∀b u,s.heap.get? b=some u→h'.get? b=some u)(hp:s.heap.objs.size≤a)(new:a1k X.prog X.w (upd H a o) h' a o) :
   Inv X pins σ (upd H a o) { s with heap:=h',toks:=t' }:=I.un (Un.laid k hp (I.hok.fresh hp) I.bigS) (I.hok.laid k hp new)
theorem Inv.write {x e:Addr}{o:HO}{t':Nat}(I:Inv X pins σ H s)(mu:Mut (H x))(he:e=x∨H e=some (.own x))(k:∀b u,b≠e→s.heap.get? b=some u→h'.get? b=some u)(heo:∃u,h'.get? e=some u)
   (new:a1k X.prog X.w (upd H x o) h' x o):Inv X pins σ (upd H x o) { s with heap:=h',toks:=t' }:=I.un (Un.write mu he k heo) (I.hok.write mu he k heo new)
theorem Inv.pins_of {pins':List (Addr×Obj)}(I:Inv X pins σ H s)(h:∀p∈pins',s.heap.get? p.1=some p.2∧H p.1=none∧p.1≠X.env.locals∧p.1∉X.fs∧∀v,p.2.data≠.cell v):Inv X pins' σ H s:=
 ⟨I.ok,I.os,I.bare,I.base,I.loc,I.cell,I.free,I.freeC,fun p hp=>(List.mem_append.mp hp).elim (fun z=>I.pin p (List.mem_append_left _ z)) (h p),I.hok,I.len⟩
theorem a4t {N:List Str}(hN:N.Nodup){i j:Nat}{x:Str}(a:N[i]?=some x)(b:N[j]?=some x):i=j:=by
 obtain⟨h1,e1⟩:=List.getElem?_eq_some_iff.mp a;obtain⟨h2,e2⟩:=List.getElem?_eq_some_iff.mp b;exact(List.getElem_inj hN).mp (e1.trans e2.symm)
theorem a3o {M:Model}{A:Around}{E:Value→Shared→Prop}{i:Nat}{x:Str}{v:V}{u:Value}{Q:Unit→Shared→Prop}(I:Inv X pins σ H s)(hN:X.N.Nodup)(hi:X.N[i]?=some x)(hx:Loc X.env.scope x)(r:RelV v u)
   (h:∀s',Inv X pins (σ.set i (some v)) H s'→(∃a,Heap.SameBut a s.heap s'.heap∧(a=X.env.locals∨X.env.cells.lookup x=some a))→Q () s') (hf:X.fn x=true∨X.env.scope.names.lookup x=some .local:=by first | exact .inl rfl | exact .inr rfl | assumption):wpAny M A (storeName X.env x u) Q E s:=by
 obtain⟨m,hn,hl⟩:=id I.loc;have hcls:(X.env.scope.kind == .class || (X.env.scope.kind == .module && X.env.locals != X.env.globals))=false:=by rw [I.ok.kind];rfl
 have hiσ:i < σ.length:=by rw [I.len];exact(List.getElem?_eq_some_iff.mp hi).1
 have cne:=I.cne
 have tracked:∀{a:Addr} {h':Heap},(∃o,s.heap.get? a=some o∧H a=none)→Heap.SameBut a s.heap h'→HOk X.prog X.w H h':=fun {a h'} ha hs b ob e=>by
   obtain⟨_,_,hfree⟩:=ha;refine(I.hok b ob e).stay (fun c w' hc q=>(hs.2 c ?_).trans q) (fun _ q=>q) fun _ _ q=>q;rintro rfl;rcases hc with rfl | hc
   · rw [hfree] at e;cases e
   · rw [hfree] at hc;cases hc
 rcases hx with hk | hk
 · refine wpAny_storeName_local hk hn (fun h' hn' hs=>?_) hcls;obtain⟨oL,_,_,hoL,_⟩:=id hn;refine h _ ⟨I.ok,I.os,I.bare,⟨fun b o e n hb hx=>?_,fun b o e n hb hx=>?_,I.base.free,fun b o e hx=>?_,I.base.tups,I.base.frzs,I.base.tbls,I.base.sys⟩,⟨_,hn',fun j y v' e1 e2 e3=>?_⟩,fun y c e=>?_,I.free,I.freeC,fun p hp=>?_,tracked ⟨oL,hoL,I.free⟩ hs,by simpa using I.len⟩ ⟨_,hs,.inl rfl⟩
   · exact(hs.2 b (Nat.ne_of_lt (Nat.lt_of_lt_of_le (Heap.lt_size e) I.ok.above))).trans (I.base.keep b o e n hb hx)
   · obtain⟨sl,e1⟩:=I.base.slot b o e n hb hx;exact⟨sl,(hs.2 b (Nat.ne_of_lt (Nat.lt_of_lt_of_le (Heap.lt_size e) I.ok.above))).trans e1⟩
   · obtain⟨o',e1⟩:=I.base.there b o e hx;exact⟨o',(hs.2 b (Nat.ne_of_lt (Nat.lt_of_lt_of_le (Heap.lt_size e) I.ok.above))).trans e1⟩
   · by_cases hj:j=i
     · subst hj;rw [hi] at e1;cases e1;rw [List.getElem?_set_self hiσ] at e2;cases e2;exact⟨u,r,.inl ⟨hk,by simp⟩⟩
     · rw [List.getElem?_set_ne (Ne.symm hj)] at e2;obtain⟨u',r',q⟩:=hl j y v' e1 e2 e3;refine⟨u',r',?_⟩;rcases q with⟨k,e⟩ | ⟨k,c,e,z⟩
       · refine .inl ⟨k,?_⟩;have:y≠x:=fun e=>hj (a4t hN e1 (e▸hi));simp [this,e]
       · exact .inr ⟨k,c,e,z.sameBut hs (cne y c e)⟩
   · obtain⟨w',z⟩:=I.cell y c e;exact⟨w',z.sameBut hs (cne y c e)⟩
   · obtain⟨e,n,ne,nf,d⟩:=I.pin p hp;exact⟨(hs.2 p.1 ne).trans e,n,ne,nf,d⟩
 · have hfn:X.fn x=true:=by
     rcases hf with z | z
     · exact z
     · rw [z] at hk;cases hk
   obtain⟨c,hc⟩:=I.ok.has x (.inl hk);obtain⟨w',z⟩:=I.cell x c hc;refine wpAny_storeName_cell I.ok.kind hk hc z (fun h' hc' hs=>?_);obtain⟨oc,hoc,hocd⟩:=id z;refine h { s with heap:=h' } ⟨I.ok,I.os,I.bare,⟨fun b o e n hb hx=>?_,fun b o e n hb hx=>?_,I.base.free,fun b o e hx=>?_,I.base.tups,I.base.frzs,I.base.tbls,I.base.sys⟩,⟨m,hn.sameBut hs (Ne.symm (cne x c hc)),fun j y v' e1 e2 e3=>?_⟩,fun y c' e=>?_,I.free,I.freeC,fun p hp=>?_,tracked ⟨oc,hoc,I.freeC x c hc⟩ hs,by simpa using I.len⟩ ⟨c,hs,.inr hc⟩
   · exact(hs.2 b (Nat.ne_of_lt (Nat.lt_of_lt_of_le (Heap.lt_size e) (I.ok.cab x c hfn hc)))).trans (I.base.keep b o e n hb hx)
   · obtain⟨sl,e1⟩:=I.base.slot b o e n hb hx;exact⟨sl,(hs.2 b (Nat.ne_of_lt (Nat.lt_of_lt_of_le (Heap.lt_size e) (I.ok.cab x c hfn hc)))).trans e1⟩
   · obtain⟨o',e1⟩:=I.base.there b o e hx;exact⟨o',(hs.2 b (Nat.ne_of_lt (Nat.lt_of_lt_of_le (Heap.lt_size e) (I.ok.cab x c hfn hc)))).trans e1⟩
   · by_cases hj:j=i
     · subst hj;rw [hi] at e1;cases e1;rw [List.getElem?_set_self hiσ] at e2;cases e2;exact⟨u,r,.inr ⟨.inl hk,c,hc,hc'⟩⟩
     · rw [List.getElem?_set_ne (Ne.symm hj)] at e2;obtain⟨u',r',q⟩:=hl j y v' e1 e2 e3;refine⟨u',r',?_⟩;rcases q with q | ⟨k,c',e,z'⟩
       · exact .inl q
       · refine .inr ⟨k,c',e,z'.sameBut hs ?_⟩;rintro rfl;exact hj (a4t hN e1 (I.ok.inj _ _ _ e hc▸hi))
   · by_cases hcc:c'=c
     · subst hcc;exact⟨_,hc'⟩
     · obtain⟨w2,z2⟩:=I.cell y c' e;exact⟨w2,z2.sameBut hs hcc⟩
   · obtain⟨e,n,ne,nf,d⟩:=I.pin p hp;refine⟨(hs.2 p.1 ?_).trans e,n,ne,nf,d⟩;intro q;rw [q,hoc] at e;have q':oc=p.2:=Option.some.inj e;exact d w' (by rw [← q'];exact hocd)
theorem a1D {M:Model}{A:Around}{E:Value→Shared→Prop}{i:Nat}{x:Str}{v:V}{u:Value}{Q:Unit→Shared→Prop}(I:Inv X pins σ H s)(hN:X.N.Nodup)(hi:X.N[i]?=some x)(hx:Loc X.env.scope x)(r:RelV v u)
   (h:∀s',Inv X pins (σ.set i (some v)) H s'→Q () s') (hf:X.fn x=true∨X.env.scope.names.lookup x=some .local:=by first | exact .inl rfl | exact .inr rfl | assumption):wpAny M A (storeName X.env x u) Q E s:=
 a3o I hN hi hx r (fun s' I' _=>h s' I') hf
end
abbrev XK:=Value→Option Addr→Hp→Prop
abbrev St:=List (Option V)
abbrev VK:=V→Hp→Prop
abbrev TE:=St→Hp→VK→Prop
abbrev TT:=St→Hp→(Bool→Hp→Prop)→Prop
abbrev TA:=St→Hp→(List V→Hp→Prop)→Prop
structure Ends where
 nx:St→Hp→Prop
 rt:VK
 bk:St→Hp→Prop:=fun _ _=>False
 ct:St→Hp→Prop:=fun _ _=>False
abbrev TS:=Ends→St→Hp→Prop
def EP (X:Cx)(pins:List (Addr×Obj))(σ:St)(Q:VK)(u:Value)(s':Shared):Prop:=∃v H',Inv X pins σ H' s'∧RelV v u∧Q v H'
def TP (X:Cx)(pins:List (Addr×Obj))(σ:St)(Q:Bool→Hp→Prop)(b:Bool)(s':Shared):Prop:=∃H',Inv X pins σ H' s'∧Q b H'
def AP (X:Cx)(pins:List (Addr×Obj))(σ:St)(Q:List V→Hp→Prop)(us:List Value)(s':Shared):Prop:=∃vs H',Inv X pins σ H' s'∧Vals vs us∧Q vs H'
def SP (X:Cx)(pins:List (Addr×Obj))(D:Ends)(f:Flow)(s':Shared):Prop:=
 match f with
 | .next=>∃σ' H',Inv X pins σ' H' s'∧D.nx σ' H'
 | .brk=>∃σ' H',Inv X pins σ' H' s'∧D.bk σ' H'
 | .cont=>∃σ' H',Inv X pins σ' H' s'∧D.ct σ' H'
 | .ret u=>∃v σ' H',Inv X pins σ' H' s'∧RelV v u∧D.rt v H'
def PE (X:Cx)(e:Expr)(t:TE):Prop:=
 ∀(pins:List (Addr×Obj)) (s:Shared) (σ:St) (H:Hp) (Q:VK),Inv X pins σ H s→t σ H Q→wpAny (model X.prog X.w) X.A (eval e X.env) (EP X pins σ Q) X.xe s
def PT (X:Cx)(e:Expr)(t:TT):Prop:=
 ∀(pins:List (Addr×Obj)) (s:Shared) (σ:St) (H:Hp) (Q:Bool→Hp→Prop),Inv X pins σ H s→t σ H Q→wpAny (model X.prog X.w) X.A (isTrue e X.env (eval e X.env)) (TP X pins σ Q) X.xe s
def PW (X:Cx)(e:Expr)(t:TT):Prop:=
 ∀(whole:Sem Value) (pins:List (Addr×Obj)) (s:Shared) (σ:St) (H:Hp) (Q:Bool→Hp→Prop),Inv X pins σ H s→t σ H Q→wpAny (model X.prog X.w) X.A (isTrue e X.env whole) (TP X pins σ Q) X.xe s
theorem PW.pt {X:Cx}{e:Expr}{t:TT}(h:PW X e t):PT X e t:=h _
def PA (X:Cx)(es:List Expr)(t:TA):Prop:=
 ∀(pos:Pos) (pins:List (Addr×Obj)) (s:Shared) (σ:St) (H:Hp) (Q:List V→Hp→Prop),Inv X pins σ H s→t σ H Q→wpAny (model X.prog X.w) X.A (spliced (backTo pos (starEach es X.env))) (AP X pins σ Q) X.xe s
def PS (X:Cx)(st:Stmt)(t:TS):Prop:=
 ∀(pins:List (Addr×Obj)) (s:Shared) (σ:St) (H:Hp) (D:Ends),Inv X pins σ H s→t D σ H→wpAny (model X.prog X.w) X.A (exec st X.env) (SP X pins D) X.xe s
def PSs (X:Cx)(st:List Stmt)(t:TS):Prop:=
 ∀(pins:List (Addr×Obj)) (s:Shared) (σ:St) (H:Hp) (D:Ends),Inv X pins σ H s→t D σ H→wpAny (model X.prog X.w) X.A (execs st X.env) (SP X pins D) X.xe s
theorem thn {α:Type}{t:Sem α}{Q Q':α→Shared→Prop}{M:Model}{A:Around}{E:Value→Shared→Prop}{s:Shared}(h:wpAny M A t Q E s)(hQ:∀a s,Q a s→Q' a s):wpAny M A t Q' E s:=wpAny_mono h hQ fun _ _ x=>x
end L2
namespace L2
open PySem PySem.Spec PyProof.Rows
section
variable {X:Cx}
def tVar (i:Nat):TE:=fun σ H Q=>∃v,σ[i]?=some (some v)∧Q v H
def tC (v:V):TE:=fun _ H Q=>Q v H
theorem a7Q {i:Nat}{x:Str}{pos:Pos}(hN:X.N[i]?=some x)(hv:Vis X.env.scope x)(hd:(x == ("__debug__":Str))=false:=by decide)(hcd:(x == ("__classdict__":Str))=false:=by decide):PE X (.Name x pos) (tVar i):=by
 intro pins s σ H Q I h;obtain⟨v,e,h⟩:=h;obtain⟨m,hn,hl⟩:=I.loc;obtain⟨u,r,l⟩:=hl i x v hN e hv;have fin:EP X pins σ Q u s:=⟨v,H,I,r,h⟩;rcases l with⟨hk,hm⟩ | ⟨hk,c,hc,hcell⟩
 · exact wpAny_Name (wpAny_loadName_local I.ok.kind hk hn hm fin) hd
 · rcases hk with hk | hk
   · exact wpAny_Name (wpAny_loadName_cell I.ok.kind hk hc hcell fin) hd
   · exact wpAny_Name (wpAny_loadName_free I.ok.kind hk hc hcell fin hcd) hd
theorem a0n {i j pos}:PE X (.Constant (.int i) j pos) (tC (.int i)):=fun _ _ _ H _ I h=>wpAny_Constant_int ⟨.int i,H,I.tok _,⟨_,rfl⟩,h⟩
theorem pe_bl {b j pos}:PE X (.Constant (.bool b) j pos) (tC (.bl b)):=fun _ _ _ H _ I h=>Constant_bool ⟨.bl b,H,I,rfl,h⟩
theorem pe_str {x j pos}:PE X (.Constant (.str x) j pos) (tC (.str x)):=fun _ _ _ H _ I h=>Calls.Constant_str ⟨.str x,H,I.tok _,⟨_,rfl⟩,h⟩
def Gl (X:Cx)(x:Str):Prop:=X.env.kindOf x=some .globalImplicit
theorem a8Y {E:Value→Shared→Prop}{pins:List (Addr×Obj)}{s:Shared}{σ:St}{H:Hp}{x:Str}{u:Value}{pos:Pos}{Q:Value→Shared→Prop}(I:Inv X pins σ H s)(hg:Gl X x)(hm:X.mg x=some u)(h:Q u s)
   (hd:(x == ("__debug__":Str))=false:=by decide):wpAny (model X.prog X.w) X.A (eval (.Name x pos) X.env) Q E s:=
 Calls.Name_function_global I.ok.kind hg (Calls.loadGlobal_global (by rw [I.ok.glob];exact I.mod.glob.keeps I.bk) hm h) hd
theorem a2D {E:Value→Shared→Prop}{pins:List (Addr×Obj)}{s:Shared}{σ:St}{H:Hp}{x:Str}{u:Value}{pos:Pos}{Q:Value→Shared→Prop}(I:Inv X pins σ H s)(hg:Gl X x)(hm:X.mg x=none)(hv:bootBuiltins x=some u)(h:Q u s)
   (hn:x≠"__name__":=by decide) (hd:(x == ("__debug__":Str))=false:=by decide):wpAny (model X.prog X.w) X.A (eval (.Name x pos) X.env) Q E s:=by
 obtain⟨mb,h1,h2⟩:=I.mod.blt;exact Calls.Name_function_global I.ok.kind hg (Calls.loadGlobal_builtin (by rw [I.ok.glob];exact I.mod.glob.keeps I.bk) hm (by rw [I.ok.blt];exact h1.keeps I.bk) ((h2 x hn).trans hv) h) hd
variable {a b:Expr}{ta tb:TE}{pos:Pos}
variable {tA tB':TT}{rest:List Expr}
def tAndV (ta tb:TE):TE:=fun σ H Q=>ta σ H fun x H1=>∃c,x=.bl c∧if c=true then tb σ H1 Q else Q (.bl false) H1
theorem pe_one {op}{t:TE}(h:PE X a t):PE X (.BoolOp op [a] pos) t:=fun pins s σ H Q I hw=>BoolOp_one (h pins s σ H Q I hw)
theorem pe_and (ha:PE X a ta)(hb:PE X (.BoolOp .And (b::rest) pos) tb):PE X (.BoolOp .And (a::b::rest) pos) (tAndV ta tb):=by
 intro pins s σ H Q I h;refine BoolOp_and (thn (ha pins s σ H _ I h) fun v s1 ⟨x,H1,I1,r1,q1⟩=>?_);obtain⟨c,rfl,q1⟩:=q1;cases r1;refine wpAny_truthy_bool ?_;cases c with
 | true=>exact hb pins s1 σ H1 Q I1 q1
 | false=>exact⟨.bl false,H1,I1,rfl,q1⟩
def tIf (t:TT)(ta tb:TE):TE:=fun σ H Q=>t σ H fun c H1=>if c=true then ta σ H1 Q else tb σ H1 Q
theorem a7g {c:Expr}(hc:PT X c tA)(ha:PE X a ta)(hb:PE X b tb):PE X (.IfExp c a b pos) (tIf tA ta tb):=by
 intro pins s σ H Q I h;refine wpAny_IfExp (thn (hc pins s σ H _ I h) fun d s1 ⟨H1,I1,q1⟩=>?_);cases d with
 | true=>exact ha pins s1 σ H1 Q I1 q1
 | false=>exact hb pins s1 σ H1 Q I1 q1
end
end L2
namespace L2
open PySem PySem.Spec PyProof.Rows
def SqL (K:PySem.W.Frag)(H:Hp)(a:Addr)(xs:List V):Prop:=
 Rd H a (.lst xs)∨
   ∃(o:Obj) (its:Array Value) (n:Nat),K.lookup a=some o∧o.cls=.type "list"∧o.dict=none∧o.data=.seq its n∧its.size≤sizeLine∧Vals xs its.toList
def SqT (K:PySem.W.Frag)(H:Hp)(a:Addr)(xs:List V):Prop:=
 Rd H a (.tup xs)∨
   ∃(o:Obj) (its:Array Value) (n:Nat),K.lookup a=some o∧o.cls=.type "tuple"∧o.data=.seq its n∧its.size≤sizeLine∧Vals xs its.toList
def absV:Value→Option V
 | .none=>some .non
 | .bool b=>some (.bl b)
 | .int i _=>some (.int i)
 | .str x _=>some (.str x)
 | .bytes b _=>some (.byt b)
 | .float b _=>some (.flt b)
 | .ref a=>some (.ref a)
 | .type n=>some (.ty n)
 | _=>none
theorem RelV.abs {x:V}{u:Value}(r:RelV x u):absV u=some x:=by
 cases x with
 | non=>cases r;rfl
 | bl _=>cases r;rfl
 | int _=>obtain⟨t,rfl⟩:=r;rfl
 | str _=>obtain⟨t,rfl⟩:=r;rfl
 | byt _=>obtain⟨t,rfl⟩:=r;rfl
 | flt _=>obtain⟨t,rfl⟩:=r;rfl
 | ref _=>cases r;rfl
 | ty _=>cases r;rfl
theorem RelV.inj {x y:V}{u:Value}(r:RelV x u)(q:RelV y u):x=y:=Option.some.inj (r.abs.symm.trans q.abs)
theorem Vals.inj:∀{xs ys:List V} {us:List Value},Vals xs us→Vals ys us→xs=ys
 | _,_,_,.nil,.nil=>rfl
 | _,_,_,.cons r t,.cons r' t'=>by rw [r.inj r',Vals.inj t t']
section
variable {X:Cx}{pins:List (Addr×Obj)}{σ:St}{H:Hp}{s:Shared}{a:Addr}{xs ys:List V}
theorem SqL.of {K:PySem.W.Frag}(h:H a=some (.lst xs)):SqL K H a xs:=.inl (.inl h)
theorem SqT.of {K:PySem.W.Frag}(h:H a=some (.tup xs)):SqT K H a xs:=.inl (.inl h)
theorem Inv.list (I:Inv X pins σ H s)(h:SqL X.K H a xs):∃its:List Value,Vals xs its∧PlainL s.heap a its.toArray∧xs.length≤sizeLine:=by
 rcases h with h | ⟨o,its,n,hk,hc,hd,hs,hz,r⟩
 · obtain⟨z,its,n,r,e⟩:=h.ok I.hok;exact⟨its,r,⟨_,n,e,rfl,rfl,rfl⟩,z⟩
 · refine⟨its.toList,r,⟨o,n,I.kIn a o hk,hc,hd,by simpa using hs⟩,?_⟩;have e:=r.length;simp only [Array.length_toList] at e;omega
theorem Inv.tuple (I:Inv X pins σ H s)(h:SqT X.K H a xs):∃its:List Value,Vals xs its∧IsTup s.heap a its.toArray∧xs.length≤sizeLine:=by
 rcases h with h | ⟨o,its,n,hk,hc,hs,hz,r⟩
 · obtain⟨z,its,r,p⟩:=h.ok I.hok;exact⟨its,r,p.is,z⟩
 · refine⟨its.toList,r,⟨o,I.kIn a o hk,hc,n,by simpa using hs⟩,?_⟩;have e:=r.length;simp only [Array.length_toList] at e;omega
theorem Inv.list_inj (I:Inv X pins σ H s)(h:SqL X.K H a xs)(h':SqL X.K H a ys):xs=ys:=by
 obtain⟨its,r,⟨o,n,e,_,_,d⟩,_⟩:=I.list h;obtain⟨its',r',⟨o',n',e',_,_,d'⟩,_⟩:=I.list h';rw [e] at e';cases e';rw [d] at d';injection d' with d1 _;have:its=its':=by simpa using congrArg Array.toList d1
 subst this;exact r.inj r'
theorem Inv.tuple_inj (I:Inv X pins σ H s)(h:SqT X.K H a xs)(h':SqT X.K H a ys):xs=ys:=by
 obtain⟨its,r,⟨o,e,_,n,d⟩,_⟩:=I.tuple h;obtain⟨its',r',⟨o',e',_,n',d'⟩,_⟩:=I.tuple h';rw [e] at e';cases e';rw [d] at d';injection d' with d1 _;have:its=its':=by simpa using congrArg Array.toList d1
 subst this;exact r.inj r'
end
abbrev Cx.wish (X:Cx)(E:Value→Shared→Prop):Cx:={ X with xe:=E }
abbrev Cx.nox (X:Cx):Cx:=X.wish fun _ _=>False
theorem Cx.Ok.wish {X:Cx}(ok:X.Ok)(E:Value→Shared→Prop):(X.wish E).Ok:=
 ⟨ok.mod,ok.kind,ok.glob,ok.blt,ok.above,ok.inj,ok.has,ok.cab,ok.hd,ok.frames,ok.stk,ok.exf,ok.bs,ok.bsz,ok.noex,ok.exfs,ok.funs,ok.frf,ok.nos⟩
theorem Cx.Ok.unwish {X:Cx}{E:Value→Shared→Prop}(ok:(X.wish E).Ok):X.Ok:=
 ⟨ok.mod,ok.kind,ok.glob,ok.blt,ok.above,ok.inj,ok.has,ok.cab,ok.hd,ok.frames,ok.stk,ok.exf,ok.bs,ok.bsz,ok.noex,ok.exfs,ok.funs,ok.frf,ok.nos⟩
section
variable {X:Cx}{pins:List (Addr×Obj)}{σ:St}{H:Hp}{s:Shared}{E:Value→Shared→Prop}
theorem Inv.wish (I:Inv X pins σ H s)(E:Value→Shared→Prop):Inv (X.wish E) pins σ H s:=⟨I.ok.wish E,I.os,I.bare,I.base,I.loc,I.cell,I.free,I.freeC,I.pin,I.hok,I.len⟩
theorem Inv.unwish (I:Inv (X.wish E) pins σ H s):Inv X pins σ H s:=⟨I.ok.unwish,I.os,I.bare,I.base,I.loc,I.cell,I.free,I.freeC,I.pin,I.hok,I.len⟩
theorem SP.unwish {D:Ends}{f:Flow}{s':Shared}(h:SP (X.wish E) pins D f s'):SP X pins D f s':=by
 cases f with
 | next=>obtain⟨σ',H',I,q⟩:=h;exact⟨σ',H',I.unwish,q⟩
 | brk=>obtain⟨σ',H',I,q⟩:=h;exact⟨σ',H',I.unwish,q⟩
 | cont=>obtain⟨σ',H',I,q⟩:=h;exact⟨σ',H',I.unwish,q⟩
 | ret u=>obtain⟨v,σ',H',I,r,q⟩:=h;exact⟨v,σ',H',I.unwish,r,q⟩
theorem PSs.nox {st:List Stmt}{t:TS}(h:PSs X.nox st t):PSs X st t:=fun pins s σ H D I hw=>
 wpAny_mono (h pins s σ H D (I.wish _) hw) (fun _ _ q=>q.unwish) fun _ _ z=>False.elim z
end
section
variable {X:Cx}{st:Stmt}{rest:List Stmt}{t u:TS}{e:Expr}{te:TE}{pos:Pos}
def tNext:TS:=fun D σ H=>D.nx σ H
def tSeq (t u:TS):TS:=fun D σ H=>t { D with nx:=u D } σ H
theorem a5J:PSs X [] tNext:=fun _ _ σ H _ I h=>wpAny_execs_nil ⟨σ,H,I,h⟩
theorem a0B (h1:PS X st t)(h2:PSs X rest u):PSs X (st::rest) (tSeq t u):=by
 intro pins s σ H D I h;refine wpAny_execs_cons (thn (h1 pins s σ H { D with nx:=u D } I h) fun f s1 q=>?_);cases f with
 | next =>
   obtain⟨σ',H',I',q⟩:=q;exact h2 pins s1 σ' H' D I' q
 | ret v=>exact q
 | brk=>exact q
 | cont=>exact q
theorem a2h (h1:PS X st t):PSs X [st] t:=by
 intro pins s σ H D I h;refine wpAny_execs_cons (thn (h1 pins s σ H D I h) fun f s1 q=>?_);cases f with
 | next=>exact wpAny_execs_nil q
 | ret v=>exact q
 | brk=>exact q
 | cont=>exact q
theorem Inv.quiet {pins:List (Addr×Obj)}{σ:St}{H:Hp}{s:Shared}(I:Inv X pins σ H s):interactive X.env=false:=by simp [interactive,I.ok.kind]
def a8n (te:TE):TS:=fun D σ H=>te σ H fun _ H1=>D.nx σ H1
theorem a8G (he:PE X e te)(hs:swapsWith e none pos.line X.env=pure false:=by rfl):PS X (.Expr e pos) (a8n te):=by
 intro pins s σ H D I h;exact wpAny_Expr_any (thn (he pins s σ H _ I h) fun v s1 ⟨x,H1,I1,r1,q1⟩=>⟨σ,H1,I1,q1⟩) I.quiet hs
def tRet (te:TE):TS:=fun D σ H=>te σ H D.rt
theorem a4r (he:PE X e te):PS X (.Return (some e) pos) (tRet te):=by
 intro pins s σ H D I h;exact wpAny_Return_some (thn (he pins s σ H _ I h) fun v s1 ⟨x,H1,I1,r1,q1⟩=>⟨x,σ,H1,I1,r1,q1⟩)
def tIfS (c:TT)(t u:TS):TS:=fun D σ H=>c σ H fun b H1=>if b=true then t D σ H1 else u D σ H1
theorem ps_if {c:Expr}{a b:List Stmt}{tc:TT}(hc:PT X c tc)(ha:PSs X a t)(hb:PSs X b u):PS X (.If c a b pos) (tIfS tc t u):=by
 intro pins s σ H D I h;refine wpAny_If (thn (hc pins s σ H _ I h) fun d s1 ⟨H1,I1,q1⟩=>?_);cases d with
 | true=>exact ha pins s1 σ H1 D I1 q1
 | false=>exact hb pins s1 σ H1 D I1 q1
end
abbrev TG:=V→St→Hp→(St→Hp→Prop)→Prop
abbrev TGs:=List V→St→Hp→(St→Hp→Prop)→Prop
def PG (X:Cx)(target:Expr)(t:TG):Prop:=
 ∀ (pins : List (Addr × Obj)) (s : Shared) (σ : St) (H : Hp) (v : V) (u : Value) (Q : St → Hp → Prop), Inv X pins σ H s → RelV v u → t v σ H Q →
   wpAny (model X.prog X.w) X.A (assign target X.env u) (fun _ s'=>∃σ' H',Inv X pins σ' H' s'∧Q σ' H') X.xe s
def PGs (X:Cx)(ts:List Expr)(t:TGs):Prop:=
 ∀ (pins : List (Addr × Obj)) (s : Shared) (σ : St) (H : Hp) (vs : List V) (us : List Value) (Q : St → Hp → Prop), Inv X pins σ H s → Vals vs us → t vs σ H Q →
   wpAny (model X.prog X.w) X.A (assignInOrder ((assignEach ts X.env).map (·.2)) us) (fun _ s'=>∃σ' H',Inv X pins σ' H' s'∧Q σ' H') X.xe s
abbrev TSet:=V→V→V→Hp→(Hp→Prop)→Prop
def PSet (X:Cx)(t:TSet):Prop:=
 ∀ (pins : List (Addr × Obj)) (s : Shared) (σ : St) (H : Hp) (o i v : V) (ov iv u : Value) (Q : Hp → Prop), Inv X pins σ H s → RelV o ov → RelV i iv → RelV v u → t o i v H Q →
   wpAny (model X.prog X.w) X.A (setItem ov iv u) (fun _ s'=>∃H',Inv X pins σ H' s'∧Q H') X.xe s
abbrev TIp:=V→V→Hp→VK→Prop
def PIp (X:Cx)(op:Operator)(t:TIp):Prop:=
 ∀ (pins : List (Addr × Obj)) (s : Shared) (σ : St) (H : Hp) (x y : V) (v u : Value) (Q : VK), Inv X pins σ H s → RelV x v → RelV y u → t x y H Q →
   wpAny (model X.prog X.w) X.A (inplaceOp op v u) (EP X pins σ Q) X.xe s
section
variable {X:Cx}{pos:Pos}
def a1K (i:Nat):TG:=fun v σ H Q=>Q (σ.set i (some v)) H
theorem a5T {i:Nat}{x:Str}(hN:X.N.Nodup)(hi:X.N[i]?=some x)(hx:Loc X.env.scope x)(hf:X.fn x=true∨X.env.scope.names.lookup x=some .local:=by first | exact .inl rfl | exact .inr rfl | assumption):PG X (.Name x pos) (a1K i):=by
 intro pins s σ H v u Q I r h;exact wpAny_assign_Name (a1D I hN hi hx r (fun s' I'=>⟨_,H,I',h⟩) hf)
def gNil:TGs:=fun vs σ H Q=>vs=[]∧Q σ H
def a6v (t:TG)(u:TGs):TGs:=fun vs σ H Q=>∃v r,vs=v::r∧t v σ H fun σ' H'=>u r σ' H' Q
theorem a5R:PGs X [] gNil:=by
 intro pins s σ H vs us Q I r h;obtain⟨e,h⟩:=h;subst e;cases r;exact assignInOrder_nil ⟨σ,H,I,h⟩
theorem a3a {e:Expr}{es:List Expr}{t:TG}{u:TGs}(h1:PG X e t)(h2:PGs X es u)
   (hs:(assignEach (e::es) X.env).map (·.2)=assign e X.env::(assignEach es X.env).map (·.2):=by rfl):PGs X (e::es) (a6v t u):=by
 intro pins s σ H vs us Q I r h;obtain⟨v,vr,e1,h⟩:=h;subst e1;cases r with
 | cons r rr =>
   rw [hs];refine assignInOrder_cons (thn (h1 pins s σ H _ _ _ I r h) fun _ s1 ⟨σ1,H1,I1,q1⟩=>?_);exact h2 pins s1 σ1 H1 _ _ Q I1 rr q1
def gTup (K:PySem.W.Frag)(n:Nat)(t:TGs):TG:=fun v σ H Q=>∃a xs,v=.ref a∧SqT K H a xs∧xs.length=n∧t xs σ H Q
theorem a7P {es:List Expr}{k:Nat}{t:TGs}{n:Nat}(hc:X.calm=true)(h:PGs X es t)
   (hn:(assignEach es X.env).length=n:=by rfl) (hst:(assignEach es X.env).findIdx? (·.1)=none:=by rfl):PG X (.Tuple es k pos) (gTup X.K n t):=by
 intro pins s σ H v u Q I r hw;obtain⟨a,xs,e1,hq,hl,hw⟩:=hw;subst e1;cases r;obtain⟨its,rv,ht,hz⟩:=I.tuple hq;refine assign_Tuple_tuple (I.ok.hd hc) ht (by simp [hn,← hl,rv.length]) hst fun h' hx=>?_;have I1:Inv X pins σ H { s with heap:=h' }:=I.kept (t':=s.toks) fun b o e=>hx b o (Nat.ne_of_lt (Heap.lt_size e)) e;exact h pins _ σ H xs _ Q I1 (by simpa using rv) hw
def gSub (to ti:TE)(t:TSet):TG:=fun v σ H Q=>to σ H fun o H1=>ti σ H1 fun i H2=>t o i v H2 fun H3=>Q σ H3
theorem a5S {o i:Expr}{to ti:TE}{t:TSet}(ho:PE X o to)(hi:PE X i ti)(hs:PSet X t)
   (ha:∀v,assign (.Subscript o i pos) X.env v=(do
     let ov ← holding [v] (eval o X.env)
     let iv ← holding [v,ov] (eval i X.env)
     standAt pos
     holding [v,ov,iv] (setItem ov iv v)
     release [v,ov,iv] []):=by intro _;rfl):PG X (.Subscript o i pos) (gSub to ti t):=by
 intro pins s σ H v u Q I r h;rw [ha];refine wpAny_bind (wpAny_holding (thn (ho pins s σ H _ I h) fun ov s1 ⟨x,H1,I1,r1,q1⟩=>?_));refine wpAny_bind (wpAny_holding (thn (hi pins s1 σ H1 _ I1 q1) fun iv s2 ⟨y,H2,I2,r2,q2⟩=>?_));refine wpAny_bind (wpAny_standAt (wpAny_bind (wpAny_holding (thn (hs pins s2 σ H2 x y v ov iv u _ I2 r1 r2 r q2) fun _ s3 ⟨H3,I3,q3⟩=>?_))));exact wpAny_release ⟨σ,H3,I3,q3⟩
def tAsg (te:TE)(g:TG):TS:=fun D σ H=>te σ H fun x H1=>g x σ H1 D.nx
theorem a5K {tg e:Expr}{te:TE}{g:TG}(he:PE X e te)(hg:PG X tg g)(hs:swapsWithSole [tg] e pos.line X.env=pure false:=by rfl)(hw:swappedStores [tg] e X.env=pure none:=by rfl)
   (h1:(assignEach [tg] X.env).map (·.2)=[assign tg X.env]:=by rfl):PS X (.Assign [tg] e pos) (tAsg te g):=by
 intro pins s σ H D I h;refine wpAny_Assign_stores (thn (he pins s σ H _ I h) fun v s1 ⟨x,H1,I1,r1,q1⟩=>?_) hs hw;rw [h1];exact thn (hg pins s1 σ H1 x v _ I1 r1 q1) fun _ s2 q=>q
theorem a1S {i:Nat}{x:Str}{e:Expr}{te:TE}{pos':Pos}(hN:X.N.Nodup)(hi:X.N[i]?=some x)(hx:Loc X.env.scope x)(he:PE X e te)(hs:swapsWith e (some (.Name x pos')) pos.line X.env=pure false:=by rfl)(hf:X.fn x=true∨X.env.scope.names.lookup x=some .local:=by first | exact .inl rfl | exact .inr rfl | assumption) :
   PS X (.Assign [.Name x pos'] e pos) (tAsg te (a1K i)):=by
 intro pins s σ H D I h;refine wpAny_Assign_Name (thn (he pins s σ H _ I h) fun v s1 ⟨y,H1,I1,r1,q1⟩=>?_) hs;exact a1D I1 hN hi hx r1 (fun s2 I2=>⟨_,H1,I2,q1⟩) hf
def tPar (i j:Nat)(ta:TA):TS:=fun D σ H=>ta σ H fun vs H1=>∃v w,vs=[v,w]∧D.nx ((σ.set i (some v)).set j (some w)) H1
theorem ps_par {i j:Nat}{x y:Str}{a b:Expr}{ta:TA}{px py pt:Pos}{kt k2 pt2}(hc:X.calm=true)(hN:X.N.Nodup)(hi:X.N[i]?=some x)(hj:X.N[j]?=some y)(hij:i≠j)
   (hx:X.env.scope.names.lookup x=some .local) (hy:X.env.scope.names.lookup y=some .local) (ha:PA X [a,b] ta)
   (hw:swappedStores [.Tuple [.Name x px,.Name y py] kt pt] (.Tuple [a,b] k2 pt2) X.env=pure (some [x,y]))
   (hs:swapsWithSole [.Tuple [.Name x px,.Name y py] kt pt] (.Tuple [a,b] k2 pt2) pos.line X.env=pure false:=by rfl) :
   PS X (.Assign [.Tuple [.Name x px,.Name y py] kt pt] (.Tuple [a,b] k2 pt2) pos) (tPar i j ta):=by
 intro pins s σ H D I h;rw [exec_Assign_arm];refine wpAny_bind (wpAny_standAt ?_);rw [hs];refine wpAny_bind (wpAny_pure ?_);rw [if_neg (by decide)];refine wpAny_bind (Tuple_ (thn (ha _ pins s σ H _ I h) fun us s1 ⟨vs,H1,I1,r1,q1⟩=>?_));obtain⟨v,w,e1,q1⟩:=q1;subst e1
 obtain⟨u1,u2,rfl,rv,rw'⟩:∃u1 u2,us=[u1,u2]∧RelV v u1∧RelV w u2:=by
   cases r1 with
   | cons p q =>
     cases q with
     | cons p' q' =>
       cases q';exact⟨_,_,rfl,p,p'⟩
 refine wpAny_newObj_type ?_ (by show 2≤sizeLine;decide);have I2:Inv X pins σ H1 { s1 with heap:=s1.heap.push { cls:=.type "tuple",data:=.seq [u1,u2].toArray } }:=I1.kept (t':=s1.toks) fun b o e=>Heap.get?_push_of_some _ e;rw [hw];refine wpAny_bind (wpAny_pure ?_);show wpAny (model X.prog X.w) X.A (do rule "assign.swapped-stores";let items ← unpackItems (.ref s1.heap.objs.size) 2 none;assignInOrder [fun v=>bindName X.env y v,fun v=>bindName X.env x v] items.reverse;pure Flow.next) _ _ _;refine wpAny_bind (wpAny_rule (wpAny_bind (unpackItems_tuple (items:=#[u1,u2]) (I.ok.hd hc) (IsTup.new s1.heap _) fun h' hx'=>?_)));have I3:=I2.kept (h':=h') (t':=s1.toks) fun b o e=>hx' b o (Nat.ne_of_lt (Heap.lt_size e)) e;show wpAny _ _ (assignInOrder [fun v=>bindName X.env y v,fun v=>bindName X.env x v] [u2,u1]>>=fun _=>pure Flow.next) _ _ _;refine wpAny_bind (assignInOrder_cons (wpAny_bindName (a1D I3 hN hj (.inl hy) rw' (fun s2 I4=>?_) (.inr hy))));refine assignInOrder_cons (wpAny_bindName (a1D I4 hN hi (.inl hx) rv (fun s3 I5=>assignInOrder_nil (wpAny_pure ?_)) (.inr hx)));rw [List.set_comm _ _ (Ne.symm hij)] at I5;exact⟨_,H1,I5,q1⟩
def tAug (i:Nat)(te:TE)(ti:TIp):TS:=fun D σ H=>∃x,σ[i]?=some (some x)∧te σ H fun y H1=>ti x y H1 fun z H2=>D.nx (σ.set i (some z)) H2
theorem ps_aug {i:Nat}{x:Str}{e:Expr}{te:TE}{op:Operator}{ti:TIp}{pos':Pos}(hN:X.N.Nodup)(hi:X.N[i]?=some x)(hx:Loc X.env.scope x)(he:PE X e te)(ho:PIp X op ti)(hf:X.fn x=true∨X.env.scope.names.lookup x=some .local:=by first | exact .inl rfl | exact .inr rfl | assumption) :
   PS X (.AugAssign (.Name x pos') op e pos) (tAug i te ti):=by
 intro pins s σ H D I h;obtain⟨v,e1,h⟩:=h;obtain⟨m,hn,hl⟩:=I.loc;have vis:Vis X.env.scope x:=by rcases hx with k | k;exact .inl k;exact .inr (.inl k)
 obtain⟨u,r,l⟩:=hl i x v hi e1 vis;refine wpAny_AugAssign_Name ?_
 have go:wpAny (model X.prog X.w) X.A (eval e X.env) (fun w s₂=>wpAny (model X.prog X.w) X.A (inplaceOp op u w) (fun r s₃=>wpAny (model X.prog X.w) X.A (storeName X.env x r) (fun _=>SP X pins D .next) X.xe s₃) X.xe s₂) X.xe s:=by
   refine thn (he pins s σ H _ I h) fun w s1 ⟨y,H1,I1,r1,q1⟩=>?_;refine thn (ho pins s1 σ H1 v y u w _ I1 r r1 q1) fun z s2 ⟨zv,H2,I2,r2,q2⟩=>?_;exact a1D I2 hN hi hx r2 (fun s3 I3=>⟨_,H2,I3,q2⟩) hf
 rcases l with⟨hk,hm⟩ | ⟨hk,c,hc,hcell⟩
 · exact wpAny_loadName_local I.ok.kind hk hn hm go
 · rcases hk with hk | hk
   · exact wpAny_loadName_cell I.ok.kind hk hc hcell go
   · rcases hx with k | k
     · have:X.env.scope.names.lookup x=some .free:=hk;rw [k] at this;cases this
     · have:X.env.scope.names.lookup x=some .free:=hk;rw [k] at this;cases this
end
section
variable {X:Cx}{pos:Pos}
def tWhile (c:TT)(tb:TS):TS:=fun D σ H=>∃W:Nat→St→Hp→Prop,(∃m,W m σ H)∧∀m σ H,W m σ H→
 c σ H fun b H1=>if b=true then ∃N:St→Hp→Prop,(∀σ' H',N σ' H'→∃m',m' < m∧W m' σ' H')∧tb { D with nx:=N,ct:=N,bk:=D.nx } σ H1 else D.nx σ H1
theorem a7d {c:Expr}{body:List Stmt}{tc:TT}{tb:TS}(hp:PassesOwn (model X.prog X.w) X.A X.env X.xe)(hc:PT X c tc)(hb:PSs X body tb):PS X (.While c body [] pos) (tWhile tc tb):=by
 intro pins s σ H D I h;obtain⟨W,⟨m0,w0⟩,turn⟩:=h;refine wpAny_While (codeAny_whileLoop (fun n s'=>∃σ' H',Inv X pins σ' H' s'∧W n σ' H') ?_ m0 ⟨σ,H,I,w0⟩);rintro n s1 ⟨σ1,H1,I1,w1⟩;refine wpAny_passesOwn hp (thn (hc pins s1 σ1 H1 _ I1 (turn n σ1 H1 w1)) fun b s2 ⟨H2,I2,q2⟩=>?_);cases b with
 | true =>
   obtain⟨N,hN,q2⟩:=q2;rw [if_pos rfl];refine wpAny_passesOwn hp (thn (hb pins s2 σ1 H2 _ I2 q2) fun f s3 q3=>?_);cases f with
   | next =>
     obtain⟨σ3,H3,I3,n3⟩:=q3;obtain⟨m',hm,w3⟩:=hN σ3 H3 n3;exact⟨m',hm,σ3,H3,I3,w3⟩
   | cont =>
     obtain⟨σ3,H3,I3,n3⟩:=q3;obtain⟨m',hm,w3⟩:=hN σ3 H3 n3;exact⟨m',hm,σ3,H3,I3,w3⟩
   | brk=>exact q3
   | ret v=>exact q3
 | false =>
   rw [if_neg Bool.false_ne_true];exact wpAny_execs_nil ⟨σ1,H2,I2,q2⟩
end
structure It where
 go:Nat→Hp→Prop
 yld:Nat→Hp→V→Hp→Prop
 stop:Nat→Hp→Prop
def FpOk (X:Cx)(pins:List (Addr×Obj))(H:Hp)(b:Addr):Prop:=
 H b=none∧b≠X.env.locals∧b∉X.fs∧(b∈X.ex∨X.s₀.heap.objs.size≤b)∧(∀x c,X.env.cells.lookup x=some c→c≠b)∧∀p∈X.pn++pins,p.1≠b
theorem Inv.fpOk {X:Cx}{pins:List (Addr×Obj)}{σ:St}{H H':Hp}{s:Shared}{b:Addr}(I:Inv X pins σ H s)(hb:s.heap.objs.size≤b)(hn:H' b=none):FpOk X pins H' b:=by
 refine⟨hn,Nat.ne_of_gt (Nat.lt_of_lt_of_le I.lt hb),I.nofs hb,.inr (Nat.le_trans I.sz hb),fun x c e z=>?_,fun p hp z=>?_⟩
 · obtain⟨v,q⟩:=I.cell x c e;exact absurd (Nat.lt_of_lt_of_le q.lt (by rw [z];exact hb)) (Nat.lt_irrefl _)
 · exact absurd (Nat.lt_of_lt_of_le (Heap.lt_size (I.pin p hp).1) (by rw [z];exact hb)) (Nat.lt_irrefl _)
structure Turn (P:Program)(w:World)(K:PySem.W.Frag)(tg:Expr)(J:It)(fp:List Addr)(it:Addr)(tn:Nat→Heap→Prop):Prop where
 mem:it∈fp
 obj:∀i h,tn i h→∀b∈fp,∃o,h.get? b=some o∧∀v,o.data≠.cell v
 keep:∀i h h',tn i h→(∀b∈fp,∀o,h.get? b=some o→h'.get? b=some o)→tn i h'
 item:∀(X:Cx),X.prog=P→X.w=w→X.K=K→X.calm=true→∀(i:Nat) (pins:List (Addr×Obj)) (s:Shared) (σ:St) (H:Hp) (E:Value→Shared→Prop),Inv X pins σ H s→(∀b∈fp,FpOk X pins H b)→tn i s.heap→J.go i H→
   wpAny (model P w) X.A (pyNext (.ref it)) (fun r s1=>∃u,r=some u∧
     wpAny (model P w) X.A (letOwnedTupleGo tg (.ref it) u) (fun _ s2=>∃x H',Inv X pins σ H' s2∧RelV x u∧J.yld i H x H'∧tn (i + 1) s2.heap∧∀b∈fp,H' b=none) E s1) E s
 done:∀(X:Cx),X.prog=P→X.w=w→X.K=K→X.calm=true→∀(i:Nat) (pins:List (Addr×Obj)) (s:Shared) (σ:St) (H:Hp) (E:Value→Shared→Prop),Inv X pins σ H s→(∀b∈fp,FpOk X pins H b)→tn i s.heap→J.stop i H→
   wpAny (model P w) X.A (pyNext (.ref it)) (fun r s1=>r=none∧Inv X pins σ H s1) E s
 self:∀(A:Around) (i:Nat) (s:Shared) (Q:Value→Shared→Prop) (E:Value→Shared→Prop),tn i s.heap→Q (.ref it) s→wpAny (model P w) A (pyIter (.ref it)) Q E s
abbrev TI:=St→Hp→(It→Hp→Prop)→Prop
def PIE (X:Cx)(pins:List (Addr×Obj))(σ:St)(tg:Expr)(R:It→Hp→Prop)(itv:Value)(s2:Shared):Prop:=
 ∃(it:Addr) (fp:List Addr) (tn:Nat→Heap→Prop) (J:It) (H':Hp),itv=.ref it∧Inv X pins σ H' s2∧Turn X.prog X.w X.K tg J fp it tn∧tn 0 s2.heap∧(∀b∈fp,FpOk X pins H' b)∧R J H'
def PI (X:Cx)(tg iter:Expr)(wi:TI):Prop:=
 ∀ (pins : List (Addr × Obj)) (s : Shared) (σ : St) (H : Hp) (R : It → Hp → Prop), Inv X pins σ H s → wi σ H R →
   wpAny (model X.prog X.w) X.A (eval iter X.env) (fun v s1=>wpAny (model X.prog X.w) X.A (pyIter v) (PIE X pins σ tg R) X.xe s1) X.xe s
theorem a9g {M:Model}{A:Around}{E:Value→Shared→Prop}{s:Shared}{tg:Expr}{it:Addr}{u:Value}{o:Obj}{n:String}{vs:Array Value}{Q:Unit→Shared→Prop}(ho:s.heap.get? it=some o)(hc:o.cls=.type n)(hd:o.data=.fields vs)
   (hn:["enumerate","zip","dict_itemiterator","dict_reverseitemiterator","odict_iterator","itertools.zip_longest","itertools.pairwise"].contains n=false) (hQ:Q () s):wpAny M A (letOwnedTupleGo tg (.ref it) u) Q E s:=by
 unfold letOwnedTupleGo
 cases tg <;> first
   | exact wpAny_pure hQ
   | (cases u <;> first
       | exact wpAny_pure hQ
       | (refine wpAny_bind (wpAny_load ho ?_)
          rw [hc,hd];show wpAny M A (if(["enumerate","zip","dict_itemiterator","dict_reverseitemiterator","odict_iterator","itertools.zip_longest","itertools.pairwise"].contains n && vs[0]? == some (rawInt _))=true then _ else _) Q E s;rw [if_neg (by intro h;rw [hn,Bool.false_and] at h;cases h)]
          exact wpAny_pure hQ))
def Itl (K:PySem.W.Frag)(a:Addr):It:=
 ⟨fun i H=>∃xs x,SqL K H a xs∧xs[i]?=some x,fun i H x H'=>H'=H∧∀xs,SqL K H a xs→xs[i]?=some x,fun i H=>∃xs,SqL K H a xs∧xs.length≤i⟩
def Itt (K:PySem.W.Frag)(a:Addr):It:=
 ⟨fun i H=>∃xs x,SqT K H a xs∧xs[i]?=some x,fun i H x H'=>H'=H∧∀xs,SqT K H a xs→xs[i]?=some x,fun i H=>∃xs,SqT K H a xs∧xs.length≤i⟩
def Itr (lo:Int)(n:Nat):It:=⟨fun i _=>i < n,fun i H x H'=>H'=H∧x=.int (lo + i),fun i _=>n≤i⟩
theorem a5l {P:Program}{w:World}{K:PySem.W.Frag}{tg:Expr}(a it:Addr):Turn P w K tg (Itl K a) [it] it (fun i h=>h.IsListIter it a i) where
 mem:=by simp
 obj:=fun i h st b hb=>by
   have e:b=it:=by simpa using hb
   subst e;obtain⟨o,e,c,d⟩:=st;exact⟨o,e,fun v z=>by rw [d] at z;cases z⟩
 keep:=fun i h h' st k=>st.at fun o e=>k it (by simp) o e
 item:=by
   intro X hP hw hK hc i pins s σ H E I hf st hg;subst hP hw hK;obtain⟨xs,x,hq,hx⟩:=hg;obtain⟨its,rv,p,hz⟩:=I.list hq;obtain⟨u,hu,ru⟩:=rv.get hx;obtain⟨f0,f1,f2,f3,f4,f5⟩:=hf it (by simp);refine wpAny_pyNext_list_item st p.isList (x:=u) (by simpa using hu) fun h' st' sb=>?_;have I1:Inv X pins σ H { s with heap:=h' }:=I.turned (t':=s.toks) (fun b o hb e=>(sb.2 b hb).trans e) f0 f1 f3 f4 f5;obtain⟨o,e,c,d⟩:=id st';exact⟨u,rfl,a9g (s:={ s with heap:=h' }) e c d (by decide) ⟨x,H,I1,ru,⟨rfl,fun ys hy=>by rw [I.list_inj hy hq];exact hx⟩,st',fun b hb=>(hf b hb).1⟩⟩
 done:=by
   intro X hP hw hK hc i pins s σ H E I hf st hg;subst hP hw hK;obtain⟨xs,hq,hx⟩:=hg;obtain⟨its,rv,p,hz⟩:=I.list hq;obtain⟨f0,f1,f2,f3,f4,f5⟩:=hf it (by simp);have hl:=rv.length;exact wpAny_pyNext_list_end (I.ok.hd hc) st p.isList (by simp;omega) fun h' eb=>⟨rfl,I.turned (t':=s.toks) (fun b o hb e=>eb b o hb e) f0 f1 f3 f4 f5⟩
 self:=fun _ _ _ _ _ st h=>wpAny_pyIter_listiter st h
theorem a4N {P:Program}{w:World}{K:PySem.W.Frag}{tg:Expr}(a it:Addr):Turn P w K tg (Itt K a) [it] it (fun i h=>h.IsTupleIter it a i) where
 mem:=by simp
 obj:=fun i h st b hb=>by
   have e:b=it:=by simpa using hb
   subst e;obtain⟨o,e,c,d⟩:=st;exact⟨o,e,fun v z=>by rw [d] at z;cases z⟩
 keep:=fun i h h' st k=>st.at fun o e=>k it (by simp) o e
 item:=by
   intro X hP hw hK hc i pins s σ H E I hf st hg;subst hP hw hK;obtain⟨xs,x,hq,hx⟩:=hg;obtain⟨its,rv,p,hz⟩:=I.tuple hq;obtain⟨u,hu,ru⟩:=rv.get hx;obtain⟨f0,f1,f2,f3,f4,f5⟩:=hf it (by simp);refine wpAny_pyNext_tuple_item st (show s.heap.IsTuple a its.toArray from p) (x:=u) (by simpa using hu) fun h' st' sb=>?_;have I1:Inv X pins σ H { s with heap:=h' }:=I.turned (t':=s.toks) (fun b o hb e=>(sb.2 b hb).trans e) f0 f1 f3 f4 f5;obtain⟨o,e,c,d⟩:=id st';exact⟨u,rfl,a9g (s:={ s with heap:=h' }) e c d (by decide) ⟨x,H,I1,ru,⟨rfl,fun ys hy=>by rw [I.tuple_inj hy hq];exact hx⟩,st',fun b hb=>(hf b hb).1⟩⟩
 done:=by
   intro X hP hw hK hc i pins s σ H E I hf st hg;subst hP hw hK;obtain⟨xs,hq,hx⟩:=hg;obtain⟨its,rv,p,hz⟩:=I.tuple hq;obtain⟨f0,f1,f2,f3,f4,f5⟩:=hf it (by simp);have hl:=rv.length;exact wpAny_pyNext_tuple_end (I.ok.hd hc) st (show s.heap.IsTuple a its.toArray from p) (by simp;omega) fun h' eb=>⟨rfl,I.turned (t':=s.toks) (fun b o hb e=>eb b o hb e) f0 f1 f3 f4 f5⟩
 self:=fun _ _ _ _ _ st h=>wpAny_pyIter_tupleiter st h
theorem a4P {P:Program}{w:World}{K:PySem.W.Frag}{tg:Expr}(it:Addr)(lo:Int)(n:Nat):Turn P w K tg (Itr lo n) [it] it (fun i h=>IsRangeIter h it (lo + (i:Nat) * 1) ((n:Int) - (i:Nat)) 1) where
 mem:=by simp
 obj:=fun i h st b hb=>by
   have e:b=it:=by simpa using hb
   subst e
   exact⟨_,st,fun v z=>by
     have z':Data.fields _=Data.cell v:=z
     cases z'⟩
 keep:=fun i h h' st k=>k it (by simp) _ st
 item:=by
   intro X hP hw hK hc i pins s σ H E I hf st hg;subst hP hw hK;obtain⟨f0,f1,f2,f3,f4,f5⟩:=hf it (by simp);have W:=Walks.range (prog:=X.prog) (w:=X.w) (I.ok.hd hc) it lo 1 n;refine W.item i s _ _ hg st fun v h' tk hv st' kk=>?_;obtain⟨t,rfl⟩:=hv;have I1:Inv X pins σ H { s with heap:=h',toks:=tk }:=I.turned (fun b o hb e=>kk b o (by simpa using hb) e) f0 f1 f3 f4 f5;refine⟨_,rfl,a9g (s:={ s with heap:=h',toks:=tk }) (n:="range_iterator") st' rfl rfl (by decide) ⟨.int (lo + i),H,I1,⟨t,?_⟩,⟨rfl,rfl⟩,st',fun b hb=>(hf b hb).1⟩⟩;rw [Int.mul_one]
 done:=by
   intro X hP hw hK hc i pins s σ H E I hf st hg;subst hP hw hK;obtain⟨f0,f1,f2,f3,f4,f5⟩:=hf it (by simp);exact wpAny_pyNext_range_end (I.ok.hd hc) st (by have:n≤i:=hg;omega) fun h' eb=>⟨rfl,I.turned (t':=s.toks) (fun b o hb e=>eb b o hb e) f0 f1 f3 f4 f5⟩
 self:=fun _ _ _ _ _ st h=>wpAny_pyIter_rangeiter st h
end L2
namespace L2
open PySem PySem.Spec PyProof.Rows
section
variable {X:Cx}{tg:Expr}
def iList (K:PySem.W.Frag)(tl:TE):TI:=fun σ H R=>tl σ H fun x H1=>∃a,x=.ref a∧(∃xs,SqL K H1 a xs)∧R (Itl K a) H1
def iTup (K:PySem.W.Frag)(tl:TE):TI:=fun σ H R=>tl σ H fun x H1=>∃a,x=.ref a∧(∃xs,SqT K H1 a xs)∧R (Itt K a) H1
theorem a5Q {l:Expr}{tl:TE}(hl:PE X l tl):PI X tg l (iList X.K tl):=by
 intro pins s σ H R I h;refine thn (hl pins s σ H _ I h) fun v s1 ⟨x,H1,I1,r1,q1⟩=>?_;obtain⟨a,e,⟨xs,hq⟩,q⟩:=q1;subst e;cases r1;obtain⟨its,rv,p,hz⟩:=I1.list hq;refine wpAny_pyIter_list p.isList ?_;refine⟨s1.heap.objs.size,[s1.heap.objs.size],_,_,H1,rfl,I1.kept (t':=s1.toks) fun b o e=>Heap.get?_push_of_some _ e,a5l a _,⟨_,Heap.get?_push_size _ rfl,rfl,rfl⟩,fun b hb=>?_,q⟩;have e:b=s1.heap.objs.size:=by simpa using hb
 subst e;exact I1.fpOk (Nat.le_refl _) (I1.hok.fresh (Nat.le_refl _))
theorem pi_tup {l:Expr}{tl:TE}(hl:PE X l tl):PI X tg l (iTup X.K tl):=by
 intro pins s σ H R I h;refine thn (hl pins s σ H _ I h) fun v s1 ⟨x,H1,I1,r1,q1⟩=>?_;obtain⟨a,e,⟨xs,hq⟩,q⟩:=q1;subst e;cases r1;obtain⟨its,rv,p,hz⟩:=I1.tuple hq;refine wpAny_pyIter_tuple (show s1.heap.IsTuple a its.toArray from p) ?_;refine⟨s1.heap.objs.size,[s1.heap.objs.size],_,_,H1,rfl,I1.kept (t':=s1.toks) fun b o e=>Heap.get?_push_of_some _ e,a4N a _,⟨_,Heap.get?_push_size _ rfl,rfl,rfl⟩,fun b hb=>?_,q⟩;have e:b=s1.heap.objs.size:=by simpa using hb
 subst e;exact I1.fpOk (Nat.le_refl _) (I1.hok.fresh (Nat.le_refl _))
theorem a4k {pins:List (Addr×Obj)}{σ:St}{H:Hp}{s:Shared}{R:It→Hp→Prop}{E:Value→Shared→Prop}{lo hi:Int}{t u v:Tok}{tk:Nat}(I:Inv X pins σ H s)(h1:-(2 ^ 62)≤lo)(h2:lo < 2 ^ 62)(h3:-(2 ^ 62)≤hi)(h4:hi < 2 ^ 62)
   (q:R (Itr lo (hi - lo).toNat) H):wpAny (model X.prog X.w) X.A (pyIter (.ref s.heap.objs.size)) (PIE X pins σ tg R) E { s with heap:=s.heap.push { cls:=.type "range",data:=.fields #[.int lo t,.int hi u,.int 1 v] },toks:=tk }:=by
 refine wpAny_pyIter_range (IsRange.new ..) (small_one h1 h2 h3 h4) ?_;have I1:Inv X pins σ H { s with heap:=s.heap.push { cls:=.type "range",data:=.fields #[.int lo t,.int hi u,.int 1 v] },toks:=tk }:=I.kept fun b o e=>Heap.get?_push_of_some _ e
 refine⟨(s.heap.push { cls:=.type "range",data:=.fields #[.int lo t,.int hi u,.int 1 v] }).objs.size,[(s.heap.push { cls:=.type "range",data:=.fields #[.int lo t,.int hi u,.int 1 v] }).objs.size],_,_,H,rfl,
   I1.kept (t':=tk) fun b o e=>Heap.get?_push_of_some _ e,a4P _ lo (hi - lo).toNat,?_,fun b hb=>?_,q⟩
 · have e1:lo + ((0:Nat):Int) * 1=lo:=by simp
   have e2:(((hi - lo).toNat:Nat):Int) - ((0:Nat):Int)=Builtin.Range.rangeSize lo hi 1:=by rw [rangeSize_one];split <;> omega
   show IsRangeIter _ _ (lo + ((0:Nat):Int) * 1) ((((hi - lo).toNat:Nat):Int) - ((0:Nat):Int)) 1;rw [e1,e2];exact Heap.get?_push_size _ rfl
 · have e:b=(s.heap.push { cls:=.type "range",data:=.fields #[.int lo t,.int hi u,.int 1 v] }).objs.size:=by simpa using hb
   subst e;exact I1.fpOk (Nat.le_refl _) (I1.hok.fresh (Nat.le_refl _))
def iRng1 (ta:TA):TI:=fun σ H R=>ta σ H fun vs H1=>∃j:Int,vs=[.int j]∧-(2 ^ 62)≤j∧j < 2 ^ 62∧R (Itr 0 j.toNat) H1
def iRng2 (ta:TA):TI:=fun σ H R=>ta σ H fun vs H1=>∃i j:Int,vs=[.int i,.int j]∧(-(2 ^ 62)≤i∧i < 2 ^ 62∧-(2 ^ 62)≤j∧j < 2 ^ 62)∧R (Itr i (j - i).toNat) H1
theorem a5P {a:Expr}{ta:TA}{p pos:Pos}(hg:Gl X "range")(hm:X.mg "range"=none)(ha:PA X [a] ta)(hs:starEach [a] X.env=[(false,eval a X.env)]:=by rfl):PI X tg (.Call (.Name "range" p) [a] [] pos) (iRng1 ta):=by
 intro pins s σ H R I h;refine Call_ (a2D I hg hm boot_range (PyProof.Rows.callWith_type1 (thn (ha pos pins s σ H _ I h) fun us s1 ⟨vs,H1,I1,r1,q1⟩=>?_) hs rfl));obtain⟨j,e,q1,q2,q⟩:=q1;subst e;cases r1 with
 | cons r rr =>
   cases rr;obtain⟨t,rfl⟩:=r;exact call_range_1 (a4k I1 (by omega) (by omega) q1 q2 (by simpa using q))
theorem a5O {a b:Expr}{ta:TA}{p pos:Pos}(hg:Gl X "range")(hm:X.mg "range"=none)(ha:PA X [a,b] ta)(hs:starEach [a,b] X.env=[(false,eval a X.env),(false,eval b X.env)]:=by rfl)(hs2:starEach [b] X.env=[(false,eval b X.env)]:=by rfl) :
   PI X tg (.Call (.Name "range" p) [a,b] [] pos) (iRng2 ta):=by
 intro pins s σ H R I h;refine Call_ (a2D I hg hm boot_range (PyProof.Rows.callWith_type1 (thn (ha pos pins s σ H _ I h) fun us s1 ⟨vs,H1,I1,r1,q1⟩=>?_) (by rw [hs,hs2]) (by rw [hs2];rfl)));obtain⟨i,j,e,⟨q1,q2,q3,q4⟩,q⟩:=q1;subst e;cases r1 with
 | cons r rr =>
   cases rr with
   | cons r' rr =>
     cases rr;obtain⟨t,rfl⟩:=r;obtain⟨t',rfl⟩:=r';exact call_range_2 (a4k I1 q1 q2 q3 q4 q)
def tFor (wi:TI)(g:TG)(tb:TS):TS:=fun D σ H=>wi σ H fun J H1=>∃W:Nat→Nat→St→Hp→Prop,(∃m,W 0 m σ H1)∧∀i m σ H,W i m σ H→
 (J.stop i H∧D.nx σ H)∨(J.go i H∧∃N:St→Hp→Prop,(∀σ' H',N σ' H'→∃m',m' < m∧W (i + 1) m' σ' H')∧∀x H',J.yld i H x H'→g x σ H' fun σ2 H2=>tb { D with nx:=N,ct:=N,bk:=D.nx } σ2 H2)
def a0O (fp:List Addr)(h:Heap):List (Addr×Obj):=fp.filterMap fun b=>(h.get? b).map fun o=>(b,o)
theorem a0u {fp:List Addr}{h:Heap}{b:Addr}{o:Obj}(hb:b∈fp)(e:h.get? b=some o):(b,o)∈a0O fp h:=List.mem_filterMap.mpr ⟨b,hb,by rw [e];rfl⟩
theorem a6f {fp:List Addr}{h:Heap}{p:Addr×Obj}(hp:p∈a0O fp h):p.1∈fp∧h.get? p.1=some p.2:=by
 obtain⟨b,hb,e⟩:=List.mem_filterMap.mp hp;cases q:h.get? b with
 | none=>rw [q] at e;cases e
 | some o =>
   rw [q] at e;have e':(b,o)=p:=Option.some.inj e;subst e';exact⟨hb,q⟩
theorem Inv.pinned {pins:List (Addr×Obj)}{σ:St}{H:Hp}{s:Shared}{fp:List Addr}(I:Inv X pins σ H s)(hf:∀b∈fp,FpOk X pins H b)(ho:∀b∈fp,∃o,s.heap.get? b=some o∧∀v,o.data≠.cell v):Inv X (pins++a0O fp s.heap) σ H s:=
 I.pins_of fun p hp=>(List.mem_append.mp hp).elim (fun z=>I.pin p (List.mem_append_right _ z)) fun z=>by
   obtain⟨hb,e⟩:=a6f z;obtain⟨f0,f1,f2,_⟩:=hf p.1 hb;obtain⟨o,e',d⟩:=ho p.1 hb;rw [e] at e';cases e';exact⟨e,f0,f1,f2,d⟩
theorem Inv.unpinned {pins pl:List (Addr×Obj)}{σ:St}{H:Hp}{s:Shared}(I:Inv X (pins++pl) σ H s):Inv X pins σ H s:=I.pins_of fun p hp=>I.pin p (List.mem_append_right _ (List.mem_append_left _ hp))
theorem a7O {iter:Expr}{body:List Stmt}{wi:TI}{g:TG}{tb:TS}{pos:Pos}(hp:PassesOwn (model X.prog X.w) X.A X.env X.xe)(hc:X.calm=true)(hi:PI X tg iter wi)(hg:PG X tg g)(hb:PSs X body tb)
   (hs:∀x,foldedSetIterable iter X.env x=pure x:=by intro _;rfl):PS X (.For tg iter body [] pos) (tFor wi g tb):=by
 intro pins s σ H D I h;refine wpAny_For (thn (hi pins s σ H _ I h) fun v s1 h1=>thn h1 fun itv s2 h2=>?_) hs;obtain⟨it,fp,tn,J,H2,e,I2,T,st2,f2,W,⟨m0,w0⟩,turn⟩:=h2;subst e
 -- what stays true of the iterator's objects through the loop
 have stat:∀{H':Hp},(∀b∈fp,H' b=none)→∀b∈fp,FpOk X pins H' b:=fun hn b hb=>⟨hn b hb,(f2 b hb).2⟩;refine codeAny_forLoop_any (fun n s'=>∃i σ' H',Inv X pins σ' H' s'∧tn i s'.heap∧(∀b∈fp,H' b=none)∧W i n σ' H') ?_ m0 ⟨0,σ,H2,I2,st2,fun b hb=>(f2 b hb).1,w0⟩;rintro n s3 ⟨i,σ3,H3,I3,st3,fr3,w3⟩;rcases turn i n σ3 H3 w3 with⟨stop,qn⟩ | ⟨go,N,hN,step⟩
 · refine wpAny_passesOwn hp (thn (T.done X rfl rfl rfl hc i pins s3 σ3 H3 X.xe I3 (stat fr3) st3 stop) fun r s4 ⟨hr,I4⟩=>?_);subst hr;exact wpAny_execs_nil ⟨σ3,H3,I4,qn⟩
 · refine wpAny_passesOwn hp (thn (T.item X rfl rfl rfl hc i pins s3 σ3 H3 X.xe I3 (stat fr3) st3 go) fun r s4 ⟨u,hr,h4⟩=>?_);subst hr;refine wpAny_passesOwn hp (thn h4 fun _ s5 ⟨x,H5,I5,r5,y5,st5,fr5⟩=>?_);have I5':=I5.pinned (stat fr5) (T.obj _ _ st5);refine wpAny_passesOwn hp (thn (hg _ s5 σ3 H5 x u _ I5' r5 (step x H5 y5)) fun _ s6 ⟨σ6,H6,I6,q6⟩=>?_);refine wpAny_passesOwn hp (thn (hb _ s6 σ6 H6 _ I6 q6) fun f s7 q7=>?_)
   have again:∀{σ7:St} {H7:Hp},Inv X (pins++a0O fp s5.heap) σ7 H7 s7→N σ7 H7→∃m,m < n∧∃i σ' H',Inv X pins σ' H' s7∧tn i s7.heap∧(∀b∈fp,H' b=none)∧W i m σ' H':=fun {σ7 H7} I7 n7=>by
     obtain⟨m',hm,w7⟩:=hN σ7 H7 n7;refine⟨m',hm,i + 1,σ7,H7,I7.unpinned,T.keep _ _ _ st5 fun b hb o e=>(I7.pin (b,o) (List.mem_append_right _ (List.mem_append_right _ (a0u hb e)))).1,fun b hb=>?_,w7⟩;obtain⟨o,e,d⟩:=T.obj _ _ st5 b hb;exact(I7.pin (b,o) (List.mem_append_right _ (List.mem_append_right _ (a0u hb e)))).2.1
   cases f with
   | next=>obtain⟨σ7,H7,I7,n7⟩:=q7;exact again I7 n7
   | cont=>obtain⟨σ7,H7,I7,n7⟩:=q7;exact again I7 n7
   | brk=>obtain⟨σ7,H7,I7,q7⟩:=q7;exact⟨σ7,H7,I7.unpinned,q7⟩
   | ret v=>obtain⟨x7,σ7,H7,I7,r7,q7⟩:=q7;exact⟨x7,σ7,H7,I7.unpinned,r7,q7⟩
end
theorem a7x {K:PySem.W.Frag}{a:Addr}{xs:List V}{g:TG}{tb:TS}{D:Ends}{σ:St}{H:Hp}(Pv:Nat→St→Hp→Prop)(h0:Pv 0 σ H)(hl:∀i σ H,i≤xs.length→Pv i σ H→SqL K H a xs)
   (hs:∀i x σ H,xs[i]?=some x→Pv i σ H→g x σ H fun σ2 H2=>tb { D with nx:=Pv (i + 1),ct:=Pv (i + 1),bk:=D.nx } σ2 H2) (hd:∀σ H,Pv xs.length σ H→D.nx σ H) :
   ∃ W : Nat → Nat → St → Hp → Prop, (∃ m, W 0 m σ H) ∧ ∀ i m σ H, W i m σ H →
     ((Itl K a).stop i H∧D.nx σ H)∨((Itl K a).go i H∧∃N:St→Hp→Prop,(∀σ' H',N σ' H'→∃m',m' < m∧W (i + 1) m' σ' H')∧∀x H',(Itl K a).yld i H x H'→g x σ H' fun σ2 H2=>tb { D with nx:=N,ct:=N,bk:=D.nx } σ2 H2):=by
 refine⟨fun i m σ H=>m=xs.length - i∧i≤xs.length∧Pv i σ H,⟨xs.length,by simp,Nat.zero_le _,h0⟩,?_⟩;rintro i m σ H ⟨rfl,hi,p⟩;have q:=hl i σ H hi p
 by_cases hlt:i < xs.length
 · refine .inr ⟨⟨xs,xs[i],q,by simp [hlt]⟩,Pv (i + 1),fun σ' H' p'=>⟨xs.length - (i + 1),by omega,rfl,hlt,p'⟩,fun x H' y=>?_⟩;obtain⟨e,y⟩:=y;subst e;exact hs i x σ _ (y xs q) p
 · have e:i=xs.length:=by omega
   subst e;exact .inl ⟨⟨xs,q,Nat.le_refl _⟩,hd σ H p⟩
end L2
namespace L2
open PySem PySem.Spec PyProof.Rows
abbrev R2:=V→V→Hp→VK→Prop
def OpR (X:Cx)(f:Value→Value→Sem Value)(r:R2):Prop:=
 ∀ (pins : List (Addr × Obj)) (s : Shared) (σ : St) (H : Hp) (x y : V) (v u : Value) (Q : VK), Inv X pins σ H s → RelV x v → RelV y u → r x y H Q →
   wpAny (model X.prog X.w) X.A (f v u) (EP X pins σ Q) X.xe s
def UnR (X:Cx)(f:Value→Sem Value)(r:V→Hp→VK→Prop):Prop:=
 ∀ (pins : List (Addr × Obj)) (s : Shared) (σ : St) (H : Hp) (x : V) (v : Value) (Q : VK), Inv X pins σ H s → RelV x v → r x H Q →
   wpAny (model X.prog X.w) X.A (f v) (EP X pins σ Q) X.xe s
def a0U (X:Cx)(f:Value)(r:List V→Hp→VK→Prop):Prop:=
 ∀ (pins : List (Addr × Obj)) (s : Shared) (σ : St) (H : Hp) (xs : List V) (us : List Value) (Q : VK), Inv X pins σ H s → Vals xs us → r xs H Q →
   wpAny (model X.prog X.w) X.A (call f us) (EP X pins σ Q) X.xe s
def tOp (r:R2)(ta tb:TE):TE:=fun σ H Q=>ta σ H fun x H1=>tb σ H1 fun y H2=>r x y H2 Q
def tUn (r:V→Hp→VK→Prop)(ta:TE):TE:=fun σ H Q=>ta σ H fun x H1=>r x H1 Q
def rI (C:Int→Int→Prop)(g:Int→Int→V):R2:=fun x y H Q=>∃i j,x=.int i∧y=.int j∧C i j∧Q (g i j) H
def rI0 (g:Int→Int→V):R2:=fun x y H Q=>∃i j,x=.int i∧y=.int j∧Q (g i j) H
def rU (g:Int→V):V→Hp→VK→Prop:=fun x H Q=>∃i,x=.int i∧Q (g i) H
section
variable {X:Cx}{a b c:Expr}{ta tb tc:TE}{pos:Pos}
theorem binT (ha:PE X a ta)(hb:PE X b tb){pins:List (Addr×Obj)}{s:Shared}{σ:St}{H:Hp}{R:V→V→Hp→Prop}(I:Inv X pins σ H s)
   (h:ta σ H fun x H1=>tb σ H1 fun y H2=>R x y H2) {Q:Value→Shared→Prop} {f:Value→Value→Sem Value}
   (hf:∀v u s2 x y H2,Inv X pins σ H2 s2→RelV x v→RelV y u→R x y H2→wpAny (model X.prog X.w) X.A (f v u) Q X.xe s2) :
   wpAny (model X.prog X.w) X.A (eval a X.env) (fun v s₁=>wpAny (model X.prog X.w) X.A (eval b X.env) (fun u s₂=>wpAny (model X.prog X.w) X.A (f v u) Q X.xe s₂) X.xe s₁) X.xe s:=by
 refine thn (ha pins s σ H _ I h) fun v s1 ⟨x,H1,I1,r1,q1⟩=>?_;refine thn (hb pins s1 σ H1 _ I1 q1) fun u s2 ⟨y,H2,I2,r2,q2⟩=>?_;exact hf v u s2 x y H2 I2 r1 r2 q2
theorem a0v {op:Operator}{r:R2}(ho:OpR X (binaryOp op) r)(ha:PE X a ta)(hb:PE X b tb):PE X (.BinOp a op b pos) (tOp r ta tb):=by
 intro pins s σ H Q I h;exact wpAny_BinOp (binT ha hb I h fun v u s2 x y H2 I2 rx ry q=>ho pins s2 σ H2 x y v u Q I2 rx ry q)
theorem pe_un {op:UnaryOp}{r:V→Hp→VK→Prop}(ho:UnR X (unaryOp op) r)(ha:PE X a ta):PE X (.UnaryOp op a pos) (tUn r ta):=by
 intro pins s σ H Q I h;exact UnaryOp_ (thn (ha pins s σ H _ I h) fun v s1 ⟨x,H1,I1,r1,q1⟩=>ho pins s1 σ H1 x v Q I1 r1 q1)
theorem opI {f:Value→Value→Sem Value}{C:Int→Int→Prop}{g:Int→Int→Int}
   (rule:∀(i j:Int) (t u:Tok) (s:Shared) (Q:Value→Shared→Prop) (E:Value→Shared→Prop),C i j→Q (.int (g i j) s.toks) { s with toks:=s.toks + 1 }→wpAny (model X.prog X.w) X.A (f (.int i t) (.int j u)) Q E s) :
   OpR X f (rI C fun i j=>.int (g i j)):=by
 intro pins s σ H x y v u Q I rx ry h;obtain⟨i,j,rfl,rfl,hc,q⟩:=h;obtain⟨t,rfl⟩:=rx;obtain⟨t',rfl⟩:=ry;exact rule i j t t' s _ _ hc ⟨.int (g i j),H,I.tok _,⟨_,rfl⟩,q⟩
theorem opI0 {f:Value→Value→Sem Value}{g:Int→Int→Int}
   (rule:∀(i j:Int) (t u:Tok) (s:Shared) (Q:Value→Shared→Prop) (E:Value→Shared→Prop),Q (.int (g i j) s.toks) { s with toks:=s.toks + 1 }→wpAny (model X.prog X.w) X.A (f (.int i t) (.int j u)) Q E s) :
   OpR X f (rI0 fun i j=>.int (g i j)):=by
 intro pins s σ H x y v u Q I rx ry h;obtain⟨i,j,rfl,rfl,q⟩:=h;obtain⟨t,rfl⟩:=rx;obtain⟨t',rfl⟩:=ry;exact rule i j t t' s _ _ ⟨.int (g i j),H,I.tok _,⟨_,rfl⟩,q⟩
theorem opB0 {f:Value→Value→Sem Value}{g:Int→Int→Bool}
   (rule:∀(i j:Int) (t u:Tok) (s:Shared) (Q:Value→Shared→Prop) (E:Value→Shared→Prop),Q (.bool (g i j)) s→wpAny (model X.prog X.w) X.A (f (.int i t) (.int j u)) Q E s) :
   OpR X f (rI0 fun i j=>.bl (g i j)):=by
 intro pins s σ H x y v u Q I rx ry h;obtain⟨i,j,rfl,rfl,q⟩:=h;obtain⟨t,rfl⟩:=rx;obtain⟨t',rfl⟩:=ry;exact rule i j t t' s _ _ ⟨.bl (g i j),H,I,rfl,q⟩
def CDiv (i j:Int):Prop:=0 < j∧j < 1073741824
def CPow (i j:Int):Prop:=0≤j∧j≤1000000∧i.natAbs < 2 ^ 64
def CMul (i j:Int):Prop:=(-(2 ^ 64) < i∧i < 2 ^ 64)∨(-(2 ^ 64) < j∧j < 2 ^ 64)
theorem CMul.ok {i j:Int}(h:CMul i j):IntMulOk i j:=by
 rcases h with⟨h1,h2⟩ | ⟨h1,h2⟩
 · exact .of_left (intBits_le_64 h1 h2)
 · exact .of_right (intBits_le_64 h1 h2)
theorem a1t:OpR X (binaryOp .Add) (rI0 fun i j=>.int (i + j)):=opI0 fun _ _ _ _ _ _ _ q=>add_int q
theorem op_sub:OpR X (binaryOp .Sub) (rI0 fun i j=>.int (i - j)):=opI0 fun _ _ _ _ _ _ _ q=>sub_int q
theorem a1G:OpR X (binaryOp .Mult) (rI CMul fun i j=>.int (i * j)):=opI fun _ _ _ _ _ _ _ hc q=>mul_int q hc.ok
theorem a3V:OpR X (binaryOp .FloorDiv) (rI CDiv fun i j=>.int (i / j)):=opI fun i j _ _ _ _ _ hc q=>by
 have h1:(0:Int) < j:=hc.1;have h2:j < 1073741824:=hc.2;exact floordiv_int (by omega) (by rw [Int.fdiv_eq_ediv_of_nonneg i (by omega)];exact q) (.inl (PyProof.noPylong_small (by omega)))
theorem a1H:OpR X (binaryOp .Mod) (rI (fun _ j=>0 < j) fun i j=>.int (i % j)):=opI fun i j _ _ _ _ _ hc q=>by
 have h1:(0:Int) < j:=hc;exact mod_int' (by omega) (by rw [Int.fmod_eq_emod_of_nonneg i (by omega)];exact q)
theorem a5X:OpR X (binaryOp .Pow) (rI CPow fun i j=>.int (i ^ j.toNat)):=opI fun _ _ _ _ _ _ _ hc q=>pow_int_small hc.1 hc.2.1 hc.2.2 q
theorem a9a:OpR X (inplaceOp .Add) (rI0 fun i j=>.int (i + j)):=opI0 fun _ _ _ _ _ _ _ q=>iadd_int q
theorem unI {f:Value→Sem Value}{g:Int→Int}
   (rule:∀(i:Int) (t:Tok) (s:Shared) (Q:Value→Shared→Prop) (E:Value→Shared→Prop),Q (.int (g i) s.toks) { s with toks:=s.toks + 1 }→wpAny (model X.prog X.w) X.A (f (.int i t)) Q E s) :
   UnR X f (rU fun i=>.int (g i)):=by
 intro pins s σ H x v Q I rx h;obtain⟨i,rfl,q⟩:=h;obtain⟨t,rfl⟩:=rx;exact rule i t s _ _ ⟨.int (g i),H,I.tok _,⟨_,rfl⟩,q⟩
theorem a7D:UnR X (unaryOp .USub) (rU fun i=>.int (-i)):=unI fun _ _ _ _ _ q=>neg_int q
end
section
variable {X:Cx}{a b c:Expr}{ta tb tc:TE}{pos:Pos}
theorem fin_bl {pins:List (Addr×Obj)}{σ:St}{H:Hp}{s:Shared}{Q:VK}{k k':Bool}(I:Inv X pins σ H s)(q:Q (.bl k) H)(e:k=k'):EP X pins σ Q (.bool k') s:=by
 subst e;exact⟨.bl k,H,I,rfl,q⟩
theorem op_lt:OpR X (compareOp .Lt) (rI0 fun i j=>.bl (decide (i < j))):=opB0 fun _ _ _ _ _ _ _ q=>lt_int q
theorem op_gt:OpR X (compareOp .Gt) (rI0 fun i j=>.bl (decide (j < i))):=opB0 fun _ _ _ _ _ _ _ q=>gt_int q
theorem op_ge:OpR X (compareOp .GtE) (rI0 fun i j=>.bl (decide (j≤i))):=opB0 fun _ _ _ _ _ _ _ q=>ge_int q
theorem a6b:OpR X (compareOp .Lt) (fun x y H Q=>∃i j,x=.str i∧y=.str j∧Q (.bl (decide (i.cps.toList < j.cps.toList))) H):=by
 intro pins s σ H x y v u Q I rx ry h;obtain⟨i,j,rfl,rfl,q⟩:=h;obtain⟨t,rfl⟩:=rx;obtain⟨t',rfl⟩:=ry;exact lt_str (fin_bl I q rfl)
theorem OpR.or {f:Value→Value→Sem Value}{r r':R2}(h:OpR X f r)(h':OpR X f r'):OpR X f (fun x y H Q=>r x y H Q∨r' x y H Q):=by
 intro pins s σ H x y v u Q I rx ry q;rcases q with q | q
 · exact h pins s σ H x y v u Q I rx ry q
 · exact h' pins s σ H x y v u Q I rx ry q
theorem a1u (b:Expr){op:CmpOp}(h:op≠.In:=by decide)(h2:op≠.NotIn:=by decide):behindInMarks op b=false:=by
 have e1:(op == CmpOp.In)=false:=by cases op <;> first | rfl | exact absurd rfl h
 have e2:(op == CmpOp.NotIn)=false:=by cases op <;> first | rfl | exact absurd rfl h2
 cases b <;> simp [behindInMarks,e1,e2]
theorem a5V {op:CmpOp}{r:R2}(ho:OpR X (compareOp op) r)(ha:PE X a ta)(hb:PE X b tb)(hm:behindInMarks op b=false):PE X (.Compare a [op] [b] pos) (tOp r ta tb):=by
 intro pins s σ H Q I h;exact wpAny_Compare1 (binT ha hb I h fun v u s2 x y H2 I2 rx ry q=>ho pins s2 σ H2 x y v u Q I2 rx ry q) hm
def tTest (t:TE):TT:=fun σ H Q=>t σ H fun x H'=>∃k,x=.bl k∧Q k H'
theorem a2Z {op:CmpOp}{r:R2}(ho:OpR X (compareOp op) r)(ha:PE X a ta)(hb:PE X b tb)(hm:behindInMarks op b=false):PT X (.Compare a [op] [b] pos) (tTest (tOp r ta tb)):=by
 intro pins s σ H Q I h
 refine wpAny_isTrue_Compare1 (thn (ha pins s σ H _ I h) fun v s1 ⟨x,H1,I1,r1,q1⟩=>thn (hb pins s1 σ H1 _ I1 q1) fun u s2 ⟨y,H2,I2,r2,q2⟩=>
   thn (ho pins s2 σ H2 x y v u _ I2 r1 r2 q2) fun c s3 ⟨z,H3,I3,r3,k,e,q3⟩=>?_) hm
 subst e;cases r3;exact wpAny_truthy_bool ⟨H3,I3,q3⟩
theorem a2C:(sizeLine:Nat) < 2 ^ 63:=by rw [sizeLine_eq];decide
theorem a4Z:OpR X (binaryOp .Add) (fun x y H Q=>∃i j,x=.str i∧y=.str j∧i.length + j.length≤sizeLine∧Q (.str (i++j)) H):=by
 intro pins s σ H x y v u Q I rx ry h;obtain⟨i,j,rfl,rfl,hz,q⟩:=h;obtain⟨t,rfl⟩:=rx;obtain⟨t',rfl⟩:=ry;exact add_str (fun t' tk=>⟨.str (i++j),H,I.tok _,⟨_,rfl⟩,q⟩) hz
theorem a3P {x:V}{us:List Value}(r:Vals [x] us):∃u,us=[u]∧RelV x u:=by
 cases r with
 | cons r1 r2=>cases r2;exact⟨_,rfl,r1⟩
theorem vals2 {x y:V}{us:List Value}(r:Vals [x,y] us):∃u w',us=[u,w']∧RelV x u∧RelV y w':=by
 cases r with
 | cons r1 r2 =>
   cases r2 with
   | cons r3 r4=>cases r4;exact⟨_,_,rfl,r1,r3⟩
theorem a4K:a0U X (.builtin "abs") (fun xs H Q=>∃i,xs=[.int i]∧Q (.int (if i < 0 then -i else i)) H):=by
 intro pins s σ H xs us Q I r h;obtain⟨i,rfl,q⟩:=h;obtain⟨u,rfl,t,rfl⟩:=a3P r;exact call_abs_int fun u tk=>⟨.int (if i < 0 then -i else i),H,I.tok _,⟨_,rfl⟩,q⟩
theorem a6L (hc:X.calm=true):a0U X (.builtin "max") (fun xs H Q=>∃i j,xs=[.int i,.int j]∧Q (.int (if j > i then j else i)) H):=by
 intro pins s σ H xs us Q I r h;obtain⟨i,j,rfl,q⟩:=h;obtain⟨u,w',rfl,⟨t,rfl⟩,⟨t',rfl⟩⟩:=vals2 r;refine max_two_ints (I.ok.hd hc) fun h' tk k=>⟨_,H,I.kept k,?_,q⟩
 by_cases hj:j > i
 · rw [if_pos hj,if_pos hj];exact⟨_,rfl⟩
 · rw [if_neg hj,if_neg hj];exact⟨_,rfl⟩
theorem a6K (hc:X.calm=true):a0U X (.builtin "min") (fun xs H Q=>∃i j,xs=[.int i,.int j]∧Q (.int (if j < i then j else i)) H):=by
 intro pins s σ H xs us Q I r h;obtain⟨i,j,rfl,q⟩:=h;obtain⟨u,w',rfl,⟨t,rfl⟩,⟨t',rfl⟩⟩:=vals2 r;refine min_two_ints (I.ok.hd hc) fun h' tk k=>⟨_,H,I.kept k,?_,q⟩
 by_cases hj:j < i
 · rw [if_pos hj,if_pos hj];exact⟨_,rfl⟩
 · rw [if_neg hj,if_neg hj];exact⟨_,rfl⟩
theorem a3J:a0U X (.type "int") (fun xs H Q=>(∃i,xs=[.int i]∧Q (.int i) H)∨∃k,xs=[.bl k]∧Q (.int (if k then 1 else 0)) H):=by
 intro pins s σ H xs us Q I r h;rcases h with⟨i,rfl,q⟩ | ⟨k,rfl,q⟩
 · obtain⟨u,rfl,t,rfl⟩:=a3P r;exact call_int_int ⟨.int i,H,I,⟨_,rfl⟩,q⟩
 · obtain⟨u,rfl,r1⟩:=a3P r;cases r1;exact call_int_bool ⟨.int (if k then 1 else 0),H,I.tok _,⟨_,rfl⟩,q⟩
end
end L2
namespace L2
open PySem PySem.Spec PyProof.Rows
structure Room (k:Nat)(A:Around):Prop where
 hd:A.handled=none
 dp:A.depth + 3 * k + 5 < recursionLimit
 un:A.units + 16 * k + 200 < cLine
 gd:A.guards=some []
theorem Room.mono {j k:Nat}{A:Around}(r:Room k A)(h:j≤k):Room j A:=⟨r.hd,by have:=r.dp;omega,by have:=r.un;omega,r.gd⟩
theorem Room.deeper {k:Nat}{A:Around}(r:Room (k + 1) A)(env:Env):Room k (A.deeper env):=
 ⟨r.hd,by have:=r.dp;show A.depth + 1 + 3 * k + 5 < _;omega,by have:=r.un;show A.units + 3 + 16 * k + 200 < _;omega,r.gd⟩
theorem Room.depth {k:Nat}{A:Around}(r:Room k A):A.depth < recursionLimit:=by have:=r.dp;omega
theorem Room.units {k:Nat}{A:Around}(r:Room k A):A.units + 64 < cLine:=by have:=r.un;omega
def tNil:TA:=fun _ H Q=>Q [] H
def a2c (ta:TE)(tr:TA):TA:=fun σ H Q=>ta σ H fun x H1=>tr σ H1 fun xs H2=>Q (x::xs) H2
section
variable {X:Cx}{e:Expr}{es:List Expr}{te:TE}{t:TA}{pos:Pos}
theorem a0z:PA X [] tNil:=fun _ _ _ _ H Q I h=>Calls.spliced_nil ⟨[],H,I,.nil,h⟩
theorem a0l (ha:PE X e te)(hr:PA X es t)(hs:starEach (e::es) X.env=(false,eval e X.env)::starEach es X.env:=by rfl):PA X (e::es) (a2c te t):=by
 intro pos pins s σ H Q I h;rw [hs];show wpAny _ _ (spliced ((false,eval e X.env)::backTo pos (starEach es X.env))) _ _ s;refine Calls.spliced_cons (thn (ha pins s σ H _ I h) fun u s1 ⟨x,H1,I1,r1,q1⟩=>?_);exact thn (hr pos pins s1 σ H1 _ I1 q1) fun us s2 ⟨xs,H2,I2,r2,q2⟩=>⟨x::xs,H2,I2,.cons r1 r2,q2⟩
def tTup (t:TA):TE:=fun σ H Q=>t σ H fun xs H1=>xs.length≤sizeLine∧∀p,H1 p=none→Q (.ref p) (upd H1 p (.tup xs))
def tLst (t:TA):TE:=fun σ H Q=>t σ H fun xs H1=>xs.length≤sizeLine∧∀p,H1 p=none→Q (.ref p) (upd H1 p (.lst xs))
theorem a7R {x1}(h:PA X es t):PE X (.Tuple es x1 pos) (tTup t):=by
 intro pins s σ H Q I hq;refine wpAny_Tuple_spliced (thn (h pos pins s σ H _ I hq) fun us s1 ⟨xs,H1,I1,r,z,q⟩=>⟨by rw [← r.length];exact z,?_⟩);have hf:H1 s1.heap.objs.size=none:=I1.hok.fresh (Nat.le_refl _);refine⟨.ref s1.heap.objs.size,upd H1 s1.heap.objs.size (.tup xs),I1.laid (t':=s1.toks) (fun b u e=>Heap.get?_push_of_some _ e) (Nat.le_refl _) ?_,rfl,q _ hf⟩;exact⟨z,us,r,⟨_,Heap.get?_push_size _ rfl,rfl,_,rfl⟩⟩
theorem a7S (h:PA X es t):PE X (.List es pos) (tLst t):=by
 intro pins s σ H Q I hq;refine wpAny_List_spliced (thn (h pos pins s σ H _ I hq) fun us s1 ⟨xs,H1,I1,r,z,q⟩=>⟨by rw [← r.length];exact z,?_⟩);have hf:H1 s1.heap.objs.size=none:=I1.hok.fresh (Nat.le_refl _);refine⟨.ref s1.heap.objs.size,upd H1 s1.heap.objs.size (.lst xs),I1.laid (t':=s1.toks) (fun b u e=>Heap.get?_push_of_some _ e) (Nat.le_refl _) ?_,rfl,q _ hf⟩;exact⟨z,us,0,r,Heap.get?_push_size _ rfl⟩
end
abbrev Sp:=List V→Hp→VK→XK→Prop
abbrev CXT:=List Env→Hp→Shared→XK→Value→Shared→Prop
structure Env0 (P:Program)(w:World)(K:PySem.W.Frag)(mg:Str→Option Value)(base:Heap)(A:Around)(outer:List Env)(s:Shared)(H:Hp):Prop where
 frames:A.frames=some outer
 mod:Mod K mg base
 bs:∀b o,base.get? b=some o→s.heap.get? b=some o∧H b=none
 bsz:base.objs.size≤s.heap.objs.size
 funs:s.heap.FunFrames base outer
 frf:∀b∈frs outer,H b=none
 hok:HOk P w H s.heap
 bare:AllBare s.gens
 nos:NS H
def CE (outer:List Env)(P:Program)(w:World)(H:Hp)(s:Shared)(Q:VK)(u:Value)(s':Shared):Prop:=
 ∃v H',s'.os=s.os∧AllBare s'.gens∧Un (frs outer) [] H H' s.heap s'.heap∧HOk P w H' s'.heap∧RelV v u∧Q v H'
def CR (CX:CXT)(outer:List Env)(P:Program)(w:World)(H:Hp)(s:Shared)(Q:VK)(E:XK)(r:Result)(s':Shared):Prop:=
 match r with
 | .ok (.ret u)=>CE outer P w H s Q u s'
 | .ok _=>False
 | .error e=>CX outer H s E e s'
structure FnOk (P:Program)(w:World)(K:PySem.W.Frag)(mg:Str→Option Value)(base:Heap)(CX:CXT)(k:Nat)(f:Addr)(fd:FuncData)(ps:List Str)(sp:Sp):Prop where
 len:∀vs H Q E,sp vs H Q E→vs.length=ps.length
 run:∀(A:Around) (outer:List Env) (s:Shared) (H:Hp) (args:Args) (us:List Value) (vs:List V) (Q:VK) (E:XK),Room k A→Env0 P w K mg base A outer s H→BindsTo s fd args (ps.zip us)→Vals vs us→sp vs H Q E→
   codeAny (model P w) A (.call (.ref f) args) (CR CX outer P w H s Q E) s
theorem FnOk.imp {P:Program}{w:World}{K:PySem.W.Frag}{mg:Str→Option Value}{base:Heap}{CX:CXT}{k:Nat}{f:Addr}{fd:FuncData}{ps:List Str}{sp sp':Sp}(F:FnOk P w K mg base CX k f fd ps sp)
   (h:∀vs H Q E,sp' vs H Q E→sp vs H Q E):FnOk P w K mg base CX k f fd ps sp':=
 ⟨fun vs H Q E q=>F.len vs H Q E (h _ _ _ _ q),fun A outer s H args us vs Q E hr he hb hv hs=>F.run A outer s H args us vs Q E hr he hb hv (h _ _ _ _ hs)⟩
section
variable {X:Cx}{pins:List (Addr×Obj)}{σ:St}{H:Hp}{s s':Shared}
theorem Inv.env0 (I:Inv X pins σ H s):Env0 X.prog X.w X.K X.mg X.base X.A X.stack s H:=
 ⟨I.ok.frames,I.ok.mod,I.bs,Nat.le_trans I.ok.bsz I.sz,I.stack,I.stkFree,I.hok,I.bare,I.nos⟩
theorem Inv.after {Q:VK}{u:Value}(I:Inv X pins σ H s)(h:CE X.stack X.prog X.w H s Q u s'):EP X pins σ Q u s':=by
 obtain⟨v,H',os,bare,un,hok,r,q⟩:=h;obtain⟨hh,g,d,t,os'⟩:=s';obtain rfl:os'=s.os:=os;exact⟨v,H',I.call (h':=hh) (g':=g) (d':=d) (t':=t) (ch:=[]) un hok bare (fun b z=>absurd z (by simp)),r,q⟩
end
def tCall (sp:Sp)(dvs:List V)(E:XK)(t:TA):TE:=fun σ H Q=>t σ H fun vs H1=>sp (vs++dvs) H1 Q E
def a5j (K:PySem.W.Frag)(fd:FuncData)(ps:List Str)(ds:List Value):Prop:=
 ∀(s:Shared) (us:List Value),K.In s.heap→(us++ds).length=ps.length→BindsTo s fd ⟨us,[]⟩ (ps.zip (us++ds))
theorem a5j.all {K:PySem.W.Frag}{fd:FuncData}{ps:List Str}(h:∀us:List Value,us.length=ps.length→bindArgs fd ⟨us,[]⟩=pure (ps.zip us)):a5j K fd ps []:=fun s us _ hl=>by
 rw [List.append_nil] at hl ⊢;exact .of_eq (h us hl)
def a6R (CX:CXT)(X:Cx)(E:XK):Prop:=∀(pins:List (Addr×Obj)) (σ:St) (H:Hp) (s:Shared) (e:Value) (s':Shared),Inv X pins σ H s→CX X.stack H s E e s'→X.xe e s'
section
variable {X:Cx}{CX:CXT}{k:Nat}{f C:Addr}{fd:FuncData}{ps:List Str}{sp:Sp}{dvs:List V}{ds:List Value}{E:XK}{x m:Str}{p pos apos:Pos}{e o:Expr}{es:List Expr}{ta:TE}{t:TA}
theorem run_fn {pins:List (Addr×Obj)}{σ:St}{H:Hp}{s:Shared}{Q:VK}{us:List Value}{vs:List V}(F:FnOk X.prog X.w X.K X.mg X.base CX k f fd ps sp)(hr:Room k X.A)(hb:a5j X.K fd ps ds)(hd:Vals dvs ds)(hx:a6R CX X E)
   (I:Inv X pins σ H s) (r:Vals vs us) (h:sp (vs++dvs) H Q E):wpAny (model X.prog X.w) X.A (call (.ref f) us) (EP X pins σ Q) X.xe s:=by
 have r2:Vals (vs++dvs) (us++ds):=r.append hd;have hl:(us++ds).length=ps.length:=by rw [← r2.length];exact F.len _ _ _ _ h
 refine wpAny_call (codeAny_mono (F.run X.A X.stack s H ⟨us,[]⟩ (us++ds) (vs++dvs) Q E hr I.env0 (hb s us I.kIn hl) r2 h) fun r s' hq=>?_);cases r with
 | error e=>exact hx pins σ H s e s' I hq
 | ok fl =>
   cases fl with
   | ret u=>exact I.after hq
   | next=>exact False.elim hq
   | brk=>exact False.elim hq
   | cont=>exact False.elim hq
theorem a8K (F:FnOk X.prog X.w X.K X.mg X.base CX k f fd ps sp)(hr:Room k X.A)(hg:Gl X x)(hm:X.mg x=some (.ref f))(hk:PySem.W.keepIn X.K (.ref f)=true)(hb:a5j X.K fd ps ds)(hd:Vals dvs ds)(hx:a6R CX X E)
   (ha:PA X (e::es) t) (hdb:(x == ("__debug__":Str))=false:=by decide) (he:starEach (e::es) X.env=(false,eval e X.env)::starEach es X.env:=by rfl) (hpl:(backTo pos (starEach es X.env)).any (·.1)=false:=by rfl) :
   PE X (.Call (.Name x p) (e::es) [] pos) (tCall sp dvs E t):=by
 intro pins s σ H Q I h;refine wpAny_Call_Name_kw (a8Y I hg hm ?_ hdb);refine PySem.W.callWith_K (h₀:=X.base) I.ok.mod.kin hk (thn (ha pos pins s σ H _ I h) fun us s1 ⟨vs,H1,I1,r,q⟩=>⟨I1.kIn,?_⟩) he hpl;exact run_fn F hr hb hd hx I1 r q
end
def PK (X:Cx)(kws:List Keyword)(t:TA):Prop:=
 ∀(pos:Pos) (pins:List (Addr×Obj)) (s:Shared) (σ:St) (H:Hp) (Q:List V→Hp→Prop),Inv X pins σ H s→t σ H Q→wpAny (model X.prog X.w) X.A (evalAll ((backToKw pos (keywordEach kws X.env)).map (·.2))) (AP X pins σ Q) X.xe s
structure a0y (N P:List Str)(sc:Scope):Prop where
 kind:sc.kind=.function
 co:sc.isCoroutine=false
 gen:sc.isGenerator=false
 nd:N.Nodup
 pre:N.take P.length=P
 par:∀x∈P,sc.names.lookup x=some .local∨sc.names.lookup x=some .cell
 nofree:∀y∈sc.names,y.2≠.free
theorem a3K {kindOf:Str→Option NameKind}{x:Str}:∀{binds:List (Str×Value)} {m:Str→Option Value},(∀v,(x,v)∉binds)→bindL kindOf binds m x=m x
 | [],_,_=>rfl
 | (n, v) :: r, m, h => by
   unfold bindL;rw [a3K fun w hw=>h w (List.mem_cons_of_mem _ hw)]
   split
   · have:x≠n:=by rintro rfl;exact h v List.mem_cons_self
     simp [this]
   · rfl
theorem a3M {kindOf:Str→Option NameKind}{x:Str}:∀{binds:List (Str×Value)} {m:Str→Option Value},(∀v,(x,v)∉binds)→bindC kindOf binds m x=m x
 | [],_,_=>rfl
 | (n, v) :: r, m, h => by
   unfold bindC;rw [a3M fun w hw=>h w (List.mem_cons_of_mem _ hw)]
   split
   · rfl
   · have:x≠n:=by rintro rfl;exact h v List.mem_cons_self
     simp [this]
theorem a3L {kindOf:Str→Option NameKind}{x:Str}{v:Value}:∀{P:List Str} {vs:List Value} {i:Nat} {m:Str→Option Value},P.Nodup→P[i]?=some x→vs[i]?=some v→kindOf x=some .local→
   bindL kindOf (P.zip vs) m x=some v
 | [],_,_,_,_,h,_,_=>by simp at h
 | _::_,[],_,_,_,_,h,_=>by simp at h
 | p :: P, w :: vs, 0, m, nd, h1, h2, hk => by
   simp at h1 h2;subst h1;subst h2;show bindL kindOf ((p,w)::P.zip vs) m p=_;unfold bindL;rw [a3K fun v hv=>(List.nodup_cons.mp nd).1 (List.of_mem_zip hv).1,if_pos hk];simp
 | p :: P, w :: vs, i + 1, m, nd, h1, h2, hk => by
   show bindL kindOf ((p,w)::P.zip vs) m x=_;unfold bindL;exact a3L (i:=i) (List.nodup_cons.mp nd).2 (by simpa using h1) (by simpa using h2) hk
theorem a3N {kindOf:Str→Option NameKind}{x:Str}{v:Value}:∀{P:List Str} {vs:List Value} {i:Nat} {m:Str→Option Value},P.Nodup→P[i]?=some x→vs[i]?=some v→kindOf x≠some .local→
   bindC kindOf (P.zip vs) m x=some v
 | [],_,_,_,_,h,_,_=>by simp at h
 | _::_,[],_,_,_,_,h,_=>by simp at h
 | p :: P, w :: vs, 0, m, nd, h1, h2, hk => by
   simp at h1 h2;subst h1;subst h2;show bindC kindOf ((p,w)::P.zip vs) m p=_;unfold bindC;rw [a3M fun v hv=>(List.nodup_cons.mp nd).1 (List.of_mem_zip hv).1,if_neg hk];simp
 | p :: P, w :: vs, i + 1, m, nd, h1, h2, hk => by
   show bindC kindOf ((p,w)::P.zip vs) m x=_;unfold bindC;exact a3N (i:=i) (List.nodup_cons.mp nd).2 (by simpa using h1) (by simpa using h2) hk
def a1Y (N:List Str)(vs:List V):St:=vs.map some++List.replicate (N.length - vs.length) none
def cxOf (CX:CXT)(P:Program)(w:World)(K:PySem.W.Frag)(mg:Str→Option Value)(base:Heap)(N:List Str)(qual:Str)(scope:Scope)(f:Addr)(cd:Value)(A:Around)(outer:List Env)(s:Shared)(H:Hp)(E:XK):Cx where
 prog:=P
 w:=w
 K:=K
 mg:=mg
 base:=base
 A:=A.deeper (envOfC qual scope s.heap.objs.size f cd)
 N:=N
 s₀:=s
 H₀:=H
 env:=envOfC qual scope s.heap.objs.size f cd
 outer:=outer
 stack:=envOfC qual scope s.heap.objs.size f cd::outer
 ex:=[]
 calm:=true
 fn:=fun _=>true
 pn:=[]
 xe:=fun e s'=>wpAny (model P w) (A.deeper (envOfC qual scope s.heap.objs.size f cd)) (leaving (envOfC qual scope s.heap.objs.size f cd) e) (fun _ s''=>CX outer H s E e s'') (fun e' s''=>CX outer H s E e' s'') s'
theorem a4J {sc:Scope}{n:Nat}{x:Str}(h:sc.names.lookup x=some .cell):∃c,(cellsFrom n sc.names []).lookup x=some c:=by
 have q:=PySem.W.cellsFrom_some sc.names n [] (.inl h);exact Option.isSome_iff_exists.mp q
theorem a6s {CX:CXT}{P:Program}{w:World}{K:PySem.W.Frag}{mg:Str→Option Value}{base:Heap}{N ps:List Str}{qual:Str}{scope:Scope}{f:Addr}{cd:Value}{A:Around}{outer:List Env}{s s1:Shared}{H:Hp}{E:XK}{us:List Value}{vs:List V}
   (S:a0y N ps scope) (hd:A.handled=none) (e0:Env0 P w K mg base A outer s H) (hl:vs.length=ps.length) (r:Vals vs us)
   (x:InCallC s s.heap.objs.size (bindL (envOfC qual scope s.heap.objs.size f cd).kindOf (ps.zip us) fun _=>none) (cellsFrom (s.heap.objs.size + 1) scope.names []) (bindC (envOfC qual scope s.heap.objs.size f cd).kindOf (ps.zip us) fun _=>none) s1) :
   Inv (cxOf CX P w K mg base N qual scope f cd A outer s H E) [] (a1Y N vs) H s1:=by
 have hpl:ps.length≤N.length:=by have:=congrArg List.length S.pre;rw [List.length_take] at this;omega
 obtain⟨h1,tk,rfl,hk⟩:=x.done;have noA:∀b:Addr,b∉(cxOf CX P w K mg base N qual scope f cd A outer s H E).ex:=fun b z=>absurd (show b∈([]:List Addr) from z) (by simp)
 refine⟨⟨e0.mod,S.kind,rfl,rfl,Nat.le_refl _,fun y z c h1 h2=>?_,fun y hy=>?_,fun y c _ h=>?_,fun _=>hd,Around.frames_deeper e0.frames,.inr ⟨rfl,rfl⟩,fun b z=>absurd z (noA b),e0.bs,e0.bsz,fun b _ _=>noA b,fun b z=>absurd z (noA b),e0.funs,e0.frf,e0.nos⟩,
   rfl,e0.bare,Un.kept hk,⟨_,x.toInCall.ns,fun i y v h1 h2 h3=>?_⟩,fun y c h=>⟨_,x.cell y c h⟩,e0.hok.fresh (Nat.le_refl _),fun y c h=>?_,fun p hp=>absurd (show p∈([]:List (Addr×Obj)) from hp) (by simp),e0.hok.kept hk,?_⟩
 · exact name_of_addr x.apart (PySem.mem_of_lookup h1) (PySem.mem_of_lookup h2)
 · have hy:scope.names.lookup y=some .cell∨scope.names.lookup y=some .free:=hy;rcases hy with hy | hy
   · exact a4J hy
   · exact absurd rfl (S.nofree _ (PySem.mem_of_lookup hy))
 · exact Nat.le_of_lt (x.above y c (PySem.mem_of_lookup h))
 · have hi:i < vs.length:=by
     unfold a1Y at h2
     by_cases hi:i < vs.length
     · exact hi
     · rw [List.getElem?_append_right (by simpa using hi)] at h2;rw [List.getElem?_replicate] at h2
       split at h2 <;> cases h2
   have ha:vs[i]?=some v:=by
     unfold a1Y at h2;rw [List.getElem?_append_left (by simpa using hi),List.getElem?_map] at h2;cases e:vs[i]? with
     | none=>rw [e] at h2;cases h2
     | some a=>rw [e] at h2;cases h2;rfl
   obtain⟨u,hu,rv⟩:=r.get ha
   have hp:ps[i]?=some y:=by
     rw [← S.pre,List.getElem?_take_of_lt (by omega)];exact h1
   have ndP:ps.Nodup:=by rw [← S.pre];exact S.nd.sublist (List.take_sublist _ _)
   refine⟨u,rv,?_⟩;rcases S.par y (List.mem_of_getElem? hp) with k | k
   · exact .inl ⟨k,a3L ndP hp hu k⟩
   · obtain⟨c,e⟩:=a4J (n:=s.heap.objs.size + 1) k;refine .inr ⟨.inl k,c,e,?_⟩;have q:=x.cell y c e;rw [a3N ndP hp hu (by show scope.names.lookup y≠_;rw [k];decide)] at q;exact q
 · exact e0.hok.fresh (Nat.le_of_lt (x.above y c (PySem.mem_of_lookup h)))
 · unfold a1Y;show _=N.length;rw [List.length_append,List.length_map,List.length_replicate];omega
theorem fn_of {CX:CXT}{P:Program}{w:World}{K:PySem.W.Frag}{mg:Str→Option Value}{base:Heap}{k:Nat}{f:Addr}{name qual:Str}{params:Arguments}{body:List Stmt}{scope:Scope}{dV kV doc pm cdv ct oc:Value}{an od:Option Addr}
   {osl:Array (Option Value)} {N ps:List Str} {sp:Sp} (lk:K.lookup f=some ⟨oc,od,.func (PySem.W.fnOf name qual params body scope dV kV doc pm an cdv ct),osl⟩) (hcd:PySem.W.codeIn K cdv qual=true) (S:a0y N ps scope)
   (len:∀vs H Q E,sp vs H Q E→vs.length=ps.length)
   (hbody:∀(A:Around) (outer:List Env) (s:Shared) (H:Hp) (vs:List V) (Q:VK) (E:XK),Room k (A.deeper (envOfC qual scope s.heap.objs.size f cdv))→sp vs H Q E→
     ∃t,PSs (cxOf CX P w K mg base N qual scope f cdv A outer s H E) body t∧t { nx:=fun _ H'=>Q .non H',rt:=Q } (a1Y N vs) H) :
   FnOk P w K mg base CX (k + 1) f (PySem.W.fnOf name qual params body scope dV kV doc pm an cdv ct) ps sp:=by
 refine⟨len,fun A outer s H args us vs Q E hr e0 hb r hsp=>?_⟩;have hl:=len _ _ _ _ hsp;have KX:K.In s.heap:=e0.mod.kin.keeps fun b o e=>(e0.bs b o e).1;have lim:s.heap.NoLimit:=e0.mod.nolimit.keeps fun b o e=>(e0.bs b o e).1
 have hkind:∀y∈ps.zip us,scope.names.lookup y.1=some .local∨(scope.names.lookup y.1=some .cell∧((cellsFrom (s.heap.objs.size + 1) scope.names []).lookup y.1).isSome=true):=fun⟨n,v⟩ hy=>by
   rcases S.par n (List.of_mem_zip hy).1 with q | q
   · exact .inl q
   · exact .inr ⟨q,PySem.W.cellsFrom_some _ _ _ (.inl q)⟩
 refine codeAny_call_function hr.depth (KX _ _ lk) rfl S.co S.gen rfl (PySem.W.codeRec_of KX hcd) (hb _ _ _ _ ?_);refine wpAny_newFunctionEnv_cells S.kind hkind fun env he s1 x=>?_;subst he;refine⟨lim.keeps x.toInCall.keep,codeAny_func ?_⟩;obtain⟨t,ht,hq⟩:=hbody A outer s H vs Q E (hr.deeper _) hsp;have I:Inv (cxOf CX P w K mg base N qual scope f cdv A outer s H E) [] (a1Y N vs) H s1:=a6s S hr.hd e0 hl r x;refine wpAny_mono (ht [] s1 (a1Y N vs) H _ I hq) (fun fl s' hs=>?_) fun e s' hs=>hs
 have fin:∀{σ':St} {H':Hp} {v:V} {u:Value},Inv (cxOf CX P w K mg base N qual scope f cdv A outer s H E) [] σ' H' s'→RelV v u→Q v H'→CE outer P w H s Q u s':=
   fun {σ' H' v u} J rv q=>⟨v,H',J.os,J.bare,J.base,J.hok,rv,q⟩
 cases fl with
 | ret u =>
   obtain⟨v,σ',H',J,rv,q⟩:=hs;exact fin J rv q
 | next =>
   obtain⟨σ',H',J,q⟩:=hs;exact fin (v:=V.non) (u:=Value.none) J rfl q
 | brk =>
   obtain⟨_,_,_,q⟩:=hs;exact False.elim q
 | cont =>
   obtain⟨_,_,_,q⟩:=hs;exact False.elim q
end L2
namespace L2
open PySem PySem.Spec PyProof.Rows
section
variable {X:Cx}{x:Str}{p pos:Pos}{e:Expr}{es:List Expr}{t:TA}{id T:String}{r:List V→Hp→VK→Prop}
def tCB (r:List V→Hp→VK→Prop)(t:TA):TE:=fun σ H Q=>t σ H fun vs H1=>r vs H1 Q
theorem a1n (hc:a0U X (.builtin id) r)(hg:Gl X x)(hm:X.mg x=none)(hv:bootBuiltins x=some (.builtin id))(ha:PA X (e::es) t)(hn:x≠"__name__":=by decide)(hdb:(x == ("__debug__":Str))=false:=by decide)
   (he:starEach (e::es) X.env=(false,eval e X.env)::starEach es X.env:=by rfl) (hpl:(backTo pos (starEach es X.env)).any (·.1)=false:=by rfl):PE X (.Call (.Name x p) (e::es) [] pos) (tCB r t):=by
 intro pins s σ H Q I h;refine wpAny_Call_Name_kw (a2D I hg hm hv ?_ hn hdb);exact PyProof.Rows.callWith_builtin1 (thn (ha pos pins s σ H _ I h) fun us s1 ⟨vs,H1,I1,r1,q1⟩=>hc pins s1 σ H1 vs us Q I1 r1 q1) he hpl
theorem a2i (hc:a0U X (.type T) r)(hg:Gl X x)(hm:X.mg x=none)(hv:bootBuiltins x=some (.type T))(ha:PA X (e::es) t)(hn:x≠"__name__":=by decide)(hdb:(x == ("__debug__":Str))=false:=by decide)
   (he:starEach (e::es) X.env=(false,eval e X.env)::starEach es X.env:=by rfl) (hpl:(backTo pos (starEach es X.env)).any (·.1)=false:=by rfl):PE X (.Call (.Name x p) (e::es) [] pos) (tCB r t):=by
 intro pins s σ H Q I h;refine wpAny_Call_Name_kw (a2D I hg hm hv ?_ hn hdb);exact PyProof.Rows.callWith_type1 (thn (ha pos pins s σ H _ I h) fun us s1 ⟨vs,H1,I1,r1,q1⟩=>hc pins s1 σ H1 vs us Q I1 r1 q1) he hpl
theorem a4X (hc:a0U X (.type T) r)(hg:Gl X x)(hm:X.mg x=none)(hv:bootBuiltins x=some (.type T))(hn:x≠"__name__":=by decide)(hdb:(x == ("__debug__":Str))=false:=by decide) :
   PE X (.Call (.Name x p) [] [] pos) (tCB r tNil):=by
 intro pins s σ H Q I h;refine wpAny_Call_Name_kw (a2D I hg hm hv ?_ hn hdb);exact PyProof.Rows.callWith_type0 (hc pins s σ H [] [] Q I .nil h)
end
end L2
namespace HT
open PySem PyProof.Rows
section
variable {prog:Program}{w:World}{A:Around}{E:Value→Shared→Prop}{s:Shared}
theorem cat_tup {t b:Addr}{vs ws:List Value}{Q:Value→Shared→Prop}(ht:IsTup s.heap t vs.toArray)(hb:IsTup s.heap b ws.toArray)(hv:vs≠[])
   (h1:ws=[]→Q (.ref t) s) (h2:ws≠[]→Q (.ref s.heap.objs.size) { s with heap:=s.heap.push { cls:=.type "tuple",data:=.seq (vs++ws).toArray } })
   (hsz:vs.length + ws.length≤sizeLine):wpAny (model prog w) A (binaryOp .Add (.ref t) (.ref b)) Q E s:=by
 obtain⟨⟨cls,dd,data,sl⟩,ho,hc,n,hd⟩:=id ht;obtain⟨⟨cls2,dd2,data2,sl2⟩,ho2,hc2,n2,hd2⟩:=id hb;simp only at hc hd hc2 hd2;subst hc hd hc2 hd2;have e:vs.toArray++ws.toArray=(vs++ws).toArray:=by simp
 by_cases hw:ws=[]
 · exact concat_meets ⟨_,ho,rfl⟩ ⟨_,ho2,rfl⟩ noFill_tuple_add seq_tuple_add PySem.F.slot_tuple_add PySem.F.entry_tuple_add (PySem.F.args_tuple_add_2 _ _)
     (tuple_addW1 t b vs.toArray ws.toArray n n2 dd dd2 sl sl2 (by simpa using hv) (by simp [hw])) ⟨ho,ho2,h1 hw⟩
 · refine concat_meets ⟨_,ho,rfl⟩ ⟨_,ho2,rfl⟩ noFill_tuple_add seq_tuple_add PySem.F.slot_tuple_add PySem.F.entry_tuple_add (PySem.F.args_tuple_add_2 _ _)
     (tuple_addW2 t b vs.toArray ws.toArray n n2 dd dd2 sl sl2 (by simpa using hv) (by simpa using hw) (by rw [List.size_toArray,List.size_toArray];exact hsz)) ⟨ho,ho2,?_⟩
   rw [e];exact h2 hw
def sIx (n d:Nat):Option Int→Nat
 | none=>d
 | some v=>if v < 0 then(v + (n:Int)).toNat else min v.toNat n
theorem sIx_none (n d:Nat):sIx n d none=d:=rfl
theorem sIx_nat (n d k:Nat):sIx n d (some (k:Int))=min k n:=by
 show(if(k:Int) < 0 then((k:Int) + (n:Int)).toNat else min (k:Int).toNat n)=min k n;rw [if_neg (by omega),Int.toNat_natCast]
theorem sIx_le (n d:Nat)(hd:d≤n)(o:Option Int):sIx n d o≤n:=by
 cases o with
 | none=>exact hd
 | some v =>
   show(if v < 0 then(v + (n:Int)).toNat else min v.toNat n)≤n
   by_cases hv:v < 0
   · rw [if_pos hv];omega
   · rw [if_neg hv];exact Nat.min_le_right _ _
theorem a6I (v:Int)(n d:Nat):(if v < 0 then max (v + (n:Int)) 0 else min v (n:Int))=((sIx n d (some v):Nat):Int):=by
 show(if v < 0 then max (v + (n:Int)) 0 else min v (n:Int))=(((if v < 0 then(v + (n:Int)).toNat else min v.toNat n):Nat):Int)
 by_cases hv:v < 0
 · simp only [if_pos hv];omega
 · simp only [if_neg hv];omega
theorem a5i (lo hi:Option Int)(n:Nat):Builtin.Slice.sliceAdjust lo hi 1 (n:Int)=(((sIx n 0 lo:Nat):Int),((sIx n n hi:Nat):Int)):=by
 have h1:¬((1:Int) < 0):=by omega
 unfold Builtin.Slice.sliceAdjust;simp only [h1,if_false];refine Prod.ext ?_ ?_
 · cases lo with
   | none=>rfl
   | some v=>exact a6I v n 0
 · cases hi with
   | none=>rfl
   | some v=>exact a6I v n n
theorem a4W (i j:Nat):Builtin.Slice.slicePlaces (i:Int) (j:Int) 1=j - i:=by
 unfold Builtin.Slice.slicePlaces;have h1:(1:Int) > 0:=by omega
 simp only [h1,if_true,Int.ediv_one]
 split <;> omega
theorem a0S {v:Value}{o:Option Int}{Q:Option Int→Shared→Prop}(p:IsPart v o)(h:Q o s):wpAny (model prog w) A (Builtin.Slice.slicePartIndex v) Q E s:=by
 cases p with
 | none=>exact slicePart_none h
 | int i t=>exact slicePart_int h
theorem a0Z {sl:Addr}{vl vu:Value}{lo hi:Option Int}{n:Nat}{Q:Int×Int×Nat→Shared→Prop}(hs:s.heap.IsSliceOf sl vl vu .none)(pl:IsPart vl lo)(pu:IsPart vu hi)
   (h:Q (((sIx n 0 lo:Nat):Int),1,sIx n n hi - sIx n 0 lo) s):wpAny (model prog w) A (Builtin.Slice.sliceApplied (.ref sl) (pure (n:Int))) Q E s:=by
 obtain⟨os,hos,hcs,hds⟩:=id hs;unfold Builtin.Slice.sliceApplied Builtin.Slice.sliceFields;refine wpAny_bind (wpAny_bind (wpAny_field hos hds (x:=vl) rfl (wpAny_bind (wpAny_field hos hds (x:=vu) rfl (wpAny_bind (wpAny_field hos hds (x:=.none) rfl (wpAny_pure ?_)))))));refine wpAny_bind (slicePart_none ?_);show wpAny _ _ (if((1:Int) == 0)=true then _ else _) _ _ s;rw [if_neg (by decide)];refine wpAny_bind (a0S pl (wpAny_bind (a0S pu (wpAny_bind (wpAny_pure ?_)))));show wpAny _ _ (match Builtin.Slice.sliceAdjust lo hi 1 (n:Int) with | (lo,hi)=>pure (lo,(1:Int),Builtin.Slice.slicePlaces lo hi 1)) _ _ s;rw [a5i lo hi n];show wpAny _ _ (pure (((sIx n 0 lo:Nat):Int),(1:Int),Builtin.Slice.slicePlaces ((sIx n 0 lo:Nat):Int) ((sIx n n hi:Nat):Int) 1)) _ _ s;rw [a4W];exact wpAny_pure h
theorem a7f (xs:Array Value)(i k:Nat):((List.range k).filterMap fun(m:Nat)=>xs[((i:Int) + (m:Int) * 1).toNat]?).toArray=((xs.toList.drop i).take k).toArray:=by
 have e:(fun(m:Nat)=>xs[((i:Int) + (m:Int) * 1).toNat]?)=fun m=>xs[i + m]?:=by
   funext m
   have:((i:Int) + (m:Int) * 1).toNat=i + m:=by omega
   rw [this]
 rw [e];have:=pick_run xs i k;rw [List.filterMap_map] at this;have e2:((fun x=>xs[x]?)∘fun x=>i + x)=fun m=>xs[i + m]?:=rfl;rw [e2] at this;rw [this]
theorem getItem_tuple_cut {t sl:Addr}{items:Array Value}{vl vu:Value}{lo hi:Option Int}{Q:Value→Shared→Prop}(ht:IsTup s.heap t items)(hs:s.heap.IsSliceOf sl vl vu .none)(pl:IsPart vl lo)(pu:IsPart vu hi)
   (hw:¬(sIx items.size 0 lo=0∧sIx items.size items.size hi=items.size))
   (h:Q (.ref s.heap.objs.size) { s with heap:=s.heap.push { cls:=.type "tuple",data:=.seq ((items.toList.drop (sIx items.size 0 lo)).take (sIx items.size items.size hi - sIx items.size 0 lo)).toArray } })
   (hsz:items.size≤sizeLine):wpAny (model prog w) A (getItem (.ref t) (.ref sl)) Q E s:=by
 have htake:sizeOk (.seq ((items.toList.drop (sIx items.size 0 lo)).take (sIx items.size items.size hi - sIx items.size 0 lo)).toArray):=by
   show((items.toList.drop (sIx items.size 0 lo)).take (sIx items.size items.size hi - sIx items.size 0 lo)).toArray.size≤sizeLine;rw [List.size_toArray,List.length_take,List.length_drop,Array.length_toList];omega
 have hj:sIx items.size items.size hi≤items.size:=sIx_le _ _ (Nat.le_refl _) hi;obtain⟨os,hos,hcs,hds⟩:=id hs;have hTs:s.TypeIs (.ref sl) "slice":=⟨os,hos,hcs⟩;unfold getItem
 try with_reducible refine wpAny_holding ?_
 first | refine wpAny_bind (wpAny_pure ?_) | skip
 refine wpAny_bind (wpAny_sequenceKey ht.typeIs (by decide) ?_)
 refine wpAny_bind (wpAny_callSpecial?_slot (name:=Str.ofString "__getitem__") ht.typeIs PyProof.Rows.slot_tuple_getitem
   (wpAny_call_entry PyProof.Rows.slot_tuple_getitem ht.typeIs entry_tuple_getitem ?_ (args_tuple_getitem _ _)))
 show wpAny _ _ (Builtin.Tuple.tupleItemsOf (.ref t)>>=_) _ _ s;refine wpAny_bind (tupleItemsOf_ ht ?_);refine wpAny_bind (wpAny_typeOf hTs ?_);rw [if_pos (by decide)];refine wpAny_bind (a0Z hs pl pu ?_)
 have hno:¬((((sIx items.size 0 lo:Nat):Int) == 0 && (1:Int) == 1 && (sIx items.size items.size hi - sIx items.size 0 lo) == items.size)=true):=by
   intro q;rw [Bool.and_eq_true,Bool.and_eq_true] at q;have q1:((sIx items.size 0 lo:Nat):Int)=0:=eq_of_beq q.1.1;have q2:sIx items.size items.size hi - sIx items.size 0 lo=items.size:=eq_of_beq q.2;exact hw ⟨by omega,by omega⟩
 show wpAny _ _ (if(((sIx items.size 0 lo:Nat):Int) == 0 && (1:Int) == 1 && (sIx items.size items.size hi - sIx items.size 0 lo) == items.size)=true then _ else _) _ _ s;rw [if_neg hno,a7f]
 first
   | exact wpAny_bind (m:=Builtin.Tuple.tupleExact _) (wpAny_newObj_type (wpAny_pure ⟨_,rfl,wpAny_pure h⟩) htake)
   | exact wpAny_bind (m:=Builtin.Tuple.tupleExact _) (wpAny_newObj_type (wpAny_bind (wpAny_pure (wpAny_pure ⟨_,rfl,wpAny_pure h⟩))) htake)
   | exact wpAny_bind (wpAny_bind (m:=Builtin.Tuple.tupleExact _) (wpAny_newObj_type (wpAny_pure (wpAny_pure ⟨_,rfl,wpAny_pure h⟩)) htake))
   | exact wpAny_bind (wpAny_bind (m:=Builtin.Tuple.tupleExact _) (wpAny_newObj_type (wpAny_pure ⟨_,rfl,wpAny_pure h⟩) htake))
end
end HT
namespace L2
open PySem PySem.Spec PyProof.Rows
abbrev TO:=St→Hp→(Option Int→Hp→Prop)→Prop
def PO (X:Cx)(e:Option Expr)(t:TO):Prop:=
 ∀ (pins : List (Addr × Obj)) (s : Shared) (σ : St) (H : Hp) (Q : Option Int → Hp → Prop), Inv X pins σ H s → t σ H Q →
   wpAny (model X.prog X.w) X.A (evalPart e X.env) (fun u s'=>∃o H',Inv X pins σ H' s'∧IsPart u o∧Q o H') X.xe s
def a8l:TO:=fun _ H Q=>Q none H
def tPart (t:TE):TO:=fun σ H Q=>t σ H fun x H1=>∃i,x=.int i∧Q (some i) H1
section
variable {X:Cx}{e:Expr}{te:TE}{lo hi:Option Expr}{tl th:TO}{pos p2:Pos}
theorem a5N:PO X none a8l:=by
 intro pins s σ H Q I h;rw [evalPart_none];exact wpAny_pure ⟨none,H,I,.none,h⟩
theorem a5M (h:PE X e te):PO X (some e) (tPart te):=by
 intro pins s σ H Q I hw;rw [evalPart_some];refine thn (h pins s σ H _ I hw) fun u s1 ⟨x,H1,I1,r1,q1⟩=>?_;obtain⟨i,rfl,q⟩:=q1;obtain⟨t,rfl⟩:=r1;exact⟨some i,H1,I1,.int i t,q⟩
def SlR (X:Cx)(r:V→Option Int→Option Int→Hp→VK→Prop):Prop:=
 ∀ (pins : List (Addr × Obj)) (s : Shared) (σ : St) (H : Hp) (x : V) (v vl vu : Value) (lo hi : Option Int) (sl : Addr) (Q : VK), Inv X pins σ H s → RelV x v → s.heap.IsSliceOf sl vl vu .none → IsPart vl lo → IsPart vu hi → r x lo hi H Q →
   ∃T id,typeLookup (.type T) "__getitem__"=pure (some (.builtin id))∧s.TypeIs v T∧wpAny (model X.prog X.w) X.A (getItem v (.ref sl)) (EP X pins σ Q) X.xe s
theorem SlR.or {r r':V→Option Int→Option Int→Hp→VK→Prop}(h:SlR X r)(h':SlR X r'):SlR X (fun x lo hi H Q=>r x lo hi H Q∨r' x lo hi H Q):=by
 intro pins s σ H x v vl vu lo hi sl Q I rx hs pl pu q;rcases q with q | q
 · exact h pins s σ H x v vl vu lo hi sl Q I rx hs pl pu q
 · exact h' pins s σ H x v vl vu lo hi sl Q I rx hs pl pu q
def tSl (r:V→Option Int→Option Int→Hp→VK→Prop)(te:TE)(tl th:TO):TE:=fun σ H Q=>te σ H fun x H1=>tl σ H1 fun l H2=>th σ H2 fun u H3=>r x l u H3 Q
theorem a4s {r:V→Option Int→Option Int→Hp→VK→Prop}(hr:SlR X r)(he:PE X e te)(hl:PO X lo tl)(hu:PO X hi th):PE X (.Subscript e (.Slice lo hi none p2) pos) (tSl r te tl th):=by
 intro pins s σ H Q I h;refine Subscript_ (thn (he pins s σ H _ I h) fun v s1 ⟨x,H1,I1,r1,q1⟩=>?_);refine wpAny_Slice (thn (hl pins s1 σ H1 _ I1 q1) fun vl s2 ⟨l,H2,I2,pl,q2⟩=>thn (hu pins s2 σ H2 _ I2 q2) fun vu s3 ⟨u,H3,I3,pu,q3⟩=>?_);rw [evalPart_none];refine wpAny_pure ?_;have I4:Inv X pins σ H3 { s3 with heap:=s3.heap.push { cls:=.type "slice",data:=.fields #[vl,vu,.none] } }:=I3.kept (t':=s3.toks) fun b ob q=>Heap.get?_push_of_some _ q;obtain⟨T,id,hT,ht,hg⟩:=hr pins { s3 with heap:=s3.heap.push { cls:=.type "slice",data:=.fields #[vl,vu,.none] } } σ H3 x v vl vu l u s3.heap.objs.size Q I4 r1 (Heap.IsSliceOf.new ..) pl pu q3;show wpAny (model X.prog X.w) X.A (subscriptTail e (.Slice lo hi none p2) v (.ref s3.heap.objs.size)) (EP X pins σ Q) X.xe { s3 with heap:=s3.heap.push { cls:=.type "slice",data:=.fields #[vl,vu,.none] } };exact tail_any (ops:=[.ref s3.heap.objs.size,v]) ht hT hg (by with_unfolding_all rfl)
def cutV (xs:List V)(lo hi:Option Int):List V:=(xs.drop (HT.sIx xs.length 0 lo)).take (HT.sIx xs.length xs.length hi - HT.sIx xs.length 0 lo)
theorem a2p (xs:List V)(lo hi:Option Int):(cutV xs lo hi).length≤xs.length:=by
 unfold cutV;rw [List.length_take,List.length_drop];omega
def rSlT (K:PySem.W.Frag):V→Option Int→Option Int→Hp→VK→Prop:=fun x lo hi H Q=>∃a xs,x=.ref a∧SqT K H a xs∧
 ¬(HT.sIx xs.length 0 lo=0∧HT.sIx xs.length xs.length hi=xs.length)∧∀p,H p=none→Q (.ref p) (upd H p (.tup (cutV xs lo hi)))
theorem sl_tup:SlR X (rSlT X.K):=by
 intro pins s σ H x v vl vu lo hi sl Q I rx hs pl pu h;obtain⟨a,xs,rfl,hx,hw,q⟩:=h;cases rx;obtain⟨its,r,ht,hz⟩:=I.tuple hx;have hlen:its.toArray.size=xs.length:=by rw [List.size_toArray];exact r.length.symm
 refine⟨"tuple",_,PyProof.Rows.slot_tuple_getitem.lookup,ht.typeIs,?_⟩;refine HT.getItem_tuple_cut ht hs pl pu (by rw [hlen];exact hw) ?_ (by rw [hlen];exact hz);rw [hlen];refine⟨.ref s.heap.objs.size,_,I.laid (t':=s.toks) (o:=.tup (cutV xs lo hi)) (fun b ob q=>Heap.get?_push_of_some _ q) (Nat.le_refl _) ?_,rfl,q _ (I.hok.fresh (Nat.le_refl _))⟩;exact⟨Nat.le_trans (a2p xs lo hi) hz,_,(r.drop (HT.sIx xs.length 0 lo)).take (HT.sIx xs.length xs.length hi - HT.sIx xs.length 0 lo),a1l.new _ _⟩
def rCatT (K:PySem.W.Frag):R2:=fun x y H Q=>∃a b xs ys,x=.ref a∧y=.ref b∧SqT K H a xs∧SqT K H b ys∧xs≠[]∧xs.length + ys.length≤sizeLine∧
 (ys=[]→Q (.ref a) H)∧(ys≠[]→∀p,H p=none→Q (.ref p) (upd H p (.tup (xs++ys))))
theorem Vals.nil_iff {xs:List V}{us:List Value}(r:Vals xs us):us=[]↔xs=[]:=by
 cases r with
 | nil=>simp
 | cons _ _=>simp
theorem a8M:OpR X (binaryOp .Add) (rCatT X.K):=by
 intro pins s σ H x y v u Q I rx ry h;obtain⟨a,b,xs,ys,rfl,rfl,ha,hb,hx,hz,q1,q2⟩:=h;cases rx;cases ry;obtain⟨its,r1,p1,_⟩:=I.tuple ha;obtain⟨its2,r2,p2,_⟩:=I.tuple hb;refine HT.cat_tup p1 p2 (fun z=>hx (r1.nil_iff.mp z)) (fun z=>⟨.ref a,H,I,rfl,q1 (r2.nil_iff.mp z)⟩) (fun z=>?_) (by rw [← r1.length,← r2.length];exact hz);refine⟨.ref s.heap.objs.size,_,I.laid (t':=s.toks) (o:=.tup (xs++ys)) (fun b ob q=>Heap.get?_push_of_some _ q) (Nat.le_refl _) ?_,rfl,q2 (fun w=>z (r2.nil_iff.mpr w)) _ (I.hok.fresh (Nat.le_refl _))⟩;exact⟨by rw [List.length_append];exact hz,_,r1.append r2,a1l.new _ _⟩
end
end L2
namespace L2
open PySem PySem.Spec PyProof.Rows
def ixN (n:Nat)(i:Int):Option Nat:=if 0≤i then(if i < n then some i.toNat else none) else if -(n:Int)≤i then some (i + n).toNat else none
def atI {α:Type}(xs:List α)(i:Int):Option α:=(ixN xs.length i).bind fun j=>xs[j]?
theorem a6r {n:Nat}{i:Int}{j:Nat}(h:ixN n i=some j):seqIndex? i n=some j∧j < n∧-(n:Int)≤i∧i < n:=by
 unfold ixN at h
 by_cases h0:0≤i
 · rw [if_pos h0] at h
   by_cases h1:i < n
   · rw [if_pos h1] at h;have e:i.toNat=j:=Option.some.inj h;exact⟨by rw [seqIndex_of h0 h1,e],by omega,by omega,h1⟩
   · rw [if_neg h1] at h;cases h
 · rw [if_neg h0] at h
   by_cases h1:-(n:Int)≤i
   · rw [if_pos h1] at h;have e:(i + n).toNat=j:=Option.some.inj h;exact⟨by rw [seqIndex_neg (by omega) h1,e],by omega,h1,by omega⟩
   · rw [if_neg h1] at h;cases h
theorem a4h {α:Type}{xs:List α}{i:Int}{v:α}(h:atI xs i=some v):∃j,seqIndex? i xs.length=some j∧xs[j]?=some v∧j < xs.length∧-(xs.length:Int)≤i∧i < xs.length:=by
 unfold atI at h;cases e:ixN xs.length i with
 | none=>rw [e] at h;cases h
 | some j =>
   rw [e] at h;obtain⟨h1,h2,h3,h4⟩:=a6r e;exact⟨j,h1,h,h2,h3,h4⟩
theorem a9m {α:Type}{xs:List α}{j:Nat}{v:α}(h:xs[j]?=some v):atI xs (j:Int)=some v:=by
 have hj:j < xs.length:=(List.getElem?_eq_some_iff.mp h).1
 have e:ixN xs.length (j:Int)=some j:=by
   unfold ixN;rw [if_pos (by omega),if_pos (by omega)];simp
 unfold atI;rw [e];exact h
def a6Q (b:Expr):Prop:=∀o i,subscripted b false o i=operate [o,i] (getItem o i)
def IxR (X:Cx)(r:R2):Prop:=
 ∀ (value slice : Expr) (pins : List (Addr × Obj)) (s : Shared) (σ : St) (H : Hp) (x y : V) (v u : Value) (Q : VK), Inv X pins σ H s → RelV x v → RelV y u → r x y H Q →
   subscripted slice false v u=operate [v,u] (getItem v u)→wpAny (model X.prog X.w) X.A (subscriptTail value slice v u) (EP X pins σ Q) X.xe s
def MtR (X:Cx)(id:String)(r:V→List V→Hp→VK→Prop):Prop:=
 ∀ (pins : List (Addr × Obj)) (s : Shared) (σ : St) (H : Hp) (x : V) (xs : List V) (v : Value) (us : List Value) (Q : VK), Inv X pins σ H s → RelV x v → Vals xs us → r x xs H Q →
   wpAny (model X.prog X.w) X.A (call (.builtin id) (v::us)) (EP X pins σ Q) X.xe s
section
variable {X:Cx}{a b:Expr}{ta tb:TE}{pos:Pos}
theorem IxR.or {r r':R2}(h:IxR X r)(h':IxR X r'):IxR X (fun x y H Q=>r x y H Q∨r' x y H Q):=by
 intro value slice pins s σ H x y v u Q I rx ry q hs;rcases q with q | q
 · exact h value slice pins s σ H x y v u Q I rx ry q hs
 · exact h' value slice pins s σ H x y v u Q I rx ry q hs
theorem a3w {r:R2}(hr:IxR X r)(ha:PE X a ta)(hb:PE X b tb)(hs:a6Q b):PE X (.Subscript a b pos) (tOp r ta tb):=by
 intro pins s σ H Q I h;exact Subscript_ (binT ha hb I h fun v u s2 x y H2 I2 rx ry q=>hr a b pins s2 σ H2 x y v u Q I2 rx ry q (hs _ _))
def rIxL (K:PySem.W.Frag):R2:=fun x y H Q=>∃p xs i v,x=.ref p∧y=.int i∧SqL K H p xs∧atI xs i=some v∧Q v H
def rIxT (K:PySem.W.Frag):R2:=fun x y H Q=>∃p xs i v,x=.ref p∧y=.int i∧SqT K H p xs∧atI xs i=some v∧Q v H
def rIxS:R2:=fun x y H Q=>∃z i c,x=.str z∧y=.int i∧z.length≤sizeLine∧atI z.cps.toList i=some c∧Q (.str ⟨#[c]⟩) H
theorem a1i:IxR X (rIxL X.K):=by
 intro value slice pins s σ H x y v u Q I rx ry h hs;obtain⟨p,xs,i,z,rfl,rfl,hq,he,q⟩:=h;cases rx;obtain⟨t,rfl⟩:=ry;obtain⟨its,r,pl,hz⟩:=I.list hq;obtain⟨j,h1,h2,h3,h4,h5⟩:=a4h he;obtain⟨w,ew,rw'⟩:=r.get h2;have hl:=r.length;have hn:=a2C;have fin:EP X pins σ Q w s:=⟨z,H,I,rw',q⟩
 by_cases h0:0≤i
 · have hj:i.toNat=j:=by
     rw [seqIndex_of h0 h5] at h1;exact Option.some.inj h1
   exact item_listR pl.isList h0 (by omega) (by rw [hj];simpa using ew) fin hs
 · have hj:(i + (its.toArray.size:Int)).toNat=j:=by
     rw [seqIndex_neg (by omega) h4] at h1;rw [List.size_toArray,← hl];exact Option.some.inj h1
   exact subscriptTail_builtinR (x:=w) pl.isList.typeIs slot_list_getitem.lookup
     (wpAny_getItem_list_neg (Q:=fun r s'=>r=w∧EP X pins σ Q r s') pl.isList (by omega) (by rw [List.size_toArray] <;> omega) (by omega) (by rw [hj];simpa using ew) ⟨rfl,fin⟩) hs
theorem ix_tup:IxR X (rIxT X.K):=by
 intro value slice pins s σ H x y v u Q I rx ry h hs;obtain⟨p,xs,i,z,rfl,rfl,hq,he,q⟩:=h;cases rx;obtain⟨t,rfl⟩:=ry;obtain⟨its,r,pl,hz⟩:=I.tuple hq;obtain⟨j,h1,h2,h3,h4,h5⟩:=a4h he;obtain⟨w,ew,rw'⟩:=r.get h2;have hl:=r.length;have hn:=a2C;have fin:EP X pins σ Q w s:=⟨z,H,I,rw',q⟩
 exact subscriptTail_builtinR (x:=w) pl.typeIs slot_tuple_getitem.lookup
   (getItem_tuple (j:=j) (Q:=fun r s'=>r=w∧EP X pins σ Q r s') pl (by omega) (by omega) (by rw [List.size_toArray,← hl];exact h1) (by simpa using ew) ⟨rfl,fin⟩) hs
theorem ix_str:IxR X rIxS:=by
 intro value slice pins s σ H x y v u Q I rx ry h hs;obtain⟨z,i,c,rfl,rfl,hz,he,q⟩:=h;obtain⟨t,rfl⟩:=rx;obtain⟨t',rfl⟩:=ry;obtain⟨j,h1,h2,h3,h4,h5⟩:=a4h he;have hl:z.cps.toList.length=z.length:=by simp [Str.length]
 rw [hl] at h1 h4 h5;have hn:=a2C
 exact tail_any (typeIs_str s z t) slot_str_getitem.lookup (getItem_str (c:=c) (by
   have e1:decide (i < -(2 ^ 63:Int))=false:=decide_eq_false (by omega);have e2:decide (i≥2 ^ 63)=false:=decide_eq_false (by omega)
   rw [e1,e2,Bool.or_false]) (by rw [h1];simpa using h2) ⟨.str ⟨#[c]⟩,H,I.tok _,⟨_,rfl⟩,q⟩) hs
def rIx (K:PySem.W.Frag):R2:=fun x y H Q=>rIxL K x y H Q∨rIxT K x y H Q∨rIxS x y H Q
theorem ix_seq:IxR X (rIx X.K):=a1i.or (ix_tup.or ix_str)
theorem a5b (its:List Value)(n j:Nat)(u:Value):Obj.mapSeq (·.setIfInBounds j u) { cls:=.type "list",data:=.seq its.toArray n }={ cls:=.type "list",data:=.seq (its.set j u).toArray n }:=by
 simp [Obj.mapSeq]
theorem Inv.lst {pins:List (Addr×Obj)}{σ:St}{H:Hp}{s:Shared}{p:Addr}{xs:List V}(I:Inv X pins σ H s)(h:H p=some (.lst xs)) :
   ∃(its:List Value) (n:Nat),Vals xs its∧s.heap.get? p=some { cls:=.type "list",data:=.seq its.toArray n }∧xs.length≤sizeLine:=by
 obtain⟨z,its,n,r,e⟩:=I.hok p _ h;exact⟨its,n,r,e,z⟩
theorem Inv.lstUpd {pins:List (Addr×Obj)}{σ:St}{H:Hp}{s:Shared}{p:Addr}{xs ys:List V}{its its':List Value}{n n':Nat}{f:Obj→Obj}(I:Inv X pins σ H s)(h:H p=some (.lst xs))
   (ho:s.heap.get? p=some { cls:=.type "list",data:=.seq its.toArray n }) (hf:f { cls:=.type "list",data:=.seq its.toArray n }={ cls:=.type "list",data:=.seq its'.toArray n' }) (r:Vals ys its') (hz:ys.length≤sizeLine) (t:Nat) :
   Inv X pins σ (upd H p (.lst ys)) { s with heap:=s.heap.update p f,toks:=t }:=by
 have e:(s.heap.update p f).get? p=some { cls:=.type "list",data:=.seq its'.toArray n' }:=by
   rw [Heap.get?_update_self f ho (by rw [hf] <;> rfl),hf]
 refine I.write (x:=p) (e:=p) (by rw [h];trivial) (.inl rfl) (fun b u hb q=>(Heap.get?_update_other _ _ (Ne.symm hb)).trans q) ⟨_,e⟩ ?_;exact⟨hz,its',n',r,e⟩
def a5u:V→V→V→Hp→(Hp→Prop)→Prop:=fun o i v H Q=>∃p xs k j,o=.ref p∧i=.int k∧H p=some (.lst xs)∧ixN xs.length k=some j∧Q (upd H p (.lst (xs.set j v)))
theorem a2M:PSet X a5u:=by
 intro pins s σ H o i v ov iv u Q I ro ri rv h;obtain⟨p,xs,k,j,rfl,rfl,hp,hj,q⟩:=h;cases ro;obtain⟨t,rfl⟩:=ri;obtain⟨its,n,r,ho,hz⟩:=I.lst hp;obtain⟨h1,h2,h3,h4⟩:=a6r hj;have hl:=r.length;have hn:=a2C
 have I':Inv X pins σ (upd H p (.lst (xs.set j v))) { s with heap:=s.heap.update p (Obj.mapSeq (·.setIfInBounds j u)) }:=
   I.lstUpd hp ho (a5b its n j u) (r.set rv j) (by rw [List.length_set];exact hz) s.toks
 by_cases h0:0≤k
 · have hk:k.toNat=j:=by
     rw [seqIndex_of h0 h4] at h1;exact Option.some.inj h1
   exact PySem.W.ki_setAt ho h0 (by omega) (by rw [List.size_toArray,← hl];exact h4) (by rw [hk];exact⟨_,I',q⟩)
 · have hk:(k + (its.toArray.size:Int)).toNat=j:=by
     rw [seqIndex_neg (by omega) h3] at h1;rw [List.size_toArray,← hl];exact Option.some.inj h1
   exact PySem.W.ki_setBack ho (by omega) (by rw [List.size_toArray,← hl];exact h3) (by omega) (by rw [hk];exact⟨_,I',q⟩)
theorem a3p (lo hi:Option Int)(n:Nat):(sliceBounds lo hi none n).1=((HT.sIx n 0 lo:Nat):Int)∧(sliceBounds lo hi none n).2.1=((HT.sIx n n hi:Nat):Int)∧(sliceBounds lo hi none n).2.2=1:=by
 refine⟨?_,?_,rfl⟩
 · cases lo with
   | none=>simp [sliceBounds,HT.sIx]
   | some i =>
     simp only [sliceBounds,HT.sIx,Option.getD_none,show(1:Int) > 0 by decide,if_true]
     by_cases h:i < 0
     · simp only [h,if_true] <;> omega
     · simp only [h,if_false] <;> omega
 · cases hi with
   | none=>simp [sliceBounds,HT.sIx]
   | some i =>
     simp only [sliceBounds,HT.sIx,Option.getD_none,show(1:Int) > 0 by decide,if_true]
     by_cases h:i < 0
     · simp only [h,if_true] <;> omega
     · simp only [h,if_false] <;> omega
theorem a2L (its:List Value)(lo hi:Option Int):slicePick its.toArray lo hi none=((its.drop (HT.sIx its.length 0 lo)).take (HT.sIx its.length its.length hi - HT.sIx its.length 0 lo)).toArray:=by
 obtain⟨h1,h2,h3⟩:=a3p lo hi its.toArray.size;unfold slicePick;rw [h1,h2,h3];simp only [sliceRange_one,pick_run,List.size_toArray] <;> rfl
def rSlL (K:PySem.W.Frag):V→Option Int→Option Int→Hp→VK→Prop:=fun x lo hi H Q=>∃a xs,x=.ref a∧SqL K H a xs∧∀p,H p=none→Q (.ref p) (upd H p (.lst (cutV xs lo hi)))
theorem a5p:SlR X (rSlL X.K):=by
 intro pins s σ H x v vl vu lo hi sl Q I rx hs pl pu h;obtain⟨a,xs,rfl,hx,q⟩:=h;cases rx;obtain⟨its,r,ht,hz⟩:=I.list hx;have hlen:=r.length;refine⟨"list",_,slot_list_getitem.lookup,ht.isList.typeIs,?_⟩;refine wpAny_getItem_list_slice ht.isList hs pl pu .none (by simp) ?_ (by rw [List.size_toArray] <;> omega)
 rw [a2L,← hlen];refine⟨.ref s.heap.objs.size,_,I.laid (t':=s.toks) (o:=.lst (cutV xs lo hi)) (fun b ob q=>Heap.get?_push_of_some _ q) (Nat.le_refl _) ?_,rfl,q _ (I.hok.fresh (Nat.le_refl _))⟩;exact⟨Nat.le_trans (a2p xs lo hi) hz,_,0,(r.drop (HT.sIx xs.length 0 lo)).take (HT.sIx xs.length xs.length hi - HT.sIx xs.length 0 lo),Heap.get?_push_size _ rfl⟩
def a1A:V→Bool
 | .non=>true
 | .bl _=>true
 | .int _=>true
 | .str _=>true
 | _=>false
def eqV:V→V→Bool
 | .non,.non=>true
 | .bl a,.bl b=>a == b
 | .bl a,.int b=>(if a then 1 else 0) == b
 | .int a,.bl b=>a == (if b then 1 else 0)
 | .int a,.int b=>a == b
 | .str a,.str b=>a == b
 | _,_=>false
theorem a8c {A:Around}{s:Shared}{y x:V}{u v:Value}(ry:RelV y u)(rx:RelV x v)(fy:a1A y=true)(fx:a1A x=true):SeqAt.EqAt A s u v (eqV y x):=by
 cases y with
 | non =>
   cases ry;cases x with
   | non=>cases rx;exact SeqAt.EqAt.same _
   | bl b=>cases rx;exact SeqAt.EqAt.none_bool b
   | int b=>obtain⟨t,rfl⟩:=rx;exact SeqAt.EqAt.none_int b t
   | str b=>obtain⟨t,rfl⟩:=rx;exact SeqAt.EqAt.none_str b t
   | _=>exact absurd (show false=true from fx) Bool.false_ne_true
 | bl a =>
   cases ry;cases x with
   | non=>cases rx;exact SeqAt.EqAt.bool_none a
   | bl b=>cases rx;exact SeqAt.EqAt.bool_bool a b
   | int b=>obtain⟨t,rfl⟩:=rx;exact SeqAt.EqAt.bool_int a b t
   | str b=>obtain⟨t,rfl⟩:=rx;exact SeqAt.EqAt.bool_str a b t
   | _=>exact absurd (show false=true from fx) Bool.false_ne_true
 | int a =>
   obtain⟨t',rfl⟩:=ry;cases x with
   | non=>cases rx;exact SeqAt.EqAt.int_none a t'
   | bl b=>cases rx;exact SeqAt.EqAt.int_bool a t' b
   | int b=>obtain⟨t,rfl⟩:=rx;exact SeqAt.EqAt.int_int a t' b t
   | str b=>obtain⟨t,rfl⟩:=rx;exact SeqAt.EqAt.int_str a t' b t
   | _=>exact absurd (show false=true from fx) Bool.false_ne_true
 | str a =>
   obtain⟨t',rfl⟩:=ry;cases x with
   | non=>cases rx;exact SeqAt.EqAt.str_none a t'
   | bl b=>cases rx;exact SeqAt.EqAt.str_bool a t' b
   | int b=>obtain⟨t,rfl⟩:=rx;exact SeqAt.EqAt.str_int a t' b t
   | str b=>obtain⟨t,rfl⟩:=rx;exact SeqAt.EqAt.str_str a t' b t
   | _=>exact absurd (show false=true from fx) Bool.false_ne_true
 | _=>exact absurd (show false=true from fy) Bool.false_ne_true
theorem a3x:OpR X (compareOp .NotIn) (fun x y H Q=>∃i j,x=.str i∧y=.str j∧Q (.bl (!(!(Builtin.Str.occurrences j i 0 j.length 1).isEmpty))) H):=by
 intro pins s σ H x y v u Q I rx ry h;obtain⟨i,j,rfl,rfl,q⟩:=h;obtain⟨t,rfl⟩:=rx;obtain⟨t',rfl⟩:=ry;exact notIn_str ⟨.bl _,H,I,rfl,q⟩
theorem a1W:a0U X (.builtin "len") (fun xs H Q=>∃p ys,xs=[.ref p]∧(SqL X.K H p ys∨SqT X.K H p ys)∧Q (.int ys.length) H):=by
 intro pins s σ H xs us Q I r h;obtain⟨p,ys,rfl,hq,q⟩:=h;obtain⟨u,rfl,rx⟩:=a3P r;cases rx;have hn:=a2C;rcases hq with hq | hq
 · obtain⟨its,r',pl,hz⟩:=I.list hq;have hlen:=r'.length;exact Calls.call_len_list pl.isList (by simp only [List.size_toArray] <;> omega) ⟨.int ys.length,H,I.tok _,⟨s.toks + 1,by rw [List.size_toArray,hlen]⟩,q⟩
 · obtain⟨its,r',pl,hz⟩:=I.tuple hq;have hlen:=r'.length;exact len_tuple pl (by simp only [List.size_toArray] <;> omega) ⟨.int ys.length,H,I.tok _,⟨s.toks + 1,by rw [List.size_toArray,hlen]⟩,q⟩
theorem a3I:a0U X (.builtin "len") (fun xs H Q=>∃z,xs=[.str z]∧z.length≤sizeLine∧Q (.int z.length) H):=by
 intro pins s σ H xs us Q I r h;obtain⟨z,rfl,hz,q⟩:=h;obtain⟨u,rfl,t,rfl⟩:=a3P r;have hn:=a2C;exact len_str (by omega) ⟨.int z.length,H,I.tok _,⟨_,rfl⟩,q⟩
theorem a0U.or {f:Value}{r r':List V→Hp→VK→Prop}(h:a0U X f r)(h':a0U X f r'):a0U X f (fun xs H Q=>r xs H Q∨r' xs H Q):=by
 intro pins s σ H xs us Q I rs q;rcases q with q | q
 · exact h pins s σ H xs us Q I rs q
 · exact h' pins s σ H xs us Q I rs q
theorem a3H:a0U X (.type "list") (fun xs H Q=>∃p ys,xs=[.ref p]∧(SqL X.K H p ys∨SqT X.K H p ys)∧∀l,H l=none→Q (.ref l) (upd H l (.lst ys))):=by
 intro pins s σ H xs us Q I r h;obtain⟨p,ys,rfl,hq,q⟩:=h;obtain⟨u,rfl,rx⟩:=a3P r;cases rx
 have fin:∀(its:List Value),Vals ys its→ys.length≤sizeLine→∀(h':Heap) (c':Nat),(∀b o',s.heap.get? b=some o'→h'.get? b=some o')→
     h'.get? s.heap.objs.size=some { cls:=.type "list",dict:=none,data:=.seq its.toArray c',slots:=#[] }→EP X pins σ Q (.ref s.heap.objs.size) { s with heap:=h' }:=fun its r' hz h' c' kp e=>
   ⟨.ref s.heap.objs.size,_,I.laid (t':=s.toks) kp (Nat.le_refl _) (show a1k X.prog X.w _ h' _ (.lst ys) from⟨hz,its,c',r',e⟩),rfl,q _ (I.hok.fresh (Nat.le_refl _))⟩
 rcases hq with hq | hq
 · obtain⟨its,r',pl,hz⟩:=I.list hq;have hlen:=r'.length;obtain⟨o,ho,hc,n,hd⟩:=pl.isList;exact call_list_seq p (.inl rfl) ho hc hd (fun h' c' kp e=>fin its r' hz h' c' kp e) (by simp only [List.size_toArray] <;> omega)
 · obtain⟨its,r',pl,hz⟩:=I.tuple hq;have hlen:=r'.length;obtain⟨o,ho,hc,n,hd⟩:=pl;exact call_list_seq p (.inr rfl) ho hc hd (fun h' c' kp e=>fin its r' hz h' c' kp e) (by simp only [List.size_toArray] <;> omega)
theorem a3g:a0U X (.type "tuple") (fun xs H Q=>∃p ys,xs=[.ref p]∧((SqL X.K H p ys∧∀l,H l=none→Q (.ref l) (upd H l (.tup ys)))∨(SqT X.K H p ys∧Q (.ref p) H))):=by
 intro pins s σ H xs us Q I r h;obtain⟨p,ys,rfl,h⟩:=h;obtain⟨u,rfl,rx⟩:=a3P r;cases rx;rcases h with⟨hq,q⟩ | ⟨hq,q⟩
 · obtain⟨its,r',pl,hz⟩:=I.list hq;have hlen:=r'.length;refine call_tuple_list pl.isList (fun h' kp=>?_) (by simp only [List.size_toArray] <;> omega)
   have I1:Inv X pins σ H { s with heap:=h' }:=I.kept (t':=s.toks) kp
   have I2:Inv X pins σ (upd H h'.objs.size (.tup ys)) { s with heap:=h'.push { cls:=.type "tuple",data:=.seq its.toArray } }:=
     I1.laid (t':=s.toks) (fun b o e=>Heap.get?_push_of_some _ e) (Nat.le_refl _) (show a1k X.prog X.w _ _ _ (.tup ys) from⟨hz,its,r',a1l.new _ _⟩)
   exact⟨.ref h'.objs.size,_,I2,rfl,q _ (I1.hok.fresh (Nat.le_refl _))⟩
 · obtain⟨its,r',pl,hz⟩:=I.tuple hq;exact call_tuple_same pl ⟨.ref p,H,I,rfl,q⟩
def tyV (K:PySem.W.Frag)(T:String)(x:V)(H:Hp):Prop:=match x with
 | .str _=>T="str"
 | .int _=>T="int"
 | .ref p=>(T="list"∧∃xs,SqL K H p xs)∨(T="tuple"∧((∃o,K.lookup p=some o∧o.cls=.type "tuple"∧o.dict=none)∨∃xs,H p=some (.tup xs)))∨
     (T="dict"∧((∃kvs,H p=some (.dK kvs))∨∃kvs,H p=some (.dT kvs)))∨(T="set"∧∃S n,H p=some (.set S n))
 | _=>False
theorem tyV_is {pins:List (Addr×Obj)}{σ:St}{H:Hp}{s:Shared}{T:String}{x:V}{v:Value}(I:Inv X pins σ H s)(r:RelV x v)(ty:tyV X.K T x H) :
   s.TypeIs v T∧∀a,v=.ref a→∃ob,s.heap.get? a=some ob∧ob.dict=none:=by
 cases x with
 | str z =>
   obtain⟨t,rfl⟩:=r;cases(show T="str" from ty);exact⟨typeIs_str s z t,fun _ e=>nomatch e⟩
 | int i =>
   obtain⟨t,rfl⟩:=r;cases(show T="int" from ty);exact⟨typeIs_int s i t,fun _ e=>nomatch e⟩
 | ref p =>
   cases r;rcases ty with⟨rfl,xs,hq⟩ | ⟨rfl,hk⟩ | ⟨rfl,hk⟩ | ⟨rfl,S,n,hk⟩
   · obtain⟨its,_,pl,_⟩:=I.list hq;refine⟨pl.isList.typeIs,fun a e=>?_⟩;cases e;obtain⟨o,n,e,c,hd,_⟩:=pl;exact⟨o,e,hd⟩
   · rcases hk with⟨o,hk,hc,hd⟩ | ⟨xs,hk⟩
     · refine⟨⟨o,I.kIn p o hk,hc⟩,fun a e=>?_⟩;cases e;exact⟨o,I.kIn _ o hk,hd⟩
     · obtain⟨_,_,_,o,e,c,_⟩:=(show a1k X.prog X.w H s.heap p (.tup xs) from I.hok p _ hk);refine⟨⟨o,e,(Prod.mk.inj c).1⟩,fun a e2=>?_⟩;cases e2;exact⟨o,e,(Prod.mk.inj c).2⟩
   · have z:∃o,s.heap.get? p=some o∧o.ExactDict:=by
       rcases hk with⟨kvs,hk⟩ | ⟨kvs,hk⟩
       · obtain⟨_,_,_,_,o,_,_,e,ex,_⟩:=I.hok p _ hk;exact⟨o,e,ex⟩
       · obtain⟨_,_,_,_,o,_,_,e,ex,_⟩:=I.hok p _ hk;exact⟨o,e,ex⟩
     obtain⟨o,e,ex⟩:=z;refine⟨⟨o,e,ex.1⟩,fun a e2=>?_⟩;cases e2;exact⟨o,e,ex.2.1⟩
   · obtain⟨o,_,_,_,e,ex,_⟩:=I.hok p _ hk;refine⟨⟨o,e,ex.1⟩,fun a e2=>?_⟩;cases e2;exact⟨o,e,ex.2.1⟩
 | _=>exact False.elim ty
def tBM (K:PySem.W.Frag)(T:String)(r:V→List V→Hp→VK→Prop)(to:TE)(t:TA):TE:=fun σ H Q=>to σ H fun x H1=>tyV K T x H1∧t σ H1 fun xs H2=>r x xs H2 Q
variable {o e:Expr}{es:List Expr}{to:TE}{t:TA}{name:Str}{apos cpos:Pos}{T id:String}{r:V→List V→Hp→VK→Prop}
theorem a7i (pa:PlainAttrs T)(slot:Slot T name id)(hty:typeOf (.builtin id)=pure (.type "method_descriptor"))(hm:MtR X id r)(ho:PE X o to)(ha:PA X (e::es) t)
   (hbase:attributeBase o name X.env (eval o X.env)=eval o X.env:=by rfl)
   (hfew:((backTo cpos (starEach (e::es) X.env)).all (fun x=>!x.1) && (backToKw cpos (keywordEach [] X.env)).all (fun x=>x.1.isSome)
     && decide ((e::es).length + ([]:List Keyword).length + (if([]:List Keyword).isEmpty then 0 else 1) < 30))=true:=by rfl)
   (hline:(apos.endLine == cpos.line)=true:=by rfl) (hs:starEach (e::es) X.env=(false,eval e X.env)::starEach es X.env:=by rfl) (hplain:(backTo cpos (starEach es X.env)).any (·.1)=false:=by rfl) :
   PE X (.Call (.Attribute o name apos) (e::es) [] cpos) (tBM X.K T r to t):=by
 intro pins s σ H Q I h;refine wpAny_Call_method_late hbase hfew hline rfl (thn (ho pins s σ H _ I h) fun v s1 ⟨x,H1,I1,r1,ty,q1⟩=>?_);obtain⟨h1,h2⟩:=tyV_is I1 r1 ty;refine⟨T,id,pa,slot,hty,h1,h2,?_⟩;have hA:=ha cpos pins s1 σ H1 _ I1 q1;rw [hs] at hA ⊢;refine Calls.callWith_builtin (by show(false || (backTo cpos (starEach es X.env)).any (·.1))=false;rw [hplain] <;> rfl) (Calls.evalArgs_plain ?_)
 exact thn hA fun us s2 ⟨vs,H2,I2,r2,q2⟩=>hm pins s2 σ H2 x vs v us Q I2 r1 r2 q2
end
end L2
namespace L2
open PySem PySem.Spec PyProof.Rows
def MtM (X:Cx)(id:String)(r:V→List V→Hp→VK→Prop):Prop:=
 ∀ (pins : List (Addr × Obj)) (s : Shared) (σ : St) (H : Hp) (x : V) (xs : List V) (v : Value) (us : List Value) (Q : VK), Inv X pins σ H s → RelV x v → Vals xs us → r x xs H Q →
   wpAny (model X.prog X.w) X.A (call (.builtin id) (v::us)) (EP X pins σ Q) X.xe s
theorem Vals.one:∀{x:V} {us:List Value},Vals [x] us→∃u,us=[u]∧RelV x u
 | _,_,.cons r .nil=>⟨_,rfl,r⟩
section
variable {X:Cx}{pins:List (Addr×Obj)}{σ:St}{H:Hp}{s:Shared}{l b:Addr}{xs ys zs:List V}
theorem Inv.lset {its its':List Value}{n:Nat}{f:Array Value→Array Value}{t':Nat}(I:Inv X pins σ H s)(hH:H l=some (.lst xs))
   (e:s.heap.get? l=some { cls:=.type "list",data:=.seq its.toArray n }) (hf:f its.toArray=its'.toArray) (hv:Vals ys its') (hz:ys.length≤sizeLine) :
   Inv X pins σ (upd H l (.lst ys)) { s with heap:=s.heap.update l (Obj.mapSeq f),toks:=t' }:=by
 have q:=PySem.IsL.update e f;rw [hf] at q;refine I.write (x:=l) (e:=l) (by rw [hH];exact trivial) (.inl rfl) (fun b' u hb hu=>(Heap.get?_update_other s.heap (Obj.mapSeq f) (Ne.symm hb)).trans hu) ⟨_,q⟩ ?_;exact⟨hz,its',_,hv,q⟩
theorem Inv.fresh (I:Inv X pins σ H s):H s.heap.objs.size=none:=I.hok.fresh (Nat.le_refl _)
theorem Inv.lstM (I:Inv X pins σ H s)(hH:H l=some (.lst xs)):xs.length≤sizeLine∧∃(its:List Value) (n:Nat),Vals xs its∧xs.length=its.length∧s.heap.get? l=some { cls:=.type "list",data:=.seq its.toArray n }:=by
 obtain⟨z,its,n,r,e⟩:=I.hok l _ hH;exact⟨z,its,n,r,r.length,e⟩
end
section
variable {X:Cx}
def a5w:V→List V→Hp→VK→Prop:=fun x vs H Q=>∃l xs y,x=.ref l∧vs=[y]∧H l=some (.lst xs)∧xs.length < sizeLine∧Q .non (upd H l (.lst (xs++[y])))
theorem a1I:MtM X "list.append" a5w:=by
 intro pins s σ H x vs v us Q I rx rv h;obtain⟨l,xs,y,rfl,rfl,hH,hz,q⟩:=h;cases rx;obtain⟨u,rfl,ru⟩:=rv.one;obtain⟨z,its,n,r,hl,e⟩:=I.lstM hH;refine call_meets F.slot_list_append ⟨_,e,rfl⟩ F.entry_list_append (F.args_list_append_2 _ _) (PySem.list_append l its.toArray n u (by rw [List.size_toArray];omega)) ⟨e,?_⟩;refine⟨.non,_,I.lset (its':=its++[u]) hH e (by simp) (r.append (.cons ru .nil)) ?_,rfl,q⟩;rw [List.length_append,List.length_singleton];omega
end
end L2
namespace Att
open PySem PySem.W PySem.Calls PyProof.Rows
theorem a2m {P:Params}{h:Heap}:∀(ns:List Int) (vs:List Value),WellAll P h vs (ns.map WData.int)→IntsAre vs ns:=by
 intro ns
 induction ns with
 | nil =>
   intro vs w;rw [List.map_nil] at w;cases w;exact .nil
 | cons n ns ih =>
   intro vs w;rw [List.map_cons] at w;cases w with
   | cons a b =>
     cases a;exact .cons _ _ (ih _ b)
theorem a5s {l:OpenLaw}{n:Nat}(hn:l.most=some n){P:Params}{h:Heap}{args:List WData}{vals:List Value}
   (hpre:l.row.toRowW.claim.pre args=true) (hwl:WellAll P h vals args) :
   ∃a vs ns,vals=[Value.ref a]∧args=[WData.list (ns.map WData.int)]∧h.get? a=some { cls:=.type "list",data:=.seq vs.toArray }∧IntsAre vs ns∧ns.length≤n:=by
 have hsh:WShape.hasAll [] args [.list .int]=true:=(pre_splitW hpre).1;have hc:l.pre.holds [] { args:=args }=true:=(pre_splitW hpre).2;obtain⟨d,r,rfl,h1,h2⟩:=hasAllW_cons hsh;obtain rfl:=hasAllW_nil h2;obtain⟨xs,rfl,h3⟩:=hasW_list h1;obtain⟨ns,rfl⟩:=items_int h3
 have hlen:ns.length≤n:=by
   unfold OpenLaw.pre at hc
   have h4:(WTm.not (.lt (.lit (.int (n:Int))) (.len (.arg 0)))).holds [] { args:=[.list (ns.map .int)] }=true:=by
     have h4:=(holds_andW hc).1;rw [hn] at h4;exact h4
   have h5:=condW_of h4 (w_not (w_lt w_lit (w_len_list (w_arg rfl))));rw [List.length_map] at h5;refine Nat.le_of_not_lt fun q=>?_;have q':(n:Int) < ((ns.length:Nat):Int):=by omega
   first
     | (rw [decide_eq_true q'] at h5;exact absurd h5 (by decide))
     | (simp at h5;omega)
 cases hwl with
 | cons w1 w2 =>
   cases w2;cases w1 with
   | list ho hall=>exact⟨_,_,ns,rfl,rfl,ho,a2m ns _ hall,hlen⟩
theorem a5L (l:OpenLaw)(args:List WData):l.row.toRowW.claim.post args (.bool true) args=true:=
 postW_of (r:=l.row.toRowW) (X:=(true == true))
   (show WShape.has [] (.bool true) .bool=true by first | rfl | decide | simp [WShape.has,WShape.arms,WShape.armsAll])
   (show(WTm.eq .res (.lit (.bool true))).value [] { args:=args,res:=some (.bool true),after:=args }=some (.bool (true == true)) from w_eq_bool (w_res rfl) w_lit) rfl
theorem attach_call {l:OpenLaw}{n:Nat}{q:Program}{loose:List Str}{XP:(Str→Option Value)→Heap→Prop}{YP:World→Heap→Prop}{d:DefRec}
   (hn:l.most=some n) (hdf:d.params.defaults=[])
   (call:∀(w:World) (s₀ s₁:Shared) (mg mb:Str→Option Value) (fa:Addr) (o:Obj) (pm cd doc:Value) (a:Addr) (vs:List Value) (ns:List Int),
     Ground q loose [] XP w s₀ mg mb s₁.heap→YP w s₁.heap→
     s₁.heap.get? fa=some o→o.data=.func (docDef d.name d.params d.body d.scope pm cd doc)→s₁.heap.CodeRec cd d.name→mg d.name=some (.ref fa)→
     s₁.heap.get? a=some { cls:=.type "list",data:=.seq vs.toArray }→IntsAre vs ns→ns.length≤n→s₁.gens=#[]→
     codeAny (model l.prog w) callerA (.call (.ref fa) ⟨[.ref a],[]⟩) (fun r s'=>r=.ok (.ret (.bool true))∧OldK s₁.heap s'.heap∧s'.os=s₁.os∧AllBare s'.gens) s₁) :
   WalkO q loose XP YP l.row.toRowW d [] (fun f vs=>PySem.call f vs):=by
 intro w s₀ s₁ mg mb G Y fa o pm cd doc dV kV ho hd hcd hD hmg hg args vals as hpre hlay hrd hwl hlo;obtain rfl:dV=.none:=Dflts.none hD hdf;obtain rfl:kV=.none:=Dflts.noKw hD;obtain⟨a,vs,ns,rfl,rfl,hobj,hints,hlen⟩:=a5s hn hpre hwl;refine enter_call (codeAny_mono (call w s₀ s₁ mg mb fa o pm cd doc a vs ns G Y ho (fd_plain hd) hcd hmg hobj hints hlen hg) fun r s' hq=>?_);obtain⟨rfl,h2,h3,h4⟩:=hq;exact⟨.inl ⟨.bool true,.bool true,[],rfl,fun _=>rfl,.bool true,a5L l _,fun _=>⟨List.Pairwise.nil,fun _ hm=>(nomatch hm)⟩⟩,h2,h3,h4⟩
end Att
namespace L2
open PySem PySem.Spec PyProof.Rows
theorem a3j:∀{vs:List Value} {ns:List Int},IntsAre vs ns→Vals (ns.map V.int) vs
 | _,_,.nil=>.nil
 | _,_,.cons n t h=>.cons ⟨t,rfl⟩ (a3j h)
def Only (H:Hp):Prop:=∀b,H b=none∨∃o xs,H b=some (.frz o (.lst xs))
theorem a7s {P:Program}{w:World}{K:PySem.W.Frag}{mg mb:Str→Option Value}{CX:CXT}{k:Nat}{fa a:Addr}{fd:FuncData}{x:Str}{sp:Sp}{s₁:Shared}{vs:List Value}{ns:List Int}
   (KX:K.In s₁.heap) (hns:s₁.heap.Ns mainGlobals mg) (hb:s₁.heap.Ns builtinsNs mb) (hbb:∀x:Str,x≠"__name__"→mb x=bootBuiltins x) (hlim:s₁.heap.NoLimit) (hg:s₁.gens=#[])
   (ha:s₁.heap.get? a=some { cls:=.type "list",data:=.seq vs.toArray }) (hi:IntsAre vs ns) (hl:ns.length≤sizeLine) (hr:Room k callerA)
   (F:∀base:Heap,K.In base→base.Ns mainGlobals mg→FnOk P w K mg base CX k fa fd [x] sp) (hbind:∀(s:Shared) (u:Value),BindsTo s fd ⟨[u],[]⟩ [(x,u)])
   (hsp:∀H:Hp,Only H→SqL K H a (ns.map V.int)→sp [.ref a] H (fun v _=>v=.bl true) fun _ _ _=>False)
   (hCX:∀H e s',CX [] H s₁ (fun _ _ _=>False) e s'→False) :
   codeAny (model P w) callerA (.call (.ref fa) ⟨[.ref a],[]⟩) (fun r s'=>r=.ok (.ret (.bool true))∧OldK s₁.heap s'.heap∧s'.os=s₁.os∧AllBare s'.gens) s₁:=by
 have rv:=a3j hi;have lenV:=hi.length
 -- from an abstract heap in which nothing but the script may be tracked
 have core:∀H:Hp,Only H→SqL K H a (ns.map V.int)→HOk P w H s₁.heap→(∀b,H b≠none→b=a)→(H a≠none→K.lookup a=none)→
     codeAny (model P w) callerA (.call (.ref fa) ⟨[.ref a],[]⟩) (fun r s'=>r=.ok (.ret (.bool true))∧OldK s₁.heap s'.heap∧s'.os=s₁.os∧AllBare s'.gens) s₁:=by
   intro H hO hS hok hA hK;have base_of:∀{b:Addr} {o:Obj},s₁.heap.get? b=some o→H b=none→(hidT s₁.heap H).get? b=some o:=fun e n=>a7v e n
   have noA:∀{b:Addr} {o:Obj} {es:Array DictEntry} {ep:Nat},s₁.heap.get? b=some o→o.data=.dict es ep→H b=none:=fun {b o es ep} e d=>by
     cases q:H b with
     | none=>rfl
     | some u =>
       have e':b=a:=hA b (by rw [q];simp);subst e';rw [ha] at e;cases e;have d':Data.seq vs.toArray _=Data.dict es ep:=d;cases d'
   have nsK:∀{b:Addr} {m:Str→Option Value},s₁.heap.Ns b m→(hidT s₁.heap H).Ns b m:=fun {b m} ⟨o,es,ep,e,d,r⟩=>⟨o,es,ep,base_of e (noA e d),d,r⟩
   have hKb:K.In (hidT s₁.heap H):=fun b o e=>base_of (KX b o e) (by
     cases q:H b with
     | none=>rfl
     | some u =>
       have e':b=a:=hA b (by rw [q];simp);subst e'
       rw [hK (by rw [q];simp)] at e;cases e)
   have hM:Mod K mg (hidT s₁.heap H):=⟨hKb,nsK hns,⟨mb,nsK hb,hbb⟩,let ⟨mc,h1,h2⟩:=hlim;⟨mc,nsK h1,h2⟩⟩;have e0:Env0 P w K mg (hidT s₁.heap H) callerA [] s₁ H:=⟨rfl,hM,fun b o e=>a8R e,Nat.le_of_eq (a6u _ _),trivial,fun b hb=>absurd (show b∈([]:List Addr) from hb) (by simp),hok,.of_eq hg,(hO sysModules).imp id fun⟨o,xs,e⟩=>⟨o,_,e⟩⟩;refine codeAny_mono ((F _ hKb (nsK hns)).run callerA [] s₁ H ⟨[.ref a],[]⟩ [.ref a] [.ref a] _ _ hr e0 (hbind s₁ (.ref a)) (.cons rfl .nil) (hsp H hO hS)) fun r s' h=>?_;cases r with
   | error e=>exact(hCX H e s' h).elim
   | ok fl =>
     cases fl with
     | next=>exact False.elim h
     | brk=>exact False.elim h
     | cont=>exact False.elim h
     | ret u =>
       obtain⟨v,H',os,bare,un,hok',r',q⟩:=h;have q':v=.bl true:=q;subst q';obtain rfl:u=Value.bool true:=r';refine⟨rfl,OldK.of_keep fun b o e=>?_,os,bare⟩;cases q:H b with
       | none=>exact un.keep b o e q (by intro z;exact absurd (show b∈([]:List Addr) from z) (by simp)) (by simp)
       | some u =>
         rcases hO b with z | ⟨ob,xs,z⟩
         · rw [q] at z;cases z
         · have z2:=un.frzs b ob _ z;obtain⟨e1,_⟩:=hok b _ z;obtain⟨e2,_⟩:=hok' b _ z2;rw [e] at e1;cases e1;exact e2
 cases hk:K.lookup a with
 | some o =>
   -- the script is one of the module's own objects
   have e:=KX a o hk;rw [ha] at e;cases e;refine core (fun _=>none) (fun _=>.inl rfl) (.inr ⟨_,vs.toArray,_,hk,rfl,rfl,rfl,by rw [List.size_toArray,lenV];exact hl,by simpa using rv⟩) (fun b u z=>by have z':(none:Option HO)=some u:=z;cases z') (fun b z=>absurd rfl z) fun z=>absurd rfl z
 | none =>
   refine core (fun b=>if b=a then some (.frz { cls:=.type "list",data:=.seq vs.toArray } (.lst (ns.map V.int))) else none) (fun b=>?_) (.inl (.inr ⟨{ cls:=.type "list",data:=.seq vs.toArray },if_pos rfl⟩)) (fun b u z=>?_) (fun b z=>?_) fun _=>hk
   · by_cases hb:b=a
     · exact .inr ⟨_,_,if_pos hb⟩
     · exact .inl (if_neg hb)
   · by_cases hb:b=a
     · have z':=(if_pos hb).symm.trans z;cases z';subst hb;exact⟨ha,by rw [List.length_map];exact hl,vs,_,rv,ha⟩
     · have z':=(if_neg hb).symm.trans z;cases z'
   · by_cases hb:b=a
     · exact hb
     · exact absurd (if_neg hb) z
end L2
namespace L2
open PySem PySem.Spec PyProof.Rows
abbrev KOf {K:PySem.W.Frag}{h:Heap}(_:K.In h):PySem.W.Frag:=K
theorem a8i {l:PySem.W.OpenLaw}{n k:Nat}{q:Program}{loose:List Str}{XP:(Str→Option Value)→Heap→Prop}{YP:World→Heap→Prop}{d:DefRec}{K:Params→PySem.W.Frag}{CX:World→CXT}{sp:World→Sp}{x:Str}
   (hn:l.most=some n) (hn2:n≤sizeLine) (hdf:d.params.defaults=[]) (hr:Room k callerA)
   (hY:∀(w:World) (h:Heap),YP w h→(K w.params).In h)
   (F:∀(w:World) (mg:Str→Option Value) (fa:Addr) (h:Heap),(K w.params).In h→h.Ns mainGlobals mg→mg d.name=some (.ref fa)→
     ∃ fd : FuncData, (∀ (s : Shared) (u : Value), BindsTo s fd ⟨[u], []⟩ [(x, u)]) ∧
       ∀base:Heap,(K w.params).In base→base.Ns mainGlobals mg→FnOk l.prog w (K w.params) mg base (CX w) k fa fd [x] (sp w))
   (hsp:∀(w:World) (H:Hp) (a:Addr) (ns:List Int),ns.length≤n→Only H→SqL (K w.params) H a (ns.map V.int)→sp w [.ref a] H (fun v _=>v=.bl true) fun _ _ _=>False)
   (hCX:∀(w:World) (H:Hp) (s:Shared) (e:Value) (s':Shared),CX w [] H s (fun _ _ _=>False) e s'→False) :
   PySem.W.WalkO q loose XP YP l.row.toRowW d [] (fun f vs=>PySem.call f vs):=by
 refine Att.attach_call hn hdf fun w s₀ s₁ mg mb fa o pm cd doc a vs ns G Y ho hd hcd hmg hobj hints hlen hg=>?_;have KX:=hY w _ Y;obtain⟨fd,hb,hF⟩:=F w mg fa _ KX G.T.g hmg;exact a7s KX G.T.g G.T.b G.T.builtins G.T.nolimit hg hobj hints (Nat.le_trans hlen hn2) hr hF hb (fun H hO hS=>hsp w H a ns hlen hO hS) fun H e s'=>hCX w H s₁ e s'
end L2
namespace L2
open PySem PySem.Spec PyProof.Rows
def a0X (s:Stmt):Arguments:=match s with
 | .FunctionDef _ a _ _ _ _ _ _ _ _=>a
 | _=>{ posonlyargs:=[],args:=[],vararg:=none,kwonlyargs:=[],kw_defaults:=[],kwarg:=none,defaults:=[] }
def a0E (s:Stmt):List Stmt:=match s with
 | .FunctionDef _ _ b _ _ _ _ _ _ _=>b
 | _=>[]
def a0h (s:Stmt):Scope:=match s with
 | .FunctionDef _ _ _ _ _ _ sc _ _ _=>sc
 | _=>{ kind:=.function,names:=[],isGenerator:=false,isCoroutine:=false }
abbrev CX0:CXT:=fun _ _ _ _ _ _=>False
abbrev E0:XK:=fun _ _ _=>False
theorem pass0 {X:Cx}:a6R CX0 X E0:=fun _ _ _ _ _ _ _ h=>h.elim
structure Fun (K:PySem.W.Frag)(x qual:Str)(st:Stmt)(f:Addr)(fd:FuncData):Prop where
 ex:∃(oc:Value) (od:Option Addr) (kV doc pm:Value) (an:Option Addr) (cdv ct:Value) (osl:Array (Option Value)),
   fd=PySem.W.fnOf x qual (a0X st) (a0E st) (a0h st) .none kV doc pm an cdv ct∧K.lookup f=some ⟨oc,od,.func fd,osl⟩∧PySem.W.codeIn K cdv qual=true
 kp:PySem.W.keepIn K (.ref f)=true
section
variable {P:Program}{w:World}{K:PySem.W.Frag}{mg:Str→Option Value}{base:Heap}
theorem Fun.ok {x qual:Str}{st:Stmt}{f:Addr}{fd:FuncData}{N ps:List Str}{k:Nat}{sp:Sp}(F:Fun K x qual st f fd)(S:a0y N ps (a0h st))(len:∀vs H Q E,sp vs H Q E→vs.length=ps.length)
   (hbody:∀(cdv:Value) (A:Around) (outer:List Env) (s:Shared) (H:Hp) (vs:List V) (Q:VK) (E:XK),Room k (A.deeper (envOfC qual (a0h st) s.heap.objs.size f cdv))→sp vs H Q E→
     ∃t,PSs (cxOf CX0 P w K mg base N qual (a0h st) f cdv A outer s H E).nox (a0E st) t∧t { nx:=fun _ H'=>Q .non H',rt:=Q } (a1Y N vs) H):FnOk P w K mg base CX0 (k + 1) f fd ps sp:=by
 obtain⟨oc,od,kV,doc,pm,an,cdv,ct,osl,rfl,lk,hcd⟩:=F.ex;refine fn_of lk hcd S len fun A outer s H vs Q E hr hsp=>?_;obtain⟨t,h,q⟩:=hbody cdv A outer s H vs Q E hr hsp;exact⟨t,h.nox,q⟩
theorem Fun.binds {x qual:Str}{st:Stmt}{f:Addr}{fd:FuncData}{ps:List Str}(F:Fun K x qual st f fd)
   (h:∀(kV doc pm:Value) (an:Option Addr) (cdv ct:Value) (us:List Value),us.length=ps.length→bindArgs (PySem.W.fnOf x qual (a0X st) (a0E st) (a0h st) .none kV doc pm an cdv ct) ⟨us,[]⟩=pure (ps.zip us)):a5j K fd ps []:=by
 obtain⟨oc,od,kV,doc,pm,an,cdv,ct,osl,rfl,lk,hcd⟩:=F.ex;exact .all (h kV doc pm an cdv ct)
theorem fun_mk {x qual:Str}{st:Stmt}{f:Addr}{oc:Value}{od an:Option Addr}{osl:Array (Option Value)}{kV doc pm cdv ct:Value}(l:K.lookup f=some ⟨oc,od,.func (PySem.W.fnOf x qual (a0X st) (a0E st) (a0h st) .none kV doc pm an cdv ct),osl⟩)
   (c:PySem.W.codeIn K cdv qual=true) (k:PySem.W.keepIn K (.ref f)=true):Fun K x qual st f (PySem.W.fnOf x qual (a0X st) (a0E st) (a0h st) .none kV doc pm an cdv ct):=⟨⟨oc,od,kV,doc,pm,an,cdv,ct,osl,rfl,l,c⟩,k⟩
end
section
variable {X:Cx}
theorem pv (i:Nat){x:Str}{pos:Pos}(hN:X.N[i]?=some x:=by rfl)(hv:Vis X.env.scope x:=by first | exact Or.inl rfl | exact Or.inr (Or.inl rfl) | exact Or.inr (Or.inr rfl))(hd:(x == ("__debug__":Str))=false:=by decide)
   (hcd:(x == ("__classdict__":Str))=false:=by decide):PE X (.Name x pos) (tVar i):=a7Q hN hv hd hcd
end
theorem iteF {A B:Prop}(h:B):if false=true then A else B:=by
 rw [if_neg Bool.false_ne_true];exact h
theorem iteT {A B:Prop}(h:A):if true=true then A else B:=by
 rw [if_pos rfl];exact h
theorem ite2 {c A B:Prop}[Decidable c](h1:c→A)(h2:¬c→B):if c then A else B:=by
 by_cases h:c
 · rw [if_pos h];exact h1 h
 · rw [if_neg h];exact h2 h
def Same (H H':Hp):Prop:=∀b o,H b=some o→H' b=some o
theorem Same.refl (H:Hp):Same H H:=fun _ _ h=>h
end L2
end
section
namespace L2
open PySem PySem.Spec PyProof.Rows
theorem a2q {prog:Program}{w:World}{A:Around}{R:Result→Shared→Prop}{s:Shared}{elt target iter:Expr}{ifs:List Expr}{scope:Scope}{pos:Pos}{it acc:Value}{env:Env}(I:Nat→Shared→Prop)
   (turn:∀n s,I n s→wpAny (model prog w) A (pyNext it) (fun r s₁=>match r with
     | none=>R (.ok .next) s₁
     | some v=>wpAny (model prog w) A (letOwnedTupleGo target it v) (fun _ s₁'=>wpAny (model prog w) A (assign target env v) (fun _ s₂=>
         wpAny (model prog w) A (forIn ifs true fun c r=>if r=true then do let ok ← isTrue c env (eval c env);pure (ForInStep.yield ok) else pure (ForInStep.yield r)) (fun ok s₃=>
           if ok=true then wpAny (model prog w) A (eval elt env) (fun x s₄=>
             wpAny (model prog w) A (call (.builtin "list.append") [acc,x]) (fun _ s₅=>∃m,m < n∧I m s₅) (fun _ _=>False) s₄) (fun _ _=>False) s₃
           else ∃m,m < n∧I m s₃) (fun _ _=>False) s₂) (fun _ _=>False) s₁') (fun _ _=>False) s₁) (fun _ _=>False) s)
   (n:Nat) (h:I n s) :
   codeAny (model prog w) A (.compLoop (.ListComp elt [⟨target,iter,ifs,0⟩] scope pos) 0 it acc env) R s:=by
 refine codeAny_loop rfl I (fun n s hI=>?_) n h;show wpAny _ A ((compTurn (.ListComp elt [⟨target,iter,ifs,0⟩] scope pos) 0 it acc env).onRaise (fun x=>do noteFrame x env;theTreesLotGoes x)) _ _ s;refine wpAny_noted ?_;rw [compTurn_list];refine wpAny_bind (wpAny_standAt (wpAny_bind (wpAny_mono (turn n s hI) (fun r s₁ h₁=>?_) fun _ _ h'=>h'.elim)));cases r with
 | none=>exact wpAny_pure h₁
 | some v =>
   refine wpAny_bind (wpAny_mono h₁ (fun _ s₁' h₁'=>?_) fun _ _ h'=>h'.elim);refine wpAny_bind (wpAny_mono h₁' (fun _ s₂ h₂=>wpAny_bind (wpAny_mono h₂ (fun ok s₃ h₃=>?_) fun _ _ h'=>h'.elim)) fun _ _ h'=>h'.elim);cases ok with
   | false=>exact wpAny_pure ⟨rfl,h₃⟩
   | true =>
     exact wpAny_bind (wpAny_bind (wpAny_mono h₃ (fun x s₄ h₄=>wpAny_bind (wpAny_mono h₄ (fun _ s₅ h₅=>wpAny_pure (wpAny_pure ⟨rfl,h₅⟩)) fun _ _ h'=>h'.elim)) fun _ _ h'=>h'.elim))
def a0f (X:Cx)(scope:Scope)(cl:List (Str×Addr))(N:List Str)(fp:List Addr)(C:Addr)(s:Shared)(H:Hp):Cx where
 prog:=X.prog
 w:=X.w
 K:=X.K
 mg:=X.mg
 base:=X.base
 A:=X.A
 N:=N
 s₀:=s
 H₀:=H
 env:=compEnvC scope cl C X.env
 outer:=X.stack
 stack:=X.stack
 ex:=fp
 fn:=fun _=>false
 calm:=X.calm
 pn:=X.pn
 xe:=fun _ _=>False
structure a0I (X:Cx)(scope:Scope)(cl:List (Str×Addr))(N:List Str)(cs:List (Option Nat)):Prop where
 clos:closureFor scope X.env=pure cl
 kind:scope.kind=.function
 nocell:∀y∈scope.names,y.2≠.cell
 names:∀y∈scope.names,y.2=.local→scope.names.lookup y.1=some .local
 sub:∀x c,cl.lookup x=some c→X.env.cells.lookup x=some c
 has:∀x,((relabel scope X.env).names.lookup x=some .cell∨(relabel scope X.env).names.lookup x=some .free)→∃c,cl.lookup x=some c
 len:cs.length=N.length
 cap:∀(k j:Nat) (x:Str),cs[k]?=some (some j)→N[k]?=some x→X.N[j]?=some x∧Vis X.env.scope x∧X.env.kindOf x≠some .local∧(∃c,cl.lookup x=some c)∧((relabel scope X.env).names.lookup x=some .cell∨(relabel scope X.env).names.lookup x=some .free)
def a6O:List (Str×Addr)→List (Str×Addr)→Prop
 | [],_=>True
 | y::r,cells=>cells.lookup y.1=some y.2∧a6O r cells
theorem a6O.get:∀{cl cells:List (Str×Addr)},a6O cl cells→∀x c,cl.lookup x=some c→cells.lookup x=some c
 | [],_,_,_,_,h=>by cases h
 | (y, d) :: r, cells, ⟨h1, h2⟩, x, c, h => by
   rw [List.lookup_cons] at h;cases e:x == y with
   | true =>
     rw [e] at h;have ey:x=y:=by simpa using e
     cases h;rw [ey];exact h1
   | false=>rw [e] at h;exact a6O.get h2 x c h
theorem a1j {X:Cx}{scope:Scope}{cl:List (Str×Addr)}{N:List Str}{cs:List (Option Nat)}(clos:closureFor scope X.env=pure cl)(kind:scope.kind=.function)(nocell:(scope.names.all fun y=>!(y.2 == .cell))=true)
   (names:(scope.names.all fun y=>!(y.2 == .local) || scope.names.lookup y.1 == some .local)=true) (sub:a6O cl X.env.cells)
   (has:((relabel scope X.env).names.all fun y=>!(y.2 == .cell || y.2 == .free) || (cl.lookup y.1).isSome)=true) (len:cs.length=N.length)
   (cap:((cs.zip N).all fun y=>match y.1 with | none=>true | some j=>X.N[j]? == some y.2 && (X.env.scope.names.lookup y.2 == some .cell || X.env.scope.names.lookup y.2 == some .free) && (cl.lookup y.2).isSome &&
     ((relabel scope X.env).names.lookup y.2 == some .cell || (relabel scope X.env).names.lookup y.2 == some .free))=true):a0I X scope cl N cs:=by
 refine⟨clos,kind,fun y hy=>?_,fun y hy e=>?_,sub.get,fun x hx=>?_,len,fun k j x hk hN=>?_⟩
 · have:=List.all_eq_true.mp nocell y hy;intro z;rw [z] at this;cases this
 · have:=List.all_eq_true.mp names y hy;rw [e] at this
   simpa using this
 · rcases hx with hx | hx
   · have:=List.all_eq_true.mp has _ (PySem.mem_of_lookup hx);exact Option.isSome_iff_exists.mp (by simpa using this)
   · have:=List.all_eq_true.mp has _ (PySem.mem_of_lookup hx);exact Option.isSome_iff_exists.mp (by simpa using this)
 · have hz:(cs.zip N)[k]?=some (some j,x):=by rw [List.getElem?_zip_eq_some];exact⟨hk,hN⟩
   have:=List.all_eq_true.mp cap _ (List.mem_of_getElem? hz);simp only [Bool.and_eq_true,Bool.or_eq_true,beq_iff_eq] at this;obtain⟨⟨⟨h1,h2⟩,h3⟩,h4⟩:=this;refine⟨h1,?_,?_,Option.isSome_iff_exists.mp h3,h4⟩
   · rcases h2 with h2 | h2
     · exact .inr (.inl h2)
     · exact .inr (.inr h2)
   · intro z;have z':X.env.scope.names.lookup x=some .local:=z;rw [z'] at h2;rcases h2 with h2 | h2 <;> cases h2
def a5g (cs:List (Option Nat))(σ:St):St:=cs.map fun o=>o.bind fun j=>(σ[j]?).bind id
def PIf (X:Cx)(ifs:List Expr)(t:TT):Prop:=
 ∀ (pins : List (Addr × Obj)) (s : Shared) (σ : St) (H : Hp) (Q : Bool → Hp → Prop), Inv X pins σ H s → t σ H Q →
   wpAny (model X.prog X.w) X.A (forIn ifs true fun c r=>if r=true then do let ok ← isTrue c X.env (eval c X.env);pure (ForInStep.yield ok) else pure (ForInStep.yield r)) (TP X pins σ Q) X.xe s
def tTru:TT:=fun _ H Q=>Q true H
theorem a8I {X:Cx}:PIf X [] tTru:=fun pins s σ H Q I h=>wpAny_tests_nil ⟨H,I,h⟩
theorem a8H {X:Cx}{c:Expr}{t:TT}(h:PT X c t):PIf X [c] t:=fun pins s σ H Q I hq=>wpAny_tests_one (h pins s σ H Q I hq)
def CompW (J:It)(g:TG)(tt:TT)(te:TE)(Q:VK)(D:Addr)(σc:St)(H1:Hp):Prop:=∃W:Nat→Nat→St→Hp→Prop,(∃m,W 0 m σc H1)∧
 ∀i m σ' H',W i m σ' H'→(J.stop i H'∧Q (.ref D) H')∨(J.go i H'∧∀x H2,J.yld i H' x H2→g x σ' H2 fun σ3 H3=>tt σ3 H3 fun b H4=>
    if b=true then te σ3 H4 fun v H5=>∃ys,H5 D=some (.lst ys)∧ys.length < sizeLine∧∃m',m' < m∧W (i + 1) m' σ3 (upd H5 D (.lst (ys++[v])))
    else ∃m',m' < m∧W (i + 1) m' σ3 H4)
def tComp (cs:List (Option Nat))(wi:TI)(g:TG)(tt:TT)(te:TE):TE:=fun σ H Q=>wi σ H fun J H1=>∀D,H1 D=none→CompW J g tt te Q D (a5g cs σ) (upd H1 D (.lst []))
theorem a3d {X:Cx}{scope:Scope}{cl:List (Str×Addr)}{N:List Str}{cs:List (Option Nat)}(S:a0I X scope cl N cs){pins:List (Addr×Obj)}{σ:St}{H:Hp}{s:Shared}{fp:List Addr}{h₁:Heap}{tk:Nat}
   (I:Inv X pins σ H s) (f2:∀b∈fp,FpOk X pins H b) (ho:∀b∈fp,∃o,s.heap.get? b=some o)
   (old:∀b o,s.heap.get? b=some o→h₁.get? b=some o) (hns:h₁.Ns (s.heap.objs.size + 1) (fun x=>([]:List (Str×Value)).reverse.lookup x))
   (hD:h₁.get? s.heap.objs.size=some { cls:=.type "list",data:=.seq ([]:List Value).toArray }) :
   Inv (a0f X scope cl N fp (s.heap.objs.size + 1) s H) pins (a5g cs σ) (upd H s.heap.objs.size (.lst [])) { s with heap:=h₁,toks:=tk }:=by
 have lt:∀b o,s.heap.get? b=some o→b < s.heap.objs.size:=fun b o e=>Heap.lt_size e;have neC:∀b o,s.heap.get? b=some o→b≠s.heap.objs.size + 1:=fun b o e=>Nat.ne_of_lt (Nat.lt_succ_of_lt (lt b o e));have neD:∀b o,s.heap.get? b=some o→b≠s.heap.objs.size:=fun b o e=>Nat.ne_of_lt (lt b o e);have nstk:∀b,b≠X.env.locals→b∉X.fs→b∉frs X.stack:=fun b h1 h2 hb=>(List.mem_cons.mp (I.stkSub b hb)).elim h1 h2
 have cellO:∀x c,cl.lookup x=some c→∃v o,s.heap.get? c=some o∧s.heap.IsCell c v:=fun x c e=>by
   obtain⟨v,q⟩:=I.cell x c (S.sub x c e);obtain⟨o,h1,_⟩:=id q;exact⟨v,o,h1,q⟩
 refine⟨⟨I.ok.mod,S.kind,I.ok.glob,I.ok.blt,Nat.le_succ _,fun x y c h1 h2=>I.ok.inj x y c (S.sub x c h1) (S.sub y c h2),fun x hx=>S.has x hx,fun x c hx=>(by cases hx),I.ok.hd,I.ok.frames,.inl rfl,fun b hb=>?_,I.bs,Nat.le_trans I.ok.bsz I.sz,fun b o e hb=>?_,fun b hb=>?_,I.stack,I.stkFree,I.nos⟩,
   rfl,I.bare,Un.laid old (Nat.le_refl _) I.fresh I.bigS,⟨_,hns,fun i x v e1 e2 e3=>?_⟩,fun x c e=>?_,?_,fun x c e=>?_,fun p hp=>?_,I.hok.laid old (Nat.le_refl _) ⟨Nat.zero_le _,[],0,.nil,hD⟩,?_⟩
 · obtain⟨o,e⟩:=ho b hb;exact⟨neC b o e,fun x c ec=>(f2 b hb).2.2.2.2.1 x c (S.sub x c ec)⟩
 · rcases(f2 b hb).2.2.2.1 with z | z
   · exact I.ok.noex b o e z
   · exact absurd (Nat.lt_of_lt_of_le (Heap.lt_size e) (Nat.le_trans I.ok.bsz z)) (Nat.lt_irrefl _)
 · exact nstk b (f2 b hb).2.1 (f2 b hb).2.2.1
 · have e2':(cs.map fun o=>o.bind fun j=>(σ[j]?).bind id)[i]?=some (some v):=e2;rw [List.getElem?_map] at e2';cases ec:cs[i]? with
   | none=>rw [ec] at e2';cases e2'
   | some o =>
     rw [ec] at e2';cases o with
     | none=>cases e2'
     | some j =>
       have e2'':(σ[j]?).bind id=some v:=by simpa using e2'
       cases es:σ[j]? with
       | none=>rw [es] at e2'';cases e2''
       | some ov =>
         rw [es] at e2'';have e4:ov=some v:=by simpa using e2''
         subst e4;obtain⟨hN,hv,hnl,⟨c,hc⟩,hk⟩:=S.cap i j x ec e1;obtain⟨m,hn,hl⟩:=I.loc;obtain⟨u,r,l⟩:=hl j x v hN es hv;refine⟨u,r,?_⟩;rcases l with⟨hk',_⟩ | ⟨_,c',hc',z⟩
         · exact absurd hk' hnl
         · have ecc:c'=c:=by
             have:=S.sub x c hc;rw [hc'] at this;exact Option.some.inj this
           subst ecc;obtain⟨o,h1,h2⟩:=z;exact .inr ⟨hk,c',hc,⟨o,old _ o h1,h2⟩⟩
 · obtain⟨v,o,h1,o',h2,h3⟩:=cellO x c e;exact⟨v,o',old _ o' h2,h3⟩
 · show upd H s.heap.objs.size (.lst []) (s.heap.objs.size + 1)=none;rw [a0g (Nat.succ_ne_self _)];exact I.hok.fresh (Nat.le_succ _)
 · obtain⟨v,o,h1,_⟩:=cellO x c e;rw [a0g (neD c o h1)];exact I.freeC x c (S.sub x c e)
 · obtain⟨e,n,ne,nf,d⟩:=I.pin p hp;exact⟨old _ _ e,by rw [a0g (neD _ _ e)];exact n,neC _ _ e,nstk _ ne nf,d⟩
 · show(cs.map _).length=N.length;rw [List.length_map];exact S.len
theorem Inv.uncomp {X:Cx}{scope:Scope}{cl:List (Str×Addr)}{N:List Str}{pins:List (Addr×Obj)}{σ σ':St}{H H':Hp}{s s':Shared}{fp:List Addr}{h':Heap}
   (I:Inv X pins σ H s) (f2:∀b∈fp,FpOk X pins H b)
   (J:Inv (a0f X scope cl N fp (s.heap.objs.size + 1) s H) pins σ' H' s') (hs:∀b,b≠s.heap.objs.size + 1→h'.get? b=s'.heap.get? b) :
   Inv X pins σ H' { s' with heap:=h' }:=by
 obtain⟨hh,g,d,t,os'⟩:=s';obtain rfl:os'=s.os:=J.os;have U:Un (frs X.stack) fp H H' s.heap hh:=J.base;have old:∀b o,s.heap.get? b=some o→b≠s.heap.objs.size + 1:=fun b o e=>Nat.ne_of_lt (Nat.lt_succ_of_lt (Heap.lt_size e));have hs':∀b,b≠s.heap.objs.size + 1→h'.get? b=hh.get? b:=hs
 have trC:∀b u,H' b=some u→b≠s.heap.objs.size + 1:=fun b u e z=>by
   have q:H' (s.heap.objs.size + 1)=none:=J.free;rw [z,q] at e;cases e
 show Inv X pins σ H' { s with heap:=h',gens:=g,drawn:=d,toks:=t };refine I.call (h':=h') (g':=g) (d':=d) (t':=t) (ch:=fp) ⟨fun b o e n hb hx=>?_,fun b o e n hb hx=>?_,U.free,fun b o e hx=>?_,U.tups,U.frzs,U.tbls,U.sys⟩ (fun b u e=>?_) J.bare fun b hb=>?_
 · rw [hs' b (old b o e)];exact U.keep b o e n hb hx
 · rw [hs' b (old b o e)];exact U.slot b o e n hb hx
 · rw [hs' b (old b o e)];exact U.there b o e hx
 · refine(J.hok b u e).stay (fun c v hc q=>?_) (fun _ q=>q) fun _ _ q=>q
   have ne:c≠s.heap.objs.size + 1:=by
     rcases hc with z | z
     · rw [z];exact trC b u e
     · exact trC c _ z
   rw [hs' c ne];exact q
 · exact⟨(f2 b hb).2.2.2.1,(f2 b hb).2.1,(f2 b hb).2.2.2.2.1,(f2 b hb).2.2.2.2.2⟩
theorem a5U {X:Cx}{scope:Scope}{cl:List (Str×Addr)}{N:List Str}{cs:List (Option Nat)}{elt tg iter:Expr}{ifs:List Expr}{pos:Pos}{wi:TI}{g:TG}{tt:TT}{te:TE}(S:a0I X scope cl N cs)(hc:X.calm=true)(hi:PI X tg iter wi)
   (hb:∀(fp:List Addr) (C:Addr) (s:Shared) (H:Hp),PG (a0f X scope cl N fp C s H) tg g∧PIf (a0f X scope cl N fp C s H) ifs tt∧PE (a0f X scope cl N fp C s H) elt te)
   (hs:∀x,foldedSetIterable iter X.env x=pure x:=by intro _;rfl) :
   PE X (.ListComp elt [⟨tg,iter,ifs,0⟩] scope pos) (tComp cs wi g tt te):=by
 intro pins s σ H Q I h;rw [eval_ListComp];refine wpAny_comprehension_free (use:=none) rfl hs S.clos S.kind S.names (thn (hi pins s σ H _ I h) fun v s1 h1=>thn h1 fun itv s2 h2=>?_);obtain⟨it,fp,tn,J,H2,rfl,I2,T,st2,f2,q⟩:=h2
 have ho:∀b∈fp,∃o,s2.heap.get? b=some o:=fun b hb=>by
   obtain⟨o,e,_⟩:=T.obj 0 _ st2 b hb;exact⟨o,e⟩
 refine wpAny_newObj_type (wpAny_newFunctionEnv S.nocell (by intro y hy;simp at hy) (fun h₁ hns₁ hsb₁=>?_) S.kind);dsimp only at hns₁ hsb₁ ⊢;have hC:(s2.heap.push { cls:=.type "list",dict:=none,data:=.seq ([]:List Value).toArray }).objs.size=s2.heap.objs.size + 1:=by rw [Heap.size_push]
 generalize hH2:s2.heap.push { cls:=.type "list",dict:=none,data:=.seq ([]:List Value).toArray }=hp2 at hns₁ hsb₁ hC ⊢;have old:∀b o,s2.heap.get? b=some o→h₁.get? b=some o:=fun b o e=>hsb₁.extBut b o (by rw [hC];exact Nat.ne_of_lt (Nat.lt_succ_of_lt (Heap.lt_size e))) (Heap.get?_push_of_some _ (hH2▸Heap.get?_push_of_some _ e));have hD:h₁.get? s2.heap.objs.size=some { cls:=.type "list",data:=.seq ([]:List Value).toArray }:=hsb₁.extBut _ _ (by rw [hC];exact Nat.ne_of_lt (Nat.lt_succ_self _)) (Heap.get?_push_of_some _ (hH2▸Heap.get?_push_size _ rfl));rw [hC] at hns₁ ⊢;obtain⟨W,⟨m0,w0⟩,turn⟩:=q s2.heap.objs.size I2.fresh;have Ic:=a3d S (tk:=s2.toks + ([]:List (Str×Value)).length) I2 f2 ho old hns₁ hD;have nstk:∀b,b≠X.env.locals→b∉X.fs→b∉frs X.stack:=fun b h1 h2 hb=>(List.mem_cons.mp (I2.stkSub b hb)).elim h1 h2
 have stat:∀{H':Hp},(∀b∈fp,H' b=none)→∀b∈fp,FpOk (a0f X scope cl N fp (s2.heap.objs.size + 1) s2 H2) pins H' b:=fun hn b hb=>by
   obtain⟨o,e⟩:=ho b hb;exact⟨hn b hb,Nat.ne_of_lt (Nat.lt_succ_of_lt (Heap.lt_size e)),nstk b (f2 b hb).2.1 (f2 b hb).2.2.1,.inl hb,fun x c ec=>(f2 b hb).2.2.2.2.1 x c (S.sub x c ec),(f2 b hb).2.2.2.2.2⟩
 obtain⟨hg,hf,he⟩:=hb fp (s2.heap.objs.size + 1) s2 H2;have st1:tn 0 h₁:=T.keep _ _ _ st2 fun b hb o e=>old b o e
 have fr1:∀b∈fp,upd H2 s2.heap.objs.size (.lst []) b=none:=fun b hb=>by
   obtain⟨o,e⟩:=ho b hb;rw [a0g (Nat.ne_of_lt (Heap.lt_size e))];exact(f2 b hb).1
 have loop:∀s₃:Shared,s₃={ s2 with heap:=h₁,toks:=s2.toks + ([]:List (Str×Value)).length }→
     codeAny (model X.prog X.w) X.A (.compLoop (.ListComp elt [⟨tg,iter,ifs,0⟩] scope pos) 0 (.ref it) (.ref s2.heap.objs.size) (compEnvC scope cl (s2.heap.objs.size + 1) X.env))
       (compPost (model X.prog X.w) X.A X.xe none (EP X pins σ Q) (.ref s2.heap.objs.size) (s2.heap.objs.size + 1)) s₃:=by
   rintro s₃ rfl;refine a2q (fun n s'=>∃i σ' H',Inv (a0f X scope cl N fp (s2.heap.objs.size + 1) s2 H2) pins σ' H' s'∧tn i s'.heap∧(∀b∈fp,H' b=none)∧W i n σ' H') ?_ m0 ⟨0,_,_,Ic,st1,fr1,w0⟩;rintro n s3 ⟨i,σ3,H3,I3,st3,fr3,w3⟩;rcases turn i n σ3 H3 w3 with⟨stop,qn⟩ | ⟨go,step⟩
   · refine thn (T.done (a0f X scope cl N fp (s2.heap.objs.size + 1) s2 H2) rfl rfl rfl hc i pins s3 σ3 H3 (fun _ _=>False) I3 (stat fr3) st3 stop) fun r s4 ⟨hr,I4⟩=>?_;subst hr;obtain⟨m4,hn4,_⟩:=I4.loc;exact⟨m4,hn4,fun h' hs'=>⟨.ref s2.heap.objs.size,H3,Inv.uncomp I2 f2 I4 fun b hb=>hs'.2 b hb,rfl,qn⟩⟩
   · refine thn (T.item (a0f X scope cl N fp (s2.heap.objs.size + 1) s2 H2) rfl rfl rfl hc i pins s3 σ3 H3 (fun _ _=>False) I3 (stat fr3) st3 go) fun r s4 ⟨u,hr,h4⟩=>?_;subst hr;refine thn h4 fun _ s5 ⟨x,H5,I5,r5,y5,st5,fr5⟩=>?_;have I5':=I5.pinned (stat fr5) (T.obj _ _ st5);refine thn (hg _ s5 σ3 H5 x u _ I5' r5 (step x H5 y5)) fun _ s6 ⟨σ6,H6,I6,q6⟩=>?_
     have again:∀{σ7:St} {H7:Hp} {s7:Shared},Inv (a0f X scope cl N fp (s2.heap.objs.size + 1) s2 H2) (pins++a0O fp s5.heap) σ7 H7 s7→(∃m',m' < n∧W (i + 1) m' σ7 H7)→
         ∃m,m < n∧∃i σ' H',Inv (a0f X scope cl N fp (s2.heap.objs.size + 1) s2 H2) pins σ' H' s7∧tn i s7.heap∧(∀b∈fp,H' b=none)∧W i m σ' H':=fun {σ7 H7 s7} I7 n7=>by
       obtain⟨m',hm,w7⟩:=n7;refine⟨m',hm,i + 1,σ7,H7,I7.unpinned,T.keep _ _ _ st5 fun b hb o e=>(I7.pin (b,o) (List.mem_append_right _ (List.mem_append_right _ (a0u hb e)))).1,fun b hb=>?_,w7⟩;obtain⟨o,e,d⟩:=T.obj _ _ st5 b hb;exact(I7.pin (b,o) (List.mem_append_right _ (List.mem_append_right _ (a0u hb e)))).2.1
     refine thn (hf _ s6 σ6 H6 _ I6 q6) fun ok s7 ⟨H7,I7,q7⟩=>?_;cases ok with
     | false=>exact again I7 q7
     | true =>
       refine thn (he _ s7 σ6 H7 _ I7 q7) fun y s8 ⟨v8,H8,I8,r8,ys,e8,z8,n8⟩=>?_
       have ma:=a1I (X:=a0f X scope cl N fp (s2.heap.objs.size + 1) s2 H2) _ s8 σ6 H8 (.ref s2.heap.objs.size) [v8] (.ref s2.heap.objs.size) [y]
         (fun v H9=>∃m',m' < n∧W (i + 1) m' σ6 H9) I8 rfl (.cons r8 .nil) ⟨_,ys,v8,rfl,rfl,e8,z8,n8⟩
       exact thn ma fun _ s9 ⟨v9,H9,I9,_,q9⟩=>again I9 q9
 exact codeAny_compStart_list (loop _ rfl) (T.self _ 0 _ _ _ st1 (loop _ rfl))
end L2
end
section
namespace L2
open PySem PySem.Spec PyProof.Rows
section
variable {X:Cx}
theorem Vals.getE {xs:List V}{us:List Value}(r:Vals xs us){j:Nat}(h:j < us.length):∃x,xs[j]?=some x∧RelV x us[j]:=by
 have hl:=r.length;have h':j < xs.length:=by omega
 obtain⟨u,e,q⟩:=r.get (i:=j) (x:=xs[j]) (by simp [h']);refine⟨xs[j],by simp [h'],?_⟩;have e':us[j]?=some us[j]:=by simp [h]
 rw [e'] at e;cases e;exact q
theorem a4D {x:V}(h:a1A x=true):eqV x x=true:=by
 cases x <;> simp_all [a1A,eqV]
theorem a6M:∀{bs:List Bool} {us:List Value} {j:Nat} {u:Value},Vals (bs.map V.bl) us→us[j]?=some u→∃b,bs[j]?=some b∧u=Value.bool b:=by
 intro bs us j u r e
 have hj:j < us.length:=by
   obtain⟨h,_⟩:=List.getElem?_eq_some_iff.mp e;exact h
 obtain⟨x,e1,q1⟩:=r.getE hj;rw [List.getElem?_map] at e1;cases eb:bs[j]? with
 | none=>rw [eb] at e1;cases e1
 | some b =>
   rw [eb] at e1;cases e1;have e2:us[j]?=some us[j]:=by simp [hj]
   rw [e2] at e;cases e;exact⟨b,rfl,q1⟩
theorem a4R (bs:List Bool):((List.range bs.length).all fun i=>(bs[i]?).getD true)=bs.all id:=by
 rw [Bool.eq_iff_iff,List.all_eq_true,List.all_eq_true];constructor
 · intro h b hb;obtain⟨i,hi,rfl⟩:=List.getElem_of_mem hb;have:=h i (List.mem_range.mpr hi)
   simpa [List.getElem?_eq_getElem hi] using this
 · intro h i hi;have hi':=List.mem_range.mp hi;simp only [List.getElem?_eq_getElem hi',Option.getD_some];exact h _ (List.getElem_mem hi')
theorem a5d {s:Shared}{h':Heap}{o:Obj}(hk:∀b x,b∉[s.heap.objs.size]→(s.heap.push o).get? b=some x→h'.get? b=some x):∀b x,s.heap.get? b=some x→h'.get? b=some x:=
 fun b x e=>hk b x (fun hm=>by rw [List.mem_singleton.mp hm] at e;exact Nat.lt_irrefl _ (Heap.lt_size e)) (Heap.get?_push_of_some _ e)
def rAll (K:PySem.W.Frag):List V→Hp→VK→Prop:=fun vs H Q=>∃(p:Addr) (bs:List Bool),vs=[.ref p]∧SqL K H p (bs.map V.bl)∧Q (.bl (bs.all id)) H
theorem a7z (hc:X.calm=true):a0U X (.builtin "all") (rAll X.K):=by
 intro pins s σ H vs us Q I rv h;obtain⟨p,bs,rfl,hq,q⟩:=h;obtain⟨u,rfl,r1⟩:=rv.one;cases r1;obtain⟨its,r,pl,hz⟩:=I.list hq;have hl:=pl.isList;have hlt:p < s.heap.objs.size:=by obtain⟨_,e,_⟩:=hl;exact Heap.lt_size e
 have len:its.toArray.size=bs.length:=by simpa using r.length.symm
 refine call_all_walk (wpAny_pyIter_list hl ?_)
 refine⟨s.heap.objs.size,[s.heap.objs.size,p],[s.heap.objs.size],its.toArray.size,_,_,fun i=>(bs[i]?).getD true,rfl,Walks.list (A:=X.A.in1) (I.ok.hd hc) _ p (Nat.ne_of_lt hlt) its.toArray,
   ⟨⟨_,Heap.get?_push_size _ rfl,rfl,rfl⟩,hl.push _⟩,fun i v s' Q' E' hP hQ=>?_,fun h' tk hk=>?_⟩
 · obtain⟨b,e,rfl⟩:=a6M r (j:=i) (u:=v) (by simpa using hP);simp only [e,Option.getD_some] at hQ;exact wpAny_truthy_bool hQ
 · rw [len,a4R];exact⟨.bl _,H,I.kept (a5d hk),rfl,q⟩
def Ite (K:PySem.W.Frag)(a:Addr):It:=
 ⟨fun i H=>∃xs x,SqL K H a xs∧xs[i]?=some x,fun i H x H'=>∃p v,H p=none∧x=.ref p∧H'=upd H p (.tup [.int i,v])∧∀xs,SqL K H a xs→xs[i]?=some v,fun i H=>∃xs,SqL K H a xs∧xs.length≤i⟩
theorem Inv.turnedNew {pins:List (Addr×Obj)}{σ:St}{H:Hp}{s:Shared}{h':Heap}{t':Nat}{ch:List Addr}{xs:List V}(I:Inv X pins σ H s)(k:∀b o,b∉ch→s.heap.get? b=some o→h'.get? b=some o)
   (hf:∀b∈ch,FpOk X pins H b) (new:a1k X.prog X.w (upd H s.heap.objs.size (.tup xs)) h' s.heap.objs.size (.tup xs)):Inv X pins σ (upd H s.heap.objs.size (.tup xs)) { s with heap:=h',toks:=t' }:=by
 have nch:∀b u,H b=some u→b∉ch:=fun b u e z=>by rw [(hf b z).1] at e;cases e
 have nD:∀b o,s.heap.get? b=some o→b≠s.heap.objs.size:=fun b o e=>Nat.ne_of_lt (Heap.lt_size e)
 refine I.step (g':=s.gens) (d':=s.drawn) (ch:=ch) (fun b hb=>⟨(hf b hb).2.2.2.1,(hf b hb).2.1,(hf b hb).2.2.2.2.1,(hf b hb).2.2.2.2.2⟩) (fun b o _ _ hc e _=>k b o hc e) (fun b o _ _ hc e _=>⟨o.slots,k b o hc e⟩) (fun b o _ e n=>by rw [a0g (nD b o e)];exact n)
   (fun b o hc e=>⟨o,k b o hc e⟩) (fun b ys e=>by rw [a0g (a0s e I.fresh)];exact e) (fun b o u e=>by rw [a0g (a0s e I.fresh)];exact e) (fun b ps e=>⟨#[],by rw [a0g (a0s e I.fresh),e];simp⟩) (fun z=>by unfold NS;rw [a0g (Nat.ne_of_lt I.bigS)];exact z) (fun m hm=>?_) (fun b u e=>?_) I.bare
 · obtain⟨o,es,ep,ho,r⟩:=hm;exact⟨o,es,ep,k _ o (fun z=>(hf _ z).2.1 rfl) ho,r⟩
 · by_cases hb:b=s.heap.objs.size
   · subst hb;rw [a0i] at e;cases e;exact new
   · rw [a0g hb] at e;refine(I.hok b u e).stay (fun c v hc q=>k c v ?_ q) (fun c q=>by rw [a0g (a0s q I.fresh)];exact q) fun c ys q=>by rw [a0g (a0s q I.fresh)];exact q
     rcases hc with z | z
     · rw [z];exact nch b u e
     · exact nch c _ z
theorem a5m {P:Program}{w:World}{K:PySem.W.Frag}{elts:List Expr}{x1}{pos:Pos}(a e it:Addr)(hne:e≠it) :
   Turn P w K (.Tuple elts x1 pos) (Ite K a) [e,it] e (fun i h=>(∃old,IsEnum h e it i old)∧h.IsListIter it a i) where
 mem:=by simp
 obj:=fun i h st b hb=>by
   obtain⟨⟨old,he⟩,o,e1,c,d⟩:=st;have hb':b=e∨b=it:=by simpa using hb
   rcases hb' with rfl | rfl
   · exact⟨_,he,fun v z=>by cases z⟩
   · exact⟨o,e1,fun v z=>by rw [d] at z;cases z⟩
 keep:=fun i h h' st k=>by
   obtain⟨⟨old,he⟩,st⟩:=st;exact⟨⟨old,k e (by simp) _ he⟩,st.at fun o e=>k it (by simp) o e⟩
 item:=by
   intro X hP hw hK hc i pins s σ H E I hf st hg;subst hP hw hK;obtain⟨⟨old,he⟩,st⟩:=st;obtain⟨xs,x,hq,hx⟩:=hg;obtain⟨its,rv,p,hz⟩:=I.list hq;obtain⟨u,hu,ru⟩:=rv.get hx;refine wpAny_pyNext_enum_item he st p.isList (x:=u) (by simpa using hu) hne fun h' he' st' ht hz' k=>?_;refine⟨_,rfl,wpAny_letOwnedTupleGo_enum (s:={ s with heap:=h',toks:=s.toks + 1 }) he' fun h'' he'' sb=>?_⟩;have hpe:s.heap.objs.size≠e:=Nat.ne_of_gt (Heap.lt_size he);have ht'':h''.get? s.heap.objs.size=some { cls:=.type "tuple",data:=.seq #[.int i s.toks,u] }:=(sb.2 _ hpe).trans ht
   have k':∀b o,b∉[e,it]→s.heap.get? b=some o→h''.get? b=some o:=fun b o hb q=>by
     have hb1:b≠e:=fun z=>hb (by simp [z]);have hb2:b≠it:=fun z=>hb (by simp [z]);exact(sb.2 b hb1).trans (k b o hb1 hb2 q)
   have I1:Inv X pins σ (upd H s.heap.objs.size (.tup [.int i,x])) { s with heap:=h'',toks:=s.toks + 1 }:=
     I.turnedNew k' hf ⟨by show 2≤sizeLine;decide,[.int i s.toks,u],.cons ⟨_,rfl⟩ (.cons ru .nil),⟨_,ht'',rfl,_,rfl⟩⟩
   refine⟨.ref s.heap.objs.size,_,I1,rfl,⟨_,x,I.fresh,rfl,rfl,fun ys hy=>by rw [I.list_inj hy hq];exact hx⟩,⟨⟨u,he''⟩,?_⟩,fun b hb=>?_⟩
   · obtain⟨o,e1,c,d⟩:=st';exact⟨o,(sb.2 it (Ne.symm hne)).trans e1,c,d⟩
   · have hb':b=e∨b=it:=by simpa using hb
     have hbs:b≠s.heap.objs.size:=by
       rcases hb' with rfl | rfl
       · exact Ne.symm hpe
       · obtain⟨o,e1,_⟩:=st;exact Nat.ne_of_lt (Heap.lt_size e1)
     rw [a0g hbs];exact(hf b hb).1
 done:=by
   intro X hP hw hK hc i pins s σ H E I hf st hg;subst hP hw hK;obtain⟨⟨old,he⟩,st⟩:=st;obtain⟨xs,hq,hx⟩:=hg;obtain⟨its,rv,p,hz⟩:=I.list hq;obtain⟨f0,f1,f2,f3,f4,f5⟩:=hf it (by simp);have hl:=rv.length;exact wpAny_pyNext_enum_end (I.ok.hd hc) he st p.isList (by simp;omega) fun h' eb=>⟨rfl,I.turned (t':=s.toks) (fun b o hb e=>eb b o hb e) f0 f1 f3 f4 f5⟩
 self:=fun _ _ _ _ _ st h=>by
   obtain⟨⟨old,he⟩,_⟩:=st;exact wpAny_pyIter_enum he h
def iEnum (K:PySem.W.Frag)(ta:TA):TI:=fun σ H R=>ta σ H fun vs H1=>∃a,vs=[.ref a]∧(∃xs,SqL K H1 a xs)∧R (Ite K a) H1
theorem a8J {l:Expr}{ta:TA}{p pos:Pos}{elts:List Expr}{x1}{tpos:Pos}(hg:Gl X "enumerate")(hm:X.mg "enumerate"=none)(ha:PA X [l] ta)(hs:starEach [l] X.env=[(false,eval l X.env)]:=by rfl) :
   PI X (.Tuple elts x1 tpos) (.Call (.Name "enumerate" p) [l] [] pos) (iEnum X.K ta):=by
 intro pins s σ H R I h;refine Call_ (a2D I hg hm boot_enumerate (PyProof.Rows.callWith_type1 (thn (ha pos pins s σ H _ I h) fun us s1 ⟨vs,H1,I1,r1,q1⟩=>?_) hs rfl));obtain⟨a,e,⟨xs,hq⟩,q⟩:=q1;subst e;obtain⟨u,rfl,ru⟩:=r1.one;obtain rfl:u=Value.ref a:=ru;obtain⟨its,rv,pl,hz⟩:=I1.list hq;refine call_enumerate_list pl.isList fun h' hE hI hsz hk=>?_;refine wpAny_pyIter_enum hE ?_;have I2:Inv X pins σ H1 { s1 with heap:=h' }:=I1.kept (t':=s1.toks) hk;refine⟨s1.heap.objs.size + 1,[s1.heap.objs.size + 1,s1.heap.objs.size],_,_,H1,rfl,I2,a5m a _ _ (Nat.succ_ne_self _),⟨⟨_,hE⟩,hI⟩,fun b hb=>?_,q⟩;have hb':b=s1.heap.objs.size + 1∨b=s1.heap.objs.size:=by simpa using hb
 rcases hb' with rfl | rfl
 · exact I1.fpOk (Nat.le_succ _) (I1.hok.fresh (Nat.le_succ _))
 · exact I1.fpOk (Nat.le_refl _) (I1.hok.fresh (Nat.le_refl _))
end
end L2
end
section
namespace L2
open PySem PySem.Spec PyProof.Rows
theorem a8e:bootBuiltins "len"=some (.builtin "len"):=by decide +kernel
theorem a8g:bootBuiltins "abs"=some (.builtin "abs"):=by decide +kernel
theorem bt_min:bootBuiltins "min"=some (.builtin "min"):=by decide +kernel
theorem bt_max:bootBuiltins "max"=some (.builtin "max"):=by decide +kernel
theorem bt_all:bootBuiltins "all"=some (.builtin "all"):=by decide +kernel
theorem bt_repr:bootBuiltins "repr"=some (.builtin "repr"):=by decide +kernel
theorem a8f:bootBuiltins "int"=some (.type "int"):=by decide +kernel
theorem a9l:bootBuiltins "list"=some (.type "list"):=by decide +kernel
theorem a7A:bootBuiltins "tuple"=some (.type "tuple"):=by decide +kernel
theorem bt_set:bootBuiltins "set"=some (.type "set"):=by decide +kernel
theorem a8m {tA:TT}{ta tb:TE}{σ:St}{H:Hp}{R:VK}(p:V→Prop)(h:(∀v,p v→R v H)→tIf tA ta tb σ H R)(hp:∀v,p v→R v H):tIf tA ta tb σ H R:=h hp
theorem at_map {ns:List Int}{k:Int}(h0:0≤k)(h:k < (ns.length:Int)):∃v,atI (ns.map V.int) k=some (.int v):=by
 have hk:k.toNat < ns.length:=by omega
 have q:atI (ns.map V.int) ((k.toNat:Nat):Int)=some (.int ns[k.toNat]):=a9m (by rw [List.getElem?_map,List.getElem?_eq_getElem hk] <;> rfl)
 rw [show((k.toNat:Nat):Int)=k by omega] at q;exact⟨_,q⟩
structure Kn (P:Program)(w:World)(K:PySem.W.Frag)(mg:Str→Option Value)(base:Heap)(x:Str)(k:Nat)(ps:List Str)(sp:Sp):Prop where
 ex:∃(f:Addr) (fd:FuncData),FnOk P w K mg base CX0 k f fd ps sp∧a5j K fd ps []∧PySem.W.keepIn K (.ref f)=true∧mg x=some (.ref f)∧∃oc od osl,K.lookup f=some ⟨oc,od,.func fd,osl⟩
structure Fn0 (K:PySem.W.Frag)(mg:Str→Option Value)(x:Str)(st:Stmt):Prop where
 ex:∃(f:Addr) (fd:FuncData),Fun K x x st f fd∧mg x=some (.ref f)
theorem a1v {K:PySem.W.Frag}{h:Heap}{mg:Str→Option Value}{x:Str}{st:Stmt}(X:K.In h)(G:h.Ns mainGlobals mg){f:Addr}{oc:Value}{od an:Option Addr}{osl:Array (Option Value)}{kV doc pm cdv ct:Value}
   (a:PySem.W.nsIn K mainGlobals x=some (some (.ref f))) (l:K.lookup f=some ⟨oc,od,.func (PySem.W.fnOf x x (a0X st) (a0E st) (a0h st) .none kV doc pm an cdv ct),osl⟩)
   (c:PySem.W.codeIn K cdv x=true) (k:PySem.W.keepIn K (.ref f)=true):Fn0 K mg x st:=⟨f,_,fun_mk l c k,PySem.W.mg_of X G a⟩
section
variable {P:Program}{w:World}{K:PySem.W.Frag}{mg:Str→Option Value}{base:Heap}
theorem Fn0.ok {x:Str}{st:Stmt}{N ps:List Str}{k:Nat}{sp:Sp}(F:Fn0 K mg x st)(S:a0y N ps (a0h st))(len:∀vs H Q E,sp vs H Q E→vs.length=ps.length)
   (bd:∀(kV doc pm:Value) (an:Option Addr) (cdv ct:Value) (us:List Value),us.length=ps.length→bindArgs (PySem.W.fnOf x x (a0X st) (a0E st) (a0h st) .none kV doc pm an cdv ct) ⟨us,[]⟩=pure (ps.zip us))
   (hbody:∀(f:Addr) (cdv:Value) (A:Around) (outer:List Env) (s:Shared) (H:Hp) (vs:List V) (Q:VK) (E:XK),Room k (A.deeper (envOfC x (a0h st) s.heap.objs.size f cdv))→sp vs H Q E→
     ∃t,PSs (cxOf CX0 P w K mg base N x (a0h st) f cdv A outer s H E).nox (a0E st) t∧t { nx:=fun _ H'=>Q .non H',rt:=Q } (a1Y N vs) H):Kn P w K mg base x (k + 1) ps sp:=by
 obtain⟨f,fd,F1,m⟩:=F.ex
 have lk:∃oc od osl,K.lookup f=some ⟨oc,od,.func fd,osl⟩:=by
   obtain⟨oc,od,kV,doc,pm,an,cdv,ct,osl,_,lk,hcd⟩:=F1.ex;exact⟨oc,od,osl,lk⟩
 exact⟨f,fd,F1.ok S len fun cdv A outer s H vs Q E hr h=>hbody f cdv A outer s H vs Q E hr h,F1.binds bd,F1.kp,m,lk⟩
theorem Kn.imp {x:Str}{k:Nat}{ps:List Str}{sp sp':Sp}(G:Kn P w K mg base x k ps sp)(h:∀vs H Q E,sp' vs H Q E→sp vs H Q E):Kn P w K mg base x k ps sp':=by
 obtain⟨f,fd,a,b,c,d⟩:=G.ex;exact⟨f,fd,a.imp h,b,c,d⟩
end
section
variable {X:Cx}{x:Str}{p pos:Pos}{e:Expr}{es:List Expr}{t:TA}{ps:List Str}{sp:Sp}{j k:Nat}
theorem pe_fn (G:Kn X.prog X.w X.K X.mg X.base x k ps sp)(hr:Room j X.A)(hk:k≤j)(hg:Gl X x)(ha:PA X (e::es) t)(hdb:(x == ("__debug__":Str))=false:=by decide)
   (he:starEach (e::es) X.env=(false,eval e X.env)::starEach es X.env:=by rfl) (hpl:(backTo pos (starEach es X.env)).any (·.1)=false:=by rfl) :
   PE X (.Call (.Name x p) (e::es) [] pos) (tCall sp [] E0 t):=by
 intro pins s σ H Q I h;obtain⟨f,fd,F,hb,hkp,hm,_⟩:=G.ex;exact a8K F (hr.mono hk) hg hm hkp hb .nil pass0 ha hdb he hpl pins s σ H Q I h
end
def a6U (K:PySem.W.Frag):Sp:=fun vs H Q _=>∃(a:Addr) (ns:List Int),vs=[.ref a]∧SqL K H a (ns.map V.int)∧ns.length≤63∧Only H∧∀H',Q (.bl true) H'
theorem a6T {l:PySem.W.OpenLaw}{q:Program}{loose:List Str}{XP:(Str→Option Value)→Heap→Prop}{YP:World→Heap→Prop}{d:DefRec}{K:Params→PySem.W.Frag}{x:Str}{k:Nat}(hn:l.most=some 63)(hdf:d.params.defaults=[])(hk:Room k callerA)
   (hY:∀(w:World) (h:Heap),YP w h→(K w.params).In h)
   (F:∀(w:World) (mg:Str→Option Value) (h:Heap),(K w.params).In h→h.Ns mainGlobals mg→∃st,Fn0 (K w.params) mg d.name st∧
     (∀(kV doc pm:Value) (an:Option Addr) (cdv ct:Value) (s:Shared) (u:Value),BindsTo s (PySem.W.fnOf d.name d.name (a0X st) (a0E st) (a0h st) .none kV doc pm an cdv ct) ⟨[u],[]⟩ [(x,u)])∧
     ∀base:Heap,(K w.params).In base→base.Ns mainGlobals mg→Kn l.prog w (K w.params) mg base d.name k [x] (a6U (K w.params))) :
   PySem.W.WalkO q loose XP YP l.row.toRowW d [] (fun f vs=>PySem.call f vs):=by
 refine L2.a8i (n:=63) (k:=k) (x:=x) (CX:=fun _=>CX0) (sp:=fun w=>a6U (K w.params)) hn (by decide) hdf hk hY (fun w mg fa h KX G hmg=>?_) (fun _ _ a ns hl hO hS=>⟨a,ns,rfl,hS,hl,hO,fun _=>rfl⟩) fun _ _ _ _ _ z=>z;obtain⟨st,F0,hb,hF⟩:=F w mg h KX G;obtain⟨f,fd,F1,m⟩:=F0.ex;have e:=hmg.symm.trans m;cases e;refine⟨fd,fun s u=>?_,fun base kb nb=>?_⟩
 · obtain⟨oc,od,kV,doc,pm,an,cdv,ct,osl,rfl,lk,hcd⟩:=F1.ex;exact hb kV doc pm an cdv ct s u
 · obtain⟨f',fd',a,b,c,m',oc',od',osl',lk'⟩:=(hF base kb nb).ex;have e:=m.symm.trans m';cases e;obtain⟨oc,od,kV,doc,pm,an,cdv,ct,osl,_,lk,hcd⟩:=F1.ex;have e2:=lk.symm.trans lk';cases e2;exact a
end L2
end
section
namespace L2
open PySem PySem.Spec PyProof.Rows
section
variable {X:Cx}
theorem a4Y:OpR X (binaryOp .Mult) (fun x y H Q=>∃i n,x=.str i∧y=.int n∧i.length≤100∧0≤n∧n≤1000∧Q (.str (Txt.mul i n)) H):=by
 intro pins s σ H x y v u Q I rx ry h;obtain⟨i,n,rfl,rfl,h1,h2,h3,q⟩:=h;obtain⟨t,rfl⟩:=rx;obtain⟨t',rfl⟩:=ry;exact SB.mul (mulOk_of 100 1000 h1 h3 (by omega) (by decide) (by decide)) fun t' tk=>⟨.str _,H,I.tok _,⟨_,rfl⟩,q⟩
theorem a4d (x y:Str):(x++y).cps.toList=x.cps.toList++y.cps.toList:=by
 show(x.cps++y.cps).toList=_;simp
theorem a3Q (x:Str):x.length=x.cps.toList.length:=by
 show x.cps.size=_;simp
end
theorem Same.lay {H H':Hp}{p:Addr}{o:HO}(s:Same H H')(h:H' p=none):Same H (upd H' p o):=fun b u e=>by
 rw [a0g (a0s (s b u e) h)];exact s b u e
theorem a3c {n:Nat}{d:Int}(h0:0≤d)(h1:d < n):ixN n d=some d.toNat:=by
 unfold ixN;rw [if_pos h0,if_pos h1]
theorem a4g {α:Type}{xs:List α}{d:Int}(h0:0≤d)(h1:d < xs.length):∃x,xs[d.toNat]?=some x∧atI xs d=some x:=by
 have hk:d.toNat < xs.length:=by omega
 refine⟨xs[d.toNat],List.getElem?_eq_getElem hk,?_⟩;unfold atI;rw [a3c h0 h1];exact List.getElem?_eq_getElem hk
end L2
end
section
namespace L2
open PySem PySem.Spec PyProof.Rows
section
variable {X:Cx}
def rSlS:V→Option Int→Option Int→Hp→VK→Prop:=fun x lo hi H Q=>∃z,x=.str z∧z.length≤sizeLine∧Q (.str (Txt.slice z lo hi)) H
theorem sl_str:SlR X rSlS:=by
 intro pins s σ H x v vl vu lo hi sl Q I rx hs pl pu h;obtain⟨z,rfl,hz,q⟩:=h;obtain⟨t,rfl⟩:=rx;refine⟨"str",_,F.slot_str_getitem.lookup,typeIs_str _ _ _,?_⟩;cases pl with
 | none =>
   cases pu with
   | none=>exact wpAny_getItem_str_slice (l:=none) (u:=none) (st:=none) hs rfl (post_val_or_str ⟨Nat.le_trans (Txt.slice_le z _ _) hz,fun t' k=>⟨.str _,H,I.tok _,⟨_,rfl⟩,q⟩⟩)
   | int j tj=>exact wpAny_getItem_str_slice (l:=none) (u:=some (j,tj)) (st:=none) hs rfl (post_val_or_str ⟨Nat.le_trans (Txt.slice_le z _ _) hz,fun t' k=>⟨.str _,H,I.tok _,⟨_,rfl⟩,q⟩⟩)
 | int i ti =>
   cases pu with
   | none=>exact wpAny_getItem_str_slice (l:=some (i,ti)) (u:=none) (st:=none) hs rfl (post_val_or_str ⟨Nat.le_trans (Txt.slice_le z _ _) hz,fun t' k=>⟨.str _,H,I.tok _,⟨_,rfl⟩,q⟩⟩)
   | int j tj=>exact wpAny_getItem_str_slice (l:=some (i,ti)) (u:=some (j,tj)) (st:=none) hs rfl (post_val_or_str ⟨Nat.le_trans (Txt.slice_le z _ _) hz,fun t' k=>⟨.str _,H,I.tok _,⟨_,rfl⟩,q⟩⟩)
def rCatA (K:PySem.W.Frag):R2:=fun x y H Q=>∃a b xs ys,x=.ref a∧y=.ref b∧SqT K H a xs∧SqT K H b ys∧xs.length + ys.length≤sizeLine∧
 (xs=[]→Q (.ref b) H)∧(xs≠[]→ys=[]→Q (.ref a) H)∧(xs≠[]→ys≠[]→∀p,H p=none→Q (.ref p) (upd H p (.tup (xs++ys))))
theorem a8N:OpR X (binaryOp .Add) (rCatA X.K):=by
 intro pins s σ H x y v u Q I rx ry h;obtain⟨a,b,xs,ys,rfl,rfl,ha,hb,hz,q0,q1,q2⟩:=h
 by_cases hx:xs=[]
 · cases rx;cases ry;obtain⟨its,r1,p1,_⟩:=I.tuple ha;obtain⟨its2,r2,p2,_⟩:=I.tuple hb;obtain⟨⟨cls,dd,data,sl⟩,ho,hc,n,hd⟩:=id p1;obtain⟨⟨cls2,dd2,data2,sl2⟩,ho2,hc2,n2,hd2⟩:=id p2;simp only at hc hd hc2 hd2;subst hc hd hc2 hd2;have he:its=[]:=r1.nil_iff.mpr hx
   exact concat_meets ⟨_,ho,rfl⟩ ⟨_,ho2,rfl⟩ noFill_tuple_add seq_tuple_add PySem.F.slot_tuple_add PySem.F.entry_tuple_add (PySem.F.args_tuple_add_2 _ _)
     (tuple_addW0 a b its.toArray its2.toArray n n2 dd dd2 sl sl2 (by simp [he])) ⟨ho,ho2,⟨.ref b,H,I,rfl,q0 hx⟩⟩
 · exact a8M pins s σ H _ _ v u Q I rx ry ⟨a,b,xs,ys,rfl,rfl,ha,hb,hx,hz,q1 hx,q2 hx⟩
end
end L2
end
section
set_option maxHeartbeats 1000000
namespace Pu
open PySem PySem.Spec L2
inductive PV where
 | non | bl (b:Bool) | int (i:Int) | str (x:Str) | ty (n:String) | pot (k:Nat)
 | tup (xs:List PV) | lst (xs:List PV) | dct (ks:List Key) (xs:List PV)
 /-- the script -/
 | scr (ns:List Int)
structure Gh where
 M:List Addr
 pots:List Addr
def KLst (K:PySem.W.Frag)(a:Addr)(xs:List V):Prop:=∃(o:Obj) (its:Array Value) (n:Nat),K.lookup a=some o∧o.cls=.type "list"∧o.dict=none∧o.data=.seq its n∧its.size≤sizeLine∧Vals xs its.toList
def AtL (M:List Addr)(H:Hp)(a:Addr)(xs:List V):Prop:=a∉M∧H a=some (.lst xs)
def AtT (M:List Addr)(H:Hp)(a:Addr)(xs:List V):Prop:=a∉M∧H a=some (.tup xs)
theorem AtL.sq {K:PySem.W.Frag}{M:List Addr}{H:Hp}{a:Addr}{xs:List V}(h:AtL M H a xs):SqL K H a xs:=SqL.of h.2
theorem AtT.sq {K:PySem.W.Frag}{M:List Addr}{H:Hp}{a:Addr}{xs:List V}(h:AtT M H a xs):SqT K H a xs:=SqT.of h.2
mutual
def Rep (K:PySem.W.Frag)(G:Gh)(H:Hp):PV→V→Prop
 | .non,v=>v=.non
 | .bl b,v=>v=.bl b
 | .int i,v=>v=.int i
 | .str x,v=>v=.str x
 | .ty n,v=>v=.ty n
 | .pot k,v=>∃p,G.pots[k]?=some p∧v=.ref p
 | .tup xs,v=>∃a vs,v=.ref a∧AtT G.M H a vs∧Reps K G H xs vs
 | .lst xs,v=>∃a vs,v=.ref a∧AtL G.M H a vs∧Reps K G H xs vs
 | .scr ns,v=>∃a,v=.ref a∧((a∉G.M∧∃o,H a=some (.frz o (.lst (ns.map V.int))))∨KLst K a (ns.map V.int))
 | .dct ks xs,v=>∃a kvs,v=.ref a∧a∉G.M∧H a=some (.dK kvs)∧kvs.map (·.1)=ks∧Reps K G H xs (kvs.map (·.2))
def Reps (K:PySem.W.Frag)(G:Gh)(H:Hp):List PV→List V→Prop
 | [],vs=>vs=[]
 | x::xs,vs=>∃v r,vs=v::r∧Rep K G H x v∧Reps K G H xs r
end
section
variable {K:PySem.W.Frag}{G G':Gh}{H H':Hp}
mutual
theorem Rep.mono (hk:∀b o,b∉G.M→H b=some o→H' b=some o)(hM:∀a∈G'.M,a∈G.M∨H a=none)(hp:∀(k:Nat) (p:Addr),G.pots[k]?=some p→G'.pots[k]?=some p):∀(x:PV) (v:V),Rep K G H x v→Rep K G' H' x v
 | .non,v,h=>h
 | .bl b,v,h=>h
 | .int i,v,h=>h
 | .str x,v,h=>h
 | .ty n,v,h=>h
 | .pot k, v, h => by
   obtain⟨p,e,r⟩:=h;exact⟨p,hp k p e,r⟩
 | .tup xs, v, h => by
   obtain⟨a,vs,e,t,r⟩:=h;refine⟨a,vs,e,?_,Reps.mono hk hM hp xs vs r⟩;obtain⟨n,t⟩:=t;exact⟨fun z=>(hM a z).elim n (fun z=>by rw [z] at t;cases t),hk a _ n t⟩
 | .lst xs, v, h => by
   obtain⟨a,vs,e,t,r⟩:=h;refine⟨a,vs,e,?_,Reps.mono hk hM hp xs vs r⟩;obtain⟨n,t⟩:=t;exact⟨fun z=>(hM a z).elim n (fun z=>by rw [z] at t;cases t),hk a _ n t⟩
 | .scr ns, v, h => by
   obtain⟨a,e,h⟩:=h;refine⟨a,e,?_⟩;rcases h with⟨n,o,t⟩ | h
   · exact .inl ⟨fun z=>(hM a z).elim n (fun z=>by rw [z] at t;cases t),o,hk a _ n t⟩
   · exact .inr h
 | .dct ks xs, v, h => by
   obtain⟨a,kvs,e,n,t,ek,r⟩:=h;exact⟨a,kvs,e,fun z=>(hM a z).elim n (fun z=>by rw [z] at t;cases t),hk a _ n t,ek,Reps.mono hk hM hp xs _ r⟩
theorem Reps.mono (hk:∀b o,b∉G.M→H b=some o→H' b=some o)(hM:∀a∈G'.M,a∈G.M∨H a=none)(hp:∀(k:Nat) (p:Addr),G.pots[k]?=some p→G'.pots[k]?=some p):∀(xs:List PV) (vs:List V),Reps K G H xs vs→Reps K G' H' xs vs
 | [],vs,h=>h
 | x :: xs, vs, h => by
   obtain⟨v,r,e,hx,hr⟩:=h;exact⟨v,r,e,Rep.mono hk hM hp x v hx,Reps.mono hk hM hp xs r hr⟩
end
theorem Rep.same {x:PV}{v:V}(h:Rep K G H x v)(s:Same H H'):Rep K G H' x v:=Rep.mono (fun b o _ e=>s b o e) (fun a z=>.inl z) (fun _ _ e=>e) x v h
theorem Reps.same {x:List PV}{v:List V}(h:Reps K G H x v)(s:Same H H'):Reps K G H' x v:=Reps.mono (fun b o _ e=>s b o e) (fun a z=>.inl z) (fun _ _ e=>e) x v h
def Fr (G:Gh)(H H':Hp):Prop:=∀b o,b∉G.M→H b=some o→H' b=some o
theorem Fr.refl:Fr G H H:=fun _ _ _ e=>e
theorem Fr.trans {H2:Hp}(a:Fr G H H')(b:Fr G H' H2):Fr G H H2:=fun c o n e=>b c o n (a c o n e)
theorem Fr.of (s:Same H H'):Fr G H H':=fun b o _ e=>s b o e
theorem Rep.fr {x:PV}{v:V}(h:Rep K G H x v)(s:Fr G H H'):Rep K G H' x v:=Rep.mono s (fun a z=>.inl z) (fun _ _ e=>e) x v h
theorem Reps.fr {x:List PV}{v:List V}(h:Reps K G H x v)(s:Fr G H H'):Reps K G H' x v:=Reps.mono s (fun a z=>.inl z) (fun _ _ e=>e) x v h
theorem Reps.length:∀{xs:List PV} {vs:List V},Reps K G H xs vs→xs.length=vs.length
 | [],vs,h=>by cases(show vs=[] from h);rfl
 | x :: xs, vs, h => by
   obtain⟨v,r,e,hx,hr⟩:=h;subst e;simp [Reps.length hr]
theorem Reps.get:∀{xs:List PV} {vs:List V} {i:Nat} {v:V},Reps K G H xs vs→vs[i]?=some v→∃x,xs[i]?=some x∧Rep K G H x v
 | [],vs,i,v,h,e=>by cases(show vs=[] from h);simp at e
 | x :: xs, vs, i, v, h, e => by
   obtain⟨w,r,e1,hx,hr⟩:=h;subst e1;cases i with
   | zero=>simp at e;subst e;exact⟨x,rfl,hx⟩
   | succ i=>simpa using Reps.get (i:=i) hr (by simpa using e)
theorem Reps.get':∀{xs:List PV} {vs:List V} {i:Nat} {x:PV},Reps K G H xs vs→xs[i]?=some x→∃v,vs[i]?=some v∧Rep K G H x v:=fun {xs vs i x} h e=>by
 obtain⟨hi,_⟩:=List.getElem?_eq_some_iff.mp e;have hl:=h.length;have e2:vs[i]?=some (vs[i]'(by omega)):=List.getElem?_eq_getElem (by omega);obtain⟨y,ey,r⟩:=h.get e2;rw [e] at ey;cases ey;exact⟨_,e2,r⟩
theorem Reps.append:∀{xs ys:List PV} {vs us:List V},Reps K G H xs vs→Reps K G H ys us→Reps K G H (xs++ys) (vs++us)
 | [],ys,vs,us,h,h'=>by cases(show vs=[] from h);exact h'
 | x :: xs, ys, vs, us, h, h' => by
   obtain⟨w,r,e1,hx,hr⟩:=h;subst e1;exact⟨w,r++us,rfl,hx,Reps.append hr h'⟩
theorem Reps.take:∀{xs:List PV} {vs:List V} (n:Nat),Reps K G H xs vs→Reps K G H (xs.take n) (vs.take n)
 | xs,vs,0,h=>by simp [Reps]
 | [],vs,n + 1,h=>by cases(show vs=[] from h);exact rfl
 | x :: xs, vs, n + 1, h => by
   obtain⟨w,r,e1,hx,hr⟩:=h;subst e1;exact⟨w,r.take n,rfl,hx,Reps.take n hr⟩
theorem Reps.drop:∀{xs:List PV} {vs:List V} (n:Nat),Reps K G H xs vs→Reps K G H (xs.drop n) (vs.drop n)
 | xs,vs,0,h=>by simpa using h
 | [],vs,n + 1,h=>by cases(show vs=[] from h);exact rfl
 | x :: xs, vs, n + 1, h => by
   obtain⟨w,r,e1,hx,hr⟩:=h;subst e1;exact Reps.drop n hr
theorem Reps.one {x:PV}{v:V}(h:Rep K G H x v):Reps K G H [x] [v]:=⟨v,[],rfl,h,rfl⟩
theorem Reps.set:∀{xs:List PV} {vs:List V} (n:Nat) {x:PV} {v:V},Reps K G H xs vs→Rep K G H x v→Reps K G H (xs.set n x) (vs.set n v)
 | [],vs,n,x,v,h,_=>by cases(show vs=[] from h);exact rfl
 | y :: xs, vs, 0, x, v, h, h' => by
   obtain⟨w,r,e1,hx,hr⟩:=h;subst e1;exact⟨v,r,rfl,h',hr⟩
 | y :: xs, vs, n + 1, x, v, h, h' => by
   obtain⟨w,r,e1,hx,hr⟩:=h;subst e1;exact⟨w,r.set n v,rfl,hx,Reps.set n hr h'⟩
def MutO:HO→Prop
 | .lst _=>True
 | .dK _=>True
 | .dT _=>True
 | .set _ _=>True
 | _=>False
end
inductive OK where
 | lst | dk (ks:List Key) | dt (ks:List (List Key)) | st (zs:List Key)
def memS (zs:List Key)(k:Key):Bool:=zs.any fun z=>decide (z=k)
def mkO:OK→List V→HO
 | .lst,vs=>.lst vs
 | .dk ks,vs=>.dK (ks.zip vs)
 | .dt ks,vs=>.dT (ks.zip vs)
 | .st zs,_=>.set (memS zs) zs.length
theorem a6i (k:OK)(vs:List V):MutO (mkO k vs):=by cases k <;> trivial
inductive Slot where
 | v (x:PV)
 | ow (k:OK) (xs:List PV)
abbrev Slot.own (xs:List PV):Slot:=.ow .lst xs
abbrev Env:=List (Option Slot)
structure PotK where
 at_:List Addr→Hp→Addr→Nat→Prop
 mono:∀{M H p n m},at_ M H p n→n≤m→at_ M H p m
 keep:∀{M H H' p n},at_ M H p n→H' p=H p→(∀b o,b∉M→H b=some o→H' b=some o)→at_ M H' p n
 more:∀{M M' H p n},at_ M H p n→(∀a∈M',a∈M∨H a=none)→at_ M' H p n
 mu:∀{M H p n},at_ M H p n→∃o,H p=some o∧MutO o
structure Ct where
 K:PySem.W.Frag
 T:PotK
 M0:List Addr
 pots0:List Addr
 H0:Hp
 np:Bool
def a9p (C:Ct)(G:Gh)(H:Hp)(o:Option (Option V)):Slot→Prop
 | .v x=>∃v,o=some (some v)∧Rep C.K G H x v
 | .ow k xs=>∃a vs,o=some (some (.ref a))∧a∈G.M∧a∉C.M0∧a∉G.pots∧H a=some (mkO k vs)∧Reps C.K G H xs vs
structure SR (C:Ct)(G:Gh)(σ:St)(H:Hp)(env:Env)(n:Nat):Prop where
 frame:∀b o,b∉C.pots0→C.H0 b=some o→H b=some o
 sub:∀a∈G.M,a∈C.M0∨C.H0 a=none
 sup:∀a∈C.M0,a∈G.M
 pots:∀p∈G.pots,p∈G.M∧C.T.at_ G.M H p n
 pre:∃l,G.pots=C.pots0++l∧(l=[]∨C.np=true)
 mu:∀a∈G.M,∃o,H a=some o∧MutO o
 slots:∀(i:Nat) (s:Slot),env[i]?=some (some s)→a9p C G H (σ[i]?) s
 inj:∀(i j:Nat) (xs ys:OK×List PV) (a:Addr),env[i]?=some (some (.ow xs.1 xs.2))→env[j]?=some (some (.ow ys.1 ys.2))→σ[i]?=some (some (.ref a))→σ[j]?=some (some (.ref a))→i=j
 p0:∀p∈C.pots0,p∈C.M0
 len:env.length=σ.length
 newp:∀p∈G.pots,p∉C.pots0→p∈C.M0→False
section
variable {C:Ct}{G G':Gh}{σ:St}{H H':Hp}{env:Env}{n:Nat}
theorem SR.fresh (S:SR C G σ H env n){p:Addr}(h:H p=none):p∉G.M:=fun z=>by
 obtain⟨o,e,_⟩:=S.mu p z;rw [h] at e;cases e
theorem SR.same (S:SR C G σ H env n)(s:Same H H'):SR C G σ H' env n where
 frame b o hb e:=s b o (S.frame b o hb e)
 sub:=S.sub
 sup:=S.sup
 pots p hp:=⟨(S.pots p hp).1,C.T.keep (S.pots p hp).2 (by
   obtain⟨o,e,_⟩:=C.T.mu (S.pots p hp).2
   rw [e,s p o e]) fun b o _ e=>s b o e⟩
 pre:=S.pre
 mu a ha:=by
   obtain⟨o,e,m⟩:=S.mu a ha;exact⟨o,s a o e,m⟩
 slots i x e:=by
   have:=S.slots i x e;cases x with
   | v x =>
     obtain⟨v,e1,r⟩:=this;exact⟨v,e1,r.same s⟩
   | ow kk xs =>
     obtain⟨a,vs,e1,h1,h2,h3,h4,r⟩:=this;exact⟨a,vs,e1,h1,h2,h3,s _ _ h4,r.same s⟩
 inj:=S.inj
 p0:=S.p0
 len:=S.len
 newp:=S.newp
theorem Same.lay1 {p:Addr}{o:HO}(h:H p=none):Same H (upd H p o):=(Same.refl H).lay h
end
end Pu
end
section
set_option maxHeartbeats 1000000
namespace Pu
open PySem PySem.Spec L2
abbrev PK:=PV→Env→Nat→Prop
abbrev pE:=Env→Nat→PK→Prop
abbrev pT:=Env→Nat→(Bool→Env→Nat→Prop)→Prop
abbrev pA:=Env→Nat→(List PV→Env→Nat→Prop)→Prop
abbrev pF:=List PV→Nat→(PV→Nat→Prop)→Prop
def RdV (K:PySem.W.Frag)(G:Gh)(H:Hp)(x:PV)(v:V):Prop:=Rep K G H x v∨∃a vs xs,x=.lst xs∧v=.ref a∧H a=some (.lst vs)∧Reps K G H xs vs
def RdS (C:Ct)(G:Gh)(σ:St)(H:Hp)(env:Env)(x:PV)(v:V):Prop:=Rep C.K G H x v∨∃(i:Nat) (a:Addr) (xs:List PV),env[i]?=some (some (.ow .lst xs))∧σ[i]?=some (some (.ref a))∧x=.lst xs∧v=.ref a
def EOk (K:PySem.W.Frag)(T:PotK)(t:TE)(pe:pE):Prop:=∀(C:Ct) (G:Gh) (σ:St) (H:Hp) (env:Env) (n:Nat) (R:PK) (Q:VK),C.K=K→C.T=T→SR C G σ H env n→pe env n R→
 (∀x env' n' v H',R x env' n'→SR C G σ H' env' n'→Rep K G H' x v→Fr G H H'→Q v H')→t σ H Q
def ROk (K:PySem.W.Frag)(T:PotK)(t:TE)(pe:pE):Prop:=∀(C:Ct) (G:Gh) (σ:St) (H:Hp) (env:Env) (n:Nat) (R:PK) (Q:VK),C.K=K→C.T=T→SR C G σ H env n→pe env n R→
 (∀x env' n' v H',R x env' n'→SR C G σ H' env' n'→RdS C G σ H' env' x v→Fr G H H'→Q v H')→t σ H Q
def NOk (K:PySem.W.Frag)(T:PotK)(t:TE)(pn:pA):Prop:=∀(C:Ct) (G:Gh) (σ:St) (H:Hp) (env:Env) (n:Nat) (R:List PV→Env→Nat→Prop) (Q:VK),C.K=K→C.T=T→SR C G σ H env n→pn env n R→
 (∀xs env' n' a vs Hb,R xs env' n'→SR C G σ Hb env' n'→Fr G H Hb→Hb a=none→Reps K G Hb xs vs→Q (.ref a) (upd Hb a (.lst vs)))→t σ H Q
def TOk (K:PySem.W.Frag)(T:PotK)(t:TT)(pt:pT):Prop:=∀(C:Ct) (G:Gh) (σ:St) (H:Hp) (env:Env) (n:Nat) (R:Bool→Env→Nat→Prop) (Q:Bool→Hp→Prop),C.K=K→C.T=T→SR C G σ H env n→pt env n R→
 (∀b env' n' H',R b env' n'→SR C G σ H' env' n'→Fr G H H'→Q b H')→t σ H Q
def AOk (K:PySem.W.Frag)(T:PotK)(t:TA)(pa:pA):Prop:=∀(C:Ct) (G:Gh) (σ:St) (H:Hp) (env:Env) (n:Nat) (R:List PV→Env→Nat→Prop) (Q:List V→Hp→Prop),C.K=K→C.T=T→SR C G σ H env n→pa env n R→
 (∀xs env' n' vs H',R xs env' n'→SR C G σ H' env' n'→Reps K G H' xs vs→Fr G H H'→Q vs H')→t σ H Q
structure EW (X:Cx)(e:Expr)(t:TE):Prop where
 h:PE X e t
structure SW (X:Cx)(st:Stmt)(t:TS):Prop where
 h:PS X st t
structure GW (X:Cx)(e:Expr)(g:TG):Prop where
 h:PG X e g
theorem vw {X:Cx}(i:Nat){x:Str}{pos:Pos}(hN:X.N[i]?=some x:=by rfl)(hv:Vis X.env.scope x:=by first | exact Or.inl rfl | exact Or.inr (Or.inl rfl) | exact Or.inr (Or.inr rfl))(hd:(x == ("__debug__":Str))=false:=by decide)(hcd:(x == ("__classdict__":Str))=false:=by decide):EW X (.Name x pos) (tVar i):=⟨a7Q hN hv hd hcd⟩
def QE {ι:Type}(T:PotK)(K:PySem.W.Frag)(F:ι→Cx)(e:Expr)(pe:pE):Prop:=∃t,(∀z,PE (F z) e t)∧EOk K T t pe
def QR {ι:Type}(T:PotK)(K:PySem.W.Frag)(F:ι→Cx)(e:Expr)(pe:pE):Prop:=∃t,(∀z,PE (F z) e t)∧ROk K T t pe
def QN {ι:Type}(T:PotK)(K:PySem.W.Frag)(F:ι→Cx)(e:Expr)(pn:pA):Prop:=∃t,(∀z,PE (F z) e t)∧NOk K T t pn
def QT {ι:Type}(T:PotK)(K:PySem.W.Frag)(F:ι→Cx)(e:Expr)(pt:pT):Prop:=∃t,(∀z,PT (F z) e t)∧TOk K T t pt
def QA {ι:Type}(T:PotK)(K:PySem.W.Frag)(F:ι→Cx)(es:List Expr)(pa:pA):Prop:=∃t,(∀z,PA (F z) es t)∧AOk K T t pa
section
variable {T:PotK}{ι:Type}{K:PySem.W.Frag}{F:ι→Cx}{e a b:Expr}{es:List Expr}{pe pa pb:pE}
theorem Reps.nil {K:PySem.W.Frag}{G:Gh}{H:Hp}:Reps K G H [] []:=rfl
theorem Reps.cons {K:PySem.W.Frag}{G:Gh}{H:Hp}{x:PV}{xs:List PV}{v:V}{vs:List V}(h:Rep K G H x v)(h':Reps K G H xs vs):Reps K G H (x::xs) (v::vs):=⟨v,vs,rfl,h,h'⟩
theorem RdS.rd {C:Ct}{G:Gh}{σ:St}{H:Hp}{env:Env}{n:Nat}{x:PV}{v:V}(S:SR C G σ H env n)(h:RdS C G σ H env x v):RdV C.K G H x v:=by
 rcases h with h | ⟨i,a,xs,e1,e2,ex,ev⟩
 · exact .inl h
 · obtain⟨a',vs,e3,_,_,_,h4,r⟩:=S.slots i _ e1;rw [e2] at e3;cases e3;exact .inr ⟨a,vs,xs,ex,ev,h4,r⟩
theorem RdV.lst {K:PySem.W.Frag}{G:Gh}{H:Hp}{xs:List PV}{v:V}(h:RdV K G H (.lst xs) v):∃a vs,v=.ref a∧SqL K H a vs∧Reps K G H xs vs:=by
 rcases h with⟨a,vs,e,t,r⟩ | ⟨a,vs,ys,ex,ev,h4,r⟩
 · exact⟨a,vs,e,t.sq,r⟩
 · cases ex;exact⟨a,vs,ev,SqL.of h4,r⟩
theorem RdV.rep {K:PySem.W.Frag}{G:Gh}{H:Hp}{x:PV}{v:V}(h:RdV K G H x v)(hx:∀xs,x≠.lst xs):Rep K G H x v:=by
 rcases h with h | ⟨a,vs,ys,ex,ev,h4,r⟩
 · exact h
 · exact absurd ex (hx ys)
theorem RdV.tup {K:PySem.W.Frag}{G:Gh}{H:Hp}{xs:List PV}{v:V}(h:RdV K G H (.tup xs) v):∃a vs,v=.ref a∧SqT K H a vs∧Reps K G H xs vs:=by
 obtain⟨a,vs,e,t,r⟩:=h.rep (fun _ z=>nomatch z);exact⟨a,vs,e,t.sq,r⟩
theorem RdV.int {K:PySem.W.Frag}{G:Gh}{H:Hp}{i:Int}{v:V}(h:RdV K G H (.int i) v):v=.int i:=h.rep (fun _ z=>nomatch z)
theorem RdV.str {K:PySem.W.Frag}{G:Gh}{H:Hp}{i:Str}{v:V}(h:RdV K G H (.str i) v):v=.str i:=h.rep (fun _ z=>nomatch z)
theorem RdV.bl {K:PySem.W.Frag}{G:Gh}{H:Hp}{i:Bool}{v:V}(h:RdV K G H (.bl i) v):v=.bl i:=h.rep (fun _ z=>nomatch z)
theorem RdV.non {K:PySem.W.Frag}{G:Gh}{H:Hp}{v:V}(h:RdV K G H .non v):v=.non:=h.rep (fun _ z=>nomatch z)
def qV (i:Nat):pE:=fun env n R=>match env[i]? with | some (some (.v x))=>R x env n | _=>False
def qO (i:Nat):pE:=fun env n R=>match env[i]? with | some (some (.ow .lst xs))=>R (.lst xs) env n | _=>False
def qC (c:PV):pE:=fun env n R=>R c env n
theorem qV_ex {i:Nat}{env:Env}{n:Nat}{R:PK}(h:qV i env n R):∃x,env[i]?=some (some (.v x))∧R x env n:=by
 unfold qV at h
 split at h
 · exact⟨_,by assumption,h⟩
 · exact h.elim
theorem qO_ex {i:Nat}{env:Env}{n:Nat}{R:PK}(h:qO i env n R):∃xs,env[i]?=some (some (.ow .lst xs))∧R (.lst xs) env n:=by
 unfold qO at h
 split at h
 · exact⟨_,by assumption,h⟩
 · exact h.elim
theorem a0a (i:Nat){x:Str}{pos:Pos}(h:∀z,EW (F z) (.Name x pos) (tVar i)):QE T K F (.Name x pos) (qV i):=by
 refine⟨_,fun z=>(h z).h,fun C G σ H env n R Q hK hT S hp k=>?_⟩;obtain⟨x,e,r⟩:=qV_ex hp;obtain⟨v,ev,rv⟩:=S.slots i _ e;exact⟨v,ev,k _ _ _ _ _ r S (hK▸rv) Fr.refl⟩
theorem a3u (i:Nat){x:Str}{pos:Pos}(h:∀z,EW (F z) (.Name x pos) (tVar i)):QR T K F (.Name x pos) (qO i):=by
 refine⟨_,fun z=>(h z).h,fun C G σ H env n R Q hK hT S hp k=>?_⟩;obtain⟨xs,e,r⟩:=qO_ex hp;obtain⟨a,vs,ev,_,_,_,_,rv⟩:=S.slots i _ e;exact⟨.ref a,ev,k _ _ _ _ _ r S (.inr ⟨i,a,xs,e,ev,rfl,rfl⟩) Fr.refl⟩
theorem QE.r (h:QE T K F e pe):QR T K F e pe:=by
 obtain⟨t,h1,h2⟩:=h;exact⟨t,h1,fun C G σ H env n R Q hK hT S hp k=>h2 C G σ H env n R Q hK hT S hp fun x env' n' v H' r S' rp f=>k x env' n' v H' r S' (.inl (by rw [hK];exact rp)) f⟩
theorem ok_c {K:PySem.W.Frag}{c:PV}{v:V}(h:∀G H,Rep K G H c v):EOk K T (tC v) (qC c):=fun C G σ H env n R Q hK hT S hp k=>k _ _ _ _ _ hp S (h G H) Fr.refl
theorem a0j {i j pos}:QE T K F (.Constant (.int i) j pos) (qC (.int i)):=⟨_,fun z=>a0n,ok_c fun _ _=>rfl⟩
theorem qe_bl {i j pos}:QE T K F (.Constant (.bool i) j pos) (qC (.bl i)):=⟨_,fun z=>pe_bl,ok_c fun _ _=>rfl⟩
theorem a1F {i j pos}:QE T K F (.Constant (.str i) j pos) (qC (.str i)):=⟨_,fun z=>pe_str,ok_c fun _ _=>rfl⟩
abbrev w1:=PV→(PV→Prop)→Prop
abbrev w2:=PV→PV→(PV→Prop)→Prop
def W2 (K:PySem.W.Frag)(r:R2)(w:w2):Prop:=∀(G:Gh) (H:Hp) (x y:PV) (v u:V) (R:PV→Prop) (Q:VK),(∀p,H p=none→p∉G.M)→RdV K G H x v→RdV K G H y u→w x y R→
 (∀z v' H',R z→Same H H'→Rep K G H' z v'→Q v' H')→r v u H Q
def W1 (K:PySem.W.Frag)(r:V→Hp→VK→Prop)(w:w1):Prop:=∀(G:Gh) (H:Hp) (x:PV) (v:V) (R:PV→Prop) (Q:VK),(∀p,H p=none→p∉G.M)→RdV K G H x v→w x R→
 (∀z v' H',R z→Same H H'→Rep K G H' z v'→Q v' H')→r v H Q
def qOp (w:w2)(pa pb:pE):pE:=fun env n R=>pa env n fun x env1 n1=>pb env1 n1 fun y env2 n2=>w x y fun z=>R z env2 n2
def qUn (w:w1)(pa:pE):pE:=fun env n R=>pa env n fun x env1 n1=>w x fun z=>R z env1 n1
theorem a6d {K:PySem.W.Frag}{r:R2}{w:w2}{ta tb:TE}(hw:W2 K r w)(ha:EOk K T ta pa)(hb:ROk K T tb pb):EOk K T (tOp r ta tb) (qOp w pa pb):=fun C G σ H env n R Q hK hT S hp k=>by
 refine ha C G σ H env n _ _ hK hT S hp fun x env1 n1 v H1 p1 S1 r1 f1=>?_;refine hb C G σ H1 env1 n1 _ _ hK hT S1 p1 fun y env2 n2 u H2 p2 S2 r2 f2=>?_;subst hK;exact hw G H2 x y v u _ _ (fun p hp=>S2.fresh hp) (.inl (r1.fr f2)) (r2.rd S2) p2 fun z v' H' rz s rv=>k _ _ _ _ _ rz (S2.same s) rv ((f1.trans f2).trans (Fr.of s))
theorem ok_un {K:PySem.W.Frag}{r:V→Hp→VK→Prop}{w:w1}{ta:TE}(hw:W1 K r w)(ha:ROk K T ta pa):EOk K T (tUn r ta) (qUn w pa):=fun C G σ H env n R Q hK hT S hp k=>by
 refine ha C G σ H env n _ _ hK hT S hp fun x env1 n1 v H1 p1 S1 r1 f1=>?_;subst hK;exact hw G H1 x v _ _ (fun p hp=>S1.fresh hp) (r1.rd S1) p1 fun z v' H' rz s rv=>k _ _ _ _ _ rz (S1.same s) rv (f1.trans (Fr.of s))
def wI (C:Int→Int→Prop)(g:Int→Int→PV):w2:=fun x y R=>match x,y with | .int i,.int j=>C i j∧R (g i j) | _,_=>False
theorem W2.I {K:PySem.W.Frag}{C:Int→Int→Prop}{g:Int→Int→V}{g':Int→Int→PV}(hg:∀i j G H,Rep K G H (g' i j) (g i j)):W2 K (rI C g) (wI C g'):=by
 intro G H x y v u R Q hf rx ry hw k;unfold wI at hw
 split at hw
 · exact⟨_,_,rx.int,ry.int,hw.1,k _ _ _ hw.2 (Same.refl _) (hg _ _ _ _)⟩
 · exact hw.elim
def wI0 (g:Int→Int→PV):w2:=fun x y R=>match x,y with | .int i,.int j=>R (g i j) | _,_=>False
theorem W2.I0 {K:PySem.W.Frag}{g:Int→Int→V}{g':Int→Int→PV}(hg:∀i j G H,Rep K G H (g' i j) (g i j)):W2 K (rI0 g) (wI0 g'):=by
 intro G H x y v u R Q hf rx ry hw k;unfold wI0 at hw
 split at hw
 · exact⟨_,_,rx.int,ry.int,k _ _ _ hw (Same.refl _) (hg _ _ _ _)⟩
 · exact hw.elim
def wAdd:w2:=fun x y R=>match x,y with
 | .int i,.int j=>R (.int (i + j))
 | .str i,.str j=>i.length + j.length≤1000000∧R (.str (i++j))
 | .tup xs,.tup ys=>xs.length + ys.length≤1000000∧R (.tup (xs++ys))
 | _,_=>False
theorem mil {n:Nat}(h:n≤1000000):n≤sizeLine:=Nat.le_trans h (by rw [sizeLine_eq];decide)
theorem mil' {n:Nat}(h:n≤1000000):n < sizeLine:=Nat.lt_of_le_of_lt h (by rw [sizeLine_eq];decide)
theorem a1L {K:PySem.W.Frag}{G:Gh}{H:Hp}{p:Addr}{xs:List PV}{vs:List V}(hf:p∉G.M)(hn:H p=none)(r:Reps K G H xs vs):Rep K G (upd H p (.tup vs)) (.tup xs) (.ref p):=
 ⟨p,vs,rfl,⟨hf,a0i⟩,r.same (Same.lay1 hn)⟩
theorem a1M {K:PySem.W.Frag}{G:Gh}{H:Hp}{p:Addr}{xs:List PV}{vs:List V}(hf:p∉G.M)(hn:H p=none)(r:Reps K G H xs vs):Rep K G (upd H p (.lst vs)) (.lst xs) (.ref p):=
 ⟨p,vs,rfl,⟨hf,a0i⟩,r.same (Same.lay1 hn)⟩
theorem W2.add {K:PySem.W.Frag}:W2 K (fun x y H Q=>(rI0 fun i j=>.int (i + j)) x y H Q∨(∃i j,x=.str i∧y=.str j∧i.length + j.length≤sizeLine∧Q (.str (i++j)) H)∨rCatA K x y H Q) wAdd:=by
 intro G H x y v u R Q hf rx ry hw k;unfold wAdd at hw
 split at hw
 · exact .inl ⟨_,_,rx.int,ry.int,k _ _ _ hw (Same.refl _) rfl⟩
 · exact .inr (.inl ⟨_,_,rx.str,ry.str,mil hw.1,k _ _ _ hw.2 (Same.refl _) rfl⟩)
 · rename_i xs ys;obtain⟨a,vs,ea,ta,ra⟩:=rx.rep (fun _ z=>nomatch z);obtain⟨b,us,eb,tb,rb⟩:=ry.rep (fun _ z=>nomatch z);refine .inr (.inr ⟨a,b,vs,us,ea,eb,ta.sq,tb.sq,?_,fun z=>?_,fun z1 z2=>?_,fun z1 z2 p hp=>?_⟩)
   · rw [← ra.length,← rb.length];exact mil hw.1
   · subst z;have:xs=[]:=List.eq_nil_of_length_eq_zero ra.length;subst this;exact k _ _ _ hw.2 (Same.refl _) ⟨b,us,rfl,tb,rb⟩
   · subst z2;have:ys=[]:=List.eq_nil_of_length_eq_zero rb.length;subst this;exact k _ _ _ hw.2 (Same.refl _) (by rw [List.append_nil];exact⟨a,vs,rfl,ta,ra⟩)
   · exact k _ _ _ hw.2 (Same.lay1 hp) (a1L (hf p hp) hp (ra.append rb))
 · exact hw.elim
theorem a0T {pos:Pos}(ha:QE T K F a pa)(hb:QE T K F b pb)(hK:∀z,(F z).K=K:=by intro _;rfl):QE T K F (.BinOp a .Add b pos) (qOp wAdd pa pb):=by
 obtain⟨ta,h1,h2⟩:=ha;obtain⟨tb,h3,h4⟩:=hb.r;exact⟨_,fun z=>a0v (a1t.or (a4Z.or (hK z▸a8N))) (h1 z) (h3 z),a6d W2.add h2 h4⟩
theorem a8x {op:Operator}{r:R2}{w:w2}{pos:Pos}(ho:∀z,OpR (F z) (binaryOp op) r)(hw:W2 K r w)(ha:QE T K F a pa)(hb:QE T K F b pb):QE T K F (.BinOp a op b pos) (qOp w pa pb):=by
 obtain⟨ta,h1,h2⟩:=ha;obtain⟨tb,h3,h4⟩:=hb.r;exact⟨_,fun z=>a0v (ho z) (h1 z) (h3 z),a6d hw h2 h4⟩
def wSub:w2:=wI0 fun i j=>.int (i - j)
def wMul:w2:=fun x y R=>match x,y with
 | .int i,.int j=>CMul i j∧R (.int (i * j))
 | .str i,.int n=>i.length≤100∧0≤n∧n≤1000∧R (.str (Txt.mul i n))
 | _,_=>False
def wMod:w2:=wI (fun _ j=>0 < j) fun i j=>.int (i % j)
theorem W2.mul {K:PySem.W.Frag}:W2 K (fun x y H Q=>(rI CMul fun i j=>.int (i * j)) x y H Q∨(∃i n,x=.str i∧y=.int n∧i.length≤100∧0≤n∧n≤1000∧Q (.str (Txt.mul i n)) H)) wMul:=by
 intro G H x y v u R Q hf rx ry hw k;unfold wMul at hw
 split at hw
 · exact .inl ⟨_,_,rx.int,ry.int,hw.1,k _ _ _ hw.2 (Same.refl _) rfl⟩
 · exact .inr ⟨_,_,rx.str,ry.int,hw.1,hw.2.1,hw.2.2.1,k _ _ _ hw.2.2.2 (Same.refl _) rfl⟩
 · exact hw.elim
theorem qe_sub {pos:Pos}(ha:QE T K F a pa)(hb:QE T K F b pb):QE T K F (.BinOp a .Sub b pos) (qOp wSub pa pb):=a8x (fun _=>op_sub) (W2.I0 fun _ _ _ _=>rfl) ha hb
theorem a7K {pos:Pos}(ha:QE T K F a pa)(hb:QE T K F b pb):QE T K F (.BinOp a .Mult b pos) (qOp wMul pa pb):=a8x (fun _=>a1G.or a4Y) W2.mul ha hb
theorem a7L {pos:Pos}(ha:QE T K F a pa)(hb:QE T K F b pb):QE T K F (.BinOp a .Mod b pos) (qOp wMod pa pb):=a8x (fun _=>a1H) (W2.I fun _ _ _ _=>rfl) ha hb
end
end Pu
end
section
set_option maxHeartbeats 1000000
namespace L2
open PySem PySem.Spec PyProof.Rows
def EqD (K:PySem.W.Frag)(H:Hp):Nat→V→V→Bool→Prop
 | 0,x,y,b=>a1A x=true∧a1A y=true∧b=eqV x y
 | d + 1, x, y, b => (a1A x = true ∧ a1A y = true ∧ b = eqV x y) ∨
   (∃p q xs ys,∃f:Nat→Bool,x=.ref p∧y=.ref q∧SqT K H p xs∧SqT K H q ys∧(∀(j:Nat) x' y',xs[j]?=some x'→ys[j]?=some y'→EqD K H d x' y' (f j))∧b=((List.range (min xs.length ys.length)).all f && xs.length == ys.length))∨
   (∃p q xs ys,∃f:Nat→Bool,x=.ref p∧y=.ref q∧SqL K H p xs∧SqL K H q ys∧(∀(j:Nat) x' y',xs[j]?=some x'→ys[j]?=some y'→EqD K H d x' y' (f j))∧b=((List.range (min xs.length ys.length)).all f && xs.length == ys.length))∨
   (b=false∧((∃p xs,x=.ref p∧(SqT K H p xs∨SqL K H p xs)∧a1A y=true)∨(∃p xs,y=.ref p∧(SqT K H p xs∨SqL K H p xs)∧a1A x=true)∨
     (∃p q xs ys,x=.ref p∧y=.ref q∧SqT K H p xs∧SqL K H q ys)∨(∃p q xs ys,x=.ref p∧y=.ref q∧SqL K H p xs∧SqT K H q ys)))
section
variable {X:Cx}{pins:List (Addr×Obj)}{σ:St}{H:Hp}{s:Shared}
theorem a1a (I:Inv X pins σ H s){p:Addr}{xs ys:List V}(h:SqT X.K H p xs)(h':SqL X.K H p ys):False:=by
 obtain⟨its,r,⟨o,e,c,n,d⟩,_⟩:=I.tuple h;obtain⟨its',r',⟨o',n',e',c',_,d'⟩,_⟩:=I.list h';rw [e] at e';cases e';rw [c] at c';injection c' with c';exact absurd c' (by decide)
theorem EqD.refl (I:Inv X pins σ H s):∀(d:Nat) (x:V) (b:Bool),EqD X.K H d x x b→b=true:=by
 intro d
 induction d with
 | zero =>
   intro x b h;obtain⟨h1,_,rfl⟩:=h;exact a4D h1
 | succ d ih =>
   intro x b h;rcases h with⟨h1,_,rfl⟩ | ⟨p,q,xs,ys,f,e1,e2,s1,s2,hf,rfl⟩ | ⟨p,q,xs,ys,f,e1,e2,s1,s2,hf,rfl⟩ | ⟨rfl,h⟩
   · exact a4D h1
   · subst e1;cases e2;have:=I.tuple_inj s1 s2;subst this;simp only [Nat.min_self,beq_self_eq_true,Bool.and_true,List.all_eq_true,List.mem_range];intro j hj;exact ih _ _ (hf j xs[j] xs[j] (by simp [hj]) (by simp [hj]))
   · subst e1;cases e2;have:=I.list_inj s1 s2;subst this;simp only [Nat.min_self,beq_self_eq_true,Bool.and_true,List.all_eq_true,List.mem_range];intro j hj;exact ih _ _ (hf j xs[j] xs[j] (by simp [hj]) (by simp [hj]))
   · rcases h with⟨p,xs,rfl,_,h⟩ | ⟨p,xs,rfl,_,h⟩ | ⟨p,q,xs,ys,e1,e2,s1,s2⟩ | ⟨p,q,xs,ys,e1,e2,s1,s2⟩
     · cases h
     · cases h
     · subst e1;cases e2;exact(a1a I s1 s2).elim
     · subst e1;cases e2;exact(a1a I s2 s1).elim
theorem Inv.sqL (I:Inv X pins σ H s){p:Addr}{xs:List V}(h:SqL X.K H p xs):∃its:List Value,Vals xs its∧s.heap.IsList p its.toArray:=by
 obtain⟨its,r,pl,_⟩:=I.list h;exact⟨its,r,pl.isList⟩
theorem Inv.sqT (I:Inv X pins σ H s){p:Addr}{xs:List V}(h:SqT X.K H p xs):∃its:List Value,Vals xs its∧s.heap.IsTuple p its.toArray:=by
 obtain⟨its,r,pl,_⟩:=I.tuple h;exact⟨its,r,pl⟩
theorem a2g (I:Inv X pins σ H s){A:Around}(hu:A.units < cLine){p:Addr}{xs:List V}(hq:SqT X.K H p xs∨SqL X.K H p xs){y:V}{w:Value}(ry:RelV y w)(fy:a1A y=true) :
   SeqAt.RcAt A s (.ref p) w false∧SeqAt.RcNeAt A s (.ref p) w true∧SeqAt.RcAt A s w (.ref p) false∧SeqAt.RcNeAt A s w (.ref p) true∧SeqAt.EqAt A s (.ref p) w false∧SeqAt.EqAt A s w (.ref p) false:=by
 rcases hq with hq | hq
 · obtain⟨its,r,il⟩:=I.sqT hq;cases y with
   | non=>cases ry;exact⟨.tuple_none il hu,.tuple_none il hu,.none_tuple il hu,.none_tuple il hu,.tuple_none il hu,.none_tuple il hu⟩
   | bl b=>cases ry;exact⟨.tuple_bool b il hu,.tuple_bool b il hu,.bool_tuple b il hu,.bool_tuple b il hu,.tuple_bool b il hu,.bool_tuple b il hu⟩
   | int i=>obtain⟨t,rfl⟩:=ry;exact⟨.tuple_int i t il hu,.tuple_int i t il hu,.int_tuple i t il hu,.int_tuple i t il hu,.tuple_int i t il hu,.int_tuple i t il hu⟩
   | str i=>obtain⟨t,rfl⟩:=ry;exact⟨.tuple_str i t il hu,.tuple_str i t il hu,.str_tuple i t il hu,.str_tuple i t il hu,.tuple_str i t il hu,.str_tuple i t il hu⟩
   | _=>cases fy
 · obtain⟨its,r,il⟩:=I.sqL hq;cases y with
   | non=>cases ry;exact⟨.list_none il hu,.list_none il hu,.none_list il hu,.none_list il hu,.list_none il hu,.none_list il hu⟩
   | bl b=>cases ry;exact⟨.list_bool b il hu,.list_bool b il hu,.bool_list b il hu,.bool_list b il hu,.list_bool b il hu,.bool_list b il hu⟩
   | int i=>obtain⟨t,rfl⟩:=ry;exact⟨.list_int i t il hu,.list_int i t il hu,.int_list i t il hu,.int_list i t il hu,.list_int i t il hu,.int_list i t il hu⟩
   | str i=>obtain⟨t,rfl⟩:=ry;exact⟨.list_str i t il hu,.list_str i t il hu,.str_list i t il hu,.str_list i t il hu,.list_str i t il hu,.str_list i t il hu⟩
   | _=>cases fy
theorem a5t {A:Around}{x y:V}{u w:Value}(rx:RelV x u)(ry:RelV y w)(fx:a1A x=true)(fy:a1A y=true):SeqAt.RcAt A s u w (eqV x y)∧SeqAt.RcNeAt A s u w (!eqV x y):=by
 cases x with
 | non =>
   cases rx;cases y with
   | non=>cases ry;exact⟨.none_none,.none_none⟩
   | bl j=>cases ry;exact⟨.none_bool j,.none_bool j⟩
   | int j=>obtain⟨t,rfl⟩:=ry;exact⟨.none_int j t,.none_int j t⟩
   | str j=>obtain⟨t,rfl⟩:=ry;exact⟨.none_str j t,.none_str j t⟩
   | _=>cases fy
 | bl i =>
   cases rx;cases y with
   | non=>cases ry;exact⟨.bool_none i,.bool_none i⟩
   | bl j=>cases ry;exact⟨.bool_bool i j,.bool_bool i j⟩
   | int j=>obtain⟨t,rfl⟩:=ry;exact⟨.bool_int i j t,.bool_int i j t⟩
   | str j=>obtain⟨t,rfl⟩:=ry;exact⟨.bool_str i j t,.bool_str i j t⟩
   | _=>cases fy
 | int i =>
   obtain⟨ti,rfl⟩:=rx;cases y with
   | non=>cases ry;exact⟨.int_none i ti,.int_none i ti⟩
   | bl j=>cases ry;exact⟨.int_bool i ti j,.int_bool i ti j⟩
   | int j=>obtain⟨t,rfl⟩:=ry;exact⟨.int_int i ti j t,.int_int i ti j t⟩
   | str j=>obtain⟨t,rfl⟩:=ry;exact⟨.int_str i ti j t,.int_str i ti j t⟩
   | _=>cases fy
 | str i =>
   obtain⟨ti,rfl⟩:=rx;cases y with
   | non=>cases ry;exact⟨.str_none i ti,.str_none i ti⟩
   | bl j=>cases ry;exact⟨.str_bool i ti j,.str_bool i ti j⟩
   | int j=>obtain⟨t,rfl⟩:=ry;exact⟨.str_int i ti j t,.str_int i ti j t⟩
   | str j=>obtain⟨t,rfl⟩:=ry;exact⟨.str_str i ti j t,.str_str i ti j t⟩
   | _=>cases fy
 | _=>cases fx
theorem a2n (A:Around):A.in1.units=A.units + 1:=rfl
theorem EqD.at (I:Inv X pins σ H s):∀(d:Nat) (A:Around) (x y:V) (u w:Value) (b:Bool),A.units + d < cLine→RelV x u→RelV y w→EqD X.K H d x y b→SeqAt.EqAt A s u w b∧SeqAt.RcAt A s u w b∧SeqAt.RcNeAt A s u w (!b):=by
 intro d
 induction d with
 | zero =>
   intro A x y u w b hu rx ry h;obtain⟨h1,h2,rfl⟩:=h;exact⟨a8c rx ry h1 h2,a5t rx ry h1 h2⟩
 | succ d ih =>
   intro A x y u w b hu rx ry h;have hu0:A.units < cLine:=by omega
   have hu1:A.in1.units + d < cLine:=by rw [a2n];omega
   have hrefl:=EqD.refl I (d + 1) x b;rcases h with⟨h1,h2,rfl⟩ | ⟨p,q,xs,ys,f,e1,e2,s1,s2,hf,eb⟩ | ⟨p,q,xs,ys,f,e1,e2,s1,s2,hf,eb⟩ | ⟨rfl,h⟩
   · exact⟨a8c rx ry h1 h2,a5t rx ry h1 h2⟩
   · subst e1 e2;cases rx;cases ry;obtain⟨its,r1,t1⟩:=I.sqT s1;obtain⟨its2,r2,t2⟩:=I.sqT s2;have z1:its.toArray.size=xs.length:=by simpa using r1.length.symm
     have z2:its2.toArray.size=ys.length:=by simpa using r2.length.symm
     have he:∀j (h1:j < its.toArray.size) (h2:j < its2.toArray.size),SeqAt.EqAt A.in1 s its.toArray[j] its2.toArray[j] (f j):=by
       intro j h1 h2;obtain⟨x',e1,q1⟩:=r1.getE (j:=j) (by simpa using h1);obtain⟨y',e2,q2⟩:=r2.getE (j:=j) (by simpa using h2);exact(ih A.in1 x' y' _ _ (f j) hu1 (by simpa using q1) (by simpa using q2) (hf j x' y' e1 e2)).1
     have rc:SeqAt.RcAt A s (.ref p) (.ref q) b:=by
       rw [eb,← z1,← z2];exact SeqAt.RcAt.tuples t1 t2 hu0 he
     have rn:SeqAt.RcNeAt A s (.ref p) (.ref q) (!b):=by
       rw [eb,← z1,← z2];exact SeqAt.RcNeAt.tuples t1 t2 hu0 he
     refine⟨?_,rc,rn⟩
     by_cases hpq:p=q
     · subst hpq;rw [hrefl (.inr (.inl ⟨p,p,xs,ys,f,rfl,rfl,s1,s2,hf,eb⟩))];exact .same _
     · exact .of_refs hpq rc
   · subst e1 e2;cases rx;cases ry;obtain⟨its,r1,t1⟩:=I.sqL s1;obtain⟨its2,r2,t2⟩:=I.sqL s2;have z1:its.toArray.size=xs.length:=by simpa using r1.length.symm
     have z2:its2.toArray.size=ys.length:=by simpa using r2.length.symm
     have he:∀j (h1:j < its.toArray.size) (h2:j < its2.toArray.size),SeqAt.EqAt A.in1 s its.toArray[j] its2.toArray[j] (f j):=by
       intro j h1 h2;obtain⟨x',e1,q1⟩:=r1.getE (j:=j) (by simpa using h1);obtain⟨y',e2,q2⟩:=r2.getE (j:=j) (by simpa using h2);exact(ih A.in1 x' y' _ _ (f j) hu1 (by simpa using q1) (by simpa using q2) (hf j x' y' e1 e2)).1
     have rr:SeqAt.RcAt A s (.ref p) (.ref q) b∧SeqAt.RcNeAt A s (.ref p) (.ref q) (!b):=by
       by_cases hl:xs.length=ys.length
       · have e3:b=(List.range its.toArray.size).all f:=by rw [eb,hl,Nat.min_self,beq_self_eq_true,Bool.and_true,z1,hl]
         rw [e3];exact⟨SeqAt.RcAt.lists t1 t2 (by rw [z1,z2,hl]) hu0 he,SeqAt.RcNeAt.lists t1 t2 (by rw [z1,z2,hl]) hu0 he⟩
       · have e3:b=false:=by
           rw [eb];have:(xs.length == ys.length)=false:=by simpa using hl
           rw [this,Bool.and_false]
         rw [e3];have e4:(its.toArray.size != its2.toArray.size)=true:=by rw [z1,z2];simpa using hl
         exact⟨SeqAt.RcAt.lists_lengths t1 t2 e4 hu0,SeqAt.RcNeAt.lists_lengths t1 t2 e4 hu0⟩
     refine⟨?_,rr⟩
     by_cases hpq:p=q
     · subst hpq;rw [hrefl (.inr (.inr (.inl ⟨p,p,xs,ys,f,rfl,rfl,s1,s2,hf,eb⟩)))];exact .same _
     · exact .of_refs hpq rr.1
   · rcases h with⟨p,xs,rfl,hq,fy⟩ | ⟨p,xs,rfl,hq,fx⟩ | ⟨p,q,xs,ys,e1,e2,s1,s2⟩ | ⟨p,q,xs,ys,e1,e2,s1,s2⟩
     · cases rx;obtain⟨a1,a2,a3,a4,a5,a6⟩:=a2g I hu0 hq ry fy;exact⟨a5,a1,a2⟩
     · cases ry;obtain⟨a1,a2,a3,a4,a5,a6⟩:=a2g I hu0 hq rx fx;exact⟨a6,a3,a4⟩
     · subst e1 e2;cases rx;cases ry;obtain⟨its,r1,t1⟩:=I.sqT s1;obtain⟨its2,r2,t2⟩:=I.sqL s2;exact⟨.tuple_list t1 t2 hu0,.tuple_list t1 t2 hu0,.tuple_list t1 t2 hu0⟩
     · subst e1 e2;cases rx;cases ry;obtain⟨its,r1,t1⟩:=I.sqL s1;obtain⟨its2,r2,t2⟩:=I.sqT s2;exact⟨.list_tuple t1 t2 hu0,.list_tuple t1 t2 hu0,.list_tuple t1 t2 hu0⟩
end
section
variable {X:Cx}
def rEqD (K:PySem.W.Frag)(d:Nat)(neg:Bool):R2:=fun x y H Q=>∃b,EqD K H d x y b∧Q (.bl (if neg then !b else b)) H
theorem op_eqD (d:Nat)(hu:X.A.units + d < cLine):OpR X (compareOp .Eq) (rEqD X.K d false):=by
 intro pins s σ H x y v u Q I rx ry h;obtain⟨b,hb,q⟩:=h;exact(hb.at I d X.A x y v u b hu rx ry).2.1 X.prog X.w X.xe _ ⟨.bl _,H,I,rfl,q⟩
theorem op_neD (d:Nat)(hu:X.A.units + d < cLine):OpR X (compareOp .NotEq) (rEqD X.K d true):=by
 intro pins s σ H x y v u Q I rx ry h;obtain⟨b,hb,q⟩:=h;exact(hb.at I d X.A x y v u b hu rx ry).2.2 X.prog X.w X.xe _ ⟨.bl _,H,I,rfl,q⟩
def rInD (K:PySem.W.Frag)(d:Nat)(neg:Bool):R2:=fun x y H Q=>∃p ys,∃f:Nat→Bool,y=.ref p∧(SqL K H p ys∨SqT K H p ys)∧(∀(j:Nat) z,ys[j]?=some z→EqD K H d z x (f j))∧Q (.bl (if neg then !((List.range ys.length).any f) else(List.range ys.length).any f)) H
theorem a2G {n:Nat}{f g:Nat→Bool}(h:∀j,j < n→f j=g j):(List.range n).all f=(List.range n).all g:=by
 rw [Bool.eq_iff_iff,List.all_eq_true,List.all_eq_true];constructor
 · intro k j hj;rw [← h j (List.mem_range.mp hj)];exact k j hj
 · intro k j hj;rw [h j (List.mem_range.mp hj)];exact k j hj
theorem EqD.det {pins:List (Addr×Obj)}{σ:St}{H:Hp}{s:Shared}(I:Inv X pins σ H s):∀(d:Nat) (x y:V) (b b':Bool),EqD X.K H d x y b→EqD X.K H d x y b'→b=b':=by
 intro d
 induction d with
 | zero =>
   intro x y b b' h h';rw [h.2.2,h'.2.2]
 | succ d ih =>
   intro x y b b' h h';rcases h with⟨h1,h2,rfl⟩ | ⟨p,q,xs,ys,f,rfl,rfl,s1,s2,hf,rfl⟩ | ⟨p,q,xs,ys,f,rfl,rfl,s1,s2,hf,rfl⟩ | ⟨rfl,h⟩
   · rcases h' with⟨h1',h2',rfl⟩ | ⟨p,q,xs,ys,f,rfl,rfl,s1,s2,hf,rfl⟩ | ⟨p,q,xs,ys,f,rfl,rfl,s1,s2,hf,rfl⟩ | ⟨rfl,h⟩
     · rfl
     · cases h1
     · cases h1
     · rcases h with⟨p,xs,rfl,_,h⟩ | ⟨p,xs,rfl,_,h⟩ | ⟨p,q,xs,ys,rfl,rfl,s1,s2⟩ | ⟨p,q,xs,ys,rfl,rfl,s1,s2⟩
       · cases h1
       · cases h2
       · cases h1
       · cases h1
   · rcases h' with⟨h1',h2',rfl⟩ | ⟨p',q',xs',ys',f',e1,e2,s1',s2',hf',rfl⟩ | ⟨p',q',xs',ys',f',e1,e2,s1',s2',hf',rfl⟩ | ⟨rfl,h⟩
     · cases h1'
     · cases e1;cases e2;have:=I.tuple_inj s1 s1';subst this;have:=I.tuple_inj s2 s2';subst this;rw [a2G fun j hj=>ih _ _ _ _ (hf j (xs[j]'(by omega)) (ys[j]'(by omega)) (List.getElem?_eq_getElem _) (List.getElem?_eq_getElem _)) (hf' j (xs[j]'(by omega)) (ys[j]'(by omega)) (List.getElem?_eq_getElem _) (List.getElem?_eq_getElem _))]
     · cases e1;exact(a1a I s1 s1').elim
     · rcases h with⟨p',xs',e1,_,h⟩ | ⟨p',xs',e1,_,h⟩ | ⟨p',q',xs',ys',e1,e2,s1',s2'⟩ | ⟨p',q',xs',ys',e1,e2,s1',s2'⟩
       · cases h
       · cases h
       · cases e2;exact(a1a I s2 s2').elim
       · cases e1;exact(a1a I s1 s1').elim
   · rcases h' with⟨h1',h2',rfl⟩ | ⟨p',q',xs',ys',f',e1,e2,s1',s2',hf',rfl⟩ | ⟨p',q',xs',ys',f',e1,e2,s1',s2',hf',rfl⟩ | ⟨rfl,h⟩
     · cases h1'
     · cases e1;exact(a1a I s1' s1).elim
     · cases e1;cases e2;have:=I.list_inj s1 s1';subst this;have:=I.list_inj s2 s2';subst this;rw [a2G fun j hj=>ih _ _ _ _ (hf j (xs[j]'(by omega)) (ys[j]'(by omega)) (List.getElem?_eq_getElem _) (List.getElem?_eq_getElem _)) (hf' j (xs[j]'(by omega)) (ys[j]'(by omega)) (List.getElem?_eq_getElem _) (List.getElem?_eq_getElem _))]
     · rcases h with⟨p',xs',e1,_,h⟩ | ⟨p',xs',e1,_,h⟩ | ⟨p',q',xs',ys',e1,e2,s1',s2'⟩ | ⟨p',q',xs',ys',e1,e2,s1',s2'⟩
       · cases h
       · cases h
       · cases e1;exact(a1a I s1' s1).elim
       · cases e2;exact(a1a I s2' s2).elim
   · rcases h' with⟨h1',h2',rfl⟩ | ⟨p',q',xs',ys',f',rfl,rfl,s1',s2',hf',rfl⟩ | ⟨p',q',xs',ys',f',rfl,rfl,s1',s2',hf',rfl⟩ | ⟨rfl,h'⟩
     · rcases h with⟨p,xs,rfl,_,h⟩ | ⟨p,xs,rfl,_,h⟩ | ⟨p,q,xs,ys,rfl,rfl,s1,s2⟩ | ⟨p,q,xs,ys,rfl,rfl,s1,s2⟩
       · cases h1'
       · cases h2'
       · cases h1'
       · cases h1'
     · rcases h with⟨p,xs,e1,_,h⟩ | ⟨p,xs,e1,_,h⟩ | ⟨p,q,xs,ys,e1,e2,s1,s2⟩ | ⟨p,q,xs,ys,e1,e2,s1,s2⟩
       · cases h
       · cases h
       · cases e2;exact(a1a I s2' s2).elim
       · cases e1;exact(a1a I s1' s1).elim
     · rcases h with⟨p,xs,e1,_,h⟩ | ⟨p,xs,e1,_,h⟩ | ⟨p,q,xs,ys,e1,e2,s1,s2⟩ | ⟨p,q,xs,ys,e1,e2,s1,s2⟩
       · cases h
       · cases h
       · cases e1;exact(a1a I s1 s1').elim
       · cases e2;exact(a1a I s2 s2').elim
     · rfl
open Classical in
theorem a7X {pins:List (Addr×Obj)}{σ:St}{H:Hp}{s:Shared}(I:Inv X pins σ H s){d:Nat}{A:Around}(hu:A.units + d < cLine){ys:List V}{its:List Value}(r:Vals ys its){x:V}{v:Value}(rx:RelV x v){f:Nat→Bool}(hf:∀(j:Nat) z,ys[j]?=some z→EqD X.K H d z x (f j)) :
   ∃e:Value→Bool,(∀y,y∈its→SeqAt.EqAt A s y v (e y))∧its.any e=(List.range ys.length).any f:=by
 have key:∀(j j':Nat) (z:Value),its[j]?=some z→its[j']?=some z→f j=f j':=by
   intro j j' z h h';obtain⟨hj,_⟩:=List.getElem?_eq_some_iff.mp h;obtain⟨hj',_⟩:=List.getElem?_eq_some_iff.mp h';obtain⟨w1,a1,b1⟩:=r.getE hj;obtain⟨w2,a2,b2⟩:=r.getE hj';rw [List.getElem?_eq_getElem hj] at h;rw [List.getElem?_eq_getElem hj'] at h';cases h;rw [Option.some.inj h'] at b2;have:=b1.inj b2;subst this;exact EqD.det I d _ _ _ _ (hf j _ a1) (hf j' _ a2)
 let e:Value→Bool:=fun y=>decide (∃j,its[j]?=some y∧f j=true)
 have he:∀(j:Nat) (y:Value),its[j]?=some y→e y=f j:=by
   intro j y h;show decide _=_;cases hb:f j with
   | true=>exact decide_eq_true ⟨j,h,hb⟩
   | false=>exact decide_eq_false fun⟨j',h1,h2⟩=>by rw [key j j' y h h1,h2] at hb;cases hb
 refine⟨e,fun y hy=>?_,?_⟩
 · obtain⟨j,hj,rfl⟩:=List.getElem_of_mem hy;obtain⟨w1,a1,b1⟩:=r.getE hj;rw [he j _ (List.getElem?_eq_getElem hj)];exact((hf j w1 a1).at I d A w1 x _ v (f j) hu b1 rx).1
 · have hl:=r.length;rw [Bool.eq_iff_iff,List.any_eq_true,List.any_eq_true];constructor
   · rintro⟨y,hy,h⟩;obtain⟨j,hj,rfl⟩:=List.getElem_of_mem hy;exact⟨j,List.mem_range.mpr (by omega),by rw [← he j _ (List.getElem?_eq_getElem hj)];exact h⟩
   · rintro⟨j,hj,h⟩;have hj':j < its.length:=by have:=List.mem_range.mp hj;omega
     exact⟨its[j],List.getElem_mem hj',by rw [he j _ (List.getElem?_eq_getElem hj')];exact h⟩
theorem a5Z (d:Nat)(hu:X.A.units + (d + 1) < cLine):OpR X (compareOp .NotIn) (rInD X.K d true):=by
 intro pins s σ H x y v u Q I rx ry h;obtain⟨p,ys,f,rfl,hq,hf,q⟩:=h;cases ry;rcases hq with hq | hq
 · obtain⟨its,r,il⟩:=I.sqL hq;obtain⟨e,h1,h2⟩:=a7X I (A:=X.A.in1) (by rw [a2n];omega) r rx hf;refine SeqAt.notIn_listAt e il (fun y hy=>h1 y (by simpa using hy)) ⟨.bl _,H,I,rfl,?_⟩;rw [show its.toArray.any e=its.any e by simp,h2];exact q
 · obtain⟨its,r,il⟩:=I.sqT hq;obtain⟨e,h1,h2⟩:=a7X I (A:=X.A.in1) (by rw [a2n];omega) r rx hf;refine SeqAt.notIn_tupleAt e il (fun y hy=>h1 y (by simpa using hy)) ⟨.bl _,H,I,rfl,?_⟩;rw [show its.toArray.any e=its.any e by simp,h2];exact q
end
end L2
namespace Pu
open PySem PySem.Spec L2
def a1R:PV→Bool
 | .non=>true
 | .bl _=>true
 | .int _=>true
 | .str _=>true
 | _=>false
def cmpb:Nat→PV→Bool
 | 0,x=>a1R x
 | d + 1,.tup xs=>xs.all (cmpb d)
 | d + 1,.lst xs=>xs.all (cmpb d)
 | _ + 1,x=>a1R x
mutual
def eqP:PV→PV→Bool
 | .non,.non=>true
 | .bl a,.bl b=>a == b
 | .bl a,.int b=>(if a then 1 else 0) == b
 | .int a,.bl b=>a == (if b then 1 else 0)
 | .int a,.int b=>a == b
 | .str a,.str b=>a == b
 | .tup xs,.tup ys=>eqPs xs ys
 | .lst xs,.lst ys=>eqPs xs ys
 | _,_=>false
def eqPs:List PV→List PV→Bool
 | [],[]=>true
 | x::xs,y::ys=>eqP x y && eqPs xs ys
 | _,_=>false
end
theorem a1Q:∀(xs ys:List PV),((List.range (min xs.length ys.length)).all (fun j=>match xs[j]?,ys[j]? with | some x,some y=>eqP x y | _,_=>false) && xs.length == ys.length)=eqPs xs ys
 | [],[]=>rfl
 | [],_::_=>rfl
 | _::_,[]=>rfl
 | x :: xs, y :: ys => by
   have ih:=a1Q xs ys;show _=(eqP x y && eqPs xs ys);rw [← ih];simp only [List.length_cons,Nat.succ_min_succ,List.range_succ_eq_map,List.all_cons,List.all_map,Function.comp_def,List.getElem?_cons_zero,List.getElem?_cons_succ];rw [Bool.and_assoc]
   congr 1
   simp
end Pu
end
section
set_option maxHeartbeats 1000000
namespace Pu
open PySem PySem.Spec L2
section
variable {K:PySem.W.Frag}{G:Gh}{H:Hp}
inductive Sort3 (K:PySem.W.Frag)(G:Gh)(H:Hp)(d:Nat)(x:PV)(v:V):Prop where
 | fl (h:a1A v=true) (s:a1R x=true)
 | tp (p:Addr) (xs:List PV) (vs:List V) (e:x=.tup xs) (ev:v=.ref p) (h:SqT K H p vs) (r:Reps K G H xs vs) (c:xs.all (cmpb d)=true)
 | ls (p:Addr) (xs:List PV) (vs:List V) (e:x=.lst xs) (ev:v=.ref p) (h:SqL K H p vs) (r:Reps K G H xs vs) (c:xs.all (cmpb d)=true)
theorem a1P {x:PV}{v:V}(s:a1R x=true)(h:RdV K G H x v):a1A v=true:=by
 cases x with
 | non=>rw [h.non];rfl
 | bl b=>rw [h.bl];rfl
 | int b=>rw [h.int];rfl
 | str b=>rw [h.str];rfl
 | _=>cases s
theorem a6V {d:Nat}{x:PV}{v:V}(c:cmpb (d + 1) x=true)(h:RdV K G H x v):Sort3 K G H d x v:=by
 cases x with
 | tup xs =>
   obtain⟨a,vs,e,t,r⟩:=h.tup;exact .tp a xs vs rfl e t r c
 | lst xs =>
   obtain⟨a,vs,e,t,r⟩:=h.lst;exact .ls a xs vs rfl e t r c
 | non=>exact .fl (a1P c h) c
 | bl _=>exact .fl (a1P c h) c
 | int _=>exact .fl (a1P c h) c
 | str _=>exact .fl (a1P c h) c
 | ty _=>cases c
 | pot _=>cases c
 | scr _=>cases c
 | dct _ _=>cases c
theorem a6x {x y:PV}{v u:V}(sx:a1R x=true)(sy:a1R y=true)(hx:RdV K G H x v)(hy:RdV K G H y u):eqP x y=eqV v u:=by
 cases x with
 | non =>
   cases hx.non;cases y with
   | non=>cases hy.non;rfl
   | bl j=>cases hy.bl;rfl
   | int j=>cases hy.int;rfl
   | str j=>cases hy.str;rfl
   | _=>cases sy
 | bl i =>
   cases hx.bl;cases y with
   | non=>cases hy.non;rfl
   | bl j=>cases hy.bl;rfl
   | int j=>cases hy.int;rfl
   | str j=>cases hy.str;rfl
   | _=>cases sy
 | int i =>
   cases hx.int;cases y with
   | non=>cases hy.non;rfl
   | bl j=>cases hy.bl;rfl
   | int j=>cases hy.int;rfl
   | str j=>cases hy.str;rfl
   | _=>cases sy
 | str i =>
   cases hx.str;cases y with
   | non=>cases hy.non;rfl
   | bl j=>cases hy.bl;rfl
   | int j=>cases hy.int;rfl
   | str j=>cases hy.str;rfl
   | _=>cases sy
 | _=>cases sx
theorem a4E {xs:List PV}{y:PV}(sy:a1R y=true):eqP (.tup xs) y=false∧eqP (.lst xs) y=false∧eqP y (.tup xs)=false∧eqP y (.lst xs)=false:=by
 cases y <;> first | exact⟨rfl,rfl,rfl,rfl⟩ | cases sy
theorem a6z:∀(d:Nat) (x y:PV) (v u:V),cmpb d x=true→cmpb d y=true→RdV K G H x v→RdV K G H y u→EqD K H d v u (eqP x y):=by
 intro d
 induction d with
 | zero=>intro x y v u cx cy hx hy;exact⟨a1P cx hx,a1P cy hy,a6x cx cy hx hy⟩
 | succ d ih =>
   intro x y v u cx cy hx hy
   have el:∀(xs ys:List PV) (vs us:List V),Reps K G H xs vs→Reps K G H ys us→xs.all (cmpb d)=true→ys.all (cmpb d)=true→∀(j:Nat) x' y',vs[j]?=some x'→us[j]?=some y'→EqD K H d x' y' (match xs[j]?,ys[j]? with | some x,some y=>eqP x y | _,_=>false):=by
     intro xs ys vs us r1 r2 c1 c2 j x' y' e1 e2;obtain⟨x1,ex,rx⟩:=r1.get e1;obtain⟨y1,ey,ry⟩:=r2.get e2;rw [ex,ey];exact ih x1 y1 x' y' (List.all_eq_true.mp c1 x1 (List.mem_of_getElem? ex)) (List.all_eq_true.mp c2 y1 (List.mem_of_getElem? ey)) (.inl rx) (.inl ry)
   cases a6V cx hx with
   | fl fx sx =>
     cases a6V cy hy with
     | fl fy sy=>exact .inl ⟨fx,fy,a6x sx sy hx hy⟩
     | tp q ys us e ev h r c=>subst e;exact .inr (.inr (.inr ⟨(a4E sx).2.2.1,.inr (.inl ⟨q,us,ev,.inl h,fx⟩)⟩))
     | ls q ys us e ev h r c=>subst e;exact .inr (.inr (.inr ⟨(a4E sx).2.2.2,.inr (.inl ⟨q,us,ev,.inr h,fx⟩)⟩))
   | tp p xs vs e ev h r c =>
     subst e;cases a6V cy hy with
     | fl fy sy=>exact .inr (.inr (.inr ⟨(a4E sy).1,.inl ⟨p,vs,ev,.inl h,fy⟩⟩))
     | tp q ys us e2 ev2 h2 r2 c2 =>
       subst e2;refine .inr (.inl ⟨p,q,vs,us,_,ev,ev2,h,h2,el xs ys vs us r r2 c c2,?_⟩);rw [← r.length,← r2.length];exact(a1Q xs ys).symm
     | ls q ys us e2 ev2 h2 r2 c2=>subst e2;exact .inr (.inr (.inr ⟨rfl,.inr (.inr (.inl ⟨p,q,vs,us,ev,ev2,h,h2⟩))⟩))
   | ls p xs vs e ev h r c =>
     subst e;cases a6V cy hy with
     | fl fy sy=>exact .inr (.inr (.inr ⟨(a4E sy).2.1,.inl ⟨p,vs,ev,.inr h,fy⟩⟩))
     | tp q ys us e2 ev2 h2 r2 c2=>subst e2;exact .inr (.inr (.inr ⟨rfl,.inr (.inr (.inr ⟨p,q,vs,us,ev,ev2,h,h2⟩))⟩))
     | ls q ys us e2 ev2 h2 r2 c2 =>
       subst e2;refine .inr (.inr (.inl ⟨p,q,vs,us,_,ev,ev2,h,h2,el xs ys vs us r r2 c c2,?_⟩));rw [← r.length,← r2.length];exact(a1Q xs ys).symm
end
section
variable {T:PotK}{ι:Type}{K:PySem.W.Frag}{F:ι→Cx}{e a b c:Expr}{es rest:List Expr}{pe pa pb pc:pE}{pos:Pos}
def wEq (d:Nat):w2:=fun x y R=>cmpb d x=true∧cmpb d y=true∧R (.bl (eqP x y))
def wNe (d:Nat):w2:=fun x y R=>cmpb d x=true∧cmpb d y=true∧R (.bl (!eqP x y))
theorem W2.eq {K:PySem.W.Frag}(d:Nat):W2 K (rEqD K d false) (wEq d):=fun G H x y v u R Q hf rx ry hw k=>⟨_,a6z d x y v u hw.1 hw.2.1 rx ry,k _ _ _ hw.2.2 (Same.refl _) rfl⟩
theorem W2.ne {K:PySem.W.Frag}(d:Nat):W2 K (rEqD K d true) (wNe d):=fun G H x y v u R Q hf rx ry hw k=>⟨_,a6z d x y v u hw.1 hw.2.1 rx ry,k _ _ _ hw.2.2 (Same.refl _) rfl⟩
def memP (x:PV)(ys:List PV):Bool:=ys.any fun y=>eqP y x
def wIn (d:Nat)(neg:Bool):w2:=fun x y R=>match x,y with
 | .str i,.str j=>R (.bl (if neg then !(!(Builtin.Str.occurrences j i 0 j.length 1).isEmpty) else !(Builtin.Str.occurrences j i 0 j.length 1).isEmpty))
 | x,.lst ys=>cmpb d x=true∧ys.all (cmpb d)=true∧R (.bl (if neg then !memP x ys else memP x ys))
 | x,.tup ys=>cmpb d x=true∧ys.all (cmpb d)=true∧R (.bl (if neg then !memP x ys else memP x ys))
 | _,_=>False
theorem a2B {x:PV}:∀ys:List PV,((List.range ys.length).any fun j=>match ys[j]? with | some y=>eqP y x | none=>false)=memP x ys
 | []=>rfl
 | y :: ys => by
   have ih:=a2B (x:=x) ys;show _=(eqP y x || memP x ys);rw [← ih];simp only [List.length_cons,List.range_succ_eq_map,List.any_cons,List.any_map,Function.comp_def,List.getElem?_cons_zero,List.getElem?_cons_succ]
theorem W2.in_ {K:PySem.W.Frag}(d:Nat)(neg:Bool){r:R2}(hr:∀x y H Q,(∃i j,x=.str i∧y=.str j∧Q (.bl (if neg then !(!(Builtin.Str.occurrences j i 0 j.length 1).isEmpty) else !(Builtin.Str.occurrences j i 0 j.length 1).isEmpty)) H)∨rInD K d neg x y H Q→r x y H Q):W2 K r (wIn d neg):=by
 intro G H x y v u R Q hf rx ry hw k;refine hr _ _ _ _ ?_
 have seq:∀(ys:List PV) (p:Addr) (us:List V),u=.ref p→(SqL K H p us∨SqT K H p us)→Reps K G H ys us→cmpb d x=true∧ys.all (cmpb d)=true∧R (.bl (if neg then !memP x ys else memP x ys))→rInD K d neg v u H Q:=by
   intro ys p us eu hq r h;refine⟨p,us,fun j=>match ys[j]? with | some y=>eqP y x | none=>false,eu,hq,fun j z ez=>?_,?_⟩
   · obtain⟨y1,ey,ry⟩:=r.get ez;dsimp only;rw [ey];exact a6z d y1 x z v (List.all_eq_true.mp h.2.1 y1 (List.mem_of_getElem? ey)) h.1 (.inl ry) rx
   · rw [← r.length,a2B];exact k _ _ _ h.2.2 (Same.refl _) rfl
 unfold wIn at hw
 split at hw
 · exact .inl ⟨_,_,rx.str,ry.str,k _ _ _ hw (Same.refl _) rfl⟩
 · obtain⟨p,us,eu,hq,r⟩:=ry.lst;exact .inr (seq _ p us eu (.inl hq) r hw)
 · obtain⟨p,us,eu,hq,r⟩:=ry.tup;exact .inr (seq _ p us eu (.inr hq) r hw)
 · exact hw.elim
def wLt:w2:=fun x y R=>match x,y with | .int i,.int j=>R (.bl (decide (i < j))) | .str i,.str j=>R (.bl (decide (i.cps.toList < j.cps.toList))) | _,_=>False
def wGt:w2:=wI0 fun i j=>.bl (decide (j < i))
theorem W2.lt {K:PySem.W.Frag}:W2 K (fun x y H Q=>(rI0 fun i j=>.bl (decide (i < j))) x y H Q∨∃i j,x=.str i∧y=.str j∧Q (.bl (decide (i.cps.toList < j.cps.toList))) H) wLt:=by
 intro G H x y v u R Q hf rx ry hw k;unfold wLt at hw
 split at hw
 · exact .inl ⟨_,_,rx.int,ry.int,k _ _ _ hw (Same.refl _) rfl⟩
 · exact .inr ⟨_,_,rx.str,ry.str,k _ _ _ hw (Same.refl _) rfl⟩
 · exact hw.elim
structure Cmp {ι:Type}(K:PySem.W.Frag)(F:ι→Cx)(op:CmpOp)(w:w2):Prop where
 ex:∃r,(∀z,OpR (F z) (compareOp op) r)∧W2 K r w
theorem cEq (d:Nat){k:Nat}(hr:∀z,Room k (F z).A)(hd:d≤30:=by decide)(hK:∀z,(F z).K=K:=by intro _;rfl):Cmp K F .Eq (wEq d):=⟨_,fun z=>hK z▸op_eqD d (by have:=(hr z).units;omega),W2.eq d⟩
theorem cNe (d:Nat){k:Nat}(hr:∀z,Room k (F z).A)(hd:d≤30:=by decide)(hK:∀z,(F z).K=K:=by intro _;rfl):Cmp K F .NotEq (wNe d):=⟨_,fun z=>hK z▸op_neD d (by have:=(hr z).units;omega),W2.ne d⟩
theorem cNotIn (d:Nat){k:Nat}(hr:∀z,Room k (F z).A)(hd:d≤30:=by decide)(hK:∀z,(F z).K=K:=by intro _;rfl):Cmp K F .NotIn (wIn d true):=⟨_,fun z=>a3x.or (hK z▸a5Z d (by have:=(hr z).units;omega)),W2.in_ d true fun _ _ _ _ h=>h⟩
theorem cLt:Cmp K F .Lt wLt:=⟨_,fun _=>op_lt.or a6b,W2.lt⟩
theorem cGt:Cmp K F .Gt wGt:=⟨_,fun _=>op_gt,W2.I0 fun _ _ _ _=>rfl⟩
theorem a4p {op:CmpOp}{w:w2}(hc:Cmp K F op w)(ha:QE T K F a pa)(hb:QR T K F b pb)(hm:behindInMarks op b=false):QE T K F (.Compare a [op] [b] pos) (qOp w pa pb):=by
 obtain⟨r,ho,hw⟩:=hc.ex;obtain⟨ta,h1,h2⟩:=ha;obtain⟨tb,h3,h4⟩:=hb;exact⟨_,fun z=>a5V (ho z) (h1 z) (h3 z) hm,a6d hw h2 h4⟩
def qB (pe:pE):pT:=fun env n R=>pe env n fun x env' n'=>match x with | .bl b=>R b env' n' | _=>False
theorem a6c {K:PySem.W.Frag}{t:TE}(h:EOk K T t pe):TOk K T (tTest t) (qB pe):=fun C G σ H env n R Q hK hT S hp k=>by
 refine h C G σ H env n _ _ hK hT S hp fun x env' n' v H' r S' rp f=>?_;cases x with
 | bl b=>exact⟨b,rp,k _ _ _ _ r S' f⟩
 | _=>exact r.elim
theorem a4l {op:CmpOp}{w:w2}(hc:Cmp K F op w)(ha:QE T K F a pa)(hb:QR T K F b pb)(hm:behindInMarks op b=false):QT T K F (.Compare a [op] [b] pos) (qB (qOp w pa pb)):=by
 obtain⟨r,ho,hw⟩:=hc.ex;obtain⟨ta,h1,h2⟩:=ha;obtain⟨tb,h3,h4⟩:=hb;exact⟨_,fun z=>a2Z (ho z) (h1 z) (h3 z) hm,a6c (a6d hw h2 h4)⟩
variable {pt pu:pT}
def a8F (pa pb:pE):pE:=fun env n R=>pa env n fun x env1 n1=>match x with | .bl b=>if b=true then pb env1 n1 R else R (.bl false) env1 n1 | _=>False
theorem qe_one {op}(h:QE T K F a pa):QE T K F (.BoolOp op [a] pos) pa:=let ⟨t,h1,h2⟩:=h;⟨t,fun z=>pe_one (h1 z),h2⟩
theorem qe_and (ha:QE T K F a pa)(hb:QE T K F (.BoolOp .And (b::rest) pos) pb):QE T K F (.BoolOp .And (a::b::rest) pos) (a8F pa pb):=by
 obtain⟨t,h1,h2⟩:=ha;obtain⟨u,h3,h4⟩:=hb;refine⟨_,fun z=>pe_and (h1 z) (h3 z),fun C G σ H env n R Q hK hT S hp k=>?_⟩;refine h2 C G σ H env n _ _ hK hT S hp fun x env1 n1 v H1 p1 S1 r1 f1=>?_;cases x with
 | bl c =>
   refine⟨c,r1,?_⟩;cases c with
   | true=>exact h4 C G σ H1 env1 n1 _ _ hK hT S1 p1 fun x env2 n2 v H2 p2 S2 r2 f2=>k _ _ _ _ _ p2 S2 r2 (f1.trans f2)
   | false=>exact k _ _ _ _ _ p1 S1 rfl f1
 | _=>exact p1.elim
variable {pl pr:pA}
def qNil:pA:=fun env n R=>R [] env n
def a0e (pe:pE)(pr:pA):pA:=fun env n R=>pe env n fun x env1 n1=>pr env1 n1 fun xs env2 n2=>R (x::xs) env2 n2
theorem a0m:QA T K F [] qNil:=⟨_,fun _=>a0z,fun C G σ H env n R Q hK hT S hp k=>k _ _ _ _ _ hp S Reps.nil Fr.refl⟩
theorem a8Q {K:PySem.W.Frag}{t:TE}{u:TA}(h:EOk K T t pe)(h':AOk K T u pr):AOk K T (a2c t u) (a0e pe pr):=fun C G σ H env n R Q hK hT S hp k=>by
 refine h C G σ H env n _ _ hK hT S hp fun x env1 n1 v H1 p1 S1 r1 f1=>?_;exact h' C G σ H1 env1 n1 _ _ hK hT S1 p1 fun xs env2 n2 vs H2 p2 S2 r2 f2=>k _ _ _ _ _ p2 S2 (.cons (r1.fr f2) r2) (f1.trans f2)
def a0p:Expr→Bool
 | .Starred ..=>false
 | _=>true
theorem a0c {e:Expr}{es:List Expr}{env:PySem.Env}(h:a0p e=true):starEach (e::es) env=(false,eval e env)::starEach es env:=by
 cases e <;> first | rfl | cases h
theorem a0b (ha:QE T K F e pe)(hr:QA T K F es pr)(h:a0p e=true:=by rfl):QA T K F (e::es) (a0e pe pr):=by
 obtain⟨t,h1,h2⟩:=ha;obtain⟨u,h3,h4⟩:=hr;exact⟨_,fun z=>a0l (h1 z) (h3 z) (a0c h),a8Q h2 h4⟩
def qTup (pa:pA):pE:=fun env n R=>pa env n fun xs env1 n1=>xs.length≤1000000∧R (.tup xs) env1 n1
def qLst (pa:pA):pA:=fun env n R=>pa env n fun xs env1 n1=>xs.length≤1000000∧R xs env1 n1
def qL (pn:pA):pE:=fun env n R=>pn env n fun xs env1 n1=>R (.lst xs) env1 n1
theorem qe_tup {x1}(h:QA T K F es pl):QE T K F (.Tuple es x1 pos) (qTup pl):=by
 obtain⟨t,h1,h2⟩:=h;refine⟨_,fun z=>a7R (h1 z),fun C G σ H env n R Q hK hT S hp k=>?_⟩;refine h2 C G σ H env n _ _ hK hT S hp fun xs env1 n1 vs H1 p1 S1 r1 f1=>⟨by rw [← r1.length];exact mil p1.1,fun p hp=>?_⟩;exact k _ _ _ _ _ p1.2 (S1.same (Same.lay1 hp)) (a1L (S1.fresh hp) hp r1) (f1.trans (Fr.of (Same.lay1 hp)))
theorem a1e (h:QA T K F es pl):QN T K F (.List es pos) (qLst pl):=by
 obtain⟨t,h1,h2⟩:=h;refine⟨_,fun z=>a7S (h1 z),fun C G σ H env n R Q hK hT S hp k=>?_⟩;exact h2 C G σ H env n _ _ hK hT S hp fun xs env1 n1 vs H1 p1 S1 r1 f1=>⟨by rw [← r1.length];exact mil p1.1,fun p hp=>k _ _ _ _ _ _ p1.2 S1 f1 hp r1⟩
theorem QN.ee (h:QN T K F e pl):QE T K F e (qL pl):=by
 obtain⟨t,h1,h2⟩:=h;refine⟨t,h1,fun C G σ H env n R Q hK hT S hp k=>?_⟩;refine h2 C G σ H env n _ _ hK hT S hp fun xs env1 n1 a vs Hb p1 S1 f1 hn r1=>?_;exact k _ _ _ _ _ p1 (S1.same (Same.lay1 hn)) (a1M (S1.fresh hn) hn r1) (f1.trans (Fr.of (Same.lay1 hn)))
theorem a6e {K:PySem.W.Frag}{t:TE}(h:ROk K T t pe){C:Ct}{G:Gh}{σ:St}{H:Hp}{env:Env}{n:Nat}{R:PK}{Q:List V→Hp→Prop}(hK:C.K=K)(hT:C.T=T)(S:SR C G σ H env n)(hp:pe env n R)
   (k:∀x env' n' v H',R x env' n'→SR C G σ H' env' n'→RdS C G σ H' env' x v→Fr G H H'→Q [v] H'):a2c t tNil σ H Q:=
 h C G σ H env n _ _ hK hT S hp fun x env1 n1 v H1 p1 S1 r1 f1=>k _ _ _ _ _ p1 S1 r1 f1
end
end Pu
end
section
set_option maxHeartbeats 1000000
namespace HT
open PySem PySem.Spec PyProof.Rows
section
variable {prog:Program}{w:World}{A:Around}{E:Value→Shared→Prop}{s:Shared}
theorem getItem_tuple_whole {t sl:Addr}{items:Array Value}{vl vu:Value}{lo hi:Option Int}{Q:Value→Shared→Prop}(ht:IsTup s.heap t items)(hs:s.heap.IsSliceOf sl vl vu .none)(pl:IsPart vl lo)(pu:IsPart vu hi)
   (hw:sIx items.size 0 lo=0∧sIx items.size items.size hi=items.size) (h:Q (.ref t) s):wpAny (model prog w) A (getItem (.ref t) (.ref sl)) Q E s:=by
 obtain⟨os,hos,hcs,hds⟩:=id hs;have hTs:s.TypeIs (.ref sl) "slice":=⟨os,hos,hcs⟩;have hTt:s.TypeIs (.ref t) "tuple":=ht.typeIs;unfold getItem
 try with_reducible refine wpAny_holding ?_
 first | refine wpAny_bind (wpAny_pure ?_) | skip
 refine wpAny_bind (wpAny_sequenceKey ht.typeIs (by decide) ?_)
 refine wpAny_bind (wpAny_callSpecial?_slot (name:=Str.ofString "__getitem__") ht.typeIs PyProof.Rows.slot_tuple_getitem
   (wpAny_call_entry PyProof.Rows.slot_tuple_getitem ht.typeIs entry_tuple_getitem ?_ (args_tuple_getitem _ _)))
 show wpAny _ _ (Builtin.Tuple.tupleItemsOf (.ref t)>>=_) _ _ s;refine wpAny_bind (tupleItemsOf_ ht ?_);refine wpAny_bind (wpAny_typeOf hTs ?_);rw [if_pos (by decide)];refine wpAny_bind (a0Z hs pl pu ?_)
 have hyes:(((sIx items.size 0 lo:Nat):Int) == 0 && (1:Int) == 1 && (sIx items.size items.size hi - sIx items.size 0 lo) == items.size)=true:=by
   rw [hw.1,hw.2];simp
 show wpAny _ _ (if(((sIx items.size 0 lo:Nat):Int) == 0 && (1:Int) == 1 && (sIx items.size items.size hi - sIx items.size 0 lo) == items.size)=true then _ else _) _ _ s;rw [if_pos hyes];unfold Builtin.Tuple.tupleIsExact;refine wpAny_bind (wpAny_bind (wpAny_typeOf hTt (wpAny_pure ?_)));rw [if_pos (by rfl)];exact wpAny_bind (wpAny_rule (wpAny_pure ⟨_,rfl,wpAny_pure h⟩))
end
end HT
namespace L2
open PySem PySem.Spec PyProof.Rows
section
variable {X:Cx}
def rSlTA (K:PySem.W.Frag):V→Option Int→Option Int→Hp→VK→Prop:=fun x lo hi H Q=>∃a xs,x=.ref a∧SqT K H a xs∧
 (cutV xs lo hi=xs→Q (.ref a) H)∧∀p,H p=none→Q (.ref p) (upd H p (.tup (cutV xs lo hi)))
theorem a8p:SlR X (rSlTA X.K):=by
 intro pins s σ H x v vl vu lo hi sl Q I rx hs pl pu h;obtain⟨a,xs,rfl,hx,h1,h2⟩:=h
 by_cases hw:HT.sIx xs.length 0 lo=0∧HT.sIx xs.length xs.length hi=xs.length
 · cases rx;obtain⟨its,r,ht,hz⟩:=I.tuple hx;have hlen:its.toArray.size=xs.length:=by rw [List.size_toArray];exact r.length.symm
   refine⟨"tuple",_,PyProof.Rows.slot_tuple_getitem.lookup,ht.typeIs,?_⟩;refine HT.getItem_tuple_whole ht hs pl pu (by rw [hlen];exact hw) ⟨.ref a,H,I,rfl,h1 ?_⟩;unfold cutV;rw [hw.1,hw.2];simp
 · exact sl_tup pins s σ H (.ref a) v vl vu lo hi sl Q I rx hs pl pu ⟨a,xs,rfl,hx,hw,h2⟩
end
end L2
namespace Pu
open PySem PySem.Spec L2
section
variable {T:PotK}{ι:Type}{K:PySem.W.Frag}{F:ι→Cx}{e a b c:Expr}{es rest:List Expr}{pe pa pb pc:pE}{pos:Pos}{pl pr:pA}
def wIx:w2:=fun x y R=>match x,y with
 | .lst xs,.int i=>match atI xs i with | some z=>R z | none=>False
 | .tup xs,.int i=>match atI xs i with | some z=>R z | none=>False
 | .scr ns,.int i=>match atI ns i with | some z=>R (.int z) | none=>False
 | .str z,.int i=>z.length≤1000000∧match atI z.cps.toList i with | some c=>R (.str ⟨#[c]⟩) | none=>False
 | _,_=>False
theorem a4L {K:PySem.W.Frag}{G:Gh}{H:Hp}{xs:List PV}{vs:List V}(r:Reps K G H xs vs){i:Int}{z:PV}(h:atI xs i=some z):∃v,atI vs i=some v∧Rep K G H z v:=by
 unfold atI at h ⊢;rw [← r.length];cases e:ixN xs.length i with
 | none=>rw [e] at h;cases h
 | some j =>
   rw [e] at h;exact r.get' h
theorem a3q {K:PySem.W.Frag}{G:Gh}{H:Hp}{ns:List Int}{v:V}(h:RdV K G H (.scr ns) v):∃a,v=.ref a∧SqL K H a (ns.map V.int):=by
 obtain⟨a,e,h⟩:=h.rep (fun _ z=>nomatch z);refine⟨a,e,?_⟩;rcases h with⟨_,o,h⟩ | h
 · exact .inl (.inr ⟨o,h⟩)
 · exact .inr h
theorem W2.ix {K:PySem.W.Frag}:W2 K (rIx K) wIx:=by
 intro G H x y v u R Q hf rx ry hw k;unfold wIx at hw
 split at hw
 · rename_i xs i;obtain⟨a,vs,ev,hq,r⟩:=rx.lst;cases ez:atI xs i with
   | none=>rw [ez] at hw;exact hw.elim
   | some z =>
     rw [ez] at hw;obtain⟨v',e1,r1⟩:=a4L r ez;exact .inl ⟨a,vs,i,v',ev,ry.int,hq,e1,k _ _ _ hw (Same.refl _) r1⟩
 · rename_i xs i;obtain⟨a,vs,ev,hq,r⟩:=rx.tup;cases ez:atI xs i with
   | none=>rw [ez] at hw;exact hw.elim
   | some z =>
     rw [ez] at hw;obtain⟨v',e1,r1⟩:=a4L r ez;exact .inr (.inl ⟨a,vs,i,v',ev,ry.int,hq,e1,k _ _ _ hw (Same.refl _) r1⟩)
 · rename_i ns i;obtain⟨a,ev,hq⟩:=a3q rx;cases ez:atI ns i with
   | none=>rw [ez] at hw;exact hw.elim
   | some z =>
     rw [ez] at hw;refine .inl ⟨a,_,i,.int z,ev,ry.int,hq,?_,k _ _ _ hw (Same.refl _) rfl⟩;unfold atI at ez ⊢;rw [List.length_map];cases e:ixN ns.length i with
     | none=>rw [e] at ez;cases ez
     | some j =>
       rw [e] at ez;show(ns.map V.int)[j]?=_;rw [List.getElem?_map,show ns[j]?=some z from ez]
       rfl
 · rename_i z i;obtain⟨hz,hw⟩:=hw;cases ez:atI z.cps.toList i with
   | none=>rw [ez] at hw;exact hw.elim
   | some c =>
     rw [ez] at hw;exact .inr (.inr ⟨z,i,c,rx.str,ry.int,mil hz,ez,k _ _ _ hw (Same.refl _) rfl⟩)
 · exact hw.elim
theorem a1w (ha:QE T K F a pa)(hb:QE T K F b pb)(hs:a6Q b:=by exact fun _ _=>rfl)(hK:∀z,(F z).K=K:=by intro _;rfl):QE T K F (.Subscript a b pos) (qOp wIx pa pb):=by
 obtain⟨ta,h1,h2⟩:=ha;obtain⟨tb,h3,h4⟩:=hb.r;exact⟨_,fun z=>a3w (hK z▸ix_seq) (h1 z) (h3 z) hs,a6d W2.ix h2 h4⟩
abbrev pO:=Env→Nat→(Option Int→Env→Nat→Prop)→Prop
def qNo:pO:=fun env n R=>R none env n
def a3R (pe:pE):pO:=fun env n R=>pe env n fun x env1 n1=>match x with | .int i=>R (some i) env1 n1 | _=>False
def OOk (K:PySem.W.Frag)(T:PotK)(t:TO)(po:pO):Prop:=∀(C:Ct) (G:Gh) (σ:St) (H:Hp) (env:Env) (n:Nat) (R:Option Int→Env→Nat→Prop) (Q:Option Int→Hp→Prop),C.K=K→C.T=T→SR C G σ H env n→po env n R→
 (∀x env' n' H',R x env' n'→SR C G σ H' env' n'→Fr G H H'→Q x H')→t σ H Q
def QO {ι:Type}(T:PotK)(K:PySem.W.Frag)(F:ι→Cx)(e:Option Expr)(po:pO):Prop:=∃t,(∀z,PO (F z) e t)∧OOk K T t po
theorem a7a:QO T K F none qNo:=⟨_,fun _=>a5N,fun C G σ H env n R Q hK hT S hp k=>k _ _ _ _ hp S Fr.refl⟩
theorem a2Q (h:QE T K F e pe):QO T K F (some e) (a3R pe):=by
 obtain⟨t,h1,h2⟩:=h;refine⟨_,fun z=>a5M (h1 z),fun C G σ H env n R Q hK hT S hp k=>?_⟩;refine h2 C G σ H env n _ _ hK hT S hp fun x env1 n1 v H1 p1 S1 r1 f1=>?_;cases x with
 | int i=>exact⟨i,r1,k _ _ _ _ p1 S1 f1⟩
 | _=>exact p1.elim
def cutP {α:Type}(xs:List α)(lo hi:Option Int):List α:=(xs.drop (HT.sIx xs.length 0 lo)).take (HT.sIx xs.length xs.length hi - HT.sIx xs.length 0 lo)
theorem Reps.cut {K:PySem.W.Frag}{G:Gh}{H:Hp}{xs:List PV}{vs:List V}(r:Reps K G H xs vs)(lo hi:Option Int):Reps K G H (cutP xs lo hi) (cutV vs lo hi):=by
 unfold cutP cutV;rw [← r.length];exact(r.drop _).take _
def wSl (x:PV)(lo hi:Option Int)(R:PV→Prop):Prop:=match x with
 | .lst xs=>R (.lst (cutP xs lo hi))
 | .scr ns=>R (.lst ((cutP ns lo hi).map PV.int))
 | .tup xs=>R (.tup (cutP xs lo hi))
 | .str z=>z.length≤1000000∧R (.str (Txt.slice z lo hi))
 | _=>False
def qSl (pe:pE)(pl ph:pO):pE:=fun env n R=>pe env n fun x env1 n1=>pl env1 n1 fun lo env2 n2=>ph env2 n2 fun hi env3 n3=>wSl x lo hi fun z=>R z env3 n3
theorem a2e {K:PySem.W.Frag}{G:Gh}{H:Hp}:∀ns:List Int,Reps K G H (ns.map PV.int) (ns.map V.int)
 | []=>rfl
 | i::ns=>⟨.int i,ns.map V.int,rfl,rfl,a2e ns⟩
theorem a9j {α β:Type}(f:α→β)(xs:List α)(lo hi:Option Int):cutP (xs.map f) lo hi=(cutP xs lo hi).map f:=by
 unfold cutP;rw [List.length_map,List.map_take,List.map_drop]
theorem sl_ok {K:PySem.W.Frag}{G:Gh}{H:Hp}{x:PV}{v:V}{lo hi:Option Int}{R:PV→Prop}{Q:VK}(hf:∀p,H p=none→p∉G.M)(rx:RdV K G H x v)(hw:wSl x lo hi R)(k:∀z v' H',R z→Same H H'→Rep K G H' z v'→Q v' H') :
   rSlL K v lo hi H Q∨rSlTA K v lo hi H Q∨rSlS v lo hi H Q:=by
 unfold wSl at hw
 split at hw
 · obtain⟨a,vs,ev,hq,r⟩:=rx.lst;exact .inl ⟨a,vs,ev,hq,fun p hp=>k _ _ _ hw (Same.lay1 hp) (a1M (hf p hp) hp (r.cut lo hi))⟩
 · rename_i ns;obtain⟨a,ev,hq⟩:=a3q rx;refine .inl ⟨a,_,ev,hq,fun p hp=>k _ _ _ hw (Same.lay1 hp) (a1M (hf p hp) hp ?_)⟩;have:=(a2e (K:=K) (G:=G) (H:=H) ns).cut lo hi;rw [a9j] at this;exact this
 · obtain⟨a,vs,ev,t,r⟩:=rx.rep (fun _ z=>nomatch z);refine .inr (.inl ⟨a,vs,ev,t.sq,fun z=>k _ _ _ hw (Same.refl _) ?_,fun p hp=>k _ _ _ hw (Same.lay1 hp) (a1L (hf p hp) hp (r.cut lo hi))⟩);have rc:=r.cut lo hi;rw [z] at rc;exact⟨a,vs,rfl,t,rc⟩
 · exact .inr (.inr ⟨_,rx.str,mil hw.1,k _ _ _ hw.2 (Same.refl _) rfl⟩)
 · exact hw.elim
theorem a7c {lo hi:Option Expr}{p2:Pos}{ql qh:pO}(he:QE T K F e pe)(hl:QO T K F lo ql)(hh:QO T K F hi qh)(hK:∀z,(F z).K=K:=by intro _;rfl):QE T K F (.Subscript e (.Slice lo hi none p2) pos) (qSl pe ql qh):=by
 obtain⟨t,h1,h2⟩:=he;obtain⟨tl,l1,l2⟩:=hl;obtain⟨th,u1,u2⟩:=hh;refine⟨_,fun z=>a4s ((hK z▸a5p).or ((hK z▸a8p).or sl_str)) (h1 z) (l1 z) (u1 z),fun C G σ H env n R Q hK hT S hp k=>?_⟩;refine h2 C G σ H env n _ _ hK hT S hp fun x env1 n1 v H1 p1 S1 r1 f1=>?_;refine l2 C G σ H1 env1 n1 _ _ hK hT S1 p1 fun lo env2 n2 H2 p2 S2 f2=>?_;refine u2 C G σ H2 env2 n2 _ _ hK hT S2 p2 fun hi env3 n3 H3 p3 S3 f3=>?_;exact sl_ok (fun p hp=>S3.fresh hp) (.inl ((r1.fr f2).fr f3)) p3 fun z v' H' rz s rv=>k _ _ _ _ _ rz (S3.same s) rv (((f1.trans f2).trans f3).trans (Fr.of s))
def WA1 (K:PySem.W.Frag)(r:List V→Hp→VK→Prop)(w:w1):Prop:=∀(G:Gh) (H:Hp) (x:PV) (v:V) (R:PV→Prop) (Q:VK),(∀p,H p=none→p∉G.M)→RdV K G H x v→w x R→
 (∀z v' H',R z→Same H H'→Rep K G H' z v'→Q v' H')→r [v] H Q
theorem a7U {K:PySem.W.Frag}{r:List V→Hp→VK→Prop}{w:w1}{t:TE}(hw:WA1 K r w)(h:ROk K T t pe):EOk K T (tCB r (a2c t tNil)) (qUn w pe):=fun C G σ H env n R Q hK hT S hp k=>by
 refine a6e h hK hT S hp fun x env1 n1 v H1 p1 S1 r1 f1=>?_;subst hK;exact hw G H1 x v _ _ (fun p hp=>S1.fresh hp) (r1.rd S1) p1 fun z v' H' rz s rv=>k _ _ _ _ _ rz (S1.same s) rv (f1.trans (Fr.of s))
theorem a5E {x:Str}{id:String}{r:List V→Hp→VK→Prop}{w:w1}{p:Pos}(hc:∀z,a0U (F z) (.builtin id) r)(hw:WA1 K r w)(hg:∀z,Gl (F z) x)(hm:∀z,(F z).mg x=none)(hv:bootBuiltins x=some (.builtin id))(ha:QR T K F e pe)(hs:a0p e=true:=by rfl)(hn:x≠"__name__":=by decide)(hdb:(x == ("__debug__":Str))=false:=by decide) :
   QE T K F (.Call (.Name x p) [e] [] pos) (qUn w pe):=by
 obtain⟨t,h1,h2⟩:=ha;exact⟨_,fun z=>a1n (hc z) (hg z) (hm z) hv (a0l (h1 z) a0z (a0c hs)) hn hdb (a0c hs),a7U hw h2⟩
theorem a7N {x:Str}{id:String}{r:List V→Hp→VK→Prop}{w:w1}{p:Pos}(hc:∀z,a0U (F z) (.type id) r)(hw:WA1 K r w)(hg:∀z,Gl (F z) x)(hm:∀z,(F z).mg x=none)(hv:bootBuiltins x=some (.type id))(ha:QR T K F e pe)(hs:a0p e=true:=by rfl)(hn:x≠"__name__":=by decide)(hdb:(x == ("__debug__":Str))=false:=by decide) :
   QE T K F (.Call (.Name x p) [e] [] pos) (qUn w pe):=by
 obtain⟨t,h1,h2⟩:=ha;exact⟨_,fun z=>a2i (hc z) (hg z) (hm z) hv (a0l (h1 z) a0z (a0c hs)) hn hdb (a0c hs),a7U hw h2⟩
def wLen:w1:=fun x R=>match x with
 | .lst xs=>R (.int xs.length)
 | .tup xs=>R (.int xs.length)
 | .scr xs=>R (.int xs.length)
 | .str z=>z.length≤1000000∧R (.int z.length)
 | _=>False
theorem WA1.len {K:PySem.W.Frag}:WA1 K (fun xs H Q=>(∃p ys,xs=[.ref p]∧(SqL K H p ys∨SqT K H p ys)∧Q (.int ys.length) H)∨∃z,xs=[.str z]∧z.length≤sizeLine∧Q (.int z.length) H) wLen:=by
 intro G H x v R Q hf rx hw k;unfold wLen at hw
 split at hw
 · obtain⟨a,vs,ev,hq,r⟩:=rx.lst;exact .inl ⟨a,vs,by rw [ev],.inl hq,k _ _ _ hw (Same.refl _) (by rw [r.length];rfl)⟩
 · obtain⟨a,vs,ev,hq,r⟩:=rx.tup;exact .inl ⟨a,vs,by rw [ev],.inr hq,k _ _ _ hw (Same.refl _) (by rw [r.length];rfl)⟩
 · obtain⟨a,ev,hq⟩:=a3q rx;exact .inl ⟨a,_,by rw [ev],.inl hq,k _ _ _ hw (Same.refl _) (by rw [List.length_map];rfl)⟩
 · exact .inr ⟨_,by rw [rx.str],mil hw.1,k _ _ _ hw.2 (Same.refl _) rfl⟩
 · exact hw.elim
theorem a1s {p:Pos}(hg:∀z,Gl (F z) "len")(hm:∀z,(F z).mg "len"=none)(ha:QR T K F e pe)(hs:a0p e=true:=by rfl)(hK:∀z,(F z).K=K:=by intro _;rfl):QE T K F (.Call (.Name "len" p) [e] [] pos) (qUn wLen pe):=a5E (fun z=>(hK z▸a1W).or a3I) WA1.len hg hm a8e ha hs
def wInt:w1:=fun x R=>match x with | .int i=>R (.int i) | .bl b=>R (.int (if b then 1 else 0)) | _=>False
theorem a4o {p:Pos}(hg:∀z,Gl (F z) "int")(hm:∀z,(F z).mg "int"=none)(ha:QR T K F e pe)(hs:a0p e=true:=by rfl):QE T K F (.Call (.Name "int" p) [e] [] pos) (qUn wInt pe):=a7N (fun _=>a3J) (fun G H x v R Q hf rx hw k=>by
 unfold wInt at hw
 split at hw
 · exact .inl ⟨_,by rw [rx.int],k _ _ _ hw (Same.refl _) rfl⟩
 · exact .inr ⟨_,by rw [rx.bl],k _ _ _ hw (Same.refl _) rfl⟩
 · exact hw.elim) hg hm a8f ha hs
def a1C:List PV→Option (List Bool)
 | []=>some []
 | .bl b::xs=>(a1C xs).map (b::·)
 | _=>none
theorem a2z {K:PySem.W.Frag}{G:Gh}{H:Hp}:∀{xs:List PV} {vs:List V} {bs:List Bool},a1C xs=some bs→Reps K G H xs vs→vs=bs.map V.bl
 | [],vs,bs,h,r=>by cases h;exact r
 | .bl b :: xs, vs, bs, h, r => by
   obtain⟨v,t,e,rv,rt⟩:=r;cases e1:a1C xs with
   | none=>simp [a1C,e1] at h
   | some cs =>
     have:b::cs=bs:=by simpa [a1C,e1] using h
     subst this;rw [e,show v=.bl b from rv,a2z e1 rt]
     rfl
 | .non::_,_,_,h,_=>by cases h
 | .int _::_,_,_,h,_=>by cases h
 | .str _::_,_,_,h,_=>by cases h
 | .ty _::_,_,_,h,_=>by cases h
 | .pot _::_,_,_,h,_=>by cases h
 | .tup _::_,_,_,h,_=>by cases h
 | .lst _::_,_,_,h,_=>by cases h
 | .dct _ _::_,_,_,h,_=>by cases h
 | .scr _::_,_,_,h,_=>by cases h
theorem a3k:∀bs:List Bool,a1C (bs.map PV.bl)=some bs
 | []=>rfl
 | b::bs=>by simp [a1C,a3k bs]
def wAll:w1:=fun x R=>match x with | .lst xs=>(match a1C xs with | some bs=>R (.bl (bs.all id)) | none=>False) | _=>False
theorem qe_all {p:Pos}(hc:∀z,(F z).calm=true)(hg:∀z,Gl (F z) "all")(hm:∀z,(F z).mg "all"=none)(ha:QR T K F e pe)(hs:a0p e=true:=by rfl)(hK:∀z,(F z).K=K:=by intro _;rfl):QE T K F (.Call (.Name "all" p) [e] [] pos) (qUn wAll pe):=a5E (fun z=>hK z▸a7z (hc z)) (fun G H x v R Q hf rx hw k=>by
 unfold wAll at hw
 split at hw
 · rename_i xs;obtain⟨a,vs,ev,hq,r⟩:=rx.lst
   split at hw
   · rename_i bs eb;exact⟨a,bs,by rw [ev],a2z eb r▸hq,k _ _ _ hw (Same.refl _) rfl⟩
   · exact hw.elim
 · exact hw.elim) hg hm bt_all ha hs
def a2y:w1:=fun x R=>match x with | .lst xs=>R (.tup xs) | .tup xs=>R (.tup xs) | _=>False
theorem a2U {p:Pos}(hg:∀z,Gl (F z) "tuple")(hm:∀z,(F z).mg "tuple"=none)(ha:QR T K F e pe)(hs:a0p e=true:=by rfl)(hK:∀z,(F z).K=K:=by intro _;rfl):QE T K F (.Call (.Name "tuple" p) [e] [] pos) (qUn a2y pe):=a7N (fun z=>hK z▸a3g) (fun G H x v R Q hf rx hw k=>by
 unfold a2y at hw
 split at hw
 · obtain⟨a,vs,ev,hq,r⟩:=rx.lst;exact⟨a,vs,by rw [ev],.inl ⟨hq,fun l hl=>k _ _ _ hw (Same.lay1 hl) (a1L (hf l hl) hl r)⟩⟩
 · obtain⟨a,vs,ev,t,r⟩:=rx.rep (fun _ z=>nomatch z);exact⟨a,vs,by rw [ev],.inr ⟨t.sq,k _ _ _ hw (Same.refl _) ⟨a,vs,rfl,t,r⟩⟩⟩
 · exact hw.elim) hg hm a7A ha hs
def a8D (pe:pE):pA:=fun env n R=>pe env n fun x env1 n1=>match x with | .lst xs=>R xs env1 n1 | .tup xs=>R xs env1 n1 | .scr ns=>R (ns.map PV.int) env1 n1 | _=>False
theorem a8u {p:Pos}(hg:∀z,Gl (F z) "list")(hm:∀z,(F z).mg "list"=none)(ha:QR T K F e pe)(hs:a0p e=true:=by rfl)(hK:∀z,(F z).K=K:=by intro _;rfl):QN T K F (.Call (.Name "list" p) [e] [] pos) (a8D pe):=by
 obtain⟨t,h1,h2⟩:=ha;refine⟨_,fun z=>a2i (hK z▸a3H) (hg z) (hm z) a9l (a0l (h1 z) a0z (a0c hs)) (by decide) (by decide) (a0c hs),fun C G σ H env n R Q hK hT S hp k=>?_⟩;refine a6e h2 hK hT S hp fun x env1 n1 v H1 p1 S1 r1 f1=>?_;have rd:RdV K G H1 x v:=hK▸r1.rd S1;cases x with
 | lst xs =>
   obtain⟨a,vs,ev,hq,r⟩:=rd.lst;exact⟨a,vs,by rw [ev],.inl hq,fun l hl=>k _ _ _ _ _ _ p1 S1 f1 hl r⟩
 | tup xs =>
   obtain⟨a,vs,ev,hq,r⟩:=rd.tup;exact⟨a,vs,by rw [ev],.inr hq,fun l hl=>k _ _ _ _ _ _ p1 S1 f1 hl r⟩
 | scr ns =>
   obtain⟨a,ev,hq⟩:=a3q rd;exact⟨a,_,by rw [ev],.inl hq,fun l hl=>k _ _ _ _ _ _ p1 S1 f1 hl (a2e ns)⟩
 | _=>exact p1.elim
def wMin:w2:=fun x y R=>match x,y with | .int i,.int j=>R (.int (if j < i then j else i)) | _,_=>False
def wMax:w2:=fun x y R=>match x,y with | .int i,.int j=>R (.int (if j > i then j else i)) | _,_=>False
theorem a7T {K:PySem.W.Frag}{r:List V→Hp→VK→Prop}{w:w2}{t u:TE}(hw:W2 K (fun x y H Q=>r [x,y] H Q) w)(h:EOk K T t pa)(h':EOk K T u pb):EOk K T (tCB r (a2c t (a2c u tNil))) (qOp w pa pb):=fun C G σ H env n R Q hK hT S hp k=>by
 refine h C G σ H env n _ _ hK hT S hp fun x env1 n1 v H1 p1 S1 r1 f1=>?_;refine h' C G σ H1 env1 n1 _ _ hK hT S1 p1 fun y env2 n2 u H2 p2 S2 r2 f2=>?_;exact hw G H2 x y v u _ _ (fun p hp=>S2.fresh hp) (.inl (r1.fr f2)) (.inl r2) p2 fun z v' H' rz s rv=>k _ _ _ _ _ rz (S2.same s) rv ((f1.trans f2).trans (Fr.of s))
theorem a7M {p:Pos}(hc:∀z,(F z).calm=true)(hg:∀z,Gl (F z) "min")(hm:∀z,(F z).mg "min"=none)(ha:QE T K F a pa)(hb:QE T K F b pb)(hs:a0p a=true:=by rfl)(hs2:a0p b=true:=by rfl):QE T K F (.Call (.Name "min" p) [a,b] [] pos) (qOp wMin pa pb):=by
 obtain⟨t,h1,h2⟩:=ha;obtain⟨u,h3,h4⟩:=hb;refine⟨_,fun z=>a1n (a6K (hc z)) (hg z) (hm z) bt_min (a0l (h1 z) (a0l (h3 z) a0z (a0c hs2)) (a0c hs)) (by decide) (by decide) (a0c hs) (by rw [a0c hs2];rfl),a7T (fun G H x y v u R Q hf rx ry hw k=>?_) h2 h4⟩;unfold wMin at hw
 split at hw
 · exact⟨_,_,by rw [rx.int,ry.int],k _ _ _ hw (Same.refl _) rfl⟩
 · exact hw.elim
theorem qe_max {p:Pos}(hc:∀z,(F z).calm=true)(hg:∀z,Gl (F z) "max")(hm:∀z,(F z).mg "max"=none)(ha:QE T K F a pa)(hb:QE T K F b pb)(hs:a0p a=true:=by rfl)(hs2:a0p b=true:=by rfl):QE T K F (.Call (.Name "max" p) [a,b] [] pos) (qOp wMax pa pb):=by
 obtain⟨t,h1,h2⟩:=ha;obtain⟨u,h3,h4⟩:=hb;refine⟨_,fun z=>a1n (a6L (hc z)) (hg z) (hm z) bt_max (a0l (h1 z) (a0l (h3 z) a0z (a0c hs2)) (a0c hs)) (by decide) (by decide) (a0c hs) (by rw [a0c hs2];rfl),a7T (fun G H x y v u R Q hf rx ry hw k=>?_) h2 h4⟩;unfold wMax at hw
 split at hw
 · exact⟨_,_,by rw [rx.int,ry.int],k _ _ _ hw (Same.refl _) rfl⟩
 · exact hw.elim
def a0w (K:PySem.W.Frag)(T:PotK)(f:pF):Sp:=fun vs H Q _=>∃(G:Gh) (xs:List PV) (n:Nat) (R:PV→Nat→Prop),(∀p∈G.pots,p∈G.M∧T.at_ G.M H p n)∧(∀a∈G.M,∃o,H a=some o∧MutO o)∧Reps K G H xs vs∧f xs n R∧
 ∀r n' v H',R r n'→Rep K G H' r v→(∀p∈G.pots,T.at_ G.M H' p n')→(∀b o,b∉G.pots→H b=some o→H' b=some o)→Q v H'
def a0D (f:pF)(pa:pA):pE:=fun env n R=>pa env n fun xs env1 n1=>f xs n1 fun r n2=>R r env1 n2
theorem SR.call {C:Ct}{G:Gh}{σ:St}{H H':Hp}{env:Env}{n n':Nat}(S:SR C G σ H env n)(hk:∀b o,b∉G.pots→H b=some o→H' b=some o)(hp:∀p∈G.pots,C.T.at_ G.M H' p n'):SR C G σ H' env n' where
 frame b o hb e:=by
   by_cases hp:b∈G.pots
   · -- a pot that is new since the entry has no old object
     obtain⟨l,el,_⟩:=S.pre;rw [el] at hp;rcases List.mem_append.mp hp with z | z
     · exact absurd z hb
     · have hM:=(S.pots b (by rw [el];exact hp)).1;rcases S.sub b hM with z2 | z2
       · exact(S.newp b (by rw [el];exact hp) hb z2).elim
       · rw [z2] at e;cases e
   · exact hk b o hp (S.frame b o hb e)
 sub:=S.sub
 sup:=S.sup
 pots p h:=⟨(S.pots p h).1,hp p h⟩
 pre:=S.pre
 mu a ha:=by
   by_cases h:a∈G.pots
   · exact C.T.mu (hp a h)
   · obtain⟨o,e,m⟩:=S.mu a ha;exact⟨o,hk a o h e,m⟩
 slots i x e:=by
   have f:Fr G H H':=fun b o hb he=>hk b o (fun z=>hb (S.pots b z).1) he;have:=S.slots i x e;cases x with
   | v x =>
     obtain⟨v,e1,r⟩:=this;exact⟨v,e1,r.fr f⟩
   | ow kk xs =>
     obtain⟨a,vs,e1,h1,h2,h3,h4,r⟩:=this;exact⟨a,vs,e1,h1,h2,h3,hk _ _ h3 h4,r.fr f⟩
 inj:=S.inj
 p0:=S.p0
 len:=S.len
 newp:=S.newp
theorem a0J {x:Str}{p:Pos}{f:pF}{ps:List Str}{k j:Nat}(hG:∀z,Kn (F z).prog (F z).w (F z).K (F z).mg (F z).base x k ps (a0w K T f))(hr:∀z,Room j (F z).A)(hk:k≤j)(hg:∀z,Gl (F z) x)(ha:QA T K F (e::es) pl)(hdb:(x == ("__debug__":Str))=false:=by decide)
   (hs:a0p e=true:=by rfl) (hpl:∀z,(backTo pos (starEach es (F z).env)).any (·.1)=false:=by intro _;rfl):QE T K F (.Call (.Name x p) (e::es) [] pos) (a0D f pl):=by
 obtain⟨t,h1,h2⟩:=ha;refine⟨_,fun z=>pe_fn (hG z) (hr z) hk (hg z) (h1 z) hdb (a0c hs) (hpl z),fun C G σ H env n R Q hK hT S hp k=>?_⟩;refine h2 C G σ H env n _ _ hK hT S hp fun xs env1 n1 vs H1 p1 S1 r1 f1=>?_;subst hT;rw [List.append_nil];refine⟨G,xs,n1,_,fun p hp=>S1.pots p hp,S1.mu,r1,p1,fun r n' v H' rr rv hp hk'=>?_⟩;exact k _ _ _ _ _ rr (S1.call hk' hp) rv (f1.trans fun b o hb e=>hk' b o (fun z=>hb (S1.pots b z).1) e)
end
end Pu
end
section
set_option maxHeartbeats 1000000
namespace Pu
open PySem PySem.Spec L2
abbrev pG:=PV→Env→(Env→Prop)→Prop
abbrev pGs:=List PV→Env→(Env→Prop)→Prop
def GOk (K:PySem.W.Frag)(g:TG)(pg:pG):Prop:=∀(C:Ct) (G:Gh) (σ:St) (H:Hp) (env:Env) (n:Nat) (x:PV) (v:V) (R:Env→Prop) (Q:St→Hp→Prop),C.K=K→SR C G σ H env n→Rep K G H x v→pg x env R→
 (∀env' σ',R env'→SR C G σ' H env' n→Q σ' H)→g v σ H Q
def GsOk (K:PySem.W.Frag)(g:TGs)(pg:pGs):Prop:=∀(C:Ct) (G:Gh) (σ:St) (H:Hp) (env:Env) (n:Nat) (x:List PV) (v:List V) (R:Env→Prop) (Q:St→Hp→Prop),C.K=K→SR C G σ H env n→Reps K G H x v→pg x env R→
 (∀env' σ',R env'→SR C G σ' H env' n→Q σ' H)→g v σ H Q
def QG {ι:Type}(K:PySem.W.Frag)(F:ι→Cx)(e:Expr)(pg:pG):Prop:=∃g,(∀z,PG (F z) e g)∧GOk K g pg
def QGs {ι:Type}(K:PySem.W.Frag)(F:ι→Cx)(e:List Expr)(pg:pGs):Prop:=∃g,(∀z,PGs (F z) e g)∧GsOk K g pg
def gN (i:Nat):pG:=fun x env R=>R (env.set i (some (.v x)))
def gNl:pGs:=fun xs env R=>match xs with | []=>R env | _=>False
def gCn (g:pG)(r:pGs):pGs:=fun xs env R=>match xs with | x::xs=>g x env fun env1=>r xs env1 R | []=>False
def gTp (k:Nat)(g:pGs):pG:=fun x env R=>match x with | .tup xs=>xs.length=k∧g xs env R | _=>False
theorem SR.set {C:Ct}{G:Gh}{σ:St}{H:Hp}{env:Env}{n:Nat}(S:SR C G σ H env n)(i:Nat){x:PV}{v:V}(r:Rep C.K G H x v):SR C G (σ.set i (some v)) H (env.set i (some (.v x))) n where
 frame:=S.frame
 sub:=S.sub
 sup:=S.sup
 pots:=S.pots
 pre:=S.pre
 mu:=S.mu
 slots j s e:=by
   by_cases h:i=j
   · subst h
     by_cases hl:i < env.length
     · rw [List.getElem?_set_self hl] at e;cases e;exact⟨v,by rw [List.getElem?_set_self (by rw [← S.len];exact hl)],r⟩
     · rw [List.getElem?_eq_none (by rw [List.length_set];omega)] at e;cases e
   · rw [List.getElem?_set_ne h] at e ⊢;exact S.slots j s e
 inj j k xs ys a e1 e2 e3 e4:=by
   have nj:∀(j:Nat) (xs:OK×List PV),(env.set i (some (.v x)))[j]?=some (some (Slot.ow xs.1 xs.2))→i≠j:=by
     intro j xs e h;subst h
     by_cases hl:i < env.length
     · rw [List.getElem?_set_self hl] at e;cases e
     · rw [List.getElem?_eq_none (by rw [List.length_set];omega)] at e;cases e
   have n1:=nj j xs e1;have n2:=nj k ys e2;rw [List.getElem?_set_ne n1] at e1 e3;rw [List.getElem?_set_ne n2] at e2 e4;exact S.inj j k xs ys a e1 e2 e3 e4
 p0:=S.p0
 len:=by rw [List.length_set,List.length_set];exact S.len
 newp:=S.newp
section
variable {T:PotK}{ι:Type}{K:PySem.W.Frag}{F:ι→Cx}{e a b c:Expr}{es rest:List Expr}{pe pa pb pc:pE}{pos:Pos}{pl pr:pA}{pg:pG}{pgs:pGs}{pt:pT}
theorem a0t {X:Cx}(i:Nat){x:Str}{pos:Pos}(hN:X.N.Nodup)(hi:X.N[i]?=some x)(hx:Loc X.env.scope x)(hf:X.fn x=true∨X.env.scope.names.lookup x=some .local:=by first | exact .inl rfl | exact .inr rfl | assumption):GW X (.Name x pos) (a1K i):=⟨a5T hN hi hx hf⟩
theorem a0r {i:Nat}{x:Str}(h:∀z,GW (F z) (.Name x pos) (a1K i)):QG K F (.Name x pos) (gN i):=⟨_,fun z=>(h z).h,fun C G σ H env n x v R Q hK S r hp k=>k _ _ hp (S.set i (hK▸r))⟩
theorem a2T:QGs K F [] gNl:=⟨_,fun _=>a5R,fun C G σ H env n x v R Q hK S r hp k=>by
 cases x with
 | nil=>exact⟨r,k _ _ hp S⟩
 | cons _ _=>exact hp.elim⟩
theorem a0N (h1:QG K F e pg)(h2:QGs K F es pgs)(hs:∀z,(assignEach (e::es) (F z).env).map (·.2)=assign e (F z).env::(assignEach es (F z).env).map (·.2):=by intro _;rfl):QGs K F (e::es) (gCn pg pgs):=by
 obtain⟨g,a1,a2⟩:=h1;obtain⟨gs,b1,b2⟩:=h2;refine⟨_,fun z=>a3a (a1 z) (b1 z) (hs z),fun C G σ H env n x v R Q hK S r hp k=>?_⟩;cases x with
 | nil=>exact hp.elim
 | cons x xs =>
   obtain⟨u,us,rfl,ru,rs⟩:=r;exact⟨u,us,rfl,a2 C G σ H env n x u _ _ hK S ru hp fun env' σ' re S'=>b2 C G σ' H env' n xs us _ _ hK S' rs re k⟩
theorem a4n {m:Nat}{k:Nat}(hc:∀z,(F z).calm=true)(h:QGs K F es pgs)(hn:∀z,(assignEach es (F z).env).length=m:=by intro _;rfl)(hst:∀z,(assignEach es (F z).env).findIdx? (·.1)=none:=by intro _;rfl)(hK:∀z,(F z).K=K:=by intro _;rfl):QG K F (.Tuple es k pos) (gTp m pgs):=by
 obtain⟨g,a1,a2⟩:=h;refine⟨_,fun z=>hK z▸a7P (hc z) (a1 z) (hn z) (hst z),fun C G σ H env n x v R Q hK S r hp k=>?_⟩;cases x with
 | tup xs =>
   obtain⟨a,vs,rfl,t,rs⟩:=r;exact⟨a,vs,rfl,t.sq,by rw [← rs.length];exact hp.1,a2 C G σ H env n xs vs _ _ hK S rs hp.2 k⟩
 | _=>exact hp.elim
def ItR (K:PySem.W.Frag)(G:Gh)(H:Hp)(J:It)(xs:List PV):Prop:=∀(G2:Gh) (H2:Hp),(∀b o,b∉G.M→H b=some o→H2 b=some o)→(∀a∈G2.M,a∈G.M∨H a=none)→(∀(k:Nat) (p:Addr),G.pots[k]?=some p→G2.pots[k]?=some p)→(∀p,H2 p=none→p∉G2.M)→
 (∀(i:Nat) x,xs[i]?=some x→J.go i H2∧∀v H3,J.yld i H2 v H3→Same H2 H3∧Rep K G2 H3 x v)∧∀i,xs.length≤i→J.stop i H2
def IOk (K:PySem.W.Frag)(T:PotK)(wi:TI)(pi:pA):Prop:=∀(C:Ct) (G:Gh) (σ:St) (H:Hp) (env:Env) (n:Nat) (R:List PV→Env→Nat→Prop) (Q:It→Hp→Prop),C.K=K→C.T=T→SR C G σ H env n→pi env n R→
 (∀xs env' n' J H',R xs env' n'→SR C G σ H' env' n'→Fr G H H'→ItR K G H' J xs→Q J H')→wi σ H Q
def QI {ι:Type}(T:PotK)(K:PySem.W.Frag)(F:ι→Cx)(tg iter:Expr)(pi:pA):Prop:=∃wi,(∀z,PI (F z) tg iter wi)∧IOk K T wi pi
variable {tg:Expr}
theorem a7t {K:PySem.W.Frag}{G:Gh}{H:Hp}{a:Addr}{xs:List PV}{vs:List V}(t:AtL G.M H a vs)(r:Reps K G H xs vs):ItR K G H (Itl K a) xs:=by
 intro G2 H2 hk hM hp hf;have hq:SqL K H2 a vs:=SqL.of (hk a _ t.1 t.2);have r2:Reps K G2 H2 xs vs:=Reps.mono hk hM hp _ _ r;refine⟨fun i x e=>?_,fun i hi=>⟨vs,hq,by rw [← r.length];exact hi⟩⟩;obtain⟨v,ev,rv⟩:=r2.get' e;refine⟨⟨vs,v,hq,ev⟩,fun v' H3 y=>?_⟩;obtain⟨e3,y⟩:=y;subst e3;have:=y vs hq;rw [ev] at this;cases this;exact⟨Same.refl _,rv⟩
theorem a8Z {K:PySem.W.Frag}{G:Gh}{H:Hp}{a:Addr}{xs:List PV}{vs:List V}(t:AtT G.M H a vs)(r:Reps K G H xs vs):ItR K G H (Itt K a) xs:=by
 intro G2 H2 hk hM hp hf;have hq:SqT K H2 a vs:=SqT.of (hk a _ t.1 t.2);have r2:Reps K G2 H2 xs vs:=Reps.mono hk hM hp _ _ r;refine⟨fun i x e=>?_,fun i hi=>⟨vs,hq,by rw [← r.length];exact hi⟩⟩;obtain⟨v,ev,rv⟩:=r2.get' e;refine⟨⟨vs,v,hq,ev⟩,fun v' H3 y=>?_⟩;obtain⟨e3,y⟩:=y;subst e3;have:=y vs hq;rw [ev] at this;cases this;exact⟨Same.refl _,rv⟩
def qIl (pe:pE):pA:=fun env n R=>pe env n fun x env1 n1=>match x with | .lst xs=>R xs env1 n1 | _=>False
def qIt (pe:pE):pA:=fun env n R=>pe env n fun x env1 n1=>match x with | .tup xs=>R xs env1 n1 | _=>False
theorem a2S (h:QE T K F e pe)(hK:∀z,(F z).K=K:=by intro _;rfl):QI T K F tg e (qIl pe):=by
 obtain⟨t,h1,h2⟩:=h;refine⟨_,fun z=>hK z▸a5Q (h1 z),fun C G σ H env n R Q hK hT S hp k=>?_⟩;refine h2 C G σ H env n _ _ hK hT S hp fun x env1 n1 v H1 p1 S1 r1 f1=>?_;cases x with
 | lst xs =>
   obtain⟨a,vs,rfl,t,r⟩:=r1;exact⟨a,rfl,⟨vs,t.sq⟩,k _ _ _ _ _ p1 S1 f1 (a7t t r)⟩
 | _=>exact p1.elim
theorem a5B (h:QE T K F e pe)(hK:∀z,(F z).K=K:=by intro _;rfl):QI T K F tg e (qIt pe):=by
 obtain⟨t,h1,h2⟩:=h;refine⟨_,fun z=>hK z▸pi_tup (h1 z),fun C G σ H env n R Q hK hT S hp k=>?_⟩;refine h2 C G σ H env n _ _ hK hT S hp fun x env1 n1 v H1 p1 S1 r1 f1=>?_;cases x with
 | tup xs =>
   obtain⟨a,vs,rfl,t,r⟩:=r1;exact⟨a,rfl,⟨vs,t.sq⟩,k _ _ _ _ _ p1 S1 f1 (a8Z t r)⟩
 | _=>exact p1.elim
theorem a3B {K:PySem.W.Frag}{G:Gh}{H:Hp}(lo:Int)(m:Nat):ItR K G H (Itr lo m) ((List.range m).map fun(k:Nat)=>PV.int (lo + k)):=by
 intro G2 H2 hk hM hp hf;refine⟨fun i x e=>?_,fun i hi=>(show m≤i by simpa using hi)⟩;rw [List.getElem?_map] at e;cases e1:(List.range m)[i]? with
 | none=>rw [e1] at e;cases e
 | some j =>
   rw [e1] at e;cases e;obtain⟨hi,e2⟩:=List.getElem?_eq_some_iff.mp e1;rw [List.getElem_range] at e2;subst e2;refine⟨(show i < m by simpa using hi),fun v H3 y=>?_⟩;obtain⟨e3,y⟩:=y;subst e3 y;exact⟨Same.refl _,rfl⟩
def a2V (pe:pE):pA:=fun env n R=>pe env n fun x env1 n1=>match x with | .int j=>(-1000000≤j∧j≤1000000)∧R ((List.range j.toNat).map fun(k:Nat)=>PV.int (0 + k)) env1 n1 | _=>False
theorem a0M {p:Pos}(hg:∀z,Gl (F z) "range")(hm:∀z,(F z).mg "range"=none)(h:QE T K F e pe)(hs:a0p e=true:=by rfl):QI T K F tg (.Call (.Name "range" p) [e] [] pos) (a2V pe):=by
 obtain⟨t,h1,h2⟩:=h;refine⟨_,fun z=>a5P (hg z) (hm z) (a0l (h1 z) a0z (a0c hs)) (by rw [a0c hs];rfl),fun C G σ H env n R Q hK hT S hp k=>?_⟩;refine a6e (pe:=pe) (fun C G σ H env n R Q hK hT S hp k=>h2 C G σ H env n R Q hK hT S hp fun x env' n' v H' r S' rp f=>k x env' n' v H' r S' (.inl (hK▸rp)) f) hK hT S hp fun x env1 n1 v H1 p1 S1 r1 f1=>?_;cases x with
 | int j=>exact⟨j,by rw [(r1.rd S1).int],by omega,by omega,k _ _ _ _ _ p1.2 S1 f1 (a3B 0 _)⟩
 | _=>exact p1.elim
def a8A (pa pb:pE):pA:=fun env n R=>pa env n fun x env1 n1=>pb env1 n1 fun y env2 n2=>match x,y with | .int i,.int j=>(-1000000≤i∧i≤1000000∧-1000000≤j∧j≤1000000)∧R ((List.range (j - i).toNat).map fun(k:Nat)=>PV.int (i + k)) env2 n2 | _,_=>False
theorem a5C {p:Pos}(hg:∀z,Gl (F z) "range")(hm:∀z,(F z).mg "range"=none)(ha:QE T K F a pa)(hb:QE T K F b pb)(hs:a0p a=true:=by rfl)(hs2:a0p b=true:=by rfl):QI T K F tg (.Call (.Name "range" p) [a,b] [] pos) (a8A pa pb):=by
 obtain⟨t,h1,h2⟩:=ha;obtain⟨u,h3,h4⟩:=hb;refine⟨_,fun z=>a5O (hg z) (hm z) (a0l (h1 z) (a0l (h3 z) a0z (a0c hs2)) (a0c hs)) (by rw [a0c hs,a0c hs2];rfl) (by rw [a0c hs2];rfl),fun C G σ H env n R Q hK hT S hp k=>?_⟩;refine h2 C G σ H env n _ _ hK hT S hp fun x env1 n1 v H1 p1 S1 r1 f1=>?_;refine h4 C G σ H1 env1 n1 _ _ hK hT S1 p1 fun y env2 n2 w H2 p2 S2 r2 f2=>?_;cases x with
 | int i =>
   cases y with
   | int j=>exact⟨i,j,by rw [show v=.int i from r1,show w=.int j from r2],⟨by omega,by omega,by omega,by omega⟩,k _ _ _ _ _ p2.2 S2 (f1.trans f2) (a3B i _)⟩
   | _=>exact p2.elim
 | _=>exact p2.elim
def a6B (xs:List PV):List PV:=xs.zipIdx.map fun y=>.tup [.int (y.2:Nat),y.1]
def a8E (pe:pE):pA:=fun env n R=>pe env n fun x env1 n1=>match x with | .lst xs=>R (a6B xs) env1 n1 | _=>False
theorem a6A {xs:List PV}{i:Nat}{x:PV}(h:(a6B xs)[i]?=some x):∃y,xs[i]?=some y∧x=.tup [.int (i:Nat),y]:=by
 unfold a6B at h;rw [List.getElem?_map,List.getElem?_zipIdx] at h;cases e:xs[i]? with
 | none=>rw [e] at h;cases h
 | some y =>
   rw [e] at h;cases h;exact⟨y,rfl,by simp⟩
theorem a3D (xs:List PV):(a6B xs).length=xs.length:=by unfold a6B;simp
theorem a8w {p:Pos}{elts:List Expr}{x1:Nat}{tpos:Pos}(hg:∀z,Gl (F z) "enumerate")(hm:∀z,(F z).mg "enumerate"=none)(h:QE T K F e pe)(hs:a0p e=true:=by rfl)(hK:∀z,(F z).K=K:=by intro _;rfl):QI T K F (.Tuple elts x1 tpos) (.Call (.Name "enumerate" p) [e] [] pos) (a8E pe):=by
 obtain⟨t,h1,h2⟩:=h;refine⟨_,fun z=>hK z▸a8J (hg z) (hm z) (a0l (h1 z) a0z (a0c hs)) (by rw [a0c hs];rfl),fun C G σ H env n R Q hK hT S hp k=>?_⟩;refine h2 C G σ H env n _ _ hK hT S hp fun x env1 n1 v H1 p1 S1 r1 f1=>?_;cases x with
 | lst xs =>
   obtain⟨a,vs,rfl,t,r⟩:=r1;refine⟨a,rfl,⟨vs,t.sq⟩,k _ _ _ _ _ p1 S1 f1 ?_⟩;intro G2 H2 hk hM hp hf;have hq:SqL K H2 a vs:=SqL.of (hk a _ t.1 t.2);have r2:Reps K G2 H2 xs vs:=Reps.mono hk hM hp _ _ r;refine⟨fun i x e=>?_,fun i hi=>⟨vs,hq,by rw [← r.length,← a3D];exact hi⟩⟩;obtain⟨y,ey,rfl⟩:=a6A e;obtain⟨v,ev,rv⟩:=r2.get' ey;refine⟨⟨vs,v,hq,ev⟩,fun v' H3 y=>?_⟩;obtain⟨p,w,hn,rfl,rfl,y⟩:=y;have:=y vs hq;rw [ev] at this;cases this;exact⟨Same.lay1 hn,a1L (hf p hn) hn (.cons rfl (.one rv))⟩
 | _=>exact p1.elim
def capS:Option (Option Slot)→Option Slot
 | some (some (.v x))=>some (.v x)
 | _=>none
def capV (cs:List (Option Nat))(env:Env):Env:=cs.map fun o=>o.bind fun j=>capS (env[j]?)
def a3E (g:pG)(tt:pT)(te:pE):List PV→Env→Nat→(List PV→Nat→Prop)→Prop
 | [],_,n,R=>R [] n
 | x::xs,env,n,R=>g x env fun env1=>tt env1 n fun b env2 n2=>if b=true then te env2 n2 fun y env3 n3=>a3E g tt te xs env3 n3 fun ys n4=>R (y::ys) n4 else a3E g tt te xs env2 n2 R
def qTru:pT:=fun env n R=>R true env n
def a3T (cs:List (Option Nat))(pi:pA)(g:pG)(tt:pT)(te:pE):pA:=fun env n R=>pi env n fun xs env1 n1=>xs.length≤1000000∧a3E g tt te xs (capV cs env1) n1 fun ys n2=>R ys env1 n2
structure Inn (K:PySem.W.Frag)(T:PotK)(G:Gh)(σ:St)(H:Hp)(env:Env)(n:Nat):Prop where
 pots:∀p∈G.pots,p∈G.M∧T.at_ G.M H p n
 mu:∀a∈G.M,∃o,H a=some o∧MutO o
 slots:∀(i:Nat) (s:Slot),env[i]?=some (some s)→∃x v,s=.v x∧σ[i]?=some (some v)∧Rep K G H x v
 len:env.length=σ.length
theorem Inn.sr {K:PySem.W.Frag}{T:PotK}{G:Gh}{σ:St}{H:Hp}{env:Env}{n:Nat}(I:Inn K T G σ H env n):SR ⟨K,T,G.M,G.pots,H,false⟩ G σ H env n where
 frame b o _ e:=e
 sub a ha:=.inl ha
 sup a ha:=ha
 pots:=I.pots
 pre:=⟨[],by simp,.inl rfl⟩
 mu:=I.mu
 slots i s e:=by
   obtain⟨x,v,rfl,ev,r⟩:=I.slots i s e;exact⟨v,ev,r⟩
 inj i j xs ys a e1:=by
   obtain⟨x,v,z,_⟩:=I.slots i _ e1;cases z
 p0 p hp:=(I.pots p hp).1
 len:=I.len
 newp p hp hn:=absurd hp hn
theorem SR.inn {K:PySem.W.Frag}{T:PotK}{G:Gh}{σ:St}{H H0:Hp}{env:Env}{n:Nat}(S:SR ⟨K,T,G.M,G.pots,H0,false⟩ G σ H env n):Inn K T G σ H env n where
 pots:=S.pots
 mu:=S.mu
 slots i s e:=by
   cases s with
   | v x =>
     obtain⟨v,ev,r⟩:=S.slots i _ e;exact⟨x,v,rfl,ev,r⟩
   | ow kk xs =>
     obtain⟨a,vs,ev,h1,h2,_⟩:=S.slots i _ e;exact absurd h1 h2
 len:=S.len
theorem a8k {K:PySem.W.Frag}:TOk K T tTru qTru:=fun C G σ H env n R Q hK hT S hp k=>k _ _ _ _ hp S Fr.refl
theorem a6G {K:PySem.W.Frag}{T:PotK}{J:It}{g:TG}{tt:TT}{te:TE}{pg:pG}{ptt:pT}{pte:pE}(hg:GOk K g pg)(ht:TOk K T tt ptt)(he:EOk K T te pte){G:Gh}{H1:Hp}{xs:List PV}(hJ:ItR K G H1 J xs)(hl:xs.length≤1000000)
   {σc:St} {env:Env} {n:Nat} {R:List PV→Nat→Prop} {Q:VK} {D:Addr} (hD:H1 D=none) (I0:Inn K T G σc H1 env n) (hp:a3E pg ptt pte xs env n R)
   (hQ:∀ys n' us H',R ys n'→(∀p∈G.pots,T.at_ (D::G.M) H' p n')→(∀b o,b∉G.pots→H1 b=some o→H' b=some o)→H' D=some (.lst us)→Reps K ⟨D::G.M,G.pots⟩ H' ys us→Q (.ref D) H') :
   CompW J g tt te Q D σc (upd H1 D (.lst [])):=by
 have hDM:D∉G.M:=fun z=>by
   obtain⟨o,e,_⟩:=I0.mu D z;rw [hD] at e;cases e
 let GD:Gh:=⟨D::G.M,G.pots⟩
 refine⟨fun i m σ H=>m=xs.length - i∧i≤xs.length∧∃env n acc us,Inn K T GD σ H env n∧(∀b o,b∉G.pots→H1 b=some o→H b=some o)∧H D=some (.lst us)∧Reps K GD H acc us∧acc.length≤i∧a3E pg ptt pte (xs.drop i) env n fun ys n'=>R (acc++ys) n',?_,?_⟩
 · refine⟨xs.length,by simp,Nat.zero_le _,env,n,[],[],⟨fun p hp=>⟨List.mem_cons_of_mem _ (I0.pots p hp).1,?_⟩,fun a ha=>?_,fun i s e=>?_,I0.len⟩,fun b o _ e=>?_,a0i,rfl,Nat.le_refl _,by simpa using hp⟩
   · have h1:=T.more (M':=D::G.M) (I0.pots p hp).2 (fun a ha=>(List.mem_cons.mp ha).elim (fun z=>.inr (z▸hD)) .inl);refine T.keep h1 ?_ fun b o hb e=>Same.lay1 hD b o e;obtain⟨o,e,_⟩:=T.mu h1;rw [e,Same.lay1 hD p o e]
   · rcases List.mem_cons.mp ha with rfl | ha
     · exact⟨_,a0i,trivial⟩
     · obtain⟨o,e,m⟩:=I0.mu a ha;exact⟨o,Same.lay1 hD a o e,m⟩
   · obtain⟨x,v,rfl,ev,r⟩:=I0.slots i s e;exact⟨x,v,rfl,ev,Rep.mono (G':=GD) (H':=upd H1 D (.lst [])) (fun b o _ e=>Same.lay1 hD b o e) (fun a ha=>(List.mem_cons.mp (show a∈D::G.M from ha)).elim (fun z=>.inr (z▸hD)) .inl) (fun _ _ e=>e) _ _ r⟩
   · exact Same.lay1 hD b o e
 · rintro i m σ H ⟨rfl,hi,env,n,acc,us,I,kp,eD,ra,la,hc⟩
   have hf:∀p,H p=none→p∉GD.M:=fun p hp z=>by
     obtain⟨o,e,_⟩:=I.mu p z;rw [hp] at e;cases e
   have hk:∀b o,b∉G.M→H1 b=some o→H b=some o:=fun b o hb e=>kp b o (fun z=>hb (I0.pots b z).1) e;obtain⟨hgo,hstop⟩:=hJ GD H hk (fun a ha=>(List.mem_cons.mp (show a∈D::G.M from ha)).elim (fun z=>.inr (z▸hD)) .inl) (fun _ _ e=>e) hf
   by_cases hlt:i < xs.length
   · have ex:xs[i]?=some xs[i]:=List.getElem?_eq_getElem hlt;obtain⟨g1,g2⟩:=hgo i _ ex;refine .inr ⟨g1,fun v H2 y=>?_⟩;obtain⟨s2,rv⟩:=g2 v H2 y;rw [List.drop_eq_getElem_cons hlt] at hc;have S0:=I.sr;have S1:SR ⟨K,T,GD.M,GD.pots,H,false⟩ GD σ H2 env n:=S0.same s2;refine hg _ GD σ H2 env n xs[i] v _ _ rfl S1 rv hc fun env1 σ1 hc1 S2=>?_;refine ht _ GD σ1 H2 env1 n _ _ rfl rfl S2 hc1 fun b env2 n2 H4 hc2 S4 f4=>?_
     have pt:∀{H5:Hp} {env5:Env} {n5:Nat},SR ⟨K,T,GD.M,GD.pots,H,false⟩ GD σ1 H5 env5 n5→(∀b o,b∉G.pots→H1 b=some o→H5 b=some o)∧H5 D=some (.lst us):=fun S5=>by
       have nD:D∉G.pots:=fun z=>hDM (I0.pots D z).1;exact⟨fun b o hb e=>S5.frame b o hb (kp b o hb e),S5.frame D _ nD eD⟩
     cases b with
     | false =>
       obtain⟨k1,k2⟩:=pt S4;refine⟨xs.length - (i + 1),by omega,rfl,hlt,env2,n2,acc,us,S4.inn,k1,k2,?_,by omega,hc2⟩;exact Reps.mono (fun b o hb e=>S4.frame b o (fun z=>hb (List.mem_cons_of_mem _ (I0.pots b z).1)) e) (fun a ha=>.inl ha) (fun _ _ e=>e) _ _ ra
     | true =>
       refine he _ GD σ1 H4 env2 n2 _ _ rfl rfl S4 hc2 fun y env3 n3 u H5 hc3 S5 r5 f5=>?_;obtain⟨k1,k2⟩:=pt S5;have ra5:Reps K GD H5 acc us:=Reps.mono (fun b o hb e=>S5.frame b o (fun z=>hb (List.mem_cons_of_mem _ (I0.pots b z).1)) e) (fun a ha=>.inl ha) (fun _ _ e=>e) _ _ ra
       have fD:∀(o:HO),Fr GD H5 (upd H5 D o):=fun o b u hb e=>by
         rw [a0g (fun z=>hb (by rw [z];exact List.mem_cons_self))];exact e
       have I5:=S5.inn;refine⟨us,k2,?_,xs.length - (i + 1),by omega,rfl,hlt,env3,n3,acc++[y],us++[u],⟨fun p hp=>⟨(I5.pots p hp).1,?_⟩,fun a ha=>?_,fun j s e=>?_,I5.len⟩,fun b o hb e=>?_,a0i,(ra5.append (.one r5)).fr (fD _),by rw [List.length_append,List.length_singleton];omega,?_⟩
       · have:=ra.length;rw [← this];exact mil' (by omega)
       · have np:p≠D:=fun z=>hDM (by rw [← z];exact(I0.pots p hp).1);exact T.keep (I5.pots p hp).2 (a0g np) fun b o hb e=>fD _ b o hb e
       · by_cases haD:a=D
         · subst haD;exact⟨_,a0i,trivial⟩
         · obtain⟨o,e,m⟩:=I5.mu a ha;exact⟨o,by rw [a0g haD];exact e,m⟩
       · obtain⟨x,v,rfl,ev,r⟩:=I5.slots j s e;exact⟨x,v,rfl,ev,r.fr (fD _)⟩
       · have nb:b≠D:=fun z=>by rw [z,hD] at e;cases e
         rw [a0g nb];exact k1 b o hb e
       · simpa [List.append_assoc] using hc3
   · have ei:i=xs.length:=by omega
     subst ei;refine .inl ⟨hstop _ (Nat.le_refl _),?_⟩;rw [List.drop_length] at hc;exact hQ _ n us H (by simpa [a3E] using hc) (fun p hp=>(I.pots p hp).2) kp eD ra
end
end Pu
end
section
set_option maxHeartbeats 1000000
namespace Pu
open PySem PySem.Spec L2
section
variable {T:PotK}{ι:Type}{K:PySem.W.Frag}{F:ι→Cx}{e a b c:Expr}{es rest:List Expr}{pe pa pb pc:pE}{pos:Pos}{pl pr:pA}{pg:pG}{pgs:pGs}{pt:pT}
def QIf {ι:Type}(T:PotK)(K:PySem.W.Frag)(F:ι→Cx)(ifs:List Expr)(pt:pT):Prop:=∃t,(∀z,PIf (F z) ifs t)∧TOk K T t pt
theorem a2R:QIf T K F [] qTru:=⟨_,fun _=>a8I,a8k⟩
theorem a8v (h:QT T K F c pt):QIf T K F [c] pt:=let ⟨t,h1,h2⟩:=h;⟨t,fun z=>a8H (h1 z),h2⟩
theorem a4e {C:Ct}{G:Gh}{σ:St}{H:Hp}{env:Env}{n:Nat}(S:SR C G σ H env n)(cs:List (Option Nat)):Inn C.K C.T G (a5g cs σ) H (capV cs env) n where
 pots:=S.pots
 mu:=S.mu
 len:=by simp [capV,a5g]
 slots i s e:=by
   unfold capV at e;rw [List.getElem?_map] at e;cases ec:cs[i]? with
   | none=>rw [ec] at e;cases e
   | some o =>
     rw [ec] at e;cases o with
     | none=>cases e
     | some j =>
       have e':capS (env[j]?)=some s:=by simpa using e
       unfold capS at e'
       split at e'
       · rename_i x ex;cases e';obtain⟨v,ev,r⟩:=S.slots j _ ex;refine⟨x,v,rfl,?_,r⟩;unfold a5g;rw [List.getElem?_map,ec];simp [ev]
       · cases e'
def cutH (H:Hp)(D:Addr):Hp:=fun b=>if b=D then none else H b
theorem a0F {H:Hp}{D b:Addr}(h:b≠D):cutH H D b=H b:=if_neg h
theorem a2H {H:Hp}{D:Addr}{o:HO}(h:H D=some o):upd (cutH H D) D o=H:=by
 funext b
 by_cases hb:b=D
 · subst hb;rw [a0i,h]
 · rw [a0g hb,a0F hb]
theorem a5A {scope:Scope}{cl:ι→List (Str×Addr)}{N:List Str}{cs:List (Option Nat)}{elt tg iter:Expr}{ifs:List Expr}{pi:pA}{ptt:pT}{pte:pE}(S:∀z,a0I (F z) scope (cl z) N cs)(hc:∀z,(F z).calm=true)(hi:QI T K F tg iter pi)
   (hg:QG K (fun y:ι×List Addr×Addr×Shared×Hp=>a0f (F y.1) scope (cl y.1) N y.2.1 y.2.2.1 y.2.2.2.1 y.2.2.2.2) tg pg) (ht:QIf T K (fun y:ι×List Addr×Addr×Shared×Hp=>a0f (F y.1) scope (cl y.1) N y.2.1 y.2.2.1 y.2.2.2.1 y.2.2.2.2) ifs ptt)
   (he:QE T K (fun y:ι×List Addr×Addr×Shared×Hp=>a0f (F y.1) scope (cl y.1) N y.2.1 y.2.2.1 y.2.2.2.1 y.2.2.2.2) elt pte)
   (hs:∀z x,foldedSetIterable iter (F z).env x=pure x:=by intro _ _;rfl):QN T K F (.ListComp elt [⟨tg,iter,ifs,0⟩] scope pos) (a3T cs pi pg ptt pte):=by
 obtain⟨wi,i1,i2⟩:=hi;obtain⟨g,hg0,hg⟩:=hg;obtain⟨tt,ht0,ht⟩:=ht;obtain⟨te,he0,he⟩:=he;refine⟨_,fun z=>a5U (S z) (hc z) (i1 z) (fun fp C s H=>⟨hg0 (z,fp,C,s,H),ht0 (z,fp,C,s,H),he0 (z,fp,C,s,H)⟩) (hs z),fun C G σ H env n R Q hK hT S hp k=>?_⟩;refine i2 C G σ H env n _ _ hK hT S hp fun xs env1 n1 J H1 p1 S1 f1 hJ=>?_;intro D hD;have hDM:=S1.fresh hD;refine a6G (G:=G) hg ht he hJ p1.1 hD (hT▸hK▸a4e S1 cs) p1.2 fun ys n2 us H' rr hpots hk eD ry=>?_
 -- the heap without D
 have nD:∀b o,H1 b=some o→b≠D:=fun b o e z=>by rw [z,hD] at e;cases e
 have hD0:C.H0 D=none:=by
   cases z:C.H0 D with
   | none=>rfl
   | some o =>
     by_cases hp:D∈C.pots0
     · exact absurd (S1.sup D (S1.p0 D hp)) hDM
     · have:=S1.frame D o hp z;rw [hD] at this;cases this
 have hk2:∀b o,b∉G.pots→H1 b=some o→cutH H' D b=some o:=fun b o hb e=>by rw [a0F (nD b o e)];exact hk b o hb e
 have nc:∀b,b∉D::G.M→b≠D:=fun b hb z=>hb (by rw [z];exact List.mem_cons_self);have np:∀p∈G.pots,p≠D:=fun p hp z=>hDM (z▸(S1.pots p hp).1)
 have Sb:SR C G σ (cutH H' D) env1 n2:=S1.call hk2 fun p hp=>by
   subst hT;have h2:=C.T.keep (hpots p hp) (H':=cutH H' D) (a0F (np p hp)) fun b o hb e=>by rw [a0F (nc b hb)];exact e
   exact C.T.more h2 fun a ha=>.inl (List.mem_cons_of_mem _ ha)
 have:=k ys env1 n2 D us (cutH H' D) rr Sb (f1.trans fun b o hb e=>hk2 b o (fun z=>hb (S1.pots b z).1) e) (by unfold cutH;rw [if_pos rfl]) ?_
 · rw [a2H eD] at this;exact this
 · exact Reps.mono (G:=⟨D::G.M,G.pots⟩) (fun b o hb e=>by rw [a0F (nc b hb)];exact e) (fun a ha=>.inl (List.mem_cons_of_mem _ ha)) (fun _ _ e=>e) _ _ ry
end
end Pu
end
section
set_option maxHeartbeats 1000000
namespace Pu
open PySem PySem.Spec L2
structure a2x where
 nx:Env→Nat→Prop
 rt:PV→Nat→Prop
 bk:Env→Nat→Prop:=fun _ _=>False
 ct:Env→Nat→Prop:=fun _ _=>False
abbrev pS:=a2x→Env→Nat→Prop
structure Ext (G:Gh)(H:Hp)(G':Gh)(H':Hp):Prop where
 keep:∀b o,b∉G.M→H b=some o→H' b=some o
 new:∀a∈G'.M,a∈G.M∨H a=none
 pot:∀(k:Nat) (p:Addr),G.pots[k]?=some p→G'.pots[k]?=some p
theorem Ext.refl {G:Gh}{H:Hp}:Ext G H G H:=⟨fun _ _ _ e=>e,fun _ h=>.inl h,fun _ _ e=>e⟩
theorem Ext.fr {G:Gh}{H H':Hp}(f:Fr G H H'):Ext G H G H':=⟨f,fun _ h=>.inl h,fun _ _ e=>e⟩
theorem Ext.trans {G G1 G2:Gh}{H H1 H2:Hp}(a:Ext G H G1 H1)(b:Ext G1 H1 G2 H2):Ext G H G2 H2 where
 keep c o hc e:=b.keep c o (fun z=>(a.new c z).elim hc fun z=>by rw [z] at e;cases e) (a.keep c o hc e)
 new c hc:=(b.new c hc).elim (fun z=>a.new c z) fun z=>by
   by_cases hM:c∈G.M
   · exact .inl hM
   · refine .inr ?_;cases e:H c with
     | none=>rfl
     | some o=>rw [a.keep c o hM e] at z;cases z
 pot k p e:=b.pot k p (a.pot k p e)
structure Link (C:Ct)(G:Gh)(H:Hp)(PD:a2x)(D:Ends):Prop where
 nx:∀env n G' σ H',PD.nx env n→SR C G' σ H' env n→Ext G H G' H'→D.nx σ H'
 rt:∀x n v G' σ H' env,PD.rt x n→SR C G' σ H' env n→Rep C.K ⟨C.M0,G'.pots⟩ H' x v→Ext G H G' H'→D.rt v H'
 bk:∀env n G' σ H',PD.bk env n→SR C G' σ H' env n→Ext G H G' H'→D.bk σ H'
 ct:∀env n G' σ H',PD.ct env n→SR C G' σ H' env n→Ext G H G' H'→D.ct σ H'
theorem Link.ext {C:Ct}{G G':Gh}{H H':Hp}{PD:a2x}{D:Ends}(L:Link C G H PD D)(x:Ext G H G' H'):Link C G' H' PD D:=
 ⟨fun env n G2 σ H2 p S e=>L.nx env n G2 σ H2 p S (x.trans e),fun y n v G2 σ H2 env p S r e=>L.rt y n v G2 σ H2 env p S r (x.trans e),fun env n G2 σ H2 p S e=>L.bk env n G2 σ H2 p S (x.trans e),fun env n G2 σ H2 p S e=>L.ct env n G2 σ H2 p S (x.trans e)⟩
def SOk (K:PySem.W.Frag)(T:PotK)(np:Bool)(t:TS)(ps:pS):Prop:=∀(C:Ct) (G:Gh) (σ:St) (H:Hp) (env:Env) (n:Nat) (PD:a2x) (D:Ends),C.K=K→C.T=T→C.np=np→SR C G σ H env n→ps PD env n→Link C G H PD D→t D σ H
def QS {ι:Type}(T:PotK)(np:Bool)(K:PySem.W.Frag)(F:ι→Cx)(st:Stmt)(ps:pS):Prop:=∃t,(∀z,PS (F z) st t)∧SOk K T np t ps
def QSs {ι:Type}(T:PotK)(np:Bool)(K:PySem.W.Frag)(F:ι→Cx)(st:List Stmt)(ps:pS):Prop:=∃t,(∀z,PSs (F z) st t)∧SOk K T np t ps
theorem SR.out {C:Ct}{G:Gh}{σ:St}{H:Hp}{env:Env}{n:Nat}(S:SR C G σ H env n){x:PV}{v:V}(r:Rep C.K G H x v):Rep C.K ⟨C.M0,G.pots⟩ H x v:=
 Rep.mono (G':=⟨C.M0,G.pots⟩) (fun _ _ _ e=>e) (fun a ha=>.inl (S.sup a ha)) (fun _ _ e=>e) _ _ r
theorem SR.old {C:Ct}{G:Gh}{σ:St}{H:Hp}{env:Env}{n:Nat}(S:SR C G σ H env n){a:Addr}(h:H a=none):C.H0 a=none:=by
 cases z:C.H0 a with
 | none=>rfl
 | some o =>
   by_cases hp:a∈C.pots0
   · exact absurd (S.sup a (S.p0 a hp)) (S.fresh h)
   · have:=S.frame a o hp z;rw [h] at this;cases this
theorem SR.moreO {C:Ct}{G:Gh}{σ:St}{H:Hp}{env:Env}{n:Nat}(S:SR C G σ H env n){a:Addr}{ob:HO}(mo:MutO ob)(h:H a=none):SR C ⟨a::G.M,G.pots⟩ σ (upd H a ob) env n where
 frame b o hb e:=Same.lay1 h b o (S.frame b o hb e)
 sub b hb:=(List.mem_cons.mp hb).elim (fun z=>.inr (z▸S.old h)) (S.sub b)
 sup b hb:=List.mem_cons_of_mem _ (S.sup b hb)
 pots p hp:=⟨List.mem_cons_of_mem _ (S.pots p hp).1,by
   have h1:=C.T.more (M':=a::G.M) (S.pots p hp).2 (fun c hc=>(List.mem_cons.mp hc).elim (fun z=>.inr (z▸h)) .inl);obtain⟨o,e,_⟩:=C.T.mu h1
   exact C.T.keep h1 (by rw [e,Same.lay1 h p o e]) fun b o _ e=>Same.lay1 h b o e⟩
 pre:=S.pre
 mu b hb:=by
   rcases List.mem_cons.mp hb with rfl | hb
   · exact⟨_,a0i,mo⟩
   · obtain⟨o,e,m⟩:=S.mu b hb;exact⟨o,Same.lay1 h b o e,m⟩
 slots i s e:=by
   have mm:∀{x:PV} {v:V},Rep C.K G H x v→Rep C.K ⟨a::G.M,G.pots⟩ (upd H a ob) x v:=fun r=>Rep.mono (G':=⟨a::G.M,G.pots⟩) (H':=upd H a ob) (fun b o _ e=>Same.lay1 h b o e) (fun c hc=>(List.mem_cons.mp (show c∈a::G.M from hc)).elim (fun z=>.inr (z▸h)) .inl) (fun _ _ e=>e) _ _ r;have:=S.slots i s e;cases s with
   | v x =>
     obtain⟨v,e1,r⟩:=this;exact⟨v,e1,mm r⟩
   | ow kk xs =>
     obtain⟨b,us,e1,h1,h2,h3,h4,r⟩:=this;exact⟨b,us,e1,List.mem_cons_of_mem _ h1,h2,h3,Same.lay1 h _ _ h4,Reps.mono (G':=⟨a::G.M,G.pots⟩) (H':=upd H a ob) (fun b o _ e=>Same.lay1 h b o e) (fun c hc=>(List.mem_cons.mp (show c∈a::G.M from hc)).elim (fun z=>.inr (z▸h)) .inl) (fun _ _ e=>e) _ _ r⟩
 inj:=S.inj
 p0:=S.p0
 len:=S.len
 newp:=S.newp
theorem SR.more {C:Ct}{G:Gh}{σ:St}{H:Hp}{env:Env}{n:Nat}(S:SR C G σ H env n){a:Addr}{vs:List V}(h:H a=none):SR C ⟨a::G.M,G.pots⟩ σ (upd H a (.lst vs)) env n:=S.moreO (ob:=.lst vs) trivial h
theorem SR.ow {C:Ct}{G:Gh}{σ:St}{H:Hp}{env:Env}{n:Nat}(S:SR C G σ H env n)(i:Nat)(kk:OK){a:Addr}{xs:List PV}{vs:List V}(h:H a=none)(r:Reps C.K G H xs vs) :
   SR C ⟨a::G.M,G.pots⟩ (σ.set i (some (.ref a))) (upd H a (mkO kk vs)) (env.set i (some (.ow kk xs))) n:=by
 have S1:=S.moreO (a6i kk vs) h;have aM:a∉G.M:=S.fresh h;have r1:Reps C.K ⟨a::G.M,G.pots⟩ (upd H a (mkO kk vs)) xs vs:=Reps.mono (G':=⟨a::G.M,G.pots⟩) (H':=upd H a (mkO kk vs)) (fun b o _ e=>Same.lay1 h b o e) (fun c hc=>(List.mem_cons.mp (show c∈a::G.M from hc)).elim (fun z=>.inr (z▸h)) .inl) (fun _ _ e=>e) _ _ r
 have other:∀(j:Nat) (ys:OK×List PV),env[j]?=some (some (Slot.ow ys.1 ys.2))→σ[j]?≠some (some (.ref a)):=by
   intro j ys e z;obtain⟨b,us,e1,h1,_⟩:=S.slots j _ e;rw [z] at e1;cases e1;exact aM h1
 exact {
   frame:=S1.frame
   sub:=S1.sub
   sup:=S1.sup
   pots:=S1.pots
   pre:=S1.pre
   mu:=S1.mu
   slots:=fun j s e=>by
     by_cases hj:i=j
     · subst hj
       by_cases hl:i < env.length
       · rw [List.getElem?_set_self hl] at e;cases e;exact⟨a,vs,by rw [List.getElem?_set_self (by rw [← S.len];exact hl)],List.mem_cons_self,fun z=>aM (S.sup a z),fun z=>aM (S.pots a z).1,a0i,r1⟩
       · rw [List.getElem?_eq_none (by rw [List.length_set];omega)] at e;cases e
     · rw [List.getElem?_set_ne hj] at e ⊢;exact S1.slots j s e
   inj:=fun j k xs' ys b e1 e2 e3 e4=>by
     by_cases hj:i=j
     · by_cases hk:i=k
       · omega
       · subst hj;rw [List.getElem?_set_ne hk] at e2 e4
         by_cases hl:i < σ.length
         · rw [List.getElem?_set_self hl] at e3;cases e3;exact absurd e4 (other k ys e2)
         · rw [List.getElem?_eq_none (by rw [List.length_set];omega)] at e3;cases e3
     · rw [List.getElem?_set_ne hj] at e1 e3
       by_cases hk:i=k
       · subst hk
         by_cases hl:i < σ.length
         · rw [List.getElem?_set_self hl] at e4;cases e4;exact absurd e3 (other j xs' e1)
         · rw [List.getElem?_eq_none (by rw [List.length_set];omega)] at e4;cases e4
       · rw [List.getElem?_set_ne hk] at e2 e4;exact S.inj j k xs' ys b e1 e2 e3 e4
   p0:=S.p0
   len:=by rw [List.length_set,List.length_set];exact S.len
   newp:=S.newp }
theorem SR.own {C:Ct}{G:Gh}{σ:St}{H:Hp}{env:Env}{n:Nat}(S:SR C G σ H env n)(i:Nat){a:Addr}{xs:List PV}{vs:List V}(h:H a=none)(r:Reps C.K G H xs vs) :
   SR C ⟨a::G.M,G.pots⟩ (σ.set i (some (.ref a))) (upd H a (.lst vs)) (env.set i (some (.ow .lst xs))) n:=S.ow i .lst h r
theorem SR.putO {C:Ct}{G:Gh}{σ:St}{H:Hp}{env:Env}{n:Nat}(S:SR C G σ H env n){i:Nat}{kk:OK}(k':OK){a:Addr}{xs ys:List PV}{vs:List V}(e:env[i]?=some (some (.ow kk xs)))(ea:σ[i]?=some (some (.ref a)))(r:Reps C.K G H ys vs) :
   SR C G σ (upd H a (mkO k' vs)) (env.set i (some (.ow k' ys))) n∧Fr G H (upd H a (mkO k' vs)):=by
 obtain⟨a',us,ea',aM,a0,ap,eH,_⟩:=S.slots i _ e;rw [ea] at ea';cases ea';have f:Fr G H (upd H a (mkO k' vs)):=fun b o hb he=>by rw [a0g (fun z=>hb (by rw [z];exact aM))];exact he
 refine⟨{
   frame:=fun b o hb he=>?_
   sub:=S.sub
   sup:=S.sup
   pots:=fun p hp=>⟨(S.pots p hp).1,C.T.keep (S.pots p hp).2 (a0g fun z=>ap (by rw [← z];exact hp)) f⟩
   pre:=S.pre
   mu:=fun b hb=>?_
   slots:=fun j s es=>?_
   inj:=fun j k xs' ys' b e1 e2 e3 e4=>?_
   p0:=S.p0
   len:=by rw [List.length_set];exact S.len
   newp:=S.newp },f⟩
 · have hb2:b≠a:=fun z=>by
     rcases S.sub a aM with z2 | z2
     · exact a0 z2
     · rw [z,z2] at he;cases he
   rw [a0g hb2];exact S.frame b o hb he
 · by_cases hba:b=a
   · subst hba;exact⟨_,a0i,a6i k' vs⟩
   · obtain⟨o,he,m⟩:=S.mu b hb;exact⟨o,by rw [a0g hba];exact he,m⟩
 · by_cases hj:i=j
   · subst hj;have hl:i < env.length:=(List.getElem?_eq_some_iff.mp e).1;rw [List.getElem?_set_self hl] at es;cases es;exact⟨a,vs,ea,aM,a0,ap,a0i,r.fr f⟩
   · rw [List.getElem?_set_ne hj] at es;have:=S.slots j s es;cases s with
     | v x =>
       obtain⟨v,e1,r⟩:=this;exact⟨v,e1,r.fr f⟩
     | ow kz zs =>
       obtain⟨b,us',e1,h1,h2,h3,h4,r⟩:=this;have hba:b≠a:=fun z=>hj (S.inj i j (kk,xs) (kz,zs) a e es ea (by rw [e1,z]));exact⟨b,us',e1,h1,h2,h3,by rw [a0g hba];exact h4,r.fr f⟩
 · have back:∀(j:Nat) (zs:OK×List PV),(env.set i (some (.ow k' ys)))[j]?=some (some (Slot.ow zs.1 zs.2))→∃zs':OK×List PV,env[j]?=some (some (.ow zs'.1 zs'.2)):=by
     intro j zs h
     by_cases hj:i=j
     · subst hj;exact⟨(kk,xs),e⟩
     · rw [List.getElem?_set_ne hj] at h;exact⟨zs,h⟩
   obtain⟨z1,e1'⟩:=back j xs' e1;obtain⟨z2,e2'⟩:=back k ys' e2;exact S.inj j k z1 z2 b e1' e2' e3 e4
theorem SR.put {C:Ct}{G:Gh}{σ:St}{H:Hp}{env:Env}{n:Nat}(S:SR C G σ H env n){i:Nat}{a:Addr}{xs ys:List PV}{vs:List V}(e:env[i]?=some (some (.ow .lst xs)))(ea:σ[i]?=some (some (.ref a)))(r:Reps C.K G H ys vs) :
   SR C G σ (upd H a (.lst vs)) (env.set i (some (.ow .lst ys))) n∧Fr G H (upd H a (.lst vs)):=S.putO .lst e ea r
section
variable {T:PotK}{np:Bool}{ι:Type}{K:PySem.W.Frag}{F:ι→Cx}{e a b c:Expr}{es:List Expr}{st:Stmt}{rest:List Stmt}{pe pa pb pc:pE}{pos:Pos}{pl pr:pA}{pg:pG}{pt:pT}{p1 p2:pS}
def qNx:pS:=fun D env n=>D.nx env n
def qSeq (p q:pS):pS:=fun D env n=>p { D with nx:=fun e m=>q D e m } env n
theorem a2O:QSs T np K F [] qNx:=⟨_,fun _=>a5J,fun C G σ H env n PD D hK hT hn S hp L=>L.nx _ _ _ _ _ hp S Ext.refl⟩
theorem a0o (h:QS T np K F st p1):QSs T np K F [st] p1:=let ⟨t,h1,h2⟩:=h;⟨t,fun z=>a2h (h1 z),h2⟩
theorem a0d (h:QS T np K F st p1)(h':QSs T np K F rest p2):QSs T np K F (st::rest) (qSeq p1 p2):=by
 obtain⟨t,a1,a2⟩:=h;obtain⟨u,b1,b2⟩:=h';refine⟨_,fun z=>a0B (a1 z) (b1 z),fun C G σ H env n PD D hK hT hn S hp L=>?_⟩;refine a2 C G σ H env n _ _ hK hT hn S hp ⟨fun env1 n1 G1 σ1 H1 q1 S1 x1=>?_,L.rt,L.bk,L.ct⟩;exact b2 C G1 σ1 H1 env1 n1 PD D hK hT hn S1 q1 (L.ext x1)
theorem a0x {X:Cx}{i:Nat}{x:Str}{e:Expr}{pos' pos:Pos}(hN:X.N.Nodup)(hi:X.N[i]?=some x)(hx:Loc X.env.scope x)(hs:swapsWith e (some (.Name x pos')) pos.line X.env=pure false:=by rfl)(hf:X.fn x=true∨X.env.scope.names.lookup x=some .local:=by first | exact .inl rfl | exact .inr rfl | assumption)(te:TE)(h:EW X e te):SW X (.Assign [.Name x pos'] e pos) (tAsg te (a1K i)):=⟨a1S hN hi hx h.h hs hf⟩
theorem a7E {X:Cx}{tg e:Expr}{pos:Pos}(hs:swapsWithSole [tg] e pos.line X.env=pure false:=by rfl)(hw:swappedStores [tg] e X.env=pure none:=by rfl)(h1:(assignEach [tg] X.env).map (·.2)=[assign tg X.env]:=by rfl)(te:TE)(g:TG)(h:EW X e te)(hg:GW X tg g):SW X (.Assign [tg] e pos) (tAsg te g):=⟨a5K h.h hg.h hs hw h1⟩
theorem a2J {X:Cx}{e:Expr}{pos:Pos}(hs:swapsWith e none pos.line X.env=pure false:=by rfl)(te:TE)(h:EW X e te):SW X (.Expr e pos) (a8n te):=⟨a8G h.h hs⟩
def qSet (i:Nat)(pe:pE):pS:=fun D env n=>pe env n fun x env1 n1=>D.nx (env1.set i (some (.v x))) n1
theorem a0K (i:Nat)(h:∀z te,EW (F z) e te→SW (F z) st (tAsg te (a1K i)))(he:QE T K F e pe):QS T np K F st (qSet i pe):=by
 obtain⟨t,a1,a2⟩:=he;refine⟨_,fun z=>(h z _ ⟨a1 z⟩).h,fun C G σ H env n PD D hK hT hn S hp L=>?_⟩;refine a2 C G σ H env n _ _ hK hT S hp fun x env1 n1 v H1 q1 S1 r1 f1=>?_;exact L.nx _ _ _ _ _ q1 (S1.set i (hK▸r1)) (Ext.fr f1)
def qOwn (i:Nat)(pn:pA):pS:=fun D env n=>pn env n fun xs env1 n1=>D.nx (env1.set i (some (.ow .lst xs))) n1
theorem a2b {G:Gh}{H:Hp}{a:Addr}{o:HO}(h:H a=none):Ext G H ⟨a::G.M,G.pots⟩ (upd H a o):=⟨fun b u _ e=>Same.lay1 h b u e,fun c hc=>(List.mem_cons.mp (show c∈a::G.M from hc)).elim (fun z=>.inr (z▸h)) .inl,fun _ _ e=>e⟩
theorem a4m (i:Nat)(h:∀z te,EW (F z) e te→SW (F z) st (tAsg te (a1K i)))(he:QN T K F e pl):QS T np K F st (qOwn i pl):=by
 obtain⟨t,a1,a2⟩:=he;refine⟨_,fun z=>(h z _ ⟨a1 z⟩).h,fun C G σ H env n PD D hK hT hn S hp L=>?_⟩;refine a2 C G σ H env n _ _ hK hT S hp fun xs env1 n1 a vs Hb q1 S1 f1 hn1 r1=>?_;exact L.nx _ _ _ _ _ q1 (S1.own i hn1 (hK▸r1)) ((Ext.fr f1).trans (a2b hn1))
def a2Y (pe:pE):pS:=fun D env n=>pe env n fun _ env1 n1=>D.nx env1 n1
theorem a2P (h:∀z te,EW (F z) e te→SW (F z) st (a8n te))(he:QE T K F e pe):QS T np K F st (a2Y pe):=by
 obtain⟨t,a1,a2⟩:=he;refine⟨_,fun z=>(h z _ ⟨a1 z⟩).h,fun C G σ H env n PD D hK hT hn S hp L=>?_⟩;exact a2 C G σ H env n _ _ hK hT S hp fun x env1 n1 v H1 q1 S1 r1 f1=>L.nx _ _ _ _ _ q1 S1 (Ext.fr f1)
def qRet (pe:pE):pS:=fun D env n=>pe env n fun x _ n1=>D.rt x n1
theorem a1q (he:QE T K F e pe):QS T np K F (.Return (some e) pos) (qRet pe):=by
 obtain⟨t,a1,a2⟩:=he;refine⟨_,fun z=>a4r (a1 z),fun C G σ H env n PD D hK hT hn S hp L=>?_⟩;exact a2 C G σ H env n _ _ hK hT S hp fun x env1 n1 v H1 q1 S1 r1 f1=>L.rt _ _ _ _ _ _ _ q1 S1 (S1.out (hK▸r1)) (Ext.fr f1)
def qRetO (i:Nat):pS:=fun D env n=>match env[i]? with | some (some (.ow .lst xs))=>D.rt (.lst xs) n | _=>False
def qIfS (t:pT)(p q:pS):pS:=fun D env n=>t env n fun b env1 n1=>if b=true then p D env1 n1 else q D env1 n1
theorem a6Z {x y:List Stmt}(hc:QT T K F c pt)(h1:QSs T np K F x p1)(h2:QSs T np K F y p2):QS T np K F (.If c x y pos) (qIfS pt p1 p2):=by
 obtain⟨tc,c1,c2⟩:=hc;obtain⟨t,a1,a2⟩:=h1;obtain⟨u,b1,b2⟩:=h2;refine⟨_,fun z=>ps_if (c1 z) (a1 z) (b1 z),fun C G σ H env n PD D hK hT hn S hp L=>?_⟩;refine c2 C G σ H env n _ _ hK hT S hp fun d env1 n1 H1 q1 S1 f1=>?_;cases d with
 | true=>exact a2 C G σ H1 env1 n1 PD D hK hT hn S1 q1 (L.ext (Ext.fr f1))
 | false=>exact b2 C G σ H1 env1 n1 PD D hK hT hn S1 q1 (L.ext (Ext.fr f1))
def forL (g:pG)(b:pS)(D:a2x):List PV→Env→Nat→Prop
 | [],env,n=>D.nx env n
 | x::xs,env,n=>g x env fun env1=>b { D with nx:=fun e m=>forL g b D xs e m,ct:=fun e m=>forL g b D xs e m,bk:=D.nx } env1 n
def qFor (pi:pA)(g:pG)(b:pS):pS:=fun D env n=>pi env n fun xs env1 n1=>forL g b D xs env1 n1
theorem a1r {tg iter:Expr}{body:List Stmt}(hc:∀z,(F z).calm=true)(hi:QI T K F tg iter pl)(hg:QG K F tg pg)(hb:QSs T np K F body p1)(hp:∀z,PassesOwn (model (F z).prog (F z).w) (F z).A (F z).env (F z).xe:=by intro _;exact PassesOwn.never)(hs:∀z x,foldedSetIterable iter (F z).env x=pure x:=by intro _ _;rfl):QS T np K F (.For tg iter body [] pos) (qFor pl pg p1):=by
 obtain⟨wi,i1,i2⟩:=hi;obtain⟨g,g1,g2⟩:=hg;obtain⟨t,b1,b2⟩:=hb;refine⟨_,fun z=>a7O (hp z) (hc z) (i1 z) (g1 z) (b1 z) (hs z),fun C G σ H env n PD D hK hT hn S hp L=>?_⟩;refine i2 C G σ H env n _ _ hK hT S hp fun xs env1 n1 J H1 q1 S1 f1 hJ=>?_;have L1:=L.ext (Ext.fr f1);refine⟨fun i m σ H=>m=xs.length - i∧i≤xs.length∧∃G' env n,SR C G' σ H env n∧Ext G H1 G' H∧forL pg p1 PD (xs.drop i) env n,⟨xs.length,by simp,Nat.zero_le _,G,env1,n1,S1,Ext.refl,by simpa using q1⟩,?_⟩;rintro i m σ' H' ⟨rfl,hi,G',env',n',S',x',q'⟩;have hf:∀p,H' p=none→p∉G'.M:=fun p hp=>S'.fresh hp;obtain⟨hgo,hstop⟩:=hJ G' H' x'.keep x'.new x'.pot hf
 by_cases hlt:i < xs.length
 · obtain⟨go1,go2⟩:=hgo i _ (List.getElem?_eq_getElem hlt);rw [List.drop_eq_getElem_cons hlt] at q';refine .inr ⟨go1,fun σ H=>∃G' env n,SR C G' σ H env n∧Ext G H1 G' H∧forL pg p1 PD (xs.drop (i + 1)) env n,fun σ2 H2 h2=>⟨xs.length - (i + 1),by omega,rfl,hlt,h2⟩,fun v H2 y=>?_⟩;obtain⟨s2,rv⟩:=go2 v H2 y;have x2:Ext G' H' G' H2:=Ext.fr (Fr.of s2);refine g2 C G' σ' H2 env' n' _ v _ _ hK (S'.same s2) rv q' fun env2 σ2 q2 S2=>?_;refine b2 C G' σ2 H2 env2 n' _ _ hK hT hn S2 q2 ⟨fun e3 n3 G3 σ3 H3 q3 S3 x3=>?_,fun y n3 v G3 σ3 H3 e3 q3 S3 r3 x3=>?_,fun e3 n3 G3 σ3 H3 q3 S3 x3=>?_,fun e3 n3 G3 σ3 H3 q3 S3 x3=>?_⟩
   · exact⟨G3,e3,n3,S3,(x'.trans x2).trans x3,q3⟩
   · exact L1.rt _ _ _ _ _ _ _ q3 S3 r3 ((x'.trans x2).trans x3)
   · exact L1.nx _ _ _ _ _ q3 S3 ((x'.trans x2).trans x3)
   · exact⟨G3,e3,n3,S3,(x'.trans x2).trans x3,q3⟩
 · have ei:i=xs.length:=by omega
   subst ei;rw [List.drop_length] at q';exact .inl ⟨hstop _ (Nat.le_refl _),L1.nx _ _ _ _ _ q' S' x'⟩
def a1p (t:pT)(b:pS)(D:a2x):Nat→Env→Nat→Prop
 | 0,_,_=>False
 | k + 1,env,n=>t env n fun c env1 n1=>if c=true then b { D with nx:=fun e m=>a1p t b D k e m,ct:=fun e m=>a1p t b D k e m,bk:=D.nx } env1 n1 else D.nx env1 n1
def a5H (t:pT)(b:pS):pS:=fun D env n=>∃k,a1p t b D k env n
theorem a6Y {body:List Stmt}(hc:QT T K F c pt)(hb:QSs T np K F body p1)(hp:∀z,PassesOwn (model (F z).prog (F z).w) (F z).A (F z).env (F z).xe:=by intro _;exact PassesOwn.never):QS T np K F (.While c body [] pos) (a5H pt p1):=by
 obtain⟨tc,c1,c2⟩:=hc;obtain⟨t,b1,b2⟩:=hb;refine⟨_,fun z=>a7d (hp z) (c1 z) (b1 z),fun C G σ H env n PD D hK hT hn S hp L=>?_⟩;obtain⟨k,hp⟩:=hp;refine⟨fun m σ H'=>∃G' env n,SR C G' σ H' env n∧Ext G H G' H'∧a1p pt p1 PD m env n,⟨k,G,env,n,S,Ext.refl,hp⟩,?_⟩;rintro m σ1 H1 ⟨G1,env1,n1,S1,x1,q1⟩;cases m with
 | zero=>exact q1.elim
 | succ m =>
   refine c2 C G1 σ1 H1 env1 n1 _ _ hK hT S1 q1 fun d env2 n2 H2 q2 S2 f2=>?_;have x2:=x1.trans (Ext.fr f2);cases d with
   | false=>exact iteF (L.nx _ _ _ _ _ q2 S2 x2)
   | true =>
     refine iteT ⟨fun σ H'=>∃G' env n,SR C G' σ H' env n∧Ext G H G' H'∧a1p pt p1 PD m env n,fun σ' H' h=>⟨m,by omega,h⟩,?_⟩;exact b2 C G1 σ1 H2 env2 n2 _ _ hK hT hn S2 q2 ⟨fun e3 n3 G3 σ3 H3 q3 S3 x3=>⟨G3,e3,n3,S3,x2.trans x3,q3⟩,fun y n3 v G3 σ3 H3 e3 q3 S3 r3 x3=>L.rt _ _ _ _ _ _ _ q3 S3 r3 (x2.trans x3),fun e3 n3 G3 σ3 H3 q3 S3 x3=>L.nx _ _ _ _ _ q3 S3 (x2.trans x3),fun e3 n3 G3 σ3 H3 q3 S3 x3=>⟨G3,e3,n3,S3,x2.trans x3,q3⟩⟩
def a3U (i:Nat)(pe:pE):pE:=fun env n R=>pe env n fun y env1 n1=>match env1[i]? with | some (some (.ow .lst xs))=>xs.length < 1000000∧R .non (env1.set i (some (.ow .lst (xs++[y])))) n1 | _=>False
theorem a5F (i:Nat){x:Str}{p ap:Pos}(hv:∀z,EW (F z) (.Name x p) (tVar i))(he:QE T K F e pe)(hs:a0p e=true:=by rfl)(hbase:∀z,attributeBase (.Name x p) "append" (F z).env (eval (.Name x p) (F z).env)=eval (.Name x p) (F z).env:=by intro _;rfl)(hline:(ap.endLine == pos.line)=true:=by rfl)
   (hfew:∀z,((backTo pos (starEach [e] (F z).env)).all (fun x=>!x.1) && (backToKw pos (keywordEach [] (F z).env)).all (fun x=>x.1.isSome) && decide (([e]:List Expr).length + ([]:List Keyword).length + (if([]:List Keyword).isEmpty then 0 else 1) < 30))=true:=by intro _;rfl) (hK:∀z,(F z).K=K:=by intro _;rfl):QE T K F (.Call (.Attribute (.Name x p) "append" ap) [e] [] pos) (fun env n R=>(∃xs,env[i]?=some (some (.ow .lst xs)))∧a3U i pe env n R):=by
 obtain⟨t,a1,a2⟩:=he;refine⟨tBM K "list" a5w (tVar i) (a2c t tNil),fun z=>hK z▸a7i PySem.F.plainAttrs_list PySem.F.slot_list_append PySem.F.type_list_append a1I (hv z).h (a0l (a1 z) a0z (a0c hs)) (hbase z) (hfew z) hline (a0c hs),fun C G σ H env n R Q hK hT S hp k=>?_⟩;obtain⟨⟨xs0,e0⟩,hp⟩:=hp;obtain⟨a,vs,ev,h1,h2,h3,h4,r⟩:=S.slots i _ e0;refine⟨.ref a,ev,.inl ⟨rfl,vs,SqL.of h4⟩,?_⟩;refine a2 C G σ H env n _ _ hK hT S hp fun y env1 n1 v H1 q1 S1 r1 f1=>?_
 split at q1
 · rename_i xs ex;obtain⟨a',us,ev',g1,g2,g3,g4,r'⟩:=S1.slots i _ ex;rw [ev] at ev';cases ev';subst hK;obtain⟨S2,f2⟩:=S1.put ex ev (r'.append (.one r1));exact⟨a,us,v,rfl,rfl,g4,by rw [← r'.length];exact mil' (by omega),k _ _ _ _ _ q1.2 S2 rfl (f1.trans f2)⟩
 · exact q1.elim
end
end Pu
end
section
set_option maxHeartbeats 1000000
namespace Pu
open PySem PySem.Spec L2
abbrev pSl:=Env→Nat→(Slot→Env→Nat→Prop)→Prop
def a6S (σ:St)(env:Env)(a:Addr):Prop:=∃(j:Nat) (ys:OK×List PV),env[j]?=some (some (.ow ys.1 ys.2))∧σ[j]?=some (some (.ref a))
theorem SR.slot {C:Ct}{G:Gh}{σ:St}{H:Hp}{env:Env}{n:Nat}(S:SR C G σ H env n)(i:Nat){s:Slot}{v:V}(r:a9p C G H (some (some v)) s)(h:∀(xs:OK×List PV) a,s=.ow xs.1 xs.2→v=.ref a→¬a6S σ env a):SR C G (σ.set i (some v)) H (env.set i (some s)) n where
 frame:=S.frame
 sub:=S.sub
 sup:=S.sup
 pots:=S.pots
 pre:=S.pre
 mu:=S.mu
 slots j t e:=by
   by_cases hj:i=j
   · subst hj
     by_cases hl:i < env.length
     · rw [List.getElem?_set_self hl] at e;cases e;rw [List.getElem?_set_self (by rw [← S.len];exact hl)];exact r
     · rw [List.getElem?_eq_none (by rw [List.length_set];omega)] at e;cases e
   · rw [List.getElem?_set_ne hj] at e ⊢;exact S.slots j t e
 inj j k xs ys b e1 e2 e3 e4:=by
   by_cases hj:i=j
   · by_cases hk:i=k
     · omega
     · subst hj;rw [List.getElem?_set_ne hk] at e2 e4
       by_cases hl:i < env.length
       · rw [List.getElem?_set_self hl] at e1;rw [List.getElem?_set_self (by rw [← S.len];exact hl)] at e3;cases e1;cases e3;exact absurd ⟨k,ys,e2,e4⟩ (h xs b rfl rfl)
       · rw [List.getElem?_eq_none (by rw [List.length_set];omega)] at e1;cases e1
   · rw [List.getElem?_set_ne hj] at e1 e3
     by_cases hk:i=k
     · subst hk
       by_cases hl:i < env.length
       · rw [List.getElem?_set_self hl] at e2;rw [List.getElem?_set_self (by rw [← S.len];exact hl)] at e4;cases e2;cases e4;exact absurd ⟨j,xs,e1,e3⟩ (h ys b rfl rfl)
       · rw [List.getElem?_eq_none (by rw [List.length_set];omega)] at e2;cases e2
     · rw [List.getElem?_set_ne hk] at e2 e4;exact S.inj j k xs ys b e1 e2 e3 e4
 p0:=S.p0
 len:=by rw [List.length_set,List.length_set];exact S.len
 newp:=S.newp
def Ct.guard (C:Ct)(a:Addr)(vs:List V):Ct:={ C with M0:=a::C.M0,H0:=upd C.H0 a (.lst vs) }
theorem SR.guard {C:Ct}{G:Gh}{σ:St}{H:Hp}{env:Env}{n:Nat}(S:SR C G σ H env n){a:Addr}(vs:List V)(h:H a=none):SR (C.guard a vs) ⟨a::G.M,G.pots⟩ σ (upd H a (.lst vs)) env n:=by
 have S1:=S.more (vs:=vs) h;have aM:=S.fresh h
 exact {
   frame:=fun b o hb e=>by
     by_cases hba:b=a
     · subst hba;have e':upd C.H0 b (.lst vs) b=some o:=e;rw [a0i] at e' ⊢;exact e'
     · have e':upd C.H0 a (.lst vs) b=some o:=e;rw [a0g hba] at e';exact S1.frame b o hb e'
   sub:=fun b hb=>by
     by_cases hba:b=a
     · exact .inl (by rw [hba];exact List.mem_cons_self)
     · rcases S1.sub b hb with z | z
       · exact .inl (List.mem_cons_of_mem _ z)
       · refine .inr ?_;show upd C.H0 a (.lst vs) b=none;rw [a0g hba];exact z
   sup:=fun b hb=>by
     rcases List.mem_cons.mp (show b∈a::C.M0 from hb) with rfl | z
     · exact List.mem_cons_self
     · exact S1.sup b z
   pots:=S1.pots
   pre:=S1.pre
   mu:=S1.mu
   slots:=fun i s e=>by
     cases s with
     | v x =>
       obtain⟨v,ev,r⟩:=S1.slots i _ e;exact⟨v,ev,r⟩
     | ow kk xs =>
       obtain⟨b,us,ev,h1,h2,h3,h4,r⟩:=S1.slots i _ e;obtain⟨b',us',ev',g1,_⟩:=S.slots i _ e;rw [ev] at ev';cases ev';refine⟨b,us,ev,h1,fun z=>?_,h3,h4,r⟩;rcases List.mem_cons.mp (show b∈a::C.M0 from z) with rfl | z
       · exact aM g1
       · exact h2 z
   inj:=S1.inj
   p0:=fun p hp=>List.mem_cons_of_mem _ (S1.p0 p hp)
   len:=S1.len
   newp:=fun p hp hn hM=>by
     rcases List.mem_cons.mp (show p∈a::C.M0 from hM) with rfl | z
     · exact aM (S.pots p hp).1
     · exact S1.newp p hp hn z }
theorem SR.unguard {C:Ct}{G:Gh}{σ:St}{H:Hp}{env:Env}{n:Nat}{a:Addr}{vs:List V}(S:SR (C.guard a vs) G σ H env n)(ha:a∉C.M0)(hp0:∀p∈C.pots0,p∈C.M0)(h0:C.H0 a=none):SR C G σ H env n∧H a=some (.lst vs)∧¬a6S σ env a:=by
 have hap:a∉C.pots0:=fun z=>ha (hp0 a z)
 refine⟨{
   frame:=fun b o hb e=>S.frame b o hb (by
     show upd C.H0 a (.lst vs) b=some o
     rw [a0g (fun z=>by rw [z,h0] at e;cases e)];exact e)
   sub:=fun b hb=>by
     by_cases hba:b=a
     · exact .inr (hba▸h0)
     · rcases S.sub b hb with z | z
       · rcases List.mem_cons.mp (show b∈a::C.M0 from z) with z | z
         · exact absurd z hba
         · exact .inl z
       · have z':upd C.H0 a (.lst vs) b=none:=z;rw [a0g hba] at z';exact .inr z'
   sup:=fun b hb=>S.sup b (List.mem_cons_of_mem _ hb)
   pots:=S.pots
   pre:=S.pre
   mu:=S.mu
   slots:=fun i s e=>by
     cases s with
     | v x =>
       obtain⟨v,ev,r⟩:=S.slots i _ e;exact⟨v,ev,r⟩
     | ow kk xs =>
       obtain⟨b,us,ev,h1,h2,h3,h4,r⟩:=S.slots i _ e;exact⟨b,us,ev,h1,fun z=>h2 (List.mem_cons_of_mem _ z),h3,h4,r⟩
   inj:=S.inj
   p0:=hp0
   len:=S.len
   newp:=fun p hp hn hM=>S.newp p hp hn (List.mem_cons_of_mem _ hM) },S.frame a _ hap a0i,?_⟩
 rintro⟨j,ys,e1,e2⟩;obtain⟨b,us,ev,h1,h2,_⟩:=S.slots j _ e1;rw [e2] at ev;cases ev;exact h2 List.mem_cons_self
def LOk (K:PySem.W.Frag)(T:PotK)(t:TE)(pl:pSl):Prop:=∀(C:Ct) (G:Gh) (σ:St) (H:Hp) (env:Env) (n:Nat) (R:Slot→Env→Nat→Prop) (Q:VK),C.K=K→C.T=T→SR C G σ H env n→pl env n R→
 (∀x env' n' v H',R (.v x) env' n'→SR C G σ H' env' n'→Rep K G H' x v→Fr G H H'→Q v H')→
 (∀xs env' n' a vs Hb,R (.ow .lst xs) env' n'→SR C G σ Hb env' n'→Fr G H Hb→Hb a=none→Reps K G Hb xs vs→Q (.ref a) (upd Hb a (.lst vs)))→t σ H Q
def QL {ι:Type}(T:PotK)(K:PySem.W.Frag)(F:ι→Cx)(e:Expr)(pl:pSl):Prop:=∃t,(∀z,PE (F z) e t)∧LOk K T t pl
def sV (pe:pE):pSl:=fun env n R=>pe env n fun x env1 n1=>R (.v x) env1 n1
section
variable {T:PotK}{np:Bool}{ι:Type}{K:PySem.W.Frag}{F:ι→Cx}{e a b c:Expr}{es:List Expr}{st:Stmt}{rest:List Stmt}{pe pa pb pc:pE}{pos:Pos}{pl pr:pA}{pg:pG}{pt:pT}{p1 p2:pS}{s1 s2 s3:pSl}
theorem ql_v (h:QE T K F e pe):QL T K F e (sV pe):=let ⟨t,h1,h2⟩:=h;⟨t,h1,fun C G σ H env n R Q hK hT S hp k _=>h2 C G σ H env n _ _ hK hT S hp fun x env' n' v H' r S' rp f=>k x env' n' v H' r S' rp f⟩
def Got (C:Ct)(G:Gh)(H:Hp)(σ:St)(env:Env)(s:Slot)(v:V):Prop:=a9p C G H (some (some v)) s∧∀(xs:OK×List PV) a,s=.ow xs.1 xs.2→v=.ref a→¬a6S σ env a
theorem a4B {t:TE}{C:Ct}{G:Gh}{σ:St}{H:Hp}{env:Env}{n:Nat}{R:Slot→Env→Nat→Prop}{Q:VK}(h:LOk K T t s1)(hK:C.K=K)(hT:C.T=T)(S:SR C G σ H env n)(hp:s1 env n R)
   (k:∀s env' n' v G' H',R s env' n'→SR C G' σ H' env' n'→Ext G H G' H'→Got C G' H' σ env' s v→Q v H'):t σ H Q:=by
 refine h C G σ H env n _ _ hK hT S hp (fun x env' n' v H' r S' rp f=>?_) fun xs env' n' a vs Hb r S' f hn rs=>?_
 · exact k _ _ _ _ _ _ r S' (Ext.fr f) ⟨⟨v,rfl,hK▸rp⟩,fun _ _ z=>nomatch z⟩
 · have aM:=S'.fresh hn;have S1:=S'.more (vs:=vs) hn;refine k _ _ _ _ _ _ r S1 ((Ext.fr f).trans (a2b hn)) ⟨⟨a,vs,rfl,List.mem_cons_self,fun z=>aM (S'.sup a z),fun z=>aM (S'.pots a z).1,a0i,?_⟩,fun ys b e1 e2=>?_⟩
   · exact Reps.mono (G':=⟨a::G.M,G.pots⟩) (H':=upd Hb a (.lst vs)) (fun b o _ e=>Same.lay1 hn b o e) (fun c hc=>(List.mem_cons.mp (show c∈a::G.M from hc)).elim (fun z=>.inr (z▸hn)) .inl) (fun _ _ e=>e) _ _ (hK▸rs)
   · cases e2;rintro⟨j,zs,z1,z2⟩;obtain⟨b,us,ev,g1,_⟩:=S'.slots j _ z1;rw [z2] at ev;cases ev;exact aM g1
theorem a9f {t u:TE}{C:Ct}{G:Gh}{σ:St}{H:Hp}{env:Env}{n:Nat}{R:Slot→Slot→Env→Nat→Prop}{Q:V→V→Hp→Prop}(h:LOk K T t s1)(h':LOk K T u s2)(hK:C.K=K)(hT:C.T=T)(S:SR C G σ H env n)(hp:s1 env n fun x env1 n1=>s2 env1 n1 fun y env2 n2=>R x y env2 n2)
   (k:∀x y env' n' v w G' H',R x y env' n'→SR C G' σ H' env' n'→Ext G H G' H'→Got C G' H' σ env' x v→Got C G' H' σ env' y w→(∀(xs ys:OK×List PV) a,x=.ow xs.1 xs.2→y=.ow ys.1 ys.2→v=.ref a→w≠.ref a)→Q v w H'):t σ H fun v H1=>u σ H1 fun w H2=>Q v w H2:=by
 refine h C G σ H env n _ _ hK hT S hp (fun x env1 n1 v H1 q1 S1 r1 f1=>?_) fun xs env1 n1 a vs Hb q1 S1 f1 hn rs=>?_
 · refine a4B h' hK hT S1 q1 fun y env2 n2 w G2 H2 q2 S2 x2 g2=>?_;exact k _ _ _ _ _ _ _ _ q2 S2 ((Ext.fr f1).trans x2) ⟨⟨v,rfl,Rep.mono x2.keep x2.new x2.pot _ _ (hK▸r1)⟩,fun _ _ z=>nomatch z⟩ g2 (fun _ _ _ z=>nomatch z)
 · have aM:=S1.fresh hn;have S1g:=S1.guard vs hn;have a0:a∉C.M0:=fun z=>aM (S1.sup a z);have aH:=S1.old hn;have x1:Ext G H ⟨a::G.M,G.pots⟩ (upd Hb a (.lst vs)):=(Ext.fr f1).trans (a2b hn);have r1:Reps C.K ⟨a::G.M,G.pots⟩ (upd Hb a (.lst vs)) xs vs:=Reps.mono (G':=⟨a::G.M,G.pots⟩) (H':=upd Hb a (.lst vs)) (fun b o _ e=>Same.lay1 hn b o e) (fun c hc=>(List.mem_cons.mp (show c∈a::G.M from hc)).elim (fun z=>.inr (z▸hn)) .inl) (fun _ _ e=>e) _ _ (hK▸rs);refine a4B (C:=C.guard a vs) h' hK hT S1g q1 fun y env2 n2 w G2 H2 q2 S2 x2 g2=>?_;obtain⟨S3,e3,no⟩:=S2.unguard a0 S1.p0 aH;have aM2:a∈G2.M:=S2.sup a List.mem_cons_self
   have ap2:a∉G2.pots:=fun z=>by
     by_cases hz:a∈C.pots0
     · exact a0 (S1.p0 a hz)
     · exact S2.newp a z hz List.mem_cons_self
   have gy:Got C G2 H2 σ env2 y w:=by
     refine⟨?_,g2.2⟩;cases y with
     | v x=>exact g2.1
     | ow kk ys =>
       obtain⟨b,us,ev,h1,h2,h3,h4,r⟩:=g2.1;exact⟨b,us,ev,h1,fun z=>h2 (List.mem_cons_of_mem _ z),h3,h4,r⟩
   refine k _ _ _ _ _ _ _ _ q2 S3 (x1.trans x2) ⟨⟨a,vs,rfl,aM2,a0,ap2,e3,Reps.mono x2.keep x2.new x2.pot _ _ r1⟩,fun _ _ _ e=>by cases e;exact no⟩ gy fun xs' ys b ex ey ev ew=>?_;subst ey;cases ev;obtain⟨b,us,ev,h1,h2,_⟩:=g2.1;rw [ew] at ev;cases ev;exact h2 List.mem_cons_self
structure AW (X:Cx)(es:List Expr)(t:TA):Prop where
 h:PA X es t
theorem a3n {X:Cx}{i j:Nat}{x y:Str}{a b:Expr}{px py pt:Pos}{kt k2 pt2}{pos:Pos}(hc:X.calm=true)(hN:X.N.Nodup)(hi:X.N[i]?=some x)(hj:X.N[j]?=some y)(hij:i≠j)
   (hx:X.env.scope.names.lookup x=some .local) (hy:X.env.scope.names.lookup y=some .local) (hw:swappedStores [.Tuple [.Name x px,.Name y py] kt pt] (.Tuple [a,b] k2 pt2) X.env=pure (some [x,y]))
   (hs:swapsWithSole [.Tuple [.Name x px,.Name y py] kt pt] (.Tuple [a,b] k2 pt2) pos.line X.env=pure false:=by rfl) (ta:TA) (h:AW X [a,b] ta) :
   SW X (.Assign [.Tuple [.Name x px,.Name y py] kt pt] (.Tuple [a,b] k2 pt2) pos) (tPar i j ta):=⟨ps_par hc hN hi hj hij hx hy h.h hw hs⟩
def qPar (i j:Nat)(s1 s2:pSl):pS:=fun D env n=>s1 env n fun a env1 n1=>s2 env1 n1 fun b env2 n2=>D.nx ((env2.set i (some a)).set j (some b)) n2
theorem a5W {σ:St}{env:Env}{i:Nat}{s:Slot}{v:V}{a:Addr}(hl:env.length=σ.length)(h:a6S (σ.set i (some v)) (env.set i (some s)) a):a6S σ env a∨((∃xs:OK×List PV,s=.ow xs.1 xs.2)∧v=.ref a):=by
 obtain⟨j,ys,e1,e2⟩:=h
 by_cases hj:i=j
 · subst hj
   by_cases hl':i < env.length
   · rw [List.getElem?_set_self hl'] at e1;rw [List.getElem?_set_self (by omega)] at e2;cases e1;cases e2;exact .inr ⟨⟨_,rfl⟩,rfl⟩
   · rw [List.getElem?_eq_none (by rw [List.length_set];omega)] at e1;cases e1
 · rw [List.getElem?_set_ne hj] at e1 e2;exact .inl ⟨j,ys,e1,e2⟩
theorem a3t (i j:Nat)(h:∀z ta,AW (F z) [a,b] ta→SW (F z) st (tPar i j ta))(h1:QL T K F a s1)(h2:QL T K F b s2)(n1:a0p a=true:=by rfl)(n2:a0p b=true:=by rfl):QS T np K F st (qPar i j s1 s2):=by
 obtain⟨t,a1,a2⟩:=h1;obtain⟨u,b1,b2⟩:=h2;refine⟨_,fun z=>(h z _ ⟨a0l (a1 z) (a0l (b1 z) a0z (a0c n2)) (a0c n1)⟩).h,fun C G σ H env n PD D hK hT hn S hp L=>?_⟩;refine a9f (Q:=fun v w H2=>∃v' w',[v,w]=[v',w']∧D.nx ((σ.set i (some v')).set j (some w')) H2) a2 b2 hK hT S hp fun x y env2 n2 v w G2 H2 q S2 x2 gx gy ne=>?_;refine⟨v,w,rfl,L.nx _ _ _ _ _ q ((S2.slot i gx.1 gx.2).slot j gy.1 fun ys b e1 e2 z=>?_) x2⟩;rcases a5W S2.len z with z | ⟨⟨xs,ex⟩,ev⟩
 · exact gy.2 ys b e1 e2 z
 · exact ne xs ys b ex e1 ev e2
theorem a9e {X:Cx}{i:Nat}{o ix:Expr}{pos:Pos}(ho:EW X o (tVar i))(ha:∀v,assign (.Subscript o ix pos) X.env v=(do
     let ov ← holding [v] (eval o X.env)
     let iv ← holding [v,ov] (eval ix X.env)
     standAt pos
     holding [v,ov,iv] (setItem ov iv v)
     release [v,ov,iv] []):=by intro _;rfl) (ti:TE) (hi:EW X ix ti):GW X (.Subscript o ix pos) (gSub (tVar i) ti a5u):=⟨a5S ho.h hi.h a2M ha⟩
def gAt (i:Nat)(pe:pE):PV→Env→Nat→(Env→Nat→Prop)→Prop:=fun x env n R=>pe env n fun y env1 n1=>match env1[i]?,y with | some (some (.ow .lst xs)),.int d=>(match ixN xs.length d with | some j=>R (env1.set i (some (.ow .lst (xs.set j x)))) n1 | none=>False) | _,_=>False
def qPut (i:Nat)(pv:pE)(pe:pE):pS:=fun D env n=>pv env n fun x env1 n1=>(∃xs,env1[i]?=some (some (.ow .lst xs)))∧gAt i pe x env1 n1 D.nx
theorem qs_put (i:Nat){v o ix:Expr}{pv:pE}(h:∀z te g,EW (F z) v te→GW (F z) (.Subscript o ix pos) g→SW (F z) st (tAsg te g))(hv:QE T K F v pv)(hg:∀z ti,EW (F z) ix ti→GW (F z) (.Subscript o ix pos) (gSub (tVar i) ti a5u))(he:QE T K F ix pe):QS T np K F st (qPut i pv pe):=by
 obtain⟨tv,v1,v2⟩:=hv;obtain⟨ti,i1,i2⟩:=he;refine⟨_,fun z=>(h z _ _ ⟨v1 z⟩ (hg z _ ⟨i1 z⟩)).h,fun C G σ H env n PD D hK hT hn S hp L=>?_⟩;refine v2 C G σ H env n _ _ hK hT S hp fun x env1 n1 v H1 q1 S1 r1 f1=>?_;obtain⟨⟨xs0,e0⟩,q1⟩:=q1;obtain⟨a,vs,ev,h1,h2,h3,h4,r⟩:=S1.slots i _ e0;refine⟨.ref a,ev,?_⟩;refine i2 C G σ H1 env1 n1 _ _ hK hT S1 q1 fun y env2 n2 w H2 q2 S2 r2 f2=>?_
 split at q2
 · rename_i xs d ex
   split at q2
   · rename_i j ej;obtain⟨a',us,ev',g1,g2,g3,g4,r'⟩:=S2.slots i _ ex;rw [ev] at ev';cases ev';subst hK;obtain⟨S3,f3⟩:=S2.put ex ev (r'.set j (r1.fr f2));exact⟨a,us,d,j,rfl,r2,g4,by rw [← r'.length];exact ej,L.nx _ _ _ _ _ q2 S3 (Ext.fr ((f1.trans f2).trans f3))⟩
   · exact q2.elim
 · exact q2.elim
def a7w (i:Nat)(env:Env):Env:=match env[i]? with | some (some (.ow .lst xs))=>env.set i (some (.v (.lst xs))) | _=>env
theorem SR.freeze {C:Ct}{G:Gh}{σ:St}{H:Hp}{env:Env}{n:Nat}(S:SR C G σ H env n)(i:Nat):∃G',SR C G' σ H (a7w i env) n∧Ext G H G' H:=by
 unfold a7w
 split
 · rename_i xs ex;obtain⟨a,vs,ev,h1,h2,h3,h4,r⟩:=S.slots i _ ex
   let G':Gh:=⟨G.M.filter (·≠a),G.pots⟩
   have sub:∀b∈G'.M,b∈G.M:=fun b hb=>(List.mem_filter.mp hb).1;have mm:∀{x:PV} {v:V},Rep C.K G H x v→Rep C.K G' H x v:=fun r=>Rep.mono (G':=G') (fun _ _ _ e=>e) (fun b hb=>.inl (sub b hb)) (fun _ _ e=>e) _ _ r;have mms:∀{x:List PV} {v:List V},Reps C.K G H x v→Reps C.K G' H x v:=fun r=>Reps.mono (G':=G') (fun _ _ _ e=>e) (fun b hb=>.inl (sub b hb)) (fun _ _ e=>e) _ _ r
   refine⟨G',{
     frame:=S.frame
     sub:=fun b hb=>S.sub b (sub b hb)
     sup:=fun b hb=>List.mem_filter.mpr ⟨S.sup b hb,decide_eq_true (show b≠a from fun z=>h2 (by rw [← z];exact hb))⟩
     pots:=fun p hp=>⟨List.mem_filter.mpr ⟨(S.pots p hp).1,decide_eq_true (show p≠a from fun z=>h3 (by rw [← z];exact hp))⟩,C.T.more (S.pots p hp).2 fun b hb=>.inl (sub b hb)⟩
     pre:=S.pre
     mu:=fun b hb=>S.mu b (sub b hb)
     slots:=fun j s es=>?_
     inj:=fun j k xs' ys b e1 e2 e3 e4=>?_
     p0:=S.p0
     len:=by rw [List.length_set];exact S.len
     newp:=S.newp },⟨fun _ _ _ e=>e,fun b hb=>.inl (sub b hb),fun _ _ e=>e⟩⟩
   · by_cases hj:i=j
     · subst hj;rw [List.getElem?_set_self (List.getElem?_eq_some_iff.mp ex).1] at es;cases es;exact⟨.ref a,ev,a,vs,rfl,⟨fun z=>by simpa using(List.mem_filter.mp z).2,h4⟩,mms r⟩
     · rw [List.getElem?_set_ne hj] at es;have:=S.slots j s es;cases s with
       | v x =>
         obtain⟨v,e1,r⟩:=this;exact⟨v,e1,mm r⟩
       | ow kz zs =>
         obtain⟨b,us,e1,g1,g2,g3,g4,r⟩:=this;have hba:b≠a:=fun z=>hj (S.inj i j (.lst,xs) (kz,zs) a ex es ev (by rw [e1,z]));exact⟨b,us,e1,List.mem_filter.mpr ⟨g1,by simpa using hba⟩,g2,g3,g4,mms r⟩
   · have back:∀(j:Nat) (zs:OK×List PV),(env.set i (some (.v (.lst xs))))[j]?=some (some (Slot.ow zs.1 zs.2))→env[j]?=some (some (.ow zs.1 zs.2)):=by
       intro j zs h
       by_cases hj:i=j
       · subst hj;rw [List.getElem?_set_self (List.getElem?_eq_some_iff.mp ex).1] at h;cases h
       · rw [List.getElem?_set_ne hj] at h;exact h
     exact S.inj j k xs' ys b (back j _ e1) (back k _ e2) e3 e4
 · exact⟨G,S,Ext.refl⟩
def a3S (i:Nat)(p:pS):pS:=fun D env n=>p D (a7w i env) n
theorem a5z (i:Nat)(h:QS T np K F st p1):QS T np K F st (a3S i p1):=by
 obtain⟨t,a1,a2⟩:=h;refine⟨t,a1,fun C G σ H env n PD D hK hT hn S hp L=>?_⟩;obtain⟨G',S',x'⟩:=S.freeze i;exact a2 C G' σ H _ n PD D hK hT hn S' hp (L.ext x')
end
end Pu
end
section
set_option maxHeartbeats 1000000
namespace Pu
open PySem PySem.Spec L2
def a1E (N:List Str)(xs:List PV):Env:=xs.map (fun x=>some (.v x))++List.replicate (N.length - xs.length) none
def fnP (N ps:List Str)(body:pS):pF:=fun xs n R=>xs.length=ps.length∧body ⟨fun _ m=>R .non m,R,fun _ _=>False,fun _ _=>False⟩ (a1E N xs) n
theorem a4i {K:PySem.W.Frag}{T:PotK}{G:Gh}{H:Hp}{n:Nat}{np:Bool}{N:List Str}{xs:List PV}{vs:List V}(hp:∀p∈G.pots,p∈G.M∧T.at_ G.M H p n)(hm:∀a∈G.M,∃o,H a=some o∧MutO o)(r:Reps K G H xs vs) :
   SR ⟨K,T,G.M,G.pots,H,np⟩ G (L2.a1Y N vs) H (a1E N xs) n where
 frame b o _ e:=e
 sub a ha:=.inl ha
 sup a ha:=ha
 pots:=hp
 pre:=⟨[],by simp,.inl rfl⟩
 mu:=hm
 slots i s e:=by
   unfold a1E at e
   by_cases hi:i < xs.length
   · rw [List.getElem?_append_left (by simpa using hi),List.getElem?_map] at e;cases ex:xs[i]? with
     | none=>rw [ex] at e;cases e
     | some x =>
       rw [ex] at e;cases e;obtain⟨v,ev,rv⟩:=r.get' ex;refine⟨v,?_,rv⟩;unfold L2.a1Y;rw [List.getElem?_append_left (by rw [List.length_map,← r.length];exact hi),List.getElem?_map,ev]
       rfl
   · rw [List.getElem?_append_right (by simpa using hi),List.getElem?_replicate] at e
     split at e <;> cases e
 inj i j xs' ys a e1:=by
   exfalso
   unfold a1E at e1
   by_cases hi:i < xs.length
   · rw [List.getElem?_append_left (by simpa using hi),List.getElem?_map] at e1;cases ex:xs[i]? with
     | none=>rw [ex] at e1;cases e1
     | some x=>rw [ex] at e1;cases e1
   · rw [List.getElem?_append_right (by simpa using hi),List.getElem?_replicate] at e1
     split at e1 <;> cases e1
 p0 p h:=(hp p h).1
 len:=by unfold a1E L2.a1Y;simp [r.length]
 newp p h hn:=absurd h hn
section
variable {P:Program}{w:World}{K:PySem.W.Frag}{mg:Str→Option Value}{base:Heap}{T:PotK}
theorem a4b {x:Str}{st:Stmt}{N ps:List Str}{k:Nat}{body:pS}(F0:Fn0 K mg x st)(sc:a0y N ps (a0h st))
   (bd:∀(kV doc pm:Value) (an:Option Addr) (cdv ct:Value) (us:List Value),us.length=ps.length→bindArgs (PySem.W.fnOf x x (a0X st) (a0E st) (a0h st) .none kV doc pm an cdv ct) ⟨us,[]⟩=pure (ps.zip us))
   (h:∀(f:Addr) (cdv:Value) (A:Around) (outer:List PySem.Env) (s:Shared) (H:Hp) (E:XK),Room k (A.deeper (PyProof.Rows.envOfC x (a0h st) s.heap.objs.size f cdv))→
     QSs T false K (fun _:Unit=>(cxOf CX0 P w K mg base N x (a0h st) f cdv A outer s H E).nox) (a0E st) body) :
   Kn P w K mg base x (k + 1) ps (a0w K T (fnP N ps body)):=by
 refine F0.ok sc (fun vs H Q E h=>?_) bd (fun f cdv A outer s H vs Q E hr hsp=>?_)
 · obtain⟨G,xs,n,R,_,_,r,hf,_⟩:=h;rw [← r.length];exact hf.1
 · obtain⟨t,h1,h2⟩:=h f cdv A outer s H E hr;obtain⟨G,xs,n,R,hp,hm,r,hf,k'⟩:=hsp;refine⟨t,h1 (),?_⟩;have S0:=a4i (N:=N) (np:=false) hp hm r
   have fin:∀(x:PV) (n':Nat) (v:V) (G':Gh) (σ:St) (H':Hp) (env:Env),R x n'→SR ⟨K,T,G.M,G.pots,H,false⟩ G' σ H' env n'→Rep K ⟨G.M,G'.pots⟩ H' x v→Q v H':=by
     intro x n' v G' σ H' env rr S' rv
     have ep:G'.pots=G.pots:=by
       obtain⟨l,el,hl⟩:=S'.pre;rcases hl with hl | hl
       · rw [el,hl,List.append_nil]
       · cases hl
     rw [ep] at rv;exact k' _ _ _ _ rr rv (fun p hp'=>T.more (S'.pots p (by rw [ep];exact hp')).2 fun a ha=>.inl (S'.sup a ha)) S'.frame
   refine h2 _ G _ H _ n _ _ rfl rfl rfl S0 hf.2 ⟨fun env n' G' σ H' q S' _=>?_,fun x n' v G' σ H' env q S' rv _=>fin x n' v G' σ H' env q S' rv,fun _ _ _ _ _ q=>q.elim,fun _ _ _ _ _ q=>q.elim⟩;exact fin .non n' .non G' σ H' env q S' rfl
theorem law_ok {x:Str}{st:Stmt}{N:List Str}{y:Str}{k:Nat}{body:pS}(F0:Fn0 K mg x st)(sc:a0y N [y] (a0h st))
   (bd:∀(kV doc pm:Value) (an:Option Addr) (cdv ct:Value) (us:List Value),us.length=[y].length→bindArgs (PySem.W.fnOf x x (a0X st) (a0E st) (a0h st) .none kV doc pm an cdv ct) ⟨us,[]⟩=pure ([y].zip us))
   (h:∀(f:Addr) (cdv:Value) (A:Around) (outer:List PySem.Env) (s:Shared) (H:Hp) (E:XK),Room k (A.deeper (PyProof.Rows.envOfC x (a0h st) s.heap.objs.size f cdv))→
     QSs T true K (fun _:Unit=>(cxOf CX0 P w K mg base N x (a0h st) f cdv A outer s H E).nox) (a0E st) body)
   (hlaw:∀ns:List Int,ns.length≤63→body ⟨fun _ _=>False,fun r _=>r=.bl true,fun _ _=>False,fun _ _=>False⟩ (a1E N [.scr ns]) 0) :
   Kn P w K mg base x (k + 1) [y] (a6U K):=by
 refine F0.ok sc (fun vs H Q E h=>?_) bd (fun f cdv A outer s H vs Q E hr hsp=>?_)
 · obtain⟨a,ns,rfl,_⟩:=h
   rfl
 · obtain⟨t,h1,h2⟩:=h f cdv A outer s H E hr;obtain⟨a,ns,rfl,hS,hl,hO,q⟩:=hsp;refine⟨t,h1 (),?_⟩
   let G:Gh:=⟨[],[]⟩
   have r:Reps K G H [.scr ns] [.ref a]:=by
     refine .one ⟨a,rfl,?_⟩;rcases hS with(hS | ⟨o,hS⟩) | hS
     · rcases hO a with z | ⟨o,xs,z⟩
       · rw [z] at hS;cases hS
       · rw [z] at hS;cases hS
     · exact .inl ⟨by simp [G],o,hS⟩
     · exact .inr hS
   have S0:=a4i (T:=T) (N:=N) (np:=true) (n:=0) (G:=G) (fun p hp=>nomatch hp) (fun a ha=>nomatch ha) r;refine h2 _ G _ H _ 0 _ _ rfl rfl rfl S0 (hlaw ns hl) ⟨fun _ _ _ _ _ q=>q.elim,fun x n' v G' σ H' env qq S' rv _=>?_,fun _ _ _ _ _ q=>q.elim,fun _ _ _ _ _ q=>q.elim⟩;subst qq;obtain rfl:v=.bl true:=rv;exact q H'
end
structure a6P (own seed go:Int):Prop where
 o0:0≤own
 s0:0≤seed
 s1:seed < 2 ^ 62
 g0:0≤go
 g1:go≤2 ^ 40
def PotAt (H:Hp)(p:Addr)(n:Nat):Prop:=∃own seed go,H p=some (.lst [.int own,.int seed,.int go])∧a6P own seed go∧go≤(n:Int)
def potL:PotK where
 at_:=fun _ H p n=>PotAt H p n
 mono:=fun⟨own,seed,go,a,b,c⟩ h=>⟨own,seed,go,a,b,by omega⟩
 keep:=fun⟨own,seed,go,a,b,c⟩ e _=>⟨own,seed,go,e.trans a,b,c⟩
 more:=fun h _=>h
 mu:=fun⟨own,seed,go,a,b,c⟩=>⟨_,a,trivial⟩
def a3O:pF:=fun xs n R=>match xs with | [.pot _,.int m]=>(0 < m∧m < 1000000∧n < 1000000000)∧∀d:Int,0≤d→d < m→R (.int d) (n + 1) | _=>False
section
variable {P:Program}{w:World}{K:PySem.W.Frag}{mg:Str→Option Value}{base:Heap}
def spDraw:Sp:=fun vs H Q _=>∃(p:Addr) (own seed go many:Int),vs=[.ref p,.int many]∧H p=some (.lst [.int own,.int seed,.int go])∧a6P own seed go∧go < 2 ^ 40∧0 < many∧many < 1000000∧
 ∀d own' seed' go',0≤d→d < many→a6P own' seed' go'→go'≤go + 1→Q (.int d) (upd H p (.lst [.int own',.int seed',.int go']))
theorem a6C {x:Str}{k:Nat}{ps:List Str}(G:Kn P w K mg base x k ps spDraw):Kn P w K mg base x k ps (a0w K potL a3O):=G.imp fun vs H Q E h=>by
 obtain⟨G,xs,n,R,hp,hm,r,hf,k⟩:=h;unfold a3O at hf
 split at hf
 · rename_i kk m;obtain⟨v,rr,rfl,rv,u,r2,rfl,ru,rfl⟩:=r;obtain⟨p,ep,rfl⟩:=rv;obtain rfl:u=.int m:=ru;have pin:p∈G.pots:=List.mem_of_getElem? ep;obtain⟨pM,own,seed,go,e,ok,hg⟩:=hp p pin;refine⟨p,own,seed,go,m,rfl,e,ok,by omega,hf.1.1,hf.1.2.1,fun d own' seed' go' d0 d1 ok' g'=>?_⟩;refine k _ _ _ _ (hf.2 d d0 d1) rfl (fun q hq=>?_) fun b o hb eb=>?_
   · by_cases hqp:q=p
     · subst hqp;exact⟨own',seed',go',a0i,ok',by omega⟩
     · obtain⟨_,o2,s2,g2,e2,ok2,hg2⟩:=hp q hq;exact⟨o2,s2,g2,by rw [a0g hqp];exact e2,ok2,by omega⟩
   · rw [a0g (fun z=>hb (by rw [z];exact pin))];exact eb
 · exact hf.elim
end
section
variable {ι:Type}{K:PySem.W.Frag}{F:ι→Cx}{e:Expr}{es:List Expr}{st:Stmt}{pos:Pos}{pl:pA}{pe pa pb:pE}
theorem SR.pot {C:Ct}{G:Gh}{σ:St}{H:Hp}{env:Env}{n:Nat}(S:SR C G σ H env n)(hn:C.np=true)(hT:C.T=potL){p:Addr}{own seed:Int}(h:H p=none)(ok:a6P own seed 0) :
   SR C ⟨p::G.M,G.pots++[p]⟩ σ (upd H p (.lst [.int own,.int seed,.int 0])) env n:=by
 have S1:=S.more (vs:=[.int own,.int seed,.int 0]) h
 have mm:∀{x:PV} {v:V} {H:Hp},Rep C.K ⟨p::G.M,G.pots⟩ H x v→Rep C.K ⟨p::G.M,G.pots++[p]⟩ H x v:=fun r=>Rep.mono (G:=⟨p::G.M,G.pots⟩) (G':=⟨p::G.M,G.pots++[p]⟩) (fun _ _ _ e=>e) (fun _ ha=>.inl ha) (fun k q e=>by
   obtain⟨hk,_⟩:=List.getElem?_eq_some_iff.mp e;show(G.pots++[p])[k]?=_
   rw [List.getElem?_append_left hk];exact e) _ _ r
 have mms:∀{x:List PV} {v:List V} {H:Hp},Reps C.K ⟨p::G.M,G.pots⟩ H x v→Reps C.K ⟨p::G.M,G.pots++[p]⟩ H x v:=fun r=>Reps.mono (G:=⟨p::G.M,G.pots⟩) (G':=⟨p::G.M,G.pots++[p]⟩) (fun _ _ _ e=>e) (fun _ ha=>.inl ha) (fun k q e=>by
   obtain⟨hk,_⟩:=List.getElem?_eq_some_iff.mp e;show(G.pots++[p])[k]?=_
   rw [List.getElem?_append_left hk];exact e) _ _ r
 have pM:=S.fresh h
 exact {
   frame:=S1.frame
   sub:=S1.sub
   sup:=S1.sup
   pots:=fun q hq=>by
     rcases List.mem_append.mp hq with z | z
     · exact S1.pots q z
     · rw [List.mem_singleton.mp z];refine⟨List.mem_cons_self,?_⟩;rw [hT];exact⟨own,seed,0,a0i,ok,by omega⟩
   pre:=by
     obtain⟨l,el,_⟩:=S1.pre;have el':G.pots=C.pots0++l:=el;exact⟨l++[p],by rw [el',List.append_assoc],.inr hn⟩
   mu:=S1.mu
   slots:=fun i s e=>by
     cases s with
     | v x =>
       obtain⟨v,ev,r⟩:=S1.slots i _ e;exact⟨v,ev,mm r⟩
     | ow kk xs =>
       obtain⟨b,us,ev,h1,h2,h3,h4,r⟩:=S1.slots i _ e;obtain⟨b',us',ev',g1,_⟩:=S.slots i _ e;rw [ev] at ev';cases ev';refine⟨b,us,ev,h1,h2,fun z=>?_,h4,mms r⟩;rcases List.mem_append.mp z with z | z
       · exact h3 z
       · rw [List.mem_singleton.mp z] at g1;exact pM g1
   inj:=S1.inj
   p0:=S1.p0
   len:=S1.len
   newp:=fun q hq hn' hM=>by
     rcases List.mem_append.mp hq with z | z
     · exact S1.newp q z hn' hM
     · rw [List.mem_singleton.mp z] at hM
       exact pM (S.sup p hM) }
end
end Pu
end
section
set_option maxHeartbeats 1000000
namespace Pu
open PySem PySem.Spec L2
section
variable {T:PotK}{np:Bool}{ι:Type}{K:PySem.W.Frag}{F:ι→Cx}{e a b c:Expr}{es:List Expr}{pe pa pb pc:pE}{pos:Pos}{pl pr:pA}
def a2t:List PV→Option (List Str)
 | []=>some []
 | .str b::xs=>(a2t xs).map (b::·)
 | _=>none
theorem a3m {G:Gh}{H:Hp}:∀{xs:List PV} {vs:List V} {bs:List Str},a2t xs=some bs→Reps K G H xs vs→vs=bs.map V.str
 | [],vs,bs,h,r=>by cases h;exact r
 | .str b :: xs, vs, bs, h, r => by
   obtain⟨v,t,e,rv,rt⟩:=r;cases e1:a2t xs with
   | none=>simp [a2t,e1] at h
   | some cs =>
     have:b::cs=bs:=by simpa [a2t,e1] using h
     subst this;rw [e,show v=.str b from rv,a3m e1 rt]
     rfl
 | .non::_,_,_,h,_=>by cases h
 | .int _::_,_,_,h,_=>by cases h
 | .bl _::_,_,_,h,_=>by cases h
 | .ty _::_,_,_,h,_=>by cases h
 | .pot _::_,_,_,h,_=>by cases h
 | .tup _::_,_,_,h,_=>by cases h
 | .lst _::_,_,_,h,_=>by cases h
 | .dct _ _::_,_,_,h,_=>by cases h
 | .scr _::_,_,_,h,_=>by cases h
theorem a3l:∀bs:List Str,a2t (bs.map PV.str)=some bs
 | []=>rfl
 | b::bs=>by simp [a2t,a3l bs]
def wNeg:w1:=fun x R=>match x with | .int i=>R (.int (-i)) | _=>False
theorem a7J (h:QE T K F a pa):QE T K F (.UnaryOp .USub a pos) (qUn wNeg pa):=by
 obtain⟨t,a1,a2⟩:=h.r;refine⟨_,fun z=>pe_un a7D (a1 z),ok_un (fun G H x v R Q hf rx hw k=>?_) a2⟩;unfold wNeg at hw
 split at hw
 · exact⟨_,rx.int,k _ _ _ hw (Same.refl _) rfl⟩
 · exact hw.elim
end
def a4q (i:Nat)(pe:pE):pE:=fun env n R=>(∃xs,env[i]?=some (some (.ow .lst xs)))∧a3U i pe env n R
end Pu
end
section
set_option maxHeartbeats 1000000
namespace Pu
open PySem PySem.Spec L2
theorem a0C {g:pG}{b:pS}{D:a2x}(I:Nat→Env→Nat→Prop):∀(xs:List PV) (k:Nat) (env:Env) (n:Nat),I k env n→
   (∀(i:Nat) x env n (N:Env→Nat→Prop),xs[i]?=some x→I (k + i) env n→(∀e m,I (k + i + 1) e m→N e m)→g x env fun env1=>b { D with nx:=N,ct:=N,bk:=D.nx } env1 n)→(∀env n,I (k + xs.length) env n→D.nx env n)→forL g b D xs env n
 | [],k,env,n,h0,_,hd=>hd env n h0
 | x :: xs, k, env, n, h0, hs, hd => by
   show g x env fun env1=>b { D with nx:=fun e m=>forL g b D xs e m,ct:=fun e m=>forL g b D xs e m,bk:=D.nx } env1 n;refine hs 0 x env n _ rfl h0 fun e m h1=>?_;refine a0C I xs (k + 1) e m h1 (fun i y env n N e1 h2 h3=>?_) fun env n h2=>hd env n (by rw [List.length_cons,show k + (xs.length + 1)=k + 1 + xs.length by omega];exact h2);refine hs (i + 1) y env n N (by simpa using e1) (by rw [show k + (i + 1)=k + 1 + i by omega];exact h2) fun e m h4=>h3 e m (by rw [show k + 1 + i + 1=k + (i + 1) + 1 by omega];exact h4)
theorem a1d {j i:Nat}{lo:Int}{x:PV}(h:((List.range j).map fun(k:Nat)=>PV.int (lo + k))[i]?=some x):i < j∧x=.int (lo + i):=by
 rw [List.getElem?_map] at h;cases e:(List.range j)[i]? with
 | none=>rw [e] at h;cases h
 | some y =>
   rw [e] at h;obtain⟨h1,h2⟩:=List.getElem?_eq_some_iff.mp e;rw [List.getElem_range] at h2;cases h;subst h2;exact⟨by simpa using h1,rfl⟩
theorem a1c {j:Nat}{lo:Int}:((List.range j).map fun(k:Nat)=>PV.int (lo + k)).length=j:=by simp
theorem a3h {α:Type}{xs:List α}{d:Int}(h0:0≤d)(h1:d < xs.length):∃x,x∈xs∧atI xs d=some x:=by
 obtain⟨x,e1,e2⟩:=a4g h0 h1;exact⟨x,List.mem_of_getElem? e1,e2⟩
theorem a8a (a b:Int):eqP (.int a) (.int b)=decide (a=b):=by
 show(a == b)=_;rw [Bool.beq_eq_decide_eq]
theorem a4F (a b:Str):eqP (.str a) (.str b)=decide (a=b):=by
 show(a == b)=_;rw [Bool.beq_eq_decide_eq]
theorem a8b (a b:Bool):eqP (.bl a) (.bl b)=decide (a=b):=by
 show(a == b)=_;rw [Bool.beq_eq_decide_eq]
theorem a7Z (xs ys:List PV):eqP (.lst xs) (.lst ys)=eqPs xs ys:=rfl
theorem a7Y (xs ys:List PV):eqP (.tup xs) (.tup ys)=eqPs xs ys:=rfl
theorem a6y (x y:PV)(xs ys:List PV):eqPs (x::xs) (y::ys)=(eqP x y && eqPs xs ys):=rfl
theorem a9h:eqPs [] []=true:=rfl
theorem if_t {A B:Prop}{b:Bool}(h:b=true)(q:A):if b=true then A else B:=by rw [if_pos h];exact q
theorem if_f {A B:Prop}{b:Bool}(h:b=false)(q:B):if b=true then A else B:=by rw [if_neg (by rw [h];exact Bool.false_ne_true)];exact q
end Pu
end
section
set_option maxHeartbeats 1000000
namespace L2
open PySem PySem.Spec PyProof.Rows
def keyD:Key→PyData
 | .inl i=>.int i
 | .inr x=>.str x
mutual
def RdD (H:Hp):PyData→V→Prop
 | .none,v=>v=.non
 | .bool b,v=>v=.bl b
 | .int i,v=>v=.int i
 | .str x,v=>v=.str x
 | .list xs,v=>∃a vs,v=.ref a∧H a=some (.lst vs)∧RdDs H xs vs
 | .tuple xs,v=>∃a vs,v=.ref a∧H a=some (.tup vs)∧RdDs H xs vs
 | .dict kvs,v=>∃a ws,v=.ref a∧H a=some (.dK ws)∧RdKv H kvs ws
def RdDs (H:Hp):List PyData→List V→Prop
 | [],vs=>vs=[]
 | d::ds,vs=>∃v r,vs=v::r∧RdD H d v∧RdDs H ds r
def RdKv (H:Hp):List (PyData×PyData)→List (Key×V)→Prop
 | [],ws=>ws=[]
 | (k,d)::r,ws=>∃q w ws',ws=(q,w)::ws'∧k=keyD q∧RdD H d w∧RdKv H r ws'
end
section
variable {P:Program}{w:World}{H:Hp}{h:Heap}
mutual
theorem a2N (hok:HOk P w H h)(sy:NS H):∀(d:PyData) (v:V) (u:Value),RdD H d v→RelV v u→∃as,Reads h u d as∧sysModules∉as
 | .none, v, u, r, e => by
   obtain rfl:v=.non:=r;obtain rfl:u=.none:=e;exact⟨[],.none,nofun⟩
 | .bool b, v, u, r, e => by
   obtain rfl:v=.bl b:=r;obtain rfl:u=.bool b:=e;exact⟨[],.bool b,nofun⟩
 | .int i, v, u, r, e => by
   obtain rfl:v=.int i:=r;obtain⟨t,rfl⟩:=e;exact⟨[],.int i t,nofun⟩
 | .str x, v, u, r, e => by
   obtain rfl:v=.str x:=r;obtain⟨t,rfl⟩:=e;exact⟨[],.str x t,nofun⟩
 | .list xs, v, u, r, e => by
   obtain⟨a,vs,rfl,ha,rs⟩:=r;obtain rfl:u=.ref a:=e;obtain⟨_,its,n,rv,ho⟩:=hok a _ ha;obtain⟨as,rr,ns⟩:=a2f hok sy xs vs its rs rv;refine⟨a::as,.list ho rfl rfl rr,fun z=>?_⟩;rcases List.mem_cons.mp z with z | z
   · rw [← z] at ha;rcases sy with sy | ⟨o,u,sy⟩ <;> rw [sy] at ha <;> cases ha
   · exact ns z
 | .tuple xs, v, u, r, e => by
   obtain⟨a,vs,rfl,ha,rs⟩:=r;obtain rfl:u=.ref a:=e;obtain⟨_,its,rv,ho⟩:=hok a _ ha;obtain⟨as,rr,ns⟩:=a2f hok sy xs vs its rs rv;obtain⟨o,e1,e2,n,e3⟩:=ho;exact⟨as,.tuple e1 (Prod.mk.inj e2).1 e3 rr,ns⟩
 | .dict kvs, v, u, r, e => by
   obtain⟨a,ws,rfl,ha,rs⟩:=r;obtain rfl:u=.ref a:=e;obtain⟨_,hs,us,rv,o,es,ep,e1,e2,e3,_,e5,_⟩:=hok a _ ha;obtain⟨as,bs,r1,r2,n1,n2⟩:=a3r hok sy kvs ws us es.toList rs rv e5;refine⟨a::as++bs,.dict e1 e2.1 e3 r1 r2,fun z=>?_⟩;rcases List.mem_append.mp z with z | z
   · rcases List.mem_cons.mp z with z | z
     · rw [← z] at hs;exact absurd hs (by decide)
     · exact n1 z
   · exact n2 z
theorem a2f (hok:HOk P w H h)(sy:NS H):∀(ds:List PyData) (vs:List V) (us:List Value),RdDs H ds vs→Vals vs us→∃as,ReadsAll h us ds as∧sysModules∉as
 | [], vs, us, r, e => by
   obtain rfl:vs=[]:=r;cases e;exact⟨[],.nil,nofun⟩
 | d :: ds, vs, us, r, e => by
   obtain⟨v,r',rfl,r1,r2⟩:=r;cases e with
   | cons e1 e2 =>
     obtain⟨as,a1,a2⟩:=a2N hok sy d v _ r1 e1;obtain⟨bs,b1,b2⟩:=a2f hok sy ds r' _ r2 e2;exact⟨as++bs,.cons a1 b1,fun z=>(List.mem_append.mp z).elim a2 b2⟩
theorem a3r (hok:HOk P w H h)(sy:NS H):∀(kvs:List (PyData×PyData)) (ws:List (Key×V)) (us:List (Key×Value)) (es:List DictEntry),RdKv H kvs ws→KV ws us→Pairs (a0W P w) es us→
   ∃as bs,ReadsAll h (es.map (·.key)) (kvs.map (·.1)) as∧ReadsAll h (es.map (·.val)) (kvs.map (·.2)) bs∧sysModules∉as∧sysModules∉bs
 | [], ws, us, es, r, e, p => by
   obtain rfl:ws=[]:=r;cases e;cases p;exact⟨[],[],.nil,.nil,nofun,nofun⟩
 | (k, d) :: kvs, ws, us, es, r, e, p => by
   obtain⟨q,w1,ws',rfl,rfl,r1,r2⟩:=r;cases e with
   | cons e1 e2 =>
     cases p with
     | cons p1 p2 p3 =>
       obtain⟨as,bs,a1,a2,a3,a4⟩:=a3r hok sy kvs ws' _ _ r2 e2 p3;obtain⟨e1,e1'⟩:=e1;dsimp only at e1 e1';obtain⟨cs,c1,c2⟩:=a2N hok sy d w1 _ r1 e1';rw [← e1] at p1;refine⟨[]++as,cs++bs,.cons ?_ a1,.cons (by dsimp only;rw [p2];exact c1) a2,a3,fun z=>(List.mem_append.mp z).elim c2 a4⟩;rcases a0q p1 with⟨i,t,rfl,e⟩ | ⟨x,t,rfl,e⟩
       · dsimp only;rw [e];exact .int i t
       · dsimp only;rw [e];exact .str x t
end
end
section
variable {X:Cx}{pins:List (Addr×Obj)}{σ:St}{H:Hp}{s:Shared}
theorem a6J {k:Nat}(hr:Room k X.A):a0U X (.builtin "repr") (fun vs H Q=>∃v d,vs=[v]∧RdD H d v∧d.showable=true∧d.depth≤40∧d.shown.length≤sizeLine∧Q (.str d.shown) H):=by
 intro pins s σ H vs us Q I rv h;obtain⟨v,d,rfl,r,h1,h2,h3,q⟩:=h;obtain⟨u,rfl,ru⟩:=rv.one;obtain⟨as,rr,ns⟩:=a2N I.hok I.nos d v u r ru;have fin:∀(h':Heap) (t:Tok) (tk:Tok),(∀b o,s.heap.get? b=some o→h'.get? b=some o)→∃v' H',Inv X pins σ H' { s with heap:=h',toks:=tk }∧RelV v' (.str d.shown t)∧Q v' H':=fun h' t tk kp=>⟨.str d.shown,H,I.kept kp,⟨t,rfl⟩,q⟩;cases rr with
 | none=>exact P.repr_of_none (fin s.heap _ _ fun _ _ z=>z)
 | bool b=>exact P.repr_of_bool (by cases b <;> exact fin s.heap _ _ fun _ _ z=>z)
 | int i t=>exact P.repr_of_int (by simpa [PyData.showable] using h1) (fin s.heap _ _ fun _ _ z=>z)
 | str x t=>exact P.repr_of_str (fin s.heap _ _ fun _ _ z=>z) h3
 | list e1 e2 e3 e4=>exact repr_of_reads' (.list e1 e2 e3 e4) h1 (fun _=>ns) hr.gd (by have:=hr.units;omega) (fun _ _ z=>z) (fun h' u tk kp=>fin h' u tk kp) h3
 | tuple e1 e2 e3 e4=>exact repr_of_reads' (.tuple e1 e2 e3 e4) h1 (fun _=>ns) hr.gd (by have:=hr.units;omega) (fun _ _ z=>z) (fun h' u tk kp=>fin h' u tk kp) h3
 | dict e1 e2 e3 e4 e5=>exact repr_of_reads' (.dict e1 e2 e3 e4 e5) h1 (fun _=>ns) hr.gd (by have:=hr.units;omega) (fun _ _ z=>z) (fun h' u tk kp=>fin h' u tk kp) h3
end
end L2
namespace Pu
open PySem PySem.Spec L2
mutual
/-- what a thing holds, for repr -/
def dat:PV→Option PyData
 | .non=>some .none
 | .bl b=>some (.bool b)
 | .int i=>some (.int i)
 | .str x=>some (.str x)
 | .tup xs=>match dats xs with | some ds=>some (.tuple ds) | none=>none
 | .lst xs=>match dats xs with | some ds=>some (.list ds) | none=>none
 | .dct ks xs=>match dats xs with | some ds=>some (.dict ((ks.map keyD).zip ds)) | none=>none
 | _=>none
def dats:List PV→Option (List PyData)
 | []=>some []
 | x::xs=>match dat x,dats xs with | some d,some ds=>some (d::ds) | _,_=>none
end
theorem kv_rd {H:Hp}:∀(kvs:List (Key×V)) (ds:List PyData),RdDs H ds (kvs.map (·.2))→RdKv H (((kvs.map (·.1)).map keyD).zip ds) kvs
 | [], ds, r => by
   cases ds with
   | nil=>exact rfl
   | cons d ds=>obtain⟨v,r',e,_⟩:=r;cases e
 | (q, w) :: kvs, ds, r => by
   cases ds with
   | nil=>exact(List.cons_ne_nil _ _ r).elim
   | cons d ds =>
     obtain⟨v,r',e,r1,r2⟩:=r;cases e;exact⟨q,w,kvs,rfl,rfl,r1,kv_rd kvs ds r2⟩
section
variable {K:PySem.W.Frag}{G:Gh}{H:Hp}
mutual
theorem a7H:∀(x:PV) (v:V) (d:PyData),Rep K G H x v→dat x=some d→RdD H d v
 | .non,v,d,r,e=>by cases e;exact r
 | .bl b,v,d,r,e=>by cases e;exact r
 | .int i,v,d,r,e=>by cases e;exact r
 | .str x,v,d,r,e=>by cases e;exact r
 | .tup xs, v, d, r, e => by
   obtain⟨a,vs,rfl,t,rs⟩:=r;rw [dat] at e;cases ed:dats xs with
   | none=>rw [ed] at e;cases e
   | some ds=>rw [ed] at e;cases e;exact⟨a,vs,rfl,t.2,a2d xs vs ds rs ed⟩
 | .lst xs, v, d, r, e => by
   obtain⟨a,vs,rfl,t,rs⟩:=r;rw [dat] at e;cases ed:dats xs with
   | none=>rw [ed] at e;cases e
   | some ds=>rw [ed] at e;cases e;exact⟨a,vs,rfl,t.2,a2d xs vs ds rs ed⟩
 | .ty _,v,d,r,e=>by cases e
 | .pot _,v,d,r,e=>by cases e
 | .scr _,v,d,r,e=>by cases e
 | .dct ks xs, v, d, r, e => by
   obtain⟨a,kvs,rfl,_,ha,hk,rs⟩:=r;rw [dat] at e;cases ed:dats xs with
   | none=>rw [ed] at e;cases e
   | some ds=>rw [ed] at e;cases e;exact⟨a,kvs,rfl,ha,hk▸kv_rd kvs ds (a2d xs _ ds rs ed)⟩
theorem a2d:∀(xs:List PV) (vs:List V) (ds:List PyData),Reps K G H xs vs→dats xs=some ds→RdDs H ds vs
 | [],vs,ds,r,e=>by cases e;exact r
 | x :: xs, vs, ds, r, e => by
   obtain⟨v,r',rfl,r1,r2⟩:=r;rw [dats] at e;cases e1:dat x with
   | none=>rw [e1] at e;cases e
   | some d =>
     cases e2:dats xs with
     | none=>rw [e1,e2] at e;cases e
     | some ds'=>rw [e1,e2] at e;cases e;exact⟨v,r',rfl,a7H x v d r1 e1,a2d xs r' ds' r2 e2⟩
end
end
def a4M:w1:=fun x R=>match dat x with | some d=>d.showable=true∧d.depth≤40∧d.shown.length≤sizeLine∧R (.str d.shown) | none=>False
theorem bt_repr:bootBuiltins "repr"=some (.builtin "repr"):=by decide +kernel
section
variable {T:PotK}{ι:Type}{K:PySem.W.Frag}{F:ι→Cx}{e:Expr}{pe:pE}{pos:Pos}
theorem a5D {p:Pos}{k:Nat}(hr:∀z,Room k (F z).A)(hg:∀z,Gl (F z) "repr")(hm:∀z,(F z).mg "repr"=none)(ha:QR T K F e pe)(hs:a0p e=true:=by rfl):QE T K F (.Call (.Name "repr" p) [e] [] pos) (qUn a4M pe):=a5E (fun z=>a6J (hr z)) (fun G H x v R Q hf rx hw k=>by
 unfold a4M at hw;cases ed:dat x with
 | none=>rw [ed] at hw;exact hw.elim
 | some d =>
   rw [ed] at hw;obtain⟨h1,h2,h3,q⟩:=hw;refine⟨v,d,rfl,?_,h1,h2,h3,k _ _ _ q (Same.refl _) rfl⟩;rcases rx with rx | ⟨a,vs,xs,rfl,rfl,hv,rs⟩
   · exact a7H x v d rx ed
   · rw [dat] at ed;cases es:dats xs with
     | none=>rw [es] at ed;cases ed
     | some ds=>rw [es] at ed;cases ed;exact⟨a,vs,rfl,hv,a2d xs vs ds rs es⟩) hg hm bt_repr ha hs
end
end Pu
end
section
set_option maxHeartbeats 1000000
namespace HT
open PySem PySem.Spec PyProof.Rows
section
variable {prog:Program}{w:World}{A:Around}{E:Value→Shared→Prop}{s:Shared}
theorem a5h (n:Nat):Builtin.Slice.sliceAdjust none none (-1) (n:Int)=((n:Int) - 1,-1):=rfl
theorem a4V (n:Nat):Builtin.Slice.slicePlaces ((n:Int) - 1) (-1) (-1)=n:=by
 unfold Builtin.Slice.slicePlaces;rw [if_neg (by decide)];have h1:(- -1:Int)=1:=by decide
 rw [h1]
 by_cases h:(n:Int) - 1 > -1
 · rw [if_pos h,Int.ediv_one];omega
 · rw [if_neg h];omega
theorem a1Z {sl:Addr}{vk:Value}{n:Nat}{Q:Int×Int×Nat→Shared→Prop}(hs:s.heap.IsSliceOf sl .none .none vk)(pk:IsPart vk (some (-1)))
   (h:Q ((n:Int) - 1,-1,n) s):wpAny (model prog w) A (Builtin.Slice.sliceApplied (.ref sl) (pure (n:Int))) Q E s:=by
 obtain⟨os,hos,hcs,hds⟩:=id hs;unfold Builtin.Slice.sliceApplied Builtin.Slice.sliceFields;refine wpAny_bind (wpAny_bind (wpAny_field hos hds (x:=.none) rfl (wpAny_bind (wpAny_field hos hds (x:=.none) rfl (wpAny_bind (wpAny_field hos hds (x:=vk) rfl (wpAny_pure ?_)))))));refine wpAny_bind (a0S pk ?_);show wpAny _ _ (if((-1:Int) == 0)=true then _ else _) _ _ s;rw [if_neg (by decide)];refine wpAny_bind (a0S .none (wpAny_bind (a0S .none (wpAny_bind (wpAny_pure ?_)))));show wpAny _ _ (match Builtin.Slice.sliceAdjust none none (-1) (n:Int) with | (lo,hi)=>pure (lo,(-1:Int),Builtin.Slice.slicePlaces lo hi (-1))) _ _ s;rw [a5h];show wpAny _ _ (pure ((n:Int) - 1,(-1:Int),Builtin.Slice.slicePlaces ((n:Int) - 1) (-1) (-1))) _ _ s;rw [a4V];exact wpAny_pure h
theorem a4C {α β:Type}{f g:α→Option β}:∀l:List α,(∀m∈l,f m=g m)→l.filterMap f=l.filterMap g
 | [],_=>rfl
 | x::l,h=>by rw [List.filterMap_cons,List.filterMap_cons,h x List.mem_cons_self,a4C l fun m hm=>h m (List.mem_cons_of_mem _ hm)]
theorem a7e (xs:Array Value):((List.range xs.size).filterMap fun(m:Nat)=>xs[((xs.size:Int) - 1 + (m:Int) * -1).toNat]?).toArray=xs.toList.reverse.toArray:=by
 congr 1
 have e:(List.range xs.size).filterMap (fun(m:Nat)=>xs[((xs.size:Int) - 1 + (m:Int) * -1).toNat]?)=((List.range xs.size).map fun k=>xs.size - 1 - k).filterMap (xs[·]?):=by
   rw [List.filterMap_map];refine a4C _ fun m hm=>?_;have:=List.mem_range.mp hm;show _=xs[xs.size - 1 - m]?
   congr 1
   omega
 rw [e,PySem.W.krv_range,List.filterMap_reverse,PySem.W.krv_all]
theorem getItem_tuple_rev {t sl:Addr}{items:Array Value}{vk:Value}{Q:Value→Shared→Prop}(ht:IsTup s.heap t items)(hs:s.heap.IsSliceOf sl .none .none vk)(pk:IsPart vk (some (-1)))
   (h:Q (.ref s.heap.objs.size) { s with heap:=s.heap.push { cls:=.type "tuple",data:=.seq items.toList.reverse.toArray } })
   (hsz:items.size≤sizeLine):wpAny (model prog w) A (getItem (.ref t) (.ref sl)) Q E s:=by
 have htake:sizeOk (.seq items.toList.reverse.toArray):=by
   show items.toList.reverse.toArray.size≤sizeLine;rw [List.size_toArray,List.length_reverse,Array.length_toList];omega
 obtain⟨os,hos,hcs,hds⟩:=id hs;have hTs:s.TypeIs (.ref sl) "slice":=⟨os,hos,hcs⟩;unfold getItem
 try with_reducible refine wpAny_holding ?_
 first | refine wpAny_bind (wpAny_pure ?_) | skip
 refine wpAny_bind (wpAny_sequenceKey ht.typeIs (by decide) ?_)
 refine wpAny_bind (wpAny_callSpecial?_slot (name:=Str.ofString "__getitem__") ht.typeIs PyProof.Rows.slot_tuple_getitem
   (wpAny_call_entry PyProof.Rows.slot_tuple_getitem ht.typeIs entry_tuple_getitem ?_ (args_tuple_getitem _ _)))
 show wpAny _ _ (Builtin.Tuple.tupleItemsOf (.ref t)>>=_) _ _ s;refine wpAny_bind (tupleItemsOf_ ht ?_);refine wpAny_bind (wpAny_typeOf hTs ?_);rw [if_pos (by decide)];refine wpAny_bind (a1Z hs pk ?_)
 have hno:¬((((items.size:Int) - 1) == 0 && (-1:Int) == 1 && items.size == items.size)=true):=by
   intro q;rw [Bool.and_eq_true,Bool.and_eq_true] at q;exact absurd (eq_of_beq q.1.2) (by decide)
 show wpAny _ _ (if(((items.size:Int) - 1) == 0 && (-1:Int) == 1 && items.size == items.size)=true then _ else _) _ _ s;rw [if_neg hno,a7e]
 first
   | exact wpAny_bind (m:=Builtin.Tuple.tupleExact _) (wpAny_newObj_type (wpAny_pure ⟨_,rfl,wpAny_pure h⟩) htake)
   | exact wpAny_bind (m:=Builtin.Tuple.tupleExact _) (wpAny_newObj_type (wpAny_bind (wpAny_pure (wpAny_pure ⟨_,rfl,wpAny_pure h⟩))) htake)
   | exact wpAny_bind (wpAny_bind (m:=Builtin.Tuple.tupleExact _) (wpAny_newObj_type (wpAny_pure (wpAny_pure ⟨_,rfl,wpAny_pure h⟩)) htake))
   | exact wpAny_bind (wpAny_bind (m:=Builtin.Tuple.tupleExact _) (wpAny_newObj_type (wpAny_pure ⟨_,rfl,wpAny_pure h⟩) htake))
end
end HT
namespace L2
open PySem PySem.Spec PyProof.Rows
section
variable {X:Cx}{e st:Expr}{te:TE}{ts:TE}{pos p2:Pos}
def rRev (K:PySem.W.Frag):V→Hp→VK→Prop:=fun x H Q=>∃a xs,x=.ref a∧((SqL K H a xs∧∀p,H p=none→Q (.ref p) (upd H p (.lst xs.reverse)))∨(SqT K H a xs∧∀p,H p=none→Q (.ref p) (upd H p (.tup xs.reverse))))
def tRev (K:PySem.W.Frag)(te ts:TE):TE:=fun σ H Q=>te σ H fun x H1=>ts σ H1 fun y H2=>y=.int (-1)∧rRev K x H2 Q
theorem Vals.rev {xs:List V}{us:List Value}(r:Vals xs us):Vals xs.reverse us.reverse:=by
 induction r with
 | nil=>exact .nil
 | cons r1 _ ih =>
   rw [List.reverse_cons,List.reverse_cons];exact ih.append (.cons r1 .nil)
theorem pe_rev (he:PE X e te)(hs:PE X st ts):PE X (.Subscript e (.Slice none none (some st) p2) pos) (tRev X.K te ts):=by
 intro pins s σ H Q I h;refine Subscript_ (thn (he pins s σ H _ I h) fun v s1 ⟨x,H1,I1,r1,q1⟩=>?_);refine wpAny_Slice ?_;rw [evalPart_none];refine wpAny_pure (wpAny_pure ?_);rw [evalPart_some];refine thn (hs pins s1 σ H1 _ I1 q1) fun vk s3 ⟨y,H3,I3,ry,q3⟩=>?_;obtain⟨rfl,a,xs,rfl,q⟩:=q3;obtain⟨t,rfl⟩:=ry;obtain rfl:v=.ref a:=r1;have I4:Inv X pins σ H3 { s3 with heap:=s3.heap.push { cls:=.type "slice",data:=.fields #[.none,.none,.int (-1) t] } }:=I3.kept (t':=s3.toks) fun b ob q=>Heap.get?_push_of_some _ q;show wpAny (model X.prog X.w) X.A (subscriptTail e (.Slice none none (some st) p2) (.ref a) (.ref s3.heap.objs.size)) (EP X pins σ Q) X.xe { s3 with heap:=s3.heap.push { cls:=.type "slice",data:=.fields #[.none,.none,.int (-1) t] } };rcases q with⟨hq,q⟩ | ⟨hq,q⟩
 · obtain⟨its,r,ht,hz⟩:=I4.list hq;refine tail_any (ops:=[.ref a,.ref s3.heap.objs.size]) ht.isList.typeIs slot_list_getitem.lookup ?_ (by with_unfolding_all rfl);refine wpAny_getItem_list_slice ht.isList (Heap.IsSliceOf.new ..) .none .none (.int (-1) t) (by decide) ?_ (by rw [List.size_toArray];have:=r.length;omega);rw [PySem.W.krv_pick];refine⟨.ref _,_,I4.laid (t':=s3.toks) (o:=.lst xs.reverse) (fun b ob q=>Heap.get?_push_of_some _ q) (Nat.le_refl _) ?_,rfl,q _ (I4.hok.fresh (Nat.le_refl _))⟩;exact⟨by rw [List.length_reverse];exact hz,its.reverse,0,r.rev,Heap.get?_push_size _ rfl⟩
 · obtain⟨its,r,ht,hz⟩:=I4.tuple hq;refine tail_any (ops:=[.ref a,.ref s3.heap.objs.size]) ht.typeIs PyProof.Rows.slot_tuple_getitem.lookup ?_ (by with_unfolding_all rfl);refine HT.getItem_tuple_rev ht (Heap.IsSliceOf.new ..) (.int (-1) t) ?_ (by rw [List.size_toArray];have:=r.length;omega);refine⟨.ref _,_,I4.laid (t':=s3.toks) (o:=.tup xs.reverse) (fun b ob q=>Heap.get?_push_of_some _ q) (Nat.le_refl _) ?_,rfl,q _ (I4.hok.fresh (Nat.le_refl _))⟩;exact⟨by rw [List.length_reverse];exact hz,its.reverse,r.rev,a1l.new _ _⟩
end
end L2
namespace Pu
open PySem PySem.Spec L2
section
variable {T:PotK}{ι:Type}{K:PySem.W.Frag}{F:ι→Cx}{e:Expr}{pe:pE}{pos p2 p3 p4:Pos}
theorem Reps.rev {K:PySem.W.Frag}{G:Gh}{H:Hp}:∀{xs:List PV} {vs:List V},Reps K G H xs vs→Reps K G H xs.reverse vs.reverse
 | [],vs,r=>by obtain rfl:vs=[]:=r;exact rfl
 | x :: xs, vs, r => by
   obtain⟨v,r',rfl,r1,r2⟩:=r;rw [List.reverse_cons,List.reverse_cons];exact(Reps.rev r2).append ⟨v,[],rfl,r1,rfl⟩
def wRev:w1:=fun x R=>match x with | .lst xs=>R (.lst xs.reverse) | .tup xs=>R (.tup xs.reverse) | _=>False
theorem qe_rev {i:Nat}(he:QR T K F e pe)(hK:∀z,(F z).K=K:=by intro _;rfl):QE T K F (.Subscript e (.Slice none none (some (.UnaryOp .USub (.Constant (.int 1) i p3) p4)) p2) pos) (qUn wRev pe):=by
 obtain⟨t,h1,h2⟩:=he;refine⟨_,fun z=>hK z▸pe_rev (h1 z) (pe_un a7D a0n),fun C G σ H env n R Q hK hT S hp k=>?_⟩;refine h2 C G σ H env n _ _ hK hT S hp fun x env1 n1 v H1 p1 S1 r1 f1=>?_;subst hK;have rx:=r1.rd S1;refine⟨1,rfl,rfl,?_⟩;unfold wRev at p1
 split at p1
 · obtain⟨a,vs,ev,hq,r⟩:=rx.lst;exact⟨a,vs,ev,.inl ⟨hq,fun p hn=>k _ _ _ _ _ p1 (S1.same (Same.lay1 hn)) (a1M (S1.fresh hn) hn r.rev) (f1.trans (Fr.of (Same.lay1 hn)))⟩⟩
 · obtain⟨a,vs,ev,hq,r⟩:=rx.tup;exact⟨a,vs,ev,.inr ⟨hq,fun p hn=>k _ _ _ _ _ p1 (S1.same (Same.lay1 hn)) (a1L (S1.fresh hn) hn r.rev) (f1.trans (Fr.of (Same.lay1 hn)))⟩⟩
 · exact p1.elim
end
end Pu
end
section
set_option maxHeartbeats 1000000
namespace L2
open PySem PySem.Spec PyProof.Rows
theorem a2A:∀{ys:List Str} {us:List Value},Vals (ys.map V.str) us→StrsAre us ys
 | [],us,r=>by rw [List.map_nil] at r;cases r;exact .nil
 | y :: ys, us, r => by
   rw [List.map_cons] at r;cases r with
   | cons r1 r2 =>
     obtain⟨t,e⟩:=r1;subst e;exact .cons y t (a2A r2)
end L2
end
section
set_option maxHeartbeats 1000000
namespace L2
open PySem PySem.Spec PyProof.Rows
section
variable {X:Cx}
def a6k {α:Type}(n:Int)(xs:List α):List α:=(List.replicate n.toNat xs).flatten
theorem a3C (items:List Value):∀(k:Nat) (acc:Array Value),List.foldl (fun x1 x2=>x1++x2) acc (List.replicate k items.toArray)=(acc.toList++(List.replicate k items).flatten).toArray
 | 0,acc=>by simp
 | k + 1, acc => by
   rw [List.replicate_succ,List.foldl_cons,a3C items k,List.replicate_succ,List.flatten_cons];simp
theorem a3i {xs:List V}{us:List Value}(r:Vals xs us):∀k:Nat,Vals (List.replicate k xs).flatten (List.replicate k us).flatten
 | 0=>.nil
 | k + 1 => by
   rw [List.replicate_succ,List.replicate_succ,List.flatten_cons,List.flatten_cons];exact r.append (a3i r k)
theorem a4w {α:Type}(xs:List α):∀k:Nat,(List.replicate k xs).flatten.length=k * xs.length
 | 0=>by simp
 | k + 1=>by rw [List.replicate_succ,List.flatten_cons,List.length_append,a4w xs k,Nat.succ_mul];omega
end
end L2
namespace Pu
open PySem PySem.Spec L2
section
variable {T:PotK}{ι:Type}{K:PySem.W.Frag}{F:ι→Cx}{a b:Expr}{pa pb:pE}{pos:Pos}
theorem a3s {K:PySem.W.Frag}{G:Gh}{H:Hp}{xs:List PV}{vs:List V}(r:Reps K G H xs vs):∀k:Nat,Reps K G H (List.replicate k xs).flatten (List.replicate k vs).flatten
 | 0=>rfl
 | k + 1 => by
   rw [List.replicate_succ,List.replicate_succ,List.flatten_cons,List.flatten_cons];exact r.append (a3s r k)
end
end Pu
end
section
set_option maxHeartbeats 1000000
namespace Pu
open PySem PySem.Spec L2
section
variable {T:PotK}{np:Bool}{ι:Type}{K:PySem.W.Frag}{F:ι→Cx}{e:Expr}{st:Stmt}{pe:pE}{pos:Pos}
theorem sw_aug {X:Cx}{i:Nat}{x:Str}{e:Expr}{op:Operator}{ti:TIp}{pos' pos:Pos}(hN:X.N.Nodup)(hi:X.N[i]?=some x)(hx:Loc X.env.scope x)(ho:OpR X (inplaceOp op) ti)(hf:X.fn x=true∨X.env.scope.names.lookup x=some .local:=by first | exact .inl rfl | exact .inr rfl | assumption)(te:TE)(h:EW X e te):SW X (.AugAssign (.Name x pos') op e pos) (tAug i te ti):=⟨ps_aug hN hi hx h.h ho hf⟩
def qAugL (i:Nat)(pe:pE):pS:=fun D env n=>(∃xs,env[i]?=some (some (.ow .lst xs)))∧pe env n fun y env1 n1=>match env1[i]?,y with | some (some (.ow .lst xs)),.lst ys=>xs.length + ys.length≤1000000∧D.nx (env1.set i (some (.ow .lst (xs++ys)))) n1 | _,_=>False
def qAug (i:Nat)(w:w2)(pe:pE):pS:=fun D env n=>match env[i]? with | some (some (.v x))=>(pe env n fun y env1 n1=>w x y fun z=>D.nx (env1.set i (some (.v z))) n1) | _=>False
theorem qs_aug (i:Nat){ti:TIp}{w:w2}(hw:W2 K ti w)(h:∀z te,EW (F z) e te→SW (F z) st (tAug i te ti))(he:QE T K F e pe):QS T np K F st (qAug i w pe):=by
 obtain⟨t,a1,a2⟩:=he;refine⟨_,fun z=>(h z _ ⟨a1 z⟩).h,fun C G σ H env n PD D hK hT hn S hp L=>?_⟩;unfold qAug at hp
 split at hp
 · rename_i x ex;obtain⟨v,ev,rv⟩:=S.slots i _ ex;refine⟨v,ev,?_⟩;refine a2 C G σ H env n _ _ hK hT S hp fun y env1 n1 u H1 q1 S1 r1 f1=>?_;subst hK;refine hw G H1 x y v u _ _ (fun p hp=>S1.fresh hp) (.inl (rv.fr f1)) (.inl r1) q1 fun z v' H' rz s rv'=>?_;exact L.nx _ _ _ _ _ rz ((S1.same s).set i rv') (Ext.fr (f1.trans (Fr.of s)))
 · exact hp.elim
def a8j:w2:=wI0 fun i j=>.int (i + j)
theorem a8t (i:Nat)(h:∀z te,EW (F z) e te→SW (F z) st (tAug i te (rI0 fun i j=>.int (i + j))))(he:QE T K F e pe):QS T np K F st (qAug i a8j pe):=qs_aug i (W2.I0 fun _ _ _ _=>rfl) h he
end
end Pu
end
section
set_option maxHeartbeats 1000000
namespace Pu
open PySem PySem.Spec L2
section
variable {ι:Type}{K:PySem.W.Frag}{F:ι→Cx}{a b:Expr}{pos pos':Pos}{pa pb:pE}
def a4j (K:PySem.W.Frag):Sp:=fun vs H Q _=>∃(a:Addr) (ns:List Int) (k:Int),vs=[.ref a,.int k]∧SqL K H a (ns.map V.int)∧ns.length≤63∧0≤k∧k≤1000∧
 ∀H1,Same H H1→∀p own seed,H1 p=none→a6P own seed 0→Q (.ref p) (upd H1 p (.lst [.int own,.int seed,.int 0]))
def a2W (i:Nat)(pa pb:pE):pS:=fun D env n=>pa env n fun x env1 n1=>pb env1 n1 fun y env2 n2=>match x,y with | .scr ns,.int k=>(ns.length≤63∧0≤k∧k≤1000)∧∀q:Nat,D.nx (env2.set i (some (.v (.pot q)))) n2 | _,_=>False
theorem a4S (i:Nat){st:Stmt}{x:Str}{p:Pos}{k j:Nat}{ps:List Str}(h:∀z te,EW (F z) (.Call (.Name x p) [a,b] [] pos) te→SW (F z) st (tAsg te (a1K i)))(hG:∀z,Kn (F z).prog (F z).w (F z).K (F z).mg (F z).base x k ps (a4j K))(hr:∀z,Room j (F z).A)(hk:k≤j)(hg:∀z,Gl (F z) x)
   (ha:QE potL K F a pa) (hb:QE potL K F b pb) (n1:a0p a=true:=by rfl) (n2:a0p b=true:=by rfl) (hdb:(x == ("__debug__":Str))=false:=by decide):QS potL true K F st (a2W i pa pb):=by
 obtain⟨t,a1,a2⟩:=ha;obtain⟨u,b1,b2⟩:=hb;refine⟨_,fun z=>(h z _ ⟨pe_fn (hG z) (hr z) hk (hg z) (a0l (a1 z) (a0l (b1 z) a0z (a0c n2)) (a0c n1)) hdb (a0c n1) (by rw [a0c n2];rfl)⟩).h,fun C G σ H env n PD D hK hT hn S hp L=>?_⟩;refine a2 C G σ H env n _ _ hK hT S hp fun x env1 n1 v H1 q1 S1 r1 f1=>?_;refine b2 C G σ H1 env1 n1 _ _ hK hT S1 q1 fun y env2 n2 w H2 q2 S2 r2 f2=>?_
 split at q2
 · rename_i ns kk;obtain⟨a,ev,hq⟩:=a3q (.inl (r1.fr f2));refine(show a4j K [v,w] H2 (fun x H1=>a1K i x σ H1 D.nx) E0 from ?_);refine⟨a,ns,kk,by rw [ev,show w=.int kk from r2],hq,q2.1.1,q2.1.2.1,q2.1.2.2,fun H3 sm p own seed hn' ok=>?_⟩;have S3:=(S2.same sm).pot hn hT hn' ok;have S4:=S3.set i (x:=.pot G.pots.length) (v:=.ref p) ⟨p,by simp,rfl⟩;refine L.nx _ _ _ _ _ (q2.2 _) S4 ((Ext.fr ((f1.trans f2).trans (Fr.of sm))).trans ⟨fun b o _ e=>Same.lay1 hn' b o e,fun c hc=>(List.mem_cons.mp (show c∈p::G.M from hc)).elim (fun z=>.inr (z▸hn')) .inl,fun k q e=>?_⟩);obtain⟨hk,_⟩:=List.getElem?_eq_some_iff.mp e;show(G.pots++[p])[k]?=_;rw [List.getElem?_append_left hk];exact e
 · exact q2.elim
end
end Pu
end
section
set_option maxHeartbeats 1000000
namespace L2
open PySem PySem.Spec PyProof.Rows
theorem a4U {X:Cx}{scope:Scope}{cl:List (Str×Addr)}{N:List Str}{cs:List (Option Nat)}{elt tg iter:Expr}{ifs:List Expr}{pos spos py:Pos}{wi:TI}{g:TG}{tt:TT}{te:TE}{i:Nat}{y:Str}(hN:X.N.Nodup)(hiy:X.N[i]?=some y)(hy:Loc X.env.scope y)(S:a0I X scope cl N cs)(hc:X.calm=true)(hi:PI X tg iter wi)
   (hb:∀(fp:List Addr) (C:Addr) (s:Shared) (H:Hp),PG (a0f X scope cl N fp C s H) tg g∧PIf (a0f X scope cl N fp C s H) ifs tt∧PE (a0f X scope cl N fp C s H) elt te)
   (hsw:swapsWith (.ListComp elt [⟨tg,iter,ifs,0⟩] scope pos) (some (.Name y py)) spos.line X.env=pure true:=by rfl)
   (hs:∀x,foldedSetIterable iter X.env x=pure x:=by intro _;rfl) (hff:X.fn y=true∨X.env.scope.names.lookup y=some .local:=by first | exact .inl rfl | exact .inr rfl | assumption) :
   PS X (.Assign [.Name y py] (.ListComp elt [⟨tg,iter,ifs,0⟩] scope pos) spos) (tAsg (tComp cs wi g tt te) (a1K i)):=by
 have bn:∀(M:Model) (A:Around) (v:Value) (Q:Unit→Shared→Prop) (E:Value→Shared→Prop) (s:Shared),wpAny M A (storeName X.env y v) Q E s→wpAny M A (assign (.Name y py) X.env v) Q E s:=fun M A v Q E s h=>wpAny_assign_Name h;intro pins s σ H DD I h;rw [exec_Assign_Name_used _ _ _ _ hsw];refine wpAny_bind (wpAny_standAt (wpAny_bind ?_));show wpAny _ _ (do let _ ← comprehension (.ListComp elt [⟨tg,iter,ifs,0⟩] scope pos) scope X.env _ (newList []) false (eval iter X.env) (some (assign (.Name y py) X.env))) _ _ s;refine wpAny_bind (wpAny_mono (Q:=fun _ s'=>SP X pins DD .next s') ?_ (fun _ s' hq=>wpAny_pure (wpAny_pure hq)) fun _ _ e=>e);refine wpAny_comprehension_free (use:=some (assign (.Name y py) X.env)) rfl hs S.clos S.kind S.names (thn (hi pins s σ H _ I h) fun v s1 h1=>thn h1 fun itv s2 h2=>?_);obtain⟨it,fp,tn,J,H2,rfl,I2,T,st2,f2,q⟩:=h2
 have ho:∀b∈fp,∃o,s2.heap.get? b=some o:=fun b hb=>by
   obtain⟨o,e,_⟩:=T.obj 0 _ st2 b hb;exact⟨o,e⟩
 refine wpAny_newObj_type (wpAny_newFunctionEnv S.nocell (by intro y hy;simp at hy) (fun h₁ hns₁ hsb₁=>?_) S.kind);dsimp only at hns₁ hsb₁ ⊢;have hC:(s2.heap.push { cls:=.type "list",dict:=none,data:=.seq ([]:List Value).toArray }).objs.size=s2.heap.objs.size + 1:=by rw [Heap.size_push]
 generalize hH2:s2.heap.push { cls:=.type "list",dict:=none,data:=.seq ([]:List Value).toArray }=hp2 at hns₁ hsb₁ hC ⊢;have old:∀b o,s2.heap.get? b=some o→h₁.get? b=some o:=fun b o e=>hsb₁.extBut b o (by rw [hC];exact Nat.ne_of_lt (Nat.lt_succ_of_lt (Heap.lt_size e))) (Heap.get?_push_of_some _ (hH2▸Heap.get?_push_of_some _ e));have hD:h₁.get? s2.heap.objs.size=some { cls:=.type "list",data:=.seq ([]:List Value).toArray }:=hsb₁.extBut _ _ (by rw [hC];exact Nat.ne_of_lt (Nat.lt_succ_self _)) (Heap.get?_push_of_some _ (hH2▸Heap.get?_push_size _ rfl));rw [hC] at hns₁ ⊢;obtain⟨W,⟨m0,w0⟩,turn⟩:=q s2.heap.objs.size I2.fresh;have Ic:=a3d S (tk:=s2.toks + ([]:List (Str×Value)).length) I2 f2 ho old hns₁ hD;have nstk:∀b,b≠X.env.locals→b∉X.fs→b∉frs X.stack:=fun b h1 h2 hb=>(List.mem_cons.mp (I2.stkSub b hb)).elim h1 h2
 have stat:∀{H':Hp},(∀b∈fp,H' b=none)→∀b∈fp,FpOk (a0f X scope cl N fp (s2.heap.objs.size + 1) s2 H2) pins H' b:=fun hn b hb=>by
   obtain⟨o,e⟩:=ho b hb;exact⟨hn b hb,Nat.ne_of_lt (Nat.lt_succ_of_lt (Heap.lt_size e)),nstk b (f2 b hb).2.1 (f2 b hb).2.2.1,.inl hb,fun x c ec=>(f2 b hb).2.2.2.2.1 x c (S.sub x c ec),(f2 b hb).2.2.2.2.2⟩
 obtain⟨hg,hf,he⟩:=hb fp (s2.heap.objs.size + 1) s2 H2;have st1:tn 0 h₁:=T.keep _ _ _ st2 fun b hb o e=>old b o e
 have fr1:∀b∈fp,upd H2 s2.heap.objs.size (.lst []) b=none:=fun b hb=>by
   obtain⟨o,e⟩:=ho b hb;rw [a0g (Nat.ne_of_lt (Heap.lt_size e))];exact(f2 b hb).1
 have loop:∀s₃:Shared,s₃={ s2 with heap:=h₁,toks:=s2.toks + ([]:List (Str×Value)).length }→
     codeAny (model X.prog X.w) X.A (.compLoop (.ListComp elt [⟨tg,iter,ifs,0⟩] scope pos) 0 (.ref it) (.ref s2.heap.objs.size) (compEnvC scope cl (s2.heap.objs.size + 1) X.env))
       (compPost (model X.prog X.w) X.A X.xe (some (assign (.Name y py) X.env)) (fun _ s'=>SP X pins DD .next s') (.ref s2.heap.objs.size) (s2.heap.objs.size + 1)) s₃:=by
   rintro s₃ rfl;refine a2q (fun n s'=>∃i σ' H',Inv (a0f X scope cl N fp (s2.heap.objs.size + 1) s2 H2) pins σ' H' s'∧tn i s'.heap∧(∀b∈fp,H' b=none)∧W i n σ' H') ?_ m0 ⟨0,_,_,Ic,st1,fr1,w0⟩;rintro n s3 ⟨i,σ3,H3,I3,st3,fr3,w3⟩;rcases turn i n σ3 H3 w3 with⟨stop,qn⟩ | ⟨go,step⟩
   · refine thn (T.done (a0f X scope cl N fp (s2.heap.objs.size + 1) s2 H2) rfl rfl rfl hc i pins s3 σ3 H3 (fun _ _=>False) I3 (stat fr3) st3 stop) fun r s4 ⟨hr,I4⟩=>?_;subst hr;obtain⟨m4,hn4,_⟩:=I4.loc;have I5:Inv X pins σ H3 s4:=Inv.uncomp (h':=s4.heap) I2 f2 I4 fun b hb=>rfl;have oldne:∀b o,s2.heap.get? b=some o→b≠s2.heap.objs.size + 1:=fun b o e=>Nat.ne_of_lt (Nat.lt_succ_of_lt (Heap.lt_size e));have locne:X.env.locals≠s2.heap.objs.size + 1:=Nat.ne_of_lt (Nat.lt_succ_of_lt I2.lt)
     have cellne:∀x c,X.env.cells.lookup x=some c→c≠s2.heap.objs.size + 1:=fun x c e=>by
       obtain⟨v,o,h1,_⟩:=I2.cell x c e;exact oldne c o h1
     refine bn _ _ _ _ _ _ (a3o I5 hN hiy hy (v:=.ref s2.heap.objs.size) rfl (fun s6 I6 ⟨a6,sb6,ha6⟩=>?_) hff)
     have ane:s2.heap.objs.size + 1≠a6:=by
       rcases ha6 with rfl | ha6
       · exact Ne.symm locne
       · exact Ne.symm (cellne _ _ ha6)
     refine⟨m4,hn4.sameBut sb6 ane,fun h' hs'=>⟨_,H3,?_,qn⟩⟩;have hs7:∀b,b≠s2.heap.objs.size + 1→h'.get? b=s6.heap.get? b:=fun b hb=>hs'.2 b hb;have U0:Un (frs X.stack) [s2.heap.objs.size + 1] H3 H3 s6.heap s6.heap:=Un.refl
     have trC:∀b u,H3 b=some u→b≠s2.heap.objs.size + 1:=fun b u e z=>by
       have q:H3 (s2.heap.objs.size + 1)=none:=I4.free;rw [z,q] at e;cases e
     obtain⟨hh6,g6,d6,t6,os6⟩:=s6;refine I6.call (h':=h') (g':=g6) (d':=d6) (t':=t6) (ch:=[s2.heap.objs.size + 1]) ⟨fun b o e n hb hx=>?_,fun b o e n hb hx=>?_,U0.free,fun b o e hx=>?_,U0.tups,U0.frzs,U0.tbls,U0.sys⟩ (fun b u e=>?_) I6.bare fun b hb=>?_
     · have hb':b≠s2.heap.objs.size + 1:=fun z=>hx (by rw [z];exact List.mem_singleton.mpr rfl);rw [hs7 b hb'];exact U0.keep b o e n hb hx
     · have hb':b≠s2.heap.objs.size + 1:=fun z=>hx (by rw [z];exact List.mem_singleton.mpr rfl);rw [hs7 b hb'];exact U0.slot b o e n hb hx
     · have hb':b≠s2.heap.objs.size + 1:=fun z=>hx (by rw [z];exact List.mem_singleton.mpr rfl);rw [hs7 b hb'];exact U0.there b o e hx
     · refine(I6.hok b u e).stay (fun c v hc q=>?_) (fun _ q=>q) fun _ _ q=>q
       have ne:c≠s2.heap.objs.size + 1:=by
         rcases hc with z | z
         · rw [z];exact trC b u e
         · exact trC c _ z
       rw [hs7 c ne];exact q
     · rw [List.mem_singleton.mp hb];refine⟨.inr (Nat.le_succ_of_le I2.sz),Ne.symm locne,cellne,fun p hp=>?_⟩;exact oldne _ _ (I2.pin p hp).1
   · refine thn (T.item (a0f X scope cl N fp (s2.heap.objs.size + 1) s2 H2) rfl rfl rfl hc i pins s3 σ3 H3 (fun _ _=>False) I3 (stat fr3) st3 go) fun r s4 ⟨u,hr,h4⟩=>?_;subst hr;refine thn h4 fun _ s5 ⟨x,H5,I5,r5,y5,st5,fr5⟩=>?_;have I5':=I5.pinned (stat fr5) (T.obj _ _ st5);refine thn (hg _ s5 σ3 H5 x u _ I5' r5 (step x H5 y5)) fun _ s6 ⟨σ6,H6,I6,q6⟩=>?_
     have again:∀{σ7:St} {H7:Hp} {s7:Shared},Inv (a0f X scope cl N fp (s2.heap.objs.size + 1) s2 H2) (pins++a0O fp s5.heap) σ7 H7 s7→(∃m',m' < n∧W (i + 1) m' σ7 H7)→
         ∃m,m < n∧∃i σ' H',Inv (a0f X scope cl N fp (s2.heap.objs.size + 1) s2 H2) pins σ' H' s7∧tn i s7.heap∧(∀b∈fp,H' b=none)∧W i m σ' H':=fun {σ7 H7 s7} I7 n7=>by
       obtain⟨m',hm,w7⟩:=n7;refine⟨m',hm,i + 1,σ7,H7,I7.unpinned,T.keep _ _ _ st5 fun b hb o e=>(I7.pin (b,o) (List.mem_append_right _ (List.mem_append_right _ (a0u hb e)))).1,fun b hb=>?_,w7⟩;obtain⟨o,e,d⟩:=T.obj _ _ st5 b hb;exact(I7.pin (b,o) (List.mem_append_right _ (List.mem_append_right _ (a0u hb e)))).2.1
     refine thn (hf _ s6 σ6 H6 _ I6 q6) fun ok s7 ⟨H7,I7,q7⟩=>?_;cases ok with
     | false=>exact again I7 q7
     | true =>
       refine thn (he _ s7 σ6 H7 _ I7 q7) fun y s8 ⟨v8,H8,I8,r8,ys,e8,z8,n8⟩=>?_
       have ma:=a1I (X:=a0f X scope cl N fp (s2.heap.objs.size + 1) s2 H2) _ s8 σ6 H8 (.ref s2.heap.objs.size) [v8] (.ref s2.heap.objs.size) [y]
         (fun v H9=>∃m',m' < n∧W (i + 1) m' σ6 H9) I8 rfl (.cons r8 .nil) ⟨_,ys,v8,rfl,rfl,e8,z8,n8⟩
       exact thn ma fun _ s9 ⟨v9,H9,I9,_,q9⟩=>again I9 q9
 exact codeAny_compStart_list (loop _ rfl) (T.self _ 0 _ _ _ st1 (loop _ rfl))
end L2
namespace Pu
open PySem PySem.Spec L2
def SwOk (X:Cx)(e:Expr)(t:TE):Prop:=∀(i:Nat) (y:Str) (py spos:Pos),X.N.Nodup→X.N[i]?=some y→Loc X.env.scope y→swapsWith e (some (.Name y py)) spos.line X.env=pure true→(X.fn y=true∨X.env.scope.names.lookup y=some .local)→PS X (.Assign [.Name y py] e spos) (tAsg t (a1K i))
def QNC {ι:Type}(T:PotK)(K:PySem.W.Frag)(F:ι→Cx)(e:Expr)(pn:pA):Prop:=∃t,(∀z,PE (F z) e t)∧(∀z,SwOk (F z) e t)∧NOk K T t pn
section
variable {T:PotK}{np:Bool}{ι:Type}{K:PySem.W.Frag}{F:ι→Cx}{e:Expr}{pl:pA}{pg:pG}{pos:Pos}
theorem a5G {scope:Scope}{cl:ι→List (Str×Addr)}{N:List Str}{cs:List (Option Nat)}{elt tg iter:Expr}{ifs:List Expr}{pi:pA}{ptt:pT}{pte:pE}(S:∀z,a0I (F z) scope (cl z) N cs)(hc:∀z,(F z).calm=true)(hi:QI T K F tg iter pi)
   (hg:QG K (fun y:ι×List Addr×Addr×Shared×Hp=>a0f (F y.1) scope (cl y.1) N y.2.1 y.2.2.1 y.2.2.2.1 y.2.2.2.2) tg pg) (ht:QIf T K (fun y:ι×List Addr×Addr×Shared×Hp=>a0f (F y.1) scope (cl y.1) N y.2.1 y.2.2.1 y.2.2.2.1 y.2.2.2.2) ifs ptt)
   (he:QE T K (fun y:ι×List Addr×Addr×Shared×Hp=>a0f (F y.1) scope (cl y.1) N y.2.1 y.2.2.1 y.2.2.2.1 y.2.2.2.2) elt pte)
   (hs:∀z x,foldedSetIterable iter (F z).env x=pure x:=by intro _ _;rfl):QNC T K F (.ListComp elt [⟨tg,iter,ifs,0⟩] scope pos) (a3T cs pi pg ptt pte):=by
 obtain⟨wi,i1,i2⟩:=hi;obtain⟨g,hg0,hg⟩:=hg;obtain⟨tt,ht0,ht⟩:=ht;obtain⟨te,he0,he⟩:=he;refine⟨_,fun z=>a5U (S z) (hc z) (i1 z) (fun fp C s H=>⟨hg0 (z,fp,C,s,H),ht0 (z,fp,C,s,H),he0 (z,fp,C,s,H)⟩) (hs z),fun z i y py spos hN hi hy hsw hf=>a4U hN hi hy (S z) (hc z) (i1 z) (fun fp C s H=>⟨hg0 (z,fp,C,s,H),ht0 (z,fp,C,s,H),he0 (z,fp,C,s,H)⟩) hsw (hs z) hf,fun C G σ H env n R Q hK hT S hp k=>?_⟩;refine i2 C G σ H env n _ _ hK hT S hp fun xs env1 n1 J H1 p1 S1 f1 hJ=>?_;intro D hD;have hDM:=S1.fresh hD;refine a6G (G:=G) hg ht he hJ p1.1 hD (hT▸hK▸a4e S1 cs) p1.2 fun ys n2 us H' rr hpots hk eD ry=>?_
 -- the heap without D
 have nD:∀b o,H1 b=some o→b≠D:=fun b o e z=>by rw [z,hD] at e;cases e
 have hD0:C.H0 D=none:=by
   cases z:C.H0 D with
   | none=>rfl
   | some o =>
     by_cases hp:D∈C.pots0
     · exact absurd (S1.sup D (S1.p0 D hp)) hDM
     · have:=S1.frame D o hp z;rw [hD] at this;cases this
 have hk2:∀b o,b∉G.pots→H1 b=some o→cutH H' D b=some o:=fun b o hb e=>by rw [a0F (nD b o e)];exact hk b o hb e
 have nc:∀b,b∉D::G.M→b≠D:=fun b hb z=>hb (by rw [z];exact List.mem_cons_self);have np:∀p∈G.pots,p≠D:=fun p hp z=>hDM (z▸(S1.pots p hp).1)
 have Sb:SR C G σ (cutH H' D) env1 n2:=S1.call hk2 fun p hp=>by
   subst hT;have h2:=C.T.keep (hpots p hp) (H':=cutH H' D) (a0F (np p hp)) fun b o hb e=>by rw [a0F (nc b hb)];exact e
   exact C.T.more h2 fun a ha=>.inl (List.mem_cons_of_mem _ ha)
 have:=k ys env1 n2 D us (cutH H' D) rr Sb (f1.trans fun b o hb e=>hk2 b o (fun z=>hb (S1.pots b z).1) e) (by unfold cutH;rw [if_pos rfl]) ?_
 · rw [a2H eD] at this;exact this
 · exact Reps.mono (G:=⟨D::G.M,G.pots⟩) (fun b o hb e=>by rw [a0F (nc b hb)];exact e) (fun a ha=>.inl (List.mem_cons_of_mem _ ha)) (fun _ _ e=>e) _ _ ry
theorem a5y (i:Nat){y:Str}{py spos:Pos}(h:QNC T K F e pl)(hN:∀z,(F z).N.Nodup)(hi:∀z,(F z).N[i]?=some y)(hy:∀z,Loc (F z).env.scope y)(hsw:∀z,swapsWith e (some (.Name y py)) spos.line (F z).env=pure true:=by intro _;rfl)(hf:∀z,(F z).fn y=true∨(F z).env.scope.names.lookup y=some .local:=by intro _;first | exact .inl rfl | exact .inr rfl):QS T np K F (.Assign [.Name y py] e spos) (qSet i (qL pl)):=by
 obtain⟨t,a1,a3,a2⟩:=h
 have he:EOk K T t (qL pl):=fun C G σ H env n R Q hK hT S hp k=>by
   refine a2 C G σ H env n _ _ hK hT S hp fun xs env1 n1 a vs Hb p1 S1 f1 hn r1=>?_;exact k _ _ _ _ _ p1 (S1.same (Same.lay1 hn)) (a1M (S1.fresh hn) hn r1) (f1.trans (Fr.of (Same.lay1 hn)))
 refine⟨_,fun z=>a3 z i y py spos (hN z) (hi z) (hy z) (hsw z) (hf z),fun C G σ H env n PD D hK hT hn S hp L=>?_⟩;refine he C G σ H env n _ _ hK hT S hp fun x env1 n1 v H1 q1 S1 r1 f1=>?_;exact L.nx _ _ _ _ _ q1 (S1.set i (hK▸r1)) (Ext.fr f1)
end
end Pu
end
section
set_option maxHeartbeats 1000000
namespace Pu
open PySem PySem.Spec L2
def shK:Key→Prop
 | .inl i=>i.natAbs < 10 ^ 60
 | .inr x=>∀c∈x.cps.toList,c < 16 ^ 8
def a6F:Key→Nat
 | .inl _=>61
 | .inr x=>10 * x.length + 2
mutual
def shw:PV→Prop
 | .non=>True
 | .bl _=>True
 | .int i=>i.natAbs < 10 ^ 60
 | .str x=>∀c∈x.cps.toList,c < 16 ^ 8
 | .tup xs=>shws xs
 | .lst xs=>shws xs
 | .dct ks xs=>(∀k∈ks,shK k)∧shws xs
 | _=>False
def shws:List PV→Prop
 | []=>True
 | x::xs=>shw x∧shws xs
end
mutual
def cost:PV→Nat
 | .non=>4
 | .bl _=>5
 | .int _=>61
 | .str x=>10 * x.length + 2
 | .tup xs=>a2w xs + 3
 | .lst xs=>a2w xs + 3
 | .dct ks xs=>(ks.map fun k=>a6F k + 4).sum + a2w xs + 3
 | _=>0
def a2w:List PV→Nat
 | []=>0
 | x::xs=>cost x + 2 + a2w xs
end
mutual
def dep:PV→Nat
 | .tup xs=>deps xs + 1
 | .lst xs=>deps xs + 1
 | .dct _ xs=>deps xs + 1
 | _=>0
def deps:List PV→Nat
 | []=>0
 | x::xs=>max (dep x) (deps xs)
end
theorem a4z {i:Int}(h:i.natAbs < 10 ^ 60):(Str.ofString (toString i)).length≤61:=by
 have e:=int_text_length_le10 (k:=60) (by decide) h;rw [ofString_length];omega
theorem a1V {i:Int}(h:i.natAbs < 10 ^ 60):i.natAbs.log2 < 1920:=by
 by_cases h0:i.natAbs=0
 · rw [h0];decide
 · exact(Nat.log2_lt h0).mpr (Nat.lt_trans h (by decide +kernel))
theorem key_ok {k:Key}(h:shK k):(keyD k).showable=true∧(keyD k).depth=0∧(keyD k).shown.length≤a6F k:=by
 cases k with
 | inl i=>exact⟨by simpa [keyD,PyData.showable] using a1V h,by simp [keyD,PyData.depth],by simpa [keyD,PyData.shown,a6F] using a4z h⟩
 | inr x=>exact⟨by simp [keyD,PyData.showable],by simp [keyD,PyData.depth],by simpa [keyD,PyData.shown,a6F] using StrLaws.reprText_len x h⟩
theorem kv_ok:∀(ks:List Key) (ds:List PyData),(∀k∈ks,shK k)→PyData.showableAll ds=true→PyData.showableKv ((ks.map keyD).zip ds)=true∧PyData.depthKv ((ks.map keyD).zip ds)≤PyData.depthAll ds∧((PyData.shownKv ((ks.map keyD).zip ds)).map (·.length)).sum + 2 * (PyData.shownKv ((ks.map keyD).zip ds)).length≤(ks.map fun k=>a6F k + 4).sum + ((PyData.shownAll ds).map (·.length)).sum + 2 * ds.length
 | [],ds,_,_=>by simp [PyData.showableKv,PyData.depthKv,PyData.shownKv]
 | k::ks,[],_,_=>by simp [PyData.showableKv,PyData.depthKv,PyData.shownKv]
 | k :: ks, d :: ds, hk, hd => by
   have hd':d.showable=true∧PyData.showableAll ds=true:=by simpa [PyData.showableAll] using hd
   obtain⟨h1,h2,h3⟩:=kv_ok ks ds (fun x hx=>hk x (List.mem_cons_of_mem _ hx)) hd'.2;obtain⟨g1,g2,g3⟩:=key_ok (hk k List.mem_cons_self);refine⟨?_,?_,?_⟩
   · simp [PyData.showableKv,g1,hd'.1,h1]
   · simp only [List.map_cons,List.zip_cons_cons,PyData.depthKv,PyData.depthAll,g2];omega
   · simp only [List.map_cons,List.zip_cons_cons,PyData.shownKv,PyData.shownAll,List.sum_cons,List.length_cons];rw [strLen_append,strLen_append];have:(Str.ofString ": ").length=2:=rfl;omega
theorem a4c (ps:List Str):(dictText ps).length≤(ps.map (·.length)).sum + 2 * ps.length + 3:=by
 have h:(Str.join ", " ps).length≤(ps.map (·.length)).sum + ps.length * 2:=StrLaws.join_length_le ", " ps
 have e:(dictText ps).length=1 + (Str.join ", " ps).length + 1:=by
   unfold dictText;rw [strLen_append,strLen_append];rfl
 omega
mutual
theorem a5r:∀(x:PV),shw x→∃d,dat x=some d∧d.showable=true∧d.depth≤dep x∧d.shown.length≤cost x
 | .non,_=>⟨_,rfl,by simp [PyData.showable],by simp [PyData.depth],by simp only [PyData.shown,cost];decide⟩
 | .bl b,_=>⟨_,rfl,by simp [PyData.showable],by simp [PyData.depth],by simp only [PyData.shown,cost];cases b <;> decide⟩
 | .int i,h=>⟨_,rfl,by simpa [PyData.showable] using a1V h,by simp [PyData.depth],by simpa [PyData.shown,cost] using a4z h⟩
 | .str x,h=>⟨_,rfl,by simp [PyData.showable],by simp [PyData.depth],by simpa [PyData.shown,cost] using StrLaws.reprText_len x h⟩
 | .tup xs, h => by
   obtain⟨ds,e,h1,h2,h3,h4⟩:=a2a xs h;refine⟨.tuple ds,by rw [dat,e],by simpa [PyData.showable] using h1,by simp only [PyData.depth,dep];omega,?_⟩;have:=tupleText_len_le (PyData.shownAll ds);have e2:=PyData.shownAll_length ds;simp only [PyData.shown,cost];omega
 | .lst xs, h => by
   obtain⟨ds,e,h1,h2,h3,h4⟩:=a2a xs h;refine⟨.list ds,by rw [dat,e],by simpa [PyData.showable] using h1,by simp only [PyData.depth,dep];omega,?_⟩;have:=listText_len_le (PyData.shownAll ds);have e2:=PyData.shownAll_length ds;simp only [PyData.shown,cost];omega
 | .dct ks xs, h => by
   have h':(∀k∈ks,shK k)∧shws xs:=h;obtain⟨ds,e,h1,h2,h3,h4⟩:=a2a xs h'.2;obtain⟨g1,g2,g3⟩:=kv_ok ks ds h'.1 h1;refine⟨.dict ((ks.map keyD).zip ds),by rw [dat,e],by simpa [PyData.showable] using g1,by simp only [PyData.depth,dep];omega,?_⟩;have:=a4c (PyData.shownKv ((ks.map keyD).zip ds));simp only [PyData.shown,cost];omega
 | .ty _,h=>h.elim
 | .pot _,h=>h.elim
 | .scr _,h=>h.elim
theorem a2a:∀(xs:List PV),shws xs→∃ds,dats xs=some ds∧PyData.showableAll ds=true∧PyData.depthAll ds≤deps xs∧ds.length=xs.length∧((PyData.shownAll ds).map (·.length)).sum + 2 * ds.length≤a2w xs
 | [],_=>⟨[],rfl,by simp [PyData.showableAll],by simp [PyData.depthAll],rfl,by simp [PyData.shownAll,a2w]⟩
 | x :: xs, h => by
   have h':shw x∧shws xs:=h;obtain⟨d,e,a1,a2,a3⟩:=a5r x h'.1;obtain⟨ds,e2,b1,b2,b3,b4⟩:=a2a xs h'.2;refine⟨d::ds,by rw [dats,e,e2],by simp [PyData.showableAll,a1,b1],by simp only [PyData.depthAll,deps];omega,by simp [b3],?_⟩;simp only [PyData.shownAll,a2w,List.map_cons,List.sum_cons,List.length_cons];omega
end
def a7F (x:PV):Str:=match dat x with | some d=>d.shown | none=>Str.ofString ""
theorem a2j {x:PV}{R:PV→Prop}(h:shw x)(h1:dep x≤40)(h2:cost x≤10000000)(q:R (.str (a7F x))):a4M x R:=by
 obtain⟨d,e,a1,a2,a3⟩:=a5r x h;unfold a4M a7F at *;rw [e] at q ⊢;exact⟨a1,by omega,by unfold sizeLine;omega,q⟩
theorem a5q:∀(xs:List PV),(∀x∈xs,shw x)→shws xs
 | [],_=>trivial
 | x::xs,h=>⟨h x List.mem_cons_self,a5q xs fun y hy=>h y (List.mem_cons_of_mem _ hy)⟩
theorem a6D (k:Nat):∀(xs:List PV),(∀x∈xs,dep x≤k)→deps xs≤k
 | [],_=>Nat.zero_le _
 | x :: xs, h => by
   have:=h x List.mem_cons_self;have:=a6D k xs fun y hy=>h y (List.mem_cons_of_mem _ hy);simp only [deps];omega
theorem a4I (k:Nat):∀(xs:List PV),(∀x∈xs,cost x≤k)→a2w xs≤(k + 2) * xs.length
 | [],_=>Nat.zero_le _
 | x :: xs, h => by
   have h1:=h x List.mem_cons_self;have h2:=a4I k xs fun y hy=>h y (List.mem_cons_of_mem _ hy);simp only [a2w,List.length_cons,Nat.mul_succ];omega
end Pu
end
section
set_option maxHeartbeats 3200000
namespace L2
open PySem PySem.Spec PyProof.Rows
def met (val:Nat→Key):Nat→List Key
 | 0=>[]
 | i + 1=>if(met val i).any (fun y=>decide (y=val i)) then met val i else met val i++[val i]
end L2
end
section
set_option maxHeartbeats 1000000
namespace Pu
open PySem PySem.Spec L2
abbrev LETS:Str:=Str.ofString "abcdefghijklmnopqrstuvwxyz"
theorem a7r:LETS.cps.toList=(List.range 26).map (97 + ·):=by decide +kernel
theorem a4x:LETS.length=26:=by decide +kernel
theorem a6m {d:Int}(d0:0≤d)(d1:d < 26):atI LETS.cps.toList d=some (97 + d.toNat):=by
 obtain⟨x,e1,e2⟩:=a4g (xs:=LETS.cps.toList) d0 (by rw [← a3Q,a4x];exact d1);rw [e2,← e1,a7r,List.getElem?_map,List.getElem?_range (by omega)]
 rfl
end Pu
end
section
set_option maxHeartbeats 1000000
namespace Pu
open PySem PySem.Spec L2
mutual
def pln:PV→Bool
 | .non=>true
 | .bl _=>true
 | .int _=>true
 | .str _=>true
 | .tup xs=>plns xs
 | .lst xs=>plns xs
 | _=>false
def plns:List PV→Bool
 | []=>true
 | x::xs=>pln x && plns xs
end
mutual
theorem a3f:∀x:PV,pln x=true→eqP x x=true
 | .non,_=>rfl
 | .bl b,_=>by rw [a8b];exact decide_eq_true rfl
 | .int i,_=>by rw [a8a];exact decide_eq_true rfl
 | .str z,_=>by rw [a4F];exact decide_eq_true rfl
 | .tup xs,h=>by rw [a7Y];exact a2o xs (by simpa [pln] using h)
 | .lst xs,h=>by rw [a7Z];exact a2o xs (by simpa [pln] using h)
 | .ty _,h=>by simp [pln] at h
 | .pot _,h=>by simp [pln] at h
 | .scr _,h=>by simp [pln] at h
 | .dct _ _,h=>by simp [pln] at h
theorem a2o:∀xs:List PV,plns xs=true→eqPs xs xs=true
 | [],_=>rfl
 | x :: xs, h => by
   have h':pln x=true∧plns xs=true:=by simpa [plns] using h
   rw [a6y,a3f x h'.1,a2o xs h'.2];rfl
end
theorem a2E {te:pE}{rest:Env}{α:Type}(f:α→PV)(g:α→PV):∀(xs:List α) (s0:Option Slot) (n:Nat) (R:List PV→Nat→Prop),(∀x∈xs,∀m Q,Q (g x) (some (.v (f x))::rest) m→te (some (.v (f x))::rest) m Q)→R (xs.map g) n→a3E (gN 0) qTru te (xs.map f) (s0::rest) n R
 | [],_,_,_,_,h=>h
 | x :: xs, s0, n, R, ht, h => by
   show te (some (.v (f x))::rest) n _;refine ht x List.mem_cons_self n _ ?_;exact a2E f g xs _ n _ (fun y hy=>ht y (List.mem_cons_of_mem _ hy)) h
theorem a4Q {α:Type}(xs:List α):a1C (xs.map fun _=>PV.bl true)=some (xs.map fun _=>true):=by
 have:xs.map (fun _=>PV.bl true)=(xs.map fun _=>true).map PV.bl:=by rw [List.map_map];rfl
 rw [this,a3k]
theorem a7C {α:Type}(xs:List α):(xs.map fun _=>true).all id=true:=by
 induction xs with
 | nil=>rfl
 | cons x xs ih=>simp
theorem a1o {te:pE}{rest:Env}{α:Type}(u v g:α→PV):∀(xs:List α) (s0 s1:Option Slot) (n:Nat) (R:List PV→Nat→Prop),(∀x∈xs,∀m Q,Q (g x) (some (.v (u x))::some (.v (v x))::rest) m→te (some (.v (u x))::some (.v (v x))::rest) m Q)→R (xs.map g) n→a3E (gTp 2 (gCn (gN 0) (gCn (gN 1) gNl))) qTru te (xs.map fun x=>.tup [u x,v x]) (s0::s1::rest) n R
 | [],_,_,_,_,_,h=>h
 | x :: xs, s0, s1, n, R, ht, h => by
   refine⟨rfl,?_⟩;show te (some (.v (u x))::some (.v (v x))::rest) n _;refine ht x List.mem_cons_self n _ ?_;exact a1o u v g xs _ _ n _ (fun y hy=>ht y (List.mem_cons_of_mem _ hy)) h
end Pu
end
section
set_option maxHeartbeats 1000000
namespace L2
open PySem PySem.W PyProof.Rows
namespace Kr
structure Ord (lt:Nat→Nat→Bool):Prop where
 ir:∀a,lt a a=false
 tr:∀a b c,lt a b=true→lt b c=true→lt a c=true
 nt:∀a b c,lt a c=true→lt a b=true∨lt b c=true
variable {lt:Nat→Nat→Bool}(O:Ord lt)
include O
omit O
def g (p:Array Nat)(i:Nat):Nat:=p.getD i 0
include O
omit O
def En (n:Nat)(p:Array Nat):Prop:=0 < n∧∀x∈p,x < n
theorem En.g {n:Nat}{p:Array Nat}(h:En n p)(i:Nat):p.getD i 0 < n:=by
 by_cases c:i < p.size
 · rw [show p.getD i 0=p[i] by simp [Array.getD,c]];exact h.2 _ (Array.getElem_mem c)
 · rw [show p.getD i 0=0 by simp [Array.getD,c]];exact h.1
end Kr
end L2
end
section
set_option maxHeartbeats 4000000
namespace L2
open PySem PySem.Spec PyProof.Rows
section
variable {κ:Type}[DecidableEq κ]
def valV (kvs:List (κ×V))(k:κ):Option V:=(kvs.find? fun kv=>decide (kv.1=k)).map (·.2)
def putK (kvs:List (κ×V))(k:κ)(v:V):List (κ×V):=
 if(kvs.any fun kv=>decide (kv.1=k))=true then kvs.map (fun kv=>if kv.1=k then(kv.1,v) else kv) else kvs++[(k,v)]
end
theorem kV_is {P:Program}{w:World}{k:Key}{u:Value}(r:RelV (kV k) u):(a0W P w).is k u=true:=by
 cases k with
 | inl i=>obtain⟨t,e⟩:=(show ∃t,u=Value.int i t from r);subst e;exact a3X P w i t
 | inr x=>obtain⟨t,e⟩:=(show ∃t,u=Value.str x t from r);subst e;exact a3W P w x t
def DGet (H:Hp)(a:Addr)(y:V)(r:Option V):Prop:=
 (∃kvs k,Rd H a (.dK kvs)∧y=kV k∧r=valV kvs k)∨∃kvs k b,Rd H a (.dT kvs)∧y=.ref b∧H b=some (.tup (k.map kV))∧r=valV kvs k
def DPut (H:Hp)(a:Addr)(y v:V)(H':Hp):Prop:=
 (∃kvs k,H a=some (.dK kvs)∧y=kV k∧kvs.length < sizeLine∧H'=upd H a (.dK (putK kvs k v)))∨
 ∃kvs k b,H a=some (.dT kvs)∧y=.ref b∧H b=some (.tup (k.map kV))∧kvs.length < sizeLine∧H'=upd H a (.dT (putK kvs k v))
theorem DGet.k {H:Hp}{a:Addr}{kvs:List (Key×V)}{k:Key}(e:H a=some (.dK kvs)):DGet H a (kV k) (valV kvs k):=.inl ⟨kvs,k,.inl e,rfl,rfl⟩
theorem DGet.t {H:Hp}{a b:Addr}{kvs:List (List Key×V)}{k:List Key}(e:H a=some (.dT kvs))(eb:H b=some (.tup (k.map kV))):DGet H a (.ref b) (valV kvs k):=.inr ⟨kvs,k,b,.inl e,rfl,eb,rfl⟩
theorem DPut.k {H:Hp}{a:Addr}{kvs:List (Key×V)}{k:Key}{v:V}(e:H a=some (.dK kvs))(hl:kvs.length < sizeLine):DPut H a (kV k) v (upd H a (.dK (putK kvs k v))):=.inl ⟨kvs,k,e,rfl,hl,rfl⟩
theorem DPut.t {H:Hp}{a b:Addr}{kvs:List (List Key×V)}{k:List Key}{v:V}(e:H a=some (.dT kvs))(eb:H b=some (.tup (k.map kV)))(hl:kvs.length < sizeLine) :
   DPut H a (.ref b) v (upd H a (.dT (putK kvs k v))):=.inr ⟨kvs,k,b,e,rfl,eb,hl,rfl⟩
section
variable {X:Cx}{pins:List (Addr×Obj)}{σ:St}{H:Hp}{s:Shared}{a:Addr}{y v:V}{u r:Value}{o:Option V}{A:Around}{E:Value→Shared→Prop}
theorem a9i {h':Heap}{t':Nat}{ob:HO}(I:Inv X pins σ H s)(mu:Mut (H a))(hs:Heap.SameBut a s.heap h')(he:∃q,h'.get? a=some q)(new:a1k X.prog X.w (upd H a ob) h' a ob) :
   Inv X pins σ (upd H a ob) { s with heap:=h',toks:=t' }:=
 I.write (x:=a) (e:=a) mu (.inl rfl) (fun b q hb z=>(hs.2 b hb).trans z) he new
end
end L2
end
section
set_option maxHeartbeats 1000000
namespace Pu
open PySem PySem.Spec L2
section
variable {T:PotK}{np:Bool}{ι:Type}{K:PySem.W.Frag}{F:ι→Cx}{e:Expr}{st:Stmt}{pe pk pv:pE}{pos:Pos}
def keyV:PV→Option Key
 | .int i=>some (.inl i)
 | .str z=>some (.inr z)
 | _=>none
theorem a4y {G:Gh}{H:Hp}{x:PV}{v:V}{k:Key}(r:Rep K G H x v)(h:keyV x=some k):v=kV k:=by
 cases x <;> simp [keyV] at h <;> subst h <;> exact r
end
end Pu
end
section
set_option maxHeartbeats 1000000
namespace L2
open PySem PySem.Spec PyProof.Rows
section
variable {prog:Program}{w:World}{A:Around}{E:Value→Shared→Prop}{s:Shared}
theorem a1X {t:Addr}{its:Array Value}{ys:List Str}{k:Str}{tok:Tok}{j:Nat}{Q:Value→Shared→Prop}(ht:s.heap.IsTuple t its)(hS:StrsAre its.toList ys)(hj:ys[j]?=some k)(hlt:∀i,i < j→ys[i]?≠some k)(hsm:ys.length≤1000000)
   (h:∀tk,Q (.int j tk) { s with toks:=s.toks + 1 }):wpAny (model prog w) A (call (.builtin "tuple.index") [.ref t,.str k tok]) Q E s:=by
 obtain⟨o,ho,hc,n,hd⟩:=id ht;have hT:s.TypeIs (.ref t) "tuple":=⟨o,ho,hc⟩;refine wpAny_call_entry F.slot_tuple_index hT F.entry_tuple_index ?_ (F.args_tuple_index_2 _ _);unfold Builtin.«tuple.index»;refine wpAny_bind (wpAny_of_eq (a:=(Value.ref t,[Value.str k tok])) rfl ?_);refine wpAny_bind (wpAny_tupleItemsOf ho hd ?_);dsimp only;refine wpAny_bind (wpAny_pure (wpAny_bind (wpAny_pure ?_)));refine wpAny_bind ?_;have hlen:ys.length=its.toList.length:=(StrsAre.length hS).symm
 have at_:∀(i:Nat) (y:Str),ys[i]?=some y→∃u,its[i]?=some (.str y u):=by
   intro i y hy
   have:∀{us:List Value} {zs:List Str},StrsAre us zs→∀(i:Nat),zs[i]?=some y→∃u,us[i]?=some (.str y u):=by
     intro us zs hh
     induction hh with
     | nil=>intro i h;cases h
     | cons x t _ ih =>
       intro i h;cases i with
       | zero=>cases h;exact⟨t,rfl⟩
       | succ i=>exact ih i (by simpa using h)
   obtain⟨u,hu⟩:=this hS i hy;exact⟨u,by rw [← Array.getElem?_toList];exact hu⟩
 have hjl:j < its.size:=by
   have:=(List.getElem?_eq_some_iff.mp hj).1;rw [hlen,Array.length_toList] at this;exact this
 rw [Std.Legacy.Range.forIn_eq_forIn_range'];refine wpAny_forIn_list _ (fun rest r s'=>r.1=none∧s'=s∧∃i,rest=List.range' i (its.size - i)∧i≤j) _ ?_ ?_ _ _ ⟨rfl,rfl,0,?_,Nat.zero_le _⟩
 · rintro x rest ⟨r1,r2⟩ s' ⟨hr,rfl,i0,hi,hij⟩;have hil:its.size - i0=(its.size - i0 - 1) + 1:=by omega
   rw [hil,List.range'_succ] at hi;obtain⟨i,hxi⟩:∃i,x=i:=⟨x,rfl⟩;injection hi with h1 h2;subst h2;have hi0:i0=i:=by rw [← hxi,h1]
   subst hi0;subst hxi;clear h1
   revert hij hil
   generalize x=i;intro hij hil;have hiy:i < ys.length:=by rw [hlen,Array.length_toList];omega
   obtain⟨u,hu⟩:=at_ i ys[i] (List.getElem?_eq_getElem hiy);rw [hu];dsimp only;refine wpAny_bind (eqBool_str ?_)
   by_cases c:i=j
   · subst c
     have:ys[i]=k:=by
       have:=List.getElem?_eq_getElem hiy;rw [hj] at this;exact(Option.some.inj this).symm
     rw [this,beq_self_eq_true,if_pos rfl];refine wpAny_bind (wpAny_bind (wpAny_mkInt (wpAny_pure (wpAny_pure ?_))));exact wpAny_pure ⟨_,rfl,h _⟩
   · have:ys[i]≠k:=fun e=>hlt i (by omega) (by rw [List.getElem?_eq_getElem hiy,e]);rw [beq_eq_false_iff_ne.mpr this,if_neg Bool.false_ne_true];refine wpAny_pure ⟨rfl,rfl,i + 1,?_,by omega⟩;rw [show its.size - (i + 1)=its.size - i - 1 by omega]
 · rintro⟨r1,r2⟩ s' ⟨hr,rfl,i,hi,hij⟩;have hil:its.size - i=(its.size - i - 1) + 1:=by omega
   rw [hil,List.range'_succ] at hi;cases hi
 · simp [Std.Legacy.Range.size]
end
section
variable {X:Cx}
def a7I (K:PySem.W.Frag):V→List V→Hp→VK→Prop:=fun x vs H Q=>∃(l:Addr) (k:Str) (ys:List Str) (j:Nat),x=.ref l∧vs=[.str k]∧SqT K H l (ys.map V.str)∧ys.length≤1000000∧ys[j]?=some k∧(∀i,i < j→ys[i]?≠some k)∧Q (.int j) H
theorem a7n:MtM X "tuple.index" (a7I X.K):=by
 intro pins s σ H x vs v us Q I rx rv h;obtain⟨l,k,ys,j,rfl,rfl,hq,hz0,hj,hlt,q⟩:=h;cases rx;obtain⟨u,rfl,ru⟩:=rv.one;obtain⟨t,rfl⟩:=ru;obtain⟨its,r,p,hz⟩:=I.tuple hq;exact a1X p (a2A r) hj hlt hz0 fun tk=>⟨.int j,H,I.tok _,⟨_,rfl⟩,q⟩
end
end L2
end
section
set_option maxHeartbeats 1000000
namespace Pu
open PySem PySem.Spec PyProof.Rows L2
section
variable {T:PotK}{ι:Type}{K:PySem.W.Frag}{F:ι→Cx}{e c:Expr}{pe pc:pE}{pos:Pos}
def a1B:w2:=fun x y R=>match x,y with | .tup xs,.str k=>(match a2t xs with | some ys=>ys.length≤1000000∧∃j:Nat,ys[j]?=some k∧(∀i,i < j→ys[i]?≠some k)∧R (.int j) | none=>False) | _,_=>False
def a1f (pe pc:pE):pE:=fun env n R=>pe env n fun x env1 n1=>(∃xs,x=.tup xs)∧pc env1 n1 fun y env2 n2=>a1B x y fun z=>R z env2 n2
theorem a1m {ap:Pos}(he:QE T K F e pe)(hc:QE T K F c pc)(hs:a0p c=true:=by rfl)(hbase:∀z,attributeBase e "index" (F z).env (eval e (F z).env)=eval e (F z).env:=by intro _;rfl)(hline:(ap.endLine == pos.line)=true:=by rfl)
   (hfew:∀z,((backTo pos (starEach [c] (F z).env)).all (fun x=>!x.1) && (backToKw pos (keywordEach [] (F z).env)).all (fun x=>x.1.isSome) && decide (([c]:List Expr).length + ([]:List Keyword).length + (if([]:List Keyword).isEmpty then 0 else 1) < 30))=true:=by intro _;rfl) (hK:∀z,(F z).K=K:=by intro _;rfl):QE T K F (.Call (.Attribute e "index" ap) [c] [] pos) (a1f pe pc):=by
 obtain⟨t,a1,a2⟩:=he;obtain⟨u,b1,b2⟩:=hc;refine⟨tBM K "tuple" (a7I K) t (a2c u tNil),fun z=>hK z▸a7i PySem.F.plainAttrs_tuple PySem.F.slot_tuple_index PySem.F.type_tuple_index a7n (a1 z) (a0l (b1 z) a0z (a0c hs)) (hbase z) (hfew z) hline (a0c hs),fun C G σ H env n R Q hK hT S hp k=>?_⟩;refine a2 C G σ H env n _ _ hK hT S hp fun x env1 n1 v H1 q1 S1 r1 f1=>?_;obtain⟨⟨xs,rfl⟩,q1⟩:=q1;obtain⟨a,vs,rfl,ta,ra⟩:=r1;refine⟨?_,?_⟩
 · exact .inr (.inl ⟨rfl,.inr ⟨vs,ta.2⟩⟩)
 refine b2 C G σ H1 env1 n1 _ _ hK hT S1 q1 fun y env2 n2 w H2 q2 S2 r2 f2=>?_;unfold a1B at q2
 split at q2
 · rename_i xs' kk e1;cases e1
   split at q2
   · rename_i ys ey;obtain⟨hz,j,hj,hlt,q3⟩:=q2;obtain⟨a',vs',e3,ta',ra'⟩:=(show Rep K G H1 (.tup xs) (.ref a) from⟨a,vs,rfl,ta,ra⟩).fr f2;cases e3;exact⟨a,kk,ys,j,rfl,by rw [show w=.str kk from r2],a3m ey ra'▸SqT.of ta'.2,hz,hj,hlt,k _ _ _ _ _ q3 S2 rfl (f1.trans f2)⟩
   · exact q2.elim
 · exact q2.elim
end
end Pu
end
section
set_option maxHeartbeats 1000000
namespace Pu
open PySem PySem.Spec L2
def frzS:Slot→Option Slot
 | .v x=>some (.v x)
 | .ow .lst xs=>some (.v (.lst xs))
 | .ow (.dk ks) xs=>if ks.length=xs.length then some (.v (.dct ks xs)) else none
 | .ow (.dt _) _=>none
 | .ow (.st _) _=>none
def frz (env:Env):Env:=env.map fun o=>o.bind frzS
end Pu
end
section
set_option maxHeartbeats 1000000
namespace Pu
open PySem PySem.Spec L2
abbrev pSlN:=Env→Nat→(List Slot→Env→Nat→Prop)→Prop
def Gots (C:Ct)(G:Gh)(H:Hp)(σ:St)(env:Env):List Slot→List V→Prop
 | [],vs=>vs=[]
 | s::ss,vs=>∃v r,vs=v::r∧Got C G H σ env s v∧(∀(xs:OK×List PV) a,s=.ow xs.1 xs.2→v=.ref a→∀(ys:OK×List PV) w,(Slot.ow ys.1 ys.2,w)∈ss.zip r→w≠.ref a)∧Gots C G H σ env ss r
section
variable {T:PotK}{np:Bool}{ι:Type}{K:PySem.W.Frag}{F:ι→Cx}{e:Expr}{es:List Expr}{st:Stmt}{s1:pSl}{sl:pSlN}{pos:Pos}
theorem Gots.set {C:Ct}{G:Gh}{H:Hp}{σ:St}{env:Env}{i:Nat}{s0:Slot}{v0:V}(hl:env.length=σ.length):∀{ss:List Slot} {vs:List V},Gots C G H σ env ss vs→(∀(xs:OK×List PV) a,s0=.ow xs.1 xs.2→v0=.ref a→∀(ys:OK×List PV) w,(Slot.ow ys.1 ys.2,w)∈ss.zip vs→w≠.ref a)→Gots C G H (σ.set i (some v0)) (env.set i (some s0)) ss vs
 | [],_,h,_=>h
 | s :: ss, vs, h, no => by
   obtain⟨v,r,rfl,g,ne,h⟩:=h;refine⟨v,r,rfl,⟨g.1,fun xs a e1 e2 z=>?_⟩,ne,Gots.set hl h fun xs a e1 e2 ys w hw=>no xs a e1 e2 ys w (by rw [List.zip_cons_cons];exact List.mem_cons_of_mem _ hw)⟩;rcases a5W hl z with z | ⟨⟨zs,ez⟩,ev⟩
   · exact g.2 xs a e1 e2 z
   · exact no zs a ez ev xs v (by rw [List.zip_cons_cons,e1];exact List.mem_cons_self) e2
end
end Pu
end
section
set_option maxHeartbeats 1000000
namespace L2
open PySem PySem.Spec PyProof.Rows
section
variable {X:Cx}
def a8q:List V→Hp→VK→Prop:=fun vs H Q=>vs=[]∧∀p,H p=none→Q (.ref p) (upd H p (.set (fun _=>false) 0))
theorem a4f:a0U X (.type "set") a8q:=by
 intro pins s σ H vs us Q I rv h;obtain⟨rfl,q⟩:=h;cases rv;refine call_set_0 fun led=>⟨.ref s.heap.objs.size,_,I.laid (a:=s.heap.objs.size) (o:=.set (fun _=>false) 0) (t':=s.toks) (fun _ _ q=>Heap.get?_push_of_some _ q) (Nat.le_refl _) ?_,rfl,q _ (I.hok.fresh (Nat.le_refl _))⟩;exact⟨_,#[],0,_,Heap.get?_push_size _ rfl,⟨rfl,rfl,rfl⟩,rfl,fun e he=>by simp at he,fun k=>by simp,by decide,by rfl,rfl⟩
theorem a6q {k:Key}{u:Value}(r:RelV (kV k) u):u.scannable=true:=by
 cases k with
 | inl i=>obtain⟨t,rfl⟩:=r;rfl
 | inr z=>obtain⟨t,rfl⟩:=r;rfl
def rInS (neg:Bool):R2:=fun y x H Q=>∃a S n k,x=.ref a∧H a=some (.set S n)∧y=kV k∧Q (.bl (if neg=true then !S k else S k)) H
theorem a5Y:OpR X (compareOp .NotIn) (rInS true):=by
 intro pins s σ H x y v u Q I rx ry h;obtain⟨a,S,n,k,rfl,hH,rfl,q⟩:=h;cases ry;have hS:s.heap.SetOf (a0W X.prog X.w) a S n:=I.hok a _ hH;exact wpAny_notInSet_of (kV_is rx) (a6q rx) hS ⟨.bl (!S k),H,I.kept (h':=s.heap) (t':=s.toks + 1) fun b o e=>e,rfl,q⟩
def rAddS:V→List V→Hp→VK→Prop:=fun x vs H Q=>∃a S n k,x=.ref a∧vs=[kV k]∧H a=some (.set S n)∧n < 1000∧Q .non (upd H a (.set (fun k'=>S k' || decide (k'=k)) (if S k then n else n + 1)))
theorem a8T:MtM X "set.add" rAddS:=by
 intro pins s σ H x vs v us Q I rx rv h;obtain⟨a,S,n,k,rfl,rfl,hH,hn,q⟩:=h;cases rx;obtain⟨u,rfl,ru⟩:=rv.one;have hS:s.heap.SetOf (a0W X.prog X.w) a S n:=I.hok a _ hH;refine call_set_add (kV_is ru) (a6q ru) hS (by unfold scanBound;omega) fun h' hs hS'=>⟨.non,_,a9i (ob:=.set (fun k'=>S k' || decide (k'=k)) (if S k then n else n + 1)) I (by rw [hH];exact True.intro) hs ?_ hS',rfl,q⟩;obtain⟨o,_,_,_,ho,_⟩:=hS';exact⟨o,ho⟩
end
end L2
namespace Pu
open PySem PySem.Spec L2
section
variable {T:PotK}{np:Bool}{ι:Type}{K:PySem.W.Frag}{F:ι→Cx}{e a:Expr}{pe pa:pE}{pos:Pos}{st:Stmt}
def a8C (i:Nat):pS:=fun D env n=>D.nx (env.set i (some (.ow (.st []) []))) n
theorem a8s (i:Nat){p cp:Pos}(hg:∀z,Gl (F z) "set")(hm:∀z,(F z).mg "set"=none)(h:∀z te,EW (F z) (.Call (.Name "set" p) [] [] cp) te→SW (F z) st (tAsg te (a1K i))):QS T np K F st (a8C i):=by
 refine⟨_,fun z=>(h z _ ⟨a4X a4f (hg z) (hm z) bt_set (by decide) (by decide)⟩).h,fun C G σ H env n PD D hK hT hn S hp L=>?_⟩;refine⟨rfl,fun p hn1=>?_⟩;exact L.nx _ _ _ _ _ hp (S.ow i (.st []) (xs:=[]) (vs:=[]) hn1 rfl) (a2b hn1)
def qInS (neg:Bool)(i:Nat)(pa:pE):pE:=fun env n R=>pa env n fun x env1 n1=>match env1[i]?,keyV x with
 | some (some (.ow (.st zs) _)),some k=>R (.bl (if neg=true then !memS zs k else memS zs k)) env1 n1
 | _,_=>False
theorem ok_inS {t:TE}(neg:Bool)(i:Nat)(h2:EOk K T t pa):EOk K T (tOp (rInS neg) t (tVar i)) (qInS neg i pa):=fun C G σ H env n R Q hK hT S hp k=>by
 refine h2 C G σ H env n _ _ hK hT S hp fun x env1 n1 v H1 q1 S1 r1 f1=>?_
 split at q1
 · rename_i zs xs kk ex ek;obtain⟨a,vs,ev,g1,g2,g3,g4,r'⟩:=S1.slots i _ ex;exact⟨.ref a,ev,a,memS zs,zs.length,kk,rfl,g4,a4y r1 ek,k _ _ _ _ _ q1 S1 rfl f1⟩
 · exact q1.elim
theorem a5x (i:Nat){x:Str}{p:Pos}(hv:∀z,EW (F z) (.Name x p) (tVar i))(ha:QE T K F a pa):QT T K F (.Compare a [.NotIn] [.Name x p] pos) (qB (qInS true i pa)):=by
 obtain⟨t,h1,h2⟩:=ha;exact⟨_,fun z=>a2Z a5Y (h1 z) (hv z).h rfl,a6c (ok_inS true i h2)⟩
def a4T (i:Nat)(pe:pE):pE:=fun env n R=>(∃zs xs,env[i]?=some (some (.ow (.st zs) xs)))∧pe env n fun y env1 n1=>match env1[i]?,keyV y with
 | some (some (.ow (.st zs) [])),some k=>zs.length < 1000∧R .non (env1.set i (some (.ow (.st (if memS zs k=true then zs else zs++[k])) []))) n1
 | _,_=>False
theorem a7p (zs:List Key)(k:Key):(fun k'=>memS zs k' || decide (k'=k))=memS (if memS zs k=true then zs else zs++[k]):=by
 funext k'
 split
 · rename_i h
   by_cases c:k'=k
   · subst c;rw [h];rfl
   · rw [decide_eq_false c,Bool.or_false]
 · unfold memS;rw [List.any_append];show _=(_ || (decide (k=k') || false));rw [Bool.or_false]
   congr 1
   rw [decide_eq_decide];exact⟨Eq.symm,Eq.symm⟩
theorem a8z (i:Nat){x:Str}{p ap:Pos}(hv:∀z,EW (F z) (.Name x p) (tVar i))(he:QE T K F e pe)(hs:a0p e=true:=by rfl)(hbase:∀z,attributeBase (.Name x p) "add" (F z).env (eval (.Name x p) (F z).env)=eval (.Name x p) (F z).env:=by intro _;rfl)(hline:(ap.endLine == pos.line)=true:=by rfl)
   (hfew:∀z,((backTo pos (starEach [e] (F z).env)).all (fun x=>!x.1) && (backToKw pos (keywordEach [] (F z).env)).all (fun x=>x.1.isSome) && decide (([e]:List Expr).length + ([]:List Keyword).length + (if([]:List Keyword).isEmpty then 0 else 1) < 30))=true:=by intro _;rfl) (hK:∀z,(F z).K=K:=by intro _;rfl):QE T K F (.Call (.Attribute (.Name x p) "add" ap) [e] [] pos) (a4T i pe):=by
 obtain⟨t,a1,a2⟩:=he;refine⟨tBM K "set" rAddS (tVar i) (a2c t tNil),fun z=>hK z▸a7i PySem.F.plainAttrs_set PySem.F.slot_set_add PySem.F.type_set_add a8T (hv z).h (a0l (a1 z) a0z (a0c hs)) (hbase z) (hfew z) hline (a0c hs),fun C G σ H env n R Q hK hT S hp k=>?_⟩;obtain⟨⟨zs0,xs0,e0⟩,hp⟩:=hp;obtain⟨a,vs,ev,h1,h2,h3,h4,r⟩:=S.slots i _ e0;refine⟨.ref a,ev,.inr (.inr (.inr ⟨rfl,_,_,h4⟩)),?_⟩;refine a2 C G σ H env n _ _ hK hT S hp fun y env1 n1 v H1 q1 S1 r1 f1=>?_
 split at q1
 · rename_i zs kk ex ek;obtain⟨a',us,ev',g1,g2,g3,g4,r'⟩:=S1.slots i _ ex;rw [ev] at ev';cases ev';subst hK;obtain⟨S2,f2⟩:=S1.putO (.st (if memS zs kk=true then zs else zs++[kk])) ex ev r'
   have eH:upd H1 a (mkO (.st (if memS zs kk=true then zs else zs++[kk])) us)=upd H1 a (.set (fun k'=>memS zs k' || decide (k'=kk)) (if memS zs kk then zs.length else zs.length + 1)):=by
     show upd H1 a (.set (memS _) _)=_;rw [a7p]
     congr 2
     split <;> simp
   rw [eH] at S2 f2;exact⟨a,memS zs,zs.length,kk,rfl,by rw [a4y r1 ek],g4,q1.1,k _ _ _ _ _ q1.2 S2 rfl (f1.trans f2)⟩
 · exact q1.elim
end
end Pu
end
section
set_option maxHeartbeats 1000000
namespace L2
open PySem PySem.Spec PyProof.Rows
abbrev LC2 (elt t1 i1 t2 i2:Expr)(ifs:List Expr)(scope:Scope)(pos:Pos):Expr:=.ListComp elt [⟨t1,i1,[],0⟩,⟨t2,i2,ifs,0⟩] scope pos
theorem a5f (elt t1 i1 t2 i2:Expr)(ifs:List Expr)(scope:Scope)(pos:Pos)(it acc:Value)(env:Env) :
   compTurn (LC2 elt t1 i1 t2 i2 ifs scope pos) 1 it acc env=(do
     standAt i2.pos
     match ← pyNext it with
     | none=>pure (.done .next)
     | some v =>
       letOwnedTupleGo t2 it v
       assign t2 env v
       let mut ok:=true
       for c in ifs do
         if ok then ok ← isTrue c env (eval c env)
       if ok then
         (do let _ ← call (.builtin "list.append") [acc,← eval elt env])
       again (.compLoop (LC2 elt t1 i1 t2 i2 ifs scope pos) 1 it acc env)):=by rfl
section
variable {prog:Program}{w:World}{A:Around}{R:Result→Shared→Prop}{s:Shared}{elt t1 i1 t2 i2:Expr}{ifs:List Expr}{scope:Scope}{pos:Pos}{it acc:Value}{env:Env}
theorem loop_i (I:Nat→Shared→Prop)
   (turn:∀n s,I n s→wpAny (model prog w) A (pyNext it) (fun r s₁=>match r with
     | none=>R (.ok .next) s₁
     | some v=>wpAny (model prog w) A (letOwnedTupleGo t2 it v) (fun _ s₁'=>wpAny (model prog w) A (assign t2 env v) (fun _ s₂=>
         wpAny (model prog w) A (forIn ifs true fun c r=>if r=true then do let ok ← isTrue c env (eval c env);pure (ForInStep.yield ok) else pure (ForInStep.yield r)) (fun ok s₃=>
           if ok=true then wpAny (model prog w) A (eval elt env) (fun x s₄=>
             wpAny (model prog w) A (call (.builtin "list.append") [acc,x]) (fun _ s₅=>∃m,m < n∧I m s₅) (fun _ _=>False) s₄) (fun _ _=>False) s₃
           else ∃m,m < n∧I m s₃) (fun _ _=>False) s₂) (fun _ _=>False) s₁') (fun _ _=>False) s₁) (fun _ _=>False) s)
   (n:Nat) (h:I n s):codeAny (model prog w) A (.compLoop (LC2 elt t1 i1 t2 i2 ifs scope pos) 1 it acc env) R s:=by
 refine codeAny_loop rfl I (fun n s hI=>?_) n h;show wpAny _ A ((compTurn (LC2 elt t1 i1 t2 i2 ifs scope pos) 1 it acc env).onRaise (fun x=>do noteFrame x env;theTreesLotGoes x)) _ _ s;refine wpAny_noted ?_;rw [a5f];refine wpAny_bind (wpAny_standAt (wpAny_bind (wpAny_mono (turn n s hI) (fun r s₁ h₁=>?_) fun _ _ h'=>h'.elim)));cases r with
 | none=>exact wpAny_pure h₁
 | some v =>
   refine wpAny_bind (wpAny_mono h₁ (fun _ s₁' h₁'=>?_) fun _ _ h'=>h'.elim);refine wpAny_bind (wpAny_mono h₁' (fun _ s₂ h₂=>wpAny_bind (wpAny_mono h₂ (fun ok s₃ h₃=>?_) fun _ _ h'=>h'.elim)) fun _ _ h'=>h'.elim);cases ok with
   | false=>exact wpAny_pure ⟨rfl,h₃⟩
   | true =>
     exact wpAny_bind (wpAny_bind (wpAny_mono h₃ (fun x s₄ h₄=>wpAny_bind (wpAny_mono h₄ (fun _ s₅ h₅=>wpAny_pure (wpAny_pure ⟨rfl,h₅⟩)) fun _ _ h'=>h'.elim)) fun _ _ h'=>h'.elim))
theorem a8o (h0:codeAny (model prog w) A (.compLoop (LC2 elt t1 i1 t2 i2 ifs scope pos) 1 it acc env) R s)
   (h:wpAny (model prog w) A (pyIter it) (fun it' s'=>codeAny (model prog w) A (.compLoop (LC2 elt t1 i1 t2 i2 ifs scope pos) 1 it' acc env) R s') (fun _ _=>False) s) :
   codeAny (model prog w) A (.compStart (LC2 elt t1 i1 t2 i2 ifs scope pos) 1 it acc env) R s:=by
 refine codeAny_of_tree ?_;show wpAny _ _ ((compStart (LC2 elt t1 i1 t2 i2 ifs scope pos) 1 it acc env).onRaise (fun x=>do noteFrame x env;standAt theWindowsPlace)) _ _ s;refine wpAny_notedAt ?_;unfold compStart;show wpAny _ _ (ask>>=_) _ _ s;refine wpAny_bind (wpAny_askSetting (wpAny_ite ?_))
 split
 · first
     | exact wpAny_bind (wpAny_pure (wpAny_pure (And.intro rfl h0)))
     | exact wpAny_pure (And.intro rfl h0)
 · first
     | exact wpAny_bind (wpAny_rule (wpAny_bind (wpAny_standAt (wpAny_bind (wpAny_mono h (fun it' s' h'=>wpAny_pure (And.intro rfl h')) fun _ _ x=>x.elim)))))
     | (refine wpAny_bind (wpAny_rule ?_);show wpAny _ _ (standAt i2.pos>>=_) _ _ s;exact wpAny_bind (wpAny_standAt (wpAny_bind (wpAny_mono h (fun it' s' h'=>wpAny_pure (And.intro rfl h')) fun _ _ x=>x.elim))))
theorem loop_o (hs:∀x,foldedSetIterable i2 env x=pure x)(I:Nat→Shared→Prop)
   (turn:∀n s,I n s→wpAny (model prog w) A (pyNext it) (fun r s₁=>match r with
     | none=>R (.ok .next) s₁
     | some v=>wpAny (model prog w) A (letOwnedTupleGo t1 it v) (fun _ s₁'=>wpAny (model prog w) A (assign t1 env v) (fun _ s₂=>
         wpAny (model prog w) A (eval i2 env) (fun x s₃=>wpAny (model prog w) A (pyIter x) (fun it2 s₄=>
           codeAny (model prog w) A (.compStart (LC2 elt t1 i1 t2 i2 ifs scope pos) 1 it2 acc env) (fun r s'=>r=.ok .next∧∃m,m < n∧I m s') s₄) (fun _ _=>False) s₃) (fun _ _=>False) s₂) (fun _ _=>False) s₁') (fun _ _=>False) s₁) (fun _ _=>False) s)
   (n:Nat) (h:I n s):codeAny (model prog w) A (.compLoop (LC2 elt t1 i1 t2 i2 ifs scope pos) 0 it acc env) R s:=by
 refine codeAny_loop rfl I (fun n s hI=>?_) n h;show wpAny _ A ((compTurn (LC2 elt t1 i1 t2 i2 ifs scope pos) 0 it acc env).onRaise (fun x=>do noteFrame x env;theTreesLotGoes x)) _ _ s;refine wpAny_noted ?_;unfold compTurn;show wpAny _ _ (standAt i1.pos>>=_) _ _ s;refine wpAny_bind (wpAny_standAt ?_);refine wpAny_bind (wpAny_mono (turn n s hI) (fun r s₁ h₁=>?_) fun _ _ h'=>h'.elim);cases r with
 | none=>exact wpAny_pure h₁
 | some v =>
   refine wpAny_bind (wpAny_mono h₁ (fun _ s₁' h₁'=>?_) fun _ _ h'=>h'.elim);refine wpAny_bind (wpAny_mono h₁' (fun _ s₂ h₂=>wpAny_bind (wpAny_tests_nil ?_)) fun _ _ h'=>h'.elim);refine wpAny_bind (wpAny_mono h₂ (fun x s₃ h₃=>?_) fun _ _ h'=>h'.elim);refine wpAny_bind (wpAny_standAt ?_);show wpAny _ _ (foldedSetIterable i2 env x>>=fun x=>(holding [x] (pyIter x)>>=fun it2=>(runOwn (.compStart (LC2 elt t1 i1 t2 i2 ifs scope pos) 1 it2 acc env) env>>=fun _=>again (.compLoop (LC2 elt t1 i1 t2 i2 ifs scope pos) 0 it acc env)))) _ _ _;refine wpAny_bind (wpAny_of_eq (hs x) (wpAny_bind (wpAny_holding (wpAny_mono h₃ (fun it2 s₄ h₄=>?_) fun _ _ h'=>h'.elim))));refine wpAny_bind (wpAny_runOwn ?_);rw [Around.mark_none];refine codeAny_mono h₄ fun r s' hr=>?_;obtain⟨rfl,hr⟩:=hr;exact wpAny_pure ⟨rfl,hr⟩
end
def CompIn (J:It)(g:TG)(tt:TT)(te:TE)(D:Addr)(N:St→Hp→Prop)(σ:St)(H:Hp):Prop:=∃W:Nat→Nat→St→Hp→Prop,(∃m,W 0 m σ H)∧
 ∀i m σ' H',W i m σ' H'→(J.stop i H'∧N σ' H')∨(J.go i H'∧∀x H2,J.yld i H' x H2→g x σ' H2 fun σ3 H3=>tt σ3 H3 fun b H4=>
    if b=true then te σ3 H4 fun v H5=>∃ys,H5 D=some (.lst ys)∧ys.length < sizeLine∧∃m',m' < m∧W (i + 1) m' σ3 (upd H5 D (.lst (ys++[v])))
    else ∃m',m' < m∧W (i + 1) m' σ3 H4)
def a8h (J:It)(g1:TG)(wi2:TI)(g2:TG)(tt:TT)(te:TE)(Q:VK)(D:Addr)(σc:St)(H1:Hp):Prop:=∃W:Nat→Nat→St→Hp→Prop,(∃m,W 0 m σc H1)∧
 ∀i m σ' H',W i m σ' H'→(J.stop i H'∧Q (.ref D) H')∨(J.go i H'∧∀x H2,J.yld i H' x H2→g1 x σ' H2 fun σ3 H3=>wi2 σ3 H3 fun J2 H4=>CompIn J2 g2 tt te D (fun σ5 H5=>∃m',m' < m∧W (i + 1) m' σ5 H5) σ3 H4)
def tComp2 (cs:List (Option Nat))(wi:TI)(g1:TG)(wi2:TI)(g2:TG)(tt:TT)(te:TE):TE:=fun σ H Q=>wi σ H fun J H1=>∀D,H1 D=none→a8h J g1 wi2 g2 tt te Q D (a5g cs σ) (upd H1 D (.lst []))
theorem a7h {X:Cx}{scope:Scope}{cl:List (Str×Addr)}{N:List Str}{cs:List (Option Nat)}{elt t1 i1 t2 i2:Expr}{ifs:List Expr}{pos:Pos}{wi1 wi2:TI}{g1 g2:TG}{tt:TT}{te:TE}(S:a0I X scope cl N cs)(hc:X.calm=true)(hi:PI X t1 i1 wi1)
   (hb:∀(fp:List Addr) (C:Addr) (s:Shared) (H:Hp),PG (a0f X scope cl N fp C s H) t1 g1∧PI (a0f X scope cl N fp C s H) t2 i2 wi2∧PG (a0f X scope cl N fp C s H) t2 g2∧PIf (a0f X scope cl N fp C s H) ifs tt∧PE (a0f X scope cl N fp C s H) elt te)
   (hs2:∀fp C s H x,foldedSetIterable i2 (a0f X scope cl N fp C s H).env x=pure x)
   (hs:∀x,foldedSetIterable i1 X.env x=pure x:=by intro _;rfl) :
   PE X (LC2 elt t1 i1 t2 i2 ifs scope pos) (tComp2 cs wi1 g1 wi2 g2 tt te):=by
 intro pins s σ H Q I h;rw [eval_ListComp];refine wpAny_comprehension_free (use:=none) rfl hs S.clos S.kind S.names (thn (hi pins s σ H _ I h) fun v s1 h1=>thn h1 fun itv s2 h2=>?_);obtain⟨it,fp,tn,J,H2,rfl,I2,T,st2,f2,q⟩:=h2
 have ho:∀b∈fp,∃o,s2.heap.get? b=some o:=fun b hb=>by
   obtain⟨o,e,_⟩:=T.obj 0 _ st2 b hb;exact⟨o,e⟩
 refine wpAny_newObj_type (wpAny_newFunctionEnv S.nocell (by intro y hy;simp at hy) (fun h₁ hns₁ hsb₁=>?_) S.kind);dsimp only at hns₁ hsb₁ ⊢;have hC:(s2.heap.push { cls:=.type "list",dict:=none,data:=.seq ([]:List Value).toArray }).objs.size=s2.heap.objs.size + 1:=by rw [Heap.size_push]
 generalize hH2:s2.heap.push { cls:=.type "list",dict:=none,data:=.seq ([]:List Value).toArray }=hp2 at hns₁ hsb₁ hC ⊢;have old:∀b o,s2.heap.get? b=some o→h₁.get? b=some o:=fun b o e=>hsb₁.extBut b o (by rw [hC];exact Nat.ne_of_lt (Nat.lt_succ_of_lt (Heap.lt_size e))) (Heap.get?_push_of_some _ (hH2▸Heap.get?_push_of_some _ e));have hD:h₁.get? s2.heap.objs.size=some { cls:=.type "list",data:=.seq ([]:List Value).toArray }:=hsb₁.extBut _ _ (by rw [hC];exact Nat.ne_of_lt (Nat.lt_succ_self _)) (Heap.get?_push_of_some _ (hH2▸Heap.get?_push_size _ rfl));rw [hC] at hns₁ ⊢;obtain⟨W,⟨m0,w0⟩,turn⟩:=q s2.heap.objs.size I2.fresh;have Ic:=a3d S (tk:=s2.toks + ([]:List (Str×Value)).length) I2 f2 ho old hns₁ hD;have nstk:∀b,b≠X.env.locals→b∉X.fs→b∉frs X.stack:=fun b h1 h2 hb=>(List.mem_cons.mp (I2.stkSub b hb)).elim h1 h2
 have stat:∀{H':Hp},(∀b∈fp,H' b=none)→∀b∈fp,FpOk (a0f X scope cl N fp (s2.heap.objs.size + 1) s2 H2) pins H' b:=fun hn b hb=>by
   obtain⟨o,e⟩:=ho b hb;exact⟨hn b hb,Nat.ne_of_lt (Nat.lt_succ_of_lt (Heap.lt_size e)),nstk b (f2 b hb).2.1 (f2 b hb).2.2.1,.inl hb,fun x c ec=>(f2 b hb).2.2.2.2.1 x c (S.sub x c ec),(f2 b hb).2.2.2.2.2⟩
 obtain⟨hg,hi2,hg2,hf,he⟩:=hb fp (s2.heap.objs.size + 1) s2 H2;have st1:tn 0 h₁:=T.keep _ _ _ st2 fun b hb o e=>old b o e
 have fr1:∀b∈fp,upd H2 s2.heap.objs.size (.lst []) b=none:=fun b hb=>by
   obtain⟨o,e⟩:=ho b hb;rw [a0g (Nat.ne_of_lt (Heap.lt_size e))];exact(f2 b hb).1
 have loop:∀s₃:Shared,s₃={ s2 with heap:=h₁,toks:=s2.toks + ([]:List (Str×Value)).length }→
     codeAny (model X.prog X.w) X.A (.compLoop (LC2 elt t1 i1 t2 i2 ifs scope pos) 0 (.ref it) (.ref s2.heap.objs.size) (compEnvC scope cl (s2.heap.objs.size + 1) X.env))
       (compPost (model X.prog X.w) X.A X.xe none (EP X pins σ Q) (.ref s2.heap.objs.size) (s2.heap.objs.size + 1)) s₃:=by
   rintro s₃ rfl;refine loop_o (hs2 fp (s2.heap.objs.size + 1) s2 H2) (fun n s'=>∃i σ' H',Inv (a0f X scope cl N fp (s2.heap.objs.size + 1) s2 H2) pins σ' H' s'∧tn i s'.heap∧(∀b∈fp,H' b=none)∧W i n σ' H') ?_ m0 ⟨0,_,_,Ic,st1,fr1,w0⟩;rintro n s3 ⟨i,σ3,H3,I3,st3,fr3,w3⟩;rcases turn i n σ3 H3 w3 with⟨stop,qn⟩ | ⟨go,step⟩
   · refine thn (T.done (a0f X scope cl N fp (s2.heap.objs.size + 1) s2 H2) rfl rfl rfl hc i pins s3 σ3 H3 (fun _ _=>False) I3 (stat fr3) st3 stop) fun r s4 ⟨hr,I4⟩=>?_;subst hr;obtain⟨m4,hn4,_⟩:=I4.loc;exact⟨m4,hn4,fun h' hs'=>⟨.ref s2.heap.objs.size,H3,Inv.uncomp I2 f2 I4 fun b hb=>hs'.2 b hb,rfl,qn⟩⟩
   · refine thn (T.item (a0f X scope cl N fp (s2.heap.objs.size + 1) s2 H2) rfl rfl rfl hc i pins s3 σ3 H3 (fun _ _=>False) I3 (stat fr3) st3 go) fun r s4 ⟨u,hr,h4⟩=>?_;subst hr;refine thn h4 fun _ s5 ⟨x,H5,I5,r5,y5,st5,fr5⟩=>?_;have I5':=I5.pinned (stat fr5) (T.obj _ _ st5);refine thn (hg _ s5 σ3 H5 x u _ I5' r5 (step x H5 y5)) fun _ s6 ⟨σ6,H6,I6,q6⟩=>?_
     have again:∀{σ7:St} {H7:Hp} {s7:Shared},Inv (a0f X scope cl N fp (s2.heap.objs.size + 1) s2 H2) (pins++a0O fp s5.heap) σ7 H7 s7→(∃m',m' < n∧W (i + 1) m' σ7 H7)→
         ∃m,m < n∧∃i σ' H',Inv (a0f X scope cl N fp (s2.heap.objs.size + 1) s2 H2) pins σ' H' s7∧tn i s7.heap∧(∀b∈fp,H' b=none)∧W i m σ' H':=fun {σ7 H7 s7} I7 n7=>by
       obtain⟨m',hm,w7⟩:=n7;refine⟨m',hm,i + 1,σ7,H7,I7.unpinned,T.keep _ _ _ st5 fun b hb o e=>(I7.pin (b,o) (List.mem_append_right _ (List.mem_append_right _ (a0u hb e)))).1,fun b hb=>?_,w7⟩;obtain⟨o,e,d⟩:=T.obj _ _ st5 b hb;exact(I7.pin (b,o) (List.mem_append_right _ (List.mem_append_right _ (a0u hb e)))).2.1
     refine thn (hi2 _ s6 σ6 H6 _ I6 q6) fun v7 s7 h7=>thn h7 fun itv s8 h8=>?_;obtain⟨it2,fp2,tn2,J2,H8,rfl,I8,T2,st8,f8,W2,⟨m2,w2⟩,turn2⟩:=h8;have stat2:∀{H':Hp},(∀b∈fp2,H' b=none)→∀b∈fp2,FpOk (a0f X scope cl N fp (s2.heap.objs.size + 1) s2 H2) (pins++a0O fp s5.heap) H' b:=fun hn b hb=>⟨hn b hb,(f8 b hb).2⟩
     have inner:codeAny (model X.prog X.w) X.A (.compLoop (LC2 elt t1 i1 t2 i2 ifs scope pos) 1 (.ref it2) (.ref s2.heap.objs.size) (compEnvC scope cl (s2.heap.objs.size + 1) X.env)) (fun r s'=>r=.ok .next∧∃m,m < n∧∃i σ' H',Inv (a0f X scope cl N fp (s2.heap.objs.size + 1) s2 H2) pins σ' H' s'∧tn i s'.heap∧(∀b∈fp,H' b=none)∧W i m σ' H') s8:=by
       refine loop_i (fun n2 s'=>∃i σ' H',Inv (a0f X scope cl N fp (s2.heap.objs.size + 1) s2 H2) (pins++a0O fp s5.heap) σ' H' s'∧tn2 i s'.heap∧(∀b∈fp2,H' b=none)∧W2 i n2 σ' H') ?_ m2 ⟨0,σ6,H8,I8,st8,fun b hb=>(f8 b hb).1,w2⟩;rintro n2 s9 ⟨i9,σ9,H9,I9,st9,fr9,w9⟩;rcases turn2 i9 n2 σ9 H9 w9 with⟨stop2,qn2⟩ | ⟨go2,step2⟩
       · refine thn (T2.done (a0f X scope cl N fp (s2.heap.objs.size + 1) s2 H2) rfl rfl rfl hc i9 (pins++a0O fp s5.heap) s9 σ9 H9 (fun _ _=>False) I9 (stat2 fr9) st9 stop2) fun r s10 ⟨hr,I10⟩=>?_;subst hr;exact⟨rfl,again I10 qn2⟩
       · refine thn (T2.item (a0f X scope cl N fp (s2.heap.objs.size + 1) s2 H2) rfl rfl rfl hc i9 (pins++a0O fp s5.heap) s9 σ9 H9 (fun _ _=>False) I9 (stat2 fr9) st9 go2) fun r s10 ⟨u2,hr,h10⟩=>?_;subst hr;refine thn h10 fun _ s11 ⟨x2,H11,I11,r11,y11,st11,fr11⟩=>?_;have I11':=I11.pinned (stat2 fr11) (T2.obj _ _ st11);refine thn (hg2 _ s11 σ9 H11 x2 u2 _ I11' r11 (step2 x2 H11 y11)) fun _ s12 ⟨σ12,H12,I12,q12⟩=>?_
         have again2:∀{σ7:St} {H7:Hp} {s7:Shared},Inv (a0f X scope cl N fp (s2.heap.objs.size + 1) s2 H2) ((pins++a0O fp s5.heap)++a0O fp2 s11.heap) σ7 H7 s7→(∃m',m' < n2∧W2 (i9 + 1) m' σ7 H7)→
             ∃m,m < n2∧∃i σ' H',Inv (a0f X scope cl N fp (s2.heap.objs.size + 1) s2 H2) (pins++a0O fp s5.heap) σ' H' s7∧tn2 i s7.heap∧(∀b∈fp2,H' b=none)∧W2 i m σ' H':=fun {σ7 H7 s7} I7 n7=>by
           obtain⟨m',hm,w7⟩:=n7;refine⟨m',hm,i9 + 1,σ7,H7,I7.unpinned,T2.keep _ _ _ st11 fun b hb o e=>(I7.pin (b,o) (List.mem_append_right _ (List.mem_append_right _ (a0u hb e)))).1,fun b hb=>?_,w7⟩;obtain⟨o,e,d⟩:=T2.obj _ _ st11 b hb;exact(I7.pin (b,o) (List.mem_append_right _ (List.mem_append_right _ (a0u hb e)))).2.1
         refine thn (hf _ s12 σ12 H12 _ I12 q12) fun ok s13 ⟨H13,I13,q13⟩=>?_;cases ok with
         | false=>exact again2 I13 q13
         | true =>
           refine thn (he _ s13 σ12 H13 _ I13 q13) fun y s14 ⟨v14,H14,I14,r14,ys,e14,z14,n14⟩=>?_
           have ma:=a1I (X:=(a0f X scope cl N fp (s2.heap.objs.size + 1) s2 H2)) _ s14 σ12 H14 (.ref s2.heap.objs.size) [v14] (.ref s2.heap.objs.size) [y]
             (fun v H9=>∃m',m' < n2∧W2 (i9 + 1) m' σ12 H9) I14 rfl (.cons r14 .nil) ⟨_,ys,v14,rfl,rfl,e14,z14,n14⟩
           exact thn ma fun _ s15 ⟨v15,H15,I15,_,q15⟩=>again2 I15 q15
     exact a8o inner (T2.self _ 0 _ _ _ st8 inner)
 exact codeAny_compStart_list (loop _ rfl) (T.self _ 0 _ _ _ st1 (loop _ rfl))
end L2
end
section
set_option maxHeartbeats 1000000
namespace Pu
open PySem PySem.Spec L2
def a3F (g:pG)(tt:pT)(te:pE):List PV→Env→Nat→(List PV→Env→Nat→Prop)→Prop
 | [],env,n,R=>R [] env n
 | x::xs,env,n,R=>g x env fun env1=>tt env1 n fun b env2 n2=>if b=true then te env2 n2 fun y env3 n3=>a3F g tt te xs env3 n3 fun ys e m=>R (y::ys) e m else a3F g tt te xs env2 n2 R
def a2r (g1:pG)(pi2:pA)(g2:pG)(tt:pT)(te:pE):List PV→Env→Nat→(List PV→Nat→Prop)→Prop
 | [],_,n,R=>R [] n
 | x::xs,env,n,R=>g1 x env fun env1=>pi2 env1 n fun ys env2 n2=>ys.length≤1000∧a3F g2 tt te ys env2 n2 fun zs env3 n3=>a2r g1 pi2 g2 tt te xs env3 n3 fun ws n4=>R (zs++ws) n4
def a5I (cs:List (Option Nat))(pi1:pA)(g1:pG)(pi2:pA)(g2:pG)(tt:pT)(te:pE):pA:=fun env n R=>pi1 env n fun xs env1 n1=>xs.length≤1000∧a2r g1 pi2 g2 tt te xs (capV cs env1) n1 fun ys n2=>R ys env1 n2
theorem a7y {K:PySem.W.Frag}{T:PotK}{J:It}{g1 g2:TG}{wi2:TI}{tt:TT}{te:TE}{pg1 pg2:pG}{pi2:pA}{ptt:pT}{pte:pE}(hg1:GOk K g1 pg1)(hi2:IOk K T wi2 pi2)(hg2:GOk K g2 pg2)(ht:TOk K T tt ptt)(he:EOk K T te pte){G:Gh}{H1:Hp}{xs:List PV}(hJ:ItR K G H1 J xs)(hl:xs.length≤1000)
   {σc:St} {env:Env} {n:Nat} {R:List PV→Nat→Prop} {Q:VK} {D:Addr} (hD:H1 D=none) (I0:Inn K T G σc H1 env n) (hp:a2r pg1 pi2 pg2 ptt pte xs env n R)
   (hQ:∀ys n' us H',R ys n'→(∀p∈G.pots,T.at_ (D::G.M) H' p n')→(∀b o,b∉G.pots→H1 b=some o→H' b=some o)→H' D=some (.lst us)→Reps K ⟨D::G.M,G.pots⟩ H' ys us→Q (.ref D) H') :
   a8h J g1 wi2 g2 tt te Q D σc (upd H1 D (.lst [])):=by
 have hDM:D∉G.M:=fun z=>by
   obtain⟨o,e,_⟩:=I0.mu D z;rw [hD] at e;cases e
 have nD:D∉G.pots:=fun z=>hDM (I0.pots D z).1
 let GD:Gh:=⟨D::G.M,G.pots⟩
 have pM:∀b,b∉GD.M→b∉G.pots:=fun b hb z=>hb (List.mem_cons_of_mem _ (I0.pots b z).1);refine⟨fun i m σ H=>m=xs.length - i∧i≤xs.length∧∃env n acc us,Inn K T GD σ H env n∧(∀b o,b∉G.pots→H1 b=some o→H b=some o)∧H D=some (.lst us)∧Reps K GD H acc us∧acc.length≤1000 * i∧a2r pg1 pi2 pg2 ptt pte (xs.drop i) env n fun ys n'=>R (acc++ys) n',?_,?_⟩
 · refine⟨xs.length,by simp,Nat.zero_le _,env,n,[],[],⟨fun p hp=>⟨List.mem_cons_of_mem _ (I0.pots p hp).1,?_⟩,fun a ha=>?_,fun i s e=>?_,I0.len⟩,fun b o _ e=>?_,a0i,rfl,Nat.le_refl _,by simpa using hp⟩
   · have h1:=T.more (M':=D::G.M) (I0.pots p hp).2 (fun a ha=>(List.mem_cons.mp ha).elim (fun z=>.inr (z▸hD)) .inl);refine T.keep h1 ?_ fun b o hb e=>Same.lay1 hD b o e;obtain⟨o,e,_⟩:=T.mu h1;rw [e,Same.lay1 hD p o e]
   · rcases List.mem_cons.mp ha with rfl | ha
     · exact⟨_,a0i,trivial⟩
     · obtain⟨o,e,m⟩:=I0.mu a ha;exact⟨o,Same.lay1 hD a o e,m⟩
   · obtain⟨x,v,rfl,ev,r⟩:=I0.slots i s e;exact⟨x,v,rfl,ev,Rep.mono (G':=GD) (H':=upd H1 D (.lst [])) (fun b o _ e=>Same.lay1 hD b o e) (fun a ha=>(List.mem_cons.mp (show a∈D::G.M from ha)).elim (fun z=>.inr (z▸hD)) .inl) (fun _ _ e=>e) _ _ r⟩
   · exact Same.lay1 hD b o e
 · rintro i m σ H ⟨rfl,hi,env,n,acc,us,I,kp,eD,ra,la,hc⟩
   have hf:∀p,H p=none→p∉GD.M:=fun p hp z=>by
     obtain⟨o,e,_⟩:=I.mu p z;rw [hp] at e;cases e
   have hk:∀b o,b∉G.M→H1 b=some o→H b=some o:=fun b o hb e=>kp b o (fun z=>hb (I0.pots b z).1) e;obtain⟨hgo,hstop⟩:=hJ GD H hk (fun a ha=>(List.mem_cons.mp (show a∈D::G.M from ha)).elim (fun z=>.inr (z▸hD)) .inl) (fun _ _ e=>e) hf
   by_cases hlt:i < xs.length
   · have ex:xs[i]?=some xs[i]:=List.getElem?_eq_getElem hlt;obtain⟨gg1,gg2⟩:=hgo i _ ex;refine .inr ⟨gg1,fun v H2 y=>?_⟩;obtain⟨s2,rv⟩:=gg2 v H2 y;rw [List.drop_eq_getElem_cons hlt] at hc;have S0:=I.sr;have S1:SR ⟨K,T,GD.M,GD.pots,H,false⟩ GD σ H2 env n:=S0.same s2;refine hg1 _ GD σ H2 env n xs[i] v _ _ rfl S1 rv hc fun env1 σ1 hc1 S2=>?_;refine hi2 _ GD σ1 H2 env1 n _ _ rfl rfl S2 hc1 fun ys env2 n2 J2 H4 q4 S4 f4 hJ2=>?_;have I4:=S4.inn;have k4:∀b o,b∉G.pots→H1 b=some o→H4 b=some o:=fun b o hb e=>S4.frame b o hb (kp b o hb e);have d4:H4 D=some (.lst us):=S4.frame D _ nD eD;have ra4:Reps K GD H4 acc us:=Reps.mono (fun b o hb e=>S4.frame b o (pM b hb) e) (fun a ha=>.inl ha) (fun _ _ e=>e) _ _ ra;refine⟨fun j m σ H'=>m=ys.length - j∧j≤ys.length∧∃env n acc2 us2,Inn K T GD σ H' env n∧(∀b o,b∉G.pots→H1 b=some o→H' b=some o)∧(∀b o,b∉GD.M→H4 b=some o→H' b=some o)∧H' D=some (.lst us2)∧Reps K GD H' acc2 us2∧acc2.length≤1000 * i + j∧a3F pg2 ptt pte (ys.drop j) env n fun zs env3 n3=>a2r pg1 pi2 pg2 ptt pte (xs.drop (i + 1)) env3 n3 fun ws n4=>R (acc2++(zs++ws)) n4,⟨ys.length,by simp,Nat.zero_le _,env2,n2,acc,us,I4,k4,fun _ _ _ e=>e,d4,ra4,la,q4.2⟩,?_⟩;rintro j m σ5 H5 ⟨rfl,hj,env5,n5,acc5,us5,I5,kp5,kq5,eD5,ra5,la5,hc5⟩
     have hf5:∀p,H5 p=none→p∉GD.M:=fun p hp z=>by
       obtain⟨o,e,_⟩:=I5.mu p z;rw [hp] at e;cases e
     obtain⟨hgo5,hstop5⟩:=hJ2 GD H5 kq5 (fun a ha=>.inl ha) (fun _ _ e=>e) hf5
     by_cases hlt5:j < ys.length
     · have ex5:ys[j]?=some ys[j]:=List.getElem?_eq_getElem hlt5;obtain⟨u1,u2⟩:=hgo5 j _ ex5;refine .inr ⟨u1,fun v6 H6 y6=>?_⟩;obtain⟨s6,rv6⟩:=u2 v6 H6 y6;rw [List.drop_eq_getElem_cons hlt5] at hc5;have S6:SR ⟨K,T,GD.M,GD.pots,H5,false⟩ GD σ5 H6 env5 n5:=I5.sr.same s6;refine hg2 _ GD σ5 H6 env5 n5 ys[j] v6 _ _ rfl S6 rv6 hc5 fun env7 σ7 hc7 S7=>?_;refine ht _ GD σ7 H6 env7 n5 _ _ rfl rfl S7 hc7 fun b env8 n8 H8 hc8 S8 f8=>?_
       have pt:∀{H9:Hp} {env9:Env} {n9:Nat},SR ⟨K,T,GD.M,GD.pots,H5,false⟩ GD σ7 H9 env9 n9→(∀b o,b∉G.pots→H1 b=some o→H9 b=some o)∧(∀b o,b∉GD.M→H4 b=some o→H9 b=some o)∧H9 D=some (.lst us5):=fun S9=>
         ⟨fun b o hb e=>S9.frame b o hb (kp5 b o hb e),fun b o hb e=>S9.frame b o (pM b hb) (kq5 b o hb e),S9.frame D _ nD eD5⟩
       cases b with
       | false =>
         obtain⟨k1,k2,k3⟩:=pt S8;refine⟨ys.length - (j + 1),by omega,rfl,hlt5,env8,n8,acc5,us5,S8.inn,k1,k2,k3,?_,by omega,hc8⟩;exact Reps.mono (fun b o hb e=>S8.frame b o (pM b hb) e) (fun a ha=>.inl ha) (fun _ _ e=>e) _ _ ra5
       | true =>
         refine he _ GD σ7 H8 env8 n8 _ _ rfl rfl S8 hc8 fun y env9 n9 u H9 hc9 S9 r9 f9=>?_;obtain⟨k1,k2,k3⟩:=pt S9;have ra9:Reps K GD H9 acc5 us5:=Reps.mono (fun b o hb e=>S9.frame b o (pM b hb) e) (fun a ha=>.inl ha) (fun _ _ e=>e) _ _ ra5
         have fD:∀(o:HO),Fr GD H9 (upd H9 D o):=fun o b u hb e=>by
           rw [a0g (fun z=>hb (by rw [z];exact List.mem_cons_self))];exact e
         have I9:=S9.inn;refine⟨us5,k3,?_,ys.length - (j + 1),by omega,rfl,hlt5,env9,n9,acc5++[y],us5++[u],⟨fun p hp=>⟨(I9.pots p hp).1,?_⟩,fun a ha=>?_,fun q s e=>?_,I9.len⟩,fun b o hb e=>?_,fun b o hb e=>fD _ b o hb (k2 b o hb e),a0i,(ra9.append (.one r9)).fr (fD _),by rw [List.length_append,List.length_singleton];omega,?_⟩
         · have:=ra5.length;rw [← this];exact mil' (by omega)
         · have np:p≠D:=fun z=>hDM (by rw [← z];exact(I0.pots p hp).1);exact T.keep (I9.pots p hp).2 (a0g np) fun b o hb e=>fD _ b o hb e
         · by_cases haD:a=D
           · subst haD;exact⟨_,a0i,trivial⟩
           · obtain⟨o,e,m⟩:=I9.mu a ha;exact⟨o,by rw [a0g haD];exact e,m⟩
         · obtain⟨x,v,rfl,ev,r⟩:=I9.slots q s e;exact⟨x,v,rfl,ev,r.fr (fD _)⟩
         · have nb:b≠D:=fun z=>by rw [z,hD] at e;cases e
           rw [a0g nb];exact k1 b o hb e
         · simpa [List.append_assoc] using hc9
     · have ej:j=ys.length:=by omega
       subst ej;refine .inl ⟨hstop5 _ (Nat.le_refl _),xs.length - (i + 1),by omega,rfl,hlt,env5,n5,acc5,us5,I5,kp5,eD5,ra5,by have:=q4.1;omega,?_⟩;rw [List.drop_length] at hc5;exact hc5
   · have ei:i=xs.length:=by omega
     subst ei;refine .inl ⟨hstop _ (Nat.le_refl _),?_⟩;rw [List.drop_length] at hc;exact hQ _ n us H (by simpa [a2r] using hc) (fun p hp=>(I.pots p hp).2) kp eD ra
section
variable {T:PotK}{ι:Type}{K:PySem.W.Frag}{F:ι→Cx}{pg1 pg2:pG}{pos:Pos}
theorem a7b {scope:Scope}{cl:ι→List (Str×Addr)}{N:List Str}{cs:List (Option Nat)}{elt t1 i1 t2 i2:Expr}{ifs:List Expr}{pi1 pi2:pA}{ptt:pT}{pte:pE}(S:∀z,a0I (F z) scope (cl z) N cs)(hc:∀z,(F z).calm=true)(hi:QI T K F t1 i1 pi1)
   (hg:QG K (fun y:ι×List Addr×Addr×Shared×Hp=>a0f (F y.1) scope (cl y.1) N y.2.1 y.2.2.1 y.2.2.2.1 y.2.2.2.2) t1 pg1)
   (hi2:QI T K (fun y:ι×List Addr×Addr×Shared×Hp=>a0f (F y.1) scope (cl y.1) N y.2.1 y.2.2.1 y.2.2.2.1 y.2.2.2.2) t2 i2 pi2)
   (hg2:QG K (fun y:ι×List Addr×Addr×Shared×Hp=>a0f (F y.1) scope (cl y.1) N y.2.1 y.2.2.1 y.2.2.2.1 y.2.2.2.2) t2 pg2)
   (ht:QIf T K (fun y:ι×List Addr×Addr×Shared×Hp=>a0f (F y.1) scope (cl y.1) N y.2.1 y.2.2.1 y.2.2.2.1 y.2.2.2.2) ifs ptt)
   (he:QE T K (fun y:ι×List Addr×Addr×Shared×Hp=>a0f (F y.1) scope (cl y.1) N y.2.1 y.2.2.1 y.2.2.2.1 y.2.2.2.2) elt pte)
   (hs:∀z x,foldedSetIterable i1 (F z).env x=pure x:=by intro _ _;rfl) (hs2:∀z fp C s H x,foldedSetIterable i2 (a0f (F z) scope (cl z) N fp C s H).env x=pure x:=by intro _ _ _ _ _ _;rfl):QN T K F (LC2 elt t1 i1 t2 i2 ifs scope pos) (a5I cs pi1 pg1 pi2 pg2 ptt pte):=by
 obtain⟨wi,i1',i2'⟩:=hi;obtain⟨g,hg0,hg⟩:=hg;obtain⟨wj,j1,j2⟩:=hi2;obtain⟨g2,hg20,hg2⟩:=hg2;obtain⟨tt,ht0,ht⟩:=ht;obtain⟨te,he0,he⟩:=he;refine⟨_,fun z=>a7h (S z) (hc z) (i1' z) (fun fp C s H=>⟨hg0 (z,fp,C,s,H),j1 (z,fp,C,s,H),hg20 (z,fp,C,s,H),ht0 (z,fp,C,s,H),he0 (z,fp,C,s,H)⟩) (hs2 z) (hs z),fun C G σ H env n R Q hK hT S hp k=>?_⟩;refine i2' C G σ H env n _ _ hK hT S hp fun xs env1 n1 J H1 p1 S1 f1 hJ=>?_;intro D hD;have hDM:=S1.fresh hD;refine a7y (G:=G) hg j2 hg2 ht he hJ p1.1 hD (hT▸hK▸a4e S1 cs) p1.2 fun ys n2 us H' rr hpots hk eD ry=>?_;have nD:∀b o,H1 b=some o→b≠D:=fun b o e z=>by rw [z,hD] at e;cases e
 have hk2:∀b o,b∉G.pots→H1 b=some o→cutH H' D b=some o:=fun b o hb e=>by rw [a0F (nD b o e)];exact hk b o hb e
 have nc:∀b,b∉D::G.M→b≠D:=fun b hb z=>hb (by rw [z];exact List.mem_cons_self);have np:∀p∈G.pots,p≠D:=fun p hp z=>hDM (z▸(S1.pots p hp).1)
 have Sb:SR C G σ (cutH H' D) env1 n2:=S1.call hk2 fun p hp=>by
   subst hT;have h2:=C.T.keep (hpots p hp) (H':=cutH H' D) (a0F (np p hp)) fun b o hb e=>by rw [a0F (nc b hb)];exact e
   exact C.T.more h2 fun a ha=>.inl (List.mem_cons_of_mem _ ha)
 have:=k ys env1 n2 D us (cutH H' D) rr Sb (f1.trans fun b o hb e=>hk2 b o (fun z=>hb (S1.pots b z).1) e) (by unfold cutH;rw [if_pos rfl]) ?_
 · rw [a2H eD] at this;exact this
 · exact Reps.mono (G:=⟨D::G.M,G.pots⟩) (fun b o hb e=>by rw [a0F (nc b hb)];exact e) (fun a ha=>.inl (List.mem_cons_of_mem _ ha)) (fun _ _ e=>e) _ _ ry
end
end Pu
end
section
set_option maxHeartbeats 1000000
namespace L2
open PySem PySem.Spec PyProof.Rows
section
variable {X:Cx}
def rMulL:R2:=fun x y H Q=>∃a xs n,x=.ref a∧y=.int n∧H a=some (.lst xs)∧0 < xs.length∧xs.length≤100∧0≤n∧n≤1000∧∀p,H p=none→Q (.ref p) (upd H p (.lst (a6k n xs)))
theorem a8L:OpR X (binaryOp .Mult) rMulL:=by
 intro pins s σ H x y v u Q I rx ry h;obtain⟨a,xs,n,rfl,rfl,hH,h1,h2,h3,h4,q⟩:=h;cases rx;obtain⟨t,rfl⟩:=ry;obtain⟨z,its,k,r,hl',hl⟩:=I.lstM hH;have hle:=r.length
 have ne:its.toArray.isEmpty=false:=by
   cases its with
   | nil=>rw [List.length_nil] at hle;omega
   | cons x l=>simp
 have m1:its.toArray.size * n.toNat≤100 * 1000:=Nat.mul_le_mul (by rw [List.size_toArray];omega) (by omega)
 refine wpAny_binaryOp_repeat_ref (T:="list") (U:="int") (by decide) ⟨_,hl,rfl⟩ (fun s'=>typeIs_int s' n t) noFill_list_mul F.fills_int_mul F.slot_int_rmul repeat_list F.slot_int_index.lookup
   (call_meets F.slot_int_rmul (typeIs_int s n t) F.entry_int_rmul (F.args_int_rmul_2 _ _) (int___rmul___int_list n t a its.toArray k) ⟨hl,rfl,⟨_,hl,rfl⟩,call_meets F.slot_list_mul ⟨_,hl,rfl⟩ F.entry_list_mul (F.args_list_mul_2 _ _)
     (AutoListH.list___mul___list_int_3 a its.toArray k n t (by simp [Builtin.List.listFitsIndex];omega) (by omega) (by simp only [Builtin.List.listTooLong,sizeLine];simp;have:=m1;rw [List.size_toArray] at this;omega)) ⟨hl,?_⟩⟩)
 rw [ne];refine⟨.ref s.heap.objs.size,_,I.laid (t':=s.toks) (o:=.lst (a6k n xs)) (fun b ob q=>Heap.get?_push_of_some _ q) (Nat.le_refl _) ?_,rfl,q _ (I.hok.fresh (Nat.le_refl _))⟩;have e:=a3C its n.toNat #[];refine⟨?_,(List.replicate n.toNat its).flatten,0,a3i r n.toNat,?_⟩
 · unfold a6k;rw [a4w];have:n.toNat * xs.length≤1000 * 100:=Nat.mul_le_mul (by omega) h2;rw [sizeLine_eq];omega
 · rw [Heap.get?_push_size _ rfl];simp only [Bool.false_eq_true,if_false];rw [e];simp
end
end L2
namespace Pu
open PySem PySem.Spec L2
section
variable {T:PotK}{ι:Type}{K:PySem.W.Frag}{F:ι→Cx}{a b:Expr}{pa pb:pE}{pos:Pos}
def a5k:w2:=fun x y R=>match x,y with | .lst xs,.int n=>0 < xs.length∧xs.length≤100∧0≤n∧n≤1000∧R (.lst (a6k n xs)) | _,_=>False
theorem a8P {K:PySem.W.Frag}{ta tb:TE}(ha:EOk K T ta pa)(hb:EOk K T tb pb):EOk K T (tOp rMulL ta tb) (qOp a5k pa pb):=fun C G σ H env n R Q hK hT S hp k=>by
 refine ha C G σ H env n _ _ hK hT S hp fun x env1 n1 v H1 p1 S1 r1 f1=>?_;refine hb C G σ H1 env1 n1 _ _ hK hT S1 p1 fun y env2 n2 u H2 p2 S2 r2 f2=>?_;unfold a5k at p2
 split at p2
 · rename_i xs m;obtain⟨h1,h2,h3,h4,q⟩:=p2;obtain⟨a,vs,rfl,t,r⟩:=r1.fr f2;have hl:=r.length;exact⟨a,vs,m,rfl,r2,t.2,by omega,by omega,h3,h4,fun p hp=>k _ _ _ _ _ q (S2.same (Same.lay1 hp)) (a1M (S2.fresh hp) hp (a3s r m.toNat)) ((f1.trans f2).trans (Fr.of (Same.lay1 hp)))⟩
 · exact p2.elim
theorem a8y (ha:QE T K F a pa)(hb:QE T K F b pb):QE T K F (.BinOp a .Mult b pos) (qOp a5k pa pb):=by
 obtain⟨ta,h1,h2⟩:=ha;obtain⟨tb,h3,h4⟩:=hb;exact⟨_,fun z=>a0v a8L (h1 z) (h3 z),a8P h2 h4⟩
end
end Pu
end
section
set_option maxHeartbeats 1000000
namespace L2
open PySem PySem.Spec PyProof.Rows
def insL {α:Type}(xs:List α)(k:Nat)(y:α):List α:=xs.take k++y::xs.drop k
theorem a3e {α:Type}(xs:List α)(k:Nat)(y:α):(insL xs k y).length=xs.length + 1:=by
 unfold insL;rw [List.length_append,List.length_cons,List.length_take,List.length_drop];omega
section
variable {X:Cx}
def a5v:V→List V→Hp→VK→Prop:=fun x vs H Q=>∃l xs i y,x=.ref l∧vs=[.int i,y]∧H l=some (.lst xs)∧0≤i∧i≤1000000∧xs.length < sizeLine∧Q .non (upd H l (.lst (insL xs i.toNat y)))
theorem a9c {its:List Value}{i:Int}{u:Value}(h0:0≤i):(have k:=if i < 0 then(i + ((its.toArray.size:Nat):Int)).toNat else min i.toNat its.toArray.size;(its.toArray.extract 0 k).push u++its.toArray.extract k)=(insL its i.toNat u).toArray:=by
 have e:(if i < 0 then(i + ((its.toArray.size:Nat):Int)).toNat else min i.toNat its.toArray.size)=min i.toNat its.length:=by
   rw [if_neg (by omega)];simp
 show(its.toArray.extract 0 (if i < 0 then(i + ((its.toArray.size:Nat):Int)).toNat else min i.toNat its.toArray.size)).push u++its.toArray.extract (if i < 0 then(i + ((its.toArray.size:Nat):Int)).toNat else min i.toNat its.toArray.size)=_;rw [e];unfold insL;rcases Nat.le_total i.toNat its.length with h | h
 · rw [Nat.min_eq_left h];simp;exact List.take_of_length_le (by rw [List.length_drop];exact Nat.le_refl _)
 · rw [Nat.min_eq_right h,List.take_of_length_le h,List.drop_of_length_le h];simp
theorem a6h:MtM X "list.insert" a5v:=by
 intro pins s σ H x vs v us Q I rx rv h;obtain⟨l,xs,i,y,rfl,rfl,hH,h0,h1,hz,q⟩:=h;cases rx;cases rv with
 | cons ri rv =>
   obtain⟨t,rfl⟩:=ri;obtain⟨u,rfl,ru⟩:=Vals.one rv;obtain⟨z,its,n,r,hl,e⟩:=I.lstM hH
   have hf:¬(!Builtin.List.listFitsIndex i)=true:=by
     simp only [Builtin.List.listFitsIndex];simp;omega
   refine call_meets F.slot_list_insert ⟨_,e,rfl⟩ F.entry_list_insert (F.args_list_insert_3 _ _ _) (PySem.AutoSeq1.list_insert_list_int_val_1 l its.toArray n i t u hf (by rw [List.size_toArray];omega)) ⟨e,?_⟩;refine⟨.non,_,I.lset (its':=insL its i.toNat u) hH e (a9c h0) ?_ ?_,rfl,q⟩
   · exact(r.take i.toNat).append (.cons ru (r.drop i.toNat))
   · rw [a3e];omega
end
end L2
namespace Pu
open PySem PySem.Spec L2
section
variable {T:PotK}{ι:Type}{K:PySem.W.Frag}{F:ι→Cx}{e ei:Expr}{pe pi:pE}{pos:Pos}
def a2X (i:Nat)(pi pe:pE):pE:=fun env n R=>(∃xs,env[i]?=some (some (.ow .lst xs)))∧pi env n fun j env1 n1=>pe env1 n1 fun y env2 n2=>match env2[i]?,j with | some (some (.ow .lst xs)),.int j=>(0≤j∧j≤1000000∧xs.length < 1000000)∧R .non (env2.set i (some (.ow .lst (insL xs j.toNat y)))) n2 | _,_=>False
theorem a3v (i:Nat){x:Str}{p ap:Pos}(hv:∀z,EW (F z) (.Name x p) (tVar i))(hi:QE T K F ei pi)(he:QE T K F e pe)(hs1:a0p ei=true:=by rfl)(hs:a0p e=true:=by rfl)(hbase:∀z,attributeBase (.Name x p) "insert" (F z).env (eval (.Name x p) (F z).env)=eval (.Name x p) (F z).env:=by intro _;rfl)(hline:(ap.endLine == pos.line)=true:=by rfl)
   (hfew:∀z,((backTo pos (starEach [ei,e] (F z).env)).all (fun x=>!x.1) && (backToKw pos (keywordEach [] (F z).env)).all (fun x=>x.1.isSome) && decide (([ei,e]:List Expr).length + ([]:List Keyword).length + (if([]:List Keyword).isEmpty then 0 else 1) < 30))=true:=by intro _;rfl)
   (hplain:∀z,(backTo pos (starEach [e] (F z).env)).any (·.1)=false:=by intro _;rfl) (hK:∀z,(F z).K=K:=by intro _;rfl):QE T K F (.Call (.Attribute (.Name x p) "insert" ap) [ei,e] [] pos) (a2X i pi pe):=by
 obtain⟨ti,i1,i2⟩:=hi;obtain⟨t,a1,a2⟩:=he;refine⟨tBM K "list" a5v (tVar i) (a2c ti (a2c t tNil)),fun z=>hK z▸a7i PySem.F.plainAttrs_list PySem.F.slot_list_insert PySem.F.type_list_insert a6h (hv z).h (a0l (i1 z) (a0l (a1 z) a0z (a0c hs)) (a0c hs1)) (hbase z) (hfew z) hline (a0c hs1) (hplain z),fun C G σ H env n R Q hK hT S hp k=>?_⟩;obtain⟨⟨xs0,e0⟩,hp⟩:=hp;obtain⟨a,vs,ev,h1,h2,h3,h4,r⟩:=S.slots i _ e0;refine⟨.ref a,ev,.inl ⟨rfl,vs,SqL.of h4⟩,?_⟩;refine i2 C G σ H env n _ _ hK hT S hp fun j env1 n1 v H1 q1 S1 r1 f1=>?_;refine a2 C G σ H1 env1 n1 _ _ hK hT S1 q1 fun y env2 n2 u H2 q2 S2 r2 f2=>?_
 split at q2
 · rename_i xs j' ex;obtain⟨a',us,ev',g1,g2,g3,g4,r'⟩:=S2.slots i _ ex;rw [ev] at ev';cases ev';subst hK;obtain⟨S3,f3⟩:=S2.put ex ev ((r'.take j'.toNat).append (xs:=xs.take j'.toNat) (ys:=y::xs.drop j'.toNat) (us:=u::us.drop j'.toNat) ⟨u,_,rfl,r2,r'.drop j'.toNat⟩);exact⟨a,us,j',u,rfl,by rw [show v=.int j' from r1],g4,q2.1.1,q2.1.2.1,by rw [← r'.length];exact mil' (by omega),k _ _ _ _ _ q2.2 S3 rfl ((f1.trans f2).trans f3)⟩
 · exact q2.elim
end
end Pu
end
section
set_option maxHeartbeats 1000000
namespace Pu
open PySem PySem.Spec L2
section
variable {T:PotK}{np:Bool}{ι:Type}{K:PySem.W.Frag}{F:ι→Cx}{a b ea eb:Expr}{st:Stmt}{pos:Pos}{pa pb pi pj:pE}
theorem a9d {X:Cx}(K:PySem.W.Frag){x y:Expr}{gx gy:TG}{pos:Pos}{k:Nat}(hc:X.calm=true)(h1:GW X x gx)(h2:GW X y gy)(hn:(assignEach [x,y] X.env).length=2:=by rfl)(hst:(assignEach [x,y] X.env).findIdx? (·.1)=none:=by rfl)
   (hs:(assignEach [x,y] X.env).map (·.2)=assign x X.env::(assignEach [y] X.env).map (·.2):=by rfl) (hs2:(assignEach [y] X.env).map (·.2)=assign y X.env::(assignEach [] X.env).map (·.2):=by rfl) (hK:X.K=K:=by rfl) :
   GW X (.Tuple [x,y] k pos) (gTup K 2 (a6v gx (a6v gy gNil))):=⟨hK▸a7P hc (a3a h1.h (a3a h2.h a5R hs2) hs) hn hst⟩
def a8B (i:Nat)(pa pb pi pj:pE):pS:=fun D env n=>pa env n fun x env1 n1=>pb env1 n1 fun y env2 n2=>(∃xs,env2[i]?=some (some (.ow .lst xs)))∧gAt i pi x env2 n2 fun env3 n3=>gAt i pj y env3 n3 D.nx
theorem a8r (i:Nat){tg:Expr}{k:Nat}{p:Pos}(h:∀z te g,EW (F z) (.Tuple [a,b] k p) te→GW (F z) tg g→SW (F z) st (tAsg te g))(hg:∀z ti tj,EW (F z) ea ti→EW (F z) eb tj→GW (F z) tg (gTup K 2 (a6v (gSub (tVar i) ti a5u) (a6v (gSub (tVar i) tj a5u) gNil))))(h1:QE T K F a pa)(h2:QE T K F b pb)(h3:QE T K F ea pi)(h4:QE T K F eb pj)(n1:a0p a=true:=by rfl)(n2:a0p b=true:=by rfl):QS T np K F st (a8B i pa pb pi pj):=by
 obtain⟨t,a1,a2⟩:=h1;obtain⟨u,b1,b2⟩:=h2;obtain⟨ti,i1,i2⟩:=h3;obtain⟨tj,j1,j2⟩:=h4;refine⟨_,fun z=>(h z _ _ ⟨a7R (a0l (a1 z) (a0l (b1 z) a0z (a0c n2)) (a0c n1))⟩ (hg z _ _ ⟨i1 z⟩ ⟨j1 z⟩)).h,fun C G σ H env n PD D hK hT hn S hp L=>?_⟩;refine a2 C G σ H env n _ _ hK hT S hp fun x env1 n1 v H1 q1 S1 r1 f1=>?_;refine b2 C G σ H1 env1 n1 _ _ hK hT S1 q1 fun y env2 n2 w H2 q2 S2 r2 f2=>?_;obtain⟨⟨xs0,e0⟩,q2⟩:=q2;refine⟨by show 2≤sizeLine;decide,fun p hn'=>⟨p,[v,w],rfl,SqT.of a0i,rfl,v,[w],rfl,?_⟩⟩;have sm:Same H2 (upd H2 p (.tup [v,w])):=Same.lay1 hn';generalize upd H2 p (.tup [v,w])=H3 at sm ⊢;have S3:=S2.same sm;obtain⟨a,vs,ev,h1,h2,h3,h4,r⟩:=S3.slots i _ e0;refine⟨.ref a,ev,?_⟩;refine i2 C G σ H3 env2 n2 _ _ hK hT S3 q2 fun d env3 n3 ud H4 q3 S4 r4 f4=>?_
 split at q3
 · rename_i xs d ex
   split at q3
   · rename_i jj ej;obtain⟨a',us,ev',g1,g2,g3,g4,r'⟩:=S4.slots i _ ex;rw [ev] at ev';cases ev';subst hK;obtain⟨S5,f5⟩:=S4.put ex ev (r'.set jj (((r1.fr f2).same sm).fr f4));refine⟨a,us,d,jj,rfl,r4,g4,by rw [← r'.length];exact ej,?_⟩;refine⟨w,[],rfl,.ref a,ev,?_⟩;refine j2 C G σ _ _ n3 _ _ rfl hT S5 q3 fun d2 env5 n5 ud2 H5 q5 S6 r6 f6=>?_
     split at q5
     · rename_i xs2 d2 ex2
       split at q5
       · rename_i jj2 ej2;obtain⟨a',us2,ev',k1,k2,k3,k4,r7⟩:=S6.slots i _ ex2;rw [ev] at ev';cases ev';obtain⟨S7,f7⟩:=S6.put ex2 ev (r7.set jj2 ((((r2.same sm).fr f4).fr f5).fr f6));exact⟨a,us2,d2,jj2,rfl,r6,k4,by rw [← r7.length];exact ej2,rfl,L.nx _ _ _ _ _ q5 S7 (Ext.fr ((((((f1.trans f2).trans (Fr.of sm)).trans f4).trans f5).trans f6).trans f7))⟩
       · exact q5.elim
     · exact q5.elim
   · exact q3.elim
 · exact q3.elim
end
end Pu
end
section
set_option maxHeartbeats 1000000
namespace Pu
open PySem PySem.Spec L2
def lt (f t:Int)(k:Nat):Nat:=97 + ((f + (k:Int) * t) % 26).toNat
def a6N:List Int:=[1,3,5,7,9,11,15,17,19,21,23,25]
theorem lt_ne {f t:Int}(ht:t∈a6N)(f0:0≤f){j k:Nat}(hjk:j < k)(hk:k < 26):lt f t j≠lt f t k:=by
 unfold lt;simp only [a6N,List.mem_cons,List.not_mem_nil,or_false] at ht;rcases ht with rfl | rfl | rfl | rfl | rfl | rfl | rfl | rfl | rfl | rfl | rfl | rfl <;> omega
theorem lt_at {f t:Int}{k:Nat}:atI LETS.cps.toList ((f + (k:Int) * t) % 26)=some (lt f t k):=
 a6m (Int.emod_nonneg _ (by decide)) (Int.emod_lt_of_pos _ (by decide))
theorem a4O {t:Int}(ht:t∈a6N):-(2 ^ 64) < t∧t < 2 ^ 64:=by
 simp only [a6N,List.mem_cons,List.not_mem_nil,or_false] at ht;rcases ht with rfl | rfl | rfl | rfl | rfl | rfl | rfl | rfl | rfl | rfl | rfl | rfl <;> decide
theorem a8U {z:Str}{zs:List Str}:memP (.str z) (zs.map PV.str)=decide (z∈zs):=by
 unfold memP;rw [List.any_map,Bool.eq_iff_iff,List.any_eq_true,decide_eq_true_iff];constructor
 · rintro⟨y,hy,e⟩;have e':decide (y=z)=true:=by rw [← a4F];exact e
   rw [← of_decide_eq_true e'];exact hy
 · intro h;refine⟨z,h,?_⟩;show eqP (.str z) (.str z)=true;rw [a4F];exact decide_eq_true rfl
theorem a9n (zs:List Str)(d:Nat):(zs.map PV.str).all (cmpb d)=true:=by
 rw [List.all_map,List.all_eq_true];intro x _;cases d <;> rfl
theorem a7m {z:Str}{zs:List Str}{P:List PV}(hP:zs.map PV.str=P){R:PV→Prop}(h:R (.bl (!decide (z∈zs)))):wIn 4 true (.str z) (.lst P) R:=by
 subst hP;exact⟨rfl,a9n zs 4,by rw [a8U];exact h⟩
abbrev rowP (zs:List Str):PV:=.tup (zs.map PV.str)
inductive Ev where
 | d (x:Str) | t (x y:Str)
theorem a5a {zs:List Str}(nd:zs.Nodup){i j:Nat}{z:Str}(h1:zs[i]?=some z)(h2:zs[j]?=some z):i=j:=by
 obtain⟨l1,e1⟩:=List.getElem?_eq_some_iff.mp h1;obtain⟨l2,e2⟩:=List.getElem?_eq_some_iff.mp h2;rcases Nat.lt_trichotomy i j with h | h | h
 · exact absurd (e1.trans e2.symm) (List.pairwise_iff_getElem.mp nd i j l1 l2 h)
 · exact h
 · exact absurd (e2.trans e1.symm) (List.pairwise_iff_getElem.mp nd j i l2 l1 h)
def ixS (zs:List Str)(z:Str):Nat:=zs.findIdx fun y=>decide (y=z)
theorem a1b {zs:List Str}{z:Str}(h:z∈zs):zs[ixS zs z]?=some z∧∀i,i < ixS zs z→zs[i]?≠some z:=by
 unfold ixS;have hl:zs.findIdx (fun y=>decide (y=z)) < zs.length:=List.findIdx_lt_length_of_exists ⟨z,h,by simp⟩;refine⟨?_,fun i hi e=>?_⟩
 · rw [List.getElem?_eq_getElem hl];have:=List.findIdx_getElem (w:=hl);rw [of_decide_eq_true this]
 · have:=List.not_of_lt_findIdx hi;obtain⟨l1,e1⟩:=List.getElem?_eq_some_iff.mp e;rw [e1] at this;simp at this
theorem a1U {zs:List Str}{z:Str}(h:z∈zs):ixS zs z < zs.length:=(List.getElem?_eq_some_iff.mp (a1b h).1).1
theorem m_ix {zs:List Str}{z:Str}{P:List PV}(hP:zs.map PV.str=P)(h:z∈zs)(hl:zs.length≤1000000){R:PV→Prop}(q:R (.int (ixS zs z))):a1B (.tup P) (.str z) R:=by
 subst hP;unfold a1B;dsimp only;rw [a3l];exact⟨hl,ixS zs z,(a1b h).1,(a1b h).2,q⟩
end Pu
end
section
set_option maxHeartbeats 1000000
namespace Pu
open PySem PySem.Spec L2
inductive Mk where
 | d | o | t | u
 deriving DecidableEq
def run (r:Int):Nat→List Nat→List Mk→Option (List Nat)
 | _,st,[]=>some st
 | k,st,.t::m=>run r (k + 1) (k::st) m
 | k,st,.d::m=>run r (k + 1) st m
 | k,[],.o::m=>run r (k + 1) [] m
 | _,_::_,.o::_=>none
 | _,[],.u::_=>none
 | k,p::st,.u::m=>if(k:Int) - p - 1≤r then run r (k + 1) st m else none
def Cl (r:Int)(k:Nat)(m:List Mk):Prop:=∀st,run r k st m=some st
theorem Cl.d {r:Int}{k:Nat}{m:List Mk}(h:Cl r (k + 1) m):Cl r k (.d::m):=fun st=>h st
inductive PE where
 | d (i:Nat) | t (i j:Nat)
def nm (zs:List Str)(i:Nat):Str:=zs.getD i (Str.ofString "")
theorem a2u {zs:List Str}{i:Nat}(h:i < zs.length):zs[i]?=some (nm zs i):=by
 unfold nm;rw [List.getD_eq_getElem?_getD,List.getElem?_eq_getElem h];rfl
theorem a4u {zs:List Str}{i:Nat}(h:i < zs.length):nm zs i∈zs:=List.mem_of_getElem? (a2u h)
theorem nm_inj {zs:List Str}(nd:zs.Nodup){i j:Nat}(hi:i < zs.length)(hj:j < zs.length)(h:nm zs i=nm zs j):i=j:=a5a nd (a2u hi) (by rw [h];exact a2u hj)
theorem a1J {α β:Type}(f:α→β):∀{l:List α},l.Nodup→(∀a∈l,∀b∈l,f a=f b→a=b)→(l.map f).Nodup
 | [],_,_=>by simp
 | a :: l, h, hf => by
   obtain⟨h1,h2⟩:=List.nodup_cons.mp h;rw [List.map_cons,List.nodup_cons];refine⟨fun z=>?_,a1J f h2 fun x hx y hy=>hf x (List.mem_cons_of_mem _ hx) y (List.mem_cons_of_mem _ hy)⟩;obtain⟨b,hb,e⟩:=List.mem_map.mp z;exact h1 (hf b (List.mem_cons_of_mem _ hb) a List.mem_cons_self e▸hb)
def exch (f:List Str)(i j:Nat):List Str:=(f.set i (nm f j)).set j (nm f i)
theorem a2k {zs:List Str}{x y:Str}(hx:x∈zs)(hy:y∈zs)(h:ixS zs x=ixS zs y):x=y:=by
 have h1:=(a1b hx).1;rw [h,(a1b hy).1] at h1;exact(Option.some.inj h1).symm
theorem a6w {f:List Str}{i j:Nat}(hi:i < f.length)(hj:j < f.length):(exch f i j).Perm f:=by
 unfold exch nm;rw [List.getD_eq_getElem?_getD,List.getD_eq_getElem?_getD,List.getElem?_eq_getElem hi,List.getElem?_eq_getElem hj];show((f.set i f[j]).set j f[i]).Perm f;exact List.set_set_perm hi hj
theorem a6j {α β:Type}{f:α→β}{l:List α}{i:Nat}{y:β}(h:(l.map f)[i]?=some y):∃x,l[i]?=some x∧y=f x:=by
 rw [List.getElem?_map] at h;cases e:l[i]? with
 | none=>rw [e] at h;cases h
 | some x=>rw [e] at h;exact⟨x,rfl,(Option.some.inj h).symm⟩
theorem a2I {α:Type}{l:List α}{i:Nat}{x:α}(h:l[i]?=some x):l.take (i + 1)=l.take i++[x]:=by
 rw [List.take_add_one,h];rfl
theorem cut_tl {α:Type}(xs:List α)(a:Nat):cutP xs (some (a:Int)) none=xs.drop a:=by
 unfold cutP;rw [HT.sIx_nat,HT.sIx_none];rcases Nat.le_total a xs.length with h2 | h2
 · rw [Nat.min_eq_left h2];exact List.take_of_length_le (by rw [List.length_drop];exact Nat.le_refl _)
 · rw [Nat.min_eq_right h2,List.drop_of_length_le h2,List.drop_of_length_le (Nat.le_refl _)];simp
theorem at2_0 {α:Type}{a b:α}:atI [a,b] 0=some a:=rfl
theorem at2_1 {α:Type}{a b:α}:atI [a,b] 1=some b:=rfl
theorem at3_0 {α:Type}{a b c:α}:atI [a,b,c] 0=some a:=rfl
theorem at3_1 {α:Type}{a b c:α}:atI [a,b,c] 1=some b:=rfl
theorem at3_2 {α:Type}{a b c:α}:atI [a,b,c] 2=some c:=rfl
end Pu
end
section
set_option maxHeartbeats 4000000
namespace Tb
open PySem L2 Pu
abbrev a0k:pF:=a3O
def a1g:pS:=(qSeq (qSet 2 (qC (.str (PySem.Str.ofString "abcdefghijklmnopqrstuvwxyz"))))
   (qSeq (qPar 3 4 (sV (a0D a0k (a0e (qV 0) (a0e (qC (.int 26)) qNil)))) (sV (qOp wIx (qL (qLst (a0e (qC (.int 1)) (a0e (qC (.int 3)) (a0e (qC (.int 5)) (a0e (qC (.int 7)) (a0e (qC (.int 9)) (a0e (qC (.int 11)) (a0e (qC (.int 15)) (a0e (qC (.int 17)) qNil)))))))))) (a0D a0k (a0e (qV 0) (a0e (qC (.int 8)) qNil))))))
   (qSeq (qPar 5 6 (sV (a0D a0k (a0e (qV 0) (a0e (qC (.int 2)) qNil)))) (sV (qC (.str (PySem.Str.ofString "")))))
   (qSeq (qFor (a2V (a0D a0k (a0e (qV 0) (a0e (qC (.int 8)) qNil)))) (gN 7) (qSet 6 (qOp wAdd (qV 6) (qOp wIx (qV 2) (a0D a0k (a0e (qV 0) (a0e (qC (.int 26)) qNil)))))))
   (qSeq (qOwn 8 (qLst qNil))
   (qSeq (qFor (a2V (qV 1)) (gN 7) (qSeq (qSet 9 (qOp wIx (qV 2) (qOp wMod (qOp wAdd (qV 3) (qOp wMul (qV 4) (qV 7))) (qC (.int 26)))))
   (qSeq (qSet 10 (qSl (qV 6) qNo (a3R (qOp wMod (qOp wAdd (qOp wMul (qV 7) (qV 4)) (qV 3)) (qOp wAdd (qUn wLen (qV 6)) (qC (.int 1)))))))
   (a2Y (a2X 8 (a0D a0k (a0e (qV 0) (a0e (qOp wAdd (qV 7) (qC (.int 1))) qNil))) (qOp wIx (qL (qLst (a0e (qOp wAdd (qV 10) (qV 9)) (a0e (qOp wAdd (qV 9) (qV 10)) qNil)))) (qV 5)))))))
   (qSeq (qFor (a2V (qOp wIx (qL (qLst (a0e (qC (.int 0)) (a0e (qC (.int 0)) (a0e (qC (.int 0)) (a0e (qC (.int 1)) (a0e (qC (.int 2)) qNil))))))) (a0D a0k (a0e (qV 0) (a0e (qC (.int 5)) qNil))))) (gN 7) (qSeq (qSet 11 (qOp wIx (qL (qLst (a0e (qC (.str (PySem.Str.ofString "drop"))) (a0e (qC (.str (PySem.Str.ofString "touch"))) (a0e (qC (.str (PySem.Str.ofString "none"))) (a0e (qC (.str (PySem.Str.ofString "d"))) (a0e (qC (.str (PySem.Str.ofString "u"))) (a0e (qC (.str (PySem.Str.ofString "t"))) (a0e (qC (.str (PySem.Str.ofString "o"))) qNil))))))))) (a0D a0k (a0e (qV 0) (a0e (qC (.int 7)) qNil)))))
   (qIfS (qB (qOp (wIn 4 true) (qV 11) (qO 8))) (qPut 8 (qV 11) (a0D a0k (a0e (qV 0) (a0e (qV 1) qNil)))) qNx)))
   (qRet (qUn a2y (qO 8))))))))))
def a0P:pF:=fnP ["_law_pot","_law_many","_law_letters","_law_first","_law_step","_law_ahead","_law_stem","_law_k","_law_boats_here","_law_sign","_law_part","_law_word"] ["_law_pot","_law_many"] a1g
def a1N:pS:=(qSeq (qSet 2 (qL (a3T [none,some 1] (qIt (qV 0)) (gN 0) qTru (a1f (qV 1) (qV 0)))))
   (qRet (qUn wLen (qL (a5I [none,none,none,some 2] (a8E (qV 2)) (gTp 2 (gCn (gN 0) (gCn (gN 1) gNl))) (qIl (qSl (qV 3) (a3R (qOp wAdd (qV 0) (qC (.int 1)))) qNo)) (gN 2) (qB (qOp wLt (qV 2) (qV 1))) (qC (.int 1)))))))
def a0G:pF:=fnP ["row","other","goals"] ["row","other"] a1N
def a1x:pS:=(qSeq (a8C 2)
   (qSeq (qSet 3 (qC (.int 0)))
   (qSeq (qFor (qIt (qV 0)) (gN 4) (qSeq (qIfS (qB (qInS true 2 (qV 4))) (qAug 3 a8j (qC (.int 1))) qNx)
   (qSeq (qSet 5 (qV 4))
   (a5H (qB (qInS true 2 (qV 5))) (qSeq (a2Y (a4T 2 (qV 5)))
   (qSet 5 (qOp wIx (qV 1) (a1f (qV 0) (qV 5)))))))))
   (qRet (qV 3)))))
def a0A:pF:=fnP ["row","other","seen","many","boat","at"] ["row","other"] a1x
def a0R:pS:=(qRet (qL (qLst (a0e (a0D a0G (a0e (qV 0) (a0e (qV 1) qNil))) (a0e (a0D a0A (a0e (qV 0) (a0e (qV 1) qNil))) (a0e (a0D a0G (a0e (qV 1) (a0e (qV 0) qNil))) (a0e (a0D a0A (a0e (qV 1) (a0e (qV 0) qNil))) qNil)))))))
def a0H:pF:=fnP ["_law_row","_law_other"] ["_law_row","_law_other"] a0R
def a1y:pS:=(qSeq (qPar 2 3 (sV (a0D a0k (a0e (qV 0) (a0e (qC (.int 6)) qNil)))) (sV (qUn wLen (qV 1))))
   (qSeq (qIfS (qB (qOp wLt (qV 2) (qC (.int 3)))) (qSeq (qOwn 4 (qLst qNil))
   (qSeq (qFor (qIt (qV 1)) (gN 5) (a2Y (a2X 4 (a0D a0k (a0e (qV 0) (a0e (qOp wAdd (qUn wLen (qO 4)) (qC (.int 1))) qNil))) (qV 5))))
   (qRet (qUn a2y (qO 4))))) qNx)
   (qSeq (qPar 6 7 (sV (a0D a0k (a0e (qV 0) (a0e (qV 3) qNil)))) (sV (a0D a0k (a0e (qV 0) (a0e (qV 3) qNil)))))
   (qSeq (qOwn 4 (a8D (qV 1)))
   (qSeq (a8B 4 (qOp wIx (qV 1) (qV 7)) (qOp wIx (qV 1) (qV 6)) (qV 6) (qV 7))
   (qRet (qOp wIx (qL (qLst (a0e (qUn wRev (qV 1)) (a0e (qOp wAdd (qSl (qV 1) (a3R (qUn wNeg (qC (.int 1)))) qNo) (qSl (qV 1) qNo (a3R (qUn wNeg (qC (.int 1)))))) (a0e (qUn a2y (qO 4)) qNil))))) (qOp wSub (qV 2) (qC (.int 3))))))))))
def a0Y:pF:=fnP ["_law_pot","_law_row","_law_way","_law_n","_law_boats_here","_law_boat","_law_p","_law_q"] ["_law_pot","_law_row"] a1y
def a1h:pS:=(qSeq (qSet 2 (qC (.int 0)))
   (qSeq (qFor (a2V (qUn wLen (qV 0))) (gN 3) (qFor (a8A (qOp wAdd (qV 3) (qC (.int 1))) (qUn wLen (qV 0))) (gN 4) (qSet 2 (qOp wAdd (qV 2) (qUn wInt (qOp wGt (a1f (qV 1) (qOp wIx (qV 0) (qV 3))) (a1f (qV 1) (qOp wIx (qV 0) (qV 4)))))))))
   (qRet (qV 2))))
def a0Q:pF:=fnP ["_law_row","_law_other","_law_many","_law_p","_law_q"] ["_law_row","_law_other"] a1h
def a0V:pS:=(qSeq (qSet 2 (qC (.int 0)))
   (qSeq (qFor (a2V (qUn wLen (qV 0))) (gN 3) (qSeq (qPar 4 5 (sV (qV 3)) (sV (a1f (qV 0) (qOp wIx (qV 1) (qV 3)))))
   (qSeq (qFor (a2V (qUn wLen (qV 0))) (gN 6) (qSeq (qSet 4 (qOp wMin (qV 4) (qV 5)))
   (qSet 5 (a1f (qV 0) (qOp wIx (qV 1) (qV 5))))))
   (qSet 2 (qOp wAdd (qV 2) (qUn wInt (qOp (wEq 4) (qV 4) (qV 3))))))))
   (qRet (qV 2))))
def a0L:pF:=fnP ["_law_row","_law_other","_law_many","_law_start","_law_least","_law_place","_law_step"] ["_law_row","_law_other"] a0V
def a7j:pS:=(qSeq (qOwn 1 (qLst qNil))
   (qSeq (qFor (a2V (qOp wMax (qC (.int 2)) (qOp wMin (qC (.int 8)) (qUn wLen (qV 0))))) (gN 2) (qSeq (a2W 3 (qV 0) (qV 2))
   (qSeq (qSet 4 (a0D a0P (a0e (qV 3) (a0e (qOp wIx (qL (qLst (a0e (qC (.int 1)) (a0e (qC (.int 2)) (a0e (qC (.int 3)) (a0e (qC (.int 5)) (a0e (qC (.int 8)) (a0e (qC (.int 24)) qNil)))))))) (a0D a0k (a0e (qV 3) (a0e (qC (.int 6)) qNil)))) qNil))))
   (a2Y (a4q 1 (qTup (a0e (qV 4) (a0e (a0D a0Y (a0e (qV 3) (a0e (qV 4) qNil))) qNil))))))))
   (qSeq (a3S 1 (qSet 5 (qL (a3T [none,none] (qIl (qV 1)) (gTp 2 (gCn (gN 0) (gCn (gN 1) gNl))) qTru (qOp a5k (qL (qLst (a0e (a0D a0Q (a0e (qV 0) (a0e (qV 1) qNil))) (a0e (a0D a0L (a0e (qV 0) (a0e (qV 1) qNil))) qNil)))) (qC (.int 2)))))))
   (qSeq (qSet 6 (qL (a3T [none,none] (qIl (qV 1)) (gTp 2 (gCn (gN 0) (gCn (gN 1) gNl))) qTru (a0D a0H (a0e (qV 0) (a0e (qV 1) qNil))))))
   (qSeq (qIfS (qB (qOp (wNe 4) (qUn a4M (qV 6)) (qUn a4M (qV 5)))) (qRet (qC (.bl false))) qNx)
   (qRet (qUn wAll (qL (a3T [none,none] (qIl (qV 1)) (gTp 2 (gCn (gN 0) (gCn (gN 1) gNl))) qTru (a8F (qOp (wEq 4) (a0D a0G (a0e (qV 0) (a0e (qV 0) qNil))) (qC (.int 0))) (qOp (wEq 4) (a0D a0A (a0e (qV 1) (a0e (qV 1) qNil))) (qUn wLen (qV 0)))))))))))))
end Tb
end
section
set_option maxHeartbeats 4000000
namespace Tb
open PySem L2 Pu
def top (i:Nat):Stmt:=PySem.Challenge.pw_touchboats_k44_apart_and_rounds.main.body.getD i (.Pass ⟨0,0,0,0⟩)
section
variable {P:Program}{w:World}{K:PySem.W.Frag}{mg:Str→Option Value}{base:Heap}
theorem a3z (F0:Fn0 K mg "_law_boats" (top 6))(g__law_take:Kn P w K mg base "_law_take" 1 ["_law_pot","_law_many"] (a0w K potL a3O))(m_len:mg "len"=none)(m_range:mg "range"=none)(m_tuple:mg "tuple"=none):Kn P w K mg base "_law_boats" 2 ["_law_pot","_law_many"] (a0w K potL a0P):=by
 have sc:a0y ["_law_pot","_law_many","_law_letters","_law_first","_law_step","_law_ahead","_law_stem","_law_k","_law_boats_here","_law_sign","_law_part","_law_word"] ["_law_pot","_law_many"] (a0h (top 6)):=⟨rfl,rfl,rfl,by decide +kernel,rfl,by decide +kernel,by decide +kernel⟩
 exact a4b F0 sc (fun _ _ _ _ _ _ us hl=>match us,hl with | [_,_],_=>rfl) (k:=1) (body:=a1g) (fun f cdv A outer s H E hr=>(a0d (a0K 2 (fun _=>a0x (i:=2) sc.nd rfl (Or.inl rfl)) a1F)
   (a0d (a3t 3 4 (fun _=>a3n (i:=3) (j:=4) rfl sc.nd rfl rfl (by decide) rfl rfl rfl) (ql_v (a0J (fun _=>g__law_take) (fun _=>hr) (by decide) (fun _=>rfl) (a0b (a0a 0 fun _=>vw 0) (a0b a0j a0m)))) (ql_v (a1w (QN.ee (a1e (a0b a0j (a0b a0j (a0b a0j (a0b a0j (a0b a0j (a0b a0j (a0b a0j (a0b a0j a0m)))))))))) (a0J (fun _=>g__law_take) (fun _=>hr) (by decide) (fun _=>rfl) (a0b (a0a 0 fun _=>vw 0) (a0b a0j a0m))))))
   (a0d (a3t 5 6 (fun _=>a3n (i:=5) (j:=6) rfl sc.nd rfl rfl (by decide) rfl rfl rfl) (ql_v (a0J (fun _=>g__law_take) (fun _=>hr) (by decide) (fun _=>rfl) (a0b (a0a 0 fun _=>vw 0) (a0b a0j a0m)))) (ql_v a1F))
   (a0d (a1r (fun _=>rfl) (a0M (fun _=>rfl) (fun _=>m_range) (a0J (fun _=>g__law_take) (fun _=>hr) (by decide) (fun _=>rfl) (a0b (a0a 0 fun _=>vw 0) (a0b a0j a0m)))) (a0r fun _=>a0t 7 sc.nd rfl (Or.inl rfl)) (a0o (a0K 6 (fun _=>a0x (i:=6) sc.nd rfl (Or.inl rfl)) (a0T (a0a 6 fun _=>vw 6) (a1w (a0a 2 fun _=>vw 2) (a0J (fun _=>g__law_take) (fun _=>hr) (by decide) (fun _=>rfl) (a0b (a0a 0 fun _=>vw 0) (a0b a0j a0m))))))))
   (a0d (a4m 8 (fun _=>a0x (i:=8) sc.nd rfl (Or.inl rfl)) (a1e a0m))
   (a0d (a1r (fun _=>rfl) (a0M (fun _=>rfl) (fun _=>m_range) (a0a 1 fun _=>vw 1)) (a0r fun _=>a0t 7 sc.nd rfl (Or.inl rfl)) (a0d (a0K 9 (fun _=>a0x (i:=9) sc.nd rfl (Or.inl rfl)) (a1w (a0a 2 fun _=>vw 2) (a7L (a0T (a0a 3 fun _=>vw 3) (a7K (a0a 4 fun _=>vw 4) (a0a 7 fun _=>vw 7))) a0j)))
   (a0d (a0K 10 (fun _=>a0x (i:=10) sc.nd rfl (Or.inl rfl)) (a7c (a0a 6 fun _=>vw 6) a7a (a2Q (a7L (a0T (a7K (a0a 7 fun _=>vw 7) (a0a 4 fun _=>vw 4)) (a0a 3 fun _=>vw 3)) (a0T (a1s (fun _=>rfl) (fun _=>m_len) (QE.r (a0a 6 fun _=>vw 6))) a0j)))))
   (a0o (a2P (fun _=>a2J) (a3v 8 (fun _=>vw 8) (a0J (fun _=>g__law_take) (fun _=>hr) (by decide) (fun _=>rfl) (a0b (a0a 0 fun _=>vw 0) (a0b (a0T (a0a 7 fun _=>vw 7) a0j) a0m))) (a1w (QN.ee (a1e (a0b (a0T (a0a 10 fun _=>vw 10) (a0a 9 fun _=>vw 9)) (a0b (a0T (a0a 9 fun _=>vw 9) (a0a 10 fun _=>vw 10)) a0m)))) (a0a 5 fun _=>vw 5))))))))
   (a0d (a1r (fun _=>rfl) (a0M (fun _=>rfl) (fun _=>m_range) (a1w (QN.ee (a1e (a0b a0j (a0b a0j (a0b a0j (a0b a0j (a0b a0j a0m))))))) (a0J (fun _=>g__law_take) (fun _=>hr) (by decide) (fun _=>rfl) (a0b (a0a 0 fun _=>vw 0) (a0b a0j a0m))))) (a0r fun _=>a0t 7 sc.nd rfl (Or.inl rfl)) (a0d (a0K 11 (fun _=>a0x (i:=11) sc.nd rfl (Or.inl rfl)) (a1w (QN.ee (a1e (a0b a1F (a0b a1F (a0b a1F (a0b a1F (a0b a1F (a0b a1F (a0b a1F a0m))))))))) (a0J (fun _=>g__law_take) (fun _=>hr) (by decide) (fun _=>rfl) (a0b (a0a 0 fun _=>vw 0) (a0b a0j a0m)))))
   (a0o (a6Z (a4l (cNotIn 4 fun _=>hr) (a0a 11 fun _=>vw 11) (a3u 8 fun _=>vw 8) rfl) (a0o (qs_put 8 (fun _=>a7E) (a0a 11 fun _=>vw 11) (fun _=>a9e (vw 8)) (a0J (fun _=>g__law_take) (fun _=>hr) (by decide) (fun _=>rfl) (a0b (a0a 0 fun _=>vw 0) (a0b (a0a 1 fun _=>vw 1) a0m))))) a2O))))
   (a0o (a1q (a2U (fun _=>rfl) (fun _=>m_tuple) (a3u 8 fun _=>vw 8))))))))))))
theorem a5e (F0:Fn0 K mg "apart_by" (top 1))(m_enumerate:mg "enumerate"=none)(m_len:mg "len"=none):Kn P w K mg base "apart_by" 1 ["row","other"] (a0w K potL a0G):=by
 have sc:a0y ["row","other","goals"] ["row","other"] (a0h (top 1)):=⟨rfl,rfl,rfl,by decide +kernel,rfl,by decide +kernel,by decide +kernel⟩
 exact a4b F0 sc (fun _ _ _ _ _ _ us hl=>match us,hl with | [_,_],_=>rfl) (k:=0) (body:=a1N) (fun f cdv A outer s H E hr=>(a0d (a0K 2 (fun _=>a0x (i:=2) sc.nd rfl (Or.inr rfl)) (QN.ee (a5A (N:=["boat","other"]) (cs:=[none,some 1]) (fun _=>a1j rfl rfl rfl rfl ⟨rfl,trivial⟩ rfl rfl rfl) (fun _=>rfl) (a5B (a0a 0 fun _=>vw 0)) (a0r fun _=>a0t 0 (show List.Nodup (["boat","other"]:List Str) by decide +kernel) rfl (Or.inl rfl)) a2R (a1m (a0a 1 fun _=>vw 1) (a0a 0 fun _=>vw 0)))))
   (a0o (a1q (a1s (fun _=>rfl) (fun _=>m_len) (QE.r (QN.ee (a7b (N:=["at","goal","later","goals"]) (cs:=[none,none,none,some 2]) (fun _=>a1j rfl rfl rfl rfl ⟨rfl,trivial⟩ rfl rfl rfl) (fun _=>rfl) (a8w (fun _=>rfl) (fun _=>m_enumerate) (a0a 2 fun _=>vw 2)) (a4n (fun _=>rfl) (a0N (a0r fun _=>a0t 0 (show List.Nodup (["at","goal","later","goals"]:List Str) by decide +kernel) rfl (Or.inl rfl)) (a0N (a0r fun _=>a0t 1 (show List.Nodup (["at","goal","later","goals"]:List Str) by decide +kernel) rfl (Or.inl rfl)) a2T))) (a2S (a7c (a0a 3 fun _=>vw 3) (a2Q (a0T (a0a 0 fun _=>vw 0) a0j)) a7a)) (a0r fun _=>a0t 2 (show List.Nodup (["at","goal","later","goals"]:List Str) by decide +kernel) rfl (Or.inl rfl)) (a8v (a4l cLt (a0a 2 fun _=>vw 2) (QE.r (a0a 1 fun _=>vw 1)) (a1u _))) a0j))))))))
theorem a3Y (F0:Fn0 K mg "rounds_of" (top 2))(m_set:mg "set"=none):Kn P w K mg base "rounds_of" 1 ["row","other"] (a0w K potL a0A):=by
 have sc:a0y ["row","other","seen","many","boat","at"] ["row","other"] (a0h (top 2)):=⟨rfl,rfl,rfl,by decide +kernel,rfl,by decide +kernel,by decide +kernel⟩
 exact a4b F0 sc (fun _ _ _ _ _ _ us hl=>match us,hl with | [_,_],_=>rfl) (k:=0) (body:=a1x) (fun f cdv A outer s H E hr=>(a0d (a8s 2 (fun _=>rfl) (fun _=>m_set) (fun _=>a0x (i:=2) sc.nd rfl (Or.inl rfl)))
   (a0d (a0K 3 (fun _=>a0x (i:=3) sc.nd rfl (Or.inl rfl)) a0j)
   (a0d (a1r (fun _=>rfl) (a5B (a0a 0 fun _=>vw 0)) (a0r fun _=>a0t 4 sc.nd rfl (Or.inl rfl)) (a0d (a6Z (a5x 2 (fun _=>vw 2) (a0a 4 fun _=>vw 4)) (a0o (a8t 3 (fun _=>sw_aug (i:=3) sc.nd rfl (Or.inl rfl) a9a) a0j)) a2O)
   (a0d (a0K 5 (fun _=>a0x (i:=5) sc.nd rfl (Or.inl rfl)) (a0a 4 fun _=>vw 4))
   (a0o (a6Y (a5x 2 (fun _=>vw 2) (a0a 5 fun _=>vw 5)) (a0d (a2P (fun _=>a2J) (a8z 2 (fun _=>vw 2) (a0a 5 fun _=>vw 5)))
   (a0o (a0K 5 (fun _=>a0x (i:=5) sc.nd rfl (Or.inl rfl)) (a1w (a0a 1 fun _=>vw 1) (a1m (a0a 0 fun _=>vw 0) (a0a 5 fun _=>vw 5)))))))))))
   (a0o (a1q (a0a 3 fun _=>vw 3)))))))
theorem a2v (F0:Fn0 K mg "_law_numbers" (top 10))(g_rounds_of:Kn P w K mg base "rounds_of" 1 ["row","other"] (a0w K potL a0A))(g_apart_by:Kn P w K mg base "apart_by" 1 ["row","other"] (a0w K potL a0G)):Kn P w K mg base "_law_numbers" 2 ["_law_row","_law_other"] (a0w K potL a0H):=by
 have sc:a0y ["_law_row","_law_other"] ["_law_row","_law_other"] (a0h (top 10)):=⟨rfl,rfl,rfl,by decide +kernel,rfl,by decide +kernel,by decide +kernel⟩;exact a4b F0 sc (fun _ _ _ _ _ _ us hl=>match us,hl with | [_,_],_=>rfl) (k:=1) (body:=a0R) (fun f cdv A outer s H E hr=>(a0o (a1q (QN.ee (a1e (a0b (a0J (fun _=>g_apart_by) (fun _=>hr) (by decide) (fun _=>rfl) (a0b (a0a 0 fun _=>vw 0) (a0b (a0a 1 fun _=>vw 1) a0m))) (a0b (a0J (fun _=>g_rounds_of) (fun _=>hr) (by decide) (fun _=>rfl) (a0b (a0a 0 fun _=>vw 0) (a0b (a0a 1 fun _=>vw 1) a0m))) (a0b (a0J (fun _=>g_apart_by) (fun _=>hr) (by decide) (fun _=>rfl) (a0b (a0a 1 fun _=>vw 1) (a0b (a0a 0 fun _=>vw 0) a0m))) (a0b (a0J (fun _=>g_rounds_of) (fun _=>hr) (by decide) (fun _=>rfl) (a0b (a0a 1 fun _=>vw 1) (a0b (a0a 0 fun _=>vw 0) a0m))) a0m)))))))))
theorem a3Z (F0:Fn0 K mg "_law_goal" (top 7))(g__law_take:Kn P w K mg base "_law_take" 1 ["_law_pot","_law_many"] (a0w K potL a3O))(m_len:mg "len"=none)(m_list:mg "list"=none)(m_tuple:mg "tuple"=none):Kn P w K mg base "_law_goal" 2 ["_law_pot","_law_row"] (a0w K potL a0Y):=by
 have sc:a0y ["_law_pot","_law_row","_law_way","_law_n","_law_boats_here","_law_boat","_law_p","_law_q"] ["_law_pot","_law_row"] (a0h (top 7)):=⟨rfl,rfl,rfl,by decide +kernel,rfl,by decide +kernel,by decide +kernel⟩
 exact a4b F0 sc (fun _ _ _ _ _ _ us hl=>match us,hl with | [_,_],_=>rfl) (k:=1) (body:=a1y) (fun f cdv A outer s H E hr=>(a0d (a3t 2 3 (fun _=>a3n (i:=2) (j:=3) rfl sc.nd rfl rfl (by decide) rfl rfl rfl) (ql_v (a0J (fun _=>g__law_take) (fun _=>hr) (by decide) (fun _=>rfl) (a0b (a0a 0 fun _=>vw 0) (a0b a0j a0m)))) (ql_v (a1s (fun _=>rfl) (fun _=>m_len) (QE.r (a0a 1 fun _=>vw 1)))))
   (a0d (a6Z (a4l cLt (a0a 2 fun _=>vw 2) (QE.r a0j) (a1u _)) (a0d (a4m 4 (fun _=>a0x (i:=4) sc.nd rfl (Or.inl rfl)) (a1e a0m))
   (a0d (a1r (fun _=>rfl) (a5B (a0a 1 fun _=>vw 1)) (a0r fun _=>a0t 5 sc.nd rfl (Or.inl rfl)) (a0o (a2P (fun _=>a2J) (a3v 4 (fun _=>vw 4) (a0J (fun _=>g__law_take) (fun _=>hr) (by decide) (fun _=>rfl) (a0b (a0a 0 fun _=>vw 0) (a0b (a0T (a1s (fun _=>rfl) (fun _=>m_len) (a3u 4 fun _=>vw 4)) a0j) a0m))) (a0a 5 fun _=>vw 5)))))
   (a0o (a1q (a2U (fun _=>rfl) (fun _=>m_tuple) (a3u 4 fun _=>vw 4)))))) a2O)
   (a0d (a3t 6 7 (fun _=>a3n (i:=6) (j:=7) rfl sc.nd rfl rfl (by decide) rfl rfl rfl) (ql_v (a0J (fun _=>g__law_take) (fun _=>hr) (by decide) (fun _=>rfl) (a0b (a0a 0 fun _=>vw 0) (a0b (a0a 3 fun _=>vw 3) a0m)))) (ql_v (a0J (fun _=>g__law_take) (fun _=>hr) (by decide) (fun _=>rfl) (a0b (a0a 0 fun _=>vw 0) (a0b (a0a 3 fun _=>vw 3) a0m)))))
   (a0d (a4m 4 (fun _=>a0x (i:=4) sc.nd rfl (Or.inl rfl)) (a8u (fun _=>rfl) (fun _=>m_list) (QE.r (a0a 1 fun _=>vw 1))))
   (a0d (a8r 4 (fun _=>a7E) (fun _ _ _ h1 h2=>a9d K rfl (a9e (vw 4) (by intro _;rfl) _ h1) (a9e (vw 4) (by intro _;rfl) _ h2)) (a1w (a0a 1 fun _=>vw 1) (a0a 7 fun _=>vw 7)) (a1w (a0a 1 fun _=>vw 1) (a0a 6 fun _=>vw 6)) (a0a 6 fun _=>vw 6) (a0a 7 fun _=>vw 7))
   (a0o (a1q (a1w (QN.ee (a1e (a0b (qe_rev (QE.r (a0a 1 fun _=>vw 1))) (a0b (a0T (a7c (a0a 1 fun _=>vw 1) (a2Q (a7J a0j)) a7a) (a7c (a0a 1 fun _=>vw 1) a7a (a2Q (a7J a0j)))) (a0b (a2U (fun _=>rfl) (fun _=>m_tuple) (a3u 4 fun _=>vw 4)) a0m))))) (qe_sub (a0a 2 fun _=>vw 2) a0j))))))))))
theorem a3A (F0:Fn0 K mg "_law_apart" (top 8))(m_int:mg "int"=none)(m_len:mg "len"=none)(m_range:mg "range"=none):Kn P w K mg base "_law_apart" 1 ["_law_row","_law_other"] (a0w K potL a0Q):=by
 have sc:a0y ["_law_row","_law_other","_law_many","_law_p","_law_q"] ["_law_row","_law_other"] (a0h (top 8)):=⟨rfl,rfl,rfl,by decide +kernel,rfl,by decide +kernel,by decide +kernel⟩
 exact a4b F0 sc (fun _ _ _ _ _ _ us hl=>match us,hl with | [_,_],_=>rfl) (k:=0) (body:=a1h) (fun f cdv A outer s H E hr=>(a0d (a0K 2 (fun _=>a0x (i:=2) sc.nd rfl (Or.inl rfl)) a0j)
   (a0d (a1r (fun _=>rfl) (a0M (fun _=>rfl) (fun _=>m_range) (a1s (fun _=>rfl) (fun _=>m_len) (QE.r (a0a 0 fun _=>vw 0)))) (a0r fun _=>a0t 3 sc.nd rfl (Or.inl rfl)) (a0o (a1r (fun _=>rfl) (a5C (fun _=>rfl) (fun _=>m_range) (a0T (a0a 3 fun _=>vw 3) a0j) (a1s (fun _=>rfl) (fun _=>m_len) (QE.r (a0a 0 fun _=>vw 0)))) (a0r fun _=>a0t 4 sc.nd rfl (Or.inl rfl)) (a0o (a0K 2 (fun _=>a0x (i:=2) sc.nd rfl (Or.inl rfl)) (a0T (a0a 2 fun _=>vw 2) (a4o (fun _=>rfl) (fun _=>m_int) (QE.r (a4p cGt (a1m (a0a 1 fun _=>vw 1) (a1w (a0a 0 fun _=>vw 0) (a0a 3 fun _=>vw 3))) (QE.r (a1m (a0a 1 fun _=>vw 1) (a1w (a0a 0 fun _=>vw 0) (a0a 4 fun _=>vw 4)))) (a1u _))))))))))
   (a0o (a1q (a0a 2 fun _=>vw 2))))))
theorem a3b (F0:Fn0 K mg "_law_rounds" (top 9))(m_int:mg "int"=none)(m_len:mg "len"=none)(m_min:mg "min"=none)(m_range:mg "range"=none):Kn P w K mg base "_law_rounds" 1 ["_law_row","_law_other"] (a0w K potL a0L):=by
 have sc:a0y ["_law_row","_law_other","_law_many","_law_start","_law_least","_law_place","_law_step"] ["_law_row","_law_other"] (a0h (top 9)):=⟨rfl,rfl,rfl,by decide +kernel,rfl,by decide +kernel,by decide +kernel⟩
 exact a4b F0 sc (fun _ _ _ _ _ _ us hl=>match us,hl with | [_,_],_=>rfl) (k:=0) (body:=a0V) (fun f cdv A outer s H E hr=>(a0d (a0K 2 (fun _=>a0x (i:=2) sc.nd rfl (Or.inl rfl)) a0j)
   (a0d (a1r (fun _=>rfl) (a0M (fun _=>rfl) (fun _=>m_range) (a1s (fun _=>rfl) (fun _=>m_len) (QE.r (a0a 0 fun _=>vw 0)))) (a0r fun _=>a0t 3 sc.nd rfl (Or.inl rfl)) (a0d (a3t 4 5 (fun _=>a3n (i:=4) (j:=5) rfl sc.nd rfl rfl (by decide) rfl rfl rfl) (ql_v (a0a 3 fun _=>vw 3)) (ql_v (a1m (a0a 0 fun _=>vw 0) (a1w (a0a 1 fun _=>vw 1) (a0a 3 fun _=>vw 3)))))
   (a0d (a1r (fun _=>rfl) (a0M (fun _=>rfl) (fun _=>m_range) (a1s (fun _=>rfl) (fun _=>m_len) (QE.r (a0a 0 fun _=>vw 0)))) (a0r fun _=>a0t 6 sc.nd rfl (Or.inl rfl)) (a0d (a0K 4 (fun _=>a0x (i:=4) sc.nd rfl (Or.inl rfl)) (a7M (fun _=>rfl) (fun _=>rfl) (fun _=>m_min) (a0a 4 fun _=>vw 4) (a0a 5 fun _=>vw 5)))
   (a0o (a0K 5 (fun _=>a0x (i:=5) sc.nd rfl (Or.inl rfl)) (a1m (a0a 0 fun _=>vw 0) (a1w (a0a 1 fun _=>vw 1) (a0a 5 fun _=>vw 5)))))))
   (a0o (a0K 2 (fun _=>a0x (i:=2) sc.nd rfl (Or.inl rfl)) (a0T (a0a 2 fun _=>vw 2) (a4o (fun _=>rfl) (fun _=>m_int) (QE.r (a4p (cEq 4 fun _=>hr) (a0a 4 fun _=>vw 4) (QE.r (a0a 3 fun _=>vw 3)) (a1u _))))))))))
   (a0o (a1q (a0a 2 fun _=>vw 2))))))
theorem k_law (F0:Fn0 K mg "law" (top 11))(g__law_begin:Kn P w K mg base "_law_begin" 1 ["_law_script","_law_k"] (a4j K))(g__law_take:Kn P w K mg base "_law_take" 1 ["_law_pot","_law_many"] (a0w K potL a3O))(g__law_boats:Kn P w K mg base "_law_boats" 2 ["_law_pot","_law_many"] (a0w K potL a0P))(g__law_goal:Kn P w K mg base "_law_goal" 2 ["_law_pot","_law_row"] (a0w K potL a0Y))(g__law_rounds:Kn P w K mg base "_law_rounds" 1 ["_law_row","_law_other"] (a0w K potL a0L))(g__law_apart:Kn P w K mg base "_law_apart" 1 ["_law_row","_law_other"] (a0w K potL a0Q))(g__law_numbers:Kn P w K mg base "_law_numbers" 2 ["_law_row","_law_other"] (a0w K potL a0H))(g_rounds_of:Kn P w K mg base "rounds_of" 1 ["row","other"] (a0w K potL a0A))(g_apart_by:Kn P w K mg base "apart_by" 1 ["row","other"] (a0w K potL a0G))(m_all:mg "all"=none)(m_len:mg "len"=none)(m_max:mg "max"=none)(m_min:mg "min"=none)(m_range:mg "range"=none)(a2j:mg "repr"=none)(hlaw:∀ns:List Int,ns.length≤63→a7j ⟨fun _ _=>False,fun r _=>r=.bl true,fun _ _=>False,fun _ _=>False⟩ (a1E ["_law_script","_law_lots","_law_k","_law_pot","_law_row","_law_due","_law_told"] [.scr ns]) 0):Kn P w K mg base "law" 3 ["_law_script"] (a6U K):=by
 have sc:a0y ["_law_script","_law_lots","_law_k","_law_pot","_law_row","_law_due","_law_told"] ["_law_script"] (a0h (top 11)):=⟨rfl,rfl,rfl,by decide +kernel,rfl,by decide +kernel,by decide +kernel⟩
 exact law_ok (T:=potL) F0 sc (fun _ _ _ _ _ _ us hl=>match us,hl with | [_],_=>rfl) (k:=2) (body:=a7j) (fun f cdv A outer s H E hr=>(a0d (a4m 1 (fun _=>a0x (i:=1) sc.nd rfl (Or.inl rfl)) (a1e a0m))
   (a0d (a1r (fun _=>rfl) (a0M (fun _=>rfl) (fun _=>m_range) (qe_max (fun _=>rfl) (fun _=>rfl) (fun _=>m_max) a0j (a7M (fun _=>rfl) (fun _=>rfl) (fun _=>m_min) a0j (a1s (fun _=>rfl) (fun _=>m_len) (QE.r (a0a 0 fun _=>vw 0)))))) (a0r fun _=>a0t 2 sc.nd rfl (Or.inl rfl)) (a0d (a4S 3 (fun _=>a0x (i:=3) sc.nd rfl (Or.inl rfl)) (fun _=>g__law_begin) (fun _=>hr) (by decide) (fun _=>rfl) (a0a 0 fun _=>vw 0) (a0a 2 fun _=>vw 2))
   (a0d (a0K 4 (fun _=>a0x (i:=4) sc.nd rfl (Or.inl rfl)) (a0J (fun _=>g__law_boats) (fun _=>hr) (by decide) (fun _=>rfl) (a0b (a0a 3 fun _=>vw 3) (a0b (a1w (QN.ee (a1e (a0b a0j (a0b a0j (a0b a0j (a0b a0j (a0b a0j (a0b a0j a0m)))))))) (a0J (fun _=>g__law_take) (fun _=>hr) (by decide) (fun _=>rfl) (a0b (a0a 3 fun _=>vw 3) (a0b a0j a0m)))) a0m))))
   (a0o (a2P (fun _=>a2J) (a5F 1 (fun _=>vw 1) (qe_tup (a0b (a0a 4 fun _=>vw 4) (a0b (a0J (fun _=>g__law_goal) (fun _=>hr) (by decide) (fun _=>rfl) (a0b (a0a 3 fun _=>vw 3) (a0b (a0a 4 fun _=>vw 4) a0m))) a0m)))))))))
   (a0d (a5z 1 (a5y 5 (a5G (N:=["_law_row","_law_other"]) (cs:=[none,none]) (fun _=>a1j rfl rfl rfl rfl trivial rfl rfl rfl) (fun _=>rfl) (a2S (a0a 1 fun _=>vw 1)) (a4n (fun _=>rfl) (a0N (a0r fun _=>a0t 0 (show List.Nodup (["_law_row","_law_other"]:List Str) by decide +kernel) rfl (Or.inl rfl)) (a0N (a0r fun _=>a0t 1 (show List.Nodup (["_law_row","_law_other"]:List Str) by decide +kernel) rfl (Or.inl rfl)) a2T))) a2R (a8y (QN.ee (a1e (a0b (a0J (fun _=>g__law_apart) (fun _=>hr) (by decide) (fun _=>rfl) (a0b (a0a 0 fun _=>vw 0) (a0b (a0a 1 fun _=>vw 1) a0m))) (a0b (a0J (fun _=>g__law_rounds) (fun _=>hr) (by decide) (fun _=>rfl) (a0b (a0a 0 fun _=>vw 0) (a0b (a0a 1 fun _=>vw 1) a0m))) a0m)))) a0j)) (fun _=>sc.nd) (fun _=>rfl) (fun _=>Or.inl rfl)))
   (a0d (a5y 6 (a5G (N:=["_law_row","_law_other"]) (cs:=[none,none]) (fun _=>a1j rfl rfl rfl rfl trivial rfl rfl rfl) (fun _=>rfl) (a2S (a0a 1 fun _=>vw 1)) (a4n (fun _=>rfl) (a0N (a0r fun _=>a0t 0 (show List.Nodup (["_law_row","_law_other"]:List Str) by decide +kernel) rfl (Or.inl rfl)) (a0N (a0r fun _=>a0t 1 (show List.Nodup (["_law_row","_law_other"]:List Str) by decide +kernel) rfl (Or.inl rfl)) a2T))) a2R (a0J (fun _=>g__law_numbers) (fun _=>hr) (by decide) (fun _=>rfl) (a0b (a0a 0 fun _=>vw 0) (a0b (a0a 1 fun _=>vw 1) a0m)))) (fun _=>sc.nd) (fun _=>rfl) (fun _=>Or.inl rfl))
   (a0d (a6Z (a4l (cNe 4 fun _=>hr) (a5D (fun _=>hr) (fun _=>rfl) (fun _=>a2j) (QE.r (a0a 6 fun _=>vw 6))) (QE.r (a5D (fun _=>hr) (fun _=>rfl) (fun _=>a2j) (QE.r (a0a 5 fun _=>vw 5)))) (a1u _)) (a0o (a1q qe_bl)) a2O)
   (a0o (a1q (qe_all (fun _=>rfl) (fun _=>rfl) (fun _=>m_all) (QE.r (QN.ee (a5A (N:=["_law_row","_law_other"]) (cs:=[none,none]) (fun _=>a1j rfl rfl rfl rfl trivial rfl rfl rfl) (fun _=>rfl) (a2S (a0a 1 fun _=>vw 1)) (a4n (fun _=>rfl) (a0N (a0r fun _=>a0t 0 (show List.Nodup (["_law_row","_law_other"]:List Str) by decide +kernel) rfl (Or.inl rfl)) (a0N (a0r fun _=>a0t 1 (show List.Nodup (["_law_row","_law_other"]:List Str) by decide +kernel) rfl (Or.inl rfl)) a2T))) a2R (qe_and (a4p (cEq 4 fun _=>hr) (a0J (fun _=>g_apart_by) (fun _=>hr) (by decide) (fun _=>rfl) (a0b (a0a 0 fun _=>vw 0) (a0b (a0a 0 fun _=>vw 0) a0m))) (QE.r a0j) (a1u _)) (qe_one (a4p (cEq 4 fun _=>hr) (a0J (fun _=>g_rounds_of) (fun _=>hr) (by decide) (fun _=>rfl) (a0b (a0a 1 fun _=>vw 1) (a0b (a0a 1 fun _=>vw 1) a0m))) (QE.r (a1s (fun _=>rfl) (fun _=>m_len) (QE.r (a0a 0 fun _=>vw 0)))) (a1u _)))))))))))))))) hlaw
end
end Tb
end
section
set_option maxHeartbeats 1000000
namespace Pu
open PySem PySem.Spec L2
structure Show (d c:Nat)(x:PV):Prop where
 sh:shw x
 de:dep x≤d
 co:cost x≤c
theorem Show.tup {d c l:Nat}{xs:List PV}(h:∀x∈xs,Show d c x)(hl:xs.length≤l):Show (d + 1) ((c + 2) * l + 3) (.tup xs):=by
 refine⟨a5q _ fun x hx=>(h x hx).sh,?_,?_⟩
 · have:=a6D d xs fun x hx=>(h x hx).de;show deps xs + 1≤d + 1;omega
 · have:=a4I c xs fun x hx=>(h x hx).co;have h2:=Nat.mul_le_mul_left (c + 2) hl;show a2w xs + 3≤_;omega
theorem Show.lst {d c l:Nat}{xs:List PV}(h:∀x∈xs,Show d c x)(hl:xs.length≤l):Show (d + 1) ((c + 2) * l + 3) (.lst xs):=by
 have t:=Show.tup h hl;exact⟨t.sh,t.de,t.co⟩
theorem Show.le {d c d' c':Nat}{x:PV}(h:Show d c x)(hd:d≤d')(hc:c≤c'):Show d' c' x:=⟨h.sh,Nat.le_trans h.de hd,Nat.le_trans h.co hc⟩
theorem a7u {i:Int}(h:i.natAbs < 1000):Show 0 61 (.int i):=⟨by show i.natAbs < 10 ^ 60;omega,Nat.le_refl _,Nat.le_refl _⟩
end Pu
end
section
set_option maxHeartbeats 1000000
namespace Tb
open PySem L2 Pu
set_option compiler.extract_closed false in
set_option hygiene false in
local macro_rules | `(tactic| walk_at "pu") => do
  let s ← `(tactic| simp only [qSeq,qNx,qSet,qOwn,a2Y,qRet,qRetO,qIfS,qPar,sV,qPut,gAt,a3S,a7w,qV,qO,qC,qOp,qUn,wI,wI0,wAdd,wSub,wMul,wMod,wEq,wNe,wLt,wGt,qB,a8F,qNil,a0e,qTup,qLst,qL,wIx,qNo,a3R,qSl,wSl,wLen,wInt,wAll,a2y,a8D,wMin,wMax,a0D,gN,gNl,gCn,gTp,qIl,qIt,a2V,a8A,a8E,capV,capS,qTru,a3T,wNeg,a4q,a3U,a1E,List.map,List.set,List.length_cons,List.length_nil,List.getElem?_cons_zero,List.getElem?_cons_succ,List.cons_append,List.nil_append,List.replicate,Nat.reduceSub,Nat.reduceAdd,Option.bind,true_and,and_true,reduceIte,Bool.not_true,Bool.not_false,beq_self_eq_true,Bool.true_or,Bool.false_or,Bool.or_false,Bool.true_and,Bool.false_and,String.reduceBEq,cmpb,a1R,Bool.false_eq_true,a8a,a4F,a8b,a7Z,a7Y,a6y,a9h,decide_true,decide_false,a3O,a6k,wRev,qAugL,qAug,a8j,a2W,qFor,keyV,a2X,a1f,a8B,a0k,a8C,qInS,a4T,a5I,a5k,at2_0,at2_1,at3_0,at3_1,at3_2,Nat.reduceLeDiff,Nat.reduceLT,Int.reduceLT,Int.reduceLE,Nat.zero_le])
  match s with
  | `(tactic| simp only [$xs,*]) => `(tactic| (try dsimp only [$(⟨xs.elemsAndSeps⟩),*]) <;> (try $s:tactic))
  | _ => Lean.Macro.throwUnsupported
def inv:List Nat→Nat
 | []=>0
 | a::l=>(l.filter fun b=>decide (b < a)).length + inv l
def cntP (l1 l2:List Str)(f:Str→Str→Bool):Nat:=(l1.map fun x=>(l2.filter (f x)).length).sum
theorem a5o {α:Type}(g h:α→Nat):∀l:List α,(l.map fun y=>g y + h y).sum=(l.map g).sum + (l.map h).sum
 | []=>rfl
 | a :: l => by
   rw [List.map_cons,List.map_cons,List.map_cons,List.sum_cons,List.sum_cons,List.sum_cons,a5o g h l];omega
theorem a5n {α:Type}(p:α→Bool):∀l:List α,(l.map fun y=>if p y=true then 1 else 0).sum=(l.filter p).length
 | []=>rfl
 | a :: l => by
   rw [List.map_cons,List.sum_cons,a5n p l,List.filter_cons]
   split <;> simp <;> omega
theorem a2K {α:Type}:∀l:List α,(l.map fun _=>0).sum=0
 | []=>rfl
 | a::l=>by rw [List.map_cons,List.sum_cons,a2K l]
theorem a3G (f:Str→Str→Bool)(l2:List Str):∀l1:List Str,cntP l1 l2 f=cntP l2 l1 fun y x=>f x y
 | [] => by
   unfold cntP;show 0=_;exact(a2K l2).symm
 | x :: l1 => by
   have ih:=a3G f l2 l1;unfold cntP at ih ⊢;rw [List.map_cons,List.sum_cons,ih,← a5n (f x) l2,← a5o];refine congrArg List.sum (List.map_congr_left fun y _=>?_);rw [List.filter_cons]
   split <;> simp <;> omega
theorem a6H {l l':List Str}(h:l.Perm l')(f:Str→Str→Bool):cntP l l f=cntP l' l' f:=by
 have e1:cntP l l f=cntP l' l f:=(h.map _).sum_nat
 have e2:cntP l' l f=cntP l' l' f:=by
   unfold cntP;exact congrArg List.sum (List.map_congr_left fun x _=>(h.filter _).length_eq)
 rw [e1,e2]
def cr (row other:List Str)(x y:Str):Bool:=decide (ixS row x < ixS row y) && decide (ixS other y < ixS other x)
theorem a7W {other row:List Str}(nd:row.Nodup):∀(suf pre:List Str),row=pre++suf→inv (suf.map (ixS other))=(suf.map fun x=>(row.filter (cr row other x)).length).sum
 | [],_,_=>rfl
 | x :: suf, pre, e => by
   have ih:=a7W (other:=other) nd suf (pre++[x]) (by rw [e,List.append_assoc];rfl);rw [List.map_cons,List.map_cons,List.sum_cons];show((suf.map (ixS other)).filter fun b=>decide (b < ixS other x)).length + inv (suf.map (ixS other))=_;rw [ih]
   congr 1
   have hx:ixS row x=pre.length:=a5a nd (a1b (show x∈row by rw [e];simp)).1 (by rw [e,List.getElem?_append_right (Nat.le_refl _),Nat.sub_self];rfl)
   have hp:∀y∈pre,ixS row y < pre.length:=fun y hy=>by
     obtain⟨j,hj,ej⟩:=List.getElem_of_mem hy;have:=a5a nd (a1b (show y∈row by rw [e];simp [hy])).1 (show row[j]?=some y by rw [e,List.getElem?_append_left hj,List.getElem?_eq_getElem hj,ej]);omega
   have hs:∀y∈suf,pre.length < ixS row y:=fun y hy=>by
     obtain⟨j,hj,ej⟩:=List.getElem_of_mem hy
     have:=a5a nd (a1b (show y∈row by rw [e];simp [hy])).1 (show row[pre.length + 1 + j]?=some y by
       rw [e,List.getElem?_append_right (by omega),show pre.length + 1 + j - pre.length=j + 1 by omega,List.getElem?_cons_succ,List.getElem?_eq_getElem hj,ej])
     omega
   have f0:row.filter (cr row other x)=suf.filter fun y=>decide (ixS other y < ixS other x):=by
     have f1:pre.filter (cr row other x)=[]:=List.filter_eq_nil_iff.mpr fun y hy z=>by
       unfold cr at z;rw [hx,decide_eq_false (by have:=hp y hy;omega),Bool.false_and] at z;cases z
     have f2:cr row other x x=false:=by unfold cr;rw [decide_eq_false (by omega),Bool.false_and]
     have f3:suf.filter (cr row other x)=suf.filter fun y=>decide (ixS other y < ixS other x):=List.filter_congr fun y hy=>by
       unfold cr;rw [hx,decide_eq_true (hs y hy),Bool.true_and]
     have:(pre++x::suf).filter (cr row other x)=suf.filter fun y=>decide (ixS other y < ixS other x):=by
       rw [List.filter_append,f1,List.filter_cons_of_neg (by rw [f2];exact Bool.false_ne_true),f3];rfl
     rw [← this,← e]
   rw [f0,List.filter_map,List.length_map]
   rfl
theorem a4a {other row:List Str}(nd:row.Nodup):inv (row.map (ixS other))=cntP row row (cr row other):=a7W nd row [] rfl
theorem a9b {other row:List Str}(nd:row.Nodup)(p:other.Perm row):inv (other.map (ixS row))=inv (row.map (ixS other)):=by
 rw [a4a nd,a4a (p.nodup_iff.mpr nd),a6H p,a3G];refine congrArg (cntP row row) ?_
 funext y x
 unfold cr;rw [Bool.and_comm]
theorem inv_id {row:List Str}(nd:row.Nodup):inv (row.map (ixS row))=0:=by
 rw [a4a nd];unfold cntP;rw [← a2K row];refine congrArg List.sum (List.map_congr_left fun x _=>?_);rw [List.length_eq_zero_iff,List.filter_eq_nil_iff];intro y _ z;unfold cr at z;simp only [Bool.and_eq_true,decide_eq_true_eq] at z;omega
def itr (f:Str→Str):Nat→Str→Str
 | 0,x=>x
 | k + 1,x=>f (itr f k x)
theorem a2l (f:Str→Str)(x:Str)(b:Nat):∀a:Nat,itr f (a + b) x=itr f a (itr f b x)
 | 0=>by rw [Nat.zero_add];rfl
 | a + 1 => by
   rw [show a + 1 + b=(a + b) + 1 by omega];show f (itr f (a + b) x)=f (itr f a (itr f b x));rw [a2l f x b a]
theorem itr_in (f:Str→Str)(x:Str):∀k,itr f k (f x)=itr f (k + 1) x:=fun k=>(a2l f x 1 k).symm
structure Prm (f:Str→Str)(row:List Str):Prop where
 st:∀x∈row,f x∈row
 inj:∀x∈row,∀y∈row,f x=f y→x=y
def Rch (f:Str→Str)(x y:Str):Prop:=∃k,itr f k x=y
section
variable {f:Str→Str}{row:List Str}
theorem Prm.mem (P:Prm f row){x:Str}(hx:x∈row):∀k,itr f k x∈row
 | 0=>hx
 | k + 1=>P.st _ (P.mem hx k)
theorem Prm.injk (P:Prm f row){x y:Str}(hx:x∈row)(hy:y∈row):∀k,itr f k x=itr f k y→x=y
 | 0,h=>h
 | k + 1,h=>P.injk hx hy k (P.inj _ (P.mem hx k) _ (P.mem hy k) h)
theorem Prm.per (P:Prm f row){x:Str}(hx:x∈row):∃k,1≤k∧k≤row.length∧itr f k x=x:=by
 apply Classical.byContradiction
 intro no;have no':∀k,1≤k→k≤row.length→itr f k x≠x:=fun k h1 h2 h3=>no ⟨k,h1,h2,h3⟩
 have key:∀a b,a < b→b≤row.length→itr f a x≠itr f b x:=fun a b hab hb e=>by
   rw [show b=a + (b - a) by omega,a2l] at e;exact no' (b - a) (by omega) (by omega) (P.injk (P.mem hx _) hx a e.symm)
 have nd:((List.range (row.length + 1)).map fun k=>itr f k x).Nodup:=a1J _ List.nodup_range fun a ha b hb e=>by
   have ha:=List.mem_range.mp ha;have hb:=List.mem_range.mp hb;rcases Nat.lt_trichotomy a b with c | c | c
   · exact absurd e (key a b c (by omega))
   · exact c
   · exact absurd e.symm (key b a c (by omega))
 have:=nd.length_le_of_subset fun z hz=>by
   obtain⟨k,_,rfl⟩:=List.mem_map.mp hz;exact P.mem hx k
 rw [List.length_map,List.length_range] at this;omega
theorem Rch.small (P:Prm f row){x y:Str}(hx:x∈row):∀k,itr f k x=y→∃j,j≤row.length∧itr f j x=y:=by
 intro k
 induction k using Nat.strongRecOn with
 | _ k ih =>
   intro h
   by_cases c:k≤row.length
   · exact⟨k,c,h⟩
   · obtain⟨p,p1,p2,p3⟩:=P.per hx;refine ih (k - p) (by omega) ?_;rw [← h,show k=(k - p) + p by omega,a2l,p3]
     congr 1
     omega
theorem Rch.trans {x y z:Str}(h1:Rch f x y)(h2:Rch f y z):Rch f x z:=by
 obtain⟨a,rfl⟩:=h1;obtain⟨b,rfl⟩:=h2;exact⟨b + a,a2l f x a b⟩
theorem Rch.symm (P:Prm f row){x y:Str}(hx:x∈row)(h:Rch f x y):Rch f y x:=by
 obtain⟨k,rfl⟩:=h
 induction k with
 | zero=>exact⟨0,rfl⟩
 | succ k ih =>
   obtain⟨q,q1,_,q3⟩:=P.per (P.mem hx k);refine Rch.trans ⟨q - 1,?_⟩ ih;show itr f (q - 1) (f (itr f k x))=itr f k x;rw [itr_in,show q - 1 + 1=q by omega,q3]
def mnR (f:Str→Str)(row:List Str)(x:Str):Nat→Nat
 | 0=>ixS row x
 | k + 1=>min (mnR f row x k) (ixS row (itr f (k + 1) x))
theorem mn_le (x:Str):∀k j,j≤k→mnR f row x k≤ixS row (itr f j x)
 | 0, j, h => by
   have:j=0:=by omega
   subst this;exact Nat.le_refl _
 | k + 1, j, h => by
   show min _ _≤_
   by_cases c:j≤k
   · have:=mn_le x k j c;omega
   · have:j=k + 1:=by omega
     subst this;omega
theorem a7o (x:Str):∀k,∃j,j≤k∧mnR f row x k=ixS row (itr f j x)
 | 0=>⟨0,Nat.le_refl _,rfl⟩
 | k + 1 => by
   obtain⟨j,h1,h2⟩:=a7o x k
   by_cases c:mnR f row x k≤ixS row (itr f (k + 1) x)
   · exact⟨j,by omega,by rw [← h2];show min _ _=_;omega⟩
   · exact⟨k + 1,Nat.le_refl _,by show min _ _=_;omega⟩
def cOf (f:Str→Str)(row:List Str)(x:Str):Nat:=mnR f row x row.length
theorem c_le (P:Prm f row){x y:Str}(hx:x∈row)(h:Rch f x y):cOf f row x≤ixS row y:=by
 obtain⟨k,hk⟩:=h;obtain⟨j,hj,rfl⟩:=Rch.small P hx k hk;exact mn_le x _ j hj
theorem a9k (P:Prm f row){x y:Str}(hx:x∈row)(hy:y∈row):Rch f x y↔cOf f row x=cOf f row y:=by
 obtain⟨i,_,ei⟩:=a7o (f:=f) (row:=row) x row.length;obtain⟨j,_,ej⟩:=a7o (f:=f) (row:=row) y row.length;constructor
 · intro h;have h':=h.symm P hx
   have a:cOf f row x≤cOf f row y:=by
     show _≤mnR f row y row.length;rw [ej];exact c_le P hx (h.trans ⟨j,rfl⟩)
   have b:cOf f row y≤cOf f row x:=by
     show _≤mnR f row x row.length;rw [ei];exact c_le P hy (h'.trans ⟨i,rfl⟩)
   omega
 · intro h;have e:ixS row (itr f i x)=ixS row (itr f j y):=by rw [← ei,← ej];exact h
   have e2:=a2k (P.mem hx i) (P.mem hy j) e;exact Rch.trans ⟨i,e2⟩ (Rch.symm P hy ⟨j,rfl⟩)
end
def ddN (l:List Nat):List Nat:=l.foldl (fun acc v=>if v∈acc then acc else acc++[v]) []
theorem a6E (l:List Nat)(v:Nat):ddN (l++[v])=if v∈ddN l then ddN l else ddN l++[v]:=by unfold ddN;rw [List.foldl_append];rfl
theorem a4H (l:List Nat):(ddN l).Nodup∧∀v,v∈ddN l↔v∈l:=by
 have h:∀m,∀l:List Nat,l.length=m→(ddN l).Nodup∧∀v,v∈ddN l↔v∈l:=by
   intro m
   induction m with
   | zero =>
     intro l hl;have:=List.eq_nil_of_length_eq_zero hl;subst this;exact⟨List.nodup_nil,fun v=>Iff.rfl⟩
   | succ m ih =>
     intro l hl;have hne:l≠[]:=fun z=>by rw [z] at hl;cases hl
     obtain⟨h1,h2⟩:=ih l.dropLast (by rw [List.length_dropLast];omega);have e:=List.dropLast_concat_getLast hne;rw [← e];rw [a6E]
     split
     · rename_i c;refine⟨h1,fun v=>?_⟩;rw [h2 v,List.mem_append,List.mem_singleton];exact⟨.inl,fun z=>z.elim id fun z=>by rw [z];exact(h2 _).mp c⟩
     · rename_i c;refine⟨List.nodup_append.mpr ⟨h1,by simp,fun a ha b hb z=>?_⟩,fun v=>?_⟩
       · rw [List.mem_singleton.mp hb] at z;rw [z] at ha;exact c ha
       · rw [List.mem_append,List.mem_append,h2 v]
 exact h _ l rfl
theorem a8d {l l':List Nat}(h:∀v,v∈l↔v∈l'):(ddN l).length=(ddN l').length:=by
 obtain⟨a1,a2⟩:=a4H l;obtain⟨b1,b2⟩:=a4H l';exact Nat.le_antisymm (a1.length_le_of_subset fun v hv=>(b2 v).mpr ((h v).mp ((a2 v).mp hv))) (b1.length_le_of_subset fun v hv=>(a2 v).mpr ((h v).mpr ((b2 v).mp hv)))
theorem a4G {l:List Nat}(h:l.Nodup):(ddN l).length=l.length:=by
 obtain⟨a1,a2⟩:=a4H l;exact Nat.le_antisymm (a1.length_le_of_subset fun v hv=>(a2 v).mp hv) (h.length_le_of_subset fun v hv=>(a2 v).mpr hv)
theorem a6n {f:Str→Str}{row:List Str}(P:Prm f row)(nd:row.Nodup):(row.filter fun b=>decide (cOf f row b=ixS row b)).length=(ddN (row.map (cOf f row))).length:=by
 have e:(row.filter fun b=>decide (cOf f row b=ixS row b)).length=((row.filter fun b=>decide (cOf f row b=ixS row b)).map (cOf f row)).length:=(List.length_map ..).symm;rw [e,← a4G (a1J _ (nd.sublist List.filter_sublist) fun a ha b hb z=>?_)]
 · refine a8d fun v=>?_;rw [List.mem_map,List.mem_map];constructor
   · rintro⟨b,hb,rfl⟩;exact⟨b,(List.mem_filter.mp hb).1,rfl⟩
   · rintro⟨b,hb,rfl⟩;obtain⟨j,_,ej⟩:=a7o (f:=f) (row:=row) b row.length;have hz:=P.mem hb j;have ec:cOf f row b=cOf f row (itr f j b):=(a9k P hb hz).mp ⟨j,rfl⟩;refine⟨itr f j b,List.mem_filter.mpr ⟨hz,decide_eq_true ?_⟩,ec.symm⟩;rw [← ec];exact ej
 · have a1:=of_decide_eq_true (List.mem_filter.mp ha).2;have b1:=of_decide_eq_true (List.mem_filter.mp hb).2;exact a2k (List.mem_filter.mp ha).1 (List.mem_filter.mp hb).1 (by rw [← a1,← b1];exact z)
def nxB (row other:List Str)(b:Str):Str:=nm other (ixS row b)
theorem a1T {row other:List Str}(nd:row.Nodup)(p:other.Perm row):Prm (nxB row other) row:=by
 have l:=p.length_eq;refine⟨fun x hx=>p.mem_iff.mp (a4u (by rw [l];exact a1U hx)),fun x hx y hy h=>?_⟩;exact a2k hx hy (nm_inj (p.nodup_iff.mpr nd) (by rw [l];exact a1U hx) (by rw [l];exact a1U hy) h)
theorem a8S {row other:List Str}(nd:row.Nodup)(p:other.Perm row){x:Str}(hx:x∈row):nxB other row (nxB row other x)=x:=by
 unfold nxB;have l:=p.length_eq;have hl:ixS row x < other.length:=by rw [l];exact a1U hx
 have e:ixS other (nm other (ixS row x))=ixS row x:=a5a (p.nodup_iff.mpr nd) (a1b (a4u hl)).1 (a2u hl);rw [e];have h1:=(a1b hx).1;rw [a2u (a1U hx)] at h1;exact Option.some.inj h1
theorem a6X {row other:List Str}(nd:row.Nodup)(p:other.Perm row){x y:Str}(hx:x∈row)(hy:y∈row):Rch (nxB other row) x y↔Rch (nxB row other) x y:=by
 have P:=a1T nd p
 have one:∀{row other:List Str},row.Nodup→other.Perm row→∀{x y:Str},x∈row→Rch (nxB row other) x y→Rch (nxB other row) y x:=fun {row other} nd p {x y} hx h=>by
   obtain⟨k,rfl⟩:=h
   induction k with
   | zero=>exact⟨0,rfl⟩
   | succ k ih=>exact Rch.trans ⟨1,a8S nd p ((a1T nd p).mem hx k)⟩ ih
 have nd':=p.nodup_iff.mpr nd;constructor
 · intro h;exact(one nd' p.symm (p.mem_iff.mpr hx) h).symm P hy
 · intro h;exact(one nd p hx h).symm (a1T nd' p.symm) (p.mem_iff.mpr hy)
theorem a3y {α:Type}{x:α}:∀{l:List α} (i:Nat),l.Nodup→x∉l→(l.set i x).Nodup
 | [],_,h,_=>h
 | y :: l, 0, h, hx => by
   rw [List.set_cons_zero,List.nodup_cons];exact⟨fun z=>hx (List.mem_cons_of_mem _ z),(List.nodup_cons.mp h).2⟩
 | y :: l, i + 1, h, hx => by
   rw [List.set_cons_succ,List.nodup_cons];refine⟨fun z=>?_,a3y i (List.nodup_cons.mp h).2 fun z=>hx (List.mem_cons_of_mem _ z)⟩;rcases List.mem_or_eq_of_mem_set z with z | z
   · exact(List.nodup_cons.mp h).1 z
   · exact hx (by rw [← z];exact List.mem_cons_self)
theorem a4A {α:Type}(x:α):∀(xs:List α) (j:Nat),(insL xs j x).Perm (x::xs):=by
 intro xs j;unfold insL;have:=(List.perm_middle (a:=x) (l₁:=xs.take j) (l₂:=xs.drop j));rw [List.take_append_drop] at this;exact this
theorem a6t {α β:Type}(f:α→β)(xs:List α)(j:Nat)(x:α):insL (xs.map f) j (f x)=(insL xs j x).map f:=by
 unfold insL;rw [List.map_append,List.map_cons,List.map_take,List.map_drop]
def Sg (ah:Int)(c:Nat)(z:Str):Prop:=(ah=0→∃l,z.cps.toList=l++[c])∧(ah=1→∃l,z.cps.toList=c::l)
theorem Sg.inj {ah:Int}{c d:Nat}{z:Str}(h:ah=0∨ah=1)(h1:Sg ah c z)(h2:Sg ah d z):c=d:=by
 rcases h with h | h
 · obtain⟨l,e1⟩:=h1.1 h;obtain⟨l',e2⟩:=h2.1 h;rw [e1] at e2;have:=congrArg List.getLast? e2
   simpa using this
 · obtain⟨l,e1⟩:=h1.2 h;obtain⟨l',e2⟩:=h2.2 h;rw [e1] at e2;exact(List.cons.inj e2).1
theorem a8W {q n:Nat}{many:Int}{R:PV→Nat→Prop}(h0:1≤many)(h1:many≤24)(hn:n≤999900000)(h:∀(zs:List Str) n',(zs.length:Int)=many→zs.Nodup→n'≤n + 1000→R (rowP zs) n'):a0P [.pot q,.int many] n R:=by
 refine⟨rfl,?_⟩;unfold a1g;have l26:LETS.length=26:=a4x;have ll:LETS.length≤1000000:=by rw [l26];decide
 walk_at "pu";refine⟨by omega,fun fi f0 f1=>⟨by omega,fun d1 d10 d11=>?_⟩⟩;obtain⟨x,hx,ex⟩:=a3h (xs:=[PV.int 1,PV.int 3,PV.int 5,PV.int 7,PV.int 9,PV.int 11,PV.int 15,PV.int 17]) d10 d11
 have hx':∃t:Int,x=.int t∧t∈a6N∧0≤t∧t≤17:=by
   simp only [List.mem_cons,List.not_mem_nil,or_false] at hx;rcases hx with rfl | rfl | rfl | rfl | rfl | rfl | rfl | rfl <;> exact⟨_,rfl,by decide,by decide,by decide⟩
 obtain⟨t,rfl,ht,t0,t1⟩:=hx';rw [ex];refine⟨by omega,fun ah a0 a1=>⟨by omega,fun ln l0 l1=>⟨by omega,?_⟩⟩⟩;have ha:ah=0∨ah=1:=by omega
 refine a0C (fun i env m=>∃s7,∃z:Str,env=[some (.v (.pot q)),some (.v (.int many)),some (.v (.str LETS)),some (.v (.int fi)),some (.v (.int t)),some (.v (.int ah)),some (.v (.str z)),s7,none,none,none,none]∧z.length≤i∧m≤n + 4 + i) _ 0 _ _ ⟨none,_,rfl,Nat.le_refl _,by omega⟩ (fun i x env m N ex hI hN=>?_) (fun env m hI=>?_)
 · obtain⟨hi,rfl⟩:=a1d ex;obtain⟨s7,z,rfl,hz,hm⟩:=hI;walk_at "pu";refine⟨by omega,fun d d0 d1=>⟨ll,?_⟩⟩;rw [a6m d0 d1];dsimp only;have e1:∀c:Nat,(⟨#[c]⟩:Str).length=1:=fun _=>rfl;refine⟨by rw [e1];omega,hN _ _ ⟨some (.v (.int (0 + i))),_,rfl,?_,by omega⟩⟩;rw [a3Q,a4d,List.length_append,← a3Q];show _ + 1≤_;omega
 · obtain⟨s7,stem,rfl,hz,hm⟩:=hI;rw [a1c] at hz hm;walk_at "pu";refine⟨by omega,?_⟩;refine a0C (fun i env m'=>∃s7 s9 s10,∃zs:List Str,env=[some (.v (.pot q)),some (.v (.int many)),some (.v (.str LETS)),some (.v (.int fi)),some (.v (.int t)),some (.v (.int ah)),some (.v (.str stem)),s7,some (.own (zs.map PV.str)),s9,s10,none]∧zs.length=i∧zs.Nodup∧(∀z∈zs,∃j,j < i∧Sg ah (lt fi t j) z)∧m'≤n + 20 + i) _ 0 _ _ ⟨s7,none,none,[],rfl,rfl,List.nodup_nil,(fun _ z=>by cases z),by omega⟩ (fun i x env m' N ex hI hN=>?_) (fun env m' hI=>?_)
   · obtain⟨hi,rfl⟩:=a1d ex;obtain⟨s7,s9,s10,zs,rfl,hl,nd,hg,hm'⟩:=hI;generalize hF:zs.map PV.str=FF;have Fl:FF.length=zs.length:=by rw [← hF,List.length_map]
     walk_at "pu";have e1:∀c:Nat,(⟨#[c]⟩:Str).length=1:=fun _=>rfl;refine⟨.inl (a4O ht),ll,?_⟩;rw [show fi + t * (0 + (i:Int))=fi + (i:Int) * t by rw [Int.zero_add,Int.mul_comm],lt_at];have pl:(Txt.slice stem none (some (((0 + (i:Int)) * t + fi) % ((stem.length:Int) + 1)))).length≤stem.length:=Txt.slice_le stem _ _;generalize Txt.slice stem none (some (((0 + (i:Int)) * t + fi) % ((stem.length:Int) + 1)))=part at pl ⊢;refine⟨.inl ⟨by omega,by omega⟩,by omega,by omega,by omega,⟨_,rfl⟩,⟨by omega,by omega,by omega⟩,fun d d0 d1=>⟨by rw [e1];omega,by rw [e1];omega,?_⟩⟩
     have pick:∃z:Str,atI [PV.str (part++(⟨#[lt fi t i]⟩:Str)),PV.str ((⟨#[lt fi t i]⟩:Str)++part)] ah=some (.str z)∧Sg ah (lt fi t i) z:=by
       rcases ha with rfl | rfl
       · exact⟨_,rfl,fun _=>⟨part.cps.toList,a4d _ _⟩,fun z=>by cases z⟩
       · exact⟨_,rfl,(fun z=>by cases z),fun _=>⟨part.cps.toList,a4d _ _⟩⟩
     obtain⟨z,ez,sz⟩:=pick;rw [ez]
     have nz:z∉zs:=fun c=>by
       obtain⟨j,hj,sj⟩:=hg z c;exact lt_ne ht f0 (show j < i by omega) (by omega) (Sg.inj ha sj sz)
     have pm:=a4A z zs d.toNat;refine⟨⟨by omega,by omega,by omega⟩,hN _ _ ⟨some (.v (.int (0 + i))),some (.v (.str ⟨#[lt fi t i]⟩)),some (.v (.str part)),insL zs d.toNat z,?_,by rw [a3e];omega,pm.nodup_iff.mpr (List.nodup_cons.mpr ⟨nz,nd⟩),fun y hy=>?_,by omega⟩⟩
     · rw [← hF,a6t]
     · rcases List.mem_cons.mp (pm.mem_iff.mp hy) with e | hy
       · rw [e];exact⟨i,by omega,sz⟩
       · obtain⟨j,hj,sj⟩:=hg y hy;exact⟨j,by omega,sj⟩
   · obtain⟨s7,s9,s10,zs,rfl,hl,nd,hg,hm'⟩:=hI;rw [a1c] at hl hm';clear hg;generalize hF:zs.map PV.str=FF;walk_at "pu";refine⟨by omega,fun d d0 d1=>?_⟩;obtain⟨x,hx,ex⟩:=a3h (xs:=[PV.int 0,PV.int 0,PV.int 0,PV.int 1,PV.int 2]) d0 d1
     have hx':∃k:Int,x=.int k∧0≤k∧k≤2:=by
       simp only [List.mem_cons,List.not_mem_nil,or_false] at hx;rcases hx with rfl | rfl | rfl | rfl | rfl <;> exact⟨_,rfl,by decide,by decide⟩
     obtain⟨k,rfl,k0,k2⟩:=hx';rw [ex];refine⟨by omega,?_⟩;subst hF;refine a0C (fun i env m2=>∃s7 s11,∃ys:List Str,env=[some (.v (.pot q)),some (.v (.int many)),some (.v (.str LETS)),some (.v (.int fi)),some (.v (.int t)),some (.v (.int ah)),some (.v (.str stem)),s7,some (.own (ys.map PV.str)),s9,s10,s11]∧ys.length=zs.length∧ys.Nodup∧m2≤m' + 1 + 2 * i) _ 0 _ _ ⟨s7,none,zs,rfl,rfl,nd,by omega⟩ (fun i x env m2 N ex hI hN=>?_) (fun env m2 hI=>?_)
     · obtain⟨hi,rfl⟩:=a1d ex;obtain⟨s7,s11,ys,rfl,ly,ndy,hm2⟩:=hI;generalize hF:ys.map PV.str=FF;have Fl:FF.length=ys.length:=by rw [← hF,List.length_map]
       walk_at "pu";refine⟨by omega,fun e e0 e1=>?_⟩;obtain⟨x,hx,ex⟩:=a3h (xs:=[PV.str (Str.ofString "drop"),PV.str (Str.ofString "touch"),PV.str (Str.ofString "none"),PV.str (Str.ofString "d"),PV.str (Str.ofString "u"),PV.str (Str.ofString "t"),PV.str (Str.ofString "o")]) e0 e1;rw [ex]
       have bx:∃z:Str,x=.str z:=by
         simp only [List.mem_cons,List.not_mem_nil,or_false] at hx;rcases hx with rfl | rfl | rfl | rfl | rfl | rfl | rfl <;> exact⟨_,rfl⟩
       obtain⟨z,rfl⟩:=bx;rw [← hF];refine a7m rfl ?_;dsimp only
       by_cases cz:z∈ys
       · refine if_f (by rw [decide_eq_true cz];rfl) (hN _ _ ⟨some (.v (.int (0 + i))),some (.v (.str z)),ys,rfl,ly,ndy,by omega⟩)
       · refine if_t (by rw [decide_eq_false cz];rfl) ⟨⟨_,rfl⟩,⟨by omega,by omega,by omega⟩,fun j j0 j1=>?_⟩;rw [a3c j0 (by rw [List.length_map];omega)];refine hN _ _ ⟨some (.v (.int (0 + i))),some (.v (.str z)),ys.set j.toNat z,?_,by rw [List.length_set];exact ly,a3y j.toNat ndy cz,by omega⟩;rw [List.map_set]
     · obtain⟨s7,s11,ys,rfl,ly,ndy,hm2⟩:=hI;rw [a1c] at hm2;walk_at "pu";exact h ys _ (by omega) ndy (by omega)
theorem a7B {zs:List Str}{Z:List PV}(hZ:zs.map PV.str=Z){i:Nat}(h:i < zs.length):atI Z (i:Int)=some (.str (nm zs i)):=by
 obtain⟨x,e1,e2⟩:=a4g (xs:=Z) (d:=(i:Int)) (by omega) (by rw [← hZ,List.length_map];omega);rw [e2];rw [Int.toNat_natCast,← hZ,List.getElem?_map,a2u h] at e1;exact e1.symm
theorem a7G {n d:Nat}(h:1≤n):HT.sIx n d (some (-1))=n - 1:=by
 show(if(-1:Int) < 0 then((-1:Int) + (n:Int)).toNat else min (-1:Int).toNat n)=n - 1;rw [if_pos (by decide)];omega
theorem m_goal {q n:Nat}{zs:List Str}{R:PV→Nat→Prop}(h1:1≤zs.length)(h2:zs.length≤24)(hn:n≤999900000)(h:∀(ys:List Str) n',ys.Perm zs→n'≤n + 100→R (rowP ys) n'):a0Y [.pot q,rowP zs] n R:=by
 refine⟨rfl,?_⟩;unfold a1y;have hr0:rowP zs=.tup (zs.map PV.str):=rfl;have hat:∀i:Nat,i < zs.length→atI (zs.map PV.str) (i:Int)=some (.str (nm zs i)):=fun i hi=>a7B rfl hi;generalize hZ:zs.map PV.str=Z at *;have Zl:Z.length=zs.length:=by rw [← hZ,List.length_map]
 rw [hr0];walk_at "pu";refine⟨by omega,fun w w0 w1=>?_⟩
 by_cases c:w < 3
 · refine if_t (decide_eq_true c) ?_;refine a0C (fun i env m=>∃s5,∃ys:List Str,env=[some (.v (.pot q)),some (.v (.tup Z)),some (.v (.int w)),some (.v (.int (Z.length:Int))),some (.own (ys.map PV.str)),s5,none,none]∧ys.Perm (zs.take i)∧ys.length=i∧m≤n + 1 + i) _ 0 _ _ ⟨none,[],rfl,by rw [List.take_zero],rfl,by omega⟩ (fun i x env m N ex hI hN=>?_) (fun env m hI=>?_)
   · rw [← hZ] at ex;obtain⟨z,ez,rfl⟩:=a6j ex;obtain⟨s5,ys,rfl,pm,hl,hm⟩:=hI;have hi:=(List.getElem?_eq_some_iff.mp ez).1;generalize hF:ys.map PV.str=FF;have Fl:FF.length=ys.length:=by rw [← hF,List.length_map]
     walk_at "pu";refine⟨⟨_,rfl⟩,by omega,fun d d0 d1=>⟨by omega,hN _ _ ⟨some (.v (.str z)),insL ys d.toNat z,?_,?_,by rw [a3e];omega,by omega⟩⟩⟩
     · rw [← hF,a6t]
     · rw [Nat.zero_add] at pm ⊢;rw [a2I ez];exact(a4A z ys d.toNat).trans ((pm.cons z).trans (List.perm_append_singleton z _).symm)
   · obtain⟨s5,ys,rfl,pm,hl,hm⟩:=hI;rw [Nat.zero_add,Zl,List.take_length] at pm;walk_at "pu";exact h ys _ pm (by omega)
 · refine if_f (decide_eq_false c) ⟨by omega,fun a a0 a1=>⟨by omega,fun b b0 b1=>?_⟩⟩;obtain⟨an,rfl⟩:=Int.eq_ofNat_of_zero_le a0;obtain⟨bn,rfl⟩:=Int.eq_ofNat_of_zero_le b0;rw [hat bn (by omega),hat an (by omega)];dsimp only;refine⟨⟨_,rfl⟩,?_⟩;rw [a3c (by omega) (by omega)];dsimp only;rw [a3c (by omega) (by rw [List.length_set];omega)];dsimp only;rw [Int.toNat_natCast,Int.toNat_natCast]
   have c1:cutP Z (some (-1)) none=Z.drop (Z.length - 1):=by
     unfold cutP;rw [a7G (by omega)];show(Z.drop (Z.length - 1)).take (Z.length - (Z.length - 1))=_;rw [List.take_of_length_le (by rw [List.length_drop];omega)]
   have c2:cutP Z none (some (-1))=Z.take (Z.length - 1):=by
     unfold cutP;rw [a7G (by omega)]
     rfl
   rw [c1,c2];refine⟨by rw [List.length_drop,List.length_take];omega,?_⟩
   have pick:∃ys:List Str,atI [PV.tup Z.reverse,PV.tup (Z.drop (Z.length - 1)++Z.take (Z.length - 1)),PV.tup ((Z.set an (.str (nm zs bn))).set bn (.str (nm zs an)))] (w - 3)=some (rowP ys)∧ys.Perm zs:=by
     rw [← hZ]
     by_cases d1:w=3
     · subst d1;refine⟨zs.reverse,?_,List.reverse_perm zs⟩;rw [← List.map_reverse];rfl
     · by_cases d2:w=4
       · subst d2;refine⟨zs.drop (zs.length - 1)++zs.take (zs.length - 1),?_,?_⟩
         · rw [List.length_map,← List.map_drop,← List.map_take,← List.map_append];rfl
         · have:=(List.perm_append_comm (l₁:=zs.drop (zs.length - 1)) (l₂:=zs.take (zs.length - 1)));rw [List.take_append_drop] at this;exact this
       · have d3:w=5:=by omega
         subst d3;refine⟨exch zs an bn,?_,a6w (by omega) (by omega)⟩;unfold exch;rw [← List.map_set,← List.map_set];rfl
   obtain⟨ys,ey,py⟩:=pick;rw [ey];exact h ys _ py (by omega)
def pinN (k:Nat):PV:=.int (k:Int)
theorem a8X {zs ys:List Str}{n:Nat}{R:PV→Nat→Prop}(h2:zs.length≤24)(pm:ys.Perm zs)(h:R (.int (inv (zs.map (ixS ys)):Nat)) n):a0Q [rowP zs,rowP ys] n R:=by
 refine⟨rfl,?_⟩;unfold a1h;have ly:=pm.length_eq;have hat:∀i:Nat,i < zs.length→atI (zs.map PV.str) (i:Int)=some (.str (nm zs i)):=fun i hi=>a7B rfl hi;have hix:∀z∈zs,∀{R:PV→Prop},R (.int (ixS ys z))→a1B (.tup (ys.map PV.str)) (.str z) R:=fun z hz {R} q=>m_ix rfl (pm.mem_iff.mpr hz) (by omega) q;have hr0:rowP zs=.tup (zs.map PV.str):=rfl;have hr1:rowP ys=.tup (ys.map PV.str):=rfl
 have hg:∀i,i < zs.length→(zs.map (ixS ys)).drop i=ixS ys (nm zs i)::(zs.map (ixS ys)).drop (i + 1):=fun i hi=>by
   rw [List.drop_eq_getElem_cons (by rw [List.length_map];exact hi)]
   congr 1
   have:=a2u hi;rw [List.getElem?_eq_getElem hi] at this;rw [List.getElem_map,Option.some.inj this]
 have gl:(zs.map (ixS ys)).length=zs.length:=List.length_map ..;generalize zs.map (ixS ys)=g at *;have hm:∀i,i < zs.length→nm zs i∈zs:=fun i hi=>a4u hi;generalize hZ:zs.map PV.str=Z at *;generalize hY:ys.map PV.str=Y at *;have Zl:Z.length=zs.length:=by rw [← hZ,List.length_map]
 rw [hr0,hr1];walk_at "pu";refine⟨by omega,?_⟩;refine a0C (fun i env m=>∃s3 s4,∃c:Nat,env=[some (.v (.tup Z)),some (.v (.tup Y)),some (.v (.int (c:Int))),s3,s4]∧c + inv (g.drop i)=inv g∧m=n) _ 0 _ _ ⟨none,none,0,rfl,by rw [List.drop_zero];omega,rfl⟩ (fun i x env m N ex hI hN=>?_) (fun env m hI=>?_)
 · obtain⟨hi,rfl⟩:=a1d ex;obtain⟨s3,s4,c,rfl,hc,rfl⟩:=hI;rw [Nat.zero_add] at hc hN;have hi':i < zs.length:=by omega
   rw [hg i hi'] at hc;have hc':c + (((g.drop (i + 1)).filter fun b=>decide (b < ixS ys (nm zs i))).length + inv (g.drop (i + 1)))=inv g:=hc;walk_at "pu";refine⟨by omega,?_⟩;refine a0C (fun j env m'=>∃s4,∃c2:Nat,env=[some (.v (.tup Z)),some (.v (.tup Y)),some (.v (.int (c2:Int))),some (.v (.int (0 + i))),s4]∧c2 + ((g.drop (i + 1 + j)).filter fun b=>decide (b < ixS ys (nm zs i))).length=c + ((g.drop (i + 1)).filter fun b=>decide (b < ixS ys (nm zs i))).length∧m'=m) _ 0 _ _ ⟨s4,c,rfl,rfl,rfl⟩ (fun j x env m' N' ex' hI hN'=>?_) (fun env m' hI=>?_)
   · obtain⟨hj,rfl⟩:=a1d ex';obtain⟨s4,c2,rfl,hc2,rfl⟩:=hI;rw [Nat.zero_add] at hc2 hN';have hj':i + 1 + j < zs.length:=by omega
     rw [hg (i + 1 + j) hj',List.filter_cons] at hc2;walk_at "pu";rw [show(0 + (i:Int) + 1 + (j:Int))=((i + 1 + j:Nat):Int) by omega,show(0:Int) + (i:Int)=((i:Nat):Int) by omega,hat i hi'];refine⟨⟨_,rfl⟩,hix _ (hm i hi') ?_⟩;rw [hat (i + 1 + j) hj'];refine⟨⟨_,rfl⟩,hix _ (hm _ hj') ?_⟩;dsimp only
     by_cases cc:ixS ys (nm zs (i + 1 + j)) < ixS ys (nm zs i)
     · rw [if_pos (decide_eq_true cc)] at hc2;rw [decide_eq_true (show((ixS ys (nm zs (i + 1 + j)):Nat):Int) < (ixS ys (nm zs i):Nat) by omega)];refine hN' _ _ ⟨some (.v (.int ((i + 1 + j:Nat):Int))),c2 + 1,?_,?_,rfl⟩
       · rw [show((c2 + 1:Nat):Int)=(c2:Int) + 1 by omega,show(0:Int) + (i:Int)=((i:Nat):Int) by omega];rfl
       · rw [← hc2,List.length_cons,show i + 1 + (j + 1)=i + 1 + j + 1 by omega];omega
     · rw [if_neg (by simpa using cc)] at hc2;rw [decide_eq_false (show ¬((ixS ys (nm zs (i + 1 + j)):Nat):Int) < (ixS ys (nm zs i):Nat) by omega)];refine hN' _ _ ⟨some (.v (.int ((i + 1 + j:Nat):Int))),c2,?_,?_,rfl⟩
       · rw [show(0:Int) + (i:Int)=((i:Nat):Int) by omega];show [_,_,some (Slot.v (.int ((c2:Int) + 0))),_,_]=_;rw [Int.add_zero]
       · rw [← hc2,show i + 1 + (j + 1)=i + 1 + j + 1 by omega]
   · obtain⟨s4,c2,rfl,hc2,rfl⟩:=hI;rw [a1c,Nat.zero_add,List.drop_of_length_le (by omega)] at hc2;refine hN _ _ ⟨_,_,c2,rfl,?_,rfl⟩;rw [← hc'];simp only [List.filter_nil,List.length_nil] at hc2;omega
 · obtain⟨s3,s4,c,rfl,hc,rfl⟩:=hI;rw [a1c,Nat.zero_add,show(↑Z.length:Int).toNat=g.length by omega,List.drop_length] at hc;walk_at "pu";rw [show(c:Int)=(inv g:Nat) by show _=_;have:inv ([]:List Nat)=0:=rfl;omega];exact h
theorem a2s {a:Nat}{s0:Option Pu.Slot}{rest:Pu.Env}{n:Nat}{R:List PV→Pu.Env→Nat→Prop}:∀(l:List Nat) (s2:Option Pu.Slot),(∀s2,R (List.replicate (l.filter fun b=>decide (b < a)).length (.int 1)) (s0::some (.v (.int (a:Int)))::s2::rest) n)→
   a3F (gN 2) (qB (qOp wLt (qV 2) (qV 1))) (qC (.int 1)) (l.map pinN) (s0::some (.v (.int (a:Int)))::s2::rest) n R
 | [],s2,h=>h s2
 | b :: l, s2, h => by
   show(if decide ((b:Int) < (a:Int))=true then a3F (gN 2) (qB (qOp wLt (qV 2) (qV 1))) (qC (.int 1)) (l.map pinN) (s0::some (.v (.int (a:Int)))::some (.v (.int (b:Int)))::rest) n fun ys e m=>R (.int 1::ys) e m else a3F (gN 2) (qB (qOp wLt (qV 2) (qV 1))) (qC (.int 1)) (l.map pinN) (s0::some (.v (.int (a:Int)))::some (.v (.int (b:Int)))::rest) n R)
   by_cases c:b < a
   · refine if_t (decide_eq_true (by omega)) (a2s l _ fun s2=>?_);have:=h s2;rw [List.filter_cons_of_pos (by simpa using c),List.length_cons,List.replicate_succ] at this;exact this
   · refine if_f (decide_eq_false (by omega)) (a2s l _ fun s2=>?_);have:=h s2;rw [List.filter_cons_of_neg (by simpa using c)] at this;exact this
theorem a2F {g:List Nat}(hl:g.length≤1000){n:Nat}{R:List PV→Nat→Prop}:∀(suf:List Nat) (i:Nat) (s0 s1 s2:Option Pu.Slot),g.drop i=suf→R (List.replicate (inv suf) (.int 1)) n→
   a2r (gTp 2 (gCn (gN 0) (gCn (gN 1) gNl))) (qIl (qSl (qV 3) (a3R (qOp wAdd (qV 0) (qC (PV.int 1)))) qNo)) (gN 2) (qB (qOp wLt (qV 2) (qV 1))) (qC (.int 1)) (((suf.map pinN).zipIdx i).map fun y=>PV.tup [.int (y.2:Nat),y.1]) [s0,s1,s2,some (.v (.lst (g.map pinN)))] n R
 | [],i,s0,s1,s2,_,h=>h
 | a :: suf, i, s0, s1, s2, e, h => by
   have e':g.drop (i + 1)=suf:=by
     have:=congrArg (List.drop 1) e;rw [List.drop_drop] at this;rw [show i + 1=i + 1 from rfl];simpa [Nat.add_comm] using this
   refine⟨rfl,?_⟩;show(cutP (g.map pinN) (some ((i:Int) + 1)) none).length≤1000∧a3F (gN 2) (qB (qOp wLt (qV 2) (qV 1))) (qC (.int 1)) (cutP (g.map pinN) (some ((i:Int) + 1)) none) [some (.v (.int (i:Int))),some (.v (.int (a:Int))),s2,some (.v (.lst (g.map pinN)))] n _;rw [show cutP (g.map pinN) (some ((i:Int) + 1)) none=suf.map pinN by rw [← e',List.map_drop,← cut_tl];rfl];refine⟨by rw [List.length_map,← e',List.length_drop];omega,a2s suf _ fun s2'=>?_⟩;refine a2F hl suf (i + 1) _ _ _ e' ?_;rw [List.replicate_append_replicate];exact h
theorem a1O {zs ys:List Str}{n:Nat}{R:PV→Nat→Prop}(h2:zs.length≤24)(pm:ys.Perm zs)(h:R (.int (inv (zs.map (ixS ys)):Nat)) n):a0G [rowP zs,rowP ys] n R:=by
 refine⟨rfl,?_⟩;unfold a1N;have ly:=pm.length_eq;have hix:∀z∈zs,∀{R:PV→Prop},R (.int (ixS ys z))→a1B (.tup (ys.map PV.str)) (.str z) R:=fun z hz {R} q=>m_ix rfl (pm.mem_iff.mpr hz) (by omega) q;have hr0:rowP zs=.tup (zs.map PV.str):=rfl;have hr1:rowP ys=.tup (ys.map PV.str):=rfl;generalize hY:ys.map PV.str=Y at *;have Zl:(zs.map PV.str).length=zs.length:=List.length_map ..;rw [hr0,hr1];generalize hZ:zs.map PV.str=Z at *;walk_at "pu";refine⟨by omega,?_⟩;rw [← hZ];refine a2E PV.str (fun z=>pinN (ixS ys z)) zs _ _ _ (fun z hz m Q hQ=>?_) ?_
 · walk_at "pu";exact⟨⟨_,rfl⟩,hix z hz hQ⟩
 · have eg:(zs.map fun z=>pinN (ixS ys z))=(zs.map (ixS ys)).map pinN:=by rw [List.map_map];rfl
   have gl:(zs.map (ixS ys)).length=zs.length:=List.length_map ..;rw [eg];generalize zs.map (ixS ys)=g at *;refine⟨by rw [a3D,List.length_map];omega,?_⟩;refine a2F (g:=g) (by omega) g 0 none none none rfl ?_;rw [List.length_replicate];exact h
theorem a7q {zs ys:List Str}{n:Nat}{R:PV→Nat→Prop}(nd:zs.Nodup)(h2:zs.length≤24)(pm:ys.Perm zs)(h:R (.int ((zs.filter fun b=>decide (cOf (nxB zs ys) zs b=ixS zs b)).length:Nat)) n):a0L [rowP zs,rowP ys] n R:=by
 refine⟨rfl,?_⟩;unfold a0V;have ly:=pm.length_eq;have P:=a1T nd pm;have hix:∀z∈zs,∀{R:PV→Prop},R (.int (ixS zs z))→a1B (.tup (zs.map PV.str)) (.str z) R:=fun z hz {R} q=>m_ix rfl hz (by omega) q;have hat:∀z∈zs,atI (ys.map PV.str) ((ixS zs z:Nat):Int)=some (.str (nxB zs ys z)):=fun z hz=>a7B rfl (by rw [ly];exact a1U hz);have hr0:rowP zs=.tup (zs.map PV.str):=rfl;have hr1:rowP ys=.tup (ys.map PV.str):=rfl;generalize hZ:zs.map PV.str=Z at *;generalize hY:ys.map PV.str=Y at *;have Zl:Z.length=zs.length:=by rw [← hZ,List.length_map]
 rw [hr0,hr1];walk_at "pu";refine⟨by omega,?_⟩;refine a0C (fun i env m=>∃s3 s4 s5 s6,env=[some (.v (.tup Z)),some (.v (.tup Y)),some (.v (.int (((zs.take i).filter fun b=>decide (cOf (nxB zs ys) zs b=ixS zs b)).length:Nat))),s3,s4,s5,s6]∧m=n) _ 0 _ _ ⟨none,none,none,none,rfl,rfl⟩ (fun i x env m N ex hI hN=>?_) (fun env m hI=>?_)
 · obtain⟨hi,rfl⟩:=a1d ex;obtain⟨s3,s4,s5,s6,rfl,rfl⟩:=hI;rw [Nat.zero_add] at hN ⊢;have hi':i < zs.length:=by omega
   have hb:nm zs i∈zs:=a4u hi';have ib:ixS zs (nm zs i)=i:=a5a nd (a1b hb).1 (a2u hi');have hab:=hat _ hb;rw [ib] at hab
   have tk:(zs.take (i + 1)).filter (fun b=>decide (cOf (nxB zs ys) zs b=ixS zs b))=(zs.take i).filter (fun b=>decide (cOf (nxB zs ys) zs b=ixS zs b))++if cOf (nxB zs ys) zs (nm zs i)=i then [nm zs i] else []:=by
     rw [a2I (a2u hi'),List.filter_append,List.filter_cons,ib]
     by_cases c:cOf (nxB zs ys) zs (nm zs i)=i
     · rw [if_pos (decide_eq_true c),if_pos c];rfl
     · rw [if_neg (by simpa using c),if_neg c];rfl
   rw [tk] at hN;generalize hC:((zs.take i).filter fun b=>decide (cOf (nxB zs ys) zs b=ixS zs b))=C at *;walk_at "pu";rw [show(0:Int) + (i:Int)=((i:Nat):Int) by omega,hab];refine⟨⟨_,rfl⟩,hix _ (P.st _ hb) ?_⟩;refine⟨by omega,?_⟩;refine a0C (fun k env m'=>∃s6,env=[some (.v (.tup Z)),some (.v (.tup Y)),some (.v (.int (C.length:Nat))),some (.v (.int ((i:Nat):Int))),some (.v (.int ((mnR (nxB zs ys) zs (nm zs i) k:Nat):Int))),some (.v (.int ((ixS zs (itr (nxB zs ys) (k + 1) (nm zs i)):Nat):Int))),s6]∧m'=m) _ 0 _ _ ⟨s6,?_,rfl⟩ (fun k x env m' N' ex' hI hN'=>?_) (fun env m' hI=>?_)
   · show _=[_,_,_,_,some (Slot.v (.int ((ixS zs (nm zs i):Nat):Int))),_,_];rw [ib];rfl
   · obtain⟨hk,rfl⟩:=a1d ex';obtain⟨s6,rfl,rfl⟩:=hI;rw [Nat.zero_add] at hN' ⊢;have hz:=P.mem hb (k + 1);have haz:=hat _ hz;walk_at "pu";rw [haz];refine⟨⟨_,rfl⟩,hix _ (P.st _ hz) (hN' _ _ ⟨some (.v (.int (0 + (k:Int)))),?_,rfl⟩)⟩
     have e:(if((ixS zs (itr (nxB zs ys) (k + 1) (nm zs i)):Nat):Int) < ((mnR (nxB zs ys) zs (nm zs i) k:Nat):Int) then((ixS zs (itr (nxB zs ys) (k + 1) (nm zs i)):Nat):Int) else((mnR (nxB zs ys) zs (nm zs i) k:Nat):Int))=((mnR (nxB zs ys) zs (nm zs i) (k + 1):Nat):Int):=by
       show _=((min (mnR (nxB zs ys) zs (nm zs i) k) (ixS zs (itr (nxB zs ys) (k + 1) (nm zs i))):Nat):Int)
       split <;> omega
     rw [e];rfl
   · obtain⟨s6,rfl,rfl⟩:=hI;rw [a1c,Nat.zero_add,show(↑Z.length:Int).toNat=zs.length by omega];walk_at "pu";refine hN _ _ ⟨some (.v (.int (i:Int))),some (.v (.int ((mnR (nxB zs ys) zs (nm zs i) zs.length:Nat):Int))),some (.v (.int ((ixS zs (itr (nxB zs ys) (zs.length + 1) (nm zs i)):Nat):Int))),s6,?_,rfl⟩
     have e:(C.length:Int) + (if decide (((mnR (nxB zs ys) zs (nm zs i) zs.length:Nat):Int)=(i:Int))=true then 1 else 0)=((C++if cOf (nxB zs ys) zs (nm zs i)=i then [nm zs i] else []).length:Nat):=by
       have ec:cOf (nxB zs ys) zs (nm zs i)=mnR (nxB zs ys) zs (nm zs i) zs.length:=rfl;rw [ec,List.length_append]
       by_cases c:mnR (nxB zs ys) zs (nm zs i) zs.length=i
       · rw [if_pos (decide_eq_true (by omega)),if_pos c];rfl
       · rw [if_neg (by simp;omega),if_neg c];rfl
     rw [e]
 · obtain⟨s3,s4,s5,s6,rfl,rfl⟩:=hI;rw [a1c,Nat.zero_add,show(↑Z.length:Int).toNat=zs.length by omega,List.take_length];walk_at "pu";exact h
abbrev bk (zs:List Str):List Key:=zs.map Sum.inr
theorem a4v {z:Str}{zs:List Str}:memS (bk zs) (.inr z)=decide (z∈zs):=by
 unfold memS bk;rw [Bool.eq_iff_iff,List.any_eq_true,decide_eq_true_iff];constructor
 · rintro⟨k,hk,e⟩;obtain⟨y,hy,rfl⟩:=List.mem_map.mp hk;have:y=z:=by simpa using e
   rw [← this];exact hy
 · intro h;exact⟨.inr z,List.mem_map.mpr ⟨z,h,rfl⟩,by simp⟩
theorem a8V {zs ys:List Str}{f:Str→Str}{n:Nat}{D:a2x}{a3 a4:Option Pu.Slot}(P:Prm f zs)(hl:zs.length≤24)
   (hstep:∀z∈zs,∀{R:PV→Prop},R (.str (f z))→a1B (.tup (zs.map PV.str)) (.str z) fun w=>wIx (.tup (ys.map PV.str)) w R):∀(u:Nat) (se:List Str) (at_:Str),se.Nodup→(∀z∈se,z∈zs)→at_∈zs→zs.length - se.length≤u→
   (∀(se':List Str) (at':Str),se'.Nodup→(∀z∈se',z∈zs)→(∀z∈se,z∈se')→(∀z∈se',z∈se∨(z∈se'∧Rch f at_ z∧f z∈se'))→at_∈se'→D.nx [some (.v (.tup (zs.map PV.str))),some (.v (.tup (ys.map PV.str))),some (.ow (.st (bk se')) []),a3,a4,some (.v (.str at'))] n)→
   a1p (qB (qInS true 2 (qV 5))) (qSeq (a2Y (a4T 2 (qV 5))) (qSet 5 (qOp wIx (qV 1) (a1f (qV 0) (qV 5))))) D (u + 1) [some (.v (.tup (zs.map PV.str))),some (.v (.tup (ys.map PV.str))),some (.ow (.st (bk se)) []),a3,a4,some (.v (.str at_))] n:=by
 intro u
 induction u with
 | zero =>
   intro se at_ nd sub ha hu h
   have full:at_∈se:=by
     have h1:=nd.length_le_of_subset sub;have h2:zs.length≤se.length:=by omega
     apply Classical.byContradiction
     intro no;have:=(List.nodup_cons.mpr ⟨no,nd⟩).length_le_of_subset fun z hz=>(List.mem_cons.mp hz).elim (fun e=>e▸ha) (sub z);rw [List.length_cons] at this;omega
   have:=h se at_ nd sub (fun z hz=>hz) (fun z hz=>.inl hz) full;generalize hZ:zs.map PV.str=Z at *;generalize hY:ys.map PV.str=Y at *;have eb:memS (bk se) (.inr at_)=true:=by rw [a4v];exact decide_eq_true full
   generalize bk se=B at *;simp only [a1p];walk_at "pu";rw [eb];exact this
 | succ u ih =>
   intro se at_ nd sub ha hu h
   by_cases c:at_∈se
   · have:=h se at_ nd sub (fun z hz=>hz) (fun z hz=>.inl hz) c;generalize hZ:zs.map PV.str=Z at *;generalize hY:ys.map PV.str=Y at *;have eb:memS (bk se) (.inr at_)=true:=by rw [a4v];exact decide_eq_true c
     generalize bk se=B at *;rw [a1p];walk_at "pu";rw [eb];exact this
   · have eb:memS (bk se) (.inr at_)=false:=by rw [a4v];exact decide_eq_false c
     have sl:=nd.length_le_of_subset sub;have bl:(bk se).length=se.length:=List.length_map ..;have nx:=ih (se++[at_]) (f at_) (List.nodup_append.mpr ⟨nd,by simp,fun a h1 b h2 e=>c (by rw [← List.mem_singleton.mp h2,← e];exact h1)⟩) (fun z hz=>(List.mem_append.mp hz).elim (sub z) fun z'=>by rw [List.mem_singleton.mp z'];exact ha) (P.st _ ha) (by rw [List.length_append,List.length_singleton];omega) fun se' at' s1 s2 s3 s4 s5=>h se' at' s1 s2 (fun z hz=>s3 z (List.mem_append_left _ hz)) (fun z hz=>?_) (s3 at_ (by simp))
     · have e2:bk (se++[at_])=bk se++[.inr at_]:=List.map_append;rw [e2] at nx;have hst:=fun {R:PV→Prop}=>@hstep at_ ha R;generalize hZ:zs.map PV.str=Z at *;generalize hY:ys.map PV.str=Y at *;generalize bk se=B at *;rw [a1p];walk_at "pu";rw [eb];simp only [Bool.false_eq_true,if_false,Bool.not_false,if_true];have q:=hst (R:=fun v=>a1p (qB (qInS true 2 (qV 5))) (qSeq (a2Y (a4T 2 (qV 5))) (qSet 5 (qOp wIx (qV 1) (a1f (qV 0) (qV 5))))) D (u + 1) [some (.v (.tup Z)),some (.v (.tup Y)),some (.ow (.st (B++[Sum.inr at_])) []),a3,a4,some (.v v)] n) nx;simp only [wIx] at q;exact⟨⟨_,_,rfl⟩,by omega,⟨_,rfl⟩,q⟩
     · rcases s4 z hz with s | ⟨_,s6,s7⟩
       · rcases List.mem_append.mp s with s | s
         · exact .inl s
         · rw [List.mem_singleton.mp s];exact .inr ⟨s3 at_ (by simp),⟨0,rfl⟩,s5⟩
       · exact .inr ⟨hz,Rch.trans ⟨1,rfl⟩ s6,s7⟩
theorem a1z {zs ys:List Str}{n:Nat}{R:PV→Nat→Prop}(nd:zs.Nodup)(h2:zs.length≤24)(pm:ys.Perm zs)(c:Str→Nat)(hc:∀x∈zs,∀y∈zs,Rch (nxB zs ys) x y↔c x=c y)(h:R (.int ((ddN (zs.map c)).length:Nat)) n):a0A [rowP zs,rowP ys] n R:=by
 refine⟨rfl,?_⟩;unfold a1x;have ly:=pm.length_eq;have P:=a1T nd pm
 have hstep:∀z∈zs,∀{R:PV→Prop},R (.str (nxB zs ys z))→a1B (.tup (zs.map PV.str)) (.str z) fun w=>wIx (.tup (ys.map PV.str)) w R:=fun z hz {R} q=>m_ix rfl hz (by omega) (by
   show match atI (ys.map PV.str) ((ixS zs z:Nat):Int) with | some z=>R z | none=>False
   rw [a7B rfl (show ixS zs z < ys.length by rw [ly];exact a1U hz)]
   exact q)
 have hr0:rowP zs=.tup (zs.map PV.str):=rfl;have hr1:rowP ys=.tup (ys.map PV.str):=rfl;have mw:=fun(D:a2x) (a3 a4:Option Pu.Slot)=>@a8V zs ys (nxB zs ys) n D a3 a4 P h2 hstep;have hmem:∀i z,(zs.map PV.str)[i]?=some z→∃b,zs[i]?=some b∧z=PV.str b:=fun i z hz=>a6j (f:=PV.str) hz;have Zl:(zs.map PV.str).length=zs.length:=List.length_map ..;rw [hr0,hr1];generalize hZ:zs.map PV.str=Z at *;generalize hY:ys.map PV.str=Y at *;walk_at "pu";refine a0C (fun i env m=>∃s4 s5,∃se:List Str,env=[some (.v (.tup Z)),some (.v (.tup Y)),some (.ow (.st (bk se)) []),some (.v (.int ((ddN ((zs.take i).map c)).length:Nat))),s4,s5]∧se.Nodup∧(∀z∈se,z∈zs)∧(∀z∈se,nxB zs ys z∈se)∧(∀z∈se,∃x∈zs.take i,Rch (nxB zs ys) x z)∧(∀x∈zs.take i,x∈se)∧m=n) _ 0 _ _ ⟨none,none,[],rfl,List.nodup_nil,(fun _ z=>by cases z),(fun _ z=>by cases z),(fun _ z=>by cases z),(fun _ z=>by simp at z),rfl⟩ (fun i x env m N ex hI hN=>?_) (fun env m hI=>?_)
 · obtain⟨b,eb,rfl⟩:=hmem i x ex;obtain⟨s4,s5,se,rfl,s1,s2,s3,s6,s7,rfl⟩:=hI;rw [Nat.zero_add] at s6 s7 hN ⊢;have hb:=List.mem_of_getElem? eb;have tk:=a2I eb
   have cl:∀x∈se,∀k,itr (nxB zs ys) k x∈se:=fun x hx k=>by
     induction k with
     | zero=>exact hx
     | succ k ih=>exact s3 _ ih
   have seen:b∈se↔c b∈ddN ((zs.take i).map c):=by
     rw [(a4H _).2,List.mem_map];constructor
     · intro hb';obtain⟨x,hx,r⟩:=s6 b hb';exact⟨x,hx,(hc x (List.mem_of_mem_take hx) b hb).mp r⟩
     · rintro⟨x,hx,e⟩;obtain⟨k,rfl⟩:=(hc x (List.mem_of_mem_take hx) b hb).mpr e;exact cl x (s7 x hx) k
   have cnt:(ddN ((zs.take (i + 1)).map c)).length=(ddN ((zs.take i).map c)).length + if b∈se then 0 else 1:=by
     rw [tk,List.map_append];show(ddN ((zs.take i).map c++[c b])).length=_;rw [a6E]
     by_cases cb:b∈se
     · rw [if_pos (seen.mp cb),if_pos cb];rfl
     · rw [if_neg (fun z=>cb (seen.mpr z)),if_neg cb,List.length_append];rfl
   have goal:∀(D:a2x),D.nx=N→∀(many:Nat),many=(ddN ((zs.take (i + 1)).map c)).length→a5H (qB (qInS true 2 (qV 5))) (qSeq (a2Y (a4T 2 (qV 5))) (qSet 5 (qOp wIx (qV 1) (a1f (qV 0) (qV 5))))) D [some (.v (.tup Z)),some (.v (.tup Y)),some (.ow (.st (bk se)) []),some (.v (.int (many:Int))),some (.v (.str b)),some (.v (.str b))] m:=fun D hD many em=>by
     subst hD;refine⟨_,mw _ _ _ (zs.length - se.length) se b s1 s2 hb (Nat.le_refl _) fun se' at' t1 t2 t3 t4 t5=>hN _ _ ⟨some (.v (.str b)),some (.v (.str at')),se',by rw [em],t1,t2,fun z hz=>?_,fun z hz=>?_,fun x hx=>?_,rfl⟩⟩
     · rcases t4 z hz with z' | ⟨_,_,z'⟩
       · exact t3 _ (s3 z z')
       · exact z'
     · rw [tk];rcases t4 z hz with z' | ⟨_,z',_⟩
       · obtain⟨x,hx,r⟩:=s6 z z';exact⟨x,List.mem_append_left _ hx,r⟩
       · exact⟨b,by simp,z'⟩
     · rw [tk] at hx;rcases List.mem_append.mp hx with hx | hx
       · exact t3 x (s7 x hx)
       · rw [List.mem_singleton.mp hx];exact t5
   have em:memS (bk se) (.inr b)=decide (b∈se):=a4v;generalize hD:ddN ((zs.take i).map c)=dd at *;generalize hB:bk se=B at *;walk_at "pu";rw [em]
   by_cases cb:b∈se
   · rw [if_pos cb] at cnt;exact if_f (by rw [decide_eq_true cb];rfl) (goal _ rfl dd.length (by omega))
   · rw [if_neg cb] at cnt;refine if_t (by rw [decide_eq_false cb];rfl) ?_;have:=goal { nx:=N,rt:=R,bk:=fun e m=>match e[3]? with | some (some (Slot.v x))=>R x m | x=>False,ct:=N } rfl (dd.length + 1) (by omega);rw [show((dd.length + 1:Nat):Int)=(dd.length:Int) + 1 by omega] at this;exact this
 · obtain⟨s4,s5,se,rfl,s1,s2,s3,s6,s7,rfl⟩:=hI;rw [Zl,Nat.zero_add,List.take_length];generalize bk se=B;walk_at "pu";exact h
theorem a7V (m:Nat):∀l:List Nat,l.length≤m→inv l≤m * l.length
 | [],_=>Nat.zero_le _
 | a :: l, h => by
   have ih:=a7V m l (by rw [List.length_cons] at h;omega);have:=List.length_filter_le (fun b=>decide (b < a)) l;rw [List.length_cons] at h ⊢;show(l.filter fun b=>decide (b < a)).length + inv l≤m * (l.length + 1);rw [Nat.mul_succ];omega
def Lot (p:List Str×List Str):Prop:=p.1.Nodup∧1≤p.1.length∧p.1.length≤24∧p.2.Perm p.1
def lotP:List Str×List Str→PV:=fun p=>.tup [rowP p.1,rowP p.2]
def numA (p:List Str×List Str):Nat:=inv (p.1.map (ixS p.2))
def numR (p:List Str×List Str):Nat:=(ddN (p.1.map (cOf (nxB p.1 p.2) p.1))).length
def numP (p:List Str×List Str):PV:=.lst [.int (numA p),.int (numR p),.int (numA p),.int (numR p)]
theorem a6g {p:List Str×List Str}(h:Lot p):(p.1.filter fun b=>decide (cOf (nxB p.1 p.2) p.1 b=ixS p.1 b)).length=numR p:=a6n (a1T h.1 h.2.2.2) h.1
theorem num_le {p:List Str×List Str}(h:Lot p):numA p≤576∧numR p≤24:=by
 obtain⟨nd,h1,h2,pm⟩:=h;constructor
 · have:=a7V 24 (p.1.map (ixS p.2)) (by rw [List.length_map];exact h2);rw [List.length_map] at this;unfold numA;omega
 · rw [← a6g ⟨nd,h1,h2,pm⟩];exact Nat.le_trans (List.length_filter_le _ _) h2
theorem a6l {p:List Str×List Str}(h:Lot p){n:Nat}{R:PV→Nat→Prop}(q:R (numP p) n):a0H [rowP p.1,rowP p.2] n R:=by
 obtain⟨zs,ys⟩:=p;obtain⟨nd,h1,h2,pm⟩:=h;dsimp only at *;have ly:=pm.length_eq;have nd':ys.Nodup:=pm.nodup_iff.mpr nd;refine⟨rfl,?_⟩;unfold a0R;have e1:inv (ys.map (ixS zs))=numA (zs,ys):=a9b nd pm;have e2:(ddN (ys.map (cOf (nxB zs ys) zs))).length=numR (zs,ys):=a8d fun v=>(pm.map _).mem_iff;walk_at "pu";refine a1O h2 pm (a1z nd h2 pm (cOf (nxB zs ys) zs) (fun x hx y hy=>a9k (a1T nd pm) hx hy) (a1O (by omega) pm.symm (a1z nd' (by omega) pm.symm (cOf (nxB zs ys) zs) (fun x hx y hy=>?_) ?_)))
 · have hx':=pm.mem_iff.mp hx;have hy':=pm.mem_iff.mp hy;rw [a6X nd pm hx' hy'];exact a9k (a1T nd pm) hx' hy'
 · rw [e1,e2];exact q
theorem a7l {L:List (List Str×List Str)}(h:∀p∈L,Lot p)(hl:L.length≤8):Show 2 2500 (.lst (L.map numP)):=by
 refine(Show.lst (d:=1) (c:=260) (l:=8) (fun x hx=>?_) (by rw [List.length_map];exact hl)).le (Nat.le_refl _) (by decide);obtain⟨p,hp,rfl⟩:=List.mem_map.mp hx;obtain⟨a,b⟩:=num_le (h p hp);refine(Show.lst (d:=0) (c:=61) (l:=4) (fun y hy=>?_) (by simp)).le (Nat.le_refl _) (by decide);simp only [List.mem_cons,List.not_mem_nil,or_false] at hy;rcases hy with rfl | rfl | rfl | rfl <;> exact a7u (by omega)
theorem a6W {ys:List Str}(nd:ys.Nodup){x y:Str}(hx:x∈ys)(hy:y∈ys):Rch (nxB ys ys) x y↔ixS ys x=ixS ys y:=by
 have one:nxB ys ys x=x:=by
   have h1:=(a1b hx).1;rw [a2u (a1U hx)] at h1;exact Option.some.inj h1
 have all:∀k,itr (nxB ys ys) k x=x:=fun k=>by
   induction k with
   | zero=>rfl
   | succ k ih =>
     show nxB ys ys (itr (nxB ys ys) k x)=x;rw [ih,one]
 constructor
 · rintro⟨k,rfl⟩;rw [all]
 · intro e;exact⟨0,a2k hx hy e⟩
theorem m_law (ns:List Int)(hl:ns.length≤63):a7j ⟨fun _ _=>False,fun r _=>r=.bl true,fun _ _=>False,fun _ _=>False⟩ (a1E ["_law_script","_law_lots","_law_k","_law_pot","_law_row","_law_due","_law_told"] [.scr ns]) 0:=by
 unfold a7j;walk_at "pu";generalize hk:(if(if((ns.length:Nat):Int) < 8 then((ns.length:Nat):Int) else 8) > 2 then(if((ns.length:Nat):Int) < 8 then((ns.length:Nat):Int) else 8) else 2)=k;have hk2:2≤k∧k≤8:=by rw [← hk];repeat' split <;> omega
 refine⟨⟨by omega,by omega⟩,?_⟩;refine a0C (fun i env m=>∃s2 s3 s4,∃L:List (List Str×List Str),env=[some (.v (.scr ns)),some (.own (L.map lotP)),s2,s3,s4,none,none]∧L.length=i∧(∀p∈L,Lot p)∧m≤2000 * i) _ 0 _ _ ⟨none,none,none,[],rfl,rfl,(fun _ z=>nomatch z),by omega⟩ (fun i x env m N ex hI hN=>?_) (fun env m hI=>?_)
 · obtain⟨s2,s3,s4,L,rfl,hi,hy,hm⟩:=hI;obtain⟨hj,rfl⟩:=a1d ex;rw [Nat.zero_add] at hi hm hN;generalize hF:L.map lotP=FF;have Fl:FF.length=L.length:=by rw [← hF,List.length_map]
   walk_at "pu";refine⟨⟨hl,by omega,by omega⟩,fun q=>⟨by omega,fun d d0 d1=>?_⟩⟩;obtain⟨x,hx,ex⟩:=a3h (xs:=[PV.int 1,PV.int 2,PV.int 3,PV.int 5,PV.int 8,PV.int 24]) d0 d1
   have hx':∃t:Int,x=.int t∧1≤t∧t≤24:=by
     simp only [List.mem_cons,List.not_mem_nil,or_false] at hx;rcases hx with rfl | rfl | rfl | rfl | rfl | rfl <;> exact⟨_,rfl,by decide,by decide⟩
   obtain⟨t,rfl,t0,t1⟩:=hx';rw [ex];refine a8W t0 t1 (by omega) fun zs n1 hz nd hn1=>⟨⟨_,rfl⟩,m_goal (by omega) (by omega) (by omega) fun ys n2 pm hn2=>⟨by omega,hN _ _ ⟨some (.v (.int (0 + i))),some (.v (.pot q)),some (.v (rowP zs)),L++[(zs,ys)],?_,by rw [List.length_append,hi];rfl,fun p hp=>?_,by omega⟩⟩⟩
   · rw [List.map_append,hF];rfl
   · rcases List.mem_append.mp hp with hp | hp
     · exact hy p hp
     · rw [List.mem_singleton.mp hp];exact⟨nd,by dsimp only;omega,by dsimp only;omega,pm⟩
 · obtain⟨s2,s3,s4,L,rfl,hi,hy,hm⟩:=hI;generalize hF:L.map lotP=FF;walk_at "pu";rw [Nat.zero_add,a1c] at hi;have Fl:FF.length=L.length:=by rw [← hF,List.length_map]
   have Lm:(L.map lotP).length≤1000000:=by rw [hF];omega
   rw [← hF];refine⟨Lm,a1o (fun p=>rowP p.1) (fun p=>rowP p.2) numP L none none m _ (fun p hp m' Q hQ=>?_) ⟨Lm,a1o (fun p=>rowP p.1) (fun p=>rowP p.2) numP L none none m _ (fun p hp m' Q hQ=>?_) ?_⟩⟩
   · obtain⟨zs,ys⟩:=p;obtain⟨nd,h1,h2,pm⟩:=hy _ hp;dsimp only at *;generalize hA:rowP zs=A at *;generalize hB:rowP ys=B at *;walk_at "pu";rw [← hA,← hB];refine a8X h2 pm (a7q nd h2 pm ?_);rw [a6g (p:=(zs,ys)) ⟨nd,h1,h2,pm⟩];subst hA hB;exact hQ
   · have:=a6l (R:=fun r n=>Q r [some (Slot.v (rowP p.1)),some (Slot.v (rowP p.2))] n) (hy p hp) hQ;generalize hA:rowP p.1=A at *;generalize hB:rowP p.2=B at *;walk_at "pu";exact this
   · have sh:=a7l hy (by omega);generalize hN:L.map numP=NN at *;refine a2j sh.sh (Nat.le_trans sh.de (by decide)) (Nat.le_trans sh.co (by decide)) (a2j sh.sh (Nat.le_trans sh.de (by decide)) (Nat.le_trans sh.co (by decide)) ⟨rfl,rfl,?_⟩);refine if_f ?_ ⟨Lm,a1o (fun p=>rowP p.1) (fun p=>rowP p.2) (fun _=>.bl true) L none none m _ (fun p hp m' Q hQ=>?_) ?_⟩
     · rw [a3f _ rfl];rfl
     · obtain⟨zs,ys⟩:=p;obtain⟨nd,h1,h2,pm⟩:=hy _ hp;dsimp only at *;have ly:=pm.length_eq;have nd':ys.Nodup:=pm.nodup_iff.mpr nd;have hr0:rowP zs=.tup (zs.map PV.str):=rfl;rw [hr0] at hQ;have ap:=fun R q=>@a1O zs zs m' R h2 (.refl _) q;have ro:=fun R q=>@a1z ys ys m' R nd' (by omega) (.refl _) (ixS ys) (fun x hx y hy=>a6W nd' hx hy) q;rw [inv_id nd] at ap;rw [a4G (a1J _ nd' fun a ha b hb z=>a2k ha hb z),List.length_map,ly] at ro;rw [hr0] at *;generalize hB:rowP ys=B at *;generalize hZ:zs.map PV.str=Z at *;have Zl:Z.length=zs.length:=by rw [← hZ,List.length_map]
       walk_at "pu";refine ap _ ⟨rfl,if_t rfl (ro _ ⟨rfl,?_⟩)⟩;rw [Zl,a3f _ rfl];exact hQ
     · rw [a4Q];dsimp only;rw [a7C]
end Tb
end
section
set_option maxHeartbeats 4000000
namespace L2
open PySem PySem.Spec PyProof.Rows
theorem a6a {X:Cx}:OpR X (binaryOp .Mult) (rI IntMulOk fun i j=>.int (i * j)):=opI fun _ _ _ _ _ _ _ hc q=>mul_int q hc
end L2
namespace Tb
open PySem L2 Pu
section
variable {P:Program}{w:World}{K:PySem.W.Frag}{mg:Str→Option Value}{base:Heap}
theorem a7k (F:Fn0 K mg "_law_begin" (top 4))(m_len:mg "len"=none)(m_abs:mg "abs"=none)(m_int:mg "int"=none):Kn P w K mg base "_law_begin" 1 ["_law_script","_law_k"] (Pu.a4j K):=by
 have sc:a0y ["_law_script","_law_k","_law_cell","_law_seed","_law_one"] ["_law_script","_law_k"] (a0h (top 4)):=⟨rfl,rfl,rfl,by decide +kernel,rfl,by decide +kernel,by decide +kernel⟩;refine F.ok sc (fun vs H Q E h=>?_) (fun _ _ _ _ _ _ us hl=>match us,hl with | [_,_],_=>rfl) (fun f cdv A outer s H vs Q E hr h=>?_)
 · obtain⟨a,ns,k,rfl,_⟩:=h
   rfl
 obtain⟨a,ns,k,rfl,hS,hl63,h0,h1,q⟩:=h
 refine⟨_,(a0B (a1S (i:=2) sc.nd rfl (Or.inl rfl) (a7g (a2Z op_lt (pv 1) (a1n a1W rfl m_len a8e (a0l (pv 0) a0z)) (a1u _)) (a3w a1i (pv 0) (pv 1) (fun _ _=>rfl)) a0n))
     (a0B (a1S (i:=3) sc.nd rfl (Or.inl rfl) (a0v a1t a0n (a0v a1G a0n (pv 1))))
     (a0B (a7O PassesOwn.never rfl (a5Q (a4s a5p (pv 0) a5N (a5M a0n))) (a5T (i:=4) sc.nd rfl (Or.inl rfl)) (a2h (a1S (i:=3) sc.nd rfl (Or.inl rfl) (a0v a1H (a0v a1t (a0v a1t (a0v a1G (pv 3) a0n) (a0v a1H (pv 4) a0n)) a0n) a0n))))
     (a2h (a4r (a7S (a0l (a0v a6a (a0v a1H (a1n a4K rfl m_abs a8g (a0l (pv 2) a0z)) (a0v a6a (a0v a5X a0n a0n) (a0v a5X a0n a0n))) (a2i a3J rfl m_int a8f (a0l (a5V op_ge (a1n a4K rfl m_abs a8g (a0l (pv 2) a0z)) (a0v a5X a0n a0n) (a1u _)) a0z))) (a0l (pv 3) (a0l a0n a0z))))))))),?_⟩
 refine a8m (fun v=>∃c:Int,v=.int c) (fun key=>?_) ?_
 · refine⟨_,rfl,_,rfl,a,_,rfl,.inl hS,_,_,rfl,rfl,_,rfl,?_⟩;refine ite2 (fun c=>?_) (fun c=>?_)
   · have c':k < (((ns.map V.int).length:Nat):Int):=of_decide_eq_true c;rw [List.length_map] at c';obtain⟨v,qa⟩:=at_map (ns:=ns) h0 c';exact⟨_,rfl,_,rfl,a,_,_,_,rfl,rfl,hS,qa,key _ ⟨_,rfl⟩⟩
   · exact key _ ⟨0,rfl⟩
 rintro v ⟨c,rfl⟩;refine⟨_,rfl,_,_,rfl,rfl,.inl ⟨by decide,by decide⟩,_,_,rfl,rfl,?_⟩;dsimp only [a1K];have hk':0≤7919 + 104729 * k∧7919 + 104729 * k < 2305843009213693951:=by omega
 generalize 7919 + 104729 * k=sd0 at hk' ⊢;refine⟨_,rfl,63,rfl,a,_,rfl,hS,fun p0 hp0=>?_⟩;have sm0:Same H (upd H p0 (.lst (cutV (ns.map V.int) none (some 63)))):=Same.lay1 hp0
 have cut:cutV (ns.map V.int) none (some 63)=ns.map V.int:=by
   unfold cutV;rw [HT.sIx_none,show(some (63:Int))=some ((63:Nat):Int) from rfl,HT.sIx_nat,List.drop_zero,List.length_map,Nat.min_eq_right hl63];exact List.take_of_length_le (by rw [List.length_map];omega)
 rw [cut] at sm0 ⊢;refine⟨p0,rfl,⟨_,SqL.of a0i⟩,?_⟩;refine a7x (xs:=ns.map V.int) (fun i σ H'=>∃sd s4,σ=[some (.ref a),some (.int k),some (.int c),some (.int sd),s4]∧(0≤sd∧sd < 2305843009213693951)∧H'=upd H p0 (.lst (ns.map V.int))) ⟨sd0,none,rfl,hk',rfl⟩ (fun i σ H' _ h=>?_) (fun i x σ H' ex h=>?_) (fun σ H' h=>?_)
 · obtain⟨sd,s4,rfl,_,rfl⟩:=h;exact SqL.of a0i
 · obtain⟨sd,s4,rfl,hsd,rfl⟩:=h
   obtain⟨y,ey,rfl⟩:∃y:Int,ns[i]?=some y∧V.int y=x:=by
     rw [List.getElem?_map] at ex;cases en:ns[i]? with
     | none=>rw [en] at ex;cases ex
     | some y=>rw [en] at ex;cases ex;exact⟨y,rfl,rfl⟩
   refine⟨_,rfl,_,_,rfl,rfl,.inl ⟨by omega,by omega⟩,_,rfl,_,_,rfl,rfl,(by show(0:Int) < 2147483647;decide),_,_,rfl,rfl,_,_,rfl,rfl,_,_,rfl,rfl,(by show(0:Int) < 2305843009213693951;decide),?_⟩;exact⟨_,_,rfl,⟨Int.emod_nonneg _ (by decide),Int.emod_lt_of_pos _ (by decide)⟩,rfl⟩
 · obtain⟨sd,s4,rfl,hsd,rfl⟩:=h;refine⟨_,rfl,_,rfl,_,_,rfl,rfl,⟨by decide,by decide,by decide⟩,_,_,rfl,rfl,⟨by decide,by decide,by decide⟩,_,_,rfl,rfl,(by show IntMulOk (10 ^ Int.toNat 60) (10 ^ Int.toNat 60);unfold IntMulOk;decide +kernel),_,_,rfl,rfl,(by show(0:Int) < 10 ^ Int.toNat 60 * 10 ^ Int.toNat 60;decide +kernel),?_⟩;have m0:0≤(if c < 0 then -c else c) % (10 ^ Int.toNat 60 * 10 ^ Int.toNat 60):=Int.emod_nonneg _ (by decide +kernel);refine⟨_,rfl,_,rfl,_,_,rfl,rfl,⟨by decide,by decide,by decide⟩,_,_,rfl,rfl,?_⟩;refine .inr ⟨_,rfl,?_⟩;generalize hb:(decide ((10:Int) ^ Int.toNat 18≤(if c < 0 then -c else c)))=b;have hz:0≤(if b=true then(1:Int) else 0)∧(if b=true then(1:Int) else 0) < 2 ^ 64:=by cases b <;> decide
   refine⟨_,_,rfl,rfl,?_⟩;generalize (if b=true then(1:Int) else 0)=z at hz ⊢;refine⟨(show CMul _ z from .inr ⟨by omega,hz.2⟩).ok,_,rfl,(by show 3≤sizeLine;decide),fun p hp=>?_⟩;exact q _ sm0 p _ _ hp ⟨Int.mul_nonneg m0 hz.1,by omega,by omega,by decide,by decide⟩
theorem a8O (F:Fn0 K mg "_law_take" (top 5)):Kn P w K mg base "_law_take" 1 ["_law_pot","_law_many"] (a0w K potL a3O):=by
 refine a6C ?_;have sc:a0y ["_law_pot","_law_many","_law_digit","_law_turn","_law_mixed"] ["_law_pot","_law_many"] (a0h (top 5)):=⟨rfl,rfl,rfl,by decide +kernel,rfl,by decide +kernel,by decide +kernel⟩;refine F.ok sc (fun vs H Q E h=>?_) (fun _ _ _ _ _ _ us hl=>match us,hl with | [_,_],_=>rfl) (fun f cdv A outer s H vs Q E hr h=>?_)
 · obtain⟨p,own,seed,go,many,rfl,_⟩:=h
   rfl
 obtain⟨p,own,seed,go,many,rfl,hp,⟨o0,s0,s1,g0,g1⟩,g2,n0,n1,q⟩:=h
 refine⟨_,(a0B (ps_if (a2Z op_gt (a3w a1i (pv 0) a0n (fun _ _=>rfl)) a0n (a1u _)) (a0B (a1S (i:=2) sc.nd rfl (Or.inl rfl) (a0v a1H (a3w a1i (pv 0) a0n (fun _ _=>rfl)) (pv 1)))
     (a0B (a5K (a0v a3V (a3w a1i (pv 0) a0n (fun _ _=>rfl)) (pv 1)) (a5S (pv 0) a0n a2M))
     (a2h (a4r (pv 2))))) a5J)
     (a0B (a5K (a0v a1t (a3w a1i (pv 0) a0n (fun _ _=>rfl)) a0n) (a5S (pv 0) a0n a2M))
     (a0B (a1S (i:=3) sc.nd rfl (Or.inl rfl) (a3w a1i (pv 0) a0n (fun _ _=>rfl)))
     (a0B (a1S (i:=4) sc.nd rfl (Or.inl rfl) (a0v a1H (a0v a1G (a0v a1t (a0v a1t (a3w a1i (pv 0) a0n (fun _ _=>rfl)) (a0v a1G (a0v a1G a0n (pv 3)) (pv 3))) (a0v a1G a0n (pv 3))) a0n) a0n))
     (a0B (a1S (i:=4) sc.nd rfl (Or.inl rfl) (a0v a1H (a0v a1G (pv 4) (a0v a1t (a0v a1t (a0v a1H (pv 4) a0n) (a0v a1G a0n (pv 3))) a0n)) a0n))
     (a2h (a4r (a0v a1H (a0v a1t (a0v a3V (pv 4) a0n) (a0v a3V (pv 4) a0n)) (pv 1))))))))),?_⟩
 refine⟨_,rfl,p,_,0,_,rfl,rfl,SqL.of hp,rfl,_,_,rfl,rfl,_,rfl,?_⟩;refine ite2 (fun c=>?_) (fun c=>?_)
 · refine⟨_,rfl,p,_,0,_,rfl,rfl,SqL.of hp,rfl,_,rfl,_,_,rfl,rfl,n0,?_⟩;refine⟨_,rfl,p,_,0,_,rfl,rfl,SqL.of hp,rfl,_,rfl,_,_,rfl,rfl,⟨n0,by omega⟩,?_⟩;refine⟨_,rfl,p,_,0,0,rfl,rfl,hp,rfl,?_⟩;refine⟨_,rfl,?_⟩;exact q _ _ _ _ (Int.emod_nonneg _ (by omega)) (Int.emod_lt_of_pos _ n0) ⟨Int.ediv_nonneg o0 (by omega),s0,s1,g0,g1⟩ (by omega)
 · refine⟨_,rfl,p,_,2,_,rfl,rfl,SqL.of hp,rfl,_,_,rfl,rfl,?_⟩;refine⟨_,rfl,p,_,2,2,rfl,rfl,hp,rfl,?_⟩;refine⟨_,rfl,p,_,2,_,rfl,rfl,SqL.of a0i,rfl,?_⟩;refine⟨_,rfl,p,_,1,_,rfl,rfl,SqL.of a0i,rfl,_,rfl,_,_,rfl,rfl,.inl ⟨by decide,by decide⟩,_,rfl,_,_,rfl,rfl,.inr ⟨by omega,by omega⟩,_,_,rfl,rfl,?_⟩;refine⟨_,rfl,_,_,rfl,rfl,.inl ⟨by decide,by decide⟩,_,_,rfl,rfl,_,_,rfl,rfl,.inr ⟨by decide,by decide⟩,_,_,rfl,rfl,(by show(0:Int) < 2305843009213693921;decide),?_⟩;dsimp only [a1K];generalize (seed + 65537 * (go + 1) * (go + 1) + 15485863 * (go + 1)) * 48271=y;have m0:=Int.emod_nonneg y (show(2305843009213693921:Int)≠0 by decide);have m1:=Int.emod_lt_of_pos y (show(0:Int) < 2305843009213693921 by decide);generalize y % 2305843009213693921=z at m0 m1 ⊢;refine⟨_,rfl,_,rfl,_,_,rfl,rfl,(by show(0:Int) < 1000003;decide),_,rfl,_,_,rfl,rfl,.inl ⟨by decide,by decide⟩,_,_,rfl,rfl,_,_,rfl,rfl,_,_,rfl,rfl,.inl ⟨by omega,by omega⟩,_,_,rfl,rfl,(by show(0:Int) < 2305843009213693907;decide),?_⟩;refine⟨_,rfl,_,_,rfl,rfl,⟨by decide,by decide⟩,_,rfl,_,_,rfl,rfl,⟨by decide,by decide⟩,_,_,rfl,rfl,_,rfl,_,_,rfl,rfl,n0,?_⟩;exact q _ _ _ _ (Int.emod_nonneg _ (by omega)) (Int.emod_lt_of_pos _ n0) ⟨o0,s0,s1,by omega,by omega⟩ (by omega)
end
end Tb
end
section
open PySem PySem.W PyProof.Rows
set_option maxRecDepth 100000 in
set_option maxHeartbeats 0 in
theorem PySem.Challenge.cw_touchboats_k44_apart_and_rounds_holds : PySem.Challenge.rw_touchboats_k44_apart_and_rounds.Holds := by
 w_on;o_law;k_head;(case hw=>w_witness2)
 k_fill
 refine L2.a6T (l:=PySem.Challenge.rw_touchboats_k44_apart_and_rounds) (x:="_law_script") (k:=3) rfl rfl ⟨rfl,by decide,by decide,rfl⟩ (fun w h Y=>PySem.W.kIn_of Y) ?F
 case F=>
   intro w mg h KX G
   have f__law_begin:L2.Fn0 (L2.KOf KX) mg "_law_begin" (Tb.top 4):=by
     dsimp only [L2.KOf]
     refine' L2.a1v KX G ?a ?l ?c ?k
     (case a=>k_is);(case l=>k_is);(case c=>k_is);(case k=>k_is)
   have f__law_take:L2.Fn0 (L2.KOf KX) mg "_law_take" (Tb.top 5):=by
     dsimp only [L2.KOf]
     refine' L2.a1v KX G ?a ?l ?c ?k
     (case a=>k_is);(case l=>k_is);(case c=>k_is);(case k=>k_is)
   have f__law_boats:L2.Fn0 (L2.KOf KX) mg "_law_boats" (Tb.top 6):=by
     dsimp only [L2.KOf]
     refine' L2.a1v KX G ?a ?l ?c ?k
     (case a=>k_is);(case l=>k_is);(case c=>k_is);(case k=>k_is)
   have f_apart_by:L2.Fn0 (L2.KOf KX) mg "apart_by" (Tb.top 1):=by
     dsimp only [L2.KOf]
     refine' L2.a1v KX G ?a ?l ?c ?k
     (case a=>k_is);(case l=>k_is);(case c=>k_is);(case k=>k_is)
   have f_rounds_of:L2.Fn0 (L2.KOf KX) mg "rounds_of" (Tb.top 2):=by
     dsimp only [L2.KOf]
     refine' L2.a1v KX G ?a ?l ?c ?k
     (case a=>k_is);(case l=>k_is);(case c=>k_is);(case k=>k_is)
   have f__law_numbers:L2.Fn0 (L2.KOf KX) mg "_law_numbers" (Tb.top 10):=by
     dsimp only [L2.KOf]
     refine' L2.a1v KX G ?a ?l ?c ?k
     (case a=>k_is);(case l=>k_is);(case c=>k_is);(case k=>k_is)
   have f__law_goal:L2.Fn0 (L2.KOf KX) mg "_law_goal" (Tb.top 7):=by
     dsimp only [L2.KOf]
     refine' L2.a1v KX G ?a ?l ?c ?k
     (case a=>k_is);(case l=>k_is);(case c=>k_is);(case k=>k_is)
   have f__law_apart:L2.Fn0 (L2.KOf KX) mg "_law_apart" (Tb.top 8):=by
     dsimp only [L2.KOf]
     refine' L2.a1v KX G ?a ?l ?c ?k
     (case a=>k_is);(case l=>k_is);(case c=>k_is);(case k=>k_is)
   have f__law_rounds:L2.Fn0 (L2.KOf KX) mg "_law_rounds" (Tb.top 9):=by
     dsimp only [L2.KOf]
     refine' L2.a1v KX G ?a ?l ?c ?k
     (case a=>k_is);(case l=>k_is);(case c=>k_is);(case k=>k_is)
   have f_law:L2.Fn0 (L2.KOf KX) mg "law" (Tb.top 11):=by
     dsimp only [L2.KOf]
     refine' L2.a1v KX G ?a ?l ?c ?k
     (case a=>k_is);(case l=>k_is);(case c=>k_is);(case k=>k_is)
   have z:∀x,PySem.W.nsIn (L2.KOf KX) mainGlobals x=some none→mg x=none:=fun x e=>PySem.W.mg_none_of KX G e;have m_abs:mg "abs"=none:=z _ (by dsimp only [L2.KOf];k_is);have m_all:mg "all"=none:=z _ (by dsimp only [L2.KOf];k_is);have m_enumerate:mg "enumerate"=none:=z _ (by dsimp only [L2.KOf];k_is);have m_int:mg "int"=none:=z _ (by dsimp only [L2.KOf];k_is);have m_len:mg "len"=none:=z _ (by dsimp only [L2.KOf];k_is);have m_list:mg "list"=none:=z _ (by dsimp only [L2.KOf];k_is);have m_max:mg "max"=none:=z _ (by dsimp only [L2.KOf];k_is);have m_min:mg "min"=none:=z _ (by dsimp only [L2.KOf];k_is);have m_range:mg "range"=none:=z _ (by dsimp only [L2.KOf];k_is);have a2j:mg "repr"=none:=z _ (by dsimp only [L2.KOf];k_is);have m_set:mg "set"=none:=z _ (by dsimp only [L2.KOf];k_is);have m_tuple:mg "tuple"=none:=z _ (by dsimp only [L2.KOf];k_is);refine⟨Tb.top 11,f_law,fun _ _ _ _ _ _ s u=>.of_eq rfl,fun base kb nb=>?_⟩;have g__law_begin:=Tb.a7k (P:=PySem.Challenge.rw_touchboats_k44_apart_and_rounds.prog) (w:=w) (base:=base) f__law_begin m_len m_abs m_int;have g__law_take:=Tb.a8O (P:=PySem.Challenge.rw_touchboats_k44_apart_and_rounds.prog) (w:=w) (base:=base) f__law_take;have g__law_boats:=Tb.a3z (P:=PySem.Challenge.rw_touchboats_k44_apart_and_rounds.prog) (w:=w) (base:=base) f__law_boats g__law_take m_len m_range m_tuple;have g_apart_by:=Tb.a5e (P:=PySem.Challenge.rw_touchboats_k44_apart_and_rounds.prog) (w:=w) (base:=base) f_apart_by m_enumerate m_len
   have g_rounds_of:=Tb.a3Y (P:=PySem.Challenge.rw_touchboats_k44_apart_and_rounds.prog) (w:=w) (base:=base) f_rounds_of m_set;have g__law_numbers:=Tb.a2v (P:=PySem.Challenge.rw_touchboats_k44_apart_and_rounds.prog) (w:=w) (base:=base) f__law_numbers g_rounds_of g_apart_by;have g__law_goal:=Tb.a3Z (P:=PySem.Challenge.rw_touchboats_k44_apart_and_rounds.prog) (w:=w) (base:=base) f__law_goal g__law_take m_len m_list m_tuple;have g__law_apart:=Tb.a3A (P:=PySem.Challenge.rw_touchboats_k44_apart_and_rounds.prog) (w:=w) (base:=base) f__law_apart m_int m_len m_range;have g__law_rounds:=Tb.a3b (P:=PySem.Challenge.rw_touchboats_k44_apart_and_rounds.prog) (w:=w) (base:=base) f__law_rounds m_int m_len m_min m_range;exact Tb.k_law (P:=PySem.Challenge.rw_touchboats_k44_apart_and_rounds.prog) (w:=w) (base:=base) f_law g__law_begin g__law_take g__law_boats g__law_goal g__law_rounds g__law_apart g__law_numbers g_rounds_of g_apart_by m_all m_len m_max m_min m_range a2j (fun ns hl=>Tb.m_law ns hl)
end
