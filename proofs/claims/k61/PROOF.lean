import PyProof.Rows.All
import Wide.All
import OpenK.AllK
import Wide.FinOn
import Lean
import PyProof.EqAt
import PyProof.EqKinds
import PyProof.TupleCall
import PyProof.DictIter
import PyProof.EnumMake
import KE.KSortTup
import KE.KDictLaws
import KE.KDictSum
import PyProof.StrLawsTight
import KE.KIntText
import PyProof.MinMaxWalk
import PyProof.WalkInts
import KE.KIsAll
import PyProof.ExcInit
import PyProof.NsDelKeeps
import PyProof.ExcBaseAll.ValueError
import OpenK.KOwn
import PyProof.ExcAttrAll.ValueError
import PyProof.InstStoreFacts
import PyProof.NoPylong
import PySem.Challenge.RW_shearfloor_k61_whole_led_by_tables
set_option Elab.async false
set_option linter.all false
set_option maxRecDepth 100000
set_option maxHeartbeats 4000000
set_option genSizeOf false
noncomputable section
namespace L2
open PySem PySem.Spec PyProof.Rows
abbrev Key:=Sum Int Str
def mv:Key->Value->Bool
 | .inl k,v=>Value.isInt k v
 | .inr x,v=>Value.isStrOf x v
def Eb (w:World):Key->Int
 | .inl k=>hashInt k
 | .inr x=>hashStr w x
theorem qP:∀ {k:Key} {v:Value},mv k v=true->(∃ i t,k=Sum.inl i/\v=Value.int i t)\/(∃ x t,k=Sum.inr x/\v=Value.str x t)
 | .inl i,v,h=>by
  obtain ⟨t,e⟩:=Value.isInt_shape (k:=i) (v:=v) h
  exact .inl ⟨i,t,rfl,e⟩
 | .inr x,v,h=>by
  obtain ⟨t,e⟩:=Value.isStrOf_shape (x:=x) (v:=v) h
  exact .inr ⟨x,t,rfl,e⟩
theorem KP (i:Int) (t:Tok):mv (.inl i) (.int i t)=true:=by simp [mv,Value.isInt]
theorem KQ (x:Str) (t:Tok):mv (.inr x) (.str x t)=true:=by simp [mv,Value.isStrOf]
theorem tV (a b:Int):decide ((Sum.inl a:Key)=Sum.inl b)=(a == b):=by
 by_cases e:a=b
 ·subst e;simp
 ·have h:¬ (Sum.inl a:Key)=Sum.inl b:=fun q=>e (Sum.inl.inj q)
  rw [decide_eq_false h]
  exact (beq_eq_false_iff_ne.mpr e).symm
theorem tW (a b:Str):decide ((Sum.inr a:Key)=Sum.inr b)=decide (a=b):=by
 by_cases e:a=b
 ·subst e;simp
 ·have h:¬ (Sum.inr a:Key)=Sum.inr b:=fun q=>e (Sum.inr.inj q)
  rw [decide_eq_false h,decide_eq_false e]
theorem tZ (a:Int) (b:Str):decide ((Sum.inl a:Key)=Sum.inr b)=false:=decide_eq_false (fun q=>nomatch q)
theorem t4 (a:Str) (b:Int):decide ((Sum.inr a:Key)=Sum.inl b)=false:=decide_eq_false (fun q=>nomatch q)
def cN (prog:Program) (w:World):PySem.KeyKind prog w Key where
 is:=mv
 hash:=Eb w
 inj:=fun v a b ha hb=>by
  rcases qP ha with ⟨i,t,rfl,rfl⟩ | ⟨x,t,rfl,rfl⟩
  ·rcases qP hb with ⟨j,u,rfl,e⟩ | ⟨y,u,rfl,e⟩
   ·injection e with e1 _;rw [e1]
   ·exact nomatch e
  ·rcases qP hb with ⟨j,u,rfl,e⟩ | ⟨y,u,rfl,e⟩
   ·exact nomatch e
   ·injection e with e1 _;rw [e1]
 byValue:=fun k v h=>by
  rcases qP h with ⟨i,t,rfl,rfl⟩ | ⟨x,t,rfl,rfl⟩ <;> rfl
 pyHash:=fun hv h=>by
  rcases qP hv with ⟨i,t,rfl,rfl⟩ | ⟨x,t,rfl,rfl⟩
  ·exact wpAny_pyHash_int h
  ·exact wpAny_pyHash_str h
 eqBool:=fun hu hv h=>by
  rcases qP hu with ⟨i,t,rfl,rfl⟩ | ⟨x,t,rfl,rfl⟩
  ·rcases qP hv with ⟨j,u,rfl,rfl⟩ | ⟨y,u,rfl,rfl⟩
   ·rw [tV] at h;exact wpAny_eqBool_int h
   ·rw [tZ] at h;exact SeqAt.EqAt.int_str i t y u _ _ _ _ h
  ·rcases qP hv with ⟨j,u,rfl,rfl⟩ | ⟨y,u,rfl,rfl⟩
   ·rw [t4] at h;exact SeqAt.EqAt.str_int x t j u _ _ _ _ h
   ·rw [tW] at h;exact wpAny_eqBool_str h
 «strs»:=fun k x t v h=>by
  rcases qP h with ⟨i,u,rfl,e⟩ | ⟨y,u,rfl,e⟩
  ·exact nomatch e
  ·injection e with e1 _
   subst e1
   cases v <;> rfl
theorem KR (prog:Program) (w:World) (i:Int) (t:Tok):(cN prog w).is (.inl i) (.int i t)=true:=KP i t
theorem KS (prog:Program) (w:World) (x:Str) (t:Tok):(cN prog w).is (.inr x) (.str x t)=true:=KQ x t
end L2
namespace L2
open PySem PySem.Spec PyProof.Rows
inductive V where
 | non | bl (b:Bool) | int (i:Int) | str (x:Str) | pE (b:Array UInt8) | Ec (b:UInt64) | ref (a:Addr) | ty (n:String)
 deriving DecidableEq
def RelV:V->Value->Prop
 | .non,u=>u=Value.none
 | .bl b,u=>u=Value.bool b
 | .int i,u=>∃ t,u=Value.int i t
 | .str x,u=>∃ t,u=Value.str x t
 | .pE b,u=>∃ t,u=Value.bytes b t
 | .Ec b,u=>∃ t,u=Value.float b t
 | .ref a,u=>u=Value.ref a
 | .ty n,u=>u=Value.type n
abbrev Vals:List V->List Value->Prop:=Paired RelV
theorem Vals.length {xs:List V} {us:List Value} (r:Vals xs us):xs.length=us.length:=Paired.length r
theorem Vals.get:∀ {xs:List V} {us:List Value} {i:Nat} {x:V},Vals xs us->xs[i]?=some x->∃ u,us[i]?=some u/\RelV x u
 | _,_,_,_,.nil,e=>by simp at e
 | _,_,0,_,.cons r _,e=>by simp at e;subst e;exact ⟨_,rfl,r⟩
 | _,_,i + 1,x,.cons _ t,e=>by
  obtain ⟨u,h1,h2⟩:=Vals.get (i:=i) (x:=x) t (by simpa using e)
  exact ⟨u,by simpa using h1,h2⟩
theorem Vals.set {x:V} {u:Value} (r:RelV x u):∀ {xs:List V} {us:List Value} (i:Nat),Vals xs us->Vals (xs.set i x) (us.set i u)
 | _,_,_,.nil=>.nil
 | _,_,0,.cons _ t=>.cons r t
 | _,_,i + 1,.cons q t=>.cons q (Vals.set r i t)
theorem Vals.append:∀ {xs ys:List V} {us ws:List Value},Vals xs us->Vals ys ws->Vals (xs ++ ys) (us ++ ws)
 | _,_,_,_,.nil,s=>s
 | _,_,_,_,.cons r t,s=>.cons r (Vals.append t s)
theorem Vals.take:∀ {xs:List V} {us:List Value} (n:Nat),Vals xs us->Vals (xs.take n) (us.take n)
 | _,_,0,_=>.nil
 | _,_,_ + 1,.nil=>.nil
 | _,_,n + 1,.cons r t=>.cons r (Vals.take n t)
theorem Vals.drop:∀ {xs:List V} {us:List Value} (n:Nat),Vals xs us->Vals (xs.drop n) (us.drop n)
 | _,_,0,r=>r
 | _,_,_ + 1,.nil=>.nil
 | _,_,n + 1,.cons _ t=>Vals.drop n t
def oQ:Option V->Option Value->Prop
 | some v,some u=>RelV v u
 | none,none=>True
 | _,_=>False
def KV {κ:Type}:List (κ×V)->List (κ×Value)->Prop:=Paired fun (p:κ×V) (q:κ×Value)=>p.1=q.1/\RelV p.2 q.2
def kV:Key->V
 | .inl i=>.int i
 | .inr x=>.str x
set_option genInjectivity false in
inductive HO where
 /-- a list -/
 | lst (xs:List V)
 /-- a tuple (never changes) -/
 | tup (xs:List V)
 /-- a dict whose keys are ints and texts;one whose keys are tuples of ints and texts (the empty one is both) -/
 | dK (kvs:List (Key×V)) | dT (kvs:List (List Key×V))
 /-- a set of ints: its members,its size -/
 | set (S:Int->Bool) (n:Nat)
 /-- an instance of the class at C,its dict at dx,its attributes -/
 | ins (C dx:Addr) (fs:List (Str×V))
 /-- the dict of the instance at x -/
 | own (x:Addr)
 /-- the dict of an exception -/
 | xd (fs:List (Str×V))
 /-- a bound method,f of x -/
 | met (f x:Addr)
 /-- a range object lo,lo + 1,.. below hi -/
 | iJ (lo hi:Int)
 /-- a thing that is known to the object (the script;a dict while a loop walks it): read,never written while it is so -/
 | mG (o:Obj) (u:HO)
 /-- a code x3 table -/
 | t5 (ps:Array Value)
 /-- any other thing,by what is true of its one object (a def of G2 own: KU a S n:=HO.ext fun h=>..) -/
 | ext (φ:Heap->Prop)
abbrev Hp:=Addr->Option HO
def upd (H:Hp) (a:Addr) (o:HO):Hp:=fun b=>if b=a then some o else H b
theorem o9 {H:Hp} {a:Addr} {o:HO}:upd H a o a=some o:=by unfold upd;rw [if_pos rfl]
theorem jh {H:Hp} {a b:Addr} {o:HO} (h:b≠a):upd H a o b=H b:=by unfold upd;rw [if_neg h]
theorem Ed {H:Hp} {a b:Addr} {o u:HO} (h:H a=some o) (h':H b=some u) (d:o≠u):a≠b:=by
 intro e;subst e;rw [h] at h';exact d (Option.some.inj h')
theorem w4 {H:Hp} {a b:Addr} {o:HO} (h:H a=some o) (h':H b=none):a≠b:=by
 intro e;subst e;rw [h] at h';cases h'
def mH (h:Heap) (a:Addr) (its:Array Value):Prop:=∃ o,h.get? a=some o/\o.cls=.type "tuple" /\ o.dict=none/\∃ n,o.data=.seq its n
theorem mH.tup {h:Heap} {a:Addr} {its:Array Value} (x:mH h a its):IsTup h a its:=let ⟨o,e,c,_,n,d⟩:=x;⟨o,e,c,n,d⟩
theorem mH.new (h:Heap) (its:Array Value):mH (h.push { cls:=.type "tuple",data:=.seq its }) h.objs.size its:=⟨_,Heap.get?_push_size _ rfl,rfl,rfl,_,rfl⟩
section
variable (P:Program) (w:World)
def cD (H:Hp) (h:Heap) (a:Addr):HO->Prop
 | .lst xs=>xs.length<=sizeLine/\∃ (its:List Value) (n:Nat),Vals xs its/\h.get? a=some { cls:=.type "list",data:=.seq its.toArray n }
 | .tup xs=>xs.length<=sizeLine/\∃ its:List Value,Vals xs its/\mH h a its.toArray
 | .dK kvs=>kvs.length<=sizeLine/\(a == sysModules)=false/\∃ vs,KV kvs vs/\h.DictOf (cN P w) a vs
 | .dT kvs=>kvs.length<=sizeLine/\(a == sysModules)=false/\∃ xs:List (List Key×Addr×Value),
   Paired (fun (p:List Key×V) (q:List Key×Addr×Value)=>p.1=q.1/\H q.2.1=some (.tup (p.1.map kV))/\RelV p.2 q.2.2) kvs xs /\
   ∃ o es ep,h.get? a=some o/\o.ExactDict/\o.data=.dict es ep/\es.toList=xs.map (entryOfKey (tupleKind (cN P w)))/\(xs.map (·.1)).Nodup
 | .set S n=>h.SetOf (intKind P w) a S n
 | .ins C dx fs=>H dx=some (.own a)/\fs.length<=1000/\dx≠a/\h.get? a=some (PySem.W.instObj C dx) /\
   ∃ mA,h.Ns1 dx mA/\(∀ f,oQ (fs.lookup f) (mA f))/\PySem.Within mA (fs.map (·.1))
 | .own _=>∃ o,h.get? a=some o
 | .xd fs=>∃ mA,h.Ns1 a mA/\∀ f,oQ (fs.lookup f) (mA f)
 | .iJ lo hi=>∃ t u v,h.get? a=some { cls:=.type "range",data:=.fields #[.int lo t,.int hi u,.int 1 v] }
 | .mG o u=>h.get? a=some o/\cD H h a u
 | .t5 ps=>h.get? a=some { cls:=.none,data:=.fields ps }
 | .met f x=>h.get? a=some (PySem.W.methodObj (.ref f) (.ref x))
 | .ext φ=>φ h/\(∃ o,h.get? a=some o)/\∀ h1 h2:Heap,φ h1->(∀ o,h1.get? a=some o->h2.get? a=some o)->φ h2
def ka (H:Hp) (h:Heap):Prop:=∀ a o,H a=some o->cD P w H h a o
end
section
variable {P:Program} {w:World} {H H':Hp} {h h':Heap} {a:Addr} {o:HO}
theorem cD.lt (x:cD P w H h a o):a < h.objs.size:=by
 cases o with
 | lst xs=>obtain ⟨_,_,_,_,e⟩:=x;exact Heap.lt_size e
 | tup xs=>obtain ⟨_,_,_,_,e,_⟩:=x;exact Heap.lt_size e
 | dK kvs=>obtain ⟨_,_,_,_,o,_,_,e,_⟩:=x;exact Heap.lt_size e
 | dT kvs=>obtain ⟨_,_,_,_,o,_,_,e,_⟩:=x;exact Heap.lt_size e
 | set S n=>obtain ⟨o,_,_,_,e,_⟩:=x;exact Heap.lt_size e
 | ins C dx fs=>obtain ⟨_,_,_,e,_⟩:=x;exact Heap.lt_size e
 | own y=>obtain ⟨_,e⟩:=x;exact Heap.lt_size e
 | xd fs=>obtain ⟨_,⟨_,_,_,e,_⟩,_⟩:=x;exact Heap.lt_size e
 | iJ lo hi=>obtain ⟨_,_,_,e⟩:=x;exact Heap.lt_size e
 | mG ob u=>obtain ⟨e,_⟩:=x;exact Heap.lt_size e
 | t5 ps=>exact Heap.lt_size (show h.get? a=some _ from x)
 | met f y=>exact Heap.lt_size (show h.get? a=some _ from x)
 | ext φ=>obtain ⟨_,⟨_,e⟩,_⟩:=x;exact Heap.lt_size e
theorem Paired.t6 {α β:Type} {F G:α->β->Prop}:∀ {l₁:List α} {l₂:List β},Paired F l₁ l₂->(∀ a b,F a b->G a b)->Paired G l₁ l₂
 | _,_,.nil,_=>.nil
 | _,_,.cons r t,f=>.cons (f _ _ r) (Paired.t6 t f)
theorem cD.stay (x:cD P w H h a o) (k:∀ b u,(b=a\/H b=some (.own a))->h.get? b=some u->h'.get? b=some u)
  (ho:∀ b,H b=some (.own a)->H' b=some (.own a)) (ht:∀ b xs,H b=some (.tup xs)->H' b=some (.tup xs)):cD P w H' h' a o:=by
 induction o with
 | lst xs=>obtain ⟨z,its,n,r,e⟩:=x;exact ⟨z,its,n,r,k _ _ (.inl rfl) e⟩
 | tup xs=>obtain ⟨z,its,r,ob,e,c⟩:=x;exact ⟨z,its,r,ob,k _ _ (.inl rfl) e,c⟩
 | dK kvs=>obtain ⟨z,y,vs,r,ob,es,ep,e,c⟩:=x;exact ⟨z,y,vs,r,ob,es,ep,k _ _ (.inl rfl) e,c⟩
 | dT kvs =>
  obtain ⟨z,y,xs,r,ob,es,ep,e,c⟩:=x
  exact ⟨z,y,xs,Paired.t6 r fun p q z=>⟨z.1,ht _ _ z.2.1,z.2.2⟩,ob,es,ep,k _ _ (.inl rfl) e,c⟩
 | set S n=>obtain ⟨ob,es,ep,t,e,c⟩:=x;exact ⟨ob,es,ep,t,k _ _ (.inl rfl) e,c⟩
 | ins C dx fs =>
  obtain ⟨d,z,ne,e,mA,⟨od,es,ep,e2,c⟩,r⟩:=x
  exact ⟨ho _ d,z,ne,k _ _ (.inl rfl) e,mA,⟨od,es,ep,k _ _ (.inr d) e2,c⟩,r⟩
 | own y=>obtain ⟨ob,e⟩:=x;exact ⟨ob,k _ _ (.inl rfl) e⟩
 | xd fs=>obtain ⟨mA,⟨od,es,ep,e,c⟩,r⟩:=x;exact ⟨mA,⟨od,es,ep,k _ _ (.inl rfl) e,c⟩,r⟩
 | iJ lo hi=>obtain ⟨t,u,v,e⟩:=x;exact ⟨t,u,v,k _ _ (.inl rfl) e⟩
 | mG ob u ih=>obtain ⟨e,q⟩:=x;exact ⟨k _ _ (.inl rfl) e,ih q⟩
 | t5 ps =>
  have e:h.get? a=some { cls:=.none,data:=.fields ps }:=x
  show h'.get? a=some { cls:=.none,data:=.fields ps }
  exact k a _ (.inl rfl) e
 | met f y =>
  have e:h.get? a=some (PySem.W.methodObj (.ref f) (.ref y)):=x
  show h'.get? a=some (PySem.W.methodObj (.ref f) (.ref y))
  exact k a _ (.inl rfl) e
 | ext φ=>obtain ⟨p,⟨o,e⟩,st⟩:=x;exact ⟨st _ _ p fun o q=>k _ _ (.inl rfl) q,⟨o,k _ _ (.inl rfl) e⟩,st⟩
theorem ka.lt (x:ka P w H h) (e:H a=some o):a < h.objs.size:=(x a o e).lt
theorem ka.fresh (x:ka P w H h) (e:h.objs.size<=a):H a=none:=by
 cases q:H a with
 | none=>rfl
 | some u=>exact absurd (Nat.lt_of_lt_of_le (x.lt q) e) (Nat.lt_irrefl _)
theorem ka.kept (x:ka P w H h) (k:∀ b u,h.get? b=some u->h'.get? b=some u):ka P w H h':=fun a o e =>
 (x a o e).stay (fun b u _ q=>k b u q) (fun _ q=>q) fun _ _ q=>q
theorem ka.laid (x:ka P w H h) (k:∀ b u,h.get? b=some u->h'.get? b=some u) (hp:h.objs.size<=a) (new:cD P w (upd H a o) h' a o):ka P w (upd H a o) h':=fun b u e=>by
 have hn:=x.fresh hp
 by_cases hb:b=a
 ·subst hb;rw [o9] at e;cases e;exact new
 ·rw [jh hb] at e
  exact (x b u e).stay (fun c v _ q=>k c v q) (fun c q=>by rw [jh (w4 q hn)];exact q) fun c xs q=>by rw [jh (w4 q hn)];exact q
end
def Rd (H:Hp) (a:Addr) (u:HO):Prop:=H a=some u\/∃ o,H a=some (.mG o u)
theorem Rd.ok {P:Program} {w:World} {H:Hp} {h:Heap} {a:Addr} {u:HO} (r:Rd H a u) (x:ka P w H h):cD P w H h a u:=by
 rcases r with r | ⟨o,r⟩
 ·exact x a u r
 ·obtain ⟨_,q⟩:=x a _ r
  exact q
def x4:Option HO->Prop
 | some (.lst _)=>True
 | some (.dK _)=>True
 | some (.dT _)=>True
 | some (.set _ _)=>True
 | some (.ins _ _ _)=>True
 | some (.ext _)=>True
 | _=>False
section
variable {P:Program} {w:World} {H:Hp} {h h':Heap} {x e:Addr} {o':HO}
theorem ka.write (ok:ka P w H h) (mu:x4 (H x)) (he:e=x\/H e=some (.own x)) (k:∀ b u,b≠e->h.get? b=some u->h'.get? b=some u) (w6:∃ u,h'.get? e=some u)
  (new:cD P w (upd H x o') h' x o'):ka P w (upd H x o') h':=fun b u q=>by
 have x5:∀ c y,H c=some (.own y)->c≠x:=fun c y r z=>by subst z;rw [r] at mu;exact mu
 have Ee:∀ c xs,H c=some (.tup xs)->c≠x:=fun c xs r z=>by subst z;rw [r] at mu;exact mu
 by_cases hb:b=x
 ·subst hb;rw [o9] at q;cases q;exact new
 ·rw [jh hb] at q
  by_cases t9:b=e
  ·have q':H b=some (.own x):=by
    rcases he with z | z
    ·exact absurd (t9.trans z) hb
    ·rw [t9];exact z
   rw [q] at q';cases q'
   obtain ⟨v,hv⟩:=w6
   exact ⟨v,by rw [t9];exact hv⟩
  ·refine (ok b u q).stay (fun c v hc r=>k c v ?_ r) (fun c r=>by rw [jh (x5 c b r)];exact r) fun c xs r=>by rw [jh (Ee c xs r)];exact r
   rcases hc with rfl | hc
   ·exact t9
   ·rintro rfl
    rcases he with z | z
    ·exact x5 c b hc z
    ·rw [hc] at z;cases z;exact hb rfl
end
structure Un (fs ex:List Addr) (H H':Hp) (h h':Heap):Prop where
 keep:∀ b o,h.get? b=some o->H b=none->b ∉ fs->b ∉ ex->h'.get? b=some o
 slot:∀ b o,h.get? b=some o->H b=none->b∈fs->b ∉ ex->∃ sl,h'.get? b=some { o with slots:=sl }
 free:∀ b o,h.get? b=some o->H b=none->b ∉ ex->H' b=none
 there:∀ b o,h.get? b=some o->b ∉ ex->∃ o',h'.get? b=some o'
 tups:∀ b xs,H b=some (.tup xs)->H' b=some (.tup xs)
 mI:∀ b o u,H b=some (.mG o u)->H' b=some (.mG o u)
 nC:∀ b ps,H b=some (.t5 ps)->∃ more,H' b=some (.t5 (ps ++ more))
section
variable {fs fs' ex ex':List Addr} {H H1 H2:Hp} {h h1 h2 h':Heap} {a x e:Addr} {o:HO}
theorem Un.any (u:Un fs ex H H1 h h1) {b:Addr} {ob:Obj} (q:h.get? b=some ob) (n:H b=none) (hx:b ∉ ex):∃ sl,h1.get? b=some { ob with slots:=sl }:=by
 by_cases hb:b∈fs
 ·exact u.slot b ob q n hb hx
 ·exact ⟨ob.slots,u.keep b ob q n hb hx⟩
theorem Un.kept (k:∀ b u,h.get? b=some u->h'.get? b=some u):Un fs ex H H h h' :=
 ⟨fun b ob q _ _ _=>k b ob q,fun b ob q _ _ _=>⟨ob.slots,k b ob q⟩,fun _ _ _ n _=>n,fun b ob q _=>⟨ob,k b ob q⟩,fun _ _ q=>q,fun _ _ _ q=>q,fun _ ps q=>⟨#[],by rw [q];simp⟩⟩
theorem Un.refl:Un fs ex H H h h:=Un.kept fun _ _ q=>q
theorem Un.laid (k:∀ b u,h.get? b=some u->h'.get? b=some u) (hp:h.objs.size<=a) (hn:H a=none):Un fs ex H (upd H a o) h h' where
 keep:=fun b u q _ _ _=>k b u q
 slot:=fun b u q _ _ _=>⟨u.slots,k b u q⟩
 free:=fun b u q n _=>by rw [jh (Nat.ne_of_lt (Nat.lt_of_lt_of_le (Heap.lt_size q) hp))];exact n
 there:=fun b u q _=>⟨u,k b u q⟩
 tups:=fun b xs q=>by rw [jh (w4 q hn)];exact q
 mI:=fun b u xs q=>by rw [jh (w4 q hn)];exact q
 nC:=fun b ps q=>⟨#[],by rw [jh (w4 q hn),q];simp⟩
theorem Un.write (mu:x4 (H x)) (he:e=x\/H e=some (.own x)) (k:∀ b u,b≠e->h.get? b=some u->h'.get? b=some u) (w6:∃ u,h'.get? e=some u):Un fs ex H (upd H x o) h h':=by
 have hx:∀ b,H b=none->b≠x:=fun b n z=>by subst z;rw [n] at mu;exact mu
 have hb:∀ b,H b=none->b≠e:=fun b n z=>by
  subst z
  rcases he with r | r
  ·exact hx b n r
  ·rw [n] at r;cases r
 have hm:∀ b u,H b=some u->¬ x4 (some u)->b≠x:=fun b u q nm z=>by subst z;rw [q] at mu;exact nm mu
 refine ⟨fun b u q n _ _=>k b u (hb b n) q,fun b u q n _ _=>⟨u.slots,k b u (hb b n) q⟩,fun b u q n _=>by rw [jh (hx b n)];exact n,fun b u q _=>?_,
  fun b xs q=>by rw [jh (hm b _ q fun z=>z)];exact q,fun b u xs q=>by rw [jh (hm b _ q fun z=>z)];exact q,fun b ps q=>⟨#[],by rw [jh (hm b _ q fun z=>z),q];simp⟩⟩
 by_cases t9:b=e
 ·subst t9;exact w6
 ·exact ⟨u,k b u t9 q⟩
end
def BV (h:Heap) (H:Hp):List Addr:=(List.range h.objs.size).filter fun a=>(H a).isSome
def mJ (h:Heap) (H:Hp):Heap:=PySem.W.hideAll h (BV h H)
theorem KW (h:Heap) (H:Hp):(mJ h H).objs.size=h.objs.size:=PySem.W.hideAll_size _ _
theorem KY {h:Heap} {H:Hp} {b:Addr} {o:Obj} (e:h.get? b=some o) (n:H b=none):(mJ h H).get? b=some o :=
 PySem.W.hideAll_get _ e fun hm=>by
  have q:(H b).isSome=true:=(List.mem_filter.mp hm).2
  rw [n] at q;simp at q
theorem KZ {h:Heap} {H:Hp} {b:Addr} {o:Obj} (e:(mJ h H).get? b=some o):h.get? b=some o/\H b=none:=by
 have e':h.get? b=some o:=PySem.W.of_hideAll (BV h H) e
 refine ⟨e',?_⟩
 cases q:H b with
 | none=>rfl
 | some x =>
  have hm:b∈BV h H:=List.mem_filter.mpr ⟨List.mem_range.mpr (Heap.lt_size e'),by simp [q]⟩
  have z:(mJ h H).get? b=none:=PySem.W.hideAll_none (BV h H) hm
  rw [z] at e;cases e
def qQ (g h:Heap) (L:Addr):List (Addr×Obj):=(List.range h.objs.size).filterMap fun a=>if a=L\/(g.get? a).isSome=true then none else (h.get? a).map fun o=>(a,o)
def rest (g h:Heap) (L d:Addr):List (Addr×Obj):=(qQ g h L).filter fun p=>decide (p.1≠d)
end L2
namespace L2
open PySem PySem.Spec PyProof.Rows
structure Mod (K:PySem.W.Frag) (mg:Str->Option Value) (base:Heap):Prop where
 Ef:K.In base
 glob:base.Ns mainGlobals mg
 blt:∃ mb,base.Ns builtinsNs mb/\∀ x:Str,x≠"__name__" -> mb x=bootBuiltins x
 nolimit:base.NoLimit
set_option genInjectivity false in
structure Cx where
 prog:Program
 w:World
 K:PySem.W.Frag
 mg:Str->Option Value
 base:Heap
 A:Around
 N:List Str
 s₀:Shared
 H₀:Hp
 env:Env
 outer:List Env
 stack:List Env
 ex:List Addr
 fn:Str->Bool
 calm:Bool
 pn:List (Addr×Obj)
 xe:Value->Shared->Prop
def frs (l:List Env):List Addr:=l.filterMap (·.frame)
abbrev Cx.fs (X:Cx):List Addr:=frs X.outer
def Eg (sc:Scope) (x:Str):Prop:=sc.names.lookup x=some .local\/sc.names.lookup x=some .cell\/sc.names.lookup x=some .free
def Loc (sc:Scope) (x:Str):Prop:=sc.names.lookup x=some .local\/sc.names.lookup x=some .cell
def Look (env:Env) (h:Heap) (m:Str->Option Value) (x:Str) (u:Value):Prop :=
 (env.kindOf x=some .local/\m x=some u)\/((env.kindOf x=some .cell\/env.kindOf x=some .free)/\∃ c,env.cells.lookup x=some c/\h.IsCell c (some u))
structure Cx.Ok (X:Cx):Prop where
 mod:Mod X.K X.mg X.base
 kind:X.env.scope.kind=.function
 glob:X.env.globals=mainGlobals
 blt:X.env.builtins=builtinsNs
 above:X.s₀.heap.objs.size<=X.env.locals
 inj:∀ x y c,X.env.cells.lookup x=some c->X.env.cells.lookup y=some c->x=y
 has:∀ x,(X.env.kindOf x=some .cell\/X.env.kindOf x=some .free)->∃ c,X.env.cells.lookup x=some c
 x6:∀ x c,X.fn x=true->X.env.cells.lookup x=some c->X.s₀.heap.objs.size<=c
 hd:X.calm=true->X.A.handled=none
 frames:X.A.frames=some X.stack
 stk:X.stack=X.outer\/(X.stack=X.env :: X.outer/\X.env.frame=some X.env.locals)
 G3:∀ b∈X.ex,b≠X.env.locals/\∀ x c,X.env.cells.lookup x=some c->c≠b
 bs:∀ b o,X.base.get? b=some o->X.s₀.heap.get? b=some o/\X.H₀ b=none
 rS:X.base.objs.size<=X.s₀.heap.objs.size
 pF:∀ b o,X.base.get? b=some o->b ∉ X.ex
 qR:∀ b∈X.ex,b ∉ X.fs
 lD:X.s₀.heap.FunFrames X.base X.outer
 w8:∀ b∈X.fs,X.H₀ b=none
structure Inv (X:Cx) (pins:List (Addr×Obj)) (σ:List (Option V)) (H:Hp) (s:Shared):Prop where
 ok:X.Ok
 os:s.os=X.s₀.os
 bare:AllBare s.gens
 base:Un X.fs X.ex X.H₀ H X.s₀.heap s.heap
 loc:∃ m,s.heap.Ns X.env.locals m/\∀ (i:Nat) (x:Str) (v:V),X.N[i]?=some x->σ[i]?=some (some v)->Eg X.env.scope x->∃ u,RelV v u/\Look X.env s.heap m x u
 cell:∀ x c,X.env.cells.lookup x=some c->∃ v,s.heap.IsCell c v
 free:H X.env.locals=none
 jF:∀ x c,X.env.cells.lookup x=some c->H c=none
 pin:∀ p∈X.pn ++ pins,s.heap.get? p.1=some p.2/\H p.1=none/\p.1≠X.env.locals/\p.1 ∉ X.fs/\∀ v,p.2.data≠.cell v
 hok:ka X.prog X.w H s.heap
 len:σ.length=X.N.length
section
variable {X:Cx} {pins:List (Addr×Obj)} {σ:List (Option V)} {H H':Hp} {s:Shared} {h':Heap}
theorem Cx.Ok.Eh (ok:X.Ok) {b:Addr} {o:Obj} (e:X.base.get? b=some o):b ∉ X.fs:=fun hb=>by
 have:=(ok.lD.mem hb).1
 rw [e] at this;cases this
theorem Inv.bs (I:Inv X pins σ H s):∀ b o,X.base.get? b=some o->s.heap.get? b=some o/\H b=none:=fun b o e =>
 ⟨I.base.keep b o (I.ok.bs b o e).1 (I.ok.bs b o e).2 (I.ok.Eh e) (I.ok.pF b o e),I.base.free b o (I.ok.bs b o e).1 (I.ok.bs b o e).2 (I.ok.pF b o e)⟩
theorem Inv.bk (I:Inv X pins σ H s):∀ b o,X.base.get? b=some o->s.heap.get? b=some o:=fun b o e=>(I.bs b o e).1
theorem Inv.mod (I:Inv X pins σ H s):Mod X.K X.mg X.base:=I.ok.mod
theorem Inv.BW (I:Inv X pins σ H s):X.K.In s.heap:=I.ok.mod.Ef.keeps I.bk
theorem Inv.lt (I:Inv X pins σ H s):X.env.locals < s.heap.objs.size:=let ⟨_,hn,_⟩:=I.loc;hn.lt
theorem Inv.sz (I:Inv X pins σ H s):X.s₀.heap.objs.size<=s.heap.objs.size:=Nat.le_trans I.ok.above (Nat.le_of_lt I.lt)
theorem Inv.x8 (I:Inv X pins σ H s) {a:Addr} (h:s.heap.objs.size<=a):a ∉ X.fs:=fun hb=>by
 obtain ⟨_,o,ho,_⟩:=I.ok.lD.mem hb
 exact absurd (Nat.lt_of_lt_of_le (Heap.lt_size ho) (Nat.le_trans I.sz h)) (Nat.lt_irrefl _)
theorem Inv.uc (I:Inv X pins σ H s):∀ x c,X.env.cells.lookup x=some c->c≠X.env.locals:=fun x c e z=>by
 obtain ⟨v,o,ho,hd⟩:=I.cell x c e
 obtain ⟨m,⟨o',es,ep,ho',hd',_⟩,_⟩:=I.loc
 rw [z,ho'] at ho;cases ho;rw [hd'] at hd;cases hd
theorem Inv.lD (I:Inv X pins σ H s):s.heap.FunFrames X.base X.outer:=by
 have all:∀ (l:List Env),(∀ b∈frs l,b∈X.fs)->X.s₀.heap.FunFrames X.base l->s.heap.FunFrames X.base l:=by
  intro l
  induction l with
  | nil=>intro _ _;trivial
  | cons env r ih =>
   intro hs hl
   obtain ⟨hk,⟨L,o,hf,hn,ho,hd⟩,hr⟩:=hl
   have hL:L∈X.fs:=hs L (by unfold frs;rw [List.filterMap_cons,hf];exact List.mem_cons_self)
   obtain ⟨sl,e⟩:=I.base.slot L o ho (I.ok.w8 L hL) hL fun z=>I.ok.qR L z hL
   exact ⟨hk,⟨L,_,hf,hn,e,hd⟩,ih (fun b hb=>hs b (by unfold frs;rw [List.filterMap_cons,hf];exact List.mem_cons_of_mem _ hb)) hr⟩
 exact all X.outer (fun _ hb=>hb) I.ok.lD
theorem Inv.stack (I:Inv X pins σ H s):s.heap.FunFrames X.base X.stack:=by
 rcases I.ok.stk with e | ⟨e,hf⟩
 ·rw [e];exact I.lD
 ·rw [e]
  obtain ⟨m,hn,_⟩:=I.loc
  refine .cons (by rw [I.ok.kind];decide) hf hn ?_ I.lD
  exact Heap.get?_none_of_le (Nat.le_trans I.ok.rS I.ok.above)
theorem Inv.lE (I:Inv X pins σ H s):∀ b∈frs X.stack,b∈X.env.locals :: X.fs:=fun b hb=>by
 rcases I.ok.stk with e | ⟨e,hf⟩
 ·rw [e] at hb;exact List.mem_cons_of_mem _ hb
 ·rw [e] at hb
  unfold frs at hb
  rw [List.filterMap_cons,hf] at hb
  exact hb
theorem Inv.og (I:Inv X pins σ H s):∀ b∈frs X.stack,H b=none:=fun b hb=>by
 rcases List.mem_cons.mp (I.lE b hb) with e | hb
 ·rw [e];exact I.free
 ·obtain ⟨_,o,ho,_⟩:=I.ok.lD.mem hb
  exact I.base.free b o ho (I.ok.w8 b hb) fun z=>I.ok.qR b z hb
theorem Inv.step {g':Array GenState} {t':Nat} {d':Drawn} {ch:List Addr} (I:Inv X pins σ H s)
  (hch:∀ b∈ch,(b∈X.ex\/X.s₀.heap.objs.size<=b)/\b≠X.env.locals/\(∀ x c,X.env.cells.lookup x=some c->c≠b)/\∀ p∈X.pn ++ pins,p.1≠b)
  (keep:∀ b o,b≠X.env.locals->b ∉ X.fs->b ∉ ch->s.heap.get? b=some o->H b=none->h'.get? b=some o)
  (slot:∀ b o,b≠X.env.locals->b∈X.fs->b ∉ ch->s.heap.get? b=some o->H b=none->∃ sl,h'.get? b=some { o with slots:=sl }) (free:∀ b o,b ∉ ch->s.heap.get? b=some o->H b=none->H' b=none)
  (there:∀ b o,b ∉ ch->s.heap.get? b=some o->∃ o',h'.get? b=some o')
  (tups:∀ b xs,H b=some (.tup xs)->H' b=some (.tup xs)) (mI:∀ b o u,H b=some (.mG o u)->H' b=some (.mG o u)) (nC:∀ b ps,H b=some (.t5 ps)->∃ more,H' b=some (.t5 (ps ++ more)))
  (ns:∀ m,s.heap.Ns X.env.locals m->h'.Ns X.env.locals m) (hok:ka X.prog X.w H' h') (hg:AllBare g') :
  Inv X pins σ H' { s with heap:=h',gens:=g',drawn:=d',toks:=t' }:=by
 have ud:∀ b o,X.s₀.heap.get? b=some o->b≠X.env.locals:=fun b o e=>Nat.ne_of_lt (Nat.lt_of_lt_of_le (Heap.lt_size e) I.ok.above)
 have BX:∀ b o,X.s₀.heap.get? b=some o->b ∉ X.ex->b ∉ ch:=fun b o e hx hb=>by
  rcases (hch b hb).1 with z | z
  ·exact hx z
  ·exact absurd (Nat.lt_of_lt_of_le (Heap.lt_size e) z) (Nat.lt_irrefl _)
 have cellK:∀ x c,X.env.cells.lookup x=some c->∀ v,s.heap.IsCell c v->h'.IsCell c v:=fun x c e v ⟨o,ho,hd⟩=>by
  have x9:c ∉ ch:=fun z=>(hch c z).2.2.1 x c e rfl
  by_cases hc:c∈X.fs
  ·obtain ⟨sl,q⟩:=slot c o (I.uc x c e) hc x9 ho (I.jF x c e)
   exact ⟨_,q,hd⟩
  ·exact ⟨o,keep c o (I.uc x c e) hc x9 ho (I.jF x c e),hd⟩
 refine ⟨I.ok,I.os,hg,⟨fun b o e n hb hx=>?_,fun b o e n hb hx=>?_,fun b o e n hx=>?_,fun b o e hx=>?_,fun b xs e=>tups b xs (I.base.tups b xs e),fun b o xs e=>mI b o xs (I.base.mI b o xs e),fun b ps e=>?_⟩,?_,fun x c e=>?_,?_,fun x c e=>?_,fun p hp=>?_,hok,I.len⟩
 ·exact keep b o (ud b o e) hb (BX b o e hx) (I.base.keep b o e n hb hx) (I.base.free b o e n hx)
 ·obtain ⟨sl,e1⟩:=I.base.slot b o e n hb hx
  obtain ⟨K0,e2⟩:=slot b _ (ud b o e) hb (BX b o e hx) e1 (I.base.free b o e n hx)
  exact ⟨K0,e2⟩
 ·obtain ⟨o',e1⟩:=I.base.there b o e hx
  exact free b o' (BX b o e hx) e1 (I.base.free b o e n hx)
 ·obtain ⟨o',e1⟩:=I.base.there b o e hx
  exact there b o' (BX b o e hx) e1
 ·obtain ⟨m1,e1⟩:=I.base.nC b ps e
  obtain ⟨m2,e2⟩:=nC b _ e1
  exact ⟨m1 ++ m2,by rw [e2,Array.append_assoc]⟩
 ·obtain ⟨m,hn,hl⟩:=I.loc
  refine ⟨m,ns m hn,fun i x v e1 e2 e3=>?_⟩
  obtain ⟨u,r,l⟩:=hl i x v e1 e2 e3
  refine ⟨u,r,?_⟩
  rcases l with l | ⟨k,c,e,z⟩
  ·exact .inl l
  ·exact .inr ⟨k,c,e,cellK x c e _ z⟩
 ·obtain ⟨v,z⟩:=I.cell x c e
  exact ⟨v,cellK x c e v z⟩
 ·obtain ⟨m,⟨o,_,_,ho,_⟩,_⟩:=I.loc
  exact free _ o (fun z=>(hch _ z).2.1 rfl) ho I.free
 ·obtain ⟨v,o,ho,hd⟩:=I.cell x c e
  exact free c o (fun z=>(hch c z).2.2.1 x c e rfl) ho (I.jF x c e)
 ·obtain ⟨e,n,ne,nf,d⟩:=I.pin p hp
  have x9:p.1 ∉ ch:=fun z=>(hch p.1 z).2.2.2 p hp rfl
  exact ⟨keep p.1 p.2 ne nf x9 e n,free p.1 p.2 x9 e n,ne,nf,d⟩
theorem Inv.un {t':Nat} (I:Inv X pins σ H s) (u:Un X.fs [] H H' s.heap h') (hok:ka X.prog X.w H' h'):Inv X pins σ H' { s with heap:=h',toks:=t' }:=by
 obtain ⟨m,⟨o,es,ep,ho,r⟩,_⟩:=id I.loc
 obtain ⟨sl,hL⟩:=u.any ho I.free (by simp)
 exact I.step (g':=s.gens) (d':=s.drawn) (ch:=[]) (fun _ z=>nomatch z) (fun b o _ hb _ e n=>u.keep b o e n hb (by simp)) (fun b o _ hb _ e n=>u.slot b o e n hb (by simp)) (fun b o _ e n=>u.free b o e n (by simp)) (fun b o _ e=>u.there b o e (by simp)) u.tups u.mI u.nC (fun m' hm=>by
  obtain ⟨o',es',Ei,ho',r'⟩:=hm
  rw [ho] at ho';cases ho'
  exact ⟨_,es',Ei,hL,r'⟩) hok I.bare
theorem Inv.call {g':Array GenState} {t':Nat} {d':Drawn} {ch:List Addr} (I:Inv X pins σ H s) (u:Un (frs X.stack) ch H H' s.heap h') (hok:ka X.prog X.w H' h') (hg:AllBare g')
  (hch:∀ b∈ch,(b∈X.ex\/X.s₀.heap.objs.size<=b)/\b≠X.env.locals/\(∀ x c,X.env.cells.lookup x=some c->c≠b)/\∀ p∈X.pn ++ pins,p.1≠b) :
  Inv X pins σ H' { s with heap:=h',gens:=g',drawn:=d',toks:=t' }:=by
 obtain ⟨m,⟨o,es,ep,ho,r⟩,_⟩:=id I.loc
 obtain ⟨sl,hL⟩:=u.any ho I.free fun z=>(hch _ z).2.1 rfl
 exact I.step (ch:=ch) hch (fun b o hL hb hc e n=>u.keep b o e n (fun z=>(List.mem_cons.mp (I.lE b z)).elim hL hb) hc) (fun b o _ _ hc e n=>u.any e n hc) (fun b o hc e n=>u.free b o e n hc) (fun b o hc e=>u.there b o e hc) u.tups u.mI u.nC (fun m' hm=>by
  obtain ⟨o',es',Ei,ho',r'⟩:=hm
  rw [ho] at ho';cases ho'
  exact ⟨_,es',Ei,hL,r'⟩) hok hg
theorem Inv.turned {t':Nat} {it:Addr} (I:Inv X pins σ H s) (k:∀ b o,b≠it->s.heap.get? b=some o->h'.get? b=some o) (hn:H it=none) (hL:it≠X.env.locals)
  (h1:it∈X.ex\/X.s₀.heap.objs.size<=it) (h2:∀ x c,X.env.cells.lookup x=some c->c≠it) (h3:∀ p∈X.pn ++ pins,p.1≠it):Inv X pins σ H { s with heap:=h',toks:=t' }:=by
 have ya:∀ b u,H b=some u->b≠it:=fun b u e z=>by rw [z,hn] at e;cases e
 refine I.step (g':=s.gens) (d':=s.drawn) (ch:=[it]) (fun b hb=>?_) (fun b o _ _ hc e _=>k b o (fun z=>hc (by simp [z])) e) (fun b o _ _ hc e _=>⟨o.slots,k b o (fun z=>hc (by simp [z])) e⟩) (fun _ _ _ _ n=>n)
  (fun b o hc e=>⟨o,k b o (fun z=>hc (by simp [z])) e⟩) (fun _ _ e=>e) (fun _ _ _ e=>e) (fun b ps e=>⟨#[],by rw [e];simp⟩) (fun m hm=>?_) (fun b u e=>?_) I.bare
 ·have e:b=it:=by simpa using hb
  subst e
  exact ⟨h1,hL,h2,h3⟩
 ·obtain ⟨o,es,ep,ho,r⟩:=hm
  exact ⟨o,es,ep,k _ o (Ne.symm hL) ho,r⟩
 ·refine (I.hok b u e).stay (fun c v hc q=>k c v ?_ q) (fun _ q=>q) fun _ _ q=>q
  rcases hc with z | z
  ·rw [z];exact ya b u e
  ·exact ya c _ z
theorem Inv.tok (I:Inv X pins σ H s) (t:Nat):Inv X pins σ H { s with toks:=t }:=I.un (h':=s.heap) (t':=t) Un.refl I.hok
theorem Inv.kept {t':Nat} (I:Inv X pins σ H s) (k:∀ b u,s.heap.get? b=some u->h'.get? b=some u):Inv X pins σ H { s with heap:=h',toks:=t' }:=I.un (Un.kept k) (I.hok.kept k)
theorem Inv.laid {a:Addr} {o:HO} {t':Nat} (I:Inv X pins σ H s) (k:∀ b u,s.heap.get? b=some u->h'.get? b=some u) (hp:s.heap.objs.size<=a) (new:cD X.prog X.w (upd H a o) h' a o) :
  Inv X pins σ (upd H a o) { s with heap:=h',toks:=t' }:=I.un (Un.laid k hp (I.hok.fresh hp)) (I.hok.laid k hp new)
theorem Inv.write {x e:Addr} {o:HO} {t':Nat} (I:Inv X pins σ H s) (mu:x4 (H x)) (he:e=x\/H e=some (.own x)) (k:∀ b u,b≠e->s.heap.get? b=some u->h'.get? b=some u) (w6:∃ u,h'.get? e=some u)
  (new:cD X.prog X.w (upd H x o) h' x o):Inv X pins σ (upd H x o) { s with heap:=h',toks:=t' }:=I.un (Un.write mu he k w6) (I.hok.write mu he k w6 new)
theorem Inv.ll {rT:List (Addr×Obj)} (I:Inv X pins σ H s) (h:∀ p∈rT,s.heap.get? p.1=some p.2/\H p.1=none/\p.1≠X.env.locals/\p.1 ∉ X.fs/\∀ v,p.2.data≠.cell v):Inv X rT σ H s :=
 ⟨I.ok,I.os,I.bare,I.base,I.loc,I.cell,I.free,I.jF,fun p hp=>(List.mem_append.mp hp).elim (fun z=>I.pin p (List.mem_append_left _ z)) (h p),I.hok,I.len⟩
theorem G4 {N:List Str} (hN:N.Nodup) {i j:Nat} {x:Str} (a:N[i]?=some x) (b:N[j]?=some x):i=j:=by
 obtain ⟨h1,e1⟩:=List.getElem?_eq_some_iff.mp a
 obtain ⟨h2,e2⟩:=List.getElem?_eq_some_iff.mp b
 exact (List.getElem_inj hN).mp (e1.trans e2.symm)
theorem G5 {M:Model} {A:Around} {E:Value->Shared->Prop} {i:Nat} {x:Str} {v:V} {u:Value} {Q:Unit->Shared->Prop} (I:Inv X pins σ H s) (hN:X.N.Nodup) (hi:X.N[i]?=some x) (hx:Loc X.env.scope x) (r:RelV v u)
  (h:∀ s',Inv X pins (σ.set i (some v)) H s'->(∃ a,Heap.SameBut a s.heap s'.heap/\(a=X.env.locals\/X.env.cells.lookup x=some a))->Q () s') (hf:X.fn x=true\/X.env.scope.names.lookup x=some .local:=by first | exact .inl rfl | exact .inr rfl | assumption):wpAny M A (storeName X.env x u) Q E s:=by
 obtain ⟨m,hn,hl⟩:=id I.loc
 have hcls:(X.env.scope.kind == .class || (X.env.scope.kind == .module && X.env.locals != X.env.globals))=false:=by rw [I.ok.kind];rfl
 have hiσ:i < σ.length:=by rw [I.len];exact (List.getElem?_eq_some_iff.mp hi).1
 have uc:=I.uc
 have tracked:∀ {a:Addr} {h':Heap},(∃ o,s.heap.get? a=some o/\H a=none)->Heap.SameBut a s.heap h'->ka X.prog X.w H h':=fun {a h'} ha hs b ob e=>by
  obtain ⟨_,_,hfree⟩:=ha
  refine (I.hok b ob e).stay (fun c w' hc q=>(hs.2 c ?_).trans q) (fun _ q=>q) fun _ _ q=>q
  rintro rfl
  rcases hc with rfl | hc
  ·rw [hfree] at e;cases e
  ·rw [hfree] at hc;cases hc
 rcases hx with hk | hk
 ·refine wpAny_storeName_local hk hn (fun h' hn' hs=>?_) hcls
  obtain ⟨oL,_,_,K1,_⟩:=id hn
  refine h _ ⟨I.ok,I.os,I.bare,⟨fun b o e n hb hx=>?_,fun b o e n hb hx=>?_,I.base.free,fun b o e hx=>?_,I.base.tups,I.base.mI,I.base.nC⟩,⟨_,hn',fun j y v' e1 e2 e3=>?_⟩,fun y c e=>?_,I.free,I.jF,fun p hp=>?_,tracked ⟨oL,K1,I.free⟩ hs,by simpa using I.len⟩ ⟨_,hs,.inl rfl⟩
  ·exact (hs.2 b (Nat.ne_of_lt (Nat.lt_of_lt_of_le (Heap.lt_size e) I.ok.above))).trans (I.base.keep b o e n hb hx)
  ·obtain ⟨sl,e1⟩:=I.base.slot b o e n hb hx
   exact ⟨sl,(hs.2 b (Nat.ne_of_lt (Nat.lt_of_lt_of_le (Heap.lt_size e) I.ok.above))).trans e1⟩
  ·obtain ⟨o',e1⟩:=I.base.there b o e hx
   exact ⟨o',(hs.2 b (Nat.ne_of_lt (Nat.lt_of_lt_of_le (Heap.lt_size e) I.ok.above))).trans e1⟩
  ·by_cases hj:j=i
   ·subst hj
    rw [hi] at e1;cases e1
    rw [List.getElem?_set_self hiσ] at e2
    cases e2
    exact ⟨u,r,.inl ⟨hk,by simp⟩⟩
   ·rw [List.getElem?_set_ne (Ne.symm hj)] at e2
    obtain ⟨u',r',q⟩:=hl j y v' e1 e2 e3
    refine ⟨u',r',?_⟩
    rcases q with ⟨k,e⟩ | ⟨k,c,e,z⟩
    ·refine .inl ⟨k,?_⟩
     have:y≠x:=fun e=>hj (G4 hN e1 (e ▸ hi))
     simp [this,e]
    ·exact .inr ⟨k,c,e,z.sameBut hs (uc y c e)⟩
  ·obtain ⟨w',z⟩:=I.cell y c e
   exact ⟨w',z.sameBut hs (uc y c e)⟩
  ·obtain ⟨e,n,ne,nf,d⟩:=I.pin p hp
   exact ⟨(hs.2 p.1 ne).trans e,n,ne,nf,d⟩
 ·have hfn:X.fn x=true:=by
   rcases hf with z | z
   ·exact z
   ·rw [z] at hk;cases hk
  obtain ⟨c,hc⟩:=I.ok.has x (.inl hk)
  obtain ⟨w',z⟩:=I.cell x c hc
  refine wpAny_storeName_cell I.ok.kind hk hc z (fun h' hc' hs=>?_)
  obtain ⟨oc,hoc,Ej⟩:=id z
  refine h { s with heap:=h' } ⟨I.ok,I.os,I.bare,⟨fun b o e n hb hx=>?_,fun b o e n hb hx=>?_,I.base.free,fun b o e hx=>?_,I.base.tups,I.base.mI,I.base.nC⟩,⟨m,hn.sameBut hs (Ne.symm (uc x c hc)),fun j y v' e1 e2 e3=>?_⟩,fun y c' e=>?_,I.free,I.jF,fun p hp=>?_,tracked ⟨oc,hoc,I.jF x c hc⟩ hs,by simpa using I.len⟩ ⟨c,hs,.inr hc⟩
  ·exact (hs.2 b (Nat.ne_of_lt (Nat.lt_of_lt_of_le (Heap.lt_size e) (I.ok.x6 x c hfn hc)))).trans (I.base.keep b o e n hb hx)
  ·obtain ⟨sl,e1⟩:=I.base.slot b o e n hb hx
   exact ⟨sl,(hs.2 b (Nat.ne_of_lt (Nat.lt_of_lt_of_le (Heap.lt_size e) (I.ok.x6 x c hfn hc)))).trans e1⟩
  ·obtain ⟨o',e1⟩:=I.base.there b o e hx
   exact ⟨o',(hs.2 b (Nat.ne_of_lt (Nat.lt_of_lt_of_le (Heap.lt_size e) (I.ok.x6 x c hfn hc)))).trans e1⟩
  ·by_cases hj:j=i
   ·subst hj
    rw [hi] at e1;cases e1
    rw [List.getElem?_set_self hiσ] at e2
    cases e2
    exact ⟨u,r,.inr ⟨.inl hk,c,hc,hc'⟩⟩
   ·rw [List.getElem?_set_ne (Ne.symm hj)] at e2
    obtain ⟨u',r',q⟩:=hl j y v' e1 e2 e3
    refine ⟨u',r',?_⟩
    rcases q with q | ⟨k,c',e,z'⟩
    ·exact .inl q
    ·refine .inr ⟨k,c',e,z'.sameBut hs ?_⟩
     rintro rfl
     exact hj (G4 hN e1 (I.ok.inj _ _ _ e hc ▸ hi))
  ·by_cases hcc:c'=c
   ·subst hcc;exact ⟨_,hc'⟩
   ·obtain ⟨w2,z2⟩:=I.cell y c' e
    exact ⟨w2,z2.sameBut hs hcc⟩
  ·obtain ⟨e,n,ne,nf,d⟩:=I.pin p hp
   refine ⟨(hs.2 p.1 ?_).trans e,n,ne,nf,d⟩
   intro q
   rw [q,hoc] at e
   have q':oc=p.2:=Option.some.inj e
   exact d w' (by rw [<- q'];exact Ej)
theorem BZ {M:Model} {A:Around} {E:Value->Shared->Prop} {i:Nat} {x:Str} {v:V} {u:Value} {Q:Unit->Shared->Prop} (I:Inv X pins σ H s) (hN:X.N.Nodup) (hi:X.N[i]?=some x) (hx:Loc X.env.scope x) (r:RelV v u)
  (h:∀ s',Inv X pins (σ.set i (some v)) H s'->Q () s') (hf:X.fn x=true\/X.env.scope.names.lookup x=some .local:=by first | exact .inl rfl | exact .inr rfl | assumption):wpAny M A (storeName X.env x u) Q E s :=
 G5 I hN hi hx r (fun s' I' _=>h s' I') hf
theorem Inv.yb {s':Shared} {ch:List Addr} (I:Inv X pins σ H s) (ho:s'.os=s.os) (u:Un (frs X.stack) ch H H' s.heap s'.heap) (hok:ka X.prog X.w H' s'.heap) (hg:AllBare s'.gens)
  (hch:∀ b∈ch,(b∈X.ex\/X.s₀.heap.objs.size<=b)/\b≠X.env.locals/\(∀ x c,X.env.cells.lookup x=some c->c≠b)/\∀ p∈X.pn ++ pins,p.1≠b):Inv X pins σ H' s':=by
 obtain ⟨h',g',d',t',o'⟩:=s'
 have e:o'=s.os:=ho
 subst e
 exact I.call (g':=g') (t':=t') (d':=d') u hok hg hch
end
abbrev XK:=Value->Option Addr->Hp->Prop
abbrev St:=List (Option V)
abbrev VK:=V->Hp->Prop
abbrev TE:=St->Hp->VK->Prop
abbrev TT:=St->Hp->(Bool->Hp->Prop)->Prop
abbrev TA:=St->Hp->(List V->Hp->Prop)->Prop
set_option genInjectivity false in
structure Ends where
 nx:St->Hp->Prop
 rt:VK
 bk:St->Hp->Prop:=fun _ _=>False
 ct:St->Hp->Prop:=fun _ _=>False
abbrev TS:=Ends->St->Hp->Prop
def EP (X:Cx) (pins:List (Addr×Obj)) (σ:St) (Q:VK) (u:Value) (s':Shared):Prop:=∃ v H',Inv X pins σ H' s'/\RelV v u/\Q v H'
def TP (X:Cx) (pins:List (Addr×Obj)) (σ:St) (Q:Bool->Hp->Prop) (b:Bool) (s':Shared):Prop:=∃ H',Inv X pins σ H' s'/\Q b H'
def AP (X:Cx) (pins:List (Addr×Obj)) (σ:St) (Q:List V->Hp->Prop) (us:List Value) (s':Shared):Prop:=∃ vs H',Inv X pins σ H' s'/\Vals vs us/\Q vs H'
def SP (X:Cx) (pins:List (Addr×Obj)) (D:Ends) (f:Flow) (s':Shared):Prop :=
 match f with
 | .next=>∃ σ' H',Inv X pins σ' H' s'/\D.nx σ' H'
 | .brk=>∃ σ' H',Inv X pins σ' H' s'/\D.bk σ' H'
 | .cont=>∃ σ' H',Inv X pins σ' H' s'/\D.ct σ' H'
 | .ret u=>∃ v σ' H',Inv X pins σ' H' s'/\RelV v u/\D.rt v H'
def PE (X:Cx) (e:Expr) (t:TE):Prop :=
 ∀ (pins:List (Addr×Obj)) (s:Shared) (σ:St) (H:Hp) (Q:VK),Inv X pins σ H s->t σ H Q->wpAny (model X.prog X.w) X.A (eval e X.env) (EP X pins σ Q) X.xe s
def PT (X:Cx) (e:Expr) (t:TT):Prop :=
 ∀ (pins:List (Addr×Obj)) (s:Shared) (σ:St) (H:Hp) (Q:Bool->Hp->Prop),Inv X pins σ H s->t σ H Q->wpAny (model X.prog X.w) X.A (isTrue e X.env (eval e X.env)) (TP X pins σ Q) X.xe s
def PW (X:Cx) (e:Expr) (t:TT):Prop :=
 ∀ (whole:Sem Value) (pins:List (Addr×Obj)) (s:Shared) (σ:St) (H:Hp) (Q:Bool->Hp->Prop),Inv X pins σ H s->t σ H Q->wpAny (model X.prog X.w) X.A (isTrue e X.env whole) (TP X pins σ Q) X.xe s
theorem PW.pt {X:Cx} {e:Expr} {t:TT} (h:PW X e t):PT X e t:=h _
def PA (X:Cx) (es:List Expr) (t:TA):Prop :=
 ∀ (pos:Pos) (pins:List (Addr×Obj)) (s:Shared) (σ:St) (H:Hp) (Q:List V->Hp->Prop),Inv X pins σ H s->t σ H Q->wpAny (model X.prog X.w) X.A (spliced (backTo pos (starEach es X.env))) (AP X pins σ Q) X.xe s
def PS (X:Cx) (st:Stmt) (t:TS):Prop :=
 ∀ (pins:List (Addr×Obj)) (s:Shared) (σ:St) (H:Hp) (D:Ends),Inv X pins σ H s->t D σ H->wpAny (model X.prog X.w) X.A (exec st X.env) (SP X pins D) X.xe s
def oR (X:Cx) (st:List Stmt) (t:TS):Prop :=
 ∀ (pins:List (Addr×Obj)) (s:Shared) (σ:St) (H:Hp) (D:Ends),Inv X pins σ H s->t D σ H->wpAny (model X.prog X.w) X.A (execs st X.env) (SP X pins D) X.xe s
theorem cB {α:Type} {t:Sem α} {Q Q':α->Shared->Prop} {M:Model} {A:Around} {E:Value->Shared->Prop} {s:Shared} (h:wpAny M A t Q E s) (hQ:∀ a s,Q a s->Q' a s):wpAny M A t Q' E s:=wpAny_mono h hQ fun _ _ x=>x
end L2
namespace L2
open PySem PySem.Spec PyProof.Rows
section
variable {X:Cx}
theorem bin {a b:Expr} {ta tb:TE} (ha:PE X a ta) (hb:PE X b tb) {pins:List (Addr×Obj)} {s:Shared} {σ:St} {H:Hp} {R:V->V->Hp->Prop} (I:Inv X pins σ H s) (h:ta σ H fun x H1=>tb σ H1 fun y H2=>R x y H2)
  {α:Type} {Q:α->Shared->Prop} {f:Value->Value->Sem α}
  (hf:∀ v u s2 x y H2,Inv X pins σ H2 s2->RelV x v->RelV y u->R x y H2->wpAny (model X.prog X.w) X.A (f v u) Q X.xe s2) :
  wpAny (model X.prog X.w) X.A (eval a X.env) (fun v s₁=>wpAny (model X.prog X.w) X.A (eval b X.env) (fun u s₂=>wpAny (model X.prog X.w) X.A (f v u) Q X.xe s₂) X.xe s₁) X.xe s:=by
 refine cB (ha pins s σ H _ I h) fun v s1 ⟨x,H1,I1,r1,q1⟩=>?_
 refine cB (hb pins s1 σ H1 _ I1 q1) fun u s2 ⟨y,H2,I2,r2,q2⟩=>?_
 exact hf v u s2 x y H2 I2 r1 r2 q2
def uf (i:Nat):TE:=fun σ H Q=>∃ v,σ[i]?=some (some v)/\Q v H
def tC (v:V):TE:=fun _ H Q=>Q v H
theorem ug {i:Nat} {x:Str} {pos:Pos} (hN:X.N[i]?=some x) (hv:Eg X.env.scope x) (hd:(x == ("__debug__" : Str))=false:=by decide) (hcd:(x == ("__classdict__" : Str))=false:=by decide):PE X (.Name x pos) (uf i):=by
 intro pins s σ H Q I h
 obtain ⟨v,e,h⟩:=h
 obtain ⟨m,hn,hl⟩:=I.loc
 obtain ⟨u,r,l⟩:=hl i x v hN e hv
 have fin:EP X pins σ Q u s:=⟨v,H,I,r,h⟩
 rcases l with ⟨hk,hm⟩ | ⟨hk,c,hc,hcell⟩
 ·exact wpAny_Name (wpAny_loadName_local I.ok.kind hk hn hm fin) hd
 ·rcases hk with hk | hk
  ·exact wpAny_Name (wpAny_loadName_cell I.ok.kind hk hc hcell fin) hd
  ·exact wpAny_Name (wpAny_loadName_free I.ok.kind hk hc hcell fin hcd) hd
theorem aM {i j pos}:PE X (.Constant (.int i) j pos) (tC (.int i)):=fun _ _ _ H _ I h=>wpAny_Constant_int ⟨.int i,H,I.tok _,⟨_,rfl⟩,h⟩
theorem yc {b j pos}:PE X (.Constant (.bool b) j pos) (tC (.bl b)):=fun _ _ _ H _ I h=>Constant_bool ⟨.bl b,H,I,rfl,h⟩
theorem oh {x j pos}:PE X (.Constant (.str x) j pos) (tC (.str x)):=fun _ _ _ H _ I h=>Calls.Constant_str ⟨.str x,H,I.tok _,⟨_,rfl⟩,h⟩
def Gl (X:Cx) (x:Str):Prop:=X.env.kindOf x=some .globalImplicit
theorem G6 {E:Value->Shared->Prop} {pins:List (Addr×Obj)} {s:Shared} {σ:St} {H:Hp} {x:Str} {u:Value} {pos:Pos} {Q:Value->Shared->Prop} (I:Inv X pins σ H s) (hg:Gl X x) (hm:X.mg x=some u) (h:Q u s)
  (hd:(x == ("__debug__" : Str))=false:=by decide):wpAny (model X.prog X.w) X.A (eval (.Name x pos) X.env) Q E s :=
 Calls.Name_function_global I.ok.kind hg (Calls.loadGlobal_global (by rw [I.ok.glob];exact I.mod.glob.keeps I.bk) hm h) hd
theorem yd {E:Value->Shared->Prop} {pins:List (Addr×Obj)} {s:Shared} {σ:St} {H:Hp} {x:Str} {u:Value} {pos:Pos} {Q:Value->Shared->Prop} (I:Inv X pins σ H s) (hg:Gl X x) (hm:X.mg x=none) (hv:bootBuiltins x=some u) (h:Q u s)
  (hn:x≠"__name__" := by decide) (hd:(x == ("__debug__" : Str))=false:=by decide):wpAny (model X.prog X.w) X.A (eval (.Name x pos) X.env) Q E s:=by
 obtain ⟨mb,h1,h2⟩:=I.mod.blt
 exact Calls.Name_function_global I.ok.kind hg (Calls.loadGlobal_builtin (by rw [I.ok.glob];exact I.mod.glob.keeps I.bk) hm (by rw [I.ok.blt];exact h1.keeps I.bk) ((h2 x hn).trans hv) h) hd
theorem K2 {x:Str} {v:V} {u:Value} {pos:Pos} (hg:Gl X x) (hm:X.mg x=some u) (r:RelV v u) (hd:(x == ("__debug__" : Str))=false:=by decide):PE X (.Name x pos) (tC v) :=
 fun _ _ _ H _ I h=>G6 I hg hm ⟨v,H,I,r,h⟩ hd
variable {a b:Expr} {ta tb:TE} {pos:Pos}
def PC (X:Cx) (op:CmpOp) (a b:Expr) (t:TE):Prop :=
 ∀ (pins:List (Addr×Obj)) (s:Shared) (σ:St) (H:Hp) (Q:VK),Inv X pins σ H s->t σ H Q ->
  wpAny (model X.prog X.w) X.A (eval a X.env) (fun v s₁=>wpAny (model X.prog X.w) X.A (eval b X.env) (fun u s₂=>wpAny (model X.prog X.w) X.A (compareOp op v u) (EP X pins σ Q) X.xe s₂) X.xe s₁) X.xe s
theorem pH (b:Expr) {op:CmpOp} (h:op≠.In) (h2:op≠.NotIn):behindInMarks op b=false:=by
 have e1:(op == CmpOp.In)=false:=by cases op <;> first | rfl | exact absurd rfl h
 have e2:(op == CmpOp.NotIn)=false:=by cases op <;> first | rfl | exact absurd rfl h2
 cases b <;> simp [behindInMarks,e1,e2]
def tB (t:TE):TT:=fun σ H Q=>t σ H fun x H1=>∃ c,x=.bl c/\Q c H1
theorem uh {op:CmpOp} {t:TE} (h:PC X op a b t) (h1:behindInMarks op b=false:=by first | exact pH _ (by decide) (by decide) | rfl):PT X (.Compare a [op] [b] pos) (tB t):=by
 intro pins s σ H Q I hw
 refine wpAny_isTrue_Compare1 (cB (h pins s σ H _ I hw) fun v s1 h1=>cB h1 fun u s2 h2=>cB h2 fun c s3 ⟨x,H1,I1,r1,q1⟩=>?_) h1
 obtain ⟨d,rfl,q⟩:=q1
 cases r1
 exact wpAny_truthy_bool ⟨H1,I1,q⟩
theorem Ek {e:Expr} {t:TE} (h:PE X e t) (he:∀ whole,isTrue e X.env whole=(do let v <- whole;standAt e.pos;holding [v] (truthy v)):=by intro _;rfl):PT X e (tB t):=by
 intro pins s σ H Q I hw
 refine isTrue_plain (cB (h pins s σ H _ I hw) fun v s1 ⟨x,H1,I1,r1,q1⟩=>?_) (he _)
 obtain ⟨d,rfl,q⟩:=q1
 cases r1
 exact wpAny_truthy_bool ⟨H1,I1,q⟩
variable {tA B0:TT} {rest:List Expr}
def ye (t u:TT):TT:=fun σ H Q=>t σ H fun c H1=>if c=true then u σ H1 Q else Q false H1
def G7 (t u:TT):TT:=fun σ H Q=>t σ H fun c H1=>if c=true then Q true H1 else u σ H1 Q
def yf (t:TT):TT:=fun σ H Q=>t σ H fun c H1=>Q (!c) H1
theorem G8 (ha:PT X a tA):PW X (.BoolOp .And [a] pos) tA:=by
 intro wh pins s σ H Q I h
 refine isTrue_and (cB (ha pins s σ H Q I h) fun c s1 e=>?_)
 cases c with
 | true=>exact isTrue_and_nil e
 | false=>exact e
theorem G9 (ha:PT X a tA):PW X (.BoolOp .Or [a] pos) tA:=by
 intro wh pins s σ H Q I h
 refine isTrue_or (cB (ha pins s σ H Q I h) fun c s1 e=>?_)
 cases c with
 | false=>exact isTrue_or_nil e
 | true=>exact e
theorem Ha (ha:PT X a tA) (hb:PW X (.BoolOp .And (b :: rest) pos) B0):PW X (.BoolOp .And (a :: b :: rest) pos) (ye tA B0):=by
 intro wh pins s σ H Q I h
 refine isTrue_and (cB (ha pins s σ H _ I h) fun c s1 ⟨H1,I1,q1⟩=>?_)
 cases c with
 | true=>exact hb wh pins s1 σ H1 Q I1 q1
 | false=>exact ⟨H1,I1,q1⟩
theorem El (ha:PT X a tA) (hb:PW X (.BoolOp .Or (b :: rest) pos) B0):PW X (.BoolOp .Or (a :: b :: rest) pos) (G7 tA B0):=by
 intro wh pins s σ H Q I h
 refine isTrue_or (cB (ha pins s σ H _ I h) fun c s1 ⟨H1,I1,q1⟩=>?_)
 cases c with
 | true=>exact ⟨H1,I1,q1⟩
 | false=>exact hb wh pins s1 σ H1 Q I1 q1
theorem Em (ha:PT X a tA):PT X (.UnaryOp .Not a pos) (yf tA):=by
 intro pins s σ H Q I h
 exact isTrue_not (ha pins s σ H (fun c H1=>Q (!c) H1) I h)
def rV (ta tb:TE):TE:=fun σ H Q=>ta σ H fun x H1=>∃ c,x=.bl c/\if c=true then tb σ H1 Q else Q (.bl false) H1
theorem ui {op} {t:TE} (h:PE X a t):PE X (.BoolOp op [a] pos) t:=fun pins s σ H Q I hw=>BoolOp_one (h pins s σ H Q I hw)
theorem uj (ha:PE X a ta) (hb:PE X (.BoolOp .And (b :: rest) pos) tb):PE X (.BoolOp .And (a :: b :: rest) pos) (rV ta tb):=by
 intro pins s σ H Q I h
 refine BoolOp_and (cB (ha pins s σ H _ I h) fun v s1 ⟨x,H1,I1,r1,q1⟩=>?_)
 obtain ⟨c,rfl,q1⟩:=q1
 cases r1
 refine wpAny_truthy_bool ?_
 cases c with
 | true=>exact hb pins s1 σ H1 Q I1 q1
 | false=>exact ⟨.bl false,H1,I1,rfl,q1⟩
end
end L2
namespace L2
open PySem PySem.Spec PyProof.Rows
def jB (K:PySem.W.Frag) (H:Hp) (a:Addr) (xs:List V):Prop :=
 Rd H a (.lst xs) \/
  ∃ (o:Obj) (its:Array Value) (n:Nat),K.lookup a=some o/\o.cls=.type "list" /\ o.dict=none/\o.data=.seq its n/\its.size<=sizeLine/\Vals xs its.toList
def eY (K:PySem.W.Frag) (H:Hp) (a:Addr) (xs:List V):Prop :=
 Rd H a (.tup xs) \/
  ∃ (o:Obj) (its:Array Value) (n:Nat),K.lookup a=some o/\o.cls=.type "tuple" /\ o.dict=none/\o.data=.seq its n/\its.size<=sizeLine/\Vals xs its.toList
def En:Value->Option V
 | .none=>some .non
 | .bool b=>some (.bl b)
 | .int i _=>some (.int i)
 | .str x _=>some (.str x)
 | .bytes b _=>some (.pE b)
 | .float b _=>some (.Ec b)
 | .ref a=>some (.ref a)
 | .type n=>some (.ty n)
 | _=>none
theorem RelV.abs {x:V} {u:Value} (r:RelV x u):En u=some x:=by
 cases x with
 | non=>cases r;rfl
 | bl _=>cases r;rfl
 | int _=>obtain ⟨t,rfl⟩:=r;rfl
 | str _=>obtain ⟨t,rfl⟩:=r;rfl
 | pE _=>obtain ⟨t,rfl⟩:=r;rfl
 | Ec _=>obtain ⟨t,rfl⟩:=r;rfl
 | ref _=>cases r;rfl
 | ty _=>cases r;rfl
theorem RelV.inj {x y:V} {u:Value} (r:RelV x u) (q:RelV y u):x=y:=Option.some.inj (r.abs.symm.trans q.abs)
theorem Vals.inj:∀ {xs ys:List V} {us:List Value},Vals xs us->Vals ys us->xs=ys
 | _,_,_,.nil,.nil=>rfl
 | _,_,_,.cons r t,.cons r' t'=>by rw [r.inj r',Vals.inj t t']
section
variable {X:Cx} {pins:List (Addr×Obj)} {σ:St} {H:Hp} {s:Shared} {a:Addr} {xs ys:List V}
theorem eY.of {K:PySem.W.Frag} (h:H a=some (.tup xs)):eY K H a xs:=.inl (.inl h)
theorem Inv.list (I:Inv X pins σ H s) (h:jB X.K H a xs):∃ its:List Value,Vals xs its/\PlainL s.heap a its.toArray/\xs.length<=sizeLine:=by
 rcases h with h | ⟨o,its,n,hk,hc,hd,hs,hz,r⟩
 ·obtain ⟨z,its,n,r,e⟩:=h.ok I.hok
  exact ⟨its,r,⟨_,n,e,rfl,rfl,rfl⟩,z⟩
 ·refine ⟨its.toList,r,⟨o,n,I.BW a o hk,hc,hd,by simpa using hs⟩,?_⟩
  have e:=r.length
  simp only [Array.length_toList] at e
  omega
theorem Inv.nS (I:Inv X pins σ H s) (h:eY X.K H a xs):∃ its:List Value,Vals xs its/\mH s.heap a its.toArray/\xs.length<=sizeLine:=by
 rcases h with h | ⟨o,its,n,hk,hc,hd0,hs,hz,r⟩
 ·obtain ⟨z,its,r,p⟩:=h.ok I.hok
  exact ⟨its,r,p,z⟩
 ·refine ⟨its.toList,r,⟨o,I.BW a o hk,hc,hd0,n,by simpa using hs⟩,?_⟩
  have e:=r.length
  simp only [Array.length_toList] at e
  omega
theorem Inv.tuple (I:Inv X pins σ H s) (h:eY X.K H a xs):∃ its:List Value,Vals xs its/\IsTup s.heap a its.toArray/\xs.length<=sizeLine :=
 let ⟨its,r,p,z⟩:=I.nS h
 ⟨its,r,p.tup,z⟩
theorem Inv.nD (I:Inv X pins σ H s) (h:jB X.K H a xs) (h':jB X.K H a ys):xs=ys:=by
 obtain ⟨its,r,⟨o,n,e,_,_,d⟩,_⟩:=I.list h
 obtain ⟨its',r',⟨o',n',e',_,_,d'⟩,_⟩:=I.list h'
 rw [e] at e';cases e'
 rw [d] at d'
 injection d' with d1 _
 have:its=its':=by simpa using congrArg Array.toList d1
 subst this
 exact r.inj r'
theorem Inv.gy (I:Inv X pins σ H s) (h:eY X.K H a xs) (h':eY X.K H a ys):xs=ys:=by
 obtain ⟨its,r,⟨o,e,_,n,d⟩,_⟩:=I.tuple h
 obtain ⟨its',r',⟨o',e',_,n',d'⟩,_⟩:=I.tuple h'
 rw [e] at e';cases e'
 rw [d] at d'
 injection d' with d1 _
 have:its=its':=by simpa using congrArg Array.toList d1
 subst this
 exact r.inj r'
end
abbrev Cx.wish (X:Cx) (E:Value->Shared->Prop):Cx:={ X with xe:=E }
abbrev Cx.nT (X:Cx):Cx:=X.wish fun _ _=>False
theorem Cx.Ok.wish {X:Cx} (ok:X.Ok) (E:Value->Shared->Prop):(X.wish E).Ok :=
 ⟨ok.mod,ok.kind,ok.glob,ok.blt,ok.above,ok.inj,ok.has,ok.x6,ok.hd,ok.frames,ok.stk,ok.G3,ok.bs,ok.rS,ok.pF,ok.qR,ok.lD,ok.w8⟩
theorem Cx.Ok.iM {X:Cx} {E:Value->Shared->Prop} (ok:(X.wish E).Ok):X.Ok :=
 ⟨ok.mod,ok.kind,ok.glob,ok.blt,ok.above,ok.inj,ok.has,ok.x6,ok.hd,ok.frames,ok.stk,ok.G3,ok.bs,ok.rS,ok.pF,ok.qR,ok.lD,ok.w8⟩
section
variable {X:Cx} {pins:List (Addr×Obj)} {σ:St} {H:Hp} {s:Shared} {E:Value->Shared->Prop}
theorem Inv.wish (I:Inv X pins σ H s) (E:Value->Shared->Prop):Inv (X.wish E) pins σ H s:=⟨I.ok.wish E,I.os,I.bare,I.base,I.loc,I.cell,I.free,I.jF,I.pin,I.hok,I.len⟩
theorem Inv.iM (I:Inv (X.wish E) pins σ H s):Inv X pins σ H s:=⟨I.ok.iM,I.os,I.bare,I.base,I.loc,I.cell,I.free,I.jF,I.pin,I.hok,I.len⟩
theorem SP.iM {D:Ends} {f:Flow} {s':Shared} (h:SP (X.wish E) pins D f s'):SP X pins D f s':=by
 cases f with
 | next=>obtain ⟨σ',H',I,q⟩:=h;exact ⟨σ',H',I.iM,q⟩
 | brk=>obtain ⟨σ',H',I,q⟩:=h;exact ⟨σ',H',I.iM,q⟩
 | cont=>obtain ⟨σ',H',I,q⟩:=h;exact ⟨σ',H',I.iM,q⟩
 | ret u=>obtain ⟨v,σ',H',I,r,q⟩:=h;exact ⟨v,σ',H',I.iM,r,q⟩
theorem oR.nT {st:List Stmt} {t:TS} (h:oR X.nT st t):oR X st t:=fun pins s σ H D I hw =>
 wpAny_mono (h pins s σ H D (I.wish _) hw) (fun _ _ q=>q.iM) fun _ _ z=>False.elim z
end
section
variable {X:Cx} {st:Stmt} {rest:List Stmt} {t u:TS} {e:Expr} {te:TE} {pos:Pos}
def rW:TS:=fun D σ H=>D.nx σ H
def yg (t u:TS):TS:=fun D σ H=>t { D with nx:=u D } σ H
theorem lp:oR X [] rW:=fun _ _ σ H _ I h=>wpAny_execs_nil ⟨σ,H,I,h⟩
theorem bD (h1:PS X st t) (h2:oR X rest u):oR X (st :: rest) (yg t u):=by
 intro pins s σ H D I h
 refine wpAny_execs_cons (cB (h1 pins s σ H { D with nx:=u D } I h) fun f s1 q=>?_)
 cases f with
 | next =>
  obtain ⟨σ',H',I',q⟩:=q
  exact h2 pins s1 σ' H' D I' q
 | ret v=>exact q
 | brk=>exact q
 | cont=>exact q
theorem bz (h1:PS X st t):oR X [st] t:=by
 intro pins s σ H D I h
 refine wpAny_execs_cons (cB (h1 pins s σ H D I h) fun f s1 q=>?_)
 cases f with
 | next=>exact wpAny_execs_nil q
 | ret v=>exact q
 | brk=>exact q
 | cont=>exact q
theorem Inv.quiet {pins:List (Addr×Obj)} {σ:St} {H:Hp} {s:Shared} (I:Inv X pins σ H s):interactive X.env=false:=by simp [interactive,I.ok.kind]
def rX (te:TE):TS:=fun D σ H=>te σ H fun _ H1=>D.nx σ H1
theorem rY (he:PE X e te) (hs:swapsWith e none pos.line X.env=pure false:=by rfl):PS X (.Expr e pos) (rX te):=by
 intro pins s σ H D I h
 exact wpAny_Expr_any (cB (he pins s σ H _ I h) fun v s1 ⟨x,H1,I1,r1,q1⟩=>⟨σ,H1,I1,q1⟩) I.quiet hs
def yh (te:TE):TS:=fun D σ H=>te σ H D.rt
theorem dC (he:PE X e te):PS X (.Return (some e) pos) (yh te):=by
 intro pins s σ H D I h
 exact wpAny_Return_some (cB (he pins s σ H _ I h) fun v s1 ⟨x,H1,I1,r1,q1⟩=>⟨x,σ,H1,I1,r1,q1⟩)
def yi (c:TT) (t u:TS):TS:=fun D σ H=>c σ H fun b H1=>if b=true then t D σ H1 else u D σ H1
theorem kq {c:Expr} {a b:List Stmt} {tc:TT} (hc:PT X c tc) (ha:oR X a t) (hb:oR X b u):PS X (.If c a b pos) (yi tc t u):=by
 intro pins s σ H D I h
 refine wpAny_If (cB (hc pins s σ H _ I h) fun d s1 ⟨H1,I1,q1⟩=>?_)
 cases d with
 | true=>exact ha pins s1 σ H1 D I1 q1
 | false=>exact hb pins s1 σ H1 D I1 q1
def pI:TS:=fun _ _ _=>False
theorem K3:PS X st pI:=fun _ _ _ _ _ _ h=>h.elim
end
abbrev TG:=V->St->Hp->(St->Hp->Prop)->Prop
abbrev qy:=List V->St->Hp->(St->Hp->Prop)->Prop
def PG (X:Cx) (target:Expr) (t:TG):Prop :=
 ∀ (pins:List (Addr×Obj)) (s:Shared) (σ:St) (H:Hp) (v:V) (u:Value) (Q:St->Hp->Prop),Inv X pins σ H s->RelV v u->t v σ H Q ->
  wpAny (model X.prog X.w) X.A (assign target X.env u) (fun _ s'=>∃ σ' H',Inv X pins σ' H' s'/\Q σ' H') X.xe s
def B1 (X:Cx) (ts:List Expr) (t:qy):Prop :=
 ∀ (pins:List (Addr×Obj)) (s:Shared) (σ:St) (H:Hp) (vs:List V) (us:List Value) (Q:St->Hp->Prop),Inv X pins σ H s->Vals vs us->t vs σ H Q ->
  wpAny (model X.prog X.w) X.A (assignInOrder ((assignEach ts X.env).map (·.2)) us) (fun _ s'=>∃ σ' H',Inv X pins σ' H' s'/\Q σ' H') X.xe s
abbrev uk:=V->V->V->Hp->(Hp->Prop)->Prop
def yj (X:Cx) (t:uk):Prop :=
 ∀ (pins:List (Addr×Obj)) (s:Shared) (σ:St) (H:Hp) (o i v:V) (ov iv u:Value) (Q:Hp->Prop),Inv X pins σ H s->RelV o ov->RelV i iv->RelV v u->t o i v H Q ->
  wpAny (model X.prog X.w) X.A (setItem ov iv u) (fun _ s'=>∃ H',Inv X pins σ H' s'/\Q H') X.xe s
section
variable {X:Cx} {pos:Pos}
def nE (i:Nat):TG:=fun v σ H Q=>Q (σ.set i (some v)) H
theorem eZ {i:Nat} {x:Str} (hN:X.N.Nodup) (hi:X.N[i]?=some x) (hx:Loc X.env.scope x) (hf:X.fn x=true\/X.env.scope.names.lookup x=some .local:=by first | exact .inl rfl | exact .inr rfl | assumption):PG X (.Name x pos) (nE i):=by
 intro pins s σ H v u Q I r h
 exact wpAny_assign_Name (BZ I hN hi hx r (fun s' I'=>⟨_,H,I',h⟩) hf)
def yk:qy:=fun vs σ H Q=>vs=[]/\Q σ H
def rZ (t:TG) (u:qy):qy:=fun vs σ H Q=>∃ v r,vs=v :: r/\t v σ H fun σ' H'=>u r σ' H' Q
theorem r6:B1 X [] yk:=by
 intro pins s σ H vs us Q I r h
 obtain ⟨e,h⟩:=h
 subst e
 cases r
 exact assignInOrder_nil ⟨σ,H,I,h⟩
theorem mw {e:Expr} {es:List Expr} {t:TG} {u:qy} (h1:PG X e t) (h2:B1 X es u)
  (hs:(assignEach (e :: es) X.env).map (·.2)=assign e X.env :: (assignEach es X.env).map (·.2):=by rfl):B1 X (e :: es) (rZ t u):=by
 intro pins s σ H vs us Q I r h
 obtain ⟨v,vr,e1,h⟩:=h
 subst e1
 cases r with
 | cons r rr =>
  rw [hs]
  refine assignInOrder_cons (cB (h1 pins s σ H _ _ _ I r h) fun _ s1 ⟨σ1,H1,I1,q1⟩=>?_)
  exact h2 pins s1 σ1 H1 _ _ Q I1 rr q1
def yl (K:PySem.W.Frag) (n:Nat) (t:qy):TG:=fun v σ H Q=>∃ a xs,v=.ref a/\eY K H a xs/\xs.length=n/\t xs σ H Q
theorem r9 {es:List Expr} {k:Nat} {t:qy} {n:Nat} (hc:X.calm=true) (h:B1 X es t)
  (hn:(assignEach es X.env).length=n:=by rfl) (hst:(assignEach es X.env).findIdx? (·.1)=none:=by rfl):PG X (.Tuple es k pos) (yl X.K n t):=by
 intro pins s σ H v u Q I r hw
 obtain ⟨a,xs,e1,hq,hl,hw⟩:=hw
 subst e1
 cases r
 obtain ⟨its,rv,ht,hz⟩:=I.tuple hq
 refine assign_Tuple_tuple (I.ok.hd hc) ht (by simp [hn,<- hl,rv.length]) hst fun h' hx=>?_
 have I1:Inv X pins σ H { s with heap:=h' }:=I.kept (t':=s.toks) fun b o e=>hx b o (Nat.ne_of_lt (Heap.lt_size e)) e
 exact h pins _ σ H xs _ Q I1 (by simpa using rv) hw
def l8 (to ti:TE) (t:uk):TG:=fun v σ H Q=>to σ H fun o H1=>ti σ H1 fun i H2=>t o i v H2 fun H3=>Q σ H3
theorem xa {o i:Expr} {to ti:TE} {t:uk} (ho:PE X o to) (hi:PE X i ti) (hs:yj X t)
  (ha:∀ v,assign (.Subscript o i pos) X.env v=(do
   let ov <- holding [v] (eval o X.env)
   let iv <- holding [v,ov] (eval i X.env)
   standAt pos
   holding [v,ov,iv] (setItem ov iv v)
   release [v,ov,iv] []):=by intro _;rfl):PG X (.Subscript o i pos) (l8 to ti t):=by
 intro pins s σ H v u Q I r h
 rw [ha]
 refine wpAny_bind (wpAny_holding (cB (ho pins s σ H _ I h) fun ov s1 ⟨x,H1,I1,r1,q1⟩=>?_))
 refine wpAny_bind (wpAny_holding (cB (hi pins s1 σ H1 _ I1 q1) fun iv s2 ⟨y,H2,I2,r2,q2⟩=>?_))
 refine wpAny_bind (wpAny_standAt (wpAny_bind (wpAny_holding (cB (hs pins s2 σ H2 x y v ov iv u _ I2 r1 r2 r q2) fun _ s3 ⟨H3,I3,q3⟩=>?_))))
 exact wpAny_release ⟨σ,H3,I3,q3⟩
def qS (te:TE) (g:TG):TS:=fun D σ H=>te σ H fun x H1=>g x σ H1 D.nx
theorem qT {tg e:Expr} {te:TE} {g:TG} (he:PE X e te) (hg:PG X tg g) (hs:swapsWithSole [tg] e pos.line X.env=pure false:=by rfl) (hw:swappedStores [tg] e X.env=pure none:=by rfl)
  (h1:(assignEach [tg] X.env).map (·.2)=[assign tg X.env]:=by rfl):PS X (.Assign [tg] e pos) (qS te g):=by
 intro pins s σ H D I h
 refine wpAny_Assign_stores (cB (he pins s σ H _ I h) fun v s1 ⟨x,H1,I1,r1,q1⟩=>?_) hs hw
 rw [h1]
 exact cB (hg pins s1 σ H1 x v _ I1 r1 q1) fun _ s2 q=>q
theorem cM {i:Nat} {x:Str} {e:Expr} {te:TE} {pos':Pos} (hN:X.N.Nodup) (hi:X.N[i]?=some x) (hx:Loc X.env.scope x) (he:PE X e te) (hs:swapsWith e (some (.Name x pos')) pos.line X.env=pure false:=by rfl) (hf:X.fn x=true\/X.env.scope.names.lookup x=some .local:=by first | exact .inl rfl | exact .inr rfl | assumption) :
  PS X (.Assign [.Name x pos'] e pos) (qS te (nE i)):=by
 intro pins s σ H D I h
 refine wpAny_Assign_Name (cB (he pins s σ H _ I h) fun v s1 ⟨y,H1,I1,r1,q1⟩=>?_) hs
 exact BZ I1 hN hi hx r1 (fun s2 I2=>⟨_,H1,I2,q1⟩) hf
def ym (i j:Nat) (ta:TA):TS:=fun D σ H=>ta σ H fun vs H1=>∃ v w,vs=[v,w]/\D.nx ((σ.set i (some v)).set j (some w)) H1
theorem Eo {i j:Nat} {x y:Str} {a b:Expr} {ta:TA} {px py pt:Pos} {kt k2 Ep} (hc:X.calm=true) (hN:X.N.Nodup) (hi:X.N[i]?=some x) (hj:X.N[j]?=some y) (hij:i≠j)
  (hx:X.env.scope.names.lookup x=some .local) (hy:X.env.scope.names.lookup y=some .local) (ha:PA X [a,b] ta)
  (hw:swappedStores [.Tuple [.Name x px,.Name y py] kt pt] (.Tuple [a,b] k2 Ep) X.env=pure (some [x,y]))
  (hs:swapsWithSole [.Tuple [.Name x px,.Name y py] kt pt] (.Tuple [a,b] k2 Ep) pos.line X.env=pure false:=by rfl) :
  PS X (.Assign [.Tuple [.Name x px,.Name y py] kt pt] (.Tuple [a,b] k2 Ep) pos) (ym i j ta):=by
 intro pins s σ H D I h
 rw [exec_Assign_arm]
 refine wpAny_bind (wpAny_standAt ?_)
 rw [hs]
 refine wpAny_bind (wpAny_pure ?_)
 rw [if_neg (by decide)]
 refine wpAny_bind (Tuple_ (cB (ha _ pins s σ H _ I h) fun us s1 ⟨vs,H1,I1,r1,q1⟩=>?_))
 obtain ⟨v,w,e1,q1⟩:=q1
 subst e1
 obtain ⟨u1,u2,rfl,rv,rw'⟩:∃ u1 u2,us=[u1,u2]/\RelV v u1/\RelV w u2:=by
  cases r1 with
  | cons p q =>
   cases q with
   | cons p' q' =>
    cases q'
    exact ⟨_,_,rfl,p,p'⟩
 refine wpAny_newObj_type ?_ (by show 2<=sizeLine;decide)
 have I2:Inv X pins σ H1 { s1 with heap:=s1.heap.push { cls:=.type "tuple",data:=.seq [u1,u2].toArray } }:=I1.kept (t':=s1.toks) fun b o e=>Heap.get?_push_of_some _ e
 rw [hw]
 refine wpAny_bind (wpAny_pure ?_)
 show wpAny (model X.prog X.w) X.A (do rule "assign.swapped-stores";let items <- unpackItems (.ref s1.heap.objs.size) 2 none;assignInOrder [fun v=>bindName X.env y v,fun v=>bindName X.env x v] items.reverse;pure Flow.next) _ _ _
 refine wpAny_bind (wpAny_rule (wpAny_bind (unpackItems_tuple (items:=#[u1,u2]) (I.ok.hd hc) (IsTup.new s1.heap _) fun h' hx'=>?_)))
 have I3:=I2.kept (h':=h') (t':=s1.toks) fun b o e=>hx' b o (Nat.ne_of_lt (Heap.lt_size e)) e
 show wpAny _ _ (assignInOrder [fun v=>bindName X.env y v,fun v=>bindName X.env x v] [u2,u1] >>= fun _=>pure Flow.next) _ _ _
 refine wpAny_bind (assignInOrder_cons (wpAny_bindName (BZ I3 hN hj (.inl hy) rw' (fun s2 I4=>?_) (.inr hy))))
 refine assignInOrder_cons (wpAny_bindName (BZ I4 hN hi (.inl hx) rv (fun s3 I5=>assignInOrder_nil (wpAny_pure ?_)) (.inr hx)))
 rw [List.set_comm _ _ (Ne.symm hij)] at I5
 exact ⟨_,H1,I5,q1⟩
end
section
variable {X:Cx} {pos:Pos}
def pJ (c:TT) (tb:TS):TS:=fun D σ H=>∃ W:Nat->St->Hp->Prop,(∃ m,W m σ H)/\∀ m σ H,W m σ H ->
 c σ H fun b H1=>if b=true then ∃ N:St->Hp->Prop,(∀ σ' H',N σ' H'->∃ m',m' < m/\W m' σ' H')/\tb { D with nx:=N,ct:=N,bk:=D.nx } σ H1 else D.nx σ H1
theorem xb {c:Expr} {body:List Stmt} {tc:TT} {tb:TS} (hp:PassesOwn (model X.prog X.w) X.A X.env X.xe) (hc:PT X c tc) (hb:oR X body tb):PS X (.While c body [] pos) (pJ tc tb):=by
 intro pins s σ H D I h
 obtain ⟨W,⟨m0,w0⟩,turn⟩:=h
 refine wpAny_While (codeAny_whileLoop (fun n s'=>∃ σ' H',Inv X pins σ' H' s'/\W n σ' H') ?_ m0 ⟨σ,H,I,w0⟩)
 rintro n s1 ⟨σ1,H1,I1,w1⟩
 refine wpAny_passesOwn hp (cB (hc pins s1 σ1 H1 _ I1 (turn n σ1 H1 w1)) fun b s2 ⟨H2,I2,q2⟩=>?_)
 cases b with
 | true =>
  obtain ⟨N,hN,q2⟩:=q2
  rw [if_pos rfl]
  refine wpAny_passesOwn hp (cB (hb pins s2 σ1 H2 _ I2 q2) fun f s3 q3=>?_)
  cases f with
  | next =>
   obtain ⟨σ3,H3,I3,n3⟩:=q3
   obtain ⟨m',hm,w3⟩:=hN σ3 H3 n3
   exact ⟨m',hm,σ3,H3,I3,w3⟩
  | cont =>
   obtain ⟨σ3,H3,I3,n3⟩:=q3
   obtain ⟨m',hm,w3⟩:=hN σ3 H3 n3
   exact ⟨m',hm,σ3,H3,I3,w3⟩
  | brk=>exact q3
  | ret v=>exact q3
 | false =>
  rw [if_neg Bool.false_ne_true]
  exact wpAny_execs_nil ⟨σ1,H2,I2,q2⟩
end
set_option genInjectivity false in
structure It where
 go:Nat->Hp->Prop
 qU:Nat->Hp->V->Hp->Prop
 stop:Nat->Hp->Prop
def kr (X:Cx) (pins:List (Addr×Obj)) (H:Hp) (b:Addr):Prop :=
 H b=none/\b≠X.env.locals/\b ∉ X.fs/\(b∈X.ex\/X.s₀.heap.objs.size<=b)/\(∀ x c,X.env.cells.lookup x=some c->c≠b)/\∀ p∈X.pn ++ pins,p.1≠b
theorem Inv.nU {X:Cx} {pins:List (Addr×Obj)} {σ:St} {H H':Hp} {s:Shared} {b:Addr} (I:Inv X pins σ H s) (hb:s.heap.objs.size<=b) (hn:H' b=none):kr X pins H' b:=by
 refine ⟨hn,Nat.ne_of_gt (Nat.lt_of_lt_of_le I.lt hb),I.x8 hb,.inr (Nat.le_trans I.sz hb),fun x c e z=>?_,fun p hp z=>?_⟩
 ·obtain ⟨v,q⟩:=I.cell x c e
  exact absurd (Nat.lt_of_lt_of_le q.lt (by rw [z];exact hb)) (Nat.lt_irrefl _)
 ·exact absurd (Nat.lt_of_lt_of_le (Heap.lt_size (I.pin p hp).1) (by rw [z];exact hb)) (Nat.lt_irrefl _)
structure Turn (P:Program) (w:World) (K:PySem.W.Frag) (tg:Expr) (J:It) (fp:List Addr) (it:Addr) (tn:Nat->Heap->Prop):Prop where
 mem:it∈fp
 obj:∀ i h,tn i h->∀ b∈fp,∃ o,h.get? b=some o/\∀ v,o.data≠.cell v
 keep:∀ i h h',tn i h->(∀ b∈fp,∀ o,h.get? b=some o->h'.get? b=some o)->tn i h'
 item:∀ (X:Cx),X.prog=P->X.w=w->X.K=K->X.calm=true->∀ (i:Nat) (pins:List (Addr×Obj)) (s:Shared) (σ:St) (H:Hp) (E:Value->Shared->Prop),Inv X pins σ H s->(∀ b∈fp,kr X pins H b)->tn i s.heap->J.go i H ->
  wpAny (model P w) X.A (pyNext (.ref it)) (fun r s1=>∃ u,r=some u /\
   wpAny (model P w) X.A (letOwnedTupleGo tg (.ref it) u) (fun _ s2=>∃ x H',Inv X pins σ H' s2/\RelV x u/\J.qU i H x H'/\tn (i + 1) s2.heap/\∀ b∈fp,H' b=none) E s1) E s
 done:∀ (X:Cx),X.prog=P->X.w=w->X.K=K->X.calm=true->∀ (i:Nat) (pins:List (Addr×Obj)) (s:Shared) (σ:St) (H:Hp) (E:Value->Shared->Prop),Inv X pins σ H s->(∀ b∈fp,kr X pins H b)->tn i s.heap->J.stop i H ->
  wpAny (model P w) X.A (pyNext (.ref it)) (fun r s1=>r=none/\Inv X pins σ H s1) E s
 self:∀ (A:Around) (i:Nat) (s:Shared) (Q:Value->Shared->Prop) (E:Value->Shared->Prop),tn i s.heap->Q (.ref it) s->wpAny (model P w) A (pyIter (.ref it)) Q E s
abbrev TI:=St->Hp->(It->Hp->Prop)->Prop
def Er (X:Cx) (pins:List (Addr×Obj)) (σ:St) (tg:Expr) (R:It->Hp->Prop) (itv:Value) (s2:Shared):Prop :=
 ∃ (it:Addr) (fp:List Addr) (tn:Nat->Heap->Prop) (J:It) (H':Hp),itv=.ref it/\Inv X pins σ H' s2/\Turn X.prog X.w X.K tg J fp it tn/\tn 0 s2.heap/\(∀ b∈fp,kr X pins H' b)/\R J H'
def PI (X:Cx) (tg iter:Expr) (wi:TI):Prop :=
 ∀ (pins:List (Addr×Obj)) (s:Shared) (σ:St) (H:Hp) (R:It->Hp->Prop),Inv X pins σ H s->wi σ H R ->
  wpAny (model X.prog X.w) X.A (eval iter X.env) (fun v s1=>wpAny (model X.prog X.w) X.A (pyIter v) (Er X pins σ tg R) X.xe s1) X.xe s
theorem B2 {M:Model} {A:Around} {E:Value->Shared->Prop} {s:Shared} {tg:Expr} {it:Addr} {u:Value} {o:Obj} {n:String} {vs:Array Value} {Q:Unit->Shared->Prop} (ho:s.heap.get? it=some o) (hc:o.cls=.type n) (hd:o.data=.fields vs)
  (hn:["enumerate","zip","dict_itemiterator","dict_reverseitemiterator","odict_iterator","itertools.zip_longest","itertools.pairwise"].contains n=false) (hQ:Q () s):wpAny M A (letOwnedTupleGo tg (.ref it) u) Q E s:=by
 unfold letOwnedTupleGo
 cases tg <;> first
  | exact wpAny_pure hQ
  | (cases u <;> first
    | exact wpAny_pure hQ
    | (refine wpAny_bind (wpAny_load ho ?_)
       rw [hc,hd]
       show wpAny M A (if (["enumerate","zip","dict_itemiterator","dict_reverseitemiterator","odict_iterator","itertools.zip_longest","itertools.pairwise"].contains n && vs[0]? == some (rawInt _))=true then _ else _) Q E s
       rw [if_neg (by intro h;rw [hn,Bool.false_and] at h;cases h)]
       exact wpAny_pure hQ))
def Hb (K:PySem.W.Frag) (a:Addr):It :=
 ⟨fun i H=>∃ xs x,jB K H a xs/\xs[i]?=some x,fun i H x H'=>H'=H/\∀ xs,jB K H a xs->xs[i]?=some x,fun i H=>∃ xs,jB K H a xs/\xs.length<=i⟩
def Hc (K:PySem.W.Frag) (a:Addr):It :=
 ⟨fun i H=>∃ xs x,eY K H a xs/\xs[i]?=some x,fun i H x H'=>H'=H/\∀ xs,eY K H a xs->xs[i]?=some x,fun i H=>∃ xs,eY K H a xs/\xs.length<=i⟩
def B3 (lo:Int) (n:Nat):It:=⟨fun i _=>i < n,fun i H x H'=>H'=H/\x=.int (lo + i),fun i _=>n<=i⟩
theorem K4 {P:Program} {w:World} {K:PySem.W.Frag} {tg:Expr} (a it:Addr):Turn P w K tg (Hb K a) [it] it (fun i h=>h.IsListIter it a i) where
 mem:=by simp
 obj:=fun i h st b hb=>by
  have e:b=it:=by simpa using hb
  subst e
  obtain ⟨o,e,c,d⟩:=st
  exact ⟨o,e,fun v z=>by rw [d] at z;cases z⟩
 keep:=fun i h h' st k=>st.at fun o e=>k it (by simp) o e
 item:=by
  intro X hP hw hK hc i pins s σ H E I hf st hg
  subst hP hw hK
  obtain ⟨xs,x,hq,hx⟩:=hg
  obtain ⟨its,rv,p,hz⟩:=I.list hq
  obtain ⟨u,hu,ru⟩:=rv.get hx
  obtain ⟨f0,f1,f2,f3,f4,f5⟩:=hf it (by simp)
  refine wpAny_pyNext_list_item st p.isList (x:=u) (by simpa using hu) fun h' st' sb=>?_
  have I1:Inv X pins σ H { s with heap:=h' }:=I.turned (t':=s.toks) (fun b o hb e=>(sb.2 b hb).trans e) f0 f1 f3 f4 f5
  obtain ⟨o,e,c,d⟩:=id st'
  exact ⟨u,rfl,B2 (s:={ s with heap:=h' }) e c d (by decide) ⟨x,H,I1,ru,⟨rfl,fun ys hy=>by rw [I.nD hy hq];exact hx⟩,st',fun b hb=>(hf b hb).1⟩⟩
 done:=by
  intro X hP hw hK hc i pins s σ H E I hf st hg
  subst hP hw hK
  obtain ⟨xs,hq,hx⟩:=hg
  obtain ⟨its,rv,p,hz⟩:=I.list hq
  obtain ⟨f0,f1,f2,f3,f4,f5⟩:=hf it (by simp)
  have hl:=rv.length
  exact wpAny_pyNext_list_end (I.ok.hd hc) st p.isList (by simp;omega) fun h' eb=>⟨rfl,I.turned (t':=s.toks) (fun b o hb e=>eb b o hb e) f0 f1 f3 f4 f5⟩
 self:=fun _ _ _ _ _ st h=>wpAny_pyIter_listiter st h
theorem K5 {P:Program} {w:World} {K:PySem.W.Frag} {tg:Expr} (a it:Addr):Turn P w K tg (Hc K a) [it] it (fun i h=>h.IsTupleIter it a i) where
 mem:=by simp
 obj:=fun i h st b hb=>by
  have e:b=it:=by simpa using hb
  subst e
  obtain ⟨o,e,c,d⟩:=st
  exact ⟨o,e,fun v z=>by rw [d] at z;cases z⟩
 keep:=fun i h h' st k=>st.at fun o e=>k it (by simp) o e
 item:=by
  intro X hP hw hK hc i pins s σ H E I hf st hg
  subst hP hw hK
  obtain ⟨xs,x,hq,hx⟩:=hg
  obtain ⟨its,rv,p,hz⟩:=I.tuple hq
  obtain ⟨u,hu,ru⟩:=rv.get hx
  obtain ⟨f0,f1,f2,f3,f4,f5⟩:=hf it (by simp)
  refine wpAny_pyNext_tuple_item st (show s.heap.IsTuple a its.toArray from p) (x:=u) (by simpa using hu) fun h' st' sb=>?_
  have I1:Inv X pins σ H { s with heap:=h' }:=I.turned (t':=s.toks) (fun b o hb e=>(sb.2 b hb).trans e) f0 f1 f3 f4 f5
  obtain ⟨o,e,c,d⟩:=id st'
  exact ⟨u,rfl,B2 (s:={ s with heap:=h' }) e c d (by decide) ⟨x,H,I1,ru,⟨rfl,fun ys hy=>by rw [I.gy hy hq];exact hx⟩,st',fun b hb=>(hf b hb).1⟩⟩
 done:=by
  intro X hP hw hK hc i pins s σ H E I hf st hg
  subst hP hw hK
  obtain ⟨xs,hq,hx⟩:=hg
  obtain ⟨its,rv,p,hz⟩:=I.tuple hq
  obtain ⟨f0,f1,f2,f3,f4,f5⟩:=hf it (by simp)
  have hl:=rv.length
  exact wpAny_pyNext_tuple_end (I.ok.hd hc) st (show s.heap.IsTuple a its.toArray from p) (by simp;omega) fun h' eb=>⟨rfl,I.turned (t':=s.toks) (fun b o hb e=>eb b o hb e) f0 f1 f3 f4 f5⟩
 self:=fun _ _ _ _ _ st h=>wpAny_pyIter_tupleiter st h
theorem K7 {P:Program} {w:World} {K:PySem.W.Frag} {tg:Expr} (it:Addr) (lo:Int) (n:Nat):Turn P w K tg (B3 lo n) [it] it (fun i h=>IsRangeIter h it (lo + (i:Nat) * 1) ((n:Int) - (i:Nat)) 1) where
 mem:=by simp
 obj:=fun i h st b hb=>by
  have e:b=it:=by simpa using hb
  subst e
  exact ⟨_,st,fun v z=>by
   have z':Data.fields _=Data.cell v:=z
   cases z'⟩
 keep:=fun i h h' st k=>k it (by simp) _ st
 item:=by
  intro X hP hw hK hc i pins s σ H E I hf st hg
  subst hP hw hK
  obtain ⟨f0,f1,f2,f3,f4,f5⟩:=hf it (by simp)
  have W:=Walks.range (prog:=X.prog) (w:=X.w) (I.ok.hd hc) it lo 1 n
  refine W.item i s _ _ hg st fun v h' tk hv st' kk=>?_
  obtain ⟨t,rfl⟩:=hv
  have I1:Inv X pins σ H { s with heap:=h',toks:=tk }:=I.turned (fun b o hb e=>kk b o (by simpa using hb) e) f0 f1 f3 f4 f5
  refine ⟨_,rfl,B2 (s:={ s with heap:=h',toks:=tk }) (n:="range_iterator") st' rfl rfl (by decide) ⟨.int (lo + i),H,I1,⟨t,?_⟩,⟨rfl,rfl⟩,st',fun b hb=>(hf b hb).1⟩⟩
  rw [Int.mul_one]
 done:=by
  intro X hP hw hK hc i pins s σ H E I hf st hg
  subst hP hw hK
  obtain ⟨f0,f1,f2,f3,f4,f5⟩:=hf it (by simp)
  exact wpAny_pyNext_range_end (I.ok.hd hc) st (by have:n<=i:=hg;omega) fun h' eb=>⟨rfl,I.turned (t':=s.toks) (fun b o hb e=>eb b o hb e) f0 f1 f3 f4 f5⟩
 self:=fun _ _ _ _ _ st h=>wpAny_pyIter_rangeiter st h
end L2
namespace L2
open PySem PySem.Spec PyProof.Rows
section
variable {X:Cx} {tg:Expr}
def pK (K:PySem.W.Frag) (tl:TE):TI:=fun σ H R=>tl σ H fun x H1=>∃ a,x=.ref a/\(∃ xs,jB K H1 a xs)/\R (Hb K a) H1
def yn (K:PySem.W.Frag) (tl:TE):TI:=fun σ H R=>tl σ H fun x H1=>∃ a,x=.ref a/\(∃ xs,eY K H1 a xs)/\R (Hc K a) H1
theorem Es {l:Expr} {tl:TE} (hl:PE X l tl):PI X tg l (pK X.K tl):=by
 intro pins s σ H R I h
 refine cB (hl pins s σ H _ I h) fun v s1 ⟨x,H1,I1,r1,q1⟩=>?_
 obtain ⟨a,e,⟨xs,hq⟩,q⟩:=q1
 subst e
 cases r1
 obtain ⟨its,rv,p,hz⟩:=I1.list hq
 refine wpAny_pyIter_list p.isList ?_
 refine ⟨s1.heap.objs.size,[s1.heap.objs.size],_,_,H1,rfl,I1.kept (t':=s1.toks) fun b o e=>Heap.get?_push_of_some _ e,K4 a _,⟨_,Heap.get?_push_size _ rfl,rfl,rfl⟩,fun b hb=>?_,q⟩
 have e:b=s1.heap.objs.size:=by simpa using hb
 subst e
 exact I1.nU (Nat.le_refl _) (I1.hok.fresh (Nat.le_refl _))
theorem pb {l:Expr} {tl:TE} (hl:PE X l tl):PI X tg l (yn X.K tl):=by
 intro pins s σ H R I h
 refine cB (hl pins s σ H _ I h) fun v s1 ⟨x,H1,I1,r1,q1⟩=>?_
 obtain ⟨a,e,⟨xs,hq⟩,q⟩:=q1
 subst e
 cases r1
 obtain ⟨its,rv,p,hz⟩:=I1.tuple hq
 refine wpAny_pyIter_tuple (show s1.heap.IsTuple a its.toArray from p) ?_
 refine ⟨s1.heap.objs.size,[s1.heap.objs.size],_,_,H1,rfl,I1.kept (t':=s1.toks) fun b o e=>Heap.get?_push_of_some _ e,K5 a _,⟨_,Heap.get?_push_size _ rfl,rfl,rfl⟩,fun b hb=>?_,q⟩
 have e:b=s1.heap.objs.size:=by simpa using hb
 subst e
 exact I1.nU (Nat.le_refl _) (I1.hok.fresh (Nat.le_refl _))
theorem K8 {pins:List (Addr×Obj)} {σ:St} {H:Hp} {s:Shared} {R:It->Hp->Prop} {E:Value->Shared->Prop} {lo hi:Int} {t u v:Tok} {tk:Nat} (I:Inv X pins σ H s) (h1:-(2 ^ 62)<=lo) (h2:lo < 2 ^ 62) (h3:-(2 ^ 62)<=hi) (h4:hi < 2 ^ 62)
  (q:R (B3 lo (hi - lo).toNat) H):wpAny (model X.prog X.w) X.A (pyIter (.ref s.heap.objs.size)) (Er X pins σ tg R) E { s with heap:=s.heap.push { cls:=.type "range",data:=.fields #[.int lo t,.int hi u,.int 1 v] },toks:=tk }:=by
 refine wpAny_pyIter_range (IsRange.new ..) (small_one h1 h2 h3 h4) ?_
 have I1:Inv X pins σ H { s with heap:=s.heap.push { cls:=.type "range",data:=.fields #[.int lo t,.int hi u,.int 1 v] },toks:=tk }:=I.kept fun b o e=>Heap.get?_push_of_some _ e
 refine ⟨(s.heap.push { cls:=.type "range",data:=.fields #[.int lo t,.int hi u,.int 1 v] }).objs.size,[(s.heap.push { cls:=.type "range",data:=.fields #[.int lo t,.int hi u,.int 1 v] }).objs.size],_,_,H,rfl,
  I1.kept (t':=tk) fun b o e=>Heap.get?_push_of_some _ e,K7 _ lo (hi - lo).toNat,?_,fun b hb=>?_,q⟩
 ·have e1:lo + ((0:Nat):Int) * 1=lo:=by simp
  have e2:(((hi - lo).toNat:Nat):Int) - ((0:Nat):Int)=Builtin.Range.rangeSize lo hi 1:=by rw [rangeSize_one];split <;> omega
  show IsRangeIter _ _ (lo + ((0:Nat):Int) * 1) ((((hi - lo).toNat:Nat):Int) - ((0:Nat):Int)) 1
  rw [e1,e2]
  exact Heap.get?_push_size _ rfl
 ·have e:b=(s.heap.push { cls:=.type "range",data:=.fields #[.int lo t,.int hi u,.int 1 v] }).objs.size:=by simpa using hb
  subst e
  exact I1.nU (Nat.le_refl _) (I1.hok.fresh (Nat.le_refl _))
def sa (ta:TA):TI:=fun σ H R=>ta σ H fun vs H1=>∃ j:Int,vs=[.int j]/\-(2 ^ 62)<=j/\j < 2 ^ 62/\R (B3 0 j.toNat) H1
theorem nV {a:Expr} {ta:TA} {p pos:Pos} (hg:Gl X "range") (hm:X.mg "range" = none) (ha:PA X [a] ta) (hs:starEach [a] X.env=[(false,eval a X.env)]:=by rfl):PI X tg (.Call (.Name "range" p) [a] [] pos) (sa ta):=by
 intro pins s σ H R I h
 refine Call_ (yd I hg hm boot_range (PyProof.Rows.callWith_type1 (cB (ha pos pins s σ H _ I h) fun us s1 ⟨vs,H1,I1,r1,q1⟩=>?_) hs rfl))
 obtain ⟨j,e,q1,q2,q⟩:=q1
 subst e
 cases r1 with
 | cons r rr =>
  cases rr
  obtain ⟨t,rfl⟩:=r
  exact call_range_1 (K8 I1 (by omega) (by omega) q1 q2 (by simpa using q))
def yo (wi:TI) (g:TG) (tb:TS):TS:=fun D σ H=>wi σ H fun J H1=>∃ W:Nat->Nat->St->Hp->Prop,(∃ m,W 0 m σ H1)/\∀ i m σ H,W i m σ H ->
 (J.stop i H/\D.nx σ H)\/(J.go i H/\∃ N:St->Hp->Prop,(∀ σ' H',N σ' H'->∃ m',m' < m/\W (i + 1) m' σ' H')/\∀ x H',J.qU i H x H'->g x σ H' fun σ2 H2=>tb { D with nx:=N,ct:=N,bk:=D.nx } σ2 H2)
def lF (fp:List Addr) (h:Heap):List (Addr×Obj):=fp.filterMap fun b=>(h.get? b).map fun o=>(b,o)
theorem B4 {fp:List Addr} {h:Heap} {b:Addr} {o:Obj} (hb:b∈fp) (e:h.get? b=some o):(b,o)∈lF fp h:=List.mem_filterMap.mpr ⟨b,hb,by rw [e];rfl⟩
theorem K9 {fp:List Addr} {h:Heap} {p:Addr×Obj} (hp:p∈lF fp h):p.1∈fp/\h.get? p.1=some p.2:=by
 obtain ⟨b,hb,e⟩:=List.mem_filterMap.mp hp
 cases q:h.get? b with
 | none=>rw [q] at e;cases e
 | some o =>
  rw [q] at e
  have e':(b,o)=p:=Option.some.inj e
  subst e'
  exact ⟨hb,q⟩
theorem Inv.pinned {pins:List (Addr×Obj)} {σ:St} {H:Hp} {s:Shared} {fp:List Addr} (I:Inv X pins σ H s) (hf:∀ b∈fp,kr X pins H b) (ho:∀ b∈fp,∃ o,s.heap.get? b=some o/\∀ v,o.data≠.cell v):Inv X (pins ++ lF fp s.heap) σ H s :=
 I.ll fun p hp=>(List.mem_append.mp hp).elim (fun z=>I.pin p (List.mem_append_right _ z)) fun z=>by
  obtain ⟨hb,e⟩:=K9 z
  obtain ⟨f0,f1,f2,_⟩:=hf p.1 hb
  obtain ⟨o,e',d⟩:=ho p.1 hb
  rw [e] at e';cases e'
  exact ⟨e,f0,f1,f2,d⟩
theorem Inv.kb {pins pl:List (Addr×Obj)} {σ:St} {H:Hp} {s:Shared} (I:Inv X (pins ++ pl) σ H s):Inv X pins σ H s:=I.ll fun p hp=>I.pin p (List.mem_append_right _ (List.mem_append_left _ hp))
theorem lU {iter:Expr} {body:List Stmt} {wi:TI} {g:TG} {tb:TS} {pos:Pos} (hp:PassesOwn (model X.prog X.w) X.A X.env X.xe) (hc:X.calm=true) (hi:PI X tg iter wi) (hg:PG X tg g) (hb:oR X body tb)
  (hs:∀ x,foldedSetIterable iter X.env x=pure x:=by intro _;rfl):PS X (.For tg iter body [] pos) (yo wi g tb):=by
 intro pins s σ H D I h
 refine wpAny_For (cB (hi pins s σ H _ I h) fun v s1 h1=>cB h1 fun itv s2 h2=>?_) hs
 obtain ⟨it,fp,tn,J,H2,e,I2,T,st2,f2,W,⟨m0,w0⟩,turn⟩:=h2
 subst e
 have stat:∀ {H':Hp},(∀ b∈fp,H' b=none)->∀ b∈fp,kr X pins H' b:=fun hn b hb=>⟨hn b hb,(f2 b hb).2⟩
 refine codeAny_forLoop_any (fun n s'=>∃ i σ' H',Inv X pins σ' H' s'/\tn i s'.heap/\(∀ b∈fp,H' b=none)/\W i n σ' H') ?_ m0 ⟨0,σ,H2,I2,st2,fun b hb=>(f2 b hb).1,w0⟩
 rintro n s3 ⟨i,σ3,H3,I3,st3,Hd,w3⟩
 rcases turn i n σ3 H3 w3 with ⟨stop,qn⟩ | ⟨go,N,hN,step⟩
 ·refine wpAny_passesOwn hp (cB (T.done X rfl rfl rfl hc i pins s3 σ3 H3 X.xe I3 (stat Hd) st3 stop) fun r s4 ⟨hr,I4⟩=>?_)
  subst hr
  exact wpAny_execs_nil ⟨σ3,H3,I4,qn⟩
 ·refine wpAny_passesOwn hp (cB (T.item X rfl rfl rfl hc i pins s3 σ3 H3 X.xe I3 (stat Hd) st3 go) fun r s4 ⟨u,hr,h4⟩=>?_)
  subst hr
  refine wpAny_passesOwn hp (cB h4 fun _ s5 ⟨x,H5,I5,r5,y5,jC,B5⟩=>?_)
  have La:=I5.pinned (stat B5) (T.obj _ _ jC)
  refine wpAny_passesOwn hp (cB (hg _ s5 σ3 H5 x u _ La r5 (step x H5 y5)) fun _ s6 ⟨σ6,H6,I6,q6⟩=>?_)
  refine wpAny_passesOwn hp (cB (hb _ s6 σ6 H6 _ I6 q6) fun f s7 q7=>?_)
  have again:∀ {σ7:St} {H7:Hp},Inv X (pins ++ lF fp s5.heap) σ7 H7 s7->N σ7 H7->∃ m,m < n/\∃ i σ' H',Inv X pins σ' H' s7/\tn i s7.heap/\(∀ b∈fp,H' b=none)/\W i m σ' H':=fun {σ7 H7} I7 n7=>by
   obtain ⟨m',hm,w7⟩:=hN σ7 H7 n7
   refine ⟨m',hm,i + 1,σ7,H7,I7.kb,T.keep _ _ _ jC fun b hb o e=>(I7.pin (b,o) (List.mem_append_right _ (List.mem_append_right _ (B4 hb e)))).1,fun b hb=>?_,w7⟩
   obtain ⟨o,e,d⟩:=T.obj _ _ jC b hb
   exact (I7.pin (b,o) (List.mem_append_right _ (List.mem_append_right _ (B4 hb e)))).2.1
  cases f with
  | next=>obtain ⟨σ7,H7,I7,n7⟩:=q7;exact again I7 n7
  | cont=>obtain ⟨σ7,H7,I7,n7⟩:=q7;exact again I7 n7
  | brk=>obtain ⟨σ7,H7,I7,q7⟩:=q7;exact ⟨σ7,H7,I7.kb,q7⟩
  | ret v=>obtain ⟨x7,σ7,H7,I7,r7,q7⟩:=q7;exact ⟨x7,σ7,H7,I7.kb,r7,q7⟩
end
end L2
namespace L2
open PySem PySem.Spec PyProof.Rows
abbrev R2:=V->V->Hp->VK->Prop
def ku (X:Cx) (f:Value->Value->Sem Value) (r:R2):Prop :=
 ∀ (pins:List (Addr×Obj)) (s:Shared) (σ:St) (H:Hp) (x y:V) (v u:Value) (Q:VK),Inv X pins σ H s->RelV x v->RelV y u->r x y H Q ->
  wpAny (model X.prog X.w) X.A (f v u) (EP X pins σ Q) X.xe s
def Et (X:Cx) (f:Value->Sem Value) (r:V->Hp->VK->Prop):Prop :=
 ∀ (pins:List (Addr×Obj)) (s:Shared) (σ:St) (H:Hp) (x:V) (v:Value) (Q:VK),Inv X pins σ H s->RelV x v->r x H Q ->
  wpAny (model X.prog X.w) X.A (f v) (EP X pins σ Q) X.xe s
def iz (X:Cx) (f:Value) (r:List V->Hp->VK->Prop):Prop :=
 ∀ (pins:List (Addr×Obj)) (s:Shared) (σ:St) (H:Hp) (xs:List V) (us:List Value) (Q:VK),Inv X pins σ H s->Vals xs us->r xs H Q ->
  wpAny (model X.prog X.w) X.A (call f us) (EP X pins σ Q) X.xe s
def yp (r:R2) (ta tb:TE):TE:=fun σ H Q=>ta σ H fun x H1=>tb σ H1 fun y H2=>r x y H2 Q
def He (r:V->Hp->VK->Prop) (ta:TE):TE:=fun σ H Q=>ta σ H fun x H1=>r x H1 Q
def rI (C:Int->Int->Prop) (g:Int->Int->V):R2:=fun x y H Q=>∃ i j,x=.int i/\y=.int j/\C i j/\Q (g i j) H
def oS (g:Int->Int->V):R2:=fun x y H Q=>∃ i j,x=.int i/\y=.int j/\Q (g i j) H
def rU (g:Int->V):V->Hp->VK->Prop:=fun x H Q=>∃ i,x=.int i/\Q (g i) H
section
variable {X:Cx} {a b c:Expr} {ta tb tc:TE} {pos:Pos}
theorem um (ha:PE X a ta) (hb:PE X b tb) {pins:List (Addr×Obj)} {s:Shared} {σ:St} {H:Hp} {R:V->V->Hp->Prop} (I:Inv X pins σ H s)
  (h:ta σ H fun x H1=>tb σ H1 fun y H2=>R x y H2) {Q:Value->Shared->Prop} {f:Value->Value->Sem Value}
  (hf:∀ v u s2 x y H2,Inv X pins σ H2 s2->RelV x v->RelV y u->R x y H2->wpAny (model X.prog X.w) X.A (f v u) Q X.xe s2) :
  wpAny (model X.prog X.w) X.A (eval a X.env) (fun v s₁=>wpAny (model X.prog X.w) X.A (eval b X.env) (fun u s₂=>wpAny (model X.prog X.w) X.A (f v u) Q X.xe s₂) X.xe s₁) X.xe s:=by
 refine cB (ha pins s σ H _ I h) fun v s1 ⟨x,H1,I1,r1,q1⟩=>?_
 refine cB (hb pins s1 σ H1 _ I1 q1) fun u s2 ⟨y,H2,I2,r2,q2⟩=>?_
 exact hf v u s2 x y H2 I2 r1 r2 q2
theorem bG {op:Operator} {r:R2} (ho:ku X (binaryOp op) r) (ha:PE X a ta) (hb:PE X b tb):PE X (.BinOp a op b pos) (yp r ta tb):=by
 intro pins s σ H Q I h
 exact wpAny_BinOp (um ha hb I h fun v u s2 x y H2 I2 rx ry q=>ho pins s2 σ H2 x y v u Q I2 rx ry q)
theorem pd {op:UnaryOp} {r:V->Hp->VK->Prop} (ho:Et X (unaryOp op) r) (ha:PE X a ta):PE X (.UnaryOp op a pos) (He r ta):=by
 intro pins s σ H Q I h
 exact UnaryOp_ (cB (ha pins s σ H _ I h) fun v s1 ⟨x,H1,I1,r1,q1⟩=>ho pins s1 σ H1 x v Q I1 r1 q1)
theorem xc {f:Value->Value->Sem Value} {C:Int->Int->Prop} {g:Int->Int->Int}
  (rule:∀ (i j:Int) (t u:Tok) (s:Shared) (Q:Value->Shared->Prop) (E:Value->Shared->Prop),C i j->Q (.int (g i j) s.toks) { s with toks:=s.toks + 1 }->wpAny (model X.prog X.w) X.A (f (.int i t) (.int j u)) Q E s) :
  ku X f (rI C fun i j=>.int (g i j)):=by
 intro pins s σ H x y v u Q I rx ry h
 obtain ⟨i,j,rfl,rfl,hc,q⟩:=h
 obtain ⟨t,rfl⟩:=rx
 obtain ⟨t',rfl⟩:=ry
 exact rule i j t t' s _ _ hc ⟨.int (g i j),H,I.tok _,⟨_,rfl⟩,q⟩
theorem yq {f:Value->Value->Sem Value} {g:Int->Int->Int}
  (rule:∀ (i j:Int) (t u:Tok) (s:Shared) (Q:Value->Shared->Prop) (E:Value->Shared->Prop),Q (.int (g i j) s.toks) { s with toks:=s.toks + 1 }->wpAny (model X.prog X.w) X.A (f (.int i t) (.int j u)) Q E s) :
  ku X f (oS fun i j=>.int (g i j)):=by
 intro pins s σ H x y v u Q I rx ry h
 obtain ⟨i,j,rfl,rfl,q⟩:=h
 obtain ⟨t,rfl⟩:=rx
 obtain ⟨t',rfl⟩:=ry
 exact rule i j t t' s _ _ ⟨.int (g i j),H,I.tok _,⟨_,rfl⟩,q⟩
theorem uo {f:Value->Value->Sem Value} {g:Int->Int->Bool}
  (rule:∀ (i j:Int) (t u:Tok) (s:Shared) (Q:Value->Shared->Prop) (E:Value->Shared->Prop),Q (.bool (g i j)) s->wpAny (model X.prog X.w) X.A (f (.int i t) (.int j u)) Q E s) :
  ku X f (oS fun i j=>.bl (g i j)):=by
 intro pins s σ H x y v u Q I rx ry h
 obtain ⟨i,j,rfl,rfl,q⟩:=h
 obtain ⟨t,rfl⟩:=rx
 obtain ⟨t',rfl⟩:=ry
 exact rule i j t t' s _ _ ⟨.bl (g i j),H,I,rfl,q⟩
def yr (i j:Int):Prop:=0 < j/\j < 1073741824
def yt (i j:Int):Prop:=0<=j/\j<=1000000/\i.natAbs < 2 ^ 64
def pL (i j:Int):Prop:=(-(2 ^ 64) < i/\i < 2 ^ 64)\/(-(2 ^ 64) < j/\j < 2 ^ 64)
theorem pL.ok {i j:Int} (h:pL i j):IntMulOk i j:=by
 rcases h with ⟨h1,h2⟩ | ⟨h1,h2⟩
 ·exact .of_left (intBits_le_64 h1 h2)
 ·exact .of_right (intBits_le_64 h1 h2)
theorem km:ku X (binaryOp .Add) (oS fun i j=>.int (i + j)):=yq fun _ _ _ _ _ _ _ q=>add_int q
theorem yu:ku X (binaryOp .Sub) (oS fun i j=>.int (i - j)):=yq fun _ _ _ _ _ _ _ q=>sub_int q
theorem qz:ku X (binaryOp .Mult) (rI pL fun i j=>.int (i * j)):=xc fun _ _ _ _ _ _ _ hc q=>mul_int q hc.ok
theorem Hf:ku X (binaryOp .FloorDiv) (rI yr fun i j=>.int (i / j)):=xc fun i j _ _ _ _ _ hc q=>by
 have h1:(0:Int) < j:=hc.1
 have h2:j < 1073741824:=hc.2
 exact floordiv_int (by omega) (by rw [Int.fdiv_eq_ediv_of_nonneg i (by omega)];exact q) (.inl (PyProof.noPylong_small (by omega)))
theorem pe:ku X (binaryOp .Mod) (rI (fun _ j=>0 < j) fun i j=>.int (i % j)):=xc fun i j _ _ _ _ _ hc q=>by
 have h1:(0:Int) < j:=hc
 exact mod_int' (by omega) (by rw [Int.fmod_eq_emod_of_nonneg i (by omega)];exact q)
theorem Hg:ku X (binaryOp .Pow) (rI yt fun i j=>.int (i ^ j.toNat)):=xc fun _ _ _ _ _ _ _ hc q=>pow_int_small hc.1 hc.2.1 hc.2.2 q
theorem Lb {f:Value->Sem Value} {g:Int->Int}
  (rule:∀ (i:Int) (t:Tok) (s:Shared) (Q:Value->Shared->Prop) (E:Value->Shared->Prop),Q (.int (g i) s.toks) { s with toks:=s.toks + 1 }->wpAny (model X.prog X.w) X.A (f (.int i t)) Q E s) :
  Et X f (rU fun i=>.int (g i)):=by
 intro pins s σ H x v Q I rx h
 obtain ⟨i,rfl,q⟩:=h
 obtain ⟨t,rfl⟩:=rx
 exact rule i t s _ _ ⟨.int (g i),H,I.tok _,⟨_,rfl⟩,q⟩
theorem pf:Et X (unaryOp .USub) (rU fun i=>.int (-i)):=Lb fun _ _ _ _ _ q=>neg_int q
end
def nW:V->V->Bool
 | .non,.non=>true | .non,.int _=>true | .int _,.non=>true | .non,.bl _=>true | .bl _,.non=>true | .non,.str _=>true | .str _,.non=>true
 | .int _,.int _=>true | .bl _,.bl _=>true | .str _,.str _=>true | .pE _,.pE _=>true
 | .int _,.str _=>true | .str _,.int _=>true | .bl _,.str _=>true | .str _,.bl _=>true
 | _,_=>false
def Hh:R2:=fun x y H Q=>nW x y=true/\Q (.bl (decide (x=y))) H
def Hi:R2:=fun x y H Q=>nW x y=true/\Q (.bl (!decide (x=y))) H
theorem Hj {i j:Int}:decide (V.int i=V.int j)=(i == j):=by
 rw [Bool.eq_iff_iff]
 simp
theorem Hk {i j:Bool}:decide (V.bl i=V.bl j)=(i == j):=by
 rw [Bool.eq_iff_iff]
 simp
theorem Hl {i j:Str}:decide (V.str i=V.str j)=(i == j):=by
 rw [Bool.eq_iff_iff]
 simp
theorem Hm {i j:Array UInt8}:decide (V.pE i=V.pE j)=(i.toList == j.toList):=by
 rw [Bool.eq_iff_iff]
 cases i
 cases j
 simp
section
variable {X:Cx} {a b c:Expr} {ta tb tc:TE} {pos:Pos}
theorem j8 {pins:List (Addr×Obj)} {σ:St} {H:Hp} {s:Shared} {Q:VK} {k k':Bool} (I:Inv X pins σ H s) (q:Q (.bl k) H) (e:k=k'):EP X pins σ Q (.bool k') s:=by
 subst e
 exact ⟨.bl k,H,I,rfl,q⟩
theorem ni:ku X (compareOp .Eq) Hh:=by
 intro pins s σ H x y v u Q I rx ry h
 obtain ⟨hs,q⟩:=h
 cases x with
 | non =>
  cases rx
  cases y with
  | non=>cases ry;exact PySem.EqNone.eq_none_none (j8 I q (by simp))
  | bl j=>cases ry;exact PySem.EqNone.eq_none_bool (j8 I q (by simp))
  | int j=>obtain ⟨t',rfl⟩:=ry;exact PySem.EqNone.eq_none_int (j8 I q (by simp))
  | str j=>obtain ⟨t',rfl⟩:=ry;exact PySem.EqNone.eq_none_str (j8 I q (by simp))
  | _=>exact absurd (show false=true from hs) Bool.false_ne_true
 | bl i =>
  cases rx
  cases y with
  | non=>cases ry;exact PySem.EqNone.eq_bool_none (j8 I q (by simp))
  | bl j=>cases ry;exact eq_bool (j8 I q Hk)
  | str j=>obtain ⟨t',rfl⟩:=ry;exact PySem.EqMixed.eq_bool_str (j8 I q (by simp))
  | _=>exact absurd (show false=true from hs) Bool.false_ne_true
 | int i =>
  obtain ⟨t,rfl⟩:=rx
  cases y with
  | non=>cases ry;exact PySem.EqNone.eq_int_none (j8 I q (by simp))
  | int j=>obtain ⟨t',rfl⟩:=ry;exact eq_int (j8 I q Hj)
  | str j=>obtain ⟨t',rfl⟩:=ry;exact PySem.EqMixed.eq_int_str (j8 I q (by simp))
  | _=>exact absurd (show false=true from hs) Bool.false_ne_true
 | str i =>
  obtain ⟨t,rfl⟩:=rx
  cases y with
  | non=>cases ry;exact PySem.EqNone.eq_str_none (j8 I q (by simp))
  | bl j=>cases ry;exact PySem.EqMixed.eq_str_bool (j8 I q (by simp))
  | int j=>obtain ⟨t',rfl⟩:=ry;exact PySem.EqMixed.eq_str_int (j8 I q (by simp))
  | str j=>obtain ⟨t',rfl⟩:=ry;exact eq_str (j8 I q Hl)
  | _=>exact absurd (show false=true from hs) Bool.false_ne_true
 | pE i =>
  obtain ⟨t,rfl⟩:=rx
  cases y with
  | pE j=>obtain ⟨t',rfl⟩:=ry;exact PySem.W.eq_bytes (j8 I q Hm)
  | _=>exact absurd (show false=true from hs) Bool.false_ne_true
 | _=>cases y <;> exact absurd (show false=true from hs) Bool.false_ne_true
theorem Eu:ku X (compareOp .NotEq) Hi:=by
 intro pins s σ H x y v u Q I rx ry h
 obtain ⟨hs,q⟩:=h
 cases x with
 | non =>
  cases rx
  cases y with
  | non=>cases ry;exact PySem.EqNone.ne_none_none (j8 I q (by simp))
  | bl j=>cases ry;exact PySem.EqNone.ne_none_bool (j8 I q (by simp))
  | int j=>obtain ⟨t',rfl⟩:=ry;exact PySem.EqNone.ne_none_int (j8 I q (by simp))
  | str j=>obtain ⟨t',rfl⟩:=ry;exact PySem.EqNone.ne_none_str (j8 I q (by simp))
  | _=>exact absurd (show false=true from hs) Bool.false_ne_true
 | bl i =>
  cases rx
  cases y with
  | non=>cases ry;exact PySem.EqNone.ne_bool_none (j8 I q (by simp))
  | bl j=>cases ry;exact ne_bool (j8 I q (congrArg not Hk))
  | str j=>obtain ⟨t',rfl⟩:=ry;exact PySem.EqMixed.ne_bool_str (j8 I q (by simp))
  | _=>exact absurd (show false=true from hs) Bool.false_ne_true
 | int i =>
  obtain ⟨t,rfl⟩:=rx
  cases y with
  | non=>cases ry;exact PySem.EqNone.ne_int_none (j8 I q (by simp))
  | int j=>obtain ⟨t',rfl⟩:=ry;exact ne_int (j8 I q (congrArg not Hj))
  | str j=>obtain ⟨t',rfl⟩:=ry;exact PySem.EqMixed.ne_int_str (j8 I q (by simp))
  | _=>exact absurd (show false=true from hs) Bool.false_ne_true
 | str i =>
  obtain ⟨t,rfl⟩:=rx
  cases y with
  | non=>cases ry;exact PySem.EqNone.ne_str_none (j8 I q (by simp))
  | bl j=>cases ry;exact PySem.EqMixed.ne_str_bool (j8 I q (by simp))
  | int j=>obtain ⟨t',rfl⟩:=ry;exact PySem.EqMixed.ne_str_int (j8 I q (by simp))
  | str j=>obtain ⟨t',rfl⟩:=ry;exact ne_str (j8 I q (congrArg not Hl))
  | _=>exact absurd (show false=true from hs) Bool.false_ne_true
 | pE i =>
  obtain ⟨t,rfl⟩:=rx
  cases y with
  | pE j=>obtain ⟨t',rfl⟩:=ry;exact PySem.W.ne_bytes (j8 I q (congrArg not Hm))
  | _=>exact absurd (show false=true from hs) Bool.false_ne_true
 | _=>cases y <;> exact absurd (show false=true from hs) Bool.false_ne_true
theorem B6:ku X (compareOp .Lt) (oS fun i j=>.bl (decide (i < j))):=uo fun _ _ _ _ _ _ _ q=>lt_int q
theorem Ew:ku X (compareOp .Gt) (oS fun i j=>.bl (decide (j < i))):=uo fun _ _ _ _ _ _ _ q=>gt_int q
theorem yw:ku X (compareOp .GtE) (oS fun i j=>.bl (decide (j<=i))):=uo fun _ _ _ _ _ _ _ q=>ge_int q
theorem aT (b:Expr) {op:CmpOp} (h:op≠.In:=by decide) (h2:op≠.NotIn:=by decide):behindInMarks op b=false:=by
 have e1:(op == CmpOp.In)=false:=by cases op <;> first | rfl | exact absurd rfl h
 have e2:(op == CmpOp.NotIn)=false:=by cases op <;> first | rfl | exact absurd rfl h2
 cases b <;> simp [behindInMarks,e1,e2]
theorem yx {op:CmpOp} {r:R2} (ho:ku X (compareOp op) r) (ha:PE X a ta) (hb:PE X b tb) (hm:behindInMarks op b=false):PE X (.Compare a [op] [b] pos) (yp r ta tb):=by
 intro pins s σ H Q I h
 exact wpAny_Compare1 (um ha hb I h fun v u s2 x y H2 I2 rx ry q=>ho pins s2 σ H2 x y v u Q I2 rx ry q) hm
def sd (t:TE):TT:=fun σ H Q=>t σ H fun x H'=>∃ k,x=.bl k/\Q k H'
theorem iK {op:CmpOp} {r:R2} (ho:ku X (compareOp op) r) (ha:PE X a ta) (hb:PE X b tb) (hm:behindInMarks op b=false):PT X (.Compare a [op] [b] pos) (sd (yp r ta tb)):=by
 intro pins s σ H Q I h
 refine wpAny_isTrue_Compare1 (cB (ha pins s σ H _ I h) fun v s1 ⟨x,H1,I1,r1,q1⟩=>cB (hb pins s1 σ H1 _ I1 q1) fun u s2 ⟨y,H2,I2,r2,q2⟩ =>
  cB (ho pins s2 σ H2 x y v u _ I2 r1 r2 q2) fun c s3 ⟨z,H3,I3,r3,k,e,q3⟩=>?_) hm
 subst e
 cases r3
 exact wpAny_truthy_bool ⟨H3,I3,q3⟩
theorem ky:(sizeLine:Nat) < 2 ^ 63:=by rw [sizeLine_eq];decide
theorem vals1 {x:V} {us:List Value} (r:Vals [x] us):∃ u,us=[u]/\RelV x u:=by
 cases r with
 | cons r1 r2=>cases r2;exact ⟨_,rfl,r1⟩
theorem vals2 {x y:V} {us:List Value} (r:Vals [x,y] us):∃ u w',us=[u,w']/\RelV x u/\RelV y w':=by
 cases r with
 | cons r1 r2 =>
  cases r2 with
  | cons r3 r4=>cases r4;exact ⟨_,_,rfl,r1,r3⟩
theorem Lc (hc:X.calm=true):iz X (.builtin "max") (fun xs H Q=>∃ i j,xs=[.int i,.int j]/\Q (.int (if j > i then j else i)) H):=by
 intro pins s σ H xs us Q I r h
 obtain ⟨i,j,rfl,q⟩:=h
 obtain ⟨u,w',rfl,⟨t,rfl⟩,⟨t',rfl⟩⟩:=vals2 r
 refine max_two_ints (I.ok.hd hc) fun h' tk k=>⟨_,H,I.kept k,?_,q⟩
 by_cases hj:j > i
 ·rw [if_pos hj,if_pos hj];exact ⟨_,rfl⟩
 ·rw [if_neg hj,if_neg hj];exact ⟨_,rfl⟩
theorem Hn:iz X (.type "int") (fun xs H Q=>(∃ i,xs=[.int i]/\Q (.int i) H)\/∃ k,xs=[.bl k]/\Q (.int (if k then 1 else 0)) H):=by
 intro pins s σ H xs us Q I r h
 rcases h with ⟨i,rfl,q⟩ | ⟨k,rfl,q⟩
 ·obtain ⟨u,rfl,t,rfl⟩:=vals1 r
  exact call_int_int ⟨.int i,H,I,⟨_,rfl⟩,q⟩
 ·obtain ⟨u,rfl,r1⟩:=vals1 r
  cases r1
  exact call_int_bool ⟨.int (if k then 1 else 0),H,I.tok _,⟨_,rfl⟩,q⟩
end
end L2
namespace L2
open PySem PySem.Spec PyProof.Rows
section
variable {prog:Program} {w:World} {A:Around} {E:Value->Shared->Prop} {s:Shared} {K:PySem.W.Frag} {x dx C f:Addr} {mA:Str->Option Value} {name:Str} {v:Value}
end
section
variable {P:Program} {w:World} {H H':Hp} {h h':Heap} {a C dx:Addr} {fs fs':List (Str×V)}
end
structure pM (K:PySem.W.Frag) (C:Addr) (f:Str) (v:V) (u:Value):Prop where
 at_:PySem.W.findIn K (.ref C) f=some (some u)
 rel:RelV v u
 get:PySem.W.specialIn K u "__get__" = some none
 cp:PySem.W.copiedNames.contains f=false
section
variable {X:Cx} {pins:List (Addr×Obj)} {σ:St} {H:Hp} {s:Shared} {a C dx:Addr} {fs:List (Str×V)} {f:Str} {v:V} {A:Around} {E:Value->Shared->Prop}
end
section
variable {X:Cx} {o e value:Expr} {f:Str} {pos pos' tpos:Pos} {ta tv:TE}
end
section
variable {X:Cx} {pins:List (Addr×Obj)} {σ:St} {H:Hp} {s:Shared} {A:Around} {E:Value->Shared->Prop} {Q:Value->Shared->Prop} {c:Value} {b:Bool}
end
end L2
namespace L2
open PySem PySem.Spec PyProof.Rows
structure gJ (k:Nat) (A:Around):Prop where
 hd:A.handled=none
 dp:A.depth + 3 * k + 5 < recursionLimit
 un:A.units + 16 * k + 200 < cLine
 gd:A.guards=some []
theorem gJ.mono {j k:Nat} {A:Around} (r:gJ k A) (h:j<=k):gJ j A:=⟨r.hd,by have:=r.dp;omega,by have:=r.un;omega,r.gd⟩
theorem gJ.deeper {k:Nat} {A:Around} (r:gJ (k + 1) A) (env:Env):gJ k (A.deeper env) :=
 ⟨r.hd,by have:=r.dp;show A.depth + 1 + 3 * k + 5 < _;omega,by have:=r.un;show A.units + 3 + 16 * k + 200 < _;omega,r.gd⟩
theorem gJ.depth {k:Nat} {A:Around} (r:gJ k A):A.depth < recursionLimit:=by have:=r.dp;omega
theorem gJ.units {k:Nat} {A:Around} (r:gJ k A):A.units + 64 < cLine:=by have:=r.un;omega
def yy:TA:=fun _ H Q=>Q [] H
def se (ta:TE) (tr:TA):TA:=fun σ H Q=>ta σ H fun x H1=>tr σ H1 fun xs H2=>Q (x :: xs) H2
section
variable {X:Cx} {e:Expr} {es:List Expr} {te:TE} {t:TA} {pos:Pos}
theorem aC:PA X [] yy:=fun _ _ _ _ H Q I h=>Calls.spliced_nil ⟨[],H,I,.nil,h⟩
theorem ao (ha:PE X e te) (hr:PA X es t) (hs:starEach (e :: es) X.env=(false,eval e X.env) :: starEach es X.env:=by rfl):PA X (e :: es) (se te t):=by
 intro pos pins s σ H Q I h
 rw [hs]
 show wpAny _ _ (spliced ((false,eval e X.env) :: backTo pos (starEach es X.env))) _ _ s
 refine Calls.spliced_cons (cB (ha pins s σ H _ I h) fun u s1 ⟨x,H1,I1,r1,q1⟩=>?_)
 exact cB (hr pos pins s1 σ H1 _ I1 q1) fun us s2 ⟨xs,H2,I2,r2,q2⟩=>⟨x :: xs,H2,I2,.cons r1 r2,q2⟩
def yz (t:TA):TE:=fun σ H Q=>t σ H fun xs H1=>xs.length<=sizeLine/\∀ p,H1 p=none->Q (.ref p) (upd H1 p (.tup xs))
def yA (t:TA):TE:=fun σ H Q=>t σ H fun xs H1=>xs.length<=sizeLine/\∀ p,H1 p=none->Q (.ref p) (upd H1 p (.lst xs))
theorem iD {x1} (h:PA X es t):PE X (.Tuple es x1 pos) (yz t):=by
 intro pins s σ H Q I hq
 refine wpAny_Tuple_spliced (cB (h pos pins s σ H _ I hq) fun us s1 ⟨xs,H1,I1,r,z,q⟩=>⟨by rw [<- r.length];exact z,?_⟩)
 have hf:H1 s1.heap.objs.size=none:=I1.hok.fresh (Nat.le_refl _)
 refine ⟨.ref s1.heap.objs.size,upd H1 s1.heap.objs.size (.tup xs),I1.laid (t':=s1.toks) (fun b u e=>Heap.get?_push_of_some _ e) (Nat.le_refl _) ?_,rfl,q _ hf⟩
 exact ⟨z,us,r,⟨_,Heap.get?_push_size _ rfl,rfl,rfl,_,rfl⟩⟩
theorem lV (h:PA X es t):PE X (.List es pos) (yA t):=by
 intro pins s σ H Q I hq
 refine wpAny_List_spliced (cB (h pos pins s σ H _ I hq) fun us s1 ⟨xs,H1,I1,r,z,q⟩=>⟨by rw [<- r.length];exact z,?_⟩)
 have hf:H1 s1.heap.objs.size=none:=I1.hok.fresh (Nat.le_refl _)
 refine ⟨.ref s1.heap.objs.size,upd H1 s1.heap.objs.size (.lst xs),I1.laid (t':=s1.toks) (fun b u e=>Heap.get?_push_of_some _ e) (Nat.le_refl _) ?_,rfl,q _ hf⟩
 exact ⟨z,us,0,r,Heap.get?_push_size _ rfl⟩
end
abbrev Sp:=List V->Hp->VK->XK->Prop
abbrev oT:=List Env->Hp->Shared->XK->Value->Shared->Prop
structure qV (P:Program) (w:World) (K:PySem.W.Frag) (mg:Str->Option Value) (base:Heap) (A:Around) (outer:List Env) (s:Shared) (H:Hp):Prop where
 frames:A.frames=some outer
 mod:Mod K mg base
 bs:∀ b o,base.get? b=some o->s.heap.get? b=some o/\H b=none
 rS:base.objs.size<=s.heap.objs.size
 lD:s.heap.FunFrames base outer
 w8:∀ b∈frs outer,H b=none
 hok:ka P w H s.heap
 bare:AllBare s.gens
def CE (outer:List Env) (P:Program) (w:World) (H:Hp) (s:Shared) (Q:VK) (u:Value) (s':Shared):Prop :=
 ∃ v H',s'.os=s.os/\AllBare s'.gens/\Un (frs outer) [] H H' s.heap s'.heap/\ka P w H' s'.heap/\RelV v u/\Q v H'
def CR (CX:oT) (outer:List Env) (P:Program) (w:World) (H:Hp) (s:Shared) (Q:VK) (E:XK) (r:Result) (s':Shared):Prop :=
 match r with
 | .ok (.ret u)=>CE outer P w H s Q u s'
 | .ok _=>False
 | .error e=>CX outer H s E e s'
structure az (P:Program) (w:World) (K:PySem.W.Frag) (mg:Str->Option Value) (base:Heap) (CX:oT) (k:Nat) (f:Addr) (fd:FuncData) (ps:List Str) (sp:Sp):Prop where
 len:∀ vs H Q E,sp vs H Q E->vs.length=ps.length
 run:∀ (A:Around) (outer:List Env) (s:Shared) (H:Hp) (args:Args) (us:List Value) (vs:List V) (Q:VK) (E:XK),gJ k A->qV P w K mg base A outer s H->BindsTo s fd args (ps.zip us)->Vals vs us->sp vs H Q E ->
  codeAny (model P w) A (.call (.ref f) args) (CR CX outer P w H s Q E) s
theorem az.imp {P:Program} {w:World} {K:PySem.W.Frag} {mg:Str->Option Value} {base:Heap} {CX:oT} {k:Nat} {f:Addr} {fd:FuncData} {ps:List Str} {sp Ho:Sp} (F:az P w K mg base CX k f fd ps sp)
  (h:∀ vs H Q E,Ho vs H Q E->sp vs H Q E):az P w K mg base CX k f fd ps Ho :=
 ⟨fun vs H Q E q=>F.len vs H Q E (h _ _ _ _ q),fun A outer s H args us vs Q E hr he hb hv hs=>F.run A outer s H args us vs Q E hr he hb hv (h _ _ _ _ hs)⟩
section
variable {X:Cx} {pins:List (Addr×Obj)} {σ:St} {H:Hp} {s s':Shared}
theorem Inv.Ey (I:Inv X pins σ H s):qV X.prog X.w X.K X.mg X.base X.A X.stack s H :=
 ⟨I.ok.frames,I.ok.mod,I.bs,Nat.le_trans I.ok.rS I.sz,I.stack,I.og,I.hok,I.bare⟩
theorem Inv.after {Q:VK} {u:Value} (I:Inv X pins σ H s) (h:CE X.stack X.prog X.w H s Q u s'):EP X pins σ Q u s':=by
 obtain ⟨v,H',os,bare,un,hok,r,q⟩:=h
 obtain ⟨hh,g,d,t,os'⟩:=s'
 obtain rfl:os'=s.os:=os
 exact ⟨v,H',I.call (h':=hh) (g':=g) (d':=d) (t':=t) (ch:=[]) un hok bare (fun b z=>absurd z (by simp)),r,q⟩
end
def sf (sp:Sp) (si:List V) (E:XK) (t:TA):TE:=fun σ H Q=>t σ H fun vs H1=>sp (vs ++ si) H1 Q E
def Binds (K:PySem.W.Frag) (fd:FuncData) (ps:List Str) (ds:List Value):Prop :=
 ∀ (s:Shared) (us:List Value),K.In s.heap->(us ++ ds).length=ps.length->BindsTo s fd ⟨us,[]⟩ (ps.zip (us ++ ds))
theorem Binds.all {K:PySem.W.Frag} {fd:FuncData} {ps:List Str} (h:∀ us:List Value,us.length=ps.length->bindArgs fd ⟨us,[]⟩=pure (ps.zip us)):Binds K fd ps []:=fun s us _ hl=>by
 rw [List.append_nil] at hl ⊢
 exact .of_eq (h us hl)
def Passes (CX:oT) (X:Cx) (E:XK):Prop:=∀ (pins:List (Addr×Obj)) (σ:St) (H:Hp) (s:Shared) (e:Value) (s':Shared),Inv X pins σ H s->CX X.stack H s E e s'->X.xe e s'
section
variable {X:Cx} {CX:oT} {k:Nat} {f C:Addr} {fd:FuncData} {ps:List Str} {sp:Sp} {si:List V} {ds:List Value} {E:XK} {x m:Str} {p pos apos:Pos} {e o:Expr} {es:List Expr} {ta:TE} {t:TA}
theorem uq {pins:List (Addr×Obj)} {σ:St} {H:Hp} {s:Shared} {Q:VK} {us:List Value} {vs:List V} (F:az X.prog X.w X.K X.mg X.base CX k f fd ps sp) (hr:gJ k X.A) (hb:Binds X.K fd ps ds) (hd:Vals si ds) (hx:Passes CX X E)
  (I:Inv X pins σ H s) (r:Vals vs us) (h:sp (vs ++ si) H Q E):wpAny (model X.prog X.w) X.A (call (.ref f) us) (EP X pins σ Q) X.xe s:=by
 have r2:Vals (vs ++ si) (us ++ ds):=r.append hd
 have hl:(us ++ ds).length=ps.length:=by rw [<- r2.length];exact F.len _ _ _ _ h
 refine wpAny_call (codeAny_mono (F.run X.A X.stack s H ⟨us,[]⟩ (us ++ ds) (vs ++ si) Q E hr I.Ey (hb s us I.BW hl) r2 h) fun r s' hq=>?_)
 cases r with
 | error e=>exact hx pins σ H s e s' I hq
 | ok fl =>
  cases fl with
  | ret u=>exact I.after hq
  | next=>exact False.elim hq
  | brk=>exact False.elim hq
  | cont=>exact False.elim hq
theorem bR (F:az X.prog X.w X.K X.mg X.base CX k f fd ps sp) (hr:gJ k X.A) (hg:Gl X x) (hm:X.mg x=some (.ref f)) (hk:PySem.W.keepIn X.K (.ref f)=true) (hb:Binds X.K fd ps ds) (hd:Vals si ds) (hx:Passes CX X E)
  (ha:PA X (e :: es) t) (hdb:(x == ("__debug__" : Str))=false:=by decide) (he:starEach (e :: es) X.env=(false,eval e X.env) :: starEach es X.env:=by rfl) (hpl:(backTo pos (starEach es X.env)).any (·.1)=false:=by rfl) :
  PE X (.Call (.Name x p) (e :: es) [] pos) (sf sp si E t):=by
 intro pins s σ H Q I h
 refine wpAny_Call_Name_kw (G6 I hg hm ?_ hdb)
 refine PySem.W.callWith_K (h₀:=X.base) I.ok.mod.Ef hk (cB (ha pos pins s σ H _ I h) fun us s1 ⟨vs,H1,I1,r,q⟩=>⟨I1.BW,?_⟩) he hpl
 exact uq F hr hb hd hx I1 r q
end
section
variable {X:Cx} {CX:oT} {k:Nat} {f C:Addr} {fd:FuncData} {ps ks:List Str} {sp:Sp} {E:XK} {x m:Str} {p pos apos kpos:Pos} {e o:Expr} {es:List Expr} {kws:List Keyword} {te ta:TE} {t tk:TA} {nm:Option Str}
variable {g:List Value->List Value->List Value} {gV:List V->List V->List V}
end
structure ax (N P:List Str) (sc:Scope):Prop where
 kind:sc.kind=.function
 co:sc.isCoroutine=false
 gen:sc.isGenerator=false
 nd:N.Nodup
 pre:N.take P.length=P
 par:∀ x∈P,sc.names.lookup x=some .local\/sc.names.lookup x=some .cell
 ur:∀ y∈sc.names,y.2≠.free
theorem Hq {kindOf:Str->Option NameKind} {x:Str}:∀ {binds:List (Str×Value)} {m:Str->Option Value},(∀ v,(x,v) ∉ binds)->bindL kindOf binds m x=m x
 | [],_,_=>rfl
 | (n,v) :: r,m,h=>by
  unfold bindL
  rw [Hq fun w hw=>h w (List.mem_cons_of_mem _ hw)]
  split
  ·have:x≠n:=by rintro rfl;exact h v List.mem_cons_self
   simp [this]
  ·rfl
theorem Hr {kindOf:Str->Option NameKind} {x:Str}:∀ {binds:List (Str×Value)} {m:Str->Option Value},(∀ v,(x,v) ∉ binds)->bindC kindOf binds m x=m x
 | [],_,_=>rfl
 | (n,v) :: r,m,h=>by
  unfold bindC
  rw [Hr fun w hw=>h w (List.mem_cons_of_mem _ hw)]
  split
  ·rfl
  ·have:x≠n:=by rintro rfl;exact h v List.mem_cons_self
   simp [this]
theorem Hs {kindOf:Str->Option NameKind} {x:Str} {v:Value}:∀ {P:List Str} {vs:List Value} {i:Nat} {m:Str->Option Value},P.Nodup->P[i]?=some x->vs[i]?=some v->kindOf x=some .local ->
  bindL kindOf (P.zip vs) m x=some v
 | [],_,_,_,_,h,_,_=>by simp at h
 | _ :: _,[],_,_,_,_,h,_=>by simp at h
 | p :: P,w :: vs,0,m,nd,h1,h2,hk=>by
  simp at h1 h2;subst h1;subst h2
  show bindL kindOf ((p,w) :: P.zip vs) m p=_
  unfold bindL
  rw [Hq fun v hv=>(List.nodup_cons.mp nd).1 (List.of_mem_zip hv).1,if_pos hk]
  simp
 | p :: P,w :: vs,i + 1,m,nd,h1,h2,hk=>by
  show bindL kindOf ((p,w) :: P.zip vs) m x=_
  unfold bindL
  exact Hs (i:=i) (List.nodup_cons.mp nd).2 (by simpa using h1) (by simpa using h2) hk
theorem Ht {kindOf:Str->Option NameKind} {x:Str} {v:Value}:∀ {P:List Str} {vs:List Value} {i:Nat} {m:Str->Option Value},P.Nodup->P[i]?=some x->vs[i]?=some v->kindOf x≠some .local ->
  bindC kindOf (P.zip vs) m x=some v
 | [],_,_,_,_,h,_,_=>by simp at h
 | _ :: _,[],_,_,_,_,h,_=>by simp at h
 | p :: P,w :: vs,0,m,nd,h1,h2,hk=>by
  simp at h1 h2;subst h1;subst h2
  show bindC kindOf ((p,w) :: P.zip vs) m p=_
  unfold bindC
  rw [Hr fun v hv=>(List.nodup_cons.mp nd).1 (List.of_mem_zip hv).1,if_neg hk]
  simp
 | p :: P,w :: vs,i + 1,m,nd,h1,h2,hk=>by
  show bindC kindOf ((p,w) :: P.zip vs) m x=_
  unfold bindC
  exact Ht (i:=i) (List.nodup_cons.mp nd).2 (by simpa using h1) (by simpa using h2) hk
def start (N:List Str) (vs:List V):St:=vs.map some ++ List.replicate (N.length - vs.length) none
def iN (CX:oT) (P:Program) (w:World) (K:PySem.W.Frag) (mg:Str->Option Value) (base:Heap) (N:List Str) (qual:Str) (scope:Scope) (f:Addr) (cd:Value) (A:Around) (outer:List Env) (s:Shared) (H:Hp) (E:XK):Cx where
 prog:=P
 w:=w
 K:=K
 mg:=mg
 base:=base
 A:=A.deeper (envOfC qual scope s.heap.objs.size f cd)
 N:=N
 s₀:=s
 H₀:=H
 env:=envOfC qual scope s.heap.objs.size f cd
 outer:=outer
 stack:=envOfC qual scope s.heap.objs.size f cd :: outer
 ex:=[]
 calm:=true
 fn:=fun _=>true
 pn:=[]
 xe:=fun e s'=>wpAny (model P w) (A.deeper (envOfC qual scope s.heap.objs.size f cd)) («leaving» (envOfC qual scope s.heap.objs.size f cd) e) (fun _ s''=>CX outer H s E e s'') (fun e' s''=>CX outer H s E e' s'') s'
theorem Hu {sc:Scope} {n:Nat} {x:Str} (h:sc.names.lookup x=some .cell):∃ c,(cellsFrom n sc.names []).lookup x=some c:=by
 have q:=PySem.W.cellsFrom_some sc.names n [] (.inl h)
 exact Option.isSome_iff_exists.mp q
theorem Ld {CX:oT} {P:Program} {w:World} {K:PySem.W.Frag} {mg:Str->Option Value} {base:Heap} {N ps:List Str} {qual:Str} {scope:Scope} {f:Addr} {cd:Value} {A:Around} {outer:List Env} {s s1:Shared} {H:Hp} {E:XK} {us:List Value} {vs:List V}
  (S:ax N ps scope) (hd:A.handled=none) (e0:qV P w K mg base A outer s H) (hl:vs.length=ps.length) (r:Vals vs us)
  (x:InCallC s s.heap.objs.size (bindL (envOfC qual scope s.heap.objs.size f cd).kindOf (ps.zip us) fun _=>none) (cellsFrom (s.heap.objs.size + 1) scope.names []) (bindC (envOfC qual scope s.heap.objs.size f cd).kindOf (ps.zip us) fun _=>none) s1) :
  Inv (iN CX P w K mg base N qual scope f cd A outer s H E) [] (start N vs) H s1:=by
 have hpl:ps.length<=N.length:=by have:=congrArg List.length S.pre;rw [List.length_take] at this;omega
 obtain ⟨h1,tk,rfl,hk⟩:=x.done
 have yB:∀ b:Addr,b ∉ (iN CX P w K mg base N qual scope f cd A outer s H E).ex:=fun b z=>absurd (show b∈([]:List Addr) from z) (by simp)
 refine ⟨⟨e0.mod,S.kind,rfl,rfl,Nat.le_refl _,fun y z c h1 h2=>?_,fun y hy=>?_,fun y c _ h=>?_,fun _=>hd,Around.frames_deeper e0.frames,.inr ⟨rfl,rfl⟩,fun b z=>absurd z (yB b),e0.bs,e0.rS,fun b _ _=>yB b,fun b z=>absurd z (yB b),e0.lD,e0.w8⟩,
  rfl,e0.bare,Un.kept hk,⟨_,x.toInCall.ns,fun i y v h1 h2 h3=>?_⟩,fun y c h=>⟨_,x.cell y c h⟩,e0.hok.fresh (Nat.le_refl _),fun y c h=>?_,fun p hp=>absurd (show p∈([]:List (Addr×Obj)) from hp) (by simp),e0.hok.kept hk,?_⟩
 ·exact name_of_addr x.apart (PySem.mem_of_lookup h1) (PySem.mem_of_lookup h2)
 ·have hy:scope.names.lookup y=some .cell\/scope.names.lookup y=some .free:=hy
  rcases hy with hy | hy
  ·exact Hu hy
  ·exact absurd rfl (S.ur _ (PySem.mem_of_lookup hy))
 ·exact Nat.le_of_lt (x.above y c (PySem.mem_of_lookup h))
 ·have hi:i < vs.length:=by
   unfold start at h2
   by_cases hi:i < vs.length
   ·exact hi
   ·rw [List.getElem?_append_right (by simpa using hi)] at h2
    rw [List.getElem?_replicate] at h2
    split at h2 <;> cases h2
  have ha:vs[i]?=some v:=by
   unfold start at h2
   rw [List.getElem?_append_left (by simpa using hi),List.getElem?_map] at h2
   cases e:vs[i]? with
   | none=>rw [e] at h2;cases h2
   | some a=>rw [e] at h2;cases h2;rfl
  obtain ⟨u,hu,rv⟩:=r.get ha
  have hp:ps[i]?=some y:=by
   rw [<- S.pre,List.getElem?_take_of_lt (by omega)];exact h1
  have Hv:ps.Nodup:=by rw [<- S.pre];exact S.nd.sublist (List.take_sublist _ _)
  refine ⟨u,rv,?_⟩
  rcases S.par y (List.mem_of_getElem? hp) with k | k
  ·exact .inl ⟨k,Hs Hv hp hu k⟩
  ·obtain ⟨c,e⟩:=Hu (n:=s.heap.objs.size + 1) k
   refine .inr ⟨.inl k,c,e,?_⟩
   have q:=x.cell y c e
   rw [Ht Hv hp hu (by show scope.names.lookup y≠_;rw [k];decide)] at q
   exact q
 ·exact e0.hok.fresh (Nat.le_of_lt (x.above y c (PySem.mem_of_lookup h)))
 ·unfold start
  show _=N.length
  rw [List.length_append,List.length_map,List.length_replicate]
  omega
theorem yC {CX:oT} {P:Program} {w:World} {K:PySem.W.Frag} {mg:Str->Option Value} {base:Heap} {k:Nat} {f:Addr} {name qual:Str} {params:Arguments} {body:List Stmt} {scope:Scope} {dV kV doc pm cdv ct oc:Value} {an od:Option Addr}
  {osl:Array (Option Value)} {N ps:List Str} {sp:Sp} (lk:K.lookup f=some ⟨oc,od,.func (PySem.W.fnOf name qual params body scope dV kV doc pm an cdv ct),osl⟩) (hcd:PySem.W.codeIn K cdv qual=true) (S:ax N ps scope)
  (len:∀ vs H Q E,sp vs H Q E->vs.length=ps.length)
  (hbody:∀ (A:Around) (outer:List Env) (s:Shared) (H:Hp) (vs:List V) (Q:VK) (E:XK),gJ k (A.deeper (envOfC qual scope s.heap.objs.size f cdv))->sp vs H Q E ->
   ∃ t,oR (iN CX P w K mg base N qual scope f cdv A outer s H E) body t/\t { nx:=fun _ H'=>Q .non H',rt:=Q } (start N vs) H) :
  az P w K mg base CX (k + 1) f (PySem.W.fnOf name qual params body scope dV kV doc pm an cdv ct) ps sp:=by
 refine ⟨len,fun A outer s H args us vs Q E hr e0 hb r qA=>?_⟩
 have hl:=len _ _ _ _ qA
 have KX:K.In s.heap:=e0.mod.Ef.keeps fun b o e=>(e0.bs b o e).1
 have lim:s.heap.NoLimit:=e0.mod.nolimit.keeps fun b o e=>(e0.bs b o e).1
 have hkind:∀ y∈ps.zip us,scope.names.lookup y.1=some .local\/(scope.names.lookup y.1=some .cell/\((cellsFrom (s.heap.objs.size + 1) scope.names []).lookup y.1).isSome=true):=fun ⟨n,v⟩ hy=>by
  rcases S.par n (List.of_mem_zip hy).1 with q | q
  ·exact .inl q
  ·exact .inr ⟨q,PySem.W.cellsFrom_some _ _ _ (.inl q)⟩
 refine codeAny_call_function hr.depth (KX _ _ lk) rfl S.co S.gen rfl (PySem.W.codeRec_of KX hcd) (hb _ _ _ _ ?_)
 refine wpAny_newFunctionEnv_cells S.kind hkind fun env he s1 x=>?_
 subst he
 refine ⟨lim.keeps x.toInCall.keep,codeAny_func ?_⟩
 obtain ⟨t,ht,hq⟩:=hbody A outer s H vs Q E (hr.deeper _) qA
 have I:Inv (iN CX P w K mg base N qual scope f cdv A outer s H E) [] (start N vs) H s1:=Ld S hr.hd e0 hl r x
 refine wpAny_mono (ht [] s1 (start N vs) H _ I hq) (fun fl s' hs=>?_) fun e s' hs=>hs
 have fin:∀ {σ':St} {H':Hp} {v:V} {u:Value},Inv (iN CX P w K mg base N qual scope f cdv A outer s H E) [] σ' H' s'->RelV v u->Q v H'->CE outer P w H s Q u s' :=
  fun {σ' H' v u} J rv q=>⟨v,H',J.os,J.bare,J.base,J.hok,rv,q⟩
 cases fl with
 | ret u =>
  obtain ⟨v,σ',H',J,rv,q⟩:=hs
  exact fin J rv q
 | next =>
  obtain ⟨σ',H',J,q⟩:=hs
  exact fin (v:=V.non) (u:=Value.none) J rfl q
 | brk =>
  obtain ⟨_,_,_,q⟩:=hs
  exact False.elim q
 | cont =>
  obtain ⟨_,_,_,q⟩:=hs
  exact False.elim q
end L2
namespace L2
open PySem PySem.Spec PyProof.Rows
section
variable {X:Cx} {x:Str} {p pos:Pos} {e:Expr} {es:List Expr} {t:TA} {id T:String} {r:List V->Hp->VK->Prop}
def Ez (r:List V->Hp->VK->Prop) (t:TA):TE:=fun σ H Q=>t σ H fun vs H1=>r vs H1 Q
theorem lq (hc:iz X (.builtin id) r) (hg:Gl X x) (hm:X.mg x=none) (hv:bootBuiltins x=some (.builtin id)) (ha:PA X (e :: es) t) (hn:x≠"__name__" := by decide) (hdb:(x == ("__debug__" : Str))=false:=by decide)
  (he:starEach (e :: es) X.env=(false,eval e X.env) :: starEach es X.env:=by rfl) (hpl:(backTo pos (starEach es X.env)).any (·.1)=false:=by rfl):PE X (.Call (.Name x p) (e :: es) [] pos) (Ez r t):=by
 intro pins s σ H Q I h
 refine wpAny_Call_Name_kw (yd I hg hm hv ?_ hn hdb)
 exact PyProof.Rows.callWith_builtin1 (cB (ha pos pins s σ H _ I h) fun us s1 ⟨vs,H1,I1,r1,q1⟩=>hc pins s1 σ H1 vs us Q I1 r1 q1) he hpl
theorem gw (hc:iz X (.type T) r) (hg:Gl X x) (hm:X.mg x=none) (hv:bootBuiltins x=some (.type T)) (ha:PA X (e :: es) t) (hn:x≠"__name__" := by decide) (hdb:(x == ("__debug__" : Str))=false:=by decide)
  (he:starEach (e :: es) X.env=(false,eval e X.env) :: starEach es X.env:=by rfl) (hpl:(backTo pos (starEach es X.env)).any (·.1)=false:=by rfl):PE X (.Call (.Name x p) (e :: es) [] pos) (Ez r t):=by
 intro pins s σ H Q I h
 refine wpAny_Call_Name_kw (yd I hg hm hv ?_ hn hdb)
 exact PyProof.Rows.callWith_type1 (cB (ha pos pins s σ H _ I h) fun us s1 ⟨vs,H1,I1,r1,q1⟩=>hc pins s1 σ H1 vs us Q I1 r1 q1) he hpl
end
end L2
namespace HT
open PySem PyProof.Rows
theorem Le (A:Around) (s:Shared) (a:Int) (t:Tok) (c:Int) (u:Tok):∃ e,SeqAt.EqAt A s (.int a t) (.int c u) e/\(e=true↔a=c) :=
 ⟨(a == c),SeqAt.EqAt.int_int a t c u,by simp⟩
section
open PySem.SeqAt
open PySem.AutoSeq1 (wpAny_loadPart')
open PySem.MeetsSeq PySem.MeetsSeq2 PySem.MeetsSeq3
end
section
variable {prog:Program} {w:World} {A:Around} {E:Value->Shared->Prop} {s:Shared}
theorem Lf {t b:Addr} {vs ws:List Value} {Q:Value->Shared->Prop} (ht:IsTup s.heap t vs.toArray) (hb:IsTup s.heap b ws.toArray) (hv:vs≠[])
  (h1:ws=[]->Q (.ref t) s) (h2:ws≠[]->Q (.ref s.heap.objs.size) { s with heap:=s.heap.push { cls:=.type "tuple",data:=.seq (vs ++ ws).toArray } })
  (hsz:vs.length + ws.length<=sizeLine):wpAny (model prog w) A (binaryOp .Add (.ref t) (.ref b)) Q E s:=by
 obtain ⟨⟨cls,dd,data,sl⟩,ho,hc,n,hd⟩:=id ht
 obtain ⟨⟨EA,dd2,data2,sl2⟩,ho2,hc2,n2,hd2⟩:=id hb
 simp only at hc hd hc2 hd2
 subst hc hd hc2 hd2
 have e:vs.toArray ++ ws.toArray=(vs ++ ws).toArray:=by simp
 by_cases hw:ws=[]
 ·exact concat_meets ⟨_,ho,rfl⟩ ⟨_,ho2,rfl⟩ noFill_tuple_add seq_tuple_add PySem.F.slot_tuple_add PySem.F.entry_tuple_add (PySem.F.args_tuple_add_2 _ _)
   (tuple_addW1 t b vs.toArray ws.toArray n n2 dd dd2 sl sl2 (by simpa using hv) (by simp [hw])) ⟨ho,ho2,h1 hw⟩
 ·refine concat_meets ⟨_,ho,rfl⟩ ⟨_,ho2,rfl⟩ noFill_tuple_add seq_tuple_add PySem.F.slot_tuple_add PySem.F.entry_tuple_add (PySem.F.args_tuple_add_2 _ _)
   (tuple_addW2 t b vs.toArray ws.toArray n n2 dd dd2 sl sl2 (by simpa using hv) (by simpa using hw) (by rw [List.size_toArray,List.size_toArray];exact hsz)) ⟨ho,ho2,?_⟩
  rw [e]
  exact h2 hw
def cE (n d:Nat):Option Int->Nat
 | none=>d
 | some v=>if v < 0 then (v + (n:Int)).toNat else min v.toNat n
theorem Lg (n d:Nat):cE n d none=d:=rfl
theorem Lh (n d k:Nat):cE n d (some (k:Int))=min k n:=by
 show (if (k:Int) < 0 then ((k:Int) + (n:Int)).toNat else min (k:Int).toNat n)=min k n
 rw [if_neg (by omega),Int.toNat_natCast]
theorem uu (n d:Nat) (hd:d<=n) (o:Option Int):cE n d o<=n:=by
 cases o with
 | none=>exact hd
 | some v =>
  show (if v < 0 then (v + (n:Int)).toNat else min v.toNat n)<=n
  by_cases hv:v < 0
  ·rw [if_pos hv];omega
  ·rw [if_neg hv];exact Nat.min_le_right _ _
theorem Hw (v:Int) (n d:Nat):(if v < 0 then max (v + (n:Int)) 0 else min v (n:Int))=((cE n d (some v):Nat):Int):=by
 show (if v < 0 then max (v + (n:Int)) 0 else min v (n:Int))=(((if v < 0 then (v + (n:Int)).toNat else min v.toNat n):Nat):Int)
 by_cases hv:v < 0
 ·simp only [if_pos hv];omega
 ·simp only [if_neg hv];omega
theorem Li (lo hi:Option Int) (n:Nat):Builtin.Slice.sliceAdjust lo hi 1 (n:Int)=(((cE n 0 lo:Nat):Int),((cE n n hi:Nat):Int)):=by
 have h1:¬ ((1:Int) < 0):=by omega
 unfold Builtin.Slice.sliceAdjust
 simp only [h1,if_false]
 refine Prod.ext ?_ ?_
 ·cases lo with
  | none=>rfl
  | some v=>exact Hw v n 0
 ·cases hi with
  | none=>rfl
  | some v=>exact Hw v n n
theorem Lj (i j:Nat):Builtin.Slice.slicePlaces (i:Int) (j:Int) 1=j - i:=by
 unfold Builtin.Slice.slicePlaces
 have h1:(1:Int) > 0:=by omega
 simp only [h1,if_true,Int.ediv_one]
 split <;> omega
theorem Hx {v:Value} {o:Option Int} {Q:Option Int->Shared->Prop} (p:IsPart v o) (h:Q o s):wpAny (model prog w) A (Builtin.Slice.slicePartIndex v) Q E s:=by
 cases p with
 | none=>exact slicePart_none h
 | int i t=>exact slicePart_int h
theorem Hy {sl:Addr} {vl vu:Value} {lo hi:Option Int} {n:Nat} {Q:Int×Int×Nat->Shared->Prop} (hs:s.heap.IsSliceOf sl vl vu .none) (pl:IsPart vl lo) (pu:IsPart vu hi)
  (h:Q (((cE n 0 lo:Nat):Int),1,cE n n hi - cE n 0 lo) s):wpAny (model prog w) A (Builtin.Slice.sliceApplied (.ref sl) (pure (n:Int))) Q E s:=by
 obtain ⟨os,hos,hcs,hds⟩:=id hs
 unfold Builtin.Slice.sliceApplied Builtin.Slice.sliceFields
 refine wpAny_bind (wpAny_bind (wpAny_field hos hds (x:=vl) rfl (wpAny_bind (wpAny_field hos hds (x:=vu) rfl (wpAny_bind (wpAny_field hos hds (x:=.none) rfl (wpAny_pure ?_)))))))
 refine wpAny_bind (slicePart_none ?_)
 show wpAny _ _ (if ((1:Int) == 0)=true then _ else _) _ _ s
 rw [if_neg (by decide)]
 refine wpAny_bind (Hx pl (wpAny_bind (Hx pu (wpAny_bind (wpAny_pure ?_)))))
 show wpAny _ _ (match Builtin.Slice.sliceAdjust lo hi 1 (n:Int) with | (lo,hi)=>pure (lo,(1:Int),Builtin.Slice.slicePlaces lo hi 1)) _ _ s
 rw [Li lo hi n]
 show wpAny _ _ (pure (((cE n 0 lo:Nat):Int),(1:Int),Builtin.Slice.slicePlaces ((cE n 0 lo:Nat):Int) ((cE n n hi:Nat):Int) 1)) _ _ s
 rw [Lj]
 exact wpAny_pure h
theorem Lk (xs:Array Value) (i k:Nat):((List.range k).filterMap fun (m:Nat)=>xs[((i:Int) + (m:Int) * 1).toNat]?).toArray=((xs.toList.drop i).take k).toArray:=by
 have e:(fun (m:Nat)=>xs[((i:Int) + (m:Int) * 1).toNat]?)=fun m=>xs[i + m]?:=by
  funext m
  have:((i:Int) + (m:Int) * 1).toNat=i + m:=by omega
  rw [this]
 rw [e]
 have:=pick_run xs i k
 rw [List.filterMap_map] at this
 have e2:((fun x=>xs[x]?) ∘ fun x=>i + x)=fun m=>xs[i + m]?:=rfl
 rw [e2] at this
 rw [this]
theorem Ll {t sl:Addr} {items:Array Value} {vl vu:Value} {lo hi:Option Int} {Q:Value->Shared->Prop} (ht:IsTup s.heap t items) (hs:s.heap.IsSliceOf sl vl vu .none) (pl:IsPart vl lo) (pu:IsPart vu hi)
  (hw:¬ (cE items.size 0 lo=0/\cE items.size items.size hi=items.size))
  (h:Q (.ref s.heap.objs.size) { s with heap:=s.heap.push { cls:=.type "tuple",data:=.seq ((items.toList.drop (cE items.size 0 lo)).take (cE items.size items.size hi - cE items.size 0 lo)).toArray } })
  (hsz:items.size<=sizeLine):wpAny (model prog w) A (getItem (.ref t) (.ref sl)) Q E s:=by
 have oi:sizeOk (.seq ((items.toList.drop (cE items.size 0 lo)).take (cE items.size items.size hi - cE items.size 0 lo)).toArray):=by
  show ((items.toList.drop (cE items.size 0 lo)).take (cE items.size items.size hi - cE items.size 0 lo)).toArray.size<=sizeLine
  rw [List.size_toArray,List.length_take,List.length_drop,Array.length_toList]
  omega
 have hj:cE items.size items.size hi<=items.size:=uu _ _ (Nat.le_refl _) hi
 obtain ⟨os,hos,hcs,hds⟩:=id hs
 have EB:s.TypeIs (.ref sl) "slice" := ⟨os,hos,hcs⟩
 unfold getItem
 try with_reducible refine wpAny_holding ?_
 first | refine wpAny_bind (wpAny_pure ?_) | skip
 refine wpAny_bind (wpAny_sequenceKey ht.typeIs (by decide) ?_)
 refine wpAny_bind (wpAny_callSpecial?_slot (name:=Str.ofString "__getitem__") ht.typeIs PyProof.Rows.slot_tuple_getitem
  (wpAny_call_entry PyProof.Rows.slot_tuple_getitem ht.typeIs entry_tuple_getitem ?_ (args_tuple_getitem _ _)))
 show wpAny _ _ (Builtin.Tuple.tupleItemsOf (.ref t) >>= _) _ _ s
 refine wpAny_bind (tupleItemsOf_ ht ?_)
 refine wpAny_bind (wpAny_typeOf EB ?_)
 rw [if_pos (by decide)]
 refine wpAny_bind (Hy hs pl pu ?_)
 have hno:¬ ((((cE items.size 0 lo:Nat):Int) == 0 && (1:Int) == 1 && (cE items.size items.size hi - cE items.size 0 lo) == items.size)=true):=by
  intro q
  rw [Bool.and_eq_true,Bool.and_eq_true] at q
  have q1:((cE items.size 0 lo:Nat):Int)=0:=eq_of_beq q.1.1
  have q2:cE items.size items.size hi - cE items.size 0 lo=items.size:=eq_of_beq q.2
  exact hw ⟨by omega,by omega⟩
 show wpAny _ _ (if (((cE items.size 0 lo:Nat):Int) == 0 && (1:Int) == 1 && (cE items.size items.size hi - cE items.size 0 lo) == items.size)=true then _ else _) _ _ s
 rw [if_neg hno,Lk]
 first
  | exact wpAny_bind (m:=Builtin.Tuple.tupleExact _) (wpAny_newObj_type (wpAny_pure ⟨_,rfl,wpAny_pure h⟩) oi)
  | exact wpAny_bind (m:=Builtin.Tuple.tupleExact _) (wpAny_newObj_type (wpAny_bind (wpAny_pure (wpAny_pure ⟨_,rfl,wpAny_pure h⟩))) oi)
  | exact wpAny_bind (wpAny_bind (m:=Builtin.Tuple.tupleExact _) (wpAny_newObj_type (wpAny_pure (wpAny_pure ⟨_,rfl,wpAny_pure h⟩)) oi))
  | exact wpAny_bind (wpAny_bind (m:=Builtin.Tuple.tupleExact _) (wpAny_newObj_type (wpAny_pure ⟨_,rfl,wpAny_pure h⟩) oi))
end
end HT
namespace L2
open PySem PySem.Spec PyProof.Rows
abbrev TO:=St->Hp->(Option Int->Hp->Prop)->Prop
def PO (X:Cx) (e:Option Expr) (t:TO):Prop :=
 ∀ (pins:List (Addr×Obj)) (s:Shared) (σ:St) (H:Hp) (Q:Option Int->Hp->Prop),Inv X pins σ H s->t σ H Q ->
  wpAny (model X.prog X.w) X.A (evalPart e X.env) (fun u s'=>∃ o H',Inv X pins σ H' s'/\IsPart u o/\Q o H') X.xe s
def oj:TO:=fun _ H Q=>Q none H
def sj (t:TE):TO:=fun σ H Q=>t σ H fun x H1=>∃ i,x=.int i/\Q (some i) H1
theorem Hz {ns:List Int}:∀ {us:List Value},Vals (ns.map V.int) us->IntsAre us ns:=by
 induction ns with
 | nil=>intro us r;rw [List.map_nil] at r;cases r;exact .nil
 | cons n ns ih =>
  intro us r
  rw [List.map_cons] at r
  cases r with
  | cons r1 r2 =>
   obtain ⟨t,e⟩:=r1
   subst e
   exact .cons n t (ih r2)
section
variable {X:Cx} {e:Expr} {te:TE} {lo hi:Option Expr} {tl th:TO} {pos p2:Pos}
theorem EC:PO X none oj:=by
 intro pins s σ H Q I h
 rw [evalPart_none]
 exact wpAny_pure ⟨none,H,I,.none,h⟩
theorem ED (h:PE X e te):PO X (some e) (sj te):=by
 intro pins s σ H Q I hw
 rw [evalPart_some]
 refine cB (h pins s σ H _ I hw) fun u s1 ⟨x,H1,I1,r1,q1⟩=>?_
 obtain ⟨i,rfl,q⟩:=q1
 obtain ⟨t,rfl⟩:=r1
 exact ⟨some i,H1,I1,.int i t,q⟩
def B7 (X:Cx) (r:V->Option Int->Option Int->Hp->VK->Prop):Prop :=
 ∀ (pins:List (Addr×Obj)) (s:Shared) (σ:St) (H:Hp) (x:V) (v vl vu:Value) (lo hi:Option Int) (sl:Addr) (Q:VK),Inv X pins σ H s->RelV x v->s.heap.IsSliceOf sl vl vu .none->IsPart vl lo->IsPart vu hi->r x lo hi H Q ->
  ∃ T id,typeLookup (.type T) "__getitem__" = pure (some (.builtin id))/\s.TypeIs v T/\wpAny (model X.prog X.w) X.A (getItem v (.ref sl)) (EP X pins σ Q) X.xe s
def HA (r:V->Option Int->Option Int->Hp->VK->Prop) (te:TE) (tl th:TO):TE:=fun σ H Q=>te σ H fun x H1=>tl σ H1 fun l H2=>th σ H2 fun u H3=>r x l u H3 Q
theorem EE {r:V->Option Int->Option Int->Hp->VK->Prop} (hr:B7 X r) (he:PE X e te) (hl:PO X lo tl) (hu:PO X hi th):PE X (.Subscript e (.Slice lo hi none p2) pos) (HA r te tl th):=by
 intro pins s σ H Q I h
 refine Subscript_ (cB (he pins s σ H _ I h) fun v s1 ⟨x,H1,I1,r1,q1⟩=>?_)
 refine wpAny_Slice (cB (hl pins s1 σ H1 _ I1 q1) fun vl s2 ⟨l,H2,I2,pl,q2⟩=>cB (hu pins s2 σ H2 _ I2 q2) fun vu s3 ⟨u,H3,I3,pu,q3⟩=>?_)
 rw [evalPart_none]
 refine wpAny_pure ?_
 have I4:Inv X pins σ H3 { s3 with heap:=s3.heap.push { cls:=.type "slice",data:=.fields #[vl,vu,.none] } }:=I3.kept (t':=s3.toks) fun b ob q=>Heap.get?_push_of_some _ q
 obtain ⟨T,id,hT,ht,hg⟩:=hr pins { s3 with heap:=s3.heap.push { cls:=.type "slice",data:=.fields #[vl,vu,.none] } } σ H3 x v vl vu l u s3.heap.objs.size Q I4 r1 (Heap.IsSliceOf.new ..) pl pu q3
 show wpAny (model X.prog X.w) X.A (subscriptTail e (.Slice lo hi none p2) v (.ref s3.heap.objs.size)) (EP X pins σ Q) X.xe { s3 with heap:=s3.heap.push { cls:=.type "slice",data:=.fields #[vl,vu,.none] } }
 exact tail_any (ops:=[.ref s3.heap.objs.size,v]) ht hT hg (by with_unfolding_all rfl)
def lG (xs:List V) (lo hi:Option Int):List V:=(xs.drop (HT.cE xs.length 0 lo)).take (HT.cE xs.length xs.length hi - HT.cE xs.length 0 lo)
theorem HB (xs:List V) (lo hi:Option Int):(lG xs lo hi).length<=xs.length:=by
 unfold lG
 rw [List.length_take,List.length_drop]
 omega
def EF (K:PySem.W.Frag):V->Option Int->Option Int->Hp->VK->Prop:=fun x lo hi H Q=>∃ a xs,x=.ref a/\eY K H a xs /\
 ¬ (HT.cE xs.length 0 lo=0/\HT.cE xs.length xs.length hi=xs.length)/\∀ p,H p=none->Q (.ref p) (upd H p (.tup (lG xs lo hi)))
theorem uv:B7 X (EF X.K):=by
 intro pins s σ H x v vl vu lo hi sl Q I rx hs pl pu h
 obtain ⟨a,xs,rfl,hx,hw,q⟩:=h
 cases rx
 obtain ⟨its,r,ht,hz⟩:=I.tuple hx
 have hlen:its.toArray.size=xs.length:=by rw [List.size_toArray];exact r.length.symm
 refine ⟨"tuple",_,PyProof.Rows.slot_tuple_getitem.lookup,ht.typeIs,?_⟩
 refine HT.Ll ht hs pl pu (by rw [hlen];exact hw) ?_ (by rw [hlen];exact hz)
 rw [hlen]
 refine ⟨.ref s.heap.objs.size,_,I.laid (t':=s.toks) (o:=.tup (lG xs lo hi)) (fun b ob q=>Heap.get?_push_of_some _ q) (Nat.le_refl _) ?_,rfl,q _ (I.hok.fresh (Nat.le_refl _))⟩
 exact ⟨Nat.le_trans (HB xs lo hi) hz,_,(r.drop (HT.cE xs.length 0 lo)).take (HT.cE xs.length xs.length hi - HT.cE xs.length 0 lo),mH.new _ _⟩
def yD (K:PySem.W.Frag):R2:=fun x y H Q=>∃ a b xs ys,x=.ref a/\y=.ref b/\eY K H a xs/\eY K H b ys/\xs≠[]/\xs.length + ys.length<=sizeLine /\
 (ys=[]->Q (.ref a) H)/\(ys≠[]->∀ p,H p=none->Q (.ref p) (upd H p (.tup (xs ++ ys))))
theorem Vals.lr {xs:List V} {us:List Value} (r:Vals xs us):us=[]↔xs=[]:=by
 cases r with
 | nil=>simp
 | cons _ _=>simp
theorem Lm:ku X (binaryOp .Add) (yD X.K):=by
 intro pins s σ H x y v u Q I rx ry h
 obtain ⟨a,b,xs,ys,rfl,rfl,ha,hb,hx,hz,q1,q2⟩:=h
 cases rx
 cases ry
 obtain ⟨its,r1,p1,_⟩:=I.tuple ha
 obtain ⟨its2,r2,p2,_⟩:=I.tuple hb
 refine HT.Lf p1 p2 (fun z=>hx (r1.lr.mp z)) (fun z=>⟨.ref a,H,I,rfl,q1 (r2.lr.mp z)⟩) (fun z=>?_) (by rw [<- r1.length,<- r2.length];exact hz)
 refine ⟨.ref s.heap.objs.size,_,I.laid (t':=s.toks) (o:=.tup (xs ++ ys)) (fun b ob q=>Heap.get?_push_of_some _ q) (Nat.le_refl _) ?_,rfl,q2 (fun w=>z (r2.lr.mpr w)) _ (I.hok.fresh (Nat.le_refl _))⟩
 exact ⟨by rw [List.length_append];exact hz,_,r1.append r2,mH.new _ _⟩
end
end L2
namespace L2
open PySem PySem.Spec PyProof.Rows
def kU (n:Nat) (i:Int):Option Nat:=if 0<=i then (if i < n then some i.toNat else none) else if -(n:Int)<=i then some (i + n).toNat else none
def iA {α:Type} (xs:List α) (i:Int):Option α:=(kU xs.length i).bind fun j=>xs[j]?
theorem EG {n:Nat} {i:Int} {j:Nat} (h:kU n i=some j):seqIndex? i n=some j/\j < n/\-(n:Int)<=i/\i < n:=by
 unfold kU at h
 by_cases h0:0<=i
 ·rw [if_pos h0] at h
  by_cases h1:i < n
  ·rw [if_pos h1] at h
   have e:i.toNat=j:=Option.some.inj h
   exact ⟨by rw [seqIndex_of h0 h1,e],by omega,by omega,h1⟩
  ·rw [if_neg h1] at h;cases h
 ·rw [if_neg h0] at h
  by_cases h1:-(n:Int)<=i
  ·rw [if_pos h1] at h
   have e:(i + n).toNat=j:=Option.some.inj h
   exact ⟨by rw [seqIndex_neg (by omega) h1,e],by omega,h1,by omega⟩
  ·rw [if_neg h1] at h;cases h
theorem HC {α:Type} {xs:List α} {i:Int} {v:α} (h:iA xs i=some v):∃ j,seqIndex? i xs.length=some j/\xs[j]?=some v/\j < xs.length/\-(xs.length:Int)<=i/\i < xs.length:=by
 unfold iA at h
 cases e:kU xs.length i with
 | none=>rw [e] at h;cases h
 | some j =>
  rw [e] at h
  obtain ⟨h1,h2,h3,h4⟩:=EG e
  exact ⟨j,h1,h,h2,h3,h4⟩
theorem xf {α:Type} {xs:List α} {j:Nat} {v:α} (h:xs[j]?=some v):iA xs (j:Int)=some v:=by
 have hj:j < xs.length:=(List.getElem?_eq_some_iff.mp h).1
 have e:kU xs.length (j:Int)=some j:=by
  unfold kU
  rw [if_pos (by omega),if_pos (by omega)];simp
 unfold iA;rw [e];exact h
def qW (b:Expr):Prop:=∀ o i,subscripted b false o i=operate [o,i] (getItem o i)
def B8 (X:Cx) (r:R2):Prop :=
 ∀ (value slice:Expr) (pins:List (Addr×Obj)) (s:Shared) (σ:St) (H:Hp) (x y:V) (v u:Value) (Q:VK),Inv X pins σ H s->RelV x v->RelV y u->r x y H Q ->
  subscripted slice false v u=operate [v,u] (getItem v u)->wpAny (model X.prog X.w) X.A (subscriptTail value slice v u) (EP X pins σ Q) X.xe s
def xg (X:Cx) (id:String) (r:V->List V->Hp->VK->Prop):Prop :=
 ∀ (pins:List (Addr×Obj)) (s:Shared) (σ:St) (H:Hp) (x:V) (xs:List V) (v:Value) (us:List Value) (Q:VK),Inv X pins σ H s->RelV x v->Vals xs us->r x xs H Q ->
  wpAny (model X.prog X.w) X.A (call (.builtin id) (v :: us)) (EP X pins σ Q) X.xe s
section
variable {X:Cx} {a b:Expr} {ta tb:TE} {pos:Pos}
theorem bA {r:R2} (hr:B8 X r) (ha:PE X a ta) (hb:PE X b tb) (hs:qW b):PE X (.Subscript a b pos) (yp r ta tb):=by
 intro pins s σ H Q I h
 exact Subscript_ (um ha hb I h fun v u s2 x y H2 I2 rx ry q=>hr a b pins s2 σ H2 x y v u Q I2 rx ry q (hs _ _))
def yE (K:PySem.W.Frag):R2:=fun x y H Q=>∃ p xs i v,x=.ref p/\y=.int i/\jB K H p xs/\iA xs i=some v/\Q v H
def uw (K:PySem.W.Frag):R2:=fun x y H Q=>∃ p xs i v,x=.ref p/\y=.int i/\eY K H p xs/\iA xs i=some v/\Q v H
theorem l9:B8 X (yE X.K):=by
 intro value slice pins s σ H x y v u Q I rx ry h hs
 obtain ⟨p,xs,i,z,rfl,rfl,hq,he,q⟩:=h
 cases rx
 obtain ⟨t,rfl⟩:=ry
 obtain ⟨its,r,pl,hz⟩:=I.list hq
 obtain ⟨j,h1,h2,h3,h4,h5⟩:=HC he
 obtain ⟨w,ew,rw'⟩:=r.get h2
 have hl:=r.length
 have hn:=ky
 have fin:EP X pins σ Q w s:=⟨z,H,I,rw',q⟩
 by_cases h0:0<=i
 ·have hj:i.toNat=j:=by
   rw [seqIndex_of h0 h5] at h1
   exact Option.some.inj h1
  exact item_listR pl.isList h0 (by omega) (by rw [hj];simpa using ew) fin hs
 ·have hj:(i + (its.toArray.size:Int)).toNat=j:=by
   rw [seqIndex_neg (by omega) h4] at h1
   rw [List.size_toArray,<- hl]
   exact Option.some.inj h1
  exact subscriptTail_builtinR (x:=w) pl.isList.typeIs slot_list_getitem.lookup
   (wpAny_getItem_list_neg (Q:=fun r s'=>r=w/\EP X pins σ Q r s') pl.isList (by omega) (by rw [List.size_toArray] <;> omega) (by omega) (by rw [hj];simpa using ew) ⟨rfl,fin⟩) hs
theorem b5:B8 X (uw X.K):=by
 intro value slice pins s σ H x y v u Q I rx ry h hs
 obtain ⟨p,xs,i,z,rfl,rfl,hq,he,q⟩:=h
 cases rx
 obtain ⟨t,rfl⟩:=ry
 obtain ⟨its,r,pl,hz⟩:=I.tuple hq
 obtain ⟨j,h1,h2,h3,h4,h5⟩:=HC he
 obtain ⟨w,ew,rw'⟩:=r.get h2
 have hl:=r.length
 have hn:=ky
 have fin:EP X pins σ Q w s:=⟨z,H,I,rw',q⟩
 exact subscriptTail_builtinR (x:=w) pl.typeIs slot_tuple_getitem.lookup
  (getItem_tuple (j:=j) (Q:=fun r s'=>r=w/\EP X pins σ Q r s') pl (by omega) (by omega) (by rw [List.size_toArray,<- hl];exact h1) (by simpa using ew) ⟨rfl,fin⟩) hs
theorem Ln (its:List Value) (n j:Nat) (u:Value):Obj.mapSeq (·.setIfInBounds j u) { cls:=.type "list",data:=.seq its.toArray n }={ cls:=.type "list",data:=.seq (its.set j u).toArray n }:=by
 simp [Obj.mapSeq]
theorem Inv.lst {pins:List (Addr×Obj)} {σ:St} {H:Hp} {s:Shared} {p:Addr} {xs:List V} (I:Inv X pins σ H s) (h:H p=some (.lst xs)) :
  ∃ (its:List Value) (n:Nat),Vals xs its/\s.heap.get? p=some { cls:=.type "list",data:=.seq its.toArray n }/\xs.length<=sizeLine:=by
 obtain ⟨z,its,n,r,e⟩:=I.hok p _ h
 exact ⟨its,n,r,e,z⟩
theorem Inv.ux {pins:List (Addr×Obj)} {σ:St} {H:Hp} {s:Shared} {p:Addr} {xs ys:List V} {its its':List Value} {n n':Nat} {f:Obj->Obj} (I:Inv X pins σ H s) (h:H p=some (.lst xs))
  (ho:s.heap.get? p=some { cls:=.type "list",data:=.seq its.toArray n }) (hf:f { cls:=.type "list",data:=.seq its.toArray n }={ cls:=.type "list",data:=.seq its'.toArray n' }) (r:Vals ys its') (hz:ys.length<=sizeLine) (t:Nat) :
  Inv X pins σ (upd H p (.lst ys)) { s with heap:=s.heap.update p f,toks:=t }:=by
 have e:(s.heap.update p f).get? p=some { cls:=.type "list",data:=.seq its'.toArray n' }:=by
  rw [Heap.get?_update_self f ho (by rw [hf] <;> rfl),hf]
 refine I.write (x:=p) (e:=p) (by rw [h];trivial) (.inl rfl) (fun b u hb q=>(Heap.get?_update_other _ _ (Ne.symm hb)).trans q) ⟨_,e⟩ ?_
 exact ⟨hz,its',n',r,e⟩
def sm:V->V->V->Hp->(Hp->Prop)->Prop:=fun o i v H Q=>∃ p xs k j,o=.ref p/\i=.int k/\H p=some (.lst xs)/\kU xs.length k=some j/\Q (upd H p (.lst (xs.set j v)))
theorem xh:yj X sm:=by
 intro pins s σ H o i v ov iv u Q I ro ri rv h
 obtain ⟨p,xs,k,j,rfl,rfl,hp,hj,q⟩:=h
 cases ro
 obtain ⟨t,rfl⟩:=ri
 obtain ⟨its,n,r,ho,hz⟩:=I.lst hp
 obtain ⟨h1,h2,h3,h4⟩:=EG hj
 have hl:=r.length
 have hn:=ky
 have I':Inv X pins σ (upd H p (.lst (xs.set j v))) { s with heap:=s.heap.update p (Obj.mapSeq (·.setIfInBounds j u)) } :=
  I.ux hp ho (Ln its n j u) (r.set rv j) (by rw [List.length_set];exact hz) s.toks
 by_cases h0:0<=k
 ·have hk:k.toNat=j:=by
   rw [seqIndex_of h0 h4] at h1
   exact Option.some.inj h1
  exact PySem.W.ki_setAt ho h0 (by omega) (by rw [List.size_toArray,<- hl];exact h4) (by rw [hk];exact ⟨_,I',q⟩)
 ·have hk:(k + (its.toArray.size:Int)).toNat=j:=by
   rw [seqIndex_neg (by omega) h3] at h1
   rw [List.size_toArray,<- hl]
   exact Option.some.inj h1
  exact PySem.W.ki_setBack ho (by omega) (by rw [List.size_toArray,<- hl];exact h3) (by omega) (by rw [hk];exact ⟨_,I',q⟩)
theorem Lo (lo hi:Option Int) (n:Nat):(sliceBounds lo hi none n).1=((HT.cE n 0 lo:Nat):Int)/\(sliceBounds lo hi none n).2.1=((HT.cE n n hi:Nat):Int)/\(sliceBounds lo hi none n).2.2=1:=by
 refine ⟨?_,?_,rfl⟩
 ·cases lo with
  | none=>simp [sliceBounds,HT.cE]
  | some i =>
   simp only [sliceBounds,HT.cE,Option.getD_none,show (1:Int) > 0 by decide,if_true]
   by_cases h:i < 0
   ·simp only [h,if_true] <;> omega
   ·simp only [h,if_false] <;> omega
 ·cases hi with
  | none=>simp [sliceBounds,HT.cE]
  | some i =>
   simp only [sliceBounds,HT.cE,Option.getD_none,show (1:Int) > 0 by decide,if_true]
   by_cases h:i < 0
   ·simp only [h,if_true] <;> omega
   ·simp only [h,if_false] <;> omega
theorem Lp (its:List Value) (lo hi:Option Int):slicePick its.toArray lo hi none=((its.drop (HT.cE its.length 0 lo)).take (HT.cE its.length its.length hi - HT.cE its.length 0 lo)).toArray:=by
 obtain ⟨h1,h2,h3⟩:=Lo lo hi its.toArray.size
 unfold slicePick
 rw [h1,h2,h3]
 simp only [sliceRange_one,pick_run,List.size_toArray] <;> rfl
def yF (K:PySem.W.Frag):V->Option Int->Option Int->Hp->VK->Prop:=fun x lo hi H Q=>∃ a xs,x=.ref a/\jB K H a xs/\∀ p,H p=none->Q (.ref p) (upd H p (.lst (lG xs lo hi)))
theorem HD:B7 X (yF X.K):=by
 intro pins s σ H x v vl vu lo hi sl Q I rx hs pl pu h
 obtain ⟨a,xs,rfl,hx,q⟩:=h
 cases rx
 obtain ⟨its,r,ht,hz⟩:=I.list hx
 have hlen:=r.length
 refine ⟨"list",_,slot_list_getitem.lookup,ht.isList.typeIs,?_⟩
 refine wpAny_getItem_list_slice ht.isList hs pl pu .none (by simp) ?_ (by rw [List.size_toArray] <;> omega)
 rw [Lp,<- hlen]
 refine ⟨.ref s.heap.objs.size,_,I.laid (t':=s.toks) (o:=.lst (lG xs lo hi)) (fun b ob q=>Heap.get?_push_of_some _ q) (Nat.le_refl _) ?_,rfl,q _ (I.hok.fresh (Nat.le_refl _))⟩
 exact ⟨Nat.le_trans (HB xs lo hi) hz,_,0,(r.drop (HT.cE xs.length 0 lo)).take (HT.cE xs.length xs.length hi - HT.cE xs.length 0 lo),Heap.get?_push_size _ rfl⟩
def jG:V->Bool
 | .non=>true
 | .bl _=>true
 | .int _=>true
 | .str _=>true
 | _=>false
def sr:V->V->Bool
 | .non,.non=>true
 | .bl a,.bl b=>a == b
 | .bl a,.int b=>(if a then 1 else 0) == b
 | .int a,.bl b=>a == (if b then 1 else 0)
 | .int a,.int b=>a == b
 | .str a,.str b=>a == b
 | _,_=>false
theorem uy {A:Around} {s:Shared} {y x:V} {u v:Value} (ry:RelV y u) (rx:RelV x v) (fy:jG y=true) (fx:jG x=true):SeqAt.EqAt A s u v (sr y x):=by
 cases y with
 | non =>
  cases ry
  cases x with
  | non=>cases rx;exact SeqAt.EqAt.same _
  | bl b=>cases rx;exact SeqAt.EqAt.none_bool b
  | int b=>obtain ⟨t,rfl⟩:=rx;exact SeqAt.EqAt.none_int b t
  | str b=>obtain ⟨t,rfl⟩:=rx;exact SeqAt.EqAt.none_str b t
  | _=>exact absurd (show false=true from fx) Bool.false_ne_true
 | bl a =>
  cases ry
  cases x with
  | non=>cases rx;exact SeqAt.EqAt.bool_none a
  | bl b=>cases rx;exact SeqAt.EqAt.bool_bool a b
  | int b=>obtain ⟨t,rfl⟩:=rx;exact SeqAt.EqAt.bool_int a b t
  | str b=>obtain ⟨t,rfl⟩:=rx;exact SeqAt.EqAt.bool_str a b t
  | _=>exact absurd (show false=true from fx) Bool.false_ne_true
 | int a =>
  obtain ⟨t',rfl⟩:=ry
  cases x with
  | non=>cases rx;exact SeqAt.EqAt.int_none a t'
  | bl b=>cases rx;exact SeqAt.EqAt.int_bool a t' b
  | int b=>obtain ⟨t,rfl⟩:=rx;exact SeqAt.EqAt.int_int a t' b t
  | str b=>obtain ⟨t,rfl⟩:=rx;exact SeqAt.EqAt.int_str a t' b t
  | _=>exact absurd (show false=true from fx) Bool.false_ne_true
 | str a =>
  obtain ⟨t',rfl⟩:=ry
  cases x with
  | non=>cases rx;exact SeqAt.EqAt.str_none a t'
  | bl b=>cases rx;exact SeqAt.EqAt.str_bool a t' b
  | int b=>obtain ⟨t,rfl⟩:=rx;exact SeqAt.EqAt.str_int a t' b t
  | str b=>obtain ⟨t,rfl⟩:=rx;exact SeqAt.EqAt.str_str a t' b t
  | _=>exact absurd (show false=true from fx) Bool.false_ne_true
 | _=>exact absurd (show false=true from fy) Bool.false_ne_true
def qX (x:V) (u:Value):Bool:=match u with
 | .none=>sr .non x
 | .bool b=>sr (.bl b) x
 | .int i _=>sr (.int i) x
 | .str z _=>sr (.str z) x
 | _=>false
theorem HE {x y:V} {u:Value} (r:RelV y u) (f:jG y=true):qX x u=sr y x:=by
 cases y with
 | non=>cases r;rfl
 | bl b=>cases r;rfl
 | int i=>obtain ⟨t,rfl⟩:=r;rfl
 | str z=>obtain ⟨t,rfl⟩:=r;rfl
 | _=>exact absurd (show false=true from f) Bool.false_ne_true
theorem EH {x:V}:∀ {xs:List V} {us:List Value},Vals xs us->xs.all jG=true->us.any (qX x)=xs.any fun y=>sr y x
 | _,_,.nil,_=>rfl
 | y :: xs,u :: us,.cons r t,f=>by
  rw [List.all_cons,Bool.and_eq_true] at f
  rw [List.any_cons,List.any_cons,HE r f.1,EH t f.2]
theorem EI {A:Around} {s:Shared} {x:V} {v:Value} (rx:RelV x v) (fx:jG x=true):∀ {xs:List V} {us:List Value},Vals xs us->xs.all jG=true->∀ u∈us,SeqAt.EqAt A s u v (qX x u)
 | _,_,.nil,_=>fun u hu=>by cases hu
 | y :: xs,u :: us,.cons r t,f=>fun u' hu=>by
  rw [List.all_cons,Bool.and_eq_true] at f
  rcases List.mem_cons.mp hu with rfl | hu
  ·rw [HE r f.1];exact uy r rx f.1 fx
  ·exact EI rx fx t f.2 u' hu
def su (x:V) (xs:List V):Bool:=xs.any fun y=>sr y x
def EJ (K:PySem.W.Frag) (neg:Bool):R2:=fun x y H Q=>∃ p xs,y=.ref p/\(jB K H p xs\/eY K H p xs)/\jG x=true/\xs.all jG=true/\Q (.bl (if neg then !su x xs else su x xs)) H
theorem B9:ku X (compareOp .NotIn) (EJ X.K true):=by
 intro pins s σ H x y v u Q I rx ry h
 obtain ⟨p,xs,rfl,hq,fx,fs,q⟩:=h
 cases ry
 rcases hq with hq | hq
 ·obtain ⟨its,r,pl,hz⟩:=I.list hq
  refine SeqAt.notIn_listAt (qX x) pl.isList (fun w hw=>EI rx fx r fs w (by simpa using hw)) ⟨.bl _,H,I,rfl,?_⟩
  rw [show its.toArray.any (qX x)=its.any (qX x) by simp,EH r fs]
  exact q
 ·obtain ⟨its,r,pl,hz⟩:=I.tuple hq
  refine SeqAt.notIn_tupleAt (qX x) pl (fun w hw=>EI rx fx r fs w (by simpa using hw)) ⟨.bl _,H,I,rfl,?_⟩
  rw [show its.toArray.any (qX x)=its.any (qX x) by simp,EH r fs]
  exact q
theorem ma:iz X (.builtin "len") (fun xs H Q=>∃ p ys,xs=[.ref p]/\(jB X.K H p ys\/eY X.K H p ys)/\Q (.int ys.length) H):=by
 intro pins s σ H xs us Q I r h
 obtain ⟨p,ys,rfl,hq,q⟩:=h
 obtain ⟨u,rfl,rx⟩:=vals1 r
 cases rx
 have hn:=ky
 rcases hq with hq | hq
 ·obtain ⟨its,r',pl,hz⟩:=I.list hq
  have hlen:=r'.length
  exact Calls.call_len_list pl.isList (by simp only [List.size_toArray] <;> omega) ⟨.int ys.length,H,I.tok _,⟨s.toks + 1,by rw [List.size_toArray,hlen]⟩,q⟩
 ·obtain ⟨its,r',pl,hz⟩:=I.tuple hq
  have hlen:=r'.length
  exact len_tuple pl (by simp only [List.size_toArray] <;> omega) ⟨.int ys.length,H,I.tok _,⟨s.toks + 1,by rw [List.size_toArray,hlen]⟩,q⟩
theorem EK:iz X (.type "list") (fun xs H Q=>∃ p ys,xs=[.ref p]/\(jB X.K H p ys\/eY X.K H p ys)/\∀ l,H l=none->Q (.ref l) (upd H l (.lst ys))):=by
 intro pins s σ H xs us Q I r h
 obtain ⟨p,ys,rfl,hq,q⟩:=h
 obtain ⟨u,rfl,rx⟩:=vals1 r
 cases rx
 have fin:∀ (its:List Value),Vals ys its->ys.length<=sizeLine->∀ (h':Heap) (c':Nat),(∀ b o',s.heap.get? b=some o'->h'.get? b=some o') ->
   h'.get? s.heap.objs.size=some { cls:=.type "list",dict:=none,data:=.seq its.toArray c',slots:=#[] }->EP X pins σ Q (.ref s.heap.objs.size) { s with heap:=h' }:=fun its r' hz h' c' kp e =>
  ⟨.ref s.heap.objs.size,_,I.laid (t':=s.toks) kp (Nat.le_refl _) (show cD X.prog X.w _ h' _ (.lst ys) from ⟨hz,its,c',r',e⟩),rfl,q _ (I.hok.fresh (Nat.le_refl _))⟩
 rcases hq with hq | hq
 ·obtain ⟨its,r',pl,hz⟩:=I.list hq
  have hlen:=r'.length
  obtain ⟨o,ho,hc,n,hd⟩:=pl.isList
  exact call_list_seq p (.inl rfl) ho hc hd (fun h' c' kp e=>fin its r' hz h' c' kp e) (by simp only [List.size_toArray] <;> omega)
 ·obtain ⟨its,r',pl,hz⟩:=I.tuple hq
  have hlen:=r'.length
  obtain ⟨o,ho,hc,n,hd⟩:=pl
  exact call_list_seq p (.inr rfl) ho hc hd (fun h' c' kp e=>fin its r' hz h' c' kp e) (by simp only [List.size_toArray] <;> omega)
theorem nF:iz X (.type "tuple") (fun xs H Q=>∃ p ys,xs=[.ref p]/\((jB X.K H p ys/\∀ l,H l=none->Q (.ref l) (upd H l (.tup ys)))\/(eY X.K H p ys/\Q (.ref p) H))):=by
 intro pins s σ H xs us Q I r h
 obtain ⟨p,ys,rfl,h⟩:=h
 obtain ⟨u,rfl,rx⟩:=vals1 r
 cases rx
 rcases h with ⟨hq,q⟩ | ⟨hq,q⟩
 ·obtain ⟨its,r',pl,hz⟩:=I.list hq
  have hlen:=r'.length
  refine call_tuple_list pl.isList (fun h' kp=>?_) (by simp only [List.size_toArray] <;> omega)
  have I1:Inv X pins σ H { s with heap:=h' }:=I.kept (t':=s.toks) kp
  have I2:Inv X pins σ (upd H h'.objs.size (.tup ys)) { s with heap:=h'.push { cls:=.type "tuple",data:=.seq its.toArray } } :=
   I1.laid (t':=s.toks) (fun b o e=>Heap.get?_push_of_some _ e) (Nat.le_refl _) (show cD X.prog X.w _ _ _ (.tup ys) from ⟨hz,its,r',mH.new _ _⟩)
  exact ⟨.ref h'.objs.size,_,I2,rfl,q _ (I1.hok.fresh (Nat.le_refl _))⟩
 ·obtain ⟨its,r',pl,hz⟩:=I.tuple hq
  exact call_tuple_same pl ⟨.ref p,H,I,rfl,q⟩
def EL (K:PySem.W.Frag) (T:String) (x:V) (H:Hp):Prop:=match x with
 | .str _=>T="str"
 | .int _=>T="int"
 | .ref p=>(T="list" /\ ∃ xs,jB K H p xs)\/(T="tuple" /\ ∃ xs,eY K H p xs) \/
   (T="dict" /\ ((∃ kvs,H p=some (.dK kvs))\/∃ kvs,H p=some (.dT kvs)))\/(T="set" /\ ∃ S n,H p=some (.set S n))
 | _=>False
theorem uz {pins:List (Addr×Obj)} {σ:St} {H:Hp} {s:Shared} {T:String} {x:V} {v:Value} (I:Inv X pins σ H s) (r:RelV x v) (ty:EL X.K T x H) :
  s.TypeIs v T/\∀ a,v=.ref a->∃ ob,s.heap.get? a=some ob/\ob.dict=none:=by
 cases x with
 | str z =>
  obtain ⟨t,rfl⟩:=r
  cases (show T="str" from ty)
  exact ⟨typeIs_str s z t,fun _ e=>nomatch e⟩
 | int i =>
  obtain ⟨t,rfl⟩:=r
  cases (show T="int" from ty)
  exact ⟨typeIs_int s i t,fun _ e=>nomatch e⟩
 | ref p =>
  cases r
  rcases ty with ⟨rfl,xs,hq⟩ | ⟨rfl,xs,hq⟩ | ⟨rfl,hk⟩ | ⟨rfl,S,n,hk⟩
  ·obtain ⟨its,_,pl,_⟩:=I.list hq
   refine ⟨pl.isList.typeIs,fun a e=>?_⟩
   cases e
   obtain ⟨o,n,e,c,hd,_⟩:=pl
   exact ⟨o,e,hd⟩
  ·obtain ⟨its,_,⟨o,e,c,d,_⟩,_⟩:=I.nS hq
   refine ⟨⟨o,e,c⟩,fun a e2=>?_⟩
   cases e2
   exact ⟨o,e,d⟩
  ·have z:∃ o,s.heap.get? p=some o/\o.ExactDict:=by
    rcases hk with ⟨kvs,hk⟩ | ⟨kvs,hk⟩
    ·obtain ⟨_,_,_,_,o,_,_,e,ex,_⟩:=I.hok p _ hk
     exact ⟨o,e,ex⟩
    ·obtain ⟨_,_,_,_,o,_,_,e,ex,_⟩:=I.hok p _ hk
     exact ⟨o,e,ex⟩
   obtain ⟨o,e,ex⟩:=z
   refine ⟨⟨o,e,ex.1⟩,fun a e2=>?_⟩
   cases e2
   exact ⟨o,e,ex.2.1⟩
  ·obtain ⟨o,_,_,_,e,ex,_⟩:=I.hok p _ hk
   refine ⟨⟨o,e,ex.1⟩,fun a e2=>?_⟩
   cases e2
   exact ⟨o,e,ex.2.1⟩
 | _=>exact False.elim ty
def EM (K:PySem.W.Frag) (T:String) (r:V->List V->Hp->VK->Prop) (to:TE) (t:TA):TE:=fun σ H Q=>to σ H fun x H1=>EL K T x H1/\t σ H1 fun xs H2=>r x xs H2 Q
variable {o e:Expr} {es:List Expr} {to:TE} {t:TA} {name:Str} {apos cpos:Pos} {T id:String} {r:V->List V->Hp->VK->Prop}
theorem qB (pa:PlainAttrs T) (slot:Slot T name id) (hty:typeOf (.builtin id)=pure (.type "method_descriptor")) (hm:xg X id r) (ho:PE X o to) (ha:PA X (e :: es) t)
  (hbase:attributeBase o name X.env (eval o X.env)=eval o X.env:=by rfl)
  (hfew:((backTo cpos (starEach (e :: es) X.env)).all (fun x=>!x.1) && (backToKw cpos (keywordEach [] X.env)).all (fun x=>x.1.isSome)
   && decide ((e :: es).length + ([]:List Keyword).length + (if ([]:List Keyword).isEmpty then 0 else 1) < 30))=true:=by rfl)
  (hline:(apos.endLine == cpos.line)=true:=by rfl) (hs:starEach (e :: es) X.env=(false,eval e X.env) :: starEach es X.env:=by rfl) (hplain:(backTo cpos (starEach es X.env)).any (·.1)=false:=by rfl) :
  PE X (.Call (.Attribute o name apos) (e :: es) [] cpos) (EM X.K T r to t):=by
 intro pins s σ H Q I h
 refine wpAny_Call_method_late hbase hfew hline rfl (cB (ho pins s σ H _ I h) fun v s1 ⟨x,H1,I1,r1,ty,q1⟩=>?_)
 obtain ⟨h1,h2⟩:=uz I1 r1 ty
 refine ⟨T,id,pa,slot,hty,h1,h2,?_⟩
 have hA:=ha cpos pins s1 σ H1 _ I1 q1
 rw [hs] at hA ⊢
 refine Calls.callWith_builtin (by show (false || (backTo cpos (starEach es X.env)).any (·.1))=false;rw [hplain] <;> rfl) (Calls.evalArgs_plain ?_)
 exact cB hA fun us s2 ⟨vs,H2,I2,r2,q2⟩=>hm pins s2 σ H2 x vs v us Q I2 r1 r2 q2
end
end L2
namespace L2
open PySem PySem.Spec PyProof.Rows
def HF (X:Cx) (id:String) (r:V->List V->Hp->VK->Prop):Prop :=
 ∀ (pins:List (Addr×Obj)) (s:Shared) (σ:St) (H:Hp) (x:V) (xs:List V) (v:Value) (us:List Value) (Q:VK),Inv X pins σ H s->RelV x v->Vals xs us->r x xs H Q ->
  wpAny (model X.prog X.w) X.A (call (.builtin id) (v :: us)) (EP X pins σ Q) X.xe s
theorem Vals.one:∀ {x:V} {us:List Value},Vals [x] us->∃ u,us=[u]/\RelV x u
 | _,_,.cons r .nil=>⟨_,rfl,r⟩
theorem Vals.eraseIdx:∀ {xs:List V} {us:List Value} (i:Nat),Vals xs us->Vals (xs.eraseIdx i) (us.eraseIdx i)
 | _,_,_,.nil=>.nil
 | _,_,0,.cons _ t=>t
 | _,_,i + 1,.cons r t=>.cons r (Vals.eraseIdx i t)
theorem Vals.rep {xs:List V} {us:List Value} (h:Vals xs us):∀ k:Nat,Vals (List.replicate k xs).flatten (List.replicate k us).flatten
 | 0=>.nil
 | k + 1=>by
  rw [List.replicate_succ,List.replicate_succ,List.flatten_cons,List.flatten_cons]
  exact Vals.append h (Vals.rep h k)
theorem HG {α:Type}:∀ (l:List α) (i:Nat),(l.eraseIdx i).length<=l.length
 | [],_=>Nat.le_refl _
 | _ :: _,0=>Nat.le_succ _
 | _ :: r,i + 1=>Nat.succ_le_succ (HG r i)
theorem HI (its:List Value):∀ (k:Nat) (acc:List Value),
  List.foldl (fun x1 x2=>x1 ++ x2) acc.toArray (List.replicate k its.toArray)=(acc ++ (List.replicate k its).flatten).toArray
 | 0,acc=>by simp
 | k + 1,acc=>by
  have e:acc.toArray ++ its.toArray=(acc ++ its).toArray:=by simp
  have e2:(acc ++ its) ++ (List.replicate k its).flatten=acc ++ (List.replicate (k + 1) its).flatten:=by
   rw [List.replicate_succ,List.flatten_cons,List.append_assoc]
  rw [<- e2,<- HI its k (acc ++ its),<- e,List.replicate_succ,List.foldl_cons]
section
variable {X:Cx} {pins:List (Addr×Obj)} {σ:St} {H:Hp} {s:Shared} {l b:Addr} {xs ys zs:List V}
theorem Inv.yG {its its':List Value} {n:Nat} {f:Array Value->Array Value} {t':Nat} (I:Inv X pins σ H s) (hH:H l=some (.lst xs))
  (e:s.heap.get? l=some { cls:=.type "list",data:=.seq its.toArray n }) (hf:f its.toArray=its'.toArray) (hv:Vals ys its') (hz:ys.length<=sizeLine) :
  Inv X pins σ (upd H l (.lst ys)) { s with heap:=s.heap.update l (Obj.mapSeq f),toks:=t' }:=by
 have q:=PySem.IsL.update e f
 rw [hf] at q
 refine I.write (x:=l) (e:=l) (by rw [hH];exact trivial) (.inl rfl) (fun b' u hb hu=>(Heap.get?_update_other s.heap (Obj.mapSeq f) (Ne.symm hb)).trans hu) ⟨_,q⟩ ?_
 exact ⟨hz,its',_,hv,q⟩
theorem Inv.yH {its:List Value} {t':Nat} (I:Inv X pins σ H s) (hv:Vals ys its) (hz:ys.length<=sizeLine) :
  Inv X pins σ (upd H s.heap.objs.size (.lst ys)) { s with heap:=s.heap.push { cls:=.type "list",data:=.seq its.toArray },toks:=t' } :=
 I.laid (fun _ _ q=>Heap.get?_push_of_some _ q) (Nat.le_refl _) ⟨hz,its,0,hv,Heap.get?_push_size _ rfl⟩
theorem Inv.fresh (I:Inv X pins σ H s):H s.heap.objs.size=none:=I.hok.fresh (Nat.le_refl _)
theorem Inv.pN (I:Inv X pins σ H s) (hH:H l=some (.lst xs)):xs.length<=sizeLine/\∃ (its:List Value) (n:Nat),Vals xs its/\xs.length=its.length/\s.heap.get? l=some { cls:=.type "list",data:=.seq its.toArray n }:=by
 obtain ⟨z,its,n,r,e⟩:=I.hok l _ hH
 exact ⟨z,its,n,r,r.length,e⟩
theorem pO {n:Nat} (h:n<=sizeLine):Builtin.List.listTooLong n=false:=by
 unfold Builtin.List.listTooLong
 exact decide_eq_false (by omega)
end
section
variable {X:Cx}
def om:V->List V->Hp->VK->Prop:=fun x vs H Q=>∃ l xs y,x=.ref l/\vs=[y]/\H l=some (.lst xs)/\xs.length < sizeLine/\Q .non (upd H l (.lst (xs ++ [y])))
theorem sv:HF X "list.append" om:=by
 intro pins s σ H x vs v us Q I rx rv h
 obtain ⟨l,xs,y,rfl,rfl,hH,hz,q⟩:=h
 cases rx
 obtain ⟨u,rfl,ru⟩:=rv.one
 obtain ⟨z,its,n,r,hl,e⟩:=I.pN hH
 refine call_meets F.slot_list_append ⟨_,e,rfl⟩ F.entry_list_append (F.args_list_append_2 _ _) (PySem.list_append l its.toArray n u (by rw [List.size_toArray];omega)) ⟨e,?_⟩
 refine ⟨.non,_,I.yG (its':=its ++ [u]) hH e (by simp) (r.append (.cons ru .nil)) ?_,rfl,q⟩
 rw [List.length_append,List.length_singleton]
 omega
def pP:V->List V->Hp->VK->Prop:=fun x vs H Q=>∃ l xs i k y,x=.ref l/\vs=[.int i]/\H l=some (.lst xs)/\-(2 ^ 63)<=i/\i < 2 ^ 63/\seqIndex? i xs.length=some k/\xs[k]?=some y/\Q y (upd H l (.lst (xs.eraseIdx k)))
theorem Lq:HF X "list.pop" pP:=by
 intro pins s σ H x vs v us Q I rx rv h
 obtain ⟨l,xs,i,k,y,rfl,rfl,hH,h1,h2,hk,hy,q⟩:=h
 cases rx
 obtain ⟨u,rfl,ru⟩:=rv.one
 obtain ⟨t,rfl⟩:=ru
 obtain ⟨z,its,n,r,hl,e⟩:=I.pN hH
 obtain ⟨w,hw,rw'⟩:=r.get hy
 refine call_meets F.slot_list_pop ⟨_,e,rfl⟩ F.entry_list_pop (F.args_list_pop_2 _ _)
  (MeetsSeq.list_pop_at l its.toArray n i t k w (fitsIndex_both h1 h2) (by rw [List.size_toArray,<- hl];exact hk) (by rw [<- Array.getElem?_toList];exact hw) (by rw [List.size_toArray];omega)) ⟨e,?_⟩
 refine ⟨y,_,I.yG (its':=its.eraseIdx k) hH e ?_ (r.eraseIdx k) ?_,rw',q⟩
 ·show its.toArray.eraseIdxIfInBounds k=(its.eraseIdx k).toArray
  rw [List.eraseIdxIfInBounds_toArray]
 ·have:=HG xs k
  omega
def yI:R2:=fun x y H Q=>∃ l b xs zs,x=.ref l/\y=.ref b/\H l=some (.lst xs)/\H b=some (.lst zs)/\xs.length + zs.length<=sizeLine/\∀ p,H p=none->Q (.ref p) (upd H p (.lst (xs ++ zs)))
theorem uA:ku X (binaryOp .Add) yI:=by
 intro pins s σ H x y v u Q I rx ry h
 obtain ⟨l,b,xs,zs,rfl,rfl,hH,hB,hz,q⟩:=h
 cases rx
 cases ry
 obtain ⟨z,its,n,r,hl,e⟩:=I.pN hH
 obtain ⟨z2,its2,n2,r2,hl2,e2⟩:=I.pN hB
 refine PySem.P.add_list e e2 ?_ (by rw [List.size_toArray,List.size_toArray];omega)
 have ea:its.toArray ++ its2.toArray=(its ++ its2).toArray:=by simp
 rw [ea]
 exact ⟨.ref _,_,I.yH (t':=s.toks) (r.append r2) (by rw [List.length_append];omega),rfl,q _ I.fresh⟩
def yJ:R2:=fun x y H Q=>∃ l k xs,x=.ref l/\y=.int k/\H l=some (.lst xs)/\-(2 ^ 63)<=k/\k < 2 ^ 63/\xs.length * k.toNat<=sizeLine /\
 ∀ p,H p=none->Q (.ref p) (upd H p (.lst (List.replicate k.toNat xs).flatten))
theorem Lr {α:Type} (xs:List α) (k:Nat):(List.replicate k xs).flatten.length=k * xs.length:=by
 induction k with
 | zero=>simp
 | succ k ih=>rw [List.replicate_succ,List.flatten_cons,List.length_append,ih,Nat.succ_mul,Nat.add_comm]
theorem HJ:ku X (binaryOp .Mult) yJ:=by
 intro pins s σ H x y v u Q I rx ry h
 obtain ⟨l,k,xs,rfl,rfl,hH,h1,h2,hz,q⟩:=h
 cases rx
 obtain ⟨t,rfl⟩:=ry
 obtain ⟨z,its,n,r,hl,e⟩:=I.pN hH
 have hlen:its.toArray.size * k.toNat<=sizeLine:=by rw [List.size_toArray,<- hl];exact hz
 have hcap:¬ its.toArray.size * k.toNat > (2 ^ 63 - 1) / 8:=by
  have:(sizeLine:Nat)<=(2 ^ 63 - 1) / 8:=by decide
  omega
 have hfit:¬ (!Builtin.List.listFitsIndex k)=true:=by
  rw [fitsIndex_both h1 h2]
  exact Bool.false_ne_true
 have yK:¬ Builtin.List.listTooLong (its.toArray.size * k.toNat)=true:=by
  rw [pO hlen]
  exact Bool.false_ne_true
 have hnew:List.foldl (fun x1 x2=>x1 ++ x2) #[] (List.replicate (if its.toArray.isEmpty=true then 0 else k.toNat) its.toArray)=(List.replicate k.toNat its).flatten.toArray:=by
  have f0:∀ m:Nat,List.foldl (fun x1 x2=>x1 ++ x2) #[] (List.replicate m its.toArray)=(List.replicate m its).flatten.toArray:=fun m=>by
   have:=HI its m []
   rw [List.nil_append] at this
   exact this
  rw [f0]
  cases its with
  | nil=>simp
  | cons a r'=>rw [if_neg (by simp)]
 refine wpAny_binaryOp_repeat_ref (T:="list") (U:="int") (by decide) ⟨_,e,rfl⟩ (fun s'=>typeIs_int s' k t) noFill_list_mul F.fills_int_mul F.slot_int_rmul repeat_list F.slot_int_index.lookup
  (call_meets F.slot_int_rmul (typeIs_int s k t) F.entry_int_rmul (F.args_int_rmul_2 _ _) (int___rmul___int_list k t l its.toArray n)
   ⟨e,rfl,⟨_,e,rfl⟩,call_meets F.slot_list_mul ⟨_,e,rfl⟩ F.entry_list_mul (F.args_list_mul_2 _ _) (AutoListH.list___mul___list_int_3 l its.toArray n k t hfit hcap yK) ⟨e,?_⟩⟩)
 rw [hnew]
 exact ⟨.ref _,_,I.yH (t':=s.toks) (r.rep k.toNat) (by rw [Lr,Nat.mul_comm];exact hz),rfl,q _ I.fresh⟩
end
section
variable {prog:Program} {w:World} {A:Around} {E:Value->Shared->Prop} {s:Shared}
end
section
variable {X:Cx}
end
end L2
namespace L2
open PySem PySem.Spec PyProof.Rows
section
variable {κ:Type} [DecidableEq κ]
def jK (kvs:List (κ×V)) (k:κ):Option V:=(kvs.find? fun kv=>decide (kv.1=k)).map (·.2)
def putK (kvs:List (κ×V)) (k:κ) (v:V):List (κ×V) :=
 if (kvs.any fun kv=>decide (kv.1=k))=true then kvs.map (fun kv=>if kv.1=k then (kv.1,v) else kv) else kvs ++ [(k,v)]
theorem EN {p:κ×V} {r:List (κ×V)} {k:κ} (e:p.1=k):jK (p :: r) k=some p.2:=by simp [jK,List.find?_cons,e]
theorem EO {p:κ×V} {r:List (κ×V)} {k:κ} (e:¬ p.1=k):jK (p :: r) k=jK r k:=by simp [jK,List.find?_cons,e]
theorem HK (k:κ):∀ kvs:List (κ×V),(kvs.any fun kv=>decide (kv.1=k))=(jK kvs k).isSome
 | []=>rfl
 | p :: r=>by
  rw [List.any_cons]
  by_cases e:p.1=k
  ·simp only [EN e,decide_eq_true e,Bool.true_or,Option.isSome_some]
  ·rw [EO e,decide_eq_false e,Bool.false_or];exact HK k r
theorem HL (kvs:List (κ×V)) (k:κ) (v:V):(putK kvs k v).length<=kvs.length + 1:=by
 unfold putK
 split
 ·rw [List.length_map];omega
 ·rw [List.length_append,List.length_cons,List.length_nil];omega
theorem oQ.kz {o:Option V} {u:Option Value} (r:oQ o u):o.isSome=u.isSome:=by
 cases o with
 | none=>cases u with
  | none=>rfl
  | some _=>exact (show False from r).elim
 | some _=>cases u with
  | none=>exact (show False from r).elim
  | some _=>rfl
theorem KV.val {kvs:List (κ×V)} {vs:List (κ×Value)} (r:KV kvs vs) (k:κ):oQ (jK kvs k) (valueAt vs k):=by
 unfold KV at r
 induction r with
 | nil=>exact True.intro
 | @cons p q ps qs h t ih =>
  obtain ⟨h1,h2⟩:=h
  by_cases e:p.1=k
  ·have e':q.1=k:=h1.symm.trans e
   have b:valueAt (q :: qs) k=some q.2:=by simp [valueAt,List.find?_cons,e']
   rw [EN e,b];exact h2
  ·have e':¬ q.1=k:=fun z=>e (h1.trans z)
   have b:valueAt (q :: qs) k=valueAt qs k:=by simp [valueAt,List.find?_cons,e']
   rw [EO e,b];exact ih
theorem KV.any {kvs:List (κ×V)} {vs:List (κ×Value)} (r:KV kvs vs) (k:κ):(kvs.any fun kv=>decide (kv.1=k))=vs.any fun kv=>decide (kv.1=k):=by
 unfold KV at r
 induction r with
 | nil=>rfl
 | cons h t ih=>rw [List.any_cons,List.any_cons,ih,h.1]
theorem KV.repl {kvs:List (κ×V)} {vs:List (κ×Value)} (r:KV kvs vs) (k:κ) {y:V} {u:Value} (ry:RelV y u) :
  KV (kvs.map fun kv=>if kv.1=k then (kv.1,y) else kv) (vs.map fun kv=>if kv.1=k then (kv.1,u) else kv):=by
 unfold KV at r ⊢
 induction r with
 | nil=>exact .nil
 | @cons p q ps qs h t ih =>
  rw [List.map_cons,List.map_cons]
  refine .cons ?_ ih
  obtain ⟨h1,h2⟩:=h
  by_cases e:p.1=k
  ·rw [if_pos e,if_pos (h1.symm.trans e)];exact ⟨h1,ry⟩
  ·rw [if_neg e,if_neg (fun z=>e (h1.trans z))];exact ⟨h1,h2⟩
theorem KV.put {kvs:List (κ×V)} {vs:List (κ×Value)} (r:KV kvs vs) (k:κ) {y:V} {u:Value} (ry:RelV y u):KV (putK kvs k y) (stored vs k u):=by
 unfold putK stored
 rw [r.any k]
 by_cases e:(vs.any fun kv=>decide (kv.1=k))=true
 ·rw [if_pos e,if_pos e];exact r.repl k ry
 ·rw [if_neg e,if_neg e];exact Paired.snoc r ⟨rfl,ry⟩
theorem KV.length {kvs:List (κ×V)} {vs:List (κ×Value)} (r:KV kvs vs):kvs.length=vs.length:=Paired.length r
end
theorem ER {P:Program} {w:World} {k:Key} {u:Value} (r:RelV (kV k) u):(cN P w).is k u=true:=by
 cases k with
 | inl i=>obtain ⟨t,e⟩:=(show ∃ t,u=Value.int i t from r);subst e;exact KR P w i t
 | inr x=>obtain ⟨t,e⟩:=(show ∃ t,u=Value.str x t from r);subst e;exact KS P w x t
theorem HM {P:Program} {w:World}:∀ {ks:List Key} {us:List Value},Vals (ks.map kV) us->ItemsAre (cN P w) ks us
 | [],_,r=>by rw [List.map_nil] at r;cases r;exact .nil
 | k :: ks,_,r=>by
  rw [List.map_cons] at r
  cases r with
  | cons h t=>exact .cons (ER h) (HM t)
abbrev KT (H:Hp):List (List Key×V)->List (List Key×Addr×Value)->Prop:=Paired fun p q=>p.1=q.1/\H q.2.1=some (.tup (p.1.map kV))/\RelV p.2 q.2.2
theorem KT.val {H:Hp} {kvs:List (List Key×V)} {xs:List (List Key×Addr×Value)} (r:KT H kvs xs) (k:List Key):oQ (jK kvs k) ((atKey xs k).map (·.2)):=by
 induction r with
 | nil=>exact True.intro
 | @cons p q ps qs h t ih =>
  obtain ⟨h1,_,h2⟩:=h
  by_cases e:p.1=k
  ·have e':q.1=k:=h1.symm.trans e
   have b:atKey (q :: qs) k=some q.2:=by simp [atKey,List.find?_cons,e']
   rw [EN e,b];exact h2
  ·have e':¬ q.1=k:=fun z=>e (h1.trans z)
   have b:atKey (q :: qs) k=atKey qs k:=by simp [atKey,List.find?_cons,e']
   rw [EO e,b];exact ih
theorem KT.repl {H:Hp} {kvs:List (List Key×V)} {xs:List (List Key×Addr×Value)} (r:KT H kvs xs) (k:List Key) {y:V} {u:Value} (ry:RelV y u) :
  KT H (kvs.map fun kv=>if kv.1=k then (kv.1,y) else kv) (xs.map (putAt k u)):=by
 induction r with
 | nil=>exact .nil
 | @cons p q ps qs h t ih =>
  rw [List.map_cons,List.map_cons]
  refine .cons ?_ ih
  obtain ⟨h1,h2,h3⟩:=h
  unfold putAt
  by_cases e:p.1=k
  ·rw [if_pos e,if_pos (h1.symm.trans e)];exact ⟨h1,h2,ry⟩
  ·rw [if_neg e,if_neg (fun z=>e (h1.trans z))];exact ⟨h1,h2,h3⟩
theorem KT.put {H:Hp} {kvs:List (List Key×V)} {xs:List (List Key×Addr×Value)} (r:KT H kvs xs) (k:List Key) {b:Addr} {y:V} {u:Value} (hb:H b=some (.tup (k.map kV))) (ry:RelV y u) :
  KT H (putK kvs k y) (storedH xs k b u):=by
 have e:(kvs.any fun kv=>decide (kv.1=k))=(atKey xs k).isSome:=by
  rw [HK,(r.val k).kz,Option.isSome_map]
 unfold putK storedH
 rw [e]
 by_cases q:(atKey xs k).isSome=true
 ·rw [if_pos q,if_pos q];exact r.repl k ry
 ·rw [if_neg q,if_neg q];exact Paired.snoc r ⟨rfl,hb,ry⟩
theorem KT.keeps {H H':Hp} {kvs:List (List Key×V)} {xs:List (List Key×Addr×Value)} (r:KT H kvs xs) (ht:∀ b ys,H b=some (.tup ys)->H' b=some (.tup ys)):KT H' kvs xs :=
 Paired.t6 r fun _ _ z=>⟨z.1,ht _ _ z.2.1,z.2.2⟩
section
variable {P:Program} {w:World} {H:Hp} {h:Heap} {a:Addr}
theorem sx {u:HO} (ok:ka P w H h) (e:Rd H a u):cD P w H h a u:=e.ok ok
theorem sy {kvs:List (Key×V)} (ok:ka P w H h) (e:Rd H a (.dK kvs)):kvs.length<=sizeLine/\(a == sysModules)=false/\∃ vs,KV kvs vs/\h.DictOf (cN P w) a vs :=
 show cD P w H h a (.dK kvs) from sx ok e
theorem yL {kvs:List (Key×V)} (ok:ka P w H h) (e:H a=some (.dK kvs)):kvs.length<=sizeLine/\(a == sysModules)=false/\∃ vs,KV kvs vs/\h.DictOf (cN P w) a vs:=sy ok (.inl e)
theorem xi {ks:List Key} (ok:ka P w H h) (e:H a=some (.tup (ks.map kV))):(tupleKind (cN P w)).is h ks a:=by
 obtain ⟨_,its,r,o,h1,h2,_,n,h3⟩:=(show cD P w H h a (.tup (ks.map kV)) from ok a _ e)
 exact ⟨o,its.toArray,n,h1,h2,h3,by simpa using HM r⟩
theorem sA {kvs:List (List Key×V)} (ok:ka P w H h) (e:Rd H a (.dT kvs)):kvs.length<=sizeLine/\(a == sysModules)=false /\
  ∃ xs,KT H kvs xs/\h.DictOfH (tupleKind (cN P w)) a xs:=by
 obtain ⟨z,y,xs,r,o,es,ep,h1,h2,h3,h4,h5⟩:=(show cD P w H h a (.dT kvs) from sx ok e)
 refine ⟨z,y,xs,r,o,es,ep,h1,h2,h3,h4,fun x hx=>?_,h5⟩
 have all:∀ {l:List (List Key×V)} {m:List (List Key×Addr×Value)},KT H l m->∀ x∈m,(tupleKind (cN P w)).is h x.1 x.2.1:=by
  intro l m q
  induction q with
  | nil=>intro x hx;exact nomatch hx
  | @cons p q ps qs hq t ih =>
   intro x hx
   rcases List.mem_cons.mp hx with e | hx
   ·subst e
    exact xi ok (by rw [<- hq.1];exact hq.2.1)
   ·exact ih x hx
 exact all r x hx
theorem yM {kvs:List (List Key×V)} (ok:ka P w H h) (e:H a=some (.dT kvs)):kvs.length<=sizeLine/\(a == sysModules)=false /\
  ∃ xs,KT H kvs xs/\h.DictOfH (tupleKind (cN P w)) a xs:=sA ok (.inl e)
end
def pQ (H:Hp) (a:Addr) (y:V) (r:Option V):Prop :=
 (∃ kvs k,Rd H a (.dK kvs)/\y=kV k/\r=jK kvs k)\/∃ kvs k b,Rd H a (.dT kvs)/\y=.ref b/\H b=some (.tup (k.map kV))/\r=jK kvs k
def pR (H:Hp) (a:Addr) (y v:V) (H':Hp):Prop :=
 (∃ kvs k,H a=some (.dK kvs)/\y=kV k/\kvs.length < sizeLine/\H'=upd H a (.dK (putK kvs k v))) \/
 ∃ kvs k b,H a=some (.dT kvs)/\y=.ref b/\H b=some (.tup (k.map kV))/\kvs.length < sizeLine/\H'=upd H a (.dT (putK kvs k v))
theorem pQ.k {H:Hp} {a:Addr} {kvs:List (Key×V)} {k:Key} (e:H a=some (.dK kvs)):pQ H a (kV k) (jK kvs k):=.inl ⟨kvs,k,.inl e,rfl,rfl⟩
theorem pR.k {H:Hp} {a:Addr} {kvs:List (Key×V)} {k:Key} {v:V} (e:H a=some (.dK kvs)) (hl:kvs.length < sizeLine):pR H a (kV k) v (upd H a (.dK (putK kvs k v))):=.inl ⟨kvs,k,e,rfl,hl,rfl⟩
section
variable {X:Cx} {pins:List (Addr×Obj)} {σ:St} {H:Hp} {s:Shared} {a:Addr} {y v:V} {u r:Value} {o:Option V} {A:Around} {E:Value->Shared->Prop}
theorem Inv.big (I:Inv X pins σ H s):sysModules < s.heap.objs.size:=by
 have h:mainGlobals < s.heap.objs.size:=(I.mod.glob.keeps I.bk).lt
 exact Nat.lt_trans (by decide) h
theorem Ls {Q:Value->Shared->Prop} (hu:A.units + 1 < cLine) (I:Inv X pins σ H s) (g:pQ H a y o) (ry:RelV y u) (h:∀ s',Inv X pins σ H s'->Q (.bool (!o.isSome)) s') :
  wpAny (model X.prog X.w) A (compareOp .NotIn u (.ref a)) Q E s:=by
 rcases g with ⟨kvs,k,e,ey,l⟩ | ⟨kvs,k,b,e,ey,eb,l⟩
 ·subst ey
  obtain ⟨z,hd,vs,rel,dd⟩:=sy I.hok e
  refine wpAny_notIn_of (ER ry) hd dd.mapOf ?_
  rw [<- (rel.val k).kz,<- l]
  exact h _ (I.tok _)
 ·subst ey
  cases (show u=Value.ref b from ry)
  obtain ⟨z,hd,xs,rel,dd⟩:=sA I.hok e
  refine wpAny_notIn_heap (tupleKind_room_in1 hu) (xi I.hok eb) hd dd ?_
  have q:=(rel.val k).kz
  rw [Option.isSome_map] at q
  rw [<- q,<- l]
  exact h _ (I.tok _)
theorem HN {h':Heap} {t':Nat} {ob:HO} (I:Inv X pins σ H s) (mu:x4 (H a)) (hs:Heap.SameBut a s.heap h') (he:∃ q,h'.get? a=some q) (new:cD X.prog X.w (upd H a ob) h' a ob) :
  Inv X pins σ (upd H a ob) { s with heap:=h',toks:=t' } :=
 I.write (x:=a) (e:=a) mu (.inl rfl) (fun b q hb z=>(hs.2 b hb).trans z) he new
theorem uB {P:Program} {w:World} {H':Hp} {h':Heap} {kvs:List (Key×V)} {vs:List (Key×Value)} (z:kvs.length<=sizeLine) (hd:(a == sysModules)=false) (rel:KV kvs vs) (dd:h'.DictOf (cN P w) a vs) :
  cD P w H' h' a (.dK kvs):=⟨z,hd,vs,rel,dd⟩
theorem Lu {H':Hp} {Q:Unit->Shared->Prop} (hu:A.units + 1 < cLine) (I:Inv X pins σ H s) (g:pR H a y v H') (ry:RelV y u) (rv:RelV v r) (h:∀ s',Inv X pins σ H' s'->Q () s') :
  wpAny (model X.prog X.w) A (setItem (.ref a) u r) Q E s:=by
 rcases g with ⟨kvs,k,e,ey,l,eH⟩ | ⟨kvs,k,b,e,ey,eb,l,eH⟩
 ·subst ey eH
  obtain ⟨z,hd,vs,rel,dd⟩:=yL I.hok e
  have hz:vs.length<=sizeLine:=by rw [<- rel.length];exact z
  have hl:(putK kvs k v).length<=sizeLine:=by have:=HL kvs k v;omega
  refine wpAny_setItem_pairs (hsz:=hz) (ER ry) dd fun h' Ca hs=>h _ ?_
  have he:∃ q,h'.get? a=some q:=let ⟨q,_,_,hq,_⟩:=Ca;⟨q,hq⟩
  exact HN I (by rw [e];exact True.intro) hs he (uB hl hd (rel.put k rv) Ca)
 ·subst ey eH
  cases (show u=Value.ref b from ry)
  obtain ⟨z,hd,xs,rel,dd⟩:=yM I.hok e
  have hz:xs.length<=sizeLine:=by rw [<- Paired.length rel];exact z
  have hl:(putK kvs k v).length<=sizeLine:=by have:=HL kvs k v;omega
  refine wpAny_setItem_heap (hsz:=hz) (tupleKind_room_in1 hu) (xi I.hok eb) dd fun h' Ca hs=>h _ ?_
  obtain ⟨q,es,ep,hq,h2,h3,h4,_,h5⟩:=Ca
  refine HN I (by rw [e];exact True.intro) hs ⟨q,hq⟩ ⟨hl,hd,_,(rel.put k eb rv).keeps fun c ys ec=>?_,q,es,ep,hq,h2,h3,h4,h5⟩
  rw [jh (Ed ec e (fun z=>nomatch z))]
  exact ec
end
section
variable {X:Cx} {pins:List (Addr×Obj)} {σ:St} {H:Hp} {s:Shared} {a:Addr} {kvs:List (Key×V)} {k:Key} {u:Value} {A:Around} {E:Value->Shared->Prop}
end
def oo (ty td:TE):TE:=fun σ H Q=>ty σ H fun y H1=>td σ H1 fun x H2=>∃ a o,x=.ref a/\pQ H2 a y o/\Q (.bl (!o.isSome)) H2
def sC (td ty tv:TE):TS:=fun D σ H=>tv σ H fun v H1=>td σ H1 fun x H2=>ty σ H2 fun y H3=>∃ a H4,x=.ref a/\pR H3 a y v H4/\D.nx σ H4
section
variable {X:Cx} {o i e value:Expr} {pos pos' tpos:Pos} {td ty tv:TE}
theorem Lv (hu:X.A.units + 1 < cLine) (hi:PE X i ty) (ho:PE X o td):PC X .NotIn i o (oo ty td):=by
 intro pins s σ H Q I h
 refine cB (hi pins s σ H _ I h) fun iv s1 ⟨y,H1,I1,ry,q1⟩=>cB (ho pins s1 σ H1 _ I1 q1) fun u s2 ⟨x,H2,I2,rx,a,ov,ex,g,q2⟩=>?_
 subst ex
 obtain rfl:u=Value.ref a:=rx
 exact Ls hu I2 g ry fun s3 I3=>⟨.bl (!ov.isSome),H2,I3,rfl,q2⟩
theorem Lw (hu:X.A.units + 1 < cLine) (ho:PE X o td) (hi:PE X i ty) (hv:PE X value tv) (hs:swapsWith value (some (.Subscript o i pos')) pos.line X.env=pure false) :
  PS X (.Assign [.Subscript o i pos'] value pos) (sC td ty tv):=by
 intro pins s σ H D I h
 refine wpAny_Assign_Subscript (cB (hv pins s σ H _ I h) fun r s1 ⟨v,H1,I1,rv,q1⟩=>cB (ho pins s1 σ H1 _ I1 q1) fun u s2 ⟨x,H2,I2,rx,q2⟩=>cB (hi pins s2 σ H2 _ I2 q2) fun iv s3 ⟨y,H3,I3,ry,a,H4,ex,g,q3⟩=>?_) hs
 subst ex
 obtain rfl:u=Value.ref a:=rx
 exact Lu hu I3 g ry rv fun s4 I4=>⟨σ,H4,I4,q3⟩
end
theorem Lx {P:Program} {w:World} {H:Hp} (h:Heap) (hb:sysModules < h.objs.size):cD P w H (h.push { cls:=.type "dict",data:=.dict #[] }) h.objs.size (.dK []) :=
 ⟨Nat.zero_le _,beq_eq_false_iff_ne.mpr (Ne.symm (Nat.ne_of_lt hb)),[],.nil,Heap.DictOf.new h⟩
def pS:TE:=fun _ H Q=>∀ p,H p=none->Q (.ref p) (upd H p (.dK []))
section
variable {X:Cx} {pos:Pos}
theorem Ly:PE X (.Dict [] [] pos) pS:=fun pins s σ H Q I h =>
 wpAny_Dict_empty ⟨.ref s.heap.objs.size,_,I.laid (a:=s.heap.objs.size) (o:=.dK []) (t':=s.toks) (fun _ _ q=>Heap.get?_push_of_some _ q) (Nat.le_refl _) (Lx s.heap I.big),rfl,h _ (I.hok.fresh (Nat.le_refl _))⟩
end
section
variable {X:Cx} {pins:List (Addr×Obj)} {σ:St} {H:Hp} {s:Shared} {a:Addr} {y d:V} {u r:Value} {o:Option V} {A:Around} {E:Value->Shared->Prop}
end
section
variable {X:Cx} {o e f:Expr} {apos cpos:Pos} {td ty tx:TE}
end
section
variable {X:Cx} {pins:List (Addr×Obj)} {σ:St} {H:Hp} {s:Shared} {a:Addr} {kvs:List (Key×V)} {A:Around} {E:Value->Shared->Prop}
end
section
variable {X:Cx} {pins:List (Addr×Obj)} {σ:St} {H:Hp} {s:Shared} {a:Addr} {y:V} {u:Value} {A:Around} {E:Value->Shared->Prop}
end
end L2
namespace HP
open PySem PySem.W PySem.Calls PyProof.Rows
theorem Lz {P:Params} {h:Heap}:∀ (ns:List Int) (vs:List Value),WellAll P h vs (ns.map WData.int)->IntsAre vs ns:=by
 intro ns
 induction ns with
 | nil =>
  intro vs w
  rw [List.map_nil] at w
  cases w
  exact .nil
 | cons n ns ih =>
  intro vs w
  rw [List.map_cons] at w
  cases w with
  | cons a b =>
   cases a
   exact .cons _ _ (ih _ b)
theorem LA {l:OpenLaw} {n:Nat} (hn:l.most=some n) {P:Params} {h:Heap} {args:List WData} {vals:List Value}
  (hpre:l.row.toRowW.claim.pre args=true) (hwl:WellAll P h vals args) :
  ∃ a vs ns,vals=[Value.ref a]/\args=[WData.list (ns.map WData.int)]/\h.get? a=some { cls:=.type "list",data:=.seq vs.toArray }/\IntsAre vs ns/\ns.length<=n:=by
 have hsh:WShape.hasAll [] args [.list .int]=true:=(pre_splitW hpre).1
 have hc:l.pre.holds [] { args:=args }=true:=(pre_splitW hpre).2
 obtain ⟨d,r,rfl,h1,h2⟩:=hasAllW_cons hsh
 obtain rfl:=hasAllW_nil h2
 obtain ⟨xs,rfl,h3⟩:=hasW_list h1
 obtain ⟨ns,rfl⟩:=items_int h3
 have hlen:ns.length<=n:=by
  unfold OpenLaw.pre at hc
  have h4:(WTm.not (.lt (.lit (.int (n:Int))) (.len (.arg 0)))).holds [] { args:=[.list (ns.map .int)] }=true:=by
   have h4:=(holds_andW hc).1
   rw [hn] at h4
   exact h4
  have h5:=condW_of h4 (w_not (w_lt w_lit (w_len_list (w_arg rfl))))
  rw [List.length_map] at h5
  refine Nat.le_of_not_lt fun q=>?_
  have q':(n:Int) < ((ns.length:Nat):Int):=by omega
  first
   | (rw [decide_eq_true q'] at h5;exact absurd h5 (by decide))
   | (simp at h5;omega)
 cases hwl with
 | cons w1 w2 =>
  cases w2
  cases w1 with
  | list ho hall=>exact ⟨_,_,ns,rfl,rfl,ho,Lz ns _ hall,hlen⟩
theorem LB (l:OpenLaw) (args:List WData):l.row.toRowW.claim.post args (.bool true) args=true :=
 postW_of (r:=l.row.toRowW) (X:=(true == true))
  (show WShape.has [] (.bool true) .bool=true by first | rfl | decide | simp [WShape.has,WShape.arms,WShape.armsAll])
  (show (WTm.eq .res (.lit (.bool true))).value [] { args:=args,res:=some (.bool true),after:=args }=some (.bool (true == true)) from w_eq_bool (w_res rfl) w_lit) rfl
theorem LC {l:OpenLaw} {n:Nat} {q:Program} {loose:List Str} {XP:(Str->Option Value)->Heap->Prop} {YP:World->Heap->Prop} {d:DefRec}
  (hn:l.most=some n) (hdf:d.params.defaults=[])
  (call:∀ (w:World) (s₀ s₁:Shared) (mg mb:Str->Option Value) (fa:Addr) (o:Obj) (pm cd doc:Value) (a:Addr) (vs:List Value) (ns:List Int),
   Ground q loose [] XP w s₀ mg mb s₁.heap->YP w s₁.heap ->
   s₁.heap.get? fa=some o->o.data=.func (docDef d.name d.params d.body d.scope pm cd doc)->s₁.heap.CodeRec cd d.name->mg d.name=some (.ref fa) ->
   s₁.heap.get? a=some { cls:=.type "list",data:=.seq vs.toArray }->IntsAre vs ns->ns.length<=n->s₁.gens=#[] ->
   codeAny (model l.prog w) callerA (.call (.ref fa) ⟨[.ref a],[]⟩) (fun r s'=>r=.ok (.ret (.bool true))/\OldK s₁.heap s'.heap/\s'.os=s₁.os/\AllBare s'.gens) s₁) :
  WalkO q loose XP YP l.row.toRowW d [] (fun f vs=>PySem.call f vs):=by
 intro w s₀ s₁ mg mb G Y fa o pm cd doc dV kV ho hd hcd hD hmg hg args vals as hpre hlay hrd hwl hlo
 obtain rfl:dV=.none:=Dflts.none hD hdf
 obtain rfl:kV=.none:=Dflts.noKw hD
 obtain ⟨a,vs,ns,rfl,rfl,hobj,hints,hlen⟩:=LA hn hpre hwl
 refine enter_call (codeAny_mono (call w s₀ s₁ mg mb fa o pm cd doc a vs ns G Y ho (fd_plain hd) hcd hmg hobj hints hlen hg) fun r s' hq=>?_)
 obtain ⟨rfl,h2,h3,h4⟩:=hq
 exact ⟨.inl ⟨.bool true,.bool true,[],rfl,fun _=>rfl,.bool true,LB l _,fun _=>⟨List.Pairwise.nil,fun _ hm=>(nomatch hm)⟩⟩,h2,h3,h4⟩
section
variable {prog:Program} {w:World} {A:Around} {E:Value->Shared->Prop} {s:Shared} {K:Frag}
end
end HP
namespace L2
open PySem PySem.Spec PyProof.Rows
theorem HQ:∀ {vs:List Value} {ns:List Int},IntsAre vs ns->Vals (ns.map V.int) vs
 | _,_,.nil=>.nil
 | _,_,.cons n t h=>.cons ⟨t,rfl⟩ (HQ h)
def Only (H:Hp):Prop:=∀ b,H b=none\/∃ o xs,H b=some (.mG o (.lst xs))
theorem LD {P:Program} {w:World} {K:PySem.W.Frag} {mg mb:Str->Option Value} {CX:oT} {k:Nat} {fa a:Addr} {fd:FuncData} {x:Str} {sp:Sp} {s₁:Shared} {vs:List Value} {ns:List Int}
  (KX:K.In s₁.heap) (hns:s₁.heap.Ns mainGlobals mg) (hb:s₁.heap.Ns builtinsNs mb) (LF:∀ x:Str,x≠"__name__" -> mb x=bootBuiltins x) (hlim:s₁.heap.NoLimit) (hg:s₁.gens=#[])
  (ha:s₁.heap.get? a=some { cls:=.type "list",data:=.seq vs.toArray }) (hi:IntsAre vs ns) (hl:ns.length<=sizeLine) (hr:gJ k callerA)
  (F:∀ base:Heap,K.In base->base.Ns mainGlobals mg->az P w K mg base CX k fa fd [x] sp) (hbind:∀ (s:Shared) (u:Value),BindsTo s fd ⟨[u],[]⟩ [(x,u)])
  (qA:∀ H:Hp,Only H->jB K H a (ns.map V.int)->sp [.ref a] H (fun v _=>v=.bl true) fun _ _ _=>False)
  (yN:∀ H e s',CX [] H s₁ (fun _ _ _=>False) e s'->False) :
  codeAny (model P w) callerA (.call (.ref fa) ⟨[.ref a],[]⟩) (fun r s'=>r=.ok (.ret (.bool true))/\OldK s₁.heap s'.heap/\s'.os=s₁.os/\AllBare s'.gens) s₁:=by
 have rv:=HQ hi
 have ES:=hi.length
 have core:∀ H:Hp,Only H->jB K H a (ns.map V.int)->ka P w H s₁.heap->(∀ b,H b≠none->b=a)->(H a≠none->K.lookup a=none) ->
   codeAny (model P w) callerA (.call (.ref fa) ⟨[.ref a],[]⟩) (fun r s'=>r=.ok (.ret (.bool true))/\OldK s₁.heap s'.heap/\s'.os=s₁.os/\AllBare s'.gens) s₁:=by
  intro H hO hS hok hA hK
  have oq:∀ {b:Addr} {o:Obj},s₁.heap.get? b=some o->H b=none->(mJ s₁.heap H).get? b=some o:=fun e n=>KY e n
  have yB:∀ {b:Addr} {o:Obj} {es:Array DictEntry} {ep:Nat},s₁.heap.get? b=some o->o.data=.dict es ep->H b=none:=fun {b o es ep} e d=>by
   cases q:H b with
   | none=>rfl
   | some u =>
    have e':b=a:=hA b (by rw [q];simp)
    subst e'
    rw [ha] at e;cases e
    have d':Data.seq vs.toArray _=Data.dict es ep:=d
    cases d'
  have Cb:∀ {b:Addr} {m:Str->Option Value},s₁.heap.Ns b m->(mJ s₁.heap H).Ns b m:=fun {b m} ⟨o,es,ep,e,d,r⟩=>⟨o,es,ep,oq e (yB e d),d,r⟩
  have HR:K.In (mJ s₁.heap H):=fun b o e=>oq (KX b o e) (by
   cases q:H b with
   | none=>rfl
   | some u =>
    have e':b=a:=hA b (by rw [q];simp)
    subst e'
    rw [hK (by rw [q];simp)] at e;cases e)
  have hM:Mod K mg (mJ s₁.heap H):=⟨HR,Cb hns,⟨mb,Cb hb,LF⟩,let ⟨mc,h1,h2⟩:=hlim;⟨mc,Cb h1,h2⟩⟩
  have e0:qV P w K mg (mJ s₁.heap H) callerA [] s₁ H:=⟨rfl,hM,fun b o e=>KZ e,Nat.le_of_eq (KW _ _),trivial,fun b hb=>absurd (show b∈([]:List Addr) from hb) (by simp),hok,.of_eq hg⟩
  refine codeAny_mono ((F _ HR (Cb hns)).run callerA [] s₁ H ⟨[.ref a],[]⟩ [.ref a] [.ref a] _ _ hr e0 (hbind s₁ (.ref a)) (.cons rfl .nil) (qA H hO hS)) fun r s' h=>?_
  cases r with
  | error e=>exact (yN H e s' h).elim
  | ok fl =>
   cases fl with
   | next=>exact False.elim h
   | brk=>exact False.elim h
   | cont=>exact False.elim h
   | ret u =>
    obtain ⟨v,H',os,bare,un,ET,r',q⟩:=h
    have q':v=.bl true:=q
    subst q'
    obtain rfl:u=Value.bool true:=r'
    refine ⟨rfl,OldK.of_keep fun b o e=>?_,os,bare⟩
    cases q:H b with
    | none=>exact un.keep b o e q (by intro z;exact absurd (show b∈([]:List Addr) from z) (by simp)) (by simp)
    | some u =>
     rcases hO b with z | ⟨ob,xs,z⟩
     ·rw [q] at z;cases z
     ·have z2:=un.mI b ob _ z
      obtain ⟨e1,_⟩:=hok b _ z
      obtain ⟨e2,_⟩:=ET b _ z2
      rw [e] at e1;cases e1
      exact e2
 cases hk:K.lookup a with
 | some o =>
  have e:=KX a o hk
  rw [ha] at e
  cases e
  refine core (fun _=>none) (fun _=>.inl rfl) (.inr ⟨_,vs.toArray,_,hk,rfl,rfl,rfl,by rw [List.size_toArray,ES];exact hl,by simpa using rv⟩) (fun b u z=>by have z':(none:Option HO)=some u:=z;cases z') (fun b z=>absurd rfl z) fun z=>absurd rfl z
 | none =>
  refine core (fun b=>if b=a then some (.mG { cls:=.type "list",data:=.seq vs.toArray } (.lst (ns.map V.int))) else none) (fun b=>?_) (.inl (.inr ⟨{ cls:=.type "list",data:=.seq vs.toArray },if_pos rfl⟩)) (fun b u z=>?_) (fun b z=>?_) fun _=>hk
  ·by_cases hb:b=a
   ·exact .inr ⟨_,_,if_pos hb⟩
   ·exact .inl (if_neg hb)
  ·by_cases hb:b=a
   ·have z':=(if_pos hb).symm.trans z
    cases z'
    subst hb
    exact ⟨ha,by rw [List.length_map];exact hl,vs,_,rv,ha⟩
   ·have z':=(if_neg hb).symm.trans z
    cases z'
  ·by_cases hb:b=a
   ·exact hb
   ·exact absurd (if_neg hb) z
end L2
namespace L2
open PySem PySem.Spec PyProof.Rows
abbrev KOf {K:PySem.W.Frag} {h:Heap} (_:K.In h):PySem.W.Frag:=K
theorem LG {l:PySem.W.OpenLaw} {n k:Nat} {q:Program} {loose:List Str} {XP:(Str->Option Value)->Heap->Prop} {YP:World->Heap->Prop} {d:DefRec} {K:Params->PySem.W.Frag} {CX:World->oT} {sp:World->Sp} {x:Str}
  (hn:l.most=some n) (hn2:n<=sizeLine) (hdf:d.params.defaults=[]) (hr:gJ k callerA)
  (hY:∀ (w:World) (h:Heap),YP w h->(K w.params).In h)
  (F:∀ (w:World) (mg:Str->Option Value) (fa:Addr) (h:Heap),(K w.params).In h->h.Ns mainGlobals mg->mg d.name=some (.ref fa) ->
   ∃ fd:FuncData,(∀ (s:Shared) (u:Value),BindsTo s fd ⟨[u],[]⟩ [(x,u)]) /\
    ∀ base:Heap,(K w.params).In base->base.Ns mainGlobals mg->az l.prog w (K w.params) mg base (CX w) k fa fd [x] (sp w))
  (qA:∀ (w:World) (H:Hp) (a:Addr) (ns:List Int),ns.length<=n->Only H->jB (K w.params) H a (ns.map V.int)->sp w [.ref a] H (fun v _=>v=.bl true) fun _ _ _=>False)
  (yN:∀ (w:World) (H:Hp) (s:Shared) (e:Value) (s':Shared),CX w [] H s (fun _ _ _=>False) e s'->False) :
  PySem.W.WalkO q loose XP YP l.row.toRowW d [] (fun f vs=>PySem.call f vs):=by
 refine HP.LC hn hdf fun w s₀ s₁ mg mb fa o pm cd doc a vs ns G Y ho hd hcd hmg hobj hints hlen hg=>?_
 have KX:=hY w _ Y
 obtain ⟨fd,hb,hF⟩:=F w mg fa _ KX G.T.g hmg
 exact LD KX G.T.g G.T.b G.T.builtins G.T.nolimit hg hobj hints (Nat.le_trans hlen hn2) hr hF hb (fun H hO hS=>qA w H a ns hlen hO hS) fun H e s'=>yN w H s₁ e s'
theorem LH {l:PySem.W.OpenLaw} {n k:Nat} {q:Program} {loose:List Str} {XP:(Str->Option Value)->Heap->Prop} {YP:World->Heap->Prop} {d:DefRec} {K:Params->PySem.W.Frag} {CX:oT} {sp:PySem.W.Frag->Sp} {x:Str}
  (hn:l.most=some n) (hn2:n<=sizeLine) (hdf:d.params.defaults=[]) (hr:gJ k callerA)
  (hY:∀ (w:World) (h:Heap),YP w h->(K w.params).In h)
  (F:∀ (w:World) (mg:Str->Option Value) (fa:Addr) (h:Heap),(K w.params).In h->h.Ns mainGlobals mg->mg d.name=some (.ref fa) ->
   ∃ fd:FuncData,(∀ (s:Shared) (u:Value),BindsTo s fd ⟨[u],[]⟩ [(x,u)]) /\
    ∀ base:Heap,(K w.params).In base->base.Ns mainGlobals mg->az l.prog w (K w.params) mg base CX k fa fd [x] (sp (K w.params)))
  (qA:∀ (K:PySem.W.Frag) (H:Hp) (a:Addr) (ns:List Int),ns.length<=n->Only H->jB K H a (ns.map V.int)->sp K [.ref a] H (fun v _=>v=.bl true) fun _ _ _=>False)
  (yN:∀ (H:Hp) (s:Shared) (e:Value) (s':Shared),CX [] H s (fun _ _ _=>False) e s'->False) :
  PySem.W.WalkO q loose XP YP l.row.toRowW d [] (fun f vs=>PySem.call f vs) :=
 LG (K:=K) (CX:=fun _=>CX) (sp:=fun w=>sp (K w.params)) hn hn2 hdf hr hY F (fun w H a ns h1 h2 h3=>qA (K w.params) H a ns h1 h2 h3) fun _ H s e s'=>yN H s e s'
end L2
namespace L2
open PySem PySem.Spec PyProof.Rows
def kc (s:Stmt):Arguments:=match s with
 | .FunctionDef _ a _ _ _ _ _ _ _ _=>a
 | _=>{ posonlyargs:=[],args:=[],vararg:=none,kwonlyargs:=[],kw_defaults:=[],kwarg:=none,defaults:=[] }
def ji (s:Stmt):List Stmt:=match s with
 | .FunctionDef _ _ b _ _ _ _ _ _ _=>b
 | _=>[]
def au (s:Stmt):Scope:=match s with
 | .FunctionDef _ _ _ _ _ _ sc _ _ _=>sc
 | _=>{ kind:=.function,names:=[],isGenerator:=false,isCoroutine:=false }
abbrev bg:oT:=fun _ _ _ _ _ _=>False
abbrev E0:XK:=fun _ _ _=>False
theorem ay {X:Cx}:Passes bg X E0:=fun _ _ _ _ _ _ _ h=>h.elim
structure Cc (K:PySem.W.Frag) (x qual:Str) (st:Stmt) (f:Addr) (fd:FuncData):Prop where
 ex:∃ (oc:Value) (od:Option Addr) (kV doc pm:Value) (an:Option Addr) (cdv ct:Value) (osl:Array (Option Value)),
  fd=PySem.W.fnOf x qual (kc st) (ji st) (au st) .none kV doc pm an cdv ct/\K.lookup f=some ⟨oc,od,.func fd,osl⟩/\PySem.W.codeIn K cdv qual=true
 kp:PySem.W.keepIn K (.ref f)=true
section
variable {P:Program} {w:World} {K:PySem.W.Frag} {mg:Str->Option Value} {base:Heap}
theorem Cc.ok {x qual:Str} {st:Stmt} {f:Addr} {fd:FuncData} {N ps:List Str} {k:Nat} {sp:Sp} (F:Cc K x qual st f fd) (S:ax N ps (au st)) (len:∀ vs H Q E,sp vs H Q E->vs.length=ps.length)
  (hbody:∀ (cdv:Value) (A:Around) (outer:List Env) (s:Shared) (H:Hp) (vs:List V) (Q:VK) (E:XK),gJ k (A.deeper (envOfC qual (au st) s.heap.objs.size f cdv))->sp vs H Q E ->
   ∃ t,oR (iN bg P w K mg base N qual (au st) f cdv A outer s H E).nT (ji st) t/\t { nx:=fun _ H'=>Q .non H',rt:=Q } (start N vs) H):az P w K mg base bg (k + 1) f fd ps sp:=by
 obtain ⟨oc,od,kV,doc,pm,an,cdv,ct,osl,rfl,lk,hcd⟩:=F.ex
 refine yC lk hcd S len fun A outer s H vs Q E hr qA=>?_
 obtain ⟨t,h,q⟩:=hbody cdv A outer s H vs Q E hr qA
 exact ⟨t,h.nT,q⟩
theorem uC {x qual:Str} {st:Stmt} {f:Addr} {oc:Value} {od an:Option Addr} {osl:Array (Option Value)} {kV doc pm cdv ct:Value} (l:K.lookup f=some ⟨oc,od,.func (PySem.W.fnOf x qual (kc st) (ji st) (au st) .none kV doc pm an cdv ct),osl⟩)
  (c:PySem.W.codeIn K cdv qual=true) (k:PySem.W.keepIn K (.ref f)=true):Cc K x qual st f (PySem.W.fnOf x qual (kc st) (ji st) (au st) .none kV doc pm an cdv ct):=⟨⟨oc,od,kV,doc,pm,an,cdv,ct,osl,rfl,l,c⟩,k⟩
end
theorem fm {A:Around} {k:Nat} (hr:gJ k A):A.units + 1 < cLine:=Nat.lt_of_le_of_lt (Nat.add_le_add_left (by decide:1<=64) _) hr.units
section
variable {X:Cx}
theorem pv (i:Nat) {x:Str} {pos:Pos} (hN:X.N[i]?=some x:=by rfl) (hv:Eg X.env.scope x:=by first | exact Or.inl rfl | exact Or.inr (Or.inl rfl) | exact Or.inr (Or.inr rfl)) (hd:(x == ("__debug__" : Str))=false:=by decide)
  (hcd:(x == ("__classdict__" : Str))=false:=by decide):PE X (.Name x pos) (uf i):=ug hN hv hd hcd
end
theorem oU {A B:Prop} (h:B):if false=true then A else B:=by
 rw [if_neg Bool.false_ne_true]
 exact h
theorem oV {A B:Prop} (h:A):if true=true then A else B:=by
 rw [if_pos rfl]
 exact h
def iE (H H':Hp):Prop:=∀ b o,H b=some o->H' b=some o
theorem iE.refl (H:Hp):iE H H:=fun _ _ h=>h
section
variable {X:Cx}
end
section
variable {κ:Type} [DecidableEq κ]
end
end L2
namespace L2
open PySem PySem.Spec PyProof.Rows
theorem md:bootBuiltins "len" = some (.builtin "len"):=by decide +kernel
theorem HS:bootBuiltins "int" = some (.type "int"):=by decide +kernel
theorem oW:bootBuiltins "list" = some (.type "list"):=by decide +kernel
theorem nG:bootBuiltins "tuple" = some (.type "tuple"):=by decide +kernel
theorem qC:bootBuiltins "range" = some (.type "range"):=by decide +kernel
theorem uD:bootBuiltins "max" = some (.builtin "max"):=by decide +kernel
theorem HU:bootBuiltins "min" = some (.builtin "min"):=by decide +kernel
theorem LI:bootBuiltins "reversed" = some (.type "reversed"):=by decide +kernel
structure Kp (ch:List Addr) (H H':Hp):Prop where
 keep:∀ b o,H b=some o->b ∉ ch->H' b=some o
 tup:∀ b xs,H b=some (.tup xs)->H' b=some (.tup xs)
 mG:∀ b o u,H b=some (.mG o u)->H' b=some (.mG o u)
section
variable {ch:List Addr} {H H1 H2:Hp} {a l p:Addr} {o:HO} {xs ys:List V} {K:PySem.W.Frag}
theorem Kp.refl:Kp ch H H:=⟨fun _ _ h _=>h,fun _ _ h=>h,fun _ _ _ h=>h⟩
theorem Kp.of_same (h:iE H H1):Kp ch H H1:=⟨fun b o e _=>h b o e,fun b xs e=>h b _ e,fun b o u e=>h b _ e⟩
theorem Kp.put (h:Kp ch H H1) (ha:a∈ch) (e:H1 a=some (.lst xs)):Kp ch H (upd H1 a o) :=
 ⟨fun b u q n=>by rw [jh (fun z=>n (by rw [z];exact ha))];exact h.keep b u q n,
   fun b u q=>by
  have r:=h.tup b u q
  rw [jh (Ed r e (by intro z;cases z))];exact r,
   fun b u v q=>by
  have r:=h.mG b u v q
  rw [jh (Ed r e (by intro z;cases z))];exact r⟩
theorem Kp.EU (h:Kp ch H H1) (q:eY K H a xs):eY K H1 a xs:=by
 rcases q with (q | ⟨o,q⟩) | q
 ·exact .inl (.inl (h.tup a xs q))
 ·exact .inl (.inr ⟨o,h.mG a o _ q⟩)
 ·exact .inr q
def yO (K:PySem.W.Frag) (H:Hp) (a:Addr) (xs:List V):Prop :=
 (∃ o,H a=some (.mG o (.lst xs))) \/
  ∃ (o:Obj) (its:Array Value) (n:Nat),K.lookup a=some o/\o.cls=.type "list" /\ o.dict=none/\o.data=.seq its n/\its.size<=sizeLine/\Vals xs its.toList
theorem yO.sq (h:yO K H a xs):jB K H a xs:=h.elim (fun ⟨o,e⟩=>.inl (.inr ⟨o,e⟩)) .inr
theorem jB.script (hO:Only H) (q:jB K H a xs):yO K H a xs:=by
 rcases q with (q | ⟨o,q⟩) | q
 ·rcases hO a with e | ⟨o,ys,e⟩
  ·rw [e] at q;cases q
  ·rw [e] at q;cases q
 ·exact .inl ⟨o,q⟩
 ·exact .inr q
theorem iE.up (h:H p=none):iE H (upd H p o):=fun b u e=>by rw [jh (w4 e h)];exact e
end
def nX (K:PySem.W.Frag) (H:Hp) (xs:List V) (Q:VK):Prop:=∀ p H',eY K H' p xs->iE H H'->Q (.ref p) H'
section
variable {X:Cx}
theorem nX.new {K:PySem.W.Frag} {H:Hp} {xs:List V} {Q:VK} (h:nX K H xs Q):∀ p,H p=none->Q (.ref p) (upd H p (.tup xs)):=fun p hp=>h p _ (eY.of o9) (iE.up hp)
theorem nX.it {K:PySem.W.Frag} {H:Hp} {xs:List V} {Q:VK} {a:Addr} (h:nX K H xs Q) (q:eY K H a xs):Q (.ref a) H:=h a H q (iE.refl H)
def pT (K:PySem.W.Frag):R2:=fun x y H Q=>∃ a b xs ys,x=.ref a/\y=.ref b/\eY K H a xs/\eY K H b ys/\xs.length + ys.length<=sizeLine/\nX K H (xs ++ ys) Q
theorem uE:ku X (binaryOp .Add) (pT X.K):=by
 intro pins s σ H x y v u Q I rx ry h
 obtain ⟨a,b,xs,ys,rfl,rfl,ha,hb,hz,q⟩:=h
 by_cases hx:xs=[]
 ·subst hx
  cases rx
  cases ry
  obtain ⟨its,r1,p1,_⟩:=I.tuple ha
  obtain ⟨its2,r2,p2,_⟩:=I.tuple hb
  have e:its=[]:=r1.lr.mpr rfl
  subst e
  obtain ⟨⟨cls,dd,data,sl⟩,ho,hc,n,hd⟩:=id p1
  obtain ⟨⟨EA,dd2,data2,sl2⟩,ho2,hc2,n2,hd2⟩:=id p2
  simp only at hc hd hc2 hd2
  subst hc hd hc2 hd2
  exact concat_meets ⟨_,ho,rfl⟩ ⟨_,ho2,rfl⟩ noFill_tuple_add seq_tuple_add PySem.F.slot_tuple_add PySem.F.entry_tuple_add (PySem.F.args_tuple_add_2 _ _)
   (tuple_addW0 a b #[] its2.toArray n n2 dd dd2 sl sl2 (by simp)) ⟨ho,ho2,⟨.ref b,H,I,rfl,q.it (by simpa using hb)⟩⟩
 ·exact Lm pins s σ H _ _ v u Q I rx ry ⟨a,b,xs,ys,rfl,rfl,ha,hb,hx,hz,fun e=>q.it (by subst e;simpa using ha),fun _=>q.new⟩
theorem LJ {prog:Program} {w:World} {A:Around} {E:Value->Shared->Prop} {s:Shared} {t sl:Addr} {items:Array Value} {vl vu:Value} {lo hi:Option Int} {Q:Value->Shared->Prop} (ht:IsTup s.heap t items) (hs:s.heap.IsSliceOf sl vl vu .none) (pl:IsPart vl lo) (pu:IsPart vu hi)
  (hw:HT.cE items.size 0 lo=0/\HT.cE items.size items.size hi=items.size) (h:Q (.ref t) s):wpAny (model prog w) A (getItem (.ref t) (.ref sl)) Q E s:=by
 obtain ⟨os,hos,hcs,hds⟩:=id hs
 have EB:s.TypeIs (.ref sl) "slice" := ⟨os,hos,hcs⟩
 unfold getItem
 try with_reducible refine wpAny_holding ?_
 first | refine wpAny_bind (wpAny_pure ?_) | skip
 refine wpAny_bind (wpAny_sequenceKey ht.typeIs (by decide) ?_)
 refine wpAny_bind (wpAny_callSpecial?_slot (name:=Str.ofString "__getitem__") ht.typeIs PyProof.Rows.slot_tuple_getitem
  (wpAny_call_entry PyProof.Rows.slot_tuple_getitem ht.typeIs entry_tuple_getitem ?_ (args_tuple_getitem _ _)))
 show wpAny _ _ (Builtin.Tuple.tupleItemsOf (.ref t) >>= _) _ _ s
 refine wpAny_bind (tupleItemsOf_ ht ?_)
 refine wpAny_bind (wpAny_typeOf EB ?_)
 rw [if_pos (by decide)]
 refine wpAny_bind (HT.Hy hs pl pu ?_)
 have hyes:((((HT.cE items.size 0 lo:Nat):Int) == 0 && (1:Int) == 1 && (HT.cE items.size items.size hi - HT.cE items.size 0 lo) == items.size)=true):=by
  rw [hw.1,hw.2];simp
 show wpAny _ _ (if (((HT.cE items.size 0 lo:Nat):Int) == 0 && (1:Int) == 1 && (HT.cE items.size items.size hi - HT.cE items.size 0 lo) == items.size)=true then _ else _) _ _ s
 rw [if_pos hyes]
 obtain ⟨o,ho,hc,n,hd⟩:=id ht
 unfold Builtin.Tuple.tupleIsExact
 first
  | exact wpAny_bind (wpAny_bind (wpAny_typeOf (T:="tuple") ⟨o,ho,hc⟩ (wpAny_pure (wpAny_bind (wpAny_rule (wpAny_pure ⟨_,rfl,wpAny_pure h⟩))))))
  | exact wpAny_bind (wpAny_bind (wpAny_typeOf (T:="tuple") ⟨o,ho,hc⟩ (wpAny_pure (wpAny_bind (wpAny_rule (wpAny_bind (wpAny_pure ⟨_,rfl,wpAny_pure h⟩)))))))
  | trace_state
def sD (K:PySem.W.Frag):V->Option Int->Option Int->Hp->VK->Prop:=fun x lo hi H Q=>∃ a xs,x=.ref a/\eY K H a xs/\nX K H (lG xs lo hi) Q
theorem LK {xs:List V} {lo hi:Option Int} (h:HT.cE xs.length 0 lo=0/\HT.cE xs.length xs.length hi=xs.length):lG xs lo hi=xs:=by
 unfold lG;rw [h.1,h.2];simp
theorem LL:B7 X (sD X.K):=by
 intro pins s σ H x v vl vu lo hi sl Q I rx hs pl pu h
 obtain ⟨a,xs,rfl,hx,q⟩:=h
 by_cases hw:HT.cE xs.length 0 lo=0/\HT.cE xs.length xs.length hi=xs.length
 ·cases rx
  obtain ⟨its,r,ht,hz⟩:=I.tuple hx
  have hlen:its.toArray.size=xs.length:=by rw [List.size_toArray];exact r.length.symm
  refine ⟨"tuple",_,PyProof.Rows.slot_tuple_getitem.lookup,ht.typeIs,?_⟩
  exact LJ ht hs pl pu (by rw [hlen];exact hw) ⟨.ref a,H,I,rfl,q.it (by rw [LK hw];exact hx)⟩
 ·exact uv pins s σ H _ v vl vu lo hi sl Q I rx hs pl pu ⟨a,xs,rfl,hx,hw,q.new⟩
def fq (lo:Int) (n:Nat):List V:=(List.range n).map fun (k:Nat)=>V.int (lo + k)
theorem LM (lo:Int) (n:Nat):(fq lo n).length=n:=by simp [fq]
theorem Cd:iz X (.type "range") (fun xs H Q=>∃ j:Int,xs=[.int j]/\∀ p,H p=none->Q (.ref p) (upd H p (.iJ 0 j))):=by
 intro pins s σ H xs us Q I r h
 obtain ⟨j,rfl,q⟩:=h
 obtain ⟨u,rfl,t,rfl⟩:=vals1 r
 refine call_range_1 ⟨.ref s.heap.objs.size,_,I.laid (o:=.iJ 0 j) (fun b o e=>Heap.get?_push_of_some _ e) (Nat.le_refl _) ?_,rfl,q _ (I.hok.fresh (Nat.le_refl _))⟩
 exact ⟨_,_,_,Heap.get?_push_size _ rfl⟩
theorem xj:iz X (.type "range") (fun xs H Q=>∃ i j:Int,xs=[.int i,.int j]/\∀ p,H p=none->Q (.ref p) (upd H p (.iJ i j))):=by
 intro pins s σ H xs us Q I r h
 obtain ⟨i,j,rfl,q⟩:=h
 obtain ⟨u,u',rfl,⟨t,rfl⟩,t',rfl⟩:=vals2 r
 refine call_range_2 ⟨.ref s.heap.objs.size,_,I.laid (o:=.iJ i j) (fun b o e=>Heap.get?_push_of_some _ e) (Nat.le_refl _) ?_,rfl,q _ (I.hok.fresh (Nat.le_refl _))⟩
 exact ⟨_,_,_,Heap.get?_push_size _ rfl⟩
theorem HV:∀ (n:Nat) (lo:Int) (us:List Value),us.length=n->(∀ (j:Nat) (v:Value),us[j]?=some v->∃ t,v=.int (lo + j * 1) t)->Vals (fq lo n) us
 | 0,lo,[],_,_=>.nil
 | 0,lo,_ :: _,h,_=>by simp at h
 | n + 1,lo,[],h,_=>by simp at h
 | n + 1,lo,u :: us,h,hv=>by
  have e:fq lo (n + 1)=V.int lo :: fq (lo + 1) n:=by
   unfold fq
   rw [List.range_succ_eq_map,List.map_cons,List.map_map]
   congr 1
   ·simp
   ·apply List.map_congr_left
    intro i _
    simp only [Function.comp]
    congr 1
    push_cast
    omega
  rw [e]
  obtain ⟨t,ht⟩:=hv 0 u rfl
  refine .cons ⟨t,by rw [ht];simp⟩ (HV n (lo + 1) us (by simpa using h) fun j v hj=>?_)
  obtain ⟨t',ht'⟩:=hv (j + 1) v hj
  refine ⟨t',ht'.trans ?_⟩
  congr 1
  omega
theorem qD (hc:X.calm=true):iz X (.type "list") (fun xs H Q=>∃ p lo hi,xs=[.ref p]/\H p=some (.iJ lo hi)/\(-(2 ^ 62)<=lo/\lo < 2 ^ 62/\-(2 ^ 62)<=hi/\hi < 2 ^ 62)/\(hi - lo).toNat<=2 ^ 24 /\
  ∀ l,H l=none->Q (.ref l) (upd H l (.lst (fq lo (hi - lo).toNat)))):=by
 intro pins s σ H xs us Q I r h
 obtain ⟨p,lo,hi,rfl,hp,⟨b1,b2,b3,b4⟩,hz,q⟩:=h
 obtain ⟨u,rfl,ru⟩:=vals1 r
 cases ru
 obtain ⟨t,t',t'',e⟩:=(show cD X.prog X.w H s.heap p (.iJ lo hi) from I.hok p _ hp)
 refine call_list_range (a:=lo) (b:=hi) (c:=1) (n:=(hi - lo).toNat) (I.ok.hd hc) (show IsRange s.heap p lo hi 1 t t' t'' from e) (small_one b1 b2 b3 b4) (by rw [rangeSize_one];split <;> omega) hz fun h' tk acc c kp hD hI=>?_
 refine ⟨.ref s.heap.objs.size,_,I.laid (t':=tk) (o:=.lst (fq lo (hi - lo).toNat)) kp (Nat.le_refl _) ?_,rfl,q _ (I.hok.fresh (Nat.le_refl _))⟩
 refine ⟨by rw [LM];exact Nat.le_trans hz (by decide),acc.toList,c,HV _ _ _ (by rw [Array.length_toList];exact hI.1) fun j v hj=>hI.2 j v (by rw [<- hj,Array.getElem?_toList]),by simpa using hD⟩
end
mutual
inductive Rep (K:PySem.W.Frag) (H:Hp):V->PyData->Prop
 | non:Rep K H .non .none
 | bl (b:Bool):Rep K H (.bl b) (.bool b)
 | int (i:Int):Rep K H (.int i) (.int i)
 | str (x:Str):Rep K H (.str x) (.str x)
 | tup {a:Addr} {xs:List V} {ds:List PyData}:eY K H a xs->iO K H xs ds->Rep K H (.ref a) (.tuple ds)
 | lst {a:Addr} {xs:List V} {ds:List PyData}:jB K H a xs->iO K H xs ds->Rep K H (.ref a) (.list ds)
inductive iO (K:PySem.W.Frag) (H:Hp):List V->List PyData->Prop
 | nil:iO K H [] []
 | cons {v:V} {vs:List V} {d:PyData} {ds:List PyData}:Rep K H v d->iO K H vs ds->iO K H (v :: vs) (d :: ds)
end
section
variable {X:Cx} {pins:List (Addr×Obj)} {σ:St} {H:Hp} {s:Shared}
mutual
theorem Rep.reads (I:Inv X pins σ H s):∀ {v:V} {d:PyData} {u:Value},Rep X.K H v d->RelV v u->∃ as,Reads s.heap u d as
 | _,_,_,.non,r=>by cases r;exact ⟨_,.none⟩
 | _,_,_,.bl b,r=>by cases r;exact ⟨_,.bool b⟩
 | _,_,_,.int i,r=>by obtain ⟨t,rfl⟩:=r;exact ⟨_,.int i t⟩
 | _,_,_,.str x,r=>by obtain ⟨t,rfl⟩:=r;exact ⟨_,.str x t⟩
 | _,_,_,.tup q rs,r=>by
  cases r
  obtain ⟨its,rv,⟨o,e,c,n,hd⟩,_⟩:=I.tuple q
  obtain ⟨as,ra⟩:=iO.reads I rs rv
  exact ⟨_,.tuple e c hd (by simpa using ra)⟩
 | _,_,_,.lst q rs,r=>by
  cases r
  obtain ⟨its,rv,pl,_⟩:=I.list q
  obtain ⟨o,e,c,n,hd⟩:=pl.isList
  obtain ⟨as,ra⟩:=iO.reads I rs rv
  exact ⟨_,.list e c hd (by simpa using ra)⟩
theorem iO.reads (I:Inv X pins σ H s):∀ {vs:List V} {ds:List PyData} {us:List Value},iO X.K H vs ds->Vals vs us->∃ as,ReadsAll s.heap us ds as
 | _,_,_,.nil,r=>by cases r;exact ⟨_,.nil⟩
 | _,_,_,.cons h t,r=>by
  cases r with
  | cons r1 r2 =>
   obtain ⟨as,h1⟩:=Rep.reads I h r1
   obtain ⟨bs,h2⟩:=iO.reads I t r2
   exact ⟨_,.cons h1 h2⟩
end
def uF (K:PySem.W.Frag) (neg:Bool):R2:=fun x y H Q=>∃ d e,Rep K H x d/\Rep K H y e/\PyData.canLay0 d=true/\PyData.canLay0 e=true/\min d.depth e.depth<=60/\Q (.bl (if neg then !PyData.eqv d e else PyData.eqv d e)) H
theorem uG (hu:X.A.units + 64 < cLine):ku X (compareOp .Eq) (uF X.K false):=by
 intro pins s σ H x y v u Q I rx ry h
 obtain ⟨d,e,hd,he,c1,c2,dp,q⟩:=h
 obtain ⟨as,ra⟩:=hd.reads I rx
 obtain ⟨bs,rb⟩:=he.reads I ry
 exact SeqAt.eqOverData X.prog X.w X.A X.xe s v u d e as bs _ ra rb c1 c2 (by omega) ⟨.bl _,H,I,rfl,q⟩
theorem xk (hu:X.A.units + 64 < cLine):ku X (compareOp .NotEq) (uF X.K true):=by
 intro pins s σ H x y v u Q I rx ry h
 obtain ⟨d,e,hd,he,c1,c2,dp,q⟩:=h
 obtain ⟨as,ra⟩:=hd.reads I rx
 obtain ⟨bs,rb⟩:=he.reads I ry
 exact SeqAt.neOverData X.prog X.w X.A X.xe s v u d e as bs _ ra rb c1 c2 (by omega) ⟨.bl _,H,I,rfl,q⟩
end
section
variable {K:PySem.W.Frag} {H:Hp}
def bP (ns:List Int):List PyData:=ns.map PyData.int
theorem iO.ints:∀ (ns:List Int),iO K H (ns.map V.int) (bP ns)
 | []=>.nil
 | n :: r=>.cons (.int n) (iO.ints r)
theorem qY:∀ (ns:List Int),PyData.canLayAll0 (bP ns)=true
 | []=>rfl
 | n :: r=>by show (true && PyData.canLayAll0 (bP r))=true;rw [qY r];rfl
theorem uH:∀ (ns:List Int),PyData.depthAll (bP ns)=0
 | []=>rfl
 | n :: r=>by show max 0 (PyData.depthAll (bP r))=0;rw [uH r];rfl
theorem uI:∀ (ns ms:List Int),PyData.eqvAll (bP ns) (bP ms)=decide (ns=ms)
 | [],[]=>rfl
 | [],_ :: _=>rfl
 | _ :: _,[]=>rfl
 | n :: ns,m :: ms=>by
  show ((n == m) && PyData.eqvAll (bP ns) (bP ms))=decide (n :: ns=m :: ms)
  rw [uI ns ms]
  by_cases h:n=m
  ·subst h;simp
  ·simp [h]
end
end L2
namespace L2
open PySem PySem.Spec PyProof.Rows
structure Def (K:PySem.W.Frag) (mg:Str->Option Value) (x:Str) (st:Stmt) (ps:List Str) (f:Addr) (fd:FuncData):Prop where
 F:Cc K x x st f fd
 be:∀ us:List Value,us.length=ps.length->bindArgs fd ⟨us,[]⟩=pure (ps.zip us)
 m:mg x=some (.ref f)
theorem Def.b {K:PySem.W.Frag} {mg:Str->Option Value} {x:Str} {st:Stmt} {ps:List Str} {f:Addr} {fd:FuncData} (D:Def K mg x st ps f fd):Binds K fd ps []:=.all D.be
theorem ft {K:PySem.W.Frag} {h:Heap} {mg:Str->Option Value} (X:K.In h) (G:h.Ns mainGlobals mg) {x:Str} {st:Stmt} {ps:List Str} {f:Addr} {oc:Value} {od an:Option Addr} {osl:Array (Option Value)} {kV doc pm cdv ct:Value}
  (hb:∀ (kV doc pm:Value) (an:Option Addr) (cdv ct:Value) (us:List Value),us.length=ps.length->bindArgs (PySem.W.fnOf x x (kc st) (ji st) (au st) .none kV doc pm an cdv ct) ⟨us,[]⟩=pure (ps.zip us))
  (a:PySem.W.nsIn K mainGlobals x=some (some (.ref f))) (l:K.lookup f=some ⟨oc,od,.func (PySem.W.fnOf x x (kc st) (ji st) (au st) .none kV doc pm an cdv ct),osl⟩)
  (c:PySem.W.codeIn K cdv x=true) (k:PySem.W.keepIn K (.ref f)=true):∃ f fd,Def K mg x st ps f fd :=
 ⟨f,_,uC l c k,hb kV doc pm an cdv ct,PySem.W.mg_of X G a⟩
theorem Def.qZ {K:PySem.W.Frag} {mg:Str->Option Value} {x p:Str} {st:Stmt} {f:Addr} {fd:FuncData} (D:Def K mg x st [p] f fd) (s:Shared) (u:Value):BindsTo s fd ⟨[u],[]⟩ [(p,u)]:=.of_eq (D.be [u] rfl)
theorem q4 {K:PySem.W.Frag} {h:Heap} {mg:Str->Option Value} (X:K.In h) (G:h.Ns mainGlobals mg) {x:Str} (z:PySem.W.nsIn K mainGlobals x=some none):mg x=none:=PySem.W.mg_none_of X G z
theorem yP {n j:Nat} (h:j < n):kU n (j:Int)=some j:=by
 unfold kU
 rw [if_pos (by omega),if_pos (by omega)]
 simp
theorem uJ {α:Type} {xs:List α} {i:Int} (h0:0<=i) (h1:i < xs.length):∃ v,iA xs i=some v/\v∈xs:=by
 have hi:i.toNat < xs.length:=by omega
 refine ⟨xs[i.toNat],?_,List.getElem_mem hi⟩
 have:=xf (xs:=xs) (j:=i.toNat) (v:=xs[i.toNat]) (by simp [hi])
 rwa [Int.toNat_of_nonneg h0] at this
theorem dT {c:Prop} [Decidable c] (h:decide c=true):c:=of_decide_eq_true h
end L2
namespace L2
open PySem PySem.Spec PyProof.Rows
section
variable {prog:Program} {w:World} {A:Around} {E:Value->Shared->Prop} {s:Shared}
end
section
variable {X:Cx} {e:Expr} {te:TE} {pos p0 p1 p2:Pos} {j:Nat}
end
end L2
namespace L2
open PySem PySem.Spec PyProof.Rows
section
variable {K:PySem.W.Frag} {f:Addr} {H0:Hp} {σ:St} {i:Nat} {t u ta tb:TE} {R R':V->Hp->Prop} {P P' P2:Int->Prop} {L M:Nat}
end
end L2
namespace L2
open PySem PySem.Spec PyProof.Rows
theorem yQ:∀ (names:List (Str×NameKind)) (n:Nat) (acc:List (Str×Addr)),cellsFrom n names acc=cellsFrom n names [] ++ acc
 | [],_,_=>rfl
 | (x,k) :: r,n,acc=>by
  show (if k == .cell then cellsFrom (n + 1) r ((x,n) :: acc) else cellsFrom n r acc)=(if k == .cell then cellsFrom (n + 1) r [(x,n)] else cellsFrom n r []) ++ acc
  by_cases hk:(k == NameKind.cell)=true
  ·rw [if_pos hk,if_pos hk,yQ r (n + 1) ((x,n) :: acc),yQ r (n + 1) [(x,n)],List.append_assoc];rfl
  ·rw [if_neg hk,if_neg hk];exact yQ r n acc
theorem EV {x:Str} {c:Addr}:∀ (names:List (Str×NameKind)) (n:Nat),(x,c)∈cellsFrom n names []->(x,NameKind.cell)∈names/\n<=c
 | [],_,h=>nomatch h
 | (y,k) :: r,n,h=>by
  have h':(x,c)∈(if k == .cell then cellsFrom (n + 1) r [(y,n)] else cellsFrom n r []):=h
  by_cases hk:(k == NameKind.cell)=true
  ·rw [if_pos hk,yQ] at h'
   rcases List.mem_append.mp h' with h' | h'
   ·obtain ⟨h1,h2⟩:=EV r (n + 1) h'
    exact ⟨List.mem_cons_of_mem _ h1,by omega⟩
   ·have e:(x,c)=(y,n):=by simpa using h'
    cases e
    have e2:k=NameKind.cell:=by simpa using hk
    subst e2
    exact ⟨List.mem_cons_self,Nat.le_refl _⟩
  ·rw [if_neg hk] at h'
   obtain ⟨h1,h2⟩:=EV r n h'
   exact ⟨List.mem_cons_of_mem _ h1,h2⟩
theorem EW {env:Env} (f:Str×NameKind->List (Str×Addr)->Sem (ForInStep (List (Str×Addr))))
  (hf:∀ name kind cs,f (name,kind) cs=if kind == .free then (do let c <- cellOf env name;pure (.yield ((name,c) :: cs))) else pure (.yield cs)) :
  ∀ (names:List (Str×NameKind)) (acc:List (Str×Addr)),(∀ y∈names,y.2=NameKind.free->∃ c,env.cells.lookup y.1=some c) ->
   ∃ cl,(forIn names acc f:Sem (List (Str×Addr)))=pure cl/\(∀ n c,(n,c)∈cl->(n,c)∈acc\/(env.cells.lookup n=some c/\(n,NameKind.free)∈names))/\(∀ p∈acc,p∈cl)/\∀ n,(n,NameKind.free)∈names->∃ c,(n,c)∈cl
 | [],acc,_=>⟨acc,by rw [List.forIn_nil],fun n c h=>.inl h,fun p h=>h,fun n h=>nomatch h⟩
 | (x,k) :: r,acc,h=>by
  have hr:∀ y∈r,y.2=NameKind.free->∃ c,env.cells.lookup y.1=some c:=fun y hy=>h y (List.mem_cons_of_mem _ hy)
  by_cases hk:k=NameKind.free
  ·subst hk
   obtain ⟨c,hc⟩:=h (x,.free) List.mem_cons_self rfl
   have e:cellOf env x=pure c:=by unfold cellOf;rw [hc]
   obtain ⟨cl,e1,h1,h2,h3⟩:=EW f hf r ((x,c) :: acc) hr
   refine ⟨cl,?_,fun n d hd=>?_,fun p hp=>h2 p (List.mem_cons_of_mem _ hp),fun n hn=>?_⟩
   ·rw [List.forIn_cons,hf,if_pos (by rfl),e]
    exact e1
   ·rcases h1 n d hd with q | ⟨q,q'⟩
    ·rcases List.mem_cons.mp q with q | q
     ·cases q;exact .inr ⟨hc,List.mem_cons_self⟩
     ·exact .inl q
    ·exact .inr ⟨q,List.mem_cons_of_mem _ q'⟩
   ·rcases List.mem_cons.mp hn with q | q
    ·cases q;exact ⟨c,h2 _ List.mem_cons_self⟩
    ·exact h3 n q
  ·obtain ⟨cl,e1,h1,h2,h3⟩:=EW f hf r acc hr
   have hb:¬ ((k == NameKind.free)=true):=by simpa using hk
   refine ⟨cl,?_,fun n d hd=>?_,h2,fun n hn=>?_⟩
   ·rw [List.forIn_cons,hf,if_neg hb]
    exact e1
   ·rcases h1 n d hd with q | ⟨q,q'⟩
    ·exact .inl q
    ·exact .inr ⟨q,List.mem_cons_of_mem _ q'⟩
   ·rcases List.mem_cons.mp hn with q | q
    ·cases q;exact absurd rfl hk
    ·exact h3 n q
theorem HW {scope:Scope} {env:Env} (h:∀ y∈scope.names,y.2=NameKind.free->∃ c,env.cells.lookup y.1=some c) :
  ∃ cl,closureFor scope env=pure cl/\(∀ n c,(n,c)∈cl->env.cells.lookup n=some c/\(n,NameKind.free)∈scope.names)/\∀ n,(n,NameKind.free)∈scope.names->∃ c,(n,c)∈cl:=by
 have key:∀ (f:Str×NameKind->List (Str×Addr)->Sem (ForInStep (List (Str×Addr)))),(∀ name kind cs,f (name,kind) cs=if kind == .free then (do let c <- cellOf env name;pure (.yield ((name,c) :: cs))) else pure (.yield cs)) ->
   ∃ cl,((forIn scope.names [] f:Sem (List (Str×Addr))) >>= fun r=>pure r)=pure cl/\(∀ n c,(n,c)∈cl->env.cells.lookup n=some c/\(n,NameKind.free)∈scope.names)/\∀ n,(n,NameKind.free)∈scope.names->∃ c,(n,c)∈cl:=fun f hf=>by
  obtain ⟨cl,e,h1,_,h3⟩:=EW f hf scope.names [] h
  refine ⟨cl,?_,fun n c hc=>(h1 n c hc).elim (fun z=>nomatch z) id,h3⟩
  rw [e]
  rfl
 simp only [closureFor]
 exact key _ fun name kind cs=>by cases hk:kind == NameKind.free <;> simp [hk]
theorem ltN {a b:Addr} (h:a < b):@LT.lt Nat _ a b:=h
theorem ud {a b:Addr} (h:@LT.lt Nat _ a b):a≠b:=Nat.ne_of_lt h
theorem HX {a b:Addr} (h:@LT.lt Nat _ b a):a≠b:=Nat.ne_of_gt h
theorem LN {M:Model} {A:Around} {E:Value->Shared->Prop} {s:Shared} {scope:Scope} {g:Addr} {cl:List (Str×Addr)} {q:Str} {env:Env} {Q:Env->Shared->Prop}
  (h:∀ h',h'.Ns s.heap.objs.size (fun _=>none)->(∀ b o,s.heap.get? b=some o->h'.get? b=some o)->CellsOk h' (s.heap.objs.size + 1) (cellsFrom (s.heap.objs.size + 1) scope.names []) ->
   Q { scope:=scope,locals:=s.heap.objs.size,globals:=g,cells:=cellsFrom (s.heap.objs.size + 1) scope.names cl,qual:=q,func:=none,code:=env.code,frame:=env.frame,builtins:=env.builtins } { s with heap:=h' }) :
  wpAny M A (newFunctionEnv scope g cl [] q none .none (some env)) Q E s:=by
 simp only [newFunctionEnv,Option.isSome_some,if_true]
 refine wpAny_bind (wpAny_alloc ?_)
 refine wpAny_bind (wpAny_layCells _ (fun name kind cells=>by cases hkc:kind == NameKind.cell <;> simp [hkc]) _ _ _ _ ?_)
 have ok:=cellsFrom_ok scope.names (s.heap.push { cls:=.type "dict",data:=.dict #[] }) (s.heap.objs.size + 1) [] ⟨fun _ _ hm=>(nomatch hm),List.Pairwise.nil⟩ (by rw [Heap.size_push];exact Nat.le_refl _)
 rw [Heap.size_push] at ok
 rw [show ({ s with heap:=s.heap.push { cls:=.type "dict",data:=.dict #[] } }:Shared).heap.objs.size=s.heap.objs.size + 1 from Heap.size_push ..]
 refine wpAny_bind ?_
 rw [List.forIn_nil]
 refine wpAny_pure (wpAny_pure ?_)
 exact h _ ((Heap.Ns.new s.heap (.type "dict")).keeps (pushCells_keeps _ _)) (fun b o e=>pushCells_keeps _ _ b o (Heap.get?_push_of_some _ e)) ok
def aW (X:Cx) (N:List Str) (scope:Scope) (cells:List (Str×Addr)) (C:Addr) (fp:List Addr) (s:Shared) (H:Hp):Cx where
 prog:=X.prog
 w:=X.w
 K:=X.K
 mg:=X.mg
 base:=X.base
 A:=X.A
 N:=N
 s₀:=s
 H₀:=H
 env:=compEnvC scope cells C X.env
 outer:=X.stack
 stack:=X.stack
 ex:=fp
 fn:=fun x=>decide (scope.names.lookup x=some .cell)
 calm:=X.calm
 pn:=[]
 xe:=fun _ _=>False
def pU (scope sc:Scope):Scope :=
 { scope with names:=scope.names.map fun (n,k)=>if (k == .free && sc.kind == .function && sc.names.lookup n == some .cell) then (n,.cell) else (n,k) }
structure pV (sc scope:Scope) (own fr:List Str):Prop where
 kind:scope.kind=.function
 nd:(own ++ fr).Nodup
 xl:(scope.names.map (·.1)).Nodup
 free:∀ y∈scope.names,y.2=.free->sc.names.lookup y.1=some .cell\/sc.names.lookup y.1=some .free
 EX:∀ x∈fr,scope.names.lookup x=some .free
structure fu (X:Cx) (scope:Scope) (own fr:List Str) (js:List Nat):Prop where
 c:pV X.env.scope scope own fr
 ix:js.map (fun j=>X.N[j]?)=fr.map some
theorem fu.kind {X:Cx} {scope:Scope} {own fr:List Str} {js:List Nat} (S:fu X scope own fr js):scope.kind=.function:=S.c.kind
theorem fu.xl {X:Cx} {scope:Scope} {own fr:List Str} {js:List Nat} (S:fu X scope own fr js):(scope.names.map (·.1)).Nodup:=S.c.xl
theorem fu.EX {X:Cx} {scope:Scope} {own fr:List Str} {js:List Nat} (S:fu X scope own fr js):∀ x∈fr,scope.names.lookup x=some .free:=S.c.EX
theorem fu.free {X:Cx} {scope:Scope} {own fr:List Str} {js:List Nat} (S:fu X scope own fr js):∀ y∈scope.names,y.2=.free->X.env.kindOf y.1=some .cell\/X.env.kindOf y.1=some .free:=S.c.free
theorem yR {α:Type}:∀ {l:List (Str×α)} {n:Str} {c:α},(l.map (·.1)).Nodup->(n,c)∈l->l.lookup n=some c
 | (k,v) :: r,n,c,nd,h=>by
  obtain ⟨h1,h2⟩:=List.nodup_cons.mp nd
  rw [List.lookup_cons]
  rcases List.mem_cons.mp h with e | h
  ·cases e;simp
  ·have:(n == k)=false:=beq_eq_false_iff_ne.mpr fun e=>h1 (by rw [<- e];exact List.mem_map.mpr ⟨(n,c),h,rfl⟩)
   rw [this]
   exact yR h2 h
theorem HY (scope:Scope) (env:Env) (x:Str):(relabel scope env).names.lookup x=none/\scope.names.lookup x=none \/
  ∃ k,scope.names.lookup x=some k/\(relabel scope env).names.lookup x=some (if (k == .free && env.scope.kind == .function && env.kindOf x == some .cell) then .cell else k):=by
 have key:∀ names:List (Str×NameKind),(names.map fun (n,k)=>if (k == NameKind.free && env.scope.kind == .function && env.kindOf n == some .cell) then (n,NameKind.cell) else (n,k)).lookup x=none/\names.lookup x=none \/
   ∃ k,names.lookup x=some k/\(names.map fun (n,k)=>if (k == NameKind.free && env.scope.kind == .function && env.kindOf n == some .cell) then (n,NameKind.cell) else (n,k)).lookup x=some (if (k == .free && env.scope.kind == .function && env.kindOf x == some .cell) then .cell else k):=by
  intro names
  induction names with
  | nil=>exact .inl ⟨rfl,rfl⟩
  | cons p r ih =>
   obtain ⟨n,k⟩:=p
   rw [List.map_cons]
   cases hx:x == n with
   | true =>
    have e:x=n:=by simpa using hx
    subst e
    refine .inr ⟨k,by simp [List.lookup_cons],?_⟩
    by_cases hc:(k == NameKind.free && env.scope.kind == .function && env.kindOf x == some .cell)=true
    ·simp only [if_pos hc];simp [List.lookup_cons]
    ·simp only [if_neg hc];simp [List.lookup_cons]
   | false =>
    have e1:∀ q:NameKind,(((n,q) :: (r.map fun (n,k)=>if (k == NameKind.free && env.scope.kind == .function && env.kindOf n == some .cell) then (n,NameKind.cell) else (n,k))).lookup x)=((r.map fun (n,k)=>if (k == NameKind.free && env.scope.kind == .function && env.kindOf n == some .cell) then (n,NameKind.cell) else (n,k)).lookup x):=fun q=>by rw [List.lookup_cons,hx]
    have e2:((n,k) :: r).lookup x=r.lookup x:=by rw [List.lookup_cons,hx]
    rw [e2]
    by_cases hc:(k == NameKind.free && env.scope.kind == .function && env.kindOf n == some .cell)=true
    ·simp only [if_pos hc];rw [e1];exact ih
    ·simp only [if_neg hc];rw [e1];exact ih
 exact key scope.names
def iP (n:Nat) (js:List Nat) (σ:St):St:=List.replicate n none ++ js.map fun j=>σ.getD j none
theorem Inv.yS {X:Cx} {pins:List (Addr×Obj)} {σ:St} {H:Hp} {s:Shared} {a:Addr} {o:HO} (I:Inv X pins σ H s) (f:kr X pins H a) (new:cD X.prog X.w (upd H a o) s.heap a o):Inv X pins σ (upd H a o) s:=by
 obtain ⟨f0,f1,f2,f3,f4,f5⟩:=f
 have ne:∀ b u,H b=some u->b≠a:=fun b u e z=>by rw [z,f0] at e;cases e
 refine I.step (h':=s.heap) (H':=upd H a o) (g':=s.gens) (d':=s.drawn) (t':=s.toks) (ch:=[a]) (fun b hb=>?_) (fun b u _ _ _ e _=>e) (fun b u _ _ _ e _=>⟨u.slots,e⟩) (fun b u hb e n=>?_) (fun b u _ e=>⟨u,e⟩)
  (fun b xs e=>by rw [jh (ne b _ e)];exact e) (fun b u xs e=>by rw [jh (ne b _ e)];exact e) (fun b ps e=>⟨#[],by rw [jh (ne b _ e),e];simp⟩) (fun m hm=>hm) (fun b u e=>?_) I.bare
 ·have e:b=a:=by simpa using hb
  subst e
  exact ⟨f3,f1,f4,f5⟩
 ·rw [jh (fun z=>hb (by simp [z]))];exact n
 ·by_cases hb:b=a
  ·subst hb;rw [o9] at e;cases e;exact new
  ·rw [jh hb] at e
   exact (I.hok b u e).stay (fun c v _ q=>q) (fun c q=>by rw [jh (ne c _ q)];exact q) fun c xs q=>by rw [jh (ne c _ q)];exact q
def PF (X:Cx) (ifs:List Expr) (t:TT):Prop :=
 ∀ (pins:List (Addr×Obj)) (s:Shared) (σ:St) (H:Hp) (Q:Bool->Hp->Prop),Inv X pins σ H s->t σ H Q ->
  wpAny (model X.prog X.w) X.A (forIn ifs true fun c r=>if r=true then do let ok <- isTrue c X.env (eval c X.env);pure (ForInStep.yield ok) else pure (ForInStep.yield r)) (TP X pins σ Q) X.xe s
theorem q5 {X:Cx}:PF X [] (fun _ H Q=>Q true H):=fun _ _ _ H _ I h=>wpAny_tests_nil ⟨H,I,h⟩
theorem HZ {X:Cx} {c:Expr} {t:TT} (h:PT X c t):PF X [c] t:=fun pins s σ H Q I hw=>wpAny_tests_one (h pins s σ H Q I hw)
theorem LO {prog:Program} {w:World} {A:Around} {R:Result->Shared->Prop} {s:Shared} {elt target iter:Expr} {ifs:List Expr} {scope:Scope} {pos:Pos} {it acc:Value} {env:Env} (I:Nat->Shared->Prop)
  (turn:∀ n s,I n s->wpAny (model prog w) A (pyNext it) (fun r s₁=>match r with
   | none=>R (.ok .next) s₁
   | some v=>wpAny (model prog w) A (letOwnedTupleGo target it v) (fun _ s₁'=>wpAny (model prog w) A (assign target env v) (fun _ s₂ =>
     wpAny (model prog w) A (forIn ifs true fun c r=>if r=true then do let ok <- isTrue c env (eval c env);pure (ForInStep.yield ok) else pure (ForInStep.yield r)) (fun ok s₃ =>
      if ok=true then wpAny (model prog w) A (eval elt env) (fun x s₄ =>
       wpAny (model prog w) A (call (.builtin "list.append") [acc,x]) (fun _ s₅=>∃ m,m < n/\I m s₅) (fun _ _=>False) s₄) (fun _ _=>False) s₃
      else ∃ m,m < n/\I m s₃) (fun _ _=>False) s₂) (fun _ _=>False) s₁') (fun _ _=>False) s₁) (fun _ _=>False) s)
  (n:Nat) (h:I n s) :
  codeAny (model prog w) A (.compLoop (.ListComp elt [⟨target,iter,ifs,0⟩] scope pos) 0 it acc env) R s:=by
 refine codeAny_loop rfl I (fun n s hI=>?_) n h
 show wpAny _ A ((compTurn (.ListComp elt [⟨target,iter,ifs,0⟩] scope pos) 0 it acc env).onRaise (fun x=>do noteFrame x env;theTreesLotGoes x)) _ _ s
 refine wpAny_noted ?_
 rw [compTurn_list]
 refine wpAny_bind (wpAny_standAt (wpAny_bind (wpAny_mono (turn n s hI) (fun r s₁ h₁=>?_) fun _ _ h'=>h'.elim)))
 cases r with
 | none=>exact wpAny_pure h₁
 | some v =>
  refine wpAny_bind (wpAny_mono h₁ (fun _ s₁' h₁'=>?_) fun _ _ h'=>h'.elim)
  refine wpAny_bind (wpAny_mono h₁' (fun _ s₂ h₂=>wpAny_bind (wpAny_mono h₂ (fun ok s₃ h₃=>?_) fun _ _ h'=>h'.elim)) fun _ _ h'=>h'.elim)
  cases ok with
  | false=>exact wpAny_pure ⟨rfl,h₃⟩
  | true =>
   exact wpAny_bind (wpAny_bind (wpAny_mono h₃ (fun x s₄ h₄=>wpAny_bind (wpAny_mono h₄ (fun _ s₅ h₅=>wpAny_pure (wpAny_pure ⟨rfl,h₅⟩)) fun _ _ h'=>h'.elim)) fun _ _ h'=>h'.elim))
def uK (J:It) (n:Nat) (js:List Nat) (g:TG) (tc:TT) (te:TE) (σ:St) (H1:Hp) (Q:VK):Prop :=
 ∃ W:Nat->Nat->List V->St->Hp->Prop,(∃ m,W 0 m [] (iP n js σ) H1)/\∀ i m ys σ' H',W i m ys σ' H' ->
  ys.length < sizeLine/\((J.stop i H'/\∀ p,H' p=none->Q (.ref p) (upd H' p (.lst ys))) \/
   (J.go i H'/\∀ x H2,J.qU i H' x H2->g x σ' H2 fun σ2 H3=>tc σ2 H3 fun b H4=>if b=true then te σ2 H4 fun y H5=>∃ m',m' < m/\W (i + 1) m' (ys ++ [y]) σ2 H5 else ∃ m',m' < m/\W (i + 1) m' ys σ2 H4))
def pW (wi:TI) (n:Nat) (js:List Nat) (g:TG) (tc:TT) (te:TE):TE:=fun σ H Q=>wi σ H fun J H1=>uK J n js g tc te σ H1 Q
section
variable {X:Cx} {pins:List (Addr×Obj)} {σ:St} {tg iter elt:Expr} {ifs:List Expr} {scope:Scope} {pos:Pos} {own fr:List Str} {js:List Nat} {g:TG} {tc:TT} {te:TE} {wi:TI}
theorem Ic {H2:Hp} {s2:Shared} {it:Addr} {fp:List Addr} {tn:Nat->Heap->Prop} {J:It} {Q:VK} {E:Value->Shared->Prop} {cl:List (Str×Addr)} {RR:Value->Addr->Result->Shared->Prop}
  (hc:X.calm=true) (S:fu X scope own fr js) (hg:∀ cells C fp s H,PG (aW X (own ++ fr) scope cells C fp s H) tg g) (hf:∀ cells C fp s H,PF (aW X (own ++ fr) scope cells C fp s H) ifs tc) (he:∀ cells C fp s H,PE (aW X (own ++ fr) scope cells C fp s H) elt te)
  (I2:Inv X pins σ H2 s2) (T:Turn X.prog X.w X.K tg J fp it tn) (st2:tn 0 s2.heap) (f2:∀ b∈fp,kr X pins H2 b)
  (nY:∀ n c,(n,c)∈cl->X.env.cells.lookup n=some c/\(n,NameKind.free)∈scope.names) (pX:∀ n,(n,NameKind.free)∈scope.names->∃ c,(n,c)∈cl)
  (W:Nat->Nat->List V->St->Hp->Prop) (m0:Nat) (w0:W 0 m0 [] (iP own.length js σ) H2)
  (turn:∀ i m ys σ' H',W i m ys σ' H'->ys.length < sizeLine/\((J.stop i H'/\∀ p,H' p=none->Q (.ref p) (upd H' p (.lst ys))) \/
   (J.go i H'/\∀ x H2,J.qU i H' x H2->g x σ' H2 fun σ2 H3=>tc σ2 H3 fun b H4=>if b=true then te σ2 H4 fun y H5=>∃ m',m' < m/\W (i + 1) m' (ys ++ [y]) σ2 H5 else ∃ m',m' < m/\W (i + 1) m' ys σ2 H4)))
  (fin:∀ (acc C:Addr) (H':Hp) (s':Shared) (v:V),v=.ref acc->Inv X pins σ H' s'->kr X pins H' C->(∃ m,s'.heap.Ns C m)->Q v H'->RR (.ref acc) C (.ok .next) s') :
  wpAny (model X.prog X.w) X.A (newList []) (fun acc s3=>wpAny (model X.prog X.w) X.A (newFunctionEnv scope X.env.globals cl [] X.env.qual none .none (some X.env)) (fun cenv s4 =>
   codeAny (model X.prog X.w) X.A (.compStart (.ListComp elt [⟨tg,iter,ifs,0⟩] scope pos) 0 (.ref it) acc { cenv with scope:=relabel scope X.env }) (RR acc cenv.locals) s4) E s3) E s2:=by
 refine wpAny_newObj_type ?_
 refine LN fun h4 hns Ie mK=>?_
 have hA:s2.heap.objs.size < (s2.heap.push { cls:=.type "list",data:=.seq ([]:List Value).toArray }).objs.size:=by rw [Heap.size_push];exact Nat.lt_succ_self _
 generalize hC:(s2.heap.push { cls:=.type "list",data:=.seq ([]:List Value).toArray }).objs.size=C at hns mK hA ⊢
 generalize hac:s2.heap.objs.size=acc at hA ⊢
 have EY:acc≠C:=Nat.ne_of_lt hA
 have old:∀ b o,s2.heap.get? b=some o->h4.get? b=some o:=fun b o e=>Ie b o (Heap.get?_push_of_some _ e)
 have hacc:h4.get? acc=some { cls:=.type "list",data:=.seq ([]:List Value).toArray }:=Ie _ _ (by rw [<- hac];exact Heap.get?_push_size _ rfl)
 have EZ:∀ x c,(x,c)∈cellsFrom (C + 1) scope.names []->h4.IsCell c none/\C + 1<=c/\scope.names.lookup x=some .cell:=fun x c h=>⟨(mK.empty x c h).1,(mK.empty x c h).2,yR S.xl (EV _ _ h).1⟩
 have lk:∀ x c,(cellsFrom (C + 1) scope.names cl).lookup x=some c->(h4.IsCell c none/\C + 1<=c/\(x,c)∈cellsFrom (C + 1) scope.names [])\/(X.env.cells.lookup x=some c/\scope.names.lookup x=some .free):=fun x c h=>by
  rw [yQ] at h
  rcases List.mem_append.mp (PySem.mem_of_lookup h) with q | q
  ·exact .inl ⟨(EZ x c q).1,(EZ x c q).2.1,q⟩
  ·exact .inr ⟨(nY x c q).1,yR S.xl (nY x c q).2⟩
 have E1:∀ x c,X.env.cells.lookup x=some c->c < s2.heap.objs.size:=fun x c h=>by
  obtain ⟨v,z⟩:=I2.cell x c h
  exact z.lt
 have ot:∀ x c,(cellsFrom (C + 1) scope.names cl).lookup x=some c->c≠C/\c≠acc/\H2 c=none/\∀ b∈fp,c≠b:=fun x c h=>by
  rcases lk x c h with ⟨_,h1,_⟩ | ⟨h1,_⟩
  ·refine ⟨HX (by omega),HX (by omega),I2.hok.fresh (by omega),fun b hb z=>?_⟩
   obtain ⟨o,e,_⟩:=T.obj 0 _ st2 b hb
   have:=ltN (Heap.lt_size e)
   rw [<- z] at this
   omega
  ·have:=ltN (E1 x c h1)
   exact ⟨ud (by omega),ud (by omega),I2.jF x c h1,fun b hb=>(f2 b hb).2.2.2.2.1 x c h1⟩
 have yT:∀ x,scope.names.lookup x=some .free->∃ c,X.env.cells.lookup x=some c/\(cellsFrom (C + 1) scope.names cl).lookup x=some c:=fun x h=>by
  obtain ⟨c,Ig⟩:=pX x (PySem.mem_of_lookup h)
  have hc1:=(nY x c Ig).1
  have hs:((cellsFrom (C + 1) scope.names cl).lookup x).isSome=true:=by
   refine PySem.W.cellsFrom_some scope.names (C + 1) cl (.inr ?_)
   cases q:cl.lookup x with
   | some d=>rfl
   | none =>
    exfalso
    have:∀ {l:List (Str×Addr)},(x,c)∈l->l.lookup x≠none:=by
     intro l
     induction l with
     | nil=>intro h;exact nomatch h
     | cons p r ih =>
      intro h z
      obtain ⟨k,v⟩:=p
      rw [List.lookup_cons] at z
      cases hb:x == k with
      | true=>rw [hb] at z;cases z
      | false =>
       rw [hb] at z
       rcases List.mem_cons.mp h with e | h
       ·cases e;simp at hb
       ·exact ih h z
    exact this Ig q
  obtain ⟨d,hd⟩:=Option.isSome_iff_exists.mp hs
  rcases lk x d hd with ⟨_,_,h2⟩ | ⟨h1,_⟩
  ·have:=(EZ x d h2).2.2
   rw [h] at this;cases this
  ·rw [hc1] at h1;cases h1
   exact ⟨c,hc1,hd⟩
 have Ce:∀ b∈fp,b≠C/\b≠acc:=fun b hb=>by
  obtain ⟨o,e,_⟩:=T.obj 0 _ st2 b hb
  have:=ltN (Heap.lt_size e)
  exact ⟨ud (by omega),ud (by omega)⟩
 have LP:(relabel scope X.env).kind=.function:=S.kind
 have ok:(aW X (own ++ fr) scope (cellsFrom (C + 1) scope.names cl) C fp s2 H2).Ok:=by
  refine ⟨I2.ok.mod,LP,I2.ok.glob,I2.ok.blt,?_,fun x y c h1 h2=>?_,fun x hx=>?_,fun x c hx h=>?_,I2.ok.hd,I2.ok.frames,.inl rfl,fun b hb=>⟨(Ce b hb).1,fun x c h=>(ot x c h).2.2.2 b hb⟩,I2.bs,Nat.le_trans I2.ok.rS I2.sz,fun b o e hb=>?_,fun b hb z=>?_,I2.stack,I2.og⟩
  ·show s2.heap.objs.size<=C
   omega
  ·rcases lk x c h1 with ⟨_,q1,q2⟩ | ⟨q1,_⟩
   ·rcases lk y c h2 with ⟨_,r1,r2⟩ | ⟨r1,_⟩
    ·exact name_of_addr mK.apart q2 r2
    ·have:=ltN (E1 y c r1);omega
   ·rcases lk y c h2 with ⟨_,r1,r2⟩ | ⟨r1,_⟩
    ·have:=ltN (E1 x c q1);omega
    ·exact I2.ok.inj x y c q1 r1
  ·have hx':(relabel scope X.env).names.lookup x=some .cell\/(relabel scope X.env).names.lookup x=some .free:=hx
   rcases HY scope X.env x with ⟨e,_⟩ | ⟨k,e1,e2⟩
   ·rcases hx' with z | z <;> (rw [e] at z;cases z)
   ·by_cases hk:k=.free
    ·subst hk
     obtain ⟨c,_,h⟩:=yT x e1
     exact ⟨c,h⟩
    ·have hk':k=.cell:=by
      have hb:(k == NameKind.free)=false:=beq_eq_false_iff_ne.mpr hk
      rw [hb] at e2
      simp only [Bool.false_and,Bool.false_eq_true,if_false] at e2
      rcases hx' with z | z
      ·rw [e2] at z;exact Option.some.inj z
      ·rw [e2] at z;exact absurd (Option.some.inj z) hk
     subst hk'
     exact Option.isSome_iff_exists.mp (PySem.W.cellsFrom_some scope.names (C + 1) cl (.inl e1))
  ·have hx':scope.names.lookup x=some .cell:=of_decide_eq_true hx
   show s2.heap.objs.size<=c
   rcases lk x c h with ⟨_,q,_⟩ | ⟨_,q⟩
   ·omega
   ·rw [hx'] at q;cases q
  ·rcases (f2 b hb).2.2.2.1 with z | z
   ·exact I2.ok.pF b o e z
   ·have h1:@LT.lt Nat _ b X.base.objs.size:=Heap.lt_size e
    have h2:=I2.ok.rS
    omega
  ·rcases List.mem_cons.mp (I2.lE b z) with e | e
   ·exact (f2 b hb).2.1 e
   ·exact (f2 b hb).2.2.1 e
 have I4:Inv (aW X (own ++ fr) scope (cellsFrom (C + 1) scope.names cl) C fp s2 H2) [(acc,{ cls:=.type "list",data:=.seq ([]:List Value).toArray })] (iP own.length js σ) H2 { s2 with heap:=h4 }:=by
  refine ⟨ok,rfl,I2.bare,Un.kept old,⟨_,hns,fun i x v e1 e2 e3=>?_⟩,fun x c h=>?_,I2.hok.fresh (by show s2.heap.objs.size<=C;omega),fun x c h=>(ot x c h).2.2.1,fun p hp=>?_,I2.hok.kept old,?_⟩
  ·have E2:(own ++ fr)[i]?=some x:=e1
   unfold iP at e2
   by_cases hi:i < own.length
   ·rw [List.getElem?_append_left (by simpa using hi),List.getElem?_replicate] at e2
    split at e2 <;> cases e2
   ·rw [List.getElem?_append_right (by simpa using hi),List.length_replicate,List.getElem?_map] at e2
    rw [List.getElem?_append_right (by omega)] at E2
    cases hj:js[i - own.length]? with
    | none=>rw [hj] at e2;cases e2
    | some j =>
     rw [hj] at e2
     have yU:σ.getD j none=some v:=Option.some.inj e2
     have hN:X.N[j]?=some x:=by
      have q:=congrArg (fun l=>l[i - own.length]?) S.ix
      simp only [List.getElem?_map,hj,E2,Option.map_some] at q
      exact Option.some.inj q
     have hσ:σ[j]?=some (some v):=by
      rw [List.getD_eq_getElem?_getD] at yU
      cases q:σ[j]? with
      | none=>rw [q] at yU;cases yU
      | some o=>rw [q] at yU;exact congrArg some yU
     have hfr:scope.names.lookup x=some .free:=S.EX x (List.mem_of_getElem? E2)
     have hk:=S.free _ (PySem.mem_of_lookup hfr) rfl
     obtain ⟨m,_,hl⟩:=I2.loc
     obtain ⟨u,ru,lo⟩:=hl j x v hN hσ (by rcases hk with k | k;exact .inr (.inl k);exact .inr (.inr k))
     refine ⟨u,ru,.inr ⟨?_,?_⟩⟩
     ·rcases HY scope X.env x with ⟨_,e⟩ | ⟨k,q1,q2⟩
      ·rw [hfr] at e;cases e
      ·rw [hfr] at q1;cases q1
       have LQ:(compEnvC scope (cellsFrom (C + 1) scope.names cl) C X.env).kindOf x=some (if (NameKind.free == .free && X.env.scope.kind == .function && X.env.kindOf x == some .cell)=true then .cell else .free):=q2
       rw [show (aW X (own ++ fr) scope (cellsFrom (C + 1) scope.names cl) C fp s2 H2).env.kindOf x=_ from LQ]
       split
       ·exact .inl rfl
       ·exact .inr rfl
     ·rcases lo with ⟨k,_⟩ | ⟨_,c,hc1,hc2⟩
      ·rcases hk with k' | k' <;> (rw [k] at k';cases k')
      ·obtain ⟨d,hd1,hd2⟩:=yT x hfr
       rw [hc1] at hd1;cases hd1
       exact ⟨c,hd2,hc2.keeps old⟩
  ·rcases lk x c h with ⟨q,_,_⟩ | ⟨q,_⟩
   ·exact ⟨_,q⟩
   ·obtain ⟨v,z⟩:=I2.cell x c q
    exact ⟨v,z.keeps old⟩
  ·have e:p=(acc,{ cls:=.type "list",data:=.seq ([]:List Value).toArray }):=by simpa [aW] using hp
   subst e
   refine ⟨hacc,I2.hok.fresh (by omega),EY,fun z=>?_,fun v z=>nomatch z⟩
   rcases List.mem_cons.mp (I2.lE acc z) with e | e
   ·have:=ltN I2.lt
    rw [<- e] at this
    omega
   ·exact I2.x8 (by omega) e
  ·show (iP own.length js σ).length=(own ++ fr).length
   have q:=congrArg List.length S.ix
   simp only [List.length_map] at q
   unfold iP
   rw [List.length_append,List.length_replicate,List.length_map,List.length_append,q]
 have E3:∀ {H':Hp} {ob:Obj},(∀ b∈fp,H' b=none)->∀ b∈fp,kr (aW X (own ++ fr) scope (cellsFrom (C + 1) scope.names cl) C fp s2 H2) [(acc,ob)] H' b:=fun {H' ob} hn b hb =>
  ⟨hn b hb,(Ce b hb).1,fun z=>by
   rcases List.mem_cons.mp (I2.lE b z) with e | e
   ·exact (f2 b hb).2.1 e
   ·exact (f2 b hb).2.2.1 e,.inl hb,fun x c h=>(ot x c h).2.2.2 b hb,fun p hp=>by
   have e:p=(acc,ob):=by simpa [aW] using hp
   subst e
   exact fun z=>(Ce b hb).2 z.symm⟩
 have loop:codeAny (model X.prog X.w) X.A (.compLoop (.ListComp elt [⟨tg,iter,ifs,0⟩] scope pos) 0 (.ref it) (.ref acc) (compEnvC scope (cellsFrom (C + 1) scope.names cl) C X.env)) (RR (.ref acc) C) { s2 with heap:=h4 }:=by
  refine LO (fun m s'=>∃ (i:Nat) (ys:List V) (its:List Value) (n:Nat) (σ':St) (H':Hp),Inv (aW X (own ++ fr) scope (cellsFrom (C + 1) scope.names cl) C fp s2 H2) [(acc,{ cls:=.type "list",data:=.seq its.toArray n })] σ' H' s'/\Vals ys its/\tn i s'.heap/\(∀ b∈fp,H' b=none)/\W i m ys σ' H') ?_ m0
   ⟨0,[],[],0,_,H2,I4,.nil,T.keep _ _ _ st2 fun b _ o e=>old b o e,fun b hb=>(f2 b hb).1,w0⟩
  rintro n s5 ⟨i,ys,its,en,σ5,H5,I5,rv,jC,B5,w5⟩
  obtain ⟨hz,alt⟩:=turn i n ys σ5 H5 w5
  rcases alt with ⟨stop,qn⟩ | ⟨go,step⟩
  ·refine cB (T.done (aW X (own ++ fr) scope (cellsFrom (C + 1) scope.names cl) C fp s2 H2) rfl rfl rfl hc i _ s5 σ5 H5 _ I5 (E3 B5) jC stop) fun r s6 ⟨hr,I6⟩=>?_
   subst hr
   show RR (.ref acc) C (.ok .next) s6
   have u:Un (frs X.stack) fp H2 H5 s2.heap s6.heap:=I6.base
   have J6:Inv X pins σ H5 s6:=I2.yb I6.os u I6.hok I6.bare fun b hb=>⟨(f2 b hb).2.2.2.1,(f2 b hb).2.1,(f2 b hb).2.2.2.2.1,(f2 b hb).2.2.2.2.2⟩
   have pacc:=I6.pin (acc,_) (List.mem_append_right _ List.mem_cons_self)
   have E4:kr X pins H5 acc:=I2.nU (by omega) pacc.2.1
   have fC:kr X pins H5 C:=I2.nU (by omega) I6.free
   have K6:Inv X pins σ (upd H5 acc (.lst ys)) s6:=J6.yS E4 ⟨Nat.le_of_lt hz,its,en,rv,pacc.1⟩
   obtain ⟨m,hm,_⟩:=I6.loc
   exact fin acc C _ s6 (.ref acc) rfl K6 ⟨by rw [jh EY.symm];exact fC.1,fC.2⟩ ⟨m,hm⟩ (qn acc pacc.2.1)
  ·refine cB (T.item (aW X (own ++ fr) scope (cellsFrom (C + 1) scope.names cl) C fp s2 H2) rfl rfl rfl hc i _ s5 σ5 H5 _ I5 (E3 B5) jC go) fun r s6 ⟨u,hr,h6⟩=>?_
   subst hr
   refine cB h6 fun _ s7 ⟨x,H7,I7,r7,y7,nQ,LR⟩=>?_
   have LS:=I7.pinned (E3 LR) (T.obj _ _ nQ)
   refine cB (hg _ _ _ _ _ _ s7 σ5 H7 x u _ LS r7 (step x H7 y7)) fun _ s8 ⟨σ8,H8,I8,q8⟩=>?_
   refine cB (hf _ _ _ _ _ _ s8 σ8 H8 _ I8 q8) fun b s9 ⟨H9,I9,q9⟩=>?_
   have Cf:∀ {s':Shared} {σ':St} {H':Hp},Inv (aW X (own ++ fr) scope (cellsFrom (C + 1) scope.names cl) C fp s2 H2) ([(acc,{ cls:=.type "list",data:=.seq its.toArray en })] ++ lF fp s7.heap) σ' H' s'->tn (i + 1) s'.heap/\∀ b∈fp,H' b=none:=fun {s' σ' H'} I' =>
    ⟨T.keep _ _ _ nQ fun b hb o e=>(I'.pin (b,o) (List.mem_append_right _ (List.mem_append_right _ (B4 hb e)))).1,fun b hb=>by
     obtain ⟨o,e,d⟩:=T.obj _ _ nQ b hb
     exact (I'.pin (b,o) (List.mem_append_right _ (List.mem_append_right _ (B4 hb e)))).2.1⟩
   cases b with
   | false =>
    obtain ⟨m',hm,w9⟩:=q9
    exact ⟨m',hm,i + 1,ys,its,en,σ8,H9,I9.kb,rv,(Cf I9).1,(Cf I9).2,w9⟩
   | true =>
    refine cB (he _ _ _ _ _ _ s9 σ8 H9 _ I9 q9) fun y E5 ⟨yv,E6,Cg,LU,m',hm,LV⟩=>?_
    have pacc:=Cg.pin (acc,_) (List.mem_append_right _ (List.mem_append_left _ List.mem_cons_self))
    have hlen:=rv.length
    refine wpAny_list_append_plain (items:=its.toArray) ⟨en,pacc.1⟩ (fun h11 ⟨Ih,E7⟩ yV=>?_) (by simp only [List.size_toArray];omega)
    have cA:∀ x c,(cellsFrom (C + 1) scope.names cl).lookup x=some c->c≠acc:=fun x c h=>(ot x c h).2.1
    have Ia:Inv (aW X (own ++ fr) scope (cellsFrom (C + 1) scope.names cl) C fp s2 H2) [] σ8 E6 E5:=Cg.ll fun p hp=>nomatch hp
    have Ib:Inv (aW X (own ++ fr) scope (cellsFrom (C + 1) scope.names cl) C fp s2 H2) [] σ8 E6 { E5 with heap:=h11 }:=Ia.turned (it:=acc) (t':=E5.toks) (fun b o hb e=>(yV.2 b hb).trans e) pacc.2.1 EY (.inr (by show s2.heap.objs.size<=acc;omega)) cA fun p hp=>nomatch (show p∈([]:List (Addr×Obj)) from by simpa [aW] using hp)
    refine ⟨m',hm,i + 1,ys ++ [yv],its ++ [y],Ih,σ8,E6,Ib.ll fun p hp=>?_,rv.append (.cons LU .nil),T.keep _ _ _ (Cf Cg).1 fun b hb o e=>(yV.2 b (Ce b hb).2).trans e,(Cf Cg).2,LV⟩
    have e:p=(acc,{ cls:=.type "list",data:=.seq (its ++ [y]).toArray Ih }):=by simpa using hp
    subst e
    exact ⟨by simpa using E7,pacc.2.1,pacc.2.2.1,pacc.2.2.2.1,fun v z=>nomatch z⟩
 exact codeAny_compStart_list loop (T.self X.A 0 _ _ _ (T.keep _ _ _ st2 fun b _ o e=>old b o e) loop)
theorem rf (hc:X.calm=true) (S:fu X scope own fr js) (hi:PI X tg iter wi) (hg:∀ cells C fp s H,PG (aW X (own ++ fr) scope cells C fp s H) tg g) (hf:∀ cells C fp s H,PF (aW X (own ++ fr) scope cells C fp s H) ifs tc) (he:∀ cells C fp s H,PE (aW X (own ++ fr) scope cells C fp s H) elt te)
  (hs:∀ x,foldedSetIterable iter X.env x=pure x:=by intro _;rfl):PE X (.ListComp elt [⟨tg,iter,ifs,0⟩] scope pos) (pW wi own.length js g tc te):=by
 intro pins s σ H Q I h
 obtain ⟨cl,hcl,nY,pX⟩:=HW (scope:=scope) (env:=X.env) fun y hy hk=>I.ok.has y.1 (S.free y hy hk)
 rw [eval_ListComp]
 refine wpAny_comprehension_free (use:=none) rfl hs hcl S.kind (fun y hy hk=>by rw [<- hk];exact yR S.xl hy) (cB (hi pins s σ H _ I h) fun v s1 h1=>cB h1 fun itv s2 h2=>?_)
 obtain ⟨it,fp,tn,J,H2,e,I2,T,st2,f2,W,⟨m0,w0⟩,turn⟩:=h2
 subst e
 refine Ic (RR:=fun acc C=>compPost (model X.prog X.w) X.A X.xe none (EP X pins σ Q) acc C) hc S hg hf he I2 T st2 f2 nY pX W m0 w0 turn ?_
 intro acc C H' s' v hv I' fC ⟨m,hm⟩ q
 subst hv
 obtain ⟨f0,f1,LW,f3,f4,f5⟩:=fC
 exact ⟨m,hm,fun h'' uL=>⟨.ref acc,H',I'.turned (it:=C) (t':=s'.toks) (fun b o hb e=>(uL.2 b hb).trans e) f0 f1 f3 f4 f5,rfl,q⟩⟩
theorem Ii {i:Nat} {x:Str} {pos' spos:Pos} (hc:X.calm=true) (hN:X.N.Nodup) (hx:X.N[i]?=some x) (hl:X.env.scope.names.lookup x=some .local) (S:fu X scope own fr js) (hi:PI X tg iter wi) (hg:∀ cells C fp s H,PG (aW X (own ++ fr) scope cells C fp s H) tg g) (hf:∀ cells C fp s H,PF (aW X (own ++ fr) scope cells C fp s H) ifs tc) (he:∀ cells C fp s H,PE (aW X (own ++ fr) scope cells C fp s H) elt te)
  (hsw:swapsWith (.ListComp elt [⟨tg,iter,ifs,0⟩] scope pos) (some (.Name x pos')) spos.line X.env=pure true:=by rfl)
  (hs:∀ x,foldedSetIterable iter X.env x=pure x:=by intro _;rfl):PS X (.Assign [.Name x pos'] (.ListComp elt [⟨tg,iter,ifs,0⟩] scope pos) spos) (qS (pW wi own.length js g tc te) (nE i)):=by
 intro pins s σ H D I h
 obtain ⟨cl,hcl,nY,pX⟩:=HW (scope:=scope) (env:=X.env) fun y hy hk=>I.ok.has y.1 (S.free y hy hk)
 rw [exec_Assign_Name_used _ _ _ _ hsw]
 refine wpAny_bind (wpAny_standAt (wpAny_bind ?_))
 show wpAny _ X.A (do let _ <- comprehension (.ListComp elt [⟨tg,iter,ifs,0⟩] scope pos) scope X.env _ (newList []) false (eval iter X.env) (some (assign (.Name x pos') X.env))) _ _ s
 refine wpAny_bind (wpAny_mono (wpAny_comprehension_free (use:=some (assign (.Name x pos') X.env)) (Q:=fun _ s'=>SP X pins D .next s') rfl hs hcl S.kind (fun y hy hk=>by rw [<- hk];exact yR S.xl hy)
  (cB (hi pins s σ H _ I h) fun v s1 h1=>cB h1 fun itv s2 h2=>?_)) (fun _ s' hq=>wpAny_pure (wpAny_pure hq)) fun _ _ e=>e)
 obtain ⟨it,fp,tn,J,H2,e,I2,T,st2,f2,W,⟨m0,w0⟩,turn⟩:=h2
 subst e
 refine Ic (Q:=fun v H'=>nE i v σ H' D.nx) (RR:=fun acc C=>compPost (model X.prog X.w) X.A X.xe (some (assign (.Name x pos') X.env)) (fun _ s'=>SP X pins D .next s') acc C) hc S hg hf he I2 T st2 f2 nY pX W m0 w0 turn ?_
 intro acc C H' s' v hv I' fC ⟨m,hm⟩ q
 subst hv
 obtain ⟨f0,f1,LW,f3,f4,f5⟩:=fC
 show wpAny _ X.A (assign (.Name x pos') X.env (.ref acc)) _ _ _
 refine wpAny_assign_Name (G5 I' hN hx (.inl hl) (show RelV (.ref acc) (.ref acc) from rfl) (fun s'' LX ⟨a,hs1,ha⟩=>?_) (.inr hl))
 have haC:a≠C:=by
  rcases ha with e | e
  ·rw [e];exact f1.symm
  ·exact f4 _ _ e
 exact ⟨m,hm.sameBut hs1 haC.symm,fun h'' uL=>⟨_,H',LX.turned (it:=C) (t':=s''.toks) (fun b o hb e=>(uL.2 b hb).trans e) f0 f1 f3 f4 f5,q⟩⟩
end
end L2
namespace L2
open PySem PySem.Spec PyProof.Rows
section
variable {X:Cx}
end
section
variable {prog:Program} {w:World} {A:Around} {E:Value->Shared->Prop} {s:Shared}
end
section
variable {X:Cx}
end
mutual
def E8:PyData->Bool
 | .none=>true
 | .bool _=>true
 | .int _=>true
 | .str _=>true
 | .list _=>false
 | .tuple xs=>oX xs
 | .dict _=>false
def oX:List PyData->Bool
 | []=>true
 | x :: xs=>E8 x && oX xs
end
section
variable {K:PySem.W.Frag} {ch:List Addr} {H H':Hp}
theorem Ij:∀ (ns:List Int),oX (bP ns)=true
 | []=>rfl
 | n :: r=>by show (true && oX (bP r))=true;rw [Ij r];rfl
end
def iF (ns:List Int):PyData:=.tuple (bP ns)
theorem LY (ns:List Int):E8 (iF ns)=true:=by unfold iF;simp only [E8];exact Ij ns
theorem LZ:∀ (rs:List (List Int)),oX (rs.map iF)=true
 | []=>rfl
 | r :: rs=>by rw [List.map_cons];simp only [oX];rw [LY,LZ rs];rfl
theorem E9:∀ (rs:List (List Int)),PyData.canLayAll0 (rs.map iF)=true
 | []=>rfl
 | r :: rs=>by
  show (PyData.canLayAll0 (bP r) && PyData.canLayAll0 (rs.map iF))=true
  rw [qY,E9 rs];rfl
theorem Ik:∀ (rs:List (List Int)),PyData.depthAll (rs.map iF)<=1
 | []=>Nat.zero_le _
 | r :: rs=>by
  show max (PyData.depthAll (bP r) + 1) (PyData.depthAll (rs.map iF))<=1
  have:=Ik rs
  rw [uH];omega
def Fb (i:Int):Prop:=-1000000000000000000<=i/\i<=1000000000000000000
end L2
namespace L2
open PySem PySem.Spec PyProof.Rows
section
variable {X:Cx} {K:PySem.W.Frag}
theorem Ci (hK:X.K=K):B8 X (uw K):=by subst hK;exact b5
theorem Il (hK:X.K=K):ku X (compareOp .NotIn) (EJ K true):=by subst hK;exact B9
theorem L0 (hK:X.K=K):iz X (.type "tuple") (fun xs H Q=>∃ p ys,xs=[V.ref p]/\((jB K H p ys/\∀ l,H l=none->Q (.ref l) (upd H l (.tup ys)))\/(eY K H p ys/\Q (.ref p) H))):=by subst hK;exact nF
theorem L3 {tg l:Expr} {tl:TE} (hK:X.K=K) (hl:PE X l tl):PI X tg l (pK K tl):=by subst hK;exact Es hl
end
end L2
namespace L2
open PySem PySem.Spec PyProof.Rows
section
variable {prog:Program} {w:World} {A:Around} {E:Value->Shared->Prop} {s:Shared}
theorem L5 {j t:Addr} {i:Nat} {ys:Array Value} {y:Value} {Q:Value->Shared->Prop} (hj:s.heap.IsTupleIter j t i) (ht:s.heap.IsTuple t ys) (hy:ys[i]?=some y)
  (hQ:∀ h',h'.IsTupleIter j t (i + 1)->Heap.SameBut j s.heap h'->Q y { s with heap:=h' }):wpAny (model prog w) A (Builtin.SmallTypes.nextOf (.ref j)) Q E s:=by
 obtain ⟨r,hr,rc,rd⟩:=id hj
 obtain ⟨q,hq,_,nq,dq⟩:=ht
 unfold Builtin.SmallTypes.nextOf
 refine wpAny_bind (wpAny_callSpecial?_slot (name:=Str.ofString "__next__") hj.typeIs F.slot_tuple_iterator_next (wpAny_call_entry F.slot_tuple_iterator_next hj.typeIs F.entry_tuple_iterator_next ?_ (F.args_tuple_iterator_next_1 _)))
 show wpAny _ _ (PySem.field (.ref j) 0 >>= _) _ _ s
 refine wpAny_bind (wpAny_field hr rd (x:=.ref t) rfl ?_);show wpAny _ _ (if (Value.ref t == Value.none)=true then _ else _) _ _ s
 rw [if_neg (fun z:(Value.ref t == Value.none)=true=>Bool.false_ne_true z)];show wpAny _ _ (PySem.field (.ref j) 1 >>= _) _ _ s
 refine wpAny_bind (wpAny_field hr rd (x:=.int i 0) rfl ?_);show wpAny _ _ (seqItems? (.ref t) >>= _) _ _ s
 refine wpAny_bind (wpAny_seqItems hq dq ?_);simp only [Int.toNat_natCast,hy]
 refine wpAny_bind (wpAny_setField hr rd (by simp) (wpAny_pure ⟨y,rfl,wpAny_pure (hQ _ ⟨_,Heap.get?_update_self _ hr (Obj.isFreed_of_fields (Obj.data_mapFields rd _)),(Obj.cls_mapFields ..).trans rc,by rw [Obj.data_mapFields rd];simp [rawInt]⟩ (Heap.SameBut.update ..))⟩))
theorem L6 {j t:Addr} {i:Nat} {ys:Array Value} {Q:Value->Shared->Prop} (hh:A.handled=none) (hj:s.heap.IsTupleIter j t i) (ht:s.heap.IsTuple t ys) (hy:ys[i]?=none)
  (hE:∀ h' e,Heap.ExtBut j s.heap h'->(∃ o,h'.get? e=some o/\o.cls=.type "StopIteration")->E (.ref e) { s with heap:=h' }):wpAny (model prog w) A (Builtin.SmallTypes.nextOf (.ref j)) Q E s:=by
 obtain ⟨r,hr,rc,rd⟩:=id hj
 obtain ⟨q,hq,_,nq,dq⟩:=ht
 unfold Builtin.SmallTypes.nextOf
 refine wpAny_bind (wpAny_callSpecial?_slot (name:=Str.ofString "__next__") hj.typeIs F.slot_tuple_iterator_next (wpAny_call_entry F.slot_tuple_iterator_next hj.typeIs F.entry_tuple_iterator_next ?_ (F.args_tuple_iterator_next_1 _)))
 show wpAny _ _ (PySem.field (.ref j) 0 >>= _) _ _ s
 refine wpAny_bind (wpAny_field hr rd (x:=.ref t) rfl ?_);show wpAny _ _ (if (Value.ref t == Value.none)=true then _ else _) _ _ s
 rw [if_neg (fun z:(Value.ref t == Value.none)=true=>Bool.false_ne_true z)];show wpAny _ _ (PySem.field (.ref j) 1 >>= _) _ _ s
 refine wpAny_bind (wpAny_field hr rd (x:=.int i 0) rfl ?_);show wpAny _ _ (seqItems? (.ref t) >>= _) _ _ s
 refine wpAny_bind (wpAny_seqItems hq dq ?_);simp only [Int.toNat_natCast,hy]
 refine wpAny_bind (wpAny_rule (wpAny_bind (wpAny_setField hr rd (by simp) ?_)));show wpAny _ _ (newExc (.type "StopIteration") [] >>= _) _ _ _
 refine wpAny_bind ?_;simp only [newExc,newTuple]
 refine wpAny_bind (wpAny_newObj_type ?_ (by size_fits));refine wpAny_bind (m:=firstArgMember _ _) (wpAny_of_eq (a:=Value.none) (by first | rfl | (simp only [firstArgMember];rfl)) ?_)
 refine wpAny_newObj_type ?_ (by size_fits);simp only [raiseNew]
 refine wpAny_bind (wpAny_handled ?_);first | rw [show A.in1.handled=none from hh] | rw [hh]
 exact wpAny_bind (wpAny_pure (wpAny_throw (hE _ _ (((Heap.SameBut.update ..).extBut.push _).push _) ⟨_,Heap.get?_push_size _ rfl,rfl⟩)))
end
theorem pY {prog:Program} {w:World} {A:Around} (hh:A.handled=none) (j t:Addr) (hne:t≠j) (ys:Array Value) :
  Draws prog w A j [j,t] ys.size (fun i v=>ys[i]?=some v) (fun i h=>h.IsTupleIter j t i/\h.IsTuple t ys) where
 live:=fun _ _ st=>let ⟨o,ho,_⟩:=st.1;⟨o,ho⟩
 frame:=fun _ _ _ st k=>⟨st.1.at fun o e=>k j (by simp) o e,let ⟨o,e,r⟩:=st.2;⟨o,k t (by simp) o e,r⟩⟩
 item:=fun i s Q E hi st hQ=>L5 st.1 st.2 (y:=ys[i]) (by simp [hi]) fun h' a b=>hQ _ h' s.toks (by simp [hi]) ⟨a,st.2.extBut b.extBut hne⟩ b
 done:=fun s Q E st hE=>L6 hh st.1 st.2 (by simp) hE
theorem L7 (l:Addr) (items:Array Value) (n:Nat) (dct:Option Addr) (sl:Array (Option Value)) :
  Meets (Builtin.«enumerate.__new__» ⟨[.type "enumerate",.ref l],[]⟩) (fun _ R s=>s.heap.get? l=some { cls:=.type "tuple",dict:=dct,data:=.seq items n,slots:=sl } /\
   R (.ok (.ret (.ref (s.heap.push { cls:=.type "tuple_iterator",data:=.fields #[.ref l,.int 0 0] }).objs.size)))
    { s with heap:=(s.heap.push { cls:=.type "tuple_iterator",data:=.fields #[.ref l,.int 0 0] }).push { cls:=.type "enumerate",data:=.fields #[.none,.bool false,.ref s.heap.objs.size,rawInt 0,.none,.none] } }) :=
 .of_wp fun prog w A R s h=>by
  obtain ⟨hp,g,d,tk,os⟩:=s;obtain ⟨hl,h⟩:=h
  have hsub:=sub_enumerate
  have hL:Heap.IsTuple (Shared.heap ⟨hp,g,d,tk,os⟩) l items:=⟨_,hl,rfl,n,rfl⟩
  wp_walk using AutoSeq1.wpAny_loadPart' hl
  refine wpAny_stack_any fun st=>wpAny_pure ?_
  split
  ·rename_i c _ _ _ _ _
   cases (c == Value.type "enumerate") <;> (wp_walk using AutoSeq1.wpAny_loadPart' hl,wpAny_pyIter_tuple hL;exact ⟨_,rfl,h⟩)
  ·wp_walk using AutoSeq1.wpAny_loadPart' hl,wpAny_pyIter_tuple hL
   exact ⟨_,rfl,h⟩
section
variable {prog:Program} {w:World} {A:Around} {E:Value->Shared->Prop} {s:Shared}
theorem L8 {l:Addr} {ys:Array Value} {Q:Value->Shared->Prop} (ht:s.heap.IsTuple l ys)
  (h:∀ h',IsEnum h' (s.heap.objs.size + 1) s.heap.objs.size 0 .none->h'.IsTupleIter s.heap.objs.size l 0->h'.objs.size=s.heap.objs.size + 2 ->
   (∀ b o,s.heap.get? b=some o->h'.get? b=some o)->Q (.ref (s.heap.objs.size + 1)) { s with heap:=h' }):wpAny (model prog w) A (call (.type "enumerate") [.ref l]) Q E s:=by
 obtain ⟨⟨c,dct,dt,sl⟩,hl,hc,n,hd⟩:=ht
 cases (show c=.type "tuple" from hc)
 cases (show dt=.seq ys n from hd)
 refine callType_new F.called_enumerate (by decide) (F.typeCall_enumerate_1 _) (F.newCall_enumerate_1 _) (fun obj=>F.args_object_init_2 obj _) F.entry_enumerate_new (L7 l ys n dct sl) ⟨hl,?_⟩
 have z:(s.heap.push { cls:=.type "tuple_iterator",data:=.fields #[.ref l,.int 0 0] }).objs.size=s.heap.objs.size + 1:=Heap.size_push ..
 show _/\_;rw [z]
 have en:IsEnum ((s.heap.push { cls:=.type "tuple_iterator",data:=.fields #[.ref l,.int 0 0] }).push { cls:=.type "enumerate",data:=.fields #[.none,.bool false,.ref s.heap.objs.size,rawInt 0,.none,.none] }) (s.heap.objs.size + 1) s.heap.objs.size 0 .none:=by
  have g:=Heap.get?_push_size (s.heap.push { cls:=.type "tuple_iterator",data:=.fields #[.ref l,.int 0 0] }) (o:={ cls:=.type "enumerate",data:=.fields #[.none,.bool false,.ref s.heap.objs.size,rawInt 0,.none,.none] }) rfl
  rw [z] at g
  exact g
 exact ⟨⟨_,en,rfl⟩,h _ en ⟨_,Heap.get?_push_of_some _ (Heap.get?_push_size _ rfl),rfl,rfl⟩ (by rw [Heap.size_push,z]) fun b o e=>Heap.get?_push_of_some _ (Heap.get?_push_of_some _ e)⟩
end
section
variable {X:Cx} {pins:List (Addr×Obj)} {σ:St} {H:Hp} {s:Shared} {h':Heap}
theorem Inv.rg {t':Nat} {ch:List Addr} (I:Inv X pins σ H s) (k:∀ b o,b ∉ ch->s.heap.get? b=some o->h'.get? b=some o) (f:∀ b∈ch,kr X pins H b):Inv X pins σ H { s with heap:=h',toks:=t' }:=by
 have ya:∀ b u,H b=some u->b ∉ ch:=fun b u e z=>by rw [(f b z).1] at e;cases e
 refine I.step (g':=s.gens) (d':=s.drawn) (ch:=ch) (fun b hb=>⟨(f b hb).2.2.2.1,(f b hb).2.1,(f b hb).2.2.2.2.1,(f b hb).2.2.2.2.2⟩) (fun b o _ _ hc e _=>k b o hc e) (fun b o _ _ hc e _=>⟨o.slots,k b o hc e⟩) (fun _ _ _ _ n=>n)
  (fun b o hc e=>⟨o,k b o hc e⟩) (fun _ _ e=>e) (fun _ _ _ e=>e) (fun b ps e=>⟨#[],by rw [e];simp⟩) (fun m hm=>?_) (fun b u e=>?_) I.bare
 ·obtain ⟨o,es,ep,ho,r⟩:=hm
  exact ⟨o,es,ep,k _ o (fun z=>(f _ z).2.1 rfl) ho,r⟩
 ·refine (I.hok b u e).stay (fun c v hc q=>k c v ?_ q) (fun _ q=>q) fun _ _ q=>q
  rcases hc with z | z
  ·rw [z];exact ya b u e
  ·exact ya c _ z
end
def Im (K:PySem.W.Frag) (a:Addr):It :=
 ⟨fun i H=>∃ xs x,eY K H a xs/\xs[i]?=some x,fun i H x H'=>∃ p y,x=.ref p/\H p=none/\H'=upd H p (.tup [.int i,y])/\∀ xs,eY K H a xs->xs[i]?=some y,fun i H=>∃ xs,eY K H a xs/\xs.length=i⟩
theorem L9 {P:Program} {w:World} {K:PySem.W.Frag} {es:List Expr} {x1} {pos:Pos} (a e it:Addr) (hne:e≠it) :
  Turn P w K (.Tuple es x1 pos) (Im K a) [e,it] e (fun i h=>(∃ old,IsEnum h e it i old)/\h.IsTupleIter it a i) where
 mem:=by simp
 obj:=fun i h st b hb=>by
  obtain ⟨⟨old,he⟩,o,e2,c,d⟩:=st
  rcases List.mem_cons.mp hb with rfl | hb
  ·exact ⟨_,he,fun v z=>by
    have z':Data.fields _=Data.cell v:=z
    cases z'⟩
  ·have q:b=it:=by simpa using hb
   subst q
   exact ⟨o,e2,fun v z=>by rw [d] at z;cases z⟩
 keep:=fun i h h' st k=>⟨let ⟨old,he⟩:=st.1;⟨old,k e (by simp) _ he⟩,st.2.at fun o q=>k it (by simp) o q⟩
 item:=by
  intro X hP hw hK hc i pins s σ H E I hf st hg
  subst hP hw hK
  obtain ⟨xs,x,hq,hx⟩:=hg
  obtain ⟨its,rv,p,hz⟩:=I.tuple hq
  obtain ⟨u,hu,ru⟩:=rv.get hx
  obtain ⟨⟨old,he⟩,hit⟩:=st
  have ht:s.heap.IsTuple a its.toArray:=p
  have Fc:a≠it:=fun z=>by
   obtain ⟨o,e1,c1,_⟩:=hit
   obtain ⟨o2,e2,c2,_⟩:=ht
   rw [z,e1] at e2;cases e2
   exact absurd (c1.symm.trans c2) (by simp)
  have Ma:e≠a:=fun z=>by
   obtain ⟨o2,e2,c2,_⟩:=ht
   rw [<- z,he] at e2;cases e2
   exact absurd c2 (by simp)
  have hl:=rv.length
  have hi:i < its.toArray.size:=by
   have:=List.getElem?_eq_some_iff.mp hu
   obtain ⟨q,_⟩:=this
   simpa using q
  refine wpAny_pyNext_enum_itemD (pY (A:=X.A.in1) (I.ok.hd hc) it a Fc its.toArray) he ⟨hit,ht⟩ hi hne (by simp [hne,Ma]) fun y h1 tk hy ho hst hT hsz kk=>?_
  have ey:y=u:=by
   have:its.toArray[i]?=some u:=by simpa using hu
   exact Option.some.inj (hy.symm.trans this)
  subst ey
  refine ⟨_,rfl,wpAny_letOwnedTupleGo_enum ho fun h2 Mb sb=>?_⟩
  have hel:@LT.lt Nat _ e s.heap.objs.size:=Heap.lt_size he
  have hil:@LT.lt Nat _ it s.heap.objs.size:=by obtain ⟨o,e1,_⟩:=hit;exact Heap.lt_size e1
  have Mc:H s.heap.objs.size=none:=I.hok.fresh (Nat.le_refl _)
  have sb':Heap.SameBut e h1 h2:=sb
  have I1:Inv X pins σ (upd H s.heap.objs.size (.tup [.int i,x])) { s with heap:=s.heap.push { cls:=.type "tuple",data:=.seq #[.int i tk,y] },toks:=s.toks } :=
   I.laid (fun b u e=>Heap.get?_push_of_some _ e) (Nat.le_refl _) ⟨(by decide:2<=sizeLine),[.int i tk,y],.cons ⟨tk,rfl⟩ (.cons ru .nil),⟨_,Heap.get?_push_size _ rfl,rfl,rfl,_,rfl⟩⟩
  have nn:∀ b∈[e,it],@LT.lt Nat _ b s.heap.objs.size:=fun b hb=>by
   rcases List.mem_cons.mp hb with rfl | hb
   ·exact hel
   ·have q:b=it:=by simpa using hb
    rw [q];exact hil
  have hn:∀ b∈[e,it],upd H s.heap.objs.size (.tup [.int i,x]) b=none:=fun b hb=>by
   unfold upd
   rw [if_neg (Nat.ne_of_lt (nn b hb))]
   exact (hf b hb).1
  have I2:Inv X pins σ (upd H s.heap.objs.size (.tup [.int i,x])) { s with heap:=h2,toks:=tk + 1 }:=by
   refine Inv.rg (s:={ s with heap:=s.heap.push { cls:=.type "tuple",data:=.seq #[.int i tk,y] },toks:=s.toks }) (h':=h2) I1 (ch:=[e,it]) (t':=tk + 1) (fun b o hb q=>?_) fun b hb=>⟨hn b hb,(hf b hb).2⟩
   have nb:b≠e/\b≠it:=by simpa using hb
   refine (sb'.2 b nb.1).trans ?_
   rcases Heap.get?_push_cases q with ⟨rfl,rfl⟩ | q
   ·exact hT
   ·exact kk b o nb.1 nb.2 q
  refine ⟨.ref s.heap.objs.size,_,I2,rfl,⟨_,x,rfl,Mc,rfl,fun ys rh=>by rw [I.gy rh hq];exact hx⟩,⟨⟨y,?_⟩,?_⟩,hn⟩
  ·have:((i + 1:Nat):Int)=(i:Int) + 1:=by omega
   rw [this];exact Mb
  ·exact hst.1.extBut sb'.extBut (Ne.symm hne)
 done:=by
  intro X hP hw hK hc i pins s σ H E I hf st hg
  subst hP hw hK
  obtain ⟨xs,hq,hx⟩:=hg
  obtain ⟨its,rv,p,hz⟩:=I.tuple hq
  obtain ⟨⟨old,he⟩,hit⟩:=st
  have ht:s.heap.IsTuple a its.toArray:=p
  have Fc:a≠it:=fun z=>by
   obtain ⟨o,e1,c1,_⟩:=hit
   obtain ⟨o2,e2,c2,_⟩:=ht
   rw [z,e1] at e2;cases e2
   exact absurd (c1.symm.trans c2) (by simp)
  have hl:=rv.length
  have ei:its.toArray.size=i:=by simp;omega
  refine wpAny_pyNext_enum_endD (pY (A:=X.A.in1) (I.ok.hd hc) it a Fc its.toArray) he (by rw [ei];exact ⟨hit,ht⟩) fun h1 eb=>⟨rfl,?_⟩
  obtain ⟨f0,f1,f2,f3,f4,f5⟩:=hf it (by simp)
  exact I.turned (t':=s.toks) (fun b o hb q=>eb b o hb q) f0 f1 f3 f4 f5
 self:=fun _ _ _ _ _ st h=>let ⟨_,he⟩:=st.1;wpAny_pyIter_enum he h
def sE (K:PySem.W.Frag) (ta:TA):TI:=fun σ H R=>ta σ H fun vs H1=>∃ a,vs=[.ref a]/\(∃ xs,eY K H1 a xs)/\R (Im K a) H1
theorem Io {X:Cx} {es:List Expr} {x1} {p0:Pos} {l:Expr} {ta:TA} {p pos:Pos} (hg:Gl X "enumerate") (hm:X.mg "enumerate" = none) (ha:PA X [l] ta) (hs:starEach [l] X.env=[(false,eval l X.env)]:=by rfl) :
  PI X (.Tuple es x1 p0) (.Call (.Name "enumerate" p) [l] [] pos) (sE X.K ta):=by
 intro pins s σ H R I h
 refine Call_ (yd I hg hm boot_enumerate (PyProof.Rows.callWith_type1 (cB (ha pos pins s σ H _ I h) fun us s1 ⟨vs,H1,I1,r1,q1⟩=>?_) hs rfl))
 obtain ⟨a,e,⟨xs,hq⟩,q⟩:=q1
 subst e
 cases r1 with
 | cons r rr =>
  cases rr
  cases r
  obtain ⟨its,rv,p,hz⟩:=I1.tuple hq
  refine L8 (show s1.heap.IsTuple a its.toArray from p) fun h1 he hi hsz kk=>?_
  refine wpAny_pyIter_enum he ?_
  refine ⟨s1.heap.objs.size + 1,[s1.heap.objs.size + 1,s1.heap.objs.size],_,_,H1,rfl,I1.kept (t':=s1.toks) kk,L9 a _ _ (Nat.succ_ne_self _),⟨⟨_,he⟩,hi⟩,fun b hb=>?_,q⟩
  have hb':@LE.le Nat _ s1.heap.objs.size b:=by
   rcases List.mem_cons.mp hb with rfl | hb
   ·exact Nat.le_succ _
   ·have e:b=s1.heap.objs.size:=by simpa using hb
    rw [e];exact Nat.le_refl _
  exact I1.nU hb' (I1.hok.fresh hb')
end L2
namespace L2
open PySem PySem.Spec PyProof.Rows
section
open Sem (wp)
open PySem.AutoSeq1 (wpAny_loadPart')
open PySem.MeetsSeq PySem.MeetsSeq2 PySem.MeetsSeq3
theorem IntsAre.get {vs:List Value} {ns:List Int} (h:IntsAre vs ns):∀ {i:Nat} {n:Int},ns[i]?=some n->∃ t,vs[i]?=some (.int n t):=by
 induction h with
 | nil=>intro i n e;simp at e
 | cons a t h ih =>
  intro i n e
  cases i with
  | zero=>exact ⟨t,by simpa using e⟩
  | succ i=>simpa using ih (by simpa using e)
theorem pZ (l:Addr) (items:Array Value) (n:Nat) (dd:Option Addr) (sl:Array (Option Value)) (ns:List Int) (hi:IntsAre items.toList ns) (v:Int) (t:Tok) (j:Nat) (hj:ns[j]?=some v) (hb:∀ i,i < j->ns[i]?≠some v) :
  Meets (Builtin.«tuple.index» ⟨[.ref l,.int v t],[]⟩)
   (fun _ R s=>s.heap.get? l=some { cls:=.type "tuple",dict:=dd,data:=.seq items n,slots:=sl }/\R (.ok (.ret (.int (j:Int) s.toks))) { s with toks:=s.toks + 1 }) :=
 .of_wp fun prog w A R s h=>by
  obtain ⟨hp,g,d,tk,os⟩:=s;obtain ⟨hl,h⟩:=h
  have z1:items.size=ns.length:=by rw [<- hi.length];simp
  have hjl:j < ns.length:=(List.getElem?_eq_some_iff.mp hj).1
  wp_walk using wpAny_loadPart' hl
  have key:wpAny (model prog w) A.in1 (forIn (m:=Sem) [:min items.size items.size] ((none,()):Option Fin×Unit) (fun (i:Nat) _ =>
    match items[i]? with
    | some y=>do
     let b <- eqBool y (Value.int v t)
     if b=true then do
      let r <- retInt (i:Int)
      pure (ForInStep.done (some r,()))
     else pure (ForInStep.yield (none,()))
    | _=>pure (ForInStep.yield (none,()))))
   (fun a s'=>a.1=some (.done (.ret (.int (j:Int) tk)))/\s'=⟨hp,g,d,tk + 1,os⟩) (fun e s'=>R (Except.error e) s') ⟨hp,g,d,tk,os⟩:=by
   rw [Std.Legacy.Range.forIn_eq_forIn_range']
   have ez:([:min items.size items.size]:Std.Legacy.Range).size=ns.length:=by
    simp [Std.Legacy.Range.size,z1]
   rw [ez]
   refine wpAny_forIn_list _ (fun rest b s'=>b.1=none/\s'=⟨hp,g,d,tk,os⟩/\∃ k,k<=j/\rest=List.range' k (ns.length - k) 1) _ ?_ ?_ _ _ ⟨rfl,rfl,0,Nat.zero_le _,by simp⟩
   ·rintro x rest b s' ⟨hb',rfl,k,hk,e⟩
    have el:ns.length - k=(ns.length - (k + 1)) + 1:=by omega
    rw [el,List.range'_succ] at e
    injection e with e1 e2
    subst e1
    have mL:x < ns.length:=by omega
    obtain ⟨t',ht'⟩:=IntsAre.get hi (List.getElem?_eq_getElem mL)
    have Md:items[x]?=some (.int ns[x] t'):=by rw [<- ht',Array.getElem?_toList]
    simp only [Md]
    obtain ⟨e,he,hiff⟩:=HT.Le A.in1 ⟨hp,g,d,tk,os⟩ ns[x] t' v t
    refine wpAny_bind (he prog w _ _ ?_)
    cases e with
    | true =>
     have ev:ns[x]=v:=hiff.mp rfl
     have Me:x=j:=by
      rcases Nat.lt_or_ge x j with h' | h'
      ·exact absurd (by rw [List.getElem?_eq_getElem mL,ev]) (hb x h')
      ·omega
     subst Me
     wp_walk
     first | exact ⟨rfl,rfl⟩ | trivial
    | false =>
     have ev:ns[x]≠v:=fun q=>absurd (hiff.mpr q) Bool.false_ne_true
     have:x≠j:=fun z=>ev (by subst z;rw [List.getElem?_eq_getElem mL] at hj;exact Option.some.inj hj)
     wp_walk
     exact ⟨rfl,rfl,x + 1,by omega,e2⟩
   ·rintro b s' ⟨hb',rfl,k,hk,e⟩
    have:(List.range' k (ns.length - k) 1).length=0:=by rw [<- e];rfl
    rw [List.length_range'] at this
    omega
  refine wpAny_mono key (fun a s' ha=>?_) (fun _ _ z=>z)
  obtain ⟨ha,rfl⟩:=ha
  obtain ⟨a1,a2⟩:=a
  cases (show a1=_ from ha)
  exact wpAny_pure ⟨_,rfl,h⟩
end
section
variable {X:Cx} {K:PySem.W.Frag}
def nZ (K:PySem.W.Frag):V->List V->Hp->VK->Prop:=fun x vs H Q=>∃ (a:Addr) (ns:List Int) (v:Int) (j:Nat),x=.ref a/\vs=[.int v]/\eY K H a (ns.map V.int)/\ns[j]?=some v/\(∀ i,i < j->ns[i]?≠some v)/\Q (.int (j:Int)) H
theorem Mf:xg X "tuple.index" (nZ X.K):=by
 intro pins s σ H x xs v us Q I rx rv h
 obtain ⟨a,ns,y,j,rfl,rfl,hq,hj,hb,q⟩:=h
 cases rx
 obtain ⟨u,rfl,t,rfl⟩:=vals1 rv
 obtain ⟨its,r,⟨⟨c,dd,dt,sl⟩,e,hc,hd,n,hdt⟩,hz⟩:=I.nS hq
 cases (show c=.type "tuple" from hc)
 cases (show dt=.seq its.toArray n from hdt)
 refine call_meets F.slot_tuple_index ⟨_,e,rfl⟩ F.entry_tuple_index (F.args_tuple_index_2 _ _) (pZ a its.toArray n dd sl ns (by simpa using Hz r) y t j hj hb) ⟨e,?_⟩
 exact ⟨.int j,H,I.tok _,⟨_,rfl⟩,q⟩
theorem Ip (hK:X.K=K):xg X "tuple.index" (nZ K):=by subst hK;exact Mf
theorem Fe {o e:Expr} {es:List Expr} {to:TE} {t:TA} {name:Str} {apos cpos:Pos} {T id:String} {r:V->List V->Hp->VK->Prop} (hK:X.K=K) (pa:PlainAttrs T) (slot:Slot T name id) (hty:typeOf (.builtin id)=pure (.type "method_descriptor")) (hm:xg X id r) (ho:PE X o to) (ha:PA X (e :: es) t)
  (hbase:attributeBase o name X.env (eval o X.env)=eval o X.env:=by rfl)
  (hfew:((backTo cpos (starEach (e :: es) X.env)).all (fun x=>!x.1) && (backToKw cpos (keywordEach [] X.env)).all (fun x=>x.1.isSome)
   && decide ((e :: es).length + ([]:List Keyword).length + (if ([]:List Keyword).isEmpty then 0 else 1) < 30))=true:=by rfl)
  (hline:(apos.endLine == cpos.line)=true:=by rfl) (hs:starEach (e :: es) X.env=(false,eval e X.env) :: starEach es X.env:=by rfl) (hplain:(backTo cpos (starEach es X.env)).any (·.1)=false:=by rfl) :
  PE X (.Call (.Attribute o name apos) (e :: es) [] cpos) (EM K T r to t):=by subst hK;exact qB pa slot hty hm ho ha hbase hfew hline hs hplain
end
end L2
namespace L2
open PySem PySem.Spec PyProof.Rows
open Builtin.Str
section
variable {X:Cx} {K:PySem.W.Frag}
end
section
variable {X:Cx} {tg:Expr}
end
end L2
namespace L2
open PySem PySem.Spec PyProof.Rows
open Builtin.Str
section
variable {prog:Program} {w:World} {A:Around} {E:Value->Shared->Prop} {s:Shared}
end
set_option genInjectivity false in
inductive ZS where
 | tup (a:Addr) | lst (a:Addr) | str (x:Str)
def ZS.it (j:Addr) (i:Nat) (h:Heap):ZS->Prop
 | .tup a=>h.IsTupleIter j a i
 | .lst a=>h.IsListIter j a i
 | .str x=>∃ t,h.IsStrIter j "str_ascii_iterator" x t i\/h.IsStrIter j "str_iterator" x t i
def ZS.has (K:PySem.W.Frag) (H:Hp) (i:Nat) (v:V):ZS->Prop
 | .tup a=>∃ xs,eY K H a xs/\xs[i]?=some v
 | .lst a=>∃ xs,jB K H a xs/\xs[i]?=some v
 | .str x=>∃ c,x.cps[i]?=some c/\v=.str ⟨#[c]⟩
def ZS.fin (K:PySem.W.Frag) (H:Hp) (i:Nat):ZS->Prop
 | .tup a=>∃ xs,eY K H a xs/\xs.length=i
 | .lst a=>∃ xs,jB K H a xs/\xs.length=i
 | .str x=>x.cps.size=i
section
variable {X:Cx} {pins:List (Addr×Obj)} {σ:St} {H:Hp} {s:Shared}
end
theorem ZS.rj {X:Cx} {pins:List (Addr×Obj)} {σ:St} {H:Hp} {s:Shared} {src:ZS} {i:Nat} {x y:V} (I:Inv X pins σ H s) (a:src.has X.K H i x) (b:src.has X.K H i y):y=x:=by
 cases src with
 | tup p =>
  obtain ⟨xs,h1,e1⟩:=a
  obtain ⟨ys,h2,e2⟩:=b
  rw [I.gy h2 h1] at e2
  rw [e1] at e2
  exact (Option.some.inj e2).symm
 | lst p =>
  obtain ⟨xs,h1,e1⟩:=a
  obtain ⟨ys,h2,e2⟩:=b
  rw [I.nD h2 h1] at e2
  rw [e1] at e2
  exact (Option.some.inj e2).symm
 | str z =>
  obtain ⟨c,h1,rfl⟩:=a
  obtain ⟨d,h2,rfl⟩:=b
  rw [h1] at h2
  cases h2
  rfl
def ZS.val (K:PySem.W.Frag) (H:Hp) (x:V):ZS->Prop
 | .tup a=>x=.ref a/\∃ xs,eY K H a xs
 | .lst a=>x=.ref a/\∃ xs,jB K H a xs
 | .str z=>x=.str z
end L2
namespace L2
open PySem PySem.Spec PyProof.Rows
section
variable {X:Cx} {K:PySem.W.Frag}
end
end L2
namespace L2
open PySem PySem.Spec PyProof.Rows
open Builtin.Str
theorem yW:Slot "reversed" "__next__" "reversed.__next__" :=
 .of (owner:="reversed") (n:="__next__") (by rw [typeLookup_type,builtinLookup_eq_fast];kernel_rfl) (by decide +kernel) (by decide +kernel) (by decide +kernel)
  (by first | exact .inl (by decide +kernel) | exact .inr (by decide +kernel)) (by rw [isSubtype_type];kernel_rfl)
theorem Iq:Slot "reversed" "__iter__" "reversed.__iter__" :=
 .of (owner:="reversed") (n:="__iter__") (by rw [typeLookup_type,builtinLookup_eq_fast];kernel_rfl) (by decide +kernel) (by decide +kernel) (by decide +kernel)
  (by first | exact .inl (by decide +kernel) | exact .inr (by decide +kernel)) (by rw [isSubtype_type];kernel_rfl)
theorem Ir:entryFor table "reversed.__next__" = some Builtin.«reversed.__next__»:=entryFor_of_tree (by kernel_rfl)
theorem Iu (a:Value):argsOk "reversed.__next__" ⟨[a],[]⟩:=by unfold argsOk;kernel_rfl
theorem Mg:entryFor table "reversed.__iter__" = some Builtin.«dict_keyiterator.__iter__» :=
 entryFor_alias (id':="dict_keyiterator.__iter__") (by kernel_rfl) (by first | rfl | decide +kernel) (by decide +kernel) (by kernel_rfl)
theorem Mh (a:Value):argsOk "reversed.__iter__" ⟨[a],[]⟩:=by unfold argsOk;kernel_rfl
theorem Mi:typeLookup (.type "tuple") "__reversed__" = pure none:=by rw [typeLookup_type,builtinLookup_eq_fast];kernel_rfl
theorem Mj:typeLookup (.type "str") "__reversed__" = pure none:=by rw [typeLookup_type,builtinLookup_eq_fast];kernel_rfl
def kA (h:Heap) (a:Addr) (v:Value) (i:Int):Prop:=∃ o,h.get? a=some o/\o.cls=.type "reversed" /\ o.data=.fields #[v,rawInt i]
theorem kA.at {h h':Heap} {a:Addr} {v:Value} {i:Int} (x:kA h a v i) (e:∀ o,h.get? a=some o->h'.get? a=some o):kA h' a v i:=let ⟨o,ho,r⟩:=x;⟨o,e _ ho,r⟩
section
variable {prog:Program} {w:World} {A:Around} {E:Value->Shared->Prop} {s:Shared}
theorem kA.typeIs {a:Addr} {v:Value} {i:Int} (x:kA s.heap a v i):s.TypeIs (.ref a) "reversed" := let ⟨o,ho,hc,_⟩:=x;⟨o,ho,hc⟩
theorem Iv {it:Addr} {v:Value} {i:Int} {Q:Value->Shared->Prop} (hit:kA s.heap it v i) (h:Q (.ref it) s):wpAny (model prog w) A (pyIter (.ref it)) Q E s:=by
 refine wpAny_pyIter_slot hit.typeIs Iq (wpAny_call_entry Iq hit.typeIs Mg ?_ (Mh _))
 show wpAny _ _ (ret (.ref it)) _ _ s
 exact wpAny_pure ⟨_,rfl,"reversed",_,hit.typeIs,yW.lookup,h⟩
theorem Mk {it:Addr} {T gid:String} {v:Value} {y:Value->Prop} {i:Nat} {Q:Option Value->Shared->Prop} (hit:kA s.heap it v (i:Int)) (hT:s.TypeIs v T) (hg:typeLookup (.type T) "__getitem__" = pure (some (.builtin gid)))
  (hget:∀ (A':Around) (E':Value->Shared->Prop) (Q':Value->Shared->Prop) (tk:Tok) (n:Nat),(∀ z k,y z->Q' z { s with toks:=k })->wpAny (model prog w) A' (getItem v (.int i tk)) Q' E' { s with toks:=n })
  (hQ:∀ x h' k,y x->kA h' it v ((i:Int) - 1)->Heap.SameBut it s.heap h'->Q (some x) { s with heap:=h',toks:=k }):wpAny (model prog w) A (pyNext (.ref it)) Q E s:=by
 obtain ⟨o,ho,hc,hd⟩:=id hit
 unfold pyNext
 refine wpAny_bind (wpAny_attempt (wpAny_callSpecial?_slot (name:=Str.ofString "__next__") hit.typeIs yW
  (wpAny_call_entry yW hit.typeIs Ir ?_ (Iu _))))
 unfold Builtin.«reversed.__next__»
 refine wpAny_bind (wpAny_of_eq (a:=(Value.ref it,[])) rfl ?_)
 try dsimp only
 refine wpAny_bind (wpAny_field ho hd (x:=v) rfl ?_)
 refine wpAny_bind (wpAny_field ho hd (x:=rawInt (i:Int)) rfl ?_)
 show wpAny _ _ (if (i:Int) < 0 then _ else _) _ _ s
 rw [if_neg (by omega)]
 refine wpAny_bind (wpAny_specialOf hT hg ?_)
 try dsimp only
 rw [if_neg (by simp)]
 refine wpAny_bind (wpAny_mkInt ?_)
 refine wpAny_bind (wpAny_attempt (hget _ _ _ _ _ fun x k hx=>?_))
 show wpAny _ _ (field (.ref it) 1 >>= _) _ _ _
 refine wpAny_bind (wpAny_field ho hd (x:=rawInt (i:Int)) rfl ?_)
 refine wpAny_bind (wpAny_setField ho hd (by simp) ?_)
 first
 | refine wpAny_pure ⟨x,rfl,wpAny_pure (hQ _ _ _ hx ?_ (Heap.SameBut.update ..))⟩
 | refine wpAny_pure ⟨x,rfl,wpAny_bind (wpAny_pure (wpAny_pure (hQ _ _ _ hx ?_ (Heap.SameBut.update ..))))⟩
 exact ⟨_,Heap.get?_update_self _ ho (Obj.isFreed_of_fields (Obj.data_mapFields hd _)),(Obj.cls_mapFields ..).trans hc,by rw [Obj.data_mapFields hd];simp [rawInt]⟩
theorem Ml {it:Addr} {v:Value} {i:Int} {Q:Option Value->Shared->Prop} (hh:A.handled=none) (hit:kA s.heap it v i) (hi:i < 0)
  (hQ:∀ h',Heap.ExtBut it s.heap h'->Q none { s with heap:=h' }):wpAny (model prog w) A (pyNext (.ref it)) Q E s:=by
 obtain ⟨o,ho,hc,hd⟩:=id hit
 unfold pyNext
 refine wpAny_bind (wpAny_attempt (wpAny_callSpecial?_slot (name:=Str.ofString "__next__") hit.typeIs yW
  (wpAny_call_entry yW hit.typeIs Ir ?_ (Iu _))))
 unfold Builtin.«reversed.__next__»
 refine wpAny_bind (wpAny_of_eq (a:=(Value.ref it,[])) rfl ?_)
 try dsimp only
 refine wpAny_bind (wpAny_field ho hd (x:=v) rfl ?_)
 refine wpAny_bind (wpAny_field ho hd (x:=rawInt i) rfl ?_)
 show wpAny _ _ (if i < 0 then _ else _) _ _ s
 rw [if_pos hi]
 refine wpAny_bind (wpAny_rule ?_)
 refine wpAny_bind ?_
 show wpAny _ _ (setField (.ref it) 1 (rawInt (-1)) >>= fun _=>setField (.ref it) 0 .none) _ _ _
 refine wpAny_bind (wpAny_setField ho hd (by simp) ?_)
 have Mm:=Heap.get?_update_self (Obj.mapFields fun x=>x.setIfInBounds 1 (rawInt (-1))) ho (Obj.isFreed_of_fields (Obj.data_mapFields hd _))
 have hd1:=Obj.data_mapFields hd (fun x=>x.setIfInBounds 1 (rawInt (-1)))
 refine wpAny_setField Mm hd1 (by simp) ?_
 first
 | show wpAny _ _ (newExc (.type "StopIteration") [] >>= _) _ _ _
 | (refine wpAny_bind ?_;show wpAny _ _ (newExc (.type "StopIteration") [] >>= _) _ _ _)
 refine wpAny_bind ?_
 simp only [newExc,newTuple]
 refine wpAny_bind (wpAny_newObj_type ?_ (by size_fits))
 refine wpAny_bind (m:=firstArgMember _ _) (wpAny_of_eq (a:=Value.none) (by first | rfl | (simp only [firstArgMember];rfl)) ?_)
 refine wpAny_newObj_type ?_ (by size_fits)
 simp only [raiseNew]
 refine wpAny_bind (wpAny_handled ?_)
 first | rw [show A.in1.handled=none from hh] | rw [hh]
 refine wpAny_bind (wpAny_pure (wpAny_throw ?_))
 refine wpAny_bind (wpAny_isInstance (T:="StopIteration") (b:=true) ⟨_,Heap.get?_push_size _ rfl,rfl⟩ isSubtype_stop ?_)
 refine wpAny_pure (hQ _ ?_)
 have x2:Heap.ExtBut it s.heap ((s.heap.update it (Obj.mapFields fun x=>x.setIfInBounds 1 (rawInt (-1)))).update it (Obj.mapFields fun x=>x.setIfInBounds 0 .none)):=fun c o hc e=>(Heap.SameBut.update ..).extBut c o hc ((Heap.SameBut.update ..).extBut c o hc e)
 exact (x2.push _).push _
end
def Iw (K:PySem.W.Frag) (src:ZS) (n:Nat):It:=⟨fun i H=>i < n/\∃ v,src.has K H (n - 1 - i) v,fun i H x H'=>H'=H/\∀ v,src.has K H (n - 1 - i) v->v=x,fun i _=>i=n⟩
theorem ZS.got {X:Cx} {pins:List (Addr×Obj)} {σ:St} {H:Hp} {s:Shared} {src:ZS} {u:Value} {x:V} {i:Nat} {v:V} (I:Inv X pins σ H s) (r:RelV x u) (hv:src.val X.K H x) (nl:∀ a,src≠.lst a) (hs:∀ z,src=.str z->z.length<=sizeLine) (h:src.has X.K H i v) :
  ∃ (T gid:String) (y:Value->Prop),s.TypeIs u T/\typeLookup (.type T) "__getitem__" = pure (some (.builtin gid))/\(∀ z,y z->RelV v z) /\
   ∀ (A':Around) (E':Value->Shared->Prop) (Q':Value->Shared->Prop) (tk:Tok) (n:Nat),(∀ z k,y z->Q' z { s with toks:=k })->wpAny (model X.prog X.w) A' (getItem u (.int i tk)) Q' E' { s with toks:=n }:=by
 have hn:=ky
 cases src with
 | lst a=>exact absurd rfl (nl a)
 | tup a =>
  obtain ⟨rfl,xs,hq⟩:=hv
  obtain ⟨xs',hq',hx⟩:=h
  rw [I.gy hq' hq] at hx
  cases r
  obtain ⟨its,rv,pl,hz⟩:=I.tuple hq
  obtain ⟨w,ew,rw'⟩:=rv.get hx
  have hl:=rv.length
  have hi:=(List.getElem?_eq_some_iff.mp hx).1
  refine ⟨"tuple",_,fun z=>z=w,pl.typeIs,slot_tuple_getitem.lookup,fun z e=>e ▸ rw',fun A' E' Q' tk n hq'=>?_⟩
  exact getItem_tuple (s:={ s with toks:=n }) (j:=i) pl (by omega) (by omega) (by rw [List.size_toArray];exact seqIndex_of (by omega) (by omega)) (by simpa using ew) (hq' w n rfl)
 | str z =>
  cases hv
  obtain ⟨c,hx,rfl⟩:=h
  obtain ⟨t,rfl⟩:=r
  have hi:=(Array.getElem?_eq_some_iff.mp hx).1
  have hl:z.length=z.cps.size:=rfl
  have RL:=hs z rfl
  refine ⟨"str",_,fun y=>∃ t,y=.str ⟨#[c]⟩ t,typeIs_str s z t,slot_str_getitem.lookup,fun y hy=>hy,fun A' E' Q' tk n hq'=>?_⟩
  refine getItem_str (s:={ s with toks:=n }) (c:=c) (by
   have e1:decide ((i:Int) < -(2 ^ 63:Int))=false:=decide_eq_false (by omega)
   have e2:decide ((i:Int) >= 2 ^ 63)=false:=decide_eq_false (by omega)
   rw [e1,e2,Bool.or_false]) (by rw [seqIndex_of (by omega) (by omega)];simpa using hx) (hq' _ _ ⟨_,rfl⟩)
theorem Mp {P:Program} {w:World} {K:PySem.W.Frag} {tg:Expr} (src:ZS) (u:Value) (n:Nat) (it:Addr) (nl:∀ a,src≠.lst a) (hs:∀ z,src=.str z->z.length<=sizeLine) (x:V) (rx:RelV x u) (hsv:∀ (H:Hp) (v:V) (i:Nat),src.has K H i v->src.val K H x) :
  Turn P w K tg (Iw K src n) [it] it (fun i h=>kA h it u ((n:Int) - 1 - (i:Nat))) where
 mem:=by simp
 obj:=fun i h st b hb=>by
  have e:b=it:=by simpa using hb
  subst e
  obtain ⟨o,e,c,d⟩:=st
  exact ⟨o,e,fun v z=>by rw [d] at z;cases z⟩
 keep:=fun i h h' st k=>st.at fun o e=>k it (by simp) o e
 item:=by
  intro X hP hw hK hc i pins s σ H E I hf st hg
  subst hP hw hK
  obtain ⟨hin,v,hv⟩:=hg
  obtain ⟨f0,f1,f2,f3,f4,f5⟩:=hf it (by simp)
  obtain ⟨T,gid,y,hT,hl,hy,hget⟩:=ZS.got I rx (hsv H v _ hv) nl hs hv
  have st':kA s.heap it u ((n - 1 - i:Nat):Int):=by
   have e:((n - 1 - i:Nat):Int)=(n:Int) - 1 - (i:Nat):=by omega
   rw [e];exact st
  refine Mk st' hT hl hget fun z h' tk hz hr sb=>?_
  have I1:Inv X pins σ H { s with heap:=h',toks:=tk }:=I.turned (fun b o hb e=>(sb.2 b hb).trans e) f0 f1 f3 f4 f5
  have hr':kA h' it u ((n:Int) - 1 - ((i + 1:Nat):Int)):=by
   have e:(n:Int) - 1 - ((i + 1:Nat):Int)=((n - 1 - i:Nat):Int) - 1:=by omega
   rw [e];exact hr
  obtain ⟨o,e,c,d⟩:=id hr
  exact ⟨z,rfl,B2 (s:={ s with heap:=h',toks:=tk }) e c d (by decide) ⟨v,H,I1,hy z hz,⟨rfl,fun v' hv'=>ZS.rj I hv hv'⟩,hr',fun b hb=>(hf b hb).1⟩⟩
 done:=by
  intro X hP hw hK hc i pins s σ H E I hf st hg
  subst hP hw hK
  have hg:i=n:=hg
  subst hg
  obtain ⟨f0,f1,f2,f3,f4,f5⟩:=hf it (by simp)
  exact Ml (I.ok.hd hc) st (by omega) fun h' eb=>⟨rfl,I.turned (t':=s.toks) (fun b o hb e=>eb b o hb e) f0 f1 f3 f4 f5⟩
 self:=fun _ _ _ _ _ st h=>Iv st h
theorem Mq:Slot "reversed" "__init__" "object.__init__" :=
 .of (owner:="object") (n:="__init__") (by rw [typeLookup_type,builtinLookup_eq_fast];kernel_rfl) (by decide +kernel) (by decide +kernel) (by decide +kernel)
  (by first | exact .inl (by decide +kernel) | exact .inr (by decide +kernel)) (by rw [isSubtype_type];kernel_rfl)
theorem Iy:TypeCalled "reversed" "reversed.__new__" "object.__init__" :=
 ⟨by decide +kernel,by decide +kernel,⟨_,_,F.mro_reversed⟩,F.made_reversed,by decide +kernel,by rw [isSubtype_type];kernel_rfl,Mq⟩
theorem Iz {u:Value} {T gid:String} {n:Nat} (h0:typeLookup (.type T) "__reversed__" = pure none) (h1:typeLookup (.type T) "__getitem__" = pure (some (.builtin gid))) (hsub:isSubtype (.type T) (.type "dict")=pure false)
  (Ff:["tuple.__getitem__","str.__getitem__","bytes.__getitem__","bytearray.__getitem__","memoryview.__getitem__","numpy.ndarray.__getitem__","sqlite3.Row.__getitem__"].contains gid=true) :
  Meets (Builtin.«reversed.__new__» ⟨[.type "reversed",u],[]⟩) (fun _ R s=>s.TypeIs u T /\
   (∀ (prog:Program) (w:World) (A':Around) (E':Value->Shared->Prop) (Q':Value->Shared->Prop),(∀ t k,Q' (.int n t) { s with toks:=k })->wpAny (model prog w) A' (call (.builtin "len") [u]) Q' E' s) /\
   ∀ k,R (.ok (.ret (.ref s.heap.objs.size))) { s with heap:=s.heap.push { cls:=.type "reversed",data:=.fields #[u,rawInt ((n:Int) - 1)] },toks:=k }) :=
 .of_wp fun prog w A R s h=>by
 obtain ⟨hT,hlen,h⟩:=h
 unfold Builtin.«reversed.__new__»
 refine wpAny_bind (wpAny_of_eq (newClass_reversed _) ?_)
 try dsimp only
 refine wpAny_bind (wpAny_of_eq (a:=()) (by first | rfl | kernel_rfl) ?_)
 refine wpAny_bind (wpAny_of_eq (a:=()) (by first | rfl | kernel_rfl) ?_)
 try dsimp only
 refine wpAny_bind (wpAny_specialOf hT h0 ?_)
 try dsimp only
 refine wpAny_bind ?_
 show wpAny _ _ (isInstance u (.type "dict") >>= _) _ _ _
 refine wpAny_bind (wpAny_isInstance (b:=false) hT hsub ?_)
 rw [if_neg Bool.false_ne_true]
 refine wpAny_bind (wpAny_specialOf hT h1 ?_)
 show wpAny _ _ (if ["tuple.__getitem__","str.__getitem__","bytes.__getitem__","bytearray.__getitem__","memoryview.__getitem__","numpy.ndarray.__getitem__","sqlite3.Row.__getitem__"].contains gid=true then _ else _) _ _ _
 rw [if_pos Ff]
 refine wpAny_pure ?_
 rw [if_neg (by simp)]
 refine wpAny_bind (hlen _ _ _ _ _ fun t k=>?_)
 refine wpAny_bind (wpAny_of_eq (a:=some (n:Int)) rfl ?_)
 try dsimp only
 refine wpAny_bind ?_
 show wpAny _ _ (newObj (.type "reversed") (.fields #[u,rawInt ((n:Int) - 1)])) _ _ _
 refine wpAny_newObj_type ?_
 exact wpAny_pure ⟨_,rfl,h k⟩
theorem Mr:isSubtype (.type "tuple") (.type "dict")=pure false:=by rw [isSubtype_type];kernel_rfl
theorem Ms:isSubtype (.type "str") (.type "dict")=pure false:=by rw [isSubtype_type];kernel_rfl
def yX (K:PySem.W.Frag) (ta:TA):TI:=fun σ H R=>ta σ H fun vs H1=>∃ (x:V) (src:ZS) (n:Nat),vs=[x]/\src.val K H1 x/\src.fin K H1 n/\(∀ a,src≠.lst a)/\(∀ z,src=.str z->z.length<=sizeLine)/\R (Iw K src n) H1
theorem uM {X:Cx} {tg l:Expr} {ta:TA} {p pos:Pos} (hg:Gl X "reversed") (hm:X.mg "reversed" = none) (ha:PA X [l] ta) (hs:starEach [l] X.env=[(false,eval l X.env)]:=by rfl) :
  PI X tg (.Call (.Name "reversed" p) [l] [] pos) (yX X.K ta):=by
 intro pins s σ H R I h
 refine Call_ (yd I hg hm LI (PyProof.Rows.callWith_type1 (cB (ha pos pins s σ H _ I h) fun us s1 ⟨vs,H1,I1,r1,q1⟩=>?_) hs rfl))
 obtain ⟨x,src,n,e,hv,hn,nl,hz,q⟩:=q1
 subst e
 obtain ⟨u,rfl,r⟩:=vals1 r1
 ·have RM:=ky
  have hsv:∀ (H:Hp) (v:V) (i:Nat),src.has X.K H i v->src.val X.K H x:=fun H v i hh=>by
   cases src with
   | tup a=>obtain ⟨xs,h1,_⟩:=hh;exact ⟨hv.1,xs,h1⟩
   | lst a=>exact absurd rfl (nl a)
   | str z=>exact hv
  have fin:∀ k,wpAny (model X.prog X.w) X.A (pyIter (.ref s1.heap.objs.size)) (Er X pins σ tg R) X.xe { s1 with heap:=s1.heap.push { cls:=.type "reversed",data:=.fields #[u,rawInt ((n:Int) - 1)] },toks:=k }:=fun k=>by
   have g:kA (s1.heap.push { cls:=.type "reversed",data:=.fields #[u,rawInt ((n:Int) - 1)] }) s1.heap.objs.size u ((n:Int) - 1 - (0:Nat)):=⟨_,Heap.get?_push_size _ rfl,rfl,by simp⟩
   refine Iv g ?_
   refine ⟨s1.heap.objs.size,[s1.heap.objs.size],_,_,H1,rfl,I1.kept (t':=k) fun b o e=>Heap.get?_push_of_some _ e,Mp src u n _ nl hz x r hsv,g,fun b hb=>?_,q⟩
   have e:b=s1.heap.objs.size:=by simpa using hb
   subst e
   exact I1.nU (Nat.le_refl _) (I1.hok.fresh (Nat.le_refl _))
  cases src with
  | lst a=>exact absurd rfl (nl a)
  | tup a =>
   obtain ⟨rfl,xs,hq⟩:=id hv
   obtain ⟨xs',hq',hx⟩:=hn
   have hx:xs.length=n:=by rw [<- I1.gy hq' hq];exact hx
   cases r
   obtain ⟨its,rv,pl,hz'⟩:=I1.tuple hq
   have hl:=rv.length
   refine callType_new Iy (by decide) (F.typeCall_reversed_1 _) (F.newCall_reversed_1 _) (fun obj=>F.args_object_init_2 obj _) F.entry_reversed_new (Iz (n:=n) Mi slot_tuple_getitem.lookup Mr (by decide)) ⟨pl.typeIs,fun prog w A' E' Q' hq=>?_,fun k=>⟨⟨_,Heap.get?_push_size _ rfl,rfl⟩,fin k⟩⟩
   have e:its.toArray.size=n:=by rw [List.size_toArray];omega
   refine len_tuple pl (by rw [e];omega) ?_
   rw [e]
   exact hq _ _
  | str z =>
   cases hv
   have hn:z.length=n:=hn
   have:=hz z rfl
   obtain ⟨t,rfl⟩:=r
   refine callType_new Iy (by decide) (F.typeCall_reversed_1 _) (F.newCall_reversed_1 _) (fun obj=>F.args_object_init_2 obj _) F.entry_reversed_new (Iz (n:=n) Mj slot_str_getitem.lookup Ms (by decide)) ⟨typeIs_str _ z t,fun prog w A' E' Q' hq=>?_,fun k=>⟨⟨_,Heap.get?_push_size _ rfl,rfl⟩,fin k⟩⟩
   refine len_str (by omega) ?_
   rw [hn]
   exact hq _ _
end L2
namespace L2
open PySem PySem.Spec PyProof.Rows
open Builtin
section
variable {X:Cx}
end
end L2
namespace L2
open PySem PySem.Spec PyProof.Rows
section
variable {prog:Program} {w:World} {A:Around} {E:Value->Shared->Prop} {s:Shared}
end
section
variable {X:Cx} {pos:Pos}
end
end L2
namespace L2
open PySem PySem.Spec PyProof.Rows
section
variable {prog:Program} {w:World} {A:Around} {E:Value->Shared->Prop} {s:Shared}
end
end L2
namespace L2
open PySem PySem.Spec PyProof.Rows
section
variable {prog:Program} {w:World} {A:Around} {E:Value->Shared->Prop} {s:Shared}
end
end L2
namespace L2
open PySem PySem.Spec PyProof.Rows
end L2
namespace L2
open PySem PySem.Spec PyProof.Rows
section
variable {X:Cx} {pos:Pos}
end
end L2
namespace L2
open PySem PySem.Spec PyProof.Rows
def DU (a:Addr) (xs:List (List Int×Addr×Value)):HO:=.ext fun h=>(a == sysModules)=false/\xs.length<=sizeLine/\∃ o es ep,h.get? a=some o/\o.ExactDict/\o.data=.dict es ep /\
 (∃ (P:Program) (w:World),es.toList=xs.map (entryOfKey (tupleKind (intKind P w))))/\(xs.map (·.1)).Nodup
section
variable {X:Cx} {pins:List (Addr×Obj)} {σ:St} {H:Hp} {s:Shared} {a b:Addr} {k:List Int} {xs:List (List Int×Addr×Value)}
end
section
variable {X:Cx} {o i e value:Expr} {pos pos' tpos:Pos} {td ty tv:TE}
end
end L2
namespace L2
open PySem PySem.Spec PyProof.Rows PySem.SeqAt PySem.MeetsSeq
def mM (A:Around) (s:Shared) (y x:Value) (r:Bool):Prop:=∀ (prog:Program) (w:World) (E Q:Value->Shared->Prop),Q (.bool r) s->wpAny (model prog w) A (richCompare .Lt y x) Q E s
def cZ (e lt:Nat->Bool) (fin:Bool):List Nat->Bool
 | []=>fin
 | i :: r=>if e i then cZ e lt fin r else lt i
theorem Mt (l m:Addr) (a b:Array Value) (n1 n2:Nat) (d1 d2:Option Addr) (s1 s2:Array (Option Value)) (e lt:Nat->Bool) :
  Meets (Builtin.«tuple.__lt__» ⟨[.ref l,.ref m],[]⟩) (fun A R s=>s.heap.get? l=some { cls:=.type "tuple",dict:=d1,data:=.seq a n1,slots:=s1 }/\s.heap.get? m=some { cls:=.type "tuple",dict:=d2,data:=.seq b n2,slots:=s2 } /\
    (∀ j (h1:j < a.size) (h2:j < b.size),EqAt A.in1 s a[j] b[j] (e j))/\(∀ j (h1:j < a.size) (h2:j < b.size),e j=false->mM A.in1 s a[j] b[j] (lt j))/\R (.ok (.ret (.bool (cZ e lt (decide (a.size < b.size)) (List.range (min a.size b.size)))))) s) :=
 .of_wp fun prog w A R s h=>by
  obtain ⟨hp,g,d,tk,os⟩:=s
  obtain ⟨hl,hm,he,hlt,h⟩:=h
  have f2:=AutoSeq1.sub_tuple_tuple
  have hZ:(a.toList.zip b.toList).length=min a.size b.size:=by simp
  wp_walk using wpAny_loadPart' hl,wpAny_loadPart' hm,wpAny_forIn_list _ (fun rest q s'=>q.1=none/\s'=⟨hp,g,d,tk,os⟩/\∃ i,rest=(a.toList.zip b.toList).drop i/\R (.ok (.ret (.bool (cZ e lt (decide (a.size < b.size)) ((List.range (min a.size b.size)).drop i))))) ⟨hp,g,d,tk,os⟩) _
  case turn =>
   rintro ⟨y,x⟩ rest q s' ⟨hq,rfl,i,hz,hR⟩
   have hil:i < (a.toList.zip b.toList).length:=by
    rcases Nat.lt_or_ge i (a.toList.zip b.toList).length with k | k
    ·exact k
    ·rw [List.drop_of_length_le k] at hz;cases hz
   have hmn:i < min a.size b.size:=hZ ▸ hil
   have g1:i < a.size:=by omega
   have g2:i < b.size:=by omega
   rw [List.drop_eq_getElem_cons hil] at hz
   injection hz with hyx hrest
   have hy:y=a[i]:=by simpa using congrArg Prod.fst hyx
   have hx:x=b[i]:=by simpa using congrArg Prod.snd hyx
   subst hy hx
   have hd:(List.range (min a.size b.size)).drop i=i :: (List.range (min a.size b.size)).drop (i + 1):=by simp [List.drop_eq_getElem_cons,hmn]
   rw [hd,cZ] at hR
   refine wpAny_bind (he i g1 g2 prog w _ _ ?_)
   cases hei:e i with
   | true =>
    rw [hei] at hR
    wp_walk
    exact ⟨rfl,rfl,i + 1,hrest,hR⟩
   | false =>
    rw [hei] at hR
    refine wpAny_bind (wpAny_rule (wpAny_bind (hlt i g1 g2 hei prog w _ _ ?_)))
    wp_walk
    exact ⟨_,rfl,hR⟩
  case fin =>
   rintro ⟨q1,q2⟩ s' ⟨hq,rfl,i,hz,hR⟩
   simp only at hq
   subst hq
   have hge:min a.size b.size<=i:=by
    rcases Nat.lt_or_ge i (a.toList.zip b.toList).length with k | k
    ·rw [List.drop_eq_getElem_cons k] at hz;cases hz
    ·exact hZ ▸ k
   rw [List.drop_of_length_le (by simpa using hge),cZ] at hR
   wp_walk
   exact ⟨_,rfl,by simpa [Builtin.Tuple.tupleCompareSizes] using hR⟩
  case h =>
   exact ⟨rfl,rfl,0,rfl,by simpa using h⟩
theorem mM.tuples {A:Around} {s:Shared} {l m:Addr} {a b:Array Value} {e lt:Nat->Bool} (hl:s.heap.IsTuple l a) (hm:s.heap.IsTuple m b) (hu:A.units < cLine)
  (he:∀ j (h1:j < a.size) (h2:j < b.size),EqAt A.in1 s a[j] b[j] (e j)) (hlt:∀ j (h1:j < a.size) (h2:j < b.size),e j=false->mM A.in1 s a[j] b[j] (lt j)) :
  mM A s (.ref l) (.ref m) (cZ e lt (decide (a.size < b.size)) (List.range (min a.size b.size))):=fun prog w E Q h=>by
 obtain ⟨⟨c1,d1,t1,s1⟩,o1,k1,n1,j1⟩:=hl
 obtain ⟨⟨c2,d2,t2,s2⟩,o2,k2,n2,j2⟩:=hm
 simp only at k1 j1 k2 j2
 subst k1 j1 k2 j2
 exact richCompare_meets_room (op:=.Lt) ⟨_,o1,rfl⟩ ⟨_,o2,rfl⟩ F.slot_tuple_lt F.entry_tuple_lt (F.args_tuple_lt_2 _ _) (Mt l m a b n1 n2 d1 d2 s1 s2 e lt)
  ⟨o1,o2,he,hlt,show Value.bool (cZ e lt (decide (a.size < b.size)) (List.range (min a.size b.size)))≠Value.notImplemented/\Q (.bool (cZ e lt (decide (a.size < b.size)) (List.range (min a.size b.size)))) s from ⟨(fun x=>nomatch x),h⟩⟩ hu
mutual
def xm:PyData->PyData->Bool
 | .int a,.int b=>decide (a < b)
 | .tuple xs,.tuple ys=>lH xs ys
 | _,_=>false
def lH:List PyData->List PyData->Bool
 | [],[]=>false
 | [],_ :: _=>true
 | _ :: _,[]=>false
 | x :: xs,y :: ys=>if PyData.eqv x y then lH xs ys else xm x y
end
mutual
def p3:PyData->PyData->Bool
 | .int _,.int _=>true
 | .tuple xs,.tuple ys=>mN xs ys
 | _,_=>false
def mN:List PyData->List PyData->Bool
 | [],_=>true
 | _ :: _,[]=>true
 | x :: xs,y :: ys=>p3 x y && mN xs ys
end
theorem IA (e lt:Nat->Bool) (fin:Bool) (f:Nat->Nat):∀ l:List Nat,cZ e lt fin (l.map f)=cZ (fun i=>e (f i)) (fun i=>lt (f i)) fin l
 | []=>rfl
 | i :: r=>by
  show (if e (f i) then cZ e lt fin (r.map f) else lt (f i))=if e (f i) then _ else lt (f i)
  rw [IA e lt fin f r]
def n4 (xs ys:List PyData) (j:Nat):Bool:=xm (xs.getD j .none) (ys.getD j .none)
theorem IB:∀ xs ys:List PyData,cZ (pairEq xs ys) (n4 xs ys) (decide (xs.length < ys.length)) (List.range (min xs.length ys.length))=lH xs ys
 | [],[]=>rfl
 | [],_ :: _=>by simp [cZ,lH]
 | _ :: _,[]=>by simp [cZ,lH]
 | x :: xs,y :: ys=>by
  have ih:=IB xs ys
  have e1:min (x :: xs).length (y :: ys).length=min xs.length ys.length + 1:=by simp only [List.length_cons];omega
  have e2:decide ((x :: xs).length < (y :: ys).length)=decide (xs.length < ys.length):=by simp
  rw [e1,e2,List.range_succ_eq_map,cZ,IA]
  show (if PyData.eqv x y then cZ (pairEq xs ys) (n4 xs ys) (decide (xs.length < ys.length)) (List.range (min xs.length ys.length)) else xm x y)=_
  rw [ih,lH]
mutual
theorem IC:∀ (da db:PyData) (A:Around) (s:Shared) (a b:Value) (as bs:List Addr),Reads s.heap a da as->Reads s.heap b db bs->p3 da db=true->da.canLay0=true->db.canLay0=true->A.units + min da.depth db.depth < cLine->mM A s a b (xm da db)
 | .int x,.int y,A,s,_,_,_,_,ra,rb,_,_,_,_=>by
  cases ra with
  | int _ t =>
   cases rb with
   | int _ u=>exact fun prog w E Q h=>richCompare_gives (op:=.Lt) (typeIs_int s _ t) (typeIs_int s _ u) F.slot_int_lt F.entry_int_lt (F.args_int_lt_2 _ _) (gives_int_lt _ _ t u) (fun x=>nomatch x) h
 | .tuple xs,.tuple ys,A,s,_,_,_,_,ra,rb,ok,ha,hb,hu=>by
  cases ra with
  | @tuple l o vs n _ RN h1 h2 h3 h4 =>
   cases rb with
   | @tuple l' o' vs' n' _ RO k1 k2 k3 k4 =>
    have t1:s.heap.IsTuple l vs:=⟨_,h1,h2,_,h3⟩
    have t2:s.heap.IsTuple l' vs':=⟨_,k1,k2,_,k3⟩
    have n1:vs.size=xs.length:=by simpa using ReadsAll.length _ _ _ h4
    have n2:vs'.size=ys.length:=by simpa using ReadsAll.length _ _ _ k4
    show mM A s (.ref l) (.ref l') (lH xs ys)
    rw [<- IB xs ys,<- n1,<- n2]
    refine mM.tuples t1 t2 (room_here hu) (fun j j1 j2=>?_) (fun j j1 j2 _=>?_)
    ·have z:=eqAt_readsAll xs ys A.in1 s vs.toList vs'.toList _ _ h4 k4 ha hb (room_in hu) j (by simpa using j1) (by simpa using j2)
     simpa using z
    ·have z:=IE xs ys A.in1 s vs.toList vs'.toList _ _ h4 k4 ok ha hb (room_in hu) j (by simpa using j1) (by simpa using j2)
     simpa using z
 | .int _,.none,_,_,_,_,_,_,_,_,ok,_,_,_=>nomatch ok
 | .int _,.bool _,_,_,_,_,_,_,_,_,ok,_,_,_=>nomatch ok
 | .int _,.str _,_,_,_,_,_,_,_,_,ok,_,_,_=>nomatch ok
 | .int _,.list _,_,_,_,_,_,_,_,_,ok,_,_,_=>nomatch ok
 | .int _,.tuple _,_,_,_,_,_,_,_,_,ok,_,_,_=>nomatch ok
 | .int _,.dict _,_,_,_,_,_,_,_,_,ok,_,_,_=>nomatch ok
 | .tuple _,.none,_,_,_,_,_,_,_,_,ok,_,_,_=>nomatch ok
 | .tuple _,.bool _,_,_,_,_,_,_,_,_,ok,_,_,_=>nomatch ok
 | .tuple _,.int _,_,_,_,_,_,_,_,_,ok,_,_,_=>nomatch ok
 | .tuple _,.str _,_,_,_,_,_,_,_,_,ok,_,_,_=>nomatch ok
 | .tuple _,.list _,_,_,_,_,_,_,_,_,ok,_,_,_=>nomatch ok
 | .tuple _,.dict _,_,_,_,_,_,_,_,_,ok,_,_,_=>nomatch ok
 | .none,_,_,_,_,_,_,_,_,_,ok,_,_,_=>by simp [p3] at ok
 | .bool _,_,_,_,_,_,_,_,_,_,ok,_,_,_=>by simp [p3] at ok
 | .str _,_,_,_,_,_,_,_,_,_,ok,_,_,_=>by simp [p3] at ok
 | .list _,_,_,_,_,_,_,_,_,_,ok,_,_,_=>by simp [p3] at ok
 | .dict _,_,_,_,_,_,_,_,_,_,ok,_,_,_=>by simp [p3] at ok
theorem IE:∀ (xs ys:List PyData) (A:Around) (s:Shared) (vs ws:List Value) (as bs:List Addr),ReadsAll s.heap vs xs as->ReadsAll s.heap ws ys bs->mN xs ys=true->PyData.canLayAll0 xs=true->PyData.canLayAll0 ys=true->A.units + min (PyData.depthAll xs) (PyData.depthAll ys) < cLine->∀ j (h1:j < vs.length) (h2:j < ws.length),mM A s vs[j] ws[j] (n4 xs ys j)
 | [],_,_,_,_,_,_,_,ra,_,_,_,_,_,j,h1,_=>by cases ra;exact absurd h1 (Nat.not_lt_zero _)
 | _ :: _,[],_,_,_,_,_,_,_,rb,_,_,_,_,j,_,h2=>by cases rb;exact absurd h2 (Nat.not_lt_zero _)
 | x :: xs,y :: ys,A,s,_,_,_,_,ra,rb,ok,ha,hb,hu,j,h1,h2=>by
  have a':x.canLay0=true/\PyData.canLayAll0 xs=true:=by simpa [PyData.canLayAll0] using ha
  have b':y.canLay0=true/\PyData.canLayAll0 ys=true:=by simpa [PyData.canLayAll0] using hb
  have o':p3 x y=true/\mN xs ys=true:=by simpa [mN] using ok
  cases ra with
  | cons r rs =>
   cases rb with
   | cons r' rs' =>
    cases j with
    | zero=>exact IC x y A s _ _ _ _ r r' o'.1 a'.1 b'.1 (room_head hu)
    | succ j=>exact IE xs ys A s _ _ _ _ rs rs' o'.2 a'.2 b'.2 (room_tail hu) j (Nat.lt_of_succ_lt_succ h1) (Nat.lt_of_succ_lt_succ h2)
end
section
variable {prog:Program} {w:World} {A:Around} {R:Result->Shared->Prop} {I:Addr} {fp wr:List Addr} {n:Nat} {P:Nat->Value->Prop} {St:Nat->Heap->Prop}
def iQ (a b:Heap):Prop:=∀ x o,a.get? x=some o->b.get? x=some o
def uN (A:Around) (h0:Heap) (P:Nat->Value->Prop) (bt:Nat->Nat->Bool):Prop:=∀ i j vi vj (s:Shared),iQ h0 s.heap->P i vi->P j vj->mM A s vi vj (bt i j)
theorem Cj:(toString "min" ++ toString ".loop" : String)="min.loop" := by decide
theorem Fg (W:Walks prog w A.in1 I fp wr n P St) (bt:Nat->Nat->Bool) {h0:Heap} (hcmp:uN A.in1 h0 P bt) (S:Addr) (hSf:S ∉ fp) (uO:h0.get? S=none) (hw0:∀ b∈wr,h0.get? b=none) :
  ∀ (k j:Nat) (s:Shared) (vb:Value) (c:Nat),n - (j + 1)=k->j + 1<=n->St (j + 1) s.heap->P (argBest bt j) vb->iQ h0 s.heap->s.heap.get? S=some { cls:=.type "list",dict:=none,data:=.seq #[vb,vb] c,slots:=#[] } ->
  (∀ v h' tk,P (argBest bt (n - 1)) v->iQ h0 h'->R (.ok (.ret v)) { s with heap:=h',toks:=tk })->codeAny (model prog w) A (.builtin "min.loop" ⟨[.ref I,.none,.ref S],[]⟩) R s
 | 0,j,s,vb,c,hk,hj,hst,Ck,hK,hS,hR=>by
  have yZ:S ∉ wr:=fun z=>hSf (W.sub S z)
  have hin:n=j + 1:=by omega
  subst hin
  refine codeAny_builtin F.entry_min_loop ?_
  rw [Around.under_plainId F.plain_min_loop (A:=A) _]
  show wpAny (model prog w) A.in1 (seqItems? (.ref S) >>= _) _ _ _
  refine wpAny_bind (wpAny_seqItems hS rfl ?_)
  show wpAny (model prog w) A.in1 (tryCatch (pyNext (.ref I)) _ >>= _) _ _ _
  refine wpAny_bind (wpAny_tryCatch (W.done s _ _ hst fun h' tk hk'=>?_))
  have hS':=hk' S _ yZ hS
  show wpAny (model prog w) A.in1 (updateSeq S (fun _=>#[]) >>= _) _ _ _
  refine wpAny_bind (wpAny_updateSeq hS' rfl (wpAny_bind (wpAny_letGo (wpAny_pure (hR vb _ tk Ck fun b o e=>?_)))))
  have hb1:b ∉ wr:=fun z=>by rw [hw0 b z] at e;cases e
  have hb2:S≠b:=fun z=>by rw [<- z,uO] at e;cases e
  exact (Heap.get?_update_other _ _ hb2).trans (hk' b o hb1 (hK b o e))
 | k + 1,j,s,vb,c,hk,hj,hst,Ck,hK,hS,hR=>by
  have yZ:S ∉ wr:=fun z=>hSf (W.sub S z)
  have hlt:j + 1 < n:=by omega
  refine codeAny_builtin F.entry_min_loop ?_
  rw [Around.under_plainId F.plain_min_loop (A:=A) _]
  show wpAny (model prog w) A.in1 (seqItems? (.ref S) >>= _) _ _ _
  refine wpAny_bind (wpAny_seqItems hS rfl ?_)
  show wpAny (model prog w) A.in1 (tryCatch (pyNext (.ref I)) _ >>= _) _ _ _
  refine wpAny_bind (wpAny_tryCatch (W.item (j + 1) s _ _ hlt hst fun v h' tk hP rl hk'=>?_))
  have hS':=hk' S _ yZ hS
  have y2:iQ h0 h':=fun b o e=>hk' b o (fun z=>by rw [hw0 b z] at e;cases e) (hK b o e)
  show wpAny (model prog w) A.in1 (tryCatch (holding [v,v] (richCompare .Lt v vb >>= _)) _ >>= _) _ _ _
  refine wpAny_bind (wpAny_tryCatch (wpAny_holding (wpAny_bind (hcmp (j + 1) (argBest bt j) v vb _ y2 hP Ck prog w _ _ ?_))))
  refine wpAny_bind (wpAny_holding (wpAny_truthy_bool (wpAny_bind (wpAny_letGo (wpAny_pure ?_)))))
  cases hb:bt (j + 1) (argBest bt j) with
  | true =>
   simp only [if_true]
   refine wpAny_bind (wpAny_updateSeq hS' rfl (wpAny_bind (wpAny_letGo ?_)))
   rw [Cj]
   have Fh:iQ h0 (h'.update S (Obj.mapSeq fun _=>#[v,v])):=fun b o e=>(Heap.get?_update_other _ _ (fun z=>by rw [<- z,uO] at e;cases e)).trans (y2 b o e)
   refine wpAny_pure ⟨plainId_quiet F.plain_min_loop _,Fg W bt hcmp S hSf uO hw0 k (j + 1) _ v _ (by omega) hlt (W.frame _ _ _ rl fun b Fi o e=>?_) (by simp only [argBest,hb,if_true];exact hP) Fh (Heap.get?_update_self _ hS' rfl) fun v' h'' p4 y3 p5=>hR v' h'' p4 y3 p5⟩
   exact (Heap.get?_update_other _ _ (fun z:S=b=>hSf (z ▸ Fi))).trans e
  | false =>
   simp only [Bool.false_eq_true,if_false]
   refine wpAny_bind (wpAny_letGo ?_)
   rw [Cj]
   exact wpAny_pure ⟨plainId_quiet F.plain_min_loop _,Fg W bt hcmp S hSf uO hw0 k (j + 1) _ vb c (by omega) hlt rl (by simp only [argBest,hb,Bool.false_eq_true,if_false];exact Ck) y2 hS' fun v' h'' p4 y3 p5=>hR v' h'' p4 y3 p5⟩
theorem Mu (W:Walks prog w A.in1 I fp wr n P St) (bt:Nat->Nat->Bool) {h0:Heap} (hcmp:uN A.in1 h0 P bt) (S:Addr) (hSf:S ∉ fp) (uO:h0.get? S=none) (hw0:∀ b∈wr,h0.get? b=none) (hn:0 < n) {s:Shared} {c:Nat} (hst:St 0 s.heap) (hK:iQ h0 s.heap)
  (hS:s.heap.get? S=some { cls:=.type "list",dict:=none,data:=.seq #[] c,slots:=#[] }) (hR:∀ v h' tk,P (argBest bt (n - 1)) v->iQ h0 h'->R (.ok (.ret v)) { s with heap:=h',toks:=tk }) :
  codeAny (model prog w) A (.builtin "min.loop" ⟨[.ref I,.none,.ref S],[]⟩) R s:=by
 have yZ:S ∉ wr:=fun z=>hSf (W.sub S z)
 refine codeAny_builtin F.entry_min_loop ?_
 rw [Around.under_plainId F.plain_min_loop (A:=A) _]
 show wpAny (model prog w) A.in1 (seqItems? (.ref S) >>= _) _ _ _
 refine wpAny_bind (wpAny_seqItems hS rfl ?_)
 show wpAny (model prog w) A.in1 (tryCatch (pyNext (.ref I)) _ >>= _) _ _ _
 refine wpAny_bind (wpAny_tryCatch (W.item 0 s _ _ hn hst fun v h' tk hP rl hk'=>?_))
 have hS':=hk' S _ yZ hS
 have y2:iQ h0 h':=fun b o e=>hk' b o (fun z=>by rw [hw0 b z] at e;cases e) (hK b o e)
 show wpAny (model prog w) A.in1 (updateSeq S (fun _=>#[v,v]) >>= _) _ _ _
 refine wpAny_bind (wpAny_updateSeq hS' rfl ?_)
 rw [Cj]
 have Fh:iQ h0 (h'.update S (Obj.mapSeq fun _=>#[v,v])):=fun b o e=>(Heap.get?_update_other _ _ (fun z=>by rw [<- z,uO] at e;cases e)).trans (y2 b o e)
 refine wpAny_pure ⟨plainId_quiet F.plain_min_loop _,Fg W bt hcmp S hSf uO hw0 _ 0 _ v _ rfl hn (W.frame _ _ _ rl fun b Fi o e=>?_) hP Fh (Heap.get?_update_self _ hS' rfl) fun v' h'' p4 y3 p5=>hR v' h'' p4 y3 p5⟩
 exact (Heap.get?_update_other _ _ (fun z:S=b=>hSf (z ▸ Fi))).trans e
end
section
variable {prog:Program} {w:World} {A:Around} {E:Value->Shared->Prop} {s:Shared}
theorem Mv {p:Addr} {its:Array Value} {bt:Nat->Nat->Bool} {Q:Value->Shared->Prop} (hh:A.handled=none) (hl:s.heap.IsList p its) (hn:0 < its.size) (hcmp:uN A.in1 s.heap (fun i v=>its[i]?=some v) bt)
  (hQ:∀ v h' tk,its[argBest bt (its.size - 1)]?=some v->iQ s.heap h'->Q v { s with heap:=h',toks:=tk }):wpAny (model prog w) A (call (.builtin "min") [.ref p]) Q E s:=by
 have hlt:p < s.heap.objs.size:=by obtain ⟨_,e,_⟩:=hl;exact Heap.lt_size e
 have e0:s.heap.get? s.heap.objs.size=none:=by
  cases q:s.heap.get? s.heap.objs.size with
  | none=>rfl
  | some o=>exact absurd (Heap.lt_size q) (Nat.lt_irrefl _)
 have e1:s.heap.get? (s.heap.objs.size + 1)=none:=by
  cases q:s.heap.get? (s.heap.objs.size + 1) with
  | none=>rfl
  | some o=>exact absurd (Heap.lt_size q) (Nat.not_lt_of_le (Nat.le_succ _))
 refine call_function_tree F.kind_min F.plain_min F.entry_min (F.args_min1 _) ?_
 show wpAny (model prog w) A.in1 (Builtin.Builtins.bindParams "min" ["key","default"] 0 ⟨[],[]⟩ >>= _) _ _ _
 refine wpAny_bind (wpAny_of_eq (show Builtin.Builtins.bindParams "min" ["key","default"] 0 ⟨[],[]⟩=pure [none,none] from rfl) (wpAny_bind (wpAny_pure ?_)))
 refine wpAny_bind (wpAny_pyIter_list hl (wpAny_bind (wpAny_newObj_type ?_)))
 have hsz:(s.heap.push { cls:=.type "list_iterator",data:=.fields #[.ref p,.int 0 0] }).objs.size=s.heap.objs.size + 1:=Heap.size_push ..
 have hne:p≠s.heap.objs.size:=Nat.ne_of_lt hlt
 rw [Cj]
 have k1:iQ s.heap ((s.heap.push { cls:=.type "list_iterator",data:=.fields #[.ref p,.int 0 0] }).push { cls:=.type "list",data:=.seq #[] }):=fun b o e=>Heap.get?_push_of_some _ (Heap.get?_push_of_some _ e)
 refine wpAny_pure ⟨plainId_quiet F.plain_min_loop _,?_⟩
 show codeAny (model prog w) A (.builtin "min.loop" ⟨[.ref s.heap.objs.size,.none,.ref (s.heap.push { cls:=.type "list_iterator",data:=.fields #[.ref p,.int 0 0] }).objs.size],[]⟩) _ _
 rw [hsz]
 refine Mu (c:=0) (Walks.list (A:=A.in1) hh s.heap.objs.size p hne its) bt hcmp (s.heap.objs.size + 1) (fun z=>?_) e1 (fun b hb=>?_) hn ?_ k1 ?_ fun v h' tk hv hk=>hQ v h' tk hv hk
 ·rcases List.mem_cons.mp z with z | z
  ·exact absurd z (Nat.succ_ne_self _)
  ·have:s.heap.objs.size + 1=p:=List.mem_singleton.mp z
   exact absurd hlt (by rw [<- this];exact Nat.not_lt_of_le (Nat.le_succ _))
 ·rw [List.mem_singleton.mp hb];exact e0
 ·exact ⟨⟨_,Heap.get?_push_of_some _ (Heap.get?_push_size _ rfl),rfl,rfl⟩,(hl.push _).push _⟩
 ·rw [<- hsz];exact Heap.get?_push_size _ rfl
end
theorem Fj {h:Heap}:∀ {us:List Value} {ds:List PyData} {as:List Addr} {i:Nat} {v:Value},ReadsAll h us ds as->us[i]?=some v->∃ as',Reads h v (ds.getD i .none) as'/\ds.getD i .none∈ds
 | _,_,_,_,_,.nil,e=>by simp at e
 | _,_,_,0,_,.cons r _,e=>by simp at e;subst e;exact ⟨_,r,List.mem_cons_self⟩
 | _,_,_,i + 1,v,.cons _ rs,e=>by
  obtain ⟨as',r,m⟩:=Fj (i:=i) (v:=v) rs (by simpa using e)
  exact ⟨as',r,List.mem_cons_of_mem _ m⟩
section
variable {X:Cx}
def rm (ds:List PyData) (i j:Nat):Bool:=xm (ds.getD i .none) (ds.getD j .none)
def mx (ds:List PyData):Nat:=argBest (rm ds) (ds.length - 1)
def sF (K:PySem.W.Frag):List V->Hp->VK->Prop:=fun xs H Q=>∃ (p:Addr) (vs:List V) (ds:List PyData),xs=[.ref p]/\jB K H p vs/\iO K H vs ds/\0 < ds.length/\(∀ a∈ds,∀ b∈ds,p3 a b=true)/\(∀ a∈ds,a.canLay0=true/\a.depth<=50)/\∃ v,vs[mx ds]?=some v/\Q v H
theorem IF (hc:X.calm=true) (hu:X.A.units + 64 < cLine):iz X (.builtin "min") (sF X.K):=by
 intro pins s σ H xs us Q I r h
 obtain ⟨p,vs,ds,rfl,hq,hr,hn,hok,hlay,v0,hv0,q⟩:=h
 obtain ⟨u,rfl,ru⟩:=vals1 r
 cases ru
 obtain ⟨its,rv,pl,_⟩:=I.list hq
 obtain ⟨as,ra⟩:=iO.reads I hr rv
 have hlen:its.length=ds.length:=ReadsAll.length _ _ _ ra
 refine Mv (bt:=rm ds) (I.ok.hd hc) pl.isList (by rw [List.size_toArray];omega) (fun i j vi vj s' hK hi hj=>?_) fun v h' tk hv hk=>?_
 ·have hi':its[i]?=some vi:=by simpa using hi
  have hj':its[j]?=some vj:=by simpa using hj
  obtain ⟨a1,r1,m1⟩:=Fj ra hi'
  obtain ⟨a2,r2,m2⟩:=Fj ra hj'
  have b1:=(hlay _ m1).2
  have b2:=(hlay _ m2).2
  exact IC _ _ _ s' _ _ _ _ (Reads.keeps hK r1) (Reads.keeps hK r2) (hok _ m1 _ m2) (hlay _ m1).1 (hlay _ m2).1 (by show X.A.units + 1 + _ < cLine;omega)
 ·have hv':its[mx ds]?=some v:=by
   have e:its.toArray.size - 1=ds.length - 1:=by rw [List.size_toArray,hlen]
   rw [e] at hv
   unfold mx
   simpa using hv
  obtain ⟨u,IG,ru⟩:=Vals.get rv hv0
  rw [hv'] at IG
  cases IG
  exact ⟨v0,H,I.kept hk,ru,q⟩
end
end L2
namespace L2
open PySem PySem.Spec PyProof.Rows PySem.W
section
variable {lt:Nat->Nat->Bool} {n0:Nat} {cmp:Nat->Nat->(Bool->Shared->Prop)->Shared->Prop} {s:Shared}
structure Ord (lt:Nat->Nat->Bool):Prop where
 tr:∀ a b c,lt b a=false->lt c b=false->lt c a=false
 as:∀ a b,lt a b=true->lt b a=false
def P (p:Array Nat) (i:Nat):Nat:=p.getD i 0
variable (o:Ord lt) (hn:0 < n0) (hc:∀ i j (C:Bool->Shared->Prop),i < n0->j < n0->C (lt i j) s->cmp i j C s)
include o hn hc
end
section
variable {prog:Program} {w:World} {A:Around} {E:Value->Shared->Prop} {s:Shared}
end
section
variable {prog:Program} {w:World} {A:Around} {E:Value->Shared->Prop} {s:Shared} {lt:Nat->Nat->Bool}
end
section
variable {X:Cx}
end
end L2
namespace L2
open PySem PySem.Spec PyProof.Rows
section
variable {X:Cx} {o e f:Expr} {apos cpos:Pos} {td ty tx:TE}
end
end L2
namespace L2
open PySem PySem.Spec PyProof.Rows PySem.W
section
variable {X:Cx} {o e:Expr} {t t' td:TE} {apos cpos pos p:Pos}
end
end L2
namespace L2
open PySem PySem.Spec PyProof.Rows
section
variable {X:Cx} {body:List Stmt} {h₀:ExceptHandler} {hs:List ExceptHandler} {pos:Pos} {t:TS}
end
end L2
namespace L2
open PySem PySem.Spec PyProof.Rows
section
variable {X:Cx} {K:PySem.W.Frag}
end
end L2
namespace L2
open PySem PySem.Spec PyProof.Rows
open Builtin
end L2
namespace L2
open PySem PySem.Spec PyProof.Rows
section
variable {X:Cx} {K:PySem.W.Frag}
end
end L2
namespace L2
open PySem PySem.Spec PyProof.Rows PySem.W
section
variable {prog:Program} {w:World} {A:Around} {E:Value->Shared->Prop} {s:Shared}
end
end L2
namespace L2
open PySem PySem.Spec PyProof.Rows PySem.W
end L2
namespace L2
open PySem PySem.Spec PyProof.Rows
section
variable {M:Model} {A:Around} {E:Value->Shared->Prop} {s:Shared}
end
def Mw:Option Addr->Value
 | none=>.none
 | some T=>.ref T
def XO (a C:Addr) (dx tr:Option Addr):HO:=.ext fun h=>∃ o vs,h.get? a=some o/\o.cls=.ref C/\o.dict=dx/\o.data=.fields vs/\vs[1]?=some (Mw tr)
section
variable {P:Program} {w:World} {H H' H2:Hp} {h h':Heap} {a C T:Addr} {dx tr:Option Addr} {o:HO}
end
section
variable {X:Cx} {pins:List (Addr×Obj)} {σ:St} {H:Hp} {s:Shared} {a C:Addr} {dx:Option Addr}
end
section
variable {P:Program} {w:World} {K:PySem.W.Frag} {mg:Str->Option Value} {base:Heap} {N:List Str} {qual:Str} {scope:Scope} {f:Addr} {cd:Value} {A:Around} {outer:List Env} {s0:Shared} {H0:Hp} {E:XK}
end
section
open PySem.W
end
section
variable {X:Cx} {pins:List (Addr×Obj)} {σ:St} {H:Hp} {s:Shared} {a C:Addr} {dx:Option Addr}
end
section
variable {P:Program} {w:World} {K:PySem.W.Frag} {mg:Str->Option Value} {base:Heap} {N:List Str} {qual:Str} {scope:Scope} {f:Addr} {cd:Value} {A:Around} {outer:List Env} {s0:Shared} {H0:Hp} {E:XK}
end
end L2
namespace L2
open PySem PySem.Spec PyProof.Rows
section
variable {X:Cx} {pins:List (Addr×Obj)} {σ:St} {H:Hp} {s:Shared} {W:St->Addr->Hp->Prop} {a:Addr}
end
section
variable {X:Cx} {i:Nat} {x n:Str} {F:Addr} {bmB:List Value} {newId:String} {tb:(St->Addr->Hp->Prop)->TS} {ts:TS} {body suite:List Stmt} {b0:Stmt} {np hpos pos:Pos}
end
section
variable {X:Cx} {k:Nat} {f:Addr} {fd:FuncData} {ps:List Str} {sp:Sp} {x:Str} {p pos:Pos} {e:Expr} {es:List Expr} {t:TA} {pins:List (Addr×Obj)} {W:St->Addr->Hp->Prop}
end
end L2
namespace L2
open PySem PySem.Spec PyProof.Rows PySem.W
section
variable {prog:Program} {w:World} {A:Around} {E:Value->Shared->Prop} {s:Shared} {K:Frag} {a C:Addr} {ox:Obj} {odo:Option Obj} {name:Str}
end
section
variable {X:Cx} {x:Str} {c:Value} {v:V} {p pos:Pos} {e:Expr} {te:TE} {b:Bool}
end
end L2
namespace L2
open PySem PySem.Spec PyProof.Rows
section
variable {X:Cx}
end
end L2
namespace L2
open PySem PySem.Spec PyProof.Rows PySem.W PySem.Builtin PySem.Builtin.ObjectAttr
section
variable {prog:Program} {w:World} {A:Around} {E:Value->Shared->Prop} {s:Shared} {K:Frag} {a C:Addr} {ox:Obj} {odo:Option Obj} {name:Str} {v:Value}
end
section
variable {X:Cx} {pins:List (Addr×Obj)} {σ:St} {H:Hp} {s:Shared} {a C:Addr} {tr:Option Addr} {f:Str} {y:V} {u:Value}
variable {o value:Expr} {ta tv:TE} {pos pos':Pos}
end
end L2
namespace L2
open PySem PySem.Spec PyProof.Rows PySem.W
section
variable {prog:Program} {w:World} {A:Around} {E:Value->Shared->Prop} {h:Heap} {g:Array GenState} {d:Drawn} {t:Nat} {os:OsState}
variable {nm q:Str} {C N:Addr} {bs bm bmB:List Value} {hdct:Bool} {sn:List Str} {sub:List Value} {ab:Bool} {col:Option Bool} {dd:Option Addr} {k0 k1 k2 k3 k5:Option Value} {B newId initId:String}
end
section
variable {X:Cx} {k:Nat} {f C:Addr} {fd:FuncData} {ps:List Str} {sp:Sp} {x:Str} {p pos:Pos} {e:Expr} {es:List Expr} {t:TA} {B newId initId:String} {bmB:List Value}
end
section
variable {P:Program} {w:World} {K:Frag} {mg:Str->Option Value} {base:Heap} {N:List Str} {qual:Str} {scope:Scope} {f:Addr} {cd:Value} {A:Around} {outer:List Env} {s0:Shared} {H0:Hp} {E:XK}
end
end L2
namespace L2
open PySem PySem.Spec PyProof.Rows PySem.W
section
variable {X:Cx} {e:Expr} {te:TE} {f:Str} {pos:Pos}
end
end L2
namespace L2
open PySem PySem.Spec PyProof.Rows
section
variable {X:Cx}
def sG (i j:Int):Prop:=j≠0/\j.natAbs.log2 < 9000
theorem Mx:ku X (binaryOp .FloorDiv) (rI sG fun i j=>.int (i.fdiv j)):=xc fun _ j _ _ _ _ _ hc q=>floordiv_int hc.1 q (.inl (PyProof.noPylong_of_log2 hc.2))
end
end L2
namespace L2
open PySem PySem.Spec PyProof.Rows
open Builtin
def P2 (k:Nat):Nat:=2 ^ k
theorem IH (a b:Nat):P2 a * P2 b=P2 (a + b):=(Nat.pow_add 2 a b).symm
theorem y4 {a b:Nat} (h:a<=b):P2 a<=P2 b:=Nat.pow_le_pow_right (by decide) h
theorem xn (a:Nat):0 < P2 a:=Nat.two_pow_pos a
theorem uP (a n:Nat):P2 a ^ n=P2 (a * n):=(Nat.pow_mul 2 a n).symm
theorem rn (a:Nat):P2 (a + 1)=2 * P2 a:=by unfold P2;rw [Nat.pow_succ,Nat.mul_comm]
theorem II (a:Nat):a < P2 a:=Nat.lt_two_pow_self
def ou (i j:Int):Prop:=pL i j\/(Builtin.Int.intBits i<=60000000/\Builtin.Int.intBits j<=60000000)
theorem sH {i:Int} {k:Nat} (h:i.natAbs < P2 k) (hk:k<=60000000):Builtin.Int.intBits i<=60000000:=Nat.le_trans (PyProof.Rows.intBits_le h) hk
theorem ou.ok {i j:Int} (h:ou i j):IntMulOk i j:=by
 rcases h with h | ⟨h1,h2⟩
 ·exact h.ok
 ·exact PyProof.Rows.mulOk_of_bits (m:=60000000) (n:=60000000) h1 h2 (by decide)
section
variable {X:Cx}
theorem lW:ku X (binaryOp .Mult) (rI ou fun i j=>.int (i * j)):=xc fun _ _ _ _ _ _ _ hc q=>mul_int q hc.ok
end
end L2
namespace af
def upto (n:Nat):List Int:=(List.range n).map fun (k:Nat)=>(k:Int)
theorem nH (n:Nat):(upto n).length=n:=by simp [upto]
theorem lu {n:Nat} {x:Int}:x∈upto n↔0<=x/\x < (n:Int):=by
 simp only [upto,List.mem_map,List.mem_range]
 constructor
 ·rintro ⟨k,hk,rfl⟩;omega
 ·rintro ⟨h1,h2⟩;exact ⟨x.toNat,by omega,by omega⟩
theorem Mz (n:Nat):(upto n).Pairwise (· < ·):=by
 unfold upto
 rw [List.pairwise_map]
 exact (List.pairwise_lt_range).imp fun h=>by omega
theorem IJ (n:Nat):(upto n).Nodup:=(Mz n).imp fun h=>by omega
theorem Cm:∀ {xs ys:List Int},xs.Nodup->(∀ x∈xs,x∈ys)->ys.length<=xs.length->xs.Perm ys
 | [],ys,_,_,h=>by
  have:ys=[]:=List.eq_nil_of_length_eq_zero (by simpa using h)
  subst this;exact List.Perm.refl _
 | x :: xs,ys,hn,hs,hl=>by
  obtain ⟨h1,h2⟩:=List.nodup_cons.mp hn
  have hx:x∈ys:=hs x List.mem_cons_self
  have hp:=List.perm_cons_erase hx
  have hlen:(ys.erase x).length + 1=ys.length:=by have:=hp.length_eq;simpa using this.symm
  refine List.Perm.trans (List.Perm.cons x (Cm (ys:=ys.erase x) h2 (fun y hy=>?_) ?_)) hp.symm
  ·have hne:y≠x:=fun e=>h1 (e ▸ hy)
   exact (List.mem_erase_of_ne hne).mpr (hs y (List.mem_cons_of_mem _ hy))
  ·simp at hl;omega
theorem Fm {xs:List Int} (hn:xs.Nodup) (hb:∀ x∈xs,0<=x/\x < (xs.length:Int)):xs.Perm (upto xs.length):=by
 exact Cm hn (fun x hx=>lu.mpr (hb x hx)) (by rw [nH];exact Nat.le_refl _)
end af
namespace af
def app (xs:List Int) (i:Int):Int:=xs.getD i.toNat 0
def bp (xs:List Int) (i:Int):Nat->Int
 | 0=>i
 | j + 1=>app xs (bp xs i j)
def Tn (n:Nat) (xs:List Int):Prop:=xs.Perm (upto n)
theorem Tn.length {n:Nat} {xs:List Int} (h:Tn n xs):xs.length=n:=by rw [h.length_eq,nH]
theorem Tn.nodup {n:Nat} {xs:List Int} (h:Tn n xs):xs.Nodup:=h.nodup_iff.mpr (IJ n)
theorem Tn.bound {n:Nat} {xs:List Int} (h:Tn n xs) {x:Int} (hx:x∈xs):0<=x/\x < (n:Int):=lu.mp (h.subset hx)
theorem nI {xs:List Int} {i:Int} (h0:0<=i) (h1:i < (xs.length:Int)):xs[i.toNat]?=some (app xs i):=by
 have:i.toNat < xs.length:=by omega
 unfold app
 rw [List.getD_eq_getElem?_getD,List.getElem?_eq_getElem this];rfl
theorem MA {xs:List Int} {i:Int} (h0:0<=i) (h1:i < (xs.length:Int)):app xs i∈xs:=List.mem_of_getElem? (nI h0 h1)
theorem Tn.app {n:Nat} {xs:List Int} (h:Tn n xs) {i:Int} (h0:0<=i) (h1:i < (n:Int)):0<=app xs i/\app xs i < (n:Int):=h.bound (MA h0 (by rw [h.length];exact h1))
theorem Tn.inj {n:Nat} {xs:List Int} (h:Tn n xs) {i j:Int} (i0:0<=i) (i1:i < (n:Int)) (j0:0<=j) (j1:j < (n:Int)) (e:af.app xs i=af.app xs j):i=j:=by
 have hl:=h.length
 have a:=nI i0 (by rw [hl];exact i1)
 have b:=nI j0 (by rw [hl];exact j1)
 rw [e] at a
 obtain ⟨ha,ea⟩:=List.getElem?_eq_some_iff.mp a
 obtain ⟨hb,eb⟩:=List.getElem?_eq_some_iff.mp b
 have:=(List.getElem_inj h.nodup).mp (ea.trans eb.symm)
 omega
theorem Tn.bp {n:Nat} {xs:List Int} (h:Tn n xs) {i:Int} (h0:0<=i) (h1:i < (n:Int)):∀ j,0<=bp xs i j/\bp xs i j < (n:Int)
 | 0=>⟨h0,h1⟩
 | j + 1=>h.app (h.bp h0 h1 j).1 (h.bp h0 h1 j).2
theorem Tn.back {n:Nat} {xs:List Int} (h:Tn n xs) {i:Int} (h0:0<=i) (h1:i < (n:Int)):∀ (a d:Nat),af.bp xs i a=af.bp xs i (a + d)->af.bp xs i d=i
 | 0,d,e=>by rw [Nat.zero_add] at e;exact e.symm
 | a + 1,d,e=>by
  have e':af.app xs (af.bp xs i a)=af.app xs (af.bp xs i (a + d)):=by
   have:a + 1 + d=(a + d) + 1:=by omega
   rw [this] at e
   exact e
  exact h.back h0 h1 a d (h.inj (h.bp h0 h1 a).1 (h.bp h0 h1 a).2 (h.bp h0 h1 _).1 (h.bp h0 h1 _).2 e')
theorem xo:∀ {xs ys:List Int},xs.Nodup->(∀ x∈xs,x∈ys)->xs.length<=ys.length
 | [],_,_,_=>Nat.zero_le _
 | x :: xs,ys,hn,hs=>by
  obtain ⟨h1,h2⟩:=List.nodup_cons.mp hn
  have hx:x∈ys:=hs x List.mem_cons_self
  have hp:=List.perm_cons_erase hx
  have hlen:(ys.erase x).length + 1=ys.length:=by have:=hp.length_eq;simpa using this.symm
  have:=xo (ys:=ys.erase x) h2 fun y hy=>(List.mem_erase_of_ne (a:=y) (b:=x) (fun e=>h1 (by rw [<- e];exact hy))).mpr (hs y (List.mem_cons_of_mem _ hy))
  simp only [List.length_cons]
  omega
def row (xs:List Int) (i:Int) (m:Nat):List Int:=(List.range (m + 1)).map (bp xs i)
theorem IK (xs:List Int) (i:Int) (m:Nat):row xs i (m + 1)=row xs i m ++ [bp xs i (m + 1)]:=by
 unfold row;rw [List.range_succ,List.map_append];rfl
theorem qE (xs:List Int) (i:Int) (m:Nat):(row xs i m).length=m + 1:=by simp [row]
theorem Cn {xs:List Int} {i:Int} {m:Nat} {x:Int}:x∈row xs i m↔∃ j,j<=m/\bp xs i j=x:=by
 unfold row
 rw [List.mem_map]
 constructor
 ·rintro ⟨j,hj,e⟩;exact ⟨j,by have:=List.mem_range.mp hj;omega,e⟩
 ·rintro ⟨j,hj,e⟩;exact ⟨j,List.mem_range.mpr (by omega),e⟩
def NB (xs:List Int) (i:Int) (m:Nat):Prop:=∀ j,1<=j->j<=m->bp xs i j≠i
theorem Tn.jL {n:Nat} {xs:List Int} (h:Tn n xs) {i:Int} (h0:0<=i) (h1:i < (n:Int)) {m:Nat} (nb:NB xs i m):m + 1<=n:=by
 have hn:(row xs i m).Nodup:=by
  unfold row List.Nodup
  rw [List.pairwise_map]
  refine List.Pairwise.imp_of_mem (R:=fun a b=>a < b) ?_ List.pairwise_lt_range
  intro a b ha hb hab e
  have ha':=List.mem_range.mp ha
  have hb':=List.mem_range.mp hb
  obtain ⟨d,rfl⟩:∃ d,b=a + d:=⟨b - a,by omega⟩
  exact nb d (by omega) (by omega) (h.back h0 h1 a d e)
 have:=xo hn (ys:=upto n) fun x hx=>by
  obtain ⟨j,_,rfl⟩:=Cn.mp hx
  exact lu.mpr (h.bp h0 h1 j)
 rw [qE,nH] at this
 exact this
structure gK (xs:List Int) (i:Int) (r:List Int):Prop where
 ex:∃ m,r=row xs i m/\NB xs i m/\bp xs i (m + 1)=i
theorem gK.mem {xs:List Int} {i:Int} {r:List Int} (a:gK xs i r):i∈r:=by
 obtain ⟨m,e1,_,_⟩:=a.ex
 rw [e1];exact Cn.mpr ⟨0,Nat.zero_le _,rfl⟩
theorem gK.len {n:Nat} {xs:List Int} (h:Tn n xs) {i:Int} (h0:0<=i) (h1:i < (n:Int)) {r:List Int} (a:gK xs i r):r.length<=n:=by
 obtain ⟨m,e1,nb,_⟩:=a.ex
 rw [e1,qE];exact h.jL h0 h1 nb
theorem gK.bound {n:Nat} {xs:List Int} (h:Tn n xs) {i:Int} (h0:0<=i) (h1:i < (n:Int)) {r:List Int} (a:gK xs i r):∀ x∈r,0<=x/\x < (n:Int):=by
 obtain ⟨m,e1,nb,_⟩:=a.ex
 subst e1
 intro x hx
 obtain ⟨j,_,rfl⟩:=Cn.mp hx
 exact h.bp h0 h1 j
def out (left r:List Int):List Int:=left.filter fun k=>!r.contains k
inductive sI (xs:List Int):List Int->List (List Int)->Prop
 | nil:sI xs [] []
 | cons {i:Int} {left r:List Int} {rs:List (List Int)}:gK xs i r->sI xs (out (i :: left) r) rs->sI xs (i :: left) (r :: rs)
def from' (n k:Nat) (seen:Int->Bool):List Int:=(((List.range n).drop k).map fun (j:Nat)=>(j:Int)).filter fun x=>!seen x
theorem MB (n:Nat) (seen:Int->Bool):from' n n seen=[]:=by
 unfold from';rw [List.drop_of_length_le (by simp)];rfl
theorem MC {n k:Nat} (h:k < n) (seen:Int->Bool):from' n k seen=if seen (k:Int) then from' n (k + 1) seen else (k:Int) :: from' n (k + 1) seen:=by
 unfold from'
 rw [List.drop_eq_getElem_cons (by simpa using h),List.map_cons,List.filter_cons]
 simp only [List.getElem_range]
 cases hs:seen (k:Int) <;> simp
theorem MD {n k:Nat} {seen:Int->Bool} {r:List Int}:out (from' n k seen) r=from' n k (fun x=>seen x || r.contains x):=by
 unfold out from'
 rw [List.filter_filter]
 congr 1
 funext x
 show (!r.contains x && !seen x)=!(seen x || r.contains x)
 cases seen x <;> cases r.contains x <;> rfl
theorem ME (n:Nat):from' n 0 (fun _=>false)=upto n:=by
 unfold from' upto
 rw [List.drop_zero]
 simp
def ow (n:Nat):List Int:=((List.range (n - 1)).map fun (k:Nat)=>(1:Int) + k) ++ [0]
theorem MF:∀ n,n < 21->0 < n->(ow n).isPerm (upto n)=true:=by decide
theorem IL {n:Nat} (h:n < 21) (h0:0 < n):Tn n (ow n):=List.isPerm_iff.mp (MF n h h0)
end af
namespace af
theorem y6 {n:Nat} {xs:List Int} (h:xs.length=n):(upto n).map (app xs)=xs:=by
 apply List.ext_getElem
 ·rw [List.length_map,nH,h]
 ·intro i h1 h2
  have e:=nI (xs:=xs) (i:=(i:Int)) (by omega) (by omega)
  simp only [Int.toNat_natCast] at e
  rw [List.getElem?_eq_getElem h2] at e
  rw [List.getElem_map]
  unfold upto
  simp only [List.getElem_map,List.getElem_range]
  exact (Option.some.inj e).symm
def inv (xs:List Int):List Int:=(upto xs.length).map fun i=>(xs.idxOf i:Int)
theorem Co (xs:List Int):(inv xs).length=xs.length:=by unfold inv;rw [List.length_map,nH]
theorem y8 {n i:Nat} (h:i < n):(upto n)[i]?=some (i:Int):=by
 unfold upto;rw [List.getElem?_map,List.getElem?_range h];rfl
theorem Cp {xs:List Int} {i:Int} (h0:0<=i) (h1:i < (xs.length:Int)):app (inv xs) i=(xs.idxOf i:Int):=by
 have e:=nI (xs:=inv xs) h0 (by rw [Co];exact h1)
 unfold inv at e
 rw [List.getElem?_map,y8 (by omega)] at e
 have:=Option.some.inj e
 rw [<- inv] at this
 rw [<- this,Int.toNat_of_nonneg h0]
theorem Tn.mem {n:Nat} {xs:List Int} (h:Tn n xs) {i:Int} (h0:0<=i) (h1:i < (n:Int)):i∈xs:=h.symm.subset (lu.mpr ⟨h0,h1⟩)
theorem Tn.idx {n:Nat} {xs:List Int} (h:Tn n xs) {i:Int} (h0:0<=i) (h1:i < (n:Int)):xs.idxOf i < n:=by rw [<- h.length];exact List.idxOf_lt_length_of_mem (h.mem h0 h1)
theorem Tn.cO {n:Nat} {xs:List Int} (h:Tn n xs) {i:Int} (h0:0<=i) (h1:i < (n:Int)):af.app xs (af.app (inv xs) i)=i:=by
 rw [Cp h0 (by rw [h.length];exact h1)]
 have hl:=h.idx h0 h1
 have e:=nI (xs:=xs) (i:=(xs.idxOf i:Int)) (by omega) (by rw [h.length];omega)
 rw [Int.toNat_natCast,List.getElem?_eq_getElem (by rw [h.length];exact hl)] at e
 rw [<- Option.some.inj e]
 exact List.getElem_idxOf _
theorem Tn.lb {n:Nat} {xs:List Int} (h:Tn n xs) {i:Int} (h0:0<=i) (h1:i < (n:Int)):0<=af.app (inv xs) i/\af.app (inv xs) i < (n:Int):=by
 rw [Cp h0 (by rw [h.length];exact h1)]
 have:=h.idx h0 h1
 omega
theorem Tn.gA {n:Nat} {xs:List Int} (h:Tn n xs) {i:Int} (h0:0<=i) (h1:i < (n:Int)):af.app (inv xs) (af.app xs i)=i:=by
 obtain ⟨a0,a1⟩:=h.app h0 h1
 obtain ⟨b0,b1⟩:=h.lb a0 a1
 exact h.inj b0 b1 h0 h1 (h.cO a0 a1)
theorem Tn.aw {n:Nat} {xs:List Int} (h:Tn n xs):Tn n (inv xs):=by
 have hl:=h.length
 unfold Tn
 have e:(inv xs).length=n:=by rw [Co,hl]
 have:=Fm (xs:=inv xs) ?_ ?_
 ·rw [e] at this;exact this
 ·unfold List.Nodup
  rw [List.pairwise_iff_getElem]
  intro i j hi hj hij z
  have a:=nI (xs:=inv xs) (i:=(i:Int)) (by omega) (by omega)
  have b:=nI (xs:=inv xs) (i:=(j:Int)) (by omega) (by omega)
  rw [Int.toNat_natCast,List.getElem?_eq_getElem hi] at a
  rw [Int.toNat_natCast,List.getElem?_eq_getElem hj] at b
  have a:=Option.some.inj a
  have b:=Option.some.inj b
  have c:=h.cO (i:=(i:Int)) (by omega) (by omega)
  have d:=h.cO (i:=(j:Int)) (by omega) (by omega)
  rw [<- a] at c
  rw [<- b,<- z] at d
  have:=c.symm.trans d
  omega
 ·intro x hx
  unfold inv at hx
  obtain ⟨i,hi,rfl⟩:=List.mem_map.mp hx
  have:=lu.mp hi
  rw [hl] at this
  have:=h.idx this.1 this.2
  rw [e];omega
theorem qF (xs:List Int) (i:Int) (j:Nat):∀ d,bp xs (bp xs i j) d=bp xs i (j + d)
 | 0=>rfl
 | d + 1=>by show app xs (bp xs (bp xs i j) d)=app xs (bp xs i (j + d));rw [qF xs i j d]
theorem IP {xs:List Int} {i:Int} {L:Nat} (h:bp xs i L=i) (a:Nat):bp xs i (a + L)=bp xs i a:=by
 rw [Nat.add_comm,<- qF xs i L a,h]
theorem y9 {xs:List Int} {i:Int} {L:Nat} (h:bp xs i L=i):∀ (q r:Nat),bp xs i (r + L * q)=bp xs i r
 | 0,r=>rfl
 | q + 1,r=>by rw [Nat.mul_succ,<- Nat.add_assoc,IP h];exact y9 h q r
theorem IQ {xs:List Int} {i:Int} {L:Nat} (h:bp xs i L=i) (a:Nat):bp xs i (a % L)=bp xs i a:=by
 have:=y9 h (a / L) (a % L)
 rw [Nat.mod_add_div] at this
 exact this.symm
def IU (xs:List Int) (k i v:Int):Prop:=∃ m,NB xs i m/\bp xs i (m + 1)=i/\v=bp xs i (k % ((m + 1:Nat):Int)).toNat
theorem Tn.uQ {n:Nat} {xs:List Int} (h:Tn n xs) {i:Int} (h0:0<=i) (h1:i < (n:Int)) {m:Nat} (nb:NB xs i m) (bk:af.bp xs i (m + 1)=i) (j:Nat) (k:Int) :
  IU xs k (af.bp xs i j) (af.bp xs i (((j:Int) + k) % ((m + 1:Nat):Int)).toNat):=by
 refine ⟨m,fun d d1 d2 e=>?_,?_,?_⟩
 ·rw [qF] at e
  exact nb d d1 d2 (h.back h0 h1 j d e.symm)
 ·rw [qF,IP bk]
 ·rw [qF]
  rw [<- IQ bk (j + (k % ((m + 1:Nat):Int)).toNat)]
  congr 1
  have hL:(0:Int) < ((m + 1:Nat):Int):=by omega
  have k0:=Int.emod_nonneg k (Int.ne_of_gt hL)
  have e:(((j + (k % ((m + 1:Nat):Int)).toNat) % (m + 1):Nat):Int)=((j:Int) + k) % ((m + 1:Nat):Int):=by
   rw [Int.natCast_emod,Int.natCast_add,Int.toNat_of_nonneg k0,Int.add_emod_emod]
  rw [<- e,Int.toNat_natCast]
theorem sI.all {xs:List Int}:∀ {left:List Int} {rs:List (List Int)},sI xs left rs->(∀ r∈rs,∃ i∈left,gK xs i r)/\∀ x∈left,∃ r∈rs,x∈r:=by
 intro left rs a
 induction a with
 | nil=>exact ⟨fun r hr=>(nomatch hr),fun x hx=>(nomatch hx)⟩
 | cons h1 _ ih =>
  refine ⟨fun r hr=>?_,fun x hx=>?_⟩
  ·rcases List.mem_cons.mp hr with rfl | hr
   ·exact ⟨_,List.mem_cons_self,h1⟩
   ·obtain ⟨i,hi,r'⟩:=ih.1 r hr
    exact ⟨i,(List.mem_filter.mp hi).1,r'⟩
  ·rename_i i left r rs _
   by_cases hc:x∈r
   ·exact ⟨r,List.mem_cons_self,hc⟩
   ·obtain ⟨r',hr',hx'⟩:=ih.2 x (List.mem_filter.mpr ⟨hx,by simp [hc]⟩)
    exact ⟨r',List.mem_cons_of_mem _ hr',hx'⟩
theorem MG {n:Nat} {xs:List Int} (h:Tn n xs):xs.map (app (inv xs))=upto n:=by
 have e:((upto n).map (app xs)).map (app (inv xs))=upto n:=by
  rw [List.map_map]
  conv=>rhs;rw [<- List.map_id (upto n)]
  apply List.map_congr_left
  intro x hx
  obtain ⟨a,b⟩:=lu.mp hx
  exact h.gA a b
 rw [y6 h.length] at e
 exact e
theorem MH {n:Nat} {xs:List Int} (h:Tn n xs):(inv xs).map (app xs)=upto n:=by
 have e:((upto n).map (app (inv xs))).map (app xs)=upto n:=by
  rw [List.map_map]
  conv=>rhs;rw [<- List.map_id (upto n)]
  apply List.map_congr_left
  intro x hx
  obtain ⟨a,b⟩:=lu.mp hx
  exact h.cO a b
 rw [y6 (h.aw).length] at e
 exact e
end af
namespace af
inductive iL (xs ys:List Int):Int->Prop
 | zero:iL xs ys 0
 | r {x:Int}:iL xs ys x->iL xs ys (app xs x)
 | u {x:Int}:iL xs ys x->iL xs ys (app ys x)
theorem iL.bound {n:Nat} {xs ys:List Int} (hx:Tn n xs) (hy:Tn n ys) (h0:0 < n) {x:Int} (h:iL xs ys x):0<=x/\x < (n:Int):=by
 induction h with
 | zero=>omega
 | r _ ih=>exact hx.app ih.1 ih.2
 | u _ ih=>exact hy.app ih.1 ih.2
theorem iL.bp {xs ys:List Int} {x:Int} (h:iL xs ys x):∀ k,iL xs ys (af.bp xs x k)
 | 0=>h
 | k + 1=>.r (h.bp k)
def mf (xs:List Int) (m:Nat):List Int:=(xs.set 0 (app xs m)).set m (app xs 0)
theorem MI (xs:List Int) (m:Nat):(mf xs m).length=xs.length:=by simp [mf]
theorem Fn {xs:List Int} {m:Nat} {v x:Int} (hm:m < xs.length) (h0:0<=x):app (xs.set m v) x=if x=(m:Int) then v else app xs x:=by
 unfold app
 rw [List.getD_eq_getElem?_getD,List.getD_eq_getElem?_getD]
 by_cases hx:x=(m:Int)
 ·rw [if_pos hx,hx,Int.toNat_natCast,List.getElem?_set_self hm];rfl
 ·rw [if_neg hx,List.getElem?_set_ne (by omega)]
theorem xq {xs:List Int} {m:Nat} (hm:m < xs.length) {x:Int} (h0:0<=x):app (mf xs m) x=if x=(m:Int) then app xs 0 else if x=0 then app xs m else app xs x:=by
 unfold mf
 rw [Fn (by simpa using hm) h0,Fn (by omega) h0]
 rfl
theorem uR {n:Nat} {xs:List Int} (h:Tn n xs) {m:Nat} (hm:m < n):Tn n (mf xs m):=by
 have hl:=h.length
 have e:(mf xs m).length=n:=by rw [MI,hl]
 have:=Fm (xs:=mf xs m) ?_ ?_
 ·unfold Tn;rw [e] at this;exact this
 ·unfold List.Nodup
  rw [List.pairwise_iff_getElem]
  intro i j hi hj hij z
  have a:=nI (xs:=mf xs m) (i:=(i:Int)) (by omega) (by omega)
  have b:=nI (xs:=mf xs m) (i:=(j:Int)) (by omega) (by omega)
  rw [Int.toNat_natCast,List.getElem?_eq_getElem hi] at a
  rw [Int.toNat_natCast,List.getElem?_eq_getElem hj] at b
  have a:=Option.some.inj a
  have b:=Option.some.inj b
  rw [xq (by omega) (by omega)] at a b
  rw [a,b] at z
  have inj:∀ p q:Int,0<=p->p < (n:Int)->0<=q->q < (n:Int)->app xs p=app xs q->p=q:=fun p q p0 p1 q0 q1=>h.inj p0 p1 q0 q1
  split at z <;> split at z <;> (try split at z) <;> (try split at z) <;> (first | omega | (have:=inj _ _ (by omega) (by omega) (by omega) (by omega) z;omega))
 ·intro x hx
  obtain ⟨i,hi,rfl⟩:=List.getElem_of_mem hx
  have a:=nI (xs:=mf xs m) (i:=(i:Int)) (by omega) (by omega)
  rw [Int.toNat_natCast,List.getElem?_eq_getElem hi] at a
  rw [Option.some.inj a,xq (by omega) (by omega),e]
  split
  ·exact h.app (by omega) (by omega)
  ·split
   ·exact h.app (by omega) (by omega)
   ·exact h.app (by omega) (by omega)
theorem Tn.rq {n:Nat} {xs:List Int} (h:Tn n xs) {i:Int} (h0:0<=i) (h1:i < (n:Int)):∃ m,NB xs i m/\af.bp xs i (m + 1)=i:=by
 by_cases hb:∃ m,m < n/\af.bp xs i (m + 1)=i
 ·-- the least
  have key:∀ b:Nat,(∃ m,m < b/\af.bp xs i (m + 1)=i)->∃ m,NB xs i m/\af.bp xs i (m + 1)=i:=by
   intro b
   induction b with
   | zero=>rintro ⟨m,hm,_⟩;omega
   | succ b ih =>
    rintro ⟨m,hm,e⟩
    by_cases hc:∃ m,m < b/\af.bp xs i (m + 1)=i
    ·exact ih hc
    ·refine ⟨m,fun j j1 j2 z=>hc ⟨j - 1,by omega,?_⟩,e⟩
     have:j - 1 + 1=j:=by omega
     rw [this];exact z
  exact key n hb
 ·have nb:NB xs i n:=fun j j1 j2 z=>by
   refine hb ⟨j - 1,by omega,?_⟩
   have:j - 1 + 1=j:=by omega
   rw [this];exact z
  have:=h.jL h0 h1 nb
  omega
theorem MJ {n:Nat} {xs ys:List Int} (hx:Tn n xs) (hy:Tn n ys) {m:Nat} (hm:m < n) (nm:¬ iL xs ys (m:Int)):iL (mf xs m) ys (m:Int)/\∀ x,iL xs ys x->iL (mf xs m) ys x:=by
 have hl:=hx.length
 have m0:m≠0:=fun z=>nm (by rw [z];exact .zero)
 obtain ⟨M,nb,bk⟩:=hx.rq (i:=(m:Int)) (by omega) (by omega)
 have MK:∀ j,af.bp xs (m:Int) j≠0:=by
  intro j z
  have h':iL xs ys (af.bp xs (af.bp xs (m:Int) j) ((M + 1) * j)):=by rw [z];exact iL.zero.bp _
  rw [qF] at h'
  have e2:af.bp xs (m:Int) ((M + 1) * (j + 1))=(m:Int):=by
   have:=y9 bk (j + 1) 0
   rw [Nat.zero_add] at this
   exact this
  have h3:=h'.bp ((M + 1) * (j + 1) - (j + (M + 1) * j))
  rw [qF] at h3
  have e3:j + (M + 1) * j + ((M + 1) * (j + 1) - (j + (M + 1) * j))=if j + (M + 1) * j<=(M + 1) * (j + 1) then (M + 1) * (j + 1) else j + (M + 1) * j:=by split <;> omega
  rw [e3] at h3
  by_cases hc:j + (M + 1) * j<=(M + 1) * (j + 1)
  ·rw [if_pos hc,e2] at h3
   exact nm h3
  ·-- round as often as needed
   have h4:=h'.bp ((M + 1) * (2 * j + 2) - (j + (M + 1) * j))
   rw [qF] at h4
   have hbig:j + (M + 1) * j<=(M + 1) * (2 * j + 2):=by
    have a1:(M + 1) * (2 * j + 2)=(M + 1) * j + ((M + 1) * j + (M + 1) * 2):=by rw [<- Nat.mul_add,<- Nat.mul_add];congr 1;omega
    have a2:j<=(M + 1) * j:=Nat.le_mul_of_pos_left j (by omega)
    omega
   have e5:j + (M + 1) * j + ((M + 1) * (2 * j + 2) - (j + (M + 1) * j))=(M + 1) * (2 * j + 2):=by omega
   rw [e5] at h4
   have:=y9 bk (2 * j + 2) 0
   rw [Nat.zero_add] at this
   rw [this] at h4
   exact nm h4
 have ring:∀ j,j<=M->iL (mf xs m) ys (af.bp xs (m:Int) (j + 1)):=by
  intro j
  induction j with
  | zero =>
   intro _
   have h1:iL (mf xs m) ys (af.app (mf xs m) 0):=.r .zero
   rw [xq (by omega) (by omega),if_neg (by omega),if_pos rfl] at h1
   exact h1
  | succ j ih =>
   intro hj
   have h1:=(ih (by omega)).r
   have b:=hx.bp (i:=(m:Int)) (by omega) (by omega) (j + 1)
   rw [xq (by omega) b.1,if_neg (nb (j + 1) (by omega) (by omega)),if_neg (MK (j + 1))] at h1
   exact h1
 have IV:iL (mf xs m) ys (m:Int):=by have:=ring M (Nat.le_refl _);rwa [bk] at this
 refine ⟨IV,fun x h=>?_⟩
 have hpos:0 < n:=by omega
 induction h with
 | zero=>exact .zero
 | r hx' ih =>
  rename_i x
  have b:=hx'.bound hx hy hpos
  by_cases h0:x=0
  ·have h1:=IV.r
   rw [xq (by omega) (by omega),if_pos rfl] at h1
   rw [h0];exact h1
  ·have ML:x≠(m:Int):=fun z=>nm (by rw [<- z];exact hx')
   have h1:=ih.r
   rw [xq (by omega) b.1,if_neg ML,if_neg h0] at h1
   exact h1
 | u _ ih=>exact ih.u
def Cl (xs ys F:List Int):Prop:=∀ x∈F,app xs x∈F/\app ys x∈F
theorem Cl.all {xs ys F:List Int} (h:Cl xs ys F) (h0:(0:Int)∈F) {x:Int} (r:iL xs ys x):x∈F:=by
 induction r with
 | zero=>exact h0
 | r _ ih=>exact (h _ ih).1
 | u _ ih=>exact (h _ ih).2
structure Fd (xs ys:List Int) (F:List Int):Prop where
 z:(0:Int)∈F
 nd:F.Nodup
 mt:∀ x∈F,iL xs ys x
theorem Fd.len {n:Nat} {xs ys F:List Int} (h:Fd xs ys F) (hx:Tn n xs) (hy:Tn n ys) (h0:0 < n):F.length<=n:=by
 have:=xo h.nd (ys:=upto n) fun x hx'=>lu.mpr ((h.mt x hx').bound hx hy h0)
 rw [nH] at this
 exact this
theorem Fd.one (xs ys:List Int):Fd xs ys [0]:=⟨by simp,by simp,fun x hx=>(show x=0 by simpa using hx) ▸ .zero⟩
theorem round {xs ys F F1 F2:List Int} (d:Fd xs ys F) (d2:Fd xs ys F2) (p1:F <+: F1) (p2:F1 <+: F2) (c1:∀ x∈F,app xs x∈F1) (c2:∀ x∈F1,app ys x∈F2) {t:Nat} (h:Cl xs ys F\/t + 1<=F.length):Cl xs ys F2\/t + 1 + 1<=F2.length:=by
 have p:=p1.trans p2
 by_cases hc:Cl xs ys F
 ·refine .inl fun x hx=>?_
  have hF:=hc.all d.z (d2.mt x hx)
  exact ⟨p.subset (hc x hF).1,p.subset (hc x hF).2⟩
 ·have hl:=h.resolve_left hc
  by_cases he:F2.length<=F.length
  ·refine absurd ?_ hc
   have e2:F2=F:=(p.eq_of_length (by have:=p.length_le;omega)).symm
   have e1:F1=F:=by
    have a:=p1.length_le
    have b:=p2.length_le
    exact (p1.eq_of_length (by omega)).symm
   intro x hx
   refine ⟨?_,?_⟩
   ·have:=c1 x hx;rwa [e1] at this
   ·have:=c2 x (by rw [e1];exact hx);rwa [e2] at this
  ·exact .inr (by omega)
def p6 (w n:Nat):List Int:=((List.range (w - 1)).map fun (k:Nat)=>(1:Int) + k) ++ [0] ++ ((List.range (n - w)).map fun (k:Nat)=>(w:Int) + k)
def rz (w n:Nat):List Int:=[(w:Int)] ++ ((List.range (w - 1)).map fun (k:Nat)=>(1:Int) + k) ++ ((List.range (n - (w + 1))).map fun (k:Nat)=>((w:Int) + 1) + k) ++ [0]
theorem MN:∀ n,n < 21->∀ w,w < n + 1->0 < w->(p6 w n).isPerm (upto n)=true:=by decide +kernel
theorem MO:∀ n,n < 21->∀ w,w < n->0 < w->(rz w n).isPerm (upto n)=true:=by decide +kernel
theorem MP {w n:Nat} (h:n < 21) (h1:w<=n) (h0:0 < w):Tn n (p6 w n):=List.isPerm_iff.mp (MN n h w (by omega) h0)
theorem MQ {w n:Nat} (h:n < 21) (h1:w < n) (h0:0 < w):Tn n (rz w n):=List.isPerm_iff.mp (MO n h w h1 h0)
theorem less {L L':List Int} {m:Int} (nd:L'.Nodup) (hs:∀ x∈L',x∈L) (hm:m∈L) (hm':m ∉ L'):L'.length < L.length:=by
 have hp:=List.perm_cons_erase hm
 have hlen:(L.erase m).length + 1=L.length:=by have:=hp.length_eq;simpa using this.symm
 have:=xo (ys:=L.erase m) nd fun x hx=>(List.mem_erase_of_ne (fun e=>hm' (by rw [<- e];exact hx))).mpr (hs x hx)
 omega
end af
namespace af
def a6 (xs ys:List Int):List Int:=xs.map (app ys)
theorem za (xs ys:List Int):(a6 xs ys).length=xs.length:=by simp [a6]
theorem oy {n:Nat} {xs ys:List Int} (hx:xs.length=n) (hy:ys.length=n) (h:∀ s:Int,0<=s->s < (n:Int)->app xs s=app ys s):xs=ys:=by
 rw [<- y6 hx,<- y6 hy]
 apply List.map_congr_left
 intro s hs
 obtain ⟨h0,h1⟩:=lu.mp hs
 exact h s h0 h1
theorem nJ {xs ys:List Int} {s:Int} (h0:0<=s) (h1:s < (xs.length:Int)):app (a6 xs ys) s=app ys (app xs s):=by
 have e:=nI (xs:=a6 xs ys) h0 (by rw [za];exact h1)
 unfold a6 at e
 rw [List.getElem?_map,nI h0 h1] at e
 exact (Option.some.inj e).symm
theorem Tn.p7 {n:Nat} {xs:List Int} (hl:xs.length=n) (hb:∀ s:Int,0<=s->s < (n:Int)->0<=af.app xs s/\af.app xs s < (n:Int)) (hi:∀ s t:Int,0<=s->s < (n:Int)->0<=t->t < (n:Int)->af.app xs s=af.app xs t->s=t):Tn n xs:=by
 have el:∀ (i:Nat) (h:i < xs.length),xs[i]=af.app xs (i:Int):=fun i h=>by
  have a:=nI (xs:=xs) (i:=(i:Int)) (by omega) (by omega)
  rw [Int.toNat_natCast,List.getElem?_eq_getElem h] at a
  exact Option.some.inj a
 have:=Fm (xs:=xs) ?_ ?_
 ·unfold Tn;rw [hl] at this;exact this
 ·unfold List.Nodup
  rw [List.pairwise_iff_getElem]
  intro i j h1 h2 hij z
  rw [el i h1,el j h2] at z
  have:=hi i j (by omega) (by omega) (by omega) (by omega) z
  omega
 ·intro x hx
  obtain ⟨i,h,rfl⟩:=List.getElem_of_mem hx
  rw [el i h,hl]
  exact hb i (by omega) (by omega)
theorem Tn.a6 {n:Nat} {xs ys:List Int} (hx:Tn n xs) (hy:Tn n ys):Tn n (a6 xs ys):=by
 have hl:=hx.length
 refine Tn.p7 (by rw [za];exact hl) (fun s h0 h1=>?_) fun s t s0 s1 t0 t1 e=>?_
 ·rw [nJ h0 (by omega)]
  obtain ⟨a,b⟩:=hx.app h0 h1
  exact hy.app a b
 ·rw [nJ s0 (by omega),nJ t0 (by omega)] at e
  obtain ⟨a,b⟩:=hx.app s0 s1
  obtain ⟨c,d⟩:=hx.app t0 t1
  exact hx.inj s0 s1 t0 t1 (hy.inj a b c d e)
theorem Tn.rA {n:Nat} {xs ys:List Int} (hx:Tn n xs) (hy:Tn n ys) {s:Int} (h0:0<=s) (h1:s < (n:Int)):af.app (inv (af.a6 xs ys)) s=af.app (inv xs) (af.app (inv ys) s):=by
 have hf:=hx.a6 hy
 obtain ⟨a0,a1⟩:=hy.lb h0 h1
 obtain ⟨b0,b1⟩:=hx.lb a0 a1
 obtain ⟨c0,c1⟩:=hf.lb h0 h1
 refine hf.inj c0 c1 b0 b1 ?_
 rw [hf.cO h0 h1,nJ b0 (by rw [hx.length];exact b1),hx.cO a0 a1,hy.cO h0 h1]
def anew (xs p:List Int):List Int:=a6 (a6 (inv p) xs) p
theorem Tn.anew {n:Nat} {xs p:List Int} (hx:Tn n xs) (hp:Tn n p):Tn n (anew xs p):=(hp.aw.a6 hx).a6 hp
theorem Tn.gB {n:Nat} {xs p:List Int} (hx:Tn n xs) (hp:Tn n p) {s:Int} (h0:0<=s) (h1:s < (n:Int)):af.app (af.anew xs p) s=af.app p (af.app xs (af.app (inv p) s)):=by
 have hl:=hp.aw.length
 unfold af.anew
 rw [nJ h0 (by rw [za,hl];exact h1),nJ h0 (by rw [hl];exact h1)]
theorem Tn.kd {n:Nat} {xs p:List Int} (hx:Tn n xs) (hp:Tn n p) {s:Int} (h0:0<=s) (h1:s < (n:Int)):af.app (af.anew xs p) (af.app p s)=af.app p (af.app xs s):=by
 obtain ⟨a,b⟩:=hp.app h0 h1
 rw [hx.gB hp a b,hp.gA h0 h1]
theorem Tn.my {n:Nat} {xs p q:List Int} (hx:Tn n xs) (hp:Tn n p) (hq:Tn n q):af.anew (af.anew xs p) q=af.anew xs (af.a6 p q):=by
 have hf:=hp.a6 hq
 refine oy (n:=n) ((hx.anew hp).anew hq).length (hx.anew hf).length fun s h0 h1=>?_
 obtain ⟨a0,a1⟩:=hq.lb h0 h1
 obtain ⟨b0,b1⟩:=hp.lb a0 a1
 obtain ⟨c0,c1⟩:=hx.app b0 b1
 rw [(hx.anew hp).gB hq h0 h1,hx.gB hp a0 a1,hx.gB hf h0 h1,hp.rA hq h0 h1,nJ c0 (by rw [hp.length];exact c1)]
theorem Tn.mz {n:Nat} {xs p:List Int} (hx:Tn n xs) (hp:Tn n p):af.anew (af.anew xs p) (inv p)=xs:=by
 refine oy (n:=n) ((hx.anew hp).anew hp.aw).length hx.length fun s h0 h1=>?_
 obtain ⟨a0,a1⟩:=hp.aw.lb h0 h1
 have e:af.app (inv (inv p)) s=af.app p s:=by
  obtain ⟨b0,b1⟩:=hp.app h0 h1
  refine hp.aw.inj a0 a1 b0 b1 ?_
  rw [hp.aw.cO h0 h1,hp.gA h0 h1]
 obtain ⟨b0,b1⟩:=hp.app h0 h1
 obtain ⟨c0,c1⟩:=hx.app h0 h1
 rw [(hx.anew hp).gB hp.aw h0 h1,e,hx.kd hp h0 h1,hp.gA c0 c1]
end af
namespace af
def cF (F:List Int) (x:Int):List Int:=if x∈F then F else F ++ [x]
theorem sJ (F:List Int) (x:Int):F <+: cF F x:=by
 unfold cF;split
 ·exact List.prefix_refl _
 ·exact List.prefix_append _ _
theorem oz {F:List Int} {x y:Int}:y∈cF F x↔y∈F\/y=x:=by
 unfold cF;split
 ·next h=>exact ⟨.inl,fun z=>z.elim id fun e=>e ▸ h⟩
 ·rw [List.mem_append,List.mem_singleton]
theorem IW {F:List Int} {x:Int} (h:F.Nodup):(cF F x).Nodup:=by
 unfold cF;split
 ·exact h
 ·next hx =>
  rw [List.nodup_append]
  exact ⟨h,by simp,fun a ha b hb e=>hx (by rw [List.mem_singleton] at hb;rw [<- hb,<- e];exact ha)⟩
def visit (xs ys F:List Int) (x:Int):List Int:=cF (cF F (app xs x)) (app ys x)
def bf (xs ys:List Int) (s:Int):Nat->List Int
 | 0=>[s]
 | k + 1=>match (bf xs ys s k)[k]? with
  | some x=>visit xs ys (bf xs ys s k) x
  | none=>bf xs ys s k
theorem MR (xs ys:List Int) (s:Int) (k:Nat):bf xs ys s k <+: bf xs ys s (k + 1):=by
 show _ <+: (match (bf xs ys s k)[k]? with | some x=>visit xs ys (bf xs ys s k) x | none=>bf xs ys s k)
 split
 ·exact (sJ _ _).trans (sJ _ _)
 ·exact List.prefix_refl _
theorem xr (xs ys:List Int) (s:Int) (k:Nat):∀ d,bf xs ys s k <+: bf xs ys s (k + d)
 | 0=>List.prefix_refl _
 | d + 1=>(xr xs ys s k d).trans (MR xs ys s (k + d))
theorem uS (xs ys:List Int) (s:Int):∀ k,(bf xs ys s k).Nodup
 | 0=>by show [s].Nodup;simp
 | k + 1=>by
  show (match (bf xs ys s k)[k]? with | some x=>visit xs ys (bf xs ys s k) x | none=>bf xs ys s k).Nodup
  split
  ·exact IW (IW (uS xs ys s k))
  ·exact uS xs ys s k
theorem Cq {xs ys:List Int} {s:Int} {k:Nat} (h:(bf xs ys s k).length<=k):∀ d,bf xs ys s (k + d)=bf xs ys s k
 | 0=>rfl
 | d + 1=>by
  have e:=Cq h d
  show (match (bf xs ys s (k + d))[k + d]? with | some x=>visit xs ys (bf xs ys s (k + d)) x | none=>bf xs ys s (k + d))=_
  rw [e,List.getElem?_eq_none (by omega)]
section
variable {n:Nat} {xs ys:List Int} {s:Int}
theorem oY (hx:Tn n xs) (hy:Tn n ys) (s0:0<=s) (s1:s < (n:Int)):∀ k,∀ x∈bf xs ys s k,0<=x/\x < (n:Int)
 | 0,x,h=>by rw [List.mem_singleton.mp (show x∈[s] from h)];exact ⟨s0,s1⟩
 | k + 1,x,h=>by
  have ih:=oY hx hy s0 s1 k
  have h':x∈(match (bf xs ys s k)[k]? with | some y=>visit xs ys (bf xs ys s k) y | none=>bf xs ys s k):=h
  split at h'
  ·next y hy' =>
   obtain ⟨y0,y1⟩:=ih y (List.mem_of_getElem? hy')
   rcases oz.mp h' with h' | rfl
   ·rcases oz.mp h' with h' | rfl
    ·exact ih x h'
    ·exact hx.app y0 y1
   ·exact hy.app y0 y1
  ·exact ih x h'
theorem zb (hx:Tn n xs) (hy:Tn n ys) (s0:0<=s) (s1:s < (n:Int)) (k:Nat):(bf xs ys s k).length<=n:=by
 have:=xo (uS xs ys s k) (ys:=upto n) fun x h=>lu.mpr (oY hx hy s0 s1 k x h)
 rw [nH] at this
 exact this
theorem zc {k i:Nat} (hik:i<=k) {x:Int} (h:(bf xs ys s k)[i]?=some x):(bf xs ys s i)[i]?=some x:=by
 obtain ⟨d,rfl⟩:∃ d,k=i + d:=⟨k - i,by omega⟩
 by_cases hl:(bf xs ys s i).length<=i
 ·rw [Cq hl d] at h
  exact h
 ·obtain ⟨t,e⟩:=xr xs ys s i d
  rw [<- e,List.getElem?_append_left (by omega)] at h
  exact h
theorem Fp (hx:Tn n xs) (hy:Tn n ys) (s0:0<=s) (s1:s < (n:Int)):Cl xs ys (bf xs ys s n):=by
 intro x hm
 obtain ⟨i,hi,e⟩:=List.getElem_of_mem hm
 have hl:=zb hx hy s0 s1 n
 have hi':(bf xs ys s i)[i]?=some x:=zc (k:=n) (by omega) (by rw [List.getElem?_eq_getElem hi,e])
 have hs:visit xs ys (bf xs ys s i) x <+: bf xs ys s n:=by
  have:=xr xs ys s (i + 1) (n - (i + 1))
  rw [show i + 1 + (n - (i + 1))=n by omega] at this
  have e2:bf xs ys s (i + 1)=visit xs ys (bf xs ys s i) x:=by
   show (match (bf xs ys s i)[i]? with | some x=>visit xs ys (bf xs ys s i) x | none=>bf xs ys s i)=_
   rw [hi']
  rw [<- e2];exact this
 refine ⟨hs.subset ?_,hs.subset ?_⟩
 ·exact oz.mpr (.inl (oz.mpr (.inr rfl)))
 ·exact oz.mpr (.inr rfl)
theorem zd {zs F:List Int} (hz:Tn n zs) (nd:F.Nodup) (hb:∀ x∈F,0<=x/\x < (n:Int)) (hc:∀ x∈F,app zs x∈F) {y:Int} (y0:0<=y) (y1:y < (n:Int)) (h:app zs y∈F):y∈F:=by
 have MS:(F.map (app zs)).Nodup:=by
  unfold List.Nodup
  rw [List.pairwise_map]
  refine List.Pairwise.imp_of_mem (fun {a b} ha hb' hab e=>?_) nd
  obtain ⟨a0,a1⟩:=hb a ha
  obtain ⟨b0,b1⟩:=hb b hb'
  exact hab (hz.inj a0 a1 b0 b1 e)
 have pm:(F.map (app zs)).Perm F:=Cm MS (fun x hx=>by obtain ⟨z,hz',rfl⟩:=List.mem_map.mp hx;exact hc z hz') (by simp)
 obtain ⟨z,xt,e⟩:=List.mem_map.mp (pm.symm.subset h)
 obtain ⟨z0,z1⟩:=hb z xt
 rw [<- hz.inj z0 z1 y0 y1 e];exact xt
theorem IX (hx:Tn n xs) (hy:Tn n ys) (s0:0<=s) (s1:s < (n:Int)) (all:∀ x:Int,0<=x->x < (n:Int)->iL xs ys x) {x:Int} (x0:0<=x) (x1:x < (n:Int)):x∈bf xs ys s n:=by
 have cl:=Fp hx hy s0 s1
 have nd:=uS xs ys s n
 have bd:=oY hx hy s0 s1 n
 have hs:s∈bf xs ys s n:=by
  have:=xr xs ys s 0 n
  rw [Nat.zero_add] at this
  exact this.subset (show s∈[s] by simp)
 have hpos:0 < n:=by omega
 have zero:∀ y,iL xs ys y->y∈bf xs ys s n->(0:Int)∈bf xs ys s n:=by
  intro y hr
  induction hr with
  | zero=>exact id
  | r h ih =>
   intro hm
   obtain ⟨a,b⟩:=h.bound hx hy hpos
   exact ih (zd hx nd bd (fun x hx'=>(cl x hx').1) a b hm)
  | u h ih =>
   intro hm
   obtain ⟨a,b⟩:=h.bound hx hy hpos
   exact ih (zd hy nd bd (fun x hx'=>(cl x hx').2) a b hm)
 exact cl.all (zero s (all s s0 s1) hs) (all x x0 x1)
theorem Cr (hx:Tn n xs) (hy:Tn n ys) (s0:0<=s) (s1:s < (n:Int)) (all:∀ x:Int,0<=x->x < (n:Int)->iL xs ys x):Tn n (bf xs ys s n) :=
 Cm (uS xs ys s n) (fun x h=>lu.mpr (oY hx hy s0 s1 n x h)) (by
  have:=xo (IJ n) (ys:=bf xs ys s n) fun x h=>by obtain ⟨a,b⟩:=lu.mp h;exact IX hx hy s0 s1 all a b
  exact this)
theorem IY {p F:List Int} (hp:Tn n p) (hb:∀ x∈F,0<=x/\x < (n:Int)) {x:Int} (x0:0<=x) (x1:x < (n:Int)):cF (F.map (app p)) (app p x)=(cF F x).map (app p):=by
 unfold cF
 have e:app p x∈F.map (app p)↔x∈F:=⟨fun h=>by
  obtain ⟨y,hy,e⟩:=List.mem_map.mp h
  obtain ⟨y0,y1⟩:=hb y hy
  rw [<- hp.inj y0 y1 x0 x1 e];exact hy,fun h=>List.mem_map.mpr ⟨x,h,rfl⟩⟩
 by_cases h:x∈F
 ·rw [if_pos h,if_pos (e.mpr h)]
 ·rw [if_neg h,if_neg fun z=>h (e.mp z),List.map_append];rfl
theorem Fq {p:List Int} (hx:Tn n xs) (hy:Tn n ys) (hp:Tn n p) (s0:0<=s) (s1:s < (n:Int)):∀ k,bf (anew xs p) (anew ys p) (app p s) k=(bf xs ys s k).map (app p)
 | 0=>rfl
 | k + 1=>by
  have ih:=Fq hx hy hp s0 s1 k
  show (match (bf (anew xs p) (anew ys p) (app p s) k)[k]? with | some x=>visit (anew xs p) (anew ys p) (bf (anew xs p) (anew ys p) (app p s) k) x | none=>bf (anew xs p) (anew ys p) (app p s) k)=(match (bf xs ys s k)[k]? with | some x=>visit xs ys (bf xs ys s k) x | none=>bf xs ys s k).map (app p)
  rw [ih,List.getElem?_map]
  cases h:(bf xs ys s k)[k]? with
  | none=>rfl
  | some x =>
   obtain ⟨x0,x1⟩:=oY hx hy s0 s1 k x (List.mem_of_getElem? h)
   obtain ⟨a0,a1⟩:=hx.app x0 x1
   obtain ⟨b0,b1⟩:=hy.app x0 x1
   show visit (anew xs p) (anew ys p) ((bf xs ys s k).map (app p)) (app p x)=(visit xs ys (bf xs ys s k) x).map (app p)
   unfold visit
   rw [hx.kd hp x0 x1,hy.kd hp x0 x1,IY hp (oY hx hy s0 s1 k) a0 a1,IY hp (fun z hz=>?_) b0 b1]
   rcases oz.mp hz with hz | rfl
   ·exact oY hx hy s0 s1 k z hz
   ·exact ⟨a0,a1⟩
end
def num (zs sq:List Int):List Int:=sq.map fun o=>(sq.idxOf (app zs o):Int)
theorem Tn.inv_inv {n:Nat} {p:List Int} (hp:Tn n p):inv (inv p)=p:=by
 refine oy (n:=n) hp.aw.aw.length hp.length fun s h0 h1=>?_
 obtain ⟨a0,a1⟩:=hp.aw.lb h0 h1
 obtain ⟨b0,b1⟩:=hp.app h0 h1
 refine hp.aw.inj a0 a1 b0 b1 ?_
 rw [hp.aw.cO h0 h1,hp.gA h0 h1]
theorem Cs {n:Nat} {zs sq:List Int} (hz:Tn n zs) (hs:Tn n sq):anew zs (inv sq)=num zs sq:=by
 unfold anew num a6
 rw [hs.inv_inv,List.map_map]
 apply List.map_congr_left
 intro o ho
 obtain ⟨o0,o1⟩:=hs.bound ho
 obtain ⟨a0,a1⟩:=hz.app o0 o1
 exact Cp a0 (by rw [hs.length];exact a1)
theorem IZ {n:Nat} {p:List Int} (hp:Tn n p):∀ {sq:List Int},(∀ x∈sq,0<=x/\x < (n:Int))->∀ {y:Int},0<=y->y < (n:Int)->(sq.map (app p)).idxOf (app p y)=sq.idxOf y
 | [],_,_,_,_=>rfl
 | a :: r,hb,y,y0,y1=>by
  obtain ⟨a0,a1⟩:=hb a List.mem_cons_self
  rw [List.map_cons,List.idxOf_cons,List.idxOf_cons,IZ hp (fun x hx=>hb x (List.mem_cons_of_mem _ hx)) y0 y1]
  by_cases e:a=y
  ·rw [e];simp
  ·have e2:app p a≠app p y:=fun z=>e (hp.inj a0 a1 y0 y1 z)
   rw [show (a == y)=false by simpa using e,show (app p a == app p y)=false by simpa using e2]
theorem I0 {n:Nat} {zs sq p:List Int} (hz:Tn n zs) (hp:Tn n p) (hb:∀ x∈sq,0<=x/\x < (n:Int)):num (anew zs p) (sq.map (app p))=num zs sq:=by
 unfold num
 rw [List.map_map]
 apply List.map_congr_left
 intro o ho
 obtain ⟨o0,o1⟩:=hb o ho
 obtain ⟨a0,a1⟩:=hz.app o0 o1
 show ((sq.map (app p)).idxOf (app (anew zs p) (app p o)):Int)=_
 rw [hz.kd hp o0 o1,IZ hp hb a0 a1]
end af
namespace af
def pw (xs:List Int) (k i:Int):Int:=if 0<=k then bp xs i k.toNat else bp (inv xs) i (-k).toNat
section
variable {n:Nat} {xs:List Int} {i:Int}
theorem Tn.mO (h:Tn n xs) (i0:0<=i) (i1:i < (n:Int)):∀ (k m:Nat),af.bp (inv xs) (af.bp xs i m) k=if k<=m then af.bp xs i (m - k) else af.bp (inv xs) i (k - m)
 | 0,m=>by rw [if_pos (Nat.zero_le _),Nat.sub_zero];rfl
 | k + 1,m=>by
  show af.app (inv xs) (af.bp (inv xs) (af.bp xs i m) k)=_
  rw [h.mO i0 i1 k m]
  by_cases hk:k<=m
  ·rw [if_pos hk]
   by_cases hk1:k + 1<=m
   ·rw [if_pos hk1]
    obtain ⟨d,hd⟩:∃ d,m - k=d + 1:=⟨m - k - 1,by omega⟩
    rw [hd,show m - (k + 1)=d by omega]
    obtain ⟨a,b⟩:=h.bp i0 i1 d
    exact h.gA a b
   ·rw [if_neg hk1,show m - k=0 by omega,show k + 1 - m=1 by omega]
    rfl
  ·rw [if_neg hk,if_neg (by omega),show k + 1 - m=(k - m) + 1 by omega]
   rfl
theorem Tn.p8 (h:Tn n xs) (i0:0<=i) (i1:i < (n:Int)) (k m:Nat):af.bp xs (af.bp (inv xs) i m) k=if k<=m then af.bp (inv xs) i (m - k) else af.bp xs i (k - m):=by
 have:=h.aw.mO i0 i1 k m
 rw [h.inv_inv] at this
 exact this
theorem Tn.pw (h:Tn n xs) (i0:0<=i) (i1:i < (n:Int)) (k:Int):0<=af.pw xs k i/\af.pw xs k i < (n:Int):=by
 unfold af.pw
 split
 ·exact h.bp i0 i1 _
 ·exact h.aw.bp i0 i1 _
theorem Tn.pw_add (h:Tn n xs) (i0:0<=i) (i1:i < (n:Int)) (a b:Int):af.pw xs a (af.pw xs b i)=af.pw xs (a + b) i:=by
 by_cases ha:0<=a <;> by_cases hb:0<=b
 ·unfold af.pw
  rw [if_pos ha,if_pos hb,if_pos (by omega),qF]
  congr 1
  omega
 ·have e1:af.pw xs b i=af.bp (inv xs) i (-b).toNat:=by unfold af.pw;rw [if_neg hb]
  have e2:∀ j,af.pw xs a j=af.bp xs j a.toNat:=fun j=>by unfold af.pw;rw [if_pos ha]
  rw [e1,e2,h.p8 i0 i1]
  unfold af.pw
  split
  ·split
   ·rw [show (-b).toNat - a.toNat=0 by omega,show (a + b).toNat=0 by omega];rfl
   ·congr 1;omega
  ·rw [if_pos (by omega)];congr 1;omega
 ·have e1:af.pw xs b i=af.bp xs i b.toNat:=by unfold af.pw;rw [if_pos hb]
  have e2:∀ j,af.pw xs a j=af.bp (inv xs) j (-a).toNat:=fun j=>by unfold af.pw;rw [if_neg ha]
  rw [e1,e2,h.mO i0 i1]
  unfold af.pw
  split
  ·rw [if_pos (by omega)];congr 1;omega
  ·rw [if_neg (by omega)];congr 1;omega
 ·unfold af.pw
  rw [if_neg ha,if_neg hb,if_neg (by omega),qF]
  congr 1
  omega
theorem Tn.pw_per (h:Tn n xs) (i0:0<=i) (i1:i < (n:Int)) {L:Nat} (hL:af.bp xs i L=i) (q:Int):af.pw xs ((L:Int) * q) i=i:=by
 have pos:∀ m:Nat,af.pw xs ((L:Int) * (m:Int)) i=i:=fun m=>by
  unfold af.pw
  rw [if_pos (Int.mul_nonneg (by omega) (by omega)),show ((L:Int) * (m:Int)).toNat=0 + L * m by rw [<- Int.natCast_mul,Int.toNat_natCast];omega,y9 hL]
  rfl
 by_cases hq:0<=q
 ·obtain ⟨m,rfl⟩:∃ m:Nat,q=(m:Int):=⟨q.toNat,by omega⟩
  exact pos m
 ·obtain ⟨m,rfl⟩:∃ m:Nat,q=-(m:Int):=⟨(-q).toNat,by omega⟩
  have:=h.pw_add i0 i1 ((L:Int) * -(m:Int)) ((L:Int) * (m:Int))
  rw [pos m] at this
  rw [this,Int.mul_neg,Int.add_left_neg]
  rfl
theorem Tn.uT (h:Tn n xs) (i0:0<=i) (i1:i < (n:Int)) {k v:Int} (o:IU xs k i v):v=af.pw xs k i:=by
 obtain ⟨m,_,bk,rfl⟩:=o
 have m0:=Int.emod_nonneg k (show ((m + 1:Nat):Int)≠0 by omega)
 have e:af.bp xs i (k % ((m + 1:Nat):Int)).toNat=af.pw xs (k % ((m + 1:Nat):Int)) i:=by unfold af.pw;rw [if_pos m0]
 rw [e]
 have e2:=h.pw_add i0 i1 (k % ((m + 1:Nat):Int)) (((m + 1:Nat):Int) * (k / ((m + 1:Nat):Int)))
 rw [h.pw_per i0 i1 bk,Int.emod_add_mul_ediv] at e2
 exact e2
end
def cG (xs:List Int) (k:Int):List Int:=(upto xs.length).map (pw xs k)
theorem ze (xs:List Int) (k:Int):(cG xs k).length=xs.length:=by simp [cG,nH]
theorem n5 {xs:List Int} {k s:Int} (s0:0<=s) (s1:s < (xs.length:Int)):app (cG xs k) s=pw xs k s:=by
 have e:=nI (xs:=cG xs k) s0 (by rw [ze];exact s1)
 unfold cG at e
 rw [List.getElem?_map,y8 (by omega)] at e
 have:=Option.some.inj e
 rw [Int.toNat_of_nonneg s0] at this
 exact this.symm
theorem Tn.cG {n:Nat} {xs:List Int} (h:Tn n xs) (k:Int):Tn n (cG xs k):=by
 have hl:=h.length
 refine Tn.p7 (by rw [ze];exact hl) (fun s s0 s1=>by rw [n5 s0 (by omega)];exact h.pw s0 s1 k) fun s t s0 s1 t0 t1 e=>?_
 rw [n5 s0 (by omega),n5 t0 (by omega)] at e
 have e2:=congrArg (af.pw xs (-k)) e
 rw [h.pw_add s0 s1,h.pw_add t0 t1,Int.add_left_neg] at e2
 exact e2
def shr (xs ys:List Int) (k:Int):List Int:=a6 (cG xs (-k)) ys
theorem Tn.shr {n:Nat} {xs ys:List Int} (hx:Tn n xs) (hy:Tn n ys) (k:Int):Tn n (shr xs ys k):=(hx.cG (-k)).a6 hy
theorem Tn.lx {n:Nat} {xs ys:List Int} (hx:Tn n xs) {k s:Int} (s0:0<=s) (s1:s < (n:Int)):af.app (af.shr xs ys k) s=af.app ys (af.pw xs (-k) s):=by
 have hl:=hx.length
 unfold af.shr
 rw [nJ s0 (by rw [ze,hl];exact s1),n5 s0 (by rw [hl];exact s1)]
theorem Tn.rB {n:Nat} {xs ys:List Int} (hx:Tn n xs) (hy:Tn n ys) (a b:Int):af.shr xs (af.shr xs ys a) b=af.shr xs ys (a + b):=by
 refine oy (n:=n) (hx.shr (hx.shr hy a) b).length (hx.shr hy (a + b)).length fun s s0 s1=>?_
 obtain ⟨p0,p1⟩:=hx.pw s0 s1 (-b)
 rw [hx.lx s0 s1,hx.lx p0 p1,hx.lx s0 s1,hx.pw_add s0 s1,show -a + -b=-(a + b) by omega]
theorem Tn.p9 {n:Nat} {xs ys:List Int} (hx:Tn n xs) (hy:Tn n ys):af.shr xs ys 0=ys:=by
 refine oy (n:=n) (hx.shr hy 0).length hy.length fun s s0 s1=>?_
 rw [hx.lx s0 s1]
 rfl
end af
namespace af
def tb (l:Int->Nat) (p:Int->Int) (a b:Int):Bool:=if l a=l b\/l (p a)=l (p b) then false else (decide (l a < l b)).xor (decide (l (p a) < l (p b)))
section
variable {n:Nat} {L:List Int} {l:Int->Nat}
end
end af
namespace af
end af
namespace af
abbrev Sp:=Bool×Int
def c9 (s:Sp):Prop:=(s.1=false->1<=s.2/\s.2<=3)/\s.2≠0
def gL (a b:Sp):Int:=if a.1 then a.2 + b.2 else (a.2 + b.2) % 4
def cv (a b:Sp):List Sp:=if gL a b=0 then [] else [(a.1,gL a b)]
def cH:List Sp->Sp->List Sp
 | [],s=>[s]
 | t :: r,s=>if t.1=s.1 then cv t s ++ r else s :: t :: r
theorem rC (t:Sp) (r:List Sp) (s:Sp):cH (t :: r) s=if t.1=s.1 then cv t s ++ r else s :: t :: r:=rfl
def mP (w:List Sp):List Sp:=w.foldl cH []
def kW (s:Sp):Sp:=(s.1,if s.1 then -s.2 else 4 - s.2)
def gM (w:List Sp):List Sp:=(w.map kW).reverse
def Pl:List Sp->Prop
 | []=>True
 | a :: r=>c9 a/\(∀ b,r.head?=some b->a.1≠b.1)/\Pl r
theorem Pl.pr:∀ {l:List Sp},Pl l->∀ s∈l,c9 s
 | a :: r,h,s,hs=>by
  rcases List.mem_cons.mp hs with rfl | hs
  ·exact h.1
  ·exact Pl.pr h.2.2 s hs
theorem Ja {a b:Sp} (ha:c9 a) (e:a.1=b.1):(gL a b=0/\cv a b=[])\/(c9 (a.1,gL a b)/\cv a b=[(a.1,gL a b)]):=by
 unfold cv
 by_cases h:gL a b=0
 ·exact .inl ⟨h,by rw [if_pos h]⟩
 ·refine .inr ⟨⟨fun hf=>?_,h⟩,by rw [if_neg h]⟩
  simp only at hf
  unfold gL at h ⊢
  simp only [hf,Bool.false_eq_true,if_false] at h ⊢
  omega
theorem Pl.push {l:List Sp} {s:Sp} (h:Pl l) (hs:c9 s):Pl (cH l s):=by
 cases l with
 | nil=>exact ⟨hs,fun b h=>(nomatch h),trivial⟩
 | cons t r =>
  rw [rC]
  split
  ·next e =>
   rcases Ja h.1 e with ⟨_,ej⟩ | ⟨hp,ej⟩
   ·rw [ej];exact h.2.2
   ·rw [ej];exact ⟨hp,h.2.1,h.2.2⟩
  ·next e =>
   refine ⟨hs,fun b hb=>?_,h⟩
   cases hb
   exact fun e'=>e e'.symm
theorem Pl.fold {w:List Sp}:∀ {l:List Sp},Pl l->(∀ s∈w,c9 s)->Pl (w.foldl cH l):=by
 induction w with
 | nil=>exact fun h _=>h
 | cons s w ih=>exact fun h hw=>ih (h.push (hw s (List.mem_cons_self))) fun s' h'=>hw s' (List.mem_cons_of_mem _ h')
theorem uU {w:List Sp} (hw:∀ s∈w,c9 s):Pl (mP w):=Pl.fold (l:=[]) trivial hw
theorem MT {l:List Sp} {s:Sp} (h:∀ b,l.head?=some b->s.1≠b.1):cH l s=s :: l:=by
 cases l with
 | nil=>rfl
 | cons t r=>rw [rC,if_neg fun e=>h t rfl e.symm]
theorem MU (u v:List Sp):mP (u ++ v)=v.foldl cH (mP u):=by unfold mP;rw [List.foldl_append]
theorem zf {s:Sp} (h:c9 s):c9 (kW s):=by
 obtain ⟨b,k⟩:=s
 cases b with
 | true=>exact ⟨nofun,fun e=>h.2 (by have:-k=0:=e;show k=0;omega)⟩
 | false =>
  obtain ⟨h1,h2⟩:=h.1 rfl
  simp only at h1 h2
  exact ⟨fun _=>by show 1<=4 - k/\4 - k<=3;omega,by show 4 - k≠0;omega⟩
theorem MV {p:List Sp} {s:Sp} (hp:Pl p) (hs:c9 s):cH (cH p s) (kW s)=p:=by
 have e0:cv s (kW s)=[]:=by
  unfold cv gL kW
  cases hb:s.1 <;> simp <;> omega
 cases p with
 | nil =>
  show (if s.1=(kW s).1 then cv s (kW s) ++ [] else _)=_
  rw [if_pos (show s.1=(kW s).1 from rfl),e0];rfl
 | cons t r =>
  by_cases e:t.1=s.1
  ·have e1:cH (t :: r) s=cv t s ++ r:=by rw [rC,if_pos e]
   rw [e1]
   obtain ⟨tb,tk⟩:=t
   obtain ⟨sb,sk⟩:=s
   simp only at e
   subst e
   have ht:=hp.1
   rcases Ja (b:=(tb,sk)) hp.1 rfl with ⟨h0,ej⟩ | ⟨Fs,ej⟩
   ·rw [ej,List.nil_append]
    have eb:kW (tb,sk)=(tb,tk):=by
     unfold kW
     unfold gL at h0
     cases tb with
     | true=>simp only [if_true] at h0 ⊢;congr 1;omega
     | false =>
      have h1:=ht.1 rfl
      have h2:=hs.1 rfl
      simp only [Bool.false_eq_true,if_false] at h0 h1 h2 ⊢
      congr 1;omega
    rw [eb]
    exact MT hp.2.1
   ·rw [ej]
    show (if tb=(kW (tb,sk)).1 then cv (tb,gL (tb,tk) (tb,sk)) (kW (tb,sk)) ++ r else _)=_
    rw [if_pos (show tb=(kW (tb,sk)).1 from rfl)]
    have eb:gL (tb,gL (tb,tk) (tb,sk)) (kW (tb,sk))=tk:=by
     unfold gL kW
     cases tb with
     | true=>simp only [if_true];omega
     | false =>
      have h1:=ht.1 rfl
      have h2:=hs.1 rfl
      simp only [Bool.false_eq_true,if_false] at h1 h2 ⊢
      omega
    unfold cv
    rw [eb,if_neg ht.2]
    rfl
  ·have e1:cH (t :: r) s=s :: t :: r:=by rw [rC,if_neg e]
   rw [e1]
   show (if s.1=(kW s).1 then cv s (kW s) ++ (t :: r) else _)=_
   rw [if_pos (show s.1=(kW s).1 from rfl),e0];rfl
theorem MW {w:List Sp}:∀ {p:List Sp},Pl p->(∀ s∈w,c9 s)->(w ++ gM w).foldl cH p=p:=by
 induction w with
 | nil=>exact fun _ _=>rfl
 | cons s w ih =>
  intro p hp hw
  have e:(s :: w) ++ gM (s :: w)=s :: ((w ++ gM w) ++ [kW s]):=by unfold gM;simp
  rw [e]
  show ((w ++ gM w) ++ [kW s]).foldl cH (cH p s)=p
  have hs:=hw s (List.mem_cons_self)
  rw [List.foldl_append,ih (hp.push hs) fun s' h'=>hw s' (List.mem_cons_of_mem _ h')]
  exact MV hp hs
theorem MX {w:List Sp} (hw:∀ s∈w,c9 s):mP (w ++ gM w)=[]:=MW (p:=[]) trivial hw
theorem MY {l:List Sp} {s:Sp} {M B:Nat} (h:∀ x∈l,x.2.natAbs<=M) (hs:s.2.natAbs<=B) (hp:c9 s) (hl:Pl l):∀ x∈cH l s,x.2.natAbs<=M + B:=by
 intro x hx
 cases l with
 | nil=>rcases List.mem_singleton.mp hx with rfl;omega
 | cons t r =>
  rw [rC] at hx
  have ht:=h t (List.mem_cons_self)
  split at hx
  ·next e0 =>
   rcases List.mem_append.mp hx with hx | hx
   ·unfold cv at hx
    split at hx
    ·exact (nomatch hx)
    ·rcases List.mem_singleton.mp hx with rfl
     show (gL t s).natAbs<=_
     unfold gL
     split
     ·omega
     ·next hb =>
      have:=hl.1.1 (by simpa using hb)
      have h2:=hp.1 (by rw [<- e0];simpa using hb)
      omega
   ·have:=h x (List.mem_cons_of_mem _ hx);omega
  ·rcases List.mem_cons.mp hx with rfl | hx
   ·omega
   ·have:=h x hx;omega
theorem MZ {B:Nat} {w:List Sp}:∀ {l:List Sp} {M:Nat},(∀ x∈l,x.2.natAbs<=M)->Pl l->(∀ s∈w,c9 s/\s.2.natAbs<=B)->∀ x∈w.foldl cH l,x.2.natAbs<=M + w.length * B:=by
 induction w with
 | nil=>intro l M h _ _ x hx;have:=h x hx;omega
 | cons s w ih =>
  intro l M h hl hw x hx
  have hs:=hw s (List.mem_cons_self)
  have:=ih (MY h hs.2 hs.1 hl) (hl.push hs.1) (fun s' h'=>hw s' (List.mem_cons_of_mem _ h')) x hx
  rw [List.length_cons,Nat.succ_mul]
  omega
theorem uV {B:Nat} {w:List Sp} (hw:∀ s∈w,c9 s/\s.2.natAbs<=B):∀ x∈mP w,x.2.natAbs<=w.length * B:=fun x hx=>by
 have:=MZ (l:=[]) (M:=0) nofun trivial hw x hx
 omega
theorem M0 (l:List Sp) (s:Sp):(cH l s).length<=l.length + 1:=by
 cases l with
 | nil=>exact Nat.le_refl _
 | cons t r =>
  rw [rC]
  split
  ·unfold cv;split <;> simp <;> omega
  ·simp
theorem M1 {w:List Sp}:∀ {l:List Sp},(w.foldl cH l).length<=l.length + w.length:=by
 induction w with
 | nil=>exact Nat.le_refl _
 | cons s w ih =>
  intro l
  have:=ih (l:=cH l s)
  have h2:=M0 l s
  rw [List.length_cons]
  exact Nat.le_trans this (by omega)
theorem Jb (w:List Sp):(mP w).length<=w.length:=by have:=M1 (w:=w) (l:=[]);simpa [mP] using this
structure T4 where (a b c d:Int)
def T4.one:T4:=⟨1,0,0,1⟩
def T4.qt:T4:=⟨0,-1,1,0⟩
def T4.mul (x y:T4):T4:=⟨x.a * y.a + x.b * y.c,x.a * y.b + x.b * y.d,x.c * y.a + x.d * y.c,x.c * y.b + x.d * y.d⟩
def T4.oZ (x:T4):T4:=⟨x.d,-x.b,-x.c,x.a⟩
theorem T4.ext' {x y:T4} (h1:x.a=y.a) (h2:x.b=y.b) (h3:x.c=y.c) (h4:x.d=y.d):x=y:=by cases x;cases y;simp only at h1 h2 h3 h4;subst h1 h2 h3 h4;rfl
theorem T4.assoc (x y z:T4):(x.mul y).mul z=x.mul (y.mul z):=by
 apply T4.ext' <;> simp only [T4.mul,Int.add_mul,Int.mul_add,Int.mul_assoc] <;> omega
theorem T4.one_mul (x:T4):T4.one.mul x=x:=by apply T4.ext' <;> simp [T4.mul,T4.one]
theorem T4.mul_one (x:T4):x.mul T4.one=x:=by apply T4.ext' <;> simp [T4.mul,T4.one]
theorem T4.rD (x y:T4):(x.mul y).oZ=y.oZ.mul x.oZ:=by
 apply T4.ext' <;> simp only [T4.mul,T4.oZ,Int.neg_mul,Int.mul_neg,Int.neg_neg,Int.mul_comm] <;> omega
def qp:Nat->T4
 | 0=>T4.one
 | n + 1=>T4.qt.mul (qp n)
def iR (s:Sp):T4:=if s.1 then ⟨1,s.2,0,1⟩ else qp s.2.toNat
def lg (T:T4) (w:List Sp):T4:=w.foldl (fun T s=>(iR s).mul T) T
def aJ (w:List Sp):T4:=lg T4.one w
theorem M3 (w:List Sp):∀ T:T4,lg T w=(aJ w).mul T:=by
 induction w with
 | nil=>exact fun T=>(T4.one_mul T).symm
 | cons s w ih =>
  intro T
  show lg ((iR s).mul T) w=(lg ((iR s).mul T4.one) w).mul T
  rw [ih,ih,T4.mul_one,T4.assoc]
theorem qa (u v:List Sp):aJ (u ++ v)=(aJ v).mul (aJ u):=by
 show lg T4.one (u ++ v)=_
 unfold lg
 rw [List.foldl_append]
 exact M3 v _
theorem sL (u:List Sp) (s:Sp):aJ (u ++ [s])=(iR s).mul (aJ u):=by
 show lg T4.one (u ++ [s])=_
 unfold lg
 rw [List.foldl_append];rfl
theorem t3 {k:Int} (h:1<=k/\k<=3):k=1\/k=2\/k=3:=by omega
theorem M4 {t s:Sp} (ht:c9 t) (hs:c9 s) (e:t.1=s.1):aJ (cv t s)=(iR s).mul (iR t):=by
 obtain ⟨tb,tk⟩:=t
 obtain ⟨sb,sk⟩:=s
 simp only at e
 subst e
 cases tb with
 | true =>
  have e2:(iR (true,sk)).mul (iR (true,tk))=⟨1,tk + sk,0,1⟩:=by apply T4.ext' <;> simp [T4.mul,iR] <;> omega
  rw [e2]
  unfold cv gL
  simp only [if_true]
  split
  ·next h=>rw [h];rfl
  ·rw [show aJ [(true,tk + sk)]=(iR (true,tk + sk)).mul T4.one from rfl,T4.mul_one];rfl
 | false =>
  have h1:=ht.1 rfl
  have h2:=hs.1 rfl
  simp only at h1 h2
  rcases t3 h1 with rfl | rfl | rfl <;> rcases t3 h2 with rfl | rfl | rfl <;> rfl
theorem M5 {l:List Sp} {s:Sp} (hl:Pl l) (hs:c9 s):aJ (cH l s).reverse=(iR s).mul (aJ l.reverse):=by
 cases l with
 | nil=>exact sL [] s
 | cons t r =>
  rw [rC]
  split
  ·next e =>
   rw [List.reverse_append,qa,List.reverse_cons,sL,<- T4.assoc]
   congr 1
   rw [<- M4 hl.1 hs e]
   unfold cv
   split <;> rfl
  ·rw [List.reverse_cons,sL]
theorem M6 {w:List Sp}:∀ {l:List Sp},Pl l->(∀ s∈w,c9 s)->aJ (w.foldl cH l).reverse=lg (aJ l.reverse) w:=by
 induction w with
 | nil=>exact fun _ _=>rfl
 | cons s w ih =>
  intro l hl hw
  have hs:=hw s (List.mem_cons_self)
  show aJ (w.foldl cH (cH l s)).reverse=lg ((iR s).mul (aJ l.reverse)) w
  rw [ih (hl.push hs) fun s' h'=>hw s' (List.mem_cons_of_mem _ h'),M5 hl hs]
theorem Jc {w:List Sp} (hw:∀ s∈w,c9 s):aJ (mP w).reverse=aJ w:=M6 (l:=[]) trivial hw
theorem uW {s:Sp} (h:c9 s):iR (kW s)=(iR s).oZ:=by
 obtain ⟨b,k⟩:=s
 cases b with
 | true=>apply T4.ext' <;> simp [T4.oZ,iR,kW]
 | false =>
  have h1:=h.1 rfl
  simp only at h1
  rcases t3 h1 with rfl | rfl | rfl <;> rfl
theorem Ct {w:List Sp} (hw:∀ s∈w,c9 s):aJ (gM w)=(aJ w).oZ:=by
 induction w with
 | nil=>rfl
 | cons s w ih =>
  have e:gM (s :: w)=gM w ++ [kW s]:=by unfold gM;simp
  have e2:aJ (s :: w)=(aJ w).mul (iR s):=by
   rw [show s :: w=[s] ++ w from rfl,qa]
   congr 1
   exact (sL [] s).trans (T4.mul_one _)
  rw [e,sL,ih fun s' h'=>hw s' (List.mem_cons_of_mem _ h'),uW (hw s (List.mem_cons_self)),e2,T4.rD]
def T4.le (x:T4) (M:Nat):Prop:=x.a.natAbs<=M/\x.b.natAbs<=M/\x.c.natAbs<=M/\x.d.natAbs<=M
theorem Jd {a c k:Int} {M B:Nat} (ha:a.natAbs<=M) (hc:c.natAbs<=M) (hk:k.natAbs<=B):(a + k * c).natAbs<=(B + 1) * M:=by
 have h1:(k * c).natAbs<=B * M:=by rw [Int.natAbs_mul];exact Nat.mul_le_mul hk hc
 rw [Nat.succ_mul]
 omega
theorem sM {T:T4} {s:Sp} {M B:Nat} (h:T.le M) (hp:c9 s) (hs:s.2.natAbs<=B):((iR s).mul T).le ((B + 1) * M):=by
 obtain ⟨b,k⟩:=s
 obtain ⟨ha,hb,hc,hd⟩:=h
 have hM:M<=(B + 1) * M:=by rw [Nat.succ_mul];omega
 cases b with
 | true =>
  refine ⟨?_,?_,?_,?_⟩ <;> simp only [T4.mul,iR,if_true,Int.one_mul,Int.zero_mul,Int.zero_add]
  ·exact Jd ha hc hs
  ·exact Jd hb hd hs
  ·omega
  ·omega
 | false =>
  have h1:=hp.1 rfl
  simp only at h1
  rcases t3 h1 with rfl | rfl | rfl <;> refine ⟨?_,?_,?_,?_⟩ <;> simp [T4.mul,iR,qp,T4.qt,T4.one] <;> omega
theorem uX {B:Nat} {w:List Sp}:∀ {T:T4} {M:Nat},T.le M->(∀ s∈w,c9 s/\s.2.natAbs<=B)->(lg T w).le ((B + 1) ^ w.length * M):=by
 induction w with
 | nil=>intro T M h _;simpa [lg] using h
 | cons s w ih =>
  intro T M h hw
  have hs:=hw s (List.mem_cons_self)
  have:=ih (sM h hs.1 hs.2) fun s' h'=>hw s' (List.mem_cons_of_mem _ h')
  rw [List.length_cons,Nat.pow_succ,Nat.mul_assoc]
  exact this
theorem Je {B n:Nat} {w:List Sp} (hw:∀ s∈w,c9 s/\s.2.natAbs<=B) (hn:w.length<=n):(aJ w).le ((B + 1) ^ n):=by
 have h:=uX (T:=T4.one) (M:=1) ⟨by decide,by decide,by decide,by decide⟩ hw
 have h2:(B + 1) ^ w.length * 1<=(B + 1) ^ n:=by rw [Nat.mul_one];exact Nat.pow_le_pow_right (by omega) hn
 exact ⟨Nat.le_trans h.1 h2,Nat.le_trans h.2.1 h2,Nat.le_trans h.2.2.1 h2,Nat.le_trans h.2.2.2 h2⟩
end af
namespace af
def nR:List Int->List Int->Bool
 | [],[]=>false
 | [],_ :: _=>true
 | _ :: _,[]=>false
 | x :: xs,y :: ys=>if x=y then nR xs ys else decide (x < y)
theorem Cu:∀ xs:List Int,nR xs xs=false
 | []=>rfl
 | x :: xs=>by unfold nR;rw [if_pos rfl];exact Cu xs
theorem Ft:∀ {xs ys zs:List Int},nR xs ys=true->nR ys zs=true->nR xs zs=true
 | [],[],_,h,_=>by cases h
 | [],_ :: _,[],_,h=>by cases h
 | [],_ :: _,_ :: _,_,_=>rfl
 | _ :: _,[],_,h,_=>by cases h
 | _ :: _,_ :: _,[],_,h=>by cases h
 | x :: xs,y :: ys,z :: zs,h1,h2=>by
  unfold nR at h1 h2 ⊢
  by_cases a:x=y
  ·rw [if_pos a] at h1
   by_cases b:y=z
   ·rw [if_pos b] at h2
    rw [if_pos (a.trans b)];exact Ft h1 h2
   ·rw [if_neg b] at h2
    rw [if_neg (fun e=>b (a.symm.trans e))]
    rw [a];exact h2
  ·rw [if_neg a] at h1
   have h1:=of_decide_eq_true h1
   by_cases b:y=z
   ·rw [<- b,if_neg a];exact decide_eq_true h1
   ·rw [if_neg b] at h2
    have h2:=of_decide_eq_true h2
    rw [if_neg (by omega)];exact decide_eq_true (by omega)
theorem Fu:∀ {xs ys:List Int},nR xs ys=false->nR ys xs=false->xs=ys
 | [],[],_,_=>rfl
 | [],_ :: _,h,_=>by cases h
 | _ :: _,[],_,h=>by cases h
 | x :: xs,y :: ys,h1,h2=>by
  unfold nR at h1 h2
  by_cases a:x=y
  ·subst a
   rw [if_pos rfl] at h1 h2
   rw [Fu h1 h2]
  ·rw [if_neg a] at h1
   rw [if_neg (Ne.symm a)] at h2
   have h1:=of_decide_eq_false h1
   have h2:=of_decide_eq_false h2
   omega
abbrev cw:=List Int×List Int
def lI (p q:cw):Bool:=if p.1=q.1 then nR p.2 q.2 else nR p.1 q.1
theorem Jf (p:cw):lI p p=false:=by unfold lI;rw [if_pos rfl];exact Cu _
theorem M7 {p q r:cw} (h1:lI p q=true) (h2:lI q r=true):lI p r=true:=by
 unfold lI at h1 h2 ⊢
 by_cases a:p.1=q.1
 ·rw [if_pos a] at h1
  by_cases b:q.1=r.1
  ·rw [if_pos b] at h2
   rw [if_pos (a.trans b)];exact Ft h1 h2
  ·rw [if_neg b] at h2
   rw [if_neg (fun e=>b (a.symm.trans e)),a];exact h2
 ·rw [if_neg a] at h1
  by_cases b:q.1=r.1
  ·rw [<- b,if_neg a];exact h1
  ·rw [if_neg b] at h2
   have h:=Ft h1 h2
   rw [if_neg (fun e=>by rw [e,Cu] at h;cases h)];exact h
theorem M8 {p q:cw} (h1:lI p q=false) (h2:lI q p=false):p=q:=by
 unfold lI at h1 h2
 by_cases a:p.1=q.1
 ·rw [if_pos a] at h1
  rw [if_pos a.symm] at h2
  exact Prod.ext a (Fu h1 h2)
 ·rw [if_neg a] at h1
  rw [if_neg (Ne.symm a)] at h2
  exact absurd (Fu h1 h2) a
def lJ:List cw->cw
 | []=>([],[])
 | p :: l=>l.foldl (fun b q=>if lI q b then q else b) p
def Lst (l:List cw) (p:cw):Prop:=p∈l/\∀ q∈l,lI q p=false
theorem Lst.unique {l m:List cw} {p q:cw} (a:Lst l p) (b:Lst m q) (h:∀ x,x∈l↔x∈m):p=q:=M8 (b.2 p ((h p).mp a.1)) (a.2 q ((h q).mpr b.1))
theorem Lst.step {l:List cw} {b q:cw} (h:Lst l b):Lst (l ++ [q]) (if lI q b then q else b):=by
 split
 ·next hq =>
  refine ⟨List.mem_append_right _ (List.mem_singleton_self _),fun x hx=>?_⟩
  rcases List.mem_append.mp hx with hx | hx
  ·cases M9:lI x q with
   | false=>rfl
   | true=>have:=M7 M9 hq;rw [h.2 x hx] at this;cases this
  ·rw [List.mem_singleton.mp hx];exact Jf q
 ·next hq =>
  refine ⟨List.mem_append_left _ h.1,fun x hx=>?_⟩
  rcases List.mem_append.mp hx with hx | hx
  ·exact h.2 x hx
  ·rw [List.mem_singleton.mp hx];simpa using hq
theorem Lst.fold:∀ (l pre:List cw) (b:cw),Lst pre b->Lst (pre ++ l) (l.foldl (fun b q=>if lI q b then q else b) b)
 | [],pre,b,h=>by rw [List.append_nil];exact h
 | q :: l,pre,b,h=>by
  have:=Lst.fold l (pre ++ [q]) _ (h.step (q:=q))
  rw [List.append_assoc] at this
  exact this
theorem Fv {l:List cw} (h:l≠[]):Lst l (lJ l):=by
 cases l with
 | nil=>exact absurd rfl h
 | cons p l=>exact Lst.fold l [p] p ⟨List.mem_singleton_self _,fun q hq=>by rw [List.mem_singleton.mp hq];exact Jf p⟩
theorem Na {l m:List cw} (h:∀ x,x∈l↔x∈m) (hl:l≠[]):lJ l=lJ m:=by
 have hm:m≠[]:=fun e=>by
  obtain ⟨x,hx⟩:=List.exists_mem_of_ne_nil l hl
  have:=(h x).mp hx
  rw [e] at this
  cases this
 exact (Fv hl).unique (Fv hm) h
end af
namespace af
theorem sN (n:Nat):Tn n (upto n):=List.Perm.refl _
theorem Cv {n:Nat} {s:Int} (s0:0<=s) (s1:s < (n:Int)):app (upto n) s=s:=by
 unfold app
 rw [List.getD_eq_getElem?_getD,y8 (by omega),Option.getD_some];omega
section
variable {n:Nat} {a b c g x y:List Int}
theorem oA (ha:Tn n a) (hb:Tn n b) (hc:Tn n c):a6 (a6 a b) c=a6 a (a6 b c):=by
 refine oy (n:=n) ((ha.a6 hb).a6 hc).length (ha.a6 (hb.a6 hc)).length fun s s0 s1=>?_
 obtain ⟨p0,p1⟩:=ha.app s0 s1
 rw [nJ s0 (by rw [(ha.a6 hb).length];exact s1),nJ s0 (by rw [ha.length];exact s1),nJ s0 (by rw [ha.length];exact s1),nJ p0 (by rw [hb.length];exact p1)]
theorem zg (ha:Tn n a):a6 a (inv a)=upto n:=MG ha
theorem Fw (ha:Tn n a):a6 (inv a) a=upto n:=MH ha
theorem uY (ha:Tn n a):a6 a (upto n)=a:=by
 refine oy (n:=n) (ha.a6 (sN n)).length ha.length fun s s0 s1=>?_
 obtain ⟨p0,p1⟩:=ha.app s0 s1
 rw [nJ s0 (by rw [ha.length];exact s1),Cv p0 p1]
theorem Cw (ha:Tn n a):a6 (upto n) a=a:=by
 refine oy (n:=n) ((sN n).a6 ha).length ha.length fun s s0 s1=>?_
 rw [nJ s0 (by rw [(sN n).length];exact s1),Cv s0 s1]
theorem Cy (ha:Tn n a) (hb:Tn n b) (h:a6 a b=upto n):inv a=b:=by
 have e:a6 (inv a) (a6 a b)=b:=by rw [<- oA ha.aw ha hb,Fw ha,Cw hb]
 rw [h,uY ha.aw] at e
 exact e
theorem sO (ha:Tn n a) (hb:Tn n b):inv (a6 a b)=a6 (inv b) (inv a):=by
 refine Cy (ha.a6 hb) (hb.aw.a6 ha.aw) ?_
 rw [oA ha hb (hb.aw.a6 ha.aw),<- oA hb hb.aw ha.aw,zg hb,Cw ha.aw,zg ha]
theorem Jg (ha:Tn n a) (hb:Tn n b):a6 (a6 a b) (inv b)=a:=by rw [oA ha hb hb.aw,zg hb,uY ha]
theorem Fx (ha:Tn n a) (hb:Tn n b):a6 (a6 a (inv b)) b=a:=by rw [oA ha hb.aw hb,Fw hb,uY ha]
theorem Nb (ha:Tn n a) (hb:Tn n b):a6 a (a6 (inv a) b)=b:=by rw [<- oA ha ha.aw hb,zg ha,Cw hb]
theorem zh (hx:Tn n x) (i j:Int):a6 (cG x i) (cG x j)=cG x (i + j):=by
 refine oy (n:=n) ((hx.cG i).a6 (hx.cG j)).length (hx.cG (i + j)).length fun s s0 s1=>?_
 obtain ⟨p0,p1⟩:=hx.pw s0 s1 i
 have hl:=hx.length
 rw [nJ s0 (by rw [ze,hl];exact s1),n5 s0 (by rw [hl];exact s1),n5 p0 (by rw [hl];exact p1),n5 s0 (by rw [hl];exact s1),hx.pw_add s0 s1,Int.add_comm j i]
theorem Fy (hx:Tn n x):cG x 0=upto n:=by
 refine oy (n:=n) (hx.cG 0).length (sN n).length fun s s0 s1=>?_
 rw [n5 s0 (by rw [hx.length];exact s1),Cv s0 s1];rfl
theorem zi (hx:Tn n x):cG x 1=x:=by
 refine oy (n:=n) (hx.cG 1).length hx.length fun s s0 s1=>?_
 rw [n5 s0 (by rw [hx.length];exact s1)];rfl
theorem Fz (hx:Tn n x) (k:Int):inv (cG x k)=cG x (-k):=Cy (hx.cG k) (hx.cG (-k)) (by rw [zh hx,Int.add_right_neg,Fy hx])
theorem FA (hx:Tn n x):cG x (-1)=inv x:=by rw [<- Fz hx,zi hx]
theorem Jh (hx:Tn n x) (k:Int):cG (inv x) k=cG x (-k):=by
 refine oy (n:=n) (hx.aw.cG k).length (hx.cG (-k)).length fun s s0 s1=>?_
 rw [n5 s0 (by rw [hx.aw.length];exact s1),n5 s0 (by rw [hx.length];exact s1)]
 unfold pw
 by_cases h:0<=k
 ·rw [if_pos h]
  by_cases h0:k=0
  ·subst h0;rfl
  ·rw [if_neg (by omega),show -(-k)=k by omega]
 ·rw [if_neg h,if_pos (by omega),hx.inv_inv]
theorem Ji (ha:Tn n a) (hb:Tn n b) (hg:Tn n g):a6 (anew a g) (anew b g)=anew (a6 a b) g:=by
 unfold anew
 have hi:=hg.aw
 rw [oA (hi.a6 ha) hg ((hi.a6 hb).a6 hg),oA hi hb hg,Nb hg (hb.a6 hg),oA hi ha (hb.a6 hg),<- oA ha hb hg,<- oA hi (ha.a6 hb) hg]
theorem Nc (hg:Tn n g):anew (upto n) g=upto n:=by unfold anew;rw [uY hg.aw,Fw hg]
theorem Jj (ha:Tn n a) (hg:Tn n g):inv (anew a g)=anew (inv a) g:=Cy (ha.anew hg) (ha.aw.anew hg) (by rw [Ji ha ha.aw hg,zg ha,Nc hg])
theorem FC (hx:Tn n x) (hg:Tn n g) {i:Int} (i0:0<=i) (i1:i < (n:Int)):∀ k,bp (anew x g) (app g i) k=app g (bp x i k)
 | 0=>rfl
 | k + 1=>by
  obtain ⟨p0,p1⟩:=hx.bp i0 i1 k
  show app (anew x g) (bp (anew x g) (app g i) k)=app g (app x (bp x i k))
  rw [FC hx hg i0 i1 k,hx.kd hg p0 p1]
theorem Nd (hx:Tn n x) (hg:Tn n g) {i:Int} (i0:0<=i) (i1:i < (n:Int)) (k:Int):pw (anew x g) k (app g i)=app g (pw x k i):=by
 unfold pw
 split
 ·exact FC hx hg i0 i1 _
 ·rw [Jj hx hg];exact FC hx.aw hg i0 i1 _
theorem Nf (hx:Tn n x) (hg:Tn n g) (k:Int):cG (anew x g) k=anew (cG x k) g:=by
 refine oy (n:=n) ((hx.anew hg).cG k).length ((hx.cG k).anew hg).length fun s s0 s1=>?_
 obtain ⟨p0,p1⟩:=hg.lb s0 s1
 rw [n5 s0 (by rw [(hx.anew hg).length];exact s1),(hx.cG k).gB hg s0 s1,n5 p0 (by rw [hx.length];exact p1),<- Nd hx hg p0 p1,hg.cO s0 s1]
end
def Vf (n:Nat) (p:cw):Prop:=Tn n p.1/\Tn n p.2
def bH (n:Nat) (p q:cw):Prop:=∃ g,Tn n g/\q=(anew p.1 g,anew p.2 g)
def Sh (k:Int) (p:cw):cw:=(p.1,shr p.1 p.2 k)
def Qt (p:cw):cw:=(inv p.2,p.1)
section
variable {n:Nat} {p q r:cw}
theorem Vf.sh (h:Vf n p) (k:Int):Vf n (Sh k p):=⟨h.1,h.1.shr h.2 k⟩
theorem Vf.qt (h:Vf n p):Vf n (Qt p):=⟨h.2.aw,h.1⟩
theorem bH.refl (h:Vf n p):bH n p p:=⟨upto n,sN n,by
 have e:∀ a:List Int,Tn n a->anew a (upto n)=a:=fun a ha=>by
  unfold anew
  rw [Cy (sN n) (sN n) (uY (sN n)),Cw ha,uY ha]
 rw [e _ h.1,e _ h.2]⟩
theorem bH.symm (h:Vf n p) (a:bH n p q):bH n q p:=by
 obtain ⟨g,hg,rfl⟩:=a
 exact ⟨inv g,hg.aw,by show p=(anew (anew p.1 g) (inv g),anew (anew p.2 g) (inv g));rw [h.1.mz hg,h.2.mz hg]⟩
theorem bH.trans (h:Vf n p) (a:bH n p q) (b:bH n q r):bH n p r:=by
 obtain ⟨g,hg,rfl⟩:=a
 obtain ⟨f,hf,rfl⟩:=b
 exact ⟨a6 g f,hg.a6 hf,by show (anew (anew p.1 g) f,anew (anew p.2 g) f)=_;rw [h.1.my hg hf,h.2.my hg hf]⟩
theorem bH.sh (h:Vf n p) (a:bH n p q) (k:Int):bH n (Sh k p) (Sh k q):=by
 obtain ⟨g,hg,rfl⟩:=a
 refine ⟨g,hg,?_⟩
 show (anew p.1 g,a6 (cG (anew p.1 g) (-k)) (anew p.2 g))=(anew p.1 g,anew (a6 (cG p.1 (-k)) p.2) g)
 rw [Nf h.1 hg,Ji (h.1.cG _) h.2 hg]
theorem bH.qt (h:Vf n p) (a:bH n p q):bH n (Qt p) (Qt q):=by
 obtain ⟨g,hg,rfl⟩:=a
 refine ⟨g,hg,?_⟩
 show (inv (anew p.2 g),anew p.1 g)=(anew (inv p.2) g,anew p.1 g)
 rw [Jj h.2 hg]
theorem zj (h:Vf n p) (j k:Int):Sh k (Sh j p)=Sh (j + k) p:=by
 show (p.1,shr p.1 (shr p.1 p.2 j) k)=(p.1,shr p.1 p.2 (j + k))
 rw [h.1.rB h.2]
theorem rE (h:Vf n p):Sh 0 p=p:=by
 show (p.1,shr p.1 p.2 0)=p
 rw [h.1.p9 h.2]
def Q2 (p:cw):cw:=(inv p.1,inv p.2)
theorem zk (p:cw):Qt (Qt p)=Q2 p:=rfl
theorem zm (h:Vf n p):Q2 (Q2 p)=p:=by
 show (inv (inv p.1),inv (inv p.2))=p
 rw [h.1.inv_inv,h.2.inv_inv]
theorem Vf.q2 (h:Vf n p):Vf n (Q2 p):=⟨h.1.aw,h.2.aw⟩
theorem bH.q2 (h:Vf n p) (a:bH n p q):bH n (Q2 p) (Q2 q):=bH.qt h.qt (bH.qt h a)
theorem sP (h:Vf n p) (k:Int):bH n (Q2 (Sh k p)) (Sh k (Q2 p)):=by
 have hx:=h.1
 have hy:=h.2
 refine ⟨cG p.1 (-k),hx.cG _,?_⟩
 show (inv p.1,a6 (cG (inv p.1) (-k)) (inv p.2))=(anew (inv p.1) (cG p.1 (-k)),anew (inv (a6 (cG p.1 (-k)) p.2)) (cG p.1 (-k)))
 have e1:anew (inv p.1) (cG p.1 (-k))=inv p.1:=by
  unfold anew
  rw [Fz hx,<- FA hx,zh hx,zh hx]
  congr 1;omega
 have e2:anew (inv (a6 (cG p.1 (-k)) p.2)) (cG p.1 (-k))=a6 (cG (inv p.1) (-k)) (inv p.2):=by
  unfold anew
  rw [sO (hx.cG _) hy,Jh hx,Fz hx,oA (hx.cG _) (hy.aw.a6 (hx.cG _)) (hx.cG _),oA hy.aw (hx.cG _) (hx.cG _),zh hx,show - -k + -k=0 by omega,Fy hx,uY hy.aw]
 rw [e1,e2]
theorem zo (h:Vf n p):bH n (Qt (Sh 1 (Qt p))) (Sh (-1) (Qt (Sh (-1) p))):=by
 have hx:=h.1
 have hy:=h.2
 have l:Qt (Sh 1 (Qt p))=(a6 (inv p.1) (inv p.2),inv p.2):=by
  show (inv (a6 (cG (inv p.2) (-1)) p.1),inv p.2)=_
  rw [Jh hy,show -(-1:Int)=1 by omega,zi hy,sO hy hx]
 have r:Sh (-1) (Qt (Sh (-1) p))=(a6 (inv p.2) (inv p.1),inv p.2):=by
  show (inv (a6 (cG p.1 (-(-1))) p.2),a6 (cG (inv (a6 (cG p.1 (-(-1))) p.2)) (-(-1))) p.1)=_
  have hf:=hx.a6 hy
  rw [show -(-1:Int)=1 by omega,zi hx,zi hf.aw,sO hx hy,Fx hy.aw hx]
 refine ⟨p.2,hy,?_⟩
 rw [l,r]
 show (a6 (inv p.2) (inv p.1),inv p.2)=(a6 (a6 (inv p.2) (a6 (inv p.1) (inv p.2))) p.2,a6 (a6 (inv p.2) (inv p.2)) p.2)
 rw [<- oA hy.aw hx.aw hy.aw,Fx (hy.aw.a6 hx.aw) hy,Fx hy.aw hy]
theorem uZ (h:Vf n p):bH n (Qt (Sh (-1) (Qt p))) (Q2 (Sh 1 (Qt (Sh 1 p)))):=by
 have hx:=h.1
 have hy:=h.2
 have hu:=hx.aw.a6 hy
 have l:Qt (Sh (-1) (Qt p))=(a6 (inv p.1) p.2,inv p.2):=by
  show (inv (a6 (cG (inv p.2) (-(-1))) p.1),inv p.2)=_
  rw [show -(-1:Int)=1 by omega,zi hy.aw,sO hy.aw hx,hy.inv_inv]
 have r:Q2 (Sh 1 (Qt (Sh 1 p)))=(a6 (inv p.1) p.2,a6 (inv p.1) (a6 (inv p.2) p.1)):=by
  show (inv (inv (a6 (cG p.1 (-1)) p.2)),inv (a6 (cG (inv (a6 (cG p.1 (-1)) p.2)) (-1)) p.1))=_
  rw [FA hx,FA hu.aw,hu.inv_inv,sO hu hx,sO hx.aw hy,hx.inv_inv]
 refine ⟨a6 (inv p.2) p.1,hy.aw.a6 hx,?_⟩
 rw [l,r]
 show (a6 (inv p.1) p.2,a6 (inv p.1) (a6 (inv p.2) p.1))=(a6 (a6 (inv (a6 (inv p.2) p.1)) (a6 (inv p.1) p.2)) (a6 (inv p.2) p.1),a6 (a6 (inv (a6 (inv p.2) p.1)) (inv p.2)) (a6 (inv p.2) p.1))
 have eg:inv (a6 (inv p.2) p.1)=a6 (inv p.1) p.2:=by rw [sO hy.aw hx,hy.inv_inv]
 have Ng:a6 (inv p.2) p.1=inv (a6 (inv p.1) p.2):=by rw [sO hx.aw hy,hx.inv_inv]
 rw [eg]
 have e1:a6 (a6 (a6 (inv p.1) p.2) (a6 (inv p.1) p.2)) (a6 (inv p.2) p.1)=a6 (inv p.1) p.2:=by rw [Ng,Jg hu hu]
 have e2:a6 (a6 (a6 (inv p.1) p.2) (inv p.2)) (a6 (inv p.2) p.1)=a6 (inv p.1) (a6 (inv p.2) p.1):=by rw [Jg hx.aw hy]
 rw [e1,e2]
end
def act:Int->List Int->cw->cw
 | k,[],p=>Sh k p
 | k,j :: ks,p=>act j ks (Qt (Sh k p))
def tS (k:Int):T4:=⟨1,k,0,1⟩
def gH (k:Int):T4:=⟨0,-1,1,k⟩
def gC:Int->List Int->T4
 | k,[]=>tS k
 | k,j :: ks=>(gC j ks).mul (gH k)
def jD (e:Bool) (M:T4):T4:=if e then ⟨-M.a,-M.b,-M.c,-M.d⟩ else M
def nt (e:Bool) (p:cw):cw:=if e then Q2 p else p
theorem zp (e f:Bool) (M:T4):jD e (jD f M)=jD (e.xor f) M:=by
 cases e <;> cases f <;> simp [jD]
theorem zq (e:Bool) (M N:T4):(jD e M).mul N=jD e (M.mul N):=by
 cases e
 ·rfl
 ·unfold jD T4.mul;simp only [if_true];congr 1 <;> grind
section
variable {n:Nat} {p q r:cw}
theorem Vf.act:∀ {ks:List Int} {k:Int} {p:cw},Vf n p->Vf n (af.act k ks p)
 | [],k,p,h=>h.sh k
 | j :: ks,k,p,h=>Vf.act (ks:=ks) (h.sh k).qt
theorem bH.act:∀ {ks:List Int} {k:Int} {p q:cw},Vf n p->bH n p q->bH n (af.act k ks p) (af.act k ks q)
 | [],k,p,q,h,a=>bH.sh h a k
 | j :: ks,k,p,q,h,a=>bH.act (ks:=ks) (h.sh k).qt (bH.qt (h.sh k) (bH.sh h a k))
theorem bH.nt (h:Vf n p) (a:bH n p q) (e:Bool):bH n (af.nt e p) (af.nt e q):=by cases e;exact a;exact bH.q2 h a
theorem Cz (h:Vf n p) (e f:Bool):nt e (nt f p)=nt (e.xor f) p:=by
 cases e <;> cases f
 ·rfl
 ·rfl
 ·rfl
 ·exact zm h
theorem zt:∀ {ks:List Int} {k:Int} {p:cw},Vf n p->bH n (act k ks (Q2 p)) (Q2 (act k ks p))
 | [],k,p,h=>bH.symm (h.sh k).q2 (sP h k)
 | j :: ks,k,p,h=>by
  have h1:bH n (Qt (Sh k (Q2 p))) (Qt (Q2 (Sh k p))):=bH.qt (h.q2.sh k) (bH.symm (h.sh k).q2 (sP h k))
  have h2:=bH.act (ks:=ks) (k:=j) ((h.q2.sh k).qt) h1
  have h3:=zt (ks:=ks) (k:=j) (h.sh k).qt
  exact bH.trans (Vf.act (ks:=j :: ks) (k:=k) h.q2) h2 h3
theorem CA {ks:List Int} {j k:Int} (h:Vf n p):act k ks (Sh j p)=act (j + k) ks p:=by
 cases ks with
 | nil=>exact zj h j k
 | cons i ks=>show act i ks (Qt (Sh k (Sh j p)))=act i ks (Qt (Sh (j + k) p));rw [zj h]
theorem Jk {ks:List Int} {k:Int} (h:Vf n p):act k ks (Qt p)=act 0 (k :: ks) p:=by show _=act k ks (Qt (Sh 0 p));rw [rE h]
theorem Nh {a b:Int} {ks:List Int} {j:Int} (hj:j=0\/j=1\/j=-1):∃ (k':Int) (ks':List Int) (f:Bool),ks'.length < ks.length + 2/\gC a (j :: b :: ks)=jD f (gC k' ks')/\∀ {n:Nat} {p:cw},Vf n p->bH n (act a (j :: b :: ks) p) (nt f (act k' ks' p)):=by
 rcases hj with rfl | rfl | rfl
 ·refine ⟨a + b,ks,true,by omega,?_,fun {n p} h=>?_⟩
  ·cases ks with
   | nil=>simp [gC,jD,T4.mul,tS,gH];omega
   | cons i ks =>
    show (((gC i ks).mul (gH b)).mul (gH 0)).mul (gH a)=jD true ((gC i ks).mul (gH (a + b)))
    rw [T4.assoc,T4.assoc]
    have:(gH b).mul ((gH 0).mul (gH a))=jD true (gH (a + b)):=by simp [jD,T4.mul,gH];omega
    rw [this]
    unfold jD T4.mul;simp only [if_true];congr 1 <;> grind
  ·show bH n (act b ks (Qt (Sh 0 (Qt (Sh a p))))) (Q2 (act (a + b) ks p))
   rw [rE (h.sh a).qt,zk,<- CA h]
   exact zt (h.sh a)
 ·refine ⟨a - 1,(b - 1) :: ks,false,by simp,?_,fun {n p} h=>?_⟩
  ·cases ks with
   | nil=>simp [gC,jD,T4.mul,tS,gH];refine ⟨?_,?_⟩ <;> grind
   | cons i ks =>
    show (((gC i ks).mul (gH b)).mul (gH 1)).mul (gH a)=((gC i ks).mul (gH (b - 1))).mul (gH (a - 1))
    rw [T4.assoc,T4.assoc,T4.assoc]
    have:(gH b).mul ((gH 1).mul (gH a))=(gH (b - 1)).mul (gH (a - 1)):=by simp [T4.mul,gH];refine ⟨?_,?_,?_⟩ <;> grind
    rw [this]
  ·show bH n (act b ks (Qt (Sh 1 (Qt (Sh a p))))) (act (b - 1) ks (Qt (Sh (a - 1) p)))
   have h1:=bH.act (ks:=ks) (k:=b) ((h.sh a).qt.sh 1).qt (zo (h.sh a))
   rw [CA ((h.sh a).sh (-1)).qt,zj h,show -1 + b=b - 1 by omega,show a + -1=a - 1 by omega] at h1
   exact h1
 ·refine ⟨a + 1,(b + 1) :: ks,true,by simp,?_,fun {n p} h=>?_⟩
  ·cases ks with
   | nil=>simp [gC,jD,T4.mul,tS,gH];refine ⟨?_,?_⟩ <;> grind
   | cons i ks =>
    show (((gC i ks).mul (gH b)).mul (gH (-1))).mul (gH a)=jD true (((gC i ks).mul (gH (b + 1))).mul (gH (a + 1)))
    rw [T4.assoc,T4.assoc,T4.assoc]
    have:(gH b).mul ((gH (-1)).mul (gH a))=jD true ((gH (b + 1)).mul (gH (a + 1))):=by simp [jD,T4.mul,gH];refine ⟨?_,?_,?_⟩ <;> grind
    rw [this]
    unfold jD T4.mul;simp only [if_true];congr 1 <;> grind
  ·show bH n (act b ks (Qt (Sh (-1) (Qt (Sh a p))))) (Q2 (act (b + 1) ks (Qt (Sh (a + 1) p))))
   have h1:=bH.act (ks:=ks) (k:=b) ((h.sh a).qt.sh (-1)).qt (uZ (h.sh a))
   have h2:=zt (ks:=ks) (k:=b) (((h.sh a).sh 1).qt.sh 1)
   rw [CA ((h.sh a).sh 1).qt,zj h,show 1 + b=b + 1 by omega] at h2
   have h3:=bH.trans (Vf.act (ks:=ks) (k:=b) ((h.sh a).qt.sh (-1)).qt) h1 (by rw [zj h] at *;exact h2)
   exact h3
def big:List Int->Prop
 | []=>True
 | [_]=>True
 | j :: b :: ks=>(2<=j\/j<=-2)/\big (b :: ks)
theorem Jl:∀ (ks:List Int) (k:Int),big ks\/∃ (k':Int) (ks':List Int) (f:Bool),ks'.length < ks.length/\gC k ks=jD f (gC k' ks')/\∀ {n:Nat} {p:cw},Vf n p->bH n (act k ks p) (nt f (act k' ks' p))
 | [],_=>.inl trivial
 | [_],_=>.inl trivial
 | j :: b :: ks,k=>by
  by_cases hj:j=0\/j=1\/j=-1
  ·obtain ⟨k',ks',f,hl,hm,ha⟩:=Nh (a:=k) (b:=b) (ks:=ks) hj
   exact .inr ⟨k',ks',f,by simpa using hl,hm,ha⟩
  ·rcases Jl (b :: ks) j with h | ⟨k',ks',f,hl,hm,ha⟩
   ·exact .inl ⟨by omega,h⟩
   ·refine .inr ⟨k,k' :: ks',f,by simpa using hl,?_,fun {n p} h=>?_⟩
    ·show (gC j (b :: ks)).mul (gH k)=jD f ((gC k' ks').mul (gH k))
     rw [hm,zq]
    ·exact ha (h.sh k).qt
theorem Jm:∀ (ks:List Int) (k:Int),big ks->(ks=[]\/2<=k\/k<=-2)->(gC k ks).c.natAbs < (gC k ks).d.natAbs
 | [],k,_,_=>by show (0:Int).natAbs < (1:Int).natAbs;decide
 | j :: ks,k,h,hk=>by
  have hk:2<=k\/k<=-2:=by rcases hk with hk | hk;cases hk;exact hk
  have hj:ks=[]\/2<=j\/j<=-2:=by
   cases ks with
   | nil=>exact .inl rfl
   | cons b ks=>exact .inr h.1
  have hb:big ks:=by
   cases ks with
   | nil=>trivial
   | cons b ks=>exact h.2
  have ih:=Jm ks j hb hj
  show ((gC j ks).c * 0 + (gC j ks).d * 1).natAbs < ((gC j ks).c * -1 + (gC j ks).d * k).natAbs
  generalize (gC j ks).c=c at ih
  generalize (gC j ks).d=d at ih
  rw [Int.mul_zero,Int.zero_add,Int.mul_one]
  have e:(d * k).natAbs=d.natAbs * k.natAbs:=Int.natAbs_mul d k
  have e2:d.natAbs * 2<=d.natAbs * k.natAbs:=Nat.mul_le_mul_left _ (by omega)
  omega
theorem zu {ks:List Int} {k:Int} (h:big ks) (hn:ks≠[]):(gC k ks).c≠0:=by
 cases ks with
 | nil=>exact absurd rfl hn
 | cons j ks =>
  have hj:ks=[]\/2<=j\/j<=-2:=by
   cases ks with
   | nil=>exact .inl rfl
   | cons b ks=>exact .inr h.1
  have hb:big ks:=by
   cases ks with
   | nil=>trivial
   | cons b ks=>exact h.2
  have ih:=Jm ks j hb hj
  show (gC j ks).c * 0 + (gC j ks).d * 1≠0
  omega
theorem FD:∀ (m:Nat) (ks:List Int) (k:Int),ks.length<=m->∀ (e:Bool),gC k ks=jD e T4.one->∀ {n:Nat} {p:cw},Vf n p->bH n (act k ks p) (nt e p):=by
 intro m
 induction m with
 | zero =>
  intro ks k hl e hm n p h
  have:ks=[]:=List.eq_nil_of_length_eq_zero (by omega)
  subst this
  have hm:(⟨1,k,0,1⟩:T4)=jD e T4.one:=hm
  cases e with
  | false =>
   have hk:k=0:=congrArg T4.b hm
   subst hk
   show bH n (Sh 0 p) p
   rw [rE h];exact bH.refl h
  | true=>exact absurd (congrArg T4.a hm) (show ¬ (1:Int)=-1 by decide)
 | succ m ih =>
  intro ks k hl e hm n p h
  by_cases hn:ks=[]
  ·subst hn
   exact ih [] k (Nat.zero_le _) e hm h
  ·rcases Jl ks k with hb | ⟨k',ks',f,hl',hm',ha⟩
   ·have:=zu (k:=k) hb hn
    rw [hm] at this
    exact absurd (by cases e <;> rfl) this
   ·have hm2:gC k' ks'=jD (f.xor e) T4.one:=by
     have:jD f (gC k ks)=gC k' ks':=by rw [hm',zp,Bool.xor_self];rfl
     rw [<- this,hm,zp]
    have h1:=ih ks' k' (by omega) (f.xor e) hm2 h
    have h2:=bH.trans h.act (ha h) (bH.nt h.act h1 f)
    rw [Cz h,<- Bool.xor_assoc,Bool.xor_self,Bool.false_xor] at h2
    exact h2
end
def nu:Nat->cw->cw
 | 0,p=>p
 | j + 1,p=>Qt (nu j p)
def stM (p:cw) (s:Sp):cw:=if s.1=true then Sh s.2 p else nu s.2.toNat p
def eo (p:cw) (w:List Sp):cw:=w.foldl stM p
section
variable {n:Nat} {p q:cw}
theorem Vf.nu (h:Vf n p):∀ j,Vf n (af.nu j p)
 | 0=>h
 | j + 1=>(Vf.nu h j).qt
theorem Vf.st (h:Vf n p) (s:Sp):Vf n (stM p s):=by
 unfold stM
 split
 ·exact h.sh _
 ·exact h.nu _
theorem Vf.ld:∀ {w:List Sp} {p:cw},Vf n p->Vf n (eo p w)
 | [],_,h=>h
 | s :: w,p,h=>Vf.ld (w:=w) (h.st s)
theorem bH.nu (h:Vf n p) (a:bH n p q):∀ j,bH n (af.nu j p) (af.nu j q)
 | 0=>a
 | j + 1=>bH.qt (h.nu j) (bH.nu h a j)
theorem bH.st (h:Vf n p) (a:bH n p q) (s:Sp):bH n (stM p s) (stM q s):=by
 unfold stM
 split
 ·exact bH.sh h a _
 ·exact bH.nu h a _
theorem bH.ld:∀ {w:List Sp} {p q:cw},Vf n p->bH n p q->bH n (eo p w) (eo q w)
 | [],_,_,_,a=>a
 | s :: w,p,q,h,a=>bH.ld (w:=w) (h.st s) (bH.st h a s)
theorem CB (p:cw) (u v:List Sp):eo p (u ++ v)=eo (eo p u) v:=by unfold eo;rw [List.foldl_append]
end
theorem Jn (s:Sp) (w:List Sp):aJ (s :: w)=(aJ w).mul (iR s):=by
 have:=qa [s] w
 rw [show aJ [s]=(iR s).mul T4.one from rfl,T4.mul_one] at this
 exact this
theorem Jo (e:Bool) (M N:T4):M.mul (jD e N)=jD e (M.mul N):=by
 cases e
 ·rfl
 ·unfold jD T4.mul;simp only [if_true];congr 1 <;> grind
theorem u3 (ks:List Int) (j k:Int):(gC k ks).mul (tS j)=gC (j + k) ks:=by
 cases ks with
 | nil=>simp [gC,T4.mul,tS]
 | cons i ks =>
  show ((gC i ks).mul (gH k)).mul (tS j)=(gC i ks).mul (gH (j + k))
  rw [T4.assoc]
  congr 1
  simp [T4.mul,gH,tS]
theorem u5 (ks:List Int) (k:Int):(gC k ks).mul T4.qt=gC 0 (k :: ks):=rfl
theorem Jp:∀ {w:List Sp},(∀ s∈w,c9 s)->∃ (k:Int) (ks:List Int) (f:Bool),aJ w=jD f (gC k ks)/\∀ {n:Nat} {p:cw},Vf n p->bH n (eo p w) (nt f (act k ks p))
 | [],_=>⟨0,[],false,rfl,fun {n p} h=>by show bH n p (Sh 0 p);rw [rE h];exact bH.refl h⟩
 | s :: w,hw=>by
  obtain ⟨k,ks,f,hm,ha⟩:=Jp (w:=w) fun x hx=>hw x (List.mem_cons_of_mem _ hx)
  have hs:=hw s List.mem_cons_self
  obtain ⟨b,j⟩:=s
  rw [Jn,hm]
  cases b with
  | true =>
   refine ⟨j + k,ks,f,?_,fun {n p} h=>?_⟩
   ·rw [zq];congr 1;exact u3 ks j k
   ·have:=ha (h.sh j)
    rw [CA h] at this
    exact this
  | false =>
   have c:j=1\/j=2\/j=3:=t3 (hs.1 rfl)
   rcases c with rfl | rfl | rfl
   ·refine ⟨0,k :: ks,f,?_,fun {n p} h=>?_⟩
    ·rw [zq];congr 1
    ·have:=ha h.qt
     rw [Jk h] at this
     exact this
   ·refine ⟨k,ks,!f,?_,fun {n p} h=>?_⟩
    ·rw [zq,show iR (false,2)=jD true T4.one from rfl,Jo,T4.mul_one,zp];cases f <;> rfl
    ·have h1:=ha h.q2
     have h2:=bH.trans (Vf.ld (w:=w) h.q2) h1 (bH.nt (Vf.act h.q2) (zt h) f)
     have e:nt f (Q2 (act k ks p))=nt (!f) (act k ks p):=by
      have:=Cz (p:=act k ks p) h.act f true
      rw [Bool.xor_true] at this
      exact this
     rw [e] at h2
     exact h2
   ·refine ⟨0,k :: ks,!f,?_,fun {n p} h=>?_⟩
    ·have e3:iR (false,3)=jD true T4.qt:=rfl
     rw [zq,e3,Jo,zp,u5];cases f <;> rfl
    ·have h1:=ha (p:=Q2 (Qt p)) h.qt.q2
     have h2:=bH.trans (Vf.ld (w:=w) h.qt.q2) h1 (bH.nt (Vf.act h.qt.q2) (zt h.qt) f)
     have e:nt f (Q2 (act k ks (Qt p)))=nt (!f) (act 0 (k :: ks) p):=by
      have:=Cz (p:=act k ks (Qt p)) h.qt.act f true
      rw [Bool.xor_true] at this
      rw [<- Jk h]
      exact this
     rw [e] at h2
     exact h2
theorem FE {w:List Sp} (hw:∀ s∈w,c9 s) (h1:aJ w=T4.one) {n:Nat} {p:cw} (h:Vf n p):bH n (eo p w) p:=by
 obtain ⟨k,ks,f,hm,ha⟩:=Jp hw
 have e:gC k ks=jD f T4.one:=by
  have:jD f (aJ w)=gC k ks:=by rw [hm,zp,Bool.xor_self];rfl
  rw [<- this,h1]
 have h2:=FD ks.length ks k (Nat.le_refl _) f e h
 have h3:=bH.trans (Vf.ld h) (ha h) (bH.nt h.act h2 f)
 rw [Cz h,Bool.xor_self] at h3
 exact h3
theorem xu {w:List Sp} (hw:∀ s∈w,c9 s):∀ s∈gM w,c9 s:=fun s hs=>by
 unfold gM at hs
 obtain ⟨t,ht,rfl⟩:=List.mem_map.mp (List.mem_reverse.mp hs)
 exact zf (hw t ht)
theorem FF {w:List Sp} (hw:∀ s∈w,c9 s):aJ (w ++ gM w)=T4.one:=by
 have hp:∀ s∈w ++ gM w,c9 s:=fun s hs=>by
  rcases List.mem_append.mp hs with hs | hs
  ·exact hw s hs
  ·exact xu hw s hs
 rw [<- Jc hp,MX hw];rfl
theorem zv {w:List Sp} (hw:∀ s∈w,c9 s):(aJ w).a * (aJ w).d - (aJ w).b * (aJ w).c=1:=by
 have:=FF hw
 rw [qa,Ct hw] at this
 have h:=congrArg T4.a this
 have h:(aJ w).d * (aJ w).a + -(aJ w).b * (aJ w).c=1:=h
 rw [Int.mul_comm (aJ w).d,Int.neg_mul] at h
 omega
theorem Jq {M:T4} (h:M.a * M.d - M.b * M.c=1):M.mul M.oZ=T4.one/\M.oZ.mul M=T4.one:=by
 constructor <;> (apply T4.ext' <;> simp [T4.mul,T4.oZ,T4.one] <;> grind)
theorem Jr {u w:List Sp} (hu:∀ s∈u,c9 s) (hw:∀ s∈w,c9 s) (e:aJ u=aJ w) {n:Nat} {p:cw} (h:Vf n p):bH n (eo p u) (eo p w):=by
 have hb:=xu hw
 have h1:bH n (eo p (u ++ gM w)) p:=FE (fun s hs=>by
  rcases List.mem_append.mp hs with hs | hs
  ·exact hu s hs
  ·exact hb s hs) (by rw [qa,e,<- qa];exact FF hw) h
 rw [CB] at h1
 have h2:=bH.ld (w:=w) (Vf.ld (Vf.ld h)) h1
 rw [<- CB] at h2
 have h3:bH n (eo (eo p u) (gM w ++ w)) (eo p u):=FE (fun s hs=>by
  rcases List.mem_append.mp hs with hs | hs
  ·exact hb s hs
  ·exact hw s hs) (by rw [qa,Ct hw];exact (Jq (zv hw)).1) (Vf.ld h)
 exact bH.trans (Vf.ld h) (bH.symm (Vf.ld (Vf.ld h)) h3) h2
def pg (p:cw) (n:Nat) (s:Int):cw:=(num p.1 (bf p.1 p.2 s n),num p.2 (bf p.1 p.2 s n))
def jH (n:Nat) (p:cw):cw:=lJ ((upto n).map (pg p n))
theorem zw {n:Nat} {p q:cw} (n0:0 < n) (h:Vf n p) (a:bH n p q):jH n p=jH n q:=by
 obtain ⟨g,hg,rfl⟩:=a
 have key:∀ s:Int,0<=s->s < (n:Int)->pg (anew p.1 g,anew p.2 g) n (app g s)=pg p n s:=fun s s0 s1=>by
  show (num (anew p.1 g) (bf (anew p.1 g) (anew p.2 g) (app g s) n),num (anew p.2 g) (bf (anew p.1 g) (anew p.2 g) (app g s) n))=_
  have hb:=oY h.1 h.2 s0 s1 n
  rw [Fq h.1 h.2 hg s0 s1 n,I0 h.1 hg hb,I0 h.2 hg hb]
  rfl
 refine Na (fun x=>?_) (fun e=>?_)
 ·constructor
  ·intro hx
   obtain ⟨s,hs,rfl⟩:=List.mem_map.mp hx
   obtain ⟨s0,s1⟩:=lu.mp hs
   exact List.mem_map.mpr ⟨app g s,lu.mpr (hg.app s0 s1),key s s0 s1⟩
  ·intro hx
   obtain ⟨t,ht,rfl⟩:=List.mem_map.mp hx
   obtain ⟨t0,t1⟩:=lu.mp ht
   obtain ⟨p0,p1⟩:=hg.lb t0 t1
   refine List.mem_map.mpr ⟨app (inv g) t,lu.mpr ⟨p0,p1⟩,?_⟩
   have:=key (app (inv g) t) p0 p1
   rw [hg.cO t0 t1] at this
   exact this.symm
 ·have:=congrArg List.length e
  rw [List.length_map,nH] at this
  simp at this
  omega
end af
namespace af
section
variable {n:Nat} {p q:cw} {g h:List Int} {s t:Int}
structure Wh (n:Nat) (p:cw):Prop where
 v:Vf n p
 all:∀ x:Int,0<=x->x < (n:Int)->iL p.1 p.2 x
theorem Wh.bf (w:Wh n p) (s0:0<=s) (s1:s < (n:Int)):Tn n (bf p.1 p.2 s n):=Cr w.v.1 w.v.2 s0 s1 w.all
theorem CC (xs ys:List Int):∀ k,∀ y∈bf xs ys 0 k,iL xs ys y
 | 0,y,hy=>by rw [List.mem_singleton.mp (show y∈[(0:Int)] from hy)];exact .zero
 | k + 1,y,hy=>by
  have hy':y∈(match (bf xs ys 0 k)[k]? with | some x=>visit xs ys (bf xs ys 0 k) x | none=>bf xs ys 0 k):=hy
  split at hy'
  ·next z hz =>
   have sQ:=CC xs ys k z (List.mem_of_getElem? hz)
   rcases oz.mp hy' with hy' | rfl
   ·rcases oz.mp hy' with hy' | rfl
    ·exact CC xs ys k y hy'
    ·exact sQ.r
   ·exact sQ.u
  ·exact CC xs ys k y hy'
theorem sR (w:Wh n p) (v:Vf n q) (n0:0 < n) (h:∀ F:List Int,F.Nodup->(∀ x∈F,0<=x/\x < (n:Int))->Cl q.1 q.2 F->Cl p.1 p.2 F):Wh n q:=by
 refine ⟨v,fun x x0 x1=>CC q.1 q.2 n x ?_⟩
 have c:=h (bf q.1 q.2 0 n) (uS _ _ _ _) (oY v.1 v.2 (by decide) (by omega) n) (Fp v.1 v.2 (by decide) (by omega))
 refine c.all ?_ (w.all x x0 x1)
 have:=xr q.1 q.2 0 0 n
 rw [Nat.zero_add] at this
 exact this.subset (show (0:Int)∈[(0:Int)] by simp)
theorem Js {zs F:List Int} (hz:Tn n zs) (nd:F.Nodup) (hb:∀ x∈F,0<=x/\x < (n:Int)) (hc:∀ x∈F,app zs x∈F):∀ x∈F,app (inv zs) x∈F:=fun x hx=>by
 obtain ⟨x0,x1⟩:=hb x hx
 obtain ⟨a0,a1⟩:=hz.lb x0 x1
 exact zd hz nd hb hc a0 a1 (by rw [hz.cO x0 x1];exact hx)
theorem FG {zs F:List Int} (hc:∀ x∈F,app zs x∈F) {x:Int} (hx:x∈F):∀ k,bp zs x k∈F
 | 0=>hx
 | k + 1=>hc _ (FG hc hx k)
theorem zx {zs F:List Int} (hz:Tn n zs) (nd:F.Nodup) (hb:∀ x∈F,0<=x/\x < (n:Int)) (hc:∀ x∈F,app zs x∈F) (k:Int) {x:Int} (hx:x∈F):pw zs k x∈F:=by
 unfold pw
 split
 ·exact FG hc hx _
 ·exact FG (Js hz nd hb hc) hx _
theorem Wh.sh (w:Wh n p) (n0:0 < n) (k:Int):Wh n (Sh k p):=by
 refine sR w (w.v.sh k) n0 fun F nd hb hc x hx=>⟨(hc x hx).1,?_⟩
 obtain ⟨x0,x1⟩:=hb x hx
 have h1:∀ x∈F,app p.1 x∈F:=fun x hx=>(hc x hx).1
 have hy:=zx w.v.1 nd hb h1 k hx
 have:=(hc _ hy).2
 obtain ⟨y0,y1⟩:=hb _ hy
 have e:app (Sh k p).2 (pw p.1 k x)=app p.2 x:=by
  show app (shr p.1 p.2 k) (pw p.1 k x)=_
  unfold shr
  have hlen:(cG p.1 (-k)).length=n:=(w.v.1.cG (-k)).length
  rw [nJ y0 (by rw [hlen];exact y1)]
  congr 1
  have e3:=zh w.v.1 k (-k)
  rw [Int.add_right_neg,Fy w.v.1] at e3
  have e4:app (a6 (cG p.1 k) (cG p.1 (-k))) x=app (upto n) x:=by rw [e3]
  rw [Cv x0 x1,nJ x0 (by rw [(w.v.1.cG k).length];exact x1)] at e4
  have e5:app (cG p.1 k) x=pw p.1 k x:=n5 x0 (by rw [w.v.1.length];exact x1)
  rw [e5] at e4
  exact e4
 rw [e] at this
 exact this
theorem Wh.qt (w:Wh n p) (n0:0 < n):Wh n (Qt p):=by
 refine sR w w.v.qt n0 fun F nd hb hc x hx=>⟨(hc x hx).2,?_⟩
 have:=Js w.v.2.aw nd hb (fun x hx=>(hc x hx).1) x hx
 rw [w.v.2.inv_inv] at this
 exact this
def Od (xs ys F:List Int):Prop:=F[0]?=some 0/\∀ (k:Nat) (y:Int),F[k + 1]?=some y->∃ (j:Nat) (x:Int),j<=k/\F[j]?=some x/\(y=app xs x\/y=app ys x)
theorem Od.one (xs ys:List Int):Od xs ys [0]:=⟨rfl,fun k y h=>by cases h⟩
theorem Od.snoc {xs ys F:List Int} {x y:Int} (h:Od xs ys F) (hx:x∈F) (hy:y=app xs x\/y=app ys x):Od xs ys (F ++ [y]):=by
 have hl:0 < F.length:=List.length_pos_of_mem hx
 refine ⟨by rw [List.getElem?_append_left hl];exact h.1,fun k z hz=>?_⟩
 by_cases hk:k + 1 < F.length
 ·rw [List.getElem?_append_left hk] at hz
  obtain ⟨j,x',hj,hx',e⟩:=h.2 k z hz
  exact ⟨j,x',hj,by rw [List.getElem?_append_left (by omega)];exact hx',e⟩
 ·rw [List.getElem?_append_right (by omega)] at hz
  have hz:z=y:=by
   cases h3:k + 1 - F.length with
   | zero=>rw [h3] at hz;cases hz;rfl
   | succ m=>rw [h3] at hz;cases hz
  obtain ⟨j,hj,e⟩:=List.getElem_of_mem hx
  have mL:k + 1=F.length\/F.length < k + 1:=by omega
  refine ⟨j,x,by omega,by rw [List.getElem?_append_left hj,List.getElem?_eq_getElem hj,e],by rw [hz];exact hy⟩
structure Fo (xs ys F:List Int):Prop extends Fd xs ys F where
 od:Od xs ys F
theorem Fo.one (xs ys:List Int):Fo xs ys [0]:=⟨Fd.one xs ys,Od.one xs ys⟩
end
end af
namespace af
section
variable {n:Nat} {xs ys r r' r2:List Int} {i j x y:Int}
def Sm (xs ys r:List Int):Prop:=∀ s∈r,app ys (app xs s)=app xs (app ys s)
instance:Decidable (Sm xs ys r):=inferInstanceAs (Decidable (∀ s∈r,app ys (app xs s)=app xs (app ys s)))
end
end af
namespace af
section
variable {n:Nat} {xs ys:List Int} {rs:List (List Int)} {lows:List (List Int)} {B:List Int->List (List Int)}
end
section
variable {n:Nat} {c g:List Int} {rs rs':List (List Int)}
end
section
variable {n:Nat} {p q:cw} {g:List Int}
theorem Wh.nu (w:Wh n p) (n0:0 < n):∀ j,Wh n (af.nu j p)
 | 0=>w
 | j + 1=>(w.nu n0 j).qt n0
theorem Wh.st (w:Wh n p) (n0:0 < n) (s:Sp):Wh n (stM p s):=by
 unfold stM
 split
 ·exact w.sh n0 _
 ·exact w.nu n0 _
theorem Wh.ld (n0:0 < n):∀ {w:List Sp} {p:cw},Wh n p->Wh n (eo p w)
 | [],_,h=>h
 | s :: w,_,h=>Wh.ld n0 (w:=w) (h.st n0 s)
end
end af
namespace af
def nr (x y:Int):Int:=(2 * x + y).fdiv (2 * y)
theorem Ni (a b:Int) (hb:b≠0):(0 < b->0<=a - b * a.fdiv b/\a - b * a.fdiv b < b)/\(b < 0->b < a - b * a.fdiv b/\a - b * a.fdiv b<=0):=by
 have h1:=Int.mul_ediv_add_emod a b
 have h2:=Int.emod_nonneg a hb
 have h3:=Int.emod_lt a hb
 rw [Int.fdiv_eq_ediv]
 constructor
 ·intro h
  rw [if_pos (.inl (by omega)),Int.sub_zero]
  have:b.natAbs=b.toNat:=by omega
  constructor <;> omega
 ·intro h
  by_cases hd:b ∣ a
  ·rw [if_pos (.inr hd),Int.sub_zero]
   have:a % b=0:=Int.emod_eq_zero_of_dvd hd
   constructor <;> omega
  ·rw [if_neg (by rintro (z | z);omega;exact hd z),Int.mul_sub]
   have hne:a % b≠0:=fun z=>hd (Int.dvd_of_emod_eq_zero z)
   constructor <;> omega
theorem sS {x y:Int} (hy:y≠0):2 * (x - nr x y * y).natAbs<=y.natAbs:=by
 obtain ⟨h1,h2⟩:=Ni (2 * x + y) (2 * y) (by omega)
 have e:2 * x + y - 2 * y * (2 * x + y).fdiv (2 * y)=2 * (x - nr x y * y) + y:=by
  unfold nr
  rw [Int.mul_sub,Int.mul_comm ((2 * x + y).fdiv (2 * y)) y,Int.mul_assoc]
  omega
 rw [e] at h1 h2
 rcases (show 0 < y\/y < 0 by omega) with h | h
 ·have:=h1 (by omega);omega
 ·have:=h2 (by omega);omega
theorem Jt {x y:Int} (hy:y≠0):(nr x y).natAbs<=x.natAbs + 1:=by
 have h:=sS (x:=x) hy
 have h1:(nr x y * y).natAbs<=x.natAbs + (x - nr x y * y).natAbs:=by omega
 rw [Int.natAbs_mul] at h1
 have hy1:1<=y.natAbs:=by omega
 by_cases hq:(nr x y).natAbs<=x.natAbs + 1
 ·exact hq
 ·exfalso
  have h2:(x.natAbs + 2) * y.natAbs<=(nr x y).natAbs * y.natAbs:=Nat.mul_le_mul_right _ (by omega)
  have h3:(x.natAbs + 2) * y.natAbs=x.natAbs * y.natAbs + 2 * y.natAbs:=Nat.add_mul _ _ _
  have h4:x.natAbs<=x.natAbs * y.natAbs:=Nat.le_mul_of_pos_right _ hy1
  omega
def o3 (k:Int):List Sp:=if k=0 then [] else [(true,k)]
theorem zy {k:Int}:∀ s∈o3 k,c9 s/\s.2=k:=fun s hs=>by
 unfold o3 at hs
 split at hs
 ·cases hs
 ·next h =>
  rw [List.mem_singleton.mp hs]
  exact ⟨⟨(fun z=>by cases z),h⟩,rfl⟩
theorem FH (k:Int):aJ (o3 k)=⟨1,k,0,1⟩:=by
 unfold o3
 split
 ·next h=>rw [h];rfl
 ·show (iR (true,k)).mul T4.one=_
  rw [T4.mul_one];rfl
theorem zz (k:Int):(o3 k).length<=1:=by unfold o3;split <;> simp
def ph (x y:Int):List Sp:=o3 (-(nr x y)) ++ [(false,1)]
theorem FI (x y:Int):aJ (ph x y)=⟨0,-1,1,-(nr x y)⟩:=by
 unfold ph
 rw [sL,FH]
 apply T4.ext' <;> simp [T4.mul,iR,qp,T4.qt,T4.one]
theorem Ju {x y:Int} (hy:y≠0):∀ s∈ph x y,c9 s/\s.2.natAbs<=x.natAbs + 1:=fun s hs=>by
 have h:=Jt (x:=x) hy
 rcases List.mem_append.mp hs with hs | hs
 ·obtain ⟨h1,h2⟩:=zy s hs
  exact ⟨h1,by rw [h2];omega⟩
 ·rw [List.mem_singleton.mp hs]
  exact ⟨⟨fun _=>⟨by decide,by decide⟩,by decide⟩,by show 1<=_;omega⟩
theorem FJ (x y:Int):(ph x y).length<=2:=by unfold ph;rw [List.length_append];have:=zz (-(nr x y));simp;omega
structure Dv (M:Nat) (x y:Int) (g:List Sp) (u v:Int) (r:Nat):Prop where
 pr:∀ s∈g,c9 s/\s.2.natAbs<=M + 1
 ln:g.length<=2 * r
 ua:u=(aJ g).a * x + (aJ g).b * y
 vc:v=(aJ g).c * x + (aJ g).d * y
 ub:u.natAbs<=M
 vb:v.natAbs * 2 ^ r<=M
theorem Dv.zero {M:Nat} {x y:Int} (hx:x.natAbs<=M) (hy:y.natAbs<=M):Dv M x y [] x y 0 :=
 ⟨(fun s hs=>nomatch hs),Nat.le_refl _,by show x=1 * x + 0 * y;omega,by show y=0 * x + 1 * y;omega,hx,by omega⟩
theorem Dv.step {M r:Nat} {x y u v:Int} {g:List Sp} (h:Dv M x y g u v r) (hv:v≠0):Dv M x y (g ++ ph u v) (-v) (u - nr u v * v) (r + 1):=by
 have hl:=sS (x:=u) hv
 have hlen:=FJ u v
 have h2:1<=2 ^ r:=Nat.one_le_two_pow
 have vM:v.natAbs<=M:=Nat.le_trans (Nat.le_mul_of_pos_right _ h2) h.vb
 have e:aJ (g ++ ph u v)=⟨-(aJ g).c,-(aJ g).d,(aJ g).a - nr u v * (aJ g).c,(aJ g).b - nr u v * (aJ g).d⟩:=by
  rw [qa,FI]
  apply T4.ext' <;> simp [T4.mul,Int.neg_mul] <;> omega
 refine ⟨fun s hs=>?_,by rw [List.length_append];have:=h.ln;omega,?_,?_,by omega,?_⟩
 ·rcases List.mem_append.mp hs with hs | hs
  ·exact h.pr s hs
  ·obtain ⟨h1,h3⟩:=Ju hv s hs
   exact ⟨h1,by have:=h.ub;omega⟩
 ·rw [e]
  show -v=-(aJ g).c * x + -(aJ g).d * y
  rw [h.vc,Int.neg_mul,Int.neg_mul];omega
 ·rw [e]
  show u - nr u v * v=((aJ g).a - nr u v * (aJ g).c) * x + ((aJ g).b - nr u v * (aJ g).d) * y
  generalize hq:nr u v=q
  rw [h.ua,h.vc,Int.sub_mul,Int.sub_mul,Int.mul_add,Int.mul_assoc,Int.mul_assoc]
  omega
 ·have:=h.vb
  have h3:(u - nr u v * v).natAbs * 2 ^ (r + 1)=2 * (u - nr u v * v).natAbs * 2 ^ r:=by rw [Nat.pow_succ,Nat.mul_comm (2 ^ r) 2,<- Nat.mul_assoc,Nat.mul_comm _ 2]
  rw [h3]
  exact Nat.le_trans (Nat.mul_le_mul_right _ hl) this
theorem Dv.few {M r k:Nat} {x y u v:Int} {g:List Sp} (h:Dv M x y g u v r) (hv:v≠0) (hM:M < 2 ^ k):r < k:=by
 have h1:2 ^ r<=M:=Nat.le_trans (Nat.le_mul_of_pos_left _ (by omega)) h.vb
 exact (Nat.pow_lt_pow_iff_right (by decide)).mp (Nat.lt_of_le_of_lt h1 hM)
def mQ (A:T4):List Sp:=if A.a=1 then o3 A.b else (false,2) :: o3 (-A.b)
theorem Nj {a d:Int} (h:a * d=1):(a=1/\d=1)\/(a=-1/\d=-1):=by
 have h1:=congrArg Int.natAbs h
 rw [Int.natAbs_mul] at h1
 have h2:a.natAbs=1:=Nat.eq_one_of_dvd_one ⟨_,h1.symm⟩
 rcases (show a=1\/a=-1 by omega) with rfl | rfl
 ·exact .inl ⟨rfl,by omega⟩
 ·exact .inr ⟨rfl,by omega⟩
theorem Nk {A:T4} (hc:A.c=0) (hd:A.a * A.d - A.b * A.c=1):aJ (mQ A)=A:=by
 have h1:A.a * A.d=1:=by rw [hc,Int.mul_zero] at hd;omega
 unfold mQ
 rcases Nj h1 with ⟨e1,e2⟩ | ⟨e1,e2⟩
 ·rw [if_pos e1,FH]
  exact T4.ext' e1.symm rfl hc.symm e2.symm
 ·rw [if_neg (by rw [e1];decide),Jn,FH]
  apply T4.ext'
  ·simp [T4.mul,iR,qp,T4.qt,T4.one,e1]
  ·simp [T4.mul,iR,qp,T4.qt,T4.one]
  ·simp [T4.mul,iR,qp,T4.qt,T4.one,hc]
  ·simp [T4.mul,iR,qp,T4.qt,T4.one,e2]
theorem Jv (A:T4):∀ s∈mQ A,c9 s:=fun s hs=>by
 unfold mQ at hs
 split at hs
 ·exact (zy s hs).1
 ·rcases List.mem_cons.mp hs with rfl | hs
  ·exact ⟨fun _=>⟨by decide,by decide⟩,by decide⟩
  ·exact (zy s hs).1
theorem Jw (A:T4):(mQ A).length<=2:=by
 unfold mQ
 split
 ·have:=zz A.b;omega
 ·have:=zz (-A.b);simp;omega
theorem Nl (A B:T4):(A.mul B).a * (A.mul B).d - (A.mul B).b * (A.mul B).c=(A.a * A.d - A.b * A.c) * (B.a * B.d - B.b * B.c):=by
 simp only [T4.mul]
 grind
theorem Nm {T:T4} {g:List Sp} (hd:T.a * T.d - T.b * T.c=1) (hg:∀ s∈g,c9 s) (h0:(aJ g).c * T.a + (aJ g).d * T.c=0):aJ (mP (mQ ((aJ g).mul T) ++ gM g)).reverse=T/\∀ s∈(mP (mQ ((aJ g).mul T) ++ gM g)).reverse,c9 s:=by
 have Nn:((aJ g).mul T).a * ((aJ g).mul T).d - ((aJ g).mul T).b * ((aJ g).mul T).c=1:=by rw [Nl,zv hg,hd];rfl
 have Np:((aJ g).mul T).c=0:=h0
 have pr:∀ s∈mQ ((aJ g).mul T) ++ gM g,c9 s:=fun s hs=>by
  rcases List.mem_append.mp hs with hs | hs
  ·exact Jv _ s hs
  ·exact xu hg s hs
 refine ⟨?_,fun s hs=>(uU pr).pr s (List.mem_reverse.mp hs)⟩
 rw [Jc pr,qa,Nk Np Nn,Ct hg,<- T4.assoc,(Jq (zv hg)).2,T4.one_mul]
end af
namespace L4
open PySem PySem.Spec L2
inductive D where
 | non | bl (b:Bool) | int (i:Int) | str (x:Str) | ty (n:String) | tup (ds:List D) | ref (i:Nat)
instance:Inhabited D:=⟨.non⟩
inductive O where
 | lst (ds:List D) | oB (ds:List D) | dct (kvs:List (Key×D)) | CD (kvs:List (List Int×D)) | exc (c:Str) (fs:List (Str×D)) | any | iJ (lo hi:Int)
abbrev Store:=List O
abbrev aj:=List (Option D)
abbrev Dm (α:Type):=Store->Option (α×Store)
inductive Fl where
 | nx (δ:aj) | bk (δ:aj) | ct (δ:aj) | rt (d:D)
mutual
inductive Rp (K:PySem.W.Frag) (ρ:List Addr) (H:Hp):V->D->Prop
 | non:Rp K ρ H .non .non
 | bl (b:Bool):Rp K ρ H (.bl b) (.bl b)
 | int (i:Int):Rp K ρ H (.int i) (.int i)
 | str (x:Str):Rp K ρ H (.str x) (.str x)
 | ty (n:String):Rp K ρ H (.ty n) (.ty n)
 | ref {a:Addr} {i:Nat}:ρ[i]?=some a->Rp K ρ H (.ref a) (.ref i)
 | tup {a:Addr} {vs:List V} {ds:List D}:eY K H a vs->cC K ρ H vs ds->Rp K ρ H (.ref a) (.tup ds)
inductive cC (K:PySem.W.Frag) (ρ:List Addr) (H:Hp):List V->List D->Prop
 | nil:cC K ρ H [] []
 | cons {v:V} {vs:List V} {d:D} {ds:List D}:Rp K ρ H v d->cC K ρ H vs ds->cC K ρ H (v :: vs) (d :: ds)
end
structure Mn (K:PySem.W.Frag) (ρ:List Addr) (H:Hp) (ρ':List Addr) (H':Hp):Prop where
 r:∀ (i:Nat) (a:Addr),ρ[i]?=some a->ρ'[i]?=some a
 t:∀ a vs,eY K H a vs->eY K H' a vs
 f:∀ a o u,H a=some (.mG o u)->H' a=some (.mG o u)
 x:∀ a ws,H a=some (.xd ws)->H' a=some (.xd ws)
section
variable {K:PySem.W.Frag} {ρ ρ' ρ2:List Addr} {H H' H2:Hp}
theorem Mn.refl:Mn K ρ H ρ H:=⟨fun _ _ h=>h,fun _ _ h=>h,fun _ _ _ h=>h,fun _ _ h=>h⟩
theorem Mn.trans (m:Mn K ρ H ρ' H') (n:Mn K ρ' H' ρ2 H2):Mn K ρ H ρ2 H2:=⟨fun i a h=>n.r i a (m.r i a h),fun a vs h=>n.t a vs (m.t a vs h),fun a o u h=>n.f a o u (m.f a o u h),fun a ws h=>n.x a ws (m.x a ws h)⟩
mutual
theorem Rp.mn (m:Mn K ρ H ρ' H'):∀ {v:V} {d:D},Rp K ρ H v d->Rp K ρ' H' v d
 | _,_,.non=>.non
 | _,_,.bl b=>.bl b
 | _,_,.int i=>.int i
 | _,_,.str x=>.str x
 | _,_,.ty n=>.ty n
 | _,_,.ref e=>.ref (m.r _ _ e)
 | _,_,.tup q r=>.tup (m.t _ _ q) (cC.mn m r)
theorem cC.mn (m:Mn K ρ H ρ' H'):∀ {vs:List V} {ds:List D},cC K ρ H vs ds->cC K ρ' H' vs ds
 | _,_,.nil=>.nil
 | _,_,.cons a b=>.cons (Rp.mn m a) (cC.mn m b)
end
theorem cC.length:∀ {vs:List V} {ds:List D},cC K ρ H vs ds->vs.length=ds.length
 | _,_,.nil=>rfl
 | _,_,.cons _ r=>by rw [List.length_cons,List.length_cons,r.length]
theorem cC.got:∀ {vs:List V} {ds:List D},cC K ρ H vs ds->∀ {i:Nat} {d:D},ds[i]?=some d->∃ v,vs[i]?=some v/\Rp K ρ H v d
 | _,_,.nil,i,v,e=>by simp at e
 | _,_,.cons (v:=v) a b,0,d,e=>⟨v,by simp,by have:_=d:=Option.some.inj (by simpa using e);rw [<- this];exact a⟩
 | _,_,.cons a b,i + 1,d,e=>by
  obtain ⟨v,e1,r⟩:=cC.got b (i:=i) (by simpa using e)
  exact ⟨v,by simpa using e1,r⟩
theorem cC.append:∀ {vs:List V} {ds:List D} {ws:List V} {es:List D},cC K ρ H vs ds->cC K ρ H ws es->cC K ρ H (vs ++ ws) (ds ++ es)
 | _,_,_,_,.nil,s=>s
 | _,_,_,_,.cons a b,s=>.cons a (cC.append b s)
theorem cC.one {v:V} {d:D} (r:Rp K ρ H v d):cC K ρ H [v] [d]:=.cons r .nil
theorem cC.take:∀ {vs:List V} {ds:List D} (n:Nat),cC K ρ H vs ds->cC K ρ H (vs.take n) (ds.take n)
 | _,_,0,_=>.nil
 | _,_,_ + 1,.nil=>.nil
 | _,_,n + 1,.cons r t=>.cons r (cC.take n t)
theorem cC.drop:∀ {vs:List V} {ds:List D} (n:Nat),cC K ρ H vs ds->cC K ρ H (vs.drop n) (ds.drop n)
 | _,_,0,r=>r
 | _,_,_ + 1,.nil=>.nil
 | _,_,n + 1,.cons _ t=>cC.drop n t
theorem cC.set {v:V} {d:D} (r:Rp K ρ H v d):∀ {vs:List V} {ds:List D} (i:Nat),cC K ρ H vs ds->cC K ρ H (vs.set i v) (ds.set i d)
 | _,_,_,.nil=>.nil
 | _,_,0,.cons _ t=>.cons r t
 | _,_,i + 1,.cons q t=>.cons q (cC.set r i t)
theorem cC.erase:∀ {vs:List V} {ds:List D} (i:Nat),cC K ρ H vs ds->cC K ρ H (vs.eraseIdx i) (ds.eraseIdx i)
 | _,_,_,.nil=>.nil
 | _,_,0,.cons _ t=>t
 | _,_,i + 1,.cons q t=>.cons q (cC.erase i t)
theorem cC.flat {vs:List V} {ds:List D} (r:cC K ρ H vs ds):∀ n:Nat,cC K ρ H (List.replicate n vs).flatten (List.replicate n ds).flatten
 | 0=>.nil
 | n + 1=>by rw [List.replicate_succ,List.replicate_succ,List.flatten_cons,List.flatten_cons];exact r.append (r.flat n)
theorem cC.ints:∀ (ns:List Int),cC K ρ H (ns.map V.int) (ns.map D.int)
 | []=>.nil
 | n :: r=>.cons (.int n) (cC.ints r)
end
def Rs (K:PySem.W.Frag) (ρ:List Addr) (H:Hp) (σ:St) (δ:aj):Prop:=σ.length=δ.length/\∀ (i:Nat) (d:D),δ[i]?=some (some d)->∃ v,σ[i]?=some (some v)/\Rp K ρ H v d
def Rk (K:PySem.W.Frag) (ρ:List Addr) (H:Hp):List (Key×V)->List (Key×D)->Prop:=Paired fun p q=>p.1=q.1/\Rp K ρ H p.2 q.2
def Ru (K:PySem.W.Frag) (ρ:List Addr) (H:Hp):List (List Int×D)->List (List Int×Addr×Value)->Prop:=Paired fun q x=>q.1=x.1/\eY K H x.2.1 (x.1.map V.int)/\∃ v,RelV v x.2.2/\Rp K ρ H v q.2
def Xd (K:PySem.W.Frag) (ρ:List Addr) (H:Hp):Option Addr->List (Str×D)->Prop
 | none,fs=>fs=[]
 | some d,fs=>∃ ws,H d=some (.xd ws)/\∀ f e,fs.lookup f=some e->∃ v,ws.lookup f=some v/\Rp K ρ H v e
def sT (K:PySem.W.Frag) (ρ:List Addr) (H:Hp) (a:Addr):O->Prop
 | .lst ds=>∃ vs,H a=some (.lst vs)/\cC K ρ H vs ds
 | .oB ds=>∃ vs,yO K H a vs/\cC K ρ H vs ds
 | .dct kvs=>∃ ws,H a=some (.dK ws)/\Rk K ρ H ws kvs
 | .CD kvs=>∃ xs,H a=some (DU a xs)/\Ru K ρ H kvs xs
 | .exc c fs=>∃ C dx tr,PySem.W.nsIn K mainGlobals c=some (some (.ref C))/\H a=some (XO a C dx tr)/\Xd K ρ H dx fs
 | .any=>True
 | .iJ lo hi=>H a=some (.iJ lo hi)
def O.mut:O->Bool
 | .oB _=>false
 | .any=>false
 | _=>true
structure Rl (K:PySem.W.Frag) (ρ:List Addr) (H:Hp) (st:Store):Prop where
 len:ρ.length=st.length
 nd:∀ (i j:Nat) (a:Addr) (o o':O),ρ[i]?=some a->ρ[j]?=some a->st[i]?=some o->st[j]?=some o'->o.mut=true->o'.mut=true->i=j
 obj:∀ (i:Nat) (a:Addr) (o:O),ρ[i]?=some a->st[i]?=some o->sT K ρ H a o
section
variable {K:PySem.W.Frag} {ρ ρ' ρ2:List Addr} {H H' H2:Hp} {st st':Store} {a p:Addr} {i:Nat} {o o':O} {ho:HO} {σ:St} {δ:aj}
theorem Rs.mn (h:Rs K ρ H σ δ) (m:Mn K ρ H ρ' H'):Rs K ρ' H' σ δ:=⟨h.1,fun i d e=>let ⟨v,e1,r⟩:=h.2 i d e;⟨v,e1,r.mn m⟩⟩
theorem Rk.mn (m:Mn K ρ H ρ' H') {ws:List (Key×V)} {kvs:List (Key×D)} (h:Rk K ρ H ws kvs):Rk K ρ' H' ws kvs:=by
 induction h with
 | nil=>exact .nil
 | cons a _ ih=>exact .cons ⟨a.1,a.2.mn m⟩ ih
theorem Ru.mn (m:Mn K ρ H ρ' H') {kvs:List (List Int×D)} {xs:List (List Int×Addr×Value)} (h:Ru K ρ H kvs xs):Ru K ρ' H' kvs xs:=by
 induction h with
 | nil=>exact .nil
 | cons a _ ih=>obtain ⟨a1,a2,v,a3,a4⟩:=a;exact .cons ⟨a1,m.t _ _ a2,v,a3,a4.mn m⟩ ih
theorem Xd.mn (m:Mn K ρ H ρ' H') {dx:Option Addr} {fs:List (Str×D)} (h:Xd K ρ H dx fs):Xd K ρ' H' dx fs:=by
 cases dx with
 | none=>exact h
 | some d=>obtain ⟨ws,e,q⟩:=h;exact ⟨ws,m.x _ _ e,fun f e' z=>let ⟨v,z1,z2⟩:=q f e' z;⟨v,z1,z2.mn m⟩⟩
theorem sT.keep (m:Mn K ρ H ρ' H') (h:∀ u,H a=some u->H' a=some u) (r:sT K ρ H a o):sT K ρ' H' a o:=by
 cases o with
 | lst ds=>obtain ⟨vs,e,q⟩:=r;exact ⟨vs,h _ e,q.mn m⟩
 | oB ds =>
  obtain ⟨vs,e,q⟩:=r
  refine ⟨vs,?_,q.mn m⟩
  rcases e with ⟨u,e⟩ | e
  ·exact .inl ⟨u,h _ e⟩
  ·exact .inr e
 | dct kvs=>obtain ⟨ws,e,q⟩:=r;exact ⟨ws,h _ e,q.mn m⟩
 | CD kvs=>obtain ⟨ws,e,q⟩:=r;exact ⟨ws,h _ e,q.mn m⟩
 | exc c fs=>obtain ⟨C,dx,tr,n,e,q⟩:=r;exact ⟨C,dx,tr,n,h _ e,q.mn m⟩
 | any=>trivial
 | iJ lo hi=>exact h _ r
theorem Mn.same (s:iE H H'):Mn K ρ H ρ H':=⟨fun _ _ h=>h,fun _ _ h=>(Kp.of_same (ch:=[]) s).EU h,fun _ _ _ h=>s _ _ h,fun _ _ h=>s _ _ h⟩
theorem Rl.same (l:Rl K ρ H st) (s:iE H H'):Rl K ρ H' st:=⟨l.len,l.nd,fun i a o h1 h2=>(l.obj i a o h1 h2).keep (Mn.same s) fun u e=>s _ _ e⟩
theorem Rl.at (l:Rl K ρ H st) (h1:ρ[i]?=some a) (h2:st[i]?=some o) (hm:o.mut=true):∃ u,H a=some u/\∀ x y,u≠.mG x y:=by
 have r:=l.obj i a o h1 h2
 cases o with
 | lst ds=>obtain ⟨vs,e,_⟩:=r;exact ⟨_,e,fun x y z=>nomatch z⟩
 | oB ds=>cases hm
 | dct kvs=>obtain ⟨ws,e,_⟩:=r;exact ⟨_,e,fun x y z=>nomatch z⟩
 | CD kvs=>obtain ⟨ws,e,_⟩:=r;exact ⟨_,e,fun x y z=>by cases z⟩
 | exc c fs=>obtain ⟨C,dx,tr,_,e,_⟩:=r;exact ⟨_,e,fun x y z=>by cases z⟩
 | any=>cases hm
 | iJ lo hi=>exact ⟨_,r,fun x y z=>nomatch z⟩
theorem Mn.new (hp:H p=none):Mn K ρ H (ρ ++ [p]) (upd H p ho):=⟨fun i a h=>by
  obtain ⟨hi,_⟩:=List.getElem?_eq_some_iff.mp h
  rw [List.getElem?_append_left hi];exact h,fun _ _ h=>(Kp.of_same (ch:=[]) (iE.up hp)).EU h,fun _ _ _ h=>iE.up hp _ _ h,fun _ _ h=>iE.up hp _ _ h⟩
theorem Rl.new (l:Rl K ρ H st) (hp:H p=none) (mk:sT K (ρ ++ [p]) (upd H p ho) p o):Rl K (ρ ++ [p]) (upd H p ho) (st ++ [o]):=by
 have m:Mn K ρ H (ρ ++ [p]) (upd H p ho):=Mn.new hp
 have split:∀ (i:Nat) (a:Addr) (o':O),(ρ ++ [p])[i]?=some a->(st ++ [o])[i]?=some o'->(ρ[i]?=some a/\st[i]?=some o')\/(i=ρ.length/\a=p/\o'=o):=fun i a o' h1 h2=>by
  by_cases hi:i < ρ.length
  ·rw [List.getElem?_append_left hi] at h1
   rw [List.getElem?_append_left (by rw [<- l.len];exact hi)] at h2
   exact .inl ⟨h1,h2⟩
  ·obtain ⟨hb,_⟩:=List.getElem?_eq_some_iff.mp h1
   rw [List.length_append,List.length_singleton] at hb
   have e:i=ρ.length:=by omega
   subst e
   rw [List.getElem?_append_right (Nat.le_refl _),Nat.sub_self] at h1
   rw [l.len,List.getElem?_append_right (Nat.le_refl _),Nat.sub_self] at h2
   exact .inr ⟨rfl,(Option.some.inj h1).symm,(Option.some.inj h2).symm⟩
 refine ⟨by rw [List.length_append,List.length_append,l.len];rfl,fun i j a u u' h1 h2 h3 h4 m1 m2=>?_,fun i a u h1 h2=>?_⟩
 ·rcases split i a u h1 h3 with ⟨g1,g2⟩ | ⟨rfl,rfl,rfl⟩ <;> rcases split j _ u' h2 h4 with ⟨k1,k2⟩ | ⟨k1,k2,k3⟩
  ·exact l.nd i j a u u' g1 k1 g2 k2 m1 m2
  ·subst k2
   obtain ⟨w,e,_⟩:=l.at g1 g2 m1
   rw [e] at hp;cases hp
  ·obtain ⟨w,e,_⟩:=l.at k1 k2 m2
   rw [e] at hp;cases hp
  ·exact k1.symm
 ·rcases split i a u h1 h2 with ⟨g1,g2⟩ | ⟨rfl,rfl,rfl⟩
  ·exact (l.obj i a u g1 g2).keep m fun w e=>iE.up hp _ _ e
  ·exact mk
theorem Rl.put (l:Rl K ρ H st) (hi:ρ[i]?=some a) (hs:st[i]?=some o) (hm:o.mut=true) (hm':o'.mut=true) (m:Mn K ρ H ρ (upd H a ho)) (r:sT K ρ (upd H a ho) a o'):Rl K ρ (upd H a ho) (st.set i o'):=by
 obtain ⟨w,ew,nf⟩:=l.at hi hs hm
 have Nq:i < st.length:=(List.getElem?_eq_some_iff.mp hs).1
 have old:∀ (j:Nat) (u:O),(st.set i o')[j]?=some u->(j=i/\u=o')\/(j≠i/\st[j]?=some u):=fun j u h=>by
  by_cases hj:i=j
  ·subst hj
   rw [List.getElem?_set_self Nq] at h
   exact .inl ⟨rfl,(Option.some.inj h).symm⟩
  ·rw [List.getElem?_set_ne hj] at h
   exact .inr ⟨fun z=>hj z.symm,h⟩
 refine ⟨by rw [List.length_set];exact l.len,fun j k b u u' h1 h2 h3 h4 m1 m2=>?_,fun j b u h1 h2=>?_⟩
 ·rcases old j u h3 with ⟨rfl,rfl⟩ | ⟨nj,g3⟩ <;> rcases old k u' h4 with ⟨rfl,rfl⟩ | ⟨nk,g4⟩
  ·rfl
  ·exact l.nd _ _ b o u' h1 h2 hs g4 hm m2
  ·exact l.nd _ _ b u o h1 h2 g3 hs m1 hm
  ·exact l.nd _ _ b u u' h1 h2 g3 g4 m1 m2
 ·rcases old j u h2 with ⟨rfl,rfl⟩ | ⟨nj,g2⟩
  ·rw [hi] at h1;cases h1;exact r
  ·by_cases hb:b=a
   ·subst hb
    cases u with
    | oB ds =>
     obtain ⟨vs,e,q⟩:=l.obj j b _ h1 g2
     refine ⟨vs,?_,q.mn m⟩
     rcases e with ⟨x,e⟩ | e
     ·rw [ew] at e;cases e;exact absurd rfl (nf _ _)
     ·exact .inr e
    | lst ds=>exact absurd (l.nd j i b _ o h1 hi g2 hs rfl hm) nj
    | CD ds=>exact absurd (l.nd j i b _ o h1 hi g2 hs rfl hm) nj
    | exc c fs=>exact absurd (l.nd j i b _ o h1 hi g2 hs rfl hm) nj
    | dct ds=>exact absurd (l.nd j i b _ o h1 hi g2 hs rfl hm) nj
    | any=>trivial
    | iJ lo up=>exact absurd (l.nd j i b _ o h1 hi g2 hs rfl hm) nj
   ·exact (l.obj j b u h1 g2).keep m fun w e=>by rw [jh hb];exact e
theorem Mn.put {xs:List V} (e:H a=some (.lst xs)):Mn K ρ H ρ (upd H a ho):=⟨fun _ _ h=>h,fun b vs h=>(Kp.put (ch:=[a]) (o:=ho) Kp.refl (by simp) e).EU h,fun b o u h=>by rw [jh (fun z=>by rw [z,e] at h;cases h)];exact h,fun b ws h=>by rw [jh (fun z=>by rw [z,e] at h;cases h)];exact h⟩
theorem Mn.putD {ws:List (Key×V)} (e:H a=some (.dK ws)):Mn K ρ H ρ (upd H a ho):=⟨fun _ _ h=>h,fun b vs q=>by
 have ne:∀ u,H b=some u->(∀ w,u≠.dK w)->b≠a:=fun u hu n z=>by rw [z,e] at hu;cases hu;exact n _ rfl
 rcases q with (q | ⟨o,q⟩) | q
 ·exact .inl (.inl (by rw [jh (ne _ q fun w z=>nomatch z)];exact q))
 ·exact .inl (.inr ⟨o,by rw [jh (ne _ q fun w z=>nomatch z)];exact q⟩)
 ·exact .inr q,fun b o u h=>by rw [jh (fun z=>by rw [z,e] at h;cases h)];exact h,fun b ws h=>by rw [jh (fun z=>by rw [z,e] at h;cases h)];exact h⟩
theorem Rl.newL {vs:List V} {ds:List D} (l:Rl K ρ H st) (hp:H p=none) (r:cC K ρ H vs ds):Rl K (ρ ++ [p]) (upd H p (.lst vs)) (st ++ [.lst ds]):=l.new hp ⟨vs,o9,r.mn (Mn.new hp)⟩
theorem Rl.newD {vs:List (Key×V)} {ds:List (Key×D)} (l:Rl K ρ H st) (hp:H p=none) (r:Rk K ρ H vs ds):Rl K (ρ ++ [p]) (upd H p (.dK vs)) (st ++ [.dct ds]):=l.new hp ⟨vs,o9,r.mn (Mn.new hp)⟩
theorem newR (l:Rl K ρ H st) (v:D:=.ref st.length):(ρ ++ [p])[st.length]?=some p:=by rw [<- l.len,List.getElem?_append_right (Nat.le_refl _),Nat.sub_self];rfl
theorem Rl.putL {vs:List V} {ds xs:List D} (l:Rl K ρ H st) (hi:ρ[i]?=some a) (hs:st[i]?=some (.lst xs)) (r:cC K ρ H vs ds):Rl K ρ (upd H a (.lst vs)) (st.set i (.lst ds))/\Mn K ρ H ρ (upd H a (.lst vs)):=by
 obtain ⟨ws,e,_⟩:=l.obj i a _ hi hs
 have m:Mn K ρ H ρ (upd H a (.lst vs)):=Mn.put e
 exact ⟨l.put hi hs rfl rfl m ⟨vs,o9,r.mn m⟩,m⟩
theorem Rl.u6 {vs:List (Key×V)} {ds xs:List (Key×D)} (l:Rl K ρ H st) (hi:ρ[i]?=some a) (hs:st[i]?=some (.dct xs)) (r:Rk K ρ H vs ds):Rl K ρ (upd H a (.dK vs)) (st.set i (.dct ds))/\Mn K ρ H ρ (upd H a (.dK vs)):=by
 obtain ⟨ws,e,_⟩:=l.obj i a _ hi hs
 have m:Mn K ρ H ρ (upd H a (.dK vs)):=Mn.putD e
 exact ⟨l.put hi hs rfl rfl m ⟨vs,o9,r.mn m⟩,m⟩
def items (st:Store) (i:Nat):Option (List D):=match st[i]? with
 | some (.lst ds)=>some ds
 | some (.oB ds)=>some ds
 | _=>none
theorem Rl.items {ds:List D} (l:Rl K ρ H st) (hi:ρ[i]?=some a) (h:items st i=some ds):∃ vs,jB K H a vs/\cC K ρ H vs ds:=by
 unfold L4.items at h
 split at h
 ·next ds' hs=>cases h;obtain ⟨vs,e,r⟩:=l.obj i a _ hi hs;exact ⟨vs,.inl (.inl e),r⟩
 ·next ds' hs=>cases h;obtain ⟨vs,e,r⟩:=l.obj i a _ hi hs;exact ⟨vs,e.sq,r⟩
 ·cases h
end
def So (K:PySem.W.Frag) {α β:Type} (R:List Addr->Hp->α->β->Prop) (t:St->Hp->(α->Hp->Prop)->Prop) (f:aj->Dm β):Prop :=
 ∀ (ρ:List Addr) (σ:St) (H:Hp) (δ:aj) (st:Store) (b:β) (st':Store) (Q:α->Hp->Prop),Rl K ρ H st->Rs K ρ H σ δ->f δ st=some (b,st') ->
  (∀ a H' ρ',Mn K ρ H ρ' H'->Rl K ρ' H' st'->R ρ' H' a b->Q a H')->t σ H Q
abbrev gx (K:PySem.W.Frag) (t:TE) (f:aj->Dm D):Prop:=So K (Rp K) t f
abbrev oC (K:PySem.W.Frag) (t:TT) (f:aj->Dm Bool):Prop:=So K (fun _ _=>Eq) t f
abbrev pj (K:PySem.W.Frag) (t:TA) (f:aj->Dm (List D)):Prop:=So K (cC K) t f
abbrev CF (K:PySem.W.Frag) (t:TO) (f:aj->Dm (Option Int)):Prop:=So K (fun _ _=>Eq) t f
def FK (K:PySem.W.Frag) (r:V->Hp->VK->Prop) (g:D->Dm D):Prop :=
 ∀ (ρ:List Addr) (H:Hp) (st:Store) (x:V) (a:D) (b:D) (st':Store) (Q:VK),Rl K ρ H st->Rp K ρ H x a->g a st=some (b,st')->(∀ v H' ρ',Mn K ρ H ρ' H'->Rl K ρ' H' st'->Rp K ρ' H' v b->Q v H')->r x H Q
def lK (K:PySem.W.Frag) (r:R2) (g:D->D->Dm D):Prop :=
 ∀ (ρ:List Addr) (H:Hp) (st:Store) (x y:V) (a c:D) (b:D) (st':Store) (Q:VK),Rl K ρ H st->Rp K ρ H x a->Rp K ρ H y c->g a c st=some (b,st')->(∀ v H' ρ',Mn K ρ H ρ' H'->Rl K ρ' H' st'->Rp K ρ' H' v b->Q v H')->r x y H Q
def qG (K:PySem.W.Frag) (r:List V->Hp->VK->Prop) (g:List D->Dm D):Prop :=
 ∀ (ρ:List Addr) (H:Hp) (st:Store) (xs:List V) (as:List D) (b:D) (st':Store) (Q:VK),Rl K ρ H st->cC K ρ H xs as->g as st=some (b,st')->(∀ v H' ρ',Mn K ρ H ρ' H'->Rl K ρ' H' st'->Rp K ρ' H' v b->Q v H')->r xs H Q
def zA (K:PySem.W.Frag) (T:String) (r:V->List V->Hp->VK->Prop) (g:D->List D->Dm D):Prop :=
 ∀ (ρ:List Addr) (H:Hp) (st:Store) (x:V) (xs:List V) (a:D) (as:List D) (b:D) (st':Store) (Q:VK),Rl K ρ H st->Rp K ρ H x a->cC K ρ H xs as->g a as st=some (b,st')->(∀ v H' ρ',Mn K ρ H ρ' H'->Rl K ρ' H' st'->Rp K ρ' H' v b->Q v H')->r x xs H Q
def bnd {α β:Type} (m:Option (α×Store)) (k:α->Dm β):Option (β×Store):=match m with
 | some (a,st)=>k a st
 | none=>none
theorem dY {α β:Type} {m:Option (α×Store)} {k:α->Dm β} {r:β×Store} (h:bnd m k=some r):∃ a st,m=some (a,st)/\k a st=some r:=by
 cases m with
 | none=>cases h
 | some p=>exact ⟨p.1,p.2,rfl,h⟩
section
variable {K:PySem.W.Frag}
def ag (i:Nat):aj->Dm D:=fun δ st=>match δ[i]? with
 | some (some d)=>some (d,st)
 | _=>none
theorem ai (i:Nat):gx K (uf i) (ag i):=by
 intro ρ σ H δ st b st' Q l rs e q
 unfold ag at e
 split at e
 ·next d hd=>cases e;obtain ⟨v,ev,r⟩:=rs.2 i _ hd;exact ⟨v,ev,q v H ρ .refl l r⟩
 ·cases e
def fC (d:D):aj->Dm D:=fun _ st=>some (d,st)
theorem rF {v:V} {d:D} (h:∀ ρ H,Rp K ρ H v d):gx K (tC v) (fC d):=by
 intro ρ σ H δ st b st' Q l rs e q
 cases e
 exact q v H ρ .refl l (h ρ H)
theorem aN (i:Int):gx K (tC (.int i)) (fC (.int i)):=rF fun _ _=>.int i
theorem zB (b:Bool):gx K (tC (.bl b)) (fC (.bl b)):=rF fun _ _=>.bl b
theorem oD (x:Str):gx K (tC (.str x)) (fC (.str x)):=rF fun _ _=>.str x
def aA (g:D->D->Dm D) (fa fb:aj->Dm D):aj->Dm D:=fun δ st=>bnd (fa δ st) fun a st1=>bnd (fb δ st1) fun b st2=>g a b st2
theorem aB {r:R2} {g:D->D->Dm D} {ta tb:TE} {fa fb:aj->Dm D} (hr:lK K r g) (ha:gx K ta fa) (hb:gx K tb fb):gx K (yp r ta tb) (aA g fa fb):=by
 intro ρ σ H δ st b st' Q l rs e q
 obtain ⟨a,st1,e1,e⟩:=dY e
 obtain ⟨c,st2,e2,e⟩:=dY e
 refine ha ρ σ H δ st a st1 _ l rs e1 fun x H1 ρ1 m1 l1 r1=>hb ρ1 σ H1 δ st1 c st2 _ l1 (rs.mn m1) e2 fun y H2 ρ2 m2 l2 r2=>?_
 exact hr ρ2 H2 st2 x y a c b st' Q l2 (r1.mn m2) r2 e fun v H3 ρ3 m3 l3 r3=>q v H3 ρ3 ((m1.trans m2).trans m3) l3 r3
def oE (g:D->Dm D) (fa:aj->Dm D):aj->Dm D:=fun δ st=>bnd (fa δ st) fun a st1=>g a st1
theorem pk {r:V->Hp->VK->Prop} {g:D->Dm D} {ta:TE} {fa:aj->Dm D} (hr:FK K r g) (ha:gx K ta fa):gx K (He r ta) (oE g fa):=by
 intro ρ σ H δ st b st' Q l rs e q
 obtain ⟨a,st1,e1,e⟩:=dY e
 exact ha ρ σ H δ st a st1 _ l rs e1 fun x H1 ρ1 m1 l1 r1=>hr ρ1 H1 st1 x a b st' Q l1 r1 e fun v H3 ρ3 m3 l3 r3=>q v H3 ρ3 (m1.trans m3) l3 r3
def ah:aj->Dm (List D):=fun _ st=>some ([],st)
def ae (fa:aj->Dm D) (fr:aj->Dm (List D)):aj->Dm (List D):=fun δ st=>bnd (fa δ st) fun a st1=>bnd (fr δ st1) fun r st2=>some (a :: r,st2)
theorem aD:pj K yy ah:=by
 intro ρ σ H δ st b st' Q l rs e q
 cases e
 exact q [] H ρ .refl l .nil
theorem aq {ta:TE} {tr:TA} {fa:aj->Dm D} {fr:aj->Dm (List D)} (ha:gx K ta fa) (hr:pj K tr fr):pj K (se ta tr) (ae fa fr):=by
 intro ρ σ H δ st b st' Q l rs e q
 obtain ⟨a,st1,e1,e⟩:=dY e
 obtain ⟨c,st2,e2,e⟩:=dY e
 cases e
 exact ha ρ σ H δ st a st1 _ l rs e1 fun x H1 ρ1 m1 l1 r1=>hr ρ1 σ H1 δ st1 c _ _ l1 (rs.mn m1) e2 fun y H2 ρ2 m2 l2 r2=>q _ H2 ρ2 (m1.trans m2) l2 (.cons (r1.mn m2) r2)
def lim (n:Nat):Bool:=Nat.ble n 100000
theorem zC {n:Nat} (h:lim n=true):n<=sizeLine:=Nat.le_trans (Nat.le_of_ble_eq_true h) (by decide)
theorem FL {n:Nat} (h:lim n=true):n < sizeLine:=Nat.lt_of_le_of_lt (Nat.le_of_ble_eq_true h) (by decide)
def b6 (fa:aj->Dm (List D)):aj->Dm D:=fun δ st=>bnd (fa δ st) fun as st1=>if lim as.length=true then some (.tup as,st1) else none
theorem iG {ta:TA} {fa:aj->Dm (List D)} (ha:pj K ta fa):gx K (yz ta) (b6 fa):=by
 intro ρ σ H δ st b st' Q l rs e q
 obtain ⟨as,st1,e1,e⟩:=dY e
 split at e
 ·next hl =>
  cases e
  refine ha ρ σ H δ st as _ _ l rs e1 fun xs H1 ρ1 m1 l1 r1=>⟨by rw [r1.length];exact zC hl,fun p hp=>?_⟩
  have m2:Mn K ρ1 H1 ρ1 (upd H1 p (.tup xs)):=Mn.same (iE.up hp)
  exact q _ _ ρ1 (m1.trans m2) (l1.same (iE.up hp)) (.tup (eY.of o9) (r1.mn m2))
 ·cases e
def er (fa:aj->Dm (List D)):aj->Dm D:=fun δ st=>bnd (fa δ st) fun as st1=>if lim as.length=true then some (.ref st1.length,st1 ++ [.lst as]) else none
theorem lX {ta:TA} {fa:aj->Dm (List D)} (ha:pj K ta fa):gx K (yA ta) (er fa):=by
 intro ρ σ H δ st b st' Q l rs e q
 obtain ⟨as,st1,e1,e⟩:=dY e
 split at e
 ·next hl =>
  cases e
  refine ha ρ σ H δ st as _ _ l rs e1 fun xs H1 ρ1 m1 l1 r1=>⟨by rw [r1.length];exact zC hl,fun p hp=>?_⟩
  exact q _ _ _ (m1.trans (Mn.new hp)) (l1.newL hp r1) (.ref (newR l1))
 ·cases e
def aR (fa:aj->Dm D):aj->Dm Bool:=fun δ st=>bnd (fa δ st) fun a st1=>match a with
 | .bl b=>some (b,st1)
 | _=>none
theorem iH {ta:TE} {fa:aj->Dm D} (ha:gx K ta fa):oC K (sd ta) (aR fa):=by
 intro ρ σ H δ st b st' Q l rs e q
 obtain ⟨a,st1,e1,e⟩:=dY e
 cases a <;> simp at e
 obtain ⟨rfl,rfl⟩:=e
 refine ha ρ σ H δ st _ _ _ l rs e1 fun x H1 ρ1 m1 l1 r1=>?_
 cases r1
 exact ⟨_,rfl,q _ H1 ρ1 m1 l1 rfl⟩
theorem CG {ta:TE} {fa:aj->Dm D} (ha:gx K ta fa):oC K (tB ta) (aR fa):=iH ha
def o4 (fa:aj->Dm Bool):aj->Dm Bool:=fun δ st=>bnd (fa δ st) fun a st1=>some (!a,st1)
theorem FN {ta:TT} {fa:aj->Dm Bool} (ha:oC K ta fa):oC K (yf ta) (o4 fa):=by
 intro ρ σ H δ st b st' Q l rs e q
 obtain ⟨a,st1,e1,e⟩:=dY e
 cases e
 exact ha ρ σ H δ st _ _ _ l rs e1 fun x H1 ρ1 m1 l1 r1=>q _ H1 ρ1 m1 l1 (by rw [r1])
def qb (fa fb:aj->Dm Bool):aj->Dm Bool:=fun δ st=>bnd (fa δ st) fun a st1=>if a=true then fb δ st1 else some (false,st1)
def xv (fa fb:aj->Dm Bool):aj->Dm Bool:=fun δ st=>bnd (fa δ st) fun a st1=>if a=true then some (true,st1) else fb δ st1
theorem Jx {ta tb:TT} {fa fb:aj->Dm Bool} (ha:oC K ta fa) (hb:oC K tb fb):oC K (ye ta tb) (qb fa fb):=by
 intro ρ σ H δ st b st' Q l rs e q
 obtain ⟨a,st1,e1,e⟩:=dY e
 refine ha ρ σ H δ st _ _ _ l rs e1 fun x H1 ρ1 m1 l1 r1=>?_
 subst r1
 cases x with
 | true =>
  refine oV ?_
  rw [if_pos rfl] at e
  exact hb ρ1 σ H1 δ st1 b st' _ l1 (rs.mn m1) e fun y H2 ρ2 m2 l2 r2=>q y H2 ρ2 (m1.trans m2) l2 r2
 | false =>
  refine oU ?_
  rw [if_neg Bool.false_ne_true] at e
  cases e
  exact q _ H1 ρ1 m1 l1 rfl
theorem FO {ta tb:TT} {fa fb:aj->Dm Bool} (ha:oC K ta fa) (hb:oC K tb fb):oC K (G7 ta tb) (xv fa fb):=by
 intro ρ σ H δ st b st' Q l rs e q
 obtain ⟨a,st1,e1,e⟩:=dY e
 refine ha ρ σ H δ st _ _ _ l rs e1 fun x H1 ρ1 m1 l1 r1=>?_
 subst r1
 cases x with
 | false =>
  refine oU ?_
  rw [if_neg Bool.false_ne_true] at e
  exact hb ρ1 σ H1 δ st1 b st' _ l1 (rs.mn m1) e fun y H2 ρ2 m2 l2 r2=>q y H2 ρ2 (m1.trans m2) l2 r2
 | true =>
  refine oV ?_
  rw [if_pos rfl] at e
  cases e
  exact q _ H1 ρ1 m1 l1 rfl
def oF (fa fb:aj->Dm D):aj->Dm D:=fun δ st=>bnd (aR fa δ st) fun a st1=>if a=true then fb δ st1 else some (.bl false,st1)
def zD (fa fb:aj->Dm D):aj->Dm D:=fun δ st=>bnd (aR fa δ st) fun a st1=>if a=true then some (.bl true,st1) else fb δ st1
def sU (fa:aj->Dm D):aj->Dm D:=fun δ st=>bnd (aR fa δ st) fun a st1=>some (.bl (!a),st1)
theorem Nr {fa:aj->Dm D} {δ:aj} {st st1:Store} {b:Bool} (h:aR fa δ st=some (b,st1)):fa δ st=some (.bl b,st1):=by
 obtain ⟨a,st2,e1,e⟩:=dY h
 cases a <;> simp at e
 obtain ⟨rfl,rfl⟩:=e
 exact e1
theorem Nt {ta tb:TE} {fa fb:aj->Dm D} (ha:gx K ta fa) (hb:gx K tb fb):gx K (rV ta tb) (oF fa fb):=by
 intro ρ σ H δ st b st' Q l rs e q
 obtain ⟨a,st1,e1,e⟩:=dY e
 refine ha ρ σ H δ st _ _ _ l rs (Nr e1) fun x H1 ρ1 m1 l1 r1=>?_
 cases r1
 refine ⟨a,rfl,?_⟩
 cases a with
 | true =>
  refine oV ?_
  rw [if_pos rfl] at e
  exact hb ρ1 σ H1 δ st1 b st' _ l1 (rs.mn m1) e fun y H2 ρ2 m2 l2 r2=>q y H2 ρ2 (m1.trans m2) l2 r2
 | false =>
  refine oU ?_
  rw [if_neg Bool.false_ne_true] at e
  cases e
  exact q _ H1 ρ1 m1 l1 (.bl _)
def jM {β:Type} (c:aj->Dm Bool) (fa fb:aj->Dm β):aj->Dm β:=fun δ st=>bnd (c δ st) fun a st1=>if a=true then fa δ st1 else fb δ st1
def ke:aj->Dm (Option Int):=fun _ st=>some (none,st)
def mB (fa:aj->Dm D):aj->Dm (Option Int):=fun δ st=>bnd (fa δ st) fun a st1=>match a with
 | .int i=>some (some i,st1)
 | _=>none
theorem FP:CF K oj ke:=by
 intro ρ σ H δ st b st' Q l rs e q
 cases e
 exact q _ H ρ .refl l rfl
theorem FQ {ta:TE} {fa:aj->Dm D} (ha:gx K ta fa):CF K (sj ta) (mB fa):=by
 intro ρ σ H δ st b st' Q l rs e q
 obtain ⟨a,st1,e1,e⟩:=dY e
 cases a <;> simp at e
 obtain ⟨rfl,rfl⟩:=e
 refine ha ρ σ H δ st _ _ _ l rs e1 fun x H1 ρ1 m1 l1 r1=>?_
 cases r1
 exact ⟨_,rfl,q _ H1 ρ1 m1 l1 rfl⟩
def u7 (K:PySem.W.Frag) (r:V->Option Int->Option Int->Hp->VK->Prop) (g:D->Option Int->Option Int->Dm D):Prop :=
 ∀ lo hi,FK K (fun x=>r x lo hi) (fun a=>g a lo hi)
def xw (g:D->Option Int->Option Int->Dm D) (fa:aj->Dm D) (fl fh:aj->Dm (Option Int)):aj->Dm D:=fun δ st=>bnd (fa δ st) fun a st1=>bnd (fl δ st1) fun lo st2=>bnd (fh δ st2) fun hi st3=>g a lo hi st3
theorem FR {r:V->Option Int->Option Int->Hp->VK->Prop} {g:D->Option Int->Option Int->Dm D} {ta:TE} {tl th:TO} {fa:aj->Dm D} {fl fh:aj->Dm (Option Int)} (hr:u7 K r g) (ha:gx K ta fa) (hl:CF K tl fl) (hh:CF K th fh):gx K (HA r ta tl th) (xw g fa fl fh):=by
 intro ρ σ H δ st b st' Q l rs e q
 obtain ⟨a,st1,e1,e⟩:=dY e
 obtain ⟨lo,st2,e2,e⟩:=dY e
 obtain ⟨hi,st3,e3,e⟩:=dY e
 refine ha ρ σ H δ st a st1 _ l rs e1 fun x H1 ρ1 m1 l1 r1=>hl ρ1 σ H1 δ st1 lo st2 _ l1 (rs.mn m1) e2 fun y H2 ρ2 m2 l2 r2=>hh ρ2 σ H2 δ st2 hi st3 _ l2 (rs.mn (m1.trans m2)) e3 fun z H3 ρ3 m3 l3 r3=>?_
 subst r2 r3
 exact hr y z ρ3 H3 st3 x a b st' Q l3 (r1.mn (m2.trans m3)) e fun v H4 ρ4 m4 l4 r4=>q v H4 ρ4 (((m1.trans m2).trans m3).trans m4) l4 r4
def aS (g:List D->Dm D) (fa:aj->Dm (List D)):aj->Dm D:=fun δ st=>bnd (fa δ st) fun as st1=>g as st1
theorem c4 {r:List V->Hp->VK->Prop} {g:List D->Dm D} {ta:TA} {fa:aj->Dm (List D)} (hr:qG K r g) (ha:pj K ta fa):gx K (Ez r ta) (aS g fa):=by
 intro ρ σ H δ st b st' Q l rs e q
 obtain ⟨as,st1,e1,e⟩:=dY e
 exact ha ρ σ H δ st as st1 _ l rs e1 fun x H1 ρ1 m1 l1 r1=>hr ρ1 H1 st1 x as b st' Q l1 r1 e fun v H3 ρ3 m3 l3 r3=>q v H3 ρ3 (m1.trans m3) l3 r3
def bj (K:PySem.W.Frag) (n:Nat) (F:List D->Dm D):Sp:=fun vs H Q _=>vs.length=n/\∃ (ρ:List Addr) (st:Store) (ds:List D) (b:D) (st':Store),Rl K ρ H st/\cC K ρ H vs ds/\F ds st=some (b,st') /\
 ∀ v H' ρ',Mn K ρ H ρ' H'->Rl K ρ' H' st'->Rp K ρ' H' v b->Q v H'
theorem bS {n:Nat} {F:List D->Dm D} {ta:TA} {fa:aj->Dm (List D)} {E:XK} (ha:pj K ta fa) (hn:∀ δ st as st',fa δ st=some (as,st')->as.length=n):gx K (sf (bj K n F) [] E ta) (aS F fa):=by
 intro ρ σ H δ st b st' Q l rs e q
 obtain ⟨as,st1,e1,e⟩:=dY e
 refine ha ρ σ H δ st as st1 _ l rs e1 fun vs H1 ρ1 m1 l1 r1=>⟨?_,ρ1,st1,as,b,st',l1,?_,e,fun v H3 ρ3 m3 l3 r3=>q v H3 ρ3 (m1.trans m3) l3 r3⟩
 ·rw [List.append_nil,r1.length];exact hn _ _ _ _ e1
 ·rw [List.append_nil];exact r1
theorem bT {δ:aj} {st st':Store} {as:List D} (h:ah δ st=some (as,st')):as.length=0:=by cases h;rfl
theorem aV {fa:aj->Dm D} {fr:aj->Dm (List D)} {n:Nat} (hr:∀ δ st as st',fr δ st=some (as,st')->as.length=n):∀ δ st as st',ae fa fr δ st=some (as,st')->as.length=n + 1:=fun δ st as st' h=>by
 obtain ⟨a,st1,e1,e⟩:=dY h
 obtain ⟨c,st2,e2,e⟩:=dY e
 cases e
 rw [List.length_cons,hr _ _ _ _ e2]
end
end L4
namespace L4
open PySem PySem.Spec L2
section
variable {K:PySem.W.Frag}
def sW (h:Int->Int->D):D->D->Dm D
 | .int i,.int j,st=>some (h i j,st)
 | _,_,_=>none
theorem zE {gv:Int->Int->V} {h:Int->Int->D} (hh:∀ i j ρ H,Rp K ρ H (gv i j) (h i j)):lK K (oS gv) (sW h):=by
 intro ρ H st x y a c b st' Q l rx ry e q
 unfold sW at e
 split at e
 ·cases e;cases rx;cases ry;exact ⟨_,_,rfl,rfl,q _ H ρ .refl l (hh _ _ ρ H)⟩
 ·cases e
def rG (c:Int->Int->Bool) (h:Int->Int->D):D->D->Dm D
 | .int i,.int j,st=>if c i j=true then some (h i j,st) else none
 | _,_,_=>none
theorem xx {C:Int->Int->Prop} {c:Int->Int->Bool} {gv:Int->Int->V} {h:Int->Int->D} (hc:∀ i j,c i j=true->C i j) (hh:∀ i j ρ H,Rp K ρ H (gv i j) (h i j)):lK K (rI C gv) (rG c h):=by
 intro ρ H st x y a d b st' Q l rx ry e q
 unfold rG at e
 split at e
 ·split at e
  ·next hcc=>cases e;cases rx;cases ry;exact ⟨_,_,rfl,rfl,hc _ _ hcc,q _ H ρ .refl l (hh _ _ ρ H)⟩
  ·cases e
 ·cases e
def dj:D->D->Dm D:=sW fun i j=>.int (i + j)
def l8:D->D->Dm D:=sW fun i j=>.int (i - j)
def kC:D->D->Dm D:=rG (fun i j=>decide (-18446744073709551616 < i/\i < 18446744073709551616) || decide (-18446744073709551616 < j/\j < 18446744073709551616)) fun i j=>.int (i * j)
def nK:D->D->Dm D:=rG (fun i j=>decide (0 < j/\j < 1073741824)) fun i j=>.int (i / j)
def jN:D->D->Dm D:=rG (fun i j=>decide (0 < j)) fun i j=>.int (i % j)
def qc:D->D->Dm D:=rG (fun i j=>decide (0<=j/\j<=1000000/\i.natAbs < 18446744073709551616)) fun i j=>.int (i ^ j.toNat)
def xy:D->D->Dm D:=sW fun i j=>.bl (decide (i < j))
def Nu:D->D->Dm D:=sW fun i j=>.bl (decide (i<=j))
def zF:D->D->Dm D:=sW fun i j=>.bl (decide (j < i))
def FT:D->D->Dm D:=sW fun i j=>.bl (decide (j<=i))
theorem kn:lK K (oS fun i j=>.int (i + j)) dj:=zE fun _ _ _ _=>.int _
theorem zG:lK K (oS fun i j=>.int (i - j)) l8:=zE fun _ _ _ _=>.int _
theorem qH:lK K (rI pL fun i j=>.int (i * j)) kC:=xx (fun i j h=>by
 rw [Bool.or_eq_true,decide_eq_true_eq,decide_eq_true_eq] at h
 exact h) fun _ _ _ _=>.int _
theorem Jy:lK K (rI yr fun i j=>.int (i / j)) nK:=xx (fun i j h=>of_decide_eq_true (p:=0 < j/\j < 1073741824) h) fun _ _ _ _=>.int _
theorem pq:lK K (rI (fun _ j=>0 < j) fun i j=>.int (i % j)) jN:=xx (fun i j h=>of_decide_eq_true h) fun _ _ _ _=>.int _
theorem Jz:lK K (rI yt fun i j=>.int (i ^ j.toNat)) qc:=xx (fun i j h=>by have h:=of_decide_eq_true (p:=0<=j/\j<=1000000/\i.natAbs < 18446744073709551616) h;exact ⟨h.1,h.2.1,by omega⟩) fun _ _ _ _=>.int _
theorem CH:lK K (oS fun i j=>.bl (decide (i < j))) xy:=zE fun _ _ _ _=>.bl _
theorem FU:lK K (oS fun i j=>.bl (decide (j < i))) zF:=zE fun _ _ _ _=>.bl _
theorem zH:lK K (oS fun i j=>.bl (decide (j<=i))) FT:=zE fun _ _ _ _=>.bl _
def jO:D->Dm D
 | .int i,st=>some (.int (-i),st)
 | _,_=>none
theorem pz:FK K (rU fun i=>.int (-i)) jO:=by
 intro ρ H st x a b st' Q l rx e q
 unfold jO at e
 split at e
 ·cases e;cases rx;exact ⟨_,rfl,q _ H ρ .refl l (.int _)⟩
 ·cases e
def sV:D->Option V
 | .non=>some .non
 | .bl b=>some (.bl b)
 | .int i=>some (.int i)
 | .str x=>some (.str x)
 | _=>none
theorem xA {ρ:List Addr} {H:Hp} {x v:V} {a:D} (r:Rp K ρ H x a) (h:sV a=some v):x=v:=by
 cases r <;> first | (cases h;rfl) | cases h
def kD (neg:Bool):D->D->Dm D:=fun a b st=>match sV a,sV b with
 | some x,some y=>if nW x y=true then some (.bl (if neg then !decide (x=y) else decide (x=y)),st) else none
 | _,_=>none
theorem ny:lK K Hh (kD false):=by
 intro ρ H st x y a c b st' Q l rx ry e q
 unfold kD at e
 split at e
 ·next u v h1 h2 =>
  split at e
  ·next hs=>cases e;cases xA rx h1;cases xA ry h2;exact ⟨hs,q _ H ρ .refl l (.bl _)⟩
  ·cases e
 ·cases e
theorem FV:lK K Hi (kD true):=by
 intro ρ H st x y a c b st' Q l rx ry e q
 unfold kD at e
 split at e
 ·next u v h1 h2 =>
  split at e
  ·next hs=>cases e;cases xA rx h1;cases xA ry h2;exact ⟨hs,q _ H ρ .refl l (.bl _)⟩
  ·cases e
 ·cases e
def cP {α β:Type} (f:α->Option β):List α->Option (List β)
 | []=>some []
 | a :: r=>match f a,cP f r with
  | some b,some s=>some (b :: s)
  | _,_=>none
theorem zI {α β:Type} {f:α->Option β} {a:α} {r:List α} {s:List β} (h:cP f (a :: r)=some s):∃ b t,f a=some b/\cP f r=some t/\s=b :: t:=by
 unfold cP at h
 split at h
 ·next b t h1 h2=>cases h;exact ⟨b,t,h1,h2,rfl⟩
 ·cases h
theorem sX {α β γ:Type} {f:α->Option β} {g:γ->α} {k:γ->β} (h:∀ c,f (g c)=some (k c)):∀ l:List γ,cP f (l.map g)=some (l.map k)
 | []=>rfl
 | c :: r=>by
  show cP f (g c :: r.map g)=_
  unfold cP
  rw [h c,sX h r]
  rfl
def gI (st:Store):Nat->D->Option PyData
 | 0,_=>none
 | _ + 1,.non=>some .none
 | _ + 1,.bl b=>some (.bool b)
 | _ + 1,.int i=>some (.int i)
 | _ + 1,.str x=>some (.str x)
 | _ + 1,.ty _=>none
 | n + 1,.tup ds=>(cP (gI st n) ds).map PyData.tuple
 | n + 1,.ref i=>match items st i with
  | some ds=>(cP (gI st n) ds).map PyData.list
  | none=>none
theorem CI {ρ:List Addr} {H:Hp} {st:Store} (l:Rl K ρ H st):∀ (n:Nat) {v:V} {d:D} {p:PyData},Rp K ρ H v d->gI st n d=some p->Rep K H v p
 | 0,_,_,_,_,h=>by simp [gI] at h
 | n + 1,v,d,p,r,h=>by
  have all:∀ {vs:List V} {ds:List D} {ps:List PyData},cC K ρ H vs ds->cP (gI st n) ds=some ps->iO K H vs ps:=by
   intro vs ds ps rr
   induction vs generalizing ds ps with
   | nil=>intro hm;cases rr;cases hm;exact .nil
   | cons w ws ih =>
    intro hm
    cases rr with
    | cons ra rb =>
     obtain ⟨b,t,h1,h2,rfl⟩:=zI hm
     exact .cons (CI l n ra h1) (ih rb h2)
  cases r with
  | non=>simp [gI] at h;subst h;exact .non
  | bl b=>simp [gI] at h;subst h;exact .bl b
  | int i=>simp [gI] at h;subst h;exact .int i
  | str x=>simp [gI] at h;subst h;exact .str x
  | ty n=>simp [gI] at h
  | ref hi =>
   simp only [gI] at h
   split at h
   ·next ds hd =>
    obtain ⟨ps,h1,rfl⟩:=Option.map_eq_some_iff.mp h
    obtain ⟨vs,e,rr⟩:=l.items hi hd
    exact .lst e (all rr h1)
   ·cases h
  | tup q rr =>
   simp only [gI] at h
   obtain ⟨ps,h1,rfl⟩:=Option.map_eq_some_iff.mp h
   exact .tup q (all rr h1)
def iI (neg:Bool):D->D->Dm D:=fun a b st=>match gI st 20 a,gI st 20 b with
 | some p,some q=>if (PyData.canLay0 p && PyData.canLay0 q && decide (min p.depth q.depth<=60))=true then some (.bl (if neg then !PyData.eqv p q else PyData.eqv p q),st) else none
 | _,_=>none
theorem u9 (neg:Bool):lK K (uF K neg) (iI neg):=by
 intro ρ H st x y a c b st' Q l rx ry e q
 unfold iI at e
 split at e
 ·next u v h1 h2 =>
  split at e
  ·next hs =>
   cases e
   rw [Bool.and_eq_true,Bool.and_eq_true,decide_eq_true_eq] at hs
   exact ⟨u,v,CI l 20 rx h1,CI l 20 ry h2,hs.1.1,hs.1.2,hs.2,q _ H ρ .refl l (.bl _)⟩
  ·cases e
 ·cases e
theorem at_of {ρ:List Addr} {H:Hp} {vs:List V} {ds:List D} {i:Int} {d:D} (r:cC K ρ H vs ds) (h:iA ds i=some d):∃ v,iA vs i=some v/\Rp K ρ H v d:=by
 unfold iA at h ⊢
 rw [r.length]
 cases hx:kU ds.length i with
 | none=>rw [hx] at h;cases h
 | some j =>
  rw [hx] at h
  exact r.got h
def aL:D->D->Dm D
 | .tup ds,.int i,st=>match iA ds i with
  | some d=>some (d,st)
  | none=>none
 | _,_,_=>none
theorem bU:lK K (uw K) aL:=by
 intro ρ H st x y a c b st' Q l rx ry e q
 unfold aL at e
 split at e
 ·split at e
  ·next d hd =>
   cases e
   cases ry
   cases rx with
   | tup s r =>
    obtain ⟨v,hv,rv⟩:=at_of r hd
    exact ⟨_,_,_,v,rfl,rfl,s,hv,q v H ρ .refl l rv⟩
  ·cases e
 ·cases e
def eJ:D->D->Dm D
 | .ref r,.int i,st=>match items st r with
  | some ds=>match iA ds i with
   | some d=>some (d,st)
   | none=>none
  | none=>none
 | _,_,_=>none
theorem mh:lK K (yE K) eJ:=by
 intro ρ H st x y a c b st' Q l rx ry e q
 unfold eJ at e
 split at e
 ·split at e
  ·next ds hi =>
   split at e
   ·next d hd =>
    cases e
    cases ry
    cases rx with
    | ref hr =>
     obtain ⟨vs,s,r⟩:=l.items hr hi
     obtain ⟨v,hv,rv⟩:=at_of r hd
     exact ⟨_,_,_,v,rfl,rfl,s,hv,q v H ρ .refl l rv⟩
   ·cases e
  ·cases e
 ·cases e
def va:D->D->Dm D
 | .str z,.int i,st=>if lim z.length=true then match iA z.cps.toList i with
   | some c=>some (.str ⟨#[c]⟩,st)
   | none=>none
  else none
 | _,_,_=>none
def cutD (xs:List D) (lo hi:Option Int):List D:=(xs.drop (HT.cE xs.length 0 lo)).take (HT.cE xs.length xs.length hi - HT.cE xs.length 0 lo)
theorem cC.cut {ρ:List Addr} {H:Hp} {vs:List V} {ds:List D} (r:cC K ρ H vs ds) (lo hi:Option Int):cC K ρ H (lG vs lo hi) (cutD ds lo hi):=by
 unfold lG cutD
 rw [r.length]
 exact (r.drop _).take _
def vd:D->Option Int->Option Int->Dm D
 | .tup ds,lo,hi,st=>some (.tup (cutD ds lo hi),st)
 | _,_,_,_=>none
theorem got {ρ:List Addr} {H:Hp} {st:Store} {vs:List V} {ds:List D} {Q:VK} (l:Rl K ρ H st) (r:cC K ρ H vs ds) (q:∀ v H' ρ',Mn K ρ H ρ' H'->Rl K ρ' H' st->Rp K ρ' H' v (.tup ds)->Q v H'):nX K H vs Q :=
 fun p H' s e=>q _ H' ρ (Mn.same e) (l.same e) (.tup s (r.mn (Mn.same e)))
theorem ve:u7 K (sD K) vd:=by
 intro lo hi ρ H st x a b st' Q l rx e q
 cases a with
 | tup ds =>
  cases e
  cases rx with
  | tup s r=>exact ⟨_,_,rfl,s,got l (r.cut lo hi) q⟩
 | _=>cases e
def qd:D->Option Int->Option Int->Dm D
 | .ref r,lo,hi,st=>match items st r with
  | some ds=>some (.ref st.length,st ++ [.lst (cutD ds lo hi)])
  | none=>none
 | _,_,_,_=>none
theorem JA:u7 K (yF K) qd:=by
 intro lo hi ρ H st x a b st' Q l rx e q
 cases a with
 | ref i =>
  simp only [qd] at e
  split at e
  ·next ds hd =>
   cases e
   cases rx with
   | ref hr =>
    obtain ⟨vs,s,r⟩:=l.items hr hd
    exact ⟨_,_,rfl,s,fun p hp=>q _ _ _ (Mn.new hp) (l.newL hp (r.cut lo hi)) (.ref (newR l))⟩
  ·cases e
 | _=>cases e
def jI:D->D->Dm D
 | .tup a,.tup b,st=>if lim (a.length + b.length)=true then some (.tup (a ++ b),st) else none
 | _,_,_=>none
theorem vf:lK K (pT K) jI:=by
 intro ρ H st x y a c b st' Q l rx ry e q
 unfold jI at e
 split at e
 ·split at e
  ·next hl =>
   cases e
   cases rx with
   | tup s r =>
    cases ry with
    | tup s' r'=>exact ⟨_,_,_,_,rfl,rfl,s,s',by rw [r.length,r'.length];exact zC hl,got l (r.append r') q⟩
  ·cases e
 ·cases e
def own (st:Store) (i:Nat):Option (List D):=match st[i]? with
 | some (.lst ds)=>some ds
 | _=>none
theorem qI {st:Store} {i:Nat} {ds:List D} (h:own st i=some ds):st[i]?=some (.lst ds):=by
 unfold own at h
 split at h
 ·next ds' hs=>cases h;exact hs
 ·cases h
def mj:D->D->Dm D
 | .ref i,.ref j,st=>match own st i,own st j with
  | some a,some b=>if lim (a.length + b.length)=true then some (.ref st.length,st ++ [.lst (a ++ b)]) else none
  | _,_=>none
 | _,_,_=>none
theorem vg:lK K yI mj:=by
 intro ρ H st x y a c b st' Q l rx ry e q
 unfold mj at e
 split at e
 ·split at e
  ·next a b h1 h2 =>
   split at e
   ·next hl =>
    cases e
    cases rx with
    | ref hi =>
     cases ry with
     | ref hj =>
      obtain ⟨vs,e1,r1⟩:=l.obj _ _ _ hi (qI h1)
      obtain ⟨ws,e2,r2⟩:=l.obj _ _ _ hj (qI h2)
      exact ⟨_,_,_,_,rfl,rfl,e1,e2,by rw [r1.length,r2.length];exact zC hl,fun p hp=>q _ _ _ (Mn.new hp) (l.newL hp (r1.append r2)) (.ref (newR l))⟩
   ·cases e
  ·cases e
 ·cases e
def qe:D->D->Dm D
 | .ref i,.int k,st=>match own st i with
  | some a=>if (decide (-9223372036854775808<=k/\k < 9223372036854775808) && lim (a.length * k.toNat))=true then some (.ref st.length,st ++ [.lst (List.replicate k.toNat a).flatten]) else none
  | _=>none
 | _,_,_=>none
theorem JB {ρ:List Addr} {H:Hp}:∀ {ws vs:List V} {ds:List D},cC K ρ H ws ds->cP sV ds=some vs->ws=vs
 | _,_,_,.nil,h=>by cases h;rfl
 | _,_,_,.cons a b,h=>by
  obtain ⟨x,t,h1,h2,rfl⟩:=zI h
  rw [xA a h1,JB b h2]
theorem JC {a:D} {v:V} (h:sV a=some v):jG v=true:=by cases a <;> first | (cases h;rfl) | cases h
theorem JD:∀ {ds:List D} {vs:List V},cP sV ds=some vs->vs.all jG=true
 | [],_,h=>by cases h;rfl
 | d :: r,_,h=>by
  obtain ⟨x,t,h1,h2,rfl⟩:=zI h
  rw [List.all_cons,JC h1,JD h2];rfl
def dc (st:Store):D->Option (List D)
 | .tup ds=>some ds
 | .ref i=>items st i
 | _=>none
theorem CJ {ρ:List Addr} {H:Hp} {st:Store} {x:V} {a:D} {ds:List D} (l:Rl K ρ H st) (r:Rp K ρ H x a) (h:dc st a=some ds):∃ p vs,x=.ref p/\(jB K H p vs\/eY K H p vs)/\cC K ρ H vs ds:=by
 cases r <;> first | (cases h;done) | skip
 ·next hi=>obtain ⟨vs,s,r⟩:=l.items hi h;exact ⟨_,vs,rfl,.inl s,r⟩
 ·next s r=>cases h;exact ⟨_,_,rfl,.inr s,r⟩
def pA (neg:Bool):D->D->Dm D:=fun a c st=>match sV a,(dc st c).bind (cP sV) with
 | some x,some vs=>some (.bl (if neg then !su x vs else su x vs),st)
 | _,_=>none
theorem zJ (neg:Bool):lK K (EJ K neg) (pA neg):=by
 intro ρ H st x y a c b st' Q l rx ry e q
 unfold pA at e
 split at e
 ·next u vs h1 h2 =>
  cases e
  obtain ⟨ds,h3,h4⟩:=Option.bind_eq_some_iff.mp h2
  obtain ⟨p,ws,rfl,s,r⟩:=CJ l ry h3
  cases xA rx h1
  cases JB r h4
  exact ⟨p,_,rfl,s,JC h1,JD h4,q _ H ρ .refl l (.bl _)⟩
 ·cases e
theorem cC.one' {ρ:List Addr} {H:Hp} {vs:List V} {d:D} (r:cC K ρ H vs [d]):∃ v,vs=[v]/\Rp K ρ H v d:=by cases r with | cons a b=>cases b;exact ⟨_,rfl,a⟩
theorem cC.two' {ρ:List Addr} {H:Hp} {vs:List V} {d e:D} (r:cC K ρ H vs [d,e]):∃ v w,vs=[v,w]/\Rp K ρ H v d/\Rp K ρ H w e:=by
 cases r with
 | cons a b=>obtain ⟨w,rfl,r⟩:=b.one';exact ⟨_,_,rfl,a,r⟩
def eK:List D->Dm D
 | [a],st=>match dc st a with
  | some ds=>some (.int ds.length,st)
  | none=>none
 | _,_=>none
theorem ml:qG K (fun xs H Q=>∃ p ys,xs=[.ref p]/\(jB K H p ys\/eY K H p ys)/\Q (.int ys.length) H) eK:=by
 intro ρ H st xs as b st' Q l rx e q
 unfold eK at e
 split at e
 ·split at e
  ·next ds hd =>
   cases e
   obtain ⟨v,rfl,r⟩:=rx.one'
   obtain ⟨p,vs,rfl,s,r⟩:=CJ l r hd
   exact ⟨p,vs,rfl,s,q _ H ρ .refl l (by rw [r.length];exact .int _)⟩
  ·cases e
 ·cases e
def mC:List D->Dm D
 | [a],st=>match dc st a with
  | some ds=>some (.ref st.length,st ++ [.lst ds])
  | none=>none
 | _,_=>none
theorem FW:qG K (fun xs H Q=>∃ p ys,xs=[.ref p]/\(jB K H p ys\/eY K H p ys)/\∀ l,H l=none->Q (.ref l) (upd H l (.lst ys))) mC:=by
 intro ρ H st xs as b st' Q l rx e q
 unfold mC at e
 split at e
 ·split at e
  ·next ds hd =>
   cases e
   obtain ⟨v,rfl,r⟩:=rx.one'
   obtain ⟨p,vs,rfl,s,r⟩:=CJ l r hd
   exact ⟨p,vs,rfl,s,fun p hp=>q _ _ _ (Mn.new hp) (l.newL hp r) (.ref (newR l))⟩
  ·cases e
 ·cases e
def bW:List D->Dm D
 | [a],st=>match dc st a with
  | some ds=>some (.tup ds,st)
  | none=>none
 | _,_=>none
theorem nL:qG K (fun xs H Q=>∃ p ys,xs=[.ref p]/\((jB K H p ys/\∀ l,H l=none->Q (.ref l) (upd H l (.tup ys)))\/(eY K H p ys/\Q (.ref p) H))) bW:=by
 intro ρ H st xs as b st' Q l rx e q
 unfold bW at e
 split at e
 ·split at e
  ·next ds hd =>
   cases e
   obtain ⟨v,rfl,r⟩:=rx.one'
   obtain ⟨p,vs,rfl,s,r'⟩:=CJ l r hd
   refine ⟨p,vs,rfl,?_⟩
   rcases s with s | s
   ·exact .inl ⟨s,(got l r' q).new⟩
   ·exact .inr ⟨s,(got l r' q).it s⟩
  ·cases e
 ·cases e
def oG:List D->Dm D
 | [.int i,.int j],st=>some (.int (if j > i then j else i),st)
 | _,_=>none
def zK:List D->Dm D
 | [.int i,.int j],st=>some (.int (if j < i then j else i),st)
 | _,_=>none
theorem Nv:qG K (fun xs H Q=>∃ i j,xs=[.int i,.int j]/\Q (.int (if j > i then j else i)) H) oG:=by
 intro ρ H st xs as b st' Q l rx e q
 unfold oG at e
 split at e
 ·cases e
  obtain ⟨v,w,rfl,r1,r2⟩:=rx.two'
  cases r1;cases r2
  exact ⟨_,_,rfl,q _ H ρ .refl l (.int _)⟩
 ·cases e
def mD:List D->Dm D
 | [.int i],st=>some (.int i,st)
 | [.bl k],st=>some (.int (if k then 1 else 0),st)
 | _,_=>none
theorem JE:qG K (fun xs H Q=>(∃ i,xs=[.int i]/\Q (.int i) H)\/∃ k,xs=[.bl k]/\Q (.int (if k then 1 else 0)) H) mD:=by
 intro ρ H st xs as b st' Q l rx e q
 unfold mD at e
 split at e
 ·cases e
  obtain ⟨v,rfl,r⟩:=rx.one'
  cases r
  exact .inl ⟨_,rfl,q _ H ρ .refl l (.int _)⟩
 ·cases e
  obtain ⟨v,rfl,r⟩:=rx.one'
  cases r
  exact .inr ⟨_,rfl,q _ H ρ .refl l (.int _)⟩
 ·cases e
def gN:List D->Dm D
 | [.int j],st=>some (.ref st.length,st ++ [.iJ 0 j])
 | _,_=>none
def eM:List D->Dm D
 | [.int i,.int j],st=>some (.ref st.length,st ++ [.iJ i j])
 | _,_=>none
theorem CK:qG K (fun xs H Q=>∃ j:Int,xs=[.int j]/\∀ p,H p=none->Q (.ref p) (upd H p (.iJ 0 j))) gN:=by
 intro ρ H st xs as b st' Q l rx e q
 unfold gN at e
 split at e
 ·cases e
  obtain ⟨v,rfl,r⟩:=rx.one'
  cases r
  exact ⟨_,rfl,fun p hp=>q _ _ _ (Mn.new hp) (l.new hp (show sT K _ _ p (.iJ _ _) from o9)) (.ref (newR l))⟩
 ·cases e
theorem xB:qG K (fun xs H Q=>∃ i j:Int,xs=[.int i,.int j]/\∀ p,H p=none->Q (.ref p) (upd H p (.iJ i j))) eM:=by
 intro ρ H st xs as b st' Q l rx e q
 unfold eM at e
 split at e
 ·cases e
  obtain ⟨v,w,rfl,r1,r2⟩:=rx.two'
  cases r1;cases r2
  exact ⟨_,_,rfl,fun p hp=>q _ _ _ (Mn.new hp) (l.new hp (show sT K _ _ p (.iJ _ _) from o9)) (.ref (newR l))⟩
 ·cases e
def aH (lo:Int) (n:Nat):List D:=(List.range n).map fun (k:Nat)=>D.int (lo + k)
theorem Nw {ρ:List Addr} {H:Hp} (lo:Int) (n:Nat):cC K ρ H (fq lo n) (aH lo n):=by
 unfold fq aH
 induction (List.range n) with
 | nil=>exact .nil
 | cons a r ih=>exact .cons (.int _) ih
def o5 (lo hi:Int):Bool:=decide (-4611686018427387904<=lo/\lo < 4611686018427387904/\-4611686018427387904<=hi/\hi < 4611686018427387904) && lim (hi - lo).toNat
theorem JF {lo hi:Int} (h:o5 lo hi=true):(-(2 ^ 62)<=lo/\lo < 2 ^ 62/\-(2 ^ 62)<=hi/\hi < 2 ^ 62)/\(hi - lo).toNat<=2 ^ 24:=by
 unfold o5 at h
 rw [Bool.and_eq_true,decide_eq_true_eq] at h
 exact ⟨by omega,Nat.le_trans (Nat.le_of_ble_eq_true h.2) (by decide)⟩
def iB (st:Store):D->Option (Int×Int)
 | .ref i=>match st[i]? with
  | some (.iJ lo hi)=>some (lo,hi)
  | _=>none
 | _=>none
theorem vh {ρ:List Addr} {H:Hp} {st:Store} {x:V} {a:D} {lo hi:Int} (l:Rl K ρ H st) (r:Rp K ρ H x a) (h:iB st a=some (lo,hi)):∃ p,x=.ref p/\H p=some (.iJ lo hi):=by
 cases r <;> first | (cases h;done) | skip
 ·next hi' =>
  simp only [iB] at h
  split at h
  ·next lo' Nx hs=>cases h;exact ⟨_,rfl,l.obj _ _ _ hi' hs⟩
  ·cases h
def dF:List D->Dm D
 | [a],st=>match iB st a with
  | some (lo,hi)=>if o5 lo hi=true then some (.ref st.length,st ++ [.lst (aH lo (hi - lo).toNat)]) else none
  | none=>none
 | _,_=>none
theorem qJ:qG K (fun xs H Q=>∃ p lo hi,xs=[.ref p]/\H p=some (.iJ lo hi)/\(-(2 ^ 62)<=lo/\lo < 2 ^ 62/\-(2 ^ 62)<=hi/\hi < 2 ^ 62)/\(hi - lo).toNat<=2 ^ 24 /\
  ∀ l,H l=none->Q (.ref l) (upd H l (.lst (fq lo (hi - lo).toNat)))) dF:=by
 intro ρ H st xs as b st' Q l rx e q
 unfold dF at e
 split at e
 ·split at e
  ·next lo hi hd =>
   split at e
   ·next ok =>
    cases e
    obtain ⟨v,rfl,r⟩:=rx.one'
    obtain ⟨p,rfl,s⟩:=vh l r hd
    exact ⟨p,lo,hi,rfl,s,(JF ok).1,(JF ok).2,fun p hp=>q _ _ _ (Mn.new hp) (l.newL hp (Nw lo _)) (.ref (newR l))⟩
   ·cases e
  ·cases e
 ·cases e
def rH:List D->Dm D
 | [a],st=>match iB st a with
  | some (lo,hi)=>if o5 lo hi=true then some (.tup (aH lo (hi - lo).toNat),st) else none
  | none=>none
 | _,_=>none
def iV:D->Option Int
 | .int i=>some i
 | _=>none
theorem FX {ρ:List Addr} {H:Hp}:∀ {ws:List V} {ds:List D} {ns:List Int},cC K ρ H ws ds->cP iV ds=some ns->ws=ns.map V.int
 | _,_,_,.nil,h=>by cases h;rfl
 | _,_,_,.cons a b,h=>by
  obtain ⟨x,t,h1,h2,rfl⟩:=zI h
  rw [FX b h2]
  cases a <;> first | (cases h1;rfl) | cases h1
def sortI (ns:List Int):List Int:=ns.mergeSort fun a b=>decide (a<=b)
def CL:List D->Dm D
 | [a],st=>match (dc st a).bind (cP iV) with
  | some ns=>if ns.length < 64 then some (.ref st.length,st ++ [.lst ((sortI ns).map D.int)]) else none
  | none=>none
 | _,_=>none
def bV:D->Option Bool
 | .bl i=>some i
 | _=>none
def vk:List D->Dm D
 | [.ref i],st=>match (items st i).bind (cP bV) with
  | some bs=>some (.bl (bs.all id),st)
  | none=>none
 | _,_=>none
def sY (T:String) (st:Store):D->Bool
 | .str _=>T == "str"
 | .tup _=>T == "tuple"
 | .ref i=>T == "list" && (items st i).isSome
 | _=>false
theorem vm {ρ:List Addr} {H:Hp} {st:Store} {x:V} {a:D} {T:String} (l:Rl K ρ H st) (r:Rp K ρ H x a) (h:sY T st a=true):EL K T x H:=by
 cases r <;> first | (cases h;done) | skip
 ·exact eq_of_beq h
 ·next hi =>
  simp only [sY,Bool.and_eq_true] at h
  obtain ⟨ds,hd⟩:=Option.isSome_iff_exists.mp h.2
  obtain ⟨vs,s,_⟩:=l.items hi hd
  exact .inl ⟨eq_of_beq h.1,vs,s⟩
 ·next s r=>exact .inr (.inl ⟨eq_of_beq h,_,s⟩)
def n6 (T:String) (g:D->List D->Dm D) (fo:aj->Dm D) (fa:aj->Dm (List D)):aj->Dm D:=fun δ st=>bnd (fo δ st) fun o st1=>if sY T st1 o=true then bnd (fa δ st1) fun as st2=>g o as st2 else none
theorem pB {T:String} {r:V->List V->Hp->VK->Prop} {g:D->List D->Dm D} {to:TE} {ta:TA} {fo:aj->Dm D} {fa:aj->Dm (List D)} (hr:zA K T r g) (ho:gx K to fo) (ha:pj K ta fa):gx K (EM K T r to ta) (n6 T g fo fa):=by
 intro ρ σ H δ st b st' Q l rs e q
 obtain ⟨o,st1,e1,e⟩:=dY e
 split at e
 ·next ht =>
  obtain ⟨as,st2,e2,e⟩:=dY e
  refine ho ρ σ H δ st o st1 _ l rs e1 fun x H1 ρ1 m1 l1 r1=>⟨vm l1 r1 ht,ha ρ1 σ H1 δ st1 as st2 _ l1 (rs.mn m1) e2 fun xs H2 ρ2 m2 l2 r2=>?_⟩
  exact hr ρ2 H2 st2 x xs o as b st' Q l2 (r1.mn m2) r2 e fun v H3 ρ3 m3 l3 r3=>q v H3 ρ3 ((m1.trans m2).trans m3) l3 r3
 ·cases e
def dm:D->List D->Dm D
 | .ref i,[y],st=>match own st i with
  | some xs=>if lim xs.length=true then some (.non,st.set i (.lst (xs ++ [y]))) else none
  | none=>none
 | _,_,_=>none
theorem sZ:zA K "list" om dm:=by
 intro ρ H st x xs a as b st' Q l rx vn e q
 unfold dm at e
 split at e
 ·split at e
  ·next ys hy =>
   split at e
   ·next hl =>
    cases e
    obtain ⟨v,rfl,r⟩:=vn.one'
    cases rx with
    | ref hi =>
     obtain ⟨vs,e1,r1⟩:=l.obj _ _ _ hi (qI hy)
     obtain ⟨l2,m2⟩:=l.putL hi (qI hy) (r1.append (.one r))
     exact ⟨_,vs,v,rfl,rfl,e1,by rw [r1.length];exact FL hl,q _ _ ρ m2 l2 .non⟩
   ·cases e
  ·cases e
 ·cases e
def mS:D->List D->Dm D
 | .ref i,[.ref j],st=>match own st i,own st j with
  | some xs,some ys=>if lim (xs.length + ys.length)=true then some (.non,st.set i (.lst (xs ++ ys))) else none
  | _,_=>none
 | _,_,_=>none
def kE:D->List D->Dm D
 | .ref i,[.int k],st=>match own st i with
  | some xs=>if decide (-9223372036854775808<=k/\k < 9223372036854775808)=true then match seqIndex? k xs.length with
    | some j=>match xs[j]? with
     | some y=>some (y,st.set i (.lst (xs.eraseIdx j)))
     | none=>none
    | none=>none
   else none
  | none=>none
 | _,_,_=>none
theorem Ny:zA K "list" pP kE:=by
 intro ρ H st x xs a as b st' Q l rx vn e q
 unfold kE at e
 split at e
 ·split at e
  ·next ys hy =>
   split at e
   ·next hk =>
    split at e
    ·next j hj =>
     split at e
     ·next y hy' =>
      cases e
      obtain ⟨v,rfl,r⟩:=vn.one'
      cases r
      cases rx with
      | ref hi =>
       obtain ⟨vs,e1,r1⟩:=l.obj _ _ _ hi (qI hy)
       obtain ⟨w,hw,rw'⟩:=r1.got hy'
       obtain ⟨l2,m2⟩:=l.putL hi (qI hy) (r1.erase j)
       have hk:=of_decide_eq_true hk
       exact ⟨_,vs,_,j,w,rfl,rfl,e1,by omega,by omega,by rw [r1.length];exact hj,hw,q _ _ ρ m2 l2 (rw'.mn m2)⟩
     ·cases e
    ·cases e
   ·cases e
  ·cases e
 ·cases e
def iS:D->List D->Dm D
 | .tup ds,[.int v],st=>match cP iV ds with
  | some ns=>match ns.findIdx? (fun i=>decide (i=v)) with
   | some j=>some (.int (j:Int),st)
   | none=>none
  | none=>none
 | _,_,_=>none
theorem JG:zA K "tuple" (nZ K) iS:=by
 intro ρ H st x xs a as b st' Q l rx vn e q
 unfold iS at e
 split at e
 ·split at e
  ·next ns hn =>
   split at e
   ·next j hj =>
    cases e
    obtain ⟨v,rfl,r⟩:=vn.one'
    cases r
    cases rx with
    | tup s r =>
     cases FX r hn
     obtain ⟨h1,h2,h3⟩:=List.findIdx?_eq_some_iff_getElem.mp hj
     refine ⟨_,ns,_,j,rfl,rfl,s,?_,fun i hi z=>?_,q _ H ρ .refl l (.int _)⟩
     ·rw [List.getElem?_eq_getElem h1];exact congrArg some (of_decide_eq_true h2)
     ·have:=h3 i hi
      obtain ⟨hl,ez⟩:=List.getElem?_eq_some_iff.mp z
      rw [ez] at this
      simp at this
   ·cases e
  ·cases e
 ·cases e
def jk:D->List D->Dm D
 | .ref i,[.int v],st=>match (items st i).bind (cP iV) with
  | some ns=>if v∈ns/\ns.length<=1000/\∀ i∈ns,-1000000000000000000<=i/\i<=1000000000000000000 then some (.int (ns.idxOf v:Int),st) else none
  | none=>none
 | _,_,_=>none
def zL (st:Store):D->Option String
 | .non=>some "NoneType"
 | .bl _=>some "bool"
 | .int _=>some "int"
 | .str _=>some "str"
 | .tup _=>some "tuple"
 | .ref i=>match st[i]? with
  | some (.lst _)=>some "list"
  | some (.dct _)=>some "dict"
  | _=>none
 | .ty _=>none
def mT:List D->Dm D
 | [a,.ty c],st=>match zL st a with
  | some T=>if T=c then some (.bl true,st) else none
  | none=>none
 | _,_=>none
end
end L4
namespace L4
open PySem PySem.Spec L2
section
variable {K:PySem.W.Frag}
theorem JH:lK K yJ qe:=by
 intro ρ H st x y a c b st' Q l rx ry e q
 unfold qe at e
 split at e
 ·split at e
  ·next ds hd =>
   split at e
   ·next ok =>
    cases e
    rw [Bool.and_eq_true,decide_eq_true_eq] at ok
    cases ry
    cases rx with
    | ref hi =>
     obtain ⟨vs,e1,r1⟩:=l.obj _ _ _ hi (qI hd)
     exact ⟨_,_,vs,rfl,rfl,e1,by omega,by omega,by rw [r1.length];exact zC ok.2,fun p hp=>q _ _ _ (Mn.new hp) (l.newL hp (r1.flat _)) (.ref (newR l))⟩
   ·cases e
  ·cases e
 ·cases e
theorem Rs.set {ρ:List Addr} {H:Hp} {σ:St} {δ:aj} {v:V} {d:D} {i:Nat} (h:Rs K ρ H σ δ) (r:Rp K ρ H v d):Rs K ρ H (σ.set i (some v)) (δ.set i (some d)):=by
 refine ⟨by rw [List.length_set,List.length_set];exact h.1,fun j e hj=>?_⟩
 by_cases hij:i=j
 ·subst hij
  have hl:i < δ.length:=by
   have:=(List.getElem?_eq_some_iff.mp hj).1
   rwa [List.length_set] at this
  rw [List.getElem?_set_self hl] at hj
  cases hj
  exact ⟨v,by rw [List.getElem?_set_self (by rw [h.1];exact hl)],r⟩
 ·rw [List.getElem?_set_ne hij] at hj
  obtain ⟨w,hw,rw'⟩:=h.2 j e hj
  exact ⟨w,by rw [List.getElem?_set_ne hij];exact hw,rw'⟩
def vo (K:PySem.W.Frag) (g:TG) (f:D->aj->Dm aj):Prop :=
 ∀ (ρ:List Addr) (σ:St) (H:Hp) (δ:aj) (st:Store) (v:V) (d:D) (δ':aj) (st':Store) (Q:St->Hp->Prop),Rl K ρ H st->Rs K ρ H σ δ->Rp K ρ H v d->f d δ st=some (δ',st') ->
  (∀ σ' H' ρ',Mn K ρ H ρ' H'->Rl K ρ' H' st'->Rs K ρ' H' σ' δ'->Q σ' H')->g v σ H Q
def rJ (K:PySem.W.Frag) (g:qy) (f:List D->aj->Dm aj):Prop :=
 ∀ (ρ:List Addr) (σ:St) (H:Hp) (δ:aj) (st:Store) (v:List V) (d:List D) (δ':aj) (st':Store) (Q:St->Hp->Prop),Rl K ρ H st->Rs K ρ H σ δ->cC K ρ H v d->f d δ st=some (δ',st') ->
  (∀ σ' H' ρ',Mn K ρ H ρ' H'->Rl K ρ' H' st'->Rs K ρ' H' σ' δ'->Q σ' H')->g v σ H Q
def hName (i:Nat):D->aj->Dm aj:=fun d δ st=>some (δ.set i (some d),st)
theorem a8 (i:Nat):vo K (nE i) (hName i):=by
 intro ρ σ H δ st v d δ' st' Q l rs r e q
 cases e
 exact q _ H ρ .refl l (rs.set r)
def mq:List D->aj->Dm aj
 | [],δ,st=>some (δ,st)
 | _,_,_=>none
def cY (f:D->aj->Dm aj) (g:List D->aj->Dm aj):List D->aj->Dm aj
 | d :: ds,δ,st=>bnd (f d δ st) fun δ1 st1=>g ds δ1 st1
 | _,_,_=>none
theorem tf:rJ K yk mq:=by
 intro ρ σ H δ st v d δ' st' Q l rs r e q
 cases r with
 | nil=>cases e;exact ⟨rfl,q _ H ρ .refl l rs⟩
 | cons a b=>cases e
theorem mE {t:TG} {u:qy} {f:D->aj->Dm aj} {g:List D->aj->Dm aj} (hf:vo K t f) (hg:rJ K u g):rJ K (rZ t u) (cY f g):=by
 intro ρ σ H δ st v d δ' st' Q l rs r e q
 cases r with
 | nil=>cases e
 | cons a b =>
  obtain ⟨δ1,st1,e1,e⟩:=dY e
  exact ⟨_,_,rfl,hf ρ σ H δ st _ _ δ1 st1 _ l rs a e1 fun σ1 H1 ρ1 m1 l1 r1=>hg ρ1 σ1 H1 δ1 st1 _ _ δ' st' Q l1 r1 (b.mn m1) e fun σ2 H2 ρ2 m2 l2 r2=>q σ2 H2 ρ2 (m1.trans m2) l2 r2⟩
def lL (n:Nat) (f:List D->aj->Dm aj):D->aj->Dm aj
 | .tup ds,δ,st=>if ds.length=n then f ds δ st else none
 | _,_,_=>none
theorem tj {n:Nat} {t:qy} {f:List D->aj->Dm aj} (hf:rJ K t f):vo K (yl K n t) (lL n f):=by
 intro ρ σ H δ st v d δ' st' Q l rs r e q
 cases r <;> first | (cases e;done) | skip
 ·next s r =>
  simp only [lL] at e
  split at e
  ·next hl=>exact ⟨_,_,rfl,s,by rw [r.length];exact hl,hf ρ σ H δ st _ _ δ' st' Q l rs r e q⟩
  ·cases e
def hSub (fo fi:aj->Dm D):D->aj->Dm aj:=fun d δ st=>bnd (fo δ st) fun o st1=>bnd (fi δ st1) fun i st2=>match o,i with
 | .ref r,.int k=>match own st2 r with
  | some xs=>match kU xs.length k with
   | some j=>some (δ,st2.set r (.lst (xs.set j d)))
   | none=>none
  | none=>none
 | _,_=>none
theorem xC {to ti:TE} {fo fi:aj->Dm D} (ho:gx K to fo) (hi:gx K ti fi):vo K (L2.l8 to ti sm) (hSub fo fi):=by
 intro ρ σ H δ st v d δ' st' Q l rs r e q
 obtain ⟨o,st1,e1,e⟩:=dY e
 obtain ⟨i,st2,e2,e⟩:=dY e
 refine ho ρ σ H δ st o st1 _ l rs e1 fun x H1 ρ1 m1 l1 r1=>hi ρ1 σ H1 δ st1 i st2 _ l1 (rs.mn m1) e2 fun y H2 ρ2 m2 l2 r2=>?_
 split at e
 ·split at e
  ·next xs hx =>
   split at e
   ·next j hj =>
    cases e
    cases r2
    cases r1 with
    | ref hr =>
     have hr2:=m2.r _ _ hr
     obtain ⟨vs,e3,r3⟩:=l2.obj _ _ _ hr2 (qI hx)
     obtain ⟨l3,m3⟩:=l2.putL hr2 (qI hx) (r3.set (r.mn (m1.trans m2)) j)
     exact ⟨_,vs,_,j,rfl,rfl,e3,by rw [r3.length];exact hj,q σ _ ρ2 ((m1.trans m2).trans m3) l3 (rs.mn ((m1.trans m2).trans m3))⟩
   ·cases e
  ·cases e
 ·cases e
def Go (K:PySem.W.Frag) (ρ:List Addr) (H:Hp) (st':Store) (E:Ends):Fl->Prop
 | .nx δ=>∀ σ' H' ρ',Mn K ρ H ρ' H'->Rl K ρ' H' st'->Rs K ρ' H' σ' δ->E.nx σ' H'
 | .bk δ=>∀ σ' H' ρ',Mn K ρ H ρ' H'->Rl K ρ' H' st'->Rs K ρ' H' σ' δ->E.bk σ' H'
 | .ct δ=>∀ σ' H' ρ',Mn K ρ H ρ' H'->Rl K ρ' H' st'->Rs K ρ' H' σ' δ->E.ct σ' H'
 | .rt d=>∀ v H' ρ',Mn K ρ H ρ' H'->Rl K ρ' H' st'->Rp K ρ' H' v d->E.rt v H'
theorem Go.mn {ρ ρ1:List Addr} {H H1:Hp} {st':Store} {E:Ends} {fl:Fl} (g:Go K ρ H st' E fl) (m:Mn K ρ H ρ1 H1):Go K ρ1 H1 st' E fl:=by
 cases fl <;> exact fun v H' ρ' m' l r=>g v H' ρ' (m.trans m') l r
def nz (K:PySem.W.Frag) (t:TS) (f:aj->Dm Fl):Prop :=
 ∀ (ρ:List Addr) (σ:St) (H:Hp) (δ:aj) (st:Store) (fl:Fl) (st':Store) (E:Ends),Rl K ρ H st->Rs K ρ H σ δ->f δ st=some (fl,st')->Go K ρ H st' E fl->t E σ H
def b8:aj->Dm Fl:=fun δ st=>some (.nx δ,st)
theorem ly:nz K rW b8:=by
 intro ρ σ H δ st fl st' E l rs e g
 cases e
 exact g σ H ρ .refl l rs
def aI (f g:aj->Dm Fl):aj->Dm Fl:=fun δ st=>bnd (f δ st) fun fl st1=>match fl with
 | .nx δ1=>g δ1 st1
 | x=>some (x,st1)
theorem bE {t u:TS} {f g:aj->Dm Fl} (hf:nz K t f) (hg:nz K u g):nz K (yg t u) (aI f g):=by
 intro ρ σ H δ st fl st' E l rs e q
 obtain ⟨x,st1,e1,e⟩:=dY e
 refine hf ρ σ H δ st x st1 _ l rs e1 ?_
 cases x with
 | nx δ1=>exact fun σ1 H1 ρ1 m1 l1 r1=>hg ρ1 σ1 H1 δ1 st1 fl st' E l1 r1 e (q.mn m1)
 | bk δ1=>cases e;exact q
 | ct δ1=>cases e;exact q
 | rt d=>cases e;exact q
theorem kF {c:TT} {t u:TS} {fc:aj->Dm Bool} {f g:aj->Dm Fl} (hc:oC K c fc) (hf:nz K t f) (hg:nz K u g):nz K (yi c t u) (jM fc f g):=by
 intro ρ σ H δ st fl st' E l rs e q
 obtain ⟨a,st1,e1,e⟩:=dY e
 refine hc ρ σ H δ st _ _ _ l rs e1 fun x H1 ρ1 m1 l1 r1=>?_
 subst r1
 cases x with
 | true =>
  refine oV ?_
  rw [if_pos rfl] at e
  exact hf ρ1 σ H1 δ st1 fl st' E l1 (rs.mn m1) e (q.mn m1)
 | false =>
  refine oU ?_
  rw [if_neg Bool.false_ne_true] at e
  exact hg ρ1 σ H1 δ st1 fl st' E l1 (rs.mn m1) e (q.mn m1)
def iT (f:aj->Dm D):aj->Dm Fl:=fun δ st=>bnd (f δ st) fun _ st1=>some (.nx δ,st1)
theorem tm {t:TE} {f:aj->Dm D} (hf:gx K t f):nz K (rX t) (iT f):=by
 intro ρ σ H δ st fl st' E l rs e q
 obtain ⟨a,st1,e1,e⟩:=dY e
 cases e
 exact hf ρ σ H δ st a _ _ l rs e1 fun x H1 ρ1 m1 l1 r1=>q σ H1 ρ1 m1 l1 (rs.mn m1)
def a7 (f:aj->Dm D):aj->Dm Fl:=fun δ st=>bnd (f δ st) fun d st1=>some (.rt d,st1)
theorem dD {t:TE} {f:aj->Dm D} (hf:gx K t f):nz K (yh t) (a7 f):=by
 intro ρ σ H δ st fl st' E l rs e q
 obtain ⟨a,st1,e1,e⟩:=dY e
 cases e
 exact hf ρ σ H δ st a _ _ l rs e1 fun x H1 ρ1 m1 l1 r1=>q x H1 ρ1 m1 l1 r1
def aO (f:aj->Dm D) (h:D->aj->Dm aj):aj->Dm Fl:=fun δ st=>bnd (f δ st) fun d st1=>bnd (h d δ st1) fun δ1 st2=>some (.nx δ1,st2)
theorem b7 {t:TE} {g:TG} {f:aj->Dm D} {h:D->aj->Dm aj} (hf:gx K t f) (hh:vo K g h):nz K (qS t g) (aO f h):=by
 intro ρ σ H δ st fl st' E l rs e q
 obtain ⟨a,st1,e1,e⟩:=dY e
 obtain ⟨δ1,st2,e2,e⟩:=dY e
 cases e
 exact hf ρ σ H δ st a st1 _ l rs e1 fun x H1 ρ1 m1 l1 r1=>hh ρ1 σ H1 δ st1 x a δ1 _ _ l1 (rs.mn m1) r1 e2 fun σ2 H2 ρ2 m2 l2 r2=>q σ2 H2 ρ2 (m1.trans m2) l2 r2
def o6 (i j:Nat) (fa:aj->Dm (List D)):aj->Dm Fl:=fun δ st=>bnd (fa δ st) fun as st1=>match as with
 | [a,b]=>some (.nx ((δ.set i (some a)).set j (some b)),st1)
 | _=>none
theorem FY {i j:Nat} {t:TA} {fa:aj->Dm (List D)} (ha:pj K t fa):nz K (ym i j t) (o6 i j fa):=by
 intro ρ σ H δ st fl st' E l rs e q
 obtain ⟨as,st1,e1,e⟩:=dY e
 split at e
 ·cases e
  refine ha ρ σ H δ st _ _ _ l rs e1 fun x H1 ρ1 m1 l1 r1=>?_
  obtain ⟨v,w,rfl,r,r'⟩:=r1.two'
  exact ⟨v,w,rfl,q _ H1 ρ1 m1 l1 (((rs.mn m1).set r).set r')⟩
 ·cases e
def fw (c:aj->Dm Bool) (b:aj->Dm Fl):Nat->aj->Dm Fl
 | 0,_,_=>none
 | n + 1,δ,st=>bnd (c δ st) fun t st1=>if t=true then bnd (b δ st1) fun fl st2=>match fl with
   | .nx δ2=>fw c b n δ2 st2
   | .ct δ2=>fw c b n δ2 st2
   | .bk δ2=>some (.nx δ2,st2)
   | .rt d=>some (.rt d,st2)
  else some (.nx δ,st1)
def fuel:Nat:=1000000
def iU (c:aj->Dm Bool) (b:aj->Dm Fl):aj->Dm Fl:=fw c b fuel
theorem xD {tc:TT} {tb:TS} {c:aj->Dm Bool} {b:aj->Dm Fl} (hc:oC K tc c) (hb:nz K tb b):nz K (pJ tc tb) (iU c b):=by
 intro ρ σ H δ st fl st' E l rs e q
 refine ⟨fun m σ1 H1=>∃ ρ1 δ1 st1,Mn K ρ H ρ1 H1/\Rl K ρ1 H1 st1/\Rs K ρ1 H1 σ1 δ1/\fw c b m δ1 st1=some (fl,st'),⟨fuel,ρ,δ,st,.refl,l,rs,e⟩,?_⟩
 rintro m σ1 H1 ⟨ρ1,δ1,st1,m1,l1,tq,e1⟩
 cases m with
 | zero=>cases e1
 | succ m =>
  obtain ⟨t,st2,e2,e1⟩:=dY e1
  refine hc ρ1 σ1 H1 δ1 st1 _ _ _ l1 tq e2 fun x H2 ρ2 m2 l2 r2=>?_
  subst r2
  cases x with
  | true =>
   refine oV ?_
   rw [if_pos rfl] at e1
   obtain ⟨f2,st3,e3,e1⟩:=dY e1
   refine ⟨fun σ3 H3=>∃ m',m' < m + 1/\∃ ρ1 δ1 st1,Mn K ρ H ρ1 H3/\Rl K ρ1 H3 st1/\Rs K ρ1 H3 σ3 δ1/\fw c b m' δ1 st1=some (fl,st'),fun _ _ h=>h,hb ρ2 σ1 H2 δ1 st2 f2 st3 _ l2 (tq.mn m2) e3 ?_⟩
   cases f2 with
   | nx δ3=>exact fun σ3 H3 ρ3 m3 l3 r3=>⟨m,Nat.lt_succ_self m,ρ3,δ3,st3,(m1.trans m2).trans m3,l3,r3,e1⟩
   | ct δ3=>exact fun σ3 H3 ρ3 m3 l3 r3=>⟨m,Nat.lt_succ_self m,ρ3,δ3,st3,(m1.trans m2).trans m3,l3,r3,e1⟩
   | bk δ3=>cases e1;exact q.mn (m1.trans m2)
   | rt d=>cases e1;exact q.mn (m1.trans m2)
  | false =>
   refine oU ?_
   rw [if_neg Bool.false_ne_true] at e1
   cases e1
   exact q.mn (m1.trans m2) σ1 H2 ρ2 .refl l2 (tq.mn m2)
inductive Src where
 | fix (ds:List D) | live (i:Nat) | Nz (i:Nat) | zl (i:Nat) (es:List D) | zr (ds:List D) (i:Nat)
def Src.at:Src->Nat->Store->Option (Option D)
 | .fix ds,i,_=>if i<=ds.length then some ds[i]? else none
 | .live r,i,st=>(items st r).map fun ds=>ds[i]?
 | .Nz r,i,st=>(items st r).bind fun ds=>if i<=ds.length then some (ds.mapIdx fun i d=>D.tup [.int (i:Int),d])[i]? else none
 | .zl r es,i,st=>(items st r).bind fun ds=>if i<=(List.zipWith (fun a b=>D.tup [a,b]) ds es).length then some (List.zipWith (fun a b=>D.tup [a,b]) ds es)[i]? else none
 | .zr ds r,i,st=>(items st r).bind fun es=>if i<=(List.zipWith (fun a b=>D.tup [a,b]) ds es).length then some (List.zipWith (fun a b=>D.tup [a,b]) ds es)[i]? else none
theorem tu {ds:List D} {i:Nat} {st:Store} {o:Option D} (h:Src.at (.fix ds) i st=some o):i<=ds.length/\ds[i]?=o:=by
 simp only [Src.at] at h
 split at h
 ·next hl=>exact ⟨hl,Option.some.inj h⟩
 ·cases h
def zM (K:PySem.W.Frag) (ρ:List Addr) (H:Hp) (J:It) (S:Src):Prop :=
 ∀ (ρ2:List Addr) (H2:Hp) (st2:Store) (i:Nat),Mn K ρ H ρ2 H2->Rl K ρ2 H2 st2 ->
  (S.at i st2=some none->J.stop i H2)/\∀ d,S.at i st2=some (some d)->J.go i H2/\∀ x H3,J.qU i H2 x H3->Mn K ρ2 H2 ρ2 H3/\Rl K ρ2 H3 st2/\Rp K ρ2 H3 x d
abbrev vp (K:PySem.W.Frag) (t:TI) (f:aj->Dm Src):Prop:=So K (zM K) t f
def gh (S:Src) (g:D->aj->Dm aj) (b:aj->Dm Fl):Nat->Nat->aj->Dm Fl
 | 0,_,_,_=>none
 | n + 1,i,δ,st=>match S.at i st with
  | none=>none
  | some none=>some (.nx δ,st)
  | some (some d)=>bnd (g d δ st) fun δ1 st1=>bnd (b δ1 st1) fun fl st2=>match fl with
   | .nx δ2=>gh S g b n (i + 1) δ2 st2
   | .ct δ2=>gh S g b n (i + 1) δ2 st2
   | .bk δ2=>some (.nx δ2,st2)
   | .rt d=>some (.rt d,st2)
def dG (fi:aj->Dm Src) (g:D->aj->Dm aj) (b:aj->Dm Fl):aj->Dm Fl:=fun δ st=>bnd (fi δ st) fun S st1=>gh S g b fuel 0 δ st1
theorem lY {wi:TI} {tg:TG} {tb:TS} {fi:aj->Dm Src} {g:D->aj->Dm aj} {b:aj->Dm Fl} (hi:vp K wi fi) (hg:vo K tg g) (hb:nz K tb b):nz K (yo wi tg tb) (dG fi g b):=by
 intro ρ σ H δ st fl st' E l rs e q
 obtain ⟨S,kX,e0,e⟩:=dY e
 refine hi ρ σ H δ st S kX _ l rs e0 fun J H0 ρ0 m0 l0 ok=>?_
 refine ⟨fun i m σ1 H1=>∃ ρ1 δ1 st1,Mn K ρ0 H0 ρ1 H1/\Rl K ρ1 H1 st1/\Rs K ρ1 H1 σ1 δ1/\gh S g b m i δ1 st1=some (fl,st'),⟨fuel,ρ0,δ,kX,.refl,l0,rs.mn m0,e⟩,?_⟩
 rintro i m σ1 H1 ⟨ρ1,δ1,st1,m1,l1,tq,e1⟩
 cases m with
 | zero=>cases e1
 | succ m =>
  obtain ⟨hstop,hgo⟩:=ok ρ1 H1 st1 i m1 l1
  unfold gh at e1
  split at e1
  ·cases e1
  ·next hs=>cases e1;exact .inl ⟨hstop hs,q.mn (m0.trans m1) σ1 H1 ρ1 .refl l1 tq⟩
  ·next d hs =>
   obtain ⟨δ2,st2,e2,e1⟩:=dY e1
   obtain ⟨f3,st3,e3,e1⟩:=dY e1
   obtain ⟨go,qU⟩:=hgo d hs
   refine .inr ⟨go,fun σ3 H3=>∃ m',m' < m + 1/\∃ ρ1 δ1 st1,Mn K ρ0 H0 ρ1 H3/\Rl K ρ1 H3 st1/\Rs K ρ1 H3 σ3 δ1/\gh S g b m' (i + 1) δ1 st1=some (fl,st'),fun _ _ h=>h,fun x H2 hy=>?_⟩
   obtain ⟨m2,l2,r2⟩:=qU x H2 hy
   refine hg ρ1 σ1 H2 δ1 st1 x d δ2 st2 _ l2 (tq.mn m2) r2 e2 fun σ4 H4 ρ4 m4 l4 r4=>hb ρ4 σ4 H4 δ2 st2 f3 st3 _ l4 r4 e3 ?_
   have m5:=((m1.trans m2).trans m4)
   cases f3 with
   | nx δ3=>exact fun σ5 H5 ρ5 m6 l5 r5=>⟨m,Nat.lt_succ_self m,ρ5,δ3,st3,m5.trans m6,l5,r5,e1⟩
   | ct δ3=>exact fun σ5 H5 ρ5 m6 l5 r5=>⟨m,Nat.lt_succ_self m,ρ5,δ3,st3,m5.trans m6,l5,r5,e1⟩
   | bk δ3=>cases e1;exact q.mn (m0.trans m5)
   | rt d=>cases e1;exact q.mn (m0.trans m5)
def fz (fa:aj->Dm D):aj->Dm Src:=fun δ st=>bnd (fa δ st) fun a st1=>match a with
 | .tup ds=>some (.fix ds,st1)
 | _=>none
theorem pC {t:TE} {fa:aj->Dm D} (ha:gx K t fa):vp K (yn K t) (fz fa):=by
 intro ρ σ H δ st S st' Q l rs e q
 obtain ⟨a,st1,e1,e⟩:=dY e
 cases a <;> simp at e
 obtain ⟨rfl,rfl⟩:=e
 refine ha ρ σ H δ st _ _ _ l rs e1 fun x H1 ρ1 m1 l1 r1=>?_
 cases r1 with
 | tup s r =>
  refine ⟨_,rfl,⟨_,s⟩,q _ H1 ρ1 m1 l1 fun ρ2 H2 st2 i m2 l2=>⟨fun h=>?_,fun d h=>?_⟩⟩
  ·exact ⟨_,m2.t _ _ s,by rw [r.length];exact List.getElem?_eq_none_iff.mp (tu h).2⟩
  ·obtain ⟨v,hv,rv⟩:=r.got (tu h).2
   refine ⟨⟨_,v,m2.t _ _ s,hv⟩,fun x H3 y=>?_⟩
   obtain ⟨rfl,hx⟩:=y
   have:=hx _ (m2.t _ _ s)
   rw [hv] at this
   cases this
   exact ⟨.refl,l2,rv.mn m2⟩
def kG (fa:aj->Dm D):aj->Dm Src:=fun δ st=>bnd (fa δ st) fun a st1=>match a with
 | .ref i=>match items st1 i with
  | some _=>some (.live i,st1)
  | none=>none
 | _=>none
theorem FZ {t:TE} {fa:aj->Dm D} (ha:gx K t fa):vp K (pK K t) (kG fa):=by
 intro ρ σ H δ st S st' Q l rs e q
 obtain ⟨a,st1,e1,e⟩:=dY e
 split at e
 ·next k =>
  split at e
  ·next ds hd =>
   cases e
   refine ha ρ σ H δ st _ _ _ l rs e1 fun x H1 ρ1 m1 l1 r1=>?_
   cases r1 with
   | ref hi =>
    obtain ⟨vs,s,r⟩:=l1.items hi hd
    refine ⟨_,rfl,⟨_,s⟩,q _ H1 ρ1 m1 l1 fun ρ2 H2 st2 i m2 l2=>⟨fun h=>?_,fun d h=>?_⟩⟩
    ·obtain ⟨NA,hd2,h⟩:=Option.map_eq_some_iff.mp h
     obtain ⟨JI,s2,r2⟩:=l2.items (m2.r _ _ hi) hd2
     exact ⟨JI,s2,by rw [r2.length];exact List.getElem?_eq_none_iff.mp h⟩
    ·obtain ⟨NA,hd2,h⟩:=Option.map_eq_some_iff.mp h
     obtain ⟨JI,s2,r2⟩:=l2.items (m2.r _ _ hi) hd2
     obtain ⟨v,hv,rv⟩:=r2.got h
     refine ⟨⟨_,v,s2,hv⟩,fun x H3 y=>?_⟩
     obtain ⟨rfl,hx⟩:=y
     have:=hx _ s2
     rw [hv] at this
     cases this
     exact ⟨.refl,l2,rv⟩
  ·cases e
 ·cases e
def b9 (fa:aj->Dm (List D)):aj->Dm Src:=fun δ st=>bnd (fa δ st) fun as st1=>match as with
 | [.int j]=>if decide (-4611686018427387904<=j/\j < 4611686018427387904)=true then some (.fix (aH 0 j.toNat),st1) else none
 | _=>none
def qf (fa:aj->Dm (List D)):aj->Dm Src:=fun δ st=>bnd (fa δ st) fun as st1=>match as with
 | [.int i,.int j]=>if decide ((-4611686018427387904<=i/\i < 4611686018427387904)/\-4611686018427387904<=j/\j < 4611686018427387904)=true then some (.fix (aH i (j - i).toNat),st1) else none
 | _=>none
theorem gO (lo:Int) (n:Nat):(aH lo n).length=n:=by simp [aH]
theorem CM {lo:Int} {n k:Nat} (h:k < n):(aH lo n)[k]?=some (.int (lo + k)):=by simp [aH,h]
theorem vq {ρ:List Addr} {H:Hp} (lo:Int) (n:Nat):zM K ρ H (B3 lo n) (.fix (aH lo n)):=by
 intro ρ2 H2 st2 i m2 l2
 refine ⟨fun h=>?_,fun d h=>?_⟩
 ·have:=List.getElem?_eq_none_iff.mp (tu h).2
  rw [gO] at this
  exact this
 ·have h:=(tu h).2
  have hl:=(List.getElem?_eq_some_iff.mp h).1
  rw [gO] at hl
  rw [CM hl] at h
  cases h
  refine ⟨hl,fun x H3 y=>?_⟩
  obtain ⟨rfl,rfl⟩:=y
  exact ⟨.refl,l2,.int _⟩
theorem n8 {t:TA} {fa:aj->Dm (List D)} (ha:pj K t fa):vp K (sa t) (b9 fa):=by
 intro ρ σ H δ st S st' Q l rs e q
 obtain ⟨as,st1,e1,e⟩:=dY e
 split at e
 ·split at e
  ·next ok =>
   cases e
   have ok:=of_decide_eq_true ok
   refine ha ρ σ H δ st _ _ _ l rs e1 fun x H1 ρ1 m1 l1 r1=>?_
   obtain ⟨v,rfl,r⟩:=r1.one'
   cases r
   exact ⟨_,rfl,by omega,by omega,q _ H1 ρ1 m1 l1 (vq 0 _)⟩
  ·cases e
 ·cases e
def kY (ds:List D):List D:=ds.mapIdx fun i d=>.tup [.int (i:Int),d]
theorem zN (ds:List D):(kY ds).length=ds.length:=by simp [kY]
theorem F0 {ds:List D} {i:Nat} {x:D} (h:(kY ds)[i]?=some x):∃ d,ds[i]?=some d/\x=.tup [.int (i:Int),d]:=by
 unfold kY at h
 rw [List.getElem?_mapIdx] at h
 obtain ⟨d,h1,h2⟩:=Option.map_eq_some_iff.mp h
 exact ⟨d,h1,h2.symm⟩
def lM (fa:aj->Dm (List D)):aj->Dm Src:=fun δ st=>bnd (fa δ st) fun as st1=>match as with
 | [.tup ds]=>some (.fix (kY ds),st1)
 | _=>none
theorem JJ {t:TA} {fa:aj->Dm (List D)} (ha:pj K t fa):vp K (sE K t) (lM fa):=by
 intro ρ σ H δ st S st' Q l rs e q
 obtain ⟨as,st1,e1,e⟩:=dY e
 split at e
 ·cases e
  refine ha ρ σ H δ st _ _ _ l rs e1 fun x H1 ρ1 m1 l1 r1=>?_
  obtain ⟨v,rfl,r⟩:=r1.one'
  cases r with
  | tup s r =>
   refine ⟨_,rfl,⟨_,s⟩,q _ H1 ρ1 m1 l1 fun ρ2 H2 st2 i m2 l2=>⟨fun h=>?_,fun d h=>?_⟩⟩
   ·obtain ⟨h1,h2⟩:=tu h
    have h2:=List.getElem?_eq_none_iff.mp h2
    rw [zN] at h1 h2
    exact ⟨_,m2.t _ _ s,by rw [r.length];omega⟩
   ·obtain ⟨h1,h2⟩:=tu h
    obtain ⟨d',hd',rfl⟩:=F0 h2
    obtain ⟨v,hv,rv⟩:=r.got hd'
    refine ⟨⟨_,v,m2.t _ _ s,hv⟩,fun x H3 y=>?_⟩
    obtain ⟨p,z,rfl,hp,rfl,hx⟩:=y
    have:=hx _ (m2.t _ _ s)
    rw [hv] at this
    cases this
    have m3:Mn K ρ2 H2 ρ2 (upd H2 p (.tup [.int (i:Int),v])):=Mn.same (iE.up hp)
    exact ⟨m3,l2.same (iE.up hp),.tup (eY.of o9) (.cons (.int _) (.one ((rv.mn m2).mn m3)))⟩
 ·cases e
def gP (S:Src) (g:D->aj->Dm aj) (tc:aj->Dm Bool) (te:aj->Dm D):Nat->Nat->List D->aj->Dm (List D)
 | 0,_,_,_,_=>none
 | n + 1,i,ys,δ,st=>if lim ys.length=true then match S.at i st with
  | none=>none
  | some none=>some (ys,st)
  | some (some d)=>bnd (g d δ st) fun δ1 st1=>bnd (tc δ1 st1) fun t st2=>if t=true then bnd (te δ1 st2) fun y st3=>gP S g tc te n (i + 1) (ys ++ [y]) δ1 st3 else gP S g tc te n (i + 1) ys δ1 st2
  else none
def nM (n:Nat) (js:List Nat) (δ:aj):aj:=List.replicate n none ++ js.map fun j=>δ.getD j none
def ef (fi:aj->Dm Src) (n:Nat) (js:List Nat) (g:D->aj->Dm aj) (tc:aj->Dm Bool) (te:aj->Dm D):aj->Dm D:=fun δ st=>bnd (fi δ st) fun S st1=>bnd (gP S g tc te fuel 0 [] (nM n js δ) st1) fun ys st2=>some (.ref st2.length,st2 ++ [.lst ys])
theorem Rs.comp {ρ:List Addr} {H:Hp} {σ:St} {δ:aj} (h:Rs K ρ H σ δ) (n:Nat) (js:List Nat):Rs K ρ H (iP n js σ) (nM n js δ):=by
 unfold iP nM
 refine ⟨by simp,fun i d hd=>?_⟩
 by_cases hi:i < n
 ·rw [List.getElem?_append_left (by simpa using hi),List.getElem?_replicate,if_pos hi] at hd
  cases hd
 ·rw [List.getElem?_append_right (by simpa using Nat.le_of_not_lt hi),List.getElem?_map] at hd
  rw [List.getElem?_append_right (by simpa using Nat.le_of_not_lt hi),List.getElem?_map]
  simp only [List.length_replicate] at hd ⊢
  cases hj:js[i - n]? with
  | none=>rw [hj] at hd;cases hd
  | some j =>
   rw [hj] at hd
   have hd:δ.getD j none=some d:=Option.some.inj hd
   rw [List.getD_eq_getElem?_getD] at hd
   have hd':δ[j]?=some (some d):=by
    cases hx:δ[j]? with
    | none=>rw [hx] at hd;cases hd
    | some y=>rw [hx] at hd;exact congrArg some hd
   obtain ⟨v,hv,r⟩:=h.2 j d hd'
   exact ⟨v,by show some (σ.getD j none)=_;rw [List.getD_eq_getElem?_getD,hv];rfl,r⟩
theorem qg {wi:TI} {tg:TG} {tc:TT} {te:TE} {fi:aj->Dm Src} {n:Nat} {js:List Nat} {g:D->aj->Dm aj} {c:aj->Dm Bool} {f:aj->Dm D} (hi:vp K wi fi) (hg:vo K tg g) (hc:oC K tc c) (hf:gx K te f):gx K (pW wi n js tg tc te) (ef fi n js g c f):=by
 intro ρ σ H δ st b st' Q l rs e q
 obtain ⟨S,kX,e0,e⟩:=dY e
 obtain ⟨zs,nA,e9,e⟩:=dY e
 cases e
 refine hi ρ σ H δ st S kX _ l rs e0 fun J H0 ρ0 m0 l0 ok=>?_
 refine ⟨fun i m ys σ1 H1=>∃ ρ1 δ1 st1 ws,Mn K ρ0 H0 ρ1 H1/\Rl K ρ1 H1 st1/\Rs K ρ1 H1 σ1 δ1/\cC K ρ1 H1 ys ws/\gP S g c f m i ws δ1 st1=some (zs,nA),⟨fuel,ρ0,_,kX,[],.refl,l0,(rs.mn m0).comp n js,.nil,e9⟩,?_⟩
 rintro i m ys σ1 H1 ⟨ρ1,δ1,st1,ws,m1,l1,tq,CN,e1⟩
 cases m with
 | zero=>cases e1
 | succ m =>
  obtain ⟨hstop,hgo⟩:=ok ρ1 H1 st1 i m1 l1
  unfold gP at e1
  split at e1
  ·next hl =>
   refine ⟨by rw [CN.length];exact FL hl,?_⟩
   split at e1
   ·cases e1
   ·next hs =>
    cases e1
    exact .inl ⟨hstop hs,fun p hp=>q _ _ _ ((m0.trans m1).trans (Mn.new hp)) (l1.newL hp CN) (.ref (newR l1))⟩
   ·next d hs =>
    obtain ⟨δ2,st2,e2,e1⟩:=dY e1
    obtain ⟨t,st3,e3,e1⟩:=dY e1
    obtain ⟨go,qU⟩:=hgo d hs
    refine .inr ⟨go,fun x H2 hy=>?_⟩
    obtain ⟨m2,l2,r2⟩:=qU x H2 hy
    refine hg ρ1 σ1 H2 δ1 st1 x d δ2 st2 _ l2 (tq.mn m2) r2 e2 fun σ4 H4 ρ4 m4 l4 r4=>hc ρ4 σ4 H4 δ2 st2 t st3 _ l4 r4 e3 fun t' H5 ρ5 m5 l5 r5=>?_
    subst r5
    have m6:=(((m1.trans m2).trans m4).trans m5)
    cases t' with
    | true =>
     refine oV ?_
     rw [if_pos rfl] at e1
     obtain ⟨y,zO,e6,e1⟩:=dY e1
     exact hf ρ5 σ4 H5 δ2 st3 y zO _ l5 (r4.mn m5) e6 fun v H7 ρ7 m7 l7 r7=>⟨m,Nat.lt_succ_self m,ρ7,δ2,zO,ws ++ [y],m6.trans m7,l7,r4.mn (m5.trans m7),(CN.mn (((m2.trans m4).trans m5).trans m7)).append (.one r7),e1⟩
    | false =>
     refine oU ?_
     rw [if_neg Bool.false_ne_true] at e1
     exact ⟨m,Nat.lt_succ_self m,ρ5,δ2,st3,ws,m6,l5,r4.mn m5,CN.mn ((m2.trans m4).trans m5),e1⟩
  ·cases e1
def fA:aj->Dm Bool:=fun _ st=>some (true,st)
def eI (n:Nat) (b:aj->Dm Fl):List D->Dm D:=fun ds st=>bnd (b (ds.map some ++ List.replicate (n - ds.length) none) st) fun fl st1=>match fl with
 | .rt d=>some (d,st1)
 | .nx _=>some (.non,st1)
 | _=>none
theorem Rs.start {ρ:List Addr} {H:Hp} {vs:List V} {ds:List D} (r:cC K ρ H vs ds) (N:List Str):Rs K ρ H (start N vs) (ds.map some ++ List.replicate (N.length - ds.length) none):=by
 unfold L2.start
 rw [r.length]
 refine ⟨by simp [r.length],fun i d hd=>?_⟩
 by_cases hi:i < ds.length
 ·rw [List.getElem?_append_left (by simpa using hi),List.getElem?_map] at hd
  rw [List.getElem?_append_left (by rw [List.length_map,r.length];exact hi),List.getElem?_map]
  cases hx:ds[i]? with
  | none=>rw [hx] at hd;cases hd
  | some y =>
   rw [hx] at hd
   cases hd
   obtain ⟨v,hv,rv⟩:=r.got hx
   exact ⟨v,by rw [hv];rfl,rv⟩
 ·rw [List.getElem?_append_right (by simpa using Nat.le_of_not_lt hi),List.getElem?_replicate] at hd
  split at hd <;> cases hd
theorem fB {N:List Str} {k n:Nat} {t:TS} {b:aj->Dm Fl} {vs:List V} {H:Hp} {Q:VK} {E:XK} (hb:nz K t b) (hn:N.length=n) (h:bj K k (eI n b) vs H Q E):t { nx:=fun _ H'=>Q .non H',rt:=Q } (start N vs) H:=by
 obtain ⟨hk,ρ,st,ds,d,st',l,r,e,q⟩:=h
 subst hn
 obtain ⟨fl,st1,e1,e⟩:=dY e
 refine hb ρ _ H _ st fl st1 _ l (Rs.start r N) e1 ?_
 cases fl with
 | rt v=>cases e;exact q
 | nx δ=>cases e;exact fun σ' H' ρ' m l' r'=>q .non H' ρ' m l' .non
 | bk δ=>cases e
 | ct δ=>cases e
end
end L4
namespace L4
open PySem PySem.Spec L2
section
variable {X:Cx} {K:PySem.W.Frag}
theorem NC {N:List Str} {qh:Scope} {cells:List (Str×Addr)} {C:Addr} {fp:List Addr} {s:Shared} {H:Hp} {qi:Scope} {own fr:List Str} (h:pV (pU qh X.env.scope) qi own fr):pV (aW X N qh cells C fp s H).env.scope qi own fr:=h
theorem rK:oC K (fun _ H Q=>Q true H) fA:=by
 intro ρ σ H δ st b st' Q l rs e q
 cases e
 exact q _ H ρ .refl l rfl
end
def tw (K:PySem.W.Frag):Sp:=fun vs H Q _=>∃ (a:Addr) (ns:List Int),vs=[.ref a]/\yO K H a (ns.map V.int)/\ns.length<=63/\∀ H',Q (.bl true) H'
theorem vt {P:Program} {w:World} {K:PySem.W.Frag} {mg:Str->Option Value} {base:Heap} {k:Nat} {f:Addr} {fd:FuncData} {ps:List Str} {F:List D->Dm D} (G:az P w K mg base bg k f fd ps (bj K 1 F))
  (h:∀ ns:List Int,ns.length<=63->∃ st',F [.ref 0] [.oB (ns.map D.int)]=some (.bl true,st')):az P w K mg base bg k f fd ps (tw K):=by
 refine G.imp fun vs H Q E hs=>?_
 obtain ⟨a,ns,rfl,hS,hn,q⟩:=hs
 obtain ⟨st',e⟩:=h ns hn
 have one:∀ i (b:Addr),([a]:List Addr)[i]?=some b->i=0/\b=a:=fun i b h=>by
  cases i with
  | zero=>exact ⟨rfl,(Option.some.inj h).symm⟩
  | succ i=>simp at h
 refine ⟨rfl,[a],[.oB (ns.map D.int)],[.ref 0],.bl true,st',⟨rfl,fun i j b o o' h1 h2 _ _ _ _=>by rw [(one i b h1).1,(one j b h2).1],fun i b o h1 h2=>?_⟩,.one (.ref rfl),e,fun v H' ρ' m l r=>by cases r;exact q H'⟩
 obtain ⟨rfl,rfl⟩:=one i b h1
 cases (Option.some.inj h2)
 exact ⟨ns.map V.int,hS,cC.ints ns⟩
def Wp {α:Type} (m:Option (α×Store)) (Q:α->Store->Prop):Prop:=∃ a st,m=some (a,st)/\Q a st
section
variable {α β:Type} {Q Q':α->Store->Prop} {st:Store} {δ:aj}
theorem aZ {m:Option (α×Store)} (h:Wp m Q) (hq:∀ a st,Q a st->Q' a st):Wp m Q':=let ⟨a,st,e,q⟩:=h;⟨a,st,e,hq a st q⟩
theorem bB {a:α}:Wp (some (a,st)) Q↔Q a st:=⟨fun ⟨_,_,e,q⟩=>by cases e;exact q,fun q=>⟨a,st,rfl,q⟩⟩
theorem fO:Wp (none:Option (α×Store)) Q↔False:=⟨fun ⟨_,_,e,_⟩=>(by cases e),False.elim⟩
theorem dk {R:β->Store->Prop} {m:Option (α×Store)} {k:α->Dm β}:Wp (bnd m k) R↔Wp m fun a st1=>Wp (k a st1) R:=by
 cases m with
 | none=>exact ⟨fun ⟨_,_,e,_⟩=>(by cases e),fun ⟨_,_,e,_⟩=>(by cases e)⟩
 | some p=>exact ⟨fun h=>⟨p.1,p.2,rfl,h⟩,fun ⟨a,s,e,h⟩=>by cases e;exact h⟩
theorem mU {c:Prop} [Decidable c] {m n:Option (α×Store)}:Wp (if c then m else n) Q↔if c then Wp m Q else Wp n Q:=by split <;> exact Iff.rfl
end
section
variable {st:Store} {δ:aj} {Q:D->Store->Prop}
theorem vw {i:Nat}:Wp (ag i δ st) Q↔∃ d,δ[i]?=some (some d)/\Q d st:=by
 unfold ag
 split
 ·next d hd=>rw [bB];exact ⟨fun h=>⟨d,hd,h⟩,fun ⟨e,he,h⟩=>by rw [hd] at he;cases he;exact h⟩
 ·next h=>rw [fO];exact ⟨False.elim,fun ⟨e,he,_⟩=>h e he⟩
theorem F3 {d:D}:Wp (fC d δ st) Q↔Q d st:=bB
theorem zP {g:D->D->Dm D} {fa fb:aj->Dm D}:Wp (aA g fa fb δ st) Q↔Wp (fa δ st) fun a st1=>Wp (fb δ st1) fun b st2=>Wp (g a b st2) Q:=by
 unfold aA;rw [dk];simp only [dk]
theorem zQ {g:D->Dm D} {fa:aj->Dm D}:Wp (oE g fa δ st) Q↔Wp (fa δ st) fun a st1=>Wp (g a st1) Q:=dk
theorem zR {g:List D->Dm D} {fa:aj->Dm (List D)}:Wp (aS g fa δ st) Q↔Wp (fa δ st) fun a st1=>Wp (g a st1) Q:=dk
theorem vz {R:List D->Store->Prop}:Wp (ah δ st) R↔R [] st:=bB
theorem ND {R:List D->Store->Prop} {fa:aj->Dm D} {fr:aj->Dm (List D)}:Wp (ae fa fr δ st) R↔Wp (fa δ st) fun a st1=>Wp (fr δ st1) fun r st2=>R (a :: r) st2:=by
 unfold ae;rw [dk];simp only [dk,bB]
theorem vA {fa:aj->Dm (List D)}:Wp (b6 fa δ st) Q↔Wp (fa δ st) fun as st1=>lim as.length=true/\Q (.tup as) st1:=by
 unfold b6;rw [dk];simp only [mU,bB,fO]
 constructor <;> exact fun h=>aZ h fun a s h=>by first | (split at h;exact ⟨by assumption,h⟩;exact h.elim) | (rw [if_pos h.1];exact h.2)
theorem vB {fa:aj->Dm (List D)}:Wp (er fa δ st) Q↔Wp (fa δ st) fun as st1=>lim as.length=true/\Q (.ref st1.length) (st1 ++ [.lst as]):=by
 unfold er;rw [dk];simp only [mU,bB,fO]
 constructor <;> exact fun h=>aZ h fun a s h=>by first | (split at h;exact ⟨by assumption,h⟩;exact h.elim) | (rw [if_pos h.1];exact h.2)
theorem NF {R:Bool->Store->Prop} {fa:aj->Dm D}:Wp (aR fa δ st) R↔Wp (fa δ st) fun a st1=>∃ b,a=.bl b/\R b st1:=by
 unfold aR;rw [dk]
 constructor <;> refine fun h=>aZ h fun a s h=>?_
 ·cases a <;> simp only [bB,fO] at h
  exact ⟨_,rfl,h⟩
 ·obtain ⟨b,rfl,h⟩:=h
  exact bB.mpr h
theorem vC {R:Bool->Store->Prop} {fa:aj->Dm Bool}:Wp (o4 fa δ st) R↔Wp (fa δ st) fun a st1=>R (!a) st1:=by
 unfold o4;rw [dk];simp only [bB]
theorem vD {R:Bool->Store->Prop} {fa fb:aj->Dm Bool}:Wp (qb fa fb δ st) R↔Wp (fa δ st) fun a st1=>if a=true then Wp (fb δ st1) R else R false st1:=by
 unfold qb;rw [dk];simp only [mU,bB]
theorem zS {R:Bool->Store->Prop} {fa fb:aj->Dm Bool}:Wp (xv fa fb δ st) R↔Wp (fa δ st) fun a st1=>if a=true then R true st1 else Wp (fb δ st1) R:=by
 unfold xv;rw [dk];simp only [mU,bB]
theorem tD {α:Type} {R:α->Store->Prop} {c:aj->Dm Bool} {fa fb:aj->Dm α}:Wp (jM c fa fb δ st) R↔Wp (c δ st) fun a st1=>if a=true then Wp (fa δ st1) R else Wp (fb δ st1) R:=by
 unfold jM;rw [dk];simp only [mU]
theorem NG {fa fb:aj->Dm D}:Wp (oF fa fb δ st) Q↔Wp (aR fa δ st) fun a st1=>if a=true then Wp (fb δ st1) Q else Q (.bl false) st1:=by
 unfold oF;rw [dk];simp only [mU,bB]
theorem vE {fa fb:aj->Dm D}:Wp (zD fa fb δ st) Q↔Wp (aR fa δ st) fun a st1=>if a=true then Q (.bl true) st1 else Wp (fb δ st1) Q:=by
 unfold zD;rw [dk];simp only [mU,bB]
theorem NH {fa:aj->Dm D}:Wp (sU fa δ st) Q↔Wp (aR fa δ st) fun a st1=>Q (.bl (!a)) st1:=by
 unfold sU;rw [dk];simp only [bB]
theorem NI {R:Option Int->Store->Prop}:Wp (ke δ st) R↔R none st:=bB
theorem NJ {R:Option Int->Store->Prop} {fa:aj->Dm D}:Wp (mB fa δ st) R↔Wp (fa δ st) fun a st1=>∃ i,a=.int i/\R (some i) st1:=by
 unfold mB;rw [dk]
 constructor <;> refine fun h=>aZ h fun a s h=>?_
 ·cases a <;> simp only [bB,fO] at h
  exact ⟨_,rfl,h⟩
 ·obtain ⟨b,rfl,h⟩:=h
  exact bB.mpr h
theorem zT {g:D->Option Int->Option Int->Dm D} {fa:aj->Dm D} {fl fh:aj->Dm (Option Int)}:Wp (xw g fa fl fh δ st) Q↔Wp (fa δ st) fun a st1=>Wp (fl δ st1) fun lo st2=>Wp (fh δ st2) fun hi st3=>Wp (g a lo hi st3) Q:=by
 unfold xw;rw [dk];simp only [dk]
theorem zU {T:String} {g:D->List D->Dm D} {fo:aj->Dm D} {fa:aj->Dm (List D)}:Wp (n6 T g fo fa δ st) Q↔Wp (fo δ st) fun o st1=>sY T st1 o=true/\Wp (fa δ st1) fun as st2=>Wp (g o as st2) Q:=by
 unfold n6;rw [dk];simp only [mU,dk,fO]
 constructor <;> exact fun h=>aZ h fun a s h=>by first | (split at h;exact ⟨by assumption,h⟩;exact h.elim) | (rw [if_pos h.1];exact h.2)
variable {i j:Int} {ds es:List D} {k:Nat}
theorem vF:Wp (dj (.int i) (.int j) st) Q↔Q (.int (i + j)) st:=bB
theorem vG:Wp (l8 (.int i) (.int j) st) Q↔Q (.int (i - j)) st:=bB
theorem zV:Wp (xy (.int i) (.int j) st) Q↔Q (.bl (decide (i < j))) st:=bB
theorem zW:Wp (Nu (.int i) (.int j) st) Q↔Q (.bl (decide (i<=j))) st:=bB
theorem zX:Wp (zF (.int i) (.int j) st) Q↔Q (.bl (decide (j < i))) st:=bB
theorem zY:Wp (FT (.int i) (.int j) st) Q↔Q (.bl (decide (j<=i))) st:=bB
theorem vH:Wp (jO (.int i) st) Q↔Q (.int (-i)) st:=bB
theorem xE {c:Int->Int->Bool} {h:Int->Int->D}:Wp (rG c h (.int i) (.int j) st) Q↔c i j=true/\Q (h i j) st:=by
 show Wp (if c i j=true then some (h i j,st) else none) Q↔_
 rw [mU,bB,fO]
 split
 ·next h=>exact ⟨fun q=>⟨h,q⟩,fun q=>q.2⟩
 ·next h=>exact ⟨False.elim,fun q=>h q.1⟩
theorem vI:Wp (kC (.int i) (.int j) st) Q↔((-18446744073709551616 < i/\i < 18446744073709551616)\/(-18446744073709551616 < j/\j < 18446744073709551616))/\Q (.int (i * j)) st:=by
 unfold kC;rw [xE,Bool.or_eq_true,decide_eq_true_eq,decide_eq_true_eq]
theorem NK:Wp (nK (.int i) (.int j) st) Q↔(0 < j/\j < 1073741824)/\Q (.int (i / j)) st:=by unfold nK;rw [xE,decide_eq_true_eq]
theorem vJ:Wp (jN (.int i) (.int j) st) Q↔0 < j/\Q (.int (i % j)) st:=by unfold jN;rw [xE,decide_eq_true_eq]
theorem vK:Wp (qc (.int i) (.int j) st) Q↔(0<=j/\j<=1000000/\i.natAbs < 18446744073709551616)/\Q (.int (i ^ j.toNat)) st:=by unfold qc;rw [xE,decide_eq_true_eq]
theorem vL {neg:Bool}:Wp (kD neg (.int i) (.int j) st) Q↔Q (.bl (if neg then !decide (i=j) else decide (i=j))) st:=by
 have e:decide (V.int i=V.int j)=decide (i=j):=by
  by_cases h:i=j
  ·subst h;simp
  ·simp [h]
 show Wp (if nW (V.int i) (V.int j)=true then some (D.bl (if neg then !decide (V.int i=V.int j) else decide (V.int i=V.int j)),st) else none) Q↔_
 rw [if_pos (show nW _ _=true from rfl),bB,e]
theorem vN {neg:Bool} {x y:Str}:Wp (kD neg (.str x) (.str y) st) Q↔Q (.bl (if neg then !decide (x=y) else decide (x=y))) st:=by
 have e:decide (V.str x=V.str y)=decide (x=y):=by
  by_cases h:x=y
  ·subst h;simp
  ·simp [h]
 show Wp (if nW (V.str x) (V.str y)=true then some (D.bl (if neg then !decide (V.str x=V.str y) else decide (V.str x=V.str y)),st) else none) Q↔_
 rw [if_pos (show nW _ _=true from rfl),bB,e]
theorem vO:Wp (aL (.tup ds) (.int i) st) Q↔∃ d,iA ds i=some d/\Q d st:=by
 show Wp (match iA ds i with | some d=>some (d,st) | none=>none) Q↔_
 cases iA ds i with
 | none=>rw [fO];exact ⟨False.elim,fun ⟨_,e,_⟩=>by cases e⟩
 | some d=>rw [bB];exact ⟨fun q=>⟨d,rfl,q⟩,fun ⟨_,e,q⟩=>by cases e;exact q⟩
theorem vP:Wp (eJ (.ref k) (.int i) st) Q↔∃ ds d,items st k=some ds/\iA ds i=some d/\Q d st:=by
 show Wp (match items st k with | some ds=>(match iA ds i with | some d=>some (d,st) | none=>none) | none=>none) Q↔_
 cases items st k with
 | none=>rw [fO];exact ⟨False.elim,fun ⟨_,_,e,_⟩=>by cases e⟩
 | some ds =>
  show Wp (match iA ds i with | some d=>some (d,st) | none=>none) Q↔_
  cases h:iA ds i with
  | none=>rw [fO];exact ⟨False.elim,fun ⟨_,_,e,e',_⟩=>by cases e;rw [h] at e';cases e'⟩
  | some d=>rw [bB];exact ⟨fun q=>⟨ds,d,rfl,h,q⟩,fun ⟨_,_,e,e',q⟩=>by cases e;rw [h] at e';cases e';exact q⟩
theorem vQ {lo hi:Option Int}:Wp (vd (.tup ds) lo hi st) Q↔Q (.tup (cutD ds lo hi)) st:=bB
theorem vR {lo hi:Option Int}:Wp (qd (.ref k) lo hi st) Q↔∃ ds,items st k=some ds/\Q (.ref st.length) (st ++ [.lst (cutD ds lo hi)]):=by
 show Wp (match items st k with | some ds=>some (D.ref st.length,st ++ [O.lst (cutD ds lo hi)]) | none=>none) Q↔_
 cases items st k with
 | none=>rw [fO];exact ⟨False.elim,fun ⟨_,e,_⟩=>by cases e⟩
 | some ds=>rw [bB];exact ⟨fun q=>⟨ds,rfl,q⟩,fun ⟨_,e,q⟩=>by cases e;exact q⟩
theorem NL:Wp (jI (.tup ds) (.tup es) st) Q↔lim (ds.length + es.length)=true/\Q (.tup (ds ++ es)) st:=by
 show Wp (if lim (ds.length + es.length)=true then some (D.tup (ds ++ es),st) else none) Q↔_
 rw [mU,bB,fO]
 split
 ·next h=>exact ⟨fun q=>⟨h,q⟩,fun q=>q.2⟩
 ·next h=>exact ⟨False.elim,fun q=>h q.1⟩
theorem vS {a b:Nat}:Wp (mj (.ref a) (.ref b) st) Q↔∃ xs ys,own st a=some xs/\own st b=some ys/\lim (xs.length + ys.length)=true/\Q (.ref st.length) (st ++ [.lst (xs ++ ys)]):=by
 show Wp (match own st a,own st b with | some xs,some ys=>if lim (xs.length + ys.length)=true then some (D.ref st.length,st ++ [O.lst (xs ++ ys)]) else none | _,_=>none) Q↔_
 cases ha:own st a <;> cases hb:own st b
 ·simp only [fO];exact ⟨False.elim,fun ⟨_,_,e,_⟩=>by cases e⟩
 ·simp only [fO];exact ⟨False.elim,fun ⟨_,_,e,_⟩=>by cases e⟩
 ·simp only [fO];exact ⟨False.elim,fun ⟨_,_,_,e,_⟩=>by cases e⟩
 ·next xs ys =>
  show Wp (if lim (xs.length + ys.length)=true then some (D.ref st.length,st ++ [O.lst (xs ++ ys)]) else none) Q↔_
  rw [mU,bB,fO]
  split
  ·next h=>exact ⟨fun q=>⟨_,_,rfl,rfl,h,q⟩,fun ⟨_,_,e,e',_,q⟩=>by cases e;cases e';exact q⟩
  ·next h=>exact ⟨False.elim,fun ⟨_,_,e,e',q,_⟩=>by cases e;cases e';exact h q⟩
theorem vT {a:D}:Wp (eK [a] st) Q↔∃ ds,dc st a=some ds/\Q (.int ds.length) st:=by
 show Wp (match dc st a with | some ds=>some (D.int ds.length,st) | none=>none) Q↔_
 cases dc st a with
 | none=>rw [fO];exact ⟨False.elim,fun ⟨_,e,_⟩=>by cases e⟩
 | some ds=>rw [bB];exact ⟨fun q=>⟨ds,rfl,q⟩,fun ⟨_,e,q⟩=>by cases e;exact q⟩
theorem NM {a:D}:Wp (mC [a] st) Q↔∃ ds,dc st a=some ds/\Q (.ref st.length) (st ++ [.lst ds]):=by
 show Wp (match dc st a with | some ds=>some (D.ref st.length,st ++ [O.lst ds]) | none=>none) Q↔_
 cases dc st a with
 | none=>rw [fO];exact ⟨False.elim,fun ⟨_,e,_⟩=>by cases e⟩
 | some ds=>rw [bB];exact ⟨fun q=>⟨ds,rfl,q⟩,fun ⟨_,e,q⟩=>by cases e;exact q⟩
theorem NN {a:D}:Wp (bW [a] st) Q↔∃ ds,dc st a=some ds/\Q (.tup ds) st:=by
 show Wp (match dc st a with | some ds=>some (D.tup ds,st) | none=>none) Q↔_
 cases dc st a with
 | none=>rw [fO];exact ⟨False.elim,fun ⟨_,e,_⟩=>by cases e⟩
 | some ds=>rw [bB];exact ⟨fun q=>⟨ds,rfl,q⟩,fun ⟨_,e,q⟩=>by cases e;exact q⟩
theorem NP:Wp (oG [.int i,.int j] st) Q↔Q (.int (if j > i then j else i)) st:=bB
theorem NQ:Wp (zK [.int i,.int j] st) Q↔Q (.int (if j < i then j else i)) st:=bB
theorem NR:Wp (mD [.int i] st) Q↔Q (.int i) st:=bB
theorem NS {b:Bool}:Wp (mD [.bl b] st) Q↔Q (.int (if b then 1 else 0)) st:=bB
theorem NT:Wp (gN [.int j] st) Q↔Q (.ref st.length) (st ++ [.iJ 0 j]):=bB
theorem NU:Wp (eM [.int i,.int j] st) Q↔Q (.ref st.length) (st ++ [.iJ i j]):=bB
theorem NV {y:D}:Wp (dm (.ref k) [y] st) Q↔∃ xs,own st k=some xs/\lim xs.length=true/\Q .non (st.set k (.lst (xs ++ [y]))):=by
 show Wp (match own st k with | some xs=>if lim xs.length=true then some (D.non,st.set k (O.lst (xs ++ [y]))) else none | none=>none) Q↔_
 cases own st k with
 | none=>rw [fO];exact ⟨False.elim,fun ⟨_,e,_⟩=>by cases e⟩
 | some xs =>
  show Wp (if lim xs.length=true then some (D.non,st.set k (O.lst (xs ++ [y]))) else none) Q↔_
  rw [mU,bB,fO]
  split
  ·next h=>exact ⟨fun q=>⟨_,rfl,h,q⟩,fun ⟨_,e,_,q⟩=>by cases e;exact q⟩
  ·next h=>exact ⟨False.elim,fun ⟨_,e,q,_⟩=>by cases e;exact h q⟩
end
def Ws (m:Option (Fl×Store)) (N B C:aj->Store->Prop) (R:D->Store->Prop):Prop:=Wp m fun fl st=>match fl with
 | .nx δ=>N δ st
 | .bk δ=>B δ st
 | .ct δ=>C δ st
 | .rt d=>R d st
section
variable {st:Store} {δ:aj} {N B C:aj->Store->Prop} {R:D->Store->Prop} {f g:aj->Dm Fl} {e:aj->Dm D}
theorem vU {m:Option (Fl×Store)} {N':aj->Store->Prop} (h:Ws m N B C R) (hn:∀ δ st,N δ st->N' δ st):Ws m N' B C R:=aZ h fun fl st q=>by
 cases fl with
 | nx δ=>exact hn δ st q
 | bk δ=>exact q
 | ct δ=>exact q
 | rt d=>exact q
theorem bx (h:Ws (f δ st) (fun δ1 st1=>Ws (g δ1 st1) N B C R) B C R):Ws (aI f g δ st) N B C R:=by
 unfold Ws aI
 rw [dk]
 refine aZ h fun fl st1 q=>?_
 cases fl with
 | nx δ1=>exact q
 | bk δ1=>exact bB.mpr q
 | ct δ1=>exact bB.mpr q
 | rt d=>exact bB.mpr q
theorem lh (h:N δ st):Ws (b8 δ st) N B C R:=bB.mpr h
theorem qj {t:D->aj->Dm aj} (h:Wp (e δ st) fun d st1=>Wp (t d δ st1) N):Ws (aO e t δ st) N B C R:=by
 unfold Ws aO
 rw [dk]
 refine aZ h fun d st1 q=>?_
 rw [dk]
 exact aZ q fun δ1 st2 q=>bB.mpr q
theorem cx {i:Nat} (h:Wp (e δ st) fun d st1=>N (δ.set i (some d)) st1):Ws (aO e (hName i) δ st) N B C R:=qj (aZ h fun d st1 q=>bB.mpr q)
theorem tG (h:Wp (e δ st) fun _ st1=>N δ st1):Ws (iT e δ st) N B C R:=by
 unfold Ws iT
 rw [dk]
 exact aZ h fun d st1 q=>bB.mpr q
theorem dH (h:Wp (e δ st) R):Ws (a7 e δ st) N B C R:=by
 unfold Ws a7
 rw [dk]
 exact aZ h fun d st1 q=>bB.mpr q
theorem jP {c:aj->Dm Bool} (h:Wp (c δ st) fun b st1=>(b=true->Ws (f δ st1) N B C R)/\(b=false->Ws (g δ st1) N B C R)):Ws (jM c f g δ st) N B C R:=by
 unfold Ws
 rw [tD]
 refine aZ h fun b st1 q=>?_
 cases b with
 | true=>rw [if_pos rfl];exact q.1 rfl
 | false=>rw [if_neg Bool.false_ne_true];exact q.2 rfl
theorem F4 {i j:Nat} {fa:aj->Dm (List D)} (h:Wp (fa δ st) fun as st1=>∃ a b,as=[a,b]/\N ((δ.set i (some a)).set j (some b)) st1):Ws (o6 i j fa δ st) N B C R:=by
 unfold Ws o6
 rw [dk]
 refine aZ h fun as st1 q=>?_
 obtain ⟨a,b,rfl,q⟩:=q
 exact bB.mpr q
theorem e7 {n:Nat} {b:aj->Dm Fl} {ds:List D} (h:Ws (b (ds.map some ++ List.replicate (n - ds.length) none) st) (fun _ st1=>R .non st1) (fun _ _=>False) (fun _ _=>False) R):Wp (eI n b ds st) R:=by
 unfold eI
 rw [dk]
 refine aZ h fun fl st1 q=>?_
 cases fl with
 | nx δ1=>exact bB.mpr q
 | bk δ1=>exact q.elim
 | ct δ1=>exact q.elim
 | rt d=>exact bB.mpr q
theorem xF {c:aj->Dm Bool} {b:aj->Dm Fl} (W:Nat->aj->Store->Prop) (m:Nat) (hm:m < fuel) (h0:W m δ st)
  (step:∀ m δ st,W m δ st->Wp (c δ st) fun t st1=>(t=true->Ws (b δ st1) (fun δ2 st2=>∃ m',m' < m/\W m' δ2 st2) N (fun δ2 st2=>∃ m',m' < m/\W m' δ2 st2) R)/\(t=false->N δ st1)):Ws (iU c b δ st) N B C R:=by
 have key:∀ (k m:Nat) (δ:aj) (st:Store),m < k->W m δ st->Ws (fw c b k δ st) N B C R:=by
  intro k
  induction k with
  | zero=>intro m δ st h;exact absurd h (Nat.not_lt_zero _)
  | succ k ih =>
   intro m δ st hk hw
   unfold Ws fw
   rw [dk]
   refine aZ (step m δ st hw) fun t st1 q=>?_
   cases t with
   | false=>rw [if_neg Bool.false_ne_true];exact bB.mpr (q.2 rfl)
   | true =>
    rw [if_pos rfl,dk]
    refine aZ (q.1 rfl) fun fl st2 q=>?_
    cases fl with
    | nx δ2=>obtain ⟨m',hm',w⟩:=q;exact ih m' δ2 st2 (by omega) w
    | ct δ2=>obtain ⟨m',hm',w⟩:=q;exact ih m' δ2 st2 (by omega) w
    | bk δ2=>exact bB.mpr q
    | rt d=>exact bB.mpr q
 exact key fuel m δ st hm h0
theorem lZ {fi:aj->Dm Src} {t:D->aj->Dm aj} {b:aj->Dm Fl} (ds:List D) (Pv:Nat->aj->Store->Prop) (hi:Wp (fi δ st) fun S st1=>S=.fix ds/\Pv 0 δ st1) (hl:ds.length < 100000)
  (step:∀ i d δ st,ds[i]?=some d->Pv i δ st->Wp (t d δ st) fun δ1 st1=>Ws (b δ1 st1) (Pv (i + 1)) N (Pv (i + 1)) R) (fin:∀ δ st,Pv ds.length δ st->N δ st):Ws (dG fi t b δ st) N B C R:=by
 unfold Ws dG
 rw [dk]
 refine aZ hi fun S kX q=>?_
 obtain ⟨rfl,h0⟩:=q
 have key:∀ (k i:Nat) (δ:aj) (st:Store),i<=ds.length->ds.length - i < k->Pv i δ st->Ws (gh (.fix ds) t b k i δ st) N B C R:=by
  intro k
  induction k with
  | zero=>intro i δ st _ h;exact absurd h (Nat.not_lt_zero _)
  | succ k ih =>
   intro i δ st hi hk hw
   unfold Ws gh
   have e:Src.at (.fix ds) i st=some ds[i]?:=by show (if i<=ds.length then some ds[i]? else none)=_;rw [if_pos hi]
   rw [e]
   cases hd:ds[i]? with
   | none =>
    have:=List.getElem?_eq_none_iff.mp hd
    have e:i=ds.length:=by omega
    exact bB.mpr (fin δ st (e ▸ hw))
   | some d =>
    have hlt:=(List.getElem?_eq_some_iff.mp hd).1
    show Wp (bnd _ _) _
    rw [dk]
    refine aZ (step i d δ st hd hw) fun δ1 st1 q=>?_
    rw [dk]
    refine aZ q fun fl st2 q=>?_
    cases fl with
    | nx δ2=>exact ih (i + 1) δ2 st2 (by omega) (by omega) q
    | ct δ2=>exact ih (i + 1) δ2 st2 (by omega) (by omega) q
    | bk δ2=>exact bB.mpr q
    | rt d=>exact bB.mpr q
 exact key fuel 0 δ kX (Nat.zero_le _) (Nat.lt_trans (by omega) (show 100000 < fuel by decide)) h0
theorem JK {fi:aj->Dm Src} {t:D->aj->Dm aj} {b:aj->Dm Fl} (ds:List D) (r:Nat) (Pv:Nat->aj->Store->Prop) (hi:Wp (fi δ st) fun S st1=>S=.live r/\Pv 0 δ st1) (hl:ds.length < 100000) (hk:∀ i δ st,Pv i δ st->items st r=some ds)
  (step:∀ i d δ st,ds[i]?=some d->Pv i δ st->Wp (t d δ st) fun δ1 st1=>Ws (b δ1 st1) (Pv (i + 1)) N (Pv (i + 1)) R) (fin:∀ δ st,Pv ds.length δ st->N δ st):Ws (dG fi t b δ st) N B C R:=by
 unfold Ws dG
 rw [dk]
 refine aZ hi fun S kX q=>?_
 obtain ⟨rfl,h0⟩:=q
 have key:∀ (k i:Nat) (δ:aj) (st:Store),i<=ds.length->ds.length - i < k->Pv i δ st->Ws (gh (.live r) t b k i δ st) N B C R:=by
  intro k
  induction k with
  | zero=>intro i δ st _ h;exact absurd h (Nat.not_lt_zero _)
  | succ k ih =>
   intro i δ st hi hk' hw
   unfold Ws gh
   have e:Src.at (.live r) i st=some ds[i]?:=by show (items st r).map _=_;rw [hk i δ st hw];rfl
   rw [e]
   cases hd:ds[i]? with
   | none =>
    have:=List.getElem?_eq_none_iff.mp hd
    have e:i=ds.length:=by omega
    exact bB.mpr (fin δ st (e ▸ hw))
   | some d =>
    have hlt:=(List.getElem?_eq_some_iff.mp hd).1
    show Wp (bnd _ _) _
    rw [dk]
    refine aZ (step i d δ st hd hw) fun δ1 st1 q=>?_
    rw [dk]
    refine aZ q fun fl st2 q=>?_
    cases fl with
    | nx δ2=>exact ih (i + 1) δ2 st2 (by omega) (by omega) q
    | ct δ2=>exact ih (i + 1) δ2 st2 (by omega) (by omega) q
    | bk δ2=>exact bB.mpr q
    | rt d=>exact bB.mpr q
 exact key fuel 0 δ kX (Nat.zero_le _) (Nat.lt_trans (by omega) (show 100000 < fuel by decide)) h0
theorem F5 {fi:aj->Dm Src} {n:Nat} {js:List Nat} {t:D->aj->Dm aj} {c:aj->Dm Bool} {f:aj->Dm D} {Q:D->Store->Prop} (ds:List D) (Pv:Nat->List D->aj->Store->Prop)
  (hi:Wp (fi δ st) fun S st1=>(∀ i ys δ st,i<=ds.length->Pv i ys δ st->S.at i st=some ds[i]?)/\Pv 0 [] (nM n js δ) st1) (hl:ds.length < 100000) (hy:∀ i ys δ st,Pv i ys δ st->ys.length<=i)
  (step:∀ i d ys δ st,ds[i]?=some d->Pv i ys δ st->Wp (t d δ st) fun δ1 st1=>Wp (c δ1 st1) fun b st2=>(b=true->Wp (f δ1 st2) fun y st3=>Pv (i + 1) (ys ++ [y]) δ1 st3)/\(b=false->Pv (i + 1) ys δ1 st2))
  (fin:∀ ys δ st,Pv ds.length ys δ st->Q (.ref st.length) (st ++ [.lst ys])):Wp (ef fi n js t c f δ st) Q:=by
 unfold ef
 rw [dk]
 refine aZ hi fun S kX q=>?_
 obtain ⟨hS,h0⟩:=q
 have key:∀ (k i:Nat) (ys:List D) (δ:aj) (st:Store),i<=ds.length->ds.length - i < k->Pv i ys δ st->Wp (gP S t c f k i ys δ st) fun zs nA=>∃ δ9,Pv ds.length zs δ9 nA:=by
  intro k
  induction k with
  | zero=>intro i ys δ st _ h;exact absurd h (Nat.not_lt_zero _)
  | succ k ih =>
   intro i ys δ st hi hk' hw
   unfold gP
   have hlim:lim ys.length=true:=Nat.ble_eq_true_of_le (by have:=hy i ys δ st hw;omega)
   rw [if_pos hlim,hS i ys δ st hi hw]
   cases hd:ds[i]? with
   | none =>
    have:=List.getElem?_eq_none_iff.mp hd
    have e:i=ds.length:=by omega
    exact bB.mpr ⟨δ,e ▸ hw⟩
   | some d =>
    have hlt:=(List.getElem?_eq_some_iff.mp hd).1
    show Wp (bnd _ _) _
    rw [dk]
    refine aZ (step i d ys δ st hd hw) fun δ1 st1 q=>?_
    rw [dk]
    refine aZ q fun b st2 q=>?_
    cases b with
    | true =>
     rw [if_pos rfl,dk]
     exact aZ (q.1 rfl) fun y st3 q=>ih (i + 1) _ δ1 st3 (by omega) (by omega) q
    | false =>
     rw [if_neg Bool.false_ne_true]
     exact ih (i + 1) ys δ1 st2 (by omega) (by omega) (q.2 rfl)
 rw [dk]
 exact aZ (key fuel 0 [] _ kX (Nat.zero_le _) (Nat.lt_trans (by omega) (show 100000 < fuel by decide)) h0) fun zs nA ⟨δ9,q⟩=>bB.mpr (fin zs δ9 nA q)
end
end L4
namespace L4
open PySem PySem.Spec L2
def keyOf:D->Option Key
 | .int i=>some (.inl i)
 | .str x=>some (.inr x)
 | _=>none
def iW (st:Store):D->Option (List (Key×D))
 | .ref i=>match st[i]? with
  | some (.dct kvs)=>some kvs
  | _=>none
 | _=>none
def dE (kvs:List (Key×D)) (k:Key):Option D:=(kvs.find? fun kv=>decide (kv.1=k)).map (·.2)
def putD (kvs:List (Key×D)) (k:Key) (v:D):List (Key×D) :=
 if (kvs.any fun kv=>decide (kv.1=k))=true then kvs.map (fun kv=>if kv.1=k then (kv.1,v) else kv) else kvs ++ [(k,v)]
section
variable {K:PySem.W.Frag} {ρ:List Addr} {H:Hp} {st:Store}
theorem xi {x:V} {y:D} {k:Key} (r:Rp K ρ H x y) (h:keyOf y=some k):x=kV k:=by
 cases r <;> first | (cases h;rfl) | cases h
theorem JL {x:V} {a:D} {kvs:List (Key×D)} (l:Rl K ρ H st) (r:Rp K ρ H x a) (h:iW st a=some kvs):∃ p i ws,x=.ref p/\a=.ref i/\ρ[i]?=some p/\st[i]?=some (.dct kvs)/\H p=some (.dK ws)/\Rk K ρ H ws kvs:=by
 cases r <;> first | (cases h;done) | skip
 next hi =>
  simp only [iW] at h
  split at h
  ·next kvs' hs =>
   cases h
   obtain ⟨ws,e,r⟩:=l.obj _ _ _ hi hs
   exact ⟨_,_,ws,rfl,rfl,hi,hs,e,r⟩
  ·cases h
theorem Rk.val {ws:List (Key×V)} {kvs:List (Key×D)} (r:Rk K ρ H ws kvs) (k:Key):(∀ d,dE kvs k=some d->∃ v,jK ws k=some v/\Rp K ρ H v d)/\(jK ws k).isSome=(dE kvs k).isSome:=by
 induction r with
 | nil=>exact ⟨fun d h=>(by cases h),rfl⟩
 | @cons p q ps qs h t ih =>
  obtain ⟨h1,h2⟩:=h
  unfold dE jK at ih ⊢
  rw [List.find?_cons,List.find?_cons]
  by_cases e:p.1=k
  ·rw [decide_eq_true e,decide_eq_true (h1 ▸ e)]
   exact ⟨fun d hd=>by cases hd;exact ⟨_,rfl,h2⟩,rfl⟩
  ·rw [decide_eq_false e,decide_eq_false (h1 ▸ e)]
   exact ih
theorem Rk.app {ws JM:List (Key×V)} {kvs kvs':List (Key×D)} (r:Rk K ρ H ws kvs) (r':Rk K ρ H JM kvs'):Rk K ρ H (ws ++ JM) (kvs ++ kvs'):=by
 induction r with
 | nil=>exact r'
 | cons h _ ih=>exact .cons h ih
theorem Rk.put {ws:List (Key×V)} {kvs:List (Key×D)} {v:V} {d:D} (r:Rk K ρ H ws kvs) (k:Key) (rv:Rp K ρ H v d):Rk K ρ H (putK ws k v) (putD kvs k d):=by
 have hany:(ws.any fun kv=>decide (kv.1=k))=(kvs.any fun kv=>decide (kv.1=k)):=by
  induction r with
  | nil=>rfl
  | cons h _ ih=>rw [List.any_cons,List.any_cons,ih,h.1]
 have hmap:Rk K ρ H (ws.map fun kv=>if kv.1=k then (kv.1,v) else kv) (kvs.map fun kv=>if kv.1=k then (kv.1,d) else kv):=by
  clear hany
  induction r with
  | nil=>exact .nil
  | @cons p q ps qs h _ ih =>
   refine .cons ?_ ih
   dsimp only
   by_cases e:p.1=k
   ·rw [if_pos e,if_pos (h.1 ▸ e)];exact ⟨h.1,rv⟩
   ·rw [if_neg e,if_neg (h.1 ▸ e)];exact h
 unfold putK putD
 rw [hany]
 split
 ·exact hmap
 ·exact r.app (.cons ⟨rfl,rv⟩ .nil)
theorem Rk.length {ws:List (Key×V)} {kvs:List (Key×D)} (r:Rk K ρ H ws kvs):ws.length=kvs.length:=by
 induction r with
 | nil=>rfl
 | cons _ _ ih=>rw [List.length_cons,List.length_cons,ih]
end
section
variable {K:PySem.W.Frag}
def qk:aj->Dm D:=fun _ st=>some (.ref st.length,st ++ [.dct []])
theorem NW:gx K pS qk:=by
 intro ρ σ H δ st b st' Q l rs e q
 cases e
 exact fun p hp=>q _ _ _ (Mn.new hp) (l.newD hp .nil) (.ref (newR l))
def tH (fd fy:aj->Dm D):aj->Dm D:=fun δ st=>bnd (fd δ st) fun x st1=>bnd (fy δ st1) fun y st2=>match iW st2 x,keyOf y with
 | some kvs,some k=>match dE kvs k with
  | some v=>some (v,st2)
  | none=>none
 | _,_=>none
def rL (neg:Bool) (fy fd:aj->Dm D):aj->Dm D:=fun δ st=>bnd (fy δ st) fun y st1=>bnd (fd δ st1) fun x st2=>match iW st2 x,keyOf y with
 | some kvs,some k=>some (.bl (if neg then !(dE kvs k).isSome else (dE kvs k).isSome),st2)
 | _,_=>none
theorem NX {td ty:TE} {fd fy:aj->Dm D} (hy:gx K ty fy) (hd:gx K td fd):gx K (oo ty td) (rL true fy fd):=by
 intro ρ σ H δ st b st' Q l rs e q
 obtain ⟨y,st1,e1,e⟩:=dY e
 obtain ⟨x,st2,e2,e⟩:=dY e
 refine hy ρ σ H δ st y st1 _ l rs e1 fun vy H1 ρ1 m1 l1 r1=>hd ρ1 σ H1 δ st1 x st2 _ l1 (rs.mn m1) e2 fun vx H2 ρ2 m2 l2 r2=>?_
 split at e
 ·next kvs k hx hk =>
  cases e
  obtain ⟨p,i,ws,rfl,rfl,hi,hs,hp,rk⟩:=JL l2 r2 hx
  refine ⟨p,jK ws k,rfl,by rw [xi r1 hk];exact pQ.k hp,q _ H2 ρ2 (m1.trans m2) l2 ?_⟩
  rw [(rk.val k).2]
  exact .bl _
 ·cases e
def oH (fd fy fv:aj->Dm D):aj->Dm Fl:=fun δ st=>bnd (fv δ st) fun v st1=>bnd (fd δ st1) fun x st2=>bnd (fy δ st2) fun y st3=>match x,iW st3 x,keyOf y with
 | .ref i,some kvs,some k=>if lim kvs.length=true then some (.nx δ,st3.set i (.dct (putD kvs k v))) else none
 | _,_,_=>none
theorem NY {td ty tv:TE} {fd fy fv:aj->Dm D} (hd:gx K td fd) (hy:gx K ty fy) (hv:gx K tv fv):nz K (sC td ty tv) (oH fd fy fv):=by
 intro ρ σ H δ st fl st' E l rs e q
 obtain ⟨v,st1,e1,e⟩:=dY e
 obtain ⟨x,st2,e2,e⟩:=dY e
 obtain ⟨y,st3,e3,e⟩:=dY e
 refine hv ρ σ H δ st v st1 _ l rs e1 fun vv H1 ρ1 m1 l1 r1=>hd ρ1 σ H1 δ st1 x st2 _ l1 (rs.mn m1) e2 fun vx H2 ρ2 m2 l2 r2=>hy ρ2 σ H2 δ st2 y st3 _ l2 (rs.mn (m1.trans m2)) e3 fun vy H3 ρ3 m3 l3 r3=>?_
 obtain ⟨i,rfl⟩:∃ i,x=.ref i:=by
  cases x <;> first | exact ⟨_,rfl⟩ | (simp at e;done) | cases e
 cases hx:iW st3 (.ref i) with
 | none=>rw [hx] at e;cases e
 | some kvs =>
 cases hk:keyOf y with
 | none=>rw [hx,hk] at e;cases e
 | some k =>
  rw [hx,hk] at e
  simp only at e
  split at e
  ·next hl =>
   cases e
   obtain ⟨p,j,ws,rfl,ej,hi,hs,hp,rk⟩:=JL l3 (r2.mn m3) hx
   cases ej
   obtain ⟨l4,m4⟩:=l3.u6 hi hs (rk.put k (r1.mn (m2.trans m3)))
   have mm:=((m1.trans m2).trans m3).trans m4
   refine ⟨p,_,rfl,?_,q σ _ ρ3 mm l4 (rs.mn mm)⟩
   rw [xi r3 hk]
   exact pR.k hp (by rw [rk.length];exact FL hl)
  ·cases e
def zZ:aj->Dm (List (D×D)):=fun _ st=>some ([],st)
def ql (fk fv:aj->Dm D) (fr:aj->Dm (List (D×D))):aj->Dm (List (D×D)):=fun δ st=>bnd (fk δ st) fun k st1=>bnd (fv δ st1) fun v st2=>bnd (fr δ st2) fun r st3=>some ((k,v) :: r,st3)
def keysOf:List (D×D)->Option (List (Key×D))
 | []=>some []
 | (k,v) :: r=>match keyOf k,keysOf r with
  | some k',some r'=>some ((k',v) :: r')
  | _,_=>none
def qm (kvs more:List (Key×D)):List (Key×D):=more.foldl (fun acc kv=>putD acc kv.1 kv.2) kvs
def tI (fp:aj->Dm (List (D×D))):aj->Dm D:=fun δ st=>bnd (fp δ (st ++ [.dct []])) fun ps st2=>match st2[st.length]?,keysOf ps with
 | some (.dct []),some kvs=>if kvs.length<=15 then some (.ref st.length,st2.set st.length (.dct (qm [] kvs))) else none
 | _,_=>none
end
section
variable {st:Store} {δ:aj} {Q:D->Store->Prop}
theorem NZ:Wp (qk δ st) Q↔Q (.ref st.length) (st ++ [.dct []]):=bB
theorem N0 {fd fy:aj->Dm D}:Wp (tH fd fy δ st) Q↔Wp (fd δ st) fun x st1=>Wp (fy δ st1) fun y st2=>∃ kvs k v,iW st2 x=some kvs/\keyOf y=some k/\dE kvs k=some v/\Q v st2:=by
 unfold tH;rw [dk];simp only [dk]
 constructor <;> refine fun h=>aZ h fun x s h=>aZ h fun y s2 h=>?_
 ·split at h
  ·next kvs k h1 h2 =>
   split at h
   ·next v h3=>exact ⟨kvs,k,v,by assumption,by assumption,h3,bB.mp h⟩
   ·exact (fO.mp h).elim
  ·exact (fO.mp h).elim
 ·obtain ⟨kvs,k,v,h1,h2,h3,h⟩:=h
  rw [h1,h2]
  simp only [h3]
  exact bB.mpr h
theorem vV {neg:Bool} {fd fy:aj->Dm D}:Wp (rL neg fy fd δ st) Q↔Wp (fy δ st) fun y st1=>Wp (fd δ st1) fun x st2=>∃ kvs k,iW st2 x=some kvs/\keyOf y=some k/\Q (.bl (if neg then !(dE kvs k).isSome else (dE kvs k).isSome)) st2:=by
 unfold rL;rw [dk];simp only [dk]
 constructor <;> refine fun h=>aZ h fun x s h=>aZ h fun y s2 h=>?_
 ·split at h
  ·next kvs k h1 h2=>exact ⟨kvs,k,by assumption,by assumption,bB.mp h⟩
  ·exact (fO.mp h).elim
 ·obtain ⟨kvs,k,h1,h2,h⟩:=h
  rw [h1,h2]
  exact bB.mpr h
theorem N1 {R:List (D×D)->Store->Prop}:Wp (zZ δ st) R↔R [] st:=bB
theorem N2 {fk fv:aj->Dm D} {fr:aj->Dm (List (D×D))} {R:List (D×D)->Store->Prop}:Wp (ql fk fv fr δ st) R↔Wp (fk δ st) fun k st1=>Wp (fv δ st1) fun v st2=>Wp (fr δ st2) fun r st3=>R ((k,v) :: r) st3:=by
 unfold ql;rw [dk];simp only [dk,bB]
theorem N3 {fp:aj->Dm (List (D×D))}:Wp (tI fp δ st) Q↔Wp (fp δ (st ++ [.dct []])) fun ps st2=>st2[st.length]?=some (.dct [])/\∃ kvs,keysOf ps=some kvs/\kvs.length<=15/\Q (.ref st.length) (st2.set st.length (.dct (qm [] kvs))):=by
 unfold tI;rw [dk]
 constructor <;> refine fun h=>aZ h fun ps s h=>?_
 ·split at h
  ·next kvs h1 h2 =>
   rw [mU,bB,fO] at h
   split at h
   ·next hl=>exact ⟨by assumption,kvs,by assumption,hl,h⟩
   ·exact h.elim
  ·exact (fO.mp h).elim
 ·obtain ⟨h1,kvs,h2,h3,h⟩:=h
  rw [h1,h2]
  simp only [if_pos h3]
  exact bB.mpr h
theorem N4 {fd fy fv:aj->Dm D} {N B C:aj->Store->Prop} {R:D->Store->Prop} (h:Wp (fv δ st) fun v st1=>Wp (fd δ st1) fun x st2=>Wp (fy δ st2) fun y st3=>∃ i kvs k,x=.ref i/\iW st3 x=some kvs/\keyOf y=some k/\lim kvs.length=true/\N δ (st3.set i (.dct (putD kvs k v)))):Ws (oH fd fy fv δ st) N B C R:=by
 unfold Ws oH
 rw [dk]
 refine aZ h fun v st1 h=>?_
 rw [dk]
 refine aZ h fun x st2 h=>?_
 rw [dk]
 refine aZ h fun y st3 h=>?_
 obtain ⟨i,kvs,k,rfl,h1,h2,h3,h⟩:=h
 rw [h1,h2]
 simp only [h3]
 exact bB.mpr h
end
end L4
namespace L4
open PySem PySem.Spec L2
structure Ex (c:List Nat) (st st':Store):Prop where
 len:st.length<=st'.length
 keep:∀ (i:Nat) (o:O),st[i]?=some o->i ∉ c->st'[i]?=some o
section
variable {c c':List Nat} {st st1 st2:Store} {i:Nat} {o:O} {ds:List D}
theorem Ex.refl:Ex c st st:=⟨Nat.le_refl _,fun _ _ h _=>h⟩
theorem Ex.trans (a:Ex c st st1) (b:Ex c st1 st2):Ex c st st2:=⟨Nat.le_trans a.len b.len,fun i o h n=>b.keep i o (a.keep i o h n) n⟩
theorem Ex.mono (a:Ex c st st1) (h:∀ x∈c,x∈c'):Ex c' st st1:=⟨a.len,fun i o e n=>a.keep i o e fun z=>n (h i z)⟩
theorem Ex.any (a:Ex [] st st1):Ex c st st1:=a.mono fun x h=>nomatch h
theorem iX {α:Type} {l:List α} {i:Nat} {o:α} (h:l[i]?=some o):i < l.length:=(List.getElem?_eq_some_iff.mp h).1
theorem nB {l m:List O} (h:l[i]?=some o):(l ++ m)[i]?=some o:=by rw [List.getElem?_append_left (iX h)];exact h
theorem ko {l:List O}:(l ++ [o])[l.length]?=some o:=by rw [List.getElem?_append_right (Nat.le_refl _),Nat.sub_self];rfl
theorem Ex.app (a:Ex c st st1) (m:List O):Ex c st (st1 ++ m):=⟨by rw [List.length_append];exact Nat.le_trans a.len (Nat.le_add_right _ _),fun i o h n=>nB (a.keep i o h n)⟩
theorem Ex.cf (m:List O):Ex c st (st ++ m):=Ex.refl.app m
theorem Ex.put (a:Ex c st st1) (h:i∈c):Ex c st (st1.set i o):=⟨by rw [List.length_set];exact a.len,fun j u e n=>by rw [List.getElem?_set_ne (fun z=>n (by rw [<- z];exact h))];exact a.keep j u e n⟩
theorem Ex.loc (a:Ex c st st1) (h:st.length<=i):Ex c st (st1.set i o):=⟨by rw [List.length_set];exact a.len,fun j u e n=>by rw [List.getElem?_set_ne (by have:=iX e;omega)];exact a.keep j u e n⟩
theorem ek (h:st[i]?=some (.lst ds)):items st i=some ds:=by unfold items;rw [h]
theorem JN (h:st[i]?=some (.oB ds)):items st i=some ds:=by unfold items;rw [h]
theorem mr (h:st[i]?=some (.lst ds)):own st i=some ds:=by unfold own;rw [h]
theorem z9:items (st ++ [.lst ds]) st.length=some ds:=ek ko
theorem N5:own (st ++ [.lst ds]) st.length=some ds:=mr ko
theorem N6 {o':O}:items (st ++ [.lst ds] ++ [o']) st.length=some ds:=ek (nB ko)
theorem N7 {o':O}:own (st ++ [.lst ds] ++ [o']) st.length=some ds:=mr (nB ko)
theorem N8 {o' o2:O}:items (st ++ [.lst ds] ++ [o'] ++ [o2]) st.length=some ds:=ek (nB (nB ko))
theorem N9 {o' o2:O}:own (st ++ [.lst ds] ++ [o'] ++ [o2]) st.length=some ds:=mr (nB (nB ko))
theorem Oa {lo hi:Int}:iB (st ++ [.iJ lo hi]) (.ref st.length)=some (lo,hi):=by simp only [iB,ko]
theorem Ob:dc st (.tup ds)=some ds:=rfl
theorem Oc:dc st (.ref i)=items st i:=rfl
theorem qK (h:(items st i).isSome=true):sY "list" st (.ref i)=true:=by simp only [sY,h];rfl
theorem JO:sY "tuple" st (.tup ds)=true:=by simp only [sY];rfl
theorem kH {n:Nat} (h:n<=100000):lim n=true:=Nat.ble_eq_true_of_le h
end
section
variable {st:Store} {Q:D->Store->Prop} {i j:Int} {k:Nat} {ds es:List D}
theorem Oe {a:D}:Wp (dF [a] st) Q↔∃ p,iB st a=some p/\o5 p.1 p.2=true/\Q (.ref st.length) (st ++ [.lst (aH p.1 (p.2 - p.1).toNat)]):=by
 show Wp (match iB st a with | some (lo,hi)=>if o5 lo hi=true then some (D.ref st.length,st ++ [O.lst (aH lo (hi - lo).toNat)]) else none | none=>none) Q↔_
 cases iB st a with
 | none=>rw [fO];exact ⟨False.elim,fun ⟨_,e,_⟩=>by cases e⟩
 | some p =>
  obtain ⟨lo,hi⟩:=p
  show Wp (if o5 lo hi=true then some (D.ref st.length,st ++ [O.lst (aH lo (hi - lo).toNat)]) else none) Q↔_
  rw [mU,bB,fO]
  split
  ·next h=>exact ⟨fun q=>⟨_,rfl,h,q⟩,fun ⟨_,e,_,q⟩=>by cases e;exact q⟩
  ·next h=>exact ⟨False.elim,fun ⟨_,e,q,_⟩=>by cases e;exact h q⟩
theorem Og {a:D}:Wp (rH [a] st) Q↔∃ p,iB st a=some p/\o5 p.1 p.2=true/\Q (.tup (aH p.1 (p.2 - p.1).toNat)) st:=by
 show Wp (match iB st a with | some (lo,hi)=>if o5 lo hi=true then some (D.tup (aH lo (hi - lo).toNat),st) else none | none=>none) Q↔_
 cases iB st a with
 | none=>rw [fO];exact ⟨False.elim,fun ⟨_,e,_⟩=>by cases e⟩
 | some p =>
  obtain ⟨lo,hi⟩:=p
  show Wp (if o5 lo hi=true then some (D.tup (aH lo (hi - lo).toNat),st) else none) Q↔_
  rw [mU,bB,fO]
  split
  ·next h=>exact ⟨fun q=>⟨_,rfl,h,q⟩,fun ⟨_,e,_,q⟩=>by cases e;exact q⟩
  ·next h=>exact ⟨False.elim,fun ⟨_,e,q,_⟩=>by cases e;exact h q⟩
theorem vW:Wp (qe (.ref k) (.int j) st) Q↔∃ xs,own st k=some xs/\(-9223372036854775808<=j/\j < 9223372036854775808)/\lim (xs.length * j.toNat)=true/\Q (.ref st.length) (st ++ [.lst (List.replicate j.toNat xs).flatten]):=by
 show Wp (match own st k with | some a=>if (decide (-9223372036854775808<=j/\j < 9223372036854775808) && lim (a.length * j.toNat))=true then some (D.ref st.length,st ++ [O.lst (List.replicate j.toNat a).flatten]) else none | _=>none) Q↔_
 cases own st k with
 | none=>simp only [fO];exact ⟨False.elim,fun ⟨_,e,_⟩=>by cases e⟩
 | some xs =>
  show Wp (if (decide (-9223372036854775808<=j/\j < 9223372036854775808) && lim (xs.length * j.toNat))=true then some (D.ref st.length,st ++ [O.lst (List.replicate j.toNat xs).flatten]) else none) Q↔_
  rw [mU,bB,fO]
  split
  ·next h=>rw [Bool.and_eq_true,decide_eq_true_eq] at h;exact ⟨fun q=>⟨_,rfl,h.1,h.2,q⟩,fun ⟨_,e,_,_,q⟩=>by cases e;exact q⟩
  ·next h=>rw [Bool.and_eq_true,decide_eq_true_eq] at h;exact ⟨False.elim,fun ⟨_,e,q,q',_⟩=>by cases e;exact h ⟨q,q'⟩⟩
theorem Oh:Wp (kE (.ref k) [.int i] st) Q↔∃ xs j y,own st k=some xs/\(-9223372036854775808<=i/\i < 9223372036854775808)/\seqIndex? i xs.length=some j/\xs[j]?=some y/\Q y (st.set k (.lst (xs.eraseIdx j))):=by
 constructor
 ·rintro ⟨a,s,e,q⟩
  simp only [kE] at e
  split at e
  ·next xs hx =>
   split at e
   ·next hk =>
    split at e
    ·next j hj =>
     split at e
     ·next y hy=>cases e;exact ⟨xs,j,_,hx,of_decide_eq_true hk,hj,hy,q⟩
     ·cases e
    ·cases e
   ·cases e
  ·cases e
 ·rintro ⟨xs,j,y,hx,hk,hj,hy,q⟩
  refine ⟨_,_,?_,q⟩
  simp only [kE,hx,hj,hy,decide_eq_true hk]
  rfl
theorem Oi {b:Nat}:Wp (mS (.ref k) [.ref b] st) Q↔∃ xs ys,own st k=some xs/\own st b=some ys/\lim (xs.length + ys.length)=true/\Q .non (st.set k (.lst (xs ++ ys))):=by
 constructor
 ·rintro ⟨a,s,e,q⟩
  simp only [mS] at e
  split at e
  ·next xs ys hx hy =>
   split at e
   ·next hl=>cases e;exact ⟨xs,ys,hx,hy,hl,q⟩
   ·cases e
  ·cases e
 ·rintro ⟨xs,ys,hx,hy,hl,q⟩
  refine ⟨_,_,?_,q⟩
  simp only [mS,hx,hy,hl]
  rfl
theorem JP {v:Int}:Wp (iS (.tup ds) [.int v] st) Q↔∃ ns j,cP iV ds=some ns/\ns.findIdx? (fun i=>decide (i=v))=some j/\Q (.int (j:Int)) st:=by
 constructor
 ·rintro ⟨a,s,e,q⟩
  simp only [iS] at e
  split at e
  ·next ns hn =>
   split at e
   ·next j hj=>cases e;exact ⟨ns,j,hn,hj,q⟩
   ·cases e
  ·cases e
 ·rintro ⟨ns,j,hn,hj,q⟩
  refine ⟨_,_,?_,q⟩
  simp only [iS,hn,hj]
theorem Oj {v:Int} {ns:List Int} (h:items st k=some (ns.map D.int)) (hv:v∈ns) (hl:ns.length<=1000) (hb:∀ i∈ns,-1000000000000000000<=i/\i<=1000000000000000000):Wp (jk (.ref k) [.int v] st) Q↔Q (.int (ns.idxOf v:Int)) st:=by
 have e:cP iV (ns.map D.int)=some ns:=by
  have:=sX (f:=iV) (g:=D.int) (k:=id) (fun _=>rfl) ns
  rw [this,List.map_id]
 have e2:jk (.ref k) [.int v] st=some (.int (ns.idxOf v:Int),st):=by
  simp only [jk,h,Option.bind_some,e]
  rw [if_pos ⟨hv,hl,hb⟩]
 rw [e2,bB]
theorem vX:Wp (vk [.ref k] st) Q↔∃ ds bs,items st k=some ds/\cP bV ds=some bs/\Q (.bl (bs.all id)) st:=by
 constructor
 ·rintro ⟨a,s,e,q⟩
  simp only [vk] at e
  split at e
  ·next bs hb =>
   cases e
   obtain ⟨ds,h1,h2⟩:=Option.bind_eq_some_iff.mp hb
   exact ⟨ds,bs,h1,h2,q⟩
  ·cases e
 ·rintro ⟨ds,bs,h1,h2,q⟩
  refine ⟨_,_,?_,q⟩
  simp only [vk,h1,Option.bind_some,h2]
theorem Aa {neg:Bool} {a c:D}:Wp (pA neg a c st) Q↔∃ x ds vs,sV a=some x/\dc st c=some ds/\cP sV ds=some vs/\Q (.bl (if neg then !su x vs else su x vs)) st:=by
 constructor
 ·rintro ⟨b,s,e,q⟩
  simp only [pA] at e
  split at e
  ·next x vs h1 h2 =>
   cases e
   obtain ⟨ds,h3,h4⟩:=Option.bind_eq_some_iff.mp h2
   exact ⟨x,ds,vs,h1,h3,h4,q⟩
  ·cases e
 ·rintro ⟨x,ds,vs,h1,h2,h3,q⟩
  refine ⟨_,_,?_,q⟩
  simp only [pA,h1,h2,Option.bind_some,h3]
theorem JQ (ns:List Int):cP sV (ns.map D.int)=some (ns.map V.int):=sX (f:=sV) (g:=D.int) (k:=V.int) (fun _=>rfl) ns
theorem JR (ns:List Int):cP iV (ns.map D.int)=some ns:=by
 have:=sX (f:=iV) (g:=D.int) (k:=id) (fun _=>rfl) ns
 rw [this,List.map_id]
theorem F6 {neg:Bool} {a b:D}:Wp (iI neg a b st) Q↔∃ p q,gI st 20 a=some p/\gI st 20 b=some q/\(PyData.canLay0 p=true/\PyData.canLay0 q=true/\min p.depth q.depth<=60)/\Q (.bl (if neg then !PyData.eqv p q else PyData.eqv p q)) st:=by
 constructor
 ·rintro ⟨c,s,e,q⟩
  simp only [iI] at e
  split at e
  ·next x y h1 h2 =>
   split at e
   ·next hs =>
    cases e
    rw [Bool.and_eq_true,Bool.and_eq_true,decide_eq_true_eq] at hs
    exact ⟨x,y,h1,h2,⟨hs.1.1,hs.1.2,hs.2⟩,q⟩
   ·cases e
  ·cases e
 ·rintro ⟨x,y,h1,h2,⟨h3,h4,h5⟩,q⟩
  refine ⟨_,_,?_,q⟩
  simp only [iI,h1,h2,h3,h4,decide_eq_true h5]
  rfl
theorem vY {z:Str}:Wp (va (.str z) (.int i) st) Q↔∃ c,lim z.length=true/\iA z.cps.toList i=some c/\Q (.str ⟨#[c]⟩) st:=by
 constructor
 ·rintro ⟨c,s,e,q⟩
  simp only [va] at e
  split at e
  ·next h1 =>
   split at e
   ·next c hc=>cases e;exact ⟨c,h1,hc,q⟩
   ·cases e
  ·cases e
 ·rintro ⟨c,h1,h2,q⟩
  refine ⟨_,_,?_,q⟩
  simp only [va,h1,h2]
  rfl
theorem Ol {δ:aj} {fa:aj->Dm (List D)} {R:Src->Store->Prop}:Wp (b9 fa δ st) R↔Wp (fa δ st) fun as st1=>∃ j,as=[.int j]/\(-4611686018427387904<=j/\j < 4611686018427387904)/\R (.fix (aH 0 j.toNat)) st1:=by
 unfold b9;rw [dk]
 constructor <;> refine fun h=>aZ h fun as s h=>?_
 ·split at h
  ·next j =>
   rw [mU,bB,fO] at h
   split at h
   ·next hk=>exact ⟨j,rfl,of_decide_eq_true hk,h⟩
   ·exact h.elim
  ·exact (fO.mp h).elim
 ·obtain ⟨j,rfl,h1,h⟩:=h
  simp only [decide_eq_true h1,if_true]
  exact bB.mpr h
theorem Om {δ:aj} {fa:aj->Dm (List D)} {R:Src->Store->Prop}:Wp (qf fa δ st) R↔Wp (fa δ st) fun as st1=>∃ i j,as=[.int i,.int j]/\((-4611686018427387904<=i/\i < 4611686018427387904)/\-4611686018427387904<=j/\j < 4611686018427387904)/\R (.fix (aH i (j - i).toNat)) st1:=by
 unfold qf;rw [dk]
 constructor <;> refine fun h=>aZ h fun as s h=>?_
 ·split at h
  ·next i j =>
   rw [mU,bB,fO] at h
   split at h
   ·next hk=>exact ⟨i,j,rfl,of_decide_eq_true hk,h⟩
   ·exact h.elim
  ·exact (fO.mp h).elim
 ·obtain ⟨i,j,rfl,h1,h⟩:=h
  simp only [decide_eq_true h1,if_true]
  exact bB.mpr h
theorem Oo {δ:aj} {fa:aj->Dm D} {R:Src->Store->Prop}:Wp (fz fa δ st) R↔Wp (fa δ st) fun a st1=>∃ ds,a=.tup ds/\R (.fix ds) st1:=by
 unfold fz;rw [dk]
 constructor <;> refine fun h=>aZ h fun a s h=>?_
 ·cases a <;> simp only [bB,fO] at h
  exact ⟨_,rfl,h⟩
 ·obtain ⟨j,rfl,h⟩:=h
  exact bB.mpr h
theorem Oq {δ:aj} {fa:aj->Dm D} {R:Src->Store->Prop}:Wp (kG fa δ st) R↔Wp (fa δ st) fun a st1=>∃ i ds,a=.ref i/\items st1 i=some ds/\R (.live i) st1:=by
 unfold kG;rw [dk]
 constructor <;> refine fun h=>aZ h fun a s h=>?_
 ·split at h
  ·split at h
   ·next i ds hd=>exact ⟨_,ds,rfl,hd,bB.mp h⟩
   ·exact (fO.mp h).elim
  ·exact (fO.mp h).elim
 ·obtain ⟨i,ds,rfl,hd,h⟩:=h
  simp only [hd]
  exact bB.mpr h
theorem Ot {δ:aj} {fa:aj->Dm (List D)} {R:Src->Store->Prop}:Wp (lM fa δ st) R↔Wp (fa δ st) fun as st1=>∃ ds,as=[.tup ds]/\R (.fix (kY ds)) st1:=by
 unfold lM;rw [dk]
 constructor <;> refine fun h=>aZ h fun as s h=>?_
 ·split at h
  ·exact ⟨_,rfl,bB.mp h⟩
  ·exact (fO.mp h).elim
 ·obtain ⟨ds,rfl,h⟩:=h
  exact bB.mpr h
theorem F7 {i:Nat} {d:D} {δ:aj} {R:aj->Store->Prop}:Wp (hName i d δ st) R↔R (δ.set i (some d)) st:=bB
theorem Ou {δ:aj} {R:aj->Store->Prop}:Wp (mq [] δ st) R↔R δ st:=bB
theorem Ov {f:D->aj->Dm aj} {g:List D->aj->Dm aj} {d:D} {ds:List D} {δ:aj} {R:aj->Store->Prop}:Wp (cY f g (d :: ds) δ st) R↔Wp (f d δ st) fun δ1 st1=>Wp (g ds δ1 st1) R:=dk
theorem Ow {n:Nat} {f:List D->aj->Dm aj} {ds:List D} {δ:aj} {R:aj->Store->Prop}:Wp (lL n f (.tup ds) δ st) R↔ds.length=n/\Wp (f ds δ st) R:=by
 show Wp (if ds.length=n then f ds δ st else none) R↔_
 rw [mU,fO]
 split
 ·next h=>exact ⟨fun q=>⟨h,q⟩,fun q=>q.2⟩
 ·next h=>exact ⟨False.elim,fun q=>h q.1⟩
theorem Ox {fo fi:aj->Dm D} {d:D} {δ:aj} {R:aj->Store->Prop}:Wp (hSub fo fi d δ st) R↔Wp (fo δ st) fun o st1=>Wp (fi δ st1) fun i st2=>∃ r k xs j,o=.ref r/\i=.int k/\own st2 r=some xs/\kU xs.length k=some j/\R δ (st2.set r (.lst (xs.set j d))):=by
 unfold hSub;rw [dk];simp only [dk]
 constructor <;> refine fun h=>aZ h fun o s h=>aZ h fun i s2 h=>?_
 ·split at h
  ·split at h
   ·next xs hx =>
    split at h
    ·next j hj=>exact ⟨_,_,xs,j,rfl,rfl,hx,hj,bB.mp h⟩
    ·exact (fO.mp h).elim
   ·exact (fO.mp h).elim
  ·exact (fO.mp h).elim
 ·obtain ⟨r,k,xs,j,rfl,rfl,hx,hj,h⟩:=h
  simp only [hx,hj]
  exact bB.mpr h
theorem Oy {a:D} {c:String}:Wp (mT [a,.ty c] st) Q↔zL st a=some c/\Q (.bl true) st:=by
 constructor
 ·rintro ⟨b,s,e,q⟩
  simp only [mT] at e
  split at e
  ·next T hT =>
   split at e
   ·next h=>cases e;subst h;exact ⟨hT,q⟩
   ·cases e
  ·cases e
 ·rintro ⟨h,q⟩
  refine ⟨_,_,?_,q⟩
  simp only [mT,h,if_true]
theorem F8 {δ:aj} {R:Bool->Store->Prop}:Wp (fA δ st) R↔R true st:=bB
end
theorem CO {α:Type} (x:α) (xs:List α):iA (x :: xs) 0=some x:=by
 unfold iA kU
 rw [if_pos (by decide),if_pos (by simp only [List.length_cons];omega)]
 rfl
theorem CP {α:Type} (x y:α) (xs:List α):iA (x :: y :: xs) 1=some y:=by
 unfold iA kU
 rw [if_pos (by decide),if_pos (by simp only [List.length_cons];omega)]
 rfl
theorem vZ {α:Type} {a:α} {l:List α}:(a :: l)[0]?=some a:=List.getElem?_cons_zero
theorem v7 {α:Type} {a:α} {l:List α} {i:Nat}:(a :: l)[i + 1]?=l[i]?:=List.getElem?_cons_succ
theorem v9 {α:Type} {a b:α} {l:List α}:(a :: l).set 0 b=b :: l:=List.set_cons_zero
theorem wa {α:Type} {a b:α} {l:List α} {i:Nat}:(a :: l).set (i + 1) b=a :: l.set i b:=List.set_cons_succ
theorem wb {α:Type} (a b:α):(some a=some b)=(a=b):=Option.some.injEq a b
theorem Ab {α:Type} {p:α->Prop} {a':α}:(∃ a,a'=a/\p a)↔p a':=exists_eq_left'
theorem F9 {α:Type} {p:α->Prop} {a':α}:(∃ a,a=a'/\p a)↔p a':=exists_eq_left
theorem Ac {α:Type} {p:α->Prop} {b:Prop}:(∃ x,b/\p x)↔b/\∃ x,p x:=exists_and_left
theorem Ad (a b:Int):(D.int a=D.int b)=(a=b):=D.int.injEq a b
theorem Ga (a b:Bool):(D.bl a=D.bl b)=(a=b):=D.bl.injEq a b
theorem Ae (a b:Str):(D.str a=D.str b)=(a=b):=D.str.injEq a b
theorem Af (a b:List D):(D.tup a=D.tup b)=(a=b):=D.tup.injEq a b
theorem Ag (a b:Nat):(D.ref a=D.ref b)=(a=b):=D.ref.injEq a b
theorem wc {α:Type} (a:α) (l:List α) (b:α) (m:List α):(a :: l=b :: m)=(a=b/\l=m):=List.cons.injEq a l b m
theorem wg {α β:Type} (a:α) (b:β) (c:α) (d:β):((a,b)=(c,d))=(a=c/\b=d):=Prod.mk.injEq a b c d
theorem wj (p:Prop):(p/\True)=p:=and_true p
theorem wk (p:Prop):(True/\p)=p:=true_and p
theorem wm:(!true)=false:=rfl
theorem wo:(!false)=true:=rfl
theorem Gb:(false=true)=False:=by simp
theorem Ah {α:Type} {h:Decidable False} (t e:α):@ite α False h t e=e:=if_false t e
theorem Ai {α:Type} {h:Decidable True} (t e:α):@ite α True h t e=t:=if_true t e
def cj:=And.intro @vw (And.intro @F3 (And.intro @zP (And.intro @zQ (And.intro @zR (And.intro @vz (And.intro @ND (And.intro @vA (And.intro @vB (And.intro @NF (And.intro @vC (And.intro @vD (And.intro @zS (And.intro @tD (And.intro @NG (And.intro @vE (And.intro @NH (And.intro @NI (And.intro @NJ (And.intro @zT (And.intro @zU (And.intro @vF (And.intro @vG (And.intro @zV (And.intro @zW (And.intro @zX (And.intro @zY (And.intro @vH (And.intro @vI (And.intro @NK (And.intro @vJ (And.intro @vK (And.intro @vL (And.intro @vN (And.intro @vO (And.intro @vP (And.intro @vQ (And.intro @vR (And.intro @NL (And.intro @vS (And.intro @vT (And.intro @NM (And.intro @NN (And.intro @NP (And.intro @NQ (And.intro @NR (And.intro @NS (And.intro @NT (And.intro @NU (And.intro @NV (And.intro @NZ (And.intro @N0 (And.intro @vV (And.intro @N1 (And.intro @N2 (And.intro @N3 (And.intro @z9 (And.intro @N5 (And.intro @N6 (And.intro @N7 (And.intro @N8 (And.intro @N9 (And.intro @Oa (And.intro @Ob (And.intro @Oc (And.intro @Oe (And.intro @Og (And.intro @vW (And.intro @Oh (And.intro @Oi (And.intro @JP (And.intro @vX (And.intro @vY (And.intro @Ol (And.intro @Om (And.intro @Oo (And.intro @Oq (And.intro @Ot (And.intro @F7 (And.intro @Ou (And.intro @Ov (And.intro @Ow (And.intro @Ox (And.intro @Oy (And.intro @F8 (And.intro @CO (And.intro @CP (And.intro @vZ (And.intro @v7 (And.intro @v9 (And.intro @wa (And.intro @wb (And.intro @Ab (And.intro @F9 (And.intro @Ac (And.intro @Ad (And.intro @Ga (And.intro @Ae (And.intro @Af (And.intro @Ag (And.intro @wc (And.intro @wg (And.intro @wj (And.intro @wk (And.intro @wm (And.intro @wo (And.intro @Gb (And.intro @Ah (@Ai))))))))))))))))))))))))))))))))))))))))))))))))))))))))))))))))))))))))))))))))))))))))))))))))))))))))))))
theorem cQ {α:Type} {m:Option (α×Store)} {Q:α->Store->Prop} (h:∀ Q':α->Store->Prop,(∀ a st,Q a st->Q' a st)->Wp m Q'):Wp m Q:=h Q fun _ _ h=>h
end L4
namespace L4
open PySem PySem.Spec L2
section
variable {X:Cx} {K:PySem.W.Frag}
theorem JS:∀ {ns:List Int},(∀ i∈ns,Fb i)->PyData.weightAll (bP ns)<=65 * ns.length
 | [],_=>by show PyData.weightAll []<=0;simp only [PyData.weightAll];exact Nat.le_refl _
 | n :: r,h=>by
  have ih:=JS (ns:=r) fun i hi=>h i (List.mem_cons_of_mem _ hi)
  have hn:=h n List.mem_cons_self
  have hw:(PyData.int n).weight<=64:=by
   simp only [PyData.weight]
   split
   ·omega
   ·have:n.natAbs < 2 ^ 63:=by unfold Fb at hn;omega
    have h2:n.natAbs.log2 < 63:=by
     by_cases h0:n.natAbs=0
     ·rw [h0];decide
     ·exact (Nat.log2_lt h0).mpr this
    omega
  show PyData.weightAll (PyData.int n :: bP r)<=65 * (r.length + 1)
  simp only [PyData.weightAll]
  omega
def mV (K:PySem.W.Frag):V->List V->Hp->VK->Prop:=fun x vs H Q=>∃ (a:Addr) (ns:List Int) (v:Int),x=.ref a/\vs=[.int v]/\jB K H a (ns.map V.int)/\v∈ns/\ns.length<=1000/\(∀ i∈ns,Fb i)/\Q (.int (ns.idxOf v:Int)) H
theorem Oz:xg X "list.index" (mV X.K):=by
 intro pins s σ H x xs v us Q I rx rv h
 obtain ⟨a,ns,y,rfl,rfl,hq,hm,hl,hb,q⟩:=h
 cases rx
 obtain ⟨u,rfl,t,rfl⟩:=vals1 rv
 obtain ⟨its,r,pl,hz⟩:=I.list hq
 exact PyProof.Rows.index_list_ints (vs:=its) pl.isList (Hz r) (by
  have hw:=JS hb
  have c1:(PyData.list (List.map PyData.int ns)).canLay0=true:=qY ns
  have c2:(PyData.list (List.map PyData.int ns)).depth<=64:=by show PyData.depthAll (bP ns) + 1<=64;rw [uH];omega
  have c3:(PyData.list (List.map PyData.int ns)).weight<=2 ^ 20:=by simp only [PyData.weight];exact Nat.le_trans hw (by omega)
  show (_ && _ && _)=true
  rw [c1,decide_eq_true c2,decide_eq_true c3];rfl) hm ⟨.int _,H,I.tok _,⟨_,rfl⟩,q⟩
theorem OA (hK:X.K=K):xg X "list.index" (mV K):=by subst hK;exact Oz
theorem OB:zA K "list" (mV K) jk:=by
 intro ρ H st x xs a as b st' Q l rx vn e q
 unfold jk at e
 split at e
 ·split at e
  ·next ns hn =>
   split at e
   ·next hm =>
    cases e
    obtain ⟨v,rfl,r⟩:=vn.one'
    cases r
    cases rx with
    | ref hi =>
     obtain ⟨ds,h1,h2⟩:=Option.bind_eq_some_iff.mp hn
     obtain ⟨vs,s,r⟩:=l.items hi h1
     cases FX r h2
     exact ⟨_,ns,_,rfl,rfl,s,hm.1,hm.2.1,hm.2.2,q _ H ρ .refl l (.int _)⟩
   ·cases e
  ·cases e
 ·cases e
end
section
variable {st:Store} {Q:D->Store->Prop}
theorem Gd (n:Nat) (L:List Int):cP (gI st (n + 1)) (L.map D.int)=some (bP L):=sX (f:=gI st (n + 1)) (g:=D.int) (k:=PyData.int) (fun _=>by simp only [gI]) L
theorem JT (a b:List PyData):PyData.eqv (.list a) (.list b)=PyData.eqvAll a b:=by simp only [PyData.eqv]
theorem Aj (a b:List PyData):PyData.eqv (.tuple a) (.tuple b)=PyData.eqvAll a b:=by simp only [PyData.eqv]
theorem JU {neg:Bool} {a b:Nat} {L M:List Int} (ha:items st a=some (L.map D.int)) (hb:items st b=some (M.map D.int)):Wp (iI neg (.ref a) (.ref b) st) Q↔Q (.bl (if neg then !decide (L=M) else decide (L=M))) st:=by
 have p1:∀ (i:Nat) (N:List Int),items st i=some (N.map D.int)->gI st 20 (.ref i)=some (.list (bP N)):=fun i N h=>by
  simp only [gI,h]
  rw [Gd];rfl
 have dp:∀ N:List Int,PyData.depth (.list (bP N))<=1:=fun N=>by show PyData.depthAll (bP N) + 1<=1;rw [uH];omega
 rw [F6]
 constructor
 ·rintro ⟨p,q,h1,h2,_,h⟩
  rw [p1 a L ha] at h1
  rw [p1 b M hb] at h2
  cases h1
  cases h2
  rw [JT,uI] at h
  exact h
 ·intro h
  refine ⟨_,_,p1 a L ha,p1 b M hb,⟨qY L,qY M,by have:=dp L;omega⟩,?_⟩
  rw [JT,uI]
  exact h
theorem OC {neg:Bool} {L M:List Int}:Wp (iI neg (.tup (L.map D.int)) (.tup (M.map D.int)) st) Q↔Q (.bl (if neg then !decide (L=M) else decide (L=M))) st:=by
 have p1:∀ (N:List Int),gI st 20 (.tup (N.map D.int))=some (.tuple (bP N)):=fun N=>by
  simp only [gI]
  rw [Gd];rfl
 have dp:∀ N:List Int,PyData.depth (.tuple (bP N))<=1:=fun N=>by show PyData.depthAll (bP N) + 1<=1;rw [uH];omega
 rw [F6]
 constructor
 ·rintro ⟨p,q,h1,h2,_,h⟩
  rw [p1 L] at h1
  rw [p1 M] at h2
  cases h1
  cases h2
  rw [Aj,uI] at h
  exact h
 ·intro h
  refine ⟨_,_,p1 L,p1 M,⟨qY L,qY M,by have:=dp L;omega⟩,?_⟩
  rw [Aj,uI]
  exact h
def Ak (rs:List (List Int)):D:=.tup (rs.map fun r=>.tup (r.map D.int))
theorem Ge (rs:List (List Int)):gI st 20 (Ak rs)=some (.tuple (rs.map iF)):=by
 unfold Ak
 simp only [gI]
 rw [sX (f:=gI st 19) (g:=fun r:List Int=>D.tup (r.map D.int)) (k:=iF) (fun r=>by simp only [gI];rw [Gd];rfl) rs]
 rfl
theorem Gf:∀ (rs ss:List (List Int)),PyData.eqvAll (rs.map iF) (ss.map iF)=decide (rs=ss)
 | [],[]=>rfl
 | [],_ :: _=>rfl
 | _ :: _,[]=>rfl
 | r :: rs,s :: ss=>by
  show (PyData.eqv (iF r) (iF s) && PyData.eqvAll (rs.map iF) (ss.map iF))=decide (r :: rs=s :: ss)
  rw [Gf rs ss]
  unfold iF
  rw [Aj,uI]
  by_cases h:r=s
  ·subst h;simp
  ·simp [h]
theorem OD {neg:Bool} {rs ss:List (List Int)}:Wp (iI neg (Ak rs) (Ak ss) st) Q↔Q (.bl (if neg then !decide (rs=ss) else decide (rs=ss))) st:=by
 have dp:∀ rs:List (List Int),PyData.depth (.tuple (rs.map iF))<=2:=fun N=>by show PyData.depthAll (N.map iF) + 1<=2;have:=Ik N;omega
 rw [F6]
 constructor
 ·rintro ⟨p,q,h1,h2,_,h⟩
  rw [Ge] at h1 h2
  cases h1
  cases h2
  rw [Aj,Gf] at h
  exact h
 ·intro h
  refine ⟨_,_,Ge rs,Ge ss,⟨E9 rs,E9 ss,by have:=dp rs;omega⟩,?_⟩
  rw [Aj,Gf]
  exact h
end
end L4
namespace L4
open PySem PySem.Spec L2
def bC (st:Store) (f:Nat):Prop:=∃ o m:Int,st[f]?=some (.lst [.int o,.int m])/\0<=o/\0<=m/\m < 4294967296
theorem Al:kU 2 0=some 0:=by decide
theorem Am:kU 2 1=some 1:=by decide
theorem o7 (n:Nat):aH 0 n=(af.upto n).map D.int:=by
 unfold aH af.upto
 rw [List.map_map]
 apply List.map_congr_left
 intro i _
 simp
theorem OE (L:List Int) (j:Nat):(L.map D.int).eraseIdx j=(L.eraseIdx j).map D.int:=by
 induction L generalizing j with
 | nil=>rfl
 | cons a r ih =>
  cases j with
  | zero=>rfl
  | succ j=>show D.int a :: (r.map D.int).eraseIdx j=_;rw [ih];rfl
theorem OG {L:List Int} {j:Nat} (h:j < L.length):(L[j] :: L.eraseIdx j).Perm L:=by
 induction L generalizing j with
 | nil=>exact absurd h (Nat.not_lt_zero _)
 | cons a r ih =>
  cases j with
  | zero=>exact List.Perm.refl _
  | succ j =>
   have:=ih (j:=j) (by simpa using h)
   exact (List.Perm.swap _ _ _).trans (this.cons a)
theorem bC.keep {st st':Store} {f:Nat} (h:bC st f) (e:Ex [] st st'):bC st' f:=by
 obtain ⟨o,m,e1,r⟩:=h
 exact ⟨o,m,e.keep _ _ e1 (by simp),r⟩
theorem bC.ne {st:Store} {f i:Nat} {o:O} (h:bC st f) (hi:i≠f):bC (st.set i o) f:=by
 obtain ⟨x,m,e1,r⟩:=h
 exact ⟨x,m,by rw [List.getElem?_set_ne hi];exact e1,r⟩
theorem bC.lt {st:Store} {f:Nat} (h:bC st f):f < st.length:=let ⟨_,_,e,_⟩:=h;iX e
theorem o8 {xs:List Int} {i:Int} (h0:0<=i) (h1:i < (xs.length:Int)):iA (xs.map D.int) i=some (.int (af.app xs i)):=by
 have e:(xs.map D.int)[i.toNat]?=some (.int (af.app xs i)):=by rw [List.getElem?_map,af.nI h0 h1];rfl
 have:=xf e
 rwa [Int.toNat_of_nonneg h0] at this
theorem An {xs:List Int} {i:Nat} {d:D} (h:(xs.map D.int)[i]?=some d):∃ x,xs[i]?=some x/\d=.int x:=by
 rw [List.getElem?_map] at h
 obtain ⟨x,h1,h2⟩:=Option.map_eq_some_iff.mp h
 exact ⟨x,h1,h2.symm⟩
theorem Gg (x:Int):∀ (ns:List Int),su (.int x) (ns.map V.int)=ns.contains x
 | []=>rfl
 | n :: r=>by
  have e:=Gg x r
  unfold su at e ⊢
  rw [List.map_cons,List.any_cons,e,List.contains_cons]
  congr 1
  show (n == x)=(x == n)
  exact Bool.beq_comm
theorem CQ {st:Store} {Q:D->Store->Prop} {neg:Bool} {x:Int} {c:D} {ns:List Int} (hc:dc st c=some (ns.map D.int)):Wp (pA neg (.int x) c st) Q↔Q (.bl (if neg then !ns.contains x else ns.contains x)) st:=by
 rw [Aa]
 constructor
 ·rintro ⟨v,ds,vs,h1,h2,h3,h⟩
  cases h1
  rw [hc] at h2
  cases h2
  rw [JQ] at h3
  cases h3
  rw [Gg] at h
  exact h
 ·intro h
  refine ⟨_,_,_,rfl,hc,JQ ns,?_⟩
  rw [Gg]
  exact h
def bZ (xs ys:List Int):D:=.tup [.tup (xs.map D.int),.tup (ys.map D.int)]
structure mW (kX st:Store) (f r u:Nat) (n:Nat) (X Y:List Int):Prop where
 hr:st[r]?=some (.lst (X.map D.int))
 hu:st[u]?=some (.lst (Y.map D.int))
 ne:r≠u
 r0:kX.length<=r
 u0:kX.length<=u
 tX:af.Tn n X
 tY:af.Tn n Y
 fd:bC st f
 ex:Ex [f] kX st
section
variable {kX st st':Store} {f r u n:Nat} {X Y Z:List Int} {o:O}
theorem mW.keep (h:mW kX st f r u n X Y) (e:Ex [] st st'):mW kX st' f r u n X Y:=⟨e.keep _ _ h.hr (by simp),e.keep _ _ h.hu (by simp),h.ne,h.r0,h.u0,h.tX,h.tY,h.fd.keep e,h.ex.trans e.any⟩
theorem mW.wq (h:mW kX st f r u n X Y) (t:af.Tn n Z):mW kX (st ++ [.lst (Z.map D.int)]) f st.length u n Z Y:=⟨ko,nB h.hu,by have:=iX h.hu;omega,h.ex.len,h.u0,t,h.tY,h.fd.keep (Ex.cf _),h.ex.app _⟩
theorem mW.wt (h:mW kX st f r u n X Y) (t:af.Tn n Z):mW kX (st ++ [.lst (Z.map D.int)]) f r st.length n X Z:=⟨nB h.hr,ko,by have:=iX h.hr;omega,h.r0,h.ex.len,h.tX,t,h.fd.keep (Ex.cf _),h.ex.app _⟩
theorem mW.put (h:mW kX st f r u n X Y) (t:af.Tn n Z) (hf:f < kX.length):mW kX (st.set r (.lst (Z.map D.int))) f r u n Z Y:=⟨List.getElem?_set_self (iX h.hr),by rw [List.getElem?_set_ne h.ne];exact h.hu,h.ne,h.r0,h.u0,t,h.tY,h.fd.ne (by have:=h.r0;omega),h.ex.loc h.r0⟩
end
theorem JV (n:Nat):(af.ow n).map D.int=aH 1 ((n:Int) - 1).toNat ++ [.int 0]:=by
 unfold af.ow aH
 rw [List.map_append,List.map_map,show ((n:Int) - 1).toNat=n - 1 by omega]
 rfl
theorem rM {lo hi:Int} (h:0<=lo/\lo<=10000/\0<=hi/\hi<=10000):o5 lo hi=true:=by
 unfold o5;rw [Bool.and_eq_true,decide_eq_true_eq];exact ⟨by omega,kH (by omega)⟩
theorem wx (w n:Nat):(af.p6 w n).map D.int=aH 1 ((w:Int) - 1).toNat ++ [.int 0] ++ aH (w:Int) ((n:Int) - (w:Int)).toNat:=by
 unfold af.p6 aH
 rw [List.map_append,List.map_append,List.map_map,List.map_map,show ((w:Int) - 1).toNat=w - 1 by omega,show ((n:Int) - (w:Int)).toNat=n - w by omega]
 rfl
theorem JW (xs:List D) (j:Nat):cutD xs none (some (j:Int))=xs.take j:=by
 unfold cutD
 rw [HT.Lg,HT.Lh,List.drop_zero,Nat.sub_zero,List.take_eq_take_iff];omega
theorem wy {w n:Nat} (h0:0 < w) (h:w < n):(af.rz w n).map D.int=cutD ([D.int (w:Int)] ++ aH 1 ((w:Int) - 1).toNat ++ aH ((w:Int) + 1) ((n:Int) - ((w:Int) + 1)).toNat ++ [.int 0]) none (some (n:Int)):=by
 rw [JW,List.take_of_length_le (by simp [gO];omega)]
 unfold af.rz aH
 rw [List.map_append,List.map_append,List.map_append,List.map_map,List.map_map,show ((w:Int) - 1).toNat=w - 1 by omega,show ((n:Int) - ((w:Int) + 1)).toNat=n - (w + 1) by omega]
 rfl
def lj (n:Nat) (xs ys:List Int):Prop:=af.Tn n xs/\af.Tn n ys/\∀ x:Int,0<=x->x < (n:Int)->af.iL xs ys x
theorem JX {xs:List Int} {v:Int} (h:v∈xs):xs.findIdx? (fun i=>decide (i=v))=some (xs.idxOf v):=by
 induction xs with
 | nil=>exact nomatch h
 | cons a r ih =>
  rw [List.findIdx?_cons]
  by_cases e:a=v
  ·subst e;simp
  ·have hm:v∈r:=by
    rcases List.mem_cons.mp h with h | h
    ·exact absurd h.symm e
    ·exact h
   rw [decide_eq_false e,ih hm,List.idxOf_cons,show (a == v)=false by simpa using e]
   rfl
def qo (S:Src) (ds:List D) (st:Store):Prop:=∀ (i:Nat) (st2:Store),i<=ds.length->Ex [] st st2->S.at i st2=some ds[i]?
theorem OH {st st':Store} {r:Nat} {ds:List D} (h:items st r=some ds) (e:Ex [] st st'):items st' r=some ds:=by
 unfold items at h ⊢
 cases hx:st[r]? with
 | none=>rw [hx] at h;cases h
 | some o=>rw [e.keep _ _ hx (by simp)];rw [hx] at h;exact h
theorem tJ (ds:List D) (st:Store):qo (.fix ds) ds st:=fun i st2 hi _=>by
 show (if i<=ds.length then some ds[i]? else none)=_
 rw [if_pos hi]
theorem OI {ds:List D} {st:Store} {r:Nat} (h:items st r=some ds):qo (.live r) ds st:=fun i st2 hi e=>by
 show (items st2 r).map _=_
 rw [OH h e];rfl
theorem tK {δ:aj} {st:Store} {fi:aj->Dm Src} {js:List Nat} {f:aj->Dm D} {Q:D->Store->Prop} (ds:List D) (h:D->D) (hi:Wp (fi δ st) fun S st1=>qo S ds st1/\Ex [] st st1) (hl:ds.length < 100000)
  (step:∀ d∈ds,∀ st1,Ex [] st st1->Wp (f (some d :: js.map fun j=>δ.getD j none) st1) fun y st2=>y=h d/\Ex [] st1 st2) (fin:∀ st',Ex [] st st'->Q (.ref st'.length) (st' ++ [.lst (ds.map h)])):Wp (ef fi 1 js (hName 0) fA f δ st) Q:=by
 obtain ⟨S,st1,e1,hS,k1⟩:=hi
 refine F5 ds (fun i ys δ' j9=>(∃ v,δ'=v :: js.map fun j=>δ.getD j none)/\ys=(ds.take i).map h/\Ex [] st1 j9) ⟨S,st1,e1,fun i ys δ' j9 hi' hp=>hS i j9 hi' hp.2.2,⟨none,rfl⟩,rfl,Ex.refl⟩ hl ?_ ?_ ?_
 ·rintro i ys δ' j9 ⟨_,rfl,_⟩
  rw [List.length_map,List.length_take];omega
 ·rintro i d ys δ' j9 hd ⟨⟨v,rfl⟩,rfl,k8⟩
  rw [F7]
  show Wp (fA _ _) _
  rw [F8]
  refine ⟨fun _=>?_,fun h=>absurd h (by decide)⟩
  refine aZ (step d (List.mem_of_getElem? hd) j9 (k1.trans k8)) ?_
  rintro y nA ⟨rfl,k9⟩
  refine ⟨⟨some d,rfl⟩,?_,k8.trans k9⟩
  obtain ⟨hlt,e⟩:=List.getElem?_eq_some_iff.mp hd
  rw [List.take_succ_eq_append_getElem hlt,List.map_append,e];rfl
 ·rintro ys δ' j9 ⟨_,rfl,k8⟩
  rw [List.take_length]
  exact fin j9 (k1.trans k8)
theorem wz {xs:List Int} {d:D} (h:d∈xs.map D.int):∃ x∈xs,d=.int x:=by
 obtain ⟨x,hx,rfl⟩:=List.mem_map.mp h
 exact ⟨x,hx,rfl⟩
theorem Ao {xs:List Int} {f:Int->Int} {h:D->D} (e:∀ x∈xs,h (.int x)=.int (f x)):(xs.map D.int).map h=(xs.map f).map D.int:=by
 rw [List.map_map,List.map_map]
 exact List.map_congr_left fun x hx=>e x hx
def inD:D->Int
 | .int i=>i
 | _=>0
section
variable {st:Store} {Q:D->Store->Prop}
theorem CS {neg:Bool} {xs ys zs ws:List Int}:Wp (iI neg (bZ xs ys) (bZ zs ws) st) Q↔Q (.bl (if neg then !decide ([xs,ys]=[zs,ws]) else decide ([xs,ys]=[zs,ws]))) st:=OD (rs:=[xs,ys]) (ss:=[zs,ws])
end
theorem JY (zs:List Int):(zs.map D.int).map inD=zs:=by rw [List.map_map];exact List.map_id zs
theorem _root_.af.rN {n:Nat} {xs ys p:List Int} (fl:lj n xs ys) (tp:af.Tn n p) (n0:0 < n):lj n (af.anew xs p) (af.anew ys p):=by
 obtain ⟨tx,ty,all⟩:=fl
 have tX:=tx.anew tp
 have tY:=ty.anew tp
 refine ⟨tX,tY,fun x x0 x1=>?_⟩
 obtain ⟨a0,a1⟩:=tp.app (i:=0) (by decide) (by omega)
 have hb:∀ y:Int,0<=y->y < (n:Int)->y∈af.bf (af.anew xs p) (af.anew ys p) (af.app p 0) n:=fun y y0 y1=>by
  rw [af.Fq tx ty tp (by decide) (by omega) n]
  obtain ⟨b0,b1⟩:=tp.lb y0 y1
  exact List.mem_map.mpr ⟨af.app (af.inv p) y,af.IX tx ty (by decide) (by omega) all b0 b1,tp.cO y0 y1⟩
 have hF:=af.Fp tX tY (s:=0) (by decide) (by omega)
 have nd:=af.uS (af.anew xs p) (af.anew ys p) 0 n
 have bd:=af.oY tX tY (s:=0) (by decide) (by omega) n
 have OJ:∀ k,∀ y∈af.bf (af.anew xs p) (af.anew ys p) 0 k,af.iL (af.anew xs p) (af.anew ys p) y:=by
  intro k
  induction k with
  | zero=>intro y hy;rw [List.mem_singleton.mp (show y∈[(0:Int)] from hy)];exact .zero
  | succ k ih =>
   intro y hy
   have hy':y∈(match (af.bf (af.anew xs p) (af.anew ys p) 0 k)[k]? with | some x=>af.visit (af.anew xs p) (af.anew ys p) (af.bf (af.anew xs p) (af.anew ys p) 0 k) x | none=>af.bf (af.anew xs p) (af.anew ys p) 0 k):=hy
   split at hy'
   ·next z hz =>
    have sQ:=ih z (List.mem_of_getElem? hz)
    rcases af.oz.mp hy' with hy' | rfl
    ·rcases af.oz.mp hy' with hy' | rfl
     ·exact ih y hy'
     ·exact sQ.r
    ·exact sQ.u
   ·exact ih y hy'
 refine OJ n x ?_
 have z0:(0:Int)∈af.bf (af.anew xs p) (af.anew ys p) 0 n:=by
  have:=af.xr (af.anew xs p) (af.anew ys p) 0 0 n
  rw [Nat.zero_add] at this
  exact this.subset (show (0:Int)∈[(0:Int)] by simp)
 have back:∀ k,(∃ y∈af.bf (af.anew xs p) (af.anew ys p) (af.app p 0) k,y∈af.bf (af.anew xs p) (af.anew ys p) 0 n)->af.app p 0∈af.bf (af.anew xs p) (af.anew ys p) 0 n:=by
  intro k
  induction k with
  | zero =>
   rintro ⟨y,hy,rh⟩
   rw [List.mem_singleton.mp (show y∈[af.app p 0] from hy)] at rh
   exact rh
  | succ k ih =>
   rintro ⟨y,hy,rh⟩
   have hy':y∈(match (af.bf (af.anew xs p) (af.anew ys p) (af.app p 0) k)[k]? with | some x=>af.visit (af.anew xs p) (af.anew ys p) (af.bf (af.anew xs p) (af.anew ys p) (af.app p 0) k) x | none=>af.bf (af.anew xs p) (af.anew ys p) (af.app p 0) k):=hy
   split at hy'
   ·next z hz =>
    have xt:=List.mem_of_getElem? hz
    obtain ⟨c0,c1⟩:=af.oY tX tY a0 a1 k z xt
    rcases af.oz.mp hy' with hy' | rfl
    ·rcases af.oz.mp hy' with hy' | rfl
     ·exact ih ⟨y,hy',rh⟩
     ·exact ih ⟨z,xt,af.zd tX nd bd (fun x hx=>(hF x hx).1) c0 c1 rh⟩
    ·exact ih ⟨z,xt,af.zd tY nd bd (fun x hx=>(hF x hx).2) c0 c1 rh⟩
   ·exact ih ⟨y,hy',rh⟩
 have hp0:=back n ⟨0,hb 0 (by decide) (by omega),z0⟩
 have fwd:∀ k,∀ y∈af.bf (af.anew xs p) (af.anew ys p) (af.app p 0) k,y∈af.bf (af.anew xs p) (af.anew ys p) 0 n:=by
  intro k
  induction k with
  | zero=>intro y hy;rw [List.mem_singleton.mp (show y∈[af.app p 0] from hy)];exact hp0
  | succ k ih =>
   intro y hy
   have hy':y∈(match (af.bf (af.anew xs p) (af.anew ys p) (af.app p 0) k)[k]? with | some x=>af.visit (af.anew xs p) (af.anew ys p) (af.bf (af.anew xs p) (af.anew ys p) (af.app p 0) k) x | none=>af.bf (af.anew xs p) (af.anew ys p) (af.app p 0) k):=hy
   split at hy'
   ·next z hz =>
    have sQ:=ih z (List.mem_of_getElem? hz)
    rcases af.oz.mp hy' with hy' | rfl
    ·rcases af.oz.mp hy' with hy' | rfl
     ·exact ih y hy'
     ·exact (hF z sQ).1
    ·exact (hF z sQ).2
   ·exact ih y hy'
 exact fwd n x (hb x x0 x1)
end L4
namespace L4
open PySem PySem.Spec L2
theorem wC (p:Key×D) (r:List (Key×D)) (k:Key):dE (p :: r) k=if p.1=k then some p.2 else dE r k:=by
 unfold dE
 rw [List.find?_cons]
 by_cases e:p.1=k
 ·rw [decide_eq_true e,if_pos e];rfl
 ·rw [decide_eq_false e,if_neg e]
theorem OL (kvs:List (Key×D)) (k j:Key) (y:D):dE (putD kvs k y) j=if j=k then some y else dE kvs j:=by
 unfold putD
 by_cases a:(kvs.any fun kv=>decide (kv.1=k))=true
 ·rw [if_pos a]
  induction kvs with
  | nil=>simp at a
  | cons p r ih =>
   rw [List.map_cons,wC,wC]
   by_cases e:p.1=k
   ·rw [if_pos e]
    by_cases ej:j=k
    ·rw [if_pos ej,if_pos (show (p.1,y).1=j from e.trans ej.symm)]
    ·rw [if_neg ej,if_neg (show ¬ (p.1,y).1=j from fun z=>ej (z.symm.trans e)),if_neg (fun z=>ej (z.symm.trans e))]
     have:∀ l:List (Key×D),dE (l.map fun kv=>if kv.1=k then (kv.1,y) else kv) j=dE l j:=by
      intro l
      induction l with
      | nil=>rfl
      | cons q l ihl =>
       rw [List.map_cons,wC,wC,ihl]
       by_cases eq:q.1=k
       ·rw [if_pos eq,if_neg (show ¬ (q.1,y).1=j from fun z=>ej (z.symm.trans eq)),if_neg (fun z=>ej (z.symm.trans eq))]
       ·rw [if_neg eq]
     exact this r
   ·rw [if_neg e]
    have a':(r.any fun kv=>decide (kv.1=k))=true:=by
     rw [List.any_cons,decide_eq_false e,Bool.false_or] at a
     exact a
    rw [ih a']
    by_cases ej:j=k
    ·rw [if_pos ej,if_neg (fun z=>e (z.trans ej)),if_pos ej]
    ·rw [if_neg ej,if_neg ej]
 ·rw [if_neg a]
  induction kvs with
  | nil =>
   show dE [(k,y)] j=_
   rw [wC]
   by_cases ej:j=k
   ·rw [if_pos ej.symm,if_pos ej]
   ·rw [if_neg (fun z=>ej z.symm),if_neg ej]
  | cons p r ih =>
   have a':¬ (r.any fun kv=>decide (kv.1=k))=true:=fun z=>a (by rw [List.any_cons,z,Bool.or_true])
   have ep:p.1≠k:=fun z=>a (by rw [List.any_cons,decide_eq_true z,Bool.true_or])
   rw [List.cons_append,wC,ih a',wC]
   by_cases ej:j=k
   ·rw [if_pos ej,if_pos ej,if_neg (fun z=>ep (z.trans ej))]
   ·rw [if_neg ej,if_neg ej]
theorem OM (kvs:List (Key×D)) (k:Key) (v:D):(putD kvs k v).length<=kvs.length + 1:=by
 unfold putD
 split
 ·rw [List.length_map];omega
 ·rw [List.length_append,List.length_cons,List.length_nil];omega
theorem JZ {st:Store} {i:Nat} {kvs:List (Key×D)} (h:st[i]?=some (.dct kvs)):iW st (.ref i)=some kvs:=by simp only [iW,h]
theorem J0 (i:Int):keyOf (.int i)=some (.inl i):=rfl
theorem OO {r:List Int} {j:Nat} (h:j < r.length) (x:Int):(r.take (j + 1)).contains x=((r.take j).contains x || x == r[j]):=by
 rw [List.take_succ_eq_append_getElem h,List.contains_append]
 congr 1
 show ([r[j]]:List Int).contains x=(x == r[j])
 rw [List.contains_cons,List.contains_nil,Bool.or_false]
end L4
namespace L4
open PySem PySem.Spec L2
abbrev fQ:=Bool×Int
def bQ (s:fQ):D:=.tup [.str (if s.1 then "s" else "t"),.int s.2]
end L4
namespace L4
open PySem PySem.Spec L2
section
variable {X:Cx} {K:PySem.W.Frag}
end
end L4
namespace L4
open PySem PySem.Spec L2
section
variable {K:PySem.W.Frag}
end
section
variable {X:Cx}
end
theorem at2 {α:Type} (x y z:α) (xs:List α):iA (x :: y :: z :: xs) 2=some z:=by
 unfold iA kU
 rw [if_pos (by decide),if_pos (by simp only [List.length_cons];omega)]
 rfl
theorem Gh {α:Type} (x y z u:α) (xs:List α):iA (x :: y :: z :: u :: xs) 3=some u:=by
 unfold iA kU
 rw [if_pos (by decide),if_pos (by simp only [List.length_cons];omega)]
 rfl
section
variable {st:Store} {Q:D->Store->Prop}
end
theorem OQ {δ:aj} {st:Store} {fi:aj->Dm Src} {js:List Nat} {f:aj->Dm D} {Q:D->Store->Prop} (ds:List D) (P:Nat->D->Prop) (I:Store->Prop)
  (hi:Wp (fi δ st) fun S st1=>(∀ i st2,i<=ds.length->I st2->S.at i st2=some ds[i]?)/\I st1) (hl:ds.length < 100000)
  (step:∀ i d,ds[i]?=some d->∀ st1,I st1->Wp (f (some d :: js.map fun j=>δ.getD j none) st1) fun y st2=>P i y/\I st2)
  (fin:∀ ys st',I st'->ys.length=ds.length->(∀ i y,ys[i]?=some y->P i y)->Q (.ref st'.length) (st' ++ [.lst ys])):Wp (ef fi 1 js (hName 0) fA f δ st) Q:=by
 obtain ⟨S,st1,e1,hS,k1⟩:=hi
 refine F5 ds (fun i ys δ' j9=>(∃ v,δ'=v :: js.map fun j=>δ.getD j none)/\ys.length=i/\(∀ i y,ys[i]?=some y->P i y)/\I j9) ⟨S,st1,e1,fun i ys δ' j9 hi' hp=>hS i j9 hi' hp.2.2.2,⟨none,rfl⟩,rfl,(fun i y h=>by simp at h),k1⟩ hl ?_ ?_ ?_
 ·rintro i ys δ' j9 ⟨_,h,_⟩
  omega
 ·rintro i d ys δ' j9 hd ⟨⟨v,rfl⟩,hlen,hP,k8⟩
  rw [F7]
  show Wp (fA _ _) _
  rw [F8]
  refine ⟨fun _=>?_,fun h=>absurd h (by decide)⟩
  refine aZ (step i d hd j9 k8) ?_
  rintro y nA ⟨hp,k9⟩
  refine ⟨⟨some d,rfl⟩,by rw [List.length_append,hlen];rfl,fun j z hz=>?_,k9⟩
  by_cases hj:j < ys.length
  ·rw [List.getElem?_append_left hj] at hz;exact hP j z hz
  ·have hb:=iX hz
   rw [List.length_append,List.length_singleton] at hb
   have e:j=ys.length:=by omega
   subst e
   rw [List.getElem?_append_right (Nat.le_refl _),Nat.sub_self] at hz
   cases hz
   rw [hlen];exact hp
 ·rintro ys δ' j9 ⟨_,hlen,hP,k8⟩
  exact fin ys j9 k8 hlen hP
end L4
namespace L4
open PySem PySem.Spec L2
def Gi (x:Str):List D:=x.cps.toList.map fun c=>.str ⟨#[c]⟩
section
variable {K:PySem.W.Frag}
end
section
variable {st:Store} {Q:D->Store->Prop}
end
end L4
namespace L4
open PySem PySem.Spec L2
section
variable {K:PySem.W.Frag}
end
section
variable {st:Store}
end
section
variable {X:Cx} {K:PySem.W.Frag}
end
structure pM (K:PySem.W.Frag) (mg:Str->Option Value) (x:Str) (v:V) (d:D):Prop where
 ex:∃ u,mg x=some u/\RelV v u
 rp:∀ (ρ:List Addr) (H:Hp),Rp K ρ H v d
theorem Gj {X:Cx} {K:PySem.W.Frag} {mg:Str->Option Value} {x:Str} {v:V} {d:D} {pos:Pos} (C:pM K mg x v d) (hg:Gl X x) (hX:X.mg=mg) (hd:(x == ("__debug__" : Str))=false):PE X (.Name x pos) (tC v):=by
 obtain ⟨u,h,r⟩:=C.ex
 subst hX
 exact K2 hg h r hd
theorem Gk {K:PySem.W.Frag} {mg:Str->Option Value} {x:Str} {v:V} {d:D} (C:pM K mg x v d):gx K (tC v) (fC d):=rF C.rp
theorem J1 {K:PySem.W.Frag} {h:Heap} {mg:Str->Option Value} (X:K.In h) (G:h.Ns mainGlobals mg) {x:Str} {a:Addr} {od:Option Addr} {its:Array Value} {n:Nat} {sl:Array (Option Value)} {vs:List V} {ds:List D} (e:PySem.W.nsIn K mainGlobals x=some (some (.ref a))) (l:K.lookup a=some ⟨.type "tuple",od,.seq its n,sl⟩)
  (ho:od=none) (hz:its.size<=sizeLine) (hv:Vals vs its.toList) (hd:∀ (ρ:List Addr) (H:Hp),cC K ρ H vs ds):∃ v,pM K mg x v (.tup ds) :=
 ⟨.ref a,⟨_,PySem.W.mg_of X G e,rfl⟩,fun ρ H=>.tup (.inr ⟨_,its,n,l,rfl,ho,rfl,hz,hv⟩) (hd ρ H)⟩
end L4
namespace L4
open PySem PySem.Spec L2
end L4
namespace L4
open PySem PySem.Spec L2
section
variable {K:PySem.W.Frag}
theorem J2 {ρ:List Addr} {H:Hp} {st:Store} (l:Rl K ρ H st) (n:Nat):∀ {vs:List V} {ds:List D} {ps:List PyData},cC K ρ H vs ds->cP (gI st n) ds=some ps->iO K H vs ps
 | _,_,_,.nil,h=>by cases h;exact .nil
 | _,_,_,.cons a b,h=>by
  obtain ⟨x,t,h1,h2,rfl⟩:=zI h
  exact .cons (CI l n a h1) (J2 l n b h2)
end
end L4
namespace L4
open PySem PySem.Spec L2
def CT:D->Option (List D)
 | .tup ds=>some ds
 | .str x=>if x.length<=sizeLine then some (Gi x) else none
 | _=>none
def oI (fa:aj->Dm (List D)):aj->Dm Src:=fun δ st=>bnd (fa δ st) fun as st1=>match as with
 | [a]=>match CT a with
  | some ds=>some (.fix ds.reverse,st1)
  | none=>none
 | _=>none
section
variable {K:PySem.W.Frag}
theorem Ap {ρ:List Addr} {H:Hp} {x:V} {a:D} {ds:List D} (r:Rp K ρ H x a) (h:CT a=some ds):∃ src:ZS,src.val K H x/\(∀ a,src≠.lst a)/\(∀ z,src=.str z->z.length<=sizeLine)/\∀ (ρ2:List Addr) (H2:Hp),Mn K ρ H ρ2 H2->∀ i,(∀ d,ds[i]?=some d->∃ v,src.has K H2 i v/\Rp K ρ2 H2 v d)/\(i=ds.length->src.fin K H2 i):=by
 cases r with
 | non=>cases h
 | bl b=>cases h
 | int i=>cases h
 | ty n=>cases h
 | ref e=>cases h
 | str x =>
  unfold CT at h
  simp only at h
  split at h
  ·next hx =>
   cases h
   refine ⟨.str x,rfl,nofun,fun z e=>by cases e;exact hx,fun ρ2 H2 m i=>⟨fun d hd=>?_,fun e=>?_⟩⟩
   ·unfold Gi at hd
    rw [List.getElem?_map] at hd
    obtain ⟨c,hc,rfl⟩:=Option.map_eq_some_iff.mp hd
    have hc':x.cps[i]?=some c:=by simpa using hc
    exact ⟨_,⟨c,hc',rfl⟩,.str _⟩
   ·show x.cps.size=i
    rw [e];simp [Gi]
  ·cases h
 | tup s r =>
  cases h
  refine ⟨.tup _,⟨rfl,_,s⟩,nofun,nofun,fun ρ2 H2 m i=>⟨fun d hd=>?_,fun e=>?_⟩⟩
  ·obtain ⟨v,hv,rv⟩:=r.got hd
   exact ⟨v,⟨_,m.t _ _ s,hv⟩,rv.mn m⟩
  ·exact ⟨_,m.t _ _ s,by rw [r.length];exact e.symm⟩
theorem OR {t:TA} {fa:aj->Dm (List D)} (ha:pj K t fa):vp K (yX K t) (oI fa):=by
 intro ρ σ H δ st S st' Q l rs e q
 obtain ⟨as,st1,e1,e⟩:=dY e
 split at e
 ·next a =>
  split at e
  ·next ds h1 =>
   cases e
   refine ha ρ σ H δ st _ _ _ l rs e1 fun xs H1 ρ1 m1 l1 r1=>?_
   obtain ⟨x,rfl,rx⟩:=r1.one'
   obtain ⟨s1,v1,nl,hz,g1⟩:=Ap rx h1
   refine ⟨x,s1,ds.length,rfl,v1,(g1 ρ1 H1 Mn.refl ds.length).2 rfl,nl,hz,q _ H1 ρ1 m1 l1 fun ρ2 H2 st2 i m2 l2=>⟨fun h=>?_,fun d h=>?_⟩⟩
   ·obtain ⟨hl,hn⟩:=tu h
    have:=List.getElem?_eq_none_iff.mp hn
    simp only [List.length_reverse] at this hl
    exact (show i=ds.length by omega)
   ·have hd:=(tu h).2
    have hi:i < ds.length:=by simpa using (List.getElem?_eq_some_iff.mp hd).1
    rw [List.getElem?_reverse hi] at hd
    obtain ⟨v,hv,rv⟩:=(g1 ρ2 H2 m2 _).1 d hd
    refine ⟨⟨hi,v,hv⟩,fun z H3 hz=>?_⟩
    obtain ⟨rfl,k1⟩:=hz
    cases k1 _ hv
    exact ⟨Mn.refl,l2,rv⟩
  ·cases e
 ·cases e
end
section
variable {st:Store}
theorem OS {δ:aj} {fa:aj->Dm (List D)} {R:Src->Store->Prop}:Wp (oI fa δ st) R↔Wp (fa δ st) fun as st1=>∃ a ds,as=[a]/\CT a=some ds/\R (.fix ds.reverse) st1:=by
 unfold oI;rw [dk]
 constructor <;> refine fun h=>aZ h fun as s h=>?_
 ·split at h
  ·next a =>
   split at h
   ·next ds h1=>exact ⟨a,ds,rfl,h1,bB.mp h⟩
   ·exact (fO.mp h).elim
  ·exact (fO.mp h).elim
 ·obtain ⟨a,ds,rfl,h1,h⟩:=h
  simp only [h1]
  exact bB.mpr h
end
end L4
namespace L4
open PySem PySem.Spec L2
section
variable {K:PySem.W.Frag}
end
section
variable {st:Store} {Q:D->Store->Prop}
end
end L4
namespace L4
open PySem PySem.Spec L2
section
variable {K:PySem.W.Frag}
end
end L4
namespace L4
open PySem PySem.Spec L2
section
variable {K:PySem.W.Frag}
end
end L4
namespace L4
open PySem PySem.Spec L2
section
variable {K:PySem.W.Frag}
end
end L4
namespace L4
open PySem PySem.Spec L2
section
variable {K:PySem.W.Frag}
end
section
variable {δ:aj} {st:Store} {N B C:aj->Store->Prop} {R:D->Store->Prop}
end
end L4
namespace L4
open PySem PySem.Spec L2
section
variable {K:PySem.W.Frag}
end
section
variable {δ:aj} {st:Store} {N B C:aj->Store->Prop} {R:D->Store->Prop}
end
end L4
namespace L4
open PySem PySem.Spec L2
def oJ (ps:List PyData):Bool:=decide (0 < ps.length) && ps.all (fun a=>ps.all fun b=>p3 a b) && ps.all fun a=>a.canLay0 && decide (a.depth<=50)
def kZ:List D->Dm D
 | [.ref r],st=>match own st r with
  | some ds=>match cP (gI st 20) ds with
   | some ps=>if oJ ps=true then (match ds[mx ps]? with | some d=>some (d,st) | none=>none) else none
   | none=>none
  | none=>none
 | _,_=>none
section
variable {K:PySem.W.Frag}
theorem J3:qG K (sF K) kZ:=by
 intro ρ H st xs as b st' Q l rx e q
 unfold kZ at e
 split at e
 ·next r kX =>
  split at e
  ·next ds hd =>
   split at e
   ·next ps hp =>
    split at e
    ·next hok =>
     split at e
     ·next d hd0 =>
      cases e
      obtain ⟨v,rfl,r⟩:=rx.one'
      cases r with
      | ref hi =>
       obtain ⟨vs,hs,rr⟩:=l.items hi (ek (qI hd))
       obtain ⟨v,hv,rv⟩:=rr.got hd0
       simp only [oJ,Bool.and_eq_true,decide_eq_true_eq,List.all_eq_true] at hok
       exact ⟨_,vs,ps,rfl,hs,J2 l 20 rr hp,hok.1.1,hok.1.2,hok.2,v,hv,q v H ρ .refl l rv⟩
     ·cases e
    ·cases e
   ·cases e
  ·cases e
 ·cases e
end
theorem OT {st:Store} {Q:D->Store->Prop} {r:Nat} {ds:List D} {ps:List PyData} (h:own st r=some ds) (hp:cP (gI st 20) ds=some ps) (hok:oJ ps=true) {d:D} (hd:ds[mx ps]?=some d):Wp (kZ [.ref r] st) Q↔Q d st:=by
 have e:kZ [.ref r] st=some (d,st):=by simp only [kZ,h,hp,hok,hd,if_true]
 rw [e,bB]
def tupI (xs:List Int):PyData:=.tuple (xs.map PyData.int)
def jQ (p:af.cw):PyData:=.tuple [tupI p.1,tupI p.2]
theorem Gm:∀ xs ys:List Int,lH (xs.map PyData.int) (ys.map PyData.int)=af.nR xs ys
 | [],[]=>rfl
 | [],_ :: _=>rfl
 | _ :: _,[]=>rfl
 | x :: xs,y :: ys=>by
  show (if (x == y)=true then lH (xs.map PyData.int) (ys.map PyData.int) else decide (x < y))=if x=y then af.nR xs ys else decide (x < y)
  rw [Gm xs ys]
  by_cases h:x=y
  ·rw [if_pos h,if_pos (by simp [h])]
  ·rw [if_neg h,if_neg (by simp [h])]
theorem J4 (xs ys:List Int):PyData.eqv (tupI xs) (tupI ys)=decide (xs=ys):=uI xs ys
theorem OU (p q:af.cw):xm (jQ p) (jQ q)=af.lI p q:=by
 show (if PyData.eqv (tupI p.1) (tupI q.1)=true then (if PyData.eqv (tupI p.2) (tupI q.2)=true then false else lH (p.2.map PyData.int) (q.2.map PyData.int)) else lH (p.1.map PyData.int) (q.1.map PyData.int))=if p.1=q.1 then af.nR p.2 q.2 else af.nR p.1 q.1
 rw [J4,J4,Gm,Gm]
 by_cases a:p.1=q.1
 ·rw [if_pos a,if_pos (decide_eq_true a)]
  by_cases b:p.2=q.2
  ·rw [if_pos (decide_eq_true b),b,af.Cu]
  ·rw [if_neg (by simp [b])]
 ·rw [if_neg a,if_neg (by simp [a])]
theorem Gn:∀ xs ys:List Int,mN (xs.map PyData.int) (ys.map PyData.int)=true
 | [],_=>rfl
 | _ :: _,[]=>rfl
 | x :: xs,y :: ys=>by show (true && mN (xs.map PyData.int) (ys.map PyData.int))=true;rw [Gn xs ys];rfl
theorem OV (p q:af.cw):p3 (jQ p) (jQ q)=true:=by
 show (mN (p.1.map PyData.int) (q.1.map PyData.int) && (mN (p.2.map PyData.int) (q.2.map PyData.int) && true))=true
 rw [Gn,Gn];rfl
theorem OW (p:af.cw):(jQ p).canLay0=true/\(jQ p).depth<=50:=by
 refine ⟨?_,?_⟩
 ·show (PyData.canLayAll0 (bP p.1) && (PyData.canLayAll0 (bP p.2) && true))=true
  rw [qY,qY];rfl
 ·show max (PyData.depthAll (bP p.1) + 1) (max (PyData.depthAll (bP p.2) + 1) 0) + 1<=50
  rw [uH,uH];decide
theorem J5 (l:List af.cw):∀ k,k < l.length->l[argBest (fun i j=>af.lI (l.getD i ([],[])) (l.getD j ([],[]))) k]?=some (af.lJ (l.take (k + 1)))
 | 0,h=>by
  cases l with
  | nil=>simp at h
  | cons p l=>rfl
 | k + 1,h=>by
  have ih:=J5 l k (by omega)
  generalize hb:argBest (fun i j=>af.lI (l.getD i ([],[])) (l.getD j ([],[]))) k=b at ih
  have e1:l.getD b ([],[])=af.lJ (l.take (k + 1)):=by rw [List.getD_eq_getElem?_getD,ih];rfl
  have e2:af.lJ (l.take (k + 1 + 1))=if af.lI (l.getD (k + 1) ([],[])) (af.lJ (l.take (k + 1))) then l.getD (k + 1) ([],[]) else af.lJ (l.take (k + 1)):=by
   have et:l.take (k + 1 + 1)=l.take (k + 1) ++ [l.getD (k + 1) ([],[])]:=by
    rw [List.take_succ_eq_append_getElem h,List.getD_eq_getElem?_getD,List.getElem?_eq_getElem h];rfl
   rw [et]
   cases l with
   | nil=>simp at h
   | cons p l =>
    show ((l.take k ++ [_]).foldl _ p)=_
    rw [List.foldl_append]
    rfl
  show l[if (af.lI (l.getD (k + 1) ([],[])) (l.getD (argBest _ k) ([],[])))=true then k + 1 else argBest _ k]?=_
  rw [hb,e1,e2]
  split
  ·rw [List.getD_eq_getElem?_getD,List.getElem?_eq_getElem h];rfl
  ·exact ih
theorem OX (st:Store) (p:af.cw):gI st 20 (bZ p.1 p.2)=some (jQ p):=by
 have h:∀ (m:Nat) (xs:List Int),cP (gI st (m + 1)) (xs.map D.int)=some (xs.map PyData.int):=fun m xs=>by
  have:=sX (f:=gI st (m + 1)) (g:=D.int) (k:=PyData.int) (fun _=>rfl) xs
  exact this
 show (cP (gI st 19) [D.tup (p.1.map D.int),D.tup (p.2.map D.int)]).map PyData.tuple=_
 have e1:gI st 19 (D.tup (p.1.map D.int))=some (tupI p.1):=by show (cP (gI st 18) (p.1.map D.int)).map PyData.tuple=_;rw [h];rfl
 have e2:gI st 19 (D.tup (p.2.map D.int))=some (tupI p.2):=by show (cP (gI st 18) (p.2.map D.int)).map PyData.tuple=_;rw [h];rfl
 simp only [cP,e1,e2]
 rfl
theorem J7 {st:Store} {Q:D->Store->Prop} {r:Nat} {l:List af.cw} (h:own st r=some (l.map fun p=>bZ p.1 p.2)) (hn:0 < l.length):Wp (kZ [.ref r] st) Q↔Q (bZ (af.lJ l).1 (af.lJ l).2) st:=by
 have hp:cP (gI st 20) (l.map fun p=>bZ p.1 p.2)=some (l.map jQ):=sX (f:=gI st 20) (g:=fun p:af.cw=>bZ p.1 p.2) (k:=jQ) (fun p=>OX st p) l
 refine OT h hp ?_ ?_
 ·simp only [oJ,Bool.and_eq_true,decide_eq_true_eq,List.all_eq_true,List.length_map]
  refine ⟨⟨hn,fun a ha b hb=>?_⟩,fun a ha=>?_⟩
  ·obtain ⟨p,_,rfl⟩:=List.mem_map.mp ha
   obtain ⟨q,_,rfl⟩:=List.mem_map.mp hb
   exact OV p q
  ·obtain ⟨p,_,rfl⟩:=List.mem_map.mp ha
   exact OW p
 ·have hb:=J5 l (l.length - 1) (by omega)
  rw [show l.length - 1 + 1=l.length by omega,List.take_length] at hb
  have e:∀ k,k < l.length->argBest (rm (l.map jQ)) k=argBest (fun i j=>af.lI (l.getD i ([],[])) (l.getD j ([],[]))) k/\argBest (fun i j=>af.lI (l.getD i ([],[])) (l.getD j ([],[]))) k < l.length:=by
   intro k
   induction k with
   | zero=>intro hk;exact ⟨rfl,hk⟩
   | succ k ih =>
    intro hk
    obtain ⟨e1,e2⟩:=ih (by omega)
    have eb:rm (l.map jQ) (k + 1) (argBest (rm (l.map jQ)) k)=af.lI (l.getD (k + 1) ([],[])) (l.getD (argBest (fun i j=>af.lI (l.getD i ([],[])) (l.getD j ([],[]))) k) ([],[])):=by
     rw [e1]
     unfold rm
     rw [List.getD_eq_getElem?_getD,List.getD_eq_getElem?_getD,List.getElem?_map,List.getElem?_map,List.getElem?_eq_getElem hk,List.getElem?_eq_getElem e2,List.getD_eq_getElem?_getD,List.getD_eq_getElem?_getD,List.getElem?_eq_getElem hk,List.getElem?_eq_getElem e2]
     exact OU _ _
    refine ⟨?_,?_⟩
    ·show (if rm (l.map jQ) (k + 1) (argBest (rm (l.map jQ)) k)=true then k + 1 else argBest (rm (l.map jQ)) k)=if _=true then k + 1 else _
     rw [eb,e1]
    ·show (if _=true then k + 1 else _) < l.length
     split
     ·exact hk
     ·exact e2
  unfold mx
  rw [List.length_map,(e (l.length - 1) (by omega)).1,List.getElem?_map,hb]
  rfl
end L4
namespace L4
open PySem PySem.Spec L2
section
variable {K:PySem.W.Frag}
end
end L4
namespace L4
open PySem PySem.Spec L2
section
variable {K:PySem.W.Frag}
end
section
variable {st:Store} {Q:D->Store->Prop} {i:Nat}
end
end L4
namespace L4
open PySem PySem.Spec L2
section
variable {K:PySem.W.Frag}
end
section
variable {st:Store} {Q:D->Store->Prop} {δ:aj}
end
end L4
namespace L4
open PySem PySem.Spec L2
section
variable {K:PySem.W.Frag}
def qq:aj->Dm Fl:=fun _ _=>none
theorem OY:nz K pI qq:=by
 intro ρ σ H δ st fl st' E l rs e q
 cases e
end
section
variable {st:Store} {Q:D->Store->Prop}
end
end L4
namespace L4
open PySem PySem.Spec L2
section
variable {K:PySem.W.Frag}
end
section
variable {st:Store} {δ:aj}
end
end L4
namespace L4
open PySem PySem.Spec L2
section
variable {K:PySem.W.Frag}
end
end L4
namespace L4
open PySem PySem.Spec L2
section
variable {K:PySem.W.Frag}
end
end L4
namespace L4
open PySem PySem.Spec L2
section
variable {K:PySem.W.Frag}
end
section
variable {st:Store} {Q:D->Store->Prop}
end
end L4
namespace L4
open PySem PySem.Spec L2
section
variable {K:PySem.W.Frag}
end
end L4
namespace L4
open PySem PySem.Spec L2
section
variable {K:PySem.W.Frag}
def mX:D->D->Dm D:=rG (fun i j=>decide (j≠0/\j.natAbs.log2 < 9000)) fun i j=>.int (i.fdiv j)
theorem OZ:lK K (rI sG fun i j=>.int (i.fdiv j)) mX:=xx (fun i j h=>of_decide_eq_true (p:=j≠0/\j.natAbs.log2 < 9000) h) fun _ _ _ _=>.int _
end
section
variable {st:Store} {Q:D->Store->Prop}
theorem O0 {i j:Int}:Wp (mX (.int i) (.int j) st) Q↔(j≠0/\j.natAbs.log2 < 9000)/\Q (.int (i.fdiv j)) st:=by unfold mX;rw [xE,decide_eq_true_eq]
end
end L4
namespace L4
open PySem PySem.Spec L2
def cb (i j:Int):Bool:=(decide (-18446744073709551616 < i/\i < 18446744073709551616) || decide (-18446744073709551616 < j/\j < 18446744073709551616)) || (decide (Builtin.Int.intBits i<=60000000) && decide (Builtin.Int.intBits j<=60000000))
def cg:D->D->Dm D:=rG cb fun i j=>.int (i * j)
section
variable {K:PySem.W.Frag}
theorem l6:lK K (rI ou fun i j=>.int (i * j)) cg:=xx (fun i j h=>by
 unfold cb at h
 rw [Bool.or_eq_true,Bool.or_eq_true,Bool.and_eq_true,decide_eq_true_eq,decide_eq_true_eq,decide_eq_true_eq,decide_eq_true_eq] at h
 exact h) fun _ _ _ _=>.int _
end
section
variable {st:Store} {Q:D->Store->Prop}
theorem CU {i j:Int}:Wp (cg (.int i) (.int j) st) Q↔cb i j=true/\Q (.int (i * j)) st:=by
 unfold cg;rw [xE]
theorem O1 {i j:Int} (h:i.natAbs < 18446744073709551616):cb i j=true:=by
 unfold cb
 rw [decide_eq_true (show -18446744073709551616 < i/\i < 18446744073709551616 by omega)]
 rfl
theorem Gp {i j:Int} {k:Nat} (hk:k<=60000000) (h:i.natAbs < P2 k) (h2:j.natAbs < P2 k):cb i j=true:=by
 replace h:=sH h hk
 replace h2:=sH h2 hk
 unfold cb
 rw [decide_eq_true h,decide_eq_true h2]
 simp
end
end L4
namespace My
local macro_rules | `(tactic| kspl_open $h)=>`(tactic| (refine L4.cQ ?_;intro _ $h;set_option simprocs false in simp only [L4.cj]))
local macro_rules | `(tactic| w_how)=>`(tactic| set_option simprocs false in simp only [L4.cj])
open PySem L2 L4
def top (i:Nat):Stmt:=PySem.Challenge.pw_shearfloor_k61_whole_led_by_tables.main.body.getD i (.Pass ⟨0,0,0,0⟩)
structure Txt (mg:Str->Option Value):Prop where
 la:mg "enumerate" = none
 tL:mg "int" = none
 c5:mg "len" = none
 dI:mg "list" = none
 Aq:mg "max" = none
 tM:mg "min" = none
 a5:mg "range" = none
 n9:mg "reversed" = none
 bJ:mg "tuple" = none
section
variable {P:Program} {w:World} {K:PySem.W.Frag} {mg:Str->Option Value} {base:Heap}
def CV:aj->Dm Fl :=
 (aI (aO (aA dj (aA kC (fC (.int 7901)) (ag 1)) (fC (.int 24697))) (hName 2))
 (aI (jM (aR (aA xy (ag 1) (aS eK (ae (ag 0) ah)))) (aO (aA eJ (ag 0) (ag 1)) (hName 2)) (jM (aR (aA zF (aS eK (ae (ag 0) ah)) (fC (.int 0)))) (aO (aA dj (aA kC (aA jN (aA eJ (ag 0) (aA jN (ag 1) (aS eK (ae (ag 0) ah)))) (fC (.int 2147483629))) (fC (.int 31))) (aA kC (fC (.int 7901)) (ag 1))) (hName 2)) b8))
 (aI (aO (fC (.int 0)) (hName 3))
 (aI (jM (aR (aA FT (ag 2) (aA qc (fC (.int 10)) (fC (.int 18))))) (aO (ag 2) (hName 3)) b8)
 (a7 (er (ae (ag 3) (ae (aA dj (aA jN (aA qc (aA dj (aA kC (aA jN (ag 2) (fC (.int 2147483629))) (fC (.int 48271))) (aA kC (fC (.int 40692)) (ag 1))) (fC (.int 5))) (fC (.int 2147483629))) (fC (.int 1))) ah))))))))
def Ar:List D->Dm D:=eI 4 CV
def As:Stmt:=top 44
theorem xG:ax ["_law_script","_law_k","_law_cell","_law_own"] ["_law_script","_law_k"] (au As):=⟨rfl,rfl,rfl,by decide +kernel,rfl,by decide +kernel,by decide +kernel⟩
theorem O2 {f:Addr} {fd:FuncData} (D:Def K mg "_law_feed" As ["_law_script","_law_k"] f fd) (T:Txt mg)  :az P w K mg base bg 1 f fd ["_law_script","_law_k"] (bj K 2 Ar):=by
 refine D.F.ok xG (fun vs H Q E h=>h.1) (fun cdv A outer s H vs Q E hr h=>?_)
 have hu:=hr.units
 have hu1:=fm hr
 refine ⟨_,(@bD _ _ _ _ _ (@cM (i:=2) _ _ _ _ _ _ xG.nd rfl (by first | exact Or.inl rfl | exact Or.inr rfl) (bG km (bG qz aM (pv 1)) aM) (by rfl) (by first | exact .inl rfl | exact .inr rfl | assumption))
  (@bD _ _ _ _ _ (@kq _ _ _ _ _ _ _ _ (iK B6 (pv 1) (lq ma (by rfl) T.c5 md (@ao _ _ _ _ _ (pv 0) aC (by rfl))) (aT _)) (@bz _ _ _ (@cM (i:=2) _ _ _ _ _ _ xG.nd rfl (by first | exact Or.inl rfl | exact Or.inr rfl) (@bA _ _ _ _ _ _ _ l9 (pv 0) (pv 1) (fun _ _=>rfl)) (by rfl) (by first | exact .inl rfl | exact .inr rfl | assumption))) (@bz _ _ _ (@kq _ _ _ _ _ _ _ _ (iK Ew (lq ma (by rfl) T.c5 md (@ao _ _ _ _ _ (pv 0) aC (by rfl))) aM (aT _)) (@bz _ _ _ (@cM (i:=2) _ _ _ _ _ _ xG.nd rfl (by first | exact Or.inl rfl | exact Or.inr rfl) (bG km (bG qz (bG pe (@bA _ _ _ _ _ _ _ l9 (pv 0) (bG pe (pv 1) (lq ma (by rfl) T.c5 md (@ao _ _ _ _ _ (pv 0) aC (by rfl)))) (fun _ _=>rfl)) aM) aM) (bG qz aM (pv 1))) (by rfl) (by first | exact .inl rfl | exact .inr rfl | assumption))) lp)))
  (@bD _ _ _ _ _ (@cM (i:=3) _ _ _ _ _ _ xG.nd rfl (by first | exact Or.inl rfl | exact Or.inr rfl) aM (by rfl) (by first | exact .inl rfl | exact .inr rfl | assumption))
  (@bD _ _ _ _ _ (@kq _ _ _ _ _ _ _ _ (iK yw (pv 2) (bG Hg aM aM) (aT _)) (@bz _ _ _ (@cM (i:=3) _ _ _ _ _ _ xG.nd rfl (by first | exact Or.inl rfl | exact Or.inr rfl) (pv 2) (by rfl) (by first | exact .inl rfl | exact .inr rfl | assumption))) lp)
  (@bz _ _ _ (@dC _ _ _ _ (@lV _ _ _ _ (@ao _ _ _ _ _ (pv 3) (@ao _ _ _ _ _ (bG km (bG pe (bG Hg (bG km (bG qz (bG pe (pv 2) aM) aM) (bG qz aM (pv 1))) aM) aM) aM) aC (by rfl)) (by rfl))))))))),?_⟩
 exact fB (b:=CV) (bE (b7 (aB kn (aB qH (aN _) (ai 1)) (aN _)) (a8 2))
  (bE (kF (iH (aB CH (ai 1) (c4 ml (aq (ai 0) aD)))) (b7 (aB mh (ai 0) (ai 1)) (a8 2)) (kF (iH (aB FU (c4 ml (aq (ai 0) aD)) (aN _))) (b7 (aB kn (aB qH (aB pq (aB mh (ai 0) (aB pq (ai 1) (c4 ml (aq (ai 0) aD)))) (aN _)) (aN _)) (aB qH (aN _) (ai 1))) (a8 2)) ly))
  (bE (b7 (aN _) (a8 3))
  (bE (kF (iH (aB zH (ai 2) (aB Jz (aN _) (aN _)))) (b7 (ai 2) (a8 3)) ly)
  (dD (lX (aq (ai 3) (aq (aB kn (aB pq (aB Jz (aB kn (aB qH (aB pq (ai 2) (aN _)) (aN _)) (aB qH (aN _) (ai 1))) (aN _)) (aN _)) (aN _)) aD)))))))) rfl h
def CW:aj->Dm Fl :=
 (aI (jM (aR (aA zF (aA eJ (ag 0) (fC (.int 0))) (fC (.int 0)))) (aI (aO (aA jN (aA eJ (ag 0) (fC (.int 0))) (ag 1)) (hName 2))
 (aI (aO (aA nK (aA eJ (ag 0) (fC (.int 0))) (ag 1)) (hSub (ag 0) (fC (.int 0))))
 (a7 (ag 2)))) b8)
 (aI (aO (aA jN (aA kC (aA eJ (ag 0) (fC (.int 1))) (fC (.int 48271))) (fC (.int 2147483647))) (hName 3))
 (aI (aO (aA dj (aA jN (aA dj (aA kC (ag 3) (fC (.int 40692))) (fC (.int 30103))) (fC (.int 2147483399))) (fC (.int 1))) (hSub (ag 0) (fC (.int 1))))
 (a7 (aA jN (aA nK (aA dj (aA kC (ag 3) (fC (.int 2147483647))) (aA eJ (ag 0) (fC (.int 1)))) (fC (.int 8191))) (ag 1))))))
def kI:List D->Dm D:=eI 4 CW
def rO:Stmt:=top 45
theorem Gq:ax ["_law_feed_here","_law_many","_law_digit","_law_one"] ["_law_feed_here","_law_many"] (au rO):=⟨rfl,rfl,rfl,by decide +kernel,rfl,by decide +kernel,by decide +kernel⟩
theorem O3 {f:Addr} {fd:FuncData} (D:Def K mg "_law_take" rO ["_law_feed_here","_law_many"] f fd) (T:Txt mg)  :az P w K mg base bg 1 f fd ["_law_feed_here","_law_many"] (bj K 2 kI):=by
 refine D.F.ok Gq (fun vs H Q E h=>h.1) (fun cdv A outer s H vs Q E hr h=>?_)
 have hu:=hr.units
 have hu1:=fm hr
 refine ⟨_,(@bD _ _ _ _ _ (@kq _ _ _ _ _ _ _ _ (iK Ew (@bA _ _ _ _ _ _ _ l9 (pv 0) aM (fun _ _=>rfl)) aM (aT _)) (@bD _ _ _ _ _ (@cM (i:=2) _ _ _ _ _ _ Gq.nd rfl (by first | exact Or.inl rfl | exact Or.inr rfl) (bG pe (@bA _ _ _ _ _ _ _ l9 (pv 0) aM (fun _ _=>rfl)) (pv 1)) (by rfl) (by first | exact .inl rfl | exact .inr rfl | assumption))
  (@bD _ _ _ _ _ (qT (bG Hf (@bA _ _ _ _ _ _ _ l9 (pv 0) aM (fun _ _=>rfl)) (pv 1)) (xa (pv 0) aM xh))
  (@bz _ _ _ (@dC _ _ _ _ (pv 2))))) lp)
  (@bD _ _ _ _ _ (@cM (i:=3) _ _ _ _ _ _ Gq.nd rfl (by first | exact Or.inl rfl | exact Or.inr rfl) (bG pe (bG qz (@bA _ _ _ _ _ _ _ l9 (pv 0) aM (fun _ _=>rfl)) aM) aM) (by rfl) (by first | exact .inl rfl | exact .inr rfl | assumption))
  (@bD _ _ _ _ _ (qT (bG km (bG pe (bG km (bG qz (pv 3) aM) aM) aM) aM) (xa (pv 0) aM xh))
  (@bz _ _ _ (@dC _ _ _ _ (bG pe (bG Hf (bG km (bG qz (pv 3) aM) (@bA _ _ _ _ _ _ _ l9 (pv 0) aM (fun _ _=>rfl))) aM) (pv 1))))))),?_⟩
 exact fB (b:=CW) (bE (kF (iH (aB FU (aB mh (ai 0) (aN _)) (aN _))) (bE (b7 (aB pq (aB mh (ai 0) (aN _)) (ai 1)) (a8 2))
  (bE (b7 (aB Jy (aB mh (ai 0) (aN _)) (ai 1)) (xC (ai 0) (aN _)))
  (dD (ai 2)))) ly)
  (bE (b7 (aB pq (aB qH (aB mh (ai 0) (aN _)) (aN _)) (aN _)) (a8 3))
  (bE (b7 (aB kn (aB pq (aB kn (aB qH (ai 3) (aN _)) (aN _)) (aN _)) (aN _)) (xC (ai 0) (aN _)))
  (dD (aB pq (aB Jy (aB kn (aB qH (ai 3) (aN _)) (aB mh (ai 0) (aN _))) (aN _)) (ai 1)))))) rfl h
def CY:aj->Dm Fl :=
 (aI (aO (aS dF (ae (aS gN (ae (ag 1) ah)) ah)) (hName 2))
 (aI (aO (b6 ah) (hName 3))
 (aI (iU (aR (aA (iI true) (ag 2) (er ah))) (aO (aA jI (ag 3) (b6 (ae (n6 "list" kE (ag 2) (ae (aS kI (ae (ag 0) (ae (aS eK (ae (ag 2) ah)) ah))) ah)) ah))) (hName 3)))
 (a7 (ag 3)))))
def wD:List D->Dm D:=eI 4 CY
def Au:Stmt:=top 46
theorem CZ:ax ["_law_feed_here","_law_n","_law_left","_law_found"] ["_law_feed_here","_law_n"] (au Au):=⟨rfl,rfl,rfl,by decide +kernel,rfl,by decide +kernel,by decide +kernel⟩
theorem O4 {f:Addr} {fd:FuncData} (D:Def K mg "_law_turning" Au ["_law_feed_here","_law_n"] f fd) (T:Txt mg)  {aX:Addr} {aY:FuncData} (av:Def K mg "_law_take" rO ["_law_feed_here","_law_many"] aX aY) (aQ:az P w K mg base bg 1 aX aY ["_law_feed_here","_law_many"] (bj K 2 kI)):az P w K mg base bg 2 f fd ["_law_feed_here","_law_n"] (bj K 2 wD):=by
 refine D.F.ok CZ (fun vs H Q E h=>h.1) (fun cdv A outer s H vs Q E hr h=>?_)
 have hu:=hr.units
 have hu1:=fm hr
 refine ⟨_,(@bD _ _ _ _ _ (@cM (i:=2) _ _ _ _ _ _ CZ.nd rfl (by first | exact Or.inl rfl | exact Or.inr rfl) (gw (qD rfl) (by rfl) T.dI oW (@ao _ _ _ _ _ (gw Cd (by rfl) T.a5 qC (@ao _ _ _ _ _ (pv 1) aC (by rfl))) aC (by rfl))) (by rfl) (by first | exact .inl rfl | exact .inr rfl | assumption))
  (@bD _ _ _ _ _ (@cM (i:=3) _ _ _ _ _ _ CZ.nd rfl (by first | exact Or.inl rfl | exact Or.inr rfl) (@iD _ _ _ _ _ aC) (by rfl) (by first | exact .inl rfl | exact .inr rfl | assumption))
  (@bD _ _ _ _ _ (xb PassesOwn.never (iK (xk hu) (pv 2) (@lV _ _ _ _ aC) (aT _)) (@bz _ _ _ (@cM (i:=3) _ _ _ _ _ _ CZ.nd rfl (by first | exact Or.inl rfl | exact Or.inr rfl) (bG uE (pv 3) (@iD _ _ _ _ _ (@ao _ _ _ _ _ (qB PySem.F.plainAttrs_list PySem.F.slot_list_pop PySem.F.type_list_pop Lq (pv 2) (@ao _ _ _ _ _ (bR aQ (hr.mono (by decide)) rfl av.m av.F.kp av.b .nil ay (@ao _ _ _ _ _ (pv 0) (@ao _ _ _ _ _ (lq ma (by rfl) T.c5 md (@ao _ _ _ _ _ (pv 2) aC (by rfl))) aC (by rfl)) (by rfl))) aC (by rfl))) aC (by rfl)))) (by rfl) (by first | exact .inl rfl | exact .inr rfl | assumption))))
  (@bz _ _ _ (@dC _ _ _ _ (pv 3)))))),?_⟩
 exact fB (b:=CY) (bE (b7 (c4 qJ (aq (c4 CK (aq (ai 1) aD)) aD)) (a8 2))
  (bE (b7 (iG aD) (a8 3))
  (bE (xD (iH (aB (u9 true) (ai 2) (lX aD))) (b7 (aB vf (ai 3) (iG (aq (pB Ny (ai 2) (aq (bS (F:=kI) (aq (ai 0) (aq (c4 ml (aq (ai 2) aD)) aD)) (aV (aV (fun _ _ _ _ h=>bT h)))) aD)) aD))) (a8 3)))
  (dD (ai 3))))) rfl h
def C0:aj->Dm Fl :=
 (aI (aO (er (ae (fC (.int 0)) ah)) (hName 1))
 (aI (dG (b9 (ae (aA dj (fC (.int 1)) (aS eK (ae (aA aL (ag 0) (fC (.int 0))) ah))) ah)) (hName 2) (dG (fz (ag 0)) (hName 3) (dG (kG (aS mC (ae (ag 1) ah))) (hName 4) (jM (aR (aA (pA true) (aA aL (ag 3) (ag 4)) (ag 1))) (iT (n6 "list" dm (ag 1) (ae (aA aL (ag 3) (ag 4)) ah))) b8))))
 (a7 (ag 1))))
def rP:List D->Dm D:=eI 5 C0
def Av:Stmt:=top 47
theorem Aw:ax ["_law_floor_here","_law_found","_law_turn","_law_turning_here","_law_one"] ["_law_floor_here"] (au Av):=⟨rfl,rfl,rfl,by decide +kernel,rfl,by decide +kernel,by decide +kernel⟩
theorem O5 {f:Addr} {fd:FuncData} (D:Def K mg "_law_met" Av ["_law_floor_here"] f fd) (T:Txt mg)  :az P w K mg base bg 1 f fd ["_law_floor_here"] (bj K 1 rP):=by
 refine D.F.ok Aw (fun vs H Q E h=>h.1) (fun cdv A outer s H vs Q E hr h=>?_)
 have hu:=hr.units
 have hu1:=fm hr
 refine ⟨_,(@bD _ _ _ _ _ (@cM (i:=1) _ _ _ _ _ _ Aw.nd rfl (by first | exact Or.inl rfl | exact Or.inr rfl) (@lV _ _ _ _ (@ao _ _ _ _ _ aM aC (by rfl))) (by rfl) (by first | exact .inl rfl | exact .inr rfl | assumption))
  (@bD _ _ _ _ _ (@lU _ _ _ _ _ _ _ _ PassesOwn.never rfl (nV rfl T.a5 (@ao _ _ _ _ _ (bG km aM (lq ma (by rfl) T.c5 md (@ao _ _ _ _ _ (@bA _ _ _ _ _ _ _ b5 (pv 0) aM (fun _ _=>rfl)) aC (by rfl)))) aC (by rfl))) (eZ (i:=2) Aw.nd rfl (by first | exact Or.inl rfl | exact Or.inr rfl)) (@bz _ _ _ (@lU _ _ _ _ _ _ _ _ PassesOwn.never rfl (pb (pv 0)) (eZ (i:=3) Aw.nd rfl (by first | exact Or.inl rfl | exact Or.inr rfl)) (@bz _ _ _ (@lU _ _ _ _ _ _ _ _ PassesOwn.never rfl (Es (gw EK (by rfl) T.dI oW (@ao _ _ _ _ _ (pv 1) aC (by rfl)))) (eZ (i:=4) Aw.nd rfl (by first | exact Or.inl rfl | exact Or.inr rfl)) (@bz _ _ _ (@kq _ _ _ _ _ _ _ _ (iK B9 (@bA _ _ _ _ _ _ _ b5 (pv 3) (pv 4) (fun _ _=>rfl)) (pv 1) (by with_unfolding_all rfl)) (@bz _ _ _ (rY (qB PySem.F.plainAttrs_list PySem.F.slot_list_append PySem.F.type_list_append sv (pv 1) (@ao _ _ _ _ _ (@bA _ _ _ _ _ _ _ b5 (pv 3) (pv 4) (fun _ _=>rfl)) aC (by rfl))))) lp)) (by intro _;rfl))) (by intro _;rfl))) (by intro _;rfl))
  (@bz _ _ _ (@dC _ _ _ _ (pv 1))))),?_⟩
 exact fB (b:=C0) (bE (b7 (lX (aq (aN _) aD)) (a8 1))
  (bE (lY (n8 (aq (aB kn (aN _) (c4 ml (aq (aB bU (ai 0) (aN _)) aD))) aD)) (a8 2) (lY (pC (ai 0)) (a8 3) (lY (FZ (c4 FW (aq (ai 1) aD))) (a8 4) (kF (iH (aB (zJ true) (aB bU (ai 3) (ai 4)) (ai 1))) (tm (pB sZ (ai 1) (aq (aB bU (ai 3) (ai 4)) aD))) ly))))
  (dD (ai 1)))) rfl h
def C1:aj->Dm Fl :=
 (aI (aO (aS kI (ae (ag 0) (ae (fC (.int 6)) ah))) (hName 2))
 (aI (o6 3 4 (ae (aS mC (ae (aS wD (ae (ag 0) (ae (ag 1) ah))) ah)) (ae (aS mC (ae (aS wD (ae (ag 0) (ae (ag 1) ah))) ah)) ah)))
 (aI (jM (aR (aA (kD false) (ag 2) (fC (.int 0)))) (aO (aA mj (aS dF (ae (aS eM (ae (fC (.int 1)) (ae (ag 1) ah))) ah)) (er (ae (fC (.int 0)) ah))) (hName 3)) b8)
 (aI (jM (aR (aA (kD false) (ag 2) (fC (.int 1)))) (o6 3 4 (ae (aS dF (ae (aS gN (ae (ag 1) ah)) ah)) (ae (aA mj (aS dF (ae (aS eM (ae (fC (.int 1)) (ae (ag 1) ah))) ah)) (er (ae (fC (.int 0)) ah))) ah))) b8)
 (aI (jM (aR (aA (kD false) (ag 2) (fC (.int 2)))) (aI (aO (aA dj (fC (.int 1)) (aS kI (ae (ag 0) (ae (ag 1) ah)))) (hName 5))
 (aI (aO (aA mj (aA mj (aS dF (ae (aS eM (ae (fC (.int 1)) (ae (ag 5) ah))) ah)) (er (ae (fC (.int 0)) ah))) (aS dF (ae (aS eM (ae (ag 5) (ae (ag 1) ah))) ah))) (hName 3))
 (aI (aO (xw qd (aA mj (aA mj (aA mj (er (ae (ag 5) ah)) (aS dF (ae (aS eM (ae (fC (.int 1)) (ae (ag 5) ah))) ah))) (aS dF (ae (aS eM (ae (aA dj (ag 5) (fC (.int 1))) (ae (ag 1) ah))) ah))) (er (ae (fC (.int 0)) ah))) ke (mB (ag 1))) (hName 4))
 (jM (aR (aA (kD false) (ag 5) (ag 1))) (aO (aS dF (ae (aS gN (ae (ag 1) ah)) ah)) (hName 4)) b8)))) b8)
 (aI (aO (b6 (ae (aS bW (ae (ag 3) ah)) (ae (aS bW (ae (ag 4) ah)) ah))) (hName 6))
 (aI (aO (ef (b9 (ae (ag 1) ah)) 1 [6] (hName 0) (aR (aA (pA true) (ag 0) (aS rP (ae (ag 1) ah)))) (ag 0)) (hName 7))
 (aI (iU (aR (aA (iI true) (ag 7) (er ah))) (aI (aO (aA eJ (ag 7) (fC (.int 0))) (hName 8))
 (aI (aO (b6 (ae (aA eJ (ag 3) (ag 8)) (ae (aA eJ (ag 3) (fC (.int 0))) ah))) (lL 2 (cY (hSub (ag 3) (fC (.int 0))) (cY (hSub (ag 3) (ag 8)) mq))))
 (aI (aO (b6 (ae (aS bW (ae (ag 3) ah)) (ae (aS bW (ae (ag 4) ah)) ah))) (hName 6))
 (aO (ef (b9 (ae (ag 1) ah)) 1 [6] (hName 0) (aR (aA (pA true) (ag 0) (aS rP (ae (ag 1) ah)))) (ag 0)) (hName 7))))))
 (a7 (ag 6))))))))))
def Ax:List D->Dm D:=eI 9 C1
def Ay:Stmt:=top 48
theorem oK:ax ["_law_feed_here","_law_n","_law_form_here","_law_right_here","_law_up","_law_wide","_law_found","_law_apart","_law_m"] ["_law_feed_here","_law_n"] (au Ay):=⟨rfl,rfl,rfl,by decide +kernel,rfl,by decide +kernel,by decide +kernel⟩
theorem O6 {f:Addr} {fd:FuncData} (D:Def K mg "_law_floor" Ay ["_law_feed_here","_law_n"] f fd) (T:Txt mg)  {aX:Addr} {aY:FuncData} (av:Def K mg "_law_take" rO ["_law_feed_here","_law_many"] aX aY) (aQ:az P w K mg base bg 1 aX aY ["_law_feed_here","_law_many"] (bj K 2 kI)) {dZ:Addr} {d0:FuncData} (bq:Def K mg "_law_turning" Au ["_law_feed_here","_law_n"] dZ d0) (d3:az P w K mg base bg 2 dZ d0 ["_law_feed_here","_law_n"] (bj K 2 wD)) {jl:Addr} {jm:FuncData} (cR:Def K mg "_law_met" Av ["_law_floor_here"] jl jm) (jn:az P w K mg base bg 1 jl jm ["_law_floor_here"] (bj K 1 rP)):az P w K mg base bg 3 f fd ["_law_feed_here","_law_n"] (bj K 2 Ax):=by
 refine D.F.ok oK (fun vs H Q E h=>h.1) (fun cdv A outer s H vs Q E hr h=>?_)
 have hu:=hr.units
 have hu1:=fm hr
 refine ⟨_,(@bD _ _ _ _ _ (@cM (i:=2) _ _ _ _ _ _ oK.nd rfl (by first | exact Or.inl rfl | exact Or.inr rfl) (bR aQ (hr.mono (by decide)) rfl av.m av.F.kp av.b .nil ay (@ao _ _ _ _ _ (pv 0) (@ao _ _ _ _ _ aM aC (by rfl)) (by rfl))) (by rfl) (by first | exact .inl rfl | exact .inr rfl | assumption))
  (@bD _ _ _ _ _ (Eo (i:=3) (j:=4) rfl oK.nd rfl rfl (by decide) rfl rfl (@ao _ _ _ _ _ (gw EK (by rfl) T.dI oW (@ao _ _ _ _ _ (bR d3 (hr.mono (by decide)) rfl bq.m bq.F.kp bq.b .nil ay (@ao _ _ _ _ _ (pv 0) (@ao _ _ _ _ _ (pv 1) aC (by rfl)) (by rfl))) aC (by rfl))) (@ao _ _ _ _ _ (gw EK (by rfl) T.dI oW (@ao _ _ _ _ _ (bR d3 (hr.mono (by decide)) rfl bq.m bq.F.kp bq.b .nil ay (@ao _ _ _ _ _ (pv 0) (@ao _ _ _ _ _ (pv 1) aC (by rfl)) (by rfl))) aC (by rfl))) aC (by rfl)) (by rfl)) rfl)
  (@bD _ _ _ _ _ (@kq _ _ _ _ _ _ _ _ (iK ni (pv 2) aM (aT _)) (@bz _ _ _ (@cM (i:=3) _ _ _ _ _ _ oK.nd rfl (by first | exact Or.inl rfl | exact Or.inr rfl) (bG uA (gw (qD rfl) (by rfl) T.dI oW (@ao _ _ _ _ _ (gw xj (by rfl) T.a5 qC (@ao _ _ _ _ _ aM (@ao _ _ _ _ _ (pv 1) aC (by rfl)) (by rfl))) aC (by rfl))) (@lV _ _ _ _ (@ao _ _ _ _ _ aM aC (by rfl)))) (by rfl) (by first | exact .inl rfl | exact .inr rfl | assumption))) lp)
  (@bD _ _ _ _ _ (@kq _ _ _ _ _ _ _ _ (iK ni (pv 2) aM (aT _)) (@bz _ _ _ (Eo (i:=3) (j:=4) rfl oK.nd rfl rfl (by decide) rfl rfl (@ao _ _ _ _ _ (gw (qD rfl) (by rfl) T.dI oW (@ao _ _ _ _ _ (gw Cd (by rfl) T.a5 qC (@ao _ _ _ _ _ (pv 1) aC (by rfl))) aC (by rfl))) (@ao _ _ _ _ _ (bG uA (gw (qD rfl) (by rfl) T.dI oW (@ao _ _ _ _ _ (gw xj (by rfl) T.a5 qC (@ao _ _ _ _ _ aM (@ao _ _ _ _ _ (pv 1) aC (by rfl)) (by rfl))) aC (by rfl))) (@lV _ _ _ _ (@ao _ _ _ _ _ aM aC (by rfl)))) aC (by rfl)) (by rfl)) rfl)) lp)
  (@bD _ _ _ _ _ (@kq _ _ _ _ _ _ _ _ (iK ni (pv 2) aM (aT _)) (@bD _ _ _ _ _ (@cM (i:=5) _ _ _ _ _ _ oK.nd rfl (by first | exact Or.inl rfl | exact Or.inr rfl) (bG km aM (bR aQ (hr.mono (by decide)) rfl av.m av.F.kp av.b .nil ay (@ao _ _ _ _ _ (pv 0) (@ao _ _ _ _ _ (pv 1) aC (by rfl)) (by rfl)))) (by rfl) (by first | exact .inl rfl | exact .inr rfl | assumption))
  (@bD _ _ _ _ _ (@cM (i:=3) _ _ _ _ _ _ oK.nd rfl (by first | exact Or.inl rfl | exact Or.inr rfl) (bG uA (bG uA (gw (qD rfl) (by rfl) T.dI oW (@ao _ _ _ _ _ (gw xj (by rfl) T.a5 qC (@ao _ _ _ _ _ aM (@ao _ _ _ _ _ (pv 5) aC (by rfl)) (by rfl))) aC (by rfl))) (@lV _ _ _ _ (@ao _ _ _ _ _ aM aC (by rfl)))) (gw (qD rfl) (by rfl) T.dI oW (@ao _ _ _ _ _ (gw xj (by rfl) T.a5 qC (@ao _ _ _ _ _ (pv 5) (@ao _ _ _ _ _ (pv 1) aC (by rfl)) (by rfl))) aC (by rfl)))) (by rfl) (by first | exact .inl rfl | exact .inr rfl | assumption))
  (@bD _ _ _ _ _ (@cM (i:=4) _ _ _ _ _ _ oK.nd rfl (by first | exact Or.inl rfl | exact Or.inr rfl) (EE HD (bG uA (bG uA (bG uA (@lV _ _ _ _ (@ao _ _ _ _ _ (pv 5) aC (by rfl))) (gw (qD rfl) (by rfl) T.dI oW (@ao _ _ _ _ _ (gw xj (by rfl) T.a5 qC (@ao _ _ _ _ _ aM (@ao _ _ _ _ _ (pv 5) aC (by rfl)) (by rfl))) aC (by rfl)))) (gw (qD rfl) (by rfl) T.dI oW (@ao _ _ _ _ _ (gw xj (by rfl) T.a5 qC (@ao _ _ _ _ _ (bG km (pv 5) aM) (@ao _ _ _ _ _ (pv 1) aC (by rfl)) (by rfl))) aC (by rfl)))) (@lV _ _ _ _ (@ao _ _ _ _ _ aM aC (by rfl)))) EC (ED (pv 1))) (by rfl) (by first | exact .inl rfl | exact .inr rfl | assumption))
  (@bz _ _ _ (@kq _ _ _ _ _ _ _ _ (iK ni (pv 5) (pv 1) (aT _)) (@bz _ _ _ (@cM (i:=4) _ _ _ _ _ _ oK.nd rfl (by first | exact Or.inl rfl | exact Or.inr rfl) (gw (qD rfl) (by rfl) T.dI oW (@ao _ _ _ _ _ (gw Cd (by rfl) T.a5 qC (@ao _ _ _ _ _ (pv 1) aC (by rfl))) aC (by rfl))) (by rfl) (by first | exact .inl rfl | exact .inr rfl | assumption))) lp))))) lp)
  (@bD _ _ _ _ _ (@cM (i:=6) _ _ _ _ _ _ oK.nd rfl (by first | exact Or.inl rfl | exact Or.inr rfl) (@iD _ _ _ _ _ (@ao _ _ _ _ _ (gw nF (by rfl) T.bJ nG (@ao _ _ _ _ _ (pv 3) aC (by rfl))) (@ao _ _ _ _ _ (gw nF (by rfl) T.bJ nG (@ao _ _ _ _ _ (pv 4) aC (by rfl))) aC (by rfl)) (by rfl))) (by rfl) (by first | exact .inl rfl | exact .inr rfl | assumption))
  (@bD _ _ _ _ _ (Ii (i:=7) (own:=["_law_s"]) (fr:=["_law_found"]) (js:=[6]) rfl oK.nd rfl rfl ⟨⟨rfl,by decide +kernel,by decide +kernel,by dsimp only [iN,aW,Cx.nT,Cx.wish,PyProof.Rows.envOfC,compEnvC,relabel,Env.kindOf];decide +kernel,by decide +kernel⟩,rfl⟩ (nV rfl T.a5 (@ao _ _ _ _ _ (pv 1) aC (by rfl))) (fun _ _ _ _ _=>(eZ (i:=0) (show ((["_law_s"]:List Str) ++ (["_law_found"]:List Str)).Nodup by decide +kernel) rfl (by first | exact Or.inl rfl | exact Or.inr rfl))) (fun _ _ _ _ _=>(HZ (iK (Il (K:=K) rfl) (pv 0) (bR jn (hr.mono (by decide)) rfl cR.m cR.F.kp cR.b .nil ay (@ao _ _ _ _ _ (pv 1) aC (by rfl))) (by with_unfolding_all rfl)))) (fun _ _ _ _ _=>(pv 0)))
  (@bD _ _ _ _ _ (xb PassesOwn.never (iK (xk hu) (pv 7) (@lV _ _ _ _ aC) (aT _)) (@bD _ _ _ _ _ (@cM (i:=8) _ _ _ _ _ _ oK.nd rfl (by first | exact Or.inl rfl | exact Or.inr rfl) (@bA _ _ _ _ _ _ _ l9 (pv 7) aM (fun _ _=>rfl)) (by rfl) (by first | exact .inl rfl | exact .inr rfl | assumption))
  (@bD _ _ _ _ _ (qT (@iD _ _ _ _ _ (@ao _ _ _ _ _ (@bA _ _ _ _ _ _ _ l9 (pv 3) (pv 8) (fun _ _=>rfl)) (@ao _ _ _ _ _ (@bA _ _ _ _ _ _ _ l9 (pv 3) aM (fun _ _=>rfl)) aC (by rfl)) (by rfl))) (r9 (n:=2) rfl (mw (xa (pv 3) aM xh) (mw (xa (pv 3) (pv 8) xh) r6))))
  (@bD _ _ _ _ _ (@cM (i:=6) _ _ _ _ _ _ oK.nd rfl (by first | exact Or.inl rfl | exact Or.inr rfl) (@iD _ _ _ _ _ (@ao _ _ _ _ _ (gw nF (by rfl) T.bJ nG (@ao _ _ _ _ _ (pv 3) aC (by rfl))) (@ao _ _ _ _ _ (gw nF (by rfl) T.bJ nG (@ao _ _ _ _ _ (pv 4) aC (by rfl))) aC (by rfl)) (by rfl))) (by rfl) (by first | exact .inl rfl | exact .inr rfl | assumption))
  (@bz _ _ _ (Ii (i:=7) (own:=["_law_s"]) (fr:=["_law_found"]) (js:=[6]) rfl oK.nd rfl rfl ⟨⟨rfl,by decide +kernel,by decide +kernel,by dsimp only [iN,aW,Cx.nT,Cx.wish,PyProof.Rows.envOfC,compEnvC,relabel,Env.kindOf];decide +kernel,by decide +kernel⟩,rfl⟩ (nV rfl T.a5 (@ao _ _ _ _ _ (pv 1) aC (by rfl))) (fun _ _ _ _ _=>(eZ (i:=0) (show ((["_law_s"]:List Str) ++ (["_law_found"]:List Str)).Nodup by decide +kernel) rfl (by first | exact Or.inl rfl | exact Or.inr rfl))) (fun _ _ _ _ _=>(HZ (iK (Il (K:=K) rfl) (pv 0) (bR jn (hr.mono (by decide)) rfl cR.m cR.F.kp cR.b .nil ay (@ao _ _ _ _ _ (pv 1) aC (by rfl))) (by with_unfolding_all rfl)))) (fun _ _ _ _ _=>(pv 0))))))))
  (@bz _ _ _ (@dC _ _ _ _ (pv 6))))))))))),?_⟩
 exact fB (b:=C1) (bE (b7 (bS (F:=kI) (aq (ai 0) (aq (aN _) aD)) (aV (aV (fun _ _ _ _ h=>bT h)))) (a8 2))
  (bE (FY (aq (c4 FW (aq (bS (F:=wD) (aq (ai 0) (aq (ai 1) aD)) (aV (aV (fun _ _ _ _ h=>bT h)))) aD)) (aq (c4 FW (aq (bS (F:=wD) (aq (ai 0) (aq (ai 1) aD)) (aV (aV (fun _ _ _ _ h=>bT h)))) aD)) aD)))
  (bE (kF (iH (aB ny (ai 2) (aN _))) (b7 (aB vg (c4 qJ (aq (c4 xB (aq (aN _) (aq (ai 1) aD))) aD)) (lX (aq (aN _) aD))) (a8 3)) ly)
  (bE (kF (iH (aB ny (ai 2) (aN _))) (FY (aq (c4 qJ (aq (c4 CK (aq (ai 1) aD)) aD)) (aq (aB vg (c4 qJ (aq (c4 xB (aq (aN _) (aq (ai 1) aD))) aD)) (lX (aq (aN _) aD))) aD))) ly)
  (bE (kF (iH (aB ny (ai 2) (aN _))) (bE (b7 (aB kn (aN _) (bS (F:=kI) (aq (ai 0) (aq (ai 1) aD)) (aV (aV (fun _ _ _ _ h=>bT h))))) (a8 5))
  (bE (b7 (aB vg (aB vg (c4 qJ (aq (c4 xB (aq (aN _) (aq (ai 5) aD))) aD)) (lX (aq (aN _) aD))) (c4 qJ (aq (c4 xB (aq (ai 5) (aq (ai 1) aD))) aD))) (a8 3))
  (bE (b7 (FR JA (aB vg (aB vg (aB vg (lX (aq (ai 5) aD)) (c4 qJ (aq (c4 xB (aq (aN _) (aq (ai 5) aD))) aD))) (c4 qJ (aq (c4 xB (aq (aB kn (ai 5) (aN _)) (aq (ai 1) aD))) aD))) (lX (aq (aN _) aD))) FP (FQ (ai 1))) (a8 4))
  (kF (iH (aB ny (ai 5) (ai 1))) (b7 (c4 qJ (aq (c4 CK (aq (ai 1) aD)) aD)) (a8 4)) ly)))) ly)
  (bE (b7 (iG (aq (c4 nL (aq (ai 3) aD)) (aq (c4 nL (aq (ai 4) aD)) aD))) (a8 6))
  (bE (b7 (qg (n8 (aq (ai 1) aD)) (a8 0) (iH (aB (zJ true) (ai 0) (bS (F:=rP) (aq (ai 1) aD) (aV (fun _ _ _ _ h=>bT h))))) (ai 0)) (a8 7))
  (bE (xD (iH (aB (u9 true) (ai 7) (lX aD))) (bE (b7 (aB mh (ai 7) (aN _)) (a8 8))
  (bE (b7 (iG (aq (aB mh (ai 3) (ai 8)) (aq (aB mh (ai 3) (aN _)) aD))) (tj (mE (xC (ai 3) (aN _)) (mE (xC (ai 3) (ai 8)) tf))))
  (bE (b7 (iG (aq (c4 nL (aq (ai 3) aD)) (aq (c4 nL (aq (ai 4) aD)) aD))) (a8 6))
  (b7 (qg (n8 (aq (ai 1) aD)) (a8 0) (iH (aB (zJ true) (ai 0) (bS (F:=rP) (aq (ai 1) aD) (aV (fun _ _ _ _ h=>bT h))))) (ai 0)) (a8 7))))))
  (dD (ai 6)))))))))) rfl h
def C2:aj->Dm Fl :=
 (aI (aO (aA qe (er (ae (fC (.int 0)) ah)) (aS eK (ae (ag 0) ah))) (hName 1))
 (aI (dG (lM (ae (ag 0) ah)) (lL 2 (cY (hName 2) (cY (hName 3) mq))) (aO (ag 2) (hSub (ag 1) (ag 3))))
 (a7 (aS bW (ae (ag 1) ah)))))
def qr:List D->Dm D:=eI 4 C2
def wG:Stmt:=top 26
theorem C3:ax ["turning","back","number","led"] ["turning"] (au wG):=⟨rfl,rfl,rfl,by decide +kernel,rfl,by decide +kernel,by decide +kernel⟩
theorem O7 {f:Addr} {fd:FuncData} (D:Def K mg "turned_back" wG ["turning"] f fd) (T:Txt mg)  :az P w K mg base bg 1 f fd ["turning"] (bj K 1 qr):=by
 refine D.F.ok C3 (fun vs H Q E h=>h.1) (fun cdv A outer s H vs Q E hr h=>?_)
 have hu:=hr.units
 have hu1:=fm hr
 refine ⟨_,(@bD _ _ _ _ _ (@cM (i:=1) _ _ _ _ _ _ C3.nd rfl (by first | exact Or.inl rfl | exact Or.inr rfl) (bG HJ (@lV _ _ _ _ (@ao _ _ _ _ _ aM aC (by rfl))) (lq ma (by rfl) T.c5 md (@ao _ _ _ _ _ (pv 0) aC (by rfl)))) (by rfl) (by first | exact .inl rfl | exact .inr rfl | assumption))
  (@bD _ _ _ _ _ (@lU _ _ _ _ _ _ _ _ PassesOwn.never rfl (Io rfl T.la (@ao _ _ _ _ _ (pv 0) aC (by rfl))) (r9 (n:=2) rfl (mw (eZ (i:=2) C3.nd rfl (by first | exact Or.inl rfl | exact Or.inr rfl)) (mw (eZ (i:=3) C3.nd rfl (by first | exact Or.inl rfl | exact Or.inr rfl)) r6))) (@bz _ _ _ (qT (pv 2) (xa (pv 1) (pv 3) xh))) (by intro _;rfl))
  (@bz _ _ _ (@dC _ _ _ _ (gw nF (by rfl) T.bJ nG (@ao _ _ _ _ _ (pv 1) aC (by rfl))))))),?_⟩
 exact fB (b:=C2) (bE (b7 (aB JH (lX (aq (aN _) aD)) (c4 ml (aq (ai 0) aD))) (a8 1))
  (bE (lY (JJ (aq (ai 0) aD)) (tj (mE (a8 2) (mE (a8 3) tf))) (b7 (ai 2) (xC (ai 1) (ai 3))))
  (dD (c4 nL (aq (ai 1) aD))))) rfl h
def C4:aj->Dm Fl :=
 (a7 (aS bW (ae (ef (fz (ag 0)) 1 [1] (hName 0) fA (aA aL (ag 1) (ag 0))) ah)))
def oM:List D->Dm D:=eI 2 C4
def xH:Stmt:=top 25
theorem O8:ax ["one","other"] ["one","other"] (au xH):=⟨rfl,rfl,rfl,by decide +kernel,rfl,by decide +kernel,by decide +kernel⟩
theorem O9 {f:Addr} {fd:FuncData} (D:Def K mg "followed" xH ["one","other"] f fd) (T:Txt mg)  :az P w K mg base bg 1 f fd ["one","other"] (bj K 2 oM):=by
 refine D.F.ok O8 (fun vs H Q E h=>h.1) (fun cdv A outer s H vs Q E hr h=>?_)
 have hu:=hr.units
 have hu1:=fm hr
 refine ⟨_,(@bz _ _ _ (@dC _ _ _ _ (gw nF (by rfl) T.bJ nG (@ao _ _ _ _ _ (rf (own:=["number"]) (fr:=["other"]) (js:=[1]) rfl ⟨⟨rfl,by decide +kernel,by decide +kernel,by dsimp only [iN,aW,Cx.nT,Cx.wish,PyProof.Rows.envOfC,compEnvC,relabel,Env.kindOf];decide +kernel,by decide +kernel⟩,rfl⟩ (pb (pv 0)) (fun _ _ _ _ _=>(eZ (i:=0) (show ((["number"]:List Str) ++ (["other"]:List Str)).Nodup by decide +kernel) rfl (by first | exact Or.inl rfl | exact Or.inr rfl))) (fun _ _ _ _ _=>q5) (fun _ _ _ _ _=>(@bA _ _ _ _ _ _ _ (Ci (K:=K) rfl) (pv 1) (pv 0) (fun _ _=>rfl)))) aC (by rfl))))),?_⟩
 exact fB (b:=C4) (dD (c4 nL (aq (qg (pC (ai 0)) (a8 0) rK (aB bU (ai 1) (ai 0))) aD))) rfl h
def C5:aj->Dm Fl :=
 (aI (aO (aS qr (ae (ag 1) ah)) (hName 2))
 (aI (aO (aS oM (ae (aS oM (ae (ag 2) (ae (aA aL (ag 0) (fC (.int 0))) ah))) (ae (ag 1) ah))) (hName 3))
 (aI (aO (aS oM (ae (aS oM (ae (ag 2) (ae (aA aL (ag 0) (fC (.int 1))) ah))) (ae (ag 1) ah))) (hName 4))
 (a7 (b6 (ae (ag 3) (ae (ag 4) ah)))))))
def Az:List D->Dm D:=eI 5 C5
def AA:Stmt:=top 33
theorem C6:ax ["floor","p","back","right","up"] ["floor","p"] (au AA):=⟨rfl,rfl,rfl,by decide +kernel,rfl,by decide +kernel,by decide +kernel⟩
theorem Pa {f:Addr} {fd:FuncData} (D:Def K mg "called_anew" AA ["floor","p"] f fd) (T:Txt mg)  {br:Addr} {bu:FuncData} (aP:Def K mg "turned_back" wG ["turning"] br bu) (bF:az P w K mg base bg 1 br bu ["turning"] (bj K 1 qr)) {dJ:Addr} {dM:FuncData} (aU:Def K mg "followed" xH ["one","other"] dJ dM) (cS:az P w K mg base bg 1 dJ dM ["one","other"] (bj K 2 oM)):az P w K mg base bg 2 f fd ["floor","p"] (bj K 2 Az):=by
 refine D.F.ok C6 (fun vs H Q E h=>h.1) (fun cdv A outer s H vs Q E hr h=>?_)
 have hu:=hr.units
 have hu1:=fm hr
 refine ⟨_,(@bD _ _ _ _ _ (@cM (i:=2) _ _ _ _ _ _ C6.nd rfl (by first | exact Or.inl rfl | exact Or.inr rfl) (bR bF (hr.mono (by decide)) rfl aP.m aP.F.kp aP.b .nil ay (@ao _ _ _ _ _ (pv 1) aC (by rfl))) (by rfl) (by first | exact .inl rfl | exact .inr rfl | assumption))
  (@bD _ _ _ _ _ (@cM (i:=3) _ _ _ _ _ _ C6.nd rfl (by first | exact Or.inl rfl | exact Or.inr rfl) (bR cS (hr.mono (by decide)) rfl aU.m aU.F.kp aU.b .nil ay (@ao _ _ _ _ _ (bR cS (hr.mono (by decide)) rfl aU.m aU.F.kp aU.b .nil ay (@ao _ _ _ _ _ (pv 2) (@ao _ _ _ _ _ (@bA _ _ _ _ _ _ _ b5 (pv 0) aM (fun _ _=>rfl)) aC (by rfl)) (by rfl))) (@ao _ _ _ _ _ (pv 1) aC (by rfl)) (by rfl))) (by rfl) (by first | exact .inl rfl | exact .inr rfl | assumption))
  (@bD _ _ _ _ _ (@cM (i:=4) _ _ _ _ _ _ C6.nd rfl (by first | exact Or.inl rfl | exact Or.inr rfl) (bR cS (hr.mono (by decide)) rfl aU.m aU.F.kp aU.b .nil ay (@ao _ _ _ _ _ (bR cS (hr.mono (by decide)) rfl aU.m aU.F.kp aU.b .nil ay (@ao _ _ _ _ _ (pv 2) (@ao _ _ _ _ _ (@bA _ _ _ _ _ _ _ b5 (pv 0) aM (fun _ _=>rfl)) aC (by rfl)) (by rfl))) (@ao _ _ _ _ _ (pv 1) aC (by rfl)) (by rfl))) (by rfl) (by first | exact .inl rfl | exact .inr rfl | assumption))
  (@bz _ _ _ (@dC _ _ _ _ (@iD _ _ _ _ _ (@ao _ _ _ _ _ (pv 3) (@ao _ _ _ _ _ (pv 4) aC (by rfl)) (by rfl)))))))),?_⟩
 exact fB (b:=C5) (bE (b7 (bS (F:=qr) (aq (ai 1) aD) (aV (fun _ _ _ _ h=>bT h))) (a8 2))
  (bE (b7 (bS (F:=oM) (aq (bS (F:=oM) (aq (ai 2) (aq (aB bU (ai 0) (aN _)) aD)) (aV (aV (fun _ _ _ _ h=>bT h)))) (aq (ai 1) aD)) (aV (aV (fun _ _ _ _ h=>bT h)))) (a8 3))
  (bE (b7 (bS (F:=oM) (aq (bS (F:=oM) (aq (ai 2) (aq (aB bU (ai 0) (aN _)) aD)) (aV (aV (fun _ _ _ _ h=>bT h)))) (aq (ai 1) aD)) (aV (aV (fun _ _ _ _ h=>bT h)))) (a8 4))
  (dD (iG (aq (ai 3) (aq (ai 4) aD))))))) rfl h
def C7:aj->Dm Fl :=
 (aI (aO (er (ae (ag 1) ah)) (hName 2))
 (aI (aO (fC (.int 0)) (hName 3))
 (aI (iU (aR (aA xy (ag 3) (aS eK (ae (ag 2) ah)))) (aI (dG (fz (ag 0)) (hName 4) (aI (aO (aA aL (ag 4) (aA eJ (ag 2) (ag 3))) (hName 5))
 (jM (aR (aA (pA true) (ag 5) (ag 2))) (iT (n6 "list" dm (ag 2) (ae (ag 5) ah))) b8)))
 (aO (aA dj (ag 3) (fC (.int 1))) (hName 3))))
 (a7 (aS bW (ae (ag 2) ah))))))
def AB:List D->Dm D:=eI 6 C7
def AE:Stmt:=top 31
theorem xI:ax ["floor","s","squares","place","turning","reached"] ["floor","s"] (au AE):=⟨rfl,rfl,rfl,by decide +kernel,rfl,by decide +kernel,by decide +kernel⟩
theorem Pb {f:Addr} {fd:FuncData} (D:Def K mg "squares_from" AE ["floor","s"] f fd) (T:Txt mg)  :az P w K mg base bg 1 f fd ["floor","s"] (bj K 2 AB):=by
 refine D.F.ok xI (fun vs H Q E h=>h.1) (fun cdv A outer s H vs Q E hr h=>?_)
 have hu:=hr.units
 have hu1:=fm hr
 refine ⟨_,(@bD _ _ _ _ _ (@cM (i:=2) _ _ _ _ _ _ xI.nd rfl (by first | exact Or.inl rfl | exact Or.inr rfl) (@lV _ _ _ _ (@ao _ _ _ _ _ (pv 1) aC (by rfl))) (by rfl) (by first | exact .inl rfl | exact .inr rfl | assumption))
  (@bD _ _ _ _ _ (@cM (i:=3) _ _ _ _ _ _ xI.nd rfl (by first | exact Or.inl rfl | exact Or.inr rfl) aM (by rfl) (by first | exact .inl rfl | exact .inr rfl | assumption))
  (@bD _ _ _ _ _ (xb PassesOwn.never (iK B6 (pv 3) (lq ma (by rfl) T.c5 md (@ao _ _ _ _ _ (pv 2) aC (by rfl))) (aT _)) (@bD _ _ _ _ _ (@lU _ _ _ _ _ _ _ _ PassesOwn.never rfl (pb (pv 0)) (eZ (i:=4) xI.nd rfl (by first | exact Or.inl rfl | exact Or.inr rfl)) (@bD _ _ _ _ _ (@cM (i:=5) _ _ _ _ _ _ xI.nd rfl (by first | exact Or.inl rfl | exact Or.inr rfl) (@bA _ _ _ _ _ _ _ b5 (pv 4) (@bA _ _ _ _ _ _ _ l9 (pv 2) (pv 3) (fun _ _=>rfl)) (fun _ _=>rfl)) (by rfl) (by first | exact .inl rfl | exact .inr rfl | assumption))
  (@bz _ _ _ (@kq _ _ _ _ _ _ _ _ (iK B9 (pv 5) (pv 2) (by with_unfolding_all rfl)) (@bz _ _ _ (rY (qB PySem.F.plainAttrs_list PySem.F.slot_list_append PySem.F.type_list_append sv (pv 2) (@ao _ _ _ _ _ (pv 5) aC (by rfl))))) lp))) (by intro _;rfl))
  (@bz _ _ _ (@cM (i:=3) _ _ _ _ _ _ xI.nd rfl (by first | exact Or.inl rfl | exact Or.inr rfl) (bG km (pv 3) aM) (by rfl) (by first | exact .inl rfl | exact .inr rfl | assumption)))))
  (@bz _ _ _ (@dC _ _ _ _ (gw nF (by rfl) T.bJ nG (@ao _ _ _ _ _ (pv 2) aC (by rfl)))))))),?_⟩
 exact fB (b:=C7) (bE (b7 (lX (aq (ai 1) aD)) (a8 2))
  (bE (b7 (aN _) (a8 3))
  (bE (xD (iH (aB CH (ai 3) (c4 ml (aq (ai 2) aD)))) (bE (lY (pC (ai 0)) (a8 4) (bE (b7 (aB bU (ai 4) (aB mh (ai 2) (ai 3))) (a8 5))
  (kF (iH (aB (zJ true) (ai 5) (ai 2))) (tm (pB sZ (ai 2) (aq (ai 5) aD))) ly)))
  (b7 (aB kn (ai 3) (aN _)) (a8 3))))
  (dD (c4 nL (aq (ai 2) aD)))))) rfl h
def C8:aj->Dm Fl :=
 (a7 (aS qr (ae (aS AB (ae (ag 0) (ae (ag 1) ah))) ah)))
def AF:List D->Dm D:=eI 2 C8
def AG:Stmt:=top 34
theorem Pc:ax ["floor","s"] ["floor","s"] (au AG):=⟨rfl,rfl,rfl,by decide +kernel,rfl,by decide +kernel,by decide +kernel⟩
theorem Pd {f:Addr} {fd:FuncData} (D:Def K mg "numbering_from" AG ["floor","s"] f fd) (T:Txt mg)  {br:Addr} {bu:FuncData} (aP:Def K mg "turned_back" wG ["turning"] br bu) (bF:az P w K mg base bg 1 br bu ["turning"] (bj K 1 qr)) {d4:Addr} {d5:FuncData} (ck:Def K mg "squares_from" AE ["floor","s"] d4 d5) (gi:az P w K mg base bg 1 d4 d5 ["floor","s"] (bj K 2 AB)):az P w K mg base bg 2 f fd ["floor","s"] (bj K 2 AF):=by
 refine D.F.ok Pc (fun vs H Q E h=>h.1) (fun cdv A outer s H vs Q E hr h=>?_)
 have hu:=hr.units
 have hu1:=fm hr
 refine ⟨_,(@bz _ _ _ (@dC _ _ _ _ (bR bF (hr.mono (by decide)) rfl aP.m aP.F.kp aP.b .nil ay (@ao _ _ _ _ _ (bR gi (hr.mono (by decide)) rfl ck.m ck.F.kp ck.b .nil ay (@ao _ _ _ _ _ (pv 0) (@ao _ _ _ _ _ (pv 1) aC (by rfl)) (by rfl))) aC (by rfl))))),?_⟩
 exact fB (b:=C8) (dD (bS (F:=qr) (aq (bS (F:=AB) (aq (ai 0) (aq (ai 1) aD)) (aV (aV (fun _ _ _ _ h=>bT h)))) aD) (aV (fun _ _ _ _ h=>bT h)))) rfl h
def C9:aj->Dm Fl :=
 (a7 (aS Az (ae (ag 0) (ae (aS AF (ae (ag 0) (ae (ag 1) ah))) ah))))
def AH:List D->Dm D:=eI 2 C9
def AI:Stmt:=top 35
theorem Pe:ax ["floor","s"] ["floor","s"] (au AI):=⟨rfl,rfl,rfl,by decide +kernel,rfl,by decide +kernel,by decide +kernel⟩
theorem Pf {f:Addr} {fd:FuncData} (D:Def K mg "numbered_from" AI ["floor","s"] f fd) (T:Txt mg)  {eN:Addr} {eO:FuncData} (cT:Def K mg "called_anew" AA ["floor","p"] eN eO) (gQ:az P w K mg base bg 2 eN eO ["floor","p"] (bj K 2 Az)) {c6:Addr} {c7:FuncData} (bI:Def K mg "numbering_from" AG ["floor","s"] c6 c7) (eA:az P w K mg base bg 2 c6 c7 ["floor","s"] (bj K 2 AF)):az P w K mg base bg 3 f fd ["floor","s"] (bj K 2 AH):=by
 refine D.F.ok Pe (fun vs H Q E h=>h.1) (fun cdv A outer s H vs Q E hr h=>?_)
 have hu:=hr.units
 have hu1:=fm hr
 refine ⟨_,(@bz _ _ _ (@dC _ _ _ _ (bR gQ (hr.mono (by decide)) rfl cT.m cT.F.kp cT.b .nil ay (@ao _ _ _ _ _ (pv 0) (@ao _ _ _ _ _ (bR eA (hr.mono (by decide)) rfl bI.m bI.F.kp bI.b .nil ay (@ao _ _ _ _ _ (pv 0) (@ao _ _ _ _ _ (pv 1) aC (by rfl)) (by rfl))) aC (by rfl)) (by rfl))))),?_⟩
 exact fB (b:=C9) (dD (bS (F:=Az) (aq (ai 0) (aq (bS (F:=AF) (aq (ai 0) (aq (ai 1) aD)) (aV (aV (fun _ _ _ _ h=>bT h)))) aD)) (aV (aV (fun _ _ _ _ h=>bT h))))) rfl h
def Dc:aj->Dm Fl :=
 (a7 (aS kZ (ae (ef (b9 (ae (aS eK (ae (aA aL (ag 0) (fC (.int 0))) ah)) ah)) 1 [0] (hName 0) fA (aS AH (ae (ag 1) (ae (ag 0) ah)))) ah)))
def tN:List D->Dm D:=eI 1 Dc
def xJ:Stmt:=top 36
theorem Pg:ax ["floor"] ["floor"] (au xJ):=⟨rfl,rfl,rfl,by decide +kernel,rfl,by decide +kernel,by decide +kernel⟩
theorem Ph {f:Addr} {fd:FuncData} (D:Def K mg "form_of" xJ ["floor"] f fd) (T:Txt mg)  {dn:Addr} {dr:FuncData} (bX:Def K mg "numbered_from" AI ["floor","s"] dn dr) (fD:az P w K mg base bg 3 dn dr ["floor","s"] (bj K 2 AH)):az P w K mg base bg 4 f fd ["floor"] (bj K 1 tN):=by
 refine D.F.ok Pg (fun vs H Q E h=>h.1) (fun cdv A outer s H vs Q E hr h=>?_)
 have hu:=hr.units
 have hu1:=fm hr
 refine ⟨_,(@bz _ _ _ (@dC _ _ _ _ (lq (IF rfl hu) (by rfl) T.tM HU (@ao _ _ _ _ _ (rf (own:=["s"]) (fr:=["floor"]) (js:=[0]) rfl ⟨⟨rfl,by decide +kernel,by decide +kernel,by dsimp only [iN,aW,Cx.nT,Cx.wish,PyProof.Rows.envOfC,compEnvC,relabel,Env.kindOf];decide +kernel,by decide +kernel⟩,rfl⟩ (nV rfl T.a5 (@ao _ _ _ _ _ (lq ma (by rfl) T.c5 md (@ao _ _ _ _ _ (@bA _ _ _ _ _ _ _ b5 (pv 0) aM (fun _ _=>rfl)) aC (by rfl))) aC (by rfl))) (fun _ _ _ _ _=>(eZ (i:=0) (show ((["s"]:List Str) ++ (["floor"]:List Str)).Nodup by decide +kernel) rfl (by first | exact Or.inl rfl | exact Or.inr rfl))) (fun _ _ _ _ _=>q5) (fun _ _ _ _ _=>(bR fD (hr.mono (by decide)) rfl bX.m bX.F.kp bX.b .nil ay (@ao _ _ _ _ _ (pv 1) (@ao _ _ _ _ _ (pv 0) aC (by rfl)) (by rfl))))) aC (by rfl))))),?_⟩
 exact fB (b:=Dc) (dD (c4 J3 (aq (qg (n8 (aq (c4 ml (aq (aB bU (ai 0) (aN _)) aD)) aD)) (a8 0) rK (bS (F:=AH) (aq (ai 1) (aq (ai 0) aD)) (aV (aV (fun _ _ _ _ h=>bT h))))) aD))) rfl h
def Dd:aj->Dm Fl :=
 (aI (aO (er (ae (ag 1) ah)) (hName 2))
 (aI (aO (aA aL (ag 0) (ag 1)) (hName 3))
 (aI (iU (aR (aA (kD true) (ag 3) (ag 1))) (aI (iT (n6 "list" dm (ag 2) (ae (ag 3) ah)))
 (aO (aA aL (ag 0) (ag 3)) (hName 3))))
 (a7 (aS bW (ae (ag 2) ah))))))
def AJ:List D->Dm D:=eI 4 Dd
def AK:Stmt:=top 28
theorem De:ax ["turning","first","ring","reached"] ["turning","first"] (au AK):=⟨rfl,rfl,rfl,by decide +kernel,rfl,by decide +kernel,by decide +kernel⟩
theorem Pj {f:Addr} {fd:FuncData} (D:Def K mg "ring_from" AK ["turning","first"] f fd) (T:Txt mg)  :az P w K mg base bg 1 f fd ["turning","first"] (bj K 2 AJ):=by
 refine D.F.ok De (fun vs H Q E h=>h.1) (fun cdv A outer s H vs Q E hr h=>?_)
 have hu:=hr.units
 have hu1:=fm hr
 refine ⟨_,(@bD _ _ _ _ _ (@cM (i:=2) _ _ _ _ _ _ De.nd rfl (by first | exact Or.inl rfl | exact Or.inr rfl) (@lV _ _ _ _ (@ao _ _ _ _ _ (pv 1) aC (by rfl))) (by rfl) (by first | exact .inl rfl | exact .inr rfl | assumption))
  (@bD _ _ _ _ _ (@cM (i:=3) _ _ _ _ _ _ De.nd rfl (by first | exact Or.inl rfl | exact Or.inr rfl) (@bA _ _ _ _ _ _ _ b5 (pv 0) (pv 1) (fun _ _=>rfl)) (by rfl) (by first | exact .inl rfl | exact .inr rfl | assumption))
  (@bD _ _ _ _ _ (xb PassesOwn.never (iK Eu (pv 3) (pv 1) (aT _)) (@bD _ _ _ _ _ (rY (qB PySem.F.plainAttrs_list PySem.F.slot_list_append PySem.F.type_list_append sv (pv 2) (@ao _ _ _ _ _ (pv 3) aC (by rfl))))
  (@bz _ _ _ (@cM (i:=3) _ _ _ _ _ _ De.nd rfl (by first | exact Or.inl rfl | exact Or.inr rfl) (@bA _ _ _ _ _ _ _ b5 (pv 0) (pv 3) (fun _ _=>rfl)) (by rfl) (by first | exact .inl rfl | exact .inr rfl | assumption)))))
  (@bz _ _ _ (@dC _ _ _ _ (gw nF (by rfl) T.bJ nG (@ao _ _ _ _ _ (pv 2) aC (by rfl)))))))),?_⟩
 exact fB (b:=Dd) (bE (b7 (lX (aq (ai 1) aD)) (a8 2))
  (bE (b7 (aB bU (ai 0) (ai 1)) (a8 3))
  (bE (xD (iH (aB FV (ai 3) (ai 1))) (bE (tm (pB sZ (ai 2) (aq (ai 3) aD)))
  (b7 (aB bU (ai 0) (ai 3)) (a8 3))))
  (dD (c4 nL (aq (ai 2) aD)))))) rfl h
def Df:aj->Dm Fl :=
 (aI (aO (er ah) (hName 1))
 (aI (aO qk (hName 2))
 (aI (dG (b9 (ae (aS eK (ae (ag 0) ah)) ah)) (hName 3) (jM (aR (rL true (ag 3) (ag 2))) (aI (aO (aS AJ (ae (ag 0) (ae (ag 3) ah))) (hName 4))
 (aI (iT (n6 "list" dm (ag 1) (ae (ag 4) ah)))
 (dG (fz (ag 4)) (hName 5) (oH (ag 2) (ag 5) (fC (.bl true)))))) b8))
 (a7 (aS bW (ae (ag 1) ah))))))
def AL:List D->Dm D:=eI 6 Df
def AO:Stmt:=top 29
theorem xK:ax ["turning","rings","seen","first","ring","number"] ["turning"] (au AO):=⟨rfl,rfl,rfl,by decide +kernel,rfl,by decide +kernel,by decide +kernel⟩
theorem Pk {f:Addr} {fd:FuncData} (D:Def K mg "rings_of" AO ["turning"] f fd) (T:Txt mg)  {gR:Addr} {gS:FuncData} (dN:Def K mg "ring_from" AK ["turning","first"] gR gS) (jR:az P w K mg base bg 1 gR gS ["turning","first"] (bj K 2 AJ)):az P w K mg base bg 2 f fd ["turning"] (bj K 1 AL):=by
 refine D.F.ok xK (fun vs H Q E h=>h.1) (fun cdv A outer s H vs Q E hr h=>?_)
 have hu:=hr.units
 have hu1:=fm hr
 refine ⟨_,(@bD _ _ _ _ _ (@cM (i:=1) _ _ _ _ _ _ xK.nd rfl (by first | exact Or.inl rfl | exact Or.inr rfl) (@lV _ _ _ _ aC) (by rfl) (by first | exact .inl rfl | exact .inr rfl | assumption))
  (@bD _ _ _ _ _ (@cM (i:=2) _ _ _ _ _ _ xK.nd rfl (by first | exact Or.inl rfl | exact Or.inr rfl) Ly (by rfl) (by first | exact .inl rfl | exact .inr rfl | assumption))
  (@bD _ _ _ _ _ (@lU _ _ _ _ _ _ _ _ PassesOwn.never rfl (nV rfl T.a5 (@ao _ _ _ _ _ (lq ma (by rfl) T.c5 md (@ao _ _ _ _ _ (pv 0) aC (by rfl))) aC (by rfl))) (eZ (i:=3) xK.nd rfl (by first | exact Or.inl rfl | exact Or.inr rfl)) (@bz _ _ _ (@kq _ _ _ _ _ _ _ _ (uh (Lv hu1 (pv 3) (pv 2))) (@bD _ _ _ _ _ (@cM (i:=4) _ _ _ _ _ _ xK.nd rfl (by first | exact Or.inl rfl | exact Or.inr rfl) (bR jR (hr.mono (by decide)) rfl dN.m dN.F.kp dN.b .nil ay (@ao _ _ _ _ _ (pv 0) (@ao _ _ _ _ _ (pv 3) aC (by rfl)) (by rfl))) (by rfl) (by first | exact .inl rfl | exact .inr rfl | assumption))
  (@bD _ _ _ _ _ (rY (qB PySem.F.plainAttrs_list PySem.F.slot_list_append PySem.F.type_list_append sv (pv 1) (@ao _ _ _ _ _ (pv 4) aC (by rfl))))
  (@bz _ _ _ (@lU _ _ _ _ _ _ _ _ PassesOwn.never rfl (pb (pv 4)) (eZ (i:=5) xK.nd rfl (by first | exact Or.inl rfl | exact Or.inr rfl)) (@bz _ _ _ (Lw hu1 (pv 2) (pv 5) yc rfl)) (by intro _;rfl))))) lp)) (by intro _;rfl))
  (@bz _ _ _ (@dC _ _ _ _ (gw nF (by rfl) T.bJ nG (@ao _ _ _ _ _ (pv 1) aC (by rfl)))))))),?_⟩
 exact fB (b:=Df) (bE (b7 (lX aD) (a8 1))
  (bE (b7 NW (a8 2))
  (bE (lY (n8 (aq (c4 ml (aq (ai 0) aD)) aD)) (a8 3) (kF (CG (NX (ai 3) (ai 2))) (bE (b7 (bS (F:=AJ) (aq (ai 0) (aq (ai 3) aD)) (aV (aV (fun _ _ _ _ h=>bT h)))) (a8 4))
  (bE (tm (pB sZ (ai 1) (aq (ai 4) aD)))
  (lY (pC (ai 4)) (a8 5) (NY (ai 2) (ai 5) (zB _))))) ly))
  (dD (c4 nL (aq (ai 1) aD)))))) rfl h
def Dg:aj->Dm Fl :=
 (aI (aO (aA qe (er (ae (fC (.int 0)) ah)) (aS eK (ae (ag 0) ah))) (hName 2))
 (aI (dG (fz (aS AL (ae (ag 0) ah))) (hName 3) (dG (lM (ae (ag 3) ah)) (lL 2 (cY (hName 4) (cY (hName 5) mq))) (aO (aA aL (ag 3) (aA jN (aA dj (ag 4) (ag 1)) (aS eK (ae (ag 3) ah)))) (hSub (ag 2) (ag 5)))))
 (a7 (aS bW (ae (ag 2) ah)))))
def AQ:List D->Dm D:=eI 6 Dg
def AR:Stmt:=top 27
theorem AU:ax ["turning","k","led","ring","place","number"] ["turning","k"] (au AR):=⟨rfl,rfl,rfl,by decide +kernel,rfl,by decide +kernel,by decide +kernel⟩
theorem Pm {f:Addr} {fd:FuncData} (D:Def K mg "often" AR ["turning","k"] f fd) (T:Txt mg)  {jo:Addr} {jq:FuncData} (e8:Def K mg "rings_of" AO ["turning"] jo jq) (kJ:az P w K mg base bg 2 jo jq ["turning"] (bj K 1 AL)):az P w K mg base bg 3 f fd ["turning","k"] (bj K 2 AQ):=by
 refine D.F.ok AU (fun vs H Q E h=>h.1) (fun cdv A outer s H vs Q E hr h=>?_)
 have hu:=hr.units
 have hu1:=fm hr
 refine ⟨_,(@bD _ _ _ _ _ (@cM (i:=2) _ _ _ _ _ _ AU.nd rfl (by first | exact Or.inl rfl | exact Or.inr rfl) (bG HJ (@lV _ _ _ _ (@ao _ _ _ _ _ aM aC (by rfl))) (lq ma (by rfl) T.c5 md (@ao _ _ _ _ _ (pv 0) aC (by rfl)))) (by rfl) (by first | exact .inl rfl | exact .inr rfl | assumption))
  (@bD _ _ _ _ _ (@lU _ _ _ _ _ _ _ _ PassesOwn.never rfl (pb (bR kJ (hr.mono (by decide)) rfl e8.m e8.F.kp e8.b .nil ay (@ao _ _ _ _ _ (pv 0) aC (by rfl)))) (eZ (i:=3) AU.nd rfl (by first | exact Or.inl rfl | exact Or.inr rfl)) (@bz _ _ _ (@lU _ _ _ _ _ _ _ _ PassesOwn.never rfl (Io rfl T.la (@ao _ _ _ _ _ (pv 3) aC (by rfl))) (r9 (n:=2) rfl (mw (eZ (i:=4) AU.nd rfl (by first | exact Or.inl rfl | exact Or.inr rfl)) (mw (eZ (i:=5) AU.nd rfl (by first | exact Or.inl rfl | exact Or.inr rfl)) r6))) (@bz _ _ _ (qT (@bA _ _ _ _ _ _ _ b5 (pv 3) (bG pe (bG km (pv 4) (pv 1)) (lq ma (by rfl) T.c5 md (@ao _ _ _ _ _ (pv 3) aC (by rfl)))) (fun _ _=>rfl)) (xa (pv 2) (pv 5) xh))) (by intro _;rfl))) (by intro _;rfl))
  (@bz _ _ _ (@dC _ _ _ _ (gw nF (by rfl) T.bJ nG (@ao _ _ _ _ _ (pv 2) aC (by rfl))))))),?_⟩
 exact fB (b:=Dg) (bE (b7 (aB JH (lX (aq (aN _) aD)) (c4 ml (aq (ai 0) aD))) (a8 2))
  (bE (lY (pC (bS (F:=AL) (aq (ai 0) aD) (aV (fun _ _ _ _ h=>bT h)))) (a8 3) (lY (JJ (aq (ai 3) aD)) (tj (mE (a8 4) (mE (a8 5) tf))) (b7 (aB bU (ai 3) (aB pq (aB kn (ai 4) (ai 1)) (c4 ml (aq (ai 3) aD)))) (xC (ai 2) (ai 5)))))
  (dD (c4 nL (aq (ai 2) aD))))) rfl h
def Dh:aj->Dm Fl :=
 (a7 (b6 (ae (aA aL (ag 0) (fC (.int 0))) (ae (aS oM (ae (aS AQ (ae (aA aL (ag 0) (fC (.int 0))) (ae (oE jO (ag 1)) ah))) (ae (aA aL (ag 0) (fC (.int 1))) ah))) ah))))
def AV:List D->Dm D:=eI 2 Dh
def AW:Stmt:=top 38
theorem Pn:ax ["floor","k"] ["floor","k"] (au AW):=⟨rfl,rfl,rfl,by decide +kernel,rfl,by decide +kernel,by decide +kernel⟩
theorem Po {f:Addr} {fd:FuncData} (D:Def K mg "sheared" AW ["floor","k"] f fd) (T:Txt mg)  {dJ:Addr} {dM:FuncData} (aU:Def K mg "followed" xH ["one","other"] dJ dM) (cS:az P w K mg base bg 1 dJ dM ["one","other"] (bj K 2 oM)) {mY:Addr} {mZ:FuncData} (kK:Def K mg "often" AR ["turning","k"] mY mZ) (oa:az P w K mg base bg 3 mY mZ ["turning","k"] (bj K 2 AQ)):az P w K mg base bg 4 f fd ["floor","k"] (bj K 2 AV):=by
 refine D.F.ok Pn (fun vs H Q E h=>h.1) (fun cdv A outer s H vs Q E hr h=>?_)
 have hu:=hr.units
 have hu1:=fm hr
 refine ⟨_,(@bz _ _ _ (@dC _ _ _ _ (@iD _ _ _ _ _ (@ao _ _ _ _ _ (@bA _ _ _ _ _ _ _ b5 (pv 0) aM (fun _ _=>rfl)) (@ao _ _ _ _ _ (bR cS (hr.mono (by decide)) rfl aU.m aU.F.kp aU.b .nil ay (@ao _ _ _ _ _ (bR oa (hr.mono (by decide)) rfl kK.m kK.F.kp kK.b .nil ay (@ao _ _ _ _ _ (@bA _ _ _ _ _ _ _ b5 (pv 0) aM (fun _ _=>rfl)) (@ao _ _ _ _ _ (pd pf (pv 1)) aC (by rfl)) (by rfl))) (@ao _ _ _ _ _ (@bA _ _ _ _ _ _ _ b5 (pv 0) aM (fun _ _=>rfl)) aC (by rfl)) (by rfl))) aC (by rfl)) (by rfl))))),?_⟩
 exact fB (b:=Dh) (dD (iG (aq (aB bU (ai 0) (aN _)) (aq (bS (F:=oM) (aq (bS (F:=AQ) (aq (aB bU (ai 0) (aN _)) (aq (pk pz (ai 1)) aD)) (aV (aV (fun _ _ _ _ h=>bT h)))) (aq (aB bU (ai 0) (aN _)) aD)) (aV (aV (fun _ _ _ _ h=>bT h)))) aD)))) rfl h
def Di:aj->Dm Fl :=
 (a7 (b6 (ae (aS qr (ae (aA aL (ag 0) (fC (.int 1))) ah)) (ae (aA aL (ag 0) (fC (.int 0))) ah))))
def AX:List D->Dm D:=eI 1 Di
def AY:Stmt:=top 39
theorem Pp:ax ["floor"] ["floor"] (au AY):=⟨rfl,rfl,rfl,by decide +kernel,rfl,by decide +kernel,by decide +kernel⟩
theorem Pq {f:Addr} {fd:FuncData} (D:Def K mg "quartered" AY ["floor"] f fd) (T:Txt mg)  {br:Addr} {bu:FuncData} (aP:Def K mg "turned_back" wG ["turning"] br bu) (bF:az P w K mg base bg 1 br bu ["turning"] (bj K 1 qr)):az P w K mg base bg 2 f fd ["floor"] (bj K 1 AX):=by
 refine D.F.ok Pp (fun vs H Q E h=>h.1) (fun cdv A outer s H vs Q E hr h=>?_)
 have hu:=hr.units
 have hu1:=fm hr
 refine ⟨_,(@bz _ _ _ (@dC _ _ _ _ (@iD _ _ _ _ _ (@ao _ _ _ _ _ (bR bF (hr.mono (by decide)) rfl aP.m aP.F.kp aP.b .nil ay (@ao _ _ _ _ _ (@bA _ _ _ _ _ _ _ b5 (pv 0) aM (fun _ _=>rfl)) aC (by rfl))) (@ao _ _ _ _ _ (@bA _ _ _ _ _ _ _ b5 (pv 0) aM (fun _ _=>rfl)) aC (by rfl)) (by rfl))))),?_⟩
 exact fB (b:=Di) (dD (iG (aq (bS (F:=qr) (aq (aB bU (ai 0) (aN _)) aD) (aV (fun _ _ _ _ h=>bT h))) (aq (aB bU (ai 0) (aN _)) aD)))) rfl h
def Dj:aj->Dm Fl :=
 (aI (jM (aR (aA (kD false) (aA aL (ag 1) (fC (.int 0))) (fC (.str "s")))) (a7 (aS AV (ae (ag 0) (ae (aA aL (ag 1) (fC (.int 1))) ah)))) b8)
 (aI (aO (ag 0) (hName 2))
 (aI (dG (b9 (ae (aA aL (ag 1) (fC (.int 1))) ah)) (hName 3) (aO (aS AX (ae (ag 2) ah)) (hName 2)))
 (a7 (ag 2)))))
def AZ:List D->Dm D:=eI 4 Dj
def A0:Stmt:=top 41
theorem Dk:ax ["floor","step","led","turn"] ["floor","step"] (au A0):=⟨rfl,rfl,rfl,by decide +kernel,rfl,by decide +kernel,by decide +kernel⟩
theorem Pr {f:Addr} {fd:FuncData} (D:Def K mg "led_by_step" A0 ["floor","step"] f fd) (T:Txt mg)  {kf:Addr} {kg:FuncData} (gD:Def K mg "sheared" AW ["floor","k"] kf kg) (lN:az P w K mg base bg 4 kf kg ["floor","k"] (bj K 2 AV)) {gT:Addr} {gU:FuncData} (dO:Def K mg "quartered" AY ["floor"] gT gU) (jS:az P w K mg base bg 2 gT gU ["floor"] (bj K 1 AX)):az P w K mg base bg 5 f fd ["floor","step"] (bj K 2 AZ):=by
 refine D.F.ok Dk (fun vs H Q E h=>h.1) (fun cdv A outer s H vs Q E hr h=>?_)
 have hu:=hr.units
 have hu1:=fm hr
 refine ⟨_,(@bD _ _ _ _ _ (@kq _ _ _ _ _ _ _ _ (iK ni (@bA _ _ _ _ _ _ _ b5 (pv 1) aM (fun _ _=>rfl)) oh (aT _)) (@bz _ _ _ (@dC _ _ _ _ (bR lN (hr.mono (by decide)) rfl gD.m gD.F.kp gD.b .nil ay (@ao _ _ _ _ _ (pv 0) (@ao _ _ _ _ _ (@bA _ _ _ _ _ _ _ b5 (pv 1) aM (fun _ _=>rfl)) aC (by rfl)) (by rfl))))) lp)
  (@bD _ _ _ _ _ (@cM (i:=2) _ _ _ _ _ _ Dk.nd rfl (by first | exact Or.inl rfl | exact Or.inr rfl) (pv 0) (by rfl) (by first | exact .inl rfl | exact .inr rfl | assumption))
  (@bD _ _ _ _ _ (@lU _ _ _ _ _ _ _ _ PassesOwn.never rfl (nV rfl T.a5 (@ao _ _ _ _ _ (@bA _ _ _ _ _ _ _ b5 (pv 1) aM (fun _ _=>rfl)) aC (by rfl))) (eZ (i:=3) Dk.nd rfl (by first | exact Or.inl rfl | exact Or.inr rfl)) (@bz _ _ _ (@cM (i:=2) _ _ _ _ _ _ Dk.nd rfl (by first | exact Or.inl rfl | exact Or.inr rfl) (bR jS (hr.mono (by decide)) rfl dO.m dO.F.kp dO.b .nil ay (@ao _ _ _ _ _ (pv 2) aC (by rfl))) (by rfl) (by first | exact .inl rfl | exact .inr rfl | assumption))) (by intro _;rfl))
  (@bz _ _ _ (@dC _ _ _ _ (pv 2)))))),?_⟩
 exact fB (b:=Dj) (bE (kF (iH (aB ny (aB bU (ai 1) (aN _)) (oD _))) (dD (bS (F:=AV) (aq (ai 0) (aq (aB bU (ai 1) (aN _)) aD)) (aV (aV (fun _ _ _ _ h=>bT h))))) ly)
  (bE (b7 (ai 0) (a8 2))
  (bE (lY (n8 (aq (aB bU (ai 1) (aN _)) aD)) (a8 3) (b7 (bS (F:=AX) (aq (ai 2) aD) (aV (fun _ _ _ _ h=>bT h))) (a8 2)))
  (dD (ai 2))))) rfl h
def Dl:aj->Dm Fl :=
 (aI (aO (ag 0) (hName 2))
 (aI (dG (fz (ag 1)) (hName 3) (aO (aS AZ (ae (ag 2) (ae (ag 3) ah))) (hName 2)))
 (a7 (ag 2))))
def tO:List D->Dm D:=eI 4 Dl
def xM:Stmt:=top 40
theorem Dn:ax ["floor","word","led","step"] ["floor","word"] (au xM):=⟨rfl,rfl,rfl,by decide +kernel,rfl,by decide +kernel,by decide +kernel⟩
theorem Pt {f:Addr} {fd:FuncData} (D:Def K mg "led_by" xM ["floor","word"] f fd) (T:Txt mg)  {eP:Addr} {eQ:FuncData} (cU:Def K mg "led_by_step" A0 ["floor","step"] eP eQ) (gW:az P w K mg base bg 5 eP eQ ["floor","step"] (bj K 2 AZ)):az P w K mg base bg 6 f fd ["floor","word"] (bj K 2 tO):=by
 refine D.F.ok Dn (fun vs H Q E h=>h.1) (fun cdv A outer s H vs Q E hr h=>?_)
 have hu:=hr.units
 have hu1:=fm hr
 refine ⟨_,(@bD _ _ _ _ _ (@cM (i:=2) _ _ _ _ _ _ Dn.nd rfl (by first | exact Or.inl rfl | exact Or.inr rfl) (pv 0) (by rfl) (by first | exact .inl rfl | exact .inr rfl | assumption))
  (@bD _ _ _ _ _ (@lU _ _ _ _ _ _ _ _ PassesOwn.never rfl (pb (pv 1)) (eZ (i:=3) Dn.nd rfl (by first | exact Or.inl rfl | exact Or.inr rfl)) (@bz _ _ _ (@cM (i:=2) _ _ _ _ _ _ Dn.nd rfl (by first | exact Or.inl rfl | exact Or.inr rfl) (bR gW (hr.mono (by decide)) rfl cU.m cU.F.kp cU.b .nil ay (@ao _ _ _ _ _ (pv 2) (@ao _ _ _ _ _ (pv 3) aC (by rfl)) (by rfl))) (by rfl) (by first | exact .inl rfl | exact .inr rfl | assumption))) (by intro _;rfl))
  (@bz _ _ _ (@dC _ _ _ _ (pv 2))))),?_⟩
 exact fB (b:=Dl) (bE (b7 (ai 0) (a8 2))
  (bE (lY (pC (ai 1)) (a8 3) (b7 (bS (F:=AZ) (aq (ai 2) (aq (ai 3) aD)) (aV (aV (fun _ _ _ _ h=>bT h)))) (a8 2)))
  (dD (ai 2)))) rfl h
def Dp:aj->Dm Fl :=
 (a7 (b6 (ae (aA dj (aA cg (aA aL (ag 0) (fC (.int 0))) (aA aL (ag 1) (fC (.int 0)))) (aA cg (aA aL (ag 0) (fC (.int 1))) (aA aL (ag 1) (fC (.int 1))))) (ae (aA dj (aA cg (aA aL (ag 0) (fC (.int 2))) (aA aL (ag 1) (fC (.int 0)))) (aA cg (aA aL (ag 0) (fC (.int 3))) (aA aL (ag 1) (fC (.int 1))))) ah))))
def A1:List D->Dm D:=eI 2 Dp
def A2:Stmt:=top 7
theorem Pu:ax ["table","pair"] ["table","pair"] (au A2):=⟨rfl,rfl,rfl,by decide +kernel,rfl,by decide +kernel,by decide +kernel⟩
theorem Pw {f:Addr} {fd:FuncData} (D:Def K mg "led_pair" A2 ["table","pair"] f fd) (T:Txt mg)  :az P w K mg base bg 1 f fd ["table","pair"] (bj K 2 A1):=by
 refine D.F.ok Pu (fun vs H Q E h=>h.1) (fun cdv A outer s H vs Q E hr h=>?_)
 have hu:=hr.units
 have hu1:=fm hr
 refine ⟨_,(@bz _ _ _ (@dC _ _ _ _ (@iD _ _ _ _ _ (@ao _ _ _ _ _ (bG km (bG lW (@bA _ _ _ _ _ _ _ b5 (pv 0) aM (fun _ _=>rfl)) (@bA _ _ _ _ _ _ _ b5 (pv 1) aM (fun _ _=>rfl))) (bG lW (@bA _ _ _ _ _ _ _ b5 (pv 0) aM (fun _ _=>rfl)) (@bA _ _ _ _ _ _ _ b5 (pv 1) aM (fun _ _=>rfl)))) (@ao _ _ _ _ _ (bG km (bG lW (@bA _ _ _ _ _ _ _ b5 (pv 0) aM (fun _ _=>rfl)) (@bA _ _ _ _ _ _ _ b5 (pv 1) aM (fun _ _=>rfl))) (bG lW (@bA _ _ _ _ _ _ _ b5 (pv 0) aM (fun _ _=>rfl)) (@bA _ _ _ _ _ _ _ b5 (pv 1) aM (fun _ _=>rfl)))) aC (by rfl)) (by rfl))))),?_⟩
 exact fB (b:=Dp) (dD (iG (aq (aB kn (aB l6 (aB bU (ai 0) (aN _)) (aB bU (ai 1) (aN _))) (aB l6 (aB bU (ai 0) (aN _)) (aB bU (ai 1) (aN _)))) (aq (aB kn (aB l6 (aB bU (ai 0) (aN _)) (aB bU (ai 1) (aN _))) (aB l6 (aB bU (ai 0) (aN _)) (aB bU (ai 1) (aN _)))) aD)))) rfl h
def Dq:aj->Dm Fl :=
 (aI (jM (aR (aA (kD false) (ag 0) (fC (.int 0)))) (a7 (b6 ah)) b8)
 (a7 (b6 (ae (b6 (ae (fC (.str "s")) (ae (ag 0) ah))) ah))))
def qL:List D->Dm D:=eI 1 Dq
def xN:Stmt:=top 22
theorem Px:ax ["k"] ["k"] (au xN):=⟨rfl,rfl,rfl,by decide +kernel,rfl,by decide +kernel,by decide +kernel⟩
theorem Py {f:Addr} {fd:FuncData} (D:Def K mg "shears" xN ["k"] f fd) (T:Txt mg)  :az P w K mg base bg 1 f fd ["k"] (bj K 1 qL):=by
 refine D.F.ok Px (fun vs H Q E h=>h.1) (fun cdv A outer s H vs Q E hr h=>?_)
 have hu:=hr.units
 have hu1:=fm hr
 refine ⟨_,(@bD _ _ _ _ _ (@kq _ _ _ _ _ _ _ _ (iK ni (pv 0) aM (aT _)) (@bz _ _ _ (@dC _ _ _ _ (@iD _ _ _ _ _ aC))) lp)
  (@bz _ _ _ (@dC _ _ _ _ (@iD _ _ _ _ _ (@ao _ _ _ _ _ (@iD _ _ _ _ _ (@ao _ _ _ _ _ oh (@ao _ _ _ _ _ (pv 0) aC (by rfl)) (by rfl))) aC (by rfl)))))),?_⟩
 exact fB (b:=Dq) (bE (kF (iH (aB ny (ai 0) (aN _))) (dD (iG aD)) ly)
  (dD (iG (aq (iG (aq (oD _) (aq (ai 0) aD))) aD)))) rfl h
def Dr:aj->Dm Fl :=
 (a7 (b6 (ae (aA dj (aA cg (aA aL (ag 0) (fC (.int 0))) (aA aL (ag 1) (fC (.int 0)))) (aA cg (aA aL (ag 0) (fC (.int 1))) (aA aL (ag 1) (fC (.int 2))))) (ae (aA dj (aA cg (aA aL (ag 0) (fC (.int 0))) (aA aL (ag 1) (fC (.int 1)))) (aA cg (aA aL (ag 0) (fC (.int 1))) (aA aL (ag 1) (fC (.int 3))))) (ae (aA dj (aA cg (aA aL (ag 0) (fC (.int 2))) (aA aL (ag 1) (fC (.int 0)))) (aA cg (aA aL (ag 0) (fC (.int 3))) (aA aL (ag 1) (fC (.int 2))))) (ae (aA dj (aA cg (aA aL (ag 0) (fC (.int 2))) (aA aL (ag 1) (fC (.int 1)))) (aA cg (aA aL (ag 0) (fC (.int 3))) (aA aL (ag 1) (fC (.int 3))))) ah))))))
def oN:List D->Dm D:=eI 2 Dr
def tP:Stmt:=top 5
theorem Pz:ax ["one","other"] ["one","other"] (au tP):=⟨rfl,rfl,rfl,by decide +kernel,rfl,by decide +kernel,by decide +kernel⟩
theorem PB {f:Addr} {fd:FuncData} (D:Def K mg "times" tP ["one","other"] f fd) (T:Txt mg)  :az P w K mg base bg 1 f fd ["one","other"] (bj K 2 oN):=by
 refine D.F.ok Pz (fun vs H Q E h=>h.1) (fun cdv A outer s H vs Q E hr h=>?_)
 have hu:=hr.units
 have hu1:=fm hr
 refine ⟨_,(@bz _ _ _ (@dC _ _ _ _ (@iD _ _ _ _ _ (@ao _ _ _ _ _ (bG km (bG lW (@bA _ _ _ _ _ _ _ b5 (pv 0) aM (fun _ _=>rfl)) (@bA _ _ _ _ _ _ _ b5 (pv 1) aM (fun _ _=>rfl))) (bG lW (@bA _ _ _ _ _ _ _ b5 (pv 0) aM (fun _ _=>rfl)) (@bA _ _ _ _ _ _ _ b5 (pv 1) aM (fun _ _=>rfl)))) (@ao _ _ _ _ _ (bG km (bG lW (@bA _ _ _ _ _ _ _ b5 (pv 0) aM (fun _ _=>rfl)) (@bA _ _ _ _ _ _ _ b5 (pv 1) aM (fun _ _=>rfl))) (bG lW (@bA _ _ _ _ _ _ _ b5 (pv 0) aM (fun _ _=>rfl)) (@bA _ _ _ _ _ _ _ b5 (pv 1) aM (fun _ _=>rfl)))) (@ao _ _ _ _ _ (bG km (bG lW (@bA _ _ _ _ _ _ _ b5 (pv 0) aM (fun _ _=>rfl)) (@bA _ _ _ _ _ _ _ b5 (pv 1) aM (fun _ _=>rfl))) (bG lW (@bA _ _ _ _ _ _ _ b5 (pv 0) aM (fun _ _=>rfl)) (@bA _ _ _ _ _ _ _ b5 (pv 1) aM (fun _ _=>rfl)))) (@ao _ _ _ _ _ (bG km (bG lW (@bA _ _ _ _ _ _ _ b5 (pv 0) aM (fun _ _=>rfl)) (@bA _ _ _ _ _ _ _ b5 (pv 1) aM (fun _ _=>rfl))) (bG lW (@bA _ _ _ _ _ _ _ b5 (pv 0) aM (fun _ _=>rfl)) (@bA _ _ _ _ _ _ _ b5 (pv 1) aM (fun _ _=>rfl)))) aC (by rfl)) (by rfl)) (by rfl)) (by rfl))))),?_⟩
 exact fB (b:=Dr) (dD (iG (aq (aB kn (aB l6 (aB bU (ai 0) (aN _)) (aB bU (ai 1) (aN _))) (aB l6 (aB bU (ai 0) (aN _)) (aB bU (ai 1) (aN _)))) (aq (aB kn (aB l6 (aB bU (ai 0) (aN _)) (aB bU (ai 1) (aN _))) (aB l6 (aB bU (ai 0) (aN _)) (aB bU (ai 1) (aN _)))) (aq (aB kn (aB l6 (aB bU (ai 0) (aN _)) (aB bU (ai 1) (aN _))) (aB l6 (aB bU (ai 0) (aN _)) (aB bU (ai 1) (aN _)))) (aq (aB kn (aB l6 (aB bU (ai 0) (aN _)) (aB bU (ai 1) (aN _))) (aB l6 (aB bU (ai 0) (aN _)) (aB bU (ai 1) (aN _)))) aD)))))) rfl h
def Ds:aj->Dm Fl :=
 (aI (jM (aR (aA (kD false) (aA aL (ag 0) (fC (.int 0))) (fC (.str "s")))) (a7 (b6 (ae (fC (.int 1)) (ae (aA aL (ag 0) (fC (.int 1))) (ae (fC (.int 0)) (ae (fC (.int 1)) ah)))))) b8)
 (aI (aO (fC (.tup [(.int 1),(.int 0),(.int 0),(.int 1)])) (hName 1))
 (aI (dG (b9 (ae (aA aL (ag 0) (fC (.int 1))) ah)) (hName 2) (aO (aS oN (ae (fC (.tup [(.int 0),(.int (-1)),(.int 1),(.int 0)])) (ae (ag 1) ah))) (hName 1)))
 (a7 (ag 1)))))
def A3:List D->Dm D:=eI 3 Ds
def A4:Stmt:=top 11
theorem Dt:ax ["step","table","turn"] ["step"] (au A4):=⟨rfl,rfl,rfl,by decide +kernel,rfl,by decide +kernel,by decide +kernel⟩
theorem PD {f:Addr} {fd:FuncData} (D:Def K mg "step_table" A4 ["step"] f fd) (T:Txt mg) {lO:V} (kh:pM K mg "QUARTER" lO (.tup [(.int 0),(.int (-1)),(.int 1),(.int 0)])) {iY:V} (eh:pM K mg "UNMOVED" iY (.tup [(.int 1),(.int 0),(.int 0),(.int 1)])) {dP:Addr} {dQ:FuncData} (bM:Def K mg "times" tP ["one","other"] dP dQ) (eB:az P w K mg base bg 1 dP dQ ["one","other"] (bj K 2 oN)):az P w K mg base bg 2 f fd ["step"] (bj K 1 A3):=by
 refine D.F.ok Dt (fun vs H Q E h=>h.1) (fun cdv A outer s H vs Q E hr h=>?_)
 have hu:=hr.units
 have hu1:=fm hr
 refine ⟨_,(@bD _ _ _ _ _ (@kq _ _ _ _ _ _ _ _ (iK ni (@bA _ _ _ _ _ _ _ b5 (pv 0) aM (fun _ _=>rfl)) oh (aT _)) (@bz _ _ _ (@dC _ _ _ _ (@iD _ _ _ _ _ (@ao _ _ _ _ _ aM (@ao _ _ _ _ _ (@bA _ _ _ _ _ _ _ b5 (pv 0) aM (fun _ _=>rfl)) (@ao _ _ _ _ _ aM (@ao _ _ _ _ _ aM aC (by rfl)) (by rfl)) (by rfl)) (by rfl))))) lp)
  (@bD _ _ _ _ _ (@cM (i:=1) _ _ _ _ _ _ Dt.nd rfl (by first | exact Or.inl rfl | exact Or.inr rfl) (Gj eh rfl rfl (by decide)) (by rfl) (by first | exact .inl rfl | exact .inr rfl | assumption))
  (@bD _ _ _ _ _ (@lU _ _ _ _ _ _ _ _ PassesOwn.never rfl (nV rfl T.a5 (@ao _ _ _ _ _ (@bA _ _ _ _ _ _ _ b5 (pv 0) aM (fun _ _=>rfl)) aC (by rfl))) (eZ (i:=2) Dt.nd rfl (by first | exact Or.inl rfl | exact Or.inr rfl)) (@bz _ _ _ (@cM (i:=1) _ _ _ _ _ _ Dt.nd rfl (by first | exact Or.inl rfl | exact Or.inr rfl) (bR eB (hr.mono (by decide)) rfl bM.m bM.F.kp bM.b .nil ay (@ao _ _ _ _ _ (Gj kh rfl rfl (by decide)) (@ao _ _ _ _ _ (pv 1) aC (by rfl)) (by rfl))) (by rfl) (by first | exact .inl rfl | exact .inr rfl | assumption))) (by intro _;rfl))
  (@bz _ _ _ (@dC _ _ _ _ (pv 1)))))),?_⟩
 exact fB (b:=Ds) (bE (kF (iH (aB ny (aB bU (ai 0) (aN _)) (oD _))) (dD (iG (aq (aN _) (aq (aB bU (ai 0) (aN _)) (aq (aN _) (aq (aN _) aD)))))) ly)
  (bE (b7 (Gk eh) (a8 1))
  (bE (lY (n8 (aq (aB bU (ai 0) (aN _)) aD)) (a8 2) (b7 (bS (F:=oN) (aq (Gk kh) (aq (ai 1) aD)) (aV (aV (fun _ _ _ _ h=>bT h)))) (a8 1)))
  (dD (ai 1))))) rfl h
def Du:aj->Dm Fl :=
 (aI (aO (fC (.tup [(.int 1),(.int 0),(.int 0),(.int 1)])) (hName 1))
 (aI (dG (fz (ag 0)) (hName 2) (aO (aS oN (ae (aS A3 (ae (ag 2) ah)) (ae (ag 1) ah))) (hName 1)))
 (a7 (ag 1))))
def qu:List D->Dm D:=eI 3 Du
def wH:Stmt:=top 12
theorem Dx:ax ["word","table","step"] ["word"] (au wH):=⟨rfl,rfl,rfl,by decide +kernel,rfl,by decide +kernel,by decide +kernel⟩
theorem PH {f:Addr} {fd:FuncData} (D:Def K mg "table_of" wH ["word"] f fd) (T:Txt mg) {iY:V} (eh:pM K mg "UNMOVED" iY (.tup [(.int 1),(.int 0),(.int 0),(.int 1)])) {dP:Addr} {dQ:FuncData} (bM:Def K mg "times" tP ["one","other"] dP dQ) (eB:az P w K mg base bg 1 dP dQ ["one","other"] (bj K 2 oN)) {fR:Addr} {fS:FuncData} (de:Def K mg "step_table" A4 ["step"] fR fS) (iZ:az P w K mg base bg 2 fR fS ["step"] (bj K 1 A3)):az P w K mg base bg 3 f fd ["word"] (bj K 1 qu):=by
 refine D.F.ok Dx (fun vs H Q E h=>h.1) (fun cdv A outer s H vs Q E hr h=>?_)
 have hu:=hr.units
 have hu1:=fm hr
 refine ⟨_,(@bD _ _ _ _ _ (@cM (i:=1) _ _ _ _ _ _ Dx.nd rfl (by first | exact Or.inl rfl | exact Or.inr rfl) (Gj eh rfl rfl (by decide)) (by rfl) (by first | exact .inl rfl | exact .inr rfl | assumption))
  (@bD _ _ _ _ _ (@lU _ _ _ _ _ _ _ _ PassesOwn.never rfl (pb (pv 0)) (eZ (i:=2) Dx.nd rfl (by first | exact Or.inl rfl | exact Or.inr rfl)) (@bz _ _ _ (@cM (i:=1) _ _ _ _ _ _ Dx.nd rfl (by first | exact Or.inl rfl | exact Or.inr rfl) (bR eB (hr.mono (by decide)) rfl bM.m bM.F.kp bM.b .nil ay (@ao _ _ _ _ _ (bR iZ (hr.mono (by decide)) rfl de.m de.F.kp de.b .nil ay (@ao _ _ _ _ _ (pv 2) aC (by rfl))) (@ao _ _ _ _ _ (pv 1) aC (by rfl)) (by rfl))) (by rfl) (by first | exact .inl rfl | exact .inr rfl | assumption))) (by intro _;rfl))
  (@bz _ _ _ (@dC _ _ _ _ (pv 1))))),?_⟩
 exact fB (b:=Du) (bE (b7 (Gk eh) (a8 1))
  (bE (lY (pC (ai 0)) (a8 2) (b7 (bS (F:=oN) (aq (bS (F:=A3) (aq (ai 2) aD) (aV (fun _ _ _ _ h=>bT h))) (aq (ai 1) aD)) (aV (aV (fun _ _ _ _ h=>bT h)))) (a8 1)))
  (dD (ai 1)))) rfl h
def Dy:aj->Dm Fl :=
 (a7 (aA mX (aA dj (aA kC (fC (.int 2)) (ag 0)) (ag 1)) (aA kC (fC (.int 2)) (ag 1))))
def A5:List D->Dm D:=eI 2 Dy
def A6:Stmt:=top 21
theorem PJ:ax ["number","divisor"] ["number","divisor"] (au A6):=⟨rfl,rfl,rfl,by decide +kernel,rfl,by decide +kernel,by decide +kernel⟩
theorem PK {f:Addr} {fd:FuncData} (D:Def K mg "nearest" A6 ["number","divisor"] f fd) (T:Txt mg)  :az P w K mg base bg 1 f fd ["number","divisor"] (bj K 2 A5):=by
 refine D.F.ok PJ (fun vs H Q E h=>h.1) (fun cdv A outer s H vs Q E hr h=>?_)
 have hu:=hr.units
 have hu1:=fm hr
 refine ⟨_,(@bz _ _ _ (@dC _ _ _ _ (bG Mx (bG km (bG qz aM (pv 0)) (pv 1)) (bG qz aM (pv 1))))),?_⟩
 exact fB (b:=Dy) (dD (aB OZ (aB kn (aB qH (aN _) (ai 0)) (ai 1)) (aB qH (aN _) (ai 1)))) rfl h
def Dz:aj->Dm Fl :=
 (aI (aO (b6 ah) (hName 1))
 (aI (aO (ag 0) (hName 2))
 (aI (iU (aR (aA (kD true) (aA aL (ag 2) (fC (.int 1))) (fC (.int 0)))) (aI (aO (aA jI (aS qL (ae (oE jO (aS A5 (ae (aA aL (ag 2) (fC (.int 0))) (ae (aA aL (ag 2) (fC (.int 1))) ah)))) ah)) (b6 (ae (b6 (ae (fC (.str "t")) (ae (fC (.int 1)) ah))) ah))) (hName 3))
 (aI (aO (aS A1 (ae (aS qu (ae (ag 3) ah)) (ae (ag 2) ah))) (hName 2))
 (aO (aA jI (ag 1) (ag 3)) (hName 1)))))
 (a7 (ag 1)))))
def A7:List D->Dm D:=eI 4 Dz
def A8:Stmt:=top 20
theorem xO:ax ["pair","gone","left","steps"] ["pair"] (au A8):=⟨rfl,rfl,rfl,by decide +kernel,rfl,by decide +kernel,by decide +kernel⟩
theorem PL {f:Addr} {fd:FuncData} (D:Def K mg "level_steps" A8 ["pair"] f fd) (T:Txt mg)  {jr:Addr} {jt:FuncData} (fe:Def K mg "led_pair" A2 ["table","pair"] jr jt) (kL:az P w K mg base bg 1 jr jt ["table","pair"] (bj K 2 A1)) {gX:Addr} {gY:FuncData} (cy:Def K mg "shears" xN ["k"] gX gY) (gZ:az P w K mg base bg 1 gX gY ["k"] (bj K 1 qL)) {cm:Addr} {cn:FuncData} (bh:Def K mg "table_of" wH ["word"] cm cn) (cV:az P w K mg base bg 3 cm cn ["word"] (bj K 1 qu)) {ki:Addr} {kj:FuncData} (gE:Def K mg "nearest" A6 ["number","divisor"] ki kj) (lP:az P w K mg base bg 1 ki kj ["number","divisor"] (bj K 2 A5)):az P w K mg base bg 4 f fd ["pair"] (bj K 1 A7):=by
 refine D.F.ok xO (fun vs H Q E h=>h.1) (fun cdv A outer s H vs Q E hr h=>?_)
 have hu:=hr.units
 have hu1:=fm hr
 refine ⟨_,(@bD _ _ _ _ _ (@cM (i:=1) _ _ _ _ _ _ xO.nd rfl (by first | exact Or.inl rfl | exact Or.inr rfl) (@iD _ _ _ _ _ aC) (by rfl) (by first | exact .inl rfl | exact .inr rfl | assumption))
  (@bD _ _ _ _ _ (@cM (i:=2) _ _ _ _ _ _ xO.nd rfl (by first | exact Or.inl rfl | exact Or.inr rfl) (pv 0) (by rfl) (by first | exact .inl rfl | exact .inr rfl | assumption))
  (@bD _ _ _ _ _ (xb PassesOwn.never (iK Eu (@bA _ _ _ _ _ _ _ b5 (pv 2) aM (fun _ _=>rfl)) aM (aT _)) (@bD _ _ _ _ _ (@cM (i:=3) _ _ _ _ _ _ xO.nd rfl (by first | exact Or.inl rfl | exact Or.inr rfl) (bG uE (bR gZ (hr.mono (by decide)) rfl cy.m cy.F.kp cy.b .nil ay (@ao _ _ _ _ _ (pd pf (bR lP (hr.mono (by decide)) rfl gE.m gE.F.kp gE.b .nil ay (@ao _ _ _ _ _ (@bA _ _ _ _ _ _ _ b5 (pv 2) aM (fun _ _=>rfl)) (@ao _ _ _ _ _ (@bA _ _ _ _ _ _ _ b5 (pv 2) aM (fun _ _=>rfl)) aC (by rfl)) (by rfl)))) aC (by rfl))) (@iD _ _ _ _ _ (@ao _ _ _ _ _ (@iD _ _ _ _ _ (@ao _ _ _ _ _ oh (@ao _ _ _ _ _ aM aC (by rfl)) (by rfl))) aC (by rfl)))) (by rfl) (by first | exact .inl rfl | exact .inr rfl | assumption))
  (@bD _ _ _ _ _ (@cM (i:=2) _ _ _ _ _ _ xO.nd rfl (by first | exact Or.inl rfl | exact Or.inr rfl) (bR kL (hr.mono (by decide)) rfl fe.m fe.F.kp fe.b .nil ay (@ao _ _ _ _ _ (bR cV (hr.mono (by decide)) rfl bh.m bh.F.kp bh.b .nil ay (@ao _ _ _ _ _ (pv 3) aC (by rfl))) (@ao _ _ _ _ _ (pv 2) aC (by rfl)) (by rfl))) (by rfl) (by first | exact .inl rfl | exact .inr rfl | assumption))
  (@bz _ _ _ (@cM (i:=1) _ _ _ _ _ _ xO.nd rfl (by first | exact Or.inl rfl | exact Or.inr rfl) (bG uE (pv 1) (pv 3)) (by rfl) (by first | exact .inl rfl | exact .inr rfl | assumption))))))
  (@bz _ _ _ (@dC _ _ _ _ (pv 1)))))),?_⟩
 exact fB (b:=Dz) (bE (b7 (iG aD) (a8 1))
  (bE (b7 (ai 0) (a8 2))
  (bE (xD (iH (aB FV (aB bU (ai 2) (aN _)) (aN _))) (bE (b7 (aB vf (bS (F:=qL) (aq (pk pz (bS (F:=A5) (aq (aB bU (ai 2) (aN _)) (aq (aB bU (ai 2) (aN _)) aD)) (aV (aV (fun _ _ _ _ h=>bT h))))) aD) (aV (fun _ _ _ _ h=>bT h))) (iG (aq (iG (aq (oD _) (aq (aN _) aD))) aD))) (a8 3))
  (bE (b7 (bS (F:=A1) (aq (bS (F:=qu) (aq (ai 3) aD) (aV (fun _ _ _ _ h=>bT h))) (aq (ai 2) aD)) (aV (aV (fun _ _ _ _ h=>bT h)))) (a8 2))
  (b7 (aB vf (ai 1) (ai 3)) (a8 1)))))
  (dD (ai 1))))) rfl h
def DA:aj->Dm Fl :=
 (aI (aO (aA dj (aA aL (ag 0) (fC (.int 1))) (aA aL (ag 1) (fC (.int 1)))) (hName 2))
 (aI (jM (aR (aA (kD false) (aA aL (ag 0) (fC (.int 0))) (fC (.str "t")))) (aO (aA jN (ag 2) (fC (.int 4))) (hName 2)) b8)
 (aI (jM (aR (aA (kD false) (ag 2) (fC (.int 0)))) (a7 (b6 ah)) b8)
 (a7 (b6 (ae (b6 (ae (aA aL (ag 0) (fC (.int 0))) (ae (ag 2) ah))) ah))))))
def A9:List D->Dm D:=eI 3 DA
def Ba:Stmt:=top 13
theorem Gr:ax ["one","other","number"] ["one","other"] (au Ba):=⟨rfl,rfl,rfl,by decide +kernel,rfl,by decide +kernel,by decide +kernel⟩
theorem PN {f:Addr} {fd:FuncData} (D:Def K mg "joined" Ba ["one","other"] f fd) (T:Txt mg)  :az P w K mg base bg 1 f fd ["one","other"] (bj K 2 A9):=by
 refine D.F.ok Gr (fun vs H Q E h=>h.1) (fun cdv A outer s H vs Q E hr h=>?_)
 have hu:=hr.units
 have hu1:=fm hr
 refine ⟨_,(@bD _ _ _ _ _ (@cM (i:=2) _ _ _ _ _ _ Gr.nd rfl (by first | exact Or.inl rfl | exact Or.inr rfl) (bG km (@bA _ _ _ _ _ _ _ b5 (pv 0) aM (fun _ _=>rfl)) (@bA _ _ _ _ _ _ _ b5 (pv 1) aM (fun _ _=>rfl))) (by rfl) (by first | exact .inl rfl | exact .inr rfl | assumption))
  (@bD _ _ _ _ _ (@kq _ _ _ _ _ _ _ _ (iK ni (@bA _ _ _ _ _ _ _ b5 (pv 0) aM (fun _ _=>rfl)) oh (aT _)) (@bz _ _ _ (@cM (i:=2) _ _ _ _ _ _ Gr.nd rfl (by first | exact Or.inl rfl | exact Or.inr rfl) (bG pe (pv 2) aM) (by rfl) (by first | exact .inl rfl | exact .inr rfl | assumption))) lp)
  (@bD _ _ _ _ _ (@kq _ _ _ _ _ _ _ _ (iK ni (pv 2) aM (aT _)) (@bz _ _ _ (@dC _ _ _ _ (@iD _ _ _ _ _ aC))) lp)
  (@bz _ _ _ (@dC _ _ _ _ (@iD _ _ _ _ _ (@ao _ _ _ _ _ (@iD _ _ _ _ _ (@ao _ _ _ _ _ (@bA _ _ _ _ _ _ _ b5 (pv 0) aM (fun _ _=>rfl)) (@ao _ _ _ _ _ (pv 2) aC (by rfl)) (by rfl))) aC (by rfl)))))))),?_⟩
 exact fB (b:=DA) (bE (b7 (aB kn (aB bU (ai 0) (aN _)) (aB bU (ai 1) (aN _))) (a8 2))
  (bE (kF (iH (aB ny (aB bU (ai 0) (aN _)) (oD _))) (b7 (aB pq (ai 2) (aN _)) (a8 2)) ly)
  (bE (kF (iH (aB ny (ai 2) (aN _))) (dD (iG aD)) ly)
  (dD (iG (aq (iG (aq (aB bU (ai 0) (aN _)) (aq (ai 2) aD))) aD)))))) rfl h
def DB:aj->Dm Fl :=
 (aI (aO (b6 ah) (hName 1))
 (aI (dG (fz (ag 0)) (hName 2) (jM (qb (aR (aA zF (aS eK (ae (ag 1) ah)) (fC (.int 0)))) (aR (aA (kD false) (aA aL (aA aL (ag 1) (oE jO (fC (.int 1)))) (fC (.int 0))) (aA aL (ag 2) (fC (.int 0)))))) (aO (aA jI (xw vd (ag 1) ke (mB (oE jO (fC (.int 1))))) (aS A9 (ae (aA aL (ag 1) (oE jO (fC (.int 1)))) (ae (ag 2) ah)))) (hName 1)) (aO (aA jI (ag 1) (b6 (ae (ag 2) ah))) (hName 1))))
 (a7 (ag 1))))
def Bb:List D->Dm D:=eI 3 DB
def Bc:Stmt:=top 14
theorem Bd:ax ["word","plain","step"] ["word"] (au Bc):=⟨rfl,rfl,rfl,by decide +kernel,rfl,by decide +kernel,by decide +kernel⟩
theorem PQ {f:Addr} {fd:FuncData} (D:Def K mg "made_plain" Bc ["word"] f fd) (T:Txt mg)  {lz:Addr} {lA:FuncData} (ju:Def K mg "joined" Ba ["one","other"] lz lA) (m8:az P w K mg base bg 1 lz lA ["one","other"] (bj K 2 A9)):az P w K mg base bg 2 f fd ["word"] (bj K 1 Bb):=by
 refine D.F.ok Bd (fun vs H Q E h=>h.1) (fun cdv A outer s H vs Q E hr h=>?_)
 have hu:=hr.units
 have hu1:=fm hr
 refine ⟨_,(@bD _ _ _ _ _ (@cM (i:=1) _ _ _ _ _ _ Bd.nd rfl (by first | exact Or.inl rfl | exact Or.inr rfl) (@iD _ _ _ _ _ aC) (by rfl) (by first | exact .inl rfl | exact .inr rfl | assumption))
  (@bD _ _ _ _ _ (@lU _ _ _ _ _ _ _ _ PassesOwn.never rfl (pb (pv 0)) (eZ (i:=2) Bd.nd rfl (by first | exact Or.inl rfl | exact Or.inr rfl)) (@bz _ _ _ (@kq _ _ _ _ _ _ _ _ (PW.pt (Ha (iK Ew (lq ma (by rfl) T.c5 md (@ao _ _ _ _ _ (pv 1) aC (by rfl))) aM (aT _)) (G8 (iK ni (@bA _ _ _ _ _ _ _ b5 (@bA _ _ _ _ _ _ _ b5 (pv 1) (pd pf aM) (fun _ _=>rfl)) aM (fun _ _=>rfl)) (@bA _ _ _ _ _ _ _ b5 (pv 2) aM (fun _ _=>rfl)) (aT _))))) (@bz _ _ _ (@cM (i:=1) _ _ _ _ _ _ Bd.nd rfl (by first | exact Or.inl rfl | exact Or.inr rfl) (bG uE (EE LL (pv 1) EC (ED (pd pf aM))) (bR m8 (hr.mono (by decide)) rfl ju.m ju.F.kp ju.b .nil ay (@ao _ _ _ _ _ (@bA _ _ _ _ _ _ _ b5 (pv 1) (pd pf aM) (fun _ _=>rfl)) (@ao _ _ _ _ _ (pv 2) aC (by rfl)) (by rfl)))) (by rfl) (by first | exact .inl rfl | exact .inr rfl | assumption))) (@bz _ _ _ (@cM (i:=1) _ _ _ _ _ _ Bd.nd rfl (by first | exact Or.inl rfl | exact Or.inr rfl) (bG uE (pv 1) (@iD _ _ _ _ _ (@ao _ _ _ _ _ (pv 2) aC (by rfl)))) (by rfl) (by first | exact .inl rfl | exact .inr rfl | assumption))))) (by intro _;rfl))
  (@bz _ _ _ (@dC _ _ _ _ (pv 1))))),?_⟩
 exact fB (b:=DB) (bE (b7 (iG aD) (a8 1))
  (bE (lY (pC (ai 0)) (a8 2) (kF (Jx (iH (aB FU (c4 ml (aq (ai 1) aD)) (aN _))) (iH (aB ny (aB bU (aB bU (ai 1) (pk pz (aN _))) (aN _)) (aB bU (ai 2) (aN _))))) (b7 (aB vf (FR ve (ai 1) FP (FQ (pk pz (aN _)))) (bS (F:=A9) (aq (aB bU (ai 1) (pk pz (aN _))) (aq (ai 2) aD)) (aV (aV (fun _ _ _ _ h=>bT h))))) (a8 1)) (b7 (aB vf (ai 1) (iG (aq (ai 2) aD))) (a8 1))))
  (dD (ai 1)))) rfl h
def DC:aj->Dm Fl :=
 (a7 (aS Bb (ae (aA jI (ag 0) (ag 1)) ah)))
def Be:List D->Dm D:=eI 2 DC
def Bf:Stmt:=top 15
theorem PR:ax ["one","other"] ["one","other"] (au Bf):=⟨rfl,rfl,rfl,by decide +kernel,rfl,by decide +kernel,by decide +kernel⟩
theorem PU {f:Addr} {fd:FuncData} (D:Def K mg "put_together" Bf ["one","other"] f fd) (T:Txt mg)  {fT:Addr} {fU:FuncData} (df:Def K mg "made_plain" Bc ["word"] fT fU) (i3:az P w K mg base bg 2 fT fU ["word"] (bj K 1 Bb)):az P w K mg base bg 3 f fd ["one","other"] (bj K 2 Be):=by
 refine D.F.ok PR (fun vs H Q E h=>h.1) (fun cdv A outer s H vs Q E hr h=>?_)
 have hu:=hr.units
 have hu1:=fm hr
 refine ⟨_,(@bz _ _ _ (@dC _ _ _ _ (bR i3 (hr.mono (by decide)) rfl df.m df.F.kp df.b .nil ay (@ao _ _ _ _ _ (bG uE (pv 0) (pv 1)) aC (by rfl))))),?_⟩
 exact fB (b:=DC) (dD (bS (F:=Bb) (aq (aB vf (ai 0) (ai 1)) aD) (aV (fun _ _ _ _ h=>bT h)))) rfl h
def DE:aj->Dm Fl :=
 (a7 (oF (aA (kD false) (aS eK (ae (ag 0) ah)) (fC (.int 4))) (aA (kD false) (aA l8 (aA cg (aA aL (ag 0) (fC (.int 0))) (aA aL (ag 0) (fC (.int 3)))) (aA cg (aA aL (ag 0) (fC (.int 1))) (aA aL (ag 0) (fC (.int 2))))) (fC (.int 1)))))
def Bg:List D->Dm D:=eI 1 DE
def Bh:Stmt:=top 4
theorem PV:ax ["thing"] ["thing"] (au Bh):=⟨rfl,rfl,rfl,by decide +kernel,rfl,by decide +kernel,by decide +kernel⟩
theorem PX {f:Addr} {fd:FuncData} (D:Def K mg "is_table" Bh ["thing"] f fd) (T:Txt mg)  :az P w K mg base bg 1 f fd ["thing"] (bj K 1 Bg):=by
 refine D.F.ok PV (fun vs H Q E h=>h.1) (fun cdv A outer s H vs Q E hr h=>?_)
 have hu:=hr.units
 have hu1:=fm hr
 refine ⟨_,(@bz _ _ _ (@dC _ _ _ _ (uj (yx ni (lq ma (by rfl) T.c5 md (@ao _ _ _ _ _ (pv 0) aC (by rfl))) aM (aT _)) (ui (yx ni (bG yu (bG lW (@bA _ _ _ _ _ _ _ b5 (pv 0) aM (fun _ _=>rfl)) (@bA _ _ _ _ _ _ _ b5 (pv 0) aM (fun _ _=>rfl))) (bG lW (@bA _ _ _ _ _ _ _ b5 (pv 0) aM (fun _ _=>rfl)) (@bA _ _ _ _ _ _ _ b5 (pv 0) aM (fun _ _=>rfl)))) aM (aT _)))))),?_⟩
 exact fB (b:=DE) (dD (Nt (aB ny (c4 ml (aq (ai 0) aD)) (aN _)) (aB ny (aB zG (aB l6 (aB bU (ai 0) (aN _)) (aB bU (ai 0) (aN _))) (aB l6 (aB bU (ai 0) (aN _)) (aB bU (ai 0) (aN _)))) (aN _)))) rfl h
def DF:aj->Dm Fl :=
 (aI (jM (aR (aA (kD false) (aA aL (ag 0) (fC (.int 0))) (fC (.int 1)))) (a7 (aS qL (ae (aA aL (ag 0) (fC (.int 1))) ah))) b8)
 (a7 (aA jI (b6 (ae (b6 (ae (fC (.str "t")) (ae (fC (.int 2)) ah))) ah)) (aS qL (ae (oE jO (aA aL (ag 0) (fC (.int 1)))) ah)))))
def Bi:List D->Dm D:=eI 1 DF
def Bj:Stmt:=top 23
theorem PY:ax ["table"] ["table"] (au Bj):=⟨rfl,rfl,rfl,by decide +kernel,rfl,by decide +kernel,by decide +kernel⟩
theorem PZ {f:Addr} {fd:FuncData} (D:Def K mg "level_word" Bj ["table"] f fd) (T:Txt mg)  {gX:Addr} {gY:FuncData} (cy:Def K mg "shears" xN ["k"] gX gY) (gZ:az P w K mg base bg 1 gX gY ["k"] (bj K 1 qL)):az P w K mg base bg 2 f fd ["table"] (bj K 1 Bi):=by
 refine D.F.ok PY (fun vs H Q E h=>h.1) (fun cdv A outer s H vs Q E hr h=>?_)
 have hu:=hr.units
 have hu1:=fm hr
 refine ⟨_,(@bD _ _ _ _ _ (@kq _ _ _ _ _ _ _ _ (iK ni (@bA _ _ _ _ _ _ _ b5 (pv 0) aM (fun _ _=>rfl)) aM (aT _)) (@bz _ _ _ (@dC _ _ _ _ (bR gZ (hr.mono (by decide)) rfl cy.m cy.F.kp cy.b .nil ay (@ao _ _ _ _ _ (@bA _ _ _ _ _ _ _ b5 (pv 0) aM (fun _ _=>rfl)) aC (by rfl))))) lp)
  (@bz _ _ _ (@dC _ _ _ _ (bG uE (@iD _ _ _ _ _ (@ao _ _ _ _ _ (@iD _ _ _ _ _ (@ao _ _ _ _ _ oh (@ao _ _ _ _ _ aM aC (by rfl)) (by rfl))) aC (by rfl))) (bR gZ (hr.mono (by decide)) rfl cy.m cy.F.kp cy.b .nil ay (@ao _ _ _ _ _ (pd pf (@bA _ _ _ _ _ _ _ b5 (pv 0) aM (fun _ _=>rfl))) aC (by rfl))))))),?_⟩
 exact fB (b:=DF) (bE (kF (iH (aB ny (aB bU (ai 0) (aN _)) (aN _))) (dD (bS (F:=qL) (aq (aB bU (ai 0) (aN _)) aD) (aV (fun _ _ _ _ h=>bT h)))) ly)
  (dD (aB vf (iG (aq (iG (aq (oD _) (aq (aN _) aD))) aD)) (bS (F:=qL) (aq (pk pz (aB bU (ai 0) (aN _))) aD) (aV (fun _ _ _ _ h=>bT h)))))) rfl h
def DG:aj->Dm Fl :=
 (aI (jM (aR (aA (kD false) (aA aL (ag 0) (fC (.int 0))) (fC (.str "s")))) (a7 (b6 (ae (fC (.str "s")) (ae (oE jO (aA aL (ag 0) (fC (.int 1)))) ah)))) b8)
 (a7 (b6 (ae (fC (.str "t")) (ae (aA l8 (fC (.int 4)) (aA aL (ag 0) (fC (.int 1)))) ah)))))
def Bk:List D->Dm D:=eI 1 DG
def Bl:Stmt:=top 16
theorem P0:ax ["step"] ["step"] (au Bl):=⟨rfl,rfl,rfl,by decide +kernel,rfl,by decide +kernel,by decide +kernel⟩
theorem P1 {f:Addr} {fd:FuncData} (D:Def K mg "back_step" Bl ["step"] f fd) (T:Txt mg)  :az P w K mg base bg 1 f fd ["step"] (bj K 1 Bk):=by
 refine D.F.ok P0 (fun vs H Q E h=>h.1) (fun cdv A outer s H vs Q E hr h=>?_)
 have hu:=hr.units
 have hu1:=fm hr
 refine ⟨_,(@bD _ _ _ _ _ (@kq _ _ _ _ _ _ _ _ (iK ni (@bA _ _ _ _ _ _ _ b5 (pv 0) aM (fun _ _=>rfl)) oh (aT _)) (@bz _ _ _ (@dC _ _ _ _ (@iD _ _ _ _ _ (@ao _ _ _ _ _ oh (@ao _ _ _ _ _ (pd pf (@bA _ _ _ _ _ _ _ b5 (pv 0) aM (fun _ _=>rfl))) aC (by rfl)) (by rfl))))) lp)
  (@bz _ _ _ (@dC _ _ _ _ (@iD _ _ _ _ _ (@ao _ _ _ _ _ oh (@ao _ _ _ _ _ (bG yu aM (@bA _ _ _ _ _ _ _ b5 (pv 0) aM (fun _ _=>rfl))) aC (by rfl)) (by rfl)))))),?_⟩
 exact fB (b:=DG) (bE (kF (iH (aB ny (aB bU (ai 0) (aN _)) (oD _))) (dD (iG (aq (oD _) (aq (pk pz (aB bU (ai 0) (aN _))) aD)))) ly)
  (dD (iG (aq (oD _) (aq (aB zG (aN _) (aB bU (ai 0) (aN _))) aD))))) rfl h
def DH:aj->Dm Fl :=
 (a7 (aS bW (ae (ef (oI (ae (ag 0) ah)) 1 [] (hName 0) fA (aS Bk (ae (ag 0) ah))) ah)))
def Bm:List D->Dm D:=eI 1 DH
def Bn:Stmt:=top 17
theorem P4:ax ["word"] ["word"] (au Bn):=⟨rfl,rfl,rfl,by decide +kernel,rfl,by decide +kernel,by decide +kernel⟩
theorem P5 {f:Addr} {fd:FuncData} (D:Def K mg "back_word" Bn ["word"] f fd) (T:Txt mg)  {g5:Addr} {g7:FuncData} (dR:Def K mg "back_step" Bl ["step"] g5 g7) (jT:az P w K mg base bg 1 g5 g7 ["step"] (bj K 1 Bk)):az P w K mg base bg 2 f fd ["word"] (bj K 1 Bm):=by
 refine D.F.ok P4 (fun vs H Q E h=>h.1) (fun cdv A outer s H vs Q E hr h=>?_)
 have hu:=hr.units
 have hu1:=fm hr
 refine ⟨_,(@bz _ _ _ (@dC _ _ _ _ (gw nF (by rfl) T.bJ nG (@ao _ _ _ _ _ (rf (own:=["step"]) (fr:=[]) (js:=[]) rfl ⟨⟨rfl,by decide +kernel,by decide +kernel,by dsimp only [iN,aW,Cx.nT,Cx.wish,PyProof.Rows.envOfC,compEnvC,relabel,Env.kindOf];decide +kernel,by decide +kernel⟩,rfl⟩ (uM rfl T.n9 (@ao _ _ _ _ _ (pv 0) aC (by rfl))) (fun _ _ _ _ _=>(eZ (i:=0) (show ((["step"]:List Str) ++ ([]:List Str)).Nodup by decide +kernel) rfl (by first | exact Or.inl rfl | exact Or.inr rfl))) (fun _ _ _ _ _=>q5) (fun _ _ _ _ _=>(bR jT (hr.mono (by decide)) rfl dR.m dR.F.kp dR.b .nil ay (@ao _ _ _ _ _ (pv 0) aC (by rfl))))) aC (by rfl))))),?_⟩
 exact fB (b:=DH) (dD (c4 nL (aq (qg (OR (aq (ai 0) aD)) (a8 0) rK (bS (F:=Bk) (aq (ai 0) aD) (aV (fun _ _ _ _ h=>bT h)))) aD))) rfl h
def DI:aj->Dm Fl :=
 (aI (jM (o4 (aR (aS Bg (ae (ag 0) ah)))) qq b8)
 (aI (aO (aS A7 (ae (b6 (ae (aA aL (ag 0) (fC (.int 0))) (ae (aA aL (ag 0) (fC (.int 2))) ah))) ah)) (hName 1))
 (a7 (aS Be (ae (aS Bi (ae (aS oN (ae (aS qu (ae (ag 1) ah)) (ae (ag 0) ah))) ah)) (ae (aS Bm (ae (ag 1) ah)) ah))))))
def tQ:List D->Dm D:=eI 2 DI
def xP:Stmt:=top 19
theorem J8:ax ["table","gone"] ["table"] (au xP):=⟨rfl,rfl,rfl,by decide +kernel,rfl,by decide +kernel,by decide +kernel⟩
theorem P6 {f:Addr} {fd:FuncData} (D:Def K mg "word_of" xP ["table"] f fd) (T:Txt mg)  {eR:Addr} {eU:FuncData} (cW:Def K mg "level_steps" A8 ["pair"] eR eU) (g8:az P w K mg base bg 4 eR eU ["pair"] (bj K 1 A7)) {d6:Addr} {d7:FuncData} (cq:Def K mg "put_together" Bf ["one","other"] d6 d7) (gj:az P w K mg base bg 3 d6 d7 ["one","other"] (bj K 2 Be)) {jv:Addr} {jw:FuncData} (fg:Def K mg "is_table" Bh ["thing"] jv jw) (kM:az P w K mg base bg 1 jv jw ["thing"] (bj K 1 Bg)) {fV:Addr} {fW:FuncData} (dg:Def K mg "level_word" Bj ["table"] fV fW) (i5:az P w K mg base bg 2 fV fW ["table"] (bj K 1 Bi)) {g9:Addr} {hJ:FuncData} (dS:Def K mg "back_word" Bn ["word"] g9 hJ) (jU:az P w K mg base bg 2 g9 hJ ["word"] (bj K 1 Bm)) {dP:Addr} {dQ:FuncData} (bM:Def K mg "times" tP ["one","other"] dP dQ) (eB:az P w K mg base bg 1 dP dQ ["one","other"] (bj K 2 oN)) {cm:Addr} {cn:FuncData} (bh:Def K mg "table_of" wH ["word"] cm cn) (cV:az P w K mg base bg 3 cm cn ["word"] (bj K 1 qu)):az P w K mg base bg 5 f fd ["table"] (bj K 1 tQ):=by
 refine D.F.ok J8 (fun vs H Q E h=>h.1) (fun cdv A outer s H vs Q E hr h=>?_)
 have hu:=hr.units
 have hu1:=fm hr
 refine ⟨_,(@bD _ _ _ _ _ (@kq _ _ _ _ _ _ _ _ (Em (Ek (bR kM (hr.mono (by decide)) rfl fg.m fg.F.kp fg.b .nil ay (@ao _ _ _ _ _ (pv 0) aC (by rfl))))) (@bz _ _ _ K3) lp)
  (@bD _ _ _ _ _ (@cM (i:=1) _ _ _ _ _ _ J8.nd rfl (by first | exact Or.inl rfl | exact Or.inr rfl) (bR g8 (hr.mono (by decide)) rfl cW.m cW.F.kp cW.b .nil ay (@ao _ _ _ _ _ (@iD _ _ _ _ _ (@ao _ _ _ _ _ (@bA _ _ _ _ _ _ _ b5 (pv 0) aM (fun _ _=>rfl)) (@ao _ _ _ _ _ (@bA _ _ _ _ _ _ _ b5 (pv 0) aM (fun _ _=>rfl)) aC (by rfl)) (by rfl))) aC (by rfl))) (by rfl) (by first | exact .inl rfl | exact .inr rfl | assumption))
  (@bz _ _ _ (@dC _ _ _ _ (bR gj (hr.mono (by decide)) rfl cq.m cq.F.kp cq.b .nil ay (@ao _ _ _ _ _ (bR i5 (hr.mono (by decide)) rfl dg.m dg.F.kp dg.b .nil ay (@ao _ _ _ _ _ (bR eB (hr.mono (by decide)) rfl bM.m bM.F.kp bM.b .nil ay (@ao _ _ _ _ _ (bR cV (hr.mono (by decide)) rfl bh.m bh.F.kp bh.b .nil ay (@ao _ _ _ _ _ (pv 1) aC (by rfl))) (@ao _ _ _ _ _ (pv 0) aC (by rfl)) (by rfl))) aC (by rfl))) (@ao _ _ _ _ _ (bR jU (hr.mono (by decide)) rfl dS.m dS.F.kp dS.b .nil ay (@ao _ _ _ _ _ (pv 1) aC (by rfl))) aC (by rfl)) (by rfl))))))),?_⟩
 exact fB (b:=DI) (bE (kF (FN (CG (bS (F:=Bg) (aq (ai 0) aD) (aV (fun _ _ _ _ h=>bT h))))) OY ly)
  (bE (b7 (bS (F:=A7) (aq (iG (aq (aB bU (ai 0) (aN _)) (aq (aB bU (ai 0) (aN _)) aD))) aD) (aV (fun _ _ _ _ h=>bT h))) (a8 1))
  (dD (bS (F:=Be) (aq (bS (F:=Bi) (aq (bS (F:=oN) (aq (bS (F:=qu) (aq (ai 1) aD) (aV (fun _ _ _ _ h=>bT h))) (aq (ai 0) aD)) (aV (aV (fun _ _ _ _ h=>bT h)))) aD) (aV (fun _ _ _ _ h=>bT h))) (aq (bS (F:=Bm) (aq (ai 1) aD) (aV (fun _ _ _ _ h=>bT h))) aD)) (aV (aV (fun _ _ _ _ h=>bT h))))))) rfl h
def DJ:aj->Dm Fl :=
 (a7 (aS tN (ae (aS tO (ae (ag 0) (ae (aS tQ (ae (ag 1) ah)) ah))) ah)))
def oO:List D->Dm D:=eI 2 DJ
def xQ:Stmt:=top 42
theorem P7:ax ["floor","table"] ["floor","table"] (au xQ):=⟨rfl,rfl,rfl,by decide +kernel,rfl,by decide +kernel,by decide +kernel⟩
theorem P8 {f:Addr} {fd:FuncData} (D:Def K mg "led_by_table" xQ ["floor","table"] f fd) (T:Txt mg)  {fE:Addr} {fF:FuncData} (cI:Def K mg "form_of" xJ ["floor"] fE fF) (gF:az P w K mg base bg 4 fE fF ["floor"] (bj K 1 tN)) {hU:Addr} {hV:FuncData} (du:Def K mg "led_by" xM ["floor","word"] hU hV) (jx:az P w K mg base bg 6 hU hV ["floor","word"] (bj K 2 tO)) {fG:Addr} {fH:FuncData} (cJ:Def K mg "word_of" xP ["table"] fG fH) (gG:az P w K mg base bg 5 fG fH ["table"] (bj K 1 tQ)):az P w K mg base bg 7 f fd ["floor","table"] (bj K 2 oO):=by
 refine D.F.ok P7 (fun vs H Q E h=>h.1) (fun cdv A outer s H vs Q E hr h=>?_)
 have hu:=hr.units
 have hu1:=fm hr
 refine ⟨_,(@bz _ _ _ (@dC _ _ _ _ (bR gF (hr.mono (by decide)) rfl cI.m cI.F.kp cI.b .nil ay (@ao _ _ _ _ _ (bR jx (hr.mono (by decide)) rfl du.m du.F.kp du.b .nil ay (@ao _ _ _ _ _ (pv 0) (@ao _ _ _ _ _ (bR gG (hr.mono (by decide)) rfl cJ.m cJ.F.kp cJ.b .nil ay (@ao _ _ _ _ _ (pv 1) aC (by rfl))) aC (by rfl)) (by rfl))) aC (by rfl))))),?_⟩
 exact fB (b:=DJ) (dD (bS (F:=tN) (aq (bS (F:=tO) (aq (ai 0) (aq (bS (F:=tQ) (aq (ai 1) aD) (aV (fun _ _ _ _ h=>bT h))) aD)) (aV (aV (fun _ _ _ _ h=>bT h)))) aD) (aV (fun _ _ _ _ h=>bT h)))) rfl h
def DK:aj->Dm Fl :=
 (aI (aO (er ah) (hName 3))
 (aI (dG (b9 (ae (aS kI (ae (ag 0) (ae (aA dj (ag 1) (fC (.int 1))) ah))) ah)) (hName 4) (jM (aR (aA (kD false) (aS kI (ae (ag 0) (ae (fC (.int 2)) ah))) (fC (.int 0)))) (iT (n6 "list" dm (ag 3) (ae (b6 (ae (fC (.str "t")) (ae (aA dj (fC (.int 1)) (aS kI (ae (ag 0) (ae (fC (.int 3)) ah)))) ah))) ah))) (aI (aO (aA dj (fC (.int 1)) (aS kI (ae (ag 0) (ae (ag 2) ah)))) (hName 4))
 (iT (n6 "list" dm (ag 3) (ae (b6 (ae (fC (.str "s")) (ae (aA eJ (er (ae (ag 4) (ae (aA l8 (fC (.int 0)) (ag 4)) ah))) (aS kI (ae (ag 0) (ae (fC (.int 2)) ah)))) ah))) ah))))))
 (a7 (aS bW (ae (ag 3) ah)))))
def Bo:List D->Dm D:=eI 5 DK
def Bp:Stmt:=top 54
theorem DL:ax ["_law_feed_here","_law_most","_law_great","_law_found","_law_k"] ["_law_feed_here","_law_most","_law_great"] (au Bp):=⟨rfl,rfl,rfl,by decide +kernel,rfl,by decide +kernel,by decide +kernel⟩
theorem P9 {f:Addr} {fd:FuncData} (D:Def K mg "_law_word" Bp ["_law_feed_here","_law_most","_law_great"] f fd) (T:Txt mg)  {aX:Addr} {aY:FuncData} (av:Def K mg "_law_take" rO ["_law_feed_here","_law_many"] aX aY) (aQ:az P w K mg base bg 1 aX aY ["_law_feed_here","_law_many"] (bj K 2 kI)):az P w K mg base bg 2 f fd ["_law_feed_here","_law_most","_law_great"] (bj K 3 Bo):=by
 refine D.F.ok DL (fun vs H Q E h=>h.1) (fun cdv A outer s H vs Q E hr h=>?_)
 have hu:=hr.units
 have hu1:=fm hr
 refine ⟨_,(@bD _ _ _ _ _ (@cM (i:=3) _ _ _ _ _ _ DL.nd rfl (by first | exact Or.inl rfl | exact Or.inr rfl) (@lV _ _ _ _ aC) (by rfl) (by first | exact .inl rfl | exact .inr rfl | assumption))
  (@bD _ _ _ _ _ (@lU _ _ _ _ _ _ _ _ PassesOwn.never rfl (nV rfl T.a5 (@ao _ _ _ _ _ (bR aQ (hr.mono (by decide)) rfl av.m av.F.kp av.b .nil ay (@ao _ _ _ _ _ (pv 0) (@ao _ _ _ _ _ (bG km (pv 1) aM) aC (by rfl)) (by rfl))) aC (by rfl))) (eZ (i:=4) DL.nd rfl (by first | exact Or.inl rfl | exact Or.inr rfl)) (@bz _ _ _ (@kq _ _ _ _ _ _ _ _ (iK ni (bR aQ (hr.mono (by decide)) rfl av.m av.F.kp av.b .nil ay (@ao _ _ _ _ _ (pv 0) (@ao _ _ _ _ _ aM aC (by rfl)) (by rfl))) aM (aT _)) (@bz _ _ _ (rY (qB PySem.F.plainAttrs_list PySem.F.slot_list_append PySem.F.type_list_append sv (pv 3) (@ao _ _ _ _ _ (@iD _ _ _ _ _ (@ao _ _ _ _ _ oh (@ao _ _ _ _ _ (bG km aM (bR aQ (hr.mono (by decide)) rfl av.m av.F.kp av.b .nil ay (@ao _ _ _ _ _ (pv 0) (@ao _ _ _ _ _ aM aC (by rfl)) (by rfl)))) aC (by rfl)) (by rfl))) aC (by rfl))))) (@bD _ _ _ _ _ (@cM (i:=4) _ _ _ _ _ _ DL.nd rfl (by first | exact Or.inl rfl | exact Or.inr rfl) (bG km aM (bR aQ (hr.mono (by decide)) rfl av.m av.F.kp av.b .nil ay (@ao _ _ _ _ _ (pv 0) (@ao _ _ _ _ _ (pv 2) aC (by rfl)) (by rfl)))) (by rfl) (by first | exact .inl rfl | exact .inr rfl | assumption))
  (@bz _ _ _ (rY (qB PySem.F.plainAttrs_list PySem.F.slot_list_append PySem.F.type_list_append sv (pv 3) (@ao _ _ _ _ _ (@iD _ _ _ _ _ (@ao _ _ _ _ _ oh (@ao _ _ _ _ _ (@bA _ _ _ _ _ _ _ l9 (@lV _ _ _ _ (@ao _ _ _ _ _ (pv 4) (@ao _ _ _ _ _ (bG yu aM (pv 4)) aC (by rfl)) (by rfl))) (bR aQ (hr.mono (by decide)) rfl av.m av.F.kp av.b .nil ay (@ao _ _ _ _ _ (pv 0) (@ao _ _ _ _ _ aM aC (by rfl)) (by rfl))) (fun _ _=>rfl)) aC (by rfl)) (by rfl))) aC (by rfl)))))))) (by intro _;rfl))
  (@bz _ _ _ (@dC _ _ _ _ (gw nF (by rfl) T.bJ nG (@ao _ _ _ _ _ (pv 3) aC (by rfl))))))),?_⟩
 exact fB (b:=DK) (bE (b7 (lX aD) (a8 3))
  (bE (lY (n8 (aq (bS (F:=kI) (aq (ai 0) (aq (aB kn (ai 1) (aN _)) aD)) (aV (aV (fun _ _ _ _ h=>bT h)))) aD)) (a8 4) (kF (iH (aB ny (bS (F:=kI) (aq (ai 0) (aq (aN _) aD)) (aV (aV (fun _ _ _ _ h=>bT h)))) (aN _))) (tm (pB sZ (ai 3) (aq (iG (aq (oD _) (aq (aB kn (aN _) (bS (F:=kI) (aq (ai 0) (aq (aN _) aD)) (aV (aV (fun _ _ _ _ h=>bT h))))) aD))) aD))) (bE (b7 (aB kn (aN _) (bS (F:=kI) (aq (ai 0) (aq (ai 2) aD)) (aV (aV (fun _ _ _ _ h=>bT h))))) (a8 4))
  (tm (pB sZ (ai 3) (aq (iG (aq (oD _) (aq (aB mh (lX (aq (ai 4) (aq (aB zG (aN _) (ai 4)) aD))) (bS (F:=kI) (aq (ai 0) (aq (aN _) aD)) (aV (aV (fun _ _ _ _ h=>bT h))))) aD))) aD))))))
  (dD (c4 nL (aq (ai 3) aD))))) rfl h
def DM:aj->Dm Fl :=
 (aI (aO (aS kI (ae (ag 0) (ae (fC (.int 3)) ah))) (hName 1))
 (a7 (aS Bo (ae (ag 0) (ae (aA eJ (er (ae (fC (.int 12)) (ae (fC (.int 6)) (ae (fC (.int 4)) ah)))) (ag 1)) (ae (aA eJ (er (ae (fC (.int 3)) (ae (fC (.int 20)) (ae (fC (.int 500)) ah)))) (ag 1)) ah))))))
def wI:List D->Dm D:=eI 2 DM
def Bq:Stmt:=top 57
theorem J9:ax ["_law_feed_here","_law_form_here"] ["_law_feed_here"] (au Bq):=⟨rfl,rfl,rfl,by decide +kernel,rfl,by decide +kernel,by decide +kernel⟩
theorem Qa {f:Addr} {fd:FuncData} (D:Def K mg "_law_any_word" Bq ["_law_feed_here"] f fd) (T:Txt mg)  {aX:Addr} {aY:FuncData} (av:Def K mg "_law_take" rO ["_law_feed_here","_law_many"] aX aY) (aQ:az P w K mg base bg 1 aX aY ["_law_feed_here","_law_many"] (bj K 2 kI)) {hW:Addr} {h8:FuncData} (dU:Def K mg "_law_word" Bp ["_law_feed_here","_law_most","_law_great"] hW h8) (jV:az P w K mg base bg 2 hW h8 ["_law_feed_here","_law_most","_law_great"] (bj K 3 Bo)):az P w K mg base bg 3 f fd ["_law_feed_here"] (bj K 1 wI):=by
 refine D.F.ok J9 (fun vs H Q E h=>h.1) (fun cdv A outer s H vs Q E hr h=>?_)
 have hu:=hr.units
 have hu1:=fm hr
 refine ⟨_,(@bD _ _ _ _ _ (@cM (i:=1) _ _ _ _ _ _ J9.nd rfl (by first | exact Or.inl rfl | exact Or.inr rfl) (bR aQ (hr.mono (by decide)) rfl av.m av.F.kp av.b .nil ay (@ao _ _ _ _ _ (pv 0) (@ao _ _ _ _ _ aM aC (by rfl)) (by rfl))) (by rfl) (by first | exact .inl rfl | exact .inr rfl | assumption))
  (@bz _ _ _ (@dC _ _ _ _ (bR jV (hr.mono (by decide)) rfl dU.m dU.F.kp dU.b .nil ay (@ao _ _ _ _ _ (pv 0) (@ao _ _ _ _ _ (@bA _ _ _ _ _ _ _ l9 (@lV _ _ _ _ (@ao _ _ _ _ _ aM (@ao _ _ _ _ _ aM (@ao _ _ _ _ _ aM aC (by rfl)) (by rfl)) (by rfl))) (pv 1) (fun _ _=>rfl)) (@ao _ _ _ _ _ (@bA _ _ _ _ _ _ _ l9 (@lV _ _ _ _ (@ao _ _ _ _ _ aM (@ao _ _ _ _ _ aM (@ao _ _ _ _ _ aM aC (by rfl)) (by rfl)) (by rfl))) (pv 1) (fun _ _=>rfl)) aC (by rfl)) (by rfl)) (by rfl)))))),?_⟩
 exact fB (b:=DM) (bE (b7 (bS (F:=kI) (aq (ai 0) (aq (aN _) aD)) (aV (aV (fun _ _ _ _ h=>bT h)))) (a8 1))
  (dD (bS (F:=Bo) (aq (ai 0) (aq (aB mh (lX (aq (aN _) (aq (aN _) (aq (aN _) aD)))) (ai 1)) (aq (aB mh (lX (aq (aN _) (aq (aN _) (aq (aN _) aD)))) (ai 1)) aD))) (aV (aV (aV (fun _ _ _ _ h=>bT h))))))) rfl h
def DN:aj->Dm Fl :=
 (aI (aO (ag 0) (lL 4 (cY (hName 2) (cY (hName 3) (cY (hName 4) (cY (hName 5) mq))))))
 (aI (aO (ag 1) (lL 4 (cY (hName 6) (cY (hName 7) (cY (hName 8) (cY (hName 9) mq))))))
 (a7 (b6 (ae (aA dj (aA cg (ag 2) (ag 6)) (aA cg (ag 3) (ag 8))) (ae (aA dj (aA cg (ag 2) (ag 7)) (aA cg (ag 3) (ag 9))) (ae (aA dj (aA cg (ag 4) (ag 6)) (aA cg (ag 5) (ag 8))) (ae (aA dj (aA cg (ag 4) (ag 7)) (aA cg (ag 5) (ag 9))) ah))))))))
def Br:List D->Dm D:=eI 10 DN
def Bs:Stmt:=top 55
theorem rQ:ax ["_law_one","_law_other","_law_a","_law_b","_law_c","_law_d","_law_e","_law_f","_law_g","_law_h"] ["_law_one","_law_other"] (au Bs):=⟨rfl,rfl,rfl,by decide +kernel,rfl,by decide +kernel,by decide +kernel⟩
theorem Qb {f:Addr} {fd:FuncData} (D:Def K mg "_law_times" Bs ["_law_one","_law_other"] f fd) (T:Txt mg)  :az P w K mg base bg 1 f fd ["_law_one","_law_other"] (bj K 2 Br):=by
 refine D.F.ok rQ (fun vs H Q E h=>h.1) (fun cdv A outer s H vs Q E hr h=>?_)
 have hu:=hr.units
 have hu1:=fm hr
 refine ⟨_,(@bD _ _ _ _ _ (qT (pv 0) (r9 (n:=4) rfl (mw (eZ (i:=2) rQ.nd rfl (by first | exact Or.inl rfl | exact Or.inr rfl)) (mw (eZ (i:=3) rQ.nd rfl (by first | exact Or.inl rfl | exact Or.inr rfl)) (mw (eZ (i:=4) rQ.nd rfl (by first | exact Or.inl rfl | exact Or.inr rfl)) (mw (eZ (i:=5) rQ.nd rfl (by first | exact Or.inl rfl | exact Or.inr rfl)) r6))))))
  (@bD _ _ _ _ _ (qT (pv 1) (r9 (n:=4) rfl (mw (eZ (i:=6) rQ.nd rfl (by first | exact Or.inl rfl | exact Or.inr rfl)) (mw (eZ (i:=7) rQ.nd rfl (by first | exact Or.inl rfl | exact Or.inr rfl)) (mw (eZ (i:=8) rQ.nd rfl (by first | exact Or.inl rfl | exact Or.inr rfl)) (mw (eZ (i:=9) rQ.nd rfl (by first | exact Or.inl rfl | exact Or.inr rfl)) r6))))))
  (@bz _ _ _ (@dC _ _ _ _ (@iD _ _ _ _ _ (@ao _ _ _ _ _ (bG km (bG lW (pv 2) (pv 6)) (bG lW (pv 3) (pv 8))) (@ao _ _ _ _ _ (bG km (bG lW (pv 2) (pv 7)) (bG lW (pv 3) (pv 9))) (@ao _ _ _ _ _ (bG km (bG lW (pv 4) (pv 6)) (bG lW (pv 5) (pv 8))) (@ao _ _ _ _ _ (bG km (bG lW (pv 4) (pv 7)) (bG lW (pv 5) (pv 9))) aC (by rfl)) (by rfl)) (by rfl)) (by rfl))))))),?_⟩
 exact fB (b:=DN) (bE (b7 (ai 0) (tj (mE (a8 2) (mE (a8 3) (mE (a8 4) (mE (a8 5) tf))))))
  (bE (b7 (ai 1) (tj (mE (a8 6) (mE (a8 7) (mE (a8 8) (mE (a8 9) tf))))))
  (dD (iG (aq (aB kn (aB l6 (ai 2) (ai 6)) (aB l6 (ai 3) (ai 8))) (aq (aB kn (aB l6 (ai 2) (ai 7)) (aB l6 (ai 3) (ai 9))) (aq (aB kn (aB l6 (ai 4) (ai 6)) (aB l6 (ai 5) (ai 8))) (aq (aB kn (aB l6 (ai 4) (ai 7)) (aB l6 (ai 5) (ai 9))) aD)))))))) rfl h
def DO:aj->Dm Fl :=
 (aI (aO (b6 (ae (fC (.int 1)) (ae (fC (.int 0)) (ae (fC (.int 0)) (ae (fC (.int 1)) ah))))) (hName 1))
 (aI (dG (fz (ag 0)) (lL 2 (cY (hName 2) (cY (hName 3) mq))) (dG (b9 (ae (aA eJ (er (ae (fC (.int 1)) (ae (ag 3) ah))) (aS mD (ae (aA (kD false) (ag 2) (fC (.str "t"))) ah))) ah)) (hName 4) (aO (aS Br (ae (aA eJ (er (ae (b6 (ae (fC (.int 1)) (ae (ag 3) (ae (fC (.int 0)) (ae (fC (.int 1)) ah))))) (ae (b6 (ae (fC (.int 0)) (ae (oE jO (fC (.int 1))) (ae (fC (.int 1)) (ae (fC (.int 0)) ah))))) ah))) (aS mD (ae (aA (kD false) (ag 2) (fC (.str "t"))) ah))) (ae (ag 1) ah))) (hName 1))))
 (a7 (ag 1))))
def oP:List D->Dm D:=eI 5 DO
def xR:Stmt:=top 56
theorem xS:ax ["_law_word_here","_law_found","_law_letter","_law_k","_law_turn"] ["_law_word_here"] (au xR):=⟨rfl,rfl,rfl,by decide +kernel,rfl,by decide +kernel,by decide +kernel⟩
theorem Qc {f:Addr} {fd:FuncData} (D:Def K mg "_law_table" xR ["_law_word_here"] f fd) (T:Txt mg)  {fX:Addr} {fY:FuncData} (dh:Def K mg "_law_times" Bs ["_law_one","_law_other"] fX fY) (i6:az P w K mg base bg 1 fX fY ["_law_one","_law_other"] (bj K 2 Br)):az P w K mg base bg 2 f fd ["_law_word_here"] (bj K 1 oP):=by
 refine D.F.ok xS (fun vs H Q E h=>h.1) (fun cdv A outer s H vs Q E hr h=>?_)
 have hu:=hr.units
 have hu1:=fm hr
 refine ⟨_,(@bD _ _ _ _ _ (@cM (i:=1) _ _ _ _ _ _ xS.nd rfl (by first | exact Or.inl rfl | exact Or.inr rfl) (@iD _ _ _ _ _ (@ao _ _ _ _ _ aM (@ao _ _ _ _ _ aM (@ao _ _ _ _ _ aM (@ao _ _ _ _ _ aM aC (by rfl)) (by rfl)) (by rfl)) (by rfl))) (by rfl) (by first | exact .inl rfl | exact .inr rfl | assumption))
  (@bD _ _ _ _ _ (@lU _ _ _ _ _ _ _ _ PassesOwn.never rfl (pb (pv 0)) (r9 (n:=2) rfl (mw (eZ (i:=2) xS.nd rfl (by first | exact Or.inl rfl | exact Or.inr rfl)) (mw (eZ (i:=3) xS.nd rfl (by first | exact Or.inl rfl | exact Or.inr rfl)) r6))) (@bz _ _ _ (@lU _ _ _ _ _ _ _ _ PassesOwn.never rfl (nV rfl T.a5 (@ao _ _ _ _ _ (@bA _ _ _ _ _ _ _ l9 (@lV _ _ _ _ (@ao _ _ _ _ _ aM (@ao _ _ _ _ _ (pv 3) aC (by rfl)) (by rfl))) (gw Hn (by rfl) T.tL HS (@ao _ _ _ _ _ (yx ni (pv 2) oh (aT _)) aC (by rfl))) (fun _ _=>rfl)) aC (by rfl))) (eZ (i:=4) xS.nd rfl (by first | exact Or.inl rfl | exact Or.inr rfl)) (@bz _ _ _ (@cM (i:=1) _ _ _ _ _ _ xS.nd rfl (by first | exact Or.inl rfl | exact Or.inr rfl) (bR i6 (hr.mono (by decide)) rfl dh.m dh.F.kp dh.b .nil ay (@ao _ _ _ _ _ (@bA _ _ _ _ _ _ _ l9 (@lV _ _ _ _ (@ao _ _ _ _ _ (@iD _ _ _ _ _ (@ao _ _ _ _ _ aM (@ao _ _ _ _ _ (pv 3) (@ao _ _ _ _ _ aM (@ao _ _ _ _ _ aM aC (by rfl)) (by rfl)) (by rfl)) (by rfl))) (@ao _ _ _ _ _ (@iD _ _ _ _ _ (@ao _ _ _ _ _ aM (@ao _ _ _ _ _ (pd pf aM) (@ao _ _ _ _ _ aM (@ao _ _ _ _ _ aM aC (by rfl)) (by rfl)) (by rfl)) (by rfl))) aC (by rfl)) (by rfl))) (gw Hn (by rfl) T.tL HS (@ao _ _ _ _ _ (yx ni (pv 2) oh (aT _)) aC (by rfl))) (fun _ _=>rfl)) (@ao _ _ _ _ _ (pv 1) aC (by rfl)) (by rfl))) (by rfl) (by first | exact .inl rfl | exact .inr rfl | assumption))) (by intro _;rfl))) (by intro _;rfl))
  (@bz _ _ _ (@dC _ _ _ _ (pv 1))))),?_⟩
 exact fB (b:=DO) (bE (b7 (iG (aq (aN _) (aq (aN _) (aq (aN _) (aq (aN _) aD))))) (a8 1))
  (bE (lY (pC (ai 0)) (tj (mE (a8 2) (mE (a8 3) tf))) (lY (n8 (aq (aB mh (lX (aq (aN _) (aq (ai 3) aD))) (c4 JE (aq (aB ny (ai 2) (oD _)) aD))) aD)) (a8 4) (b7 (bS (F:=Br) (aq (aB mh (lX (aq (iG (aq (aN _) (aq (ai 3) (aq (aN _) (aq (aN _) aD))))) (aq (iG (aq (aN _) (aq (pk pz (aN _)) (aq (aN _) (aq (aN _) aD))))) aD))) (c4 JE (aq (aB ny (ai 2) (oD _)) aD))) (aq (ai 1) aD)) (aV (aV (fun _ _ _ _ h=>bT h)))) (a8 1))))
  (dD (ai 1)))) rfl h
def DP:aj->Dm Fl :=
 (aI (aO (er (ae (ag 1) ah)) (hName 2))
 (aI (dG (kG (aS dF (ae (aS gN (ae (aS eK (ae (aA aL (ag 0) (fC (.int 0))) ah)) ah)) ah))) (hName 3) (dG (fz (ag 0)) (hName 4) (jM (qb (aR (aA xy (ag 3) (aS eK (ae (ag 2) ah)))) (aR (aA (pA true) (aA aL (ag 4) (aA eJ (ag 2) (ag 3))) (ag 2)))) (iT (n6 "list" dm (ag 2) (ae (aA aL (ag 4) (aA eJ (ag 2) (ag 3))) ah))) b8)))
 (a7 (aS bW (ae (ef (fz (ag 0)) 1 [2] (hName 0) fA (aS bW (ae (ef (kG (ag 1)) 1 [0,1] (hName 0) fA (n6 "list" jk (ag 2) (ae (aA aL (ag 1) (ag 0)) ah))) ah))) ah)))))
def Bt:List D->Dm D:=eI 5 DP
def Bu:Stmt:=top 52
theorem DQ:ax ["_law_floor_here","_law_s","_law_called","_law_one","_law_turning_here"] ["_law_floor_here","_law_s"] (au Bu):=⟨rfl,rfl,rfl,by decide +kernel,rfl,by decide +kernel,by decide +kernel⟩
theorem Qd {f:Addr} {fd:FuncData} (D:Def K mg "_law_numbered" Bu ["_law_floor_here","_law_s"] f fd) (T:Txt mg)  :az P w K mg base bg 1 f fd ["_law_floor_here","_law_s"] (bj K 2 Bt):=by
 refine D.F.ok DQ (fun vs H Q E h=>h.1) (fun cdv A outer s H vs Q E hr h=>?_)
 have hu:=hr.units
 have hu1:=fm hr
 refine ⟨_,(@bD _ _ _ _ _ (@cM (i:=2) _ _ _ _ _ _ DQ.nd rfl (by first | exact Or.inl rfl | exact Or.inr rfl) (@lV _ _ _ _ (@ao _ _ _ _ _ (pv 1) aC (by rfl))) (by rfl) (by first | exact .inl rfl | exact .inr rfl | assumption))
  (@bD _ _ _ _ _ (@lU _ _ _ _ _ _ _ _ PassesOwn.never rfl (Es (gw (qD rfl) (by rfl) T.dI oW (@ao _ _ _ _ _ (gw Cd (by rfl) T.a5 qC (@ao _ _ _ _ _ (lq ma (by rfl) T.c5 md (@ao _ _ _ _ _ (@bA _ _ _ _ _ _ _ b5 (pv 0) aM (fun _ _=>rfl)) aC (by rfl))) aC (by rfl))) aC (by rfl)))) (eZ (i:=3) DQ.nd rfl (by first | exact Or.inl rfl | exact Or.inr rfl)) (@bz _ _ _ (@lU _ _ _ _ _ _ _ _ PassesOwn.never rfl (pb (pv 0)) (eZ (i:=4) DQ.nd rfl (by first | exact Or.inl rfl | exact Or.inr rfl)) (@bz _ _ _ (@kq _ _ _ _ _ _ _ _ (PW.pt (Ha (iK B6 (pv 3) (lq ma (by rfl) T.c5 md (@ao _ _ _ _ _ (pv 2) aC (by rfl))) (aT _)) (G8 (iK B9 (@bA _ _ _ _ _ _ _ b5 (pv 4) (@bA _ _ _ _ _ _ _ l9 (pv 2) (pv 3) (fun _ _=>rfl)) (fun _ _=>rfl)) (pv 2) (by with_unfolding_all rfl))))) (@bz _ _ _ (rY (qB PySem.F.plainAttrs_list PySem.F.slot_list_append PySem.F.type_list_append sv (pv 2) (@ao _ _ _ _ _ (@bA _ _ _ _ _ _ _ b5 (pv 4) (@bA _ _ _ _ _ _ _ l9 (pv 2) (pv 3) (fun _ _=>rfl)) (fun _ _=>rfl)) aC (by rfl))))) lp)) (by intro _;rfl))) (by intro _;rfl))
  (@bz _ _ _ (@dC _ _ _ _ (gw nF (by rfl) T.bJ nG (@ao _ _ _ _ _ (rf (own:=["_law_turning_here"]) (fr:=["_law_called"]) (js:=[2]) rfl ⟨⟨rfl,by decide +kernel,by decide +kernel,by dsimp only [iN,aW,Cx.nT,Cx.wish,PyProof.Rows.envOfC,compEnvC,relabel,Env.kindOf];decide +kernel,by decide +kernel⟩,rfl⟩ (pb (pv 0)) (fun _ _ _ _ _=>(eZ (i:=0) (show ((["_law_turning_here"]:List Str) ++ (["_law_called"]:List Str)).Nodup by decide +kernel) rfl (by first | exact Or.inl rfl | exact Or.inr rfl))) (fun _ _ _ _ _=>q5) (fun _ _ _ _ _=>(gw (L0 (K:=K) rfl) (by rfl) T.bJ nG (@ao _ _ _ _ _ (rf (own:=["_law_one"]) (fr:=["_law_turning_here","_law_called"]) (js:=[0,1]) rfl ⟨NC ⟨rfl,by decide +kernel,by decide +kernel,by dsimp only [iN,Cx.nT,Cx.wish,PyProof.Rows.envOfC];decide +kernel,by decide +kernel⟩,rfl⟩ (L3 (K:=K) rfl (pv 1)) (fun _ _ _ _ _=>(eZ (i:=0) (show ((["_law_one"]:List Str) ++ (["_law_turning_here","_law_called"]:List Str)).Nodup by decide +kernel) rfl (by first | exact Or.inl rfl | exact Or.inr rfl))) (fun _ _ _ _ _=>q5) (fun _ _ _ _ _=>(Fe (K:=K) rfl PySem.F.plainAttrs_list PySem.F.slot_list_index PySem.F.type_list_index (OA (K:=K) rfl) (pv 2) (@ao _ _ _ _ _ (@bA _ _ _ _ _ _ _ (Ci (K:=K) rfl) (pv 1) (pv 0) (fun _ _=>rfl)) aC (by rfl))))) aC (by rfl))))) aC (by rfl))))))),?_⟩
 exact fB (b:=DP) (bE (b7 (lX (aq (ai 1) aD)) (a8 2))
  (bE (lY (FZ (c4 qJ (aq (c4 CK (aq (c4 ml (aq (aB bU (ai 0) (aN _)) aD)) aD)) aD))) (a8 3) (lY (pC (ai 0)) (a8 4) (kF (Jx (iH (aB CH (ai 3) (c4 ml (aq (ai 2) aD)))) (iH (aB (zJ true) (aB bU (ai 4) (aB mh (ai 2) (ai 3))) (ai 2)))) (tm (pB sZ (ai 2) (aq (aB bU (ai 4) (aB mh (ai 2) (ai 3))) aD))) ly)))
  (dD (c4 nL (aq (qg (pC (ai 0)) (a8 0) rK (c4 nL (aq (qg (FZ (ai 1)) (a8 0) rK (pB OB (ai 2) (aq (aB bU (ai 1) (ai 0)) aD))) aD))) aD))))) rfl h
def DR:aj->Dm Fl :=
 (a7 (aS kZ (ae (ef (b9 (ae (aS eK (ae (aA aL (ag 0) (fC (.int 0))) ah)) ah)) 1 [0] (hName 0) fA (aS Bt (ae (ag 1) (ae (ag 0) ah)))) ah)))
def wJ:List D->Dm D:=eI 1 DR
def Bv:Stmt:=top 53
theorem Qe:ax ["_law_floor_here"] ["_law_floor_here"] (au Bv):=⟨rfl,rfl,rfl,by decide +kernel,rfl,by decide +kernel,by decide +kernel⟩
theorem Qf {f:Addr} {fd:FuncData} (D:Def K mg "_law_form" Bv ["_law_floor_here"] f fd) (T:Txt mg)  {dw:Addr} {dy:FuncData} (bY:Def K mg "_law_numbered" Bu ["_law_floor_here","_law_s"] dw dy) (fI:az P w K mg base bg 1 dw dy ["_law_floor_here","_law_s"] (bj K 2 Bt)):az P w K mg base bg 2 f fd ["_law_floor_here"] (bj K 1 wJ):=by
 refine D.F.ok Qe (fun vs H Q E h=>h.1) (fun cdv A outer s H vs Q E hr h=>?_)
 have hu:=hr.units
 have hu1:=fm hr
 refine ⟨_,(@bz _ _ _ (@dC _ _ _ _ (lq (IF rfl hu) (by rfl) T.tM HU (@ao _ _ _ _ _ (rf (own:=["_law_s"]) (fr:=["_law_floor_here"]) (js:=[0]) rfl ⟨⟨rfl,by decide +kernel,by decide +kernel,by dsimp only [iN,aW,Cx.nT,Cx.wish,PyProof.Rows.envOfC,compEnvC,relabel,Env.kindOf];decide +kernel,by decide +kernel⟩,rfl⟩ (nV rfl T.a5 (@ao _ _ _ _ _ (lq ma (by rfl) T.c5 md (@ao _ _ _ _ _ (@bA _ _ _ _ _ _ _ b5 (pv 0) aM (fun _ _=>rfl)) aC (by rfl))) aC (by rfl))) (fun _ _ _ _ _=>(eZ (i:=0) (show ((["_law_s"]:List Str) ++ (["_law_floor_here"]:List Str)).Nodup by decide +kernel) rfl (by first | exact Or.inl rfl | exact Or.inr rfl))) (fun _ _ _ _ _=>q5) (fun _ _ _ _ _=>(bR fI (hr.mono (by decide)) rfl bY.m bY.F.kp bY.b .nil ay (@ao _ _ _ _ _ (pv 1) (@ao _ _ _ _ _ (pv 0) aC (by rfl)) (by rfl))))) aC (by rfl))))),?_⟩
 exact fB (b:=DR) (dD (c4 J3 (aq (qg (n8 (aq (c4 ml (aq (aB bU (ai 0) (aN _)) aD)) aD)) (a8 0) rK (bS (F:=Bt) (aq (ai 1) (aq (ai 0) aD)) (aV (aV (fun _ _ _ _ h=>bT h))))) aD))) rfl h
def DS:aj->Dm Fl :=
 (aI (jM (aR (aA xy (ag 2) (fC (.int 0)))) (aI (aO (aS bW (ae (ef (b9 (ae (aS eK (ae (ag 0) ah)) ah)) 1 [0] (hName 0) fA (n6 "tuple" iS (ag 1) (ae (ag 0) ah))) ah)) (hName 0))
 (aO (aA l8 (fC (.int 0)) (ag 2)) (hName 2))) b8)
 (aI (aO (er (ae (ag 1) ah)) (hName 3))
 (aI (iU (aR (aA (kD true) (aA aL (ag 0) (aA eJ (ag 3) (oE jO (fC (.int 1))))) (ag 1))) (iT (n6 "list" dm (ag 3) (ae (aA aL (ag 0) (aA eJ (ag 3) (oE jO (fC (.int 1))))) ah))))
 (a7 (aA eJ (ag 3) (aA jN (ag 2) (aS eK (ae (ag 3) ah))))))))
def Bw:List D->Dm D:=eI 4 DS
def Bx:Stmt:=top 49
theorem DT:ax ["_law_turning_here","_law_s","_law_k","_law_ring"] ["_law_turning_here","_law_s","_law_k"] (au Bx):=⟨rfl,rfl,rfl,by decide +kernel,rfl,by decide +kernel,by decide +kernel⟩
theorem Qg {f:Addr} {fd:FuncData} (D:Def K mg "_law_behind" Bx ["_law_turning_here","_law_s","_law_k"] f fd) (T:Txt mg)  :az P w K mg base bg 1 f fd ["_law_turning_here","_law_s","_law_k"] (bj K 3 Bw):=by
 refine D.F.ok DT (fun vs H Q E h=>h.1) (fun cdv A outer s H vs Q E hr h=>?_)
 have hu:=hr.units
 have hu1:=fm hr
 refine ⟨_,(@bD _ _ _ _ _ (@kq _ _ _ _ _ _ _ _ (iK B6 (pv 2) aM (aT _)) (@bD _ _ _ _ _ (@cM (i:=0) _ _ _ _ _ _ DT.nd rfl (by first | exact Or.inl rfl | exact Or.inr rfl) (gw nF (by rfl) T.bJ nG (@ao _ _ _ _ _ (rf (own:=["_law_one"]) (fr:=["_law_turning_here"]) (js:=[0]) rfl ⟨⟨rfl,by decide +kernel,by decide +kernel,by dsimp only [iN,aW,Cx.nT,Cx.wish,PyProof.Rows.envOfC,compEnvC,relabel,Env.kindOf];decide +kernel,by decide +kernel⟩,rfl⟩ (nV rfl T.a5 (@ao _ _ _ _ _ (lq ma (by rfl) T.c5 md (@ao _ _ _ _ _ (pv 0) aC (by rfl))) aC (by rfl))) (fun _ _ _ _ _=>(eZ (i:=0) (show ((["_law_one"]:List Str) ++ (["_law_turning_here"]:List Str)).Nodup by decide +kernel) rfl (by first | exact Or.inl rfl | exact Or.inr rfl))) (fun _ _ _ _ _=>q5) (fun _ _ _ _ _=>(Fe (K:=K) rfl PySem.F.plainAttrs_tuple PySem.F.slot_tuple_index PySem.F.type_tuple_index (Ip (K:=K) rfl) (pv 1) (@ao _ _ _ _ _ (pv 0) aC (by rfl))))) aC (by rfl))) (by rfl) (by first | exact .inl rfl | exact .inr rfl | assumption))
  (@bz _ _ _ (@cM (i:=2) _ _ _ _ _ _ DT.nd rfl (by first | exact Or.inl rfl | exact Or.inr rfl) (bG yu aM (pv 2)) (by rfl) (by first | exact .inl rfl | exact .inr rfl | assumption)))) lp)
  (@bD _ _ _ _ _ (@cM (i:=3) _ _ _ _ _ _ DT.nd rfl (by first | exact Or.inl rfl | exact Or.inr rfl) (@lV _ _ _ _ (@ao _ _ _ _ _ (pv 1) aC (by rfl))) (by rfl) (by first | exact .inl rfl | exact .inr rfl | assumption))
  (@bD _ _ _ _ _ (xb PassesOwn.never (iK Eu (@bA _ _ _ _ _ _ _ b5 (pv 0) (@bA _ _ _ _ _ _ _ l9 (pv 3) (pd pf aM) (fun _ _=>rfl)) (fun _ _=>rfl)) (pv 1) (aT _)) (@bz _ _ _ (rY (qB PySem.F.plainAttrs_list PySem.F.slot_list_append PySem.F.type_list_append sv (pv 3) (@ao _ _ _ _ _ (@bA _ _ _ _ _ _ _ b5 (pv 0) (@bA _ _ _ _ _ _ _ l9 (pv 3) (pd pf aM) (fun _ _=>rfl)) (fun _ _=>rfl)) aC (by rfl))))))
  (@bz _ _ _ (@dC _ _ _ _ (@bA _ _ _ _ _ _ _ l9 (pv 3) (bG pe (pv 2) (lq ma (by rfl) T.c5 md (@ao _ _ _ _ _ (pv 3) aC (by rfl)))) (fun _ _=>rfl))))))),?_⟩
 exact fB (b:=DS) (bE (kF (iH (aB CH (ai 2) (aN _))) (bE (b7 (c4 nL (aq (qg (n8 (aq (c4 ml (aq (ai 0) aD)) aD)) (a8 0) rK (pB JG (ai 1) (aq (ai 0) aD))) aD)) (a8 0))
  (b7 (aB zG (aN _) (ai 2)) (a8 2))) ly)
  (bE (b7 (lX (aq (ai 1) aD)) (a8 3))
  (bE (xD (iH (aB FV (aB bU (ai 0) (aB mh (ai 3) (pk pz (aN _)))) (ai 1))) (tm (pB sZ (ai 3) (aq (aB bU (ai 0) (aB mh (ai 3) (pk pz (aN _)))) aD))))
  (dD (aB mh (ai 3) (aB pq (ai 2) (c4 ml (aq (ai 3) aD)))))))) rfl h
def xT:aj->Dm Fl :=
 (aI (aO (ag 0) (lL 2 (cY (hName 2) (cY (hName 3) mq))))
 (aI (jM (aR (aA (kD false) (aA aL (ag 1) (fC (.int 0))) (fC (.str "s")))) (a7 (b6 (ae (ag 2) (ae (aS bW (ae (ef (b9 (ae (aS eK (ae (ag 3) ah)) ah)) 1 [1,2,3] (hName 0) fA (aA aL (ag 3) (aS Bw (ae (ag 2) (ae (ag 0) (ae (aA l8 (fC (.int 0)) (aA aL (ag 1) (fC (.int 1)))) ah)))))) ah)) ah)))) b8)
 (aI (dG (b9 (ae (aA jN (aA aL (ag 1) (fC (.int 1))) (fC (.int 4))) ah)) (hName 4) (aO (b6 (ae (aS bW (ae (ef (b9 (ae (aS eK (ae (ag 3) ah)) ah)) 1 [3] (hName 0) fA (n6 "tuple" iS (ag 1) (ae (ag 0) ah))) ah)) (ae (ag 2) ah))) (lL 2 (cY (hName 2) (cY (hName 3) mq)))))
 (a7 (b6 (ae (ag 2) (ae (ag 3) ah)))))))
def wK:List D->Dm D:=eI 5 xT
def By:Stmt:=top 50
theorem xU:ax ["_law_floor_here","_law_step","_law_right_here","_law_up","_law_turn"] ["_law_floor_here","_law_step"] (au By):=⟨rfl,rfl,rfl,by decide +kernel,rfl,by decide +kernel,by decide +kernel⟩
theorem Qh {f:Addr} {fd:FuncData} (D:Def K mg "_law_stepped" By ["_law_floor_here","_law_step"] f fd) (T:Txt mg)  {eV:Addr} {eW:FuncData} (cX:Def K mg "_law_behind" Bx ["_law_turning_here","_law_s","_law_k"] eV eW) (h9:az P w K mg base bg 1 eV eW ["_law_turning_here","_law_s","_law_k"] (bj K 3 Bw)):az P w K mg base bg 2 f fd ["_law_floor_here","_law_step"] (bj K 2 wK):=by
 refine D.F.ok xU (fun vs H Q E h=>h.1) (fun cdv A outer s H vs Q E hr h=>?_)
 have hu:=hr.units
 have hu1:=fm hr
 refine ⟨_,(@bD _ _ _ _ _ (qT (pv 0) (r9 (n:=2) rfl (mw (eZ (i:=2) xU.nd rfl (by first | exact Or.inl rfl | exact Or.inr rfl)) (mw (eZ (i:=3) xU.nd rfl (by first | exact Or.inl rfl | exact Or.inr rfl)) r6))))
  (@bD _ _ _ _ _ (@kq _ _ _ _ _ _ _ _ (iK ni (@bA _ _ _ _ _ _ _ b5 (pv 1) aM (fun _ _=>rfl)) oh (aT _)) (@bz _ _ _ (@dC _ _ _ _ (@iD _ _ _ _ _ (@ao _ _ _ _ _ (pv 2) (@ao _ _ _ _ _ (gw nF (by rfl) T.bJ nG (@ao _ _ _ _ _ (rf (own:=["_law_s"]) (fr:=["_law_step","_law_right_here","_law_up"]) (js:=[1,2,3]) rfl ⟨⟨rfl,by decide +kernel,by decide +kernel,by dsimp only [iN,aW,Cx.nT,Cx.wish,PyProof.Rows.envOfC,compEnvC,relabel,Env.kindOf];decide +kernel,by decide +kernel⟩,rfl⟩ (nV rfl T.a5 (@ao _ _ _ _ _ (lq ma (by rfl) T.c5 md (@ao _ _ _ _ _ (pv 3) aC (by rfl))) aC (by rfl))) (fun _ _ _ _ _=>(eZ (i:=0) (show ((["_law_s"]:List Str) ++ (["_law_step","_law_right_here","_law_up"]:List Str)).Nodup by decide +kernel) rfl (by first | exact Or.inl rfl | exact Or.inr rfl))) (fun _ _ _ _ _=>q5) (fun _ _ _ _ _=>(@bA _ _ _ _ _ _ _ (Ci (K:=K) rfl) (pv 3) (bR h9 (hr.mono (by decide)) rfl cX.m cX.F.kp cX.b .nil ay (@ao _ _ _ _ _ (pv 2) (@ao _ _ _ _ _ (pv 0) (@ao _ _ _ _ _ (bG yu aM (@bA _ _ _ _ _ _ _ (Ci (K:=K) rfl) (pv 1) aM (fun _ _=>rfl))) aC (by rfl)) (by rfl)) (by rfl))) (fun _ _=>rfl)))) aC (by rfl))) aC (by rfl)) (by rfl))))) lp)
  (@bD _ _ _ _ _ (@lU _ _ _ _ _ _ _ _ PassesOwn.never rfl (nV rfl T.a5 (@ao _ _ _ _ _ (bG pe (@bA _ _ _ _ _ _ _ b5 (pv 1) aM (fun _ _=>rfl)) aM) aC (by rfl))) (eZ (i:=4) xU.nd rfl (by first | exact Or.inl rfl | exact Or.inr rfl)) (@bz _ _ _ (qT (@iD _ _ _ _ _ (@ao _ _ _ _ _ (gw nF (by rfl) T.bJ nG (@ao _ _ _ _ _ (rf (own:=["_law_s"]) (fr:=["_law_up"]) (js:=[3]) rfl ⟨⟨rfl,by decide +kernel,by decide +kernel,by dsimp only [iN,aW,Cx.nT,Cx.wish,PyProof.Rows.envOfC,compEnvC,relabel,Env.kindOf];decide +kernel,by decide +kernel⟩,rfl⟩ (nV rfl T.a5 (@ao _ _ _ _ _ (lq ma (by rfl) T.c5 md (@ao _ _ _ _ _ (pv 3) aC (by rfl))) aC (by rfl))) (fun _ _ _ _ _=>(eZ (i:=0) (show ((["_law_s"]:List Str) ++ (["_law_up"]:List Str)).Nodup by decide +kernel) rfl (by first | exact Or.inl rfl | exact Or.inr rfl))) (fun _ _ _ _ _=>q5) (fun _ _ _ _ _=>(Fe (K:=K) rfl PySem.F.plainAttrs_tuple PySem.F.slot_tuple_index PySem.F.type_tuple_index (Ip (K:=K) rfl) (pv 1) (@ao _ _ _ _ _ (pv 0) aC (by rfl))))) aC (by rfl))) (@ao _ _ _ _ _ (pv 2) aC (by rfl)) (by rfl))) (r9 (n:=2) rfl (mw (eZ (i:=2) xU.nd rfl (by first | exact Or.inl rfl | exact Or.inr rfl)) (mw (eZ (i:=3) xU.nd rfl (by first | exact Or.inl rfl | exact Or.inr rfl)) r6))))) (by intro _;rfl))
  (@bz _ _ _ (@dC _ _ _ _ (@iD _ _ _ _ _ (@ao _ _ _ _ _ (pv 2) (@ao _ _ _ _ _ (pv 3) aC (by rfl)) (by rfl)))))))),?_⟩
 exact fB (b:=xT) (bE (b7 (ai 0) (tj (mE (a8 2) (mE (a8 3) tf))))
  (bE (kF (iH (aB ny (aB bU (ai 1) (aN _)) (oD _))) (dD (iG (aq (ai 2) (aq (c4 nL (aq (qg (n8 (aq (c4 ml (aq (ai 3) aD)) aD)) (a8 0) rK (aB bU (ai 3) (bS (F:=Bw) (aq (ai 2) (aq (ai 0) (aq (aB zG (aN _) (aB bU (ai 1) (aN _))) aD))) (aV (aV (aV (fun _ _ _ _ h=>bT h))))))) aD)) aD)))) ly)
  (bE (lY (n8 (aq (aB pq (aB bU (ai 1) (aN _)) (aN _)) aD)) (a8 4) (b7 (iG (aq (c4 nL (aq (qg (n8 (aq (c4 ml (aq (ai 3) aD)) aD)) (a8 0) rK (pB JG (ai 1) (aq (ai 0) aD))) aD)) (aq (ai 2) aD))) (tj (mE (a8 2) (mE (a8 3) tf)))))
  (dD (iG (aq (ai 2) (aq (ai 3) aD))))))) rfl h
def DV:aj->Dm Fl :=
 (aI (dG (fz (ag 1)) (hName 2) (aO (aS wK (ae (ag 0) (ae (ag 2) ah))) (hName 0)))
 (a7 (ag 0)))
def Bz:List D->Dm D:=eI 3 DV
def BA:Stmt:=top 51
theorem Gs:ax ["_law_floor_here","_law_word_here","_law_step"] ["_law_floor_here","_law_word_here"] (au BA):=⟨rfl,rfl,rfl,by decide +kernel,rfl,by decide +kernel,by decide +kernel⟩
theorem Qi {f:Addr} {fd:FuncData} (D:Def K mg "_law_led" BA ["_law_floor_here","_law_word_here"] f fd) (T:Txt mg)  {d8:Addr} {d9:FuncData} (cu:Def K mg "_law_stepped" By ["_law_floor_here","_law_step"] d8 d9) (gk:az P w K mg base bg 2 d8 d9 ["_law_floor_here","_law_step"] (bj K 2 wK)):az P w K mg base bg 3 f fd ["_law_floor_here","_law_word_here"] (bj K 2 Bz):=by
 refine D.F.ok Gs (fun vs H Q E h=>h.1) (fun cdv A outer s H vs Q E hr h=>?_)
 have hu:=hr.units
 have hu1:=fm hr
 refine ⟨_,(@bD _ _ _ _ _ (@lU _ _ _ _ _ _ _ _ PassesOwn.never rfl (pb (pv 1)) (eZ (i:=2) Gs.nd rfl (by first | exact Or.inl rfl | exact Or.inr rfl)) (@bz _ _ _ (@cM (i:=0) _ _ _ _ _ _ Gs.nd rfl (by first | exact Or.inl rfl | exact Or.inr rfl) (bR gk (hr.mono (by decide)) rfl cu.m cu.F.kp cu.b .nil ay (@ao _ _ _ _ _ (pv 0) (@ao _ _ _ _ _ (pv 2) aC (by rfl)) (by rfl))) (by rfl) (by first | exact .inl rfl | exact .inr rfl | assumption))) (by intro _;rfl))
  (@bz _ _ _ (@dC _ _ _ _ (pv 0)))),?_⟩
 exact fB (b:=DV) (bE (lY (pC (ai 1)) (a8 2) (b7 (bS (F:=wK) (aq (ai 0) (aq (ai 2) aD)) (aV (aV (fun _ _ _ _ h=>bT h)))) (a8 0)))
  (dD (ai 0))) rfl h
def DW:aj->Dm Fl :=
 (a7 (b6 (ae (aA aL (ag 0) (fC (.int 3))) (ae (oE jO (aA aL (ag 0) (fC (.int 1)))) (ae (oE jO (aA aL (ag 0) (fC (.int 2)))) (ae (aA aL (ag 0) (fC (.int 0))) ah))))))
def BB:List D->Dm D:=eI 1 DW
def BD:Stmt:=top 6
theorem Qj:ax ["table"] ["table"] (au BD):=⟨rfl,rfl,rfl,by decide +kernel,rfl,by decide +kernel,by decide +kernel⟩
theorem Qk {f:Addr} {fd:FuncData} (D:Def K mg "undone" BD ["table"] f fd) (T:Txt mg)  :az P w K mg base bg 1 f fd ["table"] (bj K 1 BB):=by
 refine D.F.ok Qj (fun vs H Q E h=>h.1) (fun cdv A outer s H vs Q E hr h=>?_)
 have hu:=hr.units
 have hu1:=fm hr
 refine ⟨_,(@bz _ _ _ (@dC _ _ _ _ (@iD _ _ _ _ _ (@ao _ _ _ _ _ (@bA _ _ _ _ _ _ _ b5 (pv 0) aM (fun _ _=>rfl)) (@ao _ _ _ _ _ (pd pf (@bA _ _ _ _ _ _ _ b5 (pv 0) aM (fun _ _=>rfl))) (@ao _ _ _ _ _ (pd pf (@bA _ _ _ _ _ _ _ b5 (pv 0) aM (fun _ _=>rfl))) (@ao _ _ _ _ _ (@bA _ _ _ _ _ _ _ b5 (pv 0) aM (fun _ _=>rfl)) aC (by rfl)) (by rfl)) (by rfl)) (by rfl))))),?_⟩
 exact fB (b:=DW) (dD (iG (aq (aB bU (ai 0) (aN _)) (aq (pk pz (aB bU (ai 0) (aN _))) (aq (pk pz (aB bU (ai 0) (aN _))) (aq (aB bU (ai 0) (aN _)) aD)))))) rfl h
def DX:aj->Dm Fl :=
 (aI (aO (aS oP (ae (ag 1) ah)) (hName 2))
 (aI (aO (aS tQ (ae (ag 2) ah)) (hName 3))
 (aI (aO (aS wJ (ae (aS Bz (ae (ag 0) (ae (ag 1) ah))) ah)) (hName 4))
 (aI (jM (xv (aR (aA (iI true) (aS qu (ae (ag 3) ah)) (ag 2))) (xv (aR (aA (iI true) (aS tN (ae (aS tO (ae (ag 0) (ae (ag 3) ah))) ah)) (ag 4))) (aR (aA (iI true) (aS oO (ae (ag 0) (ae (ag 2) ah))) (ag 4))))) (a7 (fC (.bl false))) b8)
 (a7 (aA (iI false) (aS oO (ae (ag 4) (ae (aS BB (ae (ag 2) ah)) ah))) (aS wJ (ae (ag 0) ah))))))))
def wL:List D->Dm D:=eI 5 DX
def BE:Stmt:=top 58
theorem DY:ax ["_law_floor_here","_law_word_here","_law_table_here","_law_told","_law_due"] ["_law_floor_here","_law_word_here"] (au BE):=⟨rfl,rfl,rfl,by decide +kernel,rfl,by decide +kernel,by decide +kernel⟩
theorem Ql {f:Addr} {fd:FuncData} (D:Def K mg "_law_right" BE ["_law_floor_here","_law_word_here"] f fd) (T:Txt mg)  {cK:Addr} {cL:FuncData} (aK:Def K mg "_law_table" xR ["_law_word_here"] cK cL) (bK:az P w K mg base bg 2 cK cL ["_law_word_here"] (bj K 1 oP)) {fG:Addr} {fH:FuncData} (cJ:Def K mg "word_of" xP ["table"] fG fH) (gG:az P w K mg base bg 5 fG fH ["table"] (bj K 1 tQ)) {ia:Addr} {ib:FuncData} (cc:Def K mg "_law_form" Bv ["_law_floor_here"] ia ib) (ic:az P w K mg base bg 2 ia ib ["_law_floor_here"] (bj K 1 wJ)) {jy:Addr} {jz:FuncData} (fj:Def K mg "_law_led" BA ["_law_floor_here","_law_word_here"] jy jz) (kN:az P w K mg base bg 3 jy jz ["_law_floor_here","_law_word_here"] (bj K 2 Bz)) {bN:Addr} {bO:FuncData} (aF:Def K mg "led_by_table" xQ ["floor","table"] bN bO) (bw:az P w K mg base bg 7 bN bO ["floor","table"] (bj K 2 oO)) {cm:Addr} {cn:FuncData} (bh:Def K mg "table_of" wH ["word"] cm cn) (cV:az P w K mg base bg 3 cm cn ["word"] (bj K 1 qu)) {fE:Addr} {fF:FuncData} (cI:Def K mg "form_of" xJ ["floor"] fE fF) (gF:az P w K mg base bg 4 fE fF ["floor"] (bj K 1 tN)) {lB:Addr} {lC:FuncData} (jA:Def K mg "undone" BD ["table"] lB lC) (m9:az P w K mg base bg 1 lB lC ["table"] (bj K 1 BB)) {hU:Addr} {hV:FuncData} (du:Def K mg "led_by" xM ["floor","word"] hU hV) (jx:az P w K mg base bg 6 hU hV ["floor","word"] (bj K 2 tO)):az P w K mg base bg 8 f fd ["_law_floor_here","_law_word_here"] (bj K 2 wL):=by
 refine D.F.ok DY (fun vs H Q E h=>h.1) (fun cdv A outer s H vs Q E hr h=>?_)
 have hu:=hr.units
 have hu1:=fm hr
 refine ⟨_,(@bD _ _ _ _ _ (@cM (i:=2) _ _ _ _ _ _ DY.nd rfl (by first | exact Or.inl rfl | exact Or.inr rfl) (bR bK (hr.mono (by decide)) rfl aK.m aK.F.kp aK.b .nil ay (@ao _ _ _ _ _ (pv 1) aC (by rfl))) (by rfl) (by first | exact .inl rfl | exact .inr rfl | assumption))
  (@bD _ _ _ _ _ (@cM (i:=3) _ _ _ _ _ _ DY.nd rfl (by first | exact Or.inl rfl | exact Or.inr rfl) (bR gG (hr.mono (by decide)) rfl cJ.m cJ.F.kp cJ.b .nil ay (@ao _ _ _ _ _ (pv 2) aC (by rfl))) (by rfl) (by first | exact .inl rfl | exact .inr rfl | assumption))
  (@bD _ _ _ _ _ (@cM (i:=4) _ _ _ _ _ _ DY.nd rfl (by first | exact Or.inl rfl | exact Or.inr rfl) (bR ic (hr.mono (by decide)) rfl cc.m cc.F.kp cc.b .nil ay (@ao _ _ _ _ _ (bR kN (hr.mono (by decide)) rfl fj.m fj.F.kp fj.b .nil ay (@ao _ _ _ _ _ (pv 0) (@ao _ _ _ _ _ (pv 1) aC (by rfl)) (by rfl))) aC (by rfl))) (by rfl) (by first | exact .inl rfl | exact .inr rfl | assumption))
  (@bD _ _ _ _ _ (@kq _ _ _ _ _ _ _ _ (PW.pt (El (iK (xk hu) (bR cV (hr.mono (by decide)) rfl bh.m bh.F.kp bh.b .nil ay (@ao _ _ _ _ _ (pv 3) aC (by rfl))) (pv 2) (aT _)) (El (iK (xk hu) (bR gF (hr.mono (by decide)) rfl cI.m cI.F.kp cI.b .nil ay (@ao _ _ _ _ _ (bR jx (hr.mono (by decide)) rfl du.m du.F.kp du.b .nil ay (@ao _ _ _ _ _ (pv 0) (@ao _ _ _ _ _ (pv 3) aC (by rfl)) (by rfl))) aC (by rfl))) (pv 4) (aT _)) (G9 (iK (xk hu) (bR bw (hr.mono (by decide)) rfl aF.m aF.F.kp aF.b .nil ay (@ao _ _ _ _ _ (pv 0) (@ao _ _ _ _ _ (pv 2) aC (by rfl)) (by rfl))) (pv 4) (aT _)))))) (@bz _ _ _ (@dC _ _ _ _ yc)) lp)
  (@bz _ _ _ (@dC _ _ _ _ (yx (uG hu) (bR bw (hr.mono (by decide)) rfl aF.m aF.F.kp aF.b .nil ay (@ao _ _ _ _ _ (pv 4) (@ao _ _ _ _ _ (bR m9 (hr.mono (by decide)) rfl jA.m jA.F.kp jA.b .nil ay (@ao _ _ _ _ _ (pv 2) aC (by rfl))) aC (by rfl)) (by rfl))) (bR ic (hr.mono (by decide)) rfl cc.m cc.F.kp cc.b .nil ay (@ao _ _ _ _ _ (pv 0) aC (by rfl))) (aT _)))))))),?_⟩
 exact fB (b:=DX) (bE (b7 (bS (F:=oP) (aq (ai 1) aD) (aV (fun _ _ _ _ h=>bT h))) (a8 2))
  (bE (b7 (bS (F:=tQ) (aq (ai 2) aD) (aV (fun _ _ _ _ h=>bT h))) (a8 3))
  (bE (b7 (bS (F:=wJ) (aq (bS (F:=Bz) (aq (ai 0) (aq (ai 1) aD)) (aV (aV (fun _ _ _ _ h=>bT h)))) aD) (aV (fun _ _ _ _ h=>bT h))) (a8 4))
  (bE (kF (FO (iH (aB (u9 true) (bS (F:=qu) (aq (ai 3) aD) (aV (fun _ _ _ _ h=>bT h))) (ai 2))) (FO (iH (aB (u9 true) (bS (F:=tN) (aq (bS (F:=tO) (aq (ai 0) (aq (ai 3) aD)) (aV (aV (fun _ _ _ _ h=>bT h)))) aD) (aV (fun _ _ _ _ h=>bT h))) (ai 4))) (iH (aB (u9 true) (bS (F:=oO) (aq (ai 0) (aq (ai 2) aD)) (aV (aV (fun _ _ _ _ h=>bT h)))) (ai 4))))) (dD (zB _)) ly)
  (dD (aB (u9 false) (bS (F:=oO) (aq (ai 4) (aq (bS (F:=BB) (aq (ai 2) aD) (aV (fun _ _ _ _ h=>bT h))) aD)) (aV (aV (fun _ _ _ _ h=>bT h)))) (bS (F:=wJ) (aq (ai 0) aD) (aV (fun _ _ _ _ h=>bT h))))))))) rfl h
def DZ:aj->Dm Fl :=
 (aI (dG (b9 (ae (aS oG (ae (fC (.int 2)) (ae (aS eK (ae (xw qd (ag 0) ke (mB (fC (.int 6)))) ah)) ah))) ah)) (hName 1) (aI (aO (aS Ar (ae (ag 0) (ae (ag 1) ah))) (hName 2))
 (aI (o6 3 4 (ae (aS wI (ae (ag 2) ah)) (ae (aS wI (ae (ag 2) ah)) ah)))
 (aI (aO (aS Ax (ae (ag 2) (ae (aA dj (fC (.int 1)) (aS kI (ae (ag 2) (ae (fC (.int 8)) ah)))) ah))) (hName 5))
 (aI (jM (xv (o4 (aR (aS wL (ae (ag 5) (ae (ag 3) ah))))) (o4 (aR (aS wL (ae (ag 5) (ae (ag 4) ah)))))) (a7 (fC (.bl false))) b8)
 (aI (aO (aS oO (ae (aS oO (ae (ag 5) (ae (aS oP (ae (ag 3) ah)) ah))) (ae (aS oP (ae (ag 4) ah)) ah))) (hName 6))
 (jM (aR (aA (iI true) (ag 6) (aS oO (ae (ag 5) (ae (aS oN (ae (aS oP (ae (ag 4) ah)) (ae (aS oP (ae (ag 3) ah)) ah))) ah))))) (a7 (fC (.bl false))) b8)))))))
 (a7 (fC (.bl true))))
def Gu:List D->Dm D:=eI 7 DZ
def D0:Stmt:=top 59
theorem xV:ax ["_law_script","_law_k","_law_feed_here","_law_one","_law_other","_law_floor_here","_law_both"] ["_law_script"] (au D0):=⟨rfl,rfl,rfl,by decide +kernel,rfl,by decide +kernel,by decide +kernel⟩
theorem wM {f:Addr} {fd:FuncData} (D:Def K mg "law" D0 ["_law_script"] f fd) (T:Txt mg)  {ie:Addr} {ig:FuncData} (dW:Def K mg "_law_feed" As ["_law_script","_law_k"] ie ig) (jW:az P w K mg base bg 1 ie ig ["_law_script","_law_k"] (bj K 2 Ar)) {fZ:Addr} {f9:FuncData} (di:Def K mg "_law_floor" Ay ["_law_feed_here","_law_n"] fZ f9) (i7:az P w K mg base bg 3 fZ f9 ["_law_feed_here","_law_n"] (bj K 2 Ax)) {bN:Addr} {bO:FuncData} (aF:Def K mg "led_by_table" xQ ["floor","table"] bN bO) (bw:az P w K mg base bg 7 bN bO ["floor","table"] (bj K 2 oO)) {dz:Addr} {dA:FuncData} (a9:Def K mg "_law_any_word" Bq ["_law_feed_here"] dz dA) (dB:az P w K mg base bg 3 dz dA ["_law_feed_here"] (bj K 1 wI)) {cK:Addr} {cL:FuncData} (aK:Def K mg "_law_table" xR ["_law_word_here"] cK cL) (bK:az P w K mg base bg 2 cK cL ["_law_word_here"] (bj K 1 oP)) {aX:Addr} {aY:FuncData} (av:Def K mg "_law_take" rO ["_law_feed_here","_law_many"] aX aY) (aQ:az P w K mg base bg 1 aX aY ["_law_feed_here","_law_many"] (bj K 2 kI)) {gb:Addr} {gf:FuncData} (bL:Def K mg "_law_right" BE ["_law_floor_here","_law_word_here"] gb gf) (gg:az P w K mg base bg 8 gb gf ["_law_floor_here","_law_word_here"] (bj K 2 wL)) {dP:Addr} {dQ:FuncData} (bM:Def K mg "times" tP ["one","other"] dP dQ) (eB:az P w K mg base bg 1 dP dQ ["one","other"] (bj K 2 oN)):az P w K mg base bg 9 f fd ["_law_script"] (bj K 1 Gu):=by
 refine D.F.ok xV (fun vs H Q E h=>h.1) (fun cdv A outer s H vs Q E hr h=>?_)
 have hu:=hr.units
 have hu1:=fm hr
 refine ⟨_,(@bD _ _ _ _ _ (@lU _ _ _ _ _ _ _ _ PassesOwn.never rfl (nV rfl T.a5 (@ao _ _ _ _ _ (lq (Lc rfl) (by rfl) T.Aq uD (@ao _ _ _ _ _ aM (@ao _ _ _ _ _ (lq ma (by rfl) T.c5 md (@ao _ _ _ _ _ (EE HD (pv 0) EC (ED aM)) aC (by rfl))) aC (by rfl)) (by rfl))) aC (by rfl))) (eZ (i:=1) xV.nd rfl (by first | exact Or.inl rfl | exact Or.inr rfl)) (@bD _ _ _ _ _ (@cM (i:=2) _ _ _ _ _ _ xV.nd rfl (by first | exact Or.inl rfl | exact Or.inr rfl) (bR jW (hr.mono (by decide)) rfl dW.m dW.F.kp dW.b .nil ay (@ao _ _ _ _ _ (pv 0) (@ao _ _ _ _ _ (pv 1) aC (by rfl)) (by rfl))) (by rfl) (by first | exact .inl rfl | exact .inr rfl | assumption))
  (@bD _ _ _ _ _ (Eo (i:=3) (j:=4) rfl xV.nd rfl rfl (by decide) rfl rfl (@ao _ _ _ _ _ (bR dB (hr.mono (by decide)) rfl a9.m a9.F.kp a9.b .nil ay (@ao _ _ _ _ _ (pv 2) aC (by rfl))) (@ao _ _ _ _ _ (bR dB (hr.mono (by decide)) rfl a9.m a9.F.kp a9.b .nil ay (@ao _ _ _ _ _ (pv 2) aC (by rfl))) aC (by rfl)) (by rfl)) rfl)
  (@bD _ _ _ _ _ (@cM (i:=5) _ _ _ _ _ _ xV.nd rfl (by first | exact Or.inl rfl | exact Or.inr rfl) (bR i7 (hr.mono (by decide)) rfl di.m di.F.kp di.b .nil ay (@ao _ _ _ _ _ (pv 2) (@ao _ _ _ _ _ (bG km aM (bR aQ (hr.mono (by decide)) rfl av.m av.F.kp av.b .nil ay (@ao _ _ _ _ _ (pv 2) (@ao _ _ _ _ _ aM aC (by rfl)) (by rfl)))) aC (by rfl)) (by rfl))) (by rfl) (by first | exact .inl rfl | exact .inr rfl | assumption))
  (@bD _ _ _ _ _ (@kq _ _ _ _ _ _ _ _ (PW.pt (El (Em (Ek (bR gg (hr.mono (by decide)) rfl bL.m bL.F.kp bL.b .nil ay (@ao _ _ _ _ _ (pv 5) (@ao _ _ _ _ _ (pv 3) aC (by rfl)) (by rfl))))) (G9 (Em (Ek (bR gg (hr.mono (by decide)) rfl bL.m bL.F.kp bL.b .nil ay (@ao _ _ _ _ _ (pv 5) (@ao _ _ _ _ _ (pv 4) aC (by rfl)) (by rfl)))))))) (@bz _ _ _ (@dC _ _ _ _ yc)) lp)
  (@bD _ _ _ _ _ (@cM (i:=6) _ _ _ _ _ _ xV.nd rfl (by first | exact Or.inl rfl | exact Or.inr rfl) (bR bw (hr.mono (by decide)) rfl aF.m aF.F.kp aF.b .nil ay (@ao _ _ _ _ _ (bR bw (hr.mono (by decide)) rfl aF.m aF.F.kp aF.b .nil ay (@ao _ _ _ _ _ (pv 5) (@ao _ _ _ _ _ (bR bK (hr.mono (by decide)) rfl aK.m aK.F.kp aK.b .nil ay (@ao _ _ _ _ _ (pv 3) aC (by rfl))) aC (by rfl)) (by rfl))) (@ao _ _ _ _ _ (bR bK (hr.mono (by decide)) rfl aK.m aK.F.kp aK.b .nil ay (@ao _ _ _ _ _ (pv 4) aC (by rfl))) aC (by rfl)) (by rfl))) (by rfl) (by first | exact .inl rfl | exact .inr rfl | assumption))
  (@bz _ _ _ (@kq _ _ _ _ _ _ _ _ (iK (xk hu) (pv 6) (bR bw (hr.mono (by decide)) rfl aF.m aF.F.kp aF.b .nil ay (@ao _ _ _ _ _ (pv 5) (@ao _ _ _ _ _ (bR eB (hr.mono (by decide)) rfl bM.m bM.F.kp bM.b .nil ay (@ao _ _ _ _ _ (bR bK (hr.mono (by decide)) rfl aK.m aK.F.kp aK.b .nil ay (@ao _ _ _ _ _ (pv 4) aC (by rfl))) (@ao _ _ _ _ _ (bR bK (hr.mono (by decide)) rfl aK.m aK.F.kp aK.b .nil ay (@ao _ _ _ _ _ (pv 3) aC (by rfl))) aC (by rfl)) (by rfl))) aC (by rfl)) (by rfl))) (aT _)) (@bz _ _ _ (@dC _ _ _ _ yc)) lp))))))) (by intro _;rfl))
  (@bz _ _ _ (@dC _ _ _ _ yc))),?_⟩
 exact fB (b:=DZ) (bE (lY (n8 (aq (c4 Nv (aq (aN _) (aq (c4 ml (aq (FR JA (ai 0) FP (FQ (aN _))) aD)) aD))) aD)) (a8 1) (bE (b7 (bS (F:=Ar) (aq (ai 0) (aq (ai 1) aD)) (aV (aV (fun _ _ _ _ h=>bT h)))) (a8 2))
  (bE (FY (aq (bS (F:=wI) (aq (ai 2) aD) (aV (fun _ _ _ _ h=>bT h))) (aq (bS (F:=wI) (aq (ai 2) aD) (aV (fun _ _ _ _ h=>bT h))) aD)))
  (bE (b7 (bS (F:=Ax) (aq (ai 2) (aq (aB kn (aN _) (bS (F:=kI) (aq (ai 2) (aq (aN _) aD)) (aV (aV (fun _ _ _ _ h=>bT h))))) aD)) (aV (aV (fun _ _ _ _ h=>bT h)))) (a8 5))
  (bE (kF (FO (FN (CG (bS (F:=wL) (aq (ai 5) (aq (ai 3) aD)) (aV (aV (fun _ _ _ _ h=>bT h)))))) (FN (CG (bS (F:=wL) (aq (ai 5) (aq (ai 4) aD)) (aV (aV (fun _ _ _ _ h=>bT h))))))) (dD (zB _)) ly)
  (bE (b7 (bS (F:=oO) (aq (bS (F:=oO) (aq (ai 5) (aq (bS (F:=oP) (aq (ai 3) aD) (aV (fun _ _ _ _ h=>bT h))) aD)) (aV (aV (fun _ _ _ _ h=>bT h)))) (aq (bS (F:=oP) (aq (ai 4) aD) (aV (fun _ _ _ _ h=>bT h))) aD)) (aV (aV (fun _ _ _ _ h=>bT h)))) (a8 6))
  (kF (iH (aB (u9 true) (ai 6) (bS (F:=oO) (aq (ai 5) (aq (bS (F:=oN) (aq (bS (F:=oP) (aq (ai 4) aD) (aV (fun _ _ _ _ h=>bT h))) (aq (bS (F:=oP) (aq (ai 3) aD) (aV (fun _ _ _ _ h=>bT h))) aD)) (aV (aV (fun _ _ _ _ h=>bT h)))) aD)) (aV (aV (fun _ _ _ _ h=>bT h)))))) (dD (zB _)) ly)))))))
  (dD (zB _))) rfl h
end
theorem qM {st:Store} {f:Nat} {n:Int} (hf:bC st f) (h0:0 < n) (h1:n < 1073741824):Wp (kI [.ref f,.int n] st) fun d st'=>∃ k:Int,d=.int k/\0<=k/\k < n/\bC st' f/\Ex [f] st st':=by
 obtain ⟨o,m,e,o0,m0,m1⟩:=hf
 have hfl:=iX e
 refine e7 ?_
 show Ws (CW [some (.ref f),some (.int n),none,none] st) _ _ _ _
 unfold CW
 refine bx (jP ?_)
 set_option simprocs false in simp only [cj,ek e,mr e]
 refine ⟨fun ho=>?_,fun ho=>?_⟩
 ·refine bx (cx ?_)
  set_option simprocs false in simp only [cj,ek e]
  refine ⟨h0,bx (qj ?_)⟩
  set_option simprocs false in simp only [cj,ek e,mr e,(show kU [D.int o,D.int m].length 0=some 0 from Al)]
  refine ⟨⟨h0,h1⟩,dH ?_⟩
  w_how
  refine ⟨Int.emod_nonneg _ (by omega),Int.emod_lt_of_pos _ h0,⟨o / n,m,?_,Int.ediv_nonneg o0 (by omega),m0,m1⟩,Ex.refl.put (by simp)⟩
  rw [List.getElem?_set_self hfl]
 ·refine lh (bx (cx ?_))
  set_option simprocs false in simp only [cj,ek e]
  refine ⟨by omega,by omega,bx (qj ?_)⟩
  set_option simprocs false in simp only [cj,ek e,mr e,(show kU [D.int o,D.int m].length 1=some 1 from Am)]
  refine ⟨by omega,by omega,dH ?_⟩
  have e2:(st.set f (.lst [.int o,.int ((m * 48271 % 2147483647 * 40692 + 30103) % 2147483399 + 1)]))[f]?=some (.lst [.int o,.int ((m * 48271 % 2147483647 * 40692 + 30103) % 2147483399 + 1)]):=List.getElem?_set_self hfl
  set_option simprocs false in simp only [cj,ek e2]
  refine ⟨by omega,by omega,h0,Int.emod_nonneg _ (by omega),Int.emod_lt_of_pos _ h0,⟨_,_,e2,o0,by omega,by omega⟩,Ex.refl.put (by simp)⟩
theorem Qm {st:Store} {a:Nat} {ns:List Int} {k:Nat} (hs:items st a=some (ns.map D.int)) (hk:k<=100):Wp (Ar [.ref a,.int (k:Int)] st) fun d st'=>d=.ref st.length/\bC st' st.length/\Ex [] st st':=by
 refine e7 ?_
 show Ws (CV [some (.ref a),some (.int (k:Int)),none,none] st) _ _ _ _
 unfold CV
 refine bx (cx ?_)
 w_how
 refine ⟨by omega,bx (vU (N:=fun δ st1=>st1=st/\∃ c:Int,δ=[some (.ref a),some (.int (k:Int)),some (.int c),none]) (jP ?_) ?_)⟩
 ·set_option simprocs false in simp only [cj,hs]
  refine ⟨fun h=>cx ?_,fun h=>jP ?_⟩
  ·have h:=of_decide_eq_true h
   rw [List.length_map] at h
   set_option simprocs false in simp only [cj,hs]
   refine ⟨.int (ns[k]'(by omega)),xf (by rw [List.getElem?_map,List.getElem?_eq_getElem];rfl),_,rfl⟩
  ·set_option simprocs false in simp only [cj,hs]
   refine ⟨fun h=>cx ?_,fun h=>lh ⟨rfl,_,rfl⟩⟩
   have h:=of_decide_eq_true h
   obtain ⟨v,hv,hm⟩:=uJ (xs:=ns.map D.int) (i:=(k:Int) % ((ns.map D.int).length:Int)) (Int.emod_nonneg _ (by omega)) (Int.emod_lt_of_pos _ h)
   obtain ⟨c,_,rfl⟩:=List.mem_map.mp hm
   set_option simprocs false in simp only [cj,hs]
   refine ⟨h,_,hv,?_⟩
   w_how
   exact ⟨by omega,by omega,by omega,_,rfl⟩
 ·rintro δ st1 ⟨rfl,c,rfl⟩
  refine bx (cx ?_)
  w_how
  refine bx (vU (N:=fun δ st2=>st2=st1/\∃ o:Int,0<=o/\δ=[some (.ref a),some (.int (k:Int)),some (.int c),some (.int o)]) (jP ?_) ?_)
  ·w_how
   refine ⟨by decide,fun h=>cx ?_,fun h=>lh ⟨rfl,0,by decide,rfl⟩⟩
   have h:=of_decide_eq_true h
   w_how
   exact ⟨c,Int.le_trans (by decide) h,rfl⟩
  ·rintro δ st2 ⟨rfl,o,o0,rfl⟩
   refine dH ?_
   w_how
   have h1:0<=c % 2147483629:=Int.emod_nonneg _ (by decide)
   have h2:c % 2147483629 < 2147483629:=Int.emod_lt_of_pos _ (by decide)
   refine ⟨by omega,by omega,by omega,by omega,by omega,by rfl,⟨_,_,ko,o0,?_,?_⟩,Ex.cf _⟩
   ·have:=Int.emod_nonneg ((c % 2147483629 * 48271 + 40692 * (k:Int)) ^ (5:Int).toNat) (show (2147483629:Int)≠0 by decide)
    omega
   ·have:=Int.emod_lt_of_pos ((c % 2147483629 * 48271 + 40692 * (k:Int)) ^ (5:Int).toNat) (show (0:Int) < 2147483629 by decide)
    omega
theorem Ka {st:Store} {f:Nat} {n:Nat} (hf:bC st f) (hn:n<=100):Wp (wD [.ref f,.int (n:Int)] st) fun d st'=>∃ xs:List Int,d=.tup (xs.map D.int)/\af.Tn n xs/\bC st' f/\Ex [f] st st':=by
 have hfl:=hf.lt
 refine e7 ?_
 show Ws (CY [some (.ref f),some (.int (n:Int)),none,none] st) _ _ _ _
 unfold CY
 refine bx (cx ?_)
 w_how
 have e1:((n:Int) - 0).toNat=n:=by omega
 rw [e1,o7]
 refine ⟨by unfold o5;rw [Bool.and_eq_true,decide_eq_true_eq];exact ⟨by omega,kH (by omega)⟩,bx (cx ?_)⟩
 w_how
 refine ⟨rfl,bx (xF (fun m δ st2=>∃ L xs:List Int,m=L.length/\δ=[some (.ref f),some (.int (n:Int)),some (.ref (st ++ [O.iJ 0 (n:Int)]).length),some (.tup (xs.map D.int))]/\st2[(st ++ [O.iJ 0 (n:Int)]).length]?=some (.lst (L.map D.int))/\(xs ++ L).Perm (af.upto n)/\bC st2 f/\Ex [f] st st2) n (Nat.lt_of_le_of_lt hn (by decide)) ⟨af.upto n,[],(af.nH n).symm,rfl,ko,List.Perm.refl _,hf.keep ((Ex.cf _).app _),(Ex.cf _).app _⟩ ?_)⟩
 have hl:(st ++ [O.iJ 0 (n:Int)]).length≠f:=by rw [List.length_append];omega
 have hls:st.length<=(st ++ [O.iJ 0 (n:Int)]).length:=by rw [List.length_append];omega
 generalize (st ++ [O.iJ 0 (n:Int)]).length=l at hl hls ⊢
 rintro m δ st2 ⟨L,xs,rfl,rfl,hL,pm,hf2,k2⟩
 have hlen:(xs ++ L).length=n:=by rw [pm.length_eq,af.nH]
 rw [List.length_append] at hlen
 refine cQ ?_
 intro eX hQ
 set_option simprocs false in simp only [cj,JU (L:=L) (M:=[]) (st:=st2 ++ [O.lst []]) (ek (nB hL)) z9]
 refine ⟨rfl,hQ _ _ ⟨fun h=>?_,fun h=>?_⟩⟩
 ·have hne:L≠[]:=by simpa using h
  have hpos:0 < L.length:=List.length_pos_iff.mpr hne
  have D1:(st2 ++ [O.lst []])[l]?=some (.lst (L.map D.int)):=nB hL
  have f3:bC (st2 ++ [O.lst []]) f:=hf2.keep (Ex.cf _)
  have k3:Ex [f] st (st2 ++ [O.lst []]):=k2.app _
  generalize (st2 ++ [O.lst []])=st3 at D1 f3 k3 ⊢
  refine cx ?_
  refine cQ ?_
  intro eX hQ
  set_option simprocs false in simp only [cj,ek D1]
  refine ⟨qK (by rw [ek D1];rfl),?_⟩
  refine aZ (qM (n:=((L.map D.int).length:Int)) f3 (by rw [List.length_map];omega) (by rw [List.length_map];omega)) ?_
  rintro d jJ ⟨k,rfl,k0,k1,f4,k4⟩
  rw [List.length_map] at k1
  have Kb:=k4.keep _ _ D1 (by simpa using hl)
  have mL:k.toNat < L.length:=by omega
  set_option simprocs false in simp only [cj,mr Kb]
  have hk':((k.toNat:Nat):Int)=k:=Int.toNat_of_nonneg k0
  refine ⟨by omega,k.toNat,?_,D.int L[k.toNat],by rw [List.getElem?_map,List.getElem?_eq_getElem mL];rfl,rfl,kH ?_,hQ _ _ ⟨(L.eraseIdx k.toNat).length,?_,L.eraseIdx k.toNat,xs ++ [L[k.toNat]],rfl,?_,?_,?_,?_,?_⟩⟩
  ·rw [<- hk',Int.toNat_natCast]
   exact (EG (yP (by rw [List.length_map];exact mL))).1
  ·simp only [List.length_map,List.length_cons,List.length_nil];omega
  ·rw [List.length_eraseIdx,if_pos mL];omega
  ·rw [List.map_append];rfl
  ·rw [List.getElem?_set_self (iX Kb),OE]
  ·refine List.Perm.trans ?_ pm
   rw [List.append_assoc]
   exact List.Perm.append_left xs (OG mL)
  ·exact f4.ne hl
  ·exact (k3.trans k4).loc hls
 ·have he:L=[]:=by simpa using h
  subst he
  refine dH ?_
  kspl_open hQ
  exact hQ _ _ ⟨xs,rfl,by simpa [af.Tn] using pm,hf2.keep (Ex.cf _),k2.app _⟩
theorem Qn {st:Store} {xs ys:List Int} {n:Nat} (tx:af.Tn n xs) (ty:af.Tn n ys) (n0:0 < n) (hn:n<=100):Wp (rP [bZ xs ys] st) fun d st'=>∃ (g:Nat) (F:List Int),d=.ref g/\items st' g=some (F.map D.int)/\(∀ x,x∈F↔af.iL xs ys x)/\F.length<=n/\af.Od xs ys F/\Ex [] st st':=by
 have hlx:=tx.length
 have xW:=ty.length
 refine e7 ?_
 show Ws (C0 [some (bZ xs ys),none,none,none,none] st) _ _ _ _
 unfold C0
 refine bx (cx ?_)
 kspl_open hQ
 refine ⟨rfl,hQ _ _ (bx (lZ (aH 0 (n + 1)) (fun i δ st2=>∃ (v2 v3 v4:Option D) (F:List Int),δ=[some (bZ xs ys),some (.ref st.length),v2,v3,v4]/\st2[st.length]?=some (.lst (F.map D.int))/\af.Fo xs ys F/\(af.Cl xs ys F\/i + 1<=F.length)/\Ex [] st st2) ?_ ?_ ?_ ?_))⟩
 ·unfold bZ
  kspl_open hQ
  have e0:((1:Int) + ((xs.map D.int).length:Int)).toNat=n + 1:=by rw [List.length_map];omega
  refine ⟨by rw [List.length_map];omega,hQ _ _ ⟨by rw [e0],none,none,none,[0],rfl,ko,af.Fo.one xs ys,.inr (Nat.le_refl _),Ex.cf _⟩⟩
 ·rw [gO];omega
 ·rintro i d δ st2 hd ⟨v2,v3,v4,F,rfl,Gv,hF,hcl,k2⟩
  kspl_open hQ
  refine hQ _ _ (lZ [.tup (xs.map D.int),.tup (ys.map D.int)] (fun m δ st3=>∃ (v3 v4:Option D) (G:List Int),δ=[some (bZ xs ys),some (.ref st.length),some d,v3,v4]/\st3[st.length]?=some (.lst (G.map D.int))/\af.Fo xs ys G /\
    (m=0->G=F)/\(m=1->F <+: G/\∀ x∈F,af.app xs x∈G)/\(2<=m->∃ F1,F <+: F1/\F1 <+: G/\(∀ x∈F,af.app xs x∈F1)/\∀ x∈F1,af.app ys x∈G)/\Ex [] st st3) ?_ (by simp) ?_ ?_)
  ·unfold bZ
   kspl_open hQ
   exact hQ _ _ ⟨rfl,v3,v4,F,rfl,Gv,hF,fun _=>rfl,fun z=>by omega,fun z=>by omega,k2⟩
  ·rintro m z δ st3 hm ⟨v3,v4,G,rfl,BF,hG,m0,m1,_,k3⟩
   have hm2:m < 2:=iX hm
   obtain ⟨zs,rfl,hz,em⟩:∃ (zs:List Int),z=.tup (zs.map D.int)/\(zs=xs\/zs=ys)/\((m=0/\zs=xs)\/(m=1/\zs=ys)):=by
    rcases (show m=0\/m=1 by omega) with rfl | rfl
    ·exact ⟨xs,by simpa using hm.symm,.inl rfl,.inl ⟨rfl,rfl⟩⟩
    ·exact ⟨ys,by simpa using hm.symm,.inr rfl,.inr ⟨rfl,rfl⟩⟩
   have tz:af.Tn n zs:=by rcases hz with rfl | rfl;exact tx;exact ty
   have Kc:=tz.length
   have go:∀ x,af.iL xs ys x->af.iL xs ys (af.app zs x):=fun x h=>by rcases hz with rfl | rfl;exact h.r;exact h.u
   kspl_open hQ
   refine hQ _ _ (JK (G.map D.int) st3.length (fun j δ jJ=>∃ (v4:Option D) (G':List Int),δ=[some (bZ xs ys),some (.ref st.length),some d,some (.tup (zs.map D.int)),v4]/\jJ[st.length]?=some (.lst (G'.map D.int))/\jJ[st3.length]?=some (.lst (G.map D.int))/\af.Fo xs ys G'/\G <+: G'/\(∀ i',i' < j->∀ x,G[i']?=some x->af.app zs x∈G')/\Ex [] st jJ) ?_ ?_ ?_ ?_ ?_)
   ·refine cQ ?_
    intro eX hQ
    set_option simprocs false in simp only [cj,ek BF]
    exact hQ _ _ ⟨rfl,v4,G,rfl,nB BF,ko,hG,List.prefix_refl _,fun i' h=>absurd h (Nat.not_lt_zero _),k3.app _⟩
   ·rw [List.length_map]
    have:=hG.len tx ty n0
    omega
   ·rintro j δ jJ ⟨_,_,_,_,h,_⟩
    exact ek h
   ·rintro j RP δ jJ hj0 ⟨v4,G',rfl,wN,pD,wO,pG,hd',k4⟩
    obtain ⟨y,hj,rfl⟩:=An hj0
    have hjl:=iX hj
    have hR:=hG.mt _ (List.mem_of_getElem? hj)
    obtain ⟨y0,y1⟩:=hR.bound tx ty n0
    have at':=o8 (xs:=zs) y0 (by rw [Kc];exact y1)
    have hnext:∀ D2:List Int,G' <+: D2->af.app zs y∈D2->∀ i',i' < j + 1->∀ x,G[i']?=some x->af.app zs x∈D2:=fun D2 p h i' hi' x hx=>by
     by_cases e:i'=j
     ·subst e
      rw [hj] at hx
      cases hx;exact h
     ·exact p.subset (hd' i' (by omega) x hx)
    kspl_open hQ
    refine hQ _ _ (jP ?_)
    refine cQ ?_
    intro jE cz
    set_option simprocs false in simp only [cj,at',CQ (st:=jJ) (c:=.ref st.length) (ns:=G') (ek wN)]
    refine cz _ _ ⟨fun hcn=>?_,fun hcn=>?_⟩
    ·have hnm:af.app zs y ∉ G':=fun z=>by rw [List.contains_iff_mem.mpr z] at hcn;cases hcn
     have Kd:af.Fo xs ys (G' ++ [af.app zs y]):=by
      refine ⟨⟨List.mem_append_left _ wO.z,?_,fun x hx=>?_⟩,wO.od.snoc (pG.subset (List.mem_of_getElem? hj)) (hz.imp (fun e=>by rw [e]) fun e=>by rw [e])⟩
      ·rw [List.nodup_append]
       refine ⟨wO.nd,by simp,fun x hx y' hy e=>hnm ?_⟩
       have e2:y'=af.app zs y:=by simpa using hy
       rw [<- e2,<- e];exact hx
      ·rcases List.mem_append.mp hx with h | h
       ·exact wO.mt x h
       ·have e2:x=af.app zs y:=by simpa using h
        rw [e2];exact go _ hR
     have hlen2:=Kd.len tx ty n0
     rw [List.length_append] at hlen2
     refine tG ?_
     refine cQ ?_
     intro BG qv
     set_option simprocs false in simp only [cj,at',mr wN]
     refine ⟨qK (by rw [ek wN];rfl),kH (by rw [List.length_map];simp at hlen2;omega),qv _ _ ⟨_,G' ++ [af.app zs y],rfl,?_,?_,Kd,pG.trans (List.prefix_append _ _),hnext _ (List.prefix_append _ _) (by simp),k4.loc (Nat.le_refl _)⟩⟩
     ·rw [List.getElem?_set_self (iX wN),List.map_append];rfl
     ·rw [List.getElem?_set_ne (by have:=iX BF;omega)];exact pD
    ·have hcn:G'.contains (af.app zs y)=true:=by simpa using hcn
     exact lh ⟨_,G',rfl,wN,pD,wO,pG,hnext G' (List.prefix_refl _) (List.contains_iff_mem.mp hcn),k4⟩
   ·rintro δ jJ ⟨v4,G',rfl,wN,pD,wO,pG,hd',k4⟩
    rw [List.length_map] at hd'
    have hall:∀ x∈G,af.app zs x∈G':=fun x hx=>by
     obtain ⟨i',hi',e⟩:=List.getElem_of_mem hx
     exact hd' i' hi' x (by rw [List.getElem?_eq_getElem hi',e])
    refine ⟨_,_,G',rfl,wN,wO,fun z=>by omega,fun z=>?_,fun z=>?_,k4⟩
    ·rcases em with ⟨rfl,rfl⟩ | ⟨rfl,_⟩
     ·have:=m0 rfl
      subst this
      exact ⟨pG,hall⟩
     ·omega
    ·rcases em with ⟨rfl,_⟩ | ⟨rfl,rfl⟩
     ·omega
     ·obtain ⟨p1,c1⟩:=m1 rfl
      exact ⟨G,p1,pG,c1,hall⟩
  ·rintro δ st3 ⟨v3,v4,G,rfl,BF,hG,_,_,m2,k3⟩
   obtain ⟨F1,p1,p2,c1,c2⟩:=m2 (Nat.le_refl 2)
   exact ⟨_,_,_,G,rfl,BF,hG,af.round hF.toFd hG.toFd p1 p2 c1 c2 hcl,k3⟩
 ·rintro δ st2 ⟨v2,v3,v4,F,rfl,Gv,hF,hcl,k2⟩
  rw [gO] at hcl
  have hl:=hF.len tx ty n0
  have hc:af.Cl xs ys F:=hcl.resolve_right (by omega)
  refine dH ?_
  kspl_open hQ
  exact hQ _ _ ⟨_,F,rfl,ek Gv,fun x=>⟨hF.mt x,fun h=>hc.all hF.z h⟩,hl,hF.od,k2⟩
theorem Qo {st:Store} {xs ys:List Int} {n:Nat} (tx:af.Tn n xs) (ty:af.Tn n ys) (n0:0 < n) (hn:n<=100):Wp (rP [bZ xs ys] st) fun d st'=>∃ (g:Nat) (F:List Int),d=.ref g/\items st' g=some (F.map D.int)/\(∀ x,x∈F↔af.iL xs ys x)/\F.length<=n/\Ex [] st st' :=
 aZ (Qn tx ty n0 hn) fun d st' ⟨g,F,h1,h2,h3,h4,_,h5⟩=>⟨g,F,h1,h2,h3,h4,h5⟩
theorem Ke {st:Store} {δ:aj} {X Y:List Int} {n:Nat} {Q:D->Store->Prop} (tX:af.Tn n X) (tY:af.Tn n Y) (n0:0 < n) (hn:n<=100) (h1:δ[1]?=some (some (.int (n:Int)))) (h6:δ[6]?=some (some (bZ X Y)))
  (q:∀ (L:List Int) (st':Store),L.length<=n->L.Nodup->(∀ x,x∈L↔(0<=x/\x < (n:Int)/\¬ af.iL X Y x))->Ex [] st st'->Q (.ref st'.length) (st' ++ [.lst (L.map D.int)])) :
  Wp (ef (b9 (ae (ag 1) ah)) 1 [6] (hName 0) (aR (aA (pA true) (ag 0) (aS rP (ae (ag 1) ah)))) (ag 0) δ st) Q:=by
 have Qp:δ.getD 6 none=some (bZ X Y):=by rw [List.getD_eq_getElem?_getD,h6];rfl
 refine F5 (aH 0 n) (fun j zs δ' j9=>∃ (v:Option D) (L:List Int),δ'=[v,some (bZ X Y)]/\zs=L.map D.int/\L.length<=j/\L.Nodup/\(∀ x,x∈L↔(0<=x/\x < (j:Int)/\¬ af.iL X Y x))/\Ex [] st j9) ?_ (by rw [gO];omega) ?_ ?_ ?_
 ·refine cQ ?_
  intro eX hQ
  set_option simprocs false in simp only [cj,h1]
  refine ⟨by omega,hQ _ _ ⟨fun i ys δ st hi _=>?_,none,[],?_,rfl,Nat.le_refl _,List.nodup_nil,fun x=>⟨(fun h=>nomatch h),fun h=>by omega⟩,Ex.refl⟩⟩
  ·rw [Int.toNat_natCast]
   show (if i<=(aH 0 n).length then some (aH 0 n)[i]? else none)=_
   rw [if_pos hi]
  ·unfold nM
   simp only [List.map_cons,List.map_nil,Qp]
   rfl
 ·rintro j zs δ' j9 ⟨v,L,_,rfl,hl,_⟩
  rw [List.length_map];exact hl
 ·rintro j d zs δ' j9 hd ⟨v,L,rfl,rfl,tR,nd,hL,k8⟩
  have hjl:=iX hd
  rw [gO] at hjl
  rw [CM hjl] at hd
  cases hd
  rw [Int.zero_add]
  kspl_open hQ
  refine hQ _ _ ?_
  kspl_open cz
  refine aZ (Qo (st:=j9) tX tY n0 hn) ?_
  rintro d nA ⟨g,F,rfl,hg,hF,RQ,k9⟩
  rw [CQ (c:=.ref g) (ns:=F) hg]
  refine ⟨_,rfl,cz _ _ ⟨fun hc=>?_,fun hc=>?_⟩⟩
  ·have hR:¬ af.iL X Y (j:Int):=fun h=>by rw [List.contains_iff_mem.mpr ((hF _).mpr h)] at hc;cases hc
   kspl_open qv
   refine qv _ _ ⟨_,L ++ [(j:Int)],rfl,by rw [List.map_append];rfl,by rw [List.length_append];simp;omega,?_,fun x=>?_,k8.trans k9⟩
   ·rw [List.nodup_append]
    refine ⟨nd,by simp,fun x hx y hy e=>?_⟩
    have e2:y=(j:Int):=by simpa using hy
    have:=((hL x).mp hx).2.1
    omega
   ·rw [List.mem_append,hL x]
    constructor
    ·rintro (⟨a1,a2,a3⟩ | h)
     ·exact ⟨a1,by omega,a3⟩
     ·have e2:x=(j:Int):=by simpa using h
      rw [e2];exact ⟨by omega,by omega,hR⟩
    ·rintro ⟨a1,a2,a3⟩
     rcases Int.lt_or_le x (j:Int) with h | h
     ·exact .inl ⟨a1,h,a3⟩
     ·exact .inr (by simp;omega)
  ·have hc:F.contains (j:Int)=true:=by simpa using hc
   have hR:=(hF _).mp (List.contains_iff_mem.mp hc)
   refine ⟨_,L,rfl,rfl,by omega,nd,fun x=>?_,k8.trans k9⟩
   rw [hL x]
   constructor
   ·rintro ⟨a1,a2,a3⟩;exact ⟨a1,by omega,a3⟩
   ·rintro ⟨a1,a2,a3⟩
    refine ⟨a1,?_,a3⟩
    rcases Int.lt_or_le x (j:Int) with h | h
    ·exact h
    ·exact absurd hR (by rw [show (j:Int)=x by omega];exact a3)
 ·rintro zs δ' j9 ⟨v,L,rfl,rfl,tR,nd,hL,k8⟩
  rw [gO] at tR hL
  exact q L j9 tR nd hL k8
theorem Qq {st:Store} {f n:Nat} (hf:bC st f) (n1:1<=n) (Qr:n<=20):Wp (Ax [.ref f,.int (n:Int)] st) fun d st'=>∃ xs ys:List Int,d=bZ xs ys/\lj n xs ys/\bC st' f/\Ex [f] st st':=by
 have hfl:=hf.lt
 refine e7 ?_
 show Ws (C1 [some (.ref f),some (.int (n:Int)),none,none,none,none,none,none,none] st) _ _ _ _
 unfold C1
 refine bx (cx ?_)
 kspl_open hQ
 refine aZ (qM (n:=6) hf (by decide) (by decide)) ?_
 rintro d st1 ⟨form,rfl,g0,g6,f1,k1⟩
 refine hQ _ _ (bx (F4 ?_))
 clear hQ
 kspl_open hQ
 refine aZ (Ka (n:=n) f1 (by omega)) ?_
 rintro d st2 ⟨X,rfl,tX,f2,k2⟩
 w_how
 refine aZ (Ka (n:=n) (f2.keep (Ex.cf [.lst (X.map D.int)])) (by omega)) ?_
 rintro d st3 ⟨Y,rfl,tY,f3,k3⟩
 w_how
 refine hQ _ _ ⟨_,_,rfl,?_⟩
 clear hQ
 have qN:st3[st2.length]?=some (.lst (X.map D.int)):=k3.keep _ _ ko (by have:=f2.lt;simp;omega)
 have two:mW st (st3 ++ [.lst (Y.map D.int)]) f st2.length st3.length n X Y:=⟨nB qN,ko,by have:=iX qN;omega,(k1.trans k2).len,((k1.trans k2).trans ((Ex.cf _).trans k3)).len,tX,tY,f3.keep (Ex.cf _),(((k1.trans k2).app _).trans k3).app _⟩
 show Ws _ _ _ _ _
 generalize (st3 ++ [O.lst (Y.map D.int)])=jJ at two ⊢
 generalize st2.length=r at two ⊢
 generalize st3.length=u at two ⊢
 clear qN tX tY f3 k3 f2 k2 f1 k1
 refine bx (vU (N:=fun δ jC=>∃ (r u:Nat) (X Y:List Int),δ=[some (.ref f),some (.int (n:Int)),some (.int form),some (.ref r),some (.ref u),none,none,none,none]/\mW st jC f r u n X Y) (jP ?_) ?_)
 ·kspl_open hQ
  refine hQ _ _ ⟨fun _=>cx ?_,fun _=>lh ⟨r,u,X,Y,rfl,two⟩⟩
  kspl_open cz
  rw [<- JV]
  refine ⟨rM (by omega),rfl,kH (by rw [gO];simp;omega),cz _ _ ⟨_,u,_,Y,rfl,(two.keep (((Ex.cf _).app _).app _)).wq (af.IL (show n < 21 by omega) (by omega))⟩⟩
 rintro δ jC ⟨r,u,X,Y,rfl,two⟩
 refine bx (vU (N:=fun δ jC=>∃ (r u:Nat) (X Y:List Int),δ=[some (.ref f),some (.int (n:Int)),some (.int form),some (.ref r),some (.ref u),none,none,none,none]/\mW st jC f r u n X Y) (jP ?_) ?_)
 ·kspl_open hQ
  refine hQ _ _ ⟨fun _=>F4 ?_,fun _=>lh ⟨r,u,X,Y,rfl,two⟩⟩
  kspl_open cz
  rw [<- JV,show ((n:Int) - 0).toNat=n by omega,o7]
  refine ⟨rM (by omega),rM (by omega),rfl,kH (by rw [gO];simp;omega),cz _ _ ⟨_,_,rfl,_,_,_,_,rfl,(((two.keep (Ex.cf [.iJ 0 (n:Int)])).wq (Z:=af.upto n) (List.Perm.refl _)).keep (((Ex.cf _).app _).app _)).wt (af.IL (show n < 21 by omega) (by omega))⟩⟩
 rintro δ zO ⟨r,u,X,Y,rfl,two⟩
 refine bx (vU (N:=fun δ jC=>∃ (r u:Nat) (v5:Option D) (X Y:List Int),δ=[some (.ref f),some (.int (n:Int)),some (.int form),some (.ref r),some (.ref u),v5,none,none,none]/\mW st jC f r u n X Y) (jP ?_) ?_)
 ·kspl_open hQ
  refine hQ _ _ ⟨fun _=>bx (cx ?_),fun _=>lh ⟨r,u,none,X,Y,rfl,two⟩⟩
  kspl_open cz
  refine aZ (qM (n:=(n:Int)) two.fd (by omega) (by omega)) ?_
  rintro d nQ ⟨w,rfl,w0,w1,f7,k7⟩
  obtain ⟨wd,rfl⟩:∃ wd:Nat,w=(wd:Int) - 1:=⟨(w + 1).toNat,by omega⟩
  have t7:mW st nQ f r u n X Y:=⟨k7.keep _ _ two.hr (by have:=two.r0;simp;omega),k7.keep _ _ two.hu (by have:=two.u0;simp;omega),two.ne,two.r0,two.u0,two.tX,two.tY,f7,two.ex.trans k7⟩
  w_how
  rw [show (1:Int) + ((wd:Int) - 1)=(wd:Int) by omega]
  refine cz _ _ (bx (cx ?_))
  clear cz hQ
  kspl_open cz
  rw [<- wx]
  refine ⟨rM (by omega),rfl,kH (by rw [gO];simp;omega),rM (by omega),kH (by rw [List.length_append,gO,gO];simp;omega),cz _ _ (bx (cx ?_))⟩
  clear cz
  have t8:=(t7.keep ((((((Ex.cf [.iJ 1 (wd:Int)]).app [.lst (aH 1 ((wd:Int) - 1).toNat)]).app [.lst [.int 0]]).app [.lst (aH 1 ((wd:Int) - 1).toNat ++ [.int 0])]).app [.iJ (wd:Int) (n:Int)]).app [.lst (aH (wd:Int) ((n:Int) - (wd:Int)).toNat)])).wq (af.MP (w:=wd) (show n < 21 by omega) (by omega) (by omega))
  generalize Qs:(nQ ++ _ ++ _ ++ _ ++ _ ++ _ ++ _ ++ _:Store)=j9 at t8 ⊢
  generalize List.length _=r8 at t8 ⊢
  kspl_open cz
  refine ⟨rfl,rM (by omega),kH (by simp [gO];omega),rM (by omega),kH (by simp [gO];omega),rfl,kH (by simp [gO];omega),cz _ _ (jP ?_)⟩
  clear cz
  generalize Qu:(j9 ++ _ ++ _ ++ _ ++ _ ++ _ ++ _ ++ _ ++ _ ++ _:Store)=D3
  have tE:mW st D3 f r8 u n (af.p6 wd n) Y:=by rw [<- Qu];exact t8.keep (((((((((Ex.cf _).app _).app _).app _).app _).app _).app _).app _).app _)
  kspl_open hQ
  refine hQ _ _ ⟨fun hw=>?_,fun hw=>?_⟩
  ·refine cx ?_
   kspl_open cz
   rw [show ((n:Int) - 0).toNat=n by omega,o7]
   exact ⟨rM (by omega),cz _ _ ⟨r8,_,_,_,_,rfl,(tE.keep ((Ex.cf _).app _)).wt (List.Perm.refl _)⟩⟩
  ·have hne:wd≠n:=fun z=>by simp [z] at hw
   have tF:=tE.wt (af.MQ (w:=wd) (show n < 21 by omega) (by omega) (by omega))
   rw [wy (by omega) (by omega)] at tF
   exact lh ⟨r8,_,_,_,_,rfl,tF⟩
 rintro δ nQ ⟨r,u,v5,X,Y,rfl,two⟩
 have n0:0 < n:=by omega
 refine bx (cx ?_)
 refine cQ ?_
 intro eX hQ
 set_option simprocs false in simp only [cj,ek two.hr,ek two.hu]
 refine ⟨rfl,hQ _ _ (bx (cx (Ke (X:=X) (Y:=Y) two.tX two.tY n0 (by omega) rfl rfl ?_)))⟩
 clear hQ
 intro L j9 tR nd hL k8
 have t8:=(two.keep k8).keep (Ex.cf [.lst (L.map D.int)])
 refine bx (xF (fun mm δ nA=>∃ (pa:Nat) (X L:List Int) (v8:Option D),mm=L.length/\δ=[some (.ref f),some (.int (n:Int)),some (.int form),some (.ref r),some (.ref u),v5,some (bZ X Y),some (.ref pa),v8]/\mW st nA f r u n X Y/\items nA pa=some (L.map D.int)/\L.length<=n/\L.Nodup/\(∀ x,x∈L↔(0<=x/\x < (n:Int)/\¬ af.iL X Y x))) L.length (Nat.lt_of_le_of_lt tR (Nat.lt_of_le_of_lt Qr (by decide))) ⟨_,X,L,none,rfl,rfl,t8,z9,tR,nd,hL⟩ ?_)
 rintro mm δ nA ⟨pa,X,L,v8,rfl,rfl,two,hpa,tR,nd,hL⟩
 have RS:=two.tX.length
 have wQ:items (nA ++ [O.lst []]) pa=some (L.map D.int):=by
  unfold items at hpa ⊢
  cases e:nA[pa]? with
  | none=>rw [e] at hpa;cases hpa
  | some o=>rw [nB e];rw [e] at hpa;exact hpa
 refine cQ ?_
 intro eX hQ
 set_option simprocs false in simp only [cj,JU (L:=L) (M:=[]) (st:=nA ++ [O.lst []]) wQ z9]
 refine ⟨rfl,hQ _ _ ⟨fun h=>?_,fun h=>?_⟩⟩
 ·have hne:L≠[]:=by simpa using h
  clear hQ
  obtain ⟨m,L1,rfl⟩:∃ m L1,L=m :: L1:=by cases L with | nil=>exact absurd rfl hne | cons m L1=>exact ⟨m,L1,rfl⟩
  obtain ⟨m0,m1,mR⟩:=(hL m).mp List.mem_cons_self
  have t2:=two.keep (Ex.cf [O.lst []])
  generalize (nA ++ [O.lst []])=D3 at wQ t2 ⊢
  refine bx (cx ?_)
  refine cQ ?_
  intro eX hQ
  set_option simprocs false in simp only [cj,wQ,List.map_cons]
  refine hQ _ _ (bx (qj ?_))
  clear hQ
  refine cQ ?_
  intro eX hQ
  set_option simprocs false in simp only [cj,ek t2.hr,o8 (xs:=X) m0 (by omega),o8 (xs:=X) (i:=0) (by decide) (by omega)]
  refine ⟨rfl,hQ _ _ ?_⟩
  clear hQ
  have i0:kU (X.map D.int).length 0=some 0:=yP (j:=0) (by rw [List.length_map];omega)
  have im:kU ((X.map D.int).set 0 (.int (af.app X m))).length m=some m.toNat:=by
   rw [List.length_set]
   have:=yP (n:=(X.map D.int).length) (j:=m.toNat) (by rw [List.length_map];omega)
   rwa [Int.toNat_of_nonneg m0] at this
  have qN:(D3.set r (.lst ((X.map D.int).set 0 (.int (af.app X m)))))[r]?=some (.lst ((X.map D.int).set 0 (.int (af.app X m)))):=List.getElem?_set_self (iX t2.hr)
  have eS:((X.map D.int).set 0 (.int (af.app X m))).set m.toNat (.int (af.app X 0))=(af.mf X m.toNat).map D.int:=by
   unfold af.mf
   rw [Int.toNat_of_nonneg m0,List.map_set,List.map_set]
  refine cQ ?_
  intro eX hQ
  set_option simprocs false in simp only [cj,mr t2.hr,mr qN,i0,im,eS]
  refine ⟨rfl,hQ _ _ (bx (cx ?_))⟩
  clear hQ
  have tS:=af.uR t2.tX (m:=m.toNat) (by omega)
  have hmet:=af.MJ t2.tX t2.tY (m:=m.toNat) (by omega) (by rw [Int.toNat_of_nonneg m0];exact mR)
  rw [Int.toNat_of_nonneg m0] at hmet
  rw [List.set_set]
  have t3:=t2.put (Z:=af.mf X m.toNat) tS hfl
  generalize D3.set r _=st3 at t3 ⊢
  refine cQ ?_
  intro eX hQ
  set_option simprocs false in simp only [cj,ek t3.hr,ek t3.hu]
  refine ⟨rfl,hQ _ _ (cx (Ke (X:=af.mf X m.toNat) (Y:=Y) t3.tX t3.tY n0 (by omega) rfl rfl ?_))⟩
  intro L' jJ Gw Kf hL' k4
  refine ⟨_,?_,jJ.length,af.mf X m.toNat,L',_,rfl,rfl,(t3.keep k4).keep (Ex.cf _),z9,Gw,Kf,hL'⟩
  refine af.less (m:=m) Kf (fun x hx=>?_) List.mem_cons_self (fun h=>((hL' m).mp h).2.2 hmet.1)
  obtain ⟨a1,a2,a3⟩:=(hL' x).mp hx
  exact (hL x).mpr ⟨a1,a2,fun h=>a3 (hmet.2 x h)⟩
 ·have he:L=[]:=by simpa using h
  subst he
  refine dH ?_
  kspl_open cz
  have t2:=two.keep (Ex.cf [O.lst []])
  refine cz _ _ ⟨X,Y,rfl,⟨t2.tX,t2.tY,fun x x0 x1=>?_⟩,t2.fd,t2.ex⟩
  exact Classical.byContradiction fun h=>nomatch (hL x).mpr ⟨x0,x1,h⟩
theorem Gx {st:Store} {xs:List Int} {n:Nat} (tn:af.Tn n xs) (hn:n<=100):Wp (qr [.tup (xs.map D.int)] st) fun d st'=>d=.tup ((af.inv xs).map D.int)/\Ex [] st st':=by
 have hlen:=tn.length
 refine e7 ?_
 show Ws (C2 [some (.tup (xs.map D.int)),none,none,none] st) _ _ _ _
 unfold C2
 refine bx (cx ?_)
 kspl_open hQ
 have e0:(((xs.map D.int).length:Int)).toNat=n:=by rw [List.length_map];omega
 have ez:(List.replicate n [D.int 0]).flatten=(List.replicate n (0:Int)).map D.int:=by
  induction n with
  | zero=>rfl
  | succ n ih=>simp [List.replicate_succ]
 rw [e0,ez]
 refine ⟨rfl,by rw [List.length_map];omega,kH (by simp;omega),hQ _ _ (bx (lZ (kY (xs.map D.int)) (fun k δ st2=>∃ (v2 v3:Option D) (bs:List Int),δ=[some (.tup (xs.map D.int)),some (.ref (st ++ [O.lst [D.int 0]]).length),v2,v3]/\st2[(st ++ [O.lst [D.int 0]]).length]?=some (.lst (bs.map D.int))/\bs.length=n/\(∀ j,j < k->∀ x,xs[j]?=some x->bs[x.toNat]?=some (j:Int))/\Ex [] st st2) ?_ ?_ ?_ ?_))⟩
 ·kspl_open hQ
  exact hQ _ _ ⟨rfl,none,none,_,rfl,ko,by simp,fun j hj=>absurd hj (Nat.not_lt_zero _),(Ex.cf _).app _⟩
 ·rw [zN,List.length_map];omega
 ·have BH:st.length<=(st ++ [O.lst [D.int 0]]).length:=by simp
  generalize (st ++ [O.lst [D.int 0]]).length=B at BH ⊢
  rintro k d δ st2 hd ⟨v2,v3,bs,rfl,hB,qO,rR,k2⟩
  obtain ⟨d',hd',rfl⟩:=F0 hd
  obtain ⟨x,hx,rfl⟩:=An hd'
  obtain ⟨x0,x1⟩:=tn.bound (List.mem_of_getElem? hx)
  have mL:=iX hx
  kspl_open hQ
  refine ⟨rfl,hQ _ _ (qj ?_)⟩
  have hix:kU (bs.map D.int).length x=some x.toNat:=by
   have:=yP (n:=(bs.map D.int).length) (j:=x.toNat) (by rw [List.length_map];omega)
   rwa [Int.toNat_of_nonneg x0] at this
  have es:(bs.map D.int).set x.toNat (.int (k:Int))=(bs.set x.toNat (k:Int)).map D.int:=by rw [List.map_set]
  kspl_open cz
  refine cz _ _ ?_
  refine cQ ?_
  intro BG qv
  set_option simprocs false in simp only [cj,mr hB,hix,es]
  refine qv _ _ ⟨_,_,bs.set x.toNat (k:Int),rfl,List.getElem?_set_self (iX hB),by rw [List.length_set];exact qO,fun j hj y hy=>?_,k2.loc BH⟩
  by_cases hjk:j=k
  ·subst hjk
   rw [hx] at hy
   cases hy
   rw [List.getElem?_set_self (by rw [qO];omega)]
  ·obtain ⟨y0,y1⟩:=tn.bound (List.mem_of_getElem? hy)
   rw [List.getElem?_set_ne (fun z=>?_)]
   ·exact rR j (by omega) y hy
   ·obtain ⟨h1,e1⟩:=List.getElem?_eq_some_iff.mp hx
    obtain ⟨h2,e2⟩:=List.getElem?_eq_some_iff.mp hy
    exact hjk ((List.getElem_inj tn.nodup).mp (show xs[j]=xs[k] by omega))
 ·rintro δ st2 ⟨v2,v3,bs,rfl,hB,qO,rR,k2⟩
  rw [zN,List.length_map] at rR
  have eb:bs=af.inv xs:=by
   apply List.ext_getElem?
   intro i
   by_cases hi:i < n
   ·have hm:=tn.mem (i:=(i:Int)) (by omega) (by omega)
    have hil:=List.idxOf_lt_length_of_mem hm
    have:=rR (xs.idxOf (i:Int)) hil (i:Int) (by rw [List.getElem?_eq_getElem hil];exact congrArg some (List.getElem_idxOf hil))
    rw [Int.toNat_natCast] at this
    rw [this]
    have ea:=af.nI (xs:=af.inv xs) (i:=(i:Int)) (by omega) (by rw [af.Co];omega)
    rw [Int.toNat_natCast,af.Cp (by omega) (by omega)] at ea
    exact ea.symm
   ·rw [List.getElem?_eq_none (by omega),List.getElem?_eq_none (by rw [af.Co];omega)]
  subst eb
  refine dH ?_
  refine cQ ?_
  intro eX hQ
  set_option simprocs false in simp only [cj,ek hB]
  exact hQ _ _ ⟨rfl,k2⟩
theorem BI {st:Store} {xs ys:List Int} (hb:∀ x∈xs,0<=x/\x < (ys.length:Int)) (hn:xs.length<=100):Wp (oM [.tup (xs.map D.int),.tup (ys.map D.int)] st) fun d st'=>d=.tup ((af.a6 xs ys).map D.int)/\Ex [] st st':=by
 refine e7 ?_
 show Ws (C4 [some (.tup (xs.map D.int)),some (.tup (ys.map D.int))] st) _ _ _ _
 unfold C4
 refine dH ?_
 kspl_open hQ
 refine tK (xs.map D.int) (fun d=>.int (af.app ys (inD d))) ?_ (by rw [List.length_map];omega) ?_ ?_
 ·kspl_open cz
  exact cz _ _ ⟨tJ _ _,Ex.refl⟩
 ·intro d hd st1 k1
  obtain ⟨x,hx,rfl⟩:=wz hd
  obtain ⟨x0,x1⟩:=hb x hx
  refine cQ ?_
  intro jE cz
  set_option simprocs false in simp only [cj,List.map_cons,List.map_nil,List.getD_cons_succ,List.getD_cons_zero,o8 (xs:=ys) x0 x1]
  exact cz _ _ ⟨rfl,Ex.refl⟩
 ·intro st' k'
  rw [Ao (f:=af.app ys) fun x hx=>rfl]
  w_how
  exact hQ _ _ ⟨rfl,k'.app _⟩
theorem Qv {st:Store} {xs ys p:List Int} {n:Nat} (tx:af.Tn n xs) (ty:af.Tn n ys) (tp:af.Tn n p) (hn:n<=100):Wp (Az [bZ xs ys,.tup (p.map D.int)] st) fun d st'=>d=bZ (af.anew xs p) (af.anew ys p)/\Ex [] st st':=by
 have hlx:=tx.length
 have xW:=ty.length
 have Kg:=tp.length
 have ti:=tp.aw
 have hli:=ti.length
 refine e7 ?_
 show Ws (C5 [some (bZ xs ys),some (.tup (p.map D.int)),none,none,none] st) _ _ _ _
 unfold C5 bZ
 refine bx (cx ?_)
 kspl_open hQ
 refine aZ (Gx tp hn) ?_
 rintro d st1 ⟨rfl,k1⟩
 refine hQ _ _ (bx (cx ?_))
 clear hQ
 kspl_open hQ
 refine aZ (BI (xs:=af.inv p) (ys:=xs) (fun x hx=>by rw [hlx];exact ti.bound hx) (by omega)) ?_
 rintro d st2 ⟨rfl,k2⟩
 refine aZ (BI (xs:=af.a6 (af.inv p) xs) (ys:=p) (fun x hx=>by rw [Kg];exact (ti.a6 tx).bound hx) (by rw [af.za];omega)) ?_
 rintro d st3 ⟨rfl,k3⟩
 refine hQ _ _ (bx (cx ?_))
 clear hQ
 kspl_open hQ
 refine aZ (BI (xs:=af.inv p) (ys:=ys) (fun x hx=>by rw [xW];exact ti.bound hx) (by omega)) ?_
 rintro d jJ ⟨rfl,k4⟩
 refine aZ (BI (xs:=af.a6 (af.inv p) ys) (ys:=p) (fun x hx=>by rw [Kg];exact (ti.a6 ty).bound hx) (by rw [af.za];omega)) ?_
 rintro d jC ⟨rfl,k5⟩
 refine hQ _ _ (dH ?_)
 clear hQ
 kspl_open hQ
 exact ⟨rfl,hQ _ _ ⟨rfl,(((k1.trans k2).trans k3).trans k4).trans k5⟩⟩
theorem Kh {F:List Int} {x:Int}:(!F.contains x)=true->af.cF F x=F ++ [x]:=fun h=>by
 unfold af.cF
 rw [if_neg fun z=>by rw [List.contains_iff_mem.mpr z] at h;cases h]
theorem Ki {F:List Int} {x:Int}:(!F.contains x)=false->af.cF F x=F:=fun h=>by
 unfold af.cF
 rw [if_pos (List.contains_iff_mem.mp (by simpa using h))]
theorem Qw {st:Store} {xs ys:List Int} {n:Nat} {s:Int} (tx:af.Tn n xs) (ty:af.Tn n ys) (hn:n<=100) (s0:0<=s) (s1:s < (n:Int)):Wp (AB [bZ xs ys,.int s] st) fun d st'=>d=.tup ((af.bf xs ys s n).map D.int)/\Ex [] st st':=by
 have hlx:=tx.length
 have xW:=ty.length
 refine e7 ?_
 show Ws (C7 [some (bZ xs ys),some (.int s),none,none,none,none] st) _ _ _ _
 unfold C7
 refine bx (cx ?_)
 kspl_open hQ
 refine ⟨rfl,hQ _ _ (bx (cx ?_))⟩
 clear hQ
 kspl_open hQ
 refine hQ _ _ (bx (xF (fun m δ st2=>∃ (k:Nat) (v4 v5:Option D),m=n - k/\δ=[some (bZ xs ys),some (.int s),some (.ref st.length),some (.int (k:Int)),v4,v5]/\st2[st.length]?=some (.lst ((af.bf xs ys s k).map D.int))/\k<=(af.bf xs ys s k).length/\Ex [] st st2) n (Nat.lt_of_le_of_lt hn (by decide)) ⟨0,none,none,by omega,rfl,ko,Nat.zero_le _,Ex.cf _⟩ ?_))
 clear hQ
 rintro m δ st2 ⟨k,v4,v5,rfl,rfl,hl,hk,k2⟩
 have qO:=af.zb tx ty s0 s1 k
 refine cQ ?_
 intro eX hQ
 set_option simprocs false in simp only [cj,ek hl]
 refine hQ _ _ ⟨fun hlt=>?_,fun hlt=>?_⟩
 ·clear hQ
  have hlt:=of_decide_eq_true hlt
  rw [List.length_map] at hlt
  have mL:k < (af.bf xs ys s k).length:=by omega
  obtain ⟨x,hx⟩:∃ x,(af.bf xs ys s k)[k]?=some x:=⟨_,List.getElem?_eq_getElem mL⟩
  obtain ⟨x0,x1⟩:=af.oY tx ty s0 s1 k x (List.mem_of_getElem? hx)
  have e1:af.bf xs ys s (k + 1)=af.visit xs ys (af.bf xs ys s k) x:=by
   show (match (af.bf xs ys s k)[k]? with | some x=>af.visit xs ys (af.bf xs ys s k) x | none=>af.bf xs ys s k)=_
   rw [hx]
  have hb1:=af.zb tx ty s0 s1 (k + 1)
  rw [e1] at hb1
  have hp1:=(af.sJ (af.cF (af.bf xs ys s k) (af.app xs x)) (af.app ys x)).length_le
  have hp0:=(af.sJ (af.bf xs ys s k) (af.app xs x)).length_le
  change _<=(af.visit xs ys (af.bf xs ys s k) x).length at hp1
  refine bx (lZ [.tup (xs.map D.int),.tup (ys.map D.int)] (fun m δ st3=>∃ (v4 v5:Option D) (G:List Int),δ=[some (bZ xs ys),some (.int s),some (.ref st.length),some (.int (k:Int)),v4,v5]/\st3[st.length]?=some (.lst (G.map D.int))/\(m=0->G=af.bf xs ys s k)/\(m=1->G=af.cF (af.bf xs ys s k) (af.app xs x))/\(m=2->G=af.visit xs ys (af.bf xs ys s k) x)/\Ex [] st st3) ?_ (by simp) ?_ ?_)
  ·unfold bZ
   kspl_open hQ
   exact hQ _ _ ⟨rfl,v4,v5,_,rfl,hl,fun _=>rfl,fun z=>by omega,fun z=>by omega,k2⟩
  ·rintro m z δ st3 hm ⟨v4,v5,G,rfl,hl3,g0,g1,_,k3⟩
   have hm2:m < 2:=iX hm
   obtain ⟨zs,rfl,tz,em⟩:∃ (zs:List Int),z=.tup (zs.map D.int)/\af.Tn n zs/\((m=0/\zs=xs)\/(m=1/\zs=ys)):=by
    rcases (show m=0\/m=1 by omega) with rfl | rfl
    ·exact ⟨xs,by simpa using hm.symm,tx,.inl ⟨rfl,rfl⟩⟩
    ·exact ⟨ys,by simpa using hm.symm,ty,.inr ⟨rfl,rfl⟩⟩
   have hG:G.length<=100/\G[k]?=some x:=by
    rcases em with ⟨rfl,_⟩ | ⟨rfl,_⟩
    ·rw [g0 rfl];exact ⟨by omega,hx⟩
    ·rw [g1 rfl]
     refine ⟨by omega,?_⟩
     obtain ⟨t,e⟩:=af.sJ (af.bf xs ys s k) (af.app xs x)
     rw [<- e,List.getElem?_append_left mL];exact hx
   have BJ:∀ G',G'=af.cF G (af.app zs x)->(m + 1=0->G'=af.bf xs ys s k)/\(m + 1=1->G'=af.cF (af.bf xs ys s k) (af.app xs x))/\(m + 1=2->G'=af.visit xs ys (af.bf xs ys s k) x):=fun G' e=>by
    rcases em with ⟨rfl,rfl⟩ | ⟨rfl,rfl⟩
    ·exact ⟨fun z=>by omega,fun _=>by rw [e,g0 rfl],fun z=>by omega⟩
    ·exact ⟨fun z=>by omega,fun z=>by omega,fun _=>by rw [e,g1 rfl];rfl⟩
   have hat:iA (G.map D.int) (k:Int)=some (.int x):=xf (by rw [List.getElem?_map,hG.2];rfl)
   kspl_open hQ
   refine hQ _ _ (bx (cx ?_))
   clear hQ
   refine cQ ?_
   intro eX hQ
   set_option simprocs false in simp only [cj,ek hl3,hat,o8 (xs:=zs) x0 (by rw [tz.length];exact x1)]
   refine hQ _ _ (jP ?_)
   clear hQ
   refine cQ ?_
   intro eX hQ
   set_option simprocs false in simp only [cj,CQ (st:=st3) (c:=.ref st.length) (ns:=G) (ek hl3)]
   refine hQ _ _ ⟨fun hc=>tG ?_,fun hc=>lh ?_⟩
   ·obtain ⟨n0,n1,n2⟩:=BJ (G ++ [af.app zs x]) (Kh hc).symm
    refine cQ ?_
    intro jE cz
    set_option simprocs false in simp only [cj,mr hl3]
    refine ⟨qK (by rw [ek hl3];rfl),kH (by rw [List.length_map];omega),cz _ _ ⟨_,_,G ++ [af.app zs x],rfl,?_,n0,n1,n2,k3.loc (Nat.le_refl _)⟩⟩
    rw [List.getElem?_set_self (iX hl3),List.map_append];rfl
   ·obtain ⟨n0,n1,n2⟩:=BJ G (Ki hc).symm
    exact ⟨_,_,G,rfl,hl3,n0,n1,n2,k3⟩
  ·rintro δ st3 ⟨v4,v5,G,rfl,hl3,_,_,g2,k3⟩
   have g2:=g2 rfl
   subst g2
   refine cx ?_
   kspl_open hQ
   refine hQ _ _ ⟨n - (k + 1),by omega,k + 1,v4,v5,rfl,by simp,by rw [e1];exact hl3,by rw [e1];omega,k3⟩
 ·have hlt:=of_decide_eq_false hlt
  rw [List.length_map] at hlt
  have hle:(af.bf xs ys s k).length<=k:=by omega
  have e:af.bf xs ys s n=af.bf xs ys s k:=by
   have:=af.Cq hle (n - k)
   rwa [show k + (n - k)=n by omega] at this
  refine dH ?_
  refine cQ ?_
  intro jE cz
  set_option simprocs false in simp only [cj,ek hl]
  rw [<- e]
  exact cz _ _ ⟨rfl,k2⟩
theorem Qx {st:Store} {xs:List Int} {n:Nat} {i:Int} (tn:af.Tn n xs) (hn:n<=100) (i0:0<=i) (i1:i < (n:Int)):Wp (AJ [.tup (xs.map D.int),.int i] st) fun d st'=>∃ r:List Int,d=.tup (r.map D.int)/\af.gK xs i r/\Ex [] st st':=by
 have hlen:=tn.length
 refine e7 ?_
 show Ws (Dd [some (.tup (xs.map D.int)),some (.int i),none,none] st) _ _ _ _
 unfold Dd
 refine bx (cx ?_)
 kspl_open hQ
 refine ⟨rfl,hQ _ _ (bx (cx ?_))⟩
 clear hQ
 refine cQ ?_
 intro eX hQ
 set_option simprocs false in simp only [cj,o8 (xs:=xs) i0 (by omega)]
 refine hQ _ _ (bx (xF (fun m δ st2=>∃ k:Nat,m=n - (k + 1)/\δ=[some (.tup (xs.map D.int)),some (.int i),some (.ref st.length),some (.int (af.bp xs i (k + 1)))]/\st2[st.length]?=some (.lst ((af.row xs i k).map D.int))/\af.NB xs i k/\Ex [] st st2) (n - 1) (Nat.lt_of_le_of_lt (show n - 1<=100 by omega) (by decide)) ⟨0,rfl,rfl,ko,fun j h1 h2=>by omega,Ex.cf _⟩ ?_))
 clear hQ
 rintro m δ st2 ⟨k,rfl,rfl,hL,nb,k2⟩
 have hrl:=tn.jL i0 i1 nb
 kspl_open hQ
 refine hQ _ _ ⟨fun hb=>?_,fun hb=>?_⟩
 ·have hb:af.bp xs i (k + 1)≠i:=by simpa using hb
  have BK:af.NB xs i (k + 1):=fun j h1 h2=>by
   by_cases hj:j<=k
   ·exact nb j h1 hj
   ·have:j=k + 1:=by omega
    rw [this];exact hb
  have hle:=tn.jL i0 i1 BK
  have hit:=tn.bp i0 i1 (k + 1)
  refine bx (tG ?_)
  refine cQ ?_
  intro jE cz
  set_option simprocs false in simp only [cj,mr hL]
  refine ⟨qK (by rw [ek hL];rfl),kH (by rw [List.length_map,af.qE];omega),cz _ _ (cx ?_)⟩
  clear cz
  refine cQ ?_
  intro jE cz
  set_option simprocs false in simp only [cj,o8 (xs:=xs) hit.1 (by omega)]
  refine cz _ _ ⟨n - (k + 1 + 1),by omega,k + 1,rfl,rfl,?_,BK,k2.loc (Nat.le_refl _)⟩
  rw [List.getElem?_set_self (iX hL),af.IK,List.map_append];rfl
 ·have hb:af.bp xs i (k + 1)=i:=by simpa using hb
  refine dH ?_
  refine cQ ?_
  intro jE cz
  set_option simprocs false in simp only [cj,ek hL]
  exact cz _ _ ⟨_,rfl,⟨k,rfl,nb,hb⟩,k2⟩
theorem Qy {st:Store} {xs:List Int} {n:Nat} (tn:af.Tn n xs) (hn:n<=100):Wp (AL [.tup (xs.map D.int)] st) fun d st'=>∃ rs:List (List Int),d=Ak rs/\af.sI xs (af.upto n) rs/\(∀ r∈rs,r.length<=n/\∀ x∈r,0<=x/\x < (n:Int))/\rs.length<=n/\Ex [] st st':=by
 have hlen:=tn.length
 refine e7 ?_
 show Ws (Df [some (.tup (xs.map D.int)),none,none,none,none,none] st) _ _ _ _
 unfold Df
 refine bx (cx ?_)
 kspl_open hQ
 refine ⟨rfl,hQ _ _ (bx (cx ?_))⟩
 clear hQ
 kspl_open hQ
 have eS:(st ++ [O.lst []]).length=st.length + 1:=by simp
 rw [eS]
 refine hQ _ _ (bx (lZ (aH 0 n) (fun k δ st2=>∃ (v3 v4 v5:Option D) (rs:List (List Int)) (kvs:List (Key×D)),δ=[some (.tup (xs.map D.int)),some (.ref st.length),some (.ref (st.length + 1)),v3,v4,v5]/\st2[st.length]?=some (.lst (rs.map fun r=>.tup (r.map D.int)))/\st2[st.length + 1]?=some (.dct kvs) /\
   (∀ rest,af.sI xs (af.from' n k (fun x=>(dE kvs (Sum.inl x:Key)).isSome)) rest->af.sI xs (af.upto n) (rs ++ rest))/\(∀ r∈rs,r.length<=n/\∀ x∈r,0<=x/\x < (n:Int))/\rs.length<=k/\kvs.length<=k * n/\Ex [] st st2) ?_ (by rw [gO];omega) ?_ ?_))
 ·clear hQ
  kspl_open hQ
  rw [List.length_map,hlen]
  refine ⟨by omega,hQ _ _ ⟨by rw [Int.toNat_natCast],none,none,none,[],[],rfl,nB ko,by rw [<- eS];exact ko,fun rest hrest=>?_,(fun r hr=>nomatch hr),Nat.le_refl _,Nat.zero_le _,(Ex.cf _).app _⟩⟩
  have e:af.from' n 0 (fun x=>(dE ([]:List (Key×D)) (Sum.inl x:Key)).isSome)=af.upto n:=af.ME n
  rw [e] at hrest
  exact hrest
 ·rintro k d δ st2 hd ⟨v3,v4,v5,rs,kvs,rfl,D4,D5,tT,hb,hrl,mL,k2⟩
  have hk:=iX hd
  rw [gO] at hk
  rw [CM hk,Int.zero_add] at hd
  cases hd
  have hkn:k * n<=10000:=Nat.le_trans (Nat.mul_le_mul (show k<=100 by omega) hn) (by decide)
  clear hQ
  kspl_open hQ
  refine hQ _ _ (jP ?_)
  clear hQ
  refine cQ ?_
  intro eX hQ
  set_option simprocs false in simp only [cj,JZ D5,J0]
  have hfs:=af.MC hk (fun x=>(dE kvs (Sum.inl x:Key)).isSome)
  refine hQ _ _ ⟨fun hs=>?_,fun hs=>?_⟩
  ·have Gy:(dE kvs (Sum.inl (k:Int):Key)).isSome=false:=by simpa using hs
   simp only [Gy,Bool.false_eq_true,if_false] at hfs
   clear hQ
   refine bx (cx ?_)
   kspl_open hQ
   refine aZ (Qx tn hn (i:=(k:Int)) (by omega) (by omega)) ?_
   rintro d st3 ⟨r,rfl,mF,k3⟩
   refine hQ _ _ (bx (tG ?_))
   clear hQ
   have Gz:=k3.keep _ _ D4 (by simp)
   have Qz:=k3.keep _ _ D5 (by simp)
   have GA:=mF.len tn (by omega) (by omega)
   have hrb:=mF.bound tn (by omega) (by omega)
   refine cQ ?_
   intro eX hQ
   set_option simprocs false in simp only [cj,mr Gz]
   refine ⟨qK (by rw [ek Gz];rfl),kH (by rw [List.length_map];omega),hQ _ _ ?_⟩
   clear hQ
   refine lZ (r.map D.int) (fun j δ jC=>∃ (v5:Option D) (kvs':List (Key×D)),δ=[some (.tup (xs.map D.int)),some (.ref st.length),some (.ref (st.length + 1)),some (.int (k:Int)),some (.tup (r.map D.int)),v5]/\jC[st.length]?=some (.lst ((rs ++ [r]).map fun r=>.tup (r.map D.int)))/\jC[st.length + 1]?=some (.dct kvs') /\
     (∀ x:Int,(dE kvs' (Sum.inl x:Key)).isSome=((dE kvs (Sum.inl x:Key)).isSome || (r.take j).contains x))/\kvs'.length<=kvs.length + j/\Ex [] st jC) ?_ (by rw [List.length_map];omega) ?_ ?_
   ·kspl_open hQ
    refine hQ _ _ ⟨rfl,v5,kvs,rfl,?_,?_,fun x=>by simp,by omega,(k2.trans k3).loc (Nat.le_refl _)⟩
    ·rw [List.getElem?_set_self (iX Gz),List.map_append];rfl
    ·rw [List.getElem?_set_ne (by omega)];exact Qz
   ·rintro j y δ jC hj ⟨v5,kvs',rfl,GB,D6,D7,BL,k5⟩
    obtain ⟨x,hx,rfl⟩:=An hj
    obtain ⟨hjl,ex⟩:=List.getElem?_eq_some_iff.mp hx
    subst ex
    kspl_open hQ
    refine hQ _ _ (N4 ?_)
    clear hQ
    kspl_open hQ
    refine hQ _ _ ?_
    kspl_open cz
    refine cz _ _ ?_
    kspl_open qv
    refine qv _ _ ⟨_,kvs',_,rfl,JZ D6,J0 _,kH (by omega),_,_,rfl,?_,List.getElem?_set_self (iX D6),fun x=>?_,?_,k5.loc (by omega)⟩
    ·rw [List.getElem?_set_ne (by omega)];exact GB
    ·rw [OL,OO hjl]
     by_cases hx:x=r[j]
     ·subst hx;simp
     ·rw [if_neg (by intro z;exact hx (Sum.inl.inj z)),D7 x]
      have:(x == r[j])=false:=beq_eq_false_iff_ne.mpr hx
      rw [this,Bool.or_false]
    ·have:=OM kvs' (Sum.inl r[j]:Key) (.bl true);omega
   ·rintro δ jC ⟨v5,kvs',rfl,GB,D6,D7,BL,k5⟩
    rw [List.length_map] at BL D7
    refine ⟨_,_,_,rs ++ [r],kvs',rfl,GB,D6,fun rest hrest=>?_,fun r' hr'=>?_,by rw [List.length_append];simp;omega,by rw [Nat.succ_mul];omega,k5⟩
    ·have e:(fun x=>(dE kvs' (Sum.inl x:Key)).isSome)=fun x=>((dE kvs (Sum.inl x:Key)).isSome || r.contains x):=by
      funext x;rw [D7 x,List.take_length]
     rw [e,<- af.MD] at hrest
     rw [List.append_assoc]
     refine tT _ ?_
     rw [hfs]
     refine .cons mF ?_
     have e2:af.out ((k:Int) :: af.from' n (k + 1) (fun x=>(dE kvs (Sum.inl x:Key)).isSome)) r=af.out (af.from' n (k + 1) (fun x=>(dE kvs (Sum.inl x:Key)).isSome)) r:=by
      unfold af.out
      rw [List.filter_cons,if_neg (by simp [mF.mem])]
     rw [e2]
     exact hrest
    ·rcases List.mem_append.mp hr' with h | h
     ·exact hb r' h
     ·have:r'=r:=by simpa using h
      subst this
      exact ⟨GA,hrb⟩
  ·have Gy:(dE kvs (Sum.inl (k:Int):Key)).isSome=true:=by simpa using hs
   simp only [Gy,if_true] at hfs
   exact lh ⟨_,_,_,rs,kvs,rfl,D4,D5,fun rest hrest=>tT rest (by rw [hfs];exact hrest),hb,by omega,by rw [Nat.succ_mul];omega,k2⟩
 ·rintro δ st2 ⟨v3,v4,v5,rs,kvs,rfl,D4,D5,tT,hb,hrl,mL,k2⟩
  rw [gO] at tT hrl
  refine dH ?_
  clear hQ
  refine cQ ?_
  intro eX hQ
  set_option simprocs false in simp only [cj,ek D4]
  refine hQ _ _ ⟨rs,rfl,?_,hb,hrl,k2⟩
  have:=tT [] (by rw [af.MB];exact .nil)
  rwa [List.append_nil] at this
theorem QA {rs:List (List Int)} {m:Nat} {d:D} (h:(rs.map fun r=>D.tup (r.map D.int))[m]?=some d):∃ r,rs[m]?=some r/\d=.tup (r.map D.int):=by
 rw [List.getElem?_map] at h
 obtain ⟨r,h1,h2⟩:=Option.map_eq_some_iff.mp h
 exact ⟨r,h1,h2.symm⟩
theorem Kj {xs:List Int} {i:Int} {m:Nat} {j:Int} (h0:0<=j) (h1:j < ((m + 1:Nat):Int)):iA ((af.row xs i m).map D.int) j=some (.int (af.bp xs i j.toNat)):=by
 have e:((af.row xs i m).map D.int)[j.toNat]?=some (.int (af.bp xs i j.toNat)):=by
  unfold af.row
  rw [List.map_map,List.getElem?_map,List.getElem?_range (by omega)];rfl
 have:=xf e
 rwa [Int.toNat_of_nonneg h0] at this
theorem Kk {bs:List Int} {m v x:Int} (h0:0<=m) (h1:m < (bs.length:Int)) (x0:0<=x):af.app (bs.set m.toNat v) x=if x=m then v else af.app bs x:=by
 have:=af.Fn (xs:=bs) (m:=m.toNat) (v:=v) (x:=x) (by omega) x0
 rw [Int.toNat_of_nonneg h0] at this
 exact this
theorem QB {st:Store} {xs:List Int} {n:Nat} {k:Int} (tn:af.Tn n xs) (hn:n<=100):Wp (AQ [.tup (xs.map D.int),.int k] st) fun d st'=>d=.tup ((af.cG xs k).map D.int)/\Ex [] st st':=by
 have hlen:=tn.length
 refine e7 ?_
 show Ws (Dg [some (.tup (xs.map D.int)),some (.int k),none,none,none,none] st) _ _ _ _
 unfold Dg
 refine bx (cx ?_)
 kspl_open hQ
 have e0:(((xs.map D.int).length:Int)).toNat=n:=by rw [List.length_map];omega
 have ez:(List.replicate n [D.int 0]).flatten=(List.replicate n (0:Int)).map D.int:=by
  clear hlen tn hn e0
  induction n with
  | zero=>rfl
  | succ n ih=>simp [List.replicate_succ]
 rw [e0,ez]
 have BH:st.length<=(st ++ [O.lst [D.int 0]]).length:=by simp
 refine ⟨rfl,by rw [List.length_map];omega,kH (by simp;omega),hQ _ _ ?_⟩
 clear hQ
 have GC:(st ++ [O.lst [D.int 0]] ++ [O.lst ((List.replicate n (0:Int)).map D.int)])[(st ++ [O.lst [D.int 0]]).length]?=some (.lst ((List.replicate n (0:Int)).map D.int)):=ko
 have kB:Ex [] st (st ++ [O.lst [D.int 0]] ++ [O.lst ((List.replicate n (0:Int)).map D.int)]):=(Ex.cf _).app _
 generalize (st ++ [O.lst [D.int 0]] ++ [O.lst ((List.replicate n (0:Int)).map D.int)])=QC at GC kB ⊢
 generalize (st ++ [O.lst [D.int 0]]).length=B at BH GC ⊢
 show Ws _ _ _ _ _
 obtain ⟨d,st2,e2,rs,rfl,tT,hrb,hrl,k2⟩:=Qy (st:=QC) tn hn
 refine bx (lZ (rs.map fun r=>.tup (r.map D.int)) (fun m δ st3=>∃ (v3 v4 v5:Option D) (bs:List Int),δ=[some (.tup (xs.map D.int)),some (.int k),some (.ref B),v3,v4,v5]/\st3[B]?=some (.lst (bs.map D.int))/\bs.length=n/\(∀ j,j < m->∀ r,rs[j]?=some r->∀ x∈r,af.app bs x=af.pw xs k x)/\Ex [] st st3) ?_ (by rw [List.length_map];omega) ?_ ?_)
 ·kspl_open hQ
  refine ⟨_,_,e2,?_⟩
  exact ⟨_,rfl,hQ _ _ ⟨rfl,none,none,none,_,rfl,k2.keep _ _ GC (by simp),by simp,fun j hj=>absurd hj (Nat.not_lt_zero _),kB.trans k2⟩⟩
 ·rintro m d δ st3 hm ⟨v3,v4,v5,bs,rfl,GD,qO,rR,k3⟩
  obtain ⟨r,hr,rfl⟩:=QA hm
  obtain ⟨i,hi,mF⟩:=tT.all.1 r (List.mem_of_getElem? hr)
  obtain ⟨i0,i1⟩:=af.lu.mp hi
  obtain ⟨M,rfl,nb,bk⟩:=mF.ex
  have hM:=tn.jL i0 i1 nb
  kspl_open hQ
  refine hQ _ _ (lZ (kY ((af.row xs i M).map D.int)) (fun t δ jJ=>∃ (v4 v5:Option D) (cs:List Int),δ=[some (.tup (xs.map D.int)),some (.int k),some (.ref B),some (.tup ((af.row xs i M).map D.int)),v4,v5]/\jJ[B]?=some (.lst (cs.map D.int))/\cs.length=n/\(∀ x:Int,0<=x->x < (n:Int)->af.app bs x=af.pw xs k x->af.app cs x=af.pw xs k x)/\(∀ j,j < t->af.app cs (af.bp xs i j)=af.pw xs k (af.bp xs i j))/\Ex [] st jJ) ?_ ?_ ?_ ?_)
  ·clear hQ
   kspl_open hQ
   exact hQ _ _ ⟨rfl,v4,v5,bs,rfl,GD,qO,fun _ _ _ h=>h,fun j hj=>absurd hj (Nat.not_lt_zero _),k3⟩
  ·rw [zN,List.length_map,af.qE];omega
  ·rintro t d δ jJ hd ⟨v4,v5,cs,rfl,D8,hcl,hcs,hct,k4⟩
   obtain ⟨d',hd',rfl⟩:=F0 hd
   obtain ⟨y,hy,rfl⟩:=An hd'
   have Kl:=iX hy
   rw [af.qE] at Kl
   have ey:y=af.bp xs i t:=by
    unfold af.row at hy
    rw [List.getElem?_map,List.getElem?_range Kl] at hy
    exact (Option.some.inj hy).symm
   subst ey
   obtain ⟨x0,x1⟩:=tn.bp i0 i1 t
   have hL:(0:Int) < ((M + 1:Nat):Int):=by omega
   have m0:=Int.emod_nonneg ((t:Int) + k) (Int.ne_of_gt hL)
   have m1:=Int.emod_lt_of_pos ((t:Int) + k) hL
   have eL:((((af.row xs i M).map D.int).length:Nat):Int)=((M + 1:Nat):Int):=by rw [List.length_map,af.qE]
   have hix:kU (cs.map D.int).length (af.bp xs i t)=some (af.bp xs i t).toNat:=by
    have:=yP (n:=(cs.map D.int).length) (j:=(af.bp xs i t).toNat) (by rw [List.length_map];omega)
    rwa [Int.toNat_of_nonneg x0] at this
   have es:∀ v:Int,(cs.map D.int).set (af.bp xs i t).toNat (.int v)=(cs.set (af.bp xs i t).toNat v).map D.int:=fun v=>by rw [List.map_set]
   clear hQ
   kspl_open hQ
   refine ⟨rfl,hQ _ _ (qj ?_)⟩
   clear hQ
   refine cQ ?_
   intro eX hQ
   set_option simprocs false in simp only [cj,eL,Kj m0 m1]
   refine ⟨hL,hQ _ _ ?_⟩
   clear hQ
   refine cQ ?_
   intro eX hQ
   set_option simprocs false in simp only [cj,mr D8,hix,es]
   have hat:=tn.uT x0 x1 (tn.uQ i0 i1 nb bk t k)
   refine hQ _ _ ⟨_,_,_,rfl,List.getElem?_set_self (iX D8),by rw [List.length_set];exact hcl,fun x h0 h1 h=>?_,fun j hj=>?_,k4.loc BH⟩
   ·rw [Kk x0 (by omega) h0]
    split
    ·next e=>rw [e];exact hat
    ·exact hcs x h0 h1 h
   ·obtain ⟨y0,y1⟩:=tn.bp i0 i1 j
    rw [Kk x0 (by omega) y0]
    split
    ·next e=>rw [e];exact hat
    ·next e =>
     by_cases QD:j=t
     ·rw [QD] at e;exact absurd rfl e
     ·exact hct j (by omega)
  ·rintro δ jJ ⟨v4,v5,cs,rfl,D8,hcl,hcs,hct,k4⟩
   rw [zN,List.length_map,af.qE] at hct
   refine ⟨_,_,_,cs,rfl,D8,hcl,fun j hj r hr2 x hx=>?_,k4⟩
   by_cases QE:j=m
   ·subst QE
    rw [hr] at hr2
    cases hr2
    obtain ⟨jj,RT,rfl⟩:=af.Cn.mp hx
    exact hct jj (by omega)
   ·obtain ⟨b0,b1⟩:=(hrb r (List.mem_of_getElem? hr2)).2 x hx
    exact hcs x b0 b1 (rR j (by omega) r hr2 x hx)
 ·rintro δ st3 ⟨v3,v4,v5,bs,rfl,GD,qO,rR,k3⟩
  rw [List.length_map] at rR
  have e:bs=af.cG xs k:=by
   refine af.oy (n:=n) qO (by rw [af.ze];exact hlen) fun s s0 s1=>?_
   rw [af.n5 s0 (by omega)]
   obtain ⟨r,hr',hx⟩:=tT.all.2 s (af.lu.mpr ⟨s0,s1⟩)
   obtain ⟨j,hj,ej⟩:=List.getElem_of_mem hr'
   exact rR j hj r (by rw [List.getElem?_eq_getElem hj,ej]) s hx
  subst e
  refine dH ?_
  refine cQ ?_
  intro eX hQ
  set_option simprocs false in simp only [cj,ek GD]
  exact hQ _ _ ⟨rfl,k3⟩
theorem QF {st:Store} {xs ys:List Int} {n:Nat} {k:Int} (tx:af.Tn n xs) (ty:af.Tn n ys) (hn:n<=100):Wp (AV [bZ xs ys,.int k] st) fun d st'=>d=bZ xs (af.shr xs ys k)/\Ex [] st st':=by
 refine e7 ?_
 show Ws (Dh [some (bZ xs ys),some (.int k)] st) _ _ _ _
 unfold Dh bZ
 refine dH ?_
 have tp:=tx.cG (-k)
 kspl_open hQ
 refine aZ (QB (k:=-k) tx hn) ?_
 rintro d st1 ⟨rfl,k1⟩
 refine aZ (BI (xs:=af.cG xs (-k)) (ys:=ys) (fun x hx=>by rw [ty.length];exact tp.bound hx) (by rw [tp.length];exact hn)) ?_
 rintro d st2 ⟨rfl,k2⟩
 exact ⟨rfl,hQ _ _ ⟨rfl,k1.trans k2⟩⟩
theorem QG {st:Store} {xs ys:List Int} {n:Nat} (tx:af.Tn n xs) (ty:af.Tn n ys) (hn:n<=100):Wp (AX [bZ xs ys] st) fun d st'=>d=bZ (af.inv ys) xs/\Ex [] st st':=by
 refine e7 ?_
 show Ws (Di [some (bZ xs ys)] st) _ _ _ _
 unfold Di bZ
 refine dH ?_
 kspl_open hQ
 refine aZ (Gx ty hn) ?_
 rintro d st1 ⟨rfl,k1⟩
 exact ⟨rfl,hQ _ _ ⟨rfl,k1⟩⟩
theorem Km {st:Store} {Q:D->Store->Prop} {xs:List Int} {v:Int} (h:v∈xs):Wp (iS (.tup (xs.map D.int)) [.int v] st) Q↔Q (.int (xs.idxOf v:Int)) st:=by
 rw [JP]
 constructor
 ·rintro ⟨ns,j,h1,h2,q⟩
  rw [JR] at h1
  cases h1
  rw [JX h] at h2
  cases h2
  exact q
 ·intro q
  exact ⟨xs,_,JR xs,JX h,q⟩
theorem Kn {xs:List Int} {i:Int} {m:Nat}:iA ((af.row xs i m).map D.int) (-1)=some (.int (af.bp xs i m)):=by
 have hl:((af.row xs i m).map D.int).length=m + 1:=by rw [List.length_map,af.qE]
 unfold iA kU
 rw [if_neg (by decide),hl,if_pos (by omega),Option.bind_some,show ((-1:Int) + ((m + 1:Nat):Int)).toNat=m by omega]
 unfold af.row
 rw [List.map_map,List.getElem?_map,List.getElem?_range (by omega)];rfl
theorem QH {st:Store} {xs:List Int} {n:Nat} {s k:Int} (tn:af.Tn n xs) (hn:n<=100) (s0:0<=s) (s1:s < (n:Int)):Wp (Bw [.tup (xs.map D.int),.int s,.int k] st) fun d st'=>d=.int (af.pw xs k s)/\Ex [] st st':=by
 have hlen:=tn.length
 refine e7 ?_
 show Ws (DS [some (.tup (xs.map D.int)),some (.int s),some (.int k),none] st) _ _ _ _
 unfold DS
 refine bx (vU (N:=fun δ st1=>∃ (zs:List Int) (j:Nat),δ=[some (.tup (zs.map D.int)),some (.int s),some (.int (j:Int)),none]/\af.Tn n zs/\af.bp zs s j=af.pw xs k s/\Ex [] st st1) (jP ?_) ?_)
 ·kspl_open hQ
  refine hQ _ _ ⟨fun h=>?_,fun h=>lh ⟨xs,k.toNat,?_,tn,?_,Ex.refl⟩⟩
  ·have h:=of_decide_eq_true h
   clear hQ
   refine bx (cx ?_)
   kspl_open hQ
   refine tK (aH 0 n) (fun d=>.int (xs.idxOf (inD d):Int)) ?_ (by rw [gO];omega) ?_ ?_
   ·kspl_open cz
    rw [List.length_map,hlen]
    exact ⟨by omega,cz _ _ ⟨by rw [Int.toNat_natCast];exact tJ _ _,Ex.refl⟩⟩
   ·intro d hd nQ k7
    rw [o7] at hd
    obtain ⟨x,hx,rfl⟩:=wz hd
    obtain ⟨x0,x1⟩:=af.lu.mp hx
    refine cQ ?_
    intro jE cz
    set_option simprocs false in simp only [cj,List.map_cons,List.map_nil,List.getD_cons_succ,List.getD_cons_zero,JO,Km (tn.mem x0 x1)]
    exact cz _ _ ⟨rfl,Ex.refl⟩
   ·intro nQ k7
    have e:(aH 0 n).map (fun d=>D.int (xs.idxOf (inD d):Int))=(af.inv xs).map D.int:=by
     rw [o7,Ao (f:=fun x=>(xs.idxOf x:Int)) fun x hx=>rfl]
     unfold af.inv
     rw [hlen]
    rw [e]
    w_how
    refine hQ _ _ (cx ?_)
    clear hQ
    kspl_open hQ
    refine hQ _ _ ⟨af.inv xs,(-k).toNat,?_,tn.aw,?_,k7.app _⟩
    ·rw [show (0:Int) - k=(((-k).toNat:Nat):Int) by omega];rfl
    ·unfold af.pw;rw [if_neg (by omega)]
  ·have h:=of_decide_eq_false h
   rw [Int.toNat_of_nonneg (by omega)]
  ·have h:=of_decide_eq_false h
   unfold af.pw;rw [if_pos (by omega)]
 rintro δ st1 ⟨zs,j,rfl,tz,ej,k1⟩
 have Kc:=tz.length
 refine bx (cx ?_)
 kspl_open hQ
 refine ⟨rfl,hQ _ _ (bx (xF (fun m δ st2=>∃ k:Nat,m=n - (k + 1)/\δ=[some (.tup (zs.map D.int)),some (.int s),some (.int (j:Int)),some (.ref st1.length)]/\st2[st1.length]?=some (.lst ((af.row zs s k).map D.int))/\af.NB zs s k/\Ex [] st1 st2) (n - 1) (Nat.lt_of_le_of_lt (show n - 1<=100 by omega) (by decide)) ⟨0,rfl,rfl,ko,fun j h1 h2=>by omega,Ex.cf _⟩ ?_))⟩
 clear hQ
 rintro m δ st2 ⟨k',rfl,rfl,hL,nb,k2⟩
 have hrl:=tz.jL s0 s1 nb
 obtain ⟨y0,y1⟩:=tz.bp s0 s1 k'
 refine cQ ?_
 intro eX hQ
 set_option simprocs false in simp only [cj,ek hL,Kn,o8 (xs:=zs) y0 (by omega)]
 refine hQ _ _ ⟨fun hb=>?_,fun hb=>?_⟩
 ·have hb:af.bp zs s (k' + 1)≠s:=by show af.app zs (af.bp zs s k')≠s;simpa using hb
  have BK:af.NB zs s (k' + 1):=fun j h1 h2=>by
   by_cases hj:j<=k'
   ·exact nb j h1 hj
   ·have:j=k' + 1:=by omega
    rw [this];exact hb
  have hle:=tz.jL s0 s1 BK
  refine tG ?_
  refine cQ ?_
  intro jE cz
  set_option simprocs false in simp only [cj,ek hL,Kn,o8 (xs:=zs) y0 (by omega),mr hL]
  refine ⟨qK (by rw [ek hL];rfl),kH (by rw [List.length_map,af.qE];omega),cz _ _ ⟨n - (k' + 1 + 1),by omega,k' + 1,rfl,rfl,?_,BK,k2.loc (Nat.le_refl _)⟩⟩
  rw [List.getElem?_set_self (iX hL),af.IK,List.map_append];rfl
 ·have hb:af.bp zs s (k' + 1)=s:=by show af.app zs (af.bp zs s k')=s;simpa using hb
  refine dH ?_
  have hpos:(0:Int) < ((k' + 1:Nat):Int):=by omega
  have eL:((((af.row zs s k').map D.int).length:Nat):Int)=((k' + 1:Nat):Int):=by rw [List.length_map,af.qE]
  refine cQ ?_
  intro jE cz
  set_option simprocs false in simp only [cj,ek hL,eL,Kj (Int.emod_nonneg (j:Int) (Int.ne_of_gt hpos)) (Int.emod_lt_of_pos (j:Int) hpos)]
  refine ⟨hpos,cz _ _ ⟨?_,k1.trans k2⟩⟩
  rw [<- ej,show ((j:Int) % ((k' + 1:Nat):Int)).toNat=j % (k' + 1) by omega,af.IQ hb]
theorem QI {st:Store} {xs ys:List Int} {n:Nat} {k:Int} (tx:af.Tn n xs) (ty:af.Tn n ys) (hn:n<=100):Wp (wK [bZ xs ys,.tup [.str "s",.int k]] st) fun d st'=>d=bZ xs (af.shr xs ys k)/\Ex [] st st':=by
 have hlx:=tx.length
 have xW:=ty.length
 refine e7 ?_
 show Ws (xT [some (bZ xs ys),some (.tup [.str "s",.int k]),none,none,none] st) _ _ _ _
 unfold xT bZ
 refine bx (qj ?_)
 kspl_open hQ
 refine hQ _ _ ?_
 clear hQ
 kspl_open hQ
 refine ⟨rfl,hQ _ _ (bx (jP ?_))⟩
 clear hQ
 kspl_open hQ
 refine hQ _ _ ⟨fun _=>dH ?_,fun h=>absurd h (by simp)⟩
 clear hQ
 kspl_open hQ
 refine tK (aH 0 n) (fun d=>.int (af.app ys (af.pw xs (-k) (inD d)))) ?_ (by rw [gO];omega) ?_ ?_
 ·kspl_open cz
  rw [List.length_map,xW]
  exact ⟨by omega,cz _ _ ⟨by rw [Int.toNat_natCast];exact tJ _ _,Ex.refl⟩⟩
 ·intro d hd nQ k7
  rw [o7] at hd
  obtain ⟨x,hx,rfl⟩:=wz hd
  obtain ⟨x0,x1⟩:=af.lu.mp hx
  obtain ⟨p0,p1⟩:=tx.pw x0 x1 (-k)
  refine cQ ?_
  intro jE cz
  set_option simprocs false in simp only [cj,List.map_cons,List.map_nil,List.getD_cons_succ,List.getD_cons_zero]
  refine aZ (QH (k:=0 - k) tx hn x0 x1) ?_
  rintro d j9 ⟨rfl,k8⟩
  rw [show (0:Int) - k=-k by omega]
  set_option simprocs false in simp only [cj,o8 (xs:=ys) p0 (by omega)]
  exact cz _ _ ⟨rfl,k8⟩
 ·intro nQ k7
  have e:(aH 0 n).map (fun d=>D.int (af.app ys (af.pw xs (-k) (inD d))))=(af.shr xs ys k).map D.int:=by
   rw [o7,Ao (f:=fun x=>af.app ys (af.pw xs (-k) x)) fun x hx=>rfl]
   unfold af.shr af.a6 af.cG
   rw [hlx,List.map_map,List.map_map,List.map_map]
   rfl
  rw [e]
  w_how
  exact ⟨rfl,hQ _ _ ⟨rfl,k7.app _⟩⟩
def nc (xs ys:List Int):Nat->List Int×List Int
 | 0=>(xs,ys)
 | j + 1=>(af.inv (nc xs ys j).2,(nc xs ys j).1)
theorem BM {n:Nat} {xs ys:List Int} (tx:af.Tn n xs) (ty:af.Tn n ys):∀ j,af.Tn n (nc xs ys j).1/\af.Tn n (nc xs ys j).2
 | 0=>⟨tx,ty⟩
 | j + 1=>⟨(BM tx ty j).2.aw,(BM tx ty j).1⟩
theorem QJ {st:Store} {xs ys:List Int} {n j:Nat} (tx:af.Tn n xs) (ty:af.Tn n ys) (hn:n<=100) (hj:j < 4):Wp (wK [bZ xs ys,.tup [.str "t",.int (j:Int)]] st) fun d st'=>d=bZ (nc xs ys j).1 (nc xs ys j).2/\Ex [] st st':=by
 refine e7 ?_
 show Ws (xT [some (bZ xs ys),some (.tup [.str "t",.int (j:Int)]),none,none,none] st) _ _ _ _
 unfold xT bZ
 refine bx (qj ?_)
 kspl_open hQ
 refine hQ _ _ ?_
 clear hQ
 kspl_open hQ
 refine ⟨rfl,hQ _ _ (bx (jP ?_))⟩
 clear hQ
 kspl_open hQ
 refine hQ _ _ ⟨fun h=>absurd h (by decide),fun _=>lh (bx (lZ (aH 0 j) (fun i δ st2=>∃ v4:Option D,δ=[some (.tup [.tup (xs.map D.int),.tup (ys.map D.int)]),some (.tup [.str "t",.int (j:Int)]),some (.tup ((nc xs ys i).1.map D.int)),some (.tup ((nc xs ys i).2.map D.int)),v4]/\Ex [] st st2) ?_ (by rw [gO];omega) ?_ ?_))⟩
 ·clear hQ
  kspl_open hQ
  rw [show (j:Int) % 4=(j:Int) by omega]
  exact ⟨by omega,by omega,hQ _ _ ⟨by rw [Int.toNat_natCast],none,rfl,Ex.refl⟩⟩
 ·rintro i d δ st2 hd ⟨v4,rfl,k2⟩
  obtain ⟨ta,tb⟩:=BM tx ty i
  show Wp _ _
  have hlb:=tb.length
  generalize hzs:(nc xs ys i).2=zs at tb hlb ⊢
  clear hQ
  kspl_open hQ
  refine hQ _ _ (qj ?_)
  clear hQ
  kspl_open hQ
  refine tK (aH 0 n) (fun d=>.int (zs.idxOf (inD d):Int)) ?_ (by rw [gO];omega) ?_ ?_
  ·kspl_open cz
   rw [List.length_map,hlb]
   exact ⟨by omega,cz _ _ ⟨by rw [Int.toNat_natCast];exact tJ _ _,Ex.refl⟩⟩
  ·intro d hd nQ k7
   rw [o7] at hd
   obtain ⟨x,hx,rfl⟩:=wz hd
   obtain ⟨x0,x1⟩:=af.lu.mp hx
   refine cQ ?_
   intro jE cz
   set_option simprocs false in simp only [cj,List.map_cons,List.map_nil,List.getD_cons_succ,List.getD_cons_zero,JO,Km (tb.mem x0 x1)]
   exact cz _ _ ⟨rfl,Ex.refl⟩
  ·intro nQ k7
   have e:(aH 0 n).map (fun d=>D.int (zs.idxOf (inD d):Int))=(af.inv zs).map D.int:=by
    rw [o7,Ao (f:=fun x=>(zs.idxOf x:Int)) fun x hx=>rfl]
    unfold af.inv
    rw [hlb]
   rw [e]
   w_how
   refine ⟨rfl,hQ _ _ ?_⟩
   clear hQ
   kspl_open hQ
   refine ⟨rfl,hQ _ _ ⟨some d,?_,(k2.trans k7).app _⟩⟩
   rw [show (nc xs ys (i + 1)).1=af.inv (nc xs ys i).2 from rfl,show (nc xs ys (i + 1)).2=(nc xs ys i).1 from rfl,hzs]
 ·rintro δ st2 ⟨v4,rfl,k2⟩
  rw [gO]
  refine dH ?_
  clear hQ
  kspl_open hQ
  exact ⟨rfl,hQ _ _ ⟨rfl,k2⟩⟩
def BN (s:fQ):Prop:=s.1=false->1<=s.2/\s.2<=3
def iC (p:List Int×List Int) (s:fQ):List Int×List Int:=if s.1=true then (p.1,af.shr p.1 p.2 s.2) else nc p.1 p.2 s.2.toNat
def kl (p:List Int×List Int) (w:List fQ):List Int×List Int:=w.foldl iC p
theorem QK {n:Nat} {p:List Int×List Int} (h:af.Tn n p.1/\af.Tn n p.2) (s:fQ):af.Tn n (iC p s).1/\af.Tn n (iC p s).2:=by
 unfold iC
 split
 ·exact ⟨h.1,h.1.shr h.2 _⟩
 ·exact BM h.1 h.2 _
theorem GF {n:Nat}:∀ {p:List Int×List Int},af.Tn n p.1/\af.Tn n p.2->∀ w:List fQ,af.Tn n (kl p w).1/\af.Tn n (kl p w).2
 | _,h,[]=>h
 | _,h,s :: w=>GF (QK h s) w
theorem QL (p:List Int×List Int) (v w:List fQ):kl p (v ++ w)=kl (kl p v) w:=by unfold kl;rw [List.foldl_append]
theorem Ko (p:List Int×List Int) (w:List fQ) (s:fQ):kl p (w ++ [s])=iC (kl p w) s:=by rw [QL];rfl
def nO (p:List Int×List Int):D:=bZ p.1 p.2
theorem QM {st:Store} {p:List Int×List Int} {n:Nat} {s:fQ} (h:af.Tn n p.1/\af.Tn n p.2) (hn:n<=100) (hs:BN s):Wp (wK [nO p,bQ s] st) fun d st'=>d=nO (iC p s)/\Ex [] st st':=by
 obtain ⟨b,k⟩:=s
 cases b with
 | true=>exact QI (k:=k) h.1 h.2 hn
 | false =>
  obtain ⟨k1,k3⟩:=hs rfl
  obtain ⟨j,rfl⟩:∃ j:Nat,k=(j:Int):=⟨k.toNat,by simp only at k1;omega⟩
  have:=QJ (st:=st) (j:=j) h.1 h.2 hn (by simp only at k3;omega)
  refine aZ this ?_
  rintro d st1 ⟨rfl,k1⟩
  refine ⟨?_,k1⟩
  unfold nO iC
  rw [if_neg (show ¬ (false=true) from Bool.false_ne_true),Int.toNat_natCast]
theorem QN {st:Store} {p:List Int×List Int} {n:Nat} {w:List fQ} (h:af.Tn n p.1/\af.Tn n p.2) (hn:n<=100) (hw:∀ s∈w,BN s) (hl:w.length<=1000):Wp (Bz [nO p,.tup (w.map bQ)] st) fun d st'=>d=nO (kl p w)/\Ex [] st st':=by
 refine e7 ?_
 show Ws (DV [some (nO p),some (.tup (w.map bQ)),none] st) _ _ _ _
 unfold DV
 refine bx (lZ (w.map bQ) (fun i δ st2=>∃ v2:Option D,δ=[some (nO (kl p (w.take i))),some (.tup (w.map bQ)),v2]/\Ex [] st st2) ?_ (by rw [List.length_map];omega) ?_ ?_)
 ·kspl_open hQ
  exact hQ _ _ ⟨rfl,none,rfl,Ex.refl⟩
 ·rintro i d δ st2 hd ⟨v2,rfl,k2⟩
  rw [List.getElem?_map] at hd
  obtain ⟨s,hs,rfl⟩:=Option.map_eq_some_iff.mp hd
  obtain ⟨hil,es⟩:=List.getElem?_eq_some_iff.mp hs
  kspl_open hQ
  refine hQ _ _ (cx ?_)
  clear hQ
  kspl_open hQ
  refine aZ (QM (GF h _) hn (hw s (List.mem_of_getElem? hs))) ?_
  rintro d st3 ⟨rfl,k3⟩
  refine hQ _ _ ⟨some (bQ s),?_,k2.trans k3⟩
  rw [List.take_succ_eq_append_getElem hil,Ko,es]
  rfl
 ·rintro δ st2 ⟨v2,rfl,k2⟩
  rw [List.length_map,List.take_length]
  refine dH ?_
  kspl_open hQ
  exact hQ _ _ ⟨rfl,k2⟩
theorem QO {st:Store} {p:List Int×List Int} {n:Nat} {s:fQ} (h:af.Tn n p.1/\af.Tn n p.2) (hn:n<=100) (hs:BN s):Wp (AZ [nO p,bQ s] st) fun d st'=>d=nO (iC p s)/\Ex [] st st':=by
 obtain ⟨b,k⟩:=s
 refine e7 ?_
 show Ws (Dj [some (nO p),some (bQ (b,k)),none,none] st) _ _ _ _
 unfold Dj bQ
 cases b with
 | true =>
  refine bx (jP ?_)
  kspl_open hQ
  refine hQ _ _ ⟨fun _=>dH ?_,fun z=>absurd z (by decide)⟩
  clear hQ
  kspl_open hQ
  refine aZ (QF (k:=k) h.1 h.2 hn) ?_
  rintro d st1 ⟨rfl,k1⟩
  exact hQ _ _ ⟨rfl,k1⟩
 | false =>
  obtain ⟨k1,k3⟩:=hs rfl
  obtain ⟨j,rfl⟩:∃ j:Nat,k=(j:Int):=⟨k.toNat,by simp only at k1;omega⟩
  refine bx (jP ?_)
  kspl_open hQ
  refine hQ _ _ ⟨fun z=>absurd z (by decide),fun _=>lh (bx (cx ?_))⟩
  clear hQ
  kspl_open hQ
  refine hQ _ _ (bx (lZ (aH 0 j) (fun i δ st2=>∃ v3:Option D,δ=[some (nO p),some (bQ (false,(j:Int))),some (bZ (nc p.1 p.2 i).1 (nc p.1 p.2 i).2),v3]/\Ex [] st st2) ?_ (by rw [gO];simp only at k3;omega) ?_ ?_))
  ·clear hQ
   kspl_open hQ
   exact ⟨by simp only at k3;omega,hQ _ _ ⟨by rw [Int.toNat_natCast],none,rfl,Ex.refl⟩⟩
  ·rintro i d δ st2 hd ⟨v3,rfl,k2⟩
   obtain ⟨ta,tb⟩:=BM h.1 h.2 i
   clear hQ
   kspl_open hQ
   refine hQ _ _ (cx ?_)
   clear hQ
   kspl_open hQ
   refine aZ (QG ta tb hn) ?_
   rintro d' st3 ⟨rfl,k3⟩
   exact hQ _ _ ⟨some d,rfl,k2.trans k3⟩
  ·rintro δ st2 ⟨v3,rfl,k2⟩
   rw [gO]
   refine dH ?_
   clear hQ
   kspl_open hQ
   refine hQ _ _ ⟨?_,k2⟩
   unfold nO iC
   rw [if_neg (show ¬ (false=true) from Bool.false_ne_true),Int.toNat_natCast]
theorem Kq {st:Store} {p:List Int×List Int} {n:Nat} {w:List fQ} (h:af.Tn n p.1/\af.Tn n p.2) (hn:n<=100) (hw:∀ s∈w,BN s) (hl:w.length<=1000):Wp (tO [nO p,.tup (w.map bQ)] st) fun d st'=>d=nO (kl p w)/\Ex [] st st':=by
 refine e7 ?_
 show Ws (Dl [some (nO p),some (.tup (w.map bQ)),none,none] st) _ _ _ _
 unfold Dl
 refine bx (cx ?_)
 kspl_open hQ
 refine hQ _ _ (bx (lZ (w.map bQ) (fun i δ st2=>∃ v2:Option D,δ=[some (nO p),some (.tup (w.map bQ)),some (nO (kl p (w.take i))),v2]/\Ex [] st st2) ?_ (by rw [List.length_map];omega) ?_ ?_))
 ·clear hQ
  kspl_open hQ
  exact hQ _ _ ⟨rfl,none,rfl,Ex.refl⟩
 ·rintro i d δ st2 hd ⟨v2,rfl,k2⟩
  rw [List.getElem?_map] at hd
  obtain ⟨s,hs,rfl⟩:=Option.map_eq_some_iff.mp hd
  obtain ⟨hil,es⟩:=List.getElem?_eq_some_iff.mp hs
  clear hQ
  kspl_open hQ
  refine hQ _ _ (cx ?_)
  clear hQ
  kspl_open hQ
  refine aZ (QO (GF h _) hn (hw s (List.mem_of_getElem? hs))) ?_
  rintro d st3 ⟨rfl,k3⟩
  refine hQ _ _ ⟨some (bQ s),?_,k2.trans k3⟩
  rw [List.take_succ_eq_append_getElem hil,Ko,es]
  rfl
 ·rintro δ st2 ⟨v2,rfl,k2⟩
  rw [List.length_map,List.take_length]
  refine dH ?_
  clear hQ
  kspl_open hQ
  exact hQ _ _ ⟨rfl,k2⟩
def tU (g:Int) (s:fQ):Prop:=(s.1=false->1<=s.2/\s.2<=3)/\(s.2.natAbs:Int)<=g/\s.2≠0
theorem GG {st:Store} {f:Nat} {most great:Int} (hf:bC st f) (m0:0<=most) (m1:most<=100) (g0:3<=great) (g1:great<=1000):Wp (Bo [.ref f,.int most,.int great] st) fun d st'=>∃ w:List fQ,d=.tup (w.map bQ)/\(∀ s∈w,tU great s)/\(w.length:Int)<=most/\bC st' f/\Ex [f] st st':=by
 have hfl:=hf.lt
 refine e7 ?_
 show Ws (DK [some (.ref f),some (.int most),some (.int great),none,none] st) _ _ _ _
 unfold DK
 refine bx (cx ?_)
 kspl_open hQ
 refine ⟨rfl,hQ _ _ ?_⟩
 clear hQ
 show Ws _ _ _ _ _
 obtain ⟨d,st1,e1,c,rfl,c0,c1,f1,k1⟩:=qM (st:=st ++ [O.lst []]) (n:=most + 1) (hf.keep (Ex.cf _)) (by omega) (by omega)
 obtain ⟨m,rfl⟩:∃ m:Nat,c=(m:Int):=⟨c.toNat,by omega⟩
 have hl1:st1[st.length]?=some (.lst []):=k1.keep _ _ ko (by simp;omega)
 have kx:Ex [f] st st1:=(Ex.cf _).trans k1
 refine bx (lZ (aH 0 m) (fun i δ st2=>∃ (v4:Option D) (w:List fQ),δ=[some (.ref f),some (.int most),some (.int great),some (.ref st.length),v4]/\st2[st.length]?=some (.lst (w.map bQ))/\(∀ s∈w,tU great s)/\w.length<=i/\bC st2 f/\Ex [f] st st2) ?_ (by rw [gO];omega) ?_ ?_)
 ·kspl_open hQ
  refine ⟨_,_,e1,?_⟩
  exact ⟨_,rfl,by omega,hQ _ _ ⟨by rw [Int.toNat_natCast],none,[],rfl,hl1,(fun s hs=>nomatch hs),Nat.le_refl _,f1,kx⟩⟩
 ·rintro i d δ st2 hd ⟨v4,w,rfl,hl2,hw,hwl,f2,k2⟩
  have hil:=iX hd
  rw [gO] at hil
  have put:∀ (s:fQ) (jC:Store),tU great s->bC jC f->jC[st.length]?=some (.lst (w.map bQ))->Ex [f] st jC->∀ v4:Option D,∃ (QP:Option D) (w':List fQ),[some (.ref f),some (.int most),some (.int great),some (.ref st.length),v4]=[some (.ref f),some (.int most),some (.int great),some (.ref st.length),QP]/\(jC.set st.length (.lst (w.map bQ ++ [bQ s])))[st.length]?=some (.lst (w'.map bQ))/\(∀ s∈w',tU great s)/\w'.length<=i + 1/\bC (jC.set st.length (.lst (w.map bQ ++ [bQ s]))) f/\Ex [f] st (jC.set st.length (.lst (w.map bQ ++ [bQ s]))):=fun s jC os f5 h5 k5 v4=>by
   refine ⟨v4,w ++ [s],rfl,?_,fun s' hs'=>?_,by rw [List.length_append];simp;omega,f5.ne (by omega),k5.loc (Nat.le_refl _)⟩
   ·rw [List.getElem?_set_self (iX h5),List.map_append];rfl
   ·rcases List.mem_append.mp hs' with h | h
    ·exact hw s' h
    ·rw [List.mem_singleton.mp h];exact os
  kspl_open hQ
  refine hQ _ _ (jP ?_)
  clear hQ
  kspl_open hQ
  refine aZ (qM (n:=2) f2 (by decide) (by decide)) ?_
  rintro d' st3 ⟨b,rfl,b0,b1,f3,k3⟩
  have hl3:=k3.keep _ _ hl2 (by simp;omega)
  w_how
  refine hQ _ _ ⟨fun _=>tG ?_,fun _=>bx (cx ?_)⟩
  ·clear hQ
   kspl_open hQ
   refine ⟨qK (by rw [ek hl3];rfl),?_⟩
   refine aZ (qM (n:=3) f3 (by decide) (by decide)) ?_
   rintro d' jJ ⟨c,rfl,c0,c1,f4,k4⟩
   have pD:=k4.keep _ _ hl3 (by simp;omega)
   set_option simprocs false in simp only [cj,mr pD]
   refine ⟨rfl,kH (by rw [List.length_map];omega),hQ _ _ ?_⟩
   exact put (false,1 + c) jJ ⟨fun _=>⟨by show 1<=1 + c;omega,by show 1 + c<=3;omega⟩,by show ((1 + c).natAbs:Int)<=great;omega,by show 1 + c≠0;omega⟩ f4 pD ((k2.trans k3).trans k4) _
  ·clear hQ
   kspl_open hQ
   refine aZ (qM (n:=great) f3 (by omega) (by omega)) ?_
   rintro d' jJ ⟨c,rfl,c0,c1,f4,k4⟩
   have pD:=k4.keep _ _ hl3 (by simp;omega)
   w_how
   refine hQ _ _ (tG ?_)
   clear hQ
   kspl_open hQ
   refine ⟨qK (by rw [ek pD];rfl),rfl,?_⟩
   refine aZ (qM (n:=2) (f4.keep (Ex.cf [O.lst [D.int (1 + c),D.int (0 - (1 + c))]])) (by decide) (by decide)) ?_
   rintro d' jC ⟨g,rfl,RU,RV,f5,k5⟩
   have QQ:jC[jJ.length]?=some (.lst [D.int (1 + c),D.int (0 - (1 + c))]):=k5.keep _ _ ko (by have:=f4.lt;simp;omega)
   have BL:jC[st.length]?=some (.lst (w.map bQ)):=k5.keep _ _ (nB pD) (by simp;omega)
   obtain ⟨sg,hsg,s1,s2⟩:∃ sg:Int,iA [D.int (1 + c),D.int (0 - (1 + c))] g=some (.int sg)/\(sg.natAbs:Int)<=great/\sg≠0:=by
    rcases (show g=0\/g=1 by omega) with rfl | rfl
    ·exact ⟨1 + c,CO _ _,by omega,by omega⟩
    ·exact ⟨0 - (1 + c),CP _ _ _,by omega,by omega⟩
   set_option simprocs false in simp only [cj,ek QQ,hsg,mr BL]
   refine ⟨rfl,kH (by rw [List.length_map];omega),hQ _ _ ?_⟩
   exact put (true,sg) jC ⟨fun z=>Bool.noConfusion (show true=false from z),s1,s2⟩ f5 BL (((k2.trans k3).trans k4).trans ((Ex.cf _).trans k5)) _
 ·rintro δ st2 ⟨v4,w,rfl,hl2,hw,hwl,f2,k2⟩
  rw [gO] at hwl
  refine dH ?_
  refine cQ ?_
  intro eX hQ
  set_option simprocs false in simp only [cj,ek hl2]
  exact hQ _ _ ⟨w,rfl,hw,by omega,f2,k2⟩
def fP (T:af.T4):D:=.tup [.int T.a,.int T.b,.int T.c,.int T.d]
def D9 (A B:af.T4):Prop:=∀ x∈[A.a,A.b,A.c,A.d],∀ y∈[B.a,B.b,B.c,B.d],cb x y=true
theorem GH {A B:af.T4} (h:A.le 18446744073709551615):D9 A B:=fun x hx y _=>by
 refine O1 ?_
 obtain ⟨h1,h2,h3,h4⟩:=h
 simp only [List.mem_cons,List.not_mem_nil,or_false] at hx
 rcases hx with rfl | rfl | rfl | rfl <;> omega
theorem GI {A B:af.T4} {M k:Nat} (hk:k<=60000000) (hM:M < P2 k) (h:A.le M) (h':B.le M):D9 A B:=fun x hx y hy=>by
 obtain ⟨h1,h2,h3,h4⟩:=h
 obtain ⟨g1,g2,g3,g4⟩:=h'
 simp only [List.mem_cons,List.not_mem_nil,or_false] at hx hy
 refine Gp hk ?_ ?_
 ·rcases hx with rfl | rfl | rfl | rfl <;> omega
 ·rcases hy with rfl | rfl | rfl | rfl <;> omega
theorem Ea {st:Store} {A B:af.T4} (h:D9 A B):Wp (oN [fP A,fP B] st) fun d st'=>d=fP (A.mul B)/\Ex [] st st':=by
 refine e7 ?_
 show Ws (Dr [some (fP A),some (fP B)] st) _ _ _ _
 unfold Dr fP
 refine dH ?_
 have hh:∀ x y:Int,x∈[A.a,A.b,A.c,A.d]->y∈[B.a,B.b,B.c,B.d]->cb x y=true:=fun x y hx hy=>h x hx y hy
 have a1:∀ y∈[B.a,B.b,B.c,B.d],cb A.a y=true:=h _ (by simp)
 have a2:∀ y∈[B.a,B.b,B.c,B.d],cb A.b y=true:=h _ (by simp)
 have a3:∀ y∈[B.a,B.b,B.c,B.d],cb A.c y=true:=h _ (by simp)
 have a4:∀ y∈[B.a,B.b,B.c,B.d],cb A.d y=true:=h _ (by simp)
 refine cQ ?_
 intro eX hQ
 set_option simprocs false in simp only [cj,CU,at2,Gh]
 exact ⟨a1 _ (by simp),a2 _ (by simp),a1 _ (by simp),a2 _ (by simp),a3 _ (by simp),a4 _ (by simp),a3 _ (by simp),a4 _ (by simp),rfl,hQ _ _ ⟨rfl,Ex.refl⟩⟩
theorem QR {st:Store} {s:fQ} (h:af.c9 s):Wp (A3 [bQ s] st) fun d st'=>d=fP (af.iR s)/\Ex [] st st':=by
 obtain ⟨b,k⟩:=s
 refine e7 ?_
 show Ws (Ds [some (bQ (b,k)),none,none] st) _ _ _ _
 unfold Ds bQ
 cases b with
 | true =>
  refine bx (jP ?_)
  kspl_open hQ
  refine hQ _ _ ⟨fun _=>dH ?_,fun h=>absurd h (by decide)⟩
  clear hQ
  kspl_open hQ
  exact ⟨rfl,hQ _ _ ⟨rfl,Ex.refl⟩⟩
 | false =>
  obtain ⟨k1,k3⟩:=h.1 rfl
  simp only at k1 k3
  obtain ⟨j,rfl⟩:∃ j:Nat,k=(j:Int):=⟨k.toNat,by omega⟩
  refine bx (jP ?_)
  kspl_open hQ
  refine hQ _ _ ⟨fun h=>absurd h (by decide),fun _=>lh (bx (cx ?_))⟩
  clear hQ
  kspl_open hQ
  refine hQ _ _ ?_
  clear hQ
  show Ws _ _ _ _ _
  refine bx (lZ (aH 0 j) (fun i δ st2=>∃ v:Option D,δ=[some (.tup [.str "t",.int (j:Int)]),some (fP (af.qp i)),v]/\Ex [] st st2) ?_ (by rw [gO];omega) ?_ ?_)
  ·kspl_open hQ
   exact ⟨by omega,hQ _ _ ⟨by rw [Int.toNat_natCast],none,rfl,Ex.refl⟩⟩
  ·rintro i d δ st2 hd ⟨v,rfl,k2⟩
   kspl_open hQ
   refine hQ _ _ (cx ?_)
   clear hQ
   kspl_open hQ
   refine aZ (Ea (A:=af.T4.qt) (B:=af.qp i) (GH ⟨by decide,by decide,by decide,by decide⟩)) ?_
   rintro d st3 ⟨rfl,k3⟩
   exact hQ _ _ ⟨_,rfl,k2.trans k3⟩
  ·rintro δ st2 ⟨v,rfl,k2⟩
   rw [gO]
   refine dH ?_
   kspl_open hQ
   refine hQ _ _ ⟨?_,k2⟩
   show fP (af.qp j)=fP (af.qp (j:Int).toNat)
   rw [Int.toNat_natCast]
theorem Kr {s:fQ} {B:Nat} (h:af.c9 s) (hs:s.2.natAbs<=B):(af.iR s).le (B + 1):=by
 have:=af.sM (T:=af.T4.one) (s:=s) (M:=1) (B:=B) ⟨by decide,by decide,by decide,by decide⟩ h hs
 rwa [af.T4.mul_one,Nat.mul_one] at this
theorem xX {T:af.T4} {M N:Nat} (h:T.le M) (hn:M<=N):T.le N:=⟨Nat.le_trans h.1 hn,Nat.le_trans h.2.1 hn,Nat.le_trans h.2.2.1 hn,Nat.le_trans h.2.2.2 hn⟩
theorem GJ {w:List fQ} {b n:Nat} (hw:∀ s∈w,af.c9 s/\s.2.natAbs + 1<=P2 b) (hn:w.length<=n):(af.aJ w).le (P2 (b * n)):=by
 have:=af.Je (B:=P2 b - 1) (n:=n) (w:=w) (fun s hs=>⟨(hw s hs).1,by have:=(hw s hs).2;omega⟩) hn
 rwa [show P2 b - 1 + 1=P2 b by have:=xn b;omega,uP] at this
theorem GK {st:Store} {w:List fQ} {b:Nat} (hb:b<=50000) (hw:∀ s∈w,af.c9 s/\s.2.natAbs + 1<=P2 b) (hl:w.length<=1000):Wp (qu [.tup (w.map bQ)] st) fun d st'=>d=fP (af.aJ w)/\Ex [] st st':=by
 refine e7 ?_
 show Ws (Du [some (.tup (w.map bQ)),none,none] st) _ _ _ _
 unfold Du
 refine bx (cx ?_)
 kspl_open hQ
 refine hQ _ _ ?_
 clear hQ
 show Ws _ _ _ _ _
 refine bx (lZ (w.map bQ) (fun i δ st2=>∃ v:Option D,δ=[some (.tup (w.map bQ)),some (fP (af.aJ (w.take i))),v]/\Ex [] st st2) ?_ (by rw [List.length_map];omega) ?_ ?_)
 ·kspl_open hQ
  exact hQ _ _ ⟨rfl,none,rfl,Ex.refl⟩
 ·rintro i d δ st2 hd ⟨v2,rfl,k2⟩
  rw [List.getElem?_map] at hd
  obtain ⟨s,hs,rfl⟩:=Option.map_eq_some_iff.mp hd
  obtain ⟨hil,es⟩:=List.getElem?_eq_some_iff.mp hs
  have hsw:=hw s (List.mem_of_getElem? hs)
  kspl_open hQ
  refine hQ _ _ (cx ?_)
  clear hQ
  kspl_open hQ
  refine aZ (QR hsw.1) ?_
  rintro d st3 ⟨rfl,k3⟩
  refine aZ (Ea (GI (M:=P2 (b * 1000)) (k:=b * 1000 + 1) (by omega) (by rw [rn];have:=xn (b * 1000);omega) (xX (Kr (B:=P2 b - 1) hsw.1 (by omega)) (by have:=xn b;have:=y4 (show b<=b * 1000 by omega);omega)) (GJ (fun s hs=>hw s (List.mem_of_mem_take hs)) (by rw [List.length_take];omega)))) ?_
  rintro d jJ ⟨rfl,k4⟩
  refine hQ _ _ ⟨some (bQ s),?_,(k2.trans k3).trans k4⟩
  rw [List.take_succ_eq_append_getElem hil,af.sL,es]
  rfl
 ·rintro δ st2 ⟨v2,rfl,k2⟩
  rw [List.length_map,List.take_length]
  refine dH ?_
  kspl_open hQ
  exact hQ _ _ ⟨rfl,k2⟩
theorem QS {st:Store} {a b:fQ}:Wp (A9 [bQ a,bQ b] st) fun d st'=>d=.tup ((af.cv a b).map bQ)/\Ex [] st st':=by
 obtain ⟨ab,ak⟩:=a
 obtain ⟨bb,bk⟩:=b
 refine e7 ?_
 show Ws (DA [some (.tup [.str (if ab then "s" else "t"),.int ak]),some (.tup [.str (if bb then "s" else "t"),.int bk]),none] st) _ _ _ _
 unfold DA
 have hj:af.cv (ab,ak) (bb,bk)=if af.gL (ab,ak) (bb,bk)=0 then [] else [(ab,af.gL (ab,ak) (bb,bk))]:=rfl
 refine bx (cx ?_)
 kspl_open hQ
 refine hQ _ _ ?_
 clear hQ
 show Ws _ _ _ _ _
 refine bx (vU (N:=fun δ st1=>st1=st/\δ=[some (.tup [.str (if ab then "s" else "t"),.int ak]),some (.tup [.str (if bb then "s" else "t"),.int bk]),some (.int (af.gL (ab,ak) (bb,bk)))]) (jP ?_) ?_)
 ·kspl_open hQ
  refine hQ _ _ ⟨fun h=>cx ?_,fun h=>lh ⟨rfl,?_⟩⟩
  ·cases ab with
   | true=>exact absurd h (by decide)
   | false =>
    clear hQ
    kspl_open hQ
    exact ⟨by decide,hQ _ _ ⟨rfl,rfl⟩⟩
  ·cases ab with
   | true=>rfl
   | false=>exact absurd h (by decide)
 ·rintro δ st1 ⟨rfl,rfl⟩
  refine bx (jP ?_)
  kspl_open hQ
  refine hQ _ _ ⟨fun h=>dH ?_,fun h=>lh (dH ?_)⟩
  ·have h:=of_decide_eq_true h
   clear hQ
   kspl_open hQ
   refine ⟨rfl,hQ _ _ ⟨?_,Ex.refl⟩⟩
   rw [hj,if_pos h];rfl
  ·have h:=of_decide_eq_false h
   clear hQ
   kspl_open hQ
   refine ⟨rfl,rfl,hQ _ _ ⟨?_,Ex.refl⟩⟩
   rw [hj,if_neg h];rfl
theorem Ks {xs:List D} {x:D}:iA (xs ++ [x]) (-1)=some x:=by
 unfold iA kU
 rw [List.length_append,if_neg (by decide),if_pos (by simp;omega)]
 simp only [Option.bind_some]
 have e:((-1:Int) + ((xs.length + [x].length:Nat):Int)).toNat=xs.length:=by simp only [List.length_singleton];omega
 rw [e];simp
theorem QT {xs:List D} {x:D}:cutD (xs ++ [x]) none (some (-1))=xs:=by
 have e1:HT.cE (xs ++ [x]).length 0 none=0:=rfl
 have e2:HT.cE (xs ++ [x]).length (xs ++ [x]).length (some (-1))=xs.length:=by
  unfold HT.cE
  simp only
  rw [if_pos (by decide),List.length_append,List.length_singleton];omega
 unfold cutD
 rw [e1,e2,List.drop_zero,Nat.sub_zero]
 simp
theorem QU (a b:Bool):(((if a=true then ("s" : Str) else "t")=(if b=true then ("s" : Str) else "t")))↔a=b:=by
 cases a <;> cases b <;> decide
theorem QV {st:Store} {w:List fQ} (hl:w.length<=1000):Wp (Bb [.tup (w.map bQ)] st) fun d st'=>d=.tup ((af.mP w).reverse.map bQ)/\Ex [] st st':=by
 refine e7 ?_
 show Ws (DB [some (.tup (w.map bQ)),none,none] st) _ _ _ _
 unfold DB
 refine bx (cx ?_)
 kspl_open hQ
 refine ⟨rfl,hQ _ _ ?_⟩
 clear hQ
 show Ws _ _ _ _ _
 refine bx (lZ (w.map bQ) (fun i δ st2=>∃ v:Option D,δ=[some (.tup (w.map bQ)),some (.tup ((af.mP (w.take i)).reverse.map bQ)),v]/\Ex [] st st2) ?_ (by rw [List.length_map];omega) ?_ ?_)
 ·kspl_open hQ
  exact hQ _ _ ⟨rfl,none,rfl,Ex.refl⟩
 ·rintro i d δ st2 hd ⟨v2,rfl,k2⟩
  rw [List.getElem?_map] at hd
  obtain ⟨s,hs,rfl⟩:=Option.map_eq_some_iff.mp hd
  obtain ⟨hil,es⟩:=List.getElem?_eq_some_iff.mp hs
  have ep:af.mP (w.take (i + 1))=af.cH (af.mP (w.take i)) s:=by rw [List.take_succ_eq_append_getElem hil,af.MU,es];rfl
  have hpl:(af.mP (w.take i)).length<=1000:=by have:=af.Jb (w.take i);rw [List.length_take] at this;omega
  rw [ep]
  clear ep
  generalize af.mP (w.take i)=l at hpl ⊢
  kspl_open hQ
  refine hQ _ _ (jP ?_)
  clear hQ
  kspl_open hQ
  cases l with
  | nil =>
   refine hQ _ _ ⟨fun h=>absurd h (by decide),fun _=>cx ?_⟩
   clear hQ
   kspl_open hQ
   exact ⟨rfl,rfl,hQ _ _ ⟨some (bQ s),rfl,k2⟩⟩
  | cons t r =>
   have eg:(t :: r).reverse.map bQ=r.reverse.map bQ ++ [bQ t]:=by simp
   rw [eg]
   have el:decide ((0:Int) < ((r.reverse.map bQ ++ [bQ t]).length:Nat))=true:=decide_eq_true (by simp)
   have es1:bQ t=.tup [.str (if t.1 then "s" else "t"),.int t.2]:=rfl
   have QW:bQ s=.tup [.str (if s.1 then "s" else "t"),.int s.2]:=rfl
   have elt:(if t.1=true then ("s" : Str) else "t")=(if s.1=true then ("s" : Str) else "t")↔t.1=s.1:=QU _ _
   set_option simprocs false in simp only [cj,Ks,es1,QW]
   rw [if_pos (by simp)]
   refine hQ _ _ ⟨fun h=>cx ?_,fun h=>cx ?_⟩
   ·have h:=elt.mp (of_decide_eq_true h)
    clear hQ
    kspl_open hQ
    rw [eg,QT]
    set_option simprocs false in simp only [cj,Ks]
    refine aZ QS ?_
    rintro d st3 ⟨rfl,k3⟩
    w_how
    refine ⟨kH ?_,hQ _ _ ⟨some (bQ s),?_,k2.trans k3⟩⟩
    ·have:(af.cv t s).length<=1:=by unfold af.cv;split <;> simp
     simp only [List.length_map,List.length_reverse]
     simp only [List.length_cons] at hpl
     omega
    ·have ej:(af.cv t s).reverse=af.cv t s:=by unfold af.cv;split <;> rfl
     rw [af.rC,if_pos h,List.reverse_append,List.map_append,ej]
     rfl
   ·have h:=fun e=>of_decide_eq_false h (elt.mpr e)
    clear hQ
    kspl_open hQ
    refine ⟨rfl,kH ?_,hQ _ _ ⟨some (bQ s),?_,k2⟩⟩
    ·simp only [List.length_map,List.length_reverse,List.length_singleton]
     omega
    ·have e2:(s :: t :: r).reverse.map bQ=(t :: r).reverse.map bQ ++ [bQ s]:=by simp
     rw [af.rC,if_neg h,e2]
     rfl
 ·rintro δ st2 ⟨v2,rfl,k2⟩
  rw [List.length_map,List.take_length]
  refine dH ?_
  kspl_open hQ
  exact hQ _ _ ⟨rfl,k2⟩
theorem QX {st:Store} {v w:List fQ} (hl:v.length + w.length<=1000):Wp (Be [.tup (v.map bQ),.tup (w.map bQ)] st) fun d st'=>d=.tup ((af.mP (v ++ w)).reverse.map bQ)/\Ex [] st st':=by
 refine e7 ?_
 show Ws (DC [some (.tup (v.map bQ)),some (.tup (w.map bQ))] st) _ _ _ _
 unfold DC
 refine dH ?_
 kspl_open hQ
 refine ⟨kH (by simp only [List.length_map];omega),?_⟩
 rw [<- List.map_append]
 refine aZ (QV (by rw [List.length_append];exact hl)) ?_
 rintro d st3 ⟨rfl,k3⟩
 exact hQ _ _ ⟨rfl,k3⟩
theorem QY {st:Store} {s:fQ}:Wp (Bk [bQ s] st) fun d st'=>d=bQ (af.kW s)/\Ex [] st st':=by
 obtain ⟨b,k⟩:=s
 refine e7 ?_
 show Ws (DG [some (.tup [.str (if b then "s" else "t"),.int k])] st) _ _ _ _
 unfold DG
 refine bx (jP ?_)
 cases b with
 | true =>
  kspl_open hQ
  refine hQ _ _ ⟨fun _=>dH ?_,fun h=>absurd h (by decide)⟩
  clear hQ
  kspl_open hQ
  exact ⟨rfl,hQ _ _ ⟨rfl,Ex.refl⟩⟩
 | false =>
  kspl_open hQ
  refine hQ _ _ ⟨fun h=>absurd h (by decide),fun _=>lh (dH ?_)⟩
  clear hQ
  kspl_open hQ
  exact ⟨rfl,hQ _ _ ⟨rfl,Ex.refl⟩⟩
theorem QZ {st:Store} {w:List fQ} (hl:w.length<=1000):Wp (Bm [.tup (w.map bQ)] st) fun d st'=>d=.tup ((af.gM w).map bQ)/\Ex [] st st':=by
 refine e7 ?_
 show Ws (DH [some (.tup (w.map bQ))] st) _ _ _ _
 unfold DH
 refine dH ?_
 kspl_open hQ
 refine OQ (w.reverse.map bQ) (fun i y=>∃ s,w.reverse[i]?=some s/\y=bQ (af.kW s)) (Ex [] st) ?_ (by rw [List.length_map,List.length_reverse];omega) ?_ ?_
 ·refine cQ ?_
  intro jE cz
  set_option simprocs false in simp only [cj,OS]
  refine ⟨_,rfl,cz _ _ ⟨fun i st2 hi _=>?_,Ex.refl⟩⟩
  rw [<- List.map_reverse]
  exact tJ _ st2 i st2 hi Ex.refl
 ·intro i d hd st1 k1
  rw [List.getElem?_map] at hd
  obtain ⟨s,hs,rfl⟩:=Option.map_eq_some_iff.mp hd
  kspl_open cz
  refine aZ QY ?_
  rintro d st3 ⟨rfl,k3⟩
  exact cz _ _ ⟨⟨s,hs,rfl⟩,k1.trans k3⟩
 ·intro ys st' k' hy h
  w_how
  refine hQ _ _ ⟨?_,k'.app _⟩
  congr 1
  refine List.ext_getElem? fun i=>?_
  rw [List.length_map,List.length_reverse] at hy
  have eb:af.gM w=w.reverse.map af.kW:=by unfold af.gM;rw [List.map_reverse]
  rw [eb,List.getElem?_map,List.getElem?_map]
  rcases Nat.lt_or_ge i ys.length with hi | hi
  ·obtain ⟨s,hs,e⟩:=h i ys[i] (List.getElem?_eq_getElem hi)
   rw [hs,List.getElem?_eq_getElem hi,e];rfl
  ·rw [List.getElem?_eq_none hi,List.getElem?_eq_none (by rw [List.length_reverse];omega)];rfl
theorem Kt {st:Store} {A B:af.T4} (h:D9 A B):Wp (Br [fP A,fP B] st) fun d st'=>d=fP (A.mul B)/\Ex [] st st':=by
 refine e7 ?_
 show Ws (DN [some (fP A),some (fP B),none,none,none,none,none,none,none,none] st) _ _ _ _
 unfold DN fP
 have a1:∀ y∈[B.a,B.b,B.c,B.d],cb A.a y=true:=h _ (by simp)
 have a2:∀ y∈[B.a,B.b,B.c,B.d],cb A.b y=true:=h _ (by simp)
 have a3:∀ y∈[B.a,B.b,B.c,B.d],cb A.c y=true:=h _ (by simp)
 have a4:∀ y∈[B.a,B.b,B.c,B.d],cb A.d y=true:=h _ (by simp)
 refine bx (qj ?_)
 kspl_open hQ
 refine hQ _ _ ?_
 clear hQ
 kspl_open hQ
 refine ⟨rfl,hQ _ _ (bx (qj ?_))⟩
 clear hQ
 kspl_open hQ
 refine hQ _ _ ?_
 clear hQ
 kspl_open hQ
 refine ⟨rfl,hQ _ _ (dH ?_)⟩
 clear hQ
 refine cQ ?_
 intro eX hQ
 set_option simprocs false in simp only [cj,CU]
 exact ⟨a1 _ (by simp),a2 _ (by simp),a1 _ (by simp),a2 _ (by simp),a3 _ (by simp),a4 _ (by simp),a3 _ (by simp),a4 _ (by simp),rfl,hQ _ _ ⟨rfl,Ex.refl⟩⟩
theorem BO {st:Store} {w:List fQ} (hw:∀ s∈w,af.c9 s/\s.2.natAbs<=1000000) (hl:w.length<=1000):Wp (oP [.tup (w.map bQ)] st) fun d st'=>d=fP (af.aJ w)/\Ex [] st st':=by
 refine e7 ?_
 show Ws (DO [some (.tup (w.map bQ)),none,none,none,none] st) _ _ _ _
 unfold DO
 refine bx (cx ?_)
 kspl_open hQ
 refine ⟨rfl,hQ _ _ ?_⟩
 clear hQ
 show Ws _ _ _ _ _
 refine bx (lZ (w.map bQ) (fun i δ st2=>∃ v1 v2 v3:Option D,δ=[some (.tup (w.map bQ)),some (fP (af.aJ (w.take i))),v1,v2,v3]/\Ex [] st st2) ?_ (by rw [List.length_map];omega) ?_ ?_)
 ·kspl_open hQ
  exact hQ _ _ ⟨rfl,none,none,none,rfl,Ex.refl⟩
 ·rintro i d δ st2 hd ⟨v1,v2,v3,rfl,k2⟩
  rw [List.getElem?_map] at hd
  obtain ⟨s,hs,rfl⟩:=Option.map_eq_some_iff.mp hd
  obtain ⟨hil,es⟩:=List.getElem?_eq_some_iff.mp hs
  obtain ⟨hp,hb⟩:=hw s (List.mem_of_getElem? hs)
  have en:af.aJ (w.take (i + 1))=(af.iR s).mul (af.aJ (w.take i)):=by rw [List.take_succ_eq_append_getElem hil,af.sL,es]
  rw [en]
  clear en
  generalize af.aJ (w.take i)=T
  obtain ⟨b,k⟩:=s
  have es1:bQ (b,k)=.tup [.str (if b then "s" else "t"),.int k]:=rfl
  rw [es1]
  kspl_open hQ
  refine ⟨rfl,hQ _ _ ?_⟩
  clear hQ
  show Ws _ _ _ _ _
  cases b with
  | true =>
   refine lZ (aH 0 1) (fun i δ st3=>∃ v3:Option D,δ=[some (.tup (w.map bQ)),some (fP (if i=0 then T else (af.iR (true,k)).mul T)),some (.str "s"),some (.int k),v3]/\Ex [] st st3) ?_ (by rw [gO];omega) ?_ ?_
   ·kspl_open hQ
    refine ⟨rfl,.int 1,by rw [if_neg (by decide)];exact CO _ _,_,rfl,?_⟩
    exact ⟨by decide,hQ _ _ ⟨rfl,_,rfl,k2.trans (Ex.cf _)⟩⟩
   ·rintro i d δ st3 hd ⟨w3,rfl,k3⟩
    have hi0:i=0:=by have:=iX hd;rw [gO] at this;omega
    subst hi0
    kspl_open hQ
    refine hQ _ _ (cx ?_)
    clear hQ
    kspl_open hQ
    refine ⟨rfl,rfl,rfl,fP (af.iR (true,k)),by rw [if_neg (by decide)];exact CO _ _,?_⟩
    refine aZ (Kt (A:=af.iR (true,k)) (B:=T) (GH (xX (Kr hp hb) (by decide)))) ?_
    rintro d jJ ⟨rfl,k4⟩
    exact hQ _ _ ⟨_,rfl,(k3.trans (Ex.cf _)).trans k4⟩
   ·rintro δ st3 ⟨w3,rfl,k3⟩
    exact ⟨_,_,_,rfl,k3⟩
  | false =>
   obtain ⟨j1,j3⟩:=hp.1 rfl
   simp only at j1 j3
   obtain ⟨j,rfl⟩:∃ j:Nat,k=(j:Int):=⟨k.toNat,by omega⟩
   refine lZ (aH 0 j) (fun i δ st3=>∃ v3:Option D,δ=[some (.tup (w.map bQ)),some (fP ((af.qp i).mul T)),some (.str "t"),some (.int (j:Int)),v3]/\Ex [] st st3) ?_ (by rw [gO];omega) ?_ ?_
   ·kspl_open hQ
    refine ⟨rfl,.int (j:Int),by rw [if_pos (by decide)];exact CP _ _ _,_,rfl,?_⟩
    refine ⟨by omega,hQ _ _ ⟨by rw [Int.toNat_natCast],v3,?_,k2.trans (Ex.cf _)⟩⟩
    rw [show (af.qp 0).mul T=T from af.T4.one_mul T]
    rfl
   ·rintro i d δ st3 hd ⟨w3,rfl,k3⟩
    kspl_open hQ
    refine hQ _ _ (cx ?_)
    clear hQ
    kspl_open hQ
    refine ⟨rfl,rfl,rfl,fP af.T4.qt,by rw [if_pos (by decide)];exact CP _ _ _,?_⟩
    refine aZ (Kt (A:=af.T4.qt) (B:=(af.qp i).mul T) (GH ⟨by decide,by decide,by decide,by decide⟩)) ?_
    rintro d' jJ ⟨rfl,k4⟩
    refine hQ _ _ ⟨some d,?_,(k3.trans (Ex.cf _)).trans k4⟩
    rw [show (af.qp (i + 1)).mul T=af.T4.qt.mul ((af.qp i).mul T) from af.T4.assoc _ _ _]
    rfl
   ·rintro δ st3 ⟨w3,rfl,k3⟩
    rw [gO]
    exact ⟨_,_,_,rfl,k3⟩
 ·rintro δ st2 ⟨v1,v2,v3,rfl,k2⟩
  rw [List.length_map,List.take_length]
  refine dH ?_
  kspl_open hQ
  exact hQ _ _ ⟨rfl,k2⟩
theorem Q0 {st:Store} {T:af.T4}:Wp (BB [fP T] st) fun d st'=>d=fP T.oZ/\Ex [] st st':=by
 refine e7 ?_
 show Ws (DW [some (fP T)] st) _ _ _ _
 unfold DW fP
 refine dH ?_
 refine cQ ?_
 intro eX hQ
 set_option simprocs false in simp only [cj,at2,Gh]
 exact ⟨rfl,hQ _ _ ⟨rfl,Ex.refl⟩⟩
theorem Q5 {st:Store} {x y:Int} (hy:y≠0) (hb:y.natAbs < P2 100):Wp (A5 [.int x,.int y] st) fun d st'=>d=.int (af.nr x y)/\Ex [] st st':=by
 have hl:(2 * y).natAbs.log2 < 9000:=by
  have h1:(2 * y).natAbs < 2 ^ 101:=by
   have e:P2 101=2 * P2 100:=rn 100
   show _ < P2 101
   omega
  have:=(Nat.log2_lt (n:=(2 * y).natAbs) (k:=101) (by omega)).mpr h1
  omega
 refine e7 ?_
 show Ws (Dy [some (.int x),some (.int y)] st) _ _ _ _
 unfold Dy
 refine dH ?_
 refine cQ ?_
 intro eX hQ
 set_option simprocs false in simp only [cj,O0]
 exact ⟨.inl (by decide),.inl (by decide),⟨by omega,hl⟩,hQ _ _ ⟨rfl,Ex.refl⟩⟩
theorem GL {st:Store} {k:Int}:Wp (qL [.int k] st) fun d st'=>d=.tup ((af.o3 k).map bQ)/\Ex [] st st':=by
 refine e7 ?_
 show Ws (Dq [some (.int k)] st) _ _ _ _
 unfold Dq
 refine bx (jP ?_)
 kspl_open hQ
 refine hQ _ _ ⟨fun h=>dH ?_,fun h=>lh (dH ?_)⟩
 ·have h:k=0:=of_decide_eq_true h
  clear hQ
  kspl_open hQ
  refine ⟨rfl,hQ _ _ ⟨?_,Ex.refl⟩⟩
  unfold af.o3
  rw [if_pos h];rfl
 ·have h:¬ k=0:=of_decide_eq_false h
  clear hQ
  kspl_open hQ
  refine ⟨rfl,rfl,hQ _ _ ⟨?_,Ex.refl⟩⟩
  unfold af.o3
  rw [if_neg h];rfl
theorem Q6 {st:Store} {T:af.T4} {x y:Int} (hT:T.le (P2 102)) (hx:x.natAbs<=P2 102) (hy:y.natAbs<=P2 102):Wp (A1 [fP T,.tup [.int x,.int y]] st) fun d st'=>d=.tup [.int (T.a * x + T.b * y),.int (T.c * x + T.d * y)]/\Ex [] st st':=by
 have ok:∀ i j:Int,i.natAbs<=P2 102->j.natAbs<=P2 102->cb i j=true:=fun i j hi hj=>by
  have e:P2 103=2 * P2 102:=rn 102
  have:=xn 102
  exact Gp (k:=103) (by decide) (by omega) (by omega)
 obtain ⟨h1,h2,h3,h4⟩:=hT
 refine e7 ?_
 show Ws (Dp [some (fP T),some (.tup [.int x,.int y])] st) _ _ _ _
 unfold Dp fP
 refine dH ?_
 refine cQ ?_
 intro eX hQ
 set_option simprocs false in simp only [cj,CU,at2,Gh]
 exact ⟨ok _ _ h1 hx,ok _ _ h2 hy,ok _ _ h3 hx,ok _ _ h4 hy,rfl,hQ _ _ ⟨rfl,Ex.refl⟩⟩
theorem wR {st:Store} {Q:D->Store->Prop} {x y:Int}:Wp (aL (.tup [.int x,.int y]) (.int 0) st) Q↔Q (.int x) st:=bB
theorem Ku {st:Store} {Q:D->Store->Prop} {x y:Int}:Wp (aL (.tup [.int x,.int y]) (.int 1) st) Q↔Q (.int y) st:=bB
theorem oe {M k:Nat} (hM:M < 2 ^ k) (hk:k<=100):M < P2 100/\P2 101=2 * P2 100/\P2 102=2 * P2 101/\100 < P2 100:=⟨Nat.lt_of_lt_of_le hM (Nat.pow_le_pow_right (n:=2) (by decide) hk),rn 100,rn 101,II 100⟩
theorem Q7 {st:Store} {x y:Int} {M k:Nat} (hM:M < 2 ^ k) (hk:k<=100) (hx:x.natAbs<=M) (hy:y.natAbs<=M):Wp (A7 [.tup [.int x,.int y]] st) fun d st'=>∃ g:List fQ,d=.tup (g.map bQ)/\(∀ s∈g,af.c9 s/\s.2.natAbs<=M + 1)/\g.length<=2 * k/\(af.aJ g).c * x + (af.aJ g).d * y=0/\Ex [] st st':=by
 refine e7 ?_
 show Ws (Dz [some (.tup [.int x,.int y]),none,none,none] st) _ _ _ _
 unfold Dz
 refine bx (cx ?_)
 refine cQ ?_
 intro eX hQ
 w_how
 refine ⟨rfl,?_⟩
 refine hQ _ _ (bx (cx ?_))
 clear hQ
 refine cQ ?_
 intro eX hQ
 w_how
 refine hQ _ _ (bx (xF (fun m δ s=>∃ (g:List fQ) (u v:Int) (r:Nat) (v3:Option D),m=k + 1 - r/\r<=k/\δ=[some (.tup [.int x,.int y]),some (.tup (g.map bQ)),some (.tup [.int u,.int v]),v3]/\af.Dv M x y g u v r/\Ex [] st s) (k + 1) (by show k + 1 < 1000000;omega) ⟨[],x,y,0,none,rfl,Nat.zero_le _,rfl,af.Dv.zero hx hy,Ex.refl⟩ ?_))
 clear hQ
 rintro m δ s ⟨g,u,v,r,v3,rfl,hr,rfl,dv,k1⟩
 have RW:=dv.ub
 obtain ⟨GN,Kv,Kw,Kx⟩:=oe hM hk
 have RX:v.natAbs<=M:=Nat.le_trans (Nat.le_mul_of_pos_right _ (Nat.one_le_two_pow)) dv.vb
 refine cQ ?_
 intro eX hQ
 set_option simprocs false in simp only [cj,Ku]
 refine hQ _ _ ⟨fun hc=>?_,fun hc=>?_⟩
 ·have hv:v≠0:=by simpa using hc
  have few:=dv.few (k:=k) hv hM
  have Q8:=dv.step hv
  refine bx (cx ?_)
  clear hQ
  refine cQ ?_
  intro eX hQ
  set_option simprocs false in simp only [cj,wR,Ku]
  refine aZ (Q5 hv (by omega)) ?_
  rintro d s1 ⟨rfl,k2⟩
  w_how
  refine aZ (GL) ?_
  rintro d s2 ⟨rfl,k3⟩
  w_how
  have hsl:=af.zz (-(af.nr u v))
  refine ⟨rfl,rfl,kH (by rw [List.length_map];show _ + 1<=_;omega),?_⟩
  have e1:((af.o3 (-(af.nr u v))).map bQ ++ [D.tup [D.str "t",D.int 1]])=(af.ph u v).map bQ:=by
   unfold af.ph
   rw [List.map_append];rfl
  rw [e1]
  have Fs:=af.Ju (x:=u) hv
  refine hQ _ _ (bx (cx ?_))
  clear hQ
  refine cQ ?_
  intro eX hQ
  w_how
  refine aZ (GK (b:=102) (w:=af.ph u v) (by decide) (fun s hs=>⟨(Fs s hs).1,by have:=(Fs s hs).2;omega⟩) (by have:=af.FJ u v;omega)) ?_
  rintro d s3 ⟨rfl,k4⟩
  have hnr:=af.Jt (x:=u) hv
  refine aZ (Q6 (T:=af.aJ (af.ph u v)) (x:=u) (y:=v) (by rw [af.FI];exact ⟨by show (0:Int).natAbs<=_;omega,by show (-1:Int).natAbs<=_;omega,by show (1:Int).natAbs<=_;omega,by show (-(af.nr u v)).natAbs<=_;omega⟩) (by omega) (by omega)) ?_
  rintro d s4 ⟨rfl,k5⟩
  rw [af.FI]
  have e2:∀ q:Int,D.tup [.int ((0:Int) * u + -1 * v),.int (1 * u + -q * v)]=.tup [.int (-v),.int (u - q * v)]:=fun q=>by
   have a1:(0:Int) * u + -1 * v=-v:=by omega
   have a2:1 * u + -q * v=u - q * v:=by rw [Int.neg_mul];omega
   rw [a1,a2]
  show eX (D.tup [.int ((0:Int) * u + -1 * v),.int (1 * u + -(af.nr u v) * v)]) s4
  rw [e2]
  refine hQ _ _ (cx ?_)
  clear hQ
  refine cQ ?_
  intro eX hQ
  w_how
  have GO:=dv.ln
  have hdl:=af.FJ u v
  refine ⟨kH (by rw [List.length_map,List.length_map];omega),hQ _ _ ⟨k + 1 - (r + 1),by omega,g ++ af.ph u v,_,_,r + 1,_,rfl,by omega,by rw [List.map_append];rfl,Q8,(((k1.trans k2).trans k3).trans k4).trans k5⟩⟩
 ·have hv:v=0:=by simpa using hc
  refine dH ?_
  clear hQ
  refine cQ ?_
  intro eX hQ
  w_how
  exact hQ _ _ ⟨g,rfl,dv.pr,by have:=dv.ln;omega,by rw [<- dv.vc];exact hv,k1⟩
theorem GP {st:Store} {Q:D->Store->Prop} {T:af.T4}:Wp (aL (fP T) (.int 0) st) Q↔Q (.int T.a) st:=bB
theorem GQ {st:Store} {Q:D->Store->Prop} {T:af.T4}:Wp (aL (fP T) (.int 1) st) Q↔Q (.int T.b) st:=bB
theorem Ky {st:Store} {Q:D->Store->Prop} {T:af.T4}:Wp (aL (fP T) (.int 2) st) Q↔Q (.int T.c) st:=bB
theorem wU {st:Store} {Q:D->Store->Prop} {T:af.T4}:Wp (aL (fP T) (.int 3) st) Q↔Q (.int T.d) st:=bB
theorem Q9 {st:Store} {T:af.T4} (hl:T.le (P2 100)):Wp (Bg [fP T] st) fun d st'=>d=.bl (decide (T.a * T.d - T.b * T.c=1))/\Ex [] st st':=by
 have ok:∀ i j:Int,i.natAbs<=P2 100->j.natAbs<=P2 100->cb i j=true:=fun i j hi hj=>by
  have e:P2 101=2 * P2 100:=rn 100
  have:=xn 100
  exact Gp (k:=101) (by decide) (by omega) (by omega)
 refine e7 ?_
 show Ws (DE [some (fP T)] st) _ _ _ _
 unfold DE
 refine dH ?_
 have hs:dc st (fP T)=some [.int T.a,.int T.b,.int T.c,.int T.d]:=rfl
 refine cQ ?_
 intro eX hQ
 set_option simprocs false in simp only [cj,hs,CU,GP,GQ,Ky,wU]
 obtain ⟨h1,h2,h3,h4⟩:=hl
 rw [if_pos (show decide ((([D.int T.a,D.int T.b,D.int T.c,D.int T.d]:List D).length:Int)=4)=true from rfl)]
 exact ⟨ok _ _ h1 h4,ok _ _ h2 h3,hQ _ _ ⟨rfl,Ex.refl⟩⟩
theorem Ra {st:Store} {A:af.T4}:Wp (Bi [fP A] st) fun d st'=>d=.tup ((af.mQ A).map bQ)/\Ex [] st st':=by
 refine e7 ?_
 show Ws (DF [some (fP A)] st) _ _ _ _
 unfold DF
 refine bx (jP ?_)
 refine cQ ?_
 intro eX hQ
 set_option simprocs false in simp only [cj,GP]
 refine hQ _ _ ⟨fun h=>dH ?_,fun h=>lh (dH ?_)⟩
 ·have h:A.a=1:=of_decide_eq_true h
  clear hQ
  refine cQ ?_
  intro eX hQ
  set_option simprocs false in simp only [cj,GQ]
  refine aZ (GL) ?_
  rintro d s1 ⟨rfl,k1⟩
  refine hQ _ _ ⟨?_,k1⟩
  unfold af.mQ
  rw [if_pos h]
 ·have h:¬ A.a=1:=of_decide_eq_false h
  clear hQ
  refine cQ ?_
  intro eX hQ
  set_option simprocs false in simp only [cj,GQ]
  refine ⟨rfl,rfl,?_⟩
  refine aZ (GL) ?_
  rintro d s1 ⟨rfl,k1⟩
  w_how
  have:=af.zz (-A.b)
  refine ⟨kH (by rw [List.length_map];show 1 + _<=_;omega),hQ _ _ ⟨?_,k1⟩⟩
  unfold af.mQ
  rw [if_neg h]
  rfl
theorem Rb {T:af.T4} {g:List fQ} {M k:Nat} (hM:M < 2 ^ k) (hk:k<=100) (hl:T.le M) (hg:∀ s∈g,af.c9 s/\s.2.natAbs<=M + 1) (GO:g.length<=2 * k):∀ s∈af.mP (af.mQ ((af.aJ g).mul T) ++ af.gM g),s.2.natAbs + 1<=P2 20400:=by
 obtain ⟨GN,Kv,Kw,Kx⟩:=oe hM hk
 have Rc:M + 2<=P2 101:=by omega
 have hgt:=GJ (w:=g) (b:=101) (n:=200) (fun s hs=>⟨(hg s hs).1,by have:=(hg s hs).2;omega⟩) (by omega)
 have BP:∀ x y:Int,x.natAbs<=P2 (101 * 200)->y.natAbs<=M->(x * y).natAbs<=P2 20301:=fun x y hx hy=>by
  rw [Int.natAbs_mul]
  refine Nat.le_trans (Nat.mul_le_mul hx (Nat.le_trans hy (Nat.le_trans (Nat.le_add_right M 2) Rc))) ?_
  rw [IH]
  exact y4 (by decide)
 have hA:((af.aJ g).mul T).b.natAbs<=P2 20302:=by
  have e:((af.aJ g).mul T).b=(af.aJ g).a * T.b + (af.aJ g).b * T.d:=rfl
  have h1:=BP _ _ hgt.1 hl.2.1
  have h2:=BP _ _ hgt.2.1 hl.2.2.2
  have h3:P2 20302=2 * P2 20301:=rn 20301
  rw [e]
  omega
 have GR:P2 101<=P2 20302:=y4 (by decide)
 have h7:20302 < P2 20302:=II 20302
 generalize hB:P2 20302=B at hA GR h7
 have hv:∀ s∈af.mQ ((af.aJ g).mul T),af.c9 s/\s.2.natAbs<=B:=fun s hs=>by
  refine ⟨af.Jv _ s hs,?_⟩
  unfold af.mQ at hs
  split at hs
  ·rw [(af.zy s hs).2];exact hA
  ·rcases List.mem_cons.mp hs with rfl | hs
   ·show (2:Int).natAbs<=B;omega
   ·rw [(af.zy s hs).2,Int.natAbs_neg];exact hA
 have hb:∀ s∈af.gM g,af.c9 s/\s.2.natAbs<=B:=fun s hs=>by
  refine ⟨af.xu (fun s hs=>(hg s hs).1) s hs,?_⟩
  unfold af.gM at hs
  obtain ⟨t,ht,rfl⟩:=List.mem_map.mp (List.mem_reverse.mp hs)
  obtain ⟨h1,h2⟩:=hg t ht
  obtain ⟨b,k⟩:=t
  cases b with
  | true=>show (-k).natAbs<=B;simp only at h2;omega
  | false=>have:=h1.1 rfl;simp only at this;show (4 - k).natAbs<=B;omega
 intro s hs
 have hq:=af.uV (B:=B) (w:=af.mQ ((af.aJ g).mul T) ++ af.gM g) (fun s hs=>by
  rcases List.mem_append.mp hs with h | h
  ·exact hv s h
  ·exact hb s h) s hs
 have hlen:(af.mQ ((af.aJ g).mul T) ++ af.gM g).length<=256:=by
  rw [List.length_append]
  have h1:=af.Jw ((af.aJ g).mul T)
  have h2:(af.gM g).length=g.length:=by unfold af.gM;rw [List.length_reverse,List.length_map]
  omega
 have h3:s.2.natAbs<=256 * B:=Nat.le_trans hq (Nat.mul_le_mul_right _ hlen)
 have h4:P2 20310=256 * B:=by
  have:=IH 8 20302
  rw [hB] at this
  rw [show (20310:Nat)=8 + 20302 from rfl,<- this]
  rfl
 have h5:P2 20311=2 * P2 20310:=rn 20310
 have h6:P2 20311<=P2 20400:=y4 (by decide)
 omega
theorem Kz {st:Store} {T:af.T4} {M k:Nat} (hM:M < 2 ^ k) (hk:k<=100) (hl:T.le M) (hd:T.a * T.d - T.b * T.c=1):Wp (tQ [fP T] st) fun d st'=>∃ w:List fQ,d=.tup (w.map bQ)/\(∀ s∈w,af.c9 s/\s.2.natAbs + 1<=P2 20400)/\w.length<=2 * k + 2/\af.aJ w=T/\Ex [] st st':=by
 refine e7 ?_
 show Ws (DI [some (fP T),none] st) _ _ _ _
 unfold DI
 refine bx (jP ?_)
 kspl_open hQ
 obtain ⟨GN,Kv,Kw,Kx⟩:=oe hM hk
 refine aZ (Q9 (xX hl (by omega))) ?_
 rintro d s1 ⟨rfl,k1⟩
 refine ⟨_,rfl,?_⟩
 refine hQ _ _ ⟨fun h=>absurd h (by simp [hd]),fun _=>lh (bx (cx ?_))⟩
 clear hQ
 refine cQ ?_
 intro eX hQ
 set_option simprocs false in simp only [cj,GP,Ky]
 refine ⟨rfl,?_⟩
 refine aZ (Q7 hM hk hl.1 hl.2.2.1) ?_
 rintro d s2 ⟨g,rfl,hg,GO,h0,k2⟩
 refine hQ _ _ (dH ?_)
 clear hQ
 kspl_open hQ
 have Rf:∀ s∈g,af.c9 s:=fun s hs=>(hg s hs).1
 have KA:∀ s∈g,af.c9 s/\s.2.natAbs + 1<=P2 101:=fun s hs=>⟨(hg s hs).1,by have:=(hg s hs).2;omega⟩
 refine aZ (GK (b:=101) (w:=g) (by decide) KA (by omega)) ?_
 rintro d s3 ⟨rfl,k3⟩
 have hgt:=GJ (n:=200) KA (by omega)
 refine aZ (Ea (GI (k:=101 * 200 + 1) (M:=P2 (101 * 200)) (by decide) (by have:=xn (101 * 200);have:=rn (101 * 200);omega) hgt (xX hl (Nat.le_trans (Nat.le_of_lt GN) (y4 (by decide)))))) ?_
 rintro d s4 ⟨rfl,k4⟩
 refine aZ (Ra) ?_
 rintro d s5 ⟨rfl,k5⟩
 refine aZ (QZ (w:=g) (by omega)) ?_
 rintro d s6 ⟨rfl,k6⟩
 have tR:=af.Jw ((af.aJ g).mul T)
 have qO:(af.gM g).length=g.length:=by unfold af.gM;rw [List.length_reverse,List.length_map]
 refine aZ (QX (v:=af.mQ ((af.aJ g).mul T)) (w:=af.gM g) (by omega)) ?_
 rintro d s7 ⟨rfl,k7⟩
 obtain ⟨e1,e2⟩:=af.Nm hd Rf h0
 refine hQ _ _ ⟨_,rfl,fun s hs=>⟨e2 s hs,Rb hM hk hl hg GO s (List.mem_reverse.mp hs)⟩,?_,e1,(((((k1.trans k2).trans k3).trans k4).trans k5).trans k6).trans k7⟩
 rw [List.length_reverse]
 have:=af.Jb (af.mQ ((af.aJ g).mul T) ++ af.gM g)
 rw [List.length_append] at this
 omega
theorem Rg {st:Store} {xs ys:List Int} {n:Nat} {s:Int} (fl:lj n xs ys) (hn:n<=100) (s0:0<=s) (s1:s < (n:Int)):Wp (AF [bZ xs ys,.int s] st) fun d st'=>d=.tup ((af.inv (af.bf xs ys s n)).map D.int)/\Ex [] st st':=by
 obtain ⟨tx,ty,all⟩:=fl
 refine e7 ?_
 show Ws (C8 [some (bZ xs ys),some (.int s)] st) _ _ _ _
 unfold C8
 refine dH ?_
 kspl_open hQ
 refine aZ (Qw tx ty hn s0 s1) ?_
 rintro d st1 ⟨rfl,k1⟩
 refine aZ (Gx (af.Cr tx ty s0 s1 all) hn) ?_
 rintro d st2 ⟨rfl,k2⟩
 exact hQ _ _ ⟨rfl,k1.trans k2⟩
def wV (xs ys:List Int) (s:Int) (n:Nat):D:=bZ (af.num xs (af.bf xs ys s n)) (af.num ys (af.bf xs ys s n))
theorem Rh {st:Store} {xs ys:List Int} {n:Nat} {s:Int} (fl:lj n xs ys) (hn:n<=100) (s0:0<=s) (s1:s < (n:Int)):Wp (AH [bZ xs ys,.int s] st) fun d st'=>d=wV xs ys s n/\Ex [] st st':=by
 have Ri:=fl
 obtain ⟨tx,ty,all⟩:=fl
 have tb:=af.Cr tx ty s0 s1 all
 refine e7 ?_
 show Ws (C9 [some (bZ xs ys),some (.int s)] st) _ _ _ _
 unfold C9
 refine dH ?_
 kspl_open hQ
 refine aZ (Rg Ri hn s0 s1) ?_
 rintro d st1 ⟨rfl,k1⟩
 refine aZ (Qv tx ty tb.aw hn) ?_
 rintro d st2 ⟨rfl,k2⟩
 rw [af.Cs tx tb,af.Cs ty tb]
 exact hQ _ _ ⟨rfl,k1.trans k2⟩
theorem Rj {st:Store} {xs ys:List Int} {n:Nat} {s:Int} (fl:lj n xs ys) (hn:n<=100) (s0:0<=s) (s1:s < (n:Int)):Wp (Bt [bZ xs ys,.int s] st) fun d st'=>d=wV xs ys s n/\Ex [] st st':=by
 obtain ⟨tx,ty,all⟩:=fl
 have hlx:=tx.length
 have xW:=ty.length
 refine e7 ?_
 show Ws (DP [some (bZ xs ys),some (.int s),none,none,none] st) _ _ _ _
 unfold DP
 refine bx (cx ?_)
 kspl_open hQ
 refine ⟨rfl,hQ _ _ (bx (JK ((af.upto n).map D.int) (st.length + 2) (fun k δ st2=>∃ (v3 v4:Option D),δ=[some (bZ xs ys),some (.int s),some (.ref st.length),v3,v4]/\st2[st.length]?=some (.lst ((af.bf xs ys s k).map D.int))/\st2[st.length + 2]?=some (.lst ((af.upto n).map D.int))/\Ex [] st st2) ?_ ?_ ?_ ?_ ?_))⟩
 ·clear hQ
  unfold bZ
  kspl_open hQ
  rw [List.length_map,hlx,show ((n:Int) - 0).toNat=n by omega,o7]
  have e:(st ++ [O.lst [D.int s]] ++ [O.iJ 0 (n:Int)]).length=st.length + 2:=by simp
  rw [e]
  exact ⟨rM (by omega),hQ _ _ ⟨rfl,none,none,rfl,nB (nB ko),by rw [<- e];exact ko,((Ex.cf _).app _).app _⟩⟩
 ·rw [List.length_map,af.nH];omega
 ·rintro k δ st2 ⟨_,_,_,_,h,_⟩
  exact ek h
 ·rintro k d δ st2 hd ⟨v3,v4,rfl,hl,hr,k2⟩
  obtain ⟨x',hx',rfl⟩:=An hd
  have hkn:=iX hx'
  rw [af.nH] at hkn
  rw [af.y8 hkn] at hx'
  cases hx'
  have qO:=af.zb tx ty s0 s1 k
  have hb1:=af.zb tx ty s0 s1 (k + 1)
  clear hQ
  kspl_open hQ
  refine hQ _ _ ?_
  clear hQ
  by_cases mL:k < (af.bf xs ys s k).length
  ·obtain ⟨x,hx⟩:∃ x,(af.bf xs ys s k)[k]?=some x:=⟨_,List.getElem?_eq_getElem mL⟩
   obtain ⟨x0,x1⟩:=af.oY tx ty s0 s1 k x (List.mem_of_getElem? hx)
   have e1:af.bf xs ys s (k + 1)=af.visit xs ys (af.bf xs ys s k) x:=by
    show (match (af.bf xs ys s k)[k]? with | some x=>af.visit xs ys (af.bf xs ys s k) x | none=>af.bf xs ys s k)=_
    rw [hx]
   rw [e1] at hb1 ⊢
   have hp1:=(af.sJ (af.cF (af.bf xs ys s k) (af.app xs x)) (af.app ys x)).length_le
   have hp0:=(af.sJ (af.bf xs ys s k) (af.app xs x)).length_le
   change _<=(af.visit xs ys (af.bf xs ys s k) x).length at hp1
   refine lZ [.tup (xs.map D.int),.tup (ys.map D.int)] (fun m δ st3=>∃ (v4:Option D) (G:List Int),δ=[some (bZ xs ys),some (.int s),some (.ref st.length),some (.int (k:Int)),v4]/\st3[st.length]?=some (.lst (G.map D.int))/\st3[st.length + 2]?=some (.lst ((af.upto n).map D.int))/\(m=0->G=af.bf xs ys s k)/\(m=1->G=af.cF (af.bf xs ys s k) (af.app xs x))/\(m=2->G=af.visit xs ys (af.bf xs ys s k) x)/\Ex [] st st3) ?_ (by simp) ?_ ?_
   ·unfold bZ
    kspl_open hQ
    exact hQ _ _ ⟨rfl,v4,_,rfl,hl,hr,fun _=>rfl,fun z=>by omega,fun z=>by omega,k2⟩
   ·rintro m z δ st3 hm ⟨v4,G,rfl,hl3,qN,g0,g1,_,k3⟩
    have hm2:m < 2:=iX hm
    obtain ⟨zs,rfl,tz,em⟩:∃ (zs:List Int),z=.tup (zs.map D.int)/\af.Tn n zs/\((m=0/\zs=xs)\/(m=1/\zs=ys)):=by
     rcases (show m=0\/m=1 by omega) with rfl | rfl
     ·exact ⟨xs,by simpa using hm.symm,tx,.inl ⟨rfl,rfl⟩⟩
     ·exact ⟨ys,by simpa using hm.symm,ty,.inr ⟨rfl,rfl⟩⟩
    have hG:G.length<=100/\G[k]?=some x/\k < G.length:=by
     rcases em with ⟨rfl,_⟩ | ⟨rfl,_⟩
     ·rw [g0 rfl];exact ⟨by omega,hx,mL⟩
     ·rw [g1 rfl]
      refine ⟨by omega,?_,by omega⟩
      obtain ⟨t,e⟩:=af.sJ (af.bf xs ys s k) (af.app xs x)
      rw [<- e,List.getElem?_append_left mL];exact hx
    have BJ:∀ G',G'=af.cF G (af.app zs x)->(m + 1=0->G'=af.bf xs ys s k)/\(m + 1=1->G'=af.cF (af.bf xs ys s k) (af.app xs x))/\(m + 1=2->G'=af.visit xs ys (af.bf xs ys s k) x):=fun G' e=>by
     rcases em with ⟨rfl,rfl⟩ | ⟨rfl,rfl⟩
     ·exact ⟨fun z=>by omega,fun _=>by rw [e,g0 rfl],fun z=>by omega⟩
     ·exact ⟨fun z=>by omega,fun z=>by omega,fun _=>by rw [e,g1 rfl];rfl⟩
    have hat:iA (G.map D.int) (k:Int)=some (.int x):=xf (by rw [List.getElem?_map,hG.2.1];rfl)
    have hdt:decide ((k:Int) < ((G.map D.int).length:Int))=true:=decide_eq_true (by rw [List.length_map];omega)
    kspl_open hQ
    refine hQ _ _ (jP ?_)
    clear hQ
    refine cQ ?_
    intro eX hQ
    set_option simprocs false in simp only [cj,ek hl3,hdt,hat,o8 (xs:=zs) x0 (by rw [tz.length];exact x1),CQ (st:=st3) (c:=.ref st.length) (ns:=G) (ek hl3)]
    refine hQ _ _ ⟨fun hc=>tG ?_,fun hc=>lh ?_⟩
    ·obtain ⟨n0,n1,n2⟩:=BJ (G ++ [af.app zs x]) (Kh hc).symm
     refine cQ ?_
     intro jE cz
     set_option simprocs false in simp only [cj,ek hl3,hat,o8 (xs:=zs) x0 (by rw [tz.length];exact x1),mr hl3]
     refine ⟨qK (by rw [ek hl3];rfl),kH (by rw [List.length_map];omega),cz _ _ ⟨_,G ++ [af.app zs x],rfl,?_,?_,n0,n1,n2,k3.loc (Nat.le_refl _)⟩⟩
     ·rw [List.getElem?_set_self (iX hl3),List.map_append];rfl
     ·rw [List.getElem?_set_ne (by omega)];exact qN
    ·obtain ⟨n0,n1,n2⟩:=BJ G (Ki hc).symm
     exact ⟨_,G,rfl,hl3,qN,n0,n1,n2,k3⟩
   ·rintro δ st3 ⟨v4,G,rfl,hl3,qN,_,_,g2,k3⟩
    have g2:=g2 rfl
    subst g2
    exact ⟨_,_,rfl,hl3,qN,k3⟩
  ·have e1:af.bf xs ys s (k + 1)=af.bf xs ys s k:=af.Cq (k:=k) (by omega) 1
   rw [e1]
   have hdf:decide ((k:Int) < (((af.bf xs ys s k).map D.int).length:Int))=false:=decide_eq_false (by rw [List.length_map];omega)
   refine lZ [.tup (xs.map D.int),.tup (ys.map D.int)] (fun m δ st3=>∃ (v4:Option D),δ=[some (bZ xs ys),some (.int s),some (.ref st.length),some (.int (k:Int)),v4]/\st3=st2) ?_ (by simp) ?_ ?_
   ·unfold bZ
    kspl_open hQ
    exact hQ _ _ ⟨rfl,v4,rfl,rfl⟩
   ·rintro m z δ st3 hm ⟨v4,rfl,rfl⟩
    kspl_open hQ
    refine hQ _ _ (jP ?_)
    clear hQ
    refine cQ ?_
    intro eX hQ
    set_option simprocs false in simp only [cj,ek hl,hdf]
    exact hQ _ _ ⟨fun h=>absurd h (by decide),fun _=>lh ⟨_,rfl,rfl⟩⟩
   ·rintro δ st3 ⟨v4,rfl,rfl⟩
    exact ⟨_,_,rfl,hl,hr,k2⟩
 ·rintro δ st2 ⟨v3,v4,rfl,hl,hr,k2⟩
  rw [List.length_map,af.nH] at hl
  have tb:=af.Cr tx ty s0 s1 all
  have hlb:=tb.length
  generalize Rm:af.bf xs ys s n=sq at hl tb hlb ⊢
  clear hQ
  unfold bZ
  refine dH ?_
  kspl_open hQ
  refine tK [.tup (xs.map D.int),.tup (ys.map D.int)] (fun d=>match d with | .tup ds=>.tup ((af.num (ds.map inD) sq).map D.int) | _=>.non) ?_ (by simp) ?_ ?_
  ·kspl_open cz
   exact cz _ _ ⟨tJ _ _,Ex.refl⟩
  ·intro d hd st3 k3
   obtain ⟨zs,rfl,tz⟩:∃ zs:List Int,d=.tup (zs.map D.int)/\af.Tn n zs:=by
    rcases List.mem_cons.mp hd with rfl | hd
    ·exact ⟨xs,rfl,tx⟩
    ·exact ⟨ys,List.mem_singleton.mp hd,ty⟩
   have hl3:=k3.keep _ _ hl (by simp)
   refine cQ ?_
   intro jE cz
   set_option simprocs false in simp only [cj,List.map_cons,List.map_nil,List.getD_cons_succ,List.getD_cons_zero]
   refine tK (sq.map D.int) (fun d=>.int (sq.idxOf (af.app zs (inD d)):Int)) ?_ (by rw [List.length_map];omega) ?_ ?_
   ·kspl_open qv
    exact ⟨_,ek hl3,qv _ _ ⟨OI (ek hl3),Ex.refl⟩⟩
   ·intro d hd jJ k4
    obtain ⟨x,hx,rfl⟩:=wz hd
    obtain ⟨x0,x1⟩:=tb.bound hx
    obtain ⟨a0,a1⟩:=tz.app x0 x1
    have pD:=k4.keep _ _ hl3 (by simp)
    refine cQ ?_
    intro BG qv
    set_option simprocs false in simp only [cj,List.map_cons,List.map_nil,List.getD_cons_succ,List.getD_cons_zero,o8 (xs:=zs) x0 (by rw [tz.length];exact x1),Oj (ek pD) (tb.mem a0 a1) (by omega) (fun i hi=>by have:=tb.bound hi;omega)]
    exact ⟨qK (by rw [ek pD];rfl),qv _ _ ⟨rfl,Ex.refl⟩⟩
   ·intro jJ k4
    rw [Ao (f:=fun x=>(sq.idxOf (af.app zs x):Int)) fun x hx=>rfl]
    w_how
    refine cz _ _ ⟨?_,k4.app _⟩
    show D.tup _=D.tup ((af.num ((zs.map D.int).map inD) sq).map D.int)
    rw [JY]
    rfl
  ·intro st3 k3
   w_how
   refine hQ _ _ ⟨?_,(k2.trans k3).app _⟩
   simp only [List.map_cons,List.map_nil,JY]
   unfold wV
   rw [Rm]
   rfl
theorem GS {n:Nat} {xs ys:List Int} (fl:lj n xs ys):af.Wh n (xs,ys):=⟨⟨fl.1,fl.2.1⟩,fl.2.2⟩
theorem xY {n:Nat} {p:af.cw} (w:af.Wh n p):lj n p.1 p.2:=⟨w.v.1,w.v.2,w.all⟩
theorem wW {n:Nat} (p:af.cw) (n0:0 < n):∃ s:Int,0<=s/\s < (n:Int)/\af.jH n p=af.pg p n s:=by
 have h:=(af.Fv (l:=(af.upto n).map (af.pg p n)) (fun e=>by
  have:=congrArg List.length e
  rw [List.length_map,af.nH] at this
  simp at this
  omega)).1
 obtain ⟨s,hs,e⟩:=List.mem_map.mp h
 obtain ⟨s0,s1⟩:=af.lu.mp hs
 exact ⟨s,s0,s1,e.symm⟩
theorem KC {n:Nat} {p:af.cw} (w:af.Wh n p) (n0:0 < n):af.bH n p (af.jH n p):=by
 obtain ⟨s,s0,s1,e⟩:=wW p n0
 have tb:=w.bf s0 s1
 refine ⟨af.inv (af.bf p.1 p.2 s n),tb.aw,?_⟩
 rw [e,af.Cs w.v.1 tb,af.Cs w.v.2 tb]
 rfl
theorem KD {n:Nat} {p q:af.cw} (w:af.Wh n p) (n0:0 < n) (a:af.bH n p q):af.Wh n q:=by
 obtain ⟨g,tg,rfl⟩:=a
 have:=af.rN (xY w) tg n0
 exact ⟨⟨this.1,this.2.1⟩,this.2.2⟩
theorem KG (p:af.cw) (n:Nat):(aH 0 n).map (fun d=>bZ (af.pg p n (inD d)).1 (af.pg p n (inD d)).2)=((af.upto n).map (af.pg p n)).map fun q=>bZ q.1 q.2:=by
 rw [o7,List.map_map,List.map_map]
 rfl
theorem KH {st:Store} {xs ys:List Int} {n:Nat} (fl:lj n xs ys) (n0:0 < n) (hn:n<=20):Wp (tN [bZ xs ys] st) fun d st'=>d=bZ (af.jH n (xs,ys)).1 (af.jH n (xs,ys)).2/\Ex [] st st':=by
 have hlx:=fl.1.length
 refine e7 ?_
 show Ws (Dc [some (bZ xs ys)] st) _ _ _ _
 unfold Dc
 refine dH ?_
 kspl_open hQ
 refine tK (aH 0 n) (fun d=>bZ (af.pg (xs,ys) n (inD d)).1 (af.pg (xs,ys) n (inD d)).2) ?_ (by rw [gO];omega) ?_ ?_
 ·unfold bZ
  kspl_open cz
  rw [List.length_map,hlx]
  exact ⟨by omega,cz _ _ ⟨by rw [Int.toNat_natCast];exact tJ _ _,Ex.refl⟩⟩
 ·intro d hd st2 k2
  rw [o7] at hd
  obtain ⟨x,hx,rfl⟩:=wz hd
  obtain ⟨x0,x1⟩:=af.lu.mp hx
  refine cQ ?_
  intro jE cz
  set_option simprocs false in simp only [cj,List.map_cons,List.map_nil,List.getD_cons_succ,List.getD_cons_zero]
  refine aZ (Rh fl (by omega) x0 x1) ?_
  rintro d st3 ⟨rfl,k3⟩
  exact cz _ _ ⟨rfl,k3⟩
 ·intro st' k'
  rw [KG,J7 (mr ko) (by rw [List.length_map,af.nH];exact n0)]
  exact hQ _ _ ⟨rfl,k'.app _⟩
theorem KI {st:Store} {xs ys:List Int} {n:Nat} (fl:lj n xs ys) (n0:0 < n) (hn:n<=20):Wp (wJ [bZ xs ys] st) fun d st'=>d=bZ (af.jH n (xs,ys)).1 (af.jH n (xs,ys)).2/\Ex [] st st':=by
 have hlx:=fl.1.length
 refine e7 ?_
 show Ws (DR [some (bZ xs ys)] st) _ _ _ _
 unfold DR
 refine dH ?_
 kspl_open hQ
 refine tK (aH 0 n) (fun d=>bZ (af.pg (xs,ys) n (inD d)).1 (af.pg (xs,ys) n (inD d)).2) ?_ (by rw [gO];omega) ?_ ?_
 ·unfold bZ
  kspl_open cz
  rw [List.length_map,hlx]
  exact ⟨by omega,cz _ _ ⟨by rw [Int.toNat_natCast];exact tJ _ _,Ex.refl⟩⟩
 ·intro d hd st2 k2
  rw [o7] at hd
  obtain ⟨x,hx,rfl⟩:=wz hd
  obtain ⟨x0,x1⟩:=af.lu.mp hx
  refine cQ ?_
  intro jE cz
  set_option simprocs false in simp only [cj,List.map_cons,List.map_nil,List.getD_cons_succ,List.getD_cons_zero]
  refine aZ (Rj fl (by omega) x0 x1) ?_
  rintro d st3 ⟨rfl,k3⟩
  exact cz _ _ ⟨rfl,k3⟩
 ·intro st' k'
  rw [KG,J7 (mr ko) (by rw [List.length_map,af.nH];exact n0)]
  exact hQ _ _ ⟨rfl,k'.app _⟩
theorem y6 {n:Nat} {f:Int->Int} {x:Int} (x0:0<=x) (x1:x < (n:Int)):af.app ((af.upto n).map f) x=f x:=by
 unfold af.app
 rw [List.getD_eq_getElem?_getD,List.getElem?_map,af.y8 (by omega)]
 show f ((x.toNat:Nat):Int)=f x
 rw [Int.toNat_of_nonneg x0]
theorem KJ {g:Int} {s:fQ} (h:tU g s):af.c9 s:=⟨h.1,h.2.2⟩
theorem GU {w:List fQ} (h:∀ s∈w,af.c9 s):∀ s∈w,BN s:=fun s hs=>(h s hs).1
theorem GV:∀ (w:List fQ) (p:List Int×List Int),kl p w=af.eo p w:=by
 have hq:∀ (p:List Int×List Int) (j:Nat),nc p.1 p.2 j=af.nu j p:=fun p j=>by
  induction j with
  | zero=>rfl
  | succ j ih=>show (af.inv (nc p.1 p.2 j).2,(nc p.1 p.2 j).1)=af.Qt (af.nu j p);rw [ih];rfl
 have hs:∀ (p:List Int×List Int) (s:fQ),iC p s=af.stM p s:=fun p s=>by
  unfold iC af.stM
  rw [hq]
  rfl
 intro w
 induction w with
 | nil=>intro p;rfl
 | cons s w ih =>
  intro p
  show kl (iC p s) w=af.eo (af.stM p s) w
  rw [hs,ih]
theorem Rn {g:Int} {w:List fQ} (h:∀ s∈w,tU g s):∀ s∈w,af.c9 s:=fun s hs=>KJ (h s hs)
structure Dw (w:List fQ):Prop where
 ok:∀ s∈w,tU 500 s
 ln:w.length<=12
 le:(af.aJ w).le (P2 36)
theorem Dw.pr {w:List fQ} (h:Dw w):∀ s∈w,af.c9 s:=Rn h.ok
theorem Dw.law {w:List fQ} (h:Dw w):∀ s∈w,af.c9 s/\s.2.natAbs<=1000000:=fun s hs=>⟨h.pr s hs,by have:=(h.ok s hs).2.1;omega⟩
theorem Dw.of {w:List fQ} {g m:Nat} (hw:∀ s∈w,tU g s) (hl:w.length<=m) (hm:m<=12) (hg:g<=500) (hb:(g + 1) ^ m<=P2 36):Dw w :=
 ⟨fun s hs=>⟨(hw s hs).1,by have:=(hw s hs).2.1;omega,(hw s hs).2.2⟩,by omega,xX (af.Je (B:=g) (n:=m) (fun s hs=>⟨KJ (hw s hs),by have:=(hw s hs).2.1;omega⟩) hl) hb⟩
theorem KL {st:Store} {f:Nat} (hf:bC st f):Wp (wI [.ref f] st) fun d st'=>∃ w:List fQ,d=.tup (w.map bQ)/\Dw w/\bC st' f/\Ex [f] st st':=by
 refine e7 ?_
 show Ws (DM [some (.ref f),none] st) _ _ _ _
 unfold DM
 refine bx (cx ?_)
 kspl_open hQ
 refine aZ (qM (n:=3) hf (by decide) (by decide)) ?_
 rintro d st1 ⟨c,rfl,c0,c1,f1,k1⟩
 refine hQ _ _ (dH ?_)
 clear hQ
 kspl_open hQ
 refine ⟨rfl,?_⟩
 have kx:Ex [] st1 (st1 ++ [O.lst [D.int 12,D.int 6,D.int 4]] ++ [O.lst [D.int 3,D.int 20,D.int 500]]):=(Ex.cf _).trans (Ex.cf _)
 have f3:=f1.keep kx
 rcases (show c=0\/c=1\/c=2 by omega) with rfl | rfl | rfl
 ·refine ⟨.int 12,rfl,rfl,.int 3,rfl,?_⟩
  refine aZ (GG (most:=12) (great:=3) f3 (by decide) (by decide) (by decide) (by decide)) ?_
  rintro d jJ ⟨w,rfl,hw,hwl,f4,k4⟩
  exact hQ _ _ ⟨w,rfl,Dw.of (g:=3) (m:=12) hw (by omega) (by decide) (by decide) (by decide),f4,(k1.trans kx.any).trans k4⟩
 ·refine ⟨.int 6,rfl,rfl,.int 20,rfl,?_⟩
  refine aZ (GG (most:=6) (great:=20) f3 (by decide) (by decide) (by decide) (by decide)) ?_
  rintro d jJ ⟨w,rfl,hw,hwl,f4,k4⟩
  exact hQ _ _ ⟨w,rfl,Dw.of (g:=20) (m:=6) hw (by omega) (by decide) (by decide) (by decide),f4,(k1.trans kx.any).trans k4⟩
 ·refine ⟨.int 4,rfl,rfl,.int 500,rfl,?_⟩
  refine aZ (GG (most:=4) (great:=500) f3 (by decide) (by decide) (by decide) (by decide)) ?_
  rintro d jJ ⟨w,rfl,hw,hwl,f4,k4⟩
  exact hQ _ _ ⟨w,rfl,Dw.of (g:=500) (m:=4) hw (by omega) (by decide) (by decide) (by decide),f4,(k1.trans kx.any).trans k4⟩
theorem BQ {st:Store} {xs ys:List Int} {n:Nat} {w:List fQ} (fl:lj n xs ys) (n0:0 < n) (hn:n<=20) {M k:Nat} (hM:M < 2 ^ k) (hk:k<=100) (hw:∀ s∈w,af.c9 s) (hl:(af.aJ w).le M):Wp (oO [bZ xs ys,fP (af.aJ w)] st) fun d st'=>d=bZ (af.jH n (af.eo (xs,ys) w)).1 (af.jH n (af.eo (xs,ys) w)).2/\Ex [] st st':=by
 have wh:=GS fl
 refine e7 ?_
 show Ws (DJ [some (bZ xs ys),some (fP (af.aJ w))] st) _ _ _ _
 unfold DJ
 refine dH ?_
 kspl_open hQ
 refine aZ (Kz hM hk hl (af.zv hw)) ?_
 rintro d st1 ⟨u,rfl,Ro,Rq,eu,k1⟩
 have hu:∀ s∈u,af.c9 s:=fun s hs=>(Ro s hs).1
 refine aZ (Kq (p:=(xs,ys)) ⟨fl.1,fl.2.1⟩ (by omega) (GU hu) (by omega)) ?_
 rintro d st2 ⟨rfl,k2⟩
 rw [GV]
 have wu:=wh.ld n0 (w:=u)
 refine aZ (KH (xs:=(af.eo (xs,ys) u).1) (ys:=(af.eo (xs,ys) u).2) (xY wu) n0 hn) ?_
 rintro d st3 ⟨rfl,k3⟩
 refine hQ _ _ ⟨?_,(k1.trans k2).trans k3⟩
 have e:af.jH n (af.eo (xs,ys) u)=af.jH n (af.eo (xs,ys) w):=af.zw n0 wu.v (af.Jr hu hw eu wh.v)
 show bZ (af.jH n (af.eo (xs,ys) u)).1 (af.jH n (af.eo (xs,ys) u)).2=_
 rw [e]
theorem Rr {st:Store} {Q:D->Store->Prop} {neg:Bool} {A B:af.T4}:Wp (iI neg (fP A) (fP B) st) Q↔Q (.bl (if neg then !decide ([A.a,A.b,A.c,A.d]=[B.a,B.b,B.c,B.d]) else decide ([A.a,A.b,A.c,A.d]=[B.a,B.b,B.c,B.d]))) st:=OC (L:=[A.a,A.b,A.c,A.d]) (M:=[B.a,B.b,B.c,B.d])
theorem wX {T:af.T4} {M:Nat} (h:T.le M):T.oZ.le M:=⟨h.2.2.2,by show (-T.b).natAbs<=M;rw [Int.natAbs_neg];exact h.2.1,by show (-T.c).natAbs<=M;rw [Int.natAbs_neg];exact h.2.2.1,h.1⟩
theorem xZ:P2 36 < 2 ^ 37:=by decide
theorem KN {st:Store} {xs ys:List Int} {n:Nat} {w:List fQ} (fl:lj n xs ys) (n0:0 < n) (hn:n<=20) (hw:Dw w):Wp (wL [bZ xs ys,.tup (w.map bQ)] st) fun d st'=>d=.bl true/\Ex [] st st':=by
 have wh:=GS fl
 have pw:=hw.pr
 have hwl:=hw.ln
 have wA:=wh.ld n0 (w:=w)
 refine e7 ?_
 show Ws (DX [some (bZ xs ys),some (.tup (w.map bQ)),none,none,none] st) _ _ _ _
 unfold DX
 refine bx (cx ?_)
 refine cQ ?_
 intro eX hQ
 w_how
 refine aZ (BO hw.law (by omega)) ?_
 rintro d st1 ⟨rfl,k1⟩
 refine hQ _ _ (bx (cx ?_))
 clear hQ
 refine cQ ?_
 intro eX hQ
 w_how
 refine aZ (Kz (M:=P2 36) (k:=37) xZ (by decide) hw.le (af.zv pw)) ?_
 rintro d st2 ⟨u,rfl,hu,Rq,eu,k2⟩
 have pu:∀ s∈u,af.c9 s:=fun s hs=>(hu s hs).1
 have wB:=wh.ld n0 (w:=u)
 refine hQ _ _ (bx (cx ?_))
 clear hQ
 refine cQ ?_
 intro eX hQ
 w_how
 refine aZ (QN (p:=(xs,ys)) ⟨fl.1,fl.2.1⟩ (by omega) (GU pw) (by omega)) ?_
 rintro d st3 ⟨rfl,k3⟩
 rw [GV]
 refine aZ (KI (xs:=(af.eo (xs,ys) w).1) (ys:=(af.eo (xs,ys) w).2) (xY wA) n0 hn) ?_
 rintro d jJ ⟨rfl,k4⟩
 have Rt:af.bH n (af.eo (xs,ys) u) (af.eo (xs,ys) w):=af.Jr pu pw eu wh.v
 have eF:af.jH n (af.eo (xs,ys) u)=af.jH n (af.eo (xs,ys) w):=af.zw n0 wB.v Rt
 have BR:=KC wA n0
 have wF:=KD wA n0 BR
 show eX (bZ (af.jH n (af.eo (xs,ys) w)).1 (af.jH n (af.eo (xs,ys) w)).2) jJ
 have aE:af.bH n (af.eo (af.eo (xs,ys) w) (af.gM w)) (xs,ys):=by
  rw [<- af.CB]
  exact af.FE (fun s hs=>by
   rcases List.mem_append.mp hs with h | h
   ·exact pw s h
   ·exact af.xu pw s h) (af.FF pw) wh.v
 have wE:=wA.ld n0 (w:=af.gM w)
 have aG:=af.bH.ld (w:=af.gM w) wA.v BR
 have eG:af.jH n (af.eo (af.jH n (af.eo (xs,ys) w)) (af.gM w))=af.jH n (xs,ys):=(af.zw n0 wE.v aG).symm.trans (af.zw n0 wE.v aE)
 generalize hF:af.jH n (af.eo (xs,ys) w)=F at eF wF eG ⊢
 refine hQ _ _ (bx (jP ?_))
 clear hQ
 refine cQ ?_
 intro eX hQ
 w_how
 refine aZ (GK (b:=20400) (by decide) hu (by omega)) ?_
 rintro d jC ⟨rfl,k5⟩
 rw [eu,Rr,if_pos rfl,decide_eq_true rfl]
 refine ⟨_,rfl,?_⟩
 rw [if_neg (by decide)]
 refine aZ (Kq (p:=(xs,ys)) ⟨fl.1,fl.2.1⟩ (by omega) (GU pu) (by omega)) ?_
 rintro d zO ⟨rfl,k6⟩
 rw [GV]
 refine aZ (KH (xs:=(af.eo (xs,ys) u).1) (ys:=(af.eo (xs,ys) u).2) (xY wB) n0 hn) ?_
 rintro d nQ ⟨rfl,k7⟩
 show Wp (iI true (bZ (af.jH n (af.eo (xs,ys) u)).1 (af.jH n (af.eo (xs,ys) u)).2) (bZ F.1 F.2) nQ) _
 rw [eF,CS,if_pos rfl,decide_eq_true rfl]
 refine ⟨_,rfl,?_⟩
 rw [if_neg (by decide)]
 refine aZ (BQ (w:=w) fl n0 hn xZ (by decide) pw hw.le) ?_
 rintro d j9 ⟨rfl,k8⟩
 rw [hF,CS,if_pos rfl,decide_eq_true rfl]
 refine ⟨_,rfl,hQ _ _ ⟨fun z=>absurd z (by decide),fun _=>lh (dH ?_)⟩⟩
 clear hQ
 refine cQ ?_
 intro eX hQ
 w_how
 refine aZ (Q0) ?_
 rintro d nA ⟨rfl,k9⟩
 have eT:(af.aJ w).oZ=af.aJ (af.gM w):=(af.Ct pw).symm
 have KO:=wX hw.le
 rw [eT] at KO ⊢
 refine aZ (BQ (xs:=F.1) (ys:=F.2) (w:=af.gM w) (xY wF) n0 hn xZ (by decide) (af.xu pw) KO) ?_
 rintro d GW ⟨rfl,GX⟩
 refine aZ (KI fl n0 hn) ?_
 rintro d GY ⟨rfl,GZ⟩
 rw [show ((F.1,F.2):af.cw)=F from rfl,eG,CS]
 refine hQ _ _ ⟨by simp,?_⟩
 exact ((((((((((k1.trans k2).trans k3).trans k4).trans k5).trans k6).trans k7).trans k8).trans k9).trans GX).trans GZ)
theorem wY {A B:af.T4} {M N:Nat} (ha:A.le M) (hb:B.le N):(A.mul B).le (2 * (M * N)):=by
 have m:∀ x y:Int,x.natAbs<=M->y.natAbs<=N->(x * y).natAbs<=M * N:=fun x y hx hy=>by rw [Int.natAbs_mul];exact Nat.mul_le_mul hx hy
 have s:∀ x y z u:Int,x.natAbs<=M->y.natAbs<=N->z.natAbs<=M->u.natAbs<=N->(x * y + z * u).natAbs<=2 * (M * N):=fun x y z u h1 h2 h3 h4=>by
  have a:=m x y h1 h2
  have b:=m z u h3 h4
  omega
 obtain ⟨a1,a2,a3,a4⟩:=ha
 obtain ⟨b1,b2,b3,b4⟩:=hb
 exact ⟨s _ _ _ _ a1 b1 a2 b3,s _ _ _ _ a1 b2 a2 b4,s _ _ _ _ a3 b1 a4 b3,s _ _ _ _ a3 b2 a4 b4⟩
theorem qw (ns:List Int) (hn:ns.length<=63):Wp (Gu [.ref 0] [.oB (ns.map D.int)]) fun d _=>d=.bl true:=by
 refine e7 ?_
 show Ws (DZ [some (.ref 0),none,none,none,none,none,none] [.oB (ns.map D.int)]) _ _ _ _
 unfold DZ
 have Rv:(cutD (ns.map D.int) none (some (6:Int))).length<=6:=by
  have:=JW (ns.map D.int) 6
  rw [show (some (6:Int))=some ((6:Nat):Int) from rfl,this,List.length_take];omega
 obtain ⟨m,hm,RY⟩:∃ m:Nat,(if ((cutD (ns.map D.int) none (some (6:Int))).length:Int) > 2 then ((cutD (ns.map D.int) none (some (6:Int))).length:Int) else 2)=(m:Int)/\m<=6:=by
  split
  ·exact ⟨_,rfl,Rv⟩
  ·exact ⟨2,rfl,by decide⟩
 refine bx (lZ (aH 0 m) (fun i δ st=>∃ (v1 v2 v3 v4 v5 v6:Option D),δ=[some (.ref 0),v1,v2,v3,v4,v5,v6]/\st[0]?=some (.oB (ns.map D.int))) ?_ (by rw [gO];omega) ?_ ?_)
 ·have Rw:([O.oB (ns.map D.int)]:Store)[0]?=some (.oB (ns.map D.int)):=rfl
  refine cQ ?_
  intro eX hQ
  set_option simprocs false in simp only [cj,JN Rw,hm]
  exact ⟨by omega,hQ _ _ ⟨by rw [Int.toNat_natCast],none,none,none,none,none,none,rfl,rfl⟩⟩
 ·rintro i d δ st hd ⟨v1,v2,v3,v4,v5,v6,rfl,h0⟩
  have hil:=iX hd
  rw [gO] at hil
  rw [CM hil,Int.zero_add] at hd
  cases hd
  kspl_open hQ
  refine hQ _ _ (bx (cx ?_))
  clear hQ
  kspl_open hQ
  refine aZ (Qm (a:=0) (ns:=ns) (k:=i) (JN h0) (by omega)) ?_
  rintro d st2 ⟨rfl,f2,k2⟩
  generalize hF:st.length=ff at f2 ⊢
  have RZ:0 < ff:=by rw [<- hF];exact iX h0
  have h02:=k2.keep _ _ h0 (by simp)
  refine hQ _ _ (bx (F4 ?_))
  clear hQ
  kspl_open hQ
  refine aZ (KL f2) ?_
  rintro d st3 ⟨w,rfl,hw,f3,k3⟩
  refine aZ (KL f3) ?_
  rintro d jJ ⟨v,rfl,hv,f4,k4⟩
  refine hQ _ _ ⟨_,_,rfl,bx (cx ?_)⟩
  clear hQ
  kspl_open hQ
  refine aZ (qM (n:=8) f4 (by decide) (by decide)) ?_
  rintro d zO ⟨n1,rfl,R0,R1,f6,k6⟩
  w_how
  obtain ⟨n,rfl⟩:∃ n:Nat,n1=(n:Int) - 1:=⟨(n1 + 1).toNat,by omega⟩
  rw [show (1:Int) + ((n:Int) - 1)=(n:Int) by omega]
  refine aZ (Qq (n:=n) f6 (by omega) (by omega)) ?_
  rintro d nQ ⟨xs,ys,rfl,fl,f7,k7⟩
  have n0:0 < n:=by omega
  have qx:n<=20:=by omega
  have wh:=GS fl
  have Rx:=(((k3.trans k4).trans k6).trans k7).keep _ _ h02 (by simp;omega)
  refine hQ _ _ (bx (jP ?_))
  clear hQ
  kspl_open hQ
  refine aZ (KN fl n0 qx hw) ?_
  rintro d j9 ⟨rfl,k8⟩
  refine ⟨_,rfl,?_⟩
  rw [if_neg (by decide)]
  refine aZ (KN fl n0 qx hv) ?_
  rintro d nA ⟨rfl,k9⟩
  refine ⟨_,rfl,hQ _ _ ⟨fun z=>absurd z (by decide),fun _=>lh (bx (cx ?_))⟩⟩
  clear hQ
  kspl_open hQ
  refine aZ (BO hw.law (by have:=hw.ln;omega)) ?_
  rintro d GW ⟨rfl,GX⟩
  refine aZ (BQ (w:=w) fl n0 qx xZ (by decide) hw.pr hw.le) ?_
  rintro d GY ⟨rfl,GZ⟩
  refine aZ (BO hv.law (by have:=hv.ln;omega)) ?_
  rintro d Ry ⟨rfl,Rz⟩
  have wA:=wh.ld n0 (w:=w)
  have BR:=KC wA n0
  have wF:=KD wA n0 BR
  refine aZ (BQ (xs:=(af.jH n (af.eo (xs,ys) w)).1) (ys:=(af.jH n (af.eo (xs,ys) w)).2) (w:=v) (xY wF) n0 qx xZ (by decide) hv.pr hv.le) ?_
  rintro d RA ⟨rfl,RB⟩
  refine hQ _ _ (jP ?_)
  clear hQ
  kspl_open hQ
  refine aZ (BO hv.law (by have:=hv.ln;omega)) ?_
  rintro d RC ⟨rfl,RD⟩
  refine aZ (BO hw.law (by have:=hw.ln;omega)) ?_
  rintro d RE ⟨rfl,RF⟩
  refine aZ (Ea (A:=af.aJ v) (B:=af.aJ w) (GI (M:=P2 36) (k:=37) (by decide) xZ hv.le hw.le)) ?_
  rintro d RG ⟨rfl,RH⟩
  rw [<- af.qa]
  have hle:(af.aJ (w ++ v)).le (P2 73):=by
   rw [af.qa]
   exact xX (wY hv.le hw.le) (by decide)
  have RI:∀ s∈w ++ v,af.c9 s:=fun s hs=>by
   rcases List.mem_append.mp hs with h | h
   ·exact hw.pr s h
   ·exact hv.pr s h
  refine aZ (BQ (w:=w ++ v) fl n0 qx (M:=P2 73) (k:=74) (by decide) (by decide) RI hle) ?_
  rintro d RJ ⟨rfl,RK⟩
  have eF:af.jH n (af.eo (af.jH n (af.eo (xs,ys) w)) v)=af.jH n (af.eo (xs,ys) (w ++ v)):=by
   rw [af.CB]
   exact (af.zw n0 (wA.ld n0 (w:=v)).v (af.bH.ld (w:=v) wA.v BR)).symm
  rw [show (((af.jH n (af.eo (xs,ys) w)).1,(af.jH n (af.eo (xs,ys) w)).2):af.cw)=af.jH n (af.eo (xs,ys) w) from rfl,eF,CS,if_pos rfl,decide_eq_true rfl]
  refine ⟨_,rfl,hQ _ _ ⟨fun z=>absurd z (by decide),fun _=>lh ⟨_,_,_,_,_,_,rfl,?_⟩⟩⟩
  exact (((((((((k8.trans k9).trans GX).trans GZ).trans Rz).trans RB).trans RD).trans RF).trans RH).trans RK).keep _ _ Rx (by simp)
 ·rintro δ s ⟨v1,v2,v3,v4,v5,v6,rfl,h0⟩
  refine dH ?_
  kspl_open hQ
  exact hQ _ _ rfl
theorem wZ {P:Program} {w:World} {K:PySem.W.Frag} {mg:Str->Option Value} {base:Heap} (T:Txt mg) {lO:V} (kh:pM K mg "QUARTER" lO (.tup [(.int 0),(.int (-1)),(.int 1),(.int 0)])) {iY:V} (eh:pM K mg "UNMOVED" iY (.tup [(.int 1),(.int 0),(.int 0),(.int 1)])) {ie:Addr} {ig:FuncData} (dW:Def K mg "_law_feed" As ["_law_script","_law_k"] ie ig) {aX:Addr} {aY:FuncData} (av:Def K mg "_law_take" rO ["_law_feed_here","_law_many"] aX aY) {dZ:Addr} {d0:FuncData} (bq:Def K mg "_law_turning" Au ["_law_feed_here","_law_n"] dZ d0) {jl:Addr} {jm:FuncData} (cR:Def K mg "_law_met" Av ["_law_floor_here"] jl jm) {fZ:Addr} {f9:FuncData} (di:Def K mg "_law_floor" Ay ["_law_feed_here","_law_n"] fZ f9) {br:Addr} {bu:FuncData} (aP:Def K mg "turned_back" wG ["turning"] br bu) {dJ:Addr} {dM:FuncData} (aU:Def K mg "followed" xH ["one","other"] dJ dM) {eN:Addr} {eO:FuncData} (cT:Def K mg "called_anew" AA ["floor","p"] eN eO) {d4:Addr} {d5:FuncData} (ck:Def K mg "squares_from" AE ["floor","s"] d4 d5) {c6:Addr} {c7:FuncData} (bI:Def K mg "numbering_from" AG ["floor","s"] c6 c7) {dn:Addr} {dr:FuncData} (bX:Def K mg "numbered_from" AI ["floor","s"] dn dr) {fE:Addr} {fF:FuncData} (cI:Def K mg "form_of" xJ ["floor"] fE fF) {gR:Addr} {gS:FuncData} (dN:Def K mg "ring_from" AK ["turning","first"] gR gS) {jo:Addr} {jq:FuncData} (e8:Def K mg "rings_of" AO ["turning"] jo jq) {mY:Addr} {mZ:FuncData} (kK:Def K mg "often" AR ["turning","k"] mY mZ) {kf:Addr} {kg:FuncData} (gD:Def K mg "sheared" AW ["floor","k"] kf kg) {gT:Addr} {gU:FuncData} (dO:Def K mg "quartered" AY ["floor"] gT gU) {eP:Addr} {eQ:FuncData} (cU:Def K mg "led_by_step" A0 ["floor","step"] eP eQ) {hU:Addr} {hV:FuncData} (du:Def K mg "led_by" xM ["floor","word"] hU hV) {jr:Addr} {jt:FuncData} (fe:Def K mg "led_pair" A2 ["table","pair"] jr jt) {gX:Addr} {gY:FuncData} (cy:Def K mg "shears" xN ["k"] gX gY) {dP:Addr} {dQ:FuncData} (bM:Def K mg "times" tP ["one","other"] dP dQ) {fR:Addr} {fS:FuncData} (de:Def K mg "step_table" A4 ["step"] fR fS) {cm:Addr} {cn:FuncData} (bh:Def K mg "table_of" wH ["word"] cm cn) {ki:Addr} {kj:FuncData} (gE:Def K mg "nearest" A6 ["number","divisor"] ki kj) {eR:Addr} {eU:FuncData} (cW:Def K mg "level_steps" A8 ["pair"] eR eU) {lz:Addr} {lA:FuncData} (ju:Def K mg "joined" Ba ["one","other"] lz lA) {fT:Addr} {fU:FuncData} (df:Def K mg "made_plain" Bc ["word"] fT fU) {d6:Addr} {d7:FuncData} (cq:Def K mg "put_together" Bf ["one","other"] d6 d7) {jv:Addr} {jw:FuncData} (fg:Def K mg "is_table" Bh ["thing"] jv jw) {fV:Addr} {fW:FuncData} (dg:Def K mg "level_word" Bj ["table"] fV fW) {g5:Addr} {g7:FuncData} (dR:Def K mg "back_step" Bl ["step"] g5 g7) {g9:Addr} {hJ:FuncData} (dS:Def K mg "back_word" Bn ["word"] g9 hJ) {fG:Addr} {fH:FuncData} (cJ:Def K mg "word_of" xP ["table"] fG fH) {bN:Addr} {bO:FuncData} (aF:Def K mg "led_by_table" xQ ["floor","table"] bN bO) {hW:Addr} {h8:FuncData} (dU:Def K mg "_law_word" Bp ["_law_feed_here","_law_most","_law_great"] hW h8) {dz:Addr} {dA:FuncData} (a9:Def K mg "_law_any_word" Bq ["_law_feed_here"] dz dA) {fX:Addr} {fY:FuncData} (dh:Def K mg "_law_times" Bs ["_law_one","_law_other"] fX fY) {cK:Addr} {cL:FuncData} (aK:Def K mg "_law_table" xR ["_law_word_here"] cK cL) {dw:Addr} {dy:FuncData} (bY:Def K mg "_law_numbered" Bu ["_law_floor_here","_law_s"] dw dy) {ia:Addr} {ib:FuncData} (cc:Def K mg "_law_form" Bv ["_law_floor_here"] ia ib) {eV:Addr} {eW:FuncData} (cX:Def K mg "_law_behind" Bx ["_law_turning_here","_law_s","_law_k"] eV eW) {d8:Addr} {d9:FuncData} (cu:Def K mg "_law_stepped" By ["_law_floor_here","_law_step"] d8 d9) {jy:Addr} {jz:FuncData} (fj:Def K mg "_law_led" BA ["_law_floor_here","_law_word_here"] jy jz) {lB:Addr} {lC:FuncData} (jA:Def K mg "undone" BD ["table"] lB lC) {gb:Addr} {gf:FuncData} (bL:Def K mg "_law_right" BE ["_law_floor_here","_law_word_here"] gb gf) {BS:Addr} {BU:FuncData} (G0:Def K mg "law" D0 ["_law_script"] BS BU):az P w K mg base bg 9 BS BU ["_law_script"] (bj K 1 Gu):=by
 have jW:=O2 (P:=P) (w:=w) (base:=base) dW T
 have aQ:=O3 (P:=P) (w:=w) (base:=base) av T
 have d3:=O4 (P:=P) (w:=w) (base:=base) bq T  av aQ
 have jn:=O5 (P:=P) (w:=w) (base:=base) cR T
 have i7:=O6 (P:=P) (w:=w) (base:=base) di T  av aQ bq d3 cR jn
 have bF:=O7 (P:=P) (w:=w) (base:=base) aP T
 have cS:=O9 (P:=P) (w:=w) (base:=base) aU T
 have gQ:=Pa (P:=P) (w:=w) (base:=base) cT T  aP bF aU cS
 have gi:=Pb (P:=P) (w:=w) (base:=base) ck T
 have eA:=Pd (P:=P) (w:=w) (base:=base) bI T  aP bF ck gi
 have fD:=Pf (P:=P) (w:=w) (base:=base) bX T  cT gQ bI eA
 have gF:=Ph (P:=P) (w:=w) (base:=base) cI T  bX fD
 have jR:=Pj (P:=P) (w:=w) (base:=base) dN T
 have kJ:=Pk (P:=P) (w:=w) (base:=base) e8 T  dN jR
 have oa:=Pm (P:=P) (w:=w) (base:=base) kK T  e8 kJ
 have lN:=Po (P:=P) (w:=w) (base:=base) gD T  aU cS kK oa
 have jS:=Pq (P:=P) (w:=w) (base:=base) dO T  aP bF
 have gW:=Pr (P:=P) (w:=w) (base:=base) cU T  gD lN dO jS
 have jx:=Pt (P:=P) (w:=w) (base:=base) du T  cU gW
 have kL:=Pw (P:=P) (w:=w) (base:=base) fe T
 have gZ:=Py (P:=P) (w:=w) (base:=base) cy T
 have eB:=PB (P:=P) (w:=w) (base:=base) bM T
 have iZ:=PD (P:=P) (w:=w) (base:=base) de T kh eh bM eB
 have cV:=PH (P:=P) (w:=w) (base:=base) bh T eh bM eB de iZ
 have lP:=PK (P:=P) (w:=w) (base:=base) gE T
 have g8:=PL (P:=P) (w:=w) (base:=base) cW T  fe kL cy gZ bh cV gE lP
 have m8:=PN (P:=P) (w:=w) (base:=base) ju T
 have i3:=PQ (P:=P) (w:=w) (base:=base) df T  ju m8
 have gj:=PU (P:=P) (w:=w) (base:=base) cq T  df i3
 have kM:=PX (P:=P) (w:=w) (base:=base) fg T
 have i5:=PZ (P:=P) (w:=w) (base:=base) dg T  cy gZ
 have jT:=P1 (P:=P) (w:=w) (base:=base) dR T
 have jU:=P5 (P:=P) (w:=w) (base:=base) dS T  dR jT
 have gG:=P6 (P:=P) (w:=w) (base:=base) cJ T  cW g8 cq gj fg kM dg i5 dS jU bM eB bh cV
 have bw:=P8 (P:=P) (w:=w) (base:=base) aF T  cI gF du jx cJ gG
 have jV:=P9 (P:=P) (w:=w) (base:=base) dU T  av aQ
 have dB:=Qa (P:=P) (w:=w) (base:=base) a9 T  av aQ dU jV
 have i6:=Qb (P:=P) (w:=w) (base:=base) dh T
 have bK:=Qc (P:=P) (w:=w) (base:=base) aK T  dh i6
 have fI:=Qd (P:=P) (w:=w) (base:=base) bY T
 have ic:=Qf (P:=P) (w:=w) (base:=base) cc T  bY fI
 have h9:=Qg (P:=P) (w:=w) (base:=base) cX T
 have gk:=Qh (P:=P) (w:=w) (base:=base) cu T  cX h9
 have kN:=Qi (P:=P) (w:=w) (base:=base) fj T  cu gk
 have m9:=Qk (P:=P) (w:=w) (base:=base) jA T
 have gg:=Ql (P:=P) (w:=w) (base:=base) bL T  aK bK cJ gG cc ic fj kN aF bw bh cV cI gF jA m9 du jx
 have G1:=wM (P:=P) (w:=w) (base:=base) G0 T  dW jW di i7 aF bw a9 dB aK bK av aQ bL gg bM eB
 exact G1
end My
open PySem PySem.W PyProof.Rows L2
theorem PySem.W.Fast.tw4755439694053831194:True:=trivial
theorem PySem.W.Fast.tw14092052282845250350:True:=trivial
theorem PySem.W.Fast.tw9355102304765921888:True:=trivial
theorem PySem.W.Fast.tw17158341264958039683:True:=trivial
theorem PySem.W.Fast.tw1187776353796336550:True:=trivial
theorem PySem.W.Fast.tw15403188633133299301:True:=trivial
theorem PySem.W.Fast.tw16617791000920918523:True:=trivial
theorem PySem.W.Fast.tw15297436081037154456:True:=trivial
theorem PySem.W.Fast.tw12644994888541772358:True:=trivial
theorem PySem.W.Fast.tw6226072127445734717:True:=trivial
theorem PySem.W.Fast.tw9255831879140774862:True:=trivial
theorem PySem.W.Fast.tw4146385798312580513:True:=trivial
theorem PySem.W.Fast.tw3137262013838565155:True:=trivial
theorem PySem.W.Fast.tw14758429372732528586:True:=trivial
theorem PySem.W.Fast.tw384625307643649384:True:=trivial
theorem PySem.W.Fast.tw18403799505996583602:True:=trivial
theorem PySem.W.Fast.tw8913866721905323815:True:=trivial
theorem PySem.W.Fast.tw14824392288525438242:True:=trivial
theorem PySem.W.Fast.tw11654330091062883611:True:=trivial
theorem PySem.W.Fast.tw9017432081749915104:True:=trivial
theorem PySem.W.Fast.tw16871322753642067263:True:=trivial
theorem PySem.W.Fast.tw28407474171869462:True:=trivial
theorem PySem.W.Fast.tw8422431689262472608:True:=trivial
theorem PySem.W.Fast.tw1046386096780089277:True:=trivial
theorem PySem.W.Fast.tw8644454137528115542:True:=trivial
theorem PySem.W.Fast.tw14737994502894920397:True:=trivial
theorem PySem.W.Fast.tw1371147518641399353:True:=trivial
theorem PySem.W.Fast.tw979656028617901602:True:=trivial
theorem PySem.W.Fast.tw7608354661377315677:True:=trivial
theorem PySem.W.Fast.tw2641366022269056501:True:=trivial
theorem PySem.W.Fast.tw1685805627689412698:True:=trivial
theorem PySem.W.Fast.tw9159655847744561532:True:=trivial
theorem PySem.W.Fast.tw11364160839387457371:True:=trivial
theorem PySem.W.Fast.tw1085581396667879283:True:=trivial
theorem PySem.W.Fast.tw3652973605590276610:True:=trivial
theorem PySem.W.Fast.tw3351775933923928979:True:=trivial
theorem PySem.W.Fast.tw8369575547876780939:True:=trivial
theorem PySem.W.Fast.tw8285947704212934449:True:=trivial
theorem PySem.W.Fast.tw4353092659300935188:True:=trivial
theorem PySem.W.Fast.tw3501617636800878148:True:=trivial
theorem PySem.W.Fast.tw9913121909734845995:True:=trivial
theorem PySem.W.Fast.tw9514277024825033884:True:=trivial
theorem PySem.W.Fast.tw13903087960551768402:True:=trivial
theorem PySem.W.Fast.tw11500425273441043003:True:=trivial
theorem PySem.W.Fast.tw10801633958992006464:True:=trivial
theorem PySem.W.Fast.tw13577788611663954747:True:=trivial
theorem PySem.W.Fast.tw3940139748238671082:True:=trivial
theorem PySem.W.Fast.tw6087230074163272633:True:=trivial
theorem PySem.W.Fast.tw4916566646362978028:True:=trivial
theorem PySem.W.Fast.tw13399115943637184928:True:=trivial
theorem PySem.W.Fast.tw1284820992797952740:True:=trivial
theorem PySem.W.Fast.tw15942594549145253174:True:=trivial
theorem PySem.W.Fast.tw17068637463139650297:True:=trivial
theorem PySem.W.Fast.tw14186655839044788360:True:=trivial
theorem PySem.W.Fast.tw6239809388237584127:True:=trivial
theorem PySem.W.Fast.tw6208856752079492552:True:=trivial
theorem PySem.W.Fast.tw977017112005785942:True:=trivial
theorem PySem.W.Fast.tw18280311101665143270:True:=trivial
theorem PySem.W.Fast.tw13773045321660444510:True:=trivial
theorem PySem.W.Fast.tw17776632707966805213:True:=trivial
theorem PySem.W.Fast.tw8424789692107734281:True:=trivial
theorem PySem.W.Fast.tw5358385597028577440:True:=trivial
theorem PySem.W.Fast.tw6608599418154876705:True:=trivial
theorem PySem.W.Fast.tw13140258008673010783:True:=trivial
theorem PySem.W.Fast.tw13331306353316296386:True:=trivial
theorem PySem.W.Fast.tw17586475816902463938:True:=trivial
theorem PySem.W.Fast.tw835368514225356722:True:=trivial
theorem PySem.W.Fast.tw153659860748047957:True:=trivial
theorem PySem.W.Fast.tw3512751076253593346:True:=trivial
theorem PySem.W.Fast.tw11782731829392232111:True:=trivial
set_option maxRecDepth 100000 in
set_option maxHeartbeats 0 in
theorem PySem.Challenge.cw_shearfloor_k61_whole_led_by_tables_holds : PySem.Challenge.rw_shearfloor_k61_whole_led_by_tables.Holds := by
 w_on;o_law;k_head;(case hw=>w_witness2)
 k_fill
 refine L2.LH (l:=PySem.Challenge.rw_shearfloor_k61_whole_led_by_tables) (n:=63) (k:=9) (x:="_law_script") (CX:=bg) (sp:=L4.tw) rfl (by decide) rfl ⟨rfl,by decide,by decide,rfl⟩ (fun w h Y=>PySem.W.kIn_of Y) ?F ?S ?C
 case F =>
  intro w mg fa h KX G hmg
  have T:My.Txt mg:=by
   refine' ⟨q4 KX G ?z0,q4 KX G ?z1,q4 KX G ?z2,q4 KX G ?z3,q4 KX G ?z4,q4 KX G ?z5,q4 KX G ?z6,q4 KX G ?z7,q4 KX G ?z8⟩
   (case z0=>k_is);(case z1=>k_is);(case z2=>k_is);(case z3=>k_is);(case z4=>k_is);(case z5=>k_is);(case z6=>k_is);(case z7=>k_is);(case z8=>k_is)
  have kO:∃ v,L4.pM (L2.KOf KX) mg "QUARTER" v (.tup [(.int 0),(.int (-1)),(.int 1),(.int 0)]):=by
   dsimp only [L2.KOf];refine' L4.J1 (vs:=[V.int 0,V.int (-1),V.int 1,V.int 0]) KX G ?a ?l ?o ?z ?v ?d
   (case a=>k_is);(case l=>k_is);(case o=>rfl);(case z=>decide);(case v=>exact (.cons ⟨_,rfl⟩ (.cons ⟨_,rfl⟩ (.cons ⟨_,rfl⟩ (.cons ⟨_,rfl⟩ .nil)))));(case d=>exact fun ρ H=>(.cons (.int _) (.cons (.int _) (.cons (.int _) (.cons (.int _) .nil)))))
  obtain ⟨_,kO⟩:=kO
  have kP:∃ v,L4.pM (L2.KOf KX) mg "UNMOVED" v (.tup [(.int 1),(.int 0),(.int 0),(.int 1)]):=by
   dsimp only [L2.KOf];refine' L4.J1 (vs:=[V.int 1,V.int 0,V.int 0,V.int 1]) KX G ?a ?l ?o ?z ?v ?d
   (case a=>k_is);(case l=>k_is);(case o=>rfl);(case z=>decide);(case v=>exact (.cons ⟨_,rfl⟩ (.cons ⟨_,rfl⟩ (.cons ⟨_,rfl⟩ (.cons ⟨_,rfl⟩ .nil)))));(case d=>exact fun ρ H=>(.cons (.int _) (.cons (.int _) (.cons (.int _) (.cons (.int _) .nil)))))
  obtain ⟨_,kP⟩:=kP
  have i9:∃ f fd,Def (L2.KOf KX) mg "_law_feed" My.As ["_law_script","_law_k"] f fd:=by
   dsimp only [L2.KOf];refine' ft KX G (fun _ _ _ _ _ _ us hl=>match us,hl with | [_,_],_=>rfl) ?a ?l ?c ?k
   (case a=>k_is);(case l=>k_is);(case c=>k_is);(case k=>k_is)
  obtain ⟨_,_,i9⟩:=i9
  have ja:∃ f fd,Def (L2.KOf KX) mg "_law_take" My.rO ["_law_feed_here","_law_many"] f fd:=by
   dsimp only [L2.KOf];refine' ft KX G (fun _ _ _ _ _ _ us hl=>match us,hl with | [_,_],_=>rfl) ?a ?l ?c ?k
   (case a=>k_is);(case l=>k_is);(case c=>k_is);(case k=>k_is)
  obtain ⟨_,_,ja⟩:=ja
  have fJ:∃ f fd,Def (L2.KOf KX) mg "_law_turning" My.Au ["_law_feed_here","_law_n"] f fd:=by
   dsimp only [L2.KOf];refine' ft KX G (fun _ _ _ _ _ _ us hl=>match us,hl with | [_,_],_=>rfl) ?a ?l ?c ?k
   (case a=>k_is);(case l=>k_is);(case c=>k_is);(case k=>k_is)
  obtain ⟨_,_,fJ⟩:=fJ
  have jX:∃ f fd,Def (L2.KOf KX) mg "_law_met" My.Av ["_law_floor_here"] f fd:=by
   dsimp only [L2.KOf];refine' ft KX G (fun _ _ _ _ _ _ us hl=>match us,hl with | [_],_=>rfl) ?a ?l ?c ?k
   (case a=>k_is);(case l=>k_is);(case c=>k_is);(case k=>k_is)
  obtain ⟨_,_,jX⟩:=jX
  have ik:∃ f fd,Def (L2.KOf KX) mg "_law_floor" My.Ay ["_law_feed_here","_law_n"] f fd:=by
   dsimp only [L2.KOf];refine' ft KX G (fun _ _ _ _ _ _ us hl=>match us,hl with | [_,_],_=>rfl) ?a ?l ?c ?k
   (case a=>k_is);(case l=>k_is);(case c=>k_is);(case k=>k_is)
  obtain ⟨_,_,ik⟩:=ik
  have gn:∃ f fd,Def (L2.KOf KX) mg "turned_back" My.wG ["turning"] f fd:=by
   dsimp only [L2.KOf];refine' ft KX G (fun _ _ _ _ _ _ us hl=>match us,hl with | [_],_=>rfl) ?a ?l ?c ?k
   (case a=>k_is);(case l=>k_is);(case c=>k_is);(case k=>k_is)
  obtain ⟨_,_,gn⟩:=gn
  have jY:∃ f fd,Def (L2.KOf KX) mg "followed" My.xH ["one","other"] f fd:=by
   dsimp only [L2.KOf];refine' ft KX G (fun _ _ _ _ _ _ us hl=>match us,hl with | [_,_],_=>rfl) ?a ?l ?c ?k
   (case a=>k_is);(case l=>k_is);(case c=>k_is);(case k=>k_is)
  obtain ⟨_,_,jY⟩:=jY
  have gp:∃ f fd,Def (L2.KOf KX) mg "called_anew" My.AA ["floor","p"] f fd:=by
   dsimp only [L2.KOf];refine' ft KX G (fun _ _ _ _ _ _ us hl=>match us,hl with | [_,_],_=>rfl) ?a ?l ?c ?k
   (case a=>k_is);(case l=>k_is);(case c=>k_is);(case k=>k_is)
  obtain ⟨_,_,gp⟩:=gp
  have fK:∃ f fd,Def (L2.KOf KX) mg "squares_from" My.AE ["floor","s"] f fd:=by
   dsimp only [L2.KOf];refine' ft KX G (fun _ _ _ _ _ _ us hl=>match us,hl with | [_,_],_=>rfl) ?a ?l ?c ?k
   (case a=>k_is);(case l=>k_is);(case c=>k_is);(case k=>k_is)
  obtain ⟨_,_,fK⟩:=fK
  have dX:∃ f fd,Def (L2.KOf KX) mg "numbering_from" My.AG ["floor","s"] f fd:=by
   dsimp only [L2.KOf];refine' ft KX G (fun _ _ _ _ _ _ us hl=>match us,hl with | [_,_],_=>rfl) ?a ?l ?c ?k
   (case a=>k_is);(case l=>k_is);(case c=>k_is);(case k=>k_is)
  obtain ⟨_,_,dX⟩:=dX
  have eC:∃ f fd,Def (L2.KOf KX) mg "numbered_from" My.AI ["floor","s"] f fd:=by
   dsimp only [L2.KOf];refine' ft KX G (fun _ _ _ _ _ _ us hl=>match us,hl with | [_,_],_=>rfl) ?a ?l ?c ?k
   (case a=>k_is);(case l=>k_is);(case c=>k_is);(case k=>k_is)
  obtain ⟨_,_,eC⟩:=eC
  have kQ:∃ f fd,Def (L2.KOf KX) mg "form_of" My.xJ ["floor"] f fd:=by
   dsimp only [L2.KOf];refine' ft KX G (fun _ _ _ _ _ _ us hl=>match us,hl with | [_],_=>rfl) ?a ?l ?c ?k
   (case a=>k_is);(case l=>k_is);(case c=>k_is);(case k=>k_is)
  obtain ⟨_,_,kQ⟩:=kQ
  have jb:∃ f fd,Def (L2.KOf KX) mg "ring_from" My.AK ["turning","first"] f fd:=by
   dsimp only [L2.KOf];refine' ft KX G (fun _ _ _ _ _ _ us hl=>match us,hl with | [_,_],_=>rfl) ?a ?l ?c ?k
   (case a=>k_is);(case l=>k_is);(case c=>k_is);(case k=>k_is)
  obtain ⟨_,_,jb⟩:=jb
  have jZ:∃ f fd,Def (L2.KOf KX) mg "rings_of" My.AO ["turning"] f fd:=by
   dsimp only [L2.KOf];refine' ft KX G (fun _ _ _ _ _ _ us hl=>match us,hl with | [_],_=>rfl) ?a ?l ?c ?k
   (case a=>k_is);(case l=>k_is);(case c=>k_is);(case k=>k_is)
  obtain ⟨_,_,jZ⟩:=jZ
  have ng:∃ f fd,Def (L2.KOf KX) mg "often" My.AR ["turning","k"] f fd:=by
   dsimp only [L2.KOf];refine' ft KX G (fun _ _ _ _ _ _ us hl=>match us,hl with | [_,_],_=>rfl) ?a ?l ?c ?k
   (case a=>k_is);(case l=>k_is);(case c=>k_is);(case k=>k_is)
  obtain ⟨_,_,ng⟩:=ng
  have kR:∃ f fd,Def (L2.KOf KX) mg "sheared" My.AW ["floor","k"] f fd:=by
   dsimp only [L2.KOf];refine' ft KX G (fun _ _ _ _ _ _ us hl=>match us,hl with | [_,_],_=>rfl) ?a ?l ?c ?k
   (case a=>k_is);(case l=>k_is);(case c=>k_is);(case k=>k_is)
  obtain ⟨_,_,kR⟩:=kR
  have jc:∃ f fd,Def (L2.KOf KX) mg "quartered" My.AY ["floor"] f fd:=by
   dsimp only [L2.KOf];refine' ft KX G (fun _ _ _ _ _ _ us hl=>match us,hl with | [_],_=>rfl) ?a ?l ?c ?k
   (case a=>k_is);(case l=>k_is);(case c=>k_is);(case k=>k_is)
  obtain ⟨_,_,jc⟩:=jc
  have gq:∃ f fd,Def (L2.KOf KX) mg "led_by_step" My.A0 ["floor","step"] f fd:=by
   dsimp only [L2.KOf];refine' ft KX G (fun _ _ _ _ _ _ us hl=>match us,hl with | [_,_],_=>rfl) ?a ?l ?c ?k
   (case a=>k_is);(case l=>k_is);(case c=>k_is);(case k=>k_is)
  obtain ⟨_,_,gq⟩:=gq
  have lQ:∃ f fd,Def (L2.KOf KX) mg "led_by" My.xM ["floor","word"] f fd:=by
   dsimp only [L2.KOf];refine' ft KX G (fun _ _ _ _ _ _ us hl=>match us,hl with | [_,_],_=>rfl) ?a ?l ?c ?k
   (case a=>k_is);(case l=>k_is);(case c=>k_is);(case k=>k_is)
  obtain ⟨_,_,lQ⟩:=lQ
  have j4:∃ f fd,Def (L2.KOf KX) mg "led_pair" My.A2 ["table","pair"] f fd:=by
   dsimp only [L2.KOf];refine' ft KX G (fun _ _ _ _ _ _ us hl=>match us,hl with | [_,_],_=>rfl) ?a ?l ?c ?k
   (case a=>k_is);(case l=>k_is);(case c=>k_is);(case k=>k_is)
  obtain ⟨_,_,j4⟩:=j4
  have lR:∃ f fd,Def (L2.KOf KX) mg "shears" My.xN ["k"] f fd:=by
   dsimp only [L2.KOf];refine' ft KX G (fun _ _ _ _ _ _ us hl=>match us,hl with | [_],_=>rfl) ?a ?l ?c ?k
   (case a=>k_is);(case l=>k_is);(case c=>k_is);(case k=>k_is)
  obtain ⟨_,_,lR⟩:=lR
  have nh:∃ f fd,Def (L2.KOf KX) mg "times" My.tP ["one","other"] f fd:=by
   dsimp only [L2.KOf];refine' ft KX G (fun _ _ _ _ _ _ us hl=>match us,hl with | [_,_],_=>rfl) ?a ?l ?c ?k
   (case a=>k_is);(case l=>k_is);(case c=>k_is);(case k=>k_is)
  obtain ⟨_,_,nh⟩:=nh
  have il:∃ f fd,Def (L2.KOf KX) mg "step_table" My.A4 ["step"] f fd:=by
   dsimp only [L2.KOf];refine' ft KX G (fun _ _ _ _ _ _ us hl=>match us,hl with | [_],_=>rfl) ?a ?l ?c ?k
   (case a=>k_is);(case l=>k_is);(case c=>k_is);(case k=>k_is)
  obtain ⟨_,_,il⟩:=il
  have j5:∃ f fd,Def (L2.KOf KX) mg "table_of" My.wH ["word"] f fd:=by
   dsimp only [L2.KOf];refine' ft KX G (fun _ _ _ _ _ _ us hl=>match us,hl with | [_],_=>rfl) ?a ?l ?c ?k
   (case a=>k_is);(case l=>k_is);(case c=>k_is);(case k=>k_is)
  obtain ⟨_,_,j5⟩:=j5
  have kS:∃ f fd,Def (L2.KOf KX) mg "nearest" My.A6 ["number","divisor"] f fd:=by
   dsimp only [L2.KOf];refine' ft KX G (fun _ _ _ _ _ _ us hl=>match us,hl with | [_,_],_=>rfl) ?a ?l ?c ?k
   (case a=>k_is);(case l=>k_is);(case c=>k_is);(case k=>k_is)
  obtain ⟨_,_,kS⟩:=kS
  have gs:∃ f fd,Def (L2.KOf KX) mg "level_steps" My.A8 ["pair"] f fd:=by
   dsimp only [L2.KOf];refine' ft KX G (fun _ _ _ _ _ _ us hl=>match us,hl with | [_],_=>rfl) ?a ?l ?c ?k
   (case a=>k_is);(case l=>k_is);(case c=>k_is);(case k=>k_is)
  obtain ⟨_,_,gs⟩:=gs
  have lS:∃ f fd,Def (L2.KOf KX) mg "joined" My.Ba ["one","other"] f fd:=by
   dsimp only [L2.KOf];refine' ft KX G (fun _ _ _ _ _ _ us hl=>match us,hl with | [_,_],_=>rfl) ?a ?l ?c ?k
   (case a=>k_is);(case l=>k_is);(case c=>k_is);(case k=>k_is)
  obtain ⟨_,_,lS⟩:=lS
  have ip:∃ f fd,Def (L2.KOf KX) mg "made_plain" My.Bc ["word"] f fd:=by
   dsimp only [L2.KOf];refine' ft KX G (fun _ _ _ _ _ _ us hl=>match us,hl with | [_],_=>rfl) ?a ?l ?c ?k
   (case a=>k_is);(case l=>k_is);(case c=>k_is);(case k=>k_is)
  obtain ⟨_,_,ip⟩:=ip
  have fL:∃ f fd,Def (L2.KOf KX) mg "put_together" My.Bf ["one","other"] f fd:=by
   dsimp only [L2.KOf];refine' ft KX G (fun _ _ _ _ _ _ us hl=>match us,hl with | [_,_],_=>rfl) ?a ?l ?c ?k
   (case a=>k_is);(case l=>k_is);(case c=>k_is);(case k=>k_is)
  obtain ⟨_,_,fL⟩:=fL
  have j6:∃ f fd,Def (L2.KOf KX) mg "is_table" My.Bh ["thing"] f fd:=by
   dsimp only [L2.KOf];refine' ft KX G (fun _ _ _ _ _ _ us hl=>match us,hl with | [_],_=>rfl) ?a ?l ?c ?k
   (case a=>k_is);(case l=>k_is);(case c=>k_is);(case k=>k_is)
  obtain ⟨_,_,j6⟩:=j6
  have iq:∃ f fd,Def (L2.KOf KX) mg "level_word" My.Bj ["table"] f fd:=by
   dsimp only [L2.KOf];refine' ft KX G (fun _ _ _ _ _ _ us hl=>match us,hl with | [_],_=>rfl) ?a ?l ?c ?k
   (case a=>k_is);(case l=>k_is);(case c=>k_is);(case k=>k_is)
  obtain ⟨_,_,iq⟩:=iq
  have jd:∃ f fd,Def (L2.KOf KX) mg "back_step" My.Bl ["step"] f fd:=by
   dsimp only [L2.KOf];refine' ft KX G (fun _ _ _ _ _ _ us hl=>match us,hl with | [_],_=>rfl) ?a ?l ?c ?k
   (case a=>k_is);(case l=>k_is);(case c=>k_is);(case k=>k_is)
  obtain ⟨_,_,jd⟩:=jd
  have je:∃ f fd,Def (L2.KOf KX) mg "back_word" My.Bn ["word"] f fd:=by
   dsimp only [L2.KOf];refine' ft KX G (fun _ _ _ _ _ _ us hl=>match us,hl with | [_],_=>rfl) ?a ?l ?c ?k
   (case a=>k_is);(case l=>k_is);(case c=>k_is);(case k=>k_is)
  obtain ⟨_,_,je⟩:=je
  have kT:∃ f fd,Def (L2.KOf KX) mg "word_of" My.xP ["table"] f fd:=by
   dsimp only [L2.KOf];refine' ft KX G (fun _ _ _ _ _ _ us hl=>match us,hl with | [_],_=>rfl) ?a ?l ?c ?k
   (case a=>k_is);(case l=>k_is);(case c=>k_is);(case k=>k_is)
  obtain ⟨_,_,kT⟩:=kT
  have fM:∃ f fd,Def (L2.KOf KX) mg "led_by_table" My.xQ ["floor","table"] f fd:=by
   dsimp only [L2.KOf];refine' ft KX G (fun _ _ _ _ _ _ us hl=>match us,hl with | [_,_],_=>rfl) ?a ?l ?c ?k
   (case a=>k_is);(case l=>k_is);(case c=>k_is);(case k=>k_is)
  obtain ⟨_,_,fM⟩:=fM
  have jf:∃ f fd,Def (L2.KOf KX) mg "_law_word" My.Bp ["_law_feed_here","_law_most","_law_great"] f fd:=by
   dsimp only [L2.KOf];refine' ft KX G (fun _ _ _ _ _ _ us hl=>match us,hl with | [_,_,_],_=>rfl) ?a ?l ?c ?k
   (case a=>k_is);(case l=>k_is);(case c=>k_is);(case k=>k_is)
  obtain ⟨_,_,jf⟩:=jf
  have eD:∃ f fd,Def (L2.KOf KX) mg "_law_any_word" My.Bq ["_law_feed_here"] f fd:=by
   dsimp only [L2.KOf];refine' ft KX G (fun _ _ _ _ _ _ us hl=>match us,hl with | [_],_=>rfl) ?a ?l ?c ?k
   (case a=>k_is);(case l=>k_is);(case c=>k_is);(case k=>k_is)
  obtain ⟨_,_,eD⟩:=eD
  have iu:∃ f fd,Def (L2.KOf KX) mg "_law_times" My.Bs ["_law_one","_law_other"] f fd:=by
   dsimp only [L2.KOf];refine' ft KX G (fun _ _ _ _ _ _ us hl=>match us,hl with | [_,_],_=>rfl) ?a ?l ?c ?k
   (case a=>k_is);(case l=>k_is);(case c=>k_is);(case k=>k_is)
  obtain ⟨_,_,iu⟩:=iu
  have iw:∃ f fd,Def (L2.KOf KX) mg "_law_table" My.xR ["_law_word_here"] f fd:=by
   dsimp only [L2.KOf];refine' ft KX G (fun _ _ _ _ _ _ us hl=>match us,hl with | [_],_=>rfl) ?a ?l ?c ?k
   (case a=>k_is);(case l=>k_is);(case c=>k_is);(case k=>k_is)
  obtain ⟨_,_,iw⟩:=iw
  have eE:∃ f fd,Def (L2.KOf KX) mg "_law_numbered" My.Bu ["_law_floor_here","_law_s"] f fd:=by
   dsimp only [L2.KOf];refine' ft KX G (fun _ _ _ _ _ _ us hl=>match us,hl with | [_,_],_=>rfl) ?a ?l ?c ?k
   (case a=>k_is);(case l=>k_is);(case c=>k_is);(case k=>k_is)
  obtain ⟨_,_,eE⟩:=eE
  have jg:∃ f fd,Def (L2.KOf KX) mg "_law_form" My.Bv ["_law_floor_here"] f fd:=by
   dsimp only [L2.KOf];refine' ft KX G (fun _ _ _ _ _ _ us hl=>match us,hl with | [_],_=>rfl) ?a ?l ?c ?k
   (case a=>k_is);(case l=>k_is);(case c=>k_is);(case k=>k_is)
  obtain ⟨_,_,jg⟩:=jg
  have gu:∃ f fd,Def (L2.KOf KX) mg "_law_behind" My.Bx ["_law_turning_here","_law_s","_law_k"] f fd:=by
   dsimp only [L2.KOf];refine' ft KX G (fun _ _ _ _ _ _ us hl=>match us,hl with | [_,_,_],_=>rfl) ?a ?l ?c ?k
   (case a=>k_is);(case l=>k_is);(case c=>k_is);(case k=>k_is)
  obtain ⟨_,_,gu⟩:=gu
  have fN:∃ f fd,Def (L2.KOf KX) mg "_law_stepped" My.By ["_law_floor_here","_law_step"] f fd:=by
   dsimp only [L2.KOf];refine' ft KX G (fun _ _ _ _ _ _ us hl=>match us,hl with | [_,_],_=>rfl) ?a ?l ?c ?k
   (case a=>k_is);(case l=>k_is);(case c=>k_is);(case k=>k_is)
  obtain ⟨_,_,fN⟩:=fN
  have j7:∃ f fd,Def (L2.KOf KX) mg "_law_led" My.BA ["_law_floor_here","_law_word_here"] f fd:=by
   dsimp only [L2.KOf];refine' ft KX G (fun _ _ _ _ _ _ us hl=>match us,hl with | [_,_],_=>rfl) ?a ?l ?c ?k
   (case a=>k_is);(case l=>k_is);(case c=>k_is);(case k=>k_is)
  obtain ⟨_,_,j7⟩:=j7
  have lT:∃ f fd,Def (L2.KOf KX) mg "undone" My.BD ["table"] f fd:=by
   dsimp only [L2.KOf];refine' ft KX G (fun _ _ _ _ _ _ us hl=>match us,hl with | [_],_=>rfl) ?a ?l ?c ?k
   (case a=>k_is);(case l=>k_is);(case c=>k_is);(case k=>k_is)
  obtain ⟨_,_,lT⟩:=lT
  have iy:∃ f fd,Def (L2.KOf KX) mg "_law_right" My.BE ["_law_floor_here","_law_word_here"] f fd:=by
   dsimp only [L2.KOf];refine' ft KX G (fun _ _ _ _ _ _ us hl=>match us,hl with | [_,_],_=>rfl) ?a ?l ?c ?k
   (case a=>k_is);(case l=>k_is);(case c=>k_is);(case k=>k_is)
  obtain ⟨_,_,iy⟩:=iy
  have nP:∃ f fd,Def (L2.KOf KX) mg "law" My.D0 ["_law_script"] f fd:=by
   dsimp only [L2.KOf];refine' ft KX G (fun _ _ _ _ _ _ us hl=>match us,hl with | [_],_=>rfl) ?a ?l ?c ?k
   (case a=>k_is);(case l=>k_is);(case c=>k_is);(case k=>k_is)
  obtain ⟨_,_,nP⟩:=nP
  have e0:=hmg.symm.trans nP.m
  cases e0
  exact ⟨_,nP.qZ,fun base _ _=>L4.vt (My.wZ T kO kP i9 ja fJ jX ik gn jY gp fK dX eC kQ jb jZ ng kR jc gq lQ j4 lR nh il j5 kS gs lS ip fL j6 iq jd je kT fM jf eD iu iw eE jg gu fN j7 lT iy nP) fun ns hn=>let ⟨_,st,e,h⟩:=My.qw ns hn;⟨st,h ▸ e⟩⟩
 case S=>exact fun K H a ns hl hO hS=>⟨a,ns,rfl,hS.script hO,hl,fun _=>rfl⟩
 case C=>exact fun _ _ _ _ z=>z
