import PyProof.Rows.All
import Wide.All
import OpenK.AllK
import Wide.FinOn
import Lean
import PyProof.EqAt
import PyProof.EqKinds
import PyProof.TupleCall
import PyProof.DictIter
import PyProof.EnumMake
import KE.KSortTup
import KE.KDictLaws
import KE.KDictSum
import PyProof.StrLawsTight
import KE.KIntText
import PyProof.MinMaxWalk
import PyProof.WalkInts
import KE.KIsAll
import PyProof.ExcInit
import PyProof.NsDelKeeps
import PyProof.ExcBaseAll.ValueError
import OpenK.KOwn
import PyProof.ExcAttrAll.ValueError
import PyProof.InstStoreFacts
import PyProof.NoPylong
import PySem.Challenge.RW_shearfloor_k60_whole_words_of_one_table
set_option Elab.async false
set_option linter.all false
set_option maxRecDepth 100000
set_option maxHeartbeats 4000000
set_option genSizeOf false
noncomputable section
namespace L2
open PySem PySem.Spec PyProof.Rows
abbrev Key:=Sum Int Str
def lR:Key->Value->Bool
 | .inl k,v=>Value.isInt k v
 | .inr x,v=>Value.isStrOf x v
def Eo (w:World):Key->Int
 | .inl k=>hashInt k
 | .inr x=>hashStr w x
theorem qC:∀ {k:Key} {v:Value},lR k v=true->(∃ i t,k=Sum.inl i/\v=Value.int i t)\/(∃ x t,k=Sum.inr x/\v=Value.str x t)
 | .inl i,v,h=>by
  obtain ⟨t,e⟩:=Value.isInt_shape (k:=i) (v:=v) h
  exact .inl ⟨i,t,rfl,e⟩
 | .inr x,v,h=>by
  obtain ⟨t,e⟩:=Value.isStrOf_shape (x:=x) (v:=v) h
  exact .inr ⟨x,t,rfl,e⟩
theorem Lc (i:Int) (t:Tok):lR (.inl i) (.int i t)=true:=by simp [lR,Value.isInt]
theorem Ld (x:Str) (t:Tok):lR (.inr x) (.str x t)=true:=by simp [lR,Value.isStrOf]
theorem tR (a b:Int):decide ((Sum.inl a:Key)=Sum.inl b)=(a == b):=by
 by_cases e:a=b
 ·subst e;simp
 ·have h:¬ (Sum.inl a:Key)=Sum.inl b:=fun q=>e (Sum.inl.inj q)
  rw [decide_eq_false h]
  exact (beq_eq_false_iff_ne.mpr e).symm
theorem tT (a b:Str):decide ((Sum.inr a:Key)=Sum.inr b)=decide (a=b):=by
 by_cases e:a=b
 ·subst e;simp
 ·have h:¬ (Sum.inr a:Key)=Sum.inr b:=fun q=>e (Sum.inr.inj q)
  rw [decide_eq_false h,decide_eq_false e]
theorem tU (a:Int) (b:Str):decide ((Sum.inl a:Key)=Sum.inr b)=false:=decide_eq_false (fun q=>nomatch q)
theorem tV (a:Str) (b:Int):decide ((Sum.inr a:Key)=Sum.inl b)=false:=decide_eq_false (fun q=>nomatch q)
def cR (prog:Program) (w:World):PySem.KeyKind prog w Key where
 is:=lR
 hash:=Eo w
 inj:=fun v a b ha hb=>by
  rcases qC ha with ⟨i,t,rfl,rfl⟩ | ⟨x,t,rfl,rfl⟩
  ·rcases qC hb with ⟨j,u,rfl,e⟩ | ⟨y,u,rfl,e⟩
   ·injection e with e1 _;rw [e1]
   ·exact nomatch e
  ·rcases qC hb with ⟨j,u,rfl,e⟩ | ⟨y,u,rfl,e⟩
   ·exact nomatch e
   ·injection e with e1 _;rw [e1]
 byValue:=fun k v h=>by
  rcases qC h with ⟨i,t,rfl,rfl⟩ | ⟨x,t,rfl,rfl⟩ <;> rfl
 pyHash:=fun hv h=>by
  rcases qC hv with ⟨i,t,rfl,rfl⟩ | ⟨x,t,rfl,rfl⟩
  ·exact wpAny_pyHash_int h
  ·exact wpAny_pyHash_str h
 eqBool:=fun hu hv h=>by
  rcases qC hu with ⟨i,t,rfl,rfl⟩ | ⟨x,t,rfl,rfl⟩
  ·rcases qC hv with ⟨j,u,rfl,rfl⟩ | ⟨y,u,rfl,rfl⟩
   ·rw [tR] at h;exact wpAny_eqBool_int h
   ·rw [tU] at h;exact SeqAt.EqAt.int_str i t y u _ _ _ _ h
  ·rcases qC hv with ⟨j,u,rfl,rfl⟩ | ⟨y,u,rfl,rfl⟩
   ·rw [tV] at h;exact SeqAt.EqAt.str_int x t j u _ _ _ _ h
   ·rw [tT] at h;exact wpAny_eqBool_str h
 «strs»:=fun k x t v h=>by
  rcases qC h with ⟨i,u,rfl,e⟩ | ⟨y,u,rfl,e⟩
  ·exact nomatch e
  ·injection e with e1 _
   subst e1
   cases v <;> rfl
theorem Le (prog:Program) (w:World) (i:Int) (t:Tok):(cR prog w).is (.inl i) (.int i t)=true:=Lc i t
theorem Lf (prog:Program) (w:World) (x:Str) (t:Tok):(cR prog w).is (.inr x) (.str x t)=true:=Ld x t
end L2
namespace L2
open PySem PySem.Spec PyProof.Rows
inductive V where
 | non | bl (b:Bool) | int (i:Int) | str (x:Str) | oV (b:Array UInt8) | oA (b:UInt64) | ref (a:Addr) | ty (n:String)
 deriving DecidableEq
def RelV:V->Value->Prop
 | .non,u=>u=Value.none
 | .bl b,u=>u=Value.bool b
 | .int i,u=>∃ t,u=Value.int i t
 | .str x,u=>∃ t,u=Value.str x t
 | .oV b,u=>∃ t,u=Value.bytes b t
 | .oA b,u=>∃ t,u=Value.float b t
 | .ref a,u=>u=Value.ref a
 | .ty n,u=>u=Value.type n
abbrev Vals:List V->List Value->Prop:=Paired RelV
theorem Vals.length {xs:List V} {us:List Value} (r:Vals xs us):xs.length=us.length:=Paired.length r
theorem Vals.get:∀ {xs:List V} {us:List Value} {i:Nat} {x:V},Vals xs us->xs[i]?=some x->∃ u,us[i]?=some u/\RelV x u
 | _,_,_,_,.nil,e=>by simp at e
 | _,_,0,_,.cons r _,e=>by simp at e;subst e;exact ⟨_,rfl,r⟩
 | _,_,i + 1,x,.cons _ t,e=>by
  obtain ⟨u,h1,h2⟩:=Vals.get (i:=i) (x:=x) t (by simpa using e)
  exact ⟨u,by simpa using h1,h2⟩
theorem Vals.set {x:V} {u:Value} (r:RelV x u):∀ {xs:List V} {us:List Value} (i:Nat),Vals xs us->Vals (xs.set i x) (us.set i u)
 | _,_,_,.nil=>.nil
 | _,_,0,.cons _ t=>.cons r t
 | _,_,i + 1,.cons q t=>.cons q (Vals.set r i t)
theorem Vals.append:∀ {xs ys:List V} {us ws:List Value},Vals xs us->Vals ys ws->Vals (xs ++ ys) (us ++ ws)
 | _,_,_,_,.nil,s=>s
 | _,_,_,_,.cons r t,s=>.cons r (Vals.append t s)
theorem Vals.take:∀ {xs:List V} {us:List Value} (n:Nat),Vals xs us->Vals (xs.take n) (us.take n)
 | _,_,0,_=>.nil
 | _,_,_ + 1,.nil=>.nil
 | _,_,n + 1,.cons r t=>.cons r (Vals.take n t)
theorem Vals.drop:∀ {xs:List V} {us:List Value} (n:Nat),Vals xs us->Vals (xs.drop n) (us.drop n)
 | _,_,0,r=>r
 | _,_,_ + 1,.nil=>.nil
 | _,_,n + 1,.cons _ t=>Vals.drop n t
def oB:Option V->Option Value->Prop
 | some v,some u=>RelV v u
 | none,none=>True
 | _,_=>False
def KV {κ:Type}:List (κ×V)->List (κ×Value)->Prop:=Paired fun (p:κ×V) (q:κ×Value)=>p.1=q.1/\RelV p.2 q.2
def kV:Key->V
 | .inl i=>.int i
 | .inr x=>.str x
set_option genInjectivity false in
inductive HO where
 /-- a list -/
 | lst (xs:List V)
 /-- a tuple (never changes) -/
 | tup (xs:List V)
 /-- a dict whose keys are ints and texts;one whose keys are tuples of ints and texts (the empty one is both) -/
 | dK (kvs:List (Key×V)) | dT (kvs:List (List Key×V))
 /-- a set of ints: its members,its size -/
 | set (S:Int->Bool) (n:Nat)
 /-- an instance of the class at C,its dict at dx,its attributes -/
 | ins (C dx:Addr) (fs:List (Str×V))
 /-- the dict of the instance at x -/
 | own (x:Addr)
 /-- the dict of an exception -/
 | xd (fs:List (Str×V))
 /-- a bound method,f of x -/
 | met (f x:Addr)
 /-- a range object lo,lo + 1,.. below hi -/
 | il (lo hi:Int)
 /-- a thing that is known to the object (the script;a dict while a loop walks it): read,never written while it is so -/
 | lY (o:Obj) (u:HO)
 /-- a code yl table -/
 | tW (ps:Array Value)
 /-- any other thing,by what is true of its one object (a def of He own: Lg a S n:=HO.ext fun h=>..) -/
 | ext (φ:Heap->Prop)
abbrev Hp:=Addr->Option HO
def upd (H:Hp) (a:Addr) (o:HO):Hp:=fun b=>if b=a then some o else H b
theorem oR {H:Hp} {a:Addr} {o:HO}:upd H a o a=some o:=by unfold upd;rw [if_pos rfl]
theorem iQ {H:Hp} {a b:Addr} {o:HO} (h:b≠a):upd H a o b=H b:=by unfold upd;rw [if_neg h]
theorem Ep {H:Hp} {a b:Addr} {o u:HO} (h:H a=some o) (h':H b=some u) (d:o≠u):a≠b:=by
 intro e;subst e;rw [h] at h';exact d (Option.some.inj h')
theorem xt {H:Hp} {a b:Addr} {o:HO} (h:H a=some o) (h':H b=none):a≠b:=by
 intro e;subst e;rw [h] at h';cases h'
def kZ (h:Heap) (a:Addr) (its:Array Value):Prop:=∃ o,h.get? a=some o/\o.cls=.type "tuple" /\ o.dict=none/\∃ n,o.data=.seq its n
theorem kZ.tup {h:Heap} {a:Addr} {its:Array Value} (x:kZ h a its):IsTup h a its:=let ⟨o,e,c,_,n,d⟩:=x;⟨o,e,c,n,d⟩
theorem kZ.new (h:Heap) (its:Array Value):kZ (h.push { cls:=.type "tuple",data:=.seq its }) h.objs.size its:=⟨_,Heap.get?_push_size _ rfl,rfl,rfl,_,rfl⟩
section
variable (P:Program) (w:World)
def cK (H:Hp) (h:Heap) (a:Addr):HO->Prop
 | .lst xs=>xs.length<=sizeLine/\∃ (its:List Value) (n:Nat),Vals xs its/\h.get? a=some { cls:=.type "list",data:=.seq its.toArray n }
 | .tup xs=>xs.length<=sizeLine/\∃ its:List Value,Vals xs its/\kZ h a its.toArray
 | .dK kvs=>kvs.length<=sizeLine/\(a == sysModules)=false/\∃ vs,KV kvs vs/\h.DictOf (cR P w) a vs
 | .dT kvs=>kvs.length<=sizeLine/\(a == sysModules)=false/\∃ xs:List (List Key×Addr×Value),
   Paired (fun (p:List Key×V) (q:List Key×Addr×Value)=>p.1=q.1/\H q.2.1=some (.tup (p.1.map kV))/\RelV p.2 q.2.2) kvs xs /\
   ∃ o es ep,h.get? a=some o/\o.ExactDict/\o.data=.dict es ep/\es.toList=xs.map (entryOfKey (tupleKind (cR P w)))/\(xs.map (·.1)).Nodup
 | .set S n=>h.SetOf (intKind P w) a S n
 | .ins C dx fs=>H dx=some (.own a)/\fs.length<=1000/\dx≠a/\h.get? a=some (PySem.W.instObj C dx) /\
   ∃ mA,h.Ns1 dx mA/\(∀ f,oB (fs.lookup f) (mA f))/\PySem.Within mA (fs.map (·.1))
 | .own _=>∃ o,h.get? a=some o
 | .xd fs=>∃ mA,h.Ns1 a mA/\∀ f,oB (fs.lookup f) (mA f)
 | .il lo hi=>∃ t u v,h.get? a=some { cls:=.type "range",data:=.fields #[.int lo t,.int hi u,.int 1 v] }
 | .lY o u=>h.get? a=some o/\cK H h a u
 | .tW ps=>h.get? a=some { cls:=.none,data:=.fields ps }
 | .met f x=>h.get? a=some (PySem.W.methodObj (.ref f) (.ref x))
 | .ext φ=>φ h/\(∃ o,h.get? a=some o)/\∀ h1 h2:Heap,φ h1->(∀ o,h1.get? a=some o->h2.get? a=some o)->φ h2
def jJ (H:Hp) (h:Heap):Prop:=∀ a o,H a=some o->cK P w H h a o
end
section
variable {P:Program} {w:World} {H H':Hp} {h h':Heap} {a:Addr} {o:HO}
theorem cK.lt (x:cK P w H h a o):a < h.objs.size:=by
 cases o with
 | lst xs=>obtain ⟨_,_,_,_,e⟩:=x;exact Heap.lt_size e
 | tup xs=>obtain ⟨_,_,_,_,e,_⟩:=x;exact Heap.lt_size e
 | dK kvs=>obtain ⟨_,_,_,_,o,_,_,e,_⟩:=x;exact Heap.lt_size e
 | dT kvs=>obtain ⟨_,_,_,_,o,_,_,e,_⟩:=x;exact Heap.lt_size e
 | set S n=>obtain ⟨o,_,_,_,e,_⟩:=x;exact Heap.lt_size e
 | ins C dx fs=>obtain ⟨_,_,_,e,_⟩:=x;exact Heap.lt_size e
 | own y=>obtain ⟨_,e⟩:=x;exact Heap.lt_size e
 | xd fs=>obtain ⟨_,⟨_,_,_,e,_⟩,_⟩:=x;exact Heap.lt_size e
 | il lo hi=>obtain ⟨_,_,_,e⟩:=x;exact Heap.lt_size e
 | lY ob u=>obtain ⟨e,_⟩:=x;exact Heap.lt_size e
 | tW ps=>exact Heap.lt_size (show h.get? a=some _ from x)
 | met f y=>exact Heap.lt_size (show h.get? a=some _ from x)
 | ext φ=>obtain ⟨_,⟨_,e⟩,_⟩:=x;exact Heap.lt_size e
theorem Paired.tZ {α β:Type} {F G:α->β->Prop}:∀ {l₁:List α} {l₂:List β},Paired F l₁ l₂->(∀ a b,F a b->G a b)->Paired G l₁ l₂
 | _,_,.nil,_=>.nil
 | _,_,.cons r t,f=>.cons (f _ _ r) (Paired.tZ t f)
theorem cK.stay (x:cK P w H h a o) (k:∀ b u,(b=a\/H b=some (.own a))->h.get? b=some u->h'.get? b=some u)
  (ho:∀ b,H b=some (.own a)->H' b=some (.own a)) (ht:∀ b xs,H b=some (.tup xs)->H' b=some (.tup xs)):cK P w H' h' a o:=by
 induction o with
 | lst xs=>obtain ⟨z,its,n,r,e⟩:=x;exact ⟨z,its,n,r,k _ _ (.inl rfl) e⟩
 | tup xs=>obtain ⟨z,its,r,ob,e,c⟩:=x;exact ⟨z,its,r,ob,k _ _ (.inl rfl) e,c⟩
 | dK kvs=>obtain ⟨z,y,vs,r,ob,es,ep,e,c⟩:=x;exact ⟨z,y,vs,r,ob,es,ep,k _ _ (.inl rfl) e,c⟩
 | dT kvs =>
  obtain ⟨z,y,xs,r,ob,es,ep,e,c⟩:=x
  exact ⟨z,y,xs,Paired.tZ r fun p q z=>⟨z.1,ht _ _ z.2.1,z.2.2⟩,ob,es,ep,k _ _ (.inl rfl) e,c⟩
 | set S n=>obtain ⟨ob,es,ep,t,e,c⟩:=x;exact ⟨ob,es,ep,t,k _ _ (.inl rfl) e,c⟩
 | ins C dx fs =>
  obtain ⟨d,z,ne,e,mA,⟨od,es,ep,e2,c⟩,r⟩:=x
  exact ⟨ho _ d,z,ne,k _ _ (.inl rfl) e,mA,⟨od,es,ep,k _ _ (.inr d) e2,c⟩,r⟩
 | own y=>obtain ⟨ob,e⟩:=x;exact ⟨ob,k _ _ (.inl rfl) e⟩
 | xd fs=>obtain ⟨mA,⟨od,es,ep,e,c⟩,r⟩:=x;exact ⟨mA,⟨od,es,ep,k _ _ (.inl rfl) e,c⟩,r⟩
 | il lo hi=>obtain ⟨t,u,v,e⟩:=x;exact ⟨t,u,v,k _ _ (.inl rfl) e⟩
 | lY ob u ih=>obtain ⟨e,q⟩:=x;exact ⟨k _ _ (.inl rfl) e,ih q⟩
 | tW ps =>
  have e:h.get? a=some { cls:=.none,data:=.fields ps }:=x
  show h'.get? a=some { cls:=.none,data:=.fields ps }
  exact k a _ (.inl rfl) e
 | met f y =>
  have e:h.get? a=some (PySem.W.methodObj (.ref f) (.ref y)):=x
  show h'.get? a=some (PySem.W.methodObj (.ref f) (.ref y))
  exact k a _ (.inl rfl) e
 | ext φ=>obtain ⟨p,⟨o,e⟩,st⟩:=x;exact ⟨st _ _ p fun o q=>k _ _ (.inl rfl) q,⟨o,k _ _ (.inl rfl) e⟩,st⟩
theorem jJ.lt (x:jJ P w H h) (e:H a=some o):a < h.objs.size:=(x a o e).lt
theorem jJ.fresh (x:jJ P w H h) (e:h.objs.size<=a):H a=none:=by
 cases q:H a with
 | none=>rfl
 | some u=>exact absurd (Nat.lt_of_lt_of_le (x.lt q) e) (Nat.lt_irrefl _)
theorem jJ.kept (x:jJ P w H h) (k:∀ b u,h.get? b=some u->h'.get? b=some u):jJ P w H h':=fun a o e =>
 (x a o e).stay (fun b u _ q=>k b u q) (fun _ q=>q) fun _ _ q=>q
theorem jJ.laid (x:jJ P w H h) (k:∀ b u,h.get? b=some u->h'.get? b=some u) (hp:h.objs.size<=a) (new:cK P w (upd H a o) h' a o):jJ P w (upd H a o) h':=fun b u e=>by
 have hn:=x.fresh hp
 by_cases hb:b=a
 ·subst hb;rw [oR] at e;cases e;exact new
 ·rw [iQ hb] at e
  exact (x b u e).stay (fun c v _ q=>k c v q) (fun c q=>by rw [iQ (xt q hn)];exact q) fun c xs q=>by rw [iQ (xt q hn)];exact q
end
def Rd (H:Hp) (a:Addr) (u:HO):Prop:=H a=some u\/∃ o,H a=some (.lY o u)
theorem Rd.ok {P:Program} {w:World} {H:Hp} {h:Heap} {a:Addr} {u:HO} (r:Rd H a u) (x:jJ P w H h):cK P w H h a u:=by
 rcases r with r | ⟨o,r⟩
 ·exact x a u r
 ·obtain ⟨_,q⟩:=x a _ r
  exact q
def ym:Option HO->Prop
 | some (.lst _)=>True
 | some (.dK _)=>True
 | some (.dT _)=>True
 | some (.set _ _)=>True
 | some (.ins _ _ _)=>True
 | some (.ext _)=>True
 | _=>False
section
variable {P:Program} {w:World} {H:Hp} {h h':Heap} {x e:Addr} {o':HO}
theorem jJ.write (ok:jJ P w H h) (mu:ym (H x)) (he:e=x\/H e=some (.own x)) (k:∀ b u,b≠e->h.get? b=some u->h'.get? b=some u) (xu:∃ u,h'.get? e=some u)
  (new:cK P w (upd H x o') h' x o'):jJ P w (upd H x o') h':=fun b u q=>by
 have yn:∀ c y,H c=some (.own y)->c≠x:=fun c y r z=>by subst z;rw [r] at mu;exact mu
 have Er:∀ c xs,H c=some (.tup xs)->c≠x:=fun c xs r z=>by subst z;rw [r] at mu;exact mu
 by_cases hb:b=x
 ·subst hb;rw [oR] at q;cases q;exact new
 ·rw [iQ hb] at q
  by_cases uc:b=e
  ·have q':H b=some (.own x):=by
    rcases he with z | z
    ·exact absurd (uc.trans z) hb
    ·rw [uc];exact z
   rw [q] at q';cases q'
   obtain ⟨v,hv⟩:=xu
   exact ⟨v,by rw [uc];exact hv⟩
  ·refine (ok b u q).stay (fun c v hc r=>k c v ?_ r) (fun c r=>by rw [iQ (yn c b r)];exact r) fun c xs r=>by rw [iQ (Er c xs r)];exact r
   rcases hc with rfl | hc
   ·exact uc
   ·rintro rfl
    rcases he with z | z
    ·exact yn c b hc z
    ·rw [hc] at z;cases z;exact hb rfl
end
structure Un (fs ex:List Addr) (H H':Hp) (h h':Heap):Prop where
 keep:∀ b o,h.get? b=some o->H b=none->b ∉ fs->b ∉ ex->h'.get? b=some o
 slot:∀ b o,h.get? b=some o->H b=none->b∈fs->b ∉ ex->∃ sl,h'.get? b=some { o with slots:=sl }
 free:∀ b o,h.get? b=some o->H b=none->b ∉ ex->H' b=none
 there:∀ b o,h.get? b=some o->b ∉ ex->∃ o',h'.get? b=some o'
 tups:∀ b xs,H b=some (.tup xs)->H' b=some (.tup xs)
 lZ:∀ b o u,H b=some (.lY o u)->H' b=some (.lY o u)
 mI:∀ b ps,H b=some (.tW ps)->∃ more,H' b=some (.tW (ps ++ more))
section
variable {fs fs' ex ex':List Addr} {H H1 H2:Hp} {h h1 h2 h':Heap} {a x e:Addr} {o:HO}
theorem Un.any (u:Un fs ex H H1 h h1) {b:Addr} {ob:Obj} (q:h.get? b=some ob) (n:H b=none) (hx:b ∉ ex):∃ sl,h1.get? b=some { ob with slots:=sl }:=by
 by_cases hb:b∈fs
 ·exact u.slot b ob q n hb hx
 ·exact ⟨ob.slots,u.keep b ob q n hb hx⟩
theorem Un.kept (k:∀ b u,h.get? b=some u->h'.get? b=some u):Un fs ex H H h h' :=
 ⟨fun b ob q _ _ _=>k b ob q,fun b ob q _ _ _=>⟨ob.slots,k b ob q⟩,fun _ _ _ n _=>n,fun b ob q _=>⟨ob,k b ob q⟩,fun _ _ q=>q,fun _ _ _ q=>q,fun _ ps q=>⟨#[],by rw [q];simp⟩⟩
theorem Un.refl:Un fs ex H H h h:=Un.kept fun _ _ q=>q
theorem Un.laid (k:∀ b u,h.get? b=some u->h'.get? b=some u) (hp:h.objs.size<=a) (hn:H a=none):Un fs ex H (upd H a o) h h' where
 keep:=fun b u q _ _ _=>k b u q
 slot:=fun b u q _ _ _=>⟨u.slots,k b u q⟩
 free:=fun b u q n _=>by rw [iQ (Nat.ne_of_lt (Nat.lt_of_lt_of_le (Heap.lt_size q) hp))];exact n
 there:=fun b u q _=>⟨u,k b u q⟩
 tups:=fun b xs q=>by rw [iQ (xt q hn)];exact q
 lZ:=fun b u xs q=>by rw [iQ (xt q hn)];exact q
 mI:=fun b ps q=>⟨#[],by rw [iQ (xt q hn),q];simp⟩
theorem Un.write (mu:ym (H x)) (he:e=x\/H e=some (.own x)) (k:∀ b u,b≠e->h.get? b=some u->h'.get? b=some u) (xu:∃ u,h'.get? e=some u):Un fs ex H (upd H x o) h h':=by
 have hx:∀ b,H b=none->b≠x:=fun b n z=>by subst z;rw [n] at mu;exact mu
 have hb:∀ b,H b=none->b≠e:=fun b n z=>by
  subst z
  rcases he with r | r
  ·exact hx b n r
  ·rw [n] at r;cases r
 have hm:∀ b u,H b=some u->¬ ym (some u)->b≠x:=fun b u q nm z=>by subst z;rw [q] at mu;exact nm mu
 refine ⟨fun b u q n _ _=>k b u (hb b n) q,fun b u q n _ _=>⟨u.slots,k b u (hb b n) q⟩,fun b u q n _=>by rw [iQ (hx b n)];exact n,fun b u q _=>?_,
  fun b xs q=>by rw [iQ (hm b _ q fun z=>z)];exact q,fun b u xs q=>by rw [iQ (hm b _ q fun z=>z)];exact q,fun b ps q=>⟨#[],by rw [iQ (hm b _ q fun z=>z),q];simp⟩⟩
 by_cases uc:b=e
 ·subst uc;exact xu
 ·exact ⟨u,k b u uc q⟩
end
def Cb (h:Heap) (H:Hp):List Addr:=(List.range h.objs.size).filter fun a=>(H a).isSome
def l6 (h:Heap) (H:Hp):Heap:=PySem.W.hideAll h (Cb h H)
theorem Lh (h:Heap) (H:Hp):(l6 h H).objs.size=h.objs.size:=PySem.W.hideAll_size _ _
theorem Li {h:Heap} {H:Hp} {b:Addr} {o:Obj} (e:h.get? b=some o) (n:H b=none):(l6 h H).get? b=some o :=
 PySem.W.hideAll_get _ e fun hm=>by
  have q:(H b).isSome=true:=(List.mem_filter.mp hm).2
  rw [n] at q;simp at q
theorem Lj {h:Heap} {H:Hp} {b:Addr} {o:Obj} (e:(l6 h H).get? b=some o):h.get? b=some o/\H b=none:=by
 have e':h.get? b=some o:=PySem.W.of_hideAll (Cb h H) e
 refine ⟨e',?_⟩
 cases q:H b with
 | none=>rfl
 | some x =>
  have hm:b∈Cb h H:=List.mem_filter.mpr ⟨List.mem_range.mpr (Heap.lt_size e'),by simp [q]⟩
  have z:(l6 h H).get? b=none:=PySem.W.hideAll_none (Cb h H) hm
  rw [z] at e;cases e
def qD (g h:Heap) (L:Addr):List (Addr×Obj):=(List.range h.objs.size).filterMap fun a=>if a=L\/(g.get? a).isSome=true then none else (h.get? a).map fun o=>(a,o)
def rest (g h:Heap) (L d:Addr):List (Addr×Obj):=(qD g h L).filter fun p=>decide (p.1≠d)
end L2
namespace L2
open PySem PySem.Spec PyProof.Rows
structure Mod (K:PySem.W.Frag) (mg:Str->Option Value) (base:Heap):Prop where
 Es:K.In base
 glob:base.Ns mainGlobals mg
 blt:∃ mb,base.Ns builtinsNs mb/\∀ x:Str,x≠"__name__" -> mb x=bootBuiltins x
 nolimit:base.NoLimit
set_option genInjectivity false in
structure Cx where
 prog:Program
 w:World
 K:PySem.W.Frag
 mg:Str->Option Value
 base:Heap
 A:Around
 N:List Str
 s₀:Shared
 H₀:Hp
 env:Env
 outer:List Env
 stack:List Env
 ex:List Addr
 fn:Str->Bool
 calm:Bool
 pn:List (Addr×Obj)
 xe:Value->Shared->Prop
def frs (l:List Env):List Addr:=l.filterMap (·.frame)
abbrev Cx.fs (X:Cx):List Addr:=frs X.outer
def Et (sc:Scope) (x:Str):Prop:=sc.names.lookup x=some .local\/sc.names.lookup x=some .cell\/sc.names.lookup x=some .free
def Loc (sc:Scope) (x:Str):Prop:=sc.names.lookup x=some .local\/sc.names.lookup x=some .cell
def Look (env:Env) (h:Heap) (m:Str->Option Value) (x:Str) (u:Value):Prop :=
 (env.kindOf x=some .local/\m x=some u)\/((env.kindOf x=some .cell\/env.kindOf x=some .free)/\∃ c,env.cells.lookup x=some c/\h.IsCell c (some u))
structure Cx.Ok (X:Cx):Prop where
 mod:Mod X.K X.mg X.base
 kind:X.env.scope.kind=.function
 glob:X.env.globals=mainGlobals
 blt:X.env.builtins=builtinsNs
 above:X.s₀.heap.objs.size<=X.env.locals
 inj:∀ x y c,X.env.cells.lookup x=some c->X.env.cells.lookup y=some c->x=y
 has:∀ x,(X.env.kindOf x=some .cell\/X.env.kindOf x=some .free)->∃ c,X.env.cells.lookup x=some c
 yo:∀ x c,X.fn x=true->X.env.cells.lookup x=some c->X.s₀.heap.objs.size<=c
 hd:X.calm=true->X.A.handled=none
 frames:X.A.frames=some X.stack
 stk:X.stack=X.outer\/(X.stack=X.env :: X.outer/\X.env.frame=some X.env.locals)
 Hf:∀ b∈X.ex,b≠X.env.locals/\∀ x c,X.env.cells.lookup x=some c->c≠b
 bs:∀ b o,X.base.get? b=some o->X.s₀.heap.get? b=some o/\X.H₀ b=none
 rE:X.base.objs.size<=X.s₀.heap.objs.size
 oW:∀ b o,X.base.get? b=some o->b ∉ X.ex
 qE:∀ b∈X.ex,b ∉ X.fs
 la:X.s₀.heap.FunFrames X.base X.outer
 xv:∀ b∈X.fs,X.H₀ b=none
structure Inv (X:Cx) (pins:List (Addr×Obj)) (σ:List (Option V)) (H:Hp) (s:Shared):Prop where
 ok:X.Ok
 os:s.os=X.s₀.os
 bare:AllBare s.gens
 base:Un X.fs X.ex X.H₀ H X.s₀.heap s.heap
 loc:∃ m,s.heap.Ns X.env.locals m/\∀ (i:Nat) (x:Str) (v:V),X.N[i]?=some x->σ[i]?=some (some v)->Et X.env.scope x->∃ u,RelV v u/\Look X.env s.heap m x u
 cell:∀ x c,X.env.cells.lookup x=some c->∃ v,s.heap.IsCell c v
 free:H X.env.locals=none
 jg:∀ x c,X.env.cells.lookup x=some c->H c=none
 pin:∀ p∈X.pn ++ pins,s.heap.get? p.1=some p.2/\H p.1=none/\p.1≠X.env.locals/\p.1 ∉ X.fs/\∀ v,p.2.data≠.cell v
 hok:jJ X.prog X.w H s.heap
 len:σ.length=X.N.length
section
variable {X:Cx} {pins:List (Addr×Obj)} {σ:List (Option V)} {H H':Hp} {s:Shared} {h':Heap}
theorem Cx.Ok.Eu (ok:X.Ok) {b:Addr} {o:Obj} (e:X.base.get? b=some o):b ∉ X.fs:=fun hb=>by
 have:=(ok.la.mem hb).1
 rw [e] at this;cases this
theorem Inv.bs (I:Inv X pins σ H s):∀ b o,X.base.get? b=some o->s.heap.get? b=some o/\H b=none:=fun b o e =>
 ⟨I.base.keep b o (I.ok.bs b o e).1 (I.ok.bs b o e).2 (I.ok.Eu e) (I.ok.oW b o e),I.base.free b o (I.ok.bs b o e).1 (I.ok.bs b o e).2 (I.ok.oW b o e)⟩
theorem Inv.bk (I:Inv X pins σ H s):∀ b o,X.base.get? b=some o->s.heap.get? b=some o:=fun b o e=>(I.bs b o e).1
theorem Inv.mod (I:Inv X pins σ H s):Mod X.K X.mg X.base:=I.ok.mod
theorem Inv.Cc (I:Inv X pins σ H s):X.K.In s.heap:=I.ok.mod.Es.keeps I.bk
theorem Inv.lt (I:Inv X pins σ H s):X.env.locals < s.heap.objs.size:=let ⟨_,hn,_⟩:=I.loc;hn.lt
theorem Inv.sz (I:Inv X pins σ H s):X.s₀.heap.objs.size<=s.heap.objs.size:=Nat.le_trans I.ok.above (Nat.le_of_lt I.lt)
theorem Inv.yp (I:Inv X pins σ H s) {a:Addr} (h:s.heap.objs.size<=a):a ∉ X.fs:=fun hb=>by
 obtain ⟨_,o,ho,_⟩:=I.ok.la.mem hb
 exact absurd (Nat.lt_of_lt_of_le (Heap.lt_size ho) (Nat.le_trans I.sz h)) (Nat.lt_irrefl _)
theorem Inv.ud (I:Inv X pins σ H s):∀ x c,X.env.cells.lookup x=some c->c≠X.env.locals:=fun x c e z=>by
 obtain ⟨v,o,ho,hd⟩:=I.cell x c e
 obtain ⟨m,⟨o',es,ep,ho',hd',_⟩,_⟩:=I.loc
 rw [z,ho'] at ho;cases ho;rw [hd'] at hd;cases hd
theorem Inv.la (I:Inv X pins σ H s):s.heap.FunFrames X.base X.outer:=by
 have all:∀ (l:List Env),(∀ b∈frs l,b∈X.fs)->X.s₀.heap.FunFrames X.base l->s.heap.FunFrames X.base l:=by
  intro l
  induction l with
  | nil=>intro _ _;trivial
  | cons env r ih =>
   intro hs hl
   obtain ⟨hk,⟨L,o,hf,hn,ho,hd⟩,hr⟩:=hl
   have hL:L∈X.fs:=hs L (by unfold frs;rw [List.filterMap_cons,hf];exact List.mem_cons_self)
   obtain ⟨sl,e⟩:=I.base.slot L o ho (I.ok.xv L hL) hL fun z=>I.ok.qE L z hL
   exact ⟨hk,⟨L,_,hf,hn,e,hd⟩,ih (fun b hb=>hs b (by unfold frs;rw [List.filterMap_cons,hf];exact List.mem_cons_of_mem _ hb)) hr⟩
 exact all X.outer (fun _ hb=>hb) I.ok.la
theorem Inv.stack (I:Inv X pins σ H s):s.heap.FunFrames X.base X.stack:=by
 rcases I.ok.stk with e | ⟨e,hf⟩
 ·rw [e];exact I.la
 ·rw [e]
  obtain ⟨m,hn,_⟩:=I.loc
  refine .cons (by rw [I.ok.kind];decide) hf hn ?_ I.la
  exact Heap.get?_none_of_le (Nat.le_trans I.ok.rE I.ok.above)
theorem Inv.lb (I:Inv X pins σ H s):∀ b∈frs X.stack,b∈X.env.locals :: X.fs:=fun b hb=>by
 rcases I.ok.stk with e | ⟨e,hf⟩
 ·rw [e] at hb;exact List.mem_cons_of_mem _ hb
 ·rw [e] at hb
  unfold frs at hb
  rw [List.filterMap_cons,hf] at hb
  exact hb
theorem Inv.nP (I:Inv X pins σ H s):∀ b∈frs X.stack,H b=none:=fun b hb=>by
 rcases List.mem_cons.mp (I.lb b hb) with e | hb
 ·rw [e];exact I.free
 ·obtain ⟨_,o,ho,_⟩:=I.ok.la.mem hb
  exact I.base.free b o ho (I.ok.xv b hb) fun z=>I.ok.qE b z hb
theorem Inv.step {g':Array GenState} {t':Nat} {d':Drawn} {ch:List Addr} (I:Inv X pins σ H s)
  (hch:∀ b∈ch,(b∈X.ex\/X.s₀.heap.objs.size<=b)/\b≠X.env.locals/\(∀ x c,X.env.cells.lookup x=some c->c≠b)/\∀ p∈X.pn ++ pins,p.1≠b)
  (keep:∀ b o,b≠X.env.locals->b ∉ X.fs->b ∉ ch->s.heap.get? b=some o->H b=none->h'.get? b=some o)
  (slot:∀ b o,b≠X.env.locals->b∈X.fs->b ∉ ch->s.heap.get? b=some o->H b=none->∃ sl,h'.get? b=some { o with slots:=sl }) (free:∀ b o,b ∉ ch->s.heap.get? b=some o->H b=none->H' b=none)
  (there:∀ b o,b ∉ ch->s.heap.get? b=some o->∃ o',h'.get? b=some o')
  (tups:∀ b xs,H b=some (.tup xs)->H' b=some (.tup xs)) (lZ:∀ b o u,H b=some (.lY o u)->H' b=some (.lY o u)) (mI:∀ b ps,H b=some (.tW ps)->∃ more,H' b=some (.tW (ps ++ more)))
  (ns:∀ m,s.heap.Ns X.env.locals m->h'.Ns X.env.locals m) (hok:jJ X.prog X.w H' h') (hg:AllBare g') :
  Inv X pins σ H' { s with heap:=h',gens:=g',drawn:=d',toks:=t' }:=by
 have uf:∀ b o,X.s₀.heap.get? b=some o->b≠X.env.locals:=fun b o e=>Nat.ne_of_lt (Nat.lt_of_lt_of_le (Heap.lt_size e) I.ok.above)
 have Cd:∀ b o,X.s₀.heap.get? b=some o->b ∉ X.ex->b ∉ ch:=fun b o e hx hb=>by
  rcases (hch b hb).1 with z | z
  ·exact hx z
  ·exact absurd (Nat.lt_of_lt_of_le (Heap.lt_size e) z) (Nat.lt_irrefl _)
 have cellK:∀ x c,X.env.cells.lookup x=some c->∀ v,s.heap.IsCell c v->h'.IsCell c v:=fun x c e v ⟨o,ho,hd⟩=>by
  have yq:c ∉ ch:=fun z=>(hch c z).2.2.1 x c e rfl
  by_cases hc:c∈X.fs
  ·obtain ⟨sl,q⟩:=slot c o (I.ud x c e) hc yq ho (I.jg x c e)
   exact ⟨_,q,hd⟩
  ·exact ⟨o,keep c o (I.ud x c e) hc yq ho (I.jg x c e),hd⟩
 refine ⟨I.ok,I.os,hg,⟨fun b o e n hb hx=>?_,fun b o e n hb hx=>?_,fun b o e n hx=>?_,fun b o e hx=>?_,fun b xs e=>tups b xs (I.base.tups b xs e),fun b o xs e=>lZ b o xs (I.base.lZ b o xs e),fun b ps e=>?_⟩,?_,fun x c e=>?_,?_,fun x c e=>?_,fun p hp=>?_,hok,I.len⟩
 ·exact keep b o (uf b o e) hb (Cd b o e hx) (I.base.keep b o e n hb hx) (I.base.free b o e n hx)
 ·obtain ⟨sl,e1⟩:=I.base.slot b o e n hb hx
  obtain ⟨Lk,e2⟩:=slot b _ (uf b o e) hb (Cd b o e hx) e1 (I.base.free b o e n hx)
  exact ⟨Lk,e2⟩
 ·obtain ⟨o',e1⟩:=I.base.there b o e hx
  exact free b o' (Cd b o e hx) e1 (I.base.free b o e n hx)
 ·obtain ⟨o',e1⟩:=I.base.there b o e hx
  exact there b o' (Cd b o e hx) e1
 ·obtain ⟨m1,e1⟩:=I.base.mI b ps e
  obtain ⟨m2,e2⟩:=mI b _ e1
  exact ⟨m1 ++ m2,by rw [e2,Array.append_assoc]⟩
 ·obtain ⟨m,hn,hl⟩:=I.loc
  refine ⟨m,ns m hn,fun i x v e1 e2 e3=>?_⟩
  obtain ⟨u,r,l⟩:=hl i x v e1 e2 e3
  refine ⟨u,r,?_⟩
  rcases l with l | ⟨k,c,e,z⟩
  ·exact .inl l
  ·exact .inr ⟨k,c,e,cellK x c e _ z⟩
 ·obtain ⟨v,z⟩:=I.cell x c e
  exact ⟨v,cellK x c e v z⟩
 ·obtain ⟨m,⟨o,_,_,ho,_⟩,_⟩:=I.loc
  exact free _ o (fun z=>(hch _ z).2.1 rfl) ho I.free
 ·obtain ⟨v,o,ho,hd⟩:=I.cell x c e
  exact free c o (fun z=>(hch c z).2.2.1 x c e rfl) ho (I.jg x c e)
 ·obtain ⟨e,n,ne,nf,d⟩:=I.pin p hp
  have yq:p.1 ∉ ch:=fun z=>(hch p.1 z).2.2.2 p hp rfl
  exact ⟨keep p.1 p.2 ne nf yq e n,free p.1 p.2 yq e n,ne,nf,d⟩
theorem Inv.un {t':Nat} (I:Inv X pins σ H s) (u:Un X.fs [] H H' s.heap h') (hok:jJ X.prog X.w H' h'):Inv X pins σ H' { s with heap:=h',toks:=t' }:=by
 obtain ⟨m,⟨o,es,ep,ho,r⟩,_⟩:=id I.loc
 obtain ⟨sl,hL⟩:=u.any ho I.free (by simp)
 exact I.step (g':=s.gens) (d':=s.drawn) (ch:=[]) (fun _ z=>nomatch z) (fun b o _ hb _ e n=>u.keep b o e n hb (by simp)) (fun b o _ hb _ e n=>u.slot b o e n hb (by simp)) (fun b o _ e n=>u.free b o e n (by simp)) (fun b o _ e=>u.there b o e (by simp)) u.tups u.lZ u.mI (fun m' hm=>by
  obtain ⟨o',es',Ew,ho',r'⟩:=hm
  rw [ho] at ho';cases ho'
  exact ⟨_,es',Ew,hL,r'⟩) hok I.bare
theorem Inv.call {g':Array GenState} {t':Nat} {d':Drawn} {ch:List Addr} (I:Inv X pins σ H s) (u:Un (frs X.stack) ch H H' s.heap h') (hok:jJ X.prog X.w H' h') (hg:AllBare g')
  (hch:∀ b∈ch,(b∈X.ex\/X.s₀.heap.objs.size<=b)/\b≠X.env.locals/\(∀ x c,X.env.cells.lookup x=some c->c≠b)/\∀ p∈X.pn ++ pins,p.1≠b) :
  Inv X pins σ H' { s with heap:=h',gens:=g',drawn:=d',toks:=t' }:=by
 obtain ⟨m,⟨o,es,ep,ho,r⟩,_⟩:=id I.loc
 obtain ⟨sl,hL⟩:=u.any ho I.free fun z=>(hch _ z).2.1 rfl
 exact I.step (ch:=ch) hch (fun b o hL hb hc e n=>u.keep b o e n (fun z=>(List.mem_cons.mp (I.lb b z)).elim hL hb) hc) (fun b o _ _ hc e n=>u.any e n hc) (fun b o hc e n=>u.free b o e n hc) (fun b o hc e=>u.there b o e hc) u.tups u.lZ u.mI (fun m' hm=>by
  obtain ⟨o',es',Ew,ho',r'⟩:=hm
  rw [ho] at ho';cases ho'
  exact ⟨_,es',Ew,hL,r'⟩) hok hg
theorem Inv.turned {t':Nat} {it:Addr} (I:Inv X pins σ H s) (k:∀ b o,b≠it->s.heap.get? b=some o->h'.get? b=some o) (hn:H it=none) (hL:it≠X.env.locals)
  (h1:it∈X.ex\/X.s₀.heap.objs.size<=it) (h2:∀ x c,X.env.cells.lookup x=some c->c≠it) (h3:∀ p∈X.pn ++ pins,p.1≠it):Inv X pins σ H { s with heap:=h',toks:=t' }:=by
 have yr:∀ b u,H b=some u->b≠it:=fun b u e z=>by rw [z,hn] at e;cases e
 refine I.step (g':=s.gens) (d':=s.drawn) (ch:=[it]) (fun b hb=>?_) (fun b o _ _ hc e _=>k b o (fun z=>hc (by simp [z])) e) (fun b o _ _ hc e _=>⟨o.slots,k b o (fun z=>hc (by simp [z])) e⟩) (fun _ _ _ _ n=>n)
  (fun b o hc e=>⟨o,k b o (fun z=>hc (by simp [z])) e⟩) (fun _ _ e=>e) (fun _ _ _ e=>e) (fun b ps e=>⟨#[],by rw [e];simp⟩) (fun m hm=>?_) (fun b u e=>?_) I.bare
 ·have e:b=it:=by simpa using hb
  subst e
  exact ⟨h1,hL,h2,h3⟩
 ·obtain ⟨o,es,ep,ho,r⟩:=hm
  exact ⟨o,es,ep,k _ o (Ne.symm hL) ho,r⟩
 ·refine (I.hok b u e).stay (fun c v hc q=>k c v ?_ q) (fun _ q=>q) fun _ _ q=>q
  rcases hc with z | z
  ·rw [z];exact yr b u e
  ·exact yr c _ z
theorem Inv.tok (I:Inv X pins σ H s) (t:Nat):Inv X pins σ H { s with toks:=t }:=I.un (h':=s.heap) (t':=t) Un.refl I.hok
theorem Inv.kept {t':Nat} (I:Inv X pins σ H s) (k:∀ b u,s.heap.get? b=some u->h'.get? b=some u):Inv X pins σ H { s with heap:=h',toks:=t' }:=I.un (Un.kept k) (I.hok.kept k)
theorem Inv.laid {a:Addr} {o:HO} {t':Nat} (I:Inv X pins σ H s) (k:∀ b u,s.heap.get? b=some u->h'.get? b=some u) (hp:s.heap.objs.size<=a) (new:cK X.prog X.w (upd H a o) h' a o) :
  Inv X pins σ (upd H a o) { s with heap:=h',toks:=t' }:=I.un (Un.laid k hp (I.hok.fresh hp)) (I.hok.laid k hp new)
theorem Inv.write {x e:Addr} {o:HO} {t':Nat} (I:Inv X pins σ H s) (mu:ym (H x)) (he:e=x\/H e=some (.own x)) (k:∀ b u,b≠e->s.heap.get? b=some u->h'.get? b=some u) (xu:∃ u,h'.get? e=some u)
  (new:cK X.prog X.w (upd H x o) h' x o):Inv X pins σ (upd H x o) { s with heap:=h',toks:=t' }:=I.un (Un.write mu he k xu) (I.hok.write mu he k xu new)
theorem Inv.kQ {rF:List (Addr×Obj)} (I:Inv X pins σ H s) (h:∀ p∈rF,s.heap.get? p.1=some p.2/\H p.1=none/\p.1≠X.env.locals/\p.1 ∉ X.fs/\∀ v,p.2.data≠.cell v):Inv X rF σ H s :=
 ⟨I.ok,I.os,I.bare,I.base,I.loc,I.cell,I.free,I.jg,fun p hp=>(List.mem_append.mp hp).elim (fun z=>I.pin p (List.mem_append_left _ z)) (h p),I.hok,I.len⟩
theorem Hg {N:List Str} (hN:N.Nodup) {i j:Nat} {x:Str} (a:N[i]?=some x) (b:N[j]?=some x):i=j:=by
 obtain ⟨h1,e1⟩:=List.getElem?_eq_some_iff.mp a
 obtain ⟨h2,e2⟩:=List.getElem?_eq_some_iff.mp b
 exact (List.getElem_inj hN).mp (e1.trans e2.symm)
theorem Hh {M:Model} {A:Around} {E:Value->Shared->Prop} {i:Nat} {x:Str} {v:V} {u:Value} {Q:Unit->Shared->Prop} (I:Inv X pins σ H s) (hN:X.N.Nodup) (hi:X.N[i]?=some x) (hx:Loc X.env.scope x) (r:RelV v u)
  (h:∀ s',Inv X pins (σ.set i (some v)) H s'->(∃ a,Heap.SameBut a s.heap s'.heap/\(a=X.env.locals\/X.env.cells.lookup x=some a))->Q () s') (hf:X.fn x=true\/X.env.scope.names.lookup x=some .local:=by first | exact .inl rfl | exact .inr rfl | assumption):wpAny M A (storeName X.env x u) Q E s:=by
 obtain ⟨m,hn,hl⟩:=id I.loc
 have hcls:(X.env.scope.kind == .class || (X.env.scope.kind == .module && X.env.locals != X.env.globals))=false:=by rw [I.ok.kind];rfl
 have hiσ:i < σ.length:=by rw [I.len];exact (List.getElem?_eq_some_iff.mp hi).1
 have ud:=I.ud
 have tracked:∀ {a:Addr} {h':Heap},(∃ o,s.heap.get? a=some o/\H a=none)->Heap.SameBut a s.heap h'->jJ X.prog X.w H h':=fun {a h'} ha hs b ob e=>by
  obtain ⟨_,_,hfree⟩:=ha
  refine (I.hok b ob e).stay (fun c w' hc q=>(hs.2 c ?_).trans q) (fun _ q=>q) fun _ _ q=>q
  rintro rfl
  rcases hc with rfl | hc
  ·rw [hfree] at e;cases e
  ·rw [hfree] at hc;cases hc
 rcases hx with hk | hk
 ·refine wpAny_storeName_local hk hn (fun h' hn' hs=>?_) hcls
  obtain ⟨oL,_,_,Ce,_⟩:=id hn
  refine h _ ⟨I.ok,I.os,I.bare,⟨fun b o e n hb hx=>?_,fun b o e n hb hx=>?_,I.base.free,fun b o e hx=>?_,I.base.tups,I.base.lZ,I.base.mI⟩,⟨_,hn',fun j y v' e1 e2 e3=>?_⟩,fun y c e=>?_,I.free,I.jg,fun p hp=>?_,tracked ⟨oL,Ce,I.free⟩ hs,by simpa using I.len⟩ ⟨_,hs,.inl rfl⟩
  ·exact (hs.2 b (Nat.ne_of_lt (Nat.lt_of_lt_of_le (Heap.lt_size e) I.ok.above))).trans (I.base.keep b o e n hb hx)
  ·obtain ⟨sl,e1⟩:=I.base.slot b o e n hb hx
   exact ⟨sl,(hs.2 b (Nat.ne_of_lt (Nat.lt_of_lt_of_le (Heap.lt_size e) I.ok.above))).trans e1⟩
  ·obtain ⟨o',e1⟩:=I.base.there b o e hx
   exact ⟨o',(hs.2 b (Nat.ne_of_lt (Nat.lt_of_lt_of_le (Heap.lt_size e) I.ok.above))).trans e1⟩
  ·by_cases hj:j=i
   ·subst hj
    rw [hi] at e1;cases e1
    rw [List.getElem?_set_self hiσ] at e2
    cases e2
    exact ⟨u,r,.inl ⟨hk,by simp⟩⟩
   ·rw [List.getElem?_set_ne (Ne.symm hj)] at e2
    obtain ⟨u',r',q⟩:=hl j y v' e1 e2 e3
    refine ⟨u',r',?_⟩
    rcases q with ⟨k,e⟩ | ⟨k,c,e,z⟩
    ·refine .inl ⟨k,?_⟩
     have:y≠x:=fun e=>hj (Hg hN e1 (e ▸ hi))
     simp [this,e]
    ·exact .inr ⟨k,c,e,z.sameBut hs (ud y c e)⟩
  ·obtain ⟨w',z⟩:=I.cell y c e
   exact ⟨w',z.sameBut hs (ud y c e)⟩
  ·obtain ⟨e,n,ne,nf,d⟩:=I.pin p hp
   exact ⟨(hs.2 p.1 ne).trans e,n,ne,nf,d⟩
 ·have hfn:X.fn x=true:=by
   rcases hf with z | z
   ·exact z
   ·rw [z] at hk;cases hk
  obtain ⟨c,hc⟩:=I.ok.has x (.inl hk)
  obtain ⟨w',z⟩:=I.cell x c hc
  refine wpAny_storeName_cell I.ok.kind hk hc z (fun h' hc' hs=>?_)
  obtain ⟨oc,hoc,Ey⟩:=id z
  refine h { s with heap:=h' } ⟨I.ok,I.os,I.bare,⟨fun b o e n hb hx=>?_,fun b o e n hb hx=>?_,I.base.free,fun b o e hx=>?_,I.base.tups,I.base.lZ,I.base.mI⟩,⟨m,hn.sameBut hs (Ne.symm (ud x c hc)),fun j y v' e1 e2 e3=>?_⟩,fun y c' e=>?_,I.free,I.jg,fun p hp=>?_,tracked ⟨oc,hoc,I.jg x c hc⟩ hs,by simpa using I.len⟩ ⟨c,hs,.inr hc⟩
  ·exact (hs.2 b (Nat.ne_of_lt (Nat.lt_of_lt_of_le (Heap.lt_size e) (I.ok.yo x c hfn hc)))).trans (I.base.keep b o e n hb hx)
  ·obtain ⟨sl,e1⟩:=I.base.slot b o e n hb hx
   exact ⟨sl,(hs.2 b (Nat.ne_of_lt (Nat.lt_of_lt_of_le (Heap.lt_size e) (I.ok.yo x c hfn hc)))).trans e1⟩
  ·obtain ⟨o',e1⟩:=I.base.there b o e hx
   exact ⟨o',(hs.2 b (Nat.ne_of_lt (Nat.lt_of_lt_of_le (Heap.lt_size e) (I.ok.yo x c hfn hc)))).trans e1⟩
  ·by_cases hj:j=i
   ·subst hj
    rw [hi] at e1;cases e1
    rw [List.getElem?_set_self hiσ] at e2
    cases e2
    exact ⟨u,r,.inr ⟨.inl hk,c,hc,hc'⟩⟩
   ·rw [List.getElem?_set_ne (Ne.symm hj)] at e2
    obtain ⟨u',r',q⟩:=hl j y v' e1 e2 e3
    refine ⟨u',r',?_⟩
    rcases q with q | ⟨k,c',e,z'⟩
    ·exact .inl q
    ·refine .inr ⟨k,c',e,z'.sameBut hs ?_⟩
     rintro rfl
     exact hj (Hg hN e1 (I.ok.inj _ _ _ e hc ▸ hi))
  ·by_cases hcc:c'=c
   ·subst hcc;exact ⟨_,hc'⟩
   ·obtain ⟨w2,z2⟩:=I.cell y c' e
    exact ⟨w2,z2.sameBut hs hcc⟩
  ·obtain ⟨e,n,ne,nf,d⟩:=I.pin p hp
   refine ⟨(hs.2 p.1 ?_).trans e,n,ne,nf,d⟩
   intro q
   rw [q,hoc] at e
   have q':oc=p.2:=Option.some.inj e
   exact d w' (by rw [<- q'];exact Ey)
theorem Cf {M:Model} {A:Around} {E:Value->Shared->Prop} {i:Nat} {x:Str} {v:V} {u:Value} {Q:Unit->Shared->Prop} (I:Inv X pins σ H s) (hN:X.N.Nodup) (hi:X.N[i]?=some x) (hx:Loc X.env.scope x) (r:RelV v u)
  (h:∀ s',Inv X pins (σ.set i (some v)) H s'->Q () s') (hf:X.fn x=true\/X.env.scope.names.lookup x=some .local:=by first | exact .inl rfl | exact .inr rfl | assumption):wpAny M A (storeName X.env x u) Q E s :=
 Hh I hN hi hx r (fun s' I' _=>h s' I') hf
theorem Inv.yt {s':Shared} {ch:List Addr} (I:Inv X pins σ H s) (ho:s'.os=s.os) (u:Un (frs X.stack) ch H H' s.heap s'.heap) (hok:jJ X.prog X.w H' s'.heap) (hg:AllBare s'.gens)
  (hch:∀ b∈ch,(b∈X.ex\/X.s₀.heap.objs.size<=b)/\b≠X.env.locals/\(∀ x c,X.env.cells.lookup x=some c->c≠b)/\∀ p∈X.pn ++ pins,p.1≠b):Inv X pins σ H' s':=by
 obtain ⟨h',g',d',t',o'⟩:=s'
 have e:o'=s.os:=ho
 subst e
 exact I.call (g':=g') (t':=t') (d':=d') u hok hg hch
end
abbrev XK:=Value->Option Addr->Hp->Prop
abbrev St:=List (Option V)
abbrev VK:=V->Hp->Prop
abbrev TE:=St->Hp->VK->Prop
abbrev TT:=St->Hp->(Bool->Hp->Prop)->Prop
abbrev TA:=St->Hp->(List V->Hp->Prop)->Prop
set_option genInjectivity false in
structure Ends where
 nx:St->Hp->Prop
 rt:VK
 bk:St->Hp->Prop:=fun _ _=>False
 ct:St->Hp->Prop:=fun _ _=>False
abbrev TS:=Ends->St->Hp->Prop
def EP (X:Cx) (pins:List (Addr×Obj)) (σ:St) (Q:VK) (u:Value) (s':Shared):Prop:=∃ v H',Inv X pins σ H' s'/\RelV v u/\Q v H'
def TP (X:Cx) (pins:List (Addr×Obj)) (σ:St) (Q:Bool->Hp->Prop) (b:Bool) (s':Shared):Prop:=∃ H',Inv X pins σ H' s'/\Q b H'
def AP (X:Cx) (pins:List (Addr×Obj)) (σ:St) (Q:List V->Hp->Prop) (us:List Value) (s':Shared):Prop:=∃ vs H',Inv X pins σ H' s'/\Vals vs us/\Q vs H'
def SP (X:Cx) (pins:List (Addr×Obj)) (D:Ends) (f:Flow) (s':Shared):Prop :=
 match f with
 | .next=>∃ σ' H',Inv X pins σ' H' s'/\D.nx σ' H'
 | .brk=>∃ σ' H',Inv X pins σ' H' s'/\D.bk σ' H'
 | .cont=>∃ σ' H',Inv X pins σ' H' s'/\D.ct σ' H'
 | .ret u=>∃ v σ' H',Inv X pins σ' H' s'/\RelV v u/\D.rt v H'
def PE (X:Cx) (e:Expr) (t:TE):Prop :=
 ∀ (pins:List (Addr×Obj)) (s:Shared) (σ:St) (H:Hp) (Q:VK),Inv X pins σ H s->t σ H Q->wpAny (model X.prog X.w) X.A (eval e X.env) (EP X pins σ Q) X.xe s
def PT (X:Cx) (e:Expr) (t:TT):Prop :=
 ∀ (pins:List (Addr×Obj)) (s:Shared) (σ:St) (H:Hp) (Q:Bool->Hp->Prop),Inv X pins σ H s->t σ H Q->wpAny (model X.prog X.w) X.A (isTrue e X.env (eval e X.env)) (TP X pins σ Q) X.xe s
def PW (X:Cx) (e:Expr) (t:TT):Prop :=
 ∀ (whole:Sem Value) (pins:List (Addr×Obj)) (s:Shared) (σ:St) (H:Hp) (Q:Bool->Hp->Prop),Inv X pins σ H s->t σ H Q->wpAny (model X.prog X.w) X.A (isTrue e X.env whole) (TP X pins σ Q) X.xe s
theorem PW.pt {X:Cx} {e:Expr} {t:TT} (h:PW X e t):PT X e t:=h _
def PA (X:Cx) (es:List Expr) (t:TA):Prop :=
 ∀ (pos:Pos) (pins:List (Addr×Obj)) (s:Shared) (σ:St) (H:Hp) (Q:List V->Hp->Prop),Inv X pins σ H s->t σ H Q->wpAny (model X.prog X.w) X.A (spliced (backTo pos (starEach es X.env))) (AP X pins σ Q) X.xe s
def PS (X:Cx) (st:Stmt) (t:TS):Prop :=
 ∀ (pins:List (Addr×Obj)) (s:Shared) (σ:St) (H:Hp) (D:Ends),Inv X pins σ H s->t D σ H->wpAny (model X.prog X.w) X.A (exec st X.env) (SP X pins D) X.xe s
def oC (X:Cx) (st:List Stmt) (t:TS):Prop :=
 ∀ (pins:List (Addr×Obj)) (s:Shared) (σ:St) (H:Hp) (D:Ends),Inv X pins σ H s->t D σ H->wpAny (model X.prog X.w) X.A (execs st X.env) (SP X pins D) X.xe s
theorem cH {α:Type} {t:Sem α} {Q Q':α->Shared->Prop} {M:Model} {A:Around} {E:Value->Shared->Prop} {s:Shared} (h:wpAny M A t Q E s) (hQ:∀ a s,Q a s->Q' a s):wpAny M A t Q' E s:=wpAny_mono h hQ fun _ _ x=>x
end L2
namespace L2
open PySem PySem.Spec PyProof.Rows
section
variable {X:Cx}
theorem bin {a b:Expr} {ta tb:TE} (ha:PE X a ta) (hb:PE X b tb) {pins:List (Addr×Obj)} {s:Shared} {σ:St} {H:Hp} {R:V->V->Hp->Prop} (I:Inv X pins σ H s) (h:ta σ H fun x H1=>tb σ H1 fun y H2=>R x y H2)
  {α:Type} {Q:α->Shared->Prop} {f:Value->Value->Sem α}
  (hf:∀ v u s2 x y H2,Inv X pins σ H2 s2->RelV x v->RelV y u->R x y H2->wpAny (model X.prog X.w) X.A (f v u) Q X.xe s2) :
  wpAny (model X.prog X.w) X.A (eval a X.env) (fun v s₁=>wpAny (model X.prog X.w) X.A (eval b X.env) (fun u s₂=>wpAny (model X.prog X.w) X.A (f v u) Q X.xe s₂) X.xe s₁) X.xe s:=by
 refine cH (ha pins s σ H _ I h) fun v s1 ⟨x,H1,I1,r1,q1⟩=>?_
 refine cH (hb pins s1 σ H1 _ I1 q1) fun u s2 ⟨y,H2,I2,r2,q2⟩=>?_
 exact hf v u s2 x y H2 I2 r1 r2 q2
def ug (i:Nat):TE:=fun σ H Q=>∃ v,σ[i]?=some (some v)/\Q v H
def tC (v:V):TE:=fun _ H Q=>Q v H
theorem uh {i:Nat} {x:Str} {pos:Pos} (hN:X.N[i]?=some x) (hv:Et X.env.scope x) (hd:(x == ("__debug__" : Str))=false:=by decide) (hcd:(x == ("__classdict__" : Str))=false:=by decide):PE X (.Name x pos) (ug i):=by
 intro pins s σ H Q I h
 obtain ⟨v,e,h⟩:=h
 obtain ⟨m,hn,hl⟩:=I.loc
 obtain ⟨u,r,l⟩:=hl i x v hN e hv
 have fin:EP X pins σ Q u s:=⟨v,H,I,r,h⟩
 rcases l with ⟨hk,hm⟩ | ⟨hk,c,hc,hcell⟩
 ·exact wpAny_Name (wpAny_loadName_local I.ok.kind hk hn hm fin) hd
 ·rcases hk with hk | hk
  ·exact wpAny_Name (wpAny_loadName_cell I.ok.kind hk hc hcell fin) hd
  ·exact wpAny_Name (wpAny_loadName_free I.ok.kind hk hc hcell fin hcd) hd
theorem aO {i j pos}:PE X (.Constant (.int i) j pos) (tC (.int i)):=fun _ _ _ H _ I h=>wpAny_Constant_int ⟨.int i,H,I.tok _,⟨_,rfl⟩,h⟩
theorem xw {b j pos}:PE X (.Constant (.bool b) j pos) (tC (.bl b)):=fun _ _ _ H _ I h=>Constant_bool ⟨.bl b,H,I,rfl,h⟩
theorem nA {x j pos}:PE X (.Constant (.str x) j pos) (tC (.str x)):=fun _ _ _ H _ I h=>Calls.Constant_str ⟨.str x,H,I.tok _,⟨_,rfl⟩,h⟩
def Gl (X:Cx) (x:Str):Prop:=X.env.kindOf x=some .globalImplicit
theorem Hi {E:Value->Shared->Prop} {pins:List (Addr×Obj)} {s:Shared} {σ:St} {H:Hp} {x:Str} {u:Value} {pos:Pos} {Q:Value->Shared->Prop} (I:Inv X pins σ H s) (hg:Gl X x) (hm:X.mg x=some u) (h:Q u s)
  (hd:(x == ("__debug__" : Str))=false:=by decide):wpAny (model X.prog X.w) X.A (eval (.Name x pos) X.env) Q E s :=
 Calls.Name_function_global I.ok.kind hg (Calls.loadGlobal_global (by rw [I.ok.glob];exact I.mod.glob.keeps I.bk) hm h) hd
theorem yu {E:Value->Shared->Prop} {pins:List (Addr×Obj)} {s:Shared} {σ:St} {H:Hp} {x:Str} {u:Value} {pos:Pos} {Q:Value->Shared->Prop} (I:Inv X pins σ H s) (hg:Gl X x) (hm:X.mg x=none) (hv:bootBuiltins x=some u) (h:Q u s)
  (hn:x≠"__name__" := by decide) (hd:(x == ("__debug__" : Str))=false:=by decide):wpAny (model X.prog X.w) X.A (eval (.Name x pos) X.env) Q E s:=by
 obtain ⟨mb,h1,h2⟩:=I.mod.blt
 exact Calls.Name_function_global I.ok.kind hg (Calls.loadGlobal_builtin (by rw [I.ok.glob];exact I.mod.glob.keeps I.bk) hm (by rw [I.ok.blt];exact h1.keeps I.bk) ((h2 x hn).trans hv) h) hd
theorem Ll {x:Str} {v:V} {u:Value} {pos:Pos} (hg:Gl X x) (hm:X.mg x=some u) (r:RelV v u) (hd:(x == ("__debug__" : Str))=false:=by decide):PE X (.Name x pos) (tC v) :=
 fun _ _ _ H _ I h=>Hi I hg hm ⟨v,H,I,r,h⟩ hd
variable {a b:Expr} {ta tb:TE} {pos:Pos}
def PC (X:Cx) (op:CmpOp) (a b:Expr) (t:TE):Prop :=
 ∀ (pins:List (Addr×Obj)) (s:Shared) (σ:St) (H:Hp) (Q:VK),Inv X pins σ H s->t σ H Q ->
  wpAny (model X.prog X.w) X.A (eval a X.env) (fun v s₁=>wpAny (model X.prog X.w) X.A (eval b X.env) (fun u s₂=>wpAny (model X.prog X.w) X.A (compareOp op v u) (EP X pins σ Q) X.xe s₂) X.xe s₁) X.xe s
theorem oX (b:Expr) {op:CmpOp} (h:op≠.In) (h2:op≠.NotIn):behindInMarks op b=false:=by
 have e1:(op == CmpOp.In)=false:=by cases op <;> first | rfl | exact absurd rfl h
 have e2:(op == CmpOp.NotIn)=false:=by cases op <;> first | rfl | exact absurd rfl h2
 cases b <;> simp [behindInMarks,e1,e2]
def tB (t:TE):TT:=fun σ H Q=>t σ H fun x H1=>∃ c,x=.bl c/\Q c H1
theorem ui {op:CmpOp} {t:TE} (h:PC X op a b t) (h1:behindInMarks op b=false:=by first | exact oX _ (by decide) (by decide) | rfl):PT X (.Compare a [op] [b] pos) (tB t):=by
 intro pins s σ H Q I hw
 refine wpAny_isTrue_Compare1 (cH (h pins s σ H _ I hw) fun v s1 h1=>cH h1 fun u s2 h2=>cH h2 fun c s3 ⟨x,H1,I1,r1,q1⟩=>?_) h1
 obtain ⟨d,rfl,q⟩:=q1
 cases r1
 exact wpAny_truthy_bool ⟨H1,I1,q⟩
theorem Hj {e:Expr} {t:TE} (h:PE X e t) (he:∀ whole,isTrue e X.env whole=(do let v <- whole;standAt e.pos;holding [v] (truthy v)):=by intro _;rfl):PT X e (tB t):=by
 intro pins s σ H Q I hw
 refine isTrue_plain (cH (h pins s σ H _ I hw) fun v s1 ⟨x,H1,I1,r1,q1⟩=>?_) (he _)
 obtain ⟨d,rfl,q⟩:=q1
 cases r1
 exact wpAny_truthy_bool ⟨H1,I1,q⟩
variable {tA Ci:TT} {rest:List Expr}
def yw (t u:TT):TT:=fun σ H Q=>t σ H fun c H1=>if c=true then u σ H1 Q else Q false H1
def Hk (t u:TT):TT:=fun σ H Q=>t σ H fun c H1=>if c=true then Q true H1 else u σ H1 Q
def yx (t:TT):TT:=fun σ H Q=>t σ H fun c H1=>Q (!c) H1
theorem Lm (ha:PT X a tA):PW X (.BoolOp .And [a] pos) tA:=by
 intro wh pins s σ H Q I h
 refine isTrue_and (cH (ha pins s σ H Q I h) fun c s1 e=>?_)
 cases c with
 | true=>exact isTrue_and_nil e
 | false=>exact e
theorem Ez (ha:PT X a tA):PW X (.BoolOp .Or [a] pos) tA:=by
 intro wh pins s σ H Q I h
 refine isTrue_or (cH (ha pins s σ H Q I h) fun c s1 e=>?_)
 cases c with
 | false=>exact isTrue_or_nil e
 | true=>exact e
theorem pw_and (ha:PT X a tA) (hb:PW X (.BoolOp .And (b :: rest) pos) Ci):PW X (.BoolOp .And (a :: b :: rest) pos) (yw tA Ci):=by
 intro wh pins s σ H Q I h
 refine isTrue_and (cH (ha pins s σ H _ I h) fun c s1 ⟨H1,I1,q1⟩=>?_)
 cases c with
 | true=>exact hb wh pins s1 σ H1 Q I1 q1
 | false=>exact ⟨H1,I1,q1⟩
theorem EA (ha:PT X a tA) (hb:PW X (.BoolOp .Or (b :: rest) pos) Ci):PW X (.BoolOp .Or (a :: b :: rest) pos) (Hk tA Ci):=by
 intro wh pins s σ H Q I h
 refine isTrue_or (cH (ha pins s σ H _ I h) fun c s1 ⟨H1,I1,q1⟩=>?_)
 cases c with
 | true=>exact ⟨H1,I1,q1⟩
 | false=>exact hb wh pins s1 σ H1 Q I1 q1
theorem Hl (ha:PT X a tA):PT X (.UnaryOp .Not a pos) (yx tA):=by
 intro pins s σ H Q I h
 exact isTrue_not (ha pins s σ H (fun c H1=>Q (!c) H1) I h)
def rG (ta tb:TE):TE:=fun σ H Q=>ta σ H fun x H1=>∃ c,x=.bl c/\if c=true then tb σ H1 Q else Q (.bl false) H1
theorem uj {op} {t:TE} (h:PE X a t):PE X (.BoolOp op [a] pos) t:=fun pins s σ H Q I hw=>BoolOp_one (h pins s σ H Q I hw)
theorem uk (ha:PE X a ta) (hb:PE X (.BoolOp .And (b :: rest) pos) tb):PE X (.BoolOp .And (a :: b :: rest) pos) (rG ta tb):=by
 intro pins s σ H Q I h
 refine BoolOp_and (cH (ha pins s σ H _ I h) fun v s1 ⟨x,H1,I1,r1,q1⟩=>?_)
 obtain ⟨c,rfl,q1⟩:=q1
 cases r1
 refine wpAny_truthy_bool ?_
 cases c with
 | true=>exact hb pins s1 σ H1 Q I1 q1
 | false=>exact ⟨.bl false,H1,I1,rfl,q1⟩
end
end L2
namespace L2
open PySem PySem.Spec PyProof.Rows
def iR (K:PySem.W.Frag) (H:Hp) (a:Addr) (xs:List V):Prop :=
 Rd H a (.lst xs) \/
  ∃ (o:Obj) (its:Array Value) (n:Nat),K.lookup a=some o/\o.cls=.type "list" /\ o.dict=none/\o.data=.seq its n/\its.size<=sizeLine/\Vals xs its.toList
def eN (K:PySem.W.Frag) (H:Hp) (a:Addr) (xs:List V):Prop :=
 Rd H a (.tup xs) \/
  ∃ (o:Obj) (its:Array Value) (n:Nat),K.lookup a=some o/\o.cls=.type "tuple" /\ o.dict=none/\o.data=.seq its n/\its.size<=sizeLine/\Vals xs its.toList
def EB:Value->Option V
 | .none=>some .non
 | .bool b=>some (.bl b)
 | .int i _=>some (.int i)
 | .str x _=>some (.str x)
 | .bytes b _=>some (.oV b)
 | .float b _=>some (.oA b)
 | .ref a=>some (.ref a)
 | .type n=>some (.ty n)
 | _=>none
theorem RelV.abs {x:V} {u:Value} (r:RelV x u):EB u=some x:=by
 cases x with
 | non=>cases r;rfl
 | bl _=>cases r;rfl
 | int _=>obtain ⟨t,rfl⟩:=r;rfl
 | str _=>obtain ⟨t,rfl⟩:=r;rfl
 | oV _=>obtain ⟨t,rfl⟩:=r;rfl
 | oA _=>obtain ⟨t,rfl⟩:=r;rfl
 | ref _=>cases r;rfl
 | ty _=>cases r;rfl
theorem RelV.inj {x y:V} {u:Value} (r:RelV x u) (q:RelV y u):x=y:=Option.some.inj (r.abs.symm.trans q.abs)
theorem Vals.inj:∀ {xs ys:List V} {us:List Value},Vals xs us->Vals ys us->xs=ys
 | _,_,_,.nil,.nil=>rfl
 | _,_,_,.cons r t,.cons r' t'=>by rw [r.inj r',Vals.inj t t']
section
variable {X:Cx} {pins:List (Addr×Obj)} {σ:St} {H:Hp} {s:Shared} {a:Addr} {xs ys:List V}
theorem eN.of {K:PySem.W.Frag} (h:H a=some (.tup xs)):eN K H a xs:=.inl (.inl h)
theorem Inv.list (I:Inv X pins σ H s) (h:iR X.K H a xs):∃ its:List Value,Vals xs its/\PlainL s.heap a its.toArray/\xs.length<=sizeLine:=by
 rcases h with h | ⟨o,its,n,hk,hc,hd,hs,hz,r⟩
 ·obtain ⟨z,its,n,r,e⟩:=h.ok I.hok
  exact ⟨its,r,⟨_,n,e,rfl,rfl,rfl⟩,z⟩
 ·refine ⟨its.toList,r,⟨o,n,I.Cc a o hk,hc,hd,by simpa using hs⟩,?_⟩
  have e:=r.length
  simp only [Array.length_toList] at e
  omega
theorem Inv.oY (I:Inv X pins σ H s) (h:eN X.K H a xs):∃ its:List Value,Vals xs its/\kZ s.heap a its.toArray/\xs.length<=sizeLine:=by
 rcases h with h | ⟨o,its,n,hk,hc,hd0,hs,hz,r⟩
 ·obtain ⟨z,its,r,p⟩:=h.ok I.hok
  exact ⟨its,r,p,z⟩
 ·refine ⟨its.toList,r,⟨o,I.Cc a o hk,hc,hd0,n,by simpa using hs⟩,?_⟩
  have e:=r.length
  simp only [Array.length_toList] at e
  omega
theorem Inv.tuple (I:Inv X pins σ H s) (h:eN X.K H a xs):∃ its:List Value,Vals xs its/\IsTup s.heap a its.toArray/\xs.length<=sizeLine :=
 let ⟨its,r,p,z⟩:=I.oY h
 ⟨its,r,p.tup,z⟩
theorem Inv.mJ (I:Inv X pins σ H s) (h:iR X.K H a xs) (h':iR X.K H a ys):xs=ys:=by
 obtain ⟨its,r,⟨o,n,e,_,_,d⟩,_⟩:=I.list h
 obtain ⟨its',r',⟨o',n',e',_,_,d'⟩,_⟩:=I.list h'
 rw [e] at e';cases e'
 rw [d] at d'
 injection d' with d1 _
 have:its=its':=by simpa using congrArg Array.toList d1
 subst this
 exact r.inj r'
theorem Inv.gb (I:Inv X pins σ H s) (h:eN X.K H a xs) (h':eN X.K H a ys):xs=ys:=by
 obtain ⟨its,r,⟨o,e,_,n,d⟩,_⟩:=I.tuple h
 obtain ⟨its',r',⟨o',e',_,n',d'⟩,_⟩:=I.tuple h'
 rw [e] at e';cases e'
 rw [d] at d'
 injection d' with d1 _
 have:its=its':=by simpa using congrArg Array.toList d1
 subst this
 exact r.inj r'
end
abbrev Cx.wish (X:Cx) (E:Value->Shared->Prop):Cx:={ X with xe:=E }
abbrev Cx.oZ (X:Cx):Cx:=X.wish fun _ _=>False
theorem Cx.Ok.wish {X:Cx} (ok:X.Ok) (E:Value->Shared->Prop):(X.wish E).Ok :=
 ⟨ok.mod,ok.kind,ok.glob,ok.blt,ok.above,ok.inj,ok.has,ok.yo,ok.hd,ok.frames,ok.stk,ok.Hf,ok.bs,ok.rE,ok.oW,ok.qE,ok.la,ok.xv⟩
theorem Cx.Ok.ip {X:Cx} {E:Value->Shared->Prop} (ok:(X.wish E).Ok):X.Ok :=
 ⟨ok.mod,ok.kind,ok.glob,ok.blt,ok.above,ok.inj,ok.has,ok.yo,ok.hd,ok.frames,ok.stk,ok.Hf,ok.bs,ok.rE,ok.oW,ok.qE,ok.la,ok.xv⟩
section
variable {X:Cx} {pins:List (Addr×Obj)} {σ:St} {H:Hp} {s:Shared} {E:Value->Shared->Prop}
theorem Inv.wish (I:Inv X pins σ H s) (E:Value->Shared->Prop):Inv (X.wish E) pins σ H s:=⟨I.ok.wish E,I.os,I.bare,I.base,I.loc,I.cell,I.free,I.jg,I.pin,I.hok,I.len⟩
theorem Inv.ip (I:Inv (X.wish E) pins σ H s):Inv X pins σ H s:=⟨I.ok.ip,I.os,I.bare,I.base,I.loc,I.cell,I.free,I.jg,I.pin,I.hok,I.len⟩
theorem SP.ip {D:Ends} {f:Flow} {s':Shared} (h:SP (X.wish E) pins D f s'):SP X pins D f s':=by
 cases f with
 | next=>obtain ⟨σ',H',I,q⟩:=h;exact ⟨σ',H',I.ip,q⟩
 | brk=>obtain ⟨σ',H',I,q⟩:=h;exact ⟨σ',H',I.ip,q⟩
 | cont=>obtain ⟨σ',H',I,q⟩:=h;exact ⟨σ',H',I.ip,q⟩
 | ret u=>obtain ⟨v,σ',H',I,r,q⟩:=h;exact ⟨v,σ',H',I.ip,r,q⟩
theorem oC.oZ {st:List Stmt} {t:TS} (h:oC X.oZ st t):oC X st t:=fun pins s σ H D I hw =>
 wpAny_mono (h pins s σ H D (I.wish _) hw) (fun _ _ q=>q.ip) fun _ _ z=>False.elim z
end
section
variable {X:Cx} {st:Stmt} {rest:List Stmt} {t u:TS} {e:Expr} {te:TE} {pos:Pos}
def rH:TS:=fun D σ H=>D.nx σ H
def yy (t u:TS):TS:=fun D σ H=>t { D with nx:=u D } σ H
theorem kR:oC X [] rH:=fun _ _ σ H _ I h=>wpAny_execs_nil ⟨σ,H,I,h⟩
theorem bE (h1:PS X st t) (h2:oC X rest u):oC X (st :: rest) (yy t u):=by
 intro pins s σ H D I h
 refine wpAny_execs_cons (cH (h1 pins s σ H { D with nx:=u D } I h) fun f s1 q=>?_)
 cases f with
 | next =>
  obtain ⟨σ',H',I',q⟩:=q
  exact h2 pins s1 σ' H' D I' q
 | ret v=>exact q
 | brk=>exact q
 | cont=>exact q
theorem bN (h1:PS X st t):oC X [st] t:=by
 intro pins s σ H D I h
 refine wpAny_execs_cons (cH (h1 pins s σ H D I h) fun f s1 q=>?_)
 cases f with
 | next=>exact wpAny_execs_nil q
 | ret v=>exact q
 | brk=>exact q
 | cont=>exact q
theorem Inv.quiet {pins:List (Addr×Obj)} {σ:St} {H:Hp} {s:Shared} (I:Inv X pins σ H s):interactive X.env=false:=by simp [interactive,I.ok.kind]
def rJ (te:TE):TS:=fun D σ H=>te σ H fun _ H1=>D.nx σ H1
theorem um (he:PE X e te) (hs:swapsWith e none pos.line X.env=pure false:=by rfl):PS X (.Expr e pos) (rJ te):=by
 intro pins s σ H D I h
 exact wpAny_Expr_any (cH (he pins s σ H _ I h) fun v s1 ⟨x,H1,I1,r1,q1⟩=>⟨σ,H1,I1,q1⟩) I.quiet hs
def yz (te:TE):TS:=fun D σ H=>te σ H D.rt
theorem dZ (he:PE X e te):PS X (.Return (some e) pos) (yz te):=by
 intro pins s σ H D I h
 exact wpAny_Return_some (cH (he pins s σ H _ I h) fun v s1 ⟨x,H1,I1,r1,q1⟩=>⟨x,σ,H1,I1,r1,q1⟩)
def yA (c:TT) (t u:TS):TS:=fun D σ H=>c σ H fun b H1=>if b=true then t D σ H1 else u D σ H1
theorem j6 {c:Expr} {a b:List Stmt} {tc:TT} (hc:PT X c tc) (ha:oC X a t) (hb:oC X b u):PS X (.If c a b pos) (yA tc t u):=by
 intro pins s σ H D I h
 refine wpAny_If (cH (hc pins s σ H _ I h) fun d s1 ⟨H1,I1,q1⟩=>?_)
 cases d with
 | true=>exact ha pins s1 σ H1 D I1 q1
 | false=>exact hb pins s1 σ H1 D I1 q1
def o4:TS:=fun _ _ _=>False
theorem Ln:PS X st o4:=fun _ _ _ _ _ _ h=>h.elim
end
abbrev TG:=V->St->Hp->(St->Hp->Prop)->Prop
abbrev o5:=List V->St->Hp->(St->Hp->Prop)->Prop
def PG (X:Cx) (target:Expr) (t:TG):Prop :=
 ∀ (pins:List (Addr×Obj)) (s:Shared) (σ:St) (H:Hp) (v:V) (u:Value) (Q:St->Hp->Prop),Inv X pins σ H s->RelV v u->t v σ H Q ->
  wpAny (model X.prog X.w) X.A (assign target X.env u) (fun _ s'=>∃ σ' H',Inv X pins σ' H' s'/\Q σ' H') X.xe s
def yB (X:Cx) (ts:List Expr) (t:o5):Prop :=
 ∀ (pins:List (Addr×Obj)) (s:Shared) (σ:St) (H:Hp) (vs:List V) (us:List Value) (Q:St->Hp->Prop),Inv X pins σ H s->Vals vs us->t vs σ H Q ->
  wpAny (model X.prog X.w) X.A (assignInOrder ((assignEach ts X.env).map (·.2)) us) (fun _ s'=>∃ σ' H',Inv X pins σ' H' s'/\Q σ' H') X.xe s
abbrev uo:=V->V->V->Hp->(Hp->Prop)->Prop
def yC (X:Cx) (t:uo):Prop :=
 ∀ (pins:List (Addr×Obj)) (s:Shared) (σ:St) (H:Hp) (o i v:V) (ov iv u:Value) (Q:Hp->Prop),Inv X pins σ H s->RelV o ov->RelV i iv->RelV v u->t o i v H Q ->
  wpAny (model X.prog X.w) X.A (setItem ov iv u) (fun _ s'=>∃ H',Inv X pins σ H' s'/\Q H') X.xe s
section
variable {X:Cx} {pos:Pos}
def mK (i:Nat):TG:=fun v σ H Q=>Q (σ.set i (some v)) H
theorem jK {i:Nat} {x:Str} (hN:X.N.Nodup) (hi:X.N[i]?=some x) (hx:Loc X.env.scope x) (hf:X.fn x=true\/X.env.scope.names.lookup x=some .local:=by first | exact .inl rfl | exact .inr rfl | assumption):PG X (.Name x pos) (mK i):=by
 intro pins s σ H v u Q I r h
 exact wpAny_assign_Name (Cf I hN hi hx r (fun s' I'=>⟨_,H,I',h⟩) hf)
def yD:o5:=fun vs σ H Q=>vs=[]/\Q σ H
def rK (t:TG) (u:o5):o5:=fun vs σ H Q=>∃ v r,vs=v :: r/\t v σ H fun σ' H'=>u r σ' H' Q
theorem yE:yB X [] yD:=by
 intro pins s σ H vs us Q I r h
 obtain ⟨e,h⟩:=h
 subst e
 cases r
 exact assignInOrder_nil ⟨σ,H,I,h⟩
theorem qe {e:Expr} {es:List Expr} {t:TG} {u:o5} (h1:PG X e t) (h2:yB X es u)
  (hs:(assignEach (e :: es) X.env).map (·.2)=assign e X.env :: (assignEach es X.env).map (·.2):=by rfl):yB X (e :: es) (rK t u):=by
 intro pins s σ H vs us Q I r h
 obtain ⟨v,vr,e1,h⟩:=h
 subst e1
 cases r with
 | cons r rr =>
  rw [hs]
  refine assignInOrder_cons (cH (h1 pins s σ H _ _ _ I r h) fun _ s1 ⟨σ1,H1,I1,q1⟩=>?_)
  exact h2 pins s1 σ1 H1 _ _ Q I1 rr q1
def uq (K:PySem.W.Frag) (n:Nat) (t:o5):TG:=fun v σ H Q=>∃ a xs,v=.ref a/\eN K H a xs/\xs.length=n/\t xs σ H Q
theorem yF {es:List Expr} {k:Nat} {t:o5} {n:Nat} (hc:X.calm=true) (h:yB X es t)
  (hn:(assignEach es X.env).length=n:=by rfl) (hst:(assignEach es X.env).findIdx? (·.1)=none:=by rfl):PG X (.Tuple es k pos) (uq X.K n t):=by
 intro pins s σ H v u Q I r hw
 obtain ⟨a,xs,e1,hq,hl,hw⟩:=hw
 subst e1
 cases r
 obtain ⟨its,rv,ht,hz⟩:=I.tuple hq
 refine assign_Tuple_tuple (I.ok.hd hc) ht (by simp [hn,<- hl,rv.length]) hst fun h' hx=>?_
 have I1:Inv X pins σ H { s with heap:=h' }:=I.kept (t':=s.toks) fun b o e=>hx b o (Nat.ne_of_lt (Heap.lt_size e)) e
 exact h pins _ σ H xs _ Q I1 (by simpa using rv) hw
def lH (to ti:TE) (t:uo):TG:=fun v σ H Q=>to σ H fun o H1=>ti σ H1 fun i H2=>t o i v H2 fun H3=>Q σ H3
theorem xx {o i:Expr} {to ti:TE} {t:uo} (ho:PE X o to) (hi:PE X i ti) (hs:yC X t)
  (ha:∀ v,assign (.Subscript o i pos) X.env v=(do
   let ov <- holding [v] (eval o X.env)
   let iv <- holding [v,ov] (eval i X.env)
   standAt pos
   holding [v,ov,iv] (setItem ov iv v)
   release [v,ov,iv] []):=by intro _;rfl):PG X (.Subscript o i pos) (lH to ti t):=by
 intro pins s σ H v u Q I r h
 rw [ha]
 refine wpAny_bind (wpAny_holding (cH (ho pins s σ H _ I h) fun ov s1 ⟨x,H1,I1,r1,q1⟩=>?_))
 refine wpAny_bind (wpAny_holding (cH (hi pins s1 σ H1 _ I1 q1) fun iv s2 ⟨y,H2,I2,r2,q2⟩=>?_))
 refine wpAny_bind (wpAny_standAt (wpAny_bind (wpAny_holding (cH (hs pins s2 σ H2 x y v ov iv u _ I2 r1 r2 r q2) fun _ s3 ⟨H3,I3,q3⟩=>?_))))
 exact wpAny_release ⟨σ,H3,I3,q3⟩
def qF (te:TE) (g:TG):TS:=fun D σ H=>te σ H fun x H1=>g x σ H1 D.nx
theorem xy {tg e:Expr} {te:TE} {g:TG} (he:PE X e te) (hg:PG X tg g) (hs:swapsWithSole [tg] e pos.line X.env=pure false:=by rfl) (hw:swappedStores [tg] e X.env=pure none:=by rfl)
  (h1:(assignEach [tg] X.env).map (·.2)=[assign tg X.env]:=by rfl):PS X (.Assign [tg] e pos) (qF te g):=by
 intro pins s σ H D I h
 refine wpAny_Assign_stores (cH (he pins s σ H _ I h) fun v s1 ⟨x,H1,I1,r1,q1⟩=>?_) hs hw
 rw [h1]
 exact cH (hg pins s1 σ H1 x v _ I1 r1 q1) fun _ s2 q=>q
theorem cP {i:Nat} {x:Str} {e:Expr} {te:TE} {pos':Pos} (hN:X.N.Nodup) (hi:X.N[i]?=some x) (hx:Loc X.env.scope x) (he:PE X e te) (hs:swapsWith e (some (.Name x pos')) pos.line X.env=pure false:=by rfl) (hf:X.fn x=true\/X.env.scope.names.lookup x=some .local:=by first | exact .inl rfl | exact .inr rfl | assumption) :
  PS X (.Assign [.Name x pos'] e pos) (qF te (mK i)):=by
 intro pins s σ H D I h
 refine wpAny_Assign_Name (cH (he pins s σ H _ I h) fun v s1 ⟨y,H1,I1,r1,q1⟩=>?_) hs
 exact Cf I1 hN hi hx r1 (fun s2 I2=>⟨_,H1,I2,q1⟩) hf
def yG (i j:Nat) (ta:TA):TS:=fun D σ H=>ta σ H fun vs H1=>∃ v w,vs=[v,w]/\D.nx ((σ.set i (some v)).set j (some w)) H1
theorem Hm {i j:Nat} {x y:Str} {a b:Expr} {ta:TA} {px py pt:Pos} {kt k2 EC} (hc:X.calm=true) (hN:X.N.Nodup) (hi:X.N[i]?=some x) (hj:X.N[j]?=some y) (hij:i≠j)
  (hx:X.env.scope.names.lookup x=some .local) (hy:X.env.scope.names.lookup y=some .local) (ha:PA X [a,b] ta)
  (hw:swappedStores [.Tuple [.Name x px,.Name y py] kt pt] (.Tuple [a,b] k2 EC) X.env=pure (some [x,y]))
  (hs:swapsWithSole [.Tuple [.Name x px,.Name y py] kt pt] (.Tuple [a,b] k2 EC) pos.line X.env=pure false:=by rfl) :
  PS X (.Assign [.Tuple [.Name x px,.Name y py] kt pt] (.Tuple [a,b] k2 EC) pos) (yG i j ta):=by
 intro pins s σ H D I h
 rw [exec_Assign_arm]
 refine wpAny_bind (wpAny_standAt ?_)
 rw [hs]
 refine wpAny_bind (wpAny_pure ?_)
 rw [if_neg (by decide)]
 refine wpAny_bind (Tuple_ (cH (ha _ pins s σ H _ I h) fun us s1 ⟨vs,H1,I1,r1,q1⟩=>?_))
 obtain ⟨v,w,e1,q1⟩:=q1
 subst e1
 obtain ⟨u1,u2,rfl,rv,rw'⟩:∃ u1 u2,us=[u1,u2]/\RelV v u1/\RelV w u2:=by
  cases r1 with
  | cons p q =>
   cases q with
   | cons p' q' =>
    cases q'
    exact ⟨_,_,rfl,p,p'⟩
 refine wpAny_newObj_type ?_ (by show 2<=sizeLine;decide)
 have I2:Inv X pins σ H1 { s1 with heap:=s1.heap.push { cls:=.type "tuple",data:=.seq [u1,u2].toArray } }:=I1.kept (t':=s1.toks) fun b o e=>Heap.get?_push_of_some _ e
 rw [hw]
 refine wpAny_bind (wpAny_pure ?_)
 show wpAny (model X.prog X.w) X.A (do rule "assign.swapped-stores";let items <- unpackItems (.ref s1.heap.objs.size) 2 none;assignInOrder [fun v=>bindName X.env y v,fun v=>bindName X.env x v] items.reverse;pure Flow.next) _ _ _
 refine wpAny_bind (wpAny_rule (wpAny_bind (unpackItems_tuple (items:=#[u1,u2]) (I.ok.hd hc) (IsTup.new s1.heap _) fun h' hx'=>?_)))
 have I3:=I2.kept (h':=h') (t':=s1.toks) fun b o e=>hx' b o (Nat.ne_of_lt (Heap.lt_size e)) e
 show wpAny _ _ (assignInOrder [fun v=>bindName X.env y v,fun v=>bindName X.env x v] [u2,u1] >>= fun _=>pure Flow.next) _ _ _
 refine wpAny_bind (assignInOrder_cons (wpAny_bindName (Cf I3 hN hj (.inl hy) rw' (fun s2 I4=>?_) (.inr hy))))
 refine assignInOrder_cons (wpAny_bindName (Cf I4 hN hi (.inl hx) rv (fun s3 I5=>assignInOrder_nil (wpAny_pure ?_)) (.inr hx)))
 rw [List.set_comm _ _ (Ne.symm hij)] at I5
 exact ⟨_,H1,I5,q1⟩
end
section
variable {X:Cx} {pos:Pos}
def o6 (c:TT) (tb:TS):TS:=fun D σ H=>∃ W:Nat->St->Hp->Prop,(∃ m,W m σ H)/\∀ m σ H,W m σ H ->
 c σ H fun b H1=>if b=true then ∃ N:St->Hp->Prop,(∀ σ' H',N σ' H'->∃ m',m' < m/\W m' σ' H')/\tb { D with nx:=N,ct:=N,bk:=D.nx } σ H1 else D.nx σ H1
theorem yH {c:Expr} {body:List Stmt} {tc:TT} {tb:TS} (hp:PassesOwn (model X.prog X.w) X.A X.env X.xe) (hc:PT X c tc) (hb:oC X body tb):PS X (.While c body [] pos) (o6 tc tb):=by
 intro pins s σ H D I h
 obtain ⟨W,⟨m0,w0⟩,turn⟩:=h
 refine wpAny_While (codeAny_whileLoop (fun n s'=>∃ σ' H',Inv X pins σ' H' s'/\W n σ' H') ?_ m0 ⟨σ,H,I,w0⟩)
 rintro n s1 ⟨σ1,H1,I1,w1⟩
 refine wpAny_passesOwn hp (cH (hc pins s1 σ1 H1 _ I1 (turn n σ1 H1 w1)) fun b s2 ⟨H2,I2,q2⟩=>?_)
 cases b with
 | true =>
  obtain ⟨N,hN,q2⟩:=q2
  rw [if_pos rfl]
  refine wpAny_passesOwn hp (cH (hb pins s2 σ1 H2 _ I2 q2) fun f s3 q3=>?_)
  cases f with
  | next =>
   obtain ⟨σ3,H3,I3,n3⟩:=q3
   obtain ⟨m',hm,w3⟩:=hN σ3 H3 n3
   exact ⟨m',hm,σ3,H3,I3,w3⟩
  | cont =>
   obtain ⟨σ3,H3,I3,n3⟩:=q3
   obtain ⟨m',hm,w3⟩:=hN σ3 H3 n3
   exact ⟨m',hm,σ3,H3,I3,w3⟩
  | brk=>exact q3
  | ret v=>exact q3
 | false =>
  rw [if_neg Bool.false_ne_true]
  exact wpAny_execs_nil ⟨σ1,H2,I2,q2⟩
end
set_option genInjectivity false in
structure It where
 go:Nat->Hp->Prop
 qG:Nat->Hp->V->Hp->Prop
 stop:Nat->Hp->Prop
def j7 (X:Cx) (pins:List (Addr×Obj)) (H:Hp) (b:Addr):Prop :=
 H b=none/\b≠X.env.locals/\b ∉ X.fs/\(b∈X.ex\/X.s₀.heap.objs.size<=b)/\(∀ x c,X.env.cells.lookup x=some c->c≠b)/\∀ p∈X.pn ++ pins,p.1≠b
theorem Inv.nB {X:Cx} {pins:List (Addr×Obj)} {σ:St} {H H':Hp} {s:Shared} {b:Addr} (I:Inv X pins σ H s) (hb:s.heap.objs.size<=b) (hn:H' b=none):j7 X pins H' b:=by
 refine ⟨hn,Nat.ne_of_gt (Nat.lt_of_lt_of_le I.lt hb),I.yp hb,.inr (Nat.le_trans I.sz hb),fun x c e z=>?_,fun p hp z=>?_⟩
 ·obtain ⟨v,q⟩:=I.cell x c e
  exact absurd (Nat.lt_of_lt_of_le q.lt (by rw [z];exact hb)) (Nat.lt_irrefl _)
 ·exact absurd (Nat.lt_of_lt_of_le (Heap.lt_size (I.pin p hp).1) (by rw [z];exact hb)) (Nat.lt_irrefl _)
structure Turn (P:Program) (w:World) (K:PySem.W.Frag) (tg:Expr) (J:It) (fp:List Addr) (it:Addr) (tn:Nat->Heap->Prop):Prop where
 mem:it∈fp
 obj:∀ i h,tn i h->∀ b∈fp,∃ o,h.get? b=some o/\∀ v,o.data≠.cell v
 keep:∀ i h h',tn i h->(∀ b∈fp,∀ o,h.get? b=some o->h'.get? b=some o)->tn i h'
 item:∀ (X:Cx),X.prog=P->X.w=w->X.K=K->X.calm=true->∀ (i:Nat) (pins:List (Addr×Obj)) (s:Shared) (σ:St) (H:Hp) (E:Value->Shared->Prop),Inv X pins σ H s->(∀ b∈fp,j7 X pins H b)->tn i s.heap->J.go i H ->
  wpAny (model P w) X.A (pyNext (.ref it)) (fun r s1=>∃ u,r=some u /\
   wpAny (model P w) X.A (letOwnedTupleGo tg (.ref it) u) (fun _ s2=>∃ x H',Inv X pins σ H' s2/\RelV x u/\J.qG i H x H'/\tn (i + 1) s2.heap/\∀ b∈fp,H' b=none) E s1) E s
 done:∀ (X:Cx),X.prog=P->X.w=w->X.K=K->X.calm=true->∀ (i:Nat) (pins:List (Addr×Obj)) (s:Shared) (σ:St) (H:Hp) (E:Value->Shared->Prop),Inv X pins σ H s->(∀ b∈fp,j7 X pins H b)->tn i s.heap->J.stop i H ->
  wpAny (model P w) X.A (pyNext (.ref it)) (fun r s1=>r=none/\Inv X pins σ H s1) E s
 self:∀ (A:Around) (i:Nat) (s:Shared) (Q:Value->Shared->Prop) (E:Value->Shared->Prop),tn i s.heap->Q (.ref it) s->wpAny (model P w) A (pyIter (.ref it)) Q E s
abbrev TI:=St->Hp->(It->Hp->Prop)->Prop
def ED (X:Cx) (pins:List (Addr×Obj)) (σ:St) (tg:Expr) (R:It->Hp->Prop) (itv:Value) (s2:Shared):Prop :=
 ∃ (it:Addr) (fp:List Addr) (tn:Nat->Heap->Prop) (J:It) (H':Hp),itv=.ref it/\Inv X pins σ H' s2/\Turn X.prog X.w X.K tg J fp it tn/\tn 0 s2.heap/\(∀ b∈fp,j7 X pins H' b)/\R J H'
def PI (X:Cx) (tg iter:Expr) (wi:TI):Prop :=
 ∀ (pins:List (Addr×Obj)) (s:Shared) (σ:St) (H:Hp) (R:It->Hp->Prop),Inv X pins σ H s->wi σ H R ->
  wpAny (model X.prog X.w) X.A (eval iter X.env) (fun v s1=>wpAny (model X.prog X.w) X.A (pyIter v) (ED X pins σ tg R) X.xe s1) X.xe s
theorem Cj {M:Model} {A:Around} {E:Value->Shared->Prop} {s:Shared} {tg:Expr} {it:Addr} {u:Value} {o:Obj} {n:String} {vs:Array Value} {Q:Unit->Shared->Prop} (ho:s.heap.get? it=some o) (hc:o.cls=.type n) (hd:o.data=.fields vs)
  (hn:["enumerate","zip","dict_itemiterator","dict_reverseitemiterator","odict_iterator","itertools.zip_longest","itertools.pairwise"].contains n=false) (hQ:Q () s):wpAny M A (letOwnedTupleGo tg (.ref it) u) Q E s:=by
 unfold letOwnedTupleGo
 cases tg <;> first
  | exact wpAny_pure hQ
  | (cases u <;> first
    | exact wpAny_pure hQ
    | (refine wpAny_bind (wpAny_load ho ?_)
       rw [hc,hd]
       show wpAny M A (if (["enumerate","zip","dict_itemiterator","dict_reverseitemiterator","odict_iterator","itertools.zip_longest","itertools.pairwise"].contains n && vs[0]? == some (rawInt _))=true then _ else _) Q E s
       rw [if_neg (by intro h;rw [hn,Bool.false_and] at h;cases h)]
       exact wpAny_pure hQ))
def Hn (K:PySem.W.Frag) (a:Addr):It :=
 ⟨fun i H=>∃ xs x,iR K H a xs/\xs[i]?=some x,fun i H x H'=>H'=H/\∀ xs,iR K H a xs->xs[i]?=some x,fun i H=>∃ xs,iR K H a xs/\xs.length<=i⟩
def Ho (K:PySem.W.Frag) (a:Addr):It :=
 ⟨fun i H=>∃ xs x,eN K H a xs/\xs[i]?=some x,fun i H x H'=>H'=H/\∀ xs,eN K H a xs->xs[i]?=some x,fun i H=>∃ xs,eN K H a xs/\xs.length<=i⟩
def Ck (lo:Int) (n:Nat):It:=⟨fun i _=>i < n,fun i H x H'=>H'=H/\x=.int (lo + i),fun i _=>n<=i⟩
theorem Lo {P:Program} {w:World} {K:PySem.W.Frag} {tg:Expr} (a it:Addr):Turn P w K tg (Hn K a) [it] it (fun i h=>h.IsListIter it a i) where
 mem:=by simp
 obj:=fun i h st b hb=>by
  have e:b=it:=by simpa using hb
  subst e
  obtain ⟨o,e,c,d⟩:=st
  exact ⟨o,e,fun v z=>by rw [d] at z;cases z⟩
 keep:=fun i h h' st k=>st.at fun o e=>k it (by simp) o e
 item:=by
  intro X hP hw hK hc i pins s σ H E I hf st hg
  subst hP hw hK
  obtain ⟨xs,x,hq,hx⟩:=hg
  obtain ⟨its,rv,p,hz⟩:=I.list hq
  obtain ⟨u,hu,ru⟩:=rv.get hx
  obtain ⟨f0,f1,f2,f3,f4,f5⟩:=hf it (by simp)
  refine wpAny_pyNext_list_item st p.isList (x:=u) (by simpa using hu) fun h' st' sb=>?_
  have I1:Inv X pins σ H { s with heap:=h' }:=I.turned (t':=s.toks) (fun b o hb e=>(sb.2 b hb).trans e) f0 f1 f3 f4 f5
  obtain ⟨o,e,c,d⟩:=id st'
  exact ⟨u,rfl,Cj (s:={ s with heap:=h' }) e c d (by decide) ⟨x,H,I1,ru,⟨rfl,fun ys hy=>by rw [I.mJ hy hq];exact hx⟩,st',fun b hb=>(hf b hb).1⟩⟩
 done:=by
  intro X hP hw hK hc i pins s σ H E I hf st hg
  subst hP hw hK
  obtain ⟨xs,hq,hx⟩:=hg
  obtain ⟨its,rv,p,hz⟩:=I.list hq
  obtain ⟨f0,f1,f2,f3,f4,f5⟩:=hf it (by simp)
  have hl:=rv.length
  exact wpAny_pyNext_list_end (I.ok.hd hc) st p.isList (by simp;omega) fun h' eb=>⟨rfl,I.turned (t':=s.toks) (fun b o hb e=>eb b o hb e) f0 f1 f3 f4 f5⟩
 self:=fun _ _ _ _ _ st h=>wpAny_pyIter_listiter st h
theorem Lp {P:Program} {w:World} {K:PySem.W.Frag} {tg:Expr} (a it:Addr):Turn P w K tg (Ho K a) [it] it (fun i h=>h.IsTupleIter it a i) where
 mem:=by simp
 obj:=fun i h st b hb=>by
  have e:b=it:=by simpa using hb
  subst e
  obtain ⟨o,e,c,d⟩:=st
  exact ⟨o,e,fun v z=>by rw [d] at z;cases z⟩
 keep:=fun i h h' st k=>st.at fun o e=>k it (by simp) o e
 item:=by
  intro X hP hw hK hc i pins s σ H E I hf st hg
  subst hP hw hK
  obtain ⟨xs,x,hq,hx⟩:=hg
  obtain ⟨its,rv,p,hz⟩:=I.tuple hq
  obtain ⟨u,hu,ru⟩:=rv.get hx
  obtain ⟨f0,f1,f2,f3,f4,f5⟩:=hf it (by simp)
  refine wpAny_pyNext_tuple_item st (show s.heap.IsTuple a its.toArray from p) (x:=u) (by simpa using hu) fun h' st' sb=>?_
  have I1:Inv X pins σ H { s with heap:=h' }:=I.turned (t':=s.toks) (fun b o hb e=>(sb.2 b hb).trans e) f0 f1 f3 f4 f5
  obtain ⟨o,e,c,d⟩:=id st'
  exact ⟨u,rfl,Cj (s:={ s with heap:=h' }) e c d (by decide) ⟨x,H,I1,ru,⟨rfl,fun ys hy=>by rw [I.gb hy hq];exact hx⟩,st',fun b hb=>(hf b hb).1⟩⟩
 done:=by
  intro X hP hw hK hc i pins s σ H E I hf st hg
  subst hP hw hK
  obtain ⟨xs,hq,hx⟩:=hg
  obtain ⟨its,rv,p,hz⟩:=I.tuple hq
  obtain ⟨f0,f1,f2,f3,f4,f5⟩:=hf it (by simp)
  have hl:=rv.length
  exact wpAny_pyNext_tuple_end (I.ok.hd hc) st (show s.heap.IsTuple a its.toArray from p) (by simp;omega) fun h' eb=>⟨rfl,I.turned (t':=s.toks) (fun b o hb e=>eb b o hb e) f0 f1 f3 f4 f5⟩
 self:=fun _ _ _ _ _ st h=>wpAny_pyIter_tupleiter st h
theorem Lq {P:Program} {w:World} {K:PySem.W.Frag} {tg:Expr} (it:Addr) (lo:Int) (n:Nat):Turn P w K tg (Ck lo n) [it] it (fun i h=>IsRangeIter h it (lo + (i:Nat) * 1) ((n:Int) - (i:Nat)) 1) where
 mem:=by simp
 obj:=fun i h st b hb=>by
  have e:b=it:=by simpa using hb
  subst e
  exact ⟨_,st,fun v z=>by
   have z':Data.fields _=Data.cell v:=z
   cases z'⟩
 keep:=fun i h h' st k=>k it (by simp) _ st
 item:=by
  intro X hP hw hK hc i pins s σ H E I hf st hg
  subst hP hw hK
  obtain ⟨f0,f1,f2,f3,f4,f5⟩:=hf it (by simp)
  have W:=Walks.range (prog:=X.prog) (w:=X.w) (I.ok.hd hc) it lo 1 n
  refine W.item i s _ _ hg st fun v h' tk hv st' kk=>?_
  obtain ⟨t,rfl⟩:=hv
  have I1:Inv X pins σ H { s with heap:=h',toks:=tk }:=I.turned (fun b o hb e=>kk b o (by simpa using hb) e) f0 f1 f3 f4 f5
  refine ⟨_,rfl,Cj (s:={ s with heap:=h',toks:=tk }) (n:="range_iterator") st' rfl rfl (by decide) ⟨.int (lo + i),H,I1,⟨t,?_⟩,⟨rfl,rfl⟩,st',fun b hb=>(hf b hb).1⟩⟩
  rw [Int.mul_one]
 done:=by
  intro X hP hw hK hc i pins s σ H E I hf st hg
  subst hP hw hK
  obtain ⟨f0,f1,f2,f3,f4,f5⟩:=hf it (by simp)
  exact wpAny_pyNext_range_end (I.ok.hd hc) st (by have:n<=i:=hg;omega) fun h' eb=>⟨rfl,I.turned (t':=s.toks) (fun b o hb e=>eb b o hb e) f0 f1 f3 f4 f5⟩
 self:=fun _ _ _ _ _ st h=>wpAny_pyIter_rangeiter st h
end L2
namespace L2
open PySem PySem.Spec PyProof.Rows
section
variable {X:Cx} {tg:Expr}
def rL (K:PySem.W.Frag) (tl:TE):TI:=fun σ H R=>tl σ H fun x H1=>∃ a,x=.ref a/\(∃ xs,iR K H1 a xs)/\R (Hn K a) H1
def yI (K:PySem.W.Frag) (tl:TE):TI:=fun σ H R=>tl σ H fun x H1=>∃ a,x=.ref a/\(∃ xs,eN K H1 a xs)/\R (Ho K a) H1
theorem EE {l:Expr} {tl:TE} (hl:PE X l tl):PI X tg l (rL X.K tl):=by
 intro pins s σ H R I h
 refine cH (hl pins s σ H _ I h) fun v s1 ⟨x,H1,I1,r1,q1⟩=>?_
 obtain ⟨a,e,⟨xs,hq⟩,q⟩:=q1
 subst e
 cases r1
 obtain ⟨its,rv,p,hz⟩:=I1.list hq
 refine wpAny_pyIter_list p.isList ?_
 refine ⟨s1.heap.objs.size,[s1.heap.objs.size],_,_,H1,rfl,I1.kept (t':=s1.toks) fun b o e=>Heap.get?_push_of_some _ e,Lo a _,⟨_,Heap.get?_push_size _ rfl,rfl,rfl⟩,fun b hb=>?_,q⟩
 have e:b=s1.heap.objs.size:=by simpa using hb
 subst e
 exact I1.nB (Nat.le_refl _) (I1.hok.fresh (Nat.le_refl _))
theorem rM {l:Expr} {tl:TE} (hl:PE X l tl):PI X tg l (yI X.K tl):=by
 intro pins s σ H R I h
 refine cH (hl pins s σ H _ I h) fun v s1 ⟨x,H1,I1,r1,q1⟩=>?_
 obtain ⟨a,e,⟨xs,hq⟩,q⟩:=q1
 subst e
 cases r1
 obtain ⟨its,rv,p,hz⟩:=I1.tuple hq
 refine wpAny_pyIter_tuple (show s1.heap.IsTuple a its.toArray from p) ?_
 refine ⟨s1.heap.objs.size,[s1.heap.objs.size],_,_,H1,rfl,I1.kept (t':=s1.toks) fun b o e=>Heap.get?_push_of_some _ e,Lp a _,⟨_,Heap.get?_push_size _ rfl,rfl,rfl⟩,fun b hb=>?_,q⟩
 have e:b=s1.heap.objs.size:=by simpa using hb
 subst e
 exact I1.nB (Nat.le_refl _) (I1.hok.fresh (Nat.le_refl _))
theorem Lr {pins:List (Addr×Obj)} {σ:St} {H:Hp} {s:Shared} {R:It->Hp->Prop} {E:Value->Shared->Prop} {lo hi:Int} {t u v:Tok} {tk:Nat} (I:Inv X pins σ H s) (h1:-(2 ^ 62)<=lo) (h2:lo < 2 ^ 62) (h3:-(2 ^ 62)<=hi) (h4:hi < 2 ^ 62)
  (q:R (Ck lo (hi - lo).toNat) H):wpAny (model X.prog X.w) X.A (pyIter (.ref s.heap.objs.size)) (ED X pins σ tg R) E { s with heap:=s.heap.push { cls:=.type "range",data:=.fields #[.int lo t,.int hi u,.int 1 v] },toks:=tk }:=by
 refine wpAny_pyIter_range (IsRange.new ..) (small_one h1 h2 h3 h4) ?_
 have I1:Inv X pins σ H { s with heap:=s.heap.push { cls:=.type "range",data:=.fields #[.int lo t,.int hi u,.int 1 v] },toks:=tk }:=I.kept fun b o e=>Heap.get?_push_of_some _ e
 refine ⟨(s.heap.push { cls:=.type "range",data:=.fields #[.int lo t,.int hi u,.int 1 v] }).objs.size,[(s.heap.push { cls:=.type "range",data:=.fields #[.int lo t,.int hi u,.int 1 v] }).objs.size],_,_,H,rfl,
  I1.kept (t':=tk) fun b o e=>Heap.get?_push_of_some _ e,Lq _ lo (hi - lo).toNat,?_,fun b hb=>?_,q⟩
 ·have e1:lo + ((0:Nat):Int) * 1=lo:=by simp
  have e2:(((hi - lo).toNat:Nat):Int) - ((0:Nat):Int)=Builtin.Range.rangeSize lo hi 1:=by rw [rangeSize_one];split <;> omega
  show IsRangeIter _ _ (lo + ((0:Nat):Int) * 1) ((((hi - lo).toNat:Nat):Int) - ((0:Nat):Int)) 1
  rw [e1,e2]
  exact Heap.get?_push_size _ rfl
 ·have e:b=(s.heap.push { cls:=.type "range",data:=.fields #[.int lo t,.int hi u,.int 1 v] }).objs.size:=by simpa using hb
  subst e
  exact I1.nB (Nat.le_refl _) (I1.hok.fresh (Nat.le_refl _))
def rN (ta:TA):TI:=fun σ H R=>ta σ H fun vs H1=>∃ j:Int,vs=[.int j]/\-(2 ^ 62)<=j/\j < 2 ^ 62/\R (Ck 0 j.toNat) H1
theorem qf {a:Expr} {ta:TA} {p pos:Pos} (hg:Gl X "range") (hm:X.mg "range" = none) (ha:PA X [a] ta) (hs:starEach [a] X.env=[(false,eval a X.env)]:=by rfl):PI X tg (.Call (.Name "range" p) [a] [] pos) (rN ta):=by
 intro pins s σ H R I h
 refine Call_ (yu I hg hm boot_range (PyProof.Rows.callWith_type1 (cH (ha pos pins s σ H _ I h) fun us s1 ⟨vs,H1,I1,r1,q1⟩=>?_) hs rfl))
 obtain ⟨j,e,q1,q2,q⟩:=q1
 subst e
 cases r1 with
 | cons r rr =>
  cases rr
  obtain ⟨t,rfl⟩:=r
  exact call_range_1 (Lr I1 (by omega) (by omega) q1 q2 (by simpa using q))
def yJ (wi:TI) (g:TG) (tb:TS):TS:=fun D σ H=>wi σ H fun J H1=>∃ W:Nat->Nat->St->Hp->Prop,(∃ m,W 0 m σ H1)/\∀ i m σ H,W i m σ H ->
 (J.stop i H/\D.nx σ H)\/(J.go i H/\∃ N:St->Hp->Prop,(∀ σ' H',N σ' H'->∃ m',m' < m/\W (i + 1) m' σ' H')/\∀ x H',J.qG i H x H'->g x σ H' fun σ2 H2=>tb { D with nx:=N,ct:=N,bk:=D.nx } σ2 H2)
def lg (fp:List Addr) (h:Heap):List (Addr×Obj):=fp.filterMap fun b=>(h.get? b).map fun o=>(b,o)
theorem Cm {fp:List Addr} {h:Heap} {b:Addr} {o:Obj} (hb:b∈fp) (e:h.get? b=some o):(b,o)∈lg fp h:=List.mem_filterMap.mpr ⟨b,hb,by rw [e];rfl⟩
theorem Ls {fp:List Addr} {h:Heap} {p:Addr×Obj} (hp:p∈lg fp h):p.1∈fp/\h.get? p.1=some p.2:=by
 obtain ⟨b,hb,e⟩:=List.mem_filterMap.mp hp
 cases q:h.get? b with
 | none=>rw [q] at e;cases e
 | some o =>
  rw [q] at e
  have e':(b,o)=p:=Option.some.inj e
  subst e'
  exact ⟨hb,q⟩
theorem Inv.pinned {pins:List (Addr×Obj)} {σ:St} {H:Hp} {s:Shared} {fp:List Addr} (I:Inv X pins σ H s) (hf:∀ b∈fp,j7 X pins H b) (ho:∀ b∈fp,∃ o,s.heap.get? b=some o/\∀ v,o.data≠.cell v):Inv X (pins ++ lg fp s.heap) σ H s :=
 I.kQ fun p hp=>(List.mem_append.mp hp).elim (fun z=>I.pin p (List.mem_append_right _ z)) fun z=>by
  obtain ⟨hb,e⟩:=Ls z
  obtain ⟨f0,f1,f2,_⟩:=hf p.1 hb
  obtain ⟨o,e',d⟩:=ho p.1 hb
  rw [e] at e';cases e'
  exact ⟨e,f0,f1,f2,d⟩
theorem Inv.jL {pins pl:List (Addr×Obj)} {σ:St} {H:Hp} {s:Shared} (I:Inv X (pins ++ pl) σ H s):Inv X pins σ H s:=I.kQ fun p hp=>I.pin p (List.mem_append_right _ (List.mem_append_left _ hp))
theorem mL {iter:Expr} {body:List Stmt} {wi:TI} {g:TG} {tb:TS} {pos:Pos} (hp:PassesOwn (model X.prog X.w) X.A X.env X.xe) (hc:X.calm=true) (hi:PI X tg iter wi) (hg:PG X tg g) (hb:oC X body tb)
  (hs:∀ x,foldedSetIterable iter X.env x=pure x:=by intro _;rfl):PS X (.For tg iter body [] pos) (yJ wi g tb):=by
 intro pins s σ H D I h
 refine wpAny_For (cH (hi pins s σ H _ I h) fun v s1 h1=>cH h1 fun itv s2 h2=>?_) hs
 obtain ⟨it,fp,tn,J,H2,e,I2,T,st2,f2,W,⟨m0,w0⟩,turn⟩:=h2
 subst e
 have stat:∀ {H':Hp},(∀ b∈fp,H' b=none)->∀ b∈fp,j7 X pins H' b:=fun hn b hb=>⟨hn b hb,(f2 b hb).2⟩
 refine codeAny_forLoop_any (fun n s'=>∃ i σ' H',Inv X pins σ' H' s'/\tn i s'.heap/\(∀ b∈fp,H' b=none)/\W i n σ' H') ?_ m0 ⟨0,σ,H2,I2,st2,fun b hb=>(f2 b hb).1,w0⟩
 rintro n s3 ⟨i,σ3,H3,I3,st3,Hq,w3⟩
 rcases turn i n σ3 H3 w3 with ⟨stop,qn⟩ | ⟨go,N,hN,step⟩
 ·refine wpAny_passesOwn hp (cH (T.done X rfl rfl rfl hc i pins s3 σ3 H3 X.xe I3 (stat Hq) st3 stop) fun r s4 ⟨hr,I4⟩=>?_)
  subst hr
  exact wpAny_execs_nil ⟨σ3,H3,I4,qn⟩
 ·refine wpAny_passesOwn hp (cH (T.item X rfl rfl rfl hc i pins s3 σ3 H3 X.xe I3 (stat Hq) st3 go) fun r s4 ⟨u,hr,h4⟩=>?_)
  subst hr
  refine wpAny_passesOwn hp (cH h4 fun _ s5 ⟨x,H5,I5,r5,y5,iq,Cn⟩=>?_)
  have Lu:=I5.pinned (stat Cn) (T.obj _ _ iq)
  refine wpAny_passesOwn hp (cH (hg _ s5 σ3 H5 x u _ Lu r5 (step x H5 y5)) fun _ s6 ⟨σ6,H6,I6,q6⟩=>?_)
  refine wpAny_passesOwn hp (cH (hb _ s6 σ6 H6 _ I6 q6) fun f s7 q7=>?_)
  have again:∀ {σ7:St} {H7:Hp},Inv X (pins ++ lg fp s5.heap) σ7 H7 s7->N σ7 H7->∃ m,m < n/\∃ i σ' H',Inv X pins σ' H' s7/\tn i s7.heap/\(∀ b∈fp,H' b=none)/\W i m σ' H':=fun {σ7 H7} I7 n7=>by
   obtain ⟨m',hm,w7⟩:=hN σ7 H7 n7
   refine ⟨m',hm,i + 1,σ7,H7,I7.jL,T.keep _ _ _ iq fun b hb o e=>(I7.pin (b,o) (List.mem_append_right _ (List.mem_append_right _ (Cm hb e)))).1,fun b hb=>?_,w7⟩
   obtain ⟨o,e,d⟩:=T.obj _ _ iq b hb
   exact (I7.pin (b,o) (List.mem_append_right _ (List.mem_append_right _ (Cm hb e)))).2.1
  cases f with
  | next=>obtain ⟨σ7,H7,I7,n7⟩:=q7;exact again I7 n7
  | cont=>obtain ⟨σ7,H7,I7,n7⟩:=q7;exact again I7 n7
  | brk=>obtain ⟨σ7,H7,I7,q7⟩:=q7;exact ⟨σ7,H7,I7.jL,q7⟩
  | ret v=>obtain ⟨x7,σ7,H7,I7,r7,q7⟩:=q7;exact ⟨x7,σ7,H7,I7.jL,r7,q7⟩
end
end L2
namespace L2
open PySem PySem.Spec PyProof.Rows
abbrev R2:=V->V->Hp->VK->Prop
def jG (X:Cx) (f:Value->Value->Sem Value) (r:R2):Prop :=
 ∀ (pins:List (Addr×Obj)) (s:Shared) (σ:St) (H:Hp) (x y:V) (v u:Value) (Q:VK),Inv X pins σ H s->RelV x v->RelV y u->r x y H Q ->
  wpAny (model X.prog X.w) X.A (f v u) (EP X pins σ Q) X.xe s
def EF (X:Cx) (f:Value->Sem Value) (r:V->Hp->VK->Prop):Prop :=
 ∀ (pins:List (Addr×Obj)) (s:Shared) (σ:St) (H:Hp) (x:V) (v:Value) (Q:VK),Inv X pins σ H s->RelV x v->r x H Q ->
  wpAny (model X.prog X.w) X.A (f v) (EP X pins σ Q) X.xe s
def hJ (X:Cx) (f:Value) (r:List V->Hp->VK->Prop):Prop :=
 ∀ (pins:List (Addr×Obj)) (s:Shared) (σ:St) (H:Hp) (xs:List V) (us:List Value) (Q:VK),Inv X pins σ H s->Vals xs us->r xs H Q ->
  wpAny (model X.prog X.w) X.A (call f us) (EP X pins σ Q) X.xe s
def yK (r:R2) (ta tb:TE):TE:=fun σ H Q=>ta σ H fun x H1=>tb σ H1 fun y H2=>r x y H2 Q
def Hr (r:V->Hp->VK->Prop) (ta:TE):TE:=fun σ H Q=>ta σ H fun x H1=>r x H1 Q
def rI (C:Int->Int->Prop) (g:Int->Int->V):R2:=fun x y H Q=>∃ i j,x=.int i/\y=.int j/\C i j/\Q (g i j) H
def oD (g:Int->Int->V):R2:=fun x y H Q=>∃ i j,x=.int i/\y=.int j/\Q (g i j) H
def rU (g:Int->V):V->Hp->VK->Prop:=fun x H Q=>∃ i,x=.int i/\Q (g i) H
section
variable {X:Cx} {a b c:Expr} {ta tb tc:TE} {pos:Pos}
theorem ur (ha:PE X a ta) (hb:PE X b tb) {pins:List (Addr×Obj)} {s:Shared} {σ:St} {H:Hp} {R:V->V->Hp->Prop} (I:Inv X pins σ H s)
  (h:ta σ H fun x H1=>tb σ H1 fun y H2=>R x y H2) {Q:Value->Shared->Prop} {f:Value->Value->Sem Value}
  (hf:∀ v u s2 x y H2,Inv X pins σ H2 s2->RelV x v->RelV y u->R x y H2->wpAny (model X.prog X.w) X.A (f v u) Q X.xe s2) :
  wpAny (model X.prog X.w) X.A (eval a X.env) (fun v s₁=>wpAny (model X.prog X.w) X.A (eval b X.env) (fun u s₂=>wpAny (model X.prog X.w) X.A (f v u) Q X.xe s₂) X.xe s₁) X.xe s:=by
 refine cH (ha pins s σ H _ I h) fun v s1 ⟨x,H1,I1,r1,q1⟩=>?_
 refine cH (hb pins s1 σ H1 _ I1 q1) fun u s2 ⟨y,H2,I2,r2,q2⟩=>?_
 exact hf v u s2 x y H2 I2 r1 r2 q2
theorem bP {op:Operator} {r:R2} (ho:jG X (binaryOp op) r) (ha:PE X a ta) (hb:PE X b tb):PE X (.BinOp a op b pos) (yK r ta tb):=by
 intro pins s σ H Q I h
 exact wpAny_BinOp (ur ha hb I h fun v u s2 x y H2 I2 rx ry q=>ho pins s2 σ H2 x y v u Q I2 rx ry q)
theorem rO {op:UnaryOp} {r:V->Hp->VK->Prop} (ho:EF X (unaryOp op) r) (ha:PE X a ta):PE X (.UnaryOp op a pos) (Hr r ta):=by
 intro pins s σ H Q I h
 exact UnaryOp_ (cH (ha pins s σ H _ I h) fun v s1 ⟨x,H1,I1,r1,q1⟩=>ho pins s1 σ H1 x v Q I1 r1 q1)
theorem xA {f:Value->Value->Sem Value} {C:Int->Int->Prop} {g:Int->Int->Int}
  (rule:∀ (i j:Int) (t u:Tok) (s:Shared) (Q:Value->Shared->Prop) (E:Value->Shared->Prop),C i j->Q (.int (g i j) s.toks) { s with toks:=s.toks + 1 }->wpAny (model X.prog X.w) X.A (f (.int i t) (.int j u)) Q E s) :
  jG X f (rI C fun i j=>.int (g i j)):=by
 intro pins s σ H x y v u Q I rx ry h
 obtain ⟨i,j,rfl,rfl,hc,q⟩:=h
 obtain ⟨t,rfl⟩:=rx
 obtain ⟨t',rfl⟩:=ry
 exact rule i j t t' s _ _ hc ⟨.int (g i j),H,I.tok _,⟨_,rfl⟩,q⟩
theorem yL {f:Value->Value->Sem Value} {g:Int->Int->Int}
  (rule:∀ (i j:Int) (t u:Tok) (s:Shared) (Q:Value->Shared->Prop) (E:Value->Shared->Prop),Q (.int (g i j) s.toks) { s with toks:=s.toks + 1 }->wpAny (model X.prog X.w) X.A (f (.int i t) (.int j u)) Q E s) :
  jG X f (oD fun i j=>.int (g i j)):=by
 intro pins s σ H x y v u Q I rx ry h
 obtain ⟨i,j,rfl,rfl,q⟩:=h
 obtain ⟨t,rfl⟩:=rx
 obtain ⟨t',rfl⟩:=ry
 exact rule i j t t' s _ _ ⟨.int (g i j),H,I.tok _,⟨_,rfl⟩,q⟩
theorem uu {f:Value->Value->Sem Value} {g:Int->Int->Bool}
  (rule:∀ (i j:Int) (t u:Tok) (s:Shared) (Q:Value->Shared->Prop) (E:Value->Shared->Prop),Q (.bool (g i j)) s->wpAny (model X.prog X.w) X.A (f (.int i t) (.int j u)) Q E s) :
  jG X f (oD fun i j=>.bl (g i j)):=by
 intro pins s σ H x y v u Q I rx ry h
 obtain ⟨i,j,rfl,rfl,q⟩:=h
 obtain ⟨t,rfl⟩:=rx
 obtain ⟨t',rfl⟩:=ry
 exact rule i j t t' s _ _ ⟨.bl (g i j),H,I,rfl,q⟩
def yM (i j:Int):Prop:=0 < j/\j < 1073741824
def rP (i j:Int):Prop:=j≠0/\j.natAbs < 1073741824
def yN (i j:Int):Prop:=0<=j/\j<=1000000/\i.natAbs < 2 ^ 64
def o7 (i j:Int):Prop:=(-(2 ^ 64) < i/\i < 2 ^ 64)\/(-(2 ^ 64) < j/\j < 2 ^ 64)
theorem o7.ok {i j:Int} (h:o7 i j):IntMulOk i j:=by
 rcases h with ⟨h1,h2⟩ | ⟨h1,h2⟩
 ·exact .of_left (intBits_le_64 h1 h2)
 ·exact .of_right (intBits_le_64 h1 h2)
theorem kH:jG X (binaryOp .Add) (oD fun i j=>.int (i + j)):=yL fun _ _ _ _ _ _ _ q=>add_int q
theorem yO:jG X (binaryOp .Sub) (oD fun i j=>.int (i - j)):=yL fun _ _ _ _ _ _ _ q=>sub_int q
theorem qg:jG X (binaryOp .Mult) (rI o7 fun i j=>.int (i * j)):=xA fun _ _ _ _ _ _ _ hc q=>mul_int q hc.ok
theorem Hs:jG X (binaryOp .FloorDiv) (rI yM fun i j=>.int (i / j)):=xA fun i j _ _ _ _ _ hc q=>by
 have h1:(0:Int) < j:=hc.1
 have h2:j < 1073741824:=hc.2
 exact floordiv_int (by omega) (by rw [Int.fdiv_eq_ediv_of_nonneg i (by omega)];exact q) (.inl (PyProof.noPylong_small (by omega)))
theorem Lv:jG X (binaryOp .FloorDiv) (rI rP fun i j=>.int (i.fdiv j)):=xA fun _ _ _ _ _ _ _ hc q=>floordiv_int hc.1 q (.inl (PyProof.noPylong_small hc.2))
theorem qh:jG X (binaryOp .Mod) (rI (fun _ j=>0 < j) fun i j=>.int (i % j)):=xA fun i j _ _ _ _ _ hc q=>by
 have h1:(0:Int) < j:=hc
 exact mod_int' (by omega) (by rw [Int.fmod_eq_emod_of_nonneg i (by omega)];exact q)
theorem Ht:jG X (binaryOp .Pow) (rI yN fun i j=>.int (i ^ j.toNat)):=xA fun _ _ _ _ _ _ _ hc q=>pow_int_small hc.1 hc.2.1 hc.2.2 q
theorem Lw {f:Value->Sem Value} {g:Int->Int}
  (rule:∀ (i:Int) (t:Tok) (s:Shared) (Q:Value->Shared->Prop) (E:Value->Shared->Prop),Q (.int (g i) s.toks) { s with toks:=s.toks + 1 }->wpAny (model X.prog X.w) X.A (f (.int i t)) Q E s) :
  EF X f (rU fun i=>.int (g i)):=by
 intro pins s σ H x v Q I rx h
 obtain ⟨i,rfl,q⟩:=h
 obtain ⟨t,rfl⟩:=rx
 exact rule i t s _ _ ⟨.int (g i),H,I.tok _,⟨_,rfl⟩,q⟩
theorem rQ:EF X (unaryOp .USub) (rU fun i=>.int (-i)):=Lw fun _ _ _ _ _ q=>neg_int q
end
def nC:V->V->Bool
 | .non,.non=>true | .non,.int _=>true | .int _,.non=>true | .non,.bl _=>true | .bl _,.non=>true | .non,.str _=>true | .str _,.non=>true
 | .int _,.int _=>true | .bl _,.bl _=>true | .str _,.str _=>true | .oV _,.oV _=>true
 | .int _,.str _=>true | .str _,.int _=>true | .bl _,.str _=>true | .str _,.bl _=>true
 | _,_=>false
def Hu:R2:=fun x y H Q=>nC x y=true/\Q (.bl (decide (x=y))) H
def Hv:R2:=fun x y H Q=>nC x y=true/\Q (.bl (!decide (x=y))) H
theorem Hw {i j:Int}:decide (V.int i=V.int j)=(i == j):=by
 rw [Bool.eq_iff_iff]
 simp
theorem Hx {i j:Bool}:decide (V.bl i=V.bl j)=(i == j):=by
 rw [Bool.eq_iff_iff]
 simp
theorem Hy {i j:Str}:decide (V.str i=V.str j)=(i == j):=by
 rw [Bool.eq_iff_iff]
 simp
theorem Hz {i j:Array UInt8}:decide (V.oV i=V.oV j)=(i.toList == j.toList):=by
 rw [Bool.eq_iff_iff]
 cases i
 cases j
 simp
section
variable {X:Cx} {a b c:Expr} {ta tb tc:TE} {pos:Pos}
theorem jH {pins:List (Addr×Obj)} {σ:St} {H:Hp} {s:Shared} {Q:VK} {k k':Bool} (I:Inv X pins σ H s) (q:Q (.bl k) H) (e:k=k'):EP X pins σ Q (.bool k') s:=by
 subst e
 exact ⟨.bl k,H,I,rfl,q⟩
theorem mN:jG X (compareOp .Eq) Hu:=by
 intro pins s σ H x y v u Q I rx ry h
 obtain ⟨hs,q⟩:=h
 cases x with
 | non =>
  cases rx
  cases y with
  | non=>cases ry;exact PySem.EqNone.eq_none_none (jH I q (by simp))
  | bl j=>cases ry;exact PySem.EqNone.eq_none_bool (jH I q (by simp))
  | int j=>obtain ⟨t',rfl⟩:=ry;exact PySem.EqNone.eq_none_int (jH I q (by simp))
  | str j=>obtain ⟨t',rfl⟩:=ry;exact PySem.EqNone.eq_none_str (jH I q (by simp))
  | _=>exact absurd (show false=true from hs) Bool.false_ne_true
 | bl i =>
  cases rx
  cases y with
  | non=>cases ry;exact PySem.EqNone.eq_bool_none (jH I q (by simp))
  | bl j=>cases ry;exact eq_bool (jH I q Hx)
  | str j=>obtain ⟨t',rfl⟩:=ry;exact PySem.EqMixed.eq_bool_str (jH I q (by simp))
  | _=>exact absurd (show false=true from hs) Bool.false_ne_true
 | int i =>
  obtain ⟨t,rfl⟩:=rx
  cases y with
  | non=>cases ry;exact PySem.EqNone.eq_int_none (jH I q (by simp))
  | int j=>obtain ⟨t',rfl⟩:=ry;exact eq_int (jH I q Hw)
  | str j=>obtain ⟨t',rfl⟩:=ry;exact PySem.EqMixed.eq_int_str (jH I q (by simp))
  | _=>exact absurd (show false=true from hs) Bool.false_ne_true
 | str i =>
  obtain ⟨t,rfl⟩:=rx
  cases y with
  | non=>cases ry;exact PySem.EqNone.eq_str_none (jH I q (by simp))
  | bl j=>cases ry;exact PySem.EqMixed.eq_str_bool (jH I q (by simp))
  | int j=>obtain ⟨t',rfl⟩:=ry;exact PySem.EqMixed.eq_str_int (jH I q (by simp))
  | str j=>obtain ⟨t',rfl⟩:=ry;exact eq_str (jH I q Hy)
  | _=>exact absurd (show false=true from hs) Bool.false_ne_true
 | oV i =>
  obtain ⟨t,rfl⟩:=rx
  cases y with
  | oV j=>obtain ⟨t',rfl⟩:=ry;exact PySem.W.eq_bytes (jH I q Hz)
  | _=>exact absurd (show false=true from hs) Bool.false_ne_true
 | _=>cases y <;> exact absurd (show false=true from hs) Bool.false_ne_true
theorem rR:jG X (compareOp .NotEq) Hv:=by
 intro pins s σ H x y v u Q I rx ry h
 obtain ⟨hs,q⟩:=h
 cases x with
 | non =>
  cases rx
  cases y with
  | non=>cases ry;exact PySem.EqNone.ne_none_none (jH I q (by simp))
  | bl j=>cases ry;exact PySem.EqNone.ne_none_bool (jH I q (by simp))
  | int j=>obtain ⟨t',rfl⟩:=ry;exact PySem.EqNone.ne_none_int (jH I q (by simp))
  | str j=>obtain ⟨t',rfl⟩:=ry;exact PySem.EqNone.ne_none_str (jH I q (by simp))
  | _=>exact absurd (show false=true from hs) Bool.false_ne_true
 | bl i =>
  cases rx
  cases y with
  | non=>cases ry;exact PySem.EqNone.ne_bool_none (jH I q (by simp))
  | bl j=>cases ry;exact ne_bool (jH I q (congrArg not Hx))
  | str j=>obtain ⟨t',rfl⟩:=ry;exact PySem.EqMixed.ne_bool_str (jH I q (by simp))
  | _=>exact absurd (show false=true from hs) Bool.false_ne_true
 | int i =>
  obtain ⟨t,rfl⟩:=rx
  cases y with
  | non=>cases ry;exact PySem.EqNone.ne_int_none (jH I q (by simp))
  | int j=>obtain ⟨t',rfl⟩:=ry;exact ne_int (jH I q (congrArg not Hw))
  | str j=>obtain ⟨t',rfl⟩:=ry;exact PySem.EqMixed.ne_int_str (jH I q (by simp))
  | _=>exact absurd (show false=true from hs) Bool.false_ne_true
 | str i =>
  obtain ⟨t,rfl⟩:=rx
  cases y with
  | non=>cases ry;exact PySem.EqNone.ne_str_none (jH I q (by simp))
  | bl j=>cases ry;exact PySem.EqMixed.ne_str_bool (jH I q (by simp))
  | int j=>obtain ⟨t',rfl⟩:=ry;exact PySem.EqMixed.ne_str_int (jH I q (by simp))
  | str j=>obtain ⟨t',rfl⟩:=ry;exact ne_str (jH I q (congrArg not Hy))
  | _=>exact absurd (show false=true from hs) Bool.false_ne_true
 | oV i =>
  obtain ⟨t,rfl⟩:=rx
  cases y with
  | oV j=>obtain ⟨t',rfl⟩:=ry;exact PySem.W.ne_bytes (jH I q (congrArg not Hz))
  | _=>exact absurd (show false=true from hs) Bool.false_ne_true
 | _=>cases y <;> exact absurd (show false=true from hs) Bool.false_ne_true
theorem rS:jG X (compareOp .Lt) (oD fun i j=>.bl (decide (i < j))):=uu fun _ _ _ _ _ _ _ q=>lt_int q
theorem EG:jG X (compareOp .Gt) (oD fun i j=>.bl (decide (j < i))):=uu fun _ _ _ _ _ _ _ q=>gt_int q
theorem yP:jG X (compareOp .GtE) (oD fun i j=>.bl (decide (j<=i))):=uu fun _ _ _ _ _ _ _ q=>ge_int q
theorem aW (b:Expr) {op:CmpOp} (h:op≠.In:=by decide) (h2:op≠.NotIn:=by decide):behindInMarks op b=false:=by
 have e1:(op == CmpOp.In)=false:=by cases op <;> first | rfl | exact absurd rfl h
 have e2:(op == CmpOp.NotIn)=false:=by cases op <;> first | rfl | exact absurd rfl h2
 cases b <;> simp [behindInMarks,e1,e2]
theorem Co {op:CmpOp} {r:R2} (ho:jG X (compareOp op) r) (ha:PE X a ta) (hb:PE X b tb) (hm:behindInMarks op b=false):PE X (.Compare a [op] [b] pos) (yK r ta tb):=by
 intro pins s σ H Q I h
 exact wpAny_Compare1 (ur ha hb I h fun v u s2 x y H2 I2 rx ry q=>ho pins s2 σ H2 x y v u Q I2 rx ry q) hm
def rT (t:TE):TT:=fun σ H Q=>t σ H fun x H'=>∃ k,x=.bl k/\Q k H'
theorem ib {op:CmpOp} {r:R2} (ho:jG X (compareOp op) r) (ha:PE X a ta) (hb:PE X b tb) (hm:behindInMarks op b=false):PT X (.Compare a [op] [b] pos) (rT (yK r ta tb)):=by
 intro pins s σ H Q I h
 refine wpAny_isTrue_Compare1 (cH (ha pins s σ H _ I h) fun v s1 ⟨x,H1,I1,r1,q1⟩=>cH (hb pins s1 σ H1 _ I1 q1) fun u s2 ⟨y,H2,I2,r2,q2⟩ =>
  cH (ho pins s2 σ H2 x y v u _ I2 r1 r2 q2) fun c s3 ⟨z,H3,I3,r3,k,e,q3⟩=>?_) hm
 subst e
 cases r3
 exact wpAny_truthy_bool ⟨H3,I3,q3⟩
theorem j8:(sizeLine:Nat) < 2 ^ 63:=by rw [sizeLine_eq];decide
theorem vals1 {x:V} {us:List Value} (r:Vals [x] us):∃ u,us=[u]/\RelV x u:=by
 cases r with
 | cons r1 r2=>cases r2;exact ⟨_,rfl,r1⟩
theorem vals2 {x y:V} {us:List Value} (r:Vals [x,y] us):∃ u w',us=[u,w']/\RelV x u/\RelV y w':=by
 cases r with
 | cons r1 r2 =>
  cases r2 with
  | cons r3 r4=>cases r4;exact ⟨_,_,rfl,r1,r3⟩
theorem Lx (hc:X.calm=true):hJ X (.builtin "max") (fun xs H Q=>∃ i j,xs=[.int i,.int j]/\Q (.int (if j > i then j else i)) H):=by
 intro pins s σ H xs us Q I r h
 obtain ⟨i,j,rfl,q⟩:=h
 obtain ⟨u,w',rfl,⟨t,rfl⟩,⟨t',rfl⟩⟩:=vals2 r
 refine max_two_ints (I.ok.hd hc) fun h' tk k=>⟨_,H,I.kept k,?_,q⟩
 by_cases hj:j > i
 ·rw [if_pos hj,if_pos hj];exact ⟨_,rfl⟩
 ·rw [if_neg hj,if_neg hj];exact ⟨_,rfl⟩
theorem Ly:hJ X (.type "int") (fun xs H Q=>(∃ i,xs=[.int i]/\Q (.int i) H)\/∃ k,xs=[.bl k]/\Q (.int (if k then 1 else 0)) H):=by
 intro pins s σ H xs us Q I r h
 rcases h with ⟨i,rfl,q⟩ | ⟨k,rfl,q⟩
 ·obtain ⟨u,rfl,t,rfl⟩:=vals1 r
  exact call_int_int ⟨.int i,H,I,⟨_,rfl⟩,q⟩
 ·obtain ⟨u,rfl,r1⟩:=vals1 r
  cases r1
  exact call_int_bool ⟨.int (if k then 1 else 0),H,I.tok _,⟨_,rfl⟩,q⟩
end
end L2
namespace L2
open PySem PySem.Spec PyProof.Rows
section
variable {prog:Program} {w:World} {A:Around} {E:Value->Shared->Prop} {s:Shared} {K:PySem.W.Frag} {x dx C f:Addr} {mA:Str->Option Value} {name:Str} {v:Value}
end
section
variable {P:Program} {w:World} {H H':Hp} {h h':Heap} {a C dx:Addr} {fs fs':List (Str×V)}
end
structure o8 (K:PySem.W.Frag) (C:Addr) (f:Str) (v:V) (u:Value):Prop where
 at_:PySem.W.findIn K (.ref C) f=some (some u)
 rel:RelV v u
 get:PySem.W.specialIn K u "__get__" = some none
 cp:PySem.W.copiedNames.contains f=false
section
variable {X:Cx} {pins:List (Addr×Obj)} {σ:St} {H:Hp} {s:Shared} {a C dx:Addr} {fs:List (Str×V)} {f:Str} {v:V} {A:Around} {E:Value->Shared->Prop}
end
section
variable {X:Cx} {o e value:Expr} {f:Str} {pos pos' tpos:Pos} {ta tv:TE}
end
section
variable {X:Cx} {pins:List (Addr×Obj)} {σ:St} {H:Hp} {s:Shared} {A:Around} {E:Value->Shared->Prop} {Q:Value->Shared->Prop} {c:Value} {b:Bool}
end
end L2
namespace L2
open PySem PySem.Spec PyProof.Rows
structure gx (k:Nat) (A:Around):Prop where
 hd:A.handled=none
 dp:A.depth + 3 * k + 5 < recursionLimit
 un:A.units + 16 * k + 200 < cLine
 gd:A.guards=some []
theorem gx.mono {j k:Nat} {A:Around} (r:gx k A) (h:j<=k):gx j A:=⟨r.hd,by have:=r.dp;omega,by have:=r.un;omega,r.gd⟩
theorem gx.deeper {k:Nat} {A:Around} (r:gx (k + 1) A) (env:Env):gx k (A.deeper env) :=
 ⟨r.hd,by have:=r.dp;show A.depth + 1 + 3 * k + 5 < _;omega,by have:=r.un;show A.units + 3 + 16 * k + 200 < _;omega,r.gd⟩
theorem gx.depth {k:Nat} {A:Around} (r:gx k A):A.depth < recursionLimit:=by have:=r.dp;omega
theorem gx.units {k:Nat} {A:Around} (r:gx k A):A.units + 64 < cLine:=by have:=r.un;omega
def yQ:TA:=fun _ H Q=>Q [] H
def rV (ta:TE) (tr:TA):TA:=fun σ H Q=>ta σ H fun x H1=>tr σ H1 fun xs H2=>Q (x :: xs) H2
section
variable {X:Cx} {e:Expr} {es:List Expr} {te:TE} {t:TA} {pos:Pos}
theorem az:PA X [] yQ:=fun _ _ _ _ H Q I h=>Calls.spliced_nil ⟨[],H,I,.nil,h⟩
theorem aq (ha:PE X e te) (hr:PA X es t) (hs:starEach (e :: es) X.env=(false,eval e X.env) :: starEach es X.env:=by rfl):PA X (e :: es) (rV te t):=by
 intro pos pins s σ H Q I h
 rw [hs]
 show wpAny _ _ (spliced ((false,eval e X.env) :: backTo pos (starEach es X.env))) _ _ s
 refine Calls.spliced_cons (cH (ha pins s σ H _ I h) fun u s1 ⟨x,H1,I1,r1,q1⟩=>?_)
 exact cH (hr pos pins s1 σ H1 _ I1 q1) fun us s2 ⟨xs,H2,I2,r2,q2⟩=>⟨x :: xs,H2,I2,.cons r1 r2,q2⟩
def yR (t:TA):TE:=fun σ H Q=>t σ H fun xs H1=>xs.length<=sizeLine/\∀ p,H1 p=none->Q (.ref p) (upd H1 p (.tup xs))
def yS (t:TA):TE:=fun σ H Q=>t σ H fun xs H1=>xs.length<=sizeLine/\∀ p,H1 p=none->Q (.ref p) (upd H1 p (.lst xs))
theorem ic {x1} (h:PA X es t):PE X (.Tuple es x1 pos) (yR t):=by
 intro pins s σ H Q I hq
 refine wpAny_Tuple_spliced (cH (h pos pins s σ H _ I hq) fun us s1 ⟨xs,H1,I1,r,z,q⟩=>⟨by rw [<- r.length];exact z,?_⟩)
 have hf:H1 s1.heap.objs.size=none:=I1.hok.fresh (Nat.le_refl _)
 refine ⟨.ref s1.heap.objs.size,upd H1 s1.heap.objs.size (.tup xs),I1.laid (t':=s1.toks) (fun b u e=>Heap.get?_push_of_some _ e) (Nat.le_refl _) ?_,rfl,q _ hf⟩
 exact ⟨z,us,r,⟨_,Heap.get?_push_size _ rfl,rfl,rfl,_,rfl⟩⟩
theorem lF (h:PA X es t):PE X (.List es pos) (yS t):=by
 intro pins s σ H Q I hq
 refine wpAny_List_spliced (cH (h pos pins s σ H _ I hq) fun us s1 ⟨xs,H1,I1,r,z,q⟩=>⟨by rw [<- r.length];exact z,?_⟩)
 have hf:H1 s1.heap.objs.size=none:=I1.hok.fresh (Nat.le_refl _)
 refine ⟨.ref s1.heap.objs.size,upd H1 s1.heap.objs.size (.lst xs),I1.laid (t':=s1.toks) (fun b u e=>Heap.get?_push_of_some _ e) (Nat.le_refl _) ?_,rfl,q _ hf⟩
 exact ⟨z,us,0,r,Heap.get?_push_size _ rfl⟩
end
abbrev Sp:=List V->Hp->VK->XK->Prop
abbrev oE:=List Env->Hp->Shared->XK->Value->Shared->Prop
structure qH (P:Program) (w:World) (K:PySem.W.Frag) (mg:Str->Option Value) (base:Heap) (A:Around) (outer:List Env) (s:Shared) (H:Hp):Prop where
 frames:A.frames=some outer
 mod:Mod K mg base
 bs:∀ b o,base.get? b=some o->s.heap.get? b=some o/\H b=none
 rE:base.objs.size<=s.heap.objs.size
 la:s.heap.FunFrames base outer
 xv:∀ b∈frs outer,H b=none
 hok:jJ P w H s.heap
 bare:AllBare s.gens
def CE (outer:List Env) (P:Program) (w:World) (H:Hp) (s:Shared) (Q:VK) (u:Value) (s':Shared):Prop :=
 ∃ v H',s'.os=s.os/\AllBare s'.gens/\Un (frs outer) [] H H' s.heap s'.heap/\jJ P w H' s'.heap/\RelV v u/\Q v H'
def CR (CX:oE) (outer:List Env) (P:Program) (w:World) (H:Hp) (s:Shared) (Q:VK) (E:XK) (r:Result) (s':Shared):Prop :=
 match r with
 | .ok (.ret u)=>CE outer P w H s Q u s'
 | .ok _=>False
 | .error e=>CX outer H s E e s'
structure ay (P:Program) (w:World) (K:PySem.W.Frag) (mg:Str->Option Value) (base:Heap) (CX:oE) (k:Nat) (f:Addr) (fd:FuncData) (ps:List Str) (sp:Sp):Prop where
 len:∀ vs H Q E,sp vs H Q E->vs.length=ps.length
 run:∀ (A:Around) (outer:List Env) (s:Shared) (H:Hp) (args:Args) (us:List Value) (vs:List V) (Q:VK) (E:XK),gx k A->qH P w K mg base A outer s H->BindsTo s fd args (ps.zip us)->Vals vs us->sp vs H Q E ->
  codeAny (model P w) A (.call (.ref f) args) (CR CX outer P w H s Q E) s
theorem ay.imp {P:Program} {w:World} {K:PySem.W.Frag} {mg:Str->Option Value} {base:Heap} {CX:oE} {k:Nat} {f:Addr} {fd:FuncData} {ps:List Str} {sp HA:Sp} (F:ay P w K mg base CX k f fd ps sp)
  (h:∀ vs H Q E,HA vs H Q E->sp vs H Q E):ay P w K mg base CX k f fd ps HA :=
 ⟨fun vs H Q E q=>F.len vs H Q E (h _ _ _ _ q),fun A outer s H args us vs Q E hr he hb hv hs=>F.run A outer s H args us vs Q E hr he hb hv (h _ _ _ _ hs)⟩
section
variable {X:Cx} {pins:List (Addr×Obj)} {σ:St} {H:Hp} {s s':Shared}
theorem Inv.EH (I:Inv X pins σ H s):qH X.prog X.w X.K X.mg X.base X.A X.stack s H :=
 ⟨I.ok.frames,I.ok.mod,I.bs,Nat.le_trans I.ok.rE I.sz,I.stack,I.nP,I.hok,I.bare⟩
theorem Inv.after {Q:VK} {u:Value} (I:Inv X pins σ H s) (h:CE X.stack X.prog X.w H s Q u s'):EP X pins σ Q u s':=by
 obtain ⟨v,H',os,bare,un,hok,r,q⟩:=h
 obtain ⟨hh,g,d,t,os'⟩:=s'
 obtain rfl:os'=s.os:=os
 exact ⟨v,H',I.call (h':=hh) (g':=g) (d':=d) (t':=t) (ch:=[]) un hok bare (fun b z=>absurd z (by simp)),r,q⟩
end
def rW (sp:Sp) (rX:List V) (E:XK) (t:TA):TE:=fun σ H Q=>t σ H fun vs H1=>sp (vs ++ rX) H1 Q E
def Binds (K:PySem.W.Frag) (fd:FuncData) (ps:List Str) (ds:List Value):Prop :=
 ∀ (s:Shared) (us:List Value),K.In s.heap->(us ++ ds).length=ps.length->BindsTo s fd ⟨us,[]⟩ (ps.zip (us ++ ds))
theorem Binds.all {K:PySem.W.Frag} {fd:FuncData} {ps:List Str} (h:∀ us:List Value,us.length=ps.length->bindArgs fd ⟨us,[]⟩=pure (ps.zip us)):Binds K fd ps []:=fun s us _ hl=>by
 rw [List.append_nil] at hl ⊢
 exact .of_eq (h us hl)
def Passes (CX:oE) (X:Cx) (E:XK):Prop:=∀ (pins:List (Addr×Obj)) (σ:St) (H:Hp) (s:Shared) (e:Value) (s':Shared),Inv X pins σ H s->CX X.stack H s E e s'->X.xe e s'
section
variable {X:Cx} {CX:oE} {k:Nat} {f C:Addr} {fd:FuncData} {ps:List Str} {sp:Sp} {rX:List V} {ds:List Value} {E:XK} {x m:Str} {p pos apos:Pos} {e o:Expr} {es:List Expr} {ta:TE} {t:TA}
theorem uv {pins:List (Addr×Obj)} {σ:St} {H:Hp} {s:Shared} {Q:VK} {us:List Value} {vs:List V} (F:ay X.prog X.w X.K X.mg X.base CX k f fd ps sp) (hr:gx k X.A) (hb:Binds X.K fd ps ds) (hd:Vals rX ds) (hx:Passes CX X E)
  (I:Inv X pins σ H s) (r:Vals vs us) (h:sp (vs ++ rX) H Q E):wpAny (model X.prog X.w) X.A (call (.ref f) us) (EP X pins σ Q) X.xe s:=by
 have r2:Vals (vs ++ rX) (us ++ ds):=r.append hd
 have hl:(us ++ ds).length=ps.length:=by rw [<- r2.length];exact F.len _ _ _ _ h
 refine wpAny_call (codeAny_mono (F.run X.A X.stack s H ⟨us,[]⟩ (us ++ ds) (vs ++ rX) Q E hr I.EH (hb s us I.Cc hl) r2 h) fun r s' hq=>?_)
 cases r with
 | error e=>exact hx pins σ H s e s' I hq
 | ok fl =>
  cases fl with
  | ret u=>exact I.after hq
  | next=>exact False.elim hq
  | brk=>exact False.elim hq
  | cont=>exact False.elim hq
theorem bT (F:ay X.prog X.w X.K X.mg X.base CX k f fd ps sp) (hr:gx k X.A) (hg:Gl X x) (hm:X.mg x=some (.ref f)) (hk:PySem.W.keepIn X.K (.ref f)=true) (hb:Binds X.K fd ps ds) (hd:Vals rX ds) (hx:Passes CX X E)
  (ha:PA X (e :: es) t) (hdb:(x == ("__debug__" : Str))=false:=by decide) (he:starEach (e :: es) X.env=(false,eval e X.env) :: starEach es X.env:=by rfl) (hpl:(backTo pos (starEach es X.env)).any (·.1)=false:=by rfl) :
  PE X (.Call (.Name x p) (e :: es) [] pos) (rW sp rX E t):=by
 intro pins s σ H Q I h
 refine wpAny_Call_Name_kw (Hi I hg hm ?_ hdb)
 refine PySem.W.callWith_K (h₀:=X.base) I.ok.mod.Es hk (cH (ha pos pins s σ H _ I h) fun us s1 ⟨vs,H1,I1,r,q⟩=>⟨I1.Cc,?_⟩) he hpl
 exact uv F hr hb hd hx I1 r q
end
section
variable {X:Cx} {CX:oE} {k:Nat} {f C:Addr} {fd:FuncData} {ps ks:List Str} {sp:Sp} {E:XK} {x m:Str} {p pos apos kpos:Pos} {e o:Expr} {es:List Expr} {kws:List Keyword} {te ta:TE} {t tk:TA} {nm:Option Str}
variable {g:List Value->List Value->List Value} {gV:List V->List V->List V}
end
structure aA (N P:List Str) (sc:Scope):Prop where
 kind:sc.kind=.function
 co:sc.isCoroutine=false
 gen:sc.isGenerator=false
 nd:N.Nodup
 pre:N.take P.length=P
 par:∀ x∈P,sc.names.lookup x=some .local\/sc.names.lookup x=some .cell
 uw:∀ y∈sc.names,y.2≠.free
theorem HB {kindOf:Str->Option NameKind} {x:Str}:∀ {binds:List (Str×Value)} {m:Str->Option Value},(∀ v,(x,v) ∉ binds)->bindL kindOf binds m x=m x
 | [],_,_=>rfl
 | (n,v) :: r,m,h=>by
  unfold bindL
  rw [HB fun w hw=>h w (List.mem_cons_of_mem _ hw)]
  split
  ·have:x≠n:=by rintro rfl;exact h v List.mem_cons_self
   simp [this]
  ·rfl
theorem HC {kindOf:Str->Option NameKind} {x:Str}:∀ {binds:List (Str×Value)} {m:Str->Option Value},(∀ v,(x,v) ∉ binds)->bindC kindOf binds m x=m x
 | [],_,_=>rfl
 | (n,v) :: r,m,h=>by
  unfold bindC
  rw [HC fun w hw=>h w (List.mem_cons_of_mem _ hw)]
  split
  ·rfl
  ·have:x≠n:=by rintro rfl;exact h v List.mem_cons_self
   simp [this]
theorem HD {kindOf:Str->Option NameKind} {x:Str} {v:Value}:∀ {P:List Str} {vs:List Value} {i:Nat} {m:Str->Option Value},P.Nodup->P[i]?=some x->vs[i]?=some v->kindOf x=some .local ->
  bindL kindOf (P.zip vs) m x=some v
 | [],_,_,_,_,h,_,_=>by simp at h
 | _ :: _,[],_,_,_,_,h,_=>by simp at h
 | p :: P,w :: vs,0,m,nd,h1,h2,hk=>by
  simp at h1 h2;subst h1;subst h2
  show bindL kindOf ((p,w) :: P.zip vs) m p=_
  unfold bindL
  rw [HB fun v hv=>(List.nodup_cons.mp nd).1 (List.of_mem_zip hv).1,if_pos hk]
  simp
 | p :: P,w :: vs,i + 1,m,nd,h1,h2,hk=>by
  show bindL kindOf ((p,w) :: P.zip vs) m x=_
  unfold bindL
  exact HD (i:=i) (List.nodup_cons.mp nd).2 (by simpa using h1) (by simpa using h2) hk
theorem HE {kindOf:Str->Option NameKind} {x:Str} {v:Value}:∀ {P:List Str} {vs:List Value} {i:Nat} {m:Str->Option Value},P.Nodup->P[i]?=some x->vs[i]?=some v->kindOf x≠some .local ->
  bindC kindOf (P.zip vs) m x=some v
 | [],_,_,_,_,h,_,_=>by simp at h
 | _ :: _,[],_,_,_,_,h,_=>by simp at h
 | p :: P,w :: vs,0,m,nd,h1,h2,hk=>by
  simp at h1 h2;subst h1;subst h2
  show bindC kindOf ((p,w) :: P.zip vs) m p=_
  unfold bindC
  rw [HC fun v hv=>(List.nodup_cons.mp nd).1 (List.of_mem_zip hv).1,if_neg hk]
  simp
 | p :: P,w :: vs,i + 1,m,nd,h1,h2,hk=>by
  show bindC kindOf ((p,w) :: P.zip vs) m x=_
  unfold bindC
  exact HE (i:=i) (List.nodup_cons.mp nd).2 (by simpa using h1) (by simpa using h2) hk
def start (N:List Str) (vs:List V):St:=vs.map some ++ List.replicate (N.length - vs.length) none
def j9 (CX:oE) (P:Program) (w:World) (K:PySem.W.Frag) (mg:Str->Option Value) (base:Heap) (N:List Str) (qual:Str) (scope:Scope) (f:Addr) (cd:Value) (A:Around) (outer:List Env) (s:Shared) (H:Hp) (E:XK):Cx where
 prog:=P
 w:=w
 K:=K
 mg:=mg
 base:=base
 A:=A.deeper (envOfC qual scope s.heap.objs.size f cd)
 N:=N
 s₀:=s
 H₀:=H
 env:=envOfC qual scope s.heap.objs.size f cd
 outer:=outer
 stack:=envOfC qual scope s.heap.objs.size f cd :: outer
 ex:=[]
 calm:=true
 fn:=fun _=>true
 pn:=[]
 xe:=fun e s'=>wpAny (model P w) (A.deeper (envOfC qual scope s.heap.objs.size f cd)) («leaving» (envOfC qual scope s.heap.objs.size f cd) e) (fun _ s''=>CX outer H s E e s'') (fun e' s''=>CX outer H s E e' s'') s'
theorem HF {sc:Scope} {n:Nat} {x:Str} (h:sc.names.lookup x=some .cell):∃ c,(cellsFrom n sc.names []).lookup x=some c:=by
 have q:=PySem.W.cellsFrom_some sc.names n [] (.inl h)
 exact Option.isSome_iff_exists.mp q
theorem Lz {CX:oE} {P:Program} {w:World} {K:PySem.W.Frag} {mg:Str->Option Value} {base:Heap} {N ps:List Str} {qual:Str} {scope:Scope} {f:Addr} {cd:Value} {A:Around} {outer:List Env} {s s1:Shared} {H:Hp} {E:XK} {us:List Value} {vs:List V}
  (S:aA N ps scope) (hd:A.handled=none) (e0:qH P w K mg base A outer s H) (hl:vs.length=ps.length) (r:Vals vs us)
  (x:InCallC s s.heap.objs.size (bindL (envOfC qual scope s.heap.objs.size f cd).kindOf (ps.zip us) fun _=>none) (cellsFrom (s.heap.objs.size + 1) scope.names []) (bindC (envOfC qual scope s.heap.objs.size f cd).kindOf (ps.zip us) fun _=>none) s1) :
  Inv (j9 CX P w K mg base N qual scope f cd A outer s H E) [] (start N vs) H s1:=by
 have hpl:ps.length<=N.length:=by have:=congrArg List.length S.pre;rw [List.length_take] at this;omega
 obtain ⟨h1,tk,rfl,hk⟩:=x.done
 have yT:∀ b:Addr,b ∉ (j9 CX P w K mg base N qual scope f cd A outer s H E).ex:=fun b z=>absurd (show b∈([]:List Addr) from z) (by simp)
 refine ⟨⟨e0.mod,S.kind,rfl,rfl,Nat.le_refl _,fun y z c h1 h2=>?_,fun y hy=>?_,fun y c _ h=>?_,fun _=>hd,Around.frames_deeper e0.frames,.inr ⟨rfl,rfl⟩,fun b z=>absurd z (yT b),e0.bs,e0.rE,fun b _ _=>yT b,fun b z=>absurd z (yT b),e0.la,e0.xv⟩,
  rfl,e0.bare,Un.kept hk,⟨_,x.toInCall.ns,fun i y v h1 h2 h3=>?_⟩,fun y c h=>⟨_,x.cell y c h⟩,e0.hok.fresh (Nat.le_refl _),fun y c h=>?_,fun p hp=>absurd (show p∈([]:List (Addr×Obj)) from hp) (by simp),e0.hok.kept hk,?_⟩
 ·exact name_of_addr x.apart (PySem.mem_of_lookup h1) (PySem.mem_of_lookup h2)
 ·have hy:scope.names.lookup y=some .cell\/scope.names.lookup y=some .free:=hy
  rcases hy with hy | hy
  ·exact HF hy
  ·exact absurd rfl (S.uw _ (PySem.mem_of_lookup hy))
 ·exact Nat.le_of_lt (x.above y c (PySem.mem_of_lookup h))
 ·have hi:i < vs.length:=by
   unfold start at h2
   by_cases hi:i < vs.length
   ·exact hi
   ·rw [List.getElem?_append_right (by simpa using hi)] at h2
    rw [List.getElem?_replicate] at h2
    split at h2 <;> cases h2
  have ha:vs[i]?=some v:=by
   unfold start at h2
   rw [List.getElem?_append_left (by simpa using hi),List.getElem?_map] at h2
   cases e:vs[i]? with
   | none=>rw [e] at h2;cases h2
   | some a=>rw [e] at h2;cases h2;rfl
  obtain ⟨u,hu,rv⟩:=r.get ha
  have hp:ps[i]?=some y:=by
   rw [<- S.pre,List.getElem?_take_of_lt (by omega)];exact h1
  have HG:ps.Nodup:=by rw [<- S.pre];exact S.nd.sublist (List.take_sublist _ _)
  refine ⟨u,rv,?_⟩
  rcases S.par y (List.mem_of_getElem? hp) with k | k
  ·exact .inl ⟨k,HD HG hp hu k⟩
  ·obtain ⟨c,e⟩:=HF (n:=s.heap.objs.size + 1) k
   refine .inr ⟨.inl k,c,e,?_⟩
   have q:=x.cell y c e
   rw [HE HG hp hu (by show scope.names.lookup y≠_;rw [k];decide)] at q
   exact q
 ·exact e0.hok.fresh (Nat.le_of_lt (x.above y c (PySem.mem_of_lookup h)))
 ·unfold start
  show _=N.length
  rw [List.length_append,List.length_map,List.length_replicate]
  omega
theorem yU {CX:oE} {P:Program} {w:World} {K:PySem.W.Frag} {mg:Str->Option Value} {base:Heap} {k:Nat} {f:Addr} {name qual:Str} {params:Arguments} {body:List Stmt} {scope:Scope} {dV kV doc pm cdv ct oc:Value} {an od:Option Addr}
  {osl:Array (Option Value)} {N ps:List Str} {sp:Sp} (lk:K.lookup f=some ⟨oc,od,.func (PySem.W.fnOf name qual params body scope dV kV doc pm an cdv ct),osl⟩) (hcd:PySem.W.codeIn K cdv qual=true) (S:aA N ps scope)
  (len:∀ vs H Q E,sp vs H Q E->vs.length=ps.length)
  (hbody:∀ (A:Around) (outer:List Env) (s:Shared) (H:Hp) (vs:List V) (Q:VK) (E:XK),gx k (A.deeper (envOfC qual scope s.heap.objs.size f cdv))->sp vs H Q E ->
   ∃ t,oC (j9 CX P w K mg base N qual scope f cdv A outer s H E) body t/\t { nx:=fun _ H'=>Q .non H',rt:=Q } (start N vs) H) :
  ay P w K mg base CX (k + 1) f (PySem.W.fnOf name qual params body scope dV kV doc pm an cdv ct) ps sp:=by
 refine ⟨len,fun A outer s H args us vs Q E hr e0 hb r qi=>?_⟩
 have hl:=len _ _ _ _ qi
 have KX:K.In s.heap:=e0.mod.Es.keeps fun b o e=>(e0.bs b o e).1
 have lim:s.heap.NoLimit:=e0.mod.nolimit.keeps fun b o e=>(e0.bs b o e).1
 have hkind:∀ y∈ps.zip us,scope.names.lookup y.1=some .local\/(scope.names.lookup y.1=some .cell/\((cellsFrom (s.heap.objs.size + 1) scope.names []).lookup y.1).isSome=true):=fun ⟨n,v⟩ hy=>by
  rcases S.par n (List.of_mem_zip hy).1 with q | q
  ·exact .inl q
  ·exact .inr ⟨q,PySem.W.cellsFrom_some _ _ _ (.inl q)⟩
 refine codeAny_call_function hr.depth (KX _ _ lk) rfl S.co S.gen rfl (PySem.W.codeRec_of KX hcd) (hb _ _ _ _ ?_)
 refine wpAny_newFunctionEnv_cells S.kind hkind fun env he s1 x=>?_
 subst he
 refine ⟨lim.keeps x.toInCall.keep,codeAny_func ?_⟩
 obtain ⟨t,ht,hq⟩:=hbody A outer s H vs Q E (hr.deeper _) qi
 have I:Inv (j9 CX P w K mg base N qual scope f cdv A outer s H E) [] (start N vs) H s1:=Lz S hr.hd e0 hl r x
 refine wpAny_mono (ht [] s1 (start N vs) H _ I hq) (fun fl s' hs=>?_) fun e s' hs=>hs
 have fin:∀ {σ':St} {H':Hp} {v:V} {u:Value},Inv (j9 CX P w K mg base N qual scope f cdv A outer s H E) [] σ' H' s'->RelV v u->Q v H'->CE outer P w H s Q u s' :=
  fun {σ' H' v u} J rv q=>⟨v,H',J.os,J.bare,J.base,J.hok,rv,q⟩
 cases fl with
 | ret u =>
  obtain ⟨v,σ',H',J,rv,q⟩:=hs
  exact fin J rv q
 | next =>
  obtain ⟨σ',H',J,q⟩:=hs
  exact fin (v:=V.non) (u:=Value.none) J rfl q
 | brk =>
  obtain ⟨_,_,_,q⟩:=hs
  exact False.elim q
 | cont =>
  obtain ⟨_,_,_,q⟩:=hs
  exact False.elim q
end L2
namespace L2
open PySem PySem.Spec PyProof.Rows
section
variable {X:Cx} {x:Str} {p pos:Pos} {e:Expr} {es:List Expr} {t:TA} {id T:String} {r:List V->Hp->VK->Prop}
def EI (r:List V->Hp->VK->Prop) (t:TA):TE:=fun σ H Q=>t σ H fun vs H1=>r vs H1 Q
theorem lS (hc:hJ X (.builtin id) r) (hg:Gl X x) (hm:X.mg x=none) (hv:bootBuiltins x=some (.builtin id)) (ha:PA X (e :: es) t) (hn:x≠"__name__" := by decide) (hdb:(x == ("__debug__" : Str))=false:=by decide)
  (he:starEach (e :: es) X.env=(false,eval e X.env) :: starEach es X.env:=by rfl) (hpl:(backTo pos (starEach es X.env)).any (·.1)=false:=by rfl):PE X (.Call (.Name x p) (e :: es) [] pos) (EI r t):=by
 intro pins s σ H Q I h
 refine wpAny_Call_Name_kw (yu I hg hm hv ?_ hn hdb)
 exact PyProof.Rows.callWith_builtin1 (cH (ha pos pins s σ H _ I h) fun us s1 ⟨vs,H1,I1,r1,q1⟩=>hc pins s1 σ H1 vs us Q I1 r1 q1) he hpl
theorem ie (hc:hJ X (.type T) r) (hg:Gl X x) (hm:X.mg x=none) (hv:bootBuiltins x=some (.type T)) (ha:PA X (e :: es) t) (hn:x≠"__name__" := by decide) (hdb:(x == ("__debug__" : Str))=false:=by decide)
  (he:starEach (e :: es) X.env=(false,eval e X.env) :: starEach es X.env:=by rfl) (hpl:(backTo pos (starEach es X.env)).any (·.1)=false:=by rfl):PE X (.Call (.Name x p) (e :: es) [] pos) (EI r t):=by
 intro pins s σ H Q I h
 refine wpAny_Call_Name_kw (yu I hg hm hv ?_ hn hdb)
 exact PyProof.Rows.callWith_type1 (cH (ha pos pins s σ H _ I h) fun us s1 ⟨vs,H1,I1,r1,q1⟩=>hc pins s1 σ H1 vs us Q I1 r1 q1) he hpl
end
end L2
namespace HT
open PySem PyProof.Rows
section
open PySem.SeqAt
open PySem.AutoSeq1 (wpAny_loadPart')
open PySem.MeetsSeq PySem.MeetsSeq2 PySem.MeetsSeq3
end
section
variable {prog:Program} {w:World} {A:Around} {E:Value->Shared->Prop} {s:Shared}
theorem LA {t b:Addr} {vs ws:List Value} {Q:Value->Shared->Prop} (ht:IsTup s.heap t vs.toArray) (hb:IsTup s.heap b ws.toArray) (hv:vs≠[])
  (h1:ws=[]->Q (.ref t) s) (h2:ws≠[]->Q (.ref s.heap.objs.size) { s with heap:=s.heap.push { cls:=.type "tuple",data:=.seq (vs ++ ws).toArray } })
  (hsz:vs.length + ws.length<=sizeLine):wpAny (model prog w) A (binaryOp .Add (.ref t) (.ref b)) Q E s:=by
 obtain ⟨⟨cls,dd,data,sl⟩,ho,hc,n,hd⟩:=id ht
 obtain ⟨⟨EJ,dd2,data2,sl2⟩,ho2,hc2,n2,hd2⟩:=id hb
 simp only at hc hd hc2 hd2
 subst hc hd hc2 hd2
 have e:vs.toArray ++ ws.toArray=(vs ++ ws).toArray:=by simp
 by_cases hw:ws=[]
 ·exact concat_meets ⟨_,ho,rfl⟩ ⟨_,ho2,rfl⟩ noFill_tuple_add seq_tuple_add PySem.F.slot_tuple_add PySem.F.entry_tuple_add (PySem.F.args_tuple_add_2 _ _)
   (tuple_addW1 t b vs.toArray ws.toArray n n2 dd dd2 sl sl2 (by simpa using hv) (by simp [hw])) ⟨ho,ho2,h1 hw⟩
 ·refine concat_meets ⟨_,ho,rfl⟩ ⟨_,ho2,rfl⟩ noFill_tuple_add seq_tuple_add PySem.F.slot_tuple_add PySem.F.entry_tuple_add (PySem.F.args_tuple_add_2 _ _)
   (tuple_addW2 t b vs.toArray ws.toArray n n2 dd dd2 sl sl2 (by simpa using hv) (by simpa using hw) (by rw [List.size_toArray,List.size_toArray];exact hsz)) ⟨ho,ho2,?_⟩
  rw [e]
  exact h2 hw
def cL (n d:Nat):Option Int->Nat
 | none=>d
 | some v=>if v < 0 then (v + (n:Int)).toNat else min v.toNat n
theorem HI (n d:Nat):cL n d none=d:=rfl
theorem HJ (n d k:Nat):cL n d (some (k:Int))=min k n:=by
 show (if (k:Int) < 0 then ((k:Int) + (n:Int)).toNat else min (k:Int).toNat n)=min k n
 rw [if_neg (by omega),Int.toNat_natCast]
theorem ux (n d:Nat) (hd:d<=n) (o:Option Int):cL n d o<=n:=by
 cases o with
 | none=>exact hd
 | some v =>
  show (if v < 0 then (v + (n:Int)).toNat else min v.toNat n)<=n
  by_cases hv:v < 0
  ·rw [if_pos hv];omega
  ·rw [if_neg hv];exact Nat.min_le_right _ _
theorem HK (v:Int) (n d:Nat):(if v < 0 then max (v + (n:Int)) 0 else min v (n:Int))=((cL n d (some v):Nat):Int):=by
 show (if v < 0 then max (v + (n:Int)) 0 else min v (n:Int))=(((if v < 0 then (v + (n:Int)).toNat else min v.toNat n):Nat):Int)
 by_cases hv:v < 0
 ·simp only [if_pos hv];omega
 ·simp only [if_neg hv];omega
theorem LB (lo hi:Option Int) (n:Nat):Builtin.Slice.sliceAdjust lo hi 1 (n:Int)=(((cL n 0 lo:Nat):Int),((cL n n hi:Nat):Int)):=by
 have h1:¬ ((1:Int) < 0):=by omega
 unfold Builtin.Slice.sliceAdjust
 simp only [h1,if_false]
 refine Prod.ext ?_ ?_
 ·cases lo with
  | none=>rfl
  | some v=>exact HK v n 0
 ·cases hi with
  | none=>rfl
  | some v=>exact HK v n n
theorem LC (i j:Nat):Builtin.Slice.slicePlaces (i:Int) (j:Int) 1=j - i:=by
 unfold Builtin.Slice.slicePlaces
 have h1:(1:Int) > 0:=by omega
 simp only [h1,if_true,Int.ediv_one]
 split <;> omega
theorem HL {v:Value} {o:Option Int} {Q:Option Int->Shared->Prop} (p:IsPart v o) (h:Q o s):wpAny (model prog w) A (Builtin.Slice.slicePartIndex v) Q E s:=by
 cases p with
 | none=>exact slicePart_none h
 | int i t=>exact slicePart_int h
theorem HM {sl:Addr} {vl vu:Value} {lo hi:Option Int} {n:Nat} {Q:Int×Int×Nat->Shared->Prop} (hs:s.heap.IsSliceOf sl vl vu .none) (pl:IsPart vl lo) (pu:IsPart vu hi)
  (h:Q (((cL n 0 lo:Nat):Int),1,cL n n hi - cL n 0 lo) s):wpAny (model prog w) A (Builtin.Slice.sliceApplied (.ref sl) (pure (n:Int))) Q E s:=by
 obtain ⟨os,hos,hcs,hds⟩:=id hs
 unfold Builtin.Slice.sliceApplied Builtin.Slice.sliceFields
 refine wpAny_bind (wpAny_bind (wpAny_field hos hds (x:=vl) rfl (wpAny_bind (wpAny_field hos hds (x:=vu) rfl (wpAny_bind (wpAny_field hos hds (x:=.none) rfl (wpAny_pure ?_)))))))
 refine wpAny_bind (slicePart_none ?_)
 show wpAny _ _ (if ((1:Int) == 0)=true then _ else _) _ _ s
 rw [if_neg (by decide)]
 refine wpAny_bind (HL pl (wpAny_bind (HL pu (wpAny_bind (wpAny_pure ?_)))))
 show wpAny _ _ (match Builtin.Slice.sliceAdjust lo hi 1 (n:Int) with | (lo,hi)=>pure (lo,(1:Int),Builtin.Slice.slicePlaces lo hi 1)) _ _ s
 rw [LB lo hi n]
 show wpAny _ _ (pure (((cL n 0 lo:Nat):Int),(1:Int),Builtin.Slice.slicePlaces ((cL n 0 lo:Nat):Int) ((cL n n hi:Nat):Int) 1)) _ _ s
 rw [LC]
 exact wpAny_pure h
theorem LD (xs:Array Value) (i k:Nat):((List.range k).filterMap fun (m:Nat)=>xs[((i:Int) + (m:Int) * 1).toNat]?).toArray=((xs.toList.drop i).take k).toArray:=by
 have e:(fun (m:Nat)=>xs[((i:Int) + (m:Int) * 1).toNat]?)=fun m=>xs[i + m]?:=by
  funext m
  have:((i:Int) + (m:Int) * 1).toNat=i + m:=by omega
  rw [this]
 rw [e]
 have:=pick_run xs i k
 rw [List.filterMap_map] at this
 have e2:((fun x=>xs[x]?) ∘ fun x=>i + x)=fun m=>xs[i + m]?:=rfl
 rw [e2] at this
 rw [this]
theorem LF {t sl:Addr} {items:Array Value} {vl vu:Value} {lo hi:Option Int} {Q:Value->Shared->Prop} (ht:IsTup s.heap t items) (hs:s.heap.IsSliceOf sl vl vu .none) (pl:IsPart vl lo) (pu:IsPart vu hi)
  (hw:¬ (cL items.size 0 lo=0/\cL items.size items.size hi=items.size))
  (h:Q (.ref s.heap.objs.size) { s with heap:=s.heap.push { cls:=.type "tuple",data:=.seq ((items.toList.drop (cL items.size 0 lo)).take (cL items.size items.size hi - cL items.size 0 lo)).toArray } })
  (hsz:items.size<=sizeLine):wpAny (model prog w) A (getItem (.ref t) (.ref sl)) Q E s:=by
 have nQ:sizeOk (.seq ((items.toList.drop (cL items.size 0 lo)).take (cL items.size items.size hi - cL items.size 0 lo)).toArray):=by
  show ((items.toList.drop (cL items.size 0 lo)).take (cL items.size items.size hi - cL items.size 0 lo)).toArray.size<=sizeLine
  rw [List.size_toArray,List.length_take,List.length_drop,Array.length_toList]
  omega
 have hj:cL items.size items.size hi<=items.size:=ux _ _ (Nat.le_refl _) hi
 obtain ⟨os,hos,hcs,hds⟩:=id hs
 have EK:s.TypeIs (.ref sl) "slice" := ⟨os,hos,hcs⟩
 unfold getItem
 try with_reducible refine wpAny_holding ?_
 first | refine wpAny_bind (wpAny_pure ?_) | skip
 refine wpAny_bind (wpAny_sequenceKey ht.typeIs (by decide) ?_)
 refine wpAny_bind (wpAny_callSpecial?_slot (name:=Str.ofString "__getitem__") ht.typeIs PyProof.Rows.slot_tuple_getitem
  (wpAny_call_entry PyProof.Rows.slot_tuple_getitem ht.typeIs entry_tuple_getitem ?_ (args_tuple_getitem _ _)))
 show wpAny _ _ (Builtin.Tuple.tupleItemsOf (.ref t) >>= _) _ _ s
 refine wpAny_bind (tupleItemsOf_ ht ?_)
 refine wpAny_bind (wpAny_typeOf EK ?_)
 rw [if_pos (by decide)]
 refine wpAny_bind (HM hs pl pu ?_)
 have hno:¬ ((((cL items.size 0 lo:Nat):Int) == 0 && (1:Int) == 1 && (cL items.size items.size hi - cL items.size 0 lo) == items.size)=true):=by
  intro q
  rw [Bool.and_eq_true,Bool.and_eq_true] at q
  have q1:((cL items.size 0 lo:Nat):Int)=0:=eq_of_beq q.1.1
  have q2:cL items.size items.size hi - cL items.size 0 lo=items.size:=eq_of_beq q.2
  exact hw ⟨by omega,by omega⟩
 show wpAny _ _ (if (((cL items.size 0 lo:Nat):Int) == 0 && (1:Int) == 1 && (cL items.size items.size hi - cL items.size 0 lo) == items.size)=true then _ else _) _ _ s
 rw [if_neg hno,LD]
 first
  | exact wpAny_bind (m:=Builtin.Tuple.tupleExact _) (wpAny_newObj_type (wpAny_pure ⟨_,rfl,wpAny_pure h⟩) nQ)
  | exact wpAny_bind (m:=Builtin.Tuple.tupleExact _) (wpAny_newObj_type (wpAny_bind (wpAny_pure (wpAny_pure ⟨_,rfl,wpAny_pure h⟩))) nQ)
  | exact wpAny_bind (wpAny_bind (m:=Builtin.Tuple.tupleExact _) (wpAny_newObj_type (wpAny_pure (wpAny_pure ⟨_,rfl,wpAny_pure h⟩)) nQ))
  | exact wpAny_bind (wpAny_bind (m:=Builtin.Tuple.tupleExact _) (wpAny_newObj_type (wpAny_pure ⟨_,rfl,wpAny_pure h⟩) nQ))
end
end HT
namespace L2
open PySem PySem.Spec PyProof.Rows
abbrev TO:=St->Hp->(Option Int->Hp->Prop)->Prop
def PO (X:Cx) (e:Option Expr) (t:TO):Prop :=
 ∀ (pins:List (Addr×Obj)) (s:Shared) (σ:St) (H:Hp) (Q:Option Int->Hp->Prop),Inv X pins σ H s->t σ H Q ->
  wpAny (model X.prog X.w) X.A (evalPart e X.env) (fun u s'=>∃ o H',Inv X pins σ H' s'/\IsPart u o/\Q o H') X.xe s
def nR:TO:=fun _ H Q=>Q none H
def rY (t:TE):TO:=fun σ H Q=>t σ H fun x H1=>∃ i,x=.int i/\Q (some i) H1
section
variable {X:Cx} {e:Expr} {te:TE} {lo hi:Option Expr} {tl th:TO} {pos p2:Pos}
theorem yV:PO X none nR:=by
 intro pins s σ H Q I h
 rw [evalPart_none]
 exact wpAny_pure ⟨none,H,I,.none,h⟩
theorem yW (h:PE X e te):PO X (some e) (rY te):=by
 intro pins s σ H Q I hw
 rw [evalPart_some]
 refine cH (h pins s σ H _ I hw) fun u s1 ⟨x,H1,I1,r1,q1⟩=>?_
 obtain ⟨i,rfl,q⟩:=q1
 obtain ⟨t,rfl⟩:=r1
 exact ⟨some i,H1,I1,.int i t,q⟩
def Cp (X:Cx) (r:V->Option Int->Option Int->Hp->VK->Prop):Prop :=
 ∀ (pins:List (Addr×Obj)) (s:Shared) (σ:St) (H:Hp) (x:V) (v vl vu:Value) (lo hi:Option Int) (sl:Addr) (Q:VK),Inv X pins σ H s->RelV x v->s.heap.IsSliceOf sl vl vu .none->IsPart vl lo->IsPart vu hi->r x lo hi H Q ->
  ∃ T id,typeLookup (.type T) "__getitem__" = pure (some (.builtin id))/\s.TypeIs v T/\wpAny (model X.prog X.w) X.A (getItem v (.ref sl)) (EP X pins σ Q) X.xe s
def HN (r:V->Option Int->Option Int->Hp->VK->Prop) (te:TE) (tl th:TO):TE:=fun σ H Q=>te σ H fun x H1=>tl σ H1 fun l H2=>th σ H2 fun u H3=>r x l u H3 Q
theorem yX {r:V->Option Int->Option Int->Hp->VK->Prop} (hr:Cp X r) (he:PE X e te) (hl:PO X lo tl) (hu:PO X hi th):PE X (.Subscript e (.Slice lo hi none p2) pos) (HN r te tl th):=by
 intro pins s σ H Q I h
 refine Subscript_ (cH (he pins s σ H _ I h) fun v s1 ⟨x,H1,I1,r1,q1⟩=>?_)
 refine wpAny_Slice (cH (hl pins s1 σ H1 _ I1 q1) fun vl s2 ⟨l,H2,I2,pl,q2⟩=>cH (hu pins s2 σ H2 _ I2 q2) fun vu s3 ⟨u,H3,I3,pu,q3⟩=>?_)
 rw [evalPart_none]
 refine wpAny_pure ?_
 have I4:Inv X pins σ H3 { s3 with heap:=s3.heap.push { cls:=.type "slice",data:=.fields #[vl,vu,.none] } }:=I3.kept (t':=s3.toks) fun b ob q=>Heap.get?_push_of_some _ q
 obtain ⟨T,id,hT,ht,hg⟩:=hr pins { s3 with heap:=s3.heap.push { cls:=.type "slice",data:=.fields #[vl,vu,.none] } } σ H3 x v vl vu l u s3.heap.objs.size Q I4 r1 (Heap.IsSliceOf.new ..) pl pu q3
 show wpAny (model X.prog X.w) X.A (subscriptTail e (.Slice lo hi none p2) v (.ref s3.heap.objs.size)) (EP X pins σ Q) X.xe { s3 with heap:=s3.heap.push { cls:=.type "slice",data:=.fields #[vl,vu,.none] } }
 exact tail_any (ops:=[.ref s3.heap.objs.size,v]) ht hT hg (by with_unfolding_all rfl)
def lh (xs:List V) (lo hi:Option Int):List V:=(xs.drop (HT.cL xs.length 0 lo)).take (HT.cL xs.length xs.length hi - HT.cL xs.length 0 lo)
theorem HP (xs:List V) (lo hi:Option Int):(lh xs lo hi).length<=xs.length:=by
 unfold lh
 rw [List.length_take,List.length_drop]
 omega
def EL (K:PySem.W.Frag):V->Option Int->Option Int->Hp->VK->Prop:=fun x lo hi H Q=>∃ a xs,x=.ref a/\eN K H a xs /\
 ¬ (HT.cL xs.length 0 lo=0/\HT.cL xs.length xs.length hi=xs.length)/\∀ p,H p=none->Q (.ref p) (upd H p (.tup (lh xs lo hi)))
theorem uy:Cp X (EL X.K):=by
 intro pins s σ H x v vl vu lo hi sl Q I rx hs pl pu h
 obtain ⟨a,xs,rfl,hx,hw,q⟩:=h
 cases rx
 obtain ⟨its,r,ht,hz⟩:=I.tuple hx
 have hlen:its.toArray.size=xs.length:=by rw [List.size_toArray];exact r.length.symm
 refine ⟨"tuple",_,PyProof.Rows.slot_tuple_getitem.lookup,ht.typeIs,?_⟩
 refine HT.LF ht hs pl pu (by rw [hlen];exact hw) ?_ (by rw [hlen];exact hz)
 rw [hlen]
 refine ⟨.ref s.heap.objs.size,_,I.laid (t':=s.toks) (o:=.tup (lh xs lo hi)) (fun b ob q=>Heap.get?_push_of_some _ q) (Nat.le_refl _) ?_,rfl,q _ (I.hok.fresh (Nat.le_refl _))⟩
 exact ⟨Nat.le_trans (HP xs lo hi) hz,_,(r.drop (HT.cL xs.length 0 lo)).take (HT.cL xs.length xs.length hi - HT.cL xs.length 0 lo),kZ.new _ _⟩
def yZ (K:PySem.W.Frag):R2:=fun x y H Q=>∃ a b xs ys,x=.ref a/\y=.ref b/\eN K H a xs/\eN K H b ys/\xs≠[]/\xs.length + ys.length<=sizeLine /\
 (ys=[]->Q (.ref a) H)/\(ys≠[]->∀ p,H p=none->Q (.ref p) (upd H p (.tup (xs ++ ys))))
theorem Vals.jM {xs:List V} {us:List Value} (r:Vals xs us):us=[]↔xs=[]:=by
 cases r with
 | nil=>simp
 | cons _ _=>simp
theorem LG:jG X (binaryOp .Add) (yZ X.K):=by
 intro pins s σ H x y v u Q I rx ry h
 obtain ⟨a,b,xs,ys,rfl,rfl,ha,hb,hx,hz,q1,q2⟩:=h
 cases rx
 cases ry
 obtain ⟨its,r1,p1,_⟩:=I.tuple ha
 obtain ⟨its2,r2,p2,_⟩:=I.tuple hb
 refine HT.LA p1 p2 (fun z=>hx (r1.jM.mp z)) (fun z=>⟨.ref a,H,I,rfl,q1 (r2.jM.mp z)⟩) (fun z=>?_) (by rw [<- r1.length,<- r2.length];exact hz)
 refine ⟨.ref s.heap.objs.size,_,I.laid (t':=s.toks) (o:=.tup (xs ++ ys)) (fun b ob q=>Heap.get?_push_of_some _ q) (Nat.le_refl _) ?_,rfl,q2 (fun w=>z (r2.jM.mpr w)) _ (I.hok.fresh (Nat.le_refl _))⟩
 exact ⟨by rw [List.length_append];exact hz,_,r1.append r2,kZ.new _ _⟩
end
end L2
namespace L2
open PySem PySem.Spec PyProof.Rows
def kI (n:Nat) (i:Int):Option Nat:=if 0<=i then (if i < n then some i.toNat else none) else if -(n:Int)<=i then some (i + n).toNat else none
def iu {α:Type} (xs:List α) (i:Int):Option α:=(kI xs.length i).bind fun j=>xs[j]?
theorem EM {n:Nat} {i:Int} {j:Nat} (h:kI n i=some j):seqIndex? i n=some j/\j < n/\-(n:Int)<=i/\i < n:=by
 unfold kI at h
 by_cases h0:0<=i
 ·rw [if_pos h0] at h
  by_cases h1:i < n
  ·rw [if_pos h1] at h
   have e:i.toNat=j:=Option.some.inj h
   exact ⟨by rw [seqIndex_of h0 h1,e],by omega,by omega,h1⟩
  ·rw [if_neg h1] at h;cases h
 ·rw [if_neg h0] at h
  by_cases h1:-(n:Int)<=i
  ·rw [if_pos h1] at h
   have e:(i + n).toNat=j:=Option.some.inj h
   exact ⟨by rw [seqIndex_neg (by omega) h1,e],by omega,h1,by omega⟩
  ·rw [if_neg h1] at h;cases h
theorem HQ {α:Type} {xs:List α} {i:Int} {v:α} (h:iu xs i=some v):∃ j,seqIndex? i xs.length=some j/\xs[j]?=some v/\j < xs.length/\-(xs.length:Int)<=i/\i < xs.length:=by
 unfold iu at h
 cases e:kI xs.length i with
 | none=>rw [e] at h;cases h
 | some j =>
  rw [e] at h
  obtain ⟨h1,h2,h3,h4⟩:=EM e
  exact ⟨j,h1,h,h2,h3,h4⟩
theorem y2 {α:Type} {xs:List α} {j:Nat} {v:α} (h:xs[j]?=some v):iu xs (j:Int)=some v:=by
 have hj:j < xs.length:=(List.getElem?_eq_some_iff.mp h).1
 have e:kI xs.length (j:Int)=some j:=by
  unfold kI
  rw [if_pos (by omega),if_pos (by omega)];simp
 unfold iu;rw [e];exact h
def qI (b:Expr):Prop:=∀ o i,subscripted b false o i=operate [o,i] (getItem o i)
def y3 (X:Cx) (r:R2):Prop :=
 ∀ (value slice:Expr) (pins:List (Addr×Obj)) (s:Shared) (σ:St) (H:Hp) (x y:V) (v u:Value) (Q:VK),Inv X pins σ H s->RelV x v->RelV y u->r x y H Q ->
  subscripted slice false v u=operate [v,u] (getItem v u)->wpAny (model X.prog X.w) X.A (subscriptTail value slice v u) (EP X pins σ Q) X.xe s
def LH (X:Cx) (id:String) (r:V->List V->Hp->VK->Prop):Prop :=
 ∀ (pins:List (Addr×Obj)) (s:Shared) (σ:St) (H:Hp) (x:V) (xs:List V) (v:Value) (us:List Value) (Q:VK),Inv X pins σ H s->RelV x v->Vals xs us->r x xs H Q ->
  wpAny (model X.prog X.w) X.A (call (.builtin id) (v :: us)) (EP X pins σ Q) X.xe s
section
variable {X:Cx} {a b:Expr} {ta tb:TE} {pos:Pos}
theorem b8 {r:R2} (hr:y3 X r) (ha:PE X a ta) (hb:PE X b tb) (hs:qI b):PE X (.Subscript a b pos) (yK r ta tb):=by
 intro pins s σ H Q I h
 exact Subscript_ (ur ha hb I h fun v u s2 x y H2 I2 rx ry q=>hr a b pins s2 σ H2 x y v u Q I2 rx ry q (hs _ _))
def uz (K:PySem.W.Frag):R2:=fun x y H Q=>∃ p xs i v,x=.ref p/\y=.int i/\iR K H p xs/\iu xs i=some v/\Q v H
def uA (K:PySem.W.Frag):R2:=fun x y H Q=>∃ p xs i v,x=.ref p/\y=.int i/\eN K H p xs/\iu xs i=some v/\Q v H
theorem nS:y3 X (uz X.K):=by
 intro value slice pins s σ H x y v u Q I rx ry h hs
 obtain ⟨p,xs,i,z,rfl,rfl,hq,he,q⟩:=h
 cases rx
 obtain ⟨t,rfl⟩:=ry
 obtain ⟨its,r,pl,hz⟩:=I.list hq
 obtain ⟨j,h1,h2,h3,h4,h5⟩:=HQ he
 obtain ⟨w,ew,rw'⟩:=r.get h2
 have hl:=r.length
 have hn:=j8
 have fin:EP X pins σ Q w s:=⟨z,H,I,rw',q⟩
 by_cases h0:0<=i
 ·have hj:i.toNat=j:=by
   rw [seqIndex_of h0 h5] at h1
   exact Option.some.inj h1
  exact item_listR pl.isList h0 (by omega) (by rw [hj];simpa using ew) fin hs
 ·have hj:(i + (its.toArray.size:Int)).toNat=j:=by
   rw [seqIndex_neg (by omega) h4] at h1
   rw [List.size_toArray,<- hl]
   exact Option.some.inj h1
  exact subscriptTail_builtinR (x:=w) pl.isList.typeIs slot_list_getitem.lookup
   (wpAny_getItem_list_neg (Q:=fun r s'=>r=w/\EP X pins σ Q r s') pl.isList (by omega) (by rw [List.size_toArray] <;> omega) (by omega) (by rw [hj];simpa using ew) ⟨rfl,fin⟩) hs
theorem cM:y3 X (uA X.K):=by
 intro value slice pins s σ H x y v u Q I rx ry h hs
 obtain ⟨p,xs,i,z,rfl,rfl,hq,he,q⟩:=h
 cases rx
 obtain ⟨t,rfl⟩:=ry
 obtain ⟨its,r,pl,hz⟩:=I.tuple hq
 obtain ⟨j,h1,h2,h3,h4,h5⟩:=HQ he
 obtain ⟨w,ew,rw'⟩:=r.get h2
 have hl:=r.length
 have hn:=j8
 have fin:EP X pins σ Q w s:=⟨z,H,I,rw',q⟩
 exact subscriptTail_builtinR (x:=w) pl.typeIs slot_tuple_getitem.lookup
  (getItem_tuple (j:=j) (Q:=fun r s'=>r=w/\EP X pins σ Q r s') pl (by omega) (by omega) (by rw [List.size_toArray,<- hl];exact h1) (by simpa using ew) ⟨rfl,fin⟩) hs
theorem LI (its:List Value) (n j:Nat) (u:Value):Obj.mapSeq (·.setIfInBounds j u) { cls:=.type "list",data:=.seq its.toArray n }={ cls:=.type "list",data:=.seq (its.set j u).toArray n }:=by
 simp [Obj.mapSeq]
theorem Inv.lst {pins:List (Addr×Obj)} {σ:St} {H:Hp} {s:Shared} {p:Addr} {xs:List V} (I:Inv X pins σ H s) (h:H p=some (.lst xs)) :
  ∃ (its:List Value) (n:Nat),Vals xs its/\s.heap.get? p=some { cls:=.type "list",data:=.seq its.toArray n }/\xs.length<=sizeLine:=by
 obtain ⟨z,its,n,r,e⟩:=I.hok p _ h
 exact ⟨its,n,r,e,z⟩
theorem Inv.uB {pins:List (Addr×Obj)} {σ:St} {H:Hp} {s:Shared} {p:Addr} {xs ys:List V} {its its':List Value} {n n':Nat} {f:Obj->Obj} (I:Inv X pins σ H s) (h:H p=some (.lst xs))
  (ho:s.heap.get? p=some { cls:=.type "list",data:=.seq its.toArray n }) (hf:f { cls:=.type "list",data:=.seq its.toArray n }={ cls:=.type "list",data:=.seq its'.toArray n' }) (r:Vals ys its') (hz:ys.length<=sizeLine) (t:Nat) :
  Inv X pins σ (upd H p (.lst ys)) { s with heap:=s.heap.update p f,toks:=t }:=by
 have e:(s.heap.update p f).get? p=some { cls:=.type "list",data:=.seq its'.toArray n' }:=by
  rw [Heap.get?_update_self f ho (by rw [hf] <;> rfl),hf]
 refine I.write (x:=p) (e:=p) (by rw [h];trivial) (.inl rfl) (fun b u hb q=>(Heap.get?_update_other _ _ (Ne.symm hb)).trans q) ⟨_,e⟩ ?_
 exact ⟨hz,its',n',r,e⟩
def rZ:V->V->V->Hp->(Hp->Prop)->Prop:=fun o i v H Q=>∃ p xs k j,o=.ref p/\i=.int k/\H p=some (.lst xs)/\kI xs.length k=some j/\Q (upd H p (.lst (xs.set j v)))
theorem xB:yC X rZ:=by
 intro pins s σ H o i v ov iv u Q I ro ri rv h
 obtain ⟨p,xs,k,j,rfl,rfl,hp,hj,q⟩:=h
 cases ro
 obtain ⟨t,rfl⟩:=ri
 obtain ⟨its,n,r,ho,hz⟩:=I.lst hp
 obtain ⟨h1,h2,h3,h4⟩:=EM hj
 have hl:=r.length
 have hn:=j8
 have I':Inv X pins σ (upd H p (.lst (xs.set j v))) { s with heap:=s.heap.update p (Obj.mapSeq (·.setIfInBounds j u)) } :=
  I.uB hp ho (LI its n j u) (r.set rv j) (by rw [List.length_set];exact hz) s.toks
 by_cases h0:0<=k
 ·have hk:k.toNat=j:=by
   rw [seqIndex_of h0 h4] at h1
   exact Option.some.inj h1
  exact PySem.W.ki_setAt ho h0 (by omega) (by rw [List.size_toArray,<- hl];exact h4) (by rw [hk];exact ⟨_,I',q⟩)
 ·have hk:(k + (its.toArray.size:Int)).toNat=j:=by
   rw [seqIndex_neg (by omega) h3] at h1
   rw [List.size_toArray,<- hl]
   exact Option.some.inj h1
  exact PySem.W.ki_setBack ho (by omega) (by rw [List.size_toArray,<- hl];exact h3) (by omega) (by rw [hk];exact ⟨_,I',q⟩)
theorem LJ (lo hi:Option Int) (n:Nat):(sliceBounds lo hi none n).1=((HT.cL n 0 lo:Nat):Int)/\(sliceBounds lo hi none n).2.1=((HT.cL n n hi:Nat):Int)/\(sliceBounds lo hi none n).2.2=1:=by
 refine ⟨?_,?_,rfl⟩
 ·cases lo with
  | none=>simp [sliceBounds,HT.cL]
  | some i =>
   simp only [sliceBounds,HT.cL,Option.getD_none,show (1:Int) > 0 by decide,if_true]
   by_cases h:i < 0
   ·simp only [h,if_true] <;> omega
   ·simp only [h,if_false] <;> omega
 ·cases hi with
  | none=>simp [sliceBounds,HT.cL]
  | some i =>
   simp only [sliceBounds,HT.cL,Option.getD_none,show (1:Int) > 0 by decide,if_true]
   by_cases h:i < 0
   ·simp only [h,if_true] <;> omega
   ·simp only [h,if_false] <;> omega
theorem LK (its:List Value) (lo hi:Option Int):slicePick its.toArray lo hi none=((its.drop (HT.cL its.length 0 lo)).take (HT.cL its.length its.length hi - HT.cL its.length 0 lo)).toArray:=by
 obtain ⟨h1,h2,h3⟩:=LJ lo hi its.toArray.size
 unfold slicePick
 rw [h1,h2,h3]
 simp only [sliceRange_one,pick_run,List.size_toArray] <;> rfl
def y4 (K:PySem.W.Frag):V->Option Int->Option Int->Hp->VK->Prop:=fun x lo hi H Q=>∃ a xs,x=.ref a/\iR K H a xs/\∀ p,H p=none->Q (.ref p) (upd H p (.lst (lh xs lo hi)))
theorem HR:Cp X (y4 X.K):=by
 intro pins s σ H x v vl vu lo hi sl Q I rx hs pl pu h
 obtain ⟨a,xs,rfl,hx,q⟩:=h
 cases rx
 obtain ⟨its,r,ht,hz⟩:=I.list hx
 have hlen:=r.length
 refine ⟨"list",_,slot_list_getitem.lookup,ht.isList.typeIs,?_⟩
 refine wpAny_getItem_list_slice ht.isList hs pl pu .none (by simp) ?_ (by rw [List.size_toArray] <;> omega)
 rw [LK,<- hlen]
 refine ⟨.ref s.heap.objs.size,_,I.laid (t':=s.toks) (o:=.lst (lh xs lo hi)) (fun b ob q=>Heap.get?_push_of_some _ q) (Nat.le_refl _) ?_,rfl,q _ (I.hok.fresh (Nat.le_refl _))⟩
 exact ⟨Nat.le_trans (HP xs lo hi) hz,_,0,(r.drop (HT.cL xs.length 0 lo)).take (HT.cL xs.length xs.length hi - HT.cL xs.length 0 lo),Heap.get?_push_size _ rfl⟩
def jh:V->Bool
 | .non=>true
 | .bl _=>true
 | .int _=>true
 | .str _=>true
 | _=>false
def r6:V->V->Bool
 | .non,.non=>true
 | .bl a,.bl b=>a == b
 | .bl a,.int b=>(if a then 1 else 0) == b
 | .int a,.bl b=>a == (if b then 1 else 0)
 | .int a,.int b=>a == b
 | .str a,.str b=>a == b
 | _,_=>false
theorem uC {A:Around} {s:Shared} {y x:V} {u v:Value} (ry:RelV y u) (rx:RelV x v) (fy:jh y=true) (fx:jh x=true):SeqAt.EqAt A s u v (r6 y x):=by
 cases y with
 | non =>
  cases ry
  cases x with
  | non=>cases rx;exact SeqAt.EqAt.same _
  | bl b=>cases rx;exact SeqAt.EqAt.none_bool b
  | int b=>obtain ⟨t,rfl⟩:=rx;exact SeqAt.EqAt.none_int b t
  | str b=>obtain ⟨t,rfl⟩:=rx;exact SeqAt.EqAt.none_str b t
  | _=>exact absurd (show false=true from fx) Bool.false_ne_true
 | bl a =>
  cases ry
  cases x with
  | non=>cases rx;exact SeqAt.EqAt.bool_none a
  | bl b=>cases rx;exact SeqAt.EqAt.bool_bool a b
  | int b=>obtain ⟨t,rfl⟩:=rx;exact SeqAt.EqAt.bool_int a b t
  | str b=>obtain ⟨t,rfl⟩:=rx;exact SeqAt.EqAt.bool_str a b t
  | _=>exact absurd (show false=true from fx) Bool.false_ne_true
 | int a =>
  obtain ⟨t',rfl⟩:=ry
  cases x with
  | non=>cases rx;exact SeqAt.EqAt.int_none a t'
  | bl b=>cases rx;exact SeqAt.EqAt.int_bool a t' b
  | int b=>obtain ⟨t,rfl⟩:=rx;exact SeqAt.EqAt.int_int a t' b t
  | str b=>obtain ⟨t,rfl⟩:=rx;exact SeqAt.EqAt.int_str a t' b t
  | _=>exact absurd (show false=true from fx) Bool.false_ne_true
 | str a =>
  obtain ⟨t',rfl⟩:=ry
  cases x with
  | non=>cases rx;exact SeqAt.EqAt.str_none a t'
  | bl b=>cases rx;exact SeqAt.EqAt.str_bool a t' b
  | int b=>obtain ⟨t,rfl⟩:=rx;exact SeqAt.EqAt.str_int a t' b t
  | str b=>obtain ⟨t,rfl⟩:=rx;exact SeqAt.EqAt.str_str a t' b t
  | _=>exact absurd (show false=true from fx) Bool.false_ne_true
 | _=>exact absurd (show false=true from fy) Bool.false_ne_true
def qJ (x:V) (u:Value):Bool:=match u with
 | .none=>r6 .non x
 | .bool b=>r6 (.bl b) x
 | .int i _=>r6 (.int i) x
 | .str z _=>r6 (.str z) x
 | _=>false
theorem HS {x y:V} {u:Value} (r:RelV y u) (f:jh y=true):qJ x u=r6 y x:=by
 cases y with
 | non=>cases r;rfl
 | bl b=>cases r;rfl
 | int i=>obtain ⟨t,rfl⟩:=r;rfl
 | str z=>obtain ⟨t,rfl⟩:=r;rfl
 | _=>exact absurd (show false=true from f) Bool.false_ne_true
theorem EN {x:V}:∀ {xs:List V} {us:List Value},Vals xs us->xs.all jh=true->us.any (qJ x)=xs.any fun y=>r6 y x
 | _,_,.nil,_=>rfl
 | y :: xs,u :: us,.cons r t,f=>by
  rw [List.all_cons,Bool.and_eq_true] at f
  rw [List.any_cons,List.any_cons,HS r f.1,EN t f.2]
theorem EO {A:Around} {s:Shared} {x:V} {v:Value} (rx:RelV x v) (fx:jh x=true):∀ {xs:List V} {us:List Value},Vals xs us->xs.all jh=true->∀ u∈us,SeqAt.EqAt A s u v (qJ x u)
 | _,_,.nil,_=>fun u hu=>by cases hu
 | y :: xs,u :: us,.cons r t,f=>fun u' hu=>by
  rw [List.all_cons,Bool.and_eq_true] at f
  rcases List.mem_cons.mp hu with rfl | hu
  ·rw [HS r f.1];exact uC r rx f.1 fx
  ·exact EO rx fx t f.2 u' hu
def r9 (x:V) (xs:List V):Bool:=xs.any fun y=>r6 y x
def ER (K:PySem.W.Frag) (neg:Bool):R2:=fun x y H Q=>∃ p xs,y=.ref p/\(iR K H p xs\/eN K H p xs)/\jh x=true/\xs.all jh=true/\Q (.bl (if neg then !r9 x xs else r9 x xs)) H
theorem ES:jG X (compareOp .NotIn) (ER X.K true):=by
 intro pins s σ H x y v u Q I rx ry h
 obtain ⟨p,xs,rfl,hq,fx,fs,q⟩:=h
 cases ry
 rcases hq with hq | hq
 ·obtain ⟨its,r,pl,hz⟩:=I.list hq
  refine SeqAt.notIn_listAt (qJ x) pl.isList (fun w hw=>EO rx fx r fs w (by simpa using hw)) ⟨.bl _,H,I,rfl,?_⟩
  rw [show its.toArray.any (qJ x)=its.any (qJ x) by simp,EN r fs]
  exact q
 ·obtain ⟨its,r,pl,hz⟩:=I.tuple hq
  refine SeqAt.notIn_tupleAt (qJ x) pl (fun w hw=>EO rx fx r fs w (by simpa using hw)) ⟨.bl _,H,I,rfl,?_⟩
  rw [show its.toArray.any (qJ x)=its.any (qJ x) by simp,EN r fs]
  exact q
theorem mO:hJ X (.builtin "len") (fun xs H Q=>∃ p ys,xs=[.ref p]/\(iR X.K H p ys\/eN X.K H p ys)/\Q (.int ys.length) H):=by
 intro pins s σ H xs us Q I r h
 obtain ⟨p,ys,rfl,hq,q⟩:=h
 obtain ⟨u,rfl,rx⟩:=vals1 r
 cases rx
 have hn:=j8
 rcases hq with hq | hq
 ·obtain ⟨its,r',pl,hz⟩:=I.list hq
  have hlen:=r'.length
  exact Calls.call_len_list pl.isList (by simp only [List.size_toArray] <;> omega) ⟨.int ys.length,H,I.tok _,⟨s.toks + 1,by rw [List.size_toArray,hlen]⟩,q⟩
 ·obtain ⟨its,r',pl,hz⟩:=I.tuple hq
  have hlen:=r'.length
  exact len_tuple pl (by simp only [List.size_toArray] <;> omega) ⟨.int ys.length,H,I.tok _,⟨s.toks + 1,by rw [List.size_toArray,hlen]⟩,q⟩
theorem Cq:hJ X (.type "list") (fun xs H Q=>∃ p ys,xs=[.ref p]/\(iR X.K H p ys\/eN X.K H p ys)/\∀ l,H l=none->Q (.ref l) (upd H l (.lst ys))):=by
 intro pins s σ H xs us Q I r h
 obtain ⟨p,ys,rfl,hq,q⟩:=h
 obtain ⟨u,rfl,rx⟩:=vals1 r
 cases rx
 have fin:∀ (its:List Value),Vals ys its->ys.length<=sizeLine->∀ (h':Heap) (c':Nat),(∀ b o',s.heap.get? b=some o'->h'.get? b=some o') ->
   h'.get? s.heap.objs.size=some { cls:=.type "list",dict:=none,data:=.seq its.toArray c',slots:=#[] }->EP X pins σ Q (.ref s.heap.objs.size) { s with heap:=h' }:=fun its r' hz h' c' kp e =>
  ⟨.ref s.heap.objs.size,_,I.laid (t':=s.toks) kp (Nat.le_refl _) (show cK X.prog X.w _ h' _ (.lst ys) from ⟨hz,its,c',r',e⟩),rfl,q _ (I.hok.fresh (Nat.le_refl _))⟩
 rcases hq with hq | hq
 ·obtain ⟨its,r',pl,hz⟩:=I.list hq
  have hlen:=r'.length
  obtain ⟨o,ho,hc,n,hd⟩:=pl.isList
  exact call_list_seq p (.inl rfl) ho hc hd (fun h' c' kp e=>fin its r' hz h' c' kp e) (by simp only [List.size_toArray] <;> omega)
 ·obtain ⟨its,r',pl,hz⟩:=I.tuple hq
  have hlen:=r'.length
  obtain ⟨o,ho,hc,n,hd⟩:=pl
  exact call_list_seq p (.inr rfl) ho hc hd (fun h' c' kp e=>fin its r' hz h' c' kp e) (by simp only [List.size_toArray] <;> omega)
theorem oF:hJ X (.type "tuple") (fun xs H Q=>∃ p ys,xs=[.ref p]/\((iR X.K H p ys/\∀ l,H l=none->Q (.ref l) (upd H l (.tup ys)))\/(eN X.K H p ys/\Q (.ref p) H))):=by
 intro pins s σ H xs us Q I r h
 obtain ⟨p,ys,rfl,h⟩:=h
 obtain ⟨u,rfl,rx⟩:=vals1 r
 cases rx
 rcases h with ⟨hq,q⟩ | ⟨hq,q⟩
 ·obtain ⟨its,r',pl,hz⟩:=I.list hq
  have hlen:=r'.length
  refine call_tuple_list pl.isList (fun h' kp=>?_) (by simp only [List.size_toArray] <;> omega)
  have I1:Inv X pins σ H { s with heap:=h' }:=I.kept (t':=s.toks) kp
  have I2:Inv X pins σ (upd H h'.objs.size (.tup ys)) { s with heap:=h'.push { cls:=.type "tuple",data:=.seq its.toArray } } :=
   I1.laid (t':=s.toks) (fun b o e=>Heap.get?_push_of_some _ e) (Nat.le_refl _) (show cK X.prog X.w _ _ _ (.tup ys) from ⟨hz,its,r',kZ.new _ _⟩)
  exact ⟨.ref h'.objs.size,_,I2,rfl,q _ (I1.hok.fresh (Nat.le_refl _))⟩
 ·obtain ⟨its,r',pl,hz⟩:=I.tuple hq
  exact call_tuple_same pl ⟨.ref p,H,I,rfl,q⟩
def ET (K:PySem.W.Frag) (T:String) (x:V) (H:Hp):Prop:=match x with
 | .str _=>T="str"
 | .int _=>T="int"
 | .ref p=>(T="list" /\ ∃ xs,iR K H p xs)\/(T="tuple" /\ ∃ xs,eN K H p xs) \/
   (T="dict" /\ ((∃ kvs,H p=some (.dK kvs))\/∃ kvs,H p=some (.dT kvs)))\/(T="set" /\ ∃ S n,H p=some (.set S n))
 | _=>False
theorem uD {pins:List (Addr×Obj)} {σ:St} {H:Hp} {s:Shared} {T:String} {x:V} {v:Value} (I:Inv X pins σ H s) (r:RelV x v) (ty:ET X.K T x H) :
  s.TypeIs v T/\∀ a,v=.ref a->∃ ob,s.heap.get? a=some ob/\ob.dict=none:=by
 cases x with
 | str z =>
  obtain ⟨t,rfl⟩:=r
  cases (show T="str" from ty)
  exact ⟨typeIs_str s z t,fun _ e=>nomatch e⟩
 | int i =>
  obtain ⟨t,rfl⟩:=r
  cases (show T="int" from ty)
  exact ⟨typeIs_int s i t,fun _ e=>nomatch e⟩
 | ref p =>
  cases r
  rcases ty with ⟨rfl,xs,hq⟩ | ⟨rfl,xs,hq⟩ | ⟨rfl,hk⟩ | ⟨rfl,S,n,hk⟩
  ·obtain ⟨its,_,pl,_⟩:=I.list hq
   refine ⟨pl.isList.typeIs,fun a e=>?_⟩
   cases e
   obtain ⟨o,n,e,c,hd,_⟩:=pl
   exact ⟨o,e,hd⟩
  ·obtain ⟨its,_,⟨o,e,c,d,_⟩,_⟩:=I.oY hq
   refine ⟨⟨o,e,c⟩,fun a e2=>?_⟩
   cases e2
   exact ⟨o,e,d⟩
  ·have z:∃ o,s.heap.get? p=some o/\o.ExactDict:=by
    rcases hk with ⟨kvs,hk⟩ | ⟨kvs,hk⟩
    ·obtain ⟨_,_,_,_,o,_,_,e,ex,_⟩:=I.hok p _ hk
     exact ⟨o,e,ex⟩
    ·obtain ⟨_,_,_,_,o,_,_,e,ex,_⟩:=I.hok p _ hk
     exact ⟨o,e,ex⟩
   obtain ⟨o,e,ex⟩:=z
   refine ⟨⟨o,e,ex.1⟩,fun a e2=>?_⟩
   cases e2
   exact ⟨o,e,ex.2.1⟩
  ·obtain ⟨o,_,_,_,e,ex,_⟩:=I.hok p _ hk
   refine ⟨⟨o,e,ex.1⟩,fun a e2=>?_⟩
   cases e2
   exact ⟨o,e,ex.2.1⟩
 | _=>exact False.elim ty
def HU (K:PySem.W.Frag) (T:String) (r:V->List V->Hp->VK->Prop) (to:TE) (t:TA):TE:=fun σ H Q=>to σ H fun x H1=>ET K T x H1/\t σ H1 fun xs H2=>r x xs H2 Q
variable {o e:Expr} {es:List Expr} {to:TE} {t:TA} {name:Str} {apos cpos:Pos} {T id:String} {r:V->List V->Hp->VK->Prop}
theorem sa (pa:PlainAttrs T) (slot:Slot T name id) (hty:typeOf (.builtin id)=pure (.type "method_descriptor")) (hm:LH X id r) (ho:PE X o to) (ha:PA X (e :: es) t)
  (hbase:attributeBase o name X.env (eval o X.env)=eval o X.env:=by rfl)
  (hfew:((backTo cpos (starEach (e :: es) X.env)).all (fun x=>!x.1) && (backToKw cpos (keywordEach [] X.env)).all (fun x=>x.1.isSome)
   && decide ((e :: es).length + ([]:List Keyword).length + (if ([]:List Keyword).isEmpty then 0 else 1) < 30))=true:=by rfl)
  (hline:(apos.endLine == cpos.line)=true:=by rfl) (hs:starEach (e :: es) X.env=(false,eval e X.env) :: starEach es X.env:=by rfl) (hplain:(backTo cpos (starEach es X.env)).any (·.1)=false:=by rfl) :
  PE X (.Call (.Attribute o name apos) (e :: es) [] cpos) (HU X.K T r to t):=by
 intro pins s σ H Q I h
 refine wpAny_Call_method_late hbase hfew hline rfl (cH (ho pins s σ H _ I h) fun v s1 ⟨x,H1,I1,r1,ty,q1⟩=>?_)
 obtain ⟨h1,h2⟩:=uD I1 r1 ty
 refine ⟨T,id,pa,slot,hty,h1,h2,?_⟩
 have hA:=ha cpos pins s1 σ H1 _ I1 q1
 rw [hs] at hA ⊢
 refine Calls.callWith_builtin (by show (false || (backTo cpos (starEach es X.env)).any (·.1))=false;rw [hplain] <;> rfl) (Calls.evalArgs_plain ?_)
 exact cH hA fun us s2 ⟨vs,H2,I2,r2,q2⟩=>hm pins s2 σ H2 x vs v us Q I2 r1 r2 q2
end
end L2
namespace L2
open PySem PySem.Spec PyProof.Rows
def HV (X:Cx) (id:String) (r:V->List V->Hp->VK->Prop):Prop :=
 ∀ (pins:List (Addr×Obj)) (s:Shared) (σ:St) (H:Hp) (x:V) (xs:List V) (v:Value) (us:List Value) (Q:VK),Inv X pins σ H s->RelV x v->Vals xs us->r x xs H Q ->
  wpAny (model X.prog X.w) X.A (call (.builtin id) (v :: us)) (EP X pins σ Q) X.xe s
theorem Vals.one:∀ {x:V} {us:List Value},Vals [x] us->∃ u,us=[u]/\RelV x u
 | _,_,.cons r .nil=>⟨_,rfl,r⟩
theorem Vals.eraseIdx:∀ {xs:List V} {us:List Value} (i:Nat),Vals xs us->Vals (xs.eraseIdx i) (us.eraseIdx i)
 | _,_,_,.nil=>.nil
 | _,_,0,.cons _ t=>t
 | _,_,i + 1,.cons r t=>.cons r (Vals.eraseIdx i t)
theorem Vals.reverse {xs:List V} {us:List Value} (h:Vals xs us):Vals xs.reverse us.reverse:=by
 induction h with
 | nil=>exact .nil
 | cons r t ih=>rw [List.reverse_cons,List.reverse_cons];exact Vals.append ih (.cons r .nil)
theorem Vals.rep {xs:List V} {us:List Value} (h:Vals xs us):∀ k:Nat,Vals (List.replicate k xs).flatten (List.replicate k us).flatten
 | 0=>.nil
 | k + 1=>by
  rw [List.replicate_succ,List.replicate_succ,List.flatten_cons,List.flatten_cons]
  exact Vals.append h (Vals.rep h k)
theorem HW {α:Type}:∀ (l:List α) (i:Nat),(l.eraseIdx i).length<=l.length
 | [],_=>Nat.le_refl _
 | _ :: _,0=>Nat.le_succ _
 | _ :: r,i + 1=>Nat.succ_le_succ (HW r i)
theorem HX (its:List Value):∀ (k:Nat) (acc:List Value),
  List.foldl (fun x1 x2=>x1 ++ x2) acc.toArray (List.replicate k its.toArray)=(acc ++ (List.replicate k its).flatten).toArray
 | 0,acc=>by simp
 | k + 1,acc=>by
  have e:acc.toArray ++ its.toArray=(acc ++ its).toArray:=by simp
  have e2:(acc ++ its) ++ (List.replicate k its).flatten=acc ++ (List.replicate (k + 1) its).flatten:=by
   rw [List.replicate_succ,List.flatten_cons,List.append_assoc]
  rw [<- e2,<- HX its k (acc ++ its),<- e,List.replicate_succ,List.foldl_cons]
section
variable {X:Cx} {pins:List (Addr×Obj)} {σ:St} {H:Hp} {s:Shared} {l b:Addr} {xs ys zs:List V}
theorem Inv.y6 {its its':List Value} {n:Nat} {f:Array Value->Array Value} {t':Nat} (I:Inv X pins σ H s) (hH:H l=some (.lst xs))
  (e:s.heap.get? l=some { cls:=.type "list",data:=.seq its.toArray n }) (hf:f its.toArray=its'.toArray) (hv:Vals ys its') (hz:ys.length<=sizeLine) :
  Inv X pins σ (upd H l (.lst ys)) { s with heap:=s.heap.update l (Obj.mapSeq f),toks:=t' }:=by
 have q:=PySem.IsL.update e f
 rw [hf] at q
 refine I.write (x:=l) (e:=l) (by rw [hH];exact trivial) (.inl rfl) (fun b' u hb hu=>(Heap.get?_update_other s.heap (Obj.mapSeq f) (Ne.symm hb)).trans hu) ⟨_,q⟩ ?_
 exact ⟨hz,its',_,hv,q⟩
theorem Inv.y8 {its:List Value} {t':Nat} (I:Inv X pins σ H s) (hv:Vals ys its) (hz:ys.length<=sizeLine) :
  Inv X pins σ (upd H s.heap.objs.size (.lst ys)) { s with heap:=s.heap.push { cls:=.type "list",data:=.seq its.toArray },toks:=t' } :=
 I.laid (fun _ _ q=>Heap.get?_push_of_some _ q) (Nat.le_refl _) ⟨hz,its,0,hv,Heap.get?_push_size _ rfl⟩
theorem Inv.fresh (I:Inv X pins σ H s):H s.heap.objs.size=none:=I.hok.fresh (Nat.le_refl _)
theorem Inv.o9 (I:Inv X pins σ H s) (hH:H l=some (.lst xs)):xs.length<=sizeLine/\∃ (its:List Value) (n:Nat),Vals xs its/\xs.length=its.length/\s.heap.get? l=some { cls:=.type "list",data:=.seq its.toArray n }:=by
 obtain ⟨z,its,n,r,e⟩:=I.hok l _ hH
 exact ⟨z,its,n,r,r.length,e⟩
theorem pb {n:Nat} (h:n<=sizeLine):Builtin.List.listTooLong n=false:=by
 unfold Builtin.List.listTooLong
 exact decide_eq_false (by omega)
end
section
variable {X:Cx}
def nT:V->List V->Hp->VK->Prop:=fun x vs H Q=>∃ l xs y,x=.ref l/\vs=[y]/\H l=some (.lst xs)/\xs.length < sizeLine/\Q .non (upd H l (.lst (xs ++ [y])))
theorem uE:HV X "list.append" nT:=by
 intro pins s σ H x vs v us Q I rx rv h
 obtain ⟨l,xs,y,rfl,rfl,hH,hz,q⟩:=h
 cases rx
 obtain ⟨u,rfl,ru⟩:=rv.one
 obtain ⟨z,its,n,r,hl,e⟩:=I.o9 hH
 refine call_meets F.slot_list_append ⟨_,e,rfl⟩ F.entry_list_append (F.args_list_append_2 _ _) (PySem.list_append l its.toArray n u (by rw [List.size_toArray];omega)) ⟨e,?_⟩
 refine ⟨.non,_,I.y6 (its':=its ++ [u]) hH e (by simp) (r.append (.cons ru .nil)) ?_,rfl,q⟩
 rw [List.length_append,List.length_singleton]
 omega
def pd:V->List V->Hp->VK->Prop:=fun x vs H Q=>∃ l xs i k y,x=.ref l/\vs=[.int i]/\H l=some (.lst xs)/\-(2 ^ 63)<=i/\i < 2 ^ 63/\seqIndex? i xs.length=some k/\xs[k]?=some y/\Q y (upd H l (.lst (xs.eraseIdx k)))
theorem LL:HV X "list.pop" pd:=by
 intro pins s σ H x vs v us Q I rx rv h
 obtain ⟨l,xs,i,k,y,rfl,rfl,hH,h1,h2,hk,hy,q⟩:=h
 cases rx
 obtain ⟨u,rfl,ru⟩:=rv.one
 obtain ⟨t,rfl⟩:=ru
 obtain ⟨z,its,n,r,hl,e⟩:=I.o9 hH
 obtain ⟨w,hw,rw'⟩:=r.get hy
 refine call_meets F.slot_list_pop ⟨_,e,rfl⟩ F.entry_list_pop (F.args_list_pop_2 _ _)
  (MeetsSeq.list_pop_at l its.toArray n i t k w (fitsIndex_both h1 h2) (by rw [List.size_toArray,<- hl];exact hk) (by rw [<- Array.getElem?_toList];exact hw) (by rw [List.size_toArray];omega)) ⟨e,?_⟩
 refine ⟨y,_,I.y6 (its':=its.eraseIdx k) hH e ?_ (r.eraseIdx k) ?_,rw',q⟩
 ·show its.toArray.eraseIdxIfInBounds k=(its.eraseIdx k).toArray
  rw [List.eraseIdxIfInBounds_toArray]
 ·have:=HW xs k
  omega
def y9:R2:=fun x y H Q=>∃ l b xs zs,x=.ref l/\y=.ref b/\H l=some (.lst xs)/\H b=some (.lst zs)/\xs.length + zs.length<=sizeLine/\∀ p,H p=none->Q (.ref p) (upd H p (.lst (xs ++ zs)))
theorem uF:jG X (binaryOp .Add) y9:=by
 intro pins s σ H x y v u Q I rx ry h
 obtain ⟨l,b,xs,zs,rfl,rfl,hH,hB,hz,q⟩:=h
 cases rx
 cases ry
 obtain ⟨z,its,n,r,hl,e⟩:=I.o9 hH
 obtain ⟨z2,its2,n2,r2,hl2,e2⟩:=I.o9 hB
 refine PySem.P.add_list e e2 ?_ (by rw [List.size_toArray,List.size_toArray];omega)
 have ea:its.toArray ++ its2.toArray=(its ++ its2).toArray:=by simp
 rw [ea]
 exact ⟨.ref _,_,I.y8 (t':=s.toks) (r.append r2) (by rw [List.length_append];omega),rfl,q _ I.fresh⟩
def za:R2:=fun x y H Q=>∃ l k xs,x=.ref l/\y=.int k/\H l=some (.lst xs)/\-(2 ^ 63)<=k/\k < 2 ^ 63/\xs.length * k.toNat<=sizeLine /\
 ∀ p,H p=none->Q (.ref p) (upd H p (.lst (List.replicate k.toNat xs).flatten))
theorem LM {α:Type} (xs:List α) (k:Nat):(List.replicate k xs).flatten.length=k * xs.length:=by
 induction k with
 | zero=>simp
 | succ k ih=>rw [List.replicate_succ,List.flatten_cons,List.length_append,ih,Nat.succ_mul,Nat.add_comm]
theorem HY:jG X (binaryOp .Mult) za:=by
 intro pins s σ H x y v u Q I rx ry h
 obtain ⟨l,k,xs,rfl,rfl,hH,h1,h2,hz,q⟩:=h
 cases rx
 obtain ⟨t,rfl⟩:=ry
 obtain ⟨z,its,n,r,hl,e⟩:=I.o9 hH
 have hlen:its.toArray.size * k.toNat<=sizeLine:=by rw [List.size_toArray,<- hl];exact hz
 have hcap:¬ its.toArray.size * k.toNat > (2 ^ 63 - 1) / 8:=by
  have:(sizeLine:Nat)<=(2 ^ 63 - 1) / 8:=by decide
  omega
 have hfit:¬ (!Builtin.List.listFitsIndex k)=true:=by
  rw [fitsIndex_both h1 h2]
  exact Bool.false_ne_true
 have zb:¬ Builtin.List.listTooLong (its.toArray.size * k.toNat)=true:=by
  rw [pb hlen]
  exact Bool.false_ne_true
 have hnew:List.foldl (fun x1 x2=>x1 ++ x2) #[] (List.replicate (if its.toArray.isEmpty=true then 0 else k.toNat) its.toArray)=(List.replicate k.toNat its).flatten.toArray:=by
  have f0:∀ m:Nat,List.foldl (fun x1 x2=>x1 ++ x2) #[] (List.replicate m its.toArray)=(List.replicate m its).flatten.toArray:=fun m=>by
   have:=HX its m []
   rw [List.nil_append] at this
   exact this
  rw [f0]
  cases its with
  | nil=>simp
  | cons a r'=>rw [if_neg (by simp)]
 refine wpAny_binaryOp_repeat_ref (T:="list") (U:="int") (by decide) ⟨_,e,rfl⟩ (fun s'=>typeIs_int s' k t) noFill_list_mul F.fills_int_mul F.slot_int_rmul repeat_list F.slot_int_index.lookup
  (call_meets F.slot_int_rmul (typeIs_int s k t) F.entry_int_rmul (F.args_int_rmul_2 _ _) (int___rmul___int_list k t l its.toArray n)
   ⟨e,rfl,⟨_,e,rfl⟩,call_meets F.slot_list_mul ⟨_,e,rfl⟩ F.entry_list_mul (F.args_list_mul_2 _ _) (AutoListH.list___mul___list_int_3 l its.toArray n k t hfit hcap zb) ⟨e,?_⟩⟩)
 rw [hnew]
 exact ⟨.ref _,_,I.y8 (t':=s.toks) (r.rep k.toNat) (by rw [LM,Nat.mul_comm];exact hz),rfl,q _ I.fresh⟩
end
section
variable {prog:Program} {w:World} {A:Around} {E:Value->Shared->Prop} {s:Shared}
end
section
variable {X:Cx}
end
end L2
namespace L2
open PySem PySem.Spec PyProof.Rows
section
variable {κ:Type} [DecidableEq κ]
def jn (kvs:List (κ×V)) (k:κ):Option V:=(kvs.find? fun kv=>decide (kv.1=k)).map (·.2)
def putK (kvs:List (κ×V)) (k:κ) (v:V):List (κ×V) :=
 if (kvs.any fun kv=>decide (kv.1=k))=true then kvs.map (fun kv=>if kv.1=k then (kv.1,v) else kv) else kvs ++ [(k,v)]
theorem EU {p:κ×V} {r:List (κ×V)} {k:κ} (e:p.1=k):jn (p :: r) k=some p.2:=by simp [jn,List.find?_cons,e]
theorem EV {p:κ×V} {r:List (κ×V)} {k:κ} (e:¬ p.1=k):jn (p :: r) k=jn r k:=by simp [jn,List.find?_cons,e]
theorem HZ (k:κ):∀ kvs:List (κ×V),(kvs.any fun kv=>decide (kv.1=k))=(jn kvs k).isSome
 | []=>rfl
 | p :: r=>by
  rw [List.any_cons]
  by_cases e:p.1=k
  ·simp only [EU e,decide_eq_true e,Bool.true_or,Option.isSome_some]
  ·rw [EV e,decide_eq_false e,Bool.false_or];exact HZ k r
theorem Ic (kvs:List (κ×V)) (k:κ) (v:V):(putK kvs k v).length<=kvs.length + 1:=by
 unfold putK
 split
 ·rw [List.length_map];omega
 ·rw [List.length_append,List.length_cons,List.length_nil];omega
theorem oB.ka {o:Option V} {u:Option Value} (r:oB o u):o.isSome=u.isSome:=by
 cases o with
 | none=>cases u with
  | none=>rfl
  | some _=>exact (show False from r).elim
 | some _=>cases u with
  | none=>exact (show False from r).elim
  | some _=>rfl
theorem KV.val {kvs:List (κ×V)} {vs:List (κ×Value)} (r:KV kvs vs) (k:κ):oB (jn kvs k) (valueAt vs k):=by
 unfold KV at r
 induction r with
 | nil=>exact True.intro
 | @cons p q ps qs h t ih =>
  obtain ⟨h1,h2⟩:=h
  by_cases e:p.1=k
  ·have e':q.1=k:=h1.symm.trans e
   have b:valueAt (q :: qs) k=some q.2:=by simp [valueAt,List.find?_cons,e']
   rw [EU e,b];exact h2
  ·have e':¬ q.1=k:=fun z=>e (h1.trans z)
   have b:valueAt (q :: qs) k=valueAt qs k:=by simp [valueAt,List.find?_cons,e']
   rw [EV e,b];exact ih
theorem KV.any {kvs:List (κ×V)} {vs:List (κ×Value)} (r:KV kvs vs) (k:κ):(kvs.any fun kv=>decide (kv.1=k))=vs.any fun kv=>decide (kv.1=k):=by
 unfold KV at r
 induction r with
 | nil=>rfl
 | cons h t ih=>rw [List.any_cons,List.any_cons,ih,h.1]
theorem KV.repl {kvs:List (κ×V)} {vs:List (κ×Value)} (r:KV kvs vs) (k:κ) {y:V} {u:Value} (ry:RelV y u) :
  KV (kvs.map fun kv=>if kv.1=k then (kv.1,y) else kv) (vs.map fun kv=>if kv.1=k then (kv.1,u) else kv):=by
 unfold KV at r ⊢
 induction r with
 | nil=>exact .nil
 | @cons p q ps qs h t ih =>
  rw [List.map_cons,List.map_cons]
  refine .cons ?_ ih
  obtain ⟨h1,h2⟩:=h
  by_cases e:p.1=k
  ·rw [if_pos e,if_pos (h1.symm.trans e)];exact ⟨h1,ry⟩
  ·rw [if_neg e,if_neg (fun z=>e (h1.trans z))];exact ⟨h1,h2⟩
theorem KV.put {kvs:List (κ×V)} {vs:List (κ×Value)} (r:KV kvs vs) (k:κ) {y:V} {u:Value} (ry:RelV y u):KV (putK kvs k y) (stored vs k u):=by
 unfold putK stored
 rw [r.any k]
 by_cases e:(vs.any fun kv=>decide (kv.1=k))=true
 ·rw [if_pos e,if_pos e];exact r.repl k ry
 ·rw [if_neg e,if_neg e];exact Paired.snoc r ⟨rfl,ry⟩
theorem KV.length {kvs:List (κ×V)} {vs:List (κ×Value)} (r:KV kvs vs):kvs.length=vs.length:=Paired.length r
end
theorem EW {P:Program} {w:World} {k:Key} {u:Value} (r:RelV (kV k) u):(cR P w).is k u=true:=by
 cases k with
 | inl i=>obtain ⟨t,e⟩:=(show ∃ t,u=Value.int i t from r);subst e;exact Le P w i t
 | inr x=>obtain ⟨t,e⟩:=(show ∃ t,u=Value.str x t from r);subst e;exact Lf P w x t
theorem Ie {P:Program} {w:World}:∀ {ks:List Key} {us:List Value},Vals (ks.map kV) us->ItemsAre (cR P w) ks us
 | [],_,r=>by rw [List.map_nil] at r;cases r;exact .nil
 | k :: ks,_,r=>by
  rw [List.map_cons] at r
  cases r with
  | cons h t=>exact .cons (EW h) (Ie t)
abbrev KT (H:Hp):List (List Key×V)->List (List Key×Addr×Value)->Prop:=Paired fun p q=>p.1=q.1/\H q.2.1=some (.tup (p.1.map kV))/\RelV p.2 q.2.2
theorem KT.val {H:Hp} {kvs:List (List Key×V)} {xs:List (List Key×Addr×Value)} (r:KT H kvs xs) (k:List Key):oB (jn kvs k) ((atKey xs k).map (·.2)):=by
 induction r with
 | nil=>exact True.intro
 | @cons p q ps qs h t ih =>
  obtain ⟨h1,_,h2⟩:=h
  by_cases e:p.1=k
  ·have e':q.1=k:=h1.symm.trans e
   have b:atKey (q :: qs) k=some q.2:=by simp [atKey,List.find?_cons,e']
   rw [EU e,b];exact h2
  ·have e':¬ q.1=k:=fun z=>e (h1.trans z)
   have b:atKey (q :: qs) k=atKey qs k:=by simp [atKey,List.find?_cons,e']
   rw [EV e,b];exact ih
theorem KT.repl {H:Hp} {kvs:List (List Key×V)} {xs:List (List Key×Addr×Value)} (r:KT H kvs xs) (k:List Key) {y:V} {u:Value} (ry:RelV y u) :
  KT H (kvs.map fun kv=>if kv.1=k then (kv.1,y) else kv) (xs.map (putAt k u)):=by
 induction r with
 | nil=>exact .nil
 | @cons p q ps qs h t ih =>
  rw [List.map_cons,List.map_cons]
  refine .cons ?_ ih
  obtain ⟨h1,h2,h3⟩:=h
  unfold putAt
  by_cases e:p.1=k
  ·rw [if_pos e,if_pos (h1.symm.trans e)];exact ⟨h1,h2,ry⟩
  ·rw [if_neg e,if_neg (fun z=>e (h1.trans z))];exact ⟨h1,h2,h3⟩
theorem KT.put {H:Hp} {kvs:List (List Key×V)} {xs:List (List Key×Addr×Value)} (r:KT H kvs xs) (k:List Key) {b:Addr} {y:V} {u:Value} (hb:H b=some (.tup (k.map kV))) (ry:RelV y u) :
  KT H (putK kvs k y) (storedH xs k b u):=by
 have e:(kvs.any fun kv=>decide (kv.1=k))=(atKey xs k).isSome:=by
  rw [HZ,(r.val k).ka,Option.isSome_map]
 unfold putK storedH
 rw [e]
 by_cases q:(atKey xs k).isSome=true
 ·rw [if_pos q,if_pos q];exact r.repl k ry
 ·rw [if_neg q,if_neg q];exact Paired.snoc r ⟨rfl,hb,ry⟩
theorem KT.keeps {H H':Hp} {kvs:List (List Key×V)} {xs:List (List Key×Addr×Value)} (r:KT H kvs xs) (ht:∀ b ys,H b=some (.tup ys)->H' b=some (.tup ys)):KT H' kvs xs :=
 Paired.tZ r fun _ _ z=>⟨z.1,ht _ _ z.2.1,z.2.2⟩
section
variable {P:Program} {w:World} {H:Hp} {h:Heap} {a:Addr}
theorem sd {u:HO} (ok:jJ P w H h) (e:Rd H a u):cK P w H h a u:=e.ok ok
theorem se {kvs:List (Key×V)} (ok:jJ P w H h) (e:Rd H a (.dK kvs)):kvs.length<=sizeLine/\(a == sysModules)=false/\∃ vs,KV kvs vs/\h.DictOf (cR P w) a vs :=
 show cK P w H h a (.dK kvs) from sd ok e
theorem zc {kvs:List (Key×V)} (ok:jJ P w H h) (e:H a=some (.dK kvs)):kvs.length<=sizeLine/\(a == sysModules)=false/\∃ vs,KV kvs vs/\h.DictOf (cR P w) a vs:=se ok (.inl e)
theorem xC {ks:List Key} (ok:jJ P w H h) (e:H a=some (.tup (ks.map kV))):(tupleKind (cR P w)).is h ks a:=by
 obtain ⟨_,its,r,o,h1,h2,_,n,h3⟩:=(show cK P w H h a (.tup (ks.map kV)) from ok a _ e)
 exact ⟨o,its.toArray,n,h1,h2,h3,by simpa using Ie r⟩
theorem sf {kvs:List (List Key×V)} (ok:jJ P w H h) (e:Rd H a (.dT kvs)):kvs.length<=sizeLine/\(a == sysModules)=false /\
  ∃ xs,KT H kvs xs/\h.DictOfH (tupleKind (cR P w)) a xs:=by
 obtain ⟨z,y,xs,r,o,es,ep,h1,h2,h3,h4,h5⟩:=(show cK P w H h a (.dT kvs) from sd ok e)
 refine ⟨z,y,xs,r,o,es,ep,h1,h2,h3,h4,fun x hx=>?_,h5⟩
 have all:∀ {l:List (List Key×V)} {m:List (List Key×Addr×Value)},KT H l m->∀ x∈m,(tupleKind (cR P w)).is h x.1 x.2.1:=by
  intro l m q
  induction q with
  | nil=>intro x hx;exact nomatch hx
  | @cons p q ps qs hq t ih =>
   intro x hx
   rcases List.mem_cons.mp hx with e | hx
   ·subst e
    exact xC ok (by rw [<- hq.1];exact hq.2.1)
   ·exact ih x hx
 exact all r x hx
theorem zd {kvs:List (List Key×V)} (ok:jJ P w H h) (e:H a=some (.dT kvs)):kvs.length<=sizeLine/\(a == sysModules)=false /\
  ∃ xs,KT H kvs xs/\h.DictOfH (tupleKind (cR P w)) a xs:=sf ok (.inl e)
end
def pe (H:Hp) (a:Addr) (y:V) (r:Option V):Prop :=
 (∃ kvs k,Rd H a (.dK kvs)/\y=kV k/\r=jn kvs k)\/∃ kvs k b,Rd H a (.dT kvs)/\y=.ref b/\H b=some (.tup (k.map kV))/\r=jn kvs k
def pf (H:Hp) (a:Addr) (y v:V) (H':Hp):Prop :=
 (∃ kvs k,H a=some (.dK kvs)/\y=kV k/\kvs.length < sizeLine/\H'=upd H a (.dK (putK kvs k v))) \/
 ∃ kvs k b,H a=some (.dT kvs)/\y=.ref b/\H b=some (.tup (k.map kV))/\kvs.length < sizeLine/\H'=upd H a (.dT (putK kvs k v))
theorem pe.k {H:Hp} {a:Addr} {kvs:List (Key×V)} {k:Key} (e:H a=some (.dK kvs)):pe H a (kV k) (jn kvs k):=.inl ⟨kvs,k,.inl e,rfl,rfl⟩
theorem pf.k {H:Hp} {a:Addr} {kvs:List (Key×V)} {k:Key} {v:V} (e:H a=some (.dK kvs)) (hl:kvs.length < sizeLine):pf H a (kV k) v (upd H a (.dK (putK kvs k v))):=.inl ⟨kvs,k,e,rfl,hl,rfl⟩
section
variable {X:Cx} {pins:List (Addr×Obj)} {σ:St} {H:Hp} {s:Shared} {a:Addr} {y v:V} {u r:Value} {o:Option V} {A:Around} {E:Value->Shared->Prop}
theorem Inv.big (I:Inv X pins σ H s):sysModules < s.heap.objs.size:=by
 have h:mainGlobals < s.heap.objs.size:=(I.mod.glob.keeps I.bk).lt
 exact Nat.lt_trans (by decide) h
theorem LN {Q:Value->Shared->Prop} (hu:A.units + 1 < cLine) (I:Inv X pins σ H s) (g:pe H a y o) (ry:RelV y u) (h:∀ s',Inv X pins σ H s'->Q (.bool (!o.isSome)) s') :
  wpAny (model X.prog X.w) A (compareOp .NotIn u (.ref a)) Q E s:=by
 rcases g with ⟨kvs,k,e,ey,l⟩ | ⟨kvs,k,b,e,ey,eb,l⟩
 ·subst ey
  obtain ⟨z,hd,vs,rel,dd⟩:=se I.hok e
  refine wpAny_notIn_of (EW ry) hd dd.mapOf ?_
  rw [<- (rel.val k).ka,<- l]
  exact h _ (I.tok _)
 ·subst ey
  cases (show u=Value.ref b from ry)
  obtain ⟨z,hd,xs,rel,dd⟩:=sf I.hok e
  refine wpAny_notIn_heap (tupleKind_room_in1 hu) (xC I.hok eb) hd dd ?_
  have q:=(rel.val k).ka
  rw [Option.isSome_map] at q
  rw [<- q,<- l]
  exact h _ (I.tok _)
theorem Ig {h':Heap} {t':Nat} {ob:HO} (I:Inv X pins σ H s) (mu:ym (H a)) (hs:Heap.SameBut a s.heap h') (he:∃ q,h'.get? a=some q) (new:cK X.prog X.w (upd H a ob) h' a ob) :
  Inv X pins σ (upd H a ob) { s with heap:=h',toks:=t' } :=
 I.write (x:=a) (e:=a) mu (.inl rfl) (fun b q hb z=>(hs.2 b hb).trans z) he new
theorem uG {P:Program} {w:World} {H':Hp} {h':Heap} {kvs:List (Key×V)} {vs:List (Key×Value)} (z:kvs.length<=sizeLine) (hd:(a == sysModules)=false) (rel:KV kvs vs) (dd:h'.DictOf (cR P w) a vs) :
  cK P w H' h' a (.dK kvs):=⟨z,hd,vs,rel,dd⟩
theorem LO {H':Hp} {Q:Unit->Shared->Prop} (hu:A.units + 1 < cLine) (I:Inv X pins σ H s) (g:pf H a y v H') (ry:RelV y u) (rv:RelV v r) (h:∀ s',Inv X pins σ H' s'->Q () s') :
  wpAny (model X.prog X.w) A (setItem (.ref a) u r) Q E s:=by
 rcases g with ⟨kvs,k,e,ey,l,eH⟩ | ⟨kvs,k,b,e,ey,eb,l,eH⟩
 ·subst ey eH
  obtain ⟨z,hd,vs,rel,dd⟩:=zc I.hok e
  have hz:vs.length<=sizeLine:=by rw [<- rel.length];exact z
  have hl:(putK kvs k v).length<=sizeLine:=by have:=Ic kvs k v;omega
  refine wpAny_setItem_pairs (hsz:=hz) (EW ry) dd fun h' Cr hs=>h _ ?_
  have he:∃ q,h'.get? a=some q:=let ⟨q,_,_,hq,_⟩:=Cr;⟨q,hq⟩
  exact Ig I (by rw [e];exact True.intro) hs he (uG hl hd (rel.put k rv) Cr)
 ·subst ey eH
  cases (show u=Value.ref b from ry)
  obtain ⟨z,hd,xs,rel,dd⟩:=zd I.hok e
  have hz:xs.length<=sizeLine:=by rw [<- Paired.length rel];exact z
  have hl:(putK kvs k v).length<=sizeLine:=by have:=Ic kvs k v;omega
  refine wpAny_setItem_heap (hsz:=hz) (tupleKind_room_in1 hu) (xC I.hok eb) dd fun h' Cr hs=>h _ ?_
  obtain ⟨q,es,ep,hq,h2,h3,h4,_,h5⟩:=Cr
  refine Ig I (by rw [e];exact True.intro) hs ⟨q,hq⟩ ⟨hl,hd,_,(rel.put k eb rv).keeps fun c ys ec=>?_,q,es,ep,hq,h2,h3,h4,h5⟩
  rw [iQ (Ep ec e (fun z=>nomatch z))]
  exact ec
end
section
variable {X:Cx} {pins:List (Addr×Obj)} {σ:St} {H:Hp} {s:Shared} {a:Addr} {kvs:List (Key×V)} {k:Key} {u:Value} {A:Around} {E:Value->Shared->Prop}
end
def nU (ty td:TE):TE:=fun σ H Q=>ty σ H fun y H1=>td σ H1 fun x H2=>∃ a o,x=.ref a/\pe H2 a y o/\Q (.bl (!o.isSome)) H2
def si (td ty tv:TE):TS:=fun D σ H=>tv σ H fun v H1=>td σ H1 fun x H2=>ty σ H2 fun y H3=>∃ a H4,x=.ref a/\pf H3 a y v H4/\D.nx σ H4
section
variable {X:Cx} {o i e value:Expr} {pos pos' tpos:Pos} {td ty tv:TE}
theorem LP (hu:X.A.units + 1 < cLine) (hi:PE X i ty) (ho:PE X o td):PC X .NotIn i o (nU ty td):=by
 intro pins s σ H Q I h
 refine cH (hi pins s σ H _ I h) fun iv s1 ⟨y,H1,I1,ry,q1⟩=>cH (ho pins s1 σ H1 _ I1 q1) fun u s2 ⟨x,H2,I2,rx,a,ov,ex,g,q2⟩=>?_
 subst ex
 obtain rfl:u=Value.ref a:=rx
 exact LN hu I2 g ry fun s3 I3=>⟨.bl (!ov.isSome),H2,I3,rfl,q2⟩
theorem LQ (hu:X.A.units + 1 < cLine) (ho:PE X o td) (hi:PE X i ty) (hv:PE X value tv) (hs:swapsWith value (some (.Subscript o i pos')) pos.line X.env=pure false) :
  PS X (.Assign [.Subscript o i pos'] value pos) (si td ty tv):=by
 intro pins s σ H D I h
 refine wpAny_Assign_Subscript (cH (hv pins s σ H _ I h) fun r s1 ⟨v,H1,I1,rv,q1⟩=>cH (ho pins s1 σ H1 _ I1 q1) fun u s2 ⟨x,H2,I2,rx,q2⟩=>cH (hi pins s2 σ H2 _ I2 q2) fun iv s3 ⟨y,H3,I3,ry,a,H4,ex,g,q3⟩=>?_) hs
 subst ex
 obtain rfl:u=Value.ref a:=rx
 exact LO hu I3 g ry rv fun s4 I4=>⟨σ,H4,I4,q3⟩
end
theorem LR {P:Program} {w:World} {H:Hp} (h:Heap) (hb:sysModules < h.objs.size):cK P w H (h.push { cls:=.type "dict",data:=.dict #[] }) h.objs.size (.dK []) :=
 ⟨Nat.zero_le _,beq_eq_false_iff_ne.mpr (Ne.symm (Nat.ne_of_lt hb)),[],.nil,Heap.DictOf.new h⟩
def pg:TE:=fun _ H Q=>∀ p,H p=none->Q (.ref p) (upd H p (.dK []))
section
variable {X:Cx} {pos:Pos}
theorem LS:PE X (.Dict [] [] pos) pg:=fun pins s σ H Q I h =>
 wpAny_Dict_empty ⟨.ref s.heap.objs.size,_,I.laid (a:=s.heap.objs.size) (o:=.dK []) (t':=s.toks) (fun _ _ q=>Heap.get?_push_of_some _ q) (Nat.le_refl _) (LR s.heap I.big),rfl,h _ (I.hok.fresh (Nat.le_refl _))⟩
end
structure M2 (X:Cx) (o:Expr) (m:Str) (apos:Pos) (e f:Expr) (cpos:Pos):Prop where
 base:attributeBase o m X.env (eval o X.env)=eval o X.env
 few:((backTo cpos (starEach [e,f] X.env)).all (fun x=>!x.1) && (backToKw cpos (keywordEach [] X.env)).all (fun x=>x.1.isSome)
  && decide (([e,f]:List Expr).length + ([]:List Keyword).length + (if ([]:List Keyword).isEmpty then 0 else 1) < 30))=true
 line:(apos.endLine == cpos.line)=true
 trees:backTo cpos (starEach [e,f] X.env)=[(false,eval e X.env),(false,eval f X.env)]
section
variable {X:Cx} {pins:List (Addr×Obj)} {σ:St} {H:Hp} {s:Shared} {a:Addr} {y d:V} {u r:Value} {o:Option V} {A:Around} {E:Value->Shared->Prop}
end
section
variable {X:Cx} {o e f:Expr} {apos cpos:Pos} {td ty tx:TE}
end
section
variable {X:Cx} {pins:List (Addr×Obj)} {σ:St} {H:Hp} {s:Shared} {a:Addr} {kvs:List (Key×V)} {A:Around} {E:Value->Shared->Prop}
end
section
variable {X:Cx} {pins:List (Addr×Obj)} {σ:St} {H:Hp} {s:Shared} {a:Addr} {y:V} {u:Value} {A:Around} {E:Value->Shared->Prop}
end
end L2
namespace Ih
open PySem PySem.W PySem.Calls PyProof.Rows
theorem LU {P:Params} {h:Heap}:∀ (ns:List Int) (vs:List Value),WellAll P h vs (ns.map WData.int)->IntsAre vs ns:=by
 intro ns
 induction ns with
 | nil =>
  intro vs w
  rw [List.map_nil] at w
  cases w
  exact .nil
 | cons n ns ih =>
  intro vs w
  rw [List.map_cons] at w
  cases w with
  | cons a b =>
   cases a
   exact .cons _ _ (ih _ b)
theorem LV {l:OpenLaw} {n:Nat} (hn:l.most=some n) {P:Params} {h:Heap} {args:List WData} {vals:List Value}
  (hpre:l.row.toRowW.claim.pre args=true) (hwl:WellAll P h vals args) :
  ∃ a vs ns,vals=[Value.ref a]/\args=[WData.list (ns.map WData.int)]/\h.get? a=some { cls:=.type "list",data:=.seq vs.toArray }/\IntsAre vs ns/\ns.length<=n:=by
 have hsh:WShape.hasAll [] args [.list .int]=true:=(pre_splitW hpre).1
 have hc:l.pre.holds [] { args:=args }=true:=(pre_splitW hpre).2
 obtain ⟨d,r,rfl,h1,h2⟩:=hasAllW_cons hsh
 obtain rfl:=hasAllW_nil h2
 obtain ⟨xs,rfl,h3⟩:=hasW_list h1
 obtain ⟨ns,rfl⟩:=items_int h3
 have hlen:ns.length<=n:=by
  unfold OpenLaw.pre at hc
  have h4:(WTm.not (.lt (.lit (.int (n:Int))) (.len (.arg 0)))).holds [] { args:=[.list (ns.map .int)] }=true:=by
   have h4:=(holds_andW hc).1
   rw [hn] at h4
   exact h4
  have h5:=condW_of h4 (w_not (w_lt w_lit (w_len_list (w_arg rfl))))
  rw [List.length_map] at h5
  refine Nat.le_of_not_lt fun q=>?_
  have q':(n:Int) < ((ns.length:Nat):Int):=by omega
  first
   | (rw [decide_eq_true q'] at h5;exact absurd h5 (by decide))
   | (simp at h5;omega)
 cases hwl with
 | cons w1 w2 =>
  cases w2
  cases w1 with
  | list ho hall=>exact ⟨_,_,ns,rfl,rfl,ho,LU ns _ hall,hlen⟩
theorem LW (l:OpenLaw) (args:List WData):l.row.toRowW.claim.post args (.bool true) args=true :=
 postW_of (r:=l.row.toRowW) (X:=(true == true))
  (show WShape.has [] (.bool true) .bool=true by first | rfl | decide | simp [WShape.has,WShape.arms,WShape.armsAll])
  (show (WTm.eq .res (.lit (.bool true))).value [] { args:=args,res:=some (.bool true),after:=args }=some (.bool (true == true)) from w_eq_bool (w_res rfl) w_lit) rfl
theorem LX {l:OpenLaw} {n:Nat} {q:Program} {loose:List Str} {XP:(Str->Option Value)->Heap->Prop} {YP:World->Heap->Prop} {d:DefRec}
  (hn:l.most=some n) (hdf:d.params.defaults=[])
  (call:∀ (w:World) (s₀ s₁:Shared) (mg mb:Str->Option Value) (fa:Addr) (o:Obj) (pm cd doc:Value) (a:Addr) (vs:List Value) (ns:List Int),
   Ground q loose [] XP w s₀ mg mb s₁.heap->YP w s₁.heap ->
   s₁.heap.get? fa=some o->o.data=.func (docDef d.name d.params d.body d.scope pm cd doc)->s₁.heap.CodeRec cd d.name->mg d.name=some (.ref fa) ->
   s₁.heap.get? a=some { cls:=.type "list",data:=.seq vs.toArray }->IntsAre vs ns->ns.length<=n->s₁.gens=#[] ->
   codeAny (model l.prog w) callerA (.call (.ref fa) ⟨[.ref a],[]⟩) (fun r s'=>r=.ok (.ret (.bool true))/\OldK s₁.heap s'.heap/\s'.os=s₁.os/\AllBare s'.gens) s₁) :
  WalkO q loose XP YP l.row.toRowW d [] (fun f vs=>PySem.call f vs):=by
 intro w s₀ s₁ mg mb G Y fa o pm cd doc dV kV ho hd hcd hD hmg hg args vals as hpre hlay hrd hwl hlo
 obtain rfl:dV=.none:=Dflts.none hD hdf
 obtain rfl:kV=.none:=Dflts.noKw hD
 obtain ⟨a,vs,ns,rfl,rfl,hobj,hints,hlen⟩:=LV hn hpre hwl
 refine enter_call (codeAny_mono (call w s₀ s₁ mg mb fa o pm cd doc a vs ns G Y ho (fd_plain hd) hcd hmg hobj hints hlen hg) fun r s' hq=>?_)
 obtain ⟨rfl,h2,h3,h4⟩:=hq
 exact ⟨.inl ⟨.bool true,.bool true,[],rfl,fun _=>rfl,.bool true,LW l _,fun _=>⟨List.Pairwise.nil,fun _ hm=>(nomatch hm)⟩⟩,h2,h3,h4⟩
section
variable {prog:Program} {w:World} {A:Around} {E:Value->Shared->Prop} {s:Shared} {K:Frag}
end
end Ih
namespace L2
open PySem PySem.Spec PyProof.Rows
theorem Ii:∀ {vs:List Value} {ns:List Int},IntsAre vs ns->Vals (ns.map V.int) vs
 | _,_,.nil=>.nil
 | _,_,.cons n t h=>.cons ⟨t,rfl⟩ (Ii h)
def Only (H:Hp):Prop:=∀ b,H b=none\/∃ o xs,H b=some (.lY o (.lst xs))
theorem LY {P:Program} {w:World} {K:PySem.W.Frag} {mg mb:Str->Option Value} {CX:oE} {k:Nat} {fa a:Addr} {fd:FuncData} {x:Str} {sp:Sp} {s₁:Shared} {vs:List Value} {ns:List Int}
  (KX:K.In s₁.heap) (hns:s₁.heap.Ns mainGlobals mg) (hb:s₁.heap.Ns builtinsNs mb) (LZ:∀ x:Str,x≠"__name__" -> mb x=bootBuiltins x) (hlim:s₁.heap.NoLimit) (hg:s₁.gens=#[])
  (ha:s₁.heap.get? a=some { cls:=.type "list",data:=.seq vs.toArray }) (hi:IntsAre vs ns) (hl:ns.length<=sizeLine) (hr:gx k callerA)
  (F:∀ base:Heap,K.In base->base.Ns mainGlobals mg->ay P w K mg base CX k fa fd [x] sp) (hbind:∀ (s:Shared) (u:Value),BindsTo s fd ⟨[u],[]⟩ [(x,u)])
  (qi:∀ H:Hp,Only H->iR K H a (ns.map V.int)->sp [.ref a] H (fun v _=>v=.bl true) fun _ _ _=>False)
  (ze:∀ H e s',CX [] H s₁ (fun _ _ _=>False) e s'->False) :
  codeAny (model P w) callerA (.call (.ref fa) ⟨[.ref a],[]⟩) (fun r s'=>r=.ok (.ret (.bool true))/\OldK s₁.heap s'.heap/\s'.os=s₁.os/\AllBare s'.gens) s₁:=by
 have rv:=Ii hi
 have EX:=hi.length
 have core:∀ H:Hp,Only H->iR K H a (ns.map V.int)->jJ P w H s₁.heap->(∀ b,H b≠none->b=a)->(H a≠none->K.lookup a=none) ->
   codeAny (model P w) callerA (.call (.ref fa) ⟨[.ref a],[]⟩) (fun r s'=>r=.ok (.ret (.bool true))/\OldK s₁.heap s'.heap/\s'.os=s₁.os/\AllBare s'.gens) s₁:=by
  intro H hO hS hok hA hK
  have nV:∀ {b:Addr} {o:Obj},s₁.heap.get? b=some o->H b=none->(l6 s₁.heap H).get? b=some o:=fun e n=>Li e n
  have yT:∀ {b:Addr} {o:Obj} {es:Array DictEntry} {ep:Nat},s₁.heap.get? b=some o->o.data=.dict es ep->H b=none:=fun {b o es ep} e d=>by
   cases q:H b with
   | none=>rfl
   | some u =>
    have e':b=a:=hA b (by rw [q];simp)
    subst e'
    rw [ha] at e;cases e
    have d':Data.seq vs.toArray _=Data.dict es ep:=d
    cases d'
  have Cs:∀ {b:Addr} {m:Str->Option Value},s₁.heap.Ns b m->(l6 s₁.heap H).Ns b m:=fun {b m} ⟨o,es,ep,e,d,r⟩=>⟨o,es,ep,nV e (yT e d),d,r⟩
  have Ij:K.In (l6 s₁.heap H):=fun b o e=>nV (KX b o e) (by
   cases q:H b with
   | none=>rfl
   | some u =>
    have e':b=a:=hA b (by rw [q];simp)
    subst e'
    rw [hK (by rw [q];simp)] at e;cases e)
  have hM:Mod K mg (l6 s₁.heap H):=⟨Ij,Cs hns,⟨mb,Cs hb,LZ⟩,let ⟨mc,h1,h2⟩:=hlim;⟨mc,Cs h1,h2⟩⟩
  have e0:qH P w K mg (l6 s₁.heap H) callerA [] s₁ H:=⟨rfl,hM,fun b o e=>Lj e,Nat.le_of_eq (Lh _ _),trivial,fun b hb=>absurd (show b∈([]:List Addr) from hb) (by simp),hok,.of_eq hg⟩
  refine codeAny_mono ((F _ Ij (Cs hns)).run callerA [] s₁ H ⟨[.ref a],[]⟩ [.ref a] [.ref a] _ _ hr e0 (hbind s₁ (.ref a)) (.cons rfl .nil) (qi H hO hS)) fun r s' h=>?_
  cases r with
  | error e=>exact (ze H e s' h).elim
  | ok fl =>
   cases fl with
   | next=>exact False.elim h
   | brk=>exact False.elim h
   | cont=>exact False.elim h
   | ret u =>
    obtain ⟨v,H',os,bare,un,EY,r',q⟩:=h
    have q':v=.bl true:=q
    subst q'
    obtain rfl:u=Value.bool true:=r'
    refine ⟨rfl,OldK.of_keep fun b o e=>?_,os,bare⟩
    cases q:H b with
    | none=>exact un.keep b o e q (by intro z;exact absurd (show b∈([]:List Addr) from z) (by simp)) (by simp)
    | some u =>
     rcases hO b with z | ⟨ob,xs,z⟩
     ·rw [q] at z;cases z
     ·have z2:=un.lZ b ob _ z
      obtain ⟨e1,_⟩:=hok b _ z
      obtain ⟨e2,_⟩:=EY b _ z2
      rw [e] at e1;cases e1
      exact e2
 cases hk:K.lookup a with
 | some o =>
  have e:=KX a o hk
  rw [ha] at e
  cases e
  refine core (fun _=>none) (fun _=>.inl rfl) (.inr ⟨_,vs.toArray,_,hk,rfl,rfl,rfl,by rw [List.size_toArray,EX];exact hl,by simpa using rv⟩) (fun b u z=>by have z':(none:Option HO)=some u:=z;cases z') (fun b z=>absurd rfl z) fun z=>absurd rfl z
 | none =>
  refine core (fun b=>if b=a then some (.lY { cls:=.type "list",data:=.seq vs.toArray } (.lst (ns.map V.int))) else none) (fun b=>?_) (.inl (.inr ⟨{ cls:=.type "list",data:=.seq vs.toArray },if_pos rfl⟩)) (fun b u z=>?_) (fun b z=>?_) fun _=>hk
  ·by_cases hb:b=a
   ·exact .inr ⟨_,_,if_pos hb⟩
   ·exact .inl (if_neg hb)
  ·by_cases hb:b=a
   ·have z':=(if_pos hb).symm.trans z
    cases z'
    subst hb
    exact ⟨ha,by rw [List.length_map];exact hl,vs,_,rv,ha⟩
   ·have z':=(if_neg hb).symm.trans z
    cases z'
  ·by_cases hb:b=a
   ·exact hb
   ·exact absurd (if_neg hb) z
end L2
namespace L2
open PySem PySem.Spec PyProof.Rows
abbrev KOf {K:PySem.W.Frag} {h:Heap} (_:K.In h):PySem.W.Frag:=K
theorem L0 {l:PySem.W.OpenLaw} {n k:Nat} {q:Program} {loose:List Str} {XP:(Str->Option Value)->Heap->Prop} {YP:World->Heap->Prop} {d:DefRec} {K:Params->PySem.W.Frag} {CX:World->oE} {sp:World->Sp} {x:Str}
  (hn:l.most=some n) (hn2:n<=sizeLine) (hdf:d.params.defaults=[]) (hr:gx k callerA)
  (hY:∀ (w:World) (h:Heap),YP w h->(K w.params).In h)
  (F:∀ (w:World) (mg:Str->Option Value) (fa:Addr) (h:Heap),(K w.params).In h->h.Ns mainGlobals mg->mg d.name=some (.ref fa) ->
   ∃ fd:FuncData,(∀ (s:Shared) (u:Value),BindsTo s fd ⟨[u],[]⟩ [(x,u)]) /\
    ∀ base:Heap,(K w.params).In base->base.Ns mainGlobals mg->ay l.prog w (K w.params) mg base (CX w) k fa fd [x] (sp w))
  (qi:∀ (w:World) (H:Hp) (a:Addr) (ns:List Int),ns.length<=n->Only H->iR (K w.params) H a (ns.map V.int)->sp w [.ref a] H (fun v _=>v=.bl true) fun _ _ _=>False)
  (ze:∀ (w:World) (H:Hp) (s:Shared) (e:Value) (s':Shared),CX w [] H s (fun _ _ _=>False) e s'->False) :
  PySem.W.WalkO q loose XP YP l.row.toRowW d [] (fun f vs=>PySem.call f vs):=by
 refine Ih.LX hn hdf fun w s₀ s₁ mg mb fa o pm cd doc a vs ns G Y ho hd hcd hmg hobj hints hlen hg=>?_
 have KX:=hY w _ Y
 obtain ⟨fd,hb,hF⟩:=F w mg fa _ KX G.T.g hmg
 exact LY KX G.T.g G.T.b G.T.builtins G.T.nolimit hg hobj hints (Nat.le_trans hlen hn2) hr hF hb (fun H hO hS=>qi w H a ns hlen hO hS) fun H e s'=>ze w H s₁ e s'
theorem L3 {l:PySem.W.OpenLaw} {n k:Nat} {q:Program} {loose:List Str} {XP:(Str->Option Value)->Heap->Prop} {YP:World->Heap->Prop} {d:DefRec} {K:Params->PySem.W.Frag} {CX:oE} {sp:PySem.W.Frag->Sp} {x:Str}
  (hn:l.most=some n) (hn2:n<=sizeLine) (hdf:d.params.defaults=[]) (hr:gx k callerA)
  (hY:∀ (w:World) (h:Heap),YP w h->(K w.params).In h)
  (F:∀ (w:World) (mg:Str->Option Value) (fa:Addr) (h:Heap),(K w.params).In h->h.Ns mainGlobals mg->mg d.name=some (.ref fa) ->
   ∃ fd:FuncData,(∀ (s:Shared) (u:Value),BindsTo s fd ⟨[u],[]⟩ [(x,u)]) /\
    ∀ base:Heap,(K w.params).In base->base.Ns mainGlobals mg->ay l.prog w (K w.params) mg base CX k fa fd [x] (sp (K w.params)))
  (qi:∀ (K:PySem.W.Frag) (H:Hp) (a:Addr) (ns:List Int),ns.length<=n->Only H->iR K H a (ns.map V.int)->sp K [.ref a] H (fun v _=>v=.bl true) fun _ _ _=>False)
  (ze:∀ (H:Hp) (s:Shared) (e:Value) (s':Shared),CX [] H s (fun _ _ _=>False) e s'->False) :
  PySem.W.WalkO q loose XP YP l.row.toRowW d [] (fun f vs=>PySem.call f vs) :=
 L0 (K:=K) (CX:=fun _=>CX) (sp:=fun w=>sp (K w.params)) hn hn2 hdf hr hY F (fun w H a ns h1 h2 h3=>qi (K w.params) H a ns h1 h2 h3) fun _ H s e s'=>ze H s e s'
end L2
namespace L2
open PySem PySem.Spec PyProof.Rows
def jN (s:Stmt):Arguments:=match s with
 | .FunctionDef _ a _ _ _ _ _ _ _ _=>a
 | _=>{ posonlyargs:=[],args:=[],vararg:=none,kwonlyargs:=[],kw_defaults:=[],kwarg:=none,defaults:=[] }
def iS (s:Stmt):List Stmt:=match s with
 | .FunctionDef _ _ b _ _ _ _ _ _ _=>b
 | _=>[]
def av (s:Stmt):Scope:=match s with
 | .FunctionDef _ _ _ _ _ _ sc _ _ _=>sc
 | _=>{ kind:=.function,names:=[],isGenerator:=false,isCoroutine:=false }
abbrev bj:oE:=fun _ _ _ _ _ _=>False
abbrev E0:XK:=fun _ _ _=>False
theorem ax {X:Cx}:Passes bj X E0:=fun _ _ _ _ _ _ _ h=>h.elim
structure Ct (K:PySem.W.Frag) (x qual:Str) (st:Stmt) (f:Addr) (fd:FuncData):Prop where
 ex:∃ (oc:Value) (od:Option Addr) (kV doc pm:Value) (an:Option Addr) (cdv ct:Value) (osl:Array (Option Value)),
  fd=PySem.W.fnOf x qual (jN st) (iS st) (av st) .none kV doc pm an cdv ct/\K.lookup f=some ⟨oc,od,.func fd,osl⟩/\PySem.W.codeIn K cdv qual=true
 kp:PySem.W.keepIn K (.ref f)=true
section
variable {P:Program} {w:World} {K:PySem.W.Frag} {mg:Str->Option Value} {base:Heap}
theorem Ct.ok {x qual:Str} {st:Stmt} {f:Addr} {fd:FuncData} {N ps:List Str} {k:Nat} {sp:Sp} (F:Ct K x qual st f fd) (S:aA N ps (av st)) (len:∀ vs H Q E,sp vs H Q E->vs.length=ps.length)
  (hbody:∀ (cdv:Value) (A:Around) (outer:List Env) (s:Shared) (H:Hp) (vs:List V) (Q:VK) (E:XK),gx k (A.deeper (envOfC qual (av st) s.heap.objs.size f cdv))->sp vs H Q E ->
   ∃ t,oC (j9 bj P w K mg base N qual (av st) f cdv A outer s H E).oZ (iS st) t/\t { nx:=fun _ H'=>Q .non H',rt:=Q } (start N vs) H):ay P w K mg base bj (k + 1) f fd ps sp:=by
 obtain ⟨oc,od,kV,doc,pm,an,cdv,ct,osl,rfl,lk,hcd⟩:=F.ex
 refine yU lk hcd S len fun A outer s H vs Q E hr qi=>?_
 obtain ⟨t,h,q⟩:=hbody cdv A outer s H vs Q E hr qi
 exact ⟨t,h.oZ,q⟩
theorem uH {x qual:Str} {st:Stmt} {f:Addr} {oc:Value} {od an:Option Addr} {osl:Array (Option Value)} {kV doc pm cdv ct:Value} (l:K.lookup f=some ⟨oc,od,.func (PySem.W.fnOf x qual (jN st) (iS st) (av st) .none kV doc pm an cdv ct),osl⟩)
  (c:PySem.W.codeIn K cdv qual=true) (k:PySem.W.keepIn K (.ref f)=true):Ct K x qual st f (PySem.W.fnOf x qual (jN st) (iS st) (av st) .none kV doc pm an cdv ct):=⟨⟨oc,od,kV,doc,pm,an,cdv,ct,osl,rfl,l,c⟩,k⟩
end
theorem gf {A:Around} {k:Nat} (hr:gx k A):A.units + 1 < cLine:=Nat.lt_of_le_of_lt (Nat.add_le_add_left (by decide:1<=64) _) hr.units
section
variable {X:Cx}
theorem pv (i:Nat) {x:Str} {pos:Pos} (hN:X.N[i]?=some x:=by rfl) (hv:Et X.env.scope x:=by first | exact Or.inl rfl | exact Or.inr (Or.inl rfl) | exact Or.inr (Or.inr rfl)) (hd:(x == ("__debug__" : Str))=false:=by decide)
  (hcd:(x == ("__classdict__" : Str))=false:=by decide):PE X (.Name x pos) (ug i):=uh hN hv hd hcd
end
theorem oG {A B:Prop} (h:B):if false=true then A else B:=by
 rw [if_neg Bool.false_ne_true]
 exact h
theorem oH {A B:Prop} (h:A):if true=true then A else B:=by
 rw [if_pos rfl]
 exact h
def h9 (H H':Hp):Prop:=∀ b o,H b=some o->H' b=some o
theorem h9.refl (H:Hp):h9 H H:=fun _ _ h=>h
section
variable {X:Cx}
end
section
variable {κ:Type} [DecidableEq κ]
end
end L2
namespace L2
open PySem PySem.Spec PyProof.Rows
theorem mP:bootBuiltins "len" = some (.builtin "len"):=by decide +kernel
theorem uI:bootBuiltins "int" = some (.type "int"):=by decide +kernel
theorem oI:bootBuiltins "list" = some (.type "list"):=by decide +kernel
theorem oJ:bootBuiltins "tuple" = some (.type "tuple"):=by decide +kernel
theorem qK:bootBuiltins "range" = some (.type "range"):=by decide +kernel
theorem uJ:bootBuiltins "max" = some (.builtin "max"):=by decide +kernel
theorem uK:bootBuiltins "min" = some (.builtin "min"):=by decide +kernel
theorem L5:bootBuiltins "sorted" = some (.builtin "sorted"):=by decide +kernel
theorem L6:bootBuiltins "reversed" = some (.type "reversed"):=by decide +kernel
structure Kp (ch:List Addr) (H H':Hp):Prop where
 keep:∀ b o,H b=some o->b ∉ ch->H' b=some o
 tup:∀ b xs,H b=some (.tup xs)->H' b=some (.tup xs)
 lY:∀ b o u,H b=some (.lY o u)->H' b=some (.lY o u)
section
variable {ch:List Addr} {H H1 H2:Hp} {a l p:Addr} {o:HO} {xs ys:List V} {K:PySem.W.Frag}
theorem Kp.refl:Kp ch H H:=⟨fun _ _ h _=>h,fun _ _ h=>h,fun _ _ _ h=>h⟩
theorem Kp.of_same (h:h9 H H1):Kp ch H H1:=⟨fun b o e _=>h b o e,fun b xs e=>h b _ e,fun b o u e=>h b _ e⟩
theorem Kp.put (h:Kp ch H H1) (ha:a∈ch) (e:H1 a=some (.lst xs)):Kp ch H (upd H1 a o) :=
 ⟨fun b u q n=>by rw [iQ (fun z=>n (by rw [z];exact ha))];exact h.keep b u q n,
   fun b u q=>by
  have r:=h.tup b u q
  rw [iQ (Ep r e (by intro z;cases z))];exact r,
   fun b u v q=>by
  have r:=h.lY b u v q
  rw [iQ (Ep r e (by intro z;cases z))];exact r⟩
theorem Kp.EZ (h:Kp ch H H1) (q:eN K H a xs):eN K H1 a xs:=by
 rcases q with (q | ⟨o,q⟩) | q
 ·exact .inl (.inl (h.tup a xs q))
 ·exact .inl (.inr ⟨o,h.lY a o _ q⟩)
 ·exact .inr q
def zf (K:PySem.W.Frag) (H:Hp) (a:Addr) (xs:List V):Prop :=
 (∃ o,H a=some (.lY o (.lst xs))) \/
  ∃ (o:Obj) (its:Array Value) (n:Nat),K.lookup a=some o/\o.cls=.type "list" /\ o.dict=none/\o.data=.seq its n/\its.size<=sizeLine/\Vals xs its.toList
theorem zf.sq (h:zf K H a xs):iR K H a xs:=h.elim (fun ⟨o,e⟩=>.inl (.inr ⟨o,e⟩)) .inr
theorem iR.script (hO:Only H) (q:iR K H a xs):zf K H a xs:=by
 rcases q with (q | ⟨o,q⟩) | q
 ·rcases hO a with e | ⟨o,ys,e⟩
  ·rw [e] at q;cases q
  ·rw [e] at q;cases q
 ·exact .inl ⟨o,q⟩
 ·exact .inr q
theorem h9.up (h:H p=none):h9 H (upd H p o):=fun b u e=>by rw [iQ (xt e h)];exact e
end
def l8 (K:PySem.W.Frag) (H:Hp) (xs:List V) (Q:VK):Prop:=∀ p H',eN K H' p xs->h9 H H'->Q (.ref p) H'
section
variable {X:Cx}
theorem l8.new {K:PySem.W.Frag} {H:Hp} {xs:List V} {Q:VK} (h:l8 K H xs Q):∀ p,H p=none->Q (.ref p) (upd H p (.tup xs)):=fun p hp=>h p _ (eN.of oR) (h9.up hp)
theorem l8.it {K:PySem.W.Frag} {H:Hp} {xs:List V} {Q:VK} {a:Addr} (h:l8 K H xs Q) (q:eN K H a xs):Q (.ref a) H:=h a H q (h9.refl H)
def ph (K:PySem.W.Frag):R2:=fun x y H Q=>∃ a b xs ys,x=.ref a/\y=.ref b/\eN K H a xs/\eN K H b ys/\xs.length + ys.length<=sizeLine/\l8 K H (xs ++ ys) Q
theorem pj:jG X (binaryOp .Add) (ph X.K):=by
 intro pins s σ H x y v u Q I rx ry h
 obtain ⟨a,b,xs,ys,rfl,rfl,ha,hb,hz,q⟩:=h
 by_cases hx:xs=[]
 ·subst hx
  cases rx
  cases ry
  obtain ⟨its,r1,p1,_⟩:=I.tuple ha
  obtain ⟨its2,r2,p2,_⟩:=I.tuple hb
  have e:its=[]:=r1.jM.mpr rfl
  subst e
  obtain ⟨⟨cls,dd,data,sl⟩,ho,hc,n,hd⟩:=id p1
  obtain ⟨⟨EJ,dd2,data2,sl2⟩,ho2,hc2,n2,hd2⟩:=id p2
  simp only at hc hd hc2 hd2
  subst hc hd hc2 hd2
  exact concat_meets ⟨_,ho,rfl⟩ ⟨_,ho2,rfl⟩ noFill_tuple_add seq_tuple_add PySem.F.slot_tuple_add PySem.F.entry_tuple_add (PySem.F.args_tuple_add_2 _ _)
   (tuple_addW0 a b #[] its2.toArray n n2 dd dd2 sl sl2 (by simp)) ⟨ho,ho2,⟨.ref b,H,I,rfl,q.it (by simpa using hb)⟩⟩
 ·exact LG pins s σ H _ _ v u Q I rx ry ⟨a,b,xs,ys,rfl,rfl,ha,hb,hx,hz,fun e=>q.it (by subst e;simpa using ha),fun _=>q.new⟩
theorem L7 {prog:Program} {w:World} {A:Around} {E:Value->Shared->Prop} {s:Shared} {t sl:Addr} {items:Array Value} {vl vu:Value} {lo hi:Option Int} {Q:Value->Shared->Prop} (ht:IsTup s.heap t items) (hs:s.heap.IsSliceOf sl vl vu .none) (pl:IsPart vl lo) (pu:IsPart vu hi)
  (hw:HT.cL items.size 0 lo=0/\HT.cL items.size items.size hi=items.size) (h:Q (.ref t) s):wpAny (model prog w) A (getItem (.ref t) (.ref sl)) Q E s:=by
 obtain ⟨os,hos,hcs,hds⟩:=id hs
 have EK:s.TypeIs (.ref sl) "slice" := ⟨os,hos,hcs⟩
 unfold getItem
 try with_reducible refine wpAny_holding ?_
 first | refine wpAny_bind (wpAny_pure ?_) | skip
 refine wpAny_bind (wpAny_sequenceKey ht.typeIs (by decide) ?_)
 refine wpAny_bind (wpAny_callSpecial?_slot (name:=Str.ofString "__getitem__") ht.typeIs PyProof.Rows.slot_tuple_getitem
  (wpAny_call_entry PyProof.Rows.slot_tuple_getitem ht.typeIs entry_tuple_getitem ?_ (args_tuple_getitem _ _)))
 show wpAny _ _ (Builtin.Tuple.tupleItemsOf (.ref t) >>= _) _ _ s
 refine wpAny_bind (tupleItemsOf_ ht ?_)
 refine wpAny_bind (wpAny_typeOf EK ?_)
 rw [if_pos (by decide)]
 refine wpAny_bind (HT.HM hs pl pu ?_)
 have hyes:((((HT.cL items.size 0 lo:Nat):Int) == 0 && (1:Int) == 1 && (HT.cL items.size items.size hi - HT.cL items.size 0 lo) == items.size)=true):=by
  rw [hw.1,hw.2];simp
 show wpAny _ _ (if (((HT.cL items.size 0 lo:Nat):Int) == 0 && (1:Int) == 1 && (HT.cL items.size items.size hi - HT.cL items.size 0 lo) == items.size)=true then _ else _) _ _ s
 rw [if_pos hyes]
 obtain ⟨o,ho,hc,n,hd⟩:=id ht
 unfold Builtin.Tuple.tupleIsExact
 first
  | exact wpAny_bind (wpAny_bind (wpAny_typeOf (T:="tuple") ⟨o,ho,hc⟩ (wpAny_pure (wpAny_bind (wpAny_rule (wpAny_pure ⟨_,rfl,wpAny_pure h⟩))))))
  | exact wpAny_bind (wpAny_bind (wpAny_typeOf (T:="tuple") ⟨o,ho,hc⟩ (wpAny_pure (wpAny_bind (wpAny_rule (wpAny_bind (wpAny_pure ⟨_,rfl,wpAny_pure h⟩)))))))
  | trace_state
def sj (K:PySem.W.Frag):V->Option Int->Option Int->Hp->VK->Prop:=fun x lo hi H Q=>∃ a xs,x=.ref a/\eN K H a xs/\l8 K H (lh xs lo hi) Q
theorem L8 {xs:List V} {lo hi:Option Int} (h:HT.cL xs.length 0 lo=0/\HT.cL xs.length xs.length hi=xs.length):lh xs lo hi=xs:=by
 unfold lh;rw [h.1,h.2];simp
theorem E1:Cp X (sj X.K):=by
 intro pins s σ H x v vl vu lo hi sl Q I rx hs pl pu h
 obtain ⟨a,xs,rfl,hx,q⟩:=h
 by_cases hw:HT.cL xs.length 0 lo=0/\HT.cL xs.length xs.length hi=xs.length
 ·cases rx
  obtain ⟨its,r,ht,hz⟩:=I.tuple hx
  have hlen:its.toArray.size=xs.length:=by rw [List.size_toArray];exact r.length.symm
  refine ⟨"tuple",_,PyProof.Rows.slot_tuple_getitem.lookup,ht.typeIs,?_⟩
  exact L7 ht hs pl pu (by rw [hlen];exact hw) ⟨.ref a,H,I,rfl,q.it (by rw [L8 hw];exact hx)⟩
 ·exact uy pins s σ H _ v vl vu lo hi sl Q I rx hs pl pu ⟨a,xs,rfl,hx,hw,q.new⟩
def eU (lo:Int) (n:Nat):List V:=(List.range n).map fun (k:Nat)=>V.int (lo + k)
theorem L9 (lo:Int) (n:Nat):(eU lo n).length=n:=by simp [eU]
theorem E2:hJ X (.type "range") (fun xs H Q=>∃ j:Int,xs=[.int j]/\∀ p,H p=none->Q (.ref p) (upd H p (.il 0 j))):=by
 intro pins s σ H xs us Q I r h
 obtain ⟨j,rfl,q⟩:=h
 obtain ⟨u,rfl,t,rfl⟩:=vals1 r
 refine call_range_1 ⟨.ref s.heap.objs.size,_,I.laid (o:=.il 0 j) (fun b o e=>Heap.get?_push_of_some _ e) (Nat.le_refl _) ?_,rfl,q _ (I.hok.fresh (Nat.le_refl _))⟩
 exact ⟨_,_,_,Heap.get?_push_size _ rfl⟩
theorem xD:hJ X (.type "range") (fun xs H Q=>∃ i j:Int,xs=[.int i,.int j]/\∀ p,H p=none->Q (.ref p) (upd H p (.il i j))):=by
 intro pins s σ H xs us Q I r h
 obtain ⟨i,j,rfl,q⟩:=h
 obtain ⟨u,u',rfl,⟨t,rfl⟩,t',rfl⟩:=vals2 r
 refine call_range_2 ⟨.ref s.heap.objs.size,_,I.laid (o:=.il i j) (fun b o e=>Heap.get?_push_of_some _ e) (Nat.le_refl _) ?_,rfl,q _ (I.hok.fresh (Nat.le_refl _))⟩
 exact ⟨_,_,_,Heap.get?_push_size _ rfl⟩
theorem Ik:∀ (n:Nat) (lo:Int) (us:List Value),us.length=n->(∀ (j:Nat) (v:Value),us[j]?=some v->∃ t,v=.int (lo + j * 1) t)->Vals (eU lo n) us
 | 0,lo,[],_,_=>.nil
 | 0,lo,_ :: _,h,_=>by simp at h
 | n + 1,lo,[],h,_=>by simp at h
 | n + 1,lo,u :: us,h,hv=>by
  have e:eU lo (n + 1)=V.int lo :: eU (lo + 1) n:=by
   unfold eU
   rw [List.range_succ_eq_map,List.map_cons,List.map_map]
   congr 1
   ·simp
   ·apply List.map_congr_left
    intro i _
    simp only [Function.comp]
    congr 1
    push_cast
    omega
  rw [e]
  obtain ⟨t,ht⟩:=hv 0 u rfl
  refine .cons ⟨t,by rw [ht];simp⟩ (Ik n (lo + 1) us (by simpa using h) fun j v hj=>?_)
  obtain ⟨t',ht'⟩:=hv (j + 1) v hj
  refine ⟨t',ht'.trans ?_⟩
  congr 1
  omega
theorem qL (hc:X.calm=true):hJ X (.type "list") (fun xs H Q=>∃ p lo hi,xs=[.ref p]/\H p=some (.il lo hi)/\(-(2 ^ 62)<=lo/\lo < 2 ^ 62/\-(2 ^ 62)<=hi/\hi < 2 ^ 62)/\(hi - lo).toNat<=2 ^ 24 /\
  ∀ l,H l=none->Q (.ref l) (upd H l (.lst (eU lo (hi - lo).toNat)))):=by
 intro pins s σ H xs us Q I r h
 obtain ⟨p,lo,hi,rfl,hp,⟨b1,b2,b3,b4⟩,hz,q⟩:=h
 obtain ⟨u,rfl,ru⟩:=vals1 r
 cases ru
 obtain ⟨t,t',t'',e⟩:=(show cK X.prog X.w H s.heap p (.il lo hi) from I.hok p _ hp)
 refine call_list_range (a:=lo) (b:=hi) (c:=1) (n:=(hi - lo).toNat) (I.ok.hd hc) (show IsRange s.heap p lo hi 1 t t' t'' from e) (small_one b1 b2 b3 b4) (by rw [rangeSize_one];split <;> omega) hz fun h' tk acc c kp hD hI=>?_
 refine ⟨.ref s.heap.objs.size,_,I.laid (t':=tk) (o:=.lst (eU lo (hi - lo).toNat)) kp (Nat.le_refl _) ?_,rfl,q _ (I.hok.fresh (Nat.le_refl _))⟩
 refine ⟨by rw [L9];exact Nat.le_trans hz (by decide),acc.toList,c,Ik _ _ _ (by rw [Array.length_toList];exact hI.1) fun j v hj=>hI.2 j v (by rw [<- hj,Array.getElem?_toList]),by simpa using hD⟩
end
mutual
inductive Rep (K:PySem.W.Frag) (H:Hp):V->PyData->Prop
 | non:Rep K H .non .none
 | bl (b:Bool):Rep K H (.bl b) (.bool b)
 | int (i:Int):Rep K H (.int i) (.int i)
 | str (x:Str):Rep K H (.str x) (.str x)
 | tup {a:Addr} {xs:List V} {ds:List PyData}:eN K H a xs->gy K H xs ds->Rep K H (.ref a) (.tuple ds)
 | lst {a:Addr} {xs:List V} {ds:List PyData}:iR K H a xs->gy K H xs ds->Rep K H (.ref a) (.list ds)
inductive gy (K:PySem.W.Frag) (H:Hp):List V->List PyData->Prop
 | nil:gy K H [] []
 | cons {v:V} {vs:List V} {d:PyData} {ds:List PyData}:Rep K H v d->gy K H vs ds->gy K H (v :: vs) (d :: ds)
end
section
variable {X:Cx} {pins:List (Addr×Obj)} {σ:St} {H:Hp} {s:Shared}
mutual
theorem Rep.reads (I:Inv X pins σ H s):∀ {v:V} {d:PyData} {u:Value},Rep X.K H v d->RelV v u->∃ as,Reads s.heap u d as
 | _,_,_,.non,r=>by cases r;exact ⟨_,.none⟩
 | _,_,_,.bl b,r=>by cases r;exact ⟨_,.bool b⟩
 | _,_,_,.int i,r=>by obtain ⟨t,rfl⟩:=r;exact ⟨_,.int i t⟩
 | _,_,_,.str x,r=>by obtain ⟨t,rfl⟩:=r;exact ⟨_,.str x t⟩
 | _,_,_,.tup q rs,r=>by
  cases r
  obtain ⟨its,rv,⟨o,e,c,n,hd⟩,_⟩:=I.tuple q
  obtain ⟨as,ra⟩:=gy.reads I rs rv
  exact ⟨_,.tuple e c hd (by simpa using ra)⟩
 | _,_,_,.lst q rs,r=>by
  cases r
  obtain ⟨its,rv,pl,_⟩:=I.list q
  obtain ⟨o,e,c,n,hd⟩:=pl.isList
  obtain ⟨as,ra⟩:=gy.reads I rs rv
  exact ⟨_,.list e c hd (by simpa using ra)⟩
theorem gy.reads (I:Inv X pins σ H s):∀ {vs:List V} {ds:List PyData} {us:List Value},gy X.K H vs ds->Vals vs us->∃ as,ReadsAll s.heap us ds as
 | _,_,_,.nil,r=>by cases r;exact ⟨_,.nil⟩
 | _,_,_,.cons h t,r=>by
  cases r with
  | cons r1 r2 =>
   obtain ⟨as,h1⟩:=Rep.reads I h r1
   obtain ⟨bs,h2⟩:=gy.reads I t r2
   exact ⟨_,.cons h1 h2⟩
end
def qM (K:PySem.W.Frag) (neg:Bool):R2:=fun x y H Q=>∃ d e,Rep K H x d/\Rep K H y e/\PyData.canLay0 d=true/\PyData.canLay0 e=true/\min d.depth e.depth<=60/\Q (.bl (if neg then !PyData.eqv d e else PyData.eqv d e)) H
theorem Il (hu:X.A.units + 64 < cLine):jG X (compareOp .Eq) (qM X.K false):=by
 intro pins s σ H x y v u Q I rx ry h
 obtain ⟨d,e,hd,he,c1,c2,dp,q⟩:=h
 obtain ⟨as,ra⟩:=hd.reads I rx
 obtain ⟨bs,rb⟩:=he.reads I ry
 exact SeqAt.eqOverData X.prog X.w X.A X.xe s v u d e as bs _ ra rb c1 c2 (by omega) ⟨.bl _,H,I,rfl,q⟩
theorem qN (hu:X.A.units + 64 < cLine):jG X (compareOp .NotEq) (qM X.K true):=by
 intro pins s σ H x y v u Q I rx ry h
 obtain ⟨d,e,hd,he,c1,c2,dp,q⟩:=h
 obtain ⟨as,ra⟩:=hd.reads I rx
 obtain ⟨bs,rb⟩:=he.reads I ry
 exact SeqAt.neOverData X.prog X.w X.A X.xe s v u d e as bs _ ra rb c1 c2 (by omega) ⟨.bl _,H,I,rfl,q⟩
end
section
variable {K:PySem.W.Frag} {H:Hp}
def cc (ns:List Int):List PyData:=ns.map PyData.int
theorem gy.ints:∀ (ns:List Int),gy K H (ns.map V.int) (cc ns)
 | []=>.nil
 | n :: r=>.cons (.int n) (gy.ints r)
theorem qO:∀ (ns:List Int),PyData.canLayAll0 (cc ns)=true
 | []=>rfl
 | n :: r=>by show (true && PyData.canLayAll0 (cc r))=true;rw [qO r];rfl
theorem uL:∀ (ns:List Int),PyData.depthAll (cc ns)=0
 | []=>rfl
 | n :: r=>by show max 0 (PyData.depthAll (cc r))=0;rw [uL r];rfl
theorem uM:∀ (ns ms:List Int),PyData.eqvAll (cc ns) (cc ms)=decide (ns=ms)
 | [],[]=>rfl
 | [],_ :: _=>rfl
 | _ :: _,[]=>rfl
 | n :: ns,m :: ms=>by
  show ((n == m) && PyData.eqvAll (cc ns) (cc ms))=decide (n :: ns=m :: ms)
  rw [uM ns ms]
  by_cases h:n=m
  ·subst h;simp
  ·simp [h]
end
end L2
namespace L2
open PySem PySem.Spec PyProof.Rows
structure Def (K:PySem.W.Frag) (mg:Str->Option Value) (x:Str) (st:Stmt) (ps:List Str) (f:Addr) (fd:FuncData):Prop where
 F:Ct K x x st f fd
 be:∀ us:List Value,us.length=ps.length->bindArgs fd ⟨us,[]⟩=pure (ps.zip us)
 m:mg x=some (.ref f)
theorem Def.b {K:PySem.W.Frag} {mg:Str->Option Value} {x:Str} {st:Stmt} {ps:List Str} {f:Addr} {fd:FuncData} (D:Def K mg x st ps f fd):Binds K fd ps []:=.all D.be
theorem gg {K:PySem.W.Frag} {h:Heap} {mg:Str->Option Value} (X:K.In h) (G:h.Ns mainGlobals mg) {x:Str} {st:Stmt} {ps:List Str} {f:Addr} {oc:Value} {od an:Option Addr} {osl:Array (Option Value)} {kV doc pm cdv ct:Value}
  (hb:∀ (kV doc pm:Value) (an:Option Addr) (cdv ct:Value) (us:List Value),us.length=ps.length->bindArgs (PySem.W.fnOf x x (jN st) (iS st) (av st) .none kV doc pm an cdv ct) ⟨us,[]⟩=pure (ps.zip us))
  (a:PySem.W.nsIn K mainGlobals x=some (some (.ref f))) (l:K.lookup f=some ⟨oc,od,.func (PySem.W.fnOf x x (jN st) (iS st) (av st) .none kV doc pm an cdv ct),osl⟩)
  (c:PySem.W.codeIn K cdv x=true) (k:PySem.W.keepIn K (.ref f)=true):∃ f fd,Def K mg x st ps f fd :=
 ⟨f,_,uH l c k,hb kV doc pm an cdv ct,PySem.W.mg_of X G a⟩
theorem Def.qP {K:PySem.W.Frag} {mg:Str->Option Value} {x p:Str} {st:Stmt} {f:Addr} {fd:FuncData} (D:Def K mg x st [p] f fd) (s:Shared) (u:Value):BindsTo s fd ⟨[u],[]⟩ [(p,u)]:=.of_eq (D.be [u] rfl)
theorem qj {K:PySem.W.Frag} {h:Heap} {mg:Str->Option Value} (X:K.In h) (G:h.Ns mainGlobals mg) {x:Str} (z:PySem.W.nsIn K mainGlobals x=some none):mg x=none:=PySem.W.mg_none_of X G z
theorem zg {n j:Nat} (h:j < n):kI n (j:Int)=some j:=by
 unfold kI
 rw [if_pos (by omega),if_pos (by omega)]
 simp
theorem uN {α:Type} {xs:List α} {i:Int} (h0:0<=i) (h1:i < xs.length):∃ v,iu xs i=some v/\v∈xs:=by
 have hi:i.toNat < xs.length:=by omega
 refine ⟨xs[i.toNat],?_,List.getElem_mem hi⟩
 have:=y2 (xs:=xs) (j:=i.toNat) (v:=xs[i.toNat]) (by simp [hi])
 rwa [Int.toNat_of_nonneg h0] at this
theorem dT {c:Prop} [Decidable c] (h:decide c=true):c:=of_decide_eq_true h
end L2
namespace L2
open PySem PySem.Spec PyProof.Rows
section
variable {prog:Program} {w:World} {A:Around} {E:Value->Shared->Prop} {s:Shared}
end
section
variable {X:Cx} {e:Expr} {te:TE} {pos p0 p1 p2:Pos} {j:Nat}
def Im (X:Cx) (r:V->Hp->VK->Prop):Prop :=
 ∀ (pins:List (Addr×Obj)) (s:Shared) (σ:St) (H:Hp) (x:V) (v:Value) (sl:Addr) (u:Tok) (Q:VK),Inv X pins σ H s->RelV x v->s.heap.IsSliceOf sl .none .none (.int (-1) u)->r x H Q ->
  ∃ T id,typeLookup (.type T) "__getitem__" = pure (some (.builtin id))/\s.TypeIs v T/\wpAny (model X.prog X.w) X.A (getItem v (.ref sl)) (EP X pins σ Q) X.xe s
theorem uO {r:V->Hp->VK->Prop} (hr:Im X r) (he:PE X e te):PE X (.Subscript e (.Slice none none (some (.UnaryOp .USub (.Constant (.int 1) j p1) p0)) p2) pos) (fun σ H Q=>te σ H fun x H1=>r x H1 Q):=by
 intro pins s σ H Q I h
 refine Subscript_ (cH (he pins s σ H _ I h) fun v s1 ⟨x,H1,I1,r1,q1⟩=>?_)
 refine wpAny_Slice ?_
 rw [evalPart_none]
 refine wpAny_pure (wpAny_pure ?_)
 rw [evalPart_some]
 refine cH ((rO (X:=X) rQ (aO (i:=1) (j:=j) (pos:=p1)) (pos:=p0)) pins s1 σ H1 (fun y H2=>y=.int (-1)/\H2=H1) I1 ⟨1,rfl,rfl,rfl⟩) fun w2 s3 ⟨y,H3,I3,r3,e3,e4⟩=>?_
 subst e3 e4
 obtain ⟨u,rfl⟩:=r3
 have I4:Inv X pins σ H3 { s3 with heap:=s3.heap.push { cls:=.type "slice",data:=.fields #[.none,.none,.int (-1) u] } }:=I3.kept (t':=s3.toks) fun b ob q=>Heap.get?_push_of_some _ q
 obtain ⟨T,id,hT,ht,hg⟩:=hr pins { s3 with heap:=s3.heap.push { cls:=.type "slice",data:=.fields #[.none,.none,.int (-1) u] } } σ H3 x v s3.heap.objs.size u Q I4 r1 (Heap.IsSliceOf.new ..) q1
 show wpAny (model X.prog X.w) X.A (subscriptTail e (.Slice none none (some (.UnaryOp .USub (.Constant (.int 1) j p1) p0)) p2) v (.ref s3.heap.objs.size)) (EP X pins σ Q) X.xe { s3 with heap:=s3.heap.push { cls:=.type "slice",data:=.fields #[.none,.none,.int (-1) u] } }
 exact tail_any (ops:=[v,.ref s3.heap.objs.size]) ht hT hg (by with_unfolding_all rfl)
theorem Ma:Im X (fun x H Q=>∃ a xs,x=.ref a/\iR X.K H a xs/\∀ p,H p=none->Q (.ref p) (upd H p (.lst xs.reverse))):=by
 intro pins s σ H x v sl u Q I rx hs h
 obtain ⟨a,xs,rfl,hx,q⟩:=h
 cases rx
 obtain ⟨its,r,ht,hz⟩:=I.list hx
 have hlen:=r.length
 refine ⟨"list",_,slot_list_getitem.lookup,ht.isList.typeIs,?_⟩
 refine wpAny_getItem_list_slice ht.isList hs .none .none (.int (-1) u) (by simp) ?_ (by rw [List.size_toArray];omega)
 rw [PySem.W.krv_pick]
 refine ⟨.ref s.heap.objs.size,_,I.laid (t':=s.toks) (o:=.lst xs.reverse) (fun b ob q=>Heap.get?_push_of_some _ q) (Nat.le_refl _) ?_,rfl,q _ (I.hok.fresh (Nat.le_refl _))⟩
 exact ⟨by rw [List.length_reverse];exact hz,_,0,r.reverse,Heap.get?_push_size _ rfl⟩
end
end L2
namespace L2
open PySem PySem.Spec PyProof.Rows
section
variable {K:PySem.W.Frag} {f:Addr} {H0:Hp} {σ:St} {i:Nat} {t u ta tb:TE} {R R':V->Hp->Prop} {P P' P2:Int->Prop} {L M:Nat}
end
end L2
namespace L2
open PySem PySem.Spec PyProof.Rows
theorem zh:∀ (names:List (Str×NameKind)) (n:Nat) (acc:List (Str×Addr)),cellsFrom n names acc=cellsFrom n names [] ++ acc
 | [],_,_=>rfl
 | (x,k) :: r,n,acc=>by
  show (if k == .cell then cellsFrom (n + 1) r ((x,n) :: acc) else cellsFrom n r acc)=(if k == .cell then cellsFrom (n + 1) r [(x,n)] else cellsFrom n r []) ++ acc
  by_cases hk:(k == NameKind.cell)=true
  ·rw [if_pos hk,if_pos hk,zh r (n + 1) ((x,n) :: acc),zh r (n + 1) [(x,n)],List.append_assoc];rfl
  ·rw [if_neg hk,if_neg hk];exact zh r n acc
theorem E3 {x:Str} {c:Addr}:∀ (names:List (Str×NameKind)) (n:Nat),(x,c)∈cellsFrom n names []->(x,NameKind.cell)∈names/\n<=c
 | [],_,h=>nomatch h
 | (y,k) :: r,n,h=>by
  have h':(x,c)∈(if k == .cell then cellsFrom (n + 1) r [(y,n)] else cellsFrom n r []):=h
  by_cases hk:(k == NameKind.cell)=true
  ·rw [if_pos hk,zh] at h'
   rcases List.mem_append.mp h' with h' | h'
   ·obtain ⟨h1,h2⟩:=E3 r (n + 1) h'
    exact ⟨List.mem_cons_of_mem _ h1,by omega⟩
   ·have e:(x,c)=(y,n):=by simpa using h'
    cases e
    have e2:k=NameKind.cell:=by simpa using hk
    subst e2
    exact ⟨List.mem_cons_self,Nat.le_refl _⟩
  ·rw [if_neg hk] at h'
   obtain ⟨h1,h2⟩:=E3 r n h'
   exact ⟨List.mem_cons_of_mem _ h1,h2⟩
theorem E4 {env:Env} (f:Str×NameKind->List (Str×Addr)->Sem (ForInStep (List (Str×Addr))))
  (hf:∀ name kind cs,f (name,kind) cs=if kind == .free then (do let c <- cellOf env name;pure (.yield ((name,c) :: cs))) else pure (.yield cs)) :
  ∀ (names:List (Str×NameKind)) (acc:List (Str×Addr)),(∀ y∈names,y.2=NameKind.free->∃ c,env.cells.lookup y.1=some c) ->
   ∃ cl,(forIn names acc f:Sem (List (Str×Addr)))=pure cl/\(∀ n c,(n,c)∈cl->(n,c)∈acc\/(env.cells.lookup n=some c/\(n,NameKind.free)∈names))/\(∀ p∈acc,p∈cl)/\∀ n,(n,NameKind.free)∈names->∃ c,(n,c)∈cl
 | [],acc,_=>⟨acc,by rw [List.forIn_nil],fun n c h=>.inl h,fun p h=>h,fun n h=>nomatch h⟩
 | (x,k) :: r,acc,h=>by
  have hr:∀ y∈r,y.2=NameKind.free->∃ c,env.cells.lookup y.1=some c:=fun y hy=>h y (List.mem_cons_of_mem _ hy)
  by_cases hk:k=NameKind.free
  ·subst hk
   obtain ⟨c,hc⟩:=h (x,.free) List.mem_cons_self rfl
   have e:cellOf env x=pure c:=by unfold cellOf;rw [hc]
   obtain ⟨cl,e1,h1,h2,h3⟩:=E4 f hf r ((x,c) :: acc) hr
   refine ⟨cl,?_,fun n d hd=>?_,fun p hp=>h2 p (List.mem_cons_of_mem _ hp),fun n hn=>?_⟩
   ·rw [List.forIn_cons,hf,if_pos (by rfl),e]
    exact e1
   ·rcases h1 n d hd with q | ⟨q,q'⟩
    ·rcases List.mem_cons.mp q with q | q
     ·cases q;exact .inr ⟨hc,List.mem_cons_self⟩
     ·exact .inl q
    ·exact .inr ⟨q,List.mem_cons_of_mem _ q'⟩
   ·rcases List.mem_cons.mp hn with q | q
    ·cases q;exact ⟨c,h2 _ List.mem_cons_self⟩
    ·exact h3 n q
  ·obtain ⟨cl,e1,h1,h2,h3⟩:=E4 f hf r acc hr
   have hb:¬ ((k == NameKind.free)=true):=by simpa using hk
   refine ⟨cl,?_,fun n d hd=>?_,h2,fun n hn=>?_⟩
   ·rw [List.forIn_cons,hf,if_neg hb]
    exact e1
   ·rcases h1 n d hd with q | ⟨q,q'⟩
    ·exact .inl q
    ·exact .inr ⟨q,List.mem_cons_of_mem _ q'⟩
   ·rcases List.mem_cons.mp hn with q | q
    ·cases q;exact absurd rfl hk
    ·exact h3 n q
theorem Io {scope:Scope} {env:Env} (h:∀ y∈scope.names,y.2=NameKind.free->∃ c,env.cells.lookup y.1=some c) :
  ∃ cl,closureFor scope env=pure cl/\(∀ n c,(n,c)∈cl->env.cells.lookup n=some c/\(n,NameKind.free)∈scope.names)/\∀ n,(n,NameKind.free)∈scope.names->∃ c,(n,c)∈cl:=by
 have key:∀ (f:Str×NameKind->List (Str×Addr)->Sem (ForInStep (List (Str×Addr)))),(∀ name kind cs,f (name,kind) cs=if kind == .free then (do let c <- cellOf env name;pure (.yield ((name,c) :: cs))) else pure (.yield cs)) ->
   ∃ cl,((forIn scope.names [] f:Sem (List (Str×Addr))) >>= fun r=>pure r)=pure cl/\(∀ n c,(n,c)∈cl->env.cells.lookup n=some c/\(n,NameKind.free)∈scope.names)/\∀ n,(n,NameKind.free)∈scope.names->∃ c,(n,c)∈cl:=fun f hf=>by
  obtain ⟨cl,e,h1,_,h3⟩:=E4 f hf scope.names [] h
  refine ⟨cl,?_,fun n c hc=>(h1 n c hc).elim (fun z=>nomatch z) id,h3⟩
  rw [e]
  rfl
 simp only [closureFor]
 exact key _ fun name kind cs=>by cases hk:kind == NameKind.free <;> simp [hk]
theorem ltN {a b:Addr} (h:a < b):@LT.lt Nat _ a b:=h
theorem uf {a b:Addr} (h:@LT.lt Nat _ a b):a≠b:=Nat.ne_of_lt h
theorem Ip {a b:Addr} (h:@LT.lt Nat _ b a):a≠b:=Nat.ne_of_gt h
theorem Mb {M:Model} {A:Around} {E:Value->Shared->Prop} {s:Shared} {scope:Scope} {g:Addr} {cl:List (Str×Addr)} {q:Str} {env:Env} {Q:Env->Shared->Prop}
  (h:∀ h',h'.Ns s.heap.objs.size (fun _=>none)->(∀ b o,s.heap.get? b=some o->h'.get? b=some o)->CellsOk h' (s.heap.objs.size + 1) (cellsFrom (s.heap.objs.size + 1) scope.names []) ->
   Q { scope:=scope,locals:=s.heap.objs.size,globals:=g,cells:=cellsFrom (s.heap.objs.size + 1) scope.names cl,qual:=q,func:=none,code:=env.code,frame:=env.frame,builtins:=env.builtins } { s with heap:=h' }) :
  wpAny M A (newFunctionEnv scope g cl [] q none .none (some env)) Q E s:=by
 simp only [newFunctionEnv,Option.isSome_some,if_true]
 refine wpAny_bind (wpAny_alloc ?_)
 refine wpAny_bind (wpAny_layCells _ (fun name kind cells=>by cases hkc:kind == NameKind.cell <;> simp [hkc]) _ _ _ _ ?_)
 have ok:=cellsFrom_ok scope.names (s.heap.push { cls:=.type "dict",data:=.dict #[] }) (s.heap.objs.size + 1) [] ⟨fun _ _ hm=>(nomatch hm),List.Pairwise.nil⟩ (by rw [Heap.size_push];exact Nat.le_refl _)
 rw [Heap.size_push] at ok
 rw [show ({ s with heap:=s.heap.push { cls:=.type "dict",data:=.dict #[] } }:Shared).heap.objs.size=s.heap.objs.size + 1 from Heap.size_push ..]
 refine wpAny_bind ?_
 rw [List.forIn_nil]
 refine wpAny_pure (wpAny_pure ?_)
 exact h _ ((Heap.Ns.new s.heap (.type "dict")).keeps (pushCells_keeps _ _)) (fun b o e=>pushCells_keeps _ _ b o (Heap.get?_push_of_some _ e)) ok
def bg (X:Cx) (N:List Str) (scope:Scope) (cells:List (Str×Addr)) (C:Addr) (fp:List Addr) (s:Shared) (H:Hp):Cx where
 prog:=X.prog
 w:=X.w
 K:=X.K
 mg:=X.mg
 base:=X.base
 A:=X.A
 N:=N
 s₀:=s
 H₀:=H
 env:=compEnvC scope cells C X.env
 outer:=X.stack
 stack:=X.stack
 ex:=fp
 fn:=fun x=>decide (scope.names.lookup x=some .cell)
 calm:=X.calm
 pn:=[]
 xe:=fun _ _=>False
def zi (scope sc:Scope):Scope :=
 { scope with names:=scope.names.map fun (n,k)=>if (k == .free && sc.kind == .function && sc.names.lookup n == some .cell) then (n,.cell) else (n,k) }
structure zj (sc scope:Scope) (own fr:List Str):Prop where
 kind:scope.kind=.function
 nd:(own ++ fr).Nodup
 xE:(scope.names.map (·.1)).Nodup
 free:∀ y∈scope.names,y.2=.free->sc.names.lookup y.1=some .cell\/sc.names.lookup y.1=some .free
 E5:∀ x∈fr,scope.names.lookup x=some .free
structure eW (X:Cx) (scope:Scope) (own fr:List Str) (js:List Nat):Prop where
 c:zj X.env.scope scope own fr
 ix:js.map (fun j=>X.N[j]?)=fr.map some
theorem eW.kind {X:Cx} {scope:Scope} {own fr:List Str} {js:List Nat} (S:eW X scope own fr js):scope.kind=.function:=S.c.kind
theorem eW.xE {X:Cx} {scope:Scope} {own fr:List Str} {js:List Nat} (S:eW X scope own fr js):(scope.names.map (·.1)).Nodup:=S.c.xE
theorem eW.E5 {X:Cx} {scope:Scope} {own fr:List Str} {js:List Nat} (S:eW X scope own fr js):∀ x∈fr,scope.names.lookup x=some .free:=S.c.E5
theorem eW.free {X:Cx} {scope:Scope} {own fr:List Str} {js:List Nat} (S:eW X scope own fr js):∀ y∈scope.names,y.2=.free->X.env.kindOf y.1=some .cell\/X.env.kindOf y.1=some .free:=S.c.free
theorem zk {α:Type}:∀ {l:List (Str×α)} {n:Str} {c:α},(l.map (·.1)).Nodup->(n,c)∈l->l.lookup n=some c
 | (k,v) :: r,n,c,nd,h=>by
  obtain ⟨h1,h2⟩:=List.nodup_cons.mp nd
  rw [List.lookup_cons]
  rcases List.mem_cons.mp h with e | h
  ·cases e;simp
  ·have:(n == k)=false:=beq_eq_false_iff_ne.mpr fun e=>h1 (by rw [<- e];exact List.mem_map.mpr ⟨(n,c),h,rfl⟩)
   rw [this]
   exact zk h2 h
theorem Iq (scope:Scope) (env:Env) (x:Str):(relabel scope env).names.lookup x=none/\scope.names.lookup x=none \/
  ∃ k,scope.names.lookup x=some k/\(relabel scope env).names.lookup x=some (if (k == .free && env.scope.kind == .function && env.kindOf x == some .cell) then .cell else k):=by
 have key:∀ names:List (Str×NameKind),(names.map fun (n,k)=>if (k == NameKind.free && env.scope.kind == .function && env.kindOf n == some .cell) then (n,NameKind.cell) else (n,k)).lookup x=none/\names.lookup x=none \/
   ∃ k,names.lookup x=some k/\(names.map fun (n,k)=>if (k == NameKind.free && env.scope.kind == .function && env.kindOf n == some .cell) then (n,NameKind.cell) else (n,k)).lookup x=some (if (k == .free && env.scope.kind == .function && env.kindOf x == some .cell) then .cell else k):=by
  intro names
  induction names with
  | nil=>exact .inl ⟨rfl,rfl⟩
  | cons p r ih =>
   obtain ⟨n,k⟩:=p
   rw [List.map_cons]
   cases hx:x == n with
   | true =>
    have e:x=n:=by simpa using hx
    subst e
    refine .inr ⟨k,by simp [List.lookup_cons],?_⟩
    by_cases hc:(k == NameKind.free && env.scope.kind == .function && env.kindOf x == some .cell)=true
    ·simp only [if_pos hc];simp [List.lookup_cons]
    ·simp only [if_neg hc];simp [List.lookup_cons]
   | false =>
    have e1:∀ q:NameKind,(((n,q) :: (r.map fun (n,k)=>if (k == NameKind.free && env.scope.kind == .function && env.kindOf n == some .cell) then (n,NameKind.cell) else (n,k))).lookup x)=((r.map fun (n,k)=>if (k == NameKind.free && env.scope.kind == .function && env.kindOf n == some .cell) then (n,NameKind.cell) else (n,k)).lookup x):=fun q=>by rw [List.lookup_cons,hx]
    have e2:((n,k) :: r).lookup x=r.lookup x:=by rw [List.lookup_cons,hx]
    rw [e2]
    by_cases hc:(k == NameKind.free && env.scope.kind == .function && env.kindOf n == some .cell)=true
    ·simp only [if_pos hc];rw [e1];exact ih
    ·simp only [if_neg hc];rw [e1];exact ih
 exact key scope.names
def iw (n:Nat) (js:List Nat) (σ:St):St:=List.replicate n none ++ js.map fun j=>σ.getD j none
theorem Inv.zm {X:Cx} {pins:List (Addr×Obj)} {σ:St} {H:Hp} {s:Shared} {a:Addr} {o:HO} (I:Inv X pins σ H s) (f:j7 X pins H a) (new:cK X.prog X.w (upd H a o) s.heap a o):Inv X pins σ (upd H a o) s:=by
 obtain ⟨f0,f1,f2,f3,f4,f5⟩:=f
 have ne:∀ b u,H b=some u->b≠a:=fun b u e z=>by rw [z,f0] at e;cases e
 refine I.step (h':=s.heap) (H':=upd H a o) (g':=s.gens) (d':=s.drawn) (t':=s.toks) (ch:=[a]) (fun b hb=>?_) (fun b u _ _ _ e _=>e) (fun b u _ _ _ e _=>⟨u.slots,e⟩) (fun b u hb e n=>?_) (fun b u _ e=>⟨u,e⟩)
  (fun b xs e=>by rw [iQ (ne b _ e)];exact e) (fun b u xs e=>by rw [iQ (ne b _ e)];exact e) (fun b ps e=>⟨#[],by rw [iQ (ne b _ e),e];simp⟩) (fun m hm=>hm) (fun b u e=>?_) I.bare
 ·have e:b=a:=by simpa using hb
  subst e
  exact ⟨f3,f1,f4,f5⟩
 ·rw [iQ (fun z=>hb (by simp [z]))];exact n
 ·by_cases hb:b=a
  ·subst hb;rw [oR] at e;cases e;exact new
  ·rw [iQ hb] at e
   exact (I.hok b u e).stay (fun c v _ q=>q) (fun c q=>by rw [iQ (ne c _ q)];exact q) fun c xs q=>by rw [iQ (ne c _ q)];exact q
def PF (X:Cx) (ifs:List Expr) (t:TT):Prop :=
 ∀ (pins:List (Addr×Obj)) (s:Shared) (σ:St) (H:Hp) (Q:Bool->Hp->Prop),Inv X pins σ H s->t σ H Q ->
  wpAny (model X.prog X.w) X.A (forIn ifs true fun c r=>if r=true then do let ok <- isTrue c X.env (eval c X.env);pure (ForInStep.yield ok) else pure (ForInStep.yield r)) (TP X pins σ Q) X.xe s
theorem Cu {X:Cx}:PF X [] (fun _ H Q=>Q true H):=fun _ _ _ H _ I h=>wpAny_tests_nil ⟨H,I,h⟩
theorem E6 {X:Cx} {c:Expr} {t:TT} (h:PT X c t):PF X [c] t:=fun pins s σ H Q I hw=>wpAny_tests_one (h pins s σ H Q I hw)
theorem Mc {prog:Program} {w:World} {A:Around} {R:Result->Shared->Prop} {s:Shared} {elt target iter:Expr} {ifs:List Expr} {scope:Scope} {pos:Pos} {it acc:Value} {env:Env} (I:Nat->Shared->Prop)
  (turn:∀ n s,I n s->wpAny (model prog w) A (pyNext it) (fun r s₁=>match r with
   | none=>R (.ok .next) s₁
   | some v=>wpAny (model prog w) A (letOwnedTupleGo target it v) (fun _ s₁'=>wpAny (model prog w) A (assign target env v) (fun _ s₂ =>
     wpAny (model prog w) A (forIn ifs true fun c r=>if r=true then do let ok <- isTrue c env (eval c env);pure (ForInStep.yield ok) else pure (ForInStep.yield r)) (fun ok s₃ =>
      if ok=true then wpAny (model prog w) A (eval elt env) (fun x s₄ =>
       wpAny (model prog w) A (call (.builtin "list.append") [acc,x]) (fun _ s₅=>∃ m,m < n/\I m s₅) (fun _ _=>False) s₄) (fun _ _=>False) s₃
      else ∃ m,m < n/\I m s₃) (fun _ _=>False) s₂) (fun _ _=>False) s₁') (fun _ _=>False) s₁) (fun _ _=>False) s)
  (n:Nat) (h:I n s) :
  codeAny (model prog w) A (.compLoop (.ListComp elt [⟨target,iter,ifs,0⟩] scope pos) 0 it acc env) R s:=by
 refine codeAny_loop rfl I (fun n s hI=>?_) n h
 show wpAny _ A ((compTurn (.ListComp elt [⟨target,iter,ifs,0⟩] scope pos) 0 it acc env).onRaise (fun x=>do noteFrame x env;theTreesLotGoes x)) _ _ s
 refine wpAny_noted ?_
 rw [compTurn_list]
 refine wpAny_bind (wpAny_standAt (wpAny_bind (wpAny_mono (turn n s hI) (fun r s₁ h₁=>?_) fun _ _ h'=>h'.elim)))
 cases r with
 | none=>exact wpAny_pure h₁
 | some v =>
  refine wpAny_bind (wpAny_mono h₁ (fun _ s₁' h₁'=>?_) fun _ _ h'=>h'.elim)
  refine wpAny_bind (wpAny_mono h₁' (fun _ s₂ h₂=>wpAny_bind (wpAny_mono h₂ (fun ok s₃ h₃=>?_) fun _ _ h'=>h'.elim)) fun _ _ h'=>h'.elim)
  cases ok with
  | false=>exact wpAny_pure ⟨rfl,h₃⟩
  | true =>
   exact wpAny_bind (wpAny_bind (wpAny_mono h₃ (fun x s₄ h₄=>wpAny_bind (wpAny_mono h₄ (fun _ s₅ h₅=>wpAny_pure (wpAny_pure ⟨rfl,h₅⟩)) fun _ _ h'=>h'.elim)) fun _ _ h'=>h'.elim))
def uP (J:It) (n:Nat) (js:List Nat) (g:TG) (tc:TT) (te:TE) (σ:St) (H1:Hp) (Q:VK):Prop :=
 ∃ W:Nat->Nat->List V->St->Hp->Prop,(∃ m,W 0 m [] (iw n js σ) H1)/\∀ i m ys σ' H',W i m ys σ' H' ->
  ys.length < sizeLine/\((J.stop i H'/\∀ p,H' p=none->Q (.ref p) (upd H' p (.lst ys))) \/
   (J.go i H'/\∀ x H2,J.qG i H' x H2->g x σ' H2 fun σ2 H3=>tc σ2 H3 fun b H4=>if b=true then te σ2 H4 fun y H5=>∃ m',m' < m/\W (i + 1) m' (ys ++ [y]) σ2 H5 else ∃ m',m' < m/\W (i + 1) m' ys σ2 H4))
def pk (wi:TI) (n:Nat) (js:List Nat) (g:TG) (tc:TT) (te:TE):TE:=fun σ H Q=>wi σ H fun J H1=>uP J n js g tc te σ H1 Q
section
variable {X:Cx} {pins:List (Addr×Obj)} {σ:St} {tg iter elt:Expr} {ifs:List Expr} {scope:Scope} {pos:Pos} {own fr:List Str} {js:List Nat} {g:TG} {tc:TT} {te:TE} {wi:TI}
theorem Ir {H2:Hp} {s2:Shared} {it:Addr} {fp:List Addr} {tn:Nat->Heap->Prop} {J:It} {Q:VK} {E:Value->Shared->Prop} {cl:List (Str×Addr)} {RR:Value->Addr->Result->Shared->Prop}
  (hc:X.calm=true) (S:eW X scope own fr js) (hg:∀ cells C fp s H,PG (bg X (own ++ fr) scope cells C fp s H) tg g) (hf:∀ cells C fp s H,PF (bg X (own ++ fr) scope cells C fp s H) ifs tc) (he:∀ cells C fp s H,PE (bg X (own ++ fr) scope cells C fp s H) elt te)
  (I2:Inv X pins σ H2 s2) (T:Turn X.prog X.w X.K tg J fp it tn) (st2:tn 0 s2.heap) (f2:∀ b∈fp,j7 X pins H2 b)
  (nD:∀ n c,(n,c)∈cl->X.env.cells.lookup n=some c/\(n,NameKind.free)∈scope.names) (pq:∀ n,(n,NameKind.free)∈scope.names->∃ c,(n,c)∈cl)
  (W:Nat->Nat->List V->St->Hp->Prop) (m0:Nat) (w0:W 0 m0 [] (iw own.length js σ) H2)
  (turn:∀ i m ys σ' H',W i m ys σ' H'->ys.length < sizeLine/\((J.stop i H'/\∀ p,H' p=none->Q (.ref p) (upd H' p (.lst ys))) \/
   (J.go i H'/\∀ x H2,J.qG i H' x H2->g x σ' H2 fun σ2 H3=>tc σ2 H3 fun b H4=>if b=true then te σ2 H4 fun y H5=>∃ m',m' < m/\W (i + 1) m' (ys ++ [y]) σ2 H5 else ∃ m',m' < m/\W (i + 1) m' ys σ2 H4)))
  (fin:∀ (acc C:Addr) (H':Hp) (s':Shared) (v:V),v=.ref acc->Inv X pins σ H' s'->j7 X pins H' C->(∃ m,s'.heap.Ns C m)->Q v H'->RR (.ref acc) C (.ok .next) s') :
  wpAny (model X.prog X.w) X.A (newList []) (fun acc s3=>wpAny (model X.prog X.w) X.A (newFunctionEnv scope X.env.globals cl [] X.env.qual none .none (some X.env)) (fun cenv s4 =>
   codeAny (model X.prog X.w) X.A (.compStart (.ListComp elt [⟨tg,iter,ifs,0⟩] scope pos) 0 (.ref it) acc { cenv with scope:=relabel scope X.env }) (RR acc cenv.locals) s4) E s3) E s2:=by
 refine wpAny_newObj_type ?_
 refine Mb fun h4 hns Iu l9=>?_
 have hA:s2.heap.objs.size < (s2.heap.push { cls:=.type "list",data:=.seq ([]:List Value).toArray }).objs.size:=by rw [Heap.size_push];exact Nat.lt_succ_self _
 generalize hC:(s2.heap.push { cls:=.type "list",data:=.seq ([]:List Value).toArray }).objs.size=C at hns l9 hA ⊢
 generalize hac:s2.heap.objs.size=acc at hA ⊢
 have E7:acc≠C:=Nat.ne_of_lt hA
 have old:∀ b o,s2.heap.get? b=some o->h4.get? b=some o:=fun b o e=>Iu b o (Heap.get?_push_of_some _ e)
 have hacc:h4.get? acc=some { cls:=.type "list",data:=.seq ([]:List Value).toArray }:=Iu _ _ (by rw [<- hac];exact Heap.get?_push_size _ rfl)
 have E8:∀ x c,(x,c)∈cellsFrom (C + 1) scope.names []->h4.IsCell c none/\C + 1<=c/\scope.names.lookup x=some .cell:=fun x c h=>⟨(l9.empty x c h).1,(l9.empty x c h).2,zk S.xE (E3 _ _ h).1⟩
 have lk:∀ x c,(cellsFrom (C + 1) scope.names cl).lookup x=some c->(h4.IsCell c none/\C + 1<=c/\(x,c)∈cellsFrom (C + 1) scope.names [])\/(X.env.cells.lookup x=some c/\scope.names.lookup x=some .free):=fun x c h=>by
  rw [zh] at h
  rcases List.mem_append.mp (PySem.mem_of_lookup h) with q | q
  ·exact .inl ⟨(E8 x c q).1,(E8 x c q).2.1,q⟩
  ·exact .inr ⟨(nD x c q).1,zk S.xE (nD x c q).2⟩
 have E9:∀ x c,X.env.cells.lookup x=some c->c < s2.heap.objs.size:=fun x c h=>by
  obtain ⟨v,z⟩:=I2.cell x c h
  exact z.lt
 have nW:∀ x c,(cellsFrom (C + 1) scope.names cl).lookup x=some c->c≠C/\c≠acc/\H2 c=none/\∀ b∈fp,c≠b:=fun x c h=>by
  rcases lk x c h with ⟨_,h1,_⟩ | ⟨h1,_⟩
  ·refine ⟨Ip (by omega),Ip (by omega),I2.hok.fresh (by omega),fun b hb z=>?_⟩
   obtain ⟨o,e,_⟩:=T.obj 0 _ st2 b hb
   have:=ltN (Heap.lt_size e)
   rw [<- z] at this
   omega
  ·have:=ltN (E9 x c h1)
   exact ⟨uf (by omega),uf (by omega),I2.jg x c h1,fun b hb=>(f2 b hb).2.2.2.2.1 x c h1⟩
 have zo:∀ x,scope.names.lookup x=some .free->∃ c,X.env.cells.lookup x=some c/\(cellsFrom (C + 1) scope.names cl).lookup x=some c:=fun x h=>by
  obtain ⟨c,Iv⟩:=pq x (PySem.mem_of_lookup h)
  have hc1:=(nD x c Iv).1
  have hs:((cellsFrom (C + 1) scope.names cl).lookup x).isSome=true:=by
   refine PySem.W.cellsFrom_some scope.names (C + 1) cl (.inr ?_)
   cases q:cl.lookup x with
   | some d=>rfl
   | none =>
    exfalso
    have:∀ {l:List (Str×Addr)},(x,c)∈l->l.lookup x≠none:=by
     intro l
     induction l with
     | nil=>intro h;exact nomatch h
     | cons p r ih =>
      intro h z
      obtain ⟨k,v⟩:=p
      rw [List.lookup_cons] at z
      cases hb:x == k with
      | true=>rw [hb] at z;cases z
      | false =>
       rw [hb] at z
       rcases List.mem_cons.mp h with e | h
       ·cases e;simp at hb
       ·exact ih h z
    exact this Iv q
  obtain ⟨d,hd⟩:=Option.isSome_iff_exists.mp hs
  rcases lk x d hd with ⟨_,_,h2⟩ | ⟨h1,_⟩
  ·have:=(E8 x d h2).2.2
   rw [h] at this;cases this
  ·rw [hc1] at h1;cases h1
   exact ⟨c,hc1,hd⟩
 have Cv:∀ b∈fp,b≠C/\b≠acc:=fun b hb=>by
  obtain ⟨o,e,_⟩:=T.obj 0 _ st2 b hb
  have:=ltN (Heap.lt_size e)
  exact ⟨uf (by omega),uf (by omega)⟩
 have Md:(relabel scope X.env).kind=.function:=S.kind
 have ok:(bg X (own ++ fr) scope (cellsFrom (C + 1) scope.names cl) C fp s2 H2).Ok:=by
  refine ⟨I2.ok.mod,Md,I2.ok.glob,I2.ok.blt,?_,fun x y c h1 h2=>?_,fun x hx=>?_,fun x c hx h=>?_,I2.ok.hd,I2.ok.frames,.inl rfl,fun b hb=>⟨(Cv b hb).1,fun x c h=>(nW x c h).2.2.2 b hb⟩,I2.bs,Nat.le_trans I2.ok.rE I2.sz,fun b o e hb=>?_,fun b hb z=>?_,I2.stack,I2.nP⟩
  ·show s2.heap.objs.size<=C
   omega
  ·rcases lk x c h1 with ⟨_,q1,q2⟩ | ⟨q1,_⟩
   ·rcases lk y c h2 with ⟨_,r1,r2⟩ | ⟨r1,_⟩
    ·exact name_of_addr l9.apart q2 r2
    ·have:=ltN (E9 y c r1);omega
   ·rcases lk y c h2 with ⟨_,r1,r2⟩ | ⟨r1,_⟩
    ·have:=ltN (E9 x c q1);omega
    ·exact I2.ok.inj x y c q1 r1
  ·have hx':(relabel scope X.env).names.lookup x=some .cell\/(relabel scope X.env).names.lookup x=some .free:=hx
   rcases Iq scope X.env x with ⟨e,_⟩ | ⟨k,e1,e2⟩
   ·rcases hx' with z | z <;> (rw [e] at z;cases z)
   ·by_cases hk:k=.free
    ·subst hk
     obtain ⟨c,_,h⟩:=zo x e1
     exact ⟨c,h⟩
    ·have hk':k=.cell:=by
      have hb:(k == NameKind.free)=false:=beq_eq_false_iff_ne.mpr hk
      rw [hb] at e2
      simp only [Bool.false_and,Bool.false_eq_true,if_false] at e2
      rcases hx' with z | z
      ·rw [e2] at z;exact Option.some.inj z
      ·rw [e2] at z;exact absurd (Option.some.inj z) hk
     subst hk'
     exact Option.isSome_iff_exists.mp (PySem.W.cellsFrom_some scope.names (C + 1) cl (.inl e1))
  ·have hx':scope.names.lookup x=some .cell:=of_decide_eq_true hx
   show s2.heap.objs.size<=c
   rcases lk x c h with ⟨_,q,_⟩ | ⟨_,q⟩
   ·omega
   ·rw [hx'] at q;cases q
  ·rcases (f2 b hb).2.2.2.1 with z | z
   ·exact I2.ok.oW b o e z
   ·have h1:@LT.lt Nat _ b X.base.objs.size:=Heap.lt_size e
    have h2:=I2.ok.rE
    omega
  ·rcases List.mem_cons.mp (I2.lb b z) with e | e
   ·exact (f2 b hb).2.1 e
   ·exact (f2 b hb).2.2.1 e
 have I4:Inv (bg X (own ++ fr) scope (cellsFrom (C + 1) scope.names cl) C fp s2 H2) [(acc,{ cls:=.type "list",data:=.seq ([]:List Value).toArray })] (iw own.length js σ) H2 { s2 with heap:=h4 }:=by
  refine ⟨ok,rfl,I2.bare,Un.kept old,⟨_,hns,fun i x v e1 e2 e3=>?_⟩,fun x c h=>?_,I2.hok.fresh (by show s2.heap.objs.size<=C;omega),fun x c h=>(nW x c h).2.2.1,fun p hp=>?_,I2.hok.kept old,?_⟩
  ·have zp:(own ++ fr)[i]?=some x:=e1
   unfold iw at e2
   by_cases hi:i < own.length
   ·rw [List.getElem?_append_left (by simpa using hi),List.getElem?_replicate] at e2
    split at e2 <;> cases e2
   ·rw [List.getElem?_append_right (by simpa using hi),List.length_replicate,List.getElem?_map] at e2
    rw [List.getElem?_append_right (by omega)] at zp
    cases hj:js[i - own.length]? with
    | none=>rw [hj] at e2;cases e2
    | some j =>
     rw [hj] at e2
     have uQ:σ.getD j none=some v:=Option.some.inj e2
     have hN:X.N[j]?=some x:=by
      have q:=congrArg (fun l=>l[i - own.length]?) S.ix
      simp only [List.getElem?_map,hj,zp,Option.map_some] at q
      exact Option.some.inj q
     have hσ:σ[j]?=some (some v):=by
      rw [List.getD_eq_getElem?_getD] at uQ
      cases q:σ[j]? with
      | none=>rw [q] at uQ;cases uQ
      | some o=>rw [q] at uQ;exact congrArg some uQ
     have hfr:scope.names.lookup x=some .free:=S.E5 x (List.mem_of_getElem? zp)
     have hk:=S.free _ (PySem.mem_of_lookup hfr) rfl
     obtain ⟨m,_,hl⟩:=I2.loc
     obtain ⟨u,ru,lo⟩:=hl j x v hN hσ (by rcases hk with k | k;exact .inr (.inl k);exact .inr (.inr k))
     refine ⟨u,ru,.inr ⟨?_,?_⟩⟩
     ·rcases Iq scope X.env x with ⟨_,e⟩ | ⟨k,q1,q2⟩
      ·rw [hfr] at e;cases e
      ·rw [hfr] at q1;cases q1
       have Me:(compEnvC scope (cellsFrom (C + 1) scope.names cl) C X.env).kindOf x=some (if (NameKind.free == .free && X.env.scope.kind == .function && X.env.kindOf x == some .cell)=true then .cell else .free):=q2
       rw [show (bg X (own ++ fr) scope (cellsFrom (C + 1) scope.names cl) C fp s2 H2).env.kindOf x=_ from Me]
       split
       ·exact .inl rfl
       ·exact .inr rfl
     ·rcases lo with ⟨k,_⟩ | ⟨_,c,hc1,hc2⟩
      ·rcases hk with k' | k' <;> (rw [k] at k';cases k')
      ·obtain ⟨d,hd1,hd2⟩:=zo x hfr
       rw [hc1] at hd1;cases hd1
       exact ⟨c,hd2,hc2.keeps old⟩
  ·rcases lk x c h with ⟨q,_,_⟩ | ⟨q,_⟩
   ·exact ⟨_,q⟩
   ·obtain ⟨v,z⟩:=I2.cell x c q
    exact ⟨v,z.keeps old⟩
  ·have e:p=(acc,{ cls:=.type "list",data:=.seq ([]:List Value).toArray }):=by simpa [bg] using hp
   subst e
   refine ⟨hacc,I2.hok.fresh (by omega),E7,fun z=>?_,fun v z=>nomatch z⟩
   rcases List.mem_cons.mp (I2.lb acc z) with e | e
   ·have:=ltN I2.lt
    rw [<- e] at this
    omega
   ·exact I2.yp (by omega) e
  ·show (iw own.length js σ).length=(own ++ fr).length
   have q:=congrArg List.length S.ix
   simp only [List.length_map] at q
   unfold iw
   rw [List.length_append,List.length_replicate,List.length_map,List.length_append,q]
 have Fb:∀ {H':Hp} {ob:Obj},(∀ b∈fp,H' b=none)->∀ b∈fp,j7 (bg X (own ++ fr) scope (cellsFrom (C + 1) scope.names cl) C fp s2 H2) [(acc,ob)] H' b:=fun {H' ob} hn b hb =>
  ⟨hn b hb,(Cv b hb).1,fun z=>by
   rcases List.mem_cons.mp (I2.lb b z) with e | e
   ·exact (f2 b hb).2.1 e
   ·exact (f2 b hb).2.2.1 e,.inl hb,fun x c h=>(nW x c h).2.2.2 b hb,fun p hp=>by
   have e:p=(acc,ob):=by simpa [bg] using hp
   subst e
   exact fun z=>(Cv b hb).2 z.symm⟩
 have loop:codeAny (model X.prog X.w) X.A (.compLoop (.ListComp elt [⟨tg,iter,ifs,0⟩] scope pos) 0 (.ref it) (.ref acc) (compEnvC scope (cellsFrom (C + 1) scope.names cl) C X.env)) (RR (.ref acc) C) { s2 with heap:=h4 }:=by
  refine Mc (fun m s'=>∃ (i:Nat) (ys:List V) (its:List Value) (n:Nat) (σ':St) (H':Hp),Inv (bg X (own ++ fr) scope (cellsFrom (C + 1) scope.names cl) C fp s2 H2) [(acc,{ cls:=.type "list",data:=.seq its.toArray n })] σ' H' s'/\Vals ys its/\tn i s'.heap/\(∀ b∈fp,H' b=none)/\W i m ys σ' H') ?_ m0
   ⟨0,[],[],0,_,H2,I4,.nil,T.keep _ _ _ st2 fun b _ o e=>old b o e,fun b hb=>(f2 b hb).1,w0⟩
  rintro n s5 ⟨i,ys,its,en,σ5,H5,I5,rv,iq,Cn,w5⟩
  obtain ⟨hz,alt⟩:=turn i n ys σ5 H5 w5
  rcases alt with ⟨stop,qn⟩ | ⟨go,step⟩
  ·refine cH (T.done (bg X (own ++ fr) scope (cellsFrom (C + 1) scope.names cl) C fp s2 H2) rfl rfl rfl hc i _ s5 σ5 H5 _ I5 (Fb Cn) iq stop) fun r s6 ⟨hr,I6⟩=>?_
   subst hr
   show RR (.ref acc) C (.ok .next) s6
   have u:Un (frs X.stack) fp H2 H5 s2.heap s6.heap:=I6.base
   have J6:Inv X pins σ H5 s6:=I2.yt I6.os u I6.hok I6.bare fun b hb=>⟨(f2 b hb).2.2.2.1,(f2 b hb).2.1,(f2 b hb).2.2.2.2.1,(f2 b hb).2.2.2.2.2⟩
   have pacc:=I6.pin (acc,_) (List.mem_append_right _ List.mem_cons_self)
   have Fc:j7 X pins H5 acc:=I2.nB (by omega) pacc.2.1
   have fC:j7 X pins H5 C:=I2.nB (by omega) I6.free
   have K6:Inv X pins σ (upd H5 acc (.lst ys)) s6:=J6.zm Fc ⟨Nat.le_of_lt hz,its,en,rv,pacc.1⟩
   obtain ⟨m,hm,_⟩:=I6.loc
   exact fin acc C _ s6 (.ref acc) rfl K6 ⟨by rw [iQ E7.symm];exact fC.1,fC.2⟩ ⟨m,hm⟩ (qn acc pacc.2.1)
  ·refine cH (T.item (bg X (own ++ fr) scope (cellsFrom (C + 1) scope.names cl) C fp s2 H2) rfl rfl rfl hc i _ s5 σ5 H5 _ I5 (Fb Cn) iq go) fun r s6 ⟨u,hr,h6⟩=>?_
   subst hr
   refine cH h6 fun _ s7 ⟨x,H7,I7,r7,y7,qk,Mf⟩=>?_
   have Mg:=I7.pinned (Fb Mf) (T.obj _ _ qk)
   refine cH (hg _ _ _ _ _ _ s7 σ5 H7 x u _ Mg r7 (step x H7 y7)) fun _ s8 ⟨σ8,H8,I8,q8⟩=>?_
   refine cH (hf _ _ _ _ _ _ s8 σ8 H8 _ I8 q8) fun b s9 ⟨H9,I9,q9⟩=>?_
   have Cw:∀ {s':Shared} {σ':St} {H':Hp},Inv (bg X (own ++ fr) scope (cellsFrom (C + 1) scope.names cl) C fp s2 H2) ([(acc,{ cls:=.type "list",data:=.seq its.toArray en })] ++ lg fp s7.heap) σ' H' s'->tn (i + 1) s'.heap/\∀ b∈fp,H' b=none:=fun {s' σ' H'} I' =>
    ⟨T.keep _ _ _ qk fun b hb o e=>(I'.pin (b,o) (List.mem_append_right _ (List.mem_append_right _ (Cm hb e)))).1,fun b hb=>by
     obtain ⟨o,e,d⟩:=T.obj _ _ qk b hb
     exact (I'.pin (b,o) (List.mem_append_right _ (List.mem_append_right _ (Cm hb e)))).2.1⟩
   cases b with
   | false =>
    obtain ⟨m',hm,w9⟩:=q9
    exact ⟨m',hm,i + 1,ys,its,en,σ8,H9,I9.jL,rv,(Cw I9).1,(Cw I9).2,w9⟩
   | true =>
    refine cH (he _ _ _ _ _ _ s9 σ8 H9 _ I9 q9) fun y Fe ⟨yv,Ff,Cy,Mh,m',hm,Mi⟩=>?_
    have pacc:=Cy.pin (acc,_) (List.mem_append_right _ (List.mem_append_left _ List.mem_cons_self))
    have hlen:=rv.length
    refine wpAny_list_append_plain (items:=its.toArray) ⟨en,pacc.1⟩ (fun h11 ⟨Iw,Fg⟩ zq=>?_) (by simp only [List.size_toArray];omega)
    have cA:∀ x c,(cellsFrom (C + 1) scope.names cl).lookup x=some c->c≠acc:=fun x c h=>(nW x c h).2.1
    have Ia:Inv (bg X (own ++ fr) scope (cellsFrom (C + 1) scope.names cl) C fp s2 H2) [] σ8 Ff Fe:=Cy.kQ fun p hp=>nomatch hp
    have Ib:Inv (bg X (own ++ fr) scope (cellsFrom (C + 1) scope.names cl) C fp s2 H2) [] σ8 Ff { Fe with heap:=h11 }:=Ia.turned (it:=acc) (t':=Fe.toks) (fun b o hb e=>(zq.2 b hb).trans e) pacc.2.1 E7 (.inr (by show s2.heap.objs.size<=acc;omega)) cA fun p hp=>nomatch (show p∈([]:List (Addr×Obj)) from by simpa [bg] using hp)
    refine ⟨m',hm,i + 1,ys ++ [yv],its ++ [y],Iw,σ8,Ff,Ib.kQ fun p hp=>?_,rv.append (.cons Mh .nil),T.keep _ _ _ (Cw Cy).1 fun b hb o e=>(zq.2 b (Cv b hb).2).trans e,(Cw Cy).2,Mi⟩
    have e:p=(acc,{ cls:=.type "list",data:=.seq (its ++ [y]).toArray Iw }):=by simpa using hp
    subst e
    exact ⟨by simpa using Fg,pacc.2.1,pacc.2.2.1,pacc.2.2.2.1,fun v z=>nomatch z⟩
 exact codeAny_compStart_list loop (T.self X.A 0 _ _ _ (T.keep _ _ _ st2 fun b _ o e=>old b o e) loop)
theorem Cz (hc:X.calm=true) (S:eW X scope own fr js) (hi:PI X tg iter wi) (hg:∀ cells C fp s H,PG (bg X (own ++ fr) scope cells C fp s H) tg g) (hf:∀ cells C fp s H,PF (bg X (own ++ fr) scope cells C fp s H) ifs tc) (he:∀ cells C fp s H,PE (bg X (own ++ fr) scope cells C fp s H) elt te)
  (hs:∀ x,foldedSetIterable iter X.env x=pure x:=by intro _;rfl):PE X (.ListComp elt [⟨tg,iter,ifs,0⟩] scope pos) (pk wi own.length js g tc te):=by
 intro pins s σ H Q I h
 obtain ⟨cl,hcl,nD,pq⟩:=Io (scope:=scope) (env:=X.env) fun y hy hk=>I.ok.has y.1 (S.free y hy hk)
 rw [eval_ListComp]
 refine wpAny_comprehension_free (use:=none) rfl hs hcl S.kind (fun y hy hk=>by rw [<- hk];exact zk S.xE hy) (cH (hi pins s σ H _ I h) fun v s1 h1=>cH h1 fun itv s2 h2=>?_)
 obtain ⟨it,fp,tn,J,H2,e,I2,T,st2,f2,W,⟨m0,w0⟩,turn⟩:=h2
 subst e
 refine Ir (RR:=fun acc C=>compPost (model X.prog X.w) X.A X.xe none (EP X pins σ Q) acc C) hc S hg hf he I2 T st2 f2 nD pq W m0 w0 turn ?_
 intro acc C H' s' v hv I' fC ⟨m,hm⟩ q
 subst hv
 obtain ⟨f0,f1,Mj,f3,f4,f5⟩:=fC
 exact ⟨m,hm,fun h'' uR=>⟨.ref acc,H',I'.turned (it:=C) (t':=s'.toks) (fun b o hb e=>(uR.2 b hb).trans e) f0 f1 f3 f4 f5,rfl,q⟩⟩
theorem Fh {i:Nat} {x:Str} {pos' spos:Pos} (hc:X.calm=true) (hN:X.N.Nodup) (hx:X.N[i]?=some x) (hl:X.env.scope.names.lookup x=some .local) (S:eW X scope own fr js) (hi:PI X tg iter wi) (hg:∀ cells C fp s H,PG (bg X (own ++ fr) scope cells C fp s H) tg g) (hf:∀ cells C fp s H,PF (bg X (own ++ fr) scope cells C fp s H) ifs tc) (he:∀ cells C fp s H,PE (bg X (own ++ fr) scope cells C fp s H) elt te)
  (hsw:swapsWith (.ListComp elt [⟨tg,iter,ifs,0⟩] scope pos) (some (.Name x pos')) spos.line X.env=pure true:=by rfl)
  (hs:∀ x,foldedSetIterable iter X.env x=pure x:=by intro _;rfl):PS X (.Assign [.Name x pos'] (.ListComp elt [⟨tg,iter,ifs,0⟩] scope pos) spos) (qF (pk wi own.length js g tc te) (mK i)):=by
 intro pins s σ H D I h
 obtain ⟨cl,hcl,nD,pq⟩:=Io (scope:=scope) (env:=X.env) fun y hy hk=>I.ok.has y.1 (S.free y hy hk)
 rw [exec_Assign_Name_used _ _ _ _ hsw]
 refine wpAny_bind (wpAny_standAt (wpAny_bind ?_))
 show wpAny _ X.A (do let _ <- comprehension (.ListComp elt [⟨tg,iter,ifs,0⟩] scope pos) scope X.env _ (newList []) false (eval iter X.env) (some (assign (.Name x pos') X.env))) _ _ s
 refine wpAny_bind (wpAny_mono (wpAny_comprehension_free (use:=some (assign (.Name x pos') X.env)) (Q:=fun _ s'=>SP X pins D .next s') rfl hs hcl S.kind (fun y hy hk=>by rw [<- hk];exact zk S.xE hy)
  (cH (hi pins s σ H _ I h) fun v s1 h1=>cH h1 fun itv s2 h2=>?_)) (fun _ s' hq=>wpAny_pure (wpAny_pure hq)) fun _ _ e=>e)
 obtain ⟨it,fp,tn,J,H2,e,I2,T,st2,f2,W,⟨m0,w0⟩,turn⟩:=h2
 subst e
 refine Ir (Q:=fun v H'=>mK i v σ H' D.nx) (RR:=fun acc C=>compPost (model X.prog X.w) X.A X.xe (some (assign (.Name x pos') X.env)) (fun _ s'=>SP X pins D .next s') acc C) hc S hg hf he I2 T st2 f2 nD pq W m0 w0 turn ?_
 intro acc C H' s' v hv I' fC ⟨m,hm⟩ q
 subst hv
 obtain ⟨f0,f1,Mj,f3,f4,f5⟩:=fC
 show wpAny _ X.A (assign (.Name x pos') X.env (.ref acc)) _ _ _
 refine wpAny_assign_Name (Hh I' hN hx (.inl hl) (show RelV (.ref acc) (.ref acc) from rfl) (fun s'' Mk ⟨a,hs1,ha⟩=>?_) (.inr hl))
 have haC:a≠C:=by
  rcases ha with e | e
  ·rw [e];exact f1.symm
  ·exact f4 _ _ e
 exact ⟨m,hm.sameBut hs1 haC.symm,fun h'' uR=>⟨_,H',Mk.turned (it:=C) (t':=s''.toks) (fun b o hb e=>(uR.2 b hb).trans e) f0 f1 f3 f4 f5,q⟩⟩
end
end L2
namespace L2
open PySem PySem.Spec PyProof.Rows
section
variable {X:Cx}
end
section
variable {prog:Program} {w:World} {A:Around} {E:Value->Shared->Prop} {s:Shared}
end
section
variable {X:Cx}
end
mutual
def Fi:PyData->Bool
 | .none=>true
 | .bool _=>true
 | .int _=>true
 | .str _=>true
 | .list _=>false
 | .tuple xs=>oK xs
 | .dict _=>false
def oK:List PyData->Bool
 | []=>true
 | x :: xs=>Fi x && oK xs
end
section
variable {K:PySem.W.Frag} {ch:List Addr} {H H':Hp}
theorem Iy:∀ (ns:List Int),oK (cc ns)=true
 | []=>rfl
 | n :: r=>by show (true && oK (cc r))=true;rw [Iy r];rfl
end
def d6 (ns:List Int):PyData:=.tuple (cc ns)
theorem Ml (ns:List Int):Fi (d6 ns)=true:=by unfold d6;simp only [Fi];exact Iy ns
theorem Mm:∀ (rs:List (List Int)),oK (rs.map d6)=true
 | []=>rfl
 | r :: rs=>by rw [List.map_cons];simp only [oK];rw [Ml,Mm rs];rfl
theorem Fj:∀ (rs:List (List Int)),PyData.canLayAll0 (rs.map d6)=true
 | []=>rfl
 | r :: rs=>by
  show (PyData.canLayAll0 (cc r) && PyData.canLayAll0 (rs.map d6))=true
  rw [qO,Fj rs];rfl
theorem Iz:∀ (rs:List (List Int)),PyData.depthAll (rs.map d6)<=1
 | []=>Nat.zero_le _
 | r :: rs=>by
  show max (PyData.depthAll (cc r) + 1) (PyData.depthAll (rs.map d6))<=1
  have:=Iz rs
  rw [uL];omega
end L2
namespace L2
open PySem PySem.Spec PyProof.Rows
section
variable {X:Cx} {K:PySem.W.Frag}
theorem Mp (hK:X.K=K):y3 X (uz K):=by subst hK;exact nS
theorem Mq (hK:X.K=K):y3 X (uA K):=by subst hK;exact cM
theorem IA (hK:X.K=K):jG X (compareOp .NotIn) (ER K true):=by subst hK;exact ES
theorem Mr (hK:X.K=K) (hu:X.A.units + 64 < cLine):jG X (compareOp .NotEq) (qM K true):=by subst hK;exact qN hu
end
end L2
namespace L2
open PySem PySem.Spec PyProof.Rows
section
variable {prog:Program} {w:World} {A:Around} {E:Value->Shared->Prop} {s:Shared}
theorem Ms {j t:Addr} {i:Nat} {ys:Array Value} {y:Value} {Q:Value->Shared->Prop} (hj:s.heap.IsTupleIter j t i) (ht:s.heap.IsTuple t ys) (hy:ys[i]?=some y)
  (hQ:∀ h',h'.IsTupleIter j t (i + 1)->Heap.SameBut j s.heap h'->Q y { s with heap:=h' }):wpAny (model prog w) A (Builtin.SmallTypes.nextOf (.ref j)) Q E s:=by
 obtain ⟨r,hr,rc,rd⟩:=id hj
 obtain ⟨q,hq,_,nq,dq⟩:=ht
 unfold Builtin.SmallTypes.nextOf
 refine wpAny_bind (wpAny_callSpecial?_slot (name:=Str.ofString "__next__") hj.typeIs F.slot_tuple_iterator_next (wpAny_call_entry F.slot_tuple_iterator_next hj.typeIs F.entry_tuple_iterator_next ?_ (F.args_tuple_iterator_next_1 _)))
 show wpAny _ _ (PySem.field (.ref j) 0 >>= _) _ _ s
 refine wpAny_bind (wpAny_field hr rd (x:=.ref t) rfl ?_);show wpAny _ _ (if (Value.ref t == Value.none)=true then _ else _) _ _ s
 rw [if_neg (fun z:(Value.ref t == Value.none)=true=>Bool.false_ne_true z)];show wpAny _ _ (PySem.field (.ref j) 1 >>= _) _ _ s
 refine wpAny_bind (wpAny_field hr rd (x:=.int i 0) rfl ?_);show wpAny _ _ (seqItems? (.ref t) >>= _) _ _ s
 refine wpAny_bind (wpAny_seqItems hq dq ?_);simp only [Int.toNat_natCast,hy]
 refine wpAny_bind (wpAny_setField hr rd (by simp) (wpAny_pure ⟨y,rfl,wpAny_pure (hQ _ ⟨_,Heap.get?_update_self _ hr (Obj.isFreed_of_fields (Obj.data_mapFields rd _)),(Obj.cls_mapFields ..).trans rc,by rw [Obj.data_mapFields rd];simp [rawInt]⟩ (Heap.SameBut.update ..))⟩))
theorem Mt {j t:Addr} {i:Nat} {ys:Array Value} {Q:Value->Shared->Prop} (hh:A.handled=none) (hj:s.heap.IsTupleIter j t i) (ht:s.heap.IsTuple t ys) (hy:ys[i]?=none)
  (hE:∀ h' e,Heap.ExtBut j s.heap h'->(∃ o,h'.get? e=some o/\o.cls=.type "StopIteration")->E (.ref e) { s with heap:=h' }):wpAny (model prog w) A (Builtin.SmallTypes.nextOf (.ref j)) Q E s:=by
 obtain ⟨r,hr,rc,rd⟩:=id hj
 obtain ⟨q,hq,_,nq,dq⟩:=ht
 unfold Builtin.SmallTypes.nextOf
 refine wpAny_bind (wpAny_callSpecial?_slot (name:=Str.ofString "__next__") hj.typeIs F.slot_tuple_iterator_next (wpAny_call_entry F.slot_tuple_iterator_next hj.typeIs F.entry_tuple_iterator_next ?_ (F.args_tuple_iterator_next_1 _)))
 show wpAny _ _ (PySem.field (.ref j) 0 >>= _) _ _ s
 refine wpAny_bind (wpAny_field hr rd (x:=.ref t) rfl ?_);show wpAny _ _ (if (Value.ref t == Value.none)=true then _ else _) _ _ s
 rw [if_neg (fun z:(Value.ref t == Value.none)=true=>Bool.false_ne_true z)];show wpAny _ _ (PySem.field (.ref j) 1 >>= _) _ _ s
 refine wpAny_bind (wpAny_field hr rd (x:=.int i 0) rfl ?_);show wpAny _ _ (seqItems? (.ref t) >>= _) _ _ s
 refine wpAny_bind (wpAny_seqItems hq dq ?_);simp only [Int.toNat_natCast,hy]
 refine wpAny_bind (wpAny_rule (wpAny_bind (wpAny_setField hr rd (by simp) ?_)));show wpAny _ _ (newExc (.type "StopIteration") [] >>= _) _ _ _
 refine wpAny_bind ?_;simp only [newExc,newTuple]
 refine wpAny_bind (wpAny_newObj_type ?_ (by size_fits));refine wpAny_bind (m:=firstArgMember _ _) (wpAny_of_eq (a:=Value.none) (by first | rfl | (simp only [firstArgMember];rfl)) ?_)
 refine wpAny_newObj_type ?_ (by size_fits);simp only [raiseNew]
 refine wpAny_bind (wpAny_handled ?_);first | rw [show A.in1.handled=none from hh] | rw [hh]
 exact wpAny_bind (wpAny_pure (wpAny_throw (hE _ _ (((Heap.SameBut.update ..).extBut.push _).push _) ⟨_,Heap.get?_push_size _ rfl,rfl⟩)))
end
theorem pz {prog:Program} {w:World} {A:Around} (hh:A.handled=none) (j t:Addr) (hne:t≠j) (ys:Array Value) :
  Draws prog w A j [j,t] ys.size (fun i v=>ys[i]?=some v) (fun i h=>h.IsTupleIter j t i/\h.IsTuple t ys) where
 live:=fun _ _ st=>let ⟨o,ho,_⟩:=st.1;⟨o,ho⟩
 frame:=fun _ _ _ st k=>⟨st.1.at fun o e=>k j (by simp) o e,let ⟨o,e,r⟩:=st.2;⟨o,k t (by simp) o e,r⟩⟩
 item:=fun i s Q E hi st hQ=>Ms st.1 st.2 (y:=ys[i]) (by simp [hi]) fun h' a b=>hQ _ h' s.toks (by simp [hi]) ⟨a,st.2.extBut b.extBut hne⟩ b
 done:=fun s Q E st hE=>Mt hh st.1 st.2 (by simp) hE
theorem Mu (l:Addr) (items:Array Value) (n:Nat) (dct:Option Addr) (sl:Array (Option Value)) :
  Meets (Builtin.«enumerate.__new__» ⟨[.type "enumerate",.ref l],[]⟩) (fun _ R s=>s.heap.get? l=some { cls:=.type "tuple",dict:=dct,data:=.seq items n,slots:=sl } /\
   R (.ok (.ret (.ref (s.heap.push { cls:=.type "tuple_iterator",data:=.fields #[.ref l,.int 0 0] }).objs.size)))
    { s with heap:=(s.heap.push { cls:=.type "tuple_iterator",data:=.fields #[.ref l,.int 0 0] }).push { cls:=.type "enumerate",data:=.fields #[.none,.bool false,.ref s.heap.objs.size,rawInt 0,.none,.none] } }) :=
 .of_wp fun prog w A R s h=>by
  obtain ⟨hp,g,d,tk,os⟩:=s;obtain ⟨hl,h⟩:=h
  have hsub:=sub_enumerate
  have hL:Heap.IsTuple (Shared.heap ⟨hp,g,d,tk,os⟩) l items:=⟨_,hl,rfl,n,rfl⟩
  wp_walk using AutoSeq1.wpAny_loadPart' hl
  refine wpAny_stack_any fun st=>wpAny_pure ?_
  split
  ·rename_i c _ _ _ _ _
   cases (c == Value.type "enumerate") <;> (wp_walk using AutoSeq1.wpAny_loadPart' hl,wpAny_pyIter_tuple hL;exact ⟨_,rfl,h⟩)
  ·wp_walk using AutoSeq1.wpAny_loadPart' hl,wpAny_pyIter_tuple hL
   exact ⟨_,rfl,h⟩
section
variable {prog:Program} {w:World} {A:Around} {E:Value->Shared->Prop} {s:Shared}
theorem Mv {l:Addr} {ys:Array Value} {Q:Value->Shared->Prop} (ht:s.heap.IsTuple l ys)
  (h:∀ h',IsEnum h' (s.heap.objs.size + 1) s.heap.objs.size 0 .none->h'.IsTupleIter s.heap.objs.size l 0->h'.objs.size=s.heap.objs.size + 2 ->
   (∀ b o,s.heap.get? b=some o->h'.get? b=some o)->Q (.ref (s.heap.objs.size + 1)) { s with heap:=h' }):wpAny (model prog w) A (call (.type "enumerate") [.ref l]) Q E s:=by
 obtain ⟨⟨c,dct,dt,sl⟩,hl,hc,n,hd⟩:=ht
 cases (show c=.type "tuple" from hc)
 cases (show dt=.seq ys n from hd)
 refine callType_new F.called_enumerate (by decide) (F.typeCall_enumerate_1 _) (F.newCall_enumerate_1 _) (fun obj=>F.args_object_init_2 obj _) F.entry_enumerate_new (Mu l ys n dct sl) ⟨hl,?_⟩
 have z:(s.heap.push { cls:=.type "tuple_iterator",data:=.fields #[.ref l,.int 0 0] }).objs.size=s.heap.objs.size + 1:=Heap.size_push ..
 show _/\_;rw [z]
 have en:IsEnum ((s.heap.push { cls:=.type "tuple_iterator",data:=.fields #[.ref l,.int 0 0] }).push { cls:=.type "enumerate",data:=.fields #[.none,.bool false,.ref s.heap.objs.size,rawInt 0,.none,.none] }) (s.heap.objs.size + 1) s.heap.objs.size 0 .none:=by
  have g:=Heap.get?_push_size (s.heap.push { cls:=.type "tuple_iterator",data:=.fields #[.ref l,.int 0 0] }) (o:={ cls:=.type "enumerate",data:=.fields #[.none,.bool false,.ref s.heap.objs.size,rawInt 0,.none,.none] }) rfl
  rw [z] at g
  exact g
 exact ⟨⟨_,en,rfl⟩,h _ en ⟨_,Heap.get?_push_of_some _ (Heap.get?_push_size _ rfl),rfl,rfl⟩ (by rw [Heap.size_push,z]) fun b o e=>Heap.get?_push_of_some _ (Heap.get?_push_of_some _ e)⟩
end
section
variable {X:Cx} {pins:List (Addr×Obj)} {σ:St} {H:Hp} {s:Shared} {h':Heap}
theorem Inv.qQ {t':Nat} {ch:List Addr} (I:Inv X pins σ H s) (k:∀ b o,b ∉ ch->s.heap.get? b=some o->h'.get? b=some o) (f:∀ b∈ch,j7 X pins H b):Inv X pins σ H { s with heap:=h',toks:=t' }:=by
 have yr:∀ b u,H b=some u->b ∉ ch:=fun b u e z=>by rw [(f b z).1] at e;cases e
 refine I.step (g':=s.gens) (d':=s.drawn) (ch:=ch) (fun b hb=>⟨(f b hb).2.2.2.1,(f b hb).2.1,(f b hb).2.2.2.2.1,(f b hb).2.2.2.2.2⟩) (fun b o _ _ hc e _=>k b o hc e) (fun b o _ _ hc e _=>⟨o.slots,k b o hc e⟩) (fun _ _ _ _ n=>n)
  (fun b o hc e=>⟨o,k b o hc e⟩) (fun _ _ e=>e) (fun _ _ _ e=>e) (fun b ps e=>⟨#[],by rw [e];simp⟩) (fun m hm=>?_) (fun b u e=>?_) I.bare
 ·obtain ⟨o,es,ep,ho,r⟩:=hm
  exact ⟨o,es,ep,k _ o (fun z=>(f _ z).2.1 rfl) ho,r⟩
 ·refine (I.hok b u e).stay (fun c v hc q=>k c v ?_ q) (fun _ q=>q) fun _ _ q=>q
  rcases hc with z | z
  ·rw [z];exact yr b u e
  ·exact yr c _ z
end
def IB (K:PySem.W.Frag) (a:Addr):It :=
 ⟨fun i H=>∃ xs x,eN K H a xs/\xs[i]?=some x,fun i H x H'=>∃ p y,x=.ref p/\H p=none/\H'=upd H p (.tup [.int i,y])/\∀ xs,eN K H a xs->xs[i]?=some y,fun i H=>∃ xs,eN K H a xs/\xs.length=i⟩
theorem Mw {P:Program} {w:World} {K:PySem.W.Frag} {es:List Expr} {x1} {pos:Pos} (a e it:Addr) (hne:e≠it) :
  Turn P w K (.Tuple es x1 pos) (IB K a) [e,it] e (fun i h=>(∃ old,IsEnum h e it i old)/\h.IsTupleIter it a i) where
 mem:=by simp
 obj:=fun i h st b hb=>by
  obtain ⟨⟨old,he⟩,o,e2,c,d⟩:=st
  rcases List.mem_cons.mp hb with rfl | hb
  ·exact ⟨_,he,fun v z=>by
    have z':Data.fields _=Data.cell v:=z
    cases z'⟩
  ·have q:b=it:=by simpa using hb
   subst q
   exact ⟨o,e2,fun v z=>by rw [d] at z;cases z⟩
 keep:=fun i h h' st k=>⟨let ⟨old,he⟩:=st.1;⟨old,k e (by simp) _ he⟩,st.2.at fun o q=>k it (by simp) o q⟩
 item:=by
  intro X hP hw hK hc i pins s σ H E I hf st hg
  subst hP hw hK
  obtain ⟨xs,x,hq,hx⟩:=hg
  obtain ⟨its,rv,p,hz⟩:=I.tuple hq
  obtain ⟨u,hu,ru⟩:=rv.get hx
  obtain ⟨⟨old,he⟩,hit⟩:=st
  have ht:s.heap.IsTuple a its.toArray:=p
  have Fm:a≠it:=fun z=>by
   obtain ⟨o,e1,c1,_⟩:=hit
   obtain ⟨o2,e2,c2,_⟩:=ht
   rw [z,e1] at e2;cases e2
   exact absurd (c1.symm.trans c2) (by simp)
  have Mx:e≠a:=fun z=>by
   obtain ⟨o2,e2,c2,_⟩:=ht
   rw [<- z,he] at e2;cases e2
   exact absurd c2 (by simp)
  have hl:=rv.length
  have hi:i < its.toArray.size:=by
   have:=List.getElem?_eq_some_iff.mp hu
   obtain ⟨q,_⟩:=this
   simpa using q
  refine wpAny_pyNext_enum_itemD (pz (A:=X.A.in1) (I.ok.hd hc) it a Fm its.toArray) he ⟨hit,ht⟩ hi hne (by simp [hne,Mx]) fun y h1 tk hy ho hst hT hsz kk=>?_
  have ey:y=u:=by
   have:its.toArray[i]?=some u:=by simpa using hu
   exact Option.some.inj (hy.symm.trans this)
  subst ey
  refine ⟨_,rfl,wpAny_letOwnedTupleGo_enum ho fun h2 Mz sb=>?_⟩
  have hel:@LT.lt Nat _ e s.heap.objs.size:=Heap.lt_size he
  have hil:@LT.lt Nat _ it s.heap.objs.size:=by obtain ⟨o,e1,_⟩:=hit;exact Heap.lt_size e1
  have MA:H s.heap.objs.size=none:=I.hok.fresh (Nat.le_refl _)
  have sb':Heap.SameBut e h1 h2:=sb
  have I1:Inv X pins σ (upd H s.heap.objs.size (.tup [.int i,x])) { s with heap:=s.heap.push { cls:=.type "tuple",data:=.seq #[.int i tk,y] },toks:=s.toks } :=
   I.laid (fun b u e=>Heap.get?_push_of_some _ e) (Nat.le_refl _) ⟨(by decide:2<=sizeLine),[.int i tk,y],.cons ⟨tk,rfl⟩ (.cons ru .nil),⟨_,Heap.get?_push_size _ rfl,rfl,rfl,_,rfl⟩⟩
  have nn:∀ b∈[e,it],@LT.lt Nat _ b s.heap.objs.size:=fun b hb=>by
   rcases List.mem_cons.mp hb with rfl | hb
   ·exact hel
   ·have q:b=it:=by simpa using hb
    rw [q];exact hil
  have hn:∀ b∈[e,it],upd H s.heap.objs.size (.tup [.int i,x]) b=none:=fun b hb=>by
   unfold upd
   rw [if_neg (Nat.ne_of_lt (nn b hb))]
   exact (hf b hb).1
  have I2:Inv X pins σ (upd H s.heap.objs.size (.tup [.int i,x])) { s with heap:=h2,toks:=tk + 1 }:=by
   refine Inv.qQ (s:={ s with heap:=s.heap.push { cls:=.type "tuple",data:=.seq #[.int i tk,y] },toks:=s.toks }) (h':=h2) I1 (ch:=[e,it]) (t':=tk + 1) (fun b o hb q=>?_) fun b hb=>⟨hn b hb,(hf b hb).2⟩
   have nb:b≠e/\b≠it:=by simpa using hb
   refine (sb'.2 b nb.1).trans ?_
   rcases Heap.get?_push_cases q with ⟨rfl,rfl⟩ | q
   ·exact hT
   ·exact kk b o nb.1 nb.2 q
  refine ⟨.ref s.heap.objs.size,_,I2,rfl,⟨_,x,rfl,MA,rfl,fun ys qR=>by rw [I.gb qR hq];exact hx⟩,⟨⟨y,?_⟩,?_⟩,hn⟩
  ·have:((i + 1:Nat):Int)=(i:Int) + 1:=by omega
   rw [this];exact Mz
  ·exact hst.1.extBut sb'.extBut (Ne.symm hne)
 done:=by
  intro X hP hw hK hc i pins s σ H E I hf st hg
  subst hP hw hK
  obtain ⟨xs,hq,hx⟩:=hg
  obtain ⟨its,rv,p,hz⟩:=I.tuple hq
  obtain ⟨⟨old,he⟩,hit⟩:=st
  have ht:s.heap.IsTuple a its.toArray:=p
  have Fm:a≠it:=fun z=>by
   obtain ⟨o,e1,c1,_⟩:=hit
   obtain ⟨o2,e2,c2,_⟩:=ht
   rw [z,e1] at e2;cases e2
   exact absurd (c1.symm.trans c2) (by simp)
  have hl:=rv.length
  have ei:its.toArray.size=i:=by simp;omega
  refine wpAny_pyNext_enum_endD (pz (A:=X.A.in1) (I.ok.hd hc) it a Fm its.toArray) he (by rw [ei];exact ⟨hit,ht⟩) fun h1 eb=>⟨rfl,?_⟩
  obtain ⟨f0,f1,f2,f3,f4,f5⟩:=hf it (by simp)
  exact I.turned (t':=s.toks) (fun b o hb q=>eb b o hb q) f0 f1 f3 f4 f5
 self:=fun _ _ _ _ _ st h=>let ⟨_,he⟩:=st.1;wpAny_pyIter_enum he h
def sm (K:PySem.W.Frag) (ta:TA):TI:=fun σ H R=>ta σ H fun vs H1=>∃ a,vs=[.ref a]/\(∃ xs,eN K H1 a xs)/\R (IB K a) H1
theorem IC {X:Cx} {es:List Expr} {x1} {p0:Pos} {l:Expr} {ta:TA} {p pos:Pos} (hg:Gl X "enumerate") (hm:X.mg "enumerate" = none) (ha:PA X [l] ta) (hs:starEach [l] X.env=[(false,eval l X.env)]:=by rfl) :
  PI X (.Tuple es x1 p0) (.Call (.Name "enumerate" p) [l] [] pos) (sm X.K ta):=by
 intro pins s σ H R I h
 refine Call_ (yu I hg hm boot_enumerate (PyProof.Rows.callWith_type1 (cH (ha pos pins s σ H _ I h) fun us s1 ⟨vs,H1,I1,r1,q1⟩=>?_) hs rfl))
 obtain ⟨a,e,⟨xs,hq⟩,q⟩:=q1
 subst e
 cases r1 with
 | cons r rr =>
  cases rr
  cases r
  obtain ⟨its,rv,p,hz⟩:=I1.tuple hq
  refine Mv (show s1.heap.IsTuple a its.toArray from p) fun h1 he hi hsz kk=>?_
  refine wpAny_pyIter_enum he ?_
  refine ⟨s1.heap.objs.size + 1,[s1.heap.objs.size + 1,s1.heap.objs.size],_,_,H1,rfl,I1.kept (t':=s1.toks) kk,Mw a _ _ (Nat.succ_ne_self _),⟨⟨_,he⟩,hi⟩,fun b hb=>?_,q⟩
  have hb':@LE.le Nat _ s1.heap.objs.size b:=by
   rcases List.mem_cons.mp hb with rfl | hb
   ·exact Nat.le_succ _
   ·have e:b=s1.heap.objs.size:=by simpa using hb
    rw [e];exact Nat.le_refl _
  exact I1.nB hb' (I1.hok.fresh hb')
end L2
namespace L2
open PySem PySem.Spec PyProof.Rows
section
open Sem (wp)
open PySem.AutoSeq1 (wpAny_loadPart')
open PySem.MeetsSeq PySem.MeetsSeq2 PySem.MeetsSeq3
end
section
variable {X:Cx} {K:PySem.W.Frag}
theorem MB {es:List Expr} {k:Nat} {t:o5} {n:Nat} {pos:Pos} (hK:X.K=K) (hc:X.calm=true) (h:yB X es t)
  (hn:(assignEach es X.env).length=n:=by rfl) (hst:(assignEach es X.env).findIdx? (·.1)=none:=by rfl):PG X (.Tuple es k pos) (uq K n t):=by subst hK;exact yF hc h hn hst
end
end L2
namespace L2
open PySem PySem.Spec PyProof.Rows
open Builtin.Str
section
variable {X:Cx} {K:PySem.W.Frag}
end
section
variable {X:Cx} {tg:Expr}
end
end L2
namespace L2
open PySem PySem.Spec PyProof.Rows
open Builtin.Str
section
variable {prog:Program} {w:World} {A:Around} {E:Value->Shared->Prop} {s:Shared}
end
set_option genInjectivity false in
inductive ZS where
 | tup (a:Addr) | lst (a:Addr) | str (x:Str)
def ZS.it (j:Addr) (i:Nat) (h:Heap):ZS->Prop
 | .tup a=>h.IsTupleIter j a i
 | .lst a=>h.IsListIter j a i
 | .str x=>∃ t,h.IsStrIter j "str_ascii_iterator" x t i\/h.IsStrIter j "str_iterator" x t i
def ZS.has (K:PySem.W.Frag) (H:Hp) (i:Nat) (v:V):ZS->Prop
 | .tup a=>∃ xs,eN K H a xs/\xs[i]?=some v
 | .lst a=>∃ xs,iR K H a xs/\xs[i]?=some v
 | .str x=>∃ c,x.cps[i]?=some c/\v=.str ⟨#[c]⟩
def ZS.fin (K:PySem.W.Frag) (H:Hp) (i:Nat):ZS->Prop
 | .tup a=>∃ xs,eN K H a xs/\xs.length=i
 | .lst a=>∃ xs,iR K H a xs/\xs.length=i
 | .str x=>x.cps.size=i
section
variable {X:Cx} {pins:List (Addr×Obj)} {σ:St} {H:Hp} {s:Shared}
end
theorem ZS.qS {X:Cx} {pins:List (Addr×Obj)} {σ:St} {H:Hp} {s:Shared} {src:ZS} {i:Nat} {x y:V} (I:Inv X pins σ H s) (a:src.has X.K H i x) (b:src.has X.K H i y):y=x:=by
 cases src with
 | tup p =>
  obtain ⟨xs,h1,e1⟩:=a
  obtain ⟨ys,h2,e2⟩:=b
  rw [I.gb h2 h1] at e2
  rw [e1] at e2
  exact (Option.some.inj e2).symm
 | lst p =>
  obtain ⟨xs,h1,e1⟩:=a
  obtain ⟨ys,h2,e2⟩:=b
  rw [I.mJ h2 h1] at e2
  rw [e1] at e2
  exact (Option.some.inj e2).symm
 | str z =>
  obtain ⟨c,h1,rfl⟩:=a
  obtain ⟨d,h2,rfl⟩:=b
  rw [h1] at h2
  cases h2
  rfl
def ZS.val (K:PySem.W.Frag) (H:Hp) (x:V):ZS->Prop
 | .tup a=>x=.ref a/\∃ xs,eN K H a xs
 | .lst a=>x=.ref a/\∃ xs,iR K H a xs
 | .str z=>x=.str z
end L2
namespace L2
open PySem PySem.Spec PyProof.Rows
section
variable {X:Cx} {K:PySem.W.Frag}
def eD (us:List Value) (ds:List PyData) (dx:PyData) (u:Value):Bool:=@decide (∃ (i:Nat) (d:PyData),us[i]?=some u/\ds[i]?=some d/\PyData.eqv d dx=true) (Classical.propDecidable _)
end
end L2
namespace L2
open PySem PySem.Spec PyProof.Rows
open Builtin.Str
theorem zt:Slot "reversed" "__next__" "reversed.__next__" :=
 .of (owner:="reversed") (n:="__next__") (by rw [typeLookup_type,builtinLookup_eq_fast];kernel_rfl) (by decide +kernel) (by decide +kernel) (by decide +kernel)
  (by first | exact .inl (by decide +kernel) | exact .inr (by decide +kernel)) (by rw [isSubtype_type];kernel_rfl)
theorem IE:Slot "reversed" "__iter__" "reversed.__iter__" :=
 .of (owner:="reversed") (n:="__iter__") (by rw [typeLookup_type,builtinLookup_eq_fast];kernel_rfl) (by decide +kernel) (by decide +kernel) (by decide +kernel)
  (by first | exact .inl (by decide +kernel) | exact .inr (by decide +kernel)) (by rw [isSubtype_type];kernel_rfl)
theorem IF:entryFor table "reversed.__next__" = some Builtin.«reversed.__next__»:=entryFor_of_tree (by kernel_rfl)
theorem IG (a:Value):argsOk "reversed.__next__" ⟨[a],[]⟩:=by unfold argsOk;kernel_rfl
theorem MC:entryFor table "reversed.__iter__" = some Builtin.«dict_keyiterator.__iter__» :=
 entryFor_alias (id':="dict_keyiterator.__iter__") (by kernel_rfl) (by first | rfl | decide +kernel) (by decide +kernel) (by kernel_rfl)
theorem MD (a:Value):argsOk "reversed.__iter__" ⟨[a],[]⟩:=by unfold argsOk;kernel_rfl
theorem ME:typeLookup (.type "tuple") "__reversed__" = pure none:=by rw [typeLookup_type,builtinLookup_eq_fast];kernel_rfl
theorem MF:typeLookup (.type "str") "__reversed__" = pure none:=by rw [typeLookup_type,builtinLookup_eq_fast];kernel_rfl
def kc (h:Heap) (a:Addr) (v:Value) (i:Int):Prop:=∃ o,h.get? a=some o/\o.cls=.type "reversed" /\ o.data=.fields #[v,rawInt i]
theorem kc.at {h h':Heap} {a:Addr} {v:Value} {i:Int} (x:kc h a v i) (e:∀ o,h.get? a=some o->h'.get? a=some o):kc h' a v i:=let ⟨o,ho,r⟩:=x;⟨o,e _ ho,r⟩
section
variable {prog:Program} {w:World} {A:Around} {E:Value->Shared->Prop} {s:Shared}
theorem kc.typeIs {a:Addr} {v:Value} {i:Int} (x:kc s.heap a v i):s.TypeIs (.ref a) "reversed" := let ⟨o,ho,hc,_⟩:=x;⟨o,ho,hc⟩
theorem IH {it:Addr} {v:Value} {i:Int} {Q:Value->Shared->Prop} (hit:kc s.heap it v i) (h:Q (.ref it) s):wpAny (model prog w) A (pyIter (.ref it)) Q E s:=by
 refine wpAny_pyIter_slot hit.typeIs IE (wpAny_call_entry IE hit.typeIs MC ?_ (MD _))
 show wpAny _ _ (ret (.ref it)) _ _ s
 exact wpAny_pure ⟨_,rfl,"reversed",_,hit.typeIs,zt.lookup,h⟩
theorem MG {it:Addr} {T gid:String} {v:Value} {y:Value->Prop} {i:Nat} {Q:Option Value->Shared->Prop} (hit:kc s.heap it v (i:Int)) (hT:s.TypeIs v T) (hg:typeLookup (.type T) "__getitem__" = pure (some (.builtin gid)))
  (hget:∀ (A':Around) (E':Value->Shared->Prop) (Q':Value->Shared->Prop) (tk:Tok) (n:Nat),(∀ z k,y z->Q' z { s with toks:=k })->wpAny (model prog w) A' (getItem v (.int i tk)) Q' E' { s with toks:=n })
  (hQ:∀ x h' k,y x->kc h' it v ((i:Int) - 1)->Heap.SameBut it s.heap h'->Q (some x) { s with heap:=h',toks:=k }):wpAny (model prog w) A (pyNext (.ref it)) Q E s:=by
 obtain ⟨o,ho,hc,hd⟩:=id hit
 unfold pyNext
 refine wpAny_bind (wpAny_attempt (wpAny_callSpecial?_slot (name:=Str.ofString "__next__") hit.typeIs zt
  (wpAny_call_entry zt hit.typeIs IF ?_ (IG _))))
 unfold Builtin.«reversed.__next__»
 refine wpAny_bind (wpAny_of_eq (a:=(Value.ref it,[])) rfl ?_)
 try dsimp only
 refine wpAny_bind (wpAny_field ho hd (x:=v) rfl ?_)
 refine wpAny_bind (wpAny_field ho hd (x:=rawInt (i:Int)) rfl ?_)
 show wpAny _ _ (if (i:Int) < 0 then _ else _) _ _ s
 rw [if_neg (by omega)]
 refine wpAny_bind (wpAny_specialOf hT hg ?_)
 try dsimp only
 rw [if_neg (by simp)]
 refine wpAny_bind (wpAny_mkInt ?_)
 refine wpAny_bind (wpAny_attempt (hget _ _ _ _ _ fun x k hx=>?_))
 show wpAny _ _ (field (.ref it) 1 >>= _) _ _ _
 refine wpAny_bind (wpAny_field ho hd (x:=rawInt (i:Int)) rfl ?_)
 refine wpAny_bind (wpAny_setField ho hd (by simp) ?_)
 first
 | refine wpAny_pure ⟨x,rfl,wpAny_pure (hQ _ _ _ hx ?_ (Heap.SameBut.update ..))⟩
 | refine wpAny_pure ⟨x,rfl,wpAny_bind (wpAny_pure (wpAny_pure (hQ _ _ _ hx ?_ (Heap.SameBut.update ..))))⟩
 exact ⟨_,Heap.get?_update_self _ ho (Obj.isFreed_of_fields (Obj.data_mapFields hd _)),(Obj.cls_mapFields ..).trans hc,by rw [Obj.data_mapFields hd];simp [rawInt]⟩
theorem MH {it:Addr} {v:Value} {i:Int} {Q:Option Value->Shared->Prop} (hh:A.handled=none) (hit:kc s.heap it v i) (hi:i < 0)
  (hQ:∀ h',Heap.ExtBut it s.heap h'->Q none { s with heap:=h' }):wpAny (model prog w) A (pyNext (.ref it)) Q E s:=by
 obtain ⟨o,ho,hc,hd⟩:=id hit
 unfold pyNext
 refine wpAny_bind (wpAny_attempt (wpAny_callSpecial?_slot (name:=Str.ofString "__next__") hit.typeIs zt
  (wpAny_call_entry zt hit.typeIs IF ?_ (IG _))))
 unfold Builtin.«reversed.__next__»
 refine wpAny_bind (wpAny_of_eq (a:=(Value.ref it,[])) rfl ?_)
 try dsimp only
 refine wpAny_bind (wpAny_field ho hd (x:=v) rfl ?_)
 refine wpAny_bind (wpAny_field ho hd (x:=rawInt i) rfl ?_)
 show wpAny _ _ (if i < 0 then _ else _) _ _ s
 rw [if_pos hi]
 refine wpAny_bind (wpAny_rule ?_)
 refine wpAny_bind ?_
 show wpAny _ _ (setField (.ref it) 1 (rawInt (-1)) >>= fun _=>setField (.ref it) 0 .none) _ _ _
 refine wpAny_bind (wpAny_setField ho hd (by simp) ?_)
 have CA:=Heap.get?_update_self (Obj.mapFields fun x=>x.setIfInBounds 1 (rawInt (-1))) ho (Obj.isFreed_of_fields (Obj.data_mapFields hd _))
 have hd1:=Obj.data_mapFields hd (fun x=>x.setIfInBounds 1 (rawInt (-1)))
 refine wpAny_setField CA hd1 (by simp) ?_
 first
 | show wpAny _ _ (newExc (.type "StopIteration") [] >>= _) _ _ _
 | (refine wpAny_bind ?_;show wpAny _ _ (newExc (.type "StopIteration") [] >>= _) _ _ _)
 refine wpAny_bind ?_
 simp only [newExc,newTuple]
 refine wpAny_bind (wpAny_newObj_type ?_ (by size_fits))
 refine wpAny_bind (m:=firstArgMember _ _) (wpAny_of_eq (a:=Value.none) (by first | rfl | (simp only [firstArgMember];rfl)) ?_)
 refine wpAny_newObj_type ?_ (by size_fits)
 simp only [raiseNew]
 refine wpAny_bind (wpAny_handled ?_)
 first | rw [show A.in1.handled=none from hh] | rw [hh]
 refine wpAny_bind (wpAny_pure (wpAny_throw ?_))
 refine wpAny_bind (wpAny_isInstance (T:="StopIteration") (b:=true) ⟨_,Heap.get?_push_size _ rfl,rfl⟩ isSubtype_stop ?_)
 refine wpAny_pure (hQ _ ?_)
 have x2:Heap.ExtBut it s.heap ((s.heap.update it (Obj.mapFields fun x=>x.setIfInBounds 1 (rawInt (-1)))).update it (Obj.mapFields fun x=>x.setIfInBounds 0 .none)):=fun c o hc e=>(Heap.SameBut.update ..).extBut c o hc ((Heap.SameBut.update ..).extBut c o hc e)
 exact (x2.push _).push _
end
def II (K:PySem.W.Frag) (src:ZS) (n:Nat):It:=⟨fun i H=>i < n/\∃ v,src.has K H (n - 1 - i) v,fun i H x H'=>H'=H/\∀ v,src.has K H (n - 1 - i) v->v=x,fun i _=>i=n⟩
theorem ZS.got {X:Cx} {pins:List (Addr×Obj)} {σ:St} {H:Hp} {s:Shared} {src:ZS} {u:Value} {x:V} {i:Nat} {v:V} (I:Inv X pins σ H s) (r:RelV x u) (hv:src.val X.K H x) (nl:∀ a,src≠.lst a) (hs:∀ z,src=.str z->z.length<=sizeLine) (h:src.has X.K H i v) :
  ∃ (T gid:String) (y:Value->Prop),s.TypeIs u T/\typeLookup (.type T) "__getitem__" = pure (some (.builtin gid))/\(∀ z,y z->RelV v z) /\
   ∀ (A':Around) (E':Value->Shared->Prop) (Q':Value->Shared->Prop) (tk:Tok) (n:Nat),(∀ z k,y z->Q' z { s with toks:=k })->wpAny (model X.prog X.w) A' (getItem u (.int i tk)) Q' E' { s with toks:=n }:=by
 have hn:=j8
 cases src with
 | lst a=>exact absurd rfl (nl a)
 | tup a =>
  obtain ⟨rfl,xs,hq⟩:=hv
  obtain ⟨xs',hq',hx⟩:=h
  rw [I.gb hq' hq] at hx
  cases r
  obtain ⟨its,rv,pl,hz⟩:=I.tuple hq
  obtain ⟨w,ew,rw'⟩:=rv.get hx
  have hl:=rv.length
  have hi:=(List.getElem?_eq_some_iff.mp hx).1
  refine ⟨"tuple",_,fun z=>z=w,pl.typeIs,slot_tuple_getitem.lookup,fun z e=>e ▸ rw',fun A' E' Q' tk n hq'=>?_⟩
  exact getItem_tuple (s:={ s with toks:=n }) (j:=i) pl (by omega) (by omega) (by rw [List.size_toArray];exact seqIndex_of (by omega) (by omega)) (by simpa using ew) (hq' w n rfl)
 | str z =>
  cases hv
  obtain ⟨c,hx,rfl⟩:=h
  obtain ⟨t,rfl⟩:=r
  have hi:=(Array.getElem?_eq_some_iff.mp hx).1
  have hl:z.length=z.cps.size:=rfl
  have Si:=hs z rfl
  refine ⟨"str",_,fun y=>∃ t,y=.str ⟨#[c]⟩ t,typeIs_str s z t,slot_str_getitem.lookup,fun y hy=>hy,fun A' E' Q' tk n hq'=>?_⟩
  refine getItem_str (s:={ s with toks:=n }) (c:=c) (by
   have e1:decide ((i:Int) < -(2 ^ 63:Int))=false:=decide_eq_false (by omega)
   have e2:decide ((i:Int) >= 2 ^ 63)=false:=decide_eq_false (by omega)
   rw [e1,e2,Bool.or_false]) (by rw [seqIndex_of (by omega) (by omega)];simpa using hx) (hq' _ _ ⟨_,rfl⟩)
theorem MI {P:Program} {w:World} {K:PySem.W.Frag} {tg:Expr} (src:ZS) (u:Value) (n:Nat) (it:Addr) (nl:∀ a,src≠.lst a) (hs:∀ z,src=.str z->z.length<=sizeLine) (x:V) (rx:RelV x u) (hsv:∀ (H:Hp) (v:V) (i:Nat),src.has K H i v->src.val K H x) :
  Turn P w K tg (II K src n) [it] it (fun i h=>kc h it u ((n:Int) - 1 - (i:Nat))) where
 mem:=by simp
 obj:=fun i h st b hb=>by
  have e:b=it:=by simpa using hb
  subst e
  obtain ⟨o,e,c,d⟩:=st
  exact ⟨o,e,fun v z=>by rw [d] at z;cases z⟩
 keep:=fun i h h' st k=>st.at fun o e=>k it (by simp) o e
 item:=by
  intro X hP hw hK hc i pins s σ H E I hf st hg
  subst hP hw hK
  obtain ⟨hin,v,hv⟩:=hg
  obtain ⟨f0,f1,f2,f3,f4,f5⟩:=hf it (by simp)
  obtain ⟨T,gid,y,hT,hl,hy,hget⟩:=ZS.got I rx (hsv H v _ hv) nl hs hv
  have st':kc s.heap it u ((n - 1 - i:Nat):Int):=by
   have e:((n - 1 - i:Nat):Int)=(n:Int) - 1 - (i:Nat):=by omega
   rw [e];exact st
  refine MG st' hT hl hget fun z h' tk hz hr sb=>?_
  have I1:Inv X pins σ H { s with heap:=h',toks:=tk }:=I.turned (fun b o hb e=>(sb.2 b hb).trans e) f0 f1 f3 f4 f5
  have hr':kc h' it u ((n:Int) - 1 - ((i + 1:Nat):Int)):=by
   have e:(n:Int) - 1 - ((i + 1:Nat):Int)=((n - 1 - i:Nat):Int) - 1:=by omega
   rw [e];exact hr
  obtain ⟨o,e,c,d⟩:=id hr
  exact ⟨z,rfl,Cj (s:={ s with heap:=h',toks:=tk }) e c d (by decide) ⟨v,H,I1,hy z hz,⟨rfl,fun v' hv'=>ZS.qS I hv hv'⟩,hr',fun b hb=>(hf b hb).1⟩⟩
 done:=by
  intro X hP hw hK hc i pins s σ H E I hf st hg
  subst hP hw hK
  have hg:i=n:=hg
  subst hg
  obtain ⟨f0,f1,f2,f3,f4,f5⟩:=hf it (by simp)
  exact MH (I.ok.hd hc) st (by omega) fun h' eb=>⟨rfl,I.turned (t':=s.toks) (fun b o hb e=>eb b o hb e) f0 f1 f3 f4 f5⟩
 self:=fun _ _ _ _ _ st h=>IH st h
theorem MJ:Slot "reversed" "__init__" "object.__init__" :=
 .of (owner:="object") (n:="__init__") (by rw [typeLookup_type,builtinLookup_eq_fast];kernel_rfl) (by decide +kernel) (by decide +kernel) (by decide +kernel)
  (by first | exact .inl (by decide +kernel) | exact .inr (by decide +kernel)) (by rw [isSubtype_type];kernel_rfl)
theorem IJ:TypeCalled "reversed" "reversed.__new__" "object.__init__" :=
 ⟨by decide +kernel,by decide +kernel,⟨_,_,F.mro_reversed⟩,F.made_reversed,by decide +kernel,by rw [isSubtype_type];kernel_rfl,MJ⟩
theorem IK {u:Value} {T gid:String} {n:Nat} (h0:typeLookup (.type T) "__reversed__" = pure none) (h1:typeLookup (.type T) "__getitem__" = pure (some (.builtin gid))) (hsub:isSubtype (.type T) (.type "dict")=pure false)
  (Fn:["tuple.__getitem__","str.__getitem__","bytes.__getitem__","bytearray.__getitem__","memoryview.__getitem__","numpy.ndarray.__getitem__","sqlite3.Row.__getitem__"].contains gid=true) :
  Meets (Builtin.«reversed.__new__» ⟨[.type "reversed",u],[]⟩) (fun _ R s=>s.TypeIs u T /\
   (∀ (prog:Program) (w:World) (A':Around) (E':Value->Shared->Prop) (Q':Value->Shared->Prop),(∀ t k,Q' (.int n t) { s with toks:=k })->wpAny (model prog w) A' (call (.builtin "len") [u]) Q' E' s) /\
   ∀ k,R (.ok (.ret (.ref s.heap.objs.size))) { s with heap:=s.heap.push { cls:=.type "reversed",data:=.fields #[u,rawInt ((n:Int) - 1)] },toks:=k }) :=
 .of_wp fun prog w A R s h=>by
 obtain ⟨hT,hlen,h⟩:=h
 unfold Builtin.«reversed.__new__»
 refine wpAny_bind (wpAny_of_eq (newClass_reversed _) ?_)
 try dsimp only
 refine wpAny_bind (wpAny_of_eq (a:=()) (by first | rfl | kernel_rfl) ?_)
 refine wpAny_bind (wpAny_of_eq (a:=()) (by first | rfl | kernel_rfl) ?_)
 try dsimp only
 refine wpAny_bind (wpAny_specialOf hT h0 ?_)
 try dsimp only
 refine wpAny_bind ?_
 show wpAny _ _ (isInstance u (.type "dict") >>= _) _ _ _
 refine wpAny_bind (wpAny_isInstance (b:=false) hT hsub ?_)
 rw [if_neg Bool.false_ne_true]
 refine wpAny_bind (wpAny_specialOf hT h1 ?_)
 show wpAny _ _ (if ["tuple.__getitem__","str.__getitem__","bytes.__getitem__","bytearray.__getitem__","memoryview.__getitem__","numpy.ndarray.__getitem__","sqlite3.Row.__getitem__"].contains gid=true then _ else _) _ _ _
 rw [if_pos Fn]
 refine wpAny_pure ?_
 rw [if_neg (by simp)]
 refine wpAny_bind (hlen _ _ _ _ _ fun t k=>?_)
 refine wpAny_bind (wpAny_of_eq (a:=some (n:Int)) rfl ?_)
 try dsimp only
 refine wpAny_bind ?_
 show wpAny _ _ (newObj (.type "reversed") (.fields #[u,rawInt ((n:Int) - 1)])) _ _ _
 refine wpAny_newObj_type ?_
 exact wpAny_pure ⟨_,rfl,h k⟩
theorem MK:isSubtype (.type "tuple") (.type "dict")=pure false:=by rw [isSubtype_type];kernel_rfl
theorem ML:isSubtype (.type "str") (.type "dict")=pure false:=by rw [isSubtype_type];kernel_rfl
def zu (K:PySem.W.Frag) (ta:TA):TI:=fun σ H R=>ta σ H fun vs H1=>∃ (x:V) (src:ZS) (n:Nat),vs=[x]/\src.val K H1 x/\src.fin K H1 n/\(∀ a,src≠.lst a)/\(∀ z,src=.str z->z.length<=sizeLine)/\R (II K src n) H1
theorem uS {X:Cx} {tg l:Expr} {ta:TA} {p pos:Pos} (hg:Gl X "reversed") (hm:X.mg "reversed" = none) (ha:PA X [l] ta) (hs:starEach [l] X.env=[(false,eval l X.env)]:=by rfl) :
  PI X tg (.Call (.Name "reversed" p) [l] [] pos) (zu X.K ta):=by
 intro pins s σ H R I h
 refine Call_ (yu I hg hm L6 (PyProof.Rows.callWith_type1 (cH (ha pos pins s σ H _ I h) fun us s1 ⟨vs,H1,I1,r1,q1⟩=>?_) hs rfl))
 obtain ⟨x,src,n,e,hv,hn,nl,hz,q⟩:=q1
 subst e
 obtain ⟨u,rfl,r⟩:=vals1 r1
 ·have Sj:=j8
  have hsv:∀ (H:Hp) (v:V) (i:Nat),src.has X.K H i v->src.val X.K H x:=fun H v i hh=>by
   cases src with
   | tup a=>obtain ⟨xs,h1,_⟩:=hh;exact ⟨hv.1,xs,h1⟩
   | lst a=>exact absurd rfl (nl a)
   | str z=>exact hv
  have fin:∀ k,wpAny (model X.prog X.w) X.A (pyIter (.ref s1.heap.objs.size)) (ED X pins σ tg R) X.xe { s1 with heap:=s1.heap.push { cls:=.type "reversed",data:=.fields #[u,rawInt ((n:Int) - 1)] },toks:=k }:=fun k=>by
   have g:kc (s1.heap.push { cls:=.type "reversed",data:=.fields #[u,rawInt ((n:Int) - 1)] }) s1.heap.objs.size u ((n:Int) - 1 - (0:Nat)):=⟨_,Heap.get?_push_size _ rfl,rfl,by simp⟩
   refine IH g ?_
   refine ⟨s1.heap.objs.size,[s1.heap.objs.size],_,_,H1,rfl,I1.kept (t':=k) fun b o e=>Heap.get?_push_of_some _ e,MI src u n _ nl hz x r hsv,g,fun b hb=>?_,q⟩
   have e:b=s1.heap.objs.size:=by simpa using hb
   subst e
   exact I1.nB (Nat.le_refl _) (I1.hok.fresh (Nat.le_refl _))
  cases src with
  | lst a=>exact absurd rfl (nl a)
  | tup a =>
   obtain ⟨rfl,xs,hq⟩:=id hv
   obtain ⟨xs',hq',hx⟩:=hn
   have hx:xs.length=n:=by rw [<- I1.gb hq' hq];exact hx
   cases r
   obtain ⟨its,rv,pl,hz'⟩:=I1.tuple hq
   have hl:=rv.length
   refine callType_new IJ (by decide) (F.typeCall_reversed_1 _) (F.newCall_reversed_1 _) (fun obj=>F.args_object_init_2 obj _) F.entry_reversed_new (IK (n:=n) ME slot_tuple_getitem.lookup MK (by decide)) ⟨pl.typeIs,fun prog w A' E' Q' hq=>?_,fun k=>⟨⟨_,Heap.get?_push_size _ rfl,rfl⟩,fin k⟩⟩
   have e:its.toArray.size=n:=by rw [List.size_toArray];omega
   refine len_tuple pl (by rw [e];omega) ?_
   rw [e]
   exact hq _ _
  | str z =>
   cases hv
   have hn:z.length=n:=hn
   have:=hz z rfl
   obtain ⟨t,rfl⟩:=r
   refine callType_new IJ (by decide) (F.typeCall_reversed_1 _) (F.newCall_reversed_1 _) (fun obj=>F.args_object_init_2 obj _) F.entry_reversed_new (IK (n:=n) MF slot_str_getitem.lookup ML (by decide)) ⟨typeIs_str _ z t,fun prog w A' E' Q' hq=>?_,fun k=>⟨⟨_,Heap.get?_push_size _ rfl,rfl⟩,fin k⟩⟩
   refine len_str (by omega) ?_
   rw [hn]
   exact hq _ _
end L2
namespace L2
open PySem PySem.Spec PyProof.Rows
open Builtin
def qT:Nat:=2 ^ 1000
def nX (i j:Int):Prop:=o7 i j\/(i.natAbs < qT/\j.natAbs < qT)
theorem nX.ok {i j:Int} (h:nX i j):IntMulOk i j:=by
 rcases h with h | ⟨h1,h2⟩
 ·exact h.ok
 ·exact PyProof.Rows.mulOk_of_bits (m:=1000) (n:=1000) (PyProof.Rows.intBits_le h1) (PyProof.Rows.intBits_le h2) (by decide)
section
variable {X:Cx}
theorem nY:jG X (binaryOp .Mult) (rI nX fun i j=>.int (i * j)):=xA fun _ _ _ _ _ _ _ hc q=>mul_int q hc.ok
end
theorem IL:fillsNumberSlot (.type "tuple") "mul" = pure false :=
 PySem.fillsNumberSlot_seq (id:="tuple.__mul__") (r:=some (.builtin "tuple.__rmul__")) F.slot_tuple_mul.lookup (by decide +kernel) F.slot_tuple_rmul.lookup (by decide +kernel)
theorem IP:seqRepeat? (.type "tuple")=pure (some (.builtin "tuple.__mul__")):=by
 unfold seqRepeat?
 rw [PySem.seqSlot_of (T:="tuple") (name:="__mul__") (id:="tuple.__mul__") F.slot_tuple_mul.lookup (by decide +kernel),PySem.seqSlot_of (T:="tuple") (name:="__rmul__") (id:="tuple.__rmul__") F.slot_tuple_rmul.lookup (by decide +kernel)]
 rfl
theorem IQ (a:Int) (t:Tok) (l:Addr) (items:Array Value) (n:Nat) (dd:Option Addr) (sl:Array (Option Value)) :
  Meets (Builtin.«int.__rmul__» ⟨[.int a t,.ref l],[]⟩) (fun _ R s=>s.heap.get? l=some { cls:=.type "tuple",dict:=dd,data:=.seq items n,slots:=sl }/\R (.ok (.ret Value.notImplemented)) s) :=
 .of_wp fun prog w A R s h=>by obtain ⟨hp,g,d,tk,os⟩:=s;obtain ⟨hl,h⟩:=h;wp_walk;exact ⟨_,rfl,h⟩
theorem MN (t:Tok) (l:Addr) (items:Array Value) (n:Nat) (dd:Option Addr) (sl:Array (Option Value)) :
  Meets (Builtin.«tuple.__mul__» ⟨[.ref l,.int 1 t],[]⟩) (fun _ R s=>s.heap.get? l=some { cls:=.type "tuple",dict:=dd,data:=.seq items n,slots:=sl }/\R (.ok (.ret (.ref l))) s) :=
 .of_wp fun prog w A R s h=>by obtain ⟨hp,g,d,tk,os⟩:=s;obtain ⟨hl,h⟩:=h;wp_walk;exact ⟨_,rfl,h⟩
theorem MO (t:Tok) (l:Addr) (n:Nat) (dd:Option Addr) (sl:Array (Option Value)) :
  Meets (Builtin.«tuple.__mul__» ⟨[.ref l,.int 0 t],[]⟩) (fun _ R s=>s.heap.get? l=some { cls:=.type "tuple",dict:=dd,data:=.seq #[] n,slots:=sl }/\R (.ok (.ret (.ref l))) s) :=
 .of_wp fun prog w A R s h=>by obtain ⟨hp,g,d,tk,os⟩:=s;obtain ⟨hl,h⟩:=h;wp_walk;exact ⟨_,rfl,h⟩
theorem MP (t:Tok) (l:Addr) (i:Value) (r:List Value) (n:Nat) (dd:Option Addr) (sl:Array (Option Value)) :
  Meets (Builtin.«tuple.__mul__» ⟨[.ref l,.int 0 t],[]⟩) (fun _ R s=>s.heap.get? l=some { cls:=.type "tuple",dict:=dd,data:=.seq (i :: r).toArray n,slots:=sl }/\R (.ok (.ret (.ref s.heap.objs.size))) { s with heap:=s.heap.push { cls:=.type "tuple",data:=.seq #[] } }) :=
 .of_wp fun prog w A R s h=>by obtain ⟨hp,g,d,tk,os⟩:=s;obtain ⟨hl,h⟩:=h;wp_walk;exact ⟨_,rfl,h⟩
def zv (K:PySem.W.Frag):R2:=fun x y H Q=>∃ a k xs,x=.ref a/\y=.int k/\eN K H a xs/\0<=k/\k<=1/\l8 K H (if k=1 then xs else []) Q
theorem MQ {X:Cx}:jG X (binaryOp .Mult) (zv X.K):=by
 intro pins s σ H x y v u Q I rx ry h
 obtain ⟨a,k,xs,rfl,rfl,ha,hk1,hk2,q⟩:=h
 cases rx
 obtain ⟨t,rfl⟩:=ry
 obtain ⟨its,r1,p1,_⟩:=I.tuple ha
 obtain ⟨⟨cls,dd,data,sl⟩,ho,hc,n,hd⟩:=id p1
 simp only at hc hd
 subst hc hd
 refine wpAny_binaryOp_repeat_ref (T:="tuple") (U:="int") (by decide) ⟨_,ho,rfl⟩ (fun s'=>typeIs_int s' k t) IL F.fills_int_mul F.slot_int_rmul IP F.slot_int_index.lookup
  (call_meets F.slot_int_rmul (typeIs_int s k t) F.entry_int_rmul (F.args_int_rmul_2 _ _) (IQ k t a its.toArray n dd sl)
   ⟨ho,rfl,⟨_,ho,rfl⟩,?_⟩)
 by_cases h1:k=1
 ·subst h1
  rw [if_pos rfl] at q
  exact call_meets F.slot_tuple_mul ⟨_,ho,rfl⟩ F.entry_tuple_mul (F.args_tuple_mul_2 _ _) (MN t a its.toArray n dd sl) ⟨ho,⟨.ref a,H,I,rfl,q.it ha⟩⟩
 ·rw [if_neg h1] at q
  have h0:k=0:=by omega
  subst h0
  cases its with
  | nil =>
   have e:xs=[]:=r1.jM.mp rfl
   exact call_meets F.slot_tuple_mul ⟨_,ho,rfl⟩ F.entry_tuple_mul (F.args_tuple_mul_2 _ _) (MO t a n dd sl) ⟨ho,⟨.ref a,H,I,rfl,q.it (by rw [<- e];exact ha)⟩⟩
  | cons i r =>
   refine call_meets F.slot_tuple_mul ⟨_,ho,rfl⟩ F.entry_tuple_mul (F.args_tuple_mul_2 _ _) (MP t a i r n dd sl) ⟨ho,?_⟩
   refine ⟨.ref s.heap.objs.size,_,I.laid (t':=s.toks) (o:=.tup []) (fun b ob q=>Heap.get?_push_of_some _ q) (Nat.le_refl _) ?_,rfl,q.new _ (I.hok.fresh (Nat.le_refl _))⟩
   exact ⟨by simp,_,.nil,kZ.new _ _⟩
end L2
namespace L2
open PySem PySem.Spec PyProof.Rows
section
variable {prog:Program} {w:World} {A:Around} {E:Value->Shared->Prop} {s:Shared}
end
section
variable {X:Cx} {pos:Pos}
end
end L2
namespace L2
open PySem PySem.Spec PyProof.Rows
section
variable {prog:Program} {w:World} {A:Around} {E:Value->Shared->Prop} {s:Shared}
end
end L2
namespace L2
open PySem PySem.Spec PyProof.Rows
section
variable {prog:Program} {w:World} {A:Around} {E:Value->Shared->Prop} {s:Shared}
end
end L2
namespace L2
open PySem PySem.Spec PyProof.Rows
end L2
namespace L2
open PySem PySem.Spec PyProof.Rows
section
variable {X:Cx} {pos:Pos}
end
end L2
namespace L2
open PySem PySem.Spec PyProof.Rows
def DU (a:Addr) (xs:List (List Int×Addr×Value)):HO:=.ext fun h=>(a == sysModules)=false/\xs.length<=sizeLine/\∃ o es ep,h.get? a=some o/\o.ExactDict/\o.data=.dict es ep /\
 (∃ (P:Program) (w:World),es.toList=xs.map (entryOfKey (tupleKind (intKind P w))))/\(xs.map (·.1)).Nodup
section
variable {X:Cx} {pins:List (Addr×Obj)} {σ:St} {H:Hp} {s:Shared} {a b:Addr} {k:List Int} {xs:List (List Int×Addr×Value)}
end
section
variable {X:Cx} {o i e value:Expr} {pos pos' tpos:Pos} {td ty tv:TE}
end
end L2
namespace L2
open PySem PySem.Spec PyProof.Rows PySem.SeqAt PySem.MeetsSeq
def md (A:Around) (s:Shared) (y x:Value) (r:Bool):Prop:=∀ (prog:Program) (w:World) (E Q:Value->Shared->Prop),Q (.bool r) s->wpAny (model prog w) A (richCompare .Lt y x) Q E s
def cZ (e lt:Nat->Bool) (fin:Bool):List Nat->Bool
 | []=>fin
 | i :: r=>if e i then cZ e lt fin r else lt i
theorem MR (l m:Addr) (a b:Array Value) (n1 n2:Nat) (d1 d2:Option Addr) (s1 s2:Array (Option Value)) (e lt:Nat->Bool) :
  Meets (Builtin.«tuple.__lt__» ⟨[.ref l,.ref m],[]⟩) (fun A R s=>s.heap.get? l=some { cls:=.type "tuple",dict:=d1,data:=.seq a n1,slots:=s1 }/\s.heap.get? m=some { cls:=.type "tuple",dict:=d2,data:=.seq b n2,slots:=s2 } /\
    (∀ j (h1:j < a.size) (h2:j < b.size),EqAt A.in1 s a[j] b[j] (e j))/\(∀ j (h1:j < a.size) (h2:j < b.size),e j=false->md A.in1 s a[j] b[j] (lt j))/\R (.ok (.ret (.bool (cZ e lt (decide (a.size < b.size)) (List.range (min a.size b.size)))))) s) :=
 .of_wp fun prog w A R s h=>by
  obtain ⟨hp,g,d,tk,os⟩:=s
  obtain ⟨hl,hm,he,hlt,h⟩:=h
  have f2:=AutoSeq1.sub_tuple_tuple
  have hZ:(a.toList.zip b.toList).length=min a.size b.size:=by simp
  wp_walk using wpAny_loadPart' hl,wpAny_loadPart' hm,wpAny_forIn_list _ (fun rest q s'=>q.1=none/\s'=⟨hp,g,d,tk,os⟩/\∃ i,rest=(a.toList.zip b.toList).drop i/\R (.ok (.ret (.bool (cZ e lt (decide (a.size < b.size)) ((List.range (min a.size b.size)).drop i))))) ⟨hp,g,d,tk,os⟩) _
  case turn =>
   rintro ⟨y,x⟩ rest q s' ⟨hq,rfl,i,hz,hR⟩
   have hil:i < (a.toList.zip b.toList).length:=by
    rcases Nat.lt_or_ge i (a.toList.zip b.toList).length with k | k
    ·exact k
    ·rw [List.drop_of_length_le k] at hz;cases hz
   have hmn:i < min a.size b.size:=hZ ▸ hil
   have g1:i < a.size:=by omega
   have g2:i < b.size:=by omega
   rw [List.drop_eq_getElem_cons hil] at hz
   injection hz with hyx hrest
   have hy:y=a[i]:=by simpa using congrArg Prod.fst hyx
   have hx:x=b[i]:=by simpa using congrArg Prod.snd hyx
   subst hy hx
   have hd:(List.range (min a.size b.size)).drop i=i :: (List.range (min a.size b.size)).drop (i + 1):=by simp [List.drop_eq_getElem_cons,hmn]
   rw [hd,cZ] at hR
   refine wpAny_bind (he i g1 g2 prog w _ _ ?_)
   cases hei:e i with
   | true =>
    rw [hei] at hR
    wp_walk
    exact ⟨rfl,rfl,i + 1,hrest,hR⟩
   | false =>
    rw [hei] at hR
    refine wpAny_bind (wpAny_rule (wpAny_bind (hlt i g1 g2 hei prog w _ _ ?_)))
    wp_walk
    exact ⟨_,rfl,hR⟩
  case fin =>
   rintro ⟨q1,q2⟩ s' ⟨hq,rfl,i,hz,hR⟩
   simp only at hq
   subst hq
   have hge:min a.size b.size<=i:=by
    rcases Nat.lt_or_ge i (a.toList.zip b.toList).length with k | k
    ·rw [List.drop_eq_getElem_cons k] at hz;cases hz
    ·exact hZ ▸ k
   rw [List.drop_of_length_le (by simpa using hge),cZ] at hR
   wp_walk
   exact ⟨_,rfl,by simpa [Builtin.Tuple.tupleCompareSizes] using hR⟩
  case h =>
   exact ⟨rfl,rfl,0,rfl,by simpa using h⟩
theorem md.tuples {A:Around} {s:Shared} {l m:Addr} {a b:Array Value} {e lt:Nat->Bool} (hl:s.heap.IsTuple l a) (hm:s.heap.IsTuple m b) (hu:A.units < cLine)
  (he:∀ j (h1:j < a.size) (h2:j < b.size),EqAt A.in1 s a[j] b[j] (e j)) (hlt:∀ j (h1:j < a.size) (h2:j < b.size),e j=false->md A.in1 s a[j] b[j] (lt j)) :
  md A s (.ref l) (.ref m) (cZ e lt (decide (a.size < b.size)) (List.range (min a.size b.size))):=fun prog w E Q h=>by
 obtain ⟨⟨c1,d1,t1,s1⟩,o1,k1,n1,j1⟩:=hl
 obtain ⟨⟨c2,d2,t2,s2⟩,o2,k2,n2,j2⟩:=hm
 simp only at k1 j1 k2 j2
 subst k1 j1 k2 j2
 exact richCompare_meets_room (op:=.Lt) ⟨_,o1,rfl⟩ ⟨_,o2,rfl⟩ F.slot_tuple_lt F.entry_tuple_lt (F.args_tuple_lt_2 _ _) (MR l m a b n1 n2 d1 d2 s1 s2 e lt)
  ⟨o1,o2,he,hlt,show Value.bool (cZ e lt (decide (a.size < b.size)) (List.range (min a.size b.size)))≠Value.notImplemented/\Q (.bool (cZ e lt (decide (a.size < b.size)) (List.range (min a.size b.size)))) s from ⟨(fun x=>nomatch x),h⟩⟩ hu
mutual
def j3:PyData->PyData->Bool
 | .int a,.int b=>decide (a < b)
 | .tuple xs,.tuple ys=>cG xs ys
 | _,_=>false
def cG:List PyData->List PyData->Bool
 | [],[]=>false
 | [],_ :: _=>true
 | _ :: _,[]=>false
 | x :: xs,y :: ys=>if PyData.eqv x y then cG xs ys else j3 x y
end
mutual
def eX:PyData->PyData->Bool
 | .int _,.int _=>true
 | .tuple xs,.tuple ys=>c3 xs ys
 | _,_=>false
def c3:List PyData->List PyData->Bool
 | [],_=>true
 | _ :: _,[]=>true
 | x :: xs,y :: ys=>eX x y && c3 xs ys
end
theorem IU (e lt:Nat->Bool) (fin:Bool) (f:Nat->Nat):∀ l:List Nat,cZ e lt fin (l.map f)=cZ (fun i=>e (f i)) (fun i=>lt (f i)) fin l
 | []=>rfl
 | i :: r=>by
  show (if e (f i) then cZ e lt fin (r.map f) else lt (f i))=if e (f i) then _ else lt (f i)
  rw [IU e lt fin f r]
def nE (xs ys:List PyData) (j:Nat):Bool:=j3 (xs.getD j .none) (ys.getD j .none)
theorem IV:∀ xs ys:List PyData,cZ (pairEq xs ys) (nE xs ys) (decide (xs.length < ys.length)) (List.range (min xs.length ys.length))=cG xs ys
 | [],[]=>rfl
 | [],_ :: _=>by simp [cZ,cG]
 | _ :: _,[]=>by simp [cZ,cG]
 | x :: xs,y :: ys=>by
  have ih:=IV xs ys
  have e1:min (x :: xs).length (y :: ys).length=min xs.length ys.length + 1:=by simp only [List.length_cons];omega
  have e2:decide ((x :: xs).length < (y :: ys).length)=decide (xs.length < ys.length):=by simp
  rw [e1,e2,List.range_succ_eq_map,cZ,IU]
  show (if PyData.eqv x y then cZ (pairEq xs ys) (nE xs ys) (decide (xs.length < ys.length)) (List.range (min xs.length ys.length)) else j3 x y)=_
  rw [ih,cG]
mutual
theorem Fp:∀ (da db:PyData) (A:Around) (s:Shared) (a b:Value) (as bs:List Addr),Reads s.heap a da as->Reads s.heap b db bs->eX da db=true->da.canLay0=true->db.canLay0=true->A.units + min da.depth db.depth < cLine->md A s a b (j3 da db)
 | .int x,.int y,A,s,_,_,_,_,ra,rb,_,_,_,_=>by
  cases ra with
  | int _ t =>
   cases rb with
   | int _ u=>exact fun prog w E Q h=>richCompare_gives (op:=.Lt) (typeIs_int s _ t) (typeIs_int s _ u) F.slot_int_lt F.entry_int_lt (F.args_int_lt_2 _ _) (gives_int_lt _ _ t u) (fun x=>nomatch x) h
 | .tuple xs,.tuple ys,A,s,_,_,_,_,ra,rb,ok,ha,hb,hu=>by
  cases ra with
  | @tuple l o vs n _ IW h1 h2 h3 h4 =>
   cases rb with
   | @tuple l' o' vs' n' _ MS k1 k2 k3 k4 =>
    have t1:s.heap.IsTuple l vs:=⟨_,h1,h2,_,h3⟩
    have t2:s.heap.IsTuple l' vs':=⟨_,k1,k2,_,k3⟩
    have n1:vs.size=xs.length:=by simpa using ReadsAll.length _ _ _ h4
    have n2:vs'.size=ys.length:=by simpa using ReadsAll.length _ _ _ k4
    show md A s (.ref l) (.ref l') (cG xs ys)
    rw [<- IV xs ys,<- n1,<- n2]
    refine md.tuples t1 t2 (room_here hu) (fun j j1 j2=>?_) (fun j j1 j2 _=>?_)
    ·have z:=eqAt_readsAll xs ys A.in1 s vs.toList vs'.toList _ _ h4 k4 ha hb (room_in hu) j (by simpa using j1) (by simpa using j2)
     simpa using z
    ·have z:=IX xs ys A.in1 s vs.toList vs'.toList _ _ h4 k4 ok ha hb (room_in hu) j (by simpa using j1) (by simpa using j2)
     simpa using z
 | .int _,.none,_,_,_,_,_,_,_,_,ok,_,_,_=>nomatch ok
 | .int _,.bool _,_,_,_,_,_,_,_,_,ok,_,_,_=>nomatch ok
 | .int _,.str _,_,_,_,_,_,_,_,_,ok,_,_,_=>nomatch ok
 | .int _,.list _,_,_,_,_,_,_,_,_,ok,_,_,_=>nomatch ok
 | .int _,.tuple _,_,_,_,_,_,_,_,_,ok,_,_,_=>nomatch ok
 | .int _,.dict _,_,_,_,_,_,_,_,_,ok,_,_,_=>nomatch ok
 | .tuple _,.none,_,_,_,_,_,_,_,_,ok,_,_,_=>nomatch ok
 | .tuple _,.bool _,_,_,_,_,_,_,_,_,ok,_,_,_=>nomatch ok
 | .tuple _,.int _,_,_,_,_,_,_,_,_,ok,_,_,_=>nomatch ok
 | .tuple _,.str _,_,_,_,_,_,_,_,_,ok,_,_,_=>nomatch ok
 | .tuple _,.list _,_,_,_,_,_,_,_,_,ok,_,_,_=>nomatch ok
 | .tuple _,.dict _,_,_,_,_,_,_,_,_,ok,_,_,_=>nomatch ok
 | .none,_,_,_,_,_,_,_,_,_,ok,_,_,_=>by simp [eX] at ok
 | .bool _,_,_,_,_,_,_,_,_,_,ok,_,_,_=>by simp [eX] at ok
 | .str _,_,_,_,_,_,_,_,_,_,ok,_,_,_=>by simp [eX] at ok
 | .list _,_,_,_,_,_,_,_,_,_,ok,_,_,_=>by simp [eX] at ok
 | .dict _,_,_,_,_,_,_,_,_,_,ok,_,_,_=>by simp [eX] at ok
theorem IX:∀ (xs ys:List PyData) (A:Around) (s:Shared) (vs ws:List Value) (as bs:List Addr),ReadsAll s.heap vs xs as->ReadsAll s.heap ws ys bs->c3 xs ys=true->PyData.canLayAll0 xs=true->PyData.canLayAll0 ys=true->A.units + min (PyData.depthAll xs) (PyData.depthAll ys) < cLine->∀ j (h1:j < vs.length) (h2:j < ws.length),md A s vs[j] ws[j] (nE xs ys j)
 | [],_,_,_,_,_,_,_,ra,_,_,_,_,_,j,h1,_=>by cases ra;exact absurd h1 (Nat.not_lt_zero _)
 | _ :: _,[],_,_,_,_,_,_,_,rb,_,_,_,_,j,_,h2=>by cases rb;exact absurd h2 (Nat.not_lt_zero _)
 | x :: xs,y :: ys,A,s,_,_,_,_,ra,rb,ok,ha,hb,hu,j,h1,h2=>by
  have a':x.canLay0=true/\PyData.canLayAll0 xs=true:=by simpa [PyData.canLayAll0] using ha
  have b':y.canLay0=true/\PyData.canLayAll0 ys=true:=by simpa [PyData.canLayAll0] using hb
  have o':eX x y=true/\c3 xs ys=true:=by simpa [c3] using ok
  cases ra with
  | cons r rs =>
   cases rb with
   | cons r' rs' =>
    cases j with
    | zero=>exact Fp x y A s _ _ _ _ r r' o'.1 a'.1 b'.1 (room_head hu)
    | succ j=>exact IX xs ys A s _ _ _ _ rs rs' o'.2 a'.2 b'.2 (room_tail hu) j (Nat.lt_of_succ_lt_succ h1) (Nat.lt_of_succ_lt_succ h2)
end
section
variable {prog:Program} {w:World} {A:Around} {R:Result->Shared->Prop} {I:Addr} {fp wr:List Addr} {n:Nat} {P:Nat->Value->Prop} {St:Nat->Heap->Prop}
def gh (a b:Heap):Prop:=∀ x o,a.get? x=some o->b.get? x=some o
def uT (A:Around) (h0:Heap) (P:Nat->Value->Prop) (bt:Nat->Nat->Bool):Prop:=∀ i j vi vj (s:Shared),gh h0 s.heap->P i vi->P j vj->md A s vi vj (bt i j)
theorem CB:(toString "min" ++ toString ".loop" : String)="min.loop" := by decide
theorem Fq (W:Walks prog w A.in1 I fp wr n P St) (bt:Nat->Nat->Bool) {h0:Heap} (hcmp:uT A.in1 h0 P bt) (S:Addr) (hSf:S ∉ fp) (uU:h0.get? S=none) (hw0:∀ b∈wr,h0.get? b=none) :
  ∀ (k j:Nat) (s:Shared) (vb:Value) (c:Nat),n - (j + 1)=k->j + 1<=n->St (j + 1) s.heap->P (argBest bt j) vb->gh h0 s.heap->s.heap.get? S=some { cls:=.type "list",dict:=none,data:=.seq #[vb,vb] c,slots:=#[] } ->
  (∀ v h' tk,P (argBest bt (n - 1)) v->gh h0 h'->R (.ok (.ret v)) { s with heap:=h',toks:=tk })->codeAny (model prog w) A (.builtin "min.loop" ⟨[.ref I,.none,.ref S],[]⟩) R s
 | 0,j,s,vb,c,hk,hj,hst,CC,hK,hS,hR=>by
  have zw:S ∉ wr:=fun z=>hSf (W.sub S z)
  have hin:n=j + 1:=by omega
  subst hin
  refine codeAny_builtin F.entry_min_loop ?_
  rw [Around.under_plainId F.plain_min_loop (A:=A) _]
  show wpAny (model prog w) A.in1 (seqItems? (.ref S) >>= _) _ _ _
  refine wpAny_bind (wpAny_seqItems hS rfl ?_)
  show wpAny (model prog w) A.in1 (tryCatch (pyNext (.ref I)) _ >>= _) _ _ _
  refine wpAny_bind (wpAny_tryCatch (W.done s _ _ hst fun h' tk hk'=>?_))
  have hS':=hk' S _ zw hS
  show wpAny (model prog w) A.in1 (updateSeq S (fun _=>#[]) >>= _) _ _ _
  refine wpAny_bind (wpAny_updateSeq hS' rfl (wpAny_bind (wpAny_letGo (wpAny_pure (hR vb _ tk CC fun b o e=>?_)))))
  have hb1:b ∉ wr:=fun z=>by rw [hw0 b z] at e;cases e
  have hb2:S≠b:=fun z=>by rw [<- z,uU] at e;cases e
  exact (Heap.get?_update_other _ _ hb2).trans (hk' b o hb1 (hK b o e))
 | k + 1,j,s,vb,c,hk,hj,hst,CC,hK,hS,hR=>by
  have zw:S ∉ wr:=fun z=>hSf (W.sub S z)
  have hlt:j + 1 < n:=by omega
  refine codeAny_builtin F.entry_min_loop ?_
  rw [Around.under_plainId F.plain_min_loop (A:=A) _]
  show wpAny (model prog w) A.in1 (seqItems? (.ref S) >>= _) _ _ _
  refine wpAny_bind (wpAny_seqItems hS rfl ?_)
  show wpAny (model prog w) A.in1 (tryCatch (pyNext (.ref I)) _ >>= _) _ _ _
  refine wpAny_bind (wpAny_tryCatch (W.item (j + 1) s _ _ hlt hst fun v h' tk hP qU hk'=>?_))
  have hS':=hk' S _ zw hS
  have zx:gh h0 h':=fun b o e=>hk' b o (fun z=>by rw [hw0 b z] at e;cases e) (hK b o e)
  show wpAny (model prog w) A.in1 (tryCatch (holding [v,v] (richCompare .Lt v vb >>= _)) _ >>= _) _ _ _
  refine wpAny_bind (wpAny_tryCatch (wpAny_holding (wpAny_bind (hcmp (j + 1) (argBest bt j) v vb _ zx hP CC prog w _ _ ?_))))
  refine wpAny_bind (wpAny_holding (wpAny_truthy_bool (wpAny_bind (wpAny_letGo (wpAny_pure ?_)))))
  cases hb:bt (j + 1) (argBest bt j) with
  | true =>
   simp only [if_true]
   refine wpAny_bind (wpAny_updateSeq hS' rfl (wpAny_bind (wpAny_letGo ?_)))
   rw [CB]
   have Fs:gh h0 (h'.update S (Obj.mapSeq fun _=>#[v,v])):=fun b o e=>(Heap.get?_update_other _ _ (fun z=>by rw [<- z,uU] at e;cases e)).trans (zx b o e)
   refine wpAny_pure ⟨plainId_quiet F.plain_min_loop _,Fq W bt hcmp S hSf uU hw0 k (j + 1) _ v _ (by omega) hlt (W.frame _ _ _ qU fun b Ft o e=>?_) (by simp only [argBest,hb,if_true];exact hP) Fs (Heap.get?_update_self _ hS' rfl) fun v' h'' pA zy pB=>hR v' h'' pA zy pB⟩
   exact (Heap.get?_update_other _ _ (fun z:S=b=>hSf (z ▸ Ft))).trans e
  | false =>
   simp only [Bool.false_eq_true,if_false]
   refine wpAny_bind (wpAny_letGo ?_)
   rw [CB]
   exact wpAny_pure ⟨plainId_quiet F.plain_min_loop _,Fq W bt hcmp S hSf uU hw0 k (j + 1) _ vb c (by omega) hlt qU (by simp only [argBest,hb,Bool.false_eq_true,if_false];exact CC) zx hS' fun v' h'' pA zy pB=>hR v' h'' pA zy pB⟩
theorem MT (W:Walks prog w A.in1 I fp wr n P St) (bt:Nat->Nat->Bool) {h0:Heap} (hcmp:uT A.in1 h0 P bt) (S:Addr) (hSf:S ∉ fp) (uU:h0.get? S=none) (hw0:∀ b∈wr,h0.get? b=none) (hn:0 < n) {s:Shared} {c:Nat} (hst:St 0 s.heap) (hK:gh h0 s.heap)
  (hS:s.heap.get? S=some { cls:=.type "list",dict:=none,data:=.seq #[] c,slots:=#[] }) (hR:∀ v h' tk,P (argBest bt (n - 1)) v->gh h0 h'->R (.ok (.ret v)) { s with heap:=h',toks:=tk }) :
  codeAny (model prog w) A (.builtin "min.loop" ⟨[.ref I,.none,.ref S],[]⟩) R s:=by
 have zw:S ∉ wr:=fun z=>hSf (W.sub S z)
 refine codeAny_builtin F.entry_min_loop ?_
 rw [Around.under_plainId F.plain_min_loop (A:=A) _]
 show wpAny (model prog w) A.in1 (seqItems? (.ref S) >>= _) _ _ _
 refine wpAny_bind (wpAny_seqItems hS rfl ?_)
 show wpAny (model prog w) A.in1 (tryCatch (pyNext (.ref I)) _ >>= _) _ _ _
 refine wpAny_bind (wpAny_tryCatch (W.item 0 s _ _ hn hst fun v h' tk hP qU hk'=>?_))
 have hS':=hk' S _ zw hS
 have zx:gh h0 h':=fun b o e=>hk' b o (fun z=>by rw [hw0 b z] at e;cases e) (hK b o e)
 show wpAny (model prog w) A.in1 (updateSeq S (fun _=>#[v,v]) >>= _) _ _ _
 refine wpAny_bind (wpAny_updateSeq hS' rfl ?_)
 rw [CB]
 have Fs:gh h0 (h'.update S (Obj.mapSeq fun _=>#[v,v])):=fun b o e=>(Heap.get?_update_other _ _ (fun z=>by rw [<- z,uU] at e;cases e)).trans (zx b o e)
 refine wpAny_pure ⟨plainId_quiet F.plain_min_loop _,Fq W bt hcmp S hSf uU hw0 _ 0 _ v _ rfl hn (W.frame _ _ _ qU fun b Ft o e=>?_) hP Fs (Heap.get?_update_self _ hS' rfl) fun v' h'' pA zy pB=>hR v' h'' pA zy pB⟩
 exact (Heap.get?_update_other _ _ (fun z:S=b=>hSf (z ▸ Ft))).trans e
end
section
variable {prog:Program} {w:World} {A:Around} {E:Value->Shared->Prop} {s:Shared}
theorem MU {p:Addr} {its:Array Value} {bt:Nat->Nat->Bool} {Q:Value->Shared->Prop} (hh:A.handled=none) (hl:s.heap.IsList p its) (hn:0 < its.size) (hcmp:uT A.in1 s.heap (fun i v=>its[i]?=some v) bt)
  (hQ:∀ v h' tk,its[argBest bt (its.size - 1)]?=some v->gh s.heap h'->Q v { s with heap:=h',toks:=tk }):wpAny (model prog w) A (call (.builtin "min") [.ref p]) Q E s:=by
 have hlt:p < s.heap.objs.size:=by obtain ⟨_,e,_⟩:=hl;exact Heap.lt_size e
 have e0:s.heap.get? s.heap.objs.size=none:=by
  cases q:s.heap.get? s.heap.objs.size with
  | none=>rfl
  | some o=>exact absurd (Heap.lt_size q) (Nat.lt_irrefl _)
 have e1:s.heap.get? (s.heap.objs.size + 1)=none:=by
  cases q:s.heap.get? (s.heap.objs.size + 1) with
  | none=>rfl
  | some o=>exact absurd (Heap.lt_size q) (Nat.not_lt_of_le (Nat.le_succ _))
 refine call_function_tree F.kind_min F.plain_min F.entry_min (F.args_min1 _) ?_
 show wpAny (model prog w) A.in1 (Builtin.Builtins.bindParams "min" ["key","default"] 0 ⟨[],[]⟩ >>= _) _ _ _
 refine wpAny_bind (wpAny_of_eq (show Builtin.Builtins.bindParams "min" ["key","default"] 0 ⟨[],[]⟩=pure [none,none] from rfl) (wpAny_bind (wpAny_pure ?_)))
 refine wpAny_bind (wpAny_pyIter_list hl (wpAny_bind (wpAny_newObj_type ?_)))
 have hsz:(s.heap.push { cls:=.type "list_iterator",data:=.fields #[.ref p,.int 0 0] }).objs.size=s.heap.objs.size + 1:=Heap.size_push ..
 have hne:p≠s.heap.objs.size:=Nat.ne_of_lt hlt
 rw [CB]
 have k1:gh s.heap ((s.heap.push { cls:=.type "list_iterator",data:=.fields #[.ref p,.int 0 0] }).push { cls:=.type "list",data:=.seq #[] }):=fun b o e=>Heap.get?_push_of_some _ (Heap.get?_push_of_some _ e)
 refine wpAny_pure ⟨plainId_quiet F.plain_min_loop _,?_⟩
 show codeAny (model prog w) A (.builtin "min.loop" ⟨[.ref s.heap.objs.size,.none,.ref (s.heap.push { cls:=.type "list_iterator",data:=.fields #[.ref p,.int 0 0] }).objs.size],[]⟩) _ _
 rw [hsz]
 refine MT (c:=0) (Walks.list (A:=A.in1) hh s.heap.objs.size p hne its) bt hcmp (s.heap.objs.size + 1) (fun z=>?_) e1 (fun b hb=>?_) hn ?_ k1 ?_ fun v h' tk hv hk=>hQ v h' tk hv hk
 ·rcases List.mem_cons.mp z with z | z
  ·exact absurd z (Nat.succ_ne_self _)
  ·have:s.heap.objs.size + 1=p:=List.mem_singleton.mp z
   exact absurd hlt (by rw [<- this];exact Nat.not_lt_of_le (Nat.le_succ _))
 ·rw [List.mem_singleton.mp hb];exact e0
 ·exact ⟨⟨_,Heap.get?_push_of_some _ (Heap.get?_push_size _ rfl),rfl,rfl⟩,(hl.push _).push _⟩
 ·rw [<- hsz];exact Heap.get?_push_size _ rfl
end
theorem zz {h:Heap}:∀ {us:List Value} {ds:List PyData} {as:List Addr} {i:Nat} {v:Value},ReadsAll h us ds as->us[i]?=some v->∃ as',Reads h v (ds.getD i .none) as'/\ds.getD i .none∈ds
 | _,_,_,_,_,.nil,e=>by simp at e
 | _,_,_,0,_,.cons r _,e=>by simp at e;subst e;exact ⟨_,r,List.mem_cons_self⟩
 | _,_,_,i + 1,v,.cons _ rs,e=>by
  obtain ⟨as',r,m⟩:=zz (i:=i) (v:=v) rs (by simpa using e)
  exact ⟨as',r,List.mem_cons_of_mem _ m⟩
section
variable {X:Cx}
def lT (ds:List PyData) (i j:Nat):Bool:=j3 (ds.getD i .none) (ds.getD j .none)
def lU (ds:List PyData):Nat:=argBest (lT ds) (ds.length - 1)
def sr (K:PySem.W.Frag):List V->Hp->VK->Prop:=fun xs H Q=>∃ (p:Addr) (vs:List V) (ds:List PyData),xs=[.ref p]/\iR K H p vs/\gy K H vs ds/\0 < ds.length/\(∀ a∈ds,∀ b∈ds,eX a b=true)/\(∀ a∈ds,a.canLay0=true/\a.depth<=50)/\∃ v,vs[lU ds]?=some v/\Q v H
theorem MV (hc:X.calm=true) (hu:X.A.units + 64 < cLine):hJ X (.builtin "min") (sr X.K):=by
 intro pins s σ H xs us Q I r h
 obtain ⟨p,vs,ds,rfl,hq,hr,hn,hok,hlay,v0,hv0,q⟩:=h
 obtain ⟨u,rfl,ru⟩:=vals1 r
 cases ru
 obtain ⟨its,rv,pl,_⟩:=I.list hq
 obtain ⟨as,ra⟩:=gy.reads I hr rv
 have hlen:its.length=ds.length:=ReadsAll.length _ _ _ ra
 refine MU (bt:=lT ds) (I.ok.hd hc) pl.isList (by rw [List.size_toArray];omega) (fun i j vi vj s' hK hi hj=>?_) fun v h' tk hv hk=>?_
 ·have hi':its[i]?=some vi:=by simpa using hi
  have hj':its[j]?=some vj:=by simpa using hj
  obtain ⟨a1,r1,m1⟩:=zz ra hi'
  obtain ⟨a2,r2,m2⟩:=zz ra hj'
  have b1:=(hlay _ m1).2
  have b2:=(hlay _ m2).2
  exact Fp _ _ _ s' _ _ _ _ (Reads.keeps hK r1) (Reads.keeps hK r2) (hok _ m1 _ m2) (hlay _ m1).1 (hlay _ m2).1 (by show X.A.units + 1 + _ < cLine;omega)
 ·have hv':its[lU ds]?=some v:=by
   have e:its.toArray.size - 1=ds.length - 1:=by rw [List.size_toArray,hlen]
   rw [e] at hv
   unfold lU
   simpa using hv
  obtain ⟨u,IY,ru⟩:=Vals.get rv hv0
  rw [hv'] at IY
  cases IY
  exact ⟨v0,H,I.kept hk,ru,q⟩
end
end L2
namespace L2
open PySem PySem.Spec PyProof.Rows PySem.W
section
variable {lt:Nat->Nat->Bool} {n0:Nat} {cmp:Nat->Nat->(Bool->Shared->Prop)->Shared->Prop} {s:Shared}
structure Ord (lt:Nat->Nat->Bool):Prop where
 tr:∀ a b c,lt b a=false->lt c b=false->lt c a=false
 as:∀ a b,lt a b=true->lt b a=false
theorem Ord.rf (o:Ord lt) (a:Nat):lt a a=false:=by
 cases h:lt a a with
 | false=>rfl
 | true=>have:=o.as a a h;rw [h] at this;cases this
def P (p:Array Nat) (i:Nat):Nat:=p.getD i 0
def oM (lt:Nat->Nat->Bool) (p:Array Nat) (k:Nat):Prop:=∀ i j,i<=j->j < k->lt (P p j) (P p i)=false
def su (lt:Nat->Nat->Bool) (p:Array Nat) (k:Nat):Prop:=∀ i j,i<=j->j < k->lt (P p i) (P p j)=false
structure Arr (n0:Nat) (p:Array Nat):Prop where
 sz:p.size=n0
 pm:p.toList.Perm (List.range n0)
theorem Arr.bd {p:Array Nat} (h:Arr n0 p) (hn:0 < n0) (i:Nat):P p i < n0:=by
 unfold P
 rw [Array.getD_eq_getD_getElem?]
 cases e:p[i]? with
 | none=>exact hn
 | some x =>
  have:x∈p.toList:=by
   rw [<- Array.getElem?_toList] at e
   exact List.mem_of_getElem? e
  exact List.mem_range.mp (h.pm.subset this)
theorem sv {p:Array Nat} {i j:Nat} (hj:j<=p.size) (k:Nat):P (kas_rev p i j) k=if i<=k/\k < j then P p (i + j - 1 - k) else P p k:=by
 unfold P kas_rev
 rw [Array.getD_eq_getD_getElem?,getElem?_mirror_all hj]
 split <;> rw [Array.getD_eq_getD_getElem?]
theorem Arr.rev {p:Array Nat} (h:Arr n0 p) (i j:Nat):Arr n0 (kas_rev p i j):=⟨(mirror_size _ _ _ _).trans h.sz,(Array.perm_iff_toList_perm.mp (mirror_perm p i j _)).trans h.pm⟩
theorem IZ {p:Array Nat} {k d:Nat} (hk:k < p.size) (hd:d<=k) (m:Nat):P (bubble p k d) m=if m=k - d then P p k else if k - d < m/\m<=k then P p (m - 1) else P p m:=by
 unfold P
 simp only [Array.getD_eq_getD_getElem?]
 rw [getElem?_bubble hk d hd]
 split
 ·rfl
 ·split <;> rfl
theorem Arr.MW {p:Array Nat} (h:Arr n0 p) (k d:Nat):Arr n0 (bubble p k d):=⟨(bubble_size _ _ _).trans h.sz,(Array.perm_iff_toList_perm.mp (bubble_perm p k d)).trans h.pm⟩
variable (o:Ord lt) (hn:0 < n0) (hc:∀ i j (C:Bool->Shared->Prop),i < n0->j < n0->C (lt i j) s->cmp i j C s)
include o hn hc
theorem Fu {p:Array Nat} (ha:Arr n0 p) {Q:Nat->Shared->Prop}:∀ (f n:Nat),oM lt p n->1<=n->(∀ m,n<=m->m<=n + f->oM lt p m->(m < n + f->lt (P p m) (P p (m - 1))=true)->Q m s)->(kas_asc p f n).kasWp cmp Q s
 | 0,n,hs,h1,q=>q n (Nat.le_refl _) (Nat.le_refl _) hs fun h=>absurd h (Nat.lt_irrefl _)
 | f + 1,n,hs,h1,q=>by
  refine hc _ _ _ (ha.bd hn n) (ha.bd hn (n - 1)) ?_
  show (if lt (P p n) (P p (n - 1))=true then KasT.ret n else kas_asc p f (n + 1)).kasWp cmp Q s
  cases hb:lt (P p n) (P p (n - 1)) with
  | true=>exact q n (Nat.le_refl _) (by omega) hs fun _=>hb
  | false =>
   refine Fu ha f (n + 1) (fun i j hij hj=>?_) (by omega) fun m m1 m2 m3 m4=>q m (by omega) (by omega) m3 fun h=>m4 (by omega)
   by_cases hjn:j < n
   ·exact hs i j hij hjn
   ·have:j=n:=by omega
    subst this
    by_cases hin:i=j
    ·subst hin;exact o.rf _
    ·exact o.tr _ (P p (j - 1)) _ (hs i (j - 1) (by omega) (by omega)) hb
theorem CD {Q:Array Nat×Nat×Nat->Shared->Prop}:∀ (f:Nat) (p:Array Nat) (n q:Nat),Arr n0 p->su lt p n->q + 1<=n->n + f<=n0->(∀ i j,n - (q + 1)<=i->i < n->n - (q + 1)<=j->j < n->lt (P p i) (P p j)=false) ->
  (∀ p' n' q',Arr n0 p'->su lt p' n'->q' + 1<=n'->n<=n'->n'<=n + f->(∀ i j,n' - (q' + 1)<=i->i < n'->n' - (q' + 1)<=j->j < n'->lt (P p' i) (P p' j)=false)->Q (p',n',q') s)->(kas_desc f p n q).kasWp cmp Q s
 | 0,p,n,q,ha,hd,h1,hf,he,hQ=>hQ p n q ha hd h1 (Nat.le_refl _) (Nat.le_refl _) he
 | f + 1,p,n,q,ha,hd,h1,hf,he,hQ=>by
  refine hc _ _ _ (ha.bd hn n) (ha.bd hn (n - 1)) ?_
  show (if lt (P p n) (P p (n - 1))=true then (if q > 0 then kas_desc f (kas_rev p (n - (q + 1)) n) (n + 1) 0 else kas_desc f p (n + 1) 0) else .ask (P p (n - 1)) (P p n) fun d=>if d=true then .ret (p,n,q) else kas_desc f p (n + 1) (q + 1)).kasWp cmp Q s
  cases hb:lt (P p n) (P p (n - 1)) with
  | true =>
   rw [if_pos rfl]
   have hx:=o.as _ _ hb
   have zA:∀ p':Array Nat,su lt p' n->P p' n=P p n->lt (P p' (n - 1)) (P p n)=false->su lt p' (n + 1):=fun p' h e1 e2 i j hij hj=>by
    by_cases hjn:j < n
    ·exact h i j hij hjn
    ·have:j=n:=by omega
     subst this
     by_cases hin:i=j
     ·subst hin;exact o.rf _
     ·rw [e1]
      exact o.tr _ (P p' (j - 1)) _ e2 (h i (j - 1) (by omega) (by omega))
   have one:∀ p':Array Nat,∀ i j,n + 1 - (0 + 1)<=i->i < n + 1->n + 1 - (0 + 1)<=j->j < n + 1->lt (P p' i) (P p' j)=false:=fun p' i j a b c d=>by
    have e1:i=n:=by omega
    have e2:j=n:=by omega
    subst e1;subst e2;exact o.rf _
   by_cases hq:q > 0
   ·rw [if_pos hq]
    have hns:n<=p.size:=by rw [ha.sz];omega
    have er:=fun k=>sv (p:=p) (i:=n - (q + 1)) hns k
    refine CD f _ (n + 1) 0 (ha.rev _ _) (zA _ (fun i j hij hj=>?_) ?_ ?_) (by omega) (by omega) (one _) fun p' n' q' a b c d e g=>hQ p' n' q' a b c (by omega) (by omega) g
    ·rw [er i,er j]
     by_cases hi:n - (q + 1)<=i
     ·rw [if_pos ⟨hi,by omega⟩,if_pos ⟨by omega,hj⟩]
      exact he _ _ (by omega) (by omega) (by omega) (by omega)
     ·rw [if_neg (by omega)]
      by_cases hj':n - (q + 1)<=j
      ·rw [if_pos ⟨hj',hj⟩];exact hd _ _ (by omega) (by omega)
      ·rw [if_neg (by omega)];exact hd i j hij hj
    ·rw [er n,if_neg (by omega)]
    ·rw [er (n - 1),if_pos ⟨by omega,by omega⟩]
     exact o.tr _ (P p (n - 1)) _ hx (he _ _ (by omega) (by omega) (by omega) (by omega))
   ·rw [if_neg hq]
    exact CD f p (n + 1) 0 ha (zA p hd rfl hx) (by omega) (by omega) (one _) fun p' n' q' a b c d e g=>hQ p' n' q' a b c (by omega) (by omega) g
  | false =>
   rw [if_neg (by decide)]
   refine hc _ _ _ (ha.bd hn (n - 1)) (ha.bd hn n) ?_
   cases hb2:lt (P p (n - 1)) (P p n) with
   | true=>exact hQ p n q ha hd h1 (Nat.le_refl _) (by omega) he
   | false =>
    refine CD f p (n + 1) (q + 1) ha (fun i j hij hj=>?_) (by omega) (by omega) (fun i j a b c d=>?_) fun p' n' q' a b c d e g=>hQ p' n' q' a b c (by omega) (by omega) g
    ·by_cases hjn:j < n
     ·exact hd i j hij hjn
     ·have:j=n:=by omega
      subst this
      by_cases hin:i=j
      ·subst hin;exact o.rf _
      ·exact o.tr _ (P p (j - 1)) _ hb2 (hd i (j - 1) (by omega) (by omega))
    ·by_cases hi:i=n
     ·subst hi
      by_cases hj:j=i
      ·subst hj;exact o.rf _
      ·exact o.tr _ (P p (i - 1)) _ (he (i - 1) j (by omega) (by omega) (by omega) (by omega)) hb
     ·by_cases hj:j=n
      ·subst hj
       exact o.tr _ (P p (j - 1)) _ hb2 (he i (j - 1) (by omega) (by omega) (by omega) (by omega))
      ·exact he i j (by omega) (by omega) (by omega) (by omega)
theorem I0 {p:Array Nat} {n nrem:Nat} {Q:Nat×Array Nat->Shared->Prop} (ha:Arr n0 p) (hd:su lt p n) (h1:1<=n) (hr:n<=nrem) (hz:nrem<=n0) (hQ:∀ m p',Arr n0 p'->oM lt p' m->n<=m->m<=nrem->Q (m,p') s):(kas_tail3 n nrem p).kasWp cmp Q s:=by
 unfold kas_tail3
 rw [KasT.kasWp_bind]
 have hns:n<=p.size:=by rw [ha.sz];omega
 refine Fu o hn hc (ha.rev 0 n) (nrem - n) n (fun i j hij hj=>?_) h1 fun m m1 m2 m3 _=>hQ m _ (ha.rev 0 n) m3 m1 (by omega)
 rw [sv hns,sv hns,if_pos ⟨by omega,hj⟩,if_pos ⟨by omega,by omega⟩]
 exact hd _ _ (by omega) (by omega)
theorem Ja {p:Array Nat} {n nrem:Nat} {Q:Nat×Array Nat->Shared->Prop} (ha:Arr n0 p) (hd:su lt p (n + 1)) (hr:n + 1<=nrem) (hz:nrem<=n0) (hQ:∀ m p',Arr n0 p'->oM lt p' m->1<=m->m<=nrem->Q (m,p') s):(kas_descPart n nrem p).kasWp cmp Q s:=by
 unfold kas_descPart
 rw [KasT.kasWp_bind]
 refine CD o hn hc (nrem - (n + 1)) p (n + 1) 0 ha hd (by omega) (by omega) (fun i j a b c d=>?_) fun p' n' q' a b c d e g=>?_
 ·have e1:i=n:=by omega
  have e2:j=n:=by omega
  subst e1;subst e2;exact o.rf _
 ·show (if q' > 0 then kas_tail3 n' nrem (kas_rev p' (n' - (q' + 1)) n') else kas_tail3 n' nrem p').kasWp cmp Q s
  by_cases hq:q' > 0
  ·rw [if_pos hq]
   have hns:n'<=p'.size:=by rw [a.sz];omega
   have er:=fun k=>sv (p:=p') (i:=n' - (q' + 1)) hns k
   refine I0 o hn hc (a.rev _ _) (fun i j hij hj=>?_) (by omega) (by omega) hz fun m p2 x y z w=>hQ m p2 x y (by omega) w
   rw [er i,er j]
   by_cases hi:n' - (q' + 1)<=i
   ·rw [if_pos ⟨hi,by omega⟩,if_pos ⟨by omega,hj⟩]
    exact g _ _ (by omega) (by omega) (by omega) (by omega)
   ·rw [if_neg (by omega)]
    by_cases hj':n' - (q' + 1)<=j
    ·rw [if_pos ⟨hj',hj⟩];exact b _ _ (by omega) (by omega)
    ·rw [if_neg (by omega)];exact b i j hij hj
  ·rw [if_neg hq]
   exact I0 o hn hc a b (by omega) (by omega) hz fun m p2 x y z w=>hQ m p2 x y (by omega) w
theorem MX {p:Array Nat} {Q:Nat×Array Nat->Shared->Prop} (ha:Arr n0 p) (hQ:∀ m p',Arr n0 p'->oM lt p' m->1<=m->m<=n0->Q (m,p') s):(kas_count n0 p).kasWp cmp Q s:=by
 unfold kas_count
 rw [KasT.kasWp_bind]
 refine Fu o hn hc ha (n0 - 1) 1 (fun i j hij hj=>?_) (Nat.le_refl _) fun n m1 m2 hs hl=>?_
 ·have e1:i=0:=by omega
  have e2:j=0:=by omega
  subst e1;subst e2;exact o.rf _
 ·by_cases he:n=n0
  ·subst he
   simp only [beq_self_eq_true,if_true]
   exact hQ n p ha hs m1 (Nat.le_refl _)
  ·have hne:(n == n0)=false:=by simpa using he
   simp only [hne,Bool.false_eq_true,if_false]
   have hlt:=hl (by omega)
   have hx:=o.as _ _ hlt
   have grow:∀ p':Array Nat,su lt p' n->P p' n=P p n->lt (P p' (n - 1)) (P p n)=false->su lt p' (n + 1):=fun p' h e1 e2 i j hij hj=>by
    by_cases hjn:j < n
    ·exact h i j hij hjn
    ·have:j=n:=by omega
     subst this
     by_cases hin:i=j
     ·subst hin;exact o.rf _
     ·rw [e1]
      exact o.tr _ (P p' (j - 1)) _ e2 (h i (j - 1) (by omega) (by omega))
   by_cases h1:n > 1
   ·rw [if_pos h1]
    refine hc _ _ _ (ha.bd hn 0) (ha.bd hn (n - 1)) ?_
    cases hb:lt (P p 0) (P p (n - 1)) with
    | true =>
     show (if lt (P p 0) (P p (n - 1))=true then KasT.ret (n,p) else kas_descPart n n0 (kas_rev p 0 n)).kasWp cmp Q s
     rw [hb,if_pos rfl]
     exact hQ n p ha hs m1 (by omega)
    | false =>
     have all:∀ i j,i < n->j < n->lt (P p i) (P p j)=false:=fun i j hi hj=>o.tr (P p j) (P p (n - 1)) (P p i) (hs j (n - 1) (by omega) (by omega)) (o.tr (P p (n - 1)) (P p 0) (P p i) hb (hs 0 i (by omega) hi))
     have hns:n<=p.size:=by rw [ha.sz];omega
     show (if lt (P p 0) (P p (n - 1))=true then KasT.ret (n,p) else kas_descPart n n0 (kas_rev p 0 n)).kasWp cmp Q s
     rw [hb,if_neg (by decide)]
     refine Ja o hn hc (ha.rev 0 n) (grow _ (fun i j hij hj=>?_) ?_ ?_) (by omega) (Nat.le_refl _) fun m p' a b c d=>hQ m p' a b c d
     ·rw [sv hns,sv hns,if_pos ⟨by omega,by omega⟩,if_pos ⟨by omega,hj⟩]
      exact all _ _ (by omega) (by omega)
     ·rw [sv hns,if_neg (by omega)]
     ·rw [sv hns,if_pos ⟨by omega,by omega⟩,show 0 + n - 1 - (n - 1)=0 by omega]
      exact o.tr (P p n) (P p (n - 1)) (P p 0) hx hb
   ·rw [if_neg h1]
    have:n=1:=by omega
    subst this
    refine Ja o hn hc ha (grow p (fun i j hij hj=>?_) rfl hx) (by omega) (Nat.le_refl _) fun m p' a b c d=>hQ m p' a b c d
    have e1:i=0:=by omega
    have e2:j=0:=by omega
    subst e1;subst e2;exact o.rf _
theorem Fv {p:Array Nat} {k:Nat} {Q:Nat->Shared->Prop} (ha:Arr n0 p) (hs:oM lt p k):∀ (f l r:Nat),r<=l + f->l<=r->r<=k->(∀ i,i < l->lt (P p k) (P p i)=false)->(∀ i,r<=i->i < k->lt (P p k) (P p i)=true) ->
  (∀ m,m<=k->(∀ i,i < m->lt (P p k) (P p i)=false)->(∀ i,m<=i->i < k->lt (P p k) (P p i)=true)->Q m s)->(kas_place p k f l r).kasWp cmp Q s
 | 0,l,r,hf,hlr,hrk,h1,h2,q=>by
  have:l=r:=by omega
  subst this
  exact q l hrk h1 h2
 | f + 1,l,r,hf,hlr,hrk,h1,h2,q=>by
  unfold kas_place
  by_cases hge:l >= r
  ·rw [if_pos hge]
   have:l=r:=by omega
   subst this
   exact q l hrk h1 h2
  ·rw [if_neg hge]
   refine hc _ _ _ (ha.bd hn k) (ha.bd hn ((l + r) / 2)) ?_
   show (if lt (P p k) (P p ((l + r) / 2))=true then kas_place p k f l ((l + r) / 2) else kas_place p k f ((l + r) / 2 + 1) r).kasWp cmp Q s
   cases hb:lt (P p k) (P p ((l + r) / 2)) with
   | true =>
    rw [if_pos rfl]
    refine Fv ha hs f l ((l + r) / 2) (by omega) (by omega) (by omega) h1 (fun i i1 i2=>?_) q
    cases hx:lt (P p k) (P p i) with
    | true=>rfl
    | false =>
     have:=o.tr (P p ((l + r) / 2)) (P p i) (P p k) (hs _ _ i1 i2) hx
     rw [hb] at this;cases this
   | false =>
    rw [if_neg (by decide)]
    refine Fv ha hs f ((l + r) / 2 + 1) r (by omega) (by omega) hrk (fun i i1=>?_) h2 q
    exact o.tr (P p i) (P p ((l + r) / 2)) (P p k) (hs _ _ (by omega) (by omega)) hb
theorem Jb {Q:Array Nat->Shared->Prop}:∀ (f:Nat) (p:Array Nat) (k:Nat),Arr n0 p->oM lt p k->1<=k->k + f=n0->(∀ p',Arr n0 p'->oM lt p' n0->Q p' s)->(kas_bin f p k).kasWp cmp Q s
 | 0,p,k,ha,hs,h1,hf,q=>q p ha (by rw [<- hf];exact hs)
 | f + 1,p,k,ha,hs,h1,hf,q=>by
  unfold kas_bin
  rw [KasT.kasWp_bind]
  refine Fv o hn hc ha hs k 0 k (by omega) (by omega) (Nat.le_refl _) (fun i h=>absurd h (Nat.not_lt_zero _)) (fun i a b=>by omega) fun l hl MY h2'=>?_
  have hk:k < p.size:=by rw [ha.sz];omega
  refine Jb f _ (k + 1) (ha.MW _ _) (fun i j hij hj=>?_) (by omega) (by omega) q
  rw [IZ hk (by omega),IZ hk (by omega),show k - (k - l)=l by omega]
  by_cases hi:i=l
  ·rw [if_pos hi]
   by_cases hj':j=l
   ·rw [if_pos hj'];exact o.rf _
   ·rw [if_neg hj',if_pos ⟨by omega,by omega⟩]
    exact o.as _ _ (h2' (j - 1) (by omega) (by omega))
  ·rw [if_neg hi]
   by_cases hj':j=l
   ·rw [if_pos hj',if_neg (by omega)]
    exact MY i (by omega)
   ·rw [if_neg hj']
    by_cases hi2:l < i
    ·rw [if_pos (show l < j/\j<=k by omega),if_pos (show l < i/\i<=k by omega)]
     exact hs _ _ (by omega) (by omega)
    ·by_cases hj2:l < j
     ·rw [if_pos (show l < j/\j<=k by omega),if_neg (show ¬ (l < i/\i<=k) by omega)];exact hs _ _ (by omega) (by omega)
     ·rw [if_neg (show ¬ (l < j/\j<=k) by omega),if_neg (show ¬ (l < i/\i<=k) by omega)];exact hs _ _ hij (by omega)
theorem MZ {Q:Array Nat->Shared->Prop} (q:∀ p',Arr n0 p'->oM lt p' n0->Q p' s):(kas_sort n0).kasWp cmp Q s:=by
 unfold kas_sort
 rw [KasT.kasWp_bind]
 have ha:Arr n0 (List.toArray (List.range n0)):=⟨by simp,by simp⟩
 refine MX o hn hc ha fun m p' a b c d=>?_
 show (if m < n0 then kas_bin (n0 - max m 1) p' (max m 1) else KasT.ret p').kasWp cmp Q s
 rw [show max m 1=m by omega]
 by_cases h:m < n0
 ·rw [if_pos h]
  exact Jb o hn hc (n0 - m) p' m a b c (by omega) q
 ·rw [if_neg h]
  have:m=n0:=by omega
  subst this
  exact q p' a b
end
def mQ (fin:Bool):List PyData->List PyData->Bool
 | x :: xs,y :: ys=>if PyData.eqv x y then mQ fin xs ys else j3 x y
 | _,_=>fin
theorem Jc:∀ xs ys:List PyData,mQ (decide (xs.length < ys.length)) xs ys=cG xs ys
 | [],[]=>rfl
 | [],_ :: _=>by simp [mQ,cG]
 | _ :: _,[]=>by simp [mQ,cG]
 | x :: xs,y :: ys=>by
  have e:decide ((x :: xs).length < (y :: ys).length)=decide (xs.length < ys.length):=by simp
  rw [e]
  show (if PyData.eqv x y=true then mQ (decide (xs.length < ys.length)) xs ys else j3 x y)=if PyData.eqv x y=true then cG xs ys else j3 x y
  rw [Jc xs ys]
def sx (mD:Bool):PyData->Bool
 | .tuple (.int _ :: _)=>!mD
 | .tuple (.tuple _ :: _)=>mD
 | _=>false
section
variable {prog:Program} {w:World} {A:Around} {E:Value->Shared->Prop} {s:Shared}
theorem Jd {b fin:Bool} {Q:Bool->Shared->Prop}:∀ (xs ys:List PyData) (vs ws:List Value) (as bs:List Addr) (i:Nat),ReadsAll s.heap vs xs as->ReadsAll s.heap ws ys bs->c3 xs ys=true->PyData.canLayAll0 xs=true->PyData.canLayAll0 ys=true->A.units + min (PyData.depthAll xs) (PyData.depthAll ys) < cLine ->
  (b=true->i=0->∀ x r,xs=x :: r->∃ n,x=.int n)->Q (mQ fin xs ys) s->KatLex prog w A b fin Q (vs.zip ws) i s
 | [],_,_,_,_,_,i,ra,rb,_,_,_,_,_,q=>by cases ra;exact q
 | _ :: _,[],_,_,_,_,i,ra,rb,_,_,_,_,_,q=>by cases rb;cases ra;exact q
 | x :: xs,y :: ys,_,_,_,_,i,ra,rb,ok,ha,hb,hu,hf,q=>by
  have a':x.canLay0=true/\PyData.canLayAll0 xs=true:=by simpa [PyData.canLayAll0] using ha
  have b':y.canLay0=true/\PyData.canLayAll0 ys=true:=by simpa [PyData.canLayAll0] using hb
  have o':eX x y=true/\c3 xs ys=true:=by simpa [c3] using ok
  cases ra with
  | cons r rs =>
   cases rb with
   | cons r' rs' =>
    refine kat_cons (SeqAt.eqAt_reads x y A s _ _ _ _ r r' a'.1 b'.1 (SeqAt.room_head hu) prog w _ _ ?_)
    cases he:PyData.eqv x y with
    | true =>
     refine kat_yes (Jd xs ys _ _ _ _ (i + 1) rs rs' o'.2 a'.2 b'.2 (SeqAt.room_tail hu) (fun _ z=>absurd z (Nat.succ_ne_zero _)) ?_)
     rw [mQ,he,if_pos rfl] at q
     exact q
    | false =>
     rw [mQ,he,if_neg (by decide)] at q
     refine kat_no ?_
     cases hbi:(b && i == 0) with
     | true =>
      have hb1:b=true/\i=0:=by simpa using hbi
      obtain ⟨n,rfl⟩:=hf hb1.1 hb1.2 x xs rfl
      cases y with
      | int m =>
       cases r with
       | int _ t =>
        cases r' with
        | int _ u=>exact oneLt_int q
      | none=>cases o'.1
      | bool _=>cases o'.1
      | str _=>cases o'.1
      | list _=>cases o'.1
      | tuple _=>cases o'.1
      | dict _=>cases o'.1
     | false=>exact kat_one _ _ (Fp x y A s _ _ _ _ r r' o'.1 a'.1 b'.1 (SeqAt.room_head hu) prog w _ _ q)
theorem M0 {mD:Bool} {vs:List Value} {ds:List PyData} {as:List Addr} {i j:Nat} {C:Bool->Shared->Prop} (ra:ReadsAll s.heap vs ds as) (hh:∀ d∈ds,sx mD d=true) (hok:∀ a∈ds,∀ b∈ds,eX a b=true) (hlay:∀ a∈ds,a.canLay0=true/\a.depth<=50) (hu:A.units + 52 < cLine)
  (hi:i < vs.length) (hj:j < vs.length) (q:C (lT ds i j) s):kas_ask prog w A (tuples' (!mD)) vs i j C s:=by
 obtain ⟨a1,r1,m1⟩:=zz (i:=i) (v:=vs.getD i Value.none) ra (by rw [List.getD_eq_getElem?_getD,List.getElem?_eq_getElem hi];rfl)
 obtain ⟨a2,r2,m2⟩:=zz (i:=j) (v:=vs.getD j Value.none) ra (by rw [List.getD_eq_getElem?_getD,List.getElem?_eq_getElem hj];rfl)
 have ok:=hok _ m1 _ m2
 have l1:=hlay _ m1
 have l2:=hlay _ m2
 have h1:=hh _ m1
 unfold lT at q
 unfold kas_ask
 generalize vs.getD i Value.none=v at r1
 generalize vs.getD j Value.none=v' at r2
 generalize ds.getD i .none=d at r1 ok l1 h1 q
 generalize ds.getD j .none=d' at r2 ok l2 q
 cases d with
 | tuple xs =>
  cases d' with
  | tuple ys =>
   cases r1 with
   | @tuple l o us n _ IW g1 g2 g3 g4 =>
    cases r2 with
    | @tuple l' o2 us' n' _ MS k1 k2 k3 k4 =>
     have n1:us.size=xs.length:=by simpa using SeqAt.ReadsAll.length _ _ _ g4
     have n2:us'.size=ys.length:=by simpa using SeqAt.ReadsAll.length _ _ _ k4
     have dp:PyData.depthAll xs + 1<=50:=l1.2
     refine kat_lt g1 g3 k1 k3 ?_
     rw [n1,n2]
     refine Jd xs ys _ _ _ _ 0 g4 k4 ok l1.1 l2.1 (by omega) (fun hb _ x r e=>?_) (by rw [Jc];exact q)
     subst e
     have hT:mD=false:=by simpa using hb
     subst hT
     cases x with
     | int n=>exact ⟨n,rfl⟩
     | none=>cases h1
     | bool _=>cases h1
     | str _=>cases h1
     | list _=>cases h1
     | tuple _=>cases h1
     | dict _=>cases h1
  | none=>cases ok
  | bool _=>cases ok
  | str _=>cases ok
  | list _=>cases ok
  | int _=>cases ok
  | dict _=>cases ok
 | none=>cases h1
 | bool _=>cases h1
 | str _=>cases h1
 | list _=>cases h1
 | int _=>cases h1
 | dict _=>cases h1
theorem Je {mD:Bool} {h:Heap}:∀ {ds:List PyData} {vs:List Value} {as:List Addr},ReadsAll h vs ds as->(∀ d∈ds,sx mD d=true)->∃ fs,KatTups h vs fs/\fs.length=vs.length/\∀ f∈fs,(mD=false/\∃ n t,f=.int n t)\/(mD=true/\∃ a o,f=.ref a/\h.get? a=some o/\o.cls=.type "tuple")
 | [],_,_,r,_=>by cases r;exact ⟨[],trivial,rfl,fun f hf=>nomatch hf⟩
 | d :: ds,_,_,r,hh=>by
  cases r with
  | cons r rs =>
   obtain ⟨fs,t,hl,hf⟩:=Je rs fun d hd=>hh d (List.mem_cons_of_mem _ hd)
   have h1:=hh d List.mem_cons_self
   cases d with
   | tuple xs =>
    cases r with
    | @tuple l o us n _ IW g1 g2 g3 g4 =>
     cases xs with
     | nil=>cases h1
     | cons x xs =>
      have hz:∃ u r,us.toList=u :: r/\∃ Jf,Reads h u x Jf:=by
       generalize us.toList=L at g4
       cases g4 with
       | cons q _=>exact ⟨_,_,rfl,_,q⟩
      obtain ⟨u,r0,eL,Jf,q⟩:=hz
      have e0:us[0]?=some u:=by rw [<- Array.getElem?_toList,eL];rfl
      refine ⟨u :: fs,⟨⟨l,o,us,n,rfl,g1,g2,g3,e0⟩,t⟩,by simp [hl],fun f hf'=>?_⟩
      rcases List.mem_cons.mp hf' with rfl | hf'
      ·cases x with
       | int n =>
        cases q with
        | int _ t=>exact .inl ⟨by simpa [sx] using h1,_,_,rfl⟩
       | tuple _ =>
        cases q with
        | tuple k1 k2 k3 k4=>exact .inr ⟨by simpa [sx] using h1,_,_,rfl,k1,k2⟩
       | none=>cases h1
       | bool _=>cases h1
       | str _=>cases h1
       | list _=>cases h1
       | dict _=>cases h1
      ·exact hf f hf'
   | none=>cases h1
   | bool _=>cases h1
   | str _=>cases h1
   | list _=>cases h1
   | int _=>cases h1
   | dict _=>cases h1
theorem M1 {mD:Bool} {vs:List Value} {ds:List PyData} {as:List Addr} {Q:SortKind->Shared->Prop} (ra:ReadsAll s.heap vs ds as) (hh:∀ d∈ds,sx mD d=true) (hn:0 < vs.length) (q:Q (tuples' (!mD)) s):wpAny (model prog w) A (keyKind' vs.toArray) Q E s:=by
 obtain ⟨fs,t,hl,hf⟩:=Je ra hh
 cases mD with
 | false =>
  refine kat_kind (T:=.type "int") t (by omega) (fun v hv=>?_) (by decide) q
  rcases hf v hv with ⟨_,n,t,rfl⟩ | ⟨z,_⟩
  ·exact Looks.of_pure rfl
  ·cases z
 | true =>
  refine kat_kind (T:=.type "tuple") t (by omega) (fun v hv=>?_) (by decide) q
  rcases hf v hv with ⟨z,_⟩ | ⟨_,a,o,rfl,ho,hc⟩
  ·cases z
  ·rw [<- hc]
   exact (Looks.ld ho).andThen .now
end
def nZ (a:Addr) (h h':Heap):Prop:=∀ b o,b≠a->h.get? b=some o->h'.get? b=some o
def lI (vs:List Value) (p:Array Nat):Array Value:=List.toArray (p.toList.map fun i=>vs.getD i Value.none)
theorem M3 (vs:List Value):lI vs (List.toArray (List.range vs.length))=vs.toArray:=by
 unfold lI
 congr 1
 refine List.ext_getElem? fun i=>?_
 rw [List.getElem?_map]
 by_cases h:i < vs.length
 ·rw [List.getElem?_eq_getElem (by simpa using h)]
  simp [h]
 ·rw [List.getElem?_eq_none (by simpa using h),List.getElem?_eq_none (by simpa using h)];rfl
section
variable {prog:Program} {w:World} {A:Around} {E:Value->Shared->Prop} {s:Shared} {lt:Nat->Nat->Bool}
theorem M4 {a:Addr} {vs:List Value} {n:Nat} {R:PySem.Fin->Shared->Prop} (ho:s.heap.get? a=some (seqObj "list" vs.toArray n)) (h64:vs.length < 64) (o:Ord lt)
  (hk:2<=vs.length->∀ s':Shared,nZ a s.heap s'.heap->∃ κ,(∀ Q:SortKind->Shared->Prop,Q κ s'->wpAny (model prog w) A (keyKind' vs.toArray) Q E s')/\∀ i j (C:Bool->Shared->Prop),i < vs.length->j < vs.length->C (lt i j) s'->kas_ask prog w A κ vs i j C s')
  (h:∀ p:Array Nat,Arr vs.length p->oM lt p vs.length->R (.done (.ret .none)) { s with heap:=sortedHeap s.heap a vs (lI vs p) }):wpAny (model prog w) A (Builtin.«list.sort» ⟨[.ref a],[]⟩) R E s:=by
 rw [list_sort_plain]
 have halt:a < s.heap.objs.size:=Heap.lt_size ho
 have hsl:sizeLine=sizeLine:=rfl
 have pC:vs.length<=sizeLine:=Nat.le_trans (Nat.le_of_lt h64) (by decide)
 refine wpAny_bind (listItems_at ho rfl (wpAny_bind (listUpdate_at ho rfl ?_ (by rw [List.size_toArray];exact pC) (Nat.zero_le _))))
 obtain ⟨e1,CA⟩:∃ e1,(s.heap.update a (Obj.mapSeq fun _=>(#[]:Array Value))).get? a=some (seqObj "list" #[] e1):=⟨_,get?_update_seq ho fun _=>#[]⟩
 refine wpAny_bind (seqEpoch_at CA rfl (wpAny_bind (wpAny_newTuple (wpAny_bind (wpAny_newList (wpAny_holding ?_) (Nat.zero_le _))) (by show vs.length<=_;exact pC))))
 have ne1:a≠(s.heap.update a (Obj.mapSeq fun _=>(#[]:Array Value))).objs.size:=by rw [Heap.size_update];exact Nat.ne_of_lt halt
 have ho6:(((s.heap.update a (Obj.mapSeq fun _=>(#[]:Array Value))).push (seqObj "tuple" vs.toArray 0)).push (seqObj "list" #[] 0)).get? a=some (seqObj "list" #[] e1):=Heap.get?_push_of_some _ (Heap.get?_push_of_some _ CA)
 have kb:nZ a s.heap (((s.heap.update a (Obj.mapSeq fun _=>(#[]:Array Value))).push (seqObj "tuple" vs.toArray 0)).push (seqObj "list" #[] 0)):=fun b o hb e=>Heap.get?_push_of_some _ (Heap.get?_push_of_some _ ((Heap.get?_update_other _ _ (Ne.symm hb)).trans e))
 show wpAny (model prog w) A _ R E { s with heap:=((s.heap.update a (Obj.mapSeq fun _=>(#[]:Array Value))).push (seqObj "tuple" vs.toArray 0)).push (seqObj "list" #[] 0) }
 dsimp only
 by_cases h2:vs.toArray.size < 2
 ·rw [if_pos h2,if_pos h2]
  refine wpAny_bind (wpAny_pure ?_)
  rw [StateT.run_pure]
  refine wpAny_bind (wpAny_pure ?_)
  dsimp only
  have eo:(arrOf (SortSt.mk' general' (vs.toArray.zip vs.toArray) #[] 7 none)).map (·.2)=lI vs (List.toArray (List.range vs.length)):=by
   rw [M3]
   show (vs.toArray.zip vs.toArray).map (·.2)=vs.toArray
   apply Array.toList_inj.mp
   simp [List.map_snd_zip]
  refine wpAny_bind (seqEpoch_at ho6 rfl ?_)
  rw [eo]
  refine wpAny_bind (listUpdate_at ho6 rfl ?_ (Nat.zero_le _) (by unfold lI;rw [List.size_toArray,List.length_map,Array.length_toList,List.size_toArray,List.length_range];omega))
  simp only [bne_self_eq_false,Bool.false_eq_true,if_false]
  refine wpAny_pure (h _ ⟨by simp,by simp⟩ fun i j hij hj=>?_)
  have e:i=j:=by rw [List.size_toArray] at h2;omega
  subst e;exact o.rf _
 ·rw [if_neg h2,if_neg h2]
  have h2':2<=vs.length:=by rw [List.size_toArray] at h2;omega
  obtain ⟨κ,hkk,Fw⟩:=hk h2' { s with heap:=((s.heap.update a (Obj.mapSeq fun _=>(#[]:Array Value))).push (seqObj "tuple" vs.toArray 0)).push (seqObj "list" #[] 0) } kb
  refine wpAny_bind (hkk _ ?_)
  have run:=kat_run (prog:=prog) (w:=w) (A:=A) (E:=E) (κ:=κ) (ks:=vs) (vs:=vs) (s:={ s with heap:=((s.heap.update a (Obj.mapSeq fun _=>(#[]:Array Value))).push (seqObj "tuple" vs.toArray 0)).push (seqObj "list" #[] 0) }) (Q:=fun st' s'=>∃ p:Array Nat,arrOf st'=p.map (kas_item (vs.toArray.zip vs.toArray))/\failedOf st'=none/\s'={ s with heap:=((s.heap.update a (Obj.mapSeq fun _=>(#[]:Array Value))).push (seqObj "tuple" vs.toArray 0)).push (seqObj "list" #[] 0) }/\Arr vs.length p/\oM lt p vs.length)
   (G:=fun p s'=>s'={ s with heap:=((s.heap.update a (Obj.mapSeq fun _=>(#[]:Array Value))).push (seqObj "tuple" vs.toArray 0)).push (seqObj "list" #[] 0) }/\Arr vs.length p/\oM lt p vs.length) rfl h2' h64 (fun p st' s' _ x y z=>⟨p,x,y,z⟩)
   (MZ o (by omega) Fw fun p' x y=>⟨rfl,x,y⟩)
  refine wpAny_bind (wpAny_mono run ?_ fun _ _ z=>z)
  rintro ⟨⟨⟩,st'⟩ s' ⟨p,har,hf,rfl,hA,hS⟩
  dsimp only
  have eo:(arrOf st').map (·.2)=lI vs p:=kat_snds rfl har
  refine wpAny_bind (seqEpoch_at ho6 rfl ?_)
  rw [eo]
  refine wpAny_bind (listUpdate_at ho6 rfl ?_ (Nat.zero_le _) (by unfold lI;rw [List.size_toArray,List.length_map,Array.length_toList,hA.sz];omega))
  rw [hf]
  simp only [bne_self_eq_false,Bool.false_eq_true,if_false]
  exact wpAny_pure (h p hA hS)
theorem M5 {l:Addr} {vs:List Value} {Q:Value->Shared->Prop} (hl:s.heap.IsList l vs.toArray) (h64:vs.length < 64) (o:Ord lt)
  (hk:2<=vs.length->∀ (s':Shared) (E':Value->Shared->Prop),gh s.heap s'.heap->∃ κ,(∀ Q:SortKind->Shared->Prop,Q κ s'->wpAny (model prog w) A.in1.in1 (keyKind' vs.toArray) Q E' s')/\∀ i j (C:Bool->Shared->Prop),i < vs.length->j < vs.length->C (lt i j) s'->kas_ask prog w A.in1.in1 κ vs i j C s')
  (h:∀ p:Array Nat,Arr vs.length p->oM lt p vs.length->Q (.ref (s.heap.objs.size + 1)) { s with heap:=sortedAll s.heap vs (lI vs p) }):wpAny (model prog w) A (call (.builtin "sorted") [.ref l]) Q E s:=by
 have pC:vs.length<=sizeLine:=Nat.le_trans (Nat.le_of_lt h64) (by decide)
 refine Calls.call_function_entry kind_sorted plain_sorted entry_sorted (args_sorted1 _) ?_
 unfold Builtin.«sorted»
 refine wpAny_bind (m:=checkCount "sorted" 1 1 _) (wpAny_pure (wpAny_bind (collect_list hl (wpAny_bind (wpAny_newList ?_ pC)) pC)))
 have hsz:((s.heap.push (seqObj "list" #[] 0)).update s.heap.objs.size (Obj.mapSeq (· ++ vs.toArray))).objs.size=s.heap.objs.size + 1:=(Heap.size_update _ _ _).trans (size_push' _ _)
 have Ce:(((s.heap.push (seqObj "list" #[] 0)).update s.heap.objs.size (Obj.mapSeq (· ++ vs.toArray))).push (seqObj "list" vs.toArray 0)).get? (s.heap.objs.size + 1)=some (seqObj "list" vs.toArray 0):=hsz ▸ Heap.get?_push_size _ rfl
 show wpAny (model prog w) _ _ _ _ { s with heap:=((s.heap.push (seqObj "list" #[] 0)).update s.heap.objs.size (Obj.mapSeq (· ++ vs.toArray))).push (seqObj "list" vs.toArray 0) }
 rw [hsz]
 have k1:gh s.heap (((s.heap.push (seqObj "list" #[] 0)).update s.heap.objs.size (Obj.mapSeq (· ++ vs.toArray))).push (seqObj "list" vs.toArray 0)):=fun b o e=>Heap.get?_push_of_some _ ((Heap.get?_update_other _ _ (Ne.symm (Nat.ne_of_lt (Heap.lt_size e)))).trans (Heap.get?_push_of_some _ e))
 refine wpAny_bind (wpAny_holding (wpAny_call_entry slot_list_sort ⟨_,Ce,rfl⟩ entry_list_sort (M4 Ce h64 o (fun h2 s' kb=>hk h2 s' _ fun b o' e=>kb b o' (fun z=>?_) (k1 b o' e)) fun p a1 a2=>⟨_,rfl,?_⟩) (args_list_sort _)))
 ·have:=Heap.lt_size e
  rw [z] at this
  exact absurd this (Nat.not_lt_of_le (Nat.le_succ _))
 ·exact wpAny_pure ⟨_,rfl,h p a1 a2⟩
end
mutual
theorem Fx:∀ (a b:PyData),eX a b=true->(PyData.eqv a b=true↔a=b)
 | .int x,.int y,_=>by show ((x == y)=true)↔_;simp
 | .tuple xs,.tuple ys,h=>by show PyData.eqvAll xs ys=true↔_;rw [Jg xs ys h];simp
 | .int _,.none,h=>nomatch h
 | .int _,.bool _,h=>nomatch h
 | .int _,.str _,h=>nomatch h
 | .int _,.list _,h=>nomatch h
 | .int _,.tuple _,h=>nomatch h
 | .int _,.dict _,h=>nomatch h
 | .tuple _,.none,h=>nomatch h
 | .tuple _,.bool _,h=>nomatch h
 | .tuple _,.int _,h=>nomatch h
 | .tuple _,.str _,h=>nomatch h
 | .tuple _,.list _,h=>nomatch h
 | .tuple _,.dict _,h=>nomatch h
 | .none,_,h=>by simp [eX] at h
 | .bool _,_,h=>by simp [eX] at h
 | .str _,_,h=>by simp [eX] at h
 | .list _,_,h=>by simp [eX] at h
 | .dict _,_,h=>by simp [eX] at h
theorem Jg:∀ (xs ys:List PyData),c3 xs ys=true->(PyData.eqvAll xs ys=true↔xs=ys)
 | [],[],_=>by simp [PyData.eqvAll]
 | [],_ :: _,_=>by simp [PyData.eqvAll]
 | _ :: _,[],_=>by simp [PyData.eqvAll]
 | x :: xs,y :: ys,h=>by
  have h':eX x y=true/\c3 xs ys=true:=by simpa [c3] using h
  rw [PyData.eqvAll,Bool.and_eq_true,Fx x y h'.1,Jg xs ys h'.2]
  simp
end
theorem zB {x y:PyData} {xs ys:List PyData} (h:eX x y=true):cG (x :: xs) (y :: ys)=true↔(x=y/\cG xs ys=true)\/(x≠y/\j3 x y=true):=by
 rw [cG]
 by_cases e:x=y
 ·rw [if_pos ((Fx x y h).mpr e)];simp [e]
 ·rw [if_neg (fun z=>e ((Fx x y h).mp z))];simp [e]
mutual
theorem Fy:∀ a:PyData,j3 a a=false
 | .int x=>by simp [j3]
 | .tuple xs=>by show cG xs xs=false;exact Jh xs
 | .none=>rfl
 | .bool _=>rfl
 | .str _=>rfl
 | .list _=>rfl
 | .dict _=>rfl
theorem Jh:∀ xs:List PyData,cG xs xs=false
 | []=>rfl
 | x :: xs=>by
  rw [cG]
  split
  ·exact Jh xs
  ·exact Fy x
end
mutual
theorem Fz:∀ (a b:PyData),eX a b=true->eX b a=true->j3 a b=false->j3 b a=false->a=b
 | .int x,.int y,_,_,h1,h2=>by
  have h1:=of_decide_eq_false h1
  have h2:=of_decide_eq_false h2
  rw [show x=y by omega]
 | .tuple xs,.tuple ys,o1,o2,h1,h2=>by rw [Ji xs ys o1 o2 h1 h2]
 | .int _,.none,h,_,_,_=>nomatch h
 | .int _,.bool _,h,_,_,_=>nomatch h
 | .int _,.str _,h,_,_,_=>nomatch h
 | .int _,.list _,h,_,_,_=>nomatch h
 | .int _,.tuple _,h,_,_,_=>nomatch h
 | .int _,.dict _,h,_,_,_=>nomatch h
 | .tuple _,.none,h,_,_,_=>nomatch h
 | .tuple _,.bool _,h,_,_,_=>nomatch h
 | .tuple _,.int _,h,_,_,_=>nomatch h
 | .tuple _,.str _,h,_,_,_=>nomatch h
 | .tuple _,.list _,h,_,_,_=>nomatch h
 | .tuple _,.dict _,h,_,_,_=>nomatch h
 | .none,_,h,_,_,_=>by simp [eX] at h
 | .bool _,_,h,_,_,_=>by simp [eX] at h
 | .str _,_,h,_,_,_=>by simp [eX] at h
 | .list _,_,h,_,_,_=>by simp [eX] at h
 | .dict _,_,h,_,_,_=>by simp [eX] at h
theorem Ji:∀ (xs ys:List PyData),c3 xs ys=true->c3 ys xs=true->cG xs ys=false->cG ys xs=false->xs=ys
 | [],[],_,_,_,_=>rfl
 | [],_ :: _,_,_,h,_=>by simp [cG] at h
 | _ :: _,[],_,_,_,h=>by simp [cG] at h
 | x :: xs,y :: ys,o1,o2,h1,h2=>by
  have a:eX x y=true/\c3 xs ys=true:=by simpa [c3] using o1
  have b:eX y x=true/\c3 ys xs=true:=by simpa [c3] using o2
  have n1:¬ ((x=y/\cG xs ys=true)\/(x≠y/\j3 x y=true)):=fun z=>by rw [<- zB a.1] at z;rw [h1] at z;cases z
  have n2:¬ ((y=x/\cG ys xs=true)\/(y≠x/\j3 y x=true)):=fun z=>by rw [<- zB b.1] at z;rw [h2] at z;cases z
  by_cases e:x=y
  ·subst e
   rw [Ji xs ys a.2 b.2 (by cases q:cG xs ys with | false=>rfl | true=>exact absurd (.inl ⟨rfl,q⟩) n1) (by cases q:cG ys xs with | false=>rfl | true=>exact absurd (.inl ⟨rfl,q⟩) n2)]
  ·exact absurd (Fz x y a.1 b.1 (by cases q:j3 x y with | false=>rfl | true=>exact absurd (.inr ⟨e,q⟩) n1) (by cases q:j3 y x with | false=>rfl | true=>exact absurd (.inr ⟨Ne.symm e,q⟩) n2)) e
end
mutual
theorem FA:∀ (a b c:PyData),eX a b=true->eX b c=true->eX a c=true->j3 a b=true->j3 b c=true->j3 a c=true
 | .int x,.int y,.int z,_,_,_,h1,h2=>by
  have h1:=of_decide_eq_true h1
  have h2:=of_decide_eq_true h2
  exact decide_eq_true (by omega)
 | .tuple xs,.tuple ys,.tuple zs,o1,o2,o3,h1,h2=>Jj xs ys zs o1 o2 o3 h1 h2
 | .int _,.int _,.none,_,h,_,_,_=>nomatch h
 | .int _,.int _,.bool _,_,h,_,_,_=>nomatch h
 | .int _,.int _,.str _,_,h,_,_,_=>nomatch h
 | .int _,.int _,.list _,_,h,_,_,_=>nomatch h
 | .int _,.int _,.tuple _,_,h,_,_,_=>nomatch h
 | .int _,.int _,.dict _,_,h,_,_,_=>nomatch h
 | .tuple _,.tuple _,.none,_,h,_,_,_=>nomatch h
 | .tuple _,.tuple _,.bool _,_,h,_,_,_=>nomatch h
 | .tuple _,.tuple _,.str _,_,h,_,_,_=>nomatch h
 | .tuple _,.tuple _,.list _,_,h,_,_,_=>nomatch h
 | .tuple _,.tuple _,.int _,_,h,_,_,_=>nomatch h
 | .tuple _,.tuple _,.dict _,_,h,_,_,_=>nomatch h
 | .int _,.none,_,h,_,_,_,_=>nomatch h
 | .int _,.bool _,_,h,_,_,_,_=>nomatch h
 | .int _,.str _,_,h,_,_,_,_=>nomatch h
 | .int _,.list _,_,h,_,_,_,_=>nomatch h
 | .int _,.tuple _,_,h,_,_,_,_=>nomatch h
 | .int _,.dict _,_,h,_,_,_,_=>nomatch h
 | .tuple _,.none,_,h,_,_,_,_=>nomatch h
 | .tuple _,.bool _,_,h,_,_,_,_=>nomatch h
 | .tuple _,.int _,_,h,_,_,_,_=>nomatch h
 | .tuple _,.str _,_,h,_,_,_,_=>nomatch h
 | .tuple _,.list _,_,h,_,_,_,_=>nomatch h
 | .tuple _,.dict _,_,h,_,_,_,_=>nomatch h
 | .none,_,_,h,_,_,_,_=>by simp [eX] at h
 | .bool _,_,_,h,_,_,_,_=>by simp [eX] at h
 | .str _,_,_,h,_,_,_,_=>by simp [eX] at h
 | .list _,_,_,h,_,_,_,_=>by simp [eX] at h
 | .dict _,_,_,h,_,_,_,_=>by simp [eX] at h
theorem Jj:∀ (xs ys zs:List PyData),c3 xs ys=true->c3 ys zs=true->c3 xs zs=true->cG xs ys=true->cG ys zs=true->cG xs zs=true
 | [],[],_,_,_,_,h,_=>by simp [cG] at h
 | [],_ :: _,[],_,_,_,_,h=>by simp [cG] at h
 | [],_ :: _,_ :: _,_,_,_,_,_=>by simp [cG]
 | _ :: _,[],_,_,_,_,h,_=>by simp [cG] at h
 | _ :: _,_ :: _,[],_,_,_,_,h=>by simp [cG] at h
 | x :: xs,y :: ys,z :: zs,o1,o2,o3,h1,h2=>by
  have a:eX x y=true/\c3 xs ys=true:=by simpa [c3] using o1
  have b:eX y z=true/\c3 ys zs=true:=by simpa [c3] using o2
  have c:eX x z=true/\c3 xs zs=true:=by simpa [c3] using o3
  rw [zB a.1] at h1
  rw [zB b.1] at h2
  rw [zB c.1]
  rcases h1 with ⟨rfl,h1⟩ | ⟨n1,h1⟩
  ·rcases h2 with ⟨rfl,h2⟩ | ⟨n2,h2⟩
   ·exact .inl ⟨rfl,Jj xs ys zs a.2 b.2 c.2 h1 h2⟩
   ·exact .inr ⟨n2,h2⟩
  ·rcases h2 with ⟨rfl,h2⟩ | ⟨n2,h2⟩
   ·exact .inr ⟨n1,h1⟩
   ·have h3:=FA x y z a.1 b.1 c.1 h1 h2
    exact .inr ⟨(fun e=>by rw [e,Fy] at h3;cases h3),h3⟩
end
theorem Jk {ds:List PyData} (hok:∀ a∈ds,∀ b∈ds,eX a b=true) (hn:ds≠[]):Ord fun i j=>lT ds (min i (ds.length - 1)) (min j (ds.length - 1)):=by
 have mem:∀ i,ds.getD (min i (ds.length - 1)) .none∈ds:=fun i=>by
  have hl:0 < ds.length:=List.length_pos_iff.mpr hn
  rw [List.getD_eq_getElem?_getD,List.getElem?_eq_getElem (by omega)]
  exact List.getElem_mem _
 have as:∀ a∈ds,∀ b∈ds,j3 a b=true->j3 b a=false:=fun a ha b hb h=>by
  cases q:j3 b a with
  | false=>rfl
  | true=>have:=FA a b a (hok a ha b hb) (hok b hb a ha) (hok a ha a ha) h q;rw [Fy] at this;cases this
 refine ⟨fun a b c h1 h2=>?_,fun a b h=>as _ (mem a) _ (mem b) h⟩
 have ma:=mem a
 have mb:=mem b
 have mc:=mem c
 unfold lT at h1 h2 ⊢
 generalize ds.getD (min a (ds.length - 1)) .none=x at *
 generalize ds.getD (min b (ds.length - 1)) .none=y at *
 generalize ds.getD (min c (ds.length - 1)) .none=z at *
 cases q:j3 z x with
 | false=>rfl
 | true =>
  cases q1:j3 x y with
  | true =>
   have:=FA z x y (hok z mc x ma) (hok x ma y mb) (hok z mc y mb) q q1
   rw [h2] at this;cases this
  | false =>
   have:=Fz x y (hok x ma y mb) (hok y mb x ma) q1 h1
   subst this
   rw [h2] at q;cases q
section
variable {X:Cx}
def pD (K:PySem.W.Frag):List V->Hp->VK->Prop:=fun xs H Q=>∃ (p:Addr) (vs:List V) (ds:List PyData),xs=[.ref p]/\iR K H p vs/\gy K H vs ds/\ds.length < 64/\(∀ a∈ds,∀ b∈ds,eX a b=true)/\(∀ a∈ds,a.canLay0=true/\a.depth<=50)/\(∃ mD,∀ d∈ds,sx mD d=true) /\
 ∀ (l:Addr) (is:List Nat),H l=none->is.Perm (List.range ds.length)->(is.map fun i=>ds.getD i .none).Pairwise (fun a b=>j3 b a=false)->Q (.ref l) (upd H l (.lst (is.map fun i=>vs.getD i .non)))
theorem Jl {vs:List V} {its:List Value} (r:Vals vs its):∀ (is:List Nat),(∀ i∈is,i < vs.length)->Vals (is.map fun i=>vs.getD i .non) (is.map fun i=>its.getD i Value.none)
 | [],_=>.nil
 | i :: is,h=>by
  have hi:=h i List.mem_cons_self
  obtain ⟨u,hu,ru⟩:=Vals.get r (List.getElem?_eq_getElem hi)
  refine .cons ?_ (Jl r is fun j hj=>h j (List.mem_cons_of_mem _ hj))
  show RelV (vs.getD i .non) (its.getD i Value.none)
  rw [List.getD_eq_getElem?_getD,List.getD_eq_getElem?_getD,List.getElem?_eq_getElem hi,hu]
  exact ru
theorem M6 (hu:X.A.units + 64 < cLine):hJ X (.builtin "sorted") (pD X.K):=by
 intro pins s σ H xs us Q I r h
 obtain ⟨p,vs,ds,rfl,hq,hr,h64,hok,hlay,⟨mD,hT⟩,q⟩:=h
 obtain ⟨u,rfl,ru⟩:=vals1 r
 cases ru
 obtain ⟨its,rv,pl,_⟩:=I.list hq
 obtain ⟨as,ra⟩:=gy.reads I hr rv
 have hlen:its.length=ds.length:=SeqAt.ReadsAll.length _ _ _ ra
 have hvl:vs.length=its.length:=rv.length
 have o:Ord fun i j=>lT ds (min i (ds.length - 1)) (min j (ds.length - 1)):=by
  by_cases hn:ds=[]
  ·subst hn;exact ⟨fun _ _ _ _ _=>rfl,fun _ _ _=>rfl⟩
  ·exact Jk hok hn
 refine M5 pl.isList (by omega) o (fun h2 s' E' hK=>⟨tuples' (!mD),fun Q' q'=>M1 (ReadsAll.keeps hK ra) hT (by omega) q',fun i j C hi hj c=>?_⟩) fun pp a1 a2=>?_
 ·refine M0 (ReadsAll.keeps hK ra) hT hok hlay (by show X.A.units + 1 + 1 + 52 < cLine;omega) hi hj ?_
  rw [show min i (ds.length - 1)=i by omega,show min j (ds.length - 1)=j by omega] at c
  exact c
 ·have hb:∀ i∈pp.toList,i < ds.length:=fun i hi=>by
   have:=List.mem_range.mp (a1.pm.subset hi)
   omega
  have hpl:pp.toList.length=ds.length:=by rw [Array.length_toList,a1.sz,hlen]
  obtain ⟨e,he⟩:=sortedAll_at s.heap its (lI its pp)
  refine ⟨.ref (s.heap.objs.size + 1),_,I.laid (t':=s.toks) (o:=.lst (pp.toList.map fun i=>vs.getD i .non)) (fun b o q=>sortedAll_old q) (Nat.le_succ _) ?_,rfl,q _ pp.toList (I.hok.fresh (Nat.le_succ _)) (by rw [<- hlen];exact a1.pm) ?_⟩
  ·refine ⟨by rw [List.length_map,hpl];exact Nat.le_trans (Nat.le_of_lt h64) (by decide),pp.toList.map fun i=>its.getD i Value.none,e,Jl rv _ fun i hi=>by rw [hvl,hlen];exact hb i hi,?_⟩
   have:lI its pp=(pp.toList.map fun i=>its.getD i Value.none).toArray:=rfl
   rw [<- this]
   exact he
  ·rw [List.pairwise_map,List.pairwise_iff_getElem]
   intro i j hi hj hij
   have:=a2 i j (Nat.le_of_lt hij) (by rw [hlen,<- hpl];exact hj)
   have e1:P pp i=pp.toList[i]:=by unfold P;rw [Array.getD_eq_getD_getElem?,<- Array.getElem?_toList,List.getElem?_eq_getElem hi];rfl
   have e2:P pp j=pp.toList[j]:=by unfold P;rw [Array.getD_eq_getD_getElem?,<- Array.getElem?_toList,List.getElem?_eq_getElem hj];rfl
   have b1:=hb _ (List.getElem_mem hi)
   have b2:=hb _ (List.getElem_mem hj)
   simp only [e1,e2,show min pp.toList[i] (ds.length - 1)=pp.toList[i] by omega,show min pp.toList[j] (ds.length - 1)=pp.toList[j] by omega] at this
   exact this
end
end L2
namespace L2
open PySem PySem.Spec PyProof.Rows
section
variable {X:Cx} {o e f:Expr} {apos cpos:Pos} {td ty tx:TE}
end
end L2
namespace L2
open PySem PySem.Spec PyProof.Rows PySem.W
section
variable {X:Cx} {o e:Expr} {t t' td:TE} {apos cpos pos p:Pos}
end
end L2
namespace L2
open PySem PySem.Spec PyProof.Rows
section
variable {X:Cx} {body:List Stmt} {h₀:ExceptHandler} {hs:List ExceptHandler} {pos:Pos} {t:TS}
end
end L2
namespace L2
open PySem PySem.Spec PyProof.Rows
section
variable {X:Cx} {K:PySem.W.Frag}
end
end L2
namespace L2
open PySem PySem.Spec PyProof.Rows
open Builtin
theorem M7 (k:Int) (t:Tok) (l:Addr) (items:Array Value) (n:Nat) (dd:Option Addr) (sl:Array (Option Value)) (hc0:(decide (k < -(2 ^ 63)) || decide (k >= 2 ^ 63))=false) (hc1:(items.isEmpty || k == 1)=false) (hc2:(decide (k<=0) || items.isEmpty)=false) (hc3:¬ (items.size:Int) * k > (2 ^ 63 - 1) / 8) (hc4:Builtin.Tuple.tupleTooMany ((items.size:Int) * k)=false) (hsz:((List.replicate k.toNat items).foldl (· ++ ·) #[]).size<=sizeLine) :
  Meets (Builtin.«tuple.__mul__» ⟨[.ref l,.int k t],[]⟩) (fun _ R s=>s.heap.get? l=some { cls:=.type "tuple",dict:=dd,data:=.seq items n,slots:=sl }/\R (.ok (.ret (.ref s.heap.objs.size))) { s with heap:=s.heap.push { cls:=.type "tuple",data:=.seq ((List.replicate k.toNat items).foldl (· ++ ·) #[]) } }) :=
 .of_wp fun prog w A R s h=>by
  obtain ⟨hp,g,d,tk,os⟩:=s;obtain ⟨hl,h⟩:=h
  wp_walk
  refine wpAny_ite_false (decide_eq_false (by rw [hc0];exact Bool.false_ne_true)) ?_
  wp_walk
  refine wpAny_ite_false (decide_eq_false hc3) ?_
  wp_walk
  exact ⟨_,rfl,h⟩
theorem Jm:∀ (l:List (Array Value)) (a:Array Value),(l.foldl (· ++ ·) a).toList=a.toList ++ (l.map Array.toList).flatten
 | [],a=>by simp
 | b :: l,a=>by rw [List.foldl_cons,Jm l (a ++ b)];simp
end L2
namespace L2
open PySem PySem.Spec PyProof.Rows
section
variable {X:Cx} {K:PySem.W.Frag}
def sy (K:PySem.W.Frag):R2:=fun x y H Q=>∃ a k xs,x=.ref a/\y=.int k/\eN K H a xs/\0 < xs.length/\xs.length<=100/\0<=k/\k<=1000/\l8 K H (List.replicate k.toNat xs).flatten Q
theorem Jn {α:Type} (l:List α):∀ n:Nat,(List.replicate n l).flatten.length=n * l.length
 | 0=>by simp
 | n + 1=>by rw [List.replicate_succ,List.flatten_cons,List.length_append,Jn l n,Nat.succ_mul];omega
theorem M8 {X:Cx}:jG X (binaryOp .Mult) (sy X.K):=by
 intro pins s σ H x y v u Q I rx ry h
 obtain ⟨a,k,xs,rfl,rfl,ha,Sk,Sl,hk1,hk2,q⟩:=h
 by_cases h1:k<=1
 ·refine MQ pins s σ H _ _ v u Q I rx ry ⟨a,k,xs,rfl,rfl,ha,hk1,h1,?_⟩
  by_cases h2:k=1
  ·subst h2
   have e:(List.replicate (1:Int).toNat xs).flatten=xs:=by simp
   rw [e] at q
   rw [if_pos rfl]
   exact q
  ·have h0:k=0:=by omega
   subst h0
   rw [if_neg h2]
   exact q
 ·cases rx
  obtain ⟨t,rfl⟩:=ry
  obtain ⟨its,r1,p1,_⟩:=I.tuple ha
  obtain ⟨⟨cls,dd,data,sl⟩,ho,hc,n,hd⟩:=id p1
  simp only at hc hd
  subst hc hd
  have hl1:its.length=xs.length:=r1.length.symm
  have hkn:k.toNat * its.length<=100000:=by
   have:k.toNat * its.length<=1000 * 100:=Nat.mul_le_mul (by omega) (by omega)
   omega
  have Sn:100000<=sizeLine:=by decide
  have hal:((List.replicate k.toNat its.toArray).foldl (· ++ ·) #[]).toList=(List.replicate k.toNat its).flatten:=by rw [Jm];simp
  have hsz:((List.replicate k.toNat its.toArray).foldl (· ++ ·) #[]).size<=sizeLine:=by
   rw [<- Array.length_toList,hal,Jn]
   omega
  have CF:((its.toArray.size:Nat):Int) * k<=100000:=by
   rw [List.size_toArray]
   have e:((k.toNat * its.length:Nat):Int)=(its.length:Int) * k:=by rw [Int.natCast_mul,Int.toNat_of_nonneg hk1,Int.mul_comm]
   omega
  have hem:its.toArray.isEmpty=false:=by
   cases its with
   | nil=>simp at hl1;omega
   | cons i r=>rfl
  refine wpAny_binaryOp_repeat_ref (T:="tuple") (U:="int") (by decide) ⟨_,ho,rfl⟩ (fun s'=>typeIs_int s' k t) IL F.fills_int_mul F.slot_int_rmul IP F.slot_int_index.lookup
   (call_meets F.slot_int_rmul (typeIs_int s k t) F.entry_int_rmul (F.args_int_rmul_2 _ _) (IQ k t a its.toArray n dd sl)
    ⟨ho,rfl,⟨_,ho,rfl⟩,?_⟩)
  refine call_meets F.slot_tuple_mul ⟨_,ho,rfl⟩ F.entry_tuple_mul (F.args_tuple_mul_2 _ _) (M7 k t a its.toArray n dd sl ?_ ?_ ?_ ?_ ?_ hsz) ⟨ho,?_⟩
  ·simp;omega
  ·rw [hem];simp;omega
  ·rw [hem];simp;omega
  ·omega
  ·unfold Builtin.Tuple.tupleTooMany
   refine decide_eq_false ?_
   have:(100000:Int)<=(sizeLine:Int):=by decide
   omega
  ·obtain ⟨ar,e⟩:∃ ar:Array Value,ar=(List.replicate k.toNat its.toArray).foldl (· ++ ·) #[]:=⟨_,rfl⟩
   rw [<- e] at hal
   have rv:Vals (List.replicate k.toNat xs).flatten ar.toList:=by
    rw [hal]
    generalize k.toNat=m
    induction m with
    | zero=>exact .nil
    | succ m ih =>
     rw [List.replicate_succ,List.replicate_succ,List.flatten_cons,List.flatten_cons]
     exact r1.append ih
   rw [<- e]
   refine ⟨.ref s.heap.objs.size,_,I.laid (t':=s.toks) (o:=.tup (List.replicate k.toNat xs).flatten) (fun b ob q=>Heap.get?_push_of_some _ q) (Nat.le_refl _) ?_,rfl,q.new _ (I.hok.fresh (Nat.le_refl _))⟩
   refine ⟨?_,ar.toList,rv,?_⟩
   ·rw [rv.length,Array.length_toList,e];exact hsz
   ·have e3:ar.toList.toArray=ar:=by simp
    rw [e3]
    exact kZ.new _ _
end
end L2
namespace L2
open PySem PySem.Spec PyProof.Rows PySem.W
section
variable {prog:Program} {w:World} {A:Around} {E:Value->Shared->Prop} {s:Shared}
end
end L2
namespace L2
open PySem PySem.Spec PyProof.Rows PySem.W
end L2
namespace L2
open PySem PySem.Spec PyProof.Rows
section
variable {M:Model} {A:Around} {E:Value->Shared->Prop} {s:Shared}
end
def M9:Option Addr->Value
 | none=>.none
 | some T=>.ref T
def XO (a C:Addr) (dx tr:Option Addr):HO:=.ext fun h=>∃ o vs,h.get? a=some o/\o.cls=.ref C/\o.dict=dx/\o.data=.fields vs/\vs[1]?=some (M9 tr)
section
variable {P:Program} {w:World} {H H' H2:Hp} {h h':Heap} {a C T:Addr} {dx tr:Option Addr} {o:HO}
end
section
variable {X:Cx} {pins:List (Addr×Obj)} {σ:St} {H:Hp} {s:Shared} {a C:Addr} {dx:Option Addr}
end
section
variable {P:Program} {w:World} {K:PySem.W.Frag} {mg:Str->Option Value} {base:Heap} {N:List Str} {qual:Str} {scope:Scope} {f:Addr} {cd:Value} {A:Around} {outer:List Env} {s0:Shared} {H0:Hp} {E:XK}
end
section
open PySem.W
end
section
variable {X:Cx} {pins:List (Addr×Obj)} {σ:St} {H:Hp} {s:Shared} {a C:Addr} {dx:Option Addr}
end
section
variable {P:Program} {w:World} {K:PySem.W.Frag} {mg:Str->Option Value} {base:Heap} {N:List Str} {qual:Str} {scope:Scope} {f:Addr} {cd:Value} {A:Around} {outer:List Env} {s0:Shared} {H0:Hp} {E:XK}
end
end L2
namespace L2
open PySem PySem.Spec PyProof.Rows
section
variable {X:Cx} {pins:List (Addr×Obj)} {σ:St} {H:Hp} {s:Shared} {W:St->Addr->Hp->Prop} {a:Addr}
end
section
variable {X:Cx} {i:Nat} {x n:Str} {F:Addr} {bmB:List Value} {newId:String} {tb:(St->Addr->Hp->Prop)->TS} {ts:TS} {body suite:List Stmt} {b0:Stmt} {np hpos pos:Pos}
end
section
variable {X:Cx} {k:Nat} {f:Addr} {fd:FuncData} {ps:List Str} {sp:Sp} {x:Str} {p pos:Pos} {e:Expr} {es:List Expr} {t:TA} {pins:List (Addr×Obj)} {W:St->Addr->Hp->Prop}
end
end L2
namespace L2
open PySem PySem.Spec PyProof.Rows PySem.W
section
variable {prog:Program} {w:World} {A:Around} {E:Value->Shared->Prop} {s:Shared} {K:Frag} {a C:Addr} {ox:Obj} {odo:Option Obj} {name:Str}
end
section
variable {X:Cx} {x:Str} {c:Value} {v:V} {p pos:Pos} {e:Expr} {te:TE} {b:Bool}
end
end L2
namespace L2
open PySem PySem.Spec PyProof.Rows
section
variable {X:Cx}
end
end L2
namespace L2
open PySem PySem.Spec PyProof.Rows PySem.W PySem.Builtin PySem.Builtin.ObjectAttr
section
variable {prog:Program} {w:World} {A:Around} {E:Value->Shared->Prop} {s:Shared} {K:Frag} {a C:Addr} {ox:Obj} {odo:Option Obj} {name:Str} {v:Value}
end
section
variable {X:Cx} {pins:List (Addr×Obj)} {σ:St} {H:Hp} {s:Shared} {a C:Addr} {tr:Option Addr} {f:Str} {y:V} {u:Value}
variable {o value:Expr} {ta tv:TE} {pos pos':Pos}
end
end L2
namespace L2
open PySem PySem.Spec PyProof.Rows PySem.W
section
variable {prog:Program} {w:World} {A:Around} {E:Value->Shared->Prop} {h:Heap} {g:Array GenState} {d:Drawn} {t:Nat} {os:OsState}
variable {nm q:Str} {C N:Addr} {bs bm bmB:List Value} {hdct:Bool} {sn:List Str} {sub:List Value} {ab:Bool} {col:Option Bool} {dd:Option Addr} {k0 k1 k2 k3 k5:Option Value} {B newId initId:String}
end
section
variable {X:Cx} {k:Nat} {f C:Addr} {fd:FuncData} {ps:List Str} {sp:Sp} {x:Str} {p pos:Pos} {e:Expr} {es:List Expr} {t:TA} {B newId initId:String} {bmB:List Value}
end
section
variable {P:Program} {w:World} {K:Frag} {mg:Str->Option Value} {base:Heap} {N:List Str} {qual:Str} {scope:Scope} {f:Addr} {cd:Value} {A:Around} {outer:List Env} {s0:Shared} {H0:Hp} {E:XK}
end
end L2
namespace L2
open PySem PySem.Spec PyProof.Rows PySem.W
section
variable {X:Cx} {e:Expr} {te:TE} {f:Str} {pos:Pos}
end
end L2
namespace L2
open PySem PySem.Spec PyProof.Rows
section
variable {X:Cx}
end
end L2
namespace L2
open PySem PySem.Spec PyProof.Rows
open Builtin
def P2 (k:Nat):Nat:=2 ^ k
section
variable {X:Cx}
end
end L2
namespace af
def upto (n:Nat):List Int:=(List.range n).map fun (k:Nat)=>(k:Int)
theorem n4 (n:Nat):(upto n).length=n:=by simp [upto]
theorem lJ {n:Nat} {x:Int}:x∈upto n↔0<=x/\x < (n:Int):=by
 simp only [upto,List.mem_map,List.mem_range]
 constructor
 ·rintro ⟨k,hk,rfl⟩;omega
 ·rintro ⟨h1,h2⟩;exact ⟨x.toNat,by omega,by omega⟩
theorem Na (n:Nat):(upto n).Pairwise (· < ·):=by
 unfold upto
 rw [List.pairwise_map]
 exact (List.pairwise_lt_range).imp fun h=>by omega
theorem Jo (n:Nat):(upto n).Nodup:=(Na n).imp fun h=>by omega
theorem CG:∀ {xs ys:List Int},xs.Nodup->(∀ x∈xs,x∈ys)->ys.length<=xs.length->xs.Perm ys
 | [],ys,_,_,h=>by
  have:ys=[]:=List.eq_nil_of_length_eq_zero (by simpa using h)
  subst this;exact List.Perm.refl _
 | x :: xs,ys,hn,hs,hl=>by
  obtain ⟨h1,h2⟩:=List.nodup_cons.mp hn
  have hx:x∈ys:=hs x List.mem_cons_self
  have hp:=List.perm_cons_erase hx
  have hlen:(ys.erase x).length + 1=ys.length:=by have:=hp.length_eq;simpa using this.symm
  refine List.Perm.trans (List.Perm.cons x (CG (ys:=ys.erase x) h2 (fun y hy=>?_) ?_)) hp.symm
  ·have hne:y≠x:=fun e=>h1 (e ▸ hy)
   exact (List.mem_erase_of_ne hne).mpr (hs y (List.mem_cons_of_mem _ hy))
  ·simp at hl;omega
theorem FC {xs:List Int} (hn:xs.Nodup) (hb:∀ x∈xs,0<=x/\x < (xs.length:Int)):xs.Perm (upto xs.length):=by
 exact CG hn (fun x hx=>lJ.mpr (hb x hx)) (by rw [n4];exact Nat.le_refl _)
end af
namespace af
def app (xs:List Int) (i:Int):Int:=xs.getD i.toNat 0
def bB (xs:List Int) (i:Int):Nat->Int
 | 0=>i
 | j + 1=>app xs (bB xs i j)
def Tn (n:Nat) (xs:List Int):Prop:=xs.Perm (upto n)
theorem Tn.length {n:Nat} {xs:List Int} (h:Tn n xs):xs.length=n:=by rw [h.length_eq,n4]
theorem Tn.nodup {n:Nat} {xs:List Int} (h:Tn n xs):xs.Nodup:=h.nodup_iff.mpr (Jo n)
theorem Tn.bound {n:Nat} {xs:List Int} (h:Tn n xs) {x:Int} (hx:x∈xs):0<=x/\x < (n:Int):=lJ.mp (h.subset hx)
theorem mS {xs:List Int} {i:Int} (h0:0<=i) (h1:i < (xs.length:Int)):xs[i.toNat]?=some (app xs i):=by
 have:i.toNat < xs.length:=by omega
 unfold app
 rw [List.getD_eq_getElem?_getD,List.getElem?_eq_getElem this];rfl
theorem Nb {xs:List Int} {i:Int} (h0:0<=i) (h1:i < (xs.length:Int)):app xs i∈xs:=List.mem_of_getElem? (mS h0 h1)
theorem Tn.app {n:Nat} {xs:List Int} (h:Tn n xs) {i:Int} (h0:0<=i) (h1:i < (n:Int)):0<=app xs i/\app xs i < (n:Int):=h.bound (Nb h0 (by rw [h.length];exact h1))
theorem Tn.inj {n:Nat} {xs:List Int} (h:Tn n xs) {i j:Int} (i0:0<=i) (i1:i < (n:Int)) (j0:0<=j) (j1:j < (n:Int)) (e:af.app xs i=af.app xs j):i=j:=by
 have hl:=h.length
 have a:=mS i0 (by rw [hl];exact i1)
 have b:=mS j0 (by rw [hl];exact j1)
 rw [e] at a
 obtain ⟨ha,ea⟩:=List.getElem?_eq_some_iff.mp a
 obtain ⟨hb,eb⟩:=List.getElem?_eq_some_iff.mp b
 have:=(List.getElem_inj h.nodup).mp (ea.trans eb.symm)
 omega
theorem Tn.bB {n:Nat} {xs:List Int} (h:Tn n xs) {i:Int} (h0:0<=i) (h1:i < (n:Int)):∀ j,0<=bB xs i j/\bB xs i j < (n:Int)
 | 0=>⟨h0,h1⟩
 | j + 1=>h.app (h.bB h0 h1 j).1 (h.bB h0 h1 j).2
theorem Tn.back {n:Nat} {xs:List Int} (h:Tn n xs) {i:Int} (h0:0<=i) (h1:i < (n:Int)):∀ (a d:Nat),af.bB xs i a=af.bB xs i (a + d)->af.bB xs i d=i
 | 0,d,e=>by rw [Nat.zero_add] at e;exact e.symm
 | a + 1,d,e=>by
  have e':af.app xs (af.bB xs i a)=af.app xs (af.bB xs i (a + d)):=by
   have:a + 1 + d=(a + d) + 1:=by omega
   rw [this] at e
   exact e
  exact h.back h0 h1 a d (h.inj (h.bB h0 h1 a).1 (h.bB h0 h1 a).2 (h.bB h0 h1 _).1 (h.bB h0 h1 _).2 e')
theorem xF:∀ {xs ys:List Int},xs.Nodup->(∀ x∈xs,x∈ys)->xs.length<=ys.length
 | [],_,_,_=>Nat.zero_le _
 | x :: xs,ys,hn,hs=>by
  obtain ⟨h1,h2⟩:=List.nodup_cons.mp hn
  have hx:x∈ys:=hs x List.mem_cons_self
  have hp:=List.perm_cons_erase hx
  have hlen:(ys.erase x).length + 1=ys.length:=by have:=hp.length_eq;simpa using this.symm
  have:=xF (ys:=ys.erase x) h2 fun y hy=>(List.mem_erase_of_ne (a:=y) (b:=x) (fun e=>h1 (by rw [<- e];exact hy))).mpr (hs y (List.mem_cons_of_mem _ hy))
  simp only [List.length_cons]
  omega
def row (xs:List Int) (i:Int) (m:Nat):List Int:=(List.range (m + 1)).map (bB xs i)
theorem Nc (xs:List Int) (i:Int) (m:Nat):row xs i (m + 1)=row xs i m ++ [bB xs i (m + 1)]:=by
 unfold row;rw [List.range_succ,List.map_append];rfl
theorem uV (xs:List Int) (i:Int) (m:Nat):(row xs i m).length=m + 1:=by simp [row]
theorem CH {xs:List Int} {i:Int} {m:Nat} {x:Int}:x∈row xs i m↔∃ j,j<=m/\bB xs i j=x:=by
 unfold row
 rw [List.mem_map]
 constructor
 ·rintro ⟨j,hj,e⟩;exact ⟨j,by have:=List.mem_range.mp hj;omega,e⟩
 ·rintro ⟨j,hj,e⟩;exact ⟨j,List.mem_range.mpr (by omega),e⟩
def NB (xs:List Int) (i:Int) (m:Nat):Prop:=∀ j,1<=j->j<=m->bB xs i j≠i
theorem Tn.lj {n:Nat} {xs:List Int} (h:Tn n xs) {i:Int} (h0:0<=i) (h1:i < (n:Int)) {m:Nat} (nb:NB xs i m):m + 1<=n:=by
 have hn:(row xs i m).Nodup:=by
  unfold row List.Nodup
  rw [List.pairwise_map]
  refine List.Pairwise.imp_of_mem (R:=fun a b=>a < b) ?_ List.pairwise_lt_range
  intro a b ha hb hab e
  have ha':=List.mem_range.mp ha
  have hb':=List.mem_range.mp hb
  obtain ⟨d,rfl⟩:∃ d,b=a + d:=⟨b - a,by omega⟩
  exact nb d (by omega) (by omega) (h.back h0 h1 a d e)
 have:=xF hn (ys:=upto n) fun x hx=>by
  obtain ⟨j,_,rfl⟩:=CH.mp hx
  exact lJ.mpr (h.bB h0 h1 j)
 rw [uV,n4] at this
 exact this
structure gA (xs:List Int) (i:Int) (r:List Int):Prop where
 ex:∃ m,r=row xs i m/\NB xs i m/\bB xs i (m + 1)=i
theorem gA.mem {xs:List Int} {i:Int} {r:List Int} (a:gA xs i r):i∈r:=by
 obtain ⟨m,e1,_,_⟩:=a.ex
 rw [e1];exact CH.mpr ⟨0,Nat.zero_le _,rfl⟩
theorem gA.len {n:Nat} {xs:List Int} (h:Tn n xs) {i:Int} (h0:0<=i) (h1:i < (n:Int)) {r:List Int} (a:gA xs i r):r.length<=n:=by
 obtain ⟨m,e1,nb,_⟩:=a.ex
 rw [e1,uV];exact h.lj h0 h1 nb
theorem gA.bound {n:Nat} {xs:List Int} (h:Tn n xs) {i:Int} (h0:0<=i) (h1:i < (n:Int)) {r:List Int} (a:gA xs i r):∀ x∈r,0<=x/\x < (n:Int):=by
 obtain ⟨m,e1,nb,_⟩:=a.ex
 subst e1
 intro x hx
 obtain ⟨j,_,rfl⟩:=CH.mp hx
 exact h.bB h0 h1 j
def out (left r:List Int):List Int:=left.filter fun k=>!r.contains k
inductive sA (xs:List Int):List Int->List (List Int)->Prop
 | nil:sA xs [] []
 | cons {i:Int} {left r:List Int} {rs:List (List Int)}:gA xs i r->sA xs (out (i :: left) r) rs->sA xs (i :: left) (r :: rs)
def from' (n k:Nat) (seen:Int->Bool):List Int:=(((List.range n).drop k).map fun (j:Nat)=>(j:Int)).filter fun x=>!seen x
theorem Nd (n:Nat) (seen:Int->Bool):from' n n seen=[]:=by
 unfold from';rw [List.drop_of_length_le (by simp)];rfl
theorem Nf {n k:Nat} (h:k < n) (seen:Int->Bool):from' n k seen=if seen (k:Int) then from' n (k + 1) seen else (k:Int) :: from' n (k + 1) seen:=by
 unfold from'
 rw [List.drop_eq_getElem_cons (by simpa using h),List.map_cons,List.filter_cons]
 simp only [List.getElem_range]
 cases hs:seen (k:Int) <;> simp
theorem Ng {n k:Nat} {seen:Int->Bool} {r:List Int}:out (from' n k seen) r=from' n k (fun x=>seen x || r.contains x):=by
 unfold out from'
 rw [List.filter_filter]
 congr 1
 funext x
 show (!r.contains x && !seen x)=!(seen x || r.contains x)
 cases seen x <;> cases r.contains x <;> rfl
theorem Nh (n:Nat):from' n 0 (fun _=>false)=upto n:=by
 unfold from' upto
 rw [List.drop_zero]
 simp
def n5 (n:Nat):List Int:=((List.range (n - 1)).map fun (k:Nat)=>(1:Int) + k) ++ [0]
theorem Ni:∀ n,n < 21->0 < n->(n5 n).isPerm (upto n)=true:=by decide
theorem Jp {n:Nat} (h:n < 21) (h0:0 < n):Tn n (n5 n):=List.isPerm_iff.mp (Ni n h h0)
end af
namespace af
theorem CI {n:Nat} {xs:List Int} (h:xs.length=n):(upto n).map (app xs)=xs:=by
 apply List.ext_getElem
 ·rw [List.length_map,n4,h]
 ·intro i h1 h2
  have e:=mS (xs:=xs) (i:=(i:Int)) (by omega) (by omega)
  simp only [Int.toNat_natCast] at e
  rw [List.getElem?_eq_getElem h2] at e
  rw [List.getElem_map]
  unfold upto
  simp only [List.getElem_map,List.getElem_range]
  exact (Option.some.inj e).symm
def inv (xs:List Int):List Int:=(upto xs.length).map fun i=>(xs.idxOf i:Int)
theorem xG (xs:List Int):(inv xs).length=xs.length:=by unfold inv;rw [List.length_map,n4]
theorem CJ {n i:Nat} (h:i < n):(upto n)[i]?=some (i:Int):=by
 unfold upto;rw [List.getElem?_map,List.getElem?_range h];rfl
theorem CK {xs:List Int} {i:Int} (h0:0<=i) (h1:i < (xs.length:Int)):app (inv xs) i=(xs.idxOf i:Int):=by
 have e:=mS (xs:=inv xs) h0 (by rw [xG];exact h1)
 unfold inv at e
 rw [List.getElem?_map,CJ (by omega)] at e
 have:=Option.some.inj e
 rw [<- inv] at this
 rw [<- this,Int.toNat_of_nonneg h0]
theorem Tn.mem {n:Nat} {xs:List Int} (h:Tn n xs) {i:Int} (h0:0<=i) (h1:i < (n:Int)):i∈xs:=h.symm.subset (lJ.mpr ⟨h0,h1⟩)
theorem Tn.idx {n:Nat} {xs:List Int} (h:Tn n xs) {i:Int} (h0:0<=i) (h1:i < (n:Int)):xs.idxOf i < n:=by rw [<- h.length];exact List.idxOf_lt_length_of_mem (h.mem h0 h1)
theorem Tn.cS {n:Nat} {xs:List Int} (h:Tn n xs) {i:Int} (h0:0<=i) (h1:i < (n:Int)):af.app xs (af.app (inv xs) i)=i:=by
 rw [CK h0 (by rw [h.length];exact h1)]
 have hl:=h.idx h0 h1
 have e:=mS (xs:=xs) (i:=(xs.idxOf i:Int)) (by omega) (by rw [h.length];omega)
 rw [Int.toNat_natCast,List.getElem?_eq_getElem (by rw [h.length];exact hl)] at e
 rw [<- Option.some.inj e]
 exact List.getElem_idxOf _
theorem Tn.kJ {n:Nat} {xs:List Int} (h:Tn n xs) {i:Int} (h0:0<=i) (h1:i < (n:Int)):0<=af.app (inv xs) i/\af.app (inv xs) i < (n:Int):=by
 rw [CK h0 (by rw [h.length];exact h1)]
 have:=h.idx h0 h1
 omega
theorem Tn.eY {n:Nat} {xs:List Int} (h:Tn n xs) {i:Int} (h0:0<=i) (h1:i < (n:Int)):af.app (inv xs) (af.app xs i)=i:=by
 obtain ⟨a0,a1⟩:=h.app h0 h1
 obtain ⟨b0,b1⟩:=h.kJ a0 a1
 exact h.inj b0 b1 h0 h1 (h.cS a0 a1)
theorem Tn.aw {n:Nat} {xs:List Int} (h:Tn n xs):Tn n (inv xs):=by
 have hl:=h.length
 unfold Tn
 have e:(inv xs).length=n:=by rw [xG,hl]
 have:=FC (xs:=inv xs) ?_ ?_
 ·rw [e] at this;exact this
 ·unfold List.Nodup
  rw [List.pairwise_iff_getElem]
  intro i j hi hj hij z
  have a:=mS (xs:=inv xs) (i:=(i:Int)) (by omega) (by omega)
  have b:=mS (xs:=inv xs) (i:=(j:Int)) (by omega) (by omega)
  rw [Int.toNat_natCast,List.getElem?_eq_getElem hi] at a
  rw [Int.toNat_natCast,List.getElem?_eq_getElem hj] at b
  have a:=Option.some.inj a
  have b:=Option.some.inj b
  have c:=h.cS (i:=(i:Int)) (by omega) (by omega)
  have d:=h.cS (i:=(j:Int)) (by omega) (by omega)
  rw [<- a] at c
  rw [<- b,<- z] at d
  have:=c.symm.trans d
  omega
 ·intro x hx
  unfold inv at hx
  obtain ⟨i,hi,rfl⟩:=List.mem_map.mp hx
  have:=lJ.mp hi
  rw [hl] at this
  have:=h.idx this.1 this.2
  rw [e];omega
theorem ql (xs:List Int) (i:Int) (j:Nat):∀ d,bB xs (bB xs i j) d=bB xs i (j + d)
 | 0=>rfl
 | d + 1=>by show app xs (bB xs (bB xs i j) d)=app xs (bB xs i (j + d));rw [ql xs i j d]
theorem Jq {xs:List Int} {i:Int} {L:Nat} (h:bB xs i L=i) (a:Nat):bB xs i (a + L)=bB xs i a:=by
 rw [Nat.add_comm,<- ql xs i L a,h]
theorem zC {xs:List Int} {i:Int} {L:Nat} (h:bB xs i L=i):∀ (q r:Nat),bB xs i (r + L * q)=bB xs i r
 | 0,r=>rfl
 | q + 1,r=>by rw [Nat.mul_succ,<- Nat.add_assoc,Jq h];exact zC h q r
theorem Nj {xs:List Int} {i:Int} {L:Nat} (h:bB xs i L=i) (a:Nat):bB xs i (a % L)=bB xs i a:=by
 have:=zC h (a / L) (a % L)
 rw [Nat.mod_add_div] at this
 exact this.symm
def Jr (xs:List Int) (k i v:Int):Prop:=∃ m,NB xs i m/\bB xs i (m + 1)=i/\v=bB xs i (k % ((m + 1:Nat):Int)).toNat
theorem Tn.uW {n:Nat} {xs:List Int} (h:Tn n xs) {i:Int} (h0:0<=i) (h1:i < (n:Int)) {m:Nat} (nb:NB xs i m) (bk:af.bB xs i (m + 1)=i) (j:Nat) (k:Int) :
  Jr xs k (af.bB xs i j) (af.bB xs i (((j:Int) + k) % ((m + 1:Nat):Int)).toNat):=by
 refine ⟨m,fun d d1 d2 e=>?_,?_,?_⟩
 ·rw [ql] at e
  exact nb d d1 d2 (h.back h0 h1 j d e.symm)
 ·rw [ql,Jq bk]
 ·rw [ql]
  rw [<- Nj bk (j + (k % ((m + 1:Nat):Int)).toNat)]
  congr 1
  have hL:(0:Int) < ((m + 1:Nat):Int):=by omega
  have k0:=Int.emod_nonneg k (Int.ne_of_gt hL)
  have e:(((j + (k % ((m + 1:Nat):Int)).toNat) % (m + 1):Nat):Int)=((j:Int) + k) % ((m + 1:Nat):Int):=by
   rw [Int.natCast_emod,Int.natCast_add,Int.toNat_of_nonneg k0,Int.add_emod_emod]
  rw [<- e,Int.toNat_natCast]
theorem sA.all {xs:List Int}:∀ {left:List Int} {rs:List (List Int)},sA xs left rs->(∀ r∈rs,∃ i∈left,gA xs i r)/\∀ x∈left,∃ r∈rs,x∈r:=by
 intro left rs a
 induction a with
 | nil=>exact ⟨fun r hr=>(nomatch hr),fun x hx=>(nomatch hx)⟩
 | cons h1 _ ih =>
  refine ⟨fun r hr=>?_,fun x hx=>?_⟩
  ·rcases List.mem_cons.mp hr with rfl | hr
   ·exact ⟨_,List.mem_cons_self,h1⟩
   ·obtain ⟨i,hi,r'⟩:=ih.1 r hr
    exact ⟨i,(List.mem_filter.mp hi).1,r'⟩
  ·rename_i i left r rs _
   by_cases hc:x∈r
   ·exact ⟨r,List.mem_cons_self,hc⟩
   ·obtain ⟨r',hr',hx'⟩:=ih.2 x (List.mem_filter.mpr ⟨hx,by simp [hc]⟩)
    exact ⟨r',List.mem_cons_of_mem _ hr',hx'⟩
theorem Nk {n:Nat} {xs:List Int} (h:Tn n xs):xs.map (app (inv xs))=upto n:=by
 have e:((upto n).map (app xs)).map (app (inv xs))=upto n:=by
  rw [List.map_map]
  conv=>rhs;rw [<- List.map_id (upto n)]
  apply List.map_congr_left
  intro x hx
  obtain ⟨a,b⟩:=lJ.mp hx
  exact h.eY a b
 rw [CI h.length] at e
 exact e
theorem Nl {n:Nat} {xs:List Int} (h:Tn n xs):(inv xs).map (app xs)=upto n:=by
 have e:((upto n).map (app (inv xs))).map (app xs)=upto n:=by
  rw [List.map_map]
  conv=>rhs;rw [<- List.map_id (upto n)]
  apply List.map_congr_left
  intro x hx
  obtain ⟨a,b⟩:=lJ.mp hx
  exact h.cS a b
 rw [CI (h.aw).length] at e
 exact e
end af
namespace af
inductive ig (xs ys:List Int):Int->Prop
 | zero:ig xs ys 0
 | r {x:Int}:ig xs ys x->ig xs ys (app xs x)
 | u {x:Int}:ig xs ys x->ig xs ys (app ys x)
theorem ig.bound {n:Nat} {xs ys:List Int} (hx:Tn n xs) (hy:Tn n ys) (h0:0 < n) {x:Int} (h:ig xs ys x):0<=x/\x < (n:Int):=by
 induction h with
 | zero=>omega
 | r _ ih=>exact hx.app ih.1 ih.2
 | u _ ih=>exact hy.app ih.1 ih.2
theorem ig.bB {xs ys:List Int} {x:Int} (h:ig xs ys x):∀ k,ig xs ys (af.bB xs x k)
 | 0=>h
 | k + 1=>.r (h.bB k)
def lK (xs:List Int) (m:Nat):List Int:=(xs.set 0 (app xs m)).set m (app xs 0)
theorem Nm (xs:List Int) (m:Nat):(lK xs m).length=xs.length:=by simp [lK]
theorem FD {xs:List Int} {m:Nat} {v x:Int} (hm:m < xs.length) (h0:0<=x):app (xs.set m v) x=if x=(m:Int) then v else app xs x:=by
 unfold app
 rw [List.getD_eq_getElem?_getD,List.getD_eq_getElem?_getD]
 by_cases hx:x=(m:Int)
 ·rw [if_pos hx,hx,Int.toNat_natCast,List.getElem?_set_self hm];rfl
 ·rw [if_neg hx,List.getElem?_set_ne (by omega)]
theorem xH {xs:List Int} {m:Nat} (hm:m < xs.length) {x:Int} (h0:0<=x):app (lK xs m) x=if x=(m:Int) then app xs 0 else if x=0 then app xs m else app xs x:=by
 unfold lK
 rw [FD (by simpa using hm) h0,FD (by omega) h0]
 rfl
theorem uX {n:Nat} {xs:List Int} (h:Tn n xs) {m:Nat} (hm:m < n):Tn n (lK xs m):=by
 have hl:=h.length
 have e:(lK xs m).length=n:=by rw [Nm,hl]
 have:=FC (xs:=lK xs m) ?_ ?_
 ·unfold Tn;rw [e] at this;exact this
 ·unfold List.Nodup
  rw [List.pairwise_iff_getElem]
  intro i j hi hj hij z
  have a:=mS (xs:=lK xs m) (i:=(i:Int)) (by omega) (by omega)
  have b:=mS (xs:=lK xs m) (i:=(j:Int)) (by omega) (by omega)
  rw [Int.toNat_natCast,List.getElem?_eq_getElem hi] at a
  rw [Int.toNat_natCast,List.getElem?_eq_getElem hj] at b
  have a:=Option.some.inj a
  have b:=Option.some.inj b
  rw [xH (by omega) (by omega)] at a b
  rw [a,b] at z
  have inj:∀ p q:Int,0<=p->p < (n:Int)->0<=q->q < (n:Int)->app xs p=app xs q->p=q:=fun p q p0 p1 q0 q1=>h.inj p0 p1 q0 q1
  split at z <;> split at z <;> (try split at z) <;> (try split at z) <;> (first | omega | (have:=inj _ _ (by omega) (by omega) (by omega) (by omega) z;omega))
 ·intro x hx
  obtain ⟨i,hi,rfl⟩:=List.getElem_of_mem hx
  have a:=mS (xs:=lK xs m) (i:=(i:Int)) (by omega) (by omega)
  rw [Int.toNat_natCast,List.getElem?_eq_getElem hi] at a
  rw [Option.some.inj a,xH (by omega) (by omega),e]
  split
  ·exact h.app (by omega) (by omega)
  ·split
   ·exact h.app (by omega) (by omega)
   ·exact h.app (by omega) (by omega)
theorem Tn.qV {n:Nat} {xs:List Int} (h:Tn n xs) {i:Int} (h0:0<=i) (h1:i < (n:Int)):∃ m,NB xs i m/\af.bB xs i (m + 1)=i:=by
 by_cases hb:∃ m,m < n/\af.bB xs i (m + 1)=i
 ·-- the least
  have key:∀ b:Nat,(∃ m,m < b/\af.bB xs i (m + 1)=i)->∃ m,NB xs i m/\af.bB xs i (m + 1)=i:=by
   intro b
   induction b with
   | zero=>rintro ⟨m,hm,_⟩;omega
   | succ b ih =>
    rintro ⟨m,hm,e⟩
    by_cases hc:∃ m,m < b/\af.bB xs i (m + 1)=i
    ·exact ih hc
    ·refine ⟨m,fun j j1 j2 z=>hc ⟨j - 1,by omega,?_⟩,e⟩
     have:j - 1 + 1=j:=by omega
     rw [this];exact z
  exact key n hb
 ·have nb:NB xs i n:=fun j j1 j2 z=>by
   refine hb ⟨j - 1,by omega,?_⟩
   have:j - 1 + 1=j:=by omega
   rw [this];exact z
  have:=h.lj h0 h1 nb
  omega
theorem Nn {n:Nat} {xs ys:List Int} (hx:Tn n xs) (hy:Tn n ys) {m:Nat} (hm:m < n) (nm:¬ ig xs ys (m:Int)):ig (lK xs m) ys (m:Int)/\∀ x,ig xs ys x->ig (lK xs m) ys x:=by
 have hl:=hx.length
 have m0:m≠0:=fun z=>nm (by rw [z];exact .zero)
 obtain ⟨M,nb,bk⟩:=hx.qV (i:=(m:Int)) (by omega) (by omega)
 have Np:∀ j,af.bB xs (m:Int) j≠0:=by
  intro j z
  have h':ig xs ys (af.bB xs (af.bB xs (m:Int) j) ((M + 1) * j)):=by rw [z];exact ig.zero.bB _
  rw [ql] at h'
  have e2:af.bB xs (m:Int) ((M + 1) * (j + 1))=(m:Int):=by
   have:=zC bk (j + 1) 0
   rw [Nat.zero_add] at this
   exact this
  have h3:=h'.bB ((M + 1) * (j + 1) - (j + (M + 1) * j))
  rw [ql] at h3
  have e3:j + (M + 1) * j + ((M + 1) * (j + 1) - (j + (M + 1) * j))=if j + (M + 1) * j<=(M + 1) * (j + 1) then (M + 1) * (j + 1) else j + (M + 1) * j:=by split <;> omega
  rw [e3] at h3
  by_cases hc:j + (M + 1) * j<=(M + 1) * (j + 1)
  ·rw [if_pos hc,e2] at h3
   exact nm h3
  ·-- round as often as needed
   have h4:=h'.bB ((M + 1) * (2 * j + 2) - (j + (M + 1) * j))
   rw [ql] at h4
   have hbig:j + (M + 1) * j<=(M + 1) * (2 * j + 2):=by
    have a1:(M + 1) * (2 * j + 2)=(M + 1) * j + ((M + 1) * j + (M + 1) * 2):=by rw [<- Nat.mul_add,<- Nat.mul_add];congr 1;omega
    have a2:j<=(M + 1) * j:=Nat.le_mul_of_pos_left j (by omega)
    omega
   have e5:j + (M + 1) * j + ((M + 1) * (2 * j + 2) - (j + (M + 1) * j))=(M + 1) * (2 * j + 2):=by omega
   rw [e5] at h4
   have:=zC bk (2 * j + 2) 0
   rw [Nat.zero_add] at this
   rw [this] at h4
   exact nm h4
 have ring:∀ j,j<=M->ig (lK xs m) ys (af.bB xs (m:Int) (j + 1)):=by
  intro j
  induction j with
  | zero =>
   intro _
   have h1:ig (lK xs m) ys (af.app (lK xs m) 0):=.r .zero
   rw [xH (by omega) (by omega),if_neg (by omega),if_pos rfl] at h1
   exact h1
  | succ j ih =>
   intro hj
   have h1:=(ih (by omega)).r
   have b:=hx.bB (i:=(m:Int)) (by omega) (by omega) (j + 1)
   rw [xH (by omega) b.1,if_neg (nb (j + 1) (by omega) (by omega)),if_neg (Np (j + 1))] at h1
   exact h1
 have Js:ig (lK xs m) ys (m:Int):=by have:=ring M (Nat.le_refl _);rwa [bk] at this
 refine ⟨Js,fun x h=>?_⟩
 have hpos:0 < n:=by omega
 induction h with
 | zero=>exact .zero
 | r hx' ih =>
  rename_i x
  have b:=hx'.bound hx hy hpos
  by_cases h0:x=0
  ·have h1:=Js.r
   rw [xH (by omega) (by omega),if_pos rfl] at h1
   rw [h0];exact h1
  ·have Nq:x≠(m:Int):=fun z=>nm (by rw [<- z];exact hx')
   have h1:=ih.r
   rw [xH (by omega) b.1,if_neg Nq,if_neg h0] at h1
   exact h1
 | u _ ih=>exact ih.u
def Cl (xs ys F:List Int):Prop:=∀ x∈F,app xs x∈F/\app ys x∈F
theorem Cl.all {xs ys F:List Int} (h:Cl xs ys F) (h0:(0:Int)∈F) {x:Int} (r:ig xs ys x):x∈F:=by
 induction r with
 | zero=>exact h0
 | r _ ih=>exact (h _ ih).1
 | u _ ih=>exact (h _ ih).2
structure Fd (xs ys:List Int) (F:List Int):Prop where
 z:(0:Int)∈F
 nd:F.Nodup
 mt:∀ x∈F,ig xs ys x
theorem Fd.len {n:Nat} {xs ys F:List Int} (h:Fd xs ys F) (hx:Tn n xs) (hy:Tn n ys) (h0:0 < n):F.length<=n:=by
 have:=xF h.nd (ys:=upto n) fun x hx'=>lJ.mpr ((h.mt x hx').bound hx hy h0)
 rw [n4] at this
 exact this
theorem Fd.one (xs ys:List Int):Fd xs ys [0]:=⟨by simp,by simp,fun x hx=>(show x=0 by simpa using hx) ▸ .zero⟩
theorem round {xs ys F F1 F2:List Int} (d:Fd xs ys F) (d2:Fd xs ys F2) (p1:F <+: F1) (p2:F1 <+: F2) (c1:∀ x∈F,app xs x∈F1) (c2:∀ x∈F1,app ys x∈F2) {t:Nat} (h:Cl xs ys F\/t + 1<=F.length):Cl xs ys F2\/t + 1 + 1<=F2.length:=by
 have p:=p1.trans p2
 by_cases hc:Cl xs ys F
 ·refine .inl fun x hx=>?_
  have hF:=hc.all d.z (d2.mt x hx)
  exact ⟨p.subset (hc x hF).1,p.subset (hc x hF).2⟩
 ·have hl:=h.resolve_left hc
  by_cases he:F2.length<=F.length
  ·refine absurd ?_ hc
   have e2:F2=F:=(p.eq_of_length (by have:=p.length_le;omega)).symm
   have e1:F1=F:=by
    have a:=p1.length_le
    have b:=p2.length_le
    exact (p1.eq_of_length (by omega)).symm
   intro x hx
   refine ⟨?_,?_⟩
   ·have:=c1 x hx;rwa [e1] at this
   ·have:=c2 x (by rw [e1];exact hx);rwa [e2] at this
  ·exact .inr (by omega)
def pE (w n:Nat):List Int:=((List.range (w - 1)).map fun (k:Nat)=>(1:Int) + k) ++ [0] ++ ((List.range (n - w)).map fun (k:Nat)=>(w:Int) + k)
def qW (w n:Nat):List Int:=[(w:Int)] ++ ((List.range (w - 1)).map fun (k:Nat)=>(1:Int) + k) ++ ((List.range (n - (w + 1))).map fun (k:Nat)=>((w:Int) + 1) + k) ++ [0]
theorem Nr:∀ n,n < 21->∀ w,w < n + 1->0 < w->(pE w n).isPerm (upto n)=true:=by decide +kernel
theorem Nt:∀ n,n < 21->∀ w,w < n->0 < w->(qW w n).isPerm (upto n)=true:=by decide +kernel
theorem Nu {w n:Nat} (h:n < 21) (h1:w<=n) (h0:0 < w):Tn n (pE w n):=List.isPerm_iff.mp (Nr n h w (by omega) h0)
theorem Nv {w n:Nat} (h:n < 21) (h1:w < n) (h0:0 < w):Tn n (qW w n):=List.isPerm_iff.mp (Nt n h w h1 h0)
theorem less {L L':List Int} {m:Int} (nd:L'.Nodup) (hs:∀ x∈L',x∈L) (hm:m∈L) (hm':m ∉ L'):L'.length < L.length:=by
 have hp:=List.perm_cons_erase hm
 have hlen:(L.erase m).length + 1=L.length:=by have:=hp.length_eq;simpa using this.symm
 have:=xF (ys:=L.erase m) nd fun x hx=>(List.mem_erase_of_ne (fun e=>hm' (by rw [<- e];exact hx))).mpr (hs x hx)
 omega
end af
namespace af
def a8 (xs ys:List Int):List Int:=xs.map (app ys)
theorem xI (xs ys:List Int):(a8 xs ys).length=xs.length:=by simp [a8]
theorem n6 {n:Nat} {xs ys:List Int} (hx:xs.length=n) (hy:ys.length=n) (h:∀ s:Int,0<=s->s < (n:Int)->app xs s=app ys s):xs=ys:=by
 rw [<- CI hx,<- CI hy]
 apply List.map_congr_left
 intro s hs
 obtain ⟨h0,h1⟩:=lJ.mp hs
 exact h s h0 h1
theorem mE {xs ys:List Int} {s:Int} (h0:0<=s) (h1:s < (xs.length:Int)):app (a8 xs ys) s=app ys (app xs s):=by
 have e:=mS (xs:=a8 xs ys) h0 (by rw [xI];exact h1)
 unfold a8 at e
 rw [List.getElem?_map,mS h0 h1] at e
 exact (Option.some.inj e).symm
theorem Tn.pF {n:Nat} {xs:List Int} (hl:xs.length=n) (hb:∀ s:Int,0<=s->s < (n:Int)->0<=af.app xs s/\af.app xs s < (n:Int)) (hi:∀ s t:Int,0<=s->s < (n:Int)->0<=t->t < (n:Int)->af.app xs s=af.app xs t->s=t):Tn n xs:=by
 have el:∀ (i:Nat) (h:i < xs.length),xs[i]=af.app xs (i:Int):=fun i h=>by
  have a:=mS (xs:=xs) (i:=(i:Int)) (by omega) (by omega)
  rw [Int.toNat_natCast,List.getElem?_eq_getElem h] at a
  exact Option.some.inj a
 have:=FC (xs:=xs) ?_ ?_
 ·unfold Tn;rw [hl] at this;exact this
 ·unfold List.Nodup
  rw [List.pairwise_iff_getElem]
  intro i j h1 h2 hij z
  rw [el i h1,el j h2] at z
  have:=hi i j (by omega) (by omega) (by omega) (by omega) z
  omega
 ·intro x hx
  obtain ⟨i,h,rfl⟩:=List.getElem_of_mem hx
  rw [el i h,hl]
  exact hb i (by omega) (by omega)
theorem Tn.a8 {n:Nat} {xs ys:List Int} (hx:Tn n xs) (hy:Tn n ys):Tn n (a8 xs ys):=by
 have hl:=hx.length
 refine Tn.pF (by rw [xI];exact hl) (fun s h0 h1=>?_) fun s t s0 s1 t0 t1 e=>?_
 ·rw [mE h0 (by omega)]
  obtain ⟨a,b⟩:=hx.app h0 h1
  exact hy.app a b
 ·rw [mE s0 (by omega),mE t0 (by omega)] at e
  obtain ⟨a,b⟩:=hx.app s0 s1
  obtain ⟨c,d⟩:=hx.app t0 t1
  exact hx.inj s0 s1 t0 t1 (hy.inj a b c d e)
theorem Tn.qX {n:Nat} {xs ys:List Int} (hx:Tn n xs) (hy:Tn n ys) {s:Int} (h0:0<=s) (h1:s < (n:Int)):af.app (inv (af.a8 xs ys)) s=af.app (inv xs) (af.app (inv ys) s):=by
 have hf:=hx.a8 hy
 obtain ⟨a0,a1⟩:=hy.kJ h0 h1
 obtain ⟨b0,b1⟩:=hx.kJ a0 a1
 obtain ⟨c0,c1⟩:=hf.kJ h0 h1
 refine hf.inj c0 c1 b0 b1 ?_
 rw [hf.cS h0 h1,mE b0 (by rw [hx.length];exact b1),hx.cS a0 a1,hy.cS h0 h1]
def anew (xs p:List Int):List Int:=a8 (a8 (inv p) xs) p
theorem Tn.anew {n:Nat} {xs p:List Int} (hx:Tn n xs) (hp:Tn n p):Tn n (anew xs p):=(hp.aw.a8 hx).a8 hp
theorem Tn.gi {n:Nat} {xs p:List Int} (hx:Tn n xs) (hp:Tn n p) {s:Int} (h0:0<=s) (h1:s < (n:Int)):af.app (af.anew xs p) s=af.app p (af.app xs (af.app (inv p) s)):=by
 have hl:=hp.aw.length
 unfold af.anew
 rw [mE h0 (by rw [xI,hl];exact h1),mE h0 (by rw [hl];exact h1)]
theorem Tn.jO {n:Nat} {xs p:List Int} (hx:Tn n xs) (hp:Tn n p) {s:Int} (h0:0<=s) (h1:s < (n:Int)):af.app (af.anew xs p) (af.app p s)=af.app p (af.app xs s):=by
 obtain ⟨a,b⟩:=hp.app h0 h1
 rw [hx.gi hp a b,hp.eY h0 h1]
theorem Tn.kd {n:Nat} {xs p q:List Int} (hx:Tn n xs) (hp:Tn n p) (hq:Tn n q):af.anew (af.anew xs p) q=af.anew xs (af.a8 p q):=by
 have hf:=hp.a8 hq
 refine n6 (n:=n) ((hx.anew hp).anew hq).length (hx.anew hf).length fun s h0 h1=>?_
 obtain ⟨a0,a1⟩:=hq.kJ h0 h1
 obtain ⟨b0,b1⟩:=hp.kJ a0 a1
 obtain ⟨c0,c1⟩:=hx.app b0 b1
 rw [(hx.anew hp).gi hq h0 h1,hx.gi hp a0 a1,hx.gi hf h0 h1,hp.qX hq h0 h1,mE c0 (by rw [hp.length];exact c1)]
theorem Tn.ke {n:Nat} {xs p:List Int} (hx:Tn n xs) (hp:Tn n p):af.anew (af.anew xs p) (inv p)=xs:=by
 refine n6 (n:=n) ((hx.anew hp).anew hp.aw).length hx.length fun s h0 h1=>?_
 obtain ⟨a0,a1⟩:=hp.aw.kJ h0 h1
 have e:af.app (inv (inv p)) s=af.app p s:=by
  obtain ⟨b0,b1⟩:=hp.app h0 h1
  refine hp.aw.inj a0 a1 b0 b1 ?_
  rw [hp.aw.cS h0 h1,hp.eY h0 h1]
 obtain ⟨b0,b1⟩:=hp.app h0 h1
 obtain ⟨c0,c1⟩:=hx.app h0 h1
 rw [(hx.anew hp).gi hp.aw h0 h1,e,hx.jO hp h0 h1,hp.eY c0 c1]
end af
namespace af
def dy (F:List Int) (x:Int):List Int:=if x∈F then F else F ++ [x]
theorem zD (F:List Int) (x:Int):F <+: dy F x:=by
 unfold dy;split
 ·exact List.prefix_refl _
 ·exact List.prefix_append _ _
theorem n8 {F:List Int} {x y:Int}:y∈dy F x↔y∈F\/y=x:=by
 unfold dy;split
 ·next h=>exact ⟨.inl,fun z=>z.elim id fun e=>e ▸ h⟩
 ·rw [List.mem_append,List.mem_singleton]
theorem Jt {F:List Int} {x:Int} (h:F.Nodup):(dy F x).Nodup:=by
 unfold dy;split
 ·exact h
 ·next hx =>
  rw [List.nodup_append]
  exact ⟨h,by simp,fun a ha b hb e=>hx (by rw [List.mem_singleton] at hb;rw [<- hb,<- e];exact ha)⟩
def visit (xs ys F:List Int) (x:Int):List Int:=dy (dy F (app xs x)) (app ys x)
def bf (xs ys:List Int) (s:Int):Nat->List Int
 | 0=>[s]
 | k + 1=>match (bf xs ys s k)[k]? with
  | some x=>visit xs ys (bf xs ys s k) x
  | none=>bf xs ys s k
theorem Nw (xs ys:List Int) (s:Int) (k:Nat):bf xs ys s k <+: bf xs ys s (k + 1):=by
 show _ <+: (match (bf xs ys s k)[k]? with | some x=>visit xs ys (bf xs ys s k) x | none=>bf xs ys s k)
 split
 ·exact (zD _ _).trans (zD _ _)
 ·exact List.prefix_refl _
theorem uY (xs ys:List Int) (s:Int) (k:Nat):∀ d,bf xs ys s k <+: bf xs ys s (k + d)
 | 0=>List.prefix_refl _
 | d + 1=>(uY xs ys s k d).trans (Nw xs ys s (k + d))
theorem uZ (xs ys:List Int) (s:Int):∀ k,(bf xs ys s k).Nodup
 | 0=>by show [s].Nodup;simp
 | k + 1=>by
  show (match (bf xs ys s k)[k]? with | some x=>visit xs ys (bf xs ys s k) x | none=>bf xs ys s k).Nodup
  split
  ·exact Jt (Jt (uZ xs ys s k))
  ·exact uZ xs ys s k
theorem FE {xs ys:List Int} {s:Int} {k:Nat} (h:(bf xs ys s k).length<=k):∀ d,bf xs ys s (k + d)=bf xs ys s k
 | 0=>rfl
 | d + 1=>by
  have e:=FE h d
  show (match (bf xs ys s (k + d))[k + d]? with | some x=>visit xs ys (bf xs ys s (k + d)) x | none=>bf xs ys s (k + d))=_
  rw [e,List.getElem?_eq_none (by omega)]
section
variable {n:Nat} {xs ys:List Int} {s:Int}
theorem oN (hx:Tn n xs) (hy:Tn n ys) (s0:0<=s) (s1:s < (n:Int)):∀ k,∀ x∈bf xs ys s k,0<=x/\x < (n:Int)
 | 0,x,h=>by rw [List.mem_singleton.mp (show x∈[s] from h)];exact ⟨s0,s1⟩
 | k + 1,x,h=>by
  have ih:=oN hx hy s0 s1 k
  have h':x∈(match (bf xs ys s k)[k]? with | some y=>visit xs ys (bf xs ys s k) y | none=>bf xs ys s k):=h
  split at h'
  ·next y hy' =>
   obtain ⟨y0,y1⟩:=ih y (List.mem_of_getElem? hy')
   rcases n8.mp h' with h' | rfl
   ·rcases n8.mp h' with h' | rfl
    ·exact ih x h'
    ·exact hx.app y0 y1
   ·exact hy.app y0 y1
  ·exact ih x h'
theorem FF (hx:Tn n xs) (hy:Tn n ys) (s0:0<=s) (s1:s < (n:Int)) (k:Nat):(bf xs ys s k).length<=n:=by
 have:=xF (uZ xs ys s k) (ys:=upto n) fun x h=>lJ.mpr (oN hx hy s0 s1 k x h)
 rw [n4] at this
 exact this
theorem zE {k i:Nat} (hik:i<=k) {x:Int} (h:(bf xs ys s k)[i]?=some x):(bf xs ys s i)[i]?=some x:=by
 obtain ⟨d,rfl⟩:∃ d,k=i + d:=⟨k - i,by omega⟩
 by_cases hl:(bf xs ys s i).length<=i
 ·rw [FE hl d] at h
  exact h
 ·obtain ⟨t,e⟩:=uY xs ys s i d
  rw [<- e,List.getElem?_append_left (by omega)] at h
  exact h
theorem FG (hx:Tn n xs) (hy:Tn n ys) (s0:0<=s) (s1:s < (n:Int)):Cl xs ys (bf xs ys s n):=by
 intro x hm
 obtain ⟨i,hi,e⟩:=List.getElem_of_mem hm
 have hl:=FF hx hy s0 s1 n
 have hi':(bf xs ys s i)[i]?=some x:=zE (k:=n) (by omega) (by rw [List.getElem?_eq_getElem hi,e])
 have hs:visit xs ys (bf xs ys s i) x <+: bf xs ys s n:=by
  have:=uY xs ys s (i + 1) (n - (i + 1))
  rw [show i + 1 + (n - (i + 1))=n by omega] at this
  have e2:bf xs ys s (i + 1)=visit xs ys (bf xs ys s i) x:=by
   show (match (bf xs ys s i)[i]? with | some x=>visit xs ys (bf xs ys s i) x | none=>bf xs ys s i)=_
   rw [hi']
  rw [<- e2];exact this
 refine ⟨hs.subset ?_,hs.subset ?_⟩
 ·exact n8.mpr (.inl (n8.mpr (.inr rfl)))
 ·exact n8.mpr (.inr rfl)
theorem zF {zs F:List Int} (hz:Tn n zs) (nd:F.Nodup) (hb:∀ x∈F,0<=x/\x < (n:Int)) (hc:∀ x∈F,app zs x∈F) {y:Int} (y0:0<=y) (y1:y < (n:Int)) (h:app zs y∈F):y∈F:=by
 have Nx:(F.map (app zs)).Nodup:=by
  unfold List.Nodup
  rw [List.pairwise_map]
  refine List.Pairwise.imp_of_mem (fun {a b} ha hb' hab e=>?_) nd
  obtain ⟨a0,a1⟩:=hb a ha
  obtain ⟨b0,b1⟩:=hb b hb'
  exact hab (hz.inj a0 a1 b0 b1 e)
 have pm:(F.map (app zs)).Perm F:=CG Nx (fun x hx=>by obtain ⟨z,hz',rfl⟩:=List.mem_map.mp hx;exact hc z hz') (by simp)
 obtain ⟨z,xJ,e⟩:=List.mem_map.mp (pm.symm.subset h)
 obtain ⟨z0,z1⟩:=hb z xJ
 rw [<- hz.inj z0 z1 y0 y1 e];exact xJ
theorem Ju (hx:Tn n xs) (hy:Tn n ys) (s0:0<=s) (s1:s < (n:Int)) (all:∀ x:Int,0<=x->x < (n:Int)->ig xs ys x) {x:Int} (x0:0<=x) (x1:x < (n:Int)):x∈bf xs ys s n:=by
 have cl:=FG hx hy s0 s1
 have nd:=uZ xs ys s n
 have bd:=oN hx hy s0 s1 n
 have hs:s∈bf xs ys s n:=by
  have:=uY xs ys s 0 n
  rw [Nat.zero_add] at this
  exact this.subset (show s∈[s] by simp)
 have hpos:0 < n:=by omega
 have zero:∀ y,ig xs ys y->y∈bf xs ys s n->(0:Int)∈bf xs ys s n:=by
  intro y hr
  induction hr with
  | zero=>exact id
  | r h ih =>
   intro hm
   obtain ⟨a,b⟩:=h.bound hx hy hpos
   exact ih (zF hx nd bd (fun x hx'=>(cl x hx').1) a b hm)
  | u h ih =>
   intro hm
   obtain ⟨a,b⟩:=h.bound hx hy hpos
   exact ih (zF hy nd bd (fun x hx'=>(cl x hx').2) a b hm)
 exact cl.all (zero s (all s s0 s1) hs) (all x x0 x1)
theorem FH (hx:Tn n xs) (hy:Tn n ys) (s0:0<=s) (s1:s < (n:Int)) (all:∀ x:Int,0<=x->x < (n:Int)->ig xs ys x):Tn n (bf xs ys s n) :=
 CG (uZ xs ys s n) (fun x h=>lJ.mpr (oN hx hy s0 s1 n x h)) (by
  have:=xF (Jo n) (ys:=bf xs ys s n) fun x h=>by obtain ⟨a,b⟩:=lJ.mp h;exact Ju hx hy s0 s1 all a b
  exact this)
theorem Jv {p F:List Int} (hp:Tn n p) (hb:∀ x∈F,0<=x/\x < (n:Int)) {x:Int} (x0:0<=x) (x1:x < (n:Int)):dy (F.map (app p)) (app p x)=(dy F x).map (app p):=by
 unfold dy
 have e:app p x∈F.map (app p)↔x∈F:=⟨fun h=>by
  obtain ⟨y,hy,e⟩:=List.mem_map.mp h
  obtain ⟨y0,y1⟩:=hb y hy
  rw [<- hp.inj y0 y1 x0 x1 e];exact hy,fun h=>List.mem_map.mpr ⟨x,h,rfl⟩⟩
 by_cases h:x∈F
 ·rw [if_pos h,if_pos (e.mpr h)]
 ·rw [if_neg h,if_neg fun z=>h (e.mp z),List.map_append];rfl
theorem zG {p:List Int} (hx:Tn n xs) (hy:Tn n ys) (hp:Tn n p) (s0:0<=s) (s1:s < (n:Int)):∀ k,bf (anew xs p) (anew ys p) (app p s) k=(bf xs ys s k).map (app p)
 | 0=>rfl
 | k + 1=>by
  have ih:=zG hx hy hp s0 s1 k
  show (match (bf (anew xs p) (anew ys p) (app p s) k)[k]? with | some x=>visit (anew xs p) (anew ys p) (bf (anew xs p) (anew ys p) (app p s) k) x | none=>bf (anew xs p) (anew ys p) (app p s) k)=(match (bf xs ys s k)[k]? with | some x=>visit xs ys (bf xs ys s k) x | none=>bf xs ys s k).map (app p)
  rw [ih,List.getElem?_map]
  cases h:(bf xs ys s k)[k]? with
  | none=>rfl
  | some x =>
   obtain ⟨x0,x1⟩:=oN hx hy s0 s1 k x (List.mem_of_getElem? h)
   obtain ⟨a0,a1⟩:=hx.app x0 x1
   obtain ⟨b0,b1⟩:=hy.app x0 x1
   show visit (anew xs p) (anew ys p) ((bf xs ys s k).map (app p)) (app p x)=(visit xs ys (bf xs ys s k) x).map (app p)
   unfold visit
   rw [hx.jO hp x0 x1,hy.jO hp x0 x1,Jv hp (oN hx hy s0 s1 k) a0 a1,Jv hp (fun z hz=>?_) b0 b1]
   rcases n8.mp hz with hz | rfl
   ·exact oN hx hy s0 s1 k z hz
   ·exact ⟨a0,a1⟩
end
def num (zs sq:List Int):List Int:=sq.map fun o=>(sq.idxOf (app zs o):Int)
theorem Tn.inv_inv {n:Nat} {p:List Int} (hp:Tn n p):inv (inv p)=p:=by
 refine n6 (n:=n) hp.aw.aw.length hp.length fun s h0 h1=>?_
 obtain ⟨a0,a1⟩:=hp.aw.kJ h0 h1
 obtain ⟨b0,b1⟩:=hp.app h0 h1
 refine hp.aw.inj a0 a1 b0 b1 ?_
 rw [hp.aw.cS h0 h1,hp.eY h0 h1]
theorem xK {n:Nat} {zs sq:List Int} (hz:Tn n zs) (hs:Tn n sq):anew zs (inv sq)=num zs sq:=by
 unfold anew num a8
 rw [hs.inv_inv,List.map_map]
 apply List.map_congr_left
 intro o ho
 obtain ⟨o0,o1⟩:=hs.bound ho
 obtain ⟨a0,a1⟩:=hz.app o0 o1
 exact CK a0 (by rw [hs.length];exact a1)
theorem Jw {n:Nat} {p:List Int} (hp:Tn n p):∀ {sq:List Int},(∀ x∈sq,0<=x/\x < (n:Int))->∀ {y:Int},0<=y->y < (n:Int)->(sq.map (app p)).idxOf (app p y)=sq.idxOf y
 | [],_,_,_,_=>rfl
 | a :: r,hb,y,y0,y1=>by
  obtain ⟨a0,a1⟩:=hb a List.mem_cons_self
  rw [List.map_cons,List.idxOf_cons,List.idxOf_cons,Jw hp (fun x hx=>hb x (List.mem_cons_of_mem _ hx)) y0 y1]
  by_cases e:a=y
  ·rw [e];simp
  ·have e2:app p a≠app p y:=fun z=>e (hp.inj a0 a1 y0 y1 z)
   rw [show (a == y)=false by simpa using e,show (app p a == app p y)=false by simpa using e2]
theorem CL {n:Nat} {zs sq p:List Int} (hz:Tn n zs) (hp:Tn n p) (hb:∀ x∈sq,0<=x/\x < (n:Int)):num (anew zs p) (sq.map (app p))=num zs sq:=by
 unfold num
 rw [List.map_map]
 apply List.map_congr_left
 intro o ho
 obtain ⟨o0,o1⟩:=hb o ho
 obtain ⟨a0,a1⟩:=hz.app o0 o1
 show ((sq.map (app p)).idxOf (app (anew zs p) (app p o)):Int)=_
 rw [hz.jO hp o0 o1,Jw hp hb a0 a1]
end af
namespace af
def pw (xs:List Int) (k i:Int):Int:=if 0<=k then bB xs i k.toNat else bB (inv xs) i (-k).toNat
section
variable {n:Nat} {xs:List Int} {i:Int}
theorem Tn.mf (h:Tn n xs) (i0:0<=i) (i1:i < (n:Int)):∀ (k m:Nat),af.bB (inv xs) (af.bB xs i m) k=if k<=m then af.bB xs i (m - k) else af.bB (inv xs) i (k - m)
 | 0,m=>by rw [if_pos (Nat.zero_le _),Nat.sub_zero];rfl
 | k + 1,m=>by
  show af.app (inv xs) (af.bB (inv xs) (af.bB xs i m) k)=_
  rw [h.mf i0 i1 k m]
  by_cases hk:k<=m
  ·rw [if_pos hk]
   by_cases hk1:k + 1<=m
   ·rw [if_pos hk1]
    obtain ⟨d,hd⟩:∃ d,m - k=d + 1:=⟨m - k - 1,by omega⟩
    rw [hd,show m - (k + 1)=d by omega]
    obtain ⟨a,b⟩:=h.bB i0 i1 d
    exact h.eY a b
   ·rw [if_neg hk1,show m - k=0 by omega,show k + 1 - m=1 by omega]
    rfl
  ·rw [if_neg hk,if_neg (by omega),show k + 1 - m=(k - m) + 1 by omega]
   rfl
theorem Tn.pH (h:Tn n xs) (i0:0<=i) (i1:i < (n:Int)) (k m:Nat):af.bB xs (af.bB (inv xs) i m) k=if k<=m then af.bB (inv xs) i (m - k) else af.bB xs i (k - m):=by
 have:=h.aw.mf i0 i1 k m
 rw [h.inv_inv] at this
 exact this
theorem Tn.pw (h:Tn n xs) (i0:0<=i) (i1:i < (n:Int)) (k:Int):0<=af.pw xs k i/\af.pw xs k i < (n:Int):=by
 unfold af.pw
 split
 ·exact h.bB i0 i1 _
 ·exact h.aw.bB i0 i1 _
theorem Tn.pw_add (h:Tn n xs) (i0:0<=i) (i1:i < (n:Int)) (a b:Int):af.pw xs a (af.pw xs b i)=af.pw xs (a + b) i:=by
 by_cases ha:0<=a <;> by_cases hb:0<=b
 ·unfold af.pw
  rw [if_pos ha,if_pos hb,if_pos (by omega),ql]
  congr 1
  omega
 ·have e1:af.pw xs b i=af.bB (inv xs) i (-b).toNat:=by unfold af.pw;rw [if_neg hb]
  have e2:∀ j,af.pw xs a j=af.bB xs j a.toNat:=fun j=>by unfold af.pw;rw [if_pos ha]
  rw [e1,e2,h.pH i0 i1]
  unfold af.pw
  split
  ·split
   ·rw [show (-b).toNat - a.toNat=0 by omega,show (a + b).toNat=0 by omega];rfl
   ·congr 1;omega
  ·rw [if_pos (by omega)];congr 1;omega
 ·have e1:af.pw xs b i=af.bB xs i b.toNat:=by unfold af.pw;rw [if_pos hb]
  have e2:∀ j,af.pw xs a j=af.bB (inv xs) j (-a).toNat:=fun j=>by unfold af.pw;rw [if_neg ha]
  rw [e1,e2,h.mf i0 i1]
  unfold af.pw
  split
  ·rw [if_pos (by omega)];congr 1;omega
  ·rw [if_neg (by omega)];congr 1;omega
 ·unfold af.pw
  rw [if_neg ha,if_neg hb,if_neg (by omega),ql]
  congr 1
  omega
theorem Tn.pw_per (h:Tn n xs) (i0:0<=i) (i1:i < (n:Int)) {L:Nat} (hL:af.bB xs i L=i) (q:Int):af.pw xs ((L:Int) * q) i=i:=by
 have pos:∀ m:Nat,af.pw xs ((L:Int) * (m:Int)) i=i:=fun m=>by
  unfold af.pw
  rw [if_pos (Int.mul_nonneg (by omega) (by omega)),show ((L:Int) * (m:Int)).toNat=0 + L * m by rw [<- Int.natCast_mul,Int.toNat_natCast];omega,zC hL]
  rfl
 by_cases hq:0<=q
 ·obtain ⟨m,rfl⟩:∃ m:Nat,q=(m:Int):=⟨q.toNat,by omega⟩
  exact pos m
 ·obtain ⟨m,rfl⟩:∃ m:Nat,q=-(m:Int):=⟨(-q).toNat,by omega⟩
  have:=h.pw_add i0 i1 ((L:Int) * -(m:Int)) ((L:Int) * (m:Int))
  rw [pos m] at this
  rw [this,Int.mul_neg,Int.add_left_neg]
  rfl
theorem Tn.u3 (h:Tn n xs) (i0:0<=i) (i1:i < (n:Int)) {k v:Int} (o:Jr xs k i v):v=af.pw xs k i:=by
 obtain ⟨m,_,bk,rfl⟩:=o
 have m0:=Int.emod_nonneg k (show ((m + 1:Nat):Int)≠0 by omega)
 have e:af.bB xs i (k % ((m + 1:Nat):Int)).toNat=af.pw xs (k % ((m + 1:Nat):Int)) i:=by unfold af.pw;rw [if_pos m0]
 rw [e]
 have e2:=h.pw_add i0 i1 (k % ((m + 1:Nat):Int)) (((m + 1:Nat):Int) * (k / ((m + 1:Nat):Int)))
 rw [h.pw_per i0 i1 bk,Int.emod_add_mul_ediv] at e2
 exact e2
end
def cQ (xs:List Int) (k:Int):List Int:=(upto xs.length).map (pw xs k)
theorem zH (xs:List Int) (k:Int):(cQ xs k).length=xs.length:=by simp [cQ,n4]
theorem nF {xs:List Int} {k s:Int} (s0:0<=s) (s1:s < (xs.length:Int)):app (cQ xs k) s=pw xs k s:=by
 have e:=mS (xs:=cQ xs k) s0 (by rw [zH];exact s1)
 unfold cQ at e
 rw [List.getElem?_map,CJ (by omega)] at e
 have:=Option.some.inj e
 rw [Int.toNat_of_nonneg s0] at this
 exact this.symm
theorem Tn.cQ {n:Nat} {xs:List Int} (h:Tn n xs) (k:Int):Tn n (cQ xs k):=by
 have hl:=h.length
 refine Tn.pF (by rw [zH];exact hl) (fun s s0 s1=>by rw [nF s0 (by omega)];exact h.pw s0 s1 k) fun s t s0 s1 t0 t1 e=>?_
 rw [nF s0 (by omega),nF t0 (by omega)] at e
 have e2:=congrArg (af.pw xs (-k)) e
 rw [h.pw_add s0 s1,h.pw_add t0 t1,Int.add_left_neg] at e2
 exact e2
def shr (xs ys:List Int) (k:Int):List Int:=a8 (cQ xs (-k)) ys
theorem Tn.shr {n:Nat} {xs ys:List Int} (hx:Tn n xs) (hy:Tn n ys) (k:Int):Tn n (shr xs ys k):=(hx.cQ (-k)).a8 hy
theorem Tn.kS {n:Nat} {xs ys:List Int} (hx:Tn n xs) {k s:Int} (s0:0<=s) (s1:s < (n:Int)):af.app (af.shr xs ys k) s=af.app ys (af.pw xs (-k) s):=by
 have hl:=hx.length
 unfold af.shr
 rw [mE s0 (by rw [zH,hl];exact s1),nF s0 (by rw [hl];exact s1)]
theorem Tn.qY {n:Nat} {xs ys:List Int} (hx:Tn n xs) (hy:Tn n ys) (a b:Int):af.shr xs (af.shr xs ys a) b=af.shr xs ys (a + b):=by
 refine n6 (n:=n) (hx.shr (hx.shr hy a) b).length (hx.shr hy (a + b)).length fun s s0 s1=>?_
 obtain ⟨p0,p1⟩:=hx.pw s0 s1 (-b)
 rw [hx.kS s0 s1,hx.kS p0 p1,hx.kS s0 s1,hx.pw_add s0 s1,show -a + -b=-(a + b) by omega]
theorem Tn.pI {n:Nat} {xs ys:List Int} (hx:Tn n xs) (hy:Tn n ys):af.shr xs ys 0=ys:=by
 refine n6 (n:=n) (hx.shr hy 0).length hy.length fun s s0 s1=>?_
 rw [hx.kS s0 s1]
 rfl
end af
namespace af
def tb (l:Int->Nat) (p:Int->Int) (a b:Int):Bool:=if l a=l b\/l (p a)=l (p b) then false else (decide (l a < l b)).xor (decide (l (p a) < l (p b)))
section
variable {n:Nat} {L:List Int} {l:Int->Nat}
end
end af
namespace af
end af
namespace af
abbrev Sp:=Bool×Int
def ek (s:Sp):Prop:=(s.1=false->1<=s.2/\s.2<=3)/\s.2≠0
def iy (a b:Sp):Int:=if a.1 then a.2 + b.2 else (a.2 + b.2) % 4
def cN (a b:Sp):List Sp:=if iy a b=0 then [] else [(a.1,iy a b)]
def c7:List Sp->Sp->List Sp
 | [],s=>[s]
 | t :: r,s=>if t.1=s.1 then cN t s ++ r else s :: t :: r
theorem sC (t:Sp) (r:List Sp) (s:Sp):c7 (t :: r) s=if t.1=s.1 then cN t s ++ r else s :: t :: r:=rfl
def mT (w:List Sp):List Sp:=w.foldl c7 []
def jo (s:Sp):Sp:=(s.1,if s.1 then -s.2 else 4 - s.2)
def gB (w:List Sp):List Sp:=(w.map jo).reverse
def Pl:List Sp->Prop
 | []=>True
 | a :: r=>ek a/\(∀ b,r.head?=some b->a.1≠b.1)/\Pl r
theorem Pl.pr:∀ {l:List Sp},Pl l->∀ s∈l,ek s
 | a :: r,h,s,hs=>by
  rcases List.mem_cons.mp hs with rfl | hs
  ·exact h.1
  ·exact Pl.pr h.2.2 s hs
theorem Jx {a b:Sp} (ha:ek a) (e:a.1=b.1):(iy a b=0/\cN a b=[])\/(ek (a.1,iy a b)/\cN a b=[(a.1,iy a b)]):=by
 unfold cN
 by_cases h:iy a b=0
 ·exact .inl ⟨h,by rw [if_pos h]⟩
 ·refine .inr ⟨⟨fun hf=>?_,h⟩,by rw [if_neg h]⟩
  simp only at hf
  unfold iy at h ⊢
  simp only [hf,Bool.false_eq_true,if_false] at h ⊢
  omega
theorem Pl.push {l:List Sp} {s:Sp} (h:Pl l) (hs:ek s):Pl (c7 l s):=by
 cases l with
 | nil=>exact ⟨hs,fun b h=>(nomatch h),trivial⟩
 | cons t r =>
  rw [sC]
  split
  ·next e =>
   rcases Jx h.1 e with ⟨_,ej⟩ | ⟨hp,ej⟩
   ·rw [ej];exact h.2.2
   ·rw [ej];exact ⟨hp,h.2.1,h.2.2⟩
  ·next e =>
   refine ⟨hs,fun b hb=>?_,h⟩
   cases hb
   exact fun e'=>e e'.symm
theorem Pl.fold {w:List Sp}:∀ {l:List Sp},Pl l->(∀ s∈w,ek s)->Pl (w.foldl c7 l):=by
 induction w with
 | nil=>exact fun h _=>h
 | cons s w ih=>exact fun h hw=>ih (h.push (hw s (List.mem_cons_self))) fun s' h'=>hw s' (List.mem_cons_of_mem _ h')
theorem u5 {w:List Sp} (hw:∀ s∈w,ek s):Pl (mT w):=Pl.fold (l:=[]) trivial hw
theorem Ny {l:List Sp} {s:Sp} (h:∀ b,l.head?=some b->s.1≠b.1):c7 l s=s :: l:=by
 cases l with
 | nil=>rfl
 | cons t r=>rw [sC,if_neg fun e=>h t rfl e.symm]
theorem Nz (u v:List Sp):mT (u ++ v)=v.foldl c7 (mT u):=by unfold mT;rw [List.foldl_append]
theorem zI {s:Sp} (h:ek s):ek (jo s):=by
 obtain ⟨b,k⟩:=s
 cases b with
 | true=>exact ⟨nofun,fun e=>h.2 (by have:-k=0:=e;show k=0;omega)⟩
 | false =>
  obtain ⟨h1,h2⟩:=h.1 rfl
  simp only at h1 h2
  exact ⟨fun _=>by show 1<=4 - k/\4 - k<=3;omega,by show 4 - k≠0;omega⟩
theorem NA {p:List Sp} {s:Sp} (hp:Pl p) (hs:ek s):c7 (c7 p s) (jo s)=p:=by
 have e0:cN s (jo s)=[]:=by
  unfold cN iy jo
  cases hb:s.1 <;> simp <;> omega
 cases p with
 | nil =>
  show (if s.1=(jo s).1 then cN s (jo s) ++ [] else _)=_
  rw [if_pos (show s.1=(jo s).1 from rfl),e0];rfl
 | cons t r =>
  by_cases e:t.1=s.1
  ·have e1:c7 (t :: r) s=cN t s ++ r:=by rw [sC,if_pos e]
   rw [e1]
   obtain ⟨tb,tk⟩:=t
   obtain ⟨sb,sk⟩:=s
   simp only at e
   subst e
   have ht:=hp.1
   rcases Jx (b:=(tb,sk)) hp.1 rfl with ⟨h0,ej⟩ | ⟨CF,ej⟩
   ·rw [ej,List.nil_append]
    have eb:jo (tb,sk)=(tb,tk):=by
     unfold jo
     unfold iy at h0
     cases tb with
     | true=>simp only [if_true] at h0 ⊢;congr 1;omega
     | false =>
      have h1:=ht.1 rfl
      have h2:=hs.1 rfl
      simp only [Bool.false_eq_true,if_false] at h0 h1 h2 ⊢
      congr 1;omega
    rw [eb]
    exact Ny hp.2.1
   ·rw [ej]
    show (if tb=(jo (tb,sk)).1 then cN (tb,iy (tb,tk) (tb,sk)) (jo (tb,sk)) ++ r else _)=_
    rw [if_pos (show tb=(jo (tb,sk)).1 from rfl)]
    have eb:iy (tb,iy (tb,tk) (tb,sk)) (jo (tb,sk))=tk:=by
     unfold iy jo
     cases tb with
     | true=>simp only [if_true];omega
     | false =>
      have h1:=ht.1 rfl
      have h2:=hs.1 rfl
      simp only [Bool.false_eq_true,if_false] at h1 h2 ⊢
      omega
    unfold cN
    rw [eb,if_neg ht.2]
    rfl
  ·have e1:c7 (t :: r) s=s :: t :: r:=by rw [sC,if_neg e]
   rw [e1]
   show (if s.1=(jo s).1 then cN s (jo s) ++ (t :: r) else _)=_
   rw [if_pos (show s.1=(jo s).1 from rfl),e0];rfl
theorem NC {w:List Sp}:∀ {p:List Sp},Pl p->(∀ s∈w,ek s)->(w ++ gB w).foldl c7 p=p:=by
 induction w with
 | nil=>exact fun _ _=>rfl
 | cons s w ih =>
  intro p hp hw
  have e:(s :: w) ++ gB (s :: w)=s :: ((w ++ gB w) ++ [jo s]):=by unfold gB;simp
  rw [e]
  show ((w ++ gB w) ++ [jo s]).foldl c7 (c7 p s)=p
  have hs:=hw s (List.mem_cons_self)
  rw [List.foldl_append,ih (hp.push hs) fun s' h'=>hw s' (List.mem_cons_of_mem _ h')]
  exact NA hp hs
theorem ND {w:List Sp} (hw:∀ s∈w,ek s):mT (w ++ gB w)=[]:=NC (p:=[]) trivial hw
theorem NF (l:List Sp) (s:Sp):(c7 l s).length<=l.length + 1:=by
 cases l with
 | nil=>exact Nat.le_refl _
 | cons t r =>
  rw [sC]
  split
  ·unfold cN;split <;> simp <;> omega
  ·simp
theorem NG {w:List Sp}:∀ {l:List Sp},(w.foldl c7 l).length<=l.length + w.length:=by
 induction w with
 | nil=>exact Nat.le_refl _
 | cons s w ih =>
  intro l
  have:=ih (l:=c7 l s)
  have h2:=NF l s
  rw [List.length_cons]
  exact Nat.le_trans this (by omega)
theorem Jy (w:List Sp):(mT w).length<=w.length:=by have:=NG (w:=w) (l:=[]);simpa [mT] using this
structure T4 where (a b c d:Int)
def T4.one:T4:=⟨1,0,0,1⟩
def T4.qt:T4:=⟨0,-1,1,0⟩
def T4.mul (x y:T4):T4:=⟨x.a * y.a + x.b * y.c,x.a * y.b + x.b * y.d,x.c * y.a + x.d * y.c,x.c * y.b + x.d * y.d⟩
def T4.pJ (x:T4):T4:=⟨x.d,-x.b,-x.c,x.a⟩
theorem T4.ext' {x y:T4} (h1:x.a=y.a) (h2:x.b=y.b) (h3:x.c=y.c) (h4:x.d=y.d):x=y:=by cases x;cases y;simp only at h1 h2 h3 h4;subst h1 h2 h3 h4;rfl
theorem T4.assoc (x y z:T4):(x.mul y).mul z=x.mul (y.mul z):=by
 apply T4.ext' <;> simp only [T4.mul,Int.add_mul,Int.mul_add,Int.mul_assoc] <;> omega
theorem T4.one_mul (x:T4):T4.one.mul x=x:=by apply T4.ext' <;> simp [T4.mul,T4.one]
theorem T4.mul_one (x:T4):x.mul T4.one=x:=by apply T4.ext' <;> simp [T4.mul,T4.one]
theorem T4.qZ (x y:T4):(x.mul y).pJ=y.pJ.mul x.pJ:=by
 apply T4.ext' <;> simp only [T4.mul,T4.pJ,Int.neg_mul,Int.mul_neg,Int.neg_neg,Int.mul_comm] <;> omega
def qp:Nat->T4
 | 0=>T4.one
 | n + 1=>T4.qt.mul (qp n)
def jq (s:Sp):T4:=if s.1 then ⟨1,s.2,0,1⟩ else qp s.2.toNat
def kK (T:T4) (w:List Sp):T4:=w.foldl (fun T s=>(jq s).mul T) T
def aH (w:List Sp):T4:=kK T4.one w
theorem NH (w:List Sp):∀ T:T4,kK T w=(aH w).mul T:=by
 induction w with
 | nil=>exact fun T=>(T4.one_mul T).symm
 | cons s w ih =>
  intro T
  show kK ((jq s).mul T) w=(kK ((jq s).mul T4.one) w).mul T
  rw [ih,ih,T4.mul_one,T4.assoc]
theorem oS (u v:List Sp):aH (u ++ v)=(aH v).mul (aH u):=by
 show kK T4.one (u ++ v)=_
 unfold kK
 rw [List.foldl_append]
 exact NH v _
theorem u6 (u:List Sp) (s:Sp):aH (u ++ [s])=(jq s).mul (aH u):=by
 show kK T4.one (u ++ [s])=_
 unfold kK
 rw [List.foldl_append];rfl
theorem t3 {k:Int} (h:1<=k/\k<=3):k=1\/k=2\/k=3:=by omega
theorem NI {t s:Sp} (ht:ek t) (hs:ek s) (e:t.1=s.1):aH (cN t s)=(jq s).mul (jq t):=by
 obtain ⟨tb,tk⟩:=t
 obtain ⟨sb,sk⟩:=s
 simp only at e
 subst e
 cases tb with
 | true =>
  have e2:(jq (true,sk)).mul (jq (true,tk))=⟨1,tk + sk,0,1⟩:=by apply T4.ext' <;> simp [T4.mul,jq] <;> omega
  rw [e2]
  unfold cN iy
  simp only [if_true]
  split
  ·next h=>rw [h];rfl
  ·rw [show aH [(true,tk + sk)]=(jq (true,tk + sk)).mul T4.one from rfl,T4.mul_one];rfl
 | false =>
  have h1:=ht.1 rfl
  have h2:=hs.1 rfl
  simp only at h1 h2
  rcases t3 h1 with rfl | rfl | rfl <;> rcases t3 h2 with rfl | rfl | rfl <;> rfl
theorem NJ {l:List Sp} {s:Sp} (hl:Pl l) (hs:ek s):aH (c7 l s).reverse=(jq s).mul (aH l.reverse):=by
 cases l with
 | nil=>exact u6 [] s
 | cons t r =>
  rw [sC]
  split
  ·next e =>
   rw [List.reverse_append,oS,List.reverse_cons,u6,<- T4.assoc]
   congr 1
   rw [<- NI hl.1 hs e]
   unfold cN
   split <;> rfl
  ·rw [List.reverse_cons,u6]
theorem NK {w:List Sp}:∀ {l:List Sp},Pl l->(∀ s∈w,ek s)->aH (w.foldl c7 l).reverse=kK (aH l.reverse) w:=by
 induction w with
 | nil=>exact fun _ _=>rfl
 | cons s w ih =>
  intro l hl hw
  have hs:=hw s (List.mem_cons_self)
  show aH (w.foldl c7 (c7 l s)).reverse=kK ((jq s).mul (aH l.reverse)) w
  rw [ih (hl.push hs) fun s' h'=>hw s' (List.mem_cons_of_mem _ h'),NJ hl hs]
theorem Jz {w:List Sp} (hw:∀ s∈w,ek s):aH (mT w).reverse=aH w:=NK (l:=[]) trivial hw
theorem u7 {s:Sp} (h:ek s):jq (jo s)=(jq s).pJ:=by
 obtain ⟨b,k⟩:=s
 cases b with
 | true=>apply T4.ext' <;> simp [T4.pJ,jq,jo]
 | false =>
  have h1:=h.1 rfl
  simp only at h1
  rcases t3 h1 with rfl | rfl | rfl <;> rfl
theorem CM {w:List Sp} (hw:∀ s∈w,ek s):aH (gB w)=(aH w).pJ:=by
 induction w with
 | nil=>rfl
 | cons s w ih =>
  have e:gB (s :: w)=gB w ++ [jo s]:=by unfold gB;simp
  have e2:aH (s :: w)=(aH w).mul (jq s):=by
   rw [show s :: w=[s] ++ w from rfl,oS]
   congr 1
   exact (u6 [] s).trans (T4.mul_one _)
  rw [e,u6,ih fun s' h'=>hw s' (List.mem_cons_of_mem _ h'),u7 (hw s (List.mem_cons_self)),e2,T4.qZ]
def T4.le (x:T4) (M:Nat):Prop:=x.a.natAbs<=M/\x.b.natAbs<=M/\x.c.natAbs<=M/\x.d.natAbs<=M
theorem JA {a c k:Int} {M B:Nat} (ha:a.natAbs<=M) (hc:c.natAbs<=M) (hk:k.natAbs<=B):(a + k * c).natAbs<=(B + 1) * M:=by
 have h1:(k * c).natAbs<=B * M:=by rw [Int.natAbs_mul];exact Nat.mul_le_mul hk hc
 rw [Nat.succ_mul]
 omega
theorem sD {T:T4} {s:Sp} {M B:Nat} (h:T.le M) (hp:ek s) (hs:s.2.natAbs<=B):((jq s).mul T).le ((B + 1) * M):=by
 obtain ⟨b,k⟩:=s
 obtain ⟨ha,hb,hc,hd⟩:=h
 have hM:M<=(B + 1) * M:=by rw [Nat.succ_mul];omega
 cases b with
 | true =>
  refine ⟨?_,?_,?_,?_⟩ <;> simp only [T4.mul,jq,if_true,Int.one_mul,Int.zero_mul,Int.zero_add]
  ·exact JA ha hc hs
  ·exact JA hb hd hs
  ·omega
  ·omega
 | false =>
  have h1:=hp.1 rfl
  simp only at h1
  rcases t3 h1 with rfl | rfl | rfl <;> refine ⟨?_,?_,?_,?_⟩ <;> simp [T4.mul,jq,qp,T4.qt,T4.one] <;> omega
theorem u9 {B:Nat} {w:List Sp}:∀ {T:T4} {M:Nat},T.le M->(∀ s∈w,ek s/\s.2.natAbs<=B)->(kK T w).le ((B + 1) ^ w.length * M):=by
 induction w with
 | nil=>intro T M h _;simpa [kK] using h
 | cons s w ih =>
  intro T M h hw
  have hs:=hw s (List.mem_cons_self)
  have:=ih (sD h hs.1 hs.2) fun s' h'=>hw s' (List.mem_cons_of_mem _ h')
  rw [List.length_cons,Nat.pow_succ,Nat.mul_assoc]
  exact this
theorem NL {B n:Nat} {w:List Sp} (hw:∀ s∈w,ek s/\s.2.natAbs<=B) (hn:w.length<=n):(aH w).le ((B + 1) ^ n):=by
 have h:=u9 (T:=T4.one) (M:=1) ⟨by decide,by decide,by decide,by decide⟩ hw
 have h2:(B + 1) ^ w.length * 1<=(B + 1) ^ n:=by rw [Nat.mul_one];exact Nat.pow_le_pow_right (by omega) hn
 exact ⟨Nat.le_trans h.1 h2,Nat.le_trans h.2.1 h2,Nat.le_trans h.2.2.1 h2,Nat.le_trans h.2.2.2 h2⟩
end af
namespace af
def nu:List Int->List Int->Bool
 | [],[]=>false
 | [],_ :: _=>true
 | _ :: _,[]=>false
 | x :: xs,y :: ys=>if x=y then nu xs ys else decide (x < y)
theorem CN:∀ xs:List Int,nu xs xs=false
 | []=>rfl
 | x :: xs=>by unfold nu;rw [if_pos rfl];exact CN xs
theorem FI:∀ {xs ys zs:List Int},nu xs ys=true->nu ys zs=true->nu xs zs=true
 | [],[],_,h,_=>by cases h
 | [],_ :: _,[],_,h=>by cases h
 | [],_ :: _,_ :: _,_,_=>rfl
 | _ :: _,[],_,h,_=>by cases h
 | _ :: _,_ :: _,[],_,h=>by cases h
 | x :: xs,y :: ys,z :: zs,h1,h2=>by
  unfold nu at h1 h2 ⊢
  by_cases a:x=y
  ·rw [if_pos a] at h1
   by_cases b:y=z
   ·rw [if_pos b] at h2
    rw [if_pos (a.trans b)];exact FI h1 h2
   ·rw [if_neg b] at h2
    rw [if_neg (fun e=>b (a.symm.trans e))]
    rw [a];exact h2
  ·rw [if_neg a] at h1
   have h1:=of_decide_eq_true h1
   by_cases b:y=z
   ·rw [<- b,if_neg a];exact decide_eq_true h1
   ·rw [if_neg b] at h2
    have h2:=of_decide_eq_true h2
    rw [if_neg (by omega)];exact decide_eq_true (by omega)
theorem FJ:∀ {xs ys:List Int},nu xs ys=false->nu ys xs=false->xs=ys
 | [],[],_,_=>rfl
 | [],_ :: _,h,_=>by cases h
 | _ :: _,[],_,h=>by cases h
 | x :: xs,y :: ys,h1,h2=>by
  unfold nu at h1 h2
  by_cases a:x=y
  ·subst a
   rw [if_pos rfl] at h1 h2
   rw [FJ h1 h2]
  ·rw [if_neg a] at h1
   rw [if_neg (Ne.symm a)] at h2
   have h1:=of_decide_eq_false h1
   have h2:=of_decide_eq_false h2
   omega
abbrev b7:=List Int×List Int
def ll (p q:b7):Bool:=if p.1=q.1 then nu p.2 q.2 else nu p.1 q.1
theorem JB (p:b7):ll p p=false:=by unfold ll;rw [if_pos rfl];exact CN _
theorem NM {p q r:b7} (h1:ll p q=true) (h2:ll q r=true):ll p r=true:=by
 unfold ll at h1 h2 ⊢
 by_cases a:p.1=q.1
 ·rw [if_pos a] at h1
  by_cases b:q.1=r.1
  ·rw [if_pos b] at h2
   rw [if_pos (a.trans b)];exact FI h1 h2
  ·rw [if_neg b] at h2
   rw [if_neg (fun e=>b (a.symm.trans e)),a];exact h2
 ·rw [if_neg a] at h1
  by_cases b:q.1=r.1
  ·rw [<- b,if_neg a];exact h1
  ·rw [if_neg b] at h2
   have h:=FI h1 h2
   rw [if_neg (fun e=>by rw [e,CN] at h;cases h)];exact h
theorem NN {p q:b7} (h1:ll p q=false) (h2:ll q p=false):p=q:=by
 unfold ll at h1 h2
 by_cases a:p.1=q.1
 ·rw [if_pos a] at h1
  rw [if_pos a.symm] at h2
  exact Prod.ext a (FJ h1 h2)
 ·rw [if_neg a] at h1
  rw [if_neg (Ne.symm a)] at h2
  exact absurd (FJ h1 h2) a
def lp:List b7->b7
 | []=>([],[])
 | p :: l=>l.foldl (fun b q=>if ll q b then q else b) p
def Lst (l:List b7) (p:b7):Prop:=p∈l/\∀ q∈l,ll q p=false
theorem Lst.unique {l m:List b7} {p q:b7} (a:Lst l p) (b:Lst m q) (h:∀ x,x∈l↔x∈m):p=q:=NN (b.2 p ((h p).mp a.1)) (a.2 q ((h q).mpr b.1))
theorem Lst.step {l:List b7} {b q:b7} (h:Lst l b):Lst (l ++ [q]) (if ll q b then q else b):=by
 split
 ·next hq =>
  refine ⟨List.mem_append_right _ (List.mem_singleton_self _),fun x hx=>?_⟩
  rcases List.mem_append.mp hx with hx | hx
  ·cases NP:ll x q with
   | false=>rfl
   | true=>have:=NM NP hq;rw [h.2 x hx] at this;cases this
  ·rw [List.mem_singleton.mp hx];exact JB q
 ·next hq =>
  refine ⟨List.mem_append_left _ h.1,fun x hx=>?_⟩
  rcases List.mem_append.mp hx with hx | hx
  ·exact h.2 x hx
  ·rw [List.mem_singleton.mp hx];simpa using hq
theorem Lst.fold:∀ (l pre:List b7) (b:b7),Lst pre b->Lst (pre ++ l) (l.foldl (fun b q=>if ll q b then q else b) b)
 | [],pre,b,h=>by rw [List.append_nil];exact h
 | q :: l,pre,b,h=>by
  have:=Lst.fold l (pre ++ [q]) _ (h.step (q:=q))
  rw [List.append_assoc] at this
  exact this
theorem JC {l:List b7} (h:l≠[]):Lst l (lp l):=by
 cases l with
 | nil=>exact absurd rfl h
 | cons p l=>exact Lst.fold l [p] p ⟨List.mem_singleton_self _,fun q hq=>by rw [List.mem_singleton.mp hq];exact JB p⟩
theorem NQ {l m:List b7} (h:∀ x,x∈l↔x∈m) (hl:l≠[]):lp l=lp m:=by
 have hm:m≠[]:=fun e=>by
  obtain ⟨x,hx⟩:=List.exists_mem_of_ne_nil l hl
  have:=(h x).mp hx
  rw [e] at this
  cases this
 exact (JC hl).unique (JC hm) h
end af
namespace af
theorem sE (n:Nat):Tn n (upto n):=List.Perm.refl _
theorem CO {n:Nat} {s:Int} (s0:0<=s) (s1:s < (n:Int)):app (upto n) s=s:=by
 unfold app
 rw [List.getD_eq_getElem?_getD,CJ (by omega),Option.getD_some];omega
section
variable {n:Nat} {a b c g x y:List Int}
theorem nG (ha:Tn n a) (hb:Tn n b) (hc:Tn n c):a8 (a8 a b) c=a8 a (a8 b c):=by
 refine n6 (n:=n) ((ha.a8 hb).a8 hc).length (ha.a8 (hb.a8 hc)).length fun s s0 s1=>?_
 obtain ⟨p0,p1⟩:=ha.app s0 s1
 rw [mE s0 (by rw [(ha.a8 hb).length];exact s1),mE s0 (by rw [ha.length];exact s1),mE s0 (by rw [ha.length];exact s1),mE p0 (by rw [hb.length];exact p1)]
theorem zJ (ha:Tn n a):a8 a (inv a)=upto n:=Nk ha
theorem CP (ha:Tn n a):a8 (inv a) a=upto n:=Nl ha
theorem va (ha:Tn n a):a8 a (upto n)=a:=by
 refine n6 (n:=n) (ha.a8 (sE n)).length ha.length fun s s0 s1=>?_
 obtain ⟨p0,p1⟩:=ha.app s0 s1
 rw [mE s0 (by rw [ha.length];exact s1),CO p0 p1]
theorem zK (ha:Tn n a):a8 (upto n) a=a:=by
 refine n6 (n:=n) ((sE n).a8 ha).length ha.length fun s s0 s1=>?_
 rw [mE s0 (by rw [(sE n).length];exact s1),CO s0 s1]
theorem CQ (ha:Tn n a) (hb:Tn n b) (h:a8 a b=upto n):inv a=b:=by
 have e:a8 (inv a) (a8 a b)=b:=by rw [<- nG ha.aw ha hb,CP ha,zK hb]
 rw [h,va ha.aw] at e
 exact e
theorem sF (ha:Tn n a) (hb:Tn n b):inv (a8 a b)=a8 (inv b) (inv a):=by
 refine CQ (ha.a8 hb) (hb.aw.a8 ha.aw) ?_
 rw [nG ha hb (hb.aw.a8 ha.aw),<- nG hb hb.aw ha.aw,zJ hb,zK ha.aw,zJ ha]
theorem JD (ha:Tn n a) (hb:Tn n b):a8 (a8 a b) (inv b)=a:=by rw [nG ha hb hb.aw,zJ hb,va ha]
theorem FK (ha:Tn n a) (hb:Tn n b):a8 (a8 a (inv b)) b=a:=by rw [nG ha hb.aw hb,CP hb,va ha]
theorem NR (ha:Tn n a) (hb:Tn n b):a8 (inv a) (a8 a b)=b:=by rw [<- nG ha.aw ha hb,CP ha,zK hb]
theorem NS (ha:Tn n a) (hb:Tn n b):a8 a (a8 (inv a) b)=b:=by rw [<- nG ha ha.aw hb,zJ ha,zK hb]
theorem zL (hx:Tn n x) (i j:Int):a8 (cQ x i) (cQ x j)=cQ x (i + j):=by
 refine n6 (n:=n) ((hx.cQ i).a8 (hx.cQ j)).length (hx.cQ (i + j)).length fun s s0 s1=>?_
 obtain ⟨p0,p1⟩:=hx.pw s0 s1 i
 have hl:=hx.length
 rw [mE s0 (by rw [zH,hl];exact s1),nF s0 (by rw [hl];exact s1),nF p0 (by rw [hl];exact p1),nF s0 (by rw [hl];exact s1),hx.pw_add s0 s1,Int.add_comm j i]
theorem FL (hx:Tn n x):cQ x 0=upto n:=by
 refine n6 (n:=n) (hx.cQ 0).length (sE n).length fun s s0 s1=>?_
 rw [nF s0 (by rw [hx.length];exact s1),CO s0 s1];rfl
theorem zM (hx:Tn n x):cQ x 1=x:=by
 refine n6 (n:=n) (hx.cQ 1).length hx.length fun s s0 s1=>?_
 rw [nF s0 (by rw [hx.length];exact s1)];rfl
theorem FN (hx:Tn n x) (k:Int):inv (cQ x k)=cQ x (-k):=CQ (hx.cQ k) (hx.cQ (-k)) (by rw [zL hx,Int.add_right_neg,FL hx])
theorem FO (hx:Tn n x):cQ x (-1)=inv x:=by rw [<- FN hx,zM hx]
theorem JE (hx:Tn n x) (k:Int):cQ (inv x) k=cQ x (-k):=by
 refine n6 (n:=n) (hx.aw.cQ k).length (hx.cQ (-k)).length fun s s0 s1=>?_
 rw [nF s0 (by rw [hx.aw.length];exact s1),nF s0 (by rw [hx.length];exact s1)]
 unfold pw
 by_cases h:0<=k
 ·rw [if_pos h]
  by_cases h0:k=0
  ·subst h0;rfl
  ·rw [if_neg (by omega),show -(-k)=k by omega]
 ·rw [if_neg h,if_pos (by omega),hx.inv_inv]
theorem JF (ha:Tn n a) (hb:Tn n b) (hg:Tn n g):a8 (anew a g) (anew b g)=anew (a8 a b) g:=by
 unfold anew
 have hi:=hg.aw
 rw [nG (hi.a8 ha) hg ((hi.a8 hb).a8 hg),nG hi hb hg,NS hg (hb.a8 hg),nG hi ha (hb.a8 hg),<- nG ha hb hg,<- nG hi (ha.a8 hb) hg]
theorem NT (hg:Tn n g):anew (upto n) g=upto n:=by unfold anew;rw [va hg.aw,CP hg]
theorem JG (ha:Tn n a) (hg:Tn n g):inv (anew a g)=anew (inv a) g:=CQ (ha.anew hg) (ha.aw.anew hg) (by rw [JF ha ha.aw hg,zJ ha,NT hg])
theorem FP (hx:Tn n x) (hg:Tn n g) {i:Int} (i0:0<=i) (i1:i < (n:Int)):∀ k,bB (anew x g) (app g i) k=app g (bB x i k)
 | 0=>rfl
 | k + 1=>by
  obtain ⟨p0,p1⟩:=hx.bB i0 i1 k
  show app (anew x g) (bB (anew x g) (app g i) k)=app g (app x (bB x i k))
  rw [FP hx hg i0 i1 k,hx.jO hg p0 p1]
theorem NU (hx:Tn n x) (hg:Tn n g) {i:Int} (i0:0<=i) (i1:i < (n:Int)) (k:Int):pw (anew x g) k (app g i)=app g (pw x k i):=by
 unfold pw
 split
 ·exact FP hx hg i0 i1 _
 ·rw [JG hx hg];exact FP hx.aw hg i0 i1 _
theorem NV (hx:Tn n x) (hg:Tn n g) (k:Int):cQ (anew x g) k=anew (cQ x k) g:=by
 refine n6 (n:=n) ((hx.anew hg).cQ k).length ((hx.cQ k).anew hg).length fun s s0 s1=>?_
 obtain ⟨p0,p1⟩:=hg.kJ s0 s1
 rw [nF s0 (by rw [(hx.anew hg).length];exact s1),(hx.cQ k).gi hg s0 s1,nF p0 (by rw [hx.length];exact p1),<- NU hx hg p0 p1,hg.cS s0 s1]
end
def Vf (n:Nat) (p:b7):Prop:=Tn n p.1/\Tn n p.2
def bO (n:Nat) (p q:b7):Prop:=∃ g,Tn n g/\q=(anew p.1 g,anew p.2 g)
def Sh (k:Int) (p:b7):b7:=(p.1,shr p.1 p.2 k)
def Qt (p:b7):b7:=(inv p.2,p.1)
section
variable {n:Nat} {p q r:b7}
theorem Vf.sh (h:Vf n p) (k:Int):Vf n (Sh k p):=⟨h.1,h.1.shr h.2 k⟩
theorem Vf.qt (h:Vf n p):Vf n (Qt p):=⟨h.2.aw,h.1⟩
theorem bO.refl (h:Vf n p):bO n p p:=⟨upto n,sE n,by
 have e:∀ a:List Int,Tn n a->anew a (upto n)=a:=fun a ha=>by
  unfold anew
  rw [CQ (sE n) (sE n) (va (sE n)),zK ha,va ha]
 rw [e _ h.1,e _ h.2]⟩
theorem bO.symm (h:Vf n p) (a:bO n p q):bO n q p:=by
 obtain ⟨g,hg,rfl⟩:=a
 exact ⟨inv g,hg.aw,by show p=(anew (anew p.1 g) (inv g),anew (anew p.2 g) (inv g));rw [h.1.ke hg,h.2.ke hg]⟩
theorem bO.trans (h:Vf n p) (a:bO n p q) (b:bO n q r):bO n p r:=by
 obtain ⟨g,hg,rfl⟩:=a
 obtain ⟨f,hf,rfl⟩:=b
 exact ⟨a8 g f,hg.a8 hf,by show (anew (anew p.1 g) f,anew (anew p.2 g) f)=_;rw [h.1.kd hg hf,h.2.kd hg hf]⟩
theorem bO.sh (h:Vf n p) (a:bO n p q) (k:Int):bO n (Sh k p) (Sh k q):=by
 obtain ⟨g,hg,rfl⟩:=a
 refine ⟨g,hg,?_⟩
 show (anew p.1 g,a8 (cQ (anew p.1 g) (-k)) (anew p.2 g))=(anew p.1 g,anew (a8 (cQ p.1 (-k)) p.2) g)
 rw [NV h.1 hg,JF (h.1.cQ _) h.2 hg]
theorem bO.qt (h:Vf n p) (a:bO n p q):bO n (Qt p) (Qt q):=by
 obtain ⟨g,hg,rfl⟩:=a
 refine ⟨g,hg,?_⟩
 show (inv (anew p.2 g),anew p.1 g)=(anew (inv p.2) g,anew p.1 g)
 rw [JG h.2 hg]
theorem zN (h:Vf n p) (j k:Int):Sh k (Sh j p)=Sh (j + k) p:=by
 show (p.1,shr p.1 (shr p.1 p.2 j) k)=(p.1,shr p.1 p.2 (j + k))
 rw [h.1.qY h.2]
theorem q4 (h:Vf n p):Sh 0 p=p:=by
 show (p.1,shr p.1 p.2 0)=p
 rw [h.1.pI h.2]
def Q2 (p:b7):b7:=(inv p.1,inv p.2)
theorem zO (p:b7):Qt (Qt p)=Q2 p:=rfl
theorem zP (h:Vf n p):Q2 (Q2 p)=p:=by
 show (inv (inv p.1),inv (inv p.2))=p
 rw [h.1.inv_inv,h.2.inv_inv]
theorem Vf.q2 (h:Vf n p):Vf n (Q2 p):=⟨h.1.aw,h.2.aw⟩
theorem bO.q2 (h:Vf n p) (a:bO n p q):bO n (Q2 p) (Q2 q):=bO.qt h.qt (bO.qt h a)
theorem sG (h:Vf n p) (k:Int):bO n (Q2 (Sh k p)) (Sh k (Q2 p)):=by
 have hx:=h.1
 have hy:=h.2
 refine ⟨cQ p.1 (-k),hx.cQ _,?_⟩
 show (inv p.1,a8 (cQ (inv p.1) (-k)) (inv p.2))=(anew (inv p.1) (cQ p.1 (-k)),anew (inv (a8 (cQ p.1 (-k)) p.2)) (cQ p.1 (-k)))
 have e1:anew (inv p.1) (cQ p.1 (-k))=inv p.1:=by
  unfold anew
  rw [FN hx,<- FO hx,zL hx,zL hx]
  congr 1;omega
 have e2:anew (inv (a8 (cQ p.1 (-k)) p.2)) (cQ p.1 (-k))=a8 (cQ (inv p.1) (-k)) (inv p.2):=by
  unfold anew
  rw [sF (hx.cQ _) hy,JE hx,FN hx,nG (hx.cQ _) (hy.aw.a8 (hx.cQ _)) (hx.cQ _),nG hy.aw (hx.cQ _) (hx.cQ _),zL hx,show - -k + -k=0 by omega,FL hx,va hy.aw]
 rw [e1,e2]
theorem zQ (h:Vf n p):bO n (Qt (Sh 1 (Qt p))) (Sh (-1) (Qt (Sh (-1) p))):=by
 have hx:=h.1
 have hy:=h.2
 have l:Qt (Sh 1 (Qt p))=(a8 (inv p.1) (inv p.2),inv p.2):=by
  show (inv (a8 (cQ (inv p.2) (-1)) p.1),inv p.2)=_
  rw [JE hy,show -(-1:Int)=1 by omega,zM hy,sF hy hx]
 have r:Sh (-1) (Qt (Sh (-1) p))=(a8 (inv p.2) (inv p.1),inv p.2):=by
  show (inv (a8 (cQ p.1 (-(-1))) p.2),a8 (cQ (inv (a8 (cQ p.1 (-(-1))) p.2)) (-(-1))) p.1)=_
  have hf:=hx.a8 hy
  rw [show -(-1:Int)=1 by omega,zM hx,zM hf.aw,sF hx hy,FK hy.aw hx]
 refine ⟨p.2,hy,?_⟩
 rw [l,r]
 show (a8 (inv p.2) (inv p.1),inv p.2)=(a8 (a8 (inv p.2) (a8 (inv p.1) (inv p.2))) p.2,a8 (a8 (inv p.2) (inv p.2)) p.2)
 rw [<- nG hy.aw hx.aw hy.aw,FK (hy.aw.a8 hx.aw) hy,FK hy.aw hy]
theorem vd (h:Vf n p):bO n (Qt (Sh (-1) (Qt p))) (Q2 (Sh 1 (Qt (Sh 1 p)))):=by
 have hx:=h.1
 have hy:=h.2
 have hu:=hx.aw.a8 hy
 have l:Qt (Sh (-1) (Qt p))=(a8 (inv p.1) p.2,inv p.2):=by
  show (inv (a8 (cQ (inv p.2) (-(-1))) p.1),inv p.2)=_
  rw [show -(-1:Int)=1 by omega,zM hy.aw,sF hy.aw hx,hy.inv_inv]
 have r:Q2 (Sh 1 (Qt (Sh 1 p)))=(a8 (inv p.1) p.2,a8 (inv p.1) (a8 (inv p.2) p.1)):=by
  show (inv (inv (a8 (cQ p.1 (-1)) p.2)),inv (a8 (cQ (inv (a8 (cQ p.1 (-1)) p.2)) (-1)) p.1))=_
  rw [FO hx,FO hu.aw,hu.inv_inv,sF hu hx,sF hx.aw hy,hx.inv_inv]
 refine ⟨a8 (inv p.2) p.1,hy.aw.a8 hx,?_⟩
 rw [l,r]
 show (a8 (inv p.1) p.2,a8 (inv p.1) (a8 (inv p.2) p.1))=(a8 (a8 (inv (a8 (inv p.2) p.1)) (a8 (inv p.1) p.2)) (a8 (inv p.2) p.1),a8 (a8 (inv (a8 (inv p.2) p.1)) (inv p.2)) (a8 (inv p.2) p.1))
 have eg:inv (a8 (inv p.2) p.1)=a8 (inv p.1) p.2:=by rw [sF hy.aw hx,hy.inv_inv]
 have NW:a8 (inv p.2) p.1=inv (a8 (inv p.1) p.2):=by rw [sF hx.aw hy,hx.inv_inv]
 rw [eg]
 have e1:a8 (a8 (a8 (inv p.1) p.2) (a8 (inv p.1) p.2)) (a8 (inv p.2) p.1)=a8 (inv p.1) p.2:=by rw [NW,JD hu hu]
 have e2:a8 (a8 (a8 (inv p.1) p.2) (inv p.2)) (a8 (inv p.2) p.1)=a8 (inv p.1) (a8 (inv p.2) p.1):=by rw [JD hx.aw hy]
 rw [e1,e2]
end
def act:Int->List Int->b7->b7
 | k,[],p=>Sh k p
 | k,j :: ks,p=>act j ks (Qt (Sh k p))
def tS (k:Int):T4:=⟨1,k,0,1⟩
def gw (k:Int):T4:=⟨0,-1,1,k⟩
def gj:Int->List Int->T4
 | k,[]=>tS k
 | k,j :: ks=>(gj j ks).mul (gw k)
def jd (e:Bool) (M:T4):T4:=if e then ⟨-M.a,-M.b,-M.c,-M.d⟩ else M
def mF (e:Bool) (p:b7):b7:=if e then Q2 p else p
theorem zR (e f:Bool) (M:T4):jd e (jd f M)=jd (e.xor f) M:=by
 cases e <;> cases f <;> simp [jd]
theorem zS (e:Bool) (M N:T4):(jd e M).mul N=jd e (M.mul N):=by
 cases e
 ·rfl
 ·unfold jd T4.mul;simp only [if_true];congr 1 <;> grind
section
variable {n:Nat} {p q r:b7}
theorem Vf.act:∀ {ks:List Int} {k:Int} {p:b7},Vf n p->Vf n (af.act k ks p)
 | [],k,p,h=>h.sh k
 | j :: ks,k,p,h=>Vf.act (ks:=ks) (h.sh k).qt
theorem bO.act:∀ {ks:List Int} {k:Int} {p q:b7},Vf n p->bO n p q->bO n (af.act k ks p) (af.act k ks q)
 | [],k,p,q,h,a=>bO.sh h a k
 | j :: ks,k,p,q,h,a=>bO.act (ks:=ks) (h.sh k).qt (bO.qt (h.sh k) (bO.sh h a k))
theorem bO.mF (h:Vf n p) (a:bO n p q) (e:Bool):bO n (af.mF e p) (af.mF e q):=by cases e;exact a;exact bO.q2 h a
theorem CS (h:Vf n p) (e f:Bool):mF e (mF f p)=mF (e.xor f) p:=by
 cases e <;> cases f
 ·rfl
 ·rfl
 ·rfl
 ·exact zP h
theorem zT:∀ {ks:List Int} {k:Int} {p:b7},Vf n p->bO n (act k ks (Q2 p)) (Q2 (act k ks p))
 | [],k,p,h=>bO.symm (h.sh k).q2 (sG h k)
 | j :: ks,k,p,h=>by
  have h1:bO n (Qt (Sh k (Q2 p))) (Qt (Q2 (Sh k p))):=bO.qt (h.q2.sh k) (bO.symm (h.sh k).q2 (sG h k))
  have h2:=bO.act (ks:=ks) (k:=j) ((h.q2.sh k).qt) h1
  have h3:=zT (ks:=ks) (k:=j) (h.sh k).qt
  exact bO.trans (Vf.act (ks:=j :: ks) (k:=k) h.q2) h2 h3
theorem CT {ks:List Int} {j k:Int} (h:Vf n p):act k ks (Sh j p)=act (j + k) ks p:=by
 cases ks with
 | nil=>exact zN h j k
 | cons i ks=>show act i ks (Qt (Sh k (Sh j p)))=act i ks (Qt (Sh (j + k) p));rw [zN h]
theorem JH {ks:List Int} {k:Int} (h:Vf n p):act k ks (Qt p)=act 0 (k :: ks) p:=by show _=act k ks (Qt (Sh 0 p));rw [q4 h]
theorem NX {a b:Int} {ks:List Int} {j:Int} (hj:j=0\/j=1\/j=-1):∃ (k':Int) (ks':List Int) (f:Bool),ks'.length < ks.length + 2/\gj a (j :: b :: ks)=jd f (gj k' ks')/\∀ {n:Nat} {p:b7},Vf n p->bO n (act a (j :: b :: ks) p) (mF f (act k' ks' p)):=by
 rcases hj with rfl | rfl | rfl
 ·refine ⟨a + b,ks,true,by omega,?_,fun {n p} h=>?_⟩
  ·cases ks with
   | nil=>simp [gj,jd,T4.mul,tS,gw];omega
   | cons i ks =>
    show (((gj i ks).mul (gw b)).mul (gw 0)).mul (gw a)=jd true ((gj i ks).mul (gw (a + b)))
    rw [T4.assoc,T4.assoc]
    have:(gw b).mul ((gw 0).mul (gw a))=jd true (gw (a + b)):=by simp [jd,T4.mul,gw];omega
    rw [this]
    unfold jd T4.mul;simp only [if_true];congr 1 <;> grind
  ·show bO n (act b ks (Qt (Sh 0 (Qt (Sh a p))))) (Q2 (act (a + b) ks p))
   rw [q4 (h.sh a).qt,zO,<- CT h]
   exact zT (h.sh a)
 ·refine ⟨a - 1,(b - 1) :: ks,false,by simp,?_,fun {n p} h=>?_⟩
  ·cases ks with
   | nil=>simp [gj,jd,T4.mul,tS,gw];refine ⟨?_,?_⟩ <;> grind
   | cons i ks =>
    show (((gj i ks).mul (gw b)).mul (gw 1)).mul (gw a)=((gj i ks).mul (gw (b - 1))).mul (gw (a - 1))
    rw [T4.assoc,T4.assoc,T4.assoc]
    have:(gw b).mul ((gw 1).mul (gw a))=(gw (b - 1)).mul (gw (a - 1)):=by simp [T4.mul,gw];refine ⟨?_,?_,?_⟩ <;> grind
    rw [this]
  ·show bO n (act b ks (Qt (Sh 1 (Qt (Sh a p))))) (act (b - 1) ks (Qt (Sh (a - 1) p)))
   have h1:=bO.act (ks:=ks) (k:=b) ((h.sh a).qt.sh 1).qt (zQ (h.sh a))
   rw [CT ((h.sh a).sh (-1)).qt,zN h,show -1 + b=b - 1 by omega,show a + -1=a - 1 by omega] at h1
   exact h1
 ·refine ⟨a + 1,(b + 1) :: ks,true,by simp,?_,fun {n p} h=>?_⟩
  ·cases ks with
   | nil=>simp [gj,jd,T4.mul,tS,gw];refine ⟨?_,?_⟩ <;> grind
   | cons i ks =>
    show (((gj i ks).mul (gw b)).mul (gw (-1))).mul (gw a)=jd true (((gj i ks).mul (gw (b + 1))).mul (gw (a + 1)))
    rw [T4.assoc,T4.assoc,T4.assoc]
    have:(gw b).mul ((gw (-1)).mul (gw a))=jd true ((gw (b + 1)).mul (gw (a + 1))):=by simp [jd,T4.mul,gw];refine ⟨?_,?_,?_⟩ <;> grind
    rw [this]
    unfold jd T4.mul;simp only [if_true];congr 1 <;> grind
  ·show bO n (act b ks (Qt (Sh (-1) (Qt (Sh a p))))) (Q2 (act (b + 1) ks (Qt (Sh (a + 1) p))))
   have h1:=bO.act (ks:=ks) (k:=b) ((h.sh a).qt.sh (-1)).qt (vd (h.sh a))
   have h2:=zT (ks:=ks) (k:=b) (((h.sh a).sh 1).qt.sh 1)
   rw [CT ((h.sh a).sh 1).qt,zN h,show 1 + b=b + 1 by omega] at h2
   have h3:=bO.trans (Vf.act (ks:=ks) (k:=b) ((h.sh a).qt.sh (-1)).qt) h1 (by rw [zN h] at *;exact h2)
   exact h3
def big:List Int->Prop
 | []=>True
 | [_]=>True
 | j :: b :: ks=>(2<=j\/j<=-2)/\big (b :: ks)
theorem JI:∀ (ks:List Int) (k:Int),big ks\/∃ (k':Int) (ks':List Int) (f:Bool),ks'.length < ks.length/\gj k ks=jd f (gj k' ks')/\∀ {n:Nat} {p:b7},Vf n p->bO n (act k ks p) (mF f (act k' ks' p))
 | [],_=>.inl trivial
 | [_],_=>.inl trivial
 | j :: b :: ks,k=>by
  by_cases hj:j=0\/j=1\/j=-1
  ·obtain ⟨k',ks',f,hl,hm,ha⟩:=NX (a:=k) (b:=b) (ks:=ks) hj
   exact .inr ⟨k',ks',f,by simpa using hl,hm,ha⟩
  ·rcases JI (b :: ks) j with h | ⟨k',ks',f,hl,hm,ha⟩
   ·exact .inl ⟨by omega,h⟩
   ·refine .inr ⟨k,k' :: ks',f,by simpa using hl,?_,fun {n p} h=>?_⟩
    ·show (gj j (b :: ks)).mul (gw k)=jd f ((gj k' ks').mul (gw k))
     rw [hm,zS]
    ·exact ha (h.sh k).qt
theorem JJ:∀ (ks:List Int) (k:Int),big ks->(ks=[]\/2<=k\/k<=-2)->(gj k ks).c.natAbs < (gj k ks).d.natAbs
 | [],k,_,_=>by show (0:Int).natAbs < (1:Int).natAbs;decide
 | j :: ks,k,h,hk=>by
  have hk:2<=k\/k<=-2:=by rcases hk with hk | hk;cases hk;exact hk
  have hj:ks=[]\/2<=j\/j<=-2:=by
   cases ks with
   | nil=>exact .inl rfl
   | cons b ks=>exact .inr h.1
  have hb:big ks:=by
   cases ks with
   | nil=>trivial
   | cons b ks=>exact h.2
  have ih:=JJ ks j hb hj
  show ((gj j ks).c * 0 + (gj j ks).d * 1).natAbs < ((gj j ks).c * -1 + (gj j ks).d * k).natAbs
  generalize (gj j ks).c=c at ih
  generalize (gj j ks).d=d at ih
  rw [Int.mul_zero,Int.zero_add,Int.mul_one]
  have e:(d * k).natAbs=d.natAbs * k.natAbs:=Int.natAbs_mul d k
  have e2:d.natAbs * 2<=d.natAbs * k.natAbs:=Nat.mul_le_mul_left _ (by omega)
  omega
theorem zU {ks:List Int} {k:Int} (h:big ks) (hn:ks≠[]):(gj k ks).c≠0:=by
 cases ks with
 | nil=>exact absurd rfl hn
 | cons j ks =>
  have hj:ks=[]\/2<=j\/j<=-2:=by
   cases ks with
   | nil=>exact .inl rfl
   | cons b ks=>exact .inr h.1
  have hb:big ks:=by
   cases ks with
   | nil=>trivial
   | cons b ks=>exact h.2
  have ih:=JJ ks j hb hj
  show (gj j ks).c * 0 + (gj j ks).d * 1≠0
  omega
theorem FQ:∀ (m:Nat) (ks:List Int) (k:Int),ks.length<=m->∀ (e:Bool),gj k ks=jd e T4.one->∀ {n:Nat} {p:b7},Vf n p->bO n (act k ks p) (mF e p):=by
 intro m
 induction m with
 | zero =>
  intro ks k hl e hm n p h
  have:ks=[]:=List.eq_nil_of_length_eq_zero (by omega)
  subst this
  have hm:(⟨1,k,0,1⟩:T4)=jd e T4.one:=hm
  cases e with
  | false =>
   have hk:k=0:=congrArg T4.b hm
   subst hk
   show bO n (Sh 0 p) p
   rw [q4 h];exact bO.refl h
  | true=>exact absurd (congrArg T4.a hm) (show ¬ (1:Int)=-1 by decide)
 | succ m ih =>
  intro ks k hl e hm n p h
  by_cases hn:ks=[]
  ·subst hn
   exact ih [] k (Nat.zero_le _) e hm h
  ·rcases JI ks k with hb | ⟨k',ks',f,hl',hm',ha⟩
   ·have:=zU (k:=k) hb hn
    rw [hm] at this
    exact absurd (by cases e <;> rfl) this
   ·have hm2:gj k' ks'=jd (f.xor e) T4.one:=by
     have:jd f (gj k ks)=gj k' ks':=by rw [hm',zR,Bool.xor_self];rfl
     rw [<- this,hm,zR]
    have h1:=ih ks' k' (by omega) (f.xor e) hm2 h
    have h2:=bO.trans h.act (ha h) (bO.mF h.act h1 f)
    rw [CS h,<- Bool.xor_assoc,Bool.xor_self,Bool.false_xor] at h2
    exact h2
end
def mG:Nat->b7->b7
 | 0,p=>p
 | j + 1,p=>Qt (mG j p)
def stM (p:b7) (s:Sp):b7:=if s.1=true then Sh s.2 p else mG s.2.toNat p
def je (p:b7) (w:List Sp):b7:=w.foldl stM p
section
variable {n:Nat} {p q:b7}
theorem Vf.mG (h:Vf n p):∀ j,Vf n (af.mG j p)
 | 0=>h
 | j + 1=>(Vf.mG h j).qt
theorem Vf.st (h:Vf n p) (s:Sp):Vf n (stM p s):=by
 unfold stM
 split
 ·exact h.sh _
 ·exact h.mG _
theorem Vf.ld:∀ {w:List Sp} {p:b7},Vf n p->Vf n (je p w)
 | [],_,h=>h
 | s :: w,p,h=>Vf.ld (w:=w) (h.st s)
theorem bO.mG (h:Vf n p) (a:bO n p q):∀ j,bO n (af.mG j p) (af.mG j q)
 | 0=>a
 | j + 1=>bO.qt (h.mG j) (bO.mG h a j)
theorem bO.st (h:Vf n p) (a:bO n p q) (s:Sp):bO n (stM p s) (stM q s):=by
 unfold stM
 split
 ·exact bO.sh h a _
 ·exact bO.mG h a _
theorem bO.ld:∀ {w:List Sp} {p q:b7},Vf n p->bO n p q->bO n (je p w) (je q w)
 | [],_,_,_,a=>a
 | s :: w,p,q,h,a=>bO.ld (w:=w) (h.st s) (bO.st h a s)
theorem FR (p:b7) (u v:List Sp):je p (u ++ v)=je (je p u) v:=by unfold je;rw [List.foldl_append]
end
theorem JK (s:Sp) (w:List Sp):aH (s :: w)=(aH w).mul (jq s):=by
 have:=oS [s] w
 rw [show aH [s]=(jq s).mul T4.one from rfl,T4.mul_one] at this
 exact this
theorem JL (e:Bool) (M N:T4):M.mul (jd e N)=jd e (M.mul N):=by
 cases e
 ·rfl
 ·unfold jd T4.mul;simp only [if_true];congr 1 <;> grind
theorem ve (ks:List Int) (j k:Int):(gj k ks).mul (tS j)=gj (j + k) ks:=by
 cases ks with
 | nil=>simp [gj,T4.mul,tS]
 | cons i ks =>
  show ((gj i ks).mul (gw k)).mul (tS j)=(gj i ks).mul (gw (j + k))
  rw [T4.assoc]
  congr 1
  simp [T4.mul,gw,tS]
theorem vf (ks:List Int) (k:Int):(gj k ks).mul T4.qt=gj 0 (k :: ks):=rfl
theorem JM:∀ {w:List Sp},(∀ s∈w,ek s)->∃ (k:Int) (ks:List Int) (f:Bool),aH w=jd f (gj k ks)/\∀ {n:Nat} {p:b7},Vf n p->bO n (je p w) (mF f (act k ks p))
 | [],_=>⟨0,[],false,rfl,fun {n p} h=>by show bO n p (Sh 0 p);rw [q4 h];exact bO.refl h⟩
 | s :: w,hw=>by
  obtain ⟨k,ks,f,hm,ha⟩:=JM (w:=w) fun x hx=>hw x (List.mem_cons_of_mem _ hx)
  have hs:=hw s List.mem_cons_self
  obtain ⟨b,j⟩:=s
  rw [JK,hm]
  cases b with
  | true =>
   refine ⟨j + k,ks,f,?_,fun {n p} h=>?_⟩
   ·rw [zS];congr 1;exact ve ks j k
   ·have:=ha (h.sh j)
    rw [CT h] at this
    exact this
  | false =>
   have c:j=1\/j=2\/j=3:=t3 (hs.1 rfl)
   rcases c with rfl | rfl | rfl
   ·refine ⟨0,k :: ks,f,?_,fun {n p} h=>?_⟩
    ·rw [zS];congr 1
    ·have:=ha h.qt
     rw [JH h] at this
     exact this
   ·refine ⟨k,ks,!f,?_,fun {n p} h=>?_⟩
    ·rw [zS,show jq (false,2)=jd true T4.one from rfl,JL,T4.mul_one,zR];cases f <;> rfl
    ·have h1:=ha h.q2
     have h2:=bO.trans (Vf.ld (w:=w) h.q2) h1 (bO.mF (Vf.act h.q2) (zT h) f)
     have e:mF f (Q2 (act k ks p))=mF (!f) (act k ks p):=by
      have:=CS (p:=act k ks p) h.act f true
      rw [Bool.xor_true] at this
      exact this
     rw [e] at h2
     exact h2
   ·refine ⟨0,k :: ks,!f,?_,fun {n p} h=>?_⟩
    ·have e3:jq (false,3)=jd true T4.qt:=rfl
     rw [zS,e3,JL,zR,vf];cases f <;> rfl
    ·have h1:=ha (p:=Q2 (Qt p)) h.qt.q2
     have h2:=bO.trans (Vf.ld (w:=w) h.qt.q2) h1 (bO.mF (Vf.act h.qt.q2) (zT h.qt) f)
     have e:mF f (Q2 (act k ks (Qt p)))=mF (!f) (act 0 (k :: ks) p):=by
      have:=CS (p:=act k ks (Qt p)) h.qt.act f true
      rw [Bool.xor_true] at this
      rw [<- JH h]
      exact this
     rw [e] at h2
     exact h2
theorem FT {w:List Sp} (hw:∀ s∈w,ek s) (h1:aH w=T4.one) {n:Nat} {p:b7} (h:Vf n p):bO n (je p w) p:=by
 obtain ⟨k,ks,f,hm,ha⟩:=JM hw
 have e:gj k ks=jd f T4.one:=by
  have:jd f (aH w)=gj k ks:=by rw [hm,zR,Bool.xor_self];rfl
  rw [<- this,h1]
 have h2:=FQ ks.length ks k (Nat.le_refl _) f e h
 have h3:=bO.trans (Vf.ld h) (ha h) (bO.mF h.act h2 f)
 rw [CS h,Bool.xor_self] at h3
 exact h3
theorem zV {w:List Sp} (hw:∀ s∈w,ek s):∀ s∈gB w,ek s:=fun s hs=>by
 unfold gB at hs
 obtain ⟨t,ht,rfl⟩:=List.mem_map.mp (List.mem_reverse.mp hs)
 exact zI (hw t ht)
theorem CU {w:List Sp} (hw:∀ s∈w,ek s):aH (w ++ gB w)=T4.one:=by
 have hp:∀ s∈w ++ gB w,ek s:=fun s hs=>by
  rcases List.mem_append.mp hs with hs | hs
  ·exact hw s hs
  ·exact zV hw s hs
 rw [<- Jz hp,ND hw];rfl
theorem CV {w:List Sp} (hw:∀ s∈w,ek s):(aH w).a * (aH w).d - (aH w).b * (aH w).c=1:=by
 have:=CU hw
 rw [oS,CM hw] at this
 have h:=congrArg T4.a this
 have h:(aH w).d * (aH w).a + -(aH w).b * (aH w).c=1:=h
 rw [Int.mul_comm (aH w).d,Int.neg_mul] at h
 omega
theorem JN {M:T4} (h:M.a * M.d - M.b * M.c=1):M.mul M.pJ=T4.one/\M.pJ.mul M=T4.one:=by
 constructor <;> (apply T4.ext' <;> simp [T4.mul,T4.pJ,T4.one] <;> grind)
theorem JO {u w:List Sp} (hu:∀ s∈u,ek s) (hw:∀ s∈w,ek s) (e:aH u=aH w) {n:Nat} {p:b7} (h:Vf n p):bO n (je p u) (je p w):=by
 have hb:=zV hw
 have h1:bO n (je p (u ++ gB w)) p:=FT (fun s hs=>by
  rcases List.mem_append.mp hs with hs | hs
  ·exact hu s hs
  ·exact hb s hs) (by rw [oS,e,<- oS];exact CU hw) h
 rw [FR] at h1
 have h2:=bO.ld (w:=w) (Vf.ld (Vf.ld h)) h1
 rw [<- FR] at h2
 have h3:bO n (je (je p u) (gB w ++ w)) (je p u):=FT (fun s hs=>by
  rcases List.mem_append.mp hs with hs | hs
  ·exact hb s hs
  ·exact hw s hs) (by rw [oS,CM hw];exact (JN (CV hw)).1) (Vf.ld h)
 exact bO.trans (Vf.ld h) (bO.symm (Vf.ld (Vf.ld h)) h3) h2
def ji (p:b7) (n:Nat) (s:Int):b7:=(num p.1 (bf p.1 p.2 s n),num p.2 (bf p.1 p.2 s n))
def n9 (n:Nat) (p:b7):b7:=lp ((upto n).map (ji p n))
theorem FU {n:Nat} {p q:b7} (n0:0 < n) (h:Vf n p) (a:bO n p q):n9 n p=n9 n q:=by
 obtain ⟨g,hg,rfl⟩:=a
 have key:∀ s:Int,0<=s->s < (n:Int)->ji (anew p.1 g,anew p.2 g) n (app g s)=ji p n s:=fun s s0 s1=>by
  show (num (anew p.1 g) (bf (anew p.1 g) (anew p.2 g) (app g s) n),num (anew p.2 g) (bf (anew p.1 g) (anew p.2 g) (app g s) n))=_
  have hb:=oN h.1 h.2 s0 s1 n
  rw [zG h.1 h.2 hg s0 s1 n,CL h.1 hg hb,CL h.2 hg hb]
  rfl
 refine NQ (fun x=>?_) (fun e=>?_)
 ·constructor
  ·intro hx
   obtain ⟨s,hs,rfl⟩:=List.mem_map.mp hx
   obtain ⟨s0,s1⟩:=lJ.mp hs
   exact List.mem_map.mpr ⟨app g s,lJ.mpr (hg.app s0 s1),key s s0 s1⟩
  ·intro hx
   obtain ⟨t,ht,rfl⟩:=List.mem_map.mp hx
   obtain ⟨t0,t1⟩:=lJ.mp ht
   obtain ⟨p0,p1⟩:=hg.kJ t0 t1
   refine List.mem_map.mpr ⟨app (inv g) t,lJ.mpr ⟨p0,p1⟩,?_⟩
   have:=key (app (inv g) t) p0 p1
   rw [hg.cS t0 t1] at this
   exact this.symm
 ·have:=congrArg List.length e
  rw [List.length_map,n4] at this
  simp at this
  omega
end af
namespace af
section
variable {n:Nat} {p q:b7} {g h:List Int} {s t:Int}
structure Wh (n:Nat) (p:b7):Prop where
 v:Vf n p
 all:∀ x:Int,0<=x->x < (n:Int)->ig p.1 p.2 x
theorem Wh.bf (w:Wh n p) (s0:0<=s) (s1:s < (n:Int)):Tn n (bf p.1 p.2 s n):=FH w.v.1 w.v.2 s0 s1 w.all
theorem JP (xs ys:List Int) (s:Int) (n:Nat):app (bf xs ys s n) 0=s:=by
 have:=uY xs ys s 0 n
 rw [Nat.zero_add] at this
 obtain ⟨t,e⟩:=this
 rw [<- e]
 rfl
def gF (p q:b7) (n:Nat) (s t:Int):List Int:=a8 (inv (bf p.1 p.2 s n)) (bf q.1 q.2 t n)
def Cg (n:Nat) (p q:b7) (g:List Int):Prop:=Tn n g/\q=(anew p.1 g,anew p.2 g)
theorem zW (wp:Wh n p) (wq:Wh n q) (s0:0<=s) (s1:s < (n:Int)) (t0:0<=t) (t1:t < (n:Int)) (e:ji p n s=ji q n t):Cg n p q (gF p q n s t)/\app (gF p q n s t) s=t:=by
 have tb:=wp.bf s0 s1
 have tc:=wq.bf t0 t1
 have n0:0 < n:=by omega
 refine ⟨⟨tb.aw.a8 tc,?_⟩,?_⟩
 ·unfold ji at e
  have e1:=congrArg Prod.fst e
  have e2:=congrArg Prod.snd e
  simp only at e1 e2
  rw [<- xK wp.v.1 tb,<- xK wq.v.1 tc] at e1
  rw [<- xK wp.v.2 tb,<- xK wq.v.2 tc] at e2
  have go:∀ {a b:List Int},Tn n a->Tn n b->anew a (inv (bf p.1 p.2 s n))=anew b (inv (bf q.1 q.2 t n))->b=anew a (gF p q n s t):=fun {a b} ta tb' e=>by
   unfold gF
   rw [<- Tn.kd ta tb.aw tc,e]
   have:=Tn.ke tb' tc.aw
   rw [tc.inv_inv] at this
   exact this.symm
  exact Prod.ext (go wp.v.1 wq.v.1 e1) (go wp.v.2 wq.v.2 e2)
 ·unfold gF
  rw [mE s0 (by rw [xG,tb.length];exact s1)]
  have:app (inv (bf p.1 p.2 s n)) s=0:=by
   have:=tb.eY (i:=0) (by decide) (by omega)
   rw [JP] at this
   exact this
  rw [this,JP]
theorem zX (v:Vf n p) (c:Cg n p q g) (s0:0<=s) (s1:s < (n:Int)):ji q n (app g s)=ji p n s:=by
 obtain ⟨tg,rfl⟩:=c
 unfold ji
 have hb:=oN v.1 v.2 s0 s1 n
 show (num (anew p.1 g) (bf (anew p.1 g) (anew p.2 g) (app g s) n),num (anew p.2 g) (bf (anew p.1 g) (anew p.2 g) (app g s) n))=_
 rw [zG v.1 v.2 tg s0 s1 n,CL v.1 tg hb,CL v.2 tg hb]
theorem zY (w:Wh n p) (c:Cg n p q g) (s0:0<=s) (s1:s < (n:Int)):gF p q n s (app g s)=g:=by
 have tb:=w.bf s0 s1
 obtain ⟨tg,rfl⟩:=c
 unfold gF
 show a8 (inv (bf p.1 p.2 s n)) (bf (anew p.1 g) (anew p.2 g) (app g s) n)=g
 rw [zG w.v.1 w.v.2 tg s0 s1 n]
 exact NR tb tg
def q5 (p q:b7) (n m:Nat):List (List Int):=((upto m).filter fun s=>decide (ji q m s=ji p n 0)).map fun s=>a8 (inv (bf p.1 p.2 0 n)) (bf q.1 q.2 s m)
theorem JQ (w:Wh n p) (s0:0<=s) (s1:s < (n:Int)):(ji p n s).1.length=n:=by
 unfold ji num
 rw [List.length_map,(w.bf s0 s1).length]
theorem CW (xs ys:List Int):∀ k,∀ y∈bf xs ys 0 k,ig xs ys y
 | 0,y,hy=>by rw [List.mem_singleton.mp (show y∈[(0:Int)] from hy)];exact .zero
 | k + 1,y,hy=>by
  have hy':y∈(match (bf xs ys 0 k)[k]? with | some x=>visit xs ys (bf xs ys 0 k) x | none=>bf xs ys 0 k):=hy
  split at hy'
  ·next z hz =>
   have sH:=CW xs ys k z (List.mem_of_getElem? hz)
   rcases n8.mp hy' with hy' | rfl
   ·rcases n8.mp hy' with hy' | rfl
    ·exact CW xs ys k y hy'
    ·exact sH.r
   ·exact sH.u
  ·exact CW xs ys k y hy'
theorem sI (w:Wh n p) (v:Vf n q) (n0:0 < n) (h:∀ F:List Int,F.Nodup->(∀ x∈F,0<=x/\x < (n:Int))->Cl q.1 q.2 F->Cl p.1 p.2 F):Wh n q:=by
 refine ⟨v,fun x x0 x1=>CW q.1 q.2 n x ?_⟩
 have c:=h (bf q.1 q.2 0 n) (uZ _ _ _ _) (oN v.1 v.2 (by decide) (by omega) n) (FG v.1 v.2 (by decide) (by omega))
 refine c.all ?_ (w.all x x0 x1)
 have:=uY q.1 q.2 0 0 n
 rw [Nat.zero_add] at this
 exact this.subset (show (0:Int)∈[(0:Int)] by simp)
theorem JR {zs F:List Int} (hz:Tn n zs) (nd:F.Nodup) (hb:∀ x∈F,0<=x/\x < (n:Int)) (hc:∀ x∈F,app zs x∈F):∀ x∈F,app (inv zs) x∈F:=fun x hx=>by
 obtain ⟨x0,x1⟩:=hb x hx
 obtain ⟨a0,a1⟩:=hz.kJ x0 x1
 exact zF hz nd hb hc a0 a1 (by rw [hz.cS x0 x1];exact hx)
theorem FV {zs F:List Int} (hc:∀ x∈F,app zs x∈F) {x:Int} (hx:x∈F):∀ k,bB zs x k∈F
 | 0=>hx
 | k + 1=>hc _ (FV hc hx k)
theorem zZ {zs F:List Int} (hz:Tn n zs) (nd:F.Nodup) (hb:∀ x∈F,0<=x/\x < (n:Int)) (hc:∀ x∈F,app zs x∈F) (k:Int) {x:Int} (hx:x∈F):pw zs k x∈F:=by
 unfold pw
 split
 ·exact FV hc hx _
 ·exact FV (JR hz nd hb hc) hx _
theorem Wh.sh (w:Wh n p) (n0:0 < n) (k:Int):Wh n (Sh k p):=by
 refine sI w (w.v.sh k) n0 fun F nd hb hc x hx=>⟨(hc x hx).1,?_⟩
 obtain ⟨x0,x1⟩:=hb x hx
 have h1:∀ x∈F,app p.1 x∈F:=fun x hx=>(hc x hx).1
 have hy:=zZ w.v.1 nd hb h1 k hx
 have:=(hc _ hy).2
 obtain ⟨y0,y1⟩:=hb _ hy
 have e:app (Sh k p).2 (pw p.1 k x)=app p.2 x:=by
  show app (shr p.1 p.2 k) (pw p.1 k x)=_
  unfold shr
  have hlen:(cQ p.1 (-k)).length=n:=(w.v.1.cQ (-k)).length
  rw [mE y0 (by rw [hlen];exact y1)]
  congr 1
  have e3:=zL w.v.1 k (-k)
  rw [Int.add_right_neg,FL w.v.1] at e3
  have e4:app (a8 (cQ p.1 k) (cQ p.1 (-k))) x=app (upto n) x:=by rw [e3]
  rw [CO x0 x1,mE x0 (by rw [(w.v.1.cQ k).length];exact x1)] at e4
  have e5:app (cQ p.1 k) x=pw p.1 k x:=nF x0 (by rw [w.v.1.length];exact x1)
  rw [e5] at e4
  exact e4
 rw [e] at this
 exact this
theorem Wh.qt (w:Wh n p) (n0:0 < n):Wh n (Qt p):=by
 refine sI w w.v.qt n0 fun F nd hb hc x hx=>⟨(hc x hx).2,?_⟩
 have:=JR w.v.2.aw nd hb (fun x hx=>(hc x hx).1) x hx
 rw [w.v.2.inv_inv] at this
 exact this
def Od (xs ys F:List Int):Prop:=F[0]?=some 0/\∀ (k:Nat) (y:Int),F[k + 1]?=some y->∃ (j:Nat) (x:Int),j<=k/\F[j]?=some x/\(y=app xs x\/y=app ys x)
theorem Od.one (xs ys:List Int):Od xs ys [0]:=⟨rfl,fun k y h=>by cases h⟩
theorem Od.snoc {xs ys F:List Int} {x y:Int} (h:Od xs ys F) (hx:x∈F) (hy:y=app xs x\/y=app ys x):Od xs ys (F ++ [y]):=by
 have hl:0 < F.length:=List.length_pos_of_mem hx
 refine ⟨by rw [List.getElem?_append_left hl];exact h.1,fun k z hz=>?_⟩
 by_cases hk:k + 1 < F.length
 ·rw [List.getElem?_append_left hk] at hz
  obtain ⟨j,x',hj,hx',e⟩:=h.2 k z hz
  exact ⟨j,x',hj,by rw [List.getElem?_append_left (by omega)];exact hx',e⟩
 ·rw [List.getElem?_append_right (by omega)] at hz
  have hz:z=y:=by
   cases h3:k + 1 - F.length with
   | zero=>rw [h3] at hz;cases hz;rfl
   | succ m=>rw [h3] at hz;cases hz
  obtain ⟨j,hj,e⟩:=List.getElem_of_mem hx
  have pK:k + 1=F.length\/F.length < k + 1:=by omega
  refine ⟨j,x,by omega,by rw [List.getElem?_append_left hj,List.getElem?_eq_getElem hj,e],by rw [hz];exact hy⟩
structure Fo (xs ys F:List Int):Prop extends Fd xs ys F where
 od:Od xs ys F
theorem Fo.one (xs ys:List Int):Fo xs ys [0]:=⟨Fd.one xs ys,Od.one xs ys⟩
end
end af
namespace af
section
variable {n:Nat} {xs ys r r' r2:List Int} {i j x y:Int}
def Sm (xs ys r:List Int):Prop:=∀ s∈r,app ys (app xs s)=app xs (app ys s)
instance:Decidable (Sm xs ys r):=inferInstanceAs (Decidable (∀ s∈r,app ys (app xs s)=app xs (app ys s)))
end
end af
namespace af
section
variable {n:Nat} {xs ys:List Int} {rs:List (List Int)} {lows:List (List Int)} {B:List Int->List (List Int)}
end
section
variable {n:Nat} {c g:List Int} {rs rs':List (List Int)}
end
section
variable {n:Nat} {p q:b7} {g:List Int}
theorem Wh.mG (w:Wh n p) (n0:0 < n):∀ j,Wh n (af.mG j p)
 | 0=>w
 | j + 1=>(w.mG n0 j).qt n0
theorem Wh.st (w:Wh n p) (n0:0 < n) (s:Sp):Wh n (stM p s):=by
 unfold stM
 split
 ·exact w.sh n0 _
 ·exact w.mG n0 _
theorem Wh.ld (n0:0 < n):∀ {w:List Sp} {p:b7},Wh n p->Wh n (je p w)
 | [],_,h=>h
 | s :: w,_,h=>Wh.ld n0 (w:=w) (h.st n0 s)
end
end af
namespace af
def nr (x y:Int):Int:=(2 * x + y).fdiv (2 * y)
theorem NY (a b:Int) (hb:b≠0):(0 < b->0<=a - b * a.fdiv b/\a - b * a.fdiv b < b)/\(b < 0->b < a - b * a.fdiv b/\a - b * a.fdiv b<=0):=by
 have h1:=Int.mul_ediv_add_emod a b
 have h2:=Int.emod_nonneg a hb
 have h3:=Int.emod_lt a hb
 rw [Int.fdiv_eq_ediv]
 constructor
 ·intro h
  rw [if_pos (.inl (by omega)),Int.sub_zero]
  have:b.natAbs=b.toNat:=by omega
  constructor <;> omega
 ·intro h
  by_cases hd:b ∣ a
  ·rw [if_pos (.inr hd),Int.sub_zero]
   have:a % b=0:=Int.emod_eq_zero_of_dvd hd
   constructor <;> omega
  ·rw [if_neg (by rintro (z | z);omega;exact hd z),Int.mul_sub]
   have hne:a % b≠0:=fun z=>hd (Int.dvd_of_emod_eq_zero z)
   constructor <;> omega
theorem sJ {x y:Int} (hy:y≠0):2 * (x - nr x y * y).natAbs<=y.natAbs:=by
 obtain ⟨h1,h2⟩:=NY (2 * x + y) (2 * y) (by omega)
 have e:2 * x + y - 2 * y * (2 * x + y).fdiv (2 * y)=2 * (x - nr x y * y) + y:=by
  unfold nr
  rw [Int.mul_sub,Int.mul_comm ((2 * x + y).fdiv (2 * y)) y,Int.mul_assoc]
  omega
 rw [e] at h1 h2
 rcases (show 0 < y\/y < 0 by omega) with h | h
 ·have:=h1 (by omega);omega
 ·have:=h2 (by omega);omega
theorem vg {x y:Int} (hy:y≠0):(nr x y).natAbs<=x.natAbs + 1:=by
 have h:=sJ (x:=x) hy
 have h1:(nr x y * y).natAbs<=x.natAbs + (x - nr x y * y).natAbs:=by omega
 rw [Int.natAbs_mul] at h1
 have hy1:1<=y.natAbs:=by omega
 by_cases hq:(nr x y).natAbs<=x.natAbs + 1
 ·exact hq
 ·exfalso
  have h2:(x.natAbs + 2) * y.natAbs<=(nr x y).natAbs * y.natAbs:=Nat.mul_le_mul_right _ (by omega)
  have h3:(x.natAbs + 2) * y.natAbs=x.natAbs * y.natAbs + 2 * y.natAbs:=Nat.add_mul _ _ _
  have h4:x.natAbs<=x.natAbs * y.natAbs:=Nat.le_mul_of_pos_right _ hy1
  omega
def oO (k:Int):List Sp:=if k=0 then [] else [(true,k)]
theorem FW {k:Int}:∀ s∈oO k,ek s/\s.2=k:=fun s hs=>by
 unfold oO at hs
 split at hs
 ·cases hs
 ·next h =>
  rw [List.mem_singleton.mp hs]
  exact ⟨⟨(fun z=>by cases z),h⟩,rfl⟩
theorem FX (k:Int):aH (oO k)=⟨1,k,0,1⟩:=by
 unfold oO
 split
 ·next h=>rw [h];rfl
 ·show (jq (true,k)).mul T4.one=_
  rw [T4.mul_one];rfl
theorem Aa (k:Int):(oO k).length<=1:=by unfold oO;split <;> simp
def oT (x y:Int):List Sp:=oO (-(nr x y)) ++ [(false,1)]
theorem JS (x y:Int):aH (oT x y)=⟨0,-1,1,-(nr x y)⟩:=by
 unfold oT
 rw [u6,FX]
 apply T4.ext' <;> simp [T4.mul,jq,qp,T4.qt,T4.one]
theorem JT {x y:Int} (hy:y≠0):∀ s∈oT x y,ek s/\s.2.natAbs<=x.natAbs + 1:=fun s hs=>by
 have h:=vg (x:=x) hy
 rcases List.mem_append.mp hs with hs | hs
 ·obtain ⟨h1,h2⟩:=FW s hs
  exact ⟨h1,by rw [h2];omega⟩
 ·rw [List.mem_singleton.mp hs]
  exact ⟨⟨fun _=>⟨by decide,by decide⟩,by decide⟩,by show 1<=_;omega⟩
theorem FY (x y:Int):(oT x y).length<=2:=by unfold oT;rw [List.length_append];have:=Aa (-(nr x y));simp;omega
structure Dv (M:Nat) (x y:Int) (g:List Sp) (u v:Int) (r:Nat):Prop where
 pr:∀ s∈g,ek s/\s.2.natAbs<=M + 1
 ln:g.length<=2 * r
 ua:u=(aH g).a * x + (aH g).b * y
 vc:v=(aH g).c * x + (aH g).d * y
 ub:u.natAbs<=M
 vb:v.natAbs * 2 ^ r<=M
theorem Dv.zero {M:Nat} {x y:Int} (hx:x.natAbs<=M) (hy:y.natAbs<=M):Dv M x y [] x y 0 :=
 ⟨(fun s hs=>nomatch hs),Nat.le_refl _,by show x=1 * x + 0 * y;omega,by show y=0 * x + 1 * y;omega,hx,by omega⟩
theorem Dv.step {M r:Nat} {x y u v:Int} {g:List Sp} (h:Dv M x y g u v r) (hv:v≠0):Dv M x y (g ++ oT u v) (-v) (u - nr u v * v) (r + 1):=by
 have hl:=sJ (x:=u) hv
 have hlen:=FY u v
 have h2:1<=2 ^ r:=Nat.one_le_two_pow
 have vM:v.natAbs<=M:=Nat.le_trans (Nat.le_mul_of_pos_right _ h2) h.vb
 have e:aH (g ++ oT u v)=⟨-(aH g).c,-(aH g).d,(aH g).a - nr u v * (aH g).c,(aH g).b - nr u v * (aH g).d⟩:=by
  rw [oS,JS]
  apply T4.ext' <;> simp [T4.mul,Int.neg_mul] <;> omega
 refine ⟨fun s hs=>?_,by rw [List.length_append];have:=h.ln;omega,?_,?_,by omega,?_⟩
 ·rcases List.mem_append.mp hs with hs | hs
  ·exact h.pr s hs
  ·obtain ⟨h1,h3⟩:=JT hv s hs
   exact ⟨h1,by have:=h.ub;omega⟩
 ·rw [e]
  show -v=-(aH g).c * x + -(aH g).d * y
  rw [h.vc,Int.neg_mul,Int.neg_mul];omega
 ·rw [e]
  show u - nr u v * v=((aH g).a - nr u v * (aH g).c) * x + ((aH g).b - nr u v * (aH g).d) * y
  generalize hq:nr u v=q
  rw [h.ua,h.vc,Int.sub_mul,Int.sub_mul,Int.mul_add,Int.mul_assoc,Int.mul_assoc]
  omega
 ·have:=h.vb
  have h3:(u - nr u v * v).natAbs * 2 ^ (r + 1)=2 * (u - nr u v * v).natAbs * 2 ^ r:=by rw [Nat.pow_succ,Nat.mul_comm (2 ^ r) 2,<- Nat.mul_assoc,Nat.mul_comm _ 2]
  rw [h3]
  exact Nat.le_trans (Nat.mul_le_mul_right _ hl) this
theorem Dv.few {M r k:Nat} {x y u v:Int} {g:List Sp} (h:Dv M x y g u v r) (hv:v≠0) (hM:M < 2 ^ k):r < k:=by
 have h1:2 ^ r<=M:=Nat.le_trans (Nat.le_mul_of_pos_left _ (by omega)) h.vb
 exact (Nat.pow_lt_pow_iff_right (by decide)).mp (Nat.lt_of_le_of_lt h1 hM)
def oa (A:T4):List Sp:=if A.a=1 then oO A.b else (false,2) :: oO (-A.b)
theorem NZ {a d:Int} (h:a * d=1):(a=1/\d=1)\/(a=-1/\d=-1):=by
 have h1:=congrArg Int.natAbs h
 rw [Int.natAbs_mul] at h1
 have h2:a.natAbs=1:=Nat.eq_one_of_dvd_one ⟨_,h1.symm⟩
 rcases (show a=1\/a=-1 by omega) with rfl | rfl
 ·exact .inl ⟨rfl,by omega⟩
 ·exact .inr ⟨rfl,by omega⟩
theorem N0 {A:T4} (hc:A.c=0) (hd:A.a * A.d - A.b * A.c=1):aH (oa A)=A:=by
 have h1:A.a * A.d=1:=by rw [hc,Int.mul_zero] at hd;omega
 unfold oa
 rcases NZ h1 with ⟨e1,e2⟩ | ⟨e1,e2⟩
 ·rw [if_pos e1,FX]
  exact T4.ext' e1.symm rfl hc.symm e2.symm
 ·rw [if_neg (by rw [e1];decide),JK,FX]
  apply T4.ext'
  ·simp [T4.mul,jq,qp,T4.qt,T4.one,e1]
  ·simp [T4.mul,jq,qp,T4.qt,T4.one]
  ·simp [T4.mul,jq,qp,T4.qt,T4.one,hc]
  ·simp [T4.mul,jq,qp,T4.qt,T4.one,e2]
theorem vh (A:T4):∀ s∈oa A,ek s:=fun s hs=>by
 unfold oa at hs
 split at hs
 ·exact (FW s hs).1
 ·rcases List.mem_cons.mp hs with rfl | hs
  ·exact ⟨fun _=>⟨by decide,by decide⟩,by decide⟩
  ·exact (FW s hs).1
theorem N1 (A:T4):(oa A).length<=2:=by
 unfold oa
 split
 ·have:=Aa A.b;omega
 ·have:=Aa (-A.b);simp;omega
theorem N2 (A B:T4):(A.mul B).a * (A.mul B).d - (A.mul B).b * (A.mul B).c=(A.a * A.d - A.b * A.c) * (B.a * B.d - B.b * B.c):=by
 simp only [T4.mul]
 grind
theorem N3 {T:T4} {g:List Sp} (hd:T.a * T.d - T.b * T.c=1) (hg:∀ s∈g,ek s) (h0:(aH g).c * T.a + (aH g).d * T.c=0):aH (mT (oa ((aH g).mul T) ++ gB g)).reverse=T/\∀ s∈(mT (oa ((aH g).mul T) ++ gB g)).reverse,ek s:=by
 have N4:((aH g).mul T).a * ((aH g).mul T).d - ((aH g).mul T).b * ((aH g).mul T).c=1:=by rw [N2,CV hg,hd];rfl
 have N5:((aH g).mul T).c=0:=h0
 have pr:∀ s∈oa ((aH g).mul T) ++ gB g,ek s:=fun s hs=>by
  rcases List.mem_append.mp hs with hs | hs
  ·exact vh _ s hs
  ·exact zV hg s hs
 refine ⟨?_,fun s hs=>(u5 pr).pr s (List.mem_reverse.mp hs)⟩
 rw [Jz pr,oS,N0 N5 N4,CM hg,<- T4.assoc,(JN (CV hg)).2,T4.one_mul]
end af
namespace L4
open PySem PySem.Spec L2
inductive D where
 | non | bl (b:Bool) | int (i:Int) | str (x:Str) | ty (n:String) | tup (ds:List D) | ref (i:Nat)
instance:Inhabited D:=⟨.non⟩
inductive O where
 | lst (ds:List D) | oe (ds:List D) | dct (kvs:List (Key×D)) | CY (kvs:List (List Int×D)) | exc (c:Str) (fs:List (Str×D)) | any | il (lo hi:Int)
abbrev Store:=List O
abbrev ai:=List (Option D)
abbrev Dm (α:Type):=Store->Option (α×Store)
inductive Fl where
 | nx (δ:ai) | bk (δ:ai) | ct (δ:ai) | rt (d:D)
mutual
inductive Rp (K:PySem.W.Frag) (ρ:List Addr) (H:Hp):V->D->Prop
 | non:Rp K ρ H .non .non
 | bl (b:Bool):Rp K ρ H (.bl b) (.bl b)
 | int (i:Int):Rp K ρ H (.int i) (.int i)
 | str (x:Str):Rp K ρ H (.str x) (.str x)
 | ty (n:String):Rp K ρ H (.ty n) (.ty n)
 | ref {a:Addr} {i:Nat}:ρ[i]?=some a->Rp K ρ H (.ref a) (.ref i)
 | tup {a:Addr} {vs:List V} {ds:List D}:eN K H a vs->cw K ρ H vs ds->Rp K ρ H (.ref a) (.tup ds)
inductive cw (K:PySem.W.Frag) (ρ:List Addr) (H:Hp):List V->List D->Prop
 | nil:cw K ρ H [] []
 | cons {v:V} {vs:List V} {d:D} {ds:List D}:Rp K ρ H v d->cw K ρ H vs ds->cw K ρ H (v :: vs) (d :: ds)
end
structure Mn (K:PySem.W.Frag) (ρ:List Addr) (H:Hp) (ρ':List Addr) (H':Hp):Prop where
 r:∀ (i:Nat) (a:Addr),ρ[i]?=some a->ρ'[i]?=some a
 t:∀ a vs,eN K H a vs->eN K H' a vs
 f:∀ a o u,H a=some (.lY o u)->H' a=some (.lY o u)
 x:∀ a ws,H a=some (.xd ws)->H' a=some (.xd ws)
section
variable {K:PySem.W.Frag} {ρ ρ' ρ2:List Addr} {H H' H2:Hp}
theorem Mn.refl:Mn K ρ H ρ H:=⟨fun _ _ h=>h,fun _ _ h=>h,fun _ _ _ h=>h,fun _ _ h=>h⟩
theorem Mn.trans (m:Mn K ρ H ρ' H') (n:Mn K ρ' H' ρ2 H2):Mn K ρ H ρ2 H2:=⟨fun i a h=>n.r i a (m.r i a h),fun a vs h=>n.t a vs (m.t a vs h),fun a o u h=>n.f a o u (m.f a o u h),fun a ws h=>n.x a ws (m.x a ws h)⟩
mutual
theorem Rp.mn (m:Mn K ρ H ρ' H'):∀ {v:V} {d:D},Rp K ρ H v d->Rp K ρ' H' v d
 | _,_,.non=>.non
 | _,_,.bl b=>.bl b
 | _,_,.int i=>.int i
 | _,_,.str x=>.str x
 | _,_,.ty n=>.ty n
 | _,_,.ref e=>.ref (m.r _ _ e)
 | _,_,.tup q r=>.tup (m.t _ _ q) (cw.mn m r)
theorem cw.mn (m:Mn K ρ H ρ' H'):∀ {vs:List V} {ds:List D},cw K ρ H vs ds->cw K ρ' H' vs ds
 | _,_,.nil=>.nil
 | _,_,.cons a b=>.cons (Rp.mn m a) (cw.mn m b)
end
theorem cw.length:∀ {vs:List V} {ds:List D},cw K ρ H vs ds->vs.length=ds.length
 | _,_,.nil=>rfl
 | _,_,.cons _ r=>by rw [List.length_cons,List.length_cons,r.length]
theorem cw.got:∀ {vs:List V} {ds:List D},cw K ρ H vs ds->∀ {i:Nat} {d:D},ds[i]?=some d->∃ v,vs[i]?=some v/\Rp K ρ H v d
 | _,_,.nil,i,v,e=>by simp at e
 | _,_,.cons (v:=v) a b,0,d,e=>⟨v,by simp,by have:_=d:=Option.some.inj (by simpa using e);rw [<- this];exact a⟩
 | _,_,.cons a b,i + 1,d,e=>by
  obtain ⟨v,e1,r⟩:=cw.got b (i:=i) (by simpa using e)
  exact ⟨v,by simpa using e1,r⟩
theorem cw.append:∀ {vs:List V} {ds:List D} {ws:List V} {es:List D},cw K ρ H vs ds->cw K ρ H ws es->cw K ρ H (vs ++ ws) (ds ++ es)
 | _,_,_,_,.nil,s=>s
 | _,_,_,_,.cons a b,s=>.cons a (cw.append b s)
theorem cw.one {v:V} {d:D} (r:Rp K ρ H v d):cw K ρ H [v] [d]:=.cons r .nil
theorem cw.take:∀ {vs:List V} {ds:List D} (n:Nat),cw K ρ H vs ds->cw K ρ H (vs.take n) (ds.take n)
 | _,_,0,_=>.nil
 | _,_,_ + 1,.nil=>.nil
 | _,_,n + 1,.cons r t=>.cons r (cw.take n t)
theorem cw.drop:∀ {vs:List V} {ds:List D} (n:Nat),cw K ρ H vs ds->cw K ρ H (vs.drop n) (ds.drop n)
 | _,_,0,r=>r
 | _,_,_ + 1,.nil=>.nil
 | _,_,n + 1,.cons _ t=>cw.drop n t
theorem cw.set {v:V} {d:D} (r:Rp K ρ H v d):∀ {vs:List V} {ds:List D} (i:Nat),cw K ρ H vs ds->cw K ρ H (vs.set i v) (ds.set i d)
 | _,_,_,.nil=>.nil
 | _,_,0,.cons _ t=>.cons r t
 | _,_,i + 1,.cons q t=>.cons q (cw.set r i t)
theorem cw.erase:∀ {vs:List V} {ds:List D} (i:Nat),cw K ρ H vs ds->cw K ρ H (vs.eraseIdx i) (ds.eraseIdx i)
 | _,_,_,.nil=>.nil
 | _,_,0,.cons _ t=>t
 | _,_,i + 1,.cons q t=>.cons q (cw.erase i t)
theorem cw.reverse:∀ {vs:List V} {ds:List D},cw K ρ H vs ds->cw K ρ H vs.reverse ds.reverse
 | _,_,.nil=>.nil
 | _,_,.cons r t=>by rw [List.reverse_cons,List.reverse_cons];exact (cw.reverse t).append (.one r)
theorem cw.flat {vs:List V} {ds:List D} (r:cw K ρ H vs ds):∀ n:Nat,cw K ρ H (List.replicate n vs).flatten (List.replicate n ds).flatten
 | 0=>.nil
 | n + 1=>by rw [List.replicate_succ,List.replicate_succ,List.flatten_cons,List.flatten_cons];exact r.append (r.flat n)
theorem cw.ints:∀ (ns:List Int),cw K ρ H (ns.map V.int) (ns.map D.int)
 | []=>.nil
 | n :: r=>.cons (.int n) (cw.ints r)
end
def Rs (K:PySem.W.Frag) (ρ:List Addr) (H:Hp) (σ:St) (δ:ai):Prop:=σ.length=δ.length/\∀ (i:Nat) (d:D),δ[i]?=some (some d)->∃ v,σ[i]?=some (some v)/\Rp K ρ H v d
def Rk (K:PySem.W.Frag) (ρ:List Addr) (H:Hp):List (Key×V)->List (Key×D)->Prop:=Paired fun p q=>p.1=q.1/\Rp K ρ H p.2 q.2
def Ru (K:PySem.W.Frag) (ρ:List Addr) (H:Hp):List (List Int×D)->List (List Int×Addr×Value)->Prop:=Paired fun q x=>q.1=x.1/\eN K H x.2.1 (x.1.map V.int)/\∃ v,RelV v x.2.2/\Rp K ρ H v q.2
def Xd (K:PySem.W.Frag) (ρ:List Addr) (H:Hp):Option Addr->List (Str×D)->Prop
 | none,fs=>fs=[]
 | some d,fs=>∃ ws,H d=some (.xd ws)/\∀ f e,fs.lookup f=some e->∃ v,ws.lookup f=some v/\Rp K ρ H v e
def sL (K:PySem.W.Frag) (ρ:List Addr) (H:Hp) (a:Addr):O->Prop
 | .lst ds=>∃ vs,H a=some (.lst vs)/\cw K ρ H vs ds
 | .oe ds=>∃ vs,zf K H a vs/\cw K ρ H vs ds
 | .dct kvs=>∃ ws,H a=some (.dK ws)/\Rk K ρ H ws kvs
 | .CY kvs=>∃ xs,H a=some (DU a xs)/\Ru K ρ H kvs xs
 | .exc c fs=>∃ C dx tr,PySem.W.nsIn K mainGlobals c=some (some (.ref C))/\H a=some (XO a C dx tr)/\Xd K ρ H dx fs
 | .any=>True
 | .il lo hi=>H a=some (.il lo hi)
def O.mut:O->Bool
 | .oe _=>false
 | .any=>false
 | _=>true
structure Rl (K:PySem.W.Frag) (ρ:List Addr) (H:Hp) (st:Store):Prop where
 len:ρ.length=st.length
 nd:∀ (i j:Nat) (a:Addr) (o o':O),ρ[i]?=some a->ρ[j]?=some a->st[i]?=some o->st[j]?=some o'->o.mut=true->o'.mut=true->i=j
 obj:∀ (i:Nat) (a:Addr) (o:O),ρ[i]?=some a->st[i]?=some o->sL K ρ H a o
section
variable {K:PySem.W.Frag} {ρ ρ' ρ2:List Addr} {H H' H2:Hp} {st st':Store} {a p:Addr} {i:Nat} {o o':O} {ho:HO} {σ:St} {δ:ai}
theorem Rs.mn (h:Rs K ρ H σ δ) (m:Mn K ρ H ρ' H'):Rs K ρ' H' σ δ:=⟨h.1,fun i d e=>let ⟨v,e1,r⟩:=h.2 i d e;⟨v,e1,r.mn m⟩⟩
theorem Rk.mn (m:Mn K ρ H ρ' H') {ws:List (Key×V)} {kvs:List (Key×D)} (h:Rk K ρ H ws kvs):Rk K ρ' H' ws kvs:=by
 induction h with
 | nil=>exact .nil
 | cons a _ ih=>exact .cons ⟨a.1,a.2.mn m⟩ ih
theorem Ru.mn (m:Mn K ρ H ρ' H') {kvs:List (List Int×D)} {xs:List (List Int×Addr×Value)} (h:Ru K ρ H kvs xs):Ru K ρ' H' kvs xs:=by
 induction h with
 | nil=>exact .nil
 | cons a _ ih=>obtain ⟨a1,a2,v,a3,a4⟩:=a;exact .cons ⟨a1,m.t _ _ a2,v,a3,a4.mn m⟩ ih
theorem Xd.mn (m:Mn K ρ H ρ' H') {dx:Option Addr} {fs:List (Str×D)} (h:Xd K ρ H dx fs):Xd K ρ' H' dx fs:=by
 cases dx with
 | none=>exact h
 | some d=>obtain ⟨ws,e,q⟩:=h;exact ⟨ws,m.x _ _ e,fun f e' z=>let ⟨v,z1,z2⟩:=q f e' z;⟨v,z1,z2.mn m⟩⟩
theorem sL.keep (m:Mn K ρ H ρ' H') (h:∀ u,H a=some u->H' a=some u) (r:sL K ρ H a o):sL K ρ' H' a o:=by
 cases o with
 | lst ds=>obtain ⟨vs,e,q⟩:=r;exact ⟨vs,h _ e,q.mn m⟩
 | oe ds =>
  obtain ⟨vs,e,q⟩:=r
  refine ⟨vs,?_,q.mn m⟩
  rcases e with ⟨u,e⟩ | e
  ·exact .inl ⟨u,h _ e⟩
  ·exact .inr e
 | dct kvs=>obtain ⟨ws,e,q⟩:=r;exact ⟨ws,h _ e,q.mn m⟩
 | CY kvs=>obtain ⟨ws,e,q⟩:=r;exact ⟨ws,h _ e,q.mn m⟩
 | exc c fs=>obtain ⟨C,dx,tr,n,e,q⟩:=r;exact ⟨C,dx,tr,n,h _ e,q.mn m⟩
 | any=>trivial
 | il lo hi=>exact h _ r
theorem Mn.same (s:h9 H H'):Mn K ρ H ρ H':=⟨fun _ _ h=>h,fun _ _ h=>(Kp.of_same (ch:=[]) s).EZ h,fun _ _ _ h=>s _ _ h,fun _ _ h=>s _ _ h⟩
theorem Rl.same (l:Rl K ρ H st) (s:h9 H H'):Rl K ρ H' st:=⟨l.len,l.nd,fun i a o h1 h2=>(l.obj i a o h1 h2).keep (Mn.same s) fun u e=>s _ _ e⟩
theorem Rl.at (l:Rl K ρ H st) (h1:ρ[i]?=some a) (h2:st[i]?=some o) (hm:o.mut=true):∃ u,H a=some u/\∀ x y,u≠.lY x y:=by
 have r:=l.obj i a o h1 h2
 cases o with
 | lst ds=>obtain ⟨vs,e,_⟩:=r;exact ⟨_,e,fun x y z=>nomatch z⟩
 | oe ds=>cases hm
 | dct kvs=>obtain ⟨ws,e,_⟩:=r;exact ⟨_,e,fun x y z=>nomatch z⟩
 | CY kvs=>obtain ⟨ws,e,_⟩:=r;exact ⟨_,e,fun x y z=>by cases z⟩
 | exc c fs=>obtain ⟨C,dx,tr,_,e,_⟩:=r;exact ⟨_,e,fun x y z=>by cases z⟩
 | any=>cases hm
 | il lo hi=>exact ⟨_,r,fun x y z=>nomatch z⟩
theorem Mn.new (hp:H p=none):Mn K ρ H (ρ ++ [p]) (upd H p ho):=⟨fun i a h=>by
  obtain ⟨hi,_⟩:=List.getElem?_eq_some_iff.mp h
  rw [List.getElem?_append_left hi];exact h,fun _ _ h=>(Kp.of_same (ch:=[]) (h9.up hp)).EZ h,fun _ _ _ h=>h9.up hp _ _ h,fun _ _ h=>h9.up hp _ _ h⟩
theorem Rl.new (l:Rl K ρ H st) (hp:H p=none) (mk:sL K (ρ ++ [p]) (upd H p ho) p o):Rl K (ρ ++ [p]) (upd H p ho) (st ++ [o]):=by
 have m:Mn K ρ H (ρ ++ [p]) (upd H p ho):=Mn.new hp
 have split:∀ (i:Nat) (a:Addr) (o':O),(ρ ++ [p])[i]?=some a->(st ++ [o])[i]?=some o'->(ρ[i]?=some a/\st[i]?=some o')\/(i=ρ.length/\a=p/\o'=o):=fun i a o' h1 h2=>by
  by_cases hi:i < ρ.length
  ·rw [List.getElem?_append_left hi] at h1
   rw [List.getElem?_append_left (by rw [<- l.len];exact hi)] at h2
   exact .inl ⟨h1,h2⟩
  ·obtain ⟨hb,_⟩:=List.getElem?_eq_some_iff.mp h1
   rw [List.length_append,List.length_singleton] at hb
   have e:i=ρ.length:=by omega
   subst e
   rw [List.getElem?_append_right (Nat.le_refl _),Nat.sub_self] at h1
   rw [l.len,List.getElem?_append_right (Nat.le_refl _),Nat.sub_self] at h2
   exact .inr ⟨rfl,(Option.some.inj h1).symm,(Option.some.inj h2).symm⟩
 refine ⟨by rw [List.length_append,List.length_append,l.len];rfl,fun i j a u u' h1 h2 h3 h4 m1 m2=>?_,fun i a u h1 h2=>?_⟩
 ·rcases split i a u h1 h3 with ⟨g1,g2⟩ | ⟨rfl,rfl,rfl⟩ <;> rcases split j _ u' h2 h4 with ⟨k1,k2⟩ | ⟨k1,k2,k3⟩
  ·exact l.nd i j a u u' g1 k1 g2 k2 m1 m2
  ·subst k2
   obtain ⟨w,e,_⟩:=l.at g1 g2 m1
   rw [e] at hp;cases hp
  ·obtain ⟨w,e,_⟩:=l.at k1 k2 m2
   rw [e] at hp;cases hp
  ·exact k1.symm
 ·rcases split i a u h1 h2 with ⟨g1,g2⟩ | ⟨rfl,rfl,rfl⟩
  ·exact (l.obj i a u g1 g2).keep m fun w e=>h9.up hp _ _ e
  ·exact mk
theorem Rl.put (l:Rl K ρ H st) (hi:ρ[i]?=some a) (hs:st[i]?=some o) (hm:o.mut=true) (hm':o'.mut=true) (m:Mn K ρ H ρ (upd H a ho)) (r:sL K ρ (upd H a ho) a o'):Rl K ρ (upd H a ho) (st.set i o'):=by
 obtain ⟨w,ew,nf⟩:=l.at hi hs hm
 have N6:i < st.length:=(List.getElem?_eq_some_iff.mp hs).1
 have old:∀ (j:Nat) (u:O),(st.set i o')[j]?=some u->(j=i/\u=o')\/(j≠i/\st[j]?=some u):=fun j u h=>by
  by_cases hj:i=j
  ·subst hj
   rw [List.getElem?_set_self N6] at h
   exact .inl ⟨rfl,(Option.some.inj h).symm⟩
  ·rw [List.getElem?_set_ne hj] at h
   exact .inr ⟨fun z=>hj z.symm,h⟩
 refine ⟨by rw [List.length_set];exact l.len,fun j k b u u' h1 h2 h3 h4 m1 m2=>?_,fun j b u h1 h2=>?_⟩
 ·rcases old j u h3 with ⟨rfl,rfl⟩ | ⟨nj,g3⟩ <;> rcases old k u' h4 with ⟨rfl,rfl⟩ | ⟨nk,g4⟩
  ·rfl
  ·exact l.nd _ _ b o u' h1 h2 hs g4 hm m2
  ·exact l.nd _ _ b u o h1 h2 g3 hs m1 hm
  ·exact l.nd _ _ b u u' h1 h2 g3 g4 m1 m2
 ·rcases old j u h2 with ⟨rfl,rfl⟩ | ⟨nj,g2⟩
  ·rw [hi] at h1;cases h1;exact r
  ·by_cases hb:b=a
   ·subst hb
    cases u with
    | oe ds =>
     obtain ⟨vs,e,q⟩:=l.obj j b _ h1 g2
     refine ⟨vs,?_,q.mn m⟩
     rcases e with ⟨x,e⟩ | e
     ·rw [ew] at e;cases e;exact absurd rfl (nf _ _)
     ·exact .inr e
    | lst ds=>exact absurd (l.nd j i b _ o h1 hi g2 hs rfl hm) nj
    | CY ds=>exact absurd (l.nd j i b _ o h1 hi g2 hs rfl hm) nj
    | exc c fs=>exact absurd (l.nd j i b _ o h1 hi g2 hs rfl hm) nj
    | dct ds=>exact absurd (l.nd j i b _ o h1 hi g2 hs rfl hm) nj
    | any=>trivial
    | il lo up=>exact absurd (l.nd j i b _ o h1 hi g2 hs rfl hm) nj
   ·exact (l.obj j b u h1 g2).keep m fun w e=>by rw [iQ hb];exact e
theorem Mn.put {xs:List V} (e:H a=some (.lst xs)):Mn K ρ H ρ (upd H a ho):=⟨fun _ _ h=>h,fun b vs h=>(Kp.put (ch:=[a]) (o:=ho) Kp.refl (by simp) e).EZ h,fun b o u h=>by rw [iQ (fun z=>by rw [z,e] at h;cases h)];exact h,fun b ws h=>by rw [iQ (fun z=>by rw [z,e] at h;cases h)];exact h⟩
theorem Mn.putD {ws:List (Key×V)} (e:H a=some (.dK ws)):Mn K ρ H ρ (upd H a ho):=⟨fun _ _ h=>h,fun b vs q=>by
 have ne:∀ u,H b=some u->(∀ w,u≠.dK w)->b≠a:=fun u hu n z=>by rw [z,e] at hu;cases hu;exact n _ rfl
 rcases q with (q | ⟨o,q⟩) | q
 ·exact .inl (.inl (by rw [iQ (ne _ q fun w z=>nomatch z)];exact q))
 ·exact .inl (.inr ⟨o,by rw [iQ (ne _ q fun w z=>nomatch z)];exact q⟩)
 ·exact .inr q,fun b o u h=>by rw [iQ (fun z=>by rw [z,e] at h;cases h)];exact h,fun b ws h=>by rw [iQ (fun z=>by rw [z,e] at h;cases h)];exact h⟩
theorem Rl.newL {vs:List V} {ds:List D} (l:Rl K ρ H st) (hp:H p=none) (r:cw K ρ H vs ds):Rl K (ρ ++ [p]) (upd H p (.lst vs)) (st ++ [.lst ds]):=l.new hp ⟨vs,oR,r.mn (Mn.new hp)⟩
theorem Rl.newD {vs:List (Key×V)} {ds:List (Key×D)} (l:Rl K ρ H st) (hp:H p=none) (r:Rk K ρ H vs ds):Rl K (ρ ++ [p]) (upd H p (.dK vs)) (st ++ [.dct ds]):=l.new hp ⟨vs,oR,r.mn (Mn.new hp)⟩
theorem newR (l:Rl K ρ H st) (v:D:=.ref st.length):(ρ ++ [p])[st.length]?=some p:=by rw [<- l.len,List.getElem?_append_right (Nat.le_refl _),Nat.sub_self];rfl
theorem Rl.putL {vs:List V} {ds xs:List D} (l:Rl K ρ H st) (hi:ρ[i]?=some a) (hs:st[i]?=some (.lst xs)) (r:cw K ρ H vs ds):Rl K ρ (upd H a (.lst vs)) (st.set i (.lst ds))/\Mn K ρ H ρ (upd H a (.lst vs)):=by
 obtain ⟨ws,e,_⟩:=l.obj i a _ hi hs
 have m:Mn K ρ H ρ (upd H a (.lst vs)):=Mn.put e
 exact ⟨l.put hi hs rfl rfl m ⟨vs,oR,r.mn m⟩,m⟩
theorem Rl.vk {vs:List (Key×V)} {ds xs:List (Key×D)} (l:Rl K ρ H st) (hi:ρ[i]?=some a) (hs:st[i]?=some (.dct xs)) (r:Rk K ρ H vs ds):Rl K ρ (upd H a (.dK vs)) (st.set i (.dct ds))/\Mn K ρ H ρ (upd H a (.dK vs)):=by
 obtain ⟨ws,e,_⟩:=l.obj i a _ hi hs
 have m:Mn K ρ H ρ (upd H a (.dK vs)):=Mn.putD e
 exact ⟨l.put hi hs rfl rfl m ⟨vs,oR,r.mn m⟩,m⟩
def items (st:Store) (i:Nat):Option (List D):=match st[i]? with
 | some (.lst ds)=>some ds
 | some (.oe ds)=>some ds
 | _=>none
theorem Rl.items {ds:List D} (l:Rl K ρ H st) (hi:ρ[i]?=some a) (h:items st i=some ds):∃ vs,iR K H a vs/\cw K ρ H vs ds:=by
 unfold L4.items at h
 split at h
 ·next ds' hs=>cases h;obtain ⟨vs,e,r⟩:=l.obj i a _ hi hs;exact ⟨vs,.inl (.inl e),r⟩
 ·next ds' hs=>cases h;obtain ⟨vs,e,r⟩:=l.obj i a _ hi hs;exact ⟨vs,e.sq,r⟩
 ·cases h
end
def So (K:PySem.W.Frag) {α β:Type} (R:List Addr->Hp->α->β->Prop) (t:St->Hp->(α->Hp->Prop)->Prop) (f:ai->Dm β):Prop :=
 ∀ (ρ:List Addr) (σ:St) (H:Hp) (δ:ai) (st:Store) (b:β) (st':Store) (Q:α->Hp->Prop),Rl K ρ H st->Rs K ρ H σ δ->f δ st=some (b,st') ->
  (∀ a H' ρ',Mn K ρ H ρ' H'->Rl K ρ' H' st'->R ρ' H' a b->Q a H')->t σ H Q
abbrev fD (K:PySem.W.Frag) (t:TE) (f:ai->Dm D):Prop:=So K (Rp K) t f
abbrev og (K:PySem.W.Frag) (t:TT) (f:ai->Dm Bool):Prop:=So K (fun _ _=>Eq) t f
abbrev oU (K:PySem.W.Frag) (t:TA) (f:ai->Dm (List D)):Prop:=So K (cw K) t f
abbrev CZ (K:PySem.W.Frag) (t:TO) (f:ai->Dm (Option Int)):Prop:=So K (fun _ _=>Eq) t f
def Ab (K:PySem.W.Frag) (r:V->Hp->VK->Prop) (g:D->Dm D):Prop :=
 ∀ (ρ:List Addr) (H:Hp) (st:Store) (x:V) (a:D) (b:D) (st':Store) (Q:VK),Rl K ρ H st->Rp K ρ H x a->g a st=some (b,st')->(∀ v H' ρ',Mn K ρ H ρ' H'->Rl K ρ' H' st'->Rp K ρ' H' v b->Q v H')->r x H Q
def kT (K:PySem.W.Frag) (r:R2) (g:D->D->Dm D):Prop :=
 ∀ (ρ:List Addr) (H:Hp) (st:Store) (x y:V) (a c:D) (b:D) (st':Store) (Q:VK),Rl K ρ H st->Rp K ρ H x a->Rp K ρ H y c->g a c st=some (b,st')->(∀ v H' ρ',Mn K ρ H ρ' H'->Rl K ρ' H' st'->Rp K ρ' H' v b->Q v H')->r x y H Q
def pL (K:PySem.W.Frag) (r:List V->Hp->VK->Prop) (g:List D->Dm D):Prop :=
 ∀ (ρ:List Addr) (H:Hp) (st:Store) (xs:List V) (as:List D) (b:D) (st':Store) (Q:VK),Rl K ρ H st->cw K ρ H xs as->g as st=some (b,st')->(∀ v H' ρ',Mn K ρ H ρ' H'->Rl K ρ' H' st'->Rp K ρ' H' v b->Q v H')->r xs H Q
def FZ (K:PySem.W.Frag) (T:String) (r:V->List V->Hp->VK->Prop) (g:D->List D->Dm D):Prop :=
 ∀ (ρ:List Addr) (H:Hp) (st:Store) (x:V) (xs:List V) (a:D) (as:List D) (b:D) (st':Store) (Q:VK),Rl K ρ H st->Rp K ρ H x a->cw K ρ H xs as->g a as st=some (b,st')->(∀ v H' ρ',Mn K ρ H ρ' H'->Rl K ρ' H' st'->Rp K ρ' H' v b->Q v H')->r x xs H Q
def bnd {α β:Type} (m:Option (α×Store)) (k:α->Dm β):Option (β×Store):=match m with
 | some (a,st)=>k a st
 | none=>none
theorem dP {α β:Type} {m:Option (α×Store)} {k:α->Dm β} {r:β×Store} (h:bnd m k=some r):∃ a st,m=some (a,st)/\k a st=some r:=by
 cases m with
 | none=>cases h
 | some p=>exact ⟨p.1,p.2,rfl,h⟩
section
variable {K:PySem.W.Frag}
def ag (i:Nat):ai->Dm D:=fun δ st=>match δ[i]? with
 | some (some d)=>some (d,st)
 | _=>none
theorem ao (i:Nat):fD K (ug i) (ag i):=by
 intro ρ σ H δ st b st' Q l rs e q
 unfold ag at e
 split at e
 ·next d hd=>cases e;obtain ⟨v,ev,r⟩:=rs.2 i _ hd;exact ⟨v,ev,q v H ρ .refl l r⟩
 ·cases e
def fC (d:D):ai->Dm D:=fun _ st=>some (d,st)
theorem rg {v:V} {d:D} (h:∀ ρ H,Rp K ρ H v d):fD K (tC v) (fC d):=by
 intro ρ σ H δ st b st' Q l rs e q
 cases e
 exact q v H ρ .refl l (h ρ H)
theorem aP (i:Int):fD K (tC (.int i)) (fC (.int i)):=rg fun _ _=>.int i
theorem xM (b:Bool):fD K (tC (.bl b)) (fC (.bl b)):=rg fun _ _=>.bl b
theorem nH (x:Str):fD K (tC (.str x)) (fC (.str x)):=rg fun _ _=>.str x
def aC (g:D->D->Dm D) (fa fb:ai->Dm D):ai->Dm D:=fun δ st=>bnd (fa δ st) fun a st1=>bnd (fb δ st1) fun b st2=>g a b st2
theorem aD {r:R2} {g:D->D->Dm D} {ta tb:TE} {fa fb:ai->Dm D} (hr:kT K r g) (ha:fD K ta fa) (hb:fD K tb fb):fD K (yK r ta tb) (aC g fa fb):=by
 intro ρ σ H δ st b st' Q l rs e q
 obtain ⟨a,st1,e1,e⟩:=dP e
 obtain ⟨c,st2,e2,e⟩:=dP e
 refine ha ρ σ H δ st a st1 _ l rs e1 fun x H1 ρ1 m1 l1 r1=>hb ρ1 σ H1 δ st1 c st2 _ l1 (rs.mn m1) e2 fun y H2 ρ2 m2 l2 r2=>?_
 exact hr ρ2 H2 st2 x y a c b st' Q l2 (r1.mn m2) r2 e fun v H3 ρ3 m3 l3 r3=>q v H3 ρ3 ((m1.trans m2).trans m3) l3 r3
def pM (g:D->Dm D) (fa:ai->Dm D):ai->Dm D:=fun δ st=>bnd (fa δ st) fun a st1=>g a st1
theorem sM {r:V->Hp->VK->Prop} {g:D->Dm D} {ta:TE} {fa:ai->Dm D} (hr:Ab K r g) (ha:fD K ta fa):fD K (Hr r ta) (pM g fa):=by
 intro ρ σ H δ st b st' Q l rs e q
 obtain ⟨a,st1,e1,e⟩:=dP e
 exact ha ρ σ H δ st a st1 _ l rs e1 fun x H1 ρ1 m1 l1 r1=>hr ρ1 H1 st1 x a b st' Q l1 r1 e fun v H3 ρ3 m3 l3 r3=>q v H3 ρ3 (m1.trans m3) l3 r3
theorem vm {r:V->Hp->VK->Prop} {g:D->Dm D} {ta:TE} {fa:ai->Dm D} (hr:Ab K r g) (ha:fD K ta fa):fD K (fun σ H Q=>ta σ H fun x H1=>r x H1 Q) (pM g fa):=sM hr ha
def ah:ai->Dm (List D):=fun _ st=>some ([],st)
def ae (fa:ai->Dm D) (fr:ai->Dm (List D)):ai->Dm (List D):=fun δ st=>bnd (fa δ st) fun a st1=>bnd (fr δ st1) fun r st2=>some (a :: r,st2)
theorem aB:oU K yQ ah:=by
 intro ρ σ H δ st b st' Q l rs e q
 cases e
 exact q [] H ρ .refl l .nil
theorem au {ta:TE} {tr:TA} {fa:ai->Dm D} {fr:ai->Dm (List D)} (ha:fD K ta fa) (hr:oU K tr fr):oU K (rV ta tr) (ae fa fr):=by
 intro ρ σ H δ st b st' Q l rs e q
 obtain ⟨a,st1,e1,e⟩:=dP e
 obtain ⟨c,st2,e2,e⟩:=dP e
 cases e
 exact ha ρ σ H δ st a st1 _ l rs e1 fun x H1 ρ1 m1 l1 r1=>hr ρ1 σ H1 δ st1 c _ _ l1 (rs.mn m1) e2 fun y H2 ρ2 m2 l2 r2=>q _ H2 ρ2 (m1.trans m2) l2 (.cons (r1.mn m2) r2)
def lim (n:Nat):Bool:=Nat.ble n 100000
theorem Ac {n:Nat} (h:lim n=true):n<=sizeLine:=Nat.le_trans (Nat.le_of_ble_eq_true h) (by decide)
theorem F0 {n:Nat} (h:lim n=true):n < sizeLine:=Nat.lt_of_le_of_lt (Nat.le_of_ble_eq_true h) (by decide)
def cj (fa:ai->Dm (List D)):ai->Dm D:=fun δ st=>bnd (fa δ st) fun as st1=>if lim as.length=true then some (.tup as,st1) else none
theorem ik {ta:TA} {fa:ai->Dm (List D)} (ha:oU K ta fa):fD K (yR ta) (cj fa):=by
 intro ρ σ H δ st b st' Q l rs e q
 obtain ⟨as,st1,e1,e⟩:=dP e
 split at e
 ·next hl =>
  cases e
  refine ha ρ σ H δ st as _ _ l rs e1 fun xs H1 ρ1 m1 l1 r1=>⟨by rw [r1.length];exact Ac hl,fun p hp=>?_⟩
  have m2:Mn K ρ1 H1 ρ1 (upd H1 p (.tup xs)):=Mn.same (h9.up hp)
  exact q _ _ ρ1 (m1.trans m2) (l1.same (h9.up hp)) (.tup (eN.of oR) (r1.mn m2))
 ·cases e
def d7 (fa:ai->Dm (List D)):ai->Dm D:=fun δ st=>bnd (fa δ st) fun as st1=>if lim as.length=true then some (.ref st1.length,st1 ++ [.lst as]) else none
theorem lG {ta:TA} {fa:ai->Dm (List D)} (ha:oU K ta fa):fD K (yS ta) (d7 fa):=by
 intro ρ σ H δ st b st' Q l rs e q
 obtain ⟨as,st1,e1,e⟩:=dP e
 split at e
 ·next hl =>
  cases e
  refine ha ρ σ H δ st as _ _ l rs e1 fun xs H1 ρ1 m1 l1 r1=>⟨by rw [r1.length];exact Ac hl,fun p hp=>?_⟩
  exact q _ _ _ (m1.trans (Mn.new hp)) (l1.newL hp r1) (.ref (newR l1))
 ·cases e
def aT (fa:ai->Dm D):ai->Dm Bool:=fun δ st=>bnd (fa δ st) fun a st1=>match a with
 | .bl b=>some (b,st1)
 | _=>none
theorem ia {ta:TE} {fa:ai->Dm D} (ha:fD K ta fa):og K (rT ta) (aT fa):=by
 intro ρ σ H δ st b st' Q l rs e q
 obtain ⟨a,st1,e1,e⟩:=dP e
 cases a <;> simp at e
 obtain ⟨rfl,rfl⟩:=e
 refine ha ρ σ H δ st _ _ _ l rs e1 fun x H1 ρ1 m1 l1 r1=>?_
 cases r1
 exact ⟨_,rfl,q _ H1 ρ1 m1 l1 rfl⟩
theorem F3 {ta:TE} {fa:ai->Dm D} (ha:fD K ta fa):og K (tB ta) (aT fa):=ia ha
def pN (fa:ai->Dm Bool):ai->Dm Bool:=fun δ st=>bnd (fa δ st) fun a st1=>some (!a,st1)
theorem JU {ta:TT} {fa:ai->Dm Bool} (ha:og K ta fa):og K (yx ta) (pN fa):=by
 intro ρ σ H δ st b st' Q l rs e q
 obtain ⟨a,st1,e1,e⟩:=dP e
 cases e
 exact ha ρ σ H δ st _ _ _ l rs e1 fun x H1 ρ1 m1 l1 r1=>q _ H1 ρ1 m1 l1 (by rw [r1])
def rh (fa fb:ai->Dm Bool):ai->Dm Bool:=fun δ st=>bnd (fa δ st) fun a st1=>if a=true then fb δ st1 else some (false,st1)
def xN (fa fb:ai->Dm Bool):ai->Dm Bool:=fun δ st=>bnd (fa δ st) fun a st1=>if a=true then some (true,st1) else fb δ st1
theorem vn {ta tb:TT} {fa fb:ai->Dm Bool} (ha:og K ta fa) (hb:og K tb fb):og K (yw ta tb) (rh fa fb):=by
 intro ρ σ H δ st b st' Q l rs e q
 obtain ⟨a,st1,e1,e⟩:=dP e
 refine ha ρ σ H δ st _ _ _ l rs e1 fun x H1 ρ1 m1 l1 r1=>?_
 subst r1
 cases x with
 | true =>
  refine oH ?_
  rw [if_pos rfl] at e
  exact hb ρ1 σ H1 δ st1 b st' _ l1 (rs.mn m1) e fun y H2 ρ2 m2 l2 r2=>q y H2 ρ2 (m1.trans m2) l2 r2
 | false =>
  refine oG ?_
  rw [if_neg Bool.false_ne_true] at e
  cases e
  exact q _ H1 ρ1 m1 l1 rfl
theorem F4 {ta tb:TT} {fa fb:ai->Dm Bool} (ha:og K ta fa) (hb:og K tb fb):og K (Hk ta tb) (xN fa fb):=by
 intro ρ σ H δ st b st' Q l rs e q
 obtain ⟨a,st1,e1,e⟩:=dP e
 refine ha ρ σ H δ st _ _ _ l rs e1 fun x H1 ρ1 m1 l1 r1=>?_
 subst r1
 cases x with
 | false =>
  refine oG ?_
  rw [if_neg Bool.false_ne_true] at e
  exact hb ρ1 σ H1 δ st1 b st' _ l1 (rs.mn m1) e fun y H2 ρ2 m2 l2 r2=>q y H2 ρ2 (m1.trans m2) l2 r2
 | true =>
  refine oH ?_
  rw [if_pos rfl] at e
  cases e
  exact q _ H1 ρ1 m1 l1 rfl
def oh (fa fb:ai->Dm D):ai->Dm D:=fun δ st=>bnd (aT fa δ st) fun a st1=>if a=true then fb δ st1 else some (.bl false,st1)
def Ad (fa fb:ai->Dm D):ai->Dm D:=fun δ st=>bnd (aT fa δ st) fun a st1=>if a=true then some (.bl true,st1) else fb δ st1
def sN (fa:ai->Dm D):ai->Dm D:=fun δ st=>bnd (aT fa δ st) fun a st1=>some (.bl (!a),st1)
theorem N7 {fa:ai->Dm D} {δ:ai} {st st1:Store} {b:Bool} (h:aT fa δ st=some (b,st1)):fa δ st=some (.bl b,st1):=by
 obtain ⟨a,st2,e1,e⟩:=dP h
 cases a <;> simp at e
 obtain ⟨rfl,rfl⟩:=e
 exact e1
theorem N8 {ta tb:TE} {fa fb:ai->Dm D} (ha:fD K ta fa) (hb:fD K tb fb):fD K (rG ta tb) (oh fa fb):=by
 intro ρ σ H δ st b st' Q l rs e q
 obtain ⟨a,st1,e1,e⟩:=dP e
 refine ha ρ σ H δ st _ _ _ l rs (N7 e1) fun x H1 ρ1 m1 l1 r1=>?_
 cases r1
 refine ⟨a,rfl,?_⟩
 cases a with
 | true =>
  refine oH ?_
  rw [if_pos rfl] at e
  exact hb ρ1 σ H1 δ st1 b st' _ l1 (rs.mn m1) e fun y H2 ρ2 m2 l2 r2=>q y H2 ρ2 (m1.trans m2) l2 r2
 | false =>
  refine oG ?_
  rw [if_neg Bool.false_ne_true] at e
  cases e
  exact q _ H1 ρ1 m1 l1 (.bl _)
def jr {β:Type} (c:ai->Dm Bool) (fa fb:ai->Dm β):ai->Dm β:=fun δ st=>bnd (c δ st) fun a st1=>if a=true then fa δ st1 else fb δ st1
def gC:ai->Dm (Option Int):=fun _ st=>some (none,st)
def kD (fa:ai->Dm D):ai->Dm (Option Int):=fun δ st=>bnd (fa δ st) fun a st1=>match a with
 | .int i=>some (some i,st1)
 | _=>none
theorem Ae:CZ K nR gC:=by
 intro ρ σ H δ st b st' Q l rs e q
 cases e
 exact q _ H ρ .refl l rfl
theorem Af {ta:TE} {fa:ai->Dm D} (ha:fD K ta fa):CZ K (rY ta) (kD fa):=by
 intro ρ σ H δ st b st' Q l rs e q
 obtain ⟨a,st1,e1,e⟩:=dP e
 cases a <;> simp at e
 obtain ⟨rfl,rfl⟩:=e
 refine ha ρ σ H δ st _ _ _ l rs e1 fun x H1 ρ1 m1 l1 r1=>?_
 cases r1
 exact ⟨_,rfl,q _ H1 ρ1 m1 l1 rfl⟩
def vo (K:PySem.W.Frag) (r:V->Option Int->Option Int->Hp->VK->Prop) (g:D->Option Int->Option Int->Dm D):Prop :=
 ∀ lo hi,Ab K (fun x=>r x lo hi) (fun a=>g a lo hi)
def sO (g:D->Option Int->Option Int->Dm D) (fa:ai->Dm D) (fl fh:ai->Dm (Option Int)):ai->Dm D:=fun δ st=>bnd (fa δ st) fun a st1=>bnd (fl δ st1) fun lo st2=>bnd (fh δ st2) fun hi st3=>g a lo hi st3
theorem Ag {r:V->Option Int->Option Int->Hp->VK->Prop} {g:D->Option Int->Option Int->Dm D} {ta:TE} {tl th:TO} {fa:ai->Dm D} {fl fh:ai->Dm (Option Int)} (hr:vo K r g) (ha:fD K ta fa) (hl:CZ K tl fl) (hh:CZ K th fh):fD K (HN r ta tl th) (sO g fa fl fh):=by
 intro ρ σ H δ st b st' Q l rs e q
 obtain ⟨a,st1,e1,e⟩:=dP e
 obtain ⟨lo,st2,e2,e⟩:=dP e
 obtain ⟨hi,st3,e3,e⟩:=dP e
 refine ha ρ σ H δ st a st1 _ l rs e1 fun x H1 ρ1 m1 l1 r1=>hl ρ1 σ H1 δ st1 lo st2 _ l1 (rs.mn m1) e2 fun y H2 ρ2 m2 l2 r2=>hh ρ2 σ H2 δ st2 hi st3 _ l2 (rs.mn (m1.trans m2)) e3 fun z H3 ρ3 m3 l3 r3=>?_
 subst r2 r3
 exact hr y z ρ3 H3 st3 x a b st' Q l3 (r1.mn (m2.trans m3)) e fun v H4 ρ4 m4 l4 r4=>q v H4 ρ4 (((m1.trans m2).trans m3).trans m4) l4 r4
def aX (g:List D->Dm D) (fa:ai->Dm (List D)):ai->Dm D:=fun δ st=>bnd (fa δ st) fun as st1=>g as st1
theorem dD {r:List V->Hp->VK->Prop} {g:List D->Dm D} {ta:TA} {fa:ai->Dm (List D)} (hr:pL K r g) (ha:oU K ta fa):fD K (EI r ta) (aX g fa):=by
 intro ρ σ H δ st b st' Q l rs e q
 obtain ⟨as,st1,e1,e⟩:=dP e
 exact ha ρ σ H δ st as st1 _ l rs e1 fun x H1 ρ1 m1 l1 r1=>hr ρ1 H1 st1 x as b st' Q l1 r1 e fun v H3 ρ3 m3 l3 r3=>q v H3 ρ3 (m1.trans m3) l3 r3
def br (K:PySem.W.Frag) (n:Nat) (F:List D->Dm D):Sp:=fun vs H Q _=>vs.length=n/\∃ (ρ:List Addr) (st:Store) (ds:List D) (b:D) (st':Store),Rl K ρ H st/\cw K ρ H vs ds/\F ds st=some (b,st') /\
 ∀ v H' ρ',Mn K ρ H ρ' H'->Rl K ρ' H' st'->Rp K ρ' H' v b->Q v H'
theorem bU {n:Nat} {F:List D->Dm D} {ta:TA} {fa:ai->Dm (List D)} {E:XK} (ha:oU K ta fa) (hn:∀ δ st as st',fa δ st=some (as,st')->as.length=n):fD K (rW (br K n F) [] E ta) (aX F fa):=by
 intro ρ σ H δ st b st' Q l rs e q
 obtain ⟨as,st1,e1,e⟩:=dP e
 refine ha ρ σ H δ st as st1 _ l rs e1 fun vs H1 ρ1 m1 l1 r1=>⟨?_,ρ1,st1,as,b,st',l1,?_,e,fun v H3 ρ3 m3 l3 r3=>q v H3 ρ3 (m1.trans m3) l3 r3⟩
 ·rw [List.append_nil,r1.length];exact hn _ _ _ _ e1
 ·rw [List.append_nil];exact r1
theorem bW {δ:ai} {st st':Store} {as:List D} (h:ah δ st=some (as,st')):as.length=0:=by cases h;rfl
theorem aY {fa:ai->Dm D} {fr:ai->Dm (List D)} {n:Nat} (hr:∀ δ st as st',fr δ st=some (as,st')->as.length=n):∀ δ st as st',ae fa fr δ st=some (as,st')->as.length=n + 1:=fun δ st as st' h=>by
 obtain ⟨a,st1,e1,e⟩:=dP h
 obtain ⟨c,st2,e2,e⟩:=dP e
 cases e
 rw [List.length_cons,hr _ _ _ _ e2]
end
end L4
namespace L4
open PySem PySem.Spec L2
section
variable {K:PySem.W.Frag}
def sP (h:Int->Int->D):D->D->Dm D
 | .int i,.int j,st=>some (h i j,st)
 | _,_,_=>none
theorem Ah {gv:Int->Int->V} {h:Int->Int->D} (hh:∀ i j ρ H,Rp K ρ H (gv i j) (h i j)):kT K (oD gv) (sP h):=by
 intro ρ H st x y a c b st' Q l rx ry e q
 unfold sP at e
 split at e
 ·cases e;cases rx;cases ry;exact ⟨_,_,rfl,rfl,q _ H ρ .refl l (hh _ _ ρ H)⟩
 ·cases e
def rj (c:Int->Int->Bool) (h:Int->Int->D):D->D->Dm D
 | .int i,.int j,st=>if c i j=true then some (h i j,st) else none
 | _,_,_=>none
theorem xO {C:Int->Int->Prop} {c:Int->Int->Bool} {gv:Int->Int->V} {h:Int->Int->D} (hc:∀ i j,c i j=true->C i j) (hh:∀ i j ρ H,Rp K ρ H (gv i j) (h i j)):kT K (rI C gv) (rj c h):=by
 intro ρ H st x y a d b st' Q l rx ry e q
 unfold rj at e
 split at e
 ·split at e
  ·next hcc=>cases e;cases rx;cases ry;exact ⟨_,_,rfl,rfl,hc _ _ hcc,q _ H ρ .refl l (hh _ _ ρ H)⟩
  ·cases e
 ·cases e
def dE:D->D->Dm D:=sP fun i j=>.int (i + j)
def lH:D->D->Dm D:=sP fun i j=>.int (i - j)
def kf:D->D->Dm D:=rj (fun i j=>decide (-18446744073709551616 < i/\i < 18446744073709551616) || decide (-18446744073709551616 < j/\j < 18446744073709551616)) fun i j=>.int (i * j)
def mU:D->D->Dm D:=rj (fun i j=>decide (0 < j/\j < 1073741824)) fun i j=>.int (i / j)
def kg:D->D->Dm D:=rj (fun i j=>decide (0 < j)) fun i j=>.int (i % j)
def pO:D->D->Dm D:=rj (fun i j=>decide (0<=j/\j<=1000000/\i.natAbs < 18446744073709551616)) fun i j=>.int (i ^ j.toNat)
def C0:D->D->Dm D:=sP fun i j=>.bl (decide (i < j))
def N9:D->D->Dm D:=sP fun i j=>.bl (decide (i<=j))
def Ai:D->D->Dm D:=sP fun i j=>.bl (decide (j < i))
def F5:D->D->Dm D:=sP fun i j=>.bl (decide (j<=i))
theorem kL:kT K (oD fun i j=>.int (i + j)) dE:=Ah fun _ _ _ _=>.int _
theorem Aj:kT K (oD fun i j=>.int (i - j)) lH:=Ah fun _ _ _ _=>.int _
theorem qm:kT K (rI o7 fun i j=>.int (i * j)) kf:=xO (fun i j h=>by
 rw [Bool.or_eq_true,decide_eq_true_eq,decide_eq_true_eq] at h
 exact h) fun _ _ _ _=>.int _
theorem JV:kT K (rI yM fun i j=>.int (i / j)) mU:=xO (fun i j h=>of_decide_eq_true (p:=0 < j/\j < 1073741824) h) fun _ _ _ _=>.int _
theorem qo:kT K (rI (fun _ j=>0 < j) fun i j=>.int (i % j)) kg:=xO (fun i j h=>of_decide_eq_true h) fun _ _ _ _=>.int _
theorem JW:kT K (rI yN fun i j=>.int (i ^ j.toNat)) pO:=xO (fun i j h=>by have h:=of_decide_eq_true (p:=0<=j/\j<=1000000/\i.natAbs < 18446744073709551616) h;exact ⟨h.1,h.2.1,by omega⟩) fun _ _ _ _=>.int _
theorem sQ:kT K (oD fun i j=>.bl (decide (i < j))) C0:=Ah fun _ _ _ _=>.bl _
theorem F6:kT K (oD fun i j=>.bl (decide (j < i))) Ai:=Ah fun _ _ _ _=>.bl _
theorem Ak:kT K (oD fun i j=>.bl (decide (j<=i))) F5:=Ah fun _ _ _ _=>.bl _
def lL:D->Dm D
 | .int i,st=>some (.int (-i),st)
 | _,_=>none
theorem vp:Ab K (rU fun i=>.int (-i)) lL:=by
 intro ρ H st x a b st' Q l rx e q
 unfold lL at e
 split at e
 ·cases e;cases rx;exact ⟨_,rfl,q _ H ρ .refl l (.int _)⟩
 ·cases e
def sV:D->Option V
 | .non=>some .non
 | .bl b=>some (.bl b)
 | .int i=>some (.int i)
 | .str x=>some (.str x)
 | _=>none
theorem xP {ρ:List Addr} {H:Hp} {x v:V} {a:D} (r:Rp K ρ H x a) (h:sV a=some v):x=v:=by
 cases r <;> first | (cases h;rfl) | cases h
def kM (neg:Bool):D->D->Dm D:=fun a b st=>match sV a,sV b with
 | some x,some y=>if nC x y=true then some (.bl (if neg then !decide (x=y) else decide (x=y)),st) else none
 | _,_=>none
theorem mV:kT K Hu (kM false):=by
 intro ρ H st x y a c b st' Q l rx ry e q
 unfold kM at e
 split at e
 ·next u v h1 h2 =>
  split at e
  ·next hs=>cases e;cases xP rx h1;cases xP ry h2;exact ⟨hs,q _ H ρ .refl l (.bl _)⟩
  ·cases e
 ·cases e
theorem sR:kT K Hv (kM true):=by
 intro ρ H st x y a c b st' Q l rx ry e q
 unfold kM at e
 split at e
 ·next u v h1 h2 =>
  split at e
  ·next hs=>cases e;cases xP rx h1;cases xP ry h2;exact ⟨hs,q _ H ρ .refl l (.bl _)⟩
  ·cases e
 ·cases e
def b9 {α β:Type} (f:α->Option β):List α->Option (List β)
 | []=>some []
 | a :: r=>match f a,b9 f r with
  | some b,some s=>some (b :: s)
  | _,_=>none
theorem sS {α β:Type} {f:α->Option β} {a:α} {r:List α} {s:List β} (h:b9 f (a :: r)=some s):∃ b t,f a=some b/\b9 f r=some t/\s=b :: t:=by
 unfold b9 at h
 split at h
 ·next b t h1 h2=>cases h;exact ⟨b,t,h1,h2,rfl⟩
 ·cases h
theorem sT {α β γ:Type} {f:α->Option β} {g:γ->α} {k:γ->β} (h:∀ c,f (g c)=some (k c)):∀ l:List γ,b9 f (l.map g)=some (l.map k)
 | []=>rfl
 | c :: r=>by
  show b9 f (g c :: r.map g)=_
  unfold b9
  rw [h c,sT h r]
  rfl
def dc (st:Store):Nat->D->Option PyData
 | 0,_=>none
 | _ + 1,.non=>some .none
 | _ + 1,.bl b=>some (.bool b)
 | _ + 1,.int i=>some (.int i)
 | _ + 1,.str x=>some (.str x)
 | _ + 1,.ty _=>none
 | n + 1,.tup ds=>(b9 (dc st n) ds).map PyData.tuple
 | n + 1,.ref i=>match items st i with
  | some ds=>(b9 (dc st n) ds).map PyData.list
  | none=>none
theorem C1 {ρ:List Addr} {H:Hp} {st:Store} (l:Rl K ρ H st):∀ (n:Nat) {v:V} {d:D} {p:PyData},Rp K ρ H v d->dc st n d=some p->Rep K H v p
 | 0,_,_,_,_,h=>by simp [dc] at h
 | n + 1,v,d,p,r,h=>by
  have all:∀ {vs:List V} {ds:List D} {ps:List PyData},cw K ρ H vs ds->b9 (dc st n) ds=some ps->gy K H vs ps:=by
   intro vs ds ps rr
   induction vs generalizing ds ps with
   | nil=>intro hm;cases rr;cases hm;exact .nil
   | cons w ws ih =>
    intro hm
    cases rr with
    | cons ra rb =>
     obtain ⟨b,t,h1,h2,rfl⟩:=sS hm
     exact .cons (C1 l n ra h1) (ih rb h2)
  cases r with
  | non=>simp [dc] at h;subst h;exact .non
  | bl b=>simp [dc] at h;subst h;exact .bl b
  | int i=>simp [dc] at h;subst h;exact .int i
  | str x=>simp [dc] at h;subst h;exact .str x
  | ty n=>simp [dc] at h
  | ref hi =>
   simp only [dc] at h
   split at h
   ·next ds hd =>
    obtain ⟨ps,h1,rfl⟩:=Option.map_eq_some_iff.mp h
    obtain ⟨vs,e,rr⟩:=l.items hi hd
    exact .lst e (all rr h1)
   ·cases h
  | tup q rr =>
   simp only [dc] at h
   obtain ⟨ps,h1,rfl⟩:=Option.map_eq_some_iff.mp h
   exact .tup q (all rr h1)
def eZ (neg:Bool):D->D->Dm D:=fun a b st=>match dc st 20 a,dc st 20 b with
 | some p,some q=>if (PyData.canLay0 p && PyData.canLay0 q && decide (min p.depth q.depth<=60))=true then some (.bl (if neg then !PyData.eqv p q else PyData.eqv p q),st) else none
 | _,_=>none
theorem pP (neg:Bool):kT K (qM K neg) (eZ neg):=by
 intro ρ H st x y a c b st' Q l rx ry e q
 unfold eZ at e
 split at e
 ·next u v h1 h2 =>
  split at e
  ·next hs =>
   cases e
   rw [Bool.and_eq_true,Bool.and_eq_true,decide_eq_true_eq] at hs
   exact ⟨u,v,C1 l 20 rx h1,C1 l 20 ry h2,hs.1.1,hs.1.2,hs.2,q _ H ρ .refl l (.bl _)⟩
  ·cases e
 ·cases e
theorem at_of {ρ:List Addr} {H:Hp} {vs:List V} {ds:List D} {i:Int} {d:D} (r:cw K ρ H vs ds) (h:iu ds i=some d):∃ v,iu vs i=some v/\Rp K ρ H v d:=by
 unfold iu at h ⊢
 rw [r.length]
 cases hx:kI ds.length i with
 | none=>rw [hx] at h;cases h
 | some j =>
  rw [hx] at h
  exact r.got h
def aR:D->D->Dm D
 | .tup ds,.int i,st=>match iu ds i with
  | some d=>some (d,st)
  | none=>none
 | _,_,_=>none
theorem cO:kT K (uA K) aR:=by
 intro ρ H st x y a c b st' Q l rx ry e q
 unfold aR at e
 split at e
 ·split at e
  ·next d hd =>
   cases e
   cases ry
   cases rx with
   | tup s r =>
    obtain ⟨v,hv,rv⟩:=at_of r hd
    exact ⟨_,_,_,v,rfl,rfl,s,hv,q v H ρ .refl l rv⟩
  ·cases e
 ·cases e
def iz:D->D->Dm D
 | .ref r,.int i,st=>match items st r with
  | some ds=>match iu ds i with
   | some d=>some (d,st)
   | none=>none
  | none=>none
 | _,_,_=>none
theorem oi:kT K (uz K) iz:=by
 intro ρ H st x y a c b st' Q l rx ry e q
 unfold iz at e
 split at e
 ·split at e
  ·next ds hi =>
   split at e
   ·next d hd =>
    cases e
    cases ry
    cases rx with
    | ref hr =>
     obtain ⟨vs,s,r⟩:=l.items hr hi
     obtain ⟨v,hv,rv⟩:=at_of r hd
     exact ⟨_,_,_,v,rfl,rfl,s,hv,q v H ρ .refl l rv⟩
   ·cases e
  ·cases e
 ·cases e
def vq:D->D->Dm D
 | .str z,.int i,st=>if lim z.length=true then match iu z.cps.toList i with
   | some c=>some (.str ⟨#[c]⟩,st)
   | none=>none
  else none
 | _,_,_=>none
def cutD (xs:List D) (lo hi:Option Int):List D:=(xs.drop (HT.cL xs.length 0 lo)).take (HT.cL xs.length xs.length hi - HT.cL xs.length 0 lo)
theorem cw.cut {ρ:List Addr} {H:Hp} {vs:List V} {ds:List D} (r:cw K ρ H vs ds) (lo hi:Option Int):cw K ρ H (lh vs lo hi) (cutD ds lo hi):=by
 unfold lh cutD
 rw [r.length]
 exact (r.drop _).take _
def pQ:D->Option Int->Option Int->Dm D
 | .tup ds,lo,hi,st=>some (.tup (cutD ds lo hi),st)
 | _,_,_,_=>none
theorem got {ρ:List Addr} {H:Hp} {st:Store} {vs:List V} {ds:List D} {Q:VK} (l:Rl K ρ H st) (r:cw K ρ H vs ds) (q:∀ v H' ρ',Mn K ρ H ρ' H'->Rl K ρ' H' st->Rp K ρ' H' v (.tup ds)->Q v H'):l8 K H vs Q :=
 fun p H' s e=>q _ H' ρ (Mn.same e) (l.same e) (.tup s (r.mn (Mn.same e)))
theorem F7:vo K (sj K) pQ:=by
 intro lo hi ρ H st x a b st' Q l rx e q
 cases a with
 | tup ds =>
  cases e
  cases rx with
  | tup s r=>exact ⟨_,_,rfl,s,got l (r.cut lo hi) q⟩
 | _=>cases e
def pR:D->Option Int->Option Int->Dm D
 | .ref r,lo,hi,st=>match items st r with
  | some ds=>some (.ref st.length,st ++ [.lst (cutD ds lo hi)])
  | none=>none
 | _,_,_,_=>none
theorem JX:vo K (y4 K) pR:=by
 intro lo hi ρ H st x a b st' Q l rx e q
 cases a with
 | ref i =>
  simp only [pR] at e
  split at e
  ·next ds hd =>
   cases e
   cases rx with
   | ref hr =>
    obtain ⟨vs,s,r⟩:=l.items hr hd
    exact ⟨_,_,rfl,s,fun p hp=>q _ _ _ (Mn.new hp) (l.newL hp (r.cut lo hi)) (.ref (newR l))⟩
  ·cases e
 | _=>cases e
def oj:D->Dm D
 | .ref i,st=>match items st i with
  | some ds=>some (.ref st.length,st ++ [.lst ds.reverse])
  | none=>none
 | _,_=>none
theorem Oa:Ab K (fun x H Q=>∃ a xs,x=.ref a/\iR K H a xs/\∀ p,H p=none->Q (.ref p) (upd H p (.lst xs.reverse))) oj:=by
 intro ρ H st x a b st' Q l rx e q
 cases a with
 | ref i =>
  simp only [oj] at e
  split at e
  ·next ds hd =>
   cases e
   cases rx with
   | ref hr =>
    obtain ⟨vs,s,r⟩:=l.items hr hd
    exact ⟨_,_,rfl,s,fun p hp=>q _ _ _ (Mn.new hp) (l.newL hp r.reverse) (.ref (newR l))⟩
  ·cases e
 | _=>cases e
def fE:D->D->Dm D
 | .tup a,.tup b,st=>if lim (a.length + b.length)=true then some (.tup (a ++ b),st) else none
 | _,_,_=>none
theorem pS:kT K (ph K) fE:=by
 intro ρ H st x y a c b st' Q l rx ry e q
 unfold fE at e
 split at e
 ·split at e
  ·next hl =>
   cases e
   cases rx with
   | tup s r =>
    cases ry with
    | tup s' r'=>exact ⟨_,_,_,_,rfl,rfl,s,s',by rw [r.length,r'.length];exact Ac hl,got l (r.append r') q⟩
  ·cases e
 ·cases e
def own (st:Store) (i:Nat):Option (List D):=match st[i]? with
 | some (.lst ds)=>some ds
 | _=>none
theorem pT {st:Store} {i:Nat} {ds:List D} (h:own st i=some ds):st[i]?=some (.lst ds):=by
 unfold own at h
 split at h
 ·next ds' hs=>cases h;exact hs
 ·cases h
def lN:D->D->Dm D
 | .ref i,.ref j,st=>match own st i,own st j with
  | some a,some b=>if lim (a.length + b.length)=true then some (.ref st.length,st ++ [.lst (a ++ b)]) else none
  | _,_=>none
 | _,_,_=>none
theorem vt:kT K y9 lN:=by
 intro ρ H st x y a c b st' Q l rx ry e q
 unfold lN at e
 split at e
 ·split at e
  ·next a b h1 h2 =>
   split at e
   ·next hl =>
    cases e
    cases rx with
    | ref hi =>
     cases ry with
     | ref hj =>
      obtain ⟨vs,e1,r1⟩:=l.obj _ _ _ hi (pT h1)
      obtain ⟨ws,e2,r2⟩:=l.obj _ _ _ hj (pT h2)
      exact ⟨_,_,_,_,rfl,rfl,e1,e2,by rw [r1.length,r2.length];exact Ac hl,fun p hp=>q _ _ _ (Mn.new hp) (l.newL hp (r1.append r2)) (.ref (newR l))⟩
   ·cases e
  ·cases e
 ·cases e
def pV:D->D->Dm D
 | .ref i,.int k,st=>match own st i with
  | some a=>if (decide (-9223372036854775808<=k/\k < 9223372036854775808) && lim (a.length * k.toNat))=true then some (.ref st.length,st ++ [.lst (List.replicate k.toNat a).flatten]) else none
  | _=>none
 | _,_,_=>none
theorem JY {ρ:List Addr} {H:Hp}:∀ {ws vs:List V} {ds:List D},cw K ρ H ws ds->b9 sV ds=some vs->ws=vs
 | _,_,_,.nil,h=>by cases h;rfl
 | _,_,_,.cons a b,h=>by
  obtain ⟨x,t,h1,h2,rfl⟩:=sS h
  rw [xP a h1,JY b h2]
theorem JZ {a:D} {v:V} (h:sV a=some v):jh v=true:=by cases a <;> first | (cases h;rfl) | cases h
theorem J0:∀ {ds:List D} {vs:List V},b9 sV ds=some vs->vs.all jh=true
 | [],_,h=>by cases h;rfl
 | d :: r,_,h=>by
  obtain ⟨x,t,h1,h2,rfl⟩:=sS h
  rw [List.all_cons,JZ h1,J0 h2];rfl
def dj (st:Store):D->Option (List D)
 | .tup ds=>some ds
 | .ref i=>items st i
 | _=>none
theorem C2 {ρ:List Addr} {H:Hp} {st:Store} {x:V} {a:D} {ds:List D} (l:Rl K ρ H st) (r:Rp K ρ H x a) (h:dj st a=some ds):∃ p vs,x=.ref p/\(iR K H p vs\/eN K H p vs)/\cw K ρ H vs ds:=by
 cases r <;> first | (cases h;done) | skip
 ·next hi=>obtain ⟨vs,s,r⟩:=l.items hi h;exact ⟨_,vs,rfl,.inl s,r⟩
 ·next s r=>cases h;exact ⟨_,_,rfl,.inr s,r⟩
def pW (neg:Bool):D->D->Dm D:=fun a c st=>match sV a,(dj st c).bind (b9 sV) with
 | some x,some vs=>some (.bl (if neg then !r9 x vs else r9 x vs),st)
 | _,_=>none
theorem C3 (neg:Bool):kT K (ER K neg) (pW neg):=by
 intro ρ H st x y a c b st' Q l rx ry e q
 unfold pW at e
 split at e
 ·next u vs h1 h2 =>
  cases e
  obtain ⟨ds,h3,h4⟩:=Option.bind_eq_some_iff.mp h2
  obtain ⟨p,ws,rfl,s,r⟩:=C2 l ry h3
  cases xP rx h1
  cases JY r h4
  exact ⟨p,_,rfl,s,JZ h1,J0 h4,q _ H ρ .refl l (.bl _)⟩
 ·cases e
theorem cw.one' {ρ:List Addr} {H:Hp} {vs:List V} {d:D} (r:cw K ρ H vs [d]):∃ v,vs=[v]/\Rp K ρ H v d:=by cases r with | cons a b=>cases b;exact ⟨_,rfl,a⟩
theorem cw.two' {ρ:List Addr} {H:Hp} {vs:List V} {d e:D} (r:cw K ρ H vs [d,e]):∃ v w,vs=[v,w]/\Rp K ρ H v d/\Rp K ρ H w e:=by
 cases r with
 | cons a b=>obtain ⟨w,rfl,r⟩:=b.one';exact ⟨_,_,rfl,a,r⟩
def gk:List D->Dm D
 | [a],st=>match dj st a with
  | some ds=>some (.int ds.length,st)
  | none=>none
 | _,_=>none
theorem mW:pL K (fun xs H Q=>∃ p ys,xs=[.ref p]/\(iR K H p ys\/eN K H p ys)/\Q (.int ys.length) H) gk:=by
 intro ρ H st xs as b st' Q l rx e q
 unfold gk at e
 split at e
 ·split at e
  ·next ds hd =>
   cases e
   obtain ⟨v,rfl,r⟩:=rx.one'
   obtain ⟨p,vs,rfl,s,r⟩:=C2 l r hd
   exact ⟨p,vs,rfl,s,q _ H ρ .refl l (by rw [r.length];exact .int _)⟩
  ·cases e
 ·cases e
def lq:List D->Dm D
 | [a],st=>match dj st a with
  | some ds=>some (.ref st.length,st ++ [.lst ds])
  | none=>none
 | _,_=>none
theorem C4:pL K (fun xs H Q=>∃ p ys,xs=[.ref p]/\(iR K H p ys\/eN K H p ys)/\∀ l,H l=none->Q (.ref l) (upd H l (.lst ys))) lq:=by
 intro ρ H st xs as b st' Q l rx e q
 unfold lq at e
 split at e
 ·split at e
  ·next ds hd =>
   cases e
   obtain ⟨v,rfl,r⟩:=rx.one'
   obtain ⟨p,vs,rfl,s,r⟩:=C2 l r hd
   exact ⟨p,vs,rfl,s,fun p hp=>q _ _ _ (Mn.new hp) (l.newL hp r) (.ref (newR l))⟩
  ·cases e
 ·cases e
def c4:List D->Dm D
 | [a],st=>match dj st a with
  | some ds=>some (.tup ds,st)
  | none=>none
 | _,_=>none
theorem oP:pL K (fun xs H Q=>∃ p ys,xs=[.ref p]/\((iR K H p ys/\∀ l,H l=none->Q (.ref l) (upd H l (.tup ys)))\/(eN K H p ys/\Q (.ref p) H))) c4:=by
 intro ρ H st xs as b st' Q l rx e q
 unfold c4 at e
 split at e
 ·split at e
  ·next ds hd =>
   cases e
   obtain ⟨v,rfl,r⟩:=rx.one'
   obtain ⟨p,vs,rfl,s,r'⟩:=C2 l r hd
   refine ⟨p,vs,rfl,?_⟩
   rcases s with s | s
   ·exact .inl ⟨s,(got l r' q).new⟩
   ·exact .inr ⟨s,(got l r' q).it s⟩
  ·cases e
 ·cases e
def om:List D->Dm D
 | [.int i,.int j],st=>some (.int (if j > i then j else i),st)
 | _,_=>none
def Al:List D->Dm D
 | [.int i,.int j],st=>some (.int (if j < i then j else i),st)
 | _,_=>none
theorem Ob:pL K (fun xs H Q=>∃ i j,xs=[.int i,.int j]/\Q (.int (if j > i then j else i)) H) om:=by
 intro ρ H st xs as b st' Q l rx e q
 unfold om at e
 split at e
 ·cases e
  obtain ⟨v,w,rfl,r1,r2⟩:=rx.two'
  cases r1;cases r2
  exact ⟨_,_,rfl,q _ H ρ .refl l (.int _)⟩
 ·cases e
def mX:List D->Dm D
 | [.int i],st=>some (.int i,st)
 | [.bl k],st=>some (.int (if k then 1 else 0),st)
 | _,_=>none
theorem Oc:pL K (fun xs H Q=>(∃ i,xs=[.int i]/\Q (.int i) H)\/∃ k,xs=[.bl k]/\Q (.int (if k then 1 else 0)) H) mX:=by
 intro ρ H st xs as b st' Q l rx e q
 unfold mX at e
 split at e
 ·cases e
  obtain ⟨v,rfl,r⟩:=rx.one'
  cases r
  exact .inl ⟨_,rfl,q _ H ρ .refl l (.int _)⟩
 ·cases e
  obtain ⟨v,rfl,r⟩:=rx.one'
  cases r
  exact .inr ⟨_,rfl,q _ H ρ .refl l (.int _)⟩
 ·cases e
def iT:List D->Dm D
 | [.int j],st=>some (.ref st.length,st ++ [.il 0 j])
 | _,_=>none
def eA:List D->Dm D
 | [.int i,.int j],st=>some (.ref st.length,st ++ [.il i j])
 | _,_=>none
theorem F8:pL K (fun xs H Q=>∃ j:Int,xs=[.int j]/\∀ p,H p=none->Q (.ref p) (upd H p (.il 0 j))) iT:=by
 intro ρ H st xs as b st' Q l rx e q
 unfold iT at e
 split at e
 ·cases e
  obtain ⟨v,rfl,r⟩:=rx.one'
  cases r
  exact ⟨_,rfl,fun p hp=>q _ _ _ (Mn.new hp) (l.new hp (show sL K _ _ p (.il _ _) from oR)) (.ref (newR l))⟩
 ·cases e
theorem xQ:pL K (fun xs H Q=>∃ i j:Int,xs=[.int i,.int j]/\∀ p,H p=none->Q (.ref p) (upd H p (.il i j))) eA:=by
 intro ρ H st xs as b st' Q l rx e q
 unfold eA at e
 split at e
 ·cases e
  obtain ⟨v,w,rfl,r1,r2⟩:=rx.two'
  cases r1;cases r2
  exact ⟨_,_,rfl,fun p hp=>q _ _ _ (Mn.new hp) (l.new hp (show sL K _ _ p (.il _ _) from oR)) (.ref (newR l))⟩
 ·cases e
def aI (lo:Int) (n:Nat):List D:=(List.range n).map fun (k:Nat)=>D.int (lo + k)
theorem Oe {ρ:List Addr} {H:Hp} (lo:Int) (n:Nat):cw K ρ H (eU lo n) (aI lo n):=by
 unfold eU aI
 induction (List.range n) with
 | nil=>exact .nil
 | cons a r ih=>exact .cons (.int _) ih
def oQ (lo hi:Int):Bool:=decide (-4611686018427387904<=lo/\lo < 4611686018427387904/\-4611686018427387904<=hi/\hi < 4611686018427387904) && lim (hi - lo).toNat
theorem J1 {lo hi:Int} (h:oQ lo hi=true):(-(2 ^ 62)<=lo/\lo < 2 ^ 62/\-(2 ^ 62)<=hi/\hi < 2 ^ 62)/\(hi - lo).toNat<=2 ^ 24:=by
 unfold oQ at h
 rw [Bool.and_eq_true,decide_eq_true_eq] at h
 exact ⟨by omega,Nat.le_trans (Nat.le_of_ble_eq_true h.2) (by decide)⟩
def hU (st:Store):D->Option (Int×Int)
 | .ref i=>match st[i]? with
  | some (.il lo hi)=>some (lo,hi)
  | _=>none
 | _=>none
theorem vw {ρ:List Addr} {H:Hp} {st:Store} {x:V} {a:D} {lo hi:Int} (l:Rl K ρ H st) (r:Rp K ρ H x a) (h:hU st a=some (lo,hi)):∃ p,x=.ref p/\H p=some (.il lo hi):=by
 cases r <;> first | (cases h;done) | skip
 ·next hi' =>
  simp only [hU] at h
  split at h
  ·next lo' Og hs=>cases h;exact ⟨_,rfl,l.obj _ _ _ hi' hs⟩
  ·cases h
def d8:List D->Dm D
 | [a],st=>match hU st a with
  | some (lo,hi)=>if oQ lo hi=true then some (.ref st.length,st ++ [.lst (aI lo (hi - lo).toNat)]) else none
  | none=>none
 | _,_=>none
theorem rl:pL K (fun xs H Q=>∃ p lo hi,xs=[.ref p]/\H p=some (.il lo hi)/\(-(2 ^ 62)<=lo/\lo < 2 ^ 62/\-(2 ^ 62)<=hi/\hi < 2 ^ 62)/\(hi - lo).toNat<=2 ^ 24 /\
  ∀ l,H l=none->Q (.ref l) (upd H l (.lst (eU lo (hi - lo).toNat)))) d8:=by
 intro ρ H st xs as b st' Q l rx e q
 unfold d8 at e
 split at e
 ·split at e
  ·next lo hi hd =>
   split at e
   ·next ok =>
    cases e
    obtain ⟨v,rfl,r⟩:=rx.one'
    obtain ⟨p,rfl,s⟩:=vw l r hd
    exact ⟨p,lo,hi,rfl,s,(J1 ok).1,(J1 ok).2,fun p hp=>q _ _ _ (Mn.new hp) (l.newL hp (Oe lo _)) (.ref (newR l))⟩
   ·cases e
  ·cases e
 ·cases e
def rm:List D->Dm D
 | [a],st=>match hU st a with
  | some (lo,hi)=>if oQ lo hi=true then some (.tup (aI lo (hi - lo).toNat),st) else none
  | none=>none
 | _,_=>none
def iV:D->Option Int
 | .int i=>some i
 | _=>none
def sortI (ns:List Int):List Int:=ns.mergeSort fun a b=>decide (a<=b)
def C5:List D->Dm D
 | [a],st=>match (dj st a).bind (b9 iV) with
  | some ns=>if ns.length < 64 then some (.ref st.length,st ++ [.lst ((sortI ns).map D.int)]) else none
  | none=>none
 | _,_=>none
def bV:D->Option Bool
 | .bl i=>some i
 | _=>none
def vz:List D->Dm D
 | [.ref i],st=>match (items st i).bind (b9 bV) with
  | some bs=>some (.bl (bs.all id),st)
  | none=>none
 | _,_=>none
def xR (T:String) (st:Store):D->Bool
 | .str _=>T == "str"
 | .tup _=>T == "tuple"
 | .ref i=>T == "list" && (items st i).isSome
 | _=>false
theorem vA {ρ:List Addr} {H:Hp} {st:Store} {x:V} {a:D} {T:String} (l:Rl K ρ H st) (r:Rp K ρ H x a) (h:xR T st a=true):ET K T x H:=by
 cases r <;> first | (cases h;done) | skip
 ·exact eq_of_beq h
 ·next hi =>
  simp only [xR,Bool.and_eq_true] at h
  obtain ⟨ds,hd⟩:=Option.isSome_iff_exists.mp h.2
  obtain ⟨vs,s,_⟩:=l.items hi hd
  exact .inl ⟨eq_of_beq h.1,vs,s⟩
 ·next s r=>exact .inr (.inl ⟨eq_of_beq h,_,s⟩)
def pX (T:String) (g:D->List D->Dm D) (fo:ai->Dm D) (fa:ai->Dm (List D)):ai->Dm D:=fun δ st=>bnd (fo δ st) fun o st1=>if xR T st1 o=true then bnd (fa δ st1) fun as st2=>g o as st2 else none
theorem sU {T:String} {r:V->List V->Hp->VK->Prop} {g:D->List D->Dm D} {to:TE} {ta:TA} {fo:ai->Dm D} {fa:ai->Dm (List D)} (hr:FZ K T r g) (ho:fD K to fo) (ha:oU K ta fa):fD K (HU K T r to ta) (pX T g fo fa):=by
 intro ρ σ H δ st b st' Q l rs e q
 obtain ⟨o,st1,e1,e⟩:=dP e
 split at e
 ·next ht =>
  obtain ⟨as,st2,e2,e⟩:=dP e
  refine ho ρ σ H δ st o st1 _ l rs e1 fun x H1 ρ1 m1 l1 r1=>⟨vA l1 r1 ht,ha ρ1 σ H1 δ st1 as st2 _ l1 (rs.mn m1) e2 fun xs H2 ρ2 m2 l2 r2=>?_⟩
  exact hr ρ2 H2 st2 x xs o as b st' Q l2 (r1.mn m2) r2 e fun v H3 ρ3 m3 l3 r3=>q v H3 ρ3 ((m1.trans m2).trans m3) l3 r3
 ·cases e
def dQ:D->List D->Dm D
 | .ref i,[y],st=>match own st i with
  | some xs=>if lim xs.length=true then some (.non,st.set i (.lst (xs ++ [y]))) else none
  | none=>none
 | _,_,_=>none
theorem vB:FZ K "list" nT dQ:=by
 intro ρ H st x xs a as b st' Q l rx F9 e q
 unfold dQ at e
 split at e
 ·split at e
  ·next ys hy =>
   split at e
   ·next hl =>
    cases e
    obtain ⟨v,rfl,r⟩:=F9.one'
    cases rx with
    | ref hi =>
     obtain ⟨vs,e1,r1⟩:=l.obj _ _ _ hi (pT hy)
     obtain ⟨l2,m2⟩:=l.putL hi (pT hy) (r1.append (.one r))
     exact ⟨_,vs,v,rfl,rfl,e1,by rw [r1.length];exact F0 hl,q _ _ ρ m2 l2 .non⟩
   ·cases e
  ·cases e
 ·cases e
def mh:D->List D->Dm D
 | .ref i,[.ref j],st=>match own st i,own st j with
  | some xs,some ys=>if lim (xs.length + ys.length)=true then some (.non,st.set i (.lst (xs ++ ys))) else none
  | _,_=>none
 | _,_,_=>none
def kh:D->List D->Dm D
 | .ref i,[.int k],st=>match own st i with
  | some xs=>if decide (-9223372036854775808<=k/\k < 9223372036854775808)=true then match seqIndex? k xs.length with
    | some j=>match xs[j]? with
     | some y=>some (y,st.set i (.lst (xs.eraseIdx j)))
     | none=>none
    | none=>none
   else none
  | none=>none
 | _,_,_=>none
theorem Oh:FZ K "list" pd kh:=by
 intro ρ H st x xs a as b st' Q l rx F9 e q
 unfold kh at e
 split at e
 ·split at e
  ·next ys hy =>
   split at e
   ·next hk =>
    split at e
    ·next j hj =>
     split at e
     ·next y hy' =>
      cases e
      obtain ⟨v,rfl,r⟩:=F9.one'
      cases r
      cases rx with
      | ref hi =>
       obtain ⟨vs,e1,r1⟩:=l.obj _ _ _ hi (pT hy)
       obtain ⟨w,hw,rw'⟩:=r1.got hy'
       obtain ⟨l2,m2⟩:=l.putL hi (pT hy) (r1.erase j)
       have hk:=of_decide_eq_true hk
       exact ⟨_,vs,_,j,w,rfl,rfl,e1,by omega,by omega,by rw [r1.length];exact hj,hw,q _ _ ρ m2 l2 (rw'.mn m2)⟩
     ·cases e
    ·cases e
   ·cases e
  ·cases e
 ·cases e
def nI:D->List D->Dm D
 | .tup ds,[.int v],st=>match b9 iV ds with
  | some ns=>match ns.findIdx? (fun i=>decide (i=v)) with
   | some j=>some (.int (j:Int),st)
   | none=>none
  | none=>none
 | _,_,_=>none
def Am (st:Store):D->Option String
 | .non=>some "NoneType"
 | .bl _=>some "bool"
 | .int _=>some "int"
 | .str _=>some "str"
 | .tup _=>some "tuple"
 | .ref i=>match st[i]? with
  | some (.lst _)=>some "list"
  | some (.dct _)=>some "dict"
  | _=>none
 | .ty _=>none
def mj:List D->Dm D
 | [a,.ty c],st=>match Am st a with
  | some T=>if T=c then some (.bl true,st) else none
  | none=>none
 | _,_=>none
end
end L4
namespace L4
open PySem PySem.Spec L2
section
variable {K:PySem.W.Frag}
theorem J2:kT K za pV:=by
 intro ρ H st x y a c b st' Q l rx ry e q
 unfold pV at e
 split at e
 ·split at e
  ·next ds hd =>
   split at e
   ·next ok =>
    cases e
    rw [Bool.and_eq_true,decide_eq_true_eq] at ok
    cases ry
    cases rx with
    | ref hi =>
     obtain ⟨vs,e1,r1⟩:=l.obj _ _ _ hi (pT hd)
     exact ⟨_,_,vs,rfl,rfl,e1,by omega,by omega,by rw [r1.length];exact Ac ok.2,fun p hp=>q _ _ _ (Mn.new hp) (l.newL hp (r1.flat _)) (.ref (newR l))⟩
   ·cases e
  ·cases e
 ·cases e
theorem Rs.set {ρ:List Addr} {H:Hp} {σ:St} {δ:ai} {v:V} {d:D} {i:Nat} (h:Rs K ρ H σ δ) (r:Rp K ρ H v d):Rs K ρ H (σ.set i (some v)) (δ.set i (some d)):=by
 refine ⟨by rw [List.length_set,List.length_set];exact h.1,fun j e hj=>?_⟩
 by_cases hij:i=j
 ·subst hij
  have hl:i < δ.length:=by
   have:=(List.getElem?_eq_some_iff.mp hj).1
   rwa [List.length_set] at this
  rw [List.getElem?_set_self hl] at hj
  cases hj
  exact ⟨v,by rw [List.getElem?_set_self (by rw [h.1];exact hl)],r⟩
 ·rw [List.getElem?_set_ne hij] at hj
  obtain ⟨w,hw,rw'⟩:=h.2 j e hj
  exact ⟨w,by rw [List.getElem?_set_ne hij];exact hw,rw'⟩
def vC (K:PySem.W.Frag) (g:TG) (f:D->ai->Dm ai):Prop :=
 ∀ (ρ:List Addr) (σ:St) (H:Hp) (δ:ai) (st:Store) (v:V) (d:D) (δ':ai) (st':Store) (Q:St->Hp->Prop),Rl K ρ H st->Rs K ρ H σ δ->Rp K ρ H v d->f d δ st=some (δ',st') ->
  (∀ σ' H' ρ',Mn K ρ H ρ' H'->Rl K ρ' H' st'->Rs K ρ' H' σ' δ'->Q σ' H')->g v σ H Q
def rn (K:PySem.W.Frag) (g:o5) (f:List D->ai->Dm ai):Prop :=
 ∀ (ρ:List Addr) (σ:St) (H:Hp) (δ:ai) (st:Store) (v:List V) (d:List D) (δ':ai) (st':Store) (Q:St->Hp->Prop),Rl K ρ H st->Rs K ρ H σ δ->cw K ρ H v d->f d δ st=some (δ',st') ->
  (∀ σ' H' ρ',Mn K ρ H ρ' H'->Rl K ρ' H' st'->Rs K ρ' H' σ' δ'->Q σ' H')->g v σ H Q
def hName (i:Nat):D->ai->Dm ai:=fun d δ st=>some (δ.set i (some d),st)
theorem bC (i:Nat):vC K (mK i) (hName i):=by
 intro ρ σ H δ st v d δ' st' Q l rs r e q
 cases e
 exact q _ H ρ .refl l (rs.set r)
def mY:List D->ai->Dm ai
 | [],δ,st=>some (δ,st)
 | _,_,_=>none
def fF (f:D->ai->Dm ai) (g:List D->ai->Dm ai):List D->ai->Dm ai
 | d :: ds,δ,st=>bnd (f d δ st) fun δ1 st1=>g ds δ1 st1
 | _,_,_=>none
theorem An:rn K yD mY:=by
 intro ρ σ H δ st v d δ' st' Q l rs r e q
 cases r with
 | nil=>cases e;exact ⟨rfl,q _ H ρ .refl l rs⟩
 | cons a b=>cases e
theorem qq {t:TG} {u:o5} {f:D->ai->Dm ai} {g:List D->ai->Dm ai} (hf:vC K t f) (hg:rn K u g):rn K (rK t u) (fF f g):=by
 intro ρ σ H δ st v d δ' st' Q l rs r e q
 cases r with
 | nil=>cases e
 | cons a b =>
  obtain ⟨δ1,st1,e1,e⟩:=dP e
  exact ⟨_,_,rfl,hf ρ σ H δ st _ _ δ1 st1 _ l rs a e1 fun σ1 H1 ρ1 m1 l1 r1=>hg ρ1 σ1 H1 δ1 st1 _ _ δ' st' Q l1 r1 (b.mn m1) e fun σ2 H2 ρ2 m2 l2 r2=>q σ2 H2 ρ2 (m1.trans m2) l2 r2⟩
def ml (n:Nat) (f:List D->ai->Dm ai):D->ai->Dm ai
 | .tup ds,δ,st=>if ds.length=n then f ds δ st else none
 | _,_,_=>none
theorem Ao {n:Nat} {t:o5} {f:List D->ai->Dm ai} (hf:rn K t f):vC K (uq K n t) (ml n f):=by
 intro ρ σ H δ st v d δ' st' Q l rs r e q
 cases r <;> first | (cases e;done) | skip
 ·next s r =>
  simp only [ml] at e
  split at e
  ·next hl=>exact ⟨_,_,rfl,s,by rw [r.length];exact hl,hf ρ σ H δ st _ _ δ' st' Q l rs r e q⟩
  ·cases e
def hSub (fo fi:ai->Dm D):D->ai->Dm ai:=fun d δ st=>bnd (fo δ st) fun o st1=>bnd (fi δ st1) fun i st2=>match o,i with
 | .ref r,.int k=>match own st2 r with
  | some xs=>match kI xs.length k with
   | some j=>some (δ,st2.set r (.lst (xs.set j d)))
   | none=>none
  | none=>none
 | _,_=>none
theorem xS {to ti:TE} {fo fi:ai->Dm D} (ho:fD K to fo) (hi:fD K ti fi):vC K (L2.lH to ti rZ) (hSub fo fi):=by
 intro ρ σ H δ st v d δ' st' Q l rs r e q
 obtain ⟨o,st1,e1,e⟩:=dP e
 obtain ⟨i,st2,e2,e⟩:=dP e
 refine ho ρ σ H δ st o st1 _ l rs e1 fun x H1 ρ1 m1 l1 r1=>hi ρ1 σ H1 δ st1 i st2 _ l1 (rs.mn m1) e2 fun y H2 ρ2 m2 l2 r2=>?_
 split at e
 ·split at e
  ·next xs hx =>
   split at e
   ·next j hj =>
    cases e
    cases r2
    cases r1 with
    | ref hr =>
     have hr2:=m2.r _ _ hr
     obtain ⟨vs,e3,r3⟩:=l2.obj _ _ _ hr2 (pT hx)
     obtain ⟨l3,m3⟩:=l2.putL hr2 (pT hx) (r3.set (r.mn (m1.trans m2)) j)
     exact ⟨_,vs,_,j,rfl,rfl,e3,by rw [r3.length];exact hj,q σ _ ρ2 ((m1.trans m2).trans m3) l3 (rs.mn ((m1.trans m2).trans m3))⟩
   ·cases e
  ·cases e
 ·cases e
def Go (K:PySem.W.Frag) (ρ:List Addr) (H:Hp) (st':Store) (E:Ends):Fl->Prop
 | .nx δ=>∀ σ' H' ρ',Mn K ρ H ρ' H'->Rl K ρ' H' st'->Rs K ρ' H' σ' δ->E.nx σ' H'
 | .bk δ=>∀ σ' H' ρ',Mn K ρ H ρ' H'->Rl K ρ' H' st'->Rs K ρ' H' σ' δ->E.bk σ' H'
 | .ct δ=>∀ σ' H' ρ',Mn K ρ H ρ' H'->Rl K ρ' H' st'->Rs K ρ' H' σ' δ->E.ct σ' H'
 | .rt d=>∀ v H' ρ',Mn K ρ H ρ' H'->Rl K ρ' H' st'->Rp K ρ' H' v d->E.rt v H'
theorem Go.mn {ρ ρ1:List Addr} {H H1:Hp} {st':Store} {E:Ends} {fl:Fl} (g:Go K ρ H st' E fl) (m:Mn K ρ H ρ1 H1):Go K ρ1 H1 st' E fl:=by
 cases fl <;> exact fun v H' ρ' m' l r=>g v H' ρ' (m.trans m') l r
def mH (K:PySem.W.Frag) (t:TS) (f:ai->Dm Fl):Prop :=
 ∀ (ρ:List Addr) (σ:St) (H:Hp) (δ:ai) (st:Store) (fl:Fl) (st':Store) (E:Ends),Rl K ρ H st->Rs K ρ H σ δ->f δ st=some (fl,st')->Go K ρ H st' E fl->t E σ H
def cf:ai->Dm Fl:=fun δ st=>some (.nx δ,st)
theorem kU:mH K rH cf:=by
 intro ρ σ H δ st fl st' E l rs e g
 cases e
 exact g σ H ρ .refl l rs
def aF (f g:ai->Dm Fl):ai->Dm Fl:=fun δ st=>bnd (f δ st) fun fl st1=>match fl with
 | .nx δ1=>g δ1 st1
 | x=>some (x,st1)
theorem bF {t u:TS} {f g:ai->Dm Fl} (hf:mH K t f) (hg:mH K u g):mH K (yy t u) (aF f g):=by
 intro ρ σ H δ st fl st' E l rs e q
 obtain ⟨x,st1,e1,e⟩:=dP e
 refine hf ρ σ H δ st x st1 _ l rs e1 ?_
 cases x with
 | nx δ1=>exact fun σ1 H1 ρ1 m1 l1 r1=>hg ρ1 σ1 H1 δ1 st1 fl st' E l1 r1 e (q.mn m1)
 | bk δ1=>cases e;exact q
 | ct δ1=>cases e;exact q
 | rt d=>cases e;exact q
theorem ki {c:TT} {t u:TS} {fc:ai->Dm Bool} {f g:ai->Dm Fl} (hc:og K c fc) (hf:mH K t f) (hg:mH K u g):mH K (yA c t u) (jr fc f g):=by
 intro ρ σ H δ st fl st' E l rs e q
 obtain ⟨a,st1,e1,e⟩:=dP e
 refine hc ρ σ H δ st _ _ _ l rs e1 fun x H1 ρ1 m1 l1 r1=>?_
 subst r1
 cases x with
 | true =>
  refine oH ?_
  rw [if_pos rfl] at e
  exact hf ρ1 σ H1 δ st1 fl st' E l1 (rs.mn m1) e (q.mn m1)
 | false =>
  refine oG ?_
  rw [if_neg Bool.false_ne_true] at e
  exact hg ρ1 σ H1 δ st1 fl st' E l1 (rs.mn m1) e (q.mn m1)
def jk (f:ai->Dm D):ai->Dm Fl:=fun δ st=>bnd (f δ st) fun _ st1=>some (.nx δ,st1)
theorem vD {t:TE} {f:ai->Dm D} (hf:fD K t f):mH K (rJ t) (jk f):=by
 intro ρ σ H δ st fl st' E l rs e q
 obtain ⟨a,st1,e1,e⟩:=dP e
 cases e
 exact hf ρ σ H δ st a _ _ l rs e1 fun x H1 ρ1 m1 l1 r1=>q σ H1 ρ1 m1 l1 (rs.mn m1)
def bh (f:ai->Dm D):ai->Dm Fl:=fun δ st=>bnd (f δ st) fun d st1=>some (.rt d,st1)
theorem d0 {t:TE} {f:ai->Dm D} (hf:fD K t f):mH K (yz t) (bh f):=by
 intro ρ σ H δ st fl st' E l rs e q
 obtain ⟨a,st1,e1,e⟩:=dP e
 cases e
 exact hf ρ σ H δ st a _ _ l rs e1 fun x H1 ρ1 m1 l1 r1=>q x H1 ρ1 m1 l1 r1
def aM (f:ai->Dm D) (h:D->ai->Dm ai):ai->Dm Fl:=fun δ st=>bnd (f δ st) fun d st1=>bnd (h d δ st1) fun δ1 st2=>some (.nx δ1,st2)
theorem ck {t:TE} {g:TG} {f:ai->Dm D} {h:D->ai->Dm ai} (hf:fD K t f) (hh:vC K g h):mH K (qF t g) (aM f h):=by
 intro ρ σ H δ st fl st' E l rs e q
 obtain ⟨a,st1,e1,e⟩:=dP e
 obtain ⟨δ1,st2,e2,e⟩:=dP e
 cases e
 exact hf ρ σ H δ st a st1 _ l rs e1 fun x H1 ρ1 m1 l1 r1=>hh ρ1 σ H1 δ st1 x a δ1 _ _ l1 (rs.mn m1) r1 e2 fun σ2 H2 ρ2 m2 l2 r2=>q σ2 H2 ρ2 (m1.trans m2) l2 r2
def pY (i j:Nat) (fa:ai->Dm (List D)):ai->Dm Fl:=fun δ st=>bnd (fa δ st) fun as st1=>match as with
 | [a,b]=>some (.nx ((δ.set i (some a)).set j (some b)),st1)
 | _=>none
theorem J3 {i j:Nat} {t:TA} {fa:ai->Dm (List D)} (ha:oU K t fa):mH K (yG i j t) (pY i j fa):=by
 intro ρ σ H δ st fl st' E l rs e q
 obtain ⟨as,st1,e1,e⟩:=dP e
 split at e
 ·cases e
  refine ha ρ σ H δ st _ _ _ l rs e1 fun x H1 ρ1 m1 l1 r1=>?_
  obtain ⟨v,w,rfl,r,r'⟩:=r1.two'
  exact ⟨v,w,rfl,q _ H1 ρ1 m1 l1 (((rs.mn m1).set r).set r')⟩
 ·cases e
def e7 (c:ai->Dm Bool) (b:ai->Dm Fl):Nat->ai->Dm Fl
 | 0,_,_=>none
 | n + 1,δ,st=>bnd (c δ st) fun t st1=>if t=true then bnd (b δ st1) fun fl st2=>match fl with
   | .nx δ2=>e7 c b n δ2 st2
   | .ct δ2=>e7 c b n δ2 st2
   | .bk δ2=>some (.nx δ2,st2)
   | .rt d=>some (.rt d,st2)
  else some (.nx δ,st1)
def fuel:Nat:=1000000
def jt (c:ai->Dm Bool) (b:ai->Dm Fl):ai->Dm Fl:=e7 c b fuel
theorem Ap {tc:TT} {tb:TS} {c:ai->Dm Bool} {b:ai->Dm Fl} (hc:og K tc c) (hb:mH K tb b):mH K (o6 tc tb) (jt c b):=by
 intro ρ σ H δ st fl st' E l rs e q
 refine ⟨fun m σ1 H1=>∃ ρ1 δ1 st1,Mn K ρ H ρ1 H1/\Rl K ρ1 H1 st1/\Rs K ρ1 H1 σ1 δ1/\e7 c b m δ1 st1=some (fl,st'),⟨fuel,ρ,δ,st,.refl,l,rs,e⟩,?_⟩
 rintro m σ1 H1 ⟨ρ1,δ1,st1,m1,l1,sW,e1⟩
 cases m with
 | zero=>cases e1
 | succ m =>
  obtain ⟨t,st2,e2,e1⟩:=dP e1
  refine hc ρ1 σ1 H1 δ1 st1 _ _ _ l1 sW e2 fun x H2 ρ2 m2 l2 r2=>?_
  subst r2
  cases x with
  | true =>
   refine oH ?_
   rw [if_pos rfl] at e1
   obtain ⟨f2,st3,e3,e1⟩:=dP e1
   refine ⟨fun σ3 H3=>∃ m',m' < m + 1/\∃ ρ1 δ1 st1,Mn K ρ H ρ1 H3/\Rl K ρ1 H3 st1/\Rs K ρ1 H3 σ3 δ1/\e7 c b m' δ1 st1=some (fl,st'),fun _ _ h=>h,hb ρ2 σ1 H2 δ1 st2 f2 st3 _ l2 (sW.mn m2) e3 ?_⟩
   cases f2 with
   | nx δ3=>exact fun σ3 H3 ρ3 m3 l3 r3=>⟨m,Nat.lt_succ_self m,ρ3,δ3,st3,(m1.trans m2).trans m3,l3,r3,e1⟩
   | ct δ3=>exact fun σ3 H3 ρ3 m3 l3 r3=>⟨m,Nat.lt_succ_self m,ρ3,δ3,st3,(m1.trans m2).trans m3,l3,r3,e1⟩
   | bk δ3=>cases e1;exact q.mn (m1.trans m2)
   | rt d=>cases e1;exact q.mn (m1.trans m2)
  | false =>
   refine oG ?_
   rw [if_neg Bool.false_ne_true] at e1
   cases e1
   exact q.mn (m1.trans m2) σ1 H2 ρ2 .refl l2 (sW.mn m2)
inductive Src where
 | fix (ds:List D) | live (i:Nat) | Oi (i:Nat) | zl (i:Nat) (es:List D) | zr (ds:List D) (i:Nat)
def Src.at:Src->Nat->Store->Option (Option D)
 | .fix ds,i,_=>if i<=ds.length then some ds[i]? else none
 | .live r,i,st=>(items st r).map fun ds=>ds[i]?
 | .Oi r,i,st=>(items st r).bind fun ds=>if i<=ds.length then some (ds.mapIdx fun i d=>D.tup [.int (i:Int),d])[i]? else none
 | .zl r es,i,st=>(items st r).bind fun ds=>if i<=(List.zipWith (fun a b=>D.tup [a,b]) ds es).length then some (List.zipWith (fun a b=>D.tup [a,b]) ds es)[i]? else none
 | .zr ds r,i,st=>(items st r).bind fun es=>if i<=(List.zipWith (fun a b=>D.tup [a,b]) ds es).length then some (List.zipWith (fun a b=>D.tup [a,b]) ds es)[i]? else none
theorem sX {ds:List D} {i:Nat} {st:Store} {o:Option D} (h:Src.at (.fix ds) i st=some o):i<=ds.length/\ds[i]?=o:=by
 simp only [Src.at] at h
 split at h
 ·next hl=>exact ⟨hl,Option.some.inj h⟩
 ·cases h
def Aq (K:PySem.W.Frag) (ρ:List Addr) (H:Hp) (J:It) (S:Src):Prop :=
 ∀ (ρ2:List Addr) (H2:Hp) (st2:Store) (i:Nat),Mn K ρ H ρ2 H2->Rl K ρ2 H2 st2 ->
  (S.at i st2=some none->J.stop i H2)/\∀ d,S.at i st2=some (some d)->J.go i H2/\∀ x H3,J.qG i H2 x H3->Mn K ρ2 H2 ρ2 H3/\Rl K ρ2 H3 st2/\Rp K ρ2 H3 x d
abbrev vE (K:PySem.W.Frag) (t:TI) (f:ai->Dm Src):Prop:=So K (Aq K) t f
def fR (S:Src) (g:D->ai->Dm ai) (b:ai->Dm Fl):Nat->Nat->ai->Dm Fl
 | 0,_,_,_=>none
 | n + 1,i,δ,st=>match S.at i st with
  | none=>none
  | some none=>some (.nx δ,st)
  | some (some d)=>bnd (g d δ st) fun δ1 st1=>bnd (b δ1 st1) fun fl st2=>match fl with
   | .nx δ2=>fR S g b n (i + 1) δ2 st2
   | .ct δ2=>fR S g b n (i + 1) δ2 st2
   | .bk δ2=>some (.nx δ2,st2)
   | .rt d=>some (.rt d,st2)
def fA (fi:ai->Dm Src) (g:D->ai->Dm ai) (b:ai->Dm Fl):ai->Dm Fl:=fun δ st=>bnd (fi δ st) fun S st1=>fR S g b fuel 0 δ st1
theorem mZ {wi:TI} {tg:TG} {tb:TS} {fi:ai->Dm Src} {g:D->ai->Dm ai} {b:ai->Dm Fl} (hi:vE K wi fi) (hg:vC K tg g) (hb:mH K tb b):mH K (yJ wi tg tb) (fA fi g b):=by
 intro ρ σ H δ st fl st' E l rs e q
 obtain ⟨S,j4,e0,e⟩:=dP e
 refine hi ρ σ H δ st S j4 _ l rs e0 fun J H0 ρ0 m0 l0 ok=>?_
 refine ⟨fun i m σ1 H1=>∃ ρ1 δ1 st1,Mn K ρ0 H0 ρ1 H1/\Rl K ρ1 H1 st1/\Rs K ρ1 H1 σ1 δ1/\fR S g b m i δ1 st1=some (fl,st'),⟨fuel,ρ0,δ,j4,.refl,l0,rs.mn m0,e⟩,?_⟩
 rintro i m σ1 H1 ⟨ρ1,δ1,st1,m1,l1,sW,e1⟩
 cases m with
 | zero=>cases e1
 | succ m =>
  obtain ⟨hstop,hgo⟩:=ok ρ1 H1 st1 i m1 l1
  unfold fR at e1
  split at e1
  ·cases e1
  ·next hs=>cases e1;exact .inl ⟨hstop hs,q.mn (m0.trans m1) σ1 H1 ρ1 .refl l1 sW⟩
  ·next d hs =>
   obtain ⟨δ2,st2,e2,e1⟩:=dP e1
   obtain ⟨f3,st3,e3,e1⟩:=dP e1
   obtain ⟨go,qG⟩:=hgo d hs
   refine .inr ⟨go,fun σ3 H3=>∃ m',m' < m + 1/\∃ ρ1 δ1 st1,Mn K ρ0 H0 ρ1 H3/\Rl K ρ1 H3 st1/\Rs K ρ1 H3 σ3 δ1/\fR S g b m' (i + 1) δ1 st1=some (fl,st'),fun _ _ h=>h,fun x H2 hy=>?_⟩
   obtain ⟨m2,l2,r2⟩:=qG x H2 hy
   refine hg ρ1 σ1 H2 δ1 st1 x d δ2 st2 _ l2 (sW.mn m2) r2 e2 fun σ4 H4 ρ4 m4 l4 r4=>hb ρ4 σ4 H4 δ2 st2 f3 st3 _ l4 r4 e3 ?_
   have m5:=((m1.trans m2).trans m4)
   cases f3 with
   | nx δ3=>exact fun σ5 H5 ρ5 m6 l5 r5=>⟨m,Nat.lt_succ_self m,ρ5,δ3,st3,m5.trans m6,l5,r5,e1⟩
   | ct δ3=>exact fun σ5 H5 ρ5 m6 l5 r5=>⟨m,Nat.lt_succ_self m,ρ5,δ3,st3,m5.trans m6,l5,r5,e1⟩
   | bk δ3=>cases e1;exact q.mn (m0.trans m5)
   | rt d=>cases e1;exact q.mn (m0.trans m5)
def iA (fa:ai->Dm D):ai->Dm Src:=fun δ st=>bnd (fa δ st) fun a st1=>match a with
 | .tup ds=>some (.fix ds,st1)
 | _=>none
theorem sY {t:TE} {fa:ai->Dm D} (ha:fD K t fa):vE K (yI K t) (iA fa):=by
 intro ρ σ H δ st S st' Q l rs e q
 obtain ⟨a,st1,e1,e⟩:=dP e
 cases a <;> simp at e
 obtain ⟨rfl,rfl⟩:=e
 refine ha ρ σ H δ st _ _ _ l rs e1 fun x H1 ρ1 m1 l1 r1=>?_
 cases r1 with
 | tup s r =>
  refine ⟨_,rfl,⟨_,s⟩,q _ H1 ρ1 m1 l1 fun ρ2 H2 st2 i m2 l2=>⟨fun h=>?_,fun d h=>?_⟩⟩
  ·exact ⟨_,m2.t _ _ s,by rw [r.length];exact List.getElem?_eq_none_iff.mp (sX h).2⟩
  ·obtain ⟨v,hv,rv⟩:=r.got (sX h).2
   refine ⟨⟨_,v,m2.t _ _ s,hv⟩,fun x H3 y=>?_⟩
   obtain ⟨rfl,hx⟩:=y
   have:=hx _ (m2.t _ _ s)
   rw [hv] at this
   cases this
   exact ⟨.refl,l2,rv.mn m2⟩
def kj (fa:ai->Dm D):ai->Dm Src:=fun δ st=>bnd (fa δ st) fun a st1=>match a with
 | .ref i=>match items st1 i with
  | some _=>some (.live i,st1)
  | none=>none
 | _=>none
theorem Ga {t:TE} {fa:ai->Dm D} (ha:fD K t fa):vE K (rL K t) (kj fa):=by
 intro ρ σ H δ st S st' Q l rs e q
 obtain ⟨a,st1,e1,e⟩:=dP e
 split at e
 ·next k =>
  split at e
  ·next ds hd =>
   cases e
   refine ha ρ σ H δ st _ _ _ l rs e1 fun x H1 ρ1 m1 l1 r1=>?_
   cases r1 with
   | ref hi =>
    obtain ⟨vs,s,r⟩:=l1.items hi hd
    refine ⟨_,rfl,⟨_,s⟩,q _ H1 ρ1 m1 l1 fun ρ2 H2 st2 i m2 l2=>⟨fun h=>?_,fun d h=>?_⟩⟩
    ·obtain ⟨Oj,hd2,h⟩:=Option.map_eq_some_iff.mp h
     obtain ⟨J4,s2,r2⟩:=l2.items (m2.r _ _ hi) hd2
     exact ⟨J4,s2,by rw [r2.length];exact List.getElem?_eq_none_iff.mp h⟩
    ·obtain ⟨Oj,hd2,h⟩:=Option.map_eq_some_iff.mp h
     obtain ⟨J4,s2,r2⟩:=l2.items (m2.r _ _ hi) hd2
     obtain ⟨v,hv,rv⟩:=r2.got h
     refine ⟨⟨_,v,s2,hv⟩,fun x H3 y=>?_⟩
     obtain ⟨rfl,hx⟩:=y
     have:=hx _ s2
     rw [hv] at this
     cases this
     exact ⟨.refl,l2,rv⟩
  ·cases e
 ·cases e
def dz (fa:ai->Dm (List D)):ai->Dm Src:=fun δ st=>bnd (fa δ st) fun as st1=>match as with
 | [.int j]=>if decide (-4611686018427387904<=j/\j < 4611686018427387904)=true then some (.fix (aI 0 j.toNat),st1) else none
 | _=>none
def pZ (fa:ai->Dm (List D)):ai->Dm Src:=fun δ st=>bnd (fa δ st) fun as st1=>match as with
 | [.int i,.int j]=>if decide ((-4611686018427387904<=i/\i < 4611686018427387904)/\-4611686018427387904<=j/\j < 4611686018427387904)=true then some (.fix (aI i (j - i).toNat),st1) else none
 | _=>none
theorem jl (lo:Int) (n:Nat):(aI lo n).length=n:=by simp [aI]
theorem Ar {lo:Int} {n k:Nat} (h:k < n):(aI lo n)[k]?=some (.int (lo + k)):=by simp [aI,h]
theorem vF {ρ:List Addr} {H:Hp} (lo:Int) (n:Nat):Aq K ρ H (Ck lo n) (.fix (aI lo n)):=by
 intro ρ2 H2 st2 i m2 l2
 refine ⟨fun h=>?_,fun d h=>?_⟩
 ·have:=List.getElem?_eq_none_iff.mp (sX h).2
  rw [jl] at this
  exact this
 ·have h:=(sX h).2
  have hl:=(List.getElem?_eq_some_iff.mp h).1
  rw [jl] at hl
  rw [Ar hl] at h
  cases h
  refine ⟨hl,fun x H3 y=>?_⟩
  obtain ⟨rfl,rfl⟩:=y
  exact ⟨.refl,l2,.int _⟩
theorem qr {t:TA} {fa:ai->Dm (List D)} (ha:oU K t fa):vE K (rN t) (dz fa):=by
 intro ρ σ H δ st S st' Q l rs e q
 obtain ⟨as,st1,e1,e⟩:=dP e
 split at e
 ·split at e
  ·next ok =>
   cases e
   have ok:=of_decide_eq_true ok
   refine ha ρ σ H δ st _ _ _ l rs e1 fun x H1 ρ1 m1 l1 r1=>?_
   obtain ⟨v,rfl,r⟩:=r1.one'
   cases r
   exact ⟨_,rfl,by omega,by omega,q _ H1 ρ1 m1 l1 (vF 0 _)⟩
  ·cases e
 ·cases e
def kE (ds:List D):List D:=ds.mapIdx fun i d=>.tup [.int (i:Int),d]
theorem As (ds:List D):(kE ds).length=ds.length:=by simp [kE]
theorem Gb {ds:List D} {i:Nat} {x:D} (h:(kE ds)[i]?=some x):∃ d,ds[i]?=some d/\x=.tup [.int (i:Int),d]:=by
 unfold kE at h
 rw [List.getElem?_mapIdx] at h
 obtain ⟨d,h1,h2⟩:=Option.map_eq_some_iff.mp h
 exact ⟨d,h1,h2.symm⟩
def lr (fa:ai->Dm (List D)):ai->Dm Src:=fun δ st=>bnd (fa δ st) fun as st1=>match as with
 | [.tup ds]=>some (.fix (kE ds),st1)
 | _=>none
theorem J5 {t:TA} {fa:ai->Dm (List D)} (ha:oU K t fa):vE K (sm K t) (lr fa):=by
 intro ρ σ H δ st S st' Q l rs e q
 obtain ⟨as,st1,e1,e⟩:=dP e
 split at e
 ·cases e
  refine ha ρ σ H δ st _ _ _ l rs e1 fun x H1 ρ1 m1 l1 r1=>?_
  obtain ⟨v,rfl,r⟩:=r1.one'
  cases r with
  | tup s r =>
   refine ⟨_,rfl,⟨_,s⟩,q _ H1 ρ1 m1 l1 fun ρ2 H2 st2 i m2 l2=>⟨fun h=>?_,fun d h=>?_⟩⟩
   ·obtain ⟨h1,h2⟩:=sX h
    have h2:=List.getElem?_eq_none_iff.mp h2
    rw [As] at h1 h2
    exact ⟨_,m2.t _ _ s,by rw [r.length];omega⟩
   ·obtain ⟨h1,h2⟩:=sX h
    obtain ⟨d',hd',rfl⟩:=Gb h2
    obtain ⟨v,hv,rv⟩:=r.got hd'
    refine ⟨⟨_,v,m2.t _ _ s,hv⟩,fun x H3 y=>?_⟩
    obtain ⟨p,z,rfl,hp,rfl,hx⟩:=y
    have:=hx _ (m2.t _ _ s)
    rw [hv] at this
    cases this
    have m3:Mn K ρ2 H2 ρ2 (upd H2 p (.tup [.int (i:Int),v])):=Mn.same (h9.up hp)
    exact ⟨m3,l2.same (h9.up hp),.tup (eN.of oR) (.cons (.int _) (.one ((rv.mn m2).mn m3)))⟩
 ·cases e
def gD (S:Src) (g:D->ai->Dm ai) (tc:ai->Dm Bool) (te:ai->Dm D):Nat->Nat->List D->ai->Dm (List D)
 | 0,_,_,_,_=>none
 | n + 1,i,ys,δ,st=>if lim ys.length=true then match S.at i st with
  | none=>none
  | some none=>some (ys,st)
  | some (some d)=>bnd (g d δ st) fun δ1 st1=>bnd (tc δ1 st1) fun t st2=>if t=true then bnd (te δ1 st2) fun y st3=>gD S g tc te n (i + 1) (ys ++ [y]) δ1 st3 else gD S g tc te n (i + 1) ys δ1 st2
  else none
def nc (n:Nat) (js:List Nat) (δ:ai):ai:=List.replicate n none ++ js.map fun j=>δ.getD j none
def e8 (fi:ai->Dm Src) (n:Nat) (js:List Nat) (g:D->ai->Dm ai) (tc:ai->Dm Bool) (te:ai->Dm D):ai->Dm D:=fun δ st=>bnd (fi δ st) fun S st1=>bnd (gD S g tc te fuel 0 [] (nc n js δ) st1) fun ys st2=>some (.ref st2.length,st2 ++ [.lst ys])
theorem Rs.comp {ρ:List Addr} {H:Hp} {σ:St} {δ:ai} (h:Rs K ρ H σ δ) (n:Nat) (js:List Nat):Rs K ρ H (iw n js σ) (nc n js δ):=by
 unfold iw nc
 refine ⟨by simp,fun i d hd=>?_⟩
 by_cases hi:i < n
 ·rw [List.getElem?_append_left (by simpa using hi),List.getElem?_replicate,if_pos hi] at hd
  cases hd
 ·rw [List.getElem?_append_right (by simpa using Nat.le_of_not_lt hi),List.getElem?_map] at hd
  rw [List.getElem?_append_right (by simpa using Nat.le_of_not_lt hi),List.getElem?_map]
  simp only [List.length_replicate] at hd ⊢
  cases hj:js[i - n]? with
  | none=>rw [hj] at hd;cases hd
  | some j =>
   rw [hj] at hd
   have hd:δ.getD j none=some d:=Option.some.inj hd
   rw [List.getD_eq_getElem?_getD] at hd
   have hd':δ[j]?=some (some d):=by
    cases hx:δ[j]? with
    | none=>rw [hx] at hd;cases hd
    | some y=>rw [hx] at hd;exact congrArg some hd
   obtain ⟨v,hv,r⟩:=h.2 j d hd'
   exact ⟨v,by show some (σ.getD j none)=_;rw [List.getD_eq_getElem?_getD,hv];rfl,r⟩
theorem vG {wi:TI} {tg:TG} {tc:TT} {te:TE} {fi:ai->Dm Src} {n:Nat} {js:List Nat} {g:D->ai->Dm ai} {c:ai->Dm Bool} {f:ai->Dm D} (hi:vE K wi fi) (hg:vC K tg g) (hc:og K tc c) (hf:fD K te f):fD K (pk wi n js tg tc te) (e8 fi n js g c f):=by
 intro ρ σ H δ st b st' Q l rs e q
 obtain ⟨S,j4,e0,e⟩:=dP e
 obtain ⟨zs,lV,e9,e⟩:=dP e
 cases e
 refine hi ρ σ H δ st S j4 _ l rs e0 fun J H0 ρ0 m0 l0 ok=>?_
 refine ⟨fun i m ys σ1 H1=>∃ ρ1 δ1 st1 ws,Mn K ρ0 H0 ρ1 H1/\Rl K ρ1 H1 st1/\Rs K ρ1 H1 σ1 δ1/\cw K ρ1 H1 ys ws/\gD S g c f m i ws δ1 st1=some (zs,lV),⟨fuel,ρ0,_,j4,[],.refl,l0,(rs.mn m0).comp n js,.nil,e9⟩,?_⟩
 rintro i m ys σ1 H1 ⟨ρ1,δ1,st1,ws,m1,l1,sW,C6,e1⟩
 cases m with
 | zero=>cases e1
 | succ m =>
  obtain ⟨hstop,hgo⟩:=ok ρ1 H1 st1 i m1 l1
  unfold gD at e1
  split at e1
  ·next hl =>
   refine ⟨by rw [C6.length];exact F0 hl,?_⟩
   split at e1
   ·cases e1
   ·next hs =>
    cases e1
    exact .inl ⟨hstop hs,fun p hp=>q _ _ _ ((m0.trans m1).trans (Mn.new hp)) (l1.newL hp C6) (.ref (newR l1))⟩
   ·next d hs =>
    obtain ⟨δ2,st2,e2,e1⟩:=dP e1
    obtain ⟨t,st3,e3,e1⟩:=dP e1
    obtain ⟨go,qG⟩:=hgo d hs
    refine .inr ⟨go,fun x H2 hy=>?_⟩
    obtain ⟨m2,l2,r2⟩:=qG x H2 hy
    refine hg ρ1 σ1 H2 δ1 st1 x d δ2 st2 _ l2 (sW.mn m2) r2 e2 fun σ4 H4 ρ4 m4 l4 r4=>hc ρ4 σ4 H4 δ2 st2 t st3 _ l4 r4 e3 fun t' H5 ρ5 m5 l5 r5=>?_
    subst r5
    have m6:=(((m1.trans m2).trans m4).trans m5)
    cases t' with
    | true =>
     refine oH ?_
     rw [if_pos rfl] at e1
     obtain ⟨y,xT,e6,e1⟩:=dP e1
     exact hf ρ5 σ4 H5 δ2 st3 y xT _ l5 (r4.mn m5) e6 fun v H7 ρ7 m7 l7 r7=>⟨m,Nat.lt_succ_self m,ρ7,δ2,xT,ws ++ [y],m6.trans m7,l7,r4.mn (m5.trans m7),(C6.mn (((m2.trans m4).trans m5).trans m7)).append (.one r7),e1⟩
    | false =>
     refine oG ?_
     rw [if_neg Bool.false_ne_true] at e1
     exact ⟨m,Nat.lt_succ_self m,ρ5,δ2,st3,ws,m6,l5,r4.mn m5,C6.mn ((m2.trans m4).trans m5),e1⟩
  ·cases e1
def hW:ai->Dm Bool:=fun _ st=>some (true,st)
def fG (n:Nat) (b:ai->Dm Fl):List D->Dm D:=fun ds st=>bnd (b (ds.map some ++ List.replicate (n - ds.length) none) st) fun fl st1=>match fl with
 | .rt d=>some (d,st1)
 | .nx _=>some (.non,st1)
 | _=>none
theorem Rs.start {ρ:List Addr} {H:Hp} {vs:List V} {ds:List D} (r:cw K ρ H vs ds) (N:List Str):Rs K ρ H (start N vs) (ds.map some ++ List.replicate (N.length - ds.length) none):=by
 unfold L2.start
 rw [r.length]
 refine ⟨by simp [r.length],fun i d hd=>?_⟩
 by_cases hi:i < ds.length
 ·rw [List.getElem?_append_left (by simpa using hi),List.getElem?_map] at hd
  rw [List.getElem?_append_left (by rw [List.length_map,r.length];exact hi),List.getElem?_map]
  cases hx:ds[i]? with
  | none=>rw [hx] at hd;cases hd
  | some y =>
   rw [hx] at hd
   cases hd
   obtain ⟨v,hv,rv⟩:=r.got hx
   exact ⟨v,by rw [hv];rfl,rv⟩
 ·rw [List.getElem?_append_right (by simpa using Nat.le_of_not_lt hi),List.getElem?_replicate] at hd
  split at hd <;> cases hd
theorem gn {N:List Str} {k n:Nat} {t:TS} {b:ai->Dm Fl} {vs:List V} {H:Hp} {Q:VK} {E:XK} (hb:mH K t b) (hn:N.length=n) (h:br K k (fG n b) vs H Q E):t { nx:=fun _ H'=>Q .non H',rt:=Q } (start N vs) H:=by
 obtain ⟨hk,ρ,st,ds,d,st',l,r,e,q⟩:=h
 subst hn
 obtain ⟨fl,st1,e1,e⟩:=dP e
 refine hb ρ _ H _ st fl st1 _ l (Rs.start r N) e1 ?_
 cases fl with
 | rt v=>cases e;exact q
 | nx δ=>cases e;exact fun σ' H' ρ' m l' r'=>q .non H' ρ' m l' .non
 | bk δ=>cases e
 | ct δ=>cases e
end
end L4
namespace L4
open PySem PySem.Spec L2
section
variable {X:Cx} {K:PySem.W.Frag}
theorem C7:og K (fun _ H Q=>Q true H) hW:=by
 intro ρ σ H δ st b st' Q l rs e q
 cases e
 exact q _ H ρ .refl l rfl
end
def sZ (K:PySem.W.Frag):Sp:=fun vs H Q _=>∃ (a:Addr) (ns:List Int),vs=[.ref a]/\zf K H a (ns.map V.int)/\ns.length<=63/\∀ H',Q (.bl true) H'
theorem vH {P:Program} {w:World} {K:PySem.W.Frag} {mg:Str->Option Value} {base:Heap} {k:Nat} {f:Addr} {fd:FuncData} {ps:List Str} {F:List D->Dm D} (G:ay P w K mg base bj k f fd ps (br K 1 F))
  (h:∀ ns:List Int,ns.length<=63->∃ st',F [.ref 0] [.oe (ns.map D.int)]=some (.bl true,st')):ay P w K mg base bj k f fd ps (sZ K):=by
 refine G.imp fun vs H Q E hs=>?_
 obtain ⟨a,ns,rfl,hS,hn,q⟩:=hs
 obtain ⟨st',e⟩:=h ns hn
 have one:∀ i (b:Addr),([a]:List Addr)[i]?=some b->i=0/\b=a:=fun i b h=>by
  cases i with
  | zero=>exact ⟨rfl,(Option.some.inj h).symm⟩
  | succ i=>simp at h
 refine ⟨rfl,[a],[.oe (ns.map D.int)],[.ref 0],.bl true,st',⟨rfl,fun i j b o o' h1 h2 _ _ _ _=>by rw [(one i b h1).1,(one j b h2).1],fun i b o h1 h2=>?_⟩,.one (.ref rfl),e,fun v H' ρ' m l r=>by cases r;exact q H'⟩
 obtain ⟨rfl,rfl⟩:=one i b h1
 cases (Option.some.inj h2)
 exact ⟨ns.map V.int,hS,cw.ints ns⟩
def Wp {α:Type} (m:Option (α×Store)) (Q:α->Store->Prop):Prop:=∃ a st,m=some (a,st)/\Q a st
section
variable {α β:Type} {Q Q':α->Store->Prop} {st:Store} {δ:ai}
theorem a7 {m:Option (α×Store)} (h:Wp m Q) (hq:∀ a st,Q a st->Q' a st):Wp m Q':=let ⟨a,st,e,q⟩:=h;⟨a,st,e,hq a st q⟩
theorem bu {a:α}:Wp (some (a,st)) Q↔Q a st:=⟨fun ⟨_,_,e,q⟩=>by cases e;exact q,fun q=>⟨a,st,rfl,q⟩⟩
theorem eO:Wp (none:Option (α×Store)) Q↔False:=⟨fun ⟨_,_,e,_⟩=>(by cases e),False.elim⟩
theorem dw {R:β->Store->Prop} {m:Option (α×Store)} {k:α->Dm β}:Wp (bnd m k) R↔Wp m fun a st1=>Wp (k a st1) R:=by
 cases m with
 | none=>exact ⟨fun ⟨_,_,e,_⟩=>(by cases e),fun ⟨_,_,e,_⟩=>(by cases e)⟩
 | some p=>exact ⟨fun h=>⟨p.1,p.2,rfl,h⟩,fun ⟨a,s,e,h⟩=>by cases e;exact h⟩
theorem mq {c:Prop} [Decidable c] {m n:Option (α×Store)}:Wp (if c then m else n) Q↔if c then Wp m Q else Wp n Q:=by split <;> exact Iff.rfl
end
section
variable {st:Store} {δ:ai} {Q:D->Store->Prop}
theorem vI {i:Nat}:Wp (ag i δ st) Q↔∃ d,δ[i]?=some (some d)/\Q d st:=by
 unfold ag
 split
 ·next d hd=>rw [bu];exact ⟨fun h=>⟨d,hd,h⟩,fun ⟨e,he,h⟩=>by rw [hd] at he;cases he;exact h⟩
 ·next h=>rw [eO];exact ⟨False.elim,fun ⟨e,he,_⟩=>h e he⟩
theorem Gd {d:D}:Wp (fC d δ st) Q↔Q d st:=bu
theorem Au {g:D->D->Dm D} {fa fb:ai->Dm D}:Wp (aC g fa fb δ st) Q↔Wp (fa δ st) fun a st1=>Wp (fb δ st1) fun b st2=>Wp (g a b st2) Q:=by
 unfold aC;rw [dw];simp only [dw]
theorem Av {g:D->Dm D} {fa:ai->Dm D}:Wp (pM g fa δ st) Q↔Wp (fa δ st) fun a st1=>Wp (g a st1) Q:=dw
theorem Aw {g:List D->Dm D} {fa:ai->Dm (List D)}:Wp (aX g fa δ st) Q↔Wp (fa δ st) fun a st1=>Wp (g a st1) Q:=dw
theorem vJ {R:List D->Store->Prop}:Wp (ah δ st) R↔R [] st:=bu
theorem Ol {R:List D->Store->Prop} {fa:ai->Dm D} {fr:ai->Dm (List D)}:Wp (ae fa fr δ st) R↔Wp (fa δ st) fun a st1=>Wp (fr δ st1) fun r st2=>R (a :: r) st2:=by
 unfold ae;rw [dw];simp only [dw,bu]
theorem vK {fa:ai->Dm (List D)}:Wp (cj fa δ st) Q↔Wp (fa δ st) fun as st1=>lim as.length=true/\Q (.tup as) st1:=by
 unfold cj;rw [dw];simp only [mq,bu,eO]
 constructor <;> exact fun h=>a7 h fun a s h=>by first | (split at h;exact ⟨by assumption,h⟩;exact h.elim) | (rw [if_pos h.1];exact h.2)
theorem vL {fa:ai->Dm (List D)}:Wp (d7 fa δ st) Q↔Wp (fa δ st) fun as st1=>lim as.length=true/\Q (.ref st1.length) (st1 ++ [.lst as]):=by
 unfold d7;rw [dw];simp only [mq,bu,eO]
 constructor <;> exact fun h=>a7 h fun a s h=>by first | (split at h;exact ⟨by assumption,h⟩;exact h.elim) | (rw [if_pos h.1];exact h.2)
theorem Om {R:Bool->Store->Prop} {fa:ai->Dm D}:Wp (aT fa δ st) R↔Wp (fa δ st) fun a st1=>∃ b,a=.bl b/\R b st1:=by
 unfold aT;rw [dw]
 constructor <;> refine fun h=>a7 h fun a s h=>?_
 ·cases a <;> simp only [bu,eO] at h
  exact ⟨_,rfl,h⟩
 ·obtain ⟨b,rfl,h⟩:=h
  exact bu.mpr h
theorem vN {R:Bool->Store->Prop} {fa:ai->Dm Bool}:Wp (pN fa δ st) R↔Wp (fa δ st) fun a st1=>R (!a) st1:=by
 unfold pN;rw [dw];simp only [bu]
theorem vO {R:Bool->Store->Prop} {fa fb:ai->Dm Bool}:Wp (rh fa fb δ st) R↔Wp (fa δ st) fun a st1=>if a=true then Wp (fb δ st1) R else R false st1:=by
 unfold rh;rw [dw];simp only [mq,bu]
theorem Ax {R:Bool->Store->Prop} {fa fb:ai->Dm Bool}:Wp (xN fa fb δ st) R↔Wp (fa δ st) fun a st1=>if a=true then R true st1 else Wp (fb δ st1) R:=by
 unfold xN;rw [dw];simp only [mq,bu]
theorem tf {α:Type} {R:α->Store->Prop} {c:ai->Dm Bool} {fa fb:ai->Dm α}:Wp (jr c fa fb δ st) R↔Wp (c δ st) fun a st1=>if a=true then Wp (fa δ st1) R else Wp (fb δ st1) R:=by
 unfold jr;rw [dw];simp only [mq]
theorem Oo {fa fb:ai->Dm D}:Wp (oh fa fb δ st) Q↔Wp (aT fa δ st) fun a st1=>if a=true then Wp (fb δ st1) Q else Q (.bl false) st1:=by
 unfold oh;rw [dw];simp only [mq,bu]
theorem vP {fa fb:ai->Dm D}:Wp (Ad fa fb δ st) Q↔Wp (aT fa δ st) fun a st1=>if a=true then Q (.bl true) st1 else Wp (fb δ st1) Q:=by
 unfold Ad;rw [dw];simp only [mq,bu]
theorem Oq {fa:ai->Dm D}:Wp (sN fa δ st) Q↔Wp (aT fa δ st) fun a st1=>Q (.bl (!a)) st1:=by
 unfold sN;rw [dw];simp only [bu]
theorem Ot {R:Option Int->Store->Prop}:Wp (gC δ st) R↔R none st:=bu
theorem Ou {R:Option Int->Store->Prop} {fa:ai->Dm D}:Wp (kD fa δ st) R↔Wp (fa δ st) fun a st1=>∃ i,a=.int i/\R (some i) st1:=by
 unfold kD;rw [dw]
 constructor <;> refine fun h=>a7 h fun a s h=>?_
 ·cases a <;> simp only [bu,eO] at h
  exact ⟨_,rfl,h⟩
 ·obtain ⟨b,rfl,h⟩:=h
  exact bu.mpr h
theorem Ay {g:D->Option Int->Option Int->Dm D} {fa:ai->Dm D} {fl fh:ai->Dm (Option Int)}:Wp (sO g fa fl fh δ st) Q↔Wp (fa δ st) fun a st1=>Wp (fl δ st1) fun lo st2=>Wp (fh δ st2) fun hi st3=>Wp (g a lo hi st3) Q:=by
 unfold sO;rw [dw];simp only [dw]
theorem Az {T:String} {g:D->List D->Dm D} {fo:ai->Dm D} {fa:ai->Dm (List D)}:Wp (pX T g fo fa δ st) Q↔Wp (fo δ st) fun o st1=>xR T st1 o=true/\Wp (fa δ st1) fun as st2=>Wp (g o as st2) Q:=by
 unfold pX;rw [dw];simp only [mq,dw,eO]
 constructor <;> exact fun h=>a7 h fun a s h=>by first | (split at h;exact ⟨by assumption,h⟩;exact h.elim) | (rw [if_pos h.1];exact h.2)
variable {i j:Int} {ds es:List D} {k:Nat}
theorem vQ:Wp (dE (.int i) (.int j) st) Q↔Q (.int (i + j)) st:=bu
theorem vR:Wp (lH (.int i) (.int j) st) Q↔Q (.int (i - j)) st:=bu
theorem AA:Wp (C0 (.int i) (.int j) st) Q↔Q (.bl (decide (i < j))) st:=bu
theorem AB:Wp (N9 (.int i) (.int j) st) Q↔Q (.bl (decide (i<=j))) st:=bu
theorem AE:Wp (Ai (.int i) (.int j) st) Q↔Q (.bl (decide (j < i))) st:=bu
theorem AF:Wp (F5 (.int i) (.int j) st) Q↔Q (.bl (decide (j<=i))) st:=bu
theorem vS:Wp (lL (.int i) st) Q↔Q (.int (-i)) st:=bu
theorem xU {c:Int->Int->Bool} {h:Int->Int->D}:Wp (rj c h (.int i) (.int j) st) Q↔c i j=true/\Q (h i j) st:=by
 show Wp (if c i j=true then some (h i j,st) else none) Q↔_
 rw [mq,bu,eO]
 split
 ·next h=>exact ⟨fun q=>⟨h,q⟩,fun q=>q.2⟩
 ·next h=>exact ⟨False.elim,fun q=>h q.1⟩
theorem vT:Wp (kf (.int i) (.int j) st) Q↔((-18446744073709551616 < i/\i < 18446744073709551616)\/(-18446744073709551616 < j/\j < 18446744073709551616))/\Q (.int (i * j)) st:=by
 unfold kf;rw [xU,Bool.or_eq_true,decide_eq_true_eq,decide_eq_true_eq]
theorem Ov:Wp (mU (.int i) (.int j) st) Q↔(0 < j/\j < 1073741824)/\Q (.int (i / j)) st:=by unfold mU;rw [xU,decide_eq_true_eq]
theorem vU:Wp (kg (.int i) (.int j) st) Q↔0 < j/\Q (.int (i % j)) st:=by unfold kg;rw [xU,decide_eq_true_eq]
theorem vV:Wp (pO (.int i) (.int j) st) Q↔(0<=j/\j<=1000000/\i.natAbs < 18446744073709551616)/\Q (.int (i ^ j.toNat)) st:=by unfold pO;rw [xU,decide_eq_true_eq]
theorem vW {neg:Bool}:Wp (kM neg (.int i) (.int j) st) Q↔Q (.bl (if neg then !decide (i=j) else decide (i=j))) st:=by
 have e:decide (V.int i=V.int j)=decide (i=j):=by
  by_cases h:i=j
  ·subst h;simp
  ·simp [h]
 show Wp (if nC (V.int i) (V.int j)=true then some (D.bl (if neg then !decide (V.int i=V.int j) else decide (V.int i=V.int j)),st) else none) Q↔_
 rw [if_pos (show nC _ _=true from rfl),bu,e]
theorem vX {neg:Bool} {x y:Str}:Wp (kM neg (.str x) (.str y) st) Q↔Q (.bl (if neg then !decide (x=y) else decide (x=y))) st:=by
 have e:decide (V.str x=V.str y)=decide (x=y):=by
  by_cases h:x=y
  ·subst h;simp
  ·simp [h]
 show Wp (if nC (V.str x) (V.str y)=true then some (D.bl (if neg then !decide (V.str x=V.str y) else decide (V.str x=V.str y)),st) else none) Q↔_
 rw [if_pos (show nC _ _=true from rfl),bu,e]
theorem vY:Wp (aR (.tup ds) (.int i) st) Q↔∃ d,iu ds i=some d/\Q d st:=by
 show Wp (match iu ds i with | some d=>some (d,st) | none=>none) Q↔_
 cases iu ds i with
 | none=>rw [eO];exact ⟨False.elim,fun ⟨_,e,_⟩=>by cases e⟩
 | some d=>rw [bu];exact ⟨fun q=>⟨d,rfl,q⟩,fun ⟨_,e,q⟩=>by cases e;exact q⟩
theorem vZ:Wp (iz (.ref k) (.int i) st) Q↔∃ ds d,items st k=some ds/\iu ds i=some d/\Q d st:=by
 show Wp (match items st k with | some ds=>(match iu ds i with | some d=>some (d,st) | none=>none) | none=>none) Q↔_
 cases items st k with
 | none=>rw [eO];exact ⟨False.elim,fun ⟨_,_,e,_⟩=>by cases e⟩
 | some ds =>
  show Wp (match iu ds i with | some d=>some (d,st) | none=>none) Q↔_
  cases h:iu ds i with
  | none=>rw [eO];exact ⟨False.elim,fun ⟨_,_,e,e',_⟩=>by cases e;rw [h] at e';cases e'⟩
  | some d=>rw [bu];exact ⟨fun q=>⟨ds,d,rfl,h,q⟩,fun ⟨_,_,e,e',q⟩=>by cases e;rw [h] at e';cases e';exact q⟩
theorem v9 {lo hi:Option Int}:Wp (pQ (.tup ds) lo hi st) Q↔Q (.tup (cutD ds lo hi)) st:=bu
theorem wa {lo hi:Option Int}:Wp (pR (.ref k) lo hi st) Q↔∃ ds,items st k=some ds/\Q (.ref st.length) (st ++ [.lst (cutD ds lo hi)]):=by
 show Wp (match items st k with | some ds=>some (D.ref st.length,st ++ [O.lst (cutD ds lo hi)]) | none=>none) Q↔_
 cases items st k with
 | none=>rw [eO];exact ⟨False.elim,fun ⟨_,e,_⟩=>by cases e⟩
 | some ds=>rw [bu];exact ⟨fun q=>⟨ds,rfl,q⟩,fun ⟨_,e,q⟩=>by cases e;exact q⟩
theorem Ow:Wp (fE (.tup ds) (.tup es) st) Q↔lim (ds.length + es.length)=true/\Q (.tup (ds ++ es)) st:=by
 show Wp (if lim (ds.length + es.length)=true then some (D.tup (ds ++ es),st) else none) Q↔_
 rw [mq,bu,eO]
 split
 ·next h=>exact ⟨fun q=>⟨h,q⟩,fun q=>q.2⟩
 ·next h=>exact ⟨False.elim,fun q=>h q.1⟩
theorem wb {a b:Nat}:Wp (lN (.ref a) (.ref b) st) Q↔∃ xs ys,own st a=some xs/\own st b=some ys/\lim (xs.length + ys.length)=true/\Q (.ref st.length) (st ++ [.lst (xs ++ ys)]):=by
 show Wp (match own st a,own st b with | some xs,some ys=>if lim (xs.length + ys.length)=true then some (D.ref st.length,st ++ [O.lst (xs ++ ys)]) else none | _,_=>none) Q↔_
 cases ha:own st a <;> cases hb:own st b
 ·simp only [eO];exact ⟨False.elim,fun ⟨_,_,e,_⟩=>by cases e⟩
 ·simp only [eO];exact ⟨False.elim,fun ⟨_,_,e,_⟩=>by cases e⟩
 ·simp only [eO];exact ⟨False.elim,fun ⟨_,_,_,e,_⟩=>by cases e⟩
 ·next xs ys =>
  show Wp (if lim (xs.length + ys.length)=true then some (D.ref st.length,st ++ [O.lst (xs ++ ys)]) else none) Q↔_
  rw [mq,bu,eO]
  split
  ·next h=>exact ⟨fun q=>⟨_,_,rfl,rfl,h,q⟩,fun ⟨_,_,e,e',_,q⟩=>by cases e;cases e';exact q⟩
  ·next h=>exact ⟨False.elim,fun ⟨_,_,e,e',q,_⟩=>by cases e;cases e';exact h q⟩
theorem wc {a:D}:Wp (gk [a] st) Q↔∃ ds,dj st a=some ds/\Q (.int ds.length) st:=by
 show Wp (match dj st a with | some ds=>some (D.int ds.length,st) | none=>none) Q↔_
 cases dj st a with
 | none=>rw [eO];exact ⟨False.elim,fun ⟨_,e,_⟩=>by cases e⟩
 | some ds=>rw [bu];exact ⟨fun q=>⟨ds,rfl,q⟩,fun ⟨_,e,q⟩=>by cases e;exact q⟩
theorem Ox {a:D}:Wp (lq [a] st) Q↔∃ ds,dj st a=some ds/\Q (.ref st.length) (st ++ [.lst ds]):=by
 show Wp (match dj st a with | some ds=>some (D.ref st.length,st ++ [O.lst ds]) | none=>none) Q↔_
 cases dj st a with
 | none=>rw [eO];exact ⟨False.elim,fun ⟨_,e,_⟩=>by cases e⟩
 | some ds=>rw [bu];exact ⟨fun q=>⟨ds,rfl,q⟩,fun ⟨_,e,q⟩=>by cases e;exact q⟩
theorem Oy {a:D}:Wp (c4 [a] st) Q↔∃ ds,dj st a=some ds/\Q (.tup ds) st:=by
 show Wp (match dj st a with | some ds=>some (D.tup ds,st) | none=>none) Q↔_
 cases dj st a with
 | none=>rw [eO];exact ⟨False.elim,fun ⟨_,e,_⟩=>by cases e⟩
 | some ds=>rw [bu];exact ⟨fun q=>⟨ds,rfl,q⟩,fun ⟨_,e,q⟩=>by cases e;exact q⟩
theorem Oz:Wp (om [.int i,.int j] st) Q↔Q (.int (if j > i then j else i)) st:=bu
theorem OA:Wp (Al [.int i,.int j] st) Q↔Q (.int (if j < i then j else i)) st:=bu
theorem OB:Wp (mX [.int i] st) Q↔Q (.int i) st:=bu
theorem OC {b:Bool}:Wp (mX [.bl b] st) Q↔Q (.int (if b then 1 else 0)) st:=bu
theorem OD:Wp (iT [.int j] st) Q↔Q (.ref st.length) (st ++ [.il 0 j]):=bu
theorem OE:Wp (eA [.int i,.int j] st) Q↔Q (.ref st.length) (st ++ [.il i j]):=bu
theorem OG {y:D}:Wp (dQ (.ref k) [y] st) Q↔∃ xs,own st k=some xs/\lim xs.length=true/\Q .non (st.set k (.lst (xs ++ [y]))):=by
 show Wp (match own st k with | some xs=>if lim xs.length=true then some (D.non,st.set k (O.lst (xs ++ [y]))) else none | none=>none) Q↔_
 cases own st k with
 | none=>rw [eO];exact ⟨False.elim,fun ⟨_,e,_⟩=>by cases e⟩
 | some xs =>
  show Wp (if lim xs.length=true then some (D.non,st.set k (O.lst (xs ++ [y]))) else none) Q↔_
  rw [mq,bu,eO]
  split
  ·next h=>exact ⟨fun q=>⟨_,rfl,h,q⟩,fun ⟨_,e,_,q⟩=>by cases e;exact q⟩
  ·next h=>exact ⟨False.elim,fun ⟨_,e,q,_⟩=>by cases e;exact h q⟩
end
def Ws (m:Option (Fl×Store)) (N B C:ai->Store->Prop) (R:D->Store->Prop):Prop:=Wp m fun fl st=>match fl with
 | .nx δ=>N δ st
 | .bk δ=>B δ st
 | .ct δ=>C δ st
 | .rt d=>R d st
section
variable {st:Store} {δ:ai} {N B C:ai->Store->Prop} {R:D->Store->Prop} {f g:ai->Dm Fl} {e:ai->Dm D}
theorem xV {m:Option (Fl×Store)} {N':ai->Store->Prop} (h:Ws m N B C R) (hn:∀ δ st,N δ st->N' δ st):Ws m N' B C R:=a7 h fun fl st q=>by
 cases fl with
 | nx δ=>exact hn δ st q
 | bk δ=>exact q
 | ct δ=>exact q
 | rt d=>exact q
theorem bD (h:Ws (f δ st) (fun δ1 st1=>Ws (g δ1 st1) N B C R) B C R):Ws (aF f g δ st) N B C R:=by
 unfold Ws aF
 rw [dw]
 refine a7 h fun fl st1 q=>?_
 cases fl with
 | nx δ1=>exact q
 | bk δ1=>exact bu.mpr q
 | ct δ1=>exact bu.mpr q
 | rt d=>exact bu.mpr q
theorem kW (h:N δ st):Ws (cf δ st) N B C R:=bu.mpr h
theorem wg {t:D->ai->Dm ai} (h:Wp (e δ st) fun d st1=>Wp (t d δ st1) N):Ws (aM e t δ st) N B C R:=by
 unfold Ws aM
 rw [dw]
 refine a7 h fun d st1 q=>?_
 rw [dw]
 exact a7 q fun δ1 st2 q=>bu.mpr q
theorem cI {i:Nat} (h:Wp (e δ st) fun d st1=>N (δ.set i (some d)) st1):Ws (aM e (hName i) δ st) N B C R:=wg (a7 h fun d st1 q=>bu.mpr q)
theorem wj (h:Wp (e δ st) fun _ st1=>N δ st1):Ws (jk e δ st) N B C R:=by
 unfold Ws jk
 rw [dw]
 exact a7 h fun d st1 q=>bu.mpr q
theorem eB (h:Wp (e δ st) R):Ws (bh e δ st) N B C R:=by
 unfold Ws bh
 rw [dw]
 exact a7 h fun d st1 q=>bu.mpr q
theorem jP {c:ai->Dm Bool} (h:Wp (c δ st) fun b st1=>(b=true->Ws (f δ st1) N B C R)/\(b=false->Ws (g δ st1) N B C R)):Ws (jr c f g δ st) N B C R:=by
 unfold Ws
 rw [tf]
 refine a7 h fun b st1 q=>?_
 cases b with
 | true=>rw [if_pos rfl];exact q.1 rfl
 | false=>rw [if_neg Bool.false_ne_true];exact q.2 rfl
theorem J7 {i j:Nat} {fa:ai->Dm (List D)} (h:Wp (fa δ st) fun as st1=>∃ a b,as=[a,b]/\N ((δ.set i (some a)).set j (some b)) st1):Ws (pY i j fa δ st) N B C R:=by
 unfold Ws pY
 rw [dw]
 refine a7 h fun as st1 q=>?_
 obtain ⟨a,b,rfl,q⟩:=q
 exact bu.mpr q
theorem gp {n:Nat} {b:ai->Dm Fl} {ds:List D} (h:Ws (b (ds.map some ++ List.replicate (n - ds.length) none) st) (fun _ st1=>R .non st1) (fun _ _=>False) (fun _ _=>False) R):Wp (fG n b ds st) R:=by
 unfold fG
 rw [dw]
 refine a7 h fun fl st1 q=>?_
 cases fl with
 | nx δ1=>exact bu.mpr q
 | bk δ1=>exact q.elim
 | ct δ1=>exact q.elim
 | rt d=>exact bu.mpr q
theorem AG {c:ai->Dm Bool} {b:ai->Dm Fl} (W:Nat->ai->Store->Prop) (m:Nat) (hm:m < fuel) (h0:W m δ st)
  (step:∀ m δ st,W m δ st->Wp (c δ st) fun t st1=>(t=true->Ws (b δ st1) (fun δ2 st2=>∃ m',m' < m/\W m' δ2 st2) N (fun δ2 st2=>∃ m',m' < m/\W m' δ2 st2) R)/\(t=false->N δ st1)):Ws (jt c b δ st) N B C R:=by
 have key:∀ (k m:Nat) (δ:ai) (st:Store),m < k->W m δ st->Ws (e7 c b k δ st) N B C R:=by
  intro k
  induction k with
  | zero=>intro m δ st h;exact absurd h (Nat.not_lt_zero _)
  | succ k ih =>
   intro m δ st hk hw
   unfold Ws e7
   rw [dw]
   refine a7 (step m δ st hw) fun t st1 q=>?_
   cases t with
   | false=>rw [if_neg Bool.false_ne_true];exact bu.mpr (q.2 rfl)
   | true =>
    rw [if_pos rfl,dw]
    refine a7 (q.1 rfl) fun fl st2 q=>?_
    cases fl with
    | nx δ2=>obtain ⟨m',hm',w⟩:=q;exact ih m' δ2 st2 (by omega) w
    | ct δ2=>obtain ⟨m',hm',w⟩:=q;exact ih m' δ2 st2 (by omega) w
    | bk δ2=>exact bu.mpr q
    | rt d=>exact bu.mpr q
 exact key fuel m δ st hm h0
theorem ny {fi:ai->Dm Src} {t:D->ai->Dm ai} {b:ai->Dm Fl} (ds:List D) (Pv:Nat->ai->Store->Prop) (hi:Wp (fi δ st) fun S st1=>S=.fix ds/\Pv 0 δ st1) (hl:ds.length < 100000)
  (step:∀ i d δ st,ds[i]?=some d->Pv i δ st->Wp (t d δ st) fun δ1 st1=>Ws (b δ1 st1) (Pv (i + 1)) N (Pv (i + 1)) R) (fin:∀ δ st,Pv ds.length δ st->N δ st):Ws (fA fi t b δ st) N B C R:=by
 unfold Ws fA
 rw [dw]
 refine a7 hi fun S j4 q=>?_
 obtain ⟨rfl,h0⟩:=q
 have key:∀ (k i:Nat) (δ:ai) (st:Store),i<=ds.length->ds.length - i < k->Pv i δ st->Ws (fR (.fix ds) t b k i δ st) N B C R:=by
  intro k
  induction k with
  | zero=>intro i δ st _ h;exact absurd h (Nat.not_lt_zero _)
  | succ k ih =>
   intro i δ st hi hk hw
   unfold Ws fR
   have e:Src.at (.fix ds) i st=some ds[i]?:=by show (if i<=ds.length then some ds[i]? else none)=_;rw [if_pos hi]
   rw [e]
   cases hd:ds[i]? with
   | none =>
    have:=List.getElem?_eq_none_iff.mp hd
    have e:i=ds.length:=by omega
    exact bu.mpr (fin δ st (e ▸ hw))
   | some d =>
    have hlt:=(List.getElem?_eq_some_iff.mp hd).1
    show Wp (bnd _ _) _
    rw [dw]
    refine a7 (step i d δ st hd hw) fun δ1 st1 q=>?_
    rw [dw]
    refine a7 q fun fl st2 q=>?_
    cases fl with
    | nx δ2=>exact ih (i + 1) δ2 st2 (by omega) (by omega) q
    | ct δ2=>exact ih (i + 1) δ2 st2 (by omega) (by omega) q
    | bk δ2=>exact bu.mpr q
    | rt d=>exact bu.mpr q
 exact key fuel 0 δ j4 (Nat.zero_le _) (Nat.lt_trans (by omega) (show 100000 < fuel by decide)) h0
theorem OH {fi:ai->Dm Src} {t:D->ai->Dm ai} {b:ai->Dm Fl} (ds:List D) (r:Nat) (Pv:Nat->ai->Store->Prop) (hi:Wp (fi δ st) fun S st1=>S=.live r/\Pv 0 δ st1) (hl:ds.length < 100000) (hk:∀ i δ st,Pv i δ st->items st r=some ds)
  (step:∀ i d δ st,ds[i]?=some d->Pv i δ st->Wp (t d δ st) fun δ1 st1=>Ws (b δ1 st1) (Pv (i + 1)) N (Pv (i + 1)) R) (fin:∀ δ st,Pv ds.length δ st->N δ st):Ws (fA fi t b δ st) N B C R:=by
 unfold Ws fA
 rw [dw]
 refine a7 hi fun S j4 q=>?_
 obtain ⟨rfl,h0⟩:=q
 have key:∀ (k i:Nat) (δ:ai) (st:Store),i<=ds.length->ds.length - i < k->Pv i δ st->Ws (fR (.live r) t b k i δ st) N B C R:=by
  intro k
  induction k with
  | zero=>intro i δ st _ h;exact absurd h (Nat.not_lt_zero _)
  | succ k ih =>
   intro i δ st hi hk' hw
   unfold Ws fR
   have e:Src.at (.live r) i st=some ds[i]?:=by show (items st r).map _=_;rw [hk i δ st hw];rfl
   rw [e]
   cases hd:ds[i]? with
   | none =>
    have:=List.getElem?_eq_none_iff.mp hd
    have e:i=ds.length:=by omega
    exact bu.mpr (fin δ st (e ▸ hw))
   | some d =>
    have hlt:=(List.getElem?_eq_some_iff.mp hd).1
    show Wp (bnd _ _) _
    rw [dw]
    refine a7 (step i d δ st hd hw) fun δ1 st1 q=>?_
    rw [dw]
    refine a7 q fun fl st2 q=>?_
    cases fl with
    | nx δ2=>exact ih (i + 1) δ2 st2 (by omega) (by omega) q
    | ct δ2=>exact ih (i + 1) δ2 st2 (by omega) (by omega) q
    | bk δ2=>exact bu.mpr q
    | rt d=>exact bu.mpr q
 exact key fuel 0 δ j4 (Nat.zero_le _) (Nat.lt_trans (by omega) (show 100000 < fuel by decide)) h0
theorem AH {fi:ai->Dm Src} {n:Nat} {js:List Nat} {t:D->ai->Dm ai} {c:ai->Dm Bool} {f:ai->Dm D} {Q:D->Store->Prop} (ds:List D) (Pv:Nat->List D->ai->Store->Prop)
  (hi:Wp (fi δ st) fun S st1=>(∀ i ys δ st,i<=ds.length->Pv i ys δ st->S.at i st=some ds[i]?)/\Pv 0 [] (nc n js δ) st1) (hl:ds.length < 100000) (hy:∀ i ys δ st,Pv i ys δ st->ys.length<=i)
  (step:∀ i d ys δ st,ds[i]?=some d->Pv i ys δ st->Wp (t d δ st) fun δ1 st1=>Wp (c δ1 st1) fun b st2=>(b=true->Wp (f δ1 st2) fun y st3=>Pv (i + 1) (ys ++ [y]) δ1 st3)/\(b=false->Pv (i + 1) ys δ1 st2))
  (fin:∀ ys δ st,Pv ds.length ys δ st->Q (.ref st.length) (st ++ [.lst ys])):Wp (e8 fi n js t c f δ st) Q:=by
 unfold e8
 rw [dw]
 refine a7 hi fun S j4 q=>?_
 obtain ⟨hS,h0⟩:=q
 have key:∀ (k i:Nat) (ys:List D) (δ:ai) (st:Store),i<=ds.length->ds.length - i < k->Pv i ys δ st->Wp (gD S t c f k i ys δ st) fun zs lV=>∃ δ9,Pv ds.length zs δ9 lV:=by
  intro k
  induction k with
  | zero=>intro i ys δ st _ h;exact absurd h (Nat.not_lt_zero _)
  | succ k ih =>
   intro i ys δ st hi hk' hw
   unfold gD
   have hlim:lim ys.length=true:=Nat.ble_eq_true_of_le (by have:=hy i ys δ st hw;omega)
   rw [if_pos hlim,hS i ys δ st hi hw]
   cases hd:ds[i]? with
   | none =>
    have:=List.getElem?_eq_none_iff.mp hd
    have e:i=ds.length:=by omega
    exact bu.mpr ⟨δ,e ▸ hw⟩
   | some d =>
    have hlt:=(List.getElem?_eq_some_iff.mp hd).1
    show Wp (bnd _ _) _
    rw [dw]
    refine a7 (step i d ys δ st hd hw) fun δ1 st1 q=>?_
    rw [dw]
    refine a7 q fun b st2 q=>?_
    cases b with
    | true =>
     rw [if_pos rfl,dw]
     exact a7 (q.1 rfl) fun y st3 q=>ih (i + 1) _ δ1 st3 (by omega) (by omega) q
    | false =>
     rw [if_neg Bool.false_ne_true]
     exact ih (i + 1) ys δ1 st2 (by omega) (by omega) (q.2 rfl)
 rw [dw]
 exact a7 (key fuel 0 [] _ j4 (Nat.zero_le _) (Nat.lt_trans (by omega) (show 100000 < fuel by decide)) h0) fun zs lV ⟨δ9,q⟩=>bu.mpr (fin zs δ9 lV q)
end
end L4
namespace L4
open PySem PySem.Spec L2
def keyOf:D->Option Key
 | .int i=>some (.inl i)
 | .str x=>some (.inr x)
 | _=>none
def iB (st:Store):D->Option (List (Key×D))
 | .ref i=>match st[i]? with
  | some (.dct kvs)=>some kvs
  | _=>none
 | _=>none
def dB (kvs:List (Key×D)) (k:Key):Option D:=(kvs.find? fun kv=>decide (kv.1=k)).map (·.2)
def putD (kvs:List (Key×D)) (k:Key) (v:D):List (Key×D) :=
 if (kvs.any fun kv=>decide (kv.1=k))=true then kvs.map (fun kv=>if kv.1=k then (kv.1,v) else kv) else kvs ++ [(k,v)]
section
variable {K:PySem.W.Frag} {ρ:List Addr} {H:Hp} {st:Store}
theorem xC {x:V} {y:D} {k:Key} (r:Rp K ρ H x y) (h:keyOf y=some k):x=kV k:=by
 cases r <;> first | (cases h;rfl) | cases h
theorem J8 {x:V} {a:D} {kvs:List (Key×D)} (l:Rl K ρ H st) (r:Rp K ρ H x a) (h:iB st a=some kvs):∃ p i ws,x=.ref p/\a=.ref i/\ρ[i]?=some p/\st[i]?=some (.dct kvs)/\H p=some (.dK ws)/\Rk K ρ H ws kvs:=by
 cases r <;> first | (cases h;done) | skip
 next hi =>
  simp only [iB] at h
  split at h
  ·next kvs' hs =>
   cases h
   obtain ⟨ws,e,r⟩:=l.obj _ _ _ hi hs
   exact ⟨_,_,ws,rfl,rfl,hi,hs,e,r⟩
  ·cases h
theorem Rk.val {ws:List (Key×V)} {kvs:List (Key×D)} (r:Rk K ρ H ws kvs) (k:Key):(∀ d,dB kvs k=some d->∃ v,jn ws k=some v/\Rp K ρ H v d)/\(jn ws k).isSome=(dB kvs k).isSome:=by
 induction r with
 | nil=>exact ⟨fun d h=>(by cases h),rfl⟩
 | @cons p q ps qs h t ih =>
  obtain ⟨h1,h2⟩:=h
  unfold dB jn at ih ⊢
  rw [List.find?_cons,List.find?_cons]
  by_cases e:p.1=k
  ·rw [decide_eq_true e,decide_eq_true (h1 ▸ e)]
   exact ⟨fun d hd=>by cases hd;exact ⟨_,rfl,h2⟩,rfl⟩
  ·rw [decide_eq_false e,decide_eq_false (h1 ▸ e)]
   exact ih
theorem Rk.app {ws J9:List (Key×V)} {kvs kvs':List (Key×D)} (r:Rk K ρ H ws kvs) (r':Rk K ρ H J9 kvs'):Rk K ρ H (ws ++ J9) (kvs ++ kvs'):=by
 induction r with
 | nil=>exact r'
 | cons h _ ih=>exact .cons h ih
theorem Rk.put {ws:List (Key×V)} {kvs:List (Key×D)} {v:V} {d:D} (r:Rk K ρ H ws kvs) (k:Key) (rv:Rp K ρ H v d):Rk K ρ H (putK ws k v) (putD kvs k d):=by
 have hany:(ws.any fun kv=>decide (kv.1=k))=(kvs.any fun kv=>decide (kv.1=k)):=by
  induction r with
  | nil=>rfl
  | cons h _ ih=>rw [List.any_cons,List.any_cons,ih,h.1]
 have hmap:Rk K ρ H (ws.map fun kv=>if kv.1=k then (kv.1,v) else kv) (kvs.map fun kv=>if kv.1=k then (kv.1,d) else kv):=by
  clear hany
  induction r with
  | nil=>exact .nil
  | @cons p q ps qs h _ ih =>
   refine .cons ?_ ih
   dsimp only
   by_cases e:p.1=k
   ·rw [if_pos e,if_pos (h.1 ▸ e)];exact ⟨h.1,rv⟩
   ·rw [if_neg e,if_neg (h.1 ▸ e)];exact h
 unfold putK putD
 rw [hany]
 split
 ·exact hmap
 ·exact r.app (.cons ⟨rfl,rv⟩ .nil)
theorem Rk.length {ws:List (Key×V)} {kvs:List (Key×D)} (r:Rk K ρ H ws kvs):ws.length=kvs.length:=by
 induction r with
 | nil=>rfl
 | cons _ _ ih=>rw [List.length_cons,List.length_cons,ih]
end
section
variable {K:PySem.W.Frag}
def p3:ai->Dm D:=fun _ st=>some (.ref st.length,st ++ [.dct []])
theorem OI:fD K pg p3:=by
 intro ρ σ H δ st b st' Q l rs e q
 cases e
 exact fun p hp=>q _ _ _ (Mn.new hp) (l.newD hp .nil) (.ref (newR l))
def tj (fd fy:ai->Dm D):ai->Dm D:=fun δ st=>bnd (fd δ st) fun x st1=>bnd (fy δ st1) fun y st2=>match iB st2 x,keyOf y with
 | some kvs,some k=>match dB kvs k with
  | some v=>some (v,st2)
  | none=>none
 | _,_=>none
def rq (neg:Bool) (fy fd:ai->Dm D):ai->Dm D:=fun δ st=>bnd (fy δ st) fun y st1=>bnd (fd δ st1) fun x st2=>match iB st2 x,keyOf y with
 | some kvs,some k=>some (.bl (if neg then !(dB kvs k).isSome else (dB kvs k).isSome),st2)
 | _,_=>none
theorem OJ {td ty:TE} {fd fy:ai->Dm D} (hy:fD K ty fy) (hd:fD K td fd):fD K (nU ty td) (rq true fy fd):=by
 intro ρ σ H δ st b st' Q l rs e q
 obtain ⟨y,st1,e1,e⟩:=dP e
 obtain ⟨x,st2,e2,e⟩:=dP e
 refine hy ρ σ H δ st y st1 _ l rs e1 fun vy H1 ρ1 m1 l1 r1=>hd ρ1 σ H1 δ st1 x st2 _ l1 (rs.mn m1) e2 fun vx H2 ρ2 m2 l2 r2=>?_
 split at e
 ·next kvs k hx hk =>
  cases e
  obtain ⟨p,i,ws,rfl,rfl,hi,hs,hp,rk⟩:=J8 l2 r2 hx
  refine ⟨p,jn ws k,rfl,by rw [xC r1 hk];exact pe.k hp,q _ H2 ρ2 (m1.trans m2) l2 ?_⟩
  rw [(rk.val k).2]
  exact .bl _
 ·cases e
def oo (fd fy fv:ai->Dm D):ai->Dm Fl:=fun δ st=>bnd (fv δ st) fun v st1=>bnd (fd δ st1) fun x st2=>bnd (fy δ st2) fun y st3=>match x,iB st3 x,keyOf y with
 | .ref i,some kvs,some k=>if lim kvs.length=true then some (.nx δ,st3.set i (.dct (putD kvs k v))) else none
 | _,_,_=>none
theorem OL {td ty tv:TE} {fd fy fv:ai->Dm D} (hd:fD K td fd) (hy:fD K ty fy) (hv:fD K tv fv):mH K (si td ty tv) (oo fd fy fv):=by
 intro ρ σ H δ st fl st' E l rs e q
 obtain ⟨v,st1,e1,e⟩:=dP e
 obtain ⟨x,st2,e2,e⟩:=dP e
 obtain ⟨y,st3,e3,e⟩:=dP e
 refine hv ρ σ H δ st v st1 _ l rs e1 fun vv H1 ρ1 m1 l1 r1=>hd ρ1 σ H1 δ st1 x st2 _ l1 (rs.mn m1) e2 fun vx H2 ρ2 m2 l2 r2=>hy ρ2 σ H2 δ st2 y st3 _ l2 (rs.mn (m1.trans m2)) e3 fun vy H3 ρ3 m3 l3 r3=>?_
 obtain ⟨i,rfl⟩:∃ i,x=.ref i:=by
  cases x <;> first | exact ⟨_,rfl⟩ | (simp at e;done) | cases e
 cases hx:iB st3 (.ref i) with
 | none=>rw [hx] at e;cases e
 | some kvs =>
 cases hk:keyOf y with
 | none=>rw [hx,hk] at e;cases e
 | some k =>
  rw [hx,hk] at e
  simp only at e
  split at e
  ·next hl =>
   cases e
   obtain ⟨p,j,ws,rfl,ej,hi,hs,hp,rk⟩:=J8 l3 (r2.mn m3) hx
   cases ej
   obtain ⟨l4,m4⟩:=l3.vk hi hs (rk.put k (r1.mn (m2.trans m3)))
   have mm:=((m1.trans m2).trans m3).trans m4
   refine ⟨p,_,rfl,?_,q σ _ ρ3 mm l4 (rs.mn mm)⟩
   rw [xC r3 hk]
   exact pf.k hp (by rw [rk.length];exact F0 hl)
  ·cases e
def AI:ai->Dm (List (D×D)):=fun _ st=>some ([],st)
def p4 (fk fv:ai->Dm D) (fr:ai->Dm (List (D×D))):ai->Dm (List (D×D)):=fun δ st=>bnd (fk δ st) fun k st1=>bnd (fv δ st1) fun v st2=>bnd (fr δ st2) fun r st3=>some ((k,v) :: r,st3)
def keysOf:List (D×D)->Option (List (Key×D))
 | []=>some []
 | (k,v) :: r=>match keyOf k,keysOf r with
  | some k',some r'=>some ((k',v) :: r')
  | _,_=>none
def p5 (kvs more:List (Key×D)):List (Key×D):=more.foldl (fun acc kv=>putD acc kv.1 kv.2) kvs
def tm (fp:ai->Dm (List (D×D))):ai->Dm D:=fun δ st=>bnd (fp δ (st ++ [.dct []])) fun ps st2=>match st2[st.length]?,keysOf ps with
 | some (.dct []),some kvs=>if kvs.length<=15 then some (.ref st.length,st2.set st.length (.dct (p5 [] kvs))) else none
 | _,_=>none
end
section
variable {st:Store} {δ:ai} {Q:D->Store->Prop}
theorem OM:Wp (p3 δ st) Q↔Q (.ref st.length) (st ++ [.dct []]):=bu
theorem OO {fd fy:ai->Dm D}:Wp (tj fd fy δ st) Q↔Wp (fd δ st) fun x st1=>Wp (fy δ st1) fun y st2=>∃ kvs k v,iB st2 x=some kvs/\keyOf y=some k/\dB kvs k=some v/\Q v st2:=by
 unfold tj;rw [dw];simp only [dw]
 constructor <;> refine fun h=>a7 h fun x s h=>a7 h fun y s2 h=>?_
 ·split at h
  ·next kvs k h1 h2 =>
   split at h
   ·next v h3=>exact ⟨kvs,k,v,by assumption,by assumption,h3,bu.mp h⟩
   ·exact (eO.mp h).elim
  ·exact (eO.mp h).elim
 ·obtain ⟨kvs,k,v,h1,h2,h3,h⟩:=h
  rw [h1,h2]
  simp only [h3]
  exact bu.mpr h
theorem wk {neg:Bool} {fd fy:ai->Dm D}:Wp (rq neg fy fd δ st) Q↔Wp (fy δ st) fun y st1=>Wp (fd δ st1) fun x st2=>∃ kvs k,iB st2 x=some kvs/\keyOf y=some k/\Q (.bl (if neg then !(dB kvs k).isSome else (dB kvs k).isSome)) st2:=by
 unfold rq;rw [dw];simp only [dw]
 constructor <;> refine fun h=>a7 h fun x s h=>a7 h fun y s2 h=>?_
 ·split at h
  ·next kvs k h1 h2=>exact ⟨kvs,k,by assumption,by assumption,bu.mp h⟩
  ·exact (eO.mp h).elim
 ·obtain ⟨kvs,k,h1,h2,h⟩:=h
  rw [h1,h2]
  exact bu.mpr h
theorem OQ {R:List (D×D)->Store->Prop}:Wp (AI δ st) R↔R [] st:=bu
theorem OR {fk fv:ai->Dm D} {fr:ai->Dm (List (D×D))} {R:List (D×D)->Store->Prop}:Wp (p4 fk fv fr δ st) R↔Wp (fk δ st) fun k st1=>Wp (fv δ st1) fun v st2=>Wp (fr δ st2) fun r st3=>R ((k,v) :: r) st3:=by
 unfold p4;rw [dw];simp only [dw,bu]
theorem OS {fp:ai->Dm (List (D×D))}:Wp (tm fp δ st) Q↔Wp (fp δ (st ++ [.dct []])) fun ps st2=>st2[st.length]?=some (.dct [])/\∃ kvs,keysOf ps=some kvs/\kvs.length<=15/\Q (.ref st.length) (st2.set st.length (.dct (p5 [] kvs))):=by
 unfold tm;rw [dw]
 constructor <;> refine fun h=>a7 h fun ps s h=>?_
 ·split at h
  ·next kvs h1 h2 =>
   rw [mq,bu,eO] at h
   split at h
   ·next hl=>exact ⟨by assumption,kvs,by assumption,hl,h⟩
   ·exact h.elim
  ·exact (eO.mp h).elim
 ·obtain ⟨h1,kvs,h2,h3,h⟩:=h
  rw [h1,h2]
  simp only [if_pos h3]
  exact bu.mpr h
theorem OT {fd fy fv:ai->Dm D} {N B C:ai->Store->Prop} {R:D->Store->Prop} (h:Wp (fv δ st) fun v st1=>Wp (fd δ st1) fun x st2=>Wp (fy δ st2) fun y st3=>∃ i kvs k,x=.ref i/\iB st3 x=some kvs/\keyOf y=some k/\lim kvs.length=true/\N δ (st3.set i (.dct (putD kvs k v)))):Ws (oo fd fy fv δ st) N B C R:=by
 unfold Ws oo
 rw [dw]
 refine a7 h fun v st1 h=>?_
 rw [dw]
 refine a7 h fun x st2 h=>?_
 rw [dw]
 refine a7 h fun y st3 h=>?_
 obtain ⟨i,kvs,k,rfl,h1,h2,h3,h⟩:=h
 rw [h1,h2]
 simp only [h3]
 exact bu.mpr h
end
end L4
namespace L4
open PySem PySem.Spec L2
structure Ex (c:List Nat) (st st':Store):Prop where
 len:st.length<=st'.length
 keep:∀ (i:Nat) (o:O),st[i]?=some o->i ∉ c->st'[i]?=some o
section
variable {c c':List Nat} {st st1 st2:Store} {i:Nat} {o:O} {ds:List D}
theorem Ex.refl:Ex c st st:=⟨Nat.le_refl _,fun _ _ h _=>h⟩
theorem Ex.trans (a:Ex c st st1) (b:Ex c st1 st2):Ex c st st2:=⟨Nat.le_trans a.len b.len,fun i o h n=>b.keep i o (a.keep i o h n) n⟩
theorem Ex.mono (a:Ex c st st1) (h:∀ x∈c,x∈c'):Ex c' st st1:=⟨a.len,fun i o e n=>a.keep i o e fun z=>n (h i z)⟩
theorem Ex.any (a:Ex [] st st1):Ex c st st1:=a.mono fun x h=>nomatch h
theorem jf {α:Type} {l:List α} {i:Nat} {o:α} (h:l[i]?=some o):i < l.length:=(List.getElem?_eq_some_iff.mp h).1
theorem lO {l m:List O} (h:l[i]?=some o):(l ++ m)[i]?=some o:=by rw [List.getElem?_append_left (jf h)];exact h
theorem j5 {l:List O}:(l ++ [o])[l.length]?=some o:=by rw [List.getElem?_append_right (Nat.le_refl _),Nat.sub_self];rfl
theorem Ex.app (a:Ex c st st1) (m:List O):Ex c st (st1 ++ m):=⟨by rw [List.length_append];exact Nat.le_trans a.len (Nat.le_add_right _ _),fun i o h n=>lO (a.keep i o h n)⟩
theorem Ex.cm (m:List O):Ex c st (st ++ m):=Ex.refl.app m
theorem Ex.put (a:Ex c st st1) (h:i∈c):Ex c st (st1.set i o):=⟨by rw [List.length_set];exact a.len,fun j u e n=>by rw [List.getElem?_set_ne (fun z=>n (by rw [<- z];exact h))];exact a.keep j u e n⟩
theorem Ex.loc (a:Ex c st st1) (h:st.length<=i):Ex c st (st1.set i o):=⟨by rw [List.length_set];exact a.len,fun j u e n=>by rw [List.getElem?_set_ne (by have:=jf e;omega)];exact a.keep j u e n⟩
theorem fz (h:st[i]?=some (.lst ds)):items st i=some ds:=by unfold items;rw [h]
theorem Ka (h:st[i]?=some (.oe ds)):items st i=some ds:=by unfold items;rw [h]
theorem lW (h:st[i]?=some (.lst ds)):own st i=some ds:=by unfold own;rw [h]
theorem tu:items (st ++ [.lst ds]) st.length=some ds:=fz j5
theorem OU:own (st ++ [.lst ds]) st.length=some ds:=lW j5
theorem OV {o':O}:items (st ++ [.lst ds] ++ [o']) st.length=some ds:=fz (lO j5)
theorem OW {o':O}:own (st ++ [.lst ds] ++ [o']) st.length=some ds:=lW (lO j5)
theorem OX {o' o2:O}:items (st ++ [.lst ds] ++ [o'] ++ [o2]) st.length=some ds:=fz (lO (lO j5))
theorem OY {o' o2:O}:own (st ++ [.lst ds] ++ [o'] ++ [o2]) st.length=some ds:=lW (lO (lO j5))
theorem OZ {lo hi:Int}:hU (st ++ [.il lo hi]) (.ref st.length)=some (lo,hi):=by simp only [hU,j5]
theorem O0:dj st (.tup ds)=some ds:=rfl
theorem O1:dj st (.ref i)=items st i:=rfl
theorem tw (h:(items st i).isSome=true):xR "list" st (.ref i)=true:=by simp only [xR,h];rfl
theorem jQ {n:Nat} (h:n<=100000):lim n=true:=Nat.ble_eq_true_of_le h
end
section
variable {st:Store} {Q:D->Store->Prop} {i j:Int} {k:Nat} {ds es:List D}
theorem O2 {a:D}:Wp (d8 [a] st) Q↔∃ p,hU st a=some p/\oQ p.1 p.2=true/\Q (.ref st.length) (st ++ [.lst (aI p.1 (p.2 - p.1).toNat)]):=by
 show Wp (match hU st a with | some (lo,hi)=>if oQ lo hi=true then some (D.ref st.length,st ++ [O.lst (aI lo (hi - lo).toNat)]) else none | none=>none) Q↔_
 cases hU st a with
 | none=>rw [eO];exact ⟨False.elim,fun ⟨_,e,_⟩=>by cases e⟩
 | some p =>
  obtain ⟨lo,hi⟩:=p
  show Wp (if oQ lo hi=true then some (D.ref st.length,st ++ [O.lst (aI lo (hi - lo).toNat)]) else none) Q↔_
  rw [mq,bu,eO]
  split
  ·next h=>exact ⟨fun q=>⟨_,rfl,h,q⟩,fun ⟨_,e,_,q⟩=>by cases e;exact q⟩
  ·next h=>exact ⟨False.elim,fun ⟨_,e,q,_⟩=>by cases e;exact h q⟩
theorem O3 {a:D}:Wp (rm [a] st) Q↔∃ p,hU st a=some p/\oQ p.1 p.2=true/\Q (.tup (aI p.1 (p.2 - p.1).toNat)) st:=by
 show Wp (match hU st a with | some (lo,hi)=>if oQ lo hi=true then some (D.tup (aI lo (hi - lo).toNat),st) else none | none=>none) Q↔_
 cases hU st a with
 | none=>rw [eO];exact ⟨False.elim,fun ⟨_,e,_⟩=>by cases e⟩
 | some p =>
  obtain ⟨lo,hi⟩:=p
  show Wp (if oQ lo hi=true then some (D.tup (aI lo (hi - lo).toNat),st) else none) Q↔_
  rw [mq,bu,eO]
  split
  ·next h=>exact ⟨fun q=>⟨_,rfl,h,q⟩,fun ⟨_,e,_,q⟩=>by cases e;exact q⟩
  ·next h=>exact ⟨False.elim,fun ⟨_,e,q,_⟩=>by cases e;exact h q⟩
theorem wm:Wp (pV (.ref k) (.int j) st) Q↔∃ xs,own st k=some xs/\(-9223372036854775808<=j/\j < 9223372036854775808)/\lim (xs.length * j.toNat)=true/\Q (.ref st.length) (st ++ [.lst (List.replicate j.toNat xs).flatten]):=by
 show Wp (match own st k with | some a=>if (decide (-9223372036854775808<=j/\j < 9223372036854775808) && lim (a.length * j.toNat))=true then some (D.ref st.length,st ++ [O.lst (List.replicate j.toNat a).flatten]) else none | _=>none) Q↔_
 cases own st k with
 | none=>simp only [eO];exact ⟨False.elim,fun ⟨_,e,_⟩=>by cases e⟩
 | some xs =>
  show Wp (if (decide (-9223372036854775808<=j/\j < 9223372036854775808) && lim (xs.length * j.toNat))=true then some (D.ref st.length,st ++ [O.lst (List.replicate j.toNat xs).flatten]) else none) Q↔_
  rw [mq,bu,eO]
  split
  ·next h=>rw [Bool.and_eq_true,decide_eq_true_eq] at h;exact ⟨fun q=>⟨_,rfl,h.1,h.2,q⟩,fun ⟨_,e,_,_,q⟩=>by cases e;exact q⟩
  ·next h=>rw [Bool.and_eq_true,decide_eq_true_eq] at h;exact ⟨False.elim,fun ⟨_,e,q,q',_⟩=>by cases e;exact h ⟨q,q'⟩⟩
theorem O4:Wp (kh (.ref k) [.int i] st) Q↔∃ xs j y,own st k=some xs/\(-9223372036854775808<=i/\i < 9223372036854775808)/\seqIndex? i xs.length=some j/\xs[j]?=some y/\Q y (st.set k (.lst (xs.eraseIdx j))):=by
 constructor
 ·rintro ⟨a,s,e,q⟩
  simp only [kh] at e
  split at e
  ·next xs hx =>
   split at e
   ·next hk =>
    split at e
    ·next j hj =>
     split at e
     ·next y hy=>cases e;exact ⟨xs,j,_,hx,of_decide_eq_true hk,hj,hy,q⟩
     ·cases e
    ·cases e
   ·cases e
  ·cases e
 ·rintro ⟨xs,j,y,hx,hk,hj,hy,q⟩
  refine ⟨_,_,?_,q⟩
  simp only [kh,hx,hj,hy,decide_eq_true hk]
  rfl
theorem O5 {b:Nat}:Wp (mh (.ref k) [.ref b] st) Q↔∃ xs ys,own st k=some xs/\own st b=some ys/\lim (xs.length + ys.length)=true/\Q .non (st.set k (.lst (xs ++ ys))):=by
 constructor
 ·rintro ⟨a,s,e,q⟩
  simp only [mh] at e
  split at e
  ·next xs ys hx hy =>
   split at e
   ·next hl=>cases e;exact ⟨xs,ys,hx,hy,hl,q⟩
   ·cases e
  ·cases e
 ·rintro ⟨xs,ys,hx,hy,hl,q⟩
  refine ⟨_,_,?_,q⟩
  simp only [mh,hx,hy,hl]
  rfl
theorem O6 {v:Int}:Wp (nI (.tup ds) [.int v] st) Q↔∃ ns j,b9 iV ds=some ns/\ns.findIdx? (fun i=>decide (i=v))=some j/\Q (.int (j:Int)) st:=by
 constructor
 ·rintro ⟨a,s,e,q⟩
  simp only [nI] at e
  split at e
  ·next ns hn =>
   split at e
   ·next j hj=>cases e;exact ⟨ns,j,hn,hj,q⟩
   ·cases e
  ·cases e
 ·rintro ⟨ns,j,hn,hj,q⟩
  refine ⟨_,_,?_,q⟩
  simp only [nI,hn,hj]
theorem wo:Wp (vz [.ref k] st) Q↔∃ ds bs,items st k=some ds/\b9 bV ds=some bs/\Q (.bl (bs.all id)) st:=by
 constructor
 ·rintro ⟨a,s,e,q⟩
  simp only [vz] at e
  split at e
  ·next bs hb =>
   cases e
   obtain ⟨ds,h1,h2⟩:=Option.bind_eq_some_iff.mp hb
   exact ⟨ds,bs,h1,h2,q⟩
  ·cases e
 ·rintro ⟨ds,bs,h1,h2,q⟩
  refine ⟨_,_,?_,q⟩
  simp only [vz,h1,Option.bind_some,h2]
theorem AJ {neg:Bool} {a c:D}:Wp (pW neg a c st) Q↔∃ x ds vs,sV a=some x/\dj st c=some ds/\b9 sV ds=some vs/\Q (.bl (if neg then !r9 x vs else r9 x vs)) st:=by
 constructor
 ·rintro ⟨b,s,e,q⟩
  simp only [pW] at e
  split at e
  ·next x vs h1 h2 =>
   cases e
   obtain ⟨ds,h3,h4⟩:=Option.bind_eq_some_iff.mp h2
   exact ⟨x,ds,vs,h1,h3,h4,q⟩
  ·cases e
 ·rintro ⟨x,ds,vs,h1,h2,h3,q⟩
  refine ⟨_,_,?_,q⟩
  simp only [pW,h1,h2,Option.bind_some,h3]
theorem Kb (ns:List Int):b9 sV (ns.map D.int)=some (ns.map V.int):=sT (f:=sV) (g:=D.int) (k:=V.int) (fun _=>rfl) ns
theorem C8 {neg:Bool} {a b:D}:Wp (eZ neg a b st) Q↔∃ p q,dc st 20 a=some p/\dc st 20 b=some q/\(PyData.canLay0 p=true/\PyData.canLay0 q=true/\min p.depth q.depth<=60)/\Q (.bl (if neg then !PyData.eqv p q else PyData.eqv p q)) st:=by
 constructor
 ·rintro ⟨c,s,e,q⟩
  simp only [eZ] at e
  split at e
  ·next x y h1 h2 =>
   split at e
   ·next hs =>
    cases e
    rw [Bool.and_eq_true,Bool.and_eq_true,decide_eq_true_eq] at hs
    exact ⟨x,y,h1,h2,⟨hs.1.1,hs.1.2,hs.2⟩,q⟩
   ·cases e
  ·cases e
 ·rintro ⟨x,y,h1,h2,⟨h3,h4,h5⟩,q⟩
  refine ⟨_,_,?_,q⟩
  simp only [eZ,h1,h2,h3,h4,decide_eq_true h5]
  rfl
theorem wt {z:Str}:Wp (vq (.str z) (.int i) st) Q↔∃ c,lim z.length=true/\iu z.cps.toList i=some c/\Q (.str ⟨#[c]⟩) st:=by
 constructor
 ·rintro ⟨c,s,e,q⟩
  simp only [vq] at e
  split at e
  ·next h1 =>
   split at e
   ·next c hc=>cases e;exact ⟨c,h1,hc,q⟩
   ·cases e
  ·cases e
 ·rintro ⟨c,h1,h2,q⟩
  refine ⟨_,_,?_,q⟩
  simp only [vq,h1,h2]
  rfl
theorem O7 {δ:ai} {fa:ai->Dm (List D)} {R:Src->Store->Prop}:Wp (dz fa δ st) R↔Wp (fa δ st) fun as st1=>∃ j,as=[.int j]/\(-4611686018427387904<=j/\j < 4611686018427387904)/\R (.fix (aI 0 j.toNat)) st1:=by
 unfold dz;rw [dw]
 constructor <;> refine fun h=>a7 h fun as s h=>?_
 ·split at h
  ·next j =>
   rw [mq,bu,eO] at h
   split at h
   ·next hk=>exact ⟨j,rfl,of_decide_eq_true hk,h⟩
   ·exact h.elim
  ·exact (eO.mp h).elim
 ·obtain ⟨j,rfl,h1,h⟩:=h
  simp only [decide_eq_true h1,if_true]
  exact bu.mpr h
theorem O8 {δ:ai} {fa:ai->Dm (List D)} {R:Src->Store->Prop}:Wp (pZ fa δ st) R↔Wp (fa δ st) fun as st1=>∃ i j,as=[.int i,.int j]/\((-4611686018427387904<=i/\i < 4611686018427387904)/\-4611686018427387904<=j/\j < 4611686018427387904)/\R (.fix (aI i (j - i).toNat)) st1:=by
 unfold pZ;rw [dw]
 constructor <;> refine fun h=>a7 h fun as s h=>?_
 ·split at h
  ·next i j =>
   rw [mq,bu,eO] at h
   split at h
   ·next hk=>exact ⟨i,j,rfl,of_decide_eq_true hk,h⟩
   ·exact h.elim
  ·exact (eO.mp h).elim
 ·obtain ⟨i,j,rfl,h1,h⟩:=h
  simp only [decide_eq_true h1,if_true]
  exact bu.mpr h
theorem O9 {δ:ai} {fa:ai->Dm D} {R:Src->Store->Prop}:Wp (iA fa δ st) R↔Wp (fa δ st) fun a st1=>∃ ds,a=.tup ds/\R (.fix ds) st1:=by
 unfold iA;rw [dw]
 constructor <;> refine fun h=>a7 h fun a s h=>?_
 ·cases a <;> simp only [bu,eO] at h
  exact ⟨_,rfl,h⟩
 ·obtain ⟨j,rfl,h⟩:=h
  exact bu.mpr h
theorem Pa {δ:ai} {fa:ai->Dm D} {R:Src->Store->Prop}:Wp (kj fa δ st) R↔Wp (fa δ st) fun a st1=>∃ i ds,a=.ref i/\items st1 i=some ds/\R (.live i) st1:=by
 unfold kj;rw [dw]
 constructor <;> refine fun h=>a7 h fun a s h=>?_
 ·split at h
  ·split at h
   ·next i ds hd=>exact ⟨_,ds,rfl,hd,bu.mp h⟩
   ·exact (eO.mp h).elim
  ·exact (eO.mp h).elim
 ·obtain ⟨i,ds,rfl,hd,h⟩:=h
  simp only [hd]
  exact bu.mpr h
theorem Pb {δ:ai} {fa:ai->Dm (List D)} {R:Src->Store->Prop}:Wp (lr fa δ st) R↔Wp (fa δ st) fun as st1=>∃ ds,as=[.tup ds]/\R (.fix (kE ds)) st1:=by
 unfold lr;rw [dw]
 constructor <;> refine fun h=>a7 h fun as s h=>?_
 ·split at h
  ·exact ⟨_,rfl,bu.mp h⟩
  ·exact (eO.mp h).elim
 ·obtain ⟨ds,rfl,h⟩:=h
  exact bu.mpr h
theorem xW {i:Nat} {d:D} {δ:ai} {R:ai->Store->Prop}:Wp (hName i d δ st) R↔R (δ.set i (some d)) st:=bu
theorem Kc {δ:ai} {R:ai->Store->Prop}:Wp (mY [] δ st) R↔R δ st:=bu
theorem Ge {f:D->ai->Dm ai} {g:List D->ai->Dm ai} {d:D} {ds:List D} {δ:ai} {R:ai->Store->Prop}:Wp (fF f g (d :: ds) δ st) R↔Wp (f d δ st) fun δ1 st1=>Wp (g ds δ1 st1) R:=dw
theorem Kd {n:Nat} {f:List D->ai->Dm ai} {ds:List D} {δ:ai} {R:ai->Store->Prop}:Wp (ml n f (.tup ds) δ st) R↔ds.length=n/\Wp (f ds δ st) R:=by
 show Wp (if ds.length=n then f ds δ st else none) R↔_
 rw [mq,eO]
 split
 ·next h=>exact ⟨fun q=>⟨h,q⟩,fun q=>q.2⟩
 ·next h=>exact ⟨False.elim,fun q=>h q.1⟩
theorem Pc {fo fi:ai->Dm D} {d:D} {δ:ai} {R:ai->Store->Prop}:Wp (hSub fo fi d δ st) R↔Wp (fo δ st) fun o st1=>Wp (fi δ st1) fun i st2=>∃ r k xs j,o=.ref r/\i=.int k/\own st2 r=some xs/\kI xs.length k=some j/\R δ (st2.set r (.lst (xs.set j d))):=by
 unfold hSub;rw [dw];simp only [dw]
 constructor <;> refine fun h=>a7 h fun o s h=>a7 h fun i s2 h=>?_
 ·split at h
  ·split at h
   ·next xs hx =>
    split at h
    ·next j hj=>exact ⟨_,_,xs,j,rfl,rfl,hx,hj,bu.mp h⟩
    ·exact (eO.mp h).elim
   ·exact (eO.mp h).elim
  ·exact (eO.mp h).elim
 ·obtain ⟨r,k,xs,j,rfl,rfl,hx,hj,h⟩:=h
  simp only [hx,hj]
  exact bu.mpr h
theorem Pd {a:D} {c:String}:Wp (mj [a,.ty c] st) Q↔Am st a=some c/\Q (.bl true) st:=by
 constructor
 ·rintro ⟨b,s,e,q⟩
  simp only [mj] at e
  split at e
  ·next T hT =>
   split at e
   ·next h=>cases e;subst h;exact ⟨hT,q⟩
   ·cases e
  ·cases e
 ·rintro ⟨h,q⟩
  refine ⟨_,_,?_,q⟩
  simp only [mj,h,if_true]
theorem C9 {δ:ai} {R:Bool->Store->Prop}:Wp (hW δ st) R↔R true st:=bu
end
theorem Dc {α:Type} (x:α) (xs:List α):iu (x :: xs) 0=some x:=by
 unfold iu kI
 rw [if_pos (by decide),if_pos (by simp only [List.length_cons];omega)]
 rfl
theorem Dd {α:Type} (x y:α) (xs:List α):iu (x :: y :: xs) 1=some y:=by
 unfold iu kI
 rw [if_pos (by decide),if_pos (by simp only [List.length_cons];omega)]
 rfl
theorem wx {α:Type} {a:α} {l:List α}:(a :: l)[0]?=some a:=List.getElem?_cons_zero
theorem wy {α:Type} {a:α} {l:List α} {i:Nat}:(a :: l)[i + 1]?=l[i]?:=List.getElem?_cons_succ
theorem wz {α:Type} {a b:α} {l:List α}:(a :: l).set 0 b=b :: l:=List.set_cons_zero
theorem wD {α:Type} {a b:α} {l:List α} {i:Nat}:(a :: l).set (i + 1) b=a :: l.set i b:=List.set_cons_succ
theorem wF {α:Type} (a b:α):(some a=some b)=(a=b):=Option.some.injEq a b
theorem AK {α:Type} {p:α->Prop} {a':α}:(∃ a,a'=a/\p a)↔p a':=exists_eq_left'
theorem Gf {α:Type} {p:α->Prop} {a':α}:(∃ a,a=a'/\p a)↔p a':=exists_eq_left
theorem AL {α:Type} {p:α->Prop} {b:Prop}:(∃ x,b/\p x)↔b/\∃ x,p x:=exists_and_left
theorem AO (a b:Int):(D.int a=D.int b)=(a=b):=D.int.injEq a b
theorem Gg (a b:Bool):(D.bl a=D.bl b)=(a=b):=D.bl.injEq a b
theorem AQ (a b:Str):(D.str a=D.str b)=(a=b):=D.str.injEq a b
theorem AR (a b:List D):(D.tup a=D.tup b)=(a=b):=D.tup.injEq a b
theorem AU (a b:Nat):(D.ref a=D.ref b)=(a=b):=D.ref.injEq a b
theorem wG {α:Type} (a:α) (l:List α) (b:α) (m:List α):(a :: l=b :: m)=(a=b/\l=m):=List.cons.injEq a l b m
theorem wH {α β:Type} (a:α) (b:β) (c:α) (d:β):((a,b)=(c,d))=(a=c/\b=d):=Prod.mk.injEq a b c d
theorem wI (p:Prop):(p/\True)=p:=and_true p
theorem wJ (p:Prop):(True/\p)=p:=true_and p
theorem wK:(!true)=false:=rfl
theorem wL:(!false)=true:=rfl
theorem Gh:(false=true)=False:=by simp
theorem AV {α:Type} {h:Decidable False} (t e:α):@ite α False h t e=e:=if_false t e
theorem AW {α:Type} {h:Decidable True} (t e:α):@ite α True h t e=t:=if_true t e
def c6:=And.intro @vI (And.intro @Gd (And.intro @Au (And.intro @Av (And.intro @Aw (And.intro @vJ (And.intro @Ol (And.intro @vK (And.intro @vL (And.intro @Om (And.intro @vN (And.intro @vO (And.intro @Ax (And.intro @tf (And.intro @Oo (And.intro @vP (And.intro @Oq (And.intro @Ot (And.intro @Ou (And.intro @Ay (And.intro @Az (And.intro @vQ (And.intro @vR (And.intro @AA (And.intro @AB (And.intro @AE (And.intro @AF (And.intro @vS (And.intro @vT (And.intro @Ov (And.intro @vU (And.intro @vV (And.intro @vW (And.intro @vX (And.intro @vY (And.intro @vZ (And.intro @v9 (And.intro @wa (And.intro @Ow (And.intro @wb (And.intro @wc (And.intro @Ox (And.intro @Oy (And.intro @Oz (And.intro @OA (And.intro @OB (And.intro @OC (And.intro @OD (And.intro @OE (And.intro @OG (And.intro @OM (And.intro @OO (And.intro @wk (And.intro @OQ (And.intro @OR (And.intro @OS (And.intro @tu (And.intro @OU (And.intro @OV (And.intro @OW (And.intro @OX (And.intro @OY (And.intro @OZ (And.intro @O0 (And.intro @O1 (And.intro @O2 (And.intro @O3 (And.intro @wm (And.intro @O4 (And.intro @O5 (And.intro @O6 (And.intro @wo (And.intro @wt (And.intro @O7 (And.intro @O8 (And.intro @O9 (And.intro @Pa (And.intro @Pb (And.intro @xW (And.intro @Kc (And.intro @Ge (And.intro @Kd (And.intro @Pc (And.intro @Pd (And.intro @C9 (And.intro @Dc (And.intro @Dd (And.intro @wx (And.intro @wy (And.intro @wz (And.intro @wD (And.intro @wF (And.intro @AK (And.intro @Gf (And.intro @AL (And.intro @AO (And.intro @Gg (And.intro @AQ (And.intro @AR (And.intro @AU (And.intro @wG (And.intro @wH (And.intro @wI (And.intro @wJ (And.intro @wK (And.intro @wL (And.intro @Gh (And.intro @AV (@AW))))))))))))))))))))))))))))))))))))))))))))))))))))))))))))))))))))))))))))))))))))))))))))))))))))))))))))
theorem de {α:Type} {m:Option (α×Store)} {Q:α->Store->Prop} (h:∀ Q':α->Store->Prop,(∀ a st,Q a st->Q' a st)->Wp m Q'):Wp m Q:=h Q fun _ _ h=>h
end L4
namespace L4
open PySem PySem.Spec L2
section
variable {X:Cx} {K:PySem.W.Frag}
end
section
variable {st:Store} {Q:D->Store->Prop}
theorem Gi (n:Nat) (L:List Int):b9 (dc st (n + 1)) (L.map D.int)=some (cc L):=sT (f:=dc st (n + 1)) (g:=D.int) (k:=PyData.int) (fun _=>by simp only [dc]) L
theorem Gj (a b:List PyData):PyData.eqv (.list a) (.list b)=PyData.eqvAll a b:=by simp only [PyData.eqv]
theorem xX (a b:List PyData):PyData.eqv (.tuple a) (.tuple b)=PyData.eqvAll a b:=by simp only [PyData.eqv]
theorem Ke {neg:Bool} {a b:Nat} {L M:List Int} (ha:items st a=some (L.map D.int)) (hb:items st b=some (M.map D.int)):Wp (eZ neg (.ref a) (.ref b) st) Q↔Q (.bl (if neg then !decide (L=M) else decide (L=M))) st:=by
 have p1:∀ (i:Nat) (N:List Int),items st i=some (N.map D.int)->dc st 20 (.ref i)=some (.list (cc N)):=fun i N h=>by
  simp only [dc,h]
  rw [Gi];rfl
 have dp:∀ N:List Int,PyData.depth (.list (cc N))<=1:=fun N=>by show PyData.depthAll (cc N) + 1<=1;rw [uL];omega
 rw [C8]
 constructor
 ·rintro ⟨p,q,h1,h2,_,h⟩
  rw [p1 a L ha] at h1
  rw [p1 b M hb] at h2
  cases h1
  cases h2
  rw [Gj,uM] at h
  exact h
 ·intro h
  refine ⟨_,_,p1 a L ha,p1 b M hb,⟨qO L,qO M,by have:=dp L;omega⟩,?_⟩
  rw [Gj,uM]
  exact h
theorem Pe {neg:Bool} {L M:List Int}:Wp (eZ neg (.tup (L.map D.int)) (.tup (M.map D.int)) st) Q↔Q (.bl (if neg then !decide (L=M) else decide (L=M))) st:=by
 have p1:∀ (N:List Int),dc st 20 (.tup (N.map D.int))=some (.tuple (cc N)):=fun N=>by
  simp only [dc]
  rw [Gi];rfl
 have dp:∀ N:List Int,PyData.depth (.tuple (cc N))<=1:=fun N=>by show PyData.depthAll (cc N) + 1<=1;rw [uL];omega
 rw [C8]
 constructor
 ·rintro ⟨p,q,h1,h2,_,h⟩
  rw [p1 L] at h1
  rw [p1 M] at h2
  cases h1
  cases h2
  rw [xX,uM] at h
  exact h
 ·intro h
  refine ⟨_,_,p1 L,p1 M,⟨qO L,qO M,by have:=dp L;omega⟩,?_⟩
  rw [xX,uM]
  exact h
def AX (rs:List (List Int)):D:=.tup (rs.map fun r=>.tup (r.map D.int))
theorem Gk (rs:List (List Int)):dc st 20 (AX rs)=some (.tuple (rs.map d6)):=by
 unfold AX
 simp only [dc]
 rw [sT (f:=dc st 19) (g:=fun r:List Int=>D.tup (r.map D.int)) (k:=d6) (fun r=>by simp only [dc];rw [Gi];rfl) rs]
 rfl
theorem Gm:∀ (rs ss:List (List Int)),PyData.eqvAll (rs.map d6) (ss.map d6)=decide (rs=ss)
 | [],[]=>rfl
 | [],_ :: _=>rfl
 | _ :: _,[]=>rfl
 | r :: rs,s :: ss=>by
  show (PyData.eqv (d6 r) (d6 s) && PyData.eqvAll (rs.map d6) (ss.map d6))=decide (r :: rs=s :: ss)
  rw [Gm rs ss]
  unfold d6
  rw [xX,uM]
  by_cases h:r=s
  ·subst h;simp
  ·simp [h]
theorem Pf {neg:Bool} {rs ss:List (List Int)}:Wp (eZ neg (AX rs) (AX ss) st) Q↔Q (.bl (if neg then !decide (rs=ss) else decide (rs=ss))) st:=by
 have dp:∀ rs:List (List Int),PyData.depth (.tuple (rs.map d6))<=2:=fun N=>by show PyData.depthAll (N.map d6) + 1<=2;have:=Iz N;omega
 rw [C8]
 constructor
 ·rintro ⟨p,q,h1,h2,_,h⟩
  rw [Gk] at h1 h2
  cases h1
  cases h2
  rw [xX,Gm] at h
  exact h
 ·intro h
  refine ⟨_,_,Gk rs,Gk ss,⟨Fj rs,Fj ss,by have:=dp rs;omega⟩,?_⟩
  rw [xX,Gm]
  exact h
end
end L4
namespace L4
open PySem PySem.Spec L2
def bx (st:Store) (f:Nat):Prop:=∃ o m:Int,st[f]?=some (.lst [.int o,.int m])/\0<=o/\0<=m/\m < 4294967296
theorem AY:kI 2 0=some 0:=by decide
theorem AZ:kI 2 1=some 1:=by decide
theorem A0 (n:Nat):aI 0 n=(af.upto n).map D.int:=by
 unfold aI af.upto
 rw [List.map_map]
 apply List.map_congr_left
 intro i _
 simp
theorem Pg (L:List Int) (j:Nat):(L.map D.int).eraseIdx j=(L.eraseIdx j).map D.int:=by
 induction L generalizing j with
 | nil=>rfl
 | cons a r ih =>
  cases j with
  | zero=>rfl
  | succ j=>show D.int a :: (r.map D.int).eraseIdx j=_;rw [ih];rfl
theorem Ph {L:List Int} {j:Nat} (h:j < L.length):(L[j] :: L.eraseIdx j).Perm L:=by
 induction L generalizing j with
 | nil=>exact absurd h (Nat.not_lt_zero _)
 | cons a r ih =>
  cases j with
  | zero=>exact List.Perm.refl _
  | succ j =>
   have:=ih (j:=j) (by simpa using h)
   exact (List.Perm.swap _ _ _).trans (this.cons a)
theorem bx.keep {st st':Store} {f:Nat} (h:bx st f) (e:Ex [] st st'):bx st' f:=by
 obtain ⟨o,m,e1,r⟩:=h
 exact ⟨o,m,e.keep _ _ e1 (by simp),r⟩
theorem bx.ne {st:Store} {f i:Nat} {o:O} (h:bx st f) (hi:i≠f):bx (st.set i o) f:=by
 obtain ⟨x,m,e1,r⟩:=h
 exact ⟨x,m,by rw [List.getElem?_set_ne hi];exact e1,r⟩
theorem bx.lt {st:Store} {f:Nat} (h:bx st f):f < st.length:=let ⟨_,_,e,_⟩:=h;jf e
theorem wM {xs:List Int} {i:Int} (h0:0<=i) (h1:i < (xs.length:Int)):iu (xs.map D.int) i=some (.int (af.app xs i)):=by
 have e:(xs.map D.int)[i.toNat]?=some (.int (af.app xs i)):=by rw [List.getElem?_map,af.mS h0 h1];rfl
 have:=y2 e
 rwa [Int.toNat_of_nonneg h0] at this
theorem De {xs:List Int} {i:Nat} {d:D} (h:(xs.map D.int)[i]?=some d):∃ x,xs[i]?=some x/\d=.int x:=by
 rw [List.getElem?_map] at h
 obtain ⟨x,h1,h2⟩:=Option.map_eq_some_iff.mp h
 exact ⟨x,h1,h2.symm⟩
theorem Gn (x:Int):∀ (ns:List Int),r9 (.int x) (ns.map V.int)=ns.contains x
 | []=>rfl
 | n :: r=>by
  have e:=Gn x r
  unfold r9 at e ⊢
  rw [List.map_cons,List.any_cons,e,List.contains_cons]
  congr 1
  show (n == x)=(x == n)
  exact Bool.beq_comm
theorem Gp {st:Store} {Q:D->Store->Prop} {neg:Bool} {x:Int} {c:D} {ns:List Int} (hc:dj st c=some (ns.map D.int)):Wp (pW neg (.int x) c st) Q↔Q (.bl (if neg then !ns.contains x else ns.contains x)) st:=by
 rw [AJ]
 constructor
 ·rintro ⟨v,ds,vs,h1,h2,h3,h⟩
  cases h1
  rw [hc] at h2
  cases h2
  rw [Kb] at h3
  cases h3
  rw [Gn] at h
  exact h
 ·intro h
  refine ⟨_,_,_,rfl,hc,Kb ns,?_⟩
  rw [Gn]
  exact h
def cY (xs ys:List Int):D:=.tup [.tup (xs.map D.int),.tup (ys.map D.int)]
structure mr (j4 st:Store) (f r u:Nat) (n:Nat) (X Y:List Int):Prop where
 hr:st[r]?=some (.lst (X.map D.int))
 hu:st[u]?=some (.lst (Y.map D.int))
 ne:r≠u
 r0:j4.length<=r
 u0:j4.length<=u
 tX:af.Tn n X
 tY:af.Tn n Y
 fd:bx st f
 ex:Ex [f] j4 st
section
variable {j4 st st':Store} {f r u n:Nat} {X Y Z:List Int} {o:O}
theorem mr.keep (h:mr j4 st f r u n X Y) (e:Ex [] st st'):mr j4 st' f r u n X Y:=⟨e.keep _ _ h.hr (by simp),e.keep _ _ h.hu (by simp),h.ne,h.r0,h.u0,h.tX,h.tY,h.fd.keep e,h.ex.trans e.any⟩
theorem mr.wN (h:mr j4 st f r u n X Y) (t:af.Tn n Z):mr j4 (st ++ [.lst (Z.map D.int)]) f st.length u n Z Y:=⟨j5,lO h.hu,by have:=jf h.hu;omega,h.ex.len,h.u0,t,h.tY,h.fd.keep (Ex.cm _),h.ex.app _⟩
theorem mr.wO (h:mr j4 st f r u n X Y) (t:af.Tn n Z):mr j4 (st ++ [.lst (Z.map D.int)]) f r st.length n X Z:=⟨lO h.hr,j5,by have:=jf h.hr;omega,h.r0,h.ex.len,h.tX,t,h.fd.keep (Ex.cm _),h.ex.app _⟩
theorem mr.put (h:mr j4 st f r u n X Y) (t:af.Tn n Z) (hf:f < j4.length):mr j4 (st.set r (.lst (Z.map D.int))) f r u n Z Y:=⟨List.getElem?_set_self (jf h.hr),by rw [List.getElem?_set_ne h.ne];exact h.hu,h.ne,h.r0,h.u0,t,h.tY,h.fd.ne (by have:=h.r0;omega),h.ex.loc h.r0⟩
end
theorem Kf (n:Nat):(af.n5 n).map D.int=aI 1 ((n:Int) - 1).toNat ++ [.int 0]:=by
 unfold af.n5 aI
 rw [List.map_append,List.map_map,show ((n:Int) - 1).toNat=n - 1 by omega]
 rfl
theorem tG {lo hi:Int} (h:0<=lo/\lo<=10000/\0<=hi/\hi<=10000):oQ lo hi=true:=by
 unfold oQ;rw [Bool.and_eq_true,decide_eq_true_eq];exact ⟨by omega,jQ (by omega)⟩
theorem wR (w n:Nat):(af.pE w n).map D.int=aI 1 ((w:Int) - 1).toNat ++ [.int 0] ++ aI (w:Int) ((n:Int) - (w:Int)).toNat:=by
 unfold af.pE aI
 rw [List.map_append,List.map_append,List.map_map,List.map_map,show ((w:Int) - 1).toNat=w - 1 by omega,show ((n:Int) - (w:Int)).toNat=n - w by omega]
 rfl
theorem Gq (xs:List D) (j:Nat):cutD xs none (some (j:Int))=xs.take j:=by
 unfold cutD
 rw [HT.HI,HT.HJ,List.drop_zero,Nat.sub_zero,List.take_eq_take_iff];omega
theorem Pj (xs:List D) (i:Nat):cutD xs (some (i:Int)) none=xs.drop i:=by
 unfold cutD
 rw [HT.HJ,HT.HI]
 by_cases h:i<=xs.length
 ·rw [Nat.min_eq_left h,List.take_of_length_le (by rw [List.length_drop];exact Nat.le_refl _)]
 ·rw [Nat.min_eq_right (by omega),List.drop_eq_nil_of_le (Nat.le_refl _),List.drop_eq_nil_of_le (by omega)];simp
theorem wU {w n:Nat} (h0:0 < w) (h:w < n):(af.qW w n).map D.int=cutD ([D.int (w:Int)] ++ aI 1 ((w:Int) - 1).toNat ++ aI ((w:Int) + 1) ((n:Int) - ((w:Int) + 1)).toNat ++ [.int 0]) none (some (n:Int)):=by
 rw [Gq,List.take_of_length_le (by simp [jl];omega)]
 unfold af.qW aI
 rw [List.map_append,List.map_append,List.map_append,List.map_map,List.map_map,show ((w:Int) - 1).toNat=w - 1 by omega,show ((n:Int) - ((w:Int) + 1)).toNat=n - (w + 1) by omega]
 rfl
def kN (n:Nat) (xs ys:List Int):Prop:=af.Tn n xs/\af.Tn n ys/\∀ x:Int,0<=x->x < (n:Int)->af.ig xs ys x
def ng (S:Src) (ds:List D) (st:Store):Prop:=∀ (i:Nat) (st2:Store),i<=ds.length->Ex [] st st2->S.at i st2=some ds[i]?
theorem Pk {st st':Store} {r:Nat} {ds:List D} (h:items st r=some ds) (e:Ex [] st st'):items st' r=some ds:=by
 unfold items at h ⊢
 cases hx:st[r]? with
 | none=>rw [hx] at h;cases h
 | some o=>rw [e.keep _ _ hx (by simp)];rw [hx] at h;exact h
theorem Gr (ds:List D) (st:Store):ng (.fix ds) ds st:=fun i st2 hi _=>by
 show (if i<=ds.length then some ds[i]? else none)=_
 rw [if_pos hi]
theorem Kg {ds:List D} {st:Store} {r:Nat} (h:items st r=some ds):ng (.live r) ds st:=fun i st2 hi e=>by
 show (items st2 r).map _=_
 rw [Pk h e];rfl
theorem Kh {δ:ai} {st:Store} {fi:ai->Dm Src} {js:List Nat} {f:ai->Dm D} {Q:D->Store->Prop} (ds:List D) (h:D->D) (hi:Wp (fi δ st) fun S st1=>ng S ds st1/\Ex [] st st1) (hl:ds.length < 100000)
  (step:∀ d∈ds,∀ st1,Ex [] st st1->Wp (f (some d :: js.map fun j=>δ.getD j none) st1) fun y st2=>y=h d/\Ex [] st1 st2) (fin:∀ st',Ex [] st st'->Q (.ref st'.length) (st' ++ [.lst (ds.map h)])):Wp (e8 fi 1 js (hName 0) hW f δ st) Q:=by
 obtain ⟨S,st1,e1,hS,k1⟩:=hi
 refine AH ds (fun i ys δ' d9=>(∃ v,δ'=v :: js.map fun j=>δ.getD j none)/\ys=(ds.take i).map h/\Ex [] st1 d9) ⟨S,st1,e1,fun i ys δ' d9 hi' hp=>hS i d9 hi' hp.2.2,⟨none,rfl⟩,rfl,Ex.refl⟩ hl ?_ ?_ ?_
 ·rintro i ys δ' d9 ⟨_,rfl,_⟩
  rw [List.length_map,List.length_take];omega
 ·rintro i d ys δ' d9 hd ⟨⟨v,rfl⟩,rfl,k8⟩
  rw [xW]
  show Wp (hW _ _) _
  rw [C9]
  refine ⟨fun _=>?_,fun h=>absurd h (by decide)⟩
  refine a7 (step d (List.mem_of_getElem? hd) d9 (k1.trans k8)) ?_
  rintro y lV ⟨rfl,k9⟩
  refine ⟨⟨some d,rfl⟩,?_,k8.trans k9⟩
  obtain ⟨hlt,e⟩:=List.getElem?_eq_some_iff.mp hd
  rw [List.take_succ_eq_append_getElem hlt,List.map_append,e];rfl
 ·rintro ys δ' d9 ⟨_,rfl,k8⟩
  rw [List.take_length]
  exact fin d9 (k1.trans k8)
theorem Ki {xs:List Int} {d:D} (h:d∈xs.map D.int):∃ x∈xs,d=.int x:=by
 obtain ⟨x,hx,rfl⟩:=List.mem_map.mp h
 exact ⟨x,hx,rfl⟩
theorem Pm {xs:List Int} {f:Int->Int} {h:D->D} (e:∀ x∈xs,h (.int x)=.int (f x)):(xs.map D.int).map h=(xs.map f).map D.int:=by
 rw [List.map_map,List.map_map]
 exact List.map_congr_left fun x hx=>e x hx
def inD:D->Int
 | .int i=>i
 | _=>0
section
variable {st:Store} {Q:D->Store->Prop}
theorem A1 {neg:Bool} {xs ys zs ws:List Int}:Wp (eZ neg (cY xs ys) (cY zs ws) st) Q↔Q (.bl (if neg then !decide ([xs,ys]=[zs,ws]) else decide ([xs,ys]=[zs,ws]))) st:=Pf (rs:=[xs,ys]) (ss:=[zs,ws])
end
theorem _root_.af.rz {n:Nat} {xs ys p:List Int} (fl:kN n xs ys) (tp:af.Tn n p) (n0:0 < n):kN n (af.anew xs p) (af.anew ys p):=by
 obtain ⟨tx,ty,all⟩:=fl
 have tX:=tx.anew tp
 have tY:=ty.anew tp
 refine ⟨tX,tY,fun x x0 x1=>?_⟩
 obtain ⟨a0,a1⟩:=tp.app (i:=0) (by decide) (by omega)
 have hb:∀ y:Int,0<=y->y < (n:Int)->y∈af.bf (af.anew xs p) (af.anew ys p) (af.app p 0) n:=fun y y0 y1=>by
  rw [af.zG tx ty tp (by decide) (by omega) n]
  obtain ⟨b0,b1⟩:=tp.kJ y0 y1
  exact List.mem_map.mpr ⟨af.app (af.inv p) y,af.Ju tx ty (by decide) (by omega) all b0 b1,tp.cS y0 y1⟩
 have hF:=af.FG tX tY (s:=0) (by decide) (by omega)
 have nd:=af.uZ (af.anew xs p) (af.anew ys p) 0 n
 have bd:=af.oN tX tY (s:=0) (by decide) (by omega) n
 have Pn:∀ k,∀ y∈af.bf (af.anew xs p) (af.anew ys p) 0 k,af.ig (af.anew xs p) (af.anew ys p) y:=by
  intro k
  induction k with
  | zero=>intro y hy;rw [List.mem_singleton.mp (show y∈[(0:Int)] from hy)];exact .zero
  | succ k ih =>
   intro y hy
   have hy':y∈(match (af.bf (af.anew xs p) (af.anew ys p) 0 k)[k]? with | some x=>af.visit (af.anew xs p) (af.anew ys p) (af.bf (af.anew xs p) (af.anew ys p) 0 k) x | none=>af.bf (af.anew xs p) (af.anew ys p) 0 k):=hy
   split at hy'
   ·next z hz =>
    have sH:=ih z (List.mem_of_getElem? hz)
    rcases af.n8.mp hy' with hy' | rfl
    ·rcases af.n8.mp hy' with hy' | rfl
     ·exact ih y hy'
     ·exact sH.r
    ·exact sH.u
   ·exact ih y hy'
 refine Pn n x ?_
 have z0:(0:Int)∈af.bf (af.anew xs p) (af.anew ys p) 0 n:=by
  have:=af.uY (af.anew xs p) (af.anew ys p) 0 0 n
  rw [Nat.zero_add] at this
  exact this.subset (show (0:Int)∈[(0:Int)] by simp)
 have back:∀ k,(∃ y∈af.bf (af.anew xs p) (af.anew ys p) (af.app p 0) k,y∈af.bf (af.anew xs p) (af.anew ys p) 0 n)->af.app p 0∈af.bf (af.anew xs p) (af.anew ys p) 0 n:=by
  intro k
  induction k with
  | zero =>
   rintro ⟨y,hy,qR⟩
   rw [List.mem_singleton.mp (show y∈[af.app p 0] from hy)] at qR
   exact qR
  | succ k ih =>
   rintro ⟨y,hy,qR⟩
   have hy':y∈(match (af.bf (af.anew xs p) (af.anew ys p) (af.app p 0) k)[k]? with | some x=>af.visit (af.anew xs p) (af.anew ys p) (af.bf (af.anew xs p) (af.anew ys p) (af.app p 0) k) x | none=>af.bf (af.anew xs p) (af.anew ys p) (af.app p 0) k):=hy
   split at hy'
   ·next z hz =>
    have xJ:=List.mem_of_getElem? hz
    obtain ⟨c0,c1⟩:=af.oN tX tY a0 a1 k z xJ
    rcases af.n8.mp hy' with hy' | rfl
    ·rcases af.n8.mp hy' with hy' | rfl
     ·exact ih ⟨y,hy',qR⟩
     ·exact ih ⟨z,xJ,af.zF tX nd bd (fun x hx=>(hF x hx).1) c0 c1 qR⟩
    ·exact ih ⟨z,xJ,af.zF tY nd bd (fun x hx=>(hF x hx).2) c0 c1 qR⟩
   ·exact ih ⟨y,hy',qR⟩
 have hp0:=back n ⟨0,hb 0 (by decide) (by omega),z0⟩
 have fwd:∀ k,∀ y∈af.bf (af.anew xs p) (af.anew ys p) (af.app p 0) k,y∈af.bf (af.anew xs p) (af.anew ys p) 0 n:=by
  intro k
  induction k with
  | zero=>intro y hy;rw [List.mem_singleton.mp (show y∈[af.app p 0] from hy)];exact hp0
  | succ k ih =>
   intro y hy
   have hy':y∈(match (af.bf (af.anew xs p) (af.anew ys p) (af.app p 0) k)[k]? with | some x=>af.visit (af.anew xs p) (af.anew ys p) (af.bf (af.anew xs p) (af.anew ys p) (af.app p 0) k) x | none=>af.bf (af.anew xs p) (af.anew ys p) (af.app p 0) k):=hy
   split at hy'
   ·next z hz =>
    have sH:=ih z (List.mem_of_getElem? hz)
    rcases af.n8.mp hy' with hy' | rfl
    ·rcases af.n8.mp hy' with hy' | rfl
     ·exact ih y hy'
     ·exact (hF z sH).1
    ·exact (hF z sH).2
   ·exact ih y hy'
 exact fwd n x (hb x x0 x1)
end L4
namespace L4
open PySem PySem.Spec L2
theorem wV (p:Key×D) (r:List (Key×D)) (k:Key):dB (p :: r) k=if p.1=k then some p.2 else dB r k:=by
 unfold dB
 rw [List.find?_cons]
 by_cases e:p.1=k
 ·rw [decide_eq_true e,if_pos e];rfl
 ·rw [decide_eq_false e,if_neg e]
theorem Po (kvs:List (Key×D)) (k j:Key) (y:D):dB (putD kvs k y) j=if j=k then some y else dB kvs j:=by
 unfold putD
 by_cases a:(kvs.any fun kv=>decide (kv.1=k))=true
 ·rw [if_pos a]
  induction kvs with
  | nil=>simp at a
  | cons p r ih =>
   rw [List.map_cons,wV,wV]
   by_cases e:p.1=k
   ·rw [if_pos e]
    by_cases ej:j=k
    ·rw [if_pos ej,if_pos (show (p.1,y).1=j from e.trans ej.symm)]
    ·rw [if_neg ej,if_neg (show ¬ (p.1,y).1=j from fun z=>ej (z.symm.trans e)),if_neg (fun z=>ej (z.symm.trans e))]
     have:∀ l:List (Key×D),dB (l.map fun kv=>if kv.1=k then (kv.1,y) else kv) j=dB l j:=by
      intro l
      induction l with
      | nil=>rfl
      | cons q l ihl =>
       rw [List.map_cons,wV,wV,ihl]
       by_cases eq:q.1=k
       ·rw [if_pos eq,if_neg (show ¬ (q.1,y).1=j from fun z=>ej (z.symm.trans eq)),if_neg (fun z=>ej (z.symm.trans eq))]
       ·rw [if_neg eq]
     exact this r
   ·rw [if_neg e]
    have a':(r.any fun kv=>decide (kv.1=k))=true:=by
     rw [List.any_cons,decide_eq_false e,Bool.false_or] at a
     exact a
    rw [ih a']
    by_cases ej:j=k
    ·rw [if_pos ej,if_neg (fun z=>e (z.trans ej)),if_pos ej]
    ·rw [if_neg ej,if_neg ej]
 ·rw [if_neg a]
  induction kvs with
  | nil =>
   show dB [(k,y)] j=_
   rw [wV]
   by_cases ej:j=k
   ·rw [if_pos ej.symm,if_pos ej]
   ·rw [if_neg (fun z=>ej z.symm),if_neg ej]
  | cons p r ih =>
   have a':¬ (r.any fun kv=>decide (kv.1=k))=true:=fun z=>a (by rw [List.any_cons,z,Bool.or_true])
   have ep:p.1≠k:=fun z=>a (by rw [List.any_cons,decide_eq_true z,Bool.true_or])
   rw [List.cons_append,wV,ih a',wV]
   by_cases ej:j=k
   ·rw [if_pos ej,if_pos ej,if_neg (fun z=>ep (z.trans ej))]
   ·rw [if_neg ej,if_neg ej]
theorem Pp (kvs:List (Key×D)) (k:Key) (v:D):(putD kvs k v).length<=kvs.length + 1:=by
 unfold putD
 split
 ·rw [List.length_map];omega
 ·rw [List.length_append,List.length_cons,List.length_nil];omega
theorem Kj {st:Store} {i:Nat} {kvs:List (Key×D)} (h:st[i]?=some (.dct kvs)):iB st (.ref i)=some kvs:=by simp only [iB,h]
theorem Kk (i:Int):keyOf (.int i)=some (.inl i):=rfl
theorem Pq {r:List Int} {j:Nat} (h:j < r.length) (x:Int):(r.take (j + 1)).contains x=((r.take j).contains x || x == r[j]):=by
 rw [List.take_succ_eq_append_getElem h,List.contains_append]
 congr 1
 show ([r[j]]:List Int).contains x=(x == r[j])
 rw [List.contains_cons,List.contains_nil,Bool.or_false]
end L4
namespace L4
open PySem PySem.Spec L2
abbrev fB:=Bool×Int
def bS (s:fB):D:=.tup [.str (if s.1 then "s" else "t"),.int s.2]
end L4
namespace L4
open PySem PySem.Spec L2
section
variable {X:Cx} {K:PySem.W.Frag}
end
end L4
namespace L4
open PySem PySem.Spec L2
section
variable {K:PySem.W.Frag}
end
section
variable {X:Cx}
end
theorem at2 {α:Type} (x y z:α) (xs:List α):iu (x :: y :: z :: xs) 2=some z:=by
 unfold iu kI
 rw [if_pos (by decide),if_pos (by simp only [List.length_cons];omega)]
 rfl
theorem Kl {α:Type} (x y z u:α) (xs:List α):iu (x :: y :: z :: u :: xs) 3=some u:=by
 unfold iu kI
 rw [if_pos (by decide),if_pos (by simp only [List.length_cons];omega)]
 rfl
section
variable {st:Store} {Q:D->Store->Prop}
end
theorem Pr {st:Store} {Q:D->Store->Prop} {k:Nat}:Wp (oj (.ref k) st) Q↔∃ ds,items st k=some ds/\Q (.ref st.length) (st ++ [.lst ds.reverse]):=by
 show Wp (match items st k with | some ds=>some (D.ref st.length,st ++ [O.lst ds.reverse]) | none=>none) Q↔_
 cases items st k with
 | none=>rw [eO];exact ⟨False.elim,fun ⟨_,e,_⟩=>by cases e⟩
 | some ds=>rw [bu];exact ⟨fun q=>⟨ds,rfl,q⟩,fun ⟨_,e,q⟩=>by cases e;exact q⟩
theorem Pt {δ:ai} {st:Store} {fi:ai->Dm Src} {js:List Nat} {f:ai->Dm D} {Q:D->Store->Prop} (ds:List D) (P:Nat->D->Prop) (I:Store->Prop)
  (hi:Wp (fi δ st) fun S st1=>(∀ i st2,i<=ds.length->I st2->S.at i st2=some ds[i]?)/\I st1) (hl:ds.length < 100000)
  (step:∀ i d,ds[i]?=some d->∀ st1,I st1->Wp (f (some d :: js.map fun j=>δ.getD j none) st1) fun y st2=>P i y/\I st2)
  (fin:∀ ys st',I st'->ys.length=ds.length->(∀ i y,ys[i]?=some y->P i y)->Q (.ref st'.length) (st' ++ [.lst ys])):Wp (e8 fi 1 js (hName 0) hW f δ st) Q:=by
 obtain ⟨S,st1,e1,hS,k1⟩:=hi
 refine AH ds (fun i ys δ' d9=>(∃ v,δ'=v :: js.map fun j=>δ.getD j none)/\ys.length=i/\(∀ i y,ys[i]?=some y->P i y)/\I d9) ⟨S,st1,e1,fun i ys δ' d9 hi' hp=>hS i d9 hi' hp.2.2.2,⟨none,rfl⟩,rfl,(fun i y h=>by simp at h),k1⟩ hl ?_ ?_ ?_
 ·rintro i ys δ' d9 ⟨_,h,_⟩
  omega
 ·rintro i d ys δ' d9 hd ⟨⟨v,rfl⟩,hlen,hP,k8⟩
  rw [xW]
  show Wp (hW _ _) _
  rw [C9]
  refine ⟨fun _=>?_,fun h=>absurd h (by decide)⟩
  refine a7 (step i d hd d9 k8) ?_
  rintro y lV ⟨hp,k9⟩
  refine ⟨⟨some d,rfl⟩,by rw [List.length_append,hlen];rfl,fun j z hz=>?_,k9⟩
  by_cases hj:j < ys.length
  ·rw [List.getElem?_append_left hj] at hz;exact hP j z hz
  ·have hb:=jf hz
   rw [List.length_append,List.length_singleton] at hb
   have e:j=ys.length:=by omega
   subst e
   rw [List.getElem?_append_right (Nat.le_refl _),Nat.sub_self] at hz
   cases hz
   rw [hlen];exact hp
 ·rintro ys δ' d9 ⟨_,hlen,hP,k8⟩
  exact fin ys d9 k8 hlen hP
end L4
namespace L4
open PySem PySem.Spec L2
def Gs (x:Str):List D:=x.cps.toList.map fun c=>.str ⟨#[c]⟩
section
variable {K:PySem.W.Frag}
end
section
variable {st:Store} {Q:D->Store->Prop}
end
end L4
namespace L4
open PySem PySem.Spec L2
section
variable {K:PySem.W.Frag}
end
section
variable {st:Store}
end
section
variable {X:Cx} {K:PySem.W.Frag}
end
structure o8 (K:PySem.W.Frag) (mg:Str->Option Value) (x:Str) (v:V) (d:D):Prop where
 ex:∃ u,mg x=some u/\RelV v u
 rp:∀ (ρ:List Addr) (H:Hp),Rp K ρ H v d
theorem Gu {X:Cx} {K:PySem.W.Frag} {mg:Str->Option Value} {x:Str} {v:V} {d:D} {pos:Pos} (C:o8 K mg x v d) (hg:Gl X x) (hX:X.mg=mg) (hd:(x == ("__debug__" : Str))=false):PE X (.Name x pos) (tC v):=by
 obtain ⟨u,h,r⟩:=C.ex
 subst hX
 exact Ll hg h r hd
theorem Gv {K:PySem.W.Frag} {mg:Str->Option Value} {x:Str} {v:V} {d:D} (C:o8 K mg x v d):fD K (tC v) (fC d):=rg C.rp
theorem Km {K:PySem.W.Frag} {h:Heap} {mg:Str->Option Value} (X:K.In h) (G:h.Ns mainGlobals mg) {x:Str} {a:Addr} {od:Option Addr} {its:Array Value} {n:Nat} {sl:Array (Option Value)} {vs:List V} {ds:List D} (e:PySem.W.nsIn K mainGlobals x=some (some (.ref a))) (l:K.lookup a=some ⟨.type "tuple",od,.seq its n,sl⟩)
  (ho:od=none) (hz:its.size<=sizeLine) (hv:Vals vs its.toList) (hd:∀ (ρ:List Addr) (H:Hp),cw K ρ H vs ds):∃ v,o8 K mg x v (.tup ds) :=
 ⟨.ref a,⟨_,PySem.W.mg_of X G e,rfl⟩,fun ρ H=>.tup (.inr ⟨_,its,n,l,rfl,ho,rfl,hz,hv⟩) (hd ρ H)⟩
theorem Pu {δ:ai} {st:Store} {fi:ai->Dm Src} {js:List Nat} {f:ai->Dm D} {Q:D->Store->Prop} (ps:List (D×D)) (h:D×D->D) (hi:Wp (fi δ st) fun S st1=>ng S (ps.map fun p=>.tup [p.1,p.2]) st1/\Ex [] st st1) (hl:ps.length < 100000)
  (step:∀ p∈ps,∀ st1,Ex [] st st1->Wp (f (some p.1 :: some p.2 :: js.map fun j=>δ.getD j none) st1) fun y st2=>y=h p/\Ex [] st1 st2) (fin:∀ st',Ex [] st st'->Q (.ref st'.length) (st' ++ [.lst (ps.map h)])):Wp (e8 fi 2 js (ml 2 (fF (hName 0) (fF (hName 1) mY))) hW f δ st) Q:=by
 obtain ⟨S,st1,e1,hS,k1⟩:=hi
 refine AH (ps.map fun p=>.tup [p.1,p.2]) (fun i ys δ' d9=>(∃ v w,δ'=v :: w :: js.map fun j=>δ.getD j none)/\ys=(ps.take i).map h/\Ex [] st1 d9) ⟨S,st1,e1,fun i ys δ' d9 hi' hp=>hS i d9 hi' hp.2.2,⟨none,none,rfl⟩,rfl,Ex.refl⟩ (by rw [List.length_map];exact hl) ?_ ?_ ?_
 ·rintro i ys δ' d9 ⟨_,rfl,_⟩
  rw [List.length_map,List.length_take];omega
 ·rintro i d ys δ' d9 hd ⟨⟨v,w,rfl⟩,rfl,k8⟩
  rw [List.getElem?_map] at hd
  obtain ⟨p,hp,rfl⟩:=Option.map_eq_some_iff.mp hd
  rw [Kd]
  refine ⟨rfl,?_⟩
  rw [Ge,xW,Ge,xW,Kc]
  show Wp (hW _ _) _
  rw [C9]
  refine ⟨fun _=>?_,fun h=>absurd h (by decide)⟩
  refine a7 (step p (List.mem_of_getElem? hp) d9 (k1.trans k8)) ?_
  rintro y lV ⟨rfl,k9⟩
  refine ⟨⟨some p.1,some p.2,rfl⟩,?_,k8.trans k9⟩
  obtain ⟨hlt,e⟩:=List.getElem?_eq_some_iff.mp hp
  rw [List.take_succ_eq_append_getElem hlt,List.map_append,e];rfl
 ·rintro ys δ' d9 ⟨_,rfl,k8⟩
  rw [List.length_map,List.take_length]
  exact fin d9 (k1.trans k8)
end L4
namespace L4
open PySem PySem.Spec L2
def pU:Nat->D->Prop
 | _,.int _=>True
 | _,.str x=>PyData.canLay0 (.str x)=true
 | _,.non=>True
 | n + 1,.tup ds=>∀ d∈ds,pU n d
 | _,_=>False
def jR:Nat->D->PyData
 | _,.int i=>.int i
 | _,.str x=>.str x
 | n + 1,.tup ds=>.tuple (ds.map (jR n))
 | _,_=>.none
theorem Gw {α β:Type} {f:α->Option β} {g:α->β}:∀ {l:List α},(∀ x∈l,f x=some (g x))->b9 f l=some (l.map g)
 | [],_=>rfl
 | a :: r,h=>by
  have h1:=h a List.mem_cons_self
  have h2:=Gw (f:=f) (g:=g) (l:=r) fun x hx=>h x (List.mem_cons_of_mem _ hx)
  simp only [b9,h1,h2,List.map_cons]
theorem tH:∀ (n:Nat) (d:D),pU n d->∀ (m:Nat),n < m->∀ st,dc st m d=some (jR n d)
 | n,.int i,_,m + 1,_,st=>by cases n <;> rfl
 | n,.str x,_,m + 1,_,st=>by cases n <;> rfl
 | n,.non,_,m + 1,_,st=>by cases n <;> rfl
 | n,.bl b,h,_,_,_=>by cases n <;> exact h.elim
 | n,.ty b,h,_,_,_=>by cases n <;> exact h.elim
 | n,.ref b,h,_,_,_=>by cases n <;> exact h.elim
 | 0,.tup ds,h,_,_,_=>h.elim
 | n + 1,.tup ds,h,m + 1,hm,st=>by
  simp only [dc]
  rw [Gw (g:=jR n) fun x hx=>tH n x (h x hx) m (by omega) st]
  rfl
theorem Gx:∀ {l:List PyData},(∀ x∈l,x.canLay0=true)->PyData.canLayAll0 l=true
 | [],_=>rfl
 | a :: r,h=>by
  simp only [PyData.canLayAll0,h a List.mem_cons_self,Gx fun x hx=>h x (List.mem_cons_of_mem _ hx),Bool.and_self]
theorem Gy {n:Nat}:∀ {l:List PyData},(∀ x∈l,x.depth<=n)->PyData.depthAll l<=n
 | [],_=>Nat.zero_le _
 | a :: r,h=>by
  have h1:=h a List.mem_cons_self
  have h2:=Gy fun x hx=>h x (List.mem_cons_of_mem _ hx)
  simp only [PyData.depthAll]
  omega
theorem Df:∀ (n:Nat) (d:D),pU n d->(jR n d).canLay0=true/\(jR n d).depth<=n
 | n,.int i,_=>by cases n <;> exact ⟨rfl,Nat.zero_le _⟩
 | n,.str x,h=>by cases n <;> exact ⟨h,Nat.zero_le _⟩
 | n,.non,_=>by cases n <;> exact ⟨rfl,Nat.zero_le _⟩
 | n,.bl b,h=>by cases n <;> exact h.elim
 | n,.ty b,h=>by cases n <;> exact h.elim
 | n,.ref b,h=>by cases n <;> exact h.elim
 | 0,.tup ds,h=>h.elim
 | n + 1,.tup ds,h=>by
  refine ⟨?_,?_⟩
  ·show PyData.canLayAll0 (ds.map (jR n))=true
   exact Gx fun x hx=>by
    obtain ⟨d,hd,rfl⟩:=List.mem_map.mp hx
    exact (Df n d (h d hd)).1
  ·show PyData.depthAll (ds.map (jR n)) + 1<=n + 1
   have:=Gy (n:=n) (l:=ds.map (jR n)) fun x hx=>by
    obtain ⟨d,hd,rfl⟩:=List.mem_map.mp hx
    exact (Df n d (h d hd)).2
   omega
theorem Gz {n:Nat} (ih:∀ a b:D,pU n a->pU n b->(PyData.eqv (jR n a) (jR n b)=true↔a=b)):∀ (l m:List D),(∀ x∈l,pU n x)->(∀ x∈m,pU n x)->(PyData.eqvAll (l.map (jR n)) (m.map (jR n))=true↔l=m)
 | [],[],_,_=>by simp [PyData.eqvAll]
 | [],_ :: _,_,_=>by simp [PyData.eqvAll]
 | _ :: _,[],_,_=>by simp [PyData.eqvAll]
 | a :: l,b :: m,h1,h2=>by
  have e1:=ih a b (h1 a List.mem_cons_self) (h2 b List.mem_cons_self)
  have e2:=Gz ih l m (fun x hx=>h1 x (List.mem_cons_of_mem _ hx)) fun x hx=>h2 x (List.mem_cons_of_mem _ hx)
  simp only [List.map_cons,PyData.eqvAll,Bool.and_eq_true,e1,e2,List.cons.injEq]
theorem A2:∀ (n:Nat) (a b:D),pU n a->pU n b->(PyData.eqv (jR n a) (jR n b)=true↔a=b):=by
 intro n
 induction n with
 | zero =>
  intro a b ha hb
  cases a <;> first | exact ha.elim | skip
  all_goals (cases b <;> first | exact hb.elim | simp [jR,PyData.eqv])
 | succ n ih =>
  intro a b ha hb
  cases a <;> first | exact ha.elim | skip
  all_goals (cases b <;> first | exact hb.elim | skip)
  all_goals first
   | (simp [jR,PyData.eqv];done)
   | skip
  next l m =>
   have:=Gz ih l m ha hb
   show PyData.eqv (.tuple (l.map (jR n))) (.tuple (m.map (jR n)))=true↔_
   rw [xX,this]
   constructor
   ·rintro rfl;rfl
   ·intro h;exact D.tup.inj h
theorem Kn (n:Nat) (L:List Int):pU (n + 1) (.tup (L.map D.int)):=fun d hd=>by
 obtain ⟨x,_,rfl⟩:=List.mem_map.mp hd
 cases n <;> trivial
end L4
namespace L4
open PySem PySem.Spec L2
section
variable {K:PySem.W.Frag}
theorem GA {ρ:List Addr} {H:Hp} {st:Store} (l:Rl K ρ H st) (n:Nat):∀ {vs:List V} {ds:List D} {ps:List PyData},cw K ρ H vs ds->b9 (dc st n) ds=some ps->gy K H vs ps
 | _,_,_,.nil,h=>by cases h;exact .nil
 | _,_,_,.cons a b,h=>by
  obtain ⟨x,t,h1,h2,rfl⟩:=sS h
  exact .cons (C1 l n a h1) (GA l n b h2)
end
end L4
namespace L4
open PySem PySem.Spec L2
def Dg:D->Option (List D)
 | .tup ds=>some ds
 | .str x=>if x.length<=sizeLine then some (Gs x) else none
 | _=>none
def oq (fa:ai->Dm (List D)):ai->Dm Src:=fun δ st=>bnd (fa δ st) fun as st1=>match as with
 | [a]=>match Dg a with
  | some ds=>some (.fix ds.reverse,st1)
  | none=>none
 | _=>none
section
variable {K:PySem.W.Frag}
theorem A3 {ρ:List Addr} {H:Hp} {x:V} {a:D} {ds:List D} (r:Rp K ρ H x a) (h:Dg a=some ds):∃ src:ZS,src.val K H x/\(∀ a,src≠.lst a)/\(∀ z,src=.str z->z.length<=sizeLine)/\∀ (ρ2:List Addr) (H2:Hp),Mn K ρ H ρ2 H2->∀ i,(∀ d,ds[i]?=some d->∃ v,src.has K H2 i v/\Rp K ρ2 H2 v d)/\(i=ds.length->src.fin K H2 i):=by
 cases r with
 | non=>cases h
 | bl b=>cases h
 | int i=>cases h
 | ty n=>cases h
 | ref e=>cases h
 | str x =>
  unfold Dg at h
  simp only at h
  split at h
  ·next hx =>
   cases h
   refine ⟨.str x,rfl,nofun,fun z e=>by cases e;exact hx,fun ρ2 H2 m i=>⟨fun d hd=>?_,fun e=>?_⟩⟩
   ·unfold Gs at hd
    rw [List.getElem?_map] at hd
    obtain ⟨c,hc,rfl⟩:=Option.map_eq_some_iff.mp hd
    have hc':x.cps[i]?=some c:=by simpa using hc
    exact ⟨_,⟨c,hc',rfl⟩,.str _⟩
   ·show x.cps.size=i
    rw [e];simp [Gs]
  ·cases h
 | tup s r =>
  cases h
  refine ⟨.tup _,⟨rfl,_,s⟩,nofun,nofun,fun ρ2 H2 m i=>⟨fun d hd=>?_,fun e=>?_⟩⟩
  ·obtain ⟨v,hv,rv⟩:=r.got hd
   exact ⟨v,⟨_,m.t _ _ s,hv⟩,rv.mn m⟩
  ·exact ⟨_,m.t _ _ s,by rw [r.length];exact e.symm⟩
theorem Pw {t:TA} {fa:ai->Dm (List D)} (ha:oU K t fa):vE K (zu K t) (oq fa):=by
 intro ρ σ H δ st S st' Q l rs e q
 obtain ⟨as,st1,e1,e⟩:=dP e
 split at e
 ·next a =>
  split at e
  ·next ds h1 =>
   cases e
   refine ha ρ σ H δ st _ _ _ l rs e1 fun xs H1 ρ1 m1 l1 r1=>?_
   obtain ⟨x,rfl,rx⟩:=r1.one'
   obtain ⟨s1,v1,nl,hz,g1⟩:=A3 rx h1
   refine ⟨x,s1,ds.length,rfl,v1,(g1 ρ1 H1 Mn.refl ds.length).2 rfl,nl,hz,q _ H1 ρ1 m1 l1 fun ρ2 H2 st2 i m2 l2=>⟨fun h=>?_,fun d h=>?_⟩⟩
   ·obtain ⟨hl,hn⟩:=sX h
    have:=List.getElem?_eq_none_iff.mp hn
    simp only [List.length_reverse] at this hl
    exact (show i=ds.length by omega)
   ·have hd:=(sX h).2
    have hi:i < ds.length:=by simpa using (List.getElem?_eq_some_iff.mp hd).1
    rw [List.getElem?_reverse hi] at hd
    obtain ⟨v,hv,rv⟩:=(g1 ρ2 H2 m2 _).1 d hd
    refine ⟨⟨hi,v,hv⟩,fun z H3 hz=>?_⟩
    obtain ⟨rfl,k1⟩:=hz
    cases k1 _ hv
    exact ⟨Mn.refl,l2,rv⟩
  ·cases e
 ·cases e
end
section
variable {st:Store}
theorem Px {δ:ai} {fa:ai->Dm (List D)} {R:Src->Store->Prop}:Wp (oq fa δ st) R↔Wp (fa δ st) fun as st1=>∃ a ds,as=[a]/\Dg a=some ds/\R (.fix ds.reverse) st1:=by
 unfold oq;rw [dw]
 constructor <;> refine fun h=>a7 h fun as s h=>?_
 ·split at h
  ·next a =>
   split at h
   ·next ds h1=>exact ⟨a,ds,rfl,h1,bu.mp h⟩
   ·exact (eO.mp h).elim
  ·exact (eO.mp h).elim
 ·obtain ⟨a,ds,rfl,h1,h⟩:=h
  simp only [h1]
  exact bu.mpr h
end
end L4
namespace L4
open PySem PySem.Spec L2
def dA (i j:Int):Bool:=(decide (-18446744073709551616 < i/\i < 18446744073709551616) || decide (-18446744073709551616 < j/\j < 18446744073709551616)) || (decide (i.natAbs < qT) && decide (j.natAbs < qT))
def d3:D->D->Dm D:=rj dA fun i j=>.int (i * j)
section
variable {K:PySem.W.Frag}
theorem ot:kT K (rI nX fun i j=>.int (i * j)) d3:=xO (fun i j h=>by
 unfold dA at h
 rw [Bool.or_eq_true,Bool.or_eq_true,Bool.and_eq_true,decide_eq_true_eq,decide_eq_true_eq,decide_eq_true_eq,decide_eq_true_eq] at h
 exact h) fun _ _ _ _=>.int _
end
section
variable {st:Store} {Q:D->Store->Prop}
theorem GB {i j:Int}:Wp (d3 (.int i) (.int j) st) Q↔dA i j=true/\Q (.int (i * j)) st:=by
 unfold d3;rw [xU]
theorem GC {i j:Int} (h:i.natAbs < 18446744073709551616):dA i j=true:=by
 unfold dA
 rw [decide_eq_true (show -18446744073709551616 < i/\i < 18446744073709551616 by omega)]
 rfl
end
end L4
namespace L4
open PySem PySem.Spec L2
section
variable {K:PySem.W.Frag}
end
end L4
namespace L4
open PySem PySem.Spec L2
section
variable {K:PySem.W.Frag}
end
end L4
namespace L4
open PySem PySem.Spec L2
section
variable {K:PySem.W.Frag}
end
end L4
namespace L4
open PySem PySem.Spec L2
section
variable {K:PySem.W.Frag}
end
section
variable {δ:ai} {st:Store} {N B C:ai->Store->Prop} {R:D->Store->Prop}
end
end L4
namespace L4
open PySem PySem.Spec L2
section
variable {K:PySem.W.Frag}
end
section
variable {δ:ai} {st:Store} {N B C:ai->Store->Prop} {R:D->Store->Prop}
end
end L4
namespace L4
open PySem PySem.Spec L2
def ou (ps:List PyData):Bool:=decide (0 < ps.length) && ps.all (fun a=>ps.all fun b=>eX a b) && ps.all fun a=>a.canLay0 && decide (a.depth<=50)
def lu:List D->Dm D
 | [.ref r],st=>match own st r with
  | some ds=>match b9 (dc st 20) ds with
   | some ps=>if ou ps=true then (match ds[lU ps]? with | some d=>some (d,st) | none=>none) else none
   | none=>none
  | none=>none
 | _,_=>none
section
variable {K:PySem.W.Frag}
theorem Py:pL K (sr K) lu:=by
 intro ρ H st xs as b st' Q l rx e q
 unfold lu at e
 split at e
 ·next r j4 =>
  split at e
  ·next ds hd =>
   split at e
   ·next ps hp =>
    split at e
    ·next hok =>
     split at e
     ·next d hd0 =>
      cases e
      obtain ⟨v,rfl,r⟩:=rx.one'
      cases r with
      | ref hi =>
       obtain ⟨vs,hs,rr⟩:=l.items hi (fz (pT hd))
       obtain ⟨v,hv,rv⟩:=rr.got hd0
       simp only [ou,Bool.and_eq_true,decide_eq_true_eq,List.all_eq_true] at hok
       exact ⟨_,vs,ps,rfl,hs,GA l 20 rr hp,hok.1.1,hok.1.2,hok.2,v,hv,q v H ρ .refl l rv⟩
     ·cases e
    ·cases e
   ·cases e
  ·cases e
 ·cases e
end
theorem Pz {st:Store} {Q:D->Store->Prop} {r:Nat} {ds:List D} {ps:List PyData} (h:own st r=some ds) (hp:b9 (dc st 20) ds=some ps) (hok:ou ps=true) {d:D} (hd:ds[lU ps]?=some d):Wp (lu [.ref r] st) Q↔Q d st:=by
 have e:lu [.ref r] st=some (d,st):=by simp only [lu,h,hp,hok,hd,if_true]
 rw [e,bu]
def tupI (xs:List Int):PyData:=.tuple (xs.map PyData.int)
def ju (p:af.b7):PyData:=.tuple [tupI p.1,tupI p.2]
theorem GD:∀ xs ys:List Int,cG (xs.map PyData.int) (ys.map PyData.int)=af.nu xs ys
 | [],[]=>rfl
 | [],_ :: _=>rfl
 | _ :: _,[]=>rfl
 | x :: xs,y :: ys=>by
  show (if (x == y)=true then cG (xs.map PyData.int) (ys.map PyData.int) else decide (x < y))=if x=y then af.nu xs ys else decide (x < y)
  rw [GD xs ys]
  by_cases h:x=y
  ·rw [if_pos h,if_pos (by simp [h])]
  ·rw [if_neg h,if_neg (by simp [h])]
theorem Ko (xs ys:List Int):PyData.eqv (tupI xs) (tupI ys)=decide (xs=ys):=uM xs ys
theorem PB (p q:af.b7):j3 (ju p) (ju q)=af.ll p q:=by
 show (if PyData.eqv (tupI p.1) (tupI q.1)=true then (if PyData.eqv (tupI p.2) (tupI q.2)=true then false else cG (p.2.map PyData.int) (q.2.map PyData.int)) else cG (p.1.map PyData.int) (q.1.map PyData.int))=if p.1=q.1 then af.nu p.2 q.2 else af.nu p.1 q.1
 rw [Ko,Ko,GD,GD]
 by_cases a:p.1=q.1
 ·rw [if_pos a,if_pos (decide_eq_true a)]
  by_cases b:p.2=q.2
  ·rw [if_pos (decide_eq_true b),b,af.CN]
  ·rw [if_neg (by simp [b])]
 ·rw [if_neg a,if_neg (by simp [a])]
theorem Dh:∀ xs ys:List Int,c3 (xs.map PyData.int) (ys.map PyData.int)=true
 | [],_=>rfl
 | _ :: _,[]=>rfl
 | x :: xs,y :: ys=>by show (true && c3 (xs.map PyData.int) (ys.map PyData.int))=true;rw [Dh xs ys];rfl
theorem PD (p q:af.b7):eX (ju p) (ju q)=true:=by
 show (c3 (p.1.map PyData.int) (q.1.map PyData.int) && (c3 (p.2.map PyData.int) (q.2.map PyData.int) && true))=true
 rw [Dh,Dh];rfl
theorem PH (p:af.b7):(ju p).canLay0=true/\(ju p).depth<=50:=by
 refine ⟨?_,?_⟩
 ·show (PyData.canLayAll0 (cc p.1) && (PyData.canLayAll0 (cc p.2) && true))=true
  rw [qO,qO];rfl
 ·show max (PyData.depthAll (cc p.1) + 1) (max (PyData.depthAll (cc p.2) + 1) 0) + 1<=50
  rw [uL,uL];decide
theorem Kq (l:List af.b7):∀ k,k < l.length->l[argBest (fun i j=>af.ll (l.getD i ([],[])) (l.getD j ([],[]))) k]?=some (af.lp (l.take (k + 1)))
 | 0,h=>by
  cases l with
  | nil=>simp at h
  | cons p l=>rfl
 | k + 1,h=>by
  have ih:=Kq l k (by omega)
  generalize hb:argBest (fun i j=>af.ll (l.getD i ([],[])) (l.getD j ([],[]))) k=b at ih
  have e1:l.getD b ([],[])=af.lp (l.take (k + 1)):=by rw [List.getD_eq_getElem?_getD,ih];rfl
  have e2:af.lp (l.take (k + 1 + 1))=if af.ll (l.getD (k + 1) ([],[])) (af.lp (l.take (k + 1))) then l.getD (k + 1) ([],[]) else af.lp (l.take (k + 1)):=by
   have et:l.take (k + 1 + 1)=l.take (k + 1) ++ [l.getD (k + 1) ([],[])]:=by
    rw [List.take_succ_eq_append_getElem h,List.getD_eq_getElem?_getD,List.getElem?_eq_getElem h];rfl
   rw [et]
   cases l with
   | nil=>simp at h
   | cons p l =>
    show ((l.take k ++ [_]).foldl _ p)=_
    rw [List.foldl_append]
    rfl
  show l[if (af.ll (l.getD (k + 1) ([],[])) (l.getD (argBest _ k) ([],[])))=true then k + 1 else argBest _ k]?=_
  rw [hb,e1,e2]
  split
  ·rw [List.getD_eq_getElem?_getD,List.getElem?_eq_getElem h];rfl
  ·exact ih
theorem PJ (st:Store) (p:af.b7):dc st 20 (cY p.1 p.2)=some (ju p):=by
 have h:∀ (m:Nat) (xs:List Int),b9 (dc st (m + 1)) (xs.map D.int)=some (xs.map PyData.int):=fun m xs=>by
  have:=sT (f:=dc st (m + 1)) (g:=D.int) (k:=PyData.int) (fun _=>rfl) xs
  exact this
 show (b9 (dc st 19) [D.tup (p.1.map D.int),D.tup (p.2.map D.int)]).map PyData.tuple=_
 have e1:dc st 19 (D.tup (p.1.map D.int))=some (tupI p.1):=by show (b9 (dc st 18) (p.1.map D.int)).map PyData.tuple=_;rw [h];rfl
 have e2:dc st 19 (D.tup (p.2.map D.int))=some (tupI p.2):=by show (b9 (dc st 18) (p.2.map D.int)).map PyData.tuple=_;rw [h];rfl
 simp only [b9,e1,e2]
 rfl
theorem PK {st:Store} {Q:D->Store->Prop} {r:Nat} {l:List af.b7} (h:own st r=some (l.map fun p=>cY p.1 p.2)) (hn:0 < l.length):Wp (lu [.ref r] st) Q↔Q (cY (af.lp l).1 (af.lp l).2) st:=by
 have hp:b9 (dc st 20) (l.map fun p=>cY p.1 p.2)=some (l.map ju):=sT (f:=dc st 20) (g:=fun p:af.b7=>cY p.1 p.2) (k:=ju) (fun p=>PJ st p) l
 refine Pz h hp ?_ ?_
 ·simp only [ou,Bool.and_eq_true,decide_eq_true_eq,List.all_eq_true,List.length_map]
  refine ⟨⟨hn,fun a ha b hb=>?_⟩,fun a ha=>?_⟩
  ·obtain ⟨p,_,rfl⟩:=List.mem_map.mp ha
   obtain ⟨q,_,rfl⟩:=List.mem_map.mp hb
   exact PD p q
  ·obtain ⟨p,_,rfl⟩:=List.mem_map.mp ha
   exact PH p
 ·have hb:=Kq l (l.length - 1) (by omega)
  rw [show l.length - 1 + 1=l.length by omega,List.take_length] at hb
  have e:∀ k,k < l.length->argBest (lT (l.map ju)) k=argBest (fun i j=>af.ll (l.getD i ([],[])) (l.getD j ([],[]))) k/\argBest (fun i j=>af.ll (l.getD i ([],[])) (l.getD j ([],[]))) k < l.length:=by
   intro k
   induction k with
   | zero=>intro hk;exact ⟨rfl,hk⟩
   | succ k ih =>
    intro hk
    obtain ⟨e1,e2⟩:=ih (by omega)
    have eb:lT (l.map ju) (k + 1) (argBest (lT (l.map ju)) k)=af.ll (l.getD (k + 1) ([],[])) (l.getD (argBest (fun i j=>af.ll (l.getD i ([],[])) (l.getD j ([],[]))) k) ([],[])):=by
     rw [e1]
     unfold lT
     rw [List.getD_eq_getElem?_getD,List.getD_eq_getElem?_getD,List.getElem?_map,List.getElem?_map,List.getElem?_eq_getElem hk,List.getElem?_eq_getElem e2,List.getD_eq_getElem?_getD,List.getD_eq_getElem?_getD,List.getElem?_eq_getElem hk,List.getElem?_eq_getElem e2]
     exact PB _ _
    refine ⟨?_,?_⟩
    ·show (if lT (l.map ju) (k + 1) (argBest (lT (l.map ju)) k)=true then k + 1 else argBest (lT (l.map ju)) k)=if _=true then k + 1 else _
     rw [eb,e1]
    ·show (if _=true then k + 1 else _) < l.length
     split
     ·exact hk
     ·exact e2
  unfold lU
  rw [List.length_map,(e (l.length - 1) (by omega)).1,List.getElem?_map,hb]
  rfl
end L4
namespace L4
open PySem PySem.Spec L2
theorem Kr {α:Type} {r:α->α->Prop}:∀ {xs ys:List α},xs.Perm ys->xs.Pairwise r->ys.Pairwise r->(∀ a∈xs,∀ b∈xs,r a b->r b a->a=b)->xs=ys
 | [],ys,p,_,_,_=>(List.nil_perm.mp p).symm
 | x :: xs,[],p,_,_,_=>absurd p.length_eq (by simp)
 | x :: xs,y :: ys,p,h1,h2,an=>by
  have e:x=y:=by
   have hx:x∈y :: ys:=p.subset List.mem_cons_self
   have hy:y∈x :: xs:=p.symm.subset List.mem_cons_self
   rcases List.mem_cons.mp hx with e | hx
   ·exact e
   ·rcases List.mem_cons.mp hy with e | hy
    ·exact e.symm
    ·exact an x List.mem_cons_self y (List.mem_cons_of_mem _ hy) ((List.pairwise_cons.mp h1).1 y hy) ((List.pairwise_cons.mp h2).1 x hx)
  subst e
  rw [Kr (List.perm_cons x |>.mp p) (List.pairwise_cons.mp h1).2 (List.pairwise_cons.mp h2).2 fun a ha b hb=>an a (List.mem_cons_of_mem _ ha) b (List.mem_cons_of_mem _ hb)]
def nh (ps:List PyData):Bool:=decide (ps.length < 64) && ps.all (fun a=>ps.all fun b=>eX a b) && (ps.all fun a=>a.canLay0 && decide (a.depth<=50)) && (ps.all (sx true) || ps.all (sx false))
def lP (ps:List PyData):List Nat:=(List.range ps.length).mergeSort fun i j=>!lT ps (min j (ps.length - 1)) (min i (ps.length - 1))
def nJ (ds:List D) (ps:List PyData):List D:=(lP ps).map fun i=>ds.getD i .non
def kl:List D->Dm D
 | [.ref r],st=>match own st r with
  | some ds=>match b9 (dc st 20) ds with
   | some ps=>if nh ps=true then some (.ref st.length,st ++ [.lst (nJ ds ps)]) else none
   | none=>none
  | none=>none
 | _,_=>none
theorem xY (ps:List PyData):(lP ps).Perm (List.range ps.length):=List.mergeSort_perm _ _
theorem Ks (st:Store):∀ (n m:Nat) (d d':D) (p:PyData),dc st n d=some p->dc st m d'=some p->eX p p=true->d=d'
 | 0,_,_,_,_,h,_,_=>by simp [dc] at h
 | _,0,_,_,_,_,h,_=>by simp [dc] at h
 | n + 1,m + 1,d,d',p,h,h',ok=>by
  have all:∀ (ds ds':List D) (ps:List PyData),b9 (dc st n) ds=some ps->b9 (dc st m) ds'=some ps->c3 ps ps=true->ds=ds':=by
   intro ds
   induction ds with
   | nil =>
    intro ds' ps h1 h2 _
    cases h1
    cases ds' with
    | nil=>rfl
    | cons x r=>obtain ⟨_,_,_,_,e⟩:=sS h2;cases e
   | cons x r ih =>
    intro ds' ps h1 h2 ok
    obtain ⟨b,t,e1,e2,rfl⟩:=sS h1
    cases ds' with
    | nil=>cases h2
    | cons x' r' =>
     obtain ⟨b',t',zp,uQ,e⟩:=sS h2
     cases e
     have o2:eX b b=true/\c3 t t=true:=by simpa [c3] using ok
     rw [Ks st n m x x' b e1 zp o2.1,ih r' t e2 uQ o2.2]
  cases p with
  | int i =>
   have e1:d=.int i:=by
    cases d <;> simp [dc] at h
    ·rw [h]
    ·split at h <;> simp at h
   have e2:d'=.int i:=by
    cases d' <;> simp [dc] at h'
    ·rw [h']
    ·split at h' <;> simp at h'
   rw [e1,e2]
  | tuple ps =>
   obtain ⟨ds,e1,g1⟩:∃ ds,d=.tup ds/\b9 (dc st n) ds=some ps:=by
    cases d <;> simp [dc] at h
    ·exact ⟨_,rfl,h⟩
    ·split at h <;> simp at h
   obtain ⟨ds',e2,g2⟩:∃ ds',d'=.tup ds'/\b9 (dc st m) ds'=some ps:=by
    cases d' <;> simp [dc] at h'
    ·exact ⟨_,rfl,h'⟩
    ·split at h' <;> simp at h'
   rw [e1,e2,all ds ds' ps g1 g2 ok]
  | none=>cases ok
  | bool _=>cases ok
  | str _=>cases ok
  | list _=>cases ok
  | dict _=>cases ok
theorem PL {ps:List PyData} (hok:∀ a∈ps,∀ b∈ps,eX a b=true):((lP ps).map fun i=>ps.getD i .none).Pairwise fun a b=>j3 b a=false:=by
 by_cases hn:ps=[]
 ·subst hn
  rw [List.perm_nil.mp (show (lP []).Perm [] from xY [])]
  exact .nil
 have o:=Jk hok hn
 have hl:0 < ps.length:=List.length_pos_iff.mpr hn
 rw [List.pairwise_map]
 have key:=List.pairwise_mergeSort (le:=fun i j=>!lT ps (min j (ps.length - 1)) (min i (ps.length - 1))) (fun a b c h1 h2=>by
  have h1:lT ps (min b (ps.length - 1)) (min a (ps.length - 1))=false:=by simpa using h1
  have h2:lT ps (min c (ps.length - 1)) (min b (ps.length - 1))=false:=by simpa using h2
  have:=o.tr a b c h1 h2
  simpa using this) (fun a b=>by
  cases q:lT ps (min b (ps.length - 1)) (min a (ps.length - 1)) with
  | false=>rfl
  | true=>have:=o.as b a q;simpa using this) (List.range ps.length)
 refine List.Pairwise.imp_of_mem (fun {a b} ha hb h=>?_) key
 have a1:=List.mem_range.mp ((xY ps).subset ha)
 have b1:=List.mem_range.mp ((xY ps).subset hb)
 rw [show min a (ps.length - 1)=a by omega,show min b (ps.length - 1)=b by omega] at h
 unfold lT at h
 simpa using h
theorem Kt {f:D->Option PyData}:∀ {ds:List D} {ps:List PyData},b9 f ds=some ps->ds.length=ps.length/\∀ i,i < ps.length->f (ds.getD i .non)=some (ps.getD i .none)
 | [],_,h=>by cases h;exact ⟨rfl,fun i hi=>absurd hi (Nat.not_lt_zero _)⟩
 | d :: ds,_,h=>by
  obtain ⟨b,t,e1,e2,rfl⟩:=sS h
  obtain ⟨hl,ha⟩:=Kt e2
  refine ⟨by simp [hl],fun i hi=>?_⟩
  cases i with
  | zero=>exact e1
  | succ i=>exact ha i (by simpa using hi)
section
variable {K:PySem.W.Frag}
theorem Ku {ρ:List Addr} {H:Hp} {vs:List V} {ds:List D} (r:cw K ρ H vs ds):∀ {is:List Nat} {es:List D},(∀ i∈is,i < ds.length)->es=is.map (fun i=>ds.getD i .non)->cw K ρ H (is.map fun i=>vs.getD i .non) es
 | [],_,_,e=>by subst e;exact .nil
 | i :: is,_,h,e=>by
  subst e
  have hi:=h i List.mem_cons_self
  obtain ⟨v,hv,rv⟩:=r.got (List.getElem?_eq_getElem hi)
  refine .cons ?_ (Ku r (fun j hj=>h j (List.mem_cons_of_mem _ hj)) rfl)
  show Rp K ρ H (vs.getD i .non) (ds.getD i .non)
  rw [List.getD_eq_getElem?_getD,List.getD_eq_getElem?_getD,hv,List.getElem?_eq_getElem hi]
  exact rv
theorem PN:pL K (pD K) kl:=by
 intro ρ H st xs as b st' Q l rx e q
 unfold kl at e
 split at e
 ·next r j4 =>
  split at e
  ·next ds hd =>
   split at e
   ·next ps hp =>
    split at e
    ·next hok =>
     cases e
     obtain ⟨v,rfl,r⟩:=rx.one'
     cases r with
     | ref hi =>
      obtain ⟨vs,hs,rr⟩:=l.items hi (fz (pT hd))
      simp only [nh,Bool.and_eq_true,Bool.or_eq_true,decide_eq_true_eq,List.all_eq_true] at hok
      obtain ⟨⟨⟨k1,k2⟩,k3⟩,k4⟩:=hok
      obtain ⟨hl,ha⟩:=Kt hp
      refine ⟨_,vs,ps,rfl,hs,GA l 20 rr hp,k1,k2,k3,?_,fun p is Kv tI GF=>?_⟩
      ·rcases k4 with k4 | k4
       ·exact ⟨true,k4⟩
       ·exact ⟨false,k4⟩
      ·have hb:∀ i∈is,i < ps.length:=fun i hi'=>List.mem_range.mp (tI.subset hi')
       have hb2:∀ i∈lP ps,i < ps.length:=fun i hi'=>List.mem_range.mp ((xY ps).subset hi')
       have eP:(is.map fun i=>ps.getD i .none)=(lP ps).map fun i=>ps.getD i .none:=by
        refine Kr ((tI.trans (xY ps).symm).map _) GF (PL k2) fun a ha' b hb' h1 h2=>?_
        have mem:∀ x,x∈(is.map fun i=>ps.getD i .none)->x∈ps:=fun x hx=>by
         obtain ⟨i,hi',rfl⟩:=List.mem_map.mp hx
         rw [List.getD_eq_getElem?_getD,List.getElem?_eq_getElem (hb i hi')]
         exact List.getElem_mem _
        exact Fz a b (k2 a (mem a ha') b (mem b hb')) (k2 b (mem b hb') a (mem a ha')) h2 h1
       have eD:nJ ds ps=is.map fun i=>ds.getD i .non:=by
        unfold nJ
        have hlen:is.length=(lP ps).length:=by have:=congrArg List.length eP;simpa using this
        refine List.ext_getElem (by simp [hlen]) fun i h1 h2=>?_
        rw [List.getElem_map,List.getElem_map]
        have g1:i < (lP ps).length:=by simpa using h1
        have g2:i < is.length:=by simpa using h2
        have e1:ps.getD is[i] .none=ps.getD (lP ps)[i] .none:=by
         have:=List.getElem_of_eq eP (i:=i) (by simpa using g2)
         simpa using this
        have b1:=hb2 _ (List.getElem_mem g1)
        have b2:=hb _ (List.getElem_mem g2)
        have m1:ps.getD (lP ps)[i] .none∈ps:=by
         rw [List.getD_eq_getElem?_getD,List.getElem?_eq_getElem b1]
         exact List.getElem_mem _
        exact Ks st 20 20 _ _ _ (ha _ b1) (by rw [ha _ b2,e1]) (k2 _ m1 _ m1)
       exact q _ _ _ (Mn.new Kv) (l.newL Kv (Ku rr (fun i hi'=>by rw [hl];exact hb i hi') eD)) (.ref (newR l))
    ·cases e
   ·cases e
  ·cases e
 ·cases e
end
theorem PQ {st:Store} {Q:D->Store->Prop} {r:Nat} {ds:List D} {ps:List PyData} (h:own st r=some ds) (hp:b9 (dc st 20) ds=some ps) (hok:nh ps=true):Wp (kl [.ref r] st) Q↔Q (.ref st.length) (st ++ [.lst (nJ ds ps)]):=by
 have e:kl [.ref r] st=some (.ref st.length,st ++ [.lst (nJ ds ps)]):=by simp only [kl,h,hp,hok,if_true]
 rw [e,bu]
theorem Kw {ds:List D} {ps:List PyData} (hl:ds.length=ps.length):(nJ ds ps).Perm ds:=by
 have h:=(xY ps).map fun i=>ds.getD i .non
 refine h.trans ?_
 have e:(List.range ps.length).map (fun i=>ds.getD i .non)=ds:=by
  refine List.ext_getElem (by simp [hl]) fun i h1 h2=>?_
  rw [List.getElem_map,List.getElem_range,List.getD_eq_getElem?_getD,List.getElem?_eq_getElem h2];rfl
 rw [e]
end L4
namespace L4
open PySem PySem.Spec L2
section
variable {K:PySem.W.Frag}
end
section
variable {st:Store} {Q:D->Store->Prop} {i:Nat}
end
end L4
namespace L4
open PySem PySem.Spec L2
section
variable {K:PySem.W.Frag}
end
section
variable {st:Store} {Q:D->Store->Prop} {δ:ai}
end
end L4
namespace L4
open PySem PySem.Spec L2
section
variable {K:PySem.W.Frag}
def p6:ai->Dm Fl:=fun _ _=>none
theorem PR:mH K o4 p6:=by
 intro ρ σ H δ st fl st' E l rs e q
 cases e
end
section
variable {st:Store} {Q:D->Store->Prop}
end
end L4
namespace L4
open PySem PySem.Spec L2
section
variable {K:PySem.W.Frag}
end
section
variable {st:Store} {δ:ai}
end
end L4
namespace L4
open PySem PySem.Spec L2
section
variable {K:PySem.W.Frag}
end
theorem PU {δ:ai} {st:Store} {fi:ai->Dm Src} {js:List Nat} {c:ai->Dm Bool} {f:ai->Dm D} {Q:D->Store->Prop} (ds:List D) (q:D->Bool) (h:D->D) (hi:Wp (fi δ st) fun S st1=>ng S ds st1/\Ex [] st st1) (hl:ds.length < 100000)
  (cond:∀ d∈ds,∀ st1,Ex [] st st1->Wp (c (some d :: js.map fun j=>δ.getD j none) st1) fun b st2=>b=q d/\Ex [] st1 st2)
  (step:∀ d∈ds,q d=true->∀ st1,Ex [] st st1->Wp (f (some d :: js.map fun j=>δ.getD j none) st1) fun y st2=>y=h d/\Ex [] st1 st2) (fin:∀ st',Ex [] st st'->Q (.ref st'.length) (st' ++ [.lst ((ds.filter q).map h)])):Wp (e8 fi 1 js (hName 0) c f δ st) Q:=by
 obtain ⟨S,st1,e1,hS,k1⟩:=hi
 refine AH ds (fun i ys δ' d9=>(∃ v,δ'=v :: js.map fun j=>δ.getD j none)/\ys=((ds.take i).filter q).map h/\Ex [] st1 d9) ⟨S,st1,e1,fun i ys δ' d9 hi' hp=>hS i d9 hi' hp.2.2,⟨none,rfl⟩,rfl,Ex.refl⟩ hl ?_ ?_ ?_
 ·rintro i ys δ' d9 ⟨_,rfl,_⟩
  rw [List.length_map]
  refine Nat.le_trans (List.length_filter_le _ _) ?_
  rw [List.length_take];omega
 ·rintro i d ys δ' d9 hd ⟨⟨v,rfl⟩,rfl,k8⟩
  obtain ⟨hlt,e⟩:=List.getElem?_eq_some_iff.mp hd
  have hm:=List.mem_of_getElem? hd
  rw [xW]
  refine a7 (cond d hm d9 (k1.trans k8)) ?_
  rintro b lV ⟨rfl,k9⟩
  refine ⟨fun hq=>a7 (step d hm hq lV (k1.trans (k8.trans k9))) ?_,fun hq=>⟨⟨some d,rfl⟩,?_,k8.trans k9⟩⟩
  ·rintro y PV ⟨rfl,PX⟩
   refine ⟨⟨some d,rfl⟩,?_,(k8.trans k9).trans PX⟩
   rw [List.take_succ_eq_append_getElem hlt,List.filter_append,List.map_append,e,List.filter_cons_of_pos hq];rfl
  ·rw [List.take_succ_eq_append_getElem hlt,List.filter_append,List.map_append,e,List.filter_cons_of_neg (by rw [hq];decide)]
   simp
 ·rintro ys δ' d9 ⟨_,rfl,k8⟩
  rw [List.take_length]
  exact fin d9 (k1.trans k8)
end L4
namespace L4
open PySem PySem.Spec L2
section
variable {K:PySem.W.Frag}
end
end L4
namespace L4
open PySem PySem.Spec L2
section
variable {K:PySem.W.Frag}
def mv:D->D->Dm D:=rj (fun i j=>decide (j≠0/\j.natAbs < 1073741824)) fun i j=>.int (i.fdiv j)
theorem PY:kT K (rI rP fun i j=>.int (i.fdiv j)) mv:=xO (fun i j h=>of_decide_eq_true (p:=j≠0/\j.natAbs < 1073741824) h) fun _ _ _ _=>.int _
def ow:D->D->Dm D
 | .tup ds,.int k,st=>if 0 < ds.length/\ds.length<=100/\0<=k/\k<=1000 then some (.tup (List.replicate k.toNat ds).flatten,st) else none
 | _,_,_=>none
theorem PZ:kT K (sy K) ow:=by
 intro ρ H st x y a c b st' Q l rx ry e q
 unfold ow at e
 split at e
 ·next ds k j4 =>
  split at e
  ·next hk =>
   cases e
   cases rx with
   | tup s r =>
    cases ry
    refine ⟨_,_,_,rfl,rfl,s,by rw [r.length];exact hk.1,by rw [r.length];exact hk.2.1,hk.2.2.1,hk.2.2.2,?_⟩
    exact got l (r.flat _) q
  ·cases e
 ·cases e
end
section
variable {st:Store} {Q:D->Store->Prop}
theorem P0 {i j:Int}:Wp (mv (.int i) (.int j) st) Q↔(j≠0/\j.natAbs < 1073741824)/\Q (.int (i.fdiv j)) st:=by unfold mv;rw [xU,decide_eq_true_eq]
theorem P1 {ds:List D} {k:Int}:Wp (ow (.tup ds) (.int k) st) Q↔(0 < ds.length/\ds.length<=100/\0<=k/\k<=1000)/\Q (.tup (List.replicate k.toNat ds).flatten) st:=by
 show Wp (if 0 < ds.length/\ds.length<=100/\0<=k/\k<=1000 then some (D.tup (List.replicate k.toNat ds).flatten,st) else none) Q↔_
 by_cases h:0 < ds.length/\ds.length<=100/\0<=k/\k<=1000
 ·rw [if_pos h,bu];exact ⟨fun q=>⟨h,q⟩,fun q=>q.2⟩
 ·rw [if_neg h];exact ⟨fun q=>(eO.mp q).elim,fun q=>absurd q.1 h⟩
end
end L4
namespace L4
open PySem PySem.Spec L2
section
variable {K:PySem.W.Frag}
end
end L4
namespace L4
open PySem PySem.Spec L2
section
variable {K:PySem.W.Frag}
end
section
variable {st:Store} {Q:D->Store->Prop}
end
end L4
namespace L4
open PySem PySem.Spec L2
section
variable {K:PySem.W.Frag}
end
section
variable {st:Store} {Q:D->Store->Prop}
end
end L4
namespace My
local macro_rules | `(tactic| kspl_open $h)=>`(tactic| (refine L4.de ?_;intro _ $h;set_option simprocs false in simp only [L4.c6]))
local macro_rules | `(tactic| w_how)=>`(tactic| set_option simprocs false in simp only [L4.c6])
open PySem L2 L4
def top (i:Nat):Stmt:=PySem.Challenge.pw_shearfloor_k60_whole_words_of_one_table.main.body.getD i (.Pass ⟨0,0,0,0⟩)
structure Txt (mg:Str->Option Value):Prop where
 kF:mg "enumerate" = none
 A4:mg "int" = none
 d4:mg "len" = none
 dF:mg "list" = none
 A5:mg "max" = none
 A6:mg "min" = none
 bG:mg "range" = none
 nK:mg "reversed" = none
 p7:mg "sorted" = none
 cT:mg "tuple" = none
section
variable {P:Program} {w:World} {K:PySem.W.Frag} {mg:Str->Option Value} {base:Heap}
def Di:ai->Dm Fl :=
 (aF (aM (aC dE (aC kf (fC (.int 7901)) (ag 1)) (fC (.int 24697))) (hName 2))
 (aF (jr (aT (aC C0 (ag 1) (aX gk (ae (ag 0) ah)))) (aM (aC iz (ag 0) (ag 1)) (hName 2)) (jr (aT (aC Ai (aX gk (ae (ag 0) ah)) (fC (.int 0)))) (aM (aC dE (aC kf (aC kg (aC iz (ag 0) (aC kg (ag 1) (aX gk (ae (ag 0) ah)))) (fC (.int 2147483629))) (fC (.int 31))) (aC kf (fC (.int 7901)) (ag 1))) (hName 2)) cf))
 (aF (aM (fC (.int 0)) (hName 3))
 (aF (jr (aT (aC F5 (ag 2) (aC pO (fC (.int 10)) (fC (.int 18))))) (aM (ag 2) (hName 3)) cf)
 (bh (d7 (ae (ag 3) (ae (aC dE (aC kg (aC pO (aC dE (aC kf (aC kg (ag 2) (fC (.int 2147483629))) (fC (.int 48271))) (aC kf (fC (.int 40692)) (ag 1))) (fC (.int 5))) (fC (.int 2147483629))) (fC (.int 1))) ah))))))))
def A7:List D->Dm D:=fG 4 Di
def A8:Stmt:=top 44
theorem xZ:aA ["_law_script","_law_k","_law_cell","_law_own"] ["_law_script","_law_k"] (av A8):=⟨rfl,rfl,rfl,by decide +kernel,rfl,by decide +kernel,by decide +kernel⟩
theorem P4 {f:Addr} {fd:FuncData} (D:Def K mg "_law_feed" A8 ["_law_script","_law_k"] f fd) (T:Txt mg)  :ay P w K mg base bj 1 f fd ["_law_script","_law_k"] (br K 2 A7):=by
 refine D.F.ok xZ (fun vs H Q E h=>h.1) (fun cdv A outer s H vs Q E hr h=>?_)
 have hu:=hr.units
 have hu1:=gf hr
 refine ⟨_,(@bE _ _ _ _ _ (@cP (i:=2) _ _ _ _ _ _ xZ.nd rfl (by first | exact Or.inl rfl | exact Or.inr rfl) (bP kH (bP qg aO (pv 1)) aO) (by rfl) (by first | exact .inl rfl | exact .inr rfl | assumption))
  (@bE _ _ _ _ _ (@j6 _ _ _ _ _ _ _ _ (ib rS (pv 1) (lS mO (by rfl) T.d4 mP (@aq _ _ _ _ _ (pv 0) az (by rfl))) (aW _)) (@bN _ _ _ (@cP (i:=2) _ _ _ _ _ _ xZ.nd rfl (by first | exact Or.inl rfl | exact Or.inr rfl) (@b8 _ _ _ _ _ _ _ nS (pv 0) (pv 1) (fun _ _=>rfl)) (by rfl) (by first | exact .inl rfl | exact .inr rfl | assumption))) (@bN _ _ _ (@j6 _ _ _ _ _ _ _ _ (ib EG (lS mO (by rfl) T.d4 mP (@aq _ _ _ _ _ (pv 0) az (by rfl))) aO (aW _)) (@bN _ _ _ (@cP (i:=2) _ _ _ _ _ _ xZ.nd rfl (by first | exact Or.inl rfl | exact Or.inr rfl) (bP kH (bP qg (bP qh (@b8 _ _ _ _ _ _ _ nS (pv 0) (bP qh (pv 1) (lS mO (by rfl) T.d4 mP (@aq _ _ _ _ _ (pv 0) az (by rfl)))) (fun _ _=>rfl)) aO) aO) (bP qg aO (pv 1))) (by rfl) (by first | exact .inl rfl | exact .inr rfl | assumption))) kR)))
  (@bE _ _ _ _ _ (@cP (i:=3) _ _ _ _ _ _ xZ.nd rfl (by first | exact Or.inl rfl | exact Or.inr rfl) aO (by rfl) (by first | exact .inl rfl | exact .inr rfl | assumption))
  (@bE _ _ _ _ _ (@j6 _ _ _ _ _ _ _ _ (ib yP (pv 2) (bP Ht aO aO) (aW _)) (@bN _ _ _ (@cP (i:=3) _ _ _ _ _ _ xZ.nd rfl (by first | exact Or.inl rfl | exact Or.inr rfl) (pv 2) (by rfl) (by first | exact .inl rfl | exact .inr rfl | assumption))) kR)
  (@bN _ _ _ (@dZ _ _ _ _ (@lF _ _ _ _ (@aq _ _ _ _ _ (pv 3) (@aq _ _ _ _ _ (bP kH (bP qh (bP Ht (bP kH (bP qg (bP qh (pv 2) aO) aO) (bP qg aO (pv 1))) aO) aO) aO) az (by rfl)) (by rfl))))))))),?_⟩
 exact gn (b:=Di) (bF (ck (aD kL (aD qm (aP _) (ao 1)) (aP _)) (bC 2))
  (bF (ki (ia (aD sQ (ao 1) (dD mW (au (ao 0) aB)))) (ck (aD oi (ao 0) (ao 1)) (bC 2)) (ki (ia (aD F6 (dD mW (au (ao 0) aB)) (aP _))) (ck (aD kL (aD qm (aD qo (aD oi (ao 0) (aD qo (ao 1) (dD mW (au (ao 0) aB)))) (aP _)) (aP _)) (aD qm (aP _) (ao 1))) (bC 2)) kU))
  (bF (ck (aP _) (bC 3))
  (bF (ki (ia (aD Ak (ao 2) (aD JW (aP _) (aP _)))) (ck (ao 2) (bC 3)) kU)
  (d0 (lG (au (ao 3) (au (aD kL (aD qo (aD JW (aD kL (aD qm (aD qo (ao 2) (aP _)) (aP _)) (aD qm (aP _) (ao 1))) (aP _)) (aP _)) (aP _)) aB)))))))) rfl h
def Dj:ai->Dm Fl :=
 (aF (jr (aT (aC Ai (aC iz (ag 0) (fC (.int 0))) (fC (.int 0)))) (aF (aM (aC kg (aC iz (ag 0) (fC (.int 0))) (ag 1)) (hName 2))
 (aF (aM (aC mU (aC iz (ag 0) (fC (.int 0))) (ag 1)) (hSub (ag 0) (fC (.int 0))))
 (bh (ag 2)))) cf)
 (aF (aM (aC kg (aC kf (aC iz (ag 0) (fC (.int 1))) (fC (.int 48271))) (fC (.int 2147483647))) (hName 3))
 (aF (aM (aC dE (aC kg (aC dE (aC kf (ag 3) (fC (.int 40692))) (fC (.int 30103))) (fC (.int 2147483399))) (fC (.int 1))) (hSub (ag 0) (fC (.int 1))))
 (bh (aC kg (aC mU (aC dE (aC kf (ag 3) (fC (.int 2147483647))) (aC iz (ag 0) (fC (.int 1)))) (fC (.int 8191))) (ag 1))))))
def jS:List D->Dm D:=fG 4 Dj
def rA:Stmt:=top 45
theorem GG:aA ["_law_feed_here","_law_many","_law_digit","_law_one"] ["_law_feed_here","_law_many"] (av rA):=⟨rfl,rfl,rfl,by decide +kernel,rfl,by decide +kernel,by decide +kernel⟩
theorem P5 {f:Addr} {fd:FuncData} (D:Def K mg "_law_take" rA ["_law_feed_here","_law_many"] f fd) (T:Txt mg)  :ay P w K mg base bj 1 f fd ["_law_feed_here","_law_many"] (br K 2 jS):=by
 refine D.F.ok GG (fun vs H Q E h=>h.1) (fun cdv A outer s H vs Q E hr h=>?_)
 have hu:=hr.units
 have hu1:=gf hr
 refine ⟨_,(@bE _ _ _ _ _ (@j6 _ _ _ _ _ _ _ _ (ib EG (@b8 _ _ _ _ _ _ _ nS (pv 0) aO (fun _ _=>rfl)) aO (aW _)) (@bE _ _ _ _ _ (@cP (i:=2) _ _ _ _ _ _ GG.nd rfl (by first | exact Or.inl rfl | exact Or.inr rfl) (bP qh (@b8 _ _ _ _ _ _ _ nS (pv 0) aO (fun _ _=>rfl)) (pv 1)) (by rfl) (by first | exact .inl rfl | exact .inr rfl | assumption))
  (@bE _ _ _ _ _ (xy (bP Hs (@b8 _ _ _ _ _ _ _ nS (pv 0) aO (fun _ _=>rfl)) (pv 1)) (xx (pv 0) aO xB))
  (@bN _ _ _ (@dZ _ _ _ _ (pv 2))))) kR)
  (@bE _ _ _ _ _ (@cP (i:=3) _ _ _ _ _ _ GG.nd rfl (by first | exact Or.inl rfl | exact Or.inr rfl) (bP qh (bP qg (@b8 _ _ _ _ _ _ _ nS (pv 0) aO (fun _ _=>rfl)) aO) aO) (by rfl) (by first | exact .inl rfl | exact .inr rfl | assumption))
  (@bE _ _ _ _ _ (xy (bP kH (bP qh (bP kH (bP qg (pv 3) aO) aO) aO) aO) (xx (pv 0) aO xB))
  (@bN _ _ _ (@dZ _ _ _ _ (bP qh (bP Hs (bP kH (bP qg (pv 3) aO) (@b8 _ _ _ _ _ _ _ nS (pv 0) aO (fun _ _=>rfl))) aO) (pv 1))))))),?_⟩
 exact gn (b:=Dj) (bF (ki (ia (aD F6 (aD oi (ao 0) (aP _)) (aP _))) (bF (ck (aD qo (aD oi (ao 0) (aP _)) (ao 1)) (bC 2))
  (bF (ck (aD JV (aD oi (ao 0) (aP _)) (ao 1)) (xS (ao 0) (aP _)))
  (d0 (ao 2)))) kU)
  (bF (ck (aD qo (aD qm (aD oi (ao 0) (aP _)) (aP _)) (aP _)) (bC 3))
  (bF (ck (aD kL (aD qo (aD kL (aD qm (ao 3) (aP _)) (aP _)) (aP _)) (aP _)) (xS (ao 0) (aP _)))
  (d0 (aD qo (aD JV (aD kL (aD qm (ao 3) (aP _)) (aD oi (ao 0) (aP _))) (aP _)) (ao 1)))))) rfl h
def Dk:ai->Dm Fl :=
 (aF (aM (d7 ah) (hName 3))
 (aF (fA (dz (ae (aX jS (ae (ag 0) (ae (aC dE (ag 1) (fC (.int 1))) ah))) ah)) (hName 4) (jr (aT (aC (kM false) (aX jS (ae (ag 0) (ae (fC (.int 2)) ah))) (fC (.int 0)))) (jk (pX "list" dQ (ag 3) (ae (cj (ae (fC (.str "t")) (ae (aC dE (fC (.int 1)) (aX jS (ae (ag 0) (ae (fC (.int 3)) ah)))) ah))) ah))) (aF (aM (aC dE (fC (.int 1)) (aX jS (ae (ag 0) (ae (ag 2) ah)))) (hName 4))
 (jk (pX "list" dQ (ag 3) (ae (cj (ae (fC (.str "s")) (ae (aC iz (d7 (ae (ag 4) (ae (aC lH (fC (.int 0)) (ag 4)) ah))) (aX jS (ae (ag 0) (ae (fC (.int 2)) ah)))) ah))) ah))))))
 (bh (aX c4 (ae (ag 3) ah)))))
def tJ:List D->Dm D:=fG 5 Dk
def x3:Stmt:=top 49
theorem Dl:aA ["_law_feed_here","_law_most","_law_great","_law_found","_law_k"] ["_law_feed_here","_law_most","_law_great"] (av x3):=⟨rfl,rfl,rfl,by decide +kernel,rfl,by decide +kernel,by decide +kernel⟩
theorem P6 {f:Addr} {fd:FuncData} (D:Def K mg "_law_word" x3 ["_law_feed_here","_law_most","_law_great"] f fd) (T:Txt mg)  {a5:Addr} {a6:FuncData} (aj:Def K mg "_law_take" rA ["_law_feed_here","_law_many"] a5 a6) (aK:ay P w K mg base bj 1 a5 a6 ["_law_feed_here","_law_many"] (br K 2 jS)):ay P w K mg base bj 2 f fd ["_law_feed_here","_law_most","_law_great"] (br K 3 tJ):=by
 refine D.F.ok Dl (fun vs H Q E h=>h.1) (fun cdv A outer s H vs Q E hr h=>?_)
 have hu:=hr.units
 have hu1:=gf hr
 refine ⟨_,(@bE _ _ _ _ _ (@cP (i:=3) _ _ _ _ _ _ Dl.nd rfl (by first | exact Or.inl rfl | exact Or.inr rfl) (@lF _ _ _ _ az) (by rfl) (by first | exact .inl rfl | exact .inr rfl | assumption))
  (@bE _ _ _ _ _ (@mL _ _ _ _ _ _ _ _ PassesOwn.never rfl (qf rfl T.bG (@aq _ _ _ _ _ (bT aK (hr.mono (by decide)) rfl aj.m aj.F.kp aj.b .nil ax (@aq _ _ _ _ _ (pv 0) (@aq _ _ _ _ _ (bP kH (pv 1) aO) az (by rfl)) (by rfl))) az (by rfl))) (jK (i:=4) Dl.nd rfl (by first | exact Or.inl rfl | exact Or.inr rfl)) (@bN _ _ _ (@j6 _ _ _ _ _ _ _ _ (ib mN (bT aK (hr.mono (by decide)) rfl aj.m aj.F.kp aj.b .nil ax (@aq _ _ _ _ _ (pv 0) (@aq _ _ _ _ _ aO az (by rfl)) (by rfl))) aO (aW _)) (@bN _ _ _ (um (sa PySem.F.plainAttrs_list PySem.F.slot_list_append PySem.F.type_list_append uE (pv 3) (@aq _ _ _ _ _ (@ic _ _ _ _ _ (@aq _ _ _ _ _ nA (@aq _ _ _ _ _ (bP kH aO (bT aK (hr.mono (by decide)) rfl aj.m aj.F.kp aj.b .nil ax (@aq _ _ _ _ _ (pv 0) (@aq _ _ _ _ _ aO az (by rfl)) (by rfl)))) az (by rfl)) (by rfl))) az (by rfl))))) (@bE _ _ _ _ _ (@cP (i:=4) _ _ _ _ _ _ Dl.nd rfl (by first | exact Or.inl rfl | exact Or.inr rfl) (bP kH aO (bT aK (hr.mono (by decide)) rfl aj.m aj.F.kp aj.b .nil ax (@aq _ _ _ _ _ (pv 0) (@aq _ _ _ _ _ (pv 2) az (by rfl)) (by rfl)))) (by rfl) (by first | exact .inl rfl | exact .inr rfl | assumption))
  (@bN _ _ _ (um (sa PySem.F.plainAttrs_list PySem.F.slot_list_append PySem.F.type_list_append uE (pv 3) (@aq _ _ _ _ _ (@ic _ _ _ _ _ (@aq _ _ _ _ _ nA (@aq _ _ _ _ _ (@b8 _ _ _ _ _ _ _ nS (@lF _ _ _ _ (@aq _ _ _ _ _ (pv 4) (@aq _ _ _ _ _ (bP yO aO (pv 4)) az (by rfl)) (by rfl))) (bT aK (hr.mono (by decide)) rfl aj.m aj.F.kp aj.b .nil ax (@aq _ _ _ _ _ (pv 0) (@aq _ _ _ _ _ aO az (by rfl)) (by rfl))) (fun _ _=>rfl)) az (by rfl)) (by rfl))) az (by rfl)))))))) (by intro _;rfl))
  (@bN _ _ _ (@dZ _ _ _ _ (ie oF (by rfl) T.cT oJ (@aq _ _ _ _ _ (pv 3) az (by rfl))))))),?_⟩
 exact gn (b:=Dk) (bF (ck (lG aB) (bC 3))
  (bF (mZ (qr (au (bU (F:=jS) (au (ao 0) (au (aD kL (ao 1) (aP _)) aB)) (aY (aY (fun _ _ _ _ h=>bW h)))) aB)) (bC 4) (ki (ia (aD mV (bU (F:=jS) (au (ao 0) (au (aP _) aB)) (aY (aY (fun _ _ _ _ h=>bW h)))) (aP _))) (vD (sU vB (ao 3) (au (ik (au (nH _) (au (aD kL (aP _) (bU (F:=jS) (au (ao 0) (au (aP _) aB)) (aY (aY (fun _ _ _ _ h=>bW h))))) aB))) aB))) (bF (ck (aD kL (aP _) (bU (F:=jS) (au (ao 0) (au (ao 2) aB)) (aY (aY (fun _ _ _ _ h=>bW h))))) (bC 4))
  (vD (sU vB (ao 3) (au (ik (au (nH _) (au (aD oi (lG (au (ao 4) (au (aD Aj (aP _) (ao 4)) aB))) (bU (F:=jS) (au (ao 0) (au (aP _) aB)) (aY (aY (fun _ _ _ _ h=>bW h))))) aB))) aB))))))
  (d0 (dD oP (au (ao 3) aB))))) rfl h
def Dn:ai->Dm Fl :=
 (bh (aX c4 (ae (e8 (kj (pM oj (aX lq (ae (ag 0) ah)))) 2 [] (ml 2 (fF (hName 0) (fF (hName 1) mY))) hW (cj (ae (ag 0) (ae (aC iz (d7 (ae (aC lH (fC (.int 4)) (ag 1)) (ae (aC lH (fC (.int 0)) (ag 1)) ah))) (aX mX (ae (aC (kM false) (ag 0) (fC (.str "s"))) ah))) ah)))) ah)))
def wW:List D->Dm D:=fG 1 Dn
def A9:Stmt:=top 51
theorem P7:aA ["_law_word_here"] ["_law_word_here"] (av A9):=⟨rfl,rfl,rfl,by decide +kernel,rfl,by decide +kernel,by decide +kernel⟩
theorem P8 {f:Addr} {fd:FuncData} (D:Def K mg "_law_back" A9 ["_law_word_here"] f fd) (T:Txt mg)  :ay P w K mg base bj 1 f fd ["_law_word_here"] (br K 1 wW):=by
 refine D.F.ok P7 (fun vs H Q E h=>h.1) (fun cdv A outer s H vs Q E hr h=>?_)
 have hu:=hr.units
 have hu1:=gf hr
 refine ⟨_,(@bN _ _ _ (@dZ _ _ _ _ (ie oF (by rfl) T.cT oJ (@aq _ _ _ _ _ (Cz (own:=["_law_letter","_law_k"]) (fr:=[]) (js:=[]) rfl ⟨⟨rfl,by decide +kernel,by decide +kernel,by dsimp only [j9,bg,Cx.oZ,Cx.wish,PyProof.Rows.envOfC,compEnvC,relabel,Env.kindOf];decide +kernel,by decide +kernel⟩,rfl⟩ (EE (uO Ma (ie Cq (by rfl) T.dF oI (@aq _ _ _ _ _ (pv 0) az (by rfl))))) (fun _ _ _ _ _=>(MB (K:=K) (n:=2) rfl rfl (qe (jK (i:=0) (show ((["_law_letter","_law_k"]:List Str) ++ ([]:List Str)).Nodup by decide +kernel) rfl (by first | exact Or.inl rfl | exact Or.inr rfl)) (qe (jK (i:=1) (show ((["_law_letter","_law_k"]:List Str) ++ ([]:List Str)).Nodup by decide +kernel) rfl (by first | exact Or.inl rfl | exact Or.inr rfl)) yE)))) (fun _ _ _ _ _=>Cu) (fun _ _ _ _ _=>(@ic _ _ _ _ _ (@aq _ _ _ _ _ (pv 0) (@aq _ _ _ _ _ (@b8 _ _ _ _ _ _ _ (Mp (K:=K) rfl) (@lF _ _ _ _ (@aq _ _ _ _ _ (bP yO aO (pv 1)) (@aq _ _ _ _ _ (bP yO aO (pv 1)) az (by rfl)) (by rfl))) (ie Ly (by rfl) T.A4 uI (@aq _ _ _ _ _ (Co mN (pv 0) nA (aW _)) az (by rfl))) (fun _ _=>rfl)) az (by rfl)) (by rfl))))) az (by rfl))))),?_⟩
 exact gn (b:=Dn) (d0 (dD oP (au (vG (Ga (vm Oa (dD C4 (au (ao 0) aB)))) (Ao (qq (bC 0) (qq (bC 1) An))) C7 (ik (au (ao 0) (au (aD oi (lG (au (aD Aj (aP _) (ao 1)) (au (aD Aj (aP _) (ao 1)) aB))) (dD Oc (au (aD mV (ao 0) (nH _)) aB))) aB)))) aB))) rfl h
def Dp:ai->Dm Fl :=
 (aF (aM (aX jS (ae (ag 0) (ae (fC (.int 3)) ah))) (hName 1))
 (aF (aM (aC fE (aC ow (cj (ae (cj (ae (fC (.str "s")) (ae (fC (.int 1)) ah))) (ae (cj (ae (fC (.str "t")) (ae (fC (.int 1)) ah))) ah))) (fC (.int 3))) (cj (ae (cj (ae (fC (.str "t")) (ae (fC (.int 2)) ah))) ah))) (hName 2))
 (aF (jr (aT (aC (kM false) (ag 1) (fC (.int 2)))) (aF (aM (aX tJ (ae (ag 0) (ae (fC (.int 3)) (ae (fC (.int 20)) ah)))) (hName 3))
 (bh (aC fE (ag 3) (aX wW (ae (ag 3) ah))))) cf)
 (bh (aC iz (d7 (ae (ag 2) (ae (aX wW (ae (ag 2) ah)) ah))) (ag 1))))))
def Ba:List D->Dm D:=fG 4 Dp
def Bb:Stmt:=top 52
theorem Dq:aA ["_law_feed_here","_law_form","_law_loop","_law_word_here"] ["_law_feed_here"] (av Bb):=⟨rfl,rfl,rfl,by decide +kernel,rfl,by decide +kernel,by decide +kernel⟩
theorem P9 {f:Addr} {fd:FuncData} (D:Def K mg "_law_nothing" Bb ["_law_feed_here"] f fd) (T:Txt mg)  {a5:Addr} {a6:FuncData} (aj:Def K mg "_law_take" rA ["_law_feed_here","_law_many"] a5 a6) (aK:ay P w K mg base bj 1 a5 a6 ["_law_feed_here","_law_many"] (br K 2 jS)) {df:Addr} {dg:FuncData} (bI:Def K mg "_law_word" x3 ["_law_feed_here","_law_most","_law_great"] df dg) (dG:ay P w K mg base bj 2 df dg ["_law_feed_here","_law_most","_law_great"] (br K 3 tJ)) {gE:Addr} {gG:FuncData} (cn:Def K mg "_law_back" A9 ["_law_word_here"] gE gG) (gH:ay P w K mg base bj 1 gE gG ["_law_word_here"] (br K 1 wW)):ay P w K mg base bj 3 f fd ["_law_feed_here"] (br K 1 Ba):=by
 refine D.F.ok Dq (fun vs H Q E h=>h.1) (fun cdv A outer s H vs Q E hr h=>?_)
 have hu:=hr.units
 have hu1:=gf hr
 refine ⟨_,(@bE _ _ _ _ _ (@cP (i:=1) _ _ _ _ _ _ Dq.nd rfl (by first | exact Or.inl rfl | exact Or.inr rfl) (bT aK (hr.mono (by decide)) rfl aj.m aj.F.kp aj.b .nil ax (@aq _ _ _ _ _ (pv 0) (@aq _ _ _ _ _ aO az (by rfl)) (by rfl))) (by rfl) (by first | exact .inl rfl | exact .inr rfl | assumption))
  (@bE _ _ _ _ _ (@cP (i:=2) _ _ _ _ _ _ Dq.nd rfl (by first | exact Or.inl rfl | exact Or.inr rfl) (bP pj (bP M8 (@ic _ _ _ _ _ (@aq _ _ _ _ _ (@ic _ _ _ _ _ (@aq _ _ _ _ _ nA (@aq _ _ _ _ _ aO az (by rfl)) (by rfl))) (@aq _ _ _ _ _ (@ic _ _ _ _ _ (@aq _ _ _ _ _ nA (@aq _ _ _ _ _ aO az (by rfl)) (by rfl))) az (by rfl)) (by rfl))) aO) (@ic _ _ _ _ _ (@aq _ _ _ _ _ (@ic _ _ _ _ _ (@aq _ _ _ _ _ nA (@aq _ _ _ _ _ aO az (by rfl)) (by rfl))) az (by rfl)))) (by rfl) (by first | exact .inl rfl | exact .inr rfl | assumption))
  (@bE _ _ _ _ _ (@j6 _ _ _ _ _ _ _ _ (ib mN (pv 1) aO (aW _)) (@bE _ _ _ _ _ (@cP (i:=3) _ _ _ _ _ _ Dq.nd rfl (by first | exact Or.inl rfl | exact Or.inr rfl) (bT dG (hr.mono (by decide)) rfl bI.m bI.F.kp bI.b .nil ax (@aq _ _ _ _ _ (pv 0) (@aq _ _ _ _ _ aO (@aq _ _ _ _ _ aO az (by rfl)) (by rfl)) (by rfl))) (by rfl) (by first | exact .inl rfl | exact .inr rfl | assumption))
  (@bN _ _ _ (@dZ _ _ _ _ (bP pj (pv 3) (bT gH (hr.mono (by decide)) rfl cn.m cn.F.kp cn.b .nil ax (@aq _ _ _ _ _ (pv 3) az (by rfl))))))) kR)
  (@bN _ _ _ (@dZ _ _ _ _ (@b8 _ _ _ _ _ _ _ nS (@lF _ _ _ _ (@aq _ _ _ _ _ (pv 2) (@aq _ _ _ _ _ (bT gH (hr.mono (by decide)) rfl cn.m cn.F.kp cn.b .nil ax (@aq _ _ _ _ _ (pv 2) az (by rfl))) az (by rfl)) (by rfl))) (pv 1) (fun _ _=>rfl))))))),?_⟩
 exact gn (b:=Dp) (bF (ck (bU (F:=jS) (au (ao 0) (au (aP _) aB)) (aY (aY (fun _ _ _ _ h=>bW h)))) (bC 1))
  (bF (ck (aD pS (aD PZ (ik (au (ik (au (nH _) (au (aP _) aB))) (au (ik (au (nH _) (au (aP _) aB))) aB))) (aP _)) (ik (au (ik (au (nH _) (au (aP _) aB))) aB))) (bC 2))
  (bF (ki (ia (aD mV (ao 1) (aP _))) (bF (ck (bU (F:=tJ) (au (ao 0) (au (aP _) (au (aP _) aB))) (aY (aY (aY (fun _ _ _ _ h=>bW h))))) (bC 3))
  (d0 (aD pS (ao 3) (bU (F:=wW) (au (ao 3) aB) (aY (fun _ _ _ _ h=>bW h)))))) kU)
  (d0 (aD oi (lG (au (ao 2) (au (bU (F:=wW) (au (ao 2) aB) (aY (fun _ _ _ _ h=>bW h))) aB))) (ao 1)))))) rfl h
def Dr:ai->Dm Fl :=
 (aF (aM (aX d8 (ae (aX iT (ae (ag 1) ah)) ah)) (hName 2))
 (aF (aM (cj ah) (hName 3))
 (aF (jt (aT (aC (eZ true) (ag 2) (d7 ah))) (aM (aC fE (ag 3) (cj (ae (pX "list" kh (ag 2) (ae (aX jS (ae (ag 0) (ae (aX gk (ae (ag 2) ah)) ah))) ah)) ah))) (hName 3)))
 (bh (ag 3)))))
def qu:List D->Dm D:=fG 4 Dr
def x4:Stmt:=top 46
theorem Ds:aA ["_law_feed_here","_law_n","_law_left","_law_found"] ["_law_feed_here","_law_n"] (av x4):=⟨rfl,rfl,rfl,by decide +kernel,rfl,by decide +kernel,by decide +kernel⟩
theorem Qa {f:Addr} {fd:FuncData} (D:Def K mg "_law_turning" x4 ["_law_feed_here","_law_n"] f fd) (T:Txt mg)  {a5:Addr} {a6:FuncData} (aj:Def K mg "_law_take" rA ["_law_feed_here","_law_many"] a5 a6) (aK:ay P w K mg base bj 1 a5 a6 ["_law_feed_here","_law_many"] (br K 2 jS)):ay P w K mg base bj 2 f fd ["_law_feed_here","_law_n"] (br K 2 qu):=by
 refine D.F.ok Ds (fun vs H Q E h=>h.1) (fun cdv A outer s H vs Q E hr h=>?_)
 have hu:=hr.units
 have hu1:=gf hr
 refine ⟨_,(@bE _ _ _ _ _ (@cP (i:=2) _ _ _ _ _ _ Ds.nd rfl (by first | exact Or.inl rfl | exact Or.inr rfl) (ie (qL rfl) (by rfl) T.dF oI (@aq _ _ _ _ _ (ie E2 (by rfl) T.bG qK (@aq _ _ _ _ _ (pv 1) az (by rfl))) az (by rfl))) (by rfl) (by first | exact .inl rfl | exact .inr rfl | assumption))
  (@bE _ _ _ _ _ (@cP (i:=3) _ _ _ _ _ _ Ds.nd rfl (by first | exact Or.inl rfl | exact Or.inr rfl) (@ic _ _ _ _ _ az) (by rfl) (by first | exact .inl rfl | exact .inr rfl | assumption))
  (@bE _ _ _ _ _ (yH PassesOwn.never (ib (qN hu) (pv 2) (@lF _ _ _ _ az) (aW _)) (@bN _ _ _ (@cP (i:=3) _ _ _ _ _ _ Ds.nd rfl (by first | exact Or.inl rfl | exact Or.inr rfl) (bP pj (pv 3) (@ic _ _ _ _ _ (@aq _ _ _ _ _ (sa PySem.F.plainAttrs_list PySem.F.slot_list_pop PySem.F.type_list_pop LL (pv 2) (@aq _ _ _ _ _ (bT aK (hr.mono (by decide)) rfl aj.m aj.F.kp aj.b .nil ax (@aq _ _ _ _ _ (pv 0) (@aq _ _ _ _ _ (lS mO (by rfl) T.d4 mP (@aq _ _ _ _ _ (pv 2) az (by rfl))) az (by rfl)) (by rfl))) az (by rfl))) az (by rfl)))) (by rfl) (by first | exact .inl rfl | exact .inr rfl | assumption))))
  (@bN _ _ _ (@dZ _ _ _ _ (pv 3)))))),?_⟩
 exact gn (b:=Dr) (bF (ck (dD rl (au (dD F8 (au (ao 1) aB)) aB)) (bC 2))
  (bF (ck (ik aB) (bC 3))
  (bF (Ap (ia (aD (pP true) (ao 2) (lG aB))) (ck (aD pS (ao 3) (ik (au (sU Oh (ao 2) (au (bU (F:=jS) (au (ao 0) (au (dD mW (au (ao 2) aB)) aB)) (aY (aY (fun _ _ _ _ h=>bW h)))) aB)) aB))) (bC 3)))
  (d0 (ao 3))))) rfl h
def Dt:ai->Dm Fl :=
 (aF (aM (d7 (ae (fC (.int 0)) ah)) (hName 1))
 (aF (fA (dz (ae (aC dE (fC (.int 1)) (aX gk (ae (aC aR (ag 0) (fC (.int 0))) ah))) ah)) (hName 2) (fA (iA (ag 0)) (hName 3) (fA (kj (aX lq (ae (ag 1) ah))) (hName 4) (jr (aT (aC (pW true) (aC aR (ag 3) (ag 4)) (ag 1))) (jk (pX "list" dQ (ag 1) (ae (aC aR (ag 3) (ag 4)) ah))) cf))))
 (bh (ag 1))))
def rB:List D->Dm D:=fG 5 Dt
def Bc:Stmt:=top 47
theorem Bd:aA ["_law_floor_here","_law_found","_law_turn","_law_turning_here","_law_one"] ["_law_floor_here"] (av Bc):=⟨rfl,rfl,rfl,by decide +kernel,rfl,by decide +kernel,by decide +kernel⟩
theorem Qb {f:Addr} {fd:FuncData} (D:Def K mg "_law_met" Bc ["_law_floor_here"] f fd) (T:Txt mg)  :ay P w K mg base bj 1 f fd ["_law_floor_here"] (br K 1 rB):=by
 refine D.F.ok Bd (fun vs H Q E h=>h.1) (fun cdv A outer s H vs Q E hr h=>?_)
 have hu:=hr.units
 have hu1:=gf hr
 refine ⟨_,(@bE _ _ _ _ _ (@cP (i:=1) _ _ _ _ _ _ Bd.nd rfl (by first | exact Or.inl rfl | exact Or.inr rfl) (@lF _ _ _ _ (@aq _ _ _ _ _ aO az (by rfl))) (by rfl) (by first | exact .inl rfl | exact .inr rfl | assumption))
  (@bE _ _ _ _ _ (@mL _ _ _ _ _ _ _ _ PassesOwn.never rfl (qf rfl T.bG (@aq _ _ _ _ _ (bP kH aO (lS mO (by rfl) T.d4 mP (@aq _ _ _ _ _ (@b8 _ _ _ _ _ _ _ cM (pv 0) aO (fun _ _=>rfl)) az (by rfl)))) az (by rfl))) (jK (i:=2) Bd.nd rfl (by first | exact Or.inl rfl | exact Or.inr rfl)) (@bN _ _ _ (@mL _ _ _ _ _ _ _ _ PassesOwn.never rfl (rM (pv 0)) (jK (i:=3) Bd.nd rfl (by first | exact Or.inl rfl | exact Or.inr rfl)) (@bN _ _ _ (@mL _ _ _ _ _ _ _ _ PassesOwn.never rfl (EE (ie Cq (by rfl) T.dF oI (@aq _ _ _ _ _ (pv 1) az (by rfl)))) (jK (i:=4) Bd.nd rfl (by first | exact Or.inl rfl | exact Or.inr rfl)) (@bN _ _ _ (@j6 _ _ _ _ _ _ _ _ (ib ES (@b8 _ _ _ _ _ _ _ cM (pv 3) (pv 4) (fun _ _=>rfl)) (pv 1) (by with_unfolding_all rfl)) (@bN _ _ _ (um (sa PySem.F.plainAttrs_list PySem.F.slot_list_append PySem.F.type_list_append uE (pv 1) (@aq _ _ _ _ _ (@b8 _ _ _ _ _ _ _ cM (pv 3) (pv 4) (fun _ _=>rfl)) az (by rfl))))) kR)) (by intro _;rfl))) (by intro _;rfl))) (by intro _;rfl))
  (@bN _ _ _ (@dZ _ _ _ _ (pv 1))))),?_⟩
 exact gn (b:=Dt) (bF (ck (lG (au (aP _) aB)) (bC 1))
  (bF (mZ (qr (au (aD kL (aP _) (dD mW (au (aD cO (ao 0) (aP _)) aB))) aB)) (bC 2) (mZ (sY (ao 0)) (bC 3) (mZ (Ga (dD C4 (au (ao 1) aB))) (bC 4) (ki (ia (aD (C3 true) (aD cO (ao 3) (ao 4)) (ao 1))) (vD (sU vB (ao 1) (au (aD cO (ao 3) (ao 4)) aB))) kU))))
  (d0 (ao 1)))) rfl h
def Du:ai->Dm Fl :=
 (aF (aM (aX jS (ae (ag 0) (ae (fC (.int 6)) ah))) (hName 2))
 (aF (pY 3 4 (ae (aX lq (ae (aX qu (ae (ag 0) (ae (ag 1) ah))) ah)) (ae (aX lq (ae (aX qu (ae (ag 0) (ae (ag 1) ah))) ah)) ah)))
 (aF (jr (aT (aC (kM false) (ag 2) (fC (.int 0)))) (aM (aC lN (aX d8 (ae (aX eA (ae (fC (.int 1)) (ae (ag 1) ah))) ah)) (d7 (ae (fC (.int 0)) ah))) (hName 3)) cf)
 (aF (jr (aT (aC (kM false) (ag 2) (fC (.int 1)))) (pY 3 4 (ae (aX d8 (ae (aX iT (ae (ag 1) ah)) ah)) (ae (aC lN (aX d8 (ae (aX eA (ae (fC (.int 1)) (ae (ag 1) ah))) ah)) (d7 (ae (fC (.int 0)) ah))) ah))) cf)
 (aF (jr (aT (aC (kM false) (ag 2) (fC (.int 2)))) (aF (aM (aC dE (fC (.int 1)) (aX jS (ae (ag 0) (ae (ag 1) ah)))) (hName 5))
 (aF (aM (aC lN (aC lN (aX d8 (ae (aX eA (ae (fC (.int 1)) (ae (ag 5) ah))) ah)) (d7 (ae (fC (.int 0)) ah))) (aX d8 (ae (aX eA (ae (ag 5) (ae (ag 1) ah))) ah))) (hName 3))
 (aF (aM (sO pR (aC lN (aC lN (aC lN (d7 (ae (ag 5) ah)) (aX d8 (ae (aX eA (ae (fC (.int 1)) (ae (ag 5) ah))) ah))) (aX d8 (ae (aX eA (ae (aC dE (ag 5) (fC (.int 1))) (ae (ag 1) ah))) ah))) (d7 (ae (fC (.int 0)) ah))) gC (kD (ag 1))) (hName 4))
 (jr (aT (aC (kM false) (ag 5) (ag 1))) (aM (aX d8 (ae (aX iT (ae (ag 1) ah)) ah)) (hName 4)) cf)))) cf)
 (aF (aM (cj (ae (aX c4 (ae (ag 3) ah)) (ae (aX c4 (ae (ag 4) ah)) ah))) (hName 6))
 (aF (aM (e8 (dz (ae (ag 1) ah)) 1 [6] (hName 0) (aT (aC (pW true) (ag 0) (aX rB (ae (ag 1) ah)))) (ag 0)) (hName 7))
 (aF (jt (aT (aC (eZ true) (ag 7) (d7 ah))) (aF (aM (aC iz (ag 7) (fC (.int 0))) (hName 8))
 (aF (aM (cj (ae (aC iz (ag 3) (ag 8)) (ae (aC iz (ag 3) (fC (.int 0))) ah))) (ml 2 (fF (hSub (ag 3) (fC (.int 0))) (fF (hSub (ag 3) (ag 8)) mY))))
 (aF (aM (cj (ae (aX c4 (ae (ag 3) ah)) (ae (aX c4 (ae (ag 4) ah)) ah))) (hName 6))
 (aM (e8 (dz (ae (ag 1) ah)) 1 [6] (hName 0) (aT (aC (pW true) (ag 0) (aX rB (ae (ag 1) ah)))) (ag 0)) (hName 7))))))
 (bh (ag 6))))))))))
def Be:List D->Dm D:=fG 9 Du
def Bf:Stmt:=top 48
theorem oy:aA ["_law_feed_here","_law_n","_law_form","_law_right_here","_law_up","_law_wide","_law_found","_law_apart","_law_m"] ["_law_feed_here","_law_n"] (av Bf):=⟨rfl,rfl,rfl,by decide +kernel,rfl,by decide +kernel,by decide +kernel⟩
theorem Qc {f:Addr} {fd:FuncData} (D:Def K mg "_law_floor" Bf ["_law_feed_here","_law_n"] f fd) (T:Txt mg)  {a5:Addr} {a6:FuncData} (aj:Def K mg "_law_take" rA ["_law_feed_here","_law_many"] a5 a6) (aK:ay P w K mg base bj 1 a5 a6 ["_law_feed_here","_law_many"] (br K 2 jS)) {bX:Addr} {bY:FuncData} (aN:Def K mg "_law_turning" x4 ["_law_feed_here","_law_n"] bX bY) (bZ:ay P w K mg base bj 2 bX bY ["_law_feed_here","_law_n"] (br K 2 qu)) {iU:Addr} {iW:FuncData} (cU:Def K mg "_law_met" Bc ["_law_floor_here"] iU iW) (iX:ay P w K mg base bj 1 iU iW ["_law_floor_here"] (br K 1 rB)):ay P w K mg base bj 3 f fd ["_law_feed_here","_law_n"] (br K 2 Be):=by
 refine D.F.ok oy (fun vs H Q E h=>h.1) (fun cdv A outer s H vs Q E hr h=>?_)
 have hu:=hr.units
 have hu1:=gf hr
 refine ⟨_,(@bE _ _ _ _ _ (@cP (i:=2) _ _ _ _ _ _ oy.nd rfl (by first | exact Or.inl rfl | exact Or.inr rfl) (bT aK (hr.mono (by decide)) rfl aj.m aj.F.kp aj.b .nil ax (@aq _ _ _ _ _ (pv 0) (@aq _ _ _ _ _ aO az (by rfl)) (by rfl))) (by rfl) (by first | exact .inl rfl | exact .inr rfl | assumption))
  (@bE _ _ _ _ _ (Hm (i:=3) (j:=4) rfl oy.nd rfl rfl (by decide) rfl rfl (@aq _ _ _ _ _ (ie Cq (by rfl) T.dF oI (@aq _ _ _ _ _ (bT bZ (hr.mono (by decide)) rfl aN.m aN.F.kp aN.b .nil ax (@aq _ _ _ _ _ (pv 0) (@aq _ _ _ _ _ (pv 1) az (by rfl)) (by rfl))) az (by rfl))) (@aq _ _ _ _ _ (ie Cq (by rfl) T.dF oI (@aq _ _ _ _ _ (bT bZ (hr.mono (by decide)) rfl aN.m aN.F.kp aN.b .nil ax (@aq _ _ _ _ _ (pv 0) (@aq _ _ _ _ _ (pv 1) az (by rfl)) (by rfl))) az (by rfl))) az (by rfl)) (by rfl)) rfl)
  (@bE _ _ _ _ _ (@j6 _ _ _ _ _ _ _ _ (ib mN (pv 2) aO (aW _)) (@bN _ _ _ (@cP (i:=3) _ _ _ _ _ _ oy.nd rfl (by first | exact Or.inl rfl | exact Or.inr rfl) (bP uF (ie (qL rfl) (by rfl) T.dF oI (@aq _ _ _ _ _ (ie xD (by rfl) T.bG qK (@aq _ _ _ _ _ aO (@aq _ _ _ _ _ (pv 1) az (by rfl)) (by rfl))) az (by rfl))) (@lF _ _ _ _ (@aq _ _ _ _ _ aO az (by rfl)))) (by rfl) (by first | exact .inl rfl | exact .inr rfl | assumption))) kR)
  (@bE _ _ _ _ _ (@j6 _ _ _ _ _ _ _ _ (ib mN (pv 2) aO (aW _)) (@bN _ _ _ (Hm (i:=3) (j:=4) rfl oy.nd rfl rfl (by decide) rfl rfl (@aq _ _ _ _ _ (ie (qL rfl) (by rfl) T.dF oI (@aq _ _ _ _ _ (ie E2 (by rfl) T.bG qK (@aq _ _ _ _ _ (pv 1) az (by rfl))) az (by rfl))) (@aq _ _ _ _ _ (bP uF (ie (qL rfl) (by rfl) T.dF oI (@aq _ _ _ _ _ (ie xD (by rfl) T.bG qK (@aq _ _ _ _ _ aO (@aq _ _ _ _ _ (pv 1) az (by rfl)) (by rfl))) az (by rfl))) (@lF _ _ _ _ (@aq _ _ _ _ _ aO az (by rfl)))) az (by rfl)) (by rfl)) rfl)) kR)
  (@bE _ _ _ _ _ (@j6 _ _ _ _ _ _ _ _ (ib mN (pv 2) aO (aW _)) (@bE _ _ _ _ _ (@cP (i:=5) _ _ _ _ _ _ oy.nd rfl (by first | exact Or.inl rfl | exact Or.inr rfl) (bP kH aO (bT aK (hr.mono (by decide)) rfl aj.m aj.F.kp aj.b .nil ax (@aq _ _ _ _ _ (pv 0) (@aq _ _ _ _ _ (pv 1) az (by rfl)) (by rfl)))) (by rfl) (by first | exact .inl rfl | exact .inr rfl | assumption))
  (@bE _ _ _ _ _ (@cP (i:=3) _ _ _ _ _ _ oy.nd rfl (by first | exact Or.inl rfl | exact Or.inr rfl) (bP uF (bP uF (ie (qL rfl) (by rfl) T.dF oI (@aq _ _ _ _ _ (ie xD (by rfl) T.bG qK (@aq _ _ _ _ _ aO (@aq _ _ _ _ _ (pv 5) az (by rfl)) (by rfl))) az (by rfl))) (@lF _ _ _ _ (@aq _ _ _ _ _ aO az (by rfl)))) (ie (qL rfl) (by rfl) T.dF oI (@aq _ _ _ _ _ (ie xD (by rfl) T.bG qK (@aq _ _ _ _ _ (pv 5) (@aq _ _ _ _ _ (pv 1) az (by rfl)) (by rfl))) az (by rfl)))) (by rfl) (by first | exact .inl rfl | exact .inr rfl | assumption))
  (@bE _ _ _ _ _ (@cP (i:=4) _ _ _ _ _ _ oy.nd rfl (by first | exact Or.inl rfl | exact Or.inr rfl) (yX HR (bP uF (bP uF (bP uF (@lF _ _ _ _ (@aq _ _ _ _ _ (pv 5) az (by rfl))) (ie (qL rfl) (by rfl) T.dF oI (@aq _ _ _ _ _ (ie xD (by rfl) T.bG qK (@aq _ _ _ _ _ aO (@aq _ _ _ _ _ (pv 5) az (by rfl)) (by rfl))) az (by rfl)))) (ie (qL rfl) (by rfl) T.dF oI (@aq _ _ _ _ _ (ie xD (by rfl) T.bG qK (@aq _ _ _ _ _ (bP kH (pv 5) aO) (@aq _ _ _ _ _ (pv 1) az (by rfl)) (by rfl))) az (by rfl)))) (@lF _ _ _ _ (@aq _ _ _ _ _ aO az (by rfl)))) yV (yW (pv 1))) (by rfl) (by first | exact .inl rfl | exact .inr rfl | assumption))
  (@bN _ _ _ (@j6 _ _ _ _ _ _ _ _ (ib mN (pv 5) (pv 1) (aW _)) (@bN _ _ _ (@cP (i:=4) _ _ _ _ _ _ oy.nd rfl (by first | exact Or.inl rfl | exact Or.inr rfl) (ie (qL rfl) (by rfl) T.dF oI (@aq _ _ _ _ _ (ie E2 (by rfl) T.bG qK (@aq _ _ _ _ _ (pv 1) az (by rfl))) az (by rfl))) (by rfl) (by first | exact .inl rfl | exact .inr rfl | assumption))) kR))))) kR)
  (@bE _ _ _ _ _ (@cP (i:=6) _ _ _ _ _ _ oy.nd rfl (by first | exact Or.inl rfl | exact Or.inr rfl) (@ic _ _ _ _ _ (@aq _ _ _ _ _ (ie oF (by rfl) T.cT oJ (@aq _ _ _ _ _ (pv 3) az (by rfl))) (@aq _ _ _ _ _ (ie oF (by rfl) T.cT oJ (@aq _ _ _ _ _ (pv 4) az (by rfl))) az (by rfl)) (by rfl))) (by rfl) (by first | exact .inl rfl | exact .inr rfl | assumption))
  (@bE _ _ _ _ _ (Fh (i:=7) (own:=["_law_s"]) (fr:=["_law_found"]) (js:=[6]) rfl oy.nd rfl rfl ⟨⟨rfl,by decide +kernel,by decide +kernel,by dsimp only [j9,bg,Cx.oZ,Cx.wish,PyProof.Rows.envOfC,compEnvC,relabel,Env.kindOf];decide +kernel,by decide +kernel⟩,rfl⟩ (qf rfl T.bG (@aq _ _ _ _ _ (pv 1) az (by rfl))) (fun _ _ _ _ _=>(jK (i:=0) (show ((["_law_s"]:List Str) ++ (["_law_found"]:List Str)).Nodup by decide +kernel) rfl (by first | exact Or.inl rfl | exact Or.inr rfl))) (fun _ _ _ _ _=>(E6 (ib (IA (K:=K) rfl) (pv 0) (bT iX (hr.mono (by decide)) rfl cU.m cU.F.kp cU.b .nil ax (@aq _ _ _ _ _ (pv 1) az (by rfl))) (by with_unfolding_all rfl)))) (fun _ _ _ _ _=>(pv 0)))
  (@bE _ _ _ _ _ (yH PassesOwn.never (ib (qN hu) (pv 7) (@lF _ _ _ _ az) (aW _)) (@bE _ _ _ _ _ (@cP (i:=8) _ _ _ _ _ _ oy.nd rfl (by first | exact Or.inl rfl | exact Or.inr rfl) (@b8 _ _ _ _ _ _ _ nS (pv 7) aO (fun _ _=>rfl)) (by rfl) (by first | exact .inl rfl | exact .inr rfl | assumption))
  (@bE _ _ _ _ _ (xy (@ic _ _ _ _ _ (@aq _ _ _ _ _ (@b8 _ _ _ _ _ _ _ nS (pv 3) (pv 8) (fun _ _=>rfl)) (@aq _ _ _ _ _ (@b8 _ _ _ _ _ _ _ nS (pv 3) aO (fun _ _=>rfl)) az (by rfl)) (by rfl))) (yF (n:=2) rfl (qe (xx (pv 3) aO xB) (qe (xx (pv 3) (pv 8) xB) yE))))
  (@bE _ _ _ _ _ (@cP (i:=6) _ _ _ _ _ _ oy.nd rfl (by first | exact Or.inl rfl | exact Or.inr rfl) (@ic _ _ _ _ _ (@aq _ _ _ _ _ (ie oF (by rfl) T.cT oJ (@aq _ _ _ _ _ (pv 3) az (by rfl))) (@aq _ _ _ _ _ (ie oF (by rfl) T.cT oJ (@aq _ _ _ _ _ (pv 4) az (by rfl))) az (by rfl)) (by rfl))) (by rfl) (by first | exact .inl rfl | exact .inr rfl | assumption))
  (@bN _ _ _ (Fh (i:=7) (own:=["_law_s"]) (fr:=["_law_found"]) (js:=[6]) rfl oy.nd rfl rfl ⟨⟨rfl,by decide +kernel,by decide +kernel,by dsimp only [j9,bg,Cx.oZ,Cx.wish,PyProof.Rows.envOfC,compEnvC,relabel,Env.kindOf];decide +kernel,by decide +kernel⟩,rfl⟩ (qf rfl T.bG (@aq _ _ _ _ _ (pv 1) az (by rfl))) (fun _ _ _ _ _=>(jK (i:=0) (show ((["_law_s"]:List Str) ++ (["_law_found"]:List Str)).Nodup by decide +kernel) rfl (by first | exact Or.inl rfl | exact Or.inr rfl))) (fun _ _ _ _ _=>(E6 (ib (IA (K:=K) rfl) (pv 0) (bT iX (hr.mono (by decide)) rfl cU.m cU.F.kp cU.b .nil ax (@aq _ _ _ _ _ (pv 1) az (by rfl))) (by with_unfolding_all rfl)))) (fun _ _ _ _ _=>(pv 0))))))))
  (@bN _ _ _ (@dZ _ _ _ _ (pv 6))))))))))),?_⟩
 exact gn (b:=Du) (bF (ck (bU (F:=jS) (au (ao 0) (au (aP _) aB)) (aY (aY (fun _ _ _ _ h=>bW h)))) (bC 2))
  (bF (J3 (au (dD C4 (au (bU (F:=qu) (au (ao 0) (au (ao 1) aB)) (aY (aY (fun _ _ _ _ h=>bW h)))) aB)) (au (dD C4 (au (bU (F:=qu) (au (ao 0) (au (ao 1) aB)) (aY (aY (fun _ _ _ _ h=>bW h)))) aB)) aB)))
  (bF (ki (ia (aD mV (ao 2) (aP _))) (ck (aD vt (dD rl (au (dD xQ (au (aP _) (au (ao 1) aB))) aB)) (lG (au (aP _) aB))) (bC 3)) kU)
  (bF (ki (ia (aD mV (ao 2) (aP _))) (J3 (au (dD rl (au (dD F8 (au (ao 1) aB)) aB)) (au (aD vt (dD rl (au (dD xQ (au (aP _) (au (ao 1) aB))) aB)) (lG (au (aP _) aB))) aB))) kU)
  (bF (ki (ia (aD mV (ao 2) (aP _))) (bF (ck (aD kL (aP _) (bU (F:=jS) (au (ao 0) (au (ao 1) aB)) (aY (aY (fun _ _ _ _ h=>bW h))))) (bC 5))
  (bF (ck (aD vt (aD vt (dD rl (au (dD xQ (au (aP _) (au (ao 5) aB))) aB)) (lG (au (aP _) aB))) (dD rl (au (dD xQ (au (ao 5) (au (ao 1) aB))) aB))) (bC 3))
  (bF (ck (Ag JX (aD vt (aD vt (aD vt (lG (au (ao 5) aB)) (dD rl (au (dD xQ (au (aP _) (au (ao 5) aB))) aB))) (dD rl (au (dD xQ (au (aD kL (ao 5) (aP _)) (au (ao 1) aB))) aB))) (lG (au (aP _) aB))) Ae (Af (ao 1))) (bC 4))
  (ki (ia (aD mV (ao 5) (ao 1))) (ck (dD rl (au (dD F8 (au (ao 1) aB)) aB)) (bC 4)) kU)))) kU)
  (bF (ck (ik (au (dD oP (au (ao 3) aB)) (au (dD oP (au (ao 4) aB)) aB))) (bC 6))
  (bF (ck (vG (qr (au (ao 1) aB)) (bC 0) (ia (aD (C3 true) (ao 0) (bU (F:=rB) (au (ao 1) aB) (aY (fun _ _ _ _ h=>bW h))))) (ao 0)) (bC 7))
  (bF (Ap (ia (aD (pP true) (ao 7) (lG aB))) (bF (ck (aD oi (ao 7) (aP _)) (bC 8))
  (bF (ck (ik (au (aD oi (ao 3) (ao 8)) (au (aD oi (ao 3) (aP _)) aB))) (Ao (qq (xS (ao 3) (aP _)) (qq (xS (ao 3) (ao 8)) An))))
  (bF (ck (ik (au (dD oP (au (ao 3) aB)) (au (dD oP (au (ao 4) aB)) aB))) (bC 6))
  (ck (vG (qr (au (ao 1) aB)) (bC 0) (ia (aD (C3 true) (ao 0) (bU (F:=rB) (au (ao 1) aB) (aY (fun _ _ _ _ h=>bW h))))) (ao 0)) (bC 7))))))
  (d0 (ao 6)))))))))) rfl h
def Dw:ai->Dm Fl :=
 (aF (aM (aC pV (d7 (ae (fC (.int 0)) ah)) (aX gk (ae (ag 0) ah))) (hName 1))
 (aF (fA (lr (ae (ag 0) ah)) (ml 2 (fF (hName 2) (fF (hName 3) mY))) (aM (ag 2) (hSub (ag 1) (ag 3))))
 (bh (aX c4 (ae (ag 1) ah)))))
def p8:List D->Dm D:=fG 4 Dw
def wX:Stmt:=top 5
theorem Dx:aA ["turning","back","number","led"] ["turning"] (av wX):=⟨rfl,rfl,rfl,by decide +kernel,rfl,by decide +kernel,by decide +kernel⟩
theorem Qd {f:Addr} {fd:FuncData} (D:Def K mg "turned_back" wX ["turning"] f fd) (T:Txt mg)  :ay P w K mg base bj 1 f fd ["turning"] (br K 1 p8):=by
 refine D.F.ok Dx (fun vs H Q E h=>h.1) (fun cdv A outer s H vs Q E hr h=>?_)
 have hu:=hr.units
 have hu1:=gf hr
 refine ⟨_,(@bE _ _ _ _ _ (@cP (i:=1) _ _ _ _ _ _ Dx.nd rfl (by first | exact Or.inl rfl | exact Or.inr rfl) (bP HY (@lF _ _ _ _ (@aq _ _ _ _ _ aO az (by rfl))) (lS mO (by rfl) T.d4 mP (@aq _ _ _ _ _ (pv 0) az (by rfl)))) (by rfl) (by first | exact .inl rfl | exact .inr rfl | assumption))
  (@bE _ _ _ _ _ (@mL _ _ _ _ _ _ _ _ PassesOwn.never rfl (IC rfl T.kF (@aq _ _ _ _ _ (pv 0) az (by rfl))) (yF (n:=2) rfl (qe (jK (i:=2) Dx.nd rfl (by first | exact Or.inl rfl | exact Or.inr rfl)) (qe (jK (i:=3) Dx.nd rfl (by first | exact Or.inl rfl | exact Or.inr rfl)) yE))) (@bN _ _ _ (xy (pv 2) (xx (pv 1) (pv 3) xB))) (by intro _;rfl))
  (@bN _ _ _ (@dZ _ _ _ _ (ie oF (by rfl) T.cT oJ (@aq _ _ _ _ _ (pv 1) az (by rfl))))))),?_⟩
 exact gn (b:=Dw) (bF (ck (aD J2 (lG (au (aP _) aB)) (dD mW (au (ao 0) aB))) (bC 1))
  (bF (mZ (J5 (au (ao 0) aB)) (Ao (qq (bC 2) (qq (bC 3) An))) (ck (ao 2) (xS (ao 1) (ao 3))))
  (d0 (dD oP (au (ao 1) aB))))) rfl h
def Dy:ai->Dm Fl :=
 (bh (aX c4 (ae (e8 (iA (ag 0)) 1 [1] (hName 0) hW (aC aR (ag 1) (ag 0))) ah)))
def ni:List D->Dm D:=fG 2 Dy
def wY:Stmt:=top 4
theorem Qe:aA ["one","other"] ["one","other"] (av wY):=⟨rfl,rfl,rfl,by decide +kernel,rfl,by decide +kernel,by decide +kernel⟩
theorem Qf {f:Addr} {fd:FuncData} (D:Def K mg "followed" wY ["one","other"] f fd) (T:Txt mg)  :ay P w K mg base bj 1 f fd ["one","other"] (br K 2 ni):=by
 refine D.F.ok Qe (fun vs H Q E h=>h.1) (fun cdv A outer s H vs Q E hr h=>?_)
 have hu:=hr.units
 have hu1:=gf hr
 refine ⟨_,(@bN _ _ _ (@dZ _ _ _ _ (ie oF (by rfl) T.cT oJ (@aq _ _ _ _ _ (Cz (own:=["number"]) (fr:=["other"]) (js:=[1]) rfl ⟨⟨rfl,by decide +kernel,by decide +kernel,by dsimp only [j9,bg,Cx.oZ,Cx.wish,PyProof.Rows.envOfC,compEnvC,relabel,Env.kindOf];decide +kernel,by decide +kernel⟩,rfl⟩ (rM (pv 0)) (fun _ _ _ _ _=>(jK (i:=0) (show ((["number"]:List Str) ++ (["other"]:List Str)).Nodup by decide +kernel) rfl (by first | exact Or.inl rfl | exact Or.inr rfl))) (fun _ _ _ _ _=>Cu) (fun _ _ _ _ _=>(@b8 _ _ _ _ _ _ _ (Mq (K:=K) rfl) (pv 1) (pv 0) (fun _ _=>rfl)))) az (by rfl))))),?_⟩
 exact gn (b:=Dy) (d0 (dD oP (au (vG (sY (ao 0)) (bC 0) C7 (aD cO (ao 1) (ao 0))) aB))) rfl h
def Dz:ai->Dm Fl :=
 (aF (aM (aX p8 (ae (ag 1) ah)) (hName 2))
 (aF (aM (aX ni (ae (aX ni (ae (ag 2) (ae (aC aR (ag 0) (fC (.int 0))) ah))) (ae (ag 1) ah))) (hName 3))
 (aF (aM (aX ni (ae (aX ni (ae (ag 2) (ae (aC aR (ag 0) (fC (.int 1))) ah))) (ae (ag 1) ah))) (hName 4))
 (bh (cj (ae (ag 3) (ae (ag 4) ah)))))))
def qv:List D->Dm D:=fG 5 Dz
def x5:Stmt:=top 12
theorem DA:aA ["floor","p","back","right","up"] ["floor","p"] (av x5):=⟨rfl,rfl,rfl,by decide +kernel,rfl,by decide +kernel,by decide +kernel⟩
theorem Qg {f:Addr} {fd:FuncData} (D:Def K mg "called_anew" x5 ["floor","p"] f fd) (T:Txt mg)  {bp:Addr} {bq:FuncData} (aL:Def K mg "turned_back" wX ["turning"] bp bq) (bH:ay P w K mg base bj 1 bp bq ["turning"] (br K 1 p8)) {cx:Addr} {cy:FuncData} (aG:Def K mg "followed" wY ["one","other"] cx cy) (bQ:ay P w K mg base bj 1 cx cy ["one","other"] (br K 2 ni)):ay P w K mg base bj 2 f fd ["floor","p"] (br K 2 qv):=by
 refine D.F.ok DA (fun vs H Q E h=>h.1) (fun cdv A outer s H vs Q E hr h=>?_)
 have hu:=hr.units
 have hu1:=gf hr
 refine ⟨_,(@bE _ _ _ _ _ (@cP (i:=2) _ _ _ _ _ _ DA.nd rfl (by first | exact Or.inl rfl | exact Or.inr rfl) (bT bH (hr.mono (by decide)) rfl aL.m aL.F.kp aL.b .nil ax (@aq _ _ _ _ _ (pv 1) az (by rfl))) (by rfl) (by first | exact .inl rfl | exact .inr rfl | assumption))
  (@bE _ _ _ _ _ (@cP (i:=3) _ _ _ _ _ _ DA.nd rfl (by first | exact Or.inl rfl | exact Or.inr rfl) (bT bQ (hr.mono (by decide)) rfl aG.m aG.F.kp aG.b .nil ax (@aq _ _ _ _ _ (bT bQ (hr.mono (by decide)) rfl aG.m aG.F.kp aG.b .nil ax (@aq _ _ _ _ _ (pv 2) (@aq _ _ _ _ _ (@b8 _ _ _ _ _ _ _ cM (pv 0) aO (fun _ _=>rfl)) az (by rfl)) (by rfl))) (@aq _ _ _ _ _ (pv 1) az (by rfl)) (by rfl))) (by rfl) (by first | exact .inl rfl | exact .inr rfl | assumption))
  (@bE _ _ _ _ _ (@cP (i:=4) _ _ _ _ _ _ DA.nd rfl (by first | exact Or.inl rfl | exact Or.inr rfl) (bT bQ (hr.mono (by decide)) rfl aG.m aG.F.kp aG.b .nil ax (@aq _ _ _ _ _ (bT bQ (hr.mono (by decide)) rfl aG.m aG.F.kp aG.b .nil ax (@aq _ _ _ _ _ (pv 2) (@aq _ _ _ _ _ (@b8 _ _ _ _ _ _ _ cM (pv 0) aO (fun _ _=>rfl)) az (by rfl)) (by rfl))) (@aq _ _ _ _ _ (pv 1) az (by rfl)) (by rfl))) (by rfl) (by first | exact .inl rfl | exact .inr rfl | assumption))
  (@bN _ _ _ (@dZ _ _ _ _ (@ic _ _ _ _ _ (@aq _ _ _ _ _ (pv 3) (@aq _ _ _ _ _ (pv 4) az (by rfl)) (by rfl)))))))),?_⟩
 exact gn (b:=Dz) (bF (ck (bU (F:=p8) (au (ao 1) aB) (aY (fun _ _ _ _ h=>bW h))) (bC 2))
  (bF (ck (bU (F:=ni) (au (bU (F:=ni) (au (ao 2) (au (aD cO (ao 0) (aP _)) aB)) (aY (aY (fun _ _ _ _ h=>bW h)))) (au (ao 1) aB)) (aY (aY (fun _ _ _ _ h=>bW h)))) (bC 3))
  (bF (ck (bU (F:=ni) (au (bU (F:=ni) (au (ao 2) (au (aD cO (ao 0) (aP _)) aB)) (aY (aY (fun _ _ _ _ h=>bW h)))) (au (ao 1) aB)) (aY (aY (fun _ _ _ _ h=>bW h)))) (bC 4))
  (d0 (ik (au (ao 3) (au (ao 4) aB))))))) rfl h
def DB:ai->Dm Fl :=
 (aF (aM (d7 (ae (ag 1) ah)) (hName 2))
 (aF (aM (fC (.int 0)) (hName 3))
 (aF (jt (aT (aC C0 (ag 3) (aX gk (ae (ag 2) ah)))) (aF (fA (iA (ag 0)) (hName 4) (aF (aM (aC aR (ag 4) (aC iz (ag 2) (ag 3))) (hName 5))
 (jr (aT (aC (pW true) (ag 5) (ag 2))) (jk (pX "list" dQ (ag 2) (ae (ag 5) ah))) cf)))
 (aM (aC dE (ag 3) (fC (.int 1))) (hName 3))))
 (bh (aX c4 (ae (ag 2) ah))))))
def tK:List D->Dm D:=fG 6 DB
def x6:Stmt:=top 10
theorem x8:aA ["floor","s","squares","place","turning","reached"] ["floor","s"] (av x6):=⟨rfl,rfl,rfl,by decide +kernel,rfl,by decide +kernel,by decide +kernel⟩
theorem Qh {f:Addr} {fd:FuncData} (D:Def K mg "squares_from" x6 ["floor","s"] f fd) (T:Txt mg)  :ay P w K mg base bj 1 f fd ["floor","s"] (br K 2 tK):=by
 refine D.F.ok x8 (fun vs H Q E h=>h.1) (fun cdv A outer s H vs Q E hr h=>?_)
 have hu:=hr.units
 have hu1:=gf hr
 refine ⟨_,(@bE _ _ _ _ _ (@cP (i:=2) _ _ _ _ _ _ x8.nd rfl (by first | exact Or.inl rfl | exact Or.inr rfl) (@lF _ _ _ _ (@aq _ _ _ _ _ (pv 1) az (by rfl))) (by rfl) (by first | exact .inl rfl | exact .inr rfl | assumption))
  (@bE _ _ _ _ _ (@cP (i:=3) _ _ _ _ _ _ x8.nd rfl (by first | exact Or.inl rfl | exact Or.inr rfl) aO (by rfl) (by first | exact .inl rfl | exact .inr rfl | assumption))
  (@bE _ _ _ _ _ (yH PassesOwn.never (ib rS (pv 3) (lS mO (by rfl) T.d4 mP (@aq _ _ _ _ _ (pv 2) az (by rfl))) (aW _)) (@bE _ _ _ _ _ (@mL _ _ _ _ _ _ _ _ PassesOwn.never rfl (rM (pv 0)) (jK (i:=4) x8.nd rfl (by first | exact Or.inl rfl | exact Or.inr rfl)) (@bE _ _ _ _ _ (@cP (i:=5) _ _ _ _ _ _ x8.nd rfl (by first | exact Or.inl rfl | exact Or.inr rfl) (@b8 _ _ _ _ _ _ _ cM (pv 4) (@b8 _ _ _ _ _ _ _ nS (pv 2) (pv 3) (fun _ _=>rfl)) (fun _ _=>rfl)) (by rfl) (by first | exact .inl rfl | exact .inr rfl | assumption))
  (@bN _ _ _ (@j6 _ _ _ _ _ _ _ _ (ib ES (pv 5) (pv 2) (by with_unfolding_all rfl)) (@bN _ _ _ (um (sa PySem.F.plainAttrs_list PySem.F.slot_list_append PySem.F.type_list_append uE (pv 2) (@aq _ _ _ _ _ (pv 5) az (by rfl))))) kR))) (by intro _;rfl))
  (@bN _ _ _ (@cP (i:=3) _ _ _ _ _ _ x8.nd rfl (by first | exact Or.inl rfl | exact Or.inr rfl) (bP kH (pv 3) aO) (by rfl) (by first | exact .inl rfl | exact .inr rfl | assumption)))))
  (@bN _ _ _ (@dZ _ _ _ _ (ie oF (by rfl) T.cT oJ (@aq _ _ _ _ _ (pv 2) az (by rfl)))))))),?_⟩
 exact gn (b:=DB) (bF (ck (lG (au (ao 1) aB)) (bC 2))
  (bF (ck (aP _) (bC 3))
  (bF (Ap (ia (aD sQ (ao 3) (dD mW (au (ao 2) aB)))) (bF (mZ (sY (ao 0)) (bC 4) (bF (ck (aD cO (ao 4) (aD oi (ao 2) (ao 3))) (bC 5))
  (ki (ia (aD (C3 true) (ao 5) (ao 2))) (vD (sU vB (ao 2) (au (ao 5) aB))) kU)))
  (ck (aD kL (ao 3) (aP _)) (bC 3))))
  (d0 (dD oP (au (ao 2) aB)))))) rfl h
def DC:ai->Dm Fl :=
 (bh (aX p8 (ae (aX tK (ae (ag 0) (ae (ag 1) ah))) ah)))
def tL:List D->Dm D:=fG 2 DC
def x9:Stmt:=top 13
theorem Qi:aA ["floor","s"] ["floor","s"] (av x9):=⟨rfl,rfl,rfl,by decide +kernel,rfl,by decide +kernel,by decide +kernel⟩
theorem Qj {f:Addr} {fd:FuncData} (D:Def K mg "numbering_from" x9 ["floor","s"] f fd) (T:Txt mg)  {bp:Addr} {bq:FuncData} (aL:Def K mg "turned_back" wX ["turning"] bp bq) (bH:ay P w K mg base bj 1 bp bq ["turning"] (br K 1 p8)) {b5:Addr} {b6:FuncData} (a9:Def K mg "squares_from" x6 ["floor","s"] b5 b6) (cz:ay P w K mg base bj 1 b5 b6 ["floor","s"] (br K 2 tK)):ay P w K mg base bj 2 f fd ["floor","s"] (br K 2 tL):=by
 refine D.F.ok Qi (fun vs H Q E h=>h.1) (fun cdv A outer s H vs Q E hr h=>?_)
 have hu:=hr.units
 have hu1:=gf hr
 refine ⟨_,(@bN _ _ _ (@dZ _ _ _ _ (bT bH (hr.mono (by decide)) rfl aL.m aL.F.kp aL.b .nil ax (@aq _ _ _ _ _ (bT cz (hr.mono (by decide)) rfl a9.m a9.F.kp a9.b .nil ax (@aq _ _ _ _ _ (pv 0) (@aq _ _ _ _ _ (pv 1) az (by rfl)) (by rfl))) az (by rfl))))),?_⟩
 exact gn (b:=DC) (d0 (bU (F:=p8) (au (bU (F:=tK) (au (ao 0) (au (ao 1) aB)) (aY (aY (fun _ _ _ _ h=>bW h)))) aB) (aY (fun _ _ _ _ h=>bW h)))) rfl h
def DE:ai->Dm Fl :=
 (bh (aX qv (ae (ag 0) (ae (aX tL (ae (ag 0) (ae (ag 1) ah))) ah))))
def qw:List D->Dm D:=fG 2 DE
def ya:Stmt:=top 14
theorem Qk:aA ["floor","s"] ["floor","s"] (av ya):=⟨rfl,rfl,rfl,by decide +kernel,rfl,by decide +kernel,by decide +kernel⟩
theorem Ql {f:Addr} {fd:FuncData} (D:Def K mg "numbered_from" ya ["floor","s"] f fd) (T:Txt mg)  {cq:Addr} {cu:FuncData} (aV:Def K mg "called_anew" x5 ["floor","p"] cq cu) (cv:ay P w K mg base bj 2 cq cu ["floor","p"] (br K 2 qv)) {bz:Addr} {bA:FuncData} (aU:Def K mg "numbering_from" x9 ["floor","s"] bz bA) (bR:ay P w K mg base bj 2 bz bA ["floor","s"] (br K 2 tL)):ay P w K mg base bj 3 f fd ["floor","s"] (br K 2 qw):=by
 refine D.F.ok Qk (fun vs H Q E h=>h.1) (fun cdv A outer s H vs Q E hr h=>?_)
 have hu:=hr.units
 have hu1:=gf hr
 refine ⟨_,(@bN _ _ _ (@dZ _ _ _ _ (bT cv (hr.mono (by decide)) rfl aV.m aV.F.kp aV.b .nil ax (@aq _ _ _ _ _ (pv 0) (@aq _ _ _ _ _ (bT bR (hr.mono (by decide)) rfl aU.m aU.F.kp aU.b .nil ax (@aq _ _ _ _ _ (pv 0) (@aq _ _ _ _ _ (pv 1) az (by rfl)) (by rfl))) az (by rfl)) (by rfl))))),?_⟩
 exact gn (b:=DE) (d0 (bU (F:=qv) (au (ao 0) (au (bU (F:=tL) (au (ao 0) (au (ao 1) aB)) (aY (aY (fun _ _ _ _ h=>bW h)))) aB)) (aY (aY (fun _ _ _ _ h=>bW h))))) rfl h
def DF:ai->Dm Fl :=
 (aF (aM (d7 ah) (hName 2))
 (aF (aM (aX qw (ae (ag 0) (ae (fC (.int 0)) ah))) (hName 3))
 (aF (aM (aX tL (ae (ag 0) (ae (fC (.int 0)) ah))) (hName 4))
 (aF (fA (dz (ae (aX gk (ae (aC aR (ag 1) (fC (.int 0))) ah)) ah)) (hName 5) (jr (aT (aC (eZ false) (aX qw (ae (ag 1) (ae (ag 5) ah))) (ag 3))) (jk (pX "list" dQ (ag 2) (ae (aX ni (ae (ag 4) (ae (aX tK (ae (ag 1) (ae (ag 5) ah))) ah))) ah))) cf))
 (bh (aX kl (ae (ag 2) ah)))))))
def wZ:List D->Dm D:=fG 6 DF
def Bg:Stmt:=top 16
theorem Bh:aA ["one","other","told","numbered","numbering","s"] ["one","other"] (av Bg):=⟨rfl,rfl,rfl,by decide +kernel,rfl,by decide +kernel,by decide +kernel⟩
theorem Qm {f:Addr} {fd:FuncData} (D:Def K mg "callings" Bg ["one","other"] f fd) (T:Txt mg)  {bJ:Addr} {bK:FuncData} (aJ:Def K mg "numbered_from" ya ["floor","s"] bJ bK) (bL:ay P w K mg base bj 3 bJ bK ["floor","s"] (br K 2 qw)) {bz:Addr} {bA:FuncData} (aU:Def K mg "numbering_from" x9 ["floor","s"] bz bA) (bR:ay P w K mg base bj 2 bz bA ["floor","s"] (br K 2 tL)) {cx:Addr} {cy:FuncData} (aG:Def K mg "followed" wY ["one","other"] cx cy) (bQ:ay P w K mg base bj 1 cx cy ["one","other"] (br K 2 ni)) {b5:Addr} {b6:FuncData} (a9:Def K mg "squares_from" x6 ["floor","s"] b5 b6) (cz:ay P w K mg base bj 1 b5 b6 ["floor","s"] (br K 2 tK)):ay P w K mg base bj 4 f fd ["one","other"] (br K 2 wZ):=by
 refine D.F.ok Bh (fun vs H Q E h=>h.1) (fun cdv A outer s H vs Q E hr h=>?_)
 have hu:=hr.units
 have hu1:=gf hr
 refine ⟨_,(@bE _ _ _ _ _ (@cP (i:=2) _ _ _ _ _ _ Bh.nd rfl (by first | exact Or.inl rfl | exact Or.inr rfl) (@lF _ _ _ _ az) (by rfl) (by first | exact .inl rfl | exact .inr rfl | assumption))
  (@bE _ _ _ _ _ (@cP (i:=3) _ _ _ _ _ _ Bh.nd rfl (by first | exact Or.inl rfl | exact Or.inr rfl) (bT bL (hr.mono (by decide)) rfl aJ.m aJ.F.kp aJ.b .nil ax (@aq _ _ _ _ _ (pv 0) (@aq _ _ _ _ _ aO az (by rfl)) (by rfl))) (by rfl) (by first | exact .inl rfl | exact .inr rfl | assumption))
  (@bE _ _ _ _ _ (@cP (i:=4) _ _ _ _ _ _ Bh.nd rfl (by first | exact Or.inl rfl | exact Or.inr rfl) (bT bR (hr.mono (by decide)) rfl aU.m aU.F.kp aU.b .nil ax (@aq _ _ _ _ _ (pv 0) (@aq _ _ _ _ _ aO az (by rfl)) (by rfl))) (by rfl) (by first | exact .inl rfl | exact .inr rfl | assumption))
  (@bE _ _ _ _ _ (@mL _ _ _ _ _ _ _ _ PassesOwn.never rfl (qf rfl T.bG (@aq _ _ _ _ _ (lS mO (by rfl) T.d4 mP (@aq _ _ _ _ _ (@b8 _ _ _ _ _ _ _ cM (pv 1) aO (fun _ _=>rfl)) az (by rfl))) az (by rfl))) (jK (i:=5) Bh.nd rfl (by first | exact Or.inl rfl | exact Or.inr rfl)) (@bN _ _ _ (@j6 _ _ _ _ _ _ _ _ (ib (Il hu) (bT bL (hr.mono (by decide)) rfl aJ.m aJ.F.kp aJ.b .nil ax (@aq _ _ _ _ _ (pv 1) (@aq _ _ _ _ _ (pv 5) az (by rfl)) (by rfl))) (pv 3) (aW _)) (@bN _ _ _ (um (sa PySem.F.plainAttrs_list PySem.F.slot_list_append PySem.F.type_list_append uE (pv 2) (@aq _ _ _ _ _ (bT bQ (hr.mono (by decide)) rfl aG.m aG.F.kp aG.b .nil ax (@aq _ _ _ _ _ (pv 4) (@aq _ _ _ _ _ (bT cz (hr.mono (by decide)) rfl a9.m a9.F.kp a9.b .nil ax (@aq _ _ _ _ _ (pv 1) (@aq _ _ _ _ _ (pv 5) az (by rfl)) (by rfl))) az (by rfl)) (by rfl))) az (by rfl))))) kR)) (by intro _;rfl))
  (@bN _ _ _ (@dZ _ _ _ _ (lS (M6 hu) (by rfl) T.p7 L5 (@aq _ _ _ _ _ (pv 2) az (by rfl))))))))),?_⟩
 exact gn (b:=DF) (bF (ck (lG aB) (bC 2))
  (bF (ck (bU (F:=qw) (au (ao 0) (au (aP _) aB)) (aY (aY (fun _ _ _ _ h=>bW h)))) (bC 3))
  (bF (ck (bU (F:=tL) (au (ao 0) (au (aP _) aB)) (aY (aY (fun _ _ _ _ h=>bW h)))) (bC 4))
  (bF (mZ (qr (au (dD mW (au (aD cO (ao 1) (aP _)) aB)) aB)) (bC 5) (ki (ia (aD (pP false) (bU (F:=qw) (au (ao 1) (au (ao 5) aB)) (aY (aY (fun _ _ _ _ h=>bW h)))) (ao 3))) (vD (sU vB (ao 2) (au (bU (F:=ni) (au (ao 4) (au (bU (F:=tK) (au (ao 1) (au (ao 5) aB)) (aY (aY (fun _ _ _ _ h=>bW h)))) aB)) (aY (aY (fun _ _ _ _ h=>bW h)))) aB))) kU))
  (d0 (dD PN (au (ao 2) aB))))))) rfl h
def DG:ai->Dm Fl :=
 (aF (aM (d7 (ae (ag 1) ah)) (hName 2))
 (aF (aM (aC aR (ag 0) (ag 1)) (hName 3))
 (aF (jt (aT (aC (kM true) (ag 3) (ag 1))) (aF (jk (pX "list" dQ (ag 2) (ae (ag 3) ah)))
 (aM (aC aR (ag 0) (ag 3)) (hName 3))))
 (bh (aX c4 (ae (ag 2) ah))))))
def Bi:List D->Dm D:=fG 4 DG
def Bj:Stmt:=top 7
theorem DH:aA ["turning","first","ring","reached"] ["turning","first"] (av Bj):=⟨rfl,rfl,rfl,by decide +kernel,rfl,by decide +kernel,by decide +kernel⟩
theorem Qn {f:Addr} {fd:FuncData} (D:Def K mg "ring_from" Bj ["turning","first"] f fd) (T:Txt mg)  :ay P w K mg base bj 1 f fd ["turning","first"] (br K 2 Bi):=by
 refine D.F.ok DH (fun vs H Q E h=>h.1) (fun cdv A outer s H vs Q E hr h=>?_)
 have hu:=hr.units
 have hu1:=gf hr
 refine ⟨_,(@bE _ _ _ _ _ (@cP (i:=2) _ _ _ _ _ _ DH.nd rfl (by first | exact Or.inl rfl | exact Or.inr rfl) (@lF _ _ _ _ (@aq _ _ _ _ _ (pv 1) az (by rfl))) (by rfl) (by first | exact .inl rfl | exact .inr rfl | assumption))
  (@bE _ _ _ _ _ (@cP (i:=3) _ _ _ _ _ _ DH.nd rfl (by first | exact Or.inl rfl | exact Or.inr rfl) (@b8 _ _ _ _ _ _ _ cM (pv 0) (pv 1) (fun _ _=>rfl)) (by rfl) (by first | exact .inl rfl | exact .inr rfl | assumption))
  (@bE _ _ _ _ _ (yH PassesOwn.never (ib rR (pv 3) (pv 1) (aW _)) (@bE _ _ _ _ _ (um (sa PySem.F.plainAttrs_list PySem.F.slot_list_append PySem.F.type_list_append uE (pv 2) (@aq _ _ _ _ _ (pv 3) az (by rfl))))
  (@bN _ _ _ (@cP (i:=3) _ _ _ _ _ _ DH.nd rfl (by first | exact Or.inl rfl | exact Or.inr rfl) (@b8 _ _ _ _ _ _ _ cM (pv 0) (pv 3) (fun _ _=>rfl)) (by rfl) (by first | exact .inl rfl | exact .inr rfl | assumption)))))
  (@bN _ _ _ (@dZ _ _ _ _ (ie oF (by rfl) T.cT oJ (@aq _ _ _ _ _ (pv 2) az (by rfl)))))))),?_⟩
 exact gn (b:=DG) (bF (ck (lG (au (ao 1) aB)) (bC 2))
  (bF (ck (aD cO (ao 0) (ao 1)) (bC 3))
  (bF (Ap (ia (aD sR (ao 3) (ao 1))) (bF (vD (sU vB (ao 2) (au (ao 3) aB)))
  (ck (aD cO (ao 0) (ao 3)) (bC 3))))
  (d0 (dD oP (au (ao 2) aB)))))) rfl h
def DI:ai->Dm Fl :=
 (aF (aM (d7 ah) (hName 1))
 (aF (aM p3 (hName 2))
 (aF (fA (dz (ae (aX gk (ae (ag 0) ah)) ah)) (hName 3) (jr (aT (rq true (ag 3) (ag 2))) (aF (aM (aX Bi (ae (ag 0) (ae (ag 3) ah))) (hName 4))
 (aF (jk (pX "list" dQ (ag 1) (ae (ag 4) ah)))
 (fA (iA (ag 4)) (hName 5) (oo (ag 2) (ag 5) (fC (.bl true)))))) cf))
 (bh (aX c4 (ae (ag 1) ah))))))
def Bk:List D->Dm D:=fG 6 DI
def Bl:Stmt:=top 8
theorem yb:aA ["turning","rings","seen","first","ring","number"] ["turning"] (av Bl):=⟨rfl,rfl,rfl,by decide +kernel,rfl,by decide +kernel,by decide +kernel⟩
theorem Qo {f:Addr} {fd:FuncData} (D:Def K mg "rings_of" Bl ["turning"] f fd) (T:Txt mg)  {gI:Addr} {gJ:FuncData} (dH:Def K mg "ring_from" Bj ["turning","first"] gI gJ) (jv:ay P w K mg base bj 1 gI gJ ["turning","first"] (br K 2 Bi)):ay P w K mg base bj 2 f fd ["turning"] (br K 1 Bk):=by
 refine D.F.ok yb (fun vs H Q E h=>h.1) (fun cdv A outer s H vs Q E hr h=>?_)
 have hu:=hr.units
 have hu1:=gf hr
 refine ⟨_,(@bE _ _ _ _ _ (@cP (i:=1) _ _ _ _ _ _ yb.nd rfl (by first | exact Or.inl rfl | exact Or.inr rfl) (@lF _ _ _ _ az) (by rfl) (by first | exact .inl rfl | exact .inr rfl | assumption))
  (@bE _ _ _ _ _ (@cP (i:=2) _ _ _ _ _ _ yb.nd rfl (by first | exact Or.inl rfl | exact Or.inr rfl) LS (by rfl) (by first | exact .inl rfl | exact .inr rfl | assumption))
  (@bE _ _ _ _ _ (@mL _ _ _ _ _ _ _ _ PassesOwn.never rfl (qf rfl T.bG (@aq _ _ _ _ _ (lS mO (by rfl) T.d4 mP (@aq _ _ _ _ _ (pv 0) az (by rfl))) az (by rfl))) (jK (i:=3) yb.nd rfl (by first | exact Or.inl rfl | exact Or.inr rfl)) (@bN _ _ _ (@j6 _ _ _ _ _ _ _ _ (ui (LP hu1 (pv 3) (pv 2))) (@bE _ _ _ _ _ (@cP (i:=4) _ _ _ _ _ _ yb.nd rfl (by first | exact Or.inl rfl | exact Or.inr rfl) (bT jv (hr.mono (by decide)) rfl dH.m dH.F.kp dH.b .nil ax (@aq _ _ _ _ _ (pv 0) (@aq _ _ _ _ _ (pv 3) az (by rfl)) (by rfl))) (by rfl) (by first | exact .inl rfl | exact .inr rfl | assumption))
  (@bE _ _ _ _ _ (um (sa PySem.F.plainAttrs_list PySem.F.slot_list_append PySem.F.type_list_append uE (pv 1) (@aq _ _ _ _ _ (pv 4) az (by rfl))))
  (@bN _ _ _ (@mL _ _ _ _ _ _ _ _ PassesOwn.never rfl (rM (pv 4)) (jK (i:=5) yb.nd rfl (by first | exact Or.inl rfl | exact Or.inr rfl)) (@bN _ _ _ (LQ hu1 (pv 2) (pv 5) xw rfl)) (by intro _;rfl))))) kR)) (by intro _;rfl))
  (@bN _ _ _ (@dZ _ _ _ _ (ie oF (by rfl) T.cT oJ (@aq _ _ _ _ _ (pv 1) az (by rfl)))))))),?_⟩
 exact gn (b:=DI) (bF (ck (lG aB) (bC 1))
  (bF (ck OI (bC 2))
  (bF (mZ (qr (au (dD mW (au (ao 0) aB)) aB)) (bC 3) (ki (F3 (OJ (ao 3) (ao 2))) (bF (ck (bU (F:=Bi) (au (ao 0) (au (ao 3) aB)) (aY (aY (fun _ _ _ _ h=>bW h)))) (bC 4))
  (bF (vD (sU vB (ao 1) (au (ao 4) aB)))
  (mZ (sY (ao 4)) (bC 5) (OL (ao 2) (ao 5) (xM _))))) kU))
  (d0 (dD oP (au (ao 1) aB)))))) rfl h
def DJ:ai->Dm Fl :=
 (aF (aM (aC pV (d7 (ae (fC (.int 0)) ah)) (aX gk (ae (ag 0) ah))) (hName 2))
 (aF (fA (iA (aX Bk (ae (ag 0) ah))) (hName 3) (fA (lr (ae (ag 3) ah)) (ml 2 (fF (hName 4) (fF (hName 5) mY))) (aM (aC aR (ag 3) (aC kg (aC dE (ag 4) (ag 1)) (aX gk (ae (ag 3) ah)))) (hSub (ag 2) (ag 5)))))
 (bh (aX c4 (ae (ag 2) ah)))))
def Bm:List D->Dm D:=fG 6 DJ
def Bn:Stmt:=top 6
theorem Bo:aA ["turning","k","led","ring","place","number"] ["turning","k"] (av Bn):=⟨rfl,rfl,rfl,by decide +kernel,rfl,by decide +kernel,by decide +kernel⟩
theorem Qp {f:Addr} {fd:FuncData} (D:Def K mg "often" Bn ["turning","k"] f fd) (T:Txt mg)  {iY:Addr} {iZ:FuncData} (eQ:Def K mg "rings_of" Bl ["turning"] iY iZ) (km:ay P w K mg base bj 2 iY iZ ["turning"] (br K 1 Bk)):ay P w K mg base bj 3 f fd ["turning","k"] (br K 2 Bm):=by
 refine D.F.ok Bo (fun vs H Q E h=>h.1) (fun cdv A outer s H vs Q E hr h=>?_)
 have hu:=hr.units
 have hu1:=gf hr
 refine ⟨_,(@bE _ _ _ _ _ (@cP (i:=2) _ _ _ _ _ _ Bo.nd rfl (by first | exact Or.inl rfl | exact Or.inr rfl) (bP HY (@lF _ _ _ _ (@aq _ _ _ _ _ aO az (by rfl))) (lS mO (by rfl) T.d4 mP (@aq _ _ _ _ _ (pv 0) az (by rfl)))) (by rfl) (by first | exact .inl rfl | exact .inr rfl | assumption))
  (@bE _ _ _ _ _ (@mL _ _ _ _ _ _ _ _ PassesOwn.never rfl (rM (bT km (hr.mono (by decide)) rfl eQ.m eQ.F.kp eQ.b .nil ax (@aq _ _ _ _ _ (pv 0) az (by rfl)))) (jK (i:=3) Bo.nd rfl (by first | exact Or.inl rfl | exact Or.inr rfl)) (@bN _ _ _ (@mL _ _ _ _ _ _ _ _ PassesOwn.never rfl (IC rfl T.kF (@aq _ _ _ _ _ (pv 3) az (by rfl))) (yF (n:=2) rfl (qe (jK (i:=4) Bo.nd rfl (by first | exact Or.inl rfl | exact Or.inr rfl)) (qe (jK (i:=5) Bo.nd rfl (by first | exact Or.inl rfl | exact Or.inr rfl)) yE))) (@bN _ _ _ (xy (@b8 _ _ _ _ _ _ _ cM (pv 3) (bP qh (bP kH (pv 4) (pv 1)) (lS mO (by rfl) T.d4 mP (@aq _ _ _ _ _ (pv 3) az (by rfl)))) (fun _ _=>rfl)) (xx (pv 2) (pv 5) xB))) (by intro _;rfl))) (by intro _;rfl))
  (@bN _ _ _ (@dZ _ _ _ _ (ie oF (by rfl) T.cT oJ (@aq _ _ _ _ _ (pv 2) az (by rfl))))))),?_⟩
 exact gn (b:=DJ) (bF (ck (aD J2 (lG (au (aP _) aB)) (dD mW (au (ao 0) aB))) (bC 2))
  (bF (mZ (sY (bU (F:=Bk) (au (ao 0) aB) (aY (fun _ _ _ _ h=>bW h)))) (bC 3) (mZ (J5 (au (ao 3) aB)) (Ao (qq (bC 4) (qq (bC 5) An))) (ck (aD cO (ao 3) (aD qo (aD kL (ao 4) (ao 1)) (dD mW (au (ao 3) aB)))) (xS (ao 2) (ao 5)))))
  (d0 (dD oP (au (ao 2) aB))))) rfl h
def DK:ai->Dm Fl :=
 (bh (cj (ae (aC aR (ag 0) (fC (.int 0))) (ae (aX ni (ae (aX Bm (ae (aC aR (ag 0) (fC (.int 0))) (ae (pM lL (ag 1)) ah))) (ae (aC aR (ag 0) (fC (.int 1))) ah))) ah))))
def Bp:List D->Dm D:=fG 2 DK
def Bq:Stmt:=top 38
theorem Qq:aA ["floor","k"] ["floor","k"] (av Bq):=⟨rfl,rfl,rfl,by decide +kernel,rfl,by decide +kernel,by decide +kernel⟩
theorem Qr {f:Addr} {fd:FuncData} (D:Def K mg "sheared" Bq ["floor","k"] f fd) (T:Txt mg)  {cx:Addr} {cy:FuncData} (aG:Def K mg "followed" wY ["one","other"] cx cy) (bQ:ay P w K mg base bj 1 cx cy ["one","other"] (br K 2 ni)) {mw:Addr} {mx:FuncData} (kn:Def K mg "often" Bn ["turning","k"] mw mx) (nL:ay P w K mg base bj 3 mw mx ["turning","k"] (br K 2 Bm)):ay P w K mg base bj 4 f fd ["floor","k"] (br K 2 Bp):=by
 refine D.F.ok Qq (fun vs H Q E h=>h.1) (fun cdv A outer s H vs Q E hr h=>?_)
 have hu:=hr.units
 have hu1:=gf hr
 refine ⟨_,(@bN _ _ _ (@dZ _ _ _ _ (@ic _ _ _ _ _ (@aq _ _ _ _ _ (@b8 _ _ _ _ _ _ _ cM (pv 0) aO (fun _ _=>rfl)) (@aq _ _ _ _ _ (bT bQ (hr.mono (by decide)) rfl aG.m aG.F.kp aG.b .nil ax (@aq _ _ _ _ _ (bT nL (hr.mono (by decide)) rfl kn.m kn.F.kp kn.b .nil ax (@aq _ _ _ _ _ (@b8 _ _ _ _ _ _ _ cM (pv 0) aO (fun _ _=>rfl)) (@aq _ _ _ _ _ (rO rQ (pv 1)) az (by rfl)) (by rfl))) (@aq _ _ _ _ _ (@b8 _ _ _ _ _ _ _ cM (pv 0) aO (fun _ _=>rfl)) az (by rfl)) (by rfl))) az (by rfl)) (by rfl))))),?_⟩
 exact gn (b:=DK) (d0 (ik (au (aD cO (ao 0) (aP _)) (au (bU (F:=ni) (au (bU (F:=Bm) (au (aD cO (ao 0) (aP _)) (au (sM vp (ao 1)) aB)) (aY (aY (fun _ _ _ _ h=>bW h)))) (au (aD cO (ao 0) (aP _)) aB)) (aY (aY (fun _ _ _ _ h=>bW h)))) aB)))) rfl h
def DL:ai->Dm Fl :=
 (bh (cj (ae (aX p8 (ae (aC aR (ag 0) (fC (.int 1))) ah)) (ae (aC aR (ag 0) (fC (.int 0))) ah))))
def Br:List D->Dm D:=fG 1 DL
def Bs:Stmt:=top 39
theorem Qs:aA ["floor"] ["floor"] (av Bs):=⟨rfl,rfl,rfl,by decide +kernel,rfl,by decide +kernel,by decide +kernel⟩
theorem Qu {f:Addr} {fd:FuncData} (D:Def K mg "quartered" Bs ["floor"] f fd) (T:Txt mg)  {bp:Addr} {bq:FuncData} (aL:Def K mg "turned_back" wX ["turning"] bp bq) (bH:ay P w K mg base bj 1 bp bq ["turning"] (br K 1 p8)):ay P w K mg base bj 2 f fd ["floor"] (br K 1 Br):=by
 refine D.F.ok Qs (fun vs H Q E h=>h.1) (fun cdv A outer s H vs Q E hr h=>?_)
 have hu:=hr.units
 have hu1:=gf hr
 refine ⟨_,(@bN _ _ _ (@dZ _ _ _ _ (@ic _ _ _ _ _ (@aq _ _ _ _ _ (bT bH (hr.mono (by decide)) rfl aL.m aL.F.kp aL.b .nil ax (@aq _ _ _ _ _ (@b8 _ _ _ _ _ _ _ cM (pv 0) aO (fun _ _=>rfl)) az (by rfl))) (@aq _ _ _ _ _ (@b8 _ _ _ _ _ _ _ cM (pv 0) aO (fun _ _=>rfl)) az (by rfl)) (by rfl))))),?_⟩
 exact gn (b:=DL) (d0 (ik (au (bU (F:=p8) (au (aD cO (ao 0) (aP _)) aB) (aY (fun _ _ _ _ h=>bW h))) (au (aD cO (ao 0) (aP _)) aB)))) rfl h
def DM:ai->Dm Fl :=
 (aF (jr (aT (aC (kM false) (aC aR (ag 1) (fC (.int 0))) (fC (.str "s")))) (bh (aX Bp (ae (ag 0) (ae (aC aR (ag 1) (fC (.int 1))) ah)))) cf)
 (aF (aM (ag 0) (hName 2))
 (aF (fA (dz (ae (aC aR (ag 1) (fC (.int 1))) ah)) (hName 3) (aM (aX Br (ae (ag 2) ah)) (hName 2)))
 (bh (ag 2)))))
def Bt:List D->Dm D:=fG 4 DM
def Bu:Stmt:=top 41
theorem DN:aA ["floor","step","led","turn"] ["floor","step"] (av Bu):=⟨rfl,rfl,rfl,by decide +kernel,rfl,by decide +kernel,by decide +kernel⟩
theorem Qv {f:Addr} {fd:FuncData} (D:Def K mg "led_by_step" Bu ["floor","step"] f fd) (T:Txt mg)  {jT:Addr} {jU:FuncData} (gq:Def K mg "sheared" Bq ["floor","k"] jT jU) (lx:ay P w K mg base bj 4 jT jU ["floor","k"] (br K 2 Bp)) {gK:Addr} {gL:FuncData} (dI:Def K mg "quartered" Bs ["floor"] gK gL) (jw:ay P w K mg base bj 2 gK gL ["floor"] (br K 1 Br)):ay P w K mg base bj 5 f fd ["floor","step"] (br K 2 Bt):=by
 refine D.F.ok DN (fun vs H Q E h=>h.1) (fun cdv A outer s H vs Q E hr h=>?_)
 have hu:=hr.units
 have hu1:=gf hr
 refine ⟨_,(@bE _ _ _ _ _ (@j6 _ _ _ _ _ _ _ _ (ib mN (@b8 _ _ _ _ _ _ _ cM (pv 1) aO (fun _ _=>rfl)) nA (aW _)) (@bN _ _ _ (@dZ _ _ _ _ (bT lx (hr.mono (by decide)) rfl gq.m gq.F.kp gq.b .nil ax (@aq _ _ _ _ _ (pv 0) (@aq _ _ _ _ _ (@b8 _ _ _ _ _ _ _ cM (pv 1) aO (fun _ _=>rfl)) az (by rfl)) (by rfl))))) kR)
  (@bE _ _ _ _ _ (@cP (i:=2) _ _ _ _ _ _ DN.nd rfl (by first | exact Or.inl rfl | exact Or.inr rfl) (pv 0) (by rfl) (by first | exact .inl rfl | exact .inr rfl | assumption))
  (@bE _ _ _ _ _ (@mL _ _ _ _ _ _ _ _ PassesOwn.never rfl (qf rfl T.bG (@aq _ _ _ _ _ (@b8 _ _ _ _ _ _ _ cM (pv 1) aO (fun _ _=>rfl)) az (by rfl))) (jK (i:=3) DN.nd rfl (by first | exact Or.inl rfl | exact Or.inr rfl)) (@bN _ _ _ (@cP (i:=2) _ _ _ _ _ _ DN.nd rfl (by first | exact Or.inl rfl | exact Or.inr rfl) (bT jw (hr.mono (by decide)) rfl dI.m dI.F.kp dI.b .nil ax (@aq _ _ _ _ _ (pv 2) az (by rfl))) (by rfl) (by first | exact .inl rfl | exact .inr rfl | assumption))) (by intro _;rfl))
  (@bN _ _ _ (@dZ _ _ _ _ (pv 2)))))),?_⟩
 exact gn (b:=DM) (bF (ki (ia (aD mV (aD cO (ao 1) (aP _)) (nH _))) (d0 (bU (F:=Bp) (au (ao 0) (au (aD cO (ao 1) (aP _)) aB)) (aY (aY (fun _ _ _ _ h=>bW h))))) kU)
  (bF (ck (ao 0) (bC 2))
  (bF (mZ (qr (au (aD cO (ao 1) (aP _)) aB)) (bC 3) (ck (bU (F:=Br) (au (ao 2) aB) (aY (fun _ _ _ _ h=>bW h))) (bC 2)))
  (d0 (ao 2))))) rfl h
def DO:ai->Dm Fl :=
 (aF (aM (ag 0) (hName 2))
 (aF (fA (iA (ag 1)) (hName 3) (aM (aX Bt (ae (ag 2) (ae (ag 3) ah))) (hName 2)))
 (bh (ag 2))))
def oz:List D->Dm D:=fG 4 DO
def yc:Stmt:=top 40
theorem DP:aA ["floor","word","led","step"] ["floor","word"] (av yc):=⟨rfl,rfl,rfl,by decide +kernel,rfl,by decide +kernel,by decide +kernel⟩
theorem Qw {f:Addr} {fd:FuncData} (D:Def K mg "led_by" yc ["floor","word"] f fd) (T:Txt mg)  {eE:Addr} {eG:FuncData} (cV:Def K mg "led_by_step" Bu ["floor","step"] eE eG) (gM:ay P w K mg base bj 5 eE eG ["floor","step"] (br K 2 Bt)):ay P w K mg base bj 6 f fd ["floor","word"] (br K 2 oz):=by
 refine D.F.ok DP (fun vs H Q E h=>h.1) (fun cdv A outer s H vs Q E hr h=>?_)
 have hu:=hr.units
 have hu1:=gf hr
 refine ⟨_,(@bE _ _ _ _ _ (@cP (i:=2) _ _ _ _ _ _ DP.nd rfl (by first | exact Or.inl rfl | exact Or.inr rfl) (pv 0) (by rfl) (by first | exact .inl rfl | exact .inr rfl | assumption))
  (@bE _ _ _ _ _ (@mL _ _ _ _ _ _ _ _ PassesOwn.never rfl (rM (pv 1)) (jK (i:=3) DP.nd rfl (by first | exact Or.inl rfl | exact Or.inr rfl)) (@bN _ _ _ (@cP (i:=2) _ _ _ _ _ _ DP.nd rfl (by first | exact Or.inl rfl | exact Or.inr rfl) (bT gM (hr.mono (by decide)) rfl cV.m cV.F.kp cV.b .nil ax (@aq _ _ _ _ _ (pv 2) (@aq _ _ _ _ _ (pv 3) az (by rfl)) (by rfl))) (by rfl) (by first | exact .inl rfl | exact .inr rfl | assumption))) (by intro _;rfl))
  (@bN _ _ _ (@dZ _ _ _ _ (pv 2))))),?_⟩
 exact gn (b:=DO) (bF (ck (ao 0) (bC 2))
  (bF (mZ (sY (ao 1)) (bC 3) (ck (bU (F:=Bt) (au (ao 2) (au (ao 3) aB)) (aY (aY (fun _ _ _ _ h=>bW h)))) (bC 2)))
  (d0 (ao 2)))) rfl h
def DQ:ai->Dm Fl :=
 (bh (cj (ae (aC dE (aC d3 (aC aR (ag 0) (fC (.int 0))) (aC aR (ag 1) (fC (.int 0)))) (aC d3 (aC aR (ag 0) (fC (.int 1))) (aC aR (ag 1) (fC (.int 2))))) (ae (aC dE (aC d3 (aC aR (ag 0) (fC (.int 0))) (aC aR (ag 1) (fC (.int 1)))) (aC d3 (aC aR (ag 0) (fC (.int 1))) (aC aR (ag 1) (fC (.int 3))))) (ae (aC dE (aC d3 (aC aR (ag 0) (fC (.int 2))) (aC aR (ag 1) (fC (.int 0)))) (aC d3 (aC aR (ag 0) (fC (.int 3))) (aC aR (ag 1) (fC (.int 2))))) (ae (aC dE (aC d3 (aC aR (ag 0) (fC (.int 2))) (aC aR (ag 1) (fC (.int 1)))) (aC d3 (aC aR (ag 0) (fC (.int 3))) (aC aR (ag 1) (fC (.int 3))))) ah))))))
def p9:List D->Dm D:=fG 2 DQ
def w4:Stmt:=top 19
theorem Qx:aA ["one","other"] ["one","other"] (av w4):=⟨rfl,rfl,rfl,by decide +kernel,rfl,by decide +kernel,by decide +kernel⟩
theorem Qy {f:Addr} {fd:FuncData} (D:Def K mg "times" w4 ["one","other"] f fd) (T:Txt mg)  :ay P w K mg base bj 1 f fd ["one","other"] (br K 2 p9):=by
 refine D.F.ok Qx (fun vs H Q E h=>h.1) (fun cdv A outer s H vs Q E hr h=>?_)
 have hu:=hr.units
 have hu1:=gf hr
 refine ⟨_,(@bN _ _ _ (@dZ _ _ _ _ (@ic _ _ _ _ _ (@aq _ _ _ _ _ (bP kH (bP nY (@b8 _ _ _ _ _ _ _ cM (pv 0) aO (fun _ _=>rfl)) (@b8 _ _ _ _ _ _ _ cM (pv 1) aO (fun _ _=>rfl))) (bP nY (@b8 _ _ _ _ _ _ _ cM (pv 0) aO (fun _ _=>rfl)) (@b8 _ _ _ _ _ _ _ cM (pv 1) aO (fun _ _=>rfl)))) (@aq _ _ _ _ _ (bP kH (bP nY (@b8 _ _ _ _ _ _ _ cM (pv 0) aO (fun _ _=>rfl)) (@b8 _ _ _ _ _ _ _ cM (pv 1) aO (fun _ _=>rfl))) (bP nY (@b8 _ _ _ _ _ _ _ cM (pv 0) aO (fun _ _=>rfl)) (@b8 _ _ _ _ _ _ _ cM (pv 1) aO (fun _ _=>rfl)))) (@aq _ _ _ _ _ (bP kH (bP nY (@b8 _ _ _ _ _ _ _ cM (pv 0) aO (fun _ _=>rfl)) (@b8 _ _ _ _ _ _ _ cM (pv 1) aO (fun _ _=>rfl))) (bP nY (@b8 _ _ _ _ _ _ _ cM (pv 0) aO (fun _ _=>rfl)) (@b8 _ _ _ _ _ _ _ cM (pv 1) aO (fun _ _=>rfl)))) (@aq _ _ _ _ _ (bP kH (bP nY (@b8 _ _ _ _ _ _ _ cM (pv 0) aO (fun _ _=>rfl)) (@b8 _ _ _ _ _ _ _ cM (pv 1) aO (fun _ _=>rfl))) (bP nY (@b8 _ _ _ _ _ _ _ cM (pv 0) aO (fun _ _=>rfl)) (@b8 _ _ _ _ _ _ _ cM (pv 1) aO (fun _ _=>rfl)))) az (by rfl)) (by rfl)) (by rfl)) (by rfl))))),?_⟩
 exact gn (b:=DQ) (d0 (ik (au (aD kL (aD ot (aD cO (ao 0) (aP _)) (aD cO (ao 1) (aP _))) (aD ot (aD cO (ao 0) (aP _)) (aD cO (ao 1) (aP _)))) (au (aD kL (aD ot (aD cO (ao 0) (aP _)) (aD cO (ao 1) (aP _))) (aD ot (aD cO (ao 0) (aP _)) (aD cO (ao 1) (aP _)))) (au (aD kL (aD ot (aD cO (ao 0) (aP _)) (aD cO (ao 1) (aP _))) (aD ot (aD cO (ao 0) (aP _)) (aD cO (ao 1) (aP _)))) (au (aD kL (aD ot (aD cO (ao 0) (aP _)) (aD cO (ao 1) (aP _))) (aD ot (aD cO (ao 0) (aP _)) (aD cO (ao 1) (aP _)))) aB)))))) rfl h
def DR:ai->Dm Fl :=
 (aF (jr (aT (aC (kM false) (aC aR (ag 0) (fC (.int 0))) (fC (.str "s")))) (bh (cj (ae (fC (.int 1)) (ae (aC aR (ag 0) (fC (.int 1))) (ae (fC (.int 0)) (ae (fC (.int 1)) ah)))))) cf)
 (aF (aM (fC (.tup [(.int 1),(.int 0),(.int 0),(.int 1)])) (hName 1))
 (aF (fA (dz (ae (aC aR (ag 0) (fC (.int 1))) ah)) (hName 2) (aM (aX p9 (ae (fC (.tup [(.int 0),(.int (-1)),(.int 1),(.int 0)])) (ae (ag 1) ah))) (hName 1)))
 (bh (ag 1)))))
def Bv:List D->Dm D:=fG 3 DR
def Bw:Stmt:=top 24
theorem DS:aA ["step","table","turn"] ["step"] (av Bw):=⟨rfl,rfl,rfl,by decide +kernel,rfl,by decide +kernel,by decide +kernel⟩
theorem Qz {f:Addr} {fd:FuncData} (D:Def K mg "step_table" Bw ["step"] f fd) (T:Txt mg) {lz:V} (jV:o8 K mg "QUARTER" lz (.tup [(.int 0),(.int (-1)),(.int 1),(.int 0)])) {iC:V} (d5:o8 K mg "UNMOVED" iC (.tup [(.int 1),(.int 0),(.int 0),(.int 1)])) {fS:Addr} {fT:FuncData} (c5:Def K mg "times" w4 ["one","other"] fS fT) (gN:ay P w K mg base bj 1 fS fT ["one","other"] (br K 2 p9)):ay P w K mg base bj 2 f fd ["step"] (br K 1 Bv):=by
 refine D.F.ok DS (fun vs H Q E h=>h.1) (fun cdv A outer s H vs Q E hr h=>?_)
 have hu:=hr.units
 have hu1:=gf hr
 refine ⟨_,(@bE _ _ _ _ _ (@j6 _ _ _ _ _ _ _ _ (ib mN (@b8 _ _ _ _ _ _ _ cM (pv 0) aO (fun _ _=>rfl)) nA (aW _)) (@bN _ _ _ (@dZ _ _ _ _ (@ic _ _ _ _ _ (@aq _ _ _ _ _ aO (@aq _ _ _ _ _ (@b8 _ _ _ _ _ _ _ cM (pv 0) aO (fun _ _=>rfl)) (@aq _ _ _ _ _ aO (@aq _ _ _ _ _ aO az (by rfl)) (by rfl)) (by rfl)) (by rfl))))) kR)
  (@bE _ _ _ _ _ (@cP (i:=1) _ _ _ _ _ _ DS.nd rfl (by first | exact Or.inl rfl | exact Or.inr rfl) (Gu d5 rfl rfl (by decide)) (by rfl) (by first | exact .inl rfl | exact .inr rfl | assumption))
  (@bE _ _ _ _ _ (@mL _ _ _ _ _ _ _ _ PassesOwn.never rfl (qf rfl T.bG (@aq _ _ _ _ _ (@b8 _ _ _ _ _ _ _ cM (pv 0) aO (fun _ _=>rfl)) az (by rfl))) (jK (i:=2) DS.nd rfl (by first | exact Or.inl rfl | exact Or.inr rfl)) (@bN _ _ _ (@cP (i:=1) _ _ _ _ _ _ DS.nd rfl (by first | exact Or.inl rfl | exact Or.inr rfl) (bT gN (hr.mono (by decide)) rfl c5.m c5.F.kp c5.b .nil ax (@aq _ _ _ _ _ (Gu jV rfl rfl (by decide)) (@aq _ _ _ _ _ (pv 1) az (by rfl)) (by rfl))) (by rfl) (by first | exact .inl rfl | exact .inr rfl | assumption))) (by intro _;rfl))
  (@bN _ _ _ (@dZ _ _ _ _ (pv 1)))))),?_⟩
 exact gn (b:=DR) (bF (ki (ia (aD mV (aD cO (ao 0) (aP _)) (nH _))) (d0 (ik (au (aP _) (au (aD cO (ao 0) (aP _)) (au (aP _) (au (aP _) aB)))))) kU)
  (bF (ck (Gv d5) (bC 1))
  (bF (mZ (qr (au (aD cO (ao 0) (aP _)) aB)) (bC 2) (ck (bU (F:=p9) (au (Gv jV) (au (ao 1) aB)) (aY (aY (fun _ _ _ _ h=>bW h)))) (bC 1)))
  (d0 (ao 1))))) rfl h
def DT:ai->Dm Fl :=
 (aF (aM (fC (.tup [(.int 1),(.int 0),(.int 0),(.int 1)])) (hName 1))
 (aF (fA (iA (ag 0)) (hName 2) (aM (aX p9 (ae (aX Bv (ae (ag 2) ah)) (ae (ag 1) ah))) (hName 1)))
 (bh (ag 1))))
def nM:List D->Dm D:=fG 3 DT
def w6:Stmt:=top 25
theorem DV:aA ["word","table","step"] ["word"] (av w6):=⟨rfl,rfl,rfl,by decide +kernel,rfl,by decide +kernel,by decide +kernel⟩
theorem QA {f:Addr} {fd:FuncData} (D:Def K mg "table_of" w6 ["word"] f fd) (T:Txt mg) {iC:V} (d5:o8 K mg "UNMOVED" iC (.tup [(.int 1),(.int 0),(.int 0),(.int 1)])) {fS:Addr} {fT:FuncData} (c5:Def K mg "times" w4 ["one","other"] fS fT) (gN:ay P w K mg base bj 1 fS fT ["one","other"] (br K 2 p9)) {fH:Addr} {fI:FuncData} (dk:Def K mg "step_table" Bw ["step"] fH fI) (iD:ay P w K mg base bj 2 fH fI ["step"] (br K 1 Bv)):ay P w K mg base bj 3 f fd ["word"] (br K 1 nM):=by
 refine D.F.ok DV (fun vs H Q E h=>h.1) (fun cdv A outer s H vs Q E hr h=>?_)
 have hu:=hr.units
 have hu1:=gf hr
 refine ⟨_,(@bE _ _ _ _ _ (@cP (i:=1) _ _ _ _ _ _ DV.nd rfl (by first | exact Or.inl rfl | exact Or.inr rfl) (Gu d5 rfl rfl (by decide)) (by rfl) (by first | exact .inl rfl | exact .inr rfl | assumption))
  (@bE _ _ _ _ _ (@mL _ _ _ _ _ _ _ _ PassesOwn.never rfl (rM (pv 0)) (jK (i:=2) DV.nd rfl (by first | exact Or.inl rfl | exact Or.inr rfl)) (@bN _ _ _ (@cP (i:=1) _ _ _ _ _ _ DV.nd rfl (by first | exact Or.inl rfl | exact Or.inr rfl) (bT gN (hr.mono (by decide)) rfl c5.m c5.F.kp c5.b .nil ax (@aq _ _ _ _ _ (bT iD (hr.mono (by decide)) rfl dk.m dk.F.kp dk.b .nil ax (@aq _ _ _ _ _ (pv 2) az (by rfl))) (@aq _ _ _ _ _ (pv 1) az (by rfl)) (by rfl))) (by rfl) (by first | exact .inl rfl | exact .inr rfl | assumption))) (by intro _;rfl))
  (@bN _ _ _ (@dZ _ _ _ _ (pv 1))))),?_⟩
 exact gn (b:=DT) (bF (ck (Gv d5) (bC 1))
  (bF (mZ (sY (ao 0)) (bC 2) (ck (bU (F:=p9) (au (bU (F:=Bv) (au (ao 2) aB) (aY (fun _ _ _ _ h=>bW h))) (au (ao 1) aB)) (aY (aY (fun _ _ _ _ h=>bW h)))) (bC 1)))
  (d0 (ao 1)))) rfl h
def DW:ai->Dm Fl :=
 (bh (aX lu (ae (e8 (dz (ae (aX gk (ae (aC aR (ag 0) (fC (.int 0))) ah)) ah)) 1 [0] (hName 0) hW (aX qw (ae (ag 1) (ae (ag 0) ah)))) ah)))
def nz:List D->Dm D:=fG 1 DW
def yd:Stmt:=top 15
theorem QB:aA ["floor"] ["floor"] (av yd):=⟨rfl,rfl,rfl,by decide +kernel,rfl,by decide +kernel,by decide +kernel⟩
theorem QC {f:Addr} {fd:FuncData} (D:Def K mg "form_of" yd ["floor"] f fd) (T:Txt mg)  {bJ:Addr} {bK:FuncData} (aJ:Def K mg "numbered_from" ya ["floor","s"] bJ bK) (bL:ay P w K mg base bj 3 bJ bK ["floor","s"] (br K 2 qw)):ay P w K mg base bj 4 f fd ["floor"] (br K 1 nz):=by
 refine D.F.ok QB (fun vs H Q E h=>h.1) (fun cdv A outer s H vs Q E hr h=>?_)
 have hu:=hr.units
 have hu1:=gf hr
 refine ⟨_,(@bN _ _ _ (@dZ _ _ _ _ (lS (MV rfl hu) (by rfl) T.A6 uK (@aq _ _ _ _ _ (Cz (own:=["s"]) (fr:=["floor"]) (js:=[0]) rfl ⟨⟨rfl,by decide +kernel,by decide +kernel,by dsimp only [j9,bg,Cx.oZ,Cx.wish,PyProof.Rows.envOfC,compEnvC,relabel,Env.kindOf];decide +kernel,by decide +kernel⟩,rfl⟩ (qf rfl T.bG (@aq _ _ _ _ _ (lS mO (by rfl) T.d4 mP (@aq _ _ _ _ _ (@b8 _ _ _ _ _ _ _ cM (pv 0) aO (fun _ _=>rfl)) az (by rfl))) az (by rfl))) (fun _ _ _ _ _=>(jK (i:=0) (show ((["s"]:List Str) ++ (["floor"]:List Str)).Nodup by decide +kernel) rfl (by first | exact Or.inl rfl | exact Or.inr rfl))) (fun _ _ _ _ _=>Cu) (fun _ _ _ _ _=>(bT bL (hr.mono (by decide)) rfl aJ.m aJ.F.kp aJ.b .nil ax (@aq _ _ _ _ _ (pv 1) (@aq _ _ _ _ _ (pv 0) az (by rfl)) (by rfl))))) az (by rfl))))),?_⟩
 exact gn (b:=DW) (d0 (dD Py (au (vG (qr (au (dD mW (au (aD cO (ao 0) (aP _)) aB)) aB)) (bC 0) C7 (bU (F:=qw) (au (ao 1) (au (ao 0) aB)) (aY (aY (fun _ _ _ _ h=>bW h))))) aB))) rfl h
def DX:ai->Dm Fl :=
 (bh (cj (ae (aC dE (aC d3 (aC aR (ag 0) (fC (.int 0))) (aC aR (ag 1) (fC (.int 0)))) (aC d3 (aC aR (ag 0) (fC (.int 1))) (aC aR (ag 1) (fC (.int 1))))) (ae (aC dE (aC d3 (aC aR (ag 0) (fC (.int 2))) (aC aR (ag 1) (fC (.int 0)))) (aC d3 (aC aR (ag 0) (fC (.int 3))) (aC aR (ag 1) (fC (.int 1))))) ah))))
def Bx:List D->Dm D:=fG 2 DX
def By:Stmt:=top 20
theorem QD:aA ["table","pair"] ["table","pair"] (av By):=⟨rfl,rfl,rfl,by decide +kernel,rfl,by decide +kernel,by decide +kernel⟩
theorem QE {f:Addr} {fd:FuncData} (D:Def K mg "led_pair" By ["table","pair"] f fd) (T:Txt mg)  :ay P w K mg base bj 1 f fd ["table","pair"] (br K 2 Bx):=by
 refine D.F.ok QD (fun vs H Q E h=>h.1) (fun cdv A outer s H vs Q E hr h=>?_)
 have hu:=hr.units
 have hu1:=gf hr
 refine ⟨_,(@bN _ _ _ (@dZ _ _ _ _ (@ic _ _ _ _ _ (@aq _ _ _ _ _ (bP kH (bP nY (@b8 _ _ _ _ _ _ _ cM (pv 0) aO (fun _ _=>rfl)) (@b8 _ _ _ _ _ _ _ cM (pv 1) aO (fun _ _=>rfl))) (bP nY (@b8 _ _ _ _ _ _ _ cM (pv 0) aO (fun _ _=>rfl)) (@b8 _ _ _ _ _ _ _ cM (pv 1) aO (fun _ _=>rfl)))) (@aq _ _ _ _ _ (bP kH (bP nY (@b8 _ _ _ _ _ _ _ cM (pv 0) aO (fun _ _=>rfl)) (@b8 _ _ _ _ _ _ _ cM (pv 1) aO (fun _ _=>rfl))) (bP nY (@b8 _ _ _ _ _ _ _ cM (pv 0) aO (fun _ _=>rfl)) (@b8 _ _ _ _ _ _ _ cM (pv 1) aO (fun _ _=>rfl)))) az (by rfl)) (by rfl))))),?_⟩
 exact gn (b:=DX) (d0 (ik (au (aD kL (aD ot (aD cO (ao 0) (aP _)) (aD cO (ao 1) (aP _))) (aD ot (aD cO (ao 0) (aP _)) (aD cO (ao 1) (aP _)))) (au (aD kL (aD ot (aD cO (ao 0) (aP _)) (aD cO (ao 1) (aP _))) (aD ot (aD cO (ao 0) (aP _)) (aD cO (ao 1) (aP _)))) aB)))) rfl h
def DY:ai->Dm Fl :=
 (aF (jr (aT (aC (kM false) (ag 0) (fC (.int 0)))) (bh (cj ah)) cf)
 (bh (cj (ae (cj (ae (fC (.str "s")) (ae (ag 0) ah))) ah))))
def qx:List D->Dm D:=fG 1 DY
def ye:Stmt:=top 35
theorem QF:aA ["k"] ["k"] (av ye):=⟨rfl,rfl,rfl,by decide +kernel,rfl,by decide +kernel,by decide +kernel⟩
theorem QG {f:Addr} {fd:FuncData} (D:Def K mg "shears" ye ["k"] f fd) (T:Txt mg)  :ay P w K mg base bj 1 f fd ["k"] (br K 1 qx):=by
 refine D.F.ok QF (fun vs H Q E h=>h.1) (fun cdv A outer s H vs Q E hr h=>?_)
 have hu:=hr.units
 have hu1:=gf hr
 refine ⟨_,(@bE _ _ _ _ _ (@j6 _ _ _ _ _ _ _ _ (ib mN (pv 0) aO (aW _)) (@bN _ _ _ (@dZ _ _ _ _ (@ic _ _ _ _ _ az))) kR)
  (@bN _ _ _ (@dZ _ _ _ _ (@ic _ _ _ _ _ (@aq _ _ _ _ _ (@ic _ _ _ _ _ (@aq _ _ _ _ _ nA (@aq _ _ _ _ _ (pv 0) az (by rfl)) (by rfl))) az (by rfl)))))),?_⟩
 exact gn (b:=DY) (bF (ki (ia (aD mV (ao 0) (aP _))) (d0 (ik aB)) kU)
  (d0 (ik (au (ik (au (nH _) (au (ao 0) aB))) aB)))) rfl h
def DZ:ai->Dm Fl :=
 (bh (aC mv (aC dE (aC kf (fC (.int 2)) (ag 0)) (ag 1)) (aC kf (fC (.int 2)) (ag 1))))
def Bz:List D->Dm D:=fG 2 DZ
def BA:Stmt:=top 34
theorem QH:aA ["number","divisor"] ["number","divisor"] (av BA):=⟨rfl,rfl,rfl,by decide +kernel,rfl,by decide +kernel,by decide +kernel⟩
theorem QI {f:Addr} {fd:FuncData} (D:Def K mg "nearest" BA ["number","divisor"] f fd) (T:Txt mg)  :ay P w K mg base bj 1 f fd ["number","divisor"] (br K 2 Bz):=by
 refine D.F.ok QH (fun vs H Q E h=>h.1) (fun cdv A outer s H vs Q E hr h=>?_)
 have hu:=hr.units
 have hu1:=gf hr
 refine ⟨_,(@bN _ _ _ (@dZ _ _ _ _ (bP Lv (bP kH (bP qg aO (pv 0)) (pv 1)) (bP qg aO (pv 1))))),?_⟩
 exact gn (b:=DZ) (d0 (aD PY (aD kL (aD qm (aP _) (ao 0)) (ao 1)) (aD qm (aP _) (ao 1)))) rfl h
def D0:ai->Dm Fl :=
 (aF (aM (cj ah) (hName 1))
 (aF (aM (ag 0) (hName 2))
 (aF (jt (aT (aC (kM true) (aC aR (ag 2) (fC (.int 1))) (fC (.int 0)))) (aF (aM (aC fE (aX qx (ae (pM lL (aX Bz (ae (aC aR (ag 2) (fC (.int 0))) (ae (aC aR (ag 2) (fC (.int 1))) ah)))) ah)) (cj (ae (cj (ae (fC (.str "t")) (ae (fC (.int 1)) ah))) ah))) (hName 3))
 (aF (aM (aX Bx (ae (aX nM (ae (ag 3) ah)) (ae (ag 2) ah))) (hName 2))
 (aM (aC fE (ag 1) (ag 3)) (hName 1)))))
 (bh (ag 1)))))
def BB:List D->Dm D:=fG 4 D0
def BD:Stmt:=top 33
theorem yf:aA ["pair","gone","left","steps"] ["pair"] (av BD):=⟨rfl,rfl,rfl,by decide +kernel,rfl,by decide +kernel,by decide +kernel⟩
theorem QJ {f:Addr} {fd:FuncData} (D:Def K mg "level_steps" BD ["pair"] f fd) (T:Txt mg)  {i3:Addr} {i5:FuncData} (eR:Def K mg "led_pair" By ["table","pair"] i3 i5) (ko:ay P w K mg base bj 1 i3 i5 ["table","pair"] (br K 2 Bx)) {gO:Addr} {gP:FuncData} (cJ:Def K mg "shears" ye ["k"] gO gP) (gQ:ay P w K mg base bj 1 gO gP ["k"] (br K 1 qx)) {cB:Addr} {cC:FuncData} (aS:Def K mg "table_of" w6 ["word"] cB cC) (cb:ay P w K mg base bj 3 cB cC ["word"] (br K 1 nM)) {jW:Addr} {jX:FuncData} (gs:Def K mg "nearest" BA ["number","divisor"] jW jX) (lA:ay P w K mg base bj 1 jW jX ["number","divisor"] (br K 2 Bz)):ay P w K mg base bj 4 f fd ["pair"] (br K 1 BB):=by
 refine D.F.ok yf (fun vs H Q E h=>h.1) (fun cdv A outer s H vs Q E hr h=>?_)
 have hu:=hr.units
 have hu1:=gf hr
 refine ⟨_,(@bE _ _ _ _ _ (@cP (i:=1) _ _ _ _ _ _ yf.nd rfl (by first | exact Or.inl rfl | exact Or.inr rfl) (@ic _ _ _ _ _ az) (by rfl) (by first | exact .inl rfl | exact .inr rfl | assumption))
  (@bE _ _ _ _ _ (@cP (i:=2) _ _ _ _ _ _ yf.nd rfl (by first | exact Or.inl rfl | exact Or.inr rfl) (pv 0) (by rfl) (by first | exact .inl rfl | exact .inr rfl | assumption))
  (@bE _ _ _ _ _ (yH PassesOwn.never (ib rR (@b8 _ _ _ _ _ _ _ cM (pv 2) aO (fun _ _=>rfl)) aO (aW _)) (@bE _ _ _ _ _ (@cP (i:=3) _ _ _ _ _ _ yf.nd rfl (by first | exact Or.inl rfl | exact Or.inr rfl) (bP pj (bT gQ (hr.mono (by decide)) rfl cJ.m cJ.F.kp cJ.b .nil ax (@aq _ _ _ _ _ (rO rQ (bT lA (hr.mono (by decide)) rfl gs.m gs.F.kp gs.b .nil ax (@aq _ _ _ _ _ (@b8 _ _ _ _ _ _ _ cM (pv 2) aO (fun _ _=>rfl)) (@aq _ _ _ _ _ (@b8 _ _ _ _ _ _ _ cM (pv 2) aO (fun _ _=>rfl)) az (by rfl)) (by rfl)))) az (by rfl))) (@ic _ _ _ _ _ (@aq _ _ _ _ _ (@ic _ _ _ _ _ (@aq _ _ _ _ _ nA (@aq _ _ _ _ _ aO az (by rfl)) (by rfl))) az (by rfl)))) (by rfl) (by first | exact .inl rfl | exact .inr rfl | assumption))
  (@bE _ _ _ _ _ (@cP (i:=2) _ _ _ _ _ _ yf.nd rfl (by first | exact Or.inl rfl | exact Or.inr rfl) (bT ko (hr.mono (by decide)) rfl eR.m eR.F.kp eR.b .nil ax (@aq _ _ _ _ _ (bT cb (hr.mono (by decide)) rfl aS.m aS.F.kp aS.b .nil ax (@aq _ _ _ _ _ (pv 3) az (by rfl))) (@aq _ _ _ _ _ (pv 2) az (by rfl)) (by rfl))) (by rfl) (by first | exact .inl rfl | exact .inr rfl | assumption))
  (@bN _ _ _ (@cP (i:=1) _ _ _ _ _ _ yf.nd rfl (by first | exact Or.inl rfl | exact Or.inr rfl) (bP pj (pv 1) (pv 3)) (by rfl) (by first | exact .inl rfl | exact .inr rfl | assumption))))))
  (@bN _ _ _ (@dZ _ _ _ _ (pv 1)))))),?_⟩
 exact gn (b:=D0) (bF (ck (ik aB) (bC 1))
  (bF (ck (ao 0) (bC 2))
  (bF (Ap (ia (aD sR (aD cO (ao 2) (aP _)) (aP _))) (bF (ck (aD pS (bU (F:=qx) (au (sM vp (bU (F:=Bz) (au (aD cO (ao 2) (aP _)) (au (aD cO (ao 2) (aP _)) aB)) (aY (aY (fun _ _ _ _ h=>bW h))))) aB) (aY (fun _ _ _ _ h=>bW h))) (ik (au (ik (au (nH _) (au (aP _) aB))) aB))) (bC 3))
  (bF (ck (bU (F:=Bx) (au (bU (F:=nM) (au (ao 3) aB) (aY (fun _ _ _ _ h=>bW h))) (au (ao 2) aB)) (aY (aY (fun _ _ _ _ h=>bW h)))) (bC 2))
  (ck (aD pS (ao 1) (ao 3)) (bC 1)))))
  (d0 (ao 1))))) rfl h
def D1:ai->Dm Fl :=
 (aF (aM (aC dE (aC aR (ag 0) (fC (.int 1))) (aC aR (ag 1) (fC (.int 1)))) (hName 2))
 (aF (jr (aT (aC (kM false) (aC aR (ag 0) (fC (.int 0))) (fC (.str "t")))) (aM (aC kg (ag 2) (fC (.int 4))) (hName 2)) cf)
 (aF (jr (aT (aC (kM false) (ag 2) (fC (.int 0)))) (bh (cj ah)) cf)
 (bh (cj (ae (cj (ae (aC aR (ag 0) (fC (.int 0))) (ae (ag 2) ah))) ah))))))
def BE:List D->Dm D:=fG 3 D1
def BF:Stmt:=top 26
theorem GH:aA ["one","other","number"] ["one","other"] (av BF):=⟨rfl,rfl,rfl,by decide +kernel,rfl,by decide +kernel,by decide +kernel⟩
theorem QK {f:Addr} {fd:FuncData} (D:Def K mg "joined" BF ["one","other"] f fd) (T:Txt mg)  :ay P w K mg base bj 1 f fd ["one","other"] (br K 2 BE):=by
 refine D.F.ok GH (fun vs H Q E h=>h.1) (fun cdv A outer s H vs Q E hr h=>?_)
 have hu:=hr.units
 have hu1:=gf hr
 refine ⟨_,(@bE _ _ _ _ _ (@cP (i:=2) _ _ _ _ _ _ GH.nd rfl (by first | exact Or.inl rfl | exact Or.inr rfl) (bP kH (@b8 _ _ _ _ _ _ _ cM (pv 0) aO (fun _ _=>rfl)) (@b8 _ _ _ _ _ _ _ cM (pv 1) aO (fun _ _=>rfl))) (by rfl) (by first | exact .inl rfl | exact .inr rfl | assumption))
  (@bE _ _ _ _ _ (@j6 _ _ _ _ _ _ _ _ (ib mN (@b8 _ _ _ _ _ _ _ cM (pv 0) aO (fun _ _=>rfl)) nA (aW _)) (@bN _ _ _ (@cP (i:=2) _ _ _ _ _ _ GH.nd rfl (by first | exact Or.inl rfl | exact Or.inr rfl) (bP qh (pv 2) aO) (by rfl) (by first | exact .inl rfl | exact .inr rfl | assumption))) kR)
  (@bE _ _ _ _ _ (@j6 _ _ _ _ _ _ _ _ (ib mN (pv 2) aO (aW _)) (@bN _ _ _ (@dZ _ _ _ _ (@ic _ _ _ _ _ az))) kR)
  (@bN _ _ _ (@dZ _ _ _ _ (@ic _ _ _ _ _ (@aq _ _ _ _ _ (@ic _ _ _ _ _ (@aq _ _ _ _ _ (@b8 _ _ _ _ _ _ _ cM (pv 0) aO (fun _ _=>rfl)) (@aq _ _ _ _ _ (pv 2) az (by rfl)) (by rfl))) az (by rfl)))))))),?_⟩
 exact gn (b:=D1) (bF (ck (aD kL (aD cO (ao 0) (aP _)) (aD cO (ao 1) (aP _))) (bC 2))
  (bF (ki (ia (aD mV (aD cO (ao 0) (aP _)) (nH _))) (ck (aD qo (ao 2) (aP _)) (bC 2)) kU)
  (bF (ki (ia (aD mV (ao 2) (aP _))) (d0 (ik aB)) kU)
  (d0 (ik (au (ik (au (aD cO (ao 0) (aP _)) (au (ao 2) aB))) aB)))))) rfl h
def D2:ai->Dm Fl :=
 (aF (aM (cj ah) (hName 1))
 (aF (fA (iA (ag 0)) (hName 2) (jr (rh (aT (aC Ai (aX gk (ae (ag 1) ah)) (fC (.int 0)))) (aT (aC (kM false) (aC aR (aC aR (ag 1) (pM lL (fC (.int 1)))) (fC (.int 0))) (aC aR (ag 2) (fC (.int 0)))))) (aM (aC fE (sO pQ (ag 1) gC (kD (pM lL (fC (.int 1))))) (aX BE (ae (aC aR (ag 1) (pM lL (fC (.int 1)))) (ae (ag 2) ah)))) (hName 1)) (aM (aC fE (ag 1) (cj (ae (ag 2) ah))) (hName 1))))
 (bh (ag 1))))
def BG:List D->Dm D:=fG 3 D2
def BH:Stmt:=top 27
theorem BI:aA ["word","plain","step"] ["word"] (av BH):=⟨rfl,rfl,rfl,by decide +kernel,rfl,by decide +kernel,by decide +kernel⟩
theorem QL {f:Addr} {fd:FuncData} (D:Def K mg "made_plain" BH ["word"] f fd) (T:Txt mg)  {kX:Addr} {kY:FuncData} (i6:Def K mg "joined" BF ["one","other"] kX kY) (my:ay P w K mg base bj 1 kX kY ["one","other"] (br K 2 BE)):ay P w K mg base bj 2 f fd ["word"] (br K 1 BG):=by
 refine D.F.ok BI (fun vs H Q E h=>h.1) (fun cdv A outer s H vs Q E hr h=>?_)
 have hu:=hr.units
 have hu1:=gf hr
 refine ⟨_,(@bE _ _ _ _ _ (@cP (i:=1) _ _ _ _ _ _ BI.nd rfl (by first | exact Or.inl rfl | exact Or.inr rfl) (@ic _ _ _ _ _ az) (by rfl) (by first | exact .inl rfl | exact .inr rfl | assumption))
  (@bE _ _ _ _ _ (@mL _ _ _ _ _ _ _ _ PassesOwn.never rfl (rM (pv 0)) (jK (i:=2) BI.nd rfl (by first | exact Or.inl rfl | exact Or.inr rfl)) (@bN _ _ _ (@j6 _ _ _ _ _ _ _ _ (PW.pt (pw_and (ib EG (lS mO (by rfl) T.d4 mP (@aq _ _ _ _ _ (pv 1) az (by rfl))) aO (aW _)) (Lm (ib mN (@b8 _ _ _ _ _ _ _ cM (@b8 _ _ _ _ _ _ _ cM (pv 1) (rO rQ aO) (fun _ _=>rfl)) aO (fun _ _=>rfl)) (@b8 _ _ _ _ _ _ _ cM (pv 2) aO (fun _ _=>rfl)) (aW _))))) (@bN _ _ _ (@cP (i:=1) _ _ _ _ _ _ BI.nd rfl (by first | exact Or.inl rfl | exact Or.inr rfl) (bP pj (yX E1 (pv 1) yV (yW (rO rQ aO))) (bT my (hr.mono (by decide)) rfl i6.m i6.F.kp i6.b .nil ax (@aq _ _ _ _ _ (@b8 _ _ _ _ _ _ _ cM (pv 1) (rO rQ aO) (fun _ _=>rfl)) (@aq _ _ _ _ _ (pv 2) az (by rfl)) (by rfl)))) (by rfl) (by first | exact .inl rfl | exact .inr rfl | assumption))) (@bN _ _ _ (@cP (i:=1) _ _ _ _ _ _ BI.nd rfl (by first | exact Or.inl rfl | exact Or.inr rfl) (bP pj (pv 1) (@ic _ _ _ _ _ (@aq _ _ _ _ _ (pv 2) az (by rfl)))) (by rfl) (by first | exact .inl rfl | exact .inr rfl | assumption))))) (by intro _;rfl))
  (@bN _ _ _ (@dZ _ _ _ _ (pv 1))))),?_⟩
 exact gn (b:=D2) (bF (ck (ik aB) (bC 1))
  (bF (mZ (sY (ao 0)) (bC 2) (ki (vn (ia (aD F6 (dD mW (au (ao 1) aB)) (aP _))) (ia (aD mV (aD cO (aD cO (ao 1) (sM vp (aP _))) (aP _)) (aD cO (ao 2) (aP _))))) (ck (aD pS (Ag F7 (ao 1) Ae (Af (sM vp (aP _)))) (bU (F:=BE) (au (aD cO (ao 1) (sM vp (aP _))) (au (ao 2) aB)) (aY (aY (fun _ _ _ _ h=>bW h))))) (bC 1)) (ck (aD pS (ao 1) (ik (au (ao 2) aB))) (bC 1))))
  (d0 (ao 1)))) rfl h
def D3:ai->Dm Fl :=
 (bh (aX BG (ae (aC fE (ag 0) (ag 1)) ah)))
def BJ:List D->Dm D:=fG 2 D3
def BK:Stmt:=top 28
theorem QM:aA ["one","other"] ["one","other"] (av BK):=⟨rfl,rfl,rfl,by decide +kernel,rfl,by decide +kernel,by decide +kernel⟩
theorem QN {f:Addr} {fd:FuncData} (D:Def K mg "put_together" BK ["one","other"] f fd) (T:Txt mg)  {fJ:Addr} {fK:FuncData} (dm:Def K mg "made_plain" BH ["word"] fJ fK) (iE:ay P w K mg base bj 2 fJ fK ["word"] (br K 1 BG)):ay P w K mg base bj 3 f fd ["one","other"] (br K 2 BJ):=by
 refine D.F.ok QM (fun vs H Q E h=>h.1) (fun cdv A outer s H vs Q E hr h=>?_)
 have hu:=hr.units
 have hu1:=gf hr
 refine ⟨_,(@bN _ _ _ (@dZ _ _ _ _ (bT iE (hr.mono (by decide)) rfl dm.m dm.F.kp dm.b .nil ax (@aq _ _ _ _ _ (bP pj (pv 0) (pv 1)) az (by rfl))))),?_⟩
 exact gn (b:=D3) (d0 (bU (F:=BG) (au (aD pS (ao 0) (ao 1)) aB) (aY (fun _ _ _ _ h=>bW h)))) rfl h
def D4:ai->Dm Fl :=
 (bh (oh (aC (kM false) (aX gk (ae (ag 0) ah)) (fC (.int 4))) (aC (kM false) (aC lH (aC d3 (aC aR (ag 0) (fC (.int 0))) (aC aR (ag 0) (fC (.int 3)))) (aC d3 (aC aR (ag 0) (fC (.int 1))) (aC aR (ag 0) (fC (.int 2))))) (fC (.int 1)))))
def BL:List D->Dm D:=fG 1 D4
def BM:Stmt:=top 18
theorem QO:aA ["thing"] ["thing"] (av BM):=⟨rfl,rfl,rfl,by decide +kernel,rfl,by decide +kernel,by decide +kernel⟩
theorem QP {f:Addr} {fd:FuncData} (D:Def K mg "is_table" BM ["thing"] f fd) (T:Txt mg)  :ay P w K mg base bj 1 f fd ["thing"] (br K 1 BL):=by
 refine D.F.ok QO (fun vs H Q E h=>h.1) (fun cdv A outer s H vs Q E hr h=>?_)
 have hu:=hr.units
 have hu1:=gf hr
 refine ⟨_,(@bN _ _ _ (@dZ _ _ _ _ (uk (Co mN (lS mO (by rfl) T.d4 mP (@aq _ _ _ _ _ (pv 0) az (by rfl))) aO (aW _)) (uj (Co mN (bP yO (bP nY (@b8 _ _ _ _ _ _ _ cM (pv 0) aO (fun _ _=>rfl)) (@b8 _ _ _ _ _ _ _ cM (pv 0) aO (fun _ _=>rfl))) (bP nY (@b8 _ _ _ _ _ _ _ cM (pv 0) aO (fun _ _=>rfl)) (@b8 _ _ _ _ _ _ _ cM (pv 0) aO (fun _ _=>rfl)))) aO (aW _)))))),?_⟩
 exact gn (b:=D4) (d0 (N8 (aD mV (dD mW (au (ao 0) aB)) (aP _)) (aD mV (aD Aj (aD ot (aD cO (ao 0) (aP _)) (aD cO (ao 0) (aP _))) (aD ot (aD cO (ao 0) (aP _)) (aD cO (ao 0) (aP _)))) (aP _)))) rfl h
def D5:ai->Dm Fl :=
 (aF (jr (aT (aC (kM false) (aC aR (ag 0) (fC (.int 0))) (fC (.int 1)))) (bh (aX qx (ae (aC aR (ag 0) (fC (.int 1))) ah))) cf)
 (bh (aC fE (cj (ae (cj (ae (fC (.str "t")) (ae (fC (.int 2)) ah))) ah)) (aX qx (ae (pM lL (aC aR (ag 0) (fC (.int 1)))) ah)))))
def BN:List D->Dm D:=fG 1 D5
def BO:Stmt:=top 36
theorem QQ:aA ["table"] ["table"] (av BO):=⟨rfl,rfl,rfl,by decide +kernel,rfl,by decide +kernel,by decide +kernel⟩
theorem QR {f:Addr} {fd:FuncData} (D:Def K mg "level_word" BO ["table"] f fd) (T:Txt mg)  {gO:Addr} {gP:FuncData} (cJ:Def K mg "shears" ye ["k"] gO gP) (gQ:ay P w K mg base bj 1 gO gP ["k"] (br K 1 qx)):ay P w K mg base bj 2 f fd ["table"] (br K 1 BN):=by
 refine D.F.ok QQ (fun vs H Q E h=>h.1) (fun cdv A outer s H vs Q E hr h=>?_)
 have hu:=hr.units
 have hu1:=gf hr
 refine ⟨_,(@bE _ _ _ _ _ (@j6 _ _ _ _ _ _ _ _ (ib mN (@b8 _ _ _ _ _ _ _ cM (pv 0) aO (fun _ _=>rfl)) aO (aW _)) (@bN _ _ _ (@dZ _ _ _ _ (bT gQ (hr.mono (by decide)) rfl cJ.m cJ.F.kp cJ.b .nil ax (@aq _ _ _ _ _ (@b8 _ _ _ _ _ _ _ cM (pv 0) aO (fun _ _=>rfl)) az (by rfl))))) kR)
  (@bN _ _ _ (@dZ _ _ _ _ (bP pj (@ic _ _ _ _ _ (@aq _ _ _ _ _ (@ic _ _ _ _ _ (@aq _ _ _ _ _ nA (@aq _ _ _ _ _ aO az (by rfl)) (by rfl))) az (by rfl))) (bT gQ (hr.mono (by decide)) rfl cJ.m cJ.F.kp cJ.b .nil ax (@aq _ _ _ _ _ (rO rQ (@b8 _ _ _ _ _ _ _ cM (pv 0) aO (fun _ _=>rfl))) az (by rfl))))))),?_⟩
 exact gn (b:=D5) (bF (ki (ia (aD mV (aD cO (ao 0) (aP _)) (aP _))) (d0 (bU (F:=qx) (au (aD cO (ao 0) (aP _)) aB) (aY (fun _ _ _ _ h=>bW h)))) kU)
  (d0 (aD pS (ik (au (ik (au (nH _) (au (aP _) aB))) aB)) (bU (F:=qx) (au (sM vp (aD cO (ao 0) (aP _))) aB) (aY (fun _ _ _ _ h=>bW h)))))) rfl h
def D6:ai->Dm Fl :=
 (aF (jr (aT (aC (kM false) (aC aR (ag 0) (fC (.int 0))) (fC (.str "s")))) (bh (cj (ae (fC (.str "s")) (ae (pM lL (aC aR (ag 0) (fC (.int 1)))) ah)))) cf)
 (bh (cj (ae (fC (.str "t")) (ae (aC lH (fC (.int 4)) (aC aR (ag 0) (fC (.int 1)))) ah)))))
def BP:List D->Dm D:=fG 1 D6
def BQ:Stmt:=top 29
theorem QS:aA ["step"] ["step"] (av BQ):=⟨rfl,rfl,rfl,by decide +kernel,rfl,by decide +kernel,by decide +kernel⟩
theorem QT {f:Addr} {fd:FuncData} (D:Def K mg "back_step" BQ ["step"] f fd) (T:Txt mg)  :ay P w K mg base bj 1 f fd ["step"] (br K 1 BP):=by
 refine D.F.ok QS (fun vs H Q E h=>h.1) (fun cdv A outer s H vs Q E hr h=>?_)
 have hu:=hr.units
 have hu1:=gf hr
 refine ⟨_,(@bE _ _ _ _ _ (@j6 _ _ _ _ _ _ _ _ (ib mN (@b8 _ _ _ _ _ _ _ cM (pv 0) aO (fun _ _=>rfl)) nA (aW _)) (@bN _ _ _ (@dZ _ _ _ _ (@ic _ _ _ _ _ (@aq _ _ _ _ _ nA (@aq _ _ _ _ _ (rO rQ (@b8 _ _ _ _ _ _ _ cM (pv 0) aO (fun _ _=>rfl))) az (by rfl)) (by rfl))))) kR)
  (@bN _ _ _ (@dZ _ _ _ _ (@ic _ _ _ _ _ (@aq _ _ _ _ _ nA (@aq _ _ _ _ _ (bP yO aO (@b8 _ _ _ _ _ _ _ cM (pv 0) aO (fun _ _=>rfl))) az (by rfl)) (by rfl)))))),?_⟩
 exact gn (b:=D6) (bF (ki (ia (aD mV (aD cO (ao 0) (aP _)) (nH _))) (d0 (ik (au (nH _) (au (sM vp (aD cO (ao 0) (aP _))) aB)))) kU)
  (d0 (ik (au (nH _) (au (aD Aj (aP _) (aD cO (ao 0) (aP _))) aB))))) rfl h
def D7:ai->Dm Fl :=
 (bh (aX c4 (ae (e8 (oq (ae (ag 0) ah)) 1 [] (hName 0) hW (aX BP (ae (ag 0) ah))) ah)))
def tM:List D->Dm D:=fG 1 D7
def yg:Stmt:=top 30
theorem QU:aA ["word"] ["word"] (av yg):=⟨rfl,rfl,rfl,by decide +kernel,rfl,by decide +kernel,by decide +kernel⟩
theorem QV {f:Addr} {fd:FuncData} (D:Def K mg "back_word" yg ["word"] f fd) (T:Txt mg)  {gR:Addr} {gS:FuncData} (dJ:Def K mg "back_step" BQ ["step"] gR gS) (jx:ay P w K mg base bj 1 gR gS ["step"] (br K 1 BP)):ay P w K mg base bj 2 f fd ["word"] (br K 1 tM):=by
 refine D.F.ok QU (fun vs H Q E h=>h.1) (fun cdv A outer s H vs Q E hr h=>?_)
 have hu:=hr.units
 have hu1:=gf hr
 refine ⟨_,(@bN _ _ _ (@dZ _ _ _ _ (ie oF (by rfl) T.cT oJ (@aq _ _ _ _ _ (Cz (own:=["step"]) (fr:=[]) (js:=[]) rfl ⟨⟨rfl,by decide +kernel,by decide +kernel,by dsimp only [j9,bg,Cx.oZ,Cx.wish,PyProof.Rows.envOfC,compEnvC,relabel,Env.kindOf];decide +kernel,by decide +kernel⟩,rfl⟩ (uS rfl T.nK (@aq _ _ _ _ _ (pv 0) az (by rfl))) (fun _ _ _ _ _=>(jK (i:=0) (show ((["step"]:List Str) ++ ([]:List Str)).Nodup by decide +kernel) rfl (by first | exact Or.inl rfl | exact Or.inr rfl))) (fun _ _ _ _ _=>Cu) (fun _ _ _ _ _=>(bT jx (hr.mono (by decide)) rfl dJ.m dJ.F.kp dJ.b .nil ax (@aq _ _ _ _ _ (pv 0) az (by rfl))))) az (by rfl))))),?_⟩
 exact gn (b:=D7) (d0 (dD oP (au (vG (Pw (au (ao 0) aB)) (bC 0) C7 (bU (F:=BP) (au (ao 0) aB) (aY (fun _ _ _ _ h=>bW h)))) aB))) rfl h
def D8:ai->Dm Fl :=
 (aF (jr (pN (aT (aX BL (ae (ag 0) ah)))) p6 cf)
 (aF (aM (aX BB (ae (cj (ae (aC aR (ag 0) (fC (.int 0))) (ae (aC aR (ag 0) (fC (.int 2))) ah))) ah)) (hName 1))
 (bh (aX BJ (ae (aX BN (ae (aX p9 (ae (aX nM (ae (ag 1) ah)) (ae (ag 0) ah))) ah)) (ae (aX tM (ae (ag 1) ah)) ah))))))
def BR:List D->Dm D:=fG 2 D8
def BS:Stmt:=top 32
theorem Kx:aA ["table","gone"] ["table"] (av BS):=⟨rfl,rfl,rfl,by decide +kernel,rfl,by decide +kernel,by decide +kernel⟩
theorem QW {f:Addr} {fd:FuncData} (D:Def K mg "word_of" BS ["table"] f fd) (T:Txt mg)  {eI:Addr} {eJ:FuncData} (cW:Def K mg "level_steps" BD ["pair"] eI eJ) (gT:ay P w K mg base bj 4 eI eJ ["pair"] (br K 1 BB)) {dR:Addr} {dS:FuncData} (cD:Def K mg "put_together" BK ["one","other"] dR dS) (fU:ay P w K mg base bj 3 dR dS ["one","other"] (br K 2 BJ)) {i7:Addr} {i9:FuncData} (eT:Def K mg "is_table" BM ["thing"] i7 i9) (kq:ay P w K mg base bj 1 i7 i9 ["thing"] (br K 1 BL)) {fL:Addr} {fM:FuncData} (dn:Def K mg "level_word" BO ["table"] fL fM) (iF:ay P w K mg base bj 2 fL fM ["table"] (br K 1 BN)) {dh:Addr} {di:FuncData} (bM:Def K mg "back_word" yg ["word"] dh di) (dM:ay P w K mg base bj 2 dh di ["word"] (br K 1 tM)) {fS:Addr} {fT:FuncData} (c5:Def K mg "times" w4 ["one","other"] fS fT) (gN:ay P w K mg base bj 1 fS fT ["one","other"] (br K 2 p9)) {cB:Addr} {cC:FuncData} (aS:Def K mg "table_of" w6 ["word"] cB cC) (cb:ay P w K mg base bj 3 cB cC ["word"] (br K 1 nM)):ay P w K mg base bj 5 f fd ["table"] (br K 1 BR):=by
 refine D.F.ok Kx (fun vs H Q E h=>h.1) (fun cdv A outer s H vs Q E hr h=>?_)
 have hu:=hr.units
 have hu1:=gf hr
 refine ⟨_,(@bE _ _ _ _ _ (@j6 _ _ _ _ _ _ _ _ (Hl (Hj (bT kq (hr.mono (by decide)) rfl eT.m eT.F.kp eT.b .nil ax (@aq _ _ _ _ _ (pv 0) az (by rfl))))) (@bN _ _ _ Ln) kR)
  (@bE _ _ _ _ _ (@cP (i:=1) _ _ _ _ _ _ Kx.nd rfl (by first | exact Or.inl rfl | exact Or.inr rfl) (bT gT (hr.mono (by decide)) rfl cW.m cW.F.kp cW.b .nil ax (@aq _ _ _ _ _ (@ic _ _ _ _ _ (@aq _ _ _ _ _ (@b8 _ _ _ _ _ _ _ cM (pv 0) aO (fun _ _=>rfl)) (@aq _ _ _ _ _ (@b8 _ _ _ _ _ _ _ cM (pv 0) aO (fun _ _=>rfl)) az (by rfl)) (by rfl))) az (by rfl))) (by rfl) (by first | exact .inl rfl | exact .inr rfl | assumption))
  (@bN _ _ _ (@dZ _ _ _ _ (bT fU (hr.mono (by decide)) rfl cD.m cD.F.kp cD.b .nil ax (@aq _ _ _ _ _ (bT iF (hr.mono (by decide)) rfl dn.m dn.F.kp dn.b .nil ax (@aq _ _ _ _ _ (bT gN (hr.mono (by decide)) rfl c5.m c5.F.kp c5.b .nil ax (@aq _ _ _ _ _ (bT cb (hr.mono (by decide)) rfl aS.m aS.F.kp aS.b .nil ax (@aq _ _ _ _ _ (pv 1) az (by rfl))) (@aq _ _ _ _ _ (pv 0) az (by rfl)) (by rfl))) az (by rfl))) (@aq _ _ _ _ _ (bT dM (hr.mono (by decide)) rfl bM.m bM.F.kp bM.b .nil ax (@aq _ _ _ _ _ (pv 1) az (by rfl))) az (by rfl)) (by rfl))))))),?_⟩
 exact gn (b:=D8) (bF (ki (JU (F3 (bU (F:=BL) (au (ao 0) aB) (aY (fun _ _ _ _ h=>bW h))))) PR kU)
  (bF (ck (bU (F:=BB) (au (ik (au (aD cO (ao 0) (aP _)) (au (aD cO (ao 0) (aP _)) aB))) aB) (aY (fun _ _ _ _ h=>bW h))) (bC 1))
  (d0 (bU (F:=BJ) (au (bU (F:=BN) (au (bU (F:=p9) (au (bU (F:=nM) (au (ao 1) aB) (aY (fun _ _ _ _ h=>bW h))) (au (ao 0) aB)) (aY (aY (fun _ _ _ _ h=>bW h)))) aB) (aY (fun _ _ _ _ h=>bW h))) (au (bU (F:=tM) (au (ao 1) aB) (aY (fun _ _ _ _ h=>bW h))) aB)) (aY (aY (fun _ _ _ _ h=>bW h))))))) rfl h
def D9:ai->Dm Fl :=
 (bh (aX nz (ae (aX oz (ae (ag 0) (ae (aX BR (ae (ag 1) ah)) ah))) ah)))
def BU:List D->Dm D:=fG 2 D9
def BV:Stmt:=top 42
theorem QX:aA ["floor","table"] ["floor","table"] (av BV):=⟨rfl,rfl,rfl,by decide +kernel,rfl,by decide +kernel,by decide +kernel⟩
theorem QY {f:Addr} {fd:FuncData} (D:Def K mg "led_by_table" BV ["floor","table"] f fd) (T:Txt mg)  {fe:Addr} {fg:FuncData} (aZ:Def K mg "form_of" yd ["floor"] fe fg) (c9:ay P w K mg base bj 4 fe fg ["floor"] (br K 1 nz)) {gU:Addr} {gW:FuncData} (bw:Def K mg "led_by" yc ["floor","word"] gU gW) (eK:ay P w K mg base bj 6 gU gW ["floor","word"] (br K 2 oz)) {jY:Addr} {jZ:FuncData} (gu:Def K mg "word_of" BS ["table"] jY jZ) (lB:ay P w K mg base bj 5 jY jZ ["table"] (br K 1 BR)):ay P w K mg base bj 7 f fd ["floor","table"] (br K 2 BU):=by
 refine D.F.ok QX (fun vs H Q E h=>h.1) (fun cdv A outer s H vs Q E hr h=>?_)
 have hu:=hr.units
 have hu1:=gf hr
 refine ⟨_,(@bN _ _ _ (@dZ _ _ _ _ (bT c9 (hr.mono (by decide)) rfl aZ.m aZ.F.kp aZ.b .nil ax (@aq _ _ _ _ _ (bT eK (hr.mono (by decide)) rfl bw.m bw.F.kp bw.b .nil ax (@aq _ _ _ _ _ (pv 0) (@aq _ _ _ _ _ (bT lB (hr.mono (by decide)) rfl gu.m gu.F.kp gu.b .nil ax (@aq _ _ _ _ _ (pv 1) az (by rfl))) az (by rfl)) (by rfl))) az (by rfl))))),?_⟩
 exact gn (b:=D9) (d0 (bU (F:=nz) (au (bU (F:=oz) (au (ao 0) (au (bU (F:=BR) (au (ao 1) aB) (aY (fun _ _ _ _ h=>bW h))) aB)) (aY (aY (fun _ _ _ _ h=>bW h)))) aB) (aY (fun _ _ _ _ h=>bW h)))) rfl h
def Ea:ai->Dm Fl :=
 (aF (aM (cj (ae (aX oz (ae (ag 0) (ae (ag 1) ah))) (ae (aX oz (ae (ag 0) (ae (ag 2) ah))) ah))) (ml 2 (fF (hName 4) (fF (hName 5) mY))))
 (aF (jr (xN (aT (aC (eZ true) (aX nM (ae (ag 1) ah)) (aX nM (ae (ag 2) ah)))) (aT (aC (eZ true) (aX nz (ae (ag 4) ah)) (aX nz (ae (ag 5) ah))))) (bh (fC (.bl false))) cf)
 (aF (aM (aX wZ (ae (ag 4) (ae (ag 5) ah))) (hName 6))
 (aF (aM (e8 (kj (ag 6)) 1 [4,5] (hName 0) (aT (aC (eZ true) (aX qv (ae (ag 1) (ae (ag 0) ah))) (ag 2))) (ag 0)) (hName 7))
 (aF (jr (xN (aT (aC (eZ false) (ag 6) (d7 ah))) (aT (aC (eZ true) (ag 7) (d7 ah)))) (bh (fC (.bl false))) cf)
 (aF (aM (aX oz (ae (aX qv (ae (ag 0) (ae (ag 3) ah))) (ae (ag 2) ah))) (hName 8))
 (aF (jr (xN (aT (aC (eZ true) (aX nz (ae (ag 8) ah)) (aX nz (ae (ag 4) ah)))) (aT (aC (eZ true) (aX BU (ae (ag 0) (ae (aX nM (ae (ag 1) ah)) ah))) (aX nz (ae (ag 4) ah))))) (bh (fC (.bl false))) cf)
 (bh (aC (eZ true) (aX wZ (ae (aX oz (ae (ag 4) (ae (aX tM (ae (ag 1) ah)) ah))) (ae (ag 0) ah))) (d7 ah))))))))))
def BW:List D->Dm D:=fG 9 Ea
def BX:Stmt:=top 53
theorem yh:aA ["_law_floor_here","_law_word_here","_law_other","_law_p","_law_one","_law_two","_law_some","_law_wrong","_law_anew"] ["_law_floor_here","_law_word_here","_law_other","_law_p"] (av BX):=⟨rfl,rfl,rfl,by decide +kernel,rfl,by decide +kernel,by decide +kernel⟩
theorem QZ {f:Addr} {fd:FuncData} (D:Def K mg "_law_right" BX ["_law_floor_here","_law_word_here","_law_other","_law_p"] f fd) (T:Txt mg)  {ja:Addr} {jb:FuncData} (cX:Def K mg "callings" Bg ["one","other"] ja jb) (jc:ay P w K mg base bj 4 ja jb ["one","other"] (br K 2 wZ)) {gU:Addr} {gW:FuncData} (bw:Def K mg "led_by" yc ["floor","word"] gU gW) (eK:ay P w K mg base bj 6 gU gW ["floor","word"] (br K 2 oz)) {cq:Addr} {cu:FuncData} (aV:Def K mg "called_anew" x5 ["floor","p"] cq cu) (cv:ay P w K mg base bj 2 cq cu ["floor","p"] (br K 2 qv)) {cB:Addr} {cC:FuncData} (aS:Def K mg "table_of" w6 ["word"] cB cC) (cb:ay P w K mg base bj 3 cB cC ["word"] (br K 1 nM)) {fe:Addr} {fg:FuncData} (aZ:Def K mg "form_of" yd ["floor"] fe fg) (c9:ay P w K mg base bj 4 fe fg ["floor"] (br K 1 nz)) {dU:Addr} {dW:FuncData} (cE:Def K mg "led_by_table" BV ["floor","table"] dU dW) (fV:ay P w K mg base bj 7 dU dW ["floor","table"] (br K 2 BU)) {dh:Addr} {di:FuncData} (bM:Def K mg "back_word" yg ["word"] dh di) (dM:ay P w K mg base bj 2 dh di ["word"] (br K 1 tM)):ay P w K mg base bj 8 f fd ["_law_floor_here","_law_word_here","_law_other","_law_p"] (br K 4 BW):=by
 refine D.F.ok yh (fun vs H Q E h=>h.1) (fun cdv A outer s H vs Q E hr h=>?_)
 have hu:=hr.units
 have hu1:=gf hr
 refine ⟨_,(@bE _ _ _ _ _ (xy (@ic _ _ _ _ _ (@aq _ _ _ _ _ (bT eK (hr.mono (by decide)) rfl bw.m bw.F.kp bw.b .nil ax (@aq _ _ _ _ _ (pv 0) (@aq _ _ _ _ _ (pv 1) az (by rfl)) (by rfl))) (@aq _ _ _ _ _ (bT eK (hr.mono (by decide)) rfl bw.m bw.F.kp bw.b .nil ax (@aq _ _ _ _ _ (pv 0) (@aq _ _ _ _ _ (pv 2) az (by rfl)) (by rfl))) az (by rfl)) (by rfl))) (yF (n:=2) rfl (qe (jK (i:=4) yh.nd rfl (by first | exact Or.inl rfl | exact Or.inr rfl)) (qe (jK (i:=5) yh.nd rfl (by first | exact Or.inl rfl | exact Or.inr rfl)) yE))))
  (@bE _ _ _ _ _ (@j6 _ _ _ _ _ _ _ _ (PW.pt (EA (ib (qN hu) (bT cb (hr.mono (by decide)) rfl aS.m aS.F.kp aS.b .nil ax (@aq _ _ _ _ _ (pv 1) az (by rfl))) (bT cb (hr.mono (by decide)) rfl aS.m aS.F.kp aS.b .nil ax (@aq _ _ _ _ _ (pv 2) az (by rfl))) (aW _)) (Ez (ib (qN hu) (bT c9 (hr.mono (by decide)) rfl aZ.m aZ.F.kp aZ.b .nil ax (@aq _ _ _ _ _ (pv 4) az (by rfl))) (bT c9 (hr.mono (by decide)) rfl aZ.m aZ.F.kp aZ.b .nil ax (@aq _ _ _ _ _ (pv 5) az (by rfl))) (aW _))))) (@bN _ _ _ (@dZ _ _ _ _ xw)) kR)
  (@bE _ _ _ _ _ (@cP (i:=6) _ _ _ _ _ _ yh.nd rfl (by first | exact Or.inl rfl | exact Or.inr rfl) (bT jc (hr.mono (by decide)) rfl cX.m cX.F.kp cX.b .nil ax (@aq _ _ _ _ _ (pv 4) (@aq _ _ _ _ _ (pv 5) az (by rfl)) (by rfl))) (by rfl) (by first | exact .inl rfl | exact .inr rfl | assumption))
  (@bE _ _ _ _ _ (Fh (i:=7) (own:=["_law_turning_here"]) (fr:=["_law_one","_law_two"]) (js:=[4,5]) rfl yh.nd rfl rfl ⟨⟨rfl,by decide +kernel,by decide +kernel,by dsimp only [j9,bg,Cx.oZ,Cx.wish,PyProof.Rows.envOfC,compEnvC,relabel,Env.kindOf];decide +kernel,by decide +kernel⟩,rfl⟩ (EE (pv 6)) (fun _ _ _ _ _=>(jK (i:=0) (show ((["_law_turning_here"]:List Str) ++ (["_law_one","_law_two"]:List Str)).Nodup by decide +kernel) rfl (by first | exact Or.inl rfl | exact Or.inr rfl))) (fun _ _ _ _ _=>(E6 (ib (Mr (K:=K) rfl hu) (bT cv (hr.mono (by decide)) rfl aV.m aV.F.kp aV.b .nil ax (@aq _ _ _ _ _ (pv 1) (@aq _ _ _ _ _ (pv 0) az (by rfl)) (by rfl))) (pv 2) (aW _)))) (fun _ _ _ _ _=>(pv 0)))
  (@bE _ _ _ _ _ (@j6 _ _ _ _ _ _ _ _ (PW.pt (EA (ib (Il hu) (pv 6) (@lF _ _ _ _ az) (aW _)) (Ez (ib (qN hu) (pv 7) (@lF _ _ _ _ az) (aW _))))) (@bN _ _ _ (@dZ _ _ _ _ xw)) kR)
  (@bE _ _ _ _ _ (@cP (i:=8) _ _ _ _ _ _ yh.nd rfl (by first | exact Or.inl rfl | exact Or.inr rfl) (bT eK (hr.mono (by decide)) rfl bw.m bw.F.kp bw.b .nil ax (@aq _ _ _ _ _ (bT cv (hr.mono (by decide)) rfl aV.m aV.F.kp aV.b .nil ax (@aq _ _ _ _ _ (pv 0) (@aq _ _ _ _ _ (pv 3) az (by rfl)) (by rfl))) (@aq _ _ _ _ _ (pv 2) az (by rfl)) (by rfl))) (by rfl) (by first | exact .inl rfl | exact .inr rfl | assumption))
  (@bE _ _ _ _ _ (@j6 _ _ _ _ _ _ _ _ (PW.pt (EA (ib (qN hu) (bT c9 (hr.mono (by decide)) rfl aZ.m aZ.F.kp aZ.b .nil ax (@aq _ _ _ _ _ (pv 8) az (by rfl))) (bT c9 (hr.mono (by decide)) rfl aZ.m aZ.F.kp aZ.b .nil ax (@aq _ _ _ _ _ (pv 4) az (by rfl))) (aW _)) (Ez (ib (qN hu) (bT fV (hr.mono (by decide)) rfl cE.m cE.F.kp cE.b .nil ax (@aq _ _ _ _ _ (pv 0) (@aq _ _ _ _ _ (bT cb (hr.mono (by decide)) rfl aS.m aS.F.kp aS.b .nil ax (@aq _ _ _ _ _ (pv 1) az (by rfl))) az (by rfl)) (by rfl))) (bT c9 (hr.mono (by decide)) rfl aZ.m aZ.F.kp aZ.b .nil ax (@aq _ _ _ _ _ (pv 4) az (by rfl))) (aW _))))) (@bN _ _ _ (@dZ _ _ _ _ xw)) kR)
  (@bN _ _ _ (@dZ _ _ _ _ (Co (qN hu) (bT jc (hr.mono (by decide)) rfl cX.m cX.F.kp cX.b .nil ax (@aq _ _ _ _ _ (bT eK (hr.mono (by decide)) rfl bw.m bw.F.kp bw.b .nil ax (@aq _ _ _ _ _ (pv 4) (@aq _ _ _ _ _ (bT dM (hr.mono (by decide)) rfl bM.m bM.F.kp bM.b .nil ax (@aq _ _ _ _ _ (pv 1) az (by rfl))) az (by rfl)) (by rfl))) (@aq _ _ _ _ _ (pv 0) az (by rfl)) (by rfl))) (@lF _ _ _ _ az) (aW _))))))))))),?_⟩
 exact gn (b:=Ea) (bF (ck (ik (au (bU (F:=oz) (au (ao 0) (au (ao 1) aB)) (aY (aY (fun _ _ _ _ h=>bW h)))) (au (bU (F:=oz) (au (ao 0) (au (ao 2) aB)) (aY (aY (fun _ _ _ _ h=>bW h)))) aB))) (Ao (qq (bC 4) (qq (bC 5) An))))
  (bF (ki (F4 (ia (aD (pP true) (bU (F:=nM) (au (ao 1) aB) (aY (fun _ _ _ _ h=>bW h))) (bU (F:=nM) (au (ao 2) aB) (aY (fun _ _ _ _ h=>bW h))))) (ia (aD (pP true) (bU (F:=nz) (au (ao 4) aB) (aY (fun _ _ _ _ h=>bW h))) (bU (F:=nz) (au (ao 5) aB) (aY (fun _ _ _ _ h=>bW h)))))) (d0 (xM _)) kU)
  (bF (ck (bU (F:=wZ) (au (ao 4) (au (ao 5) aB)) (aY (aY (fun _ _ _ _ h=>bW h)))) (bC 6))
  (bF (ck (vG (Ga (ao 6)) (bC 0) (ia (aD (pP true) (bU (F:=qv) (au (ao 1) (au (ao 0) aB)) (aY (aY (fun _ _ _ _ h=>bW h)))) (ao 2))) (ao 0)) (bC 7))
  (bF (ki (F4 (ia (aD (pP false) (ao 6) (lG aB))) (ia (aD (pP true) (ao 7) (lG aB)))) (d0 (xM _)) kU)
  (bF (ck (bU (F:=oz) (au (bU (F:=qv) (au (ao 0) (au (ao 3) aB)) (aY (aY (fun _ _ _ _ h=>bW h)))) (au (ao 2) aB)) (aY (aY (fun _ _ _ _ h=>bW h)))) (bC 8))
  (bF (ki (F4 (ia (aD (pP true) (bU (F:=nz) (au (ao 8) aB) (aY (fun _ _ _ _ h=>bW h))) (bU (F:=nz) (au (ao 4) aB) (aY (fun _ _ _ _ h=>bW h))))) (ia (aD (pP true) (bU (F:=BU) (au (ao 0) (au (bU (F:=nM) (au (ao 1) aB) (aY (fun _ _ _ _ h=>bW h))) aB)) (aY (aY (fun _ _ _ _ h=>bW h)))) (bU (F:=nz) (au (ao 4) aB) (aY (fun _ _ _ _ h=>bW h)))))) (d0 (xM _)) kU)
  (d0 (aD (pP true) (bU (F:=wZ) (au (bU (F:=oz) (au (ao 4) (au (bU (F:=tM) (au (ao 1) aB) (aY (fun _ _ _ _ h=>bW h))) aB)) (aY (aY (fun _ _ _ _ h=>bW h)))) (au (ao 0) aB)) (aY (aY (fun _ _ _ _ h=>bW h)))) (lG aB)))))))))) rfl h
def Eb:ai->Dm Fl :=
 (aF (fA (dz (ae (aX om (ae (fC (.int 2)) (ae (aX gk (ae (sO pR (ag 0) gC (kD (fC (.int 6)))) ah)) ah))) ah)) (hName 1) (aF (aM (aX A7 (ae (ag 0) (ae (ag 1) ah))) (hName 2))
 (aF (aM (aX Ba (ae (ag 2) ah)) (hName 3))
 (aF (aM (aX tJ (ae (ag 2) (ae (fC (.int 4)) (ae (fC (.int 20)) ah)))) (hName 4))
 (aF (aM (aX jS (ae (ag 2) (ae (aC dE (aX gk (ae (ag 4) ah)) (fC (.int 1))) ah))) (hName 5))
 (aF (aM (aX Be (ae (ag 2) (ae (aC dE (fC (.int 1)) (aX jS (ae (ag 2) (ae (fC (.int 8)) ah)))) ah))) (hName 6))
 (aF (aM (aX qu (ae (ag 2) (ae (aX gk (ae (aC aR (ag 6) (fC (.int 0))) ah)) ah))) (hName 7))
 (jr (pN (aT (aX BW (ae (ag 6) (ae (ag 4) (ae (aC fE (aC fE (sO pQ (ag 4) gC (kD (ag 5))) (ag 3)) (sO pQ (ag 4) (kD (ag 5)) gC)) (ae (ag 7) ah))))))) (bh (fC (.bl false))) cf))))))))
 (bh (fC (.bl true))))
def GI:List D->Dm D:=fG 8 Eb
def Ec:Stmt:=top 54
theorem tN:aA ["_law_script","_law_k","_law_feed_here","_law_nothing_here","_law_word_here","_law_at","_law_floor_here","_law_p"] ["_law_script"] (av Ec):=⟨rfl,rfl,rfl,by decide +kernel,rfl,by decide +kernel,by decide +kernel⟩
theorem w8 {f:Addr} {fd:FuncData} (D:Def K mg "law" Ec ["_law_script"] f fd) (T:Txt mg)  {gX:Addr} {gY:FuncData} (dN:Def K mg "_law_feed" A8 ["_law_script","_law_k"] gX gY) (jy:ay P w K mg base bj 1 gX gY ["_law_script","_law_k"] (br K 2 A7)) {dX:Addr} {dY:FuncData} (cF:Def K mg "_law_nothing" Bb ["_law_feed_here"] dX dY) (fW:ay P w K mg base bj 3 dX dY ["_law_feed_here"] (br K 1 Ba)) {df:Addr} {dg:FuncData} (bI:Def K mg "_law_word" x3 ["_law_feed_here","_law_most","_law_great"] df dg) (dG:ay P w K mg base bj 2 df dg ["_law_feed_here","_law_most","_law_great"] (br K 3 tJ)) {a5:Addr} {a6:FuncData} (aj:Def K mg "_law_take" rA ["_law_feed_here","_law_many"] a5 a6) (aK:ay P w K mg base bj 1 a5 a6 ["_law_feed_here","_law_many"] (br K 2 jS)) {fN:Addr} {fO:FuncData} (dr:Def K mg "_law_floor" Bf ["_law_feed_here","_law_n"] fN fO) (iG:ay P w K mg base bj 3 fN fO ["_law_feed_here","_law_n"] (br K 2 Be)) {bX:Addr} {bY:FuncData} (aN:Def K mg "_law_turning" x4 ["_law_feed_here","_law_n"] bX bY) (bZ:ay P w K mg base bj 2 bX bY ["_law_feed_here","_law_n"] (br K 2 qu)) {fP:Addr} {fQ:FuncData} (du:Def K mg "_law_right" BX ["_law_floor_here","_law_word_here","_law_other","_law_p"] fP fQ) (iH:ay P w K mg base bj 8 fP fQ ["_law_floor_here","_law_word_here","_law_other","_law_p"] (br K 4 BW)):ay P w K mg base bj 9 f fd ["_law_script"] (br K 1 GI):=by
 refine D.F.ok tN (fun vs H Q E h=>h.1) (fun cdv A outer s H vs Q E hr h=>?_)
 have hu:=hr.units
 have hu1:=gf hr
 refine ⟨_,(@bE _ _ _ _ _ (@mL _ _ _ _ _ _ _ _ PassesOwn.never rfl (qf rfl T.bG (@aq _ _ _ _ _ (lS (Lx rfl) (by rfl) T.A5 uJ (@aq _ _ _ _ _ aO (@aq _ _ _ _ _ (lS mO (by rfl) T.d4 mP (@aq _ _ _ _ _ (yX HR (pv 0) yV (yW aO)) az (by rfl))) az (by rfl)) (by rfl))) az (by rfl))) (jK (i:=1) tN.nd rfl (by first | exact Or.inl rfl | exact Or.inr rfl)) (@bE _ _ _ _ _ (@cP (i:=2) _ _ _ _ _ _ tN.nd rfl (by first | exact Or.inl rfl | exact Or.inr rfl) (bT jy (hr.mono (by decide)) rfl dN.m dN.F.kp dN.b .nil ax (@aq _ _ _ _ _ (pv 0) (@aq _ _ _ _ _ (pv 1) az (by rfl)) (by rfl))) (by rfl) (by first | exact .inl rfl | exact .inr rfl | assumption))
  (@bE _ _ _ _ _ (@cP (i:=3) _ _ _ _ _ _ tN.nd rfl (by first | exact Or.inl rfl | exact Or.inr rfl) (bT fW (hr.mono (by decide)) rfl cF.m cF.F.kp cF.b .nil ax (@aq _ _ _ _ _ (pv 2) az (by rfl))) (by rfl) (by first | exact .inl rfl | exact .inr rfl | assumption))
  (@bE _ _ _ _ _ (@cP (i:=4) _ _ _ _ _ _ tN.nd rfl (by first | exact Or.inl rfl | exact Or.inr rfl) (bT dG (hr.mono (by decide)) rfl bI.m bI.F.kp bI.b .nil ax (@aq _ _ _ _ _ (pv 2) (@aq _ _ _ _ _ aO (@aq _ _ _ _ _ aO az (by rfl)) (by rfl)) (by rfl))) (by rfl) (by first | exact .inl rfl | exact .inr rfl | assumption))
  (@bE _ _ _ _ _ (@cP (i:=5) _ _ _ _ _ _ tN.nd rfl (by first | exact Or.inl rfl | exact Or.inr rfl) (bT aK (hr.mono (by decide)) rfl aj.m aj.F.kp aj.b .nil ax (@aq _ _ _ _ _ (pv 2) (@aq _ _ _ _ _ (bP kH (lS mO (by rfl) T.d4 mP (@aq _ _ _ _ _ (pv 4) az (by rfl))) aO) az (by rfl)) (by rfl))) (by rfl) (by first | exact .inl rfl | exact .inr rfl | assumption))
  (@bE _ _ _ _ _ (@cP (i:=6) _ _ _ _ _ _ tN.nd rfl (by first | exact Or.inl rfl | exact Or.inr rfl) (bT iG (hr.mono (by decide)) rfl dr.m dr.F.kp dr.b .nil ax (@aq _ _ _ _ _ (pv 2) (@aq _ _ _ _ _ (bP kH aO (bT aK (hr.mono (by decide)) rfl aj.m aj.F.kp aj.b .nil ax (@aq _ _ _ _ _ (pv 2) (@aq _ _ _ _ _ aO az (by rfl)) (by rfl)))) az (by rfl)) (by rfl))) (by rfl) (by first | exact .inl rfl | exact .inr rfl | assumption))
  (@bE _ _ _ _ _ (@cP (i:=7) _ _ _ _ _ _ tN.nd rfl (by first | exact Or.inl rfl | exact Or.inr rfl) (bT bZ (hr.mono (by decide)) rfl aN.m aN.F.kp aN.b .nil ax (@aq _ _ _ _ _ (pv 2) (@aq _ _ _ _ _ (lS mO (by rfl) T.d4 mP (@aq _ _ _ _ _ (@b8 _ _ _ _ _ _ _ cM (pv 6) aO (fun _ _=>rfl)) az (by rfl))) az (by rfl)) (by rfl))) (by rfl) (by first | exact .inl rfl | exact .inr rfl | assumption))
  (@bN _ _ _ (@j6 _ _ _ _ _ _ _ _ (Hl (Hj (bT iH (hr.mono (by decide)) rfl du.m du.F.kp du.b .nil ax (@aq _ _ _ _ _ (pv 6) (@aq _ _ _ _ _ (pv 4) (@aq _ _ _ _ _ (bP pj (bP pj (yX E1 (pv 4) yV (yW (pv 5))) (pv 3)) (yX E1 (pv 4) (yW (pv 5)) yV)) (@aq _ _ _ _ _ (pv 7) az (by rfl)) (by rfl)) (by rfl)) (by rfl))))) (@bN _ _ _ (@dZ _ _ _ _ xw)) kR)))))))) (by intro _;rfl))
  (@bN _ _ _ (@dZ _ _ _ _ xw))),?_⟩
 exact gn (b:=Eb) (bF (mZ (qr (au (dD Ob (au (aP _) (au (dD mW (au (Ag JX (ao 0) Ae (Af (aP _))) aB)) aB))) aB)) (bC 1) (bF (ck (bU (F:=A7) (au (ao 0) (au (ao 1) aB)) (aY (aY (fun _ _ _ _ h=>bW h)))) (bC 2))
  (bF (ck (bU (F:=Ba) (au (ao 2) aB) (aY (fun _ _ _ _ h=>bW h))) (bC 3))
  (bF (ck (bU (F:=tJ) (au (ao 2) (au (aP _) (au (aP _) aB))) (aY (aY (aY (fun _ _ _ _ h=>bW h))))) (bC 4))
  (bF (ck (bU (F:=jS) (au (ao 2) (au (aD kL (dD mW (au (ao 4) aB)) (aP _)) aB)) (aY (aY (fun _ _ _ _ h=>bW h)))) (bC 5))
  (bF (ck (bU (F:=Be) (au (ao 2) (au (aD kL (aP _) (bU (F:=jS) (au (ao 2) (au (aP _) aB)) (aY (aY (fun _ _ _ _ h=>bW h))))) aB)) (aY (aY (fun _ _ _ _ h=>bW h)))) (bC 6))
  (bF (ck (bU (F:=qu) (au (ao 2) (au (dD mW (au (aD cO (ao 6) (aP _)) aB)) aB)) (aY (aY (fun _ _ _ _ h=>bW h)))) (bC 7))
  (ki (JU (F3 (bU (F:=BW) (au (ao 6) (au (ao 4) (au (aD pS (aD pS (Ag F7 (ao 4) Ae (Af (ao 5))) (ao 3)) (Ag F7 (ao 4) (Af (ao 5)) Ae)) (au (ao 7) aB)))) (aY (aY (aY (aY (fun _ _ _ _ h=>bW h)))))))) (d0 (xM _)) kU))))))))
  (d0 (xM _))) rfl h
end
theorem qa {st:Store} {f:Nat} {n:Int} (hf:bx st f) (h0:0 < n) (h1:n < 1073741824):Wp (jS [.ref f,.int n] st) fun d st'=>∃ k:Int,d=.int k/\0<=k/\k < n/\bx st' f/\Ex [f] st st':=by
 obtain ⟨o,m,e,o0,m0,m1⟩:=hf
 have hfl:=jf e
 refine gp ?_
 show Ws (Dj [some (.ref f),some (.int n),none,none] st) _ _ _ _
 unfold Dj
 refine bD (jP ?_)
 set_option simprocs false in simp only [c6,fz e,lW e]
 refine ⟨fun ho=>?_,fun ho=>?_⟩
 ·refine bD (cI ?_)
  set_option simprocs false in simp only [c6,fz e]
  refine ⟨h0,bD (wg ?_)⟩
  set_option simprocs false in simp only [c6,fz e,lW e,(show kI [D.int o,D.int m].length 0=some 0 from AY)]
  refine ⟨⟨h0,h1⟩,eB ?_⟩
  w_how
  refine ⟨Int.emod_nonneg _ (by omega),Int.emod_lt_of_pos _ h0,⟨o / n,m,?_,Int.ediv_nonneg o0 (by omega),m0,m1⟩,Ex.refl.put (by simp)⟩
  rw [List.getElem?_set_self hfl]
 ·refine kW (bD (cI ?_))
  set_option simprocs false in simp only [c6,fz e]
  refine ⟨by omega,by omega,bD (wg ?_)⟩
  set_option simprocs false in simp only [c6,fz e,lW e,(show kI [D.int o,D.int m].length 1=some 1 from AZ)]
  refine ⟨by omega,by omega,eB ?_⟩
  have e2:(st.set f (.lst [.int o,.int ((m * 48271 % 2147483647 * 40692 + 30103) % 2147483399 + 1)]))[f]?=some (.lst [.int o,.int ((m * 48271 % 2147483647 * 40692 + 30103) % 2147483399 + 1)]):=List.getElem?_set_self hfl
  set_option simprocs false in simp only [c6,fz e2]
  refine ⟨by omega,by omega,h0,Int.emod_nonneg _ (by omega),Int.emod_lt_of_pos _ h0,⟨_,_,e2,o0,by omega,by omega⟩,Ex.refl.put (by simp)⟩
theorem Q0 {st:Store} {a:Nat} {ns:List Int} {k:Nat} (hs:items st a=some (ns.map D.int)) (hk:k<=100):Wp (A7 [.ref a,.int (k:Int)] st) fun d st'=>d=.ref st.length/\bx st' st.length/\Ex [] st st':=by
 refine gp ?_
 show Ws (Di [some (.ref a),some (.int (k:Int)),none,none] st) _ _ _ _
 unfold Di
 refine bD (cI ?_)
 w_how
 refine ⟨by omega,bD (xV (N:=fun δ st1=>st1=st/\∃ c:Int,δ=[some (.ref a),some (.int (k:Int)),some (.int c),none]) (jP ?_) ?_)⟩
 ·set_option simprocs false in simp only [c6,hs]
  refine ⟨fun h=>cI ?_,fun h=>jP ?_⟩
  ·have h:=of_decide_eq_true h
   rw [List.length_map] at h
   set_option simprocs false in simp only [c6,hs]
   refine ⟨.int (ns[k]'(by omega)),y2 (by rw [List.getElem?_map,List.getElem?_eq_getElem];rfl),_,rfl⟩
  ·set_option simprocs false in simp only [c6,hs]
   refine ⟨fun h=>cI ?_,fun h=>kW ⟨rfl,_,rfl⟩⟩
   have h:=of_decide_eq_true h
   obtain ⟨v,hv,hm⟩:=uN (xs:=ns.map D.int) (i:=(k:Int) % ((ns.map D.int).length:Int)) (Int.emod_nonneg _ (by omega)) (Int.emod_lt_of_pos _ h)
   obtain ⟨c,_,rfl⟩:=List.mem_map.mp hm
   set_option simprocs false in simp only [c6,hs]
   refine ⟨h,_,hv,?_⟩
   w_how
   exact ⟨by omega,by omega,by omega,_,rfl⟩
 ·rintro δ st1 ⟨rfl,c,rfl⟩
  refine bD (cI ?_)
  w_how
  refine bD (xV (N:=fun δ st2=>st2=st1/\∃ o:Int,0<=o/\δ=[some (.ref a),some (.int (k:Int)),some (.int c),some (.int o)]) (jP ?_) ?_)
  ·w_how
   refine ⟨by decide,fun h=>cI ?_,fun h=>kW ⟨rfl,0,by decide,rfl⟩⟩
   have h:=of_decide_eq_true h
   w_how
   exact ⟨c,Int.le_trans (by decide) h,rfl⟩
  ·rintro δ st2 ⟨rfl,o,o0,rfl⟩
   refine eB ?_
   w_how
   have h1:0<=c % 2147483629:=Int.emod_nonneg _ (by decide)
   have h2:c % 2147483629 < 2147483629:=Int.emod_lt_of_pos _ (by decide)
   refine ⟨by omega,by omega,by omega,by omega,by omega,by rfl,⟨_,_,j5,o0,?_,?_⟩,Ex.cm _⟩
   ·have:=Int.emod_nonneg ((c % 2147483629 * 48271 + 40692 * (k:Int)) ^ (5:Int).toNat) (show (2147483629:Int)≠0 by decide)
    omega
   ·have:=Int.emod_lt_of_pos ((c % 2147483629 * 48271 + 40692 * (k:Int)) ^ (5:Int).toNat) (show (0:Int) < 2147483629 by decide)
    omega
theorem GJ {st:Store} {f:Nat} {n:Nat} (hf:bx st f) (hn:n<=100):Wp (qu [.ref f,.int (n:Int)] st) fun d st'=>∃ xs:List Int,d=.tup (xs.map D.int)/\af.Tn n xs/\bx st' f/\Ex [f] st st':=by
 have hfl:=hf.lt
 refine gp ?_
 show Ws (Dr [some (.ref f),some (.int (n:Int)),none,none] st) _ _ _ _
 unfold Dr
 refine bD (cI ?_)
 w_how
 have e1:((n:Int) - 0).toNat=n:=by omega
 rw [e1,A0]
 refine ⟨by unfold oQ;rw [Bool.and_eq_true,decide_eq_true_eq];exact ⟨by omega,jQ (by omega)⟩,bD (cI ?_)⟩
 w_how
 refine ⟨rfl,bD (AG (fun m δ st2=>∃ L xs:List Int,m=L.length/\δ=[some (.ref f),some (.int (n:Int)),some (.ref (st ++ [O.il 0 (n:Int)]).length),some (.tup (xs.map D.int))]/\st2[(st ++ [O.il 0 (n:Int)]).length]?=some (.lst (L.map D.int))/\(xs ++ L).Perm (af.upto n)/\bx st2 f/\Ex [f] st st2) n (Nat.lt_of_le_of_lt hn (by decide)) ⟨af.upto n,[],(af.n4 n).symm,rfl,j5,List.Perm.refl _,hf.keep ((Ex.cm _).app _),(Ex.cm _).app _⟩ ?_)⟩
 have hl:(st ++ [O.il 0 (n:Int)]).length≠f:=by rw [List.length_append];omega
 have hls:st.length<=(st ++ [O.il 0 (n:Int)]).length:=by rw [List.length_append];omega
 generalize (st ++ [O.il 0 (n:Int)]).length=l at hl hls ⊢
 rintro m δ st2 ⟨L,xs,rfl,rfl,hL,pm,hf2,k2⟩
 have hlen:(xs ++ L).length=n:=by rw [pm.length_eq,af.n4]
 rw [List.length_append] at hlen
 refine de ?_
 intro eh hQ
 set_option simprocs false in simp only [c6,Ke (L:=L) (M:=[]) (st:=st2 ++ [O.lst []]) (fz (lO hL)) tu]
 refine ⟨rfl,hQ _ _ ⟨fun h=>?_,fun h=>?_⟩⟩
 ·have hne:L≠[]:=by simpa using h
  have hpos:0 < L.length:=List.length_pos_iff.mpr hne
  have Ed:(st2 ++ [O.lst []])[l]?=some (.lst (L.map D.int)):=lO hL
  have f3:bx (st2 ++ [O.lst []]) f:=hf2.keep (Ex.cm _)
  have k3:Ex [f] st (st2 ++ [O.lst []]):=k2.app _
  generalize (st2 ++ [O.lst []])=st3 at Ed f3 k3 ⊢
  refine cI ?_
  refine de ?_
  intro eh hQ
  set_option simprocs false in simp only [c6,fz Ed]
  refine ⟨tw (by rw [fz Ed];rfl),?_⟩
  refine a7 (qa (n:=((L.map D.int).length:Int)) f3 (by rw [List.length_map];omega) (by rw [List.length_map];omega)) ?_
  rintro d kO ⟨k,rfl,k0,k1,f4,k4⟩
  rw [List.length_map] at k1
  have Ky:=k4.keep _ _ Ed (by simpa using hl)
  have pK:k.toNat < L.length:=by omega
  set_option simprocs false in simp only [c6,lW Ky]
  have hk':((k.toNat:Nat):Int)=k:=Int.toNat_of_nonneg k0
  refine ⟨by omega,k.toNat,?_,D.int L[k.toNat],by rw [List.getElem?_map,List.getElem?_eq_getElem pK];rfl,rfl,jQ ?_,hQ _ _ ⟨(L.eraseIdx k.toNat).length,?_,L.eraseIdx k.toNat,xs ++ [L[k.toNat]],rfl,?_,?_,?_,?_,?_⟩⟩
  ·rw [<- hk',Int.toNat_natCast]
   exact (EM (zg (by rw [List.length_map];exact pK))).1
  ·simp only [List.length_map,List.length_cons,List.length_nil];omega
  ·rw [List.length_eraseIdx,if_pos pK];omega
  ·rw [List.map_append];rfl
  ·rw [List.getElem?_set_self (jf Ky),Pg]
  ·refine List.Perm.trans ?_ pm
   rw [List.append_assoc]
   exact List.Perm.append_left xs (Ph pK)
  ·exact f4.ne hl
  ·exact (k3.trans k4).loc hls
 ·have he:L=[]:=by simpa using h
  subst he
  refine eB ?_
  kspl_open hQ
  exact hQ _ _ ⟨xs,rfl,by simpa [af.Tn] using pm,hf2.keep (Ex.cm _),k2.app _⟩
theorem Q5 {st:Store} {xs ys:List Int} {n:Nat} (tx:af.Tn n xs) (ty:af.Tn n ys) (n0:0 < n) (hn:n<=100):Wp (rB [cY xs ys] st) fun d st'=>∃ (g:Nat) (F:List Int),d=.ref g/\items st' g=some (F.map D.int)/\(∀ x,x∈F↔af.ig xs ys x)/\F.length<=n/\af.Od xs ys F/\Ex [] st st':=by
 have hlx:=tx.length
 have GK:=ty.length
 refine gp ?_
 show Ws (Dt [some (cY xs ys),none,none,none,none] st) _ _ _ _
 unfold Dt
 refine bD (cI ?_)
 kspl_open hQ
 refine ⟨rfl,hQ _ _ (bD (ny (aI 0 (n + 1)) (fun i δ st2=>∃ (v2 v3 v4:Option D) (F:List Int),δ=[some (cY xs ys),some (.ref st.length),v2,v3,v4]/\st2[st.length]?=some (.lst (F.map D.int))/\af.Fo xs ys F/\(af.Cl xs ys F\/i + 1<=F.length)/\Ex [] st st2) ?_ ?_ ?_ ?_))⟩
 ·unfold cY
  kspl_open hQ
  have e0:((1:Int) + ((xs.map D.int).length:Int)).toNat=n + 1:=by rw [List.length_map];omega
  refine ⟨by rw [List.length_map];omega,hQ _ _ ⟨by rw [e0],none,none,none,[0],rfl,j5,af.Fo.one xs ys,.inr (Nat.le_refl _),Ex.cm _⟩⟩
 ·rw [jl];omega
 ·rintro i d δ st2 hd ⟨v2,v3,v4,F,rfl,GL,hF,hcl,k2⟩
  kspl_open hQ
  refine hQ _ _ (ny [.tup (xs.map D.int),.tup (ys.map D.int)] (fun m δ st3=>∃ (v3 v4:Option D) (G:List Int),δ=[some (cY xs ys),some (.ref st.length),some d,v3,v4]/\st3[st.length]?=some (.lst (G.map D.int))/\af.Fo xs ys G /\
    (m=0->G=F)/\(m=1->F <+: G/\∀ x∈F,af.app xs x∈G)/\(2<=m->∃ F1,F <+: F1/\F1 <+: G/\(∀ x∈F,af.app xs x∈F1)/\∀ x∈F1,af.app ys x∈G)/\Ex [] st st3) ?_ (by simp) ?_ ?_)
  ·unfold cY
   kspl_open hQ
   exact hQ _ _ ⟨rfl,v3,v4,F,rfl,GL,hF,fun _=>rfl,fun z=>by omega,fun z=>by omega,k2⟩
  ·rintro m z δ st3 hm ⟨v3,v4,G,rfl,BZ,hG,m0,m1,_,k3⟩
   have hm2:m < 2:=jf hm
   obtain ⟨zs,rfl,hz,em⟩:∃ (zs:List Int),z=.tup (zs.map D.int)/\(zs=xs\/zs=ys)/\((m=0/\zs=xs)\/(m=1/\zs=ys)):=by
    rcases (show m=0\/m=1 by omega) with rfl | rfl
    ·exact ⟨xs,by simpa using hm.symm,.inl rfl,.inl ⟨rfl,rfl⟩⟩
    ·exact ⟨ys,by simpa using hm.symm,.inr rfl,.inr ⟨rfl,rfl⟩⟩
   have tz:af.Tn n zs:=by rcases hz with rfl | rfl;exact tx;exact ty
   have Q6:=tz.length
   have go:∀ x,af.ig xs ys x->af.ig xs ys (af.app zs x):=fun x h=>by rcases hz with rfl | rfl;exact h.r;exact h.u
   kspl_open hQ
   refine hQ _ _ (OH (G.map D.int) st3.length (fun j δ kO=>∃ (v4:Option D) (G':List Int),δ=[some (cY xs ys),some (.ref st.length),some d,some (.tup (zs.map D.int)),v4]/\kO[st.length]?=some (.lst (G'.map D.int))/\kO[st3.length]?=some (.lst (G.map D.int))/\af.Fo xs ys G'/\G <+: G'/\(∀ i',i' < j->∀ x,G[i']?=some x->af.app zs x∈G')/\Ex [] st kO) ?_ ?_ ?_ ?_ ?_)
   ·refine de ?_
    intro eh hQ
    set_option simprocs false in simp only [c6,fz BZ]
    exact hQ _ _ ⟨rfl,v4,G,rfl,lO BZ,j5,hG,List.prefix_refl _,fun i' h=>absurd h (Nat.not_lt_zero _),k3.app _⟩
   ·rw [List.length_map]
    have:=hG.len tx ty n0
    omega
   ·rintro j δ kO ⟨_,_,_,_,h,_⟩
    exact fz h
   ·rintro j Sq δ kO hj0 ⟨v4,G',rfl,xa,rC,xb,pG,hd',k4⟩
    obtain ⟨y,hj,rfl⟩:=De hj0
    have hjl:=jf hj
    have hR:=hG.mt _ (List.mem_of_getElem? hj)
    obtain ⟨y0,y1⟩:=hR.bound tx ty n0
    have at':=wM (xs:=zs) y0 (by rw [Q6];exact y1)
    have hnext:∀ Ee:List Int,G' <+: Ee->af.app zs y∈Ee->∀ i',i' < j + 1->∀ x,G[i']?=some x->af.app zs x∈Ee:=fun Ee p h i' hi' x hx=>by
     by_cases e:i'=j
     ·subst e
      rw [hj] at hx
      cases hx;exact h
     ·exact p.subset (hd' i' (by omega) x hx)
    kspl_open hQ
    refine hQ _ _ (jP ?_)
    refine de ?_
    intro lQ dC
    set_option simprocs false in simp only [c6,at',Gp (st:=kO) (c:=.ref st.length) (ns:=G') (fz xa)]
    refine dC _ _ ⟨fun hcn=>?_,fun hcn=>?_⟩
    ·have hnm:af.app zs y ∉ G':=fun z=>by rw [List.contains_iff_mem.mpr z] at hcn;cases hcn
     have Kz:af.Fo xs ys (G' ++ [af.app zs y]):=by
      refine ⟨⟨List.mem_append_left _ xb.z,?_,fun x hx=>?_⟩,xb.od.snoc (pG.subset (List.mem_of_getElem? hj)) (hz.imp (fun e=>by rw [e]) fun e=>by rw [e])⟩
      ·rw [List.nodup_append]
       refine ⟨xb.nd,by simp,fun x hx y' hy e=>hnm ?_⟩
       have e2:y'=af.app zs y:=by simpa using hy
       rw [<- e2,<- e];exact hx
      ·rcases List.mem_append.mp hx with h | h
       ·exact xb.mt x h
       ·have e2:x=af.app zs y:=by simpa using h
        rw [e2];exact go _ hR
     have hlen2:=Kz.len tx ty n0
     rw [List.length_append] at hlen2
     refine wj ?_
     refine de ?_
     intro GN xc
     set_option simprocs false in simp only [c6,at',lW xa]
     refine ⟨tw (by rw [fz xa];rfl),jQ (by rw [List.length_map];simp at hlen2;omega),xc _ _ ⟨_,G' ++ [af.app zs y],rfl,?_,?_,Kz,pG.trans (List.prefix_append _ _),hnext _ (List.prefix_append _ _) (by simp),k4.loc (Nat.le_refl _)⟩⟩
     ·rw [List.getElem?_set_self (jf xa),List.map_append];rfl
     ·rw [List.getElem?_set_ne (by have:=jf BZ;omega)];exact rC
    ·have hcn:G'.contains (af.app zs y)=true:=by simpa using hcn
     exact kW ⟨_,G',rfl,xa,rC,xb,pG,hnext G' (List.prefix_refl _) (List.contains_iff_mem.mp hcn),k4⟩
   ·rintro δ kO ⟨v4,G',rfl,xa,rC,xb,pG,hd',k4⟩
    rw [List.length_map] at hd'
    have hall:∀ x∈G,af.app zs x∈G':=fun x hx=>by
     obtain ⟨i',hi',e⟩:=List.getElem_of_mem hx
     exact hd' i' hi' x (by rw [List.getElem?_eq_getElem hi',e])
    refine ⟨_,_,G',rfl,xa,xb,fun z=>by omega,fun z=>?_,fun z=>?_,k4⟩
    ·rcases em with ⟨rfl,rfl⟩ | ⟨rfl,_⟩
     ·have:=m0 rfl
      subst this
      exact ⟨pG,hall⟩
     ·omega
    ·rcases em with ⟨rfl,_⟩ | ⟨rfl,rfl⟩
     ·omega
     ·obtain ⟨p1,c1⟩:=m1 rfl
      exact ⟨G,p1,pG,c1,hall⟩
  ·rintro δ st3 ⟨v3,v4,G,rfl,BZ,hG,_,_,m2,k3⟩
   obtain ⟨F1,p1,p2,c1,c2⟩:=m2 (Nat.le_refl 2)
   exact ⟨_,_,_,G,rfl,BZ,hG,af.round hF.toFd hG.toFd p1 p2 c1 c2 hcl,k3⟩
 ·rintro δ st2 ⟨v2,v3,v4,F,rfl,GL,hF,hcl,k2⟩
  rw [jl] at hcl
  have hl:=hF.len tx ty n0
  have hc:af.Cl xs ys F:=hcl.resolve_right (by omega)
  refine eB ?_
  kspl_open hQ
  exact hQ _ _ ⟨_,F,rfl,fz GL,fun x=>⟨hF.mt x,fun h=>hc.all hF.z h⟩,hl,hF.od,k2⟩
theorem Q7 {st:Store} {xs ys:List Int} {n:Nat} (tx:af.Tn n xs) (ty:af.Tn n ys) (n0:0 < n) (hn:n<=100):Wp (rB [cY xs ys] st) fun d st'=>∃ (g:Nat) (F:List Int),d=.ref g/\items st' g=some (F.map D.int)/\(∀ x,x∈F↔af.ig xs ys x)/\F.length<=n/\Ex [] st st' :=
 a7 (Q5 tx ty n0 hn) fun d st' ⟨g,F,h1,h2,h3,h4,_,h5⟩=>⟨g,F,h1,h2,h3,h4,h5⟩
theorem KA {st:Store} {δ:ai} {X Y:List Int} {n:Nat} {Q:D->Store->Prop} (tX:af.Tn n X) (tY:af.Tn n Y) (n0:0 < n) (hn:n<=100) (h1:δ[1]?=some (some (.int (n:Int)))) (h6:δ[6]?=some (some (cY X Y)))
  (q:∀ (L:List Int) (st':Store),L.length<=n->L.Nodup->(∀ x,x∈L↔(0<=x/\x < (n:Int)/\¬ af.ig X Y x))->Ex [] st st'->Q (.ref st'.length) (st' ++ [.lst (L.map D.int)])) :
  Wp (e8 (dz (ae (ag 1) ah)) 1 [6] (hName 0) (aT (aC (pW true) (ag 0) (aX rB (ae (ag 1) ah)))) (ag 0) δ st) Q:=by
 have Q8:δ.getD 6 none=some (cY X Y):=by rw [List.getD_eq_getElem?_getD,h6];rfl
 refine AH (aI 0 n) (fun j zs δ' d9=>∃ (v:Option D) (L:List Int),δ'=[v,some (cY X Y)]/\zs=L.map D.int/\L.length<=j/\L.Nodup/\(∀ x,x∈L↔(0<=x/\x < (j:Int)/\¬ af.ig X Y x))/\Ex [] st d9) ?_ (by rw [jl];omega) ?_ ?_ ?_
 ·refine de ?_
  intro eh hQ
  set_option simprocs false in simp only [c6,h1]
  refine ⟨by omega,hQ _ _ ⟨fun i ys δ st hi _=>?_,none,[],?_,rfl,Nat.le_refl _,List.nodup_nil,fun x=>⟨(fun h=>nomatch h),fun h=>by omega⟩,Ex.refl⟩⟩
  ·rw [Int.toNat_natCast]
   show (if i<=(aI 0 n).length then some (aI 0 n)[i]? else none)=_
   rw [if_pos hi]
  ·unfold nc
   simp only [List.map_cons,List.map_nil,Q8]
   rfl
 ·rintro j zs δ' d9 ⟨v,L,_,rfl,hl,_⟩
  rw [List.length_map];exact hl
 ·rintro j d zs δ' d9 hd ⟨v,L,rfl,rfl,tO,nd,hL,k8⟩
  have hjl:=jf hd
  rw [jl] at hjl
  rw [Ar hjl] at hd
  cases hd
  rw [Int.zero_add]
  kspl_open hQ
  refine hQ _ _ ?_
  kspl_open dC
  refine a7 (Q7 (st:=d9) tX tY n0 hn) ?_
  rintro d lV ⟨g,F,rfl,hg,hF,Sr,k9⟩
  rw [Gp (c:=.ref g) (ns:=F) hg]
  refine ⟨_,rfl,dC _ _ ⟨fun hc=>?_,fun hc=>?_⟩⟩
  ·have hR:¬ af.ig X Y (j:Int):=fun h=>by rw [List.contains_iff_mem.mpr ((hF _).mpr h)] at hc;cases hc
   kspl_open xc
   refine xc _ _ ⟨_,L ++ [(j:Int)],rfl,by rw [List.map_append];rfl,by rw [List.length_append];simp;omega,?_,fun x=>?_,k8.trans k9⟩
   ·rw [List.nodup_append]
    refine ⟨nd,by simp,fun x hx y hy e=>?_⟩
    have e2:y=(j:Int):=by simpa using hy
    have:=((hL x).mp hx).2.1
    omega
   ·rw [List.mem_append,hL x]
    constructor
    ·rintro (⟨a1,a2,a3⟩ | h)
     ·exact ⟨a1,by omega,a3⟩
     ·have e2:x=(j:Int):=by simpa using h
      rw [e2];exact ⟨by omega,by omega,hR⟩
    ·rintro ⟨a1,a2,a3⟩
     rcases Int.lt_or_le x (j:Int) with h | h
     ·exact .inl ⟨a1,h,a3⟩
     ·exact .inr (by simp;omega)
  ·have hc:F.contains (j:Int)=true:=by simpa using hc
   have hR:=(hF _).mp (List.contains_iff_mem.mp hc)
   refine ⟨_,L,rfl,rfl,by omega,nd,fun x=>?_,k8.trans k9⟩
   rw [hL x]
   constructor
   ·rintro ⟨a1,a2,a3⟩;exact ⟨a1,by omega,a3⟩
   ·rintro ⟨a1,a2,a3⟩
    refine ⟨a1,?_,a3⟩
    rcases Int.lt_or_le x (j:Int) with h | h
    ·exact h
    ·exact absurd hR (by rw [show (j:Int)=x by omega];exact a3)
 ·rintro zs δ' d9 ⟨v,L,rfl,rfl,tO,nd,hL,k8⟩
  rw [jl] at tO hL
  exact q L d9 tO nd hL k8
theorem Q9 {st:Store} {f n:Nat} (hf:bx st f) (n1:1<=n) (Ra:n<=20):Wp (Be [.ref f,.int (n:Int)] st) fun d st'=>∃ xs ys:List Int,d=cY xs ys/\kN n xs ys/\bx st' f/\Ex [f] st st':=by
 have hfl:=hf.lt
 refine gp ?_
 show Ws (Du [some (.ref f),some (.int (n:Int)),none,none,none,none,none,none,none] st) _ _ _ _
 unfold Du
 refine bD (cI ?_)
 kspl_open hQ
 refine a7 (qa (n:=6) hf (by decide) (by decide)) ?_
 rintro d st1 ⟨form,rfl,g0,g6,f1,k1⟩
 refine hQ _ _ (bD (J7 ?_))
 clear hQ
 kspl_open hQ
 refine a7 (GJ (n:=n) f1 (by omega)) ?_
 rintro d st2 ⟨X,rfl,tX,f2,k2⟩
 w_how
 refine a7 (GJ (n:=n) (f2.keep (Ex.cm [.lst (X.map D.int)])) (by omega)) ?_
 rintro d st3 ⟨Y,rfl,tY,f3,k3⟩
 w_how
 refine hQ _ _ ⟨_,_,rfl,?_⟩
 clear hQ
 have B0:st3[st2.length]?=some (.lst (X.map D.int)):=k3.keep _ _ j5 (by have:=f2.lt;simp;omega)
 have two:mr st (st3 ++ [.lst (Y.map D.int)]) f st2.length st3.length n X Y:=⟨lO B0,j5,by have:=jf B0;omega,(k1.trans k2).len,((k1.trans k2).trans ((Ex.cm _).trans k3)).len,tX,tY,f3.keep (Ex.cm _),(((k1.trans k2).app _).trans k3).app _⟩
 show Ws _ _ _ _ _
 generalize (st3 ++ [O.lst (Y.map D.int)])=kO at two ⊢
 generalize st2.length=r at two ⊢
 generalize st3.length=u at two ⊢
 clear B0 tX tY f3 k3 f2 k2 f1 k1
 refine bD (xV (N:=fun δ iq=>∃ (r u:Nat) (X Y:List Int),δ=[some (.ref f),some (.int (n:Int)),some (.int form),some (.ref r),some (.ref u),none,none,none,none]/\mr st iq f r u n X Y) (jP ?_) ?_)
 ·kspl_open hQ
  refine hQ _ _ ⟨fun _=>cI ?_,fun _=>kW ⟨r,u,X,Y,rfl,two⟩⟩
  kspl_open dC
  rw [<- Kf]
  refine ⟨tG (by omega),rfl,jQ (by rw [jl];simp;omega),dC _ _ ⟨_,u,_,Y,rfl,(two.keep (((Ex.cm _).app _).app _)).wN (af.Jp (show n < 21 by omega) (by omega))⟩⟩
 rintro δ iq ⟨r,u,X,Y,rfl,two⟩
 refine bD (xV (N:=fun δ iq=>∃ (r u:Nat) (X Y:List Int),δ=[some (.ref f),some (.int (n:Int)),some (.int form),some (.ref r),some (.ref u),none,none,none,none]/\mr st iq f r u n X Y) (jP ?_) ?_)
 ·kspl_open hQ
  refine hQ _ _ ⟨fun _=>J7 ?_,fun _=>kW ⟨r,u,X,Y,rfl,two⟩⟩
  kspl_open dC
  rw [<- Kf,show ((n:Int) - 0).toNat=n by omega,A0]
  refine ⟨tG (by omega),tG (by omega),rfl,jQ (by rw [jl];simp;omega),dC _ _ ⟨_,_,rfl,_,_,_,_,rfl,(((two.keep (Ex.cm [.il 0 (n:Int)])).wN (Z:=af.upto n) (List.Perm.refl _)).keep (((Ex.cm _).app _).app _)).wO (af.Jp (show n < 21 by omega) (by omega))⟩⟩
 rintro δ xT ⟨r,u,X,Y,rfl,two⟩
 refine bD (xV (N:=fun δ iq=>∃ (r u:Nat) (v5:Option D) (X Y:List Int),δ=[some (.ref f),some (.int (n:Int)),some (.int form),some (.ref r),some (.ref u),v5,none,none,none]/\mr st iq f r u n X Y) (jP ?_) ?_)
 ·kspl_open hQ
  refine hQ _ _ ⟨fun _=>bD (cI ?_),fun _=>kW ⟨r,u,none,X,Y,rfl,two⟩⟩
  kspl_open dC
  refine a7 (qa (n:=(n:Int)) two.fd (by omega) (by omega)) ?_
  rintro d qk ⟨w,rfl,w0,w1,f7,k7⟩
  obtain ⟨wd,rfl⟩:∃ wd:Nat,w=(wd:Int) - 1:=⟨(w + 1).toNat,by omega⟩
  have t7:mr st qk f r u n X Y:=⟨k7.keep _ _ two.hr (by have:=two.r0;simp;omega),k7.keep _ _ two.hu (by have:=two.u0;simp;omega),two.ne,two.r0,two.u0,two.tX,two.tY,f7,two.ex.trans k7⟩
  w_how
  rw [show (1:Int) + ((wd:Int) - 1)=(wd:Int) by omega]
  refine dC _ _ (bD (cI ?_))
  clear dC hQ
  kspl_open dC
  rw [<- wR]
  refine ⟨tG (by omega),rfl,jQ (by rw [jl];simp;omega),tG (by omega),jQ (by rw [List.length_append,jl,jl];simp;omega),dC _ _ (bD (cI ?_))⟩
  clear dC
  have t8:=(t7.keep ((((((Ex.cm [.il 1 (wd:Int)]).app [.lst (aI 1 ((wd:Int) - 1).toNat)]).app [.lst [.int 0]]).app [.lst (aI 1 ((wd:Int) - 1).toNat ++ [.int 0])]).app [.il (wd:Int) (n:Int)]).app [.lst (aI (wd:Int) ((n:Int) - (wd:Int)).toNat)])).wN (af.Nu (w:=wd) (show n < 21 by omega) (by omega) (by omega))
  generalize Rb:(qk ++ _ ++ _ ++ _ ++ _ ++ _ ++ _ ++ _:Store)=d9 at t8 ⊢
  generalize List.length _=r8 at t8 ⊢
  kspl_open dC
  refine ⟨rfl,tG (by omega),jQ (by simp [jl];omega),tG (by omega),jQ (by simp [jl];omega),rfl,jQ (by simp [jl];omega),dC _ _ (jP ?_)⟩
  clear dC
  generalize Rc:(d9 ++ _ ++ _ ++ _ ++ _ ++ _ ++ _ ++ _ ++ _ ++ _:Store)=Ef
  have tE:mr st Ef f r8 u n (af.pE wd n) Y:=by rw [<- Rc];exact t8.keep (((((((((Ex.cm _).app _).app _).app _).app _).app _).app _).app _).app _)
  kspl_open hQ
  refine hQ _ _ ⟨fun hw=>?_,fun hw=>?_⟩
  ·refine cI ?_
   kspl_open dC
   rw [show ((n:Int) - 0).toNat=n by omega,A0]
   exact ⟨tG (by omega),dC _ _ ⟨r8,_,_,_,_,rfl,(tE.keep ((Ex.cm _).app _)).wO (List.Perm.refl _)⟩⟩
  ·have hne:wd≠n:=fun z=>by simp [z] at hw
   have tF:=tE.wO (af.Nv (w:=wd) (show n < 21 by omega) (by omega) (by omega))
   rw [wU (by omega) (by omega)] at tF
   exact kW ⟨r8,_,_,_,_,rfl,tF⟩
 rintro δ qk ⟨r,u,v5,X,Y,rfl,two⟩
 have n0:0 < n:=by omega
 refine bD (cI ?_)
 refine de ?_
 intro eh hQ
 set_option simprocs false in simp only [c6,fz two.hr,fz two.hu]
 refine ⟨rfl,hQ _ _ (bD (cI (KA (X:=X) (Y:=Y) two.tX two.tY n0 (by omega) rfl rfl ?_)))⟩
 clear hQ
 intro L d9 tO nd hL k8
 have t8:=(two.keep k8).keep (Ex.cm [.lst (L.map D.int)])
 refine bD (AG (fun mm δ lV=>∃ (pa:Nat) (X L:List Int) (v8:Option D),mm=L.length/\δ=[some (.ref f),some (.int (n:Int)),some (.int form),some (.ref r),some (.ref u),v5,some (cY X Y),some (.ref pa),v8]/\mr st lV f r u n X Y/\items lV pa=some (L.map D.int)/\L.length<=n/\L.Nodup/\(∀ x,x∈L↔(0<=x/\x < (n:Int)/\¬ af.ig X Y x))) L.length (Nat.lt_of_le_of_lt tO (Nat.lt_of_le_of_lt Ra (by decide))) ⟨_,X,L,none,rfl,rfl,t8,tu,tO,nd,hL⟩ ?_)
 rintro mm δ lV ⟨pa,X,L,v8,rfl,rfl,two,hpa,tO,nd,hL⟩
 have Ss:=two.tX.length
 have xf:items (lV ++ [O.lst []]) pa=some (L.map D.int):=by
  unfold items at hpa ⊢
  cases e:lV[pa]? with
  | none=>rw [e] at hpa;cases hpa
  | some o=>rw [lO e];rw [e] at hpa;exact hpa
 refine de ?_
 intro eh hQ
 set_option simprocs false in simp only [c6,Ke (L:=L) (M:=[]) (st:=lV ++ [O.lst []]) xf tu]
 refine ⟨rfl,hQ _ _ ⟨fun h=>?_,fun h=>?_⟩⟩
 ·have hne:L≠[]:=by simpa using h
  clear hQ
  obtain ⟨m,L1,rfl⟩:∃ m L1,L=m :: L1:=by cases L with | nil=>exact absurd rfl hne | cons m L1=>exact ⟨m,L1,rfl⟩
  obtain ⟨m0,m1,mR⟩:=(hL m).mp List.mem_cons_self
  have t2:=two.keep (Ex.cm [O.lst []])
  generalize (lV ++ [O.lst []])=Ef at xf t2 ⊢
  refine bD (cI ?_)
  refine de ?_
  intro eh hQ
  set_option simprocs false in simp only [c6,xf,List.map_cons]
  refine hQ _ _ (bD (wg ?_))
  clear hQ
  refine de ?_
  intro eh hQ
  set_option simprocs false in simp only [c6,fz t2.hr,wM (xs:=X) m0 (by omega),wM (xs:=X) (i:=0) (by decide) (by omega)]
  refine ⟨rfl,hQ _ _ ?_⟩
  clear hQ
  have i0:kI (X.map D.int).length 0=some 0:=zg (j:=0) (by rw [List.length_map];omega)
  have im:kI ((X.map D.int).set 0 (.int (af.app X m))).length m=some m.toNat:=by
   rw [List.length_set]
   have:=zg (n:=(X.map D.int).length) (j:=m.toNat) (by rw [List.length_map];omega)
   rwa [Int.toNat_of_nonneg m0] at this
  have B0:(Ef.set r (.lst ((X.map D.int).set 0 (.int (af.app X m)))))[r]?=some (.lst ((X.map D.int).set 0 (.int (af.app X m)))):=List.getElem?_set_self (jf t2.hr)
  have eS:((X.map D.int).set 0 (.int (af.app X m))).set m.toNat (.int (af.app X 0))=(af.lK X m.toNat).map D.int:=by
   unfold af.lK
   rw [Int.toNat_of_nonneg m0,List.map_set,List.map_set]
  refine de ?_
  intro eh hQ
  set_option simprocs false in simp only [c6,lW t2.hr,lW B0,i0,im,eS]
  refine ⟨rfl,hQ _ _ (bD (cI ?_))⟩
  clear hQ
  have tS:=af.uX t2.tX (m:=m.toNat) (by omega)
  have hmet:=af.Nn t2.tX t2.tY (m:=m.toNat) (by omega) (by rw [Int.toNat_of_nonneg m0];exact mR)
  rw [Int.toNat_of_nonneg m0] at hmet
  rw [List.set_set]
  have t3:=t2.put (Z:=af.lK X m.toNat) tS hfl
  generalize Ef.set r _=st3 at t3 ⊢
  refine de ?_
  intro eh hQ
  set_option simprocs false in simp only [c6,fz t3.hr,fz t3.hu]
  refine ⟨rfl,hQ _ _ (cI (KA (X:=af.lK X m.toNat) (Y:=Y) t3.tX t3.tY n0 (by omega) rfl rfl ?_))⟩
  intro L' kO GO KC hL' k4
  refine ⟨_,?_,kO.length,af.lK X m.toNat,L',_,rfl,rfl,(t3.keep k4).keep (Ex.cm _),tu,GO,KC,hL'⟩
  refine af.less (m:=m) KC (fun x hx=>?_) List.mem_cons_self (fun h=>((hL' m).mp h).2.2 hmet.1)
  obtain ⟨a1,a2,a3⟩:=(hL' x).mp hx
  exact (hL x).mpr ⟨a1,a2,fun h=>a3 (hmet.2 x h)⟩
 ·have he:L=[]:=by simpa using h
  subst he
  refine eB ?_
  kspl_open dC
  have t2:=two.keep (Ex.cm [O.lst []])
  refine dC _ _ ⟨X,Y,rfl,⟨t2.tX,t2.tY,fun x x0 x1=>?_⟩,t2.fd,t2.ex⟩
  exact Classical.byContradiction fun h=>nomatch (hL x).mpr ⟨x0,x1,h⟩
theorem GP {st:Store} {xs:List Int} {n:Nat} (tn:af.Tn n xs) (hn:n<=100):Wp (p8 [.tup (xs.map D.int)] st) fun d st'=>d=.tup ((af.inv xs).map D.int)/\Ex [] st st':=by
 have hlen:=tn.length
 refine gp ?_
 show Ws (Dw [some (.tup (xs.map D.int)),none,none,none] st) _ _ _ _
 unfold Dw
 refine bD (cI ?_)
 kspl_open hQ
 have e0:(((xs.map D.int).length:Int)).toNat=n:=by rw [List.length_map];omega
 have ez:(List.replicate n [D.int 0]).flatten=(List.replicate n (0:Int)).map D.int:=by
  induction n with
  | zero=>rfl
  | succ n ih=>simp [List.replicate_succ]
 rw [e0,ez]
 refine ⟨rfl,by rw [List.length_map];omega,jQ (by simp;omega),hQ _ _ (bD (ny (kE (xs.map D.int)) (fun k δ st2=>∃ (v2 v3:Option D) (bs:List Int),δ=[some (.tup (xs.map D.int)),some (.ref (st ++ [O.lst [D.int 0]]).length),v2,v3]/\st2[(st ++ [O.lst [D.int 0]]).length]?=some (.lst (bs.map D.int))/\bs.length=n/\(∀ j,j < k->∀ x,xs[j]?=some x->bs[x.toNat]?=some (j:Int))/\Ex [] st st2) ?_ ?_ ?_ ?_))⟩
 ·kspl_open hQ
  exact hQ _ _ ⟨rfl,none,none,_,rfl,j5,by simp,fun j hj=>absurd hj (Nat.not_lt_zero _),(Ex.cm _).app _⟩
 ·rw [As,List.length_map];omega
 ·have B1:st.length<=(st ++ [O.lst [D.int 0]]).length:=by simp
  generalize (st ++ [O.lst [D.int 0]]).length=B at B1 ⊢
  rintro k d δ st2 hd ⟨v2,v3,bs,rfl,hB,qy,rD,k2⟩
  obtain ⟨d',hd',rfl⟩:=Gb hd
  obtain ⟨x,hx,rfl⟩:=De hd'
  obtain ⟨x0,x1⟩:=tn.bound (List.mem_of_getElem? hx)
  have pK:=jf hx
  kspl_open hQ
  refine ⟨rfl,hQ _ _ (wg ?_)⟩
  have hix:kI (bs.map D.int).length x=some x.toNat:=by
   have:=zg (n:=(bs.map D.int).length) (j:=x.toNat) (by rw [List.length_map];omega)
   rwa [Int.toNat_of_nonneg x0] at this
  have es:(bs.map D.int).set x.toNat (.int (k:Int))=(bs.set x.toNat (k:Int)).map D.int:=by rw [List.map_set]
  kspl_open dC
  refine dC _ _ ?_
  refine de ?_
  intro GN xc
  set_option simprocs false in simp only [c6,lW hB,hix,es]
  refine xc _ _ ⟨_,_,bs.set x.toNat (k:Int),rfl,List.getElem?_set_self (jf hB),by rw [List.length_set];exact qy,fun j hj y hy=>?_,k2.loc B1⟩
  by_cases hjk:j=k
  ·subst hjk
   rw [hx] at hy
   cases hy
   rw [List.getElem?_set_self (by rw [qy];omega)]
  ·obtain ⟨y0,y1⟩:=tn.bound (List.mem_of_getElem? hy)
   rw [List.getElem?_set_ne (fun z=>?_)]
   ·exact rD j (by omega) y hy
   ·obtain ⟨h1,e1⟩:=List.getElem?_eq_some_iff.mp hx
    obtain ⟨h2,e2⟩:=List.getElem?_eq_some_iff.mp hy
    exact hjk ((List.getElem_inj tn.nodup).mp (show xs[j]=xs[k] by omega))
 ·rintro δ st2 ⟨v2,v3,bs,rfl,hB,qy,rD,k2⟩
  rw [As,List.length_map] at rD
  have eb:bs=af.inv xs:=by
   apply List.ext_getElem?
   intro i
   by_cases hi:i < n
   ·have hm:=tn.mem (i:=(i:Int)) (by omega) (by omega)
    have hil:=List.idxOf_lt_length_of_mem hm
    have:=rD (xs.idxOf (i:Int)) hil (i:Int) (by rw [List.getElem?_eq_getElem hil];exact congrArg some (List.getElem_idxOf hil))
    rw [Int.toNat_natCast] at this
    rw [this]
    have ea:=af.mS (xs:=af.inv xs) (i:=(i:Int)) (by omega) (by rw [af.xG];omega)
    rw [Int.toNat_natCast,af.CK (by omega) (by omega)] at ea
    exact ea.symm
   ·rw [List.getElem?_eq_none (by omega),List.getElem?_eq_none (by rw [af.xG];omega)]
  subst eb
  refine eB ?_
  refine de ?_
  intro eh hQ
  set_option simprocs false in simp only [c6,fz hB]
  exact hQ _ _ ⟨rfl,k2⟩
theorem yi {st:Store} {xs ys:List Int} (hb:∀ x∈xs,0<=x/\x < (ys.length:Int)) (hn:xs.length<=100):Wp (ni [.tup (xs.map D.int),.tup (ys.map D.int)] st) fun d st'=>d=.tup ((af.a8 xs ys).map D.int)/\Ex [] st st':=by
 refine gp ?_
 show Ws (Dy [some (.tup (xs.map D.int)),some (.tup (ys.map D.int))] st) _ _ _ _
 unfold Dy
 refine eB ?_
 kspl_open hQ
 refine Kh (xs.map D.int) (fun d=>.int (af.app ys (inD d))) ?_ (by rw [List.length_map];omega) ?_ ?_
 ·kspl_open dC
  exact dC _ _ ⟨Gr _ _,Ex.refl⟩
 ·intro d hd st1 k1
  obtain ⟨x,hx,rfl⟩:=Ki hd
  obtain ⟨x0,x1⟩:=hb x hx
  refine de ?_
  intro lQ dC
  set_option simprocs false in simp only [c6,List.map_cons,List.map_nil,List.getD_cons_succ,List.getD_cons_zero,wM (xs:=ys) x0 x1]
  exact dC _ _ ⟨rfl,Ex.refl⟩
 ·intro st' k'
  rw [Pm (f:=af.app ys) fun x hx=>rfl]
  w_how
  exact hQ _ _ ⟨rfl,k'.app _⟩
theorem GQ {st:Store} {xs ys p:List Int} {n:Nat} (tx:af.Tn n xs) (ty:af.Tn n ys) (tp:af.Tn n p) (hn:n<=100):Wp (qv [cY xs ys,.tup (p.map D.int)] st) fun d st'=>d=cY (af.anew xs p) (af.anew ys p)/\Ex [] st st':=by
 have hlx:=tx.length
 have GK:=ty.length
 have KD:=tp.length
 have ti:=tp.aw
 have hli:=ti.length
 refine gp ?_
 show Ws (Dz [some (cY xs ys),some (.tup (p.map D.int)),none,none,none] st) _ _ _ _
 unfold Dz cY
 refine bD (cI ?_)
 kspl_open hQ
 refine a7 (GP tp hn) ?_
 rintro d st1 ⟨rfl,k1⟩
 refine hQ _ _ (bD (cI ?_))
 clear hQ
 kspl_open hQ
 refine a7 (yi (xs:=af.inv p) (ys:=xs) (fun x hx=>by rw [hlx];exact ti.bound hx) (by omega)) ?_
 rintro d st2 ⟨rfl,k2⟩
 refine a7 (yi (xs:=af.a8 (af.inv p) xs) (ys:=p) (fun x hx=>by rw [KD];exact (ti.a8 tx).bound hx) (by rw [af.xI];omega)) ?_
 rintro d st3 ⟨rfl,k3⟩
 refine hQ _ _ (bD (cI ?_))
 clear hQ
 kspl_open hQ
 refine a7 (yi (xs:=af.inv p) (ys:=ys) (fun x hx=>by rw [GK];exact ti.bound hx) (by omega)) ?_
 rintro d kO ⟨rfl,k4⟩
 refine a7 (yi (xs:=af.a8 (af.inv p) ys) (ys:=p) (fun x hx=>by rw [KD];exact (ti.a8 ty).bound hx) (by rw [af.xI];omega)) ?_
 rintro d iq ⟨rfl,k5⟩
 refine hQ _ _ (eB ?_)
 clear hQ
 kspl_open hQ
 exact ⟨rfl,hQ _ _ ⟨rfl,(((k1.trans k2).trans k3).trans k4).trans k5⟩⟩
theorem Rf {F:List Int} {x:Int}:(!F.contains x)=true->af.dy F x=F ++ [x]:=fun h=>by
 unfold af.dy
 rw [if_neg fun z=>by rw [List.contains_iff_mem.mpr z] at h;cases h]
theorem Rg {F:List Int} {x:Int}:(!F.contains x)=false->af.dy F x=F:=fun h=>by
 unfold af.dy
 rw [if_pos (List.contains_iff_mem.mp (by simpa using h))]
theorem KG {st:Store} {xs ys:List Int} {n:Nat} {s:Int} (tx:af.Tn n xs) (ty:af.Tn n ys) (hn:n<=100) (s0:0<=s) (s1:s < (n:Int)):Wp (tK [cY xs ys,.int s] st) fun d st'=>d=.tup ((af.bf xs ys s n).map D.int)/\Ex [] st st':=by
 have hlx:=tx.length
 have GK:=ty.length
 refine gp ?_
 show Ws (DB [some (cY xs ys),some (.int s),none,none,none,none] st) _ _ _ _
 unfold DB
 refine bD (cI ?_)
 kspl_open hQ
 refine ⟨rfl,hQ _ _ (bD (cI ?_))⟩
 clear hQ
 kspl_open hQ
 refine hQ _ _ (bD (AG (fun m δ st2=>∃ (k:Nat) (v4 v5:Option D),m=n - k/\δ=[some (cY xs ys),some (.int s),some (.ref st.length),some (.int (k:Int)),v4,v5]/\st2[st.length]?=some (.lst ((af.bf xs ys s k).map D.int))/\k<=(af.bf xs ys s k).length/\Ex [] st st2) n (Nat.lt_of_le_of_lt hn (by decide)) ⟨0,none,none,by omega,rfl,j5,Nat.zero_le _,Ex.cm _⟩ ?_))
 clear hQ
 rintro m δ st2 ⟨k,v4,v5,rfl,rfl,hl,hk,k2⟩
 have qy:=af.FF tx ty s0 s1 k
 refine de ?_
 intro eh hQ
 set_option simprocs false in simp only [c6,fz hl]
 refine hQ _ _ ⟨fun hlt=>?_,fun hlt=>?_⟩
 ·clear hQ
  have hlt:=of_decide_eq_true hlt
  rw [List.length_map] at hlt
  have pK:k < (af.bf xs ys s k).length:=by omega
  obtain ⟨x,hx⟩:∃ x,(af.bf xs ys s k)[k]?=some x:=⟨_,List.getElem?_eq_getElem pK⟩
  obtain ⟨x0,x1⟩:=af.oN tx ty s0 s1 k x (List.mem_of_getElem? hx)
  have e1:af.bf xs ys s (k + 1)=af.visit xs ys (af.bf xs ys s k) x:=by
   show (match (af.bf xs ys s k)[k]? with | some x=>af.visit xs ys (af.bf xs ys s k) x | none=>af.bf xs ys s k)=_
   rw [hx]
  have hb1:=af.FF tx ty s0 s1 (k + 1)
  rw [e1] at hb1
  have hp1:=(af.zD (af.dy (af.bf xs ys s k) (af.app xs x)) (af.app ys x)).length_le
  have hp0:=(af.zD (af.bf xs ys s k) (af.app xs x)).length_le
  change _<=(af.visit xs ys (af.bf xs ys s k) x).length at hp1
  refine bD (ny [.tup (xs.map D.int),.tup (ys.map D.int)] (fun m δ st3=>∃ (v4 v5:Option D) (G:List Int),δ=[some (cY xs ys),some (.int s),some (.ref st.length),some (.int (k:Int)),v4,v5]/\st3[st.length]?=some (.lst (G.map D.int))/\(m=0->G=af.bf xs ys s k)/\(m=1->G=af.dy (af.bf xs ys s k) (af.app xs x))/\(m=2->G=af.visit xs ys (af.bf xs ys s k) x)/\Ex [] st st3) ?_ (by simp) ?_ ?_)
  ·unfold cY
   kspl_open hQ
   exact hQ _ _ ⟨rfl,v4,v5,_,rfl,hl,fun _=>rfl,fun z=>by omega,fun z=>by omega,k2⟩
  ·rintro m z δ st3 hm ⟨v4,v5,G,rfl,hl3,g0,g1,_,k3⟩
   have hm2:m < 2:=jf hm
   obtain ⟨zs,rfl,tz,em⟩:∃ (zs:List Int),z=.tup (zs.map D.int)/\af.Tn n zs/\((m=0/\zs=xs)\/(m=1/\zs=ys)):=by
    rcases (show m=0\/m=1 by omega) with rfl | rfl
    ·exact ⟨xs,by simpa using hm.symm,tx,.inl ⟨rfl,rfl⟩⟩
    ·exact ⟨ys,by simpa using hm.symm,ty,.inr ⟨rfl,rfl⟩⟩
   have hG:G.length<=100/\G[k]?=some x:=by
    rcases em with ⟨rfl,_⟩ | ⟨rfl,_⟩
    ·rw [g0 rfl];exact ⟨by omega,hx⟩
    ·rw [g1 rfl]
     refine ⟨by omega,?_⟩
     obtain ⟨t,e⟩:=af.zD (af.bf xs ys s k) (af.app xs x)
     rw [<- e,List.getElem?_append_left pK];exact hx
   have KH:∀ G',G'=af.dy G (af.app zs x)->(m + 1=0->G'=af.bf xs ys s k)/\(m + 1=1->G'=af.dy (af.bf xs ys s k) (af.app xs x))/\(m + 1=2->G'=af.visit xs ys (af.bf xs ys s k) x):=fun G' e=>by
    rcases em with ⟨rfl,rfl⟩ | ⟨rfl,rfl⟩
    ·exact ⟨fun z=>by omega,fun _=>by rw [e,g0 rfl],fun z=>by omega⟩
    ·exact ⟨fun z=>by omega,fun z=>by omega,fun _=>by rw [e,g1 rfl];rfl⟩
   have hat:iu (G.map D.int) (k:Int)=some (.int x):=y2 (by rw [List.getElem?_map,hG.2];rfl)
   kspl_open hQ
   refine hQ _ _ (bD (cI ?_))
   clear hQ
   refine de ?_
   intro eh hQ
   set_option simprocs false in simp only [c6,fz hl3,hat,wM (xs:=zs) x0 (by rw [tz.length];exact x1)]
   refine hQ _ _ (jP ?_)
   clear hQ
   refine de ?_
   intro eh hQ
   set_option simprocs false in simp only [c6,Gp (st:=st3) (c:=.ref st.length) (ns:=G) (fz hl3)]
   refine hQ _ _ ⟨fun hc=>wj ?_,fun hc=>kW ?_⟩
   ·obtain ⟨n0,n1,n2⟩:=KH (G ++ [af.app zs x]) (Rf hc).symm
    refine de ?_
    intro lQ dC
    set_option simprocs false in simp only [c6,lW hl3]
    refine ⟨tw (by rw [fz hl3];rfl),jQ (by rw [List.length_map];omega),dC _ _ ⟨_,_,G ++ [af.app zs x],rfl,?_,n0,n1,n2,k3.loc (Nat.le_refl _)⟩⟩
    rw [List.getElem?_set_self (jf hl3),List.map_append];rfl
   ·obtain ⟨n0,n1,n2⟩:=KH G (Rg hc).symm
    exact ⟨_,_,G,rfl,hl3,n0,n1,n2,k3⟩
  ·rintro δ st3 ⟨v4,v5,G,rfl,hl3,_,_,g2,k3⟩
   have g2:=g2 rfl
   subst g2
   refine cI ?_
   kspl_open hQ
   refine hQ _ _ ⟨n - (k + 1),by omega,k + 1,v4,v5,rfl,by simp,by rw [e1];exact hl3,by rw [e1];omega,k3⟩
 ·have hlt:=of_decide_eq_false hlt
  rw [List.length_map] at hlt
  have hle:(af.bf xs ys s k).length<=k:=by omega
  have e:af.bf xs ys s n=af.bf xs ys s k:=by
   have:=af.FE hle (n - k)
   rwa [show k + (n - k)=n by omega] at this
  refine eB ?_
  refine de ?_
  intro lQ dC
  set_option simprocs false in simp only [c6,fz hl]
  rw [<- e]
  exact dC _ _ ⟨rfl,k2⟩
theorem Rh {st:Store} {xs:List Int} {n:Nat} {i:Int} (tn:af.Tn n xs) (hn:n<=100) (i0:0<=i) (i1:i < (n:Int)):Wp (Bi [.tup (xs.map D.int),.int i] st) fun d st'=>∃ r:List Int,d=.tup (r.map D.int)/\af.gA xs i r/\Ex [] st st':=by
 have hlen:=tn.length
 refine gp ?_
 show Ws (DG [some (.tup (xs.map D.int)),some (.int i),none,none] st) _ _ _ _
 unfold DG
 refine bD (cI ?_)
 kspl_open hQ
 refine ⟨rfl,hQ _ _ (bD (cI ?_))⟩
 clear hQ
 refine de ?_
 intro eh hQ
 set_option simprocs false in simp only [c6,wM (xs:=xs) i0 (by omega)]
 refine hQ _ _ (bD (AG (fun m δ st2=>∃ k:Nat,m=n - (k + 1)/\δ=[some (.tup (xs.map D.int)),some (.int i),some (.ref st.length),some (.int (af.bB xs i (k + 1)))]/\st2[st.length]?=some (.lst ((af.row xs i k).map D.int))/\af.NB xs i k/\Ex [] st st2) (n - 1) (Nat.lt_of_le_of_lt (show n - 1<=100 by omega) (by decide)) ⟨0,rfl,rfl,j5,fun j h1 h2=>by omega,Ex.cm _⟩ ?_))
 clear hQ
 rintro m δ st2 ⟨k,rfl,rfl,hL,nb,k2⟩
 have hrl:=tn.lj i0 i1 nb
 kspl_open hQ
 refine hQ _ _ ⟨fun hb=>?_,fun hb=>?_⟩
 ·have hb:af.bB xs i (k + 1)≠i:=by simpa using hb
  have KI:af.NB xs i (k + 1):=fun j h1 h2=>by
   by_cases hj:j<=k
   ·exact nb j h1 hj
   ·have:j=k + 1:=by omega
    rw [this];exact hb
  have hle:=tn.lj i0 i1 KI
  have hit:=tn.bB i0 i1 (k + 1)
  refine bD (wj ?_)
  refine de ?_
  intro lQ dC
  set_option simprocs false in simp only [c6,lW hL]
  refine ⟨tw (by rw [fz hL];rfl),jQ (by rw [List.length_map,af.uV];omega),dC _ _ (cI ?_)⟩
  clear dC
  refine de ?_
  intro lQ dC
  set_option simprocs false in simp only [c6,wM (xs:=xs) hit.1 (by omega)]
  refine dC _ _ ⟨n - (k + 1 + 1),by omega,k + 1,rfl,rfl,?_,KI,k2.loc (Nat.le_refl _)⟩
  rw [List.getElem?_set_self (jf hL),af.Nc,List.map_append];rfl
 ·have hb:af.bB xs i (k + 1)=i:=by simpa using hb
  refine eB ?_
  refine de ?_
  intro lQ dC
  set_option simprocs false in simp only [c6,fz hL]
  exact dC _ _ ⟨_,rfl,⟨k,rfl,nb,hb⟩,k2⟩
theorem Ri {st:Store} {xs:List Int} {n:Nat} (tn:af.Tn n xs) (hn:n<=100):Wp (Bk [.tup (xs.map D.int)] st) fun d st'=>∃ rs:List (List Int),d=AX rs/\af.sA xs (af.upto n) rs/\(∀ r∈rs,r.length<=n/\∀ x∈r,0<=x/\x < (n:Int))/\rs.length<=n/\Ex [] st st':=by
 have hlen:=tn.length
 refine gp ?_
 show Ws (DI [some (.tup (xs.map D.int)),none,none,none,none,none] st) _ _ _ _
 unfold DI
 refine bD (cI ?_)
 kspl_open hQ
 refine ⟨rfl,hQ _ _ (bD (cI ?_))⟩
 clear hQ
 kspl_open hQ
 have eS:(st ++ [O.lst []]).length=st.length + 1:=by simp
 rw [eS]
 refine hQ _ _ (bD (ny (aI 0 n) (fun k δ st2=>∃ (v3 v4 v5:Option D) (rs:List (List Int)) (kvs:List (Key×D)),δ=[some (.tup (xs.map D.int)),some (.ref st.length),some (.ref (st.length + 1)),v3,v4,v5]/\st2[st.length]?=some (.lst (rs.map fun r=>.tup (r.map D.int)))/\st2[st.length + 1]?=some (.dct kvs) /\
   (∀ rest,af.sA xs (af.from' n k (fun x=>(dB kvs (Sum.inl x:Key)).isSome)) rest->af.sA xs (af.upto n) (rs ++ rest))/\(∀ r∈rs,r.length<=n/\∀ x∈r,0<=x/\x < (n:Int))/\rs.length<=k/\kvs.length<=k * n/\Ex [] st st2) ?_ (by rw [jl];omega) ?_ ?_))
 ·clear hQ
  kspl_open hQ
  rw [List.length_map,hlen]
  refine ⟨by omega,hQ _ _ ⟨by rw [Int.toNat_natCast],none,none,none,[],[],rfl,lO j5,by rw [<- eS];exact j5,fun rest hrest=>?_,(fun r hr=>nomatch hr),Nat.le_refl _,Nat.zero_le _,(Ex.cm _).app _⟩⟩
  have e:af.from' n 0 (fun x=>(dB ([]:List (Key×D)) (Sum.inl x:Key)).isSome)=af.upto n:=af.Nh n
  rw [e] at hrest
  exact hrest
 ·rintro k d δ st2 hd ⟨v3,v4,v5,rs,kvs,rfl,Eg,Eh,tP,hb,hrl,pK,k2⟩
  have hk:=jf hd
  rw [jl] at hk
  rw [Ar hk,Int.zero_add] at hd
  cases hd
  have hkn:k * n<=10000:=Nat.le_trans (Nat.mul_le_mul (show k<=100 by omega) hn) (by decide)
  clear hQ
  kspl_open hQ
  refine hQ _ _ (jP ?_)
  clear hQ
  refine de ?_
  intro eh hQ
  set_option simprocs false in simp only [c6,Kj Eh,Kk]
  have hfs:=af.Nf hk (fun x=>(dB kvs (Sum.inl x:Key)).isSome)
  refine hQ _ _ ⟨fun hs=>?_,fun hs=>?_⟩
  ·have GR:(dB kvs (Sum.inl (k:Int):Key)).isSome=false:=by simpa using hs
   simp only [GR,Bool.false_eq_true,if_false] at hfs
   clear hQ
   refine bD (cI ?_)
   kspl_open hQ
   refine a7 (Rh tn hn (i:=(k:Int)) (by omega) (by omega)) ?_
   rintro d st3 ⟨r,rfl,lX,k3⟩
   refine hQ _ _ (bD (wj ?_))
   clear hQ
   have GS:=k3.keep _ _ Eg (by simp)
   have Rj:=k3.keep _ _ Eh (by simp)
   have GU:=lX.len tn (by omega) (by omega)
   have hrb:=lX.bound tn (by omega) (by omega)
   refine de ?_
   intro eh hQ
   set_option simprocs false in simp only [c6,lW GS]
   refine ⟨tw (by rw [fz GS];rfl),jQ (by rw [List.length_map];omega),hQ _ _ ?_⟩
   clear hQ
   refine ny (r.map D.int) (fun j δ iq=>∃ (v5:Option D) (kvs':List (Key×D)),δ=[some (.tup (xs.map D.int)),some (.ref st.length),some (.ref (st.length + 1)),some (.int (k:Int)),some (.tup (r.map D.int)),v5]/\iq[st.length]?=some (.lst ((rs ++ [r]).map fun r=>.tup (r.map D.int)))/\iq[st.length + 1]?=some (.dct kvs') /\
     (∀ x:Int,(dB kvs' (Sum.inl x:Key)).isSome=((dB kvs (Sum.inl x:Key)).isSome || (r.take j).contains x))/\kvs'.length<=kvs.length + j/\Ex [] st iq) ?_ (by rw [List.length_map];omega) ?_ ?_
   ·kspl_open hQ
    refine hQ _ _ ⟨rfl,v5,kvs,rfl,?_,?_,fun x=>by simp,by omega,(k2.trans k3).loc (Nat.le_refl _)⟩
    ·rw [List.getElem?_set_self (jf GS),List.map_append];rfl
    ·rw [List.getElem?_set_ne (by omega)];exact Rj
   ·rintro j y δ iq hj ⟨v5,kvs',rfl,GV,Ei,Ej,B2,k5⟩
    obtain ⟨x,hx,rfl⟩:=De hj
    obtain ⟨hjl,ex⟩:=List.getElem?_eq_some_iff.mp hx
    subst ex
    kspl_open hQ
    refine hQ _ _ (OT ?_)
    clear hQ
    kspl_open hQ
    refine hQ _ _ ?_
    kspl_open dC
    refine dC _ _ ?_
    kspl_open xc
    refine xc _ _ ⟨_,kvs',_,rfl,Kj Ei,Kk _,jQ (by omega),_,_,rfl,?_,List.getElem?_set_self (jf Ei),fun x=>?_,?_,k5.loc (by omega)⟩
    ·rw [List.getElem?_set_ne (by omega)];exact GV
    ·rw [Po,Pq hjl]
     by_cases hx:x=r[j]
     ·subst hx;simp
     ·rw [if_neg (by intro z;exact hx (Sum.inl.inj z)),Ej x]
      have:(x == r[j])=false:=beq_eq_false_iff_ne.mpr hx
      rw [this,Bool.or_false]
    ·have:=Pp kvs' (Sum.inl r[j]:Key) (.bl true);omega
   ·rintro δ iq ⟨v5,kvs',rfl,GV,Ei,Ej,B2,k5⟩
    rw [List.length_map] at B2 Ej
    refine ⟨_,_,_,rs ++ [r],kvs',rfl,GV,Ei,fun rest hrest=>?_,fun r' hr'=>?_,by rw [List.length_append];simp;omega,by rw [Nat.succ_mul];omega,k5⟩
    ·have e:(fun x=>(dB kvs' (Sum.inl x:Key)).isSome)=fun x=>((dB kvs (Sum.inl x:Key)).isSome || r.contains x):=by
      funext x;rw [Ej x,List.take_length]
     rw [e,<- af.Ng] at hrest
     rw [List.append_assoc]
     refine tP _ ?_
     rw [hfs]
     refine .cons lX ?_
     have e2:af.out ((k:Int) :: af.from' n (k + 1) (fun x=>(dB kvs (Sum.inl x:Key)).isSome)) r=af.out (af.from' n (k + 1) (fun x=>(dB kvs (Sum.inl x:Key)).isSome)) r:=by
      unfold af.out
      rw [List.filter_cons,if_neg (by simp [lX.mem])]
     rw [e2]
     exact hrest
    ·rcases List.mem_append.mp hr' with h | h
     ·exact hb r' h
     ·have:r'=r:=by simpa using h
      subst this
      exact ⟨GU,hrb⟩
  ·have GR:(dB kvs (Sum.inl (k:Int):Key)).isSome=true:=by simpa using hs
   simp only [GR,if_true] at hfs
   exact kW ⟨_,_,_,rs,kvs,rfl,Eg,Eh,fun rest hrest=>tP rest (by rw [hfs];exact hrest),hb,by omega,by rw [Nat.succ_mul];omega,k2⟩
 ·rintro δ st2 ⟨v3,v4,v5,rs,kvs,rfl,Eg,Eh,tP,hb,hrl,pK,k2⟩
  rw [jl] at tP hrl
  refine eB ?_
  clear hQ
  refine de ?_
  intro eh hQ
  set_option simprocs false in simp only [c6,fz Eg]
  refine hQ _ _ ⟨rs,rfl,?_,hb,hrl,k2⟩
  have:=tP [] (by rw [af.Nd];exact .nil)
  rwa [List.append_nil] at this
theorem Rm {rs:List (List Int)} {m:Nat} {d:D} (h:(rs.map fun r=>D.tup (r.map D.int))[m]?=some d):∃ r,rs[m]?=some r/\d=.tup (r.map D.int):=by
 rw [List.getElem?_map] at h
 obtain ⟨r,h1,h2⟩:=Option.map_eq_some_iff.mp h
 exact ⟨r,h1,h2.symm⟩
theorem Rn {xs:List Int} {i:Int} {m:Nat} {j:Int} (h0:0<=j) (h1:j < ((m + 1:Nat):Int)):iu ((af.row xs i m).map D.int) j=some (.int (af.bB xs i j.toNat)):=by
 have e:((af.row xs i m).map D.int)[j.toNat]?=some (.int (af.bB xs i j.toNat)):=by
  unfold af.row
  rw [List.map_map,List.getElem?_map,List.getElem?_range (by omega)];rfl
 have:=y2 e
 rwa [Int.toNat_of_nonneg h0] at this
theorem KJ {bs:List Int} {m v x:Int} (h0:0<=m) (h1:m < (bs.length:Int)) (x0:0<=x):af.app (bs.set m.toNat v) x=if x=m then v else af.app bs x:=by
 have:=af.FD (xs:=bs) (m:=m.toNat) (v:=v) (x:=x) (by omega) x0
 rw [Int.toNat_of_nonneg h0] at this
 exact this
theorem Ro {st:Store} {xs:List Int} {n:Nat} {k:Int} (tn:af.Tn n xs) (hn:n<=100):Wp (Bm [.tup (xs.map D.int),.int k] st) fun d st'=>d=.tup ((af.cQ xs k).map D.int)/\Ex [] st st':=by
 have hlen:=tn.length
 refine gp ?_
 show Ws (DJ [some (.tup (xs.map D.int)),some (.int k),none,none,none,none] st) _ _ _ _
 unfold DJ
 refine bD (cI ?_)
 kspl_open hQ
 have e0:(((xs.map D.int).length:Int)).toNat=n:=by rw [List.length_map];omega
 have ez:(List.replicate n [D.int 0]).flatten=(List.replicate n (0:Int)).map D.int:=by
  clear hlen tn hn e0
  induction n with
  | zero=>rfl
  | succ n ih=>simp [List.replicate_succ]
 rw [e0,ez]
 have B1:st.length<=(st ++ [O.lst [D.int 0]]).length:=by simp
 refine ⟨rfl,by rw [List.length_map];omega,jQ (by simp;omega),hQ _ _ ?_⟩
 clear hQ
 have GW:(st ++ [O.lst [D.int 0]] ++ [O.lst ((List.replicate n (0:Int)).map D.int)])[(st ++ [O.lst [D.int 0]]).length]?=some (.lst ((List.replicate n (0:Int)).map D.int)):=j5
 have kB:Ex [] st (st ++ [O.lst [D.int 0]] ++ [O.lst ((List.replicate n (0:Int)).map D.int)]):=(Ex.cm _).app _
 generalize (st ++ [O.lst [D.int 0]] ++ [O.lst ((List.replicate n (0:Int)).map D.int)])=Rq at GW kB ⊢
 generalize (st ++ [O.lst [D.int 0]]).length=B at B1 GW ⊢
 show Ws _ _ _ _ _
 obtain ⟨d,st2,e2,rs,rfl,tP,hrb,hrl,k2⟩:=Ri (st:=Rq) tn hn
 refine bD (ny (rs.map fun r=>.tup (r.map D.int)) (fun m δ st3=>∃ (v3 v4 v5:Option D) (bs:List Int),δ=[some (.tup (xs.map D.int)),some (.int k),some (.ref B),v3,v4,v5]/\st3[B]?=some (.lst (bs.map D.int))/\bs.length=n/\(∀ j,j < m->∀ r,rs[j]?=some r->∀ x∈r,af.app bs x=af.pw xs k x)/\Ex [] st st3) ?_ (by rw [List.length_map];omega) ?_ ?_)
 ·kspl_open hQ
  refine ⟨_,_,e2,?_⟩
  exact ⟨_,rfl,hQ _ _ ⟨rfl,none,none,none,_,rfl,k2.keep _ _ GW (by simp),by simp,fun j hj=>absurd hj (Nat.not_lt_zero _),kB.trans k2⟩⟩
 ·rintro m d δ st3 hm ⟨v3,v4,v5,bs,rfl,GX,qy,rD,k3⟩
  obtain ⟨r,hr,rfl⟩:=Rm hm
  obtain ⟨i,hi,lX⟩:=tP.all.1 r (List.mem_of_getElem? hr)
  obtain ⟨i0,i1⟩:=af.lJ.mp hi
  obtain ⟨M,rfl,nb,bk⟩:=lX.ex
  have hM:=tn.lj i0 i1 nb
  kspl_open hQ
  refine hQ _ _ (ny (kE ((af.row xs i M).map D.int)) (fun t δ kO=>∃ (v4 v5:Option D) (cs:List Int),δ=[some (.tup (xs.map D.int)),some (.int k),some (.ref B),some (.tup ((af.row xs i M).map D.int)),v4,v5]/\kO[B]?=some (.lst (cs.map D.int))/\cs.length=n/\(∀ x:Int,0<=x->x < (n:Int)->af.app bs x=af.pw xs k x->af.app cs x=af.pw xs k x)/\(∀ j,j < t->af.app cs (af.bB xs i j)=af.pw xs k (af.bB xs i j))/\Ex [] st kO) ?_ ?_ ?_ ?_)
  ·clear hQ
   kspl_open hQ
   exact hQ _ _ ⟨rfl,v4,v5,bs,rfl,GX,qy,fun _ _ _ h=>h,fun j hj=>absurd hj (Nat.not_lt_zero _),k3⟩
  ·rw [As,List.length_map,af.uV];omega
  ·rintro t d δ kO hd ⟨v4,v5,cs,rfl,Ek,hcl,hcs,hct,k4⟩
   obtain ⟨d',hd',rfl⟩:=Gb hd
   obtain ⟨y,hy,rfl⟩:=De hd'
   have KL:=jf hy
   rw [af.uV] at KL
   have ey:y=af.bB xs i t:=by
    unfold af.row at hy
    rw [List.getElem?_map,List.getElem?_range KL] at hy
    exact (Option.some.inj hy).symm
   subst ey
   obtain ⟨x0,x1⟩:=tn.bB i0 i1 t
   have hL:(0:Int) < ((M + 1:Nat):Int):=by omega
   have m0:=Int.emod_nonneg ((t:Int) + k) (Int.ne_of_gt hL)
   have m1:=Int.emod_lt_of_pos ((t:Int) + k) hL
   have eL:((((af.row xs i M).map D.int).length:Nat):Int)=((M + 1:Nat):Int):=by rw [List.length_map,af.uV]
   have hix:kI (cs.map D.int).length (af.bB xs i t)=some (af.bB xs i t).toNat:=by
    have:=zg (n:=(cs.map D.int).length) (j:=(af.bB xs i t).toNat) (by rw [List.length_map];omega)
    rwa [Int.toNat_of_nonneg x0] at this
   have es:∀ v:Int,(cs.map D.int).set (af.bB xs i t).toNat (.int v)=(cs.set (af.bB xs i t).toNat v).map D.int:=fun v=>by rw [List.map_set]
   clear hQ
   kspl_open hQ
   refine ⟨rfl,hQ _ _ (wg ?_)⟩
   clear hQ
   refine de ?_
   intro eh hQ
   set_option simprocs false in simp only [c6,eL,Rn m0 m1]
   refine ⟨hL,hQ _ _ ?_⟩
   clear hQ
   refine de ?_
   intro eh hQ
   set_option simprocs false in simp only [c6,lW Ek,hix,es]
   have hat:=tn.u3 x0 x1 (tn.uW i0 i1 nb bk t k)
   refine hQ _ _ ⟨_,_,_,rfl,List.getElem?_set_self (jf Ek),by rw [List.length_set];exact hcl,fun x h0 h1 h=>?_,fun j hj=>?_,k4.loc B1⟩
   ·rw [KJ x0 (by omega) h0]
    split
    ·next e=>rw [e];exact hat
    ·exact hcs x h0 h1 h
   ·obtain ⟨y0,y1⟩:=tn.bB i0 i1 j
    rw [KJ x0 (by omega) y0]
    split
    ·next e=>rw [e];exact hat
    ·next e =>
     by_cases Rr:j=t
     ·rw [Rr] at e;exact absurd rfl e
     ·exact hct j (by omega)
  ·rintro δ kO ⟨v4,v5,cs,rfl,Ek,hcl,hcs,hct,k4⟩
   rw [As,List.length_map,af.uV] at hct
   refine ⟨_,_,_,cs,rfl,Ek,hcl,fun j hj r hr2 x hx=>?_,k4⟩
   by_cases Rt:j=m
   ·subst Rt
    rw [hr] at hr2
    cases hr2
    obtain ⟨jj,Sv,rfl⟩:=af.CH.mp hx
    exact hct jj (by omega)
   ·obtain ⟨b0,b1⟩:=(hrb r (List.mem_of_getElem? hr2)).2 x hx
    exact hcs x b0 b1 (rD j (by omega) r hr2 x hx)
 ·rintro δ st3 ⟨v3,v4,v5,bs,rfl,GX,qy,rD,k3⟩
  rw [List.length_map] at rD
  have e:bs=af.cQ xs k:=by
   refine af.n6 (n:=n) qy (by rw [af.zH];exact hlen) fun s s0 s1=>?_
   rw [af.nF s0 (by omega)]
   obtain ⟨r,hr',hx⟩:=tP.all.2 s (af.lJ.mpr ⟨s0,s1⟩)
   obtain ⟨j,hj,ej⟩:=List.getElem_of_mem hr'
   exact rD j hj r (by rw [List.getElem?_eq_getElem hj,ej]) s hx
  subst e
  refine eB ?_
  refine de ?_
  intro eh hQ
  set_option simprocs false in simp only [c6,fz GX]
  exact hQ _ _ ⟨rfl,k3⟩
theorem Rv {st:Store} {xs ys:List Int} {n:Nat} {k:Int} (tx:af.Tn n xs) (ty:af.Tn n ys) (hn:n<=100):Wp (Bp [cY xs ys,.int k] st) fun d st'=>d=cY xs (af.shr xs ys k)/\Ex [] st st':=by
 refine gp ?_
 show Ws (DK [some (cY xs ys),some (.int k)] st) _ _ _ _
 unfold DK cY
 refine eB ?_
 have tp:=tx.cQ (-k)
 kspl_open hQ
 refine a7 (Ro (k:=-k) tx hn) ?_
 rintro d st1 ⟨rfl,k1⟩
 refine a7 (yi (xs:=af.cQ xs (-k)) (ys:=ys) (fun x hx=>by rw [ty.length];exact tp.bound hx) (by rw [tp.length];exact hn)) ?_
 rintro d st2 ⟨rfl,k2⟩
 exact ⟨rfl,hQ _ _ ⟨rfl,k1.trans k2⟩⟩
theorem Rw {st:Store} {xs ys:List Int} {n:Nat} (tx:af.Tn n xs) (ty:af.Tn n ys) (hn:n<=100):Wp (Br [cY xs ys] st) fun d st'=>d=cY (af.inv ys) xs/\Ex [] st st':=by
 refine gp ?_
 show Ws (DL [some (cY xs ys)] st) _ _ _ _
 unfold DL cY
 refine eB ?_
 kspl_open hQ
 refine a7 (GP ty hn) ?_
 rintro d st1 ⟨rfl,k1⟩
 exact ⟨rfl,hQ _ _ ⟨rfl,k1⟩⟩
def qz (xs ys:List Int):Nat->List Int×List Int
 | 0=>(xs,ys)
 | j + 1=>(af.inv (qz xs ys j).2,(qz xs ys j).1)
theorem El {n:Nat} {xs ys:List Int} (tx:af.Tn n xs) (ty:af.Tn n ys):∀ j,af.Tn n (qz xs ys j).1/\af.Tn n (qz xs ys j).2
 | 0=>⟨tx,ty⟩
 | j + 1=>⟨(El tx ty j).2.aw,(El tx ty j).1⟩
def GY (s:fB):Prop:=s.1=false->1<=s.2/\s.2<=3
def jm (p:List Int×List Int) (s:fB):List Int×List Int:=if s.1=true then (p.1,af.shr p.1 p.2 s.2) else qz p.1 p.2 s.2.toNat
def kP (p:List Int×List Int) (w:List fB):List Int×List Int:=w.foldl jm p
theorem Rx {n:Nat} {p:List Int×List Int} (h:af.Tn n p.1/\af.Tn n p.2) (s:fB):af.Tn n (jm p s).1/\af.Tn n (jm p s).2:=by
 unfold jm
 split
 ·exact ⟨h.1,h.1.shr h.2 _⟩
 ·exact El h.1 h.2 _
theorem KN {n:Nat}:∀ {p:List Int×List Int},af.Tn n p.1/\af.Tn n p.2->∀ w:List fB,af.Tn n (kP p w).1/\af.Tn n (kP p w).2
 | _,h,[]=>h
 | _,h,s :: w=>KN (Rx h s) w
theorem Ry (p:List Int×List Int) (v w:List fB):kP p (v ++ w)=kP (kP p v) w:=by unfold kP;rw [List.foldl_append]
theorem Rz (p:List Int×List Int) (w:List fB) (s:fB):kP p (w ++ [s])=jm (kP p w) s:=by rw [Ry];rfl
def qA (p:List Int×List Int):D:=cY p.1 p.2
theorem RA {st:Store} {p:List Int×List Int} {n:Nat} {s:fB} (h:af.Tn n p.1/\af.Tn n p.2) (hn:n<=100) (hs:GY s):Wp (Bt [qA p,bS s] st) fun d st'=>d=qA (jm p s)/\Ex [] st st':=by
 obtain ⟨b,k⟩:=s
 refine gp ?_
 show Ws (DM [some (qA p),some (bS (b,k)),none,none] st) _ _ _ _
 unfold DM bS
 cases b with
 | true =>
  refine bD (jP ?_)
  kspl_open hQ
  refine hQ _ _ ⟨fun _=>eB ?_,fun z=>absurd z (by decide)⟩
  clear hQ
  kspl_open hQ
  refine a7 (Rv (k:=k) h.1 h.2 hn) ?_
  rintro d st1 ⟨rfl,k1⟩
  exact hQ _ _ ⟨rfl,k1⟩
 | false =>
  obtain ⟨k1,k3⟩:=hs rfl
  obtain ⟨j,rfl⟩:∃ j:Nat,k=(j:Int):=⟨k.toNat,by simp only at k1;omega⟩
  refine bD (jP ?_)
  kspl_open hQ
  refine hQ _ _ ⟨fun z=>absurd z (by decide),fun _=>kW (bD (cI ?_))⟩
  clear hQ
  kspl_open hQ
  refine hQ _ _ (bD (ny (aI 0 j) (fun i δ st2=>∃ v3:Option D,δ=[some (qA p),some (bS (false,(j:Int))),some (cY (qz p.1 p.2 i).1 (qz p.1 p.2 i).2),v3]/\Ex [] st st2) ?_ (by rw [jl];simp only at k3;omega) ?_ ?_))
  ·clear hQ
   kspl_open hQ
   exact ⟨by simp only at k3;omega,hQ _ _ ⟨by rw [Int.toNat_natCast],none,rfl,Ex.refl⟩⟩
  ·rintro i d δ st2 hd ⟨v3,rfl,k2⟩
   obtain ⟨ta,tb⟩:=El h.1 h.2 i
   clear hQ
   kspl_open hQ
   refine hQ _ _ (cI ?_)
   clear hQ
   kspl_open hQ
   refine a7 (Rw ta tb hn) ?_
   rintro d' st3 ⟨rfl,k3⟩
   exact hQ _ _ ⟨some d,rfl,k2.trans k3⟩
  ·rintro δ st2 ⟨v3,rfl,k2⟩
   rw [jl]
   refine eB ?_
   clear hQ
   kspl_open hQ
   refine hQ _ _ ⟨?_,k2⟩
   unfold qA jm
   rw [if_neg (show ¬ (false=true) from Bool.false_ne_true),Int.toNat_natCast]
theorem B3 {st:Store} {p:List Int×List Int} {n:Nat} {w:List fB} (h:af.Tn n p.1/\af.Tn n p.2) (hn:n<=100) (hw:∀ s∈w,GY s) (hl:w.length<=1000):Wp (oz [qA p,.tup (w.map bS)] st) fun d st'=>d=qA (kP p w)/\Ex [] st st':=by
 refine gp ?_
 show Ws (DO [some (qA p),some (.tup (w.map bS)),none,none] st) _ _ _ _
 unfold DO
 refine bD (cI ?_)
 kspl_open hQ
 refine hQ _ _ (bD (ny (w.map bS) (fun i δ st2=>∃ v2:Option D,δ=[some (qA p),some (.tup (w.map bS)),some (qA (kP p (w.take i))),v2]/\Ex [] st st2) ?_ (by rw [List.length_map];omega) ?_ ?_))
 ·clear hQ
  kspl_open hQ
  exact hQ _ _ ⟨rfl,none,rfl,Ex.refl⟩
 ·rintro i d δ st2 hd ⟨v2,rfl,k2⟩
  rw [List.getElem?_map] at hd
  obtain ⟨s,hs,rfl⟩:=Option.map_eq_some_iff.mp hd
  obtain ⟨hil,es⟩:=List.getElem?_eq_some_iff.mp hs
  clear hQ
  kspl_open hQ
  refine hQ _ _ (cI ?_)
  clear hQ
  kspl_open hQ
  refine a7 (RA (KN h _) hn (hw s (List.mem_of_getElem? hs))) ?_
  rintro d st3 ⟨rfl,k3⟩
  refine hQ _ _ ⟨some (bS s),?_,k2.trans k3⟩
  rw [List.take_succ_eq_append_getElem hil,Rz,es]
  rfl
 ·rintro δ st2 ⟨v2,rfl,k2⟩
  rw [List.length_map,List.take_length]
  refine eB ?_
  clear hQ
  kspl_open hQ
  exact hQ _ _ ⟨rfl,k2⟩
def mz (g:Int) (s:fB):Prop:=(s.1=false->1<=s.2/\s.2<=3)/\(s.2.natAbs:Int)<=g/\s.2≠0
theorem KO {st:Store} {f:Nat} {most great:Int} (hf:bx st f) (m0:0<=most) (m1:most<=100) (g0:3<=great) (g1:great<=1000):Wp (tJ [.ref f,.int most,.int great] st) fun d st'=>∃ w:List fB,d=.tup (w.map bS)/\(∀ s∈w,mz great s)/\(w.length:Int)<=most/\bx st' f/\Ex [f] st st':=by
 have hfl:=hf.lt
 refine gp ?_
 show Ws (Dk [some (.ref f),some (.int most),some (.int great),none,none] st) _ _ _ _
 unfold Dk
 refine bD (cI ?_)
 kspl_open hQ
 refine ⟨rfl,hQ _ _ ?_⟩
 clear hQ
 show Ws _ _ _ _ _
 obtain ⟨d,st1,e1,c,rfl,c0,c1,f1,k1⟩:=qa (st:=st ++ [O.lst []]) (n:=most + 1) (hf.keep (Ex.cm _)) (by omega) (by omega)
 obtain ⟨m,rfl⟩:∃ m:Nat,c=(m:Int):=⟨c.toNat,by omega⟩
 have hl1:st1[st.length]?=some (.lst []):=k1.keep _ _ j5 (by simp;omega)
 have kx:Ex [f] st st1:=(Ex.cm _).trans k1
 refine bD (ny (aI 0 m) (fun i δ st2=>∃ (v4:Option D) (w:List fB),δ=[some (.ref f),some (.int most),some (.int great),some (.ref st.length),v4]/\st2[st.length]?=some (.lst (w.map bS))/\(∀ s∈w,mz great s)/\w.length<=i/\bx st2 f/\Ex [f] st st2) ?_ (by rw [jl];omega) ?_ ?_)
 ·kspl_open hQ
  refine ⟨_,_,e1,?_⟩
  exact ⟨_,rfl,by omega,hQ _ _ ⟨by rw [Int.toNat_natCast],none,[],rfl,hl1,(fun s hs=>nomatch hs),Nat.le_refl _,f1,kx⟩⟩
 ·rintro i d δ st2 hd ⟨v4,w,rfl,hl2,hw,hwl,f2,k2⟩
  have hil:=jf hd
  rw [jl] at hil
  have put:∀ (s:fB) (iq:Store),mz great s->bx iq f->iq[st.length]?=some (.lst (w.map bS))->Ex [f] st iq->∀ v4:Option D,∃ (RB:Option D) (w':List fB),[some (.ref f),some (.int most),some (.int great),some (.ref st.length),v4]=[some (.ref f),some (.int most),some (.int great),some (.ref st.length),RB]/\(iq.set st.length (.lst (w.map bS ++ [bS s])))[st.length]?=some (.lst (w'.map bS))/\(∀ s∈w',mz great s)/\w'.length<=i + 1/\bx (iq.set st.length (.lst (w.map bS ++ [bS s]))) f/\Ex [f] st (iq.set st.length (.lst (w.map bS ++ [bS s]))):=fun s iq os f5 h5 k5 v4=>by
   refine ⟨v4,w ++ [s],rfl,?_,fun s' hs'=>?_,by rw [List.length_append];simp;omega,f5.ne (by omega),k5.loc (Nat.le_refl _)⟩
   ·rw [List.getElem?_set_self (jf h5),List.map_append];rfl
   ·rcases List.mem_append.mp hs' with h | h
    ·exact hw s' h
    ·rw [List.mem_singleton.mp h];exact os
  kspl_open hQ
  refine hQ _ _ (jP ?_)
  clear hQ
  kspl_open hQ
  refine a7 (qa (n:=2) f2 (by decide) (by decide)) ?_
  rintro d' st3 ⟨b,rfl,b0,b1,f3,k3⟩
  have hl3:=k3.keep _ _ hl2 (by simp;omega)
  w_how
  refine hQ _ _ ⟨fun _=>wj ?_,fun _=>bD (cI ?_)⟩
  ·clear hQ
   kspl_open hQ
   refine ⟨tw (by rw [fz hl3];rfl),?_⟩
   refine a7 (qa (n:=3) f3 (by decide) (by decide)) ?_
   rintro d' kO ⟨c,rfl,c0,c1,f4,k4⟩
   have rC:=k4.keep _ _ hl3 (by simp;omega)
   set_option simprocs false in simp only [c6,lW rC]
   refine ⟨rfl,jQ (by rw [List.length_map];omega),hQ _ _ ?_⟩
   exact put (false,1 + c) kO ⟨fun _=>⟨by show 1<=1 + c;omega,by show 1 + c<=3;omega⟩,by show ((1 + c).natAbs:Int)<=great;omega,by show 1 + c≠0;omega⟩ f4 rC ((k2.trans k3).trans k4) _
  ·clear hQ
   kspl_open hQ
   refine a7 (qa (n:=great) f3 (by omega) (by omega)) ?_
   rintro d' kO ⟨c,rfl,c0,c1,f4,k4⟩
   have rC:=k4.keep _ _ hl3 (by simp;omega)
   w_how
   refine hQ _ _ (wj ?_)
   clear hQ
   kspl_open hQ
   refine ⟨tw (by rw [fz rC];rfl),rfl,?_⟩
   refine a7 (qa (n:=2) (f4.keep (Ex.cm [O.lst [D.int (1 + c),D.int (0 - (1 + c))]])) (by decide) (by decide)) ?_
   rintro d' iq ⟨g,rfl,Sw,Sx,f5,k5⟩
   have RC:iq[kO.length]?=some (.lst [D.int (1 + c),D.int (0 - (1 + c))]):=k5.keep _ _ j5 (by have:=f4.lt;simp;omega)
   have B2:iq[st.length]?=some (.lst (w.map bS)):=k5.keep _ _ (lO rC) (by simp;omega)
   obtain ⟨sg,hsg,s1,s2⟩:∃ sg:Int,iu [D.int (1 + c),D.int (0 - (1 + c))] g=some (.int sg)/\(sg.natAbs:Int)<=great/\sg≠0:=by
    rcases (show g=0\/g=1 by omega) with rfl | rfl
    ·exact ⟨1 + c,Dc _ _,by omega,by omega⟩
    ·exact ⟨0 - (1 + c),Dd _ _ _,by omega,by omega⟩
   set_option simprocs false in simp only [c6,fz RC,hsg,lW B2]
   refine ⟨rfl,jQ (by rw [List.length_map];omega),hQ _ _ ?_⟩
   exact put (true,sg) iq ⟨fun z=>Bool.noConfusion (show true=false from z),s1,s2⟩ f5 B2 (((k2.trans k3).trans k4).trans ((Ex.cm _).trans k5)) _
 ·rintro δ st2 ⟨v4,w,rfl,hl2,hw,hwl,f2,k2⟩
  rw [jl] at hwl
  refine eB ?_
  refine de ?_
  intro eh hQ
  set_option simprocs false in simp only [c6,fz hl2]
  exact hQ _ _ ⟨w,rfl,hw,by omega,f2,k2⟩
def jI (T:af.T4):D:=.tup [.int T.a,.int T.b,.int T.c,.int T.d]
def GZ (A B:af.T4):Prop:=∀ x∈[A.a,A.b,A.c,A.d],∀ y∈[B.a,B.b,B.c,B.d],dA x y=true
theorem tQ {A B:af.T4} (h:A.le 18446744073709551615):GZ A B:=fun x hx y _=>by
 refine GC ?_
 obtain ⟨h1,h2,h3,h4⟩:=h
 simp only [List.mem_cons,List.not_mem_nil,or_false] at hx
 rcases hx with rfl | rfl | rfl | rfl <;> omega
theorem G0 {st:Store} {A B:af.T4} (h:GZ A B):Wp (p9 [jI A,jI B] st) fun d st'=>d=jI (A.mul B)/\Ex [] st st':=by
 refine gp ?_
 show Ws (DQ [some (jI A),some (jI B)] st) _ _ _ _
 unfold DQ jI
 refine eB ?_
 have hh:∀ x y:Int,x∈[A.a,A.b,A.c,A.d]->y∈[B.a,B.b,B.c,B.d]->dA x y=true:=fun x y hx hy=>h x hx y hy
 have a1:∀ y∈[B.a,B.b,B.c,B.d],dA A.a y=true:=h _ (by simp)
 have a2:∀ y∈[B.a,B.b,B.c,B.d],dA A.b y=true:=h _ (by simp)
 have a3:∀ y∈[B.a,B.b,B.c,B.d],dA A.c y=true:=h _ (by simp)
 have a4:∀ y∈[B.a,B.b,B.c,B.d],dA A.d y=true:=h _ (by simp)
 refine de ?_
 intro eh hQ
 set_option simprocs false in simp only [c6,GB,at2,Kl]
 exact ⟨a1 _ (by simp),a2 _ (by simp),a1 _ (by simp),a2 _ (by simp),a3 _ (by simp),a4 _ (by simp),a3 _ (by simp),a4 _ (by simp),rfl,hQ _ _ ⟨rfl,Ex.refl⟩⟩
theorem RD {st:Store} {s:fB} (h:af.ek s):Wp (Bv [bS s] st) fun d st'=>d=jI (af.jq s)/\Ex [] st st':=by
 obtain ⟨b,k⟩:=s
 refine gp ?_
 show Ws (DR [some (bS (b,k)),none,none] st) _ _ _ _
 unfold DR bS
 cases b with
 | true =>
  refine bD (jP ?_)
  kspl_open hQ
  refine hQ _ _ ⟨fun _=>eB ?_,fun h=>absurd h (by decide)⟩
  clear hQ
  kspl_open hQ
  exact ⟨rfl,hQ _ _ ⟨rfl,Ex.refl⟩⟩
 | false =>
  obtain ⟨k1,k3⟩:=h.1 rfl
  simp only at k1 k3
  obtain ⟨j,rfl⟩:∃ j:Nat,k=(j:Int):=⟨k.toNat,by omega⟩
  refine bD (jP ?_)
  kspl_open hQ
  refine hQ _ _ ⟨fun h=>absurd h (by decide),fun _=>kW (bD (cI ?_))⟩
  clear hQ
  kspl_open hQ
  refine hQ _ _ ?_
  clear hQ
  show Ws _ _ _ _ _
  refine bD (ny (aI 0 j) (fun i δ st2=>∃ v:Option D,δ=[some (.tup [.str "t",.int (j:Int)]),some (jI (af.qp i)),v]/\Ex [] st st2) ?_ (by rw [jl];omega) ?_ ?_)
  ·kspl_open hQ
   exact ⟨by omega,hQ _ _ ⟨by rw [Int.toNat_natCast],none,rfl,Ex.refl⟩⟩
  ·rintro i d δ st2 hd ⟨v,rfl,k2⟩
   kspl_open hQ
   refine hQ _ _ (cI ?_)
   clear hQ
   kspl_open hQ
   refine a7 (G0 (A:=af.T4.qt) (B:=af.qp i) (tQ ⟨by decide,by decide,by decide,by decide⟩)) ?_
   rintro d st3 ⟨rfl,k3⟩
   exact hQ _ _ ⟨_,rfl,k2.trans k3⟩
  ·rintro δ st2 ⟨v,rfl,k2⟩
   rw [jl]
   refine eB ?_
   kspl_open hQ
   refine hQ _ _ ⟨?_,k2⟩
   show jI (af.qp j)=jI (af.qp (j:Int).toNat)
   rw [Int.toNat_natCast]
theorem xg {s:fB} {B:Nat} (h:af.ek s) (hs:s.2.natAbs<=B):(af.jq s).le (B + 1):=by
 have:=af.sD (T:=af.T4.one) (s:=s) (M:=1) (B:=B) ⟨by decide,by decide,by decide,by decide⟩ h hs
 rwa [af.T4.mul_one,Nat.mul_one] at this
theorem G1 {T:af.T4} {M N:Nat} (h:T.le M) (hn:M<=N):T.le N:=⟨Nat.le_trans h.1 hn,Nat.le_trans h.2.1 hn,Nat.le_trans h.2.2.1 hn,Nat.le_trans h.2.2.2 hn⟩
theorem B4 {st:Store} {w:List fB} (hw:∀ s∈w,af.ek s/\s.2.natAbs<=1099511627776) (hl:w.length<=1000):Wp (nM [.tup (w.map bS)] st) fun d st'=>d=jI (af.aH w)/\Ex [] st st':=by
 refine gp ?_
 show Ws (DT [some (.tup (w.map bS)),none,none] st) _ _ _ _
 unfold DT
 refine bD (cI ?_)
 kspl_open hQ
 refine hQ _ _ ?_
 clear hQ
 show Ws _ _ _ _ _
 refine bD (ny (w.map bS) (fun i δ st2=>∃ v:Option D,δ=[some (.tup (w.map bS)),some (jI (af.aH (w.take i))),v]/\Ex [] st st2) ?_ (by rw [List.length_map];omega) ?_ ?_)
 ·kspl_open hQ
  exact hQ _ _ ⟨rfl,none,rfl,Ex.refl⟩
 ·rintro i d δ st2 hd ⟨v2,rfl,k2⟩
  rw [List.getElem?_map] at hd
  obtain ⟨s,hs,rfl⟩:=Option.map_eq_some_iff.mp hd
  obtain ⟨hil,es⟩:=List.getElem?_eq_some_iff.mp hs
  have hsw:=hw s (List.mem_of_getElem? hs)
  kspl_open hQ
  refine hQ _ _ (cI ?_)
  clear hQ
  kspl_open hQ
  refine a7 (RD hsw.1) ?_
  rintro d st3 ⟨rfl,k3⟩
  refine a7 (G0 (tQ (G1 (xg hsw.1 hsw.2) (by decide)))) ?_
  rintro d kO ⟨rfl,k4⟩
  refine hQ _ _ ⟨some (bS s),?_,(k2.trans k3).trans k4⟩
  rw [List.take_succ_eq_append_getElem hil,af.u6,es]
  rfl
 ·rintro δ st2 ⟨v2,rfl,k2⟩
  rw [List.length_map,List.take_length]
  refine eB ?_
  kspl_open hQ
  exact hQ _ _ ⟨rfl,k2⟩
theorem RE {st:Store} {a b:fB}:Wp (BE [bS a,bS b] st) fun d st'=>d=.tup ((af.cN a b).map bS)/\Ex [] st st':=by
 obtain ⟨ab,ak⟩:=a
 obtain ⟨bb,bk⟩:=b
 refine gp ?_
 show Ws (D1 [some (.tup [.str (if ab then "s" else "t"),.int ak]),some (.tup [.str (if bb then "s" else "t"),.int bk]),none] st) _ _ _ _
 unfold D1
 have hj:af.cN (ab,ak) (bb,bk)=if af.iy (ab,ak) (bb,bk)=0 then [] else [(ab,af.iy (ab,ak) (bb,bk))]:=rfl
 refine bD (cI ?_)
 kspl_open hQ
 refine hQ _ _ ?_
 clear hQ
 show Ws _ _ _ _ _
 refine bD (xV (N:=fun δ st1=>st1=st/\δ=[some (.tup [.str (if ab then "s" else "t"),.int ak]),some (.tup [.str (if bb then "s" else "t"),.int bk]),some (.int (af.iy (ab,ak) (bb,bk)))]) (jP ?_) ?_)
 ·kspl_open hQ
  refine hQ _ _ ⟨fun h=>cI ?_,fun h=>kW ⟨rfl,?_⟩⟩
  ·cases ab with
   | true=>exact absurd h (by decide)
   | false =>
    clear hQ
    kspl_open hQ
    exact ⟨by decide,hQ _ _ ⟨rfl,rfl⟩⟩
  ·cases ab with
   | true=>rfl
   | false=>exact absurd h (by decide)
 ·rintro δ st1 ⟨rfl,rfl⟩
  refine bD (jP ?_)
  kspl_open hQ
  refine hQ _ _ ⟨fun h=>eB ?_,fun h=>kW (eB ?_)⟩
  ·have h:=of_decide_eq_true h
   clear hQ
   kspl_open hQ
   refine ⟨rfl,hQ _ _ ⟨?_,Ex.refl⟩⟩
   rw [hj,if_pos h];rfl
  ·have h:=of_decide_eq_false h
   clear hQ
   kspl_open hQ
   refine ⟨rfl,rfl,hQ _ _ ⟨?_,Ex.refl⟩⟩
   rw [hj,if_neg h];rfl
theorem KP {xs:List D} {x:D}:iu (xs ++ [x]) (-1)=some x:=by
 unfold iu kI
 rw [List.length_append,if_neg (by decide),if_pos (by simp;omega)]
 simp only [Option.bind_some]
 have e:((-1:Int) + ((xs.length + [x].length:Nat):Int)).toNat=xs.length:=by simp only [List.length_singleton];omega
 rw [e];simp
theorem RF {xs:List D} {x:D}:cutD (xs ++ [x]) none (some (-1))=xs:=by
 have e1:HT.cL (xs ++ [x]).length 0 none=0:=rfl
 have e2:HT.cL (xs ++ [x]).length (xs ++ [x]).length (some (-1))=xs.length:=by
  unfold HT.cL
  simp only
  rw [if_pos (by decide),List.length_append,List.length_singleton];omega
 unfold cutD
 rw [e1,e2,List.drop_zero,Nat.sub_zero]
 simp
theorem RG (a b:Bool):(((if a=true then ("s" : Str) else "t")=(if b=true then ("s" : Str) else "t")))↔a=b:=by
 cases a <;> cases b <;> decide
theorem RH {st:Store} {w:List fB} (hl:w.length<=1000):Wp (BG [.tup (w.map bS)] st) fun d st'=>d=.tup ((af.mT w).reverse.map bS)/\Ex [] st st':=by
 refine gp ?_
 show Ws (D2 [some (.tup (w.map bS)),none,none] st) _ _ _ _
 unfold D2
 refine bD (cI ?_)
 kspl_open hQ
 refine ⟨rfl,hQ _ _ ?_⟩
 clear hQ
 show Ws _ _ _ _ _
 refine bD (ny (w.map bS) (fun i δ st2=>∃ v:Option D,δ=[some (.tup (w.map bS)),some (.tup ((af.mT (w.take i)).reverse.map bS)),v]/\Ex [] st st2) ?_ (by rw [List.length_map];omega) ?_ ?_)
 ·kspl_open hQ
  exact hQ _ _ ⟨rfl,none,rfl,Ex.refl⟩
 ·rintro i d δ st2 hd ⟨v2,rfl,k2⟩
  rw [List.getElem?_map] at hd
  obtain ⟨s,hs,rfl⟩:=Option.map_eq_some_iff.mp hd
  obtain ⟨hil,es⟩:=List.getElem?_eq_some_iff.mp hs
  have ep:af.mT (w.take (i + 1))=af.c7 (af.mT (w.take i)) s:=by rw [List.take_succ_eq_append_getElem hil,af.Nz,es];rfl
  have hpl:(af.mT (w.take i)).length<=1000:=by have:=af.Jy (w.take i);rw [List.length_take] at this;omega
  rw [ep]
  clear ep
  generalize af.mT (w.take i)=l at hpl ⊢
  kspl_open hQ
  refine hQ _ _ (jP ?_)
  clear hQ
  kspl_open hQ
  cases l with
  | nil =>
   refine hQ _ _ ⟨fun h=>absurd h (by decide),fun _=>cI ?_⟩
   clear hQ
   kspl_open hQ
   exact ⟨rfl,rfl,hQ _ _ ⟨some (bS s),rfl,k2⟩⟩
  | cons t r =>
   have eg:(t :: r).reverse.map bS=r.reverse.map bS ++ [bS t]:=by simp
   rw [eg]
   have el:decide ((0:Int) < ((r.reverse.map bS ++ [bS t]).length:Nat))=true:=decide_eq_true (by simp)
   have es1:bS t=.tup [.str (if t.1 then "s" else "t"),.int t.2]:=rfl
   have RI:bS s=.tup [.str (if s.1 then "s" else "t"),.int s.2]:=rfl
   have elt:(if t.1=true then ("s" : Str) else "t")=(if s.1=true then ("s" : Str) else "t")↔t.1=s.1:=RG _ _
   set_option simprocs false in simp only [c6,KP,es1,RI]
   rw [if_pos (by simp)]
   refine hQ _ _ ⟨fun h=>cI ?_,fun h=>cI ?_⟩
   ·have h:=elt.mp (of_decide_eq_true h)
    clear hQ
    kspl_open hQ
    rw [eg,RF]
    set_option simprocs false in simp only [c6,KP]
    refine a7 RE ?_
    rintro d st3 ⟨rfl,k3⟩
    w_how
    refine ⟨jQ ?_,hQ _ _ ⟨some (bS s),?_,k2.trans k3⟩⟩
    ·have:(af.cN t s).length<=1:=by unfold af.cN;split <;> simp
     simp only [List.length_map,List.length_reverse]
     simp only [List.length_cons] at hpl
     omega
    ·have ej:(af.cN t s).reverse=af.cN t s:=by unfold af.cN;split <;> rfl
     rw [af.sC,if_pos h,List.reverse_append,List.map_append,ej]
     rfl
   ·have h:=fun e=>of_decide_eq_false h (elt.mpr e)
    clear hQ
    kspl_open hQ
    refine ⟨rfl,jQ ?_,hQ _ _ ⟨some (bS s),?_,k2⟩⟩
    ·simp only [List.length_map,List.length_reverse,List.length_singleton]
     omega
    ·have e2:(s :: t :: r).reverse.map bS=(t :: r).reverse.map bS ++ [bS s]:=by simp
     rw [af.sC,if_neg h,e2]
     rfl
 ·rintro δ st2 ⟨v2,rfl,k2⟩
  rw [List.length_map,List.take_length]
  refine eB ?_
  kspl_open hQ
  exact hQ _ _ ⟨rfl,k2⟩
theorem RJ {st:Store} {v w:List fB} (hl:v.length + w.length<=1000):Wp (BJ [.tup (v.map bS),.tup (w.map bS)] st) fun d st'=>d=.tup ((af.mT (v ++ w)).reverse.map bS)/\Ex [] st st':=by
 refine gp ?_
 show Ws (D3 [some (.tup (v.map bS)),some (.tup (w.map bS))] st) _ _ _ _
 unfold D3
 refine eB ?_
 kspl_open hQ
 refine ⟨jQ (by simp only [List.length_map];omega),?_⟩
 rw [<- List.map_append]
 refine a7 (RH (by rw [List.length_append];exact hl)) ?_
 rintro d st3 ⟨rfl,k3⟩
 exact hQ _ _ ⟨rfl,k3⟩
theorem RK {st:Store} {s:fB}:Wp (BP [bS s] st) fun d st'=>d=bS (af.jo s)/\Ex [] st st':=by
 obtain ⟨b,k⟩:=s
 refine gp ?_
 show Ws (D6 [some (.tup [.str (if b then "s" else "t"),.int k])] st) _ _ _ _
 unfold D6
 refine bD (jP ?_)
 cases b with
 | true =>
  kspl_open hQ
  refine hQ _ _ ⟨fun _=>eB ?_,fun h=>absurd h (by decide)⟩
  clear hQ
  kspl_open hQ
  exact ⟨rfl,hQ _ _ ⟨rfl,Ex.refl⟩⟩
 | false =>
  kspl_open hQ
  refine hQ _ _ ⟨fun h=>absurd h (by decide),fun _=>kW (eB ?_)⟩
  clear hQ
  kspl_open hQ
  exact ⟨rfl,hQ _ _ ⟨rfl,Ex.refl⟩⟩
theorem KQ {st:Store} {w:List fB} (hl:w.length<=1000):Wp (tM [.tup (w.map bS)] st) fun d st'=>d=.tup ((af.gB w).map bS)/\Ex [] st st':=by
 refine gp ?_
 show Ws (D7 [some (.tup (w.map bS))] st) _ _ _ _
 unfold D7
 refine eB ?_
 kspl_open hQ
 refine Pt (w.reverse.map bS) (fun i y=>∃ s,w.reverse[i]?=some s/\y=bS (af.jo s)) (Ex [] st) ?_ (by rw [List.length_map,List.length_reverse];omega) ?_ ?_
 ·refine de ?_
  intro lQ dC
  set_option simprocs false in simp only [c6,Px]
  refine ⟨_,rfl,dC _ _ ⟨fun i st2 hi _=>?_,Ex.refl⟩⟩
  rw [<- List.map_reverse]
  exact Gr _ st2 i st2 hi Ex.refl
 ·intro i d hd st1 k1
  rw [List.getElem?_map] at hd
  obtain ⟨s,hs,rfl⟩:=Option.map_eq_some_iff.mp hd
  kspl_open dC
  refine a7 RK ?_
  rintro d st3 ⟨rfl,k3⟩
  exact dC _ _ ⟨⟨s,hs,rfl⟩,k1.trans k3⟩
 ·intro ys st' k' hy h
  w_how
  refine hQ _ _ ⟨?_,k'.app _⟩
  congr 1
  refine List.ext_getElem? fun i=>?_
  rw [List.length_map,List.length_reverse] at hy
  have eb:af.gB w=w.reverse.map af.jo:=by unfold af.gB;rw [List.map_reverse]
  rw [eb,List.getElem?_map,List.getElem?_map]
  rcases Nat.lt_or_ge i ys.length with hi | hi
  ·obtain ⟨s,hs,e⟩:=h i ys[i] (List.getElem?_eq_getElem hi)
   rw [hs,List.getElem?_eq_getElem hi,e];rfl
  ·rw [List.getElem?_eq_none hi,List.getElem?_eq_none (by rw [List.length_reverse];omega)];rfl
def qb (s:fB):D×D:=(.str (if s.1 then "s" else "t"),.int s.2)
def xh:D×D->fB
 | (.str x,.int k)=>(decide (x="s"),k)
 | _=>(true,0)
theorem KR (s:fB):xh (qb s)=s:=by
 obtain ⟨b,k⟩:=s
 cases b <;> rfl
theorem KS {st:Store} {w:List fB} (hl:w.length<=1000):Wp (wW [.tup (w.map bS)] st) fun d st'=>d=.tup ((af.gB w).map bS)/\Ex [] st st':=by
 refine gp ?_
 show Ws (Dn [some (.tup (w.map bS))] st) _ _ _ _
 unfold Dn
 refine eB ?_
 kspl_open hQ
 refine Pu (w.reverse.map qb) (fun p=>bS (af.jo (xh p))) ?_ (by rw [List.length_map,List.length_reverse];omega) ?_ ?_
 ·refine de ?_
  intro lQ dC
  set_option simprocs false in simp only [c6,Pr]
  refine dC _ _ ⟨?_,(Ex.cm _).trans (Ex.cm _)⟩
  have e:(w.reverse.map qb).map (fun p=>D.tup [p.1,p.2])=(w.map bS).reverse:=by
   rw [List.map_map,<- List.map_reverse];rfl
  rw [e]
  exact Kg (fz j5)
 ·intro p hp st1 k1
  obtain ⟨s,hs,rfl⟩:=List.mem_map.mp hp
  rw [KR]
  obtain ⟨b,k⟩:=s
  unfold qb
  cases b with
  | true =>
   kspl_open dC
   refine ⟨rfl,.int (0 - k),by rw [if_pos (by decide)];exact Dd _ _ _,rfl,dC _ _ ⟨?_,(Ex.cm _)⟩⟩
   show (D.tup [.str "s",.int (0 - k)])=.tup [.str "s",.int (-k)]
   rw [Int.zero_sub]
  | false =>
   kspl_open dC
   exact ⟨rfl,.int (4 - k),by rw [if_neg (by decide)];exact Dc _ _,rfl,dC _ _ ⟨rfl,(Ex.cm _)⟩⟩
 ·intro st' k'
  w_how
  refine hQ _ _ ⟨?_,k'.app _⟩
  congr 1
  have eb:af.gB w=w.reverse.map af.jo:=by unfold af.gB;rw [List.map_reverse]
  rw [eb,List.map_map,List.map_map]
  refine List.map_congr_left fun s _=>?_
  show bS (af.jo (xh (qb s)))=bS (af.jo s)
  rw [KR]
theorem RL {st:Store} {x y:Int} (hy:y≠0) (hb:y.natAbs < 500000000):Wp (Bz [.int x,.int y] st) fun d st'=>d=.int (af.nr x y)/\Ex [] st st':=by
 refine gp ?_
 show Ws (DZ [some (.int x),some (.int y)] st) _ _ _ _
 unfold DZ
 refine eB ?_
 refine de ?_
 intro eh hQ
 set_option simprocs false in simp only [c6,P0]
 exact ⟨.inl (by decide),.inl (by decide),⟨by omega,by omega⟩,hQ _ _ ⟨rfl,Ex.refl⟩⟩
theorem G2 {st:Store} {k:Int}:Wp (qx [.int k] st) fun d st'=>d=.tup ((af.oO k).map bS)/\Ex [] st st':=by
 refine gp ?_
 show Ws (DY [some (.int k)] st) _ _ _ _
 unfold DY
 refine bD (jP ?_)
 kspl_open hQ
 refine hQ _ _ ⟨fun h=>eB ?_,fun h=>kW (eB ?_)⟩
 ·have h:k=0:=of_decide_eq_true h
  clear hQ
  kspl_open hQ
  refine ⟨rfl,hQ _ _ ⟨?_,Ex.refl⟩⟩
  unfold af.oO
  rw [if_pos h];rfl
 ·have h:¬ k=0:=of_decide_eq_false h
  clear hQ
  kspl_open hQ
  refine ⟨rfl,rfl,hQ _ _ ⟨?_,Ex.refl⟩⟩
  unfold af.oO
  rw [if_neg h];rfl
theorem RM {st:Store} {T:af.T4} {x y:Int} (hx:x.natAbs < 18446744073709551615) (hy:y.natAbs < 18446744073709551615):Wp (Bx [jI T,.tup [.int x,.int y]] st) fun d st'=>d=.tup [.int (T.a * x + T.b * y),.int (T.c * x + T.d * y)]/\Ex [] st st':=by
 have ok:∀ i j:Int,j.natAbs < 18446744073709551615->dA i j=true:=fun i j hj=>by
  unfold dA
  rw [decide_eq_true (show -18446744073709551616 < j/\j < 18446744073709551616 by omega)]
  simp
 refine gp ?_
 show Ws (DX [some (jI T),some (.tup [.int x,.int y])] st) _ _ _ _
 unfold DX jI
 refine eB ?_
 refine de ?_
 intro eh hQ
 set_option simprocs false in simp only [c6,GB,at2,Kl]
 exact ⟨ok _ _ hx,ok _ _ hy,ok _ _ hx,ok _ _ hy,rfl,hQ _ _ ⟨rfl,Ex.refl⟩⟩
theorem xi {st:Store} {Q:D->Store->Prop} {x y:Int}:Wp (aR (.tup [.int x,.int y]) (.int 0) st) Q↔Q (.int x) st:=bu
theorem KU {st:Store} {Q:D->Store->Prop} {x y:Int}:Wp (aR (.tup [.int x,.int y]) (.int 1) st) Q↔Q (.int y) st:=bu
theorem RN {st:Store} {x y:Int} (hx:x.natAbs<=16777216) (hy:y.natAbs<=16777216):Wp (BB [.tup [.int x,.int y]] st) fun d st'=>∃ g:List fB,d=.tup (g.map bS)/\(∀ s∈g,af.ek s/\s.2.natAbs<=16777217)/\g.length<=52/\(af.aH g).c * x + (af.aH g).d * y=0/\Ex [] st st':=by
 refine gp ?_
 show Ws (D0 [some (.tup [.int x,.int y]),none,none,none] st) _ _ _ _
 unfold D0
 refine bD (cI ?_)
 refine de ?_
 intro eh hQ
 w_how
 refine ⟨rfl,?_⟩
 refine hQ _ _ (bD (cI ?_))
 clear hQ
 refine de ?_
 intro eh hQ
 w_how
 refine hQ _ _ (bD (AG (fun m δ s=>∃ (g:List fB) (u v:Int) (r:Nat) (v3:Option D),m=26 - r/\r<=25/\δ=[some (.tup [.int x,.int y]),some (.tup (g.map bS)),some (.tup [.int u,.int v]),v3]/\af.Dv 16777216 x y g u v r/\Ex [] st s) 26 (by decide) ⟨[],x,y,0,none,rfl,by decide,rfl,af.Dv.zero hx hy,Ex.refl⟩ ?_))
 clear hQ
 rintro m δ s ⟨g,u,v,r,v3,rfl,hr,rfl,dv,k1⟩
 have Sy:=dv.ub
 have Sz:v.natAbs<=16777216:=Nat.le_trans (Nat.le_mul_of_pos_right _ (Nat.one_le_two_pow)) dv.vb
 refine de ?_
 intro eh hQ
 set_option simprocs false in simp only [c6,KU]
 refine hQ _ _ ⟨fun hc=>?_,fun hc=>?_⟩
 ·have hv:v≠0:=by simpa using hc
  have few:=dv.few (k:=25) hv (by decide)
  have RO:=dv.step hv
  refine bD (cI ?_)
  clear hQ
  refine de ?_
  intro eh hQ
  set_option simprocs false in simp only [c6,xi,KU]
  refine a7 (RL hv (by omega)) ?_
  rintro d s1 ⟨rfl,k2⟩
  w_how
  refine a7 (G2) ?_
  rintro d s2 ⟨rfl,k3⟩
  w_how
  have hsl:=af.Aa (-(af.nr u v))
  refine ⟨rfl,rfl,jQ (by rw [List.length_map];show _ + 1<=_;omega),?_⟩
  have e1:((af.oO (-(af.nr u v))).map bS ++ [D.tup [D.str "t",D.int 1]])=(af.oT u v).map bS:=by
   unfold af.oT
   rw [List.map_append];rfl
  rw [e1]
  have CF:=af.JT (x:=u) hv
  refine hQ _ _ (bD (cI ?_))
  clear hQ
  refine de ?_
  intro eh hQ
  w_how
  refine a7 (B4 (w:=af.oT u v) (fun s hs=>⟨(CF s hs).1,by have:=(CF s hs).2;omega⟩) (by have:=af.FY u v;omega)) ?_
  rintro d s3 ⟨rfl,k4⟩
  refine a7 (RM (T:=af.aH (af.oT u v)) (x:=u) (y:=v) (by omega) (by omega)) ?_
  rintro d s4 ⟨rfl,k5⟩
  rw [af.JS]
  have e2:∀ q:Int,D.tup [.int ((0:Int) * u + -1 * v),.int (1 * u + -q * v)]=.tup [.int (-v),.int (u - q * v)]:=fun q=>by
   have a1:(0:Int) * u + -1 * v=-v:=by omega
   have a2:1 * u + -q * v=u - q * v:=by rw [Int.neg_mul];omega
   rw [a1,a2]
  show eh (D.tup [.int ((0:Int) * u + -1 * v),.int (1 * u + -(af.nr u v) * v)]) s4
  rw [e2]
  refine hQ _ _ (cI ?_)
  clear hQ
  refine de ?_
  intro eh hQ
  w_how
  have RP:=dv.ln
  have hdl:=af.FY u v
  refine ⟨jQ (by rw [List.length_map,List.length_map];omega),hQ _ _ ⟨26 - (r + 1),by omega,g ++ af.oT u v,_,_,r + 1,_,rfl,by omega,by rw [List.map_append];rfl,RO,(((k1.trans k2).trans k3).trans k4).trans k5⟩⟩
 ·have hv:v=0:=by simpa using hc
  refine eB ?_
  clear hQ
  refine de ?_
  intro eh hQ
  w_how
  exact hQ _ _ ⟨g,rfl,dv.pr,by have:=dv.ln;omega,by rw [<- dv.vc];exact hv,k1⟩
theorem G3 {st:Store} {Q:D->Store->Prop} {T:af.T4}:Wp (aR (jI T) (.int 0) st) Q↔Q (.int T.a) st:=bu
theorem G4 {st:Store} {Q:D->Store->Prop} {T:af.T4}:Wp (aR (jI T) (.int 1) st) Q↔Q (.int T.b) st:=bu
theorem KW {st:Store} {Q:D->Store->Prop} {T:af.T4}:Wp (aR (jI T) (.int 2) st) Q↔Q (.int T.c) st:=bu
theorem xj {st:Store} {Q:D->Store->Prop} {T:af.T4}:Wp (aR (jI T) (.int 3) st) Q↔Q (.int T.d) st:=bu
theorem RQ {st:Store} {T:af.T4} (hl:T.le 16777216):Wp (BL [jI T] st) fun d st'=>d=.bl (decide (T.a * T.d - T.b * T.c=1))/\Ex [] st st':=by
 refine gp ?_
 show Ws (D4 [some (jI T)] st) _ _ _ _
 unfold D4
 refine eB ?_
 have hs:dj st (jI T)=some [.int T.a,.int T.b,.int T.c,.int T.d]:=rfl
 refine de ?_
 intro eh hQ
 set_option simprocs false in simp only [c6,hs,GB,G3,G4,KW,xj]
 obtain ⟨h1,h2,h3,h4⟩:=hl
 rw [if_pos (show decide ((([D.int T.a,D.int T.b,D.int T.c,D.int T.d]:List D).length:Int)=4)=true from rfl)]
 exact ⟨GC (by omega),GC (by omega),hQ _ _ ⟨rfl,Ex.refl⟩⟩
theorem RS {st:Store} {A:af.T4}:Wp (BN [jI A] st) fun d st'=>d=.tup ((af.oa A).map bS)/\Ex [] st st':=by
 refine gp ?_
 show Ws (D5 [some (jI A)] st) _ _ _ _
 unfold D5
 refine bD (jP ?_)
 refine de ?_
 intro eh hQ
 set_option simprocs false in simp only [c6,G3]
 refine hQ _ _ ⟨fun h=>eB ?_,fun h=>kW (eB ?_)⟩
 ·have h:A.a=1:=of_decide_eq_true h
  clear hQ
  refine de ?_
  intro eh hQ
  set_option simprocs false in simp only [c6,G4]
  refine a7 (G2) ?_
  rintro d s1 ⟨rfl,k1⟩
  refine hQ _ _ ⟨?_,k1⟩
  unfold af.oa
  rw [if_pos h]
 ·have h:¬ A.a=1:=of_decide_eq_false h
  clear hQ
  refine de ?_
  intro eh hQ
  set_option simprocs false in simp only [c6,G4]
  refine ⟨rfl,rfl,?_⟩
  refine a7 (G2) ?_
  rintro d s1 ⟨rfl,k1⟩
  w_how
  have:=af.Aa (-A.b)
  refine ⟨jQ (by rw [List.length_map];show 1 + _<=_;omega),hQ _ _ ⟨?_,k1⟩⟩
  unfold af.oa
  rw [if_neg h]
  rfl
theorem B5 {A B:af.T4} (h:B.le 18446744073709551615):GZ A B:=fun x _ y hy=>by
 obtain ⟨h1,h2,h3,h4⟩:=h
 have hb:y.natAbs<=18446744073709551615:=by
  simp only [List.mem_cons,List.not_mem_nil,or_false] at hy
  rcases hy with rfl | rfl | rfl | rfl <;> assumption
 unfold dA
 rw [decide_eq_true (show -18446744073709551616 < y/\y < 18446744073709551616 by omega)]
 simp
theorem RT {st:Store} {T:af.T4} (hl:T.le 16777216) (hd:T.a * T.d - T.b * T.c=1):Wp (BR [jI T] st) fun d st'=>∃ w:List fB,d=.tup (w.map bS)/\(∀ s∈w,af.ek s)/\w.length<=60/\af.aH w=T/\Ex [] st st':=by
 refine gp ?_
 show Ws (D8 [some (jI T),none] st) _ _ _ _
 unfold D8
 refine bD (jP ?_)
 kspl_open hQ
 refine a7 (RQ hl) ?_
 rintro d s1 ⟨rfl,k1⟩
 refine ⟨_,rfl,?_⟩
 refine hQ _ _ ⟨fun h=>absurd h (by simp [hd]),fun _=>kW (bD (cI ?_))⟩
 clear hQ
 refine de ?_
 intro eh hQ
 set_option simprocs false in simp only [c6,G3,KW]
 refine ⟨rfl,?_⟩
 refine a7 (RN hl.1 hl.2.2.1) ?_
 rintro d s2 ⟨g,rfl,hg,RP,h0,k2⟩
 refine hQ _ _ (eB ?_)
 clear hQ
 kspl_open hQ
 have RU:∀ s∈g,af.ek s:=fun s hs=>(hg s hs).1
 refine a7 (B4 (w:=g) (fun s hs=>⟨(hg s hs).1,by have:=(hg s hs).2;omega⟩) (by omega)) ?_
 rintro d s3 ⟨rfl,k3⟩
 refine a7 (G0 (B5 (G1 hl (by decide)))) ?_
 rintro d s4 ⟨rfl,k4⟩
 refine a7 (RS) ?_
 rintro d s5 ⟨rfl,k5⟩
 refine a7 (KQ (w:=g) (by omega)) ?_
 rintro d s6 ⟨rfl,k6⟩
 have tO:=af.N1 ((af.aH g).mul T)
 have qy:(af.gB g).length=g.length:=by unfold af.gB;rw [List.length_reverse,List.length_map]
 refine a7 (RJ (v:=af.oa ((af.aH g).mul T)) (w:=af.gB g) (by omega)) ?_
 rintro d s7 ⟨rfl,k7⟩
 obtain ⟨e1,e2⟩:=af.N3 hd RU h0
 refine hQ _ _ ⟨_,rfl,e2,?_,e1,(((((k1.trans k2).trans k3).trans k4).trans k5).trans k6).trans k7⟩
 rw [List.length_reverse]
 have:=af.Jy (af.oa ((af.aH g).mul T) ++ af.gB g)
 rw [List.length_append] at this
 omega
theorem KY {st:Store} {xs ys:List Int} {n:Nat} {s:Int} (fl:kN n xs ys) (hn:n<=100) (s0:0<=s) (s1:s < (n:Int)):Wp (tL [cY xs ys,.int s] st) fun d st'=>d=.tup ((af.inv (af.bf xs ys s n)).map D.int)/\Ex [] st st':=by
 obtain ⟨tx,ty,all⟩:=fl
 refine gp ?_
 show Ws (DC [some (cY xs ys),some (.int s)] st) _ _ _ _
 unfold DC
 refine eB ?_
 kspl_open hQ
 refine a7 (KG tx ty hn s0 s1) ?_
 rintro d st1 ⟨rfl,k1⟩
 refine a7 (GP (af.FH tx ty s0 s1 all) hn) ?_
 rintro d st2 ⟨rfl,k2⟩
 exact hQ _ _ ⟨rfl,k1.trans k2⟩
def xk (xs ys:List Int) (s:Int) (n:Nat):D:=cY (af.num xs (af.bf xs ys s n)) (af.num ys (af.bf xs ys s n))
theorem G5 {st:Store} {xs ys:List Int} {n:Nat} {s:Int} (fl:kN n xs ys) (hn:n<=100) (s0:0<=s) (s1:s < (n:Int)):Wp (qw [cY xs ys,.int s] st) fun d st'=>d=xk xs ys s n/\Ex [] st st':=by
 have RV:=fl
 obtain ⟨tx,ty,all⟩:=fl
 have tb:=af.FH tx ty s0 s1 all
 refine gp ?_
 show Ws (DE [some (cY xs ys),some (.int s)] st) _ _ _ _
 unfold DE
 refine eB ?_
 kspl_open hQ
 refine a7 (KY RV hn s0 s1) ?_
 rintro d st1 ⟨rfl,k1⟩
 refine a7 (GQ tx ty tb.aw hn) ?_
 rintro d st2 ⟨rfl,k2⟩
 rw [af.xK tx tb,af.xK ty tb]
 exact hQ _ _ ⟨rfl,k1.trans k2⟩
def tD (l:List Int):D:=.tup (l.map D.int)
def nO (L:List (List Int)):List D:=nJ (L.map tD) (L.map d6)
theorem xl {n:Nat} {xs ys:List Int} (fl:kN n xs ys):af.Wh n (xs,ys):=⟨⟨fl.1,fl.2.1⟩,fl.2.2⟩
theorem xm (st:Store) (m:Nat) (l:List Int):dc st (m + 2) (tD l)=some (d6 l):=by
 show (b9 (dc st (m + 1)) (l.map D.int)).map PyData.tuple=_
 rw [sT (f:=dc st (m + 1)) (g:=D.int) (k:=PyData.int) (fun _=>rfl) l]
 rfl
theorem RW (st:Store) (m:Nat) (L:List (List Int)):b9 (dc st (m + 2)) (L.map tD)=some (L.map d6):=sT (f:=dc st (m + 2)) (g:=tD) (k:=d6) (fun l=>xm st m l) L
theorem xn {n:Nat} {L:List (List Int)} (h:∀ l∈L,l.length=n) (n0:0 < n) (hl:L.length < 64):nh (L.map d6)=true:=by
 unfold nh
 simp only [Bool.and_eq_true,Bool.or_eq_true,decide_eq_true_eq,List.all_eq_true,List.length_map]
 refine ⟨⟨⟨hl,fun a ha b hb=>?_⟩,fun a ha=>?_⟩,.inr fun a ha=>?_⟩
 ·obtain ⟨p,_,rfl⟩:=List.mem_map.mp ha
  obtain ⟨q,_,rfl⟩:=List.mem_map.mp hb
  exact Dh p q
 ·obtain ⟨p,_,rfl⟩:=List.mem_map.mp ha
  refine ⟨qO p,?_⟩
  show PyData.depthAll (cc p) + 1<=50
  have:=uL p
  omega
 ·obtain ⟨p,hp,rfl⟩:=List.mem_map.mp ha
  have:=h p hp
  cases p with
  | nil=>simp at this;omega
  | cons x r=>rfl
theorem RX (L:List (List Int)):(nO L).length=L.length:=by
 have:=(Kw (ds:=L.map tD) (ps:=L.map d6) (by rw [List.length_map,List.length_map])).length_eq
 rw [List.length_map] at this
 exact this
theorem KZ (L:List (List Int)):∃ M:List (List Int),nO L=M.map tD/\M.length=L.length/\∀ l∈M,l∈L:=by
 have p:=Kw (ds:=L.map tD) (ps:=L.map d6) (by rw [List.length_map,List.length_map])
 have all:∀ d∈nO L,∃ l∈L,d=tD l:=fun d hd=>by
  obtain ⟨l,hl,e⟩:=List.mem_map.mp (p.subset hd)
  exact ⟨l,hl,e.symm⟩
 have len:=RX L
 generalize nO L=S at all len
 rw [<- len]
 clear len p
 induction S with
 | nil=>exact ⟨[],rfl,rfl,fun l h=>nomatch h⟩
 | cons d S ih =>
  obtain ⟨l,hl,rfl⟩:=all d List.mem_cons_self
  obtain ⟨M,e,el,hm⟩:=ih fun d hd=>all d (List.mem_cons_of_mem _ hd)
  refine ⟨l :: M,by rw [e];rfl,by rw [List.length_cons,el,List.length_cons],fun x hx=>?_⟩
  rcases List.mem_cons.mp hx with rfl | hx
  ·exact hl
  ·exact hm x hx
def oA (p q:af.b7) (n m i:Nat):List (List Int):=(((af.upto m).take i).filter fun s=>decide (af.ji q m s=af.ji p n 0)).map fun s=>af.a8 (af.inv (af.bf p.1 p.2 0 n)) (af.bf q.1 q.2 s m)
theorem Em (p q:af.b7) (n m:Nat):oA p q n m m=af.q5 p q n m:=by
 unfold oA
 rw [List.take_of_length_le (by rw [af.n4];exact Nat.le_refl _)]
 rfl
theorem K0 {p q:af.b7} {n m i:Nat} (h:i < m):oA p q n m (i + 1)=oA p q n m i ++ if af.ji q m (i:Int)=af.ji p n 0 then [af.a8 (af.inv (af.bf p.1 p.2 0 n)) (af.bf q.1 q.2 (i:Int) m)] else []:=by
 unfold oA
 have hl:i < (af.upto m).length:=by rw [af.n4];exact h
 have e:(af.upto m)[i]=(i:Int):=by
  have:=af.CJ h
  rw [List.getElem?_eq_getElem hl] at this
  exact Option.some.inj this
 rw [List.take_succ_eq_append_getElem hl,List.filter_append,List.map_append,e]
 congr 1
 by_cases c:af.ji q m (i:Int)=af.ji p n 0
 ·rw [if_pos c];simp [c]
 ·rw [if_neg c];simp [c]
theorem G6 (p q:af.b7) (n m i:Nat):(oA p q n m i).length<=i:=by
 unfold oA
 rw [List.length_map]
 refine Nat.le_trans (List.length_filter_le _ _) ?_
 rw [List.length_take]
 omega
theorem RY {p q:af.b7} {n m i:Nat} {l:List Int} (wp:af.Wh n p) (n0:0 < n) (h:l∈oA p q n m i):l.length=n:=by
 obtain ⟨s,_,rfl⟩:=List.mem_map.mp h
 rw [af.xI,af.xG,(wp.bf (by decide) (by omega)).length]
theorem K1 (xs ys:List Int) (s:Int) (n:Nat):xk xs ys s n=cY (af.ji (xs,ys) n s).1 (af.ji (xs,ys) n s).2:=rfl
theorem K2 {st:Store} {xs ys us vs:List Int} {n m:Nat} (fl:kN n xs ys) (fm:kN m us vs) (n0:0 < n) (hn:n<=20) (hm:m<=20):Wp (wZ [cY xs ys,cY us vs] st) fun d st'=>∃ r,d=.ref r/\st'[r]?=some (.lst (nO (af.q5 (xs,ys) (us,vs) n m)))/\st.length<=r/\Ex [] st st':=by
 have RZ:=fm.1.length
 refine gp ?_
 show Ws (DF [some (cY xs ys),some (cY us vs),none,none,none,none] st) _ _ _ _
 unfold DF
 refine bD (cI ?_)
 kspl_open hQ
 refine ⟨rfl,?_⟩
 refine hQ _ _ (bD (cI ?_))
 clear hQ
 kspl_open hQ
 refine a7 (G5 fl (by omega) (s:=0) (by decide) (by omega)) ?_
 rintro d st1 ⟨rfl,k1⟩
 refine hQ _ _ (bD (cI ?_))
 clear hQ
 kspl_open hQ
 refine a7 (KY fl (by omega) (s:=0) (by decide) (by omega)) ?_
 rintro d st2 ⟨rfl,k2⟩
 have h2:st2[st.length]?=some (.lst []):=(k1.trans k2).keep _ _ j5 (by simp)
 refine hQ _ _ (bD (ny (aI 0 m) (fun i δ st3=>∃ v5:Option D,δ=[some (cY xs ys),some (cY us vs),some (.ref st.length),some (xk xs ys 0 n),some (.tup ((af.inv (af.bf xs ys 0 n)).map D.int)),v5]/\st3[st.length]?=some (.lst ((oA (xs,ys) (us,vs) n m i).map tD))/\Ex [] st st3) ?_ (by rw [jl];omega) ?_ ?_))
 ·clear hQ
  unfold cY
  kspl_open hQ
  rw [List.length_map,RZ]
  exact ⟨by omega,hQ _ _ ⟨by rw [Int.toNat_natCast],none,rfl,h2,(Ex.cm _).trans (k1.trans k2)⟩⟩
 ·rintro i d δ st3 hd ⟨v5,rfl,h3,k3⟩
  have hil:=jf hd
  rw [jl] at hil
  rw [Ar hil,Int.zero_add] at hd
  cases hd
  clear hQ
  kspl_open hQ
  refine hQ _ _ (jP ?_)
  clear hQ
  kspl_open hQ
  refine a7 (G5 fm (by omega) (s:=(i:Int)) (by omega) (by omega)) ?_
  rintro d kO ⟨rfl,k4⟩
  rw [K1,K1]
  set_option simprocs false in simp only [c6,A1]
  have h4:=k4.keep _ _ h3 (by simp)
  refine hQ _ _ ⟨fun hc=>wj ?_,fun hc=>kW ?_⟩
  ·have hc:af.ji (us,vs) m (i:Int)=af.ji (xs,ys) n 0:=Prod.ext (of_decide_eq_true hc).1 (of_decide_eq_true hc).2
   clear hQ
   kspl_open hQ
   refine ⟨tw (by rw [fz h4];rfl),?_⟩
   refine a7 (KG fm.1 fm.2.1 (by omega) (s:=(i:Int)) (by omega) (by omega)) ?_
   rintro d iq ⟨rfl,k5⟩
   have tb:=(xl fl).bf (s:=0) (by decide) (by omega)
   have e1:m=n:=by
    have:=congrArg (fun z:af.b7=>z.1.length) hc
    have this:(af.ji (us,vs) m (i:Int)).1.length=(af.ji (xs,ys) n 0).1.length:=this
    rw [af.JQ (xl fm) (by omega) (by omega),af.JQ (xl fl) (by decide) (by omega)] at this
    exact this
   have tc:=(xl fm).bf (s:=(i:Int)) (by omega) (by omega)
   refine a7 (yi (fun x hx=>by rw [tc.length,e1];exact tb.aw.bound hx) (by rw [tb.aw.length];omega)) ?_
   rintro d xT ⟨rfl,k6⟩
   have h6:=(k5.trans k6).keep _ _ h4 (by simp)
   have hlen:=G6 (xs,ys) (us,vs) n m i
   refine ⟨_,lW h6,jQ (by rw [List.length_map];omega),hQ _ _ ⟨_,rfl,?_,(((k3.trans k4).trans k5).trans k6).loc (Nat.le_refl _)⟩⟩
   rw [List.getElem?_set_self (jf h6),K0 hil,if_pos hc,List.map_append]
   rfl
  ·have hc:¬ af.ji (us,vs) m (i:Int)=af.ji (xs,ys) n 0:=fun z=>of_decide_eq_false hc ⟨congrArg Prod.fst z,congrArg Prod.snd z⟩
   refine ⟨_,rfl,?_,k3.trans k4⟩
   rw [K0 hil,if_neg hc,List.append_nil]
   exact h4
 ·rintro δ st3 ⟨v5,rfl,h3,k3⟩
  rw [jl,Em] at h3
  have hlen:=G6 (xs,ys) (us,vs) n m m
  rw [Em] at hlen
  have hmem:∀ l∈af.q5 (xs,ys) (us,vs) n m,l.length=n:=fun l hl=>RY (xl fl) n0 (by rw [Em];exact hl)
  refine eB ?_
  clear hQ
  kspl_open hQ
  rw [PQ (lW h3) (RW _ 18 _) (xn hmem n0 (by omega))]
  refine hQ _ _ ⟨_,rfl,j5,k3.len,k3.app _⟩
theorem qB {n:Nat} {p:af.b7} (w:af.Wh n p):kN n p.1 p.2:=⟨w.v.1,w.v.2,w.all⟩
theorem K3 {n:Nat} {p q:af.b7} (w:af.Wh n p) (n0:0 < n) (a:af.bO n p q):af.Wh n q:=by
 obtain ⟨g,tg,rfl⟩:=a
 have:=af.rz (qB w) tg n0
 exact ⟨⟨this.1,this.2.1⟩,this.2.2⟩
theorem R0 (p:af.b7) (n:Nat):(aI 0 n).map (fun d=>cY (af.ji p n (inD d)).1 (af.ji p n (inD d)).2)=((af.upto n).map (af.ji p n)).map fun q=>cY q.1 q.2:=by
 rw [A0,List.map_map,List.map_map]
 rfl
theorem yj {st:Store} {xs ys:List Int} {n:Nat} (fl:kN n xs ys) (n0:0 < n) (hn:n<=20):Wp (nz [cY xs ys] st) fun d st'=>d=cY (af.n9 n (xs,ys)).1 (af.n9 n (xs,ys)).2/\Ex [] st st':=by
 have hlx:=fl.1.length
 refine gp ?_
 show Ws (DW [some (cY xs ys)] st) _ _ _ _
 unfold DW
 refine eB ?_
 kspl_open hQ
 refine Kh (aI 0 n) (fun d=>cY (af.ji (xs,ys) n (inD d)).1 (af.ji (xs,ys) n (inD d)).2) ?_ (by rw [jl];omega) ?_ ?_
 ·unfold cY
  kspl_open dC
  rw [List.length_map,hlx]
  exact ⟨by omega,dC _ _ ⟨by rw [Int.toNat_natCast];exact Gr _ _,Ex.refl⟩⟩
 ·intro d hd st2 k2
  rw [A0] at hd
  obtain ⟨x,hx,rfl⟩:=Ki hd
  obtain ⟨x0,x1⟩:=af.lJ.mp hx
  refine de ?_
  intro lQ dC
  set_option simprocs false in simp only [c6,List.map_cons,List.map_nil,List.getD_cons_succ,List.getD_cons_zero]
  refine a7 (G5 fl (by omega) x0 x1) ?_
  rintro d st3 ⟨rfl,k3⟩
  exact dC _ _ ⟨rfl,k3⟩
 ·intro st' k'
  rw [R0,PK (lW j5) (by rw [List.length_map,af.n4];exact n0)]
  exact hQ _ _ ⟨rfl,k'.app _⟩
open Classical in
theorem G7 {st:Store} {Q:D->Store->Prop} {neg:Bool} {n a b:Nat} {ds es:List D} (ha:items st a=some ds) (hb:items st b=some es) (h1:∀ d∈ds,pU n d) (h2:∀ d∈es,pU n d) (hn:n<=14):Wp (eZ neg (.ref a) (.ref b) st) Q↔Q (.bl (if neg then !decide (ds=es) else decide (ds=es))) st:=by
 have p1:∀ (i:Nat) (l:List D),items st i=some l->(∀ d∈l,pU n d)->dc st 20 (.ref i)=some (.list (l.map (jR n))):=fun i l h hl=>by
  simp only [dc,h]
  rw [Gw (g:=jR n) fun x hx=>tH n x (hl x hx) 19 (by omega) st]
  rfl
 have e:PyData.eqv (.list (ds.map (jR n))) (.list (es.map (jR n)))=decide (ds=es):=by
  rw [Gj]
  have:=Gz (A2 n) ds es h1 h2
  cases h:PyData.eqvAll (ds.map (jR n)) (es.map (jR n)) with
  | true=>exact (decide_eq_true (this.mp h)).symm
  | false=>exact (decide_eq_false fun z=>by rw [this.mpr z] at h;cases h).symm
 have ly:∀ l:List D,(∀ d∈l,pU n d)->PyData.canLay0 (.list (l.map (jR n)))=true/\PyData.depth (.list (l.map (jR n)))<=n + 1:=fun l hl=>by
  refine ⟨?_,?_⟩
  ·show PyData.canLayAll0 (l.map (jR n))=true
   exact Gx fun x hx=>by
    obtain ⟨d,hd,rfl⟩:=List.mem_map.mp hx
    exact (Df n d (hl d hd)).1
  ·show PyData.depthAll (l.map (jR n)) + 1<=n + 1
   have:=Gy (n:=n) (l:=l.map (jR n)) fun x hx=>by
    obtain ⟨d,hd,rfl⟩:=List.mem_map.mp hx
    exact (Df n d (hl d hd)).2
   omega
 rw [C8]
 constructor
 ·rintro ⟨p,q,e1,e2,_,h⟩
  rw [p1 a ds ha h1] at e1
  rw [p1 b es hb h2] at e2
  cases e1
  cases e2
  rw [e] at h
  exact h
 ·intro h
  refine ⟨_,_,p1 a ds ha h1,p1 b es hb h2,⟨(ly ds h1).1,(ly es h2).1,?_⟩,?_⟩
  ·have:=(ly ds h1).2
   omega
  ·rw [e];exact h
theorem xo {g:Int} (hg:3<=g) {s:fB} (h:mz g s):mz g (af.jo s):=by
 obtain ⟨b,k⟩:=s
 obtain ⟨h1,h2,h3⟩:=h
 cases b with
 | true =>
  refine ⟨fun z=>Bool.noConfusion (show true=false from z),?_,?_⟩
  ·show ((-k).natAbs:Int)<=g
   rw [Int.natAbs_neg];exact h2
  ·show -k≠0
   exact fun z=>h3 (by show k=0;omega)
 | false =>
  have:=h1 rfl
  simp only at this
  refine ⟨fun _=>⟨by show 1<=4 - k;omega,by show 4 - k<=3;omega⟩,?_,?_⟩
  ·show ((4 - k).natAbs:Int)<=g
   omega
  ·show 4 - k≠0
   omega
theorem K4 {g:Int} (hg:3<=g) {w:List fB} (h:∀ s∈w,mz g s):∀ s∈af.gB w,mz g s:=fun s hs=>by
 unfold af.gB at hs
 obtain ⟨t,ht,rfl⟩:=List.mem_map.mp (List.mem_reverse.mp hs)
 exact xo hg (h t ht)
theorem K5 (w:List fB):(af.gB w).length=w.length:=by unfold af.gB;rw [List.length_reverse,List.length_map]
theorem yk {g:Int} {s:fB} (h:mz g s):af.ek s:=⟨h.1,h.2.2⟩
theorem G8 {g:Int} {v w:List fB} (h1:∀ s∈v,mz g s) (h2:∀ s∈w,mz g s):∀ s∈v ++ w,mz g s:=fun s hs=>by
 rcases List.mem_append.mp hs with h | h
 ·exact h1 s h
 ·exact h2 s h
theorem B6 {w:List fB} (h:∀ s∈w,af.ek s):∀ s∈w,GY s:=fun s hs=>(h s hs).1
theorem B7:∀ (w:List fB) (p:List Int×List Int),kP p w=af.je p w:=by
 have hq:∀ (p:List Int×List Int) (j:Nat),qz p.1 p.2 j=af.mG j p:=fun p j=>by
  induction j with
  | zero=>rfl
  | succ j ih=>show (af.inv (qz p.1 p.2 j).2,(qz p.1 p.2 j).1)=af.Qt (af.mG j p);rw [ih];rfl
 have hs:∀ (p:List Int×List Int) (s:fB),jm p s=af.stM p s:=fun p s=>by
  unfold jm af.stM
  rw [hq]
  rfl
 intro w
 induction w with
 | nil=>intro p;rfl
 | cons s w ih =>
  intro p
  show kP (jm p s) w=af.je (af.stM p s) w
  rw [hs,ih]
theorem qc {w:List fB} (h:∀ s∈w,mz 20 s):∀ s∈w,af.ek s/\s.2.natAbs<=1099511627776:=fun s hs=>⟨yk (h s hs),by have:=(h s hs).2.1;omega⟩
theorem xq {w:List fB} (h:∀ s∈w,mz 20 s):∀ s∈w,af.ek s/\s.2.natAbs<=20:=fun s hs=>⟨yk (h s hs),by have:=(h s hs).2.1;omega⟩
def kG:List fB:=[(true,1),(false,1),(true,1),(false,1),(true,1),(false,1),(false,2)]
theorem G9:∀ s∈kG,mz 20 s:=by
 intro s hs
 simp only [kG,List.mem_cons,List.not_mem_nil,or_false] at hs
 rcases hs with rfl | rfl | rfl | rfl | rfl | rfl | rfl <;> exact ⟨fun _=>by decide,by decide,by decide⟩
theorem K7:af.aH kG=af.T4.one:=rfl
theorem B8:af.T4.one.pJ=af.T4.one:=rfl
theorem R1:af.aH (af.gB kG)=af.T4.one:=by
 rw [af.CM fun s hs=>yk (G9 s hs),K7];exact B8
theorem R3 {st:Store} {f:Nat} (hf:bx st f):Wp (Ba [.ref f] st) fun d st'=>∃ w:List fB,d=.tup (w.map bS)/\(∀ s∈w,mz 20 s)/\w.length<=7/\af.aH w=af.T4.one/\bx st' f/\Ex [f] st st':=by
 refine gp ?_
 show Ws (Dp [some (.ref f),none,none,none] st) _ _ _ _
 unfold Dp
 refine bD (cI ?_)
 kspl_open hQ
 refine a7 (qa (n:=3) hf (by decide) (by decide)) ?_
 rintro d st1 ⟨c,rfl,c0,c1,f1,k1⟩
 refine hQ _ _ (bD (cI ?_))
 clear hQ
 refine de ?_
 intro eh hQ
 set_option simprocs false in simp only [c6,P1]
 refine ⟨rfl,rfl,rfl,⟨by decide,by decide,by decide,by decide⟩,rfl,rfl,rfl,?_⟩
 have eL:(List.replicate (Int.toNat 3) [D.tup [D.str (Str.ofString "s"),D.int 1],D.tup [D.str (Str.ofString "t"),D.int 1]]).flatten ++ [D.tup [D.str (Str.ofString "t"),D.int 2]]=kG.map bS:=rfl
 rw [eL]
 refine hQ _ _ (bD (jP ?_))
 clear hQ
 kspl_open hQ
 refine hQ _ _ ⟨fun hc=>bD (cI ?_),fun hc=>kW (eB ?_)⟩
 ·clear hQ
  kspl_open hQ
  refine a7 (KO (most:=3) (great:=20) f1 (by decide) (by decide) (by decide) (by decide)) ?_
  rintro d st2 ⟨w,rfl,hw,hwl,f2,k2⟩
  refine hQ _ _ (eB ?_)
  clear hQ
  kspl_open hQ
  refine a7 (KS (w:=w) (by omega)) ?_
  rintro d st3 ⟨rfl,k3⟩
  w_how
  have hb:=K5 w
  rw [<- List.map_append]
  refine ⟨jQ (by rw [List.length_map,List.length_map];omega),hQ _ _ ⟨w ++ af.gB w,rfl,G8 hw (K4 (by decide) hw),by rw [List.length_append];omega,af.CU fun s hs=>yk (hw s hs),f2.keep k3,(k1.trans k2).trans k3.any⟩⟩
 ·clear hQ
  have hc:¬ c=2:=by simpa using hc
  kspl_open hQ
  refine a7 (KS (w:=kG) (by decide)) ?_
  rintro d st3 ⟨rfl,k3⟩
  refine ⟨rfl,?_⟩
  rcases (show c=0\/c=1 by omega) with rfl | rfl
  ·exact ⟨_,Dc _ _,hQ _ _ ⟨kG,rfl,G9,by decide,K7,f1.keep (k3.trans (Ex.cm _)),k1.trans (k3.trans (Ex.cm _)).any⟩⟩
  ·exact ⟨_,Dd _ _ _,hQ _ _ ⟨af.gB kG,rfl,K4 (by decide) G9,by decide,R1,f1.keep (k3.trans (Ex.cm _)),k1.trans (k3.trans (Ex.cm _)).any⟩⟩
theorem R4 {st:Store} {xs ys:List Int} {n:Nat} {w:List fB} (fl:kN n xs ys) (n0:0 < n) (hn:n<=20) (hw:∀ s∈w,af.ek s) (hl:(af.aH w).le 16777216):Wp (BU [cY xs ys,jI (af.aH w)] st) fun d st'=>d=cY (af.n9 n (af.je (xs,ys) w)).1 (af.n9 n (af.je (xs,ys) w)).2/\Ex [] st st':=by
 have wh:=xl fl
 refine gp ?_
 show Ws (D9 [some (cY xs ys),some (jI (af.aH w))] st) _ _ _ _
 unfold D9
 refine eB ?_
 kspl_open hQ
 refine a7 (RT hl (af.CV hw)) ?_
 rintro d st1 ⟨u,rfl,hu,SA,eu,k1⟩
 refine a7 (B3 (p:=(xs,ys)) ⟨fl.1,fl.2.1⟩ (by omega) (B6 hu) (by omega)) ?_
 rintro d st2 ⟨rfl,k2⟩
 rw [B7]
 have wu:=wh.ld n0 (w:=u)
 refine a7 (yj (xs:=(af.je (xs,ys) u).1) (ys:=(af.je (xs,ys) u).2) (qB wu) n0 hn) ?_
 rintro d st3 ⟨rfl,k3⟩
 refine hQ _ _ ⟨?_,(k1.trans k2).trans k3⟩
 have e:af.n9 n (af.je (xs,ys) u)=af.n9 n (af.je (xs,ys) w):=af.FU n0 wu.v (af.JO hu hw eu wh.v)
 show cY (af.n9 n (af.je (xs,ys) u)).1 (af.n9 n (af.je (xs,ys) u)).2=_
 rw [e]
theorem R5 {st:Store} {Q:D->Store->Prop} {neg:Bool} {A B:af.T4}:Wp (eZ neg (jI A) (jI B) st) Q↔Q (.bl (if neg then !decide ([A.a,A.b,A.c,A.d]=[B.a,B.b,B.c,B.d]) else decide ([A.a,A.b,A.c,A.d]=[B.a,B.b,B.c,B.d]))) st:=Pe (L:=[A.a,A.b,A.c,A.d]) (M:=[B.a,B.b,B.c,B.d])
theorem K8 {n:Nat} {p q:af.b7} {g:List Int} (wp:af.Wh n p) (wq:af.Wh n q) (n0:0 < n):g∈af.q5 p q n n↔af.Cg n p q g:=by
 constructor
 ·intro h
  obtain ⟨s,hs,rfl⟩:=List.mem_map.mp h
  obtain ⟨h1,h2⟩:=List.mem_filter.mp hs
  obtain ⟨s0,s1⟩:=af.lJ.mp h1
  exact (af.zW wp wq (s:=0) (by decide) (by omega) s0 s1 (of_decide_eq_true h2).symm).1
 ·intro c
  have b:=c.1.app (i:=0) (by decide) (by omega)
  exact List.mem_map.mpr ⟨af.app g 0,List.mem_filter.mpr ⟨af.lJ.mpr b,decide_eq_true (af.zX wp.v c (s:=0) (by decide) (by omega))⟩,af.zY wp c (s:=0) (by decide) (by omega)⟩
theorem K9 {n:Nat} {p q:af.b7} (wp:af.Wh n p) (n0:0 < n) (a:af.bO n p q):af.q5 p q n n≠[]:=fun z=>by
 obtain ⟨g,tg,e⟩:=a
 have wq:=K3 wp n0 ⟨g,tg,e⟩
 have:=(K8 wp wq n0).mpr ⟨tg,e⟩
 rw [z] at this
 cases this
theorem R6 {st:Store} {xs ys q:List Int} {n:Nat} {w v:List fB} (fl:kN n xs ys) (n0:0 < n) (hn:n<=20) (hw:∀ s∈w,mz 20 s) (hv:∀ s∈v,mz 20 s) (wl:w.length<=4) (vl:v.length<=11) (e:af.aH v=af.aH w) (tq:af.Tn n q):Wp (BW [cY xs ys,.tup (w.map bS),.tup (v.map bS),.tup (q.map D.int)] st) fun d st'=>d=.bl true/\Ex [] st st':=by
 have wh:=xl fl
 have pw:=fun s hs=>yk (hw s hs)
 have pv:=fun s hs=>yk (hv s hs)
 have wA:=wh.ld n0 (w:=w)
 have wB:=wh.ld n0 (w:=v)
 have En:af.bO n (af.je (xs,ys) w) (af.je (xs,ys) v):=af.JO pw pv e.symm wh.v
 refine gp ?_
 show Ws (Ea [some (cY xs ys),some (.tup (w.map bS)),some (.tup (v.map bS)),some (.tup (q.map D.int)),none,none,none,none,none] st) _ _ _ _
 unfold Ea
 refine bD (wg ?_)
 refine de ?_
 intro eh hQ
 w_how
 refine a7 (B3 (p:=(xs,ys)) ⟨fl.1,fl.2.1⟩ (by omega) (B6 pw) (by omega)) ?_
 rintro d st1 ⟨rfl,k1⟩
 refine a7 (B3 (p:=(xs,ys)) ⟨fl.1,fl.2.1⟩ (by omega) (B6 pv) (by omega)) ?_
 rintro d st2 ⟨rfl,k2⟩
 rw [B7,B7]
 generalize hA:af.je (xs,ys) w=A at wA En ⊢
 generalize hB:af.je (xs,ys) v=B at wB En ⊢
 refine ⟨rfl,hQ _ _ ?_⟩
 clear hQ
 refine de ?_
 intro eh hQ
 w_how
 refine ⟨rfl,hQ _ _ (bD (jP ?_))⟩
 clear hQ
 refine de ?_
 intro eh hQ
 w_how
 refine a7 (B4 (w:=w) (qc hw) (by omega)) ?_
 rintro d st3 ⟨rfl,k3⟩
 refine a7 (B4 (w:=v) (qc hv) (by omega)) ?_
 rintro d kO ⟨rfl,k4⟩
 rw [e,R5,if_pos rfl,decide_eq_true rfl]
 refine ⟨_,rfl,?_⟩
 rw [if_neg (by decide)]
 have eF:af.n9 n A=af.n9 n B:=af.FU n0 wA.v En
 refine a7 (yj (xs:=A.1) (ys:=A.2) (qB wA) n0 hn) ?_
 rintro d iq ⟨rfl,k5⟩
 refine a7 (yj (xs:=B.1) (ys:=B.2) (qB wB) n0 hn) ?_
 rintro d xT ⟨rfl,k6⟩
 rw [show ((B.1,B.2):af.b7)=B from rfl,show ((A.1,A.2):af.b7)=A from rfl,<- eF,A1,if_pos rfl,decide_eq_true rfl]
 refine ⟨_,rfl,hQ _ _ ⟨fun z=>absurd z (by decide),fun _=>kW (bD (cI ?_))⟩⟩
 clear hQ
 refine de ?_
 intro eh hQ
 w_how
 refine a7 (K2 (xs:=A.1) (ys:=A.2) (us:=B.1) (vs:=B.2) (qB wA) (qB wB) n0 hn hn) ?_
 rintro d qk ⟨r,rfl,h7,hr,k7⟩
 obtain ⟨M,eM,lM,mM⟩:=KZ (af.q5 A B n n)
 have hne:M≠[]:=fun z=>K9 wA n0 En (by
  rw [z] at lM
  exact List.length_eq_zero_iff.mp lM.symm)
 have SD:M.length<=n:=by
  rw [lM]
  have:=G6 A B n n n
  rwa [Em] at this
 change qk[r]?=some (O.lst (nO (af.q5 A B n n))) at h7
 rw [eM] at h7
 have R7:=((((((k1.trans k2).trans k3).trans k4).trans k5).trans k6).trans k7)
 refine hQ _ _ (bD (cI ?_))
 clear hQ
 refine de ?_
 intro eh hQ
 w_how
 refine PU (M.map tD) (fun _=>false) (fun d=>d) ?_ (by rw [List.length_map];omega) ?_ ?_ ?_
 ·kspl_open dC
  exact ⟨_,fz h7,dC _ _ ⟨Kg (fz h7),Ex.refl⟩⟩
 ·intro d hd s1 SE
  obtain ⟨g,hg,rfl⟩:=List.mem_map.mp hd
  have cg:=(K8 wA wB n0).mp (mM g hg)
  refine de ?_
  intro lQ dC
  set_option simprocs false in simp only [c6,List.map_cons,List.map_nil,List.getD_cons_succ,List.getD_cons_zero]
  refine a7 (GQ (xs:=A.1) (ys:=A.2) (p:=g) wA.v.1 wA.v.2 cg.1 (by omega)) ?_
  rintro d s2 ⟨rfl,R8⟩
  have e1:af.anew A.1 g=B.1:=(congrArg Prod.fst cg.2).symm
  have e2:af.anew A.2 g=B.2:=(congrArg Prod.snd cg.2).symm
  rw [e1,e2]
  show Wp (eZ true (cY B.1 B.2) (cY B.1 B.2) s2) _
  rw [A1,if_pos rfl,decide_eq_true rfl]
  exact ⟨_,rfl,dC _ _ ⟨rfl,R8⟩⟩
 ·intro d hd z
  cases z
 ·intro d9 k8
  rw [List.filter_eq_nil_iff.mpr (fun _ _=>Bool.false_ne_true),List.map_nil]
  have h8:=k8.keep _ _ h7 (by simp)
  have hrl:r < d9.length:=jf h8
  show eh _ _
  refine hQ _ _ (bD (jP ?_))
  clear hQ
  refine de ?_
  intro eh hQ
  w_how
  refine ⟨rfl,?_⟩
  rw [G7 (n:=1) (ds:=M.map tD) (es:=[]) (fz (lO (lO h8))) tu (fun d hd=>by
   obtain ⟨g,_,rfl⟩:=List.mem_map.mp hd
   exact Kn 0 g) (fun d hd=>nomatch hd) (by decide)]
  refine ⟨_,rfl,?_⟩
  rw [if_neg (by simp [hne])]
  refine ⟨rfl,?_⟩
  rw [G7 (n:=1) (ds:=[]) (es:=[]) (fz (lO (lO j5))) tu (fun d hd=>nomatch hd) (fun d hd=>nomatch hd) (by decide)]
  refine ⟨_,rfl,hQ _ _ ⟨fun z=>absurd z (by decide),fun _=>kW (bD (cI ?_))⟩⟩
  have La:Ex [] st (d9 ++ [O.lst []] ++ [O.lst []] ++ [O.lst []]):=(((R7.trans k8).app _).app _).app _
  generalize d9 ++ [O.lst []] ++ [O.lst []] ++ [O.lst []]=t0 at La ⊢
  clear hQ
  refine de ?_
  intro eh hQ
  w_how
  refine a7 (GQ (xs:=xs) (ys:=ys) (p:=q) fl.1 fl.2.1 tq (by omega)) ?_
  rintro d t1 ⟨rfl,m1⟩
  have aQ:af.bO n (xs,ys) (af.anew xs q,af.anew ys q):=⟨q,tq,rfl⟩
  have wQ:=K3 wh n0 aQ
  refine a7 (B3 (p:=(af.anew xs q,af.anew ys q)) wQ.v (by omega) (B6 pv) (by omega)) ?_
  rintro d t2 ⟨rfl,m2⟩
  rw [B7]
  have Ha:=af.bO.ld (w:=v) wh.v aQ
  have wC:=wQ.ld n0 (w:=v)
  rw [hB] at Ha
  generalize af.je (af.anew xs q,af.anew ys q) v=C at Ha wC ⊢
  have eC:af.n9 n C=af.n9 n A:=by rw [eF];exact (af.FU n0 wB.v Ha).symm
  refine hQ _ _ (bD (jP ?_))
  clear hQ
  refine de ?_
  intro eh hQ
  w_how
  refine a7 (yj (xs:=C.1) (ys:=C.2) (qB wC) n0 hn) ?_
  rintro d t3 ⟨rfl,m3⟩
  refine a7 (yj (xs:=A.1) (ys:=A.2) (qB wA) n0 hn) ?_
  rintro d t4 ⟨rfl,m4⟩
  rw [show ((C.1,C.2):af.b7)=C from rfl,show ((A.1,A.2):af.b7)=A from rfl,eC,A1,if_pos rfl,decide_eq_true rfl]
  refine ⟨_,rfl,?_⟩
  rw [if_neg (by decide)]
  refine a7 (B4 (w:=w) (qc hw) (by omega)) ?_
  rintro d t5 ⟨rfl,m5⟩
  refine a7 (R4 (w:=w) fl n0 hn pw (G1 (af.NL (B:=20) (n:=4) (xq hw) wl) (by decide))) ?_
  rintro d t6 ⟨rfl,m6⟩
  refine a7 (yj (xs:=A.1) (ys:=A.2) (qB wA) n0 hn) ?_
  rintro d t7 ⟨rfl,m7⟩
  rw [hA,show ((A.1,A.2):af.b7)=A from rfl,A1,if_pos rfl,decide_eq_true rfl]
  refine ⟨_,rfl,hQ _ _ ⟨fun z=>absurd z (by decide),fun _=>kW (eB ?_)⟩⟩
  clear hQ
  refine de ?_
  intro eh hQ
  w_how
  refine a7 (KQ (w:=w) (by omega)) ?_
  rintro d t8 ⟨rfl,m8⟩
  have qy:=K5 w
  refine a7 (B3 (p:=A) wA.v (by omega) (B6 (af.zV pw)) (by omega)) ?_
  rintro d t9 ⟨rfl,m9⟩
  rw [B7]
  have wE:=wA.ld n0 (w:=af.gB w)
  have aE:af.bO n (af.je A (af.gB w)) (xs,ys):=by
   rw [<- hA,<- af.FR]
   exact af.FT (fun s hs=>by
    rcases List.mem_append.mp hs with h | h
    ·exact pw s h
    ·exact af.zV pw s h) (af.CU pw) wh.v
  generalize af.je A (af.gB w)=E at wE aE ⊢
  refine a7 (K2 (xs:=E.1) (ys:=E.2) (us:=xs) (vs:=ys) (qB wE) fl n0 hn hn) ?_
  rintro d u1 ⟨r2,rfl,g1,_,R9⟩
  obtain ⟨M2,Sb,Lb,SF⟩:=KZ (af.q5 E (xs,ys) n n)
  change u1[r2]?=some (O.lst (nO (af.q5 E (xs,ys) n n))) at g1
  have Hb:M2≠[]:=fun z=>K9 wE n0 aE (by
   rw [z] at Lb
   exact List.length_eq_zero_iff.mp Lb.symm)
  rw [Sb] at g1
  refine ⟨rfl,?_⟩
  rw [G7 (n:=1) (ds:=M2.map tD) (es:=[]) (fz (lO g1)) tu (fun d hd=>by
   obtain ⟨g,_,rfl⟩:=List.mem_map.mp hd
   exact Kn 0 g) (fun d hd=>nomatch hd) (by decide)]
  refine hQ _ _ ⟨by simp [Hb],?_⟩
  exact (((((((((((La.trans m1).trans m2).trans m3).trans m4).trans m5).trans m6).trans m7).trans m8).trans m9).trans R9).app _)
theorem qd (ns:List Int) (hn:ns.length<=63):Wp (GI [.ref 0] [.oe (ns.map D.int)]) fun d _=>d=.bl true:=by
 refine gp ?_
 show Ws (Eb [some (.ref 0),none,none,none,none,none,none,none] [.oe (ns.map D.int)]) _ _ _ _
 unfold Eb
 have Sd:(cutD (ns.map D.int) none (some (6:Int))).length<=6:=by
  have:=Gq (ns.map D.int) 6
  rw [show (some (6:Int))=some ((6:Nat):Int) from rfl,this,List.length_take];omega
 obtain ⟨m,hm,SG⟩:∃ m:Nat,(if ((cutD (ns.map D.int) none (some (6:Int))).length:Int) > 2 then ((cutD (ns.map D.int) none (some (6:Int))).length:Int) else 2)=(m:Int)/\m<=6:=by
  split
  ·exact ⟨_,rfl,Sd⟩
  ·exact ⟨2,rfl,by decide⟩
 refine bD (ny (aI 0 m) (fun i δ st=>∃ (v1 v2 v3 v4 v5 v6 v7:Option D),δ=[some (.ref 0),v1,v2,v3,v4,v5,v6,v7]/\st[0]?=some (.oe (ns.map D.int))) ?_ (by rw [jl];omega) ?_ ?_)
 ·have Se:([O.oe (ns.map D.int)]:Store)[0]?=some (.oe (ns.map D.int)):=rfl
  refine de ?_
  intro eh hQ
  set_option simprocs false in simp only [c6,Ka Se,hm]
  exact ⟨by omega,hQ _ _ ⟨by rw [Int.toNat_natCast],none,none,none,none,none,none,none,rfl,rfl⟩⟩
 ·rintro i d δ st hd ⟨v1,v2,v3,v4,v5,v6,v7,rfl,h0⟩
  have hil:=jf hd
  rw [jl] at hil
  rw [Ar hil,Int.zero_add] at hd
  cases hd
  kspl_open hQ
  refine hQ _ _ (bD (cI ?_))
  clear hQ
  kspl_open hQ
  refine a7 (Q0 (a:=0) (ns:=ns) (k:=i) (Ka h0) (by omega)) ?_
  rintro d st2 ⟨rfl,f2,k2⟩
  generalize hF:st.length=ff at f2 ⊢
  have SH:0 < ff:=by rw [<- hF];exact jf h0
  have h02:=k2.keep _ _ h0 (by simp)
  refine hQ _ _ (bD (cI ?_))
  clear hQ
  kspl_open hQ
  refine a7 (R3 f2) ?_
  rintro d st3 ⟨nw,rfl,hnw,hnl,hnt,f3,k3⟩
  refine hQ _ _ (bD (cI ?_))
  clear hQ
  kspl_open hQ
  refine a7 (KO (most:=4) (great:=20) f3 (by decide) (by decide) (by decide) (by decide)) ?_
  rintro d kO ⟨w,rfl,hw,hwl,f4,k4⟩
  refine hQ _ _ (bD (cI ?_))
  clear hQ
  kspl_open hQ
  rw [List.length_map]
  refine a7 (qa (n:=(w.length:Int) + 1) f4 (by omega) (by omega)) ?_
  rintro d iq ⟨at',rfl,a0,a1,f5,k5⟩
  obtain ⟨j,rfl⟩:∃ j:Nat,at'=(j:Int):=⟨at'.toNat,by omega⟩
  refine hQ _ _ (bD (cI ?_))
  clear hQ
  kspl_open hQ
  refine a7 (qa (n:=8) f5 (by decide) (by decide)) ?_
  rintro d xT ⟨n1,rfl,SI,SJ,f6,k6⟩
  w_how
  obtain ⟨n,rfl⟩:∃ n:Nat,n1=(n:Int) - 1:=⟨(n1 + 1).toNat,by omega⟩
  rw [show (1:Int) + ((n:Int) - 1)=(n:Int) by omega]
  refine a7 (Q9 (n:=n) f6 (by omega) (by omega)) ?_
  rintro d qk ⟨xs,ys,rfl,fl,f7,k7⟩
  refine hQ _ _ (bD (cI ?_))
  clear hQ
  kspl_open hQ
  unfold cY
  w_how
  rw [List.length_map,fl.1.length]
  refine a7 (GJ (n:=n) f7 (by omega)) ?_
  rintro d d9 ⟨q,rfl,tq,f8,k8⟩
  refine hQ _ _ (jP ?_)
  clear hQ
  refine de ?_
  intro eh hQ
  set_option simprocs false in simp only [c6,Gq,Pj]
  have eV:List.take j (w.map bS) ++ nw.map bS ++ List.drop j (w.map bS)=(w.take j ++ nw ++ w.drop j).map bS:=by
   rw [List.map_append,List.map_append,List.map_take,List.map_drop]
  have hV:∀ s∈w.take j ++ nw ++ w.drop j,mz 20 s:=G8 (G8 (fun s hs=>hw s (List.mem_of_mem_take hs)) hnw) fun s hs=>hw s (List.mem_of_mem_drop hs)
  have Sf:(w.take j ++ nw ++ w.drop j).length<=11:=by
   rw [List.length_append,List.length_append,List.length_take,List.length_drop];omega
  have hVt:af.aH (w.take j ++ nw ++ w.drop j)=af.aH w:=by
   rw [af.oS,af.oS,hnt,af.T4.one_mul,<- af.oS,List.take_append_drop]
  have kk:Ex [ff] st2 d9:=((((k3.trans k4).trans k5).trans k6).trans k7).trans k8
  have Sg:=kk.keep _ _ h02 (by simp;omega)
  have SK:(List.take j (w.map bS)).length<=4:=by rw [List.length_take,List.length_map];omega
  have SM:(List.drop j (w.map bS)).length<=4:=by rw [List.length_drop,List.length_map];omega
  refine ⟨jQ (by rw [List.length_map];omega),jQ (by rw [List.length_append,List.length_map];omega),?_⟩
  rw [eV]
  refine a7 (R6 fl (by omega) (by omega) hw hV (by omega) Sf hVt tq) ?_
  rintro d lV ⟨rfl,k9⟩
  exact ⟨_,rfl,hQ _ _ ⟨fun z=>absurd z (by decide),fun _=>kW ⟨_,_,_,_,_,_,_,rfl,k9.keep _ _ Sg (by simp)⟩⟩⟩
 ·rintro δ s ⟨v1,v2,v3,v4,v5,v6,v7,rfl,h0⟩
  refine eB ?_
  kspl_open hQ
  exact hQ _ _ rfl
theorem xr {P:Program} {w:World} {K:PySem.W.Frag} {mg:Str->Option Value} {base:Heap} (T:Txt mg) {lz:V} (jV:o8 K mg "QUARTER" lz (.tup [(.int 0),(.int (-1)),(.int 1),(.int 0)])) {iC:V} (d5:o8 K mg "UNMOVED" iC (.tup [(.int 1),(.int 0),(.int 0),(.int 1)])) {gX:Addr} {gY:FuncData} (dN:Def K mg "_law_feed" A8 ["_law_script","_law_k"] gX gY) {a5:Addr} {a6:FuncData} (aj:Def K mg "_law_take" rA ["_law_feed_here","_law_many"] a5 a6) {df:Addr} {dg:FuncData} (bI:Def K mg "_law_word" x3 ["_law_feed_here","_law_most","_law_great"] df dg) {gE:Addr} {gG:FuncData} (cn:Def K mg "_law_back" A9 ["_law_word_here"] gE gG) {dX:Addr} {dY:FuncData} (cF:Def K mg "_law_nothing" Bb ["_law_feed_here"] dX dY) {bX:Addr} {bY:FuncData} (aN:Def K mg "_law_turning" x4 ["_law_feed_here","_law_n"] bX bY) {iU:Addr} {iW:FuncData} (cU:Def K mg "_law_met" Bc ["_law_floor_here"] iU iW) {fN:Addr} {fO:FuncData} (dr:Def K mg "_law_floor" Bf ["_law_feed_here","_law_n"] fN fO) {bp:Addr} {bq:FuncData} (aL:Def K mg "turned_back" wX ["turning"] bp bq) {cx:Addr} {cy:FuncData} (aG:Def K mg "followed" wY ["one","other"] cx cy) {cq:Addr} {cu:FuncData} (aV:Def K mg "called_anew" x5 ["floor","p"] cq cu) {b5:Addr} {b6:FuncData} (a9:Def K mg "squares_from" x6 ["floor","s"] b5 b6) {bz:Addr} {bA:FuncData} (aU:Def K mg "numbering_from" x9 ["floor","s"] bz bA) {bJ:Addr} {bK:FuncData} (aJ:Def K mg "numbered_from" ya ["floor","s"] bJ bK) {ja:Addr} {jb:FuncData} (cX:Def K mg "callings" Bg ["one","other"] ja jb) {gI:Addr} {gJ:FuncData} (dH:Def K mg "ring_from" Bj ["turning","first"] gI gJ) {iY:Addr} {iZ:FuncData} (eQ:Def K mg "rings_of" Bl ["turning"] iY iZ) {mw:Addr} {mx:FuncData} (kn:Def K mg "often" Bn ["turning","k"] mw mx) {jT:Addr} {jU:FuncData} (gq:Def K mg "sheared" Bq ["floor","k"] jT jU) {gK:Addr} {gL:FuncData} (dI:Def K mg "quartered" Bs ["floor"] gK gL) {eE:Addr} {eG:FuncData} (cV:Def K mg "led_by_step" Bu ["floor","step"] eE eG) {gU:Addr} {gW:FuncData} (bw:Def K mg "led_by" yc ["floor","word"] gU gW) {fS:Addr} {fT:FuncData} (c5:Def K mg "times" w4 ["one","other"] fS fT) {fH:Addr} {fI:FuncData} (dk:Def K mg "step_table" Bw ["step"] fH fI) {cB:Addr} {cC:FuncData} (aS:Def K mg "table_of" w6 ["word"] cB cC) {fe:Addr} {fg:FuncData} (aZ:Def K mg "form_of" yd ["floor"] fe fg) {i3:Addr} {i5:FuncData} (eR:Def K mg "led_pair" By ["table","pair"] i3 i5) {gO:Addr} {gP:FuncData} (cJ:Def K mg "shears" ye ["k"] gO gP) {jW:Addr} {jX:FuncData} (gs:Def K mg "nearest" BA ["number","divisor"] jW jX) {eI:Addr} {eJ:FuncData} (cW:Def K mg "level_steps" BD ["pair"] eI eJ) {kX:Addr} {kY:FuncData} (i6:Def K mg "joined" BF ["one","other"] kX kY) {fJ:Addr} {fK:FuncData} (dm:Def K mg "made_plain" BH ["word"] fJ fK) {dR:Addr} {dS:FuncData} (cD:Def K mg "put_together" BK ["one","other"] dR dS) {i7:Addr} {i9:FuncData} (eT:Def K mg "is_table" BM ["thing"] i7 i9) {fL:Addr} {fM:FuncData} (dn:Def K mg "level_word" BO ["table"] fL fM) {gR:Addr} {gS:FuncData} (dJ:Def K mg "back_step" BQ ["step"] gR gS) {dh:Addr} {di:FuncData} (bM:Def K mg "back_word" yg ["word"] dh di) {jY:Addr} {jZ:FuncData} (gu:Def K mg "word_of" BS ["table"] jY jZ) {dU:Addr} {dW:FuncData} (cE:Def K mg "led_by_table" BV ["floor","table"] dU dW) {fP:Addr} {fQ:FuncData} (du:Def K mg "_law_right" BX ["_law_floor_here","_law_word_here","_law_other","_law_p"] fP fQ) {B9:Addr} {Ca:FuncData} (Hc:Def K mg "law" Ec ["_law_script"] B9 Ca):ay P w K mg base bj 9 B9 Ca ["_law_script"] (br K 1 GI):=by
 have jy:=P4 (P:=P) (w:=w) (base:=base) dN T
 have aK:=P5 (P:=P) (w:=w) (base:=base) aj T
 have dG:=P6 (P:=P) (w:=w) (base:=base) bI T  aj aK
 have gH:=P8 (P:=P) (w:=w) (base:=base) cn T
 have fW:=P9 (P:=P) (w:=w) (base:=base) cF T  aj aK bI dG cn gH
 have bZ:=Qa (P:=P) (w:=w) (base:=base) aN T  aj aK
 have iX:=Qb (P:=P) (w:=w) (base:=base) cU T
 have iG:=Qc (P:=P) (w:=w) (base:=base) dr T  aj aK aN bZ cU iX
 have bH:=Qd (P:=P) (w:=w) (base:=base) aL T
 have bQ:=Qf (P:=P) (w:=w) (base:=base) aG T
 have cv:=Qg (P:=P) (w:=w) (base:=base) aV T  aL bH aG bQ
 have cz:=Qh (P:=P) (w:=w) (base:=base) a9 T
 have bR:=Qj (P:=P) (w:=w) (base:=base) aU T  aL bH a9 cz
 have bL:=Ql (P:=P) (w:=w) (base:=base) aJ T  aV cv aU bR
 have jc:=Qm (P:=P) (w:=w) (base:=base) cX T  aJ bL aU bR aG bQ a9 cz
 have jv:=Qn (P:=P) (w:=w) (base:=base) dH T
 have km:=Qo (P:=P) (w:=w) (base:=base) eQ T  dH jv
 have nL:=Qp (P:=P) (w:=w) (base:=base) kn T  eQ km
 have lx:=Qr (P:=P) (w:=w) (base:=base) gq T  aG bQ kn nL
 have jw:=Qu (P:=P) (w:=w) (base:=base) dI T  aL bH
 have gM:=Qv (P:=P) (w:=w) (base:=base) cV T  gq lx dI jw
 have eK:=Qw (P:=P) (w:=w) (base:=base) bw T  cV gM
 have gN:=Qy (P:=P) (w:=w) (base:=base) c5 T
 have iD:=Qz (P:=P) (w:=w) (base:=base) dk T jV d5 c5 gN
 have cb:=QA (P:=P) (w:=w) (base:=base) aS T d5 c5 gN dk iD
 have c9:=QC (P:=P) (w:=w) (base:=base) aZ T  aJ bL
 have ko:=QE (P:=P) (w:=w) (base:=base) eR T
 have gQ:=QG (P:=P) (w:=w) (base:=base) cJ T
 have lA:=QI (P:=P) (w:=w) (base:=base) gs T
 have gT:=QJ (P:=P) (w:=w) (base:=base) cW T  eR ko cJ gQ aS cb gs lA
 have my:=QK (P:=P) (w:=w) (base:=base) i6 T
 have iE:=QL (P:=P) (w:=w) (base:=base) dm T  i6 my
 have fU:=QN (P:=P) (w:=w) (base:=base) cD T  dm iE
 have kq:=QP (P:=P) (w:=w) (base:=base) eT T
 have iF:=QR (P:=P) (w:=w) (base:=base) dn T  cJ gQ
 have jx:=QT (P:=P) (w:=w) (base:=base) dJ T
 have dM:=QV (P:=P) (w:=w) (base:=base) bM T  dJ jx
 have lB:=QW (P:=P) (w:=w) (base:=base) gu T  cW gT cD fU eT kq dn iF bM dM c5 gN aS cb
 have fV:=QY (P:=P) (w:=w) (base:=base) cE T  aZ c9 bw eK gu lB
 have iH:=QZ (P:=P) (w:=w) (base:=base) du T  cX jc bw eK aV cv aS cb aZ c9 cE fV bM dM
 have Hd:=w8 (P:=P) (w:=w) (base:=base) Hc T  dN jy cF fW bI dG aj aK dr iG aN bZ du iH
 exact Hd
end My
open PySem PySem.W PyProof.Rows L2
theorem PySem.W.Fast.tw4463206963600148111:True:=trivial
theorem PySem.W.Fast.tw5595656505278671649:True:=trivial
theorem PySem.W.Fast.tw14895573459465242270:True:=trivial
theorem PySem.W.Fast.tw14642950124585326928:True:=trivial
theorem PySem.W.Fast.tw14113334372039542410:True:=trivial
theorem PySem.W.Fast.tw2205981545394953611:True:=trivial
theorem PySem.W.Fast.tw8273681517550326287:True:=trivial
theorem PySem.W.Fast.tw15936122526626902449:True:=trivial
theorem PySem.W.Fast.tw8550121676805550029:True:=trivial
theorem PySem.W.Fast.tw12756516348051912520:True:=trivial
theorem PySem.W.Fast.tw12610308504869753021:True:=trivial
theorem PySem.W.Fast.tw14952020598857433649:True:=trivial
theorem PySem.W.Fast.tw497060874435291835:True:=trivial
theorem PySem.W.Fast.tw13813398682365222882:True:=trivial
theorem PySem.W.Fast.tw10018193651159235911:True:=trivial
theorem PySem.W.Fast.tw6605754607929503064:True:=trivial
theorem PySem.W.Fast.tw17722090476697406684:True:=trivial
theorem PySem.W.Fast.tw14371681616567671288:True:=trivial
theorem PySem.W.Fast.tw17955958197087862397:True:=trivial
theorem PySem.W.Fast.tw7326943496054708979:True:=trivial
theorem PySem.W.Fast.tw6516968097131152417:True:=trivial
theorem PySem.W.Fast.tw10764460312480225072:True:=trivial
theorem PySem.W.Fast.tw1946508134936334000:True:=trivial
theorem PySem.W.Fast.tw901959178066937514:True:=trivial
theorem PySem.W.Fast.tw12490812587360696590:True:=trivial
theorem PySem.W.Fast.tw10143944227188977338:True:=trivial
theorem PySem.W.Fast.tw9749438372133422454:True:=trivial
theorem PySem.W.Fast.tw4783398881332613667:True:=trivial
theorem PySem.W.Fast.tw1529903959468563552:True:=trivial
theorem PySem.W.Fast.tw4623694432733505557:True:=trivial
theorem PySem.W.Fast.tw1344946483119388962:True:=trivial
theorem PySem.W.Fast.tw5122897326019681366:True:=trivial
theorem PySem.W.Fast.tw1955965575183466453:True:=trivial
theorem PySem.W.Fast.tw2978431520088107021:True:=trivial
theorem PySem.W.Fast.tw5137892448076613887:True:=trivial
theorem PySem.W.Fast.tw7459514095295281311:True:=trivial
theorem PySem.W.Fast.tw13462106319335625336:True:=trivial
theorem PySem.W.Fast.tw6149519113846006691:True:=trivial
theorem PySem.W.Fast.tw16976898942204023509:True:=trivial
theorem PySem.W.Fast.tw7042440265910518143:True:=trivial
theorem PySem.W.Fast.tw17658948139269377691:True:=trivial
theorem PySem.W.Fast.tw10512876048164869254:True:=trivial
theorem PySem.W.Fast.tw763542326646068147:True:=trivial
theorem PySem.W.Fast.tw9789702889195701661:True:=trivial
theorem PySem.W.Fast.tw16000020038116007155:True:=trivial
theorem PySem.W.Fast.tw16089338307563697635:True:=trivial
theorem PySem.W.Fast.tw15423884853130105066:True:=trivial
theorem PySem.W.Fast.tw704455519177171187:True:=trivial
theorem PySem.W.Fast.tw14254742618321844848:True:=trivial
theorem PySem.W.Fast.tw9148144503366510354:True:=trivial
theorem PySem.W.Fast.tw10686398883645364713:True:=trivial
theorem PySem.W.Fast.tw7729240458768933791:True:=trivial
theorem PySem.W.Fast.tw15815068699274974082:True:=trivial
theorem PySem.W.Fast.tw10929493586734028186:True:=trivial
theorem PySem.W.Fast.tw13829784471562655747:True:=trivial
theorem PySem.W.Fast.tw11762443717990213005:True:=trivial
theorem PySem.W.Fast.tw14292033684880412718:True:=trivial
theorem PySem.W.Fast.tw5870555970343569719:True:=trivial
theorem PySem.W.Fast.tw1728330987482507012:True:=trivial
theorem PySem.W.Fast.tw17164982224679026334:True:=trivial
theorem PySem.W.Fast.tw8509208419105785241:True:=trivial
theorem PySem.W.Fast.tw7335330074900710622:True:=trivial
theorem PySem.W.Fast.tw14358873488643875793:True:=trivial
theorem PySem.W.Fast.tw12754403485405463934:True:=trivial
theorem PySem.W.Fast.tw1199429380235757835:True:=trivial
theorem PySem.W.Fast.tw6229533494623883426:True:=trivial
theorem PySem.W.Fast.tw10276212375801106989:True:=trivial
set_option maxRecDepth 100000 in
set_option maxHeartbeats 0 in
theorem PySem.Challenge.cw_shearfloor_k60_whole_words_of_one_table_holds : PySem.Challenge.rw_shearfloor_k60_whole_words_of_one_table.Holds := by
 w_on;o_law;k_head;(case hw=>w_witness2)
 k_fill
 refine L2.L3 (l:=PySem.Challenge.rw_shearfloor_k60_whole_words_of_one_table) (n:=63) (k:=9) (x:="_law_script") (CX:=bj) (sp:=L4.sZ) rfl (by decide) rfl ⟨rfl,by decide,by decide,rfl⟩ (fun w h Y=>PySem.W.kIn_of Y) ?F ?S ?C
 case F =>
  intro w mg fa h KX G hmg
  have T:My.Txt mg:=by
   refine' ⟨qj KX G ?z0,qj KX G ?z1,qj KX G ?z2,qj KX G ?z3,qj KX G ?z4,qj KX G ?z5,qj KX G ?z6,qj KX G ?z7,qj KX G ?z8,qj KX G ?z9⟩
   (case z0=>k_is);(case z1=>k_is);(case z2=>k_is);(case z3=>k_is);(case z4=>k_is);(case z5=>k_is);(case z6=>k_is);(case z7=>k_is);(case z8=>k_is);(case z9=>k_is)
  have kr:∃ v,L4.o8 (L2.KOf KX) mg "QUARTER" v (.tup [(.int 0),(.int (-1)),(.int 1),(.int 0)]):=by
   dsimp only [L2.KOf];refine' L4.Km (vs:=[V.int 0,V.int (-1),V.int 1,V.int 0]) KX G ?a ?l ?o ?z ?v ?d
   (case a=>k_is);(case l=>k_is);(case o=>rfl);(case z=>decide);(case v=>exact (.cons ⟨_,rfl⟩ (.cons ⟨_,rfl⟩ (.cons ⟨_,rfl⟩ (.cons ⟨_,rfl⟩ .nil)))));(case d=>exact fun ρ H=>(.cons (.int _) (.cons (.int _) (.cons (.int _) (.cons (.int _) .nil)))))
  obtain ⟨_,kr⟩:=kr
  have ku:∃ v,L4.o8 (L2.KOf KX) mg "UNMOVED" v (.tup [(.int 1),(.int 0),(.int 0),(.int 1)]):=by
   dsimp only [L2.KOf];refine' L4.Km (vs:=[V.int 1,V.int 0,V.int 0,V.int 1]) KX G ?a ?l ?o ?z ?v ?d
   (case a=>k_is);(case l=>k_is);(case o=>rfl);(case z=>decide);(case v=>exact (.cons ⟨_,rfl⟩ (.cons ⟨_,rfl⟩ (.cons ⟨_,rfl⟩ (.cons ⟨_,rfl⟩ .nil)))));(case d=>exact fun ρ H=>(.cons (.int _) (.cons (.int _) (.cons (.int _) (.cons (.int _) .nil)))))
  obtain ⟨_,ku⟩:=ku
  have iI:∃ f fd,Def (L2.KOf KX) mg "_law_feed" My.A8 ["_law_script","_law_k"] f fd:=by
   dsimp only [L2.KOf];refine' gg KX G (fun _ _ _ _ _ _ us hl=>match us,hl with | [_,_],_=>rfl) ?a ?l ?c ?k
   (case a=>k_is);(case l=>k_is);(case c=>k_is);(case k=>k_is)
  obtain ⟨_,_,iI⟩:=iI
  have iJ:∃ f fd,Def (L2.KOf KX) mg "_law_take" My.rA ["_law_feed_here","_law_many"] f fd:=by
   dsimp only [L2.KOf];refine' gg KX G (fun _ _ _ _ _ _ us hl=>match us,hl with | [_,_],_=>rfl) ?a ?l ?c ?k
   (case a=>k_is);(case l=>k_is);(case c=>k_is);(case k=>k_is)
  obtain ⟨_,_,iJ⟩:=iJ
  have iK:∃ f fd,Def (L2.KOf KX) mg "_law_word" My.x3 ["_law_feed_here","_law_most","_law_great"] f fd:=by
   dsimp only [L2.KOf];refine' gg KX G (fun _ _ _ _ _ _ us hl=>match us,hl with | [_,_,_],_=>rfl) ?a ?l ?c ?k
   (case a=>k_is);(case l=>k_is);(case c=>k_is);(case k=>k_is)
  obtain ⟨_,_,iK⟩:=iK
  have iL:∃ f fd,Def (L2.KOf KX) mg "_law_back" My.A9 ["_law_word_here"] f fd:=by
   dsimp only [L2.KOf];refine' gg KX G (fun _ _ _ _ _ _ us hl=>match us,hl with | [_],_=>rfl) ?a ?l ?c ?k
   (case a=>k_is);(case l=>k_is);(case c=>k_is);(case k=>k_is)
  obtain ⟨_,_,iL⟩:=iL
  have fj:∃ f fd,Def (L2.KOf KX) mg "_law_nothing" My.Bb ["_law_feed_here"] f fd:=by
   dsimp only [L2.KOf];refine' gg KX G (fun _ _ _ _ _ _ us hl=>match us,hl with | [_],_=>rfl) ?a ?l ?c ?k
   (case a=>k_is);(case l=>k_is);(case c=>k_is);(case k=>k_is)
  obtain ⟨_,_,fj⟩:=fj
  have fq:∃ f fd,Def (L2.KOf KX) mg "_law_turning" My.x4 ["_law_feed_here","_law_n"] f fd:=by
   dsimp only [L2.KOf];refine' gg KX G (fun _ _ _ _ _ _ us hl=>match us,hl with | [_,_],_=>rfl) ?a ?l ?c ?k
   (case a=>k_is);(case l=>k_is);(case c=>k_is);(case k=>k_is)
  obtain ⟨_,_,fq⟩:=fq
  have jz:∃ f fd,Def (L2.KOf KX) mg "_law_met" My.Bc ["_law_floor_here"] f fd:=by
   dsimp only [L2.KOf];refine' gg KX G (fun _ _ _ _ _ _ us hl=>match us,hl with | [_],_=>rfl) ?a ?l ?c ?k
   (case a=>k_is);(case l=>k_is);(case c=>k_is);(case k=>k_is)
  obtain ⟨_,_,jz⟩:=jz
  have gZ:∃ f fd,Def (L2.KOf KX) mg "_law_floor" My.Bf ["_law_feed_here","_law_n"] f fd:=by
   dsimp only [L2.KOf];refine' gg KX G (fun _ _ _ _ _ _ us hl=>match us,hl with | [_,_],_=>rfl) ?a ?l ?c ?k
   (case a=>k_is);(case l=>k_is);(case c=>k_is);(case k=>k_is)
  obtain ⟨_,_,gZ⟩:=gZ
  have fX:∃ f fd,Def (L2.KOf KX) mg "turned_back" My.wX ["turning"] f fd:=by
   dsimp only [L2.KOf];refine' gg KX G (fun _ _ _ _ _ _ us hl=>match us,hl with | [_],_=>rfl) ?a ?l ?c ?k
   (case a=>k_is);(case l=>k_is);(case c=>k_is);(case k=>k_is)
  obtain ⟨_,_,fX⟩:=fX
  have jA:∃ f fd,Def (L2.KOf KX) mg "followed" My.wY ["one","other"] f fd:=by
   dsimp only [L2.KOf];refine' gg KX G (fun _ _ _ _ _ _ us hl=>match us,hl with | [_,_],_=>rfl) ?a ?l ?c ?k
   (case a=>k_is);(case l=>k_is);(case c=>k_is);(case k=>k_is)
  obtain ⟨_,_,jA⟩:=jA
  have fY:∃ f fd,Def (L2.KOf KX) mg "called_anew" My.x5 ["floor","p"] f fd:=by
   dsimp only [L2.KOf];refine' gg KX G (fun _ _ _ _ _ _ us hl=>match us,hl with | [_,_],_=>rfl) ?a ?l ?c ?k
   (case a=>k_is);(case l=>k_is);(case c=>k_is);(case k=>k_is)
  obtain ⟨_,_,fY⟩:=fY
  have ft:∃ f fd,Def (L2.KOf KX) mg "squares_from" My.x6 ["floor","s"] f fd:=by
   dsimp only [L2.KOf];refine' gg KX G (fun _ _ _ _ _ _ us hl=>match us,hl with | [_,_],_=>rfl) ?a ?l ?c ?k
   (case a=>k_is);(case l=>k_is);(case c=>k_is);(case k=>k_is)
  obtain ⟨_,_,ft⟩:=ft
  have dO:∃ f fd,Def (L2.KOf KX) mg "numbering_from" My.x9 ["floor","s"] f fd:=by
   dsimp only [L2.KOf];refine' gg KX G (fun _ _ _ _ _ _ us hl=>match us,hl with | [_,_],_=>rfl) ?a ?l ?c ?k
   (case a=>k_is);(case l=>k_is);(case c=>k_is);(case k=>k_is)
  obtain ⟨_,_,dO⟩:=dO
  have ef:∃ f fd,Def (L2.KOf KX) mg "numbered_from" My.ya ["floor","s"] f fd:=by
   dsimp only [L2.KOf];refine' gg KX G (fun _ _ _ _ _ _ us hl=>match us,hl with | [_,_],_=>rfl) ?a ?l ?c ?k
   (case a=>k_is);(case l=>k_is);(case c=>k_is);(case k=>k_is)
  obtain ⟨_,_,ef⟩:=ef
  have jB:∃ f fd,Def (L2.KOf KX) mg "callings" My.Bg ["one","other"] f fd:=by
   dsimp only [L2.KOf];refine' gg KX G (fun _ _ _ _ _ _ us hl=>match us,hl with | [_,_],_=>rfl) ?a ?l ?c ?k
   (case a=>k_is);(case l=>k_is);(case c=>k_is);(case k=>k_is)
  obtain ⟨_,_,jB⟩:=jB
  have iM:∃ f fd,Def (L2.KOf KX) mg "ring_from" My.Bj ["turning","first"] f fd:=by
   dsimp only [L2.KOf];refine' gg KX G (fun _ _ _ _ _ _ us hl=>match us,hl with | [_,_],_=>rfl) ?a ?l ?c ?k
   (case a=>k_is);(case l=>k_is);(case c=>k_is);(case k=>k_is)
  obtain ⟨_,_,iM⟩:=iM
  have jC:∃ f fd,Def (L2.KOf KX) mg "rings_of" My.Bl ["turning"] f fd:=by
   dsimp only [L2.KOf];refine' gg KX G (fun _ _ _ _ _ _ us hl=>match us,hl with | [_],_=>rfl) ?a ?l ?c ?k
   (case a=>k_is);(case l=>k_is);(case c=>k_is);(case k=>k_is)
  obtain ⟨_,_,jC⟩:=jC
  have mB:∃ f fd,Def (L2.KOf KX) mg "often" My.Bn ["turning","k"] f fd:=by
   dsimp only [L2.KOf];refine' gg KX G (fun _ _ _ _ _ _ us hl=>match us,hl with | [_,_],_=>rfl) ?a ?l ?c ?k
   (case a=>k_is);(case l=>k_is);(case c=>k_is);(case k=>k_is)
  obtain ⟨_,_,mB⟩:=mB
  have ky:∃ f fd,Def (L2.KOf KX) mg "sheared" My.Bq ["floor","k"] f fd:=by
   dsimp only [L2.KOf];refine' gg KX G (fun _ _ _ _ _ _ us hl=>match us,hl with | [_,_],_=>rfl) ?a ?l ?c ?k
   (case a=>k_is);(case l=>k_is);(case c=>k_is);(case k=>k_is)
  obtain ⟨_,_,ky⟩:=ky
  have iN:∃ f fd,Def (L2.KOf KX) mg "quartered" My.Bs ["floor"] f fd:=by
   dsimp only [L2.KOf];refine' gg KX G (fun _ _ _ _ _ _ us hl=>match us,hl with | [_],_=>rfl) ?a ?l ?c ?k
   (case a=>k_is);(case l=>k_is);(case c=>k_is);(case k=>k_is)
  obtain ⟨_,_,iN⟩:=iN
  have fZ:∃ f fd,Def (L2.KOf KX) mg "led_by_step" My.Bu ["floor","step"] f fd:=by
   dsimp only [L2.KOf];refine' gg KX G (fun _ _ _ _ _ _ us hl=>match us,hl with | [_,_],_=>rfl) ?a ?l ?c ?k
   (case a=>k_is);(case l=>k_is);(case c=>k_is);(case k=>k_is)
  obtain ⟨_,_,fZ⟩:=fZ
  have lC:∃ f fd,Def (L2.KOf KX) mg "led_by" My.yc ["floor","word"] f fd:=by
   dsimp only [L2.KOf];refine' gg KX G (fun _ _ _ _ _ _ us hl=>match us,hl with | [_,_],_=>rfl) ?a ?l ?c ?k
   (case a=>k_is);(case l=>k_is);(case c=>k_is);(case k=>k_is)
  obtain ⟨_,_,lC⟩:=lC
  have mC:∃ f fd,Def (L2.KOf KX) mg "times" My.w4 ["one","other"] f fd:=by
   dsimp only [L2.KOf];refine' gg KX G (fun _ _ _ _ _ _ us hl=>match us,hl with | [_,_],_=>rfl) ?a ?l ?c ?k
   (case a=>k_is);(case l=>k_is);(case c=>k_is);(case k=>k_is)
  obtain ⟨_,_,mC⟩:=mC
  have g5:∃ f fd,Def (L2.KOf KX) mg "step_table" My.Bw ["step"] f fd:=by
   dsimp only [L2.KOf];refine' gg KX G (fun _ _ _ _ _ _ us hl=>match us,hl with | [_],_=>rfl) ?a ?l ?c ?k
   (case a=>k_is);(case l=>k_is);(case c=>k_is);(case k=>k_is)
  obtain ⟨_,_,g5⟩:=g5
  have jD:∃ f fd,Def (L2.KOf KX) mg "table_of" My.w6 ["word"] f fd:=by
   dsimp only [L2.KOf];refine' gg KX G (fun _ _ _ _ _ _ us hl=>match us,hl with | [_],_=>rfl) ?a ?l ?c ?k
   (case a=>k_is);(case l=>k_is);(case c=>k_is);(case k=>k_is)
  obtain ⟨_,_,jD⟩:=jD
  have kz:∃ f fd,Def (L2.KOf KX) mg "form_of" My.yd ["floor"] f fd:=by
   dsimp only [L2.KOf];refine' gg KX G (fun _ _ _ _ _ _ us hl=>match us,hl with | [_],_=>rfl) ?a ?l ?c ?k
   (case a=>k_is);(case l=>k_is);(case c=>k_is);(case k=>k_is)
  obtain ⟨_,_,kz⟩:=kz
  have jE:∃ f fd,Def (L2.KOf KX) mg "led_pair" My.By ["table","pair"] f fd:=by
   dsimp only [L2.KOf];refine' gg KX G (fun _ _ _ _ _ _ us hl=>match us,hl with | [_,_],_=>rfl) ?a ?l ?c ?k
   (case a=>k_is);(case l=>k_is);(case c=>k_is);(case k=>k_is)
  obtain ⟨_,_,jE⟩:=jE
  have lD:∃ f fd,Def (L2.KOf KX) mg "shears" My.ye ["k"] f fd:=by
   dsimp only [L2.KOf];refine' gg KX G (fun _ _ _ _ _ _ us hl=>match us,hl with | [_],_=>rfl) ?a ?l ?c ?k
   (case a=>k_is);(case l=>k_is);(case c=>k_is);(case k=>k_is)
  obtain ⟨_,_,lD⟩:=lD
  have kA:∃ f fd,Def (L2.KOf KX) mg "nearest" My.BA ["number","divisor"] f fd:=by
   dsimp only [L2.KOf];refine' gg KX G (fun _ _ _ _ _ _ us hl=>match us,hl with | [_,_],_=>rfl) ?a ?l ?c ?k
   (case a=>k_is);(case l=>k_is);(case c=>k_is);(case k=>k_is)
  obtain ⟨_,_,kA⟩:=kA
  have f9:∃ f fd,Def (L2.KOf KX) mg "level_steps" My.BD ["pair"] f fd:=by
   dsimp only [L2.KOf];refine' gg KX G (fun _ _ _ _ _ _ us hl=>match us,hl with | [_],_=>rfl) ?a ?l ?c ?k
   (case a=>k_is);(case l=>k_is);(case c=>k_is);(case k=>k_is)
  obtain ⟨_,_,f9⟩:=f9
  have lE:∃ f fd,Def (L2.KOf KX) mg "joined" My.BF ["one","other"] f fd:=by
   dsimp only [L2.KOf];refine' gg KX G (fun _ _ _ _ _ _ us hl=>match us,hl with | [_,_],_=>rfl) ?a ?l ?c ?k
   (case a=>k_is);(case l=>k_is);(case c=>k_is);(case k=>k_is)
  obtain ⟨_,_,lE⟩:=lE
  have g7:∃ f fd,Def (L2.KOf KX) mg "made_plain" My.BH ["word"] f fd:=by
   dsimp only [L2.KOf];refine' gg KX G (fun _ _ _ _ _ _ us hl=>match us,hl with | [_],_=>rfl) ?a ?l ?c ?k
   (case a=>k_is);(case l=>k_is);(case c=>k_is);(case k=>k_is)
  obtain ⟨_,_,g7⟩:=g7
  have fu:∃ f fd,Def (L2.KOf KX) mg "put_together" My.BK ["one","other"] f fd:=by
   dsimp only [L2.KOf];refine' gg KX G (fun _ _ _ _ _ _ us hl=>match us,hl with | [_,_],_=>rfl) ?a ?l ?c ?k
   (case a=>k_is);(case l=>k_is);(case c=>k_is);(case k=>k_is)
  obtain ⟨_,_,fu⟩:=fu
  have jF:∃ f fd,Def (L2.KOf KX) mg "is_table" My.BM ["thing"] f fd:=by
   dsimp only [L2.KOf];refine' gg KX G (fun _ _ _ _ _ _ us hl=>match us,hl with | [_],_=>rfl) ?a ?l ?c ?k
   (case a=>k_is);(case l=>k_is);(case c=>k_is);(case k=>k_is)
  obtain ⟨_,_,jF⟩:=jF
  have g8:∃ f fd,Def (L2.KOf KX) mg "level_word" My.BO ["table"] f fd:=by
   dsimp only [L2.KOf];refine' gg KX G (fun _ _ _ _ _ _ us hl=>match us,hl with | [_],_=>rfl) ?a ?l ?c ?k
   (case a=>k_is);(case l=>k_is);(case c=>k_is);(case k=>k_is)
  obtain ⟨_,_,g8⟩:=g8
  have iO:∃ f fd,Def (L2.KOf KX) mg "back_step" My.BQ ["step"] f fd:=by
   dsimp only [L2.KOf];refine' gg KX G (fun _ _ _ _ _ _ us hl=>match us,hl with | [_],_=>rfl) ?a ?l ?c ?k
   (case a=>k_is);(case l=>k_is);(case c=>k_is);(case k=>k_is)
  obtain ⟨_,_,iO⟩:=iO
  have iP:∃ f fd,Def (L2.KOf KX) mg "back_word" My.yg ["word"] f fd:=by
   dsimp only [L2.KOf];refine' gg KX G (fun _ _ _ _ _ _ us hl=>match us,hl with | [_],_=>rfl) ?a ?l ?c ?k
   (case a=>k_is);(case l=>k_is);(case c=>k_is);(case k=>k_is)
  obtain ⟨_,_,iP⟩:=iP
  have kC:∃ f fd,Def (L2.KOf KX) mg "word_of" My.BS ["table"] f fd:=by
   dsimp only [L2.KOf];refine' gg KX G (fun _ _ _ _ _ _ us hl=>match us,hl with | [_],_=>rfl) ?a ?l ?c ?k
   (case a=>k_is);(case l=>k_is);(case c=>k_is);(case k=>k_is)
  obtain ⟨_,_,kC⟩:=kC
  have fw:∃ f fd,Def (L2.KOf KX) mg "led_by_table" My.BV ["floor","table"] f fd:=by
   dsimp only [L2.KOf];refine' gg KX G (fun _ _ _ _ _ _ us hl=>match us,hl with | [_,_],_=>rfl) ?a ?l ?c ?k
   (case a=>k_is);(case l=>k_is);(case c=>k_is);(case k=>k_is)
  obtain ⟨_,_,fw⟩:=fw
  have g9:∃ f fd,Def (L2.KOf KX) mg "_law_right" My.BX ["_law_floor_here","_law_word_here","_law_other","_law_p"] f fd:=by
   dsimp only [L2.KOf];refine' gg KX G (fun _ _ _ _ _ _ us hl=>match us,hl with | [_,_,_,_],_=>rfl) ?a ?l ?c ?k
   (case a=>k_is);(case l=>k_is);(case c=>k_is);(case k=>k_is)
  obtain ⟨_,_,g9⟩:=g9
  have nt:∃ f fd,Def (L2.KOf KX) mg "law" My.Ec ["_law_script"] f fd:=by
   dsimp only [L2.KOf];refine' gg KX G (fun _ _ _ _ _ _ us hl=>match us,hl with | [_],_=>rfl) ?a ?l ?c ?k
   (case a=>k_is);(case l=>k_is);(case c=>k_is);(case k=>k_is)
  obtain ⟨_,_,nt⟩:=nt
  have e0:=hmg.symm.trans nt.m
  cases e0
  exact ⟨_,nt.qP,fun base _ _=>L4.vH (My.xr T kr ku iI iJ iK iL fj fq jz gZ fX jA fY ft dO ef jB iM jC mB ky iN fZ lC mC g5 jD kz jE lD kA f9 lE g7 fu jF g8 iO iP kC fw g9 nt) fun ns hn=>let ⟨_,st,e,h⟩:=My.qd ns hn;⟨st,h ▸ e⟩⟩
 case S=>exact fun K H a ns hl hO hS=>⟨a,ns,rfl,hS.script hO,hl,fun _=>rfl⟩
 case C=>exact fun _ _ _ _ z=>z
