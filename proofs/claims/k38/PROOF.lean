import PyProof.Rows.All
import Wide.All
import OpenK.AllK
import Wide.FinOn
import Lean
import PyProof.EqAt
import PyProof.EqKinds
import PyProof.TupleCall
import PyProof.DictIter
import PyProof.EnumMake
import KE.KSortTup
import KE.KDictLaws
import KE.KDictSum
import PyProof.StrLawsTight
import KE.KIntText
import PyProof.MinMaxWalk
import PyProof.WalkInts
import KE.KIsAll
import PyProof.ExcInit
import PyProof.NsDelKeeps
import PyProof.ExcBaseAll.ValueError
import OpenK.KOwn
import PyProof.ExcAttrAll.ValueError
import PyProof.InstStoreFacts
import PyProof.NoPylong
import PySem.Challenge.RW_shearfloor_k38_tables_of_the_group
set_option Elab.async false
set_option linter.all false
set_option maxRecDepth 100000
set_option maxHeartbeats 4000000
set_option genSizeOf false
noncomputable section
def X9:=@List.length_map
def Ya:=@List.getElem?_eq_some_iff
def Yb:=@List.getElem?_eq_getElem
def Yc:=@List.length_append
def Yd:=@Nat.le_refl
def Ye:=@List.mem_cons_self
def Yf:=@List.mem_of_getElem?
def Yg:=@List.mem_cons_of_mem
def Yh:=@Bool.false_ne_true
def Yi:=@List.getElem?_map
def Yj:=@List.getElem?_set_self
def Yk:=@List.getElem?_append_left
def Yl:=@Int.toNat_natCast
def Ym:=@Option.some.inj
def Yn:=@List.getD_eq_getElem?_getD
def Yo:=@List.size_toArray
def Yp:=@List.getElem?_set_ne
def Yq:=@PySem.Heap.get?_push_of_some
def Yr:=@List.mem_singleton
def Ys:=@List.map_append
def Yt:=@List.mem_map
def Yu:=@List.map_cons
def Yv:=@Nat.le_trans
def Yw:=@List.getElem?_append_right
def Yx:=@PySem.Heap.lt_size
def Yy:=@PySem.Heap.get?_push_size
def Yz:=@List.mem_append
def YA:=@Bool.and_eq_true
def YB:=@List.take_succ_eq_append_getElem
def YC:=@List.mem_cons
def YD:=@Option.map_eq_some_iff
def YE:=@List.length_cons
def YF:=@List.map_map
def YG:=@Int.toNat_of_nonneg
def YH:=@Nat.lt_of_lt_of_le
def YI:=@List.mem_append_right
def YJ:=@List.length_reverse
def YK:=@List.getD_cons_succ
def YL:=@List.getD_cons_zero
def YM:=@List.map_nil
def YN:=@Nat.zero_le
def YO:=@List.getElem?_eq_none_iff
def YQ:=@Nat.ne_of_lt
def YR:=@List.mem_reverse
def YS:=@List.take_length
def YT:=@List.replicate_succ
def YU:=@List.map_congr_left
def YV:=@List.contains_iff_mem
def YW:=@List.nodup_cons
def YX:=@List.length_set
def YY:=@Nat.not_lt_zero
def YZ:=@Nat.lt_of_le_of_lt
def Y0:=@Option.bind_eq_some_iff
def Y1:=@List.length_take
def Y2:=@PySem.Heap.get?_update_other
def Y3:=@Int.emod_nonneg
def Y4:=@Nat.lt_succ_self
def Y5:=@List.any_cons
def Y6:=@List.foldl_append
def Y7:=@List.find?_cons
def Y8:=@List.getElem_of_mem
def Y9:=@Nat.sub_self
def Za:=@Option.bind_some
def Zc:=@List.length_singleton
def Zd:=@Bool.false_eq_true
def Ze:=@Int.emod_lt_of_pos
abbrev Zfr:=PySem.W.Frag
namespace L2
open PySem PySem.Spec PyProof.Rows
abbrev Key:=Sum Int Str
def oH:Key->Value->Bool
 | .inl k,v=>Value.isInt k v
 | .inr x,v=>Value.isStrOf x v
def Iq (w:World):Key->Int
 | .inl k=>hashInt k
 | .inr x=>hashStr w x
theorem uC:∀ {k:Key} {v:Value},oH k v=true->(∃ i t,k=Sum.inl i/\v=Value.int i t)\/(∃ x t,k=Sum.inr x/\v=Value.str x t)
 | .inl i,v,h=>by
  obtain ⟨t,e⟩:=Value.isInt_shape (k:=i) (v:=v) h
  exact .inl ⟨i,t,rfl,e⟩
 | .inr x,v,h=>by
  obtain ⟨t,e⟩:=Value.isStrOf_shape (x:=x) (v:=v) h
  exact .inr ⟨x,t,rfl,e⟩
theorem PJ (i:Int) (t:Tok):oH (.inl i) (.int i t)=true:=by simp [oH,Value.isInt]
theorem PK (x:Str) (t:Tok):oH (.inr x) (.str x t)=true:=by simp [oH,Value.isStrOf]
theorem xw (a b:Int):decide ((Sum.inl a:Key)=Sum.inl b)=(a == b):=by
 by_cases e:a=b
 ·subst e;simp
 ·have h:¬ (Sum.inl a:Key)=Sum.inl b:=fun q=>e (Sum.inl.inj q)
  rw [decide_eq_false h]
  exact (beq_eq_false_iff_ne.mpr e).symm
theorem xx (a b:Str):decide ((Sum.inr a:Key)=Sum.inr b)=decide (a=b):=by
 by_cases e:a=b
 ·subst e;simp
 ·have h:¬ (Sum.inr a:Key)=Sum.inr b:=fun q=>e (Sum.inr.inj q)
  rw [decide_eq_false h,decide_eq_false e]
theorem xy (a:Int) (b:Str):decide ((Sum.inl a:Key)=Sum.inr b)=false:=decide_eq_false (fun q=>nomatch q)
theorem xA (a:Str) (b:Int):decide ((Sum.inr a:Key)=Sum.inl b)=false:=decide_eq_false (fun q=>nomatch q)
def cT (prog:Program) (w:World):PySem.KeyKind prog w Key where
 is:=oH
 hash:=Iq w
 inj:=fun v a b ha hb=>by
  rcases uC ha with ⟨i,t,rfl,rfl⟩ | ⟨x,t,rfl,rfl⟩
  ·rcases uC hb with ⟨j,u,rfl,e⟩ | ⟨y,u,rfl,e⟩
   ·injection e with e1 _;rw [e1]
   ·exact nomatch e
  ·rcases uC hb with ⟨j,u,rfl,e⟩ | ⟨y,u,rfl,e⟩
   ·exact nomatch e
   ·injection e with e1 _;rw [e1]
 byValue:=fun k v h=>by
  rcases uC h with ⟨i,t,rfl,rfl⟩ | ⟨x,t,rfl,rfl⟩ <;> rfl
 pyHash:=fun hv h=>by
  rcases uC hv with ⟨i,t,rfl,rfl⟩ | ⟨x,t,rfl,rfl⟩
  ·exact wpAny_pyHash_int h
  ·exact wpAny_pyHash_str h
 eqBool:=fun hu hv h=>by
  rcases uC hu with ⟨i,t,rfl,rfl⟩ | ⟨x,t,rfl,rfl⟩
  ·rcases uC hv with ⟨j,u,rfl,rfl⟩ | ⟨y,u,rfl,rfl⟩
   ·rw [xw] at h;exact wpAny_eqBool_int h
   ·rw [xy] at h;exact SeqAt.EqAt.int_str i t y u _ _ _ _ h
  ·rcases uC hv with ⟨j,u,rfl,rfl⟩ | ⟨y,u,rfl,rfl⟩
   ·rw [xA] at h;exact SeqAt.EqAt.str_int x t j u _ _ _ _ h
   ·rw [xx] at h;exact wpAny_eqBool_str h
 «strs»:=fun k x t v h=>by
  rcases uC h with ⟨i,u,rfl,e⟩ | ⟨y,u,rfl,e⟩
  ·exact nomatch e
  ·injection e with e1 _
   subst e1
   cases v <;> rfl
theorem PL (prog:Program) (w:World) (i:Int) (t:Tok):(cT prog w).is (.inl i) (.int i t)=true:=PJ i t
theorem PN (prog:Program) (w:World) (x:Str) (t:Tok):(cT prog w).is (.inr x) (.str x t)=true:=PK x t
inductive V where
 | non | bl (b:Bool) | int (i:Int) | str (x:Str) | sd (b:Array UInt8) | An (b:UInt64) | ref (a:Addr) | ty (n:String)
 deriving DecidableEq
def RelV:V->Value->Prop
 | .non,u=>u=Value.none
 | .bl b,u=>u=Value.bool b
 | .int i,u=>∃ t,u=Value.int i t
 | .str x,u=>∃ t,u=Value.str x t
 | .sd b,u=>∃ t,u=Value.bytes b t
 | .An b,u=>∃ t,u=Value.float b t
 | .ref a,u=>u=Value.ref a
 | .ty n,u=>u=Value.type n
abbrev Vals:List V->List Value->Prop:=Paired RelV
theorem Vals.length {xs:List V} {us:List Value} (r:Vals xs us):xs.length=us.length:=Paired.length r
theorem Vals.get:∀ {xs:List V} {us:List Value} {i:Nat} {x:V},Vals xs us->xs[i]?=some x->∃ u,us[i]?=some u/\RelV x u
 | _,_,_,_,.nil,e=>by simp at e
 | _,_,0,_,.cons r _,e=>by simp at e;subst e;exact ⟨_,rfl,r⟩
 | _,_,i + 1,x,.cons _ t,e=>by
  obtain ⟨u,h1,h2⟩:=Vals.get (i:=i) (x:=x) t (by simpa using e)
  exact ⟨u,by simpa using h1,h2⟩
theorem Vals.set {x:V} {u:Value} (r:RelV x u):∀ {xs:List V} {us:List Value} (i:Nat),Vals xs us->Vals (xs.set i x) (us.set i u)
 | _,_,_,.nil=>.nil
 | _,_,0,.cons _ t=>.cons r t
 | _,_,i + 1,.cons q t=>.cons q (Vals.set r i t)
theorem Vals.append:∀ {xs ys:List V} {us ws:List Value},Vals xs us->Vals ys ws->Vals (xs ++ ys) (us ++ ws)
 | _,_,_,_,.nil,s=>s
 | _,_,_,_,.cons r t,s=>.cons r (Vals.append t s)
theorem Vals.take:∀ {xs:List V} {us:List Value} (n:Nat),Vals xs us->Vals (xs.take n) (us.take n)
 | _,_,0,_=>.nil
 | _,_,_ + 1,.nil=>.nil
 | _,_,n + 1,.cons r t=>.cons r (Vals.take n t)
theorem Vals.drop:∀ {xs:List V} {us:List Value} (n:Nat),Vals xs us->Vals (xs.drop n) (us.drop n)
 | _,_,0,r=>r
 | _,_,_ + 1,.nil=>.nil
 | _,_,n + 1,.cons _ t=>Vals.drop n t
def rh:Option V->Option Value->Prop
 | some v,some u=>RelV v u
 | none,none=>True
 | _,_=>False
def KV {κ:Type}:List (κ×V)->List (κ×Value)->Prop:=Paired fun (p:κ×V) (q:κ×Value)=>p.1=q.1/\RelV p.2 q.2
def kV:Key->V
 | .inl i=>.int i
 | .inr x=>.str x
set_option genInjectivity false in
inductive HO where
 /-- a list -/
 | lst (xs:List V)
 /-- a tuple (never changes) -/
 | tup (xs:List V)
 /-- a dict whose keys are ints and texts;one whose keys are tuples of ints and texts (the empty one is both) -/
 | dK (kvs:List (Key×V)) | dT (kvs:List (List Key×V))
 /-- a set of ints: its members,its size -/
 | set (S:Int->Bool) (n:Nat)
 /-- an instance of the class at C,its dict at dx,its attributes -/
 | ins (C dx:Addr) (fs:List (Str×V))
 /-- the dict of the instance at x -/
 | own (x:Addr)
 /-- the dict of an exception -/
 | xd (fs:List (Str×V))
 /-- a bound method,f of x -/
 | met (f x:Addr)
 /-- a range object lo,lo + 1,.. below hi -/
 | jH (lo hi:Int)
 /-- a thing that is known to the object (the script;a dict while a loop walks it): read,never written while it is so -/
 | nL (o:Obj) (u:HO)
 /-- a code Br table -/
 | xB (ps:Array Value)
 /-- any other thing,by what is true of its one object (a def of LO own: PQ a S n:=HO.ext fun h=>..) -/
 | ext (φ:Heap->Prop)
abbrev Hp:=Addr->Option HO
def upd (H:Hp) (a:Addr) (o:HO):Hp:=fun b=>if b=a then some o else H b
theorem rS {H:Hp} {a:Addr} {o:HO}:upd H a o a=some o:=by unfold upd;rw [if_pos rfl]
theorem kd {H:Hp} {a b:Addr} {o:HO} (h:b≠a):upd H a o b=H b:=by unfold upd;rw [if_neg h]
theorem Ir {H:Hp} {a b:Addr} {o u:HO} (h:H a=some o) (h':H b=some u) (d:o≠u):a≠b:=by
 intro e;subst e;rw [h] at h';exact d (Ym h')
theorem Ao {H:Hp} {a b:Addr} {o:HO} (h:H a=some o) (h':H b=none):a≠b:=by
 intro e;subst e;rw [h] at h';cases h'
def oS (h:Heap) (a:Addr) (its:Array Value):Prop:=∃ o,h.get? a=some o/\o.cls=.type "tuple" /\ o.dict=none/\∃ n,o.data=.seq its n
theorem oS.tup {h:Heap} {a:Addr} {its:Array Value} (x:oS h a its):IsTup h a its:=let ⟨o,e,c,_,n,d⟩:=x;⟨o,e,c,n,d⟩
theorem oS.new (h:Heap) (its:Array Value):oS (h.push { cls:=.type "tuple",data:=.seq its }) h.objs.size its:=⟨_,Yy _ rfl,rfl,rfl,_,rfl⟩
section
variable (P:Program) (w:World)
def cf (H:Hp) (h:Heap) (a:Addr):HO->Prop
 | .lst xs=>xs.length<=sizeLine/\∃ (its:List Value) (n:Nat),Vals xs its/\h.get? a=some { cls:=.type "list",data:=.seq its.toArray n }
 | .tup xs=>xs.length<=sizeLine/\∃ its:List Value,Vals xs its/\oS h a its.toArray
 | .dK kvs=>kvs.length<=sizeLine/\(a == sysModules)=false/\∃ vs,KV kvs vs/\h.DictOf (cT P w) a vs
 | .dT kvs=>kvs.length<=sizeLine/\(a == sysModules)=false/\∃ xs:List (List Key×Addr×Value),
   Paired (fun (p:List Key×V) (q:List Key×Addr×Value)=>p.1=q.1/\H q.2.1=some (.tup (p.1.map kV))/\RelV p.2 q.2.2) kvs xs /\
   ∃ o es ep,h.get? a=some o/\o.ExactDict/\o.data=.dict es ep/\es.toList=xs.map (entryOfKey (tupleKind (cT P w)))/\(xs.map (·.1)).Nodup
 | .set S n=>h.SetOf (intKind P w) a S n
 | .ins C dx fs=>H dx=some (.own a)/\fs.length<=1000/\dx≠a/\h.get? a=some (PySem.W.instObj C dx) /\
   ∃ mA,h.Ns1 dx mA/\(∀ f,rh (fs.lookup f) (mA f))/\PySem.Within mA (fs.map (·.1))
 | .own _=>∃ o,h.get? a=some o
 | .xd fs=>∃ mA,h.Ns1 a mA/\∀ f,rh (fs.lookup f) (mA f)
 | .jH lo hi=>∃ t u v,h.get? a=some { cls:=.type "range",data:=.fields #[.int lo t,.int hi u,.int 1 v] }
 | .nL o u=>h.get? a=some o/\cf H h a u
 | .xB ps=>h.get? a=some { cls:=.none,data:=.fields ps }
 | .met f x=>h.get? a=some (PySem.W.methodObj (.ref f) (.ref x))
 | .ext φ=>φ h/\(∃ o,h.get? a=some o)/\∀ h1 h2:Heap,φ h1->(∀ o,h1.get? a=some o->h2.get? a=some o)->φ h2
def lR (H:Hp) (h:Heap):Prop:=∀ a o,H a=some o->cf P w H h a o
end
section
variable {P:Program} {w:World} {H H':Hp} {h h':Heap} {a:Addr} {o:HO}
theorem cf.lt (x:cf P w H h a o):a < h.objs.size:=by
 cases o with
 | lst xs=>obtain ⟨_,_,_,_,e⟩:=x;exact Yx e
 | tup xs=>obtain ⟨_,_,_,_,e,_⟩:=x;exact Yx e
 | dK kvs=>obtain ⟨_,_,_,_,o,_,_,e,_⟩:=x;exact Yx e
 | dT kvs=>obtain ⟨_,_,_,_,o,_,_,e,_⟩:=x;exact Yx e
 | set S n=>obtain ⟨o,_,_,_,e,_⟩:=x;exact Yx e
 | ins C dx fs=>obtain ⟨_,_,_,e,_⟩:=x;exact Yx e
 | own y=>obtain ⟨_,e⟩:=x;exact Yx e
 | xd fs=>obtain ⟨_,⟨_,_,_,e,_⟩,_⟩:=x;exact Yx e
 | jH lo hi=>obtain ⟨_,_,_,e⟩:=x;exact Yx e
 | nL ob u=>obtain ⟨e,_⟩:=x;exact Yx e
 | xB ps=>exact Yx (show h.get? a=some _ from x)
 | met f y=>exact Yx (show h.get? a=some _ from x)
 | ext φ=>obtain ⟨_,⟨_,e⟩,_⟩:=x;exact Yx e
theorem Paired.xC {α β:Type} {F G:α->β->Prop}:∀ {l₁:List α} {l₂:List β},Paired F l₁ l₂->(∀ a b,F a b->G a b)->Paired G l₁ l₂
 | _,_,.nil,_=>.nil
 | _,_,.cons r t,f=>.cons (f _ _ r) (Paired.xC t f)
theorem cf.stay (x:cf P w H h a o) (k:∀ b u,(b=a\/H b=some (.own a))->h.get? b=some u->h'.get? b=some u)
  (ho:∀ b,H b=some (.own a)->H' b=some (.own a)) (ht:∀ b xs,H b=some (.tup xs)->H' b=some (.tup xs)):cf P w H' h' a o:=by
 induction o with
 | lst xs=>obtain ⟨z,its,n,r,e⟩:=x;exact ⟨z,its,n,r,k _ _ (.inl rfl) e⟩
 | tup xs=>obtain ⟨z,its,r,ob,e,c⟩:=x;exact ⟨z,its,r,ob,k _ _ (.inl rfl) e,c⟩
 | dK kvs=>obtain ⟨z,y,vs,r,ob,es,ep,e,c⟩:=x;exact ⟨z,y,vs,r,ob,es,ep,k _ _ (.inl rfl) e,c⟩
 | dT kvs =>
  obtain ⟨z,y,xs,r,ob,es,ep,e,c⟩:=x
  exact ⟨z,y,xs,Paired.xC r fun p q z=>⟨z.1,ht _ _ z.2.1,z.2.2⟩,ob,es,ep,k _ _ (.inl rfl) e,c⟩
 | set S n=>obtain ⟨ob,es,ep,t,e,c⟩:=x;exact ⟨ob,es,ep,t,k _ _ (.inl rfl) e,c⟩
 | ins C dx fs =>
  obtain ⟨d,z,ne,e,mA,⟨od,es,ep,e2,c⟩,r⟩:=x
  exact ⟨ho _ d,z,ne,k _ _ (.inl rfl) e,mA,⟨od,es,ep,k _ _ (.inr d) e2,c⟩,r⟩
 | own y=>obtain ⟨ob,e⟩:=x;exact ⟨ob,k _ _ (.inl rfl) e⟩
 | xd fs=>obtain ⟨mA,⟨od,es,ep,e,c⟩,r⟩:=x;exact ⟨mA,⟨od,es,ep,k _ _ (.inl rfl) e,c⟩,r⟩
 | jH lo hi=>obtain ⟨t,u,v,e⟩:=x;exact ⟨t,u,v,k _ _ (.inl rfl) e⟩
 | nL ob u ih=>obtain ⟨e,q⟩:=x;exact ⟨k _ _ (.inl rfl) e,ih q⟩
 | xB ps =>
  have e:h.get? a=some { cls:=.none,data:=.fields ps }:=x
  show h'.get? a=some { cls:=.none,data:=.fields ps }
  exact k a _ (.inl rfl) e
 | met f y =>
  have e:h.get? a=some (PySem.W.methodObj (.ref f) (.ref y)):=x
  show h'.get? a=some (PySem.W.methodObj (.ref f) (.ref y))
  exact k a _ (.inl rfl) e
 | ext φ=>obtain ⟨p,⟨o,e⟩,st⟩:=x;exact ⟨st _ _ p fun o q=>k _ _ (.inl rfl) q,⟨o,k _ _ (.inl rfl) e⟩,st⟩
theorem lR.lt (x:lR P w H h) (e:H a=some o):a < h.objs.size:=(x a o e).lt
theorem lR.fresh (x:lR P w H h) (e:h.objs.size<=a):H a=none:=by
 cases q:H a with
 | none=>rfl
 | some u=>exact absurd (YH (x.lt q) e) (Nat.lt_irrefl _)
theorem lR.kept (x:lR P w H h) (k:∀ b u,h.get? b=some u->h'.get? b=some u):lR P w H h':=fun a o e =>
 (x a o e).stay (fun b u _ q=>k b u q) (fun _ q=>q) fun _ _ q=>q
theorem lR.laid (x:lR P w H h) (k:∀ b u,h.get? b=some u->h'.get? b=some u) (hp:h.objs.size<=a) (new:cf P w (upd H a o) h' a o):lR P w (upd H a o) h':=fun b u e=>by
 have hn:=x.fresh hp
 by_cases hb:b=a
 ·subst hb;rw [rS] at e;cases e;exact new
 ·rw [kd hb] at e
  exact (x b u e).stay (fun c v _ q=>k c v q) (fun c q=>by rw [kd (Ao q hn)];exact q) fun c xs q=>by rw [kd (Ao q hn)];exact q
end
def Rd (H:Hp) (a:Addr) (u:HO):Prop:=H a=some u\/∃ o,H a=some (.nL o u)
theorem Rd.ok {P:Program} {w:World} {H:Hp} {h:Heap} {a:Addr} {u:HO} (r:Rd H a u) (x:lR P w H h):cf P w H h a u:=by
 rcases r with r | ⟨o,r⟩
 ·exact x a u r
 ·obtain ⟨_,q⟩:=x a _ r
  exact q
def Bs:Option HO->Prop
 | some (.lst _)=>True
 | some (.dK _)=>True
 | some (.dT _)=>True
 | some (.set _ _)=>True
 | some (.ins _ _ _)=>True
 | some (.ext _)=>True
 | _=>False
section
variable {P:Program} {w:World} {H:Hp} {h h':Heap} {x e:Addr} {o':HO}
theorem lR.write (ok:lR P w H h) (mu:Bs (H x)) (he:e=x\/H e=some (.own x)) (k:∀ b u,b≠e->h.get? b=some u->h'.get? b=some u) (Ap:∃ u,h'.get? e=some u)
  (new:cf P w (upd H x o') h' x o'):lR P w (upd H x o') h':=fun b u q=>by
 have Bt:∀ c y,H c=some (.own y)->c≠x:=fun c y r z=>by subst z;rw [r] at mu;exact mu
 have Iu:∀ c xs,H c=some (.tup xs)->c≠x:=fun c xs r z=>by subst z;rw [r] at mu;exact mu
 by_cases hb:b=x
 ·subst hb;rw [rS] at q;cases q;exact new
 ·rw [kd hb] at q
  by_cases xD:b=e
  ·have q':H b=some (.own x):=by
    rcases he with z | z
    ·exact absurd (xD.trans z) hb
    ·rw [xD];exact z
   rw [q] at q';cases q'
   obtain ⟨v,hv⟩:=Ap
   exact ⟨v,by rw [xD];exact hv⟩
  ·refine (ok b u q).stay (fun c v hc r=>k c v ?_ r) (fun c r=>by rw [kd (Bt c b r)];exact r) fun c xs r=>by rw [kd (Iu c xs r)];exact r
   rcases hc with rfl | hc
   ·exact xD
   ·rintro rfl
    rcases he with z | z
    ·exact Bt c b hc z
    ·rw [hc] at z;cases z;exact hb rfl
end
structure Un (fs ex:List Addr) (H H':Hp) (h h':Heap):Prop where
 keep:∀ b o,h.get? b=some o->H b=none->b ∉ fs->b ∉ ex->h'.get? b=some o
 slot:∀ b o,h.get? b=some o->H b=none->b∈fs->b ∉ ex->∃ sl,h'.get? b=some { o with slots:=sl }
 free:∀ b o,h.get? b=some o->H b=none->b ∉ ex->H' b=none
 there:∀ b o,h.get? b=some o->b ∉ ex->∃ o',h'.get? b=some o'
 tups:∀ b xs,H b=some (.tup xs)->H' b=some (.tup xs)
 oT:∀ b o u,H b=some (.nL o u)->H' b=some (.nL o u)
 pO:∀ b ps,H b=some (.xB ps)->∃ more,H' b=some (.xB (ps ++ more))
section
variable {fs fs' ex ex':List Addr} {H H1 H2:Hp} {h h1 h2 h':Heap} {a x e:Addr} {o:HO}
theorem Un.any (u:Un fs ex H H1 h h1) {b:Addr} {ob:Obj} (q:h.get? b=some ob) (n:H b=none) (hx:b ∉ ex):∃ sl,h1.get? b=some { ob with slots:=sl }:=by
 by_cases hb:b∈fs
 ·exact u.slot b ob q n hb hx
 ·exact ⟨ob.slots,u.keep b ob q n hb hx⟩
theorem Un.kept (k:∀ b u,h.get? b=some u->h'.get? b=some u):Un fs ex H H h h' :=
 ⟨fun b ob q _ _ _=>k b ob q,fun b ob q _ _ _=>⟨ob.slots,k b ob q⟩,fun _ _ _ n _=>n,fun b ob q _=>⟨ob,k b ob q⟩,fun _ _ q=>q,fun _ _ _ q=>q,fun _ ps q=>⟨#[],by rw [q];simp⟩⟩
theorem Un.refl:Un fs ex H H h h:=Un.kept fun _ _ q=>q
theorem Un.laid (k:∀ b u,h.get? b=some u->h'.get? b=some u) (hp:h.objs.size<=a) (hn:H a=none):Un fs ex H (upd H a o) h h' where
 keep:=fun b u q _ _ _=>k b u q
 slot:=fun b u q _ _ _=>⟨u.slots,k b u q⟩
 free:=fun b u q n _=>by rw [kd (YQ (YH (Yx q) hp))];exact n
 there:=fun b u q _=>⟨u,k b u q⟩
 tups:=fun b xs q=>by rw [kd (Ao q hn)];exact q
 oT:=fun b u xs q=>by rw [kd (Ao q hn)];exact q
 pO:=fun b ps q=>⟨#[],by rw [kd (Ao q hn),q];simp⟩
theorem Un.write (mu:Bs (H x)) (he:e=x\/H e=some (.own x)) (k:∀ b u,b≠e->h.get? b=some u->h'.get? b=some u) (Ap:∃ u,h'.get? e=some u):Un fs ex H (upd H x o) h h':=by
 have hx:∀ b,H b=none->b≠x:=fun b n z=>by subst z;rw [n] at mu;exact mu
 have hb:∀ b,H b=none->b≠e:=fun b n z=>by
  subst z
  rcases he with r | r
  ·exact hx b n r
  ·rw [n] at r;cases r
 have hm:∀ b u,H b=some u->¬ Bs (some u)->b≠x:=fun b u q nm z=>by subst z;rw [q] at mu;exact nm mu
 refine ⟨fun b u q n _ _=>k b u (hb b n) q,fun b u q n _ _=>⟨u.slots,k b u (hb b n) q⟩,fun b u q n _=>by rw [kd (hx b n)];exact n,fun b u q _=>?_,
  fun b xs q=>by rw [kd (hm b _ q fun z=>z)];exact q,fun b u xs q=>by rw [kd (hm b _ q fun z=>z)];exact q,fun b ps q=>⟨#[],by rw [kd (hm b _ q fun z=>z),q];simp⟩⟩
 by_cases xD:b=e
 ·subst xD;exact Ap
 ·exact ⟨u,k b u xD q⟩
end
def FC (h:Heap) (H:Hp):List Addr:=(List.range h.objs.size).filter fun a=>(H a).isSome
def oU (h:Heap) (H:Hp):Heap:=PySem.W.hideAll h (FC h H)
theorem PR (h:Heap) (H:Hp):(oU h H).objs.size=h.objs.size:=PySem.W.hideAll_size _ _
theorem PU {h:Heap} {H:Hp} {b:Addr} {o:Obj} (e:h.get? b=some o) (n:H b=none):(oU h H).get? b=some o :=
 PySem.W.hideAll_get _ e fun hm=>by
  have q:(H b).isSome=true:=(List.mem_filter.mp hm).2
  rw [n] at q;simp at q
theorem PV {h:Heap} {H:Hp} {b:Addr} {o:Obj} (e:(oU h H).get? b=some o):h.get? b=some o/\H b=none:=by
 have e':h.get? b=some o:=PySem.W.of_hideAll (FC h H) e
 refine ⟨e',?_⟩
 cases q:H b with
 | none=>rfl
 | some x =>
  have hm:b∈FC h H:=List.mem_filter.mpr ⟨List.mem_range.mpr (Yx e'),by simp [q]⟩
  have z:(oU h H).get? b=none:=PySem.W.hideAll_none (FC h H) hm
  rw [z] at e;cases e
def uD (g h:Heap) (L:Addr):List (Addr×Obj):=(List.range h.objs.size).filterMap fun a=>if a=L\/(g.get? a).isSome=true then none else (h.get? a).map fun o=>(a,o)
def rest (g h:Heap) (L d:Addr):List (Addr×Obj):=(uD g h L).filter fun p=>decide (p.1≠d)
structure Mod (K:Zfr) (mg:Str->Option Value) (base:Heap):Prop where
 Iv:K.In base
 glob:base.Ns mainGlobals mg
 blt:∃ mb,base.Ns builtinsNs mb/\∀ x:Str,x≠"__name__" -> mb x=bootBuiltins x
 nolimit:base.NoLimit
set_option genInjectivity false in
structure Cx where
 prog:Program
 w:World
 K:Zfr
 mg:Str->Option Value
 base:Heap
 A:Around
 N:List Str
 s₀:Shared
 H₀:Hp
 env:Env
 outer:List Env
 stack:List Env
 ex:List Addr
 fn:Str->Bool
 calm:Bool
 pn:List (Addr×Obj)
 xe:Value->Shared->Prop
def frs (l:List Env):List Addr:=l.filterMap (·.frame)
abbrev Cx.fs (X:Cx):List Addr:=frs X.outer
def Iw (sc:Scope) (x:Str):Prop:=sc.names.lookup x=some .local\/sc.names.lookup x=some .cell\/sc.names.lookup x=some .free
def Loc (sc:Scope) (x:Str):Prop:=sc.names.lookup x=some .local\/sc.names.lookup x=some .cell
def Look (env:Env) (h:Heap) (m:Str->Option Value) (x:Str) (u:Value):Prop :=
 (env.kindOf x=some .local/\m x=some u)\/((env.kindOf x=some .cell\/env.kindOf x=some .free)/\∃ c,env.cells.lookup x=some c/\h.IsCell c (some u))
structure Cx.Ok (X:Cx):Prop where
 mod:Mod X.K X.mg X.base
 kind:X.env.scope.kind=.function
 glob:X.env.globals=mainGlobals
 blt:X.env.builtins=builtinsNs
 above:X.s₀.heap.objs.size<=X.env.locals
 inj:∀ x y c,X.env.cells.lookup x=some c->X.env.cells.lookup y=some c->x=y
 has:∀ x,(X.env.kindOf x=some .cell\/X.env.kindOf x=some .free)->∃ c,X.env.cells.lookup x=some c
 Bu:∀ x c,X.fn x=true->X.env.cells.lookup x=some c->X.s₀.heap.objs.size<=c
 hd:X.calm=true->X.A.handled=none
 frames:X.A.frames=some X.stack
 stk:X.stack=X.outer\/(X.stack=X.env :: X.outer/\X.env.frame=some X.env.locals)
 LP:∀ b∈X.ex,b≠X.env.locals/\∀ x c,X.env.cells.lookup x=some c->c≠b
 bs:∀ b o,X.base.get? b=some o->X.s₀.heap.get? b=some o/\X.H₀ b=none
 vF:X.base.objs.size<=X.s₀.heap.objs.size
 se:∀ b o,X.base.get? b=some o->b ∉ X.ex
 uE:∀ b∈X.ex,b ∉ X.fs
 nM:X.s₀.heap.FunFrames X.base X.outer
 Aq:∀ b∈X.fs,X.H₀ b=none
structure Inv (X:Cx) (pins:List (Addr×Obj)) (σ:List (Option V)) (H:Hp) (s:Shared):Prop where
 ok:X.Ok
 os:s.os=X.s₀.os
 bare:AllBare s.gens
 base:Un X.fs X.ex X.H₀ H X.s₀.heap s.heap
 loc:∃ m,s.heap.Ns X.env.locals m/\∀ (i:Nat) (x:Str) (v:V),X.N[i]?=some x->σ[i]?=some (some v)->Iw X.env.scope x->∃ u,RelV v u/\Look X.env s.heap m x u
 cell:∀ x c,X.env.cells.lookup x=some c->∃ v,s.heap.IsCell c v
 free:H X.env.locals=none
 kL:∀ x c,X.env.cells.lookup x=some c->H c=none
 pin:∀ p∈X.pn ++ pins,s.heap.get? p.1=some p.2/\H p.1=none/\p.1≠X.env.locals/\p.1 ∉ X.fs/\∀ v,p.2.data≠.cell v
 hok:lR X.prog X.w H s.heap
 len:σ.length=X.N.length
section
variable {X:Cx} {pins:List (Addr×Obj)} {σ:List (Option V)} {H H':Hp} {s:Shared} {h':Heap}
theorem Cx.Ok.Iy (ok:X.Ok) {b:Addr} {o:Obj} (e:X.base.get? b=some o):b ∉ X.fs:=fun hb=>by
 have:=(ok.nM.mem hb).1
 rw [e] at this;cases this
theorem Inv.bs (I:Inv X pins σ H s):∀ b o,X.base.get? b=some o->s.heap.get? b=some o/\H b=none:=fun b o e =>
 ⟨I.base.keep b o (I.ok.bs b o e).1 (I.ok.bs b o e).2 (I.ok.Iy e) (I.ok.se b o e),I.base.free b o (I.ok.bs b o e).1 (I.ok.bs b o e).2 (I.ok.se b o e)⟩
theorem Inv.bk (I:Inv X pins σ H s):∀ b o,X.base.get? b=some o->s.heap.get? b=some o:=fun b o e=>(I.bs b o e).1
theorem Inv.mod (I:Inv X pins σ H s):Mod X.K X.mg X.base:=I.ok.mod
theorem Inv.Ar (I:Inv X pins σ H s):X.K.In s.heap:=I.ok.mod.Iv.keeps I.bk
theorem Inv.lt (I:Inv X pins σ H s):X.env.locals < s.heap.objs.size:=let ⟨_,hn,_⟩:=I.loc;hn.lt
theorem Inv.sz (I:Inv X pins σ H s):X.s₀.heap.objs.size<=s.heap.objs.size:=Yv I.ok.above (Nat.le_of_lt I.lt)
theorem Inv.Bv (I:Inv X pins σ H s) {a:Addr} (h:s.heap.objs.size<=a):a ∉ X.fs:=fun hb=>by
 obtain ⟨_,o,ho,_⟩:=I.ok.nM.mem hb
 exact absurd (YH (Yx ho) (Yv I.sz h)) (Nat.lt_irrefl _)
theorem Inv.xE (I:Inv X pins σ H s):∀ x c,X.env.cells.lookup x=some c->c≠X.env.locals:=fun x c e z=>by
 obtain ⟨v,o,ho,hd⟩:=I.cell x c e
 obtain ⟨m,⟨o',es,ep,ho',hd',_⟩,_⟩:=I.loc
 rw [z,ho'] at ho;cases ho;rw [hd'] at hd;cases hd
theorem Inv.nM (I:Inv X pins σ H s):s.heap.FunFrames X.base X.outer:=by
 have all:∀ (l:List Env),(∀ b∈frs l,b∈X.fs)->X.s₀.heap.FunFrames X.base l->s.heap.FunFrames X.base l:=by
  intro l
  induction l with
  | nil=>intro _ _;trivial
  | cons env r ih =>
   intro hs hl
   obtain ⟨hk,⟨L,o,hf,hn,ho,hd⟩,hr⟩:=hl
   have hL:L∈X.fs:=hs L (by unfold frs;rw [List.filterMap_cons,hf];exact Ye)
   obtain ⟨sl,e⟩:=I.base.slot L o ho (I.ok.Aq L hL) hL fun z=>I.ok.uE L z hL
   exact ⟨hk,⟨L,_,hf,hn,e,hd⟩,ih (fun b hb=>hs b (by unfold frs;rw [List.filterMap_cons,hf];exact Yg _ hb)) hr⟩
 exact all X.outer (fun _ hb=>hb) I.ok.nM
theorem Inv.stack (I:Inv X pins σ H s):s.heap.FunFrames X.base X.stack:=by
 rcases I.ok.stk with e | ⟨e,hf⟩
 ·rw [e];exact I.nM
 ·rw [e]
  obtain ⟨m,hn,_⟩:=I.loc
  refine .cons (by rw [I.ok.kind];decide) hf hn ?_ I.nM
  exact Heap.get?_none_of_le (Yv I.ok.vF I.ok.above)
theorem Inv.nO (I:Inv X pins σ H s):∀ b∈frs X.stack,b∈X.env.locals :: X.fs:=fun b hb=>by
 rcases I.ok.stk with e | ⟨e,hf⟩
 ·rw [e] at hb;exact Yg _ hb
 ·rw [e] at hb
  unfold frs at hb
  rw [List.filterMap_cons,hf] at hb
  exact hb
theorem Inv.qz (I:Inv X pins σ H s):∀ b∈frs X.stack,H b=none:=fun b hb=>by
 rcases YC.mp (I.nO b hb) with e | hb
 ·rw [e];exact I.free
 ·obtain ⟨_,o,ho,_⟩:=I.ok.nM.mem hb
  exact I.base.free b o ho (I.ok.Aq b hb) fun z=>I.ok.uE b z hb
theorem Inv.step {g':Array GenState} {t':Nat} {d':Drawn} {ch:List Addr} (I:Inv X pins σ H s)
  (hch:∀ b∈ch,(b∈X.ex\/X.s₀.heap.objs.size<=b)/\b≠X.env.locals/\(∀ x c,X.env.cells.lookup x=some c->c≠b)/\∀ p∈X.pn ++ pins,p.1≠b)
  (keep:∀ b o,b≠X.env.locals->b ∉ X.fs->b ∉ ch->s.heap.get? b=some o->H b=none->h'.get? b=some o)
  (slot:∀ b o,b≠X.env.locals->b∈X.fs->b ∉ ch->s.heap.get? b=some o->H b=none->∃ sl,h'.get? b=some { o with slots:=sl }) (free:∀ b o,b ∉ ch->s.heap.get? b=some o->H b=none->H' b=none)
  (there:∀ b o,b ∉ ch->s.heap.get? b=some o->∃ o',h'.get? b=some o')
  (tups:∀ b xs,H b=some (.tup xs)->H' b=some (.tup xs)) (oT:∀ b o u,H b=some (.nL o u)->H' b=some (.nL o u)) (pO:∀ b ps,H b=some (.xB ps)->∃ more,H' b=some (.xB (ps ++ more)))
  (ns:∀ m,s.heap.Ns X.env.locals m->h'.Ns X.env.locals m) (hok:lR X.prog X.w H' h') (hg:AllBare g') :
  Inv X pins σ H' { s with heap:=h',gens:=g',drawn:=d',toks:=t' }:=by
 have xF:∀ b o,X.s₀.heap.get? b=some o->b≠X.env.locals:=fun b o e=>YQ (YH (Yx e) I.ok.above)
 have FD:∀ b o,X.s₀.heap.get? b=some o->b ∉ X.ex->b ∉ ch:=fun b o e hx hb=>by
  rcases (hch b hb).1 with z | z
  ·exact hx z
  ·exact absurd (YH (Yx e) z) (Nat.lt_irrefl _)
 have cellK:∀ x c,X.env.cells.lookup x=some c->∀ v,s.heap.IsCell c v->h'.IsCell c v:=fun x c e v ⟨o,ho,hd⟩=>by
  have Bw:c ∉ ch:=fun z=>(hch c z).2.2.1 x c e rfl
  by_cases hc:c∈X.fs
  ·obtain ⟨sl,q⟩:=slot c o (I.xE x c e) hc Bw ho (I.kL x c e)
   exact ⟨_,q,hd⟩
  ·exact ⟨o,keep c o (I.xE x c e) hc Bw ho (I.kL x c e),hd⟩
 refine ⟨I.ok,I.os,hg,⟨fun b o e n hb hx=>?_,fun b o e n hb hx=>?_,fun b o e n hx=>?_,fun b o e hx=>?_,fun b xs e=>tups b xs (I.base.tups b xs e),fun b o xs e=>oT b o xs (I.base.oT b o xs e),fun b ps e=>?_⟩,?_,fun x c e=>?_,?_,fun x c e=>?_,fun p hp=>?_,hok,I.len⟩
 ·exact keep b o (xF b o e) hb (FD b o e hx) (I.base.keep b o e n hb hx) (I.base.free b o e n hx)
 ·obtain ⟨sl,e1⟩:=I.base.slot b o e n hb hx
  obtain ⟨PX,e2⟩:=slot b _ (xF b o e) hb (FD b o e hx) e1 (I.base.free b o e n hx)
  exact ⟨PX,e2⟩
 ·obtain ⟨o',e1⟩:=I.base.there b o e hx
  exact free b o' (FD b o e hx) e1 (I.base.free b o e n hx)
 ·obtain ⟨o',e1⟩:=I.base.there b o e hx
  exact there b o' (FD b o e hx) e1
 ·obtain ⟨m1,e1⟩:=I.base.pO b ps e
  obtain ⟨m2,e2⟩:=pO b _ e1
  exact ⟨m1 ++ m2,by rw [e2,Array.append_assoc]⟩
 ·obtain ⟨m,hn,hl⟩:=I.loc
  refine ⟨m,ns m hn,fun i x v e1 e2 e3=>?_⟩
  obtain ⟨u,r,l⟩:=hl i x v e1 e2 e3
  refine ⟨u,r,?_⟩
  rcases l with l | ⟨k,c,e,z⟩
  ·exact .inl l
  ·exact .inr ⟨k,c,e,cellK x c e _ z⟩
 ·obtain ⟨v,z⟩:=I.cell x c e
  exact ⟨v,cellK x c e v z⟩
 ·obtain ⟨m,⟨o,_,_,ho,_⟩,_⟩:=I.loc
  exact free _ o (fun z=>(hch _ z).2.1 rfl) ho I.free
 ·obtain ⟨v,o,ho,hd⟩:=I.cell x c e
  exact free c o (fun z=>(hch c z).2.2.1 x c e rfl) ho (I.kL x c e)
 ·obtain ⟨e,n,ne,nf,d⟩:=I.pin p hp
  have Bw:p.1 ∉ ch:=fun z=>(hch p.1 z).2.2.2 p hp rfl
  exact ⟨keep p.1 p.2 ne nf Bw e n,free p.1 p.2 Bw e n,ne,nf,d⟩
theorem Inv.un {t':Nat} (I:Inv X pins σ H s) (u:Un X.fs [] H H' s.heap h') (hok:lR X.prog X.w H' h'):Inv X pins σ H' { s with heap:=h',toks:=t' }:=by
 obtain ⟨m,⟨o,es,ep,ho,r⟩,_⟩:=id I.loc
 obtain ⟨sl,hL⟩:=u.any ho I.free (by simp)
 exact I.step (g':=s.gens) (d':=s.drawn) (ch:=[]) (fun _ z=>nomatch z) (fun b o _ hb _ e n=>u.keep b o e n hb (by simp)) (fun b o _ hb _ e n=>u.slot b o e n hb (by simp)) (fun b o _ e n=>u.free b o e n (by simp)) (fun b o _ e=>u.there b o e (by simp)) u.tups u.oT u.pO (fun m' hm=>by
  obtain ⟨o',es',Iz,ho',r'⟩:=hm
  rw [ho] at ho';cases ho'
  exact ⟨_,es',Iz,hL,r'⟩) hok I.bare
theorem Inv.call {g':Array GenState} {t':Nat} {d':Drawn} {ch:List Addr} (I:Inv X pins σ H s) (u:Un (frs X.stack) ch H H' s.heap h') (hok:lR X.prog X.w H' h') (hg:AllBare g')
  (hch:∀ b∈ch,(b∈X.ex\/X.s₀.heap.objs.size<=b)/\b≠X.env.locals/\(∀ x c,X.env.cells.lookup x=some c->c≠b)/\∀ p∈X.pn ++ pins,p.1≠b) :
  Inv X pins σ H' { s with heap:=h',gens:=g',drawn:=d',toks:=t' }:=by
 obtain ⟨m,⟨o,es,ep,ho,r⟩,_⟩:=id I.loc
 obtain ⟨sl,hL⟩:=u.any ho I.free fun z=>(hch _ z).2.1 rfl
 exact I.step (ch:=ch) hch (fun b o hL hb hc e n=>u.keep b o e n (fun z=>(YC.mp (I.nO b z)).elim hL hb) hc) (fun b o _ _ hc e n=>u.any e n hc) (fun b o hc e n=>u.free b o e n hc) (fun b o hc e=>u.there b o e hc) u.tups u.oT u.pO (fun m' hm=>by
  obtain ⟨o',es',Iz,ho',r'⟩:=hm
  rw [ho] at ho';cases ho'
  exact ⟨_,es',Iz,hL,r'⟩) hok hg
theorem Inv.turned {t':Nat} {it:Addr} (I:Inv X pins σ H s) (k:∀ b o,b≠it->s.heap.get? b=some o->h'.get? b=some o) (hn:H it=none) (hL:it≠X.env.locals)
  (h1:it∈X.ex\/X.s₀.heap.objs.size<=it) (h2:∀ x c,X.env.cells.lookup x=some c->c≠it) (h3:∀ p∈X.pn ++ pins,p.1≠it):Inv X pins σ H { s with heap:=h',toks:=t' }:=by
 have Bx:∀ b u,H b=some u->b≠it:=fun b u e z=>by rw [z,hn] at e;cases e
 refine I.step (g':=s.gens) (d':=s.drawn) (ch:=[it]) (fun b hb=>?_) (fun b o _ _ hc e _=>k b o (fun z=>hc (by simp [z])) e) (fun b o _ _ hc e _=>⟨o.slots,k b o (fun z=>hc (by simp [z])) e⟩) (fun _ _ _ _ n=>n)
  (fun b o hc e=>⟨o,k b o (fun z=>hc (by simp [z])) e⟩) (fun _ _ e=>e) (fun _ _ _ e=>e) (fun b ps e=>⟨#[],by rw [e];simp⟩) (fun m hm=>?_) (fun b u e=>?_) I.bare
 ·have e:b=it:=by simpa using hb
  subst e
  exact ⟨h1,hL,h2,h3⟩
 ·obtain ⟨o,es,ep,ho,r⟩:=hm
  exact ⟨o,es,ep,k _ o (Ne.symm hL) ho,r⟩
 ·refine (I.hok b u e).stay (fun c v hc q=>k c v ?_ q) (fun _ q=>q) fun _ _ q=>q
  rcases hc with z | z
  ·rw [z];exact Bx b u e
  ·exact Bx c _ z
theorem Inv.tok (I:Inv X pins σ H s) (t:Nat):Inv X pins σ H { s with toks:=t }:=I.un (h':=s.heap) (t':=t) Un.refl I.hok
theorem Inv.kept {t':Nat} (I:Inv X pins σ H s) (k:∀ b u,s.heap.get? b=some u->h'.get? b=some u):Inv X pins σ H { s with heap:=h',toks:=t' }:=I.un (Un.kept k) (I.hok.kept k)
theorem Inv.laid {a:Addr} {o:HO} {t':Nat} (I:Inv X pins σ H s) (k:∀ b u,s.heap.get? b=some u->h'.get? b=some u) (hp:s.heap.objs.size<=a) (new:cf X.prog X.w (upd H a o) h' a o) :
  Inv X pins σ (upd H a o) { s with heap:=h',toks:=t' }:=I.un (Un.laid k hp (I.hok.fresh hp)) (I.hok.laid k hp new)
theorem Inv.write {x e:Addr} {o:HO} {t':Nat} (I:Inv X pins σ H s) (mu:Bs (H x)) (he:e=x\/H e=some (.own x)) (k:∀ b u,b≠e->s.heap.get? b=some u->h'.get? b=some u) (Ap:∃ u,h'.get? e=some u)
  (new:cf X.prog X.w (upd H x o) h' x o):Inv X pins σ (upd H x o) { s with heap:=h',toks:=t' }:=I.un (Un.write mu he k Ap) (I.hok.write mu he k Ap new)
theorem Inv.nC {vG:List (Addr×Obj)} (I:Inv X pins σ H s) (h:∀ p∈vG,s.heap.get? p.1=some p.2/\H p.1=none/\p.1≠X.env.locals/\p.1 ∉ X.fs/\∀ v,p.2.data≠.cell v):Inv X vG σ H s :=
 ⟨I.ok,I.os,I.bare,I.base,I.loc,I.cell,I.free,I.kL,fun p hp=>(Yz.mp hp).elim (fun z=>I.pin p (List.mem_append_left _ z)) (h p),I.hok,I.len⟩
theorem LQ {N:List Str} (hN:N.Nodup) {i j:Nat} {x:Str} (a:N[i]?=some x) (b:N[j]?=some x):i=j:=by
 obtain ⟨h1,e1⟩:=Ya.mp a
 obtain ⟨h2,e2⟩:=Ya.mp b
 exact (List.getElem_inj hN).mp (e1.trans e2.symm)
theorem LR {M:Model} {A:Around} {E:Value->Shared->Prop} {i:Nat} {x:Str} {v:V} {u:Value} {Q:Unit->Shared->Prop} (I:Inv X pins σ H s) (hN:X.N.Nodup) (hi:X.N[i]?=some x) (hx:Loc X.env.scope x) (r:RelV v u)
  (h:∀ s',Inv X pins (σ.set i (some v)) H s'->(∃ a,Heap.SameBut a s.heap s'.heap/\(a=X.env.locals\/X.env.cells.lookup x=some a))->Q () s') (hf:X.fn x=true\/X.env.scope.names.lookup x=some .local:=by first | exact .inl rfl | exact .inr rfl | assumption):wpAny M A (storeName X.env x u) Q E s:=by
 obtain ⟨m,hn,hl⟩:=id I.loc
 have hcls:(X.env.scope.kind == .class || (X.env.scope.kind == .module && X.env.locals != X.env.globals))=false:=by rw [I.ok.kind];rfl
 have hiσ:i < σ.length:=by rw [I.len];exact (Ya.mp hi).1
 have xE:=I.xE
 have tracked:∀ {a:Addr} {h':Heap},(∃ o,s.heap.get? a=some o/\H a=none)->Heap.SameBut a s.heap h'->lR X.prog X.w H h':=fun {a h'} ha hs b ob e=>by
  obtain ⟨_,_,hfree⟩:=ha
  refine (I.hok b ob e).stay (fun c w' hc q=>(hs.2 c ?_).trans q) (fun _ q=>q) fun _ _ q=>q
  rintro rfl
  rcases hc with rfl | hc
  ·rw [hfree] at e;cases e
  ·rw [hfree] at hc;cases hc
 rcases hx with hk | hk
 ·refine wpAny_storeName_local hk hn (fun h' hn' hs=>?_) hcls
  obtain ⟨oL,_,_,PY,_⟩:=id hn
  refine h _ ⟨I.ok,I.os,I.bare,⟨fun b o e n hb hx=>?_,fun b o e n hb hx=>?_,I.base.free,fun b o e hx=>?_,I.base.tups,I.base.oT,I.base.pO⟩,⟨_,hn',fun j y v' e1 e2 e3=>?_⟩,fun y c e=>?_,I.free,I.kL,fun p hp=>?_,tracked ⟨oL,PY,I.free⟩ hs,by simpa using I.len⟩ ⟨_,hs,.inl rfl⟩
  ·exact (hs.2 b (YQ (YH (Yx e) I.ok.above))).trans (I.base.keep b o e n hb hx)
  ·obtain ⟨sl,e1⟩:=I.base.slot b o e n hb hx
   exact ⟨sl,(hs.2 b (YQ (YH (Yx e) I.ok.above))).trans e1⟩
  ·obtain ⟨o',e1⟩:=I.base.there b o e hx
   exact ⟨o',(hs.2 b (YQ (YH (Yx e) I.ok.above))).trans e1⟩
  ·by_cases hj:j=i
   ·subst hj
    rw [hi] at e1;cases e1
    rw [Yj hiσ] at e2
    cases e2
    exact ⟨u,r,.inl ⟨hk,by simp⟩⟩
   ·rw [Yp (Ne.symm hj)] at e2
    obtain ⟨u',r',q⟩:=hl j y v' e1 e2 e3
    refine ⟨u',r',?_⟩
    rcases q with ⟨k,e⟩ | ⟨k,c,e,z⟩
    ·refine .inl ⟨k,?_⟩
     have:y≠x:=fun e=>hj (LQ hN e1 (e ▸ hi))
     simp [this,e]
    ·exact .inr ⟨k,c,e,z.sameBut hs (xE y c e)⟩
  ·obtain ⟨w',z⟩:=I.cell y c e
   exact ⟨w',z.sameBut hs (xE y c e)⟩
  ·obtain ⟨e,n,ne,nf,d⟩:=I.pin p hp
   exact ⟨(hs.2 p.1 ne).trans e,n,ne,nf,d⟩
 ·have hfn:X.fn x=true:=by
   rcases hf with z | z
   ·exact z
   ·rw [z] at hk;cases hk
  obtain ⟨c,hc⟩:=I.ok.has x (.inl hk)
  obtain ⟨w',z⟩:=I.cell x c hc
  refine wpAny_storeName_cell I.ok.kind hk hc z (fun h' hc' hs=>?_)
  obtain ⟨oc,hoc,IA⟩:=id z
  refine h { s with heap:=h' } ⟨I.ok,I.os,I.bare,⟨fun b o e n hb hx=>?_,fun b o e n hb hx=>?_,I.base.free,fun b o e hx=>?_,I.base.tups,I.base.oT,I.base.pO⟩,⟨m,hn.sameBut hs (Ne.symm (xE x c hc)),fun j y v' e1 e2 e3=>?_⟩,fun y c' e=>?_,I.free,I.kL,fun p hp=>?_,tracked ⟨oc,hoc,I.kL x c hc⟩ hs,by simpa using I.len⟩ ⟨c,hs,.inr hc⟩
  ·exact (hs.2 b (YQ (YH (Yx e) (I.ok.Bu x c hfn hc)))).trans (I.base.keep b o e n hb hx)
  ·obtain ⟨sl,e1⟩:=I.base.slot b o e n hb hx
   exact ⟨sl,(hs.2 b (YQ (YH (Yx e) (I.ok.Bu x c hfn hc)))).trans e1⟩
  ·obtain ⟨o',e1⟩:=I.base.there b o e hx
   exact ⟨o',(hs.2 b (YQ (YH (Yx e) (I.ok.Bu x c hfn hc)))).trans e1⟩
  ·by_cases hj:j=i
   ·subst hj
    rw [hi] at e1;cases e1
    rw [Yj hiσ] at e2
    cases e2
    exact ⟨u,r,.inr ⟨.inl hk,c,hc,hc'⟩⟩
   ·rw [Yp (Ne.symm hj)] at e2
    obtain ⟨u',r',q⟩:=hl j y v' e1 e2 e3
    refine ⟨u',r',?_⟩
    rcases q with q | ⟨k,c',e,z'⟩
    ·exact .inl q
    ·refine .inr ⟨k,c',e,z'.sameBut hs ?_⟩
     rintro rfl
     exact hj (LQ hN e1 (I.ok.inj _ _ _ e hc ▸ hi))
  ·by_cases hcc:c'=c
   ·subst hcc;exact ⟨_,hc'⟩
   ·obtain ⟨w2,z2⟩:=I.cell y c' e
    exact ⟨w2,z2.sameBut hs hcc⟩
  ·obtain ⟨e,n,ne,nf,d⟩:=I.pin p hp
   refine ⟨(hs.2 p.1 ?_).trans e,n,ne,nf,d⟩
   intro q
   rw [q,hoc] at e
   have q':oc=p.2:=Ym e
   exact d w' (by rw [<- q'];exact IA)
theorem FE {M:Model} {A:Around} {E:Value->Shared->Prop} {i:Nat} {x:Str} {v:V} {u:Value} {Q:Unit->Shared->Prop} (I:Inv X pins σ H s) (hN:X.N.Nodup) (hi:X.N[i]?=some x) (hx:Loc X.env.scope x) (r:RelV v u)
  (h:∀ s',Inv X pins (σ.set i (some v)) H s'->Q () s') (hf:X.fn x=true\/X.env.scope.names.lookup x=some .local:=by first | exact .inl rfl | exact .inr rfl | assumption):wpAny M A (storeName X.env x u) Q E s :=
 LR I hN hi hx r (fun s' I' _=>h s' I') hf
theorem Inv.By {s':Shared} {ch:List Addr} (I:Inv X pins σ H s) (ho:s'.os=s.os) (u:Un (frs X.stack) ch H H' s.heap s'.heap) (hok:lR X.prog X.w H' s'.heap) (hg:AllBare s'.gens)
  (hch:∀ b∈ch,(b∈X.ex\/X.s₀.heap.objs.size<=b)/\b≠X.env.locals/\(∀ x c,X.env.cells.lookup x=some c->c≠b)/\∀ p∈X.pn ++ pins,p.1≠b):Inv X pins σ H' s':=by
 obtain ⟨h',g',d',t',o'⟩:=s'
 have e:o'=s.os:=ho
 subst e
 exact I.call (g':=g') (t':=t') (d':=d') u hok hg hch
end
abbrev XK:=Value->Option Addr->Hp->Prop
abbrev St:=List (Option V)
abbrev VK:=V->Hp->Prop
abbrev TE:=St->Hp->VK->Prop
abbrev TT:=St->Hp->(Bool->Hp->Prop)->Prop
abbrev TA:=St->Hp->(List V->Hp->Prop)->Prop
set_option genInjectivity false in
structure Ends where
 nx:St->Hp->Prop
 rt:VK
 bk:St->Hp->Prop:=fun _ _=>False
 ct:St->Hp->Prop:=fun _ _=>False
abbrev TS:=Ends->St->Hp->Prop
def EP (X:Cx) (pins:List (Addr×Obj)) (σ:St) (Q:VK) (u:Value) (s':Shared):Prop:=∃ v H',Inv X pins σ H' s'/\RelV v u/\Q v H'
def TP (X:Cx) (pins:List (Addr×Obj)) (σ:St) (Q:Bool->Hp->Prop) (b:Bool) (s':Shared):Prop:=∃ H',Inv X pins σ H' s'/\Q b H'
def AP (X:Cx) (pins:List (Addr×Obj)) (σ:St) (Q:List V->Hp->Prop) (us:List Value) (s':Shared):Prop:=∃ vs H',Inv X pins σ H' s'/\Vals vs us/\Q vs H'
def SP (X:Cx) (pins:List (Addr×Obj)) (D:Ends) (f:Flow) (s':Shared):Prop :=
 match f with
 | .next=>∃ σ' H',Inv X pins σ' H' s'/\D.nx σ' H'
 | .brk=>∃ σ' H',Inv X pins σ' H' s'/\D.bk σ' H'
 | .cont=>∃ σ' H',Inv X pins σ' H' s'/\D.ct σ' H'
 | .ret u=>∃ v σ' H',Inv X pins σ' H' s'/\RelV v u/\D.rt v H'
def PE (X:Cx) (e:Expr) (t:TE):Prop :=
 ∀ (pins:List (Addr×Obj)) (s:Shared) (σ:St) (H:Hp) (Q:VK),Inv X pins σ H s->t σ H Q->wpAny (model X.prog X.w) X.A (eval e X.env) (EP X pins σ Q) X.xe s
def PT (X:Cx) (e:Expr) (t:TT):Prop :=
 ∀ (pins:List (Addr×Obj)) (s:Shared) (σ:St) (H:Hp) (Q:Bool->Hp->Prop),Inv X pins σ H s->t σ H Q->wpAny (model X.prog X.w) X.A (isTrue e X.env (eval e X.env)) (TP X pins σ Q) X.xe s
def PW (X:Cx) (e:Expr) (t:TT):Prop :=
 ∀ (whole:Sem Value) (pins:List (Addr×Obj)) (s:Shared) (σ:St) (H:Hp) (Q:Bool->Hp->Prop),Inv X pins σ H s->t σ H Q->wpAny (model X.prog X.w) X.A (isTrue e X.env whole) (TP X pins σ Q) X.xe s
theorem PW.pt {X:Cx} {e:Expr} {t:TT} (h:PW X e t):PT X e t:=h _
def PA (X:Cx) (es:List Expr) (t:TA):Prop :=
 ∀ (pos:Pos) (pins:List (Addr×Obj)) (s:Shared) (σ:St) (H:Hp) (Q:List V->Hp->Prop),Inv X pins σ H s->t σ H Q->wpAny (model X.prog X.w) X.A (spliced (backTo pos (starEach es X.env))) (AP X pins σ Q) X.xe s
def PS (X:Cx) (st:Stmt) (t:TS):Prop :=
 ∀ (pins:List (Addr×Obj)) (s:Shared) (σ:St) (H:Hp) (D:Ends),Inv X pins σ H s->t D σ H->wpAny (model X.prog X.w) X.A (exec st X.env) (SP X pins D) X.xe s
def rj (X:Cx) (st:List Stmt) (t:TS):Prop :=
 ∀ (pins:List (Addr×Obj)) (s:Shared) (σ:St) (H:Hp) (D:Ends),Inv X pins σ H s->t D σ H->wpAny (model X.prog X.w) X.A (execs st X.env) (SP X pins D) X.xe s
theorem cI {α:Type} {t:Sem α} {Q Q':α->Shared->Prop} {M:Model} {A:Around} {E:Value->Shared->Prop} {s:Shared} (h:wpAny M A t Q E s) (hQ:∀ a s,Q a s->Q' a s):wpAny M A t Q' E s:=wpAny_mono h hQ fun _ _ x=>x
section
variable {X:Cx}
def xG (i:Nat):TE:=fun σ H Q=>∃ v,σ[i]?=some (some v)/\Q v H
def tC (v:V):TE:=fun _ H Q=>Q v H
theorem xH {i:Nat} {x:Str} {pos:Pos} (hN:X.N[i]?=some x) (hv:Iw X.env.scope x) (hd:(x == ("__debug__" : Str))=false:=by decide) (hcd:(x == ("__classdict__" : Str))=false:=by decide):PE X (.Name x pos) (xG i):=by
 intro pins s σ H Q I h
 obtain ⟨v,e,h⟩:=h
 obtain ⟨m,hn,hl⟩:=I.loc
 obtain ⟨u,r,l⟩:=hl i x v hN e hv
 have fin:EP X pins σ Q u s:=⟨v,H,I,r,h⟩
 rcases l with ⟨hk,hm⟩ | ⟨hk,c,hc,hcell⟩
 ·exact wpAny_Name (wpAny_loadName_local I.ok.kind hk hn hm fin) hd
 ·rcases hk with hk | hk
  ·exact wpAny_Name (wpAny_loadName_cell I.ok.kind hk hc hcell fin) hd
  ·exact wpAny_Name (wpAny_loadName_free I.ok.kind hk hc hcell fin hcd) hd
theorem aJ {i j pos}:PE X (.Constant (.int i) j pos) (tC (.int i)):=fun _ _ _ H _ I h=>wpAny_Constant_int ⟨.int i,H,I.tok _,⟨_,rfl⟩,h⟩
theorem IB {b j pos}:PE X (.Constant (.bool b) j pos) (tC (.bl b)):=fun _ _ _ H _ I h=>Constant_bool ⟨.bl b,H,I,rfl,h⟩
theorem LS {j pos}:PE X (.Constant .none j pos) (tC .non):=fun _ _ _ H _ I h=>Constant_none ⟨.non,H,I,rfl,h⟩
theorem oV {x j pos}:PE X (.Constant (.str x) j pos) (tC (.str x)):=fun _ _ _ H _ I h=>Calls.Constant_str ⟨.str x,H,I.tok _,⟨_,rfl⟩,h⟩
def Gl (X:Cx) (x:Str):Prop:=X.env.kindOf x=some .globalImplicit
theorem LU {E:Value->Shared->Prop} {pins:List (Addr×Obj)} {s:Shared} {σ:St} {H:Hp} {x:Str} {u:Value} {pos:Pos} {Q:Value->Shared->Prop} (I:Inv X pins σ H s) (hg:Gl X x) (hm:X.mg x=some u) (h:Q u s)
  (hd:(x == ("__debug__" : Str))=false:=by decide):wpAny (model X.prog X.w) X.A (eval (.Name x pos) X.env) Q E s :=
 Calls.Name_function_global I.ok.kind hg (Calls.loadGlobal_global (by rw [I.ok.glob];exact I.mod.glob.keeps I.bk) hm h) hd
theorem xI {E:Value->Shared->Prop} {pins:List (Addr×Obj)} {s:Shared} {σ:St} {H:Hp} {x:Str} {u:Value} {pos:Pos} {Q:Value->Shared->Prop} (I:Inv X pins σ H s) (hg:Gl X x) (hm:X.mg x=none) (hv:bootBuiltins x=some u) (h:Q u s)
  (hn:x≠"__name__" := by decide) (hd:(x == ("__debug__" : Str))=false:=by decide):wpAny (model X.prog X.w) X.A (eval (.Name x pos) X.env) Q E s:=by
 obtain ⟨mb,h1,h2⟩:=I.mod.blt
 exact Calls.Name_function_global I.ok.kind hg (Calls.loadGlobal_builtin (by rw [I.ok.glob];exact I.mod.glob.keeps I.bk) hm (by rw [I.ok.blt];exact h1.keeps I.bk) ((h2 x hn).trans hv) h) hd
theorem PZ {x:Str} {v:V} {u:Value} {pos:Pos} (hg:Gl X x) (hm:X.mg x=some u) (r:RelV v u) (hd:(x == ("__debug__" : Str))=false:=by decide):PE X (.Name x pos) (tC v) :=
 fun _ _ _ H _ I h=>LU I hg hm ⟨v,H,I,r,h⟩ hd
theorem P0 {x:Str} {v:V} {u:Value} {pos:Pos} (hg:Gl X x) (hm:X.mg x=none) (hv:bootBuiltins x=some u) (r:RelV v u) (hn:x≠"__name__" := by decide) (hd:(x == ("__debug__" : Str))=false:=by decide):PE X (.Name x pos) (tC v) :=
 fun _ _ _ H _ I h=>xI I hg hm hv ⟨v,H,I,r,h⟩ hn hd
variable {a b:Expr} {ta tb:TE} {pos:Pos}
def PC (X:Cx) (op:CmpOp) (a b:Expr) (t:TE):Prop :=
 ∀ (pins:List (Addr×Obj)) (s:Shared) (σ:St) (H:Hp) (Q:VK),Inv X pins σ H s->t σ H Q ->
  wpAny (model X.prog X.w) X.A (eval a X.env) (fun v s₁=>wpAny (model X.prog X.w) X.A (eval b X.env) (fun u s₂=>wpAny (model X.prog X.w) X.A (compareOp op v u) (EP X pins σ Q) X.xe s₂) X.xe s₁) X.xe s
theorem sf (b:Expr) {op:CmpOp} (h:op≠.In) (h2:op≠.NotIn):behindInMarks op b=false:=by
 have e1:(op == CmpOp.In)=false:=by cases op <;> first | rfl | exact absurd rfl h
 have e2:(op == CmpOp.NotIn)=false:=by cases op <;> first | rfl | exact absurd rfl h2
 cases b <;> simp [behindInMarks,e1,e2]
def tB (t:TE):TT:=fun σ H Q=>t σ H fun x H1=>∃ c,x=.bl c/\Q c H1
theorem xJ {op:CmpOp} {t:TE} (h:PC X op a b t) (h1:behindInMarks op b=false:=by first | exact sf _ (by decide) (by decide) | rfl):PT X (.Compare a [op] [b] pos) (tB t):=by
 intro pins s σ H Q I hw
 refine wpAny_isTrue_Compare1 (cI (h pins s σ H _ I hw) fun v s1 h1=>cI h1 fun u s2 h2=>cI h2 fun c s3 ⟨x,H1,I1,r1,q1⟩=>?_) h1
 obtain ⟨d,rfl,q⟩:=q1
 cases r1
 exact wpAny_truthy_bool ⟨H1,I1,q⟩
theorem LV {e:Expr} {t:TE} (h:PE X e t) (he:∀ whole,isTrue e X.env whole=(do let v <- whole;standAt e.pos;holding [v] (truthy v)):=by intro _;rfl):PT X e (tB t):=by
 intro pins s σ H Q I hw
 refine isTrue_plain (cI (h pins s σ H _ I hw) fun v s1 ⟨x,H1,I1,r1,q1⟩=>?_) (he _)
 obtain ⟨d,rfl,q⟩:=q1
 cases r1
 exact wpAny_truthy_bool ⟨H1,I1,q⟩
variable {tA FF:TT} {rest:List Expr}
def Bz (t u:TT):TT:=fun σ H Q=>t σ H fun c H1=>if c=true then u σ H1 Q else Q false H1
def LW (t u:TT):TT:=fun σ H Q=>t σ H fun c H1=>if c=true then Q true H1 else u σ H1 Q
def BA (t:TT):TT:=fun σ H Q=>t σ H fun c H1=>Q (!c) H1
theorem IC (ha:PT X a tA):PW X (.BoolOp .And [a] pos) tA:=by
 intro wh pins s σ H Q I h
 refine isTrue_and (cI (ha pins s σ H Q I h) fun c s1 e=>?_)
 cases c with
 | true=>exact isTrue_and_nil e
 | false=>exact e
theorem pw_or1 (ha:PT X a tA):PW X (.BoolOp .Or [a] pos) tA:=by
 intro wh pins s σ H Q I h
 refine isTrue_or (cI (ha pins s σ H Q I h) fun c s1 e=>?_)
 cases c with
 | false=>exact isTrue_or_nil e
 | true=>exact e
theorem IE (ha:PT X a tA) (hb:PW X (.BoolOp .And (b :: rest) pos) FF):PW X (.BoolOp .And (a :: b :: rest) pos) (Bz tA FF):=by
 intro wh pins s σ H Q I h
 refine isTrue_and (cI (ha pins s σ H _ I h) fun c s1 ⟨H1,I1,q1⟩=>?_)
 cases c with
 | true=>exact hb wh pins s1 σ H1 Q I1 q1
 | false=>exact ⟨H1,I1,q1⟩
theorem pw_or (ha:PT X a tA) (hb:PW X (.BoolOp .Or (b :: rest) pos) FF):PW X (.BoolOp .Or (a :: b :: rest) pos) (LW tA FF):=by
 intro wh pins s σ H Q I h
 refine isTrue_or (cI (ha pins s σ H _ I h) fun c s1 ⟨H1,I1,q1⟩=>?_)
 cases c with
 | true=>exact ⟨H1,I1,q1⟩
 | false=>exact hb wh pins s1 σ H1 Q I1 q1
theorem LX (ha:PT X a tA):PT X (.UnaryOp .Not a pos) (BA tA):=by
 intro pins s σ H Q I h
 exact isTrue_not (ha pins s σ H (fun c H1=>Q (!c) H1) I h)
def vH (ta tb:TE):TE:=fun σ H Q=>ta σ H fun x H1=>∃ c,x=.bl c/\if c=true then tb σ H1 Q else Q (.bl false) H1
theorem xK {op} {t:TE} (h:PE X a t):PE X (.BoolOp op [a] pos) t:=fun pins s σ H Q I hw=>BoolOp_one (h pins s σ H Q I hw)
theorem xM (ha:PE X a ta) (hb:PE X (.BoolOp .And (b :: rest) pos) tb):PE X (.BoolOp .And (a :: b :: rest) pos) (vH ta tb):=by
 intro pins s σ H Q I h
 refine BoolOp_and (cI (ha pins s σ H _ I h) fun v s1 ⟨x,H1,I1,r1,q1⟩=>?_)
 obtain ⟨c,rfl,q1⟩:=q1
 cases r1
 refine wpAny_truthy_bool ?_
 cases c with
 | true=>exact hb pins s1 σ H1 Q I1 q1
 | false=>exact ⟨.bl false,H1,I1,rfl,q1⟩
end
def iy (K:Zfr) (H:Hp) (a:Addr) (xs:List V):Prop :=
 Rd H a (.lst xs) \/
  ∃ (o:Obj) (its:Array Value) (n:Nat),K.lookup a=some o/\o.cls=.type "list" /\ o.dict=none/\o.data=.seq its n/\its.size<=sizeLine/\Vals xs its.toList
def d8 (K:Zfr) (H:Hp) (a:Addr) (xs:List V):Prop :=
 Rd H a (.tup xs) \/
  ∃ (o:Obj) (its:Array Value) (n:Nat),K.lookup a=some o/\o.cls=.type "tuple" /\ o.dict=none/\o.data=.seq its n/\its.size<=sizeLine/\Vals xs its.toList
def IF:Value->Option V
 | .none=>some .non
 | .bool b=>some (.bl b)
 | .int i _=>some (.int i)
 | .str x _=>some (.str x)
 | .bytes b _=>some (.sd b)
 | .float b _=>some (.An b)
 | .ref a=>some (.ref a)
 | .type n=>some (.ty n)
 | _=>none
theorem RelV.abs {x:V} {u:Value} (r:RelV x u):IF u=some x:=by
 cases x with
 | non=>cases r;rfl
 | bl _=>cases r;rfl
 | int _=>obtain ⟨t,rfl⟩:=r;rfl
 | str _=>obtain ⟨t,rfl⟩:=r;rfl
 | sd _=>obtain ⟨t,rfl⟩:=r;rfl
 | An _=>obtain ⟨t,rfl⟩:=r;rfl
 | ref _=>cases r;rfl
 | ty _=>cases r;rfl
theorem RelV.inj {x y:V} {u:Value} (r:RelV x u) (q:RelV y u):x=y:=Ym (r.abs.symm.trans q.abs)
theorem Vals.inj:∀ {xs ys:List V} {us:List Value},Vals xs us->Vals ys us->xs=ys
 | _,_,_,.nil,.nil=>rfl
 | _,_,_,.cons r t,.cons r' t'=>by rw [r.inj r',Vals.inj t t']
section
variable {X:Cx} {pins:List (Addr×Obj)} {σ:St} {H:Hp} {s:Shared} {a:Addr} {xs ys:List V}
theorem d8.of {K:Zfr} (h:H a=some (.tup xs)):d8 K H a xs:=.inl (.inl h)
theorem Inv.list (I:Inv X pins σ H s) (h:iy X.K H a xs):∃ its:List Value,Vals xs its/\PlainL s.heap a its.toArray/\xs.length<=sizeLine:=by
 rcases h with h | ⟨o,its,n,hk,hc,hd,hs,hz,r⟩
 ·obtain ⟨z,its,n,r,e⟩:=h.ok I.hok
  exact ⟨its,r,⟨_,n,e,rfl,rfl,rfl⟩,z⟩
 ·refine ⟨its.toList,r,⟨o,n,I.Ar a o hk,hc,hd,by simpa using hs⟩,?_⟩
  have e:=r.length
  simp only [Array.length_toList] at e
  omega
theorem Inv.oW (I:Inv X pins σ H s) (h:d8 X.K H a xs):∃ its:List Value,Vals xs its/\oS s.heap a its.toArray/\xs.length<=sizeLine:=by
 rcases h with h | ⟨o,its,n,hk,hc,hd0,hs,hz,r⟩
 ·obtain ⟨z,its,r,p⟩:=h.ok I.hok
  exact ⟨its,r,p,z⟩
 ·refine ⟨its.toList,r,⟨o,I.Ar a o hk,hc,hd0,n,by simpa using hs⟩,?_⟩
  have e:=r.length
  simp only [Array.length_toList] at e
  omega
theorem Inv.tuple (I:Inv X pins σ H s) (h:d8 X.K H a xs):∃ its:List Value,Vals xs its/\IsTup s.heap a its.toArray/\xs.length<=sizeLine :=
 let ⟨its,r,p,z⟩:=I.oW h
 ⟨its,r,p.tup,z⟩
theorem Inv.pP (I:Inv X pins σ H s) (h:iy X.K H a xs) (h':iy X.K H a ys):xs=ys:=by
 obtain ⟨its,r,⟨o,n,e,_,_,d⟩,_⟩:=I.list h
 obtain ⟨its',r',⟨o',n',e',_,_,d'⟩,_⟩:=I.list h'
 rw [e] at e';cases e'
 rw [d] at d'
 injection d' with d1 _
 have:its=its':=by simpa using congrArg Array.toList d1
 subst this
 exact r.inj r'
theorem Inv.h9 (I:Inv X pins σ H s) (h:d8 X.K H a xs) (h':d8 X.K H a ys):xs=ys:=by
 obtain ⟨its,r,⟨o,e,_,n,d⟩,_⟩:=I.tuple h
 obtain ⟨its',r',⟨o',e',_,n',d'⟩,_⟩:=I.tuple h'
 rw [e] at e';cases e'
 rw [d] at d'
 injection d' with d1 _
 have:its=its':=by simpa using congrArg Array.toList d1
 subst this
 exact r.inj r'
end
abbrev Cx.wish (X:Cx) (E:Value->Shared->Prop):Cx:={ X with xe:=E }
abbrev Cx.oI (X:Cx):Cx:=X.wish fun _ _=>False
theorem Cx.Ok.wish {X:Cx} (ok:X.Ok) (E:Value->Shared->Prop):(X.wish E).Ok :=
 ⟨ok.mod,ok.kind,ok.glob,ok.blt,ok.above,ok.inj,ok.has,ok.Bu,ok.hd,ok.frames,ok.stk,ok.LP,ok.bs,ok.vF,ok.se,ok.uE,ok.nM,ok.Aq⟩
theorem Cx.Ok.jJ {X:Cx} {E:Value->Shared->Prop} (ok:(X.wish E).Ok):X.Ok :=
 ⟨ok.mod,ok.kind,ok.glob,ok.blt,ok.above,ok.inj,ok.has,ok.Bu,ok.hd,ok.frames,ok.stk,ok.LP,ok.bs,ok.vF,ok.se,ok.uE,ok.nM,ok.Aq⟩
section
variable {X:Cx} {pins:List (Addr×Obj)} {σ:St} {H:Hp} {s:Shared} {E:Value->Shared->Prop}
theorem Inv.wish (I:Inv X pins σ H s) (E:Value->Shared->Prop):Inv (X.wish E) pins σ H s:=⟨I.ok.wish E,I.os,I.bare,I.base,I.loc,I.cell,I.free,I.kL,I.pin,I.hok,I.len⟩
theorem Inv.jJ (I:Inv (X.wish E) pins σ H s):Inv X pins σ H s:=⟨I.ok.jJ,I.os,I.bare,I.base,I.loc,I.cell,I.free,I.kL,I.pin,I.hok,I.len⟩
theorem SP.jJ {D:Ends} {f:Flow} {s':Shared} (h:SP (X.wish E) pins D f s'):SP X pins D f s':=by
 cases f with
 | next=>obtain ⟨σ',H',I,q⟩:=h;exact ⟨σ',H',I.jJ,q⟩
 | brk=>obtain ⟨σ',H',I,q⟩:=h;exact ⟨σ',H',I.jJ,q⟩
 | cont=>obtain ⟨σ',H',I,q⟩:=h;exact ⟨σ',H',I.jJ,q⟩
 | ret u=>obtain ⟨v,σ',H',I,r,q⟩:=h;exact ⟨v,σ',H',I.jJ,r,q⟩
theorem rj.oI {st:List Stmt} {t:TS} (h:rj X.oI st t):rj X st t:=fun pins s σ H D I hw =>
 wpAny_mono (h pins s σ H D (I.wish _) hw) (fun _ _ q=>q.jJ) fun _ _ z=>False.elim z
end
section
variable {X:Cx} {st:Stmt} {rest:List Stmt} {t u:TS} {e:Expr} {te:TE} {pos:Pos}
def vI:TS:=fun D σ H=>D.nx σ H
def BB (t u:TS):TS:=fun D σ H=>t { D with nx:=u D } σ H
theorem lM:rj X [] vI:=fun _ _ σ H _ I h=>wpAny_execs_nil ⟨σ,H,I,h⟩
theorem a9 (h1:PS X st t) (h2:rj X rest u):rj X (st :: rest) (BB t u):=by
 intro pins s σ H D I h
 refine wpAny_execs_cons (cI (h1 pins s σ H { D with nx:=u D } I h) fun f s1 q=>?_)
 cases f with
 | next =>
  obtain ⟨σ',H',I',q⟩:=q
  exact h2 pins s1 σ' H' D I' q
 | ret v=>exact q
 | brk=>exact q
 | cont=>exact q
theorem bh (h1:PS X st t):rj X [st] t:=by
 intro pins s σ H D I h
 refine wpAny_execs_cons (cI (h1 pins s σ H D I h) fun f s1 q=>?_)
 cases f with
 | next=>exact wpAny_execs_nil q
 | ret v=>exact q
 | brk=>exact q
 | cont=>exact q
theorem Inv.quiet {pins:List (Addr×Obj)} {σ:St} {H:Hp} {s:Shared} (I:Inv X pins σ H s):interactive X.env=false:=by simp [interactive,I.ok.kind]
def vJ (te:TE):TS:=fun D σ H=>te σ H fun _ H1=>D.nx σ H1
theorem p9 (he:PE X e te) (hs:swapsWith e none pos.line X.env=pure false:=by rfl):PS X (.Expr e pos) (vJ te):=by
 intro pins s σ H D I h
 exact wpAny_Expr_any (cI (he pins s σ H _ I h) fun v s1 ⟨x,H1,I1,r1,q1⟩=>⟨σ,H1,I1,q1⟩) I.quiet hs
def BD (te:TE):TS:=fun D σ H=>te σ H D.rt
theorem c9 (he:PE X e te):PS X (.Return (some e) pos) (BD te):=by
 intro pins s σ H D I h
 exact wpAny_Return_some (cI (he pins s σ H _ I h) fun v s1 ⟨x,H1,I1,r1,q1⟩=>⟨x,σ,H1,I1,r1,q1⟩)
def BE (c:TT) (t u:TS):TS:=fun D σ H=>c σ H fun b H1=>if b=true then t D σ H1 else u D σ H1
theorem kG {c:Expr} {a b:List Stmt} {tc:TT} (hc:PT X c tc) (ha:rj X a t) (hb:rj X b u):PS X (.If c a b pos) (BE tc t u):=by
 intro pins s σ H D I h
 refine wpAny_If (cI (hc pins s σ H _ I h) fun d s1 ⟨H1,I1,q1⟩=>?_)
 cases d with
 | true=>exact ha pins s1 σ H1 D I1 q1
 | false=>exact hb pins s1 σ H1 D I1 q1
def si:TS:=fun _ _ _=>False
theorem P1:PS X st si:=fun _ _ _ _ _ _ h=>h.elim
end
abbrev TG:=V->St->Hp->(St->Hp->Prop)->Prop
abbrev tZ:=List V->St->Hp->(St->Hp->Prop)->Prop
def PG (X:Cx) (target:Expr) (t:TG):Prop :=
 ∀ (pins:List (Addr×Obj)) (s:Shared) (σ:St) (H:Hp) (v:V) (u:Value) (Q:St->Hp->Prop),Inv X pins σ H s->RelV v u->t v σ H Q ->
  wpAny (model X.prog X.w) X.A (assign target X.env u) (fun _ s'=>∃ σ' H',Inv X pins σ' H' s'/\Q σ' H') X.xe s
def FG (X:Cx) (ts:List Expr) (t:tZ):Prop :=
 ∀ (pins:List (Addr×Obj)) (s:Shared) (σ:St) (H:Hp) (vs:List V) (us:List Value) (Q:St->Hp->Prop),Inv X pins σ H s->Vals vs us->t vs σ H Q ->
  wpAny (model X.prog X.w) X.A (assignInOrder ((assignEach ts X.env).map (·.2)) us) (fun _ s'=>∃ σ' H',Inv X pins σ' H' s'/\Q σ' H') X.xe s
abbrev xN:=V->V->V->Hp->(Hp->Prop)->Prop
def BF (X:Cx) (t:xN):Prop :=
 ∀ (pins:List (Addr×Obj)) (s:Shared) (σ:St) (H:Hp) (o i v:V) (ov iv u:Value) (Q:Hp->Prop),Inv X pins σ H s->RelV o ov->RelV i iv->RelV v u->t o i v H Q ->
  wpAny (model X.prog X.w) X.A (setItem ov iv u) (fun _ s'=>∃ H',Inv X pins σ H' s'/\Q H') X.xe s
section
variable {X:Cx} {pos:Pos}
def pQ (i:Nat):TG:=fun v σ H Q=>Q (σ.set i (some v)) H
theorem c4 {i:Nat} {x:Str} (hN:X.N.Nodup) (hi:X.N[i]?=some x) (hx:Loc X.env.scope x) (hf:X.fn x=true\/X.env.scope.names.lookup x=some .local:=by first | exact .inl rfl | exact .inr rfl | assumption):PG X (.Name x pos) (pQ i):=by
 intro pins s σ H v u Q I r h
 exact wpAny_assign_Name (FE I hN hi hx r (fun s' I'=>⟨_,H,I',h⟩) hf)
def BG:tZ:=fun vs σ H Q=>vs=[]/\Q σ H
def vK (t:TG) (u:tZ):tZ:=fun vs σ H Q=>∃ v r,vs=v :: r/\t v σ H fun σ' H'=>u r σ' H' Q
theorem sj:FG X [] BG:=by
 intro pins s σ H vs us Q I r h
 obtain ⟨e,h⟩:=h
 subst e
 cases r
 exact assignInOrder_nil ⟨σ,H,I,h⟩
theorem mZ {e:Expr} {es:List Expr} {t:TG} {u:tZ} (h1:PG X e t) (h2:FG X es u)
  (hs:(assignEach (e :: es) X.env).map (·.2)=assign e X.env :: (assignEach es X.env).map (·.2):=by rfl):FG X (e :: es) (vK t u):=by
 intro pins s σ H vs us Q I r h
 obtain ⟨v,vr,e1,h⟩:=h
 subst e1
 cases r with
 | cons r rr =>
  rw [hs]
  refine assignInOrder_cons (cI (h1 pins s σ H _ _ _ I r h) fun _ s1 ⟨σ1,H1,I1,q1⟩=>?_)
  exact h2 pins s1 σ1 H1 _ _ Q I1 rr q1
def BH (K:Zfr) (n:Nat) (t:tZ):TG:=fun v σ H Q=>∃ a xs,v=.ref a/\d8 K H a xs/\xs.length=n/\t xs σ H Q
theorem sr {es:List Expr} {k:Nat} {t:tZ} {n:Nat} (hc:X.calm=true) (h:FG X es t)
  (hn:(assignEach es X.env).length=n:=by rfl) (hst:(assignEach es X.env).findIdx? (·.1)=none:=by rfl):PG X (.Tuple es k pos) (BH X.K n t):=by
 intro pins s σ H v u Q I r hw
 obtain ⟨a,xs,e1,hq,hl,hw⟩:=hw
 subst e1
 cases r
 obtain ⟨its,rv,ht,hz⟩:=I.tuple hq
 refine assign_Tuple_tuple (I.ok.hd hc) ht (by simp [hn,<- hl,rv.length]) hst fun h' hx=>?_
 have I1:Inv X pins σ H { s with heap:=h' }:=I.kept (t':=s.toks) fun b o e=>hx b o (YQ (Yx e)) e
 exact h pins _ σ H xs _ Q I1 (by simpa using rv) hw
def lS (to ti:TE) (t:xN):TG:=fun v σ H Q=>to σ H fun o H1=>ti σ H1 fun i H2=>t o i v H2 fun H3=>Q σ H3
theorem As {o i:Expr} {to ti:TE} {t:xN} (ho:PE X o to) (hi:PE X i ti) (hs:BF X t)
  (ha:∀ v,assign (.Subscript o i pos) X.env v=(do
   let ov <- holding [v] (eval o X.env)
   let iv <- holding [v,ov] (eval i X.env)
   standAt pos
   holding [v,ov,iv] (setItem ov iv v)
   release [v,ov,iv] []):=by intro _;rfl):PG X (.Subscript o i pos) (lS to ti t):=by
 intro pins s σ H v u Q I r h
 rw [ha]
 refine wpAny_bind (wpAny_holding (cI (ho pins s σ H _ I h) fun ov s1 ⟨x,H1,I1,r1,q1⟩=>?_))
 refine wpAny_bind (wpAny_holding (cI (hi pins s1 σ H1 _ I1 q1) fun iv s2 ⟨y,H2,I2,r2,q2⟩=>?_))
 refine wpAny_bind (wpAny_standAt (wpAny_bind (wpAny_holding (cI (hs pins s2 σ H2 x y v ov iv u _ I2 r1 r2 r q2) fun _ s3 ⟨H3,I3,q3⟩=>?_))))
 exact wpAny_release ⟨σ,H3,I3,q3⟩
def uF (te:TE) (g:TG):TS:=fun D σ H=>te σ H fun x H1=>g x σ H1 D.nx
theorem uc {tg e:Expr} {te:TE} {g:TG} (he:PE X e te) (hg:PG X tg g) (hs:swapsWithSole [tg] e pos.line X.env=pure false:=by rfl) (hw:swappedStores [tg] e X.env=pure none:=by rfl)
  (h1:(assignEach [tg] X.env).map (·.2)=[assign tg X.env]:=by rfl):PS X (.Assign [tg] e pos) (uF te g):=by
 intro pins s σ H D I h
 refine wpAny_Assign_stores (cI (he pins s σ H _ I h) fun v s1 ⟨x,H1,I1,r1,q1⟩=>?_) hs hw
 rw [h1]
 exact cI (hg pins s1 σ H1 x v _ I1 r1 q1) fun _ s2 q=>q
theorem bX {i:Nat} {x:Str} {e:Expr} {te:TE} {pos':Pos} (hN:X.N.Nodup) (hi:X.N[i]?=some x) (hx:Loc X.env.scope x) (he:PE X e te) (hs:swapsWith e (some (.Name x pos')) pos.line X.env=pure false:=by rfl) (hf:X.fn x=true\/X.env.scope.names.lookup x=some .local:=by first | exact .inl rfl | exact .inr rfl | assumption) :
  PS X (.Assign [.Name x pos'] e pos) (uF te (pQ i)):=by
 intro pins s σ H D I h
 refine wpAny_Assign_Name (cI (he pins s σ H _ I h) fun v s1 ⟨y,H1,I1,r1,q1⟩=>?_) hs
 exact FE I1 hN hi hx r1 (fun s2 I2=>⟨_,H1,I2,q1⟩) hf
def BI (i j:Nat) (ta:TA):TS:=fun D σ H=>ta σ H fun vs H1=>∃ v w,vs=[v,w]/\D.nx ((σ.set i (some v)).set j (some w)) H1
theorem LY {i j:Nat} {x y:Str} {a b:Expr} {ta:TA} {px py pt:Pos} {kt k2 IG} (hc:X.calm=true) (hN:X.N.Nodup) (hi:X.N[i]?=some x) (hj:X.N[j]?=some y) (hij:i≠j)
  (hx:X.env.scope.names.lookup x=some .local) (hy:X.env.scope.names.lookup y=some .local) (ha:PA X [a,b] ta)
  (hw:swappedStores [.Tuple [.Name x px,.Name y py] kt pt] (.Tuple [a,b] k2 IG) X.env=pure (some [x,y]))
  (hs:swapsWithSole [.Tuple [.Name x px,.Name y py] kt pt] (.Tuple [a,b] k2 IG) pos.line X.env=pure false:=by rfl) :
  PS X (.Assign [.Tuple [.Name x px,.Name y py] kt pt] (.Tuple [a,b] k2 IG) pos) (BI i j ta):=by
 intro pins s σ H D I h
 rw [exec_Assign_arm]
 refine wpAny_bind (wpAny_standAt ?_)
 rw [hs]
 refine wpAny_bind (wpAny_pure ?_)
 rw [if_neg (by decide)]
 refine wpAny_bind (Tuple_ (cI (ha _ pins s σ H _ I h) fun us s1 ⟨vs,H1,I1,r1,q1⟩=>?_))
 obtain ⟨v,w,e1,q1⟩:=q1
 subst e1
 obtain ⟨u1,u2,rfl,rv,rw'⟩:∃ u1 u2,us=[u1,u2]/\RelV v u1/\RelV w u2:=by
  cases r1 with
  | cons p q =>
   cases q with
   | cons p' q' =>
    cases q'
    exact ⟨_,_,rfl,p,p'⟩
 refine wpAny_newObj_type ?_ (by show 2<=sizeLine;decide)
 have I2:Inv X pins σ H1 { s1 with heap:=s1.heap.push { cls:=.type "tuple",data:=.seq [u1,u2].toArray } }:=I1.kept (t':=s1.toks) fun b o e=>Yq _ e
 rw [hw]
 refine wpAny_bind (wpAny_pure ?_)
 show wpAny (model X.prog X.w) X.A (do rule "assign.swapped-stores";let items <- unpackItems (.ref s1.heap.objs.size) 2 none;assignInOrder [fun v=>bindName X.env y v,fun v=>bindName X.env x v] items.reverse;pure Flow.next) _ _ _
 refine wpAny_bind (wpAny_rule (wpAny_bind (unpackItems_tuple (items:=#[u1,u2]) (I.ok.hd hc) (IsTup.new s1.heap _) fun h' hx'=>?_)))
 have I3:=I2.kept (h':=h') (t':=s1.toks) fun b o e=>hx' b o (YQ (Yx e)) e
 show wpAny _ _ (assignInOrder [fun v=>bindName X.env y v,fun v=>bindName X.env x v] [u2,u1] >>= fun _=>pure Flow.next) _ _ _
 refine wpAny_bind (assignInOrder_cons (wpAny_bindName (FE I3 hN hj (.inl hy) rw' (fun s2 I4=>?_) (.inr hy))))
 refine assignInOrder_cons (wpAny_bindName (FE I4 hN hi (.inl hx) rv (fun s3 I5=>assignInOrder_nil (wpAny_pure ?_)) (.inr hx)))
 rw [List.set_comm _ _ (Ne.symm hij)] at I5
 exact ⟨_,H1,I5,q1⟩
end
section
variable {X:Cx} {pos:Pos}
def su (c:TT) (tb:TS):TS:=fun D σ H=>∃ W:Nat->St->Hp->Prop,(∃ m,W m σ H)/\∀ m σ H,W m σ H ->
 c σ H fun b H1=>if b=true then ∃ N:St->Hp->Prop,(∀ σ' H',N σ' H'->∃ m',m' < m/\W m' σ' H')/\tb { D with nx:=N,ct:=N,bk:=D.nx } σ H1 else D.nx σ H1
theorem xO {c:Expr} {body:List Stmt} {tc:TT} {tb:TS} (hp:PassesOwn (model X.prog X.w) X.A X.env X.xe) (hc:PT X c tc) (hb:rj X body tb):PS X (.While c body [] pos) (su tc tb):=by
 intro pins s σ H D I h
 obtain ⟨W,⟨m0,w0⟩,turn⟩:=h
 refine wpAny_While (codeAny_whileLoop (fun n s'=>∃ σ' H',Inv X pins σ' H' s'/\W n σ' H') ?_ m0 ⟨σ,H,I,w0⟩)
 rintro n s1 ⟨σ1,H1,I1,w1⟩
 refine wpAny_passesOwn hp (cI (hc pins s1 σ1 H1 _ I1 (turn n σ1 H1 w1)) fun b s2 ⟨H2,I2,q2⟩=>?_)
 cases b with
 | true =>
  obtain ⟨N,hN,q2⟩:=q2
  rw [if_pos rfl]
  refine wpAny_passesOwn hp (cI (hb pins s2 σ1 H2 _ I2 q2) fun f s3 q3=>?_)
  cases f with
  | next =>
   obtain ⟨σ3,H3,I3,n3⟩:=q3
   obtain ⟨m',hm,w3⟩:=hN σ3 H3 n3
   exact ⟨m',hm,σ3,H3,I3,w3⟩
  | cont =>
   obtain ⟨σ3,H3,I3,n3⟩:=q3
   obtain ⟨m',hm,w3⟩:=hN σ3 H3 n3
   exact ⟨m',hm,σ3,H3,I3,w3⟩
  | brk=>exact q3
  | ret v=>exact q3
 | false =>
  rw [if_neg Yh]
  exact wpAny_execs_nil ⟨σ1,H2,I2,q2⟩
end
set_option genInjectivity false in
structure It where
 go:Nat->Hp->Prop
 uG:Nat->Hp->V->Hp->Prop
 stop:Nat->Hp->Prop
def mB (X:Cx) (pins:List (Addr×Obj)) (H:Hp) (b:Addr):Prop :=
 H b=none/\b≠X.env.locals/\b ∉ X.fs/\(b∈X.ex\/X.s₀.heap.objs.size<=b)/\(∀ x c,X.env.cells.lookup x=some c->c≠b)/\∀ p∈X.pn ++ pins,p.1≠b
theorem Inv.qa {X:Cx} {pins:List (Addr×Obj)} {σ:St} {H H':Hp} {s:Shared} {b:Addr} (I:Inv X pins σ H s) (hb:s.heap.objs.size<=b) (hn:H' b=none):mB X pins H' b:=by
 refine ⟨hn,Nat.ne_of_gt (YH I.lt hb),I.Bv hb,.inr (Yv I.sz hb),fun x c e z=>?_,fun p hp z=>?_⟩
 ·obtain ⟨v,q⟩:=I.cell x c e
  exact absurd (YH q.lt (by rw [z];exact hb)) (Nat.lt_irrefl _)
 ·exact absurd (YH (Yx (I.pin p hp).1) (by rw [z];exact hb)) (Nat.lt_irrefl _)
structure Turn (P:Program) (w:World) (K:Zfr) (tg:Expr) (J:It) (fp:List Addr) (it:Addr) (tn:Nat->Heap->Prop):Prop where
 mem:it∈fp
 obj:∀ i h,tn i h->∀ b∈fp,∃ o,h.get? b=some o/\∀ v,o.data≠.cell v
 keep:∀ i h h',tn i h->(∀ b∈fp,∀ o,h.get? b=some o->h'.get? b=some o)->tn i h'
 item:∀ (X:Cx),X.prog=P->X.w=w->X.K=K->X.calm=true->∀ (i:Nat) (pins:List (Addr×Obj)) (s:Shared) (σ:St) (H:Hp) (E:Value->Shared->Prop),Inv X pins σ H s->(∀ b∈fp,mB X pins H b)->tn i s.heap->J.go i H ->
  wpAny (model P w) X.A (pyNext (.ref it)) (fun r s1=>∃ u,r=some u /\
   wpAny (model P w) X.A (letOwnedTupleGo tg (.ref it) u) (fun _ s2=>∃ x H',Inv X pins σ H' s2/\RelV x u/\J.uG i H x H'/\tn (i + 1) s2.heap/\∀ b∈fp,H' b=none) E s1) E s
 done:∀ (X:Cx),X.prog=P->X.w=w->X.K=K->X.calm=true->∀ (i:Nat) (pins:List (Addr×Obj)) (s:Shared) (σ:St) (H:Hp) (E:Value->Shared->Prop),Inv X pins σ H s->(∀ b∈fp,mB X pins H b)->tn i s.heap->J.stop i H ->
  wpAny (model P w) X.A (pyNext (.ref it)) (fun r s1=>r=none/\Inv X pins σ H s1) E s
 self:∀ (A:Around) (i:Nat) (s:Shared) (Q:Value->Shared->Prop) (E:Value->Shared->Prop),tn i s.heap->Q (.ref it) s->wpAny (model P w) A (pyIter (.ref it)) Q E s
abbrev TI:=St->Hp->(It->Hp->Prop)->Prop
def IH (X:Cx) (pins:List (Addr×Obj)) (σ:St) (tg:Expr) (R:It->Hp->Prop) (itv:Value) (s2:Shared):Prop :=
 ∃ (it:Addr) (fp:List Addr) (tn:Nat->Heap->Prop) (J:It) (H':Hp),itv=.ref it/\Inv X pins σ H' s2/\Turn X.prog X.w X.K tg J fp it tn/\tn 0 s2.heap/\(∀ b∈fp,mB X pins H' b)/\R J H'
def PI (X:Cx) (tg iter:Expr) (wi:TI):Prop :=
 ∀ (pins:List (Addr×Obj)) (s:Shared) (σ:St) (H:Hp) (R:It->Hp->Prop),Inv X pins σ H s->wi σ H R ->
  wpAny (model X.prog X.w) X.A (eval iter X.env) (fun v s1=>wpAny (model X.prog X.w) X.A (pyIter v) (IH X pins σ tg R) X.xe s1) X.xe s
theorem FH {M:Model} {A:Around} {E:Value->Shared->Prop} {s:Shared} {tg:Expr} {it:Addr} {u:Value} {o:Obj} {n:String} {vs:Array Value} {Q:Unit->Shared->Prop} (ho:s.heap.get? it=some o) (hc:o.cls=.type n) (hd:o.data=.fields vs)
  (hn:["enumerate","zip","dict_itemiterator","dict_reverseitemiterator","odict_iterator","itertools.zip_longest","itertools.pairwise"].contains n=false) (hQ:Q () s):wpAny M A (letOwnedTupleGo tg (.ref it) u) Q E s:=by
 unfold letOwnedTupleGo
 cases tg <;> first
  | exact wpAny_pure hQ
  | (cases u <;> first
    | exact wpAny_pure hQ
    | (refine wpAny_bind (wpAny_load ho ?_)
       rw [hc,hd]
       show wpAny M A (if (["enumerate","zip","dict_itemiterator","dict_reverseitemiterator","odict_iterator","itertools.zip_longest","itertools.pairwise"].contains n && vs[0]? == some (rawInt _))=true then _ else _) Q E s
       rw [if_neg (by intro h;rw [hn,Bool.false_and] at h;cases h)]
       exact wpAny_pure hQ))
def LZ (K:Zfr) (a:Addr):It :=
 ⟨fun i H=>∃ xs x,iy K H a xs/\xs[i]?=some x,fun i H x H'=>H'=H/\∀ xs,iy K H a xs->xs[i]?=some x,fun i H=>∃ xs,iy K H a xs/\xs.length<=i⟩
def L0 (K:Zfr) (a:Addr):It :=
 ⟨fun i H=>∃ xs x,d8 K H a xs/\xs[i]?=some x,fun i H x H'=>H'=H/\∀ xs,d8 K H a xs->xs[i]?=some x,fun i H=>∃ xs,d8 K H a xs/\xs.length<=i⟩
def BJ (lo:Int) (n:Nat):It:=⟨fun i _=>i < n,fun i H x H'=>H'=H/\x=.int (lo + i),fun i _=>n<=i⟩
theorem P4 {P:Program} {w:World} {K:Zfr} {tg:Expr} (a it:Addr):Turn P w K tg (LZ K a) [it] it (fun i h=>h.IsListIter it a i) where
 mem:=by simp
 obj:=fun i h st b hb=>by
  have e:b=it:=by simpa using hb
  subst e
  obtain ⟨o,e,c,d⟩:=st
  exact ⟨o,e,fun v z=>by rw [d] at z;cases z⟩
 keep:=fun i h h' st k=>st.at fun o e=>k it (by simp) o e
 item:=by
  intro X hP hw hK hc i pins s σ H E I hf st hg
  subst hP hw hK
  obtain ⟨xs,x,hq,hx⟩:=hg
  obtain ⟨its,rv,p,hz⟩:=I.list hq
  obtain ⟨u,hu,ru⟩:=rv.get hx
  obtain ⟨f0,f1,f2,f3,f4,f5⟩:=hf it (by simp)
  refine wpAny_pyNext_list_item st p.isList (x:=u) (by simpa using hu) fun h' st' sb=>?_
  have I1:Inv X pins σ H { s with heap:=h' }:=I.turned (t':=s.toks) (fun b o hb e=>(sb.2 b hb).trans e) f0 f1 f3 f4 f5
  obtain ⟨o,e,c,d⟩:=id st'
  exact ⟨u,rfl,FH (s:={ s with heap:=h' }) e c d (by decide) ⟨x,H,I1,ru,⟨rfl,fun ys hy=>by rw [I.pP hy hq];exact hx⟩,st',fun b hb=>(hf b hb).1⟩⟩
 done:=by
  intro X hP hw hK hc i pins s σ H E I hf st hg
  subst hP hw hK
  obtain ⟨xs,hq,hx⟩:=hg
  obtain ⟨its,rv,p,hz⟩:=I.list hq
  obtain ⟨f0,f1,f2,f3,f4,f5⟩:=hf it (by simp)
  have hl:=rv.length
  exact wpAny_pyNext_list_end (I.ok.hd hc) st p.isList (by simp;omega) fun h' eb=>⟨rfl,I.turned (t':=s.toks) (fun b o hb e=>eb b o hb e) f0 f1 f3 f4 f5⟩
 self:=fun _ _ _ _ _ st h=>wpAny_pyIter_listiter st h
theorem P5 {P:Program} {w:World} {K:Zfr} {tg:Expr} (a it:Addr):Turn P w K tg (L0 K a) [it] it (fun i h=>h.IsTupleIter it a i) where
 mem:=by simp
 obj:=fun i h st b hb=>by
  have e:b=it:=by simpa using hb
  subst e
  obtain ⟨o,e,c,d⟩:=st
  exact ⟨o,e,fun v z=>by rw [d] at z;cases z⟩
 keep:=fun i h h' st k=>st.at fun o e=>k it (by simp) o e
 item:=by
  intro X hP hw hK hc i pins s σ H E I hf st hg
  subst hP hw hK
  obtain ⟨xs,x,hq,hx⟩:=hg
  obtain ⟨its,rv,p,hz⟩:=I.tuple hq
  obtain ⟨u,hu,ru⟩:=rv.get hx
  obtain ⟨f0,f1,f2,f3,f4,f5⟩:=hf it (by simp)
  refine wpAny_pyNext_tuple_item st (show s.heap.IsTuple a its.toArray from p) (x:=u) (by simpa using hu) fun h' st' sb=>?_
  have I1:Inv X pins σ H { s with heap:=h' }:=I.turned (t':=s.toks) (fun b o hb e=>(sb.2 b hb).trans e) f0 f1 f3 f4 f5
  obtain ⟨o,e,c,d⟩:=id st'
  exact ⟨u,rfl,FH (s:={ s with heap:=h' }) e c d (by decide) ⟨x,H,I1,ru,⟨rfl,fun ys hy=>by rw [I.h9 hy hq];exact hx⟩,st',fun b hb=>(hf b hb).1⟩⟩
 done:=by
  intro X hP hw hK hc i pins s σ H E I hf st hg
  subst hP hw hK
  obtain ⟨xs,hq,hx⟩:=hg
  obtain ⟨its,rv,p,hz⟩:=I.tuple hq
  obtain ⟨f0,f1,f2,f3,f4,f5⟩:=hf it (by simp)
  have hl:=rv.length
  exact wpAny_pyNext_tuple_end (I.ok.hd hc) st (show s.heap.IsTuple a its.toArray from p) (by simp;omega) fun h' eb=>⟨rfl,I.turned (t':=s.toks) (fun b o hb e=>eb b o hb e) f0 f1 f3 f4 f5⟩
 self:=fun _ _ _ _ _ st h=>wpAny_pyIter_tupleiter st h
theorem P6 {P:Program} {w:World} {K:Zfr} {tg:Expr} (it:Addr) (lo:Int) (n:Nat):Turn P w K tg (BJ lo n) [it] it (fun i h=>IsRangeIter h it (lo + (i:Nat) * 1) ((n:Int) - (i:Nat)) 1) where
 mem:=by simp
 obj:=fun i h st b hb=>by
  have e:b=it:=by simpa using hb
  subst e
  exact ⟨_,st,fun v z=>by
   have z':Data.fields _=Data.cell v:=z
   cases z'⟩
 keep:=fun i h h' st k=>k it (by simp) _ st
 item:=by
  intro X hP hw hK hc i pins s σ H E I hf st hg
  subst hP hw hK
  obtain ⟨f0,f1,f2,f3,f4,f5⟩:=hf it (by simp)
  have W:=Walks.range (prog:=X.prog) (w:=X.w) (I.ok.hd hc) it lo 1 n
  refine W.item i s _ _ hg st fun v h' tk hv st' kk=>?_
  obtain ⟨t,rfl⟩:=hv
  have I1:Inv X pins σ H { s with heap:=h',toks:=tk }:=I.turned (fun b o hb e=>kk b o (by simpa using hb) e) f0 f1 f3 f4 f5
  refine ⟨_,rfl,FH (s:={ s with heap:=h',toks:=tk }) (n:="range_iterator") st' rfl rfl (by decide) ⟨.int (lo + i),H,I1,⟨t,?_⟩,⟨rfl,rfl⟩,st',fun b hb=>(hf b hb).1⟩⟩
  rw [Int.mul_one]
 done:=by
  intro X hP hw hK hc i pins s σ H E I hf st hg
  subst hP hw hK
  obtain ⟨f0,f1,f2,f3,f4,f5⟩:=hf it (by simp)
  exact wpAny_pyNext_range_end (I.ok.hd hc) st (by have:n<=i:=hg;omega) fun h' eb=>⟨rfl,I.turned (t':=s.toks) (fun b o hb e=>eb b o hb e) f0 f1 f3 f4 f5⟩
 self:=fun _ _ _ _ _ st h=>wpAny_pyIter_rangeiter st h
section
variable {X:Cx} {tg:Expr}
def sv (K:Zfr) (tl:TE):TI:=fun σ H R=>tl σ H fun x H1=>∃ a,x=.ref a/\(∃ xs,iy K H1 a xs)/\R (LZ K a) H1
def BK (K:Zfr) (tl:TE):TI:=fun σ H R=>tl σ H fun x H1=>∃ a,x=.ref a/\(∃ xs,d8 K H1 a xs)/\R (L0 K a) H1
theorem FI {l:Expr} {tl:TE} (hl:PE X l tl):PI X tg l (sv X.K tl):=by
 intro pins s σ H R I h
 refine cI (hl pins s σ H _ I h) fun v s1 ⟨x,H1,I1,r1,q1⟩=>?_
 obtain ⟨a,e,⟨xs,hq⟩,q⟩:=q1
 subst e
 cases r1
 obtain ⟨its,rv,p,hz⟩:=I1.list hq
 refine wpAny_pyIter_list p.isList ?_
 refine ⟨s1.heap.objs.size,[s1.heap.objs.size],_,_,H1,rfl,I1.kept (t':=s1.toks) fun b o e=>Yq _ e,P4 a _,⟨_,Yy _ rfl,rfl,rfl⟩,fun b hb=>?_,q⟩
 have e:b=s1.heap.objs.size:=by simpa using hb
 subst e
 exact I1.qa (Yd _) (I1.hok.fresh (Yd _))
theorem oX {l:Expr} {tl:TE} (hl:PE X l tl):PI X tg l (BK X.K tl):=by
 intro pins s σ H R I h
 refine cI (hl pins s σ H _ I h) fun v s1 ⟨x,H1,I1,r1,q1⟩=>?_
 obtain ⟨a,e,⟨xs,hq⟩,q⟩:=q1
 subst e
 cases r1
 obtain ⟨its,rv,p,hz⟩:=I1.tuple hq
 refine wpAny_pyIter_tuple (show s1.heap.IsTuple a its.toArray from p) ?_
 refine ⟨s1.heap.objs.size,[s1.heap.objs.size],_,_,H1,rfl,I1.kept (t':=s1.toks) fun b o e=>Yq _ e,P5 a _,⟨_,Yy _ rfl,rfl,rfl⟩,fun b hb=>?_,q⟩
 have e:b=s1.heap.objs.size:=by simpa using hb
 subst e
 exact I1.qa (Yd _) (I1.hok.fresh (Yd _))
theorem L3 {pins:List (Addr×Obj)} {σ:St} {H:Hp} {s:Shared} {R:It->Hp->Prop} {E:Value->Shared->Prop} {lo hi:Int} {t u v:Tok} {tk:Nat} (I:Inv X pins σ H s) (h1:-(2 ^ 62)<=lo) (h2:lo < 2 ^ 62) (h3:-(2 ^ 62)<=hi) (h4:hi < 2 ^ 62)
  (q:R (BJ lo (hi - lo).toNat) H):wpAny (model X.prog X.w) X.A (pyIter (.ref s.heap.objs.size)) (IH X pins σ tg R) E { s with heap:=s.heap.push { cls:=.type "range",data:=.fields #[.int lo t,.int hi u,.int 1 v] },toks:=tk }:=by
 refine wpAny_pyIter_range (IsRange.new ..) (small_one h1 h2 h3 h4) ?_
 have I1:Inv X pins σ H { s with heap:=s.heap.push { cls:=.type "range",data:=.fields #[.int lo t,.int hi u,.int 1 v] },toks:=tk }:=I.kept fun b o e=>Yq _ e
 refine ⟨(s.heap.push { cls:=.type "range",data:=.fields #[.int lo t,.int hi u,.int 1 v] }).objs.size,[(s.heap.push { cls:=.type "range",data:=.fields #[.int lo t,.int hi u,.int 1 v] }).objs.size],_,_,H,rfl,
  I1.kept (t':=tk) fun b o e=>Yq _ e,P6 _ lo (hi - lo).toNat,?_,fun b hb=>?_,q⟩
 ·have e1:lo + ((0:Nat):Int) * 1=lo:=by simp
  have e2:(((hi - lo).toNat:Nat):Int) - ((0:Nat):Int)=Builtin.Range.rangeSize lo hi 1:=by rw [rangeSize_one];split <;> omega
  show IsRangeIter _ _ (lo + ((0:Nat):Int) * 1) ((((hi - lo).toNat:Nat):Int) - ((0:Nat):Int)) 1
  rw [e1,e2]
  exact Yy _ rfl
 ·have e:b=(s.heap.push { cls:=.type "range",data:=.fields #[.int lo t,.int hi u,.int 1 v] }).objs.size:=by simpa using hb
  subst e
  exact I1.qa (Yd _) (I1.hok.fresh (Yd _))
def vL (ta:TA):TI:=fun σ H R=>ta σ H fun vs H1=>∃ j:Int,vs=[.int j]/\-(2 ^ 62)<=j/\j < 2 ^ 62/\R (BJ 0 j.toNat) H1
def vN (ta:TA):TI:=fun σ H R=>ta σ H fun vs H1=>∃ i j:Int,vs=[.int i,.int j]/\(-(2 ^ 62)<=i/\i < 2 ^ 62/\-(2 ^ 62)<=j/\j < 2 ^ 62)/\R (BJ i (j - i).toNat) H1
theorem pR {a:Expr} {ta:TA} {p pos:Pos} (hg:Gl X "range") (hm:X.mg "range" = none) (ha:PA X [a] ta) (hs:starEach [a] X.env=[(false,eval a X.env)]:=by rfl):PI X tg (.Call (.Name "range" p) [a] [] pos) (vL ta):=by
 intro pins s σ H R I h
 refine Call_ (xI I hg hm boot_range (PyProof.Rows.callWith_type1 (cI (ha pos pins s σ H _ I h) fun us s1 ⟨vs,H1,I1,r1,q1⟩=>?_) hs rfl))
 obtain ⟨j,e,q1,q2,q⟩:=q1
 subst e
 cases r1 with
 | cons r rr =>
  cases rr
  obtain ⟨t,rfl⟩:=r
  exact call_range_1 (L3 I1 (by omega) (by omega) q1 q2 (by simpa using q))
theorem P7 {a b:Expr} {ta:TA} {p pos:Pos} (hg:Gl X "range") (hm:X.mg "range" = none) (ha:PA X [a,b] ta) (hs:starEach [a,b] X.env=[(false,eval a X.env),(false,eval b X.env)]:=by rfl) (hs2:starEach [b] X.env=[(false,eval b X.env)]:=by rfl) :
  PI X tg (.Call (.Name "range" p) [a,b] [] pos) (vN ta):=by
 intro pins s σ H R I h
 refine Call_ (xI I hg hm boot_range (PyProof.Rows.callWith_type1 (cI (ha pos pins s σ H _ I h) fun us s1 ⟨vs,H1,I1,r1,q1⟩=>?_) (by rw [hs,hs2]) (by rw [hs2];rfl)))
 obtain ⟨i,j,e,⟨q1,q2,q3,q4⟩,q⟩:=q1
 subst e
 cases r1 with
 | cons r rr =>
  cases rr with
  | cons r' rr =>
   cases rr
   obtain ⟨t,rfl⟩:=r
   obtain ⟨t',rfl⟩:=r'
   exact call_range_2 (L3 I1 q1 q2 q3 q4 q)
def BL (wi:TI) (g:TG) (tb:TS):TS:=fun D σ H=>wi σ H fun J H1=>∃ W:Nat->Nat->St->Hp->Prop,(∃ m,W 0 m σ H1)/\∀ i m σ H,W i m σ H ->
 (J.stop i H/\D.nx σ H)\/(J.go i H/\∃ N:St->Hp->Prop,(∀ σ' H',N σ' H'->∃ m',m' < m/\W (i + 1) m' σ' H')/\∀ x H',J.uG i H x H'->g x σ H' fun σ2 H2=>tb { D with nx:=N,ct:=N,bk:=D.nx } σ2 H2)
def nP (fp:List Addr) (h:Heap):List (Addr×Obj):=fp.filterMap fun b=>(h.get? b).map fun o=>(b,o)
theorem FJ {fp:List Addr} {h:Heap} {b:Addr} {o:Obj} (hb:b∈fp) (e:h.get? b=some o):(b,o)∈nP fp h:=List.mem_filterMap.mpr ⟨b,hb,by rw [e];rfl⟩
theorem P8 {fp:List Addr} {h:Heap} {p:Addr×Obj} (hp:p∈nP fp h):p.1∈fp/\h.get? p.1=some p.2:=by
 obtain ⟨b,hb,e⟩:=List.mem_filterMap.mp hp
 cases q:h.get? b with
 | none=>rw [q] at e;cases e
 | some o =>
  rw [q] at e
  have e':(b,o)=p:=Ym e
  subst e'
  exact ⟨hb,q⟩
theorem Inv.pinned {pins:List (Addr×Obj)} {σ:St} {H:Hp} {s:Shared} {fp:List Addr} (I:Inv X pins σ H s) (hf:∀ b∈fp,mB X pins H b) (ho:∀ b∈fp,∃ o,s.heap.get? b=some o/\∀ v,o.data≠.cell v):Inv X (pins ++ nP fp s.heap) σ H s :=
 I.nC fun p hp=>(Yz.mp hp).elim (fun z=>I.pin p (YI _ z)) fun z=>by
  obtain ⟨hb,e⟩:=P8 z
  obtain ⟨f0,f1,f2,_⟩:=hf p.1 hb
  obtain ⟨o,e',d⟩:=ho p.1 hb
  rw [e] at e';cases e'
  exact ⟨e,f0,f1,f2,d⟩
theorem Inv.lT {pins pl:List (Addr×Obj)} {σ:St} {H:Hp} {s:Shared} (I:Inv X (pins ++ pl) σ H s):Inv X pins σ H s:=I.nC fun p hp=>I.pin p (YI _ (List.mem_append_left _ hp))
theorem lU {iter:Expr} {body:List Stmt} {wi:TI} {g:TG} {tb:TS} {pos:Pos} (hp:PassesOwn (model X.prog X.w) X.A X.env X.xe) (hc:X.calm=true) (hi:PI X tg iter wi) (hg:PG X tg g) (hb:rj X body tb)
  (hs:∀ x,foldedSetIterable iter X.env x=pure x:=by intro _;rfl):PS X (.For tg iter body [] pos) (BL wi g tb):=by
 intro pins s σ H D I h
 refine wpAny_For (cI (hi pins s σ H _ I h) fun v s1 h1=>cI h1 fun itv s2 h2=>?_) hs
 obtain ⟨it,fp,tn,J,H2,e,I2,T,st2,f2,W,⟨m0,w0⟩,turn⟩:=h2
 subst e
 have stat:∀ {H':Hp},(∀ b∈fp,H' b=none)->∀ b∈fp,mB X pins H' b:=fun hn b hb=>⟨hn b hb,(f2 b hb).2⟩
 refine codeAny_forLoop_any (fun n s'=>∃ i σ' H',Inv X pins σ' H' s'/\tn i s'.heap/\(∀ b∈fp,H' b=none)/\W i n σ' H') ?_ m0 ⟨0,σ,H2,I2,st2,fun b hb=>(f2 b hb).1,w0⟩
 rintro n s3 ⟨i,σ3,H3,I3,st3,L5,w3⟩
 rcases turn i n σ3 H3 w3 with ⟨stop,qn⟩ | ⟨go,N,hN,step⟩
 ·refine wpAny_passesOwn hp (cI (T.done X rfl rfl rfl hc i pins s3 σ3 H3 X.xe I3 (stat L5) st3 stop) fun r s4 ⟨hr,I4⟩=>?_)
  subst hr
  exact wpAny_execs_nil ⟨σ3,H3,I4,qn⟩
 ·refine wpAny_passesOwn hp (cI (T.item X rfl rfl rfl hc i pins s3 σ3 H3 X.xe I3 (stat L5) st3 go) fun r s4 ⟨u,hr,h4⟩=>?_)
  subst hr
  refine wpAny_passesOwn hp (cI h4 fun _ s5 ⟨x,H5,I5,r5,y5,kM,FK⟩=>?_)
  have P9:=I5.pinned (stat FK) (T.obj _ _ kM)
  refine wpAny_passesOwn hp (cI (hg _ s5 σ3 H5 x u _ P9 r5 (step x H5 y5)) fun _ s6 ⟨σ6,H6,I6,q6⟩=>?_)
  refine wpAny_passesOwn hp (cI (hb _ s6 σ6 H6 _ I6 q6) fun f s7 q7=>?_)
  have again:∀ {σ7:St} {H7:Hp},Inv X (pins ++ nP fp s5.heap) σ7 H7 s7->N σ7 H7->∃ m,m < n/\∃ i σ' H',Inv X pins σ' H' s7/\tn i s7.heap/\(∀ b∈fp,H' b=none)/\W i m σ' H':=fun {σ7 H7} I7 n7=>by
   obtain ⟨m',hm,w7⟩:=hN σ7 H7 n7
   refine ⟨m',hm,i + 1,σ7,H7,I7.lT,T.keep _ _ _ kM fun b hb o e=>(I7.pin (b,o) (YI _ (YI _ (FJ hb e)))).1,fun b hb=>?_,w7⟩
   obtain ⟨o,e,d⟩:=T.obj _ _ kM b hb
   exact (I7.pin (b,o) (YI _ (YI _ (FJ hb e)))).2.1
  cases f with
  | next=>obtain ⟨σ7,H7,I7,n7⟩:=q7;exact again I7 n7
  | cont=>obtain ⟨σ7,H7,I7,n7⟩:=q7;exact again I7 n7
  | brk=>obtain ⟨σ7,H7,I7,q7⟩:=q7;exact ⟨σ7,H7,I7.lT,q7⟩
  | ret v=>obtain ⟨x7,σ7,H7,I7,r7,q7⟩:=q7;exact ⟨x7,σ7,H7,I7.lT,r7,q7⟩
end
abbrev R2:=V->V->Hp->VK->Prop
def kH (X:Cx) (f:Value->Value->Sem Value) (r:R2):Prop :=
 ∀ (pins:List (Addr×Obj)) (s:Shared) (σ:St) (H:Hp) (x y:V) (v u:Value) (Q:VK),Inv X pins σ H s->RelV x v->RelV y u->r x y H Q ->
  wpAny (model X.prog X.w) X.A (f v u) (EP X pins σ Q) X.xe s
def II (X:Cx) (f:Value->Sem Value) (r:V->Hp->VK->Prop):Prop :=
 ∀ (pins:List (Addr×Obj)) (s:Shared) (σ:St) (H:Hp) (x:V) (v:Value) (Q:VK),Inv X pins σ H s->RelV x v->r x H Q ->
  wpAny (model X.prog X.w) X.A (f v) (EP X pins σ Q) X.xe s
def d9 (X:Cx) (f:Value) (r:List V->Hp->VK->Prop):Prop :=
 ∀ (pins:List (Addr×Obj)) (s:Shared) (σ:St) (H:Hp) (xs:List V) (us:List Value) (Q:VK),Inv X pins σ H s->Vals xs us->r xs H Q ->
  wpAny (model X.prog X.w) X.A (call f us) (EP X pins σ Q) X.xe s
def BM (r:R2) (ta tb:TE):TE:=fun σ H Q=>ta σ H fun x H1=>tb σ H1 fun y H2=>r x y H2 Q
def L6 (r:V->Hp->VK->Prop) (ta:TE):TE:=fun σ H Q=>ta σ H fun x H1=>r x H1 Q
def rI (C:Int->Int->Prop) (g:Int->Int->V):R2:=fun x y H Q=>∃ i j,x=.int i/\y=.int j/\C i j/\Q (g i j) H
def qb (g:Int->Int->V):R2:=fun x y H Q=>∃ i j,x=.int i/\y=.int j/\Q (g i j) H
def rU (g:Int->V):V->Hp->VK->Prop:=fun x H Q=>∃ i,x=.int i/\Q (g i) H
section
variable {X:Cx} {a b c:Expr} {ta tb tc:TE} {pos:Pos}
theorem xP (ha:PE X a ta) (hb:PE X b tb) {pins:List (Addr×Obj)} {s:Shared} {σ:St} {H:Hp} {R:V->V->Hp->Prop} (I:Inv X pins σ H s)
  (h:ta σ H fun x H1=>tb σ H1 fun y H2=>R x y H2) {Q:Value->Shared->Prop} {f:Value->Value->Sem Value}
  (hf:∀ v u s2 x y H2,Inv X pins σ H2 s2->RelV x v->RelV y u->R x y H2->wpAny (model X.prog X.w) X.A (f v u) Q X.xe s2) :
  wpAny (model X.prog X.w) X.A (eval a X.env) (fun v s₁=>wpAny (model X.prog X.w) X.A (eval b X.env) (fun u s₂=>wpAny (model X.prog X.w) X.A (f v u) Q X.xe s₂) X.xe s₁) X.xe s:=by
 refine cI (ha pins s σ H _ I h) fun v s1 ⟨x,H1,I1,r1,q1⟩=>?_
 refine cI (hb pins s1 σ H1 _ I1 q1) fun u s2 ⟨y,H2,I2,r2,q2⟩=>?_
 exact hf v u s2 x y H2 I2 r1 r2 q2
theorem bz {op:Operator} {r:R2} (ho:kH X (binaryOp op) r) (ha:PE X a ta) (hb:PE X b tb):PE X (.BinOp a op b pos) (BM r ta tb):=by
 intro pins s σ H Q I h
 exact wpAny_BinOp (xP ha hb I h fun v u s2 x y H2 I2 rx ry q=>ho pins s2 σ H2 x y v u Q I2 rx ry q)
theorem sx {op:UnaryOp} {r:V->Hp->VK->Prop} (ho:II X (unaryOp op) r) (ha:PE X a ta):PE X (.UnaryOp op a pos) (L6 r ta):=by
 intro pins s σ H Q I h
 exact UnaryOp_ (cI (ha pins s σ H _ I h) fun v s1 ⟨x,H1,I1,r1,q1⟩=>ho pins s1 σ H1 x v Q I1 r1 q1)
theorem Au {f:Value->Value->Sem Value} {C:Int->Int->Prop} {g:Int->Int->Int}
  (rule:∀ (i j:Int) (t u:Tok) (s:Shared) (Q:Value->Shared->Prop) (E:Value->Shared->Prop),C i j->Q (.int (g i j) s.toks) { s with toks:=s.toks + 1 }->wpAny (model X.prog X.w) X.A (f (.int i t) (.int j u)) Q E s) :
  kH X f (rI C fun i j=>.int (g i j)):=by
 intro pins s σ H x y v u Q I rx ry h
 obtain ⟨i,j,rfl,rfl,hc,q⟩:=h
 obtain ⟨t,rfl⟩:=rx
 obtain ⟨t',rfl⟩:=ry
 exact rule i j t t' s _ _ hc ⟨.int (g i j),H,I.tok _,⟨_,rfl⟩,q⟩
theorem BN {f:Value->Value->Sem Value} {g:Int->Int->Int}
  (rule:∀ (i j:Int) (t u:Tok) (s:Shared) (Q:Value->Shared->Prop) (E:Value->Shared->Prop),Q (.int (g i j) s.toks) { s with toks:=s.toks + 1 }->wpAny (model X.prog X.w) X.A (f (.int i t) (.int j u)) Q E s) :
  kH X f (qb fun i j=>.int (g i j)):=by
 intro pins s σ H x y v u Q I rx ry h
 obtain ⟨i,j,rfl,rfl,q⟩:=h
 obtain ⟨t,rfl⟩:=rx
 obtain ⟨t',rfl⟩:=ry
 exact rule i j t t' s _ _ ⟨.int (g i j),H,I.tok _,⟨_,rfl⟩,q⟩
theorem uH {f:Value->Value->Sem Value} {g:Int->Int->Bool}
  (rule:∀ (i j:Int) (t u:Tok) (s:Shared) (Q:Value->Shared->Prop) (E:Value->Shared->Prop),Q (.bool (g i j)) s->wpAny (model X.prog X.w) X.A (f (.int i t) (.int j u)) Q E s) :
  kH X f (qb fun i j=>.bl (g i j)):=by
 intro pins s σ H x y v u Q I rx ry h
 obtain ⟨i,j,rfl,rfl,q⟩:=h
 obtain ⟨t,rfl⟩:=rx
 obtain ⟨t',rfl⟩:=ry
 exact rule i j t t' s _ _ ⟨.bl (g i j),H,I,rfl,q⟩
def BO (i j:Int):Prop:=0 < j/\j < 1073741824
def BP (i j:Int):Prop:=0<=j/\j<=1000000/\i.natAbs < 2 ^ 64
def sy (i j:Int):Prop:=(-(2 ^ 64) < i/\i < 2 ^ 64)\/(-(2 ^ 64) < j/\j < 2 ^ 64)
theorem sy.ok {i j:Int} (h:sy i j):IntMulOk i j:=by
 rcases h with ⟨h1,h2⟩ | ⟨h1,h2⟩
 ·exact .of_left (intBits_le_64 h1 h2)
 ·exact .of_right (intBits_le_64 h1 h2)
theorem lO:kH X (binaryOp .Add) (qb fun i j=>.int (i + j)):=BN fun _ _ _ _ _ _ _ q=>add_int q
theorem uI:kH X (binaryOp .Sub) (qb fun i j=>.int (i - j)):=BN fun _ _ _ _ _ _ _ q=>sub_int q
theorem ud:kH X (binaryOp .Mult) (rI sy fun i j=>.int (i * j)):=Au fun _ _ _ _ _ _ _ hc q=>mul_int q hc.ok
theorem FL:kH X (binaryOp .FloorDiv) (rI BO fun i j=>.int (i / j)):=Au fun i j _ _ _ _ _ hc q=>by
 have h1:(0:Int) < j:=hc.1
 have h2:j < 1073741824:=hc.2
 exact floordiv_int (by omega) (by rw [Int.fdiv_eq_ediv_of_nonneg i (by omega)];exact q) (.inl (PyProof.noPylong_small (by omega)))
theorem rl:kH X (binaryOp .Mod) (rI (fun _ j=>0 < j) fun i j=>.int (i % j)):=Au fun i j _ _ _ _ _ hc q=>by
 have h1:(0:Int) < j:=hc
 exact mod_int' (by omega) (by rw [Int.fmod_eq_emod_of_nonneg i (by omega)];exact q)
theorem L7:kH X (binaryOp .Pow) (rI BP fun i j=>.int (i ^ j.toNat)):=Au fun _ _ _ _ _ _ _ hc q=>pow_int_small hc.1 hc.2.1 hc.2.2 q
theorem Qa {f:Value->Sem Value} {g:Int->Int}
  (rule:∀ (i:Int) (t:Tok) (s:Shared) (Q:Value->Shared->Prop) (E:Value->Shared->Prop),Q (.int (g i) s.toks) { s with toks:=s.toks + 1 }->wpAny (model X.prog X.w) X.A (f (.int i t)) Q E s) :
  II X f (rU fun i=>.int (g i)):=by
 intro pins s σ H x v Q I rx h
 obtain ⟨i,rfl,q⟩:=h
 obtain ⟨t,rfl⟩:=rx
 exact rule i t s _ _ ⟨.int (g i),H,I.tok _,⟨_,rfl⟩,q⟩
theorem sA:II X (unaryOp .USub) (rU fun i=>.int (-i)):=Qa fun _ _ _ _ _ q=>neg_int q
end
def oY:V->V->Bool
 | .non,.non=>true | .non,.int _=>true | .int _,.non=>true | .non,.bl _=>true | .bl _,.non=>true | .non,.str _=>true | .str _,.non=>true
 | .int _,.int _=>true | .bl _,.bl _=>true | .str _,.str _=>true | .sd _,.sd _=>true
 | .int _,.str _=>true | .str _,.int _=>true | .bl _,.str _=>true | .str _,.bl _=>true
 | _,_=>false
def L8:R2:=fun x y H Q=>oY x y=true/\Q (.bl (decide (x=y))) H
def L9:R2:=fun x y H Q=>oY x y=true/\Q (.bl (!decide (x=y))) H
theorem Ma {i j:Int}:decide (V.int i=V.int j)=(i == j):=by
 rw [Bool.eq_iff_iff]
 simp
theorem Mb {i j:Bool}:decide (V.bl i=V.bl j)=(i == j):=by
 rw [Bool.eq_iff_iff]
 simp
theorem Mc {i j:Str}:decide (V.str i=V.str j)=(i == j):=by
 rw [Bool.eq_iff_iff]
 simp
theorem Md {i j:Array UInt8}:decide (V.sd i=V.sd j)=(i.toList == j.toList):=by
 rw [Bool.eq_iff_iff]
 cases i
 cases j
 simp
section
variable {X:Cx} {a b c:Expr} {ta tb tc:TE} {pos:Pos}
theorem kN {pins:List (Addr×Obj)} {σ:St} {H:Hp} {s:Shared} {Q:VK} {k k':Bool} (I:Inv X pins σ H s) (q:Q (.bl k) H) (e:k=k'):EP X pins σ Q (.bool k') s:=by
 subst e
 exact ⟨.bl k,H,I,rfl,q⟩
theorem oi:kH X (compareOp .Eq) L8:=by
 intro pins s σ H x y v u Q I rx ry h
 obtain ⟨hs,q⟩:=h
 cases x with
 | non =>
  cases rx
  cases y with
  | non=>cases ry;exact PySem.EqNone.eq_none_none (kN I q (by simp))
  | bl j=>cases ry;exact PySem.EqNone.eq_none_bool (kN I q (by simp))
  | int j=>obtain ⟨t',rfl⟩:=ry;exact PySem.EqNone.eq_none_int (kN I q (by simp))
  | str j=>obtain ⟨t',rfl⟩:=ry;exact PySem.EqNone.eq_none_str (kN I q (by simp))
  | _=>exact absurd (show false=true from hs) Yh
 | bl i =>
  cases rx
  cases y with
  | non=>cases ry;exact PySem.EqNone.eq_bool_none (kN I q (by simp))
  | bl j=>cases ry;exact eq_bool (kN I q Mb)
  | str j=>obtain ⟨t',rfl⟩:=ry;exact PySem.EqMixed.eq_bool_str (kN I q (by simp))
  | _=>exact absurd (show false=true from hs) Yh
 | int i =>
  obtain ⟨t,rfl⟩:=rx
  cases y with
  | non=>cases ry;exact PySem.EqNone.eq_int_none (kN I q (by simp))
  | int j=>obtain ⟨t',rfl⟩:=ry;exact eq_int (kN I q Ma)
  | str j=>obtain ⟨t',rfl⟩:=ry;exact PySem.EqMixed.eq_int_str (kN I q (by simp))
  | _=>exact absurd (show false=true from hs) Yh
 | str i =>
  obtain ⟨t,rfl⟩:=rx
  cases y with
  | non=>cases ry;exact PySem.EqNone.eq_str_none (kN I q (by simp))
  | bl j=>cases ry;exact PySem.EqMixed.eq_str_bool (kN I q (by simp))
  | int j=>obtain ⟨t',rfl⟩:=ry;exact PySem.EqMixed.eq_str_int (kN I q (by simp))
  | str j=>obtain ⟨t',rfl⟩:=ry;exact eq_str (kN I q Mc)
  | _=>exact absurd (show false=true from hs) Yh
 | sd i =>
  obtain ⟨t,rfl⟩:=rx
  cases y with
  | sd j=>obtain ⟨t',rfl⟩:=ry;exact PySem.W.eq_bytes (kN I q Md)
  | _=>exact absurd (show false=true from hs) Yh
 | _=>cases y <;> exact absurd (show false=true from hs) Yh
theorem BQ:kH X (compareOp .NotEq) L9:=by
 intro pins s σ H x y v u Q I rx ry h
 obtain ⟨hs,q⟩:=h
 cases x with
 | non =>
  cases rx
  cases y with
  | non=>cases ry;exact PySem.EqNone.ne_none_none (kN I q (by simp))
  | bl j=>cases ry;exact PySem.EqNone.ne_none_bool (kN I q (by simp))
  | int j=>obtain ⟨t',rfl⟩:=ry;exact PySem.EqNone.ne_none_int (kN I q (by simp))
  | str j=>obtain ⟨t',rfl⟩:=ry;exact PySem.EqNone.ne_none_str (kN I q (by simp))
  | _=>exact absurd (show false=true from hs) Yh
 | bl i =>
  cases rx
  cases y with
  | non=>cases ry;exact PySem.EqNone.ne_bool_none (kN I q (by simp))
  | bl j=>cases ry;exact ne_bool (kN I q (congrArg not Mb))
  | str j=>obtain ⟨t',rfl⟩:=ry;exact PySem.EqMixed.ne_bool_str (kN I q (by simp))
  | _=>exact absurd (show false=true from hs) Yh
 | int i =>
  obtain ⟨t,rfl⟩:=rx
  cases y with
  | non=>cases ry;exact PySem.EqNone.ne_int_none (kN I q (by simp))
  | int j=>obtain ⟨t',rfl⟩:=ry;exact ne_int (kN I q (congrArg not Ma))
  | str j=>obtain ⟨t',rfl⟩:=ry;exact PySem.EqMixed.ne_int_str (kN I q (by simp))
  | _=>exact absurd (show false=true from hs) Yh
 | str i =>
  obtain ⟨t,rfl⟩:=rx
  cases y with
  | non=>cases ry;exact PySem.EqNone.ne_str_none (kN I q (by simp))
  | bl j=>cases ry;exact PySem.EqMixed.ne_str_bool (kN I q (by simp))
  | int j=>obtain ⟨t',rfl⟩:=ry;exact PySem.EqMixed.ne_str_int (kN I q (by simp))
  | str j=>obtain ⟨t',rfl⟩:=ry;exact ne_str (kN I q (congrArg not Mc))
  | _=>exact absurd (show false=true from hs) Yh
 | sd i =>
  obtain ⟨t,rfl⟩:=rx
  cases y with
  | sd j=>obtain ⟨t',rfl⟩:=ry;exact PySem.W.ne_bytes (kN I q (congrArg not Md))
  | _=>exact absurd (show false=true from hs) Yh
 | _=>cases y <;> exact absurd (show false=true from hs) Yh
theorem BR:kH X (compareOp .Lt) (qb fun i j=>.bl (decide (i < j))):=uH fun _ _ _ _ _ _ _ q=>lt_int q
theorem BS:kH X (compareOp .LtE) (qb fun i j=>.bl (decide (i<=j))):=uH fun _ _ _ _ _ _ _ q=>le_int q
theorem FN:kH X (compareOp .Gt) (qb fun i j=>.bl (decide (j < i))):=uH fun _ _ _ _ _ _ _ q=>gt_int q
theorem BU:kH X (compareOp .GtE) (qb fun i j=>.bl (decide (j<=i))):=uH fun _ _ _ _ _ _ _ q=>ge_int q
theorem xQ:kH X (compareOp .Is) (fun x y H Q=>y=.non/\Q (.bl (decide (x=.non))) H):=by
 intro pins s σ H x y v u Q I rx ry h
 obtain ⟨rfl,q⟩:=h
 cases ry
 refine is_none_gen (kN I q ?_)
 cases x <;> first
  | (cases rx;rfl)
  | (obtain ⟨t,rfl⟩:=rx;rfl)
theorem aO (b:Expr) {op:CmpOp} (h:op≠.In:=by decide) (h2:op≠.NotIn:=by decide):behindInMarks op b=false:=by
 have e1:(op == CmpOp.In)=false:=by cases op <;> first | rfl | exact absurd rfl h
 have e2:(op == CmpOp.NotIn)=false:=by cases op <;> first | rfl | exact absurd rfl h2
 cases b <;> simp [behindInMarks,e1,e2]
theorem vO {op:CmpOp} {r:R2} (ho:kH X (compareOp op) r) (ha:PE X a ta) (hb:PE X b tb) (hm:behindInMarks op b=false):PE X (.Compare a [op] [b] pos) (BM r ta tb):=by
 intro pins s σ H Q I h
 exact wpAny_Compare1 (xP ha hb I h fun v u s2 x y H2 I2 rx ry q=>ho pins s2 σ H2 x y v u Q I2 rx ry q) hm
def vP (t:TE):TT:=fun σ H Q=>t σ H fun x H'=>∃ k,x=.bl k/\Q k H'
theorem gk {op:CmpOp} {r:R2} (ho:kH X (compareOp op) r) (ha:PE X a ta) (hb:PE X b tb) (hm:behindInMarks op b=false):PT X (.Compare a [op] [b] pos) (vP (BM r ta tb)):=by
 intro pins s σ H Q I h
 refine wpAny_isTrue_Compare1 (cI (ha pins s σ H _ I h) fun v s1 ⟨x,H1,I1,r1,q1⟩=>cI (hb pins s1 σ H1 _ I1 q1) fun u s2 ⟨y,H2,I2,r2,q2⟩ =>
  cI (ho pins s2 σ H2 x y v u _ I2 r1 r2 q2) fun c s3 ⟨z,H3,I3,r3,k,e,q3⟩=>?_) hm
 subst e
 cases r3
 exact wpAny_truthy_bool ⟨H3,I3,q3⟩
theorem mC:(sizeLine:Nat) < 2 ^ 63:=by rw [sizeLine_eq];decide
theorem vals1 {x:V} {us:List Value} (r:Vals [x] us):∃ u,us=[u]/\RelV x u:=by
 cases r with
 | cons r1 r2=>cases r2;exact ⟨_,rfl,r1⟩
theorem vals2 {x y:V} {us:List Value} (r:Vals [x,y] us):∃ u w',us=[u,w']/\RelV x u/\RelV y w':=by
 cases r with
 | cons r1 r2 =>
  cases r2 with
  | cons r3 r4=>cases r4;exact ⟨_,_,rfl,r1,r3⟩
theorem Qb:d9 X (.builtin "abs") (fun xs H Q=>∃ i,xs=[.int i]/\Q (.int (if i < 0 then -i else i)) H):=by
 intro pins s σ H xs us Q I r h
 obtain ⟨i,rfl,q⟩:=h
 obtain ⟨u,rfl,t,rfl⟩:=vals1 r
 exact call_abs_int fun u tk=>⟨.int (if i < 0 then -i else i),H,I.tok _,⟨_,rfl⟩,q⟩
theorem Qc (hc:X.calm=true):d9 X (.builtin "max") (fun xs H Q=>∃ i j,xs=[.int i,.int j]/\Q (.int (if j > i then j else i)) H):=by
 intro pins s σ H xs us Q I r h
 obtain ⟨i,j,rfl,q⟩:=h
 obtain ⟨u,w',rfl,⟨t,rfl⟩,⟨t',rfl⟩⟩:=vals2 r
 refine max_two_ints (I.ok.hd hc) fun h' tk k=>⟨_,H,I.kept k,?_,q⟩
 by_cases hj:j > i
 ·rw [if_pos hj,if_pos hj];exact ⟨_,rfl⟩
 ·rw [if_neg hj,if_neg hj];exact ⟨_,rfl⟩
theorem Qd (hc:X.calm=true):d9 X (.builtin "min") (fun xs H Q=>∃ i j,xs=[.int i,.int j]/\Q (.int (if j < i then j else i)) H):=by
 intro pins s σ H xs us Q I r h
 obtain ⟨i,j,rfl,q⟩:=h
 obtain ⟨u,w',rfl,⟨t,rfl⟩,⟨t',rfl⟩⟩:=vals2 r
 refine min_two_ints (I.ok.hd hc) fun h' tk k=>⟨_,H,I.kept k,?_,q⟩
 by_cases hj:j < i
 ·rw [if_pos hj,if_pos hj];exact ⟨_,rfl⟩
 ·rw [if_neg hj,if_neg hj];exact ⟨_,rfl⟩
theorem IJ:d9 X (.type "int") (fun xs H Q=>(∃ i,xs=[.int i]/\Q (.int i) H)\/∃ k,xs=[.bl k]/\Q (.int (if k then 1 else 0)) H):=by
 intro pins s σ H xs us Q I r h
 rcases h with ⟨i,rfl,q⟩ | ⟨k,rfl,q⟩
 ·obtain ⟨u,rfl,t,rfl⟩:=vals1 r
  exact call_int_int ⟨.int i,H,I,⟨_,rfl⟩,q⟩
 ·obtain ⟨u,rfl,r1⟩:=vals1 r
  cases r1
  exact call_int_bool ⟨.int (if k then 1 else 0),H,I.tok _,⟨_,rfl⟩,q⟩
end
section
variable {prog:Program} {w:World} {A:Around} {E:Value->Shared->Prop} {s:Shared} {K:Zfr} {x dx C f:Addr} {mA:Str->Option Value} {name:Str} {v:Value}
end
section
variable {P:Program} {w:World} {H H':Hp} {h h':Heap} {a C dx:Addr} {fs fs':List (Str×V)}
end
structure Qe (K:Zfr) (C:Addr):Prop where
 pg:PySem.W.plainGet K C Str.empty=true
 hd:PySem.W.hasDictIn K C=true
 po:PySem.W.plainOver K C=true
 sa:PySem.W.findIn K (.ref C) "__setattr__" = some (some (.builtin "object.__setattr__"))
structure sC (K:Zfr) (C:Addr) (f:Str) (v:V) (u:Value):Prop where
 at_:PySem.W.findIn K (.ref C) f=some (some u)
 rel:RelV v u
 get:PySem.W.specialIn K u "__get__" = some none
 cp:PySem.W.copiedNames.contains f=false
section
variable {X:Cx} {pins:List (Addr×Obj)} {σ:St} {H:Hp} {s:Shared} {a C dx:Addr} {fs:List (Str×V)} {f:Str} {v:V} {A:Around} {E:Value->Shared->Prop}
end
section
variable {X:Cx} {o e value:Expr} {f:Str} {pos pos' tpos:Pos} {ta tv:TE}
end
section
variable {X:Cx} {pins:List (Addr×Obj)} {σ:St} {H:Hp} {s:Shared} {A:Around} {E:Value->Shared->Prop} {Q:Value->Shared->Prop} {c:Value} {b:Bool}
inductive nt (K:Zfr) (H:Hp):V->Value->Prop where
 | non:nt K H .non (.type "NoneType")
 | bl (x:Bool):nt K H (.bl x) (.type "bool")
 | int (i:Int):nt K H (.int i) (.type "int")
 | str (x:Str):nt K H (.str x) (.type "str")
 | An (x:UInt64):nt K H (.An x) (.type "float")
 | lst {a:Addr} {xs:List V} (e:H a=some (.lst xs)):nt K H (.ref a) (.type "list")
 | nL {a:Addr} {o:Obj} {xs:List V} (e:H a=some (.nL o (.lst xs))):nt K H (.ref a) (.type "list")
 | tup {a:Addr} {xs:List V} (e:H a=some (.tup xs)):nt K H (.ref a) (.type "tuple")
 | dK {a:Addr} {kvs:List (Key×V)} (e:H a=some (.dK kvs)):nt K H (.ref a) (.type "dict")
 | dT {a:Addr} {kvs:List (List Key×V)} (e:H a=some (.dT kvs)):nt K H (.ref a) (.type "dict")
 | ins {a C dx:Addr} {fs:List (Str×V)} (e:H a=some (.ins C dx fs)) (cl:Qe K C) (ha:PySem.W.findIn K (.ref C) "__class__" = some (some (.builtin "object.__class__")))
   (hn:PySem.W.specialIn K (.builtin "object.__class__") "__get__" = some (some (.builtin "getset_descriptor.__get__"))) (htk:PySem.W.takesIn K (.builtin "object.__class__")=some true)
   (hm:PySem.W.mroIn K C (.type "object")=some true):nt K H (.ref a) (.ref C)
end
structure ie (k:Nat) (A:Around):Prop where
 hd:A.handled=none
 dp:A.depth + 3 * k + 5 < recursionLimit
 un:A.units + 16 * k + 200 < cLine
 gd:A.guards=some []
theorem ie.mono {j k:Nat} {A:Around} (r:ie k A) (h:j<=k):ie j A:=⟨r.hd,by have:=r.dp;omega,by have:=r.un;omega,r.gd⟩
theorem ie.deeper {k:Nat} {A:Around} (r:ie (k + 1) A) (env:Env):ie k (A.deeper env) :=
 ⟨r.hd,by have:=r.dp;show A.depth + 1 + 3 * k + 5 < _;omega,by have:=r.un;show A.units + 3 + 16 * k + 200 < _;omega,r.gd⟩
theorem ie.depth {k:Nat} {A:Around} (r:ie k A):A.depth < recursionLimit:=by have:=r.dp;omega
theorem ie.units {k:Nat} {A:Around} (r:ie k A):A.units + 64 < cLine:=by have:=r.un;omega
def BV:TA:=fun _ H Q=>Q [] H
def vQ (ta:TE) (tr:TA):TA:=fun σ H Q=>ta σ H fun x H1=>tr σ H1 fun xs H2=>Q (x :: xs) H2
section
variable {X:Cx} {e:Expr} {es:List Expr} {te:TE} {t:TA} {pos:Pos}
theorem ax:PA X [] BV:=fun _ _ _ _ H Q I h=>Calls.spliced_nil ⟨[],H,I,.nil,h⟩
theorem aj (ha:PE X e te) (hr:PA X es t) (hs:starEach (e :: es) X.env=(false,eval e X.env) :: starEach es X.env:=by rfl):PA X (e :: es) (vQ te t):=by
 intro pos pins s σ H Q I h
 rw [hs]
 show wpAny _ _ (spliced ((false,eval e X.env) :: backTo pos (starEach es X.env))) _ _ s
 refine Calls.spliced_cons (cI (ha pins s σ H _ I h) fun u s1 ⟨x,H1,I1,r1,q1⟩=>?_)
 exact cI (hr pos pins s1 σ H1 _ I1 q1) fun us s2 ⟨xs,H2,I2,r2,q2⟩=>⟨x :: xs,H2,I2,.cons r1 r2,q2⟩
def BW (t:TA):TE:=fun σ H Q=>t σ H fun xs H1=>xs.length<=sizeLine/\∀ p,H1 p=none->Q (.ref p) (upd H1 p (.tup xs))
def BX (t:TA):TE:=fun σ H Q=>t σ H fun xs H1=>xs.length<=sizeLine/\∀ p,H1 p=none->Q (.ref p) (upd H1 p (.lst xs))
theorem eJ {x1} (h:PA X es t):PE X (.Tuple es x1 pos) (BW t):=by
 intro pins s σ H Q I hq
 refine wpAny_Tuple_spliced (cI (h pos pins s σ H _ I hq) fun us s1 ⟨xs,H1,I1,r,z,q⟩=>⟨by rw [<- r.length];exact z,?_⟩)
 have hf:H1 s1.heap.objs.size=none:=I1.hok.fresh (Yd _)
 refine ⟨.ref s1.heap.objs.size,upd H1 s1.heap.objs.size (.tup xs),I1.laid (t':=s1.toks) (fun b u e=>Yq _ e) (Yd _) ?_,rfl,q _ hf⟩
 exact ⟨z,us,r,⟨_,Yy _ rfl,rfl,rfl,_,rfl⟩⟩
theorem kO (h:PA X es t):PE X (.List es pos) (BX t):=by
 intro pins s σ H Q I hq
 refine wpAny_List_spliced (cI (h pos pins s σ H _ I hq) fun us s1 ⟨xs,H1,I1,r,z,q⟩=>⟨by rw [<- r.length];exact z,?_⟩)
 have hf:H1 s1.heap.objs.size=none:=I1.hok.fresh (Yd _)
 refine ⟨.ref s1.heap.objs.size,upd H1 s1.heap.objs.size (.lst xs),I1.laid (t':=s1.toks) (fun b u e=>Yq _ e) (Yd _) ?_,rfl,q _ hf⟩
 exact ⟨z,us,0,r,Yy _ rfl⟩
end
abbrev Sp:=List V->Hp->VK->XK->Prop
abbrev rm:=List Env->Hp->Shared->XK->Value->Shared->Prop
structure uJ (P:Program) (w:World) (K:Zfr) (mg:Str->Option Value) (base:Heap) (A:Around) (outer:List Env) (s:Shared) (H:Hp):Prop where
 frames:A.frames=some outer
 mod:Mod K mg base
 bs:∀ b o,base.get? b=some o->s.heap.get? b=some o/\H b=none
 vF:base.objs.size<=s.heap.objs.size
 nM:s.heap.FunFrames base outer
 Aq:∀ b∈frs outer,H b=none
 hok:lR P w H s.heap
 bare:AllBare s.gens
def CE (outer:List Env) (P:Program) (w:World) (H:Hp) (s:Shared) (Q:VK) (u:Value) (s':Shared):Prop :=
 ∃ v H',s'.os=s.os/\AllBare s'.gens/\Un (frs outer) [] H H' s.heap s'.heap/\lR P w H' s'.heap/\RelV v u/\Q v H'
def CR (CX:rm) (outer:List Env) (P:Program) (w:World) (H:Hp) (s:Shared) (Q:VK) (E:XK) (r:Result) (s':Shared):Prop :=
 match r with
 | .ok (.ret u)=>CE outer P w H s Q u s'
 | .ok _=>False
 | .error e=>CX outer H s E e s'
structure aC (P:Program) (w:World) (K:Zfr) (mg:Str->Option Value) (base:Heap) (CX:rm) (k:Nat) (f:Addr) (fd:FuncData) (ps:List Str) (sp:Sp):Prop where
 len:∀ vs H Q E,sp vs H Q E->vs.length=ps.length
 run:∀ (A:Around) (outer:List Env) (s:Shared) (H:Hp) (args:Args) (us:List Value) (vs:List V) (Q:VK) (E:XK),ie k A->uJ P w K mg base A outer s H->BindsTo s fd args (ps.zip us)->Vals vs us->sp vs H Q E ->
  codeAny (model P w) A (.call (.ref f) args) (CR CX outer P w H s Q E) s
theorem aC.imp {P:Program} {w:World} {K:Zfr} {mg:Str->Option Value} {base:Heap} {CX:rm} {k:Nat} {f:Addr} {fd:FuncData} {ps:List Str} {sp Me:Sp} (F:aC P w K mg base CX k f fd ps sp)
  (h:∀ vs H Q E,Me vs H Q E->sp vs H Q E):aC P w K mg base CX k f fd ps Me :=
 ⟨fun vs H Q E q=>F.len vs H Q E (h _ _ _ _ q),fun A outer s H args us vs Q E hr he hb hv hs=>F.run A outer s H args us vs Q E hr he hb hv (h _ _ _ _ hs)⟩
section
variable {X:Cx} {pins:List (Addr×Obj)} {σ:St} {H:Hp} {s s':Shared}
theorem Inv.IK (I:Inv X pins σ H s):uJ X.prog X.w X.K X.mg X.base X.A X.stack s H :=
 ⟨I.ok.frames,I.ok.mod,I.bs,Yv I.ok.vF I.sz,I.stack,I.qz,I.hok,I.bare⟩
theorem Inv.after {Q:VK} {u:Value} (I:Inv X pins σ H s) (h:CE X.stack X.prog X.w H s Q u s'):EP X pins σ Q u s':=by
 obtain ⟨v,H',os,bare,un,hok,r,q⟩:=h
 obtain ⟨hh,g,d,t,os'⟩:=s'
 obtain rfl:os'=s.os:=os
 exact ⟨v,H',I.call (h':=hh) (g':=g) (d':=d) (t':=t) (ch:=[]) un hok bare (fun b z=>absurd z (by simp)),r,q⟩
end
def sD (sp:Sp) (vR:List V) (E:XK) (t:TA):TE:=fun σ H Q=>t σ H fun vs H1=>sp (vs ++ vR) H1 Q E
def Binds (K:Zfr) (fd:FuncData) (ps:List Str) (ds:List Value):Prop :=
 ∀ (s:Shared) (us:List Value),K.In s.heap->(us ++ ds).length=ps.length->BindsTo s fd ⟨us,[]⟩ (ps.zip (us ++ ds))
theorem Binds.all {K:Zfr} {fd:FuncData} {ps:List Str} (h:∀ us:List Value,us.length=ps.length->bindArgs fd ⟨us,[]⟩=pure (ps.zip us)):Binds K fd ps []:=fun s us _ hl=>by
 rw [List.append_nil] at hl ⊢
 exact .of_eq (h us hl)
def Passes (CX:rm) (X:Cx) (E:XK):Prop:=∀ (pins:List (Addr×Obj)) (σ:St) (H:Hp) (s:Shared) (e:Value) (s':Shared),Inv X pins σ H s->CX X.stack H s E e s'->X.xe e s'
section
variable {X:Cx} {CX:rm} {k:Nat} {f C:Addr} {fd:FuncData} {ps:List Str} {sp:Sp} {vR:List V} {ds:List Value} {E:XK} {x m:Str} {p pos apos:Pos} {e o:Expr} {es:List Expr} {ta:TE} {t:TA}
theorem xR {pins:List (Addr×Obj)} {σ:St} {H:Hp} {s:Shared} {Q:VK} {us:List Value} {vs:List V} (F:aC X.prog X.w X.K X.mg X.base CX k f fd ps sp) (hr:ie k X.A) (hb:Binds X.K fd ps ds) (hd:Vals vR ds) (hx:Passes CX X E)
  (I:Inv X pins σ H s) (r:Vals vs us) (h:sp (vs ++ vR) H Q E):wpAny (model X.prog X.w) X.A (call (.ref f) us) (EP X pins σ Q) X.xe s:=by
 have r2:Vals (vs ++ vR) (us ++ ds):=r.append hd
 have hl:(us ++ ds).length=ps.length:=by rw [<- r2.length];exact F.len _ _ _ _ h
 refine wpAny_call (codeAny_mono (F.run X.A X.stack s H ⟨us,[]⟩ (us ++ ds) (vs ++ vR) Q E hr I.IK (hb s us I.Ar hl) r2 h) fun r s' hq=>?_)
 cases r with
 | error e=>exact hx pins σ H s e s' I hq
 | ok fl =>
  cases fl with
  | ret u=>exact I.after hq
  | next=>exact False.elim hq
  | brk=>exact False.elim hq
  | cont=>exact False.elim hq
theorem Qf (F:aC X.prog X.w X.K X.mg X.base CX k f fd ps sp) (hr:ie k X.A) (hg:Gl X x) (hm:X.mg x=some (.ref f)) (hk:PySem.W.keepIn X.K (.ref f)=true) (hb:Binds X.K fd ps ds) (hd:Vals vR ds) (hx:Passes CX X E)
  (ha:PA X (e :: es) t) (hdb:(x == ("__debug__" : Str))=false:=by decide) (he:starEach (e :: es) X.env=(false,eval e X.env) :: starEach es X.env:=by rfl) (hpl:(backTo pos (starEach es X.env)).any (·.1)=false:=by rfl) :
  PE X (.Call (.Name x p) (e :: es) [] pos) (sD sp vR E t):=by
 intro pins s σ H Q I h
 refine wpAny_Call_Name_kw (LU I hg hm ?_ hdb)
 refine PySem.W.callWith_K (h₀:=X.base) I.ok.mod.Iv hk (cI (ha pos pins s σ H _ I h) fun us s1 ⟨vs,H1,I1,r,q⟩=>⟨I1.Ar,?_⟩) he hpl
 exact xR F hr hb hd hx I1 r q
end
section
variable {X:Cx} {CX:rm} {k:Nat} {f C:Addr} {fd:FuncData} {ps ks:List Str} {sp:Sp} {E:XK} {x m:Str} {p pos apos kpos:Pos} {e o:Expr} {es:List Expr} {kws:List Keyword} {te ta:TE} {t tk:TA} {nm:Option Str}
variable {g:List Value->List Value->List Value} {gV:List V->List V->List V}
end
structure aB (N P:List Str) (sc:Scope):Prop where
 kind:sc.kind=.function
 co:sc.isCoroutine=false
 gen:sc.isGenerator=false
 nd:N.Nodup
 pre:N.take P.length=P
 par:∀ x∈P,sc.names.lookup x=some .local\/sc.names.lookup x=some .cell
 xS:∀ y∈sc.names,y.2≠.free
theorem Mf {kindOf:Str->Option NameKind} {x:Str}:∀ {binds:List (Str×Value)} {m:Str->Option Value},(∀ v,(x,v) ∉ binds)->bindL kindOf binds m x=m x
 | [],_,_=>rfl
 | (n,v) :: r,m,h=>by
  unfold bindL
  rw [Mf fun w hw=>h w (Yg _ hw)]
  split
  ·have:x≠n:=by rintro rfl;exact h v Ye
   simp [this]
  ·rfl
theorem Mg {kindOf:Str->Option NameKind} {x:Str}:∀ {binds:List (Str×Value)} {m:Str->Option Value},(∀ v,(x,v) ∉ binds)->bindC kindOf binds m x=m x
 | [],_,_=>rfl
 | (n,v) :: r,m,h=>by
  unfold bindC
  rw [Mg fun w hw=>h w (Yg _ hw)]
  split
  ·rfl
  ·have:x≠n:=by rintro rfl;exact h v Ye
   simp [this]
theorem Mh {kindOf:Str->Option NameKind} {x:Str} {v:Value}:∀ {P:List Str} {vs:List Value} {i:Nat} {m:Str->Option Value},P.Nodup->P[i]?=some x->vs[i]?=some v->kindOf x=some .local ->
  bindL kindOf (P.zip vs) m x=some v
 | [],_,_,_,_,h,_,_=>by simp at h
 | _ :: _,[],_,_,_,_,h,_=>by simp at h
 | p :: P,w :: vs,0,m,nd,h1,h2,hk=>by
  simp at h1 h2;subst h1;subst h2
  show bindL kindOf ((p,w) :: P.zip vs) m p=_
  unfold bindL
  rw [Mf fun v hv=>(YW.mp nd).1 (List.of_mem_zip hv).1,if_pos hk]
  simp
 | p :: P,w :: vs,i + 1,m,nd,h1,h2,hk=>by
  show bindL kindOf ((p,w) :: P.zip vs) m x=_
  unfold bindL
  exact Mh (i:=i) (YW.mp nd).2 (by simpa using h1) (by simpa using h2) hk
theorem Mi {kindOf:Str->Option NameKind} {x:Str} {v:Value}:∀ {P:List Str} {vs:List Value} {i:Nat} {m:Str->Option Value},P.Nodup->P[i]?=some x->vs[i]?=some v->kindOf x≠some .local ->
  bindC kindOf (P.zip vs) m x=some v
 | [],_,_,_,_,h,_,_=>by simp at h
 | _ :: _,[],_,_,_,_,h,_=>by simp at h
 | p :: P,w :: vs,0,m,nd,h1,h2,hk=>by
  simp at h1 h2;subst h1;subst h2
  show bindC kindOf ((p,w) :: P.zip vs) m p=_
  unfold bindC
  rw [Mg fun v hv=>(YW.mp nd).1 (List.of_mem_zip hv).1,if_neg hk]
  simp
 | p :: P,w :: vs,i + 1,m,nd,h1,h2,hk=>by
  show bindC kindOf ((p,w) :: P.zip vs) m x=_
  unfold bindC
  exact Mi (i:=i) (YW.mp nd).2 (by simpa using h1) (by simpa using h2) hk
def start (N:List Str) (vs:List V):St:=vs.map some ++ List.replicate (N.length - vs.length) none
def gi (CX:rm) (P:Program) (w:World) (K:Zfr) (mg:Str->Option Value) (base:Heap) (N:List Str) (qual:Str) (scope:Scope) (f:Addr) (cd:Value) (A:Around) (outer:List Env) (s:Shared) (H:Hp) (E:XK):Cx where
 prog:=P
 w:=w
 K:=K
 mg:=mg
 base:=base
 A:=A.deeper (envOfC qual scope s.heap.objs.size f cd)
 N:=N
 s₀:=s
 H₀:=H
 env:=envOfC qual scope s.heap.objs.size f cd
 outer:=outer
 stack:=envOfC qual scope s.heap.objs.size f cd :: outer
 ex:=[]
 calm:=true
 fn:=fun _=>true
 pn:=[]
 xe:=fun e s'=>wpAny (model P w) (A.deeper (envOfC qual scope s.heap.objs.size f cd)) («leaving» (envOfC qual scope s.heap.objs.size f cd) e) (fun _ s''=>CX outer H s E e s'') (fun e' s''=>CX outer H s E e' s'') s'
theorem Mj {sc:Scope} {n:Nat} {x:Str} (h:sc.names.lookup x=some .cell):∃ c,(cellsFrom n sc.names []).lookup x=some c:=by
 have q:=PySem.W.cellsFrom_some sc.names n [] (.inl h)
 exact Option.isSome_iff_exists.mp q
theorem Qg {CX:rm} {P:Program} {w:World} {K:Zfr} {mg:Str->Option Value} {base:Heap} {N ps:List Str} {qual:Str} {scope:Scope} {f:Addr} {cd:Value} {A:Around} {outer:List Env} {s s1:Shared} {H:Hp} {E:XK} {us:List Value} {vs:List V}
  (S:aB N ps scope) (hd:A.handled=none) (e0:uJ P w K mg base A outer s H) (hl:vs.length=ps.length) (r:Vals vs us)
  (x:InCallC s s.heap.objs.size (bindL (envOfC qual scope s.heap.objs.size f cd).kindOf (ps.zip us) fun _=>none) (cellsFrom (s.heap.objs.size + 1) scope.names []) (bindC (envOfC qual scope s.heap.objs.size f cd).kindOf (ps.zip us) fun _=>none) s1) :
  Inv (gi CX P w K mg base N qual scope f cd A outer s H E) [] (start N vs) H s1:=by
 have hpl:ps.length<=N.length:=by have:=congrArg List.length S.pre;rw [Y1] at this;omega
 obtain ⟨h1,tk,rfl,hk⟩:=x.done
 have BZ:∀ b:Addr,b ∉ (gi CX P w K mg base N qual scope f cd A outer s H E).ex:=fun b z=>absurd (show b∈([]:List Addr) from z) (by simp)
 refine ⟨⟨e0.mod,S.kind,rfl,rfl,Yd _,fun y z c h1 h2=>?_,fun y hy=>?_,fun y c _ h=>?_,fun _=>hd,Around.frames_deeper e0.frames,.inr ⟨rfl,rfl⟩,fun b z=>absurd z (BZ b),e0.bs,e0.vF,fun b _ _=>BZ b,fun b z=>absurd z (BZ b),e0.nM,e0.Aq⟩,
  rfl,e0.bare,Un.kept hk,⟨_,x.toInCall.ns,fun i y v h1 h2 h3=>?_⟩,fun y c h=>⟨_,x.cell y c h⟩,e0.hok.fresh (Yd _),fun y c h=>?_,fun p hp=>absurd (show p∈([]:List (Addr×Obj)) from hp) (by simp),e0.hok.kept hk,?_⟩
 ·exact name_of_addr x.apart (PySem.mem_of_lookup h1) (PySem.mem_of_lookup h2)
 ·have hy:scope.names.lookup y=some .cell\/scope.names.lookup y=some .free:=hy
  rcases hy with hy | hy
  ·exact Mj hy
  ·exact absurd rfl (S.xS _ (PySem.mem_of_lookup hy))
 ·exact Nat.le_of_lt (x.above y c (PySem.mem_of_lookup h))
 ·have hi:i < vs.length:=by
   unfold start at h2
   by_cases hi:i < vs.length
   ·exact hi
   ·rw [Yw (by simpa using hi)] at h2
    rw [List.getElem?_replicate] at h2
    split at h2 <;> cases h2
  have ha:vs[i]?=some v:=by
   unfold start at h2
   rw [Yk (by simpa using hi),Yi] at h2
   cases e:vs[i]? with
   | none=>rw [e] at h2;cases h2
   | some a=>rw [e] at h2;cases h2;rfl
  obtain ⟨u,hu,rv⟩:=r.get ha
  have hp:ps[i]?=some y:=by
   rw [<- S.pre,List.getElem?_take_of_lt (by omega)];exact h1
  have Mk:ps.Nodup:=by rw [<- S.pre];exact S.nd.sublist (List.take_sublist _ _)
  refine ⟨u,rv,?_⟩
  rcases S.par y (Yf hp) with k | k
  ·exact .inl ⟨k,Mh Mk hp hu k⟩
  ·obtain ⟨c,e⟩:=Mj (n:=s.heap.objs.size + 1) k
   refine .inr ⟨.inl k,c,e,?_⟩
   have q:=x.cell y c e
   rw [Mi Mk hp hu (by show scope.names.lookup y≠_;rw [k];decide)] at q
   exact q
 ·exact e0.hok.fresh (Nat.le_of_lt (x.above y c (PySem.mem_of_lookup h)))
 ·unfold start
  show _=N.length
  rw [Yc,X9,List.length_replicate]
  omega
theorem B0 {CX:rm} {P:Program} {w:World} {K:Zfr} {mg:Str->Option Value} {base:Heap} {k:Nat} {f:Addr} {name qual:Str} {params:Arguments} {body:List Stmt} {scope:Scope} {dV kV doc pm cdv ct oc:Value} {an od:Option Addr}
  {osl:Array (Option Value)} {N ps:List Str} {sp:Sp} (lk:K.lookup f=some ⟨oc,od,.func (PySem.W.fnOf name qual params body scope dV kV doc pm an cdv ct),osl⟩) (hcd:PySem.W.codeIn K cdv qual=true) (S:aB N ps scope)
  (len:∀ vs H Q E,sp vs H Q E->vs.length=ps.length)
  (hbody:∀ (A:Around) (outer:List Env) (s:Shared) (H:Hp) (vs:List V) (Q:VK) (E:XK),ie k (A.deeper (envOfC qual scope s.heap.objs.size f cdv))->sp vs H Q E ->
   ∃ t,rj (gi CX P w K mg base N qual scope f cdv A outer s H E) body t/\t { nx:=fun _ H'=>Q .non H',rt:=Q } (start N vs) H) :
  aC P w K mg base CX (k + 1) f (PySem.W.fnOf name qual params body scope dV kV doc pm an cdv ct) ps sp:=by
 refine ⟨len,fun A outer s H args us vs Q E hr e0 hb r uf=>?_⟩
 have hl:=len _ _ _ _ uf
 have KX:K.In s.heap:=e0.mod.Iv.keeps fun b o e=>(e0.bs b o e).1
 have lim:s.heap.NoLimit:=e0.mod.nolimit.keeps fun b o e=>(e0.bs b o e).1
 have hkind:∀ y∈ps.zip us,scope.names.lookup y.1=some .local\/(scope.names.lookup y.1=some .cell/\((cellsFrom (s.heap.objs.size + 1) scope.names []).lookup y.1).isSome=true):=fun ⟨n,v⟩ hy=>by
  rcases S.par n (List.of_mem_zip hy).1 with q | q
  ·exact .inl q
  ·exact .inr ⟨q,PySem.W.cellsFrom_some _ _ _ (.inl q)⟩
 refine codeAny_call_function hr.depth (KX _ _ lk) rfl S.co S.gen rfl (PySem.W.codeRec_of KX hcd) (hb _ _ _ _ ?_)
 refine wpAny_newFunctionEnv_cells S.kind hkind fun env he s1 x=>?_
 subst he
 refine ⟨lim.keeps x.toInCall.keep,codeAny_func ?_⟩
 obtain ⟨t,ht,hq⟩:=hbody A outer s H vs Q E (hr.deeper _) uf
 have I:Inv (gi CX P w K mg base N qual scope f cdv A outer s H E) [] (start N vs) H s1:=Qg S hr.hd e0 hl r x
 refine wpAny_mono (ht [] s1 (start N vs) H _ I hq) (fun fl s' hs=>?_) fun e s' hs=>hs
 have fin:∀ {σ':St} {H':Hp} {v:V} {u:Value},Inv (gi CX P w K mg base N qual scope f cdv A outer s H E) [] σ' H' s'->RelV v u->Q v H'->CE outer P w H s Q u s' :=
  fun {σ' H' v u} J rv q=>⟨v,H',J.os,J.bare,J.base,J.hok,rv,q⟩
 cases fl with
 | ret u =>
  obtain ⟨v,σ',H',J,rv,q⟩:=hs
  exact fin J rv q
 | next =>
  obtain ⟨σ',H',J,q⟩:=hs
  exact fin (v:=V.non) (u:=Value.none) J rfl q
 | brk =>
  obtain ⟨_,_,_,q⟩:=hs
  exact False.elim q
 | cont =>
  obtain ⟨_,_,_,q⟩:=hs
  exact False.elim q
section
variable {X:Cx} {x:Str} {p pos:Pos} {e:Expr} {es:List Expr} {t:TA} {id T:String} {r:List V->Hp->VK->Prop}
def IL (r:List V->Hp->VK->Prop) (t:TA):TE:=fun σ H Q=>t σ H fun vs H1=>r vs H1 Q
theorem ke (hc:d9 X (.builtin id) r) (hg:Gl X x) (hm:X.mg x=none) (hv:bootBuiltins x=some (.builtin id)) (ha:PA X (e :: es) t) (hn:x≠"__name__" := by decide) (hdb:(x == ("__debug__" : Str))=false:=by decide)
  (he:starEach (e :: es) X.env=(false,eval e X.env) :: starEach es X.env:=by rfl) (hpl:(backTo pos (starEach es X.env)).any (·.1)=false:=by rfl):PE X (.Call (.Name x p) (e :: es) [] pos) (IL r t):=by
 intro pins s σ H Q I h
 refine wpAny_Call_Name_kw (xI I hg hm hv ?_ hn hdb)
 exact PyProof.Rows.callWith_builtin1 (cI (ha pos pins s σ H _ I h) fun us s1 ⟨vs,H1,I1,r1,q1⟩=>hc pins s1 σ H1 vs us Q I1 r1 q1) he hpl
theorem fG (hc:d9 X (.type T) r) (hg:Gl X x) (hm:X.mg x=none) (hv:bootBuiltins x=some (.type T)) (ha:PA X (e :: es) t) (hn:x≠"__name__" := by decide) (hdb:(x == ("__debug__" : Str))=false:=by decide)
  (he:starEach (e :: es) X.env=(false,eval e X.env) :: starEach es X.env:=by rfl) (hpl:(backTo pos (starEach es X.env)).any (·.1)=false:=by rfl):PE X (.Call (.Name x p) (e :: es) [] pos) (IL r t):=by
 intro pins s σ H Q I h
 refine wpAny_Call_Name_kw (xI I hg hm hv ?_ hn hdb)
 exact PyProof.Rows.callWith_type1 (cI (ha pos pins s σ H _ I h) fun us s1 ⟨vs,H1,I1,r1,q1⟩=>hc pins s1 σ H1 vs us Q I1 r1 q1) he hpl
end
end L2
namespace HT
open PySem PyProof.Rows
theorem Qh (A:Around) (s:Shared) (a:Int) (t:Tok) (c:Int) (u:Tok):∃ e,SeqAt.EqAt A s (.int a t) (.int c u) e/\(e=true↔a=c) :=
 ⟨(a == c),SeqAt.EqAt.int_int a t c u,by simp⟩
section
open PySem.SeqAt
open PySem.AutoSeq1 (wpAny_loadPart')
open PySem.MeetsSeq PySem.MeetsSeq2 PySem.MeetsSeq3
end
section
variable {prog:Program} {w:World} {A:Around} {E:Value->Shared->Prop} {s:Shared}
theorem Qi {t b:Addr} {vs ws:List Value} {Q:Value->Shared->Prop} (ht:IsTup s.heap t vs.toArray) (hb:IsTup s.heap b ws.toArray) (hv:vs≠[])
  (h1:ws=[]->Q (.ref t) s) (h2:ws≠[]->Q (.ref s.heap.objs.size) { s with heap:=s.heap.push { cls:=.type "tuple",data:=.seq (vs ++ ws).toArray } })
  (hsz:vs.length + ws.length<=sizeLine):wpAny (model prog w) A (binaryOp .Add (.ref t) (.ref b)) Q E s:=by
 obtain ⟨⟨cls,dd,data,sl⟩,ho,hc,n,hd⟩:=id ht
 obtain ⟨⟨IP,dd2,data2,sl2⟩,ho2,hc2,n2,hd2⟩:=id hb
 simp only at hc hd hc2 hd2
 subst hc hd hc2 hd2
 have e:vs.toArray ++ ws.toArray=(vs ++ ws).toArray:=by simp
 by_cases hw:ws=[]
 ·exact concat_meets ⟨_,ho,rfl⟩ ⟨_,ho2,rfl⟩ noFill_tuple_add seq_tuple_add PySem.F.slot_tuple_add PySem.F.entry_tuple_add (PySem.F.args_tuple_add_2 _ _)
   (tuple_addW1 t b vs.toArray ws.toArray n n2 dd dd2 sl sl2 (by simpa using hv) (by simp [hw])) ⟨ho,ho2,h1 hw⟩
 ·refine concat_meets ⟨_,ho,rfl⟩ ⟨_,ho2,rfl⟩ noFill_tuple_add seq_tuple_add PySem.F.slot_tuple_add PySem.F.entry_tuple_add (PySem.F.args_tuple_add_2 _ _)
   (tuple_addW2 t b vs.toArray ws.toArray n n2 dd dd2 sl sl2 (by simpa using hv) (by simpa using hw) (by rw [Yo,Yo];exact hsz)) ⟨ho,ho2,?_⟩
  rw [e]
  exact h2 hw
def cJ (n d:Nat):Option Int->Nat
 | none=>d
 | some v=>if v < 0 then (v + (n:Int)).toNat else min v.toNat n
theorem Qj (n d:Nat):cJ n d none=d:=rfl
theorem Qk (n d k:Nat):cJ n d (some (k:Int))=min k n:=by
 show (if (k:Int) < 0 then ((k:Int) + (n:Int)).toNat else min (k:Int).toNat n)=min k n
 rw [if_neg (by omega),Yl]
theorem xT (n d:Nat) (hd:d<=n) (o:Option Int):cJ n d o<=n:=by
 cases o with
 | none=>exact hd
 | some v =>
  show (if v < 0 then (v + (n:Int)).toNat else min v.toNat n)<=n
  by_cases hv:v < 0
  ·rw [if_pos hv];omega
  ·rw [if_neg hv];exact Nat.min_le_right _ _
theorem Ml (v:Int) (n d:Nat):(if v < 0 then max (v + (n:Int)) 0 else min v (n:Int))=((cJ n d (some v):Nat):Int):=by
 show (if v < 0 then max (v + (n:Int)) 0 else min v (n:Int))=(((if v < 0 then (v + (n:Int)).toNat else min v.toNat n):Nat):Int)
 by_cases hv:v < 0
 ·simp only [if_pos hv];omega
 ·simp only [if_neg hv];omega
theorem Ql (lo hi:Option Int) (n:Nat):Builtin.Slice.sliceAdjust lo hi 1 (n:Int)=(((cJ n 0 lo:Nat):Int),((cJ n n hi:Nat):Int)):=by
 have h1:¬ ((1:Int) < 0):=by omega
 unfold Builtin.Slice.sliceAdjust
 simp only [h1,if_false]
 refine Prod.ext ?_ ?_
 ·cases lo with
  | none=>rfl
  | some v=>exact Ml v n 0
 ·cases hi with
  | none=>rfl
  | some v=>exact Ml v n n
theorem Qm (i j:Nat):Builtin.Slice.slicePlaces (i:Int) (j:Int) 1=j - i:=by
 unfold Builtin.Slice.slicePlaces
 have h1:(1:Int) > 0:=by omega
 simp only [h1,if_true,Int.ediv_one]
 split <;> omega
theorem Mm {v:Value} {o:Option Int} {Q:Option Int->Shared->Prop} (p:IsPart v o) (h:Q o s):wpAny (model prog w) A (Builtin.Slice.slicePartIndex v) Q E s:=by
 cases p with
 | none=>exact slicePart_none h
 | int i t=>exact slicePart_int h
theorem Mp {sl:Addr} {vl vu:Value} {lo hi:Option Int} {n:Nat} {Q:Int×Int×Nat->Shared->Prop} (hs:s.heap.IsSliceOf sl vl vu .none) (pl:IsPart vl lo) (pu:IsPart vu hi)
  (h:Q (((cJ n 0 lo:Nat):Int),1,cJ n n hi - cJ n 0 lo) s):wpAny (model prog w) A (Builtin.Slice.sliceApplied (.ref sl) (pure (n:Int))) Q E s:=by
 obtain ⟨os,hos,hcs,hds⟩:=id hs
 unfold Builtin.Slice.sliceApplied Builtin.Slice.sliceFields
 refine wpAny_bind (wpAny_bind (wpAny_field hos hds (x:=vl) rfl (wpAny_bind (wpAny_field hos hds (x:=vu) rfl (wpAny_bind (wpAny_field hos hds (x:=.none) rfl (wpAny_pure ?_)))))))
 refine wpAny_bind (slicePart_none ?_)
 show wpAny _ _ (if ((1:Int) == 0)=true then _ else _) _ _ s
 rw [if_neg (by decide)]
 refine wpAny_bind (Mm pl (wpAny_bind (Mm pu (wpAny_bind (wpAny_pure ?_)))))
 show wpAny _ _ (match Builtin.Slice.sliceAdjust lo hi 1 (n:Int) with | (lo,hi)=>pure (lo,(1:Int),Builtin.Slice.slicePlaces lo hi 1)) _ _ s
 rw [Ql lo hi n]
 show wpAny _ _ (pure (((cJ n 0 lo:Nat):Int),(1:Int),Builtin.Slice.slicePlaces ((cJ n 0 lo:Nat):Int) ((cJ n n hi:Nat):Int) 1)) _ _ s
 rw [Qm]
 exact wpAny_pure h
theorem Qn (xs:Array Value) (i k:Nat):((List.range k).filterMap fun (m:Nat)=>xs[((i:Int) + (m:Int) * 1).toNat]?).toArray=((xs.toList.drop i).take k).toArray:=by
 have e:(fun (m:Nat)=>xs[((i:Int) + (m:Int) * 1).toNat]?)=fun m=>xs[i + m]?:=by
  funext m
  have:((i:Int) + (m:Int) * 1).toNat=i + m:=by omega
  rw [this]
 rw [e]
 have:=pick_run xs i k
 rw [List.filterMap_map] at this
 have e2:((fun x=>xs[x]?) ∘ fun x=>i + x)=fun m=>xs[i + m]?:=rfl
 rw [e2] at this
 rw [this]
theorem Qo {t sl:Addr} {items:Array Value} {vl vu:Value} {lo hi:Option Int} {Q:Value->Shared->Prop} (ht:IsTup s.heap t items) (hs:s.heap.IsSliceOf sl vl vu .none) (pl:IsPart vl lo) (pu:IsPart vu hi)
  (hw:¬ (cJ items.size 0 lo=0/\cJ items.size items.size hi=items.size))
  (h:Q (.ref s.heap.objs.size) { s with heap:=s.heap.push { cls:=.type "tuple",data:=.seq ((items.toList.drop (cJ items.size 0 lo)).take (cJ items.size items.size hi - cJ items.size 0 lo)).toArray } })
  (hsz:items.size<=sizeLine):wpAny (model prog w) A (getItem (.ref t) (.ref sl)) Q E s:=by
 have qA:sizeOk (.seq ((items.toList.drop (cJ items.size 0 lo)).take (cJ items.size items.size hi - cJ items.size 0 lo)).toArray):=by
  show ((items.toList.drop (cJ items.size 0 lo)).take (cJ items.size items.size hi - cJ items.size 0 lo)).toArray.size<=sizeLine
  rw [Yo,Y1,List.length_drop,Array.length_toList]
  omega
 have hj:cJ items.size items.size hi<=items.size:=xT _ _ (Yd _) hi
 obtain ⟨os,hos,hcs,hds⟩:=id hs
 have IQ:s.TypeIs (.ref sl) "slice" := ⟨os,hos,hcs⟩
 unfold getItem
 try with_reducible refine wpAny_holding ?_
 first | refine wpAny_bind (wpAny_pure ?_) | skip
 refine wpAny_bind (wpAny_sequenceKey ht.typeIs (by decide) ?_)
 refine wpAny_bind (wpAny_callSpecial?_slot (name:=Str.ofString "__getitem__") ht.typeIs PyProof.Rows.slot_tuple_getitem
  (wpAny_call_entry PyProof.Rows.slot_tuple_getitem ht.typeIs entry_tuple_getitem ?_ (args_tuple_getitem _ _)))
 show wpAny _ _ (Builtin.Tuple.tupleItemsOf (.ref t) >>= _) _ _ s
 refine wpAny_bind (tupleItemsOf_ ht ?_)
 refine wpAny_bind (wpAny_typeOf IQ ?_)
 rw [if_pos (by decide)]
 refine wpAny_bind (Mp hs pl pu ?_)
 have hno:¬ ((((cJ items.size 0 lo:Nat):Int) == 0 && (1:Int) == 1 && (cJ items.size items.size hi - cJ items.size 0 lo) == items.size)=true):=by
  intro q
  rw [YA,YA] at q
  have q1:((cJ items.size 0 lo:Nat):Int)=0:=eq_of_beq q.1.1
  have q2:cJ items.size items.size hi - cJ items.size 0 lo=items.size:=eq_of_beq q.2
  exact hw ⟨by omega,by omega⟩
 show wpAny _ _ (if (((cJ items.size 0 lo:Nat):Int) == 0 && (1:Int) == 1 && (cJ items.size items.size hi - cJ items.size 0 lo) == items.size)=true then _ else _) _ _ s
 rw [if_neg hno,Qn]
 first
  | exact wpAny_bind (m:=Builtin.Tuple.tupleExact _) (wpAny_newObj_type (wpAny_pure ⟨_,rfl,wpAny_pure h⟩) qA)
  | exact wpAny_bind (m:=Builtin.Tuple.tupleExact _) (wpAny_newObj_type (wpAny_bind (wpAny_pure (wpAny_pure ⟨_,rfl,wpAny_pure h⟩))) qA)
  | exact wpAny_bind (wpAny_bind (m:=Builtin.Tuple.tupleExact _) (wpAny_newObj_type (wpAny_pure (wpAny_pure ⟨_,rfl,wpAny_pure h⟩)) qA))
  | exact wpAny_bind (wpAny_bind (m:=Builtin.Tuple.tupleExact _) (wpAny_newObj_type (wpAny_pure ⟨_,rfl,wpAny_pure h⟩) qA))
end
end HT
namespace L2
open PySem PySem.Spec PyProof.Rows
abbrev TO:=St->Hp->(Option Int->Hp->Prop)->Prop
def PO (X:Cx) (e:Option Expr) (t:TO):Prop :=
 ∀ (pins:List (Addr×Obj)) (s:Shared) (σ:St) (H:Hp) (Q:Option Int->Hp->Prop),Inv X pins σ H s->t σ H Q ->
  wpAny (model X.prog X.w) X.A (evalPart e X.env) (fun u s'=>∃ o H',Inv X pins σ H' s'/\IsPart u o/\Q o H') X.xe s
def qB:TO:=fun _ H Q=>Q none H
def vS (t:TE):TO:=fun σ H Q=>t σ H fun x H1=>∃ i,x=.int i/\Q (some i) H1
theorem Mq {ns:List Int}:∀ {us:List Value},Vals (ns.map V.int) us->IntsAre us ns:=by
 induction ns with
 | nil=>intro us r;rw [YM] at r;cases r;exact .nil
 | cons n ns ih =>
  intro us r
  rw [Yu] at r
  cases r with
  | cons r1 r2 =>
   obtain ⟨t,e⟩:=r1
   subst e
   exact .cons n t (ih r2)
section
variable {X:Cx} {e:Expr} {te:TE} {lo hi:Option Expr} {tl th:TO} {pos p2:Pos}
theorem IU:PO X none qB:=by
 intro pins s σ H Q I h
 rw [evalPart_none]
 exact wpAny_pure ⟨none,H,I,.none,h⟩
theorem IV (h:PE X e te):PO X (some e) (vS te):=by
 intro pins s σ H Q I hw
 rw [evalPart_some]
 refine cI (h pins s σ H _ I hw) fun u s1 ⟨x,H1,I1,r1,q1⟩=>?_
 obtain ⟨i,rfl,q⟩:=q1
 obtain ⟨t,rfl⟩:=r1
 exact ⟨some i,H1,I1,.int i t,q⟩
def FO (X:Cx) (r:V->Option Int->Option Int->Hp->VK->Prop):Prop :=
 ∀ (pins:List (Addr×Obj)) (s:Shared) (σ:St) (H:Hp) (x:V) (v vl vu:Value) (lo hi:Option Int) (sl:Addr) (Q:VK),Inv X pins σ H s->RelV x v->s.heap.IsSliceOf sl vl vu .none->IsPart vl lo->IsPart vu hi->r x lo hi H Q ->
  ∃ T id,typeLookup (.type T) "__getitem__" = pure (some (.builtin id))/\s.TypeIs v T/\wpAny (model X.prog X.w) X.A (getItem v (.ref sl)) (EP X pins σ Q) X.xe s
def Mr (r:V->Option Int->Option Int->Hp->VK->Prop) (te:TE) (tl th:TO):TE:=fun σ H Q=>te σ H fun x H1=>tl σ H1 fun l H2=>th σ H2 fun u H3=>r x l u H3 Q
theorem IW {r:V->Option Int->Option Int->Hp->VK->Prop} (hr:FO X r) (he:PE X e te) (hl:PO X lo tl) (hu:PO X hi th):PE X (.Subscript e (.Slice lo hi none p2) pos) (Mr r te tl th):=by
 intro pins s σ H Q I h
 refine Subscript_ (cI (he pins s σ H _ I h) fun v s1 ⟨x,H1,I1,r1,q1⟩=>?_)
 refine wpAny_Slice (cI (hl pins s1 σ H1 _ I1 q1) fun vl s2 ⟨l,H2,I2,pl,q2⟩=>cI (hu pins s2 σ H2 _ I2 q2) fun vu s3 ⟨u,H3,I3,pu,q3⟩=>?_)
 rw [evalPart_none]
 refine wpAny_pure ?_
 have I4:Inv X pins σ H3 { s3 with heap:=s3.heap.push { cls:=.type "slice",data:=.fields #[vl,vu,.none] } }:=I3.kept (t':=s3.toks) fun b ob q=>Yq _ q
 obtain ⟨T,id,hT,ht,hg⟩:=hr pins { s3 with heap:=s3.heap.push { cls:=.type "slice",data:=.fields #[vl,vu,.none] } } σ H3 x v vl vu l u s3.heap.objs.size Q I4 r1 (Heap.IsSliceOf.new ..) pl pu q3
 show wpAny (model X.prog X.w) X.A (subscriptTail e (.Slice lo hi none p2) v (.ref s3.heap.objs.size)) (EP X pins σ Q) X.xe { s3 with heap:=s3.heap.push { cls:=.type "slice",data:=.fields #[vl,vu,.none] } }
 exact tail_any (ops:=[.ref s3.heap.objs.size,v]) ht hT hg (by with_unfolding_all rfl)
def nQ (xs:List V) (lo hi:Option Int):List V:=(xs.drop (HT.cJ xs.length 0 lo)).take (HT.cJ xs.length xs.length hi - HT.cJ xs.length 0 lo)
theorem Ms (xs:List V) (lo hi:Option Int):(nQ xs lo hi).length<=xs.length:=by
 unfold nQ
 rw [Y1,List.length_drop]
 omega
def IX (K:Zfr):V->Option Int->Option Int->Hp->VK->Prop:=fun x lo hi H Q=>∃ a xs,x=.ref a/\d8 K H a xs /\
 ¬ (HT.cJ xs.length 0 lo=0/\HT.cJ xs.length xs.length hi=xs.length)/\∀ p,H p=none->Q (.ref p) (upd H p (.tup (nQ xs lo hi)))
theorem xU:FO X (IX X.K):=by
 intro pins s σ H x v vl vu lo hi sl Q I rx hs pl pu h
 obtain ⟨a,xs,rfl,hx,hw,q⟩:=h
 cases rx
 obtain ⟨its,r,ht,hz⟩:=I.tuple hx
 have hlen:its.toArray.size=xs.length:=by rw [Yo];exact r.length.symm
 refine ⟨"tuple",_,PyProof.Rows.slot_tuple_getitem.lookup,ht.typeIs,?_⟩
 refine HT.Qo ht hs pl pu (by rw [hlen];exact hw) ?_ (by rw [hlen];exact hz)
 rw [hlen]
 refine ⟨.ref s.heap.objs.size,_,I.laid (t':=s.toks) (o:=.tup (nQ xs lo hi)) (fun b ob q=>Yq _ q) (Yd _) ?_,rfl,q _ (I.hok.fresh (Yd _))⟩
 exact ⟨Yv (Ms xs lo hi) hz,_,(r.drop (HT.cJ xs.length 0 lo)).take (HT.cJ xs.length xs.length hi - HT.cJ xs.length 0 lo),oS.new _ _⟩
def B1 (K:Zfr):R2:=fun x y H Q=>∃ a b xs ys,x=.ref a/\y=.ref b/\d8 K H a xs/\d8 K H b ys/\xs≠[]/\xs.length + ys.length<=sizeLine /\
 (ys=[]->Q (.ref a) H)/\(ys≠[]->∀ p,H p=none->Q (.ref p) (upd H p (.tup (xs ++ ys))))
theorem Vals.nD {xs:List V} {us:List Value} (r:Vals xs us):us=[]↔xs=[]:=by
 cases r with
 | nil=>simp
 | cons _ _=>simp
theorem Qp:kH X (binaryOp .Add) (B1 X.K):=by
 intro pins s σ H x y v u Q I rx ry h
 obtain ⟨a,b,xs,ys,rfl,rfl,ha,hb,hx,hz,q1,q2⟩:=h
 cases rx
 cases ry
 obtain ⟨its,r1,p1,_⟩:=I.tuple ha
 obtain ⟨its2,r2,p2,_⟩:=I.tuple hb
 refine HT.Qi p1 p2 (fun z=>hx (r1.nD.mp z)) (fun z=>⟨.ref a,H,I,rfl,q1 (r2.nD.mp z)⟩) (fun z=>?_) (by rw [<- r1.length,<- r2.length];exact hz)
 refine ⟨.ref s.heap.objs.size,_,I.laid (t':=s.toks) (o:=.tup (xs ++ ys)) (fun b ob q=>Yq _ q) (Yd _) ?_,rfl,q2 (fun w=>z (r2.nD.mpr w)) _ (I.hok.fresh (Yd _))⟩
 exact ⟨by rw [Yc];exact hz,_,r1.append r2,oS.new _ _⟩
end
def m8 (n:Nat) (i:Int):Option Nat:=if 0<=i then (if i < n then some i.toNat else none) else if -(n:Int)<=i then some (i + n).toNat else none
def eK {α:Type} (xs:List α) (i:Int):Option α:=(m8 xs.length i).bind fun j=>xs[j]?
theorem IY {n:Nat} {i:Int} {j:Nat} (h:m8 n i=some j):seqIndex? i n=some j/\j < n/\-(n:Int)<=i/\i < n:=by
 unfold m8 at h
 by_cases h0:0<=i
 ·rw [if_pos h0] at h
  by_cases h1:i < n
  ·rw [if_pos h1] at h
   have e:i.toNat=j:=Ym h
   exact ⟨by rw [seqIndex_of h0 h1,e],by omega,by omega,h1⟩
  ·rw [if_neg h1] at h;cases h
 ·rw [if_neg h0] at h
  by_cases h1:-(n:Int)<=i
  ·rw [if_pos h1] at h
   have e:(i + n).toNat=j:=Ym h
   exact ⟨by rw [seqIndex_neg (by omega) h1,e],by omega,h1,by omega⟩
  ·rw [if_neg h1] at h;cases h
theorem Mt {α:Type} {xs:List α} {i:Int} {v:α} (h:eK xs i=some v):∃ j,seqIndex? i xs.length=some j/\xs[j]?=some v/\j < xs.length/\-(xs.length:Int)<=i/\i < xs.length:=by
 unfold eK at h
 cases e:m8 xs.length i with
 | none=>rw [e] at h;cases h
 | some j =>
  rw [e] at h
  obtain ⟨h1,h2,h3,h4⟩:=IY e
  exact ⟨j,h1,h,h2,h3,h4⟩
theorem Av {α:Type} {xs:List α} {j:Nat} {v:α} (h:xs[j]?=some v):eK xs (j:Int)=some v:=by
 have hj:j < xs.length:=(Ya.mp h).1
 have e:m8 xs.length (j:Int)=some j:=by
  unfold m8
  rw [if_pos (by omega),if_pos (by omega)];simp
 unfold eK;rw [e];exact h
def uK (b:Expr):Prop:=∀ o i,subscripted b false o i=operate [o,i] (getItem o i)
def B2 (X:Cx) (r:R2):Prop :=
 ∀ (value slice:Expr) (pins:List (Addr×Obj)) (s:Shared) (σ:St) (H:Hp) (x y:V) (v u:Value) (Q:VK),Inv X pins σ H s->RelV x v->RelV y u->r x y H Q ->
  subscripted slice false v u=operate [v,u] (getItem v u)->wpAny (model X.prog X.w) X.A (subscriptTail value slice v u) (EP X pins σ Q) X.xe s
def vT (X:Cx) (id:String) (r:V->List V->Hp->VK->Prop):Prop :=
 ∀ (pins:List (Addr×Obj)) (s:Shared) (σ:St) (H:Hp) (x:V) (xs:List V) (v:Value) (us:List Value) (Q:VK),Inv X pins σ H s->RelV x v->Vals xs us->r x xs H Q ->
  wpAny (model X.prog X.w) X.A (call (.builtin id) (v :: us)) (EP X pins σ Q) X.xe s
section
variable {X:Cx} {a b:Expr} {ta tb:TE} {pos:Pos}
theorem a7 {r:R2} (hr:B2 X r) (ha:PE X a ta) (hb:PE X b tb) (hs:uK b):PE X (.Subscript a b pos) (BM r ta tb):=by
 intro pins s σ H Q I h
 exact Subscript_ (xP ha hb I h fun v u s2 x y H2 I2 rx ry q=>hr a b pins s2 σ H2 x y v u Q I2 rx ry q (hs _ _))
def xV (K:Zfr):R2:=fun x y H Q=>∃ p xs i v,x=.ref p/\y=.int i/\iy K H p xs/\eK xs i=some v/\Q v H
def xW (K:Zfr):R2:=fun x y H Q=>∃ p xs i v,x=.ref p/\y=.int i/\d8 K H p xs/\eK xs i=some v/\Q v H
theorem lV:B2 X (xV X.K):=by
 intro value slice pins s σ H x y v u Q I rx ry h hs
 obtain ⟨p,xs,i,z,rfl,rfl,hq,he,q⟩:=h
 cases rx
 obtain ⟨t,rfl⟩:=ry
 obtain ⟨its,r,pl,hz⟩:=I.list hq
 obtain ⟨j,h1,h2,h3,h4,h5⟩:=Mt he
 obtain ⟨w,ew,rw'⟩:=r.get h2
 have hl:=r.length
 have hn:=mC
 have fin:EP X pins σ Q w s:=⟨z,H,I,rw',q⟩
 by_cases h0:0<=i
 ·have hj:i.toNat=j:=by
   rw [seqIndex_of h0 h5] at h1
   exact Ym h1
  exact item_listR pl.isList h0 (by omega) (by rw [hj];simpa using ew) fin hs
 ·have hj:(i + (its.toArray.size:Int)).toNat=j:=by
   rw [seqIndex_neg (by omega) h4] at h1
   rw [Yo,<- hl]
   exact Ym h1
  exact subscriptTail_builtinR (x:=w) pl.isList.typeIs slot_list_getitem.lookup
   (wpAny_getItem_list_neg (Q:=fun r s'=>r=w/\EP X pins σ Q r s') pl.isList (by omega) (by rw [Yo] <;> omega) (by omega) (by rw [hj];simpa using ew) ⟨rfl,fin⟩) hs
theorem cj:B2 X (xW X.K):=by
 intro value slice pins s σ H x y v u Q I rx ry h hs
 obtain ⟨p,xs,i,z,rfl,rfl,hq,he,q⟩:=h
 cases rx
 obtain ⟨t,rfl⟩:=ry
 obtain ⟨its,r,pl,hz⟩:=I.tuple hq
 obtain ⟨j,h1,h2,h3,h4,h5⟩:=Mt he
 obtain ⟨w,ew,rw'⟩:=r.get h2
 have hl:=r.length
 have hn:=mC
 have fin:EP X pins σ Q w s:=⟨z,H,I,rw',q⟩
 exact subscriptTail_builtinR (x:=w) pl.typeIs slot_tuple_getitem.lookup
  (getItem_tuple (j:=j) (Q:=fun r s'=>r=w/\EP X pins σ Q r s') pl (by omega) (by omega) (by rw [Yo,<- hl];exact h1) (by simpa using ew) ⟨rfl,fin⟩) hs
theorem Qq (its:List Value) (n j:Nat) (u:Value):Obj.mapSeq (·.setIfInBounds j u) { cls:=.type "list",data:=.seq its.toArray n }={ cls:=.type "list",data:=.seq (its.set j u).toArray n }:=by
 simp [Obj.mapSeq]
theorem Inv.lst {pins:List (Addr×Obj)} {σ:St} {H:Hp} {s:Shared} {p:Addr} {xs:List V} (I:Inv X pins σ H s) (h:H p=some (.lst xs)) :
  ∃ (its:List Value) (n:Nat),Vals xs its/\s.heap.get? p=some { cls:=.type "list",data:=.seq its.toArray n }/\xs.length<=sizeLine:=by
 obtain ⟨z,its,n,r,e⟩:=I.hok p _ h
 exact ⟨its,n,r,e,z⟩
theorem Inv.xX {pins:List (Addr×Obj)} {σ:St} {H:Hp} {s:Shared} {p:Addr} {xs ys:List V} {its its':List Value} {n n':Nat} {f:Obj->Obj} (I:Inv X pins σ H s) (h:H p=some (.lst xs))
  (ho:s.heap.get? p=some { cls:=.type "list",data:=.seq its.toArray n }) (hf:f { cls:=.type "list",data:=.seq its.toArray n }={ cls:=.type "list",data:=.seq its'.toArray n' }) (r:Vals ys its') (hz:ys.length<=sizeLine) (t:Nat) :
  Inv X pins σ (upd H p (.lst ys)) { s with heap:=s.heap.update p f,toks:=t }:=by
 have e:(s.heap.update p f).get? p=some { cls:=.type "list",data:=.seq its'.toArray n' }:=by
  rw [Heap.get?_update_self f ho (by rw [hf] <;> rfl),hf]
 refine I.write (x:=p) (e:=p) (by rw [h];trivial) (.inl rfl) (fun b u hb q=>(Y2 _ _ (Ne.symm hb)).trans q) ⟨_,e⟩ ?_
 exact ⟨hz,its',n',r,e⟩
def vU:V->V->V->Hp->(Hp->Prop)->Prop:=fun o i v H Q=>∃ p xs k j,o=.ref p/\i=.int k/\H p=some (.lst xs)/\m8 xs.length k=some j/\Q (upd H p (.lst (xs.set j v)))
theorem Aw:BF X vU:=by
 intro pins s σ H o i v ov iv u Q I ro ri rv h
 obtain ⟨p,xs,k,j,rfl,rfl,hp,hj,q⟩:=h
 cases ro
 obtain ⟨t,rfl⟩:=ri
 obtain ⟨its,n,r,ho,hz⟩:=I.lst hp
 obtain ⟨h1,h2,h3,h4⟩:=IY hj
 have hl:=r.length
 have hn:=mC
 have I':Inv X pins σ (upd H p (.lst (xs.set j v))) { s with heap:=s.heap.update p (Obj.mapSeq (·.setIfInBounds j u)) } :=
  I.xX hp ho (Qq its n j u) (r.set rv j) (by rw [YX];exact hz) s.toks
 by_cases h0:0<=k
 ·have hk:k.toNat=j:=by
   rw [seqIndex_of h0 h4] at h1
   exact Ym h1
  exact PySem.W.ki_setAt ho h0 (by omega) (by rw [Yo,<- hl];exact h4) (by rw [hk];exact ⟨_,I',q⟩)
 ·have hk:(k + (its.toArray.size:Int)).toNat=j:=by
   rw [seqIndex_neg (by omega) h3] at h1
   rw [Yo,<- hl]
   exact Ym h1
  exact PySem.W.ki_setBack ho (by omega) (by rw [Yo,<- hl];exact h3) (by omega) (by rw [hk];exact ⟨_,I',q⟩)
theorem Qr (lo hi:Option Int) (n:Nat):(sliceBounds lo hi none n).1=((HT.cJ n 0 lo:Nat):Int)/\(sliceBounds lo hi none n).2.1=((HT.cJ n n hi:Nat):Int)/\(sliceBounds lo hi none n).2.2=1:=by
 refine ⟨?_,?_,rfl⟩
 ·cases lo with
  | none=>simp [sliceBounds,HT.cJ]
  | some i =>
   simp only [sliceBounds,HT.cJ,Option.getD_none,show (1:Int) > 0 by decide,if_true]
   by_cases h:i < 0
   ·simp only [h,if_true] <;> omega
   ·simp only [h,if_false] <;> omega
 ·cases hi with
  | none=>simp [sliceBounds,HT.cJ]
  | some i =>
   simp only [sliceBounds,HT.cJ,Option.getD_none,show (1:Int) > 0 by decide,if_true]
   by_cases h:i < 0
   ·simp only [h,if_true] <;> omega
   ·simp only [h,if_false] <;> omega
theorem Qs (its:List Value) (lo hi:Option Int):slicePick its.toArray lo hi none=((its.drop (HT.cJ its.length 0 lo)).take (HT.cJ its.length its.length hi - HT.cJ its.length 0 lo)).toArray:=by
 obtain ⟨h1,h2,h3⟩:=Qr lo hi its.toArray.size
 unfold slicePick
 rw [h1,h2,h3]
 simp only [sliceRange_one,pick_run,Yo] <;> rfl
def B3 (K:Zfr):V->Option Int->Option Int->Hp->VK->Prop:=fun x lo hi H Q=>∃ a xs,x=.ref a/\iy K H a xs/\∀ p,H p=none->Q (.ref p) (upd H p (.lst (nQ xs lo hi)))
theorem Mu:FO X (B3 X.K):=by
 intro pins s σ H x v vl vu lo hi sl Q I rx hs pl pu h
 obtain ⟨a,xs,rfl,hx,q⟩:=h
 cases rx
 obtain ⟨its,r,ht,hz⟩:=I.list hx
 have hlen:=r.length
 refine ⟨"list",_,slot_list_getitem.lookup,ht.isList.typeIs,?_⟩
 refine wpAny_getItem_list_slice ht.isList hs pl pu .none (by simp) ?_ (by rw [Yo] <;> omega)
 rw [Qs,<- hlen]
 refine ⟨.ref s.heap.objs.size,_,I.laid (t':=s.toks) (o:=.lst (nQ xs lo hi)) (fun b ob q=>Yq _ q) (Yd _) ?_,rfl,q _ (I.hok.fresh (Yd _))⟩
 exact ⟨Yv (Ms xs lo hi) hz,_,0,(r.drop (HT.cJ xs.length 0 lo)).take (HT.cJ xs.length xs.length hi - HT.cJ xs.length 0 lo),Yy _ rfl⟩
def kP:V->Bool
 | .non=>true
 | .bl _=>true
 | .int _=>true
 | .str _=>true
 | _=>false
def vV:V->V->Bool
 | .non,.non=>true
 | .bl a,.bl b=>a == b
 | .bl a,.int b=>(if a then 1 else 0) == b
 | .int a,.bl b=>a == (if b then 1 else 0)
 | .int a,.int b=>a == b
 | .str a,.str b=>a == b
 | _,_=>false
theorem xY {A:Around} {s:Shared} {y x:V} {u v:Value} (ry:RelV y u) (rx:RelV x v) (fy:kP y=true) (fx:kP x=true):SeqAt.EqAt A s u v (vV y x):=by
 cases y with
 | non =>
  cases ry
  cases x with
  | non=>cases rx;exact SeqAt.EqAt.same _
  | bl b=>cases rx;exact SeqAt.EqAt.none_bool b
  | int b=>obtain ⟨t,rfl⟩:=rx;exact SeqAt.EqAt.none_int b t
  | str b=>obtain ⟨t,rfl⟩:=rx;exact SeqAt.EqAt.none_str b t
  | _=>exact absurd (show false=true from fx) Yh
 | bl a =>
  cases ry
  cases x with
  | non=>cases rx;exact SeqAt.EqAt.bool_none a
  | bl b=>cases rx;exact SeqAt.EqAt.bool_bool a b
  | int b=>obtain ⟨t,rfl⟩:=rx;exact SeqAt.EqAt.bool_int a b t
  | str b=>obtain ⟨t,rfl⟩:=rx;exact SeqAt.EqAt.bool_str a b t
  | _=>exact absurd (show false=true from fx) Yh
 | int a =>
  obtain ⟨t',rfl⟩:=ry
  cases x with
  | non=>cases rx;exact SeqAt.EqAt.int_none a t'
  | bl b=>cases rx;exact SeqAt.EqAt.int_bool a t' b
  | int b=>obtain ⟨t,rfl⟩:=rx;exact SeqAt.EqAt.int_int a t' b t
  | str b=>obtain ⟨t,rfl⟩:=rx;exact SeqAt.EqAt.int_str a t' b t
  | _=>exact absurd (show false=true from fx) Yh
 | str a =>
  obtain ⟨t',rfl⟩:=ry
  cases x with
  | non=>cases rx;exact SeqAt.EqAt.str_none a t'
  | bl b=>cases rx;exact SeqAt.EqAt.str_bool a t' b
  | int b=>obtain ⟨t,rfl⟩:=rx;exact SeqAt.EqAt.str_int a t' b t
  | str b=>obtain ⟨t,rfl⟩:=rx;exact SeqAt.EqAt.str_str a t' b t
  | _=>exact absurd (show false=true from fx) Yh
 | _=>exact absurd (show false=true from fy) Yh
def uL (x:V) (u:Value):Bool:=match u with
 | .none=>vV .non x
 | .bool b=>vV (.bl b) x
 | .int i _=>vV (.int i) x
 | .str z _=>vV (.str z) x
 | _=>false
theorem Mv {x y:V} {u:Value} (r:RelV y u) (f:kP y=true):uL x u=vV y x:=by
 cases y with
 | non=>cases r;rfl
 | bl b=>cases r;rfl
 | int i=>obtain ⟨t,rfl⟩:=r;rfl
 | str z=>obtain ⟨t,rfl⟩:=r;rfl
 | _=>exact absurd (show false=true from f) Yh
theorem IZ {x:V}:∀ {xs:List V} {us:List Value},Vals xs us->xs.all kP=true->us.any (uL x)=xs.any fun y=>vV y x
 | _,_,.nil,_=>rfl
 | y :: xs,u :: us,.cons r t,f=>by
  rw [List.all_cons,YA] at f
  rw [Y5,Y5,Mv r f.1,IZ t f.2]
theorem Ja {A:Around} {s:Shared} {x:V} {v:Value} (rx:RelV x v) (fx:kP x=true):∀ {xs:List V} {us:List Value},Vals xs us->xs.all kP=true->∀ u∈us,SeqAt.EqAt A s u v (uL x u)
 | _,_,.nil,_=>fun u hu=>by cases hu
 | y :: xs,u :: us,.cons r t,f=>fun u' hu=>by
  rw [List.all_cons,YA] at f
  rcases YC.mp hu with rfl | hu
  ·rw [Mv r f.1];exact xY r rx f.1 fx
  ·exact Ja rx fx t f.2 u' hu
def vW (x:V) (xs:List V):Bool:=xs.any fun y=>vV y x
def Jb (K:Zfr) (neg:Bool):R2:=fun x y H Q=>∃ p xs,y=.ref p/\(iy K H p xs\/d8 K H p xs)/\kP x=true/\xs.all kP=true/\Q (.bl (if neg then !vW x xs else vW x xs)) H
theorem FP:kH X (compareOp .NotIn) (Jb X.K true):=by
 intro pins s σ H x y v u Q I rx ry h
 obtain ⟨p,xs,rfl,hq,fx,fs,q⟩:=h
 cases ry
 rcases hq with hq | hq
 ·obtain ⟨its,r,pl,hz⟩:=I.list hq
  refine SeqAt.notIn_listAt (uL x) pl.isList (fun w hw=>Ja rx fx r fs w (by simpa using hw)) ⟨.bl _,H,I,rfl,?_⟩
  rw [show its.toArray.any (uL x)=its.any (uL x) by simp,IZ r fs]
  exact q
 ·obtain ⟨its,r,pl,hz⟩:=I.tuple hq
  refine SeqAt.notIn_tupleAt (uL x) pl (fun w hw=>Ja rx fx r fs w (by simpa using hw)) ⟨.bl _,H,I,rfl,?_⟩
  rw [show its.toArray.any (uL x)=its.any (uL x) by simp,IZ r fs]
  exact q
theorem mD:d9 X (.builtin "len") (fun xs H Q=>∃ p ys,xs=[.ref p]/\(iy X.K H p ys\/d8 X.K H p ys)/\Q (.int ys.length) H):=by
 intro pins s σ H xs us Q I r h
 obtain ⟨p,ys,rfl,hq,q⟩:=h
 obtain ⟨u,rfl,rx⟩:=vals1 r
 cases rx
 have hn:=mC
 rcases hq with hq | hq
 ·obtain ⟨its,r',pl,hz⟩:=I.list hq
  have hlen:=r'.length
  exact Calls.call_len_list pl.isList (by simp only [Yo] <;> omega) ⟨.int ys.length,H,I.tok _,⟨s.toks + 1,by rw [Yo,hlen]⟩,q⟩
 ·obtain ⟨its,r',pl,hz⟩:=I.tuple hq
  have hlen:=r'.length
  exact len_tuple pl (by simp only [Yo] <;> omega) ⟨.int ys.length,H,I.tok _,⟨s.toks + 1,by rw [Yo,hlen]⟩,q⟩
theorem Jc:d9 X (.type "list") (fun xs H Q=>∃ p ys,xs=[.ref p]/\(iy X.K H p ys\/d8 X.K H p ys)/\∀ l,H l=none->Q (.ref l) (upd H l (.lst ys))):=by
 intro pins s σ H xs us Q I r h
 obtain ⟨p,ys,rfl,hq,q⟩:=h
 obtain ⟨u,rfl,rx⟩:=vals1 r
 cases rx
 have fin:∀ (its:List Value),Vals ys its->ys.length<=sizeLine->∀ (h':Heap) (c':Nat),(∀ b o',s.heap.get? b=some o'->h'.get? b=some o') ->
   h'.get? s.heap.objs.size=some { cls:=.type "list",dict:=none,data:=.seq its.toArray c',slots:=#[] }->EP X pins σ Q (.ref s.heap.objs.size) { s with heap:=h' }:=fun its r' hz h' c' kp e =>
  ⟨.ref s.heap.objs.size,_,I.laid (t':=s.toks) kp (Yd _) (show cf X.prog X.w _ h' _ (.lst ys) from ⟨hz,its,c',r',e⟩),rfl,q _ (I.hok.fresh (Yd _))⟩
 rcases hq with hq | hq
 ·obtain ⟨its,r',pl,hz⟩:=I.list hq
  have hlen:=r'.length
  obtain ⟨o,ho,hc,n,hd⟩:=pl.isList
  exact call_list_seq p (.inl rfl) ho hc hd (fun h' c' kp e=>fin its r' hz h' c' kp e) (by simp only [Yo] <;> omega)
 ·obtain ⟨its,r',pl,hz⟩:=I.tuple hq
  have hlen:=r'.length
  obtain ⟨o,ho,hc,n,hd⟩:=pl
  exact call_list_seq p (.inr rfl) ho hc hd (fun h' c' kp e=>fin its r' hz h' c' kp e) (by simp only [Yo] <;> omega)
theorem oB:d9 X (.type "tuple") (fun xs H Q=>∃ p ys,xs=[.ref p]/\((iy X.K H p ys/\∀ l,H l=none->Q (.ref l) (upd H l (.tup ys)))\/(d8 X.K H p ys/\Q (.ref p) H))):=by
 intro pins s σ H xs us Q I r h
 obtain ⟨p,ys,rfl,h⟩:=h
 obtain ⟨u,rfl,rx⟩:=vals1 r
 cases rx
 rcases h with ⟨hq,q⟩ | ⟨hq,q⟩
 ·obtain ⟨its,r',pl,hz⟩:=I.list hq
  have hlen:=r'.length
  refine call_tuple_list pl.isList (fun h' kp=>?_) (by simp only [Yo] <;> omega)
  have I1:Inv X pins σ H { s with heap:=h' }:=I.kept (t':=s.toks) kp
  have I2:Inv X pins σ (upd H h'.objs.size (.tup ys)) { s with heap:=h'.push { cls:=.type "tuple",data:=.seq its.toArray } } :=
   I1.laid (t':=s.toks) (fun b o e=>Yq _ e) (Yd _) (show cf X.prog X.w _ _ _ (.tup ys) from ⟨hz,its,r',oS.new _ _⟩)
  exact ⟨.ref h'.objs.size,_,I2,rfl,q _ (I1.hok.fresh (Yd _))⟩
 ·obtain ⟨its,r',pl,hz⟩:=I.tuple hq
  exact call_tuple_same pl ⟨.ref p,H,I,rfl,q⟩
def FQ (K:Zfr) (T:String) (x:V) (H:Hp):Prop:=match x with
 | .str _=>T="str"
 | .int _=>T="int"
 | .ref p=>(T="list" /\ ∃ xs,iy K H p xs)\/(T="tuple" /\ ∃ xs,d8 K H p xs) \/
   (T="dict" /\ ((∃ kvs,H p=some (.dK kvs))\/∃ kvs,H p=some (.dT kvs)))\/(T="set" /\ ∃ S n,H p=some (.set S n))
 | _=>False
theorem Mw {pins:List (Addr×Obj)} {σ:St} {H:Hp} {s:Shared} {T:String} {x:V} {v:Value} (I:Inv X pins σ H s) (r:RelV x v) (ty:FQ X.K T x H) :
  s.TypeIs v T/\∀ a,v=.ref a->∃ ob,s.heap.get? a=some ob/\ob.dict=none:=by
 cases x with
 | str z =>
  obtain ⟨t,rfl⟩:=r
  cases (show T="str" from ty)
  exact ⟨typeIs_str s z t,fun _ e=>nomatch e⟩
 | int i =>
  obtain ⟨t,rfl⟩:=r
  cases (show T="int" from ty)
  exact ⟨typeIs_int s i t,fun _ e=>nomatch e⟩
 | ref p =>
  cases r
  rcases ty with ⟨rfl,xs,hq⟩ | ⟨rfl,xs,hq⟩ | ⟨rfl,hk⟩ | ⟨rfl,S,n,hk⟩
  ·obtain ⟨its,_,pl,_⟩:=I.list hq
   refine ⟨pl.isList.typeIs,fun a e=>?_⟩
   cases e
   obtain ⟨o,n,e,c,hd,_⟩:=pl
   exact ⟨o,e,hd⟩
  ·obtain ⟨its,_,⟨o,e,c,d,_⟩,_⟩:=I.oW hq
   refine ⟨⟨o,e,c⟩,fun a e2=>?_⟩
   cases e2
   exact ⟨o,e,d⟩
  ·have z:∃ o,s.heap.get? p=some o/\o.ExactDict:=by
    rcases hk with ⟨kvs,hk⟩ | ⟨kvs,hk⟩
    ·obtain ⟨_,_,_,_,o,_,_,e,ex,_⟩:=I.hok p _ hk
     exact ⟨o,e,ex⟩
    ·obtain ⟨_,_,_,_,o,_,_,e,ex,_⟩:=I.hok p _ hk
     exact ⟨o,e,ex⟩
   obtain ⟨o,e,ex⟩:=z
   refine ⟨⟨o,e,ex.1⟩,fun a e2=>?_⟩
   cases e2
   exact ⟨o,e,ex.2.1⟩
  ·obtain ⟨o,_,_,_,e,ex,_⟩:=I.hok p _ hk
   refine ⟨⟨o,e,ex.1⟩,fun a e2=>?_⟩
   cases e2
   exact ⟨o,e,ex.2.1⟩
 | _=>exact False.elim ty
def B4 (K:Zfr) (T:String) (r:V->List V->Hp->VK->Prop) (to:TE):TE:=fun σ H Q=>to σ H fun x H1=>FQ K T x H1/\r x [] H1 Q
def Jd (K:Zfr) (T:String) (r:V->List V->Hp->VK->Prop) (to:TE) (t:TA):TE:=fun σ H Q=>to σ H fun x H1=>FQ K T x H1/\t σ H1 fun xs H2=>r x xs H2 Q
variable {o e:Expr} {es:List Expr} {to:TE} {t:TA} {name:Str} {apos cpos:Pos} {T id:String} {r:V->List V->Hp->VK->Prop}
theorem xZ (pa:PlainAttrs T) (slot:Slot T name id) (hty:typeOf (.builtin id)=pure (.type "method_descriptor")) (hm:vT X id r) (ho:PE X o to)
  (hbase:attributeBase o name X.env (eval o X.env)=eval o X.env:=by rfl) (hline:(apos.endLine == cpos.line)=true:=by rfl):PE X (.Call (.Attribute o name apos) [] [] cpos) (B4 X.K T r to):=by
 intro pins s σ H Q I h
 refine wpAny_Call_method0_late hbase hline (cI (ho pins s σ H _ I h) fun v s1 ⟨x,H1,I1,r1,ty,q1⟩=>?_)
 obtain ⟨h1,h2⟩:=Mw I1 r1 ty
 exact ⟨T,id,pa,slot,hty,h1,h2,Calls.callWith_builtin rfl (PySem.evalArgs_none (hm pins s1 σ H1 x [] v [] Q I1 r1 .nil q1))⟩
theorem pI (pa:PlainAttrs T) (slot:Slot T name id) (hty:typeOf (.builtin id)=pure (.type "method_descriptor")) (hm:vT X id r) (ho:PE X o to) (ha:PA X (e :: es) t)
  (hbase:attributeBase o name X.env (eval o X.env)=eval o X.env:=by rfl)
  (hfew:((backTo cpos (starEach (e :: es) X.env)).all (fun x=>!x.1) && (backToKw cpos (keywordEach [] X.env)).all (fun x=>x.1.isSome)
   && decide ((e :: es).length + ([]:List Keyword).length + (if ([]:List Keyword).isEmpty then 0 else 1) < 30))=true:=by rfl)
  (hline:(apos.endLine == cpos.line)=true:=by rfl) (hs:starEach (e :: es) X.env=(false,eval e X.env) :: starEach es X.env:=by rfl) (hplain:(backTo cpos (starEach es X.env)).any (·.1)=false:=by rfl) :
  PE X (.Call (.Attribute o name apos) (e :: es) [] cpos) (Jd X.K T r to t):=by
 intro pins s σ H Q I h
 refine wpAny_Call_method_late hbase hfew hline rfl (cI (ho pins s σ H _ I h) fun v s1 ⟨x,H1,I1,r1,ty,q1⟩=>?_)
 obtain ⟨h1,h2⟩:=Mw I1 r1 ty
 refine ⟨T,id,pa,slot,hty,h1,h2,?_⟩
 have hA:=ha cpos pins s1 σ H1 _ I1 q1
 rw [hs] at hA ⊢
 refine Calls.callWith_builtin (by show (false || (backTo cpos (starEach es X.env)).any (·.1))=false;rw [hplain] <;> rfl) (Calls.evalArgs_plain ?_)
 exact cI hA fun us s2 ⟨vs,H2,I2,r2,q2⟩=>hm pins s2 σ H2 x vs v us Q I2 r1 r2 q2
end
def Je (X:Cx) (id:String) (r:V->List V->Hp->VK->Prop):Prop :=
 ∀ (pins:List (Addr×Obj)) (s:Shared) (σ:St) (H:Hp) (x:V) (xs:List V) (v:Value) (us:List Value) (Q:VK),Inv X pins σ H s->RelV x v->Vals xs us->r x xs H Q ->
  wpAny (model X.prog X.w) X.A (call (.builtin id) (v :: us)) (EP X pins σ Q) X.xe s
theorem Vals.one:∀ {x:V} {us:List Value},Vals [x] us->∃ u,us=[u]/\RelV x u
 | _,_,.cons r .nil=>⟨_,rfl,r⟩
theorem Vals.zero:∀ {us:List Value},Vals [] us->us=[]
 | _,.nil=>rfl
theorem Vals.dropLast {xs:List V} {us:List Value} (h:Vals xs us):Vals xs.dropLast us.dropLast:=by
 induction h with
 | nil=>exact .nil
 | cons r t ih =>
  cases t with
  | nil=>exact .nil
  | cons q t'=>exact .cons r ih
theorem Vals.eraseIdx:∀ {xs:List V} {us:List Value} (i:Nat),Vals xs us->Vals (xs.eraseIdx i) (us.eraseIdx i)
 | _,_,_,.nil=>.nil
 | _,_,0,.cons _ t=>t
 | _,_,i + 1,.cons r t=>.cons r (Vals.eraseIdx i t)
theorem Vals.rep {xs:List V} {us:List Value} (h:Vals xs us):∀ k:Nat,Vals (List.replicate k xs).flatten (List.replicate k us).flatten
 | 0=>.nil
 | k + 1=>by
  rw [YT,YT,List.flatten_cons,List.flatten_cons]
  exact Vals.append h (Vals.rep h k)
theorem Qu {α:Type} (l:List α):l.eraseIdx (l.length - 1)=l.dropLast:=by
 induction l with
 | nil=>rfl
 | cons a r ih =>
  cases r with
  | nil=>rfl
  | cons b r =>
   have e:(a :: b :: r).length - 1=((b :: r).length - 1) + 1:=by
    have h1:(a :: b :: r).length=r.length + 2:=rfl
    have h2:(b :: r).length=r.length + 1:=rfl
    omega
   rw [e,List.eraseIdx_cons_succ,ih]
   all_goals rfl
theorem Mx {α:Type}:∀ (l:List α) (i:Nat),(l.eraseIdx i).length<=l.length
 | [],_=>Yd _
 | _ :: _,0=>Nat.le_succ _
 | _ :: r,i + 1=>Nat.succ_le_succ (Mx r i)
theorem Mz (its:List Value):∀ (k:Nat) (acc:List Value),
  List.foldl (fun x1 x2=>x1 ++ x2) acc.toArray (List.replicate k its.toArray)=(acc ++ (List.replicate k its).flatten).toArray
 | 0,acc=>by simp
 | k + 1,acc=>by
  have e:acc.toArray ++ its.toArray=(acc ++ its).toArray:=by simp
  have e2:(acc ++ its) ++ (List.replicate k its).flatten=acc ++ (List.replicate (k + 1) its).flatten:=by
   rw [YT,List.flatten_cons,List.append_assoc]
  rw [<- e2,<- Mz its k (acc ++ its),<- e,YT,List.foldl_cons]
section
variable {X:Cx} {pins:List (Addr×Obj)} {σ:St} {H:Hp} {s:Shared} {l b:Addr} {xs ys zs:List V}
theorem Inv.x3 {its its':List Value} {n:Nat} {f:Array Value->Array Value} {t':Nat} (I:Inv X pins σ H s) (hH:H l=some (.lst xs))
  (e:s.heap.get? l=some { cls:=.type "list",data:=.seq its.toArray n }) (hf:f its.toArray=its'.toArray) (hv:Vals ys its') (hz:ys.length<=sizeLine) :
  Inv X pins σ (upd H l (.lst ys)) { s with heap:=s.heap.update l (Obj.mapSeq f),toks:=t' }:=by
 have q:=PySem.IsL.update e f
 rw [hf] at q
 refine I.write (x:=l) (e:=l) (by rw [hH];exact trivial) (.inl rfl) (fun b' u hb hu=>(Y2 s.heap (Obj.mapSeq f) (Ne.symm hb)).trans hu) ⟨_,q⟩ ?_
 exact ⟨hz,its',_,hv,q⟩
theorem Inv.B5 {its:List Value} {t':Nat} (I:Inv X pins σ H s) (hv:Vals ys its) (hz:ys.length<=sizeLine) :
  Inv X pins σ (upd H s.heap.objs.size (.lst ys)) { s with heap:=s.heap.push { cls:=.type "list",data:=.seq its.toArray },toks:=t' } :=
 I.laid (fun _ _ q=>Yq _ q) (Yd _) ⟨hz,its,0,hv,Yy _ rfl⟩
theorem Inv.fresh (I:Inv X pins σ H s):H s.heap.objs.size=none:=I.hok.fresh (Yd _)
theorem Inv.rn (I:Inv X pins σ H s) (hH:H l=some (.lst xs)):xs.length<=sizeLine/\∃ (its:List Value) (n:Nat),Vals xs its/\xs.length=its.length/\s.heap.get? l=some { cls:=.type "list",data:=.seq its.toArray n }:=by
 obtain ⟨z,its,n,r,e⟩:=I.hok l _ hH
 exact ⟨z,its,n,r,r.length,e⟩
theorem sE {n:Nat} (h:n<=sizeLine):Builtin.List.listTooLong n=false:=by
 unfold Builtin.List.listTooLong
 exact decide_eq_false (by omega)
end
section
variable {X:Cx}
def qC:V->List V->Hp->VK->Prop:=fun x vs H Q=>∃ l xs y,x=.ref l/\vs=[y]/\H l=some (.lst xs)/\xs.length < sizeLine/\Q .non (upd H l (.lst (xs ++ [y])))
theorem qc:Je X "list.append" qC:=by
 intro pins s σ H x vs v us Q I rx rv h
 obtain ⟨l,xs,y,rfl,rfl,hH,hz,q⟩:=h
 cases rx
 obtain ⟨u,rfl,ru⟩:=rv.one
 obtain ⟨z,its,n,r,hl,e⟩:=I.rn hH
 refine call_meets F.slot_list_append ⟨_,e,rfl⟩ F.entry_list_append (F.args_list_append_2 _ _) (PySem.list_append l its.toArray n u (by rw [Yo];omega)) ⟨e,?_⟩
 refine ⟨.non,_,I.x3 (its':=its ++ [u]) hH e (by simp) (r.append (.cons ru .nil)) ?_,rfl,q⟩
 rw [Yc,Zc]
 omega
def B6:V->List V->Hp->VK->Prop:=fun x vs H Q=>∃ l xs y,x=.ref l/\vs=[]/\H l=some (.lst xs)/\xs[xs.length - 1]?=some y/\Q y (upd H l (.lst xs.dropLast))
theorem x4:Je X "list.pop" B6:=by
 intro pins s σ H x vs v us Q I rx rv h
 obtain ⟨l,xs,y,rfl,rfl,hH,hy,q⟩:=h
 cases rx
 have Qv:=rv.zero
 subst Qv
 obtain ⟨z,its,n,r,hl,e⟩:=I.rn hH
 obtain ⟨u,hu,ru⟩:=r.get hy
 have hy':its.toArray[its.toArray.size - 1]?=some u:=by
  show its.toArray[its.length - 1]?=some u
  rw [<- Array.getElem?_toList,<- hl]
  exact hu
 refine call_meets F.slot_list_pop ⟨_,e,rfl⟩ F.entry_list_pop (F.args_list_pop_1 _) (MeetsSeq.list_pop_last l its.toArray n u hy' (by rw [Yo];omega)) ⟨e,?_⟩
 refine ⟨y,_,I.x3 (its':=its.dropLast) hH e ?_ r.dropLast ?_,ru,q⟩
 ·show its.toArray.eraseIdxIfInBounds (its.toArray.size - 1)=its.dropLast.toArray
  rw [Yo,List.eraseIdxIfInBounds_toArray,Qu]
 ·rw [List.length_dropLast]
  omega
def sF:V->List V->Hp->VK->Prop:=fun x vs H Q=>∃ l xs i k y,x=.ref l/\vs=[.int i]/\H l=some (.lst xs)/\-(2 ^ 63)<=i/\i < 2 ^ 63/\seqIndex? i xs.length=some k/\xs[k]?=some y/\Q y (upd H l (.lst (xs.eraseIdx k)))
theorem Qw:Je X "list.pop" sF:=by
 intro pins s σ H x vs v us Q I rx rv h
 obtain ⟨l,xs,i,k,y,rfl,rfl,hH,h1,h2,hk,hy,q⟩:=h
 cases rx
 obtain ⟨u,rfl,ru⟩:=rv.one
 obtain ⟨t,rfl⟩:=ru
 obtain ⟨z,its,n,r,hl,e⟩:=I.rn hH
 obtain ⟨w,hw,rw'⟩:=r.get hy
 refine call_meets F.slot_list_pop ⟨_,e,rfl⟩ F.entry_list_pop (F.args_list_pop_2 _ _)
  (MeetsSeq.list_pop_at l its.toArray n i t k w (fitsIndex_both h1 h2) (by rw [Yo,<- hl];exact hk) (by rw [<- Array.getElem?_toList];exact hw) (by rw [Yo];omega)) ⟨e,?_⟩
 refine ⟨y,_,I.x3 (its':=its.eraseIdx k) hH e ?_ (r.eraseIdx k) ?_,rw',q⟩
 ·show its.toArray.eraseIdxIfInBounds k=(its.eraseIdx k).toArray
  rw [List.eraseIdxIfInBounds_toArray]
 ·have:=Mx xs k
  omega
def B7:R2:=fun x y H Q=>∃ l b xs zs,x=.ref l/\y=.ref b/\H l=some (.lst xs)/\H b=some (.lst zs)/\xs.length + zs.length<=sizeLine/\∀ p,H p=none->Q (.ref p) (upd H p (.lst (xs ++ zs)))
theorem vX:kH X (binaryOp .Add) B7:=by
 intro pins s σ H x y v u Q I rx ry h
 obtain ⟨l,b,xs,zs,rfl,rfl,hH,hB,hz,q⟩:=h
 cases rx
 cases ry
 obtain ⟨z,its,n,r,hl,e⟩:=I.rn hH
 obtain ⟨z2,its2,n2,r2,hl2,e2⟩:=I.rn hB
 refine PySem.P.add_list e e2 ?_ (by rw [Yo,Yo];omega)
 have ea:its.toArray ++ its2.toArray=(its ++ its2).toArray:=by simp
 rw [ea]
 exact ⟨.ref _,_,I.B5 (t':=s.toks) (r.append r2) (by rw [Yc];omega),rfl,q _ I.fresh⟩
def B8:R2:=fun x y H Q=>∃ l k xs,x=.ref l/\y=.int k/\H l=some (.lst xs)/\-(2 ^ 63)<=k/\k < 2 ^ 63/\xs.length * k.toNat<=sizeLine /\
 ∀ p,H p=none->Q (.ref p) (upd H p (.lst (List.replicate k.toNat xs).flatten))
theorem Qx {α:Type} (xs:List α) (k:Nat):(List.replicate k xs).flatten.length=k * xs.length:=by
 induction k with
 | zero=>simp
 | succ k ih=>rw [YT,List.flatten_cons,Yc,ih,Nat.succ_mul,Nat.add_comm]
theorem MA:kH X (binaryOp .Mult) B8:=by
 intro pins s σ H x y v u Q I rx ry h
 obtain ⟨l,k,xs,rfl,rfl,hH,h1,h2,hz,q⟩:=h
 cases rx
 obtain ⟨t,rfl⟩:=ry
 obtain ⟨z,its,n,r,hl,e⟩:=I.rn hH
 have hlen:its.toArray.size * k.toNat<=sizeLine:=by rw [Yo,<- hl];exact hz
 have hcap:¬ its.toArray.size * k.toNat > (2 ^ 63 - 1) / 8:=by
  have:(sizeLine:Nat)<=(2 ^ 63 - 1) / 8:=by decide
  omega
 have hfit:¬ (!Builtin.List.listFitsIndex k)=true:=by
  rw [fitsIndex_both h1 h2]
  exact Yh
 have B9:¬ Builtin.List.listTooLong (its.toArray.size * k.toNat)=true:=by
  rw [sE hlen]
  exact Yh
 have hnew:List.foldl (fun x1 x2=>x1 ++ x2) #[] (List.replicate (if its.toArray.isEmpty=true then 0 else k.toNat) its.toArray)=(List.replicate k.toNat its).flatten.toArray:=by
  have f0:∀ m:Nat,List.foldl (fun x1 x2=>x1 ++ x2) #[] (List.replicate m its.toArray)=(List.replicate m its).flatten.toArray:=fun m=>by
   have:=Mz its m []
   rw [List.nil_append] at this
   exact this
  rw [f0]
  cases its with
  | nil=>simp
  | cons a r'=>rw [if_neg (by simp)]
 refine wpAny_binaryOp_repeat_ref (T:="list") (U:="int") (by decide) ⟨_,e,rfl⟩ (fun s'=>typeIs_int s' k t) noFill_list_mul F.fills_int_mul F.slot_int_rmul repeat_list F.slot_int_index.lookup
  (call_meets F.slot_int_rmul (typeIs_int s k t) F.entry_int_rmul (F.args_int_rmul_2 _ _) (int___rmul___int_list k t l its.toArray n)
   ⟨e,rfl,⟨_,e,rfl⟩,call_meets F.slot_list_mul ⟨_,e,rfl⟩ F.entry_list_mul (F.args_list_mul_2 _ _) (AutoListH.list___mul___list_int_3 l its.toArray n k t hfit hcap B9) ⟨e,?_⟩⟩)
 rw [hnew]
 exact ⟨.ref _,_,I.B5 (t':=s.toks) (r.rep k.toNat) (by rw [Qx,Nat.mul_comm];exact hz),rfl,q _ I.fresh⟩
end
section
variable {prog:Program} {w:World} {A:Around} {E:Value->Shared->Prop} {s:Shared}
end
section
variable {X:Cx}
end
section
variable {κ:Type} [DecidableEq κ]
def kU (kvs:List (κ×V)) (k:κ):Option V:=(kvs.find? fun kv=>decide (kv.1=k)).map (·.2)
def putK (kvs:List (κ×V)) (k:κ) (v:V):List (κ×V) :=
 if (kvs.any fun kv=>decide (kv.1=k))=true then kvs.map (fun kv=>if kv.1=k then (kv.1,v) else kv) else kvs ++ [(k,v)]
theorem Jf {p:κ×V} {r:List (κ×V)} {k:κ} (e:p.1=k):kU (p :: r) k=some p.2:=by simp [kU,Y7,e]
theorem Jg {p:κ×V} {r:List (κ×V)} {k:κ} (e:¬ p.1=k):kU (p :: r) k=kU r k:=by simp [kU,Y7,e]
theorem MB (k:κ):∀ kvs:List (κ×V),(kvs.any fun kv=>decide (kv.1=k))=(kU kvs k).isSome
 | []=>rfl
 | p :: r=>by
  rw [Y5]
  by_cases e:p.1=k
  ·simp only [Jf e,decide_eq_true e,Bool.true_or,Option.isSome_some]
  ·rw [Jg e,decide_eq_false e,Bool.false_or];exact MB k r
theorem MC (kvs:List (κ×V)) (k:κ) (v:V):(putK kvs k v).length<=kvs.length + 1:=by
 unfold putK
 split
 ·rw [X9];omega
 ·rw [Yc,YE,List.length_nil];omega
theorem rh.mE {o:Option V} {u:Option Value} (r:rh o u):o.isSome=u.isSome:=by
 cases o with
 | none=>cases u with
  | none=>rfl
  | some _=>exact (show False from r).elim
 | some _=>cases u with
  | none=>exact (show False from r).elim
  | some _=>rfl
theorem KV.val {kvs:List (κ×V)} {vs:List (κ×Value)} (r:KV kvs vs) (k:κ):rh (kU kvs k) (valueAt vs k):=by
 unfold KV at r
 induction r with
 | nil=>exact True.intro
 | @cons p q ps qs h t ih =>
  obtain ⟨h1,h2⟩:=h
  by_cases e:p.1=k
  ·have e':q.1=k:=h1.symm.trans e
   have b:valueAt (q :: qs) k=some q.2:=by simp [valueAt,Y7,e']
   rw [Jf e,b];exact h2
  ·have e':¬ q.1=k:=fun z=>e (h1.trans z)
   have b:valueAt (q :: qs) k=valueAt qs k:=by simp [valueAt,Y7,e']
   rw [Jg e,b];exact ih
theorem KV.any {kvs:List (κ×V)} {vs:List (κ×Value)} (r:KV kvs vs) (k:κ):(kvs.any fun kv=>decide (kv.1=k))=vs.any fun kv=>decide (kv.1=k):=by
 unfold KV at r
 induction r with
 | nil=>rfl
 | cons h t ih=>rw [Y5,Y5,ih,h.1]
theorem KV.repl {kvs:List (κ×V)} {vs:List (κ×Value)} (r:KV kvs vs) (k:κ) {y:V} {u:Value} (ry:RelV y u) :
  KV (kvs.map fun kv=>if kv.1=k then (kv.1,y) else kv) (vs.map fun kv=>if kv.1=k then (kv.1,u) else kv):=by
 unfold KV at r ⊢
 induction r with
 | nil=>exact .nil
 | @cons p q ps qs h t ih =>
  rw [Yu,Yu]
  refine .cons ?_ ih
  obtain ⟨h1,h2⟩:=h
  by_cases e:p.1=k
  ·rw [if_pos e,if_pos (h1.symm.trans e)];exact ⟨h1,ry⟩
  ·rw [if_neg e,if_neg (fun z=>e (h1.trans z))];exact ⟨h1,h2⟩
theorem KV.put {kvs:List (κ×V)} {vs:List (κ×Value)} (r:KV kvs vs) (k:κ) {y:V} {u:Value} (ry:RelV y u):KV (putK kvs k y) (stored vs k u):=by
 unfold putK stored
 rw [r.any k]
 by_cases e:(vs.any fun kv=>decide (kv.1=k))=true
 ·rw [if_pos e,if_pos e];exact r.repl k ry
 ·rw [if_neg e,if_neg e];exact Paired.snoc r ⟨rfl,ry⟩
theorem KV.length {kvs:List (κ×V)} {vs:List (κ×Value)} (r:KV kvs vs):kvs.length=vs.length:=Paired.length r
end
theorem Jh {P:Program} {w:World} {k:Key} {u:Value} (r:RelV (kV k) u):(cT P w).is k u=true:=by
 cases k with
 | inl i=>obtain ⟨t,e⟩:=(show ∃ t,u=Value.int i t from r);subst e;exact PL P w i t
 | inr x=>obtain ⟨t,e⟩:=(show ∃ t,u=Value.str x t from r);subst e;exact PN P w x t
theorem MD {P:Program} {w:World}:∀ {ks:List Key} {us:List Value},Vals (ks.map kV) us->ItemsAre (cT P w) ks us
 | [],_,r=>by rw [YM] at r;cases r;exact .nil
 | k :: ks,_,r=>by
  rw [Yu] at r
  cases r with
  | cons h t=>exact .cons (Jh h) (MD t)
abbrev KT (H:Hp):List (List Key×V)->List (List Key×Addr×Value)->Prop:=Paired fun p q=>p.1=q.1/\H q.2.1=some (.tup (p.1.map kV))/\RelV p.2 q.2.2
theorem KT.val {H:Hp} {kvs:List (List Key×V)} {xs:List (List Key×Addr×Value)} (r:KT H kvs xs) (k:List Key):rh (kU kvs k) ((atKey xs k).map (·.2)):=by
 induction r with
 | nil=>exact True.intro
 | @cons p q ps qs h t ih =>
  obtain ⟨h1,_,h2⟩:=h
  by_cases e:p.1=k
  ·have e':q.1=k:=h1.symm.trans e
   have b:atKey (q :: qs) k=some q.2:=by simp [atKey,Y7,e']
   rw [Jf e,b];exact h2
  ·have e':¬ q.1=k:=fun z=>e (h1.trans z)
   have b:atKey (q :: qs) k=atKey qs k:=by simp [atKey,Y7,e']
   rw [Jg e,b];exact ih
theorem KT.repl {H:Hp} {kvs:List (List Key×V)} {xs:List (List Key×Addr×Value)} (r:KT H kvs xs) (k:List Key) {y:V} {u:Value} (ry:RelV y u) :
  KT H (kvs.map fun kv=>if kv.1=k then (kv.1,y) else kv) (xs.map (putAt k u)):=by
 induction r with
 | nil=>exact .nil
 | @cons p q ps qs h t ih =>
  rw [Yu,Yu]
  refine .cons ?_ ih
  obtain ⟨h1,h2,h3⟩:=h
  unfold putAt
  by_cases e:p.1=k
  ·rw [if_pos e,if_pos (h1.symm.trans e)];exact ⟨h1,h2,ry⟩
  ·rw [if_neg e,if_neg (fun z=>e (h1.trans z))];exact ⟨h1,h2,h3⟩
theorem KT.put {H:Hp} {kvs:List (List Key×V)} {xs:List (List Key×Addr×Value)} (r:KT H kvs xs) (k:List Key) {b:Addr} {y:V} {u:Value} (hb:H b=some (.tup (k.map kV))) (ry:RelV y u) :
  KT H (putK kvs k y) (storedH xs k b u):=by
 have e:(kvs.any fun kv=>decide (kv.1=k))=(atKey xs k).isSome:=by
  rw [MB,(r.val k).mE,Option.isSome_map]
 unfold putK storedH
 rw [e]
 by_cases q:(atKey xs k).isSome=true
 ·rw [if_pos q,if_pos q];exact r.repl k ry
 ·rw [if_neg q,if_neg q];exact Paired.snoc r ⟨rfl,hb,ry⟩
theorem KT.keeps {H H':Hp} {kvs:List (List Key×V)} {xs:List (List Key×Addr×Value)} (r:KT H kvs xs) (ht:∀ b ys,H b=some (.tup ys)->H' b=some (.tup ys)):KT H' kvs xs :=
 Paired.xC r fun _ _ z=>⟨z.1,ht _ _ z.2.1,z.2.2⟩
section
variable {P:Program} {w:World} {H:Hp} {h:Heap} {a:Addr}
theorem vY {u:HO} (ok:lR P w H h) (e:Rd H a u):cf P w H h a u:=e.ok ok
theorem vZ {kvs:List (Key×V)} (ok:lR P w H h) (e:Rd H a (.dK kvs)):kvs.length<=sizeLine/\(a == sysModules)=false/\∃ vs,KV kvs vs/\h.DictOf (cT P w) a vs :=
 show cf P w H h a (.dK kvs) from vY ok e
theorem Ca {kvs:List (Key×V)} (ok:lR P w H h) (e:H a=some (.dK kvs)):kvs.length<=sizeLine/\(a == sysModules)=false/\∃ vs,KV kvs vs/\h.DictOf (cT P w) a vs:=vZ ok (.inl e)
theorem Ax {ks:List Key} (ok:lR P w H h) (e:H a=some (.tup (ks.map kV))):(tupleKind (cT P w)).is h ks a:=by
 obtain ⟨_,its,r,o,h1,h2,_,n,h3⟩:=(show cf P w H h a (.tup (ks.map kV)) from ok a _ e)
 exact ⟨o,its.toArray,n,h1,h2,h3,by simpa using MD r⟩
theorem wb {kvs:List (List Key×V)} (ok:lR P w H h) (e:Rd H a (.dT kvs)):kvs.length<=sizeLine/\(a == sysModules)=false /\
  ∃ xs,KT H kvs xs/\h.DictOfH (tupleKind (cT P w)) a xs:=by
 obtain ⟨z,y,xs,r,o,es,ep,h1,h2,h3,h4,h5⟩:=(show cf P w H h a (.dT kvs) from vY ok e)
 refine ⟨z,y,xs,r,o,es,ep,h1,h2,h3,h4,fun x hx=>?_,h5⟩
 have all:∀ {l:List (List Key×V)} {m:List (List Key×Addr×Value)},KT H l m->∀ x∈m,(tupleKind (cT P w)).is h x.1 x.2.1:=by
  intro l m q
  induction q with
  | nil=>intro x hx;exact nomatch hx
  | @cons p q ps qs hq t ih =>
   intro x hx
   rcases YC.mp hx with e | hx
   ·subst e
    exact Ax ok (by rw [<- hq.1];exact hq.2.1)
   ·exact ih x hx
 exact all r x hx
theorem Cb {kvs:List (List Key×V)} (ok:lR P w H h) (e:H a=some (.dT kvs)):kvs.length<=sizeLine/\(a == sysModules)=false /\
  ∃ xs,KT H kvs xs/\h.DictOfH (tupleKind (cT P w)) a xs:=wb ok (.inl e)
end
def sG (H:Hp) (a:Addr) (y:V) (r:Option V):Prop :=
 (∃ kvs k,Rd H a (.dK kvs)/\y=kV k/\r=kU kvs k)\/∃ kvs k b,Rd H a (.dT kvs)/\y=.ref b/\H b=some (.tup (k.map kV))/\r=kU kvs k
def sH (H:Hp) (a:Addr) (y v:V) (H':Hp):Prop :=
 (∃ kvs k,H a=some (.dK kvs)/\y=kV k/\kvs.length < sizeLine/\H'=upd H a (.dK (putK kvs k v))) \/
 ∃ kvs k b,H a=some (.dT kvs)/\y=.ref b/\H b=some (.tup (k.map kV))/\kvs.length < sizeLine/\H'=upd H a (.dT (putK kvs k v))
theorem sG.k {H:Hp} {a:Addr} {kvs:List (Key×V)} {k:Key} (e:H a=some (.dK kvs)):sG H a (kV k) (kU kvs k):=.inl ⟨kvs,k,.inl e,rfl,rfl⟩
theorem sH.k {H:Hp} {a:Addr} {kvs:List (Key×V)} {k:Key} {v:V} (e:H a=some (.dK kvs)) (hl:kvs.length < sizeLine):sH H a (kV k) v (upd H a (.dK (putK kvs k v))):=.inl ⟨kvs,k,e,rfl,hl,rfl⟩
section
variable {X:Cx} {pins:List (Addr×Obj)} {σ:St} {H:Hp} {s:Shared} {a:Addr} {y v:V} {u r:Value} {o:Option V} {A:Around} {E:Value->Shared->Prop}
theorem Inv.big (I:Inv X pins σ H s):sysModules < s.heap.objs.size:=by
 have h:mainGlobals < s.heap.objs.size:=(I.mod.glob.keeps I.bk).lt
 exact Nat.lt_trans (by decide) h
theorem Qy {Q:Value->Shared->Prop} (hu:A.units + 1 < cLine) (I:Inv X pins σ H s) (g:sG H a y o) (ry:RelV y u) (h:∀ s',Inv X pins σ H s'->Q (.bool (!o.isSome)) s') :
  wpAny (model X.prog X.w) A (compareOp .NotIn u (.ref a)) Q E s:=by
 rcases g with ⟨kvs,k,e,ey,l⟩ | ⟨kvs,k,b,e,ey,eb,l⟩
 ·subst ey
  obtain ⟨z,hd,vs,rel,dd⟩:=vZ I.hok e
  refine wpAny_notIn_of (Jh ry) hd dd.mapOf ?_
  rw [<- (rel.val k).mE,<- l]
  exact h _ (I.tok _)
 ·subst ey
  cases (show u=Value.ref b from ry)
  obtain ⟨z,hd,xs,rel,dd⟩:=wb I.hok e
  refine wpAny_notIn_heap (tupleKind_room_in1 hu) (Ax I.hok eb) hd dd ?_
  have q:=(rel.val k).mE
  rw [Option.isSome_map] at q
  rw [<- q,<- l]
  exact h _ (I.tok _)
theorem ME {h':Heap} {t':Nat} {ob:HO} (I:Inv X pins σ H s) (mu:Bs (H a)) (hs:Heap.SameBut a s.heap h') (he:∃ q,h'.get? a=some q) (new:cf X.prog X.w (upd H a ob) h' a ob) :
  Inv X pins σ (upd H a ob) { s with heap:=h',toks:=t' } :=
 I.write (x:=a) (e:=a) mu (.inl rfl) (fun b q hb z=>(hs.2 b hb).trans z) he new
theorem x5 {P:Program} {w:World} {H':Hp} {h':Heap} {kvs:List (Key×V)} {vs:List (Key×Value)} (z:kvs.length<=sizeLine) (hd:(a == sysModules)=false) (rel:KV kvs vs) (dd:h'.DictOf (cT P w) a vs) :
  cf P w H' h' a (.dK kvs):=⟨z,hd,vs,rel,dd⟩
theorem Qz {H':Hp} {Q:Unit->Shared->Prop} (hu:A.units + 1 < cLine) (I:Inv X pins σ H s) (g:sH H a y v H') (ry:RelV y u) (rv:RelV v r) (h:∀ s',Inv X pins σ H' s'->Q () s') :
  wpAny (model X.prog X.w) A (setItem (.ref a) u r) Q E s:=by
 rcases g with ⟨kvs,k,e,ey,l,eH⟩ | ⟨kvs,k,b,e,ey,eb,l,eH⟩
 ·subst ey eH
  obtain ⟨z,hd,vs,rel,dd⟩:=Ca I.hok e
  have hz:vs.length<=sizeLine:=by rw [<- rel.length];exact z
  have hl:(putK kvs k v).length<=sizeLine:=by have:=MC kvs k v;omega
  refine wpAny_setItem_pairs (hsz:=hz) (Jh ry) dd fun h' FR hs=>h _ ?_
  have he:∃ q,h'.get? a=some q:=let ⟨q,_,_,hq,_⟩:=FR;⟨q,hq⟩
  exact ME I (by rw [e];exact True.intro) hs he (x5 hl hd (rel.put k rv) FR)
 ·subst ey eH
  cases (show u=Value.ref b from ry)
  obtain ⟨z,hd,xs,rel,dd⟩:=Cb I.hok e
  have hz:xs.length<=sizeLine:=by rw [<- Paired.length rel];exact z
  have hl:(putK kvs k v).length<=sizeLine:=by have:=MC kvs k v;omega
  refine wpAny_setItem_heap (hsz:=hz) (tupleKind_room_in1 hu) (Ax I.hok eb) dd fun h' FR hs=>h _ ?_
  obtain ⟨q,es,ep,hq,h2,h3,h4,_,h5⟩:=FR
  refine ME I (by rw [e];exact True.intro) hs ⟨q,hq⟩ ⟨hl,hd,_,(rel.put k eb rv).keeps fun c ys ec=>?_,q,es,ep,hq,h2,h3,h4,h5⟩
  rw [kd (Ir ec e (fun z=>nomatch z))]
  exact ec
end
section
variable {X:Cx} {pins:List (Addr×Obj)} {σ:St} {H:Hp} {s:Shared} {a:Addr} {kvs:List (Key×V)} {k:Key} {u:Value} {A:Around} {E:Value->Shared->Prop}
end
def qD (ty td:TE):TE:=fun σ H Q=>ty σ H fun y H1=>td σ H1 fun x H2=>∃ a o,x=.ref a/\sG H2 a y o/\Q (.bl (!o.isSome)) H2
def wc (td ty tv:TE):TS:=fun D σ H=>tv σ H fun v H1=>td σ H1 fun x H2=>ty σ H2 fun y H3=>∃ a H4,x=.ref a/\sH H3 a y v H4/\D.nx σ H4
section
variable {X:Cx} {o i e value:Expr} {pos pos' tpos:Pos} {td ty tv:TE}
theorem QA (hu:X.A.units + 1 < cLine) (hi:PE X i ty) (ho:PE X o td):PC X .NotIn i o (qD ty td):=by
 intro pins s σ H Q I h
 refine cI (hi pins s σ H _ I h) fun iv s1 ⟨y,H1,I1,ry,q1⟩=>cI (ho pins s1 σ H1 _ I1 q1) fun u s2 ⟨x,H2,I2,rx,a,ov,ex,g,q2⟩=>?_
 subst ex
 obtain rfl:u=Value.ref a:=rx
 exact Qy hu I2 g ry fun s3 I3=>⟨.bl (!ov.isSome),H2,I3,rfl,q2⟩
theorem QB (hu:X.A.units + 1 < cLine) (ho:PE X o td) (hi:PE X i ty) (hv:PE X value tv) (hs:swapsWith value (some (.Subscript o i pos')) pos.line X.env=pure false) :
  PS X (.Assign [.Subscript o i pos'] value pos) (wc td ty tv):=by
 intro pins s σ H D I h
 refine wpAny_Assign_Subscript (cI (hv pins s σ H _ I h) fun r s1 ⟨v,H1,I1,rv,q1⟩=>cI (ho pins s1 σ H1 _ I1 q1) fun u s2 ⟨x,H2,I2,rx,q2⟩=>cI (hi pins s2 σ H2 _ I2 q2) fun iv s3 ⟨y,H3,I3,ry,a,H4,ex,g,q3⟩=>?_) hs
 subst ex
 obtain rfl:u=Value.ref a:=rx
 exact Qz hu I3 g ry rv fun s4 I4=>⟨σ,H4,I4,q3⟩
end
theorem QC {P:Program} {w:World} {H:Hp} (h:Heap) (hb:sysModules < h.objs.size):cf P w H (h.push { cls:=.type "dict",data:=.dict #[] }) h.objs.size (.dK []) :=
 ⟨YN _,beq_eq_false_iff_ne.mpr (Ne.symm (YQ hb)),[],.nil,Heap.DictOf.new h⟩
def sI:TE:=fun _ H Q=>∀ p,H p=none->Q (.ref p) (upd H p (.dK []))
section
variable {X:Cx} {pos:Pos}
theorem QD:PE X (.Dict [] [] pos) sI:=fun pins s σ H Q I h =>
 wpAny_Dict_empty ⟨.ref s.heap.objs.size,_,I.laid (a:=s.heap.objs.size) (o:=.dK []) (t':=s.toks) (fun _ _ q=>Yq _ q) (Yd _) (QC s.heap I.big),rfl,h _ (I.hok.fresh (Yd _))⟩
end
section
variable {X:Cx} {pins:List (Addr×Obj)} {σ:St} {H:Hp} {s:Shared} {a:Addr} {y d:V} {u r:Value} {o:Option V} {A:Around} {E:Value->Shared->Prop}
end
section
variable {X:Cx} {o e f:Expr} {apos cpos:Pos} {td ty tx:TE}
end
section
variable {X:Cx} {pins:List (Addr×Obj)} {σ:St} {H:Hp} {s:Shared} {a:Addr} {kvs:List (Key×V)} {A:Around} {E:Value->Shared->Prop}
end
section
variable {X:Cx} {pins:List (Addr×Obj)} {σ:St} {H:Hp} {s:Shared} {a:Addr} {y:V} {u:Value} {A:Around} {E:Value->Shared->Prop}
end
end L2
namespace MF
open PySem PySem.W PySem.Calls PyProof.Rows
theorem QE {P:Params} {h:Heap}:∀ (ns:List Int) (vs:List Value),WellAll P h vs (ns.map WData.int)->IntsAre vs ns:=by
 intro ns
 induction ns with
 | nil =>
  intro vs w
  rw [YM] at w
  cases w
  exact .nil
 | cons n ns ih =>
  intro vs w
  rw [Yu] at w
  cases w with
  | cons a b =>
   cases a
   exact .cons _ _ (ih _ b)
theorem QF {l:OpenLaw} {n:Nat} (hn:l.most=some n) {P:Params} {h:Heap} {args:List WData} {vals:List Value}
  (hpre:l.row.toRowW.claim.pre args=true) (hwl:WellAll P h vals args) :
  ∃ a vs ns,vals=[Value.ref a]/\args=[WData.list (ns.map WData.int)]/\h.get? a=some { cls:=.type "list",data:=.seq vs.toArray }/\IntsAre vs ns/\ns.length<=n:=by
 have hsh:WShape.hasAll [] args [.list .int]=true:=(pre_splitW hpre).1
 have hc:l.pre.holds [] { args:=args }=true:=(pre_splitW hpre).2
 obtain ⟨d,r,rfl,h1,h2⟩:=hasAllW_cons hsh
 obtain rfl:=hasAllW_nil h2
 obtain ⟨xs,rfl,h3⟩:=hasW_list h1
 obtain ⟨ns,rfl⟩:=items_int h3
 have hlen:ns.length<=n:=by
  unfold OpenLaw.pre at hc
  have h4:(WTm.not (.lt (.lit (.int (n:Int))) (.len (.arg 0)))).holds [] { args:=[.list (ns.map .int)] }=true:=by
   have h4:=(holds_andW hc).1
   rw [hn] at h4
   exact h4
  have h5:=condW_of h4 (w_not (w_lt w_lit (w_len_list (w_arg rfl))))
  rw [X9] at h5
  refine Nat.le_of_not_lt fun q=>?_
  have q':(n:Int) < ((ns.length:Nat):Int):=by omega
  first
   | (rw [decide_eq_true q'] at h5;exact absurd h5 (by decide))
   | (simp at h5;omega)
 cases hwl with
 | cons w1 w2 =>
  cases w2
  cases w1 with
  | list ho hall=>exact ⟨_,_,ns,rfl,rfl,ho,QE ns _ hall,hlen⟩
theorem QG (l:OpenLaw) (args:List WData):l.row.toRowW.claim.post args (.bool true) args=true :=
 postW_of (r:=l.row.toRowW) (X:=(true == true))
  (show WShape.has [] (.bool true) .bool=true by first | rfl | decide | simp [WShape.has,WShape.arms,WShape.armsAll])
  (show (WTm.eq .res (.lit (.bool true))).value [] { args:=args,res:=some (.bool true),after:=args }=some (.bool (true == true)) from w_eq_bool (w_res rfl) w_lit) rfl
theorem QH {l:OpenLaw} {n:Nat} {q:Program} {loose:List Str} {XP:(Str->Option Value)->Heap->Prop} {YP:World->Heap->Prop} {d:DefRec}
  (hn:l.most=some n) (hdf:d.params.defaults=[])
  (call:∀ (w:World) (s₀ s₁:Shared) (mg mb:Str->Option Value) (fa:Addr) (o:Obj) (pm cd doc:Value) (a:Addr) (vs:List Value) (ns:List Int),
   Ground q loose [] XP w s₀ mg mb s₁.heap->YP w s₁.heap ->
   s₁.heap.get? fa=some o->o.data=.func (docDef d.name d.params d.body d.scope pm cd doc)->s₁.heap.CodeRec cd d.name->mg d.name=some (.ref fa) ->
   s₁.heap.get? a=some { cls:=.type "list",data:=.seq vs.toArray }->IntsAre vs ns->ns.length<=n->s₁.gens=#[] ->
   codeAny (model l.prog w) callerA (.call (.ref fa) ⟨[.ref a],[]⟩) (fun r s'=>r=.ok (.ret (.bool true))/\OldK s₁.heap s'.heap/\s'.os=s₁.os/\AllBare s'.gens) s₁) :
  WalkO q loose XP YP l.row.toRowW d [] (fun f vs=>PySem.call f vs):=by
 intro w s₀ s₁ mg mb G Y fa o pm cd doc dV kV ho hd hcd hD hmg hg args vals as hpre hlay hrd hwl hlo
 obtain rfl:dV=.none:=Dflts.none hD hdf
 obtain rfl:kV=.none:=Dflts.noKw hD
 obtain ⟨a,vs,ns,rfl,rfl,hobj,hints,hlen⟩:=QF hn hpre hwl
 refine enter_call (codeAny_mono (call w s₀ s₁ mg mb fa o pm cd doc a vs ns G Y ho (fd_plain hd) hcd hmg hobj hints hlen hg) fun r s' hq=>?_)
 obtain ⟨rfl,h2,h3,h4⟩:=hq
 exact ⟨.inl ⟨.bool true,.bool true,[],rfl,fun _=>rfl,.bool true,QG l _,fun _=>⟨List.Pairwise.nil,fun _ hm=>(nomatch hm)⟩⟩,h2,h3,h4⟩
section
variable {prog:Program} {w:World} {A:Around} {E:Value->Shared->Prop} {s:Shared} {K:Frag}
end
end MF
namespace L2
open PySem PySem.Spec PyProof.Rows
theorem MG:∀ {vs:List Value} {ns:List Int},IntsAre vs ns->Vals (ns.map V.int) vs
 | _,_,.nil=>.nil
 | _,_,.cons n t h=>.cons ⟨t,rfl⟩ (MG h)
def Only (H:Hp):Prop:=∀ b,H b=none\/∃ o xs,H b=some (.nL o (.lst xs))
theorem QI {P:Program} {w:World} {K:Zfr} {mg mb:Str->Option Value} {CX:rm} {k:Nat} {fa a:Addr} {fd:FuncData} {x:Str} {sp:Sp} {s₁:Shared} {vs:List Value} {ns:List Int}
  (KX:K.In s₁.heap) (hns:s₁.heap.Ns mainGlobals mg) (hb:s₁.heap.Ns builtinsNs mb) (QJ:∀ x:Str,x≠"__name__" -> mb x=bootBuiltins x) (hlim:s₁.heap.NoLimit) (hg:s₁.gens=#[])
  (ha:s₁.heap.get? a=some { cls:=.type "list",data:=.seq vs.toArray }) (hi:IntsAre vs ns) (hl:ns.length<=sizeLine) (hr:ie k callerA)
  (F:∀ base:Heap,K.In base->base.Ns mainGlobals mg->aC P w K mg base CX k fa fd [x] sp) (hbind:∀ (s:Shared) (u:Value),BindsTo s fd ⟨[u],[]⟩ [(x,u)])
  (uf:∀ H:Hp,Only H->iy K H a (ns.map V.int)->sp [.ref a] H (fun v _=>v=.bl true) fun _ _ _=>False)
  (Cc:∀ H e s',CX [] H s₁ (fun _ _ _=>False) e s'->False) :
  codeAny (model P w) callerA (.call (.ref fa) ⟨[.ref a],[]⟩) (fun r s'=>r=.ok (.ret (.bool true))/\OldK s₁.heap s'.heap/\s'.os=s₁.os/\AllBare s'.gens) s₁:=by
 have rv:=MG hi
 have Ji:=hi.length
 have core:∀ H:Hp,Only H->iy K H a (ns.map V.int)->lR P w H s₁.heap->(∀ b,H b≠none->b=a)->(H a≠none->K.lookup a=none) ->
   codeAny (model P w) callerA (.call (.ref fa) ⟨[.ref a],[]⟩) (fun r s'=>r=.ok (.ret (.bool true))/\OldK s₁.heap s'.heap/\s'.os=s₁.os/\AllBare s'.gens) s₁:=by
  intro H hO hS hok hA hK
  have qE:∀ {b:Addr} {o:Obj},s₁.heap.get? b=some o->H b=none->(oU s₁.heap H).get? b=some o:=fun e n=>PU e n
  have BZ:∀ {b:Addr} {o:Obj} {es:Array DictEntry} {ep:Nat},s₁.heap.get? b=some o->o.data=.dict es ep->H b=none:=fun {b o es ep} e d=>by
   cases q:H b with
   | none=>rfl
   | some u =>
    have e':b=a:=hA b (by rw [q];simp)
    subst e'
    rw [ha] at e;cases e
    have d':Data.seq vs.toArray _=Data.dict es ep:=d
    cases d'
  have FT:∀ {b:Addr} {m:Str->Option Value},s₁.heap.Ns b m->(oU s₁.heap H).Ns b m:=fun {b m} ⟨o,es,ep,e,d,r⟩=>⟨o,es,ep,qE e (BZ e d),d,r⟩
  have MH:K.In (oU s₁.heap H):=fun b o e=>qE (KX b o e) (by
   cases q:H b with
   | none=>rfl
   | some u =>
    have e':b=a:=hA b (by rw [q];simp)
    subst e'
    rw [hK (by rw [q];simp)] at e;cases e)
  have hM:Mod K mg (oU s₁.heap H):=⟨MH,FT hns,⟨mb,FT hb,QJ⟩,let ⟨mc,h1,h2⟩:=hlim;⟨mc,FT h1,h2⟩⟩
  have e0:uJ P w K mg (oU s₁.heap H) callerA [] s₁ H:=⟨rfl,hM,fun b o e=>PV e,Nat.le_of_eq (PR _ _),trivial,fun b hb=>absurd (show b∈([]:List Addr) from hb) (by simp),hok,.of_eq hg⟩
  refine codeAny_mono ((F _ MH (FT hns)).run callerA [] s₁ H ⟨[.ref a],[]⟩ [.ref a] [.ref a] _ _ hr e0 (hbind s₁ (.ref a)) (.cons rfl .nil) (uf H hO hS)) fun r s' h=>?_
  cases r with
  | error e=>exact (Cc H e s' h).elim
  | ok fl =>
   cases fl with
   | next=>exact False.elim h
   | brk=>exact False.elim h
   | cont=>exact False.elim h
   | ret u =>
    obtain ⟨v,H',os,bare,un,Jj,r',q⟩:=h
    have q':v=.bl true:=q
    subst q'
    obtain rfl:u=Value.bool true:=r'
    refine ⟨rfl,OldK.of_keep fun b o e=>?_,os,bare⟩
    cases q:H b with
    | none=>exact un.keep b o e q (by intro z;exact absurd (show b∈([]:List Addr) from z) (by simp)) (by simp)
    | some u =>
     rcases hO b with z | ⟨ob,xs,z⟩
     ·rw [q] at z;cases z
     ·have z2:=un.oT b ob _ z
      obtain ⟨e1,_⟩:=hok b _ z
      obtain ⟨e2,_⟩:=Jj b _ z2
      rw [e] at e1;cases e1
      exact e2
 cases hk:K.lookup a with
 | some o =>
  have e:=KX a o hk
  rw [ha] at e
  cases e
  refine core (fun _=>none) (fun _=>.inl rfl) (.inr ⟨_,vs.toArray,_,hk,rfl,rfl,rfl,by rw [Yo,Ji];exact hl,by simpa using rv⟩) (fun b u z=>by have z':(none:Option HO)=some u:=z;cases z') (fun b z=>absurd rfl z) fun z=>absurd rfl z
 | none =>
  refine core (fun b=>if b=a then some (.nL { cls:=.type "list",data:=.seq vs.toArray } (.lst (ns.map V.int))) else none) (fun b=>?_) (.inl (.inr ⟨{ cls:=.type "list",data:=.seq vs.toArray },if_pos rfl⟩)) (fun b u z=>?_) (fun b z=>?_) fun _=>hk
  ·by_cases hb:b=a
   ·exact .inr ⟨_,_,if_pos hb⟩
   ·exact .inl (if_neg hb)
  ·by_cases hb:b=a
   ·have z':=(if_pos hb).symm.trans z
    cases z'
    subst hb
    exact ⟨ha,by rw [X9];exact hl,vs,_,rv,ha⟩
   ·have z':=(if_neg hb).symm.trans z
    cases z'
  ·by_cases hb:b=a
   ·exact hb
   ·exact absurd (if_neg hb) z
abbrev KOf {K:Zfr} {h:Heap} (_:K.In h):Zfr:=K
theorem QK {l:PySem.W.OpenLaw} {n k:Nat} {q:Program} {loose:List Str} {XP:(Str->Option Value)->Heap->Prop} {YP:World->Heap->Prop} {d:DefRec} {K:Params->Zfr} {CX:World->rm} {sp:World->Sp} {x:Str}
  (hn:l.most=some n) (hn2:n<=sizeLine) (hdf:d.params.defaults=[]) (hr:ie k callerA)
  (hY:∀ (w:World) (h:Heap),YP w h->(K w.params).In h)
  (F:∀ (w:World) (mg:Str->Option Value) (fa:Addr) (h:Heap),(K w.params).In h->h.Ns mainGlobals mg->mg d.name=some (.ref fa) ->
   ∃ fd:FuncData,(∀ (s:Shared) (u:Value),BindsTo s fd ⟨[u],[]⟩ [(x,u)]) /\
    ∀ base:Heap,(K w.params).In base->base.Ns mainGlobals mg->aC l.prog w (K w.params) mg base (CX w) k fa fd [x] (sp w))
  (uf:∀ (w:World) (H:Hp) (a:Addr) (ns:List Int),ns.length<=n->Only H->iy (K w.params) H a (ns.map V.int)->sp w [.ref a] H (fun v _=>v=.bl true) fun _ _ _=>False)
  (Cc:∀ (w:World) (H:Hp) (s:Shared) (e:Value) (s':Shared),CX w [] H s (fun _ _ _=>False) e s'->False) :
  PySem.W.WalkO q loose XP YP l.row.toRowW d [] (fun f vs=>PySem.call f vs):=by
 refine MF.QH hn hdf fun w s₀ s₁ mg mb fa o pm cd doc a vs ns G Y ho hd hcd hmg hobj hints hlen hg=>?_
 have KX:=hY w _ Y
 obtain ⟨fd,hb,hF⟩:=F w mg fa _ KX G.T.g hmg
 exact QI KX G.T.g G.T.b G.T.builtins G.T.nolimit hg hobj hints (Yv hlen hn2) hr hF hb (fun H hO hS=>uf w H a ns hlen hO hS) fun H e s'=>Cc w H s₁ e s'
theorem QL {l:PySem.W.OpenLaw} {n k:Nat} {q:Program} {loose:List Str} {XP:(Str->Option Value)->Heap->Prop} {YP:World->Heap->Prop} {d:DefRec} {K:Params->Zfr} {CX:rm} {sp:Zfr->Sp} {x:Str}
  (hn:l.most=some n) (hn2:n<=sizeLine) (hdf:d.params.defaults=[]) (hr:ie k callerA)
  (hY:∀ (w:World) (h:Heap),YP w h->(K w.params).In h)
  (F:∀ (w:World) (mg:Str->Option Value) (fa:Addr) (h:Heap),(K w.params).In h->h.Ns mainGlobals mg->mg d.name=some (.ref fa) ->
   ∃ fd:FuncData,(∀ (s:Shared) (u:Value),BindsTo s fd ⟨[u],[]⟩ [(x,u)]) /\
    ∀ base:Heap,(K w.params).In base->base.Ns mainGlobals mg->aC l.prog w (K w.params) mg base CX k fa fd [x] (sp (K w.params)))
  (uf:∀ (K:Zfr) (H:Hp) (a:Addr) (ns:List Int),ns.length<=n->Only H->iy K H a (ns.map V.int)->sp K [.ref a] H (fun v _=>v=.bl true) fun _ _ _=>False)
  (Cc:∀ (H:Hp) (s:Shared) (e:Value) (s':Shared),CX [] H s (fun _ _ _=>False) e s'->False) :
  PySem.W.WalkO q loose XP YP l.row.toRowW d [] (fun f vs=>PySem.call f vs) :=
 QK (K:=K) (CX:=fun _=>CX) (sp:=fun w=>sp (K w.params)) hn hn2 hdf hr hY F (fun w H a ns h1 h2 h3=>uf (K w.params) H a ns h1 h2 h3) fun _ H s e s'=>Cc H s e s'
def lW (s:Stmt):Arguments:=match s with
 | .FunctionDef _ a _ _ _ _ _ _ _ _=>a
 | _=>{ posonlyargs:=[],args:=[],vararg:=none,kwonlyargs:=[],kw_defaults:=[],kwarg:=none,defaults:=[] }
def kf (s:Stmt):List Stmt:=match s with
 | .FunctionDef _ _ b _ _ _ _ _ _ _=>b
 | _=>[]
def au (s:Stmt):Scope:=match s with
 | .FunctionDef _ _ _ _ _ _ sc _ _ _=>sc
 | _=>{ kind:=.function,names:=[],isGenerator:=false,isCoroutine:=false }
abbrev aX:rm:=fun _ _ _ _ _ _=>False
abbrev E0:XK:=fun _ _ _=>False
theorem Cd {X:Cx}:Passes aX X E0:=fun _ _ _ _ _ _ _ h=>h.elim
structure FU (K:Zfr) (x qual:Str) (st:Stmt) (f:Addr) (fd:FuncData):Prop where
 ex:∃ (oc:Value) (od:Option Addr) (kV doc pm:Value) (an:Option Addr) (cdv ct:Value) (osl:Array (Option Value)),
  fd=PySem.W.fnOf x qual (lW st) (kf st) (au st) .none kV doc pm an cdv ct/\K.lookup f=some ⟨oc,od,.func fd,osl⟩/\PySem.W.codeIn K cdv qual=true
 kp:PySem.W.keepIn K (.ref f)=true
section
variable {P:Program} {w:World} {K:Zfr} {mg:Str->Option Value} {base:Heap}
theorem FU.ok {x qual:Str} {st:Stmt} {f:Addr} {fd:FuncData} {N ps:List Str} {k:Nat} {sp:Sp} (F:FU K x qual st f fd) (S:aB N ps (au st)) (len:∀ vs H Q E,sp vs H Q E->vs.length=ps.length)
  (hbody:∀ (cdv:Value) (A:Around) (outer:List Env) (s:Shared) (H:Hp) (vs:List V) (Q:VK) (E:XK),ie k (A.deeper (envOfC qual (au st) s.heap.objs.size f cdv))->sp vs H Q E ->
   ∃ t,rj (gi aX P w K mg base N qual (au st) f cdv A outer s H E).oI (kf st) t/\t { nx:=fun _ H'=>Q .non H',rt:=Q } (start N vs) H):aC P w K mg base aX (k + 1) f fd ps sp:=by
 obtain ⟨oc,od,kV,doc,pm,an,cdv,ct,osl,rfl,lk,hcd⟩:=F.ex
 refine B0 lk hcd S len fun A outer s H vs Q E hr uf=>?_
 obtain ⟨t,h,q⟩:=hbody cdv A outer s H vs Q E hr uf
 exact ⟨t,h.oI,q⟩
theorem x6 {x qual:Str} {st:Stmt} {f:Addr} {oc:Value} {od an:Option Addr} {osl:Array (Option Value)} {kV doc pm cdv ct:Value} (l:K.lookup f=some ⟨oc,od,.func (PySem.W.fnOf x qual (lW st) (kf st) (au st) .none kV doc pm an cdv ct),osl⟩)
  (c:PySem.W.codeIn K cdv qual=true) (k:PySem.W.keepIn K (.ref f)=true):FU K x qual st f (PySem.W.fnOf x qual (lW st) (kf st) (au st) .none kV doc pm an cdv ct):=⟨⟨oc,od,kV,doc,pm,an,cdv,ct,osl,rfl,l,c⟩,k⟩
end
theorem Ce {A:Around} {k:Nat} (hr:ie k A):A.units + 1 < cLine:=YZ (Nat.add_le_add_left (by decide:1<=64) _) hr.units
section
variable {X:Cx}
theorem pv (i:Nat) {x:Str} {pos:Pos} (hN:X.N[i]?=some x:=by rfl) (hv:Iw X.env.scope x:=by first | exact Or.inl rfl | exact Or.inr (Or.inl rfl) | exact Or.inr (Or.inr rfl)) (hd:(x == ("__debug__" : Str))=false:=by decide)
  (hcd:(x == ("__classdict__" : Str))=false:=by decide):PE X (.Name x pos) (xG i):=xH hN hv hd hcd
end
theorem rq {A B:Prop} (h:B):if false=true then A else B:=by
 rw [if_neg Yh]
 exact h
theorem rA {A B:Prop} (h:A):if true=true then A else B:=by
 rw [if_pos rfl]
 exact h
def jA (H H':Hp):Prop:=∀ b o,H b=some o->H' b=some o
theorem jA.refl (H:Hp):jA H H:=fun _ _ h=>h
section
variable {X:Cx}
end
section
variable {κ:Type} [DecidableEq κ]
end
theorem mF:bootBuiltins "len" = some (.builtin "len"):=by decide +kernel
theorem Jk:bootBuiltins "int" = some (.type "int"):=by decide +kernel
theorem QM:bootBuiltins "bool" = some (.type "bool"):=by decide +kernel
theorem rB:bootBuiltins "list" = some (.type "list"):=by decide +kernel
theorem oj:bootBuiltins "tuple" = some (.type "tuple"):=by decide +kernel
theorem ug:bootBuiltins "range" = some (.type "range"):=by decide +kernel
theorem QN:bootBuiltins "isinstance" = some (.builtin "isinstance"):=by decide +kernel
theorem MI:bootBuiltins "max" = some (.builtin "max"):=by decide +kernel
theorem Jl:bootBuiltins "min" = some (.builtin "min"):=by decide +kernel
theorem QO:bootBuiltins "reversed" = some (.type "reversed"):=by decide +kernel
structure Kp (ch:List Addr) (H H':Hp):Prop where
 keep:∀ b o,H b=some o->b ∉ ch->H' b=some o
 tup:∀ b xs,H b=some (.tup xs)->H' b=some (.tup xs)
 nL:∀ b o u,H b=some (.nL o u)->H' b=some (.nL o u)
section
variable {ch:List Addr} {H H1 H2:Hp} {a l p:Addr} {o:HO} {xs ys:List V} {K:Zfr}
theorem Kp.refl:Kp ch H H:=⟨fun _ _ h _=>h,fun _ _ h=>h,fun _ _ _ h=>h⟩
theorem Kp.of_same (h:jA H H1):Kp ch H H1:=⟨fun b o e _=>h b o e,fun b xs e=>h b _ e,fun b o u e=>h b _ e⟩
theorem Kp.put (h:Kp ch H H1) (ha:a∈ch) (e:H1 a=some (.lst xs)):Kp ch H (upd H1 a o) :=
 ⟨fun b u q n=>by rw [kd (fun z=>n (by rw [z];exact ha))];exact h.keep b u q n,
   fun b u q=>by
  have r:=h.tup b u q
  rw [kd (Ir r e (by intro z;cases z))];exact r,
   fun b u v q=>by
  have r:=h.nL b u v q
  rw [kd (Ir r e (by intro z;cases z))];exact r⟩
theorem Kp.Jm (h:Kp ch H H1) (q:d8 K H a xs):d8 K H1 a xs:=by
 rcases q with (q | ⟨o,q⟩) | q
 ·exact .inl (.inl (h.tup a xs q))
 ·exact .inl (.inr ⟨o,h.nL a o _ q⟩)
 ·exact .inr q
def Cf (K:Zfr) (H:Hp) (a:Addr) (xs:List V):Prop :=
 (∃ o,H a=some (.nL o (.lst xs))) \/
  ∃ (o:Obj) (its:Array Value) (n:Nat),K.lookup a=some o/\o.cls=.type "list" /\ o.dict=none/\o.data=.seq its n/\its.size<=sizeLine/\Vals xs its.toList
theorem Cf.sq (h:Cf K H a xs):iy K H a xs:=h.elim (fun ⟨o,e⟩=>.inl (.inr ⟨o,e⟩)) .inr
theorem iy.script (hO:Only H) (q:iy K H a xs):Cf K H a xs:=by
 rcases q with (q | ⟨o,q⟩) | q
 ·rcases hO a with e | ⟨o,ys,e⟩
  ·rw [e] at q;cases q
  ·rw [e] at q;cases q
 ·exact .inl ⟨o,q⟩
 ·exact .inr q
theorem jA.up (h:H p=none):jA H (upd H p o):=fun b u e=>by rw [kd (Ao e h)];exact e
end
def qd (K:Zfr) (H:Hp) (xs:List V) (Q:VK):Prop:=∀ p H',d8 K H' p xs->jA H H'->Q (.ref p) H'
section
variable {X:Cx}
theorem qd.new {K:Zfr} {H:Hp} {xs:List V} {Q:VK} (h:qd K H xs Q):∀ p,H p=none->Q (.ref p) (upd H p (.tup xs)):=fun p hp=>h p _ (d8.of rS) (jA.up hp)
theorem qd.it {K:Zfr} {H:Hp} {xs:List V} {Q:VK} {a:Addr} (h:qd K H xs Q) (q:d8 K H a xs):Q (.ref a) H:=h a H q (jA.refl H)
def sJ (K:Zfr):R2:=fun x y H Q=>∃ a b xs ys,x=.ref a/\y=.ref b/\d8 K H a xs/\d8 K H b ys/\xs.length + ys.length<=sizeLine/\qd K H (xs ++ ys) Q
theorem uM:kH X (binaryOp .Add) (sJ X.K):=by
 intro pins s σ H x y v u Q I rx ry h
 obtain ⟨a,b,xs,ys,rfl,rfl,ha,hb,hz,q⟩:=h
 by_cases hx:xs=[]
 ·subst hx
  cases rx
  cases ry
  obtain ⟨its,r1,p1,_⟩:=I.tuple ha
  obtain ⟨its2,r2,p2,_⟩:=I.tuple hb
  have e:its=[]:=r1.nD.mpr rfl
  subst e
  obtain ⟨⟨cls,dd,data,sl⟩,ho,hc,n,hd⟩:=id p1
  obtain ⟨⟨IP,dd2,data2,sl2⟩,ho2,hc2,n2,hd2⟩:=id p2
  simp only at hc hd hc2 hd2
  subst hc hd hc2 hd2
  exact concat_meets ⟨_,ho,rfl⟩ ⟨_,ho2,rfl⟩ noFill_tuple_add seq_tuple_add PySem.F.slot_tuple_add PySem.F.entry_tuple_add (PySem.F.args_tuple_add_2 _ _)
   (tuple_addW0 a b #[] its2.toArray n n2 dd dd2 sl sl2 (by simp)) ⟨ho,ho2,⟨.ref b,H,I,rfl,q.it (by simpa using hb)⟩⟩
 ·exact Qp pins s σ H _ _ v u Q I rx ry ⟨a,b,xs,ys,rfl,rfl,ha,hb,hx,hz,fun e=>q.it (by subst e;simpa using ha),fun _=>q.new⟩
theorem QP {prog:Program} {w:World} {A:Around} {E:Value->Shared->Prop} {s:Shared} {t sl:Addr} {items:Array Value} {vl vu:Value} {lo hi:Option Int} {Q:Value->Shared->Prop} (ht:IsTup s.heap t items) (hs:s.heap.IsSliceOf sl vl vu .none) (pl:IsPart vl lo) (pu:IsPart vu hi)
  (hw:HT.cJ items.size 0 lo=0/\HT.cJ items.size items.size hi=items.size) (h:Q (.ref t) s):wpAny (model prog w) A (getItem (.ref t) (.ref sl)) Q E s:=by
 obtain ⟨os,hos,hcs,hds⟩:=id hs
 have IQ:s.TypeIs (.ref sl) "slice" := ⟨os,hos,hcs⟩
 unfold getItem
 try with_reducible refine wpAny_holding ?_
 first | refine wpAny_bind (wpAny_pure ?_) | skip
 refine wpAny_bind (wpAny_sequenceKey ht.typeIs (by decide) ?_)
 refine wpAny_bind (wpAny_callSpecial?_slot (name:=Str.ofString "__getitem__") ht.typeIs PyProof.Rows.slot_tuple_getitem
  (wpAny_call_entry PyProof.Rows.slot_tuple_getitem ht.typeIs entry_tuple_getitem ?_ (args_tuple_getitem _ _)))
 show wpAny _ _ (Builtin.Tuple.tupleItemsOf (.ref t) >>= _) _ _ s
 refine wpAny_bind (tupleItemsOf_ ht ?_)
 refine wpAny_bind (wpAny_typeOf IQ ?_)
 rw [if_pos (by decide)]
 refine wpAny_bind (HT.Mp hs pl pu ?_)
 have hyes:((((HT.cJ items.size 0 lo:Nat):Int) == 0 && (1:Int) == 1 && (HT.cJ items.size items.size hi - HT.cJ items.size 0 lo) == items.size)=true):=by
  rw [hw.1,hw.2];simp
 show wpAny _ _ (if (((HT.cJ items.size 0 lo:Nat):Int) == 0 && (1:Int) == 1 && (HT.cJ items.size items.size hi - HT.cJ items.size 0 lo) == items.size)=true then _ else _) _ _ s
 rw [if_pos hyes]
 obtain ⟨o,ho,hc,n,hd⟩:=id ht
 unfold Builtin.Tuple.tupleIsExact
 first
  | exact wpAny_bind (wpAny_bind (wpAny_typeOf (T:="tuple") ⟨o,ho,hc⟩ (wpAny_pure (wpAny_bind (wpAny_rule (wpAny_pure ⟨_,rfl,wpAny_pure h⟩))))))
  | exact wpAny_bind (wpAny_bind (wpAny_typeOf (T:="tuple") ⟨o,ho,hc⟩ (wpAny_pure (wpAny_bind (wpAny_rule (wpAny_bind (wpAny_pure ⟨_,rfl,wpAny_pure h⟩)))))))
  | trace_state
def wg (K:Zfr):V->Option Int->Option Int->Hp->VK->Prop:=fun x lo hi H Q=>∃ a xs,x=.ref a/\d8 K H a xs/\qd K H (nQ xs lo hi) Q
theorem QQ {xs:List V} {lo hi:Option Int} (h:HT.cJ xs.length 0 lo=0/\HT.cJ xs.length xs.length hi=xs.length):nQ xs lo hi=xs:=by
 unfold nQ;rw [h.1,h.2];simp
theorem QR:FO X (wg X.K):=by
 intro pins s σ H x v vl vu lo hi sl Q I rx hs pl pu h
 obtain ⟨a,xs,rfl,hx,q⟩:=h
 by_cases hw:HT.cJ xs.length 0 lo=0/\HT.cJ xs.length xs.length hi=xs.length
 ·cases rx
  obtain ⟨its,r,ht,hz⟩:=I.tuple hx
  have hlen:its.toArray.size=xs.length:=by rw [Yo];exact r.length.symm
  refine ⟨"tuple",_,PyProof.Rows.slot_tuple_getitem.lookup,ht.typeIs,?_⟩
  exact QP ht hs pl pu (by rw [hlen];exact hw) ⟨.ref a,H,I,rfl,q.it (by rw [QQ hw];exact hx)⟩
 ·exact xU pins s σ H _ v vl vu lo hi sl Q I rx hs pl pu ⟨a,xs,rfl,hx,hw,q.new⟩
def fK (lo:Int) (n:Nat):List V:=(List.range n).map fun (k:Nat)=>V.int (lo + k)
theorem QS (lo:Int) (n:Nat):(fK lo n).length=n:=by simp [fK]
theorem FV:d9 X (.type "range") (fun xs H Q=>∃ j:Int,xs=[.int j]/\∀ p,H p=none->Q (.ref p) (upd H p (.jH 0 j))):=by
 intro pins s σ H xs us Q I r h
 obtain ⟨j,rfl,q⟩:=h
 obtain ⟨u,rfl,t,rfl⟩:=vals1 r
 refine call_range_1 ⟨.ref s.heap.objs.size,_,I.laid (o:=.jH 0 j) (fun b o e=>Yq _ e) (Yd _) ?_,rfl,q _ (I.hok.fresh (Yd _))⟩
 exact ⟨_,_,_,Yy _ rfl⟩
theorem Ay:d9 X (.type "range") (fun xs H Q=>∃ i j:Int,xs=[.int i,.int j]/\∀ p,H p=none->Q (.ref p) (upd H p (.jH i j))):=by
 intro pins s σ H xs us Q I r h
 obtain ⟨i,j,rfl,q⟩:=h
 obtain ⟨u,u',rfl,⟨t,rfl⟩,t',rfl⟩:=vals2 r
 refine call_range_2 ⟨.ref s.heap.objs.size,_,I.laid (o:=.jH i j) (fun b o e=>Yq _ e) (Yd _) ?_,rfl,q _ (I.hok.fresh (Yd _))⟩
 exact ⟨_,_,_,Yy _ rfl⟩
theorem MJ:∀ (n:Nat) (lo:Int) (us:List Value),us.length=n->(∀ (j:Nat) (v:Value),us[j]?=some v->∃ t,v=.int (lo + j * 1) t)->Vals (fK lo n) us
 | 0,lo,[],_,_=>.nil
 | 0,lo,_ :: _,h,_=>by simp at h
 | n + 1,lo,[],h,_=>by simp at h
 | n + 1,lo,u :: us,h,hv=>by
  have e:fK lo (n + 1)=V.int lo :: fK (lo + 1) n:=by
   unfold fK
   rw [List.range_succ_eq_map,Yu,YF]
   congr 1
   ·simp
   ·apply YU
    intro i _
    simp only [Function.comp]
    congr 1
    push_cast
    omega
  rw [e]
  obtain ⟨t,ht⟩:=hv 0 u rfl
  refine .cons ⟨t,by rw [ht];simp⟩ (MJ n (lo + 1) us (by simpa using h) fun j v hj=>?_)
  obtain ⟨t',ht'⟩:=hv (j + 1) v hj
  refine ⟨t',ht'.trans ?_⟩
  congr 1
  omega
theorem uh (hc:X.calm=true):d9 X (.type "list") (fun xs H Q=>∃ p lo hi,xs=[.ref p]/\H p=some (.jH lo hi)/\(-(2 ^ 62)<=lo/\lo < 2 ^ 62/\-(2 ^ 62)<=hi/\hi < 2 ^ 62)/\(hi - lo).toNat<=2 ^ 24 /\
  ∀ l,H l=none->Q (.ref l) (upd H l (.lst (fK lo (hi - lo).toNat)))):=by
 intro pins s σ H xs us Q I r h
 obtain ⟨p,lo,hi,rfl,hp,⟨b1,b2,b3,b4⟩,hz,q⟩:=h
 obtain ⟨u,rfl,ru⟩:=vals1 r
 cases ru
 obtain ⟨t,t',t'',e⟩:=(show cf X.prog X.w H s.heap p (.jH lo hi) from I.hok p _ hp)
 refine call_list_range (a:=lo) (b:=hi) (c:=1) (n:=(hi - lo).toNat) (I.ok.hd hc) (show IsRange s.heap p lo hi 1 t t' t'' from e) (small_one b1 b2 b3 b4) (by rw [rangeSize_one];split <;> omega) hz fun h' tk acc c kp hD hI=>?_
 refine ⟨.ref s.heap.objs.size,_,I.laid (t':=tk) (o:=.lst (fK lo (hi - lo).toNat)) kp (Yd _) ?_,rfl,q _ (I.hok.fresh (Yd _))⟩
 refine ⟨by rw [QS];exact Yv hz (by decide),acc.toList,c,MJ _ _ _ (by rw [Array.length_toList];exact hI.1) fun j v hj=>hI.2 j v (by rw [<- hj,Array.getElem?_toList]),by simpa using hD⟩
end
mutual
inductive Rep (K:Zfr) (H:Hp):V->PyData->Prop
 | non:Rep K H .non .none
 | bl (b:Bool):Rep K H (.bl b) (.bool b)
 | int (i:Int):Rep K H (.int i) (.int i)
 | str (x:Str):Rep K H (.str x) (.str x)
 | tup {a:Addr} {xs:List V} {ds:List PyData}:d8 K H a xs->fL K H xs ds->Rep K H (.ref a) (.tuple ds)
 | lst {a:Addr} {xs:List V} {ds:List PyData}:iy K H a xs->fL K H xs ds->Rep K H (.ref a) (.list ds)
inductive fL (K:Zfr) (H:Hp):List V->List PyData->Prop
 | nil:fL K H [] []
 | cons {v:V} {vs:List V} {d:PyData} {ds:List PyData}:Rep K H v d->fL K H vs ds->fL K H (v :: vs) (d :: ds)
end
section
variable {X:Cx} {pins:List (Addr×Obj)} {σ:St} {H:Hp} {s:Shared}
mutual
theorem Rep.reads (I:Inv X pins σ H s):∀ {v:V} {d:PyData} {u:Value},Rep X.K H v d->RelV v u->∃ as,Reads s.heap u d as
 | _,_,_,.non,r=>by cases r;exact ⟨_,.none⟩
 | _,_,_,.bl b,r=>by cases r;exact ⟨_,.bool b⟩
 | _,_,_,.int i,r=>by obtain ⟨t,rfl⟩:=r;exact ⟨_,.int i t⟩
 | _,_,_,.str x,r=>by obtain ⟨t,rfl⟩:=r;exact ⟨_,.str x t⟩
 | _,_,_,.tup q rs,r=>by
  cases r
  obtain ⟨its,rv,⟨o,e,c,n,hd⟩,_⟩:=I.tuple q
  obtain ⟨as,ra⟩:=fL.reads I rs rv
  exact ⟨_,.tuple e c hd (by simpa using ra)⟩
 | _,_,_,.lst q rs,r=>by
  cases r
  obtain ⟨its,rv,pl,_⟩:=I.list q
  obtain ⟨o,e,c,n,hd⟩:=pl.isList
  obtain ⟨as,ra⟩:=fL.reads I rs rv
  exact ⟨_,.list e c hd (by simpa using ra)⟩
theorem fL.reads (I:Inv X pins σ H s):∀ {vs:List V} {ds:List PyData} {us:List Value},fL X.K H vs ds->Vals vs us->∃ as,ReadsAll s.heap us ds as
 | _,_,_,.nil,r=>by cases r;exact ⟨_,.nil⟩
 | _,_,_,.cons h t,r=>by
  cases r with
  | cons r1 r2 =>
   obtain ⟨as,h1⟩:=Rep.reads I h r1
   obtain ⟨bs,h2⟩:=fL.reads I t r2
   exact ⟨_,.cons h1 h2⟩
end
def uN (K:Zfr) (neg:Bool):R2:=fun x y H Q=>∃ d e,Rep K H x d/\Rep K H y e/\PyData.canLay0 d=true/\PyData.canLay0 e=true/\min d.depth e.depth<=60/\Q (.bl (if neg then !PyData.eqv d e else PyData.eqv d e)) H
theorem Jn (hu:X.A.units + 64 < cLine):kH X (compareOp .Eq) (uN X.K false):=by
 intro pins s σ H x y v u Q I rx ry h
 obtain ⟨d,e,hd,he,c1,c2,dp,q⟩:=h
 obtain ⟨as,ra⟩:=hd.reads I rx
 obtain ⟨bs,rb⟩:=he.reads I ry
 exact SeqAt.eqOverData X.prog X.w X.A X.xe s v u d e as bs _ ra rb c1 c2 (by omega) ⟨.bl _,H,I,rfl,q⟩
theorem Jo (hu:X.A.units + 64 < cLine):kH X (compareOp .NotEq) (uN X.K true):=by
 intro pins s σ H x y v u Q I rx ry h
 obtain ⟨d,e,hd,he,c1,c2,dp,q⟩:=h
 obtain ⟨as,ra⟩:=hd.reads I rx
 obtain ⟨bs,rb⟩:=he.reads I ry
 exact SeqAt.neOverData X.prog X.w X.A X.xe s v u d e as bs _ ra rb c1 c2 (by omega) ⟨.bl _,H,I,rfl,q⟩
end
section
variable {K:Zfr} {H:Hp}
def cW (ns:List Int):List PyData:=ns.map PyData.int
theorem x8:∀ (ns:List Int),PyData.canLayAll0 (cW ns)=true
 | []=>rfl
 | n :: r=>by show (true && PyData.canLayAll0 (cW r))=true;rw [x8 r];rfl
theorem Az:∀ (ns:List Int),PyData.depthAll (cW ns)=0
 | []=>rfl
 | n :: r=>by show max 0 (PyData.depthAll (cW r))=0;rw [Az r];rfl
theorem Ci:∀ (ns ms:List Int),PyData.eqvAll (cW ns) (cW ms)=decide (ns=ms)
 | [],[]=>rfl
 | [],_ :: _=>rfl
 | _ :: _,[]=>rfl
 | n :: ns,m :: ms=>by
  show ((n == m) && PyData.eqvAll (cW ns) (cW ms))=decide (n :: ns=m :: ms)
  rw [Ci ns ms]
  by_cases h:n=m
  ·subst h;simp
  ·simp [h]
end
end L2
namespace L2
open PySem PySem.Spec PyProof.Rows
structure Def (K:Zfr) (mg:Str->Option Value) (x:Str) (st:Stmt) (ps:List Str) (f:Addr) (fd:FuncData):Prop where
 F:FU K x x st f fd
 be:∀ us:List Value,us.length=ps.length->bindArgs fd ⟨us,[]⟩=pure (ps.zip us)
 m:mg x=some (.ref f)
theorem Def.b {K:Zfr} {mg:Str->Option Value} {x:Str} {st:Stmt} {ps:List Str} {f:Addr} {fd:FuncData} (D:Def K mg x st ps f fd):Binds K fd ps []:=.all D.be
theorem eC {K:Zfr} {h:Heap} {mg:Str->Option Value} (X:K.In h) (G:h.Ns mainGlobals mg) {x:Str} {st:Stmt} {ps:List Str} {f:Addr} {oc:Value} {od an:Option Addr} {osl:Array (Option Value)} {kV doc pm cdv ct:Value}
  (hb:∀ (kV doc pm:Value) (an:Option Addr) (cdv ct:Value) (us:List Value),us.length=ps.length->bindArgs (PySem.W.fnOf x x (lW st) (kf st) (au st) .none kV doc pm an cdv ct) ⟨us,[]⟩=pure (ps.zip us))
  (a:PySem.W.nsIn K mainGlobals x=some (some (.ref f))) (l:K.lookup f=some ⟨oc,od,.func (PySem.W.fnOf x x (lW st) (kf st) (au st) .none kV doc pm an cdv ct),osl⟩)
  (c:PySem.W.codeIn K cdv x=true) (k:PySem.W.keepIn K (.ref f)=true):∃ f fd,Def K mg x st ps f fd :=
 ⟨f,_,x6 l c k,hb kV doc pm an cdv ct,PySem.W.mg_of X G a⟩
theorem Def.uO {K:Zfr} {mg:Str->Option Value} {x p:Str} {st:Stmt} {f:Addr} {fd:FuncData} (D:Def K mg x st [p] f fd) (s:Shared) (u:Value):BindsTo s fd ⟨[u],[]⟩ [(p,u)]:=.of_eq (D.be [u] rfl)
theorem rT {K:Zfr} {h:Heap} {mg:Str->Option Value} (X:K.In h) (G:h.Ns mainGlobals mg) {x:Str} (z:PySem.W.nsIn K mainGlobals x=some none):mg x=none:=PySem.W.mg_none_of X G z
theorem AA {n j:Nat} (h:j < n):m8 n (j:Int)=some j:=by
 unfold m8
 rw [if_pos (by omega),if_pos (by omega)]
 simp
theorem x9 {α:Type} {xs:List α} {i:Int} (h0:0<=i) (h1:i < xs.length):∃ v,eK xs i=some v/\v∈xs:=by
 have hi:i.toNat < xs.length:=by omega
 refine ⟨xs[i.toNat],?_,List.getElem_mem hi⟩
 have:=Av (xs:=xs) (j:=i.toNat) (v:=xs[i.toNat]) (by simp [hi])
 rwa [YG h0] at this
theorem dT {c:Prop} [Decidable c] (h:decide c=true):c:=of_decide_eq_true h
section
variable {prog:Program} {w:World} {A:Around} {E:Value->Shared->Prop} {s:Shared}
end
section
variable {X:Cx} {e:Expr} {te:TE} {pos p0 p1 p2:Pos} {j:Nat}
end
section
variable {K:Zfr} {f:Addr} {H0:Hp} {σ:St} {i:Nat} {t u ta tb:TE} {R R':V->Hp->Prop} {P P' P2:Int->Prop} {L M:Nat}
end
theorem Cj:∀ (names:List (Str×NameKind)) (n:Nat) (acc:List (Str×Addr)),cellsFrom n names acc=cellsFrom n names [] ++ acc
 | [],_,_=>rfl
 | (x,k) :: r,n,acc=>by
  show (if k == .cell then cellsFrom (n + 1) r ((x,n) :: acc) else cellsFrom n r acc)=(if k == .cell then cellsFrom (n + 1) r [(x,n)] else cellsFrom n r []) ++ acc
  by_cases hk:(k == NameKind.cell)=true
  ·rw [if_pos hk,if_pos hk,Cj r (n + 1) ((x,n) :: acc),Cj r (n + 1) [(x,n)],List.append_assoc];rfl
  ·rw [if_neg hk,if_neg hk];exact Cj r n acc
theorem Jp {x:Str} {c:Addr}:∀ (names:List (Str×NameKind)) (n:Nat),(x,c)∈cellsFrom n names []->(x,NameKind.cell)∈names/\n<=c
 | [],_,h=>nomatch h
 | (y,k) :: r,n,h=>by
  have h':(x,c)∈(if k == .cell then cellsFrom (n + 1) r [(y,n)] else cellsFrom n r []):=h
  by_cases hk:(k == NameKind.cell)=true
  ·rw [if_pos hk,Cj] at h'
   rcases Yz.mp h' with h' | h'
   ·obtain ⟨h1,h2⟩:=Jp r (n + 1) h'
    exact ⟨Yg _ h1,by omega⟩
   ·have e:(x,c)=(y,n):=by simpa using h'
    cases e
    have e2:k=NameKind.cell:=by simpa using hk
    subst e2
    exact ⟨Ye,Yd _⟩
  ·rw [if_neg hk] at h'
   obtain ⟨h1,h2⟩:=Jp r n h'
   exact ⟨Yg _ h1,h2⟩
theorem Jq {env:Env} (f:Str×NameKind->List (Str×Addr)->Sem (ForInStep (List (Str×Addr))))
  (hf:∀ name kind cs,f (name,kind) cs=if kind == .free then (do let c <- cellOf env name;pure (.yield ((name,c) :: cs))) else pure (.yield cs)) :
  ∀ (names:List (Str×NameKind)) (acc:List (Str×Addr)),(∀ y∈names,y.2=NameKind.free->∃ c,env.cells.lookup y.1=some c) ->
   ∃ cl,(forIn names acc f:Sem (List (Str×Addr)))=pure cl/\(∀ n c,(n,c)∈cl->(n,c)∈acc\/(env.cells.lookup n=some c/\(n,NameKind.free)∈names))/\(∀ p∈acc,p∈cl)/\∀ n,(n,NameKind.free)∈names->∃ c,(n,c)∈cl
 | [],acc,_=>⟨acc,by rw [List.forIn_nil],fun n c h=>.inl h,fun p h=>h,fun n h=>nomatch h⟩
 | (x,k) :: r,acc,h=>by
  have hr:∀ y∈r,y.2=NameKind.free->∃ c,env.cells.lookup y.1=some c:=fun y hy=>h y (Yg _ hy)
  by_cases hk:k=NameKind.free
  ·subst hk
   obtain ⟨c,hc⟩:=h (x,.free) Ye rfl
   have e:cellOf env x=pure c:=by unfold cellOf;rw [hc]
   obtain ⟨cl,e1,h1,h2,h3⟩:=Jq f hf r ((x,c) :: acc) hr
   refine ⟨cl,?_,fun n d hd=>?_,fun p hp=>h2 p (Yg _ hp),fun n hn=>?_⟩
   ·rw [List.forIn_cons,hf,if_pos (by rfl),e]
    exact e1
   ·rcases h1 n d hd with q | ⟨q,q'⟩
    ·rcases YC.mp q with q | q
     ·cases q;exact .inr ⟨hc,Ye⟩
     ·exact .inl q
    ·exact .inr ⟨q,Yg _ q'⟩
   ·rcases YC.mp hn with q | q
    ·cases q;exact ⟨c,h2 _ Ye⟩
    ·exact h3 n q
  ·obtain ⟨cl,e1,h1,h2,h3⟩:=Jq f hf r acc hr
   have hb:¬ ((k == NameKind.free)=true):=by simpa using hk
   refine ⟨cl,?_,fun n d hd=>?_,h2,fun n hn=>?_⟩
   ·rw [List.forIn_cons,hf,if_neg hb]
    exact e1
   ·rcases h1 n d hd with q | ⟨q,q'⟩
    ·exact .inl q
    ·exact .inr ⟨q,Yg _ q'⟩
   ·rcases YC.mp hn with q | q
    ·cases q;exact absurd rfl hk
    ·exact h3 n q
theorem MK {scope:Scope} {env:Env} (h:∀ y∈scope.names,y.2=NameKind.free->∃ c,env.cells.lookup y.1=some c) :
  ∃ cl,closureFor scope env=pure cl/\(∀ n c,(n,c)∈cl->env.cells.lookup n=some c/\(n,NameKind.free)∈scope.names)/\∀ n,(n,NameKind.free)∈scope.names->∃ c,(n,c)∈cl:=by
 have key:∀ (f:Str×NameKind->List (Str×Addr)->Sem (ForInStep (List (Str×Addr)))),(∀ name kind cs,f (name,kind) cs=if kind == .free then (do let c <- cellOf env name;pure (.yield ((name,c) :: cs))) else pure (.yield cs)) ->
   ∃ cl,((forIn scope.names [] f:Sem (List (Str×Addr))) >>= fun r=>pure r)=pure cl/\(∀ n c,(n,c)∈cl->env.cells.lookup n=some c/\(n,NameKind.free)∈scope.names)/\∀ n,(n,NameKind.free)∈scope.names->∃ c,(n,c)∈cl:=fun f hf=>by
  obtain ⟨cl,e,h1,_,h3⟩:=Jq f hf scope.names [] h
  refine ⟨cl,?_,fun n c hc=>(h1 n c hc).elim (fun z=>nomatch z) id,h3⟩
  rw [e]
  rfl
 simp only [closureFor]
 exact key _ fun name kind cs=>by cases hk:kind == NameKind.free <;> simp [hk]
theorem ltN {a b:Addr} (h:a < b):@LT.lt Nat _ a b:=h
theorem xF {a b:Addr} (h:@LT.lt Nat _ a b):a≠b:=YQ h
theorem ML {a b:Addr} (h:@LT.lt Nat _ b a):a≠b:=Nat.ne_of_gt h
theorem QT {M:Model} {A:Around} {E:Value->Shared->Prop} {s:Shared} {scope:Scope} {g:Addr} {cl:List (Str×Addr)} {q:Str} {env:Env} {Q:Env->Shared->Prop}
  (h:∀ h',h'.Ns s.heap.objs.size (fun _=>none)->(∀ b o,s.heap.get? b=some o->h'.get? b=some o)->CellsOk h' (s.heap.objs.size + 1) (cellsFrom (s.heap.objs.size + 1) scope.names []) ->
   Q { scope:=scope,locals:=s.heap.objs.size,globals:=g,cells:=cellsFrom (s.heap.objs.size + 1) scope.names cl,qual:=q,func:=none,code:=env.code,frame:=env.frame,builtins:=env.builtins } { s with heap:=h' }) :
  wpAny M A (newFunctionEnv scope g cl [] q none .none (some env)) Q E s:=by
 simp only [newFunctionEnv,Option.isSome_some,if_true]
 refine wpAny_bind (wpAny_alloc ?_)
 refine wpAny_bind (wpAny_layCells _ (fun name kind cells=>by cases hkc:kind == NameKind.cell <;> simp [hkc]) _ _ _ _ ?_)
 have ok:=cellsFrom_ok scope.names (s.heap.push { cls:=.type "dict",data:=.dict #[] }) (s.heap.objs.size + 1) [] ⟨fun _ _ hm=>(nomatch hm),List.Pairwise.nil⟩ (by rw [Heap.size_push];exact Yd _)
 rw [Heap.size_push] at ok
 rw [show ({ s with heap:=s.heap.push { cls:=.type "dict",data:=.dict #[] } }:Shared).heap.objs.size=s.heap.objs.size + 1 from Heap.size_push ..]
 refine wpAny_bind ?_
 rw [List.forIn_nil]
 refine wpAny_pure (wpAny_pure ?_)
 exact h _ ((Heap.Ns.new s.heap (.type "dict")).keeps (pushCells_keeps _ _)) (fun b o e=>pushCells_keeps _ _ b o (Yq _ e)) ok
def aT (X:Cx) (N:List Str) (scope:Scope) (cells:List (Str×Addr)) (C:Addr) (fp:List Addr) (s:Shared) (H:Hp):Cx where
 prog:=X.prog
 w:=X.w
 K:=X.K
 mg:=X.mg
 base:=X.base
 A:=X.A
 N:=N
 s₀:=s
 H₀:=H
 env:=compEnvC scope cells C X.env
 outer:=X.stack
 stack:=X.stack
 ex:=fp
 fn:=fun x=>decide (scope.names.lookup x=some .cell)
 calm:=X.calm
 pn:=[]
 xe:=fun _ _=>False
def sL (scope sc:Scope):Scope :=
 { scope with names:=scope.names.map fun (n,k)=>if (k == .free && sc.kind == .function && sc.names.lookup n == some .cell) then (n,.cell) else (n,k) }
structure sM (sc scope:Scope) (own fr:List Str):Prop where
 kind:scope.kind=.function
 nd:(own ++ fr).Nodup
 AB:(scope.names.map (·.1)).Nodup
 free:∀ y∈scope.names,y.2=.free->sc.names.lookup y.1=some .cell\/sc.names.lookup y.1=some .free
 Jr:∀ x∈fr,scope.names.lookup x=some .free
structure fM (X:Cx) (scope:Scope) (own fr:List Str) (js:List Nat):Prop where
 c:sM X.env.scope scope own fr
 ix:js.map (fun j=>X.N[j]?)=fr.map some
theorem fM.kind {X:Cx} {scope:Scope} {own fr:List Str} {js:List Nat} (S:fM X scope own fr js):scope.kind=.function:=S.c.kind
theorem fM.AB {X:Cx} {scope:Scope} {own fr:List Str} {js:List Nat} (S:fM X scope own fr js):(scope.names.map (·.1)).Nodup:=S.c.AB
theorem fM.Jr {X:Cx} {scope:Scope} {own fr:List Str} {js:List Nat} (S:fM X scope own fr js):∀ x∈fr,scope.names.lookup x=some .free:=S.c.Jr
theorem fM.free {X:Cx} {scope:Scope} {own fr:List Str} {js:List Nat} (S:fM X scope own fr js):∀ y∈scope.names,y.2=.free->X.env.kindOf y.1=some .cell\/X.env.kindOf y.1=some .free:=S.c.free
theorem Ck {α:Type}:∀ {l:List (Str×α)} {n:Str} {c:α},(l.map (·.1)).Nodup->(n,c)∈l->l.lookup n=some c
 | (k,v) :: r,n,c,nd,h=>by
  obtain ⟨h1,h2⟩:=YW.mp nd
  rw [List.lookup_cons]
  rcases YC.mp h with e | h
  ·cases e;simp
  ·have:(n == k)=false:=beq_eq_false_iff_ne.mpr fun e=>h1 (by rw [<- e];exact Yt.mpr ⟨(n,c),h,rfl⟩)
   rw [this]
   exact Ck h2 h
theorem MN (scope:Scope) (env:Env) (x:Str):(relabel scope env).names.lookup x=none/\scope.names.lookup x=none \/
  ∃ k,scope.names.lookup x=some k/\(relabel scope env).names.lookup x=some (if (k == .free && env.scope.kind == .function && env.kindOf x == some .cell) then .cell else k):=by
 have key:∀ names:List (Str×NameKind),(names.map fun (n,k)=>if (k == NameKind.free && env.scope.kind == .function && env.kindOf n == some .cell) then (n,NameKind.cell) else (n,k)).lookup x=none/\names.lookup x=none \/
   ∃ k,names.lookup x=some k/\(names.map fun (n,k)=>if (k == NameKind.free && env.scope.kind == .function && env.kindOf n == some .cell) then (n,NameKind.cell) else (n,k)).lookup x=some (if (k == .free && env.scope.kind == .function && env.kindOf x == some .cell) then .cell else k):=by
  intro names
  induction names with
  | nil=>exact .inl ⟨rfl,rfl⟩
  | cons p r ih =>
   obtain ⟨n,k⟩:=p
   rw [Yu]
   cases hx:x == n with
   | true =>
    have e:x=n:=by simpa using hx
    subst e
    refine .inr ⟨k,by simp [List.lookup_cons],?_⟩
    by_cases hc:(k == NameKind.free && env.scope.kind == .function && env.kindOf x == some .cell)=true
    ·simp only [if_pos hc];simp [List.lookup_cons]
    ·simp only [if_neg hc];simp [List.lookup_cons]
   | false =>
    have e1:∀ q:NameKind,(((n,q) :: (r.map fun (n,k)=>if (k == NameKind.free && env.scope.kind == .function && env.kindOf n == some .cell) then (n,NameKind.cell) else (n,k))).lookup x)=((r.map fun (n,k)=>if (k == NameKind.free && env.scope.kind == .function && env.kindOf n == some .cell) then (n,NameKind.cell) else (n,k)).lookup x):=fun q=>by rw [List.lookup_cons,hx]
    have e2:((n,k) :: r).lookup x=r.lookup x:=by rw [List.lookup_cons,hx]
    rw [e2]
    by_cases hc:(k == NameKind.free && env.scope.kind == .function && env.kindOf n == some .cell)=true
    ·simp only [if_pos hc];rw [e1];exact ih
    ·simp only [if_neg hc];rw [e1];exact ih
 exact key scope.names
def jK (n:Nat) (js:List Nat) (σ:St):St:=List.replicate n none ++ js.map fun j=>σ.getD j none
theorem Inv.Cm {X:Cx} {pins:List (Addr×Obj)} {σ:St} {H:Hp} {s:Shared} {a:Addr} {o:HO} (I:Inv X pins σ H s) (f:mB X pins H a) (new:cf X.prog X.w (upd H a o) s.heap a o):Inv X pins σ (upd H a o) s:=by
 obtain ⟨f0,f1,f2,f3,f4,f5⟩:=f
 have ne:∀ b u,H b=some u->b≠a:=fun b u e z=>by rw [z,f0] at e;cases e
 refine I.step (h':=s.heap) (H':=upd H a o) (g':=s.gens) (d':=s.drawn) (t':=s.toks) (ch:=[a]) (fun b hb=>?_) (fun b u _ _ _ e _=>e) (fun b u _ _ _ e _=>⟨u.slots,e⟩) (fun b u hb e n=>?_) (fun b u _ e=>⟨u,e⟩)
  (fun b xs e=>by rw [kd (ne b _ e)];exact e) (fun b u xs e=>by rw [kd (ne b _ e)];exact e) (fun b ps e=>⟨#[],by rw [kd (ne b _ e),e];simp⟩) (fun m hm=>hm) (fun b u e=>?_) I.bare
 ·have e:b=a:=by simpa using hb
  subst e
  exact ⟨f3,f1,f4,f5⟩
 ·rw [kd (fun z=>hb (by simp [z]))];exact n
 ·by_cases hb:b=a
  ·subst hb;rw [rS] at e;cases e;exact new
  ·rw [kd hb] at e
   exact (I.hok b u e).stay (fun c v _ q=>q) (fun c q=>by rw [kd (ne c _ q)];exact q) fun c xs q=>by rw [kd (ne c _ q)];exact q
def PF (X:Cx) (ifs:List Expr) (t:TT):Prop :=
 ∀ (pins:List (Addr×Obj)) (s:Shared) (σ:St) (H:Hp) (Q:Bool->Hp->Prop),Inv X pins σ H s->t σ H Q ->
  wpAny (model X.prog X.w) X.A (forIn ifs true fun c r=>if r=true then do let ok <- isTrue c X.env (eval c X.env);pure (ForInStep.yield ok) else pure (ForInStep.yield r)) (TP X pins σ Q) X.xe s
theorem rC {X:Cx}:PF X [] (fun _ H Q=>Q true H):=fun _ _ _ H _ I h=>wpAny_tests_nil ⟨H,I,h⟩
theorem Js {X:Cx} {c:Expr} {t:TT} (h:PT X c t):PF X [c] t:=fun pins s σ H Q I hw=>wpAny_tests_one (h pins s σ H Q I hw)
theorem QU {prog:Program} {w:World} {A:Around} {R:Result->Shared->Prop} {s:Shared} {elt target iter:Expr} {ifs:List Expr} {scope:Scope} {pos:Pos} {it acc:Value} {env:Env} (I:Nat->Shared->Prop)
  (turn:∀ n s,I n s->wpAny (model prog w) A (pyNext it) (fun r s₁=>match r with
   | none=>R (.ok .next) s₁
   | some v=>wpAny (model prog w) A (letOwnedTupleGo target it v) (fun _ s₁'=>wpAny (model prog w) A (assign target env v) (fun _ s₂ =>
     wpAny (model prog w) A (forIn ifs true fun c r=>if r=true then do let ok <- isTrue c env (eval c env);pure (ForInStep.yield ok) else pure (ForInStep.yield r)) (fun ok s₃ =>
      if ok=true then wpAny (model prog w) A (eval elt env) (fun x s₄ =>
       wpAny (model prog w) A (call (.builtin "list.append") [acc,x]) (fun _ s₅=>∃ m,m < n/\I m s₅) (fun _ _=>False) s₄) (fun _ _=>False) s₃
      else ∃ m,m < n/\I m s₃) (fun _ _=>False) s₂) (fun _ _=>False) s₁') (fun _ _=>False) s₁) (fun _ _=>False) s)
  (n:Nat) (h:I n s) :
  codeAny (model prog w) A (.compLoop (.ListComp elt [⟨target,iter,ifs,0⟩] scope pos) 0 it acc env) R s:=by
 refine codeAny_loop rfl I (fun n s hI=>?_) n h
 show wpAny _ A ((compTurn (.ListComp elt [⟨target,iter,ifs,0⟩] scope pos) 0 it acc env).onRaise (fun x=>do noteFrame x env;theTreesLotGoes x)) _ _ s
 refine wpAny_noted ?_
 rw [compTurn_list]
 refine wpAny_bind (wpAny_standAt (wpAny_bind (wpAny_mono (turn n s hI) (fun r s₁ h₁=>?_) fun _ _ h'=>h'.elim)))
 cases r with
 | none=>exact wpAny_pure h₁
 | some v =>
  refine wpAny_bind (wpAny_mono h₁ (fun _ s₁' h₁'=>?_) fun _ _ h'=>h'.elim)
  refine wpAny_bind (wpAny_mono h₁' (fun _ s₂ h₂=>wpAny_bind (wpAny_mono h₂ (fun ok s₃ h₃=>?_) fun _ _ h'=>h'.elim)) fun _ _ h'=>h'.elim)
  cases ok with
  | false=>exact wpAny_pure ⟨rfl,h₃⟩
  | true =>
   exact wpAny_bind (wpAny_bind (wpAny_mono h₃ (fun x s₄ h₄=>wpAny_bind (wpAny_mono h₄ (fun _ s₅ h₅=>wpAny_pure (wpAny_pure ⟨rfl,h₅⟩)) fun _ _ h'=>h'.elim)) fun _ _ h'=>h'.elim))
def ya (J:It) (n:Nat) (js:List Nat) (g:TG) (tc:TT) (te:TE) (σ:St) (H1:Hp) (Q:VK):Prop :=
 ∃ W:Nat->Nat->List V->St->Hp->Prop,(∃ m,W 0 m [] (jK n js σ) H1)/\∀ i m ys σ' H',W i m ys σ' H' ->
  ys.length < sizeLine/\((J.stop i H'/\∀ p,H' p=none->Q (.ref p) (upd H' p (.lst ys))) \/
   (J.go i H'/\∀ x H2,J.uG i H' x H2->g x σ' H2 fun σ2 H3=>tc σ2 H3 fun b H4=>if b=true then te σ2 H4 fun y H5=>∃ m',m' < m/\W (i + 1) m' (ys ++ [y]) σ2 H5 else ∃ m',m' < m/\W (i + 1) m' ys σ2 H4))
def sN (wi:TI) (n:Nat) (js:List Nat) (g:TG) (tc:TT) (te:TE):TE:=fun σ H Q=>wi σ H fun J H1=>ya J n js g tc te σ H1 Q
section
variable {X:Cx} {pins:List (Addr×Obj)} {σ:St} {tg iter elt:Expr} {ifs:List Expr} {scope:Scope} {pos:Pos} {own fr:List Str} {js:List Nat} {g:TG} {tc:TT} {te:TE} {wi:TI}
theorem MO {H2:Hp} {s2:Shared} {it:Addr} {fp:List Addr} {tn:Nat->Heap->Prop} {J:It} {Q:VK} {E:Value->Shared->Prop} {cl:List (Str×Addr)} {RR:Value->Addr->Result->Shared->Prop}
  (hc:X.calm=true) (S:fM X scope own fr js) (hg:∀ cells C fp s H,PG (aT X (own ++ fr) scope cells C fp s H) tg g) (hf:∀ cells C fp s H,PF (aT X (own ++ fr) scope cells C fp s H) ifs tc) (he:∀ cells C fp s H,PE (aT X (own ++ fr) scope cells C fp s H) elt te)
  (I2:Inv X pins σ H2 s2) (T:Turn X.prog X.w X.K tg J fp it tn) (st2:tn 0 s2.heap) (f2:∀ b∈fp,mB X pins H2 b)
  (qe:∀ n c,(n,c)∈cl->X.env.cells.lookup n=some c/\(n,NameKind.free)∈scope.names) (sO:∀ n,(n,NameKind.free)∈scope.names->∃ c,(n,c)∈cl)
  (W:Nat->Nat->List V->St->Hp->Prop) (m0:Nat) (w0:W 0 m0 [] (jK own.length js σ) H2)
  (turn:∀ i m ys σ' H',W i m ys σ' H'->ys.length < sizeLine/\((J.stop i H'/\∀ p,H' p=none->Q (.ref p) (upd H' p (.lst ys))) \/
   (J.go i H'/\∀ x H2,J.uG i H' x H2->g x σ' H2 fun σ2 H3=>tc σ2 H3 fun b H4=>if b=true then te σ2 H4 fun y H5=>∃ m',m' < m/\W (i + 1) m' (ys ++ [y]) σ2 H5 else ∃ m',m' < m/\W (i + 1) m' ys σ2 H4)))
  (fin:∀ (acc C:Addr) (H':Hp) (s':Shared) (v:V),v=.ref acc->Inv X pins σ H' s'->mB X pins H' C->(∃ m,s'.heap.Ns C m)->Q v H'->RR (.ref acc) C (.ok .next) s') :
  wpAny (model X.prog X.w) X.A (newList []) (fun acc s3=>wpAny (model X.prog X.w) X.A (newFunctionEnv scope X.env.globals cl [] X.env.qual none .none (some X.env)) (fun cenv s4 =>
   codeAny (model X.prog X.w) X.A (.compStart (.ListComp elt [⟨tg,iter,ifs,0⟩] scope pos) 0 (.ref it) acc { cenv with scope:=relabel scope X.env }) (RR acc cenv.locals) s4) E s3) E s2:=by
 refine wpAny_newObj_type ?_
 refine QT fun h4 hns MP oZ=>?_
 have hA:s2.heap.objs.size < (s2.heap.push { cls:=.type "list",data:=.seq ([]:List Value).toArray }).objs.size:=by rw [Heap.size_push];exact Y4 _
 generalize hC:(s2.heap.push { cls:=.type "list",data:=.seq ([]:List Value).toArray }).objs.size=C at hns oZ hA ⊢
 generalize hac:s2.heap.objs.size=acc at hA ⊢
 have Jt:acc≠C:=YQ hA
 have old:∀ b o,s2.heap.get? b=some o->h4.get? b=some o:=fun b o e=>MP b o (Yq _ e)
 have hacc:h4.get? acc=some { cls:=.type "list",data:=.seq ([]:List Value).toArray }:=MP _ _ (by rw [<- hac];exact Yy _ rfl)
 have Ju:∀ x c,(x,c)∈cellsFrom (C + 1) scope.names []->h4.IsCell c none/\C + 1<=c/\scope.names.lookup x=some .cell:=fun x c h=>⟨(oZ.empty x c h).1,(oZ.empty x c h).2,Ck S.AB (Jp _ _ h).1⟩
 have lk:∀ x c,(cellsFrom (C + 1) scope.names cl).lookup x=some c->(h4.IsCell c none/\C + 1<=c/\(x,c)∈cellsFrom (C + 1) scope.names [])\/(X.env.cells.lookup x=some c/\scope.names.lookup x=some .free):=fun x c h=>by
  rw [Cj] at h
  rcases Yz.mp (PySem.mem_of_lookup h) with q | q
  ·exact .inl ⟨(Ju x c q).1,(Ju x c q).2.1,q⟩
  ·exact .inr ⟨(qe x c q).1,Ck S.AB (qe x c q).2⟩
 have Jv:∀ x c,X.env.cells.lookup x=some c->c < s2.heap.objs.size:=fun x c h=>by
  obtain ⟨v,z⟩:=I2.cell x c h
  exact z.lt
 have qF:∀ x c,(cellsFrom (C + 1) scope.names cl).lookup x=some c->c≠C/\c≠acc/\H2 c=none/\∀ b∈fp,c≠b:=fun x c h=>by
  rcases lk x c h with ⟨_,h1,_⟩ | ⟨h1,_⟩
  ·refine ⟨ML (by omega),ML (by omega),I2.hok.fresh (by omega),fun b hb z=>?_⟩
   obtain ⟨o,e,_⟩:=T.obj 0 _ st2 b hb
   have:=ltN (Yx e)
   rw [<- z] at this
   omega
  ·have:=ltN (Jv x c h1)
   exact ⟨xF (by omega),xF (by omega),I2.kL x c h1,fun b hb=>(f2 b hb).2.2.2.2.1 x c h1⟩
 have Cn:∀ x,scope.names.lookup x=some .free->∃ c,X.env.cells.lookup x=some c/\(cellsFrom (C + 1) scope.names cl).lookup x=some c:=fun x h=>by
  obtain ⟨c,MQ⟩:=sO x (PySem.mem_of_lookup h)
  have hc1:=(qe x c MQ).1
  have hs:((cellsFrom (C + 1) scope.names cl).lookup x).isSome=true:=by
   refine PySem.W.cellsFrom_some scope.names (C + 1) cl (.inr ?_)
   cases q:cl.lookup x with
   | some d=>rfl
   | none =>
    exfalso
    have:∀ {l:List (Str×Addr)},(x,c)∈l->l.lookup x≠none:=by
     intro l
     induction l with
     | nil=>intro h;exact nomatch h
     | cons p r ih =>
      intro h z
      obtain ⟨k,v⟩:=p
      rw [List.lookup_cons] at z
      cases hb:x == k with
      | true=>rw [hb] at z;cases z
      | false =>
       rw [hb] at z
       rcases YC.mp h with e | h
       ·cases e;simp at hb
       ·exact ih h z
    exact this MQ q
  obtain ⟨d,hd⟩:=Option.isSome_iff_exists.mp hs
  rcases lk x d hd with ⟨_,_,h2⟩ | ⟨h1,_⟩
  ·have:=(Ju x d h2).2.2
   rw [h] at this;cases this
  ·rw [hc1] at h1;cases h1
   exact ⟨c,hc1,hd⟩
 have FW:∀ b∈fp,b≠C/\b≠acc:=fun b hb=>by
  obtain ⟨o,e,_⟩:=T.obj 0 _ st2 b hb
  have:=ltN (Yx e)
  exact ⟨xF (by omega),xF (by omega)⟩
 have QV:(relabel scope X.env).kind=.function:=S.kind
 have ok:(aT X (own ++ fr) scope (cellsFrom (C + 1) scope.names cl) C fp s2 H2).Ok:=by
  refine ⟨I2.ok.mod,QV,I2.ok.glob,I2.ok.blt,?_,fun x y c h1 h2=>?_,fun x hx=>?_,fun x c hx h=>?_,I2.ok.hd,I2.ok.frames,.inl rfl,fun b hb=>⟨(FW b hb).1,fun x c h=>(qF x c h).2.2.2 b hb⟩,I2.bs,Yv I2.ok.vF I2.sz,fun b o e hb=>?_,fun b hb z=>?_,I2.stack,I2.qz⟩
  ·show s2.heap.objs.size<=C
   omega
  ·rcases lk x c h1 with ⟨_,q1,q2⟩ | ⟨q1,_⟩
   ·rcases lk y c h2 with ⟨_,r1,r2⟩ | ⟨r1,_⟩
    ·exact name_of_addr oZ.apart q2 r2
    ·have:=ltN (Jv y c r1);omega
   ·rcases lk y c h2 with ⟨_,r1,r2⟩ | ⟨r1,_⟩
    ·have:=ltN (Jv x c q1);omega
    ·exact I2.ok.inj x y c q1 r1
  ·have hx':(relabel scope X.env).names.lookup x=some .cell\/(relabel scope X.env).names.lookup x=some .free:=hx
   rcases MN scope X.env x with ⟨e,_⟩ | ⟨k,e1,e2⟩
   ·rcases hx' with z | z <;> (rw [e] at z;cases z)
   ·by_cases hk:k=.free
    ·subst hk
     obtain ⟨c,_,h⟩:=Cn x e1
     exact ⟨c,h⟩
    ·have hk':k=.cell:=by
      have hb:(k == NameKind.free)=false:=beq_eq_false_iff_ne.mpr hk
      rw [hb] at e2
      simp only [Bool.false_and,Zd,if_false] at e2
      rcases hx' with z | z
      ·rw [e2] at z;exact Ym z
      ·rw [e2] at z;exact absurd (Ym z) hk
     subst hk'
     exact Option.isSome_iff_exists.mp (PySem.W.cellsFrom_some scope.names (C + 1) cl (.inl e1))
  ·have hx':scope.names.lookup x=some .cell:=of_decide_eq_true hx
   show s2.heap.objs.size<=c
   rcases lk x c h with ⟨_,q,_⟩ | ⟨_,q⟩
   ·omega
   ·rw [hx'] at q;cases q
  ·rcases (f2 b hb).2.2.2.1 with z | z
   ·exact I2.ok.se b o e z
   ·have h1:@LT.lt Nat _ b X.base.objs.size:=Yx e
    have h2:=I2.ok.vF
    omega
  ·rcases YC.mp (I2.nO b z) with e | e
   ·exact (f2 b hb).2.1 e
   ·exact (f2 b hb).2.2.1 e
 have I4:Inv (aT X (own ++ fr) scope (cellsFrom (C + 1) scope.names cl) C fp s2 H2) [(acc,{ cls:=.type "list",data:=.seq ([]:List Value).toArray })] (jK own.length js σ) H2 { s2 with heap:=h4 }:=by
  refine ⟨ok,rfl,I2.bare,Un.kept old,⟨_,hns,fun i x v e1 e2 e3=>?_⟩,fun x c h=>?_,I2.hok.fresh (by show s2.heap.objs.size<=C;omega),fun x c h=>(qF x c h).2.2.1,fun p hp=>?_,I2.hok.kept old,?_⟩
  ·have AE:(own ++ fr)[i]?=some x:=e1
   unfold jK at e2
   by_cases hi:i < own.length
   ·rw [Yk (by simpa using hi),List.getElem?_replicate] at e2
    split at e2 <;> cases e2
   ·rw [Yw (by simpa using hi),List.length_replicate,Yi] at e2
    rw [Yw (by omega)] at AE
    cases hj:js[i - own.length]? with
    | none=>rw [hj] at e2;cases e2
    | some j =>
     rw [hj] at e2
     have Co:σ.getD j none=some v:=Ym e2
     have hN:X.N[j]?=some x:=by
      have q:=congrArg (fun l=>l[i - own.length]?) S.ix
      simp only [Yi,hj,AE,Option.map_some] at q
      exact Ym q
     have hσ:σ[j]?=some (some v):=by
      rw [Yn] at Co
      cases q:σ[j]? with
      | none=>rw [q] at Co;cases Co
      | some o=>rw [q] at Co;exact congrArg some Co
     have hfr:scope.names.lookup x=some .free:=S.Jr x (Yf AE)
     have hk:=S.free _ (PySem.mem_of_lookup hfr) rfl
     obtain ⟨m,_,hl⟩:=I2.loc
     obtain ⟨u,ru,lo⟩:=hl j x v hN hσ (by rcases hk with k | k;exact .inr (.inl k);exact .inr (.inr k))
     refine ⟨u,ru,.inr ⟨?_,?_⟩⟩
     ·rcases MN scope X.env x with ⟨_,e⟩ | ⟨k,q1,q2⟩
      ·rw [hfr] at e;cases e
      ·rw [hfr] at q1;cases q1
       have QW:(compEnvC scope (cellsFrom (C + 1) scope.names cl) C X.env).kindOf x=some (if (NameKind.free == .free && X.env.scope.kind == .function && X.env.kindOf x == some .cell)=true then .cell else .free):=q2
       rw [show (aT X (own ++ fr) scope (cellsFrom (C + 1) scope.names cl) C fp s2 H2).env.kindOf x=_ from QW]
       split
       ·exact .inl rfl
       ·exact .inr rfl
     ·rcases lo with ⟨k,_⟩ | ⟨_,c,hc1,hc2⟩
      ·rcases hk with k' | k' <;> (rw [k] at k';cases k')
      ·obtain ⟨d,hd1,hd2⟩:=Cn x hfr
       rw [hc1] at hd1;cases hd1
       exact ⟨c,hd2,hc2.keeps old⟩
  ·rcases lk x c h with ⟨q,_,_⟩ | ⟨q,_⟩
   ·exact ⟨_,q⟩
   ·obtain ⟨v,z⟩:=I2.cell x c q
    exact ⟨v,z.keeps old⟩
  ·have e:p=(acc,{ cls:=.type "list",data:=.seq ([]:List Value).toArray }):=by simpa [aT] using hp
   subst e
   refine ⟨hacc,I2.hok.fresh (by omega),Jt,fun z=>?_,fun v z=>nomatch z⟩
   rcases YC.mp (I2.nO acc z) with e | e
   ·have:=ltN I2.lt
    rw [<- e] at this
    omega
   ·exact I2.Bv (by omega) e
  ·show (jK own.length js σ).length=(own ++ fr).length
   have q:=congrArg List.length S.ix
   simp only [X9] at q
   unfold jK
   rw [Yc,List.length_replicate,X9,Yc,q]
 have Jw:∀ {H':Hp} {ob:Obj},(∀ b∈fp,H' b=none)->∀ b∈fp,mB (aT X (own ++ fr) scope (cellsFrom (C + 1) scope.names cl) C fp s2 H2) [(acc,ob)] H' b:=fun {H' ob} hn b hb =>
  ⟨hn b hb,(FW b hb).1,fun z=>by
   rcases YC.mp (I2.nO b z) with e | e
   ·exact (f2 b hb).2.1 e
   ·exact (f2 b hb).2.2.1 e,.inl hb,fun x c h=>(qF x c h).2.2.2 b hb,fun p hp=>by
   have e:p=(acc,ob):=by simpa [aT] using hp
   subst e
   exact fun z=>(FW b hb).2 z.symm⟩
 have loop:codeAny (model X.prog X.w) X.A (.compLoop (.ListComp elt [⟨tg,iter,ifs,0⟩] scope pos) 0 (.ref it) (.ref acc) (compEnvC scope (cellsFrom (C + 1) scope.names cl) C X.env)) (RR (.ref acc) C) { s2 with heap:=h4 }:=by
  refine QU (fun m s'=>∃ (i:Nat) (ys:List V) (its:List Value) (n:Nat) (σ':St) (H':Hp),Inv (aT X (own ++ fr) scope (cellsFrom (C + 1) scope.names cl) C fp s2 H2) [(acc,{ cls:=.type "list",data:=.seq its.toArray n })] σ' H' s'/\Vals ys its/\tn i s'.heap/\(∀ b∈fp,H' b=none)/\W i m ys σ' H') ?_ m0
   ⟨0,[],[],0,_,H2,I4,.nil,T.keep _ _ _ st2 fun b _ o e=>old b o e,fun b hb=>(f2 b hb).1,w0⟩
  rintro n s5 ⟨i,ys,its,en,σ5,H5,I5,rv,kM,FK,w5⟩
  obtain ⟨hz,alt⟩:=turn i n ys σ5 H5 w5
  rcases alt with ⟨stop,qn⟩ | ⟨go,step⟩
  ·refine cI (T.done (aT X (own ++ fr) scope (cellsFrom (C + 1) scope.names cl) C fp s2 H2) rfl rfl rfl hc i _ s5 σ5 H5 _ I5 (Jw FK) kM stop) fun r s6 ⟨hr,I6⟩=>?_
   subst hr
   show RR (.ref acc) C (.ok .next) s6
   have u:Un (frs X.stack) fp H2 H5 s2.heap s6.heap:=I6.base
   have J6:Inv X pins σ H5 s6:=I2.By I6.os u I6.hok I6.bare fun b hb=>⟨(f2 b hb).2.2.2.1,(f2 b hb).2.1,(f2 b hb).2.2.2.2.1,(f2 b hb).2.2.2.2.2⟩
   have pacc:=I6.pin (acc,_) (YI _ Ye)
   have Jx:mB X pins H5 acc:=I2.qa (by omega) pacc.2.1
   have fC:mB X pins H5 C:=I2.qa (by omega) I6.free
   have K6:Inv X pins σ (upd H5 acc (.lst ys)) s6:=J6.Cm Jx ⟨Nat.le_of_lt hz,its,en,rv,pacc.1⟩
   obtain ⟨m,hm,_⟩:=I6.loc
   exact fin acc C _ s6 (.ref acc) rfl K6 ⟨by rw [kd Jt.symm];exact fC.1,fC.2⟩ ⟨m,hm⟩ (qn acc pacc.2.1)
  ·refine cI (T.item (aT X (own ++ fr) scope (cellsFrom (C + 1) scope.names cl) C fp s2 H2) rfl rfl rfl hc i _ s5 σ5 H5 _ I5 (Jw FK) kM go) fun r s6 ⟨u,hr,h6⟩=>?_
   subst hr
   refine cI h6 fun _ s7 ⟨x,H7,I7,r7,y7,rD,QX⟩=>?_
   have QY:=I7.pinned (Jw QX) (T.obj _ _ rD)
   refine cI (hg _ _ _ _ _ _ s7 σ5 H7 x u _ QY r7 (step x H7 y7)) fun _ s8 ⟨σ8,H8,I8,q8⟩=>?_
   refine cI (hf _ _ _ _ _ _ s8 σ8 H8 _ I8 q8) fun b s9 ⟨H9,I9,q9⟩=>?_
   have FX:∀ {s':Shared} {σ':St} {H':Hp},Inv (aT X (own ++ fr) scope (cellsFrom (C + 1) scope.names cl) C fp s2 H2) ([(acc,{ cls:=.type "list",data:=.seq its.toArray en })] ++ nP fp s7.heap) σ' H' s'->tn (i + 1) s'.heap/\∀ b∈fp,H' b=none:=fun {s' σ' H'} I' =>
    ⟨T.keep _ _ _ rD fun b hb o e=>(I'.pin (b,o) (YI _ (YI _ (FJ hb e)))).1,fun b hb=>by
     obtain ⟨o,e,d⟩:=T.obj _ _ rD b hb
     exact (I'.pin (b,o) (YI _ (YI _ (FJ hb e)))).2.1⟩
   cases b with
   | false =>
    obtain ⟨m',hm,w9⟩:=q9
    exact ⟨m',hm,i + 1,ys,its,en,σ8,H9,I9.lT,rv,(FX I9).1,(FX I9).2,w9⟩
   | true =>
    refine cI (he _ _ _ _ _ _ s9 σ8 H9 _ I9 q9) fun y Jy ⟨yv,Jz,FY,QZ,m',hm,Q0⟩=>?_
    have pacc:=FY.pin (acc,_) (YI _ (List.mem_append_left _ Ye))
    have hlen:=rv.length
    refine wpAny_list_append_plain (items:=its.toArray) ⟨en,pacc.1⟩ (fun h11 ⟨MR,JA⟩ Cp=>?_) (by simp only [Yo];omega)
    have cA:∀ x c,(cellsFrom (C + 1) scope.names cl).lookup x=some c->c≠acc:=fun x c h=>(qF x c h).2.1
    have Ia:Inv (aT X (own ++ fr) scope (cellsFrom (C + 1) scope.names cl) C fp s2 H2) [] σ8 Jz Jy:=FY.nC fun p hp=>nomatch hp
    have Ib:Inv (aT X (own ++ fr) scope (cellsFrom (C + 1) scope.names cl) C fp s2 H2) [] σ8 Jz { Jy with heap:=h11 }:=Ia.turned (it:=acc) (t':=Jy.toks) (fun b o hb e=>(Cp.2 b hb).trans e) pacc.2.1 Jt (.inr (by show s2.heap.objs.size<=acc;omega)) cA fun p hp=>nomatch (show p∈([]:List (Addr×Obj)) from by simpa [aT] using hp)
    refine ⟨m',hm,i + 1,ys ++ [yv],its ++ [y],MR,σ8,Jz,Ib.nC fun p hp=>?_,rv.append (.cons QZ .nil),T.keep _ _ _ (FX FY).1 fun b hb o e=>(Cp.2 b (FW b hb).2).trans e,(FX FY).2,Q0⟩
    have e:p=(acc,{ cls:=.type "list",data:=.seq (its ++ [y]).toArray MR }):=by simpa using hp
    subst e
    exact ⟨by simpa using JA,pacc.2.1,pacc.2.2.1,pacc.2.2.2.1,fun v z=>nomatch z⟩
 exact codeAny_compStart_list loop (T.self X.A 0 _ _ _ (T.keep _ _ _ st2 fun b _ o e=>old b o e) loop)
theorem qG (hc:X.calm=true) (S:fM X scope own fr js) (hi:PI X tg iter wi) (hg:∀ cells C fp s H,PG (aT X (own ++ fr) scope cells C fp s H) tg g) (hf:∀ cells C fp s H,PF (aT X (own ++ fr) scope cells C fp s H) ifs tc) (he:∀ cells C fp s H,PE (aT X (own ++ fr) scope cells C fp s H) elt te)
  (hs:∀ x,foldedSetIterable iter X.env x=pure x:=by intro _;rfl):PE X (.ListComp elt [⟨tg,iter,ifs,0⟩] scope pos) (sN wi own.length js g tc te):=by
 intro pins s σ H Q I h
 obtain ⟨cl,hcl,qe,sO⟩:=MK (scope:=scope) (env:=X.env) fun y hy hk=>I.ok.has y.1 (S.free y hy hk)
 rw [eval_ListComp]
 refine wpAny_comprehension_free (use:=none) rfl hs hcl S.kind (fun y hy hk=>by rw [<- hk];exact Ck S.AB hy) (cI (hi pins s σ H _ I h) fun v s1 h1=>cI h1 fun itv s2 h2=>?_)
 obtain ⟨it,fp,tn,J,H2,e,I2,T,st2,f2,W,⟨m0,w0⟩,turn⟩:=h2
 subst e
 refine MO (RR:=fun acc C=>compPost (model X.prog X.w) X.A X.xe none (EP X pins σ Q) acc C) hc S hg hf he I2 T st2 f2 qe sO W m0 w0 turn ?_
 intro acc C H' s' v hv I' fC ⟨m,hm⟩ q
 subst hv
 obtain ⟨f0,f1,Q5,f3,f4,f5⟩:=fC
 exact ⟨m,hm,fun h'' yb=>⟨.ref acc,H',I'.turned (it:=C) (t':=s'.toks) (fun b o hb e=>(yb.2 b hb).trans e) f0 f1 f3 f4 f5,rfl,q⟩⟩
theorem MS {i:Nat} {x:Str} {pos' spos:Pos} (hc:X.calm=true) (hN:X.N.Nodup) (hx:X.N[i]?=some x) (hl:X.env.scope.names.lookup x=some .local) (S:fM X scope own fr js) (hi:PI X tg iter wi) (hg:∀ cells C fp s H,PG (aT X (own ++ fr) scope cells C fp s H) tg g) (hf:∀ cells C fp s H,PF (aT X (own ++ fr) scope cells C fp s H) ifs tc) (he:∀ cells C fp s H,PE (aT X (own ++ fr) scope cells C fp s H) elt te)
  (hsw:swapsWith (.ListComp elt [⟨tg,iter,ifs,0⟩] scope pos) (some (.Name x pos')) spos.line X.env=pure true:=by rfl)
  (hs:∀ x,foldedSetIterable iter X.env x=pure x:=by intro _;rfl):PS X (.Assign [.Name x pos'] (.ListComp elt [⟨tg,iter,ifs,0⟩] scope pos) spos) (uF (sN wi own.length js g tc te) (pQ i)):=by
 intro pins s σ H D I h
 obtain ⟨cl,hcl,qe,sO⟩:=MK (scope:=scope) (env:=X.env) fun y hy hk=>I.ok.has y.1 (S.free y hy hk)
 rw [exec_Assign_Name_used _ _ _ _ hsw]
 refine wpAny_bind (wpAny_standAt (wpAny_bind ?_))
 show wpAny _ X.A (do let _ <- comprehension (.ListComp elt [⟨tg,iter,ifs,0⟩] scope pos) scope X.env _ (newList []) false (eval iter X.env) (some (assign (.Name x pos') X.env))) _ _ s
 refine wpAny_bind (wpAny_mono (wpAny_comprehension_free (use:=some (assign (.Name x pos') X.env)) (Q:=fun _ s'=>SP X pins D .next s') rfl hs hcl S.kind (fun y hy hk=>by rw [<- hk];exact Ck S.AB hy)
  (cI (hi pins s σ H _ I h) fun v s1 h1=>cI h1 fun itv s2 h2=>?_)) (fun _ s' hq=>wpAny_pure (wpAny_pure hq)) fun _ _ e=>e)
 obtain ⟨it,fp,tn,J,H2,e,I2,T,st2,f2,W,⟨m0,w0⟩,turn⟩:=h2
 subst e
 refine MO (Q:=fun v H'=>pQ i v σ H' D.nx) (RR:=fun acc C=>compPost (model X.prog X.w) X.A X.xe (some (assign (.Name x pos') X.env)) (fun _ s'=>SP X pins D .next s') acc C) hc S hg hf he I2 T st2 f2 qe sO W m0 w0 turn ?_
 intro acc C H' s' v hv I' fC ⟨m,hm⟩ q
 subst hv
 obtain ⟨f0,f1,Q5,f3,f4,f5⟩:=fC
 show wpAny _ X.A (assign (.Name x pos') X.env (.ref acc)) _ _ _
 refine wpAny_assign_Name (LR I' hN hx (.inl hl) (show RelV (.ref acc) (.ref acc) from rfl) (fun s'' Q6 ⟨a,hs1,ha⟩=>?_) (.inr hl))
 have haC:a≠C:=by
  rcases ha with e | e
  ·rw [e];exact f1.symm
  ·exact f4 _ _ e
 exact ⟨m,hm.sameBut hs1 haC.symm,fun h'' yb=>⟨_,H',Q6.turned (it:=C) (t':=s''.toks) (fun b o hb e=>(yb.2 b hb).trans e) f0 f1 f3 f4 f5,q⟩⟩
end
section
variable {X:Cx}
end
section
variable {prog:Program} {w:World} {A:Around} {E:Value->Shared->Prop} {s:Shared}
end
section
variable {X:Cx}
end
mutual
def wD:PyData->Nat
 | .none=>4
 | .bool _=>5
 | .int _=>1921
 | .str x=>(reprText x).length
 | .list _=>0
 | .tuple xs=>Cq xs + 3
 | .dict _=>0
def Cq:List PyData->Nat
 | []=>0
 | x :: xs=>wD x + 2 + Cq xs
end
section
variable {K:Zfr} {ch:List Addr} {H H':Hp}
end
def kW (ns:List Int):PyData:=.tuple (cW ns)
theorem JB:∀ (rs:List (List Int)),PyData.canLayAll0 (rs.map kW)=true
 | []=>rfl
 | r :: rs=>by
  show (PyData.canLayAll0 (cW r) && PyData.canLayAll0 (rs.map kW))=true
  rw [x8,JB rs];rfl
theorem MT:∀ (rs:List (List Int)),PyData.depthAll (rs.map kW)<=1
 | []=>YN _
 | r :: rs=>by
  show max (PyData.depthAll (cW r) + 1) (PyData.depthAll (rs.map kW))<=1
  have:=MT rs
  rw [Az];omega
def JC (i:Int):Prop:=-1000000000000000000<=i/\i<=1000000000000000000
end L2
namespace L2
open PySem PySem.Spec PyProof.Rows
section
variable {X:Cx} {K:Zfr}
theorem AF (hK:X.K=K):B2 X (xV K):=by subst hK;exact lV
theorem wj (hK:X.K=K):B2 X (xW K):=by subst hK;exact cj
theorem MU (hK:X.K=K):kH X (compareOp .NotIn) (Jb K true):=by subst hK;exact FP
theorem Q7 (hK:X.K=K) (hu:X.A.units + 64 < cLine):kH X (compareOp .Eq) (uN K false):=by subst hK;exact Jn hu
theorem Q8 (hK:X.K=K):d9 X (.builtin "len") (fun xs H Q=>∃ p ys,xs=[V.ref p]/\(iy K H p ys\/d8 K H p ys)/\Q (.int ys.length) H):=by subst hK;exact mD
theorem MV (hK:X.K=K):d9 X (.type "tuple") (fun xs H Q=>∃ p ys,xs=[V.ref p]/\((iy K H p ys/\∀ l,H l=none->Q (.ref l) (upd H l (.tup ys)))\/(d8 K H p ys/\Q (.ref p) H))):=by subst hK;exact oB
theorem Q9 {tg l:Expr} {tl:TE} (hK:X.K=K) (hl:PE X l tl):PI X tg l (sv K tl):=by subst hK;exact FI hl
end
section
variable {prog:Program} {w:World} {A:Around} {E:Value->Shared->Prop} {s:Shared}
theorem Ra {j t:Addr} {i:Nat} {ys:Array Value} {y:Value} {Q:Value->Shared->Prop} (hj:s.heap.IsTupleIter j t i) (ht:s.heap.IsTuple t ys) (hy:ys[i]?=some y)
  (hQ:∀ h',h'.IsTupleIter j t (i + 1)->Heap.SameBut j s.heap h'->Q y { s with heap:=h' }):wpAny (model prog w) A (Builtin.SmallTypes.nextOf (.ref j)) Q E s:=by
 obtain ⟨r,hr,rc,rd⟩:=id hj
 obtain ⟨q,hq,_,nq,dq⟩:=ht
 unfold Builtin.SmallTypes.nextOf
 refine wpAny_bind (wpAny_callSpecial?_slot (name:=Str.ofString "__next__") hj.typeIs F.slot_tuple_iterator_next (wpAny_call_entry F.slot_tuple_iterator_next hj.typeIs F.entry_tuple_iterator_next ?_ (F.args_tuple_iterator_next_1 _)))
 show wpAny _ _ (PySem.field (.ref j) 0 >>= _) _ _ s
 refine wpAny_bind (wpAny_field hr rd (x:=.ref t) rfl ?_);show wpAny _ _ (if (Value.ref t == Value.none)=true then _ else _) _ _ s
 rw [if_neg (fun z:(Value.ref t == Value.none)=true=>Yh z)];show wpAny _ _ (PySem.field (.ref j) 1 >>= _) _ _ s
 refine wpAny_bind (wpAny_field hr rd (x:=.int i 0) rfl ?_);show wpAny _ _ (seqItems? (.ref t) >>= _) _ _ s
 refine wpAny_bind (wpAny_seqItems hq dq ?_);simp only [Yl,hy]
 refine wpAny_bind (wpAny_setField hr rd (by simp) (wpAny_pure ⟨y,rfl,wpAny_pure (hQ _ ⟨_,Heap.get?_update_self _ hr (Obj.isFreed_of_fields (Obj.data_mapFields rd _)),(Obj.cls_mapFields ..).trans rc,by rw [Obj.data_mapFields rd];simp [rawInt]⟩ (Heap.SameBut.update ..))⟩))
theorem Rb {j t:Addr} {i:Nat} {ys:Array Value} {Q:Value->Shared->Prop} (hh:A.handled=none) (hj:s.heap.IsTupleIter j t i) (ht:s.heap.IsTuple t ys) (hy:ys[i]?=none)
  (hE:∀ h' e,Heap.ExtBut j s.heap h'->(∃ o,h'.get? e=some o/\o.cls=.type "StopIteration")->E (.ref e) { s with heap:=h' }):wpAny (model prog w) A (Builtin.SmallTypes.nextOf (.ref j)) Q E s:=by
 obtain ⟨r,hr,rc,rd⟩:=id hj
 obtain ⟨q,hq,_,nq,dq⟩:=ht
 unfold Builtin.SmallTypes.nextOf
 refine wpAny_bind (wpAny_callSpecial?_slot (name:=Str.ofString "__next__") hj.typeIs F.slot_tuple_iterator_next (wpAny_call_entry F.slot_tuple_iterator_next hj.typeIs F.entry_tuple_iterator_next ?_ (F.args_tuple_iterator_next_1 _)))
 show wpAny _ _ (PySem.field (.ref j) 0 >>= _) _ _ s
 refine wpAny_bind (wpAny_field hr rd (x:=.ref t) rfl ?_);show wpAny _ _ (if (Value.ref t == Value.none)=true then _ else _) _ _ s
 rw [if_neg (fun z:(Value.ref t == Value.none)=true=>Yh z)];show wpAny _ _ (PySem.field (.ref j) 1 >>= _) _ _ s
 refine wpAny_bind (wpAny_field hr rd (x:=.int i 0) rfl ?_);show wpAny _ _ (seqItems? (.ref t) >>= _) _ _ s
 refine wpAny_bind (wpAny_seqItems hq dq ?_);simp only [Yl,hy]
 refine wpAny_bind (wpAny_rule (wpAny_bind (wpAny_setField hr rd (by simp) ?_)));show wpAny _ _ (newExc (.type "StopIteration") [] >>= _) _ _ _
 refine wpAny_bind ?_;simp only [newExc,newTuple]
 refine wpAny_bind (wpAny_newObj_type ?_ (by size_fits));refine wpAny_bind (m:=firstArgMember _ _) (wpAny_of_eq (a:=Value.none) (by first | rfl | (simp only [firstArgMember];rfl)) ?_)
 refine wpAny_newObj_type ?_ (by size_fits);simp only [raiseNew]
 refine wpAny_bind (wpAny_handled ?_);first | rw [show A.in1.handled=none from hh] | rw [hh]
 exact wpAny_bind (wpAny_pure (wpAny_throw (hE _ _ (((Heap.SameBut.update ..).extBut.push _).push _) ⟨_,Yy _ rfl,rfl⟩)))
end
theorem sP {prog:Program} {w:World} {A:Around} (hh:A.handled=none) (j t:Addr) (hne:t≠j) (ys:Array Value) :
  Draws prog w A j [j,t] ys.size (fun i v=>ys[i]?=some v) (fun i h=>h.IsTupleIter j t i/\h.IsTuple t ys) where
 live:=fun _ _ st=>let ⟨o,ho,_⟩:=st.1;⟨o,ho⟩
 frame:=fun _ _ _ st k=>⟨st.1.at fun o e=>k j (by simp) o e,let ⟨o,e,r⟩:=st.2;⟨o,k t (by simp) o e,r⟩⟩
 item:=fun i s Q E hi st hQ=>Ra st.1 st.2 (y:=ys[i]) (by simp [hi]) fun h' a b=>hQ _ h' s.toks (by simp [hi]) ⟨a,st.2.extBut b.extBut hne⟩ b
 done:=fun s Q E st hE=>Rb hh st.1 st.2 (by simp) hE
theorem Rc (l:Addr) (items:Array Value) (n:Nat) (dct:Option Addr) (sl:Array (Option Value)) :
  Meets (Builtin.«enumerate.__new__» ⟨[.type "enumerate",.ref l],[]⟩) (fun _ R s=>s.heap.get? l=some { cls:=.type "tuple",dict:=dct,data:=.seq items n,slots:=sl } /\
   R (.ok (.ret (.ref (s.heap.push { cls:=.type "tuple_iterator",data:=.fields #[.ref l,.int 0 0] }).objs.size)))
    { s with heap:=(s.heap.push { cls:=.type "tuple_iterator",data:=.fields #[.ref l,.int 0 0] }).push { cls:=.type "enumerate",data:=.fields #[.none,.bool false,.ref s.heap.objs.size,rawInt 0,.none,.none] } }) :=
 .of_wp fun prog w A R s h=>by
  obtain ⟨hp,g,d,tk,os⟩:=s;obtain ⟨hl,h⟩:=h
  have hsub:=sub_enumerate
  have hL:Heap.IsTuple (Shared.heap ⟨hp,g,d,tk,os⟩) l items:=⟨_,hl,rfl,n,rfl⟩
  wp_walk using AutoSeq1.wpAny_loadPart' hl
  refine wpAny_stack_any fun st=>wpAny_pure ?_
  split
  ·rename_i c _ _ _ _ _
   cases (c == Value.type "enumerate") <;> (wp_walk using AutoSeq1.wpAny_loadPart' hl,wpAny_pyIter_tuple hL;exact ⟨_,rfl,h⟩)
  ·wp_walk using AutoSeq1.wpAny_loadPart' hl,wpAny_pyIter_tuple hL
   exact ⟨_,rfl,h⟩
section
variable {prog:Program} {w:World} {A:Around} {E:Value->Shared->Prop} {s:Shared}
theorem Rf {l:Addr} {ys:Array Value} {Q:Value->Shared->Prop} (ht:s.heap.IsTuple l ys)
  (h:∀ h',IsEnum h' (s.heap.objs.size + 1) s.heap.objs.size 0 .none->h'.IsTupleIter s.heap.objs.size l 0->h'.objs.size=s.heap.objs.size + 2 ->
   (∀ b o,s.heap.get? b=some o->h'.get? b=some o)->Q (.ref (s.heap.objs.size + 1)) { s with heap:=h' }):wpAny (model prog w) A (call (.type "enumerate") [.ref l]) Q E s:=by
 obtain ⟨⟨c,dct,dt,sl⟩,hl,hc,n,hd⟩:=ht
 cases (show c=.type "tuple" from hc)
 cases (show dt=.seq ys n from hd)
 refine callType_new F.called_enumerate (by decide) (F.typeCall_enumerate_1 _) (F.newCall_enumerate_1 _) (fun obj=>F.args_object_init_2 obj _) F.entry_enumerate_new (Rc l ys n dct sl) ⟨hl,?_⟩
 have z:(s.heap.push { cls:=.type "tuple_iterator",data:=.fields #[.ref l,.int 0 0] }).objs.size=s.heap.objs.size + 1:=Heap.size_push ..
 show _/\_;rw [z]
 have en:IsEnum ((s.heap.push { cls:=.type "tuple_iterator",data:=.fields #[.ref l,.int 0 0] }).push { cls:=.type "enumerate",data:=.fields #[.none,.bool false,.ref s.heap.objs.size,rawInt 0,.none,.none] }) (s.heap.objs.size + 1) s.heap.objs.size 0 .none:=by
  have g:=Yy (s.heap.push { cls:=.type "tuple_iterator",data:=.fields #[.ref l,.int 0 0] }) (o:={ cls:=.type "enumerate",data:=.fields #[.none,.bool false,.ref s.heap.objs.size,rawInt 0,.none,.none] }) rfl
  rw [z] at g
  exact g
 exact ⟨⟨_,en,rfl⟩,h _ en ⟨_,Yq _ (Yy _ rfl),rfl,rfl⟩ (by rw [Heap.size_push,z]) fun b o e=>Yq _ (Yq _ e)⟩
end
section
variable {X:Cx} {pins:List (Addr×Obj)} {σ:St} {H:Hp} {s:Shared} {h':Heap}
theorem Inv.uP {t':Nat} {ch:List Addr} (I:Inv X pins σ H s) (k:∀ b o,b ∉ ch->s.heap.get? b=some o->h'.get? b=some o) (f:∀ b∈ch,mB X pins H b):Inv X pins σ H { s with heap:=h',toks:=t' }:=by
 have Bx:∀ b u,H b=some u->b ∉ ch:=fun b u e z=>by rw [(f b z).1] at e;cases e
 refine I.step (g':=s.gens) (d':=s.drawn) (ch:=ch) (fun b hb=>⟨(f b hb).2.2.2.1,(f b hb).2.1,(f b hb).2.2.2.2.1,(f b hb).2.2.2.2.2⟩) (fun b o _ _ hc e _=>k b o hc e) (fun b o _ _ hc e _=>⟨o.slots,k b o hc e⟩) (fun _ _ _ _ n=>n)
  (fun b o hc e=>⟨o,k b o hc e⟩) (fun _ _ e=>e) (fun _ _ _ e=>e) (fun b ps e=>⟨#[],by rw [e];simp⟩) (fun m hm=>?_) (fun b u e=>?_) I.bare
 ·obtain ⟨o,es,ep,ho,r⟩:=hm
  exact ⟨o,es,ep,k _ o (fun z=>(f _ z).2.1 rfl) ho,r⟩
 ·refine (I.hok b u e).stay (fun c v hc q=>k c v ?_ q) (fun _ q=>q) fun _ _ q=>q
  rcases hc with z | z
  ·rw [z];exact Bx b u e
  ·exact Bx c _ z
end
def MW (K:Zfr) (a:Addr):It :=
 ⟨fun i H=>∃ xs x,d8 K H a xs/\xs[i]?=some x,fun i H x H'=>∃ p y,x=.ref p/\H p=none/\H'=upd H p (.tup [.int i,y])/\∀ xs,d8 K H a xs->xs[i]?=some y,fun i H=>∃ xs,d8 K H a xs/\xs.length=i⟩
theorem Rg {P:Program} {w:World} {K:Zfr} {es:List Expr} {x1} {pos:Pos} (a e it:Addr) (hne:e≠it) :
  Turn P w K (.Tuple es x1 pos) (MW K a) [e,it] e (fun i h=>(∃ old,IsEnum h e it i old)/\h.IsTupleIter it a i) where
 mem:=by simp
 obj:=fun i h st b hb=>by
  obtain ⟨⟨old,he⟩,o,e2,c,d⟩:=st
  rcases YC.mp hb with rfl | hb
  ·exact ⟨_,he,fun v z=>by
    have z':Data.fields _=Data.cell v:=z
    cases z'⟩
  ·have q:b=it:=by simpa using hb
   subst q
   exact ⟨o,e2,fun v z=>by rw [d] at z;cases z⟩
 keep:=fun i h h' st k=>⟨let ⟨old,he⟩:=st.1;⟨old,k e (by simp) _ he⟩,st.2.at fun o q=>k it (by simp) o q⟩
 item:=by
  intro X hP hw hK hc i pins s σ H E I hf st hg
  subst hP hw hK
  obtain ⟨xs,x,hq,hx⟩:=hg
  obtain ⟨its,rv,p,hz⟩:=I.tuple hq
  obtain ⟨u,hu,ru⟩:=rv.get hx
  obtain ⟨⟨old,he⟩,hit⟩:=st
  have ht:s.heap.IsTuple a its.toArray:=p
  have JD:a≠it:=fun z=>by
   obtain ⟨o,e1,c1,_⟩:=hit
   obtain ⟨o2,e2,c2,_⟩:=ht
   rw [z,e1] at e2;cases e2
   exact absurd (c1.symm.trans c2) (by simp)
  have Rh:e≠a:=fun z=>by
   obtain ⟨o2,e2,c2,_⟩:=ht
   rw [<- z,he] at e2;cases e2
   exact absurd c2 (by simp)
  have hl:=rv.length
  have hi:i < its.toArray.size:=by
   have:=Ya.mp hu
   obtain ⟨q,_⟩:=this
   simpa using q
  refine wpAny_pyNext_enum_itemD (sP (A:=X.A.in1) (I.ok.hd hc) it a JD its.toArray) he ⟨hit,ht⟩ hi hne (by simp [hne,Rh]) fun y h1 tk hy ho hst hT hsz kk=>?_
  have ey:y=u:=by
   have:its.toArray[i]?=some u:=by simpa using hu
   exact Ym (hy.symm.trans this)
  subst ey
  refine ⟨_,rfl,wpAny_letOwnedTupleGo_enum ho fun h2 Ri sb=>?_⟩
  have hel:@LT.lt Nat _ e s.heap.objs.size:=Yx he
  have hil:@LT.lt Nat _ it s.heap.objs.size:=by obtain ⟨o,e1,_⟩:=hit;exact Yx e1
  have JE:H s.heap.objs.size=none:=I.hok.fresh (Yd _)
  have sb':Heap.SameBut e h1 h2:=sb
  have I1:Inv X pins σ (upd H s.heap.objs.size (.tup [.int i,x])) { s with heap:=s.heap.push { cls:=.type "tuple",data:=.seq #[.int i tk,y] },toks:=s.toks } :=
   I.laid (fun b u e=>Yq _ e) (Yd _) ⟨(by decide:2<=sizeLine),[.int i tk,y],.cons ⟨tk,rfl⟩ (.cons ru .nil),⟨_,Yy _ rfl,rfl,rfl,_,rfl⟩⟩
  have nn:∀ b∈[e,it],@LT.lt Nat _ b s.heap.objs.size:=fun b hb=>by
   rcases YC.mp hb with rfl | hb
   ·exact hel
   ·have q:b=it:=by simpa using hb
    rw [q];exact hil
  have hn:∀ b∈[e,it],upd H s.heap.objs.size (.tup [.int i,x]) b=none:=fun b hb=>by
   unfold upd
   rw [if_neg (YQ (nn b hb))]
   exact (hf b hb).1
  have I2:Inv X pins σ (upd H s.heap.objs.size (.tup [.int i,x])) { s with heap:=h2,toks:=tk + 1 }:=by
   refine Inv.uP (s:={ s with heap:=s.heap.push { cls:=.type "tuple",data:=.seq #[.int i tk,y] },toks:=s.toks }) (h':=h2) I1 (ch:=[e,it]) (t':=tk + 1) (fun b o hb q=>?_) fun b hb=>⟨hn b hb,(hf b hb).2⟩
   have nb:b≠e/\b≠it:=by simpa using hb
   refine (sb'.2 b nb.1).trans ?_
   rcases Heap.get?_push_cases q with ⟨rfl,rfl⟩ | q
   ·exact hT
   ·exact kk b o nb.1 nb.2 q
  refine ⟨.ref s.heap.objs.size,_,I2,rfl,⟨_,x,rfl,JE,rfl,fun ys uQ=>by rw [I.h9 uQ hq];exact hx⟩,⟨⟨y,?_⟩,?_⟩,hn⟩
  ·have:((i + 1:Nat):Int)=(i:Int) + 1:=by omega
   rw [this];exact Ri
  ·exact hst.1.extBut sb'.extBut (Ne.symm hne)
 done:=by
  intro X hP hw hK hc i pins s σ H E I hf st hg
  subst hP hw hK
  obtain ⟨xs,hq,hx⟩:=hg
  obtain ⟨its,rv,p,hz⟩:=I.tuple hq
  obtain ⟨⟨old,he⟩,hit⟩:=st
  have ht:s.heap.IsTuple a its.toArray:=p
  have JD:a≠it:=fun z=>by
   obtain ⟨o,e1,c1,_⟩:=hit
   obtain ⟨o2,e2,c2,_⟩:=ht
   rw [z,e1] at e2;cases e2
   exact absurd (c1.symm.trans c2) (by simp)
  have hl:=rv.length
  have ei:its.toArray.size=i:=by simp;omega
  refine wpAny_pyNext_enum_endD (sP (A:=X.A.in1) (I.ok.hd hc) it a JD its.toArray) he (by rw [ei];exact ⟨hit,ht⟩) fun h1 eb=>⟨rfl,?_⟩
  obtain ⟨f0,f1,f2,f3,f4,f5⟩:=hf it (by simp)
  exact I.turned (t':=s.toks) (fun b o hb q=>eb b o hb q) f0 f1 f3 f4 f5
 self:=fun _ _ _ _ _ st h=>let ⟨_,he⟩:=st.1;wpAny_pyIter_enum he h
def wm (K:Zfr) (ta:TA):TI:=fun σ H R=>ta σ H fun vs H1=>∃ a,vs=[.ref a]/\(∃ xs,d8 K H1 a xs)/\R (MW K a) H1
theorem MX {X:Cx} {es:List Expr} {x1} {p0:Pos} {l:Expr} {ta:TA} {p pos:Pos} (hg:Gl X "enumerate") (hm:X.mg "enumerate" = none) (ha:PA X [l] ta) (hs:starEach [l] X.env=[(false,eval l X.env)]:=by rfl) :
  PI X (.Tuple es x1 p0) (.Call (.Name "enumerate" p) [l] [] pos) (wm X.K ta):=by
 intro pins s σ H R I h
 refine Call_ (xI I hg hm boot_enumerate (PyProof.Rows.callWith_type1 (cI (ha pos pins s σ H _ I h) fun us s1 ⟨vs,H1,I1,r1,q1⟩=>?_) hs rfl))
 obtain ⟨a,e,⟨xs,hq⟩,q⟩:=q1
 subst e
 cases r1 with
 | cons r rr =>
  cases rr
  cases r
  obtain ⟨its,rv,p,hz⟩:=I1.tuple hq
  refine Rf (show s1.heap.IsTuple a its.toArray from p) fun h1 he hi hsz kk=>?_
  refine wpAny_pyIter_enum he ?_
  refine ⟨s1.heap.objs.size + 1,[s1.heap.objs.size + 1,s1.heap.objs.size],_,_,H1,rfl,I1.kept (t':=s1.toks) kk,Rg a _ _ (Nat.succ_ne_self _),⟨⟨_,he⟩,hi⟩,fun b hb=>?_,q⟩
  have hb':@LE.le Nat _ s1.heap.objs.size b:=by
   rcases YC.mp hb with rfl | hb
   ·exact Nat.le_succ _
   ·have e:b=s1.heap.objs.size:=by simpa using hb
    rw [e];exact Yd _
  exact I1.qa hb' (I1.hok.fresh hb')
section
open Sem (wp)
open PySem.AutoSeq1 (wpAny_loadPart')
open PySem.MeetsSeq PySem.MeetsSeq2 PySem.MeetsSeq3
theorem IntsAre.get {vs:List Value} {ns:List Int} (h:IntsAre vs ns):∀ {i:Nat} {n:Int},ns[i]?=some n->∃ t,vs[i]?=some (.int n t):=by
 induction h with
 | nil=>intro i n e;simp at e
 | cons a t h ih =>
  intro i n e
  cases i with
  | zero=>exact ⟨t,by simpa using e⟩
  | succ i=>simpa using ih (by simpa using e)
theorem sQ (l:Addr) (items:Array Value) (n:Nat) (dd:Option Addr) (sl:Array (Option Value)) (ns:List Int) (hi:IntsAre items.toList ns) (v:Int) (t:Tok) (j:Nat) (hj:ns[j]?=some v) (hb:∀ i,i < j->ns[i]?≠some v) :
  Meets (Builtin.«tuple.index» ⟨[.ref l,.int v t],[]⟩)
   (fun _ R s=>s.heap.get? l=some { cls:=.type "tuple",dict:=dd,data:=.seq items n,slots:=sl }/\R (.ok (.ret (.int (j:Int) s.toks))) { s with toks:=s.toks + 1 }) :=
 .of_wp fun prog w A R s h=>by
  obtain ⟨hp,g,d,tk,os⟩:=s;obtain ⟨hl,h⟩:=h
  have z1:items.size=ns.length:=by rw [<- hi.length];simp
  have hjl:j < ns.length:=(Ya.mp hj).1
  wp_walk using wpAny_loadPart' hl
  have key:wpAny (model prog w) A.in1 (forIn (m:=Sem) [:min items.size items.size] ((none,()):Option Fin×Unit) (fun (i:Nat) _ =>
    match items[i]? with
    | some y=>do
     let b <- eqBool y (Value.int v t)
     if b=true then do
      let r <- retInt (i:Int)
      pure (ForInStep.done (some r,()))
     else pure (ForInStep.yield (none,()))
    | _=>pure (ForInStep.yield (none,()))))
   (fun a s'=>a.1=some (.done (.ret (.int (j:Int) tk)))/\s'=⟨hp,g,d,tk + 1,os⟩) (fun e s'=>R (Except.error e) s') ⟨hp,g,d,tk,os⟩:=by
   rw [Std.Legacy.Range.forIn_eq_forIn_range']
   have ez:([:min items.size items.size]:Std.Legacy.Range).size=ns.length:=by
    simp [Std.Legacy.Range.size,z1]
   rw [ez]
   refine wpAny_forIn_list _ (fun rest b s'=>b.1=none/\s'=⟨hp,g,d,tk,os⟩/\∃ k,k<=j/\rest=List.range' k (ns.length - k) 1) _ ?_ ?_ _ _ ⟨rfl,rfl,0,YN _,by simp⟩
   ·rintro x rest b s' ⟨hb',rfl,k,hk,e⟩
    have el:ns.length - k=(ns.length - (k + 1)) + 1:=by omega
    rw [el,List.range'_succ] at e
    injection e with e1 e2
    subst e1
    have oC:x < ns.length:=by omega
    obtain ⟨t',ht'⟩:=IntsAre.get hi (Yb oC)
    have Rj:items[x]?=some (.int ns[x] t'):=by rw [<- ht',Array.getElem?_toList]
    simp only [Rj]
    obtain ⟨e,he,hiff⟩:=HT.Qh A.in1 ⟨hp,g,d,tk,os⟩ ns[x] t' v t
    refine wpAny_bind (he prog w _ _ ?_)
    cases e with
    | true =>
     have ev:ns[x]=v:=hiff.mp rfl
     have Rm:x=j:=by
      rcases Nat.lt_or_ge x j with h' | h'
      ·exact absurd (by rw [Yb oC,ev]) (hb x h')
      ·omega
     subst Rm
     wp_walk
     first | exact ⟨rfl,rfl⟩ | trivial
    | false =>
     have ev:ns[x]≠v:=fun q=>absurd (hiff.mpr q) Yh
     have:x≠j:=fun z=>ev (by subst z;rw [Yb oC] at hj;exact Ym hj)
     wp_walk
     exact ⟨rfl,rfl,x + 1,by omega,e2⟩
   ·rintro b s' ⟨hb',rfl,k,hk,e⟩
    have:(List.range' k (ns.length - k) 1).length=0:=by rw [<- e];rfl
    rw [List.length_range'] at this
    omega
  refine wpAny_mono key (fun a s' ha=>?_) (fun _ _ z=>z)
  obtain ⟨ha,rfl⟩:=ha
  obtain ⟨a1,a2⟩:=a
  cases (show a1=_ from ha)
  exact wpAny_pure ⟨_,rfl,h⟩
end
section
variable {X:Cx} {K:Zfr}
def qf (K:Zfr):V->List V->Hp->VK->Prop:=fun x vs H Q=>∃ (a:Addr) (ns:List Int) (v:Int) (j:Nat),x=.ref a/\vs=[.int v]/\d8 K H a (ns.map V.int)/\ns[j]?=some v/\(∀ i,i < j->ns[i]?≠some v)/\Q (.int (j:Int)) H
theorem Rn:vT X "tuple.index" (qf X.K):=by
 intro pins s σ H x xs v us Q I rx rv h
 obtain ⟨a,ns,y,j,rfl,rfl,hq,hj,hb,q⟩:=h
 cases rx
 obtain ⟨u,rfl,t,rfl⟩:=vals1 rv
 obtain ⟨its,r,⟨⟨c,dd,dt,sl⟩,e,hc,hd,n,hdt⟩,hz⟩:=I.oW hq
 cases (show c=.type "tuple" from hc)
 cases (show dt=.seq its.toArray n from hdt)
 refine call_meets F.slot_tuple_index ⟨_,e,rfl⟩ F.entry_tuple_index (F.args_tuple_index_2 _ _) (sQ a its.toArray n dd sl ns (by simpa using Mq r) y t j hj hb) ⟨e,?_⟩
 exact ⟨.int j,H,I.tok _,⟨_,rfl⟩,q⟩
theorem JF (hK:X.K=K):vT X "tuple.index" (qf K):=by subst hK;exact Rn
theorem FZ {o e:Expr} {es:List Expr} {to:TE} {t:TA} {name:Str} {apos cpos:Pos} {T id:String} {r:V->List V->Hp->VK->Prop} (hK:X.K=K) (pa:PlainAttrs T) (slot:Slot T name id) (hty:typeOf (.builtin id)=pure (.type "method_descriptor")) (hm:vT X id r) (ho:PE X o to) (ha:PA X (e :: es) t)
  (hbase:attributeBase o name X.env (eval o X.env)=eval o X.env:=by rfl)
  (hfew:((backTo cpos (starEach (e :: es) X.env)).all (fun x=>!x.1) && (backToKw cpos (keywordEach [] X.env)).all (fun x=>x.1.isSome)
   && decide ((e :: es).length + ([]:List Keyword).length + (if ([]:List Keyword).isEmpty then 0 else 1) < 30))=true:=by rfl)
  (hline:(apos.endLine == cpos.line)=true:=by rfl) (hs:starEach (e :: es) X.env=(false,eval e X.env) :: starEach es X.env:=by rfl) (hplain:(backTo cpos (starEach es X.env)).any (·.1)=false:=by rfl) :
  PE X (.Call (.Attribute o name apos) (e :: es) [] cpos) (Jd K T r to t):=by subst hK;exact pI pa slot hty hm ho ha hbase hfew hline hs hplain
end
open Builtin.Str
section
variable {X:Cx} {K:Zfr}
theorem yc:bootBuiltins "abs" = some (.builtin "abs"):=by decide +kernel
end
section
variable {X:Cx} {tg:Expr}
end
end L2
namespace L2
open PySem PySem.Spec PyProof.Rows
open Builtin.Str
section
variable {prog:Program} {w:World} {A:Around} {E:Value->Shared->Prop} {s:Shared}
end
set_option genInjectivity false in
inductive ZS where
 | tup (a:Addr) | lst (a:Addr) | str (x:Str)
def ZS.has (K:Zfr) (H:Hp) (i:Nat) (v:V):ZS->Prop
 | .tup a=>∃ xs,d8 K H a xs/\xs[i]?=some v
 | .lst a=>∃ xs,iy K H a xs/\xs[i]?=some v
 | .str x=>∃ c,x.cps[i]?=some c/\v=.str ⟨#[c]⟩
def ZS.fin (K:Zfr) (H:Hp) (i:Nat):ZS->Prop
 | .tup a=>∃ xs,d8 K H a xs/\xs.length=i
 | .lst a=>∃ xs,iy K H a xs/\xs.length=i
 | .str x=>x.cps.size=i
section
variable {X:Cx} {pins:List (Addr×Obj)} {σ:St} {H:Hp} {s:Shared}
end
theorem ZS.uR {X:Cx} {pins:List (Addr×Obj)} {σ:St} {H:Hp} {s:Shared} {src:ZS} {i:Nat} {x y:V} (I:Inv X pins σ H s) (a:src.has X.K H i x) (b:src.has X.K H i y):y=x:=by
 cases src with
 | tup p =>
  obtain ⟨xs,h1,e1⟩:=a
  obtain ⟨ys,h2,e2⟩:=b
  rw [I.h9 h2 h1] at e2
  rw [e1] at e2
  exact (Ym e2).symm
 | lst p =>
  obtain ⟨xs,h1,e1⟩:=a
  obtain ⟨ys,h2,e2⟩:=b
  rw [I.pP h2 h1] at e2
  rw [e1] at e2
  exact (Ym e2).symm
 | str z =>
  obtain ⟨c,h1,rfl⟩:=a
  obtain ⟨d,h2,rfl⟩:=b
  rw [h1] at h2
  cases h2
  rfl
def ZS.val (K:Zfr) (H:Hp) (x:V):ZS->Prop
 | .tup a=>x=.ref a/\∃ xs,d8 K H a xs
 | .lst a=>x=.ref a/\∃ xs,iy K H a xs
 | .str z=>x=.str z
end L2
namespace L2
open PySem PySem.Spec PyProof.Rows
section
variable {X:Cx} {K:Zfr}
def eD (us:List Value) (ds:List PyData) (dx:PyData) (u:Value):Bool:=@decide (∃ (i:Nat) (d:PyData),us[i]?=some u/\ds[i]?=some d/\PyData.eqv d dx=true) (Classical.propDecidable _)
theorem fL.get:∀ {H:Hp} {vs:List V} {ds:List PyData},fL K H vs ds->∀ {i:Nat} {v:V},vs[i]?=some v->∃ d,ds[i]?=some d/\Rep K H v d
 | _,_,_,.nil,i,v,e=>by simp at e
 | _,_,_,.cons (d:=d) a b,0,v,e=>⟨d,by simp,by have:_=v:=Ym (by simpa using e);rw [<- this];exact a⟩
 | _,_,_,.cons a b,i + 1,v,e=>by
  obtain ⟨d,e1,r⟩:=fL.get b (i:=i) (by simpa using e)
  exact ⟨d,by simpa using e1,r⟩
theorem fL.uS:∀ {H:Hp} {vs:List V} {ds:List PyData},fL K H vs ds->vs.length=ds.length
 | _,_,_,.nil=>rfl
 | _,_,_,.cons _ r=>by rw [YE,YE,fL.uS r]
theorem Vals.Cr {xs:List V} {us:List Value} (r:Vals xs us) {i:Nat} {u:Value} (h:us[i]?=some u):∃ v,xs[i]?=some v/\RelV v u:=by
 have hi:=(Ya.mp h).1
 have hl:=r.length
 obtain ⟨u',hu,ru⟩:=r.get (i:=i) (x:=xs[i]'(by omega)) (Yb _)
 rw [h] at hu
 cases hu
 exact ⟨_,Yb _,ru⟩
open Classical in
theorem JG {pins:List (Addr×Obj)} {σ:St} {H:Hp} {s:Shared} {xs:List V} {us:List Value} {ds:List PyData} {x:V} {v:Value} {dx:PyData} (hu:X.A.units + 64 < cLine) (I:Inv X pins σ H s) (r:Vals xs us) (hr:fL X.K H xs ds) (rx:RelV x v) (hx:Rep X.K H x dx) (c1:∀ d∈ds,d.canLay0=true) (c2:dx.canLay0=true) (c3:dx.depth<=60) :
  ∀ u∈us,SeqAt.EqAt X.A.in1 s u v (eD us ds dx u):=by
 intro u hm
 obtain ⟨bs,rb⟩:=hx.reads I rx
 have key:∀ (i:Nat) (d:PyData),us[i]?=some u->ds[i]?=some d->SeqAt.EqAt X.A.in1 s u v (PyData.eqv d dx):=fun i d h1 h2=>by
  obtain ⟨y,hy,ry⟩:=r.Cr h1
  obtain ⟨d',hd',rd⟩:=hr.get hy
  rw [h2] at hd'
  cases hd'
  obtain ⟨as,ra⟩:=rd.reads I ry
  intro prog w E Q q
  refine SeqAt.eqBoolOverData prog w X.A.in1 E s u v d dx as bs Q ra rb (c1 _ (Yf h2)) c2 ?_ q
  have:X.A.in1.units<=X.A.units + 2:=by
   first | exact Nat.le_add_right _ _ | (show X.A.units<=_;omega) | (show X.A.units + 1<=_;omega)
  omega
 obtain ⟨i,hi⟩:=List.getElem?_of_mem hm
 have hl1:=r.length
 have hl2:=hr.uS
 have hil:=(Ya.mp hi).1
 unfold eD
 by_cases h:∃ (i:Nat) (d:PyData),us[i]?=some u/\ds[i]?=some d/\PyData.eqv d dx=true
 ·rw [decide_eq_true h]
  obtain ⟨j,d,h1,h2,h3⟩:=h
  have:=key j d h1 h2
  rwa [h3] at this
 ·rw [decide_eq_false h]
  have h2:ds[i]?=some (ds[i]'(by omega)):=Yb _
  have k:=key i _ hi h2
  cases hb:PyData.eqv (ds[i]'(by omega)) dx with
  | true=>exact absurd ⟨i,_,hi,h2,hb⟩ h
  | false=>rwa [hb] at k
open Classical in
theorem yd {xs:List V} {us:List Value} {ds:List PyData} {dx:PyData} (h1:us.length=ds.length):us.any (eD us ds dx)=ds.any fun d=>PyData.eqv d dx:=by
 rw [Bool.eq_iff_iff,List.any_eq_true,List.any_eq_true]
 constructor
 ·rintro ⟨u,hu,h⟩
  unfold eD at h
  obtain ⟨i,d,_,h2,h3⟩:=of_decide_eq_true h
  exact ⟨d,Yf h2,h3⟩
 ·rintro ⟨d,hd,h⟩
  obtain ⟨i,hi⟩:=List.getElem?_of_mem hd
  have hil:=(Ya.mp hi).1
  refine ⟨us[i]'(by omega),List.getElem_mem _,?_⟩
  unfold eD
  exact decide_eq_true ⟨i,d,Yb _,hi,h⟩
def Cs (K:Zfr) (neg:Bool):R2:=fun x y H Q=>∃ p xs ds dx,y=.ref p/\(iy K H p xs\/d8 K H p xs)/\fL K H xs ds/\Rep K H x dx/\(∀ d∈ds,PyData.canLay0 d=true)/\PyData.canLay0 dx=true/\PyData.depth dx<=60/\Q (.bl (if neg then !ds.any (fun d=>PyData.eqv d dx) else ds.any fun d=>PyData.eqv d dx)) H
theorem Ro (hu:X.A.units + 64 < cLine):kH X (compareOp .NotIn) (Cs X.K true):=by
 intro pins s σ H x y v u Q I rx ry h
 obtain ⟨p,xs,ds,dx,rfl,hq,hr,hx,c1,c2,c3,q⟩:=h
 cases ry
 have e2:∀ {its:List Value},Vals xs its->its.toArray.any (eD its ds dx)=ds.any fun d=>PyData.eqv d dx:=fun {its} r=>by
  rw [show its.toArray.any (eD its ds dx)=its.any (eD its ds dx) by simp]
  exact yd (xs:=xs) (by rw [<- r.length];exact hr.uS)
 rcases hq with hq | hq
 ·obtain ⟨its,r,pl,hz⟩:=I.list hq
  refine SeqAt.notIn_listAt (eD its ds dx) pl.isList (fun w hw=>JG hu I r hr rx hx c1 c2 c3 w (by simpa using hw)) ⟨.bl _,H,I,rfl,?_⟩
  rw [e2 r]
  exact q
 ·obtain ⟨its,r,pl,hz⟩:=I.tuple hq
  refine SeqAt.notIn_tupleAt (eD its ds dx) pl (fun w hw=>JG hu I r hr rx hx c1 c2 c3 w (by simpa using hw)) ⟨.bl _,H,I,rfl,?_⟩
  rw [e2 r]
  exact q
end
open Builtin.Str
theorem Ct:Slot "reversed" "__next__" "reversed.__next__" :=
 .of (owner:="reversed") (n:="__next__") (by rw [typeLookup_type,builtinLookup_eq_fast];kernel_rfl) (by decide +kernel) (by decide +kernel) (by decide +kernel)
  (by first | exact .inl (by decide +kernel) | exact .inr (by decide +kernel)) (by rw [isSubtype_type];kernel_rfl)
theorem MY:Slot "reversed" "__iter__" "reversed.__iter__" :=
 .of (owner:="reversed") (n:="__iter__") (by rw [typeLookup_type,builtinLookup_eq_fast];kernel_rfl) (by decide +kernel) (by decide +kernel) (by decide +kernel)
  (by first | exact .inl (by decide +kernel) | exact .inr (by decide +kernel)) (by rw [isSubtype_type];kernel_rfl)
theorem MZ:entryFor table "reversed.__next__" = some Builtin.«reversed.__next__»:=entryFor_of_tree (by kernel_rfl)
theorem M0 (a:Value):argsOk "reversed.__next__" ⟨[a],[]⟩:=by unfold argsOk;kernel_rfl
theorem Rq:entryFor table "reversed.__iter__" = some Builtin.«dict_keyiterator.__iter__» :=
 entryFor_alias (id':="dict_keyiterator.__iter__") (by kernel_rfl) (by first | rfl | decide +kernel) (by decide +kernel) (by kernel_rfl)
theorem Rr (a:Value):argsOk "reversed.__iter__" ⟨[a],[]⟩:=by unfold argsOk;kernel_rfl
theorem Rt:typeLookup (.type "tuple") "__reversed__" = pure none:=by rw [typeLookup_type,builtinLookup_eq_fast];kernel_rfl
theorem Rv:typeLookup (.type "str") "__reversed__" = pure none:=by rw [typeLookup_type,builtinLookup_eq_fast];kernel_rfl
def mG (h:Heap) (a:Addr) (v:Value) (i:Int):Prop:=∃ o,h.get? a=some o/\o.cls=.type "reversed" /\ o.data=.fields #[v,rawInt i]
theorem mG.at {h h':Heap} {a:Addr} {v:Value} {i:Int} (x:mG h a v i) (e:∀ o,h.get? a=some o->h'.get? a=some o):mG h' a v i:=let ⟨o,ho,r⟩:=x;⟨o,e _ ho,r⟩
section
variable {prog:Program} {w:World} {A:Around} {E:Value->Shared->Prop} {s:Shared}
theorem mG.typeIs {a:Addr} {v:Value} {i:Int} (x:mG s.heap a v i):s.TypeIs (.ref a) "reversed" := let ⟨o,ho,hc,_⟩:=x;⟨o,ho,hc⟩
theorem M1 {it:Addr} {v:Value} {i:Int} {Q:Value->Shared->Prop} (hit:mG s.heap it v i) (h:Q (.ref it) s):wpAny (model prog w) A (pyIter (.ref it)) Q E s:=by
 refine wpAny_pyIter_slot hit.typeIs MY (wpAny_call_entry MY hit.typeIs Rq ?_ (Rr _))
 show wpAny _ _ (ret (.ref it)) _ _ s
 exact wpAny_pure ⟨_,rfl,"reversed",_,hit.typeIs,Ct.lookup,h⟩
theorem Rw {it:Addr} {T gid:String} {v:Value} {y:Value->Prop} {i:Nat} {Q:Option Value->Shared->Prop} (hit:mG s.heap it v (i:Int)) (hT:s.TypeIs v T) (hg:typeLookup (.type T) "__getitem__" = pure (some (.builtin gid)))
  (hget:∀ (A':Around) (E':Value->Shared->Prop) (Q':Value->Shared->Prop) (tk:Tok) (n:Nat),(∀ z k,y z->Q' z { s with toks:=k })->wpAny (model prog w) A' (getItem v (.int i tk)) Q' E' { s with toks:=n })
  (hQ:∀ x h' k,y x->mG h' it v ((i:Int) - 1)->Heap.SameBut it s.heap h'->Q (some x) { s with heap:=h',toks:=k }):wpAny (model prog w) A (pyNext (.ref it)) Q E s:=by
 obtain ⟨o,ho,hc,hd⟩:=id hit
 unfold pyNext
 refine wpAny_bind (wpAny_attempt (wpAny_callSpecial?_slot (name:=Str.ofString "__next__") hit.typeIs Ct
  (wpAny_call_entry Ct hit.typeIs MZ ?_ (M0 _))))
 unfold Builtin.«reversed.__next__»
 refine wpAny_bind (wpAny_of_eq (a:=(Value.ref it,[])) rfl ?_)
 try dsimp only
 refine wpAny_bind (wpAny_field ho hd (x:=v) rfl ?_)
 refine wpAny_bind (wpAny_field ho hd (x:=rawInt (i:Int)) rfl ?_)
 show wpAny _ _ (if (i:Int) < 0 then _ else _) _ _ s
 rw [if_neg (by omega)]
 refine wpAny_bind (wpAny_specialOf hT hg ?_)
 try dsimp only
 rw [if_neg (by simp)]
 refine wpAny_bind (wpAny_mkInt ?_)
 refine wpAny_bind (wpAny_attempt (hget _ _ _ _ _ fun x k hx=>?_))
 show wpAny _ _ (field (.ref it) 1 >>= _) _ _ _
 refine wpAny_bind (wpAny_field ho hd (x:=rawInt (i:Int)) rfl ?_)
 refine wpAny_bind (wpAny_setField ho hd (by simp) ?_)
 first
 | refine wpAny_pure ⟨x,rfl,wpAny_pure (hQ _ _ _ hx ?_ (Heap.SameBut.update ..))⟩
 | refine wpAny_pure ⟨x,rfl,wpAny_bind (wpAny_pure (wpAny_pure (hQ _ _ _ hx ?_ (Heap.SameBut.update ..))))⟩
 exact ⟨_,Heap.get?_update_self _ ho (Obj.isFreed_of_fields (Obj.data_mapFields hd _)),(Obj.cls_mapFields ..).trans hc,by rw [Obj.data_mapFields hd];simp [rawInt]⟩
theorem Rx {it:Addr} {v:Value} {i:Int} {Q:Option Value->Shared->Prop} (hh:A.handled=none) (hit:mG s.heap it v i) (hi:i < 0)
  (hQ:∀ h',Heap.ExtBut it s.heap h'->Q none { s with heap:=h' }):wpAny (model prog w) A (pyNext (.ref it)) Q E s:=by
 obtain ⟨o,ho,hc,hd⟩:=id hit
 unfold pyNext
 refine wpAny_bind (wpAny_attempt (wpAny_callSpecial?_slot (name:=Str.ofString "__next__") hit.typeIs Ct
  (wpAny_call_entry Ct hit.typeIs MZ ?_ (M0 _))))
 unfold Builtin.«reversed.__next__»
 refine wpAny_bind (wpAny_of_eq (a:=(Value.ref it,[])) rfl ?_)
 try dsimp only
 refine wpAny_bind (wpAny_field ho hd (x:=v) rfl ?_)
 refine wpAny_bind (wpAny_field ho hd (x:=rawInt i) rfl ?_)
 show wpAny _ _ (if i < 0 then _ else _) _ _ s
 rw [if_pos hi]
 refine wpAny_bind (wpAny_rule ?_)
 refine wpAny_bind ?_
 show wpAny _ _ (setField (.ref it) 1 (rawInt (-1)) >>= fun _=>setField (.ref it) 0 .none) _ _ _
 refine wpAny_bind (wpAny_setField ho hd (by simp) ?_)
 have Ry:=Heap.get?_update_self (Obj.mapFields fun x=>x.setIfInBounds 1 (rawInt (-1))) ho (Obj.isFreed_of_fields (Obj.data_mapFields hd _))
 have hd1:=Obj.data_mapFields hd (fun x=>x.setIfInBounds 1 (rawInt (-1)))
 refine wpAny_setField Ry hd1 (by simp) ?_
 first
 | show wpAny _ _ (newExc (.type "StopIteration") [] >>= _) _ _ _
 | (refine wpAny_bind ?_;show wpAny _ _ (newExc (.type "StopIteration") [] >>= _) _ _ _)
 refine wpAny_bind ?_
 simp only [newExc,newTuple]
 refine wpAny_bind (wpAny_newObj_type ?_ (by size_fits))
 refine wpAny_bind (m:=firstArgMember _ _) (wpAny_of_eq (a:=Value.none) (by first | rfl | (simp only [firstArgMember];rfl)) ?_)
 refine wpAny_newObj_type ?_ (by size_fits)
 simp only [raiseNew]
 refine wpAny_bind (wpAny_handled ?_)
 first | rw [show A.in1.handled=none from hh] | rw [hh]
 refine wpAny_bind (wpAny_pure (wpAny_throw ?_))
 refine wpAny_bind (wpAny_isInstance (T:="StopIteration") (b:=true) ⟨_,Yy _ rfl,rfl⟩ isSubtype_stop ?_)
 refine wpAny_pure (hQ _ ?_)
 have x2:Heap.ExtBut it s.heap ((s.heap.update it (Obj.mapFields fun x=>x.setIfInBounds 1 (rawInt (-1)))).update it (Obj.mapFields fun x=>x.setIfInBounds 0 .none)):=fun c o hc e=>(Heap.SameBut.update ..).extBut c o hc ((Heap.SameBut.update ..).extBut c o hc e)
 exact (x2.push _).push _
end
def M3 (K:Zfr) (src:ZS) (n:Nat):It:=⟨fun i H=>i < n/\∃ v,src.has K H (n - 1 - i) v,fun i H x H'=>H'=H/\∀ v,src.has K H (n - 1 - i) v->v=x,fun i _=>i=n⟩
theorem ZS.got {X:Cx} {pins:List (Addr×Obj)} {σ:St} {H:Hp} {s:Shared} {src:ZS} {u:Value} {x:V} {i:Nat} {v:V} (I:Inv X pins σ H s) (r:RelV x u) (hv:src.val X.K H x) (nl:∀ a,src≠.lst a) (hs:∀ z,src=.str z->z.length<=sizeLine) (h:src.has X.K H i v) :
  ∃ (T gid:String) (y:Value->Prop),s.TypeIs u T/\typeLookup (.type T) "__getitem__" = pure (some (.builtin gid))/\(∀ z,y z->RelV v z) /\
   ∀ (A':Around) (E':Value->Shared->Prop) (Q':Value->Shared->Prop) (tk:Tok) (n:Nat),(∀ z k,y z->Q' z { s with toks:=k })->wpAny (model X.prog X.w) A' (getItem u (.int i tk)) Q' E' { s with toks:=n }:=by
 have hn:=mC
 cases src with
 | lst a=>exact absurd rfl (nl a)
 | tup a =>
  obtain ⟨rfl,xs,hq⟩:=hv
  obtain ⟨xs',hq',hx⟩:=h
  rw [I.h9 hq' hq] at hx
  cases r
  obtain ⟨its,rv,pl,hz⟩:=I.tuple hq
  obtain ⟨w,ew,rw'⟩:=rv.get hx
  have hl:=rv.length
  have hi:=(Ya.mp hx).1
  refine ⟨"tuple",_,fun z=>z=w,pl.typeIs,slot_tuple_getitem.lookup,fun z e=>e ▸ rw',fun A' E' Q' tk n hq'=>?_⟩
  exact getItem_tuple (s:={ s with toks:=n }) (j:=i) pl (by omega) (by omega) (by rw [Yo];exact seqIndex_of (by omega) (by omega)) (by simpa using ew) (hq' w n rfl)
 | str z =>
  cases hv
  obtain ⟨c,hx,rfl⟩:=h
  obtain ⟨t,rfl⟩:=r
  have hi:=(Array.getElem?_eq_some_iff.mp hx).1
  have hl:z.length=z.cps.size:=rfl
  have XJ:=hs z rfl
  refine ⟨"str",_,fun y=>∃ t,y=.str ⟨#[c]⟩ t,typeIs_str s z t,slot_str_getitem.lookup,fun y hy=>hy,fun A' E' Q' tk n hq'=>?_⟩
  refine getItem_str (s:={ s with toks:=n }) (c:=c) (by
   have e1:decide ((i:Int) < -(2 ^ 63:Int))=false:=decide_eq_false (by omega)
   have e2:decide ((i:Int) >= 2 ^ 63)=false:=decide_eq_false (by omega)
   rw [e1,e2,Bool.or_false]) (by rw [seqIndex_of (by omega) (by omega)];simpa using hx) (hq' _ _ ⟨_,rfl⟩)
theorem Rz {P:Program} {w:World} {K:Zfr} {tg:Expr} (src:ZS) (u:Value) (n:Nat) (it:Addr) (nl:∀ a,src≠.lst a) (hs:∀ z,src=.str z->z.length<=sizeLine) (x:V) (rx:RelV x u) (hsv:∀ (H:Hp) (v:V) (i:Nat),src.has K H i v->src.val K H x) :
  Turn P w K tg (M3 K src n) [it] it (fun i h=>mG h it u ((n:Int) - 1 - (i:Nat))) where
 mem:=by simp
 obj:=fun i h st b hb=>by
  have e:b=it:=by simpa using hb
  subst e
  obtain ⟨o,e,c,d⟩:=st
  exact ⟨o,e,fun v z=>by rw [d] at z;cases z⟩
 keep:=fun i h h' st k=>st.at fun o e=>k it (by simp) o e
 item:=by
  intro X hP hw hK hc i pins s σ H E I hf st hg
  subst hP hw hK
  obtain ⟨hin,v,hv⟩:=hg
  obtain ⟨f0,f1,f2,f3,f4,f5⟩:=hf it (by simp)
  obtain ⟨T,gid,y,hT,hl,hy,hget⟩:=ZS.got I rx (hsv H v _ hv) nl hs hv
  have st':mG s.heap it u ((n - 1 - i:Nat):Int):=by
   have e:((n - 1 - i:Nat):Int)=(n:Int) - 1 - (i:Nat):=by omega
   rw [e];exact st
  refine Rw st' hT hl hget fun z h' tk hz hr sb=>?_
  have I1:Inv X pins σ H { s with heap:=h',toks:=tk }:=I.turned (fun b o hb e=>(sb.2 b hb).trans e) f0 f1 f3 f4 f5
  have hr':mG h' it u ((n:Int) - 1 - ((i + 1:Nat):Int)):=by
   have e:(n:Int) - 1 - ((i + 1:Nat):Int)=((n - 1 - i:Nat):Int) - 1:=by omega
   rw [e];exact hr
  obtain ⟨o,e,c,d⟩:=id hr
  exact ⟨z,rfl,FH (s:={ s with heap:=h',toks:=tk }) e c d (by decide) ⟨v,H,I1,hy z hz,⟨rfl,fun v' hv'=>ZS.uR I hv hv'⟩,hr',fun b hb=>(hf b hb).1⟩⟩
 done:=by
  intro X hP hw hK hc i pins s σ H E I hf st hg
  subst hP hw hK
  have hg:i=n:=hg
  subst hg
  obtain ⟨f0,f1,f2,f3,f4,f5⟩:=hf it (by simp)
  exact Rx (I.ok.hd hc) st (by omega) fun h' eb=>⟨rfl,I.turned (t':=s.toks) (fun b o hb e=>eb b o hb e) f0 f1 f3 f4 f5⟩
 self:=fun _ _ _ _ _ st h=>M1 st h
theorem RA:Slot "reversed" "__init__" "object.__init__" :=
 .of (owner:="object") (n:="__init__") (by rw [typeLookup_type,builtinLookup_eq_fast];kernel_rfl) (by decide +kernel) (by decide +kernel) (by decide +kernel)
  (by first | exact .inl (by decide +kernel) | exact .inr (by decide +kernel)) (by rw [isSubtype_type];kernel_rfl)
theorem M4:TypeCalled "reversed" "reversed.__new__" "object.__init__" :=
 ⟨by decide +kernel,by decide +kernel,⟨_,_,F.mro_reversed⟩,F.made_reversed,by decide +kernel,by rw [isSubtype_type];kernel_rfl,RA⟩
theorem M5 {u:Value} {T gid:String} {n:Nat} (h0:typeLookup (.type T) "__reversed__" = pure none) (h1:typeLookup (.type T) "__getitem__" = pure (some (.builtin gid))) (hsub:isSubtype (.type T) (.type "dict")=pure false)
  (JH:["tuple.__getitem__","str.__getitem__","bytes.__getitem__","bytearray.__getitem__","memoryview.__getitem__","numpy.ndarray.__getitem__","sqlite3.Row.__getitem__"].contains gid=true) :
  Meets (Builtin.«reversed.__new__» ⟨[.type "reversed",u],[]⟩) (fun _ R s=>s.TypeIs u T /\
   (∀ (prog:Program) (w:World) (A':Around) (E':Value->Shared->Prop) (Q':Value->Shared->Prop),(∀ t k,Q' (.int n t) { s with toks:=k })->wpAny (model prog w) A' (call (.builtin "len") [u]) Q' E' s) /\
   ∀ k,R (.ok (.ret (.ref s.heap.objs.size))) { s with heap:=s.heap.push { cls:=.type "reversed",data:=.fields #[u,rawInt ((n:Int) - 1)] },toks:=k }) :=
 .of_wp fun prog w A R s h=>by
 obtain ⟨hT,hlen,h⟩:=h
 unfold Builtin.«reversed.__new__»
 refine wpAny_bind (wpAny_of_eq (newClass_reversed _) ?_)
 try dsimp only
 refine wpAny_bind (wpAny_of_eq (a:=()) (by first | rfl | kernel_rfl) ?_)
 refine wpAny_bind (wpAny_of_eq (a:=()) (by first | rfl | kernel_rfl) ?_)
 try dsimp only
 refine wpAny_bind (wpAny_specialOf hT h0 ?_)
 try dsimp only
 refine wpAny_bind ?_
 show wpAny _ _ (isInstance u (.type "dict") >>= _) _ _ _
 refine wpAny_bind (wpAny_isInstance (b:=false) hT hsub ?_)
 rw [if_neg Yh]
 refine wpAny_bind (wpAny_specialOf hT h1 ?_)
 show wpAny _ _ (if ["tuple.__getitem__","str.__getitem__","bytes.__getitem__","bytearray.__getitem__","memoryview.__getitem__","numpy.ndarray.__getitem__","sqlite3.Row.__getitem__"].contains gid=true then _ else _) _ _ _
 rw [if_pos JH]
 refine wpAny_pure ?_
 rw [if_neg (by simp)]
 refine wpAny_bind (hlen _ _ _ _ _ fun t k=>?_)
 refine wpAny_bind (wpAny_of_eq (a:=some (n:Int)) rfl ?_)
 try dsimp only
 refine wpAny_bind ?_
 show wpAny _ _ (newObj (.type "reversed") (.fields #[u,rawInt ((n:Int) - 1)])) _ _ _
 refine wpAny_newObj_type ?_
 exact wpAny_pure ⟨_,rfl,h k⟩
theorem RB:isSubtype (.type "tuple") (.type "dict")=pure false:=by rw [isSubtype_type];kernel_rfl
theorem RC:isSubtype (.type "str") (.type "dict")=pure false:=by rw [isSubtype_type];kernel_rfl
def Cu (K:Zfr) (ta:TA):TI:=fun σ H R=>ta σ H fun vs H1=>∃ (x:V) (src:ZS) (n:Nat),vs=[x]/\src.val K H1 x/\src.fin K H1 n/\(∀ a,src≠.lst a)/\(∀ z,src=.str z->z.length<=sizeLine)/\R (M3 K src n) H1
theorem M6 {X:Cx} {tg l:Expr} {ta:TA} {p pos:Pos} (hg:Gl X "reversed") (hm:X.mg "reversed" = none) (ha:PA X [l] ta) (hs:starEach [l] X.env=[(false,eval l X.env)]:=by rfl) :
  PI X tg (.Call (.Name "reversed" p) [l] [] pos) (Cu X.K ta):=by
 intro pins s σ H R I h
 refine Call_ (xI I hg hm QO (PyProof.Rows.callWith_type1 (cI (ha pos pins s σ H _ I h) fun us s1 ⟨vs,H1,I1,r1,q1⟩=>?_) hs rfl))
 obtain ⟨x,src,n,e,hv,hn,nl,hz,q⟩:=q1
 subst e
 obtain ⟨u,rfl,r⟩:=vals1 r1
 ·have XM:=mC
  have hsv:∀ (H:Hp) (v:V) (i:Nat),src.has X.K H i v->src.val X.K H x:=fun H v i hh=>by
   cases src with
   | tup a=>obtain ⟨xs,h1,_⟩:=hh;exact ⟨hv.1,xs,h1⟩
   | lst a=>exact absurd rfl (nl a)
   | str z=>exact hv
  have fin:∀ k,wpAny (model X.prog X.w) X.A (pyIter (.ref s1.heap.objs.size)) (IH X pins σ tg R) X.xe { s1 with heap:=s1.heap.push { cls:=.type "reversed",data:=.fields #[u,rawInt ((n:Int) - 1)] },toks:=k }:=fun k=>by
   have g:mG (s1.heap.push { cls:=.type "reversed",data:=.fields #[u,rawInt ((n:Int) - 1)] }) s1.heap.objs.size u ((n:Int) - 1 - (0:Nat)):=⟨_,Yy _ rfl,rfl,by simp⟩
   refine M1 g ?_
   refine ⟨s1.heap.objs.size,[s1.heap.objs.size],_,_,H1,rfl,I1.kept (t':=k) fun b o e=>Yq _ e,Rz src u n _ nl hz x r hsv,g,fun b hb=>?_,q⟩
   have e:b=s1.heap.objs.size:=by simpa using hb
   subst e
   exact I1.qa (Yd _) (I1.hok.fresh (Yd _))
  cases src with
  | lst a=>exact absurd rfl (nl a)
  | tup a =>
   obtain ⟨rfl,xs,hq⟩:=id hv
   obtain ⟨xs',hq',hx⟩:=hn
   have hx:xs.length=n:=by rw [<- I1.h9 hq' hq];exact hx
   cases r
   obtain ⟨its,rv,pl,hz'⟩:=I1.tuple hq
   have hl:=rv.length
   refine callType_new M4 (by decide) (F.typeCall_reversed_1 _) (F.newCall_reversed_1 _) (fun obj=>F.args_object_init_2 obj _) F.entry_reversed_new (M5 (n:=n) Rt slot_tuple_getitem.lookup RB (by decide)) ⟨pl.typeIs,fun prog w A' E' Q' hq=>?_,fun k=>⟨⟨_,Yy _ rfl,rfl⟩,fin k⟩⟩
   have e:its.toArray.size=n:=by rw [Yo];omega
   refine len_tuple pl (by rw [e];omega) ?_
   rw [e]
   exact hq _ _
  | str z =>
   cases hv
   have hn:z.length=n:=hn
   have:=hz z rfl
   obtain ⟨t,rfl⟩:=r
   refine callType_new M4 (by decide) (F.typeCall_reversed_1 _) (F.newCall_reversed_1 _) (fun obj=>F.args_object_init_2 obj _) F.entry_reversed_new (M5 (n:=n) Rv slot_str_getitem.lookup RC (by decide)) ⟨typeIs_str _ z t,fun prog w A' E' Q' hq=>?_,fun k=>⟨⟨_,Yy _ rfl,rfl⟩,fin k⟩⟩
   refine len_str (by omega) ?_
   rw [hn]
   exact hq _ _
end L2
namespace L2
open PySem PySem.Spec PyProof.Rows
open Builtin
section
variable {X:Cx}
end
end L2
namespace L2
open PySem PySem.Spec PyProof.Rows
section
variable {prog:Program} {w:World} {A:Around} {E:Value->Shared->Prop} {s:Shared}
end
section
variable {X:Cx} {pos:Pos}
end
section
variable {prog:Program} {w:World} {A:Around} {E:Value->Shared->Prop} {s:Shared}
end
section
variable {prog:Program} {w:World} {A:Around} {E:Value->Shared->Prop} {s:Shared}
end
section
variable {X:Cx} {pos:Pos}
end
def DU (a:Addr) (xs:List (List Int×Addr×Value)):HO:=.ext fun h=>(a == sysModules)=false/\xs.length<=sizeLine/\∃ o es ep,h.get? a=some o/\o.ExactDict/\o.data=.dict es ep /\
 (∃ (P:Program) (w:World),es.toList=xs.map (entryOfKey (tupleKind (intKind P w))))/\(xs.map (·.1)).Nodup
section
variable {X:Cx} {pins:List (Addr×Obj)} {σ:St} {H:Hp} {s:Shared} {a b:Addr} {k:List Int} {xs:List (List Int×Addr×Value)}
end
section
variable {X:Cx} {o i e value:Expr} {pos pos' tpos:Pos} {td ty tv:TE}
end
end L2
namespace L2
open PySem PySem.Spec PyProof.Rows PySem.SeqAt PySem.MeetsSeq
def o3 (A:Around) (s:Shared) (y x:Value) (r:Bool):Prop:=∀ (prog:Program) (w:World) (E Q:Value->Shared->Prop),Q (.bool r) s->wpAny (model prog w) A (richCompare .Lt y x) Q E s
def cY (e lt:Nat->Bool) (fin:Bool):List Nat->Bool
 | []=>fin
 | i :: r=>if e i then cY e lt fin r else lt i
theorem RD (l m:Addr) (a b:Array Value) (n1 n2:Nat) (d1 d2:Option Addr) (s1 s2:Array (Option Value)) (e lt:Nat->Bool) :
  Meets (Builtin.«tuple.__lt__» ⟨[.ref l,.ref m],[]⟩) (fun A R s=>s.heap.get? l=some { cls:=.type "tuple",dict:=d1,data:=.seq a n1,slots:=s1 }/\s.heap.get? m=some { cls:=.type "tuple",dict:=d2,data:=.seq b n2,slots:=s2 } /\
    (∀ j (h1:j < a.size) (h2:j < b.size),EqAt A.in1 s a[j] b[j] (e j))/\(∀ j (h1:j < a.size) (h2:j < b.size),e j=false->o3 A.in1 s a[j] b[j] (lt j))/\R (.ok (.ret (.bool (cY e lt (decide (a.size < b.size)) (List.range (min a.size b.size)))))) s) :=
 .of_wp fun prog w A R s h=>by
  obtain ⟨hp,g,d,tk,os⟩:=s
  obtain ⟨hl,hm,he,hlt,h⟩:=h
  have f2:=AutoSeq1.sub_tuple_tuple
  have hZ:(a.toList.zip b.toList).length=min a.size b.size:=by simp
  wp_walk using wpAny_loadPart' hl,wpAny_loadPart' hm,wpAny_forIn_list _ (fun rest q s'=>q.1=none/\s'=⟨hp,g,d,tk,os⟩/\∃ i,rest=(a.toList.zip b.toList).drop i/\R (.ok (.ret (.bool (cY e lt (decide (a.size < b.size)) ((List.range (min a.size b.size)).drop i))))) ⟨hp,g,d,tk,os⟩) _
  case turn =>
   rintro ⟨y,x⟩ rest q s' ⟨hq,rfl,i,hz,hR⟩
   have hil:i < (a.toList.zip b.toList).length:=by
    rcases Nat.lt_or_ge i (a.toList.zip b.toList).length with k | k
    ·exact k
    ·rw [List.drop_of_length_le k] at hz;cases hz
   have hmn:i < min a.size b.size:=hZ ▸ hil
   have g1:i < a.size:=by omega
   have g2:i < b.size:=by omega
   rw [List.drop_eq_getElem_cons hil] at hz
   injection hz with hyx hrest
   have hy:y=a[i]:=by simpa using congrArg Prod.fst hyx
   have hx:x=b[i]:=by simpa using congrArg Prod.snd hyx
   subst hy hx
   have hd:(List.range (min a.size b.size)).drop i=i :: (List.range (min a.size b.size)).drop (i + 1):=by simp [List.drop_eq_getElem_cons,hmn]
   rw [hd,cY] at hR
   refine wpAny_bind (he i g1 g2 prog w _ _ ?_)
   cases hei:e i with
   | true =>
    rw [hei] at hR
    wp_walk
    exact ⟨rfl,rfl,i + 1,hrest,hR⟩
   | false =>
    rw [hei] at hR
    refine wpAny_bind (wpAny_rule (wpAny_bind (hlt i g1 g2 hei prog w _ _ ?_)))
    wp_walk
    exact ⟨_,rfl,hR⟩
  case fin =>
   rintro ⟨q1,q2⟩ s' ⟨hq,rfl,i,hz,hR⟩
   simp only at hq
   subst hq
   have hge:min a.size b.size<=i:=by
    rcases Nat.lt_or_ge i (a.toList.zip b.toList).length with k | k
    ·rw [List.drop_eq_getElem_cons k] at hz;cases hz
    ·exact hZ ▸ k
   rw [List.drop_of_length_le (by simpa using hge),cY] at hR
   wp_walk
   exact ⟨_,rfl,by simpa [Builtin.Tuple.tupleCompareSizes] using hR⟩
  case h =>
   exact ⟨rfl,rfl,0,rfl,by simpa using h⟩
theorem o3.tuples {A:Around} {s:Shared} {l m:Addr} {a b:Array Value} {e lt:Nat->Bool} (hl:s.heap.IsTuple l a) (hm:s.heap.IsTuple m b) (hu:A.units < cLine)
  (he:∀ j (h1:j < a.size) (h2:j < b.size),EqAt A.in1 s a[j] b[j] (e j)) (hlt:∀ j (h1:j < a.size) (h2:j < b.size),e j=false->o3 A.in1 s a[j] b[j] (lt j)) :
  o3 A s (.ref l) (.ref m) (cY e lt (decide (a.size < b.size)) (List.range (min a.size b.size))):=fun prog w E Q h=>by
 obtain ⟨⟨c1,d1,t1,s1⟩,o1,k1,n1,j1⟩:=hl
 obtain ⟨⟨c2,d2,t2,s2⟩,o2,k2,n2,j2⟩:=hm
 simp only at k1 j1 k2 j2
 subst k1 j1 k2 j2
 exact richCompare_meets_room (op:=.Lt) ⟨_,o1,rfl⟩ ⟨_,o2,rfl⟩ F.slot_tuple_lt F.entry_tuple_lt (F.args_tuple_lt_2 _ _) (RD l m a b n1 n2 d1 d2 s1 s2 e lt)
  ⟨o1,o2,he,hlt,show Value.bool (cY e lt (decide (a.size < b.size)) (List.range (min a.size b.size)))≠Value.notImplemented/\Q (.bool (cY e lt (decide (a.size < b.size)) (List.range (min a.size b.size)))) s from ⟨(fun x=>nomatch x),h⟩⟩ hu
mutual
def AG:PyData->PyData->Bool
 | .int a,.int b=>decide (a < b)
 | .tuple xs,.tuple ys=>nR xs ys
 | _,_=>false
def nR:List PyData->List PyData->Bool
 | [],[]=>false
 | [],_ :: _=>true
 | _ :: _,[]=>false
 | x :: xs,y :: ys=>if PyData.eqv x y then nR xs ys else AG x y
end
mutual
def sR:PyData->PyData->Bool
 | .int _,.int _=>true
 | .tuple xs,.tuple ys=>o4 xs ys
 | _,_=>false
def o4:List PyData->List PyData->Bool
 | [],_=>true
 | _ :: _,[]=>true
 | x :: xs,y :: ys=>sR x y && o4 xs ys
end
theorem M7 (e lt:Nat->Bool) (fin:Bool) (f:Nat->Nat):∀ l:List Nat,cY e lt fin (l.map f)=cY (fun i=>e (f i)) (fun i=>lt (f i)) fin l
 | []=>rfl
 | i :: r=>by
  show (if e (f i) then cY e lt fin (r.map f) else lt (f i))=if e (f i) then _ else lt (f i)
  rw [M7 e lt fin f r]
def qg (xs ys:List PyData) (j:Nat):Bool:=AG (xs.getD j .none) (ys.getD j .none)
theorem M8:∀ xs ys:List PyData,cY (pairEq xs ys) (qg xs ys) (decide (xs.length < ys.length)) (List.range (min xs.length ys.length))=nR xs ys
 | [],[]=>rfl
 | [],_ :: _=>by simp [cY,nR]
 | _ :: _,[]=>by simp [cY,nR]
 | x :: xs,y :: ys=>by
  have ih:=M8 xs ys
  have e1:min (x :: xs).length (y :: ys).length=min xs.length ys.length + 1:=by simp only [YE];omega
  have e2:decide ((x :: xs).length < (y :: ys).length)=decide (xs.length < ys.length):=by simp
  rw [e1,e2,List.range_succ_eq_map,cY,M7]
  show (if PyData.eqv x y then cY (pairEq xs ys) (qg xs ys) (decide (xs.length < ys.length)) (List.range (min xs.length ys.length)) else AG x y)=_
  rw [ih,nR]
mutual
theorem M9:∀ (da db:PyData) (A:Around) (s:Shared) (a b:Value) (as bs:List Addr),Reads s.heap a da as->Reads s.heap b db bs->sR da db=true->da.canLay0=true->db.canLay0=true->A.units + min da.depth db.depth < cLine->o3 A s a b (AG da db)
 | .int x,.int y,A,s,_,_,_,_,ra,rb,_,_,_,_=>by
  cases ra with
  | int _ t =>
   cases rb with
   | int _ u=>exact fun prog w E Q h=>richCompare_gives (op:=.Lt) (typeIs_int s _ t) (typeIs_int s _ u) F.slot_int_lt F.entry_int_lt (F.args_int_lt_2 _ _) (gives_int_lt _ _ t u) (fun x=>nomatch x) h
 | .tuple xs,.tuple ys,A,s,_,_,_,_,ra,rb,ok,ha,hb,hu=>by
  cases ra with
  | @tuple l o vs n _ XQ h1 h2 h3 h4 =>
   cases rb with
   | @tuple l' o' vs' n' _ XR k1 k2 k3 k4 =>
    have t1:s.heap.IsTuple l vs:=⟨_,h1,h2,_,h3⟩
    have t2:s.heap.IsTuple l' vs':=⟨_,k1,k2,_,k3⟩
    have n1:vs.size=xs.length:=by simpa using ReadsAll.length _ _ _ h4
    have n2:vs'.size=ys.length:=by simpa using ReadsAll.length _ _ _ k4
    show o3 A s (.ref l) (.ref l') (nR xs ys)
    rw [<- M8 xs ys,<- n1,<- n2]
    refine o3.tuples t1 t2 (room_here hu) (fun j j1 j2=>?_) (fun j j1 j2 _=>?_)
    ·have z:=eqAt_readsAll xs ys A.in1 s vs.toList vs'.toList _ _ h4 k4 ha hb (room_in hu) j (by simpa using j1) (by simpa using j2)
     simpa using z
    ·have z:=Na xs ys A.in1 s vs.toList vs'.toList _ _ h4 k4 ok ha hb (room_in hu) j (by simpa using j1) (by simpa using j2)
     simpa using z
 | .int _,.none,_,_,_,_,_,_,_,_,ok,_,_,_=>nomatch ok
 | .int _,.bool _,_,_,_,_,_,_,_,_,ok,_,_,_=>nomatch ok
 | .int _,.str _,_,_,_,_,_,_,_,_,ok,_,_,_=>nomatch ok
 | .int _,.list _,_,_,_,_,_,_,_,_,ok,_,_,_=>nomatch ok
 | .int _,.tuple _,_,_,_,_,_,_,_,_,ok,_,_,_=>nomatch ok
 | .int _,.dict _,_,_,_,_,_,_,_,_,ok,_,_,_=>nomatch ok
 | .tuple _,.none,_,_,_,_,_,_,_,_,ok,_,_,_=>nomatch ok
 | .tuple _,.bool _,_,_,_,_,_,_,_,_,ok,_,_,_=>nomatch ok
 | .tuple _,.int _,_,_,_,_,_,_,_,_,ok,_,_,_=>nomatch ok
 | .tuple _,.str _,_,_,_,_,_,_,_,_,ok,_,_,_=>nomatch ok
 | .tuple _,.list _,_,_,_,_,_,_,_,_,ok,_,_,_=>nomatch ok
 | .tuple _,.dict _,_,_,_,_,_,_,_,_,ok,_,_,_=>nomatch ok
 | .none,_,_,_,_,_,_,_,_,_,ok,_,_,_=>by simp [sR] at ok
 | .bool _,_,_,_,_,_,_,_,_,_,ok,_,_,_=>by simp [sR] at ok
 | .str _,_,_,_,_,_,_,_,_,_,ok,_,_,_=>by simp [sR] at ok
 | .list _,_,_,_,_,_,_,_,_,_,ok,_,_,_=>by simp [sR] at ok
 | .dict _,_,_,_,_,_,_,_,_,_,ok,_,_,_=>by simp [sR] at ok
theorem Na:∀ (xs ys:List PyData) (A:Around) (s:Shared) (vs ws:List Value) (as bs:List Addr),ReadsAll s.heap vs xs as->ReadsAll s.heap ws ys bs->o4 xs ys=true->PyData.canLayAll0 xs=true->PyData.canLayAll0 ys=true->A.units + min (PyData.depthAll xs) (PyData.depthAll ys) < cLine->∀ j (h1:j < vs.length) (h2:j < ws.length),o3 A s vs[j] ws[j] (qg xs ys j)
 | [],_,_,_,_,_,_,_,ra,_,_,_,_,_,j,h1,_=>by cases ra;exact absurd h1 (YY _)
 | _ :: _,[],_,_,_,_,_,_,_,rb,_,_,_,_,j,_,h2=>by cases rb;exact absurd h2 (YY _)
 | x :: xs,y :: ys,A,s,_,_,_,_,ra,rb,ok,ha,hb,hu,j,h1,h2=>by
  have a':x.canLay0=true/\PyData.canLayAll0 xs=true:=by simpa [PyData.canLayAll0] using ha
  have b':y.canLay0=true/\PyData.canLayAll0 ys=true:=by simpa [PyData.canLayAll0] using hb
  have o':sR x y=true/\o4 xs ys=true:=by simpa [o4] using ok
  cases ra with
  | cons r rs =>
   cases rb with
   | cons r' rs' =>
    cases j with
    | zero=>exact M9 x y A s _ _ _ _ r r' o'.1 a'.1 b'.1 (room_head hu)
    | succ j=>exact Na xs ys A s _ _ _ _ rs rs' o'.2 a'.2 b'.2 (room_tail hu) j (Nat.lt_of_succ_lt_succ h1) (Nat.lt_of_succ_lt_succ h2)
end
section
variable {prog:Program} {w:World} {A:Around} {R:Result->Shared->Prop} {I:Addr} {fp wr:List Addr} {n:Nat} {P:Nat->Value->Prop} {St:Nat->Heap->Prop}
def jL (a b:Heap):Prop:=∀ x o,a.get? x=some o->b.get? x=some o
def ye (A:Around) (h0:Heap) (P:Nat->Value->Prop) (bt:Nat->Nat->Bool):Prop:=∀ i j vi vj (s:Shared),jL h0 s.heap->P i vi->P j vj->o3 A s vi vj (bt i j)
theorem F0:(toString "min" ++ toString ".loop" : String)="min.loop" := by decide
theorem JI (W:Walks prog w A.in1 I fp wr n P St) (bt:Nat->Nat->Bool) {h0:Heap} (hcmp:ye A.in1 h0 P bt) (S:Addr) (hSf:S ∉ fp) (yf:h0.get? S=none) (hw0:∀ b∈wr,h0.get? b=none) :
  ∀ (k j:Nat) (s:Shared) (vb:Value) (c:Nat),n - (j + 1)=k->j + 1<=n->St (j + 1) s.heap->P (argBest bt j) vb->jL h0 s.heap->s.heap.get? S=some { cls:=.type "list",dict:=none,data:=.seq #[vb,vb] c,slots:=#[] } ->
  (∀ v h' tk,P (argBest bt (n - 1)) v->jL h0 h'->R (.ok (.ret v)) { s with heap:=h',toks:=tk })->codeAny (model prog w) A (.builtin "min.loop" ⟨[.ref I,.none,.ref S],[]⟩) R s
 | 0,j,s,vb,c,hk,hj,hst,F3,hK,hS,hR=>by
  have Cv:S ∉ wr:=fun z=>hSf (W.sub S z)
  have hin:n=j + 1:=by omega
  subst hin
  refine codeAny_builtin F.entry_min_loop ?_
  rw [Around.under_plainId F.plain_min_loop (A:=A) _]
  show wpAny (model prog w) A.in1 (seqItems? (.ref S) >>= _) _ _ _
  refine wpAny_bind (wpAny_seqItems hS rfl ?_)
  show wpAny (model prog w) A.in1 (tryCatch (pyNext (.ref I)) _ >>= _) _ _ _
  refine wpAny_bind (wpAny_tryCatch (W.done s _ _ hst fun h' tk hk'=>?_))
  have hS':=hk' S _ Cv hS
  show wpAny (model prog w) A.in1 (updateSeq S (fun _=>#[]) >>= _) _ _ _
  refine wpAny_bind (wpAny_updateSeq hS' rfl (wpAny_bind (wpAny_letGo (wpAny_pure (hR vb _ tk F3 fun b o e=>?_)))))
  have hb1:b ∉ wr:=fun z=>by rw [hw0 b z] at e;cases e
  have hb2:S≠b:=fun z=>by rw [<- z,yf] at e;cases e
  exact (Y2 _ _ hb2).trans (hk' b o hb1 (hK b o e))
 | k + 1,j,s,vb,c,hk,hj,hst,F3,hK,hS,hR=>by
  have Cv:S ∉ wr:=fun z=>hSf (W.sub S z)
  have hlt:j + 1 < n:=by omega
  refine codeAny_builtin F.entry_min_loop ?_
  rw [Around.under_plainId F.plain_min_loop (A:=A) _]
  show wpAny (model prog w) A.in1 (seqItems? (.ref S) >>= _) _ _ _
  refine wpAny_bind (wpAny_seqItems hS rfl ?_)
  show wpAny (model prog w) A.in1 (tryCatch (pyNext (.ref I)) _ >>= _) _ _ _
  refine wpAny_bind (wpAny_tryCatch (W.item (j + 1) s _ _ hlt hst fun v h' tk hP uT hk'=>?_))
  have hS':=hk' S _ Cv hS
  have Cw:jL h0 h':=fun b o e=>hk' b o (fun z=>by rw [hw0 b z] at e;cases e) (hK b o e)
  show wpAny (model prog w) A.in1 (tryCatch (holding [v,v] (richCompare .Lt v vb >>= _)) _ >>= _) _ _ _
  refine wpAny_bind (wpAny_tryCatch (wpAny_holding (wpAny_bind (hcmp (j + 1) (argBest bt j) v vb _ Cw hP F3 prog w _ _ ?_))))
  refine wpAny_bind (wpAny_holding (wpAny_truthy_bool (wpAny_bind (wpAny_letGo (wpAny_pure ?_)))))
  cases hb:bt (j + 1) (argBest bt j) with
  | true =>
   simp only [if_true]
   refine wpAny_bind (wpAny_updateSeq hS' rfl (wpAny_bind (wpAny_letGo ?_)))
   rw [F0]
   have JJ:jL h0 (h'.update S (Obj.mapSeq fun _=>#[v,v])):=fun b o e=>(Y2 _ _ (fun z=>by rw [<- z,yf] at e;cases e)).trans (Cw b o e)
   refine wpAny_pure ⟨plainId_quiet F.plain_min_loop _,JI W bt hcmp S hSf yf hw0 k (j + 1) _ v _ (by omega) hlt (W.frame _ _ _ uT fun b JK o e=>?_) (by simp only [argBest,hb,if_true];exact hP) JJ (Heap.get?_update_self _ hS' rfl) fun v' h'' sS Cy sT=>hR v' h'' sS Cy sT⟩
   exact (Y2 _ _ (fun z:S=b=>hSf (z ▸ JK))).trans e
  | false =>
   simp only [Zd,if_false]
   refine wpAny_bind (wpAny_letGo ?_)
   rw [F0]
   exact wpAny_pure ⟨plainId_quiet F.plain_min_loop _,JI W bt hcmp S hSf yf hw0 k (j + 1) _ vb c (by omega) hlt uT (by simp only [argBest,hb,Zd,if_false];exact F3) Cw hS' fun v' h'' sS Cy sT=>hR v' h'' sS Cy sT⟩
theorem RE (W:Walks prog w A.in1 I fp wr n P St) (bt:Nat->Nat->Bool) {h0:Heap} (hcmp:ye A.in1 h0 P bt) (S:Addr) (hSf:S ∉ fp) (yf:h0.get? S=none) (hw0:∀ b∈wr,h0.get? b=none) (hn:0 < n) {s:Shared} {c:Nat} (hst:St 0 s.heap) (hK:jL h0 s.heap)
  (hS:s.heap.get? S=some { cls:=.type "list",dict:=none,data:=.seq #[] c,slots:=#[] }) (hR:∀ v h' tk,P (argBest bt (n - 1)) v->jL h0 h'->R (.ok (.ret v)) { s with heap:=h',toks:=tk }) :
  codeAny (model prog w) A (.builtin "min.loop" ⟨[.ref I,.none,.ref S],[]⟩) R s:=by
 have Cv:S ∉ wr:=fun z=>hSf (W.sub S z)
 refine codeAny_builtin F.entry_min_loop ?_
 rw [Around.under_plainId F.plain_min_loop (A:=A) _]
 show wpAny (model prog w) A.in1 (seqItems? (.ref S) >>= _) _ _ _
 refine wpAny_bind (wpAny_seqItems hS rfl ?_)
 show wpAny (model prog w) A.in1 (tryCatch (pyNext (.ref I)) _ >>= _) _ _ _
 refine wpAny_bind (wpAny_tryCatch (W.item 0 s _ _ hn hst fun v h' tk hP uT hk'=>?_))
 have hS':=hk' S _ Cv hS
 have Cw:jL h0 h':=fun b o e=>hk' b o (fun z=>by rw [hw0 b z] at e;cases e) (hK b o e)
 show wpAny (model prog w) A.in1 (updateSeq S (fun _=>#[v,v]) >>= _) _ _ _
 refine wpAny_bind (wpAny_updateSeq hS' rfl ?_)
 rw [F0]
 have JJ:jL h0 (h'.update S (Obj.mapSeq fun _=>#[v,v])):=fun b o e=>(Y2 _ _ (fun z=>by rw [<- z,yf] at e;cases e)).trans (Cw b o e)
 refine wpAny_pure ⟨plainId_quiet F.plain_min_loop _,JI W bt hcmp S hSf yf hw0 _ 0 _ v _ rfl hn (W.frame _ _ _ uT fun b JK o e=>?_) hP JJ (Heap.get?_update_self _ hS' rfl) fun v' h'' sS Cy sT=>hR v' h'' sS Cy sT⟩
 exact (Y2 _ _ (fun z:S=b=>hSf (z ▸ JK))).trans e
end
section
variable {prog:Program} {w:World} {A:Around} {E:Value->Shared->Prop} {s:Shared}
theorem RF {p:Addr} {its:Array Value} {bt:Nat->Nat->Bool} {Q:Value->Shared->Prop} (hh:A.handled=none) (hl:s.heap.IsList p its) (hn:0 < its.size) (hcmp:ye A.in1 s.heap (fun i v=>its[i]?=some v) bt)
  (hQ:∀ v h' tk,its[argBest bt (its.size - 1)]?=some v->jL s.heap h'->Q v { s with heap:=h',toks:=tk }):wpAny (model prog w) A (call (.builtin "min") [.ref p]) Q E s:=by
 have hlt:p < s.heap.objs.size:=by obtain ⟨_,e,_⟩:=hl;exact Yx e
 have e0:s.heap.get? s.heap.objs.size=none:=by
  cases q:s.heap.get? s.heap.objs.size with
  | none=>rfl
  | some o=>exact absurd (Yx q) (Nat.lt_irrefl _)
 have e1:s.heap.get? (s.heap.objs.size + 1)=none:=by
  cases q:s.heap.get? (s.heap.objs.size + 1) with
  | none=>rfl
  | some o=>exact absurd (Yx q) (Nat.not_lt_of_le (Nat.le_succ _))
 refine call_function_tree F.kind_min F.plain_min F.entry_min (F.args_min1 _) ?_
 show wpAny (model prog w) A.in1 (Builtin.Builtins.bindParams "min" ["key","default"] 0 ⟨[],[]⟩ >>= _) _ _ _
 refine wpAny_bind (wpAny_of_eq (show Builtin.Builtins.bindParams "min" ["key","default"] 0 ⟨[],[]⟩=pure [none,none] from rfl) (wpAny_bind (wpAny_pure ?_)))
 refine wpAny_bind (wpAny_pyIter_list hl (wpAny_bind (wpAny_newObj_type ?_)))
 have hsz:(s.heap.push { cls:=.type "list_iterator",data:=.fields #[.ref p,.int 0 0] }).objs.size=s.heap.objs.size + 1:=Heap.size_push ..
 have hne:p≠s.heap.objs.size:=YQ hlt
 rw [F0]
 have k1:jL s.heap ((s.heap.push { cls:=.type "list_iterator",data:=.fields #[.ref p,.int 0 0] }).push { cls:=.type "list",data:=.seq #[] }):=fun b o e=>Yq _ (Yq _ e)
 refine wpAny_pure ⟨plainId_quiet F.plain_min_loop _,?_⟩
 show codeAny (model prog w) A (.builtin "min.loop" ⟨[.ref s.heap.objs.size,.none,.ref (s.heap.push { cls:=.type "list_iterator",data:=.fields #[.ref p,.int 0 0] }).objs.size],[]⟩) _ _
 rw [hsz]
 refine RE (c:=0) (Walks.list (A:=A.in1) hh s.heap.objs.size p hne its) bt hcmp (s.heap.objs.size + 1) (fun z=>?_) e1 (fun b hb=>?_) hn ?_ k1 ?_ fun v h' tk hv hk=>hQ v h' tk hv hk
 ·rcases YC.mp z with z | z
  ·exact absurd z (Nat.succ_ne_self _)
  ·have:s.heap.objs.size + 1=p:=Yr.mp z
   exact absurd hlt (by rw [<- this];exact Nat.not_lt_of_le (Nat.le_succ _))
 ·rw [Yr.mp hb];exact e0
 ·exact ⟨⟨_,Yq _ (Yy _ rfl),rfl,rfl⟩,(hl.push _).push _⟩
 ·rw [<- hsz];exact Yy _ rfl
end
theorem JL {h:Heap}:∀ {us:List Value} {ds:List PyData} {as:List Addr} {i:Nat} {v:Value},ReadsAll h us ds as->us[i]?=some v->∃ as',Reads h v (ds.getD i .none) as'/\ds.getD i .none∈ds
 | _,_,_,_,_,.nil,e=>by simp at e
 | _,_,_,0,_,.cons r _,e=>by simp at e;subst e;exact ⟨_,r,Ye⟩
 | _,_,_,i + 1,v,.cons _ rs,e=>by
  obtain ⟨as',r,m⟩:=JL (i:=i) (v:=v) rs (by simpa using e)
  exact ⟨as',r,Yg _ m⟩
section
variable {X:Cx}
def uU (ds:List PyData) (i j:Nat):Bool:=AG (ds.getD i .none) (ds.getD j .none)
def oJ (ds:List PyData):Nat:=argBest (uU ds) (ds.length - 1)
def wo (K:Zfr):List V->Hp->VK->Prop:=fun xs H Q=>∃ (p:Addr) (vs:List V) (ds:List PyData),xs=[.ref p]/\iy K H p vs/\fL K H vs ds/\0 < ds.length/\(∀ a∈ds,∀ b∈ds,sR a b=true)/\(∀ a∈ds,a.canLay0=true/\a.depth<=50)/\∃ v,vs[oJ ds]?=some v/\Q v H
theorem Nb (hc:X.calm=true) (hu:X.A.units + 64 < cLine):d9 X (.builtin "min") (wo X.K):=by
 intro pins s σ H xs us Q I r h
 obtain ⟨p,vs,ds,rfl,hq,hr,hn,hok,hlay,v0,hv0,q⟩:=h
 obtain ⟨u,rfl,ru⟩:=vals1 r
 cases ru
 obtain ⟨its,rv,pl,_⟩:=I.list hq
 obtain ⟨as,ra⟩:=fL.reads I hr rv
 have hlen:its.length=ds.length:=ReadsAll.length _ _ _ ra
 refine RF (bt:=uU ds) (I.ok.hd hc) pl.isList (by rw [Yo];omega) (fun i j vi vj s' hK hi hj=>?_) fun v h' tk hv hk=>?_
 ·have hi':its[i]?=some vi:=by simpa using hi
  have hj':its[j]?=some vj:=by simpa using hj
  obtain ⟨a1,r1,m1⟩:=JL ra hi'
  obtain ⟨a2,r2,m2⟩:=JL ra hj'
  have b1:=(hlay _ m1).2
  have b2:=(hlay _ m2).2
  exact M9 _ _ _ s' _ _ _ _ (Reads.keeps hK r1) (Reads.keeps hK r2) (hok _ m1 _ m2) (hlay _ m1).1 (hlay _ m2).1 (by show X.A.units + 1 + _ < cLine;omega)
 ·have hv':its[oJ ds]?=some v:=by
   have e:its.toArray.size - 1=ds.length - 1:=by rw [Yo,hlen]
   rw [e] at hv
   unfold oJ
   simpa using hv
  obtain ⟨u,Nc,ru⟩:=Vals.get rv hv0
  rw [hv'] at Nc
  cases Nc
  exact ⟨v0,H,I.kept hk,ru,q⟩
end
end L2
namespace L2
open PySem PySem.Spec PyProof.Rows PySem.W
section
variable {lt:Nat->Nat->Bool} {n0:Nat} {cmp:Nat->Nat->(Bool->Shared->Prop)->Shared->Prop} {s:Shared}
structure Ord (lt:Nat->Nat->Bool):Prop where
 tr:∀ a b c,lt b a=false->lt c b=false->lt c a=false
 as:∀ a b,lt a b=true->lt b a=false
def P (p:Array Nat) (i:Nat):Nat:=p.getD i 0
variable (o:Ord lt) (hn:0 < n0) (hc:∀ i j (C:Bool->Shared->Prop),i < n0->j < n0->C (lt i j) s->cmp i j C s)
include o hn hc
end
section
variable {prog:Program} {w:World} {A:Around} {E:Value->Shared->Prop} {s:Shared}
end
section
variable {prog:Program} {w:World} {A:Around} {E:Value->Shared->Prop} {s:Shared} {lt:Nat->Nat->Bool}
end
section
variable {X:Cx}
end
end L2
namespace L2
open PySem PySem.Spec PyProof.Rows
section
variable {X:Cx} {o e f:Expr} {apos cpos:Pos} {td ty tx:TE}
end
end L2
namespace L2
open PySem PySem.Spec PyProof.Rows PySem.W
section
variable {X:Cx} {o e:Expr} {t t' td:TE} {apos cpos pos p:Pos}
end
end L2
namespace L2
open PySem PySem.Spec PyProof.Rows
section
variable {X:Cx} {body:List Stmt} {h₀:ExceptHandler} {hs:List ExceptHandler} {pos:Pos} {t:TS}
end
section
variable {X:Cx} {K:Zfr}
end
open Builtin
end L2
namespace L2
open PySem PySem.Spec PyProof.Rows
section
variable {X:Cx} {K:Zfr}
theorem JM:∀ {ns:List Int} {us:List Value} {i:Nat} {v:Value},Vals (ns.map V.int) us->us[i]?=some v->∃ n t,ns[i]?=some n/\v=.int n t
 | [],_,i,v,r,h=>by cases r;simp at h
 | b :: bs,_,0,v,r,h=>by
  cases r with
  | cons r1 r2 =>
   obtain ⟨t,rfl⟩:=r1
   simp at h
   exact ⟨b,t,rfl,h.symm⟩
 | b :: bs,_,i + 1,v,r,h=>by
  cases r with
  | cons r1 r2 =>
   obtain ⟨c,t,e1,e2⟩:=JM (i:=i) r2 (by simpa using h)
   exact ⟨c,t,by simpa using e1,e2⟩
def om (ns:List Int) (i j:Nat):Bool:=decide (ns.getD i 0 > ns.getD j 0)
theorem RG (hc:X.calm=true):d9 X (.builtin "max") (fun xs H Q=>∃ (p:Addr) (ns:List Int),xs=[.ref p]/\iy X.K H p (ns.map V.int)/\0 < ns.length/\∀ m,ns[argBest (om ns) (ns.length - 1)]?=some m->Q (.int m) H):=by
 intro pins s σ H xs us Q I r h
 obtain ⟨p,ns,rfl,hq,hn,q⟩:=h
 obtain ⟨u,rfl,ru⟩:=vals1 r
 cases ru
 obtain ⟨its,rv,pl,_⟩:=I.list hq
 have hl:=pl.isList
 have hlt:p < s.heap.objs.size:=by obtain ⟨_,e,_⟩:=hl;exact Yx e
 have hlen:=rv.length
 rw [X9] at hlen
 have hh:X.A.in1.handled=none:=I.ok.hd hc
 refine call_max_walk (wpAny_pyIter_list hl ?_)
 refine ⟨s.heap.objs.size,[s.heap.objs.size,p],[s.heap.objs.size],its.toArray.size,_,_,om ns,rfl,Walks.list (A:=X.A.in1) hh _ p (YQ hlt) its.toArray,⟨⟨_,Yy _ rfl,rfl,rfl⟩,hl.push _⟩,?_,by rw [Yo];omega,CmpOf.ints_gt (fun i=>ns.getD i 0) ?_,fun v h' tk hP hk=>?_⟩
 ·intro b hb
  have hz:(s.heap.push { cls:=.type "list_iterator",data:=.fields #[.ref p,.int 0 0] }).objs.size=s.heap.objs.size + 1:=size_push' _ _
  show b < (s.heap.push { cls:=.type "list_iterator",data:=.fields #[.ref p,.int 0 0] }).objs.size
  rw [hz]
  rcases YC.mp hb with rfl | hb
  ·exact Y4 _
  ·rw [Yr.mp hb]
   exact Nat.lt_succ_of_lt hlt
 ·intro i v hP
  obtain ⟨n,t,e1,e2⟩:=JM rv (by simpa using hP)
  exact ⟨t,by rw [e2,Yn,e1];rfl⟩
 ·obtain ⟨n,t,e1,e2⟩:=JM rv (by simpa using hP)
  rw [e2]
  rw [<- hlen] at e1
  exact ⟨.int _,H,I.kept (PyProof.Rows.LSm.kept_iter hk),⟨_,rfl⟩,q n e1⟩
end
end L2
namespace L2
open PySem PySem.Spec PyProof.Rows PySem.W
section
variable {prog:Program} {w:World} {A:Around} {E:Value->Shared->Prop} {s:Shared}
end
end L2
namespace L2
open PySem PySem.Spec PyProof.Rows
section
variable {M:Model} {A:Around} {E:Value->Shared->Prop} {s:Shared}
end
def RH:Option Addr->Value
 | none=>.none
 | some T=>.ref T
def XO (a C:Addr) (dx tr:Option Addr):HO:=.ext fun h=>∃ o vs,h.get? a=some o/\o.cls=.ref C/\o.dict=dx/\o.data=.fields vs/\vs[1]?=some (RH tr)
section
variable {P:Program} {w:World} {H H' H2:Hp} {h h':Heap} {a C T:Addr} {dx tr:Option Addr} {o:HO}
end
section
variable {X:Cx} {pins:List (Addr×Obj)} {σ:St} {H:Hp} {s:Shared} {a C:Addr} {dx:Option Addr}
end
section
variable {P:Program} {w:World} {K:Zfr} {mg:Str->Option Value} {base:Heap} {N:List Str} {qual:Str} {scope:Scope} {f:Addr} {cd:Value} {A:Around} {outer:List Env} {s0:Shared} {H0:Hp} {E:XK}
end
section
open PySem.W
end
section
variable {X:Cx} {pins:List (Addr×Obj)} {σ:St} {H:Hp} {s:Shared} {a C:Addr} {dx:Option Addr}
end
section
variable {P:Program} {w:World} {K:Zfr} {mg:Str->Option Value} {base:Heap} {N:List Str} {qual:Str} {scope:Scope} {f:Addr} {cd:Value} {A:Around} {outer:List Env} {s0:Shared} {H0:Hp} {E:XK}
end
section
variable {X:Cx} {pins:List (Addr×Obj)} {σ:St} {H:Hp} {s:Shared} {W:St->Addr->Hp->Prop} {a:Addr}
end
section
variable {X:Cx} {i:Nat} {x n:Str} {F:Addr} {bmB:List Value} {newId:String} {tb:(St->Addr->Hp->Prop)->TS} {ts:TS} {body suite:List Stmt} {b0:Stmt} {np hpos pos:Pos}
end
section
variable {X:Cx} {k:Nat} {f:Addr} {fd:FuncData} {ps:List Str} {sp:Sp} {x:Str} {p pos:Pos} {e:Expr} {es:List Expr} {t:TA} {pins:List (Addr×Obj)} {W:St->Addr->Hp->Prop}
end
end L2
namespace L2
open PySem PySem.Spec PyProof.Rows PySem.W
section
variable {prog:Program} {w:World} {A:Around} {E:Value->Shared->Prop} {s:Shared} {K:Frag} {a C:Addr} {ox:Obj} {odo:Option Obj} {name:Str}
end
section
variable {X:Cx} {x:Str} {c:Value} {v:V} {p pos:Pos} {e:Expr} {te:TE} {b:Bool}
end
end L2
namespace L2
open PySem PySem.Spec PyProof.Rows
section
variable {X:Cx}
end
end L2
namespace L2
open PySem PySem.Spec PyProof.Rows PySem.W PySem.Builtin PySem.Builtin.ObjectAttr
section
variable {prog:Program} {w:World} {A:Around} {E:Value->Shared->Prop} {s:Shared} {K:Frag} {a C:Addr} {ox:Obj} {odo:Option Obj} {name:Str} {v:Value}
end
section
variable {X:Cx} {pins:List (Addr×Obj)} {σ:St} {H:Hp} {s:Shared} {a C:Addr} {tr:Option Addr} {f:Str} {y:V} {u:Value}
variable {o value:Expr} {ta tv:TE} {pos pos':Pos}
end
end L2
namespace L2
open PySem PySem.Spec PyProof.Rows PySem.W
section
variable {prog:Program} {w:World} {A:Around} {E:Value->Shared->Prop} {h:Heap} {g:Array GenState} {d:Drawn} {t:Nat} {os:OsState}
variable {nm q:Str} {C N:Addr} {bs bm bmB:List Value} {hdct:Bool} {sn:List Str} {sub:List Value} {ab:Bool} {col:Option Bool} {dd:Option Addr} {k0 k1 k2 k3 k5:Option Value} {B newId initId:String}
end
section
variable {X:Cx} {k:Nat} {f C:Addr} {fd:FuncData} {ps:List Str} {sp:Sp} {x:Str} {p pos:Pos} {e:Expr} {es:List Expr} {t:TA} {B newId initId:String} {bmB:List Value}
end
section
variable {P:Program} {w:World} {K:Frag} {mg:Str->Option Value} {base:Heap} {N:List Str} {qual:Str} {scope:Scope} {f:Addr} {cd:Value} {A:Around} {outer:List Env} {s0:Shared} {H0:Hp} {E:XK}
end
section
variable {X:Cx} {e:Expr} {te:TE} {f:Str} {pos:Pos}
end
end L2
namespace L2
open PySem PySem.Spec PyProof.Rows
section
variable {X:Cx} {K:Zfr}
def qH (K:Zfr):V->List V->Hp->VK->Prop:=fun x vs H Q=>∃ (a:Addr) (ys:List V) (ds:List PyData) (y:V) (dy:PyData) (j:Nat),x=.ref a/\vs=[y]/\iy K H a ys/\fL K H ys ds/\Rep K H y dy/\(∀ d∈ds,PyData.canLay0 d=true)/\PyData.canLay0 dy=true/\PyData.depth dy<=60 /\
 ds.length<=1000/\(∃ d,ds[j]?=some d/\PyData.eqv d dy=true)/\(∀ i d,i < j->ds[i]?=some d->PyData.eqv d dy=false)/\Q (.int (j:Int)) H
theorem RI (hu:X.A.units + 64 < cLine):vT X "list.index" (qH X.K):=by
 intro pins s σ H x xs v us Q I rx rv h
 obtain ⟨a,ys,ds,y,dy,j,rfl,rfl,hq,hr,hy,c1,c2,c3,hl,hit,hno,q⟩:=h
 cases rx
 obtain ⟨u,rfl,ru⟩:=vals1 rv
 obtain ⟨its,r,pl,hz⟩:=I.list hq
 obtain ⟨⟨c,dd,dt,sl⟩,e,hc,n,hdt⟩:=pl.isList
 cases (show c=.type "list" from hc)
 cases (show dt=.seq its.toArray n from hdt)
 have hlen:its.length=ds.length:=by rw [<- r.length];exact hr.uS
 obtain ⟨d0,hd0,RJ⟩:=hit
 have hjl:j < ds.length:=(Ya.mp hd0).1
 have rd:∀ (i:Nat) (w:Value) (d:PyData),its[i]?=some w->ds[i]?=some d->∃ as,Reads s.heap w d as:=fun i w d h1 h2=>by
  obtain ⟨z,hz',rz⟩:=r.Cr h1
  obtain ⟨d',hd',rp⟩:=hr.get hz'
  rw [h2] at hd'
  cases hd'
  exact rp.reads I rz
 refine call_meets F.slot_list_index ⟨_,e,rfl⟩ F.entry_list_index (F.args_list_index_2 _ _) (PySem.SeqAt.list_indexAt a its.toArray n dd sl u (eD its ds dy) j (by simp;omega) (by omega) ?_ fun m hm RK=>?_) ⟨e,fun z hz=>?_,⟨.int _,H,I.tok _,⟨_,rfl⟩,q⟩⟩
 ·unfold eD
  refine @decide_eq_true _ (Classical.propDecidable _) ⟨j,d0,?_,hd0,RJ⟩
  simp [show j < its.length by omega]
 ·unfold eD
  refine @decide_eq_false _ (Classical.propDecidable _) ?_
  rintro ⟨i,d,h1,h2,h3⟩
  have hm2:m < its.length:=by simpa using hm
  have RL:its[m]?=some (its.toArray[m]):=by simp [hm2]
  obtain ⟨dm,Nd⟩:∃ dm,ds[m]?=some dm:=⟨ds[m]'(by omega),Yb _⟩
  obtain ⟨as,ra⟩:=rd i _ d h1 h2
  obtain ⟨bs,rb⟩:=rd m _ dm RL Nd
  have ed:d=dm:=(Reads.unique ra _ _ rb).1
  rw [ed,hno m dm RK Nd] at h3
  cases h3
 ·exact JG hu I r hr ru hy c1 c2 (by first | exact c3 | (intro d hd;omega)) z (by simpa using hz)
end
section
variable {X:Cx}
def wt (i j:Int):Prop:=j≠0/\j.natAbs.log2 < 9000
theorem RM:kH X (binaryOp .FloorDiv) (rI wt fun i j=>.int (i.fdiv j)):=Au fun _ j _ _ _ _ _ hc q=>floordiv_int hc.1 q (.inl (PyProof.noPylong_of_log2 hc.2))
end
open Builtin
def P2 (k:Nat):Nat:=2 ^ k
theorem Nf (a b:Nat):P2 a * P2 b=P2 (a + b):=(Nat.pow_add 2 a b).symm
theorem Cz {a b:Nat} (h:a<=b):P2 a<=P2 b:=Nat.pow_le_pow_right (by decide) h
theorem AH (a:Nat):0 < P2 a:=Nat.two_pow_pos a
theorem yg (a n:Nat):P2 a ^ n=P2 (a * n):=(Nat.pow_mul 2 a n).symm
theorem uV (a:Nat):P2 (a + 1)=2 * P2 a:=by unfold P2;rw [Nat.pow_succ,Nat.mul_comm]
theorem Ng (a:Nat):a < P2 a:=Nat.lt_two_pow_self
def qI (i j:Int):Prop:=sy i j\/(Builtin.Int.intBits i<=60000000/\Builtin.Int.intBits j<=60000000)
theorem wx {i:Int} {k:Nat} (h:i.natAbs < P2 k) (hk:k<=60000000):Builtin.Int.intBits i<=60000000:=Yv (PyProof.Rows.intBits_le h) hk
theorem qI.ok {i j:Int} (h:qI i j):IntMulOk i j:=by
 rcases h with h | ⟨h1,h2⟩
 ·exact h.ok
 ·exact PyProof.Rows.mulOk_of_bits (m:=60000000) (n:=60000000) h1 h2 (by decide)
section
variable {X:Cx}
theorem oo:kH X (binaryOp .Mult) (rI qI fun i j=>.int (i * j)):=Au fun _ _ _ _ _ _ _ hc q=>mul_int q hc.ok
end
end L2
namespace af
def JN (n:Nat) (xs:List Int) (k:Nat):Bool :=
 match xs[k]? with
 | some x=>decide (0<=x) && decide (x < (n:Int)) && !((xs.take k).contains x)
 | none=>true
def due (xs:List Int):Bool:=decide (0 < xs.length) && (List.range xs.length).all (JN xs.length xs)
def upto (n:Nat):List Int:=(List.range n).map fun (k:Nat)=>(k:Int)
theorem pS (n:Nat):(upto n).length=n:=by simp [upto]
theorem nu {n:Nat} {x:Int}:x∈upto n↔0<=x/\x < (n:Int):=by
 simp only [upto,Yt,List.mem_range]
 constructor
 ·rintro ⟨k,hk,rfl⟩;omega
 ·rintro ⟨h1,h2⟩;exact ⟨x.toNat,by omega,by omega⟩
theorem RN (n:Nat):(upto n).Pairwise (· < ·):=by
 unfold upto
 rw [List.pairwise_map]
 exact (List.pairwise_lt_range).imp fun h=>by omega
theorem Nh (n:Nat):(upto n).Nodup:=(RN n).imp fun h=>by omega
theorem F4:∀ {xs ys:List Int},xs.Nodup->(∀ x∈xs,x∈ys)->ys.length<=xs.length->xs.Perm ys
 | [],ys,_,_,h=>by
  have:ys=[]:=List.eq_nil_of_length_eq_zero (by simpa using h)
  subst this;exact List.Perm.refl _
 | x :: xs,ys,hn,hs,hl=>by
  obtain ⟨h1,h2⟩:=YW.mp hn
  have hx:x∈ys:=hs x Ye
  have hp:=List.perm_cons_erase hx
  have hlen:(ys.erase x).length + 1=ys.length:=by have:=hp.length_eq;simpa using this.symm
  refine List.Perm.trans (List.Perm.cons x (F4 (ys:=ys.erase x) h2 (fun y hy=>?_) ?_)) hp.symm
  ·have hne:y≠x:=fun e=>h1 (e ▸ hy)
   exact (List.mem_erase_of_ne hne).mpr (hs y (Yg _ hy))
  ·simp at hl;omega
theorem JO {xs:List Int} (hn:xs.Nodup) (hb:∀ x∈xs,0<=x/\x < (xs.length:Int)):xs.Perm (upto xs.length):=by
 exact F4 hn (fun x hx=>nu.mpr (hb x hx)) (by rw [pS];exact Yd _)
end af
namespace af
def app (xs:List Int) (i:Int):Int:=xs.getD i.toNat 0
def bA (xs:List Int) (i:Int):Nat->Int
 | 0=>i
 | j + 1=>app xs (bA xs i j)
def Tn (n:Nat) (xs:List Int):Prop:=xs.Perm (upto n)
theorem Tn.length {n:Nat} {xs:List Int} (h:Tn n xs):xs.length=n:=by rw [h.length_eq,pS]
theorem Tn.nodup {n:Nat} {xs:List Int} (h:Tn n xs):xs.Nodup:=h.nodup_iff.mpr (Nh n)
theorem Tn.bound {n:Nat} {xs:List Int} (h:Tn n xs) {x:Int} (hx:x∈xs):0<=x/\x < (n:Int):=nu.mp (h.subset hx)
theorem pT {xs:List Int} {i:Int} (h0:0<=i) (h1:i < (xs.length:Int)):xs[i.toNat]?=some (app xs i):=by
 have:i.toNat < xs.length:=by omega
 unfold app
 rw [Yn,Yb this];rfl
theorem RO {xs:List Int} {i:Int} (h0:0<=i) (h1:i < (xs.length:Int)):app xs i∈xs:=Yf (pT h0 h1)
theorem Tn.app {n:Nat} {xs:List Int} (h:Tn n xs) {i:Int} (h0:0<=i) (h1:i < (n:Int)):0<=app xs i/\app xs i < (n:Int):=h.bound (RO h0 (by rw [h.length];exact h1))
theorem Tn.inj {n:Nat} {xs:List Int} (h:Tn n xs) {i j:Int} (i0:0<=i) (i1:i < (n:Int)) (j0:0<=j) (j1:j < (n:Int)) (e:af.app xs i=af.app xs j):i=j:=by
 have hl:=h.length
 have a:=pT i0 (by rw [hl];exact i1)
 have b:=pT j0 (by rw [hl];exact j1)
 rw [e] at a
 obtain ⟨ha,ea⟩:=Ya.mp a
 obtain ⟨hb,eb⟩:=Ya.mp b
 have:=(List.getElem_inj h.nodup).mp (ea.trans eb.symm)
 omega
theorem Tn.bA {n:Nat} {xs:List Int} (h:Tn n xs) {i:Int} (h0:0<=i) (h1:i < (n:Int)):∀ j,0<=bA xs i j/\bA xs i j < (n:Int)
 | 0=>⟨h0,h1⟩
 | j + 1=>h.app (h.bA h0 h1 j).1 (h.bA h0 h1 j).2
theorem Tn.back {n:Nat} {xs:List Int} (h:Tn n xs) {i:Int} (h0:0<=i) (h1:i < (n:Int)):∀ (a d:Nat),af.bA xs i a=af.bA xs i (a + d)->af.bA xs i d=i
 | 0,d,e=>by rw [Nat.zero_add] at e;exact e.symm
 | a + 1,d,e=>by
  have e':af.app xs (af.bA xs i a)=af.app xs (af.bA xs i (a + d)):=by
   have:a + 1 + d=(a + d) + 1:=by omega
   rw [this] at e
   exact e
  exact h.back h0 h1 a d (h.inj (h.bA h0 h1 a).1 (h.bA h0 h1 a).2 (h.bA h0 h1 _).1 (h.bA h0 h1 _).2 e')
theorem AI:∀ {xs ys:List Int},xs.Nodup->(∀ x∈xs,x∈ys)->xs.length<=ys.length
 | [],_,_,_=>YN _
 | x :: xs,ys,hn,hs=>by
  obtain ⟨h1,h2⟩:=YW.mp hn
  have hx:x∈ys:=hs x Ye
  have hp:=List.perm_cons_erase hx
  have hlen:(ys.erase x).length + 1=ys.length:=by have:=hp.length_eq;simpa using this.symm
  have:=AI (ys:=ys.erase x) h2 fun y hy=>(List.mem_erase_of_ne (a:=y) (b:=x) (fun e=>h1 (by rw [<- e];exact hy))).mpr (hs y (Yg _ hy))
  simp only [YE]
  omega
def row (xs:List Int) (i:Int) (m:Nat):List Int:=(List.range (m + 1)).map (bA xs i)
theorem Ni (xs:List Int) (i:Int) (m:Nat):row xs i (m + 1)=row xs i m ++ [bA xs i (m + 1)]:=by
 unfold row;rw [List.range_succ,Ys];rfl
theorem ui (xs:List Int) (i:Int) (m:Nat):(row xs i m).length=m + 1:=by simp [row]
theorem F5 {xs:List Int} {i:Int} {m:Nat} {x:Int}:x∈row xs i m↔∃ j,j<=m/\bA xs i j=x:=by
 unfold row
 rw [Yt]
 constructor
 ·rintro ⟨j,hj,e⟩;exact ⟨j,by have:=List.mem_range.mp hj;omega,e⟩
 ·rintro ⟨j,hj,e⟩;exact ⟨j,List.mem_range.mpr (by omega),e⟩
def NB (xs:List Int) (i:Int) (m:Nat):Prop:=∀ j,1<=j->j<=m->bA xs i j≠i
theorem Tn.kX {n:Nat} {xs:List Int} (h:Tn n xs) {i:Int} (h0:0<=i) (h1:i < (n:Int)) {m:Nat} (nb:NB xs i m):m + 1<=n:=by
 have hn:(row xs i m).Nodup:=by
  unfold row List.Nodup
  rw [List.pairwise_map]
  refine List.Pairwise.imp_of_mem (R:=fun a b=>a < b) ?_ List.pairwise_lt_range
  intro a b ha hb hab e
  have ha':=List.mem_range.mp ha
  have hb':=List.mem_range.mp hb
  obtain ⟨d,rfl⟩:∃ d,b=a + d:=⟨b - a,by omega⟩
  exact nb d (by omega) (by omega) (h.back h0 h1 a d e)
 have:=AI hn (ys:=upto n) fun x hx=>by
  obtain ⟨j,_,rfl⟩:=F5.mp hx
  exact nu.mpr (h.bA h0 h1 j)
 rw [ui,pS] at this
 exact this
structure iz (xs:List Int) (i:Int) (r:List Int):Prop where
 ex:∃ m,r=row xs i m/\NB xs i m/\bA xs i (m + 1)=i
theorem iz.mem {xs:List Int} {i:Int} {r:List Int} (a:iz xs i r):i∈r:=by
 obtain ⟨m,e1,_,_⟩:=a.ex
 rw [e1];exact F5.mpr ⟨0,YN _,rfl⟩
theorem iz.len {n:Nat} {xs:List Int} (h:Tn n xs) {i:Int} (h0:0<=i) (h1:i < (n:Int)) {r:List Int} (a:iz xs i r):r.length<=n:=by
 obtain ⟨m,e1,nb,_⟩:=a.ex
 rw [e1,ui];exact h.kX h0 h1 nb
theorem iz.bound {n:Nat} {xs:List Int} (h:Tn n xs) {i:Int} (h0:0<=i) (h1:i < (n:Int)) {r:List Int} (a:iz xs i r):∀ x∈r,0<=x/\x < (n:Int):=by
 obtain ⟨m,e1,nb,_⟩:=a.ex
 subst e1
 intro x hx
 obtain ⟨j,_,rfl⟩:=F5.mp hx
 exact h.bA h0 h1 j
def out (left r:List Int):List Int:=left.filter fun k=>!r.contains k
inductive wy (xs:List Int):List Int->List (List Int)->Prop
 | nil:wy xs [] []
 | cons {i:Int} {left r:List Int} {rs:List (List Int)}:iz xs i r->wy xs (out (i :: left) r) rs->wy xs (i :: left) (r :: rs)
def from' (n k:Nat) (seen:Int->Bool):List Int:=(((List.range n).drop k).map fun (j:Nat)=>(j:Int)).filter fun x=>!seen x
theorem RP (n:Nat) (seen:Int->Bool):from' n n seen=[]:=by
 unfold from';rw [List.drop_of_length_le (by simp)];rfl
theorem RQ {n k:Nat} (h:k < n) (seen:Int->Bool):from' n k seen=if seen (k:Int) then from' n (k + 1) seen else (k:Int) :: from' n (k + 1) seen:=by
 unfold from'
 rw [List.drop_eq_getElem_cons (by simpa using h),Yu,List.filter_cons]
 simp only [List.getElem_range]
 cases hs:seen (k:Int) <;> simp
theorem RS {n k:Nat} {seen:Int->Bool} {r:List Int}:out (from' n k seen) r=from' n k (fun x=>seen x || r.contains x):=by
 unfold out from'
 rw [List.filter_filter]
 congr 1
 funext x
 show (!r.contains x && !seen x)=!(seen x || r.contains x)
 cases seen x <;> cases r.contains x <;> rfl
theorem RT (n:Nat):from' n 0 (fun _=>false)=upto n:=by
 unfold from' upto
 rw [List.drop_zero]
 simp
def qJ (n:Nat):List Int:=((List.range (n - 1)).map fun (k:Nat)=>(1:Int) + k) ++ [0]
theorem RU:∀ n,n < 21->0 < n->(qJ n).isPerm (upto n)=true:=by decide
theorem Nj {n:Nat} (h:n < 21) (h0:0 < n):Tn n (qJ n):=List.isPerm_iff.mp (RU n h h0)
end af
namespace af
theorem CA {n:Nat} {xs:List Int} (h:xs.length=n):(upto n).map (app xs)=xs:=by
 apply List.ext_getElem
 ·rw [X9,pS,h]
 ·intro i h1 h2
  have e:=pT (xs:=xs) (i:=(i:Int)) (by omega) (by omega)
  simp only [Yl] at e
  rw [Yb h2] at e
  rw [List.getElem_map]
  unfold upto
  simp only [List.getElem_map,List.getElem_range]
  exact (Ym e).symm
def inv (xs:List Int):List Int:=(upto xs.length).map fun i=>(xs.idxOf i:Int)
theorem CB (xs:List Int):(inv xs).length=xs.length:=by unfold inv;rw [X9,pS]
theorem CC {n i:Nat} (h:i < n):(upto n)[i]?=some (i:Int):=by
 unfold upto;rw [Yi,List.getElem?_range h];rfl
theorem F6 {xs:List Int} {i:Int} (h0:0<=i) (h1:i < (xs.length:Int)):app (inv xs) i=(xs.idxOf i:Int):=by
 have e:=pT (xs:=inv xs) h0 (by rw [CB];exact h1)
 unfold inv at e
 rw [Yi,CC (by omega)] at e
 have:=Ym e
 rw [<- inv] at this
 rw [<- this,YG h0]
theorem Tn.mem {n:Nat} {xs:List Int} (h:Tn n xs) {i:Int} (h0:0<=i) (h1:i < (n:Int)):i∈xs:=h.symm.subset (nu.mpr ⟨h0,h1⟩)
theorem Tn.idx {n:Nat} {xs:List Int} (h:Tn n xs) {i:Int} (h0:0<=i) (h1:i < (n:Int)):xs.idxOf i < n:=by rw [<- h.length];exact List.idxOf_lt_length_of_mem (h.mem h0 h1)
theorem Tn.cU {n:Nat} {xs:List Int} (h:Tn n xs) {i:Int} (h0:0<=i) (h1:i < (n:Int)):af.app xs (af.app (inv xs) i)=i:=by
 rw [F6 h0 (by rw [h.length];exact h1)]
 have hl:=h.idx h0 h1
 have e:=pT (xs:=xs) (i:=(xs.idxOf i:Int)) (by omega) (by rw [h.length];omega)
 rw [Yl,Yb (by rw [h.length];exact hl)] at e
 rw [<- Ym e]
 exact List.getElem_idxOf _
theorem Tn.ny {n:Nat} {xs:List Int} (h:Tn n xs) {i:Int} (h0:0<=i) (h1:i < (n:Int)):0<=af.app (inv xs) i/\af.app (inv xs) i < (n:Int):=by
 rw [F6 h0 (by rw [h.length];exact h1)]
 have:=h.idx h0 h1
 omega
theorem Tn.fN {n:Nat} {xs:List Int} (h:Tn n xs) {i:Int} (h0:0<=i) (h1:i < (n:Int)):af.app (inv xs) (af.app xs i)=i:=by
 obtain ⟨a0,a1⟩:=h.app h0 h1
 obtain ⟨b0,b1⟩:=h.ny a0 a1
 exact h.inj b0 b1 h0 h1 (h.cU a0 a1)
theorem Tn.aD {n:Nat} {xs:List Int} (h:Tn n xs):Tn n (inv xs):=by
 have hl:=h.length
 unfold Tn
 have e:(inv xs).length=n:=by rw [CB,hl]
 have:=JO (xs:=inv xs) ?_ ?_
 ·rw [e] at this;exact this
 ·unfold List.Nodup
  rw [List.pairwise_iff_getElem]
  intro i j hi hj hij z
  have a:=pT (xs:=inv xs) (i:=(i:Int)) (by omega) (by omega)
  have b:=pT (xs:=inv xs) (i:=(j:Int)) (by omega) (by omega)
  rw [Yl,Yb hi] at a
  rw [Yl,Yb hj] at b
  have a:=Ym a
  have b:=Ym b
  have c:=h.cU (i:=(i:Int)) (by omega) (by omega)
  have d:=h.cU (i:=(j:Int)) (by omega) (by omega)
  rw [<- a] at c
  rw [<- b,<- z] at d
  have:=c.symm.trans d
  omega
 ·intro x hx
  unfold inv at hx
  obtain ⟨i,hi,rfl⟩:=Yt.mp hx
  have:=nu.mp hi
  rw [hl] at this
  have:=h.idx this.1 this.2
  rw [e];omega
theorem uj (xs:List Int) (i:Int) (j:Nat):∀ d,bA xs (bA xs i j) d=bA xs i (j + d)
 | 0=>rfl
 | d + 1=>by show app xs (bA xs (bA xs i j) d)=app xs (bA xs i (j + d));rw [uj xs i j d]
theorem Nk {xs:List Int} {i:Int} {L:Nat} (h:bA xs i L=i) (a:Nat):bA xs i (a + L)=bA xs i a:=by
 rw [Nat.add_comm,<- uj xs i L a,h]
theorem CD {xs:List Int} {i:Int} {L:Nat} (h:bA xs i L=i):∀ (q r:Nat),bA xs i (r + L * q)=bA xs i r
 | 0,r=>rfl
 | q + 1,r=>by rw [Nat.mul_succ,<- Nat.add_assoc,Nk h];exact CD h q r
theorem Nl {xs:List Int} {i:Int} {L:Nat} (h:bA xs i L=i) (a:Nat):bA xs i (a % L)=bA xs i a:=by
 have:=CD h (a / L) (a % L)
 rw [Nat.mod_add_div] at this
 exact this.symm
def Nm (xs:List Int) (k i v:Int):Prop:=∃ m,NB xs i m/\bA xs i (m + 1)=i/\v=bA xs i (k % ((m + 1:Nat):Int)).toNat
theorem Tn.yh {n:Nat} {xs:List Int} (h:Tn n xs) {i:Int} (h0:0<=i) (h1:i < (n:Int)) {m:Nat} (nb:NB xs i m) (bk:af.bA xs i (m + 1)=i) (j:Nat) (k:Int) :
  Nm xs k (af.bA xs i j) (af.bA xs i (((j:Int) + k) % ((m + 1:Nat):Int)).toNat):=by
 refine ⟨m,fun d d1 d2 e=>?_,?_,?_⟩
 ·rw [uj] at e
  exact nb d d1 d2 (h.back h0 h1 j d e.symm)
 ·rw [uj,Nk bk]
 ·rw [uj]
  rw [<- Nl bk (j + (k % ((m + 1:Nat):Int)).toNat)]
  congr 1
  have hL:(0:Int) < ((m + 1:Nat):Int):=by omega
  have k0:=Y3 k (Int.ne_of_gt hL)
  have e:(((j + (k % ((m + 1:Nat):Int)).toNat) % (m + 1):Nat):Int)=((j:Int) + k) % ((m + 1:Nat):Int):=by
   rw [Int.natCast_emod,Int.natCast_add,YG k0,Int.add_emod_emod]
  rw [<- e,Yl]
theorem wy.all {xs:List Int}:∀ {left:List Int} {rs:List (List Int)},wy xs left rs->(∀ r∈rs,∃ i∈left,iz xs i r)/\∀ x∈left,∃ r∈rs,x∈r:=by
 intro left rs a
 induction a with
 | nil=>exact ⟨fun r hr=>(nomatch hr),fun x hx=>(nomatch hx)⟩
 | cons h1 _ ih =>
  refine ⟨fun r hr=>?_,fun x hx=>?_⟩
  ·rcases YC.mp hr with rfl | hr
   ·exact ⟨_,Ye,h1⟩
   ·obtain ⟨i,hi,r'⟩:=ih.1 r hr
    exact ⟨i,(List.mem_filter.mp hi).1,r'⟩
  ·rename_i i left r rs _
   by_cases hc:x∈r
   ·exact ⟨r,Ye,hc⟩
   ·obtain ⟨r',hr',hx'⟩:=ih.2 x (List.mem_filter.mpr ⟨hx,by simp [hc]⟩)
    exact ⟨r',Yg _ hr',hx'⟩
theorem RV {n:Nat} {xs:List Int} (h:Tn n xs):xs.map (app (inv xs))=upto n:=by
 have e:((upto n).map (app xs)).map (app (inv xs))=upto n:=by
  rw [YF]
  conv=>rhs;rw [<- List.map_id (upto n)]
  apply YU
  intro x hx
  obtain ⟨a,b⟩:=nu.mp hx
  exact h.fN a b
 rw [CA h.length] at e
 exact e
theorem RW {n:Nat} {xs:List Int} (h:Tn n xs):(inv xs).map (app xs)=upto n:=by
 have e:((upto n).map (app (inv xs))).map (app xs)=upto n:=by
  rw [YF]
  conv=>rhs;rw [<- List.map_id (upto n)]
  apply YU
  intro x hx
  obtain ⟨a,b⟩:=nu.mp hx
  exact h.cU a b
 rw [CA (h.aD).length] at e
 exact e
end af
namespace af
inductive jI (xs ys:List Int):Int->Prop
 | zero:jI xs ys 0
 | r {x:Int}:jI xs ys x->jI xs ys (app xs x)
 | u {x:Int}:jI xs ys x->jI xs ys (app ys x)
theorem jI.bound {n:Nat} {xs ys:List Int} (hx:Tn n xs) (hy:Tn n ys) (h0:0 < n) {x:Int} (h:jI xs ys x):0<=x/\x < (n:Int):=by
 induction h with
 | zero=>omega
 | r _ ih=>exact hx.app ih.1 ih.2
 | u _ ih=>exact hy.app ih.1 ih.2
theorem jI.bA {xs ys:List Int} {x:Int} (h:jI xs ys x):∀ k,jI xs ys (af.bA xs x k)
 | 0=>h
 | k + 1=>.r (h.bA k)
def oD (xs:List Int) (m:Nat):List Int:=(xs.set 0 (app xs m)).set m (app xs 0)
theorem RX (xs:List Int) (m:Nat):(oD xs m).length=xs.length:=by simp [oD]
theorem JP {xs:List Int} {m:Nat} {v x:Int} (hm:m < xs.length) (h0:0<=x):app (xs.set m v) x=if x=(m:Int) then v else app xs x:=by
 unfold app
 rw [Yn,Yn]
 by_cases hx:x=(m:Int)
 ·rw [if_pos hx,hx,Yl,Yj hm];rfl
 ·rw [if_neg hx,Yp (by omega)]
theorem AJ {xs:List Int} {m:Nat} (hm:m < xs.length) {x:Int} (h0:0<=x):app (oD xs m) x=if x=(m:Int) then app xs 0 else if x=0 then app xs m else app xs x:=by
 unfold oD
 rw [JP (by simpa using hm) h0,JP (by omega) h0]
 rfl
theorem yi {n:Nat} {xs:List Int} (h:Tn n xs) {m:Nat} (hm:m < n):Tn n (oD xs m):=by
 have hl:=h.length
 have e:(oD xs m).length=n:=by rw [RX,hl]
 have:=JO (xs:=oD xs m) ?_ ?_
 ·unfold Tn;rw [e] at this;exact this
 ·unfold List.Nodup
  rw [List.pairwise_iff_getElem]
  intro i j hi hj hij z
  have a:=pT (xs:=oD xs m) (i:=(i:Int)) (by omega) (by omega)
  have b:=pT (xs:=oD xs m) (i:=(j:Int)) (by omega) (by omega)
  rw [Yl,Yb hi] at a
  rw [Yl,Yb hj] at b
  have a:=Ym a
  have b:=Ym b
  rw [AJ (by omega) (by omega)] at a b
  rw [a,b] at z
  have inj:∀ p q:Int,0<=p->p < (n:Int)->0<=q->q < (n:Int)->app xs p=app xs q->p=q:=fun p q p0 p1 q0 q1=>h.inj p0 p1 q0 q1
  split at z <;> split at z <;> (try split at z) <;> (try split at z) <;> (first | omega | (have:=inj _ _ (by omega) (by omega) (by omega) (by omega) z;omega))
 ·intro x hx
  obtain ⟨i,hi,rfl⟩:=Y8 hx
  have a:=pT (xs:=oD xs m) (i:=(i:Int)) (by omega) (by omega)
  rw [Yl,Yb hi] at a
  rw [Ym a,AJ (by omega) (by omega),e]
  split
  ·exact h.app (by omega) (by omega)
  ·split
   ·exact h.app (by omega) (by omega)
   ·exact h.app (by omega) (by omega)
theorem Tn.uW {n:Nat} {xs:List Int} (h:Tn n xs) {i:Int} (h0:0<=i) (h1:i < (n:Int)):∃ m,NB xs i m/\af.bA xs i (m + 1)=i:=by
 by_cases hb:∃ m,m < n/\af.bA xs i (m + 1)=i
 ·-- the least
  have key:∀ b:Nat,(∃ m,m < b/\af.bA xs i (m + 1)=i)->∃ m,NB xs i m/\af.bA xs i (m + 1)=i:=by
   intro b
   induction b with
   | zero=>rintro ⟨m,hm,_⟩;omega
   | succ b ih =>
    rintro ⟨m,hm,e⟩
    by_cases hc:∃ m,m < b/\af.bA xs i (m + 1)=i
    ·exact ih hc
    ·refine ⟨m,fun j j1 j2 z=>hc ⟨j - 1,by omega,?_⟩,e⟩
     have:j - 1 + 1=j:=by omega
     rw [this];exact z
  exact key n hb
 ·have nb:NB xs i n:=fun j j1 j2 z=>by
   refine hb ⟨j - 1,by omega,?_⟩
   have:j - 1 + 1=j:=by omega
   rw [this];exact z
  have:=h.kX h0 h1 nb
  omega
theorem RY {n:Nat} {xs ys:List Int} (hx:Tn n xs) (hy:Tn n ys) {m:Nat} (hm:m < n) (nm:¬ jI xs ys (m:Int)):jI (oD xs m) ys (m:Int)/\∀ x,jI xs ys x->jI (oD xs m) ys x:=by
 have hl:=hx.length
 have m0:m≠0:=fun z=>nm (by rw [z];exact .zero)
 obtain ⟨M,nb,bk⟩:=hx.uW (i:=(m:Int)) (by omega) (by omega)
 have RZ:∀ j,af.bA xs (m:Int) j≠0:=by
  intro j z
  have h':jI xs ys (af.bA xs (af.bA xs (m:Int) j) ((M + 1) * j)):=by rw [z];exact jI.zero.bA _
  rw [uj] at h'
  have e2:af.bA xs (m:Int) ((M + 1) * (j + 1))=(m:Int):=by
   have:=CD bk (j + 1) 0
   rw [Nat.zero_add] at this
   exact this
  have h3:=h'.bA ((M + 1) * (j + 1) - (j + (M + 1) * j))
  rw [uj] at h3
  have e3:j + (M + 1) * j + ((M + 1) * (j + 1) - (j + (M + 1) * j))=if j + (M + 1) * j<=(M + 1) * (j + 1) then (M + 1) * (j + 1) else j + (M + 1) * j:=by split <;> omega
  rw [e3] at h3
  by_cases hc:j + (M + 1) * j<=(M + 1) * (j + 1)
  ·rw [if_pos hc,e2] at h3
   exact nm h3
  ·-- round as often as needed
   have h4:=h'.bA ((M + 1) * (2 * j + 2) - (j + (M + 1) * j))
   rw [uj] at h4
   have hbig:j + (M + 1) * j<=(M + 1) * (2 * j + 2):=by
    have a1:(M + 1) * (2 * j + 2)=(M + 1) * j + ((M + 1) * j + (M + 1) * 2):=by rw [<- Nat.mul_add,<- Nat.mul_add];congr 1;omega
    have a2:j<=(M + 1) * j:=Nat.le_mul_of_pos_left j (by omega)
    omega
   have e5:j + (M + 1) * j + ((M + 1) * (2 * j + 2) - (j + (M + 1) * j))=(M + 1) * (2 * j + 2):=by omega
   rw [e5] at h4
   have:=CD bk (2 * j + 2) 0
   rw [Nat.zero_add] at this
   rw [this] at h4
   exact nm h4
 have ring:∀ j,j<=M->jI (oD xs m) ys (af.bA xs (m:Int) (j + 1)):=by
  intro j
  induction j with
  | zero =>
   intro _
   have h1:jI (oD xs m) ys (af.app (oD xs m) 0):=.r .zero
   rw [AJ (by omega) (by omega),if_neg (by omega),if_pos rfl] at h1
   exact h1
  | succ j ih =>
   intro hj
   have h1:=(ih (by omega)).r
   have b:=hx.bA (i:=(m:Int)) (by omega) (by omega) (j + 1)
   rw [AJ (by omega) b.1,if_neg (nb (j + 1) (by omega) (by omega)),if_neg (RZ (j + 1))] at h1
   exact h1
 have Nn:jI (oD xs m) ys (m:Int):=by have:=ring M (Yd _);rwa [bk] at this
 refine ⟨Nn,fun x h=>?_⟩
 have hpos:0 < n:=by omega
 induction h with
 | zero=>exact .zero
 | r hx' ih =>
  rename_i x
  have b:=hx'.bound hx hy hpos
  by_cases h0:x=0
  ·have h1:=Nn.r
   rw [AJ (by omega) (by omega),if_pos rfl] at h1
   rw [h0];exact h1
  ·have R0:x≠(m:Int):=fun z=>nm (by rw [<- z];exact hx')
   have h1:=ih.r
   rw [AJ (by omega) b.1,if_neg R0,if_neg h0] at h1
   exact h1
 | u _ ih=>exact ih.u
def Cl (xs ys F:List Int):Prop:=∀ x∈F,app xs x∈F/\app ys x∈F
theorem Cl.all {xs ys F:List Int} (h:Cl xs ys F) (h0:(0:Int)∈F) {x:Int} (r:jI xs ys x):x∈F:=by
 induction r with
 | zero=>exact h0
 | r _ ih=>exact (h _ ih).1
 | u _ ih=>exact (h _ ih).2
structure Fd (xs ys:List Int) (F:List Int):Prop where
 z:(0:Int)∈F
 nd:F.Nodup
 mt:∀ x∈F,jI xs ys x
theorem Fd.len {n:Nat} {xs ys F:List Int} (h:Fd xs ys F) (hx:Tn n xs) (hy:Tn n ys) (h0:0 < n):F.length<=n:=by
 have:=AI h.nd (ys:=upto n) fun x hx'=>nu.mpr ((h.mt x hx').bound hx hy h0)
 rw [pS] at this
 exact this
theorem Fd.one (xs ys:List Int):Fd xs ys [0]:=⟨by simp,by simp,fun x hx=>(show x=0 by simpa using hx) ▸ .zero⟩
theorem round {xs ys F F1 F2:List Int} (d:Fd xs ys F) (d2:Fd xs ys F2) (p1:F <+: F1) (p2:F1 <+: F2) (c1:∀ x∈F,app xs x∈F1) (c2:∀ x∈F1,app ys x∈F2) {t:Nat} (h:Cl xs ys F\/t + 1<=F.length):Cl xs ys F2\/t + 1 + 1<=F2.length:=by
 have p:=p1.trans p2
 by_cases hc:Cl xs ys F
 ·refine .inl fun x hx=>?_
  have hF:=hc.all d.z (d2.mt x hx)
  exact ⟨p.subset (hc x hF).1,p.subset (hc x hF).2⟩
 ·have hl:=h.resolve_left hc
  by_cases he:F2.length<=F.length
  ·refine absurd ?_ hc
   have e2:F2=F:=(p.eq_of_length (by have:=p.length_le;omega)).symm
   have e1:F1=F:=by
    have a:=p1.length_le
    have b:=p2.length_le
    exact (p1.eq_of_length (by omega)).symm
   intro x hx
   refine ⟨?_,?_⟩
   ·have:=c1 x hx;rwa [e1] at this
   ·have:=c2 x (by rw [e1];exact hx);rwa [e2] at this
  ·exact .inr (by omega)
def sU (w n:Nat):List Int:=((List.range (w - 1)).map fun (k:Nat)=>(1:Int) + k) ++ [0] ++ ((List.range (n - w)).map fun (k:Nat)=>(w:Int) + k)
def uX (w n:Nat):List Int:=[(w:Int)] ++ ((List.range (w - 1)).map fun (k:Nat)=>(1:Int) + k) ++ ((List.range (n - (w + 1))).map fun (k:Nat)=>((w:Int) + 1) + k) ++ [0]
theorem R1:∀ n,n < 21->∀ w,w < n + 1->0 < w->(sU w n).isPerm (upto n)=true:=by decide +kernel
theorem R3:∀ n,n < 21->∀ w,w < n->0 < w->(uX w n).isPerm (upto n)=true:=by decide +kernel
theorem R4 {w n:Nat} (h:n < 21) (h1:w<=n) (h0:0 < w):Tn n (sU w n):=List.isPerm_iff.mp (R1 n h w (by omega) h0)
theorem R5 {w n:Nat} (h:n < 21) (h1:w < n) (h0:0 < w):Tn n (uX w n):=List.isPerm_iff.mp (R3 n h w h1 h0)
theorem less {L L':List Int} {m:Int} (nd:L'.Nodup) (hs:∀ x∈L',x∈L) (hm:m∈L) (hm':m ∉ L'):L'.length < L.length:=by
 have hp:=List.perm_cons_erase hm
 have hlen:(L.erase m).length + 1=L.length:=by have:=hp.length_eq;simpa using this.symm
 have:=AI (ys:=L.erase m) nd fun x hx=>(List.mem_erase_of_ne (fun e=>hm' (by rw [<- e];exact hx))).mpr (hs x hx)
 omega
end af
namespace af
def aZ (xs ys:List Int):List Int:=xs.map (app ys)
theorem CF (xs ys:List Int):(aZ xs ys).length=xs.length:=by simp [aZ]
theorem qK {n:Nat} {xs ys:List Int} (hx:xs.length=n) (hy:ys.length=n) (h:∀ s:Int,0<=s->s < (n:Int)->app xs s=app ys s):xs=ys:=by
 rw [<- CA hx,<- CA hy]
 apply YU
 intro s hs
 obtain ⟨h0,h1⟩:=nu.mp hs
 exact h s h0 h1
theorem pJ {xs ys:List Int} {s:Int} (h0:0<=s) (h1:s < (xs.length:Int)):app (aZ xs ys) s=app ys (app xs s):=by
 have e:=pT (xs:=aZ xs ys) h0 (by rw [CF];exact h1)
 unfold aZ at e
 rw [Yi,pT h0 h1] at e
 exact (Ym e).symm
theorem Tn.sW {n:Nat} {xs:List Int} (hl:xs.length=n) (hb:∀ s:Int,0<=s->s < (n:Int)->0<=af.app xs s/\af.app xs s < (n:Int)) (hi:∀ s t:Int,0<=s->s < (n:Int)->0<=t->t < (n:Int)->af.app xs s=af.app xs t->s=t):Tn n xs:=by
 have el:∀ (i:Nat) (h:i < xs.length),xs[i]=af.app xs (i:Int):=fun i h=>by
  have a:=pT (xs:=xs) (i:=(i:Int)) (by omega) (by omega)
  rw [Yl,Yb h] at a
  exact Ym a
 have:=JO (xs:=xs) ?_ ?_
 ·unfold Tn;rw [hl] at this;exact this
 ·unfold List.Nodup
  rw [List.pairwise_iff_getElem]
  intro i j h1 h2 hij z
  rw [el i h1,el j h2] at z
  have:=hi i j (by omega) (by omega) (by omega) (by omega) z
  omega
 ·intro x hx
  obtain ⟨i,h,rfl⟩:=Y8 hx
  rw [el i h,hl]
  exact hb i (by omega) (by omega)
theorem Tn.aZ {n:Nat} {xs ys:List Int} (hx:Tn n xs) (hy:Tn n ys):Tn n (aZ xs ys):=by
 have hl:=hx.length
 refine Tn.sW (by rw [CF];exact hl) (fun s h0 h1=>?_) fun s t s0 s1 t0 t1 e=>?_
 ·rw [pJ h0 (by omega)]
  obtain ⟨a,b⟩:=hx.app h0 h1
  exact hy.app a b
 ·rw [pJ s0 (by omega),pJ t0 (by omega)] at e
  obtain ⟨a,b⟩:=hx.app s0 s1
  obtain ⟨c,d⟩:=hx.app t0 t1
  exact hx.inj s0 s1 t0 t1 (hy.inj a b c d e)
theorem Tn.uY {n:Nat} {xs ys:List Int} (hx:Tn n xs) (hy:Tn n ys) {s:Int} (h0:0<=s) (h1:s < (n:Int)):af.app (inv (af.aZ xs ys)) s=af.app (inv xs) (af.app (inv ys) s):=by
 have hf:=hx.aZ hy
 obtain ⟨a0,a1⟩:=hy.ny h0 h1
 obtain ⟨b0,b1⟩:=hx.ny a0 a1
 obtain ⟨c0,c1⟩:=hf.ny h0 h1
 refine hf.inj c0 c1 b0 b1 ?_
 rw [hf.cU h0 h1,pJ b0 (by rw [hx.length];exact b1),hx.cU a0 a1,hy.cU h0 h1]
def anew (xs p:List Int):List Int:=aZ (aZ (inv p) xs) p
theorem Tn.anew {n:Nat} {xs p:List Int} (hx:Tn n xs) (hp:Tn n p):Tn n (anew xs p):=(hp.aD.aZ hx).aZ hp
theorem Tn.ig {n:Nat} {xs p:List Int} (hx:Tn n xs) (hp:Tn n p) {s:Int} (h0:0<=s) (h1:s < (n:Int)):af.app (af.anew xs p) s=af.app p (af.app xs (af.app (inv p) s)):=by
 have hl:=hp.aD.length
 unfold af.anew
 rw [pJ h0 (by rw [CF,hl];exact h1),pJ h0 (by rw [hl];exact h1)]
theorem Tn.lX {n:Nat} {xs p:List Int} (hx:Tn n xs) (hp:Tn n p) {s:Int} (h0:0<=s) (h1:s < (n:Int)):af.app (af.anew xs p) (af.app p s)=af.app p (af.app xs s):=by
 obtain ⟨a,b⟩:=hp.app h0 h1
 rw [hx.ig hp a b,hp.fN h0 h1]
theorem Tn.mH {n:Nat} {xs p q:List Int} (hx:Tn n xs) (hp:Tn n p) (hq:Tn n q):af.anew (af.anew xs p) q=af.anew xs (af.aZ p q):=by
 have hf:=hp.aZ hq
 refine qK (n:=n) ((hx.anew hp).anew hq).length (hx.anew hf).length fun s h0 h1=>?_
 obtain ⟨a0,a1⟩:=hq.ny h0 h1
 obtain ⟨b0,b1⟩:=hp.ny a0 a1
 obtain ⟨c0,c1⟩:=hx.app b0 b1
 rw [(hx.anew hp).ig hq h0 h1,hx.ig hp a0 a1,hx.ig hf h0 h1,hp.uY hq h0 h1,pJ c0 (by rw [hp.length];exact c1)]
theorem Tn.mI {n:Nat} {xs p:List Int} (hx:Tn n xs) (hp:Tn n p):af.anew (af.anew xs p) (inv p)=xs:=by
 refine qK (n:=n) ((hx.anew hp).anew hp.aD).length hx.length fun s h0 h1=>?_
 obtain ⟨a0,a1⟩:=hp.aD.ny h0 h1
 have e:af.app (inv (inv p)) s=af.app p s:=by
  obtain ⟨b0,b1⟩:=hp.app h0 h1
  refine hp.aD.inj a0 a1 b0 b1 ?_
  rw [hp.aD.cU h0 h1,hp.fN h0 h1]
 obtain ⟨b0,b1⟩:=hp.app h0 h1
 obtain ⟨c0,c1⟩:=hx.app h0 h1
 rw [(hx.anew hp).ig hp.aD h0 h1,e,hx.lX hp h0 h1,hp.fN c0 c1]
end af
namespace af
def cK (F:List Int) (x:Int):List Int:=if x∈F then F else F ++ [x]
theorem wz (F:List Int) (x:Int):F <+: cK F x:=by
 unfold cK;split
 ·exact List.prefix_refl _
 ·exact List.prefix_append _ _
theorem qL {F:List Int} {x y:Int}:y∈cK F x↔y∈F\/y=x:=by
 unfold cK;split
 ·next h=>exact ⟨.inl,fun z=>z.elim id fun e=>e ▸ h⟩
 ·rw [Yz,Yr]
theorem Np {F:List Int} {x:Int} (h:F.Nodup):(cK F x).Nodup:=by
 unfold cK;split
 ·exact h
 ·next hx =>
  rw [List.nodup_append]
  exact ⟨h,by simp,fun a ha b hb e=>hx (by rw [Yr] at hb;rw [<- hb,<- e];exact ha)⟩
def visit (xs ys F:List Int) (x:Int):List Int:=cK (cK F (app xs x)) (app ys x)
def bf (xs ys:List Int) (s:Int):Nat->List Int
 | 0=>[s]
 | k + 1=>match (bf xs ys s k)[k]? with
  | some x=>visit xs ys (bf xs ys s k) x
  | none=>bf xs ys s k
theorem R6 (xs ys:List Int) (s:Int) (k:Nat):bf xs ys s k <+: bf xs ys s (k + 1):=by
 show _ <+: (match (bf xs ys s k)[k]? with | some x=>visit xs ys (bf xs ys s k) x | none=>bf xs ys s k)
 split
 ·exact (wz _ _).trans (wz _ _)
 ·exact List.prefix_refl _
theorem yj (xs ys:List Int) (s:Int) (k:Nat):∀ d,bf xs ys s k <+: bf xs ys s (k + d)
 | 0=>List.prefix_refl _
 | d + 1=>(yj xs ys s k d).trans (R6 xs ys s (k + d))
theorem yk (xs ys:List Int) (s:Int):∀ k,(bf xs ys s k).Nodup
 | 0=>by show [s].Nodup;simp
 | k + 1=>by
  show (match (bf xs ys s k)[k]? with | some x=>visit xs ys (bf xs ys s k) x | none=>bf xs ys s k).Nodup
  split
  ·exact Np (Np (yk xs ys s k))
  ·exact yk xs ys s k
theorem F7 {xs ys:List Int} {s:Int} {k:Nat} (h:(bf xs ys s k).length<=k):∀ d,bf xs ys s (k + d)=bf xs ys s k
 | 0=>rfl
 | d + 1=>by
  have e:=F7 h d
  show (match (bf xs ys s (k + d))[k + d]? with | some x=>visit xs ys (bf xs ys s (k + d)) x | none=>bf xs ys s (k + d))=_
  rw [e,List.getElem?_eq_none (by omega)]
section
variable {n:Nat} {xs ys:List Int} {s:Int}
theorem rE (hx:Tn n xs) (hy:Tn n ys) (s0:0<=s) (s1:s < (n:Int)):∀ k,∀ x∈bf xs ys s k,0<=x/\x < (n:Int)
 | 0,x,h=>by rw [Yr.mp (show x∈[s] from h)];exact ⟨s0,s1⟩
 | k + 1,x,h=>by
  have ih:=rE hx hy s0 s1 k
  have h':x∈(match (bf xs ys s k)[k]? with | some y=>visit xs ys (bf xs ys s k) y | none=>bf xs ys s k):=h
  split at h'
  ·next y hy' =>
   obtain ⟨y0,y1⟩:=ih y (Yf hy')
   rcases qL.mp h' with h' | rfl
   ·rcases qL.mp h' with h' | rfl
    ·exact ih x h'
    ·exact hx.app y0 y1
   ·exact hy.app y0 y1
  ·exact ih x h'
theorem CG (hx:Tn n xs) (hy:Tn n ys) (s0:0<=s) (s1:s < (n:Int)) (k:Nat):(bf xs ys s k).length<=n:=by
 have:=AI (yk xs ys s k) (ys:=upto n) fun x h=>nu.mpr (rE hx hy s0 s1 k x h)
 rw [pS] at this
 exact this
theorem CH {k i:Nat} (hik:i<=k) {x:Int} (h:(bf xs ys s k)[i]?=some x):(bf xs ys s i)[i]?=some x:=by
 obtain ⟨d,rfl⟩:∃ d,k=i + d:=⟨k - i,by omega⟩
 by_cases hl:(bf xs ys s i).length<=i
 ·rw [F7 hl d] at h
  exact h
 ·obtain ⟨t,e⟩:=yj xs ys s i d
  rw [<- e,Yk (by omega)] at h
  exact h
theorem JQ (hx:Tn n xs) (hy:Tn n ys) (s0:0<=s) (s1:s < (n:Int)):Cl xs ys (bf xs ys s n):=by
 intro x hm
 obtain ⟨i,hi,e⟩:=Y8 hm
 have hl:=CG hx hy s0 s1 n
 have hi':(bf xs ys s i)[i]?=some x:=CH (k:=n) (by omega) (by rw [Yb hi,e])
 have hs:visit xs ys (bf xs ys s i) x <+: bf xs ys s n:=by
  have:=yj xs ys s (i + 1) (n - (i + 1))
  rw [show i + 1 + (n - (i + 1))=n by omega] at this
  have e2:bf xs ys s (i + 1)=visit xs ys (bf xs ys s i) x:=by
   show (match (bf xs ys s i)[i]? with | some x=>visit xs ys (bf xs ys s i) x | none=>bf xs ys s i)=_
   rw [hi']
  rw [<- e2];exact this
 refine ⟨hs.subset ?_,hs.subset ?_⟩
 ·exact qL.mpr (.inl (qL.mpr (.inr rfl)))
 ·exact qL.mpr (.inr rfl)
theorem CI {zs F:List Int} (hz:Tn n zs) (nd:F.Nodup) (hb:∀ x∈F,0<=x/\x < (n:Int)) (hc:∀ x∈F,app zs x∈F) {y:Int} (y0:0<=y) (y1:y < (n:Int)) (h:app zs y∈F):y∈F:=by
 have R7:(F.map (app zs)).Nodup:=by
  unfold List.Nodup
  rw [List.pairwise_map]
  refine List.Pairwise.imp_of_mem (fun {a b} ha hb' hab e=>?_) nd
  obtain ⟨a0,a1⟩:=hb a ha
  obtain ⟨b0,b1⟩:=hb b hb'
  exact hab (hz.inj a0 a1 b0 b1 e)
 have pm:(F.map (app zs)).Perm F:=F4 R7 (fun x hx=>by obtain ⟨z,hz',rfl⟩:=Yt.mp hx;exact hc z hz') (by simp)
 obtain ⟨z,AK,e⟩:=Yt.mp (pm.symm.subset h)
 obtain ⟨z0,z1⟩:=hb z AK
 rw [<- hz.inj z0 z1 y0 y1 e];exact AK
theorem Nq (hx:Tn n xs) (hy:Tn n ys) (s0:0<=s) (s1:s < (n:Int)) (all:∀ x:Int,0<=x->x < (n:Int)->jI xs ys x) {x:Int} (x0:0<=x) (x1:x < (n:Int)):x∈bf xs ys s n:=by
 have cl:=JQ hx hy s0 s1
 have nd:=yk xs ys s n
 have bd:=rE hx hy s0 s1 n
 have hs:s∈bf xs ys s n:=by
  have:=yj xs ys s 0 n
  rw [Nat.zero_add] at this
  exact this.subset (show s∈[s] by simp)
 have hpos:0 < n:=by omega
 have zero:∀ y,jI xs ys y->y∈bf xs ys s n->(0:Int)∈bf xs ys s n:=by
  intro y hr
  induction hr with
  | zero=>exact id
  | r h ih =>
   intro hm
   obtain ⟨a,b⟩:=h.bound hx hy hpos
   exact ih (CI hx nd bd (fun x hx'=>(cl x hx').1) a b hm)
  | u h ih =>
   intro hm
   obtain ⟨a,b⟩:=h.bound hx hy hpos
   exact ih (CI hy nd bd (fun x hx'=>(cl x hx').2) a b hm)
 exact cl.all (zero s (all s s0 s1) hs) (all x x0 x1)
theorem F8 (hx:Tn n xs) (hy:Tn n ys) (s0:0<=s) (s1:s < (n:Int)) (all:∀ x:Int,0<=x->x < (n:Int)->jI xs ys x):Tn n (bf xs ys s n) :=
 F4 (yk xs ys s n) (fun x h=>nu.mpr (rE hx hy s0 s1 n x h)) (by
  have:=AI (Nh n) (ys:=bf xs ys s n) fun x h=>by obtain ⟨a,b⟩:=nu.mp h;exact Nq hx hy s0 s1 all a b
  exact this)
theorem Nr {p F:List Int} (hp:Tn n p) (hb:∀ x∈F,0<=x/\x < (n:Int)) {x:Int} (x0:0<=x) (x1:x < (n:Int)):cK (F.map (app p)) (app p x)=(cK F x).map (app p):=by
 unfold cK
 have e:app p x∈F.map (app p)↔x∈F:=⟨fun h=>by
  obtain ⟨y,hy,e⟩:=Yt.mp h
  obtain ⟨y0,y1⟩:=hb y hy
  rw [<- hp.inj y0 y1 x0 x1 e];exact hy,fun h=>Yt.mpr ⟨x,h,rfl⟩⟩
 by_cases h:x∈F
 ·rw [if_pos h,if_pos (e.mpr h)]
 ·rw [if_neg h,if_neg fun z=>h (e.mp z),Ys];rfl
theorem JR {p:List Int} (hx:Tn n xs) (hy:Tn n ys) (hp:Tn n p) (s0:0<=s) (s1:s < (n:Int)):∀ k,bf (anew xs p) (anew ys p) (app p s) k=(bf xs ys s k).map (app p)
 | 0=>rfl
 | k + 1=>by
  have ih:=JR hx hy hp s0 s1 k
  show (match (bf (anew xs p) (anew ys p) (app p s) k)[k]? with | some x=>visit (anew xs p) (anew ys p) (bf (anew xs p) (anew ys p) (app p s) k) x | none=>bf (anew xs p) (anew ys p) (app p s) k)=(match (bf xs ys s k)[k]? with | some x=>visit xs ys (bf xs ys s k) x | none=>bf xs ys s k).map (app p)
  rw [ih,Yi]
  cases h:(bf xs ys s k)[k]? with
  | none=>rfl
  | some x =>
   obtain ⟨x0,x1⟩:=rE hx hy s0 s1 k x (Yf h)
   obtain ⟨a0,a1⟩:=hx.app x0 x1
   obtain ⟨b0,b1⟩:=hy.app x0 x1
   show visit (anew xs p) (anew ys p) ((bf xs ys s k).map (app p)) (app p x)=(visit xs ys (bf xs ys s k) x).map (app p)
   unfold visit
   rw [hx.lX hp x0 x1,hy.lX hp x0 x1,Nr hp (rE hx hy s0 s1 k) a0 a1,Nr hp (fun z hz=>?_) b0 b1]
   rcases qL.mp hz with hz | rfl
   ·exact rE hx hy s0 s1 k z hz
   ·exact ⟨a0,a1⟩
end
def num (zs sq:List Int):List Int:=sq.map fun o=>(sq.idxOf (app zs o):Int)
theorem Tn.inv_inv {n:Nat} {p:List Int} (hp:Tn n p):inv (inv p)=p:=by
 refine qK (n:=n) hp.aD.aD.length hp.length fun s h0 h1=>?_
 obtain ⟨a0,a1⟩:=hp.aD.ny h0 h1
 obtain ⟨b0,b1⟩:=hp.app h0 h1
 refine hp.aD.inj a0 a1 b0 b1 ?_
 rw [hp.aD.cU h0 h1,hp.fN h0 h1]
theorem wA {n:Nat} {zs sq:List Int} (hz:Tn n zs) (hs:Tn n sq):anew zs (inv sq)=num zs sq:=by
 unfold anew num aZ
 rw [hs.inv_inv,YF]
 apply YU
 intro o ho
 obtain ⟨o0,o1⟩:=hs.bound ho
 obtain ⟨a0,a1⟩:=hz.app o0 o1
 exact F6 a0 (by rw [hs.length];exact a1)
theorem Nt {n:Nat} {p:List Int} (hp:Tn n p):∀ {sq:List Int},(∀ x∈sq,0<=x/\x < (n:Int))->∀ {y:Int},0<=y->y < (n:Int)->(sq.map (app p)).idxOf (app p y)=sq.idxOf y
 | [],_,_,_,_=>rfl
 | a :: r,hb,y,y0,y1=>by
  obtain ⟨a0,a1⟩:=hb a Ye
  rw [Yu,List.idxOf_cons,List.idxOf_cons,Nt hp (fun x hx=>hb x (Yg _ hx)) y0 y1]
  by_cases e:a=y
  ·rw [e];simp
  ·have e2:app p a≠app p y:=fun z=>e (hp.inj a0 a1 y0 y1 z)
   rw [show (a == y)=false by simpa using e,show (app p a == app p y)=false by simpa using e2]
theorem Nu {n:Nat} {zs sq p:List Int} (hz:Tn n zs) (hp:Tn n p) (hb:∀ x∈sq,0<=x/\x < (n:Int)):num (anew zs p) (sq.map (app p))=num zs sq:=by
 unfold num
 rw [YF]
 apply YU
 intro o ho
 obtain ⟨o0,o1⟩:=hb o ho
 obtain ⟨a0,a1⟩:=hz.app o0 o1
 show ((sq.map (app p)).idxOf (app (anew zs p) (app p o)):Int)=_
 rw [hz.lX hp o0 o1,Nt hp hb a0 a1]
end af
namespace af
def pw (xs:List Int) (k i:Int):Int:=if 0<=k then bA xs i k.toNat else bA (inv xs) i (-k).toNat
section
variable {n:Nat} {xs:List Int} {i:Int}
theorem Tn.o5 (h:Tn n xs) (i0:0<=i) (i1:i < (n:Int)):∀ (k m:Nat),af.bA (inv xs) (af.bA xs i m) k=if k<=m then af.bA xs i (m - k) else af.bA (inv xs) i (k - m)
 | 0,m=>by rw [if_pos (YN _),Nat.sub_zero];rfl
 | k + 1,m=>by
  show af.app (inv xs) (af.bA (inv xs) (af.bA xs i m) k)=_
  rw [h.o5 i0 i1 k m]
  by_cases hk:k<=m
  ·rw [if_pos hk]
   by_cases hk1:k + 1<=m
   ·rw [if_pos hk1]
    obtain ⟨d,hd⟩:∃ d,m - k=d + 1:=⟨m - k - 1,by omega⟩
    rw [hd,show m - (k + 1)=d by omega]
    obtain ⟨a,b⟩:=h.bA i0 i1 d
    exact h.fN a b
   ·rw [if_neg hk1,show m - k=0 by omega,show k + 1 - m=1 by omega]
    rfl
  ·rw [if_neg hk,if_neg (by omega),show k + 1 - m=(k - m) + 1 by omega]
   rfl
theorem Tn.sX (h:Tn n xs) (i0:0<=i) (i1:i < (n:Int)) (k m:Nat):af.bA xs (af.bA (inv xs) i m) k=if k<=m then af.bA (inv xs) i (m - k) else af.bA xs i (k - m):=by
 have:=h.aD.o5 i0 i1 k m
 rw [h.inv_inv] at this
 exact this
theorem Tn.pw (h:Tn n xs) (i0:0<=i) (i1:i < (n:Int)) (k:Int):0<=af.pw xs k i/\af.pw xs k i < (n:Int):=by
 unfold af.pw
 split
 ·exact h.bA i0 i1 _
 ·exact h.aD.bA i0 i1 _
theorem Tn.pw_add (h:Tn n xs) (i0:0<=i) (i1:i < (n:Int)) (a b:Int):af.pw xs a (af.pw xs b i)=af.pw xs (a + b) i:=by
 by_cases ha:0<=a <;> by_cases hb:0<=b
 ·unfold af.pw
  rw [if_pos ha,if_pos hb,if_pos (by omega),uj]
  congr 1
  omega
 ·have e1:af.pw xs b i=af.bA (inv xs) i (-b).toNat:=by unfold af.pw;rw [if_neg hb]
  have e2:∀ j,af.pw xs a j=af.bA xs j a.toNat:=fun j=>by unfold af.pw;rw [if_pos ha]
  rw [e1,e2,h.sX i0 i1]
  unfold af.pw
  split
  ·split
   ·rw [show (-b).toNat - a.toNat=0 by omega,show (a + b).toNat=0 by omega];rfl
   ·congr 1;omega
  ·rw [if_pos (by omega)];congr 1;omega
 ·have e1:af.pw xs b i=af.bA xs i b.toNat:=by unfold af.pw;rw [if_pos hb]
  have e2:∀ j,af.pw xs a j=af.bA (inv xs) j (-a).toNat:=fun j=>by unfold af.pw;rw [if_neg ha]
  rw [e1,e2,h.o5 i0 i1]
  unfold af.pw
  split
  ·rw [if_pos (by omega)];congr 1;omega
  ·rw [if_neg (by omega)];congr 1;omega
 ·unfold af.pw
  rw [if_neg ha,if_neg hb,if_neg (by omega),uj]
  congr 1
  omega
theorem Tn.pw_per (h:Tn n xs) (i0:0<=i) (i1:i < (n:Int)) {L:Nat} (hL:af.bA xs i L=i) (q:Int):af.pw xs ((L:Int) * q) i=i:=by
 have pos:∀ m:Nat,af.pw xs ((L:Int) * (m:Int)) i=i:=fun m=>by
  unfold af.pw
  rw [if_pos (Int.mul_nonneg (by omega) (by omega)),show ((L:Int) * (m:Int)).toNat=0 + L * m by rw [<- Int.natCast_mul,Yl];omega,CD hL]
  rfl
 by_cases hq:0<=q
 ·obtain ⟨m,rfl⟩:∃ m:Nat,q=(m:Int):=⟨q.toNat,by omega⟩
  exact pos m
 ·obtain ⟨m,rfl⟩:∃ m:Nat,q=-(m:Int):=⟨(-q).toNat,by omega⟩
  have:=h.pw_add i0 i1 ((L:Int) * -(m:Int)) ((L:Int) * (m:Int))
  rw [pos m] at this
  rw [this,Int.mul_neg,Int.add_left_neg]
  rfl
theorem Tn.yl (h:Tn n xs) (i0:0<=i) (i1:i < (n:Int)) {k v:Int} (o:Nm xs k i v):v=af.pw xs k i:=by
 obtain ⟨m,_,bk,rfl⟩:=o
 have m0:=Y3 k (show ((m + 1:Nat):Int)≠0 by omega)
 have e:af.bA xs i (k % ((m + 1:Nat):Int)).toNat=af.pw xs (k % ((m + 1:Nat):Int)) i:=by unfold af.pw;rw [if_pos m0]
 rw [e]
 have e2:=h.pw_add i0 i1 (k % ((m + 1:Nat):Int)) (((m + 1:Nat):Int) * (k / ((m + 1:Nat):Int)))
 rw [h.pw_per i0 i1 bk,Int.emod_add_mul_ediv] at e2
 exact e2
end
def cB (xs:List Int) (k:Int):List Int:=(upto xs.length).map (pw xs k)
theorem CJ (xs:List Int) (k:Int):(cB xs k).length=xs.length:=by simp [cB,pS]
theorem qh {xs:List Int} {k s:Int} (s0:0<=s) (s1:s < (xs.length:Int)):app (cB xs k) s=pw xs k s:=by
 have e:=pT (xs:=cB xs k) s0 (by rw [CJ];exact s1)
 unfold cB at e
 rw [Yi,CC (by omega)] at e
 have:=Ym e
 rw [YG s0] at this
 exact this.symm
theorem Tn.cB {n:Nat} {xs:List Int} (h:Tn n xs) (k:Int):Tn n (cB xs k):=by
 have hl:=h.length
 refine Tn.sW (by rw [CJ];exact hl) (fun s s0 s1=>by rw [qh s0 (by omega)];exact h.pw s0 s1 k) fun s t s0 s1 t0 t1 e=>?_
 rw [qh s0 (by omega),qh t0 (by omega)] at e
 have e2:=congrArg (af.pw xs (-k)) e
 rw [h.pw_add s0 s1,h.pw_add t0 t1,Int.add_left_neg] at e2
 exact e2
def shr (xs ys:List Int) (k:Int):List Int:=aZ (cB xs (-k)) ys
theorem Tn.shr {n:Nat} {xs ys:List Int} (hx:Tn n xs) (hy:Tn n ys) (k:Int):Tn n (shr xs ys k):=(hx.cB (-k)).aZ hy
theorem Tn.nE {n:Nat} {xs ys:List Int} (hx:Tn n xs) {k s:Int} (s0:0<=s) (s1:s < (n:Int)):af.app (af.shr xs ys k) s=af.app ys (af.pw xs (-k) s):=by
 have hl:=hx.length
 unfold af.shr
 rw [pJ s0 (by rw [CJ,hl];exact s1),qh s0 (by rw [hl];exact s1)]
theorem Tn.uZ {n:Nat} {xs ys:List Int} (hx:Tn n xs) (hy:Tn n ys) (a b:Int):af.shr xs (af.shr xs ys a) b=af.shr xs ys (a + b):=by
 refine qK (n:=n) (hx.shr (hx.shr hy a) b).length (hx.shr hy (a + b)).length fun s s0 s1=>?_
 obtain ⟨p0,p1⟩:=hx.pw s0 s1 (-b)
 rw [hx.nE s0 s1,hx.nE p0 p1,hx.nE s0 s1,hx.pw_add s0 s1,show -a + -b=-(a + b) by omega]
theorem Tn.sY {n:Nat} {xs ys:List Int} (hx:Tn n xs) (hy:Tn n ys):af.shr xs ys 0=ys:=by
 refine qK (n:=n) (hx.shr hy 0).length hy.length fun s s0 s1=>?_
 rw [hx.nE s0 s1]
 rfl
end af
namespace af
def tb (l:Int->Nat) (p:Int->Int) (a b:Int):Bool:=if l a=l b\/l (p a)=l (p b) then false else (decide (l a < l b)).xor (decide (l (p a) < l (p b)))
section
variable {n:Nat} {L:List Int} {l:Int->Nat}
end
end af
namespace af
end af
namespace af
abbrev Sp:=Bool×Int
def cH (s:Sp):Prop:=(s.1=false->1<=s.2/\s.2<=3)/\s.2≠0
def ik (a b:Sp):Int:=if a.1 then a.2 + b.2 else (a.2 + b.2) % 4
def cy (a b:Sp):List Sp:=if ik a b=0 then [] else [(a.1,ik a b)]
def bP:List Sp->Sp->List Sp
 | [],s=>[s]
 | t :: r,s=>if t.1=s.1 then cy t s ++ r else s :: t :: r
theorem uk (t:Sp) (r:List Sp) (s:Sp):bP (t :: r) s=if t.1=s.1 then cy t s ++ r else s :: t :: r:=rfl
def jB (w:List Sp):List Sp:=w.foldl bP []
def jC (s:Sp):Sp:=(s.1,if s.1 then -s.2 else 4 - s.2)
def gf (w:List Sp):List Sp:=(w.map jC).reverse
def Pl:List Sp->Prop
 | []=>True
 | a :: r=>cH a/\(∀ b,r.head?=some b->a.1≠b.1)/\Pl r
theorem Pl.pr:∀ {l:List Sp},Pl l->∀ s∈l,cH s
 | a :: r,h,s,hs=>by
  rcases YC.mp hs with rfl | hs
  ·exact h.1
  ·exact Pl.pr h.2.2 s hs
theorem Nv {a b:Sp} (ha:cH a) (e:a.1=b.1):(ik a b=0/\cy a b=[])\/(cH (a.1,ik a b)/\cy a b=[(a.1,ik a b)]):=by
 unfold cy
 by_cases h:ik a b=0
 ·exact .inl ⟨h,by rw [if_pos h]⟩
 ·refine .inr ⟨⟨fun hf=>?_,h⟩,by rw [if_neg h]⟩
  simp only at hf
  unfold ik at h ⊢
  simp only [hf,Zd,if_false] at h ⊢
  omega
theorem Pl.push {l:List Sp} {s:Sp} (h:Pl l) (hs:cH s):Pl (bP l s):=by
 cases l with
 | nil=>exact ⟨hs,fun b h=>(nomatch h),trivial⟩
 | cons t r =>
  rw [uk]
  split
  ·next e =>
   rcases Nv h.1 e with ⟨_,ej⟩ | ⟨hp,ej⟩
   ·rw [ej];exact h.2.2
   ·rw [ej];exact ⟨hp,h.2.1,h.2.2⟩
  ·next e =>
   refine ⟨hs,fun b hb=>?_,h⟩
   cases hb
   exact fun e'=>e e'.symm
theorem Pl.fold {w:List Sp}:∀ {l:List Sp},Pl l->(∀ s∈w,cH s)->Pl (w.foldl bP l):=by
 induction w with
 | nil=>exact fun h _=>h
 | cons s w ih=>exact fun h hw=>ih (h.push (hw s (Ye))) fun s' h'=>hw s' (Yg _ h')
theorem Nw {w:List Sp} (hw:∀ s∈w,cH s):Pl (jB w):=Pl.fold (l:=[]) trivial hw
theorem JS {l:List Sp} {s:Sp} (h:∀ b,l.head?=some b->s.1≠b.1):bP l s=s :: l:=by
 cases l with
 | nil=>rfl
 | cons t r=>rw [uk,if_neg fun e=>h t rfl e.symm]
theorem Pl.oK:∀ {l:List Sp},Pl l->jB l.reverse=l
 | [],_=>rfl
 | a :: r,h=>by
  unfold jB
  rw [List.reverse_cons,Y6]
  show bP (jB r.reverse) a=_
  rw [Pl.oK h.2.2,JS h.2.1]
theorem JT (u v:List Sp):jB (u ++ v)=v.foldl bP (jB u):=by unfold jB;rw [Y6]
theorem CK {s:Sp} (h:cH s):cH (jC s):=by
 obtain ⟨b,k⟩:=s
 cases b with
 | true=>exact ⟨nofun,fun e=>h.2 (by have:-k=0:=e;show k=0;omega)⟩
 | false =>
  obtain ⟨h1,h2⟩:=h.1 rfl
  simp only at h1 h2
  exact ⟨fun _=>by show 1<=4 - k/\4 - k<=3;omega,by show 4 - k≠0;omega⟩
theorem R8 {p:List Sp} {s:Sp} (hp:Pl p) (hs:cH s):bP (bP p s) (jC s)=p:=by
 have e0:cy s (jC s)=[]:=by
  unfold cy ik jC
  cases hb:s.1 <;> simp <;> omega
 cases p with
 | nil =>
  show (if s.1=(jC s).1 then cy s (jC s) ++ [] else _)=_
  rw [if_pos (show s.1=(jC s).1 from rfl),e0];rfl
 | cons t r =>
  by_cases e:t.1=s.1
  ·have e1:bP (t :: r) s=cy t s ++ r:=by rw [uk,if_pos e]
   rw [e1]
   obtain ⟨tb,tk⟩:=t
   obtain ⟨sb,sk⟩:=s
   simp only at e
   subst e
   have ht:=hp.1
   rcases Nv (b:=(tb,sk)) hp.1 rfl with ⟨h0,ej⟩ | ⟨JU,ej⟩
   ·rw [ej,List.nil_append]
    have eb:jC (tb,sk)=(tb,tk):=by
     unfold jC
     unfold ik at h0
     cases tb with
     | true=>simp only [if_true] at h0 ⊢;congr 1;omega
     | false =>
      have h1:=ht.1 rfl
      have h2:=hs.1 rfl
      simp only [Zd,if_false] at h0 h1 h2 ⊢
      congr 1;omega
    rw [eb]
    exact JS hp.2.1
   ·rw [ej]
    show (if tb=(jC (tb,sk)).1 then cy (tb,ik (tb,tk) (tb,sk)) (jC (tb,sk)) ++ r else _)=_
    rw [if_pos (show tb=(jC (tb,sk)).1 from rfl)]
    have eb:ik (tb,ik (tb,tk) (tb,sk)) (jC (tb,sk))=tk:=by
     unfold ik jC
     cases tb with
     | true=>simp only [if_true];omega
     | false =>
      have h1:=ht.1 rfl
      have h2:=hs.1 rfl
      simp only [Zd,if_false] at h1 h2 ⊢
      omega
    unfold cy
    rw [eb,if_neg ht.2]
    rfl
  ·have e1:bP (t :: r) s=s :: t :: r:=by rw [uk,if_neg e]
   rw [e1]
   show (if s.1=(jC s).1 then cy s (jC s) ++ (t :: r) else _)=_
   rw [if_pos (show s.1=(jC s).1 from rfl),e0];rfl
theorem R9 {w:List Sp}:∀ {p:List Sp},Pl p->(∀ s∈w,cH s)->(w ++ gf w).foldl bP p=p:=by
 induction w with
 | nil=>exact fun _ _=>rfl
 | cons s w ih =>
  intro p hp hw
  have e:(s :: w) ++ gf (s :: w)=s :: ((w ++ gf w) ++ [jC s]):=by unfold gf;simp
  rw [e]
  show ((w ++ gf w) ++ [jC s]).foldl bP (bP p s)=p
  have hs:=hw s (Ye)
  rw [Y6,ih (hp.push hs) fun s' h'=>hw s' (Yg _ h')]
  exact R8 hp hs
theorem Sb {w:List Sp} (hw:∀ s∈w,cH s):jB (w ++ gf w)=[]:=R9 (p:=[]) trivial hw
theorem Nx {l:List Sp} {s:Sp} {M B:Nat} (h:∀ x∈l,x.2.natAbs<=M) (hs:s.2.natAbs<=B) (hp:cH s) (hl:Pl l):∀ x∈bP l s,x.2.natAbs<=M + B:=by
 intro x hx
 cases l with
 | nil=>rcases Yr.mp hx with rfl;omega
 | cons t r =>
  rw [uk] at hx
  have ht:=h t (Ye)
  split at hx
  ·next e0 =>
   rcases Yz.mp hx with hx | hx
   ·unfold cy at hx
    split at hx
    ·exact (nomatch hx)
    ·rcases Yr.mp hx with rfl
     show (ik t s).natAbs<=_
     unfold ik
     split
     ·omega
     ·next hb =>
      have:=hl.1.1 (by simpa using hb)
      have h2:=hp.1 (by rw [<- e0];simpa using hb)
      omega
   ·have:=h x (Yg _ hx);omega
  ·rcases YC.mp hx with rfl | hx
   ·omega
   ·have:=h x hx;omega
theorem Sd {B:Nat} {w:List Sp}:∀ {l:List Sp} {M:Nat},(∀ x∈l,x.2.natAbs<=M)->Pl l->(∀ s∈w,cH s/\s.2.natAbs<=B)->∀ x∈w.foldl bP l,x.2.natAbs<=M + w.length * B:=by
 induction w with
 | nil=>intro l M h _ _ x hx;have:=h x hx;omega
 | cons s w ih =>
  intro l M h hl hw x hx
  have hs:=hw s (Ye)
  have:=ih (Nx h hs.2 hs.1 hl) (hl.push hs.1) (fun s' h'=>hw s' (Yg _ h')) x hx
  rw [YE,Nat.succ_mul]
  omega
theorem ym {B:Nat} {w:List Sp} (hw:∀ s∈w,cH s/\s.2.natAbs<=B):∀ x∈jB w,x.2.natAbs<=w.length * B:=fun x hx=>by
 have:=Sd (l:=[]) (M:=0) nofun trivial hw x hx
 omega
theorem Se (l:List Sp) (s:Sp):(bP l s).length<=l.length + 1:=by
 cases l with
 | nil=>exact Yd _
 | cons t r =>
  rw [uk]
  split
  ·unfold cy;split <;> simp <;> omega
  ·simp
theorem Sf {w:List Sp}:∀ {l:List Sp},(w.foldl bP l).length<=l.length + w.length:=by
 induction w with
 | nil=>exact Yd _
 | cons s w ih =>
  intro l
  have:=ih (l:=bP l s)
  have h2:=Se l s
  rw [YE]
  exact Yv this (by omega)
theorem F9 (w:List Sp):(jB w).length<=w.length:=by have:=Sf (w:=w) (l:=[]);simpa [jB] using this
structure T4 where (a b c d:Int)
def T4.one:T4:=⟨1,0,0,1⟩
def T4.qt:T4:=⟨0,-1,1,0⟩
def T4.mul (x y:T4):T4:=⟨x.a * y.a + x.b * y.c,x.a * y.b + x.b * y.d,x.c * y.a + x.d * y.c,x.c * y.b + x.d * y.d⟩
def T4.qM (x:T4):T4:=⟨x.d,-x.b,-x.c,x.a⟩
theorem T4.ext' {x y:T4} (h1:x.a=y.a) (h2:x.b=y.b) (h3:x.c=y.c) (h4:x.d=y.d):x=y:=by cases x;cases y;simp only at h1 h2 h3 h4;subst h1 h2 h3 h4;rfl
theorem T4.assoc (x y z:T4):(x.mul y).mul z=x.mul (y.mul z):=by
 apply T4.ext' <;> simp only [T4.mul,Int.add_mul,Int.mul_add,Int.mul_assoc] <;> omega
theorem T4.one_mul (x:T4):T4.one.mul x=x:=by apply T4.ext' <;> simp [T4.mul,T4.one]
theorem T4.mul_one (x:T4):x.mul T4.one=x:=by apply T4.ext' <;> simp [T4.mul,T4.one]
theorem T4.u3 (x y:T4):(x.mul y).qM=y.qM.mul x.qM:=by
 apply T4.ext' <;> simp only [T4.mul,T4.qM,Int.neg_mul,Int.mul_neg,Int.neg_neg,Int.mul_comm] <;> omega
def qp:Nat->T4
 | 0=>T4.one
 | n + 1=>T4.qt.mul (qp n)
def jM (s:Sp):T4:=if s.1 then ⟨1,s.2,0,1⟩ else qp s.2.toNat
def nz (T:T4) (w:List Sp):T4:=w.foldl (fun T s=>(jM s).mul T) T
def az (w:List Sp):T4:=nz T4.one w
theorem Sg (w:List Sp):∀ T:T4,nz T w=(az w).mul T:=by
 induction w with
 | nil=>exact fun T=>(T4.one_mul T).symm
 | cons s w ih =>
  intro T
  show nz ((jM s).mul T) w=(nz ((jM s).mul T4.one) w).mul T
  rw [ih,ih,T4.mul_one,T4.assoc]
theorem um (u v:List Sp):az (u ++ v)=(az v).mul (az u):=by
 show nz T4.one (u ++ v)=_
 unfold nz
 rw [Y6]
 exact Sg v _
theorem wB (u:List Sp) (s:Sp):az (u ++ [s])=(jM s).mul (az u):=by
 show nz T4.one (u ++ [s])=_
 unfold nz
 rw [Y6];rfl
theorem t3 {k:Int} (h:1<=k/\k<=3):k=1\/k=2\/k=3:=by omega
theorem Si {t s:Sp} (ht:cH t) (hs:cH s) (e:t.1=s.1):az (cy t s)=(jM s).mul (jM t):=by
 obtain ⟨tb,tk⟩:=t
 obtain ⟨sb,sk⟩:=s
 simp only at e
 subst e
 cases tb with
 | true =>
  have e2:(jM (true,sk)).mul (jM (true,tk))=⟨1,tk + sk,0,1⟩:=by apply T4.ext' <;> simp [T4.mul,jM] <;> omega
  rw [e2]
  unfold cy ik
  simp only [if_true]
  split
  ·next h=>rw [h];rfl
  ·rw [show az [(true,tk + sk)]=(jM (true,tk + sk)).mul T4.one from rfl,T4.mul_one];rfl
 | false =>
  have h1:=ht.1 rfl
  have h2:=hs.1 rfl
  simp only at h1 h2
  rcases t3 h1 with rfl | rfl | rfl <;> rcases t3 h2 with rfl | rfl | rfl <;> rfl
theorem Sj {l:List Sp} {s:Sp} (hl:Pl l) (hs:cH s):az (bP l s).reverse=(jM s).mul (az l.reverse):=by
 cases l with
 | nil=>exact wB [] s
 | cons t r =>
  rw [uk]
  split
  ·next e =>
   rw [List.reverse_append,um,List.reverse_cons,wB,<- T4.assoc]
   congr 1
   rw [<- Si hl.1 hs e]
   unfold cy
   split <;> rfl
  ·rw [List.reverse_cons,wB]
theorem Sk {w:List Sp}:∀ {l:List Sp},Pl l->(∀ s∈w,cH s)->az (w.foldl bP l).reverse=nz (az l.reverse) w:=by
 induction w with
 | nil=>exact fun _ _=>rfl
 | cons s w ih =>
  intro l hl hw
  have hs:=hw s (Ye)
  show az (w.foldl bP (bP l s)).reverse=nz ((jM s).mul (az l.reverse)) w
  rw [ih (hl.push hs) fun s' h'=>hw s' (Yg _ h'),Sj hl hs]
theorem JV {w:List Sp} (hw:∀ s∈w,cH s):az (jB w).reverse=az w:=Sk (l:=[]) trivial hw
theorem yn {s:Sp} (h:cH s):jM (jC s)=(jM s).qM:=by
 obtain ⟨b,k⟩:=s
 cases b with
 | true=>apply T4.ext' <;> simp [T4.qM,jM,jC]
 | false =>
  have h1:=h.1 rfl
  simp only at h1
  rcases t3 h1 with rfl | rfl | rfl <;> rfl
theorem wC {w:List Sp} (hw:∀ s∈w,cH s):az (gf w)=(az w).qM:=by
 induction w with
 | nil=>rfl
 | cons s w ih =>
  have e:gf (s :: w)=gf w ++ [jC s]:=by unfold gf;simp
  have e2:az (s :: w)=(az w).mul (jM s):=by
   rw [show s :: w=[s] ++ w from rfl,um]
   congr 1
   exact (wB [] s).trans (T4.mul_one _)
  rw [e,wB,ih fun s' h'=>hw s' (Yg _ h'),yn (hw s (Ye)),e2,T4.u3]
def T4.le (x:T4) (M:Nat):Prop:=x.a.natAbs<=M/\x.b.natAbs<=M/\x.c.natAbs<=M/\x.d.natAbs<=M
theorem Ny {a c k:Int} {M B:Nat} (ha:a.natAbs<=M) (hc:c.natAbs<=M) (hk:k.natAbs<=B):(a + k * c).natAbs<=(B + 1) * M:=by
 have h1:(k * c).natAbs<=B * M:=by rw [Int.natAbs_mul];exact Nat.mul_le_mul hk hc
 rw [Nat.succ_mul]
 omega
theorem wG {T:T4} {s:Sp} {M B:Nat} (h:T.le M) (hp:cH s) (hs:s.2.natAbs<=B):((jM s).mul T).le ((B + 1) * M):=by
 obtain ⟨b,k⟩:=s
 obtain ⟨ha,hb,hc,hd⟩:=h
 have hM:M<=(B + 1) * M:=by rw [Nat.succ_mul];omega
 cases b with
 | true =>
  refine ⟨?_,?_,?_,?_⟩ <;> simp only [T4.mul,jM,if_true,Int.one_mul,Int.zero_mul,Int.zero_add]
  ·exact Ny ha hc hs
  ·exact Ny hb hd hs
  ·omega
  ·omega
 | false =>
  have h1:=hp.1 rfl
  simp only at h1
  rcases t3 h1 with rfl | rfl | rfl <;> refine ⟨?_,?_,?_,?_⟩ <;> simp [T4.mul,jM,qp,T4.qt,T4.one] <;> omega
theorem yo {B:Nat} {w:List Sp}:∀ {T:T4} {M:Nat},T.le M->(∀ s∈w,cH s/\s.2.natAbs<=B)->(nz T w).le ((B + 1) ^ w.length * M):=by
 induction w with
 | nil=>intro T M h _;simpa [nz] using h
 | cons s w ih =>
  intro T M h hw
  have hs:=hw s (Ye)
  have:=ih (wG h hs.1 hs.2) fun s' h'=>hw s' (Yg _ h')
  rw [YE,Nat.pow_succ,Nat.mul_assoc]
  exact this
theorem Sl {B n:Nat} {w:List Sp} (hw:∀ s∈w,cH s/\s.2.natAbs<=B) (hn:w.length<=n):(az w).le ((B + 1) ^ n):=by
 have h:=yo (T:=T4.one) (M:=1) ⟨by decide,by decide,by decide,by decide⟩ hw
 have h2:(B + 1) ^ w.length * 1<=(B + 1) ^ n:=by rw [Nat.mul_one];exact Nat.pow_le_pow_right (by omega) hn
 exact ⟨Yv h.1 h2,Yv h.2.1 h2,Yv h.2.2.1 h2,Yv h.2.2.2 h2⟩
end af
namespace af
def p6:List Int->List Int->Bool
 | [],[]=>false
 | [],_ :: _=>true
 | _ :: _,[]=>false
 | x :: xs,y :: ys=>if x=y then p6 xs ys else decide (x < y)
theorem Ga:∀ xs:List Int,p6 xs xs=false
 | []=>rfl
 | x :: xs=>by unfold p6;rw [if_pos rfl];exact Ga xs
theorem JW:∀ {xs ys zs:List Int},p6 xs ys=true->p6 ys zs=true->p6 xs zs=true
 | [],[],_,h,_=>by cases h
 | [],_ :: _,[],_,h=>by cases h
 | [],_ :: _,_ :: _,_,_=>rfl
 | _ :: _,[],_,h,_=>by cases h
 | _ :: _,_ :: _,[],_,h=>by cases h
 | x :: xs,y :: ys,z :: zs,h1,h2=>by
  unfold p6 at h1 h2 ⊢
  by_cases a:x=y
  ·rw [if_pos a] at h1
   by_cases b:y=z
   ·rw [if_pos b] at h2
    rw [if_pos (a.trans b)];exact JW h1 h2
   ·rw [if_neg b] at h2
    rw [if_neg (fun e=>b (a.symm.trans e))]
    rw [a];exact h2
  ·rw [if_neg a] at h1
   have h1:=of_decide_eq_true h1
   by_cases b:y=z
   ·rw [<- b,if_neg a];exact decide_eq_true h1
   ·rw [if_neg b] at h2
    have h2:=of_decide_eq_true h2
    rw [if_neg (by omega)];exact decide_eq_true (by omega)
theorem JX:∀ {xs ys:List Int},p6 xs ys=false->p6 ys xs=false->xs=ys
 | [],[],_,_=>rfl
 | [],_ :: _,h,_=>by cases h
 | _ :: _,[],_,h=>by cases h
 | x :: xs,y :: ys,h1,h2=>by
  unfold p6 at h1 h2
  by_cases a:x=y
  ·subst a
   rw [if_pos rfl] at h1 h2
   rw [JX h1 h2]
  ·rw [if_neg a] at h1
   rw [if_neg (Ne.symm a)] at h2
   have h1:=of_decide_eq_false h1
   have h2:=of_decide_eq_false h2
   omega
abbrev a6:=List Int×List Int
def nS (p q:a6):Bool:=if p.1=q.1 then p6 p.2 q.2 else p6 p.1 q.1
theorem Nz (p:a6):nS p p=false:=by unfold nS;rw [if_pos rfl];exact Ga _
theorem Sn {p q r:a6} (h1:nS p q=true) (h2:nS q r=true):nS p r=true:=by
 unfold nS at h1 h2 ⊢
 by_cases a:p.1=q.1
 ·rw [if_pos a] at h1
  by_cases b:q.1=r.1
  ·rw [if_pos b] at h2
   rw [if_pos (a.trans b)];exact JW h1 h2
  ·rw [if_neg b] at h2
   rw [if_neg (fun e=>b (a.symm.trans e)),a];exact h2
 ·rw [if_neg a] at h1
  by_cases b:q.1=r.1
  ·rw [<- b,if_neg a];exact h1
  ·rw [if_neg b] at h2
   have h:=JW h1 h2
   rw [if_neg (fun e=>by rw [e,Ga] at h;cases h)];exact h
theorem Sq {p q:a6} (h1:nS p q=false) (h2:nS q p=false):p=q:=by
 unfold nS at h1 h2
 by_cases a:p.1=q.1
 ·rw [if_pos a] at h1
  rw [if_pos a.symm] at h2
  exact Prod.ext a (JX h1 h2)
 ·rw [if_neg a] at h1
  rw [if_neg (Ne.symm a)] at h2
  exact absurd (JX h1 h2) a
def nT:List a6->a6
 | []=>([],[])
 | p :: l=>l.foldl (fun b q=>if nS q b then q else b) p
def Lst (l:List a6) (p:a6):Prop:=p∈l/\∀ q∈l,nS q p=false
theorem Lst.unique {l m:List a6} {p q:a6} (a:Lst l p) (b:Lst m q) (h:∀ x,x∈l↔x∈m):p=q:=Sq (b.2 p ((h p).mp a.1)) (a.2 q ((h q).mpr b.1))
theorem Lst.step {l:List a6} {b q:a6} (h:Lst l b):Lst (l ++ [q]) (if nS q b then q else b):=by
 split
 ·next hq =>
  refine ⟨YI _ (List.mem_singleton_self _),fun x hx=>?_⟩
  rcases Yz.mp hx with hx | hx
  ·cases Sr:nS x q with
   | false=>rfl
   | true=>have:=Sn Sr hq;rw [h.2 x hx] at this;cases this
  ·rw [Yr.mp hx];exact Nz q
 ·next hq =>
  refine ⟨List.mem_append_left _ h.1,fun x hx=>?_⟩
  rcases Yz.mp hx with hx | hx
  ·exact h.2 x hx
  ·rw [Yr.mp hx];simpa using hq
theorem Lst.fold:∀ (l pre:List a6) (b:a6),Lst pre b->Lst (pre ++ l) (l.foldl (fun b q=>if nS q b then q else b) b)
 | [],pre,b,h=>by rw [List.append_nil];exact h
 | q :: l,pre,b,h=>by
  have:=Lst.fold l (pre ++ [q]) _ (h.step (q:=q))
  rw [List.append_assoc] at this
  exact this
theorem JY {l:List a6} (h:l≠[]):Lst l (nT l):=by
 cases l with
 | nil=>exact absurd rfl h
 | cons p l=>exact Lst.fold l [p] p ⟨List.mem_singleton_self _,fun q hq=>by rw [Yr.mp hq];exact Nz p⟩
theorem Ss {l m:List a6} (h:∀ x,x∈l↔x∈m) (hl:l≠[]):nT l=nT m:=by
 have hm:m≠[]:=fun e=>by
  obtain ⟨x,hx⟩:=List.exists_mem_of_ne_nil l hl
  have:=(h x).mp hx
  rw [e] at this
  cases this
 exact (JY hl).unique (JY hm) h
end af
namespace af
theorem wH (n:Nat):Tn n (upto n):=List.Perm.refl _
theorem Gb {n:Nat} {s:Int} (s0:0<=s) (s1:s < (n:Int)):app (upto n) s=s:=by
 unfold app
 rw [Yn,CC (by omega),Option.getD_some];omega
section
variable {n:Nat} {a b c g x y:List Int}
theorem qN (ha:Tn n a) (hb:Tn n b) (hc:Tn n c):aZ (aZ a b) c=aZ a (aZ b c):=by
 refine qK (n:=n) ((ha.aZ hb).aZ hc).length (ha.aZ (hb.aZ hc)).length fun s s0 s1=>?_
 obtain ⟨p0,p1⟩:=ha.app s0 s1
 rw [pJ s0 (by rw [(ha.aZ hb).length];exact s1),pJ s0 (by rw [ha.length];exact s1),pJ s0 (by rw [ha.length];exact s1),pJ p0 (by rw [hb.length];exact p1)]
theorem CL (ha:Tn n a):aZ a (inv a)=upto n:=RV ha
theorem JZ (ha:Tn n a):aZ (inv a) a=upto n:=RW ha
theorem yp (ha:Tn n a):aZ a (upto n)=a:=by
 refine qK (n:=n) (ha.aZ (wH n)).length ha.length fun s s0 s1=>?_
 obtain ⟨p0,p1⟩:=ha.app s0 s1
 rw [pJ s0 (by rw [ha.length];exact s1),Gb p0 p1]
theorem Gd (ha:Tn n a):aZ (upto n) a=a:=by
 refine qK (n:=n) ((wH n).aZ ha).length ha.length fun s s0 s1=>?_
 rw [pJ s0 (by rw [(wH n).length];exact s1),Gb s0 s1]
theorem Ge (ha:Tn n a) (hb:Tn n b) (h:aZ a b=upto n):inv a=b:=by
 have e:aZ (inv a) (aZ a b)=b:=by rw [<- qN ha.aD ha hb,JZ ha,Gd hb]
 rw [h,yp ha.aD] at e
 exact e
theorem wI (ha:Tn n a) (hb:Tn n b):inv (aZ a b)=aZ (inv b) (inv a):=by
 refine Ge (ha.aZ hb) (hb.aD.aZ ha.aD) ?_
 rw [qN ha hb (hb.aD.aZ ha.aD),<- qN hb hb.aD ha.aD,CL hb,Gd ha.aD,CL ha]
theorem NA (ha:Tn n a) (hb:Tn n b):aZ (aZ a b) (inv b)=a:=by rw [qN ha hb hb.aD,CL hb,yp ha]
theorem J0 (ha:Tn n a) (hb:Tn n b):aZ (aZ a (inv b)) b=a:=by rw [qN ha hb.aD hb,JZ hb,yp ha]
theorem Sv (ha:Tn n a) (hb:Tn n b):aZ a (aZ (inv a) b)=b:=by rw [<- qN ha ha.aD hb,CL ha,Gd hb]
theorem CM (hx:Tn n x) (i j:Int):aZ (cB x i) (cB x j)=cB x (i + j):=by
 refine qK (n:=n) ((hx.cB i).aZ (hx.cB j)).length (hx.cB (i + j)).length fun s s0 s1=>?_
 obtain ⟨p0,p1⟩:=hx.pw s0 s1 i
 have hl:=hx.length
 rw [pJ s0 (by rw [CJ,hl];exact s1),qh s0 (by rw [hl];exact s1),qh p0 (by rw [hl];exact p1),qh s0 (by rw [hl];exact s1),hx.pw_add s0 s1,Int.add_comm j i]
theorem J1 (hx:Tn n x):cB x 0=upto n:=by
 refine qK (n:=n) (hx.cB 0).length (wH n).length fun s s0 s1=>?_
 rw [qh s0 (by rw [hx.length];exact s1),Gb s0 s1];rfl
theorem CN (hx:Tn n x):cB x 1=x:=by
 refine qK (n:=n) (hx.cB 1).length hx.length fun s s0 s1=>?_
 rw [qh s0 (by rw [hx.length];exact s1)];rfl
theorem J3 (hx:Tn n x) (k:Int):inv (cB x k)=cB x (-k):=Ge (hx.cB k) (hx.cB (-k)) (by rw [CM hx,Int.add_right_neg,J1 hx])
theorem J4 (hx:Tn n x):cB x (-1)=inv x:=by rw [<- J3 hx,CN hx]
theorem NC (hx:Tn n x) (k:Int):cB (inv x) k=cB x (-k):=by
 refine qK (n:=n) (hx.aD.cB k).length (hx.cB (-k)).length fun s s0 s1=>?_
 rw [qh s0 (by rw [hx.aD.length];exact s1),qh s0 (by rw [hx.length];exact s1)]
 unfold pw
 by_cases h:0<=k
 ·rw [if_pos h]
  by_cases h0:k=0
  ·subst h0;rfl
  ·rw [if_neg (by omega),show -(-k)=k by omega]
 ·rw [if_neg h,if_pos (by omega),hx.inv_inv]
theorem ND (ha:Tn n a) (hb:Tn n b) (hg:Tn n g):aZ (anew a g) (anew b g)=anew (aZ a b) g:=by
 unfold anew
 have hi:=hg.aD
 rw [qN (hi.aZ ha) hg ((hi.aZ hb).aZ hg),qN hi hb hg,Sv hg (hb.aZ hg),qN hi ha (hb.aZ hg),<- qN ha hb hg,<- qN hi (ha.aZ hb) hg]
theorem Sw (hg:Tn n g):anew (upto n) g=upto n:=by unfold anew;rw [yp hg.aD,JZ hg]
theorem NF (ha:Tn n a) (hg:Tn n g):inv (anew a g)=anew (inv a) g:=Ge (ha.anew hg) (ha.aD.anew hg) (by rw [ND ha ha.aD hg,CL ha,Sw hg])
theorem J5 (hx:Tn n x) (hg:Tn n g) {i:Int} (i0:0<=i) (i1:i < (n:Int)):∀ k,bA (anew x g) (app g i) k=app g (bA x i k)
 | 0=>rfl
 | k + 1=>by
  obtain ⟨p0,p1⟩:=hx.bA i0 i1 k
  show app (anew x g) (bA (anew x g) (app g i) k)=app g (app x (bA x i k))
  rw [J5 hx hg i0 i1 k,hx.lX hg p0 p1]
theorem Sx (hx:Tn n x) (hg:Tn n g) {i:Int} (i0:0<=i) (i1:i < (n:Int)) (k:Int):pw (anew x g) k (app g i)=app g (pw x k i):=by
 unfold pw
 split
 ·exact J5 hx hg i0 i1 _
 ·rw [NF hx hg];exact J5 hx.aD hg i0 i1 _
theorem Sy (hx:Tn n x) (hg:Tn n g) (k:Int):cB (anew x g) k=anew (cB x k) g:=by
 refine qK (n:=n) ((hx.anew hg).cB k).length ((hx.cB k).anew hg).length fun s s0 s1=>?_
 obtain ⟨p0,p1⟩:=hg.ny s0 s1
 rw [qh s0 (by rw [(hx.anew hg).length];exact s1),(hx.cB k).ig hg s0 s1,qh p0 (by rw [hx.length];exact p1),<- Sx hx hg p0 p1,hg.cU s0 s1]
end
def Vf (n:Nat) (p:a6):Prop:=Tn n p.1/\Tn n p.2
def bE (n:Nat) (p q:a6):Prop:=∃ g,Tn n g/\q=(anew p.1 g,anew p.2 g)
def Sh (k:Int) (p:a6):a6:=(p.1,shr p.1 p.2 k)
def Qt (p:a6):a6:=(inv p.2,p.1)
section
variable {n:Nat} {p q r:a6}
theorem Vf.sh (h:Vf n p) (k:Int):Vf n (Sh k p):=⟨h.1,h.1.shr h.2 k⟩
theorem Vf.qt (h:Vf n p):Vf n (Qt p):=⟨h.2.aD,h.1⟩
theorem bE.refl (h:Vf n p):bE n p p:=⟨upto n,wH n,by
 have e:∀ a:List Int,Tn n a->anew a (upto n)=a:=fun a ha=>by
  unfold anew
  rw [Ge (wH n) (wH n) (yp (wH n)),Gd ha,yp ha]
 rw [e _ h.1,e _ h.2]⟩
theorem bE.symm (h:Vf n p) (a:bE n p q):bE n q p:=by
 obtain ⟨g,hg,rfl⟩:=a
 exact ⟨inv g,hg.aD,by show p=(anew (anew p.1 g) (inv g),anew (anew p.2 g) (inv g));rw [h.1.mI hg,h.2.mI hg]⟩
theorem bE.trans (h:Vf n p) (a:bE n p q) (b:bE n q r):bE n p r:=by
 obtain ⟨g,hg,rfl⟩:=a
 obtain ⟨f,hf,rfl⟩:=b
 exact ⟨aZ g f,hg.aZ hf,by show (anew (anew p.1 g) f,anew (anew p.2 g) f)=_;rw [h.1.mH hg hf,h.2.mH hg hf]⟩
theorem bE.sh (h:Vf n p) (a:bE n p q) (k:Int):bE n (Sh k p) (Sh k q):=by
 obtain ⟨g,hg,rfl⟩:=a
 refine ⟨g,hg,?_⟩
 show (anew p.1 g,aZ (cB (anew p.1 g) (-k)) (anew p.2 g))=(anew p.1 g,anew (aZ (cB p.1 (-k)) p.2) g)
 rw [Sy h.1 hg,ND (h.1.cB _) h.2 hg]
theorem bE.qt (h:Vf n p) (a:bE n p q):bE n (Qt p) (Qt q):=by
 obtain ⟨g,hg,rfl⟩:=a
 refine ⟨g,hg,?_⟩
 show (inv (anew p.2 g),anew p.1 g)=(anew (inv p.2) g,anew p.1 g)
 rw [NF h.2 hg]
theorem uo (h:Vf n p) (j k:Int):Sh k (Sh j p)=Sh (j + k) p:=by
 show (p.1,shr p.1 (shr p.1 p.2 j) k)=(p.1,shr p.1 p.2 (j + k))
 rw [h.1.uZ h.2]
theorem o6 (h:Vf n p):Sh 0 p=p:=by
 show (p.1,shr p.1 p.2 0)=p
 rw [h.1.sY h.2]
def Q2 (p:a6):a6:=(inv p.1,inv p.2)
theorem CO (p:a6):Qt (Qt p)=Q2 p:=rfl
theorem CP (h:Vf n p):Q2 (Q2 p)=p:=by
 show (inv (inv p.1),inv (inv p.2))=p
 rw [h.1.inv_inv,h.2.inv_inv]
theorem Vf.q2 (h:Vf n p):Vf n (Q2 p):=⟨h.1.aD,h.2.aD⟩
theorem bE.q2 (h:Vf n p) (a:bE n p q):bE n (Q2 p) (Q2 q):=bE.qt h.qt (bE.qt h a)
theorem wJ (h:Vf n p) (k:Int):bE n (Q2 (Sh k p)) (Sh k (Q2 p)):=by
 have hx:=h.1
 have hy:=h.2
 refine ⟨cB p.1 (-k),hx.cB _,?_⟩
 show (inv p.1,aZ (cB (inv p.1) (-k)) (inv p.2))=(anew (inv p.1) (cB p.1 (-k)),anew (inv (aZ (cB p.1 (-k)) p.2)) (cB p.1 (-k)))
 have e1:anew (inv p.1) (cB p.1 (-k))=inv p.1:=by
  unfold anew
  rw [J3 hx,<- J4 hx,CM hx,CM hx]
  congr 1;omega
 have e2:anew (inv (aZ (cB p.1 (-k)) p.2)) (cB p.1 (-k))=aZ (cB (inv p.1) (-k)) (inv p.2):=by
  unfold anew
  rw [wI (hx.cB _) hy,NC hx,J3 hx,qN (hx.cB _) (hy.aD.aZ (hx.cB _)) (hx.cB _),qN hy.aD (hx.cB _) (hx.cB _),CM hx,show - -k + -k=0 by omega,J1 hx,yp hy.aD]
 rw [e1,e2]
theorem CQ (h:Vf n p):bE n (Qt (Sh 1 (Qt p))) (Sh (-1) (Qt (Sh (-1) p))):=by
 have hx:=h.1
 have hy:=h.2
 have l:Qt (Sh 1 (Qt p))=(aZ (inv p.1) (inv p.2),inv p.2):=by
  show (inv (aZ (cB (inv p.2) (-1)) p.1),inv p.2)=_
  rw [NC hy,show -(-1:Int)=1 by omega,CN hy,wI hy hx]
 have r:Sh (-1) (Qt (Sh (-1) p))=(aZ (inv p.2) (inv p.1),inv p.2):=by
  show (inv (aZ (cB p.1 (-(-1))) p.2),aZ (cB (inv (aZ (cB p.1 (-(-1))) p.2)) (-(-1))) p.1)=_
  have hf:=hx.aZ hy
  rw [show -(-1:Int)=1 by omega,CN hx,CN hf.aD,wI hx hy,J0 hy.aD hx]
 refine ⟨p.2,hy,?_⟩
 rw [l,r]
 show (aZ (inv p.2) (inv p.1),inv p.2)=(aZ (aZ (inv p.2) (aZ (inv p.1) (inv p.2))) p.2,aZ (aZ (inv p.2) (inv p.2)) p.2)
 rw [<- qN hy.aD hx.aD hy.aD,J0 (hy.aD.aZ hx.aD) hy,J0 hy.aD hy]
theorem yq (h:Vf n p):bE n (Qt (Sh (-1) (Qt p))) (Q2 (Sh 1 (Qt (Sh 1 p)))):=by
 have hx:=h.1
 have hy:=h.2
 have hu:=hx.aD.aZ hy
 have l:Qt (Sh (-1) (Qt p))=(aZ (inv p.1) p.2,inv p.2):=by
  show (inv (aZ (cB (inv p.2) (-(-1))) p.1),inv p.2)=_
  rw [show -(-1:Int)=1 by omega,CN hy.aD,wI hy.aD hx,hy.inv_inv]
 have r:Q2 (Sh 1 (Qt (Sh 1 p)))=(aZ (inv p.1) p.2,aZ (inv p.1) (aZ (inv p.2) p.1)):=by
  show (inv (inv (aZ (cB p.1 (-1)) p.2)),inv (aZ (cB (inv (aZ (cB p.1 (-1)) p.2)) (-1)) p.1))=_
  rw [J4 hx,J4 hu.aD,hu.inv_inv,wI hu hx,wI hx.aD hy,hx.inv_inv]
 refine ⟨aZ (inv p.2) p.1,hy.aD.aZ hx,?_⟩
 rw [l,r]
 show (aZ (inv p.1) p.2,aZ (inv p.1) (aZ (inv p.2) p.1))=(aZ (aZ (inv (aZ (inv p.2) p.1)) (aZ (inv p.1) p.2)) (aZ (inv p.2) p.1),aZ (aZ (inv (aZ (inv p.2) p.1)) (inv p.2)) (aZ (inv p.2) p.1))
 have eg:inv (aZ (inv p.2) p.1)=aZ (inv p.1) p.2:=by rw [wI hy.aD hx,hy.inv_inv]
 have Sz:aZ (inv p.2) p.1=inv (aZ (inv p.1) p.2):=by rw [wI hx.aD hy,hx.inv_inv]
 rw [eg]
 have e1:aZ (aZ (aZ (inv p.1) p.2) (aZ (inv p.1) p.2)) (aZ (inv p.2) p.1)=aZ (inv p.1) p.2:=by rw [Sz,NA hu hu]
 have e2:aZ (aZ (aZ (inv p.1) p.2) (inv p.2)) (aZ (inv p.2) p.1)=aZ (inv p.1) (aZ (inv p.2) p.1):=by rw [NA hx.aD hy]
 rw [e1,e2]
end
def act:Int->List Int->a6->a6
 | k,[],p=>Sh k p
 | k,j :: ks,p=>act j ks (Qt (Sh k p))
def tS (k:Int):T4:=⟨1,k,0,1⟩
def iw (k:Int):T4:=⟨0,-1,1,k⟩
def il:Int->List Int->T4
 | k,[]=>tS k
 | k,j :: ks=>(il j ks).mul (iw k)
def kI (e:Bool) (M:T4):T4:=if e then ⟨-M.a,-M.b,-M.c,-M.d⟩ else M
def pK (e:Bool) (p:a6):a6:=if e then Q2 p else p
theorem CT (e f:Bool) (M:T4):kI e (kI f M)=kI (e.xor f) M:=by
 cases e <;> cases f <;> simp [kI]
theorem CU (e:Bool) (M N:T4):(kI e M).mul N=kI e (M.mul N):=by
 cases e
 ·rfl
 ·unfold kI T4.mul;simp only [if_true];congr 1 <;> grind
section
variable {n:Nat} {p q r:a6}
theorem Vf.act:∀ {ks:List Int} {k:Int} {p:a6},Vf n p->Vf n (af.act k ks p)
 | [],k,p,h=>h.sh k
 | j :: ks,k,p,h=>Vf.act (ks:=ks) (h.sh k).qt
theorem bE.act:∀ {ks:List Int} {k:Int} {p q:a6},Vf n p->bE n p q->bE n (af.act k ks p) (af.act k ks q)
 | [],k,p,q,h,a=>bE.sh h a k
 | j :: ks,k,p,q,h,a=>bE.act (ks:=ks) (h.sh k).qt (bE.qt (h.sh k) (bE.sh h a k))
theorem bE.pK (h:Vf n p) (a:bE n p q) (e:Bool):bE n (af.pK e p) (af.pK e q):=by cases e;exact a;exact bE.q2 h a
theorem Gf (h:Vf n p) (e f:Bool):pK e (pK f p)=pK (e.xor f) p:=by
 cases e <;> cases f
 ·rfl
 ·rfl
 ·rfl
 ·exact CP h
theorem CV:∀ {ks:List Int} {k:Int} {p:a6},Vf n p->bE n (act k ks (Q2 p)) (Q2 (act k ks p))
 | [],k,p,h=>bE.symm (h.sh k).q2 (wJ h k)
 | j :: ks,k,p,h=>by
  have h1:bE n (Qt (Sh k (Q2 p))) (Qt (Q2 (Sh k p))):=bE.qt (h.q2.sh k) (bE.symm (h.sh k).q2 (wJ h k))
  have h2:=bE.act (ks:=ks) (k:=j) ((h.q2.sh k).qt) h1
  have h3:=CV (ks:=ks) (k:=j) (h.sh k).qt
  exact bE.trans (Vf.act (ks:=j :: ks) (k:=k) h.q2) h2 h3
theorem Gg {ks:List Int} {j k:Int} (h:Vf n p):act k ks (Sh j p)=act (j + k) ks p:=by
 cases ks with
 | nil=>exact uo h j k
 | cons i ks=>show act i ks (Qt (Sh k (Sh j p)))=act i ks (Qt (Sh (j + k) p));rw [uo h]
theorem NG {ks:List Int} {k:Int} (h:Vf n p):act k ks (Qt p)=act 0 (k :: ks) p:=by show _=act k ks (Qt (Sh 0 p));rw [o6 h]
theorem SA {a b:Int} {ks:List Int} {j:Int} (hj:j=0\/j=1\/j=-1):∃ (k':Int) (ks':List Int) (f:Bool),ks'.length < ks.length + 2/\il a (j :: b :: ks)=kI f (il k' ks')/\∀ {n:Nat} {p:a6},Vf n p->bE n (act a (j :: b :: ks) p) (pK f (act k' ks' p)):=by
 rcases hj with rfl | rfl | rfl
 ·refine ⟨a + b,ks,true,by omega,?_,fun {n p} h=>?_⟩
  ·cases ks with
   | nil=>simp [il,kI,T4.mul,tS,iw];omega
   | cons i ks =>
    show (((il i ks).mul (iw b)).mul (iw 0)).mul (iw a)=kI true ((il i ks).mul (iw (a + b)))
    rw [T4.assoc,T4.assoc]
    have:(iw b).mul ((iw 0).mul (iw a))=kI true (iw (a + b)):=by simp [kI,T4.mul,iw];omega
    rw [this]
    unfold kI T4.mul;simp only [if_true];congr 1 <;> grind
  ·show bE n (act b ks (Qt (Sh 0 (Qt (Sh a p))))) (Q2 (act (a + b) ks p))
   rw [o6 (h.sh a).qt,CO,<- Gg h]
   exact CV (h.sh a)
 ·refine ⟨a - 1,(b - 1) :: ks,false,by simp,?_,fun {n p} h=>?_⟩
  ·cases ks with
   | nil=>simp [il,kI,T4.mul,tS,iw];refine ⟨?_,?_⟩ <;> grind
   | cons i ks =>
    show (((il i ks).mul (iw b)).mul (iw 1)).mul (iw a)=((il i ks).mul (iw (b - 1))).mul (iw (a - 1))
    rw [T4.assoc,T4.assoc,T4.assoc]
    have:(iw b).mul ((iw 1).mul (iw a))=(iw (b - 1)).mul (iw (a - 1)):=by simp [T4.mul,iw];refine ⟨?_,?_,?_⟩ <;> grind
    rw [this]
  ·show bE n (act b ks (Qt (Sh 1 (Qt (Sh a p))))) (act (b - 1) ks (Qt (Sh (a - 1) p)))
   have h1:=bE.act (ks:=ks) (k:=b) ((h.sh a).qt.sh 1).qt (CQ (h.sh a))
   rw [Gg ((h.sh a).sh (-1)).qt,uo h,show -1 + b=b - 1 by omega,show a + -1=a - 1 by omega] at h1
   exact h1
 ·refine ⟨a + 1,(b + 1) :: ks,true,by simp,?_,fun {n p} h=>?_⟩
  ·cases ks with
   | nil=>simp [il,kI,T4.mul,tS,iw];refine ⟨?_,?_⟩ <;> grind
   | cons i ks =>
    show (((il i ks).mul (iw b)).mul (iw (-1))).mul (iw a)=kI true (((il i ks).mul (iw (b + 1))).mul (iw (a + 1)))
    rw [T4.assoc,T4.assoc,T4.assoc]
    have:(iw b).mul ((iw (-1)).mul (iw a))=kI true ((iw (b + 1)).mul (iw (a + 1))):=by simp [kI,T4.mul,iw];refine ⟨?_,?_,?_⟩ <;> grind
    rw [this]
    unfold kI T4.mul;simp only [if_true];congr 1 <;> grind
  ·show bE n (act b ks (Qt (Sh (-1) (Qt (Sh a p))))) (Q2 (act (b + 1) ks (Qt (Sh (a + 1) p))))
   have h1:=bE.act (ks:=ks) (k:=b) ((h.sh a).qt.sh (-1)).qt (yq (h.sh a))
   have h2:=CV (ks:=ks) (k:=b) (((h.sh a).sh 1).qt.sh 1)
   rw [Gg ((h.sh a).sh 1).qt,uo h,show 1 + b=b + 1 by omega] at h2
   have h3:=bE.trans (Vf.act (ks:=ks) (k:=b) ((h.sh a).qt.sh (-1)).qt) h1 (by rw [uo h] at *;exact h2)
   exact h3
def big:List Int->Prop
 | []=>True
 | [_]=>True
 | j :: b :: ks=>(2<=j\/j<=-2)/\big (b :: ks)
theorem NH:∀ (ks:List Int) (k:Int),big ks\/∃ (k':Int) (ks':List Int) (f:Bool),ks'.length < ks.length/\il k ks=kI f (il k' ks')/\∀ {n:Nat} {p:a6},Vf n p->bE n (act k ks p) (pK f (act k' ks' p))
 | [],_=>.inl trivial
 | [_],_=>.inl trivial
 | j :: b :: ks,k=>by
  by_cases hj:j=0\/j=1\/j=-1
  ·obtain ⟨k',ks',f,hl,hm,ha⟩:=SA (a:=k) (b:=b) (ks:=ks) hj
   exact .inr ⟨k',ks',f,by simpa using hl,hm,ha⟩
  ·rcases NH (b :: ks) j with h | ⟨k',ks',f,hl,hm,ha⟩
   ·exact .inl ⟨by omega,h⟩
   ·refine .inr ⟨k,k' :: ks',f,by simpa using hl,?_,fun {n p} h=>?_⟩
    ·show (il j (b :: ks)).mul (iw k)=kI f ((il k' ks').mul (iw k))
     rw [hm,CU]
    ·exact ha (h.sh k).qt
theorem NI:∀ (ks:List Int) (k:Int),big ks->(ks=[]\/2<=k\/k<=-2)->(il k ks).c.natAbs < (il k ks).d.natAbs
 | [],k,_,_=>by show (0:Int).natAbs < (1:Int).natAbs;decide
 | j :: ks,k,h,hk=>by
  have hk:2<=k\/k<=-2:=by rcases hk with hk | hk;cases hk;exact hk
  have hj:ks=[]\/2<=j\/j<=-2:=by
   cases ks with
   | nil=>exact .inl rfl
   | cons b ks=>exact .inr h.1
  have hb:big ks:=by
   cases ks with
   | nil=>trivial
   | cons b ks=>exact h.2
  have ih:=NI ks j hb hj
  show ((il j ks).c * 0 + (il j ks).d * 1).natAbs < ((il j ks).c * -1 + (il j ks).d * k).natAbs
  generalize (il j ks).c=c at ih
  generalize (il j ks).d=d at ih
  rw [Int.mul_zero,Int.zero_add,Int.mul_one]
  have e:(d * k).natAbs=d.natAbs * k.natAbs:=Int.natAbs_mul d k
  have e2:d.natAbs * 2<=d.natAbs * k.natAbs:=Nat.mul_le_mul_left _ (by omega)
  omega
theorem CW {ks:List Int} {k:Int} (h:big ks) (hn:ks≠[]):(il k ks).c≠0:=by
 cases ks with
 | nil=>exact absurd rfl hn
 | cons j ks =>
  have hj:ks=[]\/2<=j\/j<=-2:=by
   cases ks with
   | nil=>exact .inl rfl
   | cons b ks=>exact .inr h.1
  have hb:big ks:=by
   cases ks with
   | nil=>trivial
   | cons b ks=>exact h.2
  have ih:=NI ks j hb hj
  show (il j ks).c * 0 + (il j ks).d * 1≠0
  omega
theorem J7:∀ (m:Nat) (ks:List Int) (k:Int),ks.length<=m->∀ (e:Bool),il k ks=kI e T4.one->∀ {n:Nat} {p:a6},Vf n p->bE n (act k ks p) (pK e p):=by
 intro m
 induction m with
 | zero =>
  intro ks k hl e hm n p h
  have:ks=[]:=List.eq_nil_of_length_eq_zero (by omega)
  subst this
  have hm:(⟨1,k,0,1⟩:T4)=kI e T4.one:=hm
  cases e with
  | false =>
   have hk:k=0:=congrArg T4.b hm
   subst hk
   show bE n (Sh 0 p) p
   rw [o6 h];exact bE.refl h
  | true=>exact absurd (congrArg T4.a hm) (show ¬ (1:Int)=-1 by decide)
 | succ m ih =>
  intro ks k hl e hm n p h
  by_cases hn:ks=[]
  ·subst hn
   exact ih [] k (YN _) e hm h
  ·rcases NH ks k with hb | ⟨k',ks',f,hl',hm',ha⟩
   ·have:=CW (k:=k) hb hn
    rw [hm] at this
    exact absurd (by cases e <;> rfl) this
   ·have hm2:il k' ks'=kI (f.xor e) T4.one:=by
     have:kI f (il k ks)=il k' ks':=by rw [hm',CT,Bool.xor_self];rfl
     rw [<- this,hm,CT]
    have h1:=ih ks' k' (by omega) (f.xor e) hm2 h
    have h2:=bE.trans h.act (ha h) (bE.pK h.act h1 f)
    rw [Gf h,<- Bool.xor_assoc,Bool.xor_self,Bool.false_xor] at h2
    exact h2
end
def ot:Nat->a6->a6
 | 0,p=>p
 | j + 1,p=>Qt (ot j p)
def stM (p:a6) (s:Sp):a6:=if s.1=true then Sh s.2 p else ot s.2.toNat p
def eh (p:a6) (w:List Sp):a6:=w.foldl stM p
section
variable {n:Nat} {p q:a6}
theorem Vf.ot (h:Vf n p):∀ j,Vf n (af.ot j p)
 | 0=>h
 | j + 1=>(Vf.ot h j).qt
theorem Vf.st (h:Vf n p) (s:Sp):Vf n (stM p s):=by
 unfold stM
 split
 ·exact h.sh _
 ·exact h.ot _
theorem Vf.ld:∀ {w:List Sp} {p:a6},Vf n p->Vf n (eh p w)
 | [],_,h=>h
 | s :: w,p,h=>Vf.ld (w:=w) (h.st s)
theorem bE.ot (h:Vf n p) (a:bE n p q):∀ j,bE n (af.ot j p) (af.ot j q)
 | 0=>a
 | j + 1=>bE.qt (h.ot j) (bE.ot h a j)
theorem bE.st (h:Vf n p) (a:bE n p q) (s:Sp):bE n (stM p s) (stM q s):=by
 unfold stM
 split
 ·exact bE.sh h a _
 ·exact bE.ot h a _
theorem bE.ld:∀ {w:List Sp} {p q:a6},Vf n p->bE n p q->bE n (eh p w) (eh q w)
 | [],_,_,_,a=>a
 | s :: w,p,q,h,a=>bE.ld (w:=w) (h.st s) (bE.st h a s)
theorem Gh (p:a6) (u v:List Sp):eh p (u ++ v)=eh (eh p u) v:=by unfold eh;rw [Y6]
end
theorem NJ (s:Sp) (w:List Sp):az (s :: w)=(az w).mul (jM s):=by
 have:=um [s] w
 rw [show az [s]=(jM s).mul T4.one from rfl,T4.mul_one] at this
 exact this
theorem NK (e:Bool) (M N:T4):M.mul (kI e N)=kI e (M.mul N):=by
 cases e
 ·rfl
 ·unfold kI T4.mul;simp only [if_true];congr 1 <;> grind
theorem yr (ks:List Int) (j k:Int):(il k ks).mul (tS j)=il (j + k) ks:=by
 cases ks with
 | nil=>simp [il,T4.mul,tS]
 | cons i ks =>
  show ((il i ks).mul (iw k)).mul (tS j)=(il i ks).mul (iw (j + k))
  rw [T4.assoc]
  congr 1
  simp [T4.mul,iw,tS]
theorem yt (ks:List Int) (k:Int):(il k ks).mul T4.qt=il 0 (k :: ks):=rfl
theorem NL:∀ {w:List Sp},(∀ s∈w,cH s)->∃ (k:Int) (ks:List Int) (f:Bool),az w=kI f (il k ks)/\∀ {n:Nat} {p:a6},Vf n p->bE n (eh p w) (pK f (act k ks p))
 | [],_=>⟨0,[],false,rfl,fun {n p} h=>by show bE n p (Sh 0 p);rw [o6 h];exact bE.refl h⟩
 | s :: w,hw=>by
  obtain ⟨k,ks,f,hm,ha⟩:=NL (w:=w) fun x hx=>hw x (Yg _ hx)
  have hs:=hw s Ye
  obtain ⟨b,j⟩:=s
  rw [NJ,hm]
  cases b with
  | true =>
   refine ⟨j + k,ks,f,?_,fun {n p} h=>?_⟩
   ·rw [CU];congr 1;exact yr ks j k
   ·have:=ha (h.sh j)
    rw [Gg h] at this
    exact this
  | false =>
   have c:j=1\/j=2\/j=3:=t3 (hs.1 rfl)
   rcases c with rfl | rfl | rfl
   ·refine ⟨0,k :: ks,f,?_,fun {n p} h=>?_⟩
    ·rw [CU];congr 1
    ·have:=ha h.qt
     rw [NG h] at this
     exact this
   ·refine ⟨k,ks,!f,?_,fun {n p} h=>?_⟩
    ·rw [CU,show jM (false,2)=kI true T4.one from rfl,NK,T4.mul_one,CT];cases f <;> rfl
    ·have h1:=ha h.q2
     have h2:=bE.trans (Vf.ld (w:=w) h.q2) h1 (bE.pK (Vf.act h.q2) (CV h) f)
     have e:pK f (Q2 (act k ks p))=pK (!f) (act k ks p):=by
      have:=Gf (p:=act k ks p) h.act f true
      rw [Bool.xor_true] at this
      exact this
     rw [e] at h2
     exact h2
   ·refine ⟨0,k :: ks,!f,?_,fun {n p} h=>?_⟩
    ·have e3:jM (false,3)=kI true T4.qt:=rfl
     rw [CU,e3,NK,CT,yt];cases f <;> rfl
    ·have h1:=ha (p:=Q2 (Qt p)) h.qt.q2
     have h2:=bE.trans (Vf.ld (w:=w) h.qt.q2) h1 (bE.pK (Vf.act h.qt.q2) (CV h.qt) f)
     have e:pK f (Q2 (act k ks (Qt p)))=pK (!f) (act 0 (k :: ks) p):=by
      have:=Gf (p:=act k ks (Qt p)) h.qt.act f true
      rw [Bool.xor_true] at this
      rw [<- NG h]
      exact this
     rw [e] at h2
     exact h2
theorem NM {w:List Sp} (hw:∀ s∈w,cH s) (h1:az w=T4.one) {n:Nat} {p:a6} (h:Vf n p):bE n (eh p w) p:=by
 obtain ⟨k,ks,f,hm,ha⟩:=NL hw
 have e:il k ks=kI f T4.one:=by
  have:kI f (az w)=il k ks:=by rw [hm,CT,Bool.xor_self];rfl
  rw [<- this,h1]
 have h2:=J7 ks.length ks k (Yd _) f e h
 have h3:=bE.trans (Vf.ld h) (ha h) (bE.pK h.act h2 f)
 rw [Gf h,Bool.xor_self] at h3
 exact h3
theorem yu {w:List Sp} (hw:∀ s∈w,cH s):∀ s∈gf w,cH s:=fun s hs=>by
 unfold gf at hs
 obtain ⟨t,ht,rfl⟩:=Yt.mp (YR.mp hs)
 exact CK (hw t ht)
theorem Gi {w:List Sp} (hw:∀ s∈w,cH s):az (w ++ gf w)=T4.one:=by
 have hp:∀ s∈w ++ gf w,cH s:=fun s hs=>by
  rcases Yz.mp hs with hs | hs
  ·exact hw s hs
  ·exact yu hw s hs
 rw [<- JV hp,Sb hw];rfl
theorem Gj {w:List Sp} (hw:∀ s∈w,cH s):(az w).a * (az w).d - (az w).b * (az w).c=1:=by
 have:=Gi hw
 rw [um,wC hw] at this
 have h:=congrArg T4.a this
 have h:(az w).d * (az w).a + -(az w).b * (az w).c=1:=h
 rw [Int.mul_comm (az w).d,Int.neg_mul] at h
 omega
theorem NN {M:T4} (h:M.a * M.d - M.b * M.c=1):M.mul M.qM=T4.one/\M.qM.mul M=T4.one:=by
 constructor <;> (apply T4.ext' <;> simp [T4.mul,T4.qM,T4.one] <;> grind)
theorem J8 {u w:List Sp} (hu:∀ s∈u,cH s) (hw:∀ s∈w,cH s) (e:az u=az w) {n:Nat} {p:a6} (h:Vf n p):bE n (eh p u) (eh p w):=by
 have hb:=yu hw
 have h1:bE n (eh p (u ++ gf w)) p:=NM (fun s hs=>by
  rcases Yz.mp hs with hs | hs
  ·exact hu s hs
  ·exact hb s hs) (by rw [um,e,<- um];exact Gi hw) h
 rw [Gh] at h1
 have h2:=bE.ld (w:=w) (Vf.ld (Vf.ld h)) h1
 rw [<- Gh] at h2
 have h3:bE n (eh (eh p u) (gf w ++ w)) (eh p u):=NM (fun s hs=>by
  rcases Yz.mp hs with hs | hs
  ·exact hb s hs
  ·exact hw s hs) (by rw [um,wC hw];exact (NN (Gj hw)).1) (Vf.ld h)
 exact bE.trans (Vf.ld h) (bE.symm (Vf.ld (Vf.ld h)) h3) h2
def qi (p:a6) (n:Nat) (s:Int):a6:=(num p.1 (bf p.1 p.2 s n),num p.2 (bf p.1 p.2 s n))
def bI (n:Nat) (p:a6):a6:=nT ((upto n).map (qi p n))
theorem uq {n:Nat} {p q:a6} (n0:0 < n) (h:Vf n p) (a:bE n p q):bI n p=bI n q:=by
 obtain ⟨g,hg,rfl⟩:=a
 have key:∀ s:Int,0<=s->s < (n:Int)->qi (anew p.1 g,anew p.2 g) n (app g s)=qi p n s:=fun s s0 s1=>by
  show (num (anew p.1 g) (bf (anew p.1 g) (anew p.2 g) (app g s) n),num (anew p.2 g) (bf (anew p.1 g) (anew p.2 g) (app g s) n))=_
  have hb:=rE h.1 h.2 s0 s1 n
  rw [JR h.1 h.2 hg s0 s1 n,Nu h.1 hg hb,Nu h.2 hg hb]
  rfl
 refine Ss (fun x=>?_) (fun e=>?_)
 ·constructor
  ·intro hx
   obtain ⟨s,hs,rfl⟩:=Yt.mp hx
   obtain ⟨s0,s1⟩:=nu.mp hs
   exact Yt.mpr ⟨app g s,nu.mpr (hg.app s0 s1),key s s0 s1⟩
  ·intro hx
   obtain ⟨t,ht,rfl⟩:=Yt.mp hx
   obtain ⟨t0,t1⟩:=nu.mp ht
   obtain ⟨p0,p1⟩:=hg.ny t0 t1
   refine Yt.mpr ⟨app (inv g) t,nu.mpr ⟨p0,p1⟩,?_⟩
   have:=key (app (inv g) t) p0 p1
   rw [hg.cU t0 t1] at this
   exact this.symm
 ·have:=congrArg List.length e
  rw [X9,pS] at this
  simp at this
  omega
end af
namespace af
section
variable {n:Nat} {p q:a6} {g h:List Int} {s t:Int}
structure Wh (n:Nat) (p:a6):Prop where
 v:Vf n p
 all:∀ x:Int,0<=x->x < (n:Int)->jI p.1 p.2 x
theorem Wh.bf (w:Wh n p) (s0:0<=s) (s1:s < (n:Int)):Tn n (bf p.1 p.2 s n):=F8 w.v.1 w.v.2 s0 s1 w.all
theorem NP (xs ys:List Int) (s:Int) (n:Nat):app (bf xs ys s n) 0=s:=by
 have:=yj xs ys s 0 n
 rw [Nat.zero_add] at this
 obtain ⟨t,e⟩:=this
 rw [<- e]
 rfl
def gF (p q:a6) (n:Nat) (s t:Int):List Int:=aZ (inv (bf p.1 p.2 s n)) (bf q.1 q.2 t n)
def Cg (n:Nat) (p q:a6) (g:List Int):Prop:=Tn n g/\q=(anew p.1 g,anew p.2 g)
theorem CY (wp:Wh n p) (wq:Wh n q) (s0:0<=s) (s1:s < (n:Int)) (t0:0<=t) (t1:t < (n:Int)) (e:qi p n s=qi q n t):Cg n p q (gF p q n s t)/\app (gF p q n s t) s=t:=by
 have tb:=wp.bf s0 s1
 have tc:=wq.bf t0 t1
 have n0:0 < n:=by omega
 refine ⟨⟨tb.aD.aZ tc,?_⟩,?_⟩
 ·unfold qi at e
  have e1:=congrArg Prod.fst e
  have e2:=congrArg Prod.snd e
  simp only at e1 e2
  rw [<- wA wp.v.1 tb,<- wA wq.v.1 tc] at e1
  rw [<- wA wp.v.2 tb,<- wA wq.v.2 tc] at e2
  have go:∀ {a b:List Int},Tn n a->Tn n b->anew a (inv (bf p.1 p.2 s n))=anew b (inv (bf q.1 q.2 t n))->b=anew a (gF p q n s t):=fun {a b} ta tb' e=>by
   unfold gF
   rw [<- Tn.mH ta tb.aD tc,e]
   have:=Tn.mI tb' tc.aD
   rw [tc.inv_inv] at this
   exact this.symm
  exact Prod.ext (go wp.v.1 wq.v.1 e1) (go wp.v.2 wq.v.2 e2)
 ·unfold gF
  rw [pJ s0 (by rw [CB,tb.length];exact s1)]
  have:app (inv (bf p.1 p.2 s n)) s=0:=by
   have:=tb.fN (i:=0) (by decide) (by omega)
   rw [NP] at this
   exact this
  rw [this,NP]
theorem Gk (xs ys:List Int):∀ k,∀ y∈bf xs ys 0 k,jI xs ys y
 | 0,y,hy=>by rw [Yr.mp (show y∈[(0:Int)] from hy)];exact .zero
 | k + 1,y,hy=>by
  have hy':y∈(match (bf xs ys 0 k)[k]? with | some x=>visit xs ys (bf xs ys 0 k) x | none=>bf xs ys 0 k):=hy
  split at hy'
  ·next z hz =>
   have wK:=Gk xs ys k z (Yf hz)
   rcases qL.mp hy' with hy' | rfl
   ·rcases qL.mp hy' with hy' | rfl
    ·exact Gk xs ys k y hy'
    ·exact wK.r
   ·exact wK.u
  ·exact Gk xs ys k y hy'
theorem wL (w:Wh n p) (v:Vf n q) (n0:0 < n) (h:∀ F:List Int,F.Nodup->(∀ x∈F,0<=x/\x < (n:Int))->Cl q.1 q.2 F->Cl p.1 p.2 F):Wh n q:=by
 refine ⟨v,fun x x0 x1=>Gk q.1 q.2 n x ?_⟩
 have c:=h (bf q.1 q.2 0 n) (yk _ _ _ _) (rE v.1 v.2 (by decide) (by omega) n) (JQ v.1 v.2 (by decide) (by omega))
 refine c.all ?_ (w.all x x0 x1)
 have:=yj q.1 q.2 0 0 n
 rw [Nat.zero_add] at this
 exact this.subset (show (0:Int)∈[(0:Int)] by simp)
theorem NQ {zs F:List Int} (hz:Tn n zs) (nd:F.Nodup) (hb:∀ x∈F,0<=x/\x < (n:Int)) (hc:∀ x∈F,app zs x∈F):∀ x∈F,app (inv zs) x∈F:=fun x hx=>by
 obtain ⟨x0,x1⟩:=hb x hx
 obtain ⟨a0,a1⟩:=hz.ny x0 x1
 exact CI hz nd hb hc a0 a1 (by rw [hz.cU x0 x1];exact hx)
theorem J9 {zs F:List Int} (hc:∀ x∈F,app zs x∈F) {x:Int} (hx:x∈F):∀ k,bA zs x k∈F
 | 0=>hx
 | k + 1=>hc _ (J9 hc hx k)
theorem CZ {zs F:List Int} (hz:Tn n zs) (nd:F.Nodup) (hb:∀ x∈F,0<=x/\x < (n:Int)) (hc:∀ x∈F,app zs x∈F) (k:Int) {x:Int} (hx:x∈F):pw zs k x∈F:=by
 unfold pw
 split
 ·exact J9 hc hx _
 ·exact J9 (NQ hz nd hb hc) hx _
theorem Wh.sh (w:Wh n p) (n0:0 < n) (k:Int):Wh n (Sh k p):=by
 refine wL w (w.v.sh k) n0 fun F nd hb hc x hx=>⟨(hc x hx).1,?_⟩
 obtain ⟨x0,x1⟩:=hb x hx
 have h1:∀ x∈F,app p.1 x∈F:=fun x hx=>(hc x hx).1
 have hy:=CZ w.v.1 nd hb h1 k hx
 have:=(hc _ hy).2
 obtain ⟨y0,y1⟩:=hb _ hy
 have e:app (Sh k p).2 (pw p.1 k x)=app p.2 x:=by
  show app (shr p.1 p.2 k) (pw p.1 k x)=_
  unfold shr
  have hlen:(cB p.1 (-k)).length=n:=(w.v.1.cB (-k)).length
  rw [pJ y0 (by rw [hlen];exact y1)]
  congr 1
  have e3:=CM w.v.1 k (-k)
  rw [Int.add_right_neg,J1 w.v.1] at e3
  have e4:app (aZ (cB p.1 k) (cB p.1 (-k))) x=app (upto n) x:=by rw [e3]
  rw [Gb x0 x1,pJ x0 (by rw [(w.v.1.cB k).length];exact x1)] at e4
  have e5:app (cB p.1 k) x=pw p.1 k x:=qh x0 (by rw [w.v.1.length];exact x1)
  rw [e5] at e4
  exact e4
 rw [e] at this
 exact this
theorem Wh.qt (w:Wh n p) (n0:0 < n):Wh n (Qt p):=by
 refine wL w w.v.qt n0 fun F nd hb hc x hx=>⟨(hc x hx).2,?_⟩
 have:=NQ w.v.2.aD nd hb (fun x hx=>(hc x hx).1) x hx
 rw [w.v.2.inv_inv] at this
 exact this
def Od (xs ys F:List Int):Prop:=F[0]?=some 0/\∀ (k:Nat) (y:Int),F[k + 1]?=some y->∃ (j:Nat) (x:Int),j<=k/\F[j]?=some x/\(y=app xs x\/y=app ys x)
theorem Od.one (xs ys:List Int):Od xs ys [0]:=⟨rfl,fun k y h=>by cases h⟩
theorem Od.snoc {xs ys F:List Int} {x y:Int} (h:Od xs ys F) (hx:x∈F) (hy:y=app xs x\/y=app ys x):Od xs ys (F ++ [y]):=by
 have hl:0 < F.length:=List.length_pos_of_mem hx
 refine ⟨by rw [Yk hl];exact h.1,fun k z hz=>?_⟩
 by_cases hk:k + 1 < F.length
 ·rw [Yk hk] at hz
  obtain ⟨j,x',hj,hx',e⟩:=h.2 k z hz
  exact ⟨j,x',hj,by rw [Yk (by omega)];exact hx',e⟩
 ·rw [Yw (by omega)] at hz
  have hz:z=y:=by
   cases h3:k + 1 - F.length with
   | zero=>rw [h3] at hz;cases hz;rfl
   | succ m=>rw [h3] at hz;cases hz
  obtain ⟨j,hj,e⟩:=Y8 hx
  have oC:k + 1=F.length\/F.length < k + 1:=by omega
  refine ⟨j,x,by omega,by rw [Yk hj,Yb hj,e],by rw [hz];exact hy⟩
structure Fo (xs ys F:List Int):Prop extends Fd xs ys F where
 od:Od xs ys F
theorem Fo.one (xs ys:List Int):Fo xs ys [0]:=⟨Fd.one xs ys,Od.one xs ys⟩
end
end af
namespace af
section
variable {n:Nat} {xs ys r r' r2:List Int} {i j x y:Int}
def Sm (xs ys r:List Int):Prop:=∀ s∈r,app ys (app xs s)=app xs (app ys s)
instance:Decidable (Sm xs ys r):=inferInstanceAs (Decidable (∀ s∈r,app ys (app xs s)=app xs (app ys s)))
end
end af
namespace af
section
variable {n:Nat} {xs ys:List Int} {rs:List (List Int)} {lows:List (List Int)} {B:List Int->List (List Int)}
end
section
variable {n:Nat} {c g:List Int} {rs rs':List (List Int)}
end
section
variable {n:Nat} {p q:a6} {g:List Int}
theorem Wh.ot (w:Wh n p) (n0:0 < n):∀ j,Wh n (af.ot j p)
 | 0=>w
 | j + 1=>(w.ot n0 j).qt n0
theorem Wh.st (w:Wh n p) (n0:0 < n) (s:Sp):Wh n (stM p s):=by
 unfold stM
 split
 ·exact w.sh n0 _
 ·exact w.ot n0 _
theorem Wh.ld (n0:0 < n):∀ {w:List Sp} {p:a6},Wh n p->Wh n (eh p w)
 | [],_,h=>h
 | s :: w,_,h=>Wh.ld n0 (w:=w) (h.st n0 s)
end
end af
namespace af
def nr (x y:Int):Int:=(2 * x + y).fdiv (2 * y)
theorem SD (a b:Int) (hb:b≠0):(0 < b->0<=a - b * a.fdiv b/\a - b * a.fdiv b < b)/\(b < 0->b < a - b * a.fdiv b/\a - b * a.fdiv b<=0):=by
 have h1:=Int.mul_ediv_add_emod a b
 have h2:=Y3 a hb
 have h3:=Int.emod_lt a hb
 rw [Int.fdiv_eq_ediv]
 constructor
 ·intro h
  rw [if_pos (.inl (by omega)),Int.sub_zero]
  have:b.natAbs=b.toNat:=by omega
  constructor <;> omega
 ·intro h
  by_cases hd:b ∣ a
  ·rw [if_pos (.inr hd),Int.sub_zero]
   have:a % b=0:=Int.emod_eq_zero_of_dvd hd
   constructor <;> omega
  ·rw [if_neg (by rintro (z | z);omega;exact hd z),Int.mul_sub]
   have hne:a % b≠0:=fun z=>hd (Int.dvd_of_emod_eq_zero z)
   constructor <;> omega
theorem wM {x y:Int} (hy:y≠0):2 * (x - nr x y * y).natAbs<=y.natAbs:=by
 obtain ⟨h1,h2⟩:=SD (2 * x + y) (2 * y) (by omega)
 have e:2 * x + y - 2 * y * (2 * x + y).fdiv (2 * y)=2 * (x - nr x y * y) + y:=by
  unfold nr
  rw [Int.mul_sub,Int.mul_comm ((2 * x + y).fdiv (2 * y)) y,Int.mul_assoc]
  omega
 rw [e] at h1 h2
 rcases (show 0 < y\/y < 0 by omega) with h | h
 ·have:=h1 (by omega);omega
 ·have:=h2 (by omega);omega
theorem NR {x y:Int} (hy:y≠0):(nr x y).natAbs<=x.natAbs + 1:=by
 have h:=wM (x:=x) hy
 have h1:(nr x y * y).natAbs<=x.natAbs + (x - nr x y * y).natAbs:=by omega
 rw [Int.natAbs_mul] at h1
 have hy1:1<=y.natAbs:=by omega
 by_cases hq:(nr x y).natAbs<=x.natAbs + 1
 ·exact hq
 ·exfalso
  have h2:(x.natAbs + 2) * y.natAbs<=(nr x y).natAbs * y.natAbs:=Nat.mul_le_mul_right _ (by omega)
  have h3:(x.natAbs + 2) * y.natAbs=x.natAbs * y.natAbs + 2 * y.natAbs:=Nat.add_mul _ _ _
  have h4:x.natAbs<=x.natAbs * y.natAbs:=Nat.le_mul_of_pos_right _ hy1
  omega
def rF (k:Int):List Sp:=if k=0 then [] else [(true,k)]
theorem C0 {k:Int}:∀ s∈rF k,cH s/\s.2=k:=fun s hs=>by
 unfold rF at hs
 split at hs
 ·cases hs
 ·next h =>
  rw [Yr.mp hs]
  exact ⟨⟨(fun z=>by cases z),h⟩,rfl⟩
theorem Ka (k:Int):az (rF k)=⟨1,k,0,1⟩:=by
 unfold rF
 split
 ·next h=>rw [h];rfl
 ·show (jM (true,k)).mul T4.one=_
  rw [T4.mul_one];rfl
theorem C1 (k:Int):(rF k).length<=1:=by unfold rF;split <;> simp
def rV (x y:Int):List Sp:=rF (-(nr x y)) ++ [(false,1)]
theorem Kb (x y:Int):az (rV x y)=⟨0,-1,1,-(nr x y)⟩:=by
 unfold rV
 rw [wB,Ka]
 apply T4.ext' <;> simp [T4.mul,jM,qp,T4.qt,T4.one]
theorem NS {x y:Int} (hy:y≠0):∀ s∈rV x y,cH s/\s.2.natAbs<=x.natAbs + 1:=fun s hs=>by
 have h:=NR (x:=x) hy
 rcases Yz.mp hs with hs | hs
 ·obtain ⟨h1,h2⟩:=C0 s hs
  exact ⟨h1,by rw [h2];omega⟩
 ·rw [Yr.mp hs]
  exact ⟨⟨fun _=>⟨by decide,by decide⟩,by decide⟩,by show 1<=_;omega⟩
theorem Kc (x y:Int):(rV x y).length<=2:=by unfold rV;rw [Yc];have:=C1 (-(nr x y));simp;omega
structure Dv (M:Nat) (x y:Int) (g:List Sp) (u v:Int) (r:Nat):Prop where
 pr:∀ s∈g,cH s/\s.2.natAbs<=M + 1
 ln:g.length<=2 * r
 ua:u=(az g).a * x + (az g).b * y
 vc:v=(az g).c * x + (az g).d * y
 ub:u.natAbs<=M
 vb:v.natAbs * 2 ^ r<=M
theorem Dv.zero {M:Nat} {x y:Int} (hx:x.natAbs<=M) (hy:y.natAbs<=M):Dv M x y [] x y 0 :=
 ⟨(fun s hs=>nomatch hs),Yd _,by show x=1 * x + 0 * y;omega,by show y=0 * x + 1 * y;omega,hx,by omega⟩
theorem Dv.step {M r:Nat} {x y u v:Int} {g:List Sp} (h:Dv M x y g u v r) (hv:v≠0):Dv M x y (g ++ rV u v) (-v) (u - nr u v * v) (r + 1):=by
 have hl:=wM (x:=u) hv
 have hlen:=Kc u v
 have h2:1<=2 ^ r:=Nat.one_le_two_pow
 have vM:v.natAbs<=M:=Yv (Nat.le_mul_of_pos_right _ h2) h.vb
 have e:az (g ++ rV u v)=⟨-(az g).c,-(az g).d,(az g).a - nr u v * (az g).c,(az g).b - nr u v * (az g).d⟩:=by
  rw [um,Kb]
  apply T4.ext' <;> simp [T4.mul,Int.neg_mul] <;> omega
 refine ⟨fun s hs=>?_,by rw [Yc];have:=h.ln;omega,?_,?_,by omega,?_⟩
 ·rcases Yz.mp hs with hs | hs
  ·exact h.pr s hs
  ·obtain ⟨h1,h3⟩:=NS hv s hs
   exact ⟨h1,by have:=h.ub;omega⟩
 ·rw [e]
  show -v=-(az g).c * x + -(az g).d * y
  rw [h.vc,Int.neg_mul,Int.neg_mul];omega
 ·rw [e]
  show u - nr u v * v=((az g).a - nr u v * (az g).c) * x + ((az g).b - nr u v * (az g).d) * y
  generalize hq:nr u v=q
  rw [h.ua,h.vc,Int.sub_mul,Int.sub_mul,Int.mul_add,Int.mul_assoc,Int.mul_assoc]
  omega
 ·have:=h.vb
  have h3:(u - nr u v * v).natAbs * 2 ^ (r + 1)=2 * (u - nr u v * v).natAbs * 2 ^ r:=by rw [Nat.pow_succ,Nat.mul_comm (2 ^ r) 2,<- Nat.mul_assoc,Nat.mul_comm _ 2]
  rw [h3]
  exact Yv (Nat.mul_le_mul_right _ hl) this
theorem Dv.few {M r k:Nat} {x y u v:Int} {g:List Sp} (h:Dv M x y g u v r) (hv:v≠0) (hM:M < 2 ^ k):r < k:=by
 have h1:2 ^ r<=M:=Yv (Nat.le_mul_of_pos_left _ (by omega)) h.vb
 exact (Nat.pow_lt_pow_iff_right (by decide)).mp (YZ h1 hM)
def o7 (A:T4):List Sp:=if A.a=1 then rF A.b else (false,2) :: rF (-A.b)
theorem SE {a d:Int} (h:a * d=1):(a=1/\d=1)\/(a=-1/\d=-1):=by
 have h1:=congrArg Int.natAbs h
 rw [Int.natAbs_mul] at h1
 have h2:a.natAbs=1:=Nat.eq_one_of_dvd_one ⟨_,h1.symm⟩
 rcases (show a=1\/a=-1 by omega) with rfl | rfl
 ·exact .inl ⟨rfl,by omega⟩
 ·exact .inr ⟨rfl,by omega⟩
theorem SF {A:T4} (hc:A.c=0) (hd:A.a * A.d - A.b * A.c=1):az (o7 A)=A:=by
 have h1:A.a * A.d=1:=by rw [hc,Int.mul_zero] at hd;omega
 unfold o7
 rcases SE h1 with ⟨e1,e2⟩ | ⟨e1,e2⟩
 ·rw [if_pos e1,Ka]
  exact T4.ext' e1.symm rfl hc.symm e2.symm
 ·rw [if_neg (by rw [e1];decide),NJ,Ka]
  apply T4.ext'
  ·simp [T4.mul,jM,qp,T4.qt,T4.one,e1]
  ·simp [T4.mul,jM,qp,T4.qt,T4.one]
  ·simp [T4.mul,jM,qp,T4.qt,T4.one,hc]
  ·simp [T4.mul,jM,qp,T4.qt,T4.one,e2]
theorem NT (A:T4):∀ s∈o7 A,cH s:=fun s hs=>by
 unfold o7 at hs
 split at hs
 ·exact (C0 s hs).1
 ·rcases YC.mp hs with rfl | hs
  ·exact ⟨fun _=>⟨by decide,by decide⟩,by decide⟩
  ·exact (C0 s hs).1
theorem NU (A:T4):(o7 A).length<=2:=by
 unfold o7
 split
 ·have:=C1 A.b;omega
 ·have:=C1 (-A.b);simp;omega
theorem SG (A B:T4):(A.mul B).a * (A.mul B).d - (A.mul B).b * (A.mul B).c=(A.a * A.d - A.b * A.c) * (B.a * B.d - B.b * B.c):=by
 simp only [T4.mul]
 grind
theorem SH {T:T4} {g:List Sp} (hd:T.a * T.d - T.b * T.c=1) (hg:∀ s∈g,cH s) (h0:(az g).c * T.a + (az g).d * T.c=0):az (jB (o7 ((az g).mul T) ++ gf g)).reverse=T/\∀ s∈(jB (o7 ((az g).mul T) ++ gf g)).reverse,cH s:=by
 have SI:((az g).mul T).a * ((az g).mul T).d - ((az g).mul T).b * ((az g).mul T).c=1:=by rw [SG,Gj hg,hd];rfl
 have SJ:((az g).mul T).c=0:=h0
 have pr:∀ s∈o7 ((az g).mul T) ++ gf g,cH s:=fun s hs=>by
  rcases Yz.mp hs with hs | hs
  ·exact NT _ s hs
  ·exact yu hg s hs
 refine ⟨?_,fun s hs=>(Nw pr).pr s (YR.mp hs)⟩
 rw [JV pr,um,SF SJ SI,wC hg,<- T4.assoc,(NN (Gj hg)).2,T4.one_mul]
end af
namespace af
section
variable {n:Nat} {p q:a6}
theorem SK (vp:Vf n p) (vq:Vf n q) (k:Int) (a:bE n (Sh k p) (Sh k q)):bE n p q:=by
 have h:=bE.sh (vp.sh k) a (-k)
 rw [uo vp,uo vq,Int.add_right_neg,o6 vp,o6 vq] at h
 exact h
theorem Kd (p:a6) (n0:0 < n):∃ s:Int,0<=s/\s < (n:Int)/\bI n p=qi p n s:=by
 have h:=(JY (l:=(upto n).map (qi p n)) (fun e=>by
  have:=congrArg List.length e
  rw [X9,pS] at this
  simp at this
  omega)).1
 obtain ⟨s,hs,e⟩:=Yt.mp h
 obtain ⟨s0,s1⟩:=nu.mp hs
 exact ⟨s,s0,s1,e.symm⟩
theorem yw (wp:Wh n p) (wq:Wh n q) (n0:0 < n) (e:bI n p=bI n q):bE n p q:=by
 obtain ⟨s,s0,s1,es⟩:=Kd p n0
 obtain ⟨t,t0,t1,et⟩:=Kd q n0
 rw [es,et] at e
 obtain ⟨tg,eq⟩:=(CY wp wq s0 s1 t0 t1 e).1
 exact ⟨_,tg,eq⟩
theorem yx (n0:0 < n) (k:Int) (wp:Wh n p) (wq:Wh n q) (op:bI n p=p) (oq:bI n q=q) (e:bI n (Sh k p)=bI n (Sh k q)):p=q:=by
 have a:=SK wp.v wq.v k (yw (wp.sh n0 k) (wq.sh n0 k) n0 e)
 rw [<- op,<- oq]
 exact uq n0 wp.v a
end
end af
namespace L4
open PySem PySem.Spec L2
inductive D where
 | non | bl (b:Bool) | int (i:Int) | str (x:Str) | ty (n:String) | tup (ds:List D) | ref (i:Nat)
instance:Inhabited D:=⟨.non⟩
inductive O where
 | lst (ds:List D) | qj (ds:List D) | dct (kvs:List (Key×D)) | Gm (kvs:List (List Int×D)) | exc (c:Str) (fs:List (Str×D)) | any | jH (lo hi:Int)
abbrev Store:=List O
abbrev aq:=List (Option D)
abbrev Dm (α:Type):=Store->Option (α×Store)
inductive Fl where
 | nx (δ:aq) | bk (δ:aq) | ct (δ:aq) | rt (d:D)
mutual
inductive Rp (K:Zfr) (ρ:List Addr) (H:Hp):V->D->Prop
 | non:Rp K ρ H .non .non
 | bl (b:Bool):Rp K ρ H (.bl b) (.bl b)
 | int (i:Int):Rp K ρ H (.int i) (.int i)
 | str (x:Str):Rp K ρ H (.str x) (.str x)
 | ty (n:String):Rp K ρ H (.ty n) (.ty n)
 | ref {a:Addr} {i:Nat}:ρ[i]?=some a->Rp K ρ H (.ref a) (.ref i)
 | tup {a:Addr} {vs:List V} {ds:List D}:d8 K H a vs->cE K ρ H vs ds->Rp K ρ H (.ref a) (.tup ds)
inductive cE (K:Zfr) (ρ:List Addr) (H:Hp):List V->List D->Prop
 | nil:cE K ρ H [] []
 | cons {v:V} {vs:List V} {d:D} {ds:List D}:Rp K ρ H v d->cE K ρ H vs ds->cE K ρ H (v :: vs) (d :: ds)
end
structure Mn (K:Zfr) (ρ:List Addr) (H:Hp) (ρ':List Addr) (H':Hp):Prop where
 r:∀ (i:Nat) (a:Addr),ρ[i]?=some a->ρ'[i]?=some a
 t:∀ a vs,d8 K H a vs->d8 K H' a vs
 f:∀ a o u,H a=some (.nL o u)->H' a=some (.nL o u)
 x:∀ a ws,H a=some (.xd ws)->H' a=some (.xd ws)
section
variable {K:Zfr} {ρ ρ' ρ2:List Addr} {H H' H2:Hp}
theorem Mn.refl:Mn K ρ H ρ H:=⟨fun _ _ h=>h,fun _ _ h=>h,fun _ _ _ h=>h,fun _ _ h=>h⟩
theorem Mn.trans (m:Mn K ρ H ρ' H') (n:Mn K ρ' H' ρ2 H2):Mn K ρ H ρ2 H2:=⟨fun i a h=>n.r i a (m.r i a h),fun a vs h=>n.t a vs (m.t a vs h),fun a o u h=>n.f a o u (m.f a o u h),fun a ws h=>n.x a ws (m.x a ws h)⟩
mutual
theorem Rp.mn (m:Mn K ρ H ρ' H'):∀ {v:V} {d:D},Rp K ρ H v d->Rp K ρ' H' v d
 | _,_,.non=>.non
 | _,_,.bl b=>.bl b
 | _,_,.int i=>.int i
 | _,_,.str x=>.str x
 | _,_,.ty n=>.ty n
 | _,_,.ref e=>.ref (m.r _ _ e)
 | _,_,.tup q r=>.tup (m.t _ _ q) (cE.mn m r)
theorem cE.mn (m:Mn K ρ H ρ' H'):∀ {vs:List V} {ds:List D},cE K ρ H vs ds->cE K ρ' H' vs ds
 | _,_,.nil=>.nil
 | _,_,.cons a b=>.cons (Rp.mn m a) (cE.mn m b)
end
theorem cE.length:∀ {vs:List V} {ds:List D},cE K ρ H vs ds->vs.length=ds.length
 | _,_,.nil=>rfl
 | _,_,.cons _ r=>by rw [YE,YE,r.length]
theorem cE.got:∀ {vs:List V} {ds:List D},cE K ρ H vs ds->∀ {i:Nat} {d:D},ds[i]?=some d->∃ v,vs[i]?=some v/\Rp K ρ H v d
 | _,_,.nil,i,v,e=>by simp at e
 | _,_,.cons (v:=v) a b,0,d,e=>⟨v,by simp,by have:_=d:=Ym (by simpa using e);rw [<- this];exact a⟩
 | _,_,.cons a b,i + 1,d,e=>by
  obtain ⟨v,e1,r⟩:=cE.got b (i:=i) (by simpa using e)
  exact ⟨v,by simpa using e1,r⟩
theorem cE.append:∀ {vs:List V} {ds:List D} {ws:List V} {es:List D},cE K ρ H vs ds->cE K ρ H ws es->cE K ρ H (vs ++ ws) (ds ++ es)
 | _,_,_,_,.nil,s=>s
 | _,_,_,_,.cons a b,s=>.cons a (cE.append b s)
theorem cE.one {v:V} {d:D} (r:Rp K ρ H v d):cE K ρ H [v] [d]:=.cons r .nil
theorem cE.take:∀ {vs:List V} {ds:List D} (n:Nat),cE K ρ H vs ds->cE K ρ H (vs.take n) (ds.take n)
 | _,_,0,_=>.nil
 | _,_,_ + 1,.nil=>.nil
 | _,_,n + 1,.cons r t=>.cons r (cE.take n t)
theorem cE.drop:∀ {vs:List V} {ds:List D} (n:Nat),cE K ρ H vs ds->cE K ρ H (vs.drop n) (ds.drop n)
 | _,_,0,r=>r
 | _,_,_ + 1,.nil=>.nil
 | _,_,n + 1,.cons _ t=>cE.drop n t
theorem cE.set {v:V} {d:D} (r:Rp K ρ H v d):∀ {vs:List V} {ds:List D} (i:Nat),cE K ρ H vs ds->cE K ρ H (vs.set i v) (ds.set i d)
 | _,_,_,.nil=>.nil
 | _,_,0,.cons _ t=>.cons r t
 | _,_,i + 1,.cons q t=>.cons q (cE.set r i t)
theorem cE.erase:∀ {vs:List V} {ds:List D} (i:Nat),cE K ρ H vs ds->cE K ρ H (vs.eraseIdx i) (ds.eraseIdx i)
 | _,_,_,.nil=>.nil
 | _,_,0,.cons _ t=>t
 | _,_,i + 1,.cons q t=>.cons q (cE.erase i t)
theorem cE.flat {vs:List V} {ds:List D} (r:cE K ρ H vs ds):∀ n:Nat,cE K ρ H (List.replicate n vs).flatten (List.replicate n ds).flatten
 | 0=>.nil
 | n + 1=>by rw [YT,YT,List.flatten_cons,List.flatten_cons];exact r.append (r.flat n)
theorem cE.ints:∀ (ns:List Int),cE K ρ H (ns.map V.int) (ns.map D.int)
 | []=>.nil
 | n :: r=>.cons (.int n) (cE.ints r)
end
def Rs (K:Zfr) (ρ:List Addr) (H:Hp) (σ:St) (δ:aq):Prop:=σ.length=δ.length/\∀ (i:Nat) (d:D),δ[i]?=some (some d)->∃ v,σ[i]?=some (some v)/\Rp K ρ H v d
def Rk (K:Zfr) (ρ:List Addr) (H:Hp):List (Key×V)->List (Key×D)->Prop:=Paired fun p q=>p.1=q.1/\Rp K ρ H p.2 q.2
def Ru (K:Zfr) (ρ:List Addr) (H:Hp):List (List Int×D)->List (List Int×Addr×Value)->Prop:=Paired fun q x=>q.1=x.1/\d8 K H x.2.1 (x.1.map V.int)/\∃ v,RelV v x.2.2/\Rp K ρ H v q.2
def Xd (K:Zfr) (ρ:List Addr) (H:Hp):Option Addr->List (Str×D)->Prop
 | none,fs=>fs=[]
 | some d,fs=>∃ ws,H d=some (.xd ws)/\∀ f e,fs.lookup f=some e->∃ v,ws.lookup f=some v/\Rp K ρ H v e
def wQ (K:Zfr) (ρ:List Addr) (H:Hp) (a:Addr):O->Prop
 | .lst ds=>∃ vs,H a=some (.lst vs)/\cE K ρ H vs ds
 | .qj ds=>∃ vs,Cf K H a vs/\cE K ρ H vs ds
 | .dct kvs=>∃ ws,H a=some (.dK ws)/\Rk K ρ H ws kvs
 | .Gm kvs=>∃ xs,H a=some (DU a xs)/\Ru K ρ H kvs xs
 | .exc c fs=>∃ C dx tr,PySem.W.nsIn K mainGlobals c=some (some (.ref C))/\H a=some (XO a C dx tr)/\Xd K ρ H dx fs
 | .any=>True
 | .jH lo hi=>H a=some (.jH lo hi)
def O.mut:O->Bool
 | .qj _=>false
 | .any=>false
 | _=>true
structure Rl (K:Zfr) (ρ:List Addr) (H:Hp) (st:Store):Prop where
 len:ρ.length=st.length
 nd:∀ (i j:Nat) (a:Addr) (o o':O),ρ[i]?=some a->ρ[j]?=some a->st[i]?=some o->st[j]?=some o'->o.mut=true->o'.mut=true->i=j
 obj:∀ (i:Nat) (a:Addr) (o:O),ρ[i]?=some a->st[i]?=some o->wQ K ρ H a o
section
variable {K:Zfr} {ρ ρ' ρ2:List Addr} {H H' H2:Hp} {st st':Store} {a p:Addr} {i:Nat} {o o':O} {ho:HO} {σ:St} {δ:aq}
theorem Rs.mn (h:Rs K ρ H σ δ) (m:Mn K ρ H ρ' H'):Rs K ρ' H' σ δ:=⟨h.1,fun i d e=>let ⟨v,e1,r⟩:=h.2 i d e;⟨v,e1,r.mn m⟩⟩
theorem Rk.mn (m:Mn K ρ H ρ' H') {ws:List (Key×V)} {kvs:List (Key×D)} (h:Rk K ρ H ws kvs):Rk K ρ' H' ws kvs:=by
 induction h with
 | nil=>exact .nil
 | cons a _ ih=>exact .cons ⟨a.1,a.2.mn m⟩ ih
theorem Ru.mn (m:Mn K ρ H ρ' H') {kvs:List (List Int×D)} {xs:List (List Int×Addr×Value)} (h:Ru K ρ H kvs xs):Ru K ρ' H' kvs xs:=by
 induction h with
 | nil=>exact .nil
 | cons a _ ih=>obtain ⟨a1,a2,v,a3,a4⟩:=a;exact .cons ⟨a1,m.t _ _ a2,v,a3,a4.mn m⟩ ih
theorem Xd.mn (m:Mn K ρ H ρ' H') {dx:Option Addr} {fs:List (Str×D)} (h:Xd K ρ H dx fs):Xd K ρ' H' dx fs:=by
 cases dx with
 | none=>exact h
 | some d=>obtain ⟨ws,e,q⟩:=h;exact ⟨ws,m.x _ _ e,fun f e' z=>let ⟨v,z1,z2⟩:=q f e' z;⟨v,z1,z2.mn m⟩⟩
theorem wQ.keep (m:Mn K ρ H ρ' H') (h:∀ u,H a=some u->H' a=some u) (r:wQ K ρ H a o):wQ K ρ' H' a o:=by
 cases o with
 | lst ds=>obtain ⟨vs,e,q⟩:=r;exact ⟨vs,h _ e,q.mn m⟩
 | qj ds =>
  obtain ⟨vs,e,q⟩:=r
  refine ⟨vs,?_,q.mn m⟩
  rcases e with ⟨u,e⟩ | e
  ·exact .inl ⟨u,h _ e⟩
  ·exact .inr e
 | dct kvs=>obtain ⟨ws,e,q⟩:=r;exact ⟨ws,h _ e,q.mn m⟩
 | Gm kvs=>obtain ⟨ws,e,q⟩:=r;exact ⟨ws,h _ e,q.mn m⟩
 | exc c fs=>obtain ⟨C,dx,tr,n,e,q⟩:=r;exact ⟨C,dx,tr,n,h _ e,q.mn m⟩
 | any=>trivial
 | jH lo hi=>exact h _ r
theorem Mn.same (s:jA H H'):Mn K ρ H ρ H':=⟨fun _ _ h=>h,fun _ _ h=>(Kp.of_same (ch:=[]) s).Jm h,fun _ _ _ h=>s _ _ h,fun _ _ h=>s _ _ h⟩
theorem Rl.same (l:Rl K ρ H st) (s:jA H H'):Rl K ρ H' st:=⟨l.len,l.nd,fun i a o h1 h2=>(l.obj i a o h1 h2).keep (Mn.same s) fun u e=>s _ _ e⟩
theorem Rl.at (l:Rl K ρ H st) (h1:ρ[i]?=some a) (h2:st[i]?=some o) (hm:o.mut=true):∃ u,H a=some u/\∀ x y,u≠.nL x y:=by
 have r:=l.obj i a o h1 h2
 cases o with
 | lst ds=>obtain ⟨vs,e,_⟩:=r;exact ⟨_,e,fun x y z=>nomatch z⟩
 | qj ds=>cases hm
 | dct kvs=>obtain ⟨ws,e,_⟩:=r;exact ⟨_,e,fun x y z=>nomatch z⟩
 | Gm kvs=>obtain ⟨ws,e,_⟩:=r;exact ⟨_,e,fun x y z=>by cases z⟩
 | exc c fs=>obtain ⟨C,dx,tr,_,e,_⟩:=r;exact ⟨_,e,fun x y z=>by cases z⟩
 | any=>cases hm
 | jH lo hi=>exact ⟨_,r,fun x y z=>nomatch z⟩
theorem Mn.new (hp:H p=none):Mn K ρ H (ρ ++ [p]) (upd H p ho):=⟨fun i a h=>by
  obtain ⟨hi,_⟩:=Ya.mp h
  rw [Yk hi];exact h,fun _ _ h=>(Kp.of_same (ch:=[]) (jA.up hp)).Jm h,fun _ _ _ h=>jA.up hp _ _ h,fun _ _ h=>jA.up hp _ _ h⟩
theorem Rl.new (l:Rl K ρ H st) (hp:H p=none) (mk:wQ K (ρ ++ [p]) (upd H p ho) p o):Rl K (ρ ++ [p]) (upd H p ho) (st ++ [o]):=by
 have m:Mn K ρ H (ρ ++ [p]) (upd H p ho):=Mn.new hp
 have split:∀ (i:Nat) (a:Addr) (o':O),(ρ ++ [p])[i]?=some a->(st ++ [o])[i]?=some o'->(ρ[i]?=some a/\st[i]?=some o')\/(i=ρ.length/\a=p/\o'=o):=fun i a o' h1 h2=>by
  by_cases hi:i < ρ.length
  ·rw [Yk hi] at h1
   rw [Yk (by rw [<- l.len];exact hi)] at h2
   exact .inl ⟨h1,h2⟩
  ·obtain ⟨hb,_⟩:=Ya.mp h1
   rw [Yc,Zc] at hb
   have e:i=ρ.length:=by omega
   subst e
   rw [Yw (Yd _),Y9] at h1
   rw [l.len,Yw (Yd _),Y9] at h2
   exact .inr ⟨rfl,(Ym h1).symm,(Ym h2).symm⟩
 refine ⟨by rw [Yc,Yc,l.len];rfl,fun i j a u u' h1 h2 h3 h4 m1 m2=>?_,fun i a u h1 h2=>?_⟩
 ·rcases split i a u h1 h3 with ⟨g1,g2⟩ | ⟨rfl,rfl,rfl⟩ <;> rcases split j _ u' h2 h4 with ⟨k1,k2⟩ | ⟨k1,k2,k3⟩
  ·exact l.nd i j a u u' g1 k1 g2 k2 m1 m2
  ·subst k2
   obtain ⟨w,e,_⟩:=l.at g1 g2 m1
   rw [e] at hp;cases hp
  ·obtain ⟨w,e,_⟩:=l.at k1 k2 m2
   rw [e] at hp;cases hp
  ·exact k1.symm
 ·rcases split i a u h1 h2 with ⟨g1,g2⟩ | ⟨rfl,rfl,rfl⟩
  ·exact (l.obj i a u g1 g2).keep m fun w e=>jA.up hp _ _ e
  ·exact mk
theorem Rl.put (l:Rl K ρ H st) (hi:ρ[i]?=some a) (hs:st[i]?=some o) (hm:o.mut=true) (hm':o'.mut=true) (m:Mn K ρ H ρ (upd H a ho)) (r:wQ K ρ (upd H a ho) a o'):Rl K ρ (upd H a ho) (st.set i o'):=by
 obtain ⟨w,ew,nf⟩:=l.at hi hs hm
 have SM:i < st.length:=(Ya.mp hs).1
 have old:∀ (j:Nat) (u:O),(st.set i o')[j]?=some u->(j=i/\u=o')\/(j≠i/\st[j]?=some u):=fun j u h=>by
  by_cases hj:i=j
  ·subst hj
   rw [Yj SM] at h
   exact .inl ⟨rfl,(Ym h).symm⟩
  ·rw [Yp hj] at h
   exact .inr ⟨fun z=>hj z.symm,h⟩
 refine ⟨by rw [YX];exact l.len,fun j k b u u' h1 h2 h3 h4 m1 m2=>?_,fun j b u h1 h2=>?_⟩
 ·rcases old j u h3 with ⟨rfl,rfl⟩ | ⟨nj,g3⟩ <;> rcases old k u' h4 with ⟨rfl,rfl⟩ | ⟨nk,g4⟩
  ·rfl
  ·exact l.nd _ _ b o u' h1 h2 hs g4 hm m2
  ·exact l.nd _ _ b u o h1 h2 g3 hs m1 hm
  ·exact l.nd _ _ b u u' h1 h2 g3 g4 m1 m2
 ·rcases old j u h2 with ⟨rfl,rfl⟩ | ⟨nj,g2⟩
  ·rw [hi] at h1;cases h1;exact r
  ·by_cases hb:b=a
   ·subst hb
    cases u with
    | qj ds =>
     obtain ⟨vs,e,q⟩:=l.obj j b _ h1 g2
     refine ⟨vs,?_,q.mn m⟩
     rcases e with ⟨x,e⟩ | e
     ·rw [ew] at e;cases e;exact absurd rfl (nf _ _)
     ·exact .inr e
    | lst ds=>exact absurd (l.nd j i b _ o h1 hi g2 hs rfl hm) nj
    | Gm ds=>exact absurd (l.nd j i b _ o h1 hi g2 hs rfl hm) nj
    | exc c fs=>exact absurd (l.nd j i b _ o h1 hi g2 hs rfl hm) nj
    | dct ds=>exact absurd (l.nd j i b _ o h1 hi g2 hs rfl hm) nj
    | any=>trivial
    | jH lo up=>exact absurd (l.nd j i b _ o h1 hi g2 hs rfl hm) nj
   ·exact (l.obj j b u h1 g2).keep m fun w e=>by rw [kd hb];exact e
theorem Mn.put {xs:List V} (e:H a=some (.lst xs)):Mn K ρ H ρ (upd H a ho):=⟨fun _ _ h=>h,fun b vs h=>(Kp.put (ch:=[a]) (o:=ho) Kp.refl (by simp) e).Jm h,fun b o u h=>by rw [kd (fun z=>by rw [z,e] at h;cases h)];exact h,fun b ws h=>by rw [kd (fun z=>by rw [z,e] at h;cases h)];exact h⟩
theorem Mn.putD {ws:List (Key×V)} (e:H a=some (.dK ws)):Mn K ρ H ρ (upd H a ho):=⟨fun _ _ h=>h,fun b vs q=>by
 have ne:∀ u,H b=some u->(∀ w,u≠.dK w)->b≠a:=fun u hu n z=>by rw [z,e] at hu;cases hu;exact n _ rfl
 rcases q with (q | ⟨o,q⟩) | q
 ·exact .inl (.inl (by rw [kd (ne _ q fun w z=>nomatch z)];exact q))
 ·exact .inl (.inr ⟨o,by rw [kd (ne _ q fun w z=>nomatch z)];exact q⟩)
 ·exact .inr q,fun b o u h=>by rw [kd (fun z=>by rw [z,e] at h;cases h)];exact h,fun b ws h=>by rw [kd (fun z=>by rw [z,e] at h;cases h)];exact h⟩
theorem Rl.newL {vs:List V} {ds:List D} (l:Rl K ρ H st) (hp:H p=none) (r:cE K ρ H vs ds):Rl K (ρ ++ [p]) (upd H p (.lst vs)) (st ++ [.lst ds]):=l.new hp ⟨vs,rS,r.mn (Mn.new hp)⟩
theorem Rl.newD {vs:List (Key×V)} {ds:List (Key×D)} (l:Rl K ρ H st) (hp:H p=none) (r:Rk K ρ H vs ds):Rl K (ρ ++ [p]) (upd H p (.dK vs)) (st ++ [.dct ds]):=l.new hp ⟨vs,rS,r.mn (Mn.new hp)⟩
theorem newR (l:Rl K ρ H st) (v:D:=.ref st.length):(ρ ++ [p])[st.length]?=some p:=by rw [<- l.len,Yw (Yd _),Y9];rfl
theorem Rl.putL {vs:List V} {ds xs:List D} (l:Rl K ρ H st) (hi:ρ[i]?=some a) (hs:st[i]?=some (.lst xs)) (r:cE K ρ H vs ds):Rl K ρ (upd H a (.lst vs)) (st.set i (.lst ds))/\Mn K ρ H ρ (upd H a (.lst vs)):=by
 obtain ⟨ws,e,_⟩:=l.obj i a _ hi hs
 have m:Mn K ρ H ρ (upd H a (.lst vs)):=Mn.put e
 exact ⟨l.put hi hs rfl rfl m ⟨vs,rS,r.mn m⟩,m⟩
theorem Rl.yy {vs:List (Key×V)} {ds xs:List (Key×D)} (l:Rl K ρ H st) (hi:ρ[i]?=some a) (hs:st[i]?=some (.dct xs)) (r:Rk K ρ H vs ds):Rl K ρ (upd H a (.dK vs)) (st.set i (.dct ds))/\Mn K ρ H ρ (upd H a (.dK vs)):=by
 obtain ⟨ws,e,_⟩:=l.obj i a _ hi hs
 have m:Mn K ρ H ρ (upd H a (.dK vs)):=Mn.putD e
 exact ⟨l.put hi hs rfl rfl m ⟨vs,rS,r.mn m⟩,m⟩
def items (st:Store) (i:Nat):Option (List D):=match st[i]? with
 | some (.lst ds)=>some ds
 | some (.qj ds)=>some ds
 | _=>none
theorem Rl.items {ds:List D} (l:Rl K ρ H st) (hi:ρ[i]?=some a) (h:items st i=some ds):∃ vs,iy K H a vs/\cE K ρ H vs ds:=by
 unfold L4.items at h
 split at h
 ·next ds' hs=>cases h;obtain ⟨vs,e,r⟩:=l.obj i a _ hi hs;exact ⟨vs,.inl (.inl e),r⟩
 ·next ds' hs=>cases h;obtain ⟨vs,e,r⟩:=l.obj i a _ hi hs;exact ⟨vs,e.sq,r⟩
 ·cases h
end
def So (K:Zfr) {α β:Type} (R:List Addr->Hp->α->β->Prop) (t:St->Hp->(α->Hp->Prop)->Prop) (f:aq->Dm β):Prop :=
 ∀ (ρ:List Addr) (σ:St) (H:Hp) (δ:aq) (st:Store) (b:β) (st':Store) (Q:α->Hp->Prop),Rl K ρ H st->Rs K ρ H σ δ->f δ st=some (b,st') ->
  (∀ a H' ρ',Mn K ρ H ρ' H'->Rl K ρ' H' st'->R ρ' H' a b->Q a H')->t σ H Q
abbrev gg (K:Zfr) (t:TE) (f:aq->Dm D):Prop:=So K (Rp K) t f
abbrev qO (K:Zfr) (t:TT) (f:aq->Dm Bool):Prop:=So K (fun _ _=>Eq) t f
abbrev rG (K:Zfr) (t:TA) (f:aq->Dm (List D)):Prop:=So K (cE K) t f
abbrev Gn (K:Zfr) (t:TO) (f:aq->Dm (Option Int)):Prop:=So K (fun _ _=>Eq) t f
def Ke (K:Zfr) (r:V->Hp->VK->Prop) (g:D->Dm D):Prop :=
 ∀ (ρ:List Addr) (H:Hp) (st:Store) (x:V) (a:D) (b:D) (st':Store) (Q:VK),Rl K ρ H st->Rp K ρ H x a->g a st=some (b,st')->(∀ v H' ρ',Mn K ρ H ρ' H'->Rl K ρ' H' st'->Rp K ρ' H' v b->Q v H')->r x H Q
def mJ (K:Zfr) (r:R2) (g:D->D->Dm D):Prop :=
 ∀ (ρ:List Addr) (H:Hp) (st:Store) (x y:V) (a c:D) (b:D) (st':Store) (Q:VK),Rl K ρ H st->Rp K ρ H x a->Rp K ρ H y c->g a c st=some (b,st')->(∀ v H' ρ',Mn K ρ H ρ' H'->Rl K ρ' H' st'->Rp K ρ' H' v b->Q v H')->r x y H Q
def qP (K:Zfr) (r:List V->Hp->VK->Prop) (g:List D->Dm D):Prop :=
 ∀ (ρ:List Addr) (H:Hp) (st:Store) (xs:List V) (as:List D) (b:D) (st':Store) (Q:VK),Rl K ρ H st->cE K ρ H xs as->g as st=some (b,st')->(∀ v H' ρ',Mn K ρ H ρ' H'->Rl K ρ' H' st'->Rp K ρ' H' v b->Q v H')->r xs H Q
def wR (K:Zfr) (T:String) (r:V->List V->Hp->VK->Prop) (g:D->List D->Dm D):Prop :=
 ∀ (ρ:List Addr) (H:Hp) (st:Store) (x:V) (xs:List V) (a:D) (as:List D) (b:D) (st':Store) (Q:VK),Rl K ρ H st->Rp K ρ H x a->cE K ρ H xs as->g a as st=some (b,st')->(∀ v H' ρ',Mn K ρ H ρ' H'->Rl K ρ' H' st'->Rp K ρ' H' v b->Q v H')->r x xs H Q
def bnd {α β:Type} (m:Option (α×Store)) (k:α->Dm β):Option (β×Store):=match m with
 | some (a,st)=>k a st
 | none=>none
theorem dD {α β:Type} {m:Option (α×Store)} {k:α->Dm β} {r:β×Store} (h:bnd m k=some r):∃ a st,m=some (a,st)/\k a st=some r:=by
 cases m with
 | none=>cases h
 | some p=>exact ⟨p.1,p.2,rfl,h⟩
section
variable {K:Zfr}
def ag (i:Nat):aq->Dm D:=fun δ st=>match δ[i]? with
 | some (some d)=>some (d,st)
 | _=>none
theorem ai (i:Nat):gg K (xG i) (ag i):=by
 intro ρ σ H δ st b st' Q l rs e q
 unfold ag at e
 split at e
 ·next d hd=>cases e;obtain ⟨v,ev,r⟩:=rs.2 i _ hd;exact ⟨v,ev,q v H ρ .refl l r⟩
 ·cases e
def fC (d:D):aq->Dm D:=fun _ st=>some (d,st)
theorem rH {v:V} {d:D} (h:∀ ρ H,Rp K ρ H v d):gg K (tC v) (fC d):=by
 intro ρ σ H δ st b st' Q l rs e q
 cases e
 exact q v H ρ .refl l (h ρ H)
theorem aK (i:Int):gg K (tC (.int i)) (fC (.int i)):=rH fun _ _=>.int i
theorem Kf (b:Bool):gg K (tC (.bl b)) (fC (.bl b)):=rH fun _ _=>.bl b
theorem o8 (x:Str):gg K (tC (.str x)) (fC (.str x)):=rH fun _ _=>.str x
theorem NV:gg K (tC .non) (fC .non):=rH fun _ _=>.non
theorem C2 (n:String):gg K (tC (.ty n)) (fC (.ty n)):=rH fun _ _=>.ty n
def av (g:D->D->Dm D) (fa fb:aq->Dm D):aq->Dm D:=fun δ st=>bnd (fa δ st) fun a st1=>bnd (fb δ st1) fun b st2=>g a b st2
theorem aA {r:R2} {g:D->D->Dm D} {ta tb:TE} {fa fb:aq->Dm D} (hr:mJ K r g) (ha:gg K ta fa) (hb:gg K tb fb):gg K (BM r ta tb) (av g fa fb):=by
 intro ρ σ H δ st b st' Q l rs e q
 obtain ⟨a,st1,e1,e⟩:=dD e
 obtain ⟨c,st2,e2,e⟩:=dD e
 refine ha ρ σ H δ st a st1 _ l rs e1 fun x H1 ρ1 m1 l1 r1=>hb ρ1 σ H1 δ st1 c st2 _ l1 (rs.mn m1) e2 fun y H2 ρ2 m2 l2 r2=>?_
 exact hr ρ2 H2 st2 x y a c b st' Q l2 (r1.mn m2) r2 e fun v H3 ρ3 m3 l3 r3=>q v H3 ρ3 ((m1.trans m2).trans m3) l3 r3
def rJ (g:D->Dm D) (fa:aq->Dm D):aq->Dm D:=fun δ st=>bnd (fa δ st) fun a st1=>g a st1
theorem sZ {r:V->Hp->VK->Prop} {g:D->Dm D} {ta:TE} {fa:aq->Dm D} (hr:Ke K r g) (ha:gg K ta fa):gg K (L6 r ta) (rJ g fa):=by
 intro ρ σ H δ st b st' Q l rs e q
 obtain ⟨a,st1,e1,e⟩:=dD e
 exact ha ρ σ H δ st a st1 _ l rs e1 fun x H1 ρ1 m1 l1 r1=>hr ρ1 H1 st1 x a b st' Q l1 r1 e fun v H3 ρ3 m3 l3 r3=>q v H3 ρ3 (m1.trans m3) l3 r3
def ah:aq->Dm (List D):=fun _ st=>some ([],st)
def ae (fa:aq->Dm D) (fr:aq->Dm (List D)):aq->Dm (List D):=fun δ st=>bnd (fa δ st) fun a st1=>bnd (fr δ st1) fun r st2=>some (a :: r,st2)
theorem ay:rG K BV ah:=by
 intro ρ σ H δ st b st' Q l rs e q
 cases e
 exact q [] H ρ .refl l .nil
theorem ao {ta:TE} {tr:TA} {fa:aq->Dm D} {fr:aq->Dm (List D)} (ha:gg K ta fa) (hr:rG K tr fr):rG K (vQ ta tr) (ae fa fr):=by
 intro ρ σ H δ st b st' Q l rs e q
 obtain ⟨a,st1,e1,e⟩:=dD e
 obtain ⟨c,st2,e2,e⟩:=dD e
 cases e
 exact ha ρ σ H δ st a st1 _ l rs e1 fun x H1 ρ1 m1 l1 r1=>hr ρ1 σ H1 δ st1 c _ _ l1 (rs.mn m1) e2 fun y H2 ρ2 m2 l2 r2=>q _ H2 ρ2 (m1.trans m2) l2 (.cons (r1.mn m2) r2)
def lim (n:Nat):Bool:=Nat.ble n 100000
theorem C3 {n:Nat} (h:lim n=true):n<=sizeLine:=Yv (Nat.le_of_ble_eq_true h) (by decide)
theorem Kg {n:Nat} (h:lim n=true):n < sizeLine:=YZ (Nat.le_of_ble_eq_true h) (by decide)
def bq (fa:aq->Dm (List D)):aq->Dm D:=fun δ st=>bnd (fa δ st) fun as st1=>if lim as.length=true then some (.tup as,st1) else none
theorem eM {ta:TA} {fa:aq->Dm (List D)} (ha:rG K ta fa):gg K (BW ta) (bq fa):=by
 intro ρ σ H δ st b st' Q l rs e q
 obtain ⟨as,st1,e1,e⟩:=dD e
 split at e
 ·next hl =>
  cases e
  refine ha ρ σ H δ st as _ _ l rs e1 fun xs H1 ρ1 m1 l1 r1=>⟨by rw [r1.length];exact C3 hl,fun p hp=>?_⟩
  have m2:Mn K ρ1 H1 ρ1 (upd H1 p (.tup xs)):=Mn.same (jA.up hp)
  exact q _ _ ρ1 (m1.trans m2) (l1.same (jA.up hp)) (.tup (d8.of rS) (r1.mn m2))
 ·cases e
def cL (fa:aq->Dm (List D)):aq->Dm D:=fun δ st=>bnd (fa δ st) fun as st1=>if lim as.length=true then some (.ref st1.length,st1 ++ [.lst as]) else none
theorem kQ {ta:TA} {fa:aq->Dm (List D)} (ha:rG K ta fa):gg K (BX ta) (cL fa):=by
 intro ρ σ H δ st b st' Q l rs e q
 obtain ⟨as,st1,e1,e⟩:=dD e
 split at e
 ·next hl =>
  cases e
  refine ha ρ σ H δ st as _ _ l rs e1 fun xs H1 ρ1 m1 l1 r1=>⟨by rw [r1.length];exact C3 hl,fun p hp=>?_⟩
  exact q _ _ _ (m1.trans (Mn.new hp)) (l1.newL hp r1) (.ref (newR l1))
 ·cases e
def aN (fa:aq->Dm D):aq->Dm Bool:=fun δ st=>bnd (fa δ st) fun a st1=>match a with
 | .bl b=>some (b,st1)
 | _=>none
theorem gj {ta:TE} {fa:aq->Dm D} (ha:gg K ta fa):qO K (vP ta) (aN fa):=by
 intro ρ σ H δ st b st' Q l rs e q
 obtain ⟨a,st1,e1,e⟩:=dD e
 cases a <;> simp at e
 obtain ⟨rfl,rfl⟩:=e
 refine ha ρ σ H δ st _ _ _ l rs e1 fun x H1 ρ1 m1 l1 r1=>?_
 cases r1
 exact ⟨_,rfl,q _ H1 ρ1 m1 l1 rfl⟩
theorem Kh {ta:TE} {fa:aq->Dm D} (ha:gg K ta fa):qO K (tB ta) (aN fa):=gj ha
def rK (fa:aq->Dm Bool):aq->Dm Bool:=fun δ st=>bnd (fa δ st) fun a st1=>some (!a,st1)
theorem NW {ta:TT} {fa:aq->Dm Bool} (ha:qO K ta fa):qO K (BA ta) (rK fa):=by
 intro ρ σ H δ st b st' Q l rs e q
 obtain ⟨a,st1,e1,e⟩:=dD e
 cases e
 exact ha ρ σ H δ st _ _ _ l rs e1 fun x H1 ρ1 m1 l1 r1=>q _ H1 ρ1 m1 l1 (by rw [r1])
def rL (fa fb:aq->Dm Bool):aq->Dm Bool:=fun δ st=>bnd (fa δ st) fun a st1=>if a=true then fb δ st1 else some (false,st1)
def C4 (fa fb:aq->Dm Bool):aq->Dm Bool:=fun δ st=>bnd (fa δ st) fun a st1=>if a=true then some (true,st1) else fb δ st1
theorem Ki {ta tb:TT} {fa fb:aq->Dm Bool} (ha:qO K ta fa) (hb:qO K tb fb):qO K (Bz ta tb) (rL fa fb):=by
 intro ρ σ H δ st b st' Q l rs e q
 obtain ⟨a,st1,e1,e⟩:=dD e
 refine ha ρ σ H δ st _ _ _ l rs e1 fun x H1 ρ1 m1 l1 r1=>?_
 subst r1
 cases x with
 | true =>
  refine rA ?_
  rw [if_pos rfl] at e
  exact hb ρ1 σ H1 δ st1 b st' _ l1 (rs.mn m1) e fun y H2 ρ2 m2 l2 r2=>q y H2 ρ2 (m1.trans m2) l2 r2
 | false =>
  refine rq ?_
  rw [if_neg Yh] at e
  cases e
  exact q _ H1 ρ1 m1 l1 rfl
theorem C5 {ta tb:TT} {fa fb:aq->Dm Bool} (ha:qO K ta fa) (hb:qO K tb fb):qO K (LW ta tb) (C4 fa fb):=by
 intro ρ σ H δ st b st' Q l rs e q
 obtain ⟨a,st1,e1,e⟩:=dD e
 refine ha ρ σ H δ st _ _ _ l rs e1 fun x H1 ρ1 m1 l1 r1=>?_
 subst r1
 cases x with
 | false =>
  refine rq ?_
  rw [if_neg Yh] at e
  exact hb ρ1 σ H1 δ st1 b st' _ l1 (rs.mn m1) e fun y H2 ρ2 m2 l2 r2=>q y H2 ρ2 (m1.trans m2) l2 r2
 | true =>
  refine rA ?_
  rw [if_pos rfl] at e
  cases e
  exact q _ H1 ρ1 m1 l1 rfl
def qQ (fa fb:aq->Dm D):aq->Dm D:=fun δ st=>bnd (aN fa δ st) fun a st1=>if a=true then fb δ st1 else some (.bl false,st1)
def C6 (fa fb:aq->Dm D):aq->Dm D:=fun δ st=>bnd (aN fa δ st) fun a st1=>if a=true then some (.bl true,st1) else fb δ st1
def wU (fa:aq->Dm D):aq->Dm D:=fun δ st=>bnd (aN fa δ st) fun a st1=>some (.bl (!a),st1)
theorem SN {fa:aq->Dm D} {δ:aq} {st st1:Store} {b:Bool} (h:aN fa δ st=some (b,st1)):fa δ st=some (.bl b,st1):=by
 obtain ⟨a,st2,e1,e⟩:=dD h
 cases a <;> simp at e
 obtain ⟨rfl,rfl⟩:=e
 exact e1
theorem SO {ta tb:TE} {fa fb:aq->Dm D} (ha:gg K ta fa) (hb:gg K tb fb):gg K (vH ta tb) (qQ fa fb):=by
 intro ρ σ H δ st b st' Q l rs e q
 obtain ⟨a,st1,e1,e⟩:=dD e
 refine ha ρ σ H δ st _ _ _ l rs (SN e1) fun x H1 ρ1 m1 l1 r1=>?_
 cases r1
 refine ⟨a,rfl,?_⟩
 cases a with
 | true =>
  refine rA ?_
  rw [if_pos rfl] at e
  exact hb ρ1 σ H1 δ st1 b st' _ l1 (rs.mn m1) e fun y H2 ρ2 m2 l2 r2=>q y H2 ρ2 (m1.trans m2) l2 r2
 | false =>
  refine rq ?_
  rw [if_neg Yh] at e
  cases e
  exact q _ H1 ρ1 m1 l1 (.bl _)
def h8 {β:Type} (c:aq->Dm Bool) (fa fb:aq->Dm β):aq->Dm β:=fun δ st=>bnd (c δ st) fun a st1=>if a=true then fa δ st1 else fb δ st1
def lY:aq->Dm (Option Int):=fun _ st=>some (none,st)
def oM (fa:aq->Dm D):aq->Dm (Option Int):=fun δ st=>bnd (fa δ st) fun a st1=>match a with
 | .int i=>some (some i,st1)
 | _=>none
theorem Kj:Gn K qB lY:=by
 intro ρ σ H δ st b st' Q l rs e q
 cases e
 exact q _ H ρ .refl l rfl
theorem Kk {ta:TE} {fa:aq->Dm D} (ha:gg K ta fa):Gn K (vS ta) (oM fa):=by
 intro ρ σ H δ st b st' Q l rs e q
 obtain ⟨a,st1,e1,e⟩:=dD e
 cases a <;> simp at e
 obtain ⟨rfl,rfl⟩:=e
 refine ha ρ σ H δ st _ _ _ l rs e1 fun x H1 ρ1 m1 l1 r1=>?_
 cases r1
 exact ⟨_,rfl,q _ H1 ρ1 m1 l1 rfl⟩
def yz (K:Zfr) (r:V->Option Int->Option Int->Hp->VK->Prop) (g:D->Option Int->Option Int->Dm D):Prop :=
 ∀ lo hi,Ke K (fun x=>r x lo hi) (fun a=>g a lo hi)
def AL (g:D->Option Int->Option Int->Dm D) (fa:aq->Dm D) (fl fh:aq->Dm (Option Int)):aq->Dm D:=fun δ st=>bnd (fa δ st) fun a st1=>bnd (fl δ st1) fun lo st2=>bnd (fh δ st2) fun hi st3=>g a lo hi st3
theorem Kl {r:V->Option Int->Option Int->Hp->VK->Prop} {g:D->Option Int->Option Int->Dm D} {ta:TE} {tl th:TO} {fa:aq->Dm D} {fl fh:aq->Dm (Option Int)} (hr:yz K r g) (ha:gg K ta fa) (hl:Gn K tl fl) (hh:Gn K th fh):gg K (Mr r ta tl th) (AL g fa fl fh):=by
 intro ρ σ H δ st b st' Q l rs e q
 obtain ⟨a,st1,e1,e⟩:=dD e
 obtain ⟨lo,st2,e2,e⟩:=dD e
 obtain ⟨hi,st3,e3,e⟩:=dD e
 refine ha ρ σ H δ st a st1 _ l rs e1 fun x H1 ρ1 m1 l1 r1=>hl ρ1 σ H1 δ st1 lo st2 _ l1 (rs.mn m1) e2 fun y H2 ρ2 m2 l2 r2=>hh ρ2 σ H2 δ st2 hi st3 _ l2 (rs.mn (m1.trans m2)) e3 fun z H3 ρ3 m3 l3 r3=>?_
 subst r2 r3
 exact hr y z ρ3 H3 st3 x a b st' Q l3 (r1.mn (m2.trans m3)) e fun v H4 ρ4 m4 l4 r4=>q v H4 ρ4 (((m1.trans m2).trans m3).trans m4) l4 r4
def aP (g:List D->Dm D) (fa:aq->Dm (List D)):aq->Dm D:=fun δ st=>bnd (fa δ st) fun as st1=>g as st1
theorem cu {r:List V->Hp->VK->Prop} {g:List D->Dm D} {ta:TA} {fa:aq->Dm (List D)} (hr:qP K r g) (ha:rG K ta fa):gg K (IL r ta) (aP g fa):=by
 intro ρ σ H δ st b st' Q l rs e q
 obtain ⟨as,st1,e1,e⟩:=dD e
 exact ha ρ σ H δ st as st1 _ l rs e1 fun x H1 ρ1 m1 l1 r1=>hr ρ1 H1 st1 x as b st' Q l1 r1 e fun v H3 ρ3 m3 l3 r3=>q v H3 ρ3 (m1.trans m3) l3 r3
def a8 (K:Zfr) (n:Nat) (F:List D->Dm D):Sp:=fun vs H Q _=>vs.length=n/\∃ (ρ:List Addr) (st:Store) (ds:List D) (b:D) (st':Store),Rl K ρ H st/\cE K ρ H vs ds/\F ds st=some (b,st') /\
 ∀ v H' ρ',Mn K ρ H ρ' H'->Rl K ρ' H' st'->Rp K ρ' H' v b->Q v H'
theorem bU {n:Nat} {F:List D->Dm D} {ta:TA} {fa:aq->Dm (List D)} {E:XK} (ha:rG K ta fa) (hn:∀ δ st as st',fa δ st=some (as,st')->as.length=n):gg K (sD (a8 K n F) [] E ta) (aP F fa):=by
 intro ρ σ H δ st b st' Q l rs e q
 obtain ⟨as,st1,e1,e⟩:=dD e
 refine ha ρ σ H δ st as st1 _ l rs e1 fun vs H1 ρ1 m1 l1 r1=>⟨?_,ρ1,st1,as,b,st',l1,?_,e,fun v H3 ρ3 m3 l3 r3=>q v H3 ρ3 (m1.trans m3) l3 r3⟩
 ·rw [List.append_nil,r1.length];exact hn _ _ _ _ e1
 ·rw [List.append_nil];exact r1
theorem SQ {δ:aq} {st st':Store} {as:List D} (h:ah δ st=some (as,st')):as.length=0:=by cases h;rfl
theorem Gp {fa:aq->Dm D} {fr:aq->Dm (List D)} {n:Nat} (hr:∀ δ st as st',fr δ st=some (as,st')->as.length=n):∀ δ st as st',ae fa fr δ st=some (as,st')->as.length=n + 1:=fun δ st as st' h=>by
 obtain ⟨a,st1,e1,e⟩:=dD h
 obtain ⟨c,st2,e2,e⟩:=dD e
 cases e
 rw [YE,hr _ _ _ _ e2]
end
end L4
namespace L4
open PySem PySem.Spec L2
section
variable {K:Zfr}
def wV (h:Int->Int->D):D->D->Dm D
 | .int i,.int j,st=>some (h i j,st)
 | _,_,_=>none
theorem AO {gv:Int->Int->V} {h:Int->Int->D} (hh:∀ i j ρ H,Rp K ρ H (gv i j) (h i j)):mJ K (qb gv) (wV h):=by
 intro ρ H st x y a c b st' Q l rx ry e q
 unfold wV at e
 split at e
 ·cases e;cases rx;cases ry;exact ⟨_,_,rfl,rfl,q _ H ρ .refl l (hh _ _ ρ H)⟩
 ·cases e
def u5 (c:Int->Int->Bool) (h:Int->Int->D):D->D->Dm D
 | .int i,.int j,st=>if c i j=true then some (h i j,st) else none
 | _,_,_=>none
theorem AQ {C:Int->Int->Prop} {c:Int->Int->Bool} {gv:Int->Int->V} {h:Int->Int->D} (hc:∀ i j,c i j=true->C i j) (hh:∀ i j ρ H,Rp K ρ H (gv i j) (h i j)):mJ K (rI C gv) (u5 c h):=by
 intro ρ H st x y a d b st' Q l rx ry e q
 unfold u5 at e
 split at e
 ·split at e
  ·next hcc=>cases e;cases rx;cases ry;exact ⟨_,_,rfl,rfl,hc _ _ hcc,q _ H ρ .refl l (hh _ _ ρ H)⟩
  ·cases e
 ·cases e
def cZ:D->D->Dm D:=wV fun i j=>.int (i + j)
def lS:D->D->Dm D:=wV fun i j=>.int (i - j)
def mK:D->D->Dm D:=u5 (fun i j=>decide (-18446744073709551616 < i/\i < 18446744073709551616) || decide (-18446744073709551616 < j/\j < 18446744073709551616)) fun i j=>.int (i * j)
def nU:D->D->Dm D:=u5 (fun i j=>decide (0 < j/\j < 1073741824)) fun i j=>.int (i / j)
def jN:D->D->Dm D:=u5 (fun i j=>decide (0 < j)) fun i j=>.int (i % j)
def tf:D->D->Dm D:=u5 (fun i j=>decide (0<=j/\j<=1000000/\i.natAbs < 18446744073709551616)) fun i j=>.int (i ^ j.toNat)
def yA:D->D->Dm D:=wV fun i j=>.bl (decide (i < j))
def Km:D->D->Dm D:=wV fun i j=>.bl (decide (i<=j))
def AR:D->D->Dm D:=wV fun i j=>.bl (decide (j < i))
def Kn:D->D->Dm D:=wV fun i j=>.bl (decide (j<=i))
theorem lP:mJ K (qb fun i j=>.int (i + j)) cZ:=AO fun _ _ _ _=>.int _
theorem u6:mJ K (qb fun i j=>.int (i - j)) lS:=AO fun _ _ _ _=>.int _
theorem ur:mJ K (rI sy fun i j=>.int (i * j)) mK:=AQ (fun i j h=>by
 rw [Bool.or_eq_true,decide_eq_true_eq,decide_eq_true_eq] at h
 exact h) fun _ _ _ _=>.int _
theorem Gq:mJ K (rI BO fun i j=>.int (i / j)) nU:=AQ (fun i j h=>of_decide_eq_true (p:=0 < j/\j < 1073741824) h) fun _ _ _ _=>.int _
theorem rM:mJ K (rI (fun _ j=>0 < j) fun i j=>.int (i % j)) jN:=AQ (fun i j h=>of_decide_eq_true h) fun _ _ _ _=>.int _
theorem NX:mJ K (rI BP fun i j=>.int (i ^ j.toNat)) tf:=AQ (fun i j h=>by have h:=of_decide_eq_true (p:=0<=j/\j<=1000000/\i.natAbs < 18446744073709551616) h;exact ⟨h.1,h.2.1,by omega⟩) fun _ _ _ _=>.int _
theorem C7:mJ K (qb fun i j=>.bl (decide (i < j))) yA:=AO fun _ _ _ _=>.bl _
theorem C8:mJ K (qb fun i j=>.bl (decide (i<=j))) Km:=AO fun _ _ _ _=>.bl _
theorem Gr:mJ K (qb fun i j=>.bl (decide (j < i))) AR:=AO fun _ _ _ _=>.bl _
theorem C9:mJ K (qb fun i j=>.bl (decide (j<=i))) Kn:=AO fun _ _ _ _=>.bl _
def lZ:D->Dm D
 | .int i,st=>some (.int (-i),st)
 | _,_=>none
theorem tj:Ke K (rU fun i=>.int (-i)) lZ:=by
 intro ρ H st x a b st' Q l rx e q
 unfold lZ at e
 split at e
 ·cases e;cases rx;exact ⟨_,rfl,q _ H ρ .refl l (.int _)⟩
 ·cases e
def sV:D->Option V
 | .non=>some .non
 | .bl b=>some (.bl b)
 | .int i=>some (.int i)
 | .str x=>some (.str x)
 | _=>none
theorem AU {ρ:List Addr} {H:Hp} {x v:V} {a:D} (r:Rp K ρ H x a) (h:sV a=some v):x=v:=by
 cases r <;> first | (cases h;rfl) | cases h
def jx (neg:Bool):D->D->Dm D:=fun a b st=>match sV a,sV b with
 | some x,some y=>if oY x y=true then some (.bl (if neg then !decide (x=y) else decide (x=y)),st) else none
 | _,_=>none
theorem oy:mJ K L8 (jx false):=by
 intro ρ H st x y a c b st' Q l rx ry e q
 unfold jx at e
 split at e
 ·next u v h1 h2 =>
  split at e
  ·next hs=>cases e;cases AU rx h1;cases AU ry h2;exact ⟨hs,q _ H ρ .refl l (.bl _)⟩
  ·cases e
 ·cases e
theorem Dc:mJ K L9 (jx true):=by
 intro ρ H st x y a c b st' Q l rx ry e q
 unfold jx at e
 split at e
 ·next u v h1 h2 =>
  split at e
  ·next hs=>cases e;cases AU rx h1;cases AU ry h2;exact ⟨hs,q _ H ρ .refl l (.bl _)⟩
  ·cases e
 ·cases e
def ck {α β:Type} (f:α->Option β):List α->Option (List β)
 | []=>some []
 | a :: r=>match f a,ck f r with
  | some b,some s=>some (b :: s)
  | _,_=>none
theorem AV {α β:Type} {f:α->Option β} {a:α} {r:List α} {s:List β} (h:ck f (a :: r)=some s):∃ b t,f a=some b/\ck f r=some t/\s=b :: t:=by
 unfold ck at h
 split at h
 ·next b t h1 h2=>cases h;exact ⟨b,t,h1,h2,rfl⟩
 ·cases h
theorem wW {α β γ:Type} {f:α->Option β} {g:γ->α} {k:γ->β} (h:∀ c,f (g c)=some (k c)):∀ l:List γ,ck f (l.map g)=some (l.map k)
 | []=>rfl
 | c :: r=>by
  show ck f (g c :: r.map g)=_
  unfold ck
  rw [h c,wW h r]
  rfl
def fH (st:Store):Nat->D->Option PyData
 | 0,_=>none
 | _ + 1,.non=>some .none
 | _ + 1,.bl b=>some (.bool b)
 | _ + 1,.int i=>some (.int i)
 | _ + 1,.str x=>some (.str x)
 | _ + 1,.ty _=>none
 | n + 1,.tup ds=>(ck (fH st n) ds).map PyData.tuple
 | n + 1,.ref i=>match items st i with
  | some ds=>(ck (fH st n) ds).map PyData.list
  | none=>none
theorem AW {ρ:List Addr} {H:Hp} {st:Store} (l:Rl K ρ H st):∀ (n:Nat) {v:V} {d:D} {p:PyData},Rp K ρ H v d->fH st n d=some p->Rep K H v p
 | 0,_,_,_,_,h=>by simp [fH] at h
 | n + 1,v,d,p,r,h=>by
  have all:∀ {vs:List V} {ds:List D} {ps:List PyData},cE K ρ H vs ds->ck (fH st n) ds=some ps->fL K H vs ps:=by
   intro vs ds ps rr
   induction vs generalizing ds ps with
   | nil=>intro hm;cases rr;cases hm;exact .nil
   | cons w ws ih =>
    intro hm
    cases rr with
    | cons ra rb =>
     obtain ⟨b,t,h1,h2,rfl⟩:=AV hm
     exact .cons (AW l n ra h1) (ih rb h2)
  cases r with
  | non=>simp [fH] at h;subst h;exact .non
  | bl b=>simp [fH] at h;subst h;exact .bl b
  | int i=>simp [fH] at h;subst h;exact .int i
  | str x=>simp [fH] at h;subst h;exact .str x
  | ty n=>simp [fH] at h
  | ref hi =>
   simp only [fH] at h
   split at h
   ·next ds hd =>
    obtain ⟨ps,h1,rfl⟩:=YD.mp h
    obtain ⟨vs,e,rr⟩:=l.items hi hd
    exact .lst e (all rr h1)
   ·cases h
  | tup q rr =>
   simp only [fH] at h
   obtain ⟨ps,h1,rfl⟩:=YD.mp h
   exact .tup q (all rr h1)
def kJ (neg:Bool):D->D->Dm D:=fun a b st=>match fH st 20 a,fH st 20 b with
 | some p,some q=>if (PyData.canLay0 p && PyData.canLay0 q && decide (min p.depth q.depth<=60))=true then some (.bl (if neg then !PyData.eqv p q else PyData.eqv p q),st) else none
 | _,_=>none
theorem AX (neg:Bool):mJ K (uN K neg) (kJ neg):=by
 intro ρ H st x y a c b st' Q l rx ry e q
 unfold kJ at e
 split at e
 ·next u v h1 h2 =>
  split at e
  ·next hs =>
   cases e
   rw [YA,YA,decide_eq_true_eq] at hs
   exact ⟨u,v,AW l 20 rx h1,AW l 20 ry h2,hs.1.1,hs.1.2,hs.2,q _ H ρ .refl l (.bl _)⟩
  ·cases e
 ·cases e
theorem at_of {ρ:List Addr} {H:Hp} {vs:List V} {ds:List D} {i:Int} {d:D} (r:cE K ρ H vs ds) (h:eK ds i=some d):∃ v,eK vs i=some v/\Rp K ρ H v d:=by
 unfold eK at h ⊢
 rw [r.length]
 cases hx:m8 ds.length i with
 | none=>rw [hx] at h;cases h
 | some j =>
  rw [hx] at h
  exact r.got h
def aM:D->D->Dm D
 | .tup ds,.int i,st=>match eK ds i with
  | some d=>some (d,st)
  | none=>none
 | _,_,_=>none
theorem bQ:mJ K (xW K) aM:=by
 intro ρ H st x y a c b st' Q l rx ry e q
 unfold aM at e
 split at e
 ·split at e
  ·next d hd =>
   cases e
   cases ry
   cases rx with
   | tup s r =>
    obtain ⟨v,hv,rv⟩:=at_of r hd
    exact ⟨_,_,_,v,rfl,rfl,s,hv,q v H ρ .refl l rv⟩
  ·cases e
 ·cases e
def cm:D->D->Dm D
 | .ref r,.int i,st=>match items st r with
  | some ds=>match eK ds i with
   | some d=>some (d,st)
   | none=>none
  | none=>none
 | _,_,_=>none
theorem kg:mJ K (xV K) cm:=by
 intro ρ H st x y a c b st' Q l rx ry e q
 unfold cm at e
 split at e
 ·split at e
  ·next ds hi =>
   split at e
   ·next d hd =>
    cases e
    cases ry
    cases rx with
    | ref hr =>
     obtain ⟨vs,s,r⟩:=l.items hr hi
     obtain ⟨v,hv,rv⟩:=at_of r hd
     exact ⟨_,_,_,v,rfl,rfl,s,hv,q v H ρ .refl l rv⟩
   ·cases e
  ·cases e
 ·cases e
def yB:D->D->Dm D
 | .str z,.int i,st=>if lim z.length=true then match eK z.cps.toList i with
   | some c=>some (.str ⟨#[c]⟩,st)
   | none=>none
  else none
 | _,_,_=>none
def cutD (xs:List D) (lo hi:Option Int):List D:=(xs.drop (HT.cJ xs.length 0 lo)).take (HT.cJ xs.length xs.length hi - HT.cJ xs.length 0 lo)
theorem cE.cut {ρ:List Addr} {H:Hp} {vs:List V} {ds:List D} (r:cE K ρ H vs ds) (lo hi:Option Int):cE K ρ H (nQ vs lo hi) (cutD ds lo hi):=by
 unfold nQ cutD
 rw [r.length]
 exact (r.drop _).take _
def yC:D->Option Int->Option Int->Dm D
 | .tup ds,lo,hi,st=>some (.tup (cutD ds lo hi),st)
 | _,_,_,_=>none
theorem got {ρ:List Addr} {H:Hp} {st:Store} {vs:List V} {ds:List D} {Q:VK} (l:Rl K ρ H st) (r:cE K ρ H vs ds) (q:∀ v H' ρ',Mn K ρ H ρ' H'->Rl K ρ' H' st->Rp K ρ' H' v (.tup ds)->Q v H'):qd K H vs Q :=
 fun p H' s e=>q _ H' ρ (Mn.same e) (l.same e) (.tup s (r.mn (Mn.same e)))
theorem yD:yz K (wg K) yC:=by
 intro lo hi ρ H st x a b st' Q l rx e q
 cases a with
 | tup ds =>
  cases e
  cases rx with
  | tup s r=>exact ⟨_,_,rfl,s,got l (r.cut lo hi) q⟩
 | _=>cases e
def tm:D->Option Int->Option Int->Dm D
 | .ref r,lo,hi,st=>match items st r with
  | some ds=>some (.ref st.length,st ++ [.lst (cutD ds lo hi)])
  | none=>none
 | _,_,_,_=>none
theorem NY:yz K (B3 K) tm:=by
 intro lo hi ρ H st x a b st' Q l rx e q
 cases a with
 | ref i =>
  simp only [tm] at e
  split at e
  ·next ds hd =>
   cases e
   cases rx with
   | ref hr =>
    obtain ⟨vs,s,r⟩:=l.items hr hd
    exact ⟨_,_,rfl,s,fun p hp=>q _ _ _ (Mn.new hp) (l.newL hp (r.cut lo hi)) (.ref (newR l))⟩
  ·cases e
 | _=>cases e
def ip:D->D->Dm D
 | .tup a,.tup b,st=>if lim (a.length + b.length)=true then some (.tup (a ++ b),st) else none
 | _,_,_=>none
theorem u7:mJ K (sJ K) ip:=by
 intro ρ H st x y a c b st' Q l rx ry e q
 unfold ip at e
 split at e
 ·split at e
  ·next hl =>
   cases e
   cases rx with
   | tup s r =>
    cases ry with
    | tup s' r'=>exact ⟨_,_,_,_,rfl,rfl,s,s',by rw [r.length,r'.length];exact C3 hl,got l (r.append r') q⟩
  ·cases e
 ·cases e
def own (st:Store) (i:Nat):Option (List D):=match st[i]? with
 | some (.lst ds)=>some ds
 | _=>none
theorem rW {st:Store} {i:Nat} {ds:List D} (h:own st i=some ds):st[i]?=some (.lst ds):=by
 unfold own at h
 split at h
 ·next ds' hs=>cases h;exact hs
 ·cases h
def nV:D->D->Dm D
 | .ref i,.ref j,st=>match own st i,own st j with
  | some a,some b=>if lim (a.length + b.length)=true then some (.ref st.length,st ++ [.lst (a ++ b)]) else none
  | _,_=>none
 | _,_,_=>none
theorem wX:mJ K B7 nV:=by
 intro ρ H st x y a c b st' Q l rx ry e q
 unfold nV at e
 split at e
 ·split at e
  ·next a b h1 h2 =>
   split at e
   ·next hl =>
    cases e
    cases rx with
    | ref hi =>
     cases ry with
     | ref hj =>
      obtain ⟨vs,e1,r1⟩:=l.obj _ _ _ hi (rW h1)
      obtain ⟨ws,e2,r2⟩:=l.obj _ _ _ hj (rW h2)
      exact ⟨_,_,_,_,rfl,rfl,e1,e2,by rw [r1.length,r2.length];exact C3 hl,fun p hp=>q _ _ _ (Mn.new hp) (l.newL hp (r1.append r2)) (.ref (newR l))⟩
   ·cases e
  ·cases e
 ·cases e
def tu:D->D->Dm D
 | .ref i,.int k,st=>match own st i with
  | some a=>if (decide (-9223372036854775808<=k/\k < 9223372036854775808) && lim (a.length * k.toNat))=true then some (.ref st.length,st ++ [.lst (List.replicate k.toNat a).flatten]) else none
  | _=>none
 | _,_,_=>none
theorem NZ {ρ:List Addr} {H:Hp}:∀ {ws vs:List V} {ds:List D},cE K ρ H ws ds->ck sV ds=some vs->ws=vs
 | _,_,_,.nil,h=>by cases h;rfl
 | _,_,_,.cons a b,h=>by
  obtain ⟨x,t,h1,h2,rfl⟩:=AV h
  rw [AU a h1,NZ b h2]
theorem N0 {a:D} {v:V} (h:sV a=some v):kP v=true:=by cases a <;> first | (cases h;rfl) | cases h
theorem N1:∀ {ds:List D} {vs:List V},ck sV ds=some vs->vs.all kP=true
 | [],_,h=>by cases h;rfl
 | d :: r,_,h=>by
  obtain ⟨x,t,h1,h2,rfl⟩:=AV h
  rw [List.all_cons,N0 h1,N1 h2];rfl
def cX (st:Store):D->Option (List D)
 | .tup ds=>some ds
 | .ref i=>items st i
 | _=>none
theorem Gs {ρ:List Addr} {H:Hp} {st:Store} {x:V} {a:D} {ds:List D} (l:Rl K ρ H st) (r:Rp K ρ H x a) (h:cX st a=some ds):∃ p vs,x=.ref p/\(iy K H p vs\/d8 K H p vs)/\cE K ρ H vs ds:=by
 cases r <;> first | (cases h;done) | skip
 ·next hi=>obtain ⟨vs,s,r⟩:=l.items hi h;exact ⟨_,vs,rfl,.inl s,r⟩
 ·next s r=>cases h;exact ⟨_,_,rfl,.inr s,r⟩
def rX (neg:Bool):D->D->Dm D:=fun a c st=>match sV a,(cX st c).bind (ck sV) with
 | some x,some vs=>some (.bl (if neg then !vW x vs else vW x vs),st)
 | _,_=>none
theorem Dd (neg:Bool):mJ K (Jb K neg) (rX neg):=by
 intro ρ H st x y a c b st' Q l rx ry e q
 unfold rX at e
 split at e
 ·next u vs h1 h2 =>
  cases e
  obtain ⟨ds,h3,h4⟩:=Y0.mp h2
  obtain ⟨p,ws,rfl,s,r⟩:=Gs l ry h3
  cases AU rx h1
  cases NZ r h4
  exact ⟨p,_,rfl,s,N0 h1,N1 h4,q _ H ρ .refl l (.bl _)⟩
 ·cases e
theorem cE.one' {ρ:List Addr} {H:Hp} {vs:List V} {d:D} (r:cE K ρ H vs [d]):∃ v,vs=[v]/\Rp K ρ H v d:=by cases r with | cons a b=>cases b;exact ⟨_,rfl,a⟩
theorem cE.two' {ρ:List Addr} {H:Hp} {vs:List V} {d e:D} (r:cE K ρ H vs [d,e]):∃ v w,vs=[v,w]/\Rp K ρ H v d/\Rp K ρ H w e:=by
 cases r with
 | cons a b=>obtain ⟨w,rfl,r⟩:=b.one';exact ⟨_,_,rfl,a,r⟩
def dg:List D->Dm D
 | [a],st=>match cX st a with
  | some ds=>some (.int ds.length,st)
  | none=>none
 | _,_=>none
theorem mL:qP K (fun xs H Q=>∃ p ys,xs=[.ref p]/\(iy K H p ys\/d8 K H p ys)/\Q (.int ys.length) H) dg:=by
 intro ρ H st xs as b st' Q l rx e q
 unfold dg at e
 split at e
 ·split at e
  ·next ds hd =>
   cases e
   obtain ⟨v,rfl,r⟩:=rx.one'
   obtain ⟨p,vs,rfl,s,r⟩:=Gs l r hd
   exact ⟨p,vs,rfl,s,q _ H ρ .refl l (by rw [r.length];exact .int _)⟩
  ·cases e
 ·cases e
def oN:List D->Dm D
 | [a],st=>match cX st a with
  | some ds=>some (.ref st.length,st ++ [.lst ds])
  | none=>none
 | _,_=>none
theorem Ko:qP K (fun xs H Q=>∃ p ys,xs=[.ref p]/\(iy K H p ys\/d8 K H p ys)/\∀ l,H l=none->Q (.ref l) (upd H l (.lst ys))) oN:=by
 intro ρ H st xs as b st' Q l rx e q
 unfold oN at e
 split at e
 ·split at e
  ·next ds hd =>
   cases e
   obtain ⟨v,rfl,r⟩:=rx.one'
   obtain ⟨p,vs,rfl,s,r⟩:=Gs l r hd
   exact ⟨p,vs,rfl,s,fun p hp=>q _ _ _ (Mn.new hp) (l.newL hp r) (.ref (newR l))⟩
  ·cases e
 ·cases e
def bG:List D->Dm D
 | [a],st=>match cX st a with
  | some ds=>some (.tup ds,st)
  | none=>none
 | _,_=>none
theorem oz:qP K (fun xs H Q=>∃ p ys,xs=[.ref p]/\((iy K H p ys/\∀ l,H l=none->Q (.ref l) (upd H l (.tup ys)))\/(d8 K H p ys/\Q (.ref p) H))) bG:=by
 intro ρ H st xs as b st' Q l rx e q
 unfold bG at e
 split at e
 ·split at e
  ·next ds hd =>
   cases e
   obtain ⟨v,rfl,r⟩:=rx.one'
   obtain ⟨p,vs,rfl,s,r'⟩:=Gs l r hd
   refine ⟨p,vs,rfl,?_⟩
   rcases s with s | s
   ·exact .inl ⟨s,(got l r' q).new⟩
   ·exact .inr ⟨s,(got l r' q).it s⟩
  ·cases e
 ·cases e
def qR:List D->Dm D
 | [.int i,.int j],st=>some (.int (if j > i then j else i),st)
 | _,_=>none
def qS:List D->Dm D
 | [.int i,.int j],st=>some (.int (if j < i then j else i),st)
 | _,_=>none
theorem SR:qP K (fun xs H Q=>∃ i j,xs=[.int i,.int j]/\Q (.int (if j > i then j else i)) H) qR:=by
 intro ρ H st xs as b st' Q l rx e q
 unfold qR at e
 split at e
 ·cases e
  obtain ⟨v,w,rfl,r1,r2⟩:=rx.two'
  cases r1;cases r2
  exact ⟨_,_,rfl,q _ H ρ .refl l (.int _)⟩
 ·cases e
theorem SS:qP K (fun xs H Q=>∃ i j,xs=[.int i,.int j]/\Q (.int (if j < i then j else i)) H) qS:=by
 intro ρ H st xs as b st' Q l rx e q
 unfold qS at e
 split at e
 ·cases e
  obtain ⟨v,w,rfl,r1,r2⟩:=rx.two'
  cases r1;cases r2
  exact ⟨_,_,rfl,q _ H ρ .refl l (.int _)⟩
 ·cases e
def nW:List D->Dm D
 | [.int i],st=>some (.int i,st)
 | [.bl k],st=>some (.int (if k then 1 else 0),st)
 | _,_=>none
theorem Kq:qP K (fun xs H Q=>(∃ i,xs=[.int i]/\Q (.int i) H)\/∃ k,xs=[.bl k]/\Q (.int (if k then 1 else 0)) H) nW:=by
 intro ρ H st xs as b st' Q l rx e q
 unfold nW at e
 split at e
 ·cases e
  obtain ⟨v,rfl,r⟩:=rx.one'
  cases r
  exact .inl ⟨_,rfl,q _ H ρ .refl l (.int _)⟩
 ·cases e
  obtain ⟨v,rfl,r⟩:=rx.one'
  cases r
  exact .inr ⟨_,rfl,q _ H ρ .refl l (.int _)⟩
 ·cases e
def iA:List D->Dm D
 | [.int j],st=>some (.ref st.length,st ++ [.jH 0 j])
 | _,_=>none
def eW:List D->Dm D
 | [.int i,.int j],st=>some (.ref st.length,st ++ [.jH i j])
 | _,_=>none
theorem Gu:qP K (fun xs H Q=>∃ j:Int,xs=[.int j]/\∀ p,H p=none->Q (.ref p) (upd H p (.jH 0 j))) iA:=by
 intro ρ H st xs as b st' Q l rx e q
 unfold iA at e
 split at e
 ·cases e
  obtain ⟨v,rfl,r⟩:=rx.one'
  cases r
  exact ⟨_,rfl,fun p hp=>q _ _ _ (Mn.new hp) (l.new hp (show wQ K _ _ p (.jH _ _) from rS)) (.ref (newR l))⟩
 ·cases e
theorem AY:qP K (fun xs H Q=>∃ i j:Int,xs=[.int i,.int j]/\∀ p,H p=none->Q (.ref p) (upd H p (.jH i j))) eW:=by
 intro ρ H st xs as b st' Q l rx e q
 unfold eW at e
 split at e
 ·cases e
  obtain ⟨v,w,rfl,r1,r2⟩:=rx.two'
  cases r1;cases r2
  exact ⟨_,_,rfl,fun p hp=>q _ _ _ (Mn.new hp) (l.new hp (show wQ K _ _ p (.jH _ _) from rS)) (.ref (newR l))⟩
 ·cases e
def aG (lo:Int) (n:Nat):List D:=(List.range n).map fun (k:Nat)=>D.int (lo + k)
theorem SU {ρ:List Addr} {H:Hp} (lo:Int) (n:Nat):cE K ρ H (fK lo n) (aG lo n):=by
 unfold fK aG
 induction (List.range n) with
 | nil=>exact .nil
 | cons a r ih=>exact .cons (.int _) ih
def rN (lo hi:Int):Bool:=decide (-4611686018427387904<=lo/\lo < 4611686018427387904/\-4611686018427387904<=hi/\hi < 4611686018427387904) && lim (hi - lo).toNat
theorem N2 {lo hi:Int} (h:rN lo hi=true):(-(2 ^ 62)<=lo/\lo < 2 ^ 62/\-(2 ^ 62)<=hi/\hi < 2 ^ 62)/\(hi - lo).toNat<=2 ^ 24:=by
 unfold rN at h
 rw [YA,decide_eq_true_eq] at h
 exact ⟨by omega,Yv (Nat.le_of_ble_eq_true h.2) (by decide)⟩
def jy (st:Store):D->Option (Int×Int)
 | .ref i=>match st[i]? with
  | some (.jH lo hi)=>some (lo,hi)
  | _=>none
 | _=>none
theorem yE {ρ:List Addr} {H:Hp} {st:Store} {x:V} {a:D} {lo hi:Int} (l:Rl K ρ H st) (r:Rp K ρ H x a) (h:jy st a=some (lo,hi)):∃ p,x=.ref p/\H p=some (.jH lo hi):=by
 cases r <;> first | (cases h;done) | skip
 ·next hi' =>
  simp only [jy] at h
  split at h
  ·next lo' SV hs=>cases h;exact ⟨_,rfl,l.obj _ _ _ hi' hs⟩
  ·cases h
def dF:List D->Dm D
 | [a],st=>match jy st a with
  | some (lo,hi)=>if rN lo hi=true then some (.ref st.length,st ++ [.lst (aG lo (hi - lo).toNat)]) else none
  | none=>none
 | _,_=>none
theorem uu:qP K (fun xs H Q=>∃ p lo hi,xs=[.ref p]/\H p=some (.jH lo hi)/\(-(2 ^ 62)<=lo/\lo < 2 ^ 62/\-(2 ^ 62)<=hi/\hi < 2 ^ 62)/\(hi - lo).toNat<=2 ^ 24 /\
  ∀ l,H l=none->Q (.ref l) (upd H l (.lst (fK lo (hi - lo).toNat)))) dF:=by
 intro ρ H st xs as b st' Q l rx e q
 unfold dF at e
 split at e
 ·split at e
  ·next lo hi hd =>
   split at e
   ·next ok =>
    cases e
    obtain ⟨v,rfl,r⟩:=rx.one'
    obtain ⟨p,rfl,s⟩:=yE l r hd
    exact ⟨p,lo,hi,rfl,s,(N2 ok).1,(N2 ok).2,fun p hp=>q _ _ _ (Mn.new hp) (l.newL hp (SU lo _)) (.ref (newR l))⟩
   ·cases e
  ·cases e
 ·cases e
def u9:List D->Dm D
 | [a],st=>match jy st a with
  | some (lo,hi)=>if rN lo hi=true then some (.tup (aG lo (hi - lo).toNat),st) else none
  | none=>none
 | _,_=>none
def iV:D->Option Int
 | .int i=>some i
 | _=>none
theorem Gv {ρ:List Addr} {H:Hp}:∀ {ws:List V} {ds:List D} {ns:List Int},cE K ρ H ws ds->ck iV ds=some ns->ws=ns.map V.int
 | _,_,_,.nil,h=>by cases h;rfl
 | _,_,_,.cons a b,h=>by
  obtain ⟨x,t,h1,h2,rfl⟩:=AV h
  rw [Gv b h2]
  cases a <;> first | (cases h1;rfl) | cases h1
def bV:D->Option Bool
 | .bl i=>some i
 | _=>none
def yF:List D->Dm D
 | [.ref i],st=>match (items st i).bind (ck bV) with
  | some bs=>some (.bl (bs.all id),st)
  | none=>none
 | _,_=>none
def uv (T:String) (st:Store):D->Bool
 | .str _=>T == "str"
 | .tup _=>T == "tuple"
 | .ref i=>T == "list" && (items st i).isSome
 | _=>false
theorem N3 {ρ:List Addr} {H:Hp} {st:Store} {x:V} {a:D} {T:String} (l:Rl K ρ H st) (r:Rp K ρ H x a) (h:uv T st a=true):FQ K T x H:=by
 cases r <;> first | (cases h;done) | skip
 ·exact eq_of_beq h
 ·next hi =>
  simp only [uv,YA] at h
  obtain ⟨ds,hd⟩:=Option.isSome_iff_exists.mp h.2
  obtain ⟨vs,s,_⟩:=l.items hi hd
  exact .inl ⟨eq_of_beq h.1,vs,s⟩
 ·next s r=>exact .inr (.inl ⟨eq_of_beq h,_,s⟩)
def kR (T:String) (g:D->List D->Dm D) (fo:aq->Dm D) (fa:aq->Dm (List D)):aq->Dm D:=fun δ st=>bnd (fo δ st) fun o st1=>if uv T st1 o=true then bnd (fa δ st1) fun as st2=>g o as st2 else none
theorem oE {T:String} {r:V->List V->Hp->VK->Prop} {g:D->List D->Dm D} {to:TE} {ta:TA} {fo:aq->Dm D} {fa:aq->Dm (List D)} (hr:wR K T r g) (ho:gg K to fo) (ha:rG K ta fa):gg K (Jd K T r to ta) (kR T g fo fa):=by
 intro ρ σ H δ st b st' Q l rs e q
 obtain ⟨o,st1,e1,e⟩:=dD e
 split at e
 ·next ht =>
  obtain ⟨as,st2,e2,e⟩:=dD e
  refine ho ρ σ H δ st o st1 _ l rs e1 fun x H1 ρ1 m1 l1 r1=>⟨N3 l1 r1 ht,ha ρ1 σ H1 δ st1 as st2 _ l1 (rs.mn m1) e2 fun xs H2 ρ2 m2 l2 r2=>?_⟩
  exact hr ρ2 H2 st2 x xs o as b st' Q l2 (r1.mn m2) r2 e fun v H3 ρ3 m3 l3 r3=>q v H3 ρ3 ((m1.trans m2).trans m3) l3 r3
 ·cases e
def bj:D->List D->Dm D
 | .ref i,[y],st=>match own st i with
  | some xs=>if lim xs.length=true then some (.non,st.set i (.lst (xs ++ [y]))) else none
  | none=>none
 | _,_,_=>none
theorem qk:wR K "list" qC bj:=by
 intro ρ H st x xs a as b st' Q l rx tw e q
 unfold bj at e
 split at e
 ·split at e
  ·next ys hy =>
   split at e
   ·next hl =>
    cases e
    obtain ⟨v,rfl,r⟩:=tw.one'
    cases rx with
    | ref hi =>
     obtain ⟨vs,e1,r1⟩:=l.obj _ _ _ hi (rW hy)
     obtain ⟨l2,m2⟩:=l.putL hi (rW hy) (r1.append (.one r))
     exact ⟨_,vs,v,rfl,rfl,e1,by rw [r1.length];exact Kg hl,q _ _ ρ m2 l2 .non⟩
   ·cases e
  ·cases e
 ·cases e
def o9:D->List D->Dm D
 | .ref i,[.ref j],st=>match own st i,own st j with
  | some xs,some ys=>if lim (xs.length + ys.length)=true then some (.non,st.set i (.lst (xs ++ ys))) else none
  | _,_=>none
 | _,_,_=>none
def mM:D->List D->Dm D
 | .ref i,[.int k],st=>match own st i with
  | some xs=>if decide (-9223372036854775808<=k/\k < 9223372036854775808)=true then match seqIndex? k xs.length with
    | some j=>match xs[j]? with
     | some y=>some (y,st.set i (.lst (xs.eraseIdx j)))
     | none=>none
    | none=>none
   else none
  | none=>none
 | _,_,_=>none
theorem SW:wR K "list" sF mM:=by
 intro ρ H st x xs a as b st' Q l rx tw e q
 unfold mM at e
 split at e
 ·split at e
  ·next ys hy =>
   split at e
   ·next hk =>
    split at e
    ·next j hj =>
     split at e
     ·next y hy' =>
      cases e
      obtain ⟨v,rfl,r⟩:=tw.one'
      cases r
      cases rx with
      | ref hi =>
       obtain ⟨vs,e1,r1⟩:=l.obj _ _ _ hi (rW hy)
       obtain ⟨w,hw,rw'⟩:=r1.got hy'
       obtain ⟨l2,m2⟩:=l.putL hi (rW hy) (r1.erase j)
       have hk:=of_decide_eq_true hk
       exact ⟨_,vs,_,j,w,rfl,rfl,e1,by omega,by omega,by rw [r1.length];exact hj,hw,q _ _ ρ m2 l2 (rw'.mn m2)⟩
     ·cases e
    ·cases e
   ·cases e
  ·cases e
 ·cases e
def iB:D->List D->Dm D
 | .tup ds,[.int v],st=>match ck iV ds with
  | some ns=>match ns.findIdx? (fun i=>decide (i=v)) with
   | some j=>some (.int (j:Int),st)
   | none=>none
  | none=>none
 | _,_,_=>none
theorem Kr:wR K "tuple" (qf K) iB:=by
 intro ρ H st x xs a as b st' Q l rx tw e q
 unfold iB at e
 split at e
 ·split at e
  ·next ns hn =>
   split at e
   ·next j hj =>
    cases e
    obtain ⟨v,rfl,r⟩:=tw.one'
    cases r
    cases rx with
    | tup s r =>
     cases Gv r hn
     obtain ⟨h1,h2,h3⟩:=List.findIdx?_eq_some_iff_getElem.mp hj
     refine ⟨_,ns,_,j,rfl,rfl,s,?_,fun i hi z=>?_,q _ H ρ .refl l (.int _)⟩
     ·rw [Yb h1];exact congrArg some (of_decide_eq_true h2)
     ·have:=h3 i hi
      obtain ⟨hl,ez⟩:=Ya.mp z
      rw [ez] at this
      simp at this
   ·cases e
  ·cases e
 ·cases e
def kh:D->List D->Dm D
 | .ref i,[.int v],st=>match (items st i).bind (ck iV) with
  | some ns=>if v∈ns/\ns.length<=1000/\∀ i∈ns,-1000000000000000000<=i/\i<=1000000000000000000 then some (.int (ns.idxOf v:Int),st) else none
  | none=>none
 | _,_,_=>none
def rO (st:Store):D->Option String
 | .non=>some "NoneType"
 | .bl _=>some "bool"
 | .int _=>some "int"
 | .str _=>some "str"
 | .tup _=>some "tuple"
 | .ref i=>match st[i]? with
  | some (.lst _)=>some "list"
  | some (.dct _)=>some "dict"
  | _=>none
 | .ty _=>none
def pd:List D->Dm D
 | [a,.ty c],st=>match rO st a with
  | some T=>if T=c then some (.bl true,st) else none
  | none=>none
 | _,_=>none
end
section
variable {K:Zfr}
theorem N4:mJ K B8 tu:=by
 intro ρ H st x y a c b st' Q l rx ry e q
 unfold tu at e
 split at e
 ·split at e
  ·next ds hd =>
   split at e
   ·next ok =>
    cases e
    rw [YA,decide_eq_true_eq] at ok
    cases ry
    cases rx with
    | ref hi =>
     obtain ⟨vs,e1,r1⟩:=l.obj _ _ _ hi (rW hd)
     exact ⟨_,_,vs,rfl,rfl,e1,by omega,by omega,by rw [r1.length];exact C3 ok.2,fun p hp=>q _ _ _ (Mn.new hp) (l.newL hp (r1.flat _)) (.ref (newR l))⟩
   ·cases e
  ·cases e
 ·cases e
theorem Rs.set {ρ:List Addr} {H:Hp} {σ:St} {δ:aq} {v:V} {d:D} {i:Nat} (h:Rs K ρ H σ δ) (r:Rp K ρ H v d):Rs K ρ H (σ.set i (some v)) (δ.set i (some d)):=by
 refine ⟨by rw [YX,YX];exact h.1,fun j e hj=>?_⟩
 by_cases hij:i=j
 ·subst hij
  have hl:i < δ.length:=by
   have:=(Ya.mp hj).1
   rwa [YX] at this
  rw [Yj hl] at hj
  cases hj
  exact ⟨v,by rw [Yj (by rw [h.1];exact hl)],r⟩
 ·rw [Yp hij] at hj
  obtain ⟨w,hw,rw'⟩:=h.2 j e hj
  exact ⟨w,by rw [Yp hij];exact hw,rw'⟩
def yG (K:Zfr) (g:TG) (f:D->aq->Dm aq):Prop :=
 ∀ (ρ:List Addr) (σ:St) (H:Hp) (δ:aq) (st:Store) (v:V) (d:D) (δ':aq) (st':Store) (Q:St->Hp->Prop),Rl K ρ H st->Rs K ρ H σ δ->Rp K ρ H v d->f d δ st=some (δ',st') ->
  (∀ σ' H' ρ',Mn K ρ H ρ' H'->Rl K ρ' H' st'->Rs K ρ' H' σ' δ'->Q σ' H')->g v σ H Q
def va (K:Zfr) (g:tZ) (f:List D->aq->Dm aq):Prop :=
 ∀ (ρ:List Addr) (σ:St) (H:Hp) (δ:aq) (st:Store) (v:List V) (d:List D) (δ':aq) (st':Store) (Q:St->Hp->Prop),Rl K ρ H st->Rs K ρ H σ δ->cE K ρ H v d->f d δ st=some (δ',st') ->
  (∀ σ' H' ρ',Mn K ρ H ρ' H'->Rl K ρ' H' st'->Rs K ρ' H' σ' δ'->Q σ' H')->g v σ H Q
def hName (i:Nat):D->aq->Dm aq:=fun d δ st=>some (δ.set i (some d),st)
theorem aS (i:Nat):yG K (pQ i) (hName i):=by
 intro ρ σ H δ st v d δ' st' Q l rs r e q
 cases e
 exact q _ H ρ .refl l (rs.set r)
def mN:List D->aq->Dm aq
 | [],δ,st=>some (δ,st)
 | _,_,_=>none
def cg (f:D->aq->Dm aq) (g:List D->aq->Dm aq):List D->aq->Dm aq
 | d :: ds,δ,st=>bnd (f d δ st) fun δ1 st1=>g ds δ1 st1
 | _,_,_=>none
theorem tD:va K BG mN:=by
 intro ρ σ H δ st v d δ' st' Q l rs r e q
 cases r with
 | nil=>cases e;exact ⟨rfl,q _ H ρ .refl l rs⟩
 | cons a b=>cases e
theorem m9 {t:TG} {u:tZ} {f:D->aq->Dm aq} {g:List D->aq->Dm aq} (hf:yG K t f) (hg:va K u g):va K (vK t u) (cg f g):=by
 intro ρ σ H δ st v d δ' st' Q l rs r e q
 cases r with
 | nil=>cases e
 | cons a b =>
  obtain ⟨δ1,st1,e1,e⟩:=dD e
  exact ⟨_,_,rfl,hf ρ σ H δ st _ _ δ1 st1 _ l rs a e1 fun σ1 H1 ρ1 m1 l1 r1=>hg ρ1 σ1 H1 δ1 st1 _ _ δ' st' Q l1 r1 (b.mn m1) e fun σ2 H2 ρ2 m2 l2 r2=>q σ2 H2 ρ2 (m1.trans m2) l2 r2⟩
def l6 (n:Nat) (f:List D->aq->Dm aq):D->aq->Dm aq
 | .tup ds,δ,st=>if ds.length=n then f ds δ st else none
 | _,_,_=>none
theorem tG {n:Nat} {t:tZ} {f:List D->aq->Dm aq} (hf:va K t f):yG K (BH K n t) (l6 n f):=by
 intro ρ σ H δ st v d δ' st' Q l rs r e q
 cases r <;> first | (cases e;done) | skip
 ·next s r =>
  simp only [l6] at e
  split at e
  ·next hl=>exact ⟨_,_,rfl,s,by rw [r.length];exact hl,hf ρ σ H δ st _ _ δ' st' Q l rs r e q⟩
  ·cases e
def hSub (fo fi:aq->Dm D):D->aq->Dm aq:=fun d δ st=>bnd (fo δ st) fun o st1=>bnd (fi δ st1) fun i st2=>match o,i with
 | .ref r,.int k=>match own st2 r with
  | some xs=>match m8 xs.length k with
   | some j=>some (δ,st2.set r (.lst (xs.set j d)))
   | none=>none
  | none=>none
 | _,_=>none
theorem AZ {to ti:TE} {fo fi:aq->Dm D} (ho:gg K to fo) (hi:gg K ti fi):yG K (L2.lS to ti vU) (hSub fo fi):=by
 intro ρ σ H δ st v d δ' st' Q l rs r e q
 obtain ⟨o,st1,e1,e⟩:=dD e
 obtain ⟨i,st2,e2,e⟩:=dD e
 refine ho ρ σ H δ st o st1 _ l rs e1 fun x H1 ρ1 m1 l1 r1=>hi ρ1 σ H1 δ st1 i st2 _ l1 (rs.mn m1) e2 fun y H2 ρ2 m2 l2 r2=>?_
 split at e
 ·split at e
  ·next xs hx =>
   split at e
   ·next j hj =>
    cases e
    cases r2
    cases r1 with
    | ref hr =>
     have hr2:=m2.r _ _ hr
     obtain ⟨vs,e3,r3⟩:=l2.obj _ _ _ hr2 (rW hx)
     obtain ⟨l3,m3⟩:=l2.putL hr2 (rW hx) (r3.set (r.mn (m1.trans m2)) j)
     exact ⟨_,vs,_,j,rfl,rfl,e3,by rw [r3.length];exact hj,q σ _ ρ2 ((m1.trans m2).trans m3) l3 (rs.mn ((m1.trans m2).trans m3))⟩
   ·cases e
  ·cases e
 ·cases e
def Go (K:Zfr) (ρ:List Addr) (H:Hp) (st':Store) (E:Ends):Fl->Prop
 | .nx δ=>∀ σ' H' ρ',Mn K ρ H ρ' H'->Rl K ρ' H' st'->Rs K ρ' H' σ' δ->E.nx σ' H'
 | .bk δ=>∀ σ' H' ρ',Mn K ρ H ρ' H'->Rl K ρ' H' st'->Rs K ρ' H' σ' δ->E.bk σ' H'
 | .ct δ=>∀ σ' H' ρ',Mn K ρ H ρ' H'->Rl K ρ' H' st'->Rs K ρ' H' σ' δ->E.ct σ' H'
 | .rt d=>∀ v H' ρ',Mn K ρ H ρ' H'->Rl K ρ' H' st'->Rp K ρ' H' v d->E.rt v H'
theorem Go.mn {ρ ρ1:List Addr} {H H1:Hp} {st':Store} {E:Ends} {fl:Fl} (g:Go K ρ H st' E fl) (m:Mn K ρ H ρ1 H1):Go K ρ1 H1 st' E fl:=by
 cases fl <;> exact fun v H' ρ' m' l r=>g v H' ρ' (m.trans m') l r
def pL (K:Zfr) (t:TS) (f:aq->Dm Fl):Prop :=
 ∀ (ρ:List Addr) (σ:St) (H:Hp) (δ:aq) (st:Store) (fl:Fl) (st':Store) (E:Ends),Rl K ρ H st->Rs K ρ H σ δ->f δ st=some (fl,st')->Go K ρ H st' E fl->t E σ H
def bx:aq->Dm Fl:=fun δ st=>some (.nx δ,st)
theorem lQ:pL K vI bx:=by
 intro ρ σ H δ st fl st' E l rs e g
 cases e
 exact g σ H ρ .refl l rs
def aE (f g:aq->Dm Fl):aq->Dm Fl:=fun δ st=>bnd (f δ st) fun fl st1=>match fl with
 | .nx δ1=>g δ1 st1
 | x=>some (x,st1)
theorem bg {t u:TS} {f g:aq->Dm Fl} (hf:pL K t f) (hg:pL K u g):pL K (BB t u) (aE f g):=by
 intro ρ σ H δ st fl st' E l rs e q
 obtain ⟨x,st1,e1,e⟩:=dD e
 refine hf ρ σ H δ st x st1 _ l rs e1 ?_
 cases x with
 | nx δ1=>exact fun σ1 H1 ρ1 m1 l1 r1=>hg ρ1 σ1 H1 δ1 st1 fl st' E l1 r1 e (q.mn m1)
 | bk δ1=>cases e;exact q
 | ct δ1=>cases e;exact q
 | rt d=>cases e;exact q
theorem kK {c:TT} {t u:TS} {fc:aq->Dm Bool} {f g:aq->Dm Fl} (hc:qO K c fc) (hf:pL K t f) (hg:pL K u g):pL K (BE c t u) (h8 fc f g):=by
 intro ρ σ H δ st fl st' E l rs e q
 obtain ⟨a,st1,e1,e⟩:=dD e
 refine hc ρ σ H δ st _ _ _ l rs e1 fun x H1 ρ1 m1 l1 r1=>?_
 subst r1
 cases x with
 | true =>
  refine rA ?_
  rw [if_pos rfl] at e
  exact hf ρ1 σ H1 δ st1 fl st' E l1 (rs.mn m1) e (q.mn m1)
 | false =>
  refine rq ?_
  rw [if_neg Yh] at e
  exact hg ρ1 σ H1 δ st1 fl st' E l1 (rs.mn m1) e (q.mn m1)
def cG (f:aq->Dm D):aq->Dm Fl:=fun δ st=>bnd (f δ st) fun _ st1=>some (.nx δ,st1)
theorem ql {t:TE} {f:aq->Dm D} (hf:gg K t f):pL K (vJ t) (cG f):=by
 intro ρ σ H δ st fl st' E l rs e q
 obtain ⟨a,st1,e1,e⟩:=dD e
 cases e
 exact hf ρ σ H δ st a _ _ l rs e1 fun x H1 ρ1 m1 l1 r1=>q σ H1 ρ1 m1 l1 (rs.mn m1)
def aW (f:aq->Dm D):aq->Dm Fl:=fun δ st=>bnd (f δ st) fun d st1=>some (.rt d,st1)
theorem dc {t:TE} {f:aq->Dm D} (hf:gg K t f):pL K (BD t) (aW f):=by
 intro ρ σ H δ st fl st' E l rs e q
 obtain ⟨a,st1,e1,e⟩:=dD e
 cases e
 exact hf ρ σ H δ st a _ _ l rs e1 fun x H1 ρ1 m1 l1 r1=>q x H1 ρ1 m1 l1 r1
def aH (f:aq->Dm D) (h:D->aq->Dm aq):aq->Dm Fl:=fun δ st=>bnd (f δ st) fun d st1=>bnd (h d δ st1) fun δ1 st2=>some (.nx δ1,st2)
theorem bJ {t:TE} {g:TG} {f:aq->Dm D} {h:D->aq->Dm aq} (hf:gg K t f) (hh:yG K g h):pL K (uF t g) (aH f h):=by
 intro ρ σ H δ st fl st' E l rs e q
 obtain ⟨a,st1,e1,e⟩:=dD e
 obtain ⟨δ1,st2,e2,e⟩:=dD e
 cases e
 exact hf ρ σ H δ st a st1 _ l rs e1 fun x H1 ρ1 m1 l1 r1=>hh ρ1 σ H1 δ st1 x a δ1 _ _ l1 (rs.mn m1) r1 e2 fun σ2 H2 ρ2 m2 l2 r2=>q σ2 H2 ρ2 (m1.trans m2) l2 r2
def tH (i j:Nat) (fa:aq->Dm (List D)):aq->Dm Fl:=fun δ st=>bnd (fa δ st) fun as st1=>match as with
 | [a,b]=>some (.nx ((δ.set i (some a)).set j (some b)),st1)
 | _=>none
theorem N5 {i j:Nat} {t:TA} {fa:aq->Dm (List D)} (ha:rG K t fa):pL K (BI i j t) (tH i j fa):=by
 intro ρ σ H δ st fl st' E l rs e q
 obtain ⟨as,st1,e1,e⟩:=dD e
 split at e
 ·cases e
  refine ha ρ σ H δ st _ _ _ l rs e1 fun x H1 ρ1 m1 l1 r1=>?_
  obtain ⟨v,w,rfl,r,r'⟩:=r1.two'
  exact ⟨v,w,rfl,q _ H1 ρ1 m1 l1 (((rs.mn m1).set r).set r')⟩
 ·cases e
def fO (c:aq->Dm Bool) (b:aq->Dm Fl):Nat->aq->Dm Fl
 | 0,_,_=>none
 | n + 1,δ,st=>bnd (c δ st) fun t st1=>if t=true then bnd (b δ st1) fun fl st2=>match fl with
   | .nx δ2=>fO c b n δ2 st2
   | .ct δ2=>fO c b n δ2 st2
   | .bk δ2=>some (.nx δ2,st2)
   | .rt d=>some (.rt d,st2)
  else some (.nx δ,st1)
def fuel:Nat:=1000000
def iC (c:aq->Dm Bool) (b:aq->Dm Fl):aq->Dm Fl:=fO c b fuel
theorem yH {tc:TT} {tb:TS} {c:aq->Dm Bool} {b:aq->Dm Fl} (hc:qO K tc c) (hb:pL K tb b):pL K (su tc tb) (iC c b):=by
 intro ρ σ H δ st fl st' E l rs e q
 refine ⟨fun m σ1 H1=>∃ ρ1 δ1 st1,Mn K ρ H ρ1 H1/\Rl K ρ1 H1 st1/\Rs K ρ1 H1 σ1 δ1/\fO c b m δ1 st1=some (fl,st'),⟨fuel,ρ,δ,st,.refl,l,rs,e⟩,?_⟩
 rintro m σ1 H1 ⟨ρ1,δ1,st1,m1,l1,wY,e1⟩
 cases m with
 | zero=>cases e1
 | succ m =>
  obtain ⟨t,st2,e2,e1⟩:=dD e1
  refine hc ρ1 σ1 H1 δ1 st1 _ _ _ l1 wY e2 fun x H2 ρ2 m2 l2 r2=>?_
  subst r2
  cases x with
  | true =>
   refine rA ?_
   rw [if_pos rfl] at e1
   obtain ⟨f2,st3,e3,e1⟩:=dD e1
   refine ⟨fun σ3 H3=>∃ m',m' < m + 1/\∃ ρ1 δ1 st1,Mn K ρ H ρ1 H3/\Rl K ρ1 H3 st1/\Rs K ρ1 H3 σ3 δ1/\fO c b m' δ1 st1=some (fl,st'),fun _ _ h=>h,hb ρ2 σ1 H2 δ1 st2 f2 st3 _ l2 (wY.mn m2) e3 ?_⟩
   cases f2 with
   | nx δ3=>exact fun σ3 H3 ρ3 m3 l3 r3=>⟨m,Y4 m,ρ3,δ3,st3,(m1.trans m2).trans m3,l3,r3,e1⟩
   | ct δ3=>exact fun σ3 H3 ρ3 m3 l3 r3=>⟨m,Y4 m,ρ3,δ3,st3,(m1.trans m2).trans m3,l3,r3,e1⟩
   | bk δ3=>cases e1;exact q.mn (m1.trans m2)
   | rt d=>cases e1;exact q.mn (m1.trans m2)
  | false =>
   refine rq ?_
   rw [if_neg Yh] at e1
   cases e1
   exact q.mn (m1.trans m2) σ1 H2 ρ2 .refl l2 (wY.mn m2)
inductive Src where
 | fix (ds:List D) | live (i:Nat) | SX (i:Nat) | zl (i:Nat) (es:List D) | zr (ds:List D) (i:Nat)
def Src.at:Src->Nat->Store->Option (Option D)
 | .fix ds,i,_=>if i<=ds.length then some ds[i]? else none
 | .live r,i,st=>(items st r).map fun ds=>ds[i]?
 | .SX r,i,st=>(items st r).bind fun ds=>if i<=ds.length then some (ds.mapIdx fun i d=>D.tup [.int (i:Int),d])[i]? else none
 | .zl r es,i,st=>(items st r).bind fun ds=>if i<=(List.zipWith (fun a b=>D.tup [a,b]) ds es).length then some (List.zipWith (fun a b=>D.tup [a,b]) ds es)[i]? else none
 | .zr ds r,i,st=>(items st r).bind fun es=>if i<=(List.zipWith (fun a b=>D.tup [a,b]) ds es).length then some (List.zipWith (fun a b=>D.tup [a,b]) ds es)[i]? else none
theorem wZ {ds:List D} {i:Nat} {st:Store} {o:Option D} (h:Src.at (.fix ds) i st=some o):i<=ds.length/\ds[i]?=o:=by
 simp only [Src.at] at h
 split at h
 ·next hl=>exact ⟨hl,Ym h⟩
 ·cases h
def De (K:Zfr) (ρ:List Addr) (H:Hp) (J:It) (S:Src):Prop :=
 ∀ (ρ2:List Addr) (H2:Hp) (st2:Store) (i:Nat),Mn K ρ H ρ2 H2->Rl K ρ2 H2 st2 ->
  (S.at i st2=some none->J.stop i H2)/\∀ d,S.at i st2=some (some d)->J.go i H2/\∀ x H3,J.uG i H2 x H3->Mn K ρ2 H2 ρ2 H3/\Rl K ρ2 H3 st2/\Rp K ρ2 H3 x d
abbrev w6 (K:Zfr) (t:TI) (f:aq->Dm Src):Prop:=So K (De K) t f
def gS (S:Src) (g:D->aq->Dm aq) (b:aq->Dm Fl):Nat->Nat->aq->Dm Fl
 | 0,_,_,_=>none
 | n + 1,i,δ,st=>match S.at i st with
  | none=>none
  | some none=>some (.nx δ,st)
  | some (some d)=>bnd (g d δ st) fun δ1 st1=>bnd (b δ1 st1) fun fl st2=>match fl with
   | .nx δ2=>gS S g b n (i + 1) δ2 st2
   | .ct δ2=>gS S g b n (i + 1) δ2 st2
   | .bk δ2=>some (.nx δ2,st2)
   | .rt d=>some (.rt d,st2)
def cM (fi:aq->Dm Src) (g:D->aq->Dm aq) (b:aq->Dm Fl):aq->Dm Fl:=fun δ st=>bnd (fi δ st) fun S st1=>gS S g b fuel 0 δ st1
theorem l8 {wi:TI} {tg:TG} {tb:TS} {fi:aq->Dm Src} {g:D->aq->Dm aq} {b:aq->Dm Fl} (hi:w6 K wi fi) (hg:yG K tg g) (hb:pL K tb b):pL K (BL wi tg tb) (cM fi g b):=by
 intro ρ σ H δ st fl st' E l rs e q
 obtain ⟨S,l9,e0,e⟩:=dD e
 refine hi ρ σ H δ st S l9 _ l rs e0 fun J H0 ρ0 m0 l0 ok=>?_
 refine ⟨fun i m σ1 H1=>∃ ρ1 δ1 st1,Mn K ρ0 H0 ρ1 H1/\Rl K ρ1 H1 st1/\Rs K ρ1 H1 σ1 δ1/\gS S g b m i δ1 st1=some (fl,st'),⟨fuel,ρ0,δ,l9,.refl,l0,rs.mn m0,e⟩,?_⟩
 rintro i m σ1 H1 ⟨ρ1,δ1,st1,m1,l1,wY,e1⟩
 cases m with
 | zero=>cases e1
 | succ m =>
  obtain ⟨hstop,hgo⟩:=ok ρ1 H1 st1 i m1 l1
  unfold gS at e1
  split at e1
  ·cases e1
  ·next hs=>cases e1;exact .inl ⟨hstop hs,q.mn (m0.trans m1) σ1 H1 ρ1 .refl l1 wY⟩
  ·next d hs =>
   obtain ⟨δ2,st2,e2,e1⟩:=dD e1
   obtain ⟨f3,st3,e3,e1⟩:=dD e1
   obtain ⟨go,uG⟩:=hgo d hs
   refine .inr ⟨go,fun σ3 H3=>∃ m',m' < m + 1/\∃ ρ1 δ1 st1,Mn K ρ0 H0 ρ1 H3/\Rl K ρ1 H3 st1/\Rs K ρ1 H3 σ3 δ1/\gS S g b m' (i + 1) δ1 st1=some (fl,st'),fun _ _ h=>h,fun x H2 hy=>?_⟩
   obtain ⟨m2,l2,r2⟩:=uG x H2 hy
   refine hg ρ1 σ1 H2 δ1 st1 x d δ2 st2 _ l2 (wY.mn m2) r2 e2 fun σ4 H4 ρ4 m4 l4 r4=>hb ρ4 σ4 H4 δ2 st2 f3 st3 _ l4 r4 e3 ?_
   have m5:=((m1.trans m2).trans m4)
   cases f3 with
   | nx δ3=>exact fun σ5 H5 ρ5 m6 l5 r5=>⟨m,Y4 m,ρ5,δ3,st3,m5.trans m6,l5,r5,e1⟩
   | ct δ3=>exact fun σ5 H5 ρ5 m6 l5 r5=>⟨m,Y4 m,ρ5,δ3,st3,m5.trans m6,l5,r5,e1⟩
   | bk δ3=>cases e1;exact q.mn (m0.trans m5)
   | rt d=>cases e1;exact q.mn (m0.trans m5)
def cN (fa:aq->Dm D):aq->Dm Src:=fun δ st=>bnd (fa δ st) fun a st1=>match a with
 | .tup ds=>some (.fix ds,st1)
 | _=>none
theorem pe {t:TE} {fa:aq->Dm D} (ha:gg K t fa):w6 K (BK K t) (cN fa):=by
 intro ρ σ H δ st S st' Q l rs e q
 obtain ⟨a,st1,e1,e⟩:=dD e
 cases a <;> simp at e
 obtain ⟨rfl,rfl⟩:=e
 refine ha ρ σ H δ st _ _ _ l rs e1 fun x H1 ρ1 m1 l1 r1=>?_
 cases r1 with
 | tup s r =>
  refine ⟨_,rfl,⟨_,s⟩,q _ H1 ρ1 m1 l1 fun ρ2 H2 st2 i m2 l2=>⟨fun h=>?_,fun d h=>?_⟩⟩
  ·exact ⟨_,m2.t _ _ s,by rw [r.length];exact YO.mp (wZ h).2⟩
  ·obtain ⟨v,hv,rv⟩:=r.got (wZ h).2
   refine ⟨⟨_,v,m2.t _ _ s,hv⟩,fun x H3 y=>?_⟩
   obtain ⟨rfl,hx⟩:=y
   have:=hx _ (m2.t _ _ s)
   rw [hv] at this
   cases this
   exact ⟨.refl,l2,rv.mn m2⟩
def kY (fa:aq->Dm D):aq->Dm Src:=fun δ st=>bnd (fa δ st) fun a st1=>match a with
 | .ref i=>match items st1 i with
  | some _=>some (.live i,st1)
  | none=>none
 | _=>none
theorem Gw {t:TE} {fa:aq->Dm D} (ha:gg K t fa):w6 K (sv K t) (kY fa):=by
 intro ρ σ H δ st S st' Q l rs e q
 obtain ⟨a,st1,e1,e⟩:=dD e
 split at e
 ·next k =>
  split at e
  ·next ds hd =>
   cases e
   refine ha ρ σ H δ st _ _ _ l rs e1 fun x H1 ρ1 m1 l1 r1=>?_
   cases r1 with
   | ref hi =>
    obtain ⟨vs,s,r⟩:=l1.items hi hd
    refine ⟨_,rfl,⟨_,s⟩,q _ H1 ρ1 m1 l1 fun ρ2 H2 st2 i m2 l2=>⟨fun h=>?_,fun d h=>?_⟩⟩
    ·obtain ⟨SY,hd2,h⟩:=YD.mp h
     obtain ⟨N6,s2,r2⟩:=l2.items (m2.r _ _ hi) hd2
     exact ⟨N6,s2,by rw [r2.length];exact YO.mp h⟩
    ·obtain ⟨SY,hd2,h⟩:=YD.mp h
     obtain ⟨N6,s2,r2⟩:=l2.items (m2.r _ _ hi) hd2
     obtain ⟨v,hv,rv⟩:=r2.got h
     refine ⟨⟨_,v,s2,hv⟩,fun x H3 y=>?_⟩
     obtain ⟨rfl,hx⟩:=y
     have:=hx _ s2
     rw [hv] at this
     cases this
     exact ⟨.refl,l2,rv⟩
  ·cases e
 ·cases e
def bY (fa:aq->Dm (List D)):aq->Dm Src:=fun δ st=>bnd (fa δ st) fun as st1=>match as with
 | [.int j]=>if decide (-4611686018427387904<=j/\j < 4611686018427387904)=true then some (.fix (aG 0 j.toNat),st1) else none
 | _=>none
def ph (fa:aq->Dm (List D)):aq->Dm Src:=fun δ st=>bnd (fa δ st) fun as st1=>match as with
 | [.int i,.int j]=>if decide ((-4611686018427387904<=i/\i < 4611686018427387904)/\-4611686018427387904<=j/\j < 4611686018427387904)=true then some (.fix (aG i (j - i).toNat),st1) else none
 | _=>none
theorem gh (lo:Int) (n:Nat):(aG lo n).length=n:=by simp [aG]
theorem A0 {lo:Int} {n k:Nat} (h:k < n):(aG lo n)[k]?=some (.int (lo + k)):=by simp [aG,h]
theorem N7 {ρ:List Addr} {H:Hp} (lo:Int) (n:Nat):De K ρ H (BJ lo n) (.fix (aG lo n)):=by
 intro ρ2 H2 st2 i m2 l2
 refine ⟨fun h=>?_,fun d h=>?_⟩
 ·have:=YO.mp (wZ h).2
  rw [gh] at this
  exact this
 ·have h:=(wZ h).2
  have hl:=(Ya.mp h).1
  rw [gh] at hl
  rw [A0 hl] at h
  cases h
  refine ⟨hl,fun x H3 y=>?_⟩
  obtain ⟨rfl,rfl⟩:=y
  exact ⟨.refl,l2,.int _⟩
theorem pV {t:TA} {fa:aq->Dm (List D)} (ha:rG K t fa):w6 K (vL t) (bY fa):=by
 intro ρ σ H δ st S st' Q l rs e q
 obtain ⟨as,st1,e1,e⟩:=dD e
 split at e
 ·split at e
  ·next ok =>
   cases e
   have ok:=of_decide_eq_true ok
   refine ha ρ σ H δ st _ _ _ l rs e1 fun x H1 ρ1 m1 l1 r1=>?_
   obtain ⟨v,rfl,r⟩:=r1.one'
   cases r
   exact ⟨_,rfl,by omega,by omega,q _ H1 ρ1 m1 l1 (N7 0 _)⟩
  ·cases e
 ·cases e
theorem S0 {t:TA} {fa:aq->Dm (List D)} (ha:rG K t fa):w6 K (vN t) (ph fa):=by
 intro ρ σ H δ st S st' Q l rs e q
 obtain ⟨as,st1,e1,e⟩:=dD e
 split at e
 ·split at e
  ·next ok =>
   cases e
   have ok:=of_decide_eq_true ok
   refine ha ρ σ H δ st _ _ _ l rs e1 fun x H1 ρ1 m1 l1 r1=>?_
   obtain ⟨v,w,rfl,r,r'⟩:=r1.two'
   cases r
   cases r'
   exact ⟨_,_,rfl,by omega,q _ H1 ρ1 m1 l1 (N7 _ _)⟩
  ·cases e
 ·cases e
def nc (ds:List D):List D:=ds.mapIdx fun i d=>.tup [.int (i:Int),d]
theorem Df (ds:List D):(nc ds).length=ds.length:=by simp [nc]
theorem Ks {ds:List D} {i:Nat} {x:D} (h:(nc ds)[i]?=some x):∃ d,ds[i]?=some d/\x=.tup [.int (i:Int),d]:=by
 unfold nc at h
 rw [List.getElem?_mapIdx] at h
 obtain ⟨d,h1,h2⟩:=YD.mp h
 exact ⟨d,h1,h2.symm⟩
def nX (fa:aq->Dm (List D)):aq->Dm Src:=fun δ st=>bnd (fa δ st) fun as st1=>match as with
 | [.tup ds]=>some (.fix (nc ds),st1)
 | _=>none
theorem N8 {t:TA} {fa:aq->Dm (List D)} (ha:rG K t fa):w6 K (wm K t) (nX fa):=by
 intro ρ σ H δ st S st' Q l rs e q
 obtain ⟨as,st1,e1,e⟩:=dD e
 split at e
 ·cases e
  refine ha ρ σ H δ st _ _ _ l rs e1 fun x H1 ρ1 m1 l1 r1=>?_
  obtain ⟨v,rfl,r⟩:=r1.one'
  cases r with
  | tup s r =>
   refine ⟨_,rfl,⟨_,s⟩,q _ H1 ρ1 m1 l1 fun ρ2 H2 st2 i m2 l2=>⟨fun h=>?_,fun d h=>?_⟩⟩
   ·obtain ⟨h1,h2⟩:=wZ h
    have h2:=YO.mp h2
    rw [Df] at h1 h2
    exact ⟨_,m2.t _ _ s,by rw [r.length];omega⟩
   ·obtain ⟨h1,h2⟩:=wZ h
    obtain ⟨d',hd',rfl⟩:=Ks h2
    obtain ⟨v,hv,rv⟩:=r.got hd'
    refine ⟨⟨_,v,m2.t _ _ s,hv⟩,fun x H3 y=>?_⟩
    obtain ⟨p,z,rfl,hp,rfl,hx⟩:=y
    have:=hx _ (m2.t _ _ s)
    rw [hv] at this
    cases this
    have m3:Mn K ρ2 H2 ρ2 (upd H2 p (.tup [.int (i:Int),v])):=Mn.same (jA.up hp)
    exact ⟨m3,l2.same (jA.up hp),.tup (d8.of rS) (.cons (.int _) (.one ((rv.mn m2).mn m3)))⟩
 ·cases e
def iD (S:Src) (g:D->aq->Dm aq) (tc:aq->Dm Bool) (te:aq->Dm D):Nat->Nat->List D->aq->Dm (List D)
 | 0,_,_,_,_=>none
 | n + 1,i,ys,δ,st=>if lim ys.length=true then match S.at i st with
  | none=>none
  | some none=>some (ys,st)
  | some (some d)=>bnd (g d δ st) fun δ1 st1=>bnd (tc δ1 st1) fun t st2=>if t=true then bnd (te δ1 st2) fun y st3=>iD S g tc te n (i + 1) (ys ++ [y]) δ1 st3 else iD S g tc te n (i + 1) ys δ1 st2
  else none
def pW (n:Nat) (js:List Nat) (δ:aq):aq:=List.replicate n none ++ js.map fun j=>δ.getD j none
def cO (fi:aq->Dm Src) (n:Nat) (js:List Nat) (g:D->aq->Dm aq) (tc:aq->Dm Bool) (te:aq->Dm D):aq->Dm D:=fun δ st=>bnd (fi δ st) fun S st1=>bnd (iD S g tc te fuel 0 [] (pW n js δ) st1) fun ys st2=>some (.ref st2.length,st2 ++ [.lst ys])
theorem Rs.comp {ρ:List Addr} {H:Hp} {σ:St} {δ:aq} (h:Rs K ρ H σ δ) (n:Nat) (js:List Nat):Rs K ρ H (jK n js σ) (pW n js δ):=by
 unfold jK pW
 refine ⟨by simp,fun i d hd=>?_⟩
 by_cases hi:i < n
 ·rw [Yk (by simpa using hi),List.getElem?_replicate,if_pos hi] at hd
  cases hd
 ·rw [Yw (by simpa using Nat.le_of_not_lt hi),Yi] at hd
  rw [Yw (by simpa using Nat.le_of_not_lt hi),Yi]
  simp only [List.length_replicate] at hd ⊢
  cases hj:js[i - n]? with
  | none=>rw [hj] at hd;cases hd
  | some j =>
   rw [hj] at hd
   have hd:δ.getD j none=some d:=Ym hd
   rw [Yn] at hd
   have hd':δ[j]?=some (some d):=by
    cases hx:δ[j]? with
    | none=>rw [hx] at hd;cases hd
    | some y=>rw [hx] at hd;exact congrArg some hd
   obtain ⟨v,hv,r⟩:=h.2 j d hd'
   exact ⟨v,by show some (σ.getD j none)=_;rw [Yn,hv];rfl,r⟩
theorem p7 {wi:TI} {tg:TG} {tc:TT} {te:TE} {fi:aq->Dm Src} {n:Nat} {js:List Nat} {g:D->aq->Dm aq} {c:aq->Dm Bool} {f:aq->Dm D} (hi:w6 K wi fi) (hg:yG K tg g) (hc:qO K tc c) (hf:gg K te f):gg K (sN wi n js tg tc te) (cO fi n js g c f):=by
 intro ρ σ H δ st b st' Q l rs e q
 obtain ⟨S,l9,e0,e⟩:=dD e
 obtain ⟨zs,pM,e9,e⟩:=dD e
 cases e
 refine hi ρ σ H δ st S l9 _ l rs e0 fun J H0 ρ0 m0 l0 ok=>?_
 refine ⟨fun i m ys σ1 H1=>∃ ρ1 δ1 st1 ws,Mn K ρ0 H0 ρ1 H1/\Rl K ρ1 H1 st1/\Rs K ρ1 H1 σ1 δ1/\cE K ρ1 H1 ys ws/\iD S g c f m i ws δ1 st1=some (zs,pM),⟨fuel,ρ0,_,l9,[],.refl,l0,(rs.mn m0).comp n js,.nil,e9⟩,?_⟩
 rintro i m ys σ1 H1 ⟨ρ1,δ1,st1,ws,m1,l1,wY,Gx,e1⟩
 cases m with
 | zero=>cases e1
 | succ m =>
  obtain ⟨hstop,hgo⟩:=ok ρ1 H1 st1 i m1 l1
  unfold iD at e1
  split at e1
  ·next hl =>
   refine ⟨by rw [Gx.length];exact Kg hl,?_⟩
   split at e1
   ·cases e1
   ·next hs =>
    cases e1
    exact .inl ⟨hstop hs,fun p hp=>q _ _ _ ((m0.trans m1).trans (Mn.new hp)) (l1.newL hp Gx) (.ref (newR l1))⟩
   ·next d hs =>
    obtain ⟨δ2,st2,e2,e1⟩:=dD e1
    obtain ⟨t,st3,e3,e1⟩:=dD e1
    obtain ⟨go,uG⟩:=hgo d hs
    refine .inr ⟨go,fun x H2 hy=>?_⟩
    obtain ⟨m2,l2,r2⟩:=uG x H2 hy
    refine hg ρ1 σ1 H2 δ1 st1 x d δ2 st2 _ l2 (wY.mn m2) r2 e2 fun σ4 H4 ρ4 m4 l4 r4=>hc ρ4 σ4 H4 δ2 st2 t st3 _ l4 r4 e3 fun t' H5 ρ5 m5 l5 r5=>?_
    subst r5
    have m6:=(((m1.trans m2).trans m4).trans m5)
    cases t' with
    | true =>
     refine rA ?_
     rw [if_pos rfl] at e1
     obtain ⟨y,Kt,e6,e1⟩:=dD e1
     exact hf ρ5 σ4 H5 δ2 st3 y Kt _ l5 (r4.mn m5) e6 fun v H7 ρ7 m7 l7 r7=>⟨m,Y4 m,ρ7,δ2,Kt,ws ++ [y],m6.trans m7,l7,r4.mn (m5.trans m7),(Gx.mn (((m2.trans m4).trans m5).trans m7)).append (.one r7),e1⟩
    | false =>
     refine rq ?_
     rw [if_neg Yh] at e1
     exact ⟨m,Y4 m,ρ5,δ2,st3,ws,m6,l5,r4.mn m5,Gx.mn ((m2.trans m4).trans m5),e1⟩
  ·cases e1
def di:aq->Dm Bool:=fun _ st=>some (true,st)
def dG (n:Nat) (b:aq->Dm Fl):List D->Dm D:=fun ds st=>bnd (b (ds.map some ++ List.replicate (n - ds.length) none) st) fun fl st1=>match fl with
 | .rt d=>some (d,st1)
 | .nx _=>some (.non,st1)
 | _=>none
theorem Rs.start {ρ:List Addr} {H:Hp} {vs:List V} {ds:List D} (r:cE K ρ H vs ds) (N:List Str):Rs K ρ H (start N vs) (ds.map some ++ List.replicate (N.length - ds.length) none):=by
 unfold L2.start
 rw [r.length]
 refine ⟨by simp [r.length],fun i d hd=>?_⟩
 by_cases hi:i < ds.length
 ·rw [Yk (by simpa using hi),Yi] at hd
  rw [Yk (by rw [X9,r.length];exact hi),Yi]
  cases hx:ds[i]? with
  | none=>rw [hx] at hd;cases hd
  | some y =>
   rw [hx] at hd
   cases hd
   obtain ⟨v,hv,rv⟩:=r.got hx
   exact ⟨v,by rw [hv];rfl,rv⟩
 ·rw [Yw (by simpa using Nat.le_of_not_lt hi),List.getElem?_replicate] at hd
  split at hd <;> cases hd
theorem eE {N:List Str} {k n:Nat} {t:TS} {b:aq->Dm Fl} {vs:List V} {H:Hp} {Q:VK} {E:XK} (hb:pL K t b) (hn:N.length=n) (h:a8 K k (dG n b) vs H Q E):t { nx:=fun _ H'=>Q .non H',rt:=Q } (start N vs) H:=by
 obtain ⟨hk,ρ,st,ds,d,st',l,r,e,q⟩:=h
 subst hn
 obtain ⟨fl,st1,e1,e⟩:=dD e
 refine hb ρ _ H _ st fl st1 _ l (Rs.start r N) e1 ?_
 cases fl with
 | rt v=>cases e;exact q
 | nx δ=>cases e;exact fun σ' H' ρ' m l' r'=>q .non H' ρ' m l' .non
 | bk δ=>cases e
 | ct δ=>cases e
end
section
variable {X:Cx} {K:Zfr}
theorem N9 {N:List Str} {tI:Scope} {cells:List (Str×Addr)} {C:Addr} {fp:List Addr} {s:Shared} {H:Hp} {tJ:Scope} {own fr:List Str} (h:sM (sL tI X.env.scope) tJ own fr):sM (aT X N tI cells C fp s H).env.scope tJ own fr:=h
theorem rP:qO K (fun _ H Q=>Q true H) di:=by
 intro ρ σ H δ st b st' Q l rs e q
 cases e
 exact q _ H ρ .refl l rfl
end
def xa (K:Zfr):Sp:=fun vs H Q _=>∃ (a:Addr) (ns:List Int),vs=[.ref a]/\Cf K H a (ns.map V.int)/\ns.length<=63/\∀ H',Q (.bl true) H'
theorem yI {P:Program} {w:World} {K:Zfr} {mg:Str->Option Value} {base:Heap} {k:Nat} {f:Addr} {fd:FuncData} {ps:List Str} {F:List D->Dm D} (G:aC P w K mg base aX k f fd ps (a8 K 1 F))
  (h:∀ ns:List Int,ns.length<=63->∃ st',F [.ref 0] [.qj (ns.map D.int)]=some (.bl true,st')):aC P w K mg base aX k f fd ps (xa K):=by
 refine G.imp fun vs H Q E hs=>?_
 obtain ⟨a,ns,rfl,hS,hn,q⟩:=hs
 obtain ⟨st',e⟩:=h ns hn
 have one:∀ i (b:Addr),([a]:List Addr)[i]?=some b->i=0/\b=a:=fun i b h=>by
  cases i with
  | zero=>exact ⟨rfl,(Ym h).symm⟩
  | succ i=>simp at h
 refine ⟨rfl,[a],[.qj (ns.map D.int)],[.ref 0],.bl true,st',⟨rfl,fun i j b o o' h1 h2 _ _ _ _=>by rw [(one i b h1).1,(one j b h2).1],fun i b o h1 h2=>?_⟩,.one (.ref rfl),e,fun v H' ρ' m l r=>by cases r;exact q H'⟩
 obtain ⟨rfl,rfl⟩:=one i b h1
 cases (Ym h2)
 exact ⟨ns.map V.int,hS,cE.ints ns⟩
def Wp {α:Type} (m:Option (α×Store)) (Q:α->Store->Prop):Prop:=∃ a st,m=some (a,st)/\Q a st
section
variable {α β:Type} {Q Q':α->Store->Prop} {st:Store} {δ:aq}
theorem aV {m:Option (α×Store)} (h:Wp m Q) (hq:∀ a st,Q a st->Q' a st):Wp m Q':=let ⟨a,st,e,q⟩:=h;⟨a,st,e,hq a st q⟩
theorem bu {a:α}:Wp (some (a,st)) Q↔Q a st:=⟨fun ⟨_,_,e,q⟩=>by cases e;exact q,fun q=>⟨a,st,rfl,q⟩⟩
theorem fP:Wp (none:Option (α×Store)) Q↔False:=⟨fun ⟨_,_,e,_⟩=>(by cases e),False.elim⟩
theorem dh {R:β->Store->Prop} {m:Option (α×Store)} {k:α->Dm β}:Wp (bnd m k) R↔Wp m fun a st1=>Wp (k a st1) R:=by
 cases m with
 | none=>exact ⟨fun ⟨_,_,e,_⟩=>(by cases e),fun ⟨_,_,e,_⟩=>(by cases e)⟩
 | some p=>exact ⟨fun h=>⟨p.1,p.2,rfl,h⟩,fun ⟨a,s,e,h⟩=>by cases e;exact h⟩
theorem oO {c:Prop} [Decidable c] {m n:Option (α×Store)}:Wp (if c then m else n) Q↔if c then Wp m Q else Wp n Q:=by split <;> exact Iff.rfl
end
section
variable {st:Store} {δ:aq} {Q:D->Store->Prop}
theorem yJ {i:Nat}:Wp (ag i δ st) Q↔∃ d,δ[i]?=some (some d)/\Q d st:=by
 unfold ag
 split
 ·next d hd=>rw [bu];exact ⟨fun h=>⟨d,hd,h⟩,fun ⟨e,he,h⟩=>by rw [hd] at he;cases he;exact h⟩
 ·next h=>rw [fP];exact ⟨False.elim,fun ⟨e,he,_⟩=>h e he⟩
theorem Ku {d:D}:Wp (fC d δ st) Q↔Q d st:=bu
theorem Dg {g:D->D->Dm D} {fa fb:aq->Dm D}:Wp (av g fa fb δ st) Q↔Wp (fa δ st) fun a st1=>Wp (fb δ st1) fun b st2=>Wp (g a b st2) Q:=by
 unfold av;rw [dh];simp only [dh]
theorem Dh {g:D->Dm D} {fa:aq->Dm D}:Wp (rJ g fa δ st) Q↔Wp (fa δ st) fun a st1=>Wp (g a st1) Q:=dh
theorem Di {g:List D->Dm D} {fa:aq->Dm (List D)}:Wp (aP g fa δ st) Q↔Wp (fa δ st) fun a st1=>Wp (g a st1) Q:=dh
theorem yK {R:List D->Store->Prop}:Wp (ah δ st) R↔R [] st:=bu
theorem S1 {R:List D->Store->Prop} {fa:aq->Dm D} {fr:aq->Dm (List D)}:Wp (ae fa fr δ st) R↔Wp (fa δ st) fun a st1=>Wp (fr δ st1) fun r st2=>R (a :: r) st2:=by
 unfold ae;rw [dh];simp only [dh,bu]
theorem yL {fa:aq->Dm (List D)}:Wp (bq fa δ st) Q↔Wp (fa δ st) fun as st1=>lim as.length=true/\Q (.tup as) st1:=by
 unfold bq;rw [dh];simp only [oO,bu,fP]
 constructor <;> exact fun h=>aV h fun a s h=>by first | (split at h;exact ⟨by assumption,h⟩;exact h.elim) | (rw [if_pos h.1];exact h.2)
theorem yM {fa:aq->Dm (List D)}:Wp (cL fa δ st) Q↔Wp (fa δ st) fun as st1=>lim as.length=true/\Q (.ref st1.length) (st1 ++ [.lst as]):=by
 unfold cL;rw [dh];simp only [oO,bu,fP]
 constructor <;> exact fun h=>aV h fun a s h=>by first | (split at h;exact ⟨by assumption,h⟩;exact h.elim) | (rw [if_pos h.1];exact h.2)
theorem S2 {R:Bool->Store->Prop} {fa:aq->Dm D}:Wp (aN fa δ st) R↔Wp (fa δ st) fun a st1=>∃ b,a=.bl b/\R b st1:=by
 unfold aN;rw [dh]
 constructor <;> refine fun h=>aV h fun a s h=>?_
 ·cases a <;> simp only [bu,fP] at h
  exact ⟨_,rfl,h⟩
 ·obtain ⟨b,rfl,h⟩:=h
  exact bu.mpr h
theorem yN {R:Bool->Store->Prop} {fa:aq->Dm Bool}:Wp (rK fa δ st) R↔Wp (fa δ st) fun a st1=>R (!a) st1:=by
 unfold rK;rw [dh];simp only [bu]
theorem yO {R:Bool->Store->Prop} {fa fb:aq->Dm Bool}:Wp (rL fa fb δ st) R↔Wp (fa δ st) fun a st1=>if a=true then Wp (fb δ st1) R else R false st1:=by
 unfold rL;rw [dh];simp only [oO,bu]
theorem Dj {R:Bool->Store->Prop} {fa fb:aq->Dm Bool}:Wp (C4 fa fb δ st) R↔Wp (fa δ st) fun a st1=>if a=true then R true st1 else Wp (fb δ st1) R:=by
 unfold C4;rw [dh];simp only [oO,bu]
theorem xb {α:Type} {R:α->Store->Prop} {c:aq->Dm Bool} {fa fb:aq->Dm α}:Wp (h8 c fa fb δ st) R↔Wp (c δ st) fun a st1=>if a=true then Wp (fa δ st1) R else Wp (fb δ st1) R:=by
 unfold h8;rw [dh];simp only [oO]
theorem S3 {fa fb:aq->Dm D}:Wp (qQ fa fb δ st) Q↔Wp (aN fa δ st) fun a st1=>if a=true then Wp (fb δ st1) Q else Q (.bl false) st1:=by
 unfold qQ;rw [dh];simp only [oO,bu]
theorem yP {fa fb:aq->Dm D}:Wp (C6 fa fb δ st) Q↔Wp (aN fa δ st) fun a st1=>if a=true then Q (.bl true) st1 else Wp (fb δ st1) Q:=by
 unfold C6;rw [dh];simp only [oO,bu]
theorem S4 {fa:aq->Dm D}:Wp (wU fa δ st) Q↔Wp (aN fa δ st) fun a st1=>Q (.bl (!a)) st1:=by
 unfold wU;rw [dh];simp only [bu]
theorem S5 {R:Option Int->Store->Prop}:Wp (lY δ st) R↔R none st:=bu
theorem S6 {R:Option Int->Store->Prop} {fa:aq->Dm D}:Wp (oM fa δ st) R↔Wp (fa δ st) fun a st1=>∃ i,a=.int i/\R (some i) st1:=by
 unfold oM;rw [dh]
 constructor <;> refine fun h=>aV h fun a s h=>?_
 ·cases a <;> simp only [bu,fP] at h
  exact ⟨_,rfl,h⟩
 ·obtain ⟨b,rfl,h⟩:=h
  exact bu.mpr h
theorem Dk {g:D->Option Int->Option Int->Dm D} {fa:aq->Dm D} {fl fh:aq->Dm (Option Int)}:Wp (AL g fa fl fh δ st) Q↔Wp (fa δ st) fun a st1=>Wp (fl δ st1) fun lo st2=>Wp (fh δ st2) fun hi st3=>Wp (g a lo hi st3) Q:=by
 unfold AL;rw [dh];simp only [dh]
theorem Dl {T:String} {g:D->List D->Dm D} {fo:aq->Dm D} {fa:aq->Dm (List D)}:Wp (kR T g fo fa δ st) Q↔Wp (fo δ st) fun o st1=>uv T st1 o=true/\Wp (fa δ st1) fun as st2=>Wp (g o as st2) Q:=by
 unfold kR;rw [dh];simp only [oO,dh,fP]
 constructor <;> exact fun h=>aV h fun a s h=>by first | (split at h;exact ⟨by assumption,h⟩;exact h.elim) | (rw [if_pos h.1];exact h.2)
variable {i j:Int} {ds es:List D} {k:Nat}
theorem yQ:Wp (cZ (.int i) (.int j) st) Q↔Q (.int (i + j)) st:=bu
theorem yR:Wp (lS (.int i) (.int j) st) Q↔Q (.int (i - j)) st:=bu
theorem Dn:Wp (yA (.int i) (.int j) st) Q↔Q (.bl (decide (i < j))) st:=bu
theorem Dp:Wp (Km (.int i) (.int j) st) Q↔Q (.bl (decide (i<=j))) st:=bu
theorem Dq:Wp (AR (.int i) (.int j) st) Q↔Q (.bl (decide (j < i))) st:=bu
theorem Dr:Wp (Kn (.int i) (.int j) st) Q↔Q (.bl (decide (j<=i))) st:=bu
theorem yS:Wp (lZ (.int i) st) Q↔Q (.int (-i)) st:=bu
theorem A1 {c:Int->Int->Bool} {h:Int->Int->D}:Wp (u5 c h (.int i) (.int j) st) Q↔c i j=true/\Q (h i j) st:=by
 show Wp (if c i j=true then some (h i j,st) else none) Q↔_
 rw [oO,bu,fP]
 split
 ·next h=>exact ⟨fun q=>⟨h,q⟩,fun q=>q.2⟩
 ·next h=>exact ⟨False.elim,fun q=>h q.1⟩
theorem yT:Wp (mK (.int i) (.int j) st) Q↔((-18446744073709551616 < i/\i < 18446744073709551616)\/(-18446744073709551616 < j/\j < 18446744073709551616))/\Q (.int (i * j)) st:=by
 unfold mK;rw [A1,Bool.or_eq_true,decide_eq_true_eq,decide_eq_true_eq]
theorem S7:Wp (nU (.int i) (.int j) st) Q↔(0 < j/\j < 1073741824)/\Q (.int (i / j)) st:=by unfold nU;rw [A1,decide_eq_true_eq]
theorem yU:Wp (jN (.int i) (.int j) st) Q↔0 < j/\Q (.int (i % j)) st:=by unfold jN;rw [A1,decide_eq_true_eq]
theorem yV:Wp (tf (.int i) (.int j) st) Q↔(0<=j/\j<=1000000/\i.natAbs < 18446744073709551616)/\Q (.int (i ^ j.toNat)) st:=by unfold tf;rw [A1,decide_eq_true_eq]
theorem yW {neg:Bool}:Wp (jx neg (.int i) (.int j) st) Q↔Q (.bl (if neg then !decide (i=j) else decide (i=j))) st:=by
 have e:decide (V.int i=V.int j)=decide (i=j):=by
  by_cases h:i=j
  ·subst h;simp
  ·simp [h]
 show Wp (if oY (V.int i) (V.int j)=true then some (D.bl (if neg then !decide (V.int i=V.int j) else decide (V.int i=V.int j)),st) else none) Q↔_
 rw [if_pos (show oY _ _=true from rfl),bu,e]
theorem yX {neg:Bool} {x y:Str}:Wp (jx neg (.str x) (.str y) st) Q↔Q (.bl (if neg then !decide (x=y) else decide (x=y))) st:=by
 have e:decide (V.str x=V.str y)=decide (x=y):=by
  by_cases h:x=y
  ·subst h;simp
  ·simp [h]
 show Wp (if oY (V.str x) (V.str y)=true then some (D.bl (if neg then !decide (V.str x=V.str y) else decide (V.str x=V.str y)),st) else none) Q↔_
 rw [if_pos (show oY _ _=true from rfl),bu,e]
theorem yZ:Wp (aM (.tup ds) (.int i) st) Q↔∃ d,eK ds i=some d/\Q d st:=by
 show Wp (match eK ds i with | some d=>some (d,st) | none=>none) Q↔_
 cases eK ds i with
 | none=>rw [fP];exact ⟨False.elim,fun ⟨_,e,_⟩=>by cases e⟩
 | some d=>rw [bu];exact ⟨fun q=>⟨d,rfl,q⟩,fun ⟨_,e,q⟩=>by cases e;exact q⟩
theorem Oa:Wp (cm (.ref k) (.int i) st) Q↔∃ ds d,items st k=some ds/\eK ds i=some d/\Q d st:=by
 show Wp (match items st k with | some ds=>(match eK ds i with | some d=>some (d,st) | none=>none) | none=>none) Q↔_
 cases items st k with
 | none=>rw [fP];exact ⟨False.elim,fun ⟨_,_,e,_⟩=>by cases e⟩
 | some ds =>
  show Wp (match eK ds i with | some d=>some (d,st) | none=>none) Q↔_
  cases h:eK ds i with
  | none=>rw [fP];exact ⟨False.elim,fun ⟨_,_,e,e',_⟩=>by cases e;rw [h] at e';cases e'⟩
  | some d=>rw [bu];exact ⟨fun q=>⟨ds,d,rfl,h,q⟩,fun ⟨_,_,e,e',q⟩=>by cases e;rw [h] at e';cases e';exact q⟩
theorem y2 {lo hi:Option Int}:Wp (yC (.tup ds) lo hi st) Q↔Q (.tup (cutD ds lo hi)) st:=bu
theorem y3 {lo hi:Option Int}:Wp (tm (.ref k) lo hi st) Q↔∃ ds,items st k=some ds/\Q (.ref st.length) (st ++ [.lst (cutD ds lo hi)]):=by
 show Wp (match items st k with | some ds=>some (D.ref st.length,st ++ [O.lst (cutD ds lo hi)]) | none=>none) Q↔_
 cases items st k with
 | none=>rw [fP];exact ⟨False.elim,fun ⟨_,e,_⟩=>by cases e⟩
 | some ds=>rw [bu];exact ⟨fun q=>⟨ds,rfl,q⟩,fun ⟨_,e,q⟩=>by cases e;exact q⟩
theorem S8:Wp (ip (.tup ds) (.tup es) st) Q↔lim (ds.length + es.length)=true/\Q (.tup (ds ++ es)) st:=by
 show Wp (if lim (ds.length + es.length)=true then some (D.tup (ds ++ es),st) else none) Q↔_
 rw [oO,bu,fP]
 split
 ·next h=>exact ⟨fun q=>⟨h,q⟩,fun q=>q.2⟩
 ·next h=>exact ⟨False.elim,fun q=>h q.1⟩
theorem y4 {a b:Nat}:Wp (nV (.ref a) (.ref b) st) Q↔∃ xs ys,own st a=some xs/\own st b=some ys/\lim (xs.length + ys.length)=true/\Q (.ref st.length) (st ++ [.lst (xs ++ ys)]):=by
 show Wp (match own st a,own st b with | some xs,some ys=>if lim (xs.length + ys.length)=true then some (D.ref st.length,st ++ [O.lst (xs ++ ys)]) else none | _,_=>none) Q↔_
 cases ha:own st a <;> cases hb:own st b
 ·simp only [fP];exact ⟨False.elim,fun ⟨_,_,e,_⟩=>by cases e⟩
 ·simp only [fP];exact ⟨False.elim,fun ⟨_,_,e,_⟩=>by cases e⟩
 ·simp only [fP];exact ⟨False.elim,fun ⟨_,_,_,e,_⟩=>by cases e⟩
 ·next xs ys =>
  show Wp (if lim (xs.length + ys.length)=true then some (D.ref st.length,st ++ [O.lst (xs ++ ys)]) else none) Q↔_
  rw [oO,bu,fP]
  split
  ·next h=>exact ⟨fun q=>⟨_,_,rfl,rfl,h,q⟩,fun ⟨_,_,e,e',_,q⟩=>by cases e;cases e';exact q⟩
  ·next h=>exact ⟨False.elim,fun ⟨_,_,e,e',q,_⟩=>by cases e;cases e';exact h q⟩
theorem y6 {a:D}:Wp (dg [a] st) Q↔∃ ds,cX st a=some ds/\Q (.int ds.length) st:=by
 show Wp (match cX st a with | some ds=>some (D.int ds.length,st) | none=>none) Q↔_
 cases cX st a with
 | none=>rw [fP];exact ⟨False.elim,fun ⟨_,e,_⟩=>by cases e⟩
 | some ds=>rw [bu];exact ⟨fun q=>⟨ds,rfl,q⟩,fun ⟨_,e,q⟩=>by cases e;exact q⟩
theorem S9 {a:D}:Wp (oN [a] st) Q↔∃ ds,cX st a=some ds/\Q (.ref st.length) (st ++ [.lst ds]):=by
 show Wp (match cX st a with | some ds=>some (D.ref st.length,st ++ [O.lst ds]) | none=>none) Q↔_
 cases cX st a with
 | none=>rw [fP];exact ⟨False.elim,fun ⟨_,e,_⟩=>by cases e⟩
 | some ds=>rw [bu];exact ⟨fun q=>⟨ds,rfl,q⟩,fun ⟨_,e,q⟩=>by cases e;exact q⟩
theorem Ta {a:D}:Wp (bG [a] st) Q↔∃ ds,cX st a=some ds/\Q (.tup ds) st:=by
 show Wp (match cX st a with | some ds=>some (D.tup ds,st) | none=>none) Q↔_
 cases cX st a with
 | none=>rw [fP];exact ⟨False.elim,fun ⟨_,e,_⟩=>by cases e⟩
 | some ds=>rw [bu];exact ⟨fun q=>⟨ds,rfl,q⟩,fun ⟨_,e,q⟩=>by cases e;exact q⟩
theorem Tb:Wp (qR [.int i,.int j] st) Q↔Q (.int (if j > i then j else i)) st:=bu
theorem Tc:Wp (qS [.int i,.int j] st) Q↔Q (.int (if j < i then j else i)) st:=bu
theorem Td:Wp (nW [.int i] st) Q↔Q (.int i) st:=bu
theorem Te {b:Bool}:Wp (nW [.bl b] st) Q↔Q (.int (if b then 1 else 0)) st:=bu
theorem Tf:Wp (iA [.int j] st) Q↔Q (.ref st.length) (st ++ [.jH 0 j]):=bu
theorem Tg:Wp (eW [.int i,.int j] st) Q↔Q (.ref st.length) (st ++ [.jH i j]):=bu
theorem Ti {y:D}:Wp (bj (.ref k) [y] st) Q↔∃ xs,own st k=some xs/\lim xs.length=true/\Q .non (st.set k (.lst (xs ++ [y]))):=by
 show Wp (match own st k with | some xs=>if lim xs.length=true then some (D.non,st.set k (O.lst (xs ++ [y]))) else none | none=>none) Q↔_
 cases own st k with
 | none=>rw [fP];exact ⟨False.elim,fun ⟨_,e,_⟩=>by cases e⟩
 | some xs =>
  show Wp (if lim xs.length=true then some (D.non,st.set k (O.lst (xs ++ [y]))) else none) Q↔_
  rw [oO,bu,fP]
  split
  ·next h=>exact ⟨fun q=>⟨_,rfl,h,q⟩,fun ⟨_,e,_,q⟩=>by cases e;exact q⟩
  ·next h=>exact ⟨False.elim,fun ⟨_,e,q,_⟩=>by cases e;exact h q⟩
end
def Ws (m:Option (Fl×Store)) (N B C:aq->Store->Prop) (R:D->Store->Prop):Prop:=Wp m fun fl st=>match fl with
 | .nx δ=>N δ st
 | .bk δ=>B δ st
 | .ct δ=>C δ st
 | .rt d=>R d st
section
variable {st:Store} {δ:aq} {N B C:aq->Store->Prop} {R:D->Store->Prop} {f g:aq->Dm Fl} {e:aq->Dm D}
theorem y8 {m:Option (Fl×Store)} {N':aq->Store->Prop} (h:Ws m N B C R) (hn:∀ δ st,N δ st->N' δ st):Ws m N' B C R:=aV h fun fl st q=>by
 cases fl with
 | nx δ=>exact hn δ st q
 | bk δ=>exact q
 | ct δ=>exact q
 | rt d=>exact q
theorem a5 (h:Ws (f δ st) (fun δ1 st1=>Ws (g δ1 st1) N B C R) B C R):Ws (aE f g δ st) N B C R:=by
 unfold Ws aE
 rw [dh]
 refine aV h fun fl st1 q=>?_
 cases fl with
 | nx δ1=>exact q
 | bk δ1=>exact bu.mpr q
 | ct δ1=>exact bu.mpr q
 | rt d=>exact bu.mpr q
theorem kS (h:N δ st):Ws (bx δ st) N B C R:=bu.mpr h
theorem rY {t:D->aq->Dm aq} (h:Wp (e δ st) fun d st1=>Wp (t d δ st1) N):Ws (aH e t δ st) N B C R:=by
 unfold Ws aH
 rw [dh]
 refine aV h fun d st1 q=>?_
 rw [dh]
 exact aV q fun δ1 st2 q=>bu.mpr q
theorem bR {i:Nat} (h:Wp (e δ st) fun d st1=>N (δ.set i (some d)) st1):Ws (aH e (hName i) δ st) N B C R:=rY (aV h fun d st1 q=>bu.mpr q)
theorem qm (h:Wp (e δ st) fun _ st1=>N δ st1):Ws (cG e δ st) N B C R:=by
 unfold Ws cG
 rw [dh]
 exact aV h fun d st1 q=>bu.mpr q
theorem de (h:Wp (e δ st) R):Ws (aW e δ st) N B C R:=by
 unfold Ws aW
 rw [dh]
 exact aV h fun d st1 q=>bu.mpr q
theorem jD {c:aq->Dm Bool} (h:Wp (c δ st) fun b st1=>(b=true->Ws (f δ st1) N B C R)/\(b=false->Ws (g δ st1) N B C R)):Ws (h8 c f g δ st) N B C R:=by
 unfold Ws
 rw [xb]
 refine aV h fun b st1 q=>?_
 cases b with
 | true=>rw [if_pos rfl];exact q.1 rfl
 | false=>rw [if_neg Yh];exact q.2 rfl
theorem Ob {i j:Nat} {fa:aq->Dm (List D)} (h:Wp (fa δ st) fun as st1=>∃ a b,as=[a,b]/\N ((δ.set i (some a)).set j (some b)) st1):Ws (tH i j fa δ st) N B C R:=by
 unfold Ws tH
 rw [dh]
 refine aV h fun as st1 q=>?_
 obtain ⟨a,b,rfl,q⟩:=q
 exact bu.mpr q
theorem eo {n:Nat} {b:aq->Dm Fl} {ds:List D} (h:Ws (b (ds.map some ++ List.replicate (n - ds.length) none) st) (fun _ st1=>R .non st1) (fun _ _=>False) (fun _ _=>False) R):Wp (dG n b ds st) R:=by
 unfold dG
 rw [dh]
 refine aV h fun fl st1 q=>?_
 cases fl with
 | nx δ1=>exact bu.mpr q
 | bk δ1=>exact q.elim
 | ct δ1=>exact q.elim
 | rt d=>exact bu.mpr q
theorem y9 {c:aq->Dm Bool} {b:aq->Dm Fl} (W:Nat->aq->Store->Prop) (m:Nat) (hm:m < fuel) (h0:W m δ st)
  (step:∀ m δ st,W m δ st->Wp (c δ st) fun t st1=>(t=true->Ws (b δ st1) (fun δ2 st2=>∃ m',m' < m/\W m' δ2 st2) N (fun δ2 st2=>∃ m',m' < m/\W m' δ2 st2) R)/\(t=false->N δ st1)):Ws (iC c b δ st) N B C R:=by
 have key:∀ (k m:Nat) (δ:aq) (st:Store),m < k->W m δ st->Ws (fO c b k δ st) N B C R:=by
  intro k
  induction k with
  | zero=>intro m δ st h;exact absurd h (YY _)
  | succ k ih =>
   intro m δ st hk hw
   unfold Ws fO
   rw [dh]
   refine aV (step m δ st hw) fun t st1 q=>?_
   cases t with
   | false=>rw [if_neg Yh];exact bu.mpr (q.2 rfl)
   | true =>
    rw [if_pos rfl,dh]
    refine aV (q.1 rfl) fun fl st2 q=>?_
    cases fl with
    | nx δ2=>obtain ⟨m',hm',w⟩:=q;exact ih m' δ2 st2 (by omega) w
    | ct δ2=>obtain ⟨m',hm',w⟩:=q;exact ih m' δ2 st2 (by omega) w
    | bk δ2=>exact bu.mpr q
    | rt d=>exact bu.mpr q
 exact key fuel m δ st hm h0
theorem mz {fi:aq->Dm Src} {t:D->aq->Dm aq} {b:aq->Dm Fl} (ds:List D) (Pv:Nat->aq->Store->Prop) (hi:Wp (fi δ st) fun S st1=>S=.fix ds/\Pv 0 δ st1) (hl:ds.length < 100000)
  (step:∀ i d δ st,ds[i]?=some d->Pv i δ st->Wp (t d δ st) fun δ1 st1=>Ws (b δ1 st1) (Pv (i + 1)) N (Pv (i + 1)) R) (fin:∀ δ st,Pv ds.length δ st->N δ st):Ws (cM fi t b δ st) N B C R:=by
 unfold Ws cM
 rw [dh]
 refine aV hi fun S l9 q=>?_
 obtain ⟨rfl,h0⟩:=q
 have key:∀ (k i:Nat) (δ:aq) (st:Store),i<=ds.length->ds.length - i < k->Pv i δ st->Ws (gS (.fix ds) t b k i δ st) N B C R:=by
  intro k
  induction k with
  | zero=>intro i δ st _ h;exact absurd h (YY _)
  | succ k ih =>
   intro i δ st hi hk hw
   unfold Ws gS
   have e:Src.at (.fix ds) i st=some ds[i]?:=by show (if i<=ds.length then some ds[i]? else none)=_;rw [if_pos hi]
   rw [e]
   cases hd:ds[i]? with
   | none =>
    have:=YO.mp hd
    have e:i=ds.length:=by omega
    exact bu.mpr (fin δ st (e ▸ hw))
   | some d =>
    have hlt:=(Ya.mp hd).1
    show Wp (bnd _ _) _
    rw [dh]
    refine aV (step i d δ st hd hw) fun δ1 st1 q=>?_
    rw [dh]
    refine aV q fun fl st2 q=>?_
    cases fl with
    | nx δ2=>exact ih (i + 1) δ2 st2 (by omega) (by omega) q
    | ct δ2=>exact ih (i + 1) δ2 st2 (by omega) (by omega) q
    | bk δ2=>exact bu.mpr q
    | rt d=>exact bu.mpr q
 exact key fuel 0 δ l9 (YN _) (Nat.lt_trans (by omega) (show 100000 < fuel by decide)) h0
theorem Kv {fi:aq->Dm Src} {t:D->aq->Dm aq} {b:aq->Dm Fl} (ds:List D) (r:Nat) (Pv:Nat->aq->Store->Prop) (hi:Wp (fi δ st) fun S st1=>S=.live r/\Pv 0 δ st1) (hl:ds.length < 100000) (hk:∀ i δ st,Pv i δ st->items st r=some ds)
  (step:∀ i d δ st,ds[i]?=some d->Pv i δ st->Wp (t d δ st) fun δ1 st1=>Ws (b δ1 st1) (Pv (i + 1)) N (Pv (i + 1)) R) (fin:∀ δ st,Pv ds.length δ st->N δ st):Ws (cM fi t b δ st) N B C R:=by
 unfold Ws cM
 rw [dh]
 refine aV hi fun S l9 q=>?_
 obtain ⟨rfl,h0⟩:=q
 have key:∀ (k i:Nat) (δ:aq) (st:Store),i<=ds.length->ds.length - i < k->Pv i δ st->Ws (gS (.live r) t b k i δ st) N B C R:=by
  intro k
  induction k with
  | zero=>intro i δ st _ h;exact absurd h (YY _)
  | succ k ih =>
   intro i δ st hi hk' hw
   unfold Ws gS
   have e:Src.at (.live r) i st=some ds[i]?:=by show (items st r).map _=_;rw [hk i δ st hw];rfl
   rw [e]
   cases hd:ds[i]? with
   | none =>
    have:=YO.mp hd
    have e:i=ds.length:=by omega
    exact bu.mpr (fin δ st (e ▸ hw))
   | some d =>
    have hlt:=(Ya.mp hd).1
    show Wp (bnd _ _) _
    rw [dh]
    refine aV (step i d δ st hd hw) fun δ1 st1 q=>?_
    rw [dh]
    refine aV q fun fl st2 q=>?_
    cases fl with
    | nx δ2=>exact ih (i + 1) δ2 st2 (by omega) (by omega) q
    | ct δ2=>exact ih (i + 1) δ2 st2 (by omega) (by omega) q
    | bk δ2=>exact bu.mpr q
    | rt d=>exact bu.mpr q
 exact key fuel 0 δ l9 (YN _) (Nat.lt_trans (by omega) (show 100000 < fuel by decide)) h0
theorem Gy {fi:aq->Dm Src} {n:Nat} {js:List Nat} {t:D->aq->Dm aq} {c:aq->Dm Bool} {f:aq->Dm D} {Q:D->Store->Prop} (ds:List D) (Pv:Nat->List D->aq->Store->Prop)
  (hi:Wp (fi δ st) fun S st1=>(∀ i ys δ st,i<=ds.length->Pv i ys δ st->S.at i st=some ds[i]?)/\Pv 0 [] (pW n js δ) st1) (hl:ds.length < 100000) (hy:∀ i ys δ st,Pv i ys δ st->ys.length<=i)
  (step:∀ i d ys δ st,ds[i]?=some d->Pv i ys δ st->Wp (t d δ st) fun δ1 st1=>Wp (c δ1 st1) fun b st2=>(b=true->Wp (f δ1 st2) fun y st3=>Pv (i + 1) (ys ++ [y]) δ1 st3)/\(b=false->Pv (i + 1) ys δ1 st2))
  (fin:∀ ys δ st,Pv ds.length ys δ st->Q (.ref st.length) (st ++ [.lst ys])):Wp (cO fi n js t c f δ st) Q:=by
 unfold cO
 rw [dh]
 refine aV hi fun S l9 q=>?_
 obtain ⟨hS,h0⟩:=q
 have key:∀ (k i:Nat) (ys:List D) (δ:aq) (st:Store),i<=ds.length->ds.length - i < k->Pv i ys δ st->Wp (iD S t c f k i ys δ st) fun zs pM=>∃ δ9,Pv ds.length zs δ9 pM:=by
  intro k
  induction k with
  | zero=>intro i ys δ st _ h;exact absurd h (YY _)
  | succ k ih =>
   intro i ys δ st hi hk' hw
   unfold iD
   have hlim:lim ys.length=true:=Nat.ble_eq_true_of_le (by have:=hy i ys δ st hw;omega)
   rw [if_pos hlim,hS i ys δ st hi hw]
   cases hd:ds[i]? with
   | none =>
    have:=YO.mp hd
    have e:i=ds.length:=by omega
    exact bu.mpr ⟨δ,e ▸ hw⟩
   | some d =>
    have hlt:=(Ya.mp hd).1
    show Wp (bnd _ _) _
    rw [dh]
    refine aV (step i d ys δ st hd hw) fun δ1 st1 q=>?_
    rw [dh]
    refine aV q fun b st2 q=>?_
    cases b with
    | true =>
     rw [if_pos rfl,dh]
     exact aV (q.1 rfl) fun y st3 q=>ih (i + 1) _ δ1 st3 (by omega) (by omega) q
    | false =>
     rw [if_neg Yh]
     exact ih (i + 1) ys δ1 st2 (by omega) (by omega) (q.2 rfl)
 rw [dh]
 exact aV (key fuel 0 [] _ l9 (YN _) (Nat.lt_trans (by omega) (show 100000 < fuel by decide)) h0) fun zs pM ⟨δ9,q⟩=>bu.mpr (fin zs δ9 pM q)
end
def keyOf:D->Option Key
 | .int i=>some (.inl i)
 | .str x=>some (.inr x)
 | _=>none
def jO (st:Store):D->Option (List (Key×D))
 | .ref i=>match st[i]? with
  | some (.dct kvs)=>some kvs
  | _=>none
 | _=>none
def dC (kvs:List (Key×D)) (k:Key):Option D:=(kvs.find? fun kv=>decide (kv.1=k)).map (·.2)
def putD (kvs:List (Key×D)) (k:Key) (v:D):List (Key×D) :=
 if (kvs.any fun kv=>decide (kv.1=k))=true then kvs.map (fun kv=>if kv.1=k then (kv.1,v) else kv) else kvs ++ [(k,v)]
section
variable {K:Zfr} {ρ:List Addr} {H:Hp} {st:Store}
theorem Ax {x:V} {y:D} {k:Key} (r:Rp K ρ H x y) (h:keyOf y=some k):x=kV k:=by
 cases r <;> first | (cases h;rfl) | cases h
theorem Oc {x:V} {a:D} {kvs:List (Key×D)} (l:Rl K ρ H st) (r:Rp K ρ H x a) (h:jO st a=some kvs):∃ p i ws,x=.ref p/\a=.ref i/\ρ[i]?=some p/\st[i]?=some (.dct kvs)/\H p=some (.dK ws)/\Rk K ρ H ws kvs:=by
 cases r <;> first | (cases h;done) | skip
 next hi =>
  simp only [jO] at h
  split at h
  ·next kvs' hs =>
   cases h
   obtain ⟨ws,e,r⟩:=l.obj _ _ _ hi hs
   exact ⟨_,_,ws,rfl,rfl,hi,hs,e,r⟩
  ·cases h
theorem Rk.val {ws:List (Key×V)} {kvs:List (Key×D)} (r:Rk K ρ H ws kvs) (k:Key):(∀ d,dC kvs k=some d->∃ v,kU ws k=some v/\Rp K ρ H v d)/\(kU ws k).isSome=(dC kvs k).isSome:=by
 induction r with
 | nil=>exact ⟨fun d h=>(by cases h),rfl⟩
 | @cons p q ps qs h t ih =>
  obtain ⟨h1,h2⟩:=h
  unfold dC kU at ih ⊢
  rw [Y7,Y7]
  by_cases e:p.1=k
  ·rw [decide_eq_true e,decide_eq_true (h1 ▸ e)]
   exact ⟨fun d hd=>by cases hd;exact ⟨_,rfl,h2⟩,rfl⟩
  ·rw [decide_eq_false e,decide_eq_false (h1 ▸ e)]
   exact ih
theorem Rk.app {ws A2:List (Key×V)} {kvs kvs':List (Key×D)} (r:Rk K ρ H ws kvs) (r':Rk K ρ H A2 kvs'):Rk K ρ H (ws ++ A2) (kvs ++ kvs'):=by
 induction r with
 | nil=>exact r'
 | cons h _ ih=>exact .cons h ih
theorem Rk.put {ws:List (Key×V)} {kvs:List (Key×D)} {v:V} {d:D} (r:Rk K ρ H ws kvs) (k:Key) (rv:Rp K ρ H v d):Rk K ρ H (putK ws k v) (putD kvs k d):=by
 have hany:(ws.any fun kv=>decide (kv.1=k))=(kvs.any fun kv=>decide (kv.1=k)):=by
  induction r with
  | nil=>rfl
  | cons h _ ih=>rw [Y5,Y5,ih,h.1]
 have hmap:Rk K ρ H (ws.map fun kv=>if kv.1=k then (kv.1,v) else kv) (kvs.map fun kv=>if kv.1=k then (kv.1,d) else kv):=by
  clear hany
  induction r with
  | nil=>exact .nil
  | @cons p q ps qs h _ ih =>
   refine .cons ?_ ih
   dsimp only
   by_cases e:p.1=k
   ·rw [if_pos e,if_pos (h.1 ▸ e)];exact ⟨h.1,rv⟩
   ·rw [if_neg e,if_neg (h.1 ▸ e)];exact h
 unfold putK putD
 rw [hany]
 split
 ·exact hmap
 ·exact r.app (.cons ⟨rfl,rv⟩ .nil)
theorem Rk.length {ws:List (Key×V)} {kvs:List (Key×D)} (r:Rk K ρ H ws kvs):ws.length=kvs.length:=by
 induction r with
 | nil=>rfl
 | cons _ _ ih=>rw [YE,YE,ih]
end
section
variable {K:Zfr}
def tK:aq->Dm D:=fun _ st=>some (.ref st.length,st ++ [.dct []])
theorem Tj:gg K sI tK:=by
 intro ρ σ H δ st b st' Q l rs e q
 cases e
 exact fun p hp=>q _ _ _ (Mn.new hp) (l.newD hp .nil) (.ref (newR l))
def xc (fd fy:aq->Dm D):aq->Dm D:=fun δ st=>bnd (fd δ st) fun x st1=>bnd (fy δ st1) fun y st2=>match jO st2 x,keyOf y with
 | some kvs,some k=>match dC kvs k with
  | some v=>some (v,st2)
  | none=>none
 | _,_=>none
def vd (neg:Bool) (fy fd:aq->Dm D):aq->Dm D:=fun δ st=>bnd (fy δ st) fun y st1=>bnd (fd δ st1) fun x st2=>match jO st2 x,keyOf y with
 | some kvs,some k=>some (.bl (if neg then !(dC kvs k).isSome else (dC kvs k).isSome),st2)
 | _,_=>none
theorem To {td ty:TE} {fd fy:aq->Dm D} (hy:gg K ty fy) (hd:gg K td fd):gg K (qD ty td) (vd true fy fd):=by
 intro ρ σ H δ st b st' Q l rs e q
 obtain ⟨y,st1,e1,e⟩:=dD e
 obtain ⟨x,st2,e2,e⟩:=dD e
 refine hy ρ σ H δ st y st1 _ l rs e1 fun vy H1 ρ1 m1 l1 r1=>hd ρ1 σ H1 δ st1 x st2 _ l1 (rs.mn m1) e2 fun vx H2 ρ2 m2 l2 r2=>?_
 split at e
 ·next kvs k hx hk =>
  cases e
  obtain ⟨p,i,ws,rfl,rfl,hi,hs,hp,rk⟩:=Oc l2 r2 hx
  refine ⟨p,kU ws k,rfl,by rw [Ax r1 hk];exact sG.k hp,q _ H2 ρ2 (m1.trans m2) l2 ?_⟩
  rw [(rk.val k).2]
  exact .bl _
 ·cases e
def qT (fd fy fv:aq->Dm D):aq->Dm Fl:=fun δ st=>bnd (fv δ st) fun v st1=>bnd (fd δ st1) fun x st2=>bnd (fy δ st2) fun y st3=>match x,jO st3 x,keyOf y with
 | .ref i,some kvs,some k=>if lim kvs.length=true then some (.nx δ,st3.set i (.dct (putD kvs k v))) else none
 | _,_,_=>none
theorem Tp {td ty tv:TE} {fd fy fv:aq->Dm D} (hd:gg K td fd) (hy:gg K ty fy) (hv:gg K tv fv):pL K (wc td ty tv) (qT fd fy fv):=by
 intro ρ σ H δ st fl st' E l rs e q
 obtain ⟨v,st1,e1,e⟩:=dD e
 obtain ⟨x,st2,e2,e⟩:=dD e
 obtain ⟨y,st3,e3,e⟩:=dD e
 refine hv ρ σ H δ st v st1 _ l rs e1 fun vv H1 ρ1 m1 l1 r1=>hd ρ1 σ H1 δ st1 x st2 _ l1 (rs.mn m1) e2 fun vx H2 ρ2 m2 l2 r2=>hy ρ2 σ H2 δ st2 y st3 _ l2 (rs.mn (m1.trans m2)) e3 fun vy H3 ρ3 m3 l3 r3=>?_
 obtain ⟨i,rfl⟩:∃ i,x=.ref i:=by
  cases x <;> first | exact ⟨_,rfl⟩ | (simp at e;done) | cases e
 cases hx:jO st3 (.ref i) with
 | none=>rw [hx] at e;cases e
 | some kvs =>
 cases hk:keyOf y with
 | none=>rw [hx,hk] at e;cases e
 | some k =>
  rw [hx,hk] at e
  simp only at e
  split at e
  ·next hl =>
   cases e
   obtain ⟨p,j,ws,rfl,ej,hi,hs,hp,rk⟩:=Oc l3 (r2.mn m3) hx
   cases ej
   obtain ⟨l4,m4⟩:=l3.yy hi hs (rk.put k (r1.mn (m2.trans m3)))
   have mm:=((m1.trans m2).trans m3).trans m4
   refine ⟨p,_,rfl,?_,q σ _ ρ3 mm l4 (rs.mn mm)⟩
   rw [Ax r3 hk]
   exact sH.k hp (by rw [rk.length];exact Kg hl)
  ·cases e
def Ds:aq->Dm (List (D×D)):=fun _ st=>some ([],st)
def tL (fk fv:aq->Dm D) (fr:aq->Dm (List (D×D))):aq->Dm (List (D×D)):=fun δ st=>bnd (fk δ st) fun k st1=>bnd (fv δ st1) fun v st2=>bnd (fr δ st2) fun r st3=>some ((k,v) :: r,st3)
def keysOf:List (D×D)->Option (List (Key×D))
 | []=>some []
 | (k,v) :: r=>match keyOf k,keysOf r with
  | some k',some r'=>some ((k',v) :: r')
  | _,_=>none
def tM (kvs more:List (Key×D)):List (Key×D):=more.foldl (fun acc kv=>putD acc kv.1 kv.2) kvs
def xf (fp:aq->Dm (List (D×D))):aq->Dm D:=fun δ st=>bnd (fp δ (st ++ [.dct []])) fun ps st2=>match st2[st.length]?,keysOf ps with
 | some (.dct []),some kvs=>if kvs.length<=15 then some (.ref st.length,st2.set st.length (.dct (tM [] kvs))) else none
 | _,_=>none
end
section
variable {st:Store} {δ:aq} {Q:D->Store->Prop}
theorem Tq:Wp (tK δ st) Q↔Q (.ref st.length) (st ++ [.dct []]):=bu
theorem Tr {fd fy:aq->Dm D}:Wp (xc fd fy δ st) Q↔Wp (fd δ st) fun x st1=>Wp (fy δ st1) fun y st2=>∃ kvs k v,jO st2 x=some kvs/\keyOf y=some k/\dC kvs k=some v/\Q v st2:=by
 unfold xc;rw [dh];simp only [dh]
 constructor <;> refine fun h=>aV h fun x s h=>aV h fun y s2 h=>?_
 ·split at h
  ·next kvs k h1 h2 =>
   split at h
   ·next v h3=>exact ⟨kvs,k,v,by assumption,by assumption,h3,bu.mp h⟩
   ·exact (fP.mp h).elim
  ·exact (fP.mp h).elim
 ·obtain ⟨kvs,k,v,h1,h2,h3,h⟩:=h
  rw [h1,h2]
  simp only [h3]
  exact bu.mpr h
theorem za {neg:Bool} {fd fy:aq->Dm D}:Wp (vd neg fy fd δ st) Q↔Wp (fy δ st) fun y st1=>Wp (fd δ st1) fun x st2=>∃ kvs k,jO st2 x=some kvs/\keyOf y=some k/\Q (.bl (if neg then !(dC kvs k).isSome else (dC kvs k).isSome)) st2:=by
 unfold vd;rw [dh];simp only [dh]
 constructor <;> refine fun h=>aV h fun x s h=>aV h fun y s2 h=>?_
 ·split at h
  ·next kvs k h1 h2=>exact ⟨kvs,k,by assumption,by assumption,bu.mp h⟩
  ·exact (fP.mp h).elim
 ·obtain ⟨kvs,k,h1,h2,h⟩:=h
  rw [h1,h2]
  exact bu.mpr h
theorem Ts {R:List (D×D)->Store->Prop}:Wp (Ds δ st) R↔R [] st:=bu
theorem Tt {fk fv:aq->Dm D} {fr:aq->Dm (List (D×D))} {R:List (D×D)->Store->Prop}:Wp (tL fk fv fr δ st) R↔Wp (fk δ st) fun k st1=>Wp (fv δ st1) fun v st2=>Wp (fr δ st2) fun r st3=>R ((k,v) :: r) st3:=by
 unfold tL;rw [dh];simp only [dh,bu]
theorem Tv {fp:aq->Dm (List (D×D))}:Wp (xf fp δ st) Q↔Wp (fp δ (st ++ [.dct []])) fun ps st2=>st2[st.length]?=some (.dct [])/\∃ kvs,keysOf ps=some kvs/\kvs.length<=15/\Q (.ref st.length) (st2.set st.length (.dct (tM [] kvs))):=by
 unfold xf;rw [dh]
 constructor <;> refine fun h=>aV h fun ps s h=>?_
 ·split at h
  ·next kvs h1 h2 =>
   rw [oO,bu,fP] at h
   split at h
   ·next hl=>exact ⟨by assumption,kvs,by assumption,hl,h⟩
   ·exact h.elim
  ·exact (fP.mp h).elim
 ·obtain ⟨h1,kvs,h2,h3,h⟩:=h
  rw [h1,h2]
  simp only [if_pos h3]
  exact bu.mpr h
theorem Tw {fd fy fv:aq->Dm D} {N B C:aq->Store->Prop} {R:D->Store->Prop} (h:Wp (fv δ st) fun v st1=>Wp (fd δ st1) fun x st2=>Wp (fy δ st2) fun y st3=>∃ i kvs k,x=.ref i/\jO st3 x=some kvs/\keyOf y=some k/\lim kvs.length=true/\N δ (st3.set i (.dct (putD kvs k v)))):Ws (qT fd fy fv δ st) N B C R:=by
 unfold Ws qT
 rw [dh]
 refine aV h fun v st1 h=>?_
 rw [dh]
 refine aV h fun x st2 h=>?_
 rw [dh]
 refine aV h fun y st3 h=>?_
 obtain ⟨i,kvs,k,rfl,h1,h2,h3,h⟩:=h
 rw [h1,h2]
 simp only [h3]
 exact bu.mpr h
end
structure Ex (c:List Nat) (st st':Store):Prop where
 len:st.length<=st'.length
 keep:∀ (i:Nat) (o:O),st[i]?=some o->i ∉ c->st'[i]?=some o
section
variable {c c':List Nat} {st st1 st2:Store} {i:Nat} {o:O} {ds:List D}
theorem Ex.refl:Ex c st st:=⟨Yd _,fun _ _ h _=>h⟩
theorem Ex.trans (a:Ex c st st1) (b:Ex c st1 st2):Ex c st st2:=⟨Yv a.len b.len,fun i o h n=>b.keep i o (a.keep i o h n) n⟩
theorem Ex.mono (a:Ex c st st1) (h:∀ x∈c,x∈c'):Ex c' st st1:=⟨a.len,fun i o e n=>a.keep i o e fun z=>n (h i z)⟩
theorem Ex.any (a:Ex [] st st1):Ex c st st1:=a.mono fun x h=>nomatch h
theorem eV {α:Type} {l:List α} {i:Nat} {o:α} (h:l[i]?=some o):i < l.length:=(Ya.mp h).1
theorem jP {l m:List O} (h:l[i]?=some o):(l ++ m)[i]?=some o:=by rw [Yk (eV h)];exact h
theorem jE {l:List O}:(l ++ [o])[l.length]?=some o:=by rw [Yw (Yd _),Y9];rfl
theorem Ex.app (a:Ex c st st1) (m:List O):Ex c st (st1 ++ m):=⟨by rw [Yc];exact Yv a.len (Nat.le_add_right _ _),fun i o h n=>jP (a.keep i o h n)⟩
theorem Ex.cn (m:List O):Ex c st (st ++ m):=Ex.refl.app m
theorem Ex.put (a:Ex c st st1) (h:i∈c):Ex c st (st1.set i o):=⟨by rw [YX];exact a.len,fun j u e n=>by rw [Yp (fun z=>n (by rw [<- z];exact h))];exact a.keep j u e n⟩
theorem Ex.loc (a:Ex c st st1) (h:st.length<=i):Ex c st (st1.set i o):=⟨by rw [YX];exact a.len,fun j u e n=>by rw [Yp (by have:=eV e;omega)];exact a.keep j u e n⟩
theorem cv (h:st[i]?=some (.lst ds)):items st i=some ds:=by unfold items;rw [h]
theorem Kw (h:st[i]?=some (.qj ds)):items st i=some ds:=by unfold items;rw [h]
theorem kZ (h:st[i]?=some (.lst ds)):own st i=some ds:=by unfold own;rw [h]
theorem rZ:items (st ++ [.lst ds]) st.length=some ds:=cv jE
theorem Tx:own (st ++ [.lst ds]) st.length=some ds:=kZ jE
theorem Tz {o':O}:items (st ++ [.lst ds] ++ [o']) st.length=some ds:=cv (jP jE)
theorem TB {o':O}:own (st ++ [.lst ds] ++ [o']) st.length=some ds:=kZ (jP jE)
theorem TC {o' o2:O}:items (st ++ [.lst ds] ++ [o'] ++ [o2]) st.length=some ds:=cv (jP (jP jE))
theorem TF {o' o2:O}:own (st ++ [.lst ds] ++ [o'] ++ [o2]) st.length=some ds:=kZ (jP (jP jE))
theorem TH {lo hi:Int}:jy (st ++ [.jH lo hi]) (.ref st.length)=some (lo,hi):=by simp only [jy,jE]
theorem TJ:cX st (.tup ds)=some ds:=rfl
theorem TK:cX st (.ref i)=items st i:=rfl
theorem oP (h:(items st i).isSome=true):uv "list" st (.ref i)=true:=by simp only [uv,h];rfl
theorem Kx:uv "tuple" st (.tup ds)=true:=by simp only [uv];rfl
theorem jz {n:Nat} (h:n<=100000):lim n=true:=Nat.ble_eq_true_of_le h
end
section
variable {st:Store} {Q:D->Store->Prop} {i j:Int} {k:Nat} {ds es:List D}
theorem TL {a:D}:Wp (dF [a] st) Q↔∃ p,jy st a=some p/\rN p.1 p.2=true/\Q (.ref st.length) (st ++ [.lst (aG p.1 (p.2 - p.1).toNat)]):=by
 show Wp (match jy st a with | some (lo,hi)=>if rN lo hi=true then some (D.ref st.length,st ++ [O.lst (aG lo (hi - lo).toNat)]) else none | none=>none) Q↔_
 cases jy st a with
 | none=>rw [fP];exact ⟨False.elim,fun ⟨_,e,_⟩=>by cases e⟩
 | some p =>
  obtain ⟨lo,hi⟩:=p
  show Wp (if rN lo hi=true then some (D.ref st.length,st ++ [O.lst (aG lo (hi - lo).toNat)]) else none) Q↔_
  rw [oO,bu,fP]
  split
  ·next h=>exact ⟨fun q=>⟨_,rfl,h,q⟩,fun ⟨_,e,_,q⟩=>by cases e;exact q⟩
  ·next h=>exact ⟨False.elim,fun ⟨_,e,q,_⟩=>by cases e;exact h q⟩
theorem TM {a:D}:Wp (u9 [a] st) Q↔∃ p,jy st a=some p/\rN p.1 p.2=true/\Q (.tup (aG p.1 (p.2 - p.1).toNat)) st:=by
 show Wp (match jy st a with | some (lo,hi)=>if rN lo hi=true then some (D.tup (aG lo (hi - lo).toNat),st) else none | none=>none) Q↔_
 cases jy st a with
 | none=>rw [fP];exact ⟨False.elim,fun ⟨_,e,_⟩=>by cases e⟩
 | some p =>
  obtain ⟨lo,hi⟩:=p
  show Wp (if rN lo hi=true then some (D.tup (aG lo (hi - lo).toNat),st) else none) Q↔_
  rw [oO,bu,fP]
  split
  ·next h=>exact ⟨fun q=>⟨_,rfl,h,q⟩,fun ⟨_,e,_,q⟩=>by cases e;exact q⟩
  ·next h=>exact ⟨False.elim,fun ⟨_,e,q,_⟩=>by cases e;exact h q⟩
theorem zb:Wp (tu (.ref k) (.int j) st) Q↔∃ xs,own st k=some xs/\(-9223372036854775808<=j/\j < 9223372036854775808)/\lim (xs.length * j.toNat)=true/\Q (.ref st.length) (st ++ [.lst (List.replicate j.toNat xs).flatten]):=by
 show Wp (match own st k with | some a=>if (decide (-9223372036854775808<=j/\j < 9223372036854775808) && lim (a.length * j.toNat))=true then some (D.ref st.length,st ++ [O.lst (List.replicate j.toNat a).flatten]) else none | _=>none) Q↔_
 cases own st k with
 | none=>simp only [fP];exact ⟨False.elim,fun ⟨_,e,_⟩=>by cases e⟩
 | some xs =>
  show Wp (if (decide (-9223372036854775808<=j/\j < 9223372036854775808) && lim (xs.length * j.toNat))=true then some (D.ref st.length,st ++ [O.lst (List.replicate j.toNat xs).flatten]) else none) Q↔_
  rw [oO,bu,fP]
  split
  ·next h=>rw [YA,decide_eq_true_eq] at h;exact ⟨fun q=>⟨_,rfl,h.1,h.2,q⟩,fun ⟨_,e,_,_,q⟩=>by cases e;exact q⟩
  ·next h=>rw [YA,decide_eq_true_eq] at h;exact ⟨False.elim,fun ⟨_,e,q,q',_⟩=>by cases e;exact h ⟨q,q'⟩⟩
theorem TN:Wp (mM (.ref k) [.int i] st) Q↔∃ xs j y,own st k=some xs/\(-9223372036854775808<=i/\i < 9223372036854775808)/\seqIndex? i xs.length=some j/\xs[j]?=some y/\Q y (st.set k (.lst (xs.eraseIdx j))):=by
 constructor
 ·rintro ⟨a,s,e,q⟩
  simp only [mM] at e
  split at e
  ·next xs hx =>
   split at e
   ·next hk =>
    split at e
    ·next j hj =>
     split at e
     ·next y hy=>cases e;exact ⟨xs,j,_,hx,of_decide_eq_true hk,hj,hy,q⟩
     ·cases e
    ·cases e
   ·cases e
  ·cases e
 ·rintro ⟨xs,j,y,hx,hk,hj,hy,q⟩
  refine ⟨_,_,?_,q⟩
  simp only [mM,hx,hj,hy,decide_eq_true hk]
  rfl
theorem TQ {b:Nat}:Wp (o9 (.ref k) [.ref b] st) Q↔∃ xs ys,own st k=some xs/\own st b=some ys/\lim (xs.length + ys.length)=true/\Q .non (st.set k (.lst (xs ++ ys))):=by
 constructor
 ·rintro ⟨a,s,e,q⟩
  simp only [o9] at e
  split at e
  ·next xs ys hx hy =>
   split at e
   ·next hl=>cases e;exact ⟨xs,ys,hx,hy,hl,q⟩
   ·cases e
  ·cases e
 ·rintro ⟨xs,ys,hx,hy,hl,q⟩
  refine ⟨_,_,?_,q⟩
  simp only [o9,hx,hy,hl]
  rfl
theorem Oe {v:Int}:Wp (iB (.tup ds) [.int v] st) Q↔∃ ns j,ck iV ds=some ns/\ns.findIdx? (fun i=>decide (i=v))=some j/\Q (.int (j:Int)) st:=by
 constructor
 ·rintro ⟨a,s,e,q⟩
  simp only [iB] at e
  split at e
  ·next ns hn =>
   split at e
   ·next j hj=>cases e;exact ⟨ns,j,hn,hj,q⟩
   ·cases e
  ·cases e
 ·rintro ⟨ns,j,hn,hj,q⟩
  refine ⟨_,_,?_,q⟩
  simp only [iB,hn,hj]
theorem TR {v:Int} {ns:List Int} (h:items st k=some (ns.map D.int)) (hv:v∈ns) (hl:ns.length<=1000) (hb:∀ i∈ns,-1000000000000000000<=i/\i<=1000000000000000000):Wp (kh (.ref k) [.int v] st) Q↔Q (.int (ns.idxOf v:Int)) st:=by
 have e:ck iV (ns.map D.int)=some ns:=by
  have:=wW (f:=iV) (g:=D.int) (k:=id) (fun _=>rfl) ns
  rw [this,List.map_id]
 have e2:kh (.ref k) [.int v] st=some (.int (ns.idxOf v:Int),st):=by
  simp only [kh,h,Za,e]
  rw [if_pos ⟨hv,hl,hb⟩]
 rw [e2,bu]
theorem zc:Wp (yF [.ref k] st) Q↔∃ ds bs,items st k=some ds/\ck bV ds=some bs/\Q (.bl (bs.all id)) st:=by
 constructor
 ·rintro ⟨a,s,e,q⟩
  simp only [yF] at e
  split at e
  ·next bs hb =>
   cases e
   obtain ⟨ds,h1,h2⟩:=Y0.mp hb
   exact ⟨ds,bs,h1,h2,q⟩
  ·cases e
 ·rintro ⟨ds,bs,h1,h2,q⟩
  refine ⟨_,_,?_,q⟩
  simp only [yF,h1,Za,h2]
theorem Dt {neg:Bool} {a c:D}:Wp (rX neg a c st) Q↔∃ x ds vs,sV a=some x/\cX st c=some ds/\ck sV ds=some vs/\Q (.bl (if neg then !vW x vs else vW x vs)) st:=by
 constructor
 ·rintro ⟨b,s,e,q⟩
  simp only [rX] at e
  split at e
  ·next x vs h1 h2 =>
   cases e
   obtain ⟨ds,h3,h4⟩:=Y0.mp h2
   exact ⟨x,ds,vs,h1,h3,h4,q⟩
  ·cases e
 ·rintro ⟨x,ds,vs,h1,h2,h3,q⟩
  refine ⟨_,_,?_,q⟩
  simp only [rX,h1,h2,Za,h3]
theorem Og (ns:List Int):ck sV (ns.map D.int)=some (ns.map V.int):=wW (f:=sV) (g:=D.int) (k:=V.int) (fun _=>rfl) ns
theorem Ky (ns:List Int):ck iV (ns.map D.int)=some ns:=by
 have:=wW (f:=iV) (g:=D.int) (k:=id) (fun _=>rfl) ns
 rw [this,List.map_id]
theorem Kz {neg:Bool} {a b:D}:Wp (kJ neg a b st) Q↔∃ p q,fH st 20 a=some p/\fH st 20 b=some q/\(PyData.canLay0 p=true/\PyData.canLay0 q=true/\min p.depth q.depth<=60)/\Q (.bl (if neg then !PyData.eqv p q else PyData.eqv p q)) st:=by
 constructor
 ·rintro ⟨c,s,e,q⟩
  simp only [kJ] at e
  split at e
  ·next x y h1 h2 =>
   split at e
   ·next hs =>
    cases e
    rw [YA,YA,decide_eq_true_eq] at hs
    exact ⟨x,y,h1,h2,⟨hs.1.1,hs.1.2,hs.2⟩,q⟩
   ·cases e
  ·cases e
 ·rintro ⟨x,y,h1,h2,⟨h3,h4,h5⟩,q⟩
  refine ⟨_,_,?_,q⟩
  simp only [kJ,h1,h2,h3,h4,decide_eq_true h5]
  rfl
theorem zd {z:Str}:Wp (yB (.str z) (.int i) st) Q↔∃ c,lim z.length=true/\eK z.cps.toList i=some c/\Q (.str ⟨#[c]⟩) st:=by
 constructor
 ·rintro ⟨c,s,e,q⟩
  simp only [yB] at e
  split at e
  ·next h1 =>
   split at e
   ·next c hc=>cases e;exact ⟨c,h1,hc,q⟩
   ·cases e
  ·cases e
 ·rintro ⟨c,h1,h2,q⟩
  refine ⟨_,_,?_,q⟩
  simp only [yB,h1,h2]
  rfl
theorem TU {δ:aq} {fa:aq->Dm (List D)} {R:Src->Store->Prop}:Wp (bY fa δ st) R↔Wp (fa δ st) fun as st1=>∃ j,as=[.int j]/\(-4611686018427387904<=j/\j < 4611686018427387904)/\R (.fix (aG 0 j.toNat)) st1:=by
 unfold bY;rw [dh]
 constructor <;> refine fun h=>aV h fun as s h=>?_
 ·split at h
  ·next j =>
   rw [oO,bu,fP] at h
   split at h
   ·next hk=>exact ⟨j,rfl,of_decide_eq_true hk,h⟩
   ·exact h.elim
  ·exact (fP.mp h).elim
 ·obtain ⟨j,rfl,h1,h⟩:=h
  simp only [decide_eq_true h1,if_true]
  exact bu.mpr h
theorem TV {δ:aq} {fa:aq->Dm (List D)} {R:Src->Store->Prop}:Wp (ph fa δ st) R↔Wp (fa δ st) fun as st1=>∃ i j,as=[.int i,.int j]/\((-4611686018427387904<=i/\i < 4611686018427387904)/\-4611686018427387904<=j/\j < 4611686018427387904)/\R (.fix (aG i (j - i).toNat)) st1:=by
 unfold ph;rw [dh]
 constructor <;> refine fun h=>aV h fun as s h=>?_
 ·split at h
  ·next i j =>
   rw [oO,bu,fP] at h
   split at h
   ·next hk=>exact ⟨i,j,rfl,of_decide_eq_true hk,h⟩
   ·exact h.elim
  ·exact (fP.mp h).elim
 ·obtain ⟨i,j,rfl,h1,h⟩:=h
  simp only [decide_eq_true h1,if_true]
  exact bu.mpr h
theorem TX {δ:aq} {fa:aq->Dm D} {R:Src->Store->Prop}:Wp (cN fa δ st) R↔Wp (fa δ st) fun a st1=>∃ ds,a=.tup ds/\R (.fix ds) st1:=by
 unfold cN;rw [dh]
 constructor <;> refine fun h=>aV h fun a s h=>?_
 ·cases a <;> simp only [bu,fP] at h
  exact ⟨_,rfl,h⟩
 ·obtain ⟨j,rfl,h⟩:=h
  exact bu.mpr h
theorem TY {δ:aq} {fa:aq->Dm D} {R:Src->Store->Prop}:Wp (kY fa δ st) R↔Wp (fa δ st) fun a st1=>∃ i ds,a=.ref i/\items st1 i=some ds/\R (.live i) st1:=by
 unfold kY;rw [dh]
 constructor <;> refine fun h=>aV h fun a s h=>?_
 ·split at h
  ·split at h
   ·next i ds hd=>exact ⟨_,ds,rfl,hd,bu.mp h⟩
   ·exact (fP.mp h).elim
  ·exact (fP.mp h).elim
 ·obtain ⟨i,ds,rfl,hd,h⟩:=h
  simp only [hd]
  exact bu.mpr h
theorem T1 {δ:aq} {fa:aq->Dm (List D)} {R:Src->Store->Prop}:Wp (nX fa δ st) R↔Wp (fa δ st) fun as st1=>∃ ds,as=[.tup ds]/\R (.fix (nc ds)) st1:=by
 unfold nX;rw [dh]
 constructor <;> refine fun h=>aV h fun as s h=>?_
 ·split at h
  ·exact ⟨_,rfl,bu.mp h⟩
  ·exact (fP.mp h).elim
 ·obtain ⟨ds,rfl,h⟩:=h
  exact bu.mpr h
theorem Gz {i:Nat} {d:D} {δ:aq} {R:aq->Store->Prop}:Wp (hName i d δ st) R↔R (δ.set i (some d)) st:=bu
theorem T2 {δ:aq} {R:aq->Store->Prop}:Wp (mN [] δ st) R↔R δ st:=bu
theorem T3 {f:D->aq->Dm aq} {g:List D->aq->Dm aq} {d:D} {ds:List D} {δ:aq} {R:aq->Store->Prop}:Wp (cg f g (d :: ds) δ st) R↔Wp (f d δ st) fun δ1 st1=>Wp (g ds δ1 st1) R:=dh
theorem T5 {n:Nat} {f:List D->aq->Dm aq} {ds:List D} {δ:aq} {R:aq->Store->Prop}:Wp (l6 n f (.tup ds) δ st) R↔ds.length=n/\Wp (f ds δ st) R:=by
 show Wp (if ds.length=n then f ds δ st else none) R↔_
 rw [oO,fP]
 split
 ·next h=>exact ⟨fun q=>⟨h,q⟩,fun q=>q.2⟩
 ·next h=>exact ⟨False.elim,fun q=>h q.1⟩
theorem T6 {fo fi:aq->Dm D} {d:D} {δ:aq} {R:aq->Store->Prop}:Wp (hSub fo fi d δ st) R↔Wp (fo δ st) fun o st1=>Wp (fi δ st1) fun i st2=>∃ r k xs j,o=.ref r/\i=.int k/\own st2 r=some xs/\m8 xs.length k=some j/\R δ (st2.set r (.lst (xs.set j d))):=by
 unfold hSub;rw [dh];simp only [dh]
 constructor <;> refine fun h=>aV h fun o s h=>aV h fun i s2 h=>?_
 ·split at h
  ·split at h
   ·next xs hx =>
    split at h
    ·next j hj=>exact ⟨_,_,xs,j,rfl,rfl,hx,hj,bu.mp h⟩
    ·exact (fP.mp h).elim
   ·exact (fP.mp h).elim
  ·exact (fP.mp h).elim
 ·obtain ⟨r,k,xs,j,rfl,rfl,hx,hj,h⟩:=h
  simp only [hx,hj]
  exact bu.mpr h
theorem T7 {a:D} {c:String}:Wp (pd [a,.ty c] st) Q↔rO st a=some c/\Q (.bl true) st:=by
 constructor
 ·rintro ⟨b,s,e,q⟩
  simp only [pd] at e
  split at e
  ·next T hT =>
   split at e
   ·next h=>cases e;subst h;exact ⟨hT,q⟩
   ·cases e
  ·cases e
 ·rintro ⟨h,q⟩
  refine ⟨_,_,?_,q⟩
  simp only [pd,h,if_true]
theorem KA {δ:aq} {R:Bool->Store->Prop}:Wp (di δ st) R↔R true st:=bu
end
theorem GA {α:Type} (x:α) (xs:List α):eK (x :: xs) 0=some x:=by
 unfold eK m8
 rw [if_pos (by decide),if_pos (by simp only [YE];omega)]
 rfl
theorem GB {α:Type} (x y:α) (xs:List α):eK (x :: y :: xs) 1=some y:=by
 unfold eK m8
 rw [if_pos (by decide),if_pos (by simp only [YE];omega)]
 rfl
theorem ze {α:Type} {a:α} {l:List α}:(a :: l)[0]?=some a:=List.getElem?_cons_zero
theorem zf {α:Type} {a:α} {l:List α} {i:Nat}:(a :: l)[i + 1]?=l[i]?:=List.getElem?_cons_succ
theorem zg {α:Type} {a b:α} {l:List α}:(a :: l).set 0 b=b :: l:=List.set_cons_zero
theorem zh {α:Type} {a b:α} {l:List α} {i:Nat}:(a :: l).set (i + 1) b=a :: l.set i b:=List.set_cons_succ
theorem zi {α:Type} (a b:α):(some a=some b)=(a=b):=Option.some.injEq a b
theorem Du {α:Type} {p:α->Prop} {a':α}:(∃ a,a'=a/\p a)↔p a':=exists_eq_left'
theorem KC {α:Type} {p:α->Prop} {a':α}:(∃ a,a=a'/\p a)↔p a':=exists_eq_left
theorem Dw {α:Type} {p:α->Prop} {b:Prop}:(∃ x,b/\p x)↔b/\∃ x,p x:=exists_and_left
theorem Dx (a b:Int):(D.int a=D.int b)=(a=b):=D.int.injEq a b
theorem KD (a b:Bool):(D.bl a=D.bl b)=(a=b):=D.bl.injEq a b
theorem Dy (a b:Str):(D.str a=D.str b)=(a=b):=D.str.injEq a b
theorem Dz (a b:List D):(D.tup a=D.tup b)=(a=b):=D.tup.injEq a b
theorem DA (a b:Nat):(D.ref a=D.ref b)=(a=b):=D.ref.injEq a b
theorem zj {α:Type} (a:α) (l:List α) (b:α) (m:List α):(a :: l=b :: m)=(a=b/\l=m):=List.cons.injEq a l b m
theorem zk {α β:Type} (a:α) (b:β) (c:α) (d:β):((a,b)=(c,d))=(a=c/\b=d):=Prod.mk.injEq a b c d
theorem zm (p:Prop):(p/\True)=p:=and_true p
theorem zo (p:Prop):(True/\p)=p:=true_and p
theorem zp:(!true)=false:=rfl
theorem zq:(!false)=true:=rfl
theorem KG:(false=true)=False:=by simp
theorem DB {α:Type} {h:Decidable False} (t e:α):@ite α False h t e=e:=if_false t e
theorem DC {α:Type} {h:Decidable True} (t e:α):@ite α True h t e=t:=if_true t e
def bF:=And.intro @yJ (And.intro @Ku (And.intro @Dg (And.intro @Dh (And.intro @Di (And.intro @yK (And.intro @S1 (And.intro @yL (And.intro @yM (And.intro @S2 (And.intro @yN (And.intro @yO (And.intro @Dj (And.intro @xb (And.intro @S3 (And.intro @yP (And.intro @S4 (And.intro @S5 (And.intro @S6 (And.intro @Dk (And.intro @Dl (And.intro @yQ (And.intro @yR (And.intro @Dn (And.intro @Dp (And.intro @Dq (And.intro @Dr (And.intro @yS (And.intro @yT (And.intro @S7 (And.intro @yU (And.intro @yV (And.intro @yW (And.intro @yX (And.intro @yZ (And.intro @Oa (And.intro @y2 (And.intro @y3 (And.intro @S8 (And.intro @y4 (And.intro @y6 (And.intro @S9 (And.intro @Ta (And.intro @Tb (And.intro @Tc (And.intro @Td (And.intro @Te (And.intro @Tf (And.intro @Tg (And.intro @Ti (And.intro @Tq (And.intro @Tr (And.intro @za (And.intro @Ts (And.intro @Tt (And.intro @Tv (And.intro @rZ (And.intro @Tx (And.intro @Tz (And.intro @TB (And.intro @TC (And.intro @TF (And.intro @TH (And.intro @TJ (And.intro @TK (And.intro @TL (And.intro @TM (And.intro @zb (And.intro @TN (And.intro @TQ (And.intro @Oe (And.intro @zc (And.intro @zd (And.intro @TU (And.intro @TV (And.intro @TX (And.intro @TY (And.intro @T1 (And.intro @Gz (And.intro @T2 (And.intro @T3 (And.intro @T5 (And.intro @T6 (And.intro @T7 (And.intro @KA (And.intro @GA (And.intro @GB (And.intro @ze (And.intro @zf (And.intro @zg (And.intro @zh (And.intro @zi (And.intro @Du (And.intro @KC (And.intro @Dw (And.intro @Dx (And.intro @KD (And.intro @Dy (And.intro @Dz (And.intro @DA (And.intro @zj (And.intro @zk (And.intro @zm (And.intro @zo (And.intro @zp (And.intro @zq (And.intro @KG (And.intro @DB (@DC))))))))))))))))))))))))))))))))))))))))))))))))))))))))))))))))))))))))))))))))))))))))))))))))))))))))))))
theorem bS {α:Type} {m:Option (α×Store)} {Q:α->Store->Prop} (h:∀ Q':α->Store->Prop,(∀ a st,Q a st->Q' a st)->Wp m Q'):Wp m Q:=h Q fun _ _ h=>h
section
variable {X:Cx} {K:Zfr}
theorem Oh:∀ {ns:List Int},(∀ i∈ns,JC i)->PyData.weightAll (cW ns)<=65 * ns.length
 | [],_=>by show PyData.weightAll []<=0;simp only [PyData.weightAll];exact Yd _
 | n :: r,h=>by
  have ih:=Oh (ns:=r) fun i hi=>h i (Yg _ hi)
  have hn:=h n Ye
  have hw:(PyData.int n).weight<=64:=by
   simp only [PyData.weight]
   split
   ·omega
   ·have:n.natAbs < 2 ^ 63:=by unfold JC at hn;omega
    have h2:n.natAbs.log2 < 63:=by
     by_cases h0:n.natAbs=0
     ·rw [h0];decide
     ·exact (Nat.log2_lt h0).mpr this
    omega
  show PyData.weightAll (PyData.int n :: cW r)<=65 * (r.length + 1)
  simp only [PyData.weightAll]
  omega
def pj (K:Zfr):V->List V->Hp->VK->Prop:=fun x vs H Q=>∃ (a:Addr) (ns:List Int) (v:Int),x=.ref a/\vs=[.int v]/\iy K H a (ns.map V.int)/\v∈ns/\ns.length<=1000/\(∀ i∈ns,JC i)/\Q (.int (ns.idxOf v:Int)) H
theorem T8:vT X "list.index" (pj X.K):=by
 intro pins s σ H x xs v us Q I rx rv h
 obtain ⟨a,ns,y,rfl,rfl,hq,hm,hl,hb,q⟩:=h
 cases rx
 obtain ⟨u,rfl,t,rfl⟩:=vals1 rv
 obtain ⟨its,r,pl,hz⟩:=I.list hq
 exact PyProof.Rows.index_list_ints (vs:=its) pl.isList (Mq r) (by
  have hw:=Oh hb
  have c1:(PyData.list (List.map PyData.int ns)).canLay0=true:=x8 ns
  have c2:(PyData.list (List.map PyData.int ns)).depth<=64:=by show PyData.depthAll (cW ns) + 1<=64;rw [Az];omega
  have c3:(PyData.list (List.map PyData.int ns)).weight<=2 ^ 20:=by simp only [PyData.weight];exact Yv hw (by omega)
  show (_ && _ && _)=true
  rw [c1,decide_eq_true c2,decide_eq_true c3];rfl) hm ⟨.int _,H,I.tok _,⟨_,rfl⟩,q⟩
theorem T9 (hK:X.K=K):vT X "list.index" (pj K):=by subst hK;exact T8
theorem Ua:wR K "list" (pj K) kh:=by
 intro ρ H st x xs a as b st' Q l rx tw e q
 unfold kh at e
 split at e
 ·split at e
  ·next ns hn =>
   split at e
   ·next hm =>
    cases e
    obtain ⟨v,rfl,r⟩:=tw.one'
    cases r
    cases rx with
    | ref hi =>
     obtain ⟨ds,h1,h2⟩:=Y0.mp hn
     obtain ⟨vs,s,r⟩:=l.items hi h1
     cases Gv r h2
     exact ⟨_,ns,_,rfl,rfl,s,hm.1,hm.2.1,hm.2.2,q _ H ρ .refl l (.int _)⟩
   ·cases e
  ·cases e
 ·cases e
end
section
variable {st:Store} {Q:D->Store->Prop}
theorem Oi (n:Nat) (L:List Int):ck (fH st (n + 1)) (L.map D.int)=some (cW L):=wW (f:=fH st (n + 1)) (g:=D.int) (k:=PyData.int) (fun _=>by simp only [fH]) L
theorem KH (a b:List PyData):PyData.eqv (.list a) (.list b)=PyData.eqvAll a b:=by simp only [PyData.eqv]
theorem GD (a b:List PyData):PyData.eqv (.tuple a) (.tuple b)=PyData.eqvAll a b:=by simp only [PyData.eqv]
theorem Oj {neg:Bool} {a b:Nat} {L M:List Int} (ha:items st a=some (L.map D.int)) (hb:items st b=some (M.map D.int)):Wp (kJ neg (.ref a) (.ref b) st) Q↔Q (.bl (if neg then !decide (L=M) else decide (L=M))) st:=by
 have p1:∀ (i:Nat) (N:List Int),items st i=some (N.map D.int)->fH st 20 (.ref i)=some (.list (cW N)):=fun i N h=>by
  simp only [fH,h]
  rw [Oi];rfl
 have dp:∀ N:List Int,PyData.depth (.list (cW N))<=1:=fun N=>by show PyData.depthAll (cW N) + 1<=1;rw [Az];omega
 rw [Kz]
 constructor
 ·rintro ⟨p,q,h1,h2,_,h⟩
  rw [p1 a L ha] at h1
  rw [p1 b M hb] at h2
  cases h1
  cases h2
  rw [KH,Ci] at h
  exact h
 ·intro h
  refine ⟨_,_,p1 a L ha,p1 b M hb,⟨x8 L,x8 M,by have:=dp L;omega⟩,?_⟩
  rw [KH,Ci]
  exact h
def DE (rs:List (List Int)):D:=.tup (rs.map fun r=>.tup (r.map D.int))
theorem KI (rs:List (List Int)):fH st 20 (DE rs)=some (.tuple (rs.map kW)):=by
 unfold DE
 simp only [fH]
 rw [wW (f:=fH st 19) (g:=fun r:List Int=>D.tup (r.map D.int)) (k:=kW) (fun r=>by simp only [fH];rw [Oi];rfl) rs]
 rfl
theorem KJ:∀ (rs ss:List (List Int)),PyData.eqvAll (rs.map kW) (ss.map kW)=decide (rs=ss)
 | [],[]=>rfl
 | [],_ :: _=>rfl
 | _ :: _,[]=>rfl
 | r :: rs,s :: ss=>by
  show (PyData.eqv (kW r) (kW s) && PyData.eqvAll (rs.map kW) (ss.map kW))=decide (r :: rs=s :: ss)
  rw [KJ rs ss]
  unfold kW
  rw [GD,Ci]
  by_cases h:r=s
  ·subst h;simp
  ·simp [h]
theorem Ub {neg:Bool} {rs ss:List (List Int)}:Wp (kJ neg (DE rs) (DE ss) st) Q↔Q (.bl (if neg then !decide (rs=ss) else decide (rs=ss))) st:=by
 have dp:∀ rs:List (List Int),PyData.depth (.tuple (rs.map kW))<=2:=fun N=>by show PyData.depthAll (N.map kW) + 1<=2;have:=MT N;omega
 rw [Kz]
 constructor
 ·rintro ⟨p,q,h1,h2,_,h⟩
  rw [KI] at h1 h2
  cases h1
  cases h2
  rw [GD,KJ] at h
  exact h
 ·intro h
  refine ⟨_,_,KI rs,KI ss,⟨JB rs,JB ss,by have:=dp rs;omega⟩,?_⟩
  rw [GD,KJ]
  exact h
end
def bp (st:Store) (f:Nat):Prop:=∃ o m:Int,st[f]?=some (.lst [.int o,.int m])/\0<=o/\0<=m/\m < 4294967296
theorem DF:m8 2 0=some 0:=by decide
theorem DG:m8 2 1=some 1:=by decide
theorem qo (n:Nat):aG 0 n=(af.upto n).map D.int:=by
 unfold aG af.upto
 rw [YF]
 apply YU
 intro i _
 simp
theorem Uc (L:List Int) (j:Nat):(L.map D.int).eraseIdx j=(L.eraseIdx j).map D.int:=by
 induction L generalizing j with
 | nil=>rfl
 | cons a r ih =>
  cases j with
  | zero=>rfl
  | succ j=>show D.int a :: (r.map D.int).eraseIdx j=_;rw [ih];rfl
theorem Ud {L:List Int} {j:Nat} (h:j < L.length):(L[j] :: L.eraseIdx j).Perm L:=by
 induction L generalizing j with
 | nil=>exact absurd h (YY _)
 | cons a r ih =>
  cases j with
  | zero=>exact List.Perm.refl _
  | succ j =>
   have:=ih (j:=j) (by simpa using h)
   exact (List.Perm.swap _ _ _).trans (this.cons a)
theorem bp.keep {st st':Store} {f:Nat} (h:bp st f) (e:Ex [] st st'):bp st' f:=by
 obtain ⟨o,m,e1,r⟩:=h
 exact ⟨o,m,e.keep _ _ e1 (by simp),r⟩
theorem bp.ne {st:Store} {f i:Nat} {o:O} (h:bp st f) (hi:i≠f):bp (st.set i o) f:=by
 obtain ⟨x,m,e1,r⟩:=h
 exact ⟨x,m,by rw [Yp hi];exact e1,r⟩
theorem bp.lt {st:Store} {f:Nat} (h:bp st f):f < st.length:=let ⟨_,_,e,_⟩:=h;eV e
theorem qq {xs:List Int} {i:Int} (h0:0<=i) (h1:i < (xs.length:Int)):eK (xs.map D.int) i=some (.int (af.app xs i)):=by
 have e:(xs.map D.int)[i.toNat]?=some (.int (af.app xs i)):=by rw [Yi,af.pT h0 h1];rfl
 have:=Av e
 rwa [YG h0] at this
theorem DH {xs:List Int} {i:Nat} {d:D} (h:(xs.map D.int)[i]?=some d):∃ x,xs[i]?=some x/\d=.int x:=by
 rw [Yi] at h
 obtain ⟨x,h1,h2⟩:=YD.mp h
 exact ⟨x,h1,h2.symm⟩
theorem KL (x:Int):∀ (ns:List Int),vW (.int x) (ns.map V.int)=ns.contains x
 | []=>rfl
 | n :: r=>by
  have e:=KL x r
  unfold vW at e ⊢
  rw [Yu,Y5,e,List.contains_cons]
  congr 1
  show (n == x)=(x == n)
  exact Bool.beq_comm
theorem GF {st:Store} {Q:D->Store->Prop} {neg:Bool} {x:Int} {c:D} {ns:List Int} (hc:cX st c=some (ns.map D.int)):Wp (rX neg (.int x) c st) Q↔Q (.bl (if neg then !ns.contains x else ns.contains x)) st:=by
 rw [Dt]
 constructor
 ·rintro ⟨v,ds,vs,h1,h2,h3,h⟩
  cases h1
  rw [hc] at h2
  cases h2
  rw [Og] at h3
  cases h3
  rw [KL] at h
  exact h
 ·intro h
  refine ⟨_,_,_,rfl,hc,Og ns,?_⟩
  rw [KL]
  exact h
def bT (xs ys:List Int):D:=.tup [.tup (xs.map D.int),.tup (ys.map D.int)]
structure pk (l9 st:Store) (f r u:Nat) (n:Nat) (X Y:List Int):Prop where
 hr:st[r]?=some (.lst (X.map D.int))
 hu:st[u]?=some (.lst (Y.map D.int))
 ne:r≠u
 r0:l9.length<=r
 u0:l9.length<=u
 tX:af.Tn n X
 tY:af.Tn n Y
 fd:bp st f
 ex:Ex [f] l9 st
section
variable {l9 st st':Store} {f r u n:Nat} {X Y Z:List Int} {o:O}
theorem pk.keep (h:pk l9 st f r u n X Y) (e:Ex [] st st'):pk l9 st' f r u n X Y:=⟨e.keep _ _ h.hr (by simp),e.keep _ _ h.hu (by simp),h.ne,h.r0,h.u0,h.tX,h.tY,h.fd.keep e,h.ex.trans e.any⟩
theorem pk.zt (h:pk l9 st f r u n X Y) (t:af.Tn n Z):pk l9 (st ++ [.lst (Z.map D.int)]) f st.length u n Z Y:=⟨jE,jP h.hu,by have:=eV h.hu;omega,h.ex.len,h.u0,t,h.tY,h.fd.keep (Ex.cn _),h.ex.app _⟩
theorem pk.zu (h:pk l9 st f r u n X Y) (t:af.Tn n Z):pk l9 (st ++ [.lst (Z.map D.int)]) f r st.length n X Z:=⟨jP h.hr,jE,by have:=eV h.hr;omega,h.r0,h.ex.len,h.tX,t,h.fd.keep (Ex.cn _),h.ex.app _⟩
theorem pk.put (h:pk l9 st f r u n X Y) (t:af.Tn n Z) (hf:f < l9.length):pk l9 (st.set r (.lst (Z.map D.int))) f r u n Z Y:=⟨Yj (eV h.hr),by rw [Yp h.ne];exact h.hu,h.ne,h.r0,h.u0,t,h.tY,h.fd.ne (by have:=h.r0;omega),h.ex.loc h.r0⟩
end
theorem Ol (n:Nat):(af.qJ n).map D.int=aG 1 ((n:Int) - 1).toNat ++ [.int 0]:=by
 unfold af.qJ aG
 rw [Ys,YF,show ((n:Int) - 1).toNat=n - 1 by omega]
 rfl
theorem ve {lo hi:Int} (h:0<=lo/\lo<=10000/\0<=hi/\hi<=10000):rN lo hi=true:=by
 unfold rN;rw [YA,decide_eq_true_eq];exact ⟨by omega,jz (by omega)⟩
theorem zv (w n:Nat):(af.sU w n).map D.int=aG 1 ((w:Int) - 1).toNat ++ [.int 0] ++ aG (w:Int) ((n:Int) - (w:Int)).toNat:=by
 unfold af.sU aG
 rw [Ys,Ys,YF,YF,show ((w:Int) - 1).toNat=w - 1 by omega,show ((n:Int) - (w:Int)).toNat=n - w by omega]
 rfl
theorem Ue (xs:List D) (j:Nat):cutD xs none (some (j:Int))=xs.take j:=by
 unfold cutD
 rw [HT.Qj,HT.Qk,List.drop_zero,Nat.sub_zero,List.take_eq_take_iff];omega
theorem zw {w n:Nat} (h0:0 < w) (h:w < n):(af.uX w n).map D.int=cutD ([D.int (w:Int)] ++ aG 1 ((w:Int) - 1).toNat ++ aG ((w:Int) + 1) ((n:Int) - ((w:Int) + 1)).toNat ++ [.int 0]) none (some (n:Int)):=by
 rw [Ue,List.take_of_length_le (by simp [gh];omega)]
 unfold af.uX aG
 rw [Ys,Ys,Ys,YF,YF,show ((w:Int) - 1).toNat=w - 1 by omega,show ((n:Int) - ((w:Int) + 1)).toNat=n - (w + 1) by omega]
 rfl
def nY (n:Nat) (xs ys:List Int):Prop:=af.Tn n xs/\af.Tn n ys/\∀ x:Int,0<=x->x < (n:Int)->af.jI xs ys x
theorem Om {xs:List Int} {v:Int} (h:v∈xs):xs.findIdx? (fun i=>decide (i=v))=some (xs.idxOf v):=by
 induction xs with
 | nil=>exact nomatch h
 | cons a r ih =>
  rw [List.findIdx?_cons]
  by_cases e:a=v
  ·subst e;simp
  ·have hm:v∈r:=by
    rcases YC.mp h with h | h
    ·exact absurd h.symm e
    ·exact h
   rw [decide_eq_false e,ih hm,List.idxOf_cons,show (a == v)=false by simpa using e]
   rfl
theorem Ug {xs:List D} {lo hi:Option Int} {d:D} (h:d∈cutD xs lo hi):d∈xs:=List.mem_of_mem_drop (List.mem_of_mem_take h)
theorem Uh (xs:List D) (lo hi:Option Int):(cutD xs lo hi).length<=xs.length:=by
 unfold cutD;rw [Y1,List.length_drop];omega
def qU (S:Src) (ds:List D) (st:Store):Prop:=∀ (i:Nat) (st2:Store),i<=ds.length->Ex [] st st2->S.at i st2=some ds[i]?
theorem Ui {st st':Store} {r:Nat} {ds:List D} (h:items st r=some ds) (e:Ex [] st st'):items st' r=some ds:=by
 unfold items at h ⊢
 cases hx:st[r]? with
 | none=>rw [hx] at h;cases h
 | some o=>rw [e.keep _ _ hx (by simp)];rw [hx] at h;exact h
theorem rQ (ds:List D) (st:Store):qU (.fix ds) ds st:=fun i st2 hi _=>by
 show (if i<=ds.length then some ds[i]? else none)=_
 rw [if_pos hi]
theorem Uj {ds:List D} {st:Store} {r:Nat} (h:items st r=some ds):qU (.live r) ds st:=fun i st2 hi e=>by
 show (items st2 r).map _=_
 rw [Ui h e];rfl
theorem r6 {δ:aq} {st:Store} {fi:aq->Dm Src} {js:List Nat} {f:aq->Dm D} {Q:D->Store->Prop} (ds:List D) (h:D->D) (hi:Wp (fi δ st) fun S st1=>qU S ds st1/\Ex [] st st1) (hl:ds.length < 100000)
  (step:∀ d∈ds,∀ st1,Ex [] st st1->Wp (f (some d :: js.map fun j=>δ.getD j none) st1) fun y st2=>y=h d/\Ex [] st1 st2) (fin:∀ st',Ex [] st st'->Q (.ref st'.length) (st' ++ [.lst (ds.map h)])):Wp (cO fi 1 js (hName 0) di f δ st) Q:=by
 obtain ⟨S,st1,e1,hS,k1⟩:=hi
 refine Gy ds (fun i ys δ' jF=>(∃ v,δ'=v :: js.map fun j=>δ.getD j none)/\ys=(ds.take i).map h/\Ex [] st1 jF) ⟨S,st1,e1,fun i ys δ' jF hi' hp=>hS i jF hi' hp.2.2,⟨none,rfl⟩,rfl,Ex.refl⟩ hl ?_ ?_ ?_
 ·rintro i ys δ' jF ⟨_,rfl,_⟩
  rw [X9,Y1];omega
 ·rintro i d ys δ' jF hd ⟨⟨v,rfl⟩,rfl,k8⟩
  rw [Gz]
  show Wp (di _ _) _
  rw [KA]
  refine ⟨fun _=>?_,fun h=>absurd h (by decide)⟩
  refine aV (step d (Yf hd) jF (k1.trans k8)) ?_
  rintro y pM ⟨rfl,k9⟩
  refine ⟨⟨some d,rfl⟩,?_,k8.trans k9⟩
  obtain ⟨hlt,e⟩:=Ya.mp hd
  rw [YB hlt,Ys,e];rfl
 ·rintro ys δ' jF ⟨_,rfl,k8⟩
  rw [YS]
  exact fin jF (k1.trans k8)
theorem vf {xs:List Int} {d:D} (h:d∈xs.map D.int):∃ x∈xs,d=.int x:=by
 obtain ⟨x,hx,rfl⟩:=Yt.mp h
 exact ⟨x,hx,rfl⟩
theorem zx {xs:List Int} {f:Int->Int} {h:D->D} (e:∀ x∈xs,h (.int x)=.int (f x)):(xs.map D.int).map h=(xs.map f).map D.int:=by
 rw [YF,YF]
 exact YU fun x hx=>e x hx
def inD:D->Int
 | .int i=>i
 | _=>0
section
variable {st:Store} {Q:D->Store->Prop}
theorem KN {neg:Bool} {xs ys zs ws:List Int}:Wp (kJ neg (bT xs ys) (bT zs ws) st) Q↔Q (.bl (if neg then !decide ([xs,ys]=[zs,ws]) else decide ([xs,ys]=[zs,ws]))) st:=Ub (rs:=[xs,ys]) (ss:=[zs,ws])
end
theorem Oo (zs:List Int):(zs.map D.int).map inD=zs:=by rw [YF];exact List.map_id zs
theorem _root_.af.qV {n:Nat} {xs ys p:List Int} (fl:nY n xs ys) (tp:af.Tn n p) (n0:0 < n):nY n (af.anew xs p) (af.anew ys p):=by
 obtain ⟨tx,ty,all⟩:=fl
 have tX:=tx.anew tp
 have tY:=ty.anew tp
 refine ⟨tX,tY,fun x x0 x1=>?_⟩
 obtain ⟨a0,a1⟩:=tp.app (i:=0) (by decide) (by omega)
 have hb:∀ y:Int,0<=y->y < (n:Int)->y∈af.bf (af.anew xs p) (af.anew ys p) (af.app p 0) n:=fun y y0 y1=>by
  rw [af.JR tx ty tp (by decide) (by omega) n]
  obtain ⟨b0,b1⟩:=tp.ny y0 y1
  exact Yt.mpr ⟨af.app (af.inv p) y,af.Nq tx ty (by decide) (by omega) all b0 b1,tp.cU y0 y1⟩
 have hF:=af.JQ tX tY (s:=0) (by decide) (by omega)
 have nd:=af.yk (af.anew xs p) (af.anew ys p) 0 n
 have bd:=af.rE tX tY (s:=0) (by decide) (by omega) n
 have Uk:∀ k,∀ y∈af.bf (af.anew xs p) (af.anew ys p) 0 k,af.jI (af.anew xs p) (af.anew ys p) y:=by
  intro k
  induction k with
  | zero=>intro y hy;rw [Yr.mp (show y∈[(0:Int)] from hy)];exact .zero
  | succ k ih =>
   intro y hy
   have hy':y∈(match (af.bf (af.anew xs p) (af.anew ys p) 0 k)[k]? with | some x=>af.visit (af.anew xs p) (af.anew ys p) (af.bf (af.anew xs p) (af.anew ys p) 0 k) x | none=>af.bf (af.anew xs p) (af.anew ys p) 0 k):=hy
   split at hy'
   ·next z hz =>
    have wK:=ih z (Yf hz)
    rcases af.qL.mp hy' with hy' | rfl
    ·rcases af.qL.mp hy' with hy' | rfl
     ·exact ih y hy'
     ·exact wK.r
    ·exact wK.u
   ·exact ih y hy'
 refine Uk n x ?_
 have z0:(0:Int)∈af.bf (af.anew xs p) (af.anew ys p) 0 n:=by
  have:=af.yj (af.anew xs p) (af.anew ys p) 0 0 n
  rw [Nat.zero_add] at this
  exact this.subset (show (0:Int)∈[(0:Int)] by simp)
 have back:∀ k,(∃ y∈af.bf (af.anew xs p) (af.anew ys p) (af.app p 0) k,y∈af.bf (af.anew xs p) (af.anew ys p) 0 n)->af.app p 0∈af.bf (af.anew xs p) (af.anew ys p) 0 n:=by
  intro k
  induction k with
  | zero =>
   rintro ⟨y,hy,uQ⟩
   rw [Yr.mp (show y∈[af.app p 0] from hy)] at uQ
   exact uQ
  | succ k ih =>
   rintro ⟨y,hy,uQ⟩
   have hy':y∈(match (af.bf (af.anew xs p) (af.anew ys p) (af.app p 0) k)[k]? with | some x=>af.visit (af.anew xs p) (af.anew ys p) (af.bf (af.anew xs p) (af.anew ys p) (af.app p 0) k) x | none=>af.bf (af.anew xs p) (af.anew ys p) (af.app p 0) k):=hy
   split at hy'
   ·next z hz =>
    have AK:=Yf hz
    obtain ⟨c0,c1⟩:=af.rE tX tY a0 a1 k z AK
    rcases af.qL.mp hy' with hy' | rfl
    ·rcases af.qL.mp hy' with hy' | rfl
     ·exact ih ⟨y,hy',uQ⟩
     ·exact ih ⟨z,AK,af.CI tX nd bd (fun x hx=>(hF x hx).1) c0 c1 uQ⟩
    ·exact ih ⟨z,AK,af.CI tY nd bd (fun x hx=>(hF x hx).2) c0 c1 uQ⟩
   ·exact ih ⟨y,hy',uQ⟩
 have hp0:=back n ⟨0,hb 0 (by decide) (by omega),z0⟩
 have fwd:∀ k,∀ y∈af.bf (af.anew xs p) (af.anew ys p) (af.app p 0) k,y∈af.bf (af.anew xs p) (af.anew ys p) 0 n:=by
  intro k
  induction k with
  | zero=>intro y hy;rw [Yr.mp (show y∈[af.app p 0] from hy)];exact hp0
  | succ k ih =>
   intro y hy
   have hy':y∈(match (af.bf (af.anew xs p) (af.anew ys p) (af.app p 0) k)[k]? with | some x=>af.visit (af.anew xs p) (af.anew ys p) (af.bf (af.anew xs p) (af.anew ys p) (af.app p 0) k) x | none=>af.bf (af.anew xs p) (af.anew ys p) (af.app p 0) k):=hy
   split at hy'
   ·next z hz =>
    have wK:=ih z (Yf hz)
    rcases af.qL.mp hy' with hy' | rfl
    ·rcases af.qL.mp hy' with hy' | rfl
     ·exact ih y hy'
     ·exact (hF z wK).1
    ·exact (hF z wK).2
   ·exact ih y hy'
 exact fwd n x (hb x x0 x1)
theorem zy (p:Key×D) (r:List (Key×D)) (k:Key):dC (p :: r) k=if p.1=k then some p.2 else dC r k:=by
 unfold dC
 rw [Y7]
 by_cases e:p.1=k
 ·rw [decide_eq_true e,if_pos e];rfl
 ·rw [decide_eq_false e,if_neg e]
theorem Um (kvs:List (Key×D)) (k j:Key) (y:D):dC (putD kvs k y) j=if j=k then some y else dC kvs j:=by
 unfold putD
 by_cases a:(kvs.any fun kv=>decide (kv.1=k))=true
 ·rw [if_pos a]
  induction kvs with
  | nil=>simp at a
  | cons p r ih =>
   rw [Yu,zy,zy]
   by_cases e:p.1=k
   ·rw [if_pos e]
    by_cases ej:j=k
    ·rw [if_pos ej,if_pos (show (p.1,y).1=j from e.trans ej.symm)]
    ·rw [if_neg ej,if_neg (show ¬ (p.1,y).1=j from fun z=>ej (z.symm.trans e)),if_neg (fun z=>ej (z.symm.trans e))]
     have:∀ l:List (Key×D),dC (l.map fun kv=>if kv.1=k then (kv.1,y) else kv) j=dC l j:=by
      intro l
      induction l with
      | nil=>rfl
      | cons q l ihl =>
       rw [Yu,zy,zy,ihl]
       by_cases eq:q.1=k
       ·rw [if_pos eq,if_neg (show ¬ (q.1,y).1=j from fun z=>ej (z.symm.trans eq)),if_neg (fun z=>ej (z.symm.trans eq))]
       ·rw [if_neg eq]
     exact this r
   ·rw [if_neg e]
    have a':(r.any fun kv=>decide (kv.1=k))=true:=by
     rw [Y5,decide_eq_false e,Bool.false_or] at a
     exact a
    rw [ih a']
    by_cases ej:j=k
    ·rw [if_pos ej,if_neg (fun z=>e (z.trans ej)),if_pos ej]
    ·rw [if_neg ej,if_neg ej]
 ·rw [if_neg a]
  induction kvs with
  | nil =>
   show dC [(k,y)] j=_
   rw [zy]
   by_cases ej:j=k
   ·rw [if_pos ej.symm,if_pos ej]
   ·rw [if_neg (fun z=>ej z.symm),if_neg ej]
  | cons p r ih =>
   have a':¬ (r.any fun kv=>decide (kv.1=k))=true:=fun z=>a (by rw [Y5,z,Bool.or_true])
   have ep:p.1≠k:=fun z=>a (by rw [Y5,decide_eq_true z,Bool.true_or])
   rw [List.cons_append,zy,ih a',zy]
   by_cases ej:j=k
   ·rw [if_pos ej,if_pos ej,if_neg (fun z=>ep (z.trans ej))]
   ·rw [if_neg ej,if_neg ej]
theorem Uo (kvs:List (Key×D)) (k:Key) (v:D):(putD kvs k v).length<=kvs.length + 1:=by
 unfold putD
 split
 ·rw [X9];omega
 ·rw [Yc,YE,List.length_nil];omega
theorem Oq {st:Store} {i:Nat} {kvs:List (Key×D)} (h:st[i]?=some (.dct kvs)):jO st (.ref i)=some kvs:=by simp only [jO,h]
theorem Ot (i:Int):keyOf (.int i)=some (.inl i):=rfl
theorem Up {r:List Int} {j:Nat} (h:j < r.length) (x:Int):(r.take (j + 1)).contains x=((r.take j).contains x || x == r[j]):=by
 rw [YB h,List.contains_append]
 congr 1
 show ([r[j]]:List Int).contains x=(x == r[j])
 rw [List.contains_cons,List.contains_nil,Bool.or_false]
abbrev cS:=Bool×Int
def aY (s:cS):D:=.tup [.str (if s.1 then "s" else "t"),.int s.2]
section
variable {X:Cx} {K:Zfr}
end
section
variable {K:Zfr}
def vg (neg:Bool):D->D->Dm D
 | .bl a,.bl b,st=>some (.bl (if neg then !decide (a=b) else decide (a=b)),st)
 | _,_,_=>none
def DI (neg:Bool):R2:=fun x y H Q=>∃ a b,x=.bl a/\y=.bl b/\Q (.bl (if neg then !decide (a=b) else decide (a=b))) H
theorem zz (neg:Bool):mJ K (DI neg) (vg neg):=by
 intro ρ H st x y a c b st' Q l rx ry e q
 unfold vg at e
 split at e
 ·cases e
  cases rx
  cases ry
  exact ⟨_,_,rfl,rfl,q _ H ρ .refl l (.bl _)⟩
 ·cases e
def tN (neg:Bool):D->D->Dm D
 | a,.non,st=>some (.bl (match a with | .non=>!neg | _=>neg),st)
 | _,_,_=>none
def xg (neg:Bool):R2:=fun x y H Q=>y=.non/\Q (.bl (if neg then !decide (x=.non) else decide (x=.non))) H
theorem zA (neg:Bool):mJ K (xg neg) (tN neg):=by
 intro ρ H st x y a c b st' Q l rx ry e q
 unfold tN at e
 split at e
 ·cases e
  cases ry
  refine ⟨rfl,?_⟩
  have k:=q _ H ρ .refl l (.bl _)
  cases rx <;> cases neg <;> exact k
 ·cases e
def vh:List D->Dm D
 | [.int i],st=>some (.int (if i < 0 then -i else i),st)
 | _,_=>none
theorem zB:qP K (fun xs H Q=>∃ i,xs=[V.int i]/\Q (.int (if i < 0 then -i else i)) H) vh:=by
 intro ρ H st xs as b st' Q l rx e q
 unfold vh at e
 split at e
 ·cases e
  obtain ⟨v,rfl,r⟩:=rx.one'
  cases r
  exact ⟨_,rfl,q _ H ρ .refl l (.int _)⟩
 ·cases e
end
section
variable {X:Cx}
theorem zC:kH X (compareOp .Is) (DI false):=by
 intro pins s σ H x y v u Q I rx ry h
 obtain ⟨a,b,rfl,rfl,q⟩:=h
 cases rx
 cases ry
 exact PyProof.Rows.is_bool (kN I q (by cases a <;> cases b <;> rfl))
theorem Uq:kH X (compareOp .Is) (xg false):=xQ
end
theorem at2 {α:Type} (x y z:α) (xs:List α):eK (x :: y :: z :: xs) 2=some z:=by
 unfold eK m8
 rw [if_pos (by decide),if_pos (by simp only [YE];omega)]
 rfl
theorem Ou {α:Type} (x y z u:α) (xs:List α):eK (x :: y :: z :: u :: xs) 3=some u:=by
 unfold eK m8
 rw [if_pos (by decide),if_pos (by simp only [YE];omega)]
 rfl
section
variable {st:Store} {Q:D->Store->Prop}
theorem zD {neg a b:Bool}:Wp (vg neg (.bl a) (.bl b) st) Q↔Q (.bl (if neg then !decide (a=b) else decide (a=b))) st:=bu
theorem Ur {neg:Bool}:Wp (tN neg .non .non st) Q↔Q (.bl (!neg)) st:=bu
theorem Us {neg:Bool} {i:List D}:Wp (tN neg (.tup i) .non st) Q↔Q (.bl neg) st:=bu
theorem zE {i:Int}:Wp (vh [.int i] st) Q↔Q (.int (if i < 0 then -i else i)) st:=bu
theorem zF {neg a b:Bool}:Wp (jx neg (.bl a) (.bl b) st) Q↔Q (.bl (if neg then !decide (a=b) else decide (a=b))) st:=by
 have e:decide (V.bl a=V.bl b)=decide (a=b):=by
  by_cases h:a=b
  ·subst h;simp
  ·simp [h]
 show Wp (if oY (V.bl a) (V.bl b)=true then some (D.bl (if neg then !decide (V.bl a=V.bl b) else decide (V.bl a=V.bl b)),st) else none) Q↔_
 rw [if_pos (show oY _ _=true from rfl),bu,e]
end
theorem Ut {δ:aq} {st:Store} {fi:aq->Dm Src} {js:List Nat} {f:aq->Dm D} {Q:D->Store->Prop} (ds:List D) (P:Nat->D->Prop) (I:Store->Prop)
  (hi:Wp (fi δ st) fun S st1=>(∀ i st2,i<=ds.length->I st2->S.at i st2=some ds[i]?)/\I st1) (hl:ds.length < 100000)
  (step:∀ i d,ds[i]?=some d->∀ st1,I st1->Wp (f (some d :: js.map fun j=>δ.getD j none) st1) fun y st2=>P i y/\I st2)
  (fin:∀ ys st',I st'->ys.length=ds.length->(∀ i y,ys[i]?=some y->P i y)->Q (.ref st'.length) (st' ++ [.lst ys])):Wp (cO fi 1 js (hName 0) di f δ st) Q:=by
 obtain ⟨S,st1,e1,hS,k1⟩:=hi
 refine Gy ds (fun i ys δ' jF=>(∃ v,δ'=v :: js.map fun j=>δ.getD j none)/\ys.length=i/\(∀ i y,ys[i]?=some y->P i y)/\I jF) ⟨S,st1,e1,fun i ys δ' jF hi' hp=>hS i jF hi' hp.2.2.2,⟨none,rfl⟩,rfl,(fun i y h=>by simp at h),k1⟩ hl ?_ ?_ ?_
 ·rintro i ys δ' jF ⟨_,h,_⟩
  omega
 ·rintro i d ys δ' jF hd ⟨⟨v,rfl⟩,hlen,hP,k8⟩
  rw [Gz]
  show Wp (di _ _) _
  rw [KA]
  refine ⟨fun _=>?_,fun h=>absurd h (by decide)⟩
  refine aV (step i d hd jF k8) ?_
  rintro y pM ⟨hp,k9⟩
  refine ⟨⟨some d,rfl⟩,by rw [Yc,hlen];rfl,fun j z hz=>?_,k9⟩
  by_cases hj:j < ys.length
  ·rw [Yk hj] at hz;exact hP j z hz
  ·have hb:=eV hz
   rw [Yc,Zc] at hb
   have e:j=ys.length:=by omega
   subst e
   rw [Yw (Yd _),Y9] at hz
   cases hz
   rw [hlen];exact hp
 ·rintro ys δ' jF ⟨_,hlen,hP,k8⟩
  exact fin ys jF k8 hlen hP
def qr (x:Str):List D:=x.cps.toList.map fun c=>.str ⟨#[c]⟩
section
variable {K:Zfr}
end
section
variable {st:Store} {Q:D->Store->Prop}
end
def Ov:D->Option (List D)
 | .tup ds=>some ds
 | .str x=>some (qr x)
 | _=>none
def DJ:List D->List D->List D
 | a :: r,b :: t=>.tup [a,b] :: DJ r t
 | _,_=>[]
def Ow (fa:aq->Dm (List D)):aq->Dm Src:=fun δ st=>bnd (fa δ st) fun as st1=>match as with
 | [a,b]=>match Ov a,Ov b with
  | some ds,some es=>some (.fix (DJ ds es),st1)
  | _,_=>none
 | _=>none
section
variable {K:Zfr}
end
section
variable {st:Store}
end
def vk:List String:=["NoneType","bool","int","str","tuple","list","dict"]
def vm:List String:=["bool","int","str","tuple","list","dict"]
def zG (T c:String):Option Bool:=if vk.contains T && vm.contains c then some (T == c || (T == "bool" && c == "int")) else none
def lg (T:String):List String->Option Bool
 | []=>some false
 | c :: r=>match zG T c with
  | some true=>some true
  | some false=>lg T r
  | none=>none
def Ox:D->Option String
 | .ty n=>some n
 | _=>none
def DK:D->Option (List String)
 | .ty n=>some [n]
 | .tup ds=>ck Ox ds
 | _=>none
def qu:List D->Dm D
 | [a,c],st=>match rO st a,DK c with
  | some T,some cs=>match lg T cs with
   | some b=>some (.bl b,st)
   | none=>none
  | _,_=>none
 | _,_=>none
theorem zH {st:Store} {Q:D->Store->Prop} {a c:D} {T:String} {cs:List String} {b:Bool} (h:rO st a=some T) (hc:DK c=some cs) (hb:lg T cs=some b):Wp (qu [a,c] st) Q↔Q (.bl b) st:=by
 have e:qu [a,c] st=some (.bl b,st):=by simp only [qu,h,hc,hb]
 rw [e,bu]
section
variable {X:Cx} {K:Zfr}
theorem GG (K:Zfr) {T c:String} {b:Bool} (h:zG T c=some b):PySem.W.kitOne K (.type T) (.type c)=some b:=by
 have hh:vk.contains T=true/\vm.contains c=true:=by
  unfold zG at h
  split at h
  ·next g=>simpa using g
  ·cases h
 have h1:T∈vk:=YV.mp hh.1
 have h2:c∈vm:=YV.mp hh.2
 unfold vk at h1
 unfold vm at h2
 simp only [YC,List.not_mem_nil,or_false] at h1 h2
 rcases h1 with rfl | rfl | rfl | rfl | rfl | rfl | rfl <;> rcases h2 with rfl | rfl | rfl | rfl | rfl | rfl <;> (cases h;rfl)
theorem Oy (K:Zfr) {T:String}:∀ {cs:List String} {b:Bool},lg T cs=some b->PySem.W.kitAny K (.type T) (cs.map Value.type)=some b
 | [],b,h=>by cases h;rfl
 | c :: r,b,h=>by
  simp only [lg] at h
  split at h
  ·next e=>cases h;simp only [Yu,PySem.W.kitAny,GG K e]
  ·next e=>simp only [Yu,PySem.W.kitAny,GG K e];exact Oy K h
  ·cases h
def KO (K:Zfr) (H:Hp) (x:V) (T:String):Prop:=nt K H x (.type T)\/(T="tuple" /\ ∃ a ys,x=.ref a/\d8 K H a ys)
def DL (K:Zfr):List V->Hp->VK->Prop:=fun xs H Q=>∃ x c T cs b,xs=[x,c]/\KO K H x T/\((∃ n,c=.ty n/\cs=[n])\/∃ p,c=.ref p/\d8 K H p (cs.map V.ty))/\lg T cs=some b/\Q (.bl b) H
theorem Uu {pins:List (Addr×Obj)} {σ:St} {H:Hp} {s:Shared} {x:V} {u:Value} {T:String} (I:Inv X pins σ H s) (rx:RelV x u) (ty:KO X.K H x T):∃ Hh,PySem.W.KitX X.K u (.type T) Hh/\Hh s.heap/\u≠.builtin "__main__.__loader__#opaque" := by
 rcases ty with ty | ⟨rfl,a,ys,rfl,hs⟩
 ·generalize ht:Value.type T=t at ty
  cases ty with
  | non=>cases ht;cases (show u=Value.none from rx);exact ⟨_,PySem.W.kitx_none,True.intro,fun z=>nomatch z⟩
  | bl y=>cases ht;cases (show u=Value.bool y from rx);exact ⟨_,PySem.W.kitx_bool,True.intro,fun z=>nomatch z⟩
  | int i=>cases ht;obtain ⟨t,q⟩:=(show ∃ t,u=Value.int i t from rx);cases q;exact ⟨_,PySem.W.kitx_int,True.intro,fun z=>nomatch z⟩
  | str y=>cases ht;obtain ⟨t,q⟩:=(show ∃ t,u=Value.str y t from rx);cases q;exact ⟨_,PySem.W.kitx_str,True.intro,fun z=>nomatch z⟩
  | An y=>cases ht;obtain ⟨t,q⟩:=(show ∃ t,u=Value.float y t from rx);cases q;exact ⟨_,PySem.W.kitx_float,True.intro,fun z=>nomatch z⟩
  | @lst a xs ea =>
   cases ht
   cases (show u=Value.ref a from rx)
   obtain ⟨_,_,n,_,h1⟩:=(show cf X.prog X.w H s.heap a (.lst xs) from I.hok a _ ea)
   exact ⟨_,PySem.W.kitx_list,⟨_,h1,rfl⟩,fun z=>nomatch z⟩
  | @nL a ob xs ea =>
   cases ht
   cases (show u=Value.ref a from rx)
   obtain ⟨_,_,_,n,_,h1⟩:=(show cf X.prog X.w H s.heap a (.nL ob (.lst xs)) from I.hok a _ ea)
   exact ⟨_,PySem.W.kitx_list,⟨_,h1,rfl⟩,fun z=>nomatch z⟩
  | @tup a xs ea =>
   cases ht
   cases (show u=Value.ref a from rx)
   obtain ⟨_,_,_,p⟩:=(show cf X.prog X.w H s.heap a (.tup xs) from I.hok a _ ea)
   obtain ⟨o,h1,h2,_⟩:=p
   exact ⟨_,PySem.W.kitx_tuple,⟨o,h1,h2⟩,fun z=>nomatch z⟩
  | @dK a kvs ea =>
   cases ht
   cases (show u=Value.ref a from rx)
   obtain ⟨_,_,vs,_,p⟩:=(show cf X.prog X.w H s.heap a (.dK kvs) from I.hok a _ ea)
   obtain ⟨o,es,ep,h1,h2,_⟩:=p
   exact ⟨_,PySem.W.kitx_dict,⟨o,h1,h2.1⟩,fun z=>nomatch z⟩
  | @dT a kvs ea =>
   cases ht
   cases (show u=Value.ref a from rx)
   obtain ⟨_,_,xs,_,o,es,ep,h1,h2,_⟩:=(show cf X.prog X.w H s.heap a (.dT kvs) from I.hok a _ ea)
   exact ⟨_,PySem.W.kitx_dict,⟨o,h1,h2.1⟩,fun z=>nomatch z⟩
  | ins=>cases ht
 ·cases (show u=Value.ref a from rx)
  obtain ⟨its,_,⟨o,h1,h2,_⟩,_⟩:=I.tuple hs
  exact ⟨_,PySem.W.kitx_tuple,⟨o,h1,h2⟩,fun z=>nomatch z⟩
theorem Oz:∀ {cs:List String} {us:List Value},Vals (cs.map V.ty) us->us=cs.map Value.type
 | [],us,h=>by
  cases us with
  | nil=>rfl
  | cons a b=>cases h
 | x :: xs,us,h=>by
  cases us with
  | nil=>cases h
  | cons u us =>
   cases h with
   | cons r t =>
    rw [Oz t]
    cases (show u=Value.type x from r)
    rfl
theorem Uv:d9 X (.builtin "isinstance") (DL X.K):=by
 intro pins s σ H xs us Q I r h
 obtain ⟨x,c,T,cs,b,rfl,ty,hc,hb,q⟩:=h
 obtain ⟨u,u',rfl,ru,OA⟩:=vals2 r
 obtain ⟨Hh,Z,hh,hx⟩:=Uu I ru ty
 have fin:∀ tk,EP X pins σ Q (.bool b) { s with toks:=tk }:=fun tk=>⟨.bl b,H,I.tok tk,rfl,q⟩
 have ka:=Oy X.K hb
 rcases hc with ⟨n,rfl,rfl⟩ | ⟨p,rfl,hp⟩
 ·cases (show u'=Value.type n from OA)
  refine PySem.W.kia_one Z I.Ar hh ?_ hx fin
  simp only [lg] at hb
  split at hb
  ·next e=>cases hb;exact GG _ e
  ·next e=>cases hb;exact GG _ e
  ·cases hb
 ·cases (show u'=Value.ref p from OA)
  obtain ⟨its,rv,⟨⟨oc,od,Uw,osl⟩,e,h2,h3,n,h4⟩,_⟩:=I.oW hp
  cases (show oc=.type "tuple" from h2)
  cases (show Uw=.seq its.toArray n from h4)
  cases Oz rv
  exact PySem.W.kia_tup Z I.Ar hh e ka hx fin
theorem zI {ρ:List Addr} {H:Hp} {st:Store} {v:V} {a:D} {T:String} (l:Rl K ρ H st) (r1:Rp K ρ H v a) (hT:rO st a=some T):KO K H v T:=by
 cases r1 <;> simp only [rO] at hT
 ·cases hT;exact .inl .non
 ·cases hT;exact .inl (.bl _)
 ·cases hT;exact .inl (.int _)
 ·cases hT;exact .inl (.str _)
 ·cases hT
 ·next hi =>
  split at hT
  ·next ds hs=>cases hT;obtain ⟨vs,e1,_⟩:=l.obj _ _ _ hi hs;exact .inl (.lst e1)
  ·next ds hs=>cases hT;obtain ⟨vs,e1,_⟩:=l.obj _ _ _ hi hs;exact .inl (.dK e1)
  ·cases hT
 ·next hs hr=>cases hT;exact .inr ⟨rfl,_,_,rfl,hs⟩
theorem OB {ρ:List Addr} {H:Hp}:∀ {ws:List V} {ds:List D} {ns:List String},cE K ρ H ws ds->ck Ox ds=some ns->ws=ns.map V.ty
 | _,_,_,.nil,h=>by cases h;rfl
 | _,_,_,.cons a b,h=>by
  obtain ⟨x,t,h1,h2,rfl⟩:=AV h
  rw [OB b h2]
  cases a <;> first | (cases h1;rfl) | cases h1
theorem zJ:qP K (DL K) qu:=by
 intro ρ H st xs as b st' Q l rx e q
 unfold qu at e
 split at e
 ·next a c =>
  split at e
  ·next T cs h1 h2 =>
   split at e
   ·next bb hb =>
    cases e
    obtain ⟨v,w,rfl,r1,r2⟩:=rx.two'
    refine ⟨v,w,T,cs,bb,rfl,zI l r1 h1,?_,hb,q _ H ρ .refl l (.bl _)⟩
    cases r2 with
    | non=>cases h2
    | bl _=>cases h2
    | int _=>cases h2
    | str _=>cases h2
    | ref _=>cases h2
    | ty n=>cases h2;exact .inl ⟨n,rfl,rfl⟩
    | tup s r=>exact .inr ⟨_,rfl,OB r h2 ▸ s⟩
   ·cases e
  ·cases e
 ·cases e
end
structure sC (K:Zfr) (mg:Str->Option Value) (x:Str) (v:V) (d:D):Prop where
 ex:∃ u,mg x=some u/\RelV v u
 rp:∀ (ρ:List Addr) (H:Hp),Rp K ρ H v d
theorem KP {X:Cx} {K:Zfr} {mg:Str->Option Value} {x:Str} {v:V} {d:D} {pos:Pos} (C:sC K mg x v d) (hg:Gl X x) (hX:X.mg=mg) (hd:(x == ("__debug__" : Str))=false):PE X (.Name x pos) (tC v):=by
 obtain ⟨u,h,r⟩:=C.ex
 subst hX
 exact PZ hg h r hd
theorem KQ {K:Zfr} {mg:Str->Option Value} {x:Str} {v:V} {d:D} (C:sC K mg x v d):gg K (tC v) (fC d):=rH C.rp
theorem OC {K:Zfr} {h:Heap} {mg:Str->Option Value} (X:K.In h) (G:h.Ns mainGlobals mg) {x:Str} {a:Addr} {od:Option Addr} {its:Array Value} {n:Nat} {sl:Array (Option Value)} {vs:List V} {ds:List D} (e:PySem.W.nsIn K mainGlobals x=some (some (.ref a))) (l:K.lookup a=some ⟨.type "tuple",od,.seq its n,sl⟩)
  (ho:od=none) (hz:its.size<=sizeLine) (hv:Vals vs its.toList) (hd:∀ (ρ:List Addr) (H:Hp),cE K ρ H vs ds):∃ v,sC K mg x v (.tup ds) :=
 ⟨.ref a,⟨_,PySem.W.mg_of X G e,rfl⟩,fun ρ H=>.tup (.inr ⟨_,its,n,l,rfl,ho,rfl,hz,hv⟩) (hd ρ H)⟩
def pU:Nat->D->Prop
 | _,.int _=>True
 | _,.str x=>PyData.canLay0 (.str x)=true
 | _,.non=>True
 | n + 1,.tup ds=>∀ d∈ds,pU n d
 | _,_=>False
def jG:Nat->D->PyData
 | _,.int i=>.int i
 | _,.str x=>.str x
 | n + 1,.tup ds=>.tuple (ds.map (jG n))
 | _,_=>.none
theorem DM {α β:Type} {f:α->Option β} {g:α->β}:∀ {l:List α},(∀ x∈l,f x=some (g x))->ck f l=some (l.map g)
 | [],_=>rfl
 | a :: r,h=>by
  have h1:=h a Ye
  have h2:=DM (f:=f) (g:=g) (l:=r) fun x hx=>h x (Yg _ hx)
  simp only [ck,h1,h2,Yu]
theorem A3:∀ (n:Nat) (d:D),pU n d->∀ (m:Nat),n < m->∀ st,fH st m d=some (jG n d)
 | n,.int i,_,m + 1,_,st=>by cases n <;> rfl
 | n,.str x,_,m + 1,_,st=>by cases n <;> rfl
 | n,.non,_,m + 1,_,st=>by cases n <;> rfl
 | n,.bl b,h,_,_,_=>by cases n <;> exact h.elim
 | n,.ty b,h,_,_,_=>by cases n <;> exact h.elim
 | n,.ref b,h,_,_,_=>by cases n <;> exact h.elim
 | 0,.tup ds,h,_,_,_=>h.elim
 | n + 1,.tup ds,h,m + 1,hm,st=>by
  simp only [fH]
  rw [DM (g:=jG n) fun x hx=>A3 n x (h x hx) m (by omega) st]
  rfl
theorem KR:∀ {l:List PyData},(∀ x∈l,x.canLay0=true)->PyData.canLayAll0 l=true
 | [],_=>rfl
 | a :: r,h=>by
  simp only [PyData.canLayAll0,h a Ye,KR fun x hx=>h x (Yg _ hx),Bool.and_self]
theorem KS {n:Nat}:∀ {l:List PyData},(∀ x∈l,x.depth<=n)->PyData.depthAll l<=n
 | [],_=>YN _
 | a :: r,h=>by
  have h1:=h a Ye
  have h2:=KS fun x hx=>h x (Yg _ hx)
  simp only [PyData.depthAll]
  omega
theorem xh:∀ (n:Nat) (d:D),pU n d->(jG n d).canLay0=true/\(jG n d).depth<=n
 | n,.int i,_=>by cases n <;> exact ⟨rfl,YN _⟩
 | n,.str x,h=>by cases n <;> exact ⟨h,YN _⟩
 | n,.non,_=>by cases n <;> exact ⟨rfl,YN _⟩
 | n,.bl b,h=>by cases n <;> exact h.elim
 | n,.ty b,h=>by cases n <;> exact h.elim
 | n,.ref b,h=>by cases n <;> exact h.elim
 | 0,.tup ds,h=>h.elim
 | n + 1,.tup ds,h=>by
  refine ⟨?_,?_⟩
  ·show PyData.canLayAll0 (ds.map (jG n))=true
   exact KR fun x hx=>by
    obtain ⟨d,hd,rfl⟩:=Yt.mp hx
    exact (xh n d (h d hd)).1
  ·show PyData.depthAll (ds.map (jG n)) + 1<=n + 1
   have:=KS (n:=n) (l:=ds.map (jG n)) fun x hx=>by
    obtain ⟨d,hd,rfl⟩:=Yt.mp hx
    exact (xh n d (h d hd)).2
   omega
theorem KU {n:Nat} (ih:∀ a b:D,pU n a->pU n b->(PyData.eqv (jG n a) (jG n b)=true↔a=b)):∀ (l m:List D),(∀ x∈l,pU n x)->(∀ x∈m,pU n x)->(PyData.eqvAll (l.map (jG n)) (m.map (jG n))=true↔l=m)
 | [],[],_,_=>by simp [PyData.eqvAll]
 | [],_ :: _,_,_=>by simp [PyData.eqvAll]
 | _ :: _,[],_,_=>by simp [PyData.eqvAll]
 | a :: l,b :: m,h1,h2=>by
  have e1:=ih a b (h1 a Ye) (h2 b Ye)
  have e2:=KU ih l m (fun x hx=>h1 x (Yg _ hx)) fun x hx=>h2 x (Yg _ hx)
  simp only [Yu,PyData.eqvAll,YA,e1,e2,List.cons.injEq]
theorem DN:∀ (n:Nat) (a b:D),pU n a->pU n b->(PyData.eqv (jG n a) (jG n b)=true↔a=b):=by
 intro n
 induction n with
 | zero =>
  intro a b ha hb
  cases a <;> first | exact ha.elim | skip
  all_goals (cases b <;> first | exact hb.elim | simp [jG,PyData.eqv])
 | succ n ih =>
  intro a b ha hb
  cases a <;> first | exact ha.elim | skip
  all_goals (cases b <;> first | exact hb.elim | skip)
  all_goals first
   | (simp [jG,PyData.eqv];done)
   | skip
  next l m =>
   have:=KU ih l m ha hb
   show PyData.eqv (.tuple (l.map (jG n))) (.tuple (m.map (jG n)))=true↔_
   rw [GD,this]
   constructor
   ·rintro rfl;rfl
   ·intro h;exact D.tup.inj h
theorem OD (n:Nat) (L:List Int):pU (n + 1) (.tup (L.map D.int)):=fun d hd=>by
 obtain ⟨x,_,rfl⟩:=Yt.mp hd
 cases n <;> trivial
theorem DO (n:Nat) (s:cS):pU (n + 1) (aY s):=fun d hd=>by
 have hd:d=.str (if s.1 then "s" else "t")\/d=.int s.2:=by simpa [aY] using hd
 rcases hd with rfl | rfl
 ·have h:PyData.canLay0 (.str (if s.1=true then "s" else "t" : Str))=true:=by cases s.1 <;> decide +kernel
  cases n <;> exact h
 ·cases n <;> trivial
theorem xi (n:Nat) (xs ys:List Int):pU (n + 2) (bT xs ys):=fun d hd=>by
 have hd:d=.tup (xs.map D.int)\/d=.tup (ys.map D.int):=by simpa [bT] using hd
 rcases hd with rfl | rfl
 ·exact OD n xs
 ·exact OD n ys
def qv (neg:Bool):D->D->Dm D:=fun a c st=>match fH st 20 a,(cX st c).bind (ck (fH st 19)) with
 | some dx,some ds=>if dx.canLay0 && ds.all PyData.canLay0 && decide (dx.depth<=60) then some (.bl (if neg then !ds.any (fun d=>PyData.eqv d dx) else ds.any fun d=>PyData.eqv d dx),st) else none
 | _,_=>none
section
variable {K:Zfr}
theorem GH {ρ:List Addr} {H:Hp} {st:Store} (l:Rl K ρ H st) (n:Nat):∀ {vs:List V} {ds:List D} {ps:List PyData},cE K ρ H vs ds->ck (fH st n) ds=some ps->fL K H vs ps
 | _,_,_,.nil,h=>by cases h;exact .nil
 | _,_,_,.cons a b,h=>by
  obtain ⟨x,t,h1,h2,rfl⟩:=AV h
  exact .cons (AW l n a h1) (GH l n b h2)
theorem zK (neg:Bool):mJ K (Cs K neg) (qv neg):=by
 intro ρ H st x y a c b st' Q l rx ry e q
 unfold qv at e
 split at e
 ·next dx ds h1 h2 =>
  split at e
  ·next ok =>
   cases e
   rw [YA,YA,decide_eq_true_eq,List.all_eq_true] at ok
   obtain ⟨es,h3,h4⟩:=Y0.mp h2
   obtain ⟨p,xs,rfl,hq,rr⟩:∃ p xs,y=.ref p/\(iy K H p xs\/d8 K H p xs)/\cE K ρ H xs es:=by
    cases ry with
    | non=>cases h3
    | bl _=>cases h3
    | int _=>cases h3
    | str _=>cases h3
    | ty _=>cases h3
    | ref hi=>obtain ⟨vs,s,r⟩:=l.items hi h3;exact ⟨_,vs,rfl,.inl s,r⟩
    | tup s r=>cases h3;exact ⟨_,_,rfl,.inr s,r⟩
   exact ⟨p,xs,ds,dx,rfl,hq,GH l 19 rr h4,AW l 20 rx h1,ok.1.2,ok.1.1,ok.2,q _ H ρ .refl l (.bl _)⟩
  ·cases e
 ·cases e
end
open Classical in
theorem zL {st:Store} {Q:D->Store->Prop} {neg:Bool} {n:Nat} {a c:D} {es:List D} (ha:pU n a) (hc:cX st c=some es) (he:∀ e∈es,pU n e) (hn:n<=15):Wp (qv neg a c st) Q↔Q (.bl (if neg then !decide (a∈es) else decide (a∈es))) st:=by
 have h1:=A3 n a ha 20 (by omega) st
 have h2:ck (fH st 19) es=some (es.map (jG n)):=DM fun x hx=>A3 n x (he x hx) 19 (by omega) st
 have ea:(es.map (jG n)).any (fun d=>PyData.eqv d (jG n a))=decide (a∈es):=by
  rw [Bool.eq_iff_iff,List.any_eq_true,decide_eq_true_eq]
  constructor
  ·rintro ⟨d,hd,h⟩
   obtain ⟨x,hx,rfl⟩:=Yt.mp hd
   rw [<- (DN n x a (he x hx) ha).mp h]
   exact hx
  ·intro h
   exact ⟨_,Yt.mpr ⟨a,h,rfl⟩,(DN n a a ha ha).mpr rfl⟩
 have l1:=xh n a ha
 have l2:(es.map (jG n)).all PyData.canLay0=true:=by
  rw [List.all_eq_true]
  intro d hd
  obtain ⟨x,hx,rfl⟩:=Yt.mp hd
  exact (xh n x (he x hx)).1
 have e:qv neg a c st=some (.bl (if neg then !decide (a∈es) else decide (a∈es)),st):=by
  unfold qv
  simp only [h1,hc,Za,h2,ea,l1.1,l2,Bool.true_and,decide_eq_true_eq]
  rw [if_pos (by omega)]
 rw [e,bu]
def GI:D->Option (List D)
 | .tup ds=>some ds
 | .str x=>if x.length<=sizeLine then some (qr x) else none
 | _=>none
def pX (fa:aq->Dm (List D)):aq->Dm Src:=fun δ st=>bnd (fa δ st) fun as st1=>match as with
 | [a]=>match GI a with
  | some ds=>some (.fix ds.reverse,st1)
  | none=>none
 | _=>none
section
variable {K:Zfr}
theorem DP {ρ:List Addr} {H:Hp} {x:V} {a:D} {ds:List D} (r:Rp K ρ H x a) (h:GI a=some ds):∃ src:ZS,src.val K H x/\(∀ a,src≠.lst a)/\(∀ z,src=.str z->z.length<=sizeLine)/\∀ (ρ2:List Addr) (H2:Hp),Mn K ρ H ρ2 H2->∀ i,(∀ d,ds[i]?=some d->∃ v,src.has K H2 i v/\Rp K ρ2 H2 v d)/\(i=ds.length->src.fin K H2 i):=by
 cases r with
 | non=>cases h
 | bl b=>cases h
 | int i=>cases h
 | ty n=>cases h
 | ref e=>cases h
 | str x =>
  unfold GI at h
  simp only at h
  split at h
  ·next hx =>
   cases h
   refine ⟨.str x,rfl,nofun,fun z e=>by cases e;exact hx,fun ρ2 H2 m i=>⟨fun d hd=>?_,fun e=>?_⟩⟩
   ·unfold qr at hd
    rw [Yi] at hd
    obtain ⟨c,hc,rfl⟩:=YD.mp hd
    have hc':x.cps[i]?=some c:=by simpa using hc
    exact ⟨_,⟨c,hc',rfl⟩,.str _⟩
   ·show x.cps.size=i
    rw [e];simp [qr]
  ·cases h
 | tup s r =>
  cases h
  refine ⟨.tup _,⟨rfl,_,s⟩,nofun,nofun,fun ρ2 H2 m i=>⟨fun d hd=>?_,fun e=>?_⟩⟩
  ·obtain ⟨v,hv,rv⟩:=r.got hd
   exact ⟨v,⟨_,m.t _ _ s,hv⟩,rv.mn m⟩
  ·exact ⟨_,m.t _ _ s,by rw [r.length];exact e.symm⟩
theorem OE {t:TA} {fa:aq->Dm (List D)} (ha:rG K t fa):w6 K (Cu K t) (pX fa):=by
 intro ρ σ H δ st S st' Q l rs e q
 obtain ⟨as,st1,e1,e⟩:=dD e
 split at e
 ·next a =>
  split at e
  ·next ds h1 =>
   cases e
   refine ha ρ σ H δ st _ _ _ l rs e1 fun xs H1 ρ1 m1 l1 r1=>?_
   obtain ⟨x,rfl,rx⟩:=r1.one'
   obtain ⟨s1,v1,nl,hz,g1⟩:=DP rx h1
   refine ⟨x,s1,ds.length,rfl,v1,(g1 ρ1 H1 Mn.refl ds.length).2 rfl,nl,hz,q _ H1 ρ1 m1 l1 fun ρ2 H2 st2 i m2 l2=>⟨fun h=>?_,fun d h=>?_⟩⟩
   ·obtain ⟨hl,hn⟩:=wZ h
    have:=YO.mp hn
    simp only [YJ] at this hl
    exact (show i=ds.length by omega)
   ·have hd:=(wZ h).2
    have hi:i < ds.length:=by simpa using (Ya.mp hd).1
    rw [List.getElem?_reverse hi] at hd
    obtain ⟨v,hv,rv⟩:=(g1 ρ2 H2 m2 _).1 d hd
    refine ⟨⟨hi,v,hv⟩,fun z H3 hz=>?_⟩
    obtain ⟨rfl,k1⟩:=hz
    cases k1 _ hv
    exact ⟨Mn.refl,l2,rv⟩
  ·cases e
 ·cases e
end
section
variable {st:Store}
theorem OG {δ:aq} {fa:aq->Dm (List D)} {R:Src->Store->Prop}:Wp (pX fa δ st) R↔Wp (fa δ st) fun as st1=>∃ a ds,as=[a]/\GI a=some ds/\R (.fix ds.reverse) st1:=by
 unfold pX;rw [dh]
 constructor <;> refine fun h=>aV h fun as s h=>?_
 ·split at h
  ·next a =>
   split at h
   ·next ds h1=>exact ⟨a,ds,rfl,h1,bu.mp h⟩
   ·exact (fP.mp h).elim
  ·exact (fP.mp h).elim
 ·obtain ⟨a,ds,rfl,h1,h⟩:=h
  simp only [h1]
  exact bu.mpr h
end
section
variable {K:Zfr}
end
section
variable {st:Store} {Q:D->Store->Prop}
end
section
variable {K:Zfr}
end
section
variable {K:Zfr}
end
section
variable {K:Zfr}
end
section
variable {K:Zfr}
end
section
variable {δ:aq} {st:Store} {N B C:aq->Store->Prop} {R:D->Store->Prop}
end
section
variable {K:Zfr}
end
section
variable {δ:aq} {st:Store} {N B C:aq->Store->Prop} {R:D->Store->Prop}
end
def qW (ps:List PyData):Bool:=decide (0 < ps.length) && ps.all (fun a=>ps.all fun b=>sR a b) && ps.all fun a=>a.canLay0 && decide (a.depth<=50)
def ng:List D->Dm D
 | [.ref r],st=>match own st r with
  | some ds=>match ck (fH st 20) ds with
   | some ps=>if qW ps=true then (match ds[oJ ps]? with | some d=>some (d,st) | none=>none) else none
   | none=>none
  | none=>none
 | _,_=>none
section
variable {K:Zfr}
theorem OH:qP K (wo K) ng:=by
 intro ρ H st xs as b st' Q l rx e q
 unfold ng at e
 split at e
 ·next r l9 =>
  split at e
  ·next ds hd =>
   split at e
   ·next ps hp =>
    split at e
    ·next hok =>
     split at e
     ·next d hd0 =>
      cases e
      obtain ⟨v,rfl,r⟩:=rx.one'
      cases r with
      | ref hi =>
       obtain ⟨vs,hs,rr⟩:=l.items hi (cv (rW hd))
       obtain ⟨v,hv,rv⟩:=rr.got hd0
       simp only [qW,YA,decide_eq_true_eq,List.all_eq_true] at hok
       exact ⟨_,vs,ps,rfl,hs,GH l 20 rr hp,hok.1.1,hok.1.2,hok.2,v,hv,q v H ρ .refl l rv⟩
     ·cases e
    ·cases e
   ·cases e
  ·cases e
 ·cases e
end
theorem Ux {st:Store} {Q:D->Store->Prop} {r:Nat} {ds:List D} {ps:List PyData} (h:own st r=some ds) (hp:ck (fH st 20) ds=some ps) (hok:qW ps=true) {d:D} (hd:ds[oJ ps]?=some d):Wp (ng [.ref r] st) Q↔Q d st:=by
 have e:ng [.ref r] st=some (d,st):=by simp only [ng,h,hp,hok,hd,if_true]
 rw [e,bu]
def tupI (xs:List Int):PyData:=.tuple (xs.map PyData.int)
def lh (p:af.a6):PyData:=.tuple [tupI p.1,tupI p.2]
theorem KW:∀ xs ys:List Int,nR (xs.map PyData.int) (ys.map PyData.int)=af.p6 xs ys
 | [],[]=>rfl
 | [],_ :: _=>rfl
 | _ :: _,[]=>rfl
 | x :: xs,y :: ys=>by
  show (if (x == y)=true then nR (xs.map PyData.int) (ys.map PyData.int) else decide (x < y))=if x=y then af.p6 xs ys else decide (x < y)
  rw [KW xs ys]
  by_cases h:x=y
  ·rw [if_pos h,if_pos (by simp [h])]
  ·rw [if_neg h,if_neg (by simp [h])]
theorem OI (xs ys:List Int):PyData.eqv (tupI xs) (tupI ys)=decide (xs=ys):=Ci xs ys
theorem Uy (p q:af.a6):AG (lh p) (lh q)=af.nS p q:=by
 show (if PyData.eqv (tupI p.1) (tupI q.1)=true then (if PyData.eqv (tupI p.2) (tupI q.2)=true then false else nR (p.2.map PyData.int) (q.2.map PyData.int)) else nR (p.1.map PyData.int) (q.1.map PyData.int))=if p.1=q.1 then af.p6 p.2 q.2 else af.p6 p.1 q.1
 rw [OI,OI,KW,KW]
 by_cases a:p.1=q.1
 ·rw [if_pos a,if_pos (decide_eq_true a)]
  by_cases b:p.2=q.2
  ·rw [if_pos (decide_eq_true b),b,af.Ga]
  ·rw [if_neg (by simp [b])]
 ·rw [if_neg a,if_neg (by simp [a])]
theorem KY:∀ xs ys:List Int,o4 (xs.map PyData.int) (ys.map PyData.int)=true
 | [],_=>rfl
 | _ :: _,[]=>rfl
 | x :: xs,y :: ys=>by show (true && o4 (xs.map PyData.int) (ys.map PyData.int))=true;rw [KY xs ys];rfl
theorem Uz (p q:af.a6):sR (lh p) (lh q)=true:=by
 show (o4 (p.1.map PyData.int) (q.1.map PyData.int) && (o4 (p.2.map PyData.int) (q.2.map PyData.int) && true))=true
 rw [KY,KY];rfl
theorem UA (p:af.a6):(lh p).canLay0=true/\(lh p).depth<=50:=by
 refine ⟨?_,?_⟩
 ·show (PyData.canLayAll0 (cW p.1) && (PyData.canLayAll0 (cW p.2) && true))=true
  rw [x8,x8];rfl
 ·show max (PyData.depthAll (cW p.1) + 1) (max (PyData.depthAll (cW p.2) + 1) 0) + 1<=50
  rw [Az,Az];decide
theorem OJ (l:List af.a6):∀ k,k < l.length->l[argBest (fun i j=>af.nS (l.getD i ([],[])) (l.getD j ([],[]))) k]?=some (af.nT (l.take (k + 1)))
 | 0,h=>by
  cases l with
  | nil=>simp at h
  | cons p l=>rfl
 | k + 1,h=>by
  have ih:=OJ l k (by omega)
  generalize hb:argBest (fun i j=>af.nS (l.getD i ([],[])) (l.getD j ([],[]))) k=b at ih
  have e1:l.getD b ([],[])=af.nT (l.take (k + 1)):=by rw [Yn,ih];rfl
  have e2:af.nT (l.take (k + 1 + 1))=if af.nS (l.getD (k + 1) ([],[])) (af.nT (l.take (k + 1))) then l.getD (k + 1) ([],[]) else af.nT (l.take (k + 1)):=by
   have et:l.take (k + 1 + 1)=l.take (k + 1) ++ [l.getD (k + 1) ([],[])]:=by
    rw [YB h,Yn,Yb h];rfl
   rw [et]
   cases l with
   | nil=>simp at h
   | cons p l =>
    show ((l.take k ++ [_]).foldl _ p)=_
    rw [Y6]
    rfl
  show l[if (af.nS (l.getD (k + 1) ([],[])) (l.getD (argBest _ k) ([],[])))=true then k + 1 else argBest _ k]?=_
  rw [hb,e1,e2]
  split
  ·rw [Yn,Yb h];rfl
  ·exact ih
theorem UB (st:Store) (p:af.a6):fH st 20 (bT p.1 p.2)=some (lh p):=by
 have h:∀ (m:Nat) (xs:List Int),ck (fH st (m + 1)) (xs.map D.int)=some (xs.map PyData.int):=fun m xs=>by
  have:=wW (f:=fH st (m + 1)) (g:=D.int) (k:=PyData.int) (fun _=>rfl) xs
  exact this
 show (ck (fH st 19) [D.tup (p.1.map D.int),D.tup (p.2.map D.int)]).map PyData.tuple=_
 have e1:fH st 19 (D.tup (p.1.map D.int))=some (tupI p.1):=by show (ck (fH st 18) (p.1.map D.int)).map PyData.tuple=_;rw [h];rfl
 have e2:fH st 19 (D.tup (p.2.map D.int))=some (tupI p.2):=by show (ck (fH st 18) (p.2.map D.int)).map PyData.tuple=_;rw [h];rfl
 simp only [ck,e1,e2]
 rfl
theorem OL {st:Store} {Q:D->Store->Prop} {r:Nat} {l:List af.a6} (h:own st r=some (l.map fun p=>bT p.1 p.2)) (hn:0 < l.length):Wp (ng [.ref r] st) Q↔Q (bT (af.nT l).1 (af.nT l).2) st:=by
 have hp:ck (fH st 20) (l.map fun p=>bT p.1 p.2)=some (l.map lh):=wW (f:=fH st 20) (g:=fun p:af.a6=>bT p.1 p.2) (k:=lh) (fun p=>UB st p) l
 refine Ux h hp ?_ ?_
 ·simp only [qW,YA,decide_eq_true_eq,List.all_eq_true,X9]
  refine ⟨⟨hn,fun a ha b hb=>?_⟩,fun a ha=>?_⟩
  ·obtain ⟨p,_,rfl⟩:=Yt.mp ha
   obtain ⟨q,_,rfl⟩:=Yt.mp hb
   exact Uz p q
  ·obtain ⟨p,_,rfl⟩:=Yt.mp ha
   exact UA p
 ·have hb:=OJ l (l.length - 1) (by omega)
  rw [show l.length - 1 + 1=l.length by omega,YS] at hb
  have e:∀ k,k < l.length->argBest (uU (l.map lh)) k=argBest (fun i j=>af.nS (l.getD i ([],[])) (l.getD j ([],[]))) k/\argBest (fun i j=>af.nS (l.getD i ([],[])) (l.getD j ([],[]))) k < l.length:=by
   intro k
   induction k with
   | zero=>intro hk;exact ⟨rfl,hk⟩
   | succ k ih =>
    intro hk
    obtain ⟨e1,e2⟩:=ih (by omega)
    have eb:uU (l.map lh) (k + 1) (argBest (uU (l.map lh)) k)=af.nS (l.getD (k + 1) ([],[])) (l.getD (argBest (fun i j=>af.nS (l.getD i ([],[])) (l.getD j ([],[]))) k) ([],[])):=by
     rw [e1]
     unfold uU
     rw [Yn,Yn,Yi,Yi,Yb hk,Yb e2,Yn,Yn,Yb hk,Yb e2]
     exact Uy _ _
    refine ⟨?_,?_⟩
    ·show (if uU (l.map lh) (k + 1) (argBest (uU (l.map lh)) k)=true then k + 1 else argBest (uU (l.map lh)) k)=if _=true then k + 1 else _
     rw [eb,e1]
    ·show (if _=true then k + 1 else _) < l.length
     split
     ·exact hk
     ·exact e2
  unfold oJ
  rw [X9,(e (l.length - 1) (by omega)).1,Yi,hb]
  rfl
section
variable {K:Zfr}
end
section
variable {K:Zfr}
def vn (T:String) (g:D->List D->Dm D) (fo:aq->Dm D):aq->Dm D:=fun δ st=>bnd (fo δ st) fun o st1=>if uv T st1 o=true then g o [] st1 else none
theorem zM {T:String} {r:V->List V->Hp->VK->Prop} {g:D->List D->Dm D} {to:TE} {fo:aq->Dm D} (hr:wR K T r g) (ho:gg K to fo):gg K (B4 K T r to) (vn T g fo):=by
 intro ρ σ H δ st b st' Q l rs e q
 obtain ⟨o,st1,e1,e⟩:=dD e
 split at e
 ·next ht =>
  refine ho ρ σ H δ st o st1 _ l rs e1 fun x H1 ρ1 m1 l1 r1=>⟨N3 l1 r1 ht,?_⟩
  exact hr ρ1 H1 st1 x [] o [] b st' Q l1 r1 .nil e fun v H3 ρ3 m3 l3 r3=>q v H3 ρ3 (m1.trans m3) l3 r3
 ·cases e
end
section
variable {st:Store} {Q:D->Store->Prop} {i:Nat}
theorem DQ {α:Type} {m:Option (α×Store)} {R R':α->Store->Prop} (h:∀ a s,R a s↔R' a s):Wp m R↔Wp m R':=by
 have e:R=R':=funext fun a=>funext fun s=>propext (h a s)
 rw [e]
theorem zN {T:String} {g:D->List D->Dm D} {fo:aq->Dm D} {δ:aq}:Wp (vn T g fo δ st) Q↔Wp (fo δ st) fun o st1=>uv T st1 o=true/\Wp (g o [] st1) Q:=by
 unfold vn
 rw [dh]
 refine DQ fun o st1=>?_
 rw [oO,fP]
 split
 ·next h=>exact ⟨fun q=>⟨h,q⟩,fun q=>q.2⟩
 ·next h=>exact ⟨False.elim,fun q=>h q.1⟩
end
section
variable {K:Zfr}
end
section
variable {st:Store} {Q:D->Store->Prop} {δ:aq}
end
section
variable {K:Zfr}
def tO:aq->Dm Fl:=fun _ _=>none
theorem UC:pL K si tO:=by
 intro ρ σ H δ st fl st' E l rs e q
 cases e
end
section
variable {st:Store} {Q:D->Store->Prop}
end
section
variable {K:Zfr}
end
section
variable {st:Store} {δ:aq}
end
section
variable {K:Zfr}
end
theorem UD {δ:aq} {st:Store} {fi:aq->Dm Src} {js:List Nat} {c:aq->Dm Bool} {f:aq->Dm D} {Q:D->Store->Prop} (ds:List D) (q:D->Bool) (h:D->D) (hi:Wp (fi δ st) fun S st1=>qU S ds st1/\Ex [] st st1) (hl:ds.length < 100000)
  (cond:∀ d∈ds,∀ st1,Ex [] st st1->Wp (c (some d :: js.map fun j=>δ.getD j none) st1) fun b st2=>b=q d/\Ex [] st1 st2)
  (step:∀ d∈ds,q d=true->∀ st1,Ex [] st st1->Wp (f (some d :: js.map fun j=>δ.getD j none) st1) fun y st2=>y=h d/\Ex [] st1 st2) (fin:∀ st',Ex [] st st'->Q (.ref st'.length) (st' ++ [.lst ((ds.filter q).map h)])):Wp (cO fi 1 js (hName 0) c f δ st) Q:=by
 obtain ⟨S,st1,e1,hS,k1⟩:=hi
 refine Gy ds (fun i ys δ' jF=>(∃ v,δ'=v :: js.map fun j=>δ.getD j none)/\ys=((ds.take i).filter q).map h/\Ex [] st1 jF) ⟨S,st1,e1,fun i ys δ' jF hi' hp=>hS i jF hi' hp.2.2,⟨none,rfl⟩,rfl,Ex.refl⟩ hl ?_ ?_ ?_
 ·rintro i ys δ' jF ⟨_,rfl,_⟩
  rw [X9]
  refine Yv (List.length_filter_le _ _) ?_
  rw [Y1];omega
 ·rintro i d ys δ' jF hd ⟨⟨v,rfl⟩,rfl,k8⟩
  obtain ⟨hlt,e⟩:=Ya.mp hd
  have hm:=Yf hd
  rw [Gz]
  refine aV (cond d hm jF (k1.trans k8)) ?_
  rintro b pM ⟨rfl,k9⟩
  refine ⟨fun hq=>aV (step d hm hq pM (k1.trans (k8.trans k9))) ?_,fun hq=>⟨⟨some d,rfl⟩,?_,k8.trans k9⟩⟩
  ·rintro y UE ⟨rfl,KZ⟩
   refine ⟨⟨some d,rfl⟩,?_,(k8.trans k9).trans KZ⟩
   rw [YB hlt,List.filter_append,Ys,e,List.filter_cons_of_pos hq];rfl
  ·rw [YB hlt,List.filter_append,Ys,e,List.filter_cons_of_neg (by rw [hq];decide)]
   simp
 ·rintro ys δ' jF ⟨_,rfl,k8⟩
  rw [YS]
  exact fin jF (k1.trans k8)
section
variable {K:Zfr}
end
section
variable {K:Zfr}
def OM:List D->Dm D
 | [.str x],st=>match PySem.intText? x with
  | some n=>if x.length<=640 then some (.int n,st) else none
  | none=>none
 | _,_=>none
def oQ:List D->Dm D
 | [.ref i],st=>match (items st i).bind (ck iV) with
  | some ns=>match ns[argBest (om ns) (ns.length - 1)]? with
   | some m=>some (.int m,st)
   | none=>none
  | none=>none
 | _,_=>none
theorem UG:qP K (fun xs H Q=>∃ (p:Addr) (ns:List Int),xs=[.ref p]/\iy K H p (ns.map V.int)/\0 < ns.length/\∀ m,ns[argBest (om ns) (ns.length - 1)]?=some m->Q (.int m) H) oQ:=by
 intro ρ H st xs as b st' Q l rx e q
 unfold oQ at e
 split at e
 ·split at e
  ·next ns hd =>
   split at e
   ·next m hm =>
    cases e
    obtain ⟨v,rfl,r⟩:=rx.one'
    obtain ⟨ds,h3,h4⟩:=Y0.mp hd
    cases r with
    | ref hi =>
     obtain ⟨vs,s,r⟩:=l.items hi h3
     cases Gv r h4
     refine ⟨_,ns,rfl,s,?_,fun m' hm'=>?_⟩
     ·have:=(Ya.mp hm).1
      omega
     ·rw [hm] at hm'
      cases hm'
      exact q _ H ρ .refl l (.int _)
   ·cases e
  ·cases e
 ·cases e
end
section
variable {st:Store} {Q:D->Store->Prop}
theorem OO (ns:List Int):∀ k,k < ns.length->argBest (om ns) k<=k/\∀ i,i<=k->ns.getD i 0<=ns.getD (argBest (om ns) k) 0
 | 0,h=>⟨Yd _,fun i hi=>by rw [show i=0 by omega];exact Int.le_refl _⟩
 | k + 1,h=>by
  obtain ⟨h1,h2⟩:=OO ns k (by omega)
  show (if om ns (k + 1) (argBest (om ns) k)=true then k + 1 else argBest (om ns) k)<=k + 1/\∀ i,i<=k + 1->ns.getD i 0<=ns.getD (if om ns (k + 1) (argBest (om ns) k)=true then k + 1 else argBest (om ns) k) 0
  by_cases hc:ns.getD (k + 1) 0 > ns.getD (argBest (om ns) k) 0
  ·rw [if_pos (show om ns (k + 1) (argBest (om ns) k)=true from decide_eq_true hc)]
   refine ⟨Yd _,fun i hi=>?_⟩
   by_cases hik:i<=k
   ·have:=h2 i hik;omega
   ·rw [show i=k + 1 by omega];exact Int.le_refl _
  ·rw [if_neg (show ¬ om ns (k + 1) (argBest (om ns) k)=true from fun z=>hc (of_decide_eq_true z))]
   refine ⟨by omega,fun i hi=>?_⟩
   by_cases hik:i<=k
   ·exact h2 i hik
   ·rw [show i=k + 1 by omega];omega
theorem UH {r:Nat} {ns:List Int} (h:items st r=some (ns.map D.int)) (hn:ns≠[]):∃ m:Int,m∈ns/\(∀ y∈ns,y<=m)/\∀ Q:D->Store->Prop,Wp (oQ [.ref r] st) Q↔Q (.int m) st:=by
 have hl:0 < ns.length:=List.length_pos_iff.mpr hn
 obtain ⟨h1,h2⟩:=OO ns (ns.length - 1) (by omega)
 have hlt:argBest (om ns) (ns.length - 1) < ns.length:=by omega
 have e0:ns.getD (argBest (om ns) (ns.length - 1)) 0=ns[argBest (om ns) (ns.length - 1)]:=by rw [Yn,Yb hlt];rfl
 refine ⟨ns[argBest (om ns) (ns.length - 1)],List.getElem_mem _,fun y hy=>?_,fun Q=>?_⟩
 ·obtain ⟨i,hi,rfl⟩:=Y8 hy
  have:=h2 i (by omega)
  rw [e0,Yn (i:=i),Yb hi] at this
  exact this
 ·have e:oQ [.ref r] st=some (.int ns[argBest (om ns) (ns.length - 1)],st):=by
   simp only [oQ,h,Za,Ky,Yb hlt]
  rw [e,bu]
end
section
variable {K:Zfr}
end
section
variable {K:Zfr}
def pq:D->D->Dm D:=u5 (fun i j=>decide (j≠0/\j.natAbs.log2 < 9000)) fun i j=>.int (i.fdiv j)
theorem UI:mJ K (rI wt fun i j=>.int (i.fdiv j)) pq:=AQ (fun i j h=>of_decide_eq_true (p:=j≠0/\j.natAbs.log2 < 9000) h) fun _ _ _ _=>.int _
end
section
variable {st:Store} {Q:D->Store->Prop}
theorem UJ {i j:Int}:Wp (pq (.int i) (.int j) st) Q↔(j≠0/\j.natAbs.log2 < 9000)/\Q (.int (i.fdiv j)) st:=by unfold pq;rw [A1,decide_eq_true_eq]
end
def cx (i j:Int):Bool:=(decide (-18446744073709551616 < i/\i < 18446744073709551616) || decide (-18446744073709551616 < j/\j < 18446744073709551616)) || (decide (Builtin.Int.intBits i<=60000000) && decide (Builtin.Int.intBits j<=60000000))
def cz:D->D->Dm D:=u5 cx fun i j=>.int (i * j)
section
variable {K:Zfr}
theorem oA:mJ K (rI qI fun i j=>.int (i * j)) cz:=AQ (fun i j h=>by
 unfold cx at h
 rw [Bool.or_eq_true,Bool.or_eq_true,YA,decide_eq_true_eq,decide_eq_true_eq,decide_eq_true_eq,decide_eq_true_eq] at h
 exact h) fun _ _ _ _=>.int _
end
section
variable {st:Store} {Q:D->Store->Prop}
theorem GJ {i j:Int}:Wp (cz (.int i) (.int j) st) Q↔cx i j=true/\Q (.int (i * j)) st:=by
 unfold cz;rw [A1]
theorem UK {i j:Int} (h:i.natAbs < 18446744073709551616):cx i j=true:=by
 unfold cx
 rw [decide_eq_true (show -18446744073709551616 < i/\i < 18446744073709551616 by omega)]
 rfl
theorem K0 {i j:Int} {k:Nat} (hk:k<=60000000) (h:i.natAbs < P2 k) (h2:j.natAbs < P2 k):cx i j=true:=by
 replace h:=wx h hk
 replace h2:=wx h2 hk
 unfold cx
 rw [decide_eq_true h,decide_eq_true h2]
 simp
end
def gn:D->List D->Dm D
 | .ref k,[a],st=>match fH st 20 a,(items st k).bind (ck (fH st 19)) with
  | some dx,some ds=>match ds.findIdx? fun d=>PyData.eqv d dx with
   | some j=>if dx.canLay0 && ds.all PyData.canLay0 && decide (dx.depth<=60) && decide (ds.length<=1000) then some (.int (j:Int),st) else none
   | none=>none
  | _,_=>none
 | _,_,_=>none
section
variable {K:Zfr}
theorem UL:wR K "list" (qH K) gn:=by
 intro ρ H st x xs a as b st' Q l rx tw e q
 unfold gn at e
 split at e
 ·split at e
  ·next dx ds h1 h2 =>
   split at e
   ·next j hj =>
    split at e
    ·next ok =>
     cases e
     rw [YA,YA,YA,decide_eq_true_eq,decide_eq_true_eq,List.all_eq_true] at ok
     obtain ⟨es,h3,h4⟩:=Y0.mp h2
     obtain ⟨y,rfl,r⟩:=tw.one'
     cases rx with
     | ref hi =>
      obtain ⟨vs,s,rr⟩:=l.items hi h3
      obtain ⟨hjl,hj1,hj2⟩:=List.findIdx?_eq_some_iff_getElem.mp hj
      exact ⟨_,vs,ds,y,dx,j,rfl,rfl,s,GH l 19 rr h4,AW l 20 r h1,ok.1.1.2,ok.1.1.1,ok.1.2,ok.2,⟨_,Yb hjl,hj1⟩,fun i d hij hd=>by
       obtain ⟨hil,rfl⟩:=Ya.mp hd
       simpa using hj2 i hij,q _ H ρ .refl l (.int _)⟩
    ·cases e
   ·cases e
  ·cases e
 ·cases e
end
theorem UM {st:Store} {Q:D->Store->Prop} {n k j:Nat} {a:D} {es:List D} (ha:pU n a) (hc:items st k=some es) (he:∀ e∈es,pU n e) (hn:n<=15) (hl:es.length<=1000) (hj:es[j]?=some a) (hno:∀ i e,i < j->es[i]?=some e->e≠a):Wp (gn (.ref k) [a] st) Q↔Q (.int (j:Int)) st:=by
 have h1:=A3 n a ha 20 (by omega) st
 have h2:ck (fH st 19) es=some (es.map (jG n)):=DM fun x hx=>A3 n x (he x hx) 19 (by omega) st
 obtain ⟨hjl,UN⟩:=Ya.mp hj
 have hf:(es.map (jG n)).findIdx? (fun d=>PyData.eqv d (jG n a))=some j:=by
  refine List.findIdx?_eq_some_iff_getElem.mpr ⟨by simpa using hjl,?_,fun i hij=>?_⟩
  ·rw [List.getElem_map,UN]
   exact (DN n a a ha ha).mpr rfl
  ·have hil:i < es.length:=by omega
   rw [List.getElem_map]
   have hm:es[i]∈es:=List.getElem_mem hil
   intro h
   exact hno i es[i] hij (Yb hil) ((DN n es[i] a (he _ hm) ha).mp h)
 have l1:=xh n a ha
 have l2:(es.map (jG n)).all PyData.canLay0=true:=by
  rw [List.all_eq_true]
  intro d hd
  obtain ⟨x,hx,rfl⟩:=Yt.mp hd
  exact (xh n x (he x hx)).1
 have e:gn (.ref k) [a] st=some (.int (j:Int),st):=by
  unfold gn
  simp only [h1,hc,Za,h2,hf,l1.1,l2,Bool.true_and,X9,decide_eq_true_eq,YA]
  rw [if_pos ⟨by omega,hl⟩]
 rw [e,bu]
def vo:D->List D->Dm D
 | .ref i,[],st=>match own st i with
  | some xs=>match xs[xs.length - 1]? with
   | some y=>some (y,st.set i (.lst xs.dropLast))
   | none=>none
  | none=>none
 | _,_,_=>none
section
variable {K:Zfr}
theorem zO:wR K "list" B6 vo:=by
 intro ρ H st x xs a as b st' Q l rx tw e q
 unfold vo at e
 split at e
 ·split at e
  ·next ys hy =>
   split at e
   ·next y hl =>
    cases e
    cases tw
    cases rx with
    | ref hi =>
     obtain ⟨vs,e1,r1⟩:=l.obj _ _ _ hi (rW hy)
     obtain ⟨v,hv,rv⟩:=r1.got hl
     have hlen:=r1.length
     have r2:cE K ρ H vs.dropLast ys.dropLast:=by
      rw [List.dropLast_eq_take,List.dropLast_eq_take,hlen]
      exact r1.take _
     obtain ⟨l2,m2⟩:=l.putL hi (rW hy) r2
     exact ⟨_,vs,v,rfl,rfl,e1,by rw [hlen];exact hv,q _ _ ρ m2 l2 (rv.mn m2)⟩
   ·cases e
  ·cases e
 ·cases e
end
section
variable {st:Store} {Q:D->Store->Prop} {i:Nat}
theorem zP {xs:List D} {y:D} (h:own st i=some (xs ++ [y])):Wp (vo (.ref i) [] st) Q↔Q y (st.set i (.lst xs)):=by
 have e:(xs ++ [y])[(xs ++ [y]).length - 1]?=some y:=by simp
 have e2:(xs ++ [y]).dropLast=xs:=by simp
 show Wp (match own st i with | some xs=>(match xs[xs.length - 1]? with | some y=>some (y,st.set i (O.lst xs.dropLast)) | none=>none) | none=>none) Q↔_
 rw [h]
 dsimp only
 rw [e,e2]
 exact bu
end
end L4
namespace af
abbrev CS:=List a6×List (List Sp)×List (Nat×Nat)
def cF (n:Nat) (fs:List a6) (ws:List (List Sp)) (k:Nat) (s:Sp):List a6×List (List Sp)×Nat :=
 if bI n (stM (fs.getD k ([],[])) s)∈fs then (fs,ws,fs.idxOf (bI n (stM (fs.getD k ([],[])) s))) else (fs ++ [bI n (stM (fs.getD k ([],[])) s)],ws ++ [(jB (ws.getD k [] ++ [s])).reverse],fs.length)
def nA (n:Nat) (c:CS):List a6×List (List Sp)×Nat:=cF n c.1 c.2.1 c.2.2.length (true,1)
def nB (n:Nat) (c:CS):List a6×List (List Sp)×Nat:=cF n (nA n c).1 (nA n c).2.1 c.2.2.length (false,1)
def K1 (n:Nat) (c:CS):CS:=((nB n c).1,(nB n c).2.1,c.2.2 ++ [((nA n c).2.2,(nB n c).2.2)])
def ch (n:Nat) (p:a6):Nat->CS
 | 0=>([bI n p],[[]],[])
 | i + 1=>K1 n (ch n p i)
structure GR (n:Nat) (p:a6) (fs:List a6) (ws:List (List Sp)):Prop where
 nd:fs.Nodup
 own:∀ q∈fs,Wh n q/\bI n q=q
 wl:ws.length=fs.length
 hd:fs[0]?=some (bI n p)
 wd:∀ (k:Nat) (w:List Sp),ws[k]?=some w->Pl w.reverse/\w.length<=k/\(∀ s∈w,s.2.natAbs<=k + 3)/\∃ q,fs[k]?=some q/\bE n (eh p w) q
def UO (n:Nat) (fs:List a6) (ls:List (Nat×Nat)):Prop:=∀ (k:Nat) (l:Nat×Nat),ls[k]?=some l->∃ p,fs[k]?=some p/\fs[l.1]?=some (bI n (stM p (true,1)))/\fs[l.2]?=some (bI n (stM p (false,1)))
structure GC (n:Nat) (p:a6) (c:CS) (i:Nat):Prop where
 r:GR n p c.1 c.2.1
 ll:c.2.2.length=i
 le:i<=c.1.length
 ld:UO n c.1 c.2.2
section
variable {n:Nat} {p:a6}
theorem GR.few {fs:List a6} {ws:List (List Sp)} (g:GR n p fs ws):0 < fs.length:=(Ya.mp g.hd).1
theorem vt (w:Wh n p) (n0:0 < n):Wh n (bI n p)/\bI n (bI n p)=bI n p/\bE n p (bI n p):=by
 obtain ⟨s,s0,s1,e⟩:=Kd p n0
 have tb:=w.bf s0 s1
 have a:bE n p (bI n p):=⟨inv (bf p.1 p.2 s n),tb.aD,by rw [e,wA w.v.1 tb,wA w.v.2 tb];rfl⟩
 have wq:Wh n (bI n p):=by
  obtain ⟨g,tg,eq⟩:=a
  have:=qV (xs:=p.1) (ys:=p.2) ⟨w.v.1,w.v.2,w.all⟩ tg n0
  rw [eq]
  exact ⟨⟨this.1,this.2.1⟩,this.2.2⟩
 exact ⟨wq,(uq n0 w.v a).symm,a⟩
theorem UP {fs:List a6} {q:a6} (h:q∈fs):fs[fs.idxOf q]?=some q:=by
 have hl:=List.idxOf_lt_length_of_mem h
 rw [Yb hl,List.getElem_idxOf]
theorem UQ {w:List Sp} {k:Nat} {s:Sp} (hp:Pl w.reverse) (hn:∀ a∈w,a.2.natAbs<=k + 3) (hs:s=(true,1)\/s=(false,1)):Pl (jB (w ++ [s]))/\∀ a∈(jB (w ++ [s])),a.2.natAbs<=k + 1 + 3:=by
 have ps:cH s:=by rcases hs with rfl | rfl <;> exact ⟨fun _=>by decide,by decide⟩
 have ew:jB w=w.reverse:=by
  have:=Pl.oK hp
  rwa [List.reverse_reverse] at this
 have e:jB (w ++ [s])=bP w.reverse s:=by
  rw [JT,ew];rfl
 rw [e]
 refine ⟨hp.push ps,fun a ha=>?_⟩
 have s1:s.2.natAbs<=1:=by rcases hs with rfl | rfl <;> decide
 exact Nx (M:=k + 3) (B:=1) (fun x hx=>hn x (YR.mp hx)) s1 ps hp a ha
theorem DR {fs:List a6} {ws:List (List Sp)} {k:Nat} {s:Sp} (n0:0 < n) (g:GR n p fs ws) (vp:Vf n p) (hk:k < fs.length) (hs:s=(true,1)\/s=(false,1)) :
  GR n p (cF n fs ws k s).1 (cF n fs ws k s).2.1/\(∀ (i:Nat) (q:a6),fs[i]?=some q->(cF n fs ws k s).1[i]?=some q)/\fs.length<=(cF n fs ws k s).1.length/\(cF n fs ws k s).1.length<=fs.length + 1/\∃ q,fs[k]?=some q/\(cF n fs ws k s).1[(cF n fs ws k s).2.2]?=some (bI n (stM q s)):=by
 have ek:fs[k]?=some (fs.getD k ([],[])):=by rw [Yn,Yb hk];rfl
 generalize hq:fs.getD k ([],[])=q at ek
 obtain ⟨wq,oq⟩:=g.own q (Yf ek)
 have K2:=wq.st n0 s
 obtain ⟨wF,oF,aF⟩:=vt K2 n0
 unfold cF
 rw [hq]
 by_cases hm:bI n (stM q s)∈fs
 ·rw [if_pos hm]
  exact ⟨g,fun _ _ h=>h,Yd _,Nat.le_succ _,q,ek,UP hm⟩
 ·rw [if_neg hm]
  have UR:k < ws.length:=by rw [g.wl];exact hk
  have ew:ws[k]?=some (ws.getD k []):=by rw [Yn,Yb UR];rfl
  generalize ws.getD k []=w at ew
  obtain ⟨pw,lw,nw,q',eq',aw⟩:=g.wd k w ew
  rw [ek] at eq'
  cases eq'
  obtain ⟨pl,nl⟩:=UQ (k:=k) pw nw hs
  refine ⟨⟨List.nodup_append.mpr ⟨g.nd,by simp,fun x hx y hy e=>hm (by rw [<- Yr.mp hy,<- e];exact hx)⟩,fun q' hq'=>?_,by rw [Yc,Yc,g.wl];rfl,by rw [Yk g.few];exact g.hd,fun i v hv=>?_⟩,fun i q' h=>by rw [Yk (Ya.mp h).1];exact h,by rw [Yc];omega,by rw [Yc];exact Yd _,q,ek,?_⟩
  ·rcases Yz.mp hq' with h | h
   ·exact g.own q' h
   ·rw [Yr.mp h];exact ⟨wF,oF⟩
  ·by_cases hi:i < ws.length
   ·rw [Yk hi] at hv
    obtain ⟨a1,a2,a3,q',b1,b2⟩:=g.wd i v hv
    exact ⟨a1,a2,a3,q',by rw [Yk (Ya.mp b1).1];exact b1,b2⟩
   ·have hi2:i=ws.length:=by
     have:=(Ya.mp hv).1
     rw [Yc] at this
     have:i < ws.length + 1:=this
     omega
    subst hi2
    rw [Yw (Yd _),Y9] at hv
    cases (show some _=some v from hv)
    refine ⟨by rw [List.reverse_reverse];exact pl,?_,fun a ha=>?_,bI n (stM q s),?_,?_⟩
    ·rw [YJ]
     have:=F9 (w ++ [s])
     rw [Yc] at this
     have:(jB (w ++ [s])).length<=w.length + 1:=this
     omega
    ·have:=nl a (YR.mp ha)
     omega
    ·rw [g.wl,Yw (Yd _),Y9];rfl
    ·have cB:∀ a∈w ++ [s],cH a:=fun a ha=>by
      rcases Yz.mp ha with h | h
      ·exact Pl.pr pw a (YR.mpr h)
      ·rw [Yr.mp h]
       rcases hs with rfl | rfl <;> exact ⟨fun _=>by decide,by decide⟩
     have e1:az (jB (w ++ [s])).reverse=az (w ++ [s]):=JV cB
     have pp:∀ a∈(jB (w ++ [s])).reverse,cH a:=fun a ha=>Pl.pr pl a (YR.mp ha)
     have a1:=J8 pp cB e1 vp
     have a2:bE n (eh p (w ++ [s])) (stM q s):=by
      rw [Gh]
      exact bE.st vp.ld aw s
     exact bE.trans vp.ld (bE.trans vp.ld a1 a2) aF
  ·rw [Yw (Yd _),Y9];rfl
theorem GK (n0:0 < n) (w:Wh n p):∀ i:Nat,(∀ j,j < i->j < (ch n p j).1.length)->GC n p (ch n p i) i
 | 0,_=>by
  obtain ⟨wF,oF,aF⟩:=vt w n0
  exact ⟨⟨by show [bI n p].Nodup;simp,fun q hq=>by rw [Yr.mp hq];exact ⟨wF,oF⟩,rfl,rfl,fun k v hv=>by
   cases k with
   | zero =>
    cases (show some []=some v from hv)
    exact ⟨trivial,Yd _,(fun s hs=>nomatch hs),_,rfl,aF⟩
   | succ k=>cases (show none=some v from hv)⟩,rfl,YN _,fun k l hl=>nomatch hl⟩
 | i + 1,h=>by
  have g:=GK n0 w i fun j hj=>h j (by omega)
  have hi:=h i (by omega)
  have p8:=g.ll
  have vp:=w.v
  have r1:=DR (s:=(true,1)) n0 g.r vp (k:=(ch n p i).2.2.length) (by omega) (.inl rfl)
  have r2:=DR (s:=(false,1)) n0 r1.1 vp (k:=(ch n p i).2.2.length) (by have:=r1.2.2.1;omega) (.inr rfl)
  refine ⟨r2.1,by show ((ch n p i).2.2 ++ [_]).length=i + 1;rw [Yc,p8];rfl,?_,fun k l hl=>?_⟩
  ·have a:=r1.2.2.1
   have b:=r2.2.2.1
   show i + 1<=(nB n (ch n p i)).1.length
   unfold nB nA
   omega
  ·have hl:((ch n p i).2.2 ++ [((nA n (ch n p i)).2.2,(nB n (ch n p i)).2.2)])[k]?=some l:=hl
   by_cases hk:k < (ch n p i).2.2.length
   ·rw [Yk hk] at hl
    obtain ⟨q,b1,b2,b3⟩:=g.ld k l hl
    exact ⟨q,r2.2.1 _ _ (r1.2.1 _ _ b1),r2.2.1 _ _ (r1.2.1 _ _ b2),r2.2.1 _ _ (r1.2.1 _ _ b3)⟩
   ·have hk2:k=(ch n p i).2.2.length:=by
     have:=(Ya.mp hl).1
     rw [Yc] at this
     have:k < (ch n p i).2.2.length + 1:=this
     omega
    subst hk2
    rw [Yw (Yd _),Y9] at hl
    cases (show some _=some l from hl)
    obtain ⟨q1,c1,c2⟩:=r1.2.2.2.2
    obtain ⟨q2,d1,d2⟩:=r2.2.2.2.2
    have:q2=q1:=by
     have:=r1.2.1 _ _ c1
     rw [d1] at this
     exact Ym this
    subst this
    exact ⟨q2,r2.2.1 _ _ d1,r2.2.1 _ _ c2,d2⟩
theorem OQ:∀ {l m:List a6},m.Nodup->(∀ x∈m,x∈l)->l.length<=m.length->∀ x∈l,x∈m
 | l,[],_,_,hl,x,hx=>by
  have:l=[]:=List.length_eq_zero_iff.mp (by simpa using hl)
  rw [this] at hx;cases hx
 | l,a :: m,nd,hs,hl,x,hx=>by
  by_cases e:x=a
  ·rw [e];exact Ye
  ·have xj:=YW.mp nd
   have ha:=hs a Ye
   have:=OQ (l:=l.erase a) (m:=m) xj.2 (fun y hy=>by
    have K3:y≠a:=fun z=>xj.1 (z ▸ hy)
    exact (List.mem_erase_of_ne K3).mpr (hs y (Yg _ hy))) (by rw [List.length_erase_of_mem ha];simp at hl;omega) x ((List.mem_erase_of_ne e).mpr hx)
   exact Yg _ this
theorem OR {f:a6->a6}:∀ {l:List a6},l.Nodup->(∀ a∈l,∀ b∈l,f a=f b->a=b)->(l.map f).Nodup
 | [],_,_=>List.nodup_nil
 | a :: l,nd,h=>by
  rw [Yu]
  have xj:=YW.mp nd
  refine YW.mpr ⟨fun hm=>?_,OR xj.2 fun x hx y hy=>h x (Yg _ hx) y (Yg _ hy)⟩
  obtain ⟨b,hb,e⟩:=Yt.mp hm
  have:=h b (Yg _ hb) a Ye e
  exact xj.1 (this ▸ hb)
structure Full (n:Nat) (p:a6) (c:CS) (N:Nat):Prop extends GC n p c N where
 fl:c.1.length=N
theorem Full.s {c:CS} {N:Nat} (h:Full n p c N) {q:a6} (hq:q∈c.1):bI n (Sh 1 q)∈c.1/\bI n (Qt q)∈c.1:=by
 obtain ⟨k,hk⟩:=List.getElem?_of_mem hq
 have oC:k < c.2.2.length:=by rw [h.ll,<- h.fl];exact (Ya.mp hk).1
 obtain ⟨q',b1,b2,b3⟩:=h.ld k _ (Yb oC)
 rw [hk] at b1
 cases b1
 exact ⟨Yf b2,Yf b3⟩
theorem Full.sm {c:CS} {N:Nat} (n0:0 < n) (h:Full n p c N) {q:a6} (hq:q∈c.1):bI n (Sh (-1) q)∈c.1:=by
 have inj:∀ a∈c.1,∀ b∈c.1,bI n (Sh 1 a)=bI n (Sh 1 b)->a=b:=fun a ha b hb e=>yx n0 1 (h.r.own a ha).1 (h.r.own b hb).1 (h.r.own a ha).2 (h.r.own b hb).2 e
 have nd:=OR (f:=fun a=>bI n (Sh 1 a)) h.r.nd inj
 have:=OQ nd (fun x hx=>by
  obtain ⟨a,ha,rfl⟩:=Yt.mp hx
  exact (h.s ha).1) (by rw [X9];exact Yd _) q hq
 obtain ⟨a,ha,e⟩:=Yt.mp this
 obtain ⟨wa,oa⟩:=h.r.own a ha
 obtain ⟨wF,oF,aF⟩:=vt (wa.sh n0 1) n0
 have a1:bE n (Sh 1 a) q:=by rw [<- e];exact aF
 have a2:=bE.sh (wa.sh n0 1).v a1 (-1)
 rw [uo wa.v,show (1:Int) + -1=0 from rfl,o6 wa.v] at a2
 rw [<- uq n0 wa.v a2,oa]
 exact ha
theorem Full.st {c:CS} {N:Nat} (n0:0 < n) (h:Full n p c N) {q:a6} (hq:q∈c.1) (s:Sp):bI n (stM q s)∈c.1:=by
 have up:∀ k:Nat,bI n (Sh (k:Int) q)∈c.1:=fun k=>by
  induction k with
  | zero =>
   rw [show ((0:Nat):Int)=0 from rfl,o6 (h.r.own q hq).1.v,(h.r.own q hq).2];exact hq
  | succ k ih =>
   have wk:=(h.r.own q hq).1.sh n0 (k:Int)
   obtain ⟨wF,oF,aF⟩:=vt wk n0
   have:=(h.s ih).1
   rw [<- uq n0 (wk.sh n0 1).v (bE.sh wk.v aF 1),uo (h.r.own q hq).1.v] at this
   exact this
 have dn:∀ k:Nat,bI n (Sh (-(k:Int)) q)∈c.1:=fun k=>by
  induction k with
  | zero =>
   rw [show (-((0:Nat):Int))=0 from rfl,o6 (h.r.own q hq).1.v,(h.r.own q hq).2];exact hq
  | succ k ih =>
   have wk:=(h.r.own q hq).1.sh n0 (-(k:Int))
   obtain ⟨wF,oF,aF⟩:=vt wk n0
   have:=h.sm n0 ih
   rw [<- uq n0 (wk.sh n0 (-1)).v (bE.sh wk.v aF (-1)),uo (h.r.own q hq).1.v,show -(k:Int) + -1=-((k + 1:Nat):Int) by omega] at this
   exact this
 have qt:∀ k:Nat,Wh n (ot k q)/\bI n (ot k q)∈c.1:=fun k=>by
  induction k with
  | zero=>exact ⟨(h.r.own q hq).1,by show bI n q∈c.1;rw [(h.r.own q hq).2];exact hq⟩
  | succ k ih =>
   obtain ⟨wk,ih⟩:=ih
   obtain ⟨wF,oF,aF⟩:=vt wk n0
   have:=(h.s ih).2
   rw [<- uq n0 (wk.qt n0).v (bE.qt wk.v aF)] at this
   exact ⟨wk.qt n0,this⟩
 unfold stM
 split
 ·rcases Int.lt_or_le s.2 0 with z | z
  ·have:=dn s.2.natAbs
   rwa [show -((s.2.natAbs:Nat):Int)=s.2 by omega] at this
  ·have:=up s.2.toNat
   rwa [show ((s.2.toNat:Nat):Int)=s.2 by omega] at this
 ·exact (qt _).2
theorem Full.OS {c:CS} {N:Nat} (n0:0 < n) (h:Full n p c N):∀ (w:List Sp) (q:a6),Wh n q->bI n q∈c.1->bI n (eh q w)∈c.1
 | [],_,_,hq=>hq
 | s :: w,q,wq,hq=>by
  refine Full.OS n0 h w (stM q s) (wq.st n0 s) ?_
  obtain ⟨wF,oF,aF⟩:=vt wq n0
  have:=h.st n0 hq s
  rw [<- uq n0 (wq.st n0 s).v (bE.st wq.v aF s)] at this
  exact this
theorem Full.word {c:CS} {N:Nat} (n0:0 < n) (h:Full n p c N) (wp:Wh n p) (w:List Sp):bI n (eh p w)∈c.1:=h.OS n0 w p wp (Yf h.r.hd)
end
end af
namespace af
def Tl:Nat->List (List Int)
 | 1=>[[0]]
 | 2=>[[0,1],[1,0]]
 | 3=>[[0,1,2],[0,2,1],[1,0,2],[1,2,0],[2,0,1],[2,1,0]]
 | _=>[]
theorem zQ:∀ a∈([0,1]:List Int),∀ b∈([0,1]:List Int),[a,b].Nodup->[a,b]∈Tl 2:=by decide +kernel
theorem US:∀ a∈([0,1,2]:List Int),∀ b∈([0,1,2]:List Int),∀ c∈([0,1,2]:List Int),[a,b,c].Nodup->[a,b,c]∈Tl 3:=by decide +kernel
theorem OT {n:Nat} (n0:0 < n) (n3:n<=3) {xs:List Int} (t:Tn n xs):xs∈Tl n:=by
 have hl:=t.length
 have hb:∀ x∈xs,x∈upto n:=fun x hx=>t.subset hx
 have nd:=t.nodup
 clear t
 match n,n0,n3,xs,hl with
 | 1,_,_,[x],_ =>
  have h1:=hb x Ye
  rw [Yr.mp (show x∈[0] from h1)]
  exact Ye
 | 2,_,_,[x,y],_=>exact zQ x (hb x Ye) y (hb y (.tail _ Ye)) nd
 | 3,_,_,[x,y,z],_=>exact US x (hb x Ye) y (hb y (.tail _ Ye)) z (hb z (.tail _ (.tail _ Ye))) nd
def Ul (n:Nat):List a6:=((Tl n).flatMap fun x=>(Tl n).map fun y=>(x,y)).filter fun q=>decide (bI n q=q)
theorem zR {n:Nat} (n0:0 < n) (n3:n<=3) {q:a6} (w:Wh n q) (h:bI n q=q):q∈Ul n:=by
 unfold Ul
 refine List.mem_filter.mpr ⟨List.mem_flatMap.mpr ⟨q.1,OT n0 n3 w.v.1,Yt.mpr ⟨q.2,OT n0 n3 w.v.2,rfl⟩⟩,by rw [h];exact decide_eq_true rfl⟩
theorem OU:∀ {m l:List a6},m.Nodup->(∀ x∈m,x∈l)->m.length<=l.length
 | [],_,_,_=>YN _
 | a :: m,l,nd,hs=>by
  have xj:=YW.mp nd
  have ha:=hs a Ye
  have:=OU (m:=m) (l:=l.erase a) xj.2 fun y hy=>by
   have K3:y≠a:=fun z=>xj.1 (z ▸ hy)
   exact (List.mem_erase_of_ne K3).mpr (hs y (Yg _ hy))
  rw [List.length_erase_of_mem ha] at this
  have hp:0 < l.length:=List.length_pos_of_mem ha
  simp
  omega
theorem K4:(Ul 1).length<=30/\(Ul 2).length<=30/\(Ul 3).length<=30:=by decide +kernel
theorem UT {n:Nat} (n0:0 < n) (n3:n<=3) {fs:List a6} (nd:fs.Nodup) (own:∀ q∈fs,Wh n q/\bI n q=q):fs.length<=30:=by
 have h:=OU (l:=Ul n) nd fun q hq=>zR n0 n3 (own q hq).1 (own q hq).2
 rcases (show n=1\/n=2\/n=3 by omega) with rfl | rfl | rfl
 ·exact Yv h K4.1
 ·exact Yv h K4.2.1
 ·exact Yv h K4.2.2
theorem UU {n:Nat} {p q:a6} (n0:0 < n) (wp:Wh n p) (wq:Wh n q) (e:bI n p=bI n q):bE n p q:=by
 obtain ⟨_,_,a⟩:=vt wp n0
 obtain ⟨_,_,b⟩:=vt wq n0
 rw [e] at a
 exact bE.trans wp.v a (bE.symm wq.v b)
theorem zS {w:List Sp} (hw:∀ s∈w,cH s):az (gf w ++ w)=T4.one:=by
 have hb:=yu hw
 have h:=Gi hb
 rw [um] at h ⊢
 rw [wC hb,wC hw] at h
 rw [wC hw]
 have ea:(az w).qM.qM=az w:=by
  apply T4.ext' <;> simp only [T4.qM,Int.neg_neg]
 rw [ea] at h
 exact h
theorem UW {n:Nat} {p:a6} {w:List Sp} (n0:0 < n) (wp:Wh n p) (hw:∀ s∈w,cH s):bI n (eh p (gf w))=bI n p↔bI n (eh p w)=bI n p:=by
 have hb:=yu hw
 have key:∀ {u v:List Sp},(∀ s∈u,cH s)->(∀ s∈v,cH s)->az (u ++ v)=T4.one->bI n (eh p u)=bI n p->bI n (eh p v)=bI n p:=fun {u v} hu hv e h=>by
  have a:=UU n0 (wp.ld n0 (w:=u)) wp h
  have b:=bE.ld (w:=v) (wp.ld n0 (w:=u)).v a
  rw [<- Gh] at b
  have c:=J8 (u:=u ++ v) (w:=[]) (fun s hs=>by rcases Yz.mp hs with h | h;exact hu s h;exact hv s h) (fun s hs=>nomatch hs) e wp.v
  have d:=uq n0 (wp.ld n0 (w:=u ++ v)).v b
  have d':=uq n0 (wp.ld n0 (w:=u ++ v)).v c
  exact d.symm.trans d'
 exact ⟨key hb hw (zS hw),key hw hb (Gi hw)⟩
end af
namespace My
local macro_rules | `(tactic| w_up)=>`(tactic| first | exact .inl rfl | exact .inr rfl | assumption)
local macro_rules | `(tactic| w_fin)=>`(tactic| decide +kernel)
local macro_rules | `(tactic| kspl_open $h)=>`(tactic| (refine L4.bS ?_;intro _ $h;set_option simprocs false in simp only [L4.bF]))
local macro_rules | `(tactic| w_how)=>`(tactic| set_option simprocs false in simp only [L4.bF])
open PySem L2 L4
theorem UX:∀ δ st as st',ah δ st=some (as,st')->as.length=0:=fun _ _ _ _ h=>SQ h
theorem kT {f1:aq->Dm D}:∀ δ st as st',ae f1 ah δ st=some (as,st')->as.length=1:=Gp UX
theorem dE {f1 f2:aq->Dm D}:∀ δ st as st',ae f2 (ae f1 ah) δ st=some (as,st')->as.length=2:=Gp kT
theorem K5 {f1 f2 f3:aq->Dm D}:∀ δ st as st',ae f3 (ae f2 (ae f1 ah)) δ st=some (as,st')->as.length=3:=Gp dE
theorem UY {f1 f2 f3 f4:aq->Dm D}:∀ δ st as st',ae f4 (ae f3 (ae f2 (ae f1 ah))) δ st=some (as,st')->as.length=4:=Gp K5
theorem bW {X:Cx} {k k':Nat} {f:Addr} {fd:FuncData} {ps:List Str} {sp:Sp} {x:Str} {st:Stmt} {e:Expr} {es:List Expr} {t:TA} {p pos:Pos} (F:aC X.prog X.w X.K X.mg X.base aX k f fd ps sp) (D:Def X.K X.mg x st ps f fd) (hr:ie k' X.A) (hk:k<=k') (hg:Gl X x) (ha:PA X (e :: es) t) (hdb:(x == ("__debug__" : Str))=false:=by decide) (he:starEach (e :: es) X.env=(false,eval e X.env) :: starEach es X.env:=by rfl) (hpl:(backTo pos (starEach es X.env)).any (·.1)=false:=by rfl):PE X (.Call (.Name x p) (e :: es) [] pos) (sD sp [] E0 t):=Qf F (hr.mono hk) hg D.m D.F.kp D.b .nil Cd ha hdb he hpl
def top (i:Nat):Stmt:=PySem.Challenge.pw_shearfloor_k38_tables_of_the_group.main.body.getD i (.Pass ⟨0,0,0,0⟩)
structure Txt (mg:Str->Option Value):Prop where
 DS:mg "abs" = none
 zT:mg "bool" = none
 nh:mg "enumerate" = none
 tP:mg "int" = none
 pz:mg "isinstance" = none
 cq:mg "len" = none
 dH:mg "list" = none
 xk:mg "max" = none
 tQ:mg "min" = none
 aU:mg "range" = none
 nZ:mg "reversed" = none
 bw:mg "tuple" = none
section
variable {P:Program} {w:World} {K:Zfr} {mg:Str->Option Value} {base:Heap}
def GL:aq->Dm Fl :=
 (aE (aH (av cZ (av mK (fC (.int 7901)) (ag 1)) (fC (.int 24697))) (hName 2))
 (aE (h8 (aN (av yA (ag 1) (aP dg (ae (ag 0) ah)))) (aH (av cm (ag 0) (ag 1)) (hName 2)) (h8 (aN (av AR (aP dg (ae (ag 0) ah)) (fC (.int 0)))) (aH (av cZ (av mK (av jN (av cm (ag 0) (av jN (ag 1) (aP dg (ae (ag 0) ah)))) (fC (.int 2147483629))) (fC (.int 31))) (av mK (fC (.int 7901)) (ag 1))) (hName 2)) bx))
 (aE (aH (fC (.int 0)) (hName 3))
 (aE (h8 (aN (av Kn (ag 2) (av tf (fC (.int 10)) (fC (.int 18))))) (aH (ag 2) (hName 3)) bx)
 (aW (cL (ae (ag 3) (ae (av cZ (av jN (av tf (av cZ (av mK (av jN (ag 2) (fC (.int 2147483629))) (fC (.int 48271))) (av mK (fC (.int 40692)) (ag 1))) (fC (.int 5))) (fC (.int 2147483629))) (fC (.int 1))) ah))))))))
def zU:List D->Dm D:=dG 4 GL
def DT:Stmt:=top 45
theorem A4:aB ["_law_script","_law_k","_law_cell","_law_own_here"] ["_law_script","_law_k"] (au DT):=⟨rfl,rfl,rfl,by w_fin,rfl,by w_fin,by w_fin⟩
theorem UZ {f:Addr} {fd:FuncData} (D:Def K mg "_law_feed" DT ["_law_script","_law_k"] f fd) (T:Txt mg)  :aC P w K mg base aX 1 f fd ["_law_script","_law_k"] (a8 K 2 zU):=by
 refine D.F.ok A4 (fun _ _ _ _ h=>h.1) (fun c A o s H v Q E hr h=>?_)
 refine ⟨_,(@a9 _ _ _ _ _ (@bX (i:=2) _ _ _ _ _ _ A4.nd rfl (by w_up) (bz lO (bz ud aJ (pv 1)) aJ) (by rfl) (by w_up))
  (@a9 _ _ _ _ _ (@kG _ _ _ _ _ _ _ _ (gk BR (pv 1) (ke mD (by rfl) T.cq mF (@aj _ _ _ _ _ (pv 0) ax (by rfl))) (aO _)) (@bh _ _ _ (@bX (i:=2) _ _ _ _ _ _ A4.nd rfl (by w_up) (@a7 _ _ _ _ _ _ _ lV (pv 0) (pv 1) (fun _ _=>rfl)) (by rfl) (by w_up))) (@bh _ _ _ (@kG _ _ _ _ _ _ _ _ (gk FN (ke mD (by rfl) T.cq mF (@aj _ _ _ _ _ (pv 0) ax (by rfl))) aJ (aO _)) (@bh _ _ _ (@bX (i:=2) _ _ _ _ _ _ A4.nd rfl (by w_up) (bz lO (bz ud (bz rl (@a7 _ _ _ _ _ _ _ lV (pv 0) (bz rl (pv 1) (ke mD (by rfl) T.cq mF (@aj _ _ _ _ _ (pv 0) ax (by rfl)))) (fun _ _=>rfl)) aJ) aJ) (bz ud aJ (pv 1))) (by rfl) (by w_up))) lM)))
  (@a9 _ _ _ _ _ (@bX (i:=3) _ _ _ _ _ _ A4.nd rfl (by w_up) aJ (by rfl) (by w_up))
  (@a9 _ _ _ _ _ (@kG _ _ _ _ _ _ _ _ (gk BU (pv 2) (bz L7 aJ aJ) (aO _)) (@bh _ _ _ (@bX (i:=3) _ _ _ _ _ _ A4.nd rfl (by w_up) (pv 2) (by rfl) (by w_up))) lM)
  (@bh _ _ _ (@c9 _ _ _ _ (@kO _ _ _ _ (@aj _ _ _ _ _ (pv 3) (@aj _ _ _ _ _ (bz lO (bz rl (bz L7 (bz lO (bz ud (bz rl (pv 2) aJ) aJ) (bz ud aJ (pv 1))) aJ) aJ) aJ) ax (by rfl)) (by rfl))))))))),?_⟩
 exact eE (b:=GL) (bg (bJ (aA lP (aA ur (aK _) (ai 1)) (aK _)) (aS 2))
  (bg (kK (gj (aA C7 (ai 1) (cu mL (ao (ai 0) ay)))) (bJ (aA kg (ai 0) (ai 1)) (aS 2)) (kK (gj (aA Gr (cu mL (ao (ai 0) ay)) (aK _))) (bJ (aA lP (aA ur (aA rM (aA kg (ai 0) (aA rM (ai 1) (cu mL (ao (ai 0) ay)))) (aK _)) (aK _)) (aA ur (aK _) (ai 1))) (aS 2)) lQ))
  (bg (bJ (aK _) (aS 3))
  (bg (kK (gj (aA C9 (ai 2) (aA NX (aK _) (aK _)))) (bJ (ai 2) (aS 3)) lQ)
  (dc (kQ (ao (ai 3) (ao (aA lP (aA rM (aA NX (aA lP (aA ur (aA rM (ai 2) (aK _)) (aK _)) (aA ur (aK _) (ai 1))) (aK _)) (aK _)) (aK _)) ay)))))))) rfl h
def GN:aq->Dm Fl :=
 (aE (h8 (aN (av AR (av cm (ag 0) (fC (.int 0))) (fC (.int 0)))) (aE (aH (av jN (av cm (ag 0) (fC (.int 0))) (ag 1)) (hName 2))
 (aE (aH (av nU (av cm (ag 0) (fC (.int 0))) (ag 1)) (hSub (ag 0) (fC (.int 0))))
 (aW (ag 2)))) bx)
 (aE (aH (av jN (av mK (av cm (ag 0) (fC (.int 1))) (fC (.int 48271))) (fC (.int 2147483647))) (hName 3))
 (aE (aH (av cZ (av jN (av cZ (av mK (ag 3) (fC (.int 40692))) (fC (.int 30103))) (fC (.int 2147483399))) (fC (.int 1))) (hSub (ag 0) (fC (.int 1))))
 (aW (av jN (av nU (av cZ (av mK (ag 3) (fC (.int 2147483647))) (av cm (ag 0) (fC (.int 1)))) (fC (.int 8191))) (ag 1))))))
def ki:List D->Dm D:=dG 4 GN
def uw:Stmt:=top 46
theorem K7:aB ["_law_feed_here","_law_many","_law_digit","_law_one"] ["_law_feed_here","_law_many"] (au uw):=⟨rfl,rfl,rfl,by w_fin,rfl,by w_fin,by w_fin⟩
theorem U0 {f:Addr} {fd:FuncData} (D:Def K mg "_law_take" uw ["_law_feed_here","_law_many"] f fd) (T:Txt mg)  :aC P w K mg base aX 1 f fd ["_law_feed_here","_law_many"] (a8 K 2 ki):=by
 refine D.F.ok K7 (fun _ _ _ _ h=>h.1) (fun c A o s H v Q E hr h=>?_)
 refine ⟨_,(@a9 _ _ _ _ _ (@kG _ _ _ _ _ _ _ _ (gk FN (@a7 _ _ _ _ _ _ _ lV (pv 0) aJ (fun _ _=>rfl)) aJ (aO _)) (@a9 _ _ _ _ _ (@bX (i:=2) _ _ _ _ _ _ K7.nd rfl (by w_up) (bz rl (@a7 _ _ _ _ _ _ _ lV (pv 0) aJ (fun _ _=>rfl)) (pv 1)) (by rfl) (by w_up))
  (@a9 _ _ _ _ _ (uc (bz FL (@a7 _ _ _ _ _ _ _ lV (pv 0) aJ (fun _ _=>rfl)) (pv 1)) (As (pv 0) aJ Aw))
  (@bh _ _ _ (@c9 _ _ _ _ (pv 2))))) lM)
  (@a9 _ _ _ _ _ (@bX (i:=3) _ _ _ _ _ _ K7.nd rfl (by w_up) (bz rl (bz ud (@a7 _ _ _ _ _ _ _ lV (pv 0) aJ (fun _ _=>rfl)) aJ) aJ) (by rfl) (by w_up))
  (@a9 _ _ _ _ _ (uc (bz lO (bz rl (bz lO (bz ud (pv 3) aJ) aJ) aJ) aJ) (As (pv 0) aJ Aw))
  (@bh _ _ _ (@c9 _ _ _ _ (bz rl (bz FL (bz lO (bz ud (pv 3) aJ) (@a7 _ _ _ _ _ _ _ lV (pv 0) aJ (fun _ _=>rfl))) aJ) (pv 1))))))),?_⟩
 exact eE (b:=GN) (bg (kK (gj (aA Gr (aA kg (ai 0) (aK _)) (aK _))) (bg (bJ (aA rM (aA kg (ai 0) (aK _)) (ai 1)) (aS 2))
  (bg (bJ (aA Gq (aA kg (ai 0) (aK _)) (ai 1)) (AZ (ai 0) (aK _)))
  (dc (ai 2)))) lQ)
  (bg (bJ (aA rM (aA ur (aA kg (ai 0) (aK _)) (aK _)) (aK _)) (aS 3))
  (bg (bJ (aA lP (aA rM (aA lP (aA ur (ai 3) (aK _)) (aK _)) (aK _)) (aK _)) (AZ (ai 0) (aK _)))
  (dc (aA rM (aA Gq (aA lP (aA ur (ai 3) (aK _)) (aA kg (ai 0) (aK _))) (aK _)) (ai 1)))))) rfl h
def GO:aq->Dm Fl :=
 (aE (aH (aP dF (ae (aP iA (ae (ag 1) ah)) ah)) (hName 2))
 (aE (aH (bq ah) (hName 3))
 (aE (iC (aN (av (kJ true) (ag 2) (cL ah))) (aH (av ip (ag 3) (bq (ae (kR "list" mM (ag 2) (ae (aP ki (ae (ag 0) (ae (aP dg (ae (ag 2) ah)) ah))) ah)) ah))) (hName 3)))
 (aW (ag 3)))))
def ux:List D->Dm D:=dG 4 GO
def A5:Stmt:=top 47
theorem GP:aB ["_law_feed_here","_law_n","_law_left","_law_found"] ["_law_feed_here","_law_n"] (au A5):=⟨rfl,rfl,rfl,by w_fin,rfl,by w_fin,by w_fin⟩
theorem U1 {f:Addr} {fd:FuncData} (D:Def K mg "_law_turning" A5 ["_law_feed_here","_law_n"] f fd) (T:Txt mg)  {aQ:Addr} {aR:FuncData} (aI:Def K mg "_law_take" uw ["_law_feed_here","_law_many"] aQ aR) (aL:aC P w K mg base aX 1 aQ aR ["_law_feed_here","_law_many"] (a8 K 2 ki)):aC P w K mg base aX 2 f fd ["_law_feed_here","_law_n"] (a8 K 2 ux):=by
 refine D.F.ok GP (fun _ _ _ _ h=>h.1) (fun c A o s H v Q E hr h=>?_)
 have hu:=hr.units
 refine ⟨_,(@a9 _ _ _ _ _ (@bX (i:=2) _ _ _ _ _ _ GP.nd rfl (by w_up) (fG (uh rfl) (by rfl) T.dH rB (@aj _ _ _ _ _ (fG FV (by rfl) T.aU ug (@aj _ _ _ _ _ (pv 1) ax (by rfl))) ax (by rfl))) (by rfl) (by w_up))
  (@a9 _ _ _ _ _ (@bX (i:=3) _ _ _ _ _ _ GP.nd rfl (by w_up) (@eJ _ _ _ _ _ ax) (by rfl) (by w_up))
  (@a9 _ _ _ _ _ (xO PassesOwn.never (gk (Jo hu) (pv 2) (@kO _ _ _ _ ax) (aO _)) (@bh _ _ _ (@bX (i:=3) _ _ _ _ _ _ GP.nd rfl (by w_up) (bz uM (pv 3) (@eJ _ _ _ _ _ (@aj _ _ _ _ _ (pI PySem.F.plainAttrs_list PySem.F.slot_list_pop PySem.F.type_list_pop Qw (pv 2) (@aj _ _ _ _ _ (bW aL aI hr (by decide) rfl (@aj _ _ _ _ _ (pv 0) (@aj _ _ _ _ _ (ke mD (by rfl) T.cq mF (@aj _ _ _ _ _ (pv 2) ax (by rfl))) ax (by rfl)) (by rfl))) ax (by rfl))) ax (by rfl)))) (by rfl) (by w_up))))
  (@bh _ _ _ (@c9 _ _ _ _ (pv 3)))))),?_⟩
 exact eE (b:=GO) (bg (bJ (cu uu (ao (cu Gu (ao (ai 1) ay)) ay)) (aS 2))
  (bg (bJ (eM ay) (aS 3))
  (bg (yH (gj (aA (AX true) (ai 2) (kQ ay))) (bJ (aA u7 (ai 3) (eM (ao (oE SW (ai 2) (ao (bU (F:=ki) (ao (ai 0) (ao (cu mL (ao (ai 2) ay)) ay)) dE) ay)) ay))) (aS 3)))
  (dc (ai 3))))) rfl h
def GQ:aq->Dm Fl :=
 (aE (aH (cL (ae (fC (.int 0)) ah)) (hName 1))
 (aE (cM (bY (ae (av cZ (fC (.int 1)) (aP dg (ae (av aM (ag 0) (fC (.int 0))) ah))) ah)) (hName 2) (cM (cN (ag 0)) (hName 3) (cM (kY (aP oN (ae (ag 1) ah))) (hName 4) (h8 (aN (av (rX true) (av aM (ag 3) (ag 4)) (ag 1))) (cG (kR "list" bj (ag 1) (ae (av aM (ag 3) (ag 4)) ah))) bx))))
 (aW (ag 1))))
def vw:List D->Dm D:=dG 5 GQ
def DV:Stmt:=top 48
theorem DW:aB ["_law_floor_here","_law_found","_law_turn","_law_turning_here","_law_one"] ["_law_floor_here"] (au DV):=⟨rfl,rfl,rfl,by w_fin,rfl,by w_fin,by w_fin⟩
theorem U2 {f:Addr} {fd:FuncData} (D:Def K mg "_law_met" DV ["_law_floor_here"] f fd) (T:Txt mg)  :aC P w K mg base aX 1 f fd ["_law_floor_here"] (a8 K 1 vw):=by
 refine D.F.ok DW (fun _ _ _ _ h=>h.1) (fun c A o s H v Q E hr h=>?_)
 refine ⟨_,(@a9 _ _ _ _ _ (@bX (i:=1) _ _ _ _ _ _ DW.nd rfl (by w_up) (@kO _ _ _ _ (@aj _ _ _ _ _ aJ ax (by rfl))) (by rfl) (by w_up))
  (@a9 _ _ _ _ _ (@lU _ _ _ _ _ _ _ _ PassesOwn.never rfl (pR rfl T.aU (@aj _ _ _ _ _ (bz lO aJ (ke mD (by rfl) T.cq mF (@aj _ _ _ _ _ (@a7 _ _ _ _ _ _ _ cj (pv 0) aJ (fun _ _=>rfl)) ax (by rfl)))) ax (by rfl))) (c4 (i:=2) DW.nd rfl (by w_up)) (@bh _ _ _ (@lU _ _ _ _ _ _ _ _ PassesOwn.never rfl (oX (pv 0)) (c4 (i:=3) DW.nd rfl (by w_up)) (@bh _ _ _ (@lU _ _ _ _ _ _ _ _ PassesOwn.never rfl (FI (fG Jc (by rfl) T.dH rB (@aj _ _ _ _ _ (pv 1) ax (by rfl)))) (c4 (i:=4) DW.nd rfl (by w_up)) (@bh _ _ _ (@kG _ _ _ _ _ _ _ _ (gk FP (@a7 _ _ _ _ _ _ _ cj (pv 3) (pv 4) (fun _ _=>rfl)) (pv 1) (by with_unfolding_all rfl)) (@bh _ _ _ (p9 (pI PySem.F.plainAttrs_list PySem.F.slot_list_append PySem.F.type_list_append qc (pv 1) (@aj _ _ _ _ _ (@a7 _ _ _ _ _ _ _ cj (pv 3) (pv 4) (fun _ _=>rfl)) ax (by rfl))))) lM)) (by intro _;rfl))) (by intro _;rfl))) (by intro _;rfl))
  (@bh _ _ _ (@c9 _ _ _ _ (pv 1))))),?_⟩
 exact eE (b:=GQ) (bg (bJ (kQ (ao (aK _) ay)) (aS 1))
  (bg (l8 (pV (ao (aA lP (aK _) (cu mL (ao (aA bQ (ai 0) (aK _)) ay))) ay)) (aS 2) (l8 (pe (ai 0)) (aS 3) (l8 (Gw (cu Ko (ao (ai 1) ay))) (aS 4) (kK (gj (aA (Dd true) (aA bQ (ai 3) (ai 4)) (ai 1))) (ql (oE qk (ai 1) (ao (aA bQ (ai 3) (ai 4)) ay))) lQ))))
  (dc (ai 1)))) rfl h
def GS:aq->Dm Fl :=
 (aE (aH (aP ki (ae (ag 0) (ae (fC (.int 6)) ah))) (hName 2))
 (aE (tH 3 4 (ae (aP oN (ae (aP ux (ae (ag 0) (ae (ag 1) ah))) ah)) (ae (aP oN (ae (aP ux (ae (ag 0) (ae (ag 1) ah))) ah)) ah)))
 (aE (h8 (aN (av (jx false) (ag 2) (fC (.int 0)))) (aH (av nV (aP dF (ae (aP eW (ae (fC (.int 1)) (ae (ag 1) ah))) ah)) (cL (ae (fC (.int 0)) ah))) (hName 3)) bx)
 (aE (h8 (aN (av (jx false) (ag 2) (fC (.int 1)))) (tH 3 4 (ae (aP dF (ae (aP iA (ae (ag 1) ah)) ah)) (ae (av nV (aP dF (ae (aP eW (ae (fC (.int 1)) (ae (ag 1) ah))) ah)) (cL (ae (fC (.int 0)) ah))) ah))) bx)
 (aE (h8 (aN (av (jx false) (ag 2) (fC (.int 2)))) (aE (aH (av cZ (fC (.int 1)) (aP ki (ae (ag 0) (ae (ag 1) ah)))) (hName 5))
 (aE (aH (av nV (av nV (aP dF (ae (aP eW (ae (fC (.int 1)) (ae (ag 5) ah))) ah)) (cL (ae (fC (.int 0)) ah))) (aP dF (ae (aP eW (ae (ag 5) (ae (ag 1) ah))) ah))) (hName 3))
 (aE (aH (AL tm (av nV (av nV (av nV (cL (ae (ag 5) ah)) (aP dF (ae (aP eW (ae (fC (.int 1)) (ae (ag 5) ah))) ah))) (aP dF (ae (aP eW (ae (av cZ (ag 5) (fC (.int 1))) (ae (ag 1) ah))) ah))) (cL (ae (fC (.int 0)) ah))) lY (oM (ag 1))) (hName 4))
 (h8 (aN (av (jx false) (ag 5) (ag 1))) (aH (aP dF (ae (aP iA (ae (ag 1) ah)) ah)) (hName 4)) bx)))) bx)
 (aE (aH (bq (ae (aP bG (ae (ag 3) ah)) (ae (aP bG (ae (ag 4) ah)) ah))) (hName 6))
 (aE (aH (cO (bY (ae (ag 1) ah)) 1 [6] (hName 0) (aN (av (rX true) (ag 0) (aP vw (ae (ag 1) ah)))) (ag 0)) (hName 7))
 (aE (iC (aN (av (kJ true) (ag 7) (cL ah))) (aE (aH (av cm (ag 7) (fC (.int 0))) (hName 8))
 (aE (aH (bq (ae (av cm (ag 3) (ag 8)) (ae (av cm (ag 3) (fC (.int 0))) ah))) (l6 2 (cg (hSub (ag 3) (fC (.int 0))) (cg (hSub (ag 3) (ag 8)) mN))))
 (aE (aH (bq (ae (aP bG (ae (ag 3) ah)) (ae (aP bG (ae (ag 4) ah)) ah))) (hName 6))
 (aH (cO (bY (ae (ag 1) ah)) 1 [6] (hName 0) (aN (av (rX true) (ag 0) (aP vw (ae (ag 1) ah)))) (ag 0)) (hName 7))))))
 (aW (ag 6))))))))))
def uy:List D->Dm D:=dG 9 GS
def A6:Stmt:=top 49
theorem qX:aB ["_law_feed_here","_law_n","_law_form_here","_law_right","_law_up","_law_wide","_law_found","_law_apart","_law_m"] ["_law_feed_here","_law_n"] (au A6):=⟨rfl,rfl,rfl,by w_fin,rfl,by w_fin,by w_fin⟩
theorem U3 {f:Addr} {fd:FuncData} (D:Def K mg "_law_floor" A6 ["_law_feed_here","_law_n"] f fd) (T:Txt mg)  {aQ:Addr} {aR:FuncData} (aI:Def K mg "_law_take" uw ["_law_feed_here","_law_many"] aQ aR) (aL:aC P w K mg base aX 1 aQ aR ["_law_feed_here","_law_many"] (a8 K 2 ki)) {bZ:Addr} {b5:FuncData} (bL:Def K mg "_law_turning" A5 ["_law_feed_here","_law_n"] bZ b5) (b6:aC P w K mg base aX 2 bZ b5 ["_law_feed_here","_law_n"] (a8 K 2 ux)) {kj:Addr} {kl:FuncData} (iq:Def K mg "_law_met" DV ["_law_floor_here"] kj kl) (km:aC P w K mg base aX 1 kj kl ["_law_floor_here"] (a8 K 1 vw)):aC P w K mg base aX 3 f fd ["_law_feed_here","_law_n"] (a8 K 2 uy):=by
 refine D.F.ok qX (fun _ _ _ _ h=>h.1) (fun c A o s H v Q E hr h=>?_)
 have hu:=hr.units
 refine ⟨_,(@a9 _ _ _ _ _ (@bX (i:=2) _ _ _ _ _ _ qX.nd rfl (by w_up) (bW aL aI hr (by decide) rfl (@aj _ _ _ _ _ (pv 0) (@aj _ _ _ _ _ aJ ax (by rfl)) (by rfl))) (by rfl) (by w_up))
  (@a9 _ _ _ _ _ (LY (i:=3) (j:=4) rfl qX.nd rfl rfl (by decide) rfl rfl (@aj _ _ _ _ _ (fG Jc (by rfl) T.dH rB (@aj _ _ _ _ _ (bW b6 bL hr (by decide) rfl (@aj _ _ _ _ _ (pv 0) (@aj _ _ _ _ _ (pv 1) ax (by rfl)) (by rfl))) ax (by rfl))) (@aj _ _ _ _ _ (fG Jc (by rfl) T.dH rB (@aj _ _ _ _ _ (bW b6 bL hr (by decide) rfl (@aj _ _ _ _ _ (pv 0) (@aj _ _ _ _ _ (pv 1) ax (by rfl)) (by rfl))) ax (by rfl))) ax (by rfl)) (by rfl)) rfl)
  (@a9 _ _ _ _ _ (@kG _ _ _ _ _ _ _ _ (gk oi (pv 2) aJ (aO _)) (@bh _ _ _ (@bX (i:=3) _ _ _ _ _ _ qX.nd rfl (by w_up) (bz vX (fG (uh rfl) (by rfl) T.dH rB (@aj _ _ _ _ _ (fG Ay (by rfl) T.aU ug (@aj _ _ _ _ _ aJ (@aj _ _ _ _ _ (pv 1) ax (by rfl)) (by rfl))) ax (by rfl))) (@kO _ _ _ _ (@aj _ _ _ _ _ aJ ax (by rfl)))) (by rfl) (by w_up))) lM)
  (@a9 _ _ _ _ _ (@kG _ _ _ _ _ _ _ _ (gk oi (pv 2) aJ (aO _)) (@bh _ _ _ (LY (i:=3) (j:=4) rfl qX.nd rfl rfl (by decide) rfl rfl (@aj _ _ _ _ _ (fG (uh rfl) (by rfl) T.dH rB (@aj _ _ _ _ _ (fG FV (by rfl) T.aU ug (@aj _ _ _ _ _ (pv 1) ax (by rfl))) ax (by rfl))) (@aj _ _ _ _ _ (bz vX (fG (uh rfl) (by rfl) T.dH rB (@aj _ _ _ _ _ (fG Ay (by rfl) T.aU ug (@aj _ _ _ _ _ aJ (@aj _ _ _ _ _ (pv 1) ax (by rfl)) (by rfl))) ax (by rfl))) (@kO _ _ _ _ (@aj _ _ _ _ _ aJ ax (by rfl)))) ax (by rfl)) (by rfl)) rfl)) lM)
  (@a9 _ _ _ _ _ (@kG _ _ _ _ _ _ _ _ (gk oi (pv 2) aJ (aO _)) (@a9 _ _ _ _ _ (@bX (i:=5) _ _ _ _ _ _ qX.nd rfl (by w_up) (bz lO aJ (bW aL aI hr (by decide) rfl (@aj _ _ _ _ _ (pv 0) (@aj _ _ _ _ _ (pv 1) ax (by rfl)) (by rfl)))) (by rfl) (by w_up))
  (@a9 _ _ _ _ _ (@bX (i:=3) _ _ _ _ _ _ qX.nd rfl (by w_up) (bz vX (bz vX (fG (uh rfl) (by rfl) T.dH rB (@aj _ _ _ _ _ (fG Ay (by rfl) T.aU ug (@aj _ _ _ _ _ aJ (@aj _ _ _ _ _ (pv 5) ax (by rfl)) (by rfl))) ax (by rfl))) (@kO _ _ _ _ (@aj _ _ _ _ _ aJ ax (by rfl)))) (fG (uh rfl) (by rfl) T.dH rB (@aj _ _ _ _ _ (fG Ay (by rfl) T.aU ug (@aj _ _ _ _ _ (pv 5) (@aj _ _ _ _ _ (pv 1) ax (by rfl)) (by rfl))) ax (by rfl)))) (by rfl) (by w_up))
  (@a9 _ _ _ _ _ (@bX (i:=4) _ _ _ _ _ _ qX.nd rfl (by w_up) (IW Mu (bz vX (bz vX (bz vX (@kO _ _ _ _ (@aj _ _ _ _ _ (pv 5) ax (by rfl))) (fG (uh rfl) (by rfl) T.dH rB (@aj _ _ _ _ _ (fG Ay (by rfl) T.aU ug (@aj _ _ _ _ _ aJ (@aj _ _ _ _ _ (pv 5) ax (by rfl)) (by rfl))) ax (by rfl)))) (fG (uh rfl) (by rfl) T.dH rB (@aj _ _ _ _ _ (fG Ay (by rfl) T.aU ug (@aj _ _ _ _ _ (bz lO (pv 5) aJ) (@aj _ _ _ _ _ (pv 1) ax (by rfl)) (by rfl))) ax (by rfl)))) (@kO _ _ _ _ (@aj _ _ _ _ _ aJ ax (by rfl)))) IU (IV (pv 1))) (by rfl) (by w_up))
  (@bh _ _ _ (@kG _ _ _ _ _ _ _ _ (gk oi (pv 5) (pv 1) (aO _)) (@bh _ _ _ (@bX (i:=4) _ _ _ _ _ _ qX.nd rfl (by w_up) (fG (uh rfl) (by rfl) T.dH rB (@aj _ _ _ _ _ (fG FV (by rfl) T.aU ug (@aj _ _ _ _ _ (pv 1) ax (by rfl))) ax (by rfl))) (by rfl) (by w_up))) lM))))) lM)
  (@a9 _ _ _ _ _ (@bX (i:=6) _ _ _ _ _ _ qX.nd rfl (by w_up) (@eJ _ _ _ _ _ (@aj _ _ _ _ _ (fG oB (by rfl) T.bw oj (@aj _ _ _ _ _ (pv 3) ax (by rfl))) (@aj _ _ _ _ _ (fG oB (by rfl) T.bw oj (@aj _ _ _ _ _ (pv 4) ax (by rfl))) ax (by rfl)) (by rfl))) (by rfl) (by w_up))
  (@a9 _ _ _ _ _ (MS (i:=7) (own:=["_law_s"]) (fr:=["_law_found"]) (js:=[6]) rfl qX.nd rfl rfl ⟨⟨rfl,by w_fin,by w_fin,by dsimp only [gi,aT,Cx.oI,Cx.wish,PyProof.Rows.envOfC,compEnvC,relabel,Env.kindOf];decide +kernel,by w_fin⟩,rfl⟩ (pR rfl T.aU (@aj _ _ _ _ _ (pv 1) ax (by rfl))) (fun _ _ _ _ _=>(c4 (i:=0) (show ((["_law_s"]:List Str) ++ (["_law_found"]:List Str)).Nodup by w_fin) rfl (by w_up))) (fun _ _ _ _ _=>(Js (gk (MU (K:=K) rfl) (pv 0) (bW km iq hr (by decide) rfl (@aj _ _ _ _ _ (pv 1) ax (by rfl))) (by with_unfolding_all rfl)))) (fun _ _ _ _ _=>(pv 0)))
  (@a9 _ _ _ _ _ (xO PassesOwn.never (gk (Jo hu) (pv 7) (@kO _ _ _ _ ax) (aO _)) (@a9 _ _ _ _ _ (@bX (i:=8) _ _ _ _ _ _ qX.nd rfl (by w_up) (@a7 _ _ _ _ _ _ _ lV (pv 7) aJ (fun _ _=>rfl)) (by rfl) (by w_up))
  (@a9 _ _ _ _ _ (uc (@eJ _ _ _ _ _ (@aj _ _ _ _ _ (@a7 _ _ _ _ _ _ _ lV (pv 3) (pv 8) (fun _ _=>rfl)) (@aj _ _ _ _ _ (@a7 _ _ _ _ _ _ _ lV (pv 3) aJ (fun _ _=>rfl)) ax (by rfl)) (by rfl))) (sr (n:=2) rfl (mZ (As (pv 3) aJ Aw) (mZ (As (pv 3) (pv 8) Aw) sj))))
  (@a9 _ _ _ _ _ (@bX (i:=6) _ _ _ _ _ _ qX.nd rfl (by w_up) (@eJ _ _ _ _ _ (@aj _ _ _ _ _ (fG oB (by rfl) T.bw oj (@aj _ _ _ _ _ (pv 3) ax (by rfl))) (@aj _ _ _ _ _ (fG oB (by rfl) T.bw oj (@aj _ _ _ _ _ (pv 4) ax (by rfl))) ax (by rfl)) (by rfl))) (by rfl) (by w_up))
  (@bh _ _ _ (MS (i:=7) (own:=["_law_s"]) (fr:=["_law_found"]) (js:=[6]) rfl qX.nd rfl rfl ⟨⟨rfl,by w_fin,by w_fin,by dsimp only [gi,aT,Cx.oI,Cx.wish,PyProof.Rows.envOfC,compEnvC,relabel,Env.kindOf];decide +kernel,by w_fin⟩,rfl⟩ (pR rfl T.aU (@aj _ _ _ _ _ (pv 1) ax (by rfl))) (fun _ _ _ _ _=>(c4 (i:=0) (show ((["_law_s"]:List Str) ++ (["_law_found"]:List Str)).Nodup by w_fin) rfl (by w_up))) (fun _ _ _ _ _=>(Js (gk (MU (K:=K) rfl) (pv 0) (bW km iq hr (by decide) rfl (@aj _ _ _ _ _ (pv 1) ax (by rfl))) (by with_unfolding_all rfl)))) (fun _ _ _ _ _=>(pv 0))))))))
  (@bh _ _ _ (@c9 _ _ _ _ (pv 6))))))))))),?_⟩
 exact eE (b:=GS) (bg (bJ (bU (F:=ki) (ao (ai 0) (ao (aK _) ay)) dE) (aS 2))
  (bg (N5 (ao (cu Ko (ao (bU (F:=ux) (ao (ai 0) (ao (ai 1) ay)) dE) ay)) (ao (cu Ko (ao (bU (F:=ux) (ao (ai 0) (ao (ai 1) ay)) dE) ay)) ay)))
  (bg (kK (gj (aA oy (ai 2) (aK _))) (bJ (aA wX (cu uu (ao (cu AY (ao (aK _) (ao (ai 1) ay))) ay)) (kQ (ao (aK _) ay))) (aS 3)) lQ)
  (bg (kK (gj (aA oy (ai 2) (aK _))) (N5 (ao (cu uu (ao (cu Gu (ao (ai 1) ay)) ay)) (ao (aA wX (cu uu (ao (cu AY (ao (aK _) (ao (ai 1) ay))) ay)) (kQ (ao (aK _) ay))) ay))) lQ)
  (bg (kK (gj (aA oy (ai 2) (aK _))) (bg (bJ (aA lP (aK _) (bU (F:=ki) (ao (ai 0) (ao (ai 1) ay)) dE)) (aS 5))
  (bg (bJ (aA wX (aA wX (cu uu (ao (cu AY (ao (aK _) (ao (ai 5) ay))) ay)) (kQ (ao (aK _) ay))) (cu uu (ao (cu AY (ao (ai 5) (ao (ai 1) ay))) ay))) (aS 3))
  (bg (bJ (Kl NY (aA wX (aA wX (aA wX (kQ (ao (ai 5) ay)) (cu uu (ao (cu AY (ao (aK _) (ao (ai 5) ay))) ay))) (cu uu (ao (cu AY (ao (aA lP (ai 5) (aK _)) (ao (ai 1) ay))) ay))) (kQ (ao (aK _) ay))) Kj (Kk (ai 1))) (aS 4))
  (kK (gj (aA oy (ai 5) (ai 1))) (bJ (cu uu (ao (cu Gu (ao (ai 1) ay)) ay)) (aS 4)) lQ)))) lQ)
  (bg (bJ (eM (ao (cu oz (ao (ai 3) ay)) (ao (cu oz (ao (ai 4) ay)) ay))) (aS 6))
  (bg (bJ (p7 (pV (ao (ai 1) ay)) (aS 0) (gj (aA (Dd true) (ai 0) (bU (F:=vw) (ao (ai 1) ay) kT))) (ai 0)) (aS 7))
  (bg (yH (gj (aA (AX true) (ai 7) (kQ ay))) (bg (bJ (aA kg (ai 7) (aK _)) (aS 8))
  (bg (bJ (eM (ao (aA kg (ai 3) (ai 8)) (ao (aA kg (ai 3) (aK _)) ay))) (tG (m9 (AZ (ai 3) (aK _)) (m9 (AZ (ai 3) (ai 8)) tD))))
  (bg (bJ (eM (ao (cu oz (ao (ai 3) ay)) (ao (cu oz (ao (ai 4) ay)) ay))) (aS 6))
  (bJ (p7 (pV (ao (ai 1) ay)) (aS 0) (gj (aA (Dd true) (ai 0) (bU (F:=vw) (ao (ai 1) ay) kT))) (ai 0)) (aS 7))))))
  (dc (ai 6)))))))))) rfl h
def GU:aq->Dm Fl :=
 (aE (aH (cL (ae (ag 1) ah)) (hName 2))
 (aE (cM (kY (aP dF (ae (aP iA (ae (aP dg (ae (av aM (ag 0) (fC (.int 0))) ah)) ah)) ah))) (hName 3) (cM (cN (ag 0)) (hName 4) (h8 (rL (aN (av yA (ag 3) (aP dg (ae (ag 2) ah)))) (aN (av (rX true) (av aM (ag 4) (av cm (ag 2) (ag 3))) (ag 2)))) (cG (kR "list" bj (ag 2) (ae (av aM (ag 4) (av cm (ag 2) (ag 3))) ah))) bx)))
 (aW (aP bG (ae (cO (cN (ag 0)) 1 [2] (hName 0) di (aP bG (ae (cO (kY (ag 1)) 1 [0,1] (hName 0) di (kR "list" kh (ag 2) (ae (av aM (ag 1) (ag 0)) ah))) ah))) ah)))))
def DX:List D->Dm D:=dG 5 GU
def DY:Stmt:=top 54
theorem GV:aB ["_law_floor_here","_law_s","_law_called","_law_one","_law_turning_here"] ["_law_floor_here","_law_s"] (au DY):=⟨rfl,rfl,rfl,by w_fin,rfl,by w_fin,by w_fin⟩
theorem U4 {f:Addr} {fd:FuncData} (D:Def K mg "_law_numbered" DY ["_law_floor_here","_law_s"] f fd) (T:Txt mg)  :aC P w K mg base aX 1 f fd ["_law_floor_here","_law_s"] (a8 K 2 DX):=by
 refine D.F.ok GV (fun _ _ _ _ h=>h.1) (fun c A o s H v Q E hr h=>?_)
 refine ⟨_,(@a9 _ _ _ _ _ (@bX (i:=2) _ _ _ _ _ _ GV.nd rfl (by w_up) (@kO _ _ _ _ (@aj _ _ _ _ _ (pv 1) ax (by rfl))) (by rfl) (by w_up))
  (@a9 _ _ _ _ _ (@lU _ _ _ _ _ _ _ _ PassesOwn.never rfl (FI (fG (uh rfl) (by rfl) T.dH rB (@aj _ _ _ _ _ (fG FV (by rfl) T.aU ug (@aj _ _ _ _ _ (ke mD (by rfl) T.cq mF (@aj _ _ _ _ _ (@a7 _ _ _ _ _ _ _ cj (pv 0) aJ (fun _ _=>rfl)) ax (by rfl))) ax (by rfl))) ax (by rfl)))) (c4 (i:=3) GV.nd rfl (by w_up)) (@bh _ _ _ (@lU _ _ _ _ _ _ _ _ PassesOwn.never rfl (oX (pv 0)) (c4 (i:=4) GV.nd rfl (by w_up)) (@bh _ _ _ (@kG _ _ _ _ _ _ _ _ (PW.pt (IE (gk BR (pv 3) (ke mD (by rfl) T.cq mF (@aj _ _ _ _ _ (pv 2) ax (by rfl))) (aO _)) (IC (gk FP (@a7 _ _ _ _ _ _ _ cj (pv 4) (@a7 _ _ _ _ _ _ _ lV (pv 2) (pv 3) (fun _ _=>rfl)) (fun _ _=>rfl)) (pv 2) (by with_unfolding_all rfl))))) (@bh _ _ _ (p9 (pI PySem.F.plainAttrs_list PySem.F.slot_list_append PySem.F.type_list_append qc (pv 2) (@aj _ _ _ _ _ (@a7 _ _ _ _ _ _ _ cj (pv 4) (@a7 _ _ _ _ _ _ _ lV (pv 2) (pv 3) (fun _ _=>rfl)) (fun _ _=>rfl)) ax (by rfl))))) lM)) (by intro _;rfl))) (by intro _;rfl))
  (@bh _ _ _ (@c9 _ _ _ _ (fG oB (by rfl) T.bw oj (@aj _ _ _ _ _ (qG (own:=["_law_turning_here"]) (fr:=["_law_called"]) (js:=[2]) rfl ⟨⟨rfl,by w_fin,by w_fin,by dsimp only [gi,aT,Cx.oI,Cx.wish,PyProof.Rows.envOfC,compEnvC,relabel,Env.kindOf];decide +kernel,by w_fin⟩,rfl⟩ (oX (pv 0)) (fun _ _ _ _ _=>(c4 (i:=0) (show ((["_law_turning_here"]:List Str) ++ (["_law_called"]:List Str)).Nodup by w_fin) rfl (by w_up))) (fun _ _ _ _ _=>rC) (fun _ _ _ _ _=>(fG (MV (K:=K) rfl) (by rfl) T.bw oj (@aj _ _ _ _ _ (qG (own:=["_law_one"]) (fr:=["_law_turning_here","_law_called"]) (js:=[0,1]) rfl ⟨N9 ⟨rfl,by w_fin,by w_fin,by dsimp only [gi,Cx.oI,Cx.wish,PyProof.Rows.envOfC];decide +kernel,by w_fin⟩,rfl⟩ (Q9 (K:=K) rfl (pv 1)) (fun _ _ _ _ _=>(c4 (i:=0) (show ((["_law_one"]:List Str) ++ (["_law_turning_here","_law_called"]:List Str)).Nodup by w_fin) rfl (by w_up))) (fun _ _ _ _ _=>rC) (fun _ _ _ _ _=>(FZ (K:=K) rfl PySem.F.plainAttrs_list PySem.F.slot_list_index PySem.F.type_list_index (T9 (K:=K) rfl) (pv 2) (@aj _ _ _ _ _ (@a7 _ _ _ _ _ _ _ (wj (K:=K) rfl) (pv 1) (pv 0) (fun _ _=>rfl)) ax (by rfl))))) ax (by rfl))))) ax (by rfl))))))),?_⟩
 exact eE (b:=GU) (bg (bJ (kQ (ao (ai 1) ay)) (aS 2))
  (bg (l8 (Gw (cu uu (ao (cu Gu (ao (cu mL (ao (aA bQ (ai 0) (aK _)) ay)) ay)) ay))) (aS 3) (l8 (pe (ai 0)) (aS 4) (kK (Ki (gj (aA C7 (ai 3) (cu mL (ao (ai 2) ay)))) (gj (aA (Dd true) (aA bQ (ai 4) (aA kg (ai 2) (ai 3))) (ai 2)))) (ql (oE qk (ai 2) (ao (aA bQ (ai 4) (aA kg (ai 2) (ai 3))) ay))) lQ)))
  (dc (cu oz (ao (p7 (pe (ai 0)) (aS 0) rP (cu oz (ao (p7 (Gw (ai 1)) (aS 0) rP (oE Ua (ai 2) (ao (aA bQ (ai 1) (ai 0)) ay))) ay))) ay))))) rfl h
def GW:aq->Dm Fl :=
 (aW (aP ng (ae (cO (bY (ae (aP dg (ae (av aM (ag 0) (fC (.int 0))) ah)) ah)) 1 [0] (hName 0) di (aP DX (ae (ag 1) (ae (ag 0) ah)))) ah)))
def pN:List D->Dm D:=dG 1 GW
def zV:Stmt:=top 55
theorem U5:aB ["_law_floor_here"] ["_law_floor_here"] (au zV):=⟨rfl,rfl,rfl,by w_fin,rfl,by w_fin,by w_fin⟩
theorem U6 {f:Addr} {fd:FuncData} (D:Def K mg "_law_form" zV ["_law_floor_here"] f fd) (T:Txt mg)  {dj:Addr} {dk:FuncData} (dr:Def K mg "_law_numbered" DY ["_law_floor_here","_law_s"] dj dk) (fQ:aC P w K mg base aX 1 dj dk ["_law_floor_here","_law_s"] (a8 K 2 DX)):aC P w K mg base aX 2 f fd ["_law_floor_here"] (a8 K 1 pN):=by
 refine D.F.ok U5 (fun _ _ _ _ h=>h.1) (fun c A o s H v Q E hr h=>?_)
 have hu:=hr.units
 refine ⟨_,(@bh _ _ _ (@c9 _ _ _ _ (ke (Nb rfl hu) (by rfl) T.tQ Jl (@aj _ _ _ _ _ (qG (own:=["_law_s"]) (fr:=["_law_floor_here"]) (js:=[0]) rfl ⟨⟨rfl,by w_fin,by w_fin,by dsimp only [gi,aT,Cx.oI,Cx.wish,PyProof.Rows.envOfC,compEnvC,relabel,Env.kindOf];decide +kernel,by w_fin⟩,rfl⟩ (pR rfl T.aU (@aj _ _ _ _ _ (ke mD (by rfl) T.cq mF (@aj _ _ _ _ _ (@a7 _ _ _ _ _ _ _ cj (pv 0) aJ (fun _ _=>rfl)) ax (by rfl))) ax (by rfl))) (fun _ _ _ _ _=>(c4 (i:=0) (show ((["_law_s"]:List Str) ++ (["_law_floor_here"]:List Str)).Nodup by w_fin) rfl (by w_up))) (fun _ _ _ _ _=>rC) (fun _ _ _ _ _=>(bW fQ dr hr (by decide) rfl (@aj _ _ _ _ _ (pv 1) (@aj _ _ _ _ _ (pv 0) ax (by rfl)) (by rfl))))) ax (by rfl))))),?_⟩
 exact eE (b:=GW) (dc (cu OH (ao (p7 (pV (ao (cu mL (ao (aA bQ (ai 0) (aK _)) ay)) ay)) (aS 0) rP (bU (F:=DX) (ao (ai 1) (ao (ai 0) ay)) dE)) ay))) rfl h
def GX:aq->Dm Fl :=
 (aE (h8 (aN (av yA (ag 2) (fC (.int 0)))) (aE (aH (aP bG (ae (cO (bY (ae (aP dg (ae (ag 0) ah)) ah)) 1 [0] (hName 0) di (kR "tuple" iB (ag 1) (ae (ag 0) ah))) ah)) (hName 0))
 (aH (av lS (fC (.int 0)) (ag 2)) (hName 2))) bx)
 (aE (aH (cL (ae (ag 1) ah)) (hName 3))
 (aE (iC (aN (av (jx true) (av aM (ag 0) (av cm (ag 3) (rJ lZ (fC (.int 1))))) (ag 1))) (cG (kR "list" bj (ag 3) (ae (av aM (ag 0) (av cm (ag 3) (rJ lZ (fC (.int 1))))) ah))))
 (aW (av cm (ag 3) (av jN (ag 2) (aP dg (ae (ag 3) ah))))))))
def DZ:List D->Dm D:=dG 4 GX
def D0:Stmt:=top 51
theorem GY:aB ["_law_turning_here","_law_s","_law_k","_law_ring"] ["_law_turning_here","_law_s","_law_k"] (au D0):=⟨rfl,rfl,rfl,by w_fin,rfl,by w_fin,by w_fin⟩
theorem U7 {f:Addr} {fd:FuncData} (D:Def K mg "_law_behind" D0 ["_law_turning_here","_law_s","_law_k"] f fd) (T:Txt mg)  :aC P w K mg base aX 1 f fd ["_law_turning_here","_law_s","_law_k"] (a8 K 3 DZ):=by
 refine D.F.ok GY (fun _ _ _ _ h=>h.1) (fun c A o s H v Q E hr h=>?_)
 refine ⟨_,(@a9 _ _ _ _ _ (@kG _ _ _ _ _ _ _ _ (gk BR (pv 2) aJ (aO _)) (@a9 _ _ _ _ _ (@bX (i:=0) _ _ _ _ _ _ GY.nd rfl (by w_up) (fG oB (by rfl) T.bw oj (@aj _ _ _ _ _ (qG (own:=["_law_one"]) (fr:=["_law_turning_here"]) (js:=[0]) rfl ⟨⟨rfl,by w_fin,by w_fin,by dsimp only [gi,aT,Cx.oI,Cx.wish,PyProof.Rows.envOfC,compEnvC,relabel,Env.kindOf];decide +kernel,by w_fin⟩,rfl⟩ (pR rfl T.aU (@aj _ _ _ _ _ (ke mD (by rfl) T.cq mF (@aj _ _ _ _ _ (pv 0) ax (by rfl))) ax (by rfl))) (fun _ _ _ _ _=>(c4 (i:=0) (show ((["_law_one"]:List Str) ++ (["_law_turning_here"]:List Str)).Nodup by w_fin) rfl (by w_up))) (fun _ _ _ _ _=>rC) (fun _ _ _ _ _=>(FZ (K:=K) rfl PySem.F.plainAttrs_tuple PySem.F.slot_tuple_index PySem.F.type_tuple_index (JF (K:=K) rfl) (pv 1) (@aj _ _ _ _ _ (pv 0) ax (by rfl))))) ax (by rfl))) (by rfl) (by w_up))
  (@bh _ _ _ (@bX (i:=2) _ _ _ _ _ _ GY.nd rfl (by w_up) (bz uI aJ (pv 2)) (by rfl) (by w_up)))) lM)
  (@a9 _ _ _ _ _ (@bX (i:=3) _ _ _ _ _ _ GY.nd rfl (by w_up) (@kO _ _ _ _ (@aj _ _ _ _ _ (pv 1) ax (by rfl))) (by rfl) (by w_up))
  (@a9 _ _ _ _ _ (xO PassesOwn.never (gk BQ (@a7 _ _ _ _ _ _ _ cj (pv 0) (@a7 _ _ _ _ _ _ _ lV (pv 3) (sx sA aJ) (fun _ _=>rfl)) (fun _ _=>rfl)) (pv 1) (aO _)) (@bh _ _ _ (p9 (pI PySem.F.plainAttrs_list PySem.F.slot_list_append PySem.F.type_list_append qc (pv 3) (@aj _ _ _ _ _ (@a7 _ _ _ _ _ _ _ cj (pv 0) (@a7 _ _ _ _ _ _ _ lV (pv 3) (sx sA aJ) (fun _ _=>rfl)) (fun _ _=>rfl)) ax (by rfl))))))
  (@bh _ _ _ (@c9 _ _ _ _ (@a7 _ _ _ _ _ _ _ lV (pv 3) (bz rl (pv 2) (ke mD (by rfl) T.cq mF (@aj _ _ _ _ _ (pv 3) ax (by rfl)))) (fun _ _=>rfl))))))),?_⟩
 exact eE (b:=GX) (bg (kK (gj (aA C7 (ai 2) (aK _))) (bg (bJ (cu oz (ao (p7 (pV (ao (cu mL (ao (ai 0) ay)) ay)) (aS 0) rP (oE Kr (ai 1) (ao (ai 0) ay))) ay)) (aS 0))
  (bJ (aA u6 (aK _) (ai 2)) (aS 2))) lQ)
  (bg (bJ (kQ (ao (ai 1) ay)) (aS 3))
  (bg (yH (gj (aA Dc (aA bQ (ai 0) (aA kg (ai 3) (sZ tj (aK _)))) (ai 1))) (ql (oE qk (ai 3) (ao (aA bQ (ai 0) (aA kg (ai 3) (sZ tj (aK _)))) ay))))
  (dc (aA kg (ai 3) (aA rM (ai 2) (cu mL (ao (ai 3) ay)))))))) rfl h
def A7:aq->Dm Fl :=
 (aE (aH (ag 0) (l6 2 (cg (hName 2) (cg (hName 3) mN))))
 (aE (h8 (aN (av (jx false) (av aM (ag 1) (fC (.int 0))) (fC (.str "s")))) (aW (bq (ae (ag 2) (ae (aP bG (ae (cO (bY (ae (aP dg (ae (ag 3) ah)) ah)) 1 [1,2,3] (hName 0) di (av aM (ag 3) (aP DZ (ae (ag 2) (ae (ag 0) (ae (av lS (fC (.int 0)) (av aM (ag 1) (fC (.int 1)))) ah)))))) ah)) ah)))) bx)
 (aE (cM (bY (ae (av jN (av aM (ag 1) (fC (.int 1))) (fC (.int 4))) ah)) (hName 4) (aH (bq (ae (aP bG (ae (cO (bY (ae (aP dg (ae (ag 3) ah)) ah)) 1 [3] (hName 0) di (kR "tuple" iB (ag 1) (ae (ag 0) ah))) ah)) (ae (ag 2) ah))) (l6 2 (cg (hName 2) (cg (hName 3) mN)))))
 (aW (bq (ae (ag 2) (ae (ag 3) ah)))))))
def tR:List D->Dm D:=dG 5 A7
def A8:Stmt:=top 52
theorem A9:aB ["_law_floor_here","_law_step","_law_right","_law_up","_law_turn"] ["_law_floor_here","_law_step"] (au A8):=⟨rfl,rfl,rfl,by w_fin,rfl,by w_fin,by w_fin⟩
theorem U8 {f:Addr} {fd:FuncData} (D:Def K mg "_law_stepped" A8 ["_law_floor_here","_law_step"] f fd) (T:Txt mg)  {eX:Addr} {eY:FuncData} (eZ:Def K mg "_law_behind" D0 ["_law_turning_here","_law_s","_law_k"] eX eY) (iE:aC P w K mg base aX 1 eX eY ["_law_turning_here","_law_s","_law_k"] (a8 K 3 DZ)):aC P w K mg base aX 2 f fd ["_law_floor_here","_law_step"] (a8 K 2 tR):=by
 refine D.F.ok A9 (fun _ _ _ _ h=>h.1) (fun c A o s H v Q E hr h=>?_)
 refine ⟨_,(@a9 _ _ _ _ _ (uc (pv 0) (sr (n:=2) rfl (mZ (c4 (i:=2) A9.nd rfl (by w_up)) (mZ (c4 (i:=3) A9.nd rfl (by w_up)) sj))))
  (@a9 _ _ _ _ _ (@kG _ _ _ _ _ _ _ _ (gk oi (@a7 _ _ _ _ _ _ _ cj (pv 1) aJ (fun _ _=>rfl)) oV (aO _)) (@bh _ _ _ (@c9 _ _ _ _ (@eJ _ _ _ _ _ (@aj _ _ _ _ _ (pv 2) (@aj _ _ _ _ _ (fG oB (by rfl) T.bw oj (@aj _ _ _ _ _ (qG (own:=["_law_s"]) (fr:=["_law_step","_law_right","_law_up"]) (js:=[1,2,3]) rfl ⟨⟨rfl,by w_fin,by w_fin,by dsimp only [gi,aT,Cx.oI,Cx.wish,PyProof.Rows.envOfC,compEnvC,relabel,Env.kindOf];decide +kernel,by w_fin⟩,rfl⟩ (pR rfl T.aU (@aj _ _ _ _ _ (ke mD (by rfl) T.cq mF (@aj _ _ _ _ _ (pv 3) ax (by rfl))) ax (by rfl))) (fun _ _ _ _ _=>(c4 (i:=0) (show ((["_law_s"]:List Str) ++ (["_law_step","_law_right","_law_up"]:List Str)).Nodup by w_fin) rfl (by w_up))) (fun _ _ _ _ _=>rC) (fun _ _ _ _ _=>(@a7 _ _ _ _ _ _ _ (wj (K:=K) rfl) (pv 3) (bW iE eZ hr (by decide) rfl (@aj _ _ _ _ _ (pv 2) (@aj _ _ _ _ _ (pv 0) (@aj _ _ _ _ _ (bz uI aJ (@a7 _ _ _ _ _ _ _ (wj (K:=K) rfl) (pv 1) aJ (fun _ _=>rfl))) ax (by rfl)) (by rfl)) (by rfl))) (fun _ _=>rfl)))) ax (by rfl))) ax (by rfl)) (by rfl))))) lM)
  (@a9 _ _ _ _ _ (@lU _ _ _ _ _ _ _ _ PassesOwn.never rfl (pR rfl T.aU (@aj _ _ _ _ _ (bz rl (@a7 _ _ _ _ _ _ _ cj (pv 1) aJ (fun _ _=>rfl)) aJ) ax (by rfl))) (c4 (i:=4) A9.nd rfl (by w_up)) (@bh _ _ _ (uc (@eJ _ _ _ _ _ (@aj _ _ _ _ _ (fG oB (by rfl) T.bw oj (@aj _ _ _ _ _ (qG (own:=["_law_s"]) (fr:=["_law_up"]) (js:=[3]) rfl ⟨⟨rfl,by w_fin,by w_fin,by dsimp only [gi,aT,Cx.oI,Cx.wish,PyProof.Rows.envOfC,compEnvC,relabel,Env.kindOf];decide +kernel,by w_fin⟩,rfl⟩ (pR rfl T.aU (@aj _ _ _ _ _ (ke mD (by rfl) T.cq mF (@aj _ _ _ _ _ (pv 3) ax (by rfl))) ax (by rfl))) (fun _ _ _ _ _=>(c4 (i:=0) (show ((["_law_s"]:List Str) ++ (["_law_up"]:List Str)).Nodup by w_fin) rfl (by w_up))) (fun _ _ _ _ _=>rC) (fun _ _ _ _ _=>(FZ (K:=K) rfl PySem.F.plainAttrs_tuple PySem.F.slot_tuple_index PySem.F.type_tuple_index (JF (K:=K) rfl) (pv 1) (@aj _ _ _ _ _ (pv 0) ax (by rfl))))) ax (by rfl))) (@aj _ _ _ _ _ (pv 2) ax (by rfl)) (by rfl))) (sr (n:=2) rfl (mZ (c4 (i:=2) A9.nd rfl (by w_up)) (mZ (c4 (i:=3) A9.nd rfl (by w_up)) sj))))) (by intro _;rfl))
  (@bh _ _ _ (@c9 _ _ _ _ (@eJ _ _ _ _ _ (@aj _ _ _ _ _ (pv 2) (@aj _ _ _ _ _ (pv 3) ax (by rfl)) (by rfl)))))))),?_⟩
 exact eE (b:=A7) (bg (bJ (ai 0) (tG (m9 (aS 2) (m9 (aS 3) tD))))
  (bg (kK (gj (aA oy (aA bQ (ai 1) (aK _)) (o8 _))) (dc (eM (ao (ai 2) (ao (cu oz (ao (p7 (pV (ao (cu mL (ao (ai 3) ay)) ay)) (aS 0) rP (aA bQ (ai 3) (bU (F:=DZ) (ao (ai 2) (ao (ai 0) (ao (aA u6 (aK _) (aA bQ (ai 1) (aK _))) ay))) K5))) ay)) ay)))) lQ)
  (bg (l8 (pV (ao (aA rM (aA bQ (ai 1) (aK _)) (aK _)) ay)) (aS 4) (bJ (eM (ao (cu oz (ao (p7 (pV (ao (cu mL (ao (ai 3) ay)) ay)) (aS 0) rP (oE Kr (ai 1) (ao (ai 0) ay))) ay)) (ao (ai 2) ay))) (tG (m9 (aS 2) (m9 (aS 3) tD)))))
  (dc (eM (ao (ai 2) (ao (ai 3) ay))))))) rfl h
def GZ:aq->Dm Fl :=
 (aE (aH (cL ah) (hName 1))
 (aE (cM (cN (ag 0)) (l6 2 (cg (hName 2) (cg (hName 3) mN))) (aE (h8 (rL (aN (av (kJ true) (ag 1) (cL ah))) (aN (av (jx false) (av aM (av cm (ag 1) (rJ lZ (fC (.int 1)))) (fC (.int 0))) (ag 2)))) (aH (av cZ (av aM (vn "list" vo (ag 1)) (fC (.int 1))) (ag 3)) (hName 3)) bx)
 (aE (h8 (aN (av (jx false) (ag 2) (fC (.str "t")))) (aH (av jN (ag 3) (fC (.int 4))) (hName 3)) bx)
 (h8 (aN (av (jx true) (ag 3) (fC (.int 0)))) (cG (kR "list" bj (ag 1) (ae (bq (ae (ag 2) (ae (ag 3) ah))) ah))) bx))))
 (aW (aP bG (ae (ag 1) ah)))))
def Ba:List D->Dm D:=dG 4 GZ
def D1:Stmt:=top 59
theorem Bb:aB ["_law_word_here","_law_found","_law_letter","_law_k"] ["_law_word_here"] (au D1):=⟨rfl,rfl,rfl,by w_fin,rfl,by w_fin,by w_fin⟩
theorem U9 {f:Addr} {fd:FuncData} (D:Def K mg "_law_plain" D1 ["_law_word_here"] f fd) (T:Txt mg)  :aC P w K mg base aX 1 f fd ["_law_word_here"] (a8 K 1 Ba):=by
 refine D.F.ok Bb (fun _ _ _ _ h=>h.1) (fun c A o s H v Q E hr h=>?_)
 have hu:=hr.units
 refine ⟨_,(@a9 _ _ _ _ _ (@bX (i:=1) _ _ _ _ _ _ Bb.nd rfl (by w_up) (@kO _ _ _ _ ax) (by rfl) (by w_up))
  (@a9 _ _ _ _ _ (@lU _ _ _ _ _ _ _ _ PassesOwn.never rfl (oX (pv 0)) (sr (n:=2) rfl (mZ (c4 (i:=2) Bb.nd rfl (by w_up)) (mZ (c4 (i:=3) Bb.nd rfl (by w_up)) sj))) (@a9 _ _ _ _ _ (@kG _ _ _ _ _ _ _ _ (PW.pt (IE (gk (Jo hu) (pv 1) (@kO _ _ _ _ ax) (aO _)) (IC (gk oi (@a7 _ _ _ _ _ _ _ cj (@a7 _ _ _ _ _ _ _ lV (pv 1) (sx sA aJ) (fun _ _=>rfl)) aJ (fun _ _=>rfl)) (pv 2) (aO _))))) (@bh _ _ _ (@bX (i:=3) _ _ _ _ _ _ Bb.nd rfl (by w_up) (bz lO (@a7 _ _ _ _ _ _ _ cj (xZ PySem.F.plainAttrs_list PySem.F.slot_list_pop PySem.F.type_list_pop x4 (pv 1)) aJ (fun _ _=>rfl)) (pv 3)) (by rfl) (by w_up))) lM)
  (@a9 _ _ _ _ _ (@kG _ _ _ _ _ _ _ _ (gk oi (pv 2) oV (aO _)) (@bh _ _ _ (@bX (i:=3) _ _ _ _ _ _ Bb.nd rfl (by w_up) (bz rl (pv 3) aJ) (by rfl) (by w_up))) lM)
  (@bh _ _ _ (@kG _ _ _ _ _ _ _ _ (gk BQ (pv 3) aJ (aO _)) (@bh _ _ _ (p9 (pI PySem.F.plainAttrs_list PySem.F.slot_list_append PySem.F.type_list_append qc (pv 1) (@aj _ _ _ _ _ (@eJ _ _ _ _ _ (@aj _ _ _ _ _ (pv 2) (@aj _ _ _ _ _ (pv 3) ax (by rfl)) (by rfl))) ax (by rfl))))) lM)))) (by intro _;rfl))
  (@bh _ _ _ (@c9 _ _ _ _ (fG oB (by rfl) T.bw oj (@aj _ _ _ _ _ (pv 1) ax (by rfl))))))),?_⟩
 exact eE (b:=GZ) (bg (bJ (kQ ay) (aS 1))
  (bg (l8 (pe (ai 0)) (tG (m9 (aS 2) (m9 (aS 3) tD))) (bg (kK (Ki (gj (aA (AX true) (ai 1) (kQ ay))) (gj (aA oy (aA bQ (aA kg (ai 1) (sZ tj (aK _))) (aK _)) (ai 2)))) (bJ (aA lP (aA bQ (zM zO (ai 1)) (aK _)) (ai 3)) (aS 3)) lQ)
  (bg (kK (gj (aA oy (ai 2) (o8 _))) (bJ (aA rM (ai 3) (aK _)) (aS 3)) lQ)
  (kK (gj (aA Dc (ai 3) (aK _))) (ql (oE qk (ai 1) (ao (eM (ao (ai 2) (ao (ai 3) ay))) ay))) lQ))))
  (dc (cu oz (ao (ai 1) ay))))) rfl h
def G0:aq->Dm Fl :=
 (aE (aH (cL (ae (aP pN (ae (ag 0) ah)) ah)) (hName 2))
 (aE (aH (cL (ae (bq ah) ah)) (hName 3))
 (aE (aH (cL ah) (hName 4))
 (aE (cM (bY (ae (ag 1) ah)) (hName 5) (h8 (aN (av yA (ag 5) (aP dg (ae (ag 2) ah)))) (aE (cG (kR "list" bj (ag 4) (ae (cL ah) ah)))
 (aE (cM (cN (bq (ae (bq (ae (fC (.str "s")) (ae (fC (.int 1)) ah))) (ae (bq (ae (fC (.str "t")) (ae (fC (.int 1)) ah))) ah)))) (hName 6) (aE (aH (aP pN (ae (aP tR (ae (av cm (ag 2) (ag 5)) (ae (ag 6) ah))) ah)) (hName 7))
 (aE (h8 (aN (av (qv true) (ag 7) (ag 2))) (aE (cG (kR "list" bj (ag 2) (ae (ag 7) ah)))
 (cG (kR "list" bj (ag 3) (ae (aP Ba (ae (av ip (av cm (ag 3) (ag 5)) (bq (ae (ag 6) ah))) ah)) ah)))) bx)
 (cG (kR "list" bj (av cm (ag 4) (ag 5)) (ae (kR "list" gn (ag 2) (ae (ag 7) ah)) ah))))))
 (h8 (aN (av AR (aP dg (ae (ag 2) ah)) (ag 1))) (aW (fC .non)) bx))) bx))
 (aW (aP bG (ae (cO (bY (ae (aP dg (ae (ag 2) ah)) ah)) 1 [2,3,4] (hName 0) di (bq (ae (av cm (ag 1) (ag 0)) (ae (av cm (ag 2) (ag 0)) (ae (av cm (av cm (ag 3) (ag 0)) (fC (.int 0))) (ae (av cm (av cm (ag 3) (ag 0)) (fC (.int 1))) ah)))))) ah)))))))
def zW:List D->Dm D:=dG 8 G0
def D2:Stmt:=top 60
theorem zX:aB ["_law_floor_here","_law_most","_law_forms","_law_words","_law_links","_law_at","_law_step","_law_fresh"] ["_law_floor_here","_law_most"] (au D2):=⟨rfl,rfl,rfl,by w_fin,rfl,by w_fin,by w_fin⟩
theorem Va {f:Addr} {fd:FuncData} (D:Def K mg "_law_chart" D2 ["_law_floor_here","_law_most"] f fd) (T:Txt mg)  {b7:Addr} {b8:FuncData} (bH:Def K mg "_law_form" zV ["_law_floor_here"] b7 b8) (bN:aC P w K mg base aX 2 b7 b8 ["_law_floor_here"] (a8 K 1 pN)) {b9:Addr} {cb:FuncData} (cc:Def K mg "_law_stepped" A8 ["_law_floor_here","_law_step"] b9 cb) (cC:aC P w K mg base aX 2 b9 cb ["_law_floor_here","_law_step"] (a8 K 2 tR)) {gp:Addr} {gq:FuncData} (gs:Def K mg "_law_plain" D1 ["_law_word_here"] gp gq) (jQ:aC P w K mg base aX 1 gp gq ["_law_word_here"] (a8 K 1 Ba)):aC P w K mg base aX 3 f fd ["_law_floor_here","_law_most"] (a8 K 2 zW):=by
 refine D.F.ok zX (fun _ _ _ _ h=>h.1) (fun c A o s H v Q E hr h=>?_)
 have hu:=hr.units
 refine ⟨_,(@a9 _ _ _ _ _ (@bX (i:=2) _ _ _ _ _ _ zX.nd rfl (by w_up) (@kO _ _ _ _ (@aj _ _ _ _ _ (bW bN bH hr (by decide) rfl (@aj _ _ _ _ _ (pv 0) ax (by rfl))) ax (by rfl))) (by rfl) (by w_up))
  (@a9 _ _ _ _ _ (@bX (i:=3) _ _ _ _ _ _ zX.nd rfl (by w_up) (@kO _ _ _ _ (@aj _ _ _ _ _ (@eJ _ _ _ _ _ ax) ax (by rfl))) (by rfl) (by w_up))
  (@a9 _ _ _ _ _ (@bX (i:=4) _ _ _ _ _ _ zX.nd rfl (by w_up) (@kO _ _ _ _ ax) (by rfl) (by w_up))
  (@a9 _ _ _ _ _ (@lU _ _ _ _ _ _ _ _ PassesOwn.never rfl (pR rfl T.aU (@aj _ _ _ _ _ (pv 1) ax (by rfl))) (c4 (i:=5) zX.nd rfl (by w_up)) (@bh _ _ _ (@kG _ _ _ _ _ _ _ _ (gk BR (pv 5) (ke mD (by rfl) T.cq mF (@aj _ _ _ _ _ (pv 2) ax (by rfl))) (aO _)) (@a9 _ _ _ _ _ (p9 (pI PySem.F.plainAttrs_list PySem.F.slot_list_append PySem.F.type_list_append qc (pv 4) (@aj _ _ _ _ _ (@kO _ _ _ _ ax) ax (by rfl))))
  (@a9 _ _ _ _ _ (@lU _ _ _ _ _ _ _ _ PassesOwn.never rfl (oX (@eJ _ _ _ _ _ (@aj _ _ _ _ _ (@eJ _ _ _ _ _ (@aj _ _ _ _ _ oV (@aj _ _ _ _ _ aJ ax (by rfl)) (by rfl))) (@aj _ _ _ _ _ (@eJ _ _ _ _ _ (@aj _ _ _ _ _ oV (@aj _ _ _ _ _ aJ ax (by rfl)) (by rfl))) ax (by rfl)) (by rfl)))) (c4 (i:=6) zX.nd rfl (by w_up)) (@a9 _ _ _ _ _ (@bX (i:=7) _ _ _ _ _ _ zX.nd rfl (by w_up) (bW bN bH hr (by decide) rfl (@aj _ _ _ _ _ (bW cC cc hr (by decide) rfl (@aj _ _ _ _ _ (@a7 _ _ _ _ _ _ _ lV (pv 2) (pv 5) (fun _ _=>rfl)) (@aj _ _ _ _ _ (pv 6) ax (by rfl)) (by rfl))) ax (by rfl))) (by rfl) (by w_up))
  (@a9 _ _ _ _ _ (@kG _ _ _ _ _ _ _ _ (gk (Ro hu) (pv 7) (pv 2) (by with_unfolding_all rfl)) (@a9 _ _ _ _ _ (p9 (pI PySem.F.plainAttrs_list PySem.F.slot_list_append PySem.F.type_list_append qc (pv 2) (@aj _ _ _ _ _ (pv 7) ax (by rfl))))
  (@bh _ _ _ (p9 (pI PySem.F.plainAttrs_list PySem.F.slot_list_append PySem.F.type_list_append qc (pv 3) (@aj _ _ _ _ _ (bW jQ gs hr (by decide) rfl (@aj _ _ _ _ _ (bz uM (@a7 _ _ _ _ _ _ _ lV (pv 3) (pv 5) (fun _ _=>rfl)) (@eJ _ _ _ _ _ (@aj _ _ _ _ _ (pv 6) ax (by rfl)))) ax (by rfl))) ax (by rfl)))))) lM)
  (@bh _ _ _ (p9 (pI PySem.F.plainAttrs_list PySem.F.slot_list_append PySem.F.type_list_append qc (@a7 _ _ _ _ _ _ _ lV (pv 4) (pv 5) (fun _ _=>rfl)) (@aj _ _ _ _ _ (pI PySem.F.plainAttrs_list PySem.F.slot_list_index PySem.F.type_list_index (RI hu) (pv 2) (@aj _ _ _ _ _ (pv 7) ax (by rfl))) ax (by rfl))))))) (by intro _;rfl))
  (@bh _ _ _ (@kG _ _ _ _ _ _ _ _ (gk FN (ke mD (by rfl) T.cq mF (@aj _ _ _ _ _ (pv 2) ax (by rfl))) (pv 1) (aO _)) (@bh _ _ _ (@c9 _ _ _ _ LS)) lM)))) lM)) (by intro _;rfl))
  (@bh _ _ _ (@c9 _ _ _ _ (fG oB (by rfl) T.bw oj (@aj _ _ _ _ _ (qG (own:=["_law_at"]) (fr:=["_law_forms","_law_words","_law_links"]) (js:=[2,3,4]) rfl ⟨⟨rfl,by w_fin,by w_fin,by dsimp only [gi,aT,Cx.oI,Cx.wish,PyProof.Rows.envOfC,compEnvC,relabel,Env.kindOf];decide +kernel,by w_fin⟩,rfl⟩ (pR rfl T.aU (@aj _ _ _ _ _ (ke mD (by rfl) T.cq mF (@aj _ _ _ _ _ (pv 2) ax (by rfl))) ax (by rfl))) (fun _ _ _ _ _=>(c4 (i:=0) (show ((["_law_at"]:List Str) ++ (["_law_forms","_law_words","_law_links"]:List Str)).Nodup by w_fin) rfl (by w_up))) (fun _ _ _ _ _=>rC) (fun _ _ _ _ _=>(@eJ _ _ _ _ _ (@aj _ _ _ _ _ (@a7 _ _ _ _ _ _ _ (AF (K:=K) rfl) (pv 1) (pv 0) (fun _ _=>rfl)) (@aj _ _ _ _ _ (@a7 _ _ _ _ _ _ _ (AF (K:=K) rfl) (pv 2) (pv 0) (fun _ _=>rfl)) (@aj _ _ _ _ _ (@a7 _ _ _ _ _ _ _ (AF (K:=K) rfl) (@a7 _ _ _ _ _ _ _ (AF (K:=K) rfl) (pv 3) (pv 0) (fun _ _=>rfl)) aJ (fun _ _=>rfl)) (@aj _ _ _ _ _ (@a7 _ _ _ _ _ _ _ (AF (K:=K) rfl) (@a7 _ _ _ _ _ _ _ (AF (K:=K) rfl) (pv 3) (pv 0) (fun _ _=>rfl)) aJ (fun _ _=>rfl)) ax (by rfl)) (by rfl)) (by rfl)) (by rfl))))) ax (by rfl))))))))),?_⟩
 exact eE (b:=G0) (bg (bJ (kQ (ao (bU (F:=pN) (ao (ai 0) ay) kT) ay)) (aS 2))
  (bg (bJ (kQ (ao (eM ay) ay)) (aS 3))
  (bg (bJ (kQ ay) (aS 4))
  (bg (l8 (pV (ao (ai 1) ay)) (aS 5) (kK (gj (aA C7 (ai 5) (cu mL (ao (ai 2) ay)))) (bg (ql (oE qk (ai 4) (ao (kQ ay) ay)))
  (bg (l8 (pe (eM (ao (eM (ao (o8 _) (ao (aK _) ay))) (ao (eM (ao (o8 _) (ao (aK _) ay))) ay)))) (aS 6) (bg (bJ (bU (F:=pN) (ao (bU (F:=tR) (ao (aA kg (ai 2) (ai 5)) (ao (ai 6) ay)) dE) ay) kT) (aS 7))
  (bg (kK (gj (aA (zK true) (ai 7) (ai 2))) (bg (ql (oE qk (ai 2) (ao (ai 7) ay)))
  (ql (oE qk (ai 3) (ao (bU (F:=Ba) (ao (aA u7 (aA kg (ai 3) (ai 5)) (eM (ao (ai 6) ay))) ay) kT) ay)))) lQ)
  (ql (oE qk (aA kg (ai 4) (ai 5)) (ao (oE UL (ai 2) (ao (ai 7) ay)) ay))))))
  (kK (gj (aA Gr (cu mL (ao (ai 2) ay)) (ai 1))) (dc NV) lQ))) lQ))
  (dc (cu oz (ao (p7 (pV (ao (cu mL (ao (ai 2) ay)) ay)) (aS 0) rP (eM (ao (aA kg (ai 1) (ai 0)) (ao (aA kg (ai 2) (ai 0)) (ao (aA kg (aA kg (ai 3) (ai 0)) (aK _)) (ao (aA kg (aA kg (ai 3) (ai 0)) (aK _)) ay)))))) ay))))))) rfl h
def G1:aq->Dm Fl :=
 (aE (aH (aP uy (ae (ag 0) (ae (av cm (cL (ae (av cZ (fC (.int 1)) (aP ki (ae (ag 0) (ae (fC (.int 5)) ah)))) (ae (fC (.int 6)) ah))) (av nU (aP ki (ae (ag 0) (ae (fC (.int 8)) ah))) (fC (.int 7)))) ah))) (hName 2))
 (aE (aH (aP zW (ae (ag 2) (ae (ag 1) ah))) (hName 3))
 (aE (iC (aN (av (tN false) (ag 3) (fC .non))) (aE (aH (aP uy (ae (ag 0) (ae (av cZ (fC (.int 1)) (aP ki (ae (ag 0) (ae (fC (.int 3)) ah)))) ah))) (hName 2))
 (aH (aP zW (ae (ag 2) (ae (ag 1) ah))) (hName 3))))
 (aW (bq (ae (ag 2) (ae (ag 3) ah)))))))
def D3:List D->Dm D:=dG 4 G1
def D4:Stmt:=top 63
theorem D5:aB ["_law_feed_here","_law_most","_law_floor_here","_law_chart_here"] ["_law_feed_here","_law_most"] (au D4):=⟨rfl,rfl,rfl,by w_fin,rfl,by w_fin,by w_fin⟩
theorem Vb {f:Addr} {fd:FuncData} (D:Def K mg "_law_own" D4 ["_law_feed_here","_law_most"] f fd) (T:Txt mg)  {cP:Addr} {cQ:FuncData} (cw:Def K mg "_law_floor" A6 ["_law_feed_here","_law_n"] cP cQ) (cR:aC P w K mg base aX 3 cP cQ ["_law_feed_here","_law_n"] (a8 K 2 uy)) {gu:Addr} {gw:FuncData} (eA:Def K mg "_law_chart" D2 ["_law_floor_here","_law_most"] gu gw) (gx:aC P w K mg base aX 3 gu gw ["_law_floor_here","_law_most"] (a8 K 2 zW)) {aQ:Addr} {aR:FuncData} (aI:Def K mg "_law_take" uw ["_law_feed_here","_law_many"] aQ aR) (aL:aC P w K mg base aX 1 aQ aR ["_law_feed_here","_law_many"] (a8 K 2 ki)):aC P w K mg base aX 4 f fd ["_law_feed_here","_law_most"] (a8 K 2 D3):=by
 refine D.F.ok D5 (fun _ _ _ _ h=>h.1) (fun c A o s H v Q E hr h=>?_)
 refine ⟨_,(@a9 _ _ _ _ _ (@bX (i:=2) _ _ _ _ _ _ D5.nd rfl (by w_up) (bW cR cw hr (by decide) rfl (@aj _ _ _ _ _ (pv 0) (@aj _ _ _ _ _ (@a7 _ _ _ _ _ _ _ lV (@kO _ _ _ _ (@aj _ _ _ _ _ (bz lO aJ (bW aL aI hr (by decide) rfl (@aj _ _ _ _ _ (pv 0) (@aj _ _ _ _ _ aJ ax (by rfl)) (by rfl)))) (@aj _ _ _ _ _ aJ ax (by rfl)) (by rfl))) (bz FL (bW aL aI hr (by decide) rfl (@aj _ _ _ _ _ (pv 0) (@aj _ _ _ _ _ aJ ax (by rfl)) (by rfl))) aJ) (fun _ _=>rfl)) ax (by rfl)) (by rfl))) (by rfl) (by w_up))
  (@a9 _ _ _ _ _ (@bX (i:=3) _ _ _ _ _ _ D5.nd rfl (by w_up) (bW gx eA hr (by decide) rfl (@aj _ _ _ _ _ (pv 2) (@aj _ _ _ _ _ (pv 1) ax (by rfl)) (by rfl))) (by rfl) (by w_up))
  (@a9 _ _ _ _ _ (xO PassesOwn.never (gk Uq (pv 3) LS (aO _)) (@a9 _ _ _ _ _ (@bX (i:=2) _ _ _ _ _ _ D5.nd rfl (by w_up) (bW cR cw hr (by decide) rfl (@aj _ _ _ _ _ (pv 0) (@aj _ _ _ _ _ (bz lO aJ (bW aL aI hr (by decide) rfl (@aj _ _ _ _ _ (pv 0) (@aj _ _ _ _ _ aJ ax (by rfl)) (by rfl)))) ax (by rfl)) (by rfl))) (by rfl) (by w_up))
  (@bh _ _ _ (@bX (i:=3) _ _ _ _ _ _ D5.nd rfl (by w_up) (bW gx eA hr (by decide) rfl (@aj _ _ _ _ _ (pv 2) (@aj _ _ _ _ _ (pv 1) ax (by rfl)) (by rfl))) (by rfl) (by w_up)))))
  (@bh _ _ _ (@c9 _ _ _ _ (@eJ _ _ _ _ _ (@aj _ _ _ _ _ (pv 2) (@aj _ _ _ _ _ (pv 3) ax (by rfl)) (by rfl)))))))),?_⟩
 exact eE (b:=G1) (bg (bJ (bU (F:=uy) (ao (ai 0) (ao (aA kg (kQ (ao (aA lP (aK _) (bU (F:=ki) (ao (ai 0) (ao (aK _) ay)) dE)) (ao (aK _) ay))) (aA Gq (bU (F:=ki) (ao (ai 0) (ao (aK _) ay)) dE) (aK _))) ay)) dE) (aS 2))
  (bg (bJ (bU (F:=zW) (ao (ai 2) (ao (ai 1) ay)) dE) (aS 3))
  (bg (yH (gj (aA (zA false) (ai 3) NV)) (bg (bJ (bU (F:=uy) (ao (ai 0) (ao (aA lP (aK _) (bU (F:=ki) (ao (ai 0) (ao (aK _) ay)) dE)) ay)) dE) (aS 2))
  (bJ (bU (F:=zW) (ao (ai 2) (ao (ai 1) ay)) dE) (aS 3))))
  (dc (eM (ao (ai 2) (ao (ai 3) ay))))))) rfl h
def G2:aq->Dm Fl :=
 (aW (aP bG (ae (cO (cN (ag 0)) 1 [1] (hName 0) di (aP bG (ae (cO (bY (ae (aP dg (ae (ag 1) ah)) ah)) 1 [0,1] (hName 0) di (av aM (ag 2) (av aM (ag 1) (kR "tuple" iB (ag 2) (ae (ag 0) ah))))) ah))) ah)))
def D6:List D->Dm D:=dG 2 G2
def D7:Stmt:=top 56
theorem Vc:aB ["_law_floor_here","_law_p"] ["_law_floor_here","_law_p"] (au D7):=⟨rfl,rfl,rfl,by w_fin,rfl,by w_fin,by w_fin⟩
theorem Vd {f:Addr} {fd:FuncData} (D:Def K mg "_law_anew" D7 ["_law_floor_here","_law_p"] f fd) (T:Txt mg)  :aC P w K mg base aX 1 f fd ["_law_floor_here","_law_p"] (a8 K 2 D6):=by
 refine D.F.ok Vc (fun _ _ _ _ h=>h.1) (fun c A o s H v Q E hr h=>?_)
 refine ⟨_,(@bh _ _ _ (@c9 _ _ _ _ (fG oB (by rfl) T.bw oj (@aj _ _ _ _ _ (qG (own:=["_law_turning_here"]) (fr:=["_law_p"]) (js:=[1]) rfl ⟨⟨rfl,by w_fin,by w_fin,by dsimp only [gi,aT,Cx.oI,Cx.wish,PyProof.Rows.envOfC,compEnvC,relabel,Env.kindOf];decide +kernel,by w_fin⟩,rfl⟩ (oX (pv 0)) (fun _ _ _ _ _=>(c4 (i:=0) (show ((["_law_turning_here"]:List Str) ++ (["_law_p"]:List Str)).Nodup by w_fin) rfl (by w_up))) (fun _ _ _ _ _=>rC) (fun _ _ _ _ _=>(fG (MV (K:=K) rfl) (by rfl) T.bw oj (@aj _ _ _ _ _ (qG (own:=["_law_s"]) (fr:=["_law_turning_here","_law_p"]) (js:=[0,1]) rfl ⟨N9 ⟨rfl,by w_fin,by w_fin,by dsimp only [gi,Cx.oI,Cx.wish,PyProof.Rows.envOfC];decide +kernel,by w_fin⟩,rfl⟩ (pR rfl T.aU (@aj _ _ _ _ _ (ke (Q8 (K:=K) rfl) (by rfl) T.cq mF (@aj _ _ _ _ _ (pv 1) ax (by rfl))) ax (by rfl))) (fun _ _ _ _ _=>(c4 (i:=0) (show ((["_law_s"]:List Str) ++ (["_law_turning_here","_law_p"]:List Str)).Nodup by w_fin) rfl (by w_up))) (fun _ _ _ _ _=>rC) (fun _ _ _ _ _=>(@a7 _ _ _ _ _ _ _ (wj (K:=K) rfl) (pv 2) (@a7 _ _ _ _ _ _ _ (wj (K:=K) rfl) (pv 1) (FZ (K:=K) rfl PySem.F.plainAttrs_tuple PySem.F.slot_tuple_index PySem.F.type_tuple_index (JF (K:=K) rfl) (pv 2) (@aj _ _ _ _ _ (pv 0) ax (by rfl))) (fun _ _=>rfl)) (fun _ _=>rfl)))) ax (by rfl))))) ax (by rfl))))),?_⟩
 exact eE (b:=G2) (dc (cu oz (ao (p7 (pe (ai 0)) (aS 0) rP (cu oz (ao (p7 (pV (ao (cu mL (ao (ai 1) ay)) ay)) (aS 0) rP (aA bQ (ai 2) (aA bQ (ai 1) (oE Kr (ai 2) (ao (ai 0) ay))))) ay))) ay))) rfl h
def G3:aq->Dm Fl :=
 (aE (aH (cL ah) (hName 3))
 (aE (cM (bY (ae (aP ki (ae (ag 0) (ae (av cZ (ag 1) (fC (.int 1))) ah))) ah)) (hName 4) (h8 (aN (av (jx false) (aP ki (ae (ag 0) (ae (fC (.int 2)) ah))) (fC (.int 0)))) (cG (kR "list" bj (ag 3) (ae (bq (ae (fC (.str "t")) (ae (av cZ (fC (.int 1)) (aP ki (ae (ag 0) (ae (fC (.int 3)) ah)))) ah))) ah))) (aE (aH (av cZ (fC (.int 1)) (aP ki (ae (ag 0) (ae (ag 2) ah)))) (hName 4))
 (cG (kR "list" bj (ag 3) (ae (bq (ae (fC (.str "s")) (ae (av cm (cL (ae (ag 4) (ae (av lS (fC (.int 0)) (ag 4)) ah))) (aP ki (ae (ag 0) (ae (fC (.int 2)) ah)))) ah))) ah))))))
 (aW (aP bG (ae (ag 3) ah)))))
def D8:List D->Dm D:=dG 5 G3
def D9:Stmt:=top 50
theorem G4:aB ["_law_feed_here","_law_most","_law_great","_law_found","_law_k"] ["_law_feed_here","_law_most","_law_great"] (au D9):=⟨rfl,rfl,rfl,by w_fin,rfl,by w_fin,by w_fin⟩
theorem Ve {f:Addr} {fd:FuncData} (D:Def K mg "_law_word" D9 ["_law_feed_here","_law_most","_law_great"] f fd) (T:Txt mg)  {aQ:Addr} {aR:FuncData} (aI:Def K mg "_law_take" uw ["_law_feed_here","_law_many"] aQ aR) (aL:aC P w K mg base aX 1 aQ aR ["_law_feed_here","_law_many"] (a8 K 2 ki)):aC P w K mg base aX 2 f fd ["_law_feed_here","_law_most","_law_great"] (a8 K 3 D8):=by
 refine D.F.ok G4 (fun _ _ _ _ h=>h.1) (fun c A o s H v Q E hr h=>?_)
 refine ⟨_,(@a9 _ _ _ _ _ (@bX (i:=3) _ _ _ _ _ _ G4.nd rfl (by w_up) (@kO _ _ _ _ ax) (by rfl) (by w_up))
  (@a9 _ _ _ _ _ (@lU _ _ _ _ _ _ _ _ PassesOwn.never rfl (pR rfl T.aU (@aj _ _ _ _ _ (bW aL aI hr (by decide) rfl (@aj _ _ _ _ _ (pv 0) (@aj _ _ _ _ _ (bz lO (pv 1) aJ) ax (by rfl)) (by rfl))) ax (by rfl))) (c4 (i:=4) G4.nd rfl (by w_up)) (@bh _ _ _ (@kG _ _ _ _ _ _ _ _ (gk oi (bW aL aI hr (by decide) rfl (@aj _ _ _ _ _ (pv 0) (@aj _ _ _ _ _ aJ ax (by rfl)) (by rfl))) aJ (aO _)) (@bh _ _ _ (p9 (pI PySem.F.plainAttrs_list PySem.F.slot_list_append PySem.F.type_list_append qc (pv 3) (@aj _ _ _ _ _ (@eJ _ _ _ _ _ (@aj _ _ _ _ _ oV (@aj _ _ _ _ _ (bz lO aJ (bW aL aI hr (by decide) rfl (@aj _ _ _ _ _ (pv 0) (@aj _ _ _ _ _ aJ ax (by rfl)) (by rfl)))) ax (by rfl)) (by rfl))) ax (by rfl))))) (@a9 _ _ _ _ _ (@bX (i:=4) _ _ _ _ _ _ G4.nd rfl (by w_up) (bz lO aJ (bW aL aI hr (by decide) rfl (@aj _ _ _ _ _ (pv 0) (@aj _ _ _ _ _ (pv 2) ax (by rfl)) (by rfl)))) (by rfl) (by w_up))
  (@bh _ _ _ (p9 (pI PySem.F.plainAttrs_list PySem.F.slot_list_append PySem.F.type_list_append qc (pv 3) (@aj _ _ _ _ _ (@eJ _ _ _ _ _ (@aj _ _ _ _ _ oV (@aj _ _ _ _ _ (@a7 _ _ _ _ _ _ _ lV (@kO _ _ _ _ (@aj _ _ _ _ _ (pv 4) (@aj _ _ _ _ _ (bz uI aJ (pv 4)) ax (by rfl)) (by rfl))) (bW aL aI hr (by decide) rfl (@aj _ _ _ _ _ (pv 0) (@aj _ _ _ _ _ aJ ax (by rfl)) (by rfl))) (fun _ _=>rfl)) ax (by rfl)) (by rfl))) ax (by rfl)))))))) (by intro _;rfl))
  (@bh _ _ _ (@c9 _ _ _ _ (fG oB (by rfl) T.bw oj (@aj _ _ _ _ _ (pv 3) ax (by rfl))))))),?_⟩
 exact eE (b:=G3) (bg (bJ (kQ ay) (aS 3))
  (bg (l8 (pV (ao (bU (F:=ki) (ao (ai 0) (ao (aA lP (ai 1) (aK _)) ay)) dE) ay)) (aS 4) (kK (gj (aA oy (bU (F:=ki) (ao (ai 0) (ao (aK _) ay)) dE) (aK _))) (ql (oE qk (ai 3) (ao (eM (ao (o8 _) (ao (aA lP (aK _) (bU (F:=ki) (ao (ai 0) (ao (aK _) ay)) dE)) ay))) ay))) (bg (bJ (aA lP (aK _) (bU (F:=ki) (ao (ai 0) (ao (ai 2) ay)) dE)) (aS 4))
  (ql (oE qk (ai 3) (ao (eM (ao (o8 _) (ao (aA kg (kQ (ao (ai 4) (ao (aA u6 (aK _) (ai 4)) ay))) (bU (F:=ki) (ao (ai 0) (ao (aK _) ay)) dE)) ay))) ay))))))
  (dc (cu oz (ao (ai 3) ay))))) rfl h
def G5:aq->Dm Fl :=
 (aE (aH (ag 0) (l6 4 (cg (hName 2) (cg (hName 3) (cg (hName 4) (cg (hName 5) mN))))))
 (aE (aH (ag 1) (l6 4 (cg (hName 6) (cg (hName 7) (cg (hName 8) (cg (hName 9) mN))))))
 (aW (bq (ae (av cZ (av cz (ag 2) (ag 6)) (av cz (ag 3) (ag 8))) (ae (av cZ (av cz (ag 2) (ag 7)) (av cz (ag 3) (ag 9))) (ae (av cZ (av cz (ag 4) (ag 6)) (av cz (ag 5) (ag 8))) (ae (av cZ (av cz (ag 4) (ag 7)) (av cz (ag 5) (ag 9))) ah))))))))
def Ea:List D->Dm D:=dG 10 G5
def Eb:Stmt:=top 57
theorem vz:aB ["_law_one","_law_other","_law_a","_law_b","_law_c","_law_d","_law_e","_law_f","_law_g","_law_h"] ["_law_one","_law_other"] (au Eb):=⟨rfl,rfl,rfl,by w_fin,rfl,by w_fin,by w_fin⟩
theorem Vg {f:Addr} {fd:FuncData} (D:Def K mg "_law_times" Eb ["_law_one","_law_other"] f fd) (T:Txt mg)  :aC P w K mg base aX 1 f fd ["_law_one","_law_other"] (a8 K 2 Ea):=by
 refine D.F.ok vz (fun _ _ _ _ h=>h.1) (fun c A o s H v Q E hr h=>?_)
 refine ⟨_,(@a9 _ _ _ _ _ (uc (pv 0) (sr (n:=4) rfl (mZ (c4 (i:=2) vz.nd rfl (by w_up)) (mZ (c4 (i:=3) vz.nd rfl (by w_up)) (mZ (c4 (i:=4) vz.nd rfl (by w_up)) (mZ (c4 (i:=5) vz.nd rfl (by w_up)) sj))))))
  (@a9 _ _ _ _ _ (uc (pv 1) (sr (n:=4) rfl (mZ (c4 (i:=6) vz.nd rfl (by w_up)) (mZ (c4 (i:=7) vz.nd rfl (by w_up)) (mZ (c4 (i:=8) vz.nd rfl (by w_up)) (mZ (c4 (i:=9) vz.nd rfl (by w_up)) sj))))))
  (@bh _ _ _ (@c9 _ _ _ _ (@eJ _ _ _ _ _ (@aj _ _ _ _ _ (bz lO (bz oo (pv 2) (pv 6)) (bz oo (pv 3) (pv 8))) (@aj _ _ _ _ _ (bz lO (bz oo (pv 2) (pv 7)) (bz oo (pv 3) (pv 9))) (@aj _ _ _ _ _ (bz lO (bz oo (pv 4) (pv 6)) (bz oo (pv 5) (pv 8))) (@aj _ _ _ _ _ (bz lO (bz oo (pv 4) (pv 7)) (bz oo (pv 5) (pv 9))) ax (by rfl)) (by rfl)) (by rfl)) (by rfl))))))),?_⟩
 exact eE (b:=G5) (bg (bJ (ai 0) (tG (m9 (aS 2) (m9 (aS 3) (m9 (aS 4) (m9 (aS 5) tD))))))
  (bg (bJ (ai 1) (tG (m9 (aS 6) (m9 (aS 7) (m9 (aS 8) (m9 (aS 9) tD))))))
  (dc (eM (ao (aA lP (aA oA (ai 2) (ai 6)) (aA oA (ai 3) (ai 8))) (ao (aA lP (aA oA (ai 2) (ai 7)) (aA oA (ai 3) (ai 9))) (ao (aA lP (aA oA (ai 4) (ai 6)) (aA oA (ai 5) (ai 8))) (ao (aA lP (aA oA (ai 4) (ai 7)) (aA oA (ai 5) (ai 9))) ay)))))))) rfl h
def G6:aq->Dm Fl :=
 (aE (aH (bq (ae (fC (.int 1)) (ae (fC (.int 0)) (ae (fC (.int 0)) (ae (fC (.int 1)) ah))))) (hName 1))
 (aE (cM (cN (ag 0)) (l6 2 (cg (hName 2) (cg (hName 3) mN))) (cM (bY (ae (av cm (cL (ae (fC (.int 1)) (ae (ag 3) ah))) (aP nW (ae (av (jx false) (ag 2) (fC (.str "t"))) ah))) ah)) (hName 4) (aH (aP Ea (ae (av cm (cL (ae (bq (ae (fC (.int 1)) (ae (ag 3) (ae (fC (.int 0)) (ae (fC (.int 1)) ah))))) (ae (bq (ae (fC (.int 0)) (ae (rJ lZ (fC (.int 1))) (ae (fC (.int 1)) (ae (fC (.int 0)) ah))))) ah))) (aP nW (ae (av (jx false) (ag 2) (fC (.str "t"))) ah))) (ae (ag 1) ah))) (hName 1))))
 (aW (ag 1))))
def Ec:List D->Dm D:=dG 5 G6
def Ed:Stmt:=top 58
theorem Bc:aB ["_law_word_here","_law_found","_law_letter","_law_k","_law_turn"] ["_law_word_here"] (au Ed):=⟨rfl,rfl,rfl,by w_fin,rfl,by w_fin,by w_fin⟩
theorem Vh {f:Addr} {fd:FuncData} (D:Def K mg "_law_table" Ed ["_law_word_here"] f fd) (T:Txt mg)  {gy:Addr} {gA:FuncData} (gB:Def K mg "_law_times" Eb ["_law_one","_law_other"] gy gA) (jR:aC P w K mg base aX 1 gy gA ["_law_one","_law_other"] (a8 K 2 Ea)):aC P w K mg base aX 2 f fd ["_law_word_here"] (a8 K 1 Ec):=by
 refine D.F.ok Bc (fun _ _ _ _ h=>h.1) (fun c A o s H v Q E hr h=>?_)
 refine ⟨_,(@a9 _ _ _ _ _ (@bX (i:=1) _ _ _ _ _ _ Bc.nd rfl (by w_up) (@eJ _ _ _ _ _ (@aj _ _ _ _ _ aJ (@aj _ _ _ _ _ aJ (@aj _ _ _ _ _ aJ (@aj _ _ _ _ _ aJ ax (by rfl)) (by rfl)) (by rfl)) (by rfl))) (by rfl) (by w_up))
  (@a9 _ _ _ _ _ (@lU _ _ _ _ _ _ _ _ PassesOwn.never rfl (oX (pv 0)) (sr (n:=2) rfl (mZ (c4 (i:=2) Bc.nd rfl (by w_up)) (mZ (c4 (i:=3) Bc.nd rfl (by w_up)) sj))) (@bh _ _ _ (@lU _ _ _ _ _ _ _ _ PassesOwn.never rfl (pR rfl T.aU (@aj _ _ _ _ _ (@a7 _ _ _ _ _ _ _ lV (@kO _ _ _ _ (@aj _ _ _ _ _ aJ (@aj _ _ _ _ _ (pv 3) ax (by rfl)) (by rfl))) (fG IJ (by rfl) T.tP Jk (@aj _ _ _ _ _ (vO oi (pv 2) oV (aO _)) ax (by rfl))) (fun _ _=>rfl)) ax (by rfl))) (c4 (i:=4) Bc.nd rfl (by w_up)) (@bh _ _ _ (@bX (i:=1) _ _ _ _ _ _ Bc.nd rfl (by w_up) (bW jR gB hr (by decide) rfl (@aj _ _ _ _ _ (@a7 _ _ _ _ _ _ _ lV (@kO _ _ _ _ (@aj _ _ _ _ _ (@eJ _ _ _ _ _ (@aj _ _ _ _ _ aJ (@aj _ _ _ _ _ (pv 3) (@aj _ _ _ _ _ aJ (@aj _ _ _ _ _ aJ ax (by rfl)) (by rfl)) (by rfl)) (by rfl))) (@aj _ _ _ _ _ (@eJ _ _ _ _ _ (@aj _ _ _ _ _ aJ (@aj _ _ _ _ _ (sx sA aJ) (@aj _ _ _ _ _ aJ (@aj _ _ _ _ _ aJ ax (by rfl)) (by rfl)) (by rfl)) (by rfl))) ax (by rfl)) (by rfl))) (fG IJ (by rfl) T.tP Jk (@aj _ _ _ _ _ (vO oi (pv 2) oV (aO _)) ax (by rfl))) (fun _ _=>rfl)) (@aj _ _ _ _ _ (pv 1) ax (by rfl)) (by rfl))) (by rfl) (by w_up))) (by intro _;rfl))) (by intro _;rfl))
  (@bh _ _ _ (@c9 _ _ _ _ (pv 1))))),?_⟩
 exact eE (b:=G6) (bg (bJ (eM (ao (aK _) (ao (aK _) (ao (aK _) (ao (aK _) ay))))) (aS 1))
  (bg (l8 (pe (ai 0)) (tG (m9 (aS 2) (m9 (aS 3) tD))) (l8 (pV (ao (aA kg (kQ (ao (aK _) (ao (ai 3) ay))) (cu Kq (ao (aA oy (ai 2) (o8 _)) ay))) ay)) (aS 4) (bJ (bU (F:=Ea) (ao (aA kg (kQ (ao (eM (ao (aK _) (ao (ai 3) (ao (aK _) (ao (aK _) ay))))) (ao (eM (ao (aK _) (ao (sZ tj (aK _)) (ao (aK _) (ao (aK _) ay))))) ay))) (cu Kq (ao (aA oy (ai 2) (o8 _)) ay))) (ao (ai 1) ay)) dE) (aS 1))))
  (dc (ai 1)))) rfl h
def G7:aq->Dm Fl :=
 (aE (aH (av tu (cL (ae (fC (.int 0)) ah)) (aP dg (ae (ag 0) ah))) (hName 1))
 (aE (cM (nX (ae (ag 0) ah)) (l6 2 (cg (hName 2) (cg (hName 3) mN))) (aH (ag 2) (hSub (ag 1) (ag 3))))
 (aW (aP bG (ae (ag 1) ah)))))
def tT:List D->Dm D:=dG 4 G7
def zY:Stmt:=top 5
theorem G8:aB ["turning","back","number","led"] ["turning"] (au zY):=⟨rfl,rfl,rfl,by w_fin,rfl,by w_fin,by w_fin⟩
theorem Vi {f:Addr} {fd:FuncData} (D:Def K mg "turned_back" zY ["turning"] f fd) (T:Txt mg)  :aC P w K mg base aX 1 f fd ["turning"] (a8 K 1 tT):=by
 refine D.F.ok G8 (fun _ _ _ _ h=>h.1) (fun c A o s H v Q E hr h=>?_)
 refine ⟨_,(@a9 _ _ _ _ _ (@bX (i:=1) _ _ _ _ _ _ G8.nd rfl (by w_up) (bz MA (@kO _ _ _ _ (@aj _ _ _ _ _ aJ ax (by rfl))) (ke mD (by rfl) T.cq mF (@aj _ _ _ _ _ (pv 0) ax (by rfl)))) (by rfl) (by w_up))
  (@a9 _ _ _ _ _ (@lU _ _ _ _ _ _ _ _ PassesOwn.never rfl (MX rfl T.nh (@aj _ _ _ _ _ (pv 0) ax (by rfl))) (sr (n:=2) rfl (mZ (c4 (i:=2) G8.nd rfl (by w_up)) (mZ (c4 (i:=3) G8.nd rfl (by w_up)) sj))) (@bh _ _ _ (uc (pv 2) (As (pv 1) (pv 3) Aw))) (by intro _;rfl))
  (@bh _ _ _ (@c9 _ _ _ _ (fG oB (by rfl) T.bw oj (@aj _ _ _ _ _ (pv 1) ax (by rfl))))))),?_⟩
 exact eE (b:=G7) (bg (bJ (aA N4 (kQ (ao (aK _) ay)) (cu mL (ao (ai 0) ay))) (aS 1))
  (bg (l8 (N8 (ao (ai 0) ay)) (tG (m9 (aS 2) (m9 (aS 3) tD))) (bJ (ai 2) (AZ (ai 1) (ai 3))))
  (dc (cu oz (ao (ai 1) ay))))) rfl h
def G9:aq->Dm Fl :=
 (aW (aP bG (ae (cO (cN (ag 0)) 1 [1] (hName 0) di (av aM (ag 1) (ag 0))) ah)))
def qY:List D->Dm D:=dG 2 G9
def Bd:Stmt:=top 4
theorem Vj:aB ["one","other"] ["one","other"] (au Bd):=⟨rfl,rfl,rfl,by w_fin,rfl,by w_fin,by w_fin⟩
theorem Vk {f:Addr} {fd:FuncData} (D:Def K mg "followed" Bd ["one","other"] f fd) (T:Txt mg)  :aC P w K mg base aX 1 f fd ["one","other"] (a8 K 2 qY):=by
 refine D.F.ok Vj (fun _ _ _ _ h=>h.1) (fun c A o s H v Q E hr h=>?_)
 refine ⟨_,(@bh _ _ _ (@c9 _ _ _ _ (fG oB (by rfl) T.bw oj (@aj _ _ _ _ _ (qG (own:=["number"]) (fr:=["other"]) (js:=[1]) rfl ⟨⟨rfl,by w_fin,by w_fin,by dsimp only [gi,aT,Cx.oI,Cx.wish,PyProof.Rows.envOfC,compEnvC,relabel,Env.kindOf];decide +kernel,by w_fin⟩,rfl⟩ (oX (pv 0)) (fun _ _ _ _ _=>(c4 (i:=0) (show ((["number"]:List Str) ++ (["other"]:List Str)).Nodup by w_fin) rfl (by w_up))) (fun _ _ _ _ _=>rC) (fun _ _ _ _ _=>(@a7 _ _ _ _ _ _ _ (wj (K:=K) rfl) (pv 1) (pv 0) (fun _ _=>rfl)))) ax (by rfl))))),?_⟩
 exact eE (b:=G9) (dc (cu oz (ao (p7 (pe (ai 0)) (aS 0) rP (aA bQ (ai 1) (ai 0))) ay))) rfl h
def Ha:aq->Dm Fl :=
 (aE (aH (aP tT (ae (ag 1) ah)) (hName 2))
 (aE (aH (aP qY (ae (aP qY (ae (ag 2) (ae (av aM (ag 0) (fC (.int 0))) ah))) (ae (ag 1) ah))) (hName 3))
 (aE (aH (aP qY (ae (aP qY (ae (ag 2) (ae (av aM (ag 0) (fC (.int 1))) ah))) (ae (ag 1) ah))) (hName 4))
 (aW (bq (ae (ag 3) (ae (ag 4) ah)))))))
def Ee:List D->Dm D:=dG 5 Ha
def Ef:Stmt:=top 12
theorem Hb:aB ["floor","p","back","right","up"] ["floor","p"] (au Ef):=⟨rfl,rfl,rfl,by w_fin,rfl,by w_fin,by w_fin⟩
theorem Vl {f:Addr} {fd:FuncData} (D:Def K mg "called_anew" Ef ["floor","p"] f fd) (T:Txt mg)  {bB:Addr} {bC:FuncData} (bD:Def K mg "turned_back" zY ["turning"] bB bC) (bK:aC P w K mg base aX 1 bB bC ["turning"] (a8 K 1 tT)) {dI:Addr} {dJ:FuncData} (cD:Def K mg "followed" Bd ["one","other"] dI dJ) (cV:aC P w K mg base aX 1 dI dJ ["one","other"] (a8 K 2 qY)):aC P w K mg base aX 2 f fd ["floor","p"] (a8 K 2 Ee):=by
 refine D.F.ok Hb (fun _ _ _ _ h=>h.1) (fun c A o s H v Q E hr h=>?_)
 refine ⟨_,(@a9 _ _ _ _ _ (@bX (i:=2) _ _ _ _ _ _ Hb.nd rfl (by w_up) (bW bK bD hr (by decide) rfl (@aj _ _ _ _ _ (pv 1) ax (by rfl))) (by rfl) (by w_up))
  (@a9 _ _ _ _ _ (@bX (i:=3) _ _ _ _ _ _ Hb.nd rfl (by w_up) (bW cV cD hr (by decide) rfl (@aj _ _ _ _ _ (bW cV cD hr (by decide) rfl (@aj _ _ _ _ _ (pv 2) (@aj _ _ _ _ _ (@a7 _ _ _ _ _ _ _ cj (pv 0) aJ (fun _ _=>rfl)) ax (by rfl)) (by rfl))) (@aj _ _ _ _ _ (pv 1) ax (by rfl)) (by rfl))) (by rfl) (by w_up))
  (@a9 _ _ _ _ _ (@bX (i:=4) _ _ _ _ _ _ Hb.nd rfl (by w_up) (bW cV cD hr (by decide) rfl (@aj _ _ _ _ _ (bW cV cD hr (by decide) rfl (@aj _ _ _ _ _ (pv 2) (@aj _ _ _ _ _ (@a7 _ _ _ _ _ _ _ cj (pv 0) aJ (fun _ _=>rfl)) ax (by rfl)) (by rfl))) (@aj _ _ _ _ _ (pv 1) ax (by rfl)) (by rfl))) (by rfl) (by w_up))
  (@bh _ _ _ (@c9 _ _ _ _ (@eJ _ _ _ _ _ (@aj _ _ _ _ _ (pv 3) (@aj _ _ _ _ _ (pv 4) ax (by rfl)) (by rfl)))))))),?_⟩
 exact eE (b:=Ha) (bg (bJ (bU (F:=tT) (ao (ai 1) ay) kT) (aS 2))
  (bg (bJ (bU (F:=qY) (ao (bU (F:=qY) (ao (ai 2) (ao (aA bQ (ai 0) (aK _)) ay)) dE) (ao (ai 1) ay)) dE) (aS 3))
  (bg (bJ (bU (F:=qY) (ao (bU (F:=qY) (ao (ai 2) (ao (aA bQ (ai 0) (aK _)) ay)) dE) (ao (ai 1) ay)) dE) (aS 4))
  (dc (eM (ao (ai 3) (ao (ai 4) ay))))))) rfl h
def Hc:aq->Dm Fl :=
 (aE (aH (cL (ae (ag 1) ah)) (hName 2))
 (aE (aH (fC (.int 0)) (hName 3))
 (aE (iC (aN (av yA (ag 3) (aP dg (ae (ag 2) ah)))) (aE (cM (cN (ag 0)) (hName 4) (aE (aH (av aM (ag 4) (av cm (ag 2) (ag 3))) (hName 5))
 (h8 (aN (av (rX true) (ag 5) (ag 2))) (cG (kR "list" bj (ag 2) (ae (ag 5) ah))) bx)))
 (aH (av cZ (ag 3) (fC (.int 1))) (hName 3))))
 (aW (aP bG (ae (ag 2) ah))))))
def Eg:List D->Dm D:=dG 6 Hc
def Eh:Stmt:=top 10
theorem Be:aB ["floor","s","squares","place","turning","reached"] ["floor","s"] (au Eh):=⟨rfl,rfl,rfl,by w_fin,rfl,by w_fin,by w_fin⟩
theorem Vm {f:Addr} {fd:FuncData} (D:Def K mg "squares_from" Eh ["floor","s"] f fd) (T:Txt mg)  :aC P w K mg base aX 1 f fd ["floor","s"] (a8 K 2 Eg):=by
 refine D.F.ok Be (fun _ _ _ _ h=>h.1) (fun c A o s H v Q E hr h=>?_)
 refine ⟨_,(@a9 _ _ _ _ _ (@bX (i:=2) _ _ _ _ _ _ Be.nd rfl (by w_up) (@kO _ _ _ _ (@aj _ _ _ _ _ (pv 1) ax (by rfl))) (by rfl) (by w_up))
  (@a9 _ _ _ _ _ (@bX (i:=3) _ _ _ _ _ _ Be.nd rfl (by w_up) aJ (by rfl) (by w_up))
  (@a9 _ _ _ _ _ (xO PassesOwn.never (gk BR (pv 3) (ke mD (by rfl) T.cq mF (@aj _ _ _ _ _ (pv 2) ax (by rfl))) (aO _)) (@a9 _ _ _ _ _ (@lU _ _ _ _ _ _ _ _ PassesOwn.never rfl (oX (pv 0)) (c4 (i:=4) Be.nd rfl (by w_up)) (@a9 _ _ _ _ _ (@bX (i:=5) _ _ _ _ _ _ Be.nd rfl (by w_up) (@a7 _ _ _ _ _ _ _ cj (pv 4) (@a7 _ _ _ _ _ _ _ lV (pv 2) (pv 3) (fun _ _=>rfl)) (fun _ _=>rfl)) (by rfl) (by w_up))
  (@bh _ _ _ (@kG _ _ _ _ _ _ _ _ (gk FP (pv 5) (pv 2) (by with_unfolding_all rfl)) (@bh _ _ _ (p9 (pI PySem.F.plainAttrs_list PySem.F.slot_list_append PySem.F.type_list_append qc (pv 2) (@aj _ _ _ _ _ (pv 5) ax (by rfl))))) lM))) (by intro _;rfl))
  (@bh _ _ _ (@bX (i:=3) _ _ _ _ _ _ Be.nd rfl (by w_up) (bz lO (pv 3) aJ) (by rfl) (by w_up)))))
  (@bh _ _ _ (@c9 _ _ _ _ (fG oB (by rfl) T.bw oj (@aj _ _ _ _ _ (pv 2) ax (by rfl)))))))),?_⟩
 exact eE (b:=Hc) (bg (bJ (kQ (ao (ai 1) ay)) (aS 2))
  (bg (bJ (aK _) (aS 3))
  (bg (yH (gj (aA C7 (ai 3) (cu mL (ao (ai 2) ay)))) (bg (l8 (pe (ai 0)) (aS 4) (bg (bJ (aA bQ (ai 4) (aA kg (ai 2) (ai 3))) (aS 5))
  (kK (gj (aA (Dd true) (ai 5) (ai 2))) (ql (oE qk (ai 2) (ao (ai 5) ay))) lQ)))
  (bJ (aA lP (ai 3) (aK _)) (aS 3))))
  (dc (cu oz (ao (ai 2) ay)))))) rfl h
def Hd:aq->Dm Fl :=
 (aW (aP tT (ae (aP Eg (ae (ag 0) (ae (ag 1) ah))) ah)))
def Ei:List D->Dm D:=dG 2 Hd
def Ej:Stmt:=top 13
theorem Vn:aB ["floor","s"] ["floor","s"] (au Ej):=⟨rfl,rfl,rfl,by w_fin,rfl,by w_fin,by w_fin⟩
theorem Vo {f:Addr} {fd:FuncData} (D:Def K mg "numbering_from" Ej ["floor","s"] f fd) (T:Txt mg)  {bB:Addr} {bC:FuncData} (bD:Def K mg "turned_back" zY ["turning"] bB bC) (bK:aC P w K mg base aX 1 bB bC ["turning"] (a8 K 1 tT)) {dW:Addr} {dX:FuncData} (dY:Def K mg "squares_from" Eh ["floor","s"] dW dX) (gT:aC P w K mg base aX 1 dW dX ["floor","s"] (a8 K 2 Eg)):aC P w K mg base aX 2 f fd ["floor","s"] (a8 K 2 Ei):=by
 refine D.F.ok Vn (fun _ _ _ _ h=>h.1) (fun c A o s H v Q E hr h=>?_)
 refine ⟨_,(@bh _ _ _ (@c9 _ _ _ _ (bW bK bD hr (by decide) rfl (@aj _ _ _ _ _ (bW gT dY hr (by decide) rfl (@aj _ _ _ _ _ (pv 0) (@aj _ _ _ _ _ (pv 1) ax (by rfl)) (by rfl))) ax (by rfl))))),?_⟩
 exact eE (b:=Hd) (dc (bU (F:=tT) (ao (bU (F:=Eg) (ao (ai 0) (ao (ai 1) ay)) dE) ay) kT)) rfl h
def He:aq->Dm Fl :=
 (aW (aP Ee (ae (ag 0) (ae (aP Ei (ae (ag 0) (ae (ag 1) ah))) ah))))
def Ek:List D->Dm D:=dG 2 He
def El:Stmt:=top 14
theorem Vp:aB ["floor","s"] ["floor","s"] (au El):=⟨rfl,rfl,rfl,by w_fin,rfl,by w_fin,by w_fin⟩
theorem Vq {f:Addr} {fd:FuncData} (D:Def K mg "numbered_from" El ["floor","s"] f fd) (T:Txt mg)  {fe:Addr} {ff:FuncData} (fg:Def K mg "called_anew" Ef ["floor","p"] fe ff) (iF:aC P w K mg base aX 2 fe ff ["floor","p"] (a8 K 2 Ee)) {c5:Addr} {c6:FuncData} (c7:Def K mg "numbering_from" Ej ["floor","s"] c5 c6) (eP:aC P w K mg base aX 2 c5 c6 ["floor","s"] (a8 K 2 Ei)):aC P w K mg base aX 3 f fd ["floor","s"] (a8 K 2 Ek):=by
 refine D.F.ok Vp (fun _ _ _ _ h=>h.1) (fun c A o s H v Q E hr h=>?_)
 refine ⟨_,(@bh _ _ _ (@c9 _ _ _ _ (bW iF fg hr (by decide) rfl (@aj _ _ _ _ _ (pv 0) (@aj _ _ _ _ _ (bW eP c7 hr (by decide) rfl (@aj _ _ _ _ _ (pv 0) (@aj _ _ _ _ _ (pv 1) ax (by rfl)) (by rfl))) ax (by rfl)) (by rfl))))),?_⟩
 exact eE (b:=He) (dc (bU (F:=Ee) (ao (ai 0) (ao (bU (F:=Ei) (ao (ai 0) (ao (ai 1) ay)) dE) ay)) dE)) rfl h
def Hf:aq->Dm Fl :=
 (aW (aP ng (ae (cO (bY (ae (aP dg (ae (av aM (ag 0) (fC (.int 0))) ah)) ah)) 1 [0] (hName 0) di (aP Ek (ae (ag 1) (ae (ag 0) ah)))) ah)))
def xl:List D->Dm D:=dG 1 Hf
def Bf:Stmt:=top 15
theorem Vr:aB ["floor"] ["floor"] (au Bf):=⟨rfl,rfl,rfl,by w_fin,rfl,by w_fin,by w_fin⟩
theorem Vs {f:Addr} {fd:FuncData} (D:Def K mg "form_of" Bf ["floor"] f fd) (T:Txt mg)  {dw:Addr} {dz:FuncData} (dA:Def K mg "numbered_from" El ["floor","s"] dw dz) (fR:aC P w K mg base aX 3 dw dz ["floor","s"] (a8 K 2 Ek)):aC P w K mg base aX 4 f fd ["floor"] (a8 K 1 xl):=by
 refine D.F.ok Vr (fun _ _ _ _ h=>h.1) (fun c A o s H v Q E hr h=>?_)
 have hu:=hr.units
 refine ⟨_,(@bh _ _ _ (@c9 _ _ _ _ (ke (Nb rfl hu) (by rfl) T.tQ Jl (@aj _ _ _ _ _ (qG (own:=["s"]) (fr:=["floor"]) (js:=[0]) rfl ⟨⟨rfl,by w_fin,by w_fin,by dsimp only [gi,aT,Cx.oI,Cx.wish,PyProof.Rows.envOfC,compEnvC,relabel,Env.kindOf];decide +kernel,by w_fin⟩,rfl⟩ (pR rfl T.aU (@aj _ _ _ _ _ (ke mD (by rfl) T.cq mF (@aj _ _ _ _ _ (@a7 _ _ _ _ _ _ _ cj (pv 0) aJ (fun _ _=>rfl)) ax (by rfl))) ax (by rfl))) (fun _ _ _ _ _=>(c4 (i:=0) (show ((["s"]:List Str) ++ (["floor"]:List Str)).Nodup by w_fin) rfl (by w_up))) (fun _ _ _ _ _=>rC) (fun _ _ _ _ _=>(bW fR dA hr (by decide) rfl (@aj _ _ _ _ _ (pv 1) (@aj _ _ _ _ _ (pv 0) ax (by rfl)) (by rfl))))) ax (by rfl))))),?_⟩
 exact eE (b:=Hf) (dc (cu OH (ao (p7 (pV (ao (cu mL (ao (aA bQ (ai 0) (aK _)) ay)) ay)) (aS 0) rP (bU (F:=Ek) (ao (ai 1) (ao (ai 0) ay)) dE)) ay))) rfl h
def Hg:aq->Dm Fl :=
 (aE (aH (cL (ae (ag 1) ah)) (hName 2))
 (aE (aH (av aM (ag 0) (ag 1)) (hName 3))
 (aE (iC (aN (av (jx true) (ag 3) (ag 1))) (aE (cG (kR "list" bj (ag 2) (ae (ag 3) ah)))
 (aH (av aM (ag 0) (ag 3)) (hName 3))))
 (aW (aP bG (ae (ag 2) ah))))))
def Em:List D->Dm D:=dG 4 Hg
def En:Stmt:=top 7
theorem Hi:aB ["turning","first","ring","reached"] ["turning","first"] (au En):=⟨rfl,rfl,rfl,by w_fin,rfl,by w_fin,by w_fin⟩
theorem Vt {f:Addr} {fd:FuncData} (D:Def K mg "ring_from" En ["turning","first"] f fd) (T:Txt mg)  :aC P w K mg base aX 1 f fd ["turning","first"] (a8 K 2 Em):=by
 refine D.F.ok Hi (fun _ _ _ _ h=>h.1) (fun c A o s H v Q E hr h=>?_)
 refine ⟨_,(@a9 _ _ _ _ _ (@bX (i:=2) _ _ _ _ _ _ Hi.nd rfl (by w_up) (@kO _ _ _ _ (@aj _ _ _ _ _ (pv 1) ax (by rfl))) (by rfl) (by w_up))
  (@a9 _ _ _ _ _ (@bX (i:=3) _ _ _ _ _ _ Hi.nd rfl (by w_up) (@a7 _ _ _ _ _ _ _ cj (pv 0) (pv 1) (fun _ _=>rfl)) (by rfl) (by w_up))
  (@a9 _ _ _ _ _ (xO PassesOwn.never (gk BQ (pv 3) (pv 1) (aO _)) (@a9 _ _ _ _ _ (p9 (pI PySem.F.plainAttrs_list PySem.F.slot_list_append PySem.F.type_list_append qc (pv 2) (@aj _ _ _ _ _ (pv 3) ax (by rfl))))
  (@bh _ _ _ (@bX (i:=3) _ _ _ _ _ _ Hi.nd rfl (by w_up) (@a7 _ _ _ _ _ _ _ cj (pv 0) (pv 3) (fun _ _=>rfl)) (by rfl) (by w_up)))))
  (@bh _ _ _ (@c9 _ _ _ _ (fG oB (by rfl) T.bw oj (@aj _ _ _ _ _ (pv 2) ax (by rfl)))))))),?_⟩
 exact eE (b:=Hg) (bg (bJ (kQ (ao (ai 1) ay)) (aS 2))
  (bg (bJ (aA bQ (ai 0) (ai 1)) (aS 3))
  (bg (yH (gj (aA Dc (ai 3) (ai 1))) (bg (ql (oE qk (ai 2) (ao (ai 3) ay)))
  (bJ (aA bQ (ai 0) (ai 3)) (aS 3))))
  (dc (cu oz (ao (ai 2) ay)))))) rfl h
def Hj:aq->Dm Fl :=
 (aE (aH (cL ah) (hName 1))
 (aE (aH tK (hName 2))
 (aE (cM (bY (ae (aP dg (ae (ag 0) ah)) ah)) (hName 3) (h8 (aN (vd true (ag 3) (ag 2))) (aE (aH (aP Em (ae (ag 0) (ae (ag 3) ah))) (hName 4))
 (aE (cG (kR "list" bj (ag 1) (ae (ag 4) ah)))
 (cM (cN (ag 4)) (hName 5) (qT (ag 2) (ag 5) (fC (.bl true)))))) bx))
 (aW (aP bG (ae (ag 1) ah))))))
def Eo:List D->Dm D:=dG 6 Hj
def Ep:Stmt:=top 8
theorem Bg:aB ["turning","rings","seen","first","ring","number"] ["turning"] (au Ep):=⟨rfl,rfl,rfl,by w_fin,rfl,by w_fin,by w_fin⟩
theorem Vu {f:Addr} {fd:FuncData} (D:Def K mg "rings_of" Ep ["turning"] f fd) (T:Txt mg)  {iG:Addr} {iH:FuncData} (iI:Def K mg "ring_from" En ["turning","first"] iG iH) (lj:aC P w K mg base aX 1 iG iH ["turning","first"] (a8 K 2 Em)):aC P w K mg base aX 2 f fd ["turning"] (a8 K 1 Eo):=by
 refine D.F.ok Bg (fun _ _ _ _ h=>h.1) (fun c A o s H v Q E hr h=>?_)
 have hu1:=Ce hr
 refine ⟨_,(@a9 _ _ _ _ _ (@bX (i:=1) _ _ _ _ _ _ Bg.nd rfl (by w_up) (@kO _ _ _ _ ax) (by rfl) (by w_up))
  (@a9 _ _ _ _ _ (@bX (i:=2) _ _ _ _ _ _ Bg.nd rfl (by w_up) QD (by rfl) (by w_up))
  (@a9 _ _ _ _ _ (@lU _ _ _ _ _ _ _ _ PassesOwn.never rfl (pR rfl T.aU (@aj _ _ _ _ _ (ke mD (by rfl) T.cq mF (@aj _ _ _ _ _ (pv 0) ax (by rfl))) ax (by rfl))) (c4 (i:=3) Bg.nd rfl (by w_up)) (@bh _ _ _ (@kG _ _ _ _ _ _ _ _ (xJ (QA hu1 (pv 3) (pv 2))) (@a9 _ _ _ _ _ (@bX (i:=4) _ _ _ _ _ _ Bg.nd rfl (by w_up) (bW lj iI hr (by decide) rfl (@aj _ _ _ _ _ (pv 0) (@aj _ _ _ _ _ (pv 3) ax (by rfl)) (by rfl))) (by rfl) (by w_up))
  (@a9 _ _ _ _ _ (p9 (pI PySem.F.plainAttrs_list PySem.F.slot_list_append PySem.F.type_list_append qc (pv 1) (@aj _ _ _ _ _ (pv 4) ax (by rfl))))
  (@bh _ _ _ (@lU _ _ _ _ _ _ _ _ PassesOwn.never rfl (oX (pv 4)) (c4 (i:=5) Bg.nd rfl (by w_up)) (@bh _ _ _ (QB hu1 (pv 2) (pv 5) IB rfl)) (by intro _;rfl))))) lM)) (by intro _;rfl))
  (@bh _ _ _ (@c9 _ _ _ _ (fG oB (by rfl) T.bw oj (@aj _ _ _ _ _ (pv 1) ax (by rfl)))))))),?_⟩
 exact eE (b:=Hj) (bg (bJ (kQ ay) (aS 1))
  (bg (bJ Tj (aS 2))
  (bg (l8 (pV (ao (cu mL (ao (ai 0) ay)) ay)) (aS 3) (kK (Kh (To (ai 3) (ai 2))) (bg (bJ (bU (F:=Em) (ao (ai 0) (ao (ai 3) ay)) dE) (aS 4))
  (bg (ql (oE qk (ai 1) (ao (ai 4) ay)))
  (l8 (pe (ai 4)) (aS 5) (Tp (ai 2) (ai 5) (Kf _))))) lQ))
  (dc (cu oz (ao (ai 1) ay)))))) rfl h
def Hk:aq->Dm Fl :=
 (aE (aH (av tu (cL (ae (fC (.int 0)) ah)) (aP dg (ae (ag 0) ah))) (hName 2))
 (aE (cM (cN (aP Eo (ae (ag 0) ah))) (hName 3) (cM (nX (ae (ag 3) ah)) (l6 2 (cg (hName 4) (cg (hName 5) mN))) (aH (av aM (ag 3) (av jN (av cZ (ag 4) (ag 1)) (aP dg (ae (ag 3) ah)))) (hSub (ag 2) (ag 5)))))
 (aW (aP bG (ae (ag 2) ah)))))
def Er:List D->Dm D:=dG 6 Hk
def Es:Stmt:=top 6
theorem Et:aB ["turning","k","led","ring","place","number"] ["turning","k"] (au Es):=⟨rfl,rfl,rfl,by w_fin,rfl,by w_fin,by w_fin⟩
theorem Vv {f:Addr} {fd:FuncData} (D:Def K mg "often" Es ["turning","k"] f fd) (T:Txt mg)  {kn:Addr} {ko:FuncData} (kq:Def K mg "rings_of" Ep ["turning"] kn ko) (mO:aC P w K mg base aX 2 kn ko ["turning"] (a8 K 1 Eo)):aC P w K mg base aX 3 f fd ["turning","k"] (a8 K 2 Er):=by
 refine D.F.ok Et (fun _ _ _ _ h=>h.1) (fun c A o s H v Q E hr h=>?_)
 refine ⟨_,(@a9 _ _ _ _ _ (@bX (i:=2) _ _ _ _ _ _ Et.nd rfl (by w_up) (bz MA (@kO _ _ _ _ (@aj _ _ _ _ _ aJ ax (by rfl))) (ke mD (by rfl) T.cq mF (@aj _ _ _ _ _ (pv 0) ax (by rfl)))) (by rfl) (by w_up))
  (@a9 _ _ _ _ _ (@lU _ _ _ _ _ _ _ _ PassesOwn.never rfl (oX (bW mO kq hr (by decide) rfl (@aj _ _ _ _ _ (pv 0) ax (by rfl)))) (c4 (i:=3) Et.nd rfl (by w_up)) (@bh _ _ _ (@lU _ _ _ _ _ _ _ _ PassesOwn.never rfl (MX rfl T.nh (@aj _ _ _ _ _ (pv 3) ax (by rfl))) (sr (n:=2) rfl (mZ (c4 (i:=4) Et.nd rfl (by w_up)) (mZ (c4 (i:=5) Et.nd rfl (by w_up)) sj))) (@bh _ _ _ (uc (@a7 _ _ _ _ _ _ _ cj (pv 3) (bz rl (bz lO (pv 4) (pv 1)) (ke mD (by rfl) T.cq mF (@aj _ _ _ _ _ (pv 3) ax (by rfl)))) (fun _ _=>rfl)) (As (pv 2) (pv 5) Aw))) (by intro _;rfl))) (by intro _;rfl))
  (@bh _ _ _ (@c9 _ _ _ _ (fG oB (by rfl) T.bw oj (@aj _ _ _ _ _ (pv 2) ax (by rfl))))))),?_⟩
 exact eE (b:=Hk) (bg (bJ (aA N4 (kQ (ao (aK _) ay)) (cu mL (ao (ai 0) ay))) (aS 2))
  (bg (l8 (pe (bU (F:=Eo) (ao (ai 0) ay) kT)) (aS 3) (l8 (N8 (ao (ai 3) ay)) (tG (m9 (aS 4) (m9 (aS 5) tD))) (bJ (aA bQ (ai 3) (aA rM (aA lP (ai 4) (ai 1)) (cu mL (ao (ai 3) ay)))) (AZ (ai 2) (ai 5)))))
  (dc (cu oz (ao (ai 2) ay))))) rfl h
def Hl:aq->Dm Fl :=
 (aW (bq (ae (av aM (ag 0) (fC (.int 0))) (ae (aP qY (ae (aP Er (ae (av aM (ag 0) (fC (.int 0))) (ae (rJ lZ (ag 1)) ah))) (ae (av aM (ag 0) (fC (.int 1))) ah))) ah))))
def Eu:List D->Dm D:=dG 2 Hl
def Ew:Stmt:=top 37
theorem Vw:aB ["floor","k"] ["floor","k"] (au Ew):=⟨rfl,rfl,rfl,by w_fin,rfl,by w_fin,by w_fin⟩
theorem Vx {f:Addr} {fd:FuncData} (D:Def K mg "sheared" Ew ["floor","k"] f fd) (T:Txt mg)  {dI:Addr} {dJ:FuncData} (cD:Def K mg "followed" Bd ["one","other"] dI dJ) (cV:aC P w K mg base aX 1 dI dJ ["one","other"] (a8 K 2 qY)) {pA:Addr} {pB:FuncData} (pC:Def K mg "often" Es ["turning","k"] pA pB) (qw:aC P w K mg base aX 3 pA pB ["turning","k"] (a8 K 2 Er)):aC P w K mg base aX 4 f fd ["floor","k"] (a8 K 2 Eu):=by
 refine D.F.ok Vw (fun _ _ _ _ h=>h.1) (fun c A o s H v Q E hr h=>?_)
 refine ⟨_,(@bh _ _ _ (@c9 _ _ _ _ (@eJ _ _ _ _ _ (@aj _ _ _ _ _ (@a7 _ _ _ _ _ _ _ cj (pv 0) aJ (fun _ _=>rfl)) (@aj _ _ _ _ _ (bW cV cD hr (by decide) rfl (@aj _ _ _ _ _ (bW qw pC hr (by decide) rfl (@aj _ _ _ _ _ (@a7 _ _ _ _ _ _ _ cj (pv 0) aJ (fun _ _=>rfl)) (@aj _ _ _ _ _ (sx sA (pv 1)) ax (by rfl)) (by rfl))) (@aj _ _ _ _ _ (@a7 _ _ _ _ _ _ _ cj (pv 0) aJ (fun _ _=>rfl)) ax (by rfl)) (by rfl))) ax (by rfl)) (by rfl))))),?_⟩
 exact eE (b:=Hl) (dc (eM (ao (aA bQ (ai 0) (aK _)) (ao (bU (F:=qY) (ao (bU (F:=Er) (ao (aA bQ (ai 0) (aK _)) (ao (sZ tj (ai 1)) ay)) dE) (ao (aA bQ (ai 0) (aK _)) ay)) dE) ay)))) rfl h
def Hm:aq->Dm Fl :=
 (aW (bq (ae (aP tT (ae (av aM (ag 0) (fC (.int 1))) ah)) (ae (av aM (ag 0) (fC (.int 0))) ah))))
def Ey:List D->Dm D:=dG 1 Hm
def Ez:Stmt:=top 38
theorem Vy:aB ["floor"] ["floor"] (au Ez):=⟨rfl,rfl,rfl,by w_fin,rfl,by w_fin,by w_fin⟩
theorem Vz {f:Addr} {fd:FuncData} (D:Def K mg "quartered" Ez ["floor"] f fd) (T:Txt mg)  {bB:Addr} {bC:FuncData} (bD:Def K mg "turned_back" zY ["turning"] bB bC) (bK:aC P w K mg base aX 1 bB bC ["turning"] (a8 K 1 tT)):aC P w K mg base aX 2 f fd ["floor"] (a8 K 1 Ey):=by
 refine D.F.ok Vy (fun _ _ _ _ h=>h.1) (fun c A o s H v Q E hr h=>?_)
 refine ⟨_,(@bh _ _ _ (@c9 _ _ _ _ (@eJ _ _ _ _ _ (@aj _ _ _ _ _ (bW bK bD hr (by decide) rfl (@aj _ _ _ _ _ (@a7 _ _ _ _ _ _ _ cj (pv 0) aJ (fun _ _=>rfl)) ax (by rfl))) (@aj _ _ _ _ _ (@a7 _ _ _ _ _ _ _ cj (pv 0) aJ (fun _ _=>rfl)) ax (by rfl)) (by rfl))))),?_⟩
 exact eE (b:=Hm) (dc (eM (ao (bU (F:=tT) (ao (aA bQ (ai 0) (aK _)) ay) kT) (ao (aA bQ (ai 0) (aK _)) ay)))) rfl h
def Hn:aq->Dm Fl :=
 (aE (h8 (aN (av (jx false) (av aM (ag 1) (fC (.int 0))) (fC (.str "s")))) (aW (aP Eu (ae (ag 0) (ae (av aM (ag 1) (fC (.int 1))) ah)))) bx)
 (aE (aH (ag 0) (hName 2))
 (aE (cM (bY (ae (av aM (ag 1) (fC (.int 1))) ah)) (hName 3) (aH (aP Ey (ae (ag 2) ah)) (hName 2)))
 (aW (ag 2)))))
def EA:List D->Dm D:=dG 4 Hn
def EB:Stmt:=top 40
theorem Ho:aB ["floor","step","led","turn"] ["floor","step"] (au EB):=⟨rfl,rfl,rfl,by w_fin,rfl,by w_fin,by w_fin⟩
theorem VA {f:Addr} {fd:FuncData} (D:Def K mg "led_by_step" EB ["floor","step"] f fd) (T:Txt mg)  {ma:Addr} {md:FuncData} (mf:Def K mg "sheared" Ew ["floor","k"] ma md) (n4:aC P w K mg base aX 4 ma md ["floor","k"] (a8 K 2 Eu)) {iJ:Addr} {iK:FuncData} (iL:Def K mg "quartered" Ez ["floor"] iJ iK) (lq:aC P w K mg base aX 2 iJ iK ["floor"] (a8 K 1 Ey)):aC P w K mg base aX 5 f fd ["floor","step"] (a8 K 2 EA):=by
 refine D.F.ok Ho (fun _ _ _ _ h=>h.1) (fun c A o s H v Q E hr h=>?_)
 refine ⟨_,(@a9 _ _ _ _ _ (@kG _ _ _ _ _ _ _ _ (gk oi (@a7 _ _ _ _ _ _ _ cj (pv 1) aJ (fun _ _=>rfl)) oV (aO _)) (@bh _ _ _ (@c9 _ _ _ _ (bW n4 mf hr (by decide) rfl (@aj _ _ _ _ _ (pv 0) (@aj _ _ _ _ _ (@a7 _ _ _ _ _ _ _ cj (pv 1) aJ (fun _ _=>rfl)) ax (by rfl)) (by rfl))))) lM)
  (@a9 _ _ _ _ _ (@bX (i:=2) _ _ _ _ _ _ Ho.nd rfl (by w_up) (pv 0) (by rfl) (by w_up))
  (@a9 _ _ _ _ _ (@lU _ _ _ _ _ _ _ _ PassesOwn.never rfl (pR rfl T.aU (@aj _ _ _ _ _ (@a7 _ _ _ _ _ _ _ cj (pv 1) aJ (fun _ _=>rfl)) ax (by rfl))) (c4 (i:=3) Ho.nd rfl (by w_up)) (@bh _ _ _ (@bX (i:=2) _ _ _ _ _ _ Ho.nd rfl (by w_up) (bW lq iL hr (by decide) rfl (@aj _ _ _ _ _ (pv 2) ax (by rfl))) (by rfl) (by w_up))) (by intro _;rfl))
  (@bh _ _ _ (@c9 _ _ _ _ (pv 2)))))),?_⟩
 exact eE (b:=Hn) (bg (kK (gj (aA oy (aA bQ (ai 1) (aK _)) (o8 _))) (dc (bU (F:=Eu) (ao (ai 0) (ao (aA bQ (ai 1) (aK _)) ay)) dE)) lQ)
  (bg (bJ (ai 0) (aS 2))
  (bg (l8 (pV (ao (aA bQ (ai 1) (aK _)) ay)) (aS 3) (bJ (bU (F:=Ey) (ao (ai 2) ay) kT) (aS 2)))
  (dc (ai 2))))) rfl h
def Hq:aq->Dm Fl :=
 (aE (aH (ag 0) (hName 2))
 (aE (cM (cN (ag 1)) (hName 3) (aH (aP EA (ae (ag 2) (ae (ag 3) ah))) (hName 2)))
 (aW (ag 2))))
def EC:List D->Dm D:=dG 4 Hq
def ED:Stmt:=top 39
theorem Hr:aB ["floor","word","led","step"] ["floor","word"] (au ED):=⟨rfl,rfl,rfl,by w_fin,rfl,by w_fin,by w_fin⟩
theorem VB {f:Addr} {fd:FuncData} (D:Def K mg "led_by" ED ["floor","word"] f fd) (T:Txt mg)  {fj:Addr} {fm:FuncData} (fq:Def K mg "led_by_step" EB ["floor","step"] fj fm) (iM:aC P w K mg base aX 5 fj fm ["floor","step"] (a8 K 2 EA)):aC P w K mg base aX 6 f fd ["floor","word"] (a8 K 2 EC):=by
 refine D.F.ok Hr (fun _ _ _ _ h=>h.1) (fun c A o s H v Q E hr h=>?_)
 refine ⟨_,(@a9 _ _ _ _ _ (@bX (i:=2) _ _ _ _ _ _ Hr.nd rfl (by w_up) (pv 0) (by rfl) (by w_up))
  (@a9 _ _ _ _ _ (@lU _ _ _ _ _ _ _ _ PassesOwn.never rfl (oX (pv 1)) (c4 (i:=3) Hr.nd rfl (by w_up)) (@bh _ _ _ (@bX (i:=2) _ _ _ _ _ _ Hr.nd rfl (by w_up) (bW iM fq hr (by decide) rfl (@aj _ _ _ _ _ (pv 2) (@aj _ _ _ _ _ (pv 3) ax (by rfl)) (by rfl))) (by rfl) (by w_up))) (by intro _;rfl))
  (@bh _ _ _ (@c9 _ _ _ _ (pv 2))))),?_⟩
 exact eE (b:=Hq) (bg (bJ (ai 0) (aS 2))
  (bg (l8 (pe (ai 1)) (aS 3) (bJ (bU (F:=EA) (ao (ai 2) (ao (ai 3) ay)) dE) (aS 2)))
  (dc (ai 2)))) rfl h
def Hs:aq->Dm Fl :=
 (aW (bq (ae (av cZ (av cz (av aM (ag 0) (fC (.int 0))) (av aM (ag 1) (fC (.int 0)))) (av cz (av aM (ag 0) (fC (.int 1))) (av aM (ag 1) (fC (.int 1))))) (ae (av cZ (av cz (av aM (ag 0) (fC (.int 2))) (av aM (ag 1) (fC (.int 0)))) (av cz (av aM (ag 0) (fC (.int 3))) (av aM (ag 1) (fC (.int 1))))) ah))))
def EE:List D->Dm D:=dG 2 Hs
def EF:Stmt:=top 19
theorem VC:aB ["table","pair"] ["table","pair"] (au EF):=⟨rfl,rfl,rfl,by w_fin,rfl,by w_fin,by w_fin⟩
theorem VD {f:Addr} {fd:FuncData} (D:Def K mg "led_pair" EF ["table","pair"] f fd) (T:Txt mg)  :aC P w K mg base aX 1 f fd ["table","pair"] (a8 K 2 EE):=by
 refine D.F.ok VC (fun _ _ _ _ h=>h.1) (fun c A o s H v Q E hr h=>?_)
 refine ⟨_,(@bh _ _ _ (@c9 _ _ _ _ (@eJ _ _ _ _ _ (@aj _ _ _ _ _ (bz lO (bz oo (@a7 _ _ _ _ _ _ _ cj (pv 0) aJ (fun _ _=>rfl)) (@a7 _ _ _ _ _ _ _ cj (pv 1) aJ (fun _ _=>rfl))) (bz oo (@a7 _ _ _ _ _ _ _ cj (pv 0) aJ (fun _ _=>rfl)) (@a7 _ _ _ _ _ _ _ cj (pv 1) aJ (fun _ _=>rfl)))) (@aj _ _ _ _ _ (bz lO (bz oo (@a7 _ _ _ _ _ _ _ cj (pv 0) aJ (fun _ _=>rfl)) (@a7 _ _ _ _ _ _ _ cj (pv 1) aJ (fun _ _=>rfl))) (bz oo (@a7 _ _ _ _ _ _ _ cj (pv 0) aJ (fun _ _=>rfl)) (@a7 _ _ _ _ _ _ _ cj (pv 1) aJ (fun _ _=>rfl)))) ax (by rfl)) (by rfl))))),?_⟩
 exact eE (b:=Hs) (dc (eM (ao (aA lP (aA oA (aA bQ (ai 0) (aK _)) (aA bQ (ai 1) (aK _))) (aA oA (aA bQ (ai 0) (aK _)) (aA bQ (ai 1) (aK _)))) (ao (aA lP (aA oA (aA bQ (ai 0) (aK _)) (aA bQ (ai 1) (aK _))) (aA oA (aA bQ (ai 0) (aK _)) (aA bQ (ai 1) (aK _)))) ay)))) rfl h
def Ht:aq->Dm Fl :=
 (aE (h8 (aN (av (jx false) (ag 0) (fC (.int 0)))) (aW (bq ah)) bx)
 (aW (bq (ae (bq (ae (fC (.str "s")) (ae (ag 0) ah))) ah))))
def uz:List D->Dm D:=dG 1 Ht
def Bh:Stmt:=top 34
theorem VE:aB ["k"] ["k"] (au Bh):=⟨rfl,rfl,rfl,by w_fin,rfl,by w_fin,by w_fin⟩
theorem VF {f:Addr} {fd:FuncData} (D:Def K mg "shears" Bh ["k"] f fd) (T:Txt mg)  :aC P w K mg base aX 1 f fd ["k"] (a8 K 1 uz):=by
 refine D.F.ok VE (fun _ _ _ _ h=>h.1) (fun c A o s H v Q E hr h=>?_)
 refine ⟨_,(@a9 _ _ _ _ _ (@kG _ _ _ _ _ _ _ _ (gk oi (pv 0) aJ (aO _)) (@bh _ _ _ (@c9 _ _ _ _ (@eJ _ _ _ _ _ ax))) lM)
  (@bh _ _ _ (@c9 _ _ _ _ (@eJ _ _ _ _ _ (@aj _ _ _ _ _ (@eJ _ _ _ _ _ (@aj _ _ _ _ _ oV (@aj _ _ _ _ _ (pv 0) ax (by rfl)) (by rfl))) ax (by rfl)))))),?_⟩
 exact eE (b:=Ht) (bg (kK (gj (aA oy (ai 0) (aK _))) (dc (eM ay)) lQ)
  (dc (eM (ao (eM (ao (o8 _) (ao (ai 0) ay))) ay)))) rfl h
def Hu:aq->Dm Fl :=
 (aW (bq (ae (av cZ (av cz (av aM (ag 0) (fC (.int 0))) (av aM (ag 1) (fC (.int 0)))) (av cz (av aM (ag 0) (fC (.int 1))) (av aM (ag 1) (fC (.int 2))))) (ae (av cZ (av cz (av aM (ag 0) (fC (.int 0))) (av aM (ag 1) (fC (.int 1)))) (av cz (av aM (ag 0) (fC (.int 1))) (av aM (ag 1) (fC (.int 3))))) (ae (av cZ (av cz (av aM (ag 0) (fC (.int 2))) (av aM (ag 1) (fC (.int 0)))) (av cz (av aM (ag 0) (fC (.int 3))) (av aM (ag 1) (fC (.int 2))))) (ae (av cZ (av cz (av aM (ag 0) (fC (.int 2))) (av aM (ag 1) (fC (.int 1)))) (av cz (av aM (ag 0) (fC (.int 3))) (av aM (ag 1) (fC (.int 3))))) ah))))))
def tU:List D->Dm D:=dG 2 Hu
def zZ:Stmt:=top 18
theorem VG:aB ["one","other"] ["one","other"] (au zZ):=⟨rfl,rfl,rfl,by w_fin,rfl,by w_fin,by w_fin⟩
theorem VH {f:Addr} {fd:FuncData} (D:Def K mg "times" zZ ["one","other"] f fd) (T:Txt mg)  :aC P w K mg base aX 1 f fd ["one","other"] (a8 K 2 tU):=by
 refine D.F.ok VG (fun _ _ _ _ h=>h.1) (fun c A o s H v Q E hr h=>?_)
 refine ⟨_,(@bh _ _ _ (@c9 _ _ _ _ (@eJ _ _ _ _ _ (@aj _ _ _ _ _ (bz lO (bz oo (@a7 _ _ _ _ _ _ _ cj (pv 0) aJ (fun _ _=>rfl)) (@a7 _ _ _ _ _ _ _ cj (pv 1) aJ (fun _ _=>rfl))) (bz oo (@a7 _ _ _ _ _ _ _ cj (pv 0) aJ (fun _ _=>rfl)) (@a7 _ _ _ _ _ _ _ cj (pv 1) aJ (fun _ _=>rfl)))) (@aj _ _ _ _ _ (bz lO (bz oo (@a7 _ _ _ _ _ _ _ cj (pv 0) aJ (fun _ _=>rfl)) (@a7 _ _ _ _ _ _ _ cj (pv 1) aJ (fun _ _=>rfl))) (bz oo (@a7 _ _ _ _ _ _ _ cj (pv 0) aJ (fun _ _=>rfl)) (@a7 _ _ _ _ _ _ _ cj (pv 1) aJ (fun _ _=>rfl)))) (@aj _ _ _ _ _ (bz lO (bz oo (@a7 _ _ _ _ _ _ _ cj (pv 0) aJ (fun _ _=>rfl)) (@a7 _ _ _ _ _ _ _ cj (pv 1) aJ (fun _ _=>rfl))) (bz oo (@a7 _ _ _ _ _ _ _ cj (pv 0) aJ (fun _ _=>rfl)) (@a7 _ _ _ _ _ _ _ cj (pv 1) aJ (fun _ _=>rfl)))) (@aj _ _ _ _ _ (bz lO (bz oo (@a7 _ _ _ _ _ _ _ cj (pv 0) aJ (fun _ _=>rfl)) (@a7 _ _ _ _ _ _ _ cj (pv 1) aJ (fun _ _=>rfl))) (bz oo (@a7 _ _ _ _ _ _ _ cj (pv 0) aJ (fun _ _=>rfl)) (@a7 _ _ _ _ _ _ _ cj (pv 1) aJ (fun _ _=>rfl)))) ax (by rfl)) (by rfl)) (by rfl)) (by rfl))))),?_⟩
 exact eE (b:=Hu) (dc (eM (ao (aA lP (aA oA (aA bQ (ai 0) (aK _)) (aA bQ (ai 1) (aK _))) (aA oA (aA bQ (ai 0) (aK _)) (aA bQ (ai 1) (aK _)))) (ao (aA lP (aA oA (aA bQ (ai 0) (aK _)) (aA bQ (ai 1) (aK _))) (aA oA (aA bQ (ai 0) (aK _)) (aA bQ (ai 1) (aK _)))) (ao (aA lP (aA oA (aA bQ (ai 0) (aK _)) (aA bQ (ai 1) (aK _))) (aA oA (aA bQ (ai 0) (aK _)) (aA bQ (ai 1) (aK _)))) (ao (aA lP (aA oA (aA bQ (ai 0) (aK _)) (aA bQ (ai 1) (aK _))) (aA oA (aA bQ (ai 0) (aK _)) (aA bQ (ai 1) (aK _)))) ay)))))) rfl h
def Hv:aq->Dm Fl :=
 (aE (h8 (aN (av (jx false) (av aM (ag 0) (fC (.int 0))) (fC (.str "s")))) (aW (bq (ae (fC (.int 1)) (ae (av aM (ag 0) (fC (.int 1))) (ae (fC (.int 0)) (ae (fC (.int 1)) ah)))))) bx)
 (aE (aH (fC (.tup [(.int 1),(.int 0),(.int 0),(.int 1)])) (hName 1))
 (aE (cM (bY (ae (av aM (ag 0) (fC (.int 1))) ah)) (hName 2) (aH (aP tU (ae (fC (.tup [(.int 0),(.int (-1)),(.int 1),(.int 0)])) (ae (ag 1) ah))) (hName 1)))
 (aW (ag 1)))))
def EG:List D->Dm D:=dG 3 Hv
def EH:Stmt:=top 23
theorem Hw:aB ["step","table","turn"] ["step"] (au EH):=⟨rfl,rfl,rfl,by w_fin,rfl,by w_fin,by w_fin⟩
theorem VI {f:Addr} {fd:FuncData} (D:Def K mg "step_table" EH ["step"] f fd) (T:Txt mg) {n5:V} (mh:sC K mg "QUARTER" n5 (.tup [(.int 0),(.int (-1)),(.int 1),(.int 0)])) {jS:V} (eB:sC K mg "UNMOVED" jS (.tup [(.int 1),(.int 0),(.int 0),(.int 1)])) {gU:Addr} {gW:FuncData} (gX:Def K mg "times" zZ ["one","other"] gU gW) (iN:aC P w K mg base aX 1 gU gW ["one","other"] (a8 K 2 tU)):aC P w K mg base aX 2 f fd ["step"] (a8 K 1 EG):=by
 refine D.F.ok Hw (fun _ _ _ _ h=>h.1) (fun c A o s H v Q E hr h=>?_)
 refine ⟨_,(@a9 _ _ _ _ _ (@kG _ _ _ _ _ _ _ _ (gk oi (@a7 _ _ _ _ _ _ _ cj (pv 0) aJ (fun _ _=>rfl)) oV (aO _)) (@bh _ _ _ (@c9 _ _ _ _ (@eJ _ _ _ _ _ (@aj _ _ _ _ _ aJ (@aj _ _ _ _ _ (@a7 _ _ _ _ _ _ _ cj (pv 0) aJ (fun _ _=>rfl)) (@aj _ _ _ _ _ aJ (@aj _ _ _ _ _ aJ ax (by rfl)) (by rfl)) (by rfl)) (by rfl))))) lM)
  (@a9 _ _ _ _ _ (@bX (i:=1) _ _ _ _ _ _ Hw.nd rfl (by w_up) (KP eB rfl rfl (by decide)) (by rfl) (by w_up))
  (@a9 _ _ _ _ _ (@lU _ _ _ _ _ _ _ _ PassesOwn.never rfl (pR rfl T.aU (@aj _ _ _ _ _ (@a7 _ _ _ _ _ _ _ cj (pv 0) aJ (fun _ _=>rfl)) ax (by rfl))) (c4 (i:=2) Hw.nd rfl (by w_up)) (@bh _ _ _ (@bX (i:=1) _ _ _ _ _ _ Hw.nd rfl (by w_up) (bW iN gX hr (by decide) rfl (@aj _ _ _ _ _ (KP mh rfl rfl (by decide)) (@aj _ _ _ _ _ (pv 1) ax (by rfl)) (by rfl))) (by rfl) (by w_up))) (by intro _;rfl))
  (@bh _ _ _ (@c9 _ _ _ _ (pv 1)))))),?_⟩
 exact eE (b:=Hv) (bg (kK (gj (aA oy (aA bQ (ai 0) (aK _)) (o8 _))) (dc (eM (ao (aK _) (ao (aA bQ (ai 0) (aK _)) (ao (aK _) (ao (aK _) ay)))))) lQ)
  (bg (bJ (KQ eB) (aS 1))
  (bg (l8 (pV (ao (aA bQ (ai 0) (aK _)) ay)) (aS 2) (bJ (bU (F:=tU) (ao (KQ mh) (ao (ai 1) ay)) dE) (aS 1)))
  (dc (ai 1))))) rfl h
def Hx:aq->Dm Fl :=
 (aE (aH (fC (.tup [(.int 1),(.int 0),(.int 0),(.int 1)])) (hName 1))
 (aE (cM (cN (ag 0)) (hName 2) (aH (aP tU (ae (aP EG (ae (ag 2) ah)) (ae (ag 1) ah))) (hName 1)))
 (aW (ag 1))))
def xm:List D->Dm D:=dG 3 Hx
def Bi:Stmt:=top 24
theorem Hy:aB ["word","table","step"] ["word"] (au Bi):=⟨rfl,rfl,rfl,by w_fin,rfl,by w_fin,by w_fin⟩
theorem VJ {f:Addr} {fd:FuncData} (D:Def K mg "table_of" Bi ["word"] f fd) (T:Txt mg) {jS:V} (eB:sC K mg "UNMOVED" jS (.tup [(.int 1),(.int 0),(.int 0),(.int 1)])) {gU:Addr} {gW:FuncData} (gX:Def K mg "times" zZ ["one","other"] gU gW) (iN:aC P w K mg base aX 1 gU gW ["one","other"] (a8 K 2 tU)) {gC:Addr} {gD:FuncData} (gE:Def K mg "step_table" EH ["step"] gC gD) (jT:aC P w K mg base aX 2 gC gD ["step"] (a8 K 1 EG)):aC P w K mg base aX 3 f fd ["word"] (a8 K 1 xm):=by
 refine D.F.ok Hy (fun _ _ _ _ h=>h.1) (fun c A o s H v Q E hr h=>?_)
 refine ⟨_,(@a9 _ _ _ _ _ (@bX (i:=1) _ _ _ _ _ _ Hy.nd rfl (by w_up) (KP eB rfl rfl (by decide)) (by rfl) (by w_up))
  (@a9 _ _ _ _ _ (@lU _ _ _ _ _ _ _ _ PassesOwn.never rfl (oX (pv 0)) (c4 (i:=2) Hy.nd rfl (by w_up)) (@bh _ _ _ (@bX (i:=1) _ _ _ _ _ _ Hy.nd rfl (by w_up) (bW iN gX hr (by decide) rfl (@aj _ _ _ _ _ (bW jT gE hr (by decide) rfl (@aj _ _ _ _ _ (pv 2) ax (by rfl))) (@aj _ _ _ _ _ (pv 1) ax (by rfl)) (by rfl))) (by rfl) (by w_up))) (by intro _;rfl))
  (@bh _ _ _ (@c9 _ _ _ _ (pv 1))))),?_⟩
 exact eE (b:=Hx) (bg (bJ (KQ eB) (aS 1))
  (bg (l8 (pe (ai 0)) (aS 2) (bJ (bU (F:=tU) (ao (bU (F:=EG) (ao (ai 2) ay) kT) (ao (ai 1) ay)) dE) (aS 1)))
  (dc (ai 1)))) rfl h
def Hz:aq->Dm Fl :=
 (aW (av pq (av cZ (av mK (fC (.int 2)) (ag 0)) (ag 1)) (av mK (fC (.int 2)) (ag 1))))
def EI:List D->Dm D:=dG 2 Hz
def EJ:Stmt:=top 33
theorem VL:aB ["number","divisor"] ["number","divisor"] (au EJ):=⟨rfl,rfl,rfl,by w_fin,rfl,by w_fin,by w_fin⟩
theorem VM {f:Addr} {fd:FuncData} (D:Def K mg "nearest" EJ ["number","divisor"] f fd) (T:Txt mg)  :aC P w K mg base aX 1 f fd ["number","divisor"] (a8 K 2 EI):=by
 refine D.F.ok VL (fun _ _ _ _ h=>h.1) (fun c A o s H v Q E hr h=>?_)
 refine ⟨_,(@bh _ _ _ (@c9 _ _ _ _ (bz RM (bz lO (bz ud aJ (pv 0)) (pv 1)) (bz ud aJ (pv 1))))),?_⟩
 exact eE (b:=Hz) (dc (aA UI (aA lP (aA ur (aK _) (ai 0)) (ai 1)) (aA ur (aK _) (ai 1)))) rfl h
def HA:aq->Dm Fl :=
 (aE (aH (bq ah) (hName 1))
 (aE (aH (ag 0) (hName 2))
 (aE (iC (aN (av (jx true) (av aM (ag 2) (fC (.int 1))) (fC (.int 0)))) (aE (aH (av ip (aP uz (ae (rJ lZ (aP EI (ae (av aM (ag 2) (fC (.int 0))) (ae (av aM (ag 2) (fC (.int 1))) ah)))) ah)) (bq (ae (bq (ae (fC (.str "t")) (ae (fC (.int 1)) ah))) ah))) (hName 3))
 (aE (aH (aP EE (ae (aP xm (ae (ag 3) ah)) (ae (ag 2) ah))) (hName 2))
 (aH (av ip (ag 1) (ag 3)) (hName 1)))))
 (aW (ag 1)))))
def EK:List D->Dm D:=dG 4 HA
def EL:Stmt:=top 32
theorem Bj:aB ["pair","gone","left","steps"] ["pair"] (au EL):=⟨rfl,rfl,rfl,by w_fin,rfl,by w_fin,by w_fin⟩
theorem VN {f:Addr} {fd:FuncData} (D:Def K mg "level_steps" EL ["pair"] f fd) (T:Txt mg)  {kr:Addr} {ku:FuncData} (ky:Def K mg "led_pair" EF ["table","pair"] kr ku) (mP:aC P w K mg base aX 1 kr ku ["table","pair"] (a8 K 2 EE)) {iO:Addr} {iP:FuncData} (gG:Def K mg "shears" Bh ["k"] iO iP) (iQ:aC P w K mg base aX 1 iO iP ["k"] (a8 K 1 uz)) {dM:Addr} {dN:FuncData} (dO:Def K mg "table_of" Bi ["word"] dM dN) (fI:aC P w K mg base aX 3 dM dN ["word"] (a8 K 1 xm)) {mj:Addr} {ml:FuncData} (mq:Def K mg "nearest" EJ ["number","divisor"] mj ml) (n8:aC P w K mg base aX 1 mj ml ["number","divisor"] (a8 K 2 EI)):aC P w K mg base aX 4 f fd ["pair"] (a8 K 1 EK):=by
 refine D.F.ok Bj (fun _ _ _ _ h=>h.1) (fun c A o s H v Q E hr h=>?_)
 refine ⟨_,(@a9 _ _ _ _ _ (@bX (i:=1) _ _ _ _ _ _ Bj.nd rfl (by w_up) (@eJ _ _ _ _ _ ax) (by rfl) (by w_up))
  (@a9 _ _ _ _ _ (@bX (i:=2) _ _ _ _ _ _ Bj.nd rfl (by w_up) (pv 0) (by rfl) (by w_up))
  (@a9 _ _ _ _ _ (xO PassesOwn.never (gk BQ (@a7 _ _ _ _ _ _ _ cj (pv 2) aJ (fun _ _=>rfl)) aJ (aO _)) (@a9 _ _ _ _ _ (@bX (i:=3) _ _ _ _ _ _ Bj.nd rfl (by w_up) (bz uM (bW iQ gG hr (by decide) rfl (@aj _ _ _ _ _ (sx sA (bW n8 mq hr (by decide) rfl (@aj _ _ _ _ _ (@a7 _ _ _ _ _ _ _ cj (pv 2) aJ (fun _ _=>rfl)) (@aj _ _ _ _ _ (@a7 _ _ _ _ _ _ _ cj (pv 2) aJ (fun _ _=>rfl)) ax (by rfl)) (by rfl)))) ax (by rfl))) (@eJ _ _ _ _ _ (@aj _ _ _ _ _ (@eJ _ _ _ _ _ (@aj _ _ _ _ _ oV (@aj _ _ _ _ _ aJ ax (by rfl)) (by rfl))) ax (by rfl)))) (by rfl) (by w_up))
  (@a9 _ _ _ _ _ (@bX (i:=2) _ _ _ _ _ _ Bj.nd rfl (by w_up) (bW mP ky hr (by decide) rfl (@aj _ _ _ _ _ (bW fI dO hr (by decide) rfl (@aj _ _ _ _ _ (pv 3) ax (by rfl))) (@aj _ _ _ _ _ (pv 2) ax (by rfl)) (by rfl))) (by rfl) (by w_up))
  (@bh _ _ _ (@bX (i:=1) _ _ _ _ _ _ Bj.nd rfl (by w_up) (bz uM (pv 1) (pv 3)) (by rfl) (by w_up))))))
  (@bh _ _ _ (@c9 _ _ _ _ (pv 1)))))),?_⟩
 exact eE (b:=HA) (bg (bJ (eM ay) (aS 1))
  (bg (bJ (ai 0) (aS 2))
  (bg (yH (gj (aA Dc (aA bQ (ai 2) (aK _)) (aK _))) (bg (bJ (aA u7 (bU (F:=uz) (ao (sZ tj (bU (F:=EI) (ao (aA bQ (ai 2) (aK _)) (ao (aA bQ (ai 2) (aK _)) ay)) dE)) ay) kT) (eM (ao (eM (ao (o8 _) (ao (aK _) ay))) ay))) (aS 3))
  (bg (bJ (bU (F:=EE) (ao (bU (F:=xm) (ao (ai 3) ay) kT) (ao (ai 2) ay)) dE) (aS 2))
  (bJ (aA u7 (ai 1) (ai 3)) (aS 1)))))
  (dc (ai 1))))) rfl h
def HB:aq->Dm Fl :=
 (aE (aH (av cZ (av aM (ag 0) (fC (.int 1))) (av aM (ag 1) (fC (.int 1)))) (hName 2))
 (aE (h8 (aN (av (jx false) (av aM (ag 0) (fC (.int 0))) (fC (.str "t")))) (aH (av jN (ag 2) (fC (.int 4))) (hName 2)) bx)
 (aE (h8 (aN (av (jx false) (ag 2) (fC (.int 0)))) (aW (bq ah)) bx)
 (aW (bq (ae (bq (ae (av aM (ag 0) (fC (.int 0))) (ae (ag 2) ah))) ah))))))
def EM:List D->Dm D:=dG 3 HB
def EN:Stmt:=top 25
theorem K8:aB ["one","other","number"] ["one","other"] (au EN):=⟨rfl,rfl,rfl,by w_fin,rfl,by w_fin,by w_fin⟩
theorem VO {f:Addr} {fd:FuncData} (D:Def K mg "joined" EN ["one","other"] f fd) (T:Txt mg)  :aC P w K mg base aX 1 f fd ["one","other"] (a8 K 2 EM):=by
 refine D.F.ok K8 (fun _ _ _ _ h=>h.1) (fun c A o s H v Q E hr h=>?_)
 refine ⟨_,(@a9 _ _ _ _ _ (@bX (i:=2) _ _ _ _ _ _ K8.nd rfl (by w_up) (bz lO (@a7 _ _ _ _ _ _ _ cj (pv 0) aJ (fun _ _=>rfl)) (@a7 _ _ _ _ _ _ _ cj (pv 1) aJ (fun _ _=>rfl))) (by rfl) (by w_up))
  (@a9 _ _ _ _ _ (@kG _ _ _ _ _ _ _ _ (gk oi (@a7 _ _ _ _ _ _ _ cj (pv 0) aJ (fun _ _=>rfl)) oV (aO _)) (@bh _ _ _ (@bX (i:=2) _ _ _ _ _ _ K8.nd rfl (by w_up) (bz rl (pv 2) aJ) (by rfl) (by w_up))) lM)
  (@a9 _ _ _ _ _ (@kG _ _ _ _ _ _ _ _ (gk oi (pv 2) aJ (aO _)) (@bh _ _ _ (@c9 _ _ _ _ (@eJ _ _ _ _ _ ax))) lM)
  (@bh _ _ _ (@c9 _ _ _ _ (@eJ _ _ _ _ _ (@aj _ _ _ _ _ (@eJ _ _ _ _ _ (@aj _ _ _ _ _ (@a7 _ _ _ _ _ _ _ cj (pv 0) aJ (fun _ _=>rfl)) (@aj _ _ _ _ _ (pv 2) ax (by rfl)) (by rfl))) ax (by rfl)))))))),?_⟩
 exact eE (b:=HB) (bg (bJ (aA lP (aA bQ (ai 0) (aK _)) (aA bQ (ai 1) (aK _))) (aS 2))
  (bg (kK (gj (aA oy (aA bQ (ai 0) (aK _)) (o8 _))) (bJ (aA rM (ai 2) (aK _)) (aS 2)) lQ)
  (bg (kK (gj (aA oy (ai 2) (aK _))) (dc (eM ay)) lQ)
  (dc (eM (ao (eM (ao (aA bQ (ai 0) (aK _)) (ao (ai 2) ay))) ay)))))) rfl h
def HC:aq->Dm Fl :=
 (aE (aH (bq ah) (hName 1))
 (aE (cM (cN (ag 0)) (hName 2) (h8 (rL (aN (av AR (aP dg (ae (ag 1) ah)) (fC (.int 0)))) (aN (av (jx false) (av aM (av aM (ag 1) (rJ lZ (fC (.int 1)))) (fC (.int 0))) (av aM (ag 2) (fC (.int 0)))))) (aH (av ip (AL yC (ag 1) lY (oM (rJ lZ (fC (.int 1))))) (aP EM (ae (av aM (ag 1) (rJ lZ (fC (.int 1)))) (ae (ag 2) ah)))) (hName 1)) (aH (av ip (ag 1) (bq (ae (ag 2) ah))) (hName 1))))
 (aW (ag 1))))
def EO:List D->Dm D:=dG 3 HC
def ER:Stmt:=top 26
theorem ES:aB ["word","plain","step"] ["word"] (au ER):=⟨rfl,rfl,rfl,by w_fin,rfl,by w_fin,by w_fin⟩
theorem VP {f:Addr} {fd:FuncData} (D:Def K mg "made_plain" ER ["word"] f fd) (T:Txt mg)  {nF:Addr} {nG:FuncData} (nH:Def K mg "joined" EN ["one","other"] nF nG) (pD:aC P w K mg base aX 1 nF nG ["one","other"] (a8 K 2 EM)):aC P w K mg base aX 2 f fd ["word"] (a8 K 1 EO):=by
 refine D.F.ok ES (fun _ _ _ _ h=>h.1) (fun c A o s H v Q E hr h=>?_)
 refine ⟨_,(@a9 _ _ _ _ _ (@bX (i:=1) _ _ _ _ _ _ ES.nd rfl (by w_up) (@eJ _ _ _ _ _ ax) (by rfl) (by w_up))
  (@a9 _ _ _ _ _ (@lU _ _ _ _ _ _ _ _ PassesOwn.never rfl (oX (pv 0)) (c4 (i:=2) ES.nd rfl (by w_up)) (@bh _ _ _ (@kG _ _ _ _ _ _ _ _ (PW.pt (IE (gk FN (ke mD (by rfl) T.cq mF (@aj _ _ _ _ _ (pv 1) ax (by rfl))) aJ (aO _)) (IC (gk oi (@a7 _ _ _ _ _ _ _ cj (@a7 _ _ _ _ _ _ _ cj (pv 1) (sx sA aJ) (fun _ _=>rfl)) aJ (fun _ _=>rfl)) (@a7 _ _ _ _ _ _ _ cj (pv 2) aJ (fun _ _=>rfl)) (aO _))))) (@bh _ _ _ (@bX (i:=1) _ _ _ _ _ _ ES.nd rfl (by w_up) (bz uM (IW QR (pv 1) IU (IV (sx sA aJ))) (bW pD nH hr (by decide) rfl (@aj _ _ _ _ _ (@a7 _ _ _ _ _ _ _ cj (pv 1) (sx sA aJ) (fun _ _=>rfl)) (@aj _ _ _ _ _ (pv 2) ax (by rfl)) (by rfl)))) (by rfl) (by w_up))) (@bh _ _ _ (@bX (i:=1) _ _ _ _ _ _ ES.nd rfl (by w_up) (bz uM (pv 1) (@eJ _ _ _ _ _ (@aj _ _ _ _ _ (pv 2) ax (by rfl)))) (by rfl) (by w_up))))) (by intro _;rfl))
  (@bh _ _ _ (@c9 _ _ _ _ (pv 1))))),?_⟩
 exact eE (b:=HC) (bg (bJ (eM ay) (aS 1))
  (bg (l8 (pe (ai 0)) (aS 2) (kK (Ki (gj (aA Gr (cu mL (ao (ai 1) ay)) (aK _))) (gj (aA oy (aA bQ (aA bQ (ai 1) (sZ tj (aK _))) (aK _)) (aA bQ (ai 2) (aK _))))) (bJ (aA u7 (Kl yD (ai 1) Kj (Kk (sZ tj (aK _)))) (bU (F:=EM) (ao (aA bQ (ai 1) (sZ tj (aK _))) (ao (ai 2) ay)) dE)) (aS 1)) (bJ (aA u7 (ai 1) (eM (ao (ai 2) ay))) (aS 1))))
  (dc (ai 1)))) rfl h
def HD:aq->Dm Fl :=
 (aW (aP EO (ae (av ip (ag 0) (ag 1)) ah)))
def ET:List D->Dm D:=dG 2 HD
def EU:Stmt:=top 27
theorem VQ:aB ["one","other"] ["one","other"] (au EU):=⟨rfl,rfl,rfl,by w_fin,rfl,by w_fin,by w_fin⟩
theorem VR {f:Addr} {fd:FuncData} (D:Def K mg "put_together" EU ["one","other"] f fd) (T:Txt mg)  {gH:Addr} {gI:FuncData} (gJ:Def K mg "made_plain" ER ["word"] gH gI) (jU:aC P w K mg base aX 2 gH gI ["word"] (a8 K 1 EO)):aC P w K mg base aX 3 f fd ["one","other"] (a8 K 2 ET):=by
 refine D.F.ok VQ (fun _ _ _ _ h=>h.1) (fun c A o s H v Q E hr h=>?_)
 refine ⟨_,(@bh _ _ _ (@c9 _ _ _ _ (bW jU gJ hr (by decide) rfl (@aj _ _ _ _ _ (bz uM (pv 0) (pv 1)) ax (by rfl))))),?_⟩
 exact eE (b:=HD) (dc (bU (F:=EO) (ao (aA u7 (ai 0) (ai 1)) ay) kT)) rfl h
def HE:aq->Dm Fl :=
 (aW (qQ (av (jx false) (aP dg (ae (ag 0) ah)) (fC (.int 4))) (av (jx false) (av lS (av cz (av aM (ag 0) (fC (.int 0))) (av aM (ag 0) (fC (.int 3)))) (av cz (av aM (ag 0) (fC (.int 1))) (av aM (ag 0) (fC (.int 2))))) (fC (.int 1)))))
def EV:List D->Dm D:=dG 1 HE
def EW:Stmt:=top 17
theorem VS:aB ["thing"] ["thing"] (au EW):=⟨rfl,rfl,rfl,by w_fin,rfl,by w_fin,by w_fin⟩
theorem VT {f:Addr} {fd:FuncData} (D:Def K mg "is_table" EW ["thing"] f fd) (T:Txt mg)  :aC P w K mg base aX 1 f fd ["thing"] (a8 K 1 EV):=by
 refine D.F.ok VS (fun _ _ _ _ h=>h.1) (fun c A o s H v Q E hr h=>?_)
 refine ⟨_,(@bh _ _ _ (@c9 _ _ _ _ (xM (vO oi (ke mD (by rfl) T.cq mF (@aj _ _ _ _ _ (pv 0) ax (by rfl))) aJ (aO _)) (xK (vO oi (bz uI (bz oo (@a7 _ _ _ _ _ _ _ cj (pv 0) aJ (fun _ _=>rfl)) (@a7 _ _ _ _ _ _ _ cj (pv 0) aJ (fun _ _=>rfl))) (bz oo (@a7 _ _ _ _ _ _ _ cj (pv 0) aJ (fun _ _=>rfl)) (@a7 _ _ _ _ _ _ _ cj (pv 0) aJ (fun _ _=>rfl)))) aJ (aO _)))))),?_⟩
 exact eE (b:=HE) (dc (SO (aA oy (cu mL (ao (ai 0) ay)) (aK _)) (aA oy (aA u6 (aA oA (aA bQ (ai 0) (aK _)) (aA bQ (ai 0) (aK _))) (aA oA (aA bQ (ai 0) (aK _)) (aA bQ (ai 0) (aK _)))) (aK _)))) rfl h
def HF:aq->Dm Fl :=
 (aE (h8 (aN (av (jx false) (av aM (ag 0) (fC (.int 0))) (fC (.int 1)))) (aW (aP uz (ae (av aM (ag 0) (fC (.int 1))) ah))) bx)
 (aW (av ip (bq (ae (bq (ae (fC (.str "t")) (ae (fC (.int 2)) ah))) ah)) (aP uz (ae (rJ lZ (av aM (ag 0) (fC (.int 1)))) ah)))))
def EX:List D->Dm D:=dG 1 HF
def EY:Stmt:=top 35
theorem VU:aB ["table"] ["table"] (au EY):=⟨rfl,rfl,rfl,by w_fin,rfl,by w_fin,by w_fin⟩
theorem VW {f:Addr} {fd:FuncData} (D:Def K mg "level_word" EY ["table"] f fd) (T:Txt mg)  {iO:Addr} {iP:FuncData} (gG:Def K mg "shears" Bh ["k"] iO iP) (iQ:aC P w K mg base aX 1 iO iP ["k"] (a8 K 1 uz)):aC P w K mg base aX 2 f fd ["table"] (a8 K 1 EX):=by
 refine D.F.ok VU (fun _ _ _ _ h=>h.1) (fun c A o s H v Q E hr h=>?_)
 refine ⟨_,(@a9 _ _ _ _ _ (@kG _ _ _ _ _ _ _ _ (gk oi (@a7 _ _ _ _ _ _ _ cj (pv 0) aJ (fun _ _=>rfl)) aJ (aO _)) (@bh _ _ _ (@c9 _ _ _ _ (bW iQ gG hr (by decide) rfl (@aj _ _ _ _ _ (@a7 _ _ _ _ _ _ _ cj (pv 0) aJ (fun _ _=>rfl)) ax (by rfl))))) lM)
  (@bh _ _ _ (@c9 _ _ _ _ (bz uM (@eJ _ _ _ _ _ (@aj _ _ _ _ _ (@eJ _ _ _ _ _ (@aj _ _ _ _ _ oV (@aj _ _ _ _ _ aJ ax (by rfl)) (by rfl))) ax (by rfl))) (bW iQ gG hr (by decide) rfl (@aj _ _ _ _ _ (sx sA (@a7 _ _ _ _ _ _ _ cj (pv 0) aJ (fun _ _=>rfl))) ax (by rfl))))))),?_⟩
 exact eE (b:=HF) (bg (kK (gj (aA oy (aA bQ (ai 0) (aK _)) (aK _))) (dc (bU (F:=uz) (ao (aA bQ (ai 0) (aK _)) ay) kT)) lQ)
  (dc (aA u7 (eM (ao (eM (ao (o8 _) (ao (aK _) ay))) ay)) (bU (F:=uz) (ao (sZ tj (aA bQ (ai 0) (aK _))) ay) kT)))) rfl h
def HG:aq->Dm Fl :=
 (aE (h8 (aN (av (jx false) (av aM (ag 0) (fC (.int 0))) (fC (.str "s")))) (aW (bq (ae (fC (.str "s")) (ae (rJ lZ (av aM (ag 0) (fC (.int 1)))) ah)))) bx)
 (aW (bq (ae (fC (.str "t")) (ae (av lS (fC (.int 4)) (av aM (ag 0) (fC (.int 1)))) ah)))))
def EZ:List D->Dm D:=dG 1 HG
def E1:Stmt:=top 28
theorem VX:aB ["step"] ["step"] (au E1):=⟨rfl,rfl,rfl,by w_fin,rfl,by w_fin,by w_fin⟩
theorem VY {f:Addr} {fd:FuncData} (D:Def K mg "back_step" E1 ["step"] f fd) (T:Txt mg)  :aC P w K mg base aX 1 f fd ["step"] (a8 K 1 EZ):=by
 refine D.F.ok VX (fun _ _ _ _ h=>h.1) (fun c A o s H v Q E hr h=>?_)
 refine ⟨_,(@a9 _ _ _ _ _ (@kG _ _ _ _ _ _ _ _ (gk oi (@a7 _ _ _ _ _ _ _ cj (pv 0) aJ (fun _ _=>rfl)) oV (aO _)) (@bh _ _ _ (@c9 _ _ _ _ (@eJ _ _ _ _ _ (@aj _ _ _ _ _ oV (@aj _ _ _ _ _ (sx sA (@a7 _ _ _ _ _ _ _ cj (pv 0) aJ (fun _ _=>rfl))) ax (by rfl)) (by rfl))))) lM)
  (@bh _ _ _ (@c9 _ _ _ _ (@eJ _ _ _ _ _ (@aj _ _ _ _ _ oV (@aj _ _ _ _ _ (bz uI aJ (@a7 _ _ _ _ _ _ _ cj (pv 0) aJ (fun _ _=>rfl))) ax (by rfl)) (by rfl)))))),?_⟩
 exact eE (b:=HG) (bg (kK (gj (aA oy (aA bQ (ai 0) (aK _)) (o8 _))) (dc (eM (ao (o8 _) (ao (sZ tj (aA bQ (ai 0) (aK _))) ay)))) lQ)
  (dc (eM (ao (o8 _) (ao (aA u6 (aK _) (aA bQ (ai 0) (aK _))) ay))))) rfl h
def HI:aq->Dm Fl :=
 (aW (aP bG (ae (cO (pX (ae (ag 0) ah)) 1 [] (hName 0) di (aP EZ (ae (ag 0) ah))) ah)))
def E2:List D->Dm D:=dG 1 HI
def E3:Stmt:=top 29
theorem VZ:aB ["word"] ["word"] (au E3):=⟨rfl,rfl,rfl,by w_fin,rfl,by w_fin,by w_fin⟩
theorem V0 {f:Addr} {fd:FuncData} (D:Def K mg "back_word" E3 ["word"] f fd) (T:Txt mg)  {iR:Addr} {iS:FuncData} (iT:Def K mg "back_step" E1 ["step"] iR iS) (lr:aC P w K mg base aX 1 iR iS ["step"] (a8 K 1 EZ)):aC P w K mg base aX 2 f fd ["word"] (a8 K 1 E2):=by
 refine D.F.ok VZ (fun _ _ _ _ h=>h.1) (fun c A o s H v Q E hr h=>?_)
 refine ⟨_,(@bh _ _ _ (@c9 _ _ _ _ (fG oB (by rfl) T.bw oj (@aj _ _ _ _ _ (qG (own:=["step"]) (fr:=[]) (js:=[]) rfl ⟨⟨rfl,by w_fin,by w_fin,by dsimp only [gi,aT,Cx.oI,Cx.wish,PyProof.Rows.envOfC,compEnvC,relabel,Env.kindOf];decide +kernel,by w_fin⟩,rfl⟩ (M6 rfl T.nZ (@aj _ _ _ _ _ (pv 0) ax (by rfl))) (fun _ _ _ _ _=>(c4 (i:=0) (show ((["step"]:List Str) ++ ([]:List Str)).Nodup by w_fin) rfl (by w_up))) (fun _ _ _ _ _=>rC) (fun _ _ _ _ _=>(bW lr iT hr (by decide) rfl (@aj _ _ _ _ _ (pv 0) ax (by rfl))))) ax (by rfl))))),?_⟩
 exact eE (b:=HI) (dc (cu oz (ao (p7 (OE (ao (ai 0) ay)) (aS 0) rP (bU (F:=EZ) (ao (ai 0) ay) kT)) ay))) rfl h
def HJ:aq->Dm Fl :=
 (aE (h8 (rK (aN (aP EV (ae (ag 0) ah)))) tO bx)
 (aE (aH (aP EK (ae (bq (ae (av aM (ag 0) (fC (.int 0))) (ae (av aM (ag 0) (fC (.int 2))) ah))) ah)) (hName 1))
 (aW (aP ET (ae (aP EX (ae (aP tU (ae (aP xm (ae (ag 1) ah)) (ae (ag 0) ah))) ah)) (ae (aP E2 (ae (ag 1) ah)) ah))))))
def E4:List D->Dm D:=dG 2 HJ
def E5:Stmt:=top 31
theorem OV:aB ["table","gone"] ["table"] (au E5):=⟨rfl,rfl,rfl,by w_fin,rfl,by w_fin,by w_fin⟩
theorem V1 {f:Addr} {fd:FuncData} (D:Def K mg "word_of" E5 ["table"] f fd) (T:Txt mg)  {ft:Addr} {fu:FuncData} (fw:Def K mg "level_steps" EL ["pair"] ft fu) (iU:aC P w K mg base aX 4 ft fu ["pair"] (a8 K 1 EK)) {dZ:Addr} {d3:FuncData} (d4:Def K mg "put_together" EU ["one","other"] dZ d3) (gY:aC P w K mg base aX 3 dZ d3 ["one","other"] (a8 K 2 ET)) {kz:Addr} {kA:FuncData} (kC:Def K mg "is_table" EW ["thing"] kz kA) (mQ:aC P w K mg base aX 1 kz kA ["thing"] (a8 K 1 EV)) {gK:Addr} {gL:FuncData} (gM:Def K mg "level_word" EY ["table"] gK gL) (jV:aC P w K mg base aX 2 gK gL ["table"] (a8 K 1 EX)) {iW:Addr} {iX:FuncData} (iY:Def K mg "back_word" E3 ["word"] iW iX) (lx:aC P w K mg base aX 2 iW iX ["word"] (a8 K 1 E2)) {gU:Addr} {gW:FuncData} (gX:Def K mg "times" zZ ["one","other"] gU gW) (iN:aC P w K mg base aX 1 gU gW ["one","other"] (a8 K 2 tU)) {dM:Addr} {dN:FuncData} (dO:Def K mg "table_of" Bi ["word"] dM dN) (fI:aC P w K mg base aX 3 dM dN ["word"] (a8 K 1 xm)):aC P w K mg base aX 5 f fd ["table"] (a8 K 1 E4):=by
 refine D.F.ok OV (fun _ _ _ _ h=>h.1) (fun c A o s H v Q E hr h=>?_)
 refine ⟨_,(@a9 _ _ _ _ _ (@kG _ _ _ _ _ _ _ _ (LX (LV (bW mQ kC hr (by decide) rfl (@aj _ _ _ _ _ (pv 0) ax (by rfl))))) (@bh _ _ _ P1) lM)
  (@a9 _ _ _ _ _ (@bX (i:=1) _ _ _ _ _ _ OV.nd rfl (by w_up) (bW iU fw hr (by decide) rfl (@aj _ _ _ _ _ (@eJ _ _ _ _ _ (@aj _ _ _ _ _ (@a7 _ _ _ _ _ _ _ cj (pv 0) aJ (fun _ _=>rfl)) (@aj _ _ _ _ _ (@a7 _ _ _ _ _ _ _ cj (pv 0) aJ (fun _ _=>rfl)) ax (by rfl)) (by rfl))) ax (by rfl))) (by rfl) (by w_up))
  (@bh _ _ _ (@c9 _ _ _ _ (bW gY d4 hr (by decide) rfl (@aj _ _ _ _ _ (bW jV gM hr (by decide) rfl (@aj _ _ _ _ _ (bW iN gX hr (by decide) rfl (@aj _ _ _ _ _ (bW fI dO hr (by decide) rfl (@aj _ _ _ _ _ (pv 1) ax (by rfl))) (@aj _ _ _ _ _ (pv 0) ax (by rfl)) (by rfl))) ax (by rfl))) (@aj _ _ _ _ _ (bW lx iY hr (by decide) rfl (@aj _ _ _ _ _ (pv 1) ax (by rfl))) ax (by rfl)) (by rfl))))))),?_⟩
 exact eE (b:=HJ) (bg (kK (NW (Kh (bU (F:=EV) (ao (ai 0) ay) kT))) UC lQ)
  (bg (bJ (bU (F:=EK) (ao (eM (ao (aA bQ (ai 0) (aK _)) (ao (aA bQ (ai 0) (aK _)) ay))) ay) kT) (aS 1))
  (dc (bU (F:=ET) (ao (bU (F:=EX) (ao (bU (F:=tU) (ao (bU (F:=xm) (ao (ai 1) ay) kT) (ao (ai 0) ay)) dE) ay) kT) (ao (bU (F:=E2) (ao (ai 1) ay) kT) ay)) dE)))) rfl h
def HK:aq->Dm Fl :=
 (aW (aP xl (ae (aP EC (ae (ag 0) (ae (aP E4 (ae (ag 1) ah)) ah))) ah)))
def E6:List D->Dm D:=dG 2 HK
def E7:Stmt:=top 41
theorem V2:aB ["floor","table"] ["floor","table"] (au E7):=⟨rfl,rfl,rfl,by w_fin,rfl,by w_fin,by w_fin⟩
theorem V3 {f:Addr} {fd:FuncData} (D:Def K mg "led_by_table" E7 ["floor","table"] f fd) (T:Txt mg)  {fS:Addr} {fT:FuncData} (fU:Def K mg "form_of" Bf ["floor"] fS fT) (iu:aC P w K mg base aX 4 fS fT ["floor"] (a8 K 1 xl)) {nI:Addr} {nJ:FuncData} (nK:Def K mg "led_by" ED ["floor","word"] nI nJ) (pE:aC P w K mg base aX 6 nI nJ ["floor","word"] (a8 K 2 EC)) {mr:Addr} {mv:FuncData} (mw:Def K mg "word_of" E5 ["table"] mr mv) (n9:aC P w K mg base aX 5 mr mv ["table"] (a8 K 1 E4)):aC P w K mg base aX 7 f fd ["floor","table"] (a8 K 2 E6):=by
 refine D.F.ok V2 (fun _ _ _ _ h=>h.1) (fun c A o s H v Q E hr h=>?_)
 refine ⟨_,(@bh _ _ _ (@c9 _ _ _ _ (bW iu fU hr (by decide) rfl (@aj _ _ _ _ _ (bW pE nK hr (by decide) rfl (@aj _ _ _ _ _ (pv 0) (@aj _ _ _ _ _ (bW n9 mw hr (by decide) rfl (@aj _ _ _ _ _ (pv 1) ax (by rfl))) ax (by rfl)) (by rfl))) ax (by rfl))))),?_⟩
 exact eE (b:=HK) (dc (bU (F:=xl) (ao (bU (F:=EC) (ao (ai 0) (ao (bU (F:=E4) (ao (ai 1) ay) kT) ay)) dE) ay) kT)) rfl h
def HL:aq->Dm Fl :=
 (aW (av (kJ false) (aP E6 (ae (ag 0) (ae (ag 1) ah))) (aP xl (ae (ag 0) ah))))
def xn:List D->Dm D:=dG 2 HL
def E8:Stmt:=top 43
theorem V4:aB ["floor","table"] ["floor","table"] (au E8):=⟨rfl,rfl,rfl,by w_fin,rfl,by w_fin,by w_fin⟩
theorem V5 {f:Addr} {fd:FuncData} (D:Def K mg "is_of_group" E8 ["floor","table"] f fd) (T:Txt mg)  {d5:Addr} {d6:FuncData} (d7:Def K mg "led_by_table" E7 ["floor","table"] d5 d6) (gZ:aC P w K mg base aX 7 d5 d6 ["floor","table"] (a8 K 2 E6)) {fS:Addr} {fT:FuncData} (fU:Def K mg "form_of" Bf ["floor"] fS fT) (iu:aC P w K mg base aX 4 fS fT ["floor"] (a8 K 1 xl)):aC P w K mg base aX 8 f fd ["floor","table"] (a8 K 2 xn):=by
 refine D.F.ok V4 (fun _ _ _ _ h=>h.1) (fun c A o s H v Q E hr h=>?_)
 have hu:=hr.units
 refine ⟨_,(@bh _ _ _ (@c9 _ _ _ _ (vO (Jn hu) (bW gZ d7 hr (by decide) rfl (@aj _ _ _ _ _ (pv 0) (@aj _ _ _ _ _ (pv 1) ax (by rfl)) (by rfl))) (bW iu fU hr (by decide) rfl (@aj _ _ _ _ _ (pv 0) ax (by rfl))) (aO _)))),?_⟩
 exact eE (b:=HL) (dc (aA (AX false) (bU (F:=E6) (ao (ai 0) (ao (ai 1) ay)) dE) (bU (F:=xl) (ao (ai 0) ay) kT))) rfl h
def HM:aq->Dm Fl :=
 (aE (cM (cN (ag 1)) (hName 2) (aH (aP tR (ae (ag 0) (ae (ag 2) ah))) (hName 0)))
 (aW (ag 0)))
def vA:List D->Dm D:=dG 3 HM
def Bk:Stmt:=top 53
theorem K9:aB ["_law_floor_here","_law_word_here","_law_step"] ["_law_floor_here","_law_word_here"] (au Bk):=⟨rfl,rfl,rfl,by w_fin,rfl,by w_fin,by w_fin⟩
theorem V6 {f:Addr} {fd:FuncData} (D:Def K mg "_law_led" Bk ["_law_floor_here","_law_word_here"] f fd) (T:Txt mg)  {b9:Addr} {cb:FuncData} (cc:Def K mg "_law_stepped" A8 ["_law_floor_here","_law_step"] b9 cb) (cC:aC P w K mg base aX 2 b9 cb ["_law_floor_here","_law_step"] (a8 K 2 tR)):aC P w K mg base aX 3 f fd ["_law_floor_here","_law_word_here"] (a8 K 2 vA):=by
 refine D.F.ok K9 (fun _ _ _ _ h=>h.1) (fun c A o s H v Q E hr h=>?_)
 refine ⟨_,(@a9 _ _ _ _ _ (@lU _ _ _ _ _ _ _ _ PassesOwn.never rfl (oX (pv 1)) (c4 (i:=2) K9.nd rfl (by w_up)) (@bh _ _ _ (@bX (i:=0) _ _ _ _ _ _ K9.nd rfl (by w_up) (bW cC cc hr (by decide) rfl (@aj _ _ _ _ _ (pv 0) (@aj _ _ _ _ _ (pv 2) ax (by rfl)) (by rfl))) (by rfl) (by w_up))) (by intro _;rfl))
  (@bh _ _ _ (@c9 _ _ _ _ (pv 0)))),?_⟩
 exact eE (b:=HM) (bg (l8 (pe (ai 1)) (aS 2) (bJ (bU (F:=tR) (ao (ai 0) (ao (ai 2) ay)) dE) (aS 0)))
  (dc (ai 0))) rfl h
def HN:aq->Dm Fl :=
 (aE (aH (cL ah) (hName 1))
 (aE (cM (pX (ae (ag 0) ah)) (l6 2 (cg (hName 2) (cg (hName 3) mN))) (cG (kR "list" bj (ag 1) (ae (bq (ae (ag 2) (ae (av cm (cL (ae (av lS (fC (.int 0)) (ag 3)) (ae (av lS (fC (.int 4)) (ag 3)) ah))) (aP nW (ae (av (jx false) (ag 2) (fC (.str "t"))) ah))) ah))) ah))))
 (aW (aP bG (ae (ag 1) ah)))))
def E9:List D->Dm D:=dG 4 HN
def Fb:Stmt:=top 61
theorem HP:aB ["_law_word_here","_law_found","_law_letter","_law_k"] ["_law_word_here"] (au Fb):=⟨rfl,rfl,rfl,by w_fin,rfl,by w_fin,by w_fin⟩
theorem V7 {f:Addr} {fd:FuncData} (D:Def K mg "_law_back" Fb ["_law_word_here"] f fd) (T:Txt mg)  :aC P w K mg base aX 1 f fd ["_law_word_here"] (a8 K 1 E9):=by
 refine D.F.ok HP (fun _ _ _ _ h=>h.1) (fun c A o s H v Q E hr h=>?_)
 refine ⟨_,(@a9 _ _ _ _ _ (@bX (i:=1) _ _ _ _ _ _ HP.nd rfl (by w_up) (@kO _ _ _ _ ax) (by rfl) (by w_up))
  (@a9 _ _ _ _ _ (@lU _ _ _ _ _ _ _ _ PassesOwn.never rfl (M6 rfl T.nZ (@aj _ _ _ _ _ (pv 0) ax (by rfl))) (sr (n:=2) rfl (mZ (c4 (i:=2) HP.nd rfl (by w_up)) (mZ (c4 (i:=3) HP.nd rfl (by w_up)) sj))) (@bh _ _ _ (p9 (pI PySem.F.plainAttrs_list PySem.F.slot_list_append PySem.F.type_list_append qc (pv 1) (@aj _ _ _ _ _ (@eJ _ _ _ _ _ (@aj _ _ _ _ _ (pv 2) (@aj _ _ _ _ _ (@a7 _ _ _ _ _ _ _ lV (@kO _ _ _ _ (@aj _ _ _ _ _ (bz uI aJ (pv 3)) (@aj _ _ _ _ _ (bz uI aJ (pv 3)) ax (by rfl)) (by rfl))) (fG IJ (by rfl) T.tP Jk (@aj _ _ _ _ _ (vO oi (pv 2) oV (aO _)) ax (by rfl))) (fun _ _=>rfl)) ax (by rfl)) (by rfl))) ax (by rfl))))) (by intro _;rfl))
  (@bh _ _ _ (@c9 _ _ _ _ (fG oB (by rfl) T.bw oj (@aj _ _ _ _ _ (pv 1) ax (by rfl))))))),?_⟩
 exact eE (b:=HN) (bg (bJ (kQ ay) (aS 1))
  (bg (l8 (OE (ao (ai 0) ay)) (tG (m9 (aS 2) (m9 (aS 3) tD))) (ql (oE qk (ai 1) (ao (eM (ao (ai 2) (ao (aA kg (kQ (ao (aA u6 (aK _) (ai 3)) (ao (aA u6 (aK _) (ai 3)) ay))) (cu Kq (ao (aA oy (ai 2) (o8 _)) ay))) ay))) ay))))
  (dc (cu oz (ao (ai 1) ay))))) rfl h
def HQ:aq->Dm Fl :=
 (aE (h8 (aN (av (jx false) (aP ki (ae (ag 0) (ae (fC (.int 2)) ah))) (fC (.int 0)))) (aE (aH (aP pN (ae (aP vA (ae (ag 1) (ae (ag 3) ah))) ah)) (hName 4))
 (aH (av ip (ag 3) (aP E9 (ae (av cm (cO (cN (ag 2)) 1 [4] (hName 0) (aN (av (kJ false) (av aM (ag 0) (fC (.int 0))) (ag 1))) (av aM (ag 0) (fC (.int 1)))) (fC (.int 0))) ah))) (hName 3))) bx)
 (aW (ag 3)))
def Fc:List D->Dm D:=dG 5 HQ
def Fe:Stmt:=top 62
theorem La:aB ["_law_feed_here","_law_floor_here","_law_chart_here","_law_word_here","_law_goal"] ["_law_feed_here","_law_floor_here","_law_chart_here","_law_word_here"] (au Fe):=⟨rfl,rfl,rfl,by w_fin,rfl,by w_fin,by w_fin⟩
theorem V8 {f:Addr} {fd:FuncData} (D:Def K mg "_law_home" Fe ["_law_feed_here","_law_floor_here","_law_chart_here","_law_word_here"] f fd) (T:Txt mg)  {aQ:Addr} {aR:FuncData} (aI:Def K mg "_law_take" uw ["_law_feed_here","_law_many"] aQ aR) (aL:aC P w K mg base aX 1 aQ aR ["_law_feed_here","_law_many"] (a8 K 2 ki)) {b7:Addr} {b8:FuncData} (bH:Def K mg "_law_form" zV ["_law_floor_here"] b7 b8) (bN:aC P w K mg base aX 2 b7 b8 ["_law_floor_here"] (a8 K 1 pN)) {dP:Addr} {dQ:FuncData} (dR:Def K mg "_law_led" Bk ["_law_floor_here","_law_word_here"] dP dQ) (fJ:aC P w K mg base aX 3 dP dQ ["_law_floor_here","_law_word_here"] (a8 K 2 vA)) {iZ:Addr} {i5:FuncData} (i6:Def K mg "_law_back" Fb ["_law_word_here"] iZ i5) (lz:aC P w K mg base aX 1 iZ i5 ["_law_word_here"] (a8 K 1 E9)):aC P w K mg base aX 4 f fd ["_law_feed_here","_law_floor_here","_law_chart_here","_law_word_here"] (a8 K 4 Fc):=by
 refine D.F.ok La (fun _ _ _ _ h=>h.1) (fun c A o s H v Q E hr h=>?_)
 have hu:=hr.units
 refine ⟨_,(@a9 _ _ _ _ _ (@kG _ _ _ _ _ _ _ _ (gk oi (bW aL aI hr (by decide) rfl (@aj _ _ _ _ _ (pv 0) (@aj _ _ _ _ _ aJ ax (by rfl)) (by rfl))) aJ (aO _)) (@a9 _ _ _ _ _ (@bX (i:=4) _ _ _ _ _ _ La.nd rfl (by w_up) (bW bN bH hr (by decide) rfl (@aj _ _ _ _ _ (bW fJ dR hr (by decide) rfl (@aj _ _ _ _ _ (pv 1) (@aj _ _ _ _ _ (pv 3) ax (by rfl)) (by rfl))) ax (by rfl))) (by rfl) (by w_up))
  (@bh _ _ _ (@bX (i:=3) _ _ _ _ _ _ La.nd rfl (by w_up) (bz uM (pv 3) (bW lz i6 hr (by decide) rfl (@aj _ _ _ _ _ (@a7 _ _ _ _ _ _ _ lV (qG (own:=["_law_row"]) (fr:=["_law_goal"]) (js:=[4]) rfl ⟨⟨rfl,by w_fin,by w_fin,by dsimp only [gi,aT,Cx.oI,Cx.wish,PyProof.Rows.envOfC,compEnvC,relabel,Env.kindOf];decide +kernel,by w_fin⟩,rfl⟩ (oX (pv 2)) (fun _ _ _ _ _=>(c4 (i:=0) (show ((["_law_row"]:List Str) ++ (["_law_goal"]:List Str)).Nodup by w_fin) rfl (by w_up))) (fun _ _ _ _ _=>(Js (gk (Q7 (K:=K) rfl hu) (@a7 _ _ _ _ _ _ _ (wj (K:=K) rfl) (pv 0) aJ (fun _ _=>rfl)) (pv 1) (aO _)))) (fun _ _ _ _ _=>(@a7 _ _ _ _ _ _ _ (wj (K:=K) rfl) (pv 0) aJ (fun _ _=>rfl)))) aJ (fun _ _=>rfl)) ax (by rfl)))) (by rfl) (by w_up)))) lM)
  (@bh _ _ _ (@c9 _ _ _ _ (pv 3)))),?_⟩
 exact eE (b:=HQ) (bg (kK (gj (aA oy (bU (F:=ki) (ao (ai 0) (ao (aK _) ay)) dE) (aK _))) (bg (bJ (bU (F:=pN) (ao (bU (F:=vA) (ao (ai 1) (ao (ai 3) ay)) dE) ay) kT) (aS 4))
  (bJ (aA u7 (ai 3) (bU (F:=E9) (ao (aA kg (p7 (pe (ai 2)) (aS 0) (gj (aA (AX false) (aA bQ (ai 0) (aK _)) (ai 1))) (aA bQ (ai 0) (aK _))) (aK _)) ay) kT)) (aS 3))) lQ)
  (dc (ai 3))) rfl h
def HR:aq->Dm Fl :=
 (aW (bq (ae (av aM (ag 0) (fC (.int 3))) (ae (av lS (fC (.int 0)) (av aM (ag 0) (fC (.int 1)))) (ae (av lS (fC (.int 0)) (av aM (ag 0) (fC (.int 2)))) (ae (av aM (ag 0) (fC (.int 0))) ah))))))
def Bl:List D->Dm D:=dG 1 HR
def Ff:Stmt:=top 64
theorem V9:aB ["_law_table_here"] ["_law_table_here"] (au Ff):=⟨rfl,rfl,rfl,by w_fin,rfl,by w_fin,by w_fin⟩
theorem Wa {f:Addr} {fd:FuncData} (D:Def K mg "_law_undone" Ff ["_law_table_here"] f fd) (T:Txt mg)  :aC P w K mg base aX 1 f fd ["_law_table_here"] (a8 K 1 Bl):=by
 refine D.F.ok V9 (fun _ _ _ _ h=>h.1) (fun c A o s H v Q E hr h=>?_)
 refine ⟨_,(@bh _ _ _ (@c9 _ _ _ _ (@eJ _ _ _ _ _ (@aj _ _ _ _ _ (@a7 _ _ _ _ _ _ _ cj (pv 0) aJ (fun _ _=>rfl)) (@aj _ _ _ _ _ (bz uI aJ (@a7 _ _ _ _ _ _ _ cj (pv 0) aJ (fun _ _=>rfl))) (@aj _ _ _ _ _ (bz uI aJ (@a7 _ _ _ _ _ _ _ cj (pv 0) aJ (fun _ _=>rfl))) (@aj _ _ _ _ _ (@a7 _ _ _ _ _ _ _ cj (pv 0) aJ (fun _ _=>rfl)) ax (by rfl)) (by rfl)) (by rfl)) (by rfl))))),?_⟩
 exact eE (b:=HR) (dc (eM (ao (aA bQ (ai 0) (aK _)) (ao (aA u6 (aK _) (aA bQ (ai 0) (aK _))) (ao (aA u6 (aK _) (aA bQ (ai 0) (aK _))) (ao (aA bQ (ai 0) (aK _)) ay)))))) rfl h
def HS:aq->Dm Fl :=
 (aE (aH (aP zU (ae (ag 0) (ae (fC (.int 1)) ah))) (hName 1))
 (aE (aH (aP D3 (ae (ag 1) (ae (fC (.int 30)) ah))) (l6 2 (cg (hName 2) (cg (hName 3) mN))))
 (aE (aH (aP D6 (ae (ag 2) (ae (aP ux (ae (ag 1) (ae (aP dg (ae (av aM (ag 2) (fC (.int 0))) ah)) ah))) ah))) (hName 4))
 (aE (aH (aP uy (ae (ag 1) (ae (aP dg (ae (av aM (ag 2) (fC (.int 0))) ah)) ah))) (hName 5))
 (aE (aH (cL (ae (bq (ae (bq (ae (fC (.str "t")) (ae (fC (.int 2)) ah))) ah)) ah)) (hName 6))
 (aE (cM (ph (ae (fC (.int 2)) (ae (aP qR (ae (fC (.int 6)) (ae (aP qS (ae (fC (.int 10)) (ae (aP dg (ae (ag 0) ah)) ah))) ah))) ah))) (hName 7) (aE (aH (aP zU (ae (ag 0) (ae (ag 7) ah))) (hName 1))
 (aE (aH (av nU (aP ki (ae (ag 1) (ae (fC (.int 8)) ah))) (fC (.int 7))) (hName 8))
 (aE (aH (aP D8 (ae (ag 1) (ae (av cm (cL (ae (fC (.int 6)) (ae (fC (.int 2)) ah))) (ag 8)) (ae (av cm (cL (ae (fC (.int 5)) (ae (fC (.int 900)) ah))) (ag 8)) ah)))) (hName 9))
 (cG (kR "list" bj (ag 6) (ae (aP Fc (ae (ag 1) (ae (ag 2) (ae (ag 3) (ae (ag 9) ah))))) ah)))))))
 (aE (cM (kY (av nV (ag 6) (AL tm (ag 6) lY (oM (fC (.int 2)))))) (hName 9) (aE (aH (aP Ec (ae (ag 9) ah)) (hName 10))
 (h8 (aN (av Km (aP oQ (ae (cO (cN (ag 10)) 1 [] (hName 0) di (aP vh (ae (ag 0) ah))) ah)) (fC (.int 1000000)))) (cM (cN (bq (ae (ag 2) (ae (ag 5) (ae (ag 4) (ae (ag 2) ah)))))) (hName 11) (aE (aH (av (kJ false) (aP pN (ae (aP vA (ae (ag 11) (ae (ag 9) ah))) ah)) (aP pN (ae (ag 11) ah))) (hName 12))
 (cM (cN (bq (ae (ag 10) (ae (aP Bl (ae (ag 10) ah)) ah)))) (hName 13) (aE (aH (aP xn (ae (ag 11) (ae (ag 13) ah))) (hName 14))
 (h8 (C4 (rK (aN (aP qu (ae (ag 14) (ae (fC (.ty "bool")) ah))))) (aN (av (jx true) (ag 14) (ag 12)))) (aW (fC (.bl false))) bx))))) bx)))
 (aW (av (vg false) (aP xn (ae (ag 2) (ae (bq (ae (fC (.int 1)) (ae (fC (.int 0)) (ae (fC (.int 0)) (ae (fC (.int 1)) ah))))) ah))) (fC (.bl true)))))))))))
def Lb:List D->Dm D:=dG 15 HS
def HU:Stmt:=top 65
theorem pY:aB ["_law_script","_law_feed_here","_law_floor_here","_law_chart_here","_law_near","_law_other","_law_words","_law_k","_law_great","_law_word_here","_law_table_here","_law_here","_law_due","_law_some","_law_found"] ["_law_script"] (au HU):=⟨rfl,rfl,rfl,by w_fin,rfl,by w_fin,by w_fin⟩
theorem Aa {f:Addr} {fd:FuncData} (D:Def K mg "law" HU ["_law_script"] f fd) (T:Txt mg)  {i7:Addr} {i9:FuncData} (fV:Def K mg "_law_feed" DT ["_law_script","_law_k"] i7 i9) (ja:aC P w K mg base aX 1 i7 i9 ["_law_script","_law_k"] (a8 K 2 zU)) {kD:Addr} {kE:FuncData} (kF:Def K mg "_law_own" D4 ["_law_feed_here","_law_most"] kD kE) (mS:aC P w K mg base aX 4 kD kE ["_law_feed_here","_law_most"] (a8 K 2 D3)) {jb:Addr} {jc:FuncData} (jd:Def K mg "_law_anew" D7 ["_law_floor_here","_law_p"] jb jc) (lA:aC P w K mg base aX 1 jb jc ["_law_floor_here","_law_p"] (a8 K 2 D6)) {cP:Addr} {cQ:FuncData} (cw:Def K mg "_law_floor" A6 ["_law_feed_here","_law_n"] cP cQ) (cR:aC P w K mg base aX 3 cP cQ ["_law_feed_here","_law_n"] (a8 K 2 uy)) {bZ:Addr} {b5:FuncData} (bL:Def K mg "_law_turning" A5 ["_law_feed_here","_law_n"] bZ b5) (b6:aC P w K mg base aX 2 bZ b5 ["_law_feed_here","_law_n"] (a8 K 2 ux)) {je:Addr} {jf:FuncData} (jg:Def K mg "_law_word" D9 ["_law_feed_here","_law_most","_law_great"] je jf) (lB:aC P w K mg base aX 2 je jf ["_law_feed_here","_law_most","_law_great"] (a8 K 3 D8)) {gO:Addr} {gP:FuncData} (gQ:Def K mg "_law_table" Ed ["_law_word_here"] gO gP) (jW:aC P w K mg base aX 2 gO gP ["_law_word_here"] (a8 K 1 Ec)) {fz:Addr} {fA:FuncData} (dB:Def K mg "is_of_group" E8 ["floor","table"] fz fA) (fB:aC P w K mg base aX 8 fz fA ["floor","table"] (a8 K 2 xn)) {aQ:Addr} {aR:FuncData} (aI:Def K mg "_law_take" uw ["_law_feed_here","_law_many"] aQ aR) (aL:aC P w K mg base aX 1 aQ aR ["_law_feed_here","_law_many"] (a8 K 2 ki)) {jh:Addr} {ji:FuncData} (jk:Def K mg "_law_home" Fe ["_law_feed_here","_law_floor_here","_law_chart_here","_law_word_here"] jh ji) (lC:aC P w K mg base aX 4 jh ji ["_law_feed_here","_law_floor_here","_law_chart_here","_law_word_here"] (a8 K 4 Fc)) {b7:Addr} {b8:FuncData} (bH:Def K mg "_law_form" zV ["_law_floor_here"] b7 b8) (bN:aC P w K mg base aX 2 b7 b8 ["_law_floor_here"] (a8 K 1 pN)) {fD:Addr} {fE:FuncData} (fF:Def K mg "_law_undone" Ff ["_law_table_here"] fD fE) (jl:aC P w K mg base aX 1 fD fE ["_law_table_here"] (a8 K 1 Bl)) {dP:Addr} {dQ:FuncData} (dR:Def K mg "_law_led" Bk ["_law_floor_here","_law_word_here"] dP dQ) (fJ:aC P w K mg base aX 3 dP dQ ["_law_floor_here","_law_word_here"] (a8 K 2 vA)):aC P w K mg base aX 9 f fd ["_law_script"] (a8 K 1 Lb):=by
 refine D.F.ok pY (fun _ _ _ _ h=>h.1) (fun c A o s H v Q E hr h=>?_)
 have hu:=hr.units
 refine ⟨_,(@a9 _ _ _ _ _ (@bX (i:=1) _ _ _ _ _ _ pY.nd rfl (by w_up) (bW ja fV hr (by decide) rfl (@aj _ _ _ _ _ (pv 0) (@aj _ _ _ _ _ aJ ax (by rfl)) (by rfl))) (by rfl) (by w_up))
  (@a9 _ _ _ _ _ (uc (bW mS kF hr (by decide) rfl (@aj _ _ _ _ _ (pv 1) (@aj _ _ _ _ _ aJ ax (by rfl)) (by rfl))) (sr (n:=2) rfl (mZ (c4 (i:=2) pY.nd rfl (by w_up)) (mZ (c4 (i:=3) pY.nd rfl (by w_up)) sj))))
  (@a9 _ _ _ _ _ (@bX (i:=4) _ _ _ _ _ _ pY.nd rfl (by w_up) (bW lA jd hr (by decide) rfl (@aj _ _ _ _ _ (pv 2) (@aj _ _ _ _ _ (bW b6 bL hr (by decide) rfl (@aj _ _ _ _ _ (pv 1) (@aj _ _ _ _ _ (ke mD (by rfl) T.cq mF (@aj _ _ _ _ _ (@a7 _ _ _ _ _ _ _ cj (pv 2) aJ (fun _ _=>rfl)) ax (by rfl))) ax (by rfl)) (by rfl))) ax (by rfl)) (by rfl))) (by rfl) (by w_up))
  (@a9 _ _ _ _ _ (@bX (i:=5) _ _ _ _ _ _ pY.nd rfl (by w_up) (bW cR cw hr (by decide) rfl (@aj _ _ _ _ _ (pv 1) (@aj _ _ _ _ _ (ke mD (by rfl) T.cq mF (@aj _ _ _ _ _ (@a7 _ _ _ _ _ _ _ cj (pv 2) aJ (fun _ _=>rfl)) ax (by rfl))) ax (by rfl)) (by rfl))) (by rfl) (by w_up))
  (@a9 _ _ _ _ _ (@bX (i:=6) _ _ _ _ _ _ pY.nd rfl (by w_up) (@kO _ _ _ _ (@aj _ _ _ _ _ (@eJ _ _ _ _ _ (@aj _ _ _ _ _ (@eJ _ _ _ _ _ (@aj _ _ _ _ _ oV (@aj _ _ _ _ _ aJ ax (by rfl)) (by rfl))) ax (by rfl))) ax (by rfl))) (by rfl) (by w_up))
  (@a9 _ _ _ _ _ (@lU _ _ _ _ _ _ _ _ PassesOwn.never rfl (P7 rfl T.aU (@aj _ _ _ _ _ aJ (@aj _ _ _ _ _ (ke (Qc rfl) (by rfl) T.xk MI (@aj _ _ _ _ _ aJ (@aj _ _ _ _ _ (ke (Qd rfl) (by rfl) T.tQ Jl (@aj _ _ _ _ _ aJ (@aj _ _ _ _ _ (ke mD (by rfl) T.cq mF (@aj _ _ _ _ _ (pv 0) ax (by rfl))) ax (by rfl)) (by rfl))) ax (by rfl)) (by rfl))) ax (by rfl)) (by rfl))) (c4 (i:=7) pY.nd rfl (by w_up)) (@a9 _ _ _ _ _ (@bX (i:=1) _ _ _ _ _ _ pY.nd rfl (by w_up) (bW ja fV hr (by decide) rfl (@aj _ _ _ _ _ (pv 0) (@aj _ _ _ _ _ (pv 7) ax (by rfl)) (by rfl))) (by rfl) (by w_up))
  (@a9 _ _ _ _ _ (@bX (i:=8) _ _ _ _ _ _ pY.nd rfl (by w_up) (bz FL (bW aL aI hr (by decide) rfl (@aj _ _ _ _ _ (pv 1) (@aj _ _ _ _ _ aJ ax (by rfl)) (by rfl))) aJ) (by rfl) (by w_up))
  (@a9 _ _ _ _ _ (@bX (i:=9) _ _ _ _ _ _ pY.nd rfl (by w_up) (bW lB jg hr (by decide) rfl (@aj _ _ _ _ _ (pv 1) (@aj _ _ _ _ _ (@a7 _ _ _ _ _ _ _ lV (@kO _ _ _ _ (@aj _ _ _ _ _ aJ (@aj _ _ _ _ _ aJ ax (by rfl)) (by rfl))) (pv 8) (fun _ _=>rfl)) (@aj _ _ _ _ _ (@a7 _ _ _ _ _ _ _ lV (@kO _ _ _ _ (@aj _ _ _ _ _ aJ (@aj _ _ _ _ _ aJ ax (by rfl)) (by rfl))) (pv 8) (fun _ _=>rfl)) ax (by rfl)) (by rfl)) (by rfl))) (by rfl) (by w_up))
  (@bh _ _ _ (p9 (pI PySem.F.plainAttrs_list PySem.F.slot_list_append PySem.F.type_list_append qc (pv 6) (@aj _ _ _ _ _ (bW lC jk hr (by decide) rfl (@aj _ _ _ _ _ (pv 1) (@aj _ _ _ _ _ (pv 2) (@aj _ _ _ _ _ (pv 3) (@aj _ _ _ _ _ (pv 9) ax (by rfl)) (by rfl)) (by rfl)) (by rfl))) ax (by rfl)))))))) (by intro _;rfl))
  (@a9 _ _ _ _ _ (@lU _ _ _ _ _ _ _ _ PassesOwn.never rfl (FI (bz vX (pv 6) (IW Mu (pv 6) IU (IV aJ)))) (c4 (i:=9) pY.nd rfl (by w_up)) (@a9 _ _ _ _ _ (@bX (i:=10) _ _ _ _ _ _ pY.nd rfl (by w_up) (bW jW gQ hr (by decide) rfl (@aj _ _ _ _ _ (pv 9) ax (by rfl))) (by rfl) (by w_up))
  (@bh _ _ _ (@kG _ _ _ _ _ _ _ _ (gk BS (ke (RG rfl) (by rfl) T.xk MI (@aj _ _ _ _ _ (qG (own:=["_law_one"]) (fr:=[]) (js:=[]) rfl ⟨⟨rfl,by w_fin,by w_fin,by dsimp only [gi,aT,Cx.oI,Cx.wish,PyProof.Rows.envOfC,compEnvC,relabel,Env.kindOf];decide +kernel,by w_fin⟩,rfl⟩ (oX (pv 10)) (fun _ _ _ _ _=>(c4 (i:=0) (show ((["_law_one"]:List Str) ++ ([]:List Str)).Nodup by w_fin) rfl (by w_up))) (fun _ _ _ _ _=>rC) (fun _ _ _ _ _=>(ke Qb (by rfl) T.DS yc (@aj _ _ _ _ _ (pv 0) ax (by rfl))))) ax (by rfl))) aJ (aO _)) (@bh _ _ _ (@lU _ _ _ _ _ _ _ _ PassesOwn.never rfl (oX (@eJ _ _ _ _ _ (@aj _ _ _ _ _ (pv 2) (@aj _ _ _ _ _ (pv 5) (@aj _ _ _ _ _ (pv 4) (@aj _ _ _ _ _ (pv 2) ax (by rfl)) (by rfl)) (by rfl)) (by rfl)))) (c4 (i:=11) pY.nd rfl (by w_up)) (@a9 _ _ _ _ _ (@bX (i:=12) _ _ _ _ _ _ pY.nd rfl (by w_up) (vO (Jn hu) (bW bN bH hr (by decide) rfl (@aj _ _ _ _ _ (bW fJ dR hr (by decide) rfl (@aj _ _ _ _ _ (pv 11) (@aj _ _ _ _ _ (pv 9) ax (by rfl)) (by rfl))) ax (by rfl))) (bW bN bH hr (by decide) rfl (@aj _ _ _ _ _ (pv 11) ax (by rfl))) (aO _)) (by rfl) (by w_up))
  (@bh _ _ _ (@lU _ _ _ _ _ _ _ _ PassesOwn.never rfl (oX (@eJ _ _ _ _ _ (@aj _ _ _ _ _ (pv 10) (@aj _ _ _ _ _ (bW jl fF hr (by decide) rfl (@aj _ _ _ _ _ (pv 10) ax (by rfl))) ax (by rfl)) (by rfl)))) (c4 (i:=13) pY.nd rfl (by w_up)) (@a9 _ _ _ _ _ (@bX (i:=14) _ _ _ _ _ _ pY.nd rfl (by w_up) (bW fB dB hr (by decide) rfl (@aj _ _ _ _ _ (pv 11) (@aj _ _ _ _ _ (pv 13) ax (by rfl)) (by rfl))) (by rfl) (by w_up))
  (@bh _ _ _ (@kG _ _ _ _ _ _ _ _ (PW.pt (pw_or (LX (LV (ke Uv (by rfl) T.pz QN (@aj _ _ _ _ _ (pv 14) (@aj _ _ _ _ _ (P0 (v:=.ty "bool") rfl T.zT QM rfl) ax (by rfl)) (by rfl))))) (pw_or1 (gk BQ (pv 14) (pv 12) (aO _))))) (@bh _ _ _ (@c9 _ _ _ _ IB)) lM))) (by intro _;rfl)))) (by intro _;rfl))) lM))) (by intro _;rfl))
  (@bh _ _ _ (@c9 _ _ _ _ (vO zC (bW fB dB hr (by decide) rfl (@aj _ _ _ _ _ (pv 2) (@aj _ _ _ _ _ (@eJ _ _ _ _ _ (@aj _ _ _ _ _ aJ (@aj _ _ _ _ _ aJ (@aj _ _ _ _ _ aJ (@aj _ _ _ _ _ aJ ax (by rfl)) (by rfl)) (by rfl)) (by rfl))) ax (by rfl)) (by rfl))) IB (aO _))))))))))),?_⟩
 exact eE (b:=HS) (bg (bJ (bU (F:=zU) (ao (ai 0) (ao (aK _) ay)) dE) (aS 1))
  (bg (bJ (bU (F:=D3) (ao (ai 1) (ao (aK _) ay)) dE) (tG (m9 (aS 2) (m9 (aS 3) tD))))
  (bg (bJ (bU (F:=D6) (ao (ai 2) (ao (bU (F:=ux) (ao (ai 1) (ao (cu mL (ao (aA bQ (ai 2) (aK _)) ay)) ay)) dE) ay)) dE) (aS 4))
  (bg (bJ (bU (F:=uy) (ao (ai 1) (ao (cu mL (ao (aA bQ (ai 2) (aK _)) ay)) ay)) dE) (aS 5))
  (bg (bJ (kQ (ao (eM (ao (eM (ao (o8 _) (ao (aK _) ay))) ay)) ay)) (aS 6))
  (bg (l8 (S0 (ao (aK _) (ao (cu SR (ao (aK _) (ao (cu SS (ao (aK _) (ao (cu mL (ao (ai 0) ay)) ay))) ay))) ay))) (aS 7) (bg (bJ (bU (F:=zU) (ao (ai 0) (ao (ai 7) ay)) dE) (aS 1))
  (bg (bJ (aA Gq (bU (F:=ki) (ao (ai 1) (ao (aK _) ay)) dE) (aK _)) (aS 8))
  (bg (bJ (bU (F:=D8) (ao (ai 1) (ao (aA kg (kQ (ao (aK _) (ao (aK _) ay))) (ai 8)) (ao (aA kg (kQ (ao (aK _) (ao (aK _) ay))) (ai 8)) ay))) K5) (aS 9))
  (ql (oE qk (ai 6) (ao (bU (F:=Fc) (ao (ai 1) (ao (ai 2) (ao (ai 3) (ao (ai 9) ay)))) UY) ay)))))))
  (bg (l8 (Gw (aA wX (ai 6) (Kl NY (ai 6) Kj (Kk (aK _))))) (aS 9) (bg (bJ (bU (F:=Ec) (ao (ai 9) ay) kT) (aS 10))
  (kK (gj (aA C8 (cu UG (ao (p7 (pe (ai 10)) (aS 0) rP (cu zB (ao (ai 0) ay))) ay)) (aK _))) (l8 (pe (eM (ao (ai 2) (ao (ai 5) (ao (ai 4) (ao (ai 2) ay)))))) (aS 11) (bg (bJ (aA (AX false) (bU (F:=pN) (ao (bU (F:=vA) (ao (ai 11) (ao (ai 9) ay)) dE) ay) kT) (bU (F:=pN) (ao (ai 11) ay) kT)) (aS 12))
  (l8 (pe (eM (ao (ai 10) (ao (bU (F:=Bl) (ao (ai 10) ay) kT) ay)))) (aS 13) (bg (bJ (bU (F:=xn) (ao (ai 11) (ao (ai 13) ay)) dE) (aS 14))
  (kK (C5 (NW (Kh (cu zJ (ao (ai 14) (ao (C2 _) ay))))) (gj (aA Dc (ai 14) (ai 12)))) (dc (Kf _)) lQ))))) lQ)))
  (dc (aA (zz false) (bU (F:=xn) (ao (ai 2) (ao (eM (ao (aK _) (ao (aK _) (ao (aK _) (ao (aK _) ay))))) ay)) dE) (Kf _)))))))))) rfl h
end
theorem rR {st:Store} {f:Nat} {n:Int} (hf:bp st f) (h0:0 < n) (h1:n < 1073741824):Wp (ki [.ref f,.int n] st) fun d st'=>∃ k:Int,d=.int k/\0<=k/\k < n/\bp st' f/\Ex [f] st st':=by
 obtain ⟨o,m,e,o0,m0,m1⟩:=hf
 have hfl:=eV e
 refine eo ?_
 show Ws (GN [some (.ref f),some (.int n),none,none] st) _ _ _ _
 unfold GN
 refine a5 (jD ?_)
 set_option simprocs false in simp only [bF,cv e,kZ e]
 refine ⟨fun ho=>?_,fun ho=>?_⟩
 ·refine a5 (bR ?_)
  set_option simprocs false in simp only [bF,cv e]
  refine ⟨h0,a5 (rY ?_)⟩
  set_option simprocs false in simp only [bF,cv e,kZ e,(show m8 [D.int o,D.int m].length 0=some 0 from DF)]
  refine ⟨⟨h0,h1⟩,de ?_⟩
  w_how
  refine ⟨Y3 _ (by omega),Ze _ h0,⟨o / n,m,?_,Int.ediv_nonneg o0 (by omega),m0,m1⟩,Ex.refl.put (by simp)⟩
  rw [Yj hfl]
 ·refine kS (a5 (bR ?_))
  set_option simprocs false in simp only [bF,cv e]
  refine ⟨by omega,by omega,a5 (rY ?_)⟩
  set_option simprocs false in simp only [bF,cv e,kZ e,(show m8 [D.int o,D.int m].length 1=some 1 from DG)]
  refine ⟨by omega,by omega,de ?_⟩
  have e2:(st.set f (.lst [.int o,.int ((m * 48271 % 2147483647 * 40692 + 30103) % 2147483399 + 1)]))[f]?=some (.lst [.int o,.int ((m * 48271 % 2147483647 * 40692 + 30103) % 2147483399 + 1)]):=Yj hfl
  set_option simprocs false in simp only [bF,cv e2]
  refine ⟨by omega,by omega,h0,Y3 _ (by omega),Ze _ h0,⟨_,_,e2,o0,by omega,by omega⟩,Ex.refl.put (by simp)⟩
theorem OW {st:Store} {a:Nat} {ns:List Int} {k:Nat} (hs:items st a=some (ns.map D.int)) (hk:k<=100):Wp (zU [.ref a,.int (k:Int)] st) fun d st'=>d=.ref st.length/\bp st' st.length/\Ex [] st st':=by
 refine eo ?_
 show Ws (GL [some (.ref a),some (.int (k:Int)),none,none] st) _ _ _ _
 unfold GL
 refine a5 (bR ?_)
 w_how
 refine ⟨by omega,a5 (y8 (N:=fun δ st1=>st1=st/\∃ c:Int,δ=[some (.ref a),some (.int (k:Int)),some (.int c),none]) (jD ?_) ?_)⟩
 ·set_option simprocs false in simp only [bF,hs]
  refine ⟨fun h=>bR ?_,fun h=>jD ?_⟩
  ·have h:=of_decide_eq_true h
   rw [X9] at h
   set_option simprocs false in simp only [bF,hs]
   refine ⟨.int (ns[k]'(by omega)),Av (by rw [Yi,Yb];rfl),_,rfl⟩
  ·set_option simprocs false in simp only [bF,hs]
   refine ⟨fun h=>bR ?_,fun h=>kS ⟨rfl,_,rfl⟩⟩
   have h:=of_decide_eq_true h
   obtain ⟨v,hv,hm⟩:=x9 (xs:=ns.map D.int) (i:=(k:Int) % ((ns.map D.int).length:Int)) (Y3 _ (by omega)) (Ze _ h)
   obtain ⟨c,_,rfl⟩:=Yt.mp hm
   set_option simprocs false in simp only [bF,hs]
   refine ⟨h,_,hv,?_⟩
   w_how
   exact ⟨by omega,by omega,by omega,_,rfl⟩
 ·rintro δ st1 ⟨rfl,c,rfl⟩
  refine a5 (bR ?_)
  w_how
  refine a5 (y8 (N:=fun δ st2=>st2=st1/\∃ o:Int,0<=o/\δ=[some (.ref a),some (.int (k:Int)),some (.int c),some (.int o)]) (jD ?_) ?_)
  ·w_how
   refine ⟨by decide,fun h=>bR ?_,fun h=>kS ⟨rfl,0,by decide,rfl⟩⟩
   have h:=of_decide_eq_true h
   w_how
   exact ⟨c,Int.le_trans (by decide) h,rfl⟩
  ·rintro δ st2 ⟨rfl,o,o0,rfl⟩
   refine de ?_
   w_how
   have h1:0<=c % 2147483629:=Y3 _ (by decide)
   have h2:c % 2147483629 < 2147483629:=Ze _ (by decide)
   refine ⟨by omega,by omega,by omega,by omega,by omega,by rfl,⟨_,_,jE,o0,?_,?_⟩,Ex.cn _⟩
   ·have:=Y3 ((c % 2147483629 * 48271 + 40692 * (k:Int)) ^ (5:Int).toNat) (show (2147483629:Int)≠0 by decide)
    omega
   ·have:=Ze ((c % 2147483629 * 48271 + 40692 * (k:Int)) ^ (5:Int).toNat) (show (0:Int) < 2147483629 by decide)
    omega
theorem Lc {st:Store} {f:Nat} {n:Nat} (hf:bp st f) (hn:n<=100):Wp (ux [.ref f,.int (n:Int)] st) fun d st'=>∃ xs:List Int,d=.tup (xs.map D.int)/\af.Tn n xs/\bp st' f/\Ex [f] st st':=by
 have hfl:=hf.lt
 refine eo ?_
 show Ws (GO [some (.ref f),some (.int (n:Int)),none,none] st) _ _ _ _
 unfold GO
 refine a5 (bR ?_)
 w_how
 have e1:((n:Int) - 0).toNat=n:=by omega
 rw [e1,qo]
 refine ⟨by unfold rN;rw [YA,decide_eq_true_eq];exact ⟨by omega,jz (by omega)⟩,a5 (bR ?_)⟩
 w_how
 refine ⟨rfl,a5 (y9 (fun m δ st2=>∃ L xs:List Int,m=L.length/\δ=[some (.ref f),some (.int (n:Int)),some (.ref (st ++ [O.jH 0 (n:Int)]).length),some (.tup (xs.map D.int))]/\st2[(st ++ [O.jH 0 (n:Int)]).length]?=some (.lst (L.map D.int))/\(xs ++ L).Perm (af.upto n)/\bp st2 f/\Ex [f] st st2) n (YZ hn (by decide)) ⟨af.upto n,[],(af.pS n).symm,rfl,jE,List.Perm.refl _,hf.keep ((Ex.cn _).app _),(Ex.cn _).app _⟩ ?_)⟩
 have hl:(st ++ [O.jH 0 (n:Int)]).length≠f:=by rw [Yc];omega
 have hls:st.length<=(st ++ [O.jH 0 (n:Int)]).length:=by rw [Yc];omega
 generalize (st ++ [O.jH 0 (n:Int)]).length=l at hl hls ⊢
 rintro m δ st2 ⟨L,xs,rfl,rfl,hL,pm,hf2,k2⟩
 have hlen:(xs ++ L).length=n:=by rw [pm.length_eq,af.pS]
 rw [Yc] at hlen
 refine bS ?_
 intro df hQ
 set_option simprocs false in simp only [bF,Oj (L:=L) (M:=[]) (st:=st2 ++ [O.lst []]) (cv (jP hL)) rZ]
 refine ⟨rfl,hQ _ _ ⟨fun h=>?_,fun h=>?_⟩⟩
 ·have hne:L≠[]:=by simpa using h
  have hpos:0 < L.length:=List.length_pos_iff.mpr hne
  have xo:(st2 ++ [O.lst []])[l]?=some (.lst (L.map D.int)):=jP hL
  have f3:bp (st2 ++ [O.lst []]) f:=hf2.keep (Ex.cn _)
  have k3:Ex [f] st (st2 ++ [O.lst []]):=k2.app _
  generalize (st2 ++ [O.lst []])=st3 at xo f3 k3 ⊢
  refine bR ?_
  refine bS ?_
  intro df hQ
  set_option simprocs false in simp only [bF,cv xo]
  refine ⟨oP (by rw [cv xo];rfl),?_⟩
  refine aV (rR (n:=((L.map D.int).length:Int)) f3 (by rw [X9];omega) (by rw [X9];omega)) ?_
  rintro d ni ⟨k,rfl,k0,k1,f4,k4⟩
  rw [X9] at k1
  have OX:=k4.keep _ _ xo (by simpa using hl)
  have oC:k.toNat < L.length:=by omega
  set_option simprocs false in simp only [bF,kZ OX]
  have hk':((k.toNat:Nat):Int)=k:=YG k0
  refine ⟨by omega,k.toNat,?_,D.int L[k.toNat],by rw [Yi,Yb oC];rfl,rfl,jz ?_,hQ _ _ ⟨(L.eraseIdx k.toNat).length,?_,L.eraseIdx k.toNat,xs ++ [L[k.toNat]],rfl,?_,?_,?_,?_,?_⟩⟩
  ·rw [<- hk',Yl]
   exact (IY (AA (by rw [X9];exact oC))).1
  ·simp only [X9,YE,List.length_nil];omega
  ·rw [List.length_eraseIdx,if_pos oC];omega
  ·rw [Ys];rfl
  ·rw [Yj (eV OX),Uc]
  ·refine List.Perm.trans ?_ pm
   rw [List.append_assoc]
   exact List.Perm.append_left xs (Ud oC)
  ·exact f4.ne hl
  ·exact (k3.trans k4).loc hls
 ·have he:L=[]:=by simpa using h
  subst he
  refine de ?_
  kspl_open hQ
  exact hQ _ _ ⟨xs,rfl,by simpa [af.Tn] using pm,hf2.keep (Ex.cn _),k2.app _⟩
theorem Wb {st:Store} {xs ys:List Int} {n:Nat} (tx:af.Tn n xs) (ty:af.Tn n ys) (n0:0 < n) (hn:n<=100):Wp (vw [bT xs ys] st) fun d st'=>∃ (g:Nat) (F:List Int),d=.ref g/\items st' g=some (F.map D.int)/\(∀ x,x∈F↔af.jI xs ys x)/\F.length<=n/\af.Od xs ys F/\Ex [] st st':=by
 have hlx:=tx.length
 have Bm:=ty.length
 refine eo ?_
 show Ws (GQ [some (bT xs ys),none,none,none,none] st) _ _ _ _
 unfold GQ
 refine a5 (bR ?_)
 kspl_open hQ
 refine ⟨rfl,hQ _ _ (a5 (mz (aG 0 (n + 1)) (fun i δ st2=>∃ (v2 v3 v4:Option D) (F:List Int),δ=[some (bT xs ys),some (.ref st.length),v2,v3,v4]/\st2[st.length]?=some (.lst (F.map D.int))/\af.Fo xs ys F/\(af.Cl xs ys F\/i + 1<=F.length)/\Ex [] st st2) ?_ ?_ ?_ ?_))⟩
 ·unfold bT
  kspl_open hQ
  have e0:((1:Int) + ((xs.map D.int).length:Int)).toNat=n + 1:=by rw [X9];omega
  refine ⟨by rw [X9];omega,hQ _ _ ⟨by rw [e0],none,none,none,[0],rfl,jE,af.Fo.one xs ys,.inr (Yd _),Ex.cn _⟩⟩
 ·rw [gh];omega
 ·rintro i d δ st2 hd ⟨v2,v3,v4,F,rfl,Fg,hF,hcl,k2⟩
  kspl_open hQ
  refine hQ _ _ (mz [.tup (xs.map D.int),.tup (ys.map D.int)] (fun m δ st3=>∃ (v3 v4:Option D) (G:List Int),δ=[some (bT xs ys),some (.ref st.length),some d,v3,v4]/\st3[st.length]?=some (.lst (G.map D.int))/\af.Fo xs ys G /\
    (m=0->G=F)/\(m=1->F <+: G/\∀ x∈F,af.app xs x∈G)/\(2<=m->∃ F1,F <+: F1/\F1 <+: G/\(∀ x∈F,af.app xs x∈F1)/\∀ x∈F1,af.app ys x∈G)/\Ex [] st st3) ?_ (by simp) ?_ ?_)
  ·unfold bT
   kspl_open hQ
   exact hQ _ _ ⟨rfl,v3,v4,F,rfl,Fg,hF,fun _=>rfl,fun z=>by omega,fun z=>by omega,k2⟩
  ·rintro m z δ st3 hm ⟨v3,v4,G,rfl,xq,hG,m0,m1,_,k3⟩
   have hm2:m < 2:=eV hm
   obtain ⟨zs,rfl,hz,em⟩:∃ (zs:List Int),z=.tup (zs.map D.int)/\(zs=xs\/zs=ys)/\((m=0/\zs=xs)\/(m=1/\zs=ys)):=by
    rcases (show m=0\/m=1 by omega) with rfl | rfl
    ·exact ⟨xs,by simpa using hm.symm,.inl rfl,.inl ⟨rfl,rfl⟩⟩
    ·exact ⟨ys,by simpa using hm.symm,.inr rfl,.inr ⟨rfl,rfl⟩⟩
   have tz:af.Tn n zs:=by rcases hz with rfl | rfl;exact tx;exact ty
   have Ld:=tz.length
   have go:∀ x,af.jI xs ys x->af.jI xs ys (af.app zs x):=fun x h=>by rcases hz with rfl | rfl;exact h.r;exact h.u
   kspl_open hQ
   refine hQ _ _ (Kv (G.map D.int) st3.length (fun j δ ni=>∃ (v4:Option D) (G':List Int),δ=[some (bT xs ys),some (.ref st.length),some d,some (.tup (zs.map D.int)),v4]/\ni[st.length]?=some (.lst (G'.map D.int))/\ni[st3.length]?=some (.lst (G.map D.int))/\af.Fo xs ys G'/\G <+: G'/\(∀ i',i' < j->∀ x,G[i']?=some x->af.app zs x∈G')/\Ex [] st ni) ?_ ?_ ?_ ?_ ?_)
   ·refine bS ?_
    intro df hQ
    set_option simprocs false in simp only [bF,cv xq]
    exact hQ _ _ ⟨rfl,v4,G,rfl,jP xq,jE,hG,List.prefix_refl _,fun i' h=>absurd h (YY _),k3.app _⟩
   ·rw [X9]
    have:=hG.len tx ty n0
    omega
   ·rintro j δ ni ⟨_,_,_,_,h,_⟩
    exact cv h
   ·rintro j XS δ ni hj0 ⟨v4,G',rfl,uA,r9,Ab,pG,hd',k4⟩
    obtain ⟨y,hj,rfl⟩:=DH hj0
    have hjl:=eV hj
    have hR:=hG.mt _ (Yf hj)
    obtain ⟨y0,y1⟩:=hR.bound tx ty n0
    have at':=qq (xs:=zs) y0 (by rw [Ld];exact y1)
    have hnext:∀ HV:List Int,G' <+: HV->af.app zs y∈HV->∀ i',i' < j + 1->∀ x,G[i']?=some x->af.app zs x∈HV:=fun HV p h i' hi' x hx=>by
     by_cases e:i'=j
     ·subst e
      rw [hj] at hx
      cases hx;exact h
     ·exact p.subset (hd' i' (by omega) x hx)
    kspl_open hQ
    refine hQ _ _ (jD ?_)
    refine bS ?_
    intro fW bM
    set_option simprocs false in simp only [bF,at',GF (st:=ni) (c:=.ref st.length) (ns:=G') (cv uA)]
    refine bM _ _ ⟨fun hcn=>?_,fun hcn=>?_⟩
    ·have hnm:af.app zs y ∉ G':=fun z=>by rw [YV.mpr z] at hcn;cases hcn
     have OY:af.Fo xs ys (G' ++ [af.app zs y]):=by
      refine ⟨⟨List.mem_append_left _ Ab.z,?_,fun x hx=>?_⟩,Ab.od.snoc (pG.subset (Yf hj)) (hz.imp (fun e=>by rw [e]) fun e=>by rw [e])⟩
      ·rw [List.nodup_append]
       refine ⟨Ab.nd,by simp,fun x hx y' hy e=>hnm ?_⟩
       have e2:y'=af.app zs y:=by simpa using hy
       rw [<- e2,<- e];exact hx
      ·rcases Yz.mp hx with h | h
       ·exact Ab.mt x h
       ·have e2:x=af.app zs y:=by simpa using h
        rw [e2];exact go _ hR
     have hlen2:=OY.len tx ty n0
     rw [Yc] at hlen2
     refine qm ?_
     refine bS ?_
     intro Ac qx
     set_option simprocs false in simp only [bF,at',kZ uA]
     refine ⟨oP (by rw [cv uA];rfl),jz (by rw [X9];simp at hlen2;omega),qx _ _ ⟨_,G' ++ [af.app zs y],rfl,?_,?_,OY,pG.trans (List.prefix_append _ _),hnext _ (List.prefix_append _ _) (by simp),k4.loc (Yd _)⟩⟩
     ·rw [Yj (eV uA),Ys];rfl
     ·rw [Yp (by have:=eV xq;omega)];exact r9
    ·have hcn:G'.contains (af.app zs y)=true:=by simpa using hcn
     exact kS ⟨_,G',rfl,uA,r9,Ab,pG,hnext G' (List.prefix_refl _) (YV.mp hcn),k4⟩
   ·rintro δ ni ⟨v4,G',rfl,uA,r9,Ab,pG,hd',k4⟩
    rw [X9] at hd'
    have hall:∀ x∈G,af.app zs x∈G':=fun x hx=>by
     obtain ⟨i',hi',e⟩:=Y8 hx
     exact hd' i' hi' x (by rw [Yb hi',e])
    refine ⟨_,_,G',rfl,uA,Ab,fun z=>by omega,fun z=>?_,fun z=>?_,k4⟩
    ·rcases em with ⟨rfl,rfl⟩ | ⟨rfl,_⟩
     ·have:=m0 rfl
      subst this
      exact ⟨pG,hall⟩
     ·omega
    ·rcases em with ⟨rfl,_⟩ | ⟨rfl,rfl⟩
     ·omega
     ·obtain ⟨p1,c1⟩:=m1 rfl
      exact ⟨G,p1,pG,c1,hall⟩
  ·rintro δ st3 ⟨v3,v4,G,rfl,xq,hG,_,_,m2,k3⟩
   obtain ⟨F1,p1,p2,c1,c2⟩:=m2 (Yd 2)
   exact ⟨_,_,_,G,rfl,xq,hG,af.round hF.toFd hG.toFd p1 p2 c1 c2 hcl,k3⟩
 ·rintro δ st2 ⟨v2,v3,v4,F,rfl,Fg,hF,hcl,k2⟩
  rw [gh] at hcl
  have hl:=hF.len tx ty n0
  have hc:af.Cl xs ys F:=hcl.resolve_right (by omega)
  refine de ?_
  kspl_open hQ
  exact hQ _ _ ⟨_,F,rfl,cv Fg,fun x=>⟨hF.mt x,fun h=>hc.all hF.z h⟩,hl,hF.od,k2⟩
theorem Wc {st:Store} {xs ys:List Int} {n:Nat} (tx:af.Tn n xs) (ty:af.Tn n ys) (n0:0 < n) (hn:n<=100):Wp (vw [bT xs ys] st) fun d st'=>∃ (g:Nat) (F:List Int),d=.ref g/\items st' g=some (F.map D.int)/\(∀ x,x∈F↔af.jI xs ys x)/\F.length<=n/\Ex [] st st' :=
 aV (Wb tx ty n0 hn) fun d st' ⟨g,F,h1,h2,h3,h4,_,h5⟩=>⟨g,F,h1,h2,h3,h4,h5⟩
theorem OZ {st:Store} {δ:aq} {X Y:List Int} {n:Nat} {Q:D->Store->Prop} (tX:af.Tn n X) (tY:af.Tn n Y) (n0:0 < n) (hn:n<=100) (h1:δ[1]?=some (some (.int (n:Int)))) (h6:δ[6]?=some (some (bT X Y)))
  (q:∀ (L:List Int) (st':Store),L.length<=n->L.Nodup->(∀ x,x∈L↔(0<=x/\x < (n:Int)/\¬ af.jI X Y x))->Ex [] st st'->Q (.ref st'.length) (st' ++ [.lst (L.map D.int)])) :
  Wp (cO (bY (ae (ag 1) ah)) 1 [6] (hName 0) (aN (av (rX true) (ag 0) (aP vw (ae (ag 1) ah)))) (ag 0) δ st) Q:=by
 have Wd:δ.getD 6 none=some (bT X Y):=by rw [Yn,h6];rfl
 refine Gy (aG 0 n) (fun j zs δ' jF=>∃ (v:Option D) (L:List Int),δ'=[v,some (bT X Y)]/\zs=L.map D.int/\L.length<=j/\L.Nodup/\(∀ x,x∈L↔(0<=x/\x < (j:Int)/\¬ af.jI X Y x))/\Ex [] st jF) ?_ (by rw [gh];omega) ?_ ?_ ?_
 ·refine bS ?_
  intro df hQ
  set_option simprocs false in simp only [bF,h1]
  refine ⟨by omega,hQ _ _ ⟨fun i ys δ st hi _=>?_,none,[],?_,rfl,Yd _,List.nodup_nil,fun x=>⟨(fun h=>nomatch h),fun h=>by omega⟩,Ex.refl⟩⟩
  ·rw [Yl]
   show (if i<=(aG 0 n).length then some (aG 0 n)[i]? else none)=_
   rw [if_pos hi]
  ·unfold pW
   simp only [Yu,YM,Wd]
   rfl
 ·rintro j zs δ' jF ⟨v,L,_,rfl,hl,_⟩
  rw [X9];exact hl
 ·rintro j d zs δ' jF hd ⟨v,L,rfl,rfl,p8,nd,hL,k8⟩
  have hjl:=eV hd
  rw [gh] at hjl
  rw [A0 hjl] at hd
  cases hd
  rw [Int.zero_add]
  kspl_open hQ
  refine hQ _ _ ?_
  kspl_open bM
  refine aV (Wc (st:=jF) tX tY n0 hn) ?_
  rintro d pM ⟨g,F,rfl,hg,hF,XT,k9⟩
  rw [GF (c:=.ref g) (ns:=F) hg]
  refine ⟨_,rfl,bM _ _ ⟨fun hc=>?_,fun hc=>?_⟩⟩
  ·have hR:¬ af.jI X Y (j:Int):=fun h=>by rw [YV.mpr ((hF _).mpr h)] at hc;cases hc
   kspl_open qx
   refine qx _ _ ⟨_,L ++ [(j:Int)],rfl,by rw [Ys];rfl,by rw [Yc];simp;omega,?_,fun x=>?_,k8.trans k9⟩
   ·rw [List.nodup_append]
    refine ⟨nd,by simp,fun x hx y hy e=>?_⟩
    have e2:y=(j:Int):=by simpa using hy
    have:=((hL x).mp hx).2.1
    omega
   ·rw [Yz,hL x]
    constructor
    ·rintro (⟨a1,a2,a3⟩ | h)
     ·exact ⟨a1,by omega,a3⟩
     ·have e2:x=(j:Int):=by simpa using h
      rw [e2];exact ⟨by omega,by omega,hR⟩
    ·rintro ⟨a1,a2,a3⟩
     rcases Int.lt_or_le x (j:Int) with h | h
     ·exact .inl ⟨a1,h,a3⟩
     ·exact .inr (by simp;omega)
  ·have hc:F.contains (j:Int)=true:=by simpa using hc
   have hR:=(hF _).mp (YV.mp hc)
   refine ⟨_,L,rfl,rfl,by omega,nd,fun x=>?_,k8.trans k9⟩
   rw [hL x]
   constructor
   ·rintro ⟨a1,a2,a3⟩;exact ⟨a1,by omega,a3⟩
   ·rintro ⟨a1,a2,a3⟩
    refine ⟨a1,?_,a3⟩
    rcases Int.lt_or_le x (j:Int) with h | h
    ·exact h
    ·exact absurd hR (by rw [show (j:Int)=x by omega];exact a3)
 ·rintro zs δ' jF ⟨v,L,rfl,rfl,p8,nd,hL,k8⟩
  rw [gh] at p8 hL
  exact q L jF p8 nd hL k8
theorem Le {st:Store} {f n:Nat} (hf:bp st f) (n1:1<=n) (Wf:n<=20):Wp (uy [.ref f,.int (n:Int)] st) fun d st'=>∃ xs ys:List Int,d=bT xs ys/\nY n xs ys/\bp st' f/\Ex [f] st st':=by
 have hfl:=hf.lt
 refine eo ?_
 show Ws (GS [some (.ref f),some (.int (n:Int)),none,none,none,none,none,none,none] st) _ _ _ _
 unfold GS
 refine a5 (bR ?_)
 kspl_open hQ
 refine aV (rR (n:=6) hf (by decide) (by decide)) ?_
 rintro d st1 ⟨form,rfl,g0,g6,f1,k1⟩
 refine hQ _ _ (a5 (Ob ?_))
 clear hQ
 kspl_open hQ
 refine aV (Lc (n:=n) f1 (by omega)) ?_
 rintro d st2 ⟨X,rfl,tX,f2,k2⟩
 w_how
 refine aV (Lc (n:=n) (f2.keep (Ex.cn [.lst (X.map D.int)])) (by omega)) ?_
 rintro d st3 ⟨Y,rfl,tY,f3,k3⟩
 w_how
 refine hQ _ _ ⟨_,_,rfl,?_⟩
 clear hQ
 have pZ:st3[st2.length]?=some (.lst (X.map D.int)):=k3.keep _ _ jE (by have:=f2.lt;simp;omega)
 have two:pk st (st3 ++ [.lst (Y.map D.int)]) f st2.length st3.length n X Y:=⟨jP pZ,jE,by have:=eV pZ;omega,(k1.trans k2).len,((k1.trans k2).trans ((Ex.cn _).trans k3)).len,tX,tY,f3.keep (Ex.cn _),(((k1.trans k2).app _).trans k3).app _⟩
 show Ws _ _ _ _ _
 generalize (st3 ++ [O.lst (Y.map D.int)])=ni at two ⊢
 generalize st2.length=r at two ⊢
 generalize st3.length=u at two ⊢
 clear pZ tX tY f3 k3 f2 k2 f1 k1
 refine a5 (y8 (N:=fun δ kM=>∃ (r u:Nat) (X Y:List Int),δ=[some (.ref f),some (.int (n:Int)),some (.int form),some (.ref r),some (.ref u),none,none,none,none]/\pk st kM f r u n X Y) (jD ?_) ?_)
 ·kspl_open hQ
  refine hQ _ _ ⟨fun _=>bR ?_,fun _=>kS ⟨r,u,X,Y,rfl,two⟩⟩
  kspl_open bM
  rw [<- Ol]
  refine ⟨ve (by omega),rfl,jz (by rw [gh];simp;omega),bM _ _ ⟨_,u,_,Y,rfl,(two.keep (((Ex.cn _).app _).app _)).zt (af.Nj (show n < 21 by omega) (by omega))⟩⟩
 rintro δ kM ⟨r,u,X,Y,rfl,two⟩
 refine a5 (y8 (N:=fun δ kM=>∃ (r u:Nat) (X Y:List Int),δ=[some (.ref f),some (.int (n:Int)),some (.int form),some (.ref r),some (.ref u),none,none,none,none]/\pk st kM f r u n X Y) (jD ?_) ?_)
 ·kspl_open hQ
  refine hQ _ _ ⟨fun _=>Ob ?_,fun _=>kS ⟨r,u,X,Y,rfl,two⟩⟩
  kspl_open bM
  rw [<- Ol,show ((n:Int) - 0).toNat=n by omega,qo]
  refine ⟨ve (by omega),ve (by omega),rfl,jz (by rw [gh];simp;omega),bM _ _ ⟨_,_,rfl,_,_,_,_,rfl,(((two.keep (Ex.cn [.jH 0 (n:Int)])).zt (Z:=af.upto n) (List.Perm.refl _)).keep (((Ex.cn _).app _).app _)).zu (af.Nj (show n < 21 by omega) (by omega))⟩⟩
 rintro δ Kt ⟨r,u,X,Y,rfl,two⟩
 refine a5 (y8 (N:=fun δ kM=>∃ (r u:Nat) (v5:Option D) (X Y:List Int),δ=[some (.ref f),some (.int (n:Int)),some (.int form),some (.ref r),some (.ref u),v5,none,none,none]/\pk st kM f r u n X Y) (jD ?_) ?_)
 ·kspl_open hQ
  refine hQ _ _ ⟨fun _=>a5 (bR ?_),fun _=>kS ⟨r,u,none,X,Y,rfl,two⟩⟩
  kspl_open bM
  refine aV (rR (n:=(n:Int)) two.fd (by omega) (by omega)) ?_
  rintro d rD ⟨w,rfl,w0,w1,f7,k7⟩
  obtain ⟨wd,rfl⟩:∃ wd:Nat,w=(wd:Int) - 1:=⟨(w + 1).toNat,by omega⟩
  have t7:pk st rD f r u n X Y:=⟨k7.keep _ _ two.hr (by have:=two.r0;simp;omega),k7.keep _ _ two.hu (by have:=two.u0;simp;omega),two.ne,two.r0,two.u0,two.tX,two.tY,f7,two.ex.trans k7⟩
  w_how
  rw [show (1:Int) + ((wd:Int) - 1)=(wd:Int) by omega]
  refine bM _ _ (a5 (bR ?_))
  clear bM hQ
  kspl_open bM
  rw [<- zv]
  refine ⟨ve (by omega),rfl,jz (by rw [gh];simp;omega),ve (by omega),jz (by rw [Yc,gh,gh];simp;omega),bM _ _ (a5 (bR ?_))⟩
  clear bM
  have t8:=(t7.keep ((((((Ex.cn [.jH 1 (wd:Int)]).app [.lst (aG 1 ((wd:Int) - 1).toNat)]).app [.lst [.int 0]]).app [.lst (aG 1 ((wd:Int) - 1).toNat ++ [.int 0])]).app [.jH (wd:Int) (n:Int)]).app [.lst (aG (wd:Int) ((n:Int) - (wd:Int)).toNat)])).zt (af.R4 (w:=wd) (show n < 21 by omega) (by omega) (by omega))
  generalize Wg:(rD ++ _ ++ _ ++ _ ++ _ ++ _ ++ _ ++ _:Store)=jF at t8 ⊢
  generalize List.length _=r8 at t8 ⊢
  kspl_open bM
  refine ⟨rfl,ve (by omega),jz (by simp [gh];omega),ve (by omega),jz (by simp [gh];omega),rfl,jz (by simp [gh];omega),bM _ _ (jD ?_)⟩
  clear bM
  generalize Wi:(jF ++ _ ++ _ ++ _ ++ _ ++ _ ++ _ ++ _ ++ _ ++ _:Store)=HW
  have tE:pk st HW f r8 u n (af.sU wd n) Y:=by rw [<- Wi];exact t8.keep (((((((((Ex.cn _).app _).app _).app _).app _).app _).app _).app _).app _)
  kspl_open hQ
  refine hQ _ _ ⟨fun hw=>?_,fun hw=>?_⟩
  ·refine bR ?_
   kspl_open bM
   rw [show ((n:Int) - 0).toNat=n by omega,qo]
   exact ⟨ve (by omega),bM _ _ ⟨r8,_,_,_,_,rfl,(tE.keep ((Ex.cn _).app _)).zu (List.Perm.refl _)⟩⟩
  ·have hne:wd≠n:=fun z=>by simp [z] at hw
   have tF:=tE.zu (af.R5 (w:=wd) (show n < 21 by omega) (by omega) (by omega))
   rw [zw (by omega) (by omega)] at tF
   exact kS ⟨r8,_,_,_,_,rfl,tF⟩
 rintro δ rD ⟨r,u,v5,X,Y,rfl,two⟩
 have n0:0 < n:=by omega
 refine a5 (bR ?_)
 refine bS ?_
 intro df hQ
 set_option simprocs false in simp only [bF,cv two.hr,cv two.hu]
 refine ⟨rfl,hQ _ _ (a5 (bR (OZ (X:=X) (Y:=Y) two.tX two.tY n0 (by omega) rfl rfl ?_)))⟩
 clear hQ
 intro L jF p8 nd hL k8
 have t8:=(two.keep k8).keep (Ex.cn [.lst (L.map D.int)])
 refine a5 (y9 (fun mm δ pM=>∃ (pa:Nat) (X L:List Int) (v8:Option D),mm=L.length/\δ=[some (.ref f),some (.int (n:Int)),some (.int form),some (.ref r),some (.ref u),v5,some (bT X Y),some (.ref pa),v8]/\pk st pM f r u n X Y/\items pM pa=some (L.map D.int)/\L.length<=n/\L.Nodup/\(∀ x,x∈L↔(0<=x/\x < (n:Int)/\¬ af.jI X Y x))) L.length (YZ p8 (YZ Wf (by decide))) ⟨_,X,L,none,rfl,rfl,t8,rZ,p8,nd,hL⟩ ?_)
 rintro mm δ pM ⟨pa,X,L,v8,rfl,rfl,two,hpa,p8,nd,hL⟩
 have XU:=two.tX.length
 have Ad:items (pM ++ [O.lst []]) pa=some (L.map D.int):=by
  unfold items at hpa ⊢
  cases e:pM[pa]? with
  | none=>rw [e] at hpa;cases hpa
  | some o=>rw [jP e];rw [e] at hpa;exact hpa
 refine bS ?_
 intro df hQ
 set_option simprocs false in simp only [bF,Oj (L:=L) (M:=[]) (st:=pM ++ [O.lst []]) Ad rZ]
 refine ⟨rfl,hQ _ _ ⟨fun h=>?_,fun h=>?_⟩⟩
 ·have hne:L≠[]:=by simpa using h
  clear hQ
  obtain ⟨m,L1,rfl⟩:∃ m L1,L=m :: L1:=by cases L with | nil=>exact absurd rfl hne | cons m L1=>exact ⟨m,L1,rfl⟩
  obtain ⟨m0,m1,mR⟩:=(hL m).mp Ye
  have t2:=two.keep (Ex.cn [O.lst []])
  generalize (pM ++ [O.lst []])=HW at Ad t2 ⊢
  refine a5 (bR ?_)
  refine bS ?_
  intro df hQ
  set_option simprocs false in simp only [bF,Ad,Yu]
  refine hQ _ _ (a5 (rY ?_))
  clear hQ
  refine bS ?_
  intro df hQ
  set_option simprocs false in simp only [bF,cv t2.hr,qq (xs:=X) m0 (by omega),qq (xs:=X) (i:=0) (by decide) (by omega)]
  refine ⟨rfl,hQ _ _ ?_⟩
  clear hQ
  have i0:m8 (X.map D.int).length 0=some 0:=AA (j:=0) (by rw [X9];omega)
  have im:m8 ((X.map D.int).set 0 (.int (af.app X m))).length m=some m.toNat:=by
   rw [YX]
   have:=AA (n:=(X.map D.int).length) (j:=m.toNat) (by rw [X9];omega)
   rwa [YG m0] at this
  have pZ:(HW.set r (.lst ((X.map D.int).set 0 (.int (af.app X m)))))[r]?=some (.lst ((X.map D.int).set 0 (.int (af.app X m)))):=Yj (eV t2.hr)
  have eS:((X.map D.int).set 0 (.int (af.app X m))).set m.toNat (.int (af.app X 0))=(af.oD X m.toNat).map D.int:=by
   unfold af.oD
   rw [YG m0,List.map_set,List.map_set]
  refine bS ?_
  intro df hQ
  set_option simprocs false in simp only [bF,kZ t2.hr,kZ pZ,i0,im,eS]
  refine ⟨rfl,hQ _ _ (a5 (bR ?_))⟩
  clear hQ
  have tS:=af.yi t2.tX (m:=m.toNat) (by omega)
  have hmet:=af.RY t2.tX t2.tY (m:=m.toNat) (by omega) (by rw [YG m0];exact mR)
  rw [YG m0] at hmet
  rw [List.set_set]
  have t3:=t2.put (Z:=af.oD X m.toNat) tS hfl
  generalize HW.set r _=st3 at t3 ⊢
  refine bS ?_
  intro df hQ
  set_option simprocs false in simp only [bF,cv t3.hr,cv t3.hu]
  refine ⟨rfl,hQ _ _ (bR (OZ (X:=af.oD X m.toNat) (Y:=Y) t3.tX t3.tY n0 (by omega) rfl rfl ?_))⟩
  intro L' ni Lf O0 hL' k4
  refine ⟨_,?_,ni.length,af.oD X m.toNat,L',_,rfl,rfl,(t3.keep k4).keep (Ex.cn _),rZ,Lf,O0,hL'⟩
  refine af.less (m:=m) O0 (fun x hx=>?_) Ye (fun h=>((hL' m).mp h).2.2 hmet.1)
  obtain ⟨a1,a2,a3⟩:=(hL' x).mp hx
  exact (hL x).mpr ⟨a1,a2,fun h=>a3 (hmet.2 x h)⟩
 ·have he:L=[]:=by simpa using h
  subst he
  refine de ?_
  kspl_open bM
  have t2:=two.keep (Ex.cn [O.lst []])
  refine bM _ _ ⟨X,Y,rfl,⟨t2.tX,t2.tY,fun x x0 x1=>?_⟩,t2.fd,t2.ex⟩
  exact Classical.byContradiction fun h=>nomatch (hL x).mpr ⟨x0,x1,h⟩
theorem Lg {st:Store} {xs:List Int} {n:Nat} (tn:af.Tn n xs) (hn:n<=100):Wp (tT [.tup (xs.map D.int)] st) fun d st'=>d=.tup ((af.inv xs).map D.int)/\Ex [] st st':=by
 have hlen:=tn.length
 refine eo ?_
 show Ws (G7 [some (.tup (xs.map D.int)),none,none,none] st) _ _ _ _
 unfold G7
 refine a5 (bR ?_)
 kspl_open hQ
 have e0:(((xs.map D.int).length:Int)).toNat=n:=by rw [X9];omega
 have ez:(List.replicate n [D.int 0]).flatten=(List.replicate n (0:Int)).map D.int:=by
  induction n with
  | zero=>rfl
  | succ n ih=>simp [YT]
 rw [e0,ez]
 refine ⟨rfl,by rw [X9];omega,jz (by simp;omega),hQ _ _ (a5 (mz (nc (xs.map D.int)) (fun k δ st2=>∃ (v2 v3:Option D) (bs:List Int),δ=[some (.tup (xs.map D.int)),some (.ref (st ++ [O.lst [D.int 0]]).length),v2,v3]/\st2[(st ++ [O.lst [D.int 0]]).length]?=some (.lst (bs.map D.int))/\bs.length=n/\(∀ j,j < k->∀ x,xs[j]?=some x->bs[x.toNat]?=some (j:Int))/\Ex [] st st2) ?_ ?_ ?_ ?_))⟩
 ·kspl_open hQ
  exact hQ _ _ ⟨rfl,none,none,_,rfl,jE,by simp,fun j hj=>absurd hj (YY _),(Ex.cn _).app _⟩
 ·rw [Df,X9];omega
 ·have Fh:st.length<=(st ++ [O.lst [D.int 0]]).length:=by simp
  generalize (st ++ [O.lst [D.int 0]]).length=B at Fh ⊢
  rintro k d δ st2 hd ⟨v2,v3,bs,rfl,hB,uB,vB,k2⟩
  obtain ⟨d',hd',rfl⟩:=Ks hd
  obtain ⟨x,hx,rfl⟩:=DH hd'
  obtain ⟨x0,x1⟩:=tn.bound (Yf hx)
  have oC:=eV hx
  kspl_open hQ
  refine ⟨rfl,hQ _ _ (rY ?_)⟩
  have hix:m8 (bs.map D.int).length x=some x.toNat:=by
   have:=AA (n:=(bs.map D.int).length) (j:=x.toNat) (by rw [X9];omega)
   rwa [YG x0] at this
  have es:(bs.map D.int).set x.toNat (.int (k:Int))=(bs.set x.toNat (k:Int)).map D.int:=by rw [List.map_set]
  kspl_open bM
  refine bM _ _ ?_
  refine bS ?_
  intro Ac qx
  set_option simprocs false in simp only [bF,kZ hB,hix,es]
  refine qx _ _ ⟨_,_,bs.set x.toNat (k:Int),rfl,Yj (eV hB),by rw [YX];exact uB,fun j hj y hy=>?_,k2.loc Fh⟩
  by_cases hjk:j=k
  ·subst hjk
   rw [hx] at hy
   cases hy
   rw [Yj (by rw [uB];omega)]
  ·obtain ⟨y0,y1⟩:=tn.bound (Yf hy)
   rw [Yp (fun z=>?_)]
   ·exact vB j (by omega) y hy
   ·obtain ⟨h1,e1⟩:=Ya.mp hx
    obtain ⟨h2,e2⟩:=Ya.mp hy
    exact hjk ((List.getElem_inj tn.nodup).mp (show xs[j]=xs[k] by omega))
 ·rintro δ st2 ⟨v2,v3,bs,rfl,hB,uB,vB,k2⟩
  rw [Df,X9] at vB
  have eb:bs=af.inv xs:=by
   apply List.ext_getElem?
   intro i
   by_cases hi:i < n
   ·have hm:=tn.mem (i:=(i:Int)) (by omega) (by omega)
    have hil:=List.idxOf_lt_length_of_mem hm
    have:=vB (xs.idxOf (i:Int)) hil (i:Int) (by rw [Yb hil];exact congrArg some (List.getElem_idxOf hil))
    rw [Yl] at this
    rw [this]
    have ea:=af.pT (xs:=af.inv xs) (i:=(i:Int)) (by omega) (by rw [af.CB];omega)
    rw [Yl,af.F6 (by omega) (by omega)] at ea
    exact ea.symm
   ·rw [List.getElem?_eq_none (by omega),List.getElem?_eq_none (by rw [af.CB];omega)]
  subst eb
  refine de ?_
  refine bS ?_
  intro df hQ
  set_option simprocs false in simp only [bF,cv hB]
  exact hQ _ _ ⟨rfl,k2⟩
theorem Fi {st:Store} {xs ys:List Int} (hb:∀ x∈xs,0<=x/\x < (ys.length:Int)) (hn:xs.length<=100):Wp (qY [.tup (xs.map D.int),.tup (ys.map D.int)] st) fun d st'=>d=.tup ((af.aZ xs ys).map D.int)/\Ex [] st st':=by
 refine eo ?_
 show Ws (G9 [some (.tup (xs.map D.int)),some (.tup (ys.map D.int))] st) _ _ _ _
 unfold G9
 refine de ?_
 kspl_open hQ
 refine r6 (xs.map D.int) (fun d=>.int (af.app ys (inD d))) ?_ (by rw [X9];omega) ?_ ?_
 ·kspl_open bM
  exact bM _ _ ⟨rQ _ _,Ex.refl⟩
 ·intro d hd st1 k1
  obtain ⟨x,hx,rfl⟩:=vf hd
  obtain ⟨x0,x1⟩:=hb x hx
  refine bS ?_
  intro fW bM
  set_option simprocs false in simp only [bF,Yu,YM,YK,YL,qq (xs:=ys) x0 x1]
  exact bM _ _ ⟨rfl,Ex.refl⟩
 ·intro st' k'
  rw [zx (f:=af.app ys) fun x hx=>rfl]
  w_how
  exact hQ _ _ ⟨rfl,k'.app _⟩
theorem Wj {st:Store} {xs ys p:List Int} {n:Nat} (tx:af.Tn n xs) (ty:af.Tn n ys) (tp:af.Tn n p) (hn:n<=100):Wp (Ee [bT xs ys,.tup (p.map D.int)] st) fun d st'=>d=bT (af.anew xs p) (af.anew ys p)/\Ex [] st st':=by
 have hlx:=tx.length
 have Bm:=ty.length
 have Fj:=tp.length
 have ti:=tp.aD
 have hli:=ti.length
 refine eo ?_
 show Ws (Ha [some (bT xs ys),some (.tup (p.map D.int)),none,none,none] st) _ _ _ _
 unfold Ha bT
 refine a5 (bR ?_)
 kspl_open hQ
 refine aV (Lg tp hn) ?_
 rintro d st1 ⟨rfl,k1⟩
 refine hQ _ _ (a5 (bR ?_))
 clear hQ
 kspl_open hQ
 refine aV (Fi (xs:=af.inv p) (ys:=xs) (fun x hx=>by rw [hlx];exact ti.bound hx) (by omega)) ?_
 rintro d st2 ⟨rfl,k2⟩
 refine aV (Fi (xs:=af.aZ (af.inv p) xs) (ys:=p) (fun x hx=>by rw [Fj];exact (ti.aZ tx).bound hx) (by rw [af.CF];omega)) ?_
 rintro d st3 ⟨rfl,k3⟩
 refine hQ _ _ (a5 (bR ?_))
 clear hQ
 kspl_open hQ
 refine aV (Fi (xs:=af.inv p) (ys:=ys) (fun x hx=>by rw [Bm];exact ti.bound hx) (by omega)) ?_
 rintro d ni ⟨rfl,k4⟩
 refine aV (Fi (xs:=af.aZ (af.inv p) ys) (ys:=p) (fun x hx=>by rw [Fj];exact (ti.aZ ty).bound hx) (by rw [af.CF];omega)) ?_
 rintro d kM ⟨rfl,k5⟩
 refine hQ _ _ (de ?_)
 clear hQ
 kspl_open hQ
 exact ⟨rfl,hQ _ _ ⟨rfl,(((k1.trans k2).trans k3).trans k4).trans k5⟩⟩
theorem O1 {F:List Int} {x:Int}:(!F.contains x)=true->af.cK F x=F ++ [x]:=fun h=>by
 unfold af.cK
 rw [if_neg fun z=>by rw [YV.mpr z] at h;cases h]
theorem O2 {F:List Int} {x:Int}:(!F.contains x)=false->af.cK F x=F:=fun h=>by
 unfold af.cK
 rw [if_pos (YV.mp (by simpa using h))]
theorem Wk {st:Store} {xs ys:List Int} {n:Nat} {s:Int} (tx:af.Tn n xs) (ty:af.Tn n ys) (hn:n<=100) (s0:0<=s) (s1:s < (n:Int)):Wp (Eg [bT xs ys,.int s] st) fun d st'=>d=.tup ((af.bf xs ys s n).map D.int)/\Ex [] st st':=by
 have hlx:=tx.length
 have Bm:=ty.length
 refine eo ?_
 show Ws (Hc [some (bT xs ys),some (.int s),none,none,none,none] st) _ _ _ _
 unfold Hc
 refine a5 (bR ?_)
 kspl_open hQ
 refine ⟨rfl,hQ _ _ (a5 (bR ?_))⟩
 clear hQ
 kspl_open hQ
 refine hQ _ _ (a5 (y9 (fun m δ st2=>∃ (k:Nat) (v4 v5:Option D),m=n - k/\δ=[some (bT xs ys),some (.int s),some (.ref st.length),some (.int (k:Int)),v4,v5]/\st2[st.length]?=some (.lst ((af.bf xs ys s k).map D.int))/\k<=(af.bf xs ys s k).length/\Ex [] st st2) n (YZ hn (by decide)) ⟨0,none,none,by omega,rfl,jE,YN _,Ex.cn _⟩ ?_))
 clear hQ
 rintro m δ st2 ⟨k,v4,v5,rfl,rfl,hl,hk,k2⟩
 have uB:=af.CG tx ty s0 s1 k
 refine bS ?_
 intro df hQ
 set_option simprocs false in simp only [bF,cv hl]
 refine hQ _ _ ⟨fun hlt=>?_,fun hlt=>?_⟩
 ·clear hQ
  have hlt:=of_decide_eq_true hlt
  rw [X9] at hlt
  have oC:k < (af.bf xs ys s k).length:=by omega
  obtain ⟨x,hx⟩:∃ x,(af.bf xs ys s k)[k]?=some x:=⟨_,Yb oC⟩
  obtain ⟨x0,x1⟩:=af.rE tx ty s0 s1 k x (Yf hx)
  have e1:af.bf xs ys s (k + 1)=af.visit xs ys (af.bf xs ys s k) x:=by
   show (match (af.bf xs ys s k)[k]? with | some x=>af.visit xs ys (af.bf xs ys s k) x | none=>af.bf xs ys s k)=_
   rw [hx]
  have hb1:=af.CG tx ty s0 s1 (k + 1)
  rw [e1] at hb1
  have hp1:=(af.wz (af.cK (af.bf xs ys s k) (af.app xs x)) (af.app ys x)).length_le
  have hp0:=(af.wz (af.bf xs ys s k) (af.app xs x)).length_le
  change _<=(af.visit xs ys (af.bf xs ys s k) x).length at hp1
  refine a5 (mz [.tup (xs.map D.int),.tup (ys.map D.int)] (fun m δ st3=>∃ (v4 v5:Option D) (G:List Int),δ=[some (bT xs ys),some (.int s),some (.ref st.length),some (.int (k:Int)),v4,v5]/\st3[st.length]?=some (.lst (G.map D.int))/\(m=0->G=af.bf xs ys s k)/\(m=1->G=af.cK (af.bf xs ys s k) (af.app xs x))/\(m=2->G=af.visit xs ys (af.bf xs ys s k) x)/\Ex [] st st3) ?_ (by simp) ?_ ?_)
  ·unfold bT
   kspl_open hQ
   exact hQ _ _ ⟨rfl,v4,v5,_,rfl,hl,fun _=>rfl,fun z=>by omega,fun z=>by omega,k2⟩
  ·rintro m z δ st3 hm ⟨v4,v5,G,rfl,hl3,g0,g1,_,k3⟩
   have hm2:m < 2:=eV hm
   obtain ⟨zs,rfl,tz,em⟩:∃ (zs:List Int),z=.tup (zs.map D.int)/\af.Tn n zs/\((m=0/\zs=xs)\/(m=1/\zs=ys)):=by
    rcases (show m=0\/m=1 by omega) with rfl | rfl
    ·exact ⟨xs,by simpa using hm.symm,tx,.inl ⟨rfl,rfl⟩⟩
    ·exact ⟨ys,by simpa using hm.symm,ty,.inr ⟨rfl,rfl⟩⟩
   have hG:G.length<=100/\G[k]?=some x:=by
    rcases em with ⟨rfl,_⟩ | ⟨rfl,_⟩
    ·rw [g0 rfl];exact ⟨by omega,hx⟩
    ·rw [g1 rfl]
     refine ⟨by omega,?_⟩
     obtain ⟨t,e⟩:=af.wz (af.bf xs ys s k) (af.app xs x)
     rw [<- e,Yk oC];exact hx
   have Fm:∀ G',G'=af.cK G (af.app zs x)->(m + 1=0->G'=af.bf xs ys s k)/\(m + 1=1->G'=af.cK (af.bf xs ys s k) (af.app xs x))/\(m + 1=2->G'=af.visit xs ys (af.bf xs ys s k) x):=fun G' e=>by
    rcases em with ⟨rfl,rfl⟩ | ⟨rfl,rfl⟩
    ·exact ⟨fun z=>by omega,fun _=>by rw [e,g0 rfl],fun z=>by omega⟩
    ·exact ⟨fun z=>by omega,fun z=>by omega,fun _=>by rw [e,g1 rfl];rfl⟩
   have hat:eK (G.map D.int) (k:Int)=some (.int x):=Av (by rw [Yi,hG.2];rfl)
   kspl_open hQ
   refine hQ _ _ (a5 (bR ?_))
   clear hQ
   refine bS ?_
   intro df hQ
   set_option simprocs false in simp only [bF,cv hl3,hat,qq (xs:=zs) x0 (by rw [tz.length];exact x1)]
   refine hQ _ _ (jD ?_)
   clear hQ
   refine bS ?_
   intro df hQ
   set_option simprocs false in simp only [bF,GF (st:=st3) (c:=.ref st.length) (ns:=G) (cv hl3)]
   refine hQ _ _ ⟨fun hc=>qm ?_,fun hc=>kS ?_⟩
   ·obtain ⟨n0,n1,n2⟩:=Fm (G ++ [af.app zs x]) (O1 hc).symm
    refine bS ?_
    intro fW bM
    set_option simprocs false in simp only [bF,kZ hl3]
    refine ⟨oP (by rw [cv hl3];rfl),jz (by rw [X9];omega),bM _ _ ⟨_,_,G ++ [af.app zs x],rfl,?_,n0,n1,n2,k3.loc (Yd _)⟩⟩
    rw [Yj (eV hl3),Ys];rfl
   ·obtain ⟨n0,n1,n2⟩:=Fm G (O2 hc).symm
    exact ⟨_,_,G,rfl,hl3,n0,n1,n2,k3⟩
  ·rintro δ st3 ⟨v4,v5,G,rfl,hl3,_,_,g2,k3⟩
   have g2:=g2 rfl
   subst g2
   refine bR ?_
   kspl_open hQ
   refine hQ _ _ ⟨n - (k + 1),by omega,k + 1,v4,v5,rfl,by simp,by rw [e1];exact hl3,by rw [e1];omega,k3⟩
 ·have hlt:=of_decide_eq_false hlt
  rw [X9] at hlt
  have hle:(af.bf xs ys s k).length<=k:=by omega
  have e:af.bf xs ys s n=af.bf xs ys s k:=by
   have:=af.F7 hle (n - k)
   rwa [show k + (n - k)=n by omega] at this
  refine de ?_
  refine bS ?_
  intro fW bM
  set_option simprocs false in simp only [bF,cv hl]
  rw [<- e]
  exact bM _ _ ⟨rfl,k2⟩
theorem Wl {st:Store} {xs:List Int} {n:Nat} {i:Int} (tn:af.Tn n xs) (hn:n<=100) (i0:0<=i) (i1:i < (n:Int)):Wp (Em [.tup (xs.map D.int),.int i] st) fun d st'=>∃ r:List Int,d=.tup (r.map D.int)/\af.iz xs i r/\Ex [] st st':=by
 have hlen:=tn.length
 refine eo ?_
 show Ws (Hg [some (.tup (xs.map D.int)),some (.int i),none,none] st) _ _ _ _
 unfold Hg
 refine a5 (bR ?_)
 kspl_open hQ
 refine ⟨rfl,hQ _ _ (a5 (bR ?_))⟩
 clear hQ
 refine bS ?_
 intro df hQ
 set_option simprocs false in simp only [bF,qq (xs:=xs) i0 (by omega)]
 refine hQ _ _ (a5 (y9 (fun m δ st2=>∃ k:Nat,m=n - (k + 1)/\δ=[some (.tup (xs.map D.int)),some (.int i),some (.ref st.length),some (.int (af.bA xs i (k + 1)))]/\st2[st.length]?=some (.lst ((af.row xs i k).map D.int))/\af.NB xs i k/\Ex [] st st2) (n - 1) (YZ (show n - 1<=100 by omega) (by decide)) ⟨0,rfl,rfl,jE,fun j h1 h2=>by omega,Ex.cn _⟩ ?_))
 clear hQ
 rintro m δ st2 ⟨k,rfl,rfl,hL,nb,k2⟩
 have hrl:=tn.kX i0 i1 nb
 kspl_open hQ
 refine hQ _ _ ⟨fun hb=>?_,fun hb=>?_⟩
 ·have hb:af.bA xs i (k + 1)≠i:=by simpa using hb
  have Fn:af.NB xs i (k + 1):=fun j h1 h2=>by
   by_cases hj:j<=k
   ·exact nb j h1 hj
   ·have:j=k + 1:=by omega
    rw [this];exact hb
  have hle:=tn.kX i0 i1 Fn
  have hit:=tn.bA i0 i1 (k + 1)
  refine a5 (qm ?_)
  refine bS ?_
  intro fW bM
  set_option simprocs false in simp only [bF,kZ hL]
  refine ⟨oP (by rw [cv hL];rfl),jz (by rw [X9,af.ui];omega),bM _ _ (bR ?_)⟩
  clear bM
  refine bS ?_
  intro fW bM
  set_option simprocs false in simp only [bF,qq (xs:=xs) hit.1 (by omega)]
  refine bM _ _ ⟨n - (k + 1 + 1),by omega,k + 1,rfl,rfl,?_,Fn,k2.loc (Yd _)⟩
  rw [Yj (eV hL),af.Ni,Ys];rfl
 ·have hb:af.bA xs i (k + 1)=i:=by simpa using hb
  refine de ?_
  refine bS ?_
  intro fW bM
  set_option simprocs false in simp only [bF,cv hL]
  exact bM _ _ ⟨_,rfl,⟨k,rfl,nb,hb⟩,k2⟩
theorem Wm {st:Store} {xs:List Int} {n:Nat} (tn:af.Tn n xs) (hn:n<=100):Wp (Eo [.tup (xs.map D.int)] st) fun d st'=>∃ rs:List (List Int),d=DE rs/\af.wy xs (af.upto n) rs/\(∀ r∈rs,r.length<=n/\∀ x∈r,0<=x/\x < (n:Int))/\rs.length<=n/\Ex [] st st':=by
 have hlen:=tn.length
 refine eo ?_
 show Ws (Hj [some (.tup (xs.map D.int)),none,none,none,none,none] st) _ _ _ _
 unfold Hj
 refine a5 (bR ?_)
 kspl_open hQ
 refine ⟨rfl,hQ _ _ (a5 (bR ?_))⟩
 clear hQ
 kspl_open hQ
 have eS:(st ++ [O.lst []]).length=st.length + 1:=by simp
 rw [eS]
 refine hQ _ _ (a5 (mz (aG 0 n) (fun k δ st2=>∃ (v3 v4 v5:Option D) (rs:List (List Int)) (kvs:List (Key×D)),δ=[some (.tup (xs.map D.int)),some (.ref st.length),some (.ref (st.length + 1)),v3,v4,v5]/\st2[st.length]?=some (.lst (rs.map fun r=>.tup (r.map D.int)))/\st2[st.length + 1]?=some (.dct kvs) /\
   (∀ rest,af.wy xs (af.from' n k (fun x=>(dC kvs (Sum.inl x:Key)).isSome)) rest->af.wy xs (af.upto n) (rs ++ rest))/\(∀ r∈rs,r.length<=n/\∀ x∈r,0<=x/\x < (n:Int))/\rs.length<=k/\kvs.length<=k * n/\Ex [] st st2) ?_ (by rw [gh];omega) ?_ ?_))
 ·clear hQ
  kspl_open hQ
  rw [X9,hlen]
  refine ⟨by omega,hQ _ _ ⟨by rw [Yl],none,none,none,[],[],rfl,jP jE,by rw [<- eS];exact jE,fun rest hrest=>?_,(fun r hr=>nomatch hr),Yd _,YN _,(Ex.cn _).app _⟩⟩
  have e:af.from' n 0 (fun x=>(dC ([]:List (Key×D)) (Sum.inl x:Key)).isSome)=af.upto n:=af.RT n
  rw [e] at hrest
  exact hrest
 ·rintro k d δ st2 hd ⟨v3,v4,v5,rs,kvs,rfl,HX,HY,xr,hb,hrl,oC,k2⟩
  have hk:=eV hd
  rw [gh] at hk
  rw [A0 hk,Int.zero_add] at hd
  cases hd
  have hkn:k * n<=10000:=Yv (Nat.mul_le_mul (show k<=100 by omega) hn) (by decide)
  clear hQ
  kspl_open hQ
  refine hQ _ _ (jD ?_)
  clear hQ
  refine bS ?_
  intro df hQ
  set_option simprocs false in simp only [bF,Oq HY,Ot]
  have hfs:=af.RQ hk (fun x=>(dC kvs (Sum.inl x:Key)).isSome)
  refine hQ _ _ ⟨fun hs=>?_,fun hs=>?_⟩
  ·have Lh:(dC kvs (Sum.inl (k:Int):Key)).isSome=false:=by simpa using hs
   simp only [Lh,Zd,if_false] at hfs
   clear hQ
   refine a5 (bR ?_)
   kspl_open hQ
   refine aV (Wl tn hn (i:=(k:Int)) (by omega) (by omega)) ?_
   rintro d st3 ⟨r,rfl,oR,k3⟩
   refine hQ _ _ (a5 (qm ?_))
   clear hQ
   have Li:=k3.keep _ _ HX (by simp)
   have Wn:=k3.keep _ _ HY (by simp)
   have Lj:=oR.len tn (by omega) (by omega)
   have hrb:=oR.bound tn (by omega) (by omega)
   refine bS ?_
   intro df hQ
   set_option simprocs false in simp only [bF,kZ Li]
   refine ⟨oP (by rw [cv Li];rfl),jz (by rw [X9];omega),hQ _ _ ?_⟩
   clear hQ
   refine mz (r.map D.int) (fun j δ kM=>∃ (v5:Option D) (kvs':List (Key×D)),δ=[some (.tup (xs.map D.int)),some (.ref st.length),some (.ref (st.length + 1)),some (.int (k:Int)),some (.tup (r.map D.int)),v5]/\kM[st.length]?=some (.lst ((rs ++ [r]).map fun r=>.tup (r.map D.int)))/\kM[st.length + 1]?=some (.dct kvs') /\
     (∀ x:Int,(dC kvs' (Sum.inl x:Key)).isSome=((dC kvs (Sum.inl x:Key)).isSome || (r.take j).contains x))/\kvs'.length<=kvs.length + j/\Ex [] st kM) ?_ (by rw [X9];omega) ?_ ?_
   ·kspl_open hQ
    refine hQ _ _ ⟨rfl,v5,kvs,rfl,?_,?_,fun x=>by simp,by omega,(k2.trans k3).loc (Yd _)⟩
    ·rw [Yj (eV Li),Ys];rfl
    ·rw [Yp (by omega)];exact Wn
   ·rintro j y δ kM hj ⟨v5,kvs',rfl,Lk,HZ,Ie,Fp,k5⟩
    obtain ⟨x,hx,rfl⟩:=DH hj
    obtain ⟨hjl,ex⟩:=Ya.mp hx
    subst ex
    kspl_open hQ
    refine hQ _ _ (Tw ?_)
    clear hQ
    kspl_open hQ
    refine hQ _ _ ?_
    kspl_open bM
    refine bM _ _ ?_
    kspl_open qx
    refine qx _ _ ⟨_,kvs',_,rfl,Oq HZ,Ot _,jz (by omega),_,_,rfl,?_,Yj (eV HZ),fun x=>?_,?_,k5.loc (by omega)⟩
    ·rw [Yp (by omega)];exact Lk
    ·rw [Um,Up hjl]
     by_cases hx:x=r[j]
     ·subst hx;simp
     ·rw [if_neg (by intro z;exact hx (Sum.inl.inj z)),Ie x]
      have:(x == r[j])=false:=beq_eq_false_iff_ne.mpr hx
      rw [this,Bool.or_false]
    ·have:=Uo kvs' (Sum.inl r[j]:Key) (.bl true);omega
   ·rintro δ kM ⟨v5,kvs',rfl,Lk,HZ,Ie,Fp,k5⟩
    rw [X9] at Fp Ie
    refine ⟨_,_,_,rs ++ [r],kvs',rfl,Lk,HZ,fun rest hrest=>?_,fun r' hr'=>?_,by rw [Yc];simp;omega,by rw [Nat.succ_mul];omega,k5⟩
    ·have e:(fun x=>(dC kvs' (Sum.inl x:Key)).isSome)=fun x=>((dC kvs (Sum.inl x:Key)).isSome || r.contains x):=by
      funext x;rw [Ie x,YS]
     rw [e,<- af.RS] at hrest
     rw [List.append_assoc]
     refine xr _ ?_
     rw [hfs]
     refine .cons oR ?_
     have e2:af.out ((k:Int) :: af.from' n (k + 1) (fun x=>(dC kvs (Sum.inl x:Key)).isSome)) r=af.out (af.from' n (k + 1) (fun x=>(dC kvs (Sum.inl x:Key)).isSome)) r:=by
      unfold af.out
      rw [List.filter_cons,if_neg (by simp [oR.mem])]
     rw [e2]
     exact hrest
    ·rcases Yz.mp hr' with h | h
     ·exact hb r' h
     ·have:r'=r:=by simpa using h
      subst this
      exact ⟨Lj,hrb⟩
  ·have Lh:(dC kvs (Sum.inl (k:Int):Key)).isSome=true:=by simpa using hs
   simp only [Lh,if_true] at hfs
   exact kS ⟨_,_,_,rs,kvs,rfl,HX,HY,fun rest hrest=>xr rest (by rw [hfs];exact hrest),hb,by omega,by rw [Nat.succ_mul];omega,k2⟩
 ·rintro δ st2 ⟨v3,v4,v5,rs,kvs,rfl,HX,HY,xr,hb,hrl,oC,k2⟩
  rw [gh] at xr hrl
  refine de ?_
  clear hQ
  refine bS ?_
  intro df hQ
  set_option simprocs false in simp only [bF,cv HX]
  refine hQ _ _ ⟨rs,rfl,?_,hb,hrl,k2⟩
  have:=xr [] (by rw [af.RP];exact .nil)
  rwa [List.append_nil] at this
theorem Wo {rs:List (List Int)} {m:Nat} {d:D} (h:(rs.map fun r=>D.tup (r.map D.int))[m]?=some d):∃ r,rs[m]?=some r/\d=.tup (r.map D.int):=by
 rw [Yi] at h
 obtain ⟨r,h1,h2⟩:=YD.mp h
 exact ⟨r,h1,h2.symm⟩
theorem O3 {xs:List Int} {i:Int} {m:Nat} {j:Int} (h0:0<=j) (h1:j < ((m + 1:Nat):Int)):eK ((af.row xs i m).map D.int) j=some (.int (af.bA xs i j.toNat)):=by
 have e:((af.row xs i m).map D.int)[j.toNat]?=some (.int (af.bA xs i j.toNat)):=by
  unfold af.row
  rw [YF,Yi,List.getElem?_range (by omega)];rfl
 have:=Av e
 rwa [YG h0] at this
theorem O4 {bs:List Int} {m v x:Int} (h0:0<=m) (h1:m < (bs.length:Int)) (x0:0<=x):af.app (bs.set m.toNat v) x=if x=m then v else af.app bs x:=by
 have:=af.JP (xs:=bs) (m:=m.toNat) (v:=v) (x:=x) (by omega) x0
 rw [YG h0] at this
 exact this
theorem Wq {st:Store} {xs:List Int} {n:Nat} {k:Int} (tn:af.Tn n xs) (hn:n<=100):Wp (Er [.tup (xs.map D.int),.int k] st) fun d st'=>d=.tup ((af.cB xs k).map D.int)/\Ex [] st st':=by
 have hlen:=tn.length
 refine eo ?_
 show Ws (Hk [some (.tup (xs.map D.int)),some (.int k),none,none,none,none] st) _ _ _ _
 unfold Hk
 refine a5 (bR ?_)
 kspl_open hQ
 have e0:(((xs.map D.int).length:Int)).toNat=n:=by rw [X9];omega
 have ez:(List.replicate n [D.int 0]).flatten=(List.replicate n (0:Int)).map D.int:=by
  clear hlen tn hn e0
  induction n with
  | zero=>rfl
  | succ n ih=>simp [YT]
 rw [e0,ez]
 have Fh:st.length<=(st ++ [O.lst [D.int 0]]).length:=by simp
 refine ⟨rfl,by rw [X9];omega,jz (by simp;omega),hQ _ _ ?_⟩
 clear hQ
 have Ll:(st ++ [O.lst [D.int 0]] ++ [O.lst ((List.replicate n (0:Int)).map D.int)])[(st ++ [O.lst [D.int 0]]).length]?=some (.lst ((List.replicate n (0:Int)).map D.int)):=jE
 have kB:Ex [] st (st ++ [O.lst [D.int 0]] ++ [O.lst ((List.replicate n (0:Int)).map D.int)]):=(Ex.cn _).app _
 generalize (st ++ [O.lst [D.int 0]] ++ [O.lst ((List.replicate n (0:Int)).map D.int)])=Wr at Ll kB ⊢
 generalize (st ++ [O.lst [D.int 0]]).length=B at Fh Ll ⊢
 show Ws _ _ _ _ _
 obtain ⟨d,st2,e2,rs,rfl,xr,hrb,hrl,k2⟩:=Wm (st:=Wr) tn hn
 refine a5 (mz (rs.map fun r=>.tup (r.map D.int)) (fun m δ st3=>∃ (v3 v4 v5:Option D) (bs:List Int),δ=[some (.tup (xs.map D.int)),some (.int k),some (.ref B),v3,v4,v5]/\st3[B]?=some (.lst (bs.map D.int))/\bs.length=n/\(∀ j,j < m->∀ r,rs[j]?=some r->∀ x∈r,af.app bs x=af.pw xs k x)/\Ex [] st st3) ?_ (by rw [X9];omega) ?_ ?_)
 ·kspl_open hQ
  refine ⟨_,_,e2,?_⟩
  exact ⟨_,rfl,hQ _ _ ⟨rfl,none,none,none,_,rfl,k2.keep _ _ Ll (by simp),by simp,fun j hj=>absurd hj (YY _),kB.trans k2⟩⟩
 ·rintro m d δ st3 hm ⟨v3,v4,v5,bs,rfl,Lm,uB,vB,k3⟩
  obtain ⟨r,hr,rfl⟩:=Wo hm
  obtain ⟨i,hi,oR⟩:=xr.all.1 r (Yf hr)
  obtain ⟨i0,i1⟩:=af.nu.mp hi
  obtain ⟨M,rfl,nb,bk⟩:=oR.ex
  have hM:=tn.kX i0 i1 nb
  kspl_open hQ
  refine hQ _ _ (mz (nc ((af.row xs i M).map D.int)) (fun t δ ni=>∃ (v4 v5:Option D) (cs:List Int),δ=[some (.tup (xs.map D.int)),some (.int k),some (.ref B),some (.tup ((af.row xs i M).map D.int)),v4,v5]/\ni[B]?=some (.lst (cs.map D.int))/\cs.length=n/\(∀ x:Int,0<=x->x < (n:Int)->af.app bs x=af.pw xs k x->af.app cs x=af.pw xs k x)/\(∀ j,j < t->af.app cs (af.bA xs i j)=af.pw xs k (af.bA xs i j))/\Ex [] st ni) ?_ ?_ ?_ ?_)
  ·clear hQ
   kspl_open hQ
   exact hQ _ _ ⟨rfl,v4,v5,bs,rfl,Lm,uB,fun _ _ _ h=>h,fun j hj=>absurd hj (YY _),k3⟩
  ·rw [Df,X9,af.ui];omega
  ·rintro t d δ ni hd ⟨v4,v5,cs,rfl,Ig,hcl,hcs,hct,k4⟩
   obtain ⟨d',hd',rfl⟩:=Ks hd
   obtain ⟨y,hy,rfl⟩:=DH hd'
   have O5:=eV hy
   rw [af.ui] at O5
   have ey:y=af.bA xs i t:=by
    unfold af.row at hy
    rw [Yi,List.getElem?_range O5] at hy
    exact (Ym hy).symm
   subst ey
   obtain ⟨x0,x1⟩:=tn.bA i0 i1 t
   have hL:(0:Int) < ((M + 1:Nat):Int):=by omega
   have m0:=Y3 ((t:Int) + k) (Int.ne_of_gt hL)
   have m1:=Ze ((t:Int) + k) hL
   have eL:((((af.row xs i M).map D.int).length:Nat):Int)=((M + 1:Nat):Int):=by rw [X9,af.ui]
   have hix:m8 (cs.map D.int).length (af.bA xs i t)=some (af.bA xs i t).toNat:=by
    have:=AA (n:=(cs.map D.int).length) (j:=(af.bA xs i t).toNat) (by rw [X9];omega)
    rwa [YG x0] at this
   have es:∀ v:Int,(cs.map D.int).set (af.bA xs i t).toNat (.int v)=(cs.set (af.bA xs i t).toNat v).map D.int:=fun v=>by rw [List.map_set]
   clear hQ
   kspl_open hQ
   refine ⟨rfl,hQ _ _ (rY ?_)⟩
   clear hQ
   refine bS ?_
   intro df hQ
   set_option simprocs false in simp only [bF,eL,O3 m0 m1]
   refine ⟨hL,hQ _ _ ?_⟩
   clear hQ
   refine bS ?_
   intro df hQ
   set_option simprocs false in simp only [bF,kZ Ig,hix,es]
   have hat:=tn.yl x0 x1 (tn.yh i0 i1 nb bk t k)
   refine hQ _ _ ⟨_,_,_,rfl,Yj (eV Ig),by rw [YX];exact hcl,fun x h0 h1 h=>?_,fun j hj=>?_,k4.loc Fh⟩
   ·rw [O4 x0 (by omega) h0]
    split
    ·next e=>rw [e];exact hat
    ·exact hcs x h0 h1 h
   ·obtain ⟨y0,y1⟩:=tn.bA i0 i1 j
    rw [O4 x0 (by omega) y0]
    split
    ·next e=>rw [e];exact hat
    ·next e =>
     by_cases Wt:j=t
     ·rw [Wt] at e;exact absurd rfl e
     ·exact hct j (by omega)
  ·rintro δ ni ⟨v4,v5,cs,rfl,Ig,hcl,hcs,hct,k4⟩
   rw [Df,X9,af.ui] at hct
   refine ⟨_,_,_,cs,rfl,Ig,hcl,fun j hj r hr2 x hx=>?_,k4⟩
   by_cases Wu:j=m
   ·subst Wu
    rw [hr] at hr2
    cases hr2
    obtain ⟨jj,XW,rfl⟩:=af.F5.mp hx
    exact hct jj (by omega)
   ·obtain ⟨b0,b1⟩:=(hrb r (Yf hr2)).2 x hx
    exact hcs x b0 b1 (vB j (by omega) r hr2 x hx)
 ·rintro δ st3 ⟨v3,v4,v5,bs,rfl,Lm,uB,vB,k3⟩
  rw [X9] at vB
  have e:bs=af.cB xs k:=by
   refine af.qK (n:=n) uB (by rw [af.CJ];exact hlen) fun s s0 s1=>?_
   rw [af.qh s0 (by omega)]
   obtain ⟨r,hr',hx⟩:=xr.all.2 s (af.nu.mpr ⟨s0,s1⟩)
   obtain ⟨j,hj,ej⟩:=Y8 hr'
   exact vB j hj r (by rw [Yb hj,ej]) s hx
  subst e
  refine de ?_
  refine bS ?_
  intro df hQ
  set_option simprocs false in simp only [bF,cv Lm]
  exact hQ _ _ ⟨rfl,k3⟩
theorem Wv {st:Store} {xs ys:List Int} {n:Nat} {k:Int} (tx:af.Tn n xs) (ty:af.Tn n ys) (hn:n<=100):Wp (Eu [bT xs ys,.int k] st) fun d st'=>d=bT xs (af.shr xs ys k)/\Ex [] st st':=by
 refine eo ?_
 show Ws (Hl [some (bT xs ys),some (.int k)] st) _ _ _ _
 unfold Hl bT
 refine de ?_
 have tp:=tx.cB (-k)
 kspl_open hQ
 refine aV (Wq (k:=-k) tx hn) ?_
 rintro d st1 ⟨rfl,k1⟩
 refine aV (Fi (xs:=af.cB xs (-k)) (ys:=ys) (fun x hx=>by rw [ty.length];exact tp.bound hx) (by rw [tp.length];exact hn)) ?_
 rintro d st2 ⟨rfl,k2⟩
 exact ⟨rfl,hQ _ _ ⟨rfl,k1.trans k2⟩⟩
theorem Ww {st:Store} {xs ys:List Int} {n:Nat} (tx:af.Tn n xs) (ty:af.Tn n ys) (hn:n<=100):Wp (Ey [bT xs ys] st) fun d st'=>d=bT (af.inv ys) xs/\Ex [] st st':=by
 refine eo ?_
 show Ws (Hm [some (bT xs ys)] st) _ _ _ _
 unfold Hm bT
 refine de ?_
 kspl_open hQ
 refine aV (Lg ty hn) ?_
 rintro d st1 ⟨rfl,k1⟩
 exact ⟨rfl,hQ _ _ ⟨rfl,k1⟩⟩
theorem Ln {st:Store} {Q:D->Store->Prop} {xs:List Int} {v:Int} (h:v∈xs):Wp (iB (.tup (xs.map D.int)) [.int v] st) Q↔Q (.int (xs.idxOf v:Int)) st:=by
 rw [Oe]
 constructor
 ·rintro ⟨ns,j,h1,h2,q⟩
  rw [Ky] at h1
  cases h1
  rw [Om h] at h2
  cases h2
  exact q
 ·intro q
  exact ⟨xs,_,Ky xs,Om h,q⟩
theorem Wx {st:Store} {xs ys p:List Int} {n:Nat} (tx:af.Tn n xs) (ty:af.Tn n ys) (tp:af.Tn n p) (hn:n<=100):Wp (D6 [bT xs ys,.tup (p.map D.int)] st) fun d st'=>d=bT (af.anew xs p) (af.anew ys p)/\Ex [] st st':=by
 have Fj:=tp.length
 refine eo ?_
 show Ws (G2 [some (bT xs ys),some (.tup (p.map D.int))] st) _ _ _ _
 unfold G2 bT
 refine de ?_
 kspl_open hQ
 refine r6 [.tup (xs.map D.int),.tup (ys.map D.int)] (fun d=>match d with | .tup ds=>.tup ((af.anew (ds.map inD) p).map D.int) | _=>.non) ?_ (by simp) ?_ ?_
 ·kspl_open bM
  exact bM _ _ ⟨rQ _ _,Ex.refl⟩
 ·intro d hd st1 k1
  obtain ⟨zs,rfl,tz⟩:∃ zs:List Int,d=.tup (zs.map D.int)/\af.Tn n zs:=by
   rcases YC.mp hd with rfl | hd
   ·exact ⟨xs,rfl,tx⟩
   ·exact ⟨ys,Yr.mp hd,ty⟩
  have Ld:=tz.length
  refine bS ?_
  intro fW bM
  set_option simprocs false in simp only [bF,Yu,YM,YK,YL]
  refine r6 (aG 0 n) (fun d=>.int (af.app p (af.app zs (p.idxOf (inD d):Int)))) ?_ (by rw [gh];omega) ?_ ?_
  ·kspl_open qx
   rw [X9,Fj]
   exact ⟨by omega,qx _ _ ⟨by rw [Yl];exact rQ _ _,Ex.refl⟩⟩
  ·intro d hd st2 k2
   rw [qo] at hd
   obtain ⟨x,hx,rfl⟩:=vf hd
   obtain ⟨x0,x1⟩:=af.nu.mp hx
   have hm:=tp.mem x0 x1
   have hi:=tp.idx x0 x1
   obtain ⟨a0,a1⟩:=tz.app (i:=(p.idxOf x:Int)) (by omega) (by omega)
   refine bS ?_
   intro Ac qx
   set_option simprocs false in simp only [bF,Yu,YM,YK,YL,Kx,Ln hm,qq (xs:=zs) (i:=(p.idxOf x:Int)) (by omega) (by omega),qq (xs:=p) a0 (by omega)]
   exact qx _ _ ⟨rfl,Ex.refl⟩
  ·intro st' k'
   have e:(aG 0 n).map (fun d=>D.int (af.app p (af.app zs (p.idxOf (inD d):Int))))=(af.anew zs p).map D.int:=by
    rw [qo,zx (f:=fun x=>af.app p (af.app zs (p.idxOf x:Int))) fun x hx=>rfl]
    congr 1
    unfold af.anew af.aZ af.inv
    rw [YF,YF,Fj]
    rfl
   rw [e]
   w_how
   refine bM _ _ ⟨?_,k'.app _⟩
   show D.tup _=D.tup ((af.anew ((zs.map D.int).map inD) p).map D.int)
   rw [YF]
   congr 3
   exact (List.map_id zs).symm
 ·intro st' k'
  w_how
  refine hQ _ _ ⟨?_,k'.app _⟩
  have e:∀ zs:List Int,(zs.map D.int).map inD=zs:=fun zs=>by rw [YF];exact List.map_id zs
  simp only [Yu,YM,e]
theorem O6 {xs:List Int} {i:Int} {m:Nat}:eK ((af.row xs i m).map D.int) (-1)=some (.int (af.bA xs i m)):=by
 have hl:((af.row xs i m).map D.int).length=m + 1:=by rw [X9,af.ui]
 unfold eK m8
 rw [if_neg (by decide),hl,if_pos (by omega),Za,show ((-1:Int) + ((m + 1:Nat):Int)).toNat=m by omega]
 unfold af.row
 rw [YF,Yi,List.getElem?_range (by omega)];rfl
theorem Wy {st:Store} {xs:List Int} {n:Nat} {s k:Int} (tn:af.Tn n xs) (hn:n<=100) (s0:0<=s) (s1:s < (n:Int)):Wp (DZ [.tup (xs.map D.int),.int s,.int k] st) fun d st'=>d=.int (af.pw xs k s)/\Ex [] st st':=by
 have hlen:=tn.length
 refine eo ?_
 show Ws (GX [some (.tup (xs.map D.int)),some (.int s),some (.int k),none] st) _ _ _ _
 unfold GX
 refine a5 (y8 (N:=fun δ st1=>∃ (zs:List Int) (j:Nat),δ=[some (.tup (zs.map D.int)),some (.int s),some (.int (j:Int)),none]/\af.Tn n zs/\af.bA zs s j=af.pw xs k s/\Ex [] st st1) (jD ?_) ?_)
 ·kspl_open hQ
  refine hQ _ _ ⟨fun h=>?_,fun h=>kS ⟨xs,k.toNat,?_,tn,?_,Ex.refl⟩⟩
  ·have h:=of_decide_eq_true h
   clear hQ
   refine a5 (bR ?_)
   kspl_open hQ
   refine r6 (aG 0 n) (fun d=>.int (xs.idxOf (inD d):Int)) ?_ (by rw [gh];omega) ?_ ?_
   ·kspl_open bM
    rw [X9,hlen]
    exact ⟨by omega,bM _ _ ⟨by rw [Yl];exact rQ _ _,Ex.refl⟩⟩
   ·intro d hd rD k7
    rw [qo] at hd
    obtain ⟨x,hx,rfl⟩:=vf hd
    obtain ⟨x0,x1⟩:=af.nu.mp hx
    refine bS ?_
    intro fW bM
    set_option simprocs false in simp only [bF,Yu,YM,YK,YL,Kx,Ln (tn.mem x0 x1)]
    exact bM _ _ ⟨rfl,Ex.refl⟩
   ·intro rD k7
    have e:(aG 0 n).map (fun d=>D.int (xs.idxOf (inD d):Int))=(af.inv xs).map D.int:=by
     rw [qo,zx (f:=fun x=>(xs.idxOf x:Int)) fun x hx=>rfl]
     unfold af.inv
     rw [hlen]
    rw [e]
    w_how
    refine hQ _ _ (bR ?_)
    clear hQ
    kspl_open hQ
    refine hQ _ _ ⟨af.inv xs,(-k).toNat,?_,tn.aD,?_,k7.app _⟩
    ·rw [show (0:Int) - k=(((-k).toNat:Nat):Int) by omega];rfl
    ·unfold af.pw;rw [if_neg (by omega)]
  ·have h:=of_decide_eq_false h
   rw [YG (by omega)]
  ·have h:=of_decide_eq_false h
   unfold af.pw;rw [if_pos (by omega)]
 rintro δ st1 ⟨zs,j,rfl,tz,ej,k1⟩
 have Ld:=tz.length
 refine a5 (bR ?_)
 kspl_open hQ
 refine ⟨rfl,hQ _ _ (a5 (y9 (fun m δ st2=>∃ k:Nat,m=n - (k + 1)/\δ=[some (.tup (zs.map D.int)),some (.int s),some (.int (j:Int)),some (.ref st1.length)]/\st2[st1.length]?=some (.lst ((af.row zs s k).map D.int))/\af.NB zs s k/\Ex [] st1 st2) (n - 1) (YZ (show n - 1<=100 by omega) (by decide)) ⟨0,rfl,rfl,jE,fun j h1 h2=>by omega,Ex.cn _⟩ ?_))⟩
 clear hQ
 rintro m δ st2 ⟨k',rfl,rfl,hL,nb,k2⟩
 have hrl:=tz.kX s0 s1 nb
 obtain ⟨y0,y1⟩:=tz.bA s0 s1 k'
 refine bS ?_
 intro df hQ
 set_option simprocs false in simp only [bF,cv hL,O6,qq (xs:=zs) y0 (by omega)]
 refine hQ _ _ ⟨fun hb=>?_,fun hb=>?_⟩
 ·have hb:af.bA zs s (k' + 1)≠s:=by show af.app zs (af.bA zs s k')≠s;simpa using hb
  have Fn:af.NB zs s (k' + 1):=fun j h1 h2=>by
   by_cases hj:j<=k'
   ·exact nb j h1 hj
   ·have:j=k' + 1:=by omega
    rw [this];exact hb
  have hle:=tz.kX s0 s1 Fn
  refine qm ?_
  refine bS ?_
  intro fW bM
  set_option simprocs false in simp only [bF,cv hL,O6,qq (xs:=zs) y0 (by omega),kZ hL]
  refine ⟨oP (by rw [cv hL];rfl),jz (by rw [X9,af.ui];omega),bM _ _ ⟨n - (k' + 1 + 1),by omega,k' + 1,rfl,rfl,?_,Fn,k2.loc (Yd _)⟩⟩
  rw [Yj (eV hL),af.Ni,Ys];rfl
 ·have hb:af.bA zs s (k' + 1)=s:=by show af.app zs (af.bA zs s k')=s;simpa using hb
  refine de ?_
  have hpos:(0:Int) < ((k' + 1:Nat):Int):=by omega
  have eL:((((af.row zs s k').map D.int).length:Nat):Int)=((k' + 1:Nat):Int):=by rw [X9,af.ui]
  refine bS ?_
  intro fW bM
  set_option simprocs false in simp only [bF,cv hL,eL,O3 (Y3 (j:Int) (Int.ne_of_gt hpos)) (Ze (j:Int) hpos)]
  refine ⟨hpos,bM _ _ ⟨?_,k1.trans k2⟩⟩
  rw [<- ej,show ((j:Int) % ((k' + 1:Nat):Int)).toNat=j % (k' + 1) by omega,af.Nl hb]
theorem Wz {st:Store} {xs ys:List Int} {n:Nat} {k:Int} (tx:af.Tn n xs) (ty:af.Tn n ys) (hn:n<=100):Wp (tR [bT xs ys,.tup [.str "s",.int k]] st) fun d st'=>d=bT xs (af.shr xs ys k)/\Ex [] st st':=by
 have hlx:=tx.length
 have Bm:=ty.length
 refine eo ?_
 show Ws (A7 [some (bT xs ys),some (.tup [.str "s",.int k]),none,none,none] st) _ _ _ _
 unfold A7 bT
 refine a5 (rY ?_)
 kspl_open hQ
 refine hQ _ _ ?_
 clear hQ
 kspl_open hQ
 refine ⟨rfl,hQ _ _ (a5 (jD ?_))⟩
 clear hQ
 kspl_open hQ
 refine hQ _ _ ⟨fun _=>de ?_,fun h=>absurd h (by simp)⟩
 clear hQ
 kspl_open hQ
 refine r6 (aG 0 n) (fun d=>.int (af.app ys (af.pw xs (-k) (inD d)))) ?_ (by rw [gh];omega) ?_ ?_
 ·kspl_open bM
  rw [X9,Bm]
  exact ⟨by omega,bM _ _ ⟨by rw [Yl];exact rQ _ _,Ex.refl⟩⟩
 ·intro d hd rD k7
  rw [qo] at hd
  obtain ⟨x,hx,rfl⟩:=vf hd
  obtain ⟨x0,x1⟩:=af.nu.mp hx
  obtain ⟨p0,p1⟩:=tx.pw x0 x1 (-k)
  refine bS ?_
  intro fW bM
  set_option simprocs false in simp only [bF,Yu,YM,YK,YL]
  refine aV (Wy (k:=0 - k) tx hn x0 x1) ?_
  rintro d jF ⟨rfl,k8⟩
  rw [show (0:Int) - k=-k by omega]
  set_option simprocs false in simp only [bF,qq (xs:=ys) p0 (by omega)]
  exact bM _ _ ⟨rfl,k8⟩
 ·intro rD k7
  have e:(aG 0 n).map (fun d=>D.int (af.app ys (af.pw xs (-k) (inD d))))=(af.shr xs ys k).map D.int:=by
   rw [qo,zx (f:=fun x=>af.app ys (af.pw xs (-k) x)) fun x hx=>rfl]
   unfold af.shr af.aZ af.cB
   rw [hlx,YF,YF,YF]
   rfl
  rw [e]
  w_how
  exact ⟨rfl,hQ _ _ ⟨rfl,k7.app _⟩⟩
def oG (xs ys:List Int):Nat->List Int×List Int
 | 0=>(xs,ys)
 | j + 1=>(af.inv (oG xs ys j).2,(oG xs ys j).1)
theorem Fq {n:Nat} {xs ys:List Int} (tx:af.Tn n xs) (ty:af.Tn n ys):∀ j,af.Tn n (oG xs ys j).1/\af.Tn n (oG xs ys j).2
 | 0=>⟨tx,ty⟩
 | j + 1=>⟨(Fq tx ty j).2.aD,(Fq tx ty j).1⟩
theorem WA {st:Store} {xs ys:List Int} {n j:Nat} (tx:af.Tn n xs) (ty:af.Tn n ys) (hn:n<=100) (hj:j < 4):Wp (tR [bT xs ys,.tup [.str "t",.int (j:Int)]] st) fun d st'=>d=bT (oG xs ys j).1 (oG xs ys j).2/\Ex [] st st':=by
 refine eo ?_
 show Ws (A7 [some (bT xs ys),some (.tup [.str "t",.int (j:Int)]),none,none,none] st) _ _ _ _
 unfold A7 bT
 refine a5 (rY ?_)
 kspl_open hQ
 refine hQ _ _ ?_
 clear hQ
 kspl_open hQ
 refine ⟨rfl,hQ _ _ (a5 (jD ?_))⟩
 clear hQ
 kspl_open hQ
 refine hQ _ _ ⟨fun h=>absurd h (by decide),fun _=>kS (a5 (mz (aG 0 j) (fun i δ st2=>∃ v4:Option D,δ=[some (.tup [.tup (xs.map D.int),.tup (ys.map D.int)]),some (.tup [.str "t",.int (j:Int)]),some (.tup ((oG xs ys i).1.map D.int)),some (.tup ((oG xs ys i).2.map D.int)),v4]/\Ex [] st st2) ?_ (by rw [gh];omega) ?_ ?_))⟩
 ·clear hQ
  kspl_open hQ
  rw [show (j:Int) % 4=(j:Int) by omega]
  exact ⟨by omega,by omega,hQ _ _ ⟨by rw [Yl],none,rfl,Ex.refl⟩⟩
 ·rintro i d δ st2 hd ⟨v4,rfl,k2⟩
  obtain ⟨ta,tb⟩:=Fq tx ty i
  show Wp _ _
  have hlb:=tb.length
  generalize hzs:(oG xs ys i).2=zs at tb hlb ⊢
  clear hQ
  kspl_open hQ
  refine hQ _ _ (rY ?_)
  clear hQ
  kspl_open hQ
  refine r6 (aG 0 n) (fun d=>.int (zs.idxOf (inD d):Int)) ?_ (by rw [gh];omega) ?_ ?_
  ·kspl_open bM
   rw [X9,hlb]
   exact ⟨by omega,bM _ _ ⟨by rw [Yl];exact rQ _ _,Ex.refl⟩⟩
  ·intro d hd rD k7
   rw [qo] at hd
   obtain ⟨x,hx,rfl⟩:=vf hd
   obtain ⟨x0,x1⟩:=af.nu.mp hx
   refine bS ?_
   intro fW bM
   set_option simprocs false in simp only [bF,Yu,YM,YK,YL,Kx,Ln (tb.mem x0 x1)]
   exact bM _ _ ⟨rfl,Ex.refl⟩
  ·intro rD k7
   have e:(aG 0 n).map (fun d=>D.int (zs.idxOf (inD d):Int))=(af.inv zs).map D.int:=by
    rw [qo,zx (f:=fun x=>(zs.idxOf x:Int)) fun x hx=>rfl]
    unfold af.inv
    rw [hlb]
   rw [e]
   w_how
   refine ⟨rfl,hQ _ _ ?_⟩
   clear hQ
   kspl_open hQ
   refine ⟨rfl,hQ _ _ ⟨some d,?_,(k2.trans k7).app _⟩⟩
   rw [show (oG xs ys (i + 1)).1=af.inv (oG xs ys i).2 from rfl,show (oG xs ys (i + 1)).2=(oG xs ys i).1 from rfl,hzs]
 ·rintro δ st2 ⟨v4,rfl,k2⟩
  rw [gh]
  refine de ?_
  clear hQ
  kspl_open hQ
  exact ⟨rfl,hQ _ _ ⟨rfl,k2⟩⟩
def Bn (s:cS):Prop:=s.1=false->1<=s.2/\s.2<=3
def gR (p:List Int×List Int) (s:cS):List Int×List Int:=if s.1=true then (p.1,af.shr p.1 p.2 s.2) else oG p.1 p.2 s.2.toNat
def my (p:List Int×List Int) (w:List cS):List Int×List Int:=w.foldl gR p
theorem WB {n:Nat} {p:List Int×List Int} (h:af.Tn n p.1/\af.Tn n p.2) (s:cS):af.Tn n (gR p s).1/\af.Tn n (gR p s).2:=by
 unfold gR
 split
 ·exact ⟨h.1,h.1.shr h.2 _⟩
 ·exact Fq h.1 h.2 _
theorem Lo {n:Nat}:∀ {p:List Int×List Int},af.Tn n p.1/\af.Tn n p.2->∀ w:List cS,af.Tn n (my p w).1/\af.Tn n (my p w).2
 | _,h,[]=>h
 | _,h,s :: w=>Lo (WB h s) w
theorem WC (p:List Int×List Int) (v w:List cS):my p (v ++ w)=my (my p v) w:=by unfold my;rw [Y6]
theorem O7 (p:List Int×List Int) (w:List cS) (s:cS):my p (w ++ [s])=gR (my p w) s:=by rw [WC];rfl
def bO (p:List Int×List Int):D:=bT p.1 p.2
theorem O8 {st:Store} {p:List Int×List Int} {n:Nat} {s:cS} (h:af.Tn n p.1/\af.Tn n p.2) (hn:n<=100) (hs:Bn s):Wp (tR [bO p,aY s] st) fun d st'=>d=bO (gR p s)/\Ex [] st st':=by
 obtain ⟨b,k⟩:=s
 cases b with
 | true=>exact Wz (k:=k) h.1 h.2 hn
 | false =>
  obtain ⟨k1,k3⟩:=hs rfl
  obtain ⟨j,rfl⟩:∃ j:Nat,k=(j:Int):=⟨k.toNat,by simp only at k1;omega⟩
  have:=WA (st:=st) (j:=j) h.1 h.2 hn (by simp only at k3;omega)
  refine aV this ?_
  rintro d st1 ⟨rfl,k1⟩
  refine ⟨?_,k1⟩
  unfold bO gR
  rw [if_neg (show ¬ (false=true) from Yh),Yl]
theorem O9 {st:Store} {p:List Int×List Int} {n:Nat} {w:List cS} (h:af.Tn n p.1/\af.Tn n p.2) (hn:n<=100) (hw:∀ s∈w,Bn s) (hl:w.length<=1000):Wp (vA [bO p,.tup (w.map aY)] st) fun d st'=>d=bO (my p w)/\Ex [] st st':=by
 refine eo ?_
 show Ws (HM [some (bO p),some (.tup (w.map aY)),none] st) _ _ _ _
 unfold HM
 refine a5 (mz (w.map aY) (fun i δ st2=>∃ v2:Option D,δ=[some (bO (my p (w.take i))),some (.tup (w.map aY)),v2]/\Ex [] st st2) ?_ (by rw [X9];omega) ?_ ?_)
 ·kspl_open hQ
  exact hQ _ _ ⟨rfl,none,rfl,Ex.refl⟩
 ·rintro i d δ st2 hd ⟨v2,rfl,k2⟩
  rw [Yi] at hd
  obtain ⟨s,hs,rfl⟩:=YD.mp hd
  obtain ⟨hil,es⟩:=Ya.mp hs
  kspl_open hQ
  refine hQ _ _ (bR ?_)
  clear hQ
  kspl_open hQ
  refine aV (O8 (Lo h _) hn (hw s (Yf hs))) ?_
  rintro d st3 ⟨rfl,k3⟩
  refine hQ _ _ ⟨some (aY s),?_,k2.trans k3⟩
  rw [YB hil,O7,es]
  rfl
 ·rintro δ st2 ⟨v2,rfl,k2⟩
  rw [X9,YS]
  refine de ?_
  kspl_open hQ
  exact hQ _ _ ⟨rfl,k2⟩
theorem WD {st:Store} {p:List Int×List Int} {n:Nat} {s:cS} (h:af.Tn n p.1/\af.Tn n p.2) (hn:n<=100) (hs:Bn s):Wp (EA [bO p,aY s] st) fun d st'=>d=bO (gR p s)/\Ex [] st st':=by
 obtain ⟨b,k⟩:=s
 refine eo ?_
 show Ws (Hn [some (bO p),some (aY (b,k)),none,none] st) _ _ _ _
 unfold Hn aY
 cases b with
 | true =>
  refine a5 (jD ?_)
  kspl_open hQ
  refine hQ _ _ ⟨fun _=>de ?_,fun z=>absurd z (by decide)⟩
  clear hQ
  kspl_open hQ
  refine aV (Wv (k:=k) h.1 h.2 hn) ?_
  rintro d st1 ⟨rfl,k1⟩
  exact hQ _ _ ⟨rfl,k1⟩
 | false =>
  obtain ⟨k1,k3⟩:=hs rfl
  obtain ⟨j,rfl⟩:∃ j:Nat,k=(j:Int):=⟨k.toNat,by simp only at k1;omega⟩
  refine a5 (jD ?_)
  kspl_open hQ
  refine hQ _ _ ⟨fun z=>absurd z (by decide),fun _=>kS (a5 (bR ?_))⟩
  clear hQ
  kspl_open hQ
  refine hQ _ _ (a5 (mz (aG 0 j) (fun i δ st2=>∃ v3:Option D,δ=[some (bO p),some (aY (false,(j:Int))),some (bT (oG p.1 p.2 i).1 (oG p.1 p.2 i).2),v3]/\Ex [] st st2) ?_ (by rw [gh];simp only at k3;omega) ?_ ?_))
  ·clear hQ
   kspl_open hQ
   exact ⟨by simp only at k3;omega,hQ _ _ ⟨by rw [Yl],none,rfl,Ex.refl⟩⟩
  ·rintro i d δ st2 hd ⟨v3,rfl,k2⟩
   obtain ⟨ta,tb⟩:=Fq h.1 h.2 i
   clear hQ
   kspl_open hQ
   refine hQ _ _ (bR ?_)
   clear hQ
   kspl_open hQ
   refine aV (Ww ta tb hn) ?_
   rintro d' st3 ⟨rfl,k3⟩
   exact hQ _ _ ⟨some d,rfl,k2.trans k3⟩
  ·rintro δ st2 ⟨v3,rfl,k2⟩
   rw [gh]
   refine de ?_
   clear hQ
   kspl_open hQ
   refine hQ _ _ ⟨?_,k2⟩
   unfold bO gR
   rw [if_neg (show ¬ (false=true) from Yh),Yl]
theorem WE {st:Store} {p:List Int×List Int} {n:Nat} {w:List cS} (h:af.Tn n p.1/\af.Tn n p.2) (hn:n<=100) (hw:∀ s∈w,Bn s) (hl:w.length<=1000):Wp (EC [bO p,.tup (w.map aY)] st) fun d st'=>d=bO (my p w)/\Ex [] st st':=by
 refine eo ?_
 show Ws (Hq [some (bO p),some (.tup (w.map aY)),none,none] st) _ _ _ _
 unfold Hq
 refine a5 (bR ?_)
 kspl_open hQ
 refine hQ _ _ (a5 (mz (w.map aY) (fun i δ st2=>∃ v2:Option D,δ=[some (bO p),some (.tup (w.map aY)),some (bO (my p (w.take i))),v2]/\Ex [] st st2) ?_ (by rw [X9];omega) ?_ ?_))
 ·clear hQ
  kspl_open hQ
  exact hQ _ _ ⟨rfl,none,rfl,Ex.refl⟩
 ·rintro i d δ st2 hd ⟨v2,rfl,k2⟩
  rw [Yi] at hd
  obtain ⟨s,hs,rfl⟩:=YD.mp hd
  obtain ⟨hil,es⟩:=Ya.mp hs
  clear hQ
  kspl_open hQ
  refine hQ _ _ (bR ?_)
  clear hQ
  kspl_open hQ
  refine aV (WD (Lo h _) hn (hw s (Yf hs))) ?_
  rintro d st3 ⟨rfl,k3⟩
  refine hQ _ _ ⟨some (aY s),?_,k2.trans k3⟩
  rw [YB hil,O7,es]
  rfl
 ·rintro δ st2 ⟨v2,rfl,k2⟩
  rw [X9,YS]
  refine de ?_
  clear hQ
  kspl_open hQ
  exact hQ _ _ ⟨rfl,k2⟩
def p3 (g:Int) (s:cS):Prop:=(s.1=false->1<=s.2/\s.2<=3)/\(s.2.natAbs:Int)<=g/\s.2≠0
theorem WG {st:Store} {f:Nat} {most great:Int} (hf:bp st f) (m0:0<=most) (m1:most<=100) (g0:3<=great) (g1:great<=1000):Wp (D8 [.ref f,.int most,.int great] st) fun d st'=>∃ w:List cS,d=.tup (w.map aY)/\(∀ s∈w,p3 great s)/\(w.length:Int)<=most/\bp st' f/\Ex [f] st st':=by
 have hfl:=hf.lt
 refine eo ?_
 show Ws (G3 [some (.ref f),some (.int most),some (.int great),none,none] st) _ _ _ _
 unfold G3
 refine a5 (bR ?_)
 kspl_open hQ
 refine ⟨rfl,hQ _ _ ?_⟩
 clear hQ
 show Ws _ _ _ _ _
 obtain ⟨d,st1,e1,c,rfl,c0,c1,f1,k1⟩:=rR (st:=st ++ [O.lst []]) (n:=most + 1) (hf.keep (Ex.cn _)) (by omega) (by omega)
 obtain ⟨m,rfl⟩:∃ m:Nat,c=(m:Int):=⟨c.toNat,by omega⟩
 have hl1:st1[st.length]?=some (.lst []):=k1.keep _ _ jE (by simp;omega)
 have kx:Ex [f] st st1:=(Ex.cn _).trans k1
 refine a5 (mz (aG 0 m) (fun i δ st2=>∃ (v4:Option D) (w:List cS),δ=[some (.ref f),some (.int most),some (.int great),some (.ref st.length),v4]/\st2[st.length]?=some (.lst (w.map aY))/\(∀ s∈w,p3 great s)/\w.length<=i/\bp st2 f/\Ex [f] st st2) ?_ (by rw [gh];omega) ?_ ?_)
 ·kspl_open hQ
  refine ⟨_,_,e1,?_⟩
  exact ⟨_,rfl,by omega,hQ _ _ ⟨by rw [Yl],none,[],rfl,hl1,(fun s hs=>nomatch hs),Yd _,f1,kx⟩⟩
 ·rintro i d δ st2 hd ⟨v4,w,rfl,hl2,hw,hwl,f2,k2⟩
  have hil:=eV hd
  rw [gh] at hil
  have put:∀ (s:cS) (kM:Store),p3 great s->bp kM f->kM[st.length]?=some (.lst (w.map aY))->Ex [f] st kM->∀ v4:Option D,∃ (WH:Option D) (w':List cS),[some (.ref f),some (.int most),some (.int great),some (.ref st.length),v4]=[some (.ref f),some (.int most),some (.int great),some (.ref st.length),WH]/\(kM.set st.length (.lst (w.map aY ++ [aY s])))[st.length]?=some (.lst (w'.map aY))/\(∀ s∈w',p3 great s)/\w'.length<=i + 1/\bp (kM.set st.length (.lst (w.map aY ++ [aY s]))) f/\Ex [f] st (kM.set st.length (.lst (w.map aY ++ [aY s]))):=fun s kM os f5 h5 k5 v4=>by
   refine ⟨v4,w ++ [s],rfl,?_,fun s' hs'=>?_,by rw [Yc];simp;omega,f5.ne (by omega),k5.loc (Yd _)⟩
   ·rw [Yj (eV h5),Ys];rfl
   ·rcases Yz.mp hs' with h | h
    ·exact hw s' h
    ·rw [Yr.mp h];exact os
  kspl_open hQ
  refine hQ _ _ (jD ?_)
  clear hQ
  kspl_open hQ
  refine aV (rR (n:=2) f2 (by decide) (by decide)) ?_
  rintro d' st3 ⟨b,rfl,b0,b1,f3,k3⟩
  have hl3:=k3.keep _ _ hl2 (by simp;omega)
  w_how
  refine hQ _ _ ⟨fun _=>qm ?_,fun _=>a5 (bR ?_)⟩
  ·clear hQ
   kspl_open hQ
   refine ⟨oP (by rw [cv hl3];rfl),?_⟩
   refine aV (rR (n:=3) f3 (by decide) (by decide)) ?_
   rintro d' ni ⟨c,rfl,c0,c1,f4,k4⟩
   have r9:=k4.keep _ _ hl3 (by simp;omega)
   set_option simprocs false in simp only [bF,kZ r9]
   refine ⟨rfl,jz (by rw [X9];omega),hQ _ _ ?_⟩
   exact put (false,1 + c) ni ⟨fun _=>⟨by show 1<=1 + c;omega,by show 1 + c<=3;omega⟩,by show ((1 + c).natAbs:Int)<=great;omega,by show 1 + c≠0;omega⟩ f4 r9 ((k2.trans k3).trans k4) _
  ·clear hQ
   kspl_open hQ
   refine aV (rR (n:=great) f3 (by omega) (by omega)) ?_
   rintro d' ni ⟨c,rfl,c0,c1,f4,k4⟩
   have r9:=k4.keep _ _ hl3 (by simp;omega)
   w_how
   refine hQ _ _ (qm ?_)
   clear hQ
   kspl_open hQ
   refine ⟨oP (by rw [cv r9];rfl),rfl,?_⟩
   refine aV (rR (n:=2) (f4.keep (Ex.cn [O.lst [D.int (1 + c),D.int (0 - (1 + c))]])) (by decide) (by decide)) ?_
   rintro d' kM ⟨g,rfl,XX,XY,f5,k5⟩
   have WI:kM[ni.length]?=some (.lst [D.int (1 + c),D.int (0 - (1 + c))]):=k5.keep _ _ jE (by have:=f4.lt;simp;omega)
   have Fp:kM[st.length]?=some (.lst (w.map aY)):=k5.keep _ _ (jP r9) (by simp;omega)
   obtain ⟨sg,hsg,s1,s2⟩:∃ sg:Int,eK [D.int (1 + c),D.int (0 - (1 + c))] g=some (.int sg)/\(sg.natAbs:Int)<=great/\sg≠0:=by
    rcases (show g=0\/g=1 by omega) with rfl | rfl
    ·exact ⟨1 + c,GA _ _,by omega,by omega⟩
    ·exact ⟨0 - (1 + c),GB _ _ _,by omega,by omega⟩
   set_option simprocs false in simp only [bF,cv WI,hsg,kZ Fp]
   refine ⟨rfl,jz (by rw [X9];omega),hQ _ _ ?_⟩
   exact put (true,sg) kM ⟨fun z=>Bool.noConfusion (show true=false from z),s1,s2⟩ f5 Fp (((k2.trans k3).trans k4).trans ((Ex.cn _).trans k5)) _
 ·rintro δ st2 ⟨v4,w,rfl,hl2,hw,hwl,f2,k2⟩
  rw [gh] at hwl
  refine de ?_
  refine bS ?_
  intro df hQ
  set_option simprocs false in simp only [bF,cv hl2]
  exact hQ _ _ ⟨w,rfl,hw,by omega,f2,k2⟩
def dS (T:af.T4):D:=.tup [.int T.a,.int T.b,.int T.c,.int T.d]
def Ih (A B:af.T4):Prop:=∀ x∈[A.a,A.b,A.c,A.d],∀ y∈[B.a,B.b,B.c,B.d],cx x y=true
theorem Lp {A B:af.T4} (h:A.le 18446744073709551615):Ih A B:=fun x hx y _=>by
 refine UK ?_
 obtain ⟨h1,h2,h3,h4⟩:=h
 simp only [YC,List.not_mem_nil,or_false] at hx
 rcases hx with rfl | rfl | rfl | rfl <;> omega
theorem xt {A B:af.T4} {M k:Nat} (hk:k<=60000000) (hM:M < P2 k) (h:A.le M) (h':B.le M):Ih A B:=fun x hx y hy=>by
 obtain ⟨h1,h2,h3,h4⟩:=h
 obtain ⟨g1,g2,g3,g4⟩:=h'
 simp only [YC,List.not_mem_nil,or_false] at hx hy
 refine K0 hk ?_ ?_
 ·rcases hx with rfl | rfl | rfl | rfl <;> omega
 ·rcases hy with rfl | rfl | rfl | rfl <;> omega
theorem Lq {st:Store} {A B:af.T4} (h:Ih A B):Wp (tU [dS A,dS B] st) fun d st'=>d=dS (A.mul B)/\Ex [] st st':=by
 refine eo ?_
 show Ws (Hu [some (dS A),some (dS B)] st) _ _ _ _
 unfold Hu dS
 refine de ?_
 have hh:∀ x y:Int,x∈[A.a,A.b,A.c,A.d]->y∈[B.a,B.b,B.c,B.d]->cx x y=true:=fun x y hx hy=>h x hx y hy
 have a1:∀ y∈[B.a,B.b,B.c,B.d],cx A.a y=true:=h _ (by simp)
 have a2:∀ y∈[B.a,B.b,B.c,B.d],cx A.b y=true:=h _ (by simp)
 have a3:∀ y∈[B.a,B.b,B.c,B.d],cx A.c y=true:=h _ (by simp)
 have a4:∀ y∈[B.a,B.b,B.c,B.d],cx A.d y=true:=h _ (by simp)
 refine bS ?_
 intro df hQ
 set_option simprocs false in simp only [bF,GJ,at2,Ou]
 exact ⟨a1 _ (by simp),a2 _ (by simp),a1 _ (by simp),a2 _ (by simp),a3 _ (by simp),a4 _ (by simp),a3 _ (by simp),a4 _ (by simp),rfl,hQ _ _ ⟨rfl,Ex.refl⟩⟩
theorem WJ {st:Store} {s:cS} (h:af.cH s):Wp (EG [aY s] st) fun d st'=>d=dS (af.jM s)/\Ex [] st st':=by
 obtain ⟨b,k⟩:=s
 refine eo ?_
 show Ws (Hv [some (aY (b,k)),none,none] st) _ _ _ _
 unfold Hv aY
 cases b with
 | true =>
  refine a5 (jD ?_)
  kspl_open hQ
  refine hQ _ _ ⟨fun _=>de ?_,fun h=>absurd h (by decide)⟩
  clear hQ
  kspl_open hQ
  exact ⟨rfl,hQ _ _ ⟨rfl,Ex.refl⟩⟩
 | false =>
  obtain ⟨k1,k3⟩:=h.1 rfl
  simp only at k1 k3
  obtain ⟨j,rfl⟩:∃ j:Nat,k=(j:Int):=⟨k.toNat,by omega⟩
  refine a5 (jD ?_)
  kspl_open hQ
  refine hQ _ _ ⟨fun h=>absurd h (by decide),fun _=>kS (a5 (bR ?_))⟩
  clear hQ
  kspl_open hQ
  refine hQ _ _ ?_
  clear hQ
  show Ws _ _ _ _ _
  refine a5 (mz (aG 0 j) (fun i δ st2=>∃ v:Option D,δ=[some (.tup [.str "t",.int (j:Int)]),some (dS (af.qp i)),v]/\Ex [] st st2) ?_ (by rw [gh];omega) ?_ ?_)
  ·kspl_open hQ
   exact ⟨by omega,hQ _ _ ⟨by rw [Yl],none,rfl,Ex.refl⟩⟩
  ·rintro i d δ st2 hd ⟨v,rfl,k2⟩
   kspl_open hQ
   refine hQ _ _ (bR ?_)
   clear hQ
   kspl_open hQ
   refine aV (Lq (A:=af.T4.qt) (B:=af.qp i) (Lp ⟨by decide,by decide,by decide,by decide⟩)) ?_
   rintro d st3 ⟨rfl,k3⟩
   exact hQ _ _ ⟨_,rfl,k2.trans k3⟩
  ·rintro δ st2 ⟨v,rfl,k2⟩
   rw [gh]
   refine de ?_
   kspl_open hQ
   refine hQ _ _ ⟨?_,k2⟩
   show dS (af.qp j)=dS (af.qp (j:Int).toNat)
   rw [Yl]
theorem Pa {s:cS} {B:Nat} (h:af.cH s) (hs:s.2.natAbs<=B):(af.jM s).le (B + 1):=by
 have:=af.wG (T:=af.T4.one) (s:=s) (M:=1) (B:=B) ⟨by decide,by decide,by decide,by decide⟩ h hs
 rwa [af.T4.mul_one,Nat.mul_one] at this
theorem Ii {T:af.T4} {M N:Nat} (h:T.le M) (hn:M<=N):T.le N:=⟨Yv h.1 hn,Yv h.2.1 hn,Yv h.2.2.1 hn,Yv h.2.2.2 hn⟩
theorem Lr {w:List cS} {b n:Nat} (hw:∀ s∈w,af.cH s/\s.2.natAbs + 1<=P2 b) (hn:w.length<=n):(af.az w).le (P2 (b * n)):=by
 have:=af.Sl (B:=P2 b - 1) (n:=n) (w:=w) (fun s hs=>⟨(hw s hs).1,by have:=(hw s hs).2;omega⟩) hn
 rwa [show P2 b - 1 + 1=P2 b by have:=AH b;omega,yg] at this
theorem Pb {st:Store} {w:List cS} {b:Nat} (hb:b<=50000) (hw:∀ s∈w,af.cH s/\s.2.natAbs + 1<=P2 b) (hl:w.length<=1000):Wp (xm [.tup (w.map aY)] st) fun d st'=>d=dS (af.az w)/\Ex [] st st':=by
 refine eo ?_
 show Ws (Hx [some (.tup (w.map aY)),none,none] st) _ _ _ _
 unfold Hx
 refine a5 (bR ?_)
 kspl_open hQ
 refine hQ _ _ ?_
 clear hQ
 show Ws _ _ _ _ _
 refine a5 (mz (w.map aY) (fun i δ st2=>∃ v:Option D,δ=[some (.tup (w.map aY)),some (dS (af.az (w.take i))),v]/\Ex [] st st2) ?_ (by rw [X9];omega) ?_ ?_)
 ·kspl_open hQ
  exact hQ _ _ ⟨rfl,none,rfl,Ex.refl⟩
 ·rintro i d δ st2 hd ⟨v2,rfl,k2⟩
  rw [Yi] at hd
  obtain ⟨s,hs,rfl⟩:=YD.mp hd
  obtain ⟨hil,es⟩:=Ya.mp hs
  have hsw:=hw s (Yf hs)
  kspl_open hQ
  refine hQ _ _ (bR ?_)
  clear hQ
  kspl_open hQ
  refine aV (WJ hsw.1) ?_
  rintro d st3 ⟨rfl,k3⟩
  refine aV (Lq (xt (M:=P2 (b * 1000)) (k:=b * 1000 + 1) (by omega) (by rw [uV];have:=AH (b * 1000);omega) (Ii (Pa (B:=P2 b - 1) hsw.1 (by omega)) (by have:=AH b;have:=Cz (show b<=b * 1000 by omega);omega)) (Lr (fun s hs=>hw s (List.mem_of_mem_take hs)) (by rw [Y1];omega)))) ?_
  rintro d ni ⟨rfl,k4⟩
  refine hQ _ _ ⟨some (aY s),?_,(k2.trans k3).trans k4⟩
  rw [YB hil,af.wB,es]
  rfl
 ·rintro δ st2 ⟨v2,rfl,k2⟩
  rw [X9,YS]
  refine de ?_
  kspl_open hQ
  exact hQ _ _ ⟨rfl,k2⟩
theorem WK {st:Store} {a b:cS}:Wp (EM [aY a,aY b] st) fun d st'=>d=.tup ((af.cy a b).map aY)/\Ex [] st st':=by
 obtain ⟨ab,ak⟩:=a
 obtain ⟨bb,bk⟩:=b
 refine eo ?_
 show Ws (HB [some (.tup [.str (if ab then "s" else "t"),.int ak]),some (.tup [.str (if bb then "s" else "t"),.int bk]),none] st) _ _ _ _
 unfold HB
 have hj:af.cy (ab,ak) (bb,bk)=if af.ik (ab,ak) (bb,bk)=0 then [] else [(ab,af.ik (ab,ak) (bb,bk))]:=rfl
 refine a5 (bR ?_)
 kspl_open hQ
 refine hQ _ _ ?_
 clear hQ
 show Ws _ _ _ _ _
 refine a5 (y8 (N:=fun δ st1=>st1=st/\δ=[some (.tup [.str (if ab then "s" else "t"),.int ak]),some (.tup [.str (if bb then "s" else "t"),.int bk]),some (.int (af.ik (ab,ak) (bb,bk)))]) (jD ?_) ?_)
 ·kspl_open hQ
  refine hQ _ _ ⟨fun h=>bR ?_,fun h=>kS ⟨rfl,?_⟩⟩
  ·cases ab with
   | true=>exact absurd h (by decide)
   | false =>
    clear hQ
    kspl_open hQ
    exact ⟨by decide,hQ _ _ ⟨rfl,rfl⟩⟩
  ·cases ab with
   | true=>rfl
   | false=>exact absurd h (by decide)
 ·rintro δ st1 ⟨rfl,rfl⟩
  refine a5 (jD ?_)
  kspl_open hQ
  refine hQ _ _ ⟨fun h=>de ?_,fun h=>kS (de ?_)⟩
  ·have h:=of_decide_eq_true h
   clear hQ
   kspl_open hQ
   refine ⟨rfl,hQ _ _ ⟨?_,Ex.refl⟩⟩
   rw [hj,if_pos h];rfl
  ·have h:=of_decide_eq_false h
   clear hQ
   kspl_open hQ
   refine ⟨rfl,rfl,hQ _ _ ⟨?_,Ex.refl⟩⟩
   rw [hj,if_neg h];rfl
theorem Ls {xs:List D} {x:D}:eK (xs ++ [x]) (-1)=some x:=by
 unfold eK m8
 rw [Yc,if_neg (by decide),if_pos (by simp;omega)]
 simp only [Za]
 have e:((-1:Int) + ((xs.length + [x].length:Nat):Int)).toNat=xs.length:=by simp only [Zc];omega
 rw [e];simp
theorem WL {xs:List D} {x:D}:cutD (xs ++ [x]) none (some (-1))=xs:=by
 have e1:HT.cJ (xs ++ [x]).length 0 none=0:=rfl
 have e2:HT.cJ (xs ++ [x]).length (xs ++ [x]).length (some (-1))=xs.length:=by
  unfold HT.cJ
  simp only
  rw [if_pos (by decide),Yc,Zc];omega
 unfold cutD
 rw [e1,e2,List.drop_zero,Nat.sub_zero]
 simp
theorem WM (a b:Bool):(((if a=true then ("s" : Str) else "t")=(if b=true then ("s" : Str) else "t")))↔a=b:=by
 cases a <;> cases b <;> decide
theorem WN {st:Store} {w:List cS} (hl:w.length<=1000):Wp (EO [.tup (w.map aY)] st) fun d st'=>d=.tup ((af.jB w).reverse.map aY)/\Ex [] st st':=by
 refine eo ?_
 show Ws (HC [some (.tup (w.map aY)),none,none] st) _ _ _ _
 unfold HC
 refine a5 (bR ?_)
 kspl_open hQ
 refine ⟨rfl,hQ _ _ ?_⟩
 clear hQ
 show Ws _ _ _ _ _
 refine a5 (mz (w.map aY) (fun i δ st2=>∃ v:Option D,δ=[some (.tup (w.map aY)),some (.tup ((af.jB (w.take i)).reverse.map aY)),v]/\Ex [] st st2) ?_ (by rw [X9];omega) ?_ ?_)
 ·kspl_open hQ
  exact hQ _ _ ⟨rfl,none,rfl,Ex.refl⟩
 ·rintro i d δ st2 hd ⟨v2,rfl,k2⟩
  rw [Yi] at hd
  obtain ⟨s,hs,rfl⟩:=YD.mp hd
  obtain ⟨hil,es⟩:=Ya.mp hs
  have ep:af.jB (w.take (i + 1))=af.bP (af.jB (w.take i)) s:=by rw [YB hil,af.JT,es];rfl
  have hpl:(af.jB (w.take i)).length<=1000:=by have:=af.F9 (w.take i);rw [Y1] at this;omega
  rw [ep]
  clear ep
  generalize af.jB (w.take i)=l at hpl ⊢
  kspl_open hQ
  refine hQ _ _ (jD ?_)
  clear hQ
  kspl_open hQ
  cases l with
  | nil =>
   refine hQ _ _ ⟨fun h=>absurd h (by decide),fun _=>bR ?_⟩
   clear hQ
   kspl_open hQ
   exact ⟨rfl,rfl,hQ _ _ ⟨some (aY s),rfl,k2⟩⟩
  | cons t r =>
   have eg:(t :: r).reverse.map aY=r.reverse.map aY ++ [aY t]:=by simp
   rw [eg]
   have el:decide ((0:Int) < ((r.reverse.map aY ++ [aY t]).length:Nat))=true:=decide_eq_true (by simp)
   have es1:aY t=.tup [.str (if t.1 then "s" else "t"),.int t.2]:=rfl
   have Ij:aY s=.tup [.str (if s.1 then "s" else "t"),.int s.2]:=rfl
   have elt:(if t.1=true then ("s" : Str) else "t")=(if s.1=true then ("s" : Str) else "t")↔t.1=s.1:=WM _ _
   set_option simprocs false in simp only [bF,Ls,es1,Ij]
   rw [if_pos (by simp)]
   refine hQ _ _ ⟨fun h=>bR ?_,fun h=>bR ?_⟩
   ·have h:=elt.mp (of_decide_eq_true h)
    clear hQ
    kspl_open hQ
    rw [eg,WL]
    set_option simprocs false in simp only [bF,Ls]
    refine aV WK ?_
    rintro d st3 ⟨rfl,k3⟩
    w_how
    refine ⟨jz ?_,hQ _ _ ⟨some (aY s),?_,k2.trans k3⟩⟩
    ·have:(af.cy t s).length<=1:=by unfold af.cy;split <;> simp
     simp only [X9,YJ]
     simp only [YE] at hpl
     omega
    ·have ej:(af.cy t s).reverse=af.cy t s:=by unfold af.cy;split <;> rfl
     rw [af.uk,if_pos h,List.reverse_append,Ys,ej]
     rfl
   ·have h:=fun e=>of_decide_eq_false h (elt.mpr e)
    clear hQ
    kspl_open hQ
    refine ⟨rfl,jz ?_,hQ _ _ ⟨some (aY s),?_,k2⟩⟩
    ·simp only [X9,YJ,Zc]
     omega
    ·have e2:(s :: t :: r).reverse.map aY=(t :: r).reverse.map aY ++ [aY s]:=by simp
     rw [af.uk,if_neg h,e2]
     rfl
 ·rintro δ st2 ⟨v2,rfl,k2⟩
  rw [X9,YS]
  refine de ?_
  kspl_open hQ
  exact hQ _ _ ⟨rfl,k2⟩
theorem WO {st:Store} {v w:List cS} (hl:v.length + w.length<=1000):Wp (ET [.tup (v.map aY),.tup (w.map aY)] st) fun d st'=>d=.tup ((af.jB (v ++ w)).reverse.map aY)/\Ex [] st st':=by
 refine eo ?_
 show Ws (HD [some (.tup (v.map aY)),some (.tup (w.map aY))] st) _ _ _ _
 unfold HD
 refine de ?_
 kspl_open hQ
 refine ⟨jz (by simp only [X9];omega),?_⟩
 rw [<- Ys]
 refine aV (WN (by rw [Yc];exact hl)) ?_
 rintro d st3 ⟨rfl,k3⟩
 exact hQ _ _ ⟨rfl,k3⟩
theorem WQ {st:Store} {s:cS}:Wp (EZ [aY s] st) fun d st'=>d=aY (af.jC s)/\Ex [] st st':=by
 obtain ⟨b,k⟩:=s
 refine eo ?_
 show Ws (HG [some (.tup [.str (if b then "s" else "t"),.int k])] st) _ _ _ _
 unfold HG
 refine a5 (jD ?_)
 cases b with
 | true =>
  kspl_open hQ
  refine hQ _ _ ⟨fun _=>de ?_,fun h=>absurd h (by decide)⟩
  clear hQ
  kspl_open hQ
  exact ⟨rfl,hQ _ _ ⟨rfl,Ex.refl⟩⟩
 | false =>
  kspl_open hQ
  refine hQ _ _ ⟨fun h=>absurd h (by decide),fun _=>kS (de ?_)⟩
  clear hQ
  kspl_open hQ
  exact ⟨rfl,hQ _ _ ⟨rfl,Ex.refl⟩⟩
theorem WR {st:Store} {w:List cS} (hl:w.length<=1000):Wp (E2 [.tup (w.map aY)] st) fun d st'=>d=.tup ((af.gf w).map aY)/\Ex [] st st':=by
 refine eo ?_
 show Ws (HI [some (.tup (w.map aY))] st) _ _ _ _
 unfold HI
 refine de ?_
 kspl_open hQ
 refine Ut (w.reverse.map aY) (fun i y=>∃ s,w.reverse[i]?=some s/\y=aY (af.jC s)) (Ex [] st) ?_ (by rw [X9,YJ];omega) ?_ ?_
 ·refine bS ?_
  intro fW bM
  set_option simprocs false in simp only [bF,OG]
  refine ⟨_,rfl,bM _ _ ⟨fun i st2 hi _=>?_,Ex.refl⟩⟩
  rw [<- List.map_reverse]
  exact rQ _ st2 i st2 hi Ex.refl
 ·intro i d hd st1 k1
  rw [Yi] at hd
  obtain ⟨s,hs,rfl⟩:=YD.mp hd
  kspl_open bM
  refine aV WQ ?_
  rintro d st3 ⟨rfl,k3⟩
  exact bM _ _ ⟨⟨s,hs,rfl⟩,k1.trans k3⟩
 ·intro ys st' k' hy h
  w_how
  refine hQ _ _ ⟨?_,k'.app _⟩
  congr 1
  refine List.ext_getElem? fun i=>?_
  rw [X9,YJ] at hy
  have eb:af.gf w=w.reverse.map af.jC:=by unfold af.gf;rw [List.map_reverse]
  rw [eb,Yi,Yi]
  rcases Nat.lt_or_ge i ys.length with hi | hi
  ·obtain ⟨s,hs,e⟩:=h i ys[i] (Yb hi)
   rw [hs,Yb hi,e];rfl
  ·rw [List.getElem?_eq_none hi,List.getElem?_eq_none (by rw [YJ];omega)];rfl
theorem Pc {st:Store} {A B:af.T4} (h:Ih A B):Wp (Ea [dS A,dS B] st) fun d st'=>d=dS (A.mul B)/\Ex [] st st':=by
 refine eo ?_
 show Ws (G5 [some (dS A),some (dS B),none,none,none,none,none,none,none,none] st) _ _ _ _
 unfold G5 dS
 have a1:∀ y∈[B.a,B.b,B.c,B.d],cx A.a y=true:=h _ (by simp)
 have a2:∀ y∈[B.a,B.b,B.c,B.d],cx A.b y=true:=h _ (by simp)
 have a3:∀ y∈[B.a,B.b,B.c,B.d],cx A.c y=true:=h _ (by simp)
 have a4:∀ y∈[B.a,B.b,B.c,B.d],cx A.d y=true:=h _ (by simp)
 refine a5 (rY ?_)
 kspl_open hQ
 refine hQ _ _ ?_
 clear hQ
 kspl_open hQ
 refine ⟨rfl,hQ _ _ (a5 (rY ?_))⟩
 clear hQ
 kspl_open hQ
 refine hQ _ _ ?_
 clear hQ
 kspl_open hQ
 refine ⟨rfl,hQ _ _ (de ?_)⟩
 clear hQ
 refine bS ?_
 intro df hQ
 set_option simprocs false in simp only [bF,GJ]
 exact ⟨a1 _ (by simp),a2 _ (by simp),a1 _ (by simp),a2 _ (by simp),a3 _ (by simp),a4 _ (by simp),a3 _ (by simp),a4 _ (by simp),rfl,hQ _ _ ⟨rfl,Ex.refl⟩⟩
theorem WS {st:Store} {w:List cS} (hw:∀ s∈w,af.cH s/\s.2.natAbs<=1000000) (hl:w.length<=1000):Wp (Ec [.tup (w.map aY)] st) fun d st'=>d=dS (af.az w)/\Ex [] st st':=by
 refine eo ?_
 show Ws (G6 [some (.tup (w.map aY)),none,none,none,none] st) _ _ _ _
 unfold G6
 refine a5 (bR ?_)
 kspl_open hQ
 refine ⟨rfl,hQ _ _ ?_⟩
 clear hQ
 show Ws _ _ _ _ _
 refine a5 (mz (w.map aY) (fun i δ st2=>∃ v1 v2 v3:Option D,δ=[some (.tup (w.map aY)),some (dS (af.az (w.take i))),v1,v2,v3]/\Ex [] st st2) ?_ (by rw [X9];omega) ?_ ?_)
 ·kspl_open hQ
  exact hQ _ _ ⟨rfl,none,none,none,rfl,Ex.refl⟩
 ·rintro i d δ st2 hd ⟨v1,v2,v3,rfl,k2⟩
  rw [Yi] at hd
  obtain ⟨s,hs,rfl⟩:=YD.mp hd
  obtain ⟨hil,es⟩:=Ya.mp hs
  obtain ⟨hp,hb⟩:=hw s (Yf hs)
  have en:af.az (w.take (i + 1))=(af.jM s).mul (af.az (w.take i)):=by rw [YB hil,af.wB,es]
  rw [en]
  clear en
  generalize af.az (w.take i)=T
  obtain ⟨b,k⟩:=s
  have es1:aY (b,k)=.tup [.str (if b then "s" else "t"),.int k]:=rfl
  rw [es1]
  kspl_open hQ
  refine ⟨rfl,hQ _ _ ?_⟩
  clear hQ
  show Ws _ _ _ _ _
  cases b with
  | true =>
   refine mz (aG 0 1) (fun i δ st3=>∃ v3:Option D,δ=[some (.tup (w.map aY)),some (dS (if i=0 then T else (af.jM (true,k)).mul T)),some (.str "s"),some (.int k),v3]/\Ex [] st st3) ?_ (by rw [gh];omega) ?_ ?_
   ·kspl_open hQ
    refine ⟨rfl,.int 1,by rw [if_neg (by decide)];exact GA _ _,_,rfl,?_⟩
    exact ⟨by decide,hQ _ _ ⟨rfl,_,rfl,k2.trans (Ex.cn _)⟩⟩
   ·rintro i d δ st3 hd ⟨w3,rfl,k3⟩
    have hi0:i=0:=by have:=eV hd;rw [gh] at this;omega
    subst hi0
    kspl_open hQ
    refine hQ _ _ (bR ?_)
    clear hQ
    kspl_open hQ
    refine ⟨rfl,rfl,rfl,dS (af.jM (true,k)),by rw [if_neg (by decide)];exact GA _ _,?_⟩
    refine aV (Pc (A:=af.jM (true,k)) (B:=T) (Lp (Ii (Pa hp hb) (by decide)))) ?_
    rintro d ni ⟨rfl,k4⟩
    exact hQ _ _ ⟨_,rfl,(k3.trans (Ex.cn _)).trans k4⟩
   ·rintro δ st3 ⟨w3,rfl,k3⟩
    exact ⟨_,_,_,rfl,k3⟩
  | false =>
   obtain ⟨j1,j3⟩:=hp.1 rfl
   simp only at j1 j3
   obtain ⟨j,rfl⟩:∃ j:Nat,k=(j:Int):=⟨k.toNat,by omega⟩
   refine mz (aG 0 j) (fun i δ st3=>∃ v3:Option D,δ=[some (.tup (w.map aY)),some (dS ((af.qp i).mul T)),some (.str "t"),some (.int (j:Int)),v3]/\Ex [] st st3) ?_ (by rw [gh];omega) ?_ ?_
   ·kspl_open hQ
    refine ⟨rfl,.int (j:Int),by rw [if_pos (by decide)];exact GB _ _ _,_,rfl,?_⟩
    refine ⟨by omega,hQ _ _ ⟨by rw [Yl],v3,?_,k2.trans (Ex.cn _)⟩⟩
    rw [show (af.qp 0).mul T=T from af.T4.one_mul T]
    rfl
   ·rintro i d δ st3 hd ⟨w3,rfl,k3⟩
    kspl_open hQ
    refine hQ _ _ (bR ?_)
    clear hQ
    kspl_open hQ
    refine ⟨rfl,rfl,rfl,dS af.T4.qt,by rw [if_pos (by decide)];exact GB _ _ _,?_⟩
    refine aV (Pc (A:=af.T4.qt) (B:=(af.qp i).mul T) (Lp ⟨by decide,by decide,by decide,by decide⟩)) ?_
    rintro d' ni ⟨rfl,k4⟩
    refine hQ _ _ ⟨some d,?_,(k3.trans (Ex.cn _)).trans k4⟩
    rw [show (af.qp (i + 1)).mul T=af.T4.qt.mul ((af.qp i).mul T) from af.T4.assoc _ _ _]
    rfl
   ·rintro δ st3 ⟨w3,rfl,k3⟩
    rw [gh]
    exact ⟨_,_,_,rfl,k3⟩
 ·rintro δ st2 ⟨v1,v2,v3,rfl,k2⟩
  rw [X9,YS]
  refine de ?_
  kspl_open hQ
  exact hQ _ _ ⟨rfl,k2⟩
theorem WT {st:Store} {x y:Int} (hy:y≠0) (hb:y.natAbs < P2 100):Wp (EI [.int x,.int y] st) fun d st'=>d=.int (af.nr x y)/\Ex [] st st':=by
 have hl:(2 * y).natAbs.log2 < 9000:=by
  have h1:(2 * y).natAbs < 2 ^ 101:=by
   have e:P2 101=2 * P2 100:=uV 100
   show _ < P2 101
   omega
  have:=(Nat.log2_lt (n:=(2 * y).natAbs) (k:=101) (by omega)).mpr h1
  omega
 refine eo ?_
 show Ws (Hz [some (.int x),some (.int y)] st) _ _ _ _
 unfold Hz
 refine de ?_
 refine bS ?_
 intro df hQ
 set_option simprocs false in simp only [bF,UJ]
 exact ⟨.inl (by decide),.inl (by decide),⟨by omega,hl⟩,hQ _ _ ⟨rfl,Ex.refl⟩⟩
theorem Lu {st:Store} {k:Int}:Wp (uz [.int k] st) fun d st'=>d=.tup ((af.rF k).map aY)/\Ex [] st st':=by
 refine eo ?_
 show Ws (Ht [some (.int k)] st) _ _ _ _
 unfold Ht
 refine a5 (jD ?_)
 kspl_open hQ
 refine hQ _ _ ⟨fun h=>de ?_,fun h=>kS (de ?_)⟩
 ·have h:k=0:=of_decide_eq_true h
  clear hQ
  kspl_open hQ
  refine ⟨rfl,hQ _ _ ⟨?_,Ex.refl⟩⟩
  unfold af.rF
  rw [if_pos h];rfl
 ·have h:¬ k=0:=of_decide_eq_false h
  clear hQ
  kspl_open hQ
  refine ⟨rfl,rfl,hQ _ _ ⟨?_,Ex.refl⟩⟩
  unfold af.rF
  rw [if_neg h];rfl
theorem WU {st:Store} {T:af.T4} {x y:Int} (hT:T.le (P2 102)) (hx:x.natAbs<=P2 102) (hy:y.natAbs<=P2 102):Wp (EE [dS T,.tup [.int x,.int y]] st) fun d st'=>d=.tup [.int (T.a * x + T.b * y),.int (T.c * x + T.d * y)]/\Ex [] st st':=by
 have ok:∀ i j:Int,i.natAbs<=P2 102->j.natAbs<=P2 102->cx i j=true:=fun i j hi hj=>by
  have e:P2 103=2 * P2 102:=uV 102
  have:=AH 102
  exact K0 (k:=103) (by decide) (by omega) (by omega)
 obtain ⟨h1,h2,h3,h4⟩:=hT
 refine eo ?_
 show Ws (Hs [some (dS T),some (.tup [.int x,.int y])] st) _ _ _ _
 unfold Hs dS
 refine de ?_
 refine bS ?_
 intro df hQ
 set_option simprocs false in simp only [bF,GJ,at2,Ou]
 exact ⟨ok _ _ h1 hx,ok _ _ h2 hy,ok _ _ h3 hx,ok _ _ h4 hy,rfl,hQ _ _ ⟨rfl,Ex.refl⟩⟩
theorem Ae {st:Store} {Q:D->Store->Prop} {x y:Int}:Wp (aM (.tup [.int x,.int y]) (.int 0) st) Q↔Q (.int x) st:=bu
theorem Pd {st:Store} {Q:D->Store->Prop} {x y:Int}:Wp (aM (.tup [.int x,.int y]) (.int 1) st) Q↔Q (.int y) st:=bu
theorem qy {M k:Nat} (hM:M < 2 ^ k) (hk:k<=100):M < P2 100/\P2 101=2 * P2 100/\P2 102=2 * P2 101/\100 < P2 100:=⟨YH hM (Nat.pow_le_pow_right (n:=2) (by decide) hk),uV 100,uV 101,Ng 100⟩
theorem WV {st:Store} {x y:Int} {M k:Nat} (hM:M < 2 ^ k) (hk:k<=100) (hx:x.natAbs<=M) (hy:y.natAbs<=M):Wp (EK [.tup [.int x,.int y]] st) fun d st'=>∃ g:List cS,d=.tup (g.map aY)/\(∀ s∈g,af.cH s/\s.2.natAbs<=M + 1)/\g.length<=2 * k/\(af.az g).c * x + (af.az g).d * y=0/\Ex [] st st':=by
 refine eo ?_
 show Ws (HA [some (.tup [.int x,.int y]),none,none,none] st) _ _ _ _
 unfold HA
 refine a5 (bR ?_)
 refine bS ?_
 intro df hQ
 w_how
 refine ⟨rfl,?_⟩
 refine hQ _ _ (a5 (bR ?_))
 clear hQ
 refine bS ?_
 intro df hQ
 w_how
 refine hQ _ _ (a5 (y9 (fun m δ s=>∃ (g:List cS) (u v:Int) (r:Nat) (v3:Option D),m=k + 1 - r/\r<=k/\δ=[some (.tup [.int x,.int y]),some (.tup (g.map aY)),some (.tup [.int u,.int v]),v3]/\af.Dv M x y g u v r/\Ex [] st s) (k + 1) (by show k + 1 < 1000000;omega) ⟨[],x,y,0,none,rfl,YN _,rfl,af.Dv.zero hx hy,Ex.refl⟩ ?_))
 clear hQ
 rintro m δ s ⟨g,u,v,r,v3,rfl,hr,rfl,dv,k1⟩
 have XZ:=dv.ub
 obtain ⟨Lv,Pe,Pf,Pg⟩:=qy hM hk
 have X0:v.natAbs<=M:=Yv (Nat.le_mul_of_pos_right _ (Nat.one_le_two_pow)) dv.vb
 refine bS ?_
 intro df hQ
 set_option simprocs false in simp only [bF,Pd]
 refine hQ _ _ ⟨fun hc=>?_,fun hc=>?_⟩
 ·have hv:v≠0:=by simpa using hc
  have few:=dv.few (k:=k) hv hM
  have WW:=dv.step hv
  refine a5 (bR ?_)
  clear hQ
  refine bS ?_
  intro df hQ
  set_option simprocs false in simp only [bF,Ae,Pd]
  refine aV (WT hv (by omega)) ?_
  rintro d s1 ⟨rfl,k2⟩
  w_how
  refine aV (Lu) ?_
  rintro d s2 ⟨rfl,k3⟩
  w_how
  have hsl:=af.C1 (-(af.nr u v))
  refine ⟨rfl,rfl,jz (by rw [X9];show _ + 1<=_;omega),?_⟩
  have e1:((af.rF (-(af.nr u v))).map aY ++ [D.tup [D.str "t",D.int 1]])=(af.rV u v).map aY:=by
   unfold af.rV
   rw [Ys];rfl
  rw [e1]
  have JU:=af.NS (x:=u) hv
  refine hQ _ _ (a5 (bR ?_))
  clear hQ
  refine bS ?_
  intro df hQ
  w_how
  refine aV (Pb (b:=102) (w:=af.rV u v) (by decide) (fun s hs=>⟨(JU s hs).1,by have:=(JU s hs).2;omega⟩) (by have:=af.Kc u v;omega)) ?_
  rintro d s3 ⟨rfl,k4⟩
  have hnr:=af.NR (x:=u) hv
  refine aV (WU (T:=af.az (af.rV u v)) (x:=u) (y:=v) (by rw [af.Kb];exact ⟨by show (0:Int).natAbs<=_;omega,by show (-1:Int).natAbs<=_;omega,by show (1:Int).natAbs<=_;omega,by show (-(af.nr u v)).natAbs<=_;omega⟩) (by omega) (by omega)) ?_
  rintro d s4 ⟨rfl,k5⟩
  rw [af.Kb]
  have e2:∀ q:Int,D.tup [.int ((0:Int) * u + -1 * v),.int (1 * u + -q * v)]=.tup [.int (-v),.int (u - q * v)]:=fun q=>by
   have a1:(0:Int) * u + -1 * v=-v:=by omega
   have a2:1 * u + -q * v=u - q * v:=by rw [Int.neg_mul];omega
   rw [a1,a2]
  show df (D.tup [.int ((0:Int) * u + -1 * v),.int (1 * u + -(af.nr u v) * v)]) s4
  rw [e2]
  refine hQ _ _ (bR ?_)
  clear hQ
  refine bS ?_
  intro df hQ
  w_how
  have Fs:=dv.ln
  have hdl:=af.Kc u v
  refine ⟨jz (by rw [X9,X9];omega),hQ _ _ ⟨k + 1 - (r + 1),by omega,g ++ af.rV u v,_,_,r + 1,_,rfl,by omega,by rw [Ys];rfl,WW,(((k1.trans k2).trans k3).trans k4).trans k5⟩⟩
 ·have hv:v=0:=by simpa using hc
  refine de ?_
  clear hQ
  refine bS ?_
  intro df hQ
  w_how
  exact hQ _ _ ⟨g,rfl,dv.pr,by have:=dv.ln;omega,by rw [<- dv.vc];exact hv,k1⟩
theorem Ik {st:Store} {Q:D->Store->Prop} {T:af.T4}:Wp (aM (dS T) (.int 0) st) Q↔Q (.int T.a) st:=bu
theorem Il {st:Store} {Q:D->Store->Prop} {T:af.T4}:Wp (aM (dS T) (.int 1) st) Q↔Q (.int T.b) st:=bu
theorem Lw {st:Store} {Q:D->Store->Prop} {T:af.T4}:Wp (aM (dS T) (.int 2) st) Q↔Q (.int T.c) st:=bu
theorem Ph {st:Store} {Q:D->Store->Prop} {T:af.T4}:Wp (aM (dS T) (.int 3) st) Q↔Q (.int T.d) st:=bu
theorem WX {st:Store} {T:af.T4} (hl:T.le (P2 100)):Wp (EV [dS T] st) fun d st'=>d=.bl (decide (T.a * T.d - T.b * T.c=1))/\Ex [] st st':=by
 have ok:∀ i j:Int,i.natAbs<=P2 100->j.natAbs<=P2 100->cx i j=true:=fun i j hi hj=>by
  have e:P2 101=2 * P2 100:=uV 100
  have:=AH 100
  exact K0 (k:=101) (by decide) (by omega) (by omega)
 refine eo ?_
 show Ws (HE [some (dS T)] st) _ _ _ _
 unfold HE
 refine de ?_
 have hs:cX st (dS T)=some [.int T.a,.int T.b,.int T.c,.int T.d]:=rfl
 refine bS ?_
 intro df hQ
 set_option simprocs false in simp only [bF,hs,GJ,Ik,Il,Lw,Ph]
 obtain ⟨h1,h2,h3,h4⟩:=hl
 rw [if_pos (show decide ((([D.int T.a,D.int T.b,D.int T.c,D.int T.d]:List D).length:Int)=4)=true from rfl)]
 exact ⟨ok _ _ h1 h4,ok _ _ h2 h3,hQ _ _ ⟨rfl,Ex.refl⟩⟩
theorem WY {st:Store} {A:af.T4}:Wp (EX [dS A] st) fun d st'=>d=.tup ((af.o7 A).map aY)/\Ex [] st st':=by
 refine eo ?_
 show Ws (HF [some (dS A)] st) _ _ _ _
 unfold HF
 refine a5 (jD ?_)
 refine bS ?_
 intro df hQ
 set_option simprocs false in simp only [bF,Ik]
 refine hQ _ _ ⟨fun h=>de ?_,fun h=>kS (de ?_)⟩
 ·have h:A.a=1:=of_decide_eq_true h
  clear hQ
  refine bS ?_
  intro df hQ
  set_option simprocs false in simp only [bF,Il]
  refine aV (Lu) ?_
  rintro d s1 ⟨rfl,k1⟩
  refine hQ _ _ ⟨?_,k1⟩
  unfold af.o7
  rw [if_pos h]
 ·have h:¬ A.a=1:=of_decide_eq_false h
  clear hQ
  refine bS ?_
  intro df hQ
  set_option simprocs false in simp only [bF,Il]
  refine ⟨rfl,rfl,?_⟩
  refine aV (Lu) ?_
  rintro d s1 ⟨rfl,k1⟩
  w_how
  have:=af.C1 (-A.b)
  refine ⟨jz (by rw [X9];show 1 + _<=_;omega),hQ _ _ ⟨?_,k1⟩⟩
  unfold af.o7
  rw [if_neg h]
  rfl
theorem WZ {T:af.T4} {g:List cS} {M k:Nat} (hM:M < 2 ^ k) (hk:k<=100) (hl:T.le M) (hg:∀ s∈g,af.cH s/\s.2.natAbs<=M + 1) (Fs:g.length<=2 * k):∀ s∈af.jB (af.o7 ((af.az g).mul T) ++ af.gf g),s.2.natAbs + 1<=P2 20400:=by
 obtain ⟨Lv,Pe,Pf,Pg⟩:=qy hM hk
 have W0:M + 2<=P2 101:=by omega
 have hgt:=Lr (w:=g) (b:=101) (n:=200) (fun s hs=>⟨(hg s hs).1,by have:=(hg s hs).2;omega⟩) (by omega)
 have Ft:∀ x y:Int,x.natAbs<=P2 (101 * 200)->y.natAbs<=M->(x * y).natAbs<=P2 20301:=fun x y hx hy=>by
  rw [Int.natAbs_mul]
  refine Yv (Nat.mul_le_mul hx (Yv hy (Yv (Nat.le_add_right M 2) W0))) ?_
  rw [Nf]
  exact Cz (by decide)
 have hA:((af.az g).mul T).b.natAbs<=P2 20302:=by
  have e:((af.az g).mul T).b=(af.az g).a * T.b + (af.az g).b * T.d:=rfl
  have h1:=Ft _ _ hgt.1 hl.2.1
  have h2:=Ft _ _ hgt.2.1 hl.2.2.2
  have h3:P2 20302=2 * P2 20301:=uV 20301
  rw [e]
  omega
 have Lx:P2 101<=P2 20302:=Cz (by decide)
 have h7:20302 < P2 20302:=Ng 20302
 generalize hB:P2 20302=B at hA Lx h7
 have hv:∀ s∈af.o7 ((af.az g).mul T),af.cH s/\s.2.natAbs<=B:=fun s hs=>by
  refine ⟨af.NT _ s hs,?_⟩
  unfold af.o7 at hs
  split at hs
  ·rw [(af.C0 s hs).2];exact hA
  ·rcases YC.mp hs with rfl | hs
   ·show (2:Int).natAbs<=B;omega
   ·rw [(af.C0 s hs).2,Int.natAbs_neg];exact hA
 have hb:∀ s∈af.gf g,af.cH s/\s.2.natAbs<=B:=fun s hs=>by
  refine ⟨af.yu (fun s hs=>(hg s hs).1) s hs,?_⟩
  unfold af.gf at hs
  obtain ⟨t,ht,rfl⟩:=Yt.mp (YR.mp hs)
  obtain ⟨h1,h2⟩:=hg t ht
  obtain ⟨b,k⟩:=t
  cases b with
  | true=>show (-k).natAbs<=B;simp only at h2;omega
  | false=>have:=h1.1 rfl;simp only at this;show (4 - k).natAbs<=B;omega
 intro s hs
 have hq:=af.ym (B:=B) (w:=af.o7 ((af.az g).mul T) ++ af.gf g) (fun s hs=>by
  rcases Yz.mp hs with h | h
  ·exact hv s h
  ·exact hb s h) s hs
 have hlen:(af.o7 ((af.az g).mul T) ++ af.gf g).length<=256:=by
  rw [Yc]
  have h1:=af.NU ((af.az g).mul T)
  have h2:(af.gf g).length=g.length:=by unfold af.gf;rw [YJ,X9]
  omega
 have h3:s.2.natAbs<=256 * B:=Yv hq (Nat.mul_le_mul_right _ hlen)
 have h4:P2 20310=256 * B:=by
  have:=Nf 8 20302
  rw [hB] at this
  rw [show (20310:Nat)=8 + 20302 from rfl,<- this]
  rfl
 have h5:P2 20311=2 * P2 20310:=uV 20310
 have h6:P2 20311<=P2 20400:=Cz (by decide)
 omega
theorem W2 {st:Store} {T:af.T4} {M k:Nat} (hM:M < 2 ^ k) (hk:k<=100) (hl:T.le M) (hd:T.a * T.d - T.b * T.c=1):Wp (E4 [dS T] st) fun d st'=>∃ w:List cS,d=.tup (w.map aY)/\(∀ s∈w,af.cH s/\s.2.natAbs + 1<=P2 20400)/\w.length<=2 * k + 2/\af.az w=T/\Ex [] st st':=by
 refine eo ?_
 show Ws (HJ [some (dS T),none] st) _ _ _ _
 unfold HJ
 refine a5 (jD ?_)
 kspl_open hQ
 obtain ⟨Lv,Pe,Pf,Pg⟩:=qy hM hk
 refine aV (WX (Ii hl (by omega))) ?_
 rintro d s1 ⟨rfl,k1⟩
 refine ⟨_,rfl,?_⟩
 refine hQ _ _ ⟨fun h=>absurd h (by simp [hd]),fun _=>kS (a5 (bR ?_))⟩
 clear hQ
 refine bS ?_
 intro df hQ
 set_option simprocs false in simp only [bF,Ik,Lw]
 refine ⟨rfl,?_⟩
 refine aV (WV hM hk hl.1 hl.2.2.1) ?_
 rintro d s2 ⟨g,rfl,hg,Fs,h0,k2⟩
 refine hQ _ _ (de ?_)
 clear hQ
 kspl_open hQ
 have W3:∀ s∈g,af.cH s:=fun s hs=>(hg s hs).1
 have Pj:∀ s∈g,af.cH s/\s.2.natAbs + 1<=P2 101:=fun s hs=>⟨(hg s hs).1,by have:=(hg s hs).2;omega⟩
 refine aV (Pb (b:=101) (w:=g) (by decide) Pj (by omega)) ?_
 rintro d s3 ⟨rfl,k3⟩
 have hgt:=Lr (n:=200) Pj (by omega)
 refine aV (Lq (xt (k:=101 * 200 + 1) (M:=P2 (101 * 200)) (by decide) (by have:=AH (101 * 200);have:=uV (101 * 200);omega) hgt (Ii hl (Yv (Nat.le_of_lt Lv) (Cz (by decide)))))) ?_
 rintro d s4 ⟨rfl,k4⟩
 refine aV (WY) ?_
 rintro d s5 ⟨rfl,k5⟩
 refine aV (WR (w:=g) (by omega)) ?_
 rintro d s6 ⟨rfl,k6⟩
 have p8:=af.NU ((af.az g).mul T)
 have uB:(af.gf g).length=g.length:=by unfold af.gf;rw [YJ,X9]
 refine aV (WO (v:=af.o7 ((af.az g).mul T)) (w:=af.gf g) (by omega)) ?_
 rintro d s7 ⟨rfl,k7⟩
 obtain ⟨e1,e2⟩:=af.SH hd W3 h0
 refine hQ _ _ ⟨_,rfl,fun s hs=>⟨e2 s hs,WZ hM hk hl hg Fs s (YR.mp hs)⟩,?_,e1,(((((k1.trans k2).trans k3).trans k4).trans k5).trans k6).trans k7⟩
 rw [YJ]
 have:=af.F9 (af.o7 ((af.az g).mul T) ++ af.gf g)
 rw [Yc] at this
 omega
theorem W4 {st:Store} {xs ys:List Int} {n:Nat} {s:Int} (fl:nY n xs ys) (hn:n<=100) (s0:0<=s) (s1:s < (n:Int)):Wp (Ei [bT xs ys,.int s] st) fun d st'=>d=.tup ((af.inv (af.bf xs ys s n)).map D.int)/\Ex [] st st':=by
 obtain ⟨tx,ty,all⟩:=fl
 refine eo ?_
 show Ws (Hd [some (bT xs ys),some (.int s)] st) _ _ _ _
 unfold Hd
 refine de ?_
 kspl_open hQ
 refine aV (Wk tx ty hn s0 s1) ?_
 rintro d st1 ⟨rfl,k1⟩
 refine aV (Lg (af.F8 tx ty s0 s1 all) hn) ?_
 rintro d st2 ⟨rfl,k2⟩
 exact hQ _ _ ⟨rfl,k1.trans k2⟩
def Af (xs ys:List Int) (s:Int) (n:Nat):D:=bT (af.num xs (af.bf xs ys s n)) (af.num ys (af.bf xs ys s n))
theorem W5 {st:Store} {xs ys:List Int} {n:Nat} {s:Int} (fl:nY n xs ys) (hn:n<=100) (s0:0<=s) (s1:s < (n:Int)):Wp (Ek [bT xs ys,.int s] st) fun d st'=>d=Af xs ys s n/\Ex [] st st':=by
 have W6:=fl
 obtain ⟨tx,ty,all⟩:=fl
 have tb:=af.F8 tx ty s0 s1 all
 refine eo ?_
 show Ws (He [some (bT xs ys),some (.int s)] st) _ _ _ _
 unfold He
 refine de ?_
 kspl_open hQ
 refine aV (W4 W6 hn s0 s1) ?_
 rintro d st1 ⟨rfl,k1⟩
 refine aV (Wj tx ty tb.aD hn) ?_
 rintro d st2 ⟨rfl,k2⟩
 rw [af.wA tx tb,af.wA ty tb]
 exact hQ _ _ ⟨rfl,k1.trans k2⟩
theorem W7 {st:Store} {xs ys:List Int} {n:Nat} {s:Int} (fl:nY n xs ys) (hn:n<=100) (s0:0<=s) (s1:s < (n:Int)):Wp (DX [bT xs ys,.int s] st) fun d st'=>d=Af xs ys s n/\Ex [] st st':=by
 obtain ⟨tx,ty,all⟩:=fl
 have hlx:=tx.length
 have Bm:=ty.length
 refine eo ?_
 show Ws (GU [some (bT xs ys),some (.int s),none,none,none] st) _ _ _ _
 unfold GU
 refine a5 (bR ?_)
 kspl_open hQ
 refine ⟨rfl,hQ _ _ (a5 (Kv ((af.upto n).map D.int) (st.length + 2) (fun k δ st2=>∃ (v3 v4:Option D),δ=[some (bT xs ys),some (.int s),some (.ref st.length),v3,v4]/\st2[st.length]?=some (.lst ((af.bf xs ys s k).map D.int))/\st2[st.length + 2]?=some (.lst ((af.upto n).map D.int))/\Ex [] st st2) ?_ ?_ ?_ ?_ ?_))⟩
 ·clear hQ
  unfold bT
  kspl_open hQ
  rw [X9,hlx,show ((n:Int) - 0).toNat=n by omega,qo]
  have e:(st ++ [O.lst [D.int s]] ++ [O.jH 0 (n:Int)]).length=st.length + 2:=by simp
  rw [e]
  exact ⟨ve (by omega),hQ _ _ ⟨rfl,none,none,rfl,jP (jP jE),by rw [<- e];exact jE,((Ex.cn _).app _).app _⟩⟩
 ·rw [X9,af.pS];omega
 ·rintro k δ st2 ⟨_,_,_,_,h,_⟩
  exact cv h
 ·rintro k d δ st2 hd ⟨v3,v4,rfl,hl,hr,k2⟩
  obtain ⟨x',hx',rfl⟩:=DH hd
  have hkn:=eV hx'
  rw [af.pS] at hkn
  rw [af.CC hkn] at hx'
  cases hx'
  have uB:=af.CG tx ty s0 s1 k
  have hb1:=af.CG tx ty s0 s1 (k + 1)
  clear hQ
  kspl_open hQ
  refine hQ _ _ ?_
  clear hQ
  by_cases oC:k < (af.bf xs ys s k).length
  ·obtain ⟨x,hx⟩:∃ x,(af.bf xs ys s k)[k]?=some x:=⟨_,Yb oC⟩
   obtain ⟨x0,x1⟩:=af.rE tx ty s0 s1 k x (Yf hx)
   have e1:af.bf xs ys s (k + 1)=af.visit xs ys (af.bf xs ys s k) x:=by
    show (match (af.bf xs ys s k)[k]? with | some x=>af.visit xs ys (af.bf xs ys s k) x | none=>af.bf xs ys s k)=_
    rw [hx]
   rw [e1] at hb1 ⊢
   have hp1:=(af.wz (af.cK (af.bf xs ys s k) (af.app xs x)) (af.app ys x)).length_le
   have hp0:=(af.wz (af.bf xs ys s k) (af.app xs x)).length_le
   change _<=(af.visit xs ys (af.bf xs ys s k) x).length at hp1
   refine mz [.tup (xs.map D.int),.tup (ys.map D.int)] (fun m δ st3=>∃ (v4:Option D) (G:List Int),δ=[some (bT xs ys),some (.int s),some (.ref st.length),some (.int (k:Int)),v4]/\st3[st.length]?=some (.lst (G.map D.int))/\st3[st.length + 2]?=some (.lst ((af.upto n).map D.int))/\(m=0->G=af.bf xs ys s k)/\(m=1->G=af.cK (af.bf xs ys s k) (af.app xs x))/\(m=2->G=af.visit xs ys (af.bf xs ys s k) x)/\Ex [] st st3) ?_ (by simp) ?_ ?_
   ·unfold bT
    kspl_open hQ
    exact hQ _ _ ⟨rfl,v4,_,rfl,hl,hr,fun _=>rfl,fun z=>by omega,fun z=>by omega,k2⟩
   ·rintro m z δ st3 hm ⟨v4,G,rfl,hl3,pZ,g0,g1,_,k3⟩
    have hm2:m < 2:=eV hm
    obtain ⟨zs,rfl,tz,em⟩:∃ (zs:List Int),z=.tup (zs.map D.int)/\af.Tn n zs/\((m=0/\zs=xs)\/(m=1/\zs=ys)):=by
     rcases (show m=0\/m=1 by omega) with rfl | rfl
     ·exact ⟨xs,by simpa using hm.symm,tx,.inl ⟨rfl,rfl⟩⟩
     ·exact ⟨ys,by simpa using hm.symm,ty,.inr ⟨rfl,rfl⟩⟩
    have hG:G.length<=100/\G[k]?=some x/\k < G.length:=by
     rcases em with ⟨rfl,_⟩ | ⟨rfl,_⟩
     ·rw [g0 rfl];exact ⟨by omega,hx,oC⟩
     ·rw [g1 rfl]
      refine ⟨by omega,?_,by omega⟩
      obtain ⟨t,e⟩:=af.wz (af.bf xs ys s k) (af.app xs x)
      rw [<- e,Yk oC];exact hx
    have Fm:∀ G',G'=af.cK G (af.app zs x)->(m + 1=0->G'=af.bf xs ys s k)/\(m + 1=1->G'=af.cK (af.bf xs ys s k) (af.app xs x))/\(m + 1=2->G'=af.visit xs ys (af.bf xs ys s k) x):=fun G' e=>by
     rcases em with ⟨rfl,rfl⟩ | ⟨rfl,rfl⟩
     ·exact ⟨fun z=>by omega,fun _=>by rw [e,g0 rfl],fun z=>by omega⟩
     ·exact ⟨fun z=>by omega,fun z=>by omega,fun _=>by rw [e,g1 rfl];rfl⟩
    have hat:eK (G.map D.int) (k:Int)=some (.int x):=Av (by rw [Yi,hG.2.1];rfl)
    have hdt:decide ((k:Int) < ((G.map D.int).length:Int))=true:=decide_eq_true (by rw [X9];omega)
    kspl_open hQ
    refine hQ _ _ (jD ?_)
    clear hQ
    refine bS ?_
    intro df hQ
    set_option simprocs false in simp only [bF,cv hl3,hdt,hat,qq (xs:=zs) x0 (by rw [tz.length];exact x1),GF (st:=st3) (c:=.ref st.length) (ns:=G) (cv hl3)]
    refine hQ _ _ ⟨fun hc=>qm ?_,fun hc=>kS ?_⟩
    ·obtain ⟨n0,n1,n2⟩:=Fm (G ++ [af.app zs x]) (O1 hc).symm
     refine bS ?_
     intro fW bM
     set_option simprocs false in simp only [bF,cv hl3,hat,qq (xs:=zs) x0 (by rw [tz.length];exact x1),kZ hl3]
     refine ⟨oP (by rw [cv hl3];rfl),jz (by rw [X9];omega),bM _ _ ⟨_,G ++ [af.app zs x],rfl,?_,?_,n0,n1,n2,k3.loc (Yd _)⟩⟩
     ·rw [Yj (eV hl3),Ys];rfl
     ·rw [Yp (by omega)];exact pZ
    ·obtain ⟨n0,n1,n2⟩:=Fm G (O2 hc).symm
     exact ⟨_,G,rfl,hl3,pZ,n0,n1,n2,k3⟩
   ·rintro δ st3 ⟨v4,G,rfl,hl3,pZ,_,_,g2,k3⟩
    have g2:=g2 rfl
    subst g2
    exact ⟨_,_,rfl,hl3,pZ,k3⟩
  ·have e1:af.bf xs ys s (k + 1)=af.bf xs ys s k:=af.F7 (k:=k) (by omega) 1
   rw [e1]
   have hdf:decide ((k:Int) < (((af.bf xs ys s k).map D.int).length:Int))=false:=decide_eq_false (by rw [X9];omega)
   refine mz [.tup (xs.map D.int),.tup (ys.map D.int)] (fun m δ st3=>∃ (v4:Option D),δ=[some (bT xs ys),some (.int s),some (.ref st.length),some (.int (k:Int)),v4]/\st3=st2) ?_ (by simp) ?_ ?_
   ·unfold bT
    kspl_open hQ
    exact hQ _ _ ⟨rfl,v4,rfl,rfl⟩
   ·rintro m z δ st3 hm ⟨v4,rfl,rfl⟩
    kspl_open hQ
    refine hQ _ _ (jD ?_)
    clear hQ
    refine bS ?_
    intro df hQ
    set_option simprocs false in simp only [bF,cv hl,hdf]
    exact hQ _ _ ⟨fun h=>absurd h (by decide),fun _=>kS ⟨_,rfl,rfl⟩⟩
   ·rintro δ st3 ⟨v4,rfl,rfl⟩
    exact ⟨_,_,rfl,hl,hr,k2⟩
 ·rintro δ st2 ⟨v3,v4,rfl,hl,hr,k2⟩
  rw [X9,af.pS] at hl
  have tb:=af.F8 tx ty s0 s1 all
  have hlb:=tb.length
  generalize Ly:af.bf xs ys s n=sq at hl tb hlb ⊢
  clear hQ
  unfold bT
  refine de ?_
  kspl_open hQ
  refine r6 [.tup (xs.map D.int),.tup (ys.map D.int)] (fun d=>match d with | .tup ds=>.tup ((af.num (ds.map inD) sq).map D.int) | _=>.non) ?_ (by simp) ?_ ?_
  ·kspl_open bM
   exact bM _ _ ⟨rQ _ _,Ex.refl⟩
  ·intro d hd st3 k3
   obtain ⟨zs,rfl,tz⟩:∃ zs:List Int,d=.tup (zs.map D.int)/\af.Tn n zs:=by
    rcases YC.mp hd with rfl | hd
    ·exact ⟨xs,rfl,tx⟩
    ·exact ⟨ys,Yr.mp hd,ty⟩
   have hl3:=k3.keep _ _ hl (by simp)
   refine bS ?_
   intro fW bM
   set_option simprocs false in simp only [bF,Yu,YM,YK,YL]
   refine r6 (sq.map D.int) (fun d=>.int (sq.idxOf (af.app zs (inD d)):Int)) ?_ (by rw [X9];omega) ?_ ?_
   ·kspl_open qx
    exact ⟨_,cv hl3,qx _ _ ⟨Uj (cv hl3),Ex.refl⟩⟩
   ·intro d hd ni k4
    obtain ⟨x,hx,rfl⟩:=vf hd
    obtain ⟨x0,x1⟩:=tb.bound hx
    obtain ⟨a0,a1⟩:=tz.app x0 x1
    have r9:=k4.keep _ _ hl3 (by simp)
    refine bS ?_
    intro Ac qx
    set_option simprocs false in simp only [bF,Yu,YM,YK,YL,qq (xs:=zs) x0 (by rw [tz.length];exact x1),TR (cv r9) (tb.mem a0 a1) (by omega) (fun i hi=>by have:=tb.bound hi;omega)]
    exact ⟨oP (by rw [cv r9];rfl),qx _ _ ⟨rfl,Ex.refl⟩⟩
   ·intro ni k4
    rw [zx (f:=fun x=>(sq.idxOf (af.app zs x):Int)) fun x hx=>rfl]
    w_how
    refine bM _ _ ⟨?_,k4.app _⟩
    show D.tup _=D.tup ((af.num ((zs.map D.int).map inD) sq).map D.int)
    rw [Oo]
    rfl
  ·intro st3 k3
   w_how
   refine hQ _ _ ⟨?_,(k2.trans k3).app _⟩
   simp only [Yu,YM,Oo]
   unfold Af
   rw [Ly]
   rfl
theorem Fu {n:Nat} {xs ys:List Int} (fl:nY n xs ys):af.Wh n (xs,ys):=⟨⟨fl.1,fl.2.1⟩,fl.2.2⟩
theorem vC {n:Nat} {p:af.a6} (w:af.Wh n p):nY n p.1 p.2:=⟨w.v.1,w.v.2,w.all⟩
theorem Pk (p:af.a6) (n:Nat):(aG 0 n).map (fun d=>bT (af.qi p n (inD d)).1 (af.qi p n (inD d)).2)=((af.upto n).map (af.qi p n)).map fun q=>bT q.1 q.2:=by
 rw [qo,YF,YF]
 rfl
theorem Pm {st:Store} {xs ys:List Int} {n:Nat} (fl:nY n xs ys) (n0:0 < n) (hn:n<=20):Wp (xl [bT xs ys] st) fun d st'=>d=bT (af.bI n (xs,ys)).1 (af.bI n (xs,ys)).2/\Ex [] st st':=by
 have hlx:=fl.1.length
 refine eo ?_
 show Ws (Hf [some (bT xs ys)] st) _ _ _ _
 unfold Hf
 refine de ?_
 kspl_open hQ
 refine r6 (aG 0 n) (fun d=>bT (af.qi (xs,ys) n (inD d)).1 (af.qi (xs,ys) n (inD d)).2) ?_ (by rw [gh];omega) ?_ ?_
 ·unfold bT
  kspl_open bM
  rw [X9,hlx]
  exact ⟨by omega,bM _ _ ⟨by rw [Yl];exact rQ _ _,Ex.refl⟩⟩
 ·intro d hd st2 k2
  rw [qo] at hd
  obtain ⟨x,hx,rfl⟩:=vf hd
  obtain ⟨x0,x1⟩:=af.nu.mp hx
  refine bS ?_
  intro fW bM
  set_option simprocs false in simp only [bF,Yu,YM,YK,YL]
  refine aV (W5 fl (by omega) x0 x1) ?_
  rintro d st3 ⟨rfl,k3⟩
  exact bM _ _ ⟨rfl,k3⟩
 ·intro st' k'
  rw [Pk,OL (kZ jE) (by rw [X9,af.pS];exact n0)]
  exact hQ _ _ ⟨rfl,k'.app _⟩
theorem Fv {st:Store} {xs ys:List Int} {n:Nat} (fl:nY n xs ys) (n0:0 < n) (hn:n<=20):Wp (pN [bT xs ys] st) fun d st'=>d=bT (af.bI n (xs,ys)).1 (af.bI n (xs,ys)).2/\Ex [] st st':=by
 have hlx:=fl.1.length
 refine eo ?_
 show Ws (GW [some (bT xs ys)] st) _ _ _ _
 unfold GW
 refine de ?_
 kspl_open hQ
 refine r6 (aG 0 n) (fun d=>bT (af.qi (xs,ys) n (inD d)).1 (af.qi (xs,ys) n (inD d)).2) ?_ (by rw [gh];omega) ?_ ?_
 ·unfold bT
  kspl_open bM
  rw [X9,hlx]
  exact ⟨by omega,bM _ _ ⟨by rw [Yl];exact rQ _ _,Ex.refl⟩⟩
 ·intro d hd st2 k2
  rw [qo] at hd
  obtain ⟨x,hx,rfl⟩:=vf hd
  obtain ⟨x0,x1⟩:=af.nu.mp hx
  refine bS ?_
  intro fW bM
  set_option simprocs false in simp only [bF,Yu,YM,YK,YL]
  refine aV (W7 fl (by omega) x0 x1) ?_
  rintro d st3 ⟨rfl,k3⟩
  exact bM _ _ ⟨rfl,k3⟩
 ·intro st' k'
  rw [Pk,OL (kZ jE) (by rw [X9,af.pS];exact n0)]
  exact hQ _ _ ⟨rfl,k'.app _⟩
theorem CA {n:Nat} {f:Int->Int} {x:Int} (x0:0<=x) (x1:x < (n:Int)):af.app ((af.upto n).map f) x=f x:=by
 unfold af.app
 rw [Yn,Yi,af.CC (by omega)]
 show f ((x.toNat:Nat):Int)=f x
 rw [YG x0]
theorem Ag {g:Int} (hg:3<=g) {s:cS} (h:p3 g s):p3 g (af.jC s):=by
 obtain ⟨b,k⟩:=s
 obtain ⟨h1,h2,h3⟩:=h
 cases b with
 | true =>
  refine ⟨fun z=>Bool.noConfusion (show true=false from z),?_,?_⟩
  ·show ((-k).natAbs:Int)<=g
   rw [Int.natAbs_neg];exact h2
  ·show -k≠0
   exact fun z=>h3 (by show k=0;omega)
 | false =>
  have:=h1 rfl
  simp only at this
  refine ⟨fun _=>⟨by show 1<=4 - k;omega,by show 4 - k<=3;omega⟩,?_,?_⟩
  ·show ((4 - k).natAbs:Int)<=g
   omega
  ·show 4 - k≠0
   omega
theorem W8 {g:Int} (hg:3<=g) {w:List cS} (h:∀ s∈w,p3 g s):∀ s∈af.gf w,p3 g s:=fun s hs=>by
 unfold af.gf at hs
 obtain ⟨t,ht,rfl⟩:=Yt.mp (YR.mp hs)
 exact Ag hg (h t ht)
theorem W9 (w:List cS):(af.gf w).length=w.length:=by unfold af.gf;rw [YJ,X9]
theorem Ah {g:Int} {s:cS} (h:p3 g s):af.cH s:=⟨h.1,h.2.2⟩
theorem Xa {g:Int} {v w:List cS} (h1:∀ s∈v,p3 g s) (h2:∀ s∈w,p3 g s):∀ s∈v ++ w,p3 g s:=fun s hs=>by
 rcases Yz.mp hs with h | h
 ·exact h1 s h
 ·exact h2 s h
theorem Pn {w:List cS} (h:∀ s∈w,af.cH s):∀ s∈w,Bn s:=fun s hs=>(h s hs).1
theorem Lz:∀ (w:List cS) (p:List Int×List Int),my p w=af.eh p w:=by
 have hq:∀ (p:List Int×List Int) (j:Nat),oG p.1 p.2 j=af.ot j p:=fun p j=>by
  induction j with
  | zero=>rfl
  | succ j ih=>show (af.inv (oG p.1 p.2 j).2,(oG p.1 p.2 j).1)=af.Qt (af.ot j p);rw [ih];rfl
 have hs:∀ (p:List Int×List Int) (s:cS),gR p s=af.stM p s:=fun p s=>by
  unfold gR af.stM
  rw [hq]
  rfl
 intro w
 induction w with
 | nil=>intro p;rfl
 | cons s w ih =>
  intro p
  show my (gR p s) w=af.eh (af.stM p s) w
  rw [hs,ih]
open Classical in
theorem Xb {st:Store} {Q:D->Store->Prop} {neg:Bool} {n a b:Nat} {ds es:List D} (ha:items st a=some ds) (hb:items st b=some es) (h1:∀ d∈ds,pU n d) (h2:∀ d∈es,pU n d) (hn:n<=14):Wp (kJ neg (.ref a) (.ref b) st) Q↔Q (.bl (if neg then !decide (ds=es) else decide (ds=es))) st:=by
 have p1:∀ (i:Nat) (l:List D),items st i=some l->(∀ d∈l,pU n d)->fH st 20 (.ref i)=some (.list (l.map (jG n))):=fun i l h hl=>by
  simp only [fH,h]
  rw [DM (g:=jG n) fun x hx=>A3 n x (hl x hx) 19 (by omega) st]
  rfl
 have e:PyData.eqv (.list (ds.map (jG n))) (.list (es.map (jG n)))=decide (ds=es):=by
  rw [KH]
  have:=KU (DN n) ds es h1 h2
  cases h:PyData.eqvAll (ds.map (jG n)) (es.map (jG n)) with
  | true=>exact (decide_eq_true (this.mp h)).symm
  | false=>exact (decide_eq_false fun z=>by rw [this.mpr z] at h;cases h).symm
 have ly:∀ l:List D,(∀ d∈l,pU n d)->PyData.canLay0 (.list (l.map (jG n)))=true/\PyData.depth (.list (l.map (jG n)))<=n + 1:=fun l hl=>by
  refine ⟨?_,?_⟩
  ·show PyData.canLayAll0 (l.map (jG n))=true
   exact KR fun x hx=>by
    obtain ⟨d,hd,rfl⟩:=Yt.mp hx
    exact (xh n d (hl d hd)).1
  ·show PyData.depthAll (l.map (jG n)) + 1<=n + 1
   have:=KS (n:=n) (l:=l.map (jG n)) fun x hx=>by
    obtain ⟨d,hd,rfl⟩:=Yt.mp hx
    exact (xh n d (hl d hd)).2
   omega
 rw [Kz]
 constructor
 ·rintro ⟨p,q,e1,e2,_,h⟩
  rw [p1 a ds ha h1] at e1
  rw [p1 b es hb h2] at e2
  cases e1
  cases e2
  rw [e] at h
  exact h
 ·intro h
  refine ⟨_,_,p1 a ds ha h1,p1 b es hb h2,⟨(ly ds h1).1,(ly es h2).1,?_⟩,?_⟩
  ·have:=(ly ds h1).2
   omega
  ·rw [e];exact h
theorem Po {R:List cS} {b:Bool} {k:Int} (pa:af.cH (b,k)) (h:∀ (t:cS) (r:List cS),R=t :: r->t.1≠b):af.bP R (b,k)=(if (if b=true then k else k % 4)=0 then R else (b,if b=true then k else k % 4) :: R):=by
 have e:(if b=true then k else k % 4)=k:=by
  cases b with
  | true=>rfl
  | false =>
   have:=pa.1 rfl
   simp only at this
   rw [if_neg Yh];omega
 rw [e,if_neg pa.2]
 exact af.JS fun t ht=>by
  cases R with
  | nil=>cases ht
  | cons x r=>cases ht;exact fun z=>h _ _ rfl z.symm
theorem LA {st s2:Store} {w0:D} {b:Bool} {k':Int} {R' X:List cS} {N B C:aq->Store->Prop} {R:D->Store->Prop} (h2:s2[st.length]?=some (.lst (R'.reverse.map aY))) (k2:Ex [] st s2) (hl:R'.length<=1000) (ep:X=(if (if b=true then k' else k' % 4)=0 then R' else (b,if b=true then k' else k' % 4) :: R'))
  (hN:∀ (v3:Option D) (s:Store),s[st.length]?=some (.lst (X.reverse.map aY))->Ex [] st s->N [some w0,some (.ref st.length),some (.str (if b then "s" else "t")),v3] s) :
  Ws (aE (h8 (aN (av (jx false) (ag 2) (fC (.str "t")))) (aH (av jN (ag 3) (fC (.int 4))) (hName 3)) bx) (h8 (aN (av (jx true) (ag 3) (fC (.int 0)))) (cG (kR "list" bj (ag 1) (ae (bq (ae (ag 2) (ae (ag 3) ah))) ah))) bx) [some w0,some (.ref st.length),some (.str (if b then "s" else "t")),some (.int k')] s2) N B C R:=by
 have fin:∀ kk:Int,kk=(if b=true then k' else k' % 4)->Ws (h8 (aN (av (jx true) (ag 3) (fC (.int 0)))) (cG (kR "list" bj (ag 1) (ae (bq (ae (ag 2) (ae (ag 3) ah))) ah))) bx [some w0,some (.ref st.length),some (.str (if b then "s" else "t")),some (.int kk)] s2) N B C R:=fun kk hk=>by
  rw [<- hk] at ep
  refine jD ?_
  kspl_open hQ
  by_cases z:kk=0
  ·refine hQ _ _ ⟨fun y=>absurd z (by simpa using y),fun _=>kS (hN _ _ ?_ k2)⟩
   rw [ep,if_pos z];exact h2
  ·refine hQ _ _ ⟨fun _=>qm ?_,fun y=>absurd y (by simp [z])⟩
   clear hQ
   refine bS ?_
   intro df hQ
   set_option simprocs false in simp only [bF,kZ h2]
   refine ⟨oP (by rw [cv h2];rfl),rfl,jz (by rw [X9,YJ];omega),hQ _ _ (hN _ _ ?_ (k2.loc (Yd _)))⟩
   rw [Yj (eV h2),ep,if_neg z,List.reverse_cons,Ys]
   rfl
 refine a5 (jD ?_)
 cases b with
 | true =>
  kspl_open hQ
  exact hQ _ _ ⟨fun z=>absurd z (by decide),fun _=>kS (fin k' rfl)⟩
 | false =>
  kspl_open hQ
  refine hQ _ _ ⟨fun _=>bR ?_,fun z=>absurd z (by decide)⟩
  clear hQ
  kspl_open hQ
  exact ⟨by decide,hQ _ _ (fin (k' % 4) rfl)⟩
theorem Xc {st:Store} {w:List cS} (hw:∀ s∈w,af.cH s) (hl:w.length<=1000):Wp (Ba [.tup (w.map aY)] st) fun d st'=>d=.tup ((af.jB w).reverse.map aY)/\Ex [] st st':=by
 refine eo ?_
 show Ws (GZ [some (.tup (w.map aY)),none,none,none] st) _ _ _ _
 unfold GZ
 refine a5 (bR ?_)
 kspl_open hQ
 refine ⟨rfl,hQ _ _ ?_⟩
 clear hQ
 show Ws _ _ _ _ _
 refine a5 (mz (w.map aY) (fun i δ s=>∃ v2 v3:Option D,δ=[some (.tup (w.map aY)),some (.ref st.length),v2,v3]/\s[st.length]?=some (.lst ((af.jB (w.take i)).reverse.map aY))/\Ex [] st s) ?_ (by rw [X9];omega) ?_ ?_)
 ·kspl_open hQ
  exact hQ _ _ ⟨rfl,none,none,rfl,jE,Ex.cn _⟩
 ·rintro i d δ s hd ⟨v2,v3,rfl,hs,kx⟩
  rw [Yi] at hd
  obtain ⟨a,ha,rfl⟩:=YD.mp hd
  obtain ⟨hi,ea⟩:=Ya.mp ha
  have pa:=hw a (Yf ha)
  have et:af.jB (w.take (i + 1))=af.bP (af.jB (w.take i)) a:=by
   rw [YB hi,af.JT,ea];rfl
  have hlen:=af.F9 (w.take i)
  rw [Y1] at hlen
  have pl:af.Pl (af.jB (w.take i)):=af.Nw fun s hs=>hw s (List.mem_of_mem_take hs)
  rw [et]
  generalize af.jB (w.take i)=R at hs hlen pl ⊢
  obtain ⟨b,k⟩:=a
  have es1:aY (b,k)=.tup [.str (if b then "s" else "t"),.int k]:=rfl
  rw [es1]
  kspl_open hQ
  refine ⟨rfl,hQ _ _ (a5 (jD ?_))⟩
  clear hQ
  refine bS ?_
  intro df hQ
  set_option simprocs false in simp only [bF,cv hs]
  refine ⟨rfl,?_⟩
  have Xe:∀ d∈R.reverse.map aY,pU 1 d:=fun d hd=>by
   obtain ⟨x,_,rfl⟩:=Yt.mp hd
   exact DO 0 x
  rw [Xb (n:=1) (ds:=R.reverse.map aY) (es:=[]) (cv (jP hs)) rZ Xe (fun d hd=>nomatch hd) (by decide)]
  have hs1:=jP (m:=[O.lst []]) hs
  have Im:Ex [] st (s ++ [O.lst []]):=kx.app _
  generalize s ++ [O.lst []]=s1 at hs1 Im ⊢
  have Fw:∀ (t:cS) (r:List cS),R=t :: r->R.reverse.map aY=r.reverse.map aY ++ [aY t]:=fun t r e=>by rw [e,List.reverse_cons,Ys];rfl
  cases R with
  | nil =>
   refine ⟨false,by simp,?_⟩
   rw [if_neg (by decide)]
   refine hQ _ _ ⟨fun z=>absurd z (by decide),fun _=>kS ?_⟩
   refine LA (X:=af.bP [] (b,k)) hs1 Im (by simp) ?_ fun v3 s h1 h2=>⟨_,_,rfl,h1,h2⟩
   exact Po (R:=[]) pa (by simp)
  | cons t r =>
   have e1:=Fw t r rfl
   refine ⟨true,by simp,?_⟩
   rw [if_pos rfl,cv hs1,e1]
   refine ⟨_,rfl,aY t,Ls,?_⟩
   obtain ⟨bt,kt⟩:=t
   have Ij:aY (bt,kt)=.tup [.str (if bt then "s" else "t"),.int kt]:=rfl
   rw [Ij]
   w_how
   have eD:decide ((if bt=true then ("s" : Str) else "t")=if b=true then ("s" : Str) else "t")=decide (bt=b):=by cases bt <;> cases b <;> decide
   rw [eD]
   by_cases hb:bt=b
   ·subst hb
    refine hQ _ _ ⟨fun _=>bR ?_,fun z=>absurd z (by simp)⟩
    clear hQ
    rw [e1] at hs1
    refine bS ?_
    intro df hQ
    set_option simprocs false in simp only [bF,zN]
    refine ⟨oP (by rw [cv hs1];rfl),?_⟩
    rw [zP (kZ hs1),Ij]
    w_how
    refine hQ _ _ ?_
    have hs2:(s1.set st.length (.lst (r.reverse.map aY)))[st.length]?=some (.lst (r.reverse.map aY)):=Yj (eV hs1)
    refine LA (X:=af.bP ((bt,kt) :: r) (bt,k)) hs2 (Im.loc (Yd _)) (by rw [YE] at hlen;omega) ?_ fun v3 s h1 h2=>⟨_,_,rfl,h1,h2⟩
    rw [af.uk,if_pos rfl]
    unfold af.cy af.ik
    cases bt <;> simp <;> split <;> rfl
   ·refine hQ _ _ ⟨fun z=>absurd (of_decide_eq_true z) hb,fun _=>kS ?_⟩
    refine LA (X:=af.bP ((bt,kt) :: r) (b,k)) hs1 Im (by omega) ?_ fun v3 s h1 h2=>⟨_,_,rfl,h1,h2⟩
    exact Po (R:=(bt,kt) :: r) pa (fun t r e=>by cases e;exact hb)
 ·rintro δ s ⟨v2,v3,rfl,hs,kx⟩
  rw [X9,YS] at hs
  refine de ?_
  refine bS ?_
  intro df hQ
  set_option simprocs false in simp only [bF,cv hs]
  exact hQ _ _ ⟨rfl,kx⟩
theorem Xf {st:Store} {xs ys:List Int} {n:Nat} {w:List cS} (fl:nY n xs ys) (n0:0 < n) (hn:n<=20) {M k:Nat} (hM:M < 2 ^ k) (hk:k<=100) (hw:∀ s∈w,af.cH s) (hl:(af.az w).le M):Wp (E6 [bT xs ys,dS (af.az w)] st) fun d st'=>d=bT (af.bI n (af.eh (xs,ys) w)).1 (af.bI n (af.eh (xs,ys) w)).2/\Ex [] st st':=by
 have wh:=Fu fl
 refine eo ?_
 show Ws (HK [some (bT xs ys),some (dS (af.az w))] st) _ _ _ _
 unfold HK
 refine de ?_
 kspl_open hQ
 refine aV (W2 hM hk hl (af.Gj hw)) ?_
 rintro d st1 ⟨u,rfl,Xg,X1,eu,k1⟩
 have hu:∀ s∈u,af.cH s:=fun s hs=>(Xg s hs).1
 refine aV (WE (p:=(xs,ys)) ⟨fl.1,fl.2.1⟩ (by omega) (Pn hu) (by omega)) ?_
 rintro d st2 ⟨rfl,k2⟩
 rw [Lz]
 have wu:=wh.ld n0 (w:=u)
 refine aV (Pm (xs:=(af.eh (xs,ys) u).1) (ys:=(af.eh (xs,ys) u).2) (vC wu) n0 hn) ?_
 rintro d st3 ⟨rfl,k3⟩
 refine hQ _ _ ⟨?_,(k1.trans k2).trans k3⟩
 have e:af.bI n (af.eh (xs,ys) u)=af.bI n (af.eh (xs,ys) w):=af.uq n0 wu.v (af.J8 hu hw eu wh.v)
 show bT (af.bI n (af.eh (xs,ys) u)).1 (af.bI n (af.eh (xs,ys) u)).2=_
 rw [e]
theorem Xh {st:Store} {w:List cS} (hl:w.length<=1000):Wp (E9 [.tup (w.map aY)] st) fun d st'=>d=.tup ((af.gf w).map aY)/\Ex [] st st':=by
 refine eo ?_
 show Ws (HN [some (.tup (w.map aY)),none,none,none] st) _ _ _ _
 unfold HN
 refine a5 (bR ?_)
 kspl_open hQ
 refine ⟨rfl,hQ _ _ ?_⟩
 clear hQ
 show Ws _ _ _ _ _
 have er:(w.map aY).reverse=w.reverse.map aY:=List.map_reverse.symm
 refine a5 (mz (w.reverse.map aY) (fun i δ s=>∃ v2 v3:Option D,δ=[some (.tup (w.map aY)),some (.ref st.length),v2,v3]/\s[st.length]?=some (.lst (((w.reverse.take i).map af.jC).map aY))/\Ex [] st s) ?_ (by rw [X9,YJ];omega) ?_ ?_)
 ·refine bS ?_
  intro df hQ
  set_option simprocs false in simp only [bF,OG]
  refine ⟨_,rfl,?_⟩
  rw [er]
  refine hQ _ _ ⟨rfl,none,none,rfl,jE,Ex.cn _⟩
 ·rintro i d δ s hd ⟨v2,v3,rfl,hs,kx⟩
  rw [Yi] at hd
  obtain ⟨a,ha,rfl⟩:=YD.mp hd
  obtain ⟨hi,ea⟩:=Ya.mp ha
  have et:((w.reverse.take (i + 1)).map af.jC).map aY=((w.reverse.take i).map af.jC).map aY ++ [aY (af.jC a)]:=by
   rw [YB hi,ea,Ys,Ys];rfl
  rw [et]
  have Pp:(((w.reverse.take i).map af.jC).map aY).length<=1000:=by
   rw [X9,X9,Y1,YJ];omega
  generalize ((w.reverse.take i).map af.jC).map aY=L at hs Pp ⊢
  obtain ⟨b,k⟩:=a
  have es1:aY (b,k)=.tup [.str (if b then "s" else "t"),.int k]:=rfl
  rw [es1]
  kspl_open hQ
  refine ⟨rfl,hQ _ _ (qm ?_)⟩
  clear hQ
  have ln:L.length < 16777216:=by omega
  have h2:=jP (m:=[O.lst [D.int (0 - k),D.int (4 - k)]]) hs
  have k2:Ex [] st (s ++ [O.lst [D.int (0 - k),D.int (4 - k)]]):=kx.app _
  have fin:∀ x:D,x=.int (af.jC (b,k)).2->∃ v2 v3:Option D,[some (D.tup (w.map aY)),some (.ref st.length),some (D.str (if b then "s" else "t")),some (D.int k)]=[some (.tup (w.map aY)),some (.ref st.length),v2,v3]/\((s ++ [O.lst [D.int (0 - k),D.int (4 - k)]]).set st.length (.lst (L ++ [D.tup [D.str (if b then "s" else "t"),x]])))[st.length]?=some (.lst (L ++ [aY (af.jC (b,k))]))/\Ex [] st ((s ++ [O.lst [D.int (0 - k),D.int (4 - k)]]).set st.length (.lst (L ++ [D.tup [D.str (if b then "s" else "t"),x]]))):=fun x ex=>by
   refine ⟨_,_,rfl,?_,k2.loc (Yd _)⟩
   rw [Yj (eV h2),ex]
   cases b <;> rfl
  cases b with
  | true =>
   refine bS ?_
   intro df hQ
   set_option simprocs false in simp only [bF,rZ]
   exact ⟨oP (by rw [cv hs];rfl),rfl,.int (0 - k),by rfl,rfl,L,kZ h2,jz (by omega),hQ _ _ (fin _ (by simp [af.jC]))⟩
  | false =>
   refine bS ?_
   intro df hQ
   set_option simprocs false in simp only [bF,rZ]
   exact ⟨oP (by rw [cv hs];rfl),rfl,.int (4 - k),by rfl,rfl,L,kZ h2,jz (by omega),hQ _ _ (fin _ (by simp [af.jC]))⟩
 ·rintro δ s ⟨v2,v3,rfl,hs,kx⟩
  rw [X9,YS] at hs
  refine de ?_
  refine bS ?_
  intro df hQ
  set_option simprocs false in simp only [bF,cv hs]
  refine hQ _ _ ⟨?_,kx⟩
  unfold af.gf
  rw [List.map_reverse]
theorem Ai (p:List Int×List Int) (s:cS):gR p s=af.stM p s:=by
 have hq:∀ j,oG p.1 p.2 j=af.ot j p:=fun j=>by
  induction j with
  | zero=>rfl
  | succ j ih=>show _=_;unfold oG af.ot;rw [ih];rfl
 unfold gR af.stM
 split
 ·rfl
 ·exact hq _
theorem LB {p q:af.a6} (h:bO p=bO q):p=q:=by
 have h:D.tup [.tup (p.1.map D.int),.tup (p.2.map D.int)]=D.tup [.tup (q.1.map D.int),.tup (q.2.map D.int)]:=h
 injection h with h
 injection h with h1 h2
 injection h2 with h2 _
 have inj:∀ {x y:List Int},D.tup (x.map D.int)=D.tup (y.map D.int)->x=y:=fun {x y} e=>by
  injection e with e
  have:=congrArg (List.map inD) e
  rw [YF,YF] at this
  exact (List.map_id x).symm.trans (this.trans (List.map_id y))
 exact Prod.ext (inj h1) (inj h2)
theorem Aj {α:Type} {fs:List α} {g:α->D} {k:Nat} {p:α} (h:fs[k]?=some p):eK (fs.map g) (k:Int)=some (g p):=by
 have hk:k < fs.length:=(Ya.mp h).1
 unfold eK
 rw [AA (by rw [X9];exact hk)]
 show (fs.map g)[k]?=_
 rw [Yi,h];rfl
theorem Xi {fs:List af.a6} {F:af.a6} {j:Nat} (nd:fs.Nodup) (hj:fs[j]?=some F):∀ i e,i < j->(fs.map bO)[i]?=some e->e≠bO F:=fun i e hij he z=>by
 rw [Yi] at he
 obtain ⟨q,hq,rfl⟩:=YD.mp he
 have:=LB z
 subst this
 obtain ⟨g1,g2⟩:=Ya.mp hq
 obtain ⟨g3,g4⟩:=Ya.mp hj
 exact List.pairwise_iff_getElem.mp nd i j g1 g3 hij (by rw [g2,g4])
theorem lD {α:Type} {l:List α} {k:Nat} {d:α} (h:k < l.length):l[k]?=some (l.getD k d):=by rw [Yn,Yb h];rfl
def wD (w:List cS):D:=.tup (w.map aY)
theorem Pq {s:Store} {a b c r n k:Nat} {p:af.a6} {fs:List af.a6} {ws:List (List cS)} {rs:List Nat} {L:List Int} {s1:cS} {v0 v1 v7:Option D} {N B C:aq->Store->Prop} {R:D->Store->Prop}
  (n0:0 < n) (hn:n<=20) (hs:s1=(true,1)\/s1=(false,1)) (ab:a≠b) (ac:a≠c) (bc:b≠c) (ar:a≠r) (br:b≠r) (cr:c≠r)
  (ha:s[a]?=some (.lst (fs.map bO))) (hb:s[b]?=some (.lst (ws.map wD))) (hc:s[c]?=some (.lst (rs.map D.ref))) (hr:s[r]?=some (.lst (L.map D.int))) (hrk:rs[k]?=some r)
  (g:af.GR n p fs ws) (vp:af.Vf n p) (hk:k < fs.length) (few:fs.length<=100) (hL:L.length<=5)
  (hN:∀ (v:Option D) (s':Store),s'[a]?=some (.lst ((af.cF n fs ws k s1).1.map bO))->s'[b]?=some (.lst ((af.cF n fs ws k s1).2.1.map wD))->s'[c]?=some (.lst (rs.map D.ref))->s'[r]?=some (.lst ((L ++ [((af.cF n fs ws k s1).2.2:Int)]).map D.int))->Ex [a,b,r] s s'->N [v0,v1,some (.ref a),some (.ref b),some (.ref c),some (.int (k:Int)),some (aY s1),v] s') :
  Ws ((aE (aH (aP pN (ae (aP tR (ae (av cm (ag 2) (ag 5)) (ae (ag 6) ah))) ah)) (hName 7))
 (aE (h8 (aN (av (qv true) (ag 7) (ag 2))) (aE (cG (kR "list" bj (ag 2) (ae (ag 7) ah)))
 (cG (kR "list" bj (ag 3) (ae (aP Ba (ae (av ip (av cm (ag 3) (ag 5)) (bq (ae (ag 6) ah))) ah)) ah)))) bx)
 (cG (kR "list" bj (av cm (ag 4) (ag 5)) (ae (kR "list" gn (ag 2) (ae (ag 7) ah)) ah))))) [v0,v1,some (.ref a),some (.ref b),some (.ref c),some (.int (k:Int)),some (aY s1),v7] s) N B C R:=by
 have ek:=lD (d:=(([],[]):af.a6)) hk
 have hkw:k < ws.length:=by rw [g.wl];exact hk
 have ew:=lD (d:=([]:List cS)) hkw
 have ps:af.cH s1:=by rcases hs with rfl | rfl <;> exact ⟨fun _=>by decide,by decide⟩
 have gN:=af.DR n0 g vp hk hs
 have lN:(af.cF n fs ws k s1).1.length<=101:=by have:=gN.2.2.2.1;omega
 generalize hq:fs.getD k ([],[])=q at ek
 generalize hw:ws.getD k []=w at ew
 obtain ⟨wq,oq⟩:=g.own q (Yf ek)
 obtain ⟨pw,lw,nw,-⟩:=g.wd k w ew
 have hat:eK (fs.map bO) (k:Int)=some (bO q):=Aj ek
 have LC:eK (rs.map D.ref) (k:Int)=some (.ref r):=Aj hrk
 refine a5 (bR ?_)
 refine bS ?_
 intro df hQ
 set_option simprocs false in simp only [bF,cv ha,hat]
 refine aV (O8 (p:=q) (s:=s1) ⟨wq.v.1,wq.v.2⟩ (by omega) ps.1) ?_
 rintro d t1 ⟨rfl,k1⟩
 rw [Ai]
 have K2:=wq.st n0 s1
 have eS:bO (af.stM q s1)=bT (af.stM q s1).1 (af.stM q s1).2:=rfl
 rw [eS]
 refine aV (Fv (vC K2) n0 hn) ?_
 rintro d t2 ⟨rfl,k2⟩
 have eF:bT (af.bI n ((af.stM q s1).1,(af.stM q s1).2)).1 (af.bI n ((af.stM q s1).1,(af.stM q s1).2)).2=bO (af.bI n (af.stM q s1)):=rfl
 rw [eF]
 have Bo:=k1.trans k2
 have ha2:=Bo.keep _ _ ha (by simp)
 have hb2:=Bo.keep _ _ hb (by simp)
 have hc2:=Bo.keep _ _ hc (by simp)
 have hr2:=Bo.keep _ _ hr (by simp)
 have pf:∀ q:af.a6,pU 2 (bO q):=fun q=>xi 0 _ _
 have rest:∀ {s3:Store},s3[a]?=some (.lst ((af.cF n fs ws k s1).1.map bO))->s3[b]?=some (.lst ((af.cF n fs ws k s1).2.1.map wD))->s3[c]?=some (.lst (rs.map D.ref))->s3[r]?=some (.lst (L.map D.int))->Ex [a,b,r] s s3->(af.cF n fs ws k s1).1[(af.cF n fs ws k s1).2.2]?=some (af.bI n (af.stM q s1)) ->
   Ws ((cG (kR "list" bj (av cm (ag 4) (ag 5)) (ae (kR "list" gn (ag 2) (ae (ag 7) ah)) ah))) [v0,v1,some (.ref a),some (.ref b),some (.ref c),some (.int (k:Int)),some (aY s1),some (bO (af.bI n (af.stM q s1)))] s3) N B C R:=by
  intro s3 Bp Bq hc3 pZ k3 hj
  refine qm ?_
  refine bS ?_
  intro fW bM
  set_option simprocs false in simp only [bF,cv hc3,LC]
  refine ⟨oP (by rw [cv pZ];rfl),oP (by rw [cv Bp];rfl),?_⟩
  rw [UM (n:=2) (j:=(af.cF n fs ws k s1).2.2) (pf _) (cv Bp) (fun e he=>by obtain ⟨q,_,rfl⟩:=Yt.mp he;exact pf q) (by decide) (by rw [X9];omega) (by rw [Yi,hj];rfl) (Xi gN.1.nd hj)]
  set_option simprocs false in simp only [bF,kZ pZ]
  refine ⟨jz (by rw [X9];omega),bM _ _ (hN _ _ ?_ ?_ ?_ ?_ ?_)⟩
  ·rw [Yp (Ne.symm ar)];exact Bp
  ·rw [Yp (Ne.symm br)];exact Bq
  ·rw [Yp (Ne.symm cr)];exact hc3
  ·rw [Yj (eV pZ),Ys];rfl
  ·exact k3.put (by simp)
 have hj:(af.cF n fs ws k s1).1[(af.cF n fs ws k s1).2.2]?=some (af.bI n (af.stM q s1)):=by
  obtain ⟨q',h1,h2⟩:=gN.2.2.2.2
  rw [ek] at h1;cases h1;exact h2
 refine hQ _ _ (a5 (jD ?_))
 clear hQ
 kspl_open hQ
 have Ly:cX t2 (.ref a)=some (fs.map bO):=cv ha2
 rw [zL (n:=2) (es:=fs.map bO) (pf _) Ly (fun e he=>by obtain ⟨q,_,rfl⟩:=Yt.mp he;exact pf q) (by decide)]
 by_cases hm:af.bI n (af.stM q s1)∈fs
 ·have hm':bO (af.bI n (af.stM q s1))∈fs.map bO:=Yt.mpr ⟨_,hm,rfl⟩
  have eR:af.cF n fs ws k s1=(fs,ws,fs.idxOf (af.bI n (af.stM q s1))):=by unfold af.cF;rw [hq,if_pos hm]
  refine ⟨false,by simp [hm'],hQ _ _ ⟨fun z=>(nomatch z),fun _=>kS (rest ?_ ?_ hc2 hr2 Bo.any hj)⟩⟩
  ·rw [eR];exact ha2
  ·rw [eR];exact hb2
 ·have hm':bO (af.bI n (af.stM q s1)) ∉ fs.map bO:=fun z=>by
   obtain ⟨q',h1,h2⟩:=Yt.mp z
   exact hm (LB h2 ▸ h1)
  have eR:af.cF n fs ws k s1=(fs ++ [af.bI n (af.stM q s1)],ws ++ [(af.jB (w ++ [s1])).reverse],fs.length):=by unfold af.cF;rw [hq,hw,if_neg hm]
  refine ⟨true,by simp [hm'],hQ _ _ ⟨fun _=>?_,fun z=>(nomatch z)⟩⟩
  clear hQ
  refine a5 (qm ?_)
  refine bS ?_
  intro df hQ
  set_option simprocs false in simp only [bF,kZ ha2]
  refine ⟨oP (by rw [cv ha2];rfl),jz (by rw [X9];omega),hQ _ _ (qm ?_)⟩
  clear hQ
  have em:fs.map bO ++ [bO (af.bI n (af.stM q s1))]=(af.cF n fs ws k s1).1.map bO:=by rw [eR,Ys];rfl
  rw [em]
  have Bp:(t2.set a (.lst ((af.cF n fs ws k s1).1.map bO)))[a]?=some (.lst ((af.cF n fs ws k s1).1.map bO)):=Yj (eV ha2)
  have Bq:(t2.set a (.lst ((af.cF n fs ws k s1).1.map bO)))[b]?=some (.lst (ws.map wD)):=by rw [Yp ab];exact hb2
  have hc3:(t2.set a (.lst ((af.cF n fs ws k s1).1.map bO)))[c]?=some (.lst (rs.map D.ref)):=by rw [Yp ac];exact hc2
  have pZ:(t2.set a (.lst ((af.cF n fs ws k s1).1.map bO)))[r]?=some (.lst (L.map D.int)):=by rw [Yp ar];exact hr2
  have k3:Ex [a,b,r] s (t2.set a (.lst ((af.cF n fs ws k s1).1.map bO))):=(Bo.any).put (by simp)
  generalize t2.set a (.lst ((af.cF n fs ws k s1).1.map bO))=s3 at Bp Bq hc3 pZ k3 ⊢
  have LD:eK (ws.map wD) (k:Int)=some (wD w):=Aj ew
  refine bS ?_
  intro df hQ
  set_option simprocs false in simp only [bF,cv Bq,LD]
  refine ⟨oP (by rw [cv Bq];rfl),rfl,?_⟩
  have e1:w.map aY ++ [aY s1]=(w ++ [s1]).map aY:=by rw [Ys];rfl
  unfold wD
  w_how
  rw [e1]
  refine ⟨jz (by rw [X9];show _ + 1<=_;omega),?_⟩
  have cB:∀ x∈w ++ [s1],af.cH x:=fun x hx=>by
   rcases Yz.mp hx with h | h
   ·exact af.Pl.pr pw x (YR.mpr h)
   ·rw [Yr.mp h];exact ps
  refine aV (Xc (w:=w ++ [s1]) cB (by rw [Yc];show _ + 1<=_;omega)) ?_
  rintro d s4 ⟨rfl,k4⟩
  have Xj:=k4.keep _ _ Bp (by simp)
  have Pr:=k4.keep _ _ Bq (by simp)
  have hc4:=k4.keep _ _ hc3 (by simp)
  have Xk:=k4.keep _ _ pZ (by simp)
  set_option simprocs false in simp only [bF,kZ Pr]
  refine ⟨jz (by rw [X9,g.wl];omega),hQ _ _ (rest ?_ ?_ ?_ ?_ ((k3.trans k4.any).put (by simp)) hj)⟩
  ·rw [Yp (Ne.symm ab)];exact Xj
  ·rw [Yj (eV Pr),eR,Ys];rfl
  ·rw [Yp bc];exact hc4
  ·rw [Yp br];exact Xk
def qZ (p:af.a6) (w:List cS) (l:Nat×Nat):D:=.tup [bO p,wD w,.int (l.1:Int),.int (l.2:Int)]
def qr (c:af.CS) (N:Nat):D:=.tup ((List.range N).map fun k=>qZ (c.1.getD k ([],[])) (c.2.1.getD k []) (c.2.2.getD k (0,0)))
structure vD (st s:Store) (ia ib ic:Nat) (fs:List af.a6) (ws:List (List cS)) (ls:List (Nat×Nat)) (rs:List Nat):Prop where
 a:s[ia]?=some (.lst (fs.map bO))
 b:s[ib]?=some (.lst (ws.map wD))
 c:s[ic]?=some (.lst (rs.map D.ref))
 l:ls.length<=rs.length
 r:∀ (k r:Nat) (l:Nat×Nat),rs[k]?=some r->ls[k]?=some l->s[r]?=some (.lst [.int (l.1:Int),.int (l.2:Int)])
 h:∀ r∈rs,ic < r/\r < s.length
 e:Ex [] st s
theorem Fx {x y:D}:eK [x,y] 0=some x:=rfl
theorem Fy {x y:D}:eK [x,y] 1=some y:=rfl
theorem Pt {st:Store} {p:af.a6} {n most:Nat} (w0:af.Wh n p) (n0:0 < n) (hn:n<=20) (m1:1<=most) (X2:most<=60):Wp (zW [bO p,.int (most:Int)] st) fun d st'=>Ex [] st st'/\((∃ N,N<=most/\af.Full n p (af.ch n p N) N/\d=qr (af.ch n p N) N)\/(d=.non/\∃ i,(∀ j,j < i->j < (af.ch n p j).1.length)/\most < (af.ch n p i).1.length)):=by
 refine eo ?_
 show Ws (G0 [some (bO p),some (.int (most:Int)),none,none,none,none,none,none] st) _ _ _ _
 unfold G0
 refine a5 (bR ?_)
 kspl_open hQ
 refine aV (Fv (vC w0) n0 hn) ?_
 rintro d s1 ⟨rfl,k1⟩
 refine ⟨rfl,hQ _ _ (a5 (bR ?_))⟩
 clear hQ
 kspl_open hQ
 refine ⟨rfl,rfl,hQ _ _ (a5 (bR ?_))⟩
 clear hQ
 kspl_open hQ
 refine ⟨rfl,hQ _ _ ?_⟩
 clear hQ
 have eF:bT (af.bI n (p.1,p.2)).1 (af.bI n (p.1,p.2)).2=bO (af.bI n p):=rfl
 rw [eF]
 obtain ⟨a,b,c,s2,ea,eb,ec,es,ab,bc,la,I0⟩:∃ (a b c:Nat) (s2:Store),s1.length=a/\(s1 ++ [O.lst [bO (af.bI n p)]]).length=b/\(s1 ++ [O.lst [bO (af.bI n p)]] ++ [O.lst [D.tup []]]).length=c/\s1 ++ [O.lst [bO (af.bI n p)]] ++ [O.lst [D.tup []]] ++ [O.lst []]=s2/\a < b/\b < c/\st.length<=a/\vD st s2 a b c (af.ch n p 0).1 (af.ch n p 0).2.1 (af.ch n p 0).2.2 [] :=
  ⟨_,_,_,_,rfl,rfl,rfl,rfl,by simp,by simp,k1.len,jP (jP jE),jP jE,jE,Yd _,(fun k r l h=>nomatch h),(fun r h=>nomatch h),((k1.app _).app _).app _⟩
 rw [ea,eb,ec,es]
 refine a5 (mz (aG 0 most) (fun i δ s=>∃ (v5 v6 v7:Option D) (j:Nat) (rs:List Nat),δ=[some (bO p),some (.int (most:Int)),some (.ref a),some (.ref b),some (.ref c),v5,v6,v7]/\j<=i/\(∀ j',j' < j->j' < (af.ch n p j').1.length)/\(af.ch n p j).1.length<=most/\(j=i\/(af.ch n p j).1.length=j)/\rs.length=j/\vD st s a b c (af.ch n p j).1 (af.ch n p j).2.1 (af.ch n p j).2.2 rs) ?_ (by rw [gh];omega) ?_ ?_)
 ·kspl_open hQ
  refine ⟨by omega,hQ _ _ ⟨by rw [Yl],none,none,none,0,[],rfl,Yd _,(fun j' h=>nomatch h),(show 1<=most from m1),.inl rfl,rfl,I0⟩⟩
 ·rintro i d δ s hd ⟨v5,v6,v7,j,rs,rfl,hj,pr,few,jo,hrs,I⟩
  have hi:i < most:=by have:=eV hd;rw [gh] at this;exact this
  rw [A0 hi,Int.zero_add] at hd
  cases hd
  have g:=af.GK n0 w0 j pr
  kspl_open hQ
  refine hQ _ _ (jD ?_)
  clear hQ
  refine bS ?_
  intro df hQ
  set_option simprocs false in simp only [bF,cv I.a]
  rw [X9]
  refine hQ _ _ ⟨fun z=>?_,fun z=>kS ?_⟩
  ·have z:i < (af.ch n p j).1.length:=by have:=of_decide_eq_true z;omega
   have ej:j=i:=by rcases jo with h | h <;> omega
   subst ej
   clear hQ
   have p8:=g.ll
   have Fs:=g.le
   refine a5 (qm ?_)
   kspl_open hQ
   have Ic:=jP (m:=[O.lst []]) I.c
   refine ⟨oP (by rw [cv I.c];rfl),rfl,_,kZ Ic,jz (by rw [X9];omega),hQ _ _ ?_⟩
   clear hQ
   have er:rs.map D.ref ++ [D.ref s.length]=(rs ++ [s.length]).map D.ref:=by rw [Ys];rfl
   rw [er]
   have lc:=eV I.c
   have I1:vD st ((s ++ [O.lst []]).set c (.lst ((rs ++ [s.length]).map D.ref))) a b c (af.ch n p j).1 (af.ch n p j).2.1 (af.ch n p j).2.2 (rs ++ [s.length]):=by
    refine ⟨?_,?_,Yj (eV Ic),by rw [Yc];have:=I.l;omega,fun k r l h1 h2=>?_,fun r hr=>?_,?_⟩
    ·rw [Yp (by omega)];exact jP I.a
    ·rw [Yp (by omega)];exact jP I.b
    ·have hk:k < rs.length:=by have:=(Ya.mp h2).1;omega
     rw [Yk hk] at h1
     have hc:=I.h r (Yf h1)
     rw [Yp (by omega)]
     exact jP (I.r k r l h1 h2)
    ·rw [YX,Yc]
     rcases Yz.mp hr with h | h
     ·have:=I.h r h;exact ⟨this.1,Nat.lt_succ_of_lt this.2⟩
     ·rw [Yr.mp h];exact ⟨lc,Y4 _⟩
    ·exact (I.e.app _).loc (by omega)
   have hr1:((s ++ [O.lst []]).set c (.lst ((rs ++ [s.length]).map D.ref)))[s.length]?=some (.lst (([]:List Int).map D.int)):=by
    rw [Yp (by omega)];exact jE
   have hrk:(rs ++ [s.length])[j]?=some s.length:=by rw [Yw (by omega),hrs,Y9];rfl
   have old:∀ r∈rs,r≠s.length:=fun r h=>by have:=I.h r h;omega
   have Xl:c < s.length:=lc
   generalize (s ++ [O.lst []]).set c (.lst ((rs ++ [s.length]).map D.ref))=s3 at I1 hr1
   generalize s.length=r at I1 hr1 hrk old Xl
   have r1:=af.DR (s:=(true,1)) n0 g.r w0.v (k:=j) z (.inl rfl)
   have r2:=af.DR (s:=(false,1)) n0 r1.1 w0.v (k:=j) (by have:=r1.2.2.1;omega) (.inr rfl)
   have eS:af.nA n (af.ch n p j)=af.cF n (af.ch n p j).1 (af.ch n p j).2.1 j (true,1):=by unfold af.nA;rw [p8]
   have eT:af.nB n (af.ch n p j)=af.cF n (af.cF n (af.ch n p j).1 (af.ch n p j).2.1 j (true,1)).1 (af.cF n (af.ch n p j).1 (af.ch n p j).2.1 j (true,1)).2.1 j (false,1):=by unfold af.nB;rw [eS,p8]
   have mk:∀ {fs fs':List af.a6} {ws A2:List (List cS)} {s s':Store},vD st s a b c fs ws (af.ch n p j).2.2 (rs ++ [r])->s'[a]?=some (.lst (fs'.map bO))->s'[b]?=some (.lst (A2.map wD))->s'[c]?=some (.lst ((rs ++ [r]).map D.ref))->Ex [a,b,r] s s'->vD st s' a b c fs' A2 (af.ch n p j).2.2 (rs ++ [r]):=by
    intro fs fs' ws A2 s s' J h1 h2 h3 k
    refine ⟨h1,h2,h3,J.l,fun i r' l e1 e2=>?_,fun r' hr=>?_,⟨Yv J.e.len k.len,fun i o e n=>k.keep i o (J.e.keep i o e n) (by have:=eV e;simp;omega)⟩⟩
    ·have hk:i < rs.length:=by have:=(Ya.mp e2).1;omega
     have AE:=e1
     rw [Yk hk] at AE
     have hm:=Yf AE
     have hc:=J.h r' (Yf e1)
     have:=old r' hm
     exact k.keep _ _ (J.r i r' l e1 e2) (by simp;omega)
    ·have hc:=J.h r' hr
     exact ⟨hc.1,YH hc.2 k.len⟩
   refine a5 (mz [aY (true,1),aY (false,1)] (fun m δ s=>∃ (v6 v7:Option D),δ=[some (bO p),some (.int (most:Int)),some (.ref a),some (.ref b),some (.ref c),some (.int (j:Int)),v6,v7]/\((m=0/\vD st s a b c (af.ch n p j).1 (af.ch n p j).2.1 (af.ch n p j).2.2 (rs ++ [r])/\s[r]?=some (.lst (([]:List Int).map D.int)))\/(m=1/\vD st s a b c (af.nA n (af.ch n p j)).1 (af.nA n (af.ch n p j)).2.1 (af.ch n p j).2.2 (rs ++ [r])/\s[r]?=some (.lst (([((af.nA n (af.ch n p j)).2.2:Int)]:List Int).map D.int)))\/(m=2/\vD st s a b c (af.nB n (af.ch n p j)).1 (af.nB n (af.ch n p j)).2.1 (af.ch n p j).2.2 (rs ++ [r])/\s[r]?=some (.lst (([((af.nA n (af.ch n p j)).2.2:Int),((af.nB n (af.ch n p j)).2.2:Int)]:List Int).map D.int))))) ?_ (by decide) ?_ ?_)
   ·kspl_open hQ
    exact ⟨rfl,rfl,rfl,hQ _ _ ⟨rfl,v6,v7,rfl,.inl ⟨rfl,I1,hr1⟩⟩⟩
   ·rintro m d δ s5 hd ⟨v6,v7,rfl,hm⟩
    kspl_open hQ
    refine hQ _ _ ?_
    clear hQ
    rcases hm with ⟨rfl,J,hr⟩ | ⟨rfl,J,hr⟩ | ⟨rfl,J,hr⟩
    ·cases (show some (aY (true,1))=some d from hd)
     refine Pq (s1:=(true,1)) n0 hn (.inl rfl) (by omega) (by omega) (by omega) (by omega) (by omega) (by omega) J.a J.b J.c hr hrk g.r w0.v z (by omega) (by simp) fun v s' h1 h2 h3 h4 h5=>?_
     refine ⟨_,v,rfl,.inr (.inl ⟨rfl,?_,?_⟩)⟩
     ·rw [eS];exact mk J h1 h2 h3 h5
     ·rw [eS];exact h4
    ·cases (show some (aY (false,1))=some d from hd)
     rw [eS] at J hr
     refine Pq (s1:=(false,1)) n0 hn (.inr rfl) (by omega) (by omega) (by omega) (by omega) (by omega) (by omega) J.a J.b J.c hr hrk r1.1 w0.v (by have:=r1.2.2.1;omega) (by have:=r1.2.2.2.1;omega) (by simp) fun v s' h1 h2 h3 h4 h5=>?_
     refine ⟨_,v,rfl,.inr (.inr ⟨rfl,?_,?_⟩)⟩
     ·rw [eT];exact mk J h1 h2 h3 h5
     ·rw [eT,eS];exact h4
    ·cases (show none=some d from hd)
   ·rintro δ s5 ⟨v6,v7,rfl,⟨h,_⟩ | ⟨h,_⟩ | ⟨_,J,hr⟩⟩
    ·cases h
    ·cases h
    have Pu:∀ j',j' < j + 1->j' < (af.ch n p j').1.length:=fun j' h=>by
     rcases Nat.lt_or_ge j' j with h' | h'
     ·exact pr j' h'
     ·have:j'=j:=by omega
      subst this;exact z
    have J2:vD st s5 a b c (af.ch n p (j + 1)).1 (af.ch n p (j + 1)).2.1 (af.ch n p (j + 1)).2.2 (rs ++ [r]):=by
     refine ⟨J.a,J.b,J.c,?_,fun k r' l e1 e2=>?_,J.h,J.e⟩
     ·show ((af.ch n p j).2.2 ++ [_]).length<=_
      rw [Yc,Yc,p8,hrs];exact Yd _
     ·have e2:((af.ch n p j).2.2 ++ [((af.nA n (af.ch n p j)).2.2,(af.nB n (af.ch n p j)).2.2)])[k]?=some l:=e2
      by_cases hk:k < (af.ch n p j).2.2.length
      ·rw [Yk hk] at e2
       exact J.r k r' l e1 e2
      ·have hk2:k=j:=by
        have:=(Ya.mp e2).1
        rw [Yc] at this
        have:k < (af.ch n p j).2.2.length + 1:=this
        omega
       subst hk2
       rw [Yw (by omega),p8,Y9] at e2
       cases (show some _=some l from e2)
       rw [hrk] at e1
       cases e1
       exact hr
    refine jD ?_
    refine bS ?_
    intro df hQ
    set_option simprocs false in simp only [bF,cv J2.a]
    rw [X9]
    refine hQ _ _ ⟨fun y=>de ?_,fun y=>kS ⟨_,_,_,j + 1,_,rfl,Yd _,Pu,?_,.inl rfl,?_,J2⟩⟩
    ·clear hQ
     kspl_open hQ
     exact hQ _ _ ⟨J2.e,.inr ⟨rfl,j + 1,Pu,by have:=of_decide_eq_true y;omega⟩⟩
    ·have:=of_decide_eq_false y;omega
    ·rw [Yc,hrs];rfl
  ·have z:¬ i < (af.ch n p j).1.length:=by have:=of_decide_eq_false z;omega
   have:=g.le
   exact ⟨_,_,_,j,rs,rfl,by omega,pr,few,by omega,hrs,I⟩
 ·rintro δ s ⟨v5,v6,v7,j,rs,rfl,hj,pr,few,jo,hrs,I⟩
  rw [gh] at hj jo
  have g:=af.GK n0 w0 j pr
  have Fs:=g.le
  have LF:(af.ch n p j).1.length=j:=by rcases jo with h | h <;> omega
  have xu:af.Full n p (af.ch n p j) j:={ toGC:=g,fl:=LF }
  refine de ?_
  kspl_open hQ
  generalize hC:af.ch n p j=C at I g LF xu
  refine r6 (aG 0 j) (fun d=>qZ (C.1.getD (inD d).toNat ([],[])) (C.2.1.getD (inD d).toNat []) (C.2.2.getD (inD d).toNat (0,0))) ?_ (by rw [gh];omega) ?_ ?_
  ·refine bS ?_
   intro fW bM
   set_option simprocs false in simp only [bF,cv I.a]
   rw [X9,LF]
   exact ⟨by omega,bM _ _ ⟨by rw [Yl];exact rQ _ _,Ex.refl⟩⟩
  ·intro d hd s5 k5
   obtain ⟨i,hi⟩:=List.getElem?_of_mem hd
   have hil:=eV hi
   rw [gh] at hil
   rw [A0 hil,Int.zero_add] at hi
   cases hi
   have hwl:=g.r.wl
   have p8:=g.ll
   have ef:=lD (d:=(([],[]):af.a6)) (show i < C.1.length by omega)
   have ew:=lD (d:=([]:List cS)) (show i < C.2.1.length by omega)
   have el:=lD (d:=((0,0):Nat×Nat)) (show i < C.2.2.length by omega)
   have er:=lD (d:=0) (show i < rs.length by omega)
   have hR:=k5.keep _ _ (I.r i _ _ er el) (by simp)
   have a1:eK (C.1.map bO) (i:Int)=some (bO (C.1.getD i ([],[]))):=Aj ef
   have a2:eK (C.2.1.map wD) (i:Int)=some (wD (C.2.1.getD i [])):=Aj ew
   have a3:eK (rs.map D.ref) (i:Int)=some (.ref (rs.getD i 0)):=Aj er
   have Xm:=k5.keep _ _ I.a (by simp)
   have Xn:=k5.keep _ _ I.b (by simp)
   have hc5:=k5.keep _ _ I.c (by simp)
   generalize rs.getD i 0=r at hR a3
   refine bS ?_
   intro fW bM
   set_option simprocs false in simp only [bF,Yu,YM,YK,YL,cv Xm,cv Xn,cv hc5,a1,a2,a3,cv hR,Fx,Fy]
   exact ⟨rfl,bM _ _ ⟨rfl,Ex.refl⟩⟩
  ·intro s5 k5
   refine ⟨_,rZ,hQ _ _ ⟨(I.e.trans k5).app _,.inl ⟨j,by omega,by rw [hC];exact xu,?_⟩⟩⟩
   rw [hC]
   unfold qr
   congr 1
   unfold aG
   rw [YF]
   refine YU fun i _=>?_
   show qZ _ _ _=_
   simp only [Function.comp,inD,Int.zero_add,Yl]
theorem Xo (c:af.CS) (N:Nat):∃ ds,qr c N=.tup ds:=⟨_,rfl⟩
theorem Xp {st:Store} {f:Nat} (hf:bp st f):Wp (D3 [.ref f,.int 30] st) fun d st'=>∃ (n:Nat) (p:af.a6) (N:Nat),d=.tup [bO p,qr (af.ch n p N) N]/\af.Wh n p/\0 < n/\n<=6/\af.Full n p (af.ch n p N) N/\N<=30/\bp st' f/\Ex [f] st st':=by
 refine eo ?_
 show Ws (G1 [some (.ref f),some (.int 30),none,none] st) _ _ _ _
 unfold G1
 refine a5 (bR ?_)
 kspl_open hQ
 refine aV (rR (n:=5) hf (by decide) (by decide)) ?_
 rintro d t1 ⟨k1,rfl,KZ,Xq,f1,e1⟩
 w_how
 refine ⟨rfl,?_⟩
 have f2:bp (t1 ++ [O.lst [D.int (1 + k1),D.int 6]]) f:=f1.keep (Ex.cn _)
 have i2:(t1 ++ [O.lst [D.int (1 + k1),D.int 6]])[t1.length]?=some (.lst [D.int (1 + k1),D.int 6]):=jE
 have e2:Ex [f] st (t1 ++ [O.lst [D.int (1 + k1),D.int 6]]):=e1.app _
 have lf:=f1.lt
 have hne:t1.length≠f:=by omega
 generalize t1 ++ [O.lst [D.int (1 + k1),D.int 6]]=t2 at f2 i2 e2 ⊢
 generalize t1.length=r at i2 hne ⊢
 refine aV (rR (n:=8) f2 (by decide) (by decide)) ?_
 rintro d t3 ⟨k2,rfl,X3,X4,f3,e3⟩
 have i3:items t3 r=some [D.int (1 + k1),D.int 6]:=cv (e3.keep _ _ i2 (by simp;exact hne))
 set_option simprocs false in simp only [bF,i3]
 obtain ⟨n,x,hx,ex,n0,n6⟩:∃ (n:Nat) (x:D),eK [D.int (1 + k1),D.int 6] (k2 / 7)=some x/\x=.int (n:Int)/\0 < n/\n<=6:=by
  rcases (show k2 / 7=0\/k2 / 7=1 by omega) with h | h
  ·rw [h];exact ⟨(1 + k1).toNat,_,rfl,by rw [YG (by omega)],by omega,by omega⟩
  ·rw [h];exact ⟨6,_,rfl,rfl,by decide,by decide⟩
 refine ⟨by decide,x,hx,?_⟩
 rw [ex]
 clear hx ex
 refine aV (Le (n:=n) f3 (by omega) (by omega)) ?_
 rintro d t4 ⟨xs,ys,rfl,fl,f4,e4⟩
 refine hQ _ _ (a5 (bR ?_))
 clear hQ
 kspl_open hQ
 have w4:=Fu fl
 have Xr:Ex [f] st t4:=(e2.trans e3).trans e4
 refine aV (Pt (p:=(xs,ys)) (most:=30) w4 n0 (by omega) (by decide) (by decide)) ?_
 rintro d t5 ⟨e5,hc⟩
 have f5:=f4.keep e5
 refine hQ _ _ ?_
 clear hQ
 show Ws _ _ _ _ _
 refine a5 (y9 (fun m δ s=>∃ (n:Nat) (p:af.a6) (d:D),δ=[some (.ref f),some (.int ((30:Nat):Int)),some (bO p),some d]/\af.Wh n p/\0 < n/\n<=6/\((∃ N,N<=30/\af.Full n p (af.ch n p N) N/\d=qr (af.ch n p N) N)\/(d=.non/\m=1))/\bp s f/\Ex [f] st s) 1 (by decide) ?_ ?_)
 ·refine ⟨n,(xs,ys),d,rfl,w4,n0,n6,?_,f5,Xr.trans e5.any⟩
  rcases hc with h | h
  ·exact .inl h
  ·exact .inr ⟨h.1,rfl⟩
 ·rintro m δ s ⟨n,p,d,rfl,w4,n0,n6,hd,f6,e6⟩
  rcases hd with ⟨N,LG,hF,rfl⟩ | ⟨rfl,rfl⟩
  ·obtain ⟨ds,Pw⟩:=Xo (af.ch n p N) N
   rw [Pw]
   refine bS ?_
   intro df hQ
   set_option simprocs false in simp only [bF,Us]
   refine hQ _ _ ⟨fun z=>(nomatch z),fun _=>de ?_⟩
   clear hQ
   kspl_open hQ
   exact ⟨rfl,hQ _ _ ⟨n,p,N,by rw [Pw],w4,n0,n6,hF,LG,f6,e6⟩⟩
  ·refine bS ?_
   intro df hQ
   set_option simprocs false in simp only [bF,Ur]
   refine hQ _ _ ⟨fun _=>a5 (bR ?_),fun z=>(nomatch z)⟩
   clear hQ
   kspl_open hQ
   refine aV (rR (n:=3) f6 (by decide) (by decide)) ?_
   rintro d t7 ⟨k3,rfl,X5,X6,f7,e7⟩
   w_how
   obtain ⟨n',hn'⟩:∃ n':Nat,(1:Int) + k3=(n':Int):=⟨(1 + k3).toNat,by omega⟩
   rw [hn']
   refine aV (Le (n:=n') f7 (by omega) (by omega)) ?_
   rintro d t8 ⟨xs,ys,rfl,fl,f8,e8⟩
   refine hQ _ _ (bR ?_)
   clear hQ
   kspl_open hQ
   have w8:=Fu fl
   refine aV (Pt (p:=(xs,ys)) (most:=30) w8 (show 0 < n' by omega) (by omega) (by decide) (by decide)) ?_
   rintro d t9 ⟨e9,hc⟩
   rcases hc with ⟨N,LG,hF,rfl⟩ | ⟨rfl,i,pr,hi⟩
   ·exact hQ _ _ ⟨0,by decide,n',(xs,ys),_,rfl,w8,by omega,by omega,.inl ⟨N,LG,hF,rfl⟩,f8.keep e9,((e6.trans e7).trans e8).trans e9.any⟩
   ·have g:=af.GK (by omega) w8 i pr
    have:=af.UT (n:=n') (by omega) (by omega) g.r.nd g.r.own
    omega
def tV:D->D
 | .tup (a :: _)=>a
 | _=>.non
def Ak:D->D
 | .tup (_ :: w :: _)=>w
 | _=>.non
theorem Xs {st:Store} {f n N:Nat} {p:af.a6} {C:af.CS} {w:List cS} (hf:bp st f) (w0:af.Wh n p) (n0:0 < n) (hn:n<=20) (F:af.Full n p C N) (hN:N<=60) (hw:∀ s∈w,p3 900 s) (hl:w.length<=100):Wp (Fc [.ref f,bO p,qr C N,wD w] st) fun d st'=>∃ w':List cS,d=wD w'/\(∀ s∈w',p3 900 s)/\w'.length<=200/\bp st' f/\Ex [f] st st':=by
 refine eo ?_
 show Ws (HQ [some (.ref f),some (bO p),some (qr C N),some (wD w),none] st) _ _ _ _
 unfold HQ
 refine a5 (jD ?_)
 kspl_open hQ
 refine aV (rR (n:=2) hf (by decide) (by decide)) ?_
 rintro d t1 ⟨k1,rfl,KZ,Xq,f1,e1⟩
 w_how
 refine hQ _ _ ⟨fun z=>a5 (bR ?_),fun z=>kS (de ?_)⟩
 ·clear hQ
  kspl_open hQ
  have ow:∀ s∈w,Bn s:=fun s hs=>(hw s hs).1
  refine aV (O9 (p:=p) (w:=w) ⟨w0.v.1,w0.v.2⟩ (by omega) ow (by omega)) ?_
  rintro d t2 ⟨rfl,e2⟩
  rw [Lz]
  have wl:=w0.ld n0 (w:=w)
  refine aV (Fv (xs:=(af.eh p w).1) (ys:=(af.eh p w).2) (vC wl) n0 hn) ?_
  rintro d t3 ⟨rfl,e3⟩
  refine hQ _ _ (bR ?_)
  clear hQ
  kspl_open hQ
  have eG:bT (af.bI n ((af.eh p w).1,(af.eh p w).2)).1 (af.bI n ((af.eh p w).1,(af.eh p w).2)).2=bO (af.bI n (af.eh p w)):=rfl
  have hG:=F.word n0 w0 w
  generalize Xt:af.bI n (af.eh p w)=G at hG
  rw [Xt] at eG
  have pf:∀ q:af.a6,pU 2 (bO q):=fun q=>xi 0 _ _
  have inR:∀ d∈((List.range N).map fun k=>qZ (C.1.getD k ([],[])) (C.2.1.getD k []) (C.2.2.getD k (0,0))),∃ k,k < N/\d=qZ (C.1.getD k ([],[])) (C.2.1.getD k []) (C.2.2.getD k (0,0)):=fun d hd=>by
   obtain ⟨k,hk,rfl⟩:=Yt.mp hd
   exact ⟨k,List.mem_range.mp hk,rfl⟩
  refine UD ((List.range N).map fun k=>qZ (C.1.getD k ([],[])) (C.2.1.getD k []) (C.2.2.getD k (0,0))) (fun d=>@decide (tV d=bO G) (Classical.propDecidable _)) Ak ?_ (by rw [X9,List.length_range];omega) ?_ ?_ ?_
  ·kspl_open bM
   exact ⟨_,rfl,bM _ _ ⟨rQ _ _,Ex.refl⟩⟩
  ·intro d hd s5 k5
   obtain ⟨k,hk,rfl⟩:=inR d hd
   unfold qZ
   refine bS ?_
   intro fW bM
   set_option simprocs false in simp only [bF,Yu,YM,YK,YL]
   rw [show bO (C.1.getD k ([],[]))=bT (C.1.getD k ([],[])).1 (C.1.getD k ([],[])).2 from rfl,KN]
   refine ⟨_,rfl,bM _ _ ⟨?_,Ex.refl⟩⟩
   show decide _=_
   by_cases e:C.1.getD k ([],[])=G
   ·rw [decide_eq_true (by rw [e])]
    exact (@decide_eq_true _ (Classical.propDecidable _) (show tV _=bO G by rw [<- e];rfl)).symm
   ·rw [decide_eq_false (fun z=>e (by injection z with z1 z2;injection z2 with z2 _;exact Prod.ext z1 z2))]
    exact (@decide_eq_false _ (Classical.propDecidable _) (fun z=>e (LB z))).symm
  ·intro d hd hq s5 k5
   obtain ⟨k,hk,rfl⟩:=inR d hd
   unfold qZ
   refine bS ?_
   intro fW bM
   set_option simprocs false in simp only [bF,Yu,YM,YK,YL]
   exact bM _ _ ⟨rfl,Ex.refl⟩
  ·intro s5 k5
   obtain ⟨k,hk⟩:=List.getElem?_of_mem hG
   have hkN:k < N:=by rw [<- F.fl];exact (Ya.mp hk).1
   have Xu:C.1.getD k ([],[])=G:=by rw [Yn,hk];rfl
   have mem:qZ (C.1.getD k ([],[])) (C.2.1.getD k []) (C.2.2.getD k (0,0))∈((List.range N).map fun k=>qZ (C.1.getD k ([],[])) (C.2.1.getD k []) (C.2.2.getD k (0,0))).filter fun d=>@decide (tV d=bO G) (Classical.propDecidable _):=List.mem_filter.mpr ⟨Yt.mpr ⟨k,List.mem_range.mpr hkN,rfl⟩,@decide_eq_true _ (Classical.propDecidable _) (show bO _=bO G by rw [Xu])⟩
   obtain ⟨d0,rest,hd0⟩:∃ d0 rest,(((List.range N).map fun k=>qZ (C.1.getD k ([],[])) (C.2.1.getD k []) (C.2.2.getD k (0,0))).filter fun d=>@decide (tV d=bO G) (Classical.propDecidable _))=d0 :: rest:=by
    cases hE:(((List.range N).map fun k=>qZ (C.1.getD k ([],[])) (C.2.1.getD k []) (C.2.2.getD k (0,0))).filter fun d=>@decide (tV d=bO G) (Classical.propDecidable _)) with
    | nil=>rw [hE] at mem;cases mem
    | cons a l=>exact ⟨a,l,rfl⟩
   have hm0:d0∈((List.range N).map fun k=>qZ (C.1.getD k ([],[])) (C.2.1.getD k []) (C.2.2.getD k (0,0))):=(List.mem_filter.mp (by rw [hd0];exact Ye)).1
   obtain ⟨i,hi,rfl⟩:=inR d0 hm0
   rw [hd0,Yu]
   have hwl:=F.r.wl
   have hfl:=F.fl
   have ew:=lD (d:=([]:List cS)) (show i < C.2.1.length by omega)
   obtain ⟨pw,lw,nw,-⟩:=F.r.wd i _ ew
   rw [show Ak (qZ (C.1.getD i ([],[])) (C.2.1.getD i []) (C.2.2.getD i (0,0)))=wD (C.2.1.getD i []) from rfl]
   generalize C.2.1.getD i []=u at ew pw lw nw
   have ou:∀ s∈u,p3 900 s:=fun s hs=>by
    have pr:=af.Pl.pr pw s (YR.mpr hs)
    have:=nw s hs
    exact ⟨pr.1,by omega,pr.2⟩
   refine Oa.mpr ⟨_,wD u,rZ,Aj (fs:=wD u :: rest.map Ak) (g:=id) (k:=0) rfl |> fun h=>by simpa using h,?_⟩
   unfold wD
   refine aV (Xh (w:=u) (by omega)) ?_
   rintro d s6 ⟨rfl,k6⟩
   w_how
   rw [<- Ys]
   have bl:=W9 u
   refine ⟨jz (by rw [X9,X9];omega),hQ _ _ (de ?_)⟩
   clear hQ
   kspl_open hQ
   have Px:Ex [] t3 s6:=(k5.app _).trans k6
   exact hQ _ _ ⟨w ++ af.gf u,rfl,Xa hw (W8 (by decide) ou),by rw [Yc];omega,f1.keep ((e2.trans e3).trans Px),e1.trans ((e2.trans e3).trans Px).any⟩
 ·clear hQ
  kspl_open hQ
  exact hQ _ _ ⟨w,rfl,hw,by omega,f1,e1⟩
theorem xv {p q:af.a6}:[p.1,p.2]=[q.1,q.2]↔p=q:=⟨fun z=>by injection z with z1 z2;injection z2 with z2 _;exact Prod.ext z1 z2,fun z=>by rw [z]⟩
theorem Py {st:Store} {p:af.a6} {n:Nat} {w:List cS} (w0:af.Wh n p) (n0:0 < n) (hn:n<=20) (hw:∀ s∈w,af.cH s) (hl:(af.az w).le 1000000):Wp (xn [bO p,dS (af.az w)] st) fun d st'=>d=.bl (decide (af.bI n (af.eh p w)=af.bI n p))/\Ex [] st st':=by
 refine eo ?_
 show Ws (HL [some (bO p),some (dS (af.az w))] st) _ _ _ _
 unfold HL
 refine de ?_
 kspl_open hQ
 refine aV (Xf (xs:=p.1) (ys:=p.2) (w:=w) (vC w0) n0 hn (M:=1000000) (k:=20) (by decide) (by decide) hw hl) ?_
 rintro d t1 ⟨rfl,k1⟩
 refine aV (Pm (xs:=p.1) (ys:=p.2) (vC w0) n0 hn) ?_
 rintro d t2 ⟨rfl,k2⟩
 rw [KN]
 refine hQ _ _ ⟨?_,k1.trans k2⟩
 rw [if_neg (by decide)]
 rw [show (((p.1,p.2):af.a6))=p from rfl]
 rw [decide_eq_decide.mpr (xv (p:=af.bI n (af.eh p w)) (q:=af.bI n p))]
def Al (w:List cS):Prop:=(∀ s∈w,p3 900 s)/\w.length<=200
theorem Al.pr {w:List cS} (h:Al w):∀ s∈w,af.cH s:=fun s hs=>Ah (h.1 s hs)
theorem Al.law {w:List cS} (h:Al w):∀ s∈w,af.cH s/\s.2.natAbs<=1000000:=fun s hs=>⟨h.pr s hs,by have:=(h.1 s hs).2.1;omega⟩
def p4 (k:Int):Int:=if k < 0 then -k else k
theorem Xv {st:Store} {w:List cS} (hw:∀ s∈w,af.cH s):Wp (Bl [dS (af.az w)] st) fun d st'=>d=dS (af.az (af.gf w))/\Ex [] st st':=by
 refine eo ?_
 show Ws (HR [some (dS (af.az w))] st) _ _ _ _
 unfold HR
 refine de ?_
 refine bS ?_
 intro df hQ
 set_option simprocs false in simp only [bF,Ik,Il,Lw,Ph]
 refine ⟨rfl,hQ _ _ ⟨?_,Ex.refl⟩⟩
 rw [af.wC hw]
 unfold dS af.T4.qM
 simp only [Int.zero_sub]
theorem Xw {s:Store} {n:Nat} {p:af.a6} {w:List cS} {v0 v1 v2 v3 v4 v5 v6 v7 v8 q5 rf rg:Option D} {N B C:aq->Store->Prop} {R:D->Store->Prop} (w0:af.Wh n p) (n0:0 < n) (hn:n<=20) (hw:Al w) (hl:(af.az w).le 1000000)
  (hN:∀ (a b c:Option D) (s':Store),Ex [] s s'->N [v0,v1,v2,v3,v4,v5,v6,v7,v8,some (wD w),some (dS (af.az w)),some (bO p),a,b,c] s') :
  Ws ((aE (aH (av (kJ false) (aP pN (ae (aP vA (ae (ag 11) (ae (ag 9) ah))) ah)) (aP pN (ae (ag 11) ah))) (hName 12))
 (cM (cN (bq (ae (ag 10) (ae (aP Bl (ae (ag 10) ah)) ah)))) (hName 13) (aE (aH (aP xn (ae (ag 11) (ae (ag 13) ah))) (hName 14))
 (h8 (C4 (rK (aN (aP qu (ae (ag 14) (ae (fC (.ty "bool")) ah))))) (aN (av (jx true) (ag 14) (ag 12)))) (aW (fC (.bl false))) bx)))) [v0,v1,v2,v3,v4,v5,v6,v7,v8,some (wD w),some (dS (af.az w)),some (bO p),q5,rf,rg] s) N B C R:=by
 have pw:=hw.pr
 have pb:=af.yu pw
 have lb:(af.az (af.gf w)).le 1000000:=by
  rw [af.wC pw]
  obtain ⟨h1,h2,h3,h4⟩:=hl
  exact ⟨h4,by show (-(af.az w).b).natAbs<=_;rw [Int.natAbs_neg];exact h2,by show (-(af.az w).c).natAbs<=_;rw [Int.natAbs_neg];exact h3,h1⟩
 refine a5 (bR ?_)
 kspl_open hQ
 unfold wD
 have Pp:=hw.2
 refine aV (O9 (p:=p) (w:=w) ⟨w0.v.1,w0.v.2⟩ (by omega) (Pn pw) (by omega)) ?_
 rintro d t1 ⟨rfl,k1⟩
 rw [Lz]
 refine aV (Fv (xs:=(af.eh p w).1) (ys:=(af.eh p w).2) (vC (w0.ld n0 (w:=w))) n0 hn) ?_
 rintro d t2 ⟨rfl,k2⟩
 refine aV (Fv (xs:=p.1) (ys:=p.2) (vC w0) n0 hn) ?_
 rintro d t3 ⟨rfl,k3⟩
 rw [KN,if_neg (by decide)]
 rw [show (((p.1,p.2):af.a6))=p from rfl,show ((((af.eh p w).1,(af.eh p w).2):af.a6))=af.eh p w from rfl]
 rw [decide_eq_decide.mpr (xv (p:=af.bI n (af.eh p w)) (q:=af.bI n p))]
 refine hQ _ _ ?_
 generalize hb:decide (af.bI n (af.eh p w)=af.bI n p)=due
 have Xx:Ex [] s t3:=(k1.trans k2).trans k3
 refine mz [dS (af.az w),dS (af.az (af.gf w))] (fun i δ s'=>∃ (a b:Option D),δ=[v0,v1,v2,v3,v4,v5,v6,v7,v8,some (wD w),some (dS (af.az w)),some (bO p),some (.bl due),a,b]/\Ex [] s s') ?_ (show 2 < 100000 by decide) ?_ ?_
 ·kspl_open hQ
  refine aV (Xv (w:=w) pw) ?_
  rintro d t4 ⟨rfl,k4⟩
  exact ⟨rfl,hQ _ _ ⟨rfl,_,_,rfl,Xx.trans k4⟩⟩
 ·rintro i d δ s4 hd ⟨a,b,rfl,k4⟩
  obtain ⟨u,pu,lu,du,eu⟩:∃ u:List cS,(∀ s∈u,af.cH s)/\(af.az u).le 1000000/\d=dS (af.az u)/\decide (af.bI n (af.eh p u)=af.bI n p)=due:=by
   match i,hd with
   | 0,hd=>cases (show some _=some d from hd);exact ⟨w,pw,hl,rfl,hb⟩
   | 1,hd=>cases (show some _=some d from hd);exact ⟨af.gf w,pb,lb,rfl,by rw [<- hb];exact decide_eq_decide.mpr (af.UW n0 w0 pw)⟩
   | i + 2,hd=>cases (show none=some d from hd)
  subst du
  kspl_open hQ
  refine hQ _ _ (a5 (bR ?_))
  clear hQ
  kspl_open hQ
  refine aV (Py (w:=u) w0 n0 hn pu lu) ?_
  rintro d t5 ⟨rfl,k5⟩
  rw [eu]
  refine hQ _ _ (jD ?_)
  clear hQ
  kspl_open hQ
  rw [zH (T:="bool") (cs:=["bool"]) (b:=true) rfl rfl (by decide)]
  refine ⟨true,rfl,?_⟩
  rw [if_neg (by decide),zF,if_pos rfl,decide_eq_true rfl]
  exact ⟨_,rfl,hQ _ _ ⟨fun z=>absurd z (by decide),fun _=>kS ⟨_,_,rfl,k4.trans k5⟩⟩⟩
 ·rintro δ s' ⟨a,b,rfl,k⟩
  exact hN _ _ _ _ k
theorem tW (ns:List Int) (hns:ns.length<=63):Wp (Lb [.ref 0] [.qj (ns.map D.int)]) fun d _=>d=.bl true:=by
 refine eo ?_
 show Ws (HS [some (.ref 0),none,none,none,none,none,none,none,none,none,none,none,none,none,none] [.qj (ns.map D.int)]) _ _ _ _
 unfold HS
 have Io:([O.qj (ns.map D.int)]:Store)[0]?=some (.qj (ns.map D.int)):=rfl
 generalize ([O.qj (ns.map D.int)]:Store)=l9 at Io
 refine a5 (bR ?_)
 kspl_open hQ
 rw [show (D.int 1)=.int ((1:Nat):Int) from rfl]
 refine aV (OW (a:=0) (ns:=ns) (k:=1) (Kw Io) (by decide)) ?_
 rintro d t1 ⟨rfl,f1,k1⟩
 have Xy:0 < l9.length:=eV Io
 have h01:=k1.keep _ _ Io (by simp)
 generalize l9.length=f at f1 Xy
 refine hQ _ _ (a5 (rY ?_))
 clear hQ
 kspl_open hQ
 refine aV (Xp f1) ?_
 rintro d t2 ⟨n,p,M,rfl,wp,n0,n6,F,X7,f2,k2⟩
 have h02:=k2.keep _ _ h01 (by simp;omega)
 generalize af.ch n p M=C at F
 have lp:=wp.v.1.length
 have Pz:∀ {Q:D->Store->Prop} {s:Store},Wp (aM (bO p) (.int 0) s) Q↔Q (.tup (p.1.map D.int)) s:=bu
 refine hQ _ _ ?_
 clear hQ
 kspl_open hQ
 refine ⟨rfl,hQ _ _ (a5 (bR ?_))⟩
 clear hQ
 refine bS ?_
 intro df hQ
 set_option simprocs false in simp only [bF,Pz]
 rw [X9,lp]
 refine aV (Lc f2 (show n<=100 by omega)) ?_
 rintro d t3 ⟨q,rfl,tq,f3,k3⟩
 refine aV (Wx (xs:=p.1) (ys:=p.2) wp.v.1 wp.v.2 tq (by omega)) ?_
 rintro d t4 ⟨rfl,k4⟩
 have wN:af.Wh n (af.anew p.1 q,af.anew p.2 q):=Fu (af.qV (vC wp) tq n0)
 have eN:bT (af.anew p.1 q) (af.anew p.2 q)=bO (af.anew p.1 q,af.anew p.2 q):=rfl
 rw [eN]
 generalize ((af.anew p.1 q,af.anew p.2 q):af.a6)=pn at wN
 have f4:=f3.keep k4
 have LH:=(k3.trans k4.any).keep _ _ h02 (by simp;omega)
 refine hQ _ _ (a5 (bR ?_))
 clear hQ
 refine bS ?_
 intro df hQ
 set_option simprocs false in simp only [bF,Pz]
 rw [X9,lp]
 refine aV (Le (n:=n) f4 (by omega) (by omega)) ?_
 rintro d t5 ⟨xs,ys,rfl,fl,f5,k5⟩
 have Ip:=k5.keep _ _ LH (by simp;omega)
 have wO:=Fu fl
 have eO:bT xs ys=bO (xs,ys):=rfl
 rw [eO]
 generalize ((xs,ys):af.a6)=po at wO
 refine hQ _ _ (a5 (bR ?_))
 clear hQ
 kspl_open hQ
 refine ⟨rfl,rfl,rfl,hQ _ _ ?_⟩
 clear hQ
 have LI:=jP (m:=[O.lst [D.tup [D.tup [D.str "t",D.int 2]]]]) Ip
 have LJ:(t5 ++ [O.lst [D.tup [D.tup [D.str "t",D.int 2]]]])[t5.length]?=some (.lst ([[(false,2)]].map wD)):=jE
 have Xz:0 < t5.length:=eV Ip
 have e6:t5 ++ [O.lst [D.tup [D.tup [D.str (Str.ofString "t"),D.int 2]]]]=t5 ++ [O.lst [D.tup [D.tup [D.str "t",D.int 2]]]]:=rfl
 rw [e6]
 generalize t5 ++ [O.lst [D.tup [D.tup [D.str "t",D.int 2]]]]=t6 at LI LJ ⊢
 generalize t5.length=g at LJ Xz ⊢
 obtain ⟨m,hm,XA⟩:∃ m:Nat,(if (if (ns.length:Int) < 10 then (ns.length:Int) else 10) > 6 then (if (ns.length:Int) < 10 then (ns.length:Int) else 10) else 6)=(m:Int) + 2/\m<=8:=by
  have hy:(if (ns.length:Int) < 10 then (ns.length:Int) else 10)<=10:=by split <;> omega
  generalize (if (ns.length:Int) < 10 then (ns.length:Int) else 10)=y at hy ⊢
  by_cases h:y > 6
  ·exact ⟨(y - 2).toNat,by rw [if_pos h];omega,by omega⟩
  ·exact ⟨4,by rw [if_neg h];rfl,by decide⟩
 refine a5 (mz (aG 2 m) (fun i δ s=>∃ (v1 v7 v8 v9 v10 v11 q5 rf rg:Option D) (ws:List (List cS)),δ=[some (.ref 0),v1,some (bO p),some (qr C M),some (bO pn),some (bO po),some (.ref g),v7,v8,v9,v10,v11,q5,rf,rg]/\s[0]?=some (.qj (ns.map D.int))/\s[g]?=some (.lst (ws.map wD))/\(∀ w∈ws,Al w)/\ws.length=i + 1) ?_ (by rw [gh];omega) ?_ ?_)
 ·refine bS ?_
  intro df hQ
  set_option simprocs false in simp only [bF,Kw LI]
  rw [X9,hm]
  refine ⟨2,(m:Int) + 2,⟨rfl,rfl⟩,⟨⟨by decide,by decide⟩,by omega,by omega⟩,hQ _ _ ⟨by rw [show ((m:Int) + 2 - 2).toNat=m by omega],_,_,_,_,_,_,_,_,_,[[(false,2)]],rfl,LI,LJ,fun w hw=>?_,rfl⟩⟩
  rw [Yr.mp hw]
  exact ⟨fun s hs=>by rw [Yr.mp hs];exact ⟨fun _=>⟨by decide,by decide⟩,by decide,by decide⟩,by decide⟩
 ·rintro i d δ s hd ⟨v1,v7,v8,v9,v10,v11,q5,rf,rg,ws,rfl,h0,hg,hok,hwl⟩
  have hil:=eV hd
  rw [gh] at hil
  rw [A0 hil] at hd
  cases hd
  kspl_open hQ
  refine hQ _ _ (a5 (bR ?_))
  clear hQ
  kspl_open hQ
  rw [show (2:Int) + (i:Int)=((2 + i:Nat):Int) by omega]
  refine aV (OW (a:=0) (ns:=ns) (k:=2 + i) (Kw h0) (by omega)) ?_
  rintro d s1 ⟨rfl,f1,k1⟩
  have h01:=k1.keep _ _ h0 (by simp)
  have XB:=k1.keep _ _ hg (by simp)
  have JE:s.length≠0:=by have:=eV h0;omega
  have hfg:s.length≠g:=by have:=eV hg;omega
  generalize s.length=f at f1 JE hfg
  refine hQ _ _ (a5 (bR ?_))
  clear hQ
  kspl_open hQ
  refine aV (rR (n:=8) f1 (by decide) (by decide)) ?_
  rintro d s2 ⟨k,rfl,k0,k8,f2,e2⟩
  have h02:=e2.keep _ _ h01 (by simp;omega)
  have Fg:=e2.keep _ _ XB (by simp;omega)
  w_how
  refine ⟨by decide,hQ _ _ (a5 (bR ?_))⟩
  clear hQ
  obtain ⟨gt,a,b,hgt,ha,hb,a0,LK,b3,PB⟩:∃ gt a b:Int,k / 7=gt/\eK [D.int 6,D.int 2] gt=some (.int a)/\eK [D.int 5,D.int 900] gt=some (.int b)/\0<=a/\a<=100/\3<=b/\b<=900:=by
   rcases (show k / 7=0\/k / 7=1 by omega) with h | h
   ·exact ⟨0,6,5,h,rfl,rfl,by decide,by decide,by decide,by decide⟩
   ·exact ⟨1,2,900,h,rfl,rfl,by decide,by decide,by decide,by decide⟩
  rw [hgt]
  refine bS ?_
  intro df hQ
  set_option simprocs false in simp only [bF,rZ,ha,hb]
  refine ⟨rfl,rfl,?_⟩
  have PD:=jP (m:=[O.lst [D.int 5,D.int 900]]) (jP (m:=[O.lst [D.int 6,D.int 2]]) h02)
  have xq:=jP (m:=[O.lst [D.int 5,D.int 900]]) (jP (m:=[O.lst [D.int 6,D.int 2]]) Fg)
  have f3:=(f2.keep (Ex.cn [O.lst [D.int 6,D.int 2]])).keep (Ex.cn [O.lst [D.int 5,D.int 900]])
  generalize s2 ++ [O.lst [D.int 6,D.int 2]] ++ [O.lst [D.int 5,D.int 900]]=s3 at PD xq f3 ⊢
  refine aV (WG (most:=a) (great:=b) f3 a0 LK b3 (by omega)) ?_
  rintro d s4 ⟨w,rfl,hw,wl,f4,k4⟩
  have LH:=k4.keep _ _ PD (by simp;omega)
  have uA:=k4.keep _ _ xq (by simp;omega)
  refine hQ _ _ (qm ?_)
  clear hQ
  kspl_open hQ
  refine ⟨oP (by rw [cv uA];rfl),?_⟩
  have XC:∀ s∈w,p3 900 s:=fun s hs=>⟨(hw s hs).1,by have:=(hw s hs).2.1;omega,(hw s hs).2.2⟩
  refine aV (Xs (C:=C) (N:=M) (w:=w) f4 wp n0 (by omega) F (by omega) XC (by omega)) ?_
  rintro d s5 ⟨w',rfl,XD,XE,f5,k5⟩
  have Ip:=k5.keep _ _ LH (by simp;omega)
  have PH:=k5.keep _ _ uA (by simp;omega)
  set_option simprocs false in simp only [bF,kZ PH]
  refine ⟨jz (by rw [X9];omega),hQ _ _ ⟨_,_,_,_,_,_,_,_,_,ws ++ [w'],rfl,?_,?_,fun u hu=>?_,by rw [Yc,hwl];rfl⟩⟩
  ·rw [Yp (by omega)];exact Ip
  ·rw [Yj (eV PH),Ys];rfl
  ·rcases Yz.mp hu with h | h
   ·exact hok u h
   ·rw [Yr.mp h];exact ⟨XD,XE⟩
 ·rintro δ s ⟨v1,v7,v8,v9,v10,v11,q5,rf,rg,ws,rfl,h0,hg,hok,hwl⟩
  rw [gh] at hwl
  have hcl:(ws.map wD ++ cutD (ws.map wD) none (some 2)).length<=100:=by
   rw [Yc]
   have:=Uh (ws.map wD) none (some 2)
   rw [X9] at this ⊢
   omega
  have hin:∀ d∈ws.map wD ++ cutD (ws.map wD) none (some 2),∃ w,Al w/\d=wD w:=fun d hd=>by
   have:d∈ws.map wD:=by
    rcases Yz.mp hd with h | h
    ·exact h
    ·exact Ug h
   obtain ⟨w,hw,rfl⟩:=Yt.mp this
   exact ⟨w,hok w hw,rfl⟩
  refine a5 (Kv (ws.map wD ++ cutD (ws.map wD) none (some 2)) (s.length + 1) (fun i δ s'=>∃ (v1 v7 v8 v9 v10 v11 q5 rf rg:Option D),δ=[some (.ref 0),v1,some (bO p),some (qr C M),some (bO pn),some (bO po),some (.ref g),v7,v8,v9,v10,v11,q5,rf,rg]/\s'[s.length + 1]?=some (.lst (ws.map wD ++ cutD (ws.map wD) none (some 2)))) ?_ (by omega) ?_ ?_ ?_)
  ·refine bS ?_
   intro df hQ
   set_option simprocs false in simp only [bF,cv hg]
   rw [Yc] at hcl
   refine ⟨_,kZ (jP hg),jz (by omega),?_⟩
   rw [show (s ++ [O.lst (cutD (ws.map wD) none (some 2))]).length=s.length + 1 from Yc]
   refine hQ _ _ ⟨rfl,_,_,_,_,_,_,_,_,_,rfl,?_⟩
   have:=jE (l:=s ++ [O.lst (cutD (ws.map wD) none (some 2))]) (o:=O.lst (ws.map wD ++ cutD (ws.map wD) none (some 2)))
   rwa [show (s ++ [O.lst (cutD (ws.map wD) none (some 2))]).length=s.length + 1 from Yc] at this
  ·rintro i δ s' ⟨v1,v7,v8,v9,v10,v11,q5,rf,rg,rfl,h⟩
   exact cv h
  ·rintro i d δ s1 hd ⟨v1,v7,v8,v9,v10,v11,q5,rf,rg,rfl,hL⟩
   obtain ⟨w,hw,rfl⟩:=hin d (Yf hd)
   kspl_open hQ
   refine hQ _ _ (a5 (bR ?_))
   clear hQ
   kspl_open hQ
   unfold wD
   refine aV (WS (w:=w) hw.law (by have:=hw.2;omega)) ?_
   rintro d s2 ⟨rfl,k2⟩
   have XF:=k2.keep _ _ hL (by simp)
   refine hQ _ _ (jD ?_)
   clear hQ
   kspl_open hQ
   have eT:dS (af.az w)=.tup ([(af.az w).a,(af.az w).b,(af.az w).c,(af.az w).d].map D.int):=rfl
   refine r6 ([(af.az w).a,(af.az w).b,(af.az w).c,(af.az w).d].map D.int) (fun d=>.int (p4 (inD d))) ?_ (show 4 < 100000 by decide) ?_ ?_
   ·kspl_open bM
    exact ⟨_,rfl,bM _ _ ⟨rQ _ _,Ex.refl⟩⟩
   ·intro d hd s3 k3
    obtain ⟨x,hx,rfl⟩:=vf hd
    refine bS ?_
    intro fW bM
    set_option simprocs false in simp only [bF,zE]
    exact bM _ _ ⟨rfl,Ex.refl⟩
   ·intro s3 k3
    rw [zx (f:=p4) fun x hx=>rfl]
    obtain ⟨mx,X8,vE,hW⟩:=UH (st:=s3 ++ [O.lst (([(af.az w).a,(af.az w).b,(af.az w).c,(af.az w).d].map p4).map D.int)]) (r:=s3.length) (ns:=[(af.az w).a,(af.az w).b,(af.az w).c,(af.az w).d].map p4) rZ (by simp)
    rw [hW]
    w_how
    have xo:=jP (m:=[O.lst (([(af.az w).a,(af.az w).b,(af.az w).c,(af.az w).d].map p4).map D.int)]) (k3.keep _ _ XF (by simp))
    generalize s3 ++ [O.lst (([(af.az w).a,(af.az w).b,(af.az w).c,(af.az w).d].map p4).map D.int)]=s4 at xo ⊢
    refine hQ _ _ ⟨fun hc=>?_,fun hc=>kS ⟨_,_,_,_,_,_,_,_,_,rfl,xo⟩⟩
    have hc:mx<=1000000:=of_decide_eq_true hc
    have ab:∀ x:Int,p4 x<=mx->x.natAbs<=1000000:=fun x h=>by
     unfold p4 at h
     split at h <;> omega
    have hle:(af.az w).le 1000000:=⟨ab _ (vE _ (by simp)),ab _ (vE _ (by simp)),ab _ (vE _ (by simp)),ab _ (vE _ (by simp))⟩
    refine mz [bO p,bO po,bO pn,bO p] (fun i δ s'=>∃ (v11 q5 rf rg:Option D),δ=[some (.ref 0),v1,some (bO p),some (qr C M),some (bO pn),some (bO po),some (.ref g),v7,v8,some (wD w),some (dS (af.az w)),v11,q5,rf,rg]/\s'[s.length + 1]?=some (.lst (ws.map wD ++ cutD (ws.map wD) none (some 2)))) ?_ (show 4 < 100000 by decide) ?_ ?_
    ·kspl_open bM
     exact ⟨rfl,bM _ _ ⟨rfl,_,_,_,_,rfl,xo⟩⟩
    ·rintro i d δ s5 hd ⟨v11,q5,rf,rg,rfl,LL⟩
     obtain ⟨q,XG,rfl⟩:∃ q,af.Wh n q/\d=bO q:=by
      have:=Yf hd
      simp only [YC,List.not_mem_nil,or_false] at this
      rcases this with rfl | rfl | rfl | rfl
      ·exact ⟨p,wp,rfl⟩
      ·exact ⟨po,wO,rfl⟩
      ·exact ⟨pn,wN,rfl⟩
      ·exact ⟨p,wp,rfl⟩
     kspl_open bM
     exact bM _ _ (Xw XG n0 (by omega) hw hle fun a b c s' k=>⟨_,_,_,_,rfl,k.keep _ _ LL (by simp)⟩)
    ·rintro δ s5 ⟨v11,q5,rf,rg,rfl,LL⟩
     exact ⟨_,_,_,_,_,_,_,_,_,rfl,LL⟩
  ·rintro δ s1 ⟨v1,v7,v8,v9,v10,v11,q5,rf,rg,rfl,hL⟩
   refine de ?_
   kspl_open hQ
   have eI:D.tup [D.int 1,D.int 0,D.int 0,D.int 1]=dS (af.az []):=rfl
   rw [eI]
   refine ⟨rfl,?_⟩
   refine aV (Py (w:=[]) wp n0 (by omega) (fun s hs=>nomatch hs) ⟨by decide,by decide,by decide,by decide⟩) ?_
   rintro d s2 ⟨rfl,k2⟩
   rw [decide_eq_true (show af.bI n (af.eh p [])=af.bI n p from rfl),zD]
   exact hQ _ _ rfl
theorem Am {P:Program} {w:World} {K:Zfr} {mg:Str->Option Value} {base:Heap} (T:Txt mg) {n5:V} (mh:sC K mg "QUARTER" n5 (.tup [(.int 0),(.int (-1)),(.int 1),(.int 0)])) {jS:V} (eB:sC K mg "UNMOVED" jS (.tup [(.int 1),(.int 0),(.int 0),(.int 1)])) {i7:Addr} {i9:FuncData} (fV:Def K mg "_law_feed" DT ["_law_script","_law_k"] i7 i9) {aQ:Addr} {aR:FuncData} (aI:Def K mg "_law_take" uw ["_law_feed_here","_law_many"] aQ aR) {bZ:Addr} {b5:FuncData} (bL:Def K mg "_law_turning" A5 ["_law_feed_here","_law_n"] bZ b5) {kj:Addr} {kl:FuncData} (iq:Def K mg "_law_met" DV ["_law_floor_here"] kj kl) {cP:Addr} {cQ:FuncData} (cw:Def K mg "_law_floor" A6 ["_law_feed_here","_law_n"] cP cQ) {dj:Addr} {dk:FuncData} (dr:Def K mg "_law_numbered" DY ["_law_floor_here","_law_s"] dj dk) {b7:Addr} {b8:FuncData} (bH:Def K mg "_law_form" zV ["_law_floor_here"] b7 b8) {eX:Addr} {eY:FuncData} (eZ:Def K mg "_law_behind" D0 ["_law_turning_here","_law_s","_law_k"] eX eY) {b9:Addr} {cb:FuncData} (cc:Def K mg "_law_stepped" A8 ["_law_floor_here","_law_step"] b9 cb) {gp:Addr} {gq:FuncData} (gs:Def K mg "_law_plain" D1 ["_law_word_here"] gp gq) {gu:Addr} {gw:FuncData} (eA:Def K mg "_law_chart" D2 ["_law_floor_here","_law_most"] gu gw) {kD:Addr} {kE:FuncData} (kF:Def K mg "_law_own" D4 ["_law_feed_here","_law_most"] kD kE) {jb:Addr} {jc:FuncData} (jd:Def K mg "_law_anew" D7 ["_law_floor_here","_law_p"] jb jc) {je:Addr} {jf:FuncData} (jg:Def K mg "_law_word" D9 ["_law_feed_here","_law_most","_law_great"] je jf) {gy:Addr} {gA:FuncData} (gB:Def K mg "_law_times" Eb ["_law_one","_law_other"] gy gA) {gO:Addr} {gP:FuncData} (gQ:Def K mg "_law_table" Ed ["_law_word_here"] gO gP) {bB:Addr} {bC:FuncData} (bD:Def K mg "turned_back" zY ["turning"] bB bC) {dI:Addr} {dJ:FuncData} (cD:Def K mg "followed" Bd ["one","other"] dI dJ) {fe:Addr} {ff:FuncData} (fg:Def K mg "called_anew" Ef ["floor","p"] fe ff) {dW:Addr} {dX:FuncData} (dY:Def K mg "squares_from" Eh ["floor","s"] dW dX) {c5:Addr} {c6:FuncData} (c7:Def K mg "numbering_from" Ej ["floor","s"] c5 c6) {dw:Addr} {dz:FuncData} (dA:Def K mg "numbered_from" El ["floor","s"] dw dz) {fS:Addr} {fT:FuncData} (fU:Def K mg "form_of" Bf ["floor"] fS fT) {iG:Addr} {iH:FuncData} (iI:Def K mg "ring_from" En ["turning","first"] iG iH) {kn:Addr} {ko:FuncData} (kq:Def K mg "rings_of" Ep ["turning"] kn ko) {pA:Addr} {pB:FuncData} (pC:Def K mg "often" Es ["turning","k"] pA pB) {ma:Addr} {md:FuncData} (mf:Def K mg "sheared" Ew ["floor","k"] ma md) {iJ:Addr} {iK:FuncData} (iL:Def K mg "quartered" Ez ["floor"] iJ iK) {fj:Addr} {fm:FuncData} (fq:Def K mg "led_by_step" EB ["floor","step"] fj fm) {nI:Addr} {nJ:FuncData} (nK:Def K mg "led_by" ED ["floor","word"] nI nJ) {kr:Addr} {ku:FuncData} (ky:Def K mg "led_pair" EF ["table","pair"] kr ku) {iO:Addr} {iP:FuncData} (gG:Def K mg "shears" Bh ["k"] iO iP) {gU:Addr} {gW:FuncData} (gX:Def K mg "times" zZ ["one","other"] gU gW) {gC:Addr} {gD:FuncData} (gE:Def K mg "step_table" EH ["step"] gC gD) {dM:Addr} {dN:FuncData} (dO:Def K mg "table_of" Bi ["word"] dM dN) {mj:Addr} {ml:FuncData} (mq:Def K mg "nearest" EJ ["number","divisor"] mj ml) {ft:Addr} {fu:FuncData} (fw:Def K mg "level_steps" EL ["pair"] ft fu) {nF:Addr} {nG:FuncData} (nH:Def K mg "joined" EN ["one","other"] nF nG) {gH:Addr} {gI:FuncData} (gJ:Def K mg "made_plain" ER ["word"] gH gI) {dZ:Addr} {d3:FuncData} (d4:Def K mg "put_together" EU ["one","other"] dZ d3) {kz:Addr} {kA:FuncData} (kC:Def K mg "is_table" EW ["thing"] kz kA) {gK:Addr} {gL:FuncData} (gM:Def K mg "level_word" EY ["table"] gK gL) {iR:Addr} {iS:FuncData} (iT:Def K mg "back_step" E1 ["step"] iR iS) {iW:Addr} {iX:FuncData} (iY:Def K mg "back_word" E3 ["word"] iW iX) {mr:Addr} {mv:FuncData} (mw:Def K mg "word_of" E5 ["table"] mr mv) {d5:Addr} {d6:FuncData} (d7:Def K mg "led_by_table" E7 ["floor","table"] d5 d6) {fz:Addr} {fA:FuncData} (dB:Def K mg "is_of_group" E8 ["floor","table"] fz fA) {dP:Addr} {dQ:FuncData} (dR:Def K mg "_law_led" Bk ["_law_floor_here","_law_word_here"] dP dQ) {iZ:Addr} {i5:FuncData} (i6:Def K mg "_law_back" Fb ["_law_word_here"] iZ i5) {jh:Addr} {ji:FuncData} (jk:Def K mg "_law_home" Fe ["_law_feed_here","_law_floor_here","_law_chart_here","_law_word_here"] jh ji) {fD:Addr} {fE:FuncData} (fF:Def K mg "_law_undone" Ff ["_law_table_here"] fD fE) {Fz:Addr} {FA:FuncData} (LM:Def K mg "law" HU ["_law_script"] Fz FA):aC P w K mg base aX 9 Fz FA ["_law_script"] (a8 K 1 Lb):=by
 have ja:=UZ (P:=P) (w:=w) (base:=base) fV T
 have aL:=U0 (P:=P) (w:=w) (base:=base) aI T
 have b6:=U1 (P:=P) (w:=w) (base:=base) bL T  aI aL
 have km:=U2 (P:=P) (w:=w) (base:=base) iq T
 have cR:=U3 (P:=P) (w:=w) (base:=base) cw T  aI aL bL b6 iq km
 have fQ:=U4 (P:=P) (w:=w) (base:=base) dr T
 have bN:=U6 (P:=P) (w:=w) (base:=base) bH T  dr fQ
 have iE:=U7 (P:=P) (w:=w) (base:=base) eZ T
 have cC:=U8 (P:=P) (w:=w) (base:=base) cc T  eZ iE
 have jQ:=U9 (P:=P) (w:=w) (base:=base) gs T
 have gx:=Va (P:=P) (w:=w) (base:=base) eA T  bH bN cc cC gs jQ
 have mS:=Vb (P:=P) (w:=w) (base:=base) kF T  cw cR eA gx aI aL
 have lA:=Vd (P:=P) (w:=w) (base:=base) jd T
 have lB:=Ve (P:=P) (w:=w) (base:=base) jg T  aI aL
 have jR:=Vg (P:=P) (w:=w) (base:=base) gB T
 have jW:=Vh (P:=P) (w:=w) (base:=base) gQ T  gB jR
 have bK:=Vi (P:=P) (w:=w) (base:=base) bD T
 have cV:=Vk (P:=P) (w:=w) (base:=base) cD T
 have iF:=Vl (P:=P) (w:=w) (base:=base) fg T  bD bK cD cV
 have gT:=Vm (P:=P) (w:=w) (base:=base) dY T
 have eP:=Vo (P:=P) (w:=w) (base:=base) c7 T  bD bK dY gT
 have fR:=Vq (P:=P) (w:=w) (base:=base) dA T  fg iF c7 eP
 have iu:=Vs (P:=P) (w:=w) (base:=base) fU T  dA fR
 have lj:=Vt (P:=P) (w:=w) (base:=base) iI T
 have mO:=Vu (P:=P) (w:=w) (base:=base) kq T  iI lj
 have qw:=Vv (P:=P) (w:=w) (base:=base) pC T  kq mO
 have n4:=Vx (P:=P) (w:=w) (base:=base) mf T  cD cV pC qw
 have lq:=Vz (P:=P) (w:=w) (base:=base) iL T  bD bK
 have iM:=VA (P:=P) (w:=w) (base:=base) fq T  mf n4 iL lq
 have pE:=VB (P:=P) (w:=w) (base:=base) nK T  fq iM
 have mP:=VD (P:=P) (w:=w) (base:=base) ky T
 have iQ:=VF (P:=P) (w:=w) (base:=base) gG T
 have iN:=VH (P:=P) (w:=w) (base:=base) gX T
 have jT:=VI (P:=P) (w:=w) (base:=base) gE T mh eB gX iN
 have fI:=VJ (P:=P) (w:=w) (base:=base) dO T eB gX iN gE jT
 have n8:=VM (P:=P) (w:=w) (base:=base) mq T
 have iU:=VN (P:=P) (w:=w) (base:=base) fw T  ky mP gG iQ dO fI mq n8
 have pD:=VO (P:=P) (w:=w) (base:=base) nH T
 have jU:=VP (P:=P) (w:=w) (base:=base) gJ T  nH pD
 have gY:=VR (P:=P) (w:=w) (base:=base) d4 T  gJ jU
 have mQ:=VT (P:=P) (w:=w) (base:=base) kC T
 have jV:=VW (P:=P) (w:=w) (base:=base) gM T  gG iQ
 have lr:=VY (P:=P) (w:=w) (base:=base) iT T
 have lx:=V0 (P:=P) (w:=w) (base:=base) iY T  iT lr
 have n9:=V1 (P:=P) (w:=w) (base:=base) mw T  fw iU d4 gY kC mQ gM jV iY lx gX iN dO fI
 have gZ:=V3 (P:=P) (w:=w) (base:=base) d7 T  fU iu nK pE mw n9
 have fB:=V5 (P:=P) (w:=w) (base:=base) dB T  d7 gZ fU iu
 have fJ:=V6 (P:=P) (w:=w) (base:=base) dR T  cc cC
 have lz:=V7 (P:=P) (w:=w) (base:=base) i6 T
 have lC:=V8 (P:=P) (w:=w) (base:=base) jk T  aI aL bH bN dR fJ i6 lz
 have jl:=Wa (P:=P) (w:=w) (base:=base) fF T
 have LN:=Aa (P:=P) (w:=w) (base:=base) LM T  fV ja kF mS jd lA cw cR bL b6 jg lB gQ jW dB fB aI aL jk lC bH bN fF jl dR fJ
 exact LN
end My
open PySem PySem.W PyProof.Rows L2
namespace PySem.W.Fast
theorem tw6788524287440209621:True:=⟨⟩
theorem tw16934938934210238491:True:=⟨⟩
theorem tw335676389036206153:True:=⟨⟩
theorem tw835480872656546698:True:=⟨⟩
theorem tw10348909642818563539:True:=⟨⟩
theorem tw13658507289990758763:True:=⟨⟩
theorem tw1339144922147317591:True:=⟨⟩
theorem tw5621961572696445745:True:=⟨⟩
theorem tw1264597571350590075:True:=⟨⟩
theorem tw17996932372924722902:True:=⟨⟩
theorem tw946515084225701816:True:=⟨⟩
theorem tw9166447563223774335:True:=⟨⟩
theorem tw7162431261926425531:True:=⟨⟩
theorem tw17989815324662680204:True:=⟨⟩
theorem tw17197875014452456093:True:=⟨⟩
theorem tw9296722333928894341:True:=⟨⟩
theorem tw1822119128025018144:True:=⟨⟩
theorem tw8602081316369336279:True:=⟨⟩
theorem tw1635401137703714475:True:=⟨⟩
theorem tw16302853110465207029:True:=⟨⟩
theorem tw9234866646176303672:True:=⟨⟩
theorem tw9160765947888900854:True:=⟨⟩
theorem tw15244804163830246259:True:=⟨⟩
theorem tw4644035979608454846:True:=⟨⟩
theorem tw11152047621554162247:True:=⟨⟩
theorem tw758178392546991546:True:=⟨⟩
theorem tw17502851106562007789:True:=⟨⟩
theorem tw11607509868273745468:True:=⟨⟩
theorem tw15930662971064111196:True:=⟨⟩
theorem tw1350454563517871517:True:=⟨⟩
theorem tw7094176961362509574:True:=⟨⟩
theorem tw11802526843111435618:True:=⟨⟩
theorem tw4563420343549011003:True:=⟨⟩
theorem tw13508114313397320041:True:=⟨⟩
theorem tw12103160207710437511:True:=⟨⟩
theorem tw1463529526691934426:True:=⟨⟩
theorem tw6138427711190300560:True:=⟨⟩
theorem tw18164445375823510414:True:=⟨⟩
theorem tw9500790018032112398:True:=⟨⟩
theorem tw5044684999333257348:True:=⟨⟩
theorem tw4492008894176131910:True:=⟨⟩
theorem tw13239770964943081377:True:=⟨⟩
theorem tw2132183993017692517:True:=⟨⟩
theorem tw12473464646063420139:True:=⟨⟩
theorem tw16485676295044554724:True:=⟨⟩
theorem tw9837513177517192984:True:=⟨⟩
theorem tw17628237404901682196:True:=⟨⟩
theorem tw8802459581067096183:True:=⟨⟩
theorem tw2828939333957993387:True:=⟨⟩
theorem tw4207268919488874291:True:=⟨⟩
theorem tw7645763834623022459:True:=⟨⟩
theorem tw10428614123660247142:True:=⟨⟩
theorem tw11666462045395591718:True:=⟨⟩
theorem tw7050577917291137501:True:=⟨⟩
theorem tw13516720366655508314:True:=⟨⟩
theorem tw15468612356892766642:True:=⟨⟩
theorem tw3424851637165673859:True:=⟨⟩
theorem tw4699275193118210398:True:=⟨⟩
theorem tw10615938204888217587:True:=⟨⟩
theorem tw17809676987602896398:True:=⟨⟩
theorem tw12143238946644650830:True:=⟨⟩
theorem tw6457494341246593313:True:=⟨⟩
theorem tw15829322304282743150:True:=⟨⟩
theorem tw14142453102281905792:True:=⟨⟩
theorem tw10317815404892208105:True:=⟨⟩
theorem tw11174591193657639442:True:=⟨⟩
theorem tw7903413375733331889:True:=⟨⟩
theorem tw1877966311794667203:True:=⟨⟩
theorem tw9203681511829948637:True:=⟨⟩
theorem tw5702370136138292815:True:=⟨⟩
theorem tw16745534165530247194:True:=⟨⟩
theorem tw9910743790938866382:True:=⟨⟩
theorem tw13109954647046404011:True:=⟨⟩
theorem tw14840001327727108590:True:=⟨⟩
theorem tw8757601076230745856:True:=⟨⟩
theorem tw8231151932454721367:True:=⟨⟩
theorem tw812763753406622246:True:=⟨⟩
theorem tw8050660456921302255:True:=⟨⟩
theorem tw9301347551773098259:True:=⟨⟩
theorem tw1823932478388485277:True:=⟨⟩
theorem tw7163996552283962666:True:=⟨⟩
end PySem.W.Fast
set_option maxRecDepth 100000 in
set_option maxHeartbeats 0 in
theorem PySem.Challenge.cw_shearfloor_k38_tables_of_the_group_holds : PySem.Challenge.rw_shearfloor_k38_tables_of_the_group.Holds := by
 w_on;o_law;k_head;(case hw=>w_witness2)
 k_fill
 refine L2.QL (l:=PySem.Challenge.rw_shearfloor_k38_tables_of_the_group) (n:=63) (k:=9) (x:="_law_script") (CX:=aX) (sp:=L4.xa) rfl (by decide) rfl ⟨rfl,by decide,by decide,rfl⟩ (fun w h Y=>PySem.W.kIn_of Y) ?F ?S ?C
 case F =>
  intro w mg fa h KX G hmg
  have T:My.Txt mg:=by
   refine' ⟨rT KX G ?z0,rT KX G ?z1,rT KX G ?z2,rT KX G ?z3,rT KX G ?z4,rT KX G ?z5,rT KX G ?z6,rT KX G ?z7,rT KX G ?z8,rT KX G ?z9,rT KX G ?XH,rT KX G ?XI⟩
   (case z0=>k_is);(case z1=>k_is);(case z2=>k_is);(case z3=>k_is);(case z4=>k_is);(case z5=>k_is);(case z6=>k_is);(case z7=>k_is);(case z8=>k_is);(case z9=>k_is);(case XH=>k_is);(case XI=>k_is)
  have mT:∃ v,L4.sC (L2.KOf KX) mg "QUARTER" v (.tup [(.int 0),(.int (-1)),(.int 1),(.int 0)]):=by
   dsimp only [L2.KOf];refine' L4.OC (vs:=[V.int 0,V.int (-1),V.int 1,V.int 0]) KX G ?a ?l ?o ?z ?v ?d
   (case a=>k_is);(case l=>k_is);(case o=>rfl);(case z=>decide);(case v=>exact (.cons ⟨_,rfl⟩ (.cons ⟨_,rfl⟩ (.cons ⟨_,rfl⟩ (.cons ⟨_,rfl⟩ .nil)))));(case d=>exact fun ρ H=>(.cons (.int _) (.cons (.int _) (.cons (.int _) (.cons (.int _) .nil)))))
  obtain ⟨_,mT⟩:=mT
  have mU:∃ v,L4.sC (L2.KOf KX) mg "UNMOVED" v (.tup [(.int 1),(.int 0),(.int 0),(.int 1)]):=by
   dsimp only [L2.KOf];refine' L4.OC (vs:=[V.int 1,V.int 0,V.int 0,V.int 1]) KX G ?a ?l ?o ?z ?v ?d
   (case a=>k_is);(case l=>k_is);(case o=>rfl);(case z=>decide);(case v=>exact (.cons ⟨_,rfl⟩ (.cons ⟨_,rfl⟩ (.cons ⟨_,rfl⟩ (.cons ⟨_,rfl⟩ .nil)))));(case d=>exact fun ρ H=>(.cons (.int _) (.cons (.int _) (.cons (.int _) (.cons (.int _) .nil)))))
  obtain ⟨_,mU⟩:=mU
  have jX:∃ f fd,Def (L2.KOf KX) mg "_law_feed" My.DT ["_law_script","_law_k"] f fd:=by
   dsimp only [L2.KOf];refine' eC KX G (fun _ _ _ _ _ _ us hl=>match us,hl with | [_,_],_=>rfl) ?a ?l ?c ?k
   (case a=>k_is);(case l=>k_is);(case c=>k_is);(case k=>k_is)
  obtain ⟨_,_,jX⟩:=jX
  have jY:∃ f fd,Def (L2.KOf KX) mg "_law_take" My.uw ["_law_feed_here","_law_many"] f fd:=by
   dsimp only [L2.KOf];refine' eC KX G (fun _ _ _ _ _ _ us hl=>match us,hl with | [_,_],_=>rfl) ?a ?l ?c ?k
   (case a=>k_is);(case l=>k_is);(case c=>k_is);(case k=>k_is)
  obtain ⟨_,_,jY⟩:=jY
  have fX:∃ f fd,Def (L2.KOf KX) mg "_law_turning" My.A5 ["_law_feed_here","_law_n"] f fd:=by
   dsimp only [L2.KOf];refine' eC KX G (fun _ _ _ _ _ _ us hl=>match us,hl with | [_,_],_=>rfl) ?a ?l ?c ?k
   (case a=>k_is);(case l=>k_is);(case c=>k_is);(case k=>k_is)
  obtain ⟨_,_,fX⟩:=fX
  have lE:∃ f fd,Def (L2.KOf KX) mg "_law_met" My.DV ["_law_floor_here"] f fd:=by
   dsimp only [L2.KOf];refine' eC KX G (fun _ _ _ _ _ _ us hl=>match us,hl with | [_],_=>rfl) ?a ?l ?c ?k
   (case a=>k_is);(case l=>k_is);(case c=>k_is);(case k=>k_is)
  obtain ⟨_,_,lE⟩:=lE
  have jm:∃ f fd,Def (L2.KOf KX) mg "_law_floor" My.A6 ["_law_feed_here","_law_n"] f fd:=by
   dsimp only [L2.KOf];refine' eC KX G (fun _ _ _ _ _ _ us hl=>match us,hl with | [_,_],_=>rfl) ?a ?l ?c ?k
   (case a=>k_is);(case l=>k_is);(case c=>k_is);(case k=>k_is)
  obtain ⟨_,_,jm⟩:=jm
  have eQ:∃ f fd,Def (L2.KOf KX) mg "_law_numbered" My.DY ["_law_floor_here","_law_s"] f fd:=by
   dsimp only [L2.KOf];refine' eC KX G (fun _ _ _ _ _ _ us hl=>match us,hl with | [_,_],_=>rfl) ?a ?l ?c ?k
   (case a=>k_is);(case l=>k_is);(case c=>k_is);(case k=>k_is)
  obtain ⟨_,_,eQ⟩:=eQ
  have jZ:∃ f fd,Def (L2.KOf KX) mg "_law_form" My.zV ["_law_floor_here"] f fd:=by
   dsimp only [L2.KOf];refine' eC KX G (fun _ _ _ _ _ _ us hl=>match us,hl with | [_],_=>rfl) ?a ?l ?c ?k
   (case a=>k_is);(case l=>k_is);(case c=>k_is);(case k=>k_is)
  obtain ⟨_,_,jZ⟩:=jZ
  have g5:∃ f fd,Def (L2.KOf KX) mg "_law_behind" My.D0 ["_law_turning_here","_law_s","_law_k"] f fd:=by
   dsimp only [L2.KOf];refine' eC KX G (fun _ _ _ _ _ _ us hl=>match us,hl with | [_,_,_],_=>rfl) ?a ?l ?c ?k
   (case a=>k_is);(case l=>k_is);(case c=>k_is);(case k=>k_is)
  obtain ⟨_,_,g5⟩:=g5
  have fY:∃ f fd,Def (L2.KOf KX) mg "_law_stepped" My.A8 ["_law_floor_here","_law_step"] f fd:=by
   dsimp only [L2.KOf];refine' eC KX G (fun _ _ _ _ _ _ us hl=>match us,hl with | [_,_],_=>rfl) ?a ?l ?c ?k
   (case a=>k_is);(case l=>k_is);(case c=>k_is);(case k=>k_is)
  obtain ⟨_,_,fY⟩:=fY
  have jn:∃ f fd,Def (L2.KOf KX) mg "_law_plain" My.D1 ["_law_word_here"] f fd:=by
   dsimp only [L2.KOf];refine' eC KX G (fun _ _ _ _ _ _ us hl=>match us,hl with | [_],_=>rfl) ?a ?l ?c ?k
   (case a=>k_is);(case l=>k_is);(case c=>k_is);(case k=>k_is)
  obtain ⟨_,_,jn⟩:=jn
  have jq:∃ f fd,Def (L2.KOf KX) mg "_law_chart" My.D2 ["_law_floor_here","_law_most"] f fd:=by
   dsimp only [L2.KOf];refine' eC KX G (fun _ _ _ _ _ _ us hl=>match us,hl with | [_,_],_=>rfl) ?a ?l ?c ?k
   (case a=>k_is);(case l=>k_is);(case c=>k_is);(case k=>k_is)
  obtain ⟨_,_,jq⟩:=jq
  have lF:∃ f fd,Def (L2.KOf KX) mg "_law_own" My.D4 ["_law_feed_here","_law_most"] f fd:=by
   dsimp only [L2.KOf];refine' eC KX G (fun _ _ _ _ _ _ us hl=>match us,hl with | [_,_],_=>rfl) ?a ?l ?c ?k
   (case a=>k_is);(case l=>k_is);(case c=>k_is);(case k=>k_is)
  obtain ⟨_,_,lF⟩:=lF
  have j4:∃ f fd,Def (L2.KOf KX) mg "_law_anew" My.D7 ["_law_floor_here","_law_p"] f fd:=by
   dsimp only [L2.KOf];refine' eC KX G (fun _ _ _ _ _ _ us hl=>match us,hl with | [_,_],_=>rfl) ?a ?l ?c ?k
   (case a=>k_is);(case l=>k_is);(case c=>k_is);(case k=>k_is)
  obtain ⟨_,_,j4⟩:=j4
  have j5:∃ f fd,Def (L2.KOf KX) mg "_law_word" My.D9 ["_law_feed_here","_law_most","_law_great"] f fd:=by
   dsimp only [L2.KOf];refine' eC KX G (fun _ _ _ _ _ _ us hl=>match us,hl with | [_,_,_],_=>rfl) ?a ?l ?c ?k
   (case a=>k_is);(case l=>k_is);(case c=>k_is);(case k=>k_is)
  obtain ⟨_,_,j5⟩:=j5
  have jr:∃ f fd,Def (L2.KOf KX) mg "_law_times" My.Eb ["_law_one","_law_other"] f fd:=by
   dsimp only [L2.KOf];refine' eC KX G (fun _ _ _ _ _ _ us hl=>match us,hl with | [_,_],_=>rfl) ?a ?l ?c ?k
   (case a=>k_is);(case l=>k_is);(case c=>k_is);(case k=>k_is)
  obtain ⟨_,_,jr⟩:=jr
  have jt:∃ f fd,Def (L2.KOf KX) mg "_law_table" My.Ed ["_law_word_here"] f fd:=by
   dsimp only [L2.KOf];refine' eC KX G (fun _ _ _ _ _ _ us hl=>match us,hl with | [_],_=>rfl) ?a ?l ?c ?k
   (case a=>k_is);(case l=>k_is);(case c=>k_is);(case k=>k_is)
  obtain ⟨_,_,jt⟩:=jt
  have g7:∃ f fd,Def (L2.KOf KX) mg "turned_back" My.zY ["turning"] f fd:=by
   dsimp only [L2.KOf];refine' eC KX G (fun _ _ _ _ _ _ us hl=>match us,hl with | [_],_=>rfl) ?a ?l ?c ?k
   (case a=>k_is);(case l=>k_is);(case c=>k_is);(case k=>k_is)
  obtain ⟨_,_,g7⟩:=g7
  have lG:∃ f fd,Def (L2.KOf KX) mg "followed" My.Bd ["one","other"] f fd:=by
   dsimp only [L2.KOf];refine' eC KX G (fun _ _ _ _ _ _ us hl=>match us,hl with | [_,_],_=>rfl) ?a ?l ?c ?k
   (case a=>k_is);(case l=>k_is);(case c=>k_is);(case k=>k_is)
  obtain ⟨_,_,lG⟩:=lG
  have g8:∃ f fd,Def (L2.KOf KX) mg "called_anew" My.Ef ["floor","p"] f fd:=by
   dsimp only [L2.KOf];refine' eC KX G (fun _ _ _ _ _ _ us hl=>match us,hl with | [_,_],_=>rfl) ?a ?l ?c ?k
   (case a=>k_is);(case l=>k_is);(case c=>k_is);(case k=>k_is)
  obtain ⟨_,_,g8⟩:=g8
  have fZ:∃ f fd,Def (L2.KOf KX) mg "squares_from" My.Eh ["floor","s"] f fd:=by
   dsimp only [L2.KOf];refine' eC KX G (fun _ _ _ _ _ _ us hl=>match us,hl with | [_,_],_=>rfl) ?a ?l ?c ?k
   (case a=>k_is);(case l=>k_is);(case c=>k_is);(case k=>k_is)
  obtain ⟨_,_,fZ⟩:=fZ
  have dU:∃ f fd,Def (L2.KOf KX) mg "numbering_from" My.Ej ["floor","s"] f fd:=by
   dsimp only [L2.KOf];refine' eC KX G (fun _ _ _ _ _ _ us hl=>match us,hl with | [_,_],_=>rfl) ?a ?l ?c ?k
   (case a=>k_is);(case l=>k_is);(case c=>k_is);(case k=>k_is)
  obtain ⟨_,_,dU⟩:=dU
  have eU:∃ f fd,Def (L2.KOf KX) mg "numbered_from" My.El ["floor","s"] f fd:=by
   dsimp only [L2.KOf];refine' eC KX G (fun _ _ _ _ _ _ us hl=>match us,hl with | [_,_],_=>rfl) ?a ?l ?c ?k
   (case a=>k_is);(case l=>k_is);(case c=>k_is);(case k=>k_is)
  obtain ⟨_,_,eU⟩:=eU
  have mV:∃ f fd,Def (L2.KOf KX) mg "form_of" My.Bf ["floor"] f fd:=by
   dsimp only [L2.KOf];refine' eC KX G (fun _ _ _ _ _ _ us hl=>match us,hl with | [_],_=>rfl) ?a ?l ?c ?k
   (case a=>k_is);(case l=>k_is);(case c=>k_is);(case k=>k_is)
  obtain ⟨_,_,mV⟩:=mV
  have j6:∃ f fd,Def (L2.KOf KX) mg "ring_from" My.En ["turning","first"] f fd:=by
   dsimp only [L2.KOf];refine' eC KX G (fun _ _ _ _ _ _ us hl=>match us,hl with | [_,_],_=>rfl) ?a ?l ?c ?k
   (case a=>k_is);(case l=>k_is);(case c=>k_is);(case k=>k_is)
  obtain ⟨_,_,j6⟩:=j6
  have lH:∃ f fd,Def (L2.KOf KX) mg "rings_of" My.Ep ["turning"] f fd:=by
   dsimp only [L2.KOf];refine' eC KX G (fun _ _ _ _ _ _ us hl=>match us,hl with | [_],_=>rfl) ?a ?l ?c ?k
   (case a=>k_is);(case l=>k_is);(case c=>k_is);(case k=>k_is)
  obtain ⟨_,_,lH⟩:=lH
  have pF:∃ f fd,Def (L2.KOf KX) mg "often" My.Es ["turning","k"] f fd:=by
   dsimp only [L2.KOf];refine' eC KX G (fun _ _ _ _ _ _ us hl=>match us,hl with | [_,_],_=>rfl) ?a ?l ?c ?k
   (case a=>k_is);(case l=>k_is);(case c=>k_is);(case k=>k_is)
  obtain ⟨_,_,pF⟩:=pF
  have mW:∃ f fd,Def (L2.KOf KX) mg "sheared" My.Ew ["floor","k"] f fd:=by
   dsimp only [L2.KOf];refine' eC KX G (fun _ _ _ _ _ _ us hl=>match us,hl with | [_,_],_=>rfl) ?a ?l ?c ?k
   (case a=>k_is);(case l=>k_is);(case c=>k_is);(case k=>k_is)
  obtain ⟨_,_,mW⟩:=mW
  have j7:∃ f fd,Def (L2.KOf KX) mg "quartered" My.Ez ["floor"] f fd:=by
   dsimp only [L2.KOf];refine' eC KX G (fun _ _ _ _ _ _ us hl=>match us,hl with | [_],_=>rfl) ?a ?l ?c ?k
   (case a=>k_is);(case l=>k_is);(case c=>k_is);(case k=>k_is)
  obtain ⟨_,_,j7⟩:=j7
  have g9:∃ f fd,Def (L2.KOf KX) mg "led_by_step" My.EB ["floor","step"] f fd:=by
   dsimp only [L2.KOf];refine' eC KX G (fun _ _ _ _ _ _ us hl=>match us,hl with | [_,_],_=>rfl) ?a ?l ?c ?k
   (case a=>k_is);(case l=>k_is);(case c=>k_is);(case k=>k_is)
  obtain ⟨_,_,g9⟩:=g9
  have oe:∃ f fd,Def (L2.KOf KX) mg "led_by" My.ED ["floor","word"] f fd:=by
   dsimp only [L2.KOf];refine' eC KX G (fun _ _ _ _ _ _ us hl=>match us,hl with | [_,_],_=>rfl) ?a ?l ?c ?k
   (case a=>k_is);(case l=>k_is);(case c=>k_is);(case k=>k_is)
  obtain ⟨_,_,oe⟩:=oe
  have lI:∃ f fd,Def (L2.KOf KX) mg "led_pair" My.EF ["table","pair"] f fd:=by
   dsimp only [L2.KOf];refine' eC KX G (fun _ _ _ _ _ _ us hl=>match us,hl with | [_,_],_=>rfl) ?a ?l ?c ?k
   (case a=>k_is);(case l=>k_is);(case c=>k_is);(case k=>k_is)
  obtain ⟨_,_,lI⟩:=lI
  have og:∃ f fd,Def (L2.KOf KX) mg "shears" My.Bh ["k"] f fd:=by
   dsimp only [L2.KOf];refine' eC KX G (fun _ _ _ _ _ _ us hl=>match us,hl with | [_],_=>rfl) ?a ?l ?c ?k
   (case a=>k_is);(case l=>k_is);(case c=>k_is);(case k=>k_is)
  obtain ⟨_,_,og⟩:=og
  have pH:∃ f fd,Def (L2.KOf KX) mg "times" My.zZ ["one","other"] f fd:=by
   dsimp only [L2.KOf];refine' eC KX G (fun _ _ _ _ _ _ us hl=>match us,hl with | [_,_],_=>rfl) ?a ?l ?c ?k
   (case a=>k_is);(case l=>k_is);(case c=>k_is);(case k=>k_is)
  obtain ⟨_,_,pH⟩:=pH
  have ju:∃ f fd,Def (L2.KOf KX) mg "step_table" My.EH ["step"] f fd:=by
   dsimp only [L2.KOf];refine' eC KX G (fun _ _ _ _ _ _ us hl=>match us,hl with | [_],_=>rfl) ?a ?l ?c ?k
   (case a=>k_is);(case l=>k_is);(case c=>k_is);(case k=>k_is)
  obtain ⟨_,_,ju⟩:=ju
  have lJ:∃ f fd,Def (L2.KOf KX) mg "table_of" My.Bi ["word"] f fd:=by
   dsimp only [L2.KOf];refine' eC KX G (fun _ _ _ _ _ _ us hl=>match us,hl with | [_],_=>rfl) ?a ?l ?c ?k
   (case a=>k_is);(case l=>k_is);(case c=>k_is);(case k=>k_is)
  obtain ⟨_,_,lJ⟩:=lJ
  have mX:∃ f fd,Def (L2.KOf KX) mg "nearest" My.EJ ["number","divisor"] f fd:=by
   dsimp only [L2.KOf];refine' eC KX G (fun _ _ _ _ _ _ us hl=>match us,hl with | [_,_],_=>rfl) ?a ?l ?c ?k
   (case a=>k_is);(case l=>k_is);(case c=>k_is);(case k=>k_is)
  obtain ⟨_,_,mX⟩:=mX
  have hJ:∃ f fd,Def (L2.KOf KX) mg "level_steps" My.EL ["pair"] f fd:=by
   dsimp only [L2.KOf];refine' eC KX G (fun _ _ _ _ _ _ us hl=>match us,hl with | [_],_=>rfl) ?a ?l ?c ?k
   (case a=>k_is);(case l=>k_is);(case c=>k_is);(case k=>k_is)
  obtain ⟨_,_,hJ⟩:=hJ
  have oh:∃ f fd,Def (L2.KOf KX) mg "joined" My.EN ["one","other"] f fd:=by
   dsimp only [L2.KOf];refine' eC KX G (fun _ _ _ _ _ _ us hl=>match us,hl with | [_,_],_=>rfl) ?a ?l ?c ?k
   (case a=>k_is);(case l=>k_is);(case c=>k_is);(case k=>k_is)
  obtain ⟨_,_,oh⟩:=oh
  have jv:∃ f fd,Def (L2.KOf KX) mg "made_plain" My.ER ["word"] f fd:=by
   dsimp only [L2.KOf];refine' eC KX G (fun _ _ _ _ _ _ us hl=>match us,hl with | [_],_=>rfl) ?a ?l ?c ?k
   (case a=>k_is);(case l=>k_is);(case c=>k_is);(case k=>k_is)
  obtain ⟨_,_,jv⟩:=jv
  have f9:∃ f fd,Def (L2.KOf KX) mg "put_together" My.EU ["one","other"] f fd:=by
   dsimp only [L2.KOf];refine' eC KX G (fun _ _ _ _ _ _ us hl=>match us,hl with | [_,_],_=>rfl) ?a ?l ?c ?k
   (case a=>k_is);(case l=>k_is);(case c=>k_is);(case k=>k_is)
  obtain ⟨_,_,f9⟩:=f9
  have lK:∃ f fd,Def (L2.KOf KX) mg "is_table" My.EW ["thing"] f fd:=by
   dsimp only [L2.KOf];refine' eC KX G (fun _ _ _ _ _ _ us hl=>match us,hl with | [_],_=>rfl) ?a ?l ?c ?k
   (case a=>k_is);(case l=>k_is);(case c=>k_is);(case k=>k_is)
  obtain ⟨_,_,lK⟩:=lK
  have jw:∃ f fd,Def (L2.KOf KX) mg "level_word" My.EY ["table"] f fd:=by
   dsimp only [L2.KOf];refine' eC KX G (fun _ _ _ _ _ _ us hl=>match us,hl with | [_],_=>rfl) ?a ?l ?c ?k
   (case a=>k_is);(case l=>k_is);(case c=>k_is);(case k=>k_is)
  obtain ⟨_,_,jw⟩:=jw
  have j8:∃ f fd,Def (L2.KOf KX) mg "back_step" My.E1 ["step"] f fd:=by
   dsimp only [L2.KOf];refine' eC KX G (fun _ _ _ _ _ _ us hl=>match us,hl with | [_],_=>rfl) ?a ?l ?c ?k
   (case a=>k_is);(case l=>k_is);(case c=>k_is);(case k=>k_is)
  obtain ⟨_,_,j8⟩:=j8
  have j9:∃ f fd,Def (L2.KOf KX) mg "back_word" My.E3 ["word"] f fd:=by
   dsimp only [L2.KOf];refine' eC KX G (fun _ _ _ _ _ _ us hl=>match us,hl with | [_],_=>rfl) ?a ?l ?c ?k
   (case a=>k_is);(case l=>k_is);(case c=>k_is);(case k=>k_is)
  obtain ⟨_,_,j9⟩:=j9
  have mY:∃ f fd,Def (L2.KOf KX) mg "word_of" My.E5 ["table"] f fd:=by
   dsimp only [L2.KOf];refine' eC KX G (fun _ _ _ _ _ _ us hl=>match us,hl with | [_],_=>rfl) ?a ?l ?c ?k
   (case a=>k_is);(case l=>k_is);(case c=>k_is);(case k=>k_is)
  obtain ⟨_,_,mY⟩:=mY
  have gb:∃ f fd,Def (L2.KOf KX) mg "led_by_table" My.E7 ["floor","table"] f fd:=by
   dsimp only [L2.KOf];refine' eC KX G (fun _ _ _ _ _ _ us hl=>match us,hl with | [_,_],_=>rfl) ?a ?l ?c ?k
   (case a=>k_is);(case l=>k_is);(case c=>k_is);(case k=>k_is)
  obtain ⟨_,_,gb⟩:=gb
  have hU:∃ f fd,Def (L2.KOf KX) mg "is_of_group" My.E8 ["floor","table"] f fd:=by
   dsimp only [L2.KOf];refine' eC KX G (fun _ _ _ _ _ _ us hl=>match us,hl with | [_,_],_=>rfl) ?a ?l ?c ?k
   (case a=>k_is);(case l=>k_is);(case c=>k_is);(case k=>k_is)
  obtain ⟨_,_,hU⟩:=hU
  have lL:∃ f fd,Def (L2.KOf KX) mg "_law_led" My.Bk ["_law_floor_here","_law_word_here"] f fd:=by
   dsimp only [L2.KOf];refine' eC KX G (fun _ _ _ _ _ _ us hl=>match us,hl with | [_,_],_=>rfl) ?a ?l ?c ?k
   (case a=>k_is);(case l=>k_is);(case c=>k_is);(case k=>k_is)
  obtain ⟨_,_,lL⟩:=lL
  have kb:∃ f fd,Def (L2.KOf KX) mg "_law_back" My.Fb ["_law_word_here"] f fd:=by
   dsimp only [L2.KOf];refine' eC KX G (fun _ _ _ _ _ _ us hl=>match us,hl with | [_],_=>rfl) ?a ?l ?c ?k
   (case a=>k_is);(case l=>k_is);(case c=>k_is);(case k=>k_is)
  obtain ⟨_,_,kb⟩:=kb
  have kc:∃ f fd,Def (L2.KOf KX) mg "_law_home" My.Fe ["_law_feed_here","_law_floor_here","_law_chart_here","_law_word_here"] f fd:=by
   dsimp only [L2.KOf];refine' eC KX G (fun _ _ _ _ _ _ us hl=>match us,hl with | [_,_,_,_],_=>rfl) ?a ?l ?c ?k
   (case a=>k_is);(case l=>k_is);(case c=>k_is);(case k=>k_is)
  obtain ⟨_,_,kc⟩:=kc
  have hV:∃ f fd,Def (L2.KOf KX) mg "_law_undone" My.Ff ["_law_table_here"] f fd:=by
   dsimp only [L2.KOf];refine' eC KX G (fun _ _ _ _ _ _ us hl=>match us,hl with | [_],_=>rfl) ?a ?l ?c ?k
   (case a=>k_is);(case l=>k_is);(case c=>k_is);(case k=>k_is)
  obtain ⟨_,_,hV⟩:=hV
  have p5:∃ f fd,Def (L2.KOf KX) mg "law" My.HU ["_law_script"] f fd:=by
   dsimp only [L2.KOf];refine' eC KX G (fun _ _ _ _ _ _ us hl=>match us,hl with | [_],_=>rfl) ?a ?l ?c ?k
   (case a=>k_is);(case l=>k_is);(case c=>k_is);(case k=>k_is)
  obtain ⟨_,_,p5⟩:=p5
  have e0:=hmg.symm.trans p5.m
  cases e0
  exact ⟨_,p5.uO,fun base _ _=>L4.yI (My.Am T mT mU jX jY fX lE jm eQ jZ g5 fY jn jq lF j4 j5 jr jt g7 lG g8 fZ dU eU mV j6 lH pF mW j7 g9 oe lI og pH ju lJ mX hJ oh jv f9 lK jw j8 j9 mY gb hU lL kb kc hV p5) fun ns hn=>let ⟨_,st,e,h⟩:=My.tW ns hn;⟨st,h ▸ e⟩⟩
 case S=>exact fun K H a ns hl hO hS=>⟨a,ns,rfl,hS.script hO,hl,fun _=>rfl⟩
 case C=>exact fun _ _ _ _ z=>z
