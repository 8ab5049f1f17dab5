import PyProof.Rows.All
import Wide.All
import OpenK.AllK
import Wide.FinOn
import Lean
import PyProof.EqAt
import PyProof.EqKinds
import PyProof.TupleCall
import PyProof.DictIter
import PyProof.EnumMake
import KE.KSortTup
import KE.KDictLaws
import KE.KDictSum
import PyProof.StrLawsTight
import KE.KIntText
import PyProof.MinMaxWalk
import PyProof.WalkInts
import KE.KIsAll
import PyProof.ExcInit
import PyProof.NsDelKeeps
import PyProof.ExcBaseAll.ValueError
import OpenK.KOwn
import PyProof.ExcAttrAll.ValueError
import PyProof.InstStoreFacts
import KE.KFind
import PyProof.NoPylong
import PySem.Challenge.RW_shearfloor_k28_charts_looked_at
set_option Elab.async false
set_option linter.all false
set_option maxRecDepth 100000
set_option maxHeartbeats 4000000
set_option genSizeOf false
noncomputable section
noncomputable def Wo:=@List.length_map
noncomputable def Wq:=@List.getElem?_eq_some_iff
noncomputable def Wr:=@List.getElem?_eq_getElem
noncomputable def Wt:=@List.length_append
noncomputable def Wu:=@List.getElem?_set_self
noncomputable def Wv:=@Nat.le_refl
noncomputable def Ww:=@List.mem_of_getElem?
noncomputable def Wx:=@List.getElem?_map
noncomputable def Wy:=@List.mem_cons_self
noncomputable def Wz:=@List.getElem?_set_ne
noncomputable def WA:=@Bool.false_ne_true
noncomputable def WB:=@List.mem_map
noncomputable def WC:=@Int.toNat_natCast
noncomputable def WD:=@Option.some.inj
noncomputable def WE:=@List.mem_cons_of_mem
noncomputable def WG:=@List.getElem?_append_left
noncomputable def WH:=@List.size_toArray
noncomputable def WI:=@List.getD_eq_getElem?_getD
noncomputable def WJ:=@PySem.Heap.get?_push_of_some
noncomputable def WK:=@List.mem_singleton
noncomputable def WL:=@List.map_append
noncomputable def WM:=@List.map_cons
noncomputable def WN:=@List.getElem?_append_right
noncomputable def WO:=@PySem.Heap.lt_size
noncomputable def WQ:=@List.map_map
noncomputable def WR:=@Bool.false_eq_true
noncomputable def WS:=@List.mem_append
noncomputable def WT:=@List.mem_cons
noncomputable def WU:=@Bool.and_eq_true
noncomputable def WV:=@Int.toNat_of_nonneg
noncomputable def WW:=@PySem.Heap.get?_push_size
noncomputable def WX:=@List.length_cons
noncomputable def WY:=@List.mem_append_right
noncomputable def WZ:=@Nat.le_trans
noncomputable def W0:=@Nat.lt_of_lt_of_le
noncomputable def W2:=@Option.map_eq_some_iff
noncomputable def W3:=@List.length_set
noncomputable def W4:=@List.map_congr_left
noncomputable def W5:=@List.getD_cons_succ
noncomputable def W6:=@List.getD_cons_zero
noncomputable def W7:=@List.getElem?_eq_none_iff
noncomputable def W8:=@List.take_succ_eq_append_getElem
noncomputable def W9:=@Nat.zero_le
noncomputable def Xa:=@List.getElem?_of_mem
noncomputable def Xb:=@List.map_nil
noncomputable def Xc:=@List.nodup_cons
noncomputable def Xe:=@Nat.not_lt_zero
noncomputable def Xf:=@Nat.ne_of_lt
noncomputable def Xg:=@List.replicate_succ
noncomputable def Xh:=@List.contains_iff_mem
noncomputable def Xi:=@Option.bind_eq_some_iff
noncomputable def Xj:=@List.length_take
noncomputable def Xk:=@List.getElem_mem
noncomputable def Xl:=@PySem.Heap.get?_update_other
noncomputable def Xm:=@List.pairwise_iff_getElem
noncomputable def Xn:=@Nat.lt_of_le_of_lt
noncomputable def Xo:=@List.any_cons
noncomputable def Xp:=@List.foldl_append
noncomputable def Xq:=@List.find?_cons
noncomputable def Xr:=@Int.emod_nonneg
noncomputable def Xs:=@Nat.lt_succ_self
noncomputable def Xt:=@List.mem_reverse
noncomputable def Xu:=@Option.bind_some
noncomputable def Xv:=@Int.emod_lt_of_pos
noncomputable def Xw:=@List.mem_append_left
noncomputable def Xx:=@Bool.eq_iff_iff
noncomputable def Xy:=@List.append_nil
noncomputable def Xz:=@List.mem_erase_of_ne
noncomputable def XA:=@Nat.sub_self
noncomputable def XB:=@List.getElem?_range
noncomputable def XC:=@List.getElem_of_mem
noncomputable def XD:=@List.lookup_cons
noncomputable def XE:=@List.take_length
noncomputable def XF:=@List.map_set
noncomputable def XG:=@List.length_singleton
noncomputable def XH:=@List.flatten_cons
noncomputable def XI:=@List.append_assoc
noncomputable def XJ:=@List.drop_eq_getElem_cons
noncomputable def XM:=@List.mem_or_eq_of_mem_set
noncomputable def XQ:=@List.map_id
noncomputable def XR:=@List.findIdx?_eq_some_iff_getElem
noncomputable def XS:=@PySem.Heap.size_push
noncomputable def XT:=@Option.isSome_iff_exists
noncomputable def XU:=@List.length_drop
noncomputable def XW:=@List.getElem_map
noncomputable def XX:=@Int.zero_add
noncomputable def XY:=@List.all_eq_true
noncomputable def XZ:=@List.eraseIdxIfInBounds_toArray
noncomputable def X0:=@List.getElem?_replicate
noncomputable def X1:=@List.take_of_length_le
noncomputable def X2:=@List.reverse_cons
noncomputable def X3:=@List.length_range
noncomputable def X4:=@List.mem_range
noncomputable def X5:=@List.length_replicate
noncomputable def X7:=@Array.getElem?_toList
noncomputable def X8:=@Nat.lt_or_ge
noncomputable def X9:=@List.Perm.refl
noncomputable def Ya:=@Nat.zero_add
noncomputable def Yc:=@List.perm_cons_erase
noncomputable def Yd:=@List.prefix_refl
noncomputable def Ye:=@List.not_mem_nil
noncomputable def Yf:=@Nat.lt_irrefl
noncomputable def Yi:=@List.mem_filter
abbrev Zfr:=PySem.W.Frag
namespace L2
open PySem PySem.Spec PyProof.Rows
abbrev Key:=Sum Int Str
noncomputable def nM:Key->Value->Bool
 |.inl k,v=>Value.isInt k v
 |.inr x,v=>Value.isStrOf x v
noncomputable def Hc(w:World):Key->Int
 |.inl k=>hashInt k
 |.inr x=>hashStr w x
theorem t9:∀{k:Key} {v:Value},nM k v=true->(∃i t,k=Sum.inl i/\v=Value.int i t)\/(∃x t,k=Sum.inr x/\v=Value.str x t)
 |.inl i,v,h=>by
  obtain ⟨t,e⟩:=Value.isInt_shape (k:=i) (v:=v) h;exact .inl ⟨i,t,rfl,e⟩
 |.inr x,v,h=>by
  obtain ⟨t,e⟩:=Value.isStrOf_shape (x:=x) (v:=v) h;exact .inr ⟨x,t,rfl,e⟩
theorem OM(i:Int)(t:Tok):nM (.inl i) (.int i t)=true:=by simp [nM,Value.isInt]
theorem OO(x:Str)(t:Tok):nM (.inr x) (.str x t)=true:=by simp [nM,Value.isStrOf]
theorem wJ(a b:Int):decide ((Sum.inl a:Key)=Sum.inl b)=(a == b):=by
 by_cases e:a=b
 ·subst e;simp
 ·have h:¬(Sum.inl a:Key)=Sum.inl b:=fun q=>e (Sum.inl.inj q)
  rw [decide_eq_false h];exact (beq_eq_false_iff_ne.mpr e).symm
theorem wK(a b:Str):decide ((Sum.inr a:Key)=Sum.inr b)=decide (a=b):=by
 by_cases e:a=b
 ·subst e;simp
 ·have h:¬(Sum.inr a:Key)=Sum.inr b:=fun q=>e (Sum.inr.inj q)
  rw [decide_eq_false h,decide_eq_false e]
theorem wL(a:Int)(b:Str):decide ((Sum.inl a:Key)=Sum.inr b)=false:=decide_eq_false (fun q=>nomatch q)
theorem wO(a:Str)(b:Int):decide ((Sum.inr a:Key)=Sum.inl b)=false:=decide_eq_false (fun q=>nomatch q)
noncomputable def dh(prog:Program)(w:World):PySem.KeyKind prog w Key where
 is:=nM
 hash:=Hc w
 inj:=fun v a b ha hb=>by
  rcases t9 ha with ⟨i,t,rfl,rfl⟩|⟨x,t,rfl,rfl⟩
  ·rcases t9 hb with ⟨j,u,rfl,e⟩|⟨y,u,rfl,e⟩
   ·injection e with e1 _;rw [e1]
   ·exact nomatch e
  ·rcases t9 hb with ⟨j,u,rfl,e⟩|⟨y,u,rfl,e⟩
   ·exact nomatch e
   ·injection e with e1 _;rw [e1]
 byValue:=fun k v h=>by
  rcases t9 h with ⟨i,t,rfl,rfl⟩|⟨x,t,rfl,rfl⟩<;>rfl
 pyHash:=fun hv h=>by
  rcases t9 hv with ⟨i,t,rfl,rfl⟩|⟨x,t,rfl,rfl⟩
  ·exact wpAny_pyHash_int h
  ·exact wpAny_pyHash_str h
 eqBool:=fun hu hv h=>by
  rcases t9 hu with ⟨i,t,rfl,rfl⟩|⟨x,t,rfl,rfl⟩
  ·rcases t9 hv with ⟨j,u,rfl,rfl⟩|⟨y,u,rfl,rfl⟩
   ·rw [wJ] at h;exact wpAny_eqBool_int h
   ·rw [wL] at h;exact SeqAt.EqAt.int_str i t y u _ _ _ _ h
  ·rcases t9 hv with ⟨j,u,rfl,rfl⟩|⟨y,u,rfl,rfl⟩
   ·rw [wO] at h;exact SeqAt.EqAt.str_int x t j u _ _ _ _ h
   ·rw [wK] at h;exact wpAny_eqBool_str h
 «strs»:=fun k x t v h=>by
  rcases t9 h with ⟨i,u,rfl,e⟩|⟨y,u,rfl,e⟩
  ·exact nomatch e
  ·injection e with e1 _
   subst e1;cases v<;>rfl
theorem OQ(prog:Program)(w:World)(i:Int)(t:Tok):(dh prog w).is (.inl i) (.int i t)=true:=OM i t
theorem OR(prog:Program)(w:World)(x:Str)(t:Tok):(dh prog w).is (.inr x) (.str x t)=true:=OO x t
inductive V where
 |non|bl (b:Bool)|int (i:Int)|str (x:Str)|rF (b:Array UInt8)|zM (b:UInt64)|ref (a:Addr)|ty (n:String)
 deriving DecidableEq
noncomputable def RelV:V->Value->Prop
 |.non,u=>u=Value.none
 |.bl b,u=>u=Value.bool b
 |.int i,u=>∃t,u=Value.int i t
 |.str x,u=>∃t,u=Value.str x t
 |.rF b,u=>∃t,u=Value.bytes b t
 |.zM b,u=>∃t,u=Value.float b t
 |.ref a,u=>u=Value.ref a
 |.ty n,u=>u=Value.type n
abbrev Vals:List V->List Value->Prop:=Paired RelV
theorem Vals.length{xs:List V}{us:List Value}(r:Vals xs us):xs.length=us.length:=Paired.length r
theorem Vals.get:∀{xs:List V} {us:List Value} {i:Nat} {x:V},Vals xs us->xs[i]?=some x->∃u,us[i]?=some u/\RelV x u
 |_,_,_,_,.nil,e=>by simp at e
 |_,_,0,_,.cons r _,e=>by simp at e;subst e;exact ⟨_,rfl,r⟩
 |_,_,i+1,x,.cons _ t,e=>by
  obtain ⟨u,h1,h2⟩:=Vals.get (i:=i) (x:=x) t (by simpa using e);exact ⟨u,by simpa using h1,h2⟩
theorem Vals.set{x:V}{u:Value}(r:RelV x u):∀{xs:List V} {us:List Value} (i:Nat),Vals xs us->Vals (xs.set i x) (us.set i u)
 |_,_,_,.nil=>.nil
 |_,_,0,.cons _ t=>.cons r t
 |_,_,i+1,.cons q t=>.cons q (Vals.set r i t)
theorem Vals.append:∀{xs ys:List V} {us ws:List Value},Vals xs us->Vals ys ws->Vals (xs ++ ys) (us ++ ws)
 |_,_,_,_,.nil,s=>s
 |_,_,_,_,.cons r t,s=>.cons r (Vals.append t s)
theorem Vals.take:∀{xs:List V} {us:List Value} (n:Nat),Vals xs us->Vals (xs.take n) (us.take n)
 |_,_,0,_=>.nil
 |_,_,_+1,.nil=>.nil
 |_,_,n+1,.cons r t=>.cons r (Vals.take n t)
theorem Vals.drop:∀{xs:List V} {us:List Value} (n:Nat),Vals xs us->Vals (xs.drop n) (us.drop n)
 |_,_,0,r=>r
 |_,_,_+1,.nil=>.nil
 |_,_,n+1,.cons _ t=>Vals.drop n t
noncomputable def qJ:Option V->Option Value->Prop
 |some v,some u=>RelV v u
 |none,none=>True
 |_,_=>False
noncomputable def KV{κ:Type}:List (κ×V)->List (κ×Value)->Prop:=Paired fun (p:κ×V) (q:κ×Value)=>p.1=q.1/\RelV p.2 q.2
noncomputable def kV:Key->V
 |.inl i=>.int i
 |.inr x=>.str x
set_option genInjectivity false in
inductive HO where
 /-- a list -/
 |lst (xs:List V)
 /-- a tuple (never changes) -/
 |tup (xs:List V)
 /-- a dict whose keys are ints and texts;one whose keys are tuples of ints and texts (the empty one is both) -/
 |dK (kvs:List (Key×V))|dT (kvs:List (List Key×V))
 /-- a set of ints: its members,its size -/
 |set (S:Int->Bool) (n:Nat)
 /-- an instance of the class at C,its dict at dx,its attributes -/
 |ins (C dx:Addr) (fs:List (Str×V))
 /-- the dict of the instance at x -/
 |own (x:Addr)
 /-- the dict of an exception -/
 |xd (fs:List (Str×V))
 /-- a bound method,f of x -/
 |met (f x:Addr)
 /-- a range object lo,lo+1,.. below hi -/
 |gS (lo hi:Int)
 /-- a thing that is known to the object (the script;a dict while a loop walks it): read,never written while it is so -/
 |mU (o:Obj) (u:HO)
 /-- a code A3 table -/
 |wQ (ps:Array Value)
 /-- any other thing,by what is true of its one object (a def of Ku own: OS a S n:=HO.ext fun h=>..) -/
 |ext (φ:Heap->Prop)
abbrev Hp:=Addr->Option HO
noncomputable def upd(H:Hp)(a:Addr)(o:HO):Hp:=fun b=>if b=a then some o else H b
theorem rf{H:Hp}{a:Addr}{o:HO}:upd H a o a=some o:=by unfold upd;rw [if_pos rfl]
theorem ki{H:Hp}{a b:Addr}{o:HO}(h:b≠a):upd H a o b=H b:=by unfold upd;rw [if_neg h]
theorem Hd{H:Hp}{a b:Addr}{o u:HO}(h:H a=some o)(h':H b=some u)(d:o≠u):a≠b:=by
 intro e;subst e;rw [h] at h';exact d (WD h')
theorem zN{H:Hp}{a b:Addr}{o:HO}(h:H a=some o)(h':H b=none):a≠b:=by
 intro e;subst e;rw [h] at h';cases h'
noncomputable def nZ(h:Heap)(a:Addr)(its:Array Value):Prop:=∃o,h.get? a=some o/\o.cls=.type "tuple" /\ o.dict=none/\∃n,o.data=.seq its n
theorem nZ.tup{h:Heap}{a:Addr}{its:Array Value}(x:nZ h a its):IsTup h a its:=let ⟨o,e,c,_,n,d⟩:=x;⟨o,e,c,n,d⟩
theorem nZ.new(h:Heap)(its:Array Value):nZ (h.push { cls:=.type "tuple",data:=.seq its }) h.objs.size its:=⟨_,WW _ rfl,rfl,rfl,_,rfl⟩
section
variable (P:Program)(w:World)
noncomputable def cG(H:Hp)(h:Heap)(a:Addr):HO->Prop
 |.lst xs=>xs.length<=sizeLine/\∃(its:List Value) (n:Nat),Vals xs its/\h.get? a=some { cls:=.type "list",data:=.seq its.toArray n }
 |.tup xs=>xs.length<=sizeLine/\∃its:List Value,Vals xs its/\nZ h a its.toArray
 |.dK kvs=>kvs.length<=sizeLine/\(a == sysModules)=false/\∃vs,KV kvs vs/\h.DictOf (dh P w) a vs
 | .dT kvs=>kvs.length<=sizeLine/\(a == sysModules)=false/\∃ xs:List (List Key×Addr×Value),
   Paired (fun (p:List Key×V) (q:List Key×Addr×Value)=>p.1=q.1/\H q.2.1=some (.tup (p.1.map kV))/\RelV p.2 q.2.2) kvs xs /\
   ∃o es ep,h.get? a=some o/\o.ExactDict/\o.data=.dict es ep/\es.toList=xs.map (entryOfKey (tupleKind (dh P w)))/\(xs.map (·.1)).Nodup
 |.set S n=>h.SetOf (intKind P w) a S n
 | .ins C dx fs=>H dx=some (.own a)/\fs.length<=1000/\dx≠a/\h.get? a=some (PySem.W.instObj C dx) /\
   ∃mA,h.Ns1 dx mA/\(∀f,qJ (fs.lookup f) (mA f))/\PySem.Within mA (fs.map (·.1))
 |.own _=>∃o,h.get? a=some o
 |.xd fs=>∃mA,h.Ns1 a mA/\∀f,qJ (fs.lookup f) (mA f)
 |.gS lo hi=>∃t u v,h.get? a=some { cls:=.type "range",data:=.fields #[.int lo t,.int hi u,.int 1 v] }
 |.mU o u=>h.get? a=some o/\cG H h a u
 |.wQ ps=>h.get? a=some { cls:=.none,data:=.fields ps }
 |.met f x=>h.get? a=some (PySem.W.methodObj (.ref f) (.ref x))
 |.ext φ=>φ h/\(∃o,h.get? a=some o)/\∀h1 h2:Heap,φ h1->(∀o,h1.get? a=some o->h2.get? a=some o)->φ h2
noncomputable def lF(H:Hp)(h:Heap):Prop:=∀a o,H a=some o->cG P w H h a o
end
section
variable {P:Program}{w:World}{H H':Hp}{h h':Heap}{a:Addr}{o:HO}
theorem cG.lt(x:cG P w H h a o):a<h.objs.size:=by
 cases o with
 |lst xs=>obtain ⟨_,_,_,_,e⟩:=x;exact WO e
 |tup xs=>obtain ⟨_,_,_,_,e,_⟩:=x;exact WO e
 |dK kvs=>obtain ⟨_,_,_,_,o,_,_,e,_⟩:=x;exact WO e
 |dT kvs=>obtain ⟨_,_,_,_,o,_,_,e,_⟩:=x;exact WO e
 |set S n=>obtain ⟨o,_,_,_,e,_⟩:=x;exact WO e
 |ins C dx fs=>obtain ⟨_,_,_,e,_⟩:=x;exact WO e
 |own y=>obtain ⟨_,e⟩:=x;exact WO e
 |xd fs=>obtain ⟨_,⟨_,_,_,e,_⟩,_⟩:=x;exact WO e
 |gS lo hi=>obtain ⟨_,_,_,e⟩:=x;exact WO e
 |mU ob u=>obtain ⟨e,_⟩:=x;exact WO e
 |wQ ps=>exact WO (show h.get? a=some _ from x)
 |met f y=>exact WO (show h.get? a=some _ from x)
 |ext φ=>obtain ⟨_,⟨_,e⟩,_⟩:=x;exact WO e
theorem Paired.wR{α β:Type}{F G:α->β->Prop}:∀{l₁:List α} {l₂:List β},Paired F l₁ l₂->(∀a b,F a b->G a b)->Paired G l₁ l₂
 |_,_,.nil,_=>.nil
 |_,_,.cons r t,f=>.cons (f _ _ r) (Paired.wR t f)
theorem cG.stay(x:cG P w H h a o)(k:∀b u,(b=a\/H b=some (.own a))->h.get? b=some u->h'.get? b=some u)
  (ho:∀b,H b=some (.own a)->H' b=some (.own a)) (ht:∀b xs,H b=some (.tup xs)->H' b=some (.tup xs)):cG P w H' h' a o:=by
 induction o with
 |lst xs=>obtain ⟨z,its,n,r,e⟩:=x;exact ⟨z,its,n,r,k _ _ (.inl rfl) e⟩
 |tup xs=>obtain ⟨z,its,r,ob,e,c⟩:=x;exact ⟨z,its,r,ob,k _ _ (.inl rfl) e,c⟩
 |dK kvs=>obtain ⟨z,y,vs,r,ob,es,ep,e,c⟩:=x;exact ⟨z,y,vs,r,ob,es,ep,k _ _ (.inl rfl) e,c⟩
 |dT kvs =>
  obtain ⟨z,y,xs,r,ob,es,ep,e,c⟩:=x;exact ⟨z,y,xs,Paired.wR r fun p q z=>⟨z.1,ht _ _ z.2.1,z.2.2⟩,ob,es,ep,k _ _ (.inl rfl) e,c⟩
 |set S n=>obtain ⟨ob,es,ep,t,e,c⟩:=x;exact ⟨ob,es,ep,t,k _ _ (.inl rfl) e,c⟩
 |ins C dx fs =>
  obtain ⟨d,z,ne,e,mA,⟨od,es,ep,e2,c⟩,r⟩:=x;exact ⟨ho _ d,z,ne,k _ _ (.inl rfl) e,mA,⟨od,es,ep,k _ _ (.inr d) e2,c⟩,r⟩
 |own y=>obtain ⟨ob,e⟩:=x;exact ⟨ob,k _ _ (.inl rfl) e⟩
 |xd fs=>obtain ⟨mA,⟨od,es,ep,e,c⟩,r⟩:=x;exact ⟨mA,⟨od,es,ep,k _ _ (.inl rfl) e,c⟩,r⟩
 |gS lo hi=>obtain ⟨t,u,v,e⟩:=x;exact ⟨t,u,v,k _ _ (.inl rfl) e⟩
 |mU ob u ih=>obtain ⟨e,q⟩:=x;exact ⟨k _ _ (.inl rfl) e,ih q⟩
 |wQ ps =>
  have e:h.get? a=some { cls:=.none,data:=.fields ps }:=x;show h'.get? a=some { cls:=.none,data:=.fields ps };exact k a _ (.inl rfl) e
 |met f y =>
  have e:h.get? a=some (PySem.W.methodObj (.ref f) (.ref y)):=x;show h'.get? a=some (PySem.W.methodObj (.ref f) (.ref y));exact k a _ (.inl rfl) e
 |ext φ=>obtain ⟨p,⟨o,e⟩,st⟩:=x;exact ⟨st _ _ p fun o q=>k _ _ (.inl rfl) q,⟨o,k _ _ (.inl rfl) e⟩,st⟩
theorem lF.lt(x:lF P w H h)(e:H a=some o):a<h.objs.size:=(x a o e).lt
theorem lF.fresh(x:lF P w H h)(e:h.objs.size<=a):H a=none:=by
 cases q:H a with
 |none=>rfl
 |some u=>exact absurd (W0 (x.lt q) e) (Yf _)
theorem lF.kept(x:lF P w H h)(k:∀b u,h.get? b=some u->h'.get? b=some u):lF P w H h':=fun a o e =>
 (x a o e).stay (fun b u _ q=>k b u q) (fun _ q=>q) fun _ _ q=>q
theorem lF.laid(x:lF P w H h)(k:∀b u,h.get? b=some u->h'.get? b=some u)(hp:h.objs.size<=a)(new:cG P w (upd H a o) h' a o):lF P w (upd H a o) h':=fun b u e=>by
 have hn:=x.fresh hp
 by_cases hb:b=a
 ·subst hb;rw [rf] at e;cases e;exact new
 ·rw [ki hb] at e
  exact (x b u e).stay (fun c v _ q=>k c v q) (fun c q=>by rw [ki (zN q hn)];exact q) fun c xs q=>by rw [ki (zN q hn)];exact q
end
noncomputable def Rd(H:Hp)(a:Addr)(u:HO):Prop:=H a=some u\/∃o,H a=some (.mU o u)
theorem Rd.ok{P:Program}{w:World}{H:Hp}{h:Heap}{a:Addr}{u:HO}(r:Rd H a u)(x:lF P w H h):cG P w H h a u:=by
 rcases r with r|⟨o,r⟩
 ·exact x a u r
 ·obtain ⟨_,q⟩:=x a _ r
  exact q
noncomputable def A4:Option HO->Prop
 |some (.lst _)=>True
 |some (.dK _)=>True
 |some (.dT _)=>True
 |some (.set _ _)=>True
 |some (.ins _ _ _)=>True
 |some (.ext _)=>True
 |_=>False
section
variable {P:Program}{w:World}{H:Hp}{h h':Heap}{x e:Addr}{o':HO}
theorem lF.write(ok:lF P w H h)(mu:A4 (H x))(he:e=x\/H e=some (.own x))(k:∀b u,b≠e->h.get? b=some u->h'.get? b=some u)(zO:∃u,h'.get? e=some u)
  (new:cG P w (upd H x o') h' x o'):lF P w (upd H x o') h':=fun b u q=>by
 have A5:∀c y,H c=some (.own y)->c≠x:=fun c y r z=>by subst z;rw [r] at mu;exact mu
 have He:∀c xs,H c=some (.tup xs)->c≠x:=fun c xs r z=>by subst z;rw [r] at mu;exact mu
 by_cases hb:b=x
 ·subst hb;rw [rf] at q;cases q;exact new
 ·rw [ki hb] at q
  by_cases wU:b=e
  ·have q':H b=some (.own x):=by
    rcases he with z|z
    ·exact absurd (wU.trans z) hb
    ·rw [wU];exact z
   rw [q] at q';cases q';obtain ⟨v,hv⟩:=zO;exact ⟨v,by rw [wU];exact hv⟩
  ·refine (ok b u q).stay (fun c v hc r=>k c v ?_ r) (fun c r=>by rw [ki (A5 c b r)];exact r) fun c xs r=>by rw [ki (He c xs r)];exact r
   rcases hc with rfl|hc
   ·exact wU
   ·rintro rfl
    rcases he with z|z
    ·exact A5 c b hc z
    ·rw [hc] at z;cases z;exact hb rfl
end
structure Un(fs ex:List Addr)(H H':Hp)(h h':Heap):Prop where
 keep:∀b o,h.get? b=some o->H b=none->b ∉ fs->b ∉ ex->h'.get? b=some o
 slot:∀b o,h.get? b=some o->H b=none->b∈fs->b ∉ ex->∃sl,h'.get? b=some { o with slots:=sl }
 free:∀b o,h.get? b=some o->H b=none->b ∉ ex->H' b=none
 there:∀b o,h.get? b=some o->b ∉ ex->∃o',h'.get? b=some o'
 tups:∀b xs,H b=some (.tup xs)->H' b=some (.tup xs)
 n4:∀b o u,H b=some (.mU o u)->H' b=some (.mU o u)
 oU:∀b ps,H b=some (.wQ ps)->∃more,H' b=some (.wQ (ps ++ more))
section
variable {fs fs' ex ex':List Addr}{H H1 H2:Hp}{h h1 h2 h':Heap}{a x e:Addr}{o:HO}
theorem Un.any(u:Un fs ex H H1 h h1){b:Addr}{ob:Obj}(q:h.get? b=some ob)(n:H b=none)(hx:b ∉ ex):∃sl,h1.get? b=some { ob with slots:=sl }:=by
 by_cases hb:b∈fs
 ·exact u.slot b ob q n hb hx
 ·exact ⟨ob.slots,u.keep b ob q n hb hx⟩
theorem Un.kept(k:∀b u,h.get? b=some u->h'.get? b=some u):Un fs ex H H h h' :=
 ⟨fun b ob q _ _ _=>k b ob q,fun b ob q _ _ _=>⟨ob.slots,k b ob q⟩,fun _ _ _ n _=>n,fun b ob q _=>⟨ob,k b ob q⟩,fun _ _ q=>q,fun _ _ _ q=>q,fun _ ps q=>⟨#[],by rw [q];simp⟩⟩
theorem Un.refl:Un fs ex H H h h:=Un.kept fun _ _ q=>q
theorem Un.laid(k:∀b u,h.get? b=some u->h'.get? b=some u)(hp:h.objs.size<=a)(hn:H a=none):Un fs ex H (upd H a o) h h' where
 keep:=fun b u q _ _ _=>k b u q
 slot:=fun b u q _ _ _=>⟨u.slots,k b u q⟩
 free:=fun b u q n _=>by rw [ki (Xf (W0 (WO q) hp))];exact n
 there:=fun b u q _=>⟨u,k b u q⟩
 tups:=fun b xs q=>by rw [ki (zN q hn)];exact q
 n4:=fun b u xs q=>by rw [ki (zN q hn)];exact q
 oU:=fun b ps q=>⟨#[],by rw [ki (zN q hn),q];simp⟩
theorem Un.write(mu:A4 (H x))(he:e=x\/H e=some (.own x))(k:∀b u,b≠e->h.get? b=some u->h'.get? b=some u)(zO:∃u,h'.get? e=some u):Un fs ex H (upd H x o) h h':=by
 have hx:∀b,H b=none->b≠x:=fun b n z=>by subst z;rw [n] at mu;exact mu
 have hb:∀b,H b=none->b≠e:=fun b n z=>by
  subst z;rcases he with r|r
  ·exact hx b n r
  ·rw [n] at r;cases r
 have hm:∀b u,H b=some u->¬A4 (some u)->b≠x:=fun b u q nm z=>by subst z;rw [q] at mu;exact nm mu
 refine ⟨fun b u q n _ _=>k b u (hb b n) q,fun b u q n _ _=>⟨u.slots,k b u (hb b n) q⟩,fun b u q n _=>by rw [ki (hx b n)];exact n,fun b u q _=>?_,
  fun b xs q=>by rw [ki (hm b _ q fun z=>z)];exact q,fun b u xs q=>by rw [ki (hm b _ q fun z=>z)];exact q,fun b ps q=>⟨#[],by rw [ki (hm b _ q fun z=>z),q];simp⟩⟩
 by_cases wU:b=e
 ·subst wU;exact zO
 ·exact ⟨u,k b u wU q⟩
end
noncomputable def EC(h:Heap)(H:Hp):List Addr:=(List.range h.objs.size).filter fun a=>(H a).isSome
noncomputable def n6(h:Heap)(H:Hp):Heap:=PySem.W.hideAll h (EC h H)
theorem OT(h:Heap)(H:Hp):(n6 h H).objs.size=h.objs.size:=PySem.W.hideAll_size _ _
theorem OU{h:Heap}{H:Hp}{b:Addr}{o:Obj}(e:h.get? b=some o)(n:H b=none):(n6 h H).get? b=some o :=
 PySem.W.hideAll_get _ e fun hm=>by
  have q:(H b).isSome=true:=(Yi.mp hm).2;rw [n] at q;simp at q
theorem OV{h:Heap}{H:Hp}{b:Addr}{o:Obj}(e:(n6 h H).get? b=some o):h.get? b=some o/\H b=none:=by
 have e':h.get? b=some o:=PySem.W.of_hideAll (EC h H) e;refine ⟨e',?_⟩;cases q:H b with
 |none=>rfl
 |some x =>
  have hm:b∈EC h H:=Yi.mpr ⟨X4.mpr (WO e'),by simp [q]⟩;have z:(n6 h H).get? b=none:=PySem.W.hideAll_none (EC h H) hm;rw [z] at e;cases e
noncomputable def ua(g h:Heap)(L:Addr):List (Addr×Obj):=(List.range h.objs.size).filterMap fun a=>if a=L\/(g.get? a).isSome=true then none else (h.get? a).map fun o=>(a,o)
noncomputable def rest(g h:Heap)(L d:Addr):List (Addr×Obj):=(ua g h L).filter fun p=>decide (p.1≠d)
structure Mod(K:Zfr)(mg:Str->Option Value)(base:Heap):Prop where
 Hf:K.In base
 glob:base.Ns mainGlobals mg
 blt:∃mb,base.Ns builtinsNs mb/\∀x:Str,x≠"__name__" -> mb x=bootBuiltins x
 nolimit:base.NoLimit
set_option genInjectivity false in
structure Cx where
 prog:Program
 w:World
 K:Zfr
 mg:Str->Option Value
 base:Heap
 A:Around
 N:List Str
 s₀:Shared
 H₀:Hp
 env:Env
 outer:List Env
 stack:List Env
 ex:List Addr
 fn:Str->Bool
 calm:Bool
 pn:List (Addr×Obj)
 xe:Value->Shared->Prop
noncomputable def frs(l:List Env):List Addr:=l.filterMap (·.frame)
abbrev Cx.fs(X:Cx):List Addr:=frs X.outer
noncomputable def Hg(sc:Scope)(x:Str):Prop:=sc.names.lookup x=some .local\/sc.names.lookup x=some .cell\/sc.names.lookup x=some .free
noncomputable def Loc(sc:Scope)(x:Str):Prop:=sc.names.lookup x=some .local\/sc.names.lookup x=some .cell
noncomputable def Look(env:Env)(h:Heap)(m:Str->Option Value)(x:Str)(u:Value):Prop :=
 (env.kindOf x=some .local/\m x=some u)\/((env.kindOf x=some .cell\/env.kindOf x=some .free)/\∃c,env.cells.lookup x=some c/\h.IsCell c (some u))
structure Cx.Ok(X:Cx):Prop where
 mod:Mod X.K X.mg X.base
 kind:X.env.scope.kind=.function
 glob:X.env.globals=mainGlobals
 blt:X.env.builtins=builtinsNs
 above:X.s₀.heap.objs.size<=X.env.locals
 inj:∀x y c,X.env.cells.lookup x=some c->X.env.cells.lookup y=some c->x=y
 has:∀x,(X.env.kindOf x=some .cell\/X.env.kindOf x=some .free)->∃c,X.env.cells.lookup x=some c
 A6:∀x c,X.fn x=true->X.env.cells.lookup x=some c->X.s₀.heap.objs.size<=c
 hd:X.calm=true->X.A.handled=none
 frames:X.A.frames=some X.stack
 stk:X.stack=X.outer\/(X.stack=X.env :: X.outer/\X.env.frame=some X.env.locals)
 Kv:∀b∈X.ex,b≠X.env.locals/\∀x c,X.env.cells.lookup x=some c->c≠b
 bs:∀b o,X.base.get? b=some o->X.s₀.heap.get? b=some o/\X.H₀ b=none
 uV:X.base.objs.size<=X.s₀.heap.objs.size
 rG:∀b o,X.base.get? b=some o->b ∉ X.ex
 ub:∀b∈X.ex,b ∉ X.fs
 mV:X.s₀.heap.FunFrames X.base X.outer
 zP:∀b∈X.fs,X.H₀ b=none
structure Inv(X:Cx)(pins:List (Addr×Obj))(σ:List (Option V))(H:Hp)(s:Shared):Prop where
 ok:X.Ok
 os:s.os=X.s₀.os
 bare:AllBare s.gens
 base:Un X.fs X.ex X.H₀ H X.s₀.heap s.heap
 loc:∃m,s.heap.Ns X.env.locals m/\∀(i:Nat) (x:Str) (v:V),X.N[i]?=some x->σ[i]?=some (some v)->Hg X.env.scope x->∃u,RelV v u/\Look X.env s.heap m x u
 cell:∀x c,X.env.cells.lookup x=some c->∃v,s.heap.IsCell c v
 free:H X.env.locals=none
 kL:∀x c,X.env.cells.lookup x=some c->H c=none
 pin:∀p∈X.pn ++ pins,s.heap.get? p.1=some p.2/\H p.1=none/\p.1≠X.env.locals/\p.1 ∉ X.fs/\∀v,p.2.data≠.cell v
 hok:lF X.prog X.w H s.heap
 len:σ.length=X.N.length
section
variable {X:Cx}{pins:List (Addr×Obj)}{σ:List (Option V)}{H H':Hp}{s:Shared}{h':Heap}
theorem Cx.Ok.Hi(ok:X.Ok){b:Addr}{o:Obj}(e:X.base.get? b=some o):b ∉ X.fs:=fun hb=>by
 have:=(ok.mV.mem hb).1;rw [e] at this;cases this
theorem Inv.bs(I:Inv X pins σ H s):∀b o,X.base.get? b=some o->s.heap.get? b=some o/\H b=none:=fun b o e =>
 ⟨I.base.keep b o (I.ok.bs b o e).1 (I.ok.bs b o e).2 (I.ok.Hi e) (I.ok.rG b o e),I.base.free b o (I.ok.bs b o e).1 (I.ok.bs b o e).2 (I.ok.rG b o e)⟩
theorem Inv.bk(I:Inv X pins σ H s):∀b o,X.base.get? b=some o->s.heap.get? b=some o:=fun b o e=>(I.bs b o e).1
theorem Inv.mod(I:Inv X pins σ H s):Mod X.K X.mg X.base:=I.ok.mod
theorem Inv.zQ(I:Inv X pins σ H s):X.K.In s.heap:=I.ok.mod.Hf.keeps I.bk
theorem Inv.lt(I:Inv X pins σ H s):X.env.locals<s.heap.objs.size:=let ⟨_,hn,_⟩:=I.loc;hn.lt
theorem Inv.sz(I:Inv X pins σ H s):X.s₀.heap.objs.size<=s.heap.objs.size:=WZ I.ok.above (Nat.le_of_lt I.lt)
theorem Inv.A7(I:Inv X pins σ H s){a:Addr}(h:s.heap.objs.size<=a):a ∉ X.fs:=fun hb=>by
 obtain ⟨_,o,ho,_⟩:=I.ok.mV.mem hb;exact absurd (W0 (WO ho) (WZ I.sz h)) (Yf _)
theorem Inv.wV(I:Inv X pins σ H s):∀x c,X.env.cells.lookup x=some c->c≠X.env.locals:=fun x c e z=>by
 obtain ⟨v,o,ho,hd⟩:=I.cell x c e;obtain ⟨m,⟨o',es,ep,ho',hd',_⟩,_⟩:=I.loc;rw [z,ho'] at ho;cases ho;rw [hd'] at hd;cases hd
theorem Inv.mV(I:Inv X pins σ H s):s.heap.FunFrames X.base X.outer:=by
 have all:∀(l:List Env),(∀b∈frs l,b∈X.fs)->X.s₀.heap.FunFrames X.base l->s.heap.FunFrames X.base l:=by
  intro l
  induction l with
  |nil=>intro _ _;trivial
  |cons env r ih =>
   intro hs hl;obtain ⟨hk,⟨L,o,hf,hn,ho,hd⟩,hr⟩:=hl;have hL:L∈X.fs:=hs L (by unfold frs;rw [List.filterMap_cons,hf];exact Wy);obtain ⟨sl,e⟩:=I.base.slot L o ho (I.ok.zP L hL) hL fun z=>I.ok.ub L z hL;exact ⟨hk,⟨L,_,hf,hn,e,hd⟩,ih (fun b hb=>hs b (by unfold frs;rw [List.filterMap_cons,hf];exact WE _ hb)) hr⟩
 exact all X.outer (fun _ hb=>hb) I.ok.mV
theorem Inv.stack(I:Inv X pins σ H s):s.heap.FunFrames X.base X.stack:=by
 rcases I.ok.stk with e|⟨e,hf⟩
 ·rw [e];exact I.mV
 ·rw [e]
  obtain ⟨m,hn,_⟩:=I.loc;refine .cons (by rw [I.ok.kind];decide) hf hn ?_ I.mV;exact Heap.get?_none_of_le (WZ I.ok.uV I.ok.above)
theorem Inv.mW(I:Inv X pins σ H s):∀b∈frs X.stack,b∈X.env.locals :: X.fs:=fun b hb=>by
 rcases I.ok.stk with e|⟨e,hf⟩
 ·rw [e] at hb;exact WE _ hb
 ·rw [e] at hb
  unfold frs at hb;rw [List.filterMap_cons,hf] at hb;exact hb
theorem Inv.pZ(I:Inv X pins σ H s):∀b∈frs X.stack,H b=none:=fun b hb=>by
 rcases WT.mp (I.mW b hb) with e|hb
 ·rw [e];exact I.free
 ·obtain ⟨_,o,ho,_⟩:=I.ok.mV.mem hb
  exact I.base.free b o ho (I.ok.zP b hb) fun z=>I.ok.ub b z hb
theorem Inv.step{g':Array GenState}{t':Nat}{d':Drawn}{ch:List Addr}(I:Inv X pins σ H s)
  (hch:∀b∈ch,(b∈X.ex\/X.s₀.heap.objs.size<=b)/\b≠X.env.locals/\(∀x c,X.env.cells.lookup x=some c->c≠b)/\∀p∈X.pn ++ pins,p.1≠b)
  (keep:∀b o,b≠X.env.locals->b ∉ X.fs->b ∉ ch->s.heap.get? b=some o->H b=none->h'.get? b=some o)
  (slot:∀b o,b≠X.env.locals->b∈X.fs->b ∉ ch->s.heap.get? b=some o->H b=none->∃sl,h'.get? b=some { o with slots:=sl }) (free:∀b o,b ∉ ch->s.heap.get? b=some o->H b=none->H' b=none)
  (there:∀b o,b ∉ ch->s.heap.get? b=some o->∃o',h'.get? b=some o')
  (tups:∀b xs,H b=some (.tup xs)->H' b=some (.tup xs)) (n4:∀b o u,H b=some (.mU o u)->H' b=some (.mU o u)) (oU:∀b ps,H b=some (.wQ ps)->∃more,H' b=some (.wQ (ps ++ more)))
  (ns:∀m,s.heap.Ns X.env.locals m->h'.Ns X.env.locals m) (hok:lF X.prog X.w H' h') (hg:AllBare g') :
  Inv X pins σ H' { s with heap:=h',gens:=g',drawn:=d',toks:=t' }:=by
 have wW:∀b o,X.s₀.heap.get? b=some o->b≠X.env.locals:=fun b o e=>Xf (W0 (WO e) I.ok.above);have ED:∀b o,X.s₀.heap.get? b=some o->b ∉ X.ex->b ∉ ch:=fun b o e hx hb=>by
  rcases (hch b hb).1 with z|z
  ·exact hx z
  ·exact absurd (W0 (WO e) z) (Yf _)
 have cellK:∀x c,X.env.cells.lookup x=some c->∀v,s.heap.IsCell c v->h'.IsCell c v:=fun x c e v ⟨o,ho,hd⟩=>by
  have A8:c ∉ ch:=fun z=>(hch c z).2.2.1 x c e rfl
  by_cases hc:c∈X.fs
  ·obtain ⟨sl,q⟩:=slot c o (I.wV x c e) hc A8 ho (I.kL x c e)
   exact ⟨_,q,hd⟩
  ·exact ⟨o,keep c o (I.wV x c e) hc A8 ho (I.kL x c e),hd⟩
 refine ⟨I.ok,I.os,hg,⟨fun b o e n hb hx=>?_,fun b o e n hb hx=>?_,fun b o e n hx=>?_,fun b o e hx=>?_,fun b xs e=>tups b xs (I.base.tups b xs e),fun b o xs e=>n4 b o xs (I.base.n4 b o xs e),fun b ps e=>?_⟩,?_,fun x c e=>?_,?_,fun x c e=>?_,fun p hp=>?_,hok,I.len⟩
 ·exact keep b o (wW b o e) hb (ED b o e hx) (I.base.keep b o e n hb hx) (I.base.free b o e n hx)
 ·obtain ⟨sl,e1⟩:=I.base.slot b o e n hb hx
  obtain ⟨OW,e2⟩:=slot b _ (wW b o e) hb (ED b o e hx) e1 (I.base.free b o e n hx);exact ⟨OW,e2⟩
 ·obtain ⟨o',e1⟩:=I.base.there b o e hx
  exact free b o' (ED b o e hx) e1 (I.base.free b o e n hx)
 ·obtain ⟨o',e1⟩:=I.base.there b o e hx
  exact there b o' (ED b o e hx) e1
 ·obtain ⟨m1,e1⟩:=I.base.oU b ps e
  obtain ⟨m2,e2⟩:=oU b _ e1;exact ⟨m1 ++ m2,by rw [e2,Array.append_assoc]⟩
 ·obtain ⟨m,hn,hl⟩:=I.loc
  refine ⟨m,ns m hn,fun i x v e1 e2 e3=>?_⟩;obtain ⟨u,r,l⟩:=hl i x v e1 e2 e3;refine ⟨u,r,?_⟩;rcases l with l|⟨k,c,e,z⟩
  ·exact .inl l
  ·exact .inr ⟨k,c,e,cellK x c e _ z⟩
 ·obtain ⟨v,z⟩:=I.cell x c e
  exact ⟨v,cellK x c e v z⟩
 ·obtain ⟨m,⟨o,_,_,ho,_⟩,_⟩:=I.loc
  exact free _ o (fun z=>(hch _ z).2.1 rfl) ho I.free
 ·obtain ⟨v,o,ho,hd⟩:=I.cell x c e
  exact free c o (fun z=>(hch c z).2.2.1 x c e rfl) ho (I.kL x c e)
 ·obtain ⟨e,n,ne,nf,d⟩:=I.pin p hp
  have A8:p.1 ∉ ch:=fun z=>(hch p.1 z).2.2.2 p hp rfl;exact ⟨keep p.1 p.2 ne nf A8 e n,free p.1 p.2 A8 e n,ne,nf,d⟩
theorem Inv.un{t':Nat}(I:Inv X pins σ H s)(u:Un X.fs [] H H' s.heap h')(hok:lF X.prog X.w H' h'):Inv X pins σ H' { s with heap:=h',toks:=t' }:=by
 obtain ⟨m,⟨o,es,ep,ho,r⟩,_⟩:=id I.loc;obtain ⟨sl,hL⟩:=u.any ho I.free (by simp)
 exact I.step (g':=s.gens) (d':=s.drawn) (ch:=[]) (fun _ z=>nomatch z) (fun b o _ hb _ e n=>u.keep b o e n hb (by simp)) (fun b o _ hb _ e n=>u.slot b o e n hb (by simp)) (fun b o _ e n=>u.free b o e n (by simp)) (fun b o _ e=>u.there b o e (by simp)) u.tups u.n4 u.oU (fun m' hm=>by
  obtain ⟨o',es',Hj,ho',r'⟩:=hm;rw [ho] at ho';cases ho'
  exact ⟨_,es',Hj,hL,r'⟩) hok I.bare
theorem Inv.call{g':Array GenState}{t':Nat}{d':Drawn}{ch:List Addr}(I:Inv X pins σ H s)(u:Un (frs X.stack) ch H H' s.heap h')(hok:lF X.prog X.w H' h')(hg:AllBare g')
  (hch:∀b∈ch,(b∈X.ex\/X.s₀.heap.objs.size<=b)/\b≠X.env.locals/\(∀x c,X.env.cells.lookup x=some c->c≠b)/\∀p∈X.pn ++ pins,p.1≠b) :
  Inv X pins σ H' { s with heap:=h',gens:=g',drawn:=d',toks:=t' }:=by
 obtain ⟨m,⟨o,es,ep,ho,r⟩,_⟩:=id I.loc;obtain ⟨sl,hL⟩:=u.any ho I.free fun z=>(hch _ z).2.1 rfl
 exact I.step (ch:=ch) hch (fun b o hL hb hc e n=>u.keep b o e n (fun z=>(WT.mp (I.mW b z)).elim hL hb) hc) (fun b o _ _ hc e n=>u.any e n hc) (fun b o hc e n=>u.free b o e n hc) (fun b o hc e=>u.there b o e hc) u.tups u.n4 u.oU (fun m' hm=>by
  obtain ⟨o',es',Hj,ho',r'⟩:=hm;rw [ho] at ho';cases ho'
  exact ⟨_,es',Hj,hL,r'⟩) hok hg
theorem Inv.turned{t':Nat}{it:Addr}(I:Inv X pins σ H s)(k:∀b o,b≠it->s.heap.get? b=some o->h'.get? b=some o)(hn:H it=none)(hL:it≠X.env.locals)
  (h1:it∈X.ex\/X.s₀.heap.objs.size<=it) (h2:∀x c,X.env.cells.lookup x=some c->c≠it) (h3:∀p∈X.pn ++ pins,p.1≠it):Inv X pins σ H { s with heap:=h',toks:=t' }:=by
 have A9:∀b u,H b=some u->b≠it:=fun b u e z=>by rw [z,hn] at e;cases e
 refine I.step (g':=s.gens) (d':=s.drawn) (ch:=[it]) (fun b hb=>?_) (fun b o _ _ hc e _=>k b o (fun z=>hc (by simp [z])) e) (fun b o _ _ hc e _=>⟨o.slots,k b o (fun z=>hc (by simp [z])) e⟩) (fun _ _ _ _ n=>n)
  (fun b o hc e=>⟨o,k b o (fun z=>hc (by simp [z])) e⟩) (fun _ _ e=>e) (fun _ _ _ e=>e) (fun b ps e=>⟨#[],by rw [e];simp⟩) (fun m hm=>?_) (fun b u e=>?_) I.bare
 ·have e:b=it:=by simpa using hb
  subst e;exact ⟨h1,hL,h2,h3⟩
 ·obtain ⟨o,es,ep,ho,r⟩:=hm
  exact ⟨o,es,ep,k _ o (Ne.symm hL) ho,r⟩
 ·refine (I.hok b u e).stay (fun c v hc q=>k c v ?_ q) (fun _ q=>q) fun _ _ q=>q
  rcases hc with z|z
  ·rw [z];exact A9 b u e
  ·exact A9 c _ z
theorem Inv.tok(I:Inv X pins σ H s)(t:Nat):Inv X pins σ H { s with toks:=t }:=I.un (h':=s.heap) (t':=t) Un.refl I.hok
theorem Inv.kept{t':Nat}(I:Inv X pins σ H s)(k:∀b u,s.heap.get? b=some u->h'.get? b=some u):Inv X pins σ H { s with heap:=h',toks:=t' }:=I.un (Un.kept k) (I.hok.kept k)
theorem Inv.laid{a:Addr}{o:HO}{t':Nat}(I:Inv X pins σ H s)(k:∀b u,s.heap.get? b=some u->h'.get? b=some u)(hp:s.heap.objs.size<=a)(new:cG X.prog X.w (upd H a o) h' a o):
  Inv X pins σ (upd H a o) { s with heap:=h',toks:=t' }:=I.un (Un.laid k hp (I.hok.fresh hp)) (I.hok.laid k hp new)
theorem Inv.write{x e:Addr}{o:HO}{t':Nat}(I:Inv X pins σ H s)(mu:A4 (H x))(he:e=x\/H e=some (.own x))(k:∀b u,b≠e->s.heap.get? b=some u->h'.get? b=some u)(zO:∃u,h'.get? e=some u)
  (new:cG X.prog X.w (upd H x o) h' x o):Inv X pins σ (upd H x o) { s with heap:=h',toks:=t' }:=I.un (Un.write mu he k zO) (I.hok.write mu he k zO new)
theorem Inv.mI{uW:List (Addr×Obj)}(I:Inv X pins σ H s)(h:∀p∈uW,s.heap.get? p.1=some p.2/\H p.1=none/\p.1≠X.env.locals/\p.1 ∉ X.fs/\∀v,p.2.data≠.cell v):Inv X uW σ H s :=
 ⟨I.ok,I.os,I.bare,I.base,I.loc,I.cell,I.free,I.kL,fun p hp=>(WS.mp hp).elim (fun z=>I.pin p (Xw _ z)) (h p),I.hok,I.len⟩
theorem Kw{N:List Str}(hN:N.Nodup){i j:Nat}{x:Str}(a:N[i]?=some x)(b:N[j]?=some x):i=j:=by
 obtain ⟨h1,e1⟩:=Wq.mp a;obtain ⟨h2,e2⟩:=Wq.mp b;exact (List.getElem_inj hN).mp (e1.trans e2.symm)
theorem Kx{M:Model}{A:Around}{E:Value->Shared->Prop}{i:Nat}{x:Str}{v:V}{u:Value}{Q:Unit->Shared->Prop}(I:Inv X pins σ H s)(hN:X.N.Nodup)(hi:X.N[i]?=some x)(hx:Loc X.env.scope x)(r:RelV v u)
  (h:∀s',Inv X pins (σ.set i (some v)) H s'->(∃a,Heap.SameBut a s.heap s'.heap/\(a=X.env.locals\/X.env.cells.lookup x=some a))->Q () s') (hf:X.fn x=true\/X.env.scope.names.lookup x=some .local:=by first|exact .inl rfl|exact .inr rfl|assumption):wpAny M A (storeName X.env x u) Q E s:=by
 obtain ⟨m,hn,hl⟩:=id I.loc;have hcls:(X.env.scope.kind == .class || (X.env.scope.kind == .module && X.env.locals != X.env.globals))=false:=by rw [I.ok.kind];rfl
 have hiσ:i<σ.length:=by rw [I.len];exact (Wq.mp hi).1
 have wV:=I.wV;have tracked:∀{a:Addr} {h':Heap},(∃o,s.heap.get? a=some o/\H a=none)->Heap.SameBut a s.heap h'->lF X.prog X.w H h':=fun {a h'} ha hs b ob e=>by
  obtain ⟨_,_,hfree⟩:=ha;refine (I.hok b ob e).stay (fun c w' hc q=>(hs.2 c ?_).trans q) (fun _ q=>q) fun _ _ q=>q;rintro rfl;rcases hc with rfl|hc
  ·rw [hfree] at e;cases e
  ·rw [hfree] at hc;cases hc
 rcases hx with hk|hk
 ·refine wpAny_storeName_local hk hn (fun h' hn' hs=>?_) hcls
  obtain ⟨oL,_,_,OX,_⟩:=id hn;refine h _ ⟨I.ok,I.os,I.bare,⟨fun b o e n hb hx=>?_,fun b o e n hb hx=>?_,I.base.free,fun b o e hx=>?_,I.base.tups,I.base.n4,I.base.oU⟩,⟨_,hn',fun j y v' e1 e2 e3=>?_⟩,fun y c e=>?_,I.free,I.kL,fun p hp=>?_,tracked ⟨oL,OX,I.free⟩ hs,by simpa using I.len⟩ ⟨_,hs,.inl rfl⟩
  ·exact (hs.2 b (Xf (W0 (WO e) I.ok.above))).trans (I.base.keep b o e n hb hx)
  ·obtain ⟨sl,e1⟩:=I.base.slot b o e n hb hx
   exact ⟨sl,(hs.2 b (Xf (W0 (WO e) I.ok.above))).trans e1⟩
  ·obtain ⟨o',e1⟩:=I.base.there b o e hx
   exact ⟨o',(hs.2 b (Xf (W0 (WO e) I.ok.above))).trans e1⟩
  ·by_cases hj:j=i
   ·subst hj
    rw [hi] at e1;cases e1;rw [Wu hiσ] at e2;cases e2;exact ⟨u,r,.inl ⟨hk,by simp⟩⟩
   ·rw [Wz (Ne.symm hj)] at e2
    obtain ⟨u',r',q⟩:=hl j y v' e1 e2 e3;refine ⟨u',r',?_⟩;rcases q with ⟨k,e⟩|⟨k,c,e,z⟩
    ·refine .inl ⟨k,?_⟩
     have:y≠x:=fun e=>hj (Kw hN e1 (e ▸ hi));simp [this,e]
    ·exact .inr ⟨k,c,e,z.sameBut hs (wV y c e)⟩
  ·obtain ⟨w',z⟩:=I.cell y c e
   exact ⟨w',z.sameBut hs (wV y c e)⟩
  ·obtain ⟨e,n,ne,nf,d⟩:=I.pin p hp
   exact ⟨(hs.2 p.1 ne).trans e,n,ne,nf,d⟩
 ·have hfn:X.fn x=true:=by
   rcases hf with z|z
   ·exact z
   ·rw [z] at hk;cases hk
  obtain ⟨c,hc⟩:=I.ok.has x (.inl hk);obtain ⟨w',z⟩:=I.cell x c hc;refine wpAny_storeName_cell I.ok.kind hk hc z (fun h' hc' hs=>?_);obtain ⟨oc,hoc,Hk⟩:=id z;refine h { s with heap:=h' } ⟨I.ok,I.os,I.bare,⟨fun b o e n hb hx=>?_,fun b o e n hb hx=>?_,I.base.free,fun b o e hx=>?_,I.base.tups,I.base.n4,I.base.oU⟩,⟨m,hn.sameBut hs (Ne.symm (wV x c hc)),fun j y v' e1 e2 e3=>?_⟩,fun y c' e=>?_,I.free,I.kL,fun p hp=>?_,tracked ⟨oc,hoc,I.kL x c hc⟩ hs,by simpa using I.len⟩ ⟨c,hs,.inr hc⟩
  ·exact (hs.2 b (Xf (W0 (WO e) (I.ok.A6 x c hfn hc)))).trans (I.base.keep b o e n hb hx)
  ·obtain ⟨sl,e1⟩:=I.base.slot b o e n hb hx
   exact ⟨sl,(hs.2 b (Xf (W0 (WO e) (I.ok.A6 x c hfn hc)))).trans e1⟩
  ·obtain ⟨o',e1⟩:=I.base.there b o e hx
   exact ⟨o',(hs.2 b (Xf (W0 (WO e) (I.ok.A6 x c hfn hc)))).trans e1⟩
  ·by_cases hj:j=i
   ·subst hj
    rw [hi] at e1;cases e1;rw [Wu hiσ] at e2;cases e2;exact ⟨u,r,.inr ⟨.inl hk,c,hc,hc'⟩⟩
   ·rw [Wz (Ne.symm hj)] at e2
    obtain ⟨u',r',q⟩:=hl j y v' e1 e2 e3;refine ⟨u',r',?_⟩;rcases q with q|⟨k,c',e,z'⟩
    ·exact .inl q
    ·refine .inr ⟨k,c',e,z'.sameBut hs ?_⟩
     rintro rfl;exact hj (Kw hN e1 (I.ok.inj _ _ _ e hc ▸ hi))
  ·by_cases hcc:c'=c
   ·subst hcc;exact ⟨_,hc'⟩
   ·obtain ⟨w2,z2⟩:=I.cell y c' e
    exact ⟨w2,z2.sameBut hs hcc⟩
  ·obtain ⟨e,n,ne,nf,d⟩:=I.pin p hp
   refine ⟨(hs.2 p.1 ?_).trans e,n,ne,nf,d⟩;intro q;rw [q,hoc] at e;have q':oc=p.2:=WD e;exact d w' (by rw [<- q'];exact Hk)
theorem EE{M:Model}{A:Around}{E:Value->Shared->Prop}{i:Nat}{x:Str}{v:V}{u:Value}{Q:Unit->Shared->Prop}(I:Inv X pins σ H s)(hN:X.N.Nodup)(hi:X.N[i]?=some x)(hx:Loc X.env.scope x)(r:RelV v u)
  (h:∀s',Inv X pins (σ.set i (some v)) H s'->Q () s') (hf:X.fn x=true\/X.env.scope.names.lookup x=some .local:=by first|exact .inl rfl|exact .inr rfl|assumption):wpAny M A (storeName X.env x u) Q E s :=
 Kx I hN hi hx r (fun s' I' _=>h s' I') hf
theorem Inv.Ba{s':Shared}{ch:List Addr}(I:Inv X pins σ H s)(ho:s'.os=s.os)(u:Un (frs X.stack) ch H H' s.heap s'.heap)(hok:lF X.prog X.w H' s'.heap)(hg:AllBare s'.gens)
  (hch:∀b∈ch,(b∈X.ex\/X.s₀.heap.objs.size<=b)/\b≠X.env.locals/\(∀x c,X.env.cells.lookup x=some c->c≠b)/\∀p∈X.pn ++ pins,p.1≠b):Inv X pins σ H' s':=by
 obtain ⟨h',g',d',t',o'⟩:=s';have e:o'=s.os:=ho;subst e;exact I.call (g':=g') (t':=t') (d':=d') u hok hg hch
end
abbrev XK:=Value->Option Addr->Hp->Prop
abbrev St:=List (Option V)
abbrev VK:=V->Hp->Prop
abbrev TE:=St->Hp->VK->Prop
abbrev TT:=St->Hp->(Bool->Hp->Prop)->Prop
abbrev TA:=St->Hp->(List V->Hp->Prop)->Prop
set_option genInjectivity false in
structure Ends where
 nx:St->Hp->Prop
 rt:VK
 bk:St->Hp->Prop:=fun _ _=>False
 ct:St->Hp->Prop:=fun _ _=>False
abbrev TS:=Ends->St->Hp->Prop
noncomputable def EP(X:Cx)(pins:List (Addr×Obj))(σ:St)(Q:VK)(u:Value)(s':Shared):Prop:=∃v H',Inv X pins σ H' s'/\RelV v u/\Q v H'
noncomputable def TP(X:Cx)(pins:List (Addr×Obj))(σ:St)(Q:Bool->Hp->Prop)(b:Bool)(s':Shared):Prop:=∃H',Inv X pins σ H' s'/\Q b H'
noncomputable def AP(X:Cx)(pins:List (Addr×Obj))(σ:St)(Q:List V->Hp->Prop)(us:List Value)(s':Shared):Prop:=∃vs H',Inv X pins σ H' s'/\Vals vs us/\Q vs H'
noncomputable def SP(X:Cx)(pins:List (Addr×Obj))(D:Ends)(f:Flow)(s':Shared):Prop :=
 match f with
 |.next=>∃σ' H',Inv X pins σ' H' s'/\D.nx σ' H'
 |.brk=>∃σ' H',Inv X pins σ' H' s'/\D.bk σ' H'
 |.cont=>∃σ' H',Inv X pins σ' H' s'/\D.ct σ' H'
 |.ret u=>∃v σ' H',Inv X pins σ' H' s'/\RelV v u/\D.rt v H'
noncomputable def PE(X:Cx)(e:Expr)(t:TE):Prop :=
 ∀(pins:List (Addr×Obj)) (s:Shared) (σ:St) (H:Hp) (Q:VK),Inv X pins σ H s->t σ H Q->wpAny (model X.prog X.w) X.A (eval e X.env) (EP X pins σ Q) X.xe s
noncomputable def PT(X:Cx)(e:Expr)(t:TT):Prop :=
 ∀(pins:List (Addr×Obj)) (s:Shared) (σ:St) (H:Hp) (Q:Bool->Hp->Prop),Inv X pins σ H s->t σ H Q->wpAny (model X.prog X.w) X.A (isTrue e X.env (eval e X.env)) (TP X pins σ Q) X.xe s
noncomputable def PW(X:Cx)(e:Expr)(t:TT):Prop :=
 ∀(whole:Sem Value) (pins:List (Addr×Obj)) (s:Shared) (σ:St) (H:Hp) (Q:Bool->Hp->Prop),Inv X pins σ H s->t σ H Q->wpAny (model X.prog X.w) X.A (isTrue e X.env whole) (TP X pins σ Q) X.xe s
theorem PW.pt{X:Cx}{e:Expr}{t:TT}(h:PW X e t):PT X e t:=h _
noncomputable def PA(X:Cx)(es:List Expr)(t:TA):Prop :=
 ∀(pos:Pos) (pins:List (Addr×Obj)) (s:Shared) (σ:St) (H:Hp) (Q:List V->Hp->Prop),Inv X pins σ H s->t σ H Q->wpAny (model X.prog X.w) X.A (spliced (backTo pos (starEach es X.env))) (AP X pins σ Q) X.xe s
noncomputable def PS(X:Cx)(st:Stmt)(t:TS):Prop :=
 ∀(pins:List (Addr×Obj)) (s:Shared) (σ:St) (H:Hp) (D:Ends),Inv X pins σ H s->t D σ H->wpAny (model X.prog X.w) X.A (exec st X.env) (SP X pins D) X.xe s
noncomputable def p4(X:Cx)(st:List Stmt)(t:TS):Prop :=
 ∀(pins:List (Addr×Obj)) (s:Shared) (σ:St) (H:Hp) (D:Ends),Inv X pins σ H s->t D σ H->wpAny (model X.prog X.w) X.A (execs st X.env) (SP X pins D) X.xe s
theorem c6{α:Type}{t:Sem α}{Q Q':α->Shared->Prop}{M:Model}{A:Around}{E:Value->Shared->Prop}{s:Shared}(h:wpAny M A t Q E s)(hQ:∀a s,Q a s->Q' a s):wpAny M A t Q' E s:=wpAny_mono h hQ fun _ _ x=>x
section
variable {X:Cx}
noncomputable def wX(i:Nat):TE:=fun σ H Q=>∃v,σ[i]?=some (some v)/\Q v H
noncomputable def tC(v:V):TE:=fun _ H Q=>Q v H
theorem wY{i:Nat}{x:Str}{pos:Pos}(hN:X.N[i]?=some x)(hv:Hg X.env.scope x)(hd:(x == ("__debug__" : Str))=false:=by decide)(hcd:(x == ("__classdict__" : Str))=false:=by decide):PE X (.Name x pos) (wX i):=by
 intro pins s σ H Q I h;obtain ⟨v,e,h⟩:=h;obtain ⟨m,hn,hl⟩:=I.loc;obtain ⟨u,r,l⟩:=hl i x v hN e hv;have fin:EP X pins σ Q u s:=⟨v,H,I,r,h⟩;rcases l with ⟨hk,hm⟩|⟨hk,c,hc,hcell⟩
 ·exact wpAny_Name (wpAny_loadName_local I.ok.kind hk hn hm fin) hd
 ·rcases hk with hk|hk
  ·exact wpAny_Name (wpAny_loadName_cell I.ok.kind hk hc hcell fin) hd
  ·exact wpAny_Name (wpAny_loadName_free I.ok.kind hk hc hcell fin hcd) hd
theorem aP{i j pos}:PE X (.Constant (.int i) j pos) (tC (.int i)):=fun _ _ _ H _ I h=>wpAny_Constant_int ⟨.int i,H,I.tok _,⟨_,rfl⟩,h⟩
theorem rH{b j pos}:PE X (.Constant (.bool b) j pos) (tC (.bl b)):=fun _ _ _ H _ I h=>Constant_bool ⟨.bl b,H,I,rfl,h⟩
theorem Ky{j pos}:PE X (.Constant .none j pos) (tC .non):=fun _ _ _ H _ I h=>Constant_none ⟨.non,H,I,rfl,h⟩
theorem p5{x j pos}:PE X (.Constant (.str x) j pos) (tC (.str x)):=fun _ _ _ H _ I h=>Calls.Constant_str ⟨.str x,H,I.tok _,⟨_,rfl⟩,h⟩
noncomputable def Gl(X:Cx)(x:Str):Prop:=X.env.kindOf x=some .globalImplicit
theorem Kz{E:Value->Shared->Prop}{pins:List (Addr×Obj)}{s:Shared}{σ:St}{H:Hp}{x:Str}{u:Value}{pos:Pos}{Q:Value->Shared->Prop}(I:Inv X pins σ H s)(hg:Gl X x)(hm:X.mg x=some u)(h:Q u s)
  (hd:(x == ("__debug__" : Str))=false:=by decide):wpAny (model X.prog X.w) X.A (eval (.Name x pos) X.env) Q E s :=
 Calls.Name_function_global I.ok.kind hg (Calls.loadGlobal_global (by rw [I.ok.glob];exact I.mod.glob.keeps I.bk) hm h) hd
theorem zS{E:Value->Shared->Prop}{pins:List (Addr×Obj)}{s:Shared}{σ:St}{H:Hp}{x:Str}{u:Value}{pos:Pos}{Q:Value->Shared->Prop}(I:Inv X pins σ H s)(hg:Gl X x)(hm:X.mg x=none)(hv:bootBuiltins x=some u)(h:Q u s)
  (hn:x≠"__name__" := by decide) (hd:(x == ("__debug__" : Str))=false:=by decide):wpAny (model X.prog X.w) X.A (eval (.Name x pos) X.env) Q E s:=by
 obtain ⟨mb,h1,h2⟩:=I.mod.blt;exact Calls.Name_function_global I.ok.kind hg (Calls.loadGlobal_builtin (by rw [I.ok.glob];exact I.mod.glob.keeps I.bk) hm (by rw [I.ok.blt];exact h1.keeps I.bk) ((h2 x hn).trans hv) h) hd
theorem OY{x:Str}{v:V}{u:Value}{pos:Pos}(hg:Gl X x)(hm:X.mg x=some u)(r:RelV v u)(hd:(x == ("__debug__" : Str))=false:=by decide):PE X (.Name x pos) (tC v) :=
 fun _ _ _ H _ I h=>Kz I hg hm ⟨v,H,I,r,h⟩ hd
theorem KA{x:Str}{v:V}{u:Value}{pos:Pos}(hg:Gl X x)(hm:X.mg x=none)(hv:bootBuiltins x=some u)(r:RelV v u)(hn:x≠"__name__" := by decide)(hd:(x == ("__debug__" : Str))=false:=by decide):PE X (.Name x pos) (tC v) :=
 fun _ _ _ H _ I h=>zS I hg hm hv ⟨v,H,I,r,h⟩ hn hd
variable {a b:Expr}{ta tb:TE}{pos:Pos}
noncomputable def PC(X:Cx)(op:CmpOp)(a b:Expr)(t:TE):Prop :=
 ∀(pins:List (Addr×Obj)) (s:Shared) (σ:St) (H:Hp) (Q:VK),Inv X pins σ H s->t σ H Q ->
  wpAny (model X.prog X.w) X.A (eval a X.env) (fun v s₁=>wpAny (model X.prog X.w) X.A (eval b X.env) (fun u s₂=>wpAny (model X.prog X.w) X.A (compareOp op v u) (EP X pins σ Q) X.xe s₂) X.xe s₁) X.xe s
theorem rJ(b:Expr){op:CmpOp}(h:op≠.In)(h2:op≠.NotIn):behindInMarks op b=false:=by
 have e1:(op == CmpOp.In)=false:=by cases op<;>first|rfl|exact absurd rfl h
 have e2:(op == CmpOp.NotIn)=false:=by cases op<;>first|rfl|exact absurd rfl h2
 cases b<;>simp [behindInMarks,e1,e2]
noncomputable def tB(t:TE):TT:=fun σ H Q=>t σ H fun x H1=>∃c,x=.bl c/\Q c H1
theorem wZ{op:CmpOp}{t:TE}(h:PC X op a b t)(h1:behindInMarks op b=false:=by first|exact rJ _ (by decide) (by decide)|rfl):PT X (.Compare a [op] [b] pos) (tB t):=by
 intro pins s σ H Q I hw;refine wpAny_isTrue_Compare1 (c6 (h pins s σ H _ I hw) fun v s1 h1=>c6 h1 fun u s2 h2=>c6 h2 fun c s3 ⟨x,H1,I1,r1,q1⟩=>?_) h1;obtain ⟨d,rfl,q⟩:=q1;cases r1;exact wpAny_truthy_bool ⟨H1,I1,q⟩
theorem KC{e:Expr}{t:TE}(h:PE X e t)(he:∀whole,isTrue e X.env whole=(do let v <- whole;standAt e.pos;holding [v] (truthy v)):=by intro _;rfl):PT X e (tB t):=by
 intro pins s σ H Q I hw;refine isTrue_plain (c6 (h pins s σ H _ I hw) fun v s1 ⟨x,H1,I1,r1,q1⟩=>?_) (he _);obtain ⟨d,rfl,q⟩:=q1;cases r1;exact wpAny_truthy_bool ⟨H1,I1,q⟩
variable {tA EF:TT}{rest:List Expr}
noncomputable def Bb(t u:TT):TT:=fun σ H Q=>t σ H fun c H1=>if c=true then u σ H1 Q else Q false H1
noncomputable def KD(t u:TT):TT:=fun σ H Q=>t σ H fun c H1=>if c=true then Q true H1 else u σ H1 Q
noncomputable def Bc(t:TT):TT:=fun σ H Q=>t σ H fun c H1=>Q (!c) H1
theorem Hl(ha:PT X a tA):PW X (.BoolOp .And [a] pos) tA:=by
 intro wh pins s σ H Q I h;refine isTrue_and (c6 (ha pins s σ H Q I h) fun c s1 e=>?_);cases c with
 |true=>exact isTrue_and_nil e
 |false=>exact e
theorem zT(ha:PT X a tA):PW X (.BoolOp .Or [a] pos) tA:=by
 intro wh pins s σ H Q I h;refine isTrue_or (c6 (ha pins s σ H Q I h) fun c s1 e=>?_);cases c with
 |false=>exact isTrue_or_nil e
 |true=>exact e
theorem Hm(ha:PT X a tA)(hb:PW X (.BoolOp .And (b :: rest) pos) EF):PW X (.BoolOp .And (a :: b :: rest) pos) (Bb tA EF):=by
 intro wh pins s σ H Q I h;refine isTrue_and (c6 (ha pins s σ H _ I h) fun c s1 ⟨H1,I1,q1⟩=>?_);cases c with
 |true=>exact hb wh pins s1 σ H1 Q I1 q1
 |false=>exact ⟨H1,I1,q1⟩
theorem w4(ha:PT X a tA)(hb:PW X (.BoolOp .Or (b :: rest) pos) EF):PW X (.BoolOp .Or (a :: b :: rest) pos) (KD tA EF):=by
 intro wh pins s σ H Q I h;refine isTrue_or (c6 (ha pins s σ H _ I h) fun c s1 ⟨H1,I1,q1⟩=>?_);cases c with
 |true=>exact ⟨H1,I1,q1⟩
 |false=>exact hb wh pins s1 σ H1 Q I1 q1
theorem KG(ha:PT X a tA):PT X (.UnaryOp .Not a pos) (Bc tA):=by
 intro pins s σ H Q I h;exact isTrue_not (ha pins s σ H (fun c H1=>Q (!c) H1) I h)
noncomputable def uX(ta tb:TE):TE:=fun σ H Q=>ta σ H fun x H1=>∃c,x=.bl c/\if c=true then tb σ H1 Q else Q (.bl false) H1
theorem Hn{op}{t:TE}(h:PE X a t):PE X (.BoolOp op [a] pos) t:=fun pins s σ H Q I hw=>BoolOp_one (h pins s σ H Q I hw)
theorem EG(ha:PE X a ta)(hb:PE X (.BoolOp .And (b :: rest) pos) tb):PE X (.BoolOp .And (a :: b :: rest) pos) (uX ta tb):=by
 intro pins s σ H Q I h;refine BoolOp_and (c6 (ha pins s σ H _ I h) fun v s1 ⟨x,H1,I1,r1,q1⟩=>?_);obtain ⟨c,rfl,q1⟩:=q1;cases r1;refine wpAny_truthy_bool ?_;cases c with
 |true=>exact hb pins s1 σ H1 Q I1 q1
 |false=>exact ⟨.bl false,H1,I1,rfl,q1⟩
end
noncomputable def kj(K:Zfr)(H:Hp)(a:Addr)(xs:List V):Prop :=
 Rd H a (.lst xs) \/
  ∃(o:Obj) (its:Array Value) (n:Nat),K.lookup a=some o/\o.cls=.type "list" /\ o.dict=none/\o.data=.seq its n/\its.size<=sizeLine/\Vals xs its.toList
noncomputable def fS(K:Zfr)(H:Hp)(a:Addr)(xs:List V):Prop :=
 Rd H a (.tup xs) \/
  ∃(o:Obj) (its:Array Value) (n:Nat),K.lookup a=some o/\o.cls=.type "tuple" /\ o.dict=none/\o.data=.seq its n/\its.size<=sizeLine/\Vals xs its.toList
noncomputable def Ho:Value->Option V
 |.none=>some .non
 |.bool b=>some (.bl b)
 |.int i _=>some (.int i)
 |.str x _=>some (.str x)
 |.bytes b _=>some (.rF b)
 |.float b _=>some (.zM b)
 |.ref a=>some (.ref a)
 |.type n=>some (.ty n)
 |_=>none
theorem RelV.abs{x:V}{u:Value}(r:RelV x u):Ho u=some x:=by
 cases x with
 |non=>cases r;rfl
 |bl _=>cases r;rfl
 |int _=>obtain ⟨t,rfl⟩:=r;rfl
 |str _=>obtain ⟨t,rfl⟩:=r;rfl
 |rF _=>obtain ⟨t,rfl⟩:=r;rfl
 |zM _=>obtain ⟨t,rfl⟩:=r;rfl
 |ref _=>cases r;rfl
 |ty _=>cases r;rfl
theorem RelV.inj{x y:V}{u:Value}(r:RelV x u)(q:RelV y u):x=y:=WD (r.abs.symm.trans q.abs)
theorem Vals.inj:∀{xs ys:List V} {us:List Value},Vals xs us->Vals ys us->xs=ys
 |_,_,_,.nil,.nil=>rfl
 |_,_,_,.cons r t,.cons r' t'=>by rw [r.inj r',Vals.inj t t']
section
variable {X:Cx}{pins:List (Addr×Obj)}{σ:St}{H:Hp}{s:Shared}{a:Addr}{xs ys:List V}
theorem fS.of{K:Zfr}(h:H a=some (.tup xs)):fS K H a xs:=.inl (.inl h)
theorem Inv.list(I:Inv X pins σ H s)(h:kj X.K H a xs):∃its:List Value,Vals xs its/\PlainL s.heap a its.toArray/\xs.length<=sizeLine:=by
 rcases h with h|⟨o,its,n,hk,hc,hd,hs,hz,r⟩
 ·obtain ⟨z,its,n,r,e⟩:=h.ok I.hok
  exact ⟨its,r,⟨_,n,e,rfl,rfl,rfl⟩,z⟩
 ·refine ⟨its.toList,r,⟨o,n,I.zQ a o hk,hc,hd,by simpa using hs⟩,?_⟩
  have e:=r.length;simp only [Array.length_toList] at e;omega
theorem Inv.n8(I:Inv X pins σ H s)(h:fS X.K H a xs):∃its:List Value,Vals xs its/\nZ s.heap a its.toArray/\xs.length<=sizeLine:=by
 rcases h with h|⟨o,its,n,hk,hc,hd0,hs,hz,r⟩
 ·obtain ⟨z,its,r,p⟩:=h.ok I.hok
  exact ⟨its,r,p,z⟩
 ·refine ⟨its.toList,r,⟨o,I.zQ a o hk,hc,hd0,n,by simpa using hs⟩,?_⟩
  have e:=r.length;simp only [Array.length_toList] at e;omega
theorem Inv.tuple(I:Inv X pins σ H s)(h:fS X.K H a xs):∃its:List Value,Vals xs its/\IsTup s.heap a its.toArray/\xs.length<=sizeLine :=
 let ⟨its,r,p,z⟩:=I.n8 h
 ⟨its,r,p.tup,z⟩
theorem Inv.rK(I:Inv X pins σ H s)(h:kj X.K H a xs)(h':kj X.K H a ys):xs=ys:=by
 obtain ⟨its,r,⟨o,n,e,_,_,d⟩,_⟩:=I.list h;obtain ⟨its',r',⟨o',n',e',_,_,d'⟩,_⟩:=I.list h';rw [e] at e';cases e';rw [d] at d';injection d' with d1 _;have:its=its':=by simpa using congrArg Array.toList d1
 subst this;exact r.inj r'
theorem Inv.nO(I:Inv X pins σ H s)(h:fS X.K H a xs)(h':fS X.K H a ys):xs=ys:=by
 obtain ⟨its,r,⟨o,e,_,n,d⟩,_⟩:=I.tuple h;obtain ⟨its',r',⟨o',e',_,n',d'⟩,_⟩:=I.tuple h';rw [e] at e';cases e';rw [d] at d';injection d' with d1 _;have:its=its':=by simpa using congrArg Array.toList d1
 subst this;exact r.inj r'
end
abbrev Cx.wish(X:Cx)(E:Value->Shared->Prop):Cx:={ X with xe:=E }
abbrev Cx.nA(X:Cx):Cx:=X.wish fun _ _=>False
theorem Cx.Ok.wish{X:Cx}(ok:X.Ok)(E:Value->Shared->Prop):(X.wish E).Ok :=
 ⟨ok.mod,ok.kind,ok.glob,ok.blt,ok.above,ok.inj,ok.has,ok.A6,ok.hd,ok.frames,ok.stk,ok.Kv,ok.bs,ok.uV,ok.rG,ok.ub,ok.mV,ok.zP⟩
theorem Cx.Ok.jQ{X:Cx}{E:Value->Shared->Prop}(ok:(X.wish E).Ok):X.Ok :=
 ⟨ok.mod,ok.kind,ok.glob,ok.blt,ok.above,ok.inj,ok.has,ok.A6,ok.hd,ok.frames,ok.stk,ok.Kv,ok.bs,ok.uV,ok.rG,ok.ub,ok.mV,ok.zP⟩
section
variable {X:Cx}{pins:List (Addr×Obj)}{σ:St}{H:Hp}{s:Shared}{E:Value->Shared->Prop}
theorem Inv.wish(I:Inv X pins σ H s)(E:Value->Shared->Prop):Inv (X.wish E) pins σ H s:=⟨I.ok.wish E,I.os,I.bare,I.base,I.loc,I.cell,I.free,I.kL,I.pin,I.hok,I.len⟩
theorem Inv.jQ(I:Inv (X.wish E) pins σ H s):Inv X pins σ H s:=⟨I.ok.jQ,I.os,I.bare,I.base,I.loc,I.cell,I.free,I.kL,I.pin,I.hok,I.len⟩
theorem SP.jQ{D:Ends}{f:Flow}{s':Shared}(h:SP (X.wish E) pins D f s'):SP X pins D f s':=by
 cases f with
 |next=>obtain ⟨σ',H',I,q⟩:=h;exact ⟨σ',H',I.jQ,q⟩
 |brk=>obtain ⟨σ',H',I,q⟩:=h;exact ⟨σ',H',I.jQ,q⟩
 |cont=>obtain ⟨σ',H',I,q⟩:=h;exact ⟨σ',H',I.jQ,q⟩
 |ret u=>obtain ⟨v,σ',H',I,r,q⟩:=h;exact ⟨v,σ',H',I.jQ,r,q⟩
theorem p4.nA{st:List Stmt}{t:TS}(h:p4 X.nA st t):p4 X st t:=fun pins s σ H D I hw =>
 wpAny_mono (h pins s σ H D (I.wish _) hw) (fun _ _ q=>q.jQ) fun _ _ z=>False.elim z
end
section
variable {X:Cx}{st:Stmt}{rest:List Stmt}{t u:TS}{e:Expr}{te:TE}{pos:Pos}
noncomputable def uY:TS:=fun D σ H=>D.nx σ H
noncomputable def Bd(t u:TS):TS:=fun D σ H=>t { D with nx:=u D } σ H
theorem gT:p4 X [] uY:=fun _ _ σ H _ I h=>wpAny_execs_nil ⟨σ,H,I,h⟩
theorem a6(h1:PS X st t)(h2:p4 X rest u):p4 X (st :: rest) (Bd t u):=by
 intro pins s σ H D I h;refine wpAny_execs_cons (c6 (h1 pins s σ H { D with nx:=u D } I h) fun f s1 q=>?_);cases f with
 |next =>
  obtain ⟨σ',H',I',q⟩:=q;exact h2 pins s1 σ' H' D I' q
 |ret v=>exact q
 |brk=>exact q
 |cont=>exact q
theorem bE(h1:PS X st t):p4 X [st] t:=by
 intro pins s σ H D I h;refine wpAny_execs_cons (c6 (h1 pins s σ H D I h) fun f s1 q=>?_);cases f with
 |next=>exact wpAny_execs_nil q
 |ret v=>exact q
 |brk=>exact q
 |cont=>exact q
theorem Inv.quiet{pins:List (Addr×Obj)}{σ:St}{H:Hp}{s:Shared}(I:Inv X pins σ H s):interactive X.env=false:=by simp [interactive,I.ok.kind]
noncomputable def uZ(te:TE):TS:=fun D σ H=>te σ H fun _ H1=>D.nx σ H1
theorem mJ(he:PE X e te)(hs:swapsWith e none pos.line X.env=pure false:=by rfl):PS X (.Expr e pos) (uZ te):=by
 intro pins s σ H D I h;exact wpAny_Expr_any (c6 (he pins s σ H _ I h) fun v s1 ⟨x,H1,I1,r1,q1⟩=>⟨σ,H1,I1,q1⟩) I.quiet hs
noncomputable def Be(te:TE):TS:=fun D σ H=>te σ H D.rt
theorem eV(he:PE X e te):PS X (.Return (some e) pos) (Be te):=by
 intro pins s σ H D I h;exact wpAny_Return_some (c6 (he pins s σ H _ I h) fun v s1 ⟨x,H1,I1,r1,q1⟩=>⟨x,σ,H1,I1,r1,q1⟩)
noncomputable def Bf(c:TT)(t u:TS):TS:=fun D σ H=>c σ H fun b H1=>if b=true then t D σ H1 else u D σ H1
theorem fW{c:Expr}{a b:List Stmt}{tc:TT}(hc:PT X c tc)(ha:p4 X a t)(hb:p4 X b u):PS X (.If c a b pos) (Bf tc t u):=by
 intro pins s σ H D I h;refine wpAny_If (c6 (hc pins s σ H _ I h) fun d s1 ⟨H1,I1,q1⟩=>?_);cases d with
 |true=>exact ha pins s1 σ H1 D I1 q1
 |false=>exact hb pins s1 σ H1 D I1 q1
noncomputable def rL:TS:=fun _ _ _=>False
theorem OZ:PS X st rL:=fun _ _ _ _ _ _ h=>h.elim
end
abbrev TG:=V->St->Hp->(St->Hp->Prop)->Prop
abbrev tq:=List V->St->Hp->(St->Hp->Prop)->Prop
noncomputable def PG(X:Cx)(target:Expr)(t:TG):Prop :=
 ∀(pins:List (Addr×Obj)) (s:Shared) (σ:St) (H:Hp) (v:V) (u:Value) (Q:St->Hp->Prop),Inv X pins σ H s->RelV v u->t v σ H Q ->
  wpAny (model X.prog X.w) X.A (assign target X.env u) (fun _ s'=>∃σ' H',Inv X pins σ' H' s'/\Q σ' H') X.xe s
noncomputable def EH(X:Cx)(ts:List Expr)(t:tq):Prop :=
 ∀(pins:List (Addr×Obj)) (s:Shared) (σ:St) (H:Hp) (vs:List V) (us:List Value) (Q:St->Hp->Prop),Inv X pins σ H s->Vals vs us->t vs σ H Q ->
  wpAny (model X.prog X.w) X.A (assignInOrder ((assignEach ts X.env).map (·.2)) us) (fun _ s'=>∃σ' H',Inv X pins σ' H' s'/\Q σ' H') X.xe s
abbrev w6:=V->V->V->Hp->(Hp->Prop)->Prop
noncomputable def Bg(X:Cx)(t:w6):Prop :=
 ∀(pins:List (Addr×Obj)) (s:Shared) (σ:St) (H:Hp) (o i v:V) (ov iv u:Value) (Q:Hp->Prop),Inv X pins σ H s->RelV o ov->RelV i iv->RelV v u->t o i v H Q ->
  wpAny (model X.prog X.w) X.A (setItem ov iv u) (fun _ s'=>∃H',Inv X pins σ H' s'/\Q H') X.xe s
section
variable {X:Cx}{pos:Pos}
noncomputable def oV(i:Nat):TG:=fun v σ H Q=>Q (σ.set i (some v)) H
theorem dC{i:Nat}{x:Str}(hN:X.N.Nodup)(hi:X.N[i]?=some x)(hx:Loc X.env.scope x)(hf:X.fn x=true\/X.env.scope.names.lookup x=some .local:=by first|exact .inl rfl|exact .inr rfl|assumption):PG X (.Name x pos) (oV i):=by
 intro pins s σ H v u Q I r h;exact wpAny_assign_Name (EE I hN hi hx r (fun s' I'=>⟨_,H,I',h⟩) hf)
noncomputable def Bh:tq:=fun vs σ H Q=>vs=[]/\Q σ H
noncomputable def u3(t:TG)(u:tq):tq:=fun vs σ H Q=>∃v r,vs=v :: r/\t v σ H fun σ' H'=>u r σ' H' Q
theorem p6:EH X [] Bh:=by
 intro pins s σ H vs us Q I r h;obtain ⟨e,h⟩:=h;subst e;cases r;exact assignInOrder_nil ⟨σ,H,I,h⟩
theorem kl{e:Expr}{es:List Expr}{t:TG}{u:tq}(h1:PG X e t)(h2:EH X es u)
  (hs:(assignEach (e :: es) X.env).map (·.2)=assign e X.env :: (assignEach es X.env).map (·.2):=by rfl):EH X (e :: es) (u3 t u):=by
 intro pins s σ H vs us Q I r h;obtain ⟨v,vr,e1,h⟩:=h;subst e1;cases r with
 |cons r rr =>
  rw [hs];refine assignInOrder_cons (c6 (h1 pins s σ H _ _ _ I r h) fun _ s1 ⟨σ1,H1,I1,q1⟩=>?_);exact h2 pins s1 σ1 H1 _ _ Q I1 rr q1
noncomputable def Bi(K:Zfr)(n:Nat)(t:tq):TG:=fun v σ H Q=>∃a xs,v=.ref a/\fS K H a xs/\xs.length=n/\t xs σ H Q
theorem p7{es:List Expr}{k:Nat}{t:tq}{n:Nat}(hc:X.calm=true)(h:EH X es t)
  (hn:(assignEach es X.env).length=n:=by rfl) (hst:(assignEach es X.env).findIdx? (·.1)=none:=by rfl):PG X (.Tuple es k pos) (Bi X.K n t):=by
 intro pins s σ H v u Q I r hw;obtain ⟨a,xs,e1,hq,hl,hw⟩:=hw;subst e1;cases r;obtain ⟨its,rv,ht,hz⟩:=I.tuple hq;refine assign_Tuple_tuple (I.ok.hd hc) ht (by simp [hn,<- hl,rv.length]) hst fun h' hx=>?_;have I1:Inv X pins σ H { s with heap:=h' }:=I.kept (t':=s.toks) fun b o e=>hx b o (Xf (WO e)) e;exact h pins _ σ H xs _ Q I1 (by simpa using rv) hw
noncomputable def mX(to ti:TE)(t:w6):TG:=fun v σ H Q=>to σ H fun o H1=>ti σ H1 fun i H2=>t o i v H2 fun H3=>Q σ H3
theorem pF{o i:Expr}{to ti:TE}{t:w6}(ho:PE X o to)(hi:PE X i ti)(hs:Bg X t)
  (ha:∀v,assign (.Subscript o i pos) X.env v=(do
   let ov <- holding [v] (eval o X.env)
   let iv <- holding [v,ov] (eval i X.env)
   standAt pos
   holding [v,ov,iv] (setItem ov iv v)
   release [v,ov,iv] []):=by intro _;rfl):PG X (.Subscript o i pos) (mX to ti t):=by
 intro pins s σ H v u Q I r h;rw [ha];refine wpAny_bind (wpAny_holding (c6 (ho pins s σ H _ I h) fun ov s1 ⟨x,H1,I1,r1,q1⟩=>?_));refine wpAny_bind (wpAny_holding (c6 (hi pins s1 σ H1 _ I1 q1) fun iv s2 ⟨y,H2,I2,r2,q2⟩=>?_));refine wpAny_bind (wpAny_standAt (wpAny_bind (wpAny_holding (c6 (hs pins s2 σ H2 x y v ov iv u _ I2 r1 r2 r q2) fun _ s3 ⟨H3,I3,q3⟩=>?_))));exact wpAny_release ⟨σ,H3,I3,q3⟩
noncomputable def uc(te:TE)(g:TG):TS:=fun D σ H=>te σ H fun x H1=>g x σ H1 D.nx
theorem oM{tg e:Expr}{te:TE}{g:TG}(he:PE X e te)(hg:PG X tg g)(hs:swapsWithSole [tg] e pos.line X.env=pure false:=by rfl)(hw:swappedStores [tg] e X.env=pure none:=by rfl)
  (h1:(assignEach [tg] X.env).map (·.2)=[assign tg X.env]:=by rfl):PS X (.Assign [tg] e pos) (uc te g):=by
 intro pins s σ H D I h;refine wpAny_Assign_stores (c6 (he pins s σ H _ I h) fun v s1 ⟨x,H1,I1,r1,q1⟩=>?_) hs hw;rw [h1];exact c6 (hg pins s1 σ H1 x v _ I1 r1 q1) fun _ s2 q=>q
theorem cn{i:Nat}{x:Str}{e:Expr}{te:TE}{pos':Pos}(hN:X.N.Nodup)(hi:X.N[i]?=some x)(hx:Loc X.env.scope x)(he:PE X e te)(hs:swapsWith e (some (.Name x pos')) pos.line X.env=pure false:=by rfl)(hf:X.fn x=true\/X.env.scope.names.lookup x=some .local:=by first | exact .inl rfl | exact .inr rfl | assumption):
  PS X (.Assign [.Name x pos'] e pos) (uc te (oV i)):=by
 intro pins s σ H D I h;refine wpAny_Assign_Name (c6 (he pins s σ H _ I h) fun v s1 ⟨y,H1,I1,r1,q1⟩=>?_) hs;exact EE I1 hN hi hx r1 (fun s2 I2=>⟨_,H1,I2,q1⟩) hf
noncomputable def Bj(i j:Nat)(ta:TA):TS:=fun D σ H=>ta σ H fun vs H1=>∃v w,vs=[v,w]/\D.nx ((σ.set i (some v)).set j (some w)) H1
theorem KH{i j:Nat}{x y:Str}{a b:Expr}{ta:TA}{px py pt:Pos}{kt k2 Hq}(hc:X.calm=true)(hN:X.N.Nodup)(hi:X.N[i]?=some x)(hj:X.N[j]?=some y)(hij:i≠j)
  (hx:X.env.scope.names.lookup x=some .local) (hy:X.env.scope.names.lookup y=some .local) (ha:PA X [a,b] ta)
  (hw:swappedStores [.Tuple [.Name x px,.Name y py] kt pt] (.Tuple [a,b] k2 Hq) X.env=pure (some [x,y]))
  (hs:swapsWithSole [.Tuple [.Name x px,.Name y py] kt pt] (.Tuple [a,b] k2 Hq) pos.line X.env=pure false:=by rfl) :
  PS X (.Assign [.Tuple [.Name x px,.Name y py] kt pt] (.Tuple [a,b] k2 Hq) pos) (Bj i j ta):=by
 intro pins s σ H D I h;rw [exec_Assign_arm];refine wpAny_bind (wpAny_standAt ?_);rw [hs];refine wpAny_bind (wpAny_pure ?_);rw [if_neg (by decide)];refine wpAny_bind (Tuple_ (c6 (ha _ pins s σ H _ I h) fun us s1 ⟨vs,H1,I1,r1,q1⟩=>?_));obtain ⟨v,w,e1,q1⟩:=q1;subst e1;obtain ⟨u1,u2,rfl,rv,rw'⟩:∃u1 u2,us=[u1,u2]/\RelV v u1/\RelV w u2:=by
  cases r1 with
  |cons p q =>
   cases q with
   |cons p' q' =>
    cases q';exact ⟨_,_,rfl,p,p'⟩
 refine wpAny_newObj_type ?_ (by show 2<=sizeLine;decide);have I2:Inv X pins σ H1 { s1 with heap:=s1.heap.push { cls:=.type "tuple",data:=.seq [u1,u2].toArray } }:=I1.kept (t':=s1.toks) fun b o e=>WJ _ e;rw [hw];refine wpAny_bind (wpAny_pure ?_);show wpAny (model X.prog X.w) X.A (do rule "assign.swapped-stores";let items <- unpackItems (.ref s1.heap.objs.size) 2 none;assignInOrder [fun v=>bindName X.env y v,fun v=>bindName X.env x v] items.reverse;pure Flow.next) _ _ _;refine wpAny_bind (wpAny_rule (wpAny_bind (unpackItems_tuple (items:=#[u1,u2]) (I.ok.hd hc) (IsTup.new s1.heap _) fun h' hx'=>?_)));have I3:=I2.kept (h':=h') (t':=s1.toks) fun b o e=>hx' b o (Xf (WO e)) e;show wpAny _ _ (assignInOrder [fun v=>bindName X.env y v,fun v=>bindName X.env x v] [u2,u1] >>= fun _=>pure Flow.next) _ _ _;refine wpAny_bind (assignInOrder_cons (wpAny_bindName (EE I3 hN hj (.inl hy) rw' (fun s2 I4=>?_) (.inr hy))));refine assignInOrder_cons (wpAny_bindName (EE I4 hN hi (.inl hx) rv (fun s3 I5=>assignInOrder_nil (wpAny_pure ?_)) (.inr hx)));rw [List.set_comm _ _ (Ne.symm hij)] at I5;exact ⟨_,H1,I5,q1⟩
end
section
variable {X:Cx}{pos:Pos}
noncomputable def rM(c:TT)(tb:TS):TS:=fun D σ H=>∃W:Nat->St->Hp->Prop,(∃m,W m σ H)/\∀m σ H,W m σ H ->
 c σ H fun b H1=>if b=true then ∃N:St->Hp->Prop,(∀σ' H',N σ' H'->∃m',m' < m/\W m' σ' H')/\tb { D with nx:=N,ct:=N,bk:=D.nx } σ H1 else D.nx σ H1
theorem zU{c:Expr}{body:List Stmt}{tc:TT}{tb:TS}(hp:PassesOwn (model X.prog X.w) X.A X.env X.xe)(hc:PT X c tc)(hb:p4 X body tb):PS X (.While c body [] pos) (rM tc tb):=by
 intro pins s σ H D I h;obtain ⟨W,⟨m0,w0⟩,turn⟩:=h;refine wpAny_While (codeAny_whileLoop (fun n s'=>∃σ' H',Inv X pins σ' H' s'/\W n σ' H') ?_ m0 ⟨σ,H,I,w0⟩);rintro n s1 ⟨σ1,H1,I1,w1⟩;refine wpAny_passesOwn hp (c6 (hc pins s1 σ1 H1 _ I1 (turn n σ1 H1 w1)) fun b s2 ⟨H2,I2,q2⟩=>?_);cases b with
 |true =>
  obtain ⟨N,hN,q2⟩:=q2;rw [if_pos rfl];refine wpAny_passesOwn hp (c6 (hb pins s2 σ1 H2 _ I2 q2) fun f s3 q3=>?_);cases f with
  |next =>
   obtain ⟨σ3,H3,I3,n3⟩:=q3;obtain ⟨m',hm,w3⟩:=hN σ3 H3 n3;exact ⟨m',hm,σ3,H3,I3,w3⟩
  |cont =>
   obtain ⟨σ3,H3,I3,n3⟩:=q3;obtain ⟨m',hm,w3⟩:=hN σ3 H3 n3;exact ⟨m',hm,σ3,H3,I3,w3⟩
  |brk=>exact q3
  |ret v=>exact q3
 |false =>
  rw [if_neg WA];exact wpAny_execs_nil ⟨σ1,H2,I2,q2⟩
end
set_option genInjectivity false in
structure It where
 go:Nat->Hp->Prop
 ud:Nat->Hp->V->Hp->Prop
 stop:Nat->Hp->Prop
noncomputable def lP(X:Cx)(pins:List (Addr×Obj))(H:Hp)(b:Addr):Prop :=
 H b=none/\b≠X.env.locals/\b ∉ X.fs/\(b∈X.ex\/X.s₀.heap.objs.size<=b)/\(∀x c,X.env.cells.lookup x=some c->c≠b)/\∀p∈X.pn ++ pins,p.1≠b
theorem Inv.qK{X:Cx}{pins:List (Addr×Obj)}{σ:St}{H H':Hp}{s:Shared}{b:Addr}(I:Inv X pins σ H s)(hb:s.heap.objs.size<=b)(hn:H' b=none):lP X pins H' b:=by
 refine ⟨hn,Nat.ne_of_gt (W0 I.lt hb),I.A7 hb,.inr (WZ I.sz hb),fun x c e z=>?_,fun p hp z=>?_⟩
 ·obtain ⟨v,q⟩:=I.cell x c e
  exact absurd (W0 q.lt (by rw [z];exact hb)) (Yf _)
 ·exact absurd (W0 (WO (I.pin p hp).1) (by rw [z];exact hb)) (Yf _)
structure Turn(P:Program)(w:World)(K:Zfr)(tg:Expr)(J:It)(fp:List Addr)(it:Addr)(tn:Nat->Heap->Prop):Prop where
 mem:it∈fp
 obj:∀i h,tn i h->∀b∈fp,∃o,h.get? b=some o/\∀v,o.data≠.cell v
 keep:∀i h h',tn i h->(∀b∈fp,∀o,h.get? b=some o->h'.get? b=some o)->tn i h'
 item:∀(X:Cx),X.prog=P->X.w=w->X.K=K->X.calm=true->∀(i:Nat) (pins:List (Addr×Obj)) (s:Shared) (σ:St) (H:Hp) (E:Value->Shared->Prop),Inv X pins σ H s->(∀b∈fp,lP X pins H b)->tn i s.heap->J.go i H ->
  wpAny (model P w) X.A (pyNext (.ref it)) (fun r s1=>∃u,r=some u /\
   wpAny (model P w) X.A (letOwnedTupleGo tg (.ref it) u) (fun _ s2=>∃x H',Inv X pins σ H' s2/\RelV x u/\J.ud i H x H'/\tn (i+1) s2.heap/\∀b∈fp,H' b=none) E s1) E s
 done:∀(X:Cx),X.prog=P->X.w=w->X.K=K->X.calm=true->∀(i:Nat) (pins:List (Addr×Obj)) (s:Shared) (σ:St) (H:Hp) (E:Value->Shared->Prop),Inv X pins σ H s->(∀b∈fp,lP X pins H b)->tn i s.heap->J.stop i H ->
  wpAny (model P w) X.A (pyNext (.ref it)) (fun r s1=>r=none/\Inv X pins σ H s1) E s
 self:∀(A:Around) (i:Nat) (s:Shared) (Q:Value->Shared->Prop) (E:Value->Shared->Prop),tn i s.heap->Q (.ref it) s->wpAny (model P w) A (pyIter (.ref it)) Q E s
abbrev TI:=St->Hp->(It->Hp->Prop)->Prop
noncomputable def KI(X:Cx)(pins:List (Addr×Obj))(σ:St)(tg:Expr)(R:It->Hp->Prop)(itv:Value)(s2:Shared):Prop :=
 ∃(it:Addr) (fp:List Addr) (tn:Nat->Heap->Prop) (J:It) (H':Hp),itv=.ref it/\Inv X pins σ H' s2/\Turn X.prog X.w X.K tg J fp it tn/\tn 0 s2.heap/\(∀b∈fp,lP X pins H' b)/\R J H'
noncomputable def PI(X:Cx)(tg iter:Expr)(wi:TI):Prop :=
 ∀(pins:List (Addr×Obj)) (s:Shared) (σ:St) (H:Hp) (R:It->Hp->Prop),Inv X pins σ H s->wi σ H R ->
  wpAny (model X.prog X.w) X.A (eval iter X.env) (fun v s1=>wpAny (model X.prog X.w) X.A (pyIter v) (KI X pins σ tg R) X.xe s1) X.xe s
theorem Hr{M:Model}{A:Around}{E:Value->Shared->Prop}{s:Shared}{tg:Expr}{it:Addr}{u:Value}{o:Obj}{n:String}{vs:Array Value}{Q:Unit->Shared->Prop}(ho:s.heap.get? it=some o)(hc:o.cls=.type n)(hd:o.data=.fields vs)
  (hn:["enumerate","zip","dict_itemiterator","dict_reverseitemiterator","odict_iterator","itertools.zip_longest","itertools.pairwise"].contains n=false) (hQ:Q () s):wpAny M A (letOwnedTupleGo tg (.ref it) u) Q E s:=by
 unfold letOwnedTupleGo;cases tg<;>first
  |exact wpAny_pure hQ
  | (cases u <;> first
    |exact wpAny_pure hQ
    | (refine wpAny_bind (wpAny_load ho ?_)
       rw [hc,hd];show wpAny M A (if (["enumerate","zip","dict_itemiterator","dict_reverseitemiterator","odict_iterator","itertools.zip_longest","itertools.pairwise"].contains n && vs[0]? == some (rawInt _))=true then _ else _) Q E s;rw [if_neg (by intro h;rw [hn,Bool.false_and] at h;cases h)]
       exact wpAny_pure hQ))
noncomputable def KJ(K:Zfr)(a:Addr):It :=
 ⟨fun i H=>∃xs x,kj K H a xs/\xs[i]?=some x,fun i H x H'=>H'=H/\∀xs,kj K H a xs->xs[i]?=some x,fun i H=>∃xs,kj K H a xs/\xs.length<=i⟩
noncomputable def KL(K:Zfr)(a:Addr):It :=
 ⟨fun i H=>∃xs x,fS K H a xs/\xs[i]?=some x,fun i H x H'=>H'=H/\∀xs,fS K H a xs->xs[i]?=some x,fun i H=>∃xs,fS K H a xs/\xs.length<=i⟩
noncomputable def Bk(lo:Int)(n:Nat):It:=⟨fun i _=>i<n,fun i H x H'=>H'=H/\x=.int (lo+i),fun i _=>n<=i⟩
theorem O0{P:Program}{w:World}{K:Zfr}{tg:Expr}(a it:Addr):Turn P w K tg (KJ K a) [it] it (fun i h=>h.IsListIter it a i) where
 mem:=by simp
 obj:=fun i h st b hb=>by
  have e:b=it:=by simpa using hb
  subst e;obtain ⟨o,e,c,d⟩:=st;exact ⟨o,e,fun v z=>by rw [d] at z;cases z⟩
 keep:=fun i h h' st k=>st.at fun o e=>k it (by simp) o e
 item:=by
  intro X hP hw hK hc i pins s σ H E I hf st hg;subst hP hw hK;obtain ⟨xs,x,hq,hx⟩:=hg;obtain ⟨its,rv,p,hz⟩:=I.list hq;obtain ⟨u,hu,ru⟩:=rv.get hx;obtain ⟨f0,f1,f2,f3,f4,f5⟩:=hf it (by simp);refine wpAny_pyNext_list_item st p.isList (x:=u) (by simpa using hu) fun h' st' sb=>?_;have I1:Inv X pins σ H { s with heap:=h' }:=I.turned (t':=s.toks) (fun b o hb e=>(sb.2 b hb).trans e) f0 f1 f3 f4 f5;obtain ⟨o,e,c,d⟩:=id st';exact ⟨u,rfl,Hr (s:={ s with heap:=h' }) e c d (by decide) ⟨x,H,I1,ru,⟨rfl,fun ys hy=>by rw [I.rK hy hq];exact hx⟩,st',fun b hb=>(hf b hb).1⟩⟩
 done:=by
  intro X hP hw hK hc i pins s σ H E I hf st hg;subst hP hw hK;obtain ⟨xs,hq,hx⟩:=hg;obtain ⟨its,rv,p,hz⟩:=I.list hq;obtain ⟨f0,f1,f2,f3,f4,f5⟩:=hf it (by simp);have hl:=rv.length;exact wpAny_pyNext_list_end (I.ok.hd hc) st p.isList (by simp;omega) fun h' eb=>⟨rfl,I.turned (t':=s.toks) (fun b o hb e=>eb b o hb e) f0 f1 f3 f4 f5⟩
 self:=fun _ _ _ _ _ st h=>wpAny_pyIter_listiter st h
theorem O1{P:Program}{w:World}{K:Zfr}{tg:Expr}(a it:Addr):Turn P w K tg (KL K a) [it] it (fun i h=>h.IsTupleIter it a i) where
 mem:=by simp
 obj:=fun i h st b hb=>by
  have e:b=it:=by simpa using hb
  subst e;obtain ⟨o,e,c,d⟩:=st;exact ⟨o,e,fun v z=>by rw [d] at z;cases z⟩
 keep:=fun i h h' st k=>st.at fun o e=>k it (by simp) o e
 item:=by
  intro X hP hw hK hc i pins s σ H E I hf st hg;subst hP hw hK;obtain ⟨xs,x,hq,hx⟩:=hg;obtain ⟨its,rv,p,hz⟩:=I.tuple hq;obtain ⟨u,hu,ru⟩:=rv.get hx;obtain ⟨f0,f1,f2,f3,f4,f5⟩:=hf it (by simp);refine wpAny_pyNext_tuple_item st (show s.heap.IsTuple a its.toArray from p) (x:=u) (by simpa using hu) fun h' st' sb=>?_;have I1:Inv X pins σ H { s with heap:=h' }:=I.turned (t':=s.toks) (fun b o hb e=>(sb.2 b hb).trans e) f0 f1 f3 f4 f5;obtain ⟨o,e,c,d⟩:=id st';exact ⟨u,rfl,Hr (s:={ s with heap:=h' }) e c d (by decide) ⟨x,H,I1,ru,⟨rfl,fun ys hy=>by rw [I.nO hy hq];exact hx⟩,st',fun b hb=>(hf b hb).1⟩⟩
 done:=by
  intro X hP hw hK hc i pins s σ H E I hf st hg;subst hP hw hK;obtain ⟨xs,hq,hx⟩:=hg;obtain ⟨its,rv,p,hz⟩:=I.tuple hq;obtain ⟨f0,f1,f2,f3,f4,f5⟩:=hf it (by simp);have hl:=rv.length;exact wpAny_pyNext_tuple_end (I.ok.hd hc) st (show s.heap.IsTuple a its.toArray from p) (by simp;omega) fun h' eb=>⟨rfl,I.turned (t':=s.toks) (fun b o hb e=>eb b o hb e) f0 f1 f3 f4 f5⟩
 self:=fun _ _ _ _ _ st h=>wpAny_pyIter_tupleiter st h
theorem O2{P:Program}{w:World}{K:Zfr}{tg:Expr}(it:Addr)(lo:Int)(n:Nat):Turn P w K tg (Bk lo n) [it] it (fun i h=>IsRangeIter h it (lo+(i:Nat)*1) ((n:Int)-(i:Nat)) 1) where
 mem:=by simp
 obj:=fun i h st b hb=>by
  have e:b=it:=by simpa using hb
  subst e
  exact ⟨_,st,fun v z=>by
   have z':Data.fields _=Data.cell v:=z
   cases z'⟩
 keep:=fun i h h' st k=>k it (by simp) _ st
 item:=by
  intro X hP hw hK hc i pins s σ H E I hf st hg;subst hP hw hK;obtain ⟨f0,f1,f2,f3,f4,f5⟩:=hf it (by simp);have W:=Walks.range (prog:=X.prog) (w:=X.w) (I.ok.hd hc) it lo 1 n;refine W.item i s _ _ hg st fun v h' tk hv st' kk=>?_;obtain ⟨t,rfl⟩:=hv;have I1:Inv X pins σ H { s with heap:=h',toks:=tk }:=I.turned (fun b o hb e=>kk b o (by simpa using hb) e) f0 f1 f3 f4 f5;refine ⟨_,rfl,Hr (s:={ s with heap:=h',toks:=tk }) (n:="range_iterator") st' rfl rfl (by decide) ⟨.int (lo+i),H,I1,⟨t,?_⟩,⟨rfl,rfl⟩,st',fun b hb=>(hf b hb).1⟩⟩;rw [Int.mul_one]
 done:=by
  intro X hP hw hK hc i pins s σ H E I hf st hg;subst hP hw hK;obtain ⟨f0,f1,f2,f3,f4,f5⟩:=hf it (by simp);exact wpAny_pyNext_range_end (I.ok.hd hc) st (by have:n<=i:=hg;omega) fun h' eb=>⟨rfl,I.turned (t':=s.toks) (fun b o hb e=>eb b o hb e) f0 f1 f3 f4 f5⟩
 self:=fun _ _ _ _ _ st h=>wpAny_pyIter_rangeiter st h
section
variable {X:Cx}{tg:Expr}
noncomputable def rN(K:Zfr)(tl:TE):TI:=fun σ H R=>tl σ H fun x H1=>∃a,x=.ref a/\(∃xs,kj K H1 a xs)/\R (KJ K a) H1
noncomputable def Bl(K:Zfr)(tl:TE):TI:=fun σ H R=>tl σ H fun x H1=>∃a,x=.ref a/\(∃xs,fS K H1 a xs)/\R (KL K a) H1
theorem Bm{l:Expr}{tl:TE}(hl:PE X l tl):PI X tg l (rN X.K tl):=by
 intro pins s σ H R I h;refine c6 (hl pins s σ H _ I h) fun v s1 ⟨x,H1,I1,r1,q1⟩=>?_;obtain ⟨a,e,⟨xs,hq⟩,q⟩:=q1;subst e;cases r1;obtain ⟨its,rv,p,hz⟩:=I1.list hq;refine wpAny_pyIter_list p.isList ?_;refine ⟨s1.heap.objs.size,[s1.heap.objs.size],_,_,H1,rfl,I1.kept (t':=s1.toks) fun b o e=>WJ _ e,O0 a _,⟨_,WW _ rfl,rfl,rfl⟩,fun b hb=>?_,q⟩;have e:b=s1.heap.objs.size:=by simpa using hb
 subst e;exact I1.qK (Wv _) (I1.hok.fresh (Wv _))
theorem pk{l:Expr}{tl:TE}(hl:PE X l tl):PI X tg l (Bl X.K tl):=by
 intro pins s σ H R I h;refine c6 (hl pins s σ H _ I h) fun v s1 ⟨x,H1,I1,r1,q1⟩=>?_;obtain ⟨a,e,⟨xs,hq⟩,q⟩:=q1;subst e;cases r1;obtain ⟨its,rv,p,hz⟩:=I1.tuple hq;refine wpAny_pyIter_tuple (show s1.heap.IsTuple a its.toArray from p) ?_;refine ⟨s1.heap.objs.size,[s1.heap.objs.size],_,_,H1,rfl,I1.kept (t':=s1.toks) fun b o e=>WJ _ e,O1 a _,⟨_,WW _ rfl,rfl,rfl⟩,fun b hb=>?_,q⟩;have e:b=s1.heap.objs.size:=by simpa using hb
 subst e;exact I1.qK (Wv _) (I1.hok.fresh (Wv _))
theorem KN{pins:List (Addr×Obj)}{σ:St}{H:Hp}{s:Shared}{R:It->Hp->Prop}{E:Value->Shared->Prop}{lo hi:Int}{t u v:Tok}{tk:Nat}(I:Inv X pins σ H s)(h1:-(2 ^ 62)<=lo)(h2:lo<2 ^ 62)(h3:-(2 ^ 62)<=hi)(h4:hi<2 ^ 62)
  (q:R (Bk lo (hi-lo).toNat) H):wpAny (model X.prog X.w) X.A (pyIter (.ref s.heap.objs.size)) (KI X pins σ tg R) E { s with heap:=s.heap.push { cls:=.type "range",data:=.fields #[.int lo t,.int hi u,.int 1 v] },toks:=tk }:=by
 refine wpAny_pyIter_range (IsRange.new ..) (small_one h1 h2 h3 h4) ?_;have I1:Inv X pins σ H { s with heap:=s.heap.push { cls:=.type "range",data:=.fields #[.int lo t,.int hi u,.int 1 v] },toks:=tk }:=I.kept fun b o e=>WJ _ e
 refine ⟨(s.heap.push { cls:=.type "range",data:=.fields #[.int lo t,.int hi u,.int 1 v] }).objs.size,[(s.heap.push { cls:=.type "range",data:=.fields #[.int lo t,.int hi u,.int 1 v] }).objs.size],_,_,H,rfl,
  I1.kept (t':=tk) fun b o e=>WJ _ e,O2 _ lo (hi-lo).toNat,?_,fun b hb=>?_,q⟩
 ·have e1:lo+((0:Nat):Int)*1=lo:=by simp
  have e2:(((hi-lo).toNat:Nat):Int)-((0:Nat):Int)=Builtin.Range.rangeSize lo hi 1:=by rw [rangeSize_one];split<;>omega
  show IsRangeIter _ _ (lo+((0:Nat):Int)*1) ((((hi-lo).toNat:Nat):Int)-((0:Nat):Int)) 1;rw [e1,e2];exact WW _ rfl
 ·have e:b=(s.heap.push { cls:=.type "range",data:=.fields #[.int lo t,.int hi u,.int 1 v] }).objs.size:=by simpa using hb
  subst e;exact I1.qK (Wv _) (I1.hok.fresh (Wv _))
noncomputable def u5(ta:TA):TI:=fun σ H R=>ta σ H fun vs H1=>∃j:Int,vs=[.int j]/\-(2 ^ 62)<=j/\j<2 ^ 62/\R (Bk 0 j.toNat) H1
noncomputable def u6(ta:TA):TI:=fun σ H R=>ta σ H fun vs H1=>∃i j:Int,vs=[.int i,.int j]/\(-(2 ^ 62)<=i/\i<2 ^ 62/\-(2 ^ 62)<=j/\j<2 ^ 62)/\R (Bk i (j-i).toNat) H1
theorem oW{a:Expr}{ta:TA}{p pos:Pos}(hg:Gl X "range")(hm:X.mg "range" = none)(ha:PA X [a] ta)(hs:starEach [a] X.env=[(false,eval a X.env)]:=by rfl):PI X tg (.Call (.Name "range" p) [a] [] pos) (u5 ta):=by
 intro pins s σ H R I h;refine Call_ (zS I hg hm boot_range (PyProof.Rows.callWith_type1 (c6 (ha pos pins s σ H _ I h) fun us s1 ⟨vs,H1,I1,r1,q1⟩=>?_) hs rfl));obtain ⟨j,e,q1,q2,q⟩:=q1;subst e;cases r1 with
 |cons r rr =>
  cases rr;obtain ⟨t,rfl⟩:=r;exact call_range_1 (KN I1 (by omega) (by omega) q1 q2 (by simpa using q))
theorem O3{a b:Expr}{ta:TA}{p pos:Pos}(hg:Gl X "range")(hm:X.mg "range" = none)(ha:PA X [a,b] ta)(hs:starEach [a,b] X.env=[(false,eval a X.env),(false,eval b X.env)]:=by rfl)(hs2:starEach [b] X.env=[(false,eval b X.env)]:=by rfl):
  PI X tg (.Call (.Name "range" p) [a,b] [] pos) (u6 ta):=by
 intro pins s σ H R I h;refine Call_ (zS I hg hm boot_range (PyProof.Rows.callWith_type1 (c6 (ha pos pins s σ H _ I h) fun us s1 ⟨vs,H1,I1,r1,q1⟩=>?_) (by rw [hs,hs2]) (by rw [hs2];rfl)));obtain ⟨i,j,e,⟨q1,q2,q3,q4⟩,q⟩:=q1;subst e;cases r1 with
 |cons r rr =>
  cases rr with
  |cons r' rr =>
   cases rr;obtain ⟨t,rfl⟩:=r;obtain ⟨t',rfl⟩:=r';exact call_range_2 (KN I1 q1 q2 q3 q4 q)
noncomputable def Bn(wi:TI)(g:TG)(tb:TS):TS:=fun D σ H=>wi σ H fun J H1=>∃W:Nat->Nat->St->Hp->Prop,(∃m,W 0 m σ H1)/\∀i m σ H,W i m σ H ->
 (J.stop i H/\D.nx σ H)\/(J.go i H/\∃N:St->Hp->Prop,(∀σ' H',N σ' H'->∃m',m' < m/\W (i+1) m' σ' H')/\∀x H',J.ud i H x H'->g x σ H' fun σ2 H2=>tb { D with nx:=N,ct:=N,bk:=D.nx } σ2 H2)
noncomputable def mY(fp:List Addr)(h:Heap):List (Addr×Obj):=fp.filterMap fun b=>(h.get? b).map fun o=>(b,o)
theorem EI{fp:List Addr}{h:Heap}{b:Addr}{o:Obj}(hb:b∈fp)(e:h.get? b=some o):(b,o)∈mY fp h:=List.mem_filterMap.mpr ⟨b,hb,by rw [e];rfl⟩
theorem O4{fp:List Addr}{h:Heap}{p:Addr×Obj}(hp:p∈mY fp h):p.1∈fp/\h.get? p.1=some p.2:=by
 obtain ⟨b,hb,e⟩:=List.mem_filterMap.mp hp;cases q:h.get? b with
 |none=>rw [q] at e;cases e
 |some o =>
  rw [q] at e;have e':(b,o)=p:=WD e;subst e';exact ⟨hb,q⟩
theorem Inv.pinned{pins:List (Addr×Obj)}{σ:St}{H:Hp}{s:Shared}{fp:List Addr}(I:Inv X pins σ H s)(hf:∀b∈fp,lP X pins H b)(ho:∀b∈fp,∃o,s.heap.get? b=some o/\∀v,o.data≠.cell v):Inv X (pins ++ mY fp s.heap) σ H s :=
 I.mI fun p hp=>(WS.mp hp).elim (fun z=>I.pin p (WY _ z)) fun z=>by
  obtain ⟨hb,e⟩:=O4 z;obtain ⟨f0,f1,f2,_⟩:=hf p.1 hb;obtain ⟨o,e',d⟩:=ho p.1 hb;rw [e] at e';cases e';exact ⟨e,f0,f1,f2,d⟩
theorem Inv.lG{pins pl:List (Addr×Obj)}{σ:St}{H:Hp}{s:Shared}(I:Inv X (pins ++ pl) σ H s):Inv X pins σ H s:=I.mI fun p hp=>I.pin p (WY _ (Xw _ hp))
theorem lQ{iter:Expr}{body:List Stmt}{wi:TI}{g:TG}{tb:TS}{pos:Pos}(hp:PassesOwn (model X.prog X.w) X.A X.env X.xe)(hc:X.calm=true)(hi:PI X tg iter wi)(hg:PG X tg g)(hb:p4 X body tb)
  (hs:∀x,foldedSetIterable iter X.env x=pure x:=by intro _;rfl):PS X (.For tg iter body [] pos) (Bn wi g tb):=by
 intro pins s σ H D I h;refine wpAny_For (c6 (hi pins s σ H _ I h) fun v s1 h1=>c6 h1 fun itv s2 h2=>?_) hs;obtain ⟨it,fp,tn,J,H2,e,I2,T,st2,f2,W,⟨m0,w0⟩,turn⟩:=h2;subst e;have stat:∀{H':Hp},(∀b∈fp,H' b=none)->∀b∈fp,lP X pins H' b:=fun hn b hb=>⟨hn b hb,(f2 b hb).2⟩;refine codeAny_forLoop_any (fun n s'=>∃i σ' H',Inv X pins σ' H' s'/\tn i s'.heap/\(∀b∈fp,H' b=none)/\W i n σ' H') ?_ m0 ⟨0,σ,H2,I2,st2,fun b hb=>(f2 b hb).1,w0⟩;rintro n s3 ⟨i,σ3,H3,I3,st3,KO,w3⟩;rcases turn i n σ3 H3 w3 with ⟨stop,qn⟩|⟨go,N,hN,step⟩
 ·refine wpAny_passesOwn hp (c6 (T.done X rfl rfl rfl hc i pins s3 σ3 H3 X.xe I3 (stat KO) st3 stop) fun r s4 ⟨hr,I4⟩=>?_)
  subst hr;exact wpAny_execs_nil ⟨σ3,H3,I4,qn⟩
 ·refine wpAny_passesOwn hp (c6 (T.item X rfl rfl rfl hc i pins s3 σ3 H3 X.xe I3 (stat KO) st3 go) fun r s4 ⟨u,hr,h4⟩=>?_)
  subst hr;refine wpAny_passesOwn hp (c6 h4 fun _ s5 ⟨x,H5,I5,r5,y5,kM,EJ⟩=>?_);have O5:=I5.pinned (stat EJ) (T.obj _ _ kM);refine wpAny_passesOwn hp (c6 (hg _ s5 σ3 H5 x u _ O5 r5 (step x H5 y5)) fun _ s6 ⟨σ6,H6,I6,q6⟩=>?_);refine wpAny_passesOwn hp (c6 (hb _ s6 σ6 H6 _ I6 q6) fun f s7 q7=>?_);have again:∀{σ7:St} {H7:Hp},Inv X (pins ++ mY fp s5.heap) σ7 H7 s7->N σ7 H7->∃m,m<n/\∃i σ' H',Inv X pins σ' H' s7/\tn i s7.heap/\(∀b∈fp,H' b=none)/\W i m σ' H':=fun {σ7 H7} I7 n7=>by
   obtain ⟨m',hm,w7⟩:=hN σ7 H7 n7;refine ⟨m',hm,i+1,σ7,H7,I7.lG,T.keep _ _ _ kM fun b hb o e=>(I7.pin (b,o) (WY _ (WY _ (EI hb e)))).1,fun b hb=>?_,w7⟩;obtain ⟨o,e,d⟩:=T.obj _ _ kM b hb;exact (I7.pin (b,o) (WY _ (WY _ (EI hb e)))).2.1
  cases f with
  |next=>obtain ⟨σ7,H7,I7,n7⟩:=q7;exact again I7 n7
  |cont=>obtain ⟨σ7,H7,I7,n7⟩:=q7;exact again I7 n7
  |brk=>obtain ⟨σ7,H7,I7,q7⟩:=q7;exact ⟨σ7,H7,I7.lG,q7⟩
  |ret v=>obtain ⟨x7,σ7,H7,I7,r7,q7⟩:=q7;exact ⟨x7,σ7,H7,I7.lG,r7,q7⟩
end
abbrev R2:=V->V->Hp->VK->Prop
noncomputable def kR(X:Cx)(f:Value->Value->Sem Value)(r:R2):Prop :=
 ∀(pins:List (Addr×Obj)) (s:Shared) (σ:St) (H:Hp) (x y:V) (v u:Value) (Q:VK),Inv X pins σ H s->RelV x v->RelV y u->r x y H Q ->
  wpAny (model X.prog X.w) X.A (f v u) (EP X pins σ Q) X.xe s
noncomputable def Hs(X:Cx)(f:Value->Sem Value)(r:V->Hp->VK->Prop):Prop :=
 ∀(pins:List (Addr×Obj)) (s:Shared) (σ:St) (H:Hp) (x:V) (v:Value) (Q:VK),Inv X pins σ H s->RelV x v->r x H Q ->
  wpAny (model X.prog X.w) X.A (f v) (EP X pins σ Q) X.xe s
noncomputable def gu(X:Cx)(f:Value)(r:List V->Hp->VK->Prop):Prop :=
 ∀(pins:List (Addr×Obj)) (s:Shared) (σ:St) (H:Hp) (xs:List V) (us:List Value) (Q:VK),Inv X pins σ H s->Vals xs us->r xs H Q ->
  wpAny (model X.prog X.w) X.A (call f us) (EP X pins σ Q) X.xe s
noncomputable def Bo(r:R2)(ta tb:TE):TE:=fun σ H Q=>ta σ H fun x H1=>tb σ H1 fun y H2=>r x y H2 Q
noncomputable def KP(r:V->Hp->VK->Prop)(ta:TE):TE:=fun σ H Q=>ta σ H fun x H1=>r x H1 Q
noncomputable def rI(C:Int->Int->Prop)(g:Int->Int->V):R2:=fun x y H Q=>∃i j,x=.int i/\y=.int j/\C i j/\Q (g i j) H
noncomputable def pH(g:Int->Int->V):R2:=fun x y H Q=>∃i j,x=.int i/\y=.int j/\Q (g i j) H
noncomputable def rU(g:Int->V):V->Hp->VK->Prop:=fun x H Q=>∃i,x=.int i/\Q (g i) H
section
variable {X:Cx}{a b c:Expr}{ta tb tc:TE}{pos:Pos}
theorem w8(ha:PE X a ta)(hb:PE X b tb){pins:List (Addr×Obj)}{s:Shared}{σ:St}{H:Hp}{R:V->V->Hp->Prop}(I:Inv X pins σ H s)
  (h:ta σ H fun x H1=>tb σ H1 fun y H2=>R x y H2) {Q:Value->Shared->Prop} {f:Value->Value->Sem Value}
  (hf:∀v u s2 x y H2,Inv X pins σ H2 s2->RelV x v->RelV y u->R x y H2->wpAny (model X.prog X.w) X.A (f v u) Q X.xe s2) :
  wpAny (model X.prog X.w) X.A (eval a X.env) (fun v s₁=>wpAny (model X.prog X.w) X.A (eval b X.env) (fun u s₂=>wpAny (model X.prog X.w) X.A (f v u) Q X.xe s₂) X.xe s₁) X.xe s:=by
 refine c6 (ha pins s σ H _ I h) fun v s1 ⟨x,H1,I1,r1,q1⟩=>?_;refine c6 (hb pins s1 σ H1 _ I1 q1) fun u s2 ⟨y,H2,I2,r2,q2⟩=>?_;exact hf v u s2 x y H2 I2 r1 r2 q2
theorem cL{op:Operator}{r:R2}(ho:kR X (binaryOp op) r)(ha:PE X a ta)(hb:PE X b tb):PE X (.BinOp a op b pos) (Bo r ta tb):=by
 intro pins s σ H Q I h;exact wpAny_BinOp (w8 ha hb I h fun v u s2 x y H2 I2 rx ry q=>ho pins s2 σ H2 x y v u Q I2 rx ry q)
theorem xa{op:UnaryOp}{r:V->Hp->VK->Prop}(ho:Hs X (unaryOp op) r)(ha:PE X a ta):PE X (.UnaryOp op a pos) (KP r ta):=by
 intro pins s σ H Q I h;exact UnaryOp_ (c6 (ha pins s σ H _ I h) fun v s1 ⟨x,H1,I1,r1,q1⟩=>ho pins s1 σ H1 x v Q I1 r1 q1)
theorem EK{f:Value->Value->Sem Value}{C:Int->Int->Prop}{g:Int->Int->Int}
  (rule:∀(i j:Int) (t u:Tok) (s:Shared) (Q:Value->Shared->Prop) (E:Value->Shared->Prop),C i j->Q (.int (g i j) s.toks) { s with toks:=s.toks+1 }->wpAny (model X.prog X.w) X.A (f (.int i t) (.int j u)) Q E s) :
  kR X f (rI C fun i j=>.int (g i j)):=by
 intro pins s σ H x y v u Q I rx ry h;obtain ⟨i,j,rfl,rfl,hc,q⟩:=h;obtain ⟨t,rfl⟩:=rx;obtain ⟨t',rfl⟩:=ry;exact rule i j t t' s _ _ hc ⟨.int (g i j),H,I.tok _,⟨_,rfl⟩,q⟩
theorem Bp{f:Value->Value->Sem Value}{g:Int->Int->Int}
  (rule:∀(i j:Int) (t u:Tok) (s:Shared) (Q:Value->Shared->Prop) (E:Value->Shared->Prop),Q (.int (g i j) s.toks) { s with toks:=s.toks+1 }->wpAny (model X.prog X.w) X.A (f (.int i t) (.int j u)) Q E s) :
  kR X f (pH fun i j=>.int (g i j)):=by
 intro pins s σ H x y v u Q I rx ry h;obtain ⟨i,j,rfl,rfl,q⟩:=h;obtain ⟨t,rfl⟩:=rx;obtain ⟨t',rfl⟩:=ry;exact rule i j t t' s _ _ ⟨.int (g i j),H,I.tok _,⟨_,rfl⟩,q⟩
theorem uf{f:Value->Value->Sem Value}{g:Int->Int->Bool}
  (rule:∀(i j:Int) (t u:Tok) (s:Shared) (Q:Value->Shared->Prop) (E:Value->Shared->Prop),Q (.bool (g i j)) s->wpAny (model X.prog X.w) X.A (f (.int i t) (.int j u)) Q E s) :
  kR X f (pH fun i j=>.bl (g i j)):=by
 intro pins s σ H x y v u Q I rx ry h;obtain ⟨i,j,rfl,rfl,q⟩:=h;obtain ⟨t,rfl⟩:=rx;obtain ⟨t',rfl⟩:=ry;exact rule i j t t' s _ _ ⟨.bl (g i j),H,I,rfl,q⟩
noncomputable def Bq(i j:Int):Prop:=0<j/\j<1073741824
noncomputable def Br(i j:Int):Prop:=0<=j/\j<=1000000/\i.natAbs<2 ^ 64
noncomputable def ug(i j:Int):Prop:=(-(2 ^ 64)<i/\i<2 ^ 64)\/(-(2 ^ 64)<j/\j<2 ^ 64)
theorem ug.ok{i j:Int}(h:ug i j):IntMulOk i j:=by
 rcases h with ⟨h1,h2⟩|⟨h1,h2⟩
 ·exact .of_left (intBits_le_64 h1 h2)
 ·exact .of_right (intBits_le_64 h1 h2)
theorem ml:kR X (binaryOp .Add) (pH fun i j=>.int (i+j)):=Bp fun _ _ _ _ _ _ _ q=>add_int q
theorem zV:kR X (binaryOp .Sub) (pH fun i j=>.int (i-j)):=Bp fun _ _ _ _ _ _ _ q=>sub_int q
theorem uh:kR X (binaryOp .Mult) (rI ug fun i j=>.int (i*j)):=EK fun _ _ _ _ _ _ _ hc q=>mul_int q hc.ok
theorem KQ:kR X (binaryOp .FloorDiv) (rI Bq fun i j=>.int (i / j)):=EK fun i j _ _ _ _ _ hc q=>by
 have h1:(0:Int)<j:=hc.1;have h2:j<1073741824:=hc.2;exact floordiv_int (by omega) (by rw [Int.fdiv_eq_ediv_of_nonneg i (by omega)];exact q) (.inl (PyProof.noPylong_small (by omega)))
theorem p8:kR X (binaryOp .Mod) (rI (fun _ j=>0<j) fun i j=>.int (i % j)):=EK fun i j _ _ _ _ _ hc q=>by
 have h1:(0:Int)<j:=hc;exact mod_int' (by omega) (by rw [Int.fmod_eq_emod_of_nonneg i (by omega)];exact q)
theorem KR:kR X (binaryOp .Pow) (rI Br fun i j=>.int (i ^ j.toNat)):=EK fun _ _ _ _ _ _ _ hc q=>pow_int_small hc.1 hc.2.1 hc.2.2 q
theorem O6{f:Value->Sem Value}{g:Int->Int}
  (rule:∀(i:Int) (t:Tok) (s:Shared) (Q:Value->Shared->Prop) (E:Value->Shared->Prop),Q (.int (g i) s.toks) { s with toks:=s.toks+1 }->wpAny (model X.prog X.w) X.A (f (.int i t)) Q E s) :
  Hs X f (rU fun i=>.int (g i)):=by
 intro pins s σ H x v Q I rx h;obtain ⟨i,rfl,q⟩:=h;obtain ⟨t,rfl⟩:=rx;exact rule i t s _ _ ⟨.int (g i),H,I.tok _,⟨_,rfl⟩,q⟩
theorem xb:Hs X (unaryOp .USub) (rU fun i=>.int (-i)):=O6 fun _ _ _ _ _ q=>neg_int q
end
noncomputable def n9:V->V->Bool
 |.non,.non=>true|.non,.int _=>true|.int _,.non=>true|.non,.bl _=>true|.bl _,.non=>true|.non,.str _=>true|.str _,.non=>true
 |.int _,.int _=>true|.bl _,.bl _=>true|.str _,.str _=>true|.rF _,.rF _=>true
 |.int _,.str _=>true|.str _,.int _=>true|.bl _,.str _=>true|.str _,.bl _=>true
 |_,_=>false
noncomputable def KS:R2:=fun x y H Q=>n9 x y=true/\Q (.bl (decide (x=y))) H
noncomputable def KU:R2:=fun x y H Q=>n9 x y=true/\Q (.bl (!decide (x=y))) H
theorem KW{i j:Int}:decide (V.int i=V.int j)=(i == j):=by
 rw [Xx];simp
theorem KY{i j:Bool}:decide (V.bl i=V.bl j)=(i == j):=by
 rw [Xx];simp
theorem KZ{i j:Str}:decide (V.str i=V.str j)=(i == j):=by
 rw [Xx];simp
theorem K0{i j:Array UInt8}:decide (V.rF i=V.rF j)=(i.toList == j.toList):=by
 rw [Xx];cases i;cases j;simp
section
variable {X:Cx}{a b c:Expr}{ta tb tc:TE}{pos:Pos}
theorem kO{pins:List (Addr×Obj)}{σ:St}{H:Hp}{s:Shared}{Q:VK}{k k':Bool}(I:Inv X pins σ H s)(q:Q (.bl k) H)(e:k=k'):EP X pins σ Q (.bool k') s:=by
 subst e;exact ⟨.bl k,H,I,rfl,q⟩
theorem lS:kR X (compareOp .Eq) KS:=by
 intro pins s σ H x y v u Q I rx ry h;obtain ⟨hs,q⟩:=h;cases x with
 |non =>
  cases rx;cases y with
  |non=>cases ry;exact PySem.EqNone.eq_none_none (kO I q (by simp))
  |bl j=>cases ry;exact PySem.EqNone.eq_none_bool (kO I q (by simp))
  |int j=>obtain ⟨t',rfl⟩:=ry;exact PySem.EqNone.eq_none_int (kO I q (by simp))
  |str j=>obtain ⟨t',rfl⟩:=ry;exact PySem.EqNone.eq_none_str (kO I q (by simp))
  |_=>exact absurd (show false=true from hs) WA
 |bl i =>
  cases rx;cases y with
  |non=>cases ry;exact PySem.EqNone.eq_bool_none (kO I q (by simp))
  |bl j=>cases ry;exact eq_bool (kO I q KY)
  |str j=>obtain ⟨t',rfl⟩:=ry;exact PySem.EqMixed.eq_bool_str (kO I q (by simp))
  |_=>exact absurd (show false=true from hs) WA
 |int i =>
  obtain ⟨t,rfl⟩:=rx;cases y with
  |non=>cases ry;exact PySem.EqNone.eq_int_none (kO I q (by simp))
  |int j=>obtain ⟨t',rfl⟩:=ry;exact eq_int (kO I q KW)
  |str j=>obtain ⟨t',rfl⟩:=ry;exact PySem.EqMixed.eq_int_str (kO I q (by simp))
  |_=>exact absurd (show false=true from hs) WA
 |str i =>
  obtain ⟨t,rfl⟩:=rx;cases y with
  |non=>cases ry;exact PySem.EqNone.eq_str_none (kO I q (by simp))
  |bl j=>cases ry;exact PySem.EqMixed.eq_str_bool (kO I q (by simp))
  |int j=>obtain ⟨t',rfl⟩:=ry;exact PySem.EqMixed.eq_str_int (kO I q (by simp))
  |str j=>obtain ⟨t',rfl⟩:=ry;exact eq_str (kO I q KZ)
  |_=>exact absurd (show false=true from hs) WA
 |rF i =>
  obtain ⟨t,rfl⟩:=rx;cases y with
  |rF j=>obtain ⟨t',rfl⟩:=ry;exact PySem.W.eq_bytes (kO I q K0)
  |_=>exact absurd (show false=true from hs) WA
 |_=>cases y<;>exact absurd (show false=true from hs) WA
theorem EL:kR X (compareOp .NotEq) KU:=by
 intro pins s σ H x y v u Q I rx ry h;obtain ⟨hs,q⟩:=h;cases x with
 |non =>
  cases rx;cases y with
  |non=>cases ry;exact PySem.EqNone.ne_none_none (kO I q (by simp))
  |bl j=>cases ry;exact PySem.EqNone.ne_none_bool (kO I q (by simp))
  |int j=>obtain ⟨t',rfl⟩:=ry;exact PySem.EqNone.ne_none_int (kO I q (by simp))
  |str j=>obtain ⟨t',rfl⟩:=ry;exact PySem.EqNone.ne_none_str (kO I q (by simp))
  |_=>exact absurd (show false=true from hs) WA
 |bl i =>
  cases rx;cases y with
  |non=>cases ry;exact PySem.EqNone.ne_bool_none (kO I q (by simp))
  |bl j=>cases ry;exact ne_bool (kO I q (congrArg not KY))
  |str j=>obtain ⟨t',rfl⟩:=ry;exact PySem.EqMixed.ne_bool_str (kO I q (by simp))
  |_=>exact absurd (show false=true from hs) WA
 |int i =>
  obtain ⟨t,rfl⟩:=rx;cases y with
  |non=>cases ry;exact PySem.EqNone.ne_int_none (kO I q (by simp))
  |int j=>obtain ⟨t',rfl⟩:=ry;exact ne_int (kO I q (congrArg not KW))
  |str j=>obtain ⟨t',rfl⟩:=ry;exact PySem.EqMixed.ne_int_str (kO I q (by simp))
  |_=>exact absurd (show false=true from hs) WA
 |str i =>
  obtain ⟨t,rfl⟩:=rx;cases y with
  |non=>cases ry;exact PySem.EqNone.ne_str_none (kO I q (by simp))
  |bl j=>cases ry;exact PySem.EqMixed.ne_str_bool (kO I q (by simp))
  |int j=>obtain ⟨t',rfl⟩:=ry;exact PySem.EqMixed.ne_str_int (kO I q (by simp))
  |str j=>obtain ⟨t',rfl⟩:=ry;exact ne_str (kO I q (congrArg not KZ))
  |_=>exact absurd (show false=true from hs) WA
 |rF i =>
  obtain ⟨t,rfl⟩:=rx;cases y with
  |rF j=>obtain ⟨t',rfl⟩:=ry;exact PySem.W.ne_bytes (kO I q (congrArg not K0))
  |_=>exact absurd (show false=true from hs) WA
 |_=>cases y<;>exact absurd (show false=true from hs) WA
theorem ui:kR X (compareOp .Lt) (pH fun i j=>.bl (decide (i<j))):=uf fun _ _ _ _ _ _ _ q=>lt_int q
theorem Bs:kR X (compareOp .LtE) (pH fun i j=>.bl (decide (i<=j))):=uf fun _ _ _ _ _ _ _ q=>le_int q
theorem zW:kR X (compareOp .Gt) (pH fun i j=>.bl (decide (j<i))):=uf fun _ _ _ _ _ _ _ q=>gt_int q
theorem u7:kR X (compareOp .GtE) (pH fun i j=>.bl (decide (j<=i))):=uf fun _ _ _ _ _ _ _ q=>ge_int q
theorem xc:kR X (compareOp .Is) (fun x y H Q=>y=.non/\Q (.bl (decide (x=.non))) H):=by
 intro pins s σ H x y v u Q I rx ry h;obtain ⟨rfl,q⟩:=h;cases ry;refine is_none_gen (kO I q ?_);cases x<;>first
  |(cases rx;rfl)
  |(obtain ⟨t,rfl⟩:=rx;rfl)
theorem aK(b:Expr){op:CmpOp}(h:op≠.In:=by decide)(h2:op≠.NotIn:=by decide):behindInMarks op b=false:=by
 have e1:(op == CmpOp.In)=false:=by cases op<;>first|rfl|exact absurd rfl h
 have e2:(op == CmpOp.NotIn)=false:=by cases op<;>first|rfl|exact absurd rfl h2
 cases b<;>simp [behindInMarks,e1,e2]
theorem xf{op:CmpOp}{r:R2}(ho:kR X (compareOp op) r)(ha:PE X a ta)(hb:PE X b tb)(hm:behindInMarks op b=false):PE X (.Compare a [op] [b] pos) (Bo r ta tb):=by
 intro pins s σ H Q I h;exact wpAny_Compare1 (w8 ha hb I h fun v u s2 x y H2 I2 rx ry q=>ho pins s2 σ H2 x y v u Q I2 rx ry q) hm
noncomputable def u9(t:TE):TT:=fun σ H Q=>t σ H fun x H'=>∃k,x=.bl k/\Q k H'
theorem dF{op:CmpOp}{r:R2}(ho:kR X (compareOp op) r)(ha:PE X a ta)(hb:PE X b tb)(hm:behindInMarks op b=false):PT X (.Compare a [op] [b] pos) (u9 (Bo r ta tb)):=by
 intro pins s σ H Q I h
 refine wpAny_isTrue_Compare1 (c6 (ha pins s σ H _ I h) fun v s1 ⟨x,H1,I1,r1,q1⟩=>c6 (hb pins s1 σ H1 _ I1 q1) fun u s2 ⟨y,H2,I2,r2,q2⟩ =>
  c6 (ho pins s2 σ H2 x y v u _ I2 r1 r2 q2) fun c s3 ⟨z,H3,I3,r3,k,e,q3⟩=>?_) hm
 subst e;cases r3;exact wpAny_truthy_bool ⟨H3,I3,q3⟩
theorem oe:(sizeLine:Nat)<2 ^ 63:=by rw [sizeLine_eq];decide
theorem vals1{x:V}{us:List Value}(r:Vals [x] us):∃u,us=[u]/\RelV x u:=by
 cases r with
 |cons r1 r2=>cases r2;exact ⟨_,rfl,r1⟩
theorem vals2{x y:V}{us:List Value}(r:Vals [x,y] us):∃u w',us=[u,w']/\RelV x u/\RelV y w':=by
 cases r with
 |cons r1 r2 =>
  cases r2 with
  |cons r3 r4=>cases r4;exact ⟨_,_,rfl,r1,r3⟩
theorem Ht(hc:X.calm=true):gu X (.builtin "max") (fun xs H Q=>∃i j,xs=[.int i,.int j]/\Q (.int (if j > i then j else i)) H):=by
 intro pins s σ H xs us Q I r h;obtain ⟨i,j,rfl,q⟩:=h;obtain ⟨u,w',rfl,⟨t,rfl⟩,⟨t',rfl⟩⟩:=vals2 r;refine max_two_ints (I.ok.hd hc) fun h' tk k=>⟨_,H,I.kept k,?_,q⟩
 by_cases hj:j > i
 ·rw [if_pos hj,if_pos hj];exact ⟨_,rfl⟩
 ·rw [if_neg hj,if_neg hj];exact ⟨_,rfl⟩
theorem O7(hc:X.calm=true):gu X (.builtin "min") (fun xs H Q=>∃i j,xs=[.int i,.int j]/\Q (.int (if j<i then j else i)) H):=by
 intro pins s σ H xs us Q I r h;obtain ⟨i,j,rfl,q⟩:=h;obtain ⟨u,w',rfl,⟨t,rfl⟩,⟨t',rfl⟩⟩:=vals2 r;refine min_two_ints (I.ok.hd hc) fun h' tk k=>⟨_,H,I.kept k,?_,q⟩
 by_cases hj:j<i
 ·rw [if_pos hj,if_pos hj];exact ⟨_,rfl⟩
 ·rw [if_neg hj,if_neg hj];exact ⟨_,rfl⟩
theorem O8:gu X (.type "int") (fun xs H Q=>(∃i,xs=[.int i]/\Q (.int i) H)\/∃k,xs=[.bl k]/\Q (.int (if k then 1 else 0)) H):=by
 intro pins s σ H xs us Q I r h;rcases h with ⟨i,rfl,q⟩|⟨k,rfl,q⟩
 ·obtain ⟨u,rfl,t,rfl⟩:=vals1 r
  exact call_int_int ⟨.int i,H,I,⟨_,rfl⟩,q⟩
 ·obtain ⟨u,rfl,r1⟩:=vals1 r
  cases r1;exact call_int_bool ⟨.int (if k then 1 else 0),H,I.tok _,⟨_,rfl⟩,q⟩
end
structure O9(K:Zfr)(C:Addr):Prop where
 pg:PySem.W.plainGet K C Str.empty=true
 hd:PySem.W.hasDictIn K C=true
 po:PySem.W.plainOver K C=true
 sa:PySem.W.findIn K (.ref C) "__setattr__" = some (some (.builtin "object.__setattr__"))
structure tu(K:Zfr)(C:Addr)(f:Str)(v:V)(u:Value):Prop where
 at_:PySem.W.findIn K (.ref C) f=some (some u)
 rel:RelV v u
 get:PySem.W.specialIn K u "__get__" = some none
 cp:PySem.W.copiedNames.contains f=false
section
variable {X:Cx}{pins:List (Addr×Obj)}{σ:St}{H:Hp}{s:Shared}{A:Around}{E:Value->Shared->Prop}{Q:Value->Shared->Prop}{c:Value}{b:Bool}
inductive mB(K:Zfr)(H:Hp):V->Value->Prop where
 |non:mB K H .non (.type "NoneType")
 |bl (x:Bool):mB K H (.bl x) (.type "bool")
 |int (i:Int):mB K H (.int i) (.type "int")
 |str (x:Str):mB K H (.str x) (.type "str")
 |zM (x:UInt64):mB K H (.zM x) (.type "float")
 |lst {a:Addr} {xs:List V} (e:H a=some (.lst xs)):mB K H (.ref a) (.type "list")
 |mU {a:Addr} {o:Obj} {xs:List V} (e:H a=some (.mU o (.lst xs))):mB K H (.ref a) (.type "list")
 |tup {a:Addr} {xs:List V} (e:H a=some (.tup xs)):mB K H (.ref a) (.type "tuple")
 |dK {a:Addr} {kvs:List (Key×V)} (e:H a=some (.dK kvs)):mB K H (.ref a) (.type "dict")
 |dT {a:Addr} {kvs:List (List Key×V)} (e:H a=some (.dT kvs)):mB K H (.ref a) (.type "dict")
 | ins {a C dx:Addr} {fs:List (Str×V)} (e:H a=some (.ins C dx fs)) (cl:O9 K C) (ha:PySem.W.findIn K (.ref C) "__class__" = some (some (.builtin "object.__class__")))
   (hn:PySem.W.specialIn K (.builtin "object.__class__") "__get__" = some (some (.builtin "getset_descriptor.__get__"))) (htk:PySem.W.takesIn K (.builtin "object.__class__")=some true)
   (hm:PySem.W.mroIn K C (.type "object")=some true):mB K H (.ref a) (.ref C)
end
structure gW(k:Nat)(A:Around):Prop where
 hd:A.handled=none
 dp:A.depth+3*k+5<recursionLimit
 un:A.units+16*k+200<cLine
 gd:A.guards=some []
theorem gW.mono{j k:Nat}{A:Around}(r:gW k A)(h:j<=k):gW j A:=⟨r.hd,by have:=r.dp;omega,by have:=r.un;omega,r.gd⟩
theorem gW.deeper{k:Nat}{A:Around}(r:gW (k+1) A)(env:Env):gW k (A.deeper env) :=
 ⟨r.hd,by have:=r.dp;show A.depth+1+3*k+5<_;omega,by have:=r.un;show A.units+3+16*k+200<_;omega,r.gd⟩
theorem gW.depth{k:Nat}{A:Around}(r:gW k A):A.depth<recursionLimit:=by have:=r.dp;omega
theorem gW.units{k:Nat}{A:Around}(r:gW k A):A.units+64<cLine:=by have:=r.un;omega
noncomputable def Bt:TA:=fun _ H Q=>Q [] H
noncomputable def va(ta:TE)(tr:TA):TA:=fun σ H Q=>ta σ H fun x H1=>tr σ H1 fun xs H2=>Q (x :: xs) H2
section
variable {X:Cx}{e:Expr}{es:List Expr}{te:TE}{t:TA}{pos:Pos}
theorem ax:PA X [] Bt:=fun _ _ _ _ H Q I h=>Calls.spliced_nil ⟨[],H,I,.nil,h⟩
theorem ao(ha:PE X e te)(hr:PA X es t)(hs:starEach (e :: es) X.env=(false,eval e X.env) :: starEach es X.env:=by rfl):PA X (e :: es) (va te t):=by
 intro pos pins s σ H Q I h;rw [hs];show wpAny _ _ (spliced ((false,eval e X.env) :: backTo pos (starEach es X.env))) _ _ s;refine Calls.spliced_cons (c6 (ha pins s σ H _ I h) fun u s1 ⟨x,H1,I1,r1,q1⟩=>?_);exact c6 (hr pos pins s1 σ H1 _ I1 q1) fun us s2 ⟨xs,H2,I2,r2,q2⟩=>⟨x :: xs,H2,I2,.cons r1 r2,q2⟩
noncomputable def Bu(t:TA):TE:=fun σ H Q=>t σ H fun xs H1=>xs.length<=sizeLine/\∀p,H1 p=none->Q (.ref p) (upd H1 p (.tup xs))
noncomputable def Bv(t:TA):TE:=fun σ H Q=>t σ H fun xs H1=>xs.length<=sizeLine/\∀p,H1 p=none->Q (.ref p) (upd H1 p (.lst xs))
theorem d5{x1}(h:PA X es t):PE X (.Tuple es x1 pos) (Bu t):=by
 intro pins s σ H Q I hq;refine wpAny_Tuple_spliced (c6 (h pos pins s σ H _ I hq) fun us s1 ⟨xs,H1,I1,r,z,q⟩=>⟨by rw [<- r.length];exact z,?_⟩);have hf:H1 s1.heap.objs.size=none:=I1.hok.fresh (Wv _);refine ⟨.ref s1.heap.objs.size,upd H1 s1.heap.objs.size (.tup xs),I1.laid (t':=s1.toks) (fun b u e=>WJ _ e) (Wv _) ?_,rfl,q _ hf⟩;exact ⟨z,us,r,⟨_,WW _ rfl,rfl,rfl,_,rfl⟩⟩
theorem jN(h:PA X es t):PE X (.List es pos) (Bv t):=by
 intro pins s σ H Q I hq;refine wpAny_List_spliced (c6 (h pos pins s σ H _ I hq) fun us s1 ⟨xs,H1,I1,r,z,q⟩=>⟨by rw [<- r.length];exact z,?_⟩);have hf:H1 s1.heap.objs.size=none:=I1.hok.fresh (Wv _);refine ⟨.ref s1.heap.objs.size,upd H1 s1.heap.objs.size (.lst xs),I1.laid (t':=s1.toks) (fun b u e=>WJ _ e) (Wv _) ?_,rfl,q _ hf⟩;exact ⟨z,us,0,r,WW _ rfl⟩
end
abbrev Sp:=List V->Hp->VK->XK->Prop
abbrev p9:=List Env->Hp->Shared->XK->Value->Shared->Prop
structure uj(P:Program)(w:World)(K:Zfr)(mg:Str->Option Value)(base:Heap)(A:Around)(outer:List Env)(s:Shared)(H:Hp):Prop where
 frames:A.frames=some outer
 mod:Mod K mg base
 bs:∀b o,base.get? b=some o->s.heap.get? b=some o/\H b=none
 uV:base.objs.size<=s.heap.objs.size
 mV:s.heap.FunFrames base outer
 zP:∀b∈frs outer,H b=none
 hok:lF P w H s.heap
 bare:AllBare s.gens
noncomputable def CE(outer:List Env)(P:Program)(w:World)(H:Hp)(s:Shared)(Q:VK)(u:Value)(s':Shared):Prop :=
 ∃v H',s'.os=s.os/\AllBare s'.gens/\Un (frs outer) [] H H' s.heap s'.heap/\lF P w H' s'.heap/\RelV v u/\Q v H'
noncomputable def CR(CX:p9)(outer:List Env)(P:Program)(w:World)(H:Hp)(s:Shared)(Q:VK)(E:XK)(r:Result)(s':Shared):Prop :=
 match r with
 |.ok (.ret u)=>CE outer P w H s Q u s'
 |.ok _=>False
 |.error e=>CX outer H s E e s'
structure aJ(P:Program)(w:World)(K:Zfr)(mg:Str->Option Value)(base:Heap)(CX:p9)(k:Nat)(f:Addr)(fd:FuncData)(ps:List Str)(sp:Sp):Prop where
 len:∀vs H Q E,sp vs H Q E->vs.length=ps.length
 run:∀(A:Around) (outer:List Env) (s:Shared) (H:Hp) (args:Args) (us:List Value) (vs:List V) (Q:VK) (E:XK),gW k A->uj P w K mg base A outer s H->BindsTo s fd args (ps.zip us)->Vals vs us->sp vs H Q E ->
  codeAny (model P w) A (.call (.ref f) args) (CR CX outer P w H s Q E) s
theorem aJ.imp{P:Program}{w:World}{K:Zfr}{mg:Str->Option Value}{base:Heap}{CX:p9}{k:Nat}{f:Addr}{fd:FuncData}{ps:List Str}{sp K1:Sp}(F:aJ P w K mg base CX k f fd ps sp)
  (h:∀vs H Q E,K1 vs H Q E->sp vs H Q E):aJ P w K mg base CX k f fd ps K1 :=
 ⟨fun vs H Q E q=>F.len vs H Q E (h _ _ _ _ q),fun A outer s H args us vs Q E hr he hb hv hs=>F.run A outer s H args us vs Q E hr he hb hv (h _ _ _ _ hs)⟩
section
variable {X:Cx}{pins:List (Addr×Obj)}{σ:St}{H:Hp}{s s':Shared}
theorem Inv.Hu(I:Inv X pins σ H s):uj X.prog X.w X.K X.mg X.base X.A X.stack s H :=
 ⟨I.ok.frames,I.ok.mod,I.bs,WZ I.ok.uV I.sz,I.stack,I.pZ,I.hok,I.bare⟩
theorem Inv.after{Q:VK}{u:Value}(I:Inv X pins σ H s)(h:CE X.stack X.prog X.w H s Q u s'):EP X pins σ Q u s':=by
 obtain ⟨v,H',os,bare,un,hok,r,q⟩:=h;obtain ⟨hh,g,d,t,os'⟩:=s';obtain rfl:os'=s.os:=os;exact ⟨v,H',I.call (h':=hh) (g':=g) (d':=d) (t':=t) (ch:=[]) un hok bare (fun b z=>absurd z (by simp)),r,q⟩
end
noncomputable def oX(sp:Sp)(nP:List V)(E:XK)(t:TA):TE:=fun σ H Q=>t σ H fun vs H1=>sp (vs ++ nP) H1 Q E
noncomputable def Binds(K:Zfr)(fd:FuncData)(ps:List Str)(ds:List Value):Prop :=
 ∀(s:Shared) (us:List Value),K.In s.heap->(us ++ ds).length=ps.length->BindsTo s fd ⟨us,[]⟩ (ps.zip (us ++ ds))
theorem Binds.all{K:Zfr}{fd:FuncData}{ps:List Str}(h:∀us:List Value,us.length=ps.length->bindArgs fd ⟨us,[]⟩=pure (ps.zip us)):Binds K fd ps []:=fun s us _ hl=>by
 rw [Xy] at hl ⊢;exact .of_eq (h us hl)
noncomputable def Passes(CX:p9)(X:Cx)(E:XK):Prop:=∀(pins:List (Addr×Obj)) (σ:St) (H:Hp) (s:Shared) (e:Value) (s':Shared),Inv X pins σ H s->CX X.stack H s E e s'->X.xe e s'
section
variable {X:Cx}{CX:p9}{k:Nat}{f C:Addr}{fd:FuncData}{ps:List Str}{sp:Sp}{nP:List V}{ds:List Value}{E:XK}{x m:Str}{p pos apos:Pos}{e o:Expr}{es:List Expr}{ta:TE}{t:TA}
theorem xg{pins:List (Addr×Obj)}{σ:St}{H:Hp}{s:Shared}{Q:VK}{us:List Value}{vs:List V}(F:aJ X.prog X.w X.K X.mg X.base CX k f fd ps sp)(hr:gW k X.A)(hb:Binds X.K fd ps ds)(hd:Vals nP ds)(hx:Passes CX X E)
  (I:Inv X pins σ H s) (r:Vals vs us) (h:sp (vs ++ nP) H Q E):wpAny (model X.prog X.w) X.A (call (.ref f) us) (EP X pins σ Q) X.xe s:=by
 have r2:Vals (vs ++ nP) (us ++ ds):=r.append hd;have hl:(us ++ ds).length=ps.length:=by rw [<- r2.length];exact F.len _ _ _ _ h
 refine wpAny_call (codeAny_mono (F.run X.A X.stack s H ⟨us,[]⟩ (us ++ ds) (vs ++ nP) Q E hr I.Hu (hb s us I.zQ hl) r2 h) fun r s' hq=>?_);cases r with
 |error e=>exact hx pins σ H s e s' I hq
 |ok fl =>
  cases fl with
  |ret u=>exact I.after hq
  |next=>exact False.elim hq
  |brk=>exact False.elim hq
  |cont=>exact False.elim hq
theorem K2(F:aJ X.prog X.w X.K X.mg X.base CX k f fd ps sp)(hr:gW k X.A)(hg:Gl X x)(hm:X.mg x=some (.ref f))(hk:PySem.W.keepIn X.K (.ref f)=true)(hb:Binds X.K fd ps ds)(hd:Vals nP ds)(hx:Passes CX X E)
  (ha:PA X (e :: es) t) (hdb:(x == ("__debug__" : Str))=false:=by decide) (he:starEach (e :: es) X.env=(false,eval e X.env) :: starEach es X.env:=by rfl) (hpl:(backTo pos (starEach es X.env)).any (·.1)=false:=by rfl) :
  PE X (.Call (.Name x p) (e :: es) [] pos) (oX sp nP E t):=by
 intro pins s σ H Q I h;refine wpAny_Call_Name_kw (Kz I hg hm ?_ hdb);refine PySem.W.callWith_K (h₀:=X.base) I.ok.mod.Hf hk (c6 (ha pos pins s σ H _ I h) fun us s1 ⟨vs,H1,I1,r,q⟩=>⟨I1.zQ,?_⟩) he hpl;exact xg F hr hb hd hx I1 r q
end
structure aN(N P:List Str)(sc:Scope):Prop where
 kind:sc.kind=.function
 co:sc.isCoroutine=false
 gen:sc.isGenerator=false
 nd:N.Nodup
 pre:N.take P.length=P
 par:∀x∈P,sc.names.lookup x=some .local\/sc.names.lookup x=some .cell
 xh:∀y∈sc.names,y.2≠.free
theorem K3{kindOf:Str->Option NameKind}{x:Str}:∀{binds:List (Str×Value)} {m:Str->Option Value},(∀v,(x,v) ∉ binds)->bindL kindOf binds m x=m x
 |[],_,_=>rfl
 |(n,v) :: r,m,h=>by
  unfold bindL;rw [K3 fun w hw=>h w (WE _ hw)];split
  ·have:x≠n:=by rintro rfl;exact h v Wy
   simp [this]
  ·rfl
theorem K4{kindOf:Str->Option NameKind}{x:Str}:∀{binds:List (Str×Value)} {m:Str->Option Value},(∀v,(x,v) ∉ binds)->bindC kindOf binds m x=m x
 |[],_,_=>rfl
 |(n,v) :: r,m,h=>by
  unfold bindC;rw [K4 fun w hw=>h w (WE _ hw)];split
  ·rfl
  ·have:x≠n:=by rintro rfl;exact h v Wy
   simp [this]
theorem K5{kindOf:Str->Option NameKind}{x:Str}{v:Value}:∀{P:List Str} {vs:List Value} {i:Nat} {m:Str->Option Value},P.Nodup->P[i]?=some x->vs[i]?=some v->kindOf x=some .local ->
  bindL kindOf (P.zip vs) m x=some v
 |[],_,_,_,_,h,_,_=>by simp at h
 |_ :: _,[],_,_,_,_,h,_=>by simp at h
 |p :: P,w :: vs,0,m,nd,h1,h2,hk=>by
  simp at h1 h2;subst h1;subst h2;show bindL kindOf ((p,w) :: P.zip vs) m p=_;unfold bindL;rw [K3 fun v hv=>(Xc.mp nd).1 (List.of_mem_zip hv).1,if_pos hk];simp
 |p :: P,w :: vs,i+1,m,nd,h1,h2,hk=>by
  show bindL kindOf ((p,w) :: P.zip vs) m x=_;unfold bindL;exact K5 (i:=i) (Xc.mp nd).2 (by simpa using h1) (by simpa using h2) hk
theorem K7{kindOf:Str->Option NameKind}{x:Str}{v:Value}:∀{P:List Str} {vs:List Value} {i:Nat} {m:Str->Option Value},P.Nodup->P[i]?=some x->vs[i]?=some v->kindOf x≠some .local ->
  bindC kindOf (P.zip vs) m x=some v
 |[],_,_,_,_,h,_,_=>by simp at h
 |_ :: _,[],_,_,_,_,h,_=>by simp at h
 |p :: P,w :: vs,0,m,nd,h1,h2,hk=>by
  simp at h1 h2;subst h1;subst h2;show bindC kindOf ((p,w) :: P.zip vs) m p=_;unfold bindC;rw [K4 fun v hv=>(Xc.mp nd).1 (List.of_mem_zip hv).1,if_neg hk];simp
 |p :: P,w :: vs,i+1,m,nd,h1,h2,hk=>by
  show bindC kindOf ((p,w) :: P.zip vs) m x=_;unfold bindC;exact K7 (i:=i) (Xc.mp nd).2 (by simpa using h1) (by simpa using h2) hk
noncomputable def start(N:List Str)(vs:List V):St:=vs.map some ++ List.replicate (N.length-vs.length) none
noncomputable def gw(CX:p9)(P:Program)(w:World)(K:Zfr)(mg:Str->Option Value)(base:Heap)(N:List Str)(qual:Str)(scope:Scope)(f:Addr)(cd:Value)(A:Around)(outer:List Env)(s:Shared)(H:Hp)(E:XK):Cx where
 prog:=P
 w:=w
 K:=K
 mg:=mg
 base:=base
 A:=A.deeper (envOfC qual scope s.heap.objs.size f cd)
 N:=N
 s₀:=s
 H₀:=H
 env:=envOfC qual scope s.heap.objs.size f cd
 outer:=outer
 stack:=envOfC qual scope s.heap.objs.size f cd :: outer
 ex:=[]
 calm:=true
 fn:=fun _=>true
 pn:=[]
 xe:=fun e s'=>wpAny (model P w) (A.deeper (envOfC qual scope s.heap.objs.size f cd)) («leaving» (envOfC qual scope s.heap.objs.size f cd) e) (fun _ s''=>CX outer H s E e s'') (fun e' s''=>CX outer H s E e' s'') s'
theorem K8{sc:Scope}{n:Nat}{x:Str}(h:sc.names.lookup x=some .cell):∃c,(cellsFrom n sc.names []).lookup x=some c:=by
 have q:=PySem.W.cellsFrom_some sc.names n [] (.inl h);exact XT.mp q
theorem Pa{CX:p9}{P:Program}{w:World}{K:Zfr}{mg:Str->Option Value}{base:Heap}{N ps:List Str}{qual:Str}{scope:Scope}{f:Addr}{cd:Value}{A:Around}{outer:List Env}{s s1:Shared}{H:Hp}{E:XK}{us:List Value}{vs:List V}
  (S:aN N ps scope) (hd:A.handled=none) (e0:uj P w K mg base A outer s H) (hl:vs.length=ps.length) (r:Vals vs us)
  (x:InCallC s s.heap.objs.size (bindL (envOfC qual scope s.heap.objs.size f cd).kindOf (ps.zip us) fun _=>none) (cellsFrom (s.heap.objs.size+1) scope.names []) (bindC (envOfC qual scope s.heap.objs.size f cd).kindOf (ps.zip us) fun _=>none) s1) :
  Inv (gw CX P w K mg base N qual scope f cd A outer s H E) [] (start N vs) H s1:=by
 have hpl:ps.length<=N.length:=by have:=congrArg List.length S.pre;rw [Xj] at this;omega
 obtain ⟨h1,tk,rfl,hk⟩:=x.done;have Bw:∀b:Addr,b ∉ (gw CX P w K mg base N qual scope f cd A outer s H E).ex:=fun b z=>absurd (show b∈([]:List Addr) from z) (by simp)
 refine ⟨⟨e0.mod,S.kind,rfl,rfl,Wv _,fun y z c h1 h2=>?_,fun y hy=>?_,fun y c _ h=>?_,fun _=>hd,Around.frames_deeper e0.frames,.inr ⟨rfl,rfl⟩,fun b z=>absurd z (Bw b),e0.bs,e0.uV,fun b _ _=>Bw b,fun b z=>absurd z (Bw b),e0.mV,e0.zP⟩,
  rfl,e0.bare,Un.kept hk,⟨_,x.toInCall.ns,fun i y v h1 h2 h3=>?_⟩,fun y c h=>⟨_,x.cell y c h⟩,e0.hok.fresh (Wv _),fun y c h=>?_,fun p hp=>absurd (show p∈([]:List (Addr×Obj)) from hp) (by simp),e0.hok.kept hk,?_⟩
 ·exact name_of_addr x.apart (PySem.mem_of_lookup h1) (PySem.mem_of_lookup h2)
 ·have hy:scope.names.lookup y=some .cell\/scope.names.lookup y=some .free:=hy
  rcases hy with hy|hy
  ·exact K8 hy
  ·exact absurd rfl (S.xh _ (PySem.mem_of_lookup hy))
 ·exact Nat.le_of_lt (x.above y c (PySem.mem_of_lookup h))
 ·have hi:i < vs.length:=by
   unfold start at h2
   by_cases hi:i<vs.length
   ·exact hi
   ·rw [WN (by simpa using hi)] at h2
    rw [X0] at h2;split at h2<;>cases h2
  have ha:vs[i]?=some v:=by
   unfold start at h2;rw [WG (by simpa using hi),Wx] at h2;cases e:vs[i]? with
   |none=>rw [e] at h2;cases h2
   |some a=>rw [e] at h2;cases h2;rfl
  obtain ⟨u,hu,rv⟩:=r.get ha;have hp:ps[i]?=some y:=by
   rw [<- S.pre,List.getElem?_take_of_lt (by omega)];exact h1
  have K9:ps.Nodup:=by rw [<- S.pre];exact S.nd.sublist (List.take_sublist _ _)
  refine ⟨u,rv,?_⟩;rcases S.par y (Ww hp) with k|k
  ·exact .inl ⟨k,K5 K9 hp hu k⟩
  ·obtain ⟨c,e⟩:=K8 (n:=s.heap.objs.size+1) k
   refine .inr ⟨.inl k,c,e,?_⟩;have q:=x.cell y c e;rw [K7 K9 hp hu (by show scope.names.lookup y≠_;rw [k];decide)] at q;exact q
 ·exact e0.hok.fresh (Nat.le_of_lt (x.above y c (PySem.mem_of_lookup h)))
 ·unfold start
  show _=N.length;rw [Wt,Wo,X5];omega
theorem vd{CX:p9}{P:Program}{w:World}{K:Zfr}{mg:Str->Option Value}{base:Heap}{k:Nat}{f:Addr}{name qual:Str}{params:Arguments}{body:List Stmt}{scope:Scope}{dV kV doc pm cdv ct oc:Value}{an od:Option Addr}
  {osl:Array (Option Value)} {N ps:List Str} {sp:Sp} (lk:K.lookup f=some ⟨oc,od,.func (PySem.W.fnOf name qual params body scope dV kV doc pm an cdv ct),osl⟩) (hcd:PySem.W.codeIn K cdv qual=true) (S:aN N ps scope)
  (len:∀vs H Q E,sp vs H Q E->vs.length=ps.length)
  (hbody:∀(A:Around) (outer:List Env) (s:Shared) (H:Hp) (vs:List V) (Q:VK) (E:XK),gW k (A.deeper (envOfC qual scope s.heap.objs.size f cdv))->sp vs H Q E ->
   ∃t,p4 (gw CX P w K mg base N qual scope f cdv A outer s H E) body t/\t { nx:=fun _ H'=>Q .non H',rt:=Q } (start N vs) H) :
  aJ P w K mg base CX (k+1) f (PySem.W.fnOf name qual params body scope dV kV doc pm an cdv ct) ps sp:=by
 refine ⟨len,fun A outer s H args us vs Q E hr e0 hb r rg=>?_⟩;have hl:=len _ _ _ _ rg;have KX:K.In s.heap:=e0.mod.Hf.keeps fun b o e=>(e0.bs b o e).1;have lim:s.heap.NoLimit:=e0.mod.nolimit.keeps fun b o e=>(e0.bs b o e).1;have hkind:∀y∈ps.zip us,scope.names.lookup y.1=some .local\/(scope.names.lookup y.1=some .cell/\((cellsFrom (s.heap.objs.size+1) scope.names []).lookup y.1).isSome=true):=fun ⟨n,v⟩ hy=>by
  rcases S.par n (List.of_mem_zip hy).1 with q|q
  ·exact .inl q
  ·exact .inr ⟨q,PySem.W.cellsFrom_some _ _ _ (.inl q)⟩
 refine codeAny_call_function hr.depth (KX _ _ lk) rfl S.co S.gen rfl (PySem.W.codeRec_of KX hcd) (hb _ _ _ _ ?_);refine wpAny_newFunctionEnv_cells S.kind hkind fun env he s1 x=>?_;subst he;refine ⟨lim.keeps x.toInCall.keep,codeAny_func ?_⟩;obtain ⟨t,ht,hq⟩:=hbody A outer s H vs Q E (hr.deeper _) rg;have I:Inv (gw CX P w K mg base N qual scope f cdv A outer s H E) [] (start N vs) H s1:=Pa S hr.hd e0 hl r x;refine wpAny_mono (ht [] s1 (start N vs) H _ I hq) (fun fl s' hs=>?_) fun e s' hs=>hs;have fin:∀{σ':St} {H':Hp} {v:V} {u:Value},Inv (gw CX P w K mg base N qual scope f cdv A outer s H E) [] σ' H' s'->RelV v u->Q v H'->CE outer P w H s Q u s' :=
  fun {σ' H' v u} J rv q=>⟨v,H',J.os,J.bare,J.base,J.hok,rv,q⟩
 cases fl with
 |ret u =>
  obtain ⟨v,σ',H',J,rv,q⟩:=hs;exact fin J rv q
 |next =>
  obtain ⟨σ',H',J,q⟩:=hs;exact fin (v:=V.non) (u:=Value.none) J rfl q
 |brk =>
  obtain ⟨_,_,_,q⟩:=hs;exact False.elim q
 |cont =>
  obtain ⟨_,_,_,q⟩:=hs;exact False.elim q
section
variable {X:Cx}{x:Str}{p pos:Pos}{e:Expr}{es:List Expr}{t:TA}{id T:String}{r:List V->Hp->VK->Prop}
noncomputable def Hv(r:List V->Hp->VK->Prop)(t:TA):TE:=fun σ H Q=>t σ H fun vs H1=>r vs H1 Q
theorem fL(hc:gu X (.builtin id) r)(hg:Gl X x)(hm:X.mg x=none)(hv:bootBuiltins x=some (.builtin id))(ha:PA X (e :: es) t)(hn:x≠"__name__" := by decide)(hdb:(x == ("__debug__" : Str))=false:=by decide)
  (he:starEach (e :: es) X.env=(false,eval e X.env) :: starEach es X.env:=by rfl) (hpl:(backTo pos (starEach es X.env)).any (·.1)=false:=by rfl):PE X (.Call (.Name x p) (e :: es) [] pos) (Hv r t):=by
 intro pins s σ H Q I h;refine wpAny_Call_Name_kw (zS I hg hm hv ?_ hn hdb);exact PyProof.Rows.callWith_builtin1 (c6 (ha pos pins s σ H _ I h) fun us s1 ⟨vs,H1,I1,r1,q1⟩=>hc pins s1 σ H1 vs us Q I1 r1 q1) he hpl
theorem d6(hc:gu X (.type T) r)(hg:Gl X x)(hm:X.mg x=none)(hv:bootBuiltins x=some (.type T))(ha:PA X (e :: es) t)(hn:x≠"__name__" := by decide)(hdb:(x == ("__debug__" : Str))=false:=by decide)
  (he:starEach (e :: es) X.env=(false,eval e X.env) :: starEach es X.env:=by rfl) (hpl:(backTo pos (starEach es X.env)).any (·.1)=false:=by rfl):PE X (.Call (.Name x p) (e :: es) [] pos) (Hv r t):=by
 intro pins s σ H Q I h;refine wpAny_Call_Name_kw (zS I hg hm hv ?_ hn hdb);exact PyProof.Rows.callWith_type1 (c6 (ha pos pins s σ H _ I h) fun us s1 ⟨vs,H1,I1,r1,q1⟩=>hc pins s1 σ H1 vs us Q I1 r1 q1) he hpl
end
end L2
namespace HT
open PySem PyProof.Rows
theorem Pb(A:Around)(s:Shared)(a:Int)(t:Tok)(c:Int)(u:Tok):∃e,SeqAt.EqAt A s (.int a t) (.int c u) e/\(e=true↔a=c) :=
 ⟨(a == c),SeqAt.EqAt.int_int a t c u,by simp⟩
section
variable {prog:Program}{w:World}{A:Around}{E:Value->Shared->Prop}{s:Shared}
theorem Pc{t b:Addr}{vs ws:List Value}{Q:Value->Shared->Prop}(ht:IsTup s.heap t vs.toArray)(hb:IsTup s.heap b ws.toArray)(hv:vs≠[])
  (h1:ws=[]->Q (.ref t) s) (h2:ws≠[]->Q (.ref s.heap.objs.size) { s with heap:=s.heap.push { cls:=.type "tuple",data:=.seq (vs ++ ws).toArray } })
  (hsz:vs.length+ws.length<=sizeLine):wpAny (model prog w) A (binaryOp .Add (.ref t) (.ref b)) Q E s:=by
 obtain ⟨⟨cls,dd,data,sl⟩,ho,hc,n,hd⟩:=id ht;obtain ⟨⟨Hw,dd2,data2,sl2⟩,ho2,hc2,n2,hd2⟩:=id hb;simp only at hc hd hc2 hd2;subst hc hd hc2 hd2;have e:vs.toArray ++ ws.toArray=(vs ++ ws).toArray:=by simp
 by_cases hw:ws=[]
 ·exact concat_meets ⟨_,ho,rfl⟩ ⟨_,ho2,rfl⟩ noFill_tuple_add seq_tuple_add PySem.F.slot_tuple_add PySem.F.entry_tuple_add (PySem.F.args_tuple_add_2 _ _)
   (tuple_addW1 t b vs.toArray ws.toArray n n2 dd dd2 sl sl2 (by simpa using hv) (by simp [hw])) ⟨ho,ho2,h1 hw⟩
 ·refine concat_meets ⟨_,ho,rfl⟩ ⟨_,ho2,rfl⟩ noFill_tuple_add seq_tuple_add PySem.F.slot_tuple_add PySem.F.entry_tuple_add (PySem.F.args_tuple_add_2 _ _)
   (tuple_addW2 t b vs.toArray ws.toArray n n2 dd dd2 sl sl2 (by simpa using hv) (by simpa using hw) (by rw [WH,WH];exact hsz)) ⟨ho,ho2,?_⟩
  rw [e];exact h2 hw
noncomputable def c7(n d:Nat):Option Int->Nat
 |none=>d
 |some v=>if v<0 then (v+(n:Int)).toNat else min v.toNat n
theorem Pd(n d:Nat):c7 n d none=d:=rfl
theorem Pe(n d k:Nat):c7 n d (some (k:Int))=min k n:=by
 show (if (k:Int)<0 then ((k:Int)+(n:Int)).toNat else min (k:Int).toNat n)=min k n;rw [if_neg (by omega),WC]
theorem xi(n d:Nat)(hd:d<=n)(o:Option Int):c7 n d o<=n:=by
 cases o with
 |none=>exact hd
 |some v =>
  show (if v<0 then (v+(n:Int)).toNat else min v.toNat n)<=n
  by_cases hv:v<0
  ·rw [if_pos hv];omega
  ·rw [if_neg hv];exact Nat.min_le_right _ _
theorem La(v:Int)(n d:Nat):(if v<0 then max (v+(n:Int)) 0 else min v (n:Int))=((c7 n d (some v):Nat):Int):=by
 show (if v<0 then max (v+(n:Int)) 0 else min v (n:Int))=(((if v<0 then (v+(n:Int)).toNat else min v.toNat n):Nat):Int)
 by_cases hv:v<0
 ·simp only [if_pos hv];omega
 ·simp only [if_neg hv];omega
theorem Pf(lo hi:Option Int)(n:Nat):Builtin.Slice.sliceAdjust lo hi 1 (n:Int)=(((c7 n 0 lo:Nat):Int),((c7 n n hi:Nat):Int)):=by
 have h1:¬((1:Int)<0):=by omega
 unfold Builtin.Slice.sliceAdjust;simp only [h1,if_false];refine Prod.ext ?_ ?_
 ·cases lo with
  |none=>rfl
  |some v=>exact La v n 0
 ·cases hi with
  |none=>rfl
  |some v=>exact La v n n
theorem Pg(i j:Nat):Builtin.Slice.slicePlaces (i:Int) (j:Int) 1=j-i:=by
 unfold Builtin.Slice.slicePlaces;have h1:(1:Int) > 0:=by omega
 simp only [h1,if_true,Int.ediv_one];split<;>omega
theorem Lb{v:Value}{o:Option Int}{Q:Option Int->Shared->Prop}(p:IsPart v o)(h:Q o s):wpAny (model prog w) A (Builtin.Slice.slicePartIndex v) Q E s:=by
 cases p with
 |none=>exact slicePart_none h
 |int i t=>exact slicePart_int h
theorem Lc{sl:Addr}{vl vu:Value}{lo hi:Option Int}{n:Nat}{Q:Int×Int×Nat->Shared->Prop}(hs:s.heap.IsSliceOf sl vl vu .none)(pl:IsPart vl lo)(pu:IsPart vu hi)
  (h:Q (((c7 n 0 lo:Nat):Int),1,c7 n n hi-c7 n 0 lo) s):wpAny (model prog w) A (Builtin.Slice.sliceApplied (.ref sl) (pure (n:Int))) Q E s:=by
 obtain ⟨os,hos,hcs,hds⟩:=id hs;unfold Builtin.Slice.sliceApplied Builtin.Slice.sliceFields;refine wpAny_bind (wpAny_bind (wpAny_field hos hds (x:=vl) rfl (wpAny_bind (wpAny_field hos hds (x:=vu) rfl (wpAny_bind (wpAny_field hos hds (x:=.none) rfl (wpAny_pure ?_)))))));refine wpAny_bind (slicePart_none ?_);show wpAny _ _ (if ((1:Int) == 0)=true then _ else _) _ _ s;rw [if_neg (by decide)];refine wpAny_bind (Lb pl (wpAny_bind (Lb pu (wpAny_bind (wpAny_pure ?_)))));show wpAny _ _ (match Builtin.Slice.sliceAdjust lo hi 1 (n:Int) with|(lo,hi)=>pure (lo,(1:Int),Builtin.Slice.slicePlaces lo hi 1)) _ _ s;rw [Pf lo hi n];show wpAny _ _ (pure (((c7 n 0 lo:Nat):Int),(1:Int),Builtin.Slice.slicePlaces ((c7 n 0 lo:Nat):Int) ((c7 n n hi:Nat):Int) 1)) _ _ s;rw [Pg];exact wpAny_pure h
theorem Ph(xs:Array Value)(i k:Nat):((List.range k).filterMap fun (m:Nat)=>xs[((i:Int)+(m:Int)*1).toNat]?).toArray=((xs.toList.drop i).take k).toArray:=by
 have e:(fun (m:Nat)=>xs[((i:Int)+(m:Int)*1).toNat]?)=fun m=>xs[i+m]?:=by
  funext m
  have:((i:Int)+(m:Int)*1).toNat=i+m:=by omega
  rw [this]
 rw [e];have:=pick_run xs i k;rw [List.filterMap_map] at this;have e2:((fun x=>xs[x]?) ∘ fun x=>i+x)=fun m=>xs[i+m]?:=rfl;rw [e2] at this;rw [this]
theorem Pj{t sl:Addr}{items:Array Value}{vl vu:Value}{lo hi:Option Int}{Q:Value->Shared->Prop}(ht:IsTup s.heap t items)(hs:s.heap.IsSliceOf sl vl vu .none)(pl:IsPart vl lo)(pu:IsPart vu hi)
  (hw:¬(c7 items.size 0 lo=0/\c7 items.size items.size hi=items.size))
  (h:Q (.ref s.heap.objs.size) { s with heap:=s.heap.push { cls:=.type "tuple",data:=.seq ((items.toList.drop (c7 items.size 0 lo)).take (c7 items.size items.size hi-c7 items.size 0 lo)).toArray } })
  (hsz:items.size<=sizeLine):wpAny (model prog w) A (getItem (.ref t) (.ref sl)) Q E s:=by
 have qa:sizeOk (.seq ((items.toList.drop (c7 items.size 0 lo)).take (c7 items.size items.size hi-c7 items.size 0 lo)).toArray):=by
  show ((items.toList.drop (c7 items.size 0 lo)).take (c7 items.size items.size hi-c7 items.size 0 lo)).toArray.size<=sizeLine;rw [WH,Xj,XU,Array.length_toList];omega
 have hj:c7 items.size items.size hi<=items.size:=xi _ _ (Wv _) hi;obtain ⟨os,hos,hcs,hds⟩:=id hs;have Hx:s.TypeIs (.ref sl) "slice" := ⟨os,hos,hcs⟩;unfold getItem
 try with_reducible refine wpAny_holding ?_
 first|refine wpAny_bind (wpAny_pure ?_)|skip
 refine wpAny_bind (wpAny_sequenceKey ht.typeIs (by decide) ?_)
 refine wpAny_bind (wpAny_callSpecial?_slot (name:=Str.ofString "__getitem__") ht.typeIs PyProof.Rows.slot_tuple_getitem
  (wpAny_call_entry PyProof.Rows.slot_tuple_getitem ht.typeIs entry_tuple_getitem ?_ (args_tuple_getitem _ _)))
 show wpAny _ _ (Builtin.Tuple.tupleItemsOf (.ref t) >>= _) _ _ s;refine wpAny_bind (tupleItemsOf_ ht ?_);refine wpAny_bind (wpAny_typeOf Hx ?_);rw [if_pos (by decide)];refine wpAny_bind (Lc hs pl pu ?_);have hno:¬((((c7 items.size 0 lo:Nat):Int) == 0 && (1:Int) == 1 && (c7 items.size items.size hi-c7 items.size 0 lo) == items.size)=true):=by
  intro q;rw [WU,WU] at q;have q1:((c7 items.size 0 lo:Nat):Int)=0:=eq_of_beq q.1.1;have q2:c7 items.size items.size hi-c7 items.size 0 lo=items.size:=eq_of_beq q.2;exact hw ⟨by omega,by omega⟩
 show wpAny _ _ (if (((c7 items.size 0 lo:Nat):Int) == 0 && (1:Int) == 1 && (c7 items.size items.size hi-c7 items.size 0 lo) == items.size)=true then _ else _) _ _ s;rw [if_neg hno,Ph]
 first
  |exact wpAny_bind (m:=Builtin.Tuple.tupleExact _) (wpAny_newObj_type (wpAny_pure ⟨_,rfl,wpAny_pure h⟩) qa)
  |exact wpAny_bind (m:=Builtin.Tuple.tupleExact _) (wpAny_newObj_type (wpAny_bind (wpAny_pure (wpAny_pure ⟨_,rfl,wpAny_pure h⟩))) qa)
  |exact wpAny_bind (wpAny_bind (m:=Builtin.Tuple.tupleExact _) (wpAny_newObj_type (wpAny_pure (wpAny_pure ⟨_,rfl,wpAny_pure h⟩)) qa))
  |exact wpAny_bind (wpAny_bind (m:=Builtin.Tuple.tupleExact _) (wpAny_newObj_type (wpAny_pure ⟨_,rfl,wpAny_pure h⟩) qa))
end
end HT
namespace L2
open PySem PySem.Spec PyProof.Rows
abbrev TO:=St->Hp->(Option Int->Hp->Prop)->Prop
noncomputable def PO(X:Cx)(e:Option Expr)(t:TO):Prop :=
 ∀(pins:List (Addr×Obj)) (s:Shared) (σ:St) (H:Hp) (Q:Option Int->Hp->Prop),Inv X pins σ H s->t σ H Q ->
  wpAny (model X.prog X.w) X.A (evalPart e X.env) (fun u s'=>∃o H',Inv X pins σ H' s'/\IsPart u o/\Q o H') X.xe s
noncomputable def qb:TO:=fun _ H Q=>Q none H
noncomputable def ve(t:TE):TO:=fun σ H Q=>t σ H fun x H1=>∃i,x=.int i/\Q (some i) H1
theorem Hy{ns:List Int}:∀{us:List Value},Vals (ns.map V.int) us->IntsAre us ns:=by
 induction ns with
 |nil=>intro us r;rw [Xb] at r;cases r;exact .nil
 |cons n ns ih =>
  intro us r;rw [WM] at r;cases r with
  |cons r1 r2 =>
   obtain ⟨t,e⟩:=r1;subst e;exact .cons n t (ih r2)
section
variable {X:Cx}{e:Expr}{te:TE}{lo hi:Option Expr}{tl th:TO}{pos p2:Pos}
theorem Bx:PO X none qb:=by
 intro pins s σ H Q I h;rw [evalPart_none];exact wpAny_pure ⟨none,H,I,.none,h⟩
theorem By(h:PE X e te):PO X (some e) (ve te):=by
 intro pins s σ H Q I hw;rw [evalPart_some];refine c6 (h pins s σ H _ I hw) fun u s1 ⟨x,H1,I1,r1,q1⟩=>?_;obtain ⟨i,rfl,q⟩:=q1;obtain ⟨t,rfl⟩:=r1;exact ⟨some i,H1,I1,.int i t,q⟩
noncomputable def EM(X:Cx)(r:V->Option Int->Option Int->Hp->VK->Prop):Prop :=
 ∀(pins:List (Addr×Obj)) (s:Shared) (σ:St) (H:Hp) (x:V) (v vl vu:Value) (lo hi:Option Int) (sl:Addr) (Q:VK),Inv X pins σ H s->RelV x v->s.heap.IsSliceOf sl vl vu .none->IsPart vl lo->IsPart vu hi->r x lo hi H Q ->
  ∃T id,typeLookup (.type T) "__getitem__" = pure (some (.builtin id))/\s.TypeIs v T/\wpAny (model X.prog X.w) X.A (getItem v (.ref sl)) (EP X pins σ Q) X.xe s
noncomputable def Ld(r:V->Option Int->Option Int->Hp->VK->Prop)(te:TE)(tl th:TO):TE:=fun σ H Q=>te σ H fun x H1=>tl σ H1 fun l H2=>th σ H2 fun u H3=>r x l u H3 Q
theorem Bz{r:V->Option Int->Option Int->Hp->VK->Prop}(hr:EM X r)(he:PE X e te)(hl:PO X lo tl)(hu:PO X hi th):PE X (.Subscript e (.Slice lo hi none p2) pos) (Ld r te tl th):=by
 intro pins s σ H Q I h;refine Subscript_ (c6 (he pins s σ H _ I h) fun v s1 ⟨x,H1,I1,r1,q1⟩=>?_);refine wpAny_Slice (c6 (hl pins s1 σ H1 _ I1 q1) fun vl s2 ⟨l,H2,I2,pl,q2⟩=>c6 (hu pins s2 σ H2 _ I2 q2) fun vu s3 ⟨u,H3,I3,pu,q3⟩=>?_);rw [evalPart_none];refine wpAny_pure ?_;have I4:Inv X pins σ H3 { s3 with heap:=s3.heap.push { cls:=.type "slice",data:=.fields #[vl,vu,.none] } }:=I3.kept (t':=s3.toks) fun b ob q=>WJ _ q;obtain ⟨T,id,hT,ht,hg⟩:=hr pins { s3 with heap:=s3.heap.push { cls:=.type "slice",data:=.fields #[vl,vu,.none] } } σ H3 x v vl vu l u s3.heap.objs.size Q I4 r1 (Heap.IsSliceOf.new ..) pl pu q3;show wpAny (model X.prog X.w) X.A (subscriptTail e (.Slice lo hi none p2) v (.ref s3.heap.objs.size)) (EP X pins σ Q) X.xe { s3 with heap:=s3.heap.push { cls:=.type "slice",data:=.fields #[vl,vu,.none] } };exact tail_any (ops:=[.ref s3.heap.objs.size,v]) ht hT hg (by with_unfolding_all rfl)
noncomputable def mZ(xs:List V)(lo hi:Option Int):List V:=(xs.drop (HT.c7 xs.length 0 lo)).take (HT.c7 xs.length xs.length hi-HT.c7 xs.length 0 lo)
theorem Le(xs:List V)(lo hi:Option Int):(mZ xs lo hi).length<=xs.length:=by
 unfold mZ;rw [Xj,XU];omega
noncomputable def Hz(K:Zfr):V->Option Int->Option Int->Hp->VK->Prop:=fun x lo hi H Q=>∃a xs,x=.ref a/\fS K H a xs /\
 ¬(HT.c7 xs.length 0 lo=0/\HT.c7 xs.length xs.length hi=xs.length)/\∀p,H p=none->Q (.ref p) (upd H p (.tup (mZ xs lo hi)))
theorem xj:EM X (Hz X.K):=by
 intro pins s σ H x v vl vu lo hi sl Q I rx hs pl pu h;obtain ⟨a,xs,rfl,hx,hw,q⟩:=h;cases rx;obtain ⟨its,r,ht,hz⟩:=I.tuple hx;have hlen:its.toArray.size=xs.length:=by rw [WH];exact r.length.symm
 refine ⟨"tuple",_,PyProof.Rows.slot_tuple_getitem.lookup,ht.typeIs,?_⟩;refine HT.Pj ht hs pl pu (by rw [hlen];exact hw) ?_ (by rw [hlen];exact hz);rw [hlen];refine ⟨.ref s.heap.objs.size,_,I.laid (t':=s.toks) (o:=.tup (mZ xs lo hi)) (fun b ob q=>WJ _ q) (Wv _) ?_,rfl,q _ (I.hok.fresh (Wv _))⟩;exact ⟨WZ (Le xs lo hi) hz,_,(r.drop (HT.c7 xs.length 0 lo)).take (HT.c7 xs.length xs.length hi-HT.c7 xs.length 0 lo),nZ.new _ _⟩
noncomputable def BA(K:Zfr):R2:=fun x y H Q=>∃a b xs ys,x=.ref a/\y=.ref b/\fS K H a xs/\fS K H b ys/\xs≠[]/\xs.length+ys.length<=sizeLine /\
 (ys=[]->Q (.ref a) H)/\(ys≠[]->∀p,H p=none->Q (.ref p) (upd H p (.tup (xs ++ ys))))
theorem Vals.mK{xs:List V}{us:List Value}(r:Vals xs us):us=[]↔xs=[]:=by
 cases r with
 |nil=>simp
 |cons _ _=>simp
theorem Pk:kR X (binaryOp .Add) (BA X.K):=by
 intro pins s σ H x y v u Q I rx ry h;obtain ⟨a,b,xs,ys,rfl,rfl,ha,hb,hx,hz,q1,q2⟩:=h;cases rx;cases ry;obtain ⟨its,r1,p1,_⟩:=I.tuple ha;obtain ⟨its2,r2,p2,_⟩:=I.tuple hb;refine HT.Pc p1 p2 (fun z=>hx (r1.mK.mp z)) (fun z=>⟨.ref a,H,I,rfl,q1 (r2.mK.mp z)⟩) (fun z=>?_) (by rw [<- r1.length,<- r2.length];exact hz);refine ⟨.ref s.heap.objs.size,_,I.laid (t':=s.toks) (o:=.tup (xs ++ ys)) (fun b ob q=>WJ _ q) (Wv _) ?_,rfl,q2 (fun w=>z (r2.mK.mpr w)) _ (I.hok.fresh (Wv _))⟩;exact ⟨by rw [Wt];exact hz,_,r1.append r2,nZ.new _ _⟩
end
noncomputable def mC(n:Nat)(i:Int):Option Nat:=if 0<=i then (if i<n then some i.toNat else none) else if -(n:Int)<=i then some (i+n).toNat else none
noncomputable def eW{α:Type}(xs:List α)(i:Int):Option α:=(mC xs.length i).bind fun j=>xs[j]?
theorem HA{n:Nat}{i:Int}{j:Nat}(h:mC n i=some j):seqIndex? i n=some j/\j<n/\-(n:Int)<=i/\i<n:=by
 unfold mC at h
 by_cases h0:0<=i
 ·rw [if_pos h0] at h
  by_cases h1:i<n
  ·rw [if_pos h1] at h
   have e:i.toNat=j:=WD h;exact ⟨by rw [seqIndex_of h0 h1,e],by omega,by omega,h1⟩
  ·rw [if_neg h1] at h;cases h
 ·rw [if_neg h0] at h
  by_cases h1:-(n:Int)<=i
  ·rw [if_pos h1] at h
   have e:(i+n).toNat=j:=WD h;exact ⟨by rw [seqIndex_neg (by omega) h1,e],by omega,h1,by omega⟩
  ·rw [if_neg h1] at h;cases h
theorem Lf{α:Type}{xs:List α}{i:Int}{v:α}(h:eW xs i=some v):∃j,seqIndex? i xs.length=some j/\xs[j]?=some v/\j<xs.length/\-(xs.length:Int)<=i/\i<xs.length:=by
 unfold eW at h;cases e:mC xs.length i with
 |none=>rw [e] at h;cases h
 |some j =>
  rw [e] at h;obtain ⟨h1,h2,h3,h4⟩:=HA e;exact ⟨j,h1,h,h2,h3,h4⟩
theorem zX{α:Type}{xs:List α}{j:Nat}{v:α}(h:xs[j]?=some v):eW xs (j:Int)=some v:=by
 have hj:j<xs.length:=(Wq.mp h).1;have e:mC xs.length (j:Int)=some j:=by
  unfold mC;rw [if_pos (by omega),if_pos (by omega)];simp
 unfold eW;rw [e];exact h
noncomputable def uk(b:Expr):Prop:=∀o i,subscripted b false o i=operate [o,i] (getItem o i)
noncomputable def BB(X:Cx)(r:R2):Prop :=
 ∀(value slice:Expr) (pins:List (Addr×Obj)) (s:Shared) (σ:St) (H:Hp) (x y:V) (v u:Value) (Q:VK),Inv X pins σ H s->RelV x v->RelV y u->r x y H Q ->
  subscripted slice false v u=operate [v,u] (getItem v u)->wpAny (model X.prog X.w) X.A (subscriptTail value slice v u) (EP X pins σ Q) X.xe s
noncomputable def vf(X:Cx)(id:String)(r:V->List V->Hp->VK->Prop):Prop :=
 ∀(pins:List (Addr×Obj)) (s:Shared) (σ:St) (H:Hp) (x:V) (xs:List V) (v:Value) (us:List Value) (Q:VK),Inv X pins σ H s->RelV x v->Vals xs us->r x xs H Q ->
  wpAny (model X.prog X.w) X.A (call (.builtin id) (v :: us)) (EP X pins σ Q) X.xe s
section
variable {X:Cx}{a b:Expr}{ta tb:TE}{pos:Pos}
theorem bQ{r:R2}(hr:BB X r)(ha:PE X a ta)(hb:PE X b tb)(hs:uk b):PE X (.Subscript a b pos) (Bo r ta tb):=by
 intro pins s σ H Q I h;exact Subscript_ (w8 ha hb I h fun v u s2 x y H2 I2 rx ry q=>hr a b pins s2 σ H2 x y v u Q I2 rx ry q (hs _ _))
noncomputable def xk(K:Zfr):R2:=fun x y H Q=>∃p xs i v,x=.ref p/\y=.int i/\kj K H p xs/\eW xs i=some v/\Q v H
noncomputable def xl(K:Zfr):R2:=fun x y H Q=>∃p xs i v,x=.ref p/\y=.int i/\fS K H p xs/\eW xs i=some v/\Q v H
theorem iU:BB X (xk X.K):=by
 intro value slice pins s σ H x y v u Q I rx ry h hs;obtain ⟨p,xs,i,z,rfl,rfl,hq,he,q⟩:=h;cases rx;obtain ⟨t,rfl⟩:=ry;obtain ⟨its,r,pl,hz⟩:=I.list hq;obtain ⟨j,h1,h2,h3,h4,h5⟩:=Lf he;obtain ⟨w,ew,rw'⟩:=r.get h2;have hl:=r.length;have hn:=oe;have fin:EP X pins σ Q w s:=⟨z,H,I,rw',q⟩
 by_cases h0:0<=i
 ·have hj:i.toNat=j:=by
   rw [seqIndex_of h0 h5] at h1;exact WD h1
  exact item_listR pl.isList h0 (by omega) (by rw [hj];simpa using ew) fin hs
 ·have hj:(i + (its.toArray.size:Int)).toNat=j:=by
   rw [seqIndex_neg (by omega) h4] at h1;rw [WH,<- hl];exact WD h1
  exact subscriptTail_builtinR (x:=w) pl.isList.typeIs slot_list_getitem.lookup
   (wpAny_getItem_list_neg (Q:=fun r s'=>r=w/\EP X pins σ Q r s') pl.isList (by omega) (by rw [WH]<;>omega) (by omega) (by rw [hj];simpa using ew) ⟨rfl,fin⟩) hs
theorem fw:BB X (xl X.K):=by
 intro value slice pins s σ H x y v u Q I rx ry h hs;obtain ⟨p,xs,i,z,rfl,rfl,hq,he,q⟩:=h;cases rx;obtain ⟨t,rfl⟩:=ry;obtain ⟨its,r,pl,hz⟩:=I.tuple hq;obtain ⟨j,h1,h2,h3,h4,h5⟩:=Lf he;obtain ⟨w,ew,rw'⟩:=r.get h2;have hl:=r.length;have hn:=oe;have fin:EP X pins σ Q w s:=⟨z,H,I,rw',q⟩;exact subscriptTail_builtinR (x:=w) pl.typeIs slot_tuple_getitem.lookup
  (getItem_tuple (j:=j) (Q:=fun r s'=>r=w/\EP X pins σ Q r s') pl (by omega) (by omega) (by rw [WH,<- hl];exact h1) (by simpa using ew) ⟨rfl,fin⟩) hs
theorem Pm(its:List Value)(n j:Nat)(u:Value):Obj.mapSeq (·.setIfInBounds j u) { cls:=.type "list",data:=.seq its.toArray n }={ cls:=.type "list",data:=.seq (its.set j u).toArray n }:=by
 simp [Obj.mapSeq]
theorem Inv.lst{pins:List (Addr×Obj)}{σ:St}{H:Hp}{s:Shared}{p:Addr}{xs:List V}(I:Inv X pins σ H s)(h:H p=some (.lst xs)):
  ∃(its:List Value) (n:Nat),Vals xs its/\s.heap.get? p=some { cls:=.type "list",data:=.seq its.toArray n }/\xs.length<=sizeLine:=by
 obtain ⟨z,its,n,r,e⟩:=I.hok p _ h;exact ⟨its,n,r,e,z⟩
theorem Inv.xm{pins:List (Addr×Obj)}{σ:St}{H:Hp}{s:Shared}{p:Addr}{xs ys:List V}{its its':List Value}{n n':Nat}{f:Obj->Obj}(I:Inv X pins σ H s)(h:H p=some (.lst xs))
  (ho:s.heap.get? p=some { cls:=.type "list",data:=.seq its.toArray n }) (hf:f { cls:=.type "list",data:=.seq its.toArray n }={ cls:=.type "list",data:=.seq its'.toArray n' }) (r:Vals ys its') (hz:ys.length<=sizeLine) (t:Nat) :
  Inv X pins σ (upd H p (.lst ys)) { s with heap:=s.heap.update p f,toks:=t }:=by
 have e:(s.heap.update p f).get? p=some { cls:=.type "list",data:=.seq its'.toArray n' }:=by
  rw [Heap.get?_update_self f ho (by rw [hf]<;>rfl),hf]
 refine I.write (x:=p) (e:=p) (by rw [h];trivial) (.inl rfl) (fun b u hb q=>(Xl _ _ (Ne.symm hb)).trans q) ⟨_,e⟩ ?_;exact ⟨hz,its',n',r,e⟩
noncomputable def vg:V->V->V->Hp->(Hp->Prop)->Prop:=fun o i v H Q=>∃p xs k j,o=.ref p/\i=.int k/\H p=some (.lst xs)/\mC xs.length k=some j/\Q (upd H p (.lst (xs.set j v)))
theorem pI:Bg X vg:=by
 intro pins s σ H o i v ov iv u Q I ro ri rv h;obtain ⟨p,xs,k,j,rfl,rfl,hp,hj,q⟩:=h;cases ro;obtain ⟨t,rfl⟩:=ri;obtain ⟨its,n,r,ho,hz⟩:=I.lst hp;obtain ⟨h1,h2,h3,h4⟩:=HA hj;have hl:=r.length;have hn:=oe;have I':Inv X pins σ (upd H p (.lst (xs.set j v))) { s with heap:=s.heap.update p (Obj.mapSeq (·.setIfInBounds j u)) } :=
  I.xm hp ho (Pm its n j u) (r.set rv j) (by rw [W3];exact hz) s.toks
 by_cases h0:0<=k
 ·have hk:k.toNat=j:=by
   rw [seqIndex_of h0 h4] at h1;exact WD h1
  exact PySem.W.ki_setAt ho h0 (by omega) (by rw [WH,<- hl];exact h4) (by rw [hk];exact ⟨_,I',q⟩)
 ·have hk:(k + (its.toArray.size:Int)).toNat=j:=by
   rw [seqIndex_neg (by omega) h3] at h1;rw [WH,<- hl];exact WD h1
  exact PySem.W.ki_setBack ho (by omega) (by rw [WH,<- hl];exact h3) (by omega) (by rw [hk];exact ⟨_,I',q⟩)
theorem Pn(lo hi:Option Int)(n:Nat):(sliceBounds lo hi none n).1=((HT.c7 n 0 lo:Nat):Int)/\(sliceBounds lo hi none n).2.1=((HT.c7 n n hi:Nat):Int)/\(sliceBounds lo hi none n).2.2=1:=by
 refine ⟨?_,?_,rfl⟩
 ·cases lo with
  |none=>simp [sliceBounds,HT.c7]
  |some i =>
   simp only [sliceBounds,HT.c7,Option.getD_none,show (1:Int) > 0 by decide,if_true]
   by_cases h:i<0
   ·simp only [h,if_true]<;>omega
   ·simp only [h,if_false]<;>omega
 ·cases hi with
  |none=>simp [sliceBounds,HT.c7]
  |some i =>
   simp only [sliceBounds,HT.c7,Option.getD_none,show (1:Int) > 0 by decide,if_true]
   by_cases h:i<0
   ·simp only [h,if_true]<;>omega
   ·simp only [h,if_false]<;>omega
theorem Po(its:List Value)(lo hi:Option Int):slicePick its.toArray lo hi none=((its.drop (HT.c7 its.length 0 lo)).take (HT.c7 its.length its.length hi-HT.c7 its.length 0 lo)).toArray:=by
 obtain ⟨h1,h2,h3⟩:=Pn lo hi its.toArray.size;unfold slicePick;rw [h1,h2,h3];simp only [sliceRange_one,pick_run,WH]<;>rfl
noncomputable def BD(K:Zfr):V->Option Int->Option Int->Hp->VK->Prop:=fun x lo hi H Q=>∃a xs,x=.ref a/\kj K H a xs/\∀p,H p=none->Q (.ref p) (upd H p (.lst (mZ xs lo hi)))
theorem EN:EM X (BD X.K):=by
 intro pins s σ H x v vl vu lo hi sl Q I rx hs pl pu h;obtain ⟨a,xs,rfl,hx,q⟩:=h;cases rx;obtain ⟨its,r,ht,hz⟩:=I.list hx;have hlen:=r.length;refine ⟨"list",_,slot_list_getitem.lookup,ht.isList.typeIs,?_⟩;refine wpAny_getItem_list_slice ht.isList hs pl pu .none (by simp) ?_ (by rw [WH]<;>omega);rw [Po,<- hlen];refine ⟨.ref s.heap.objs.size,_,I.laid (t':=s.toks) (o:=.lst (mZ xs lo hi)) (fun b ob q=>WJ _ q) (Wv _) ?_,rfl,q _ (I.hok.fresh (Wv _))⟩;exact ⟨WZ (Le xs lo hi) hz,_,0,(r.drop (HT.c7 xs.length 0 lo)).take (HT.c7 xs.length xs.length hi-HT.c7 xs.length 0 lo),WW _ rfl⟩
noncomputable def kP:V->Bool
 |.non=>true
 |.bl _=>true
 |.int _=>true
 |.str _=>true
 |_=>false
noncomputable def vh:V->V->Bool
 |.non,.non=>true
 |.bl a,.bl b=>a == b
 |.bl a,.int b=>(if a then 1 else 0) == b
 |.int a,.bl b=>a == (if b then 1 else 0)
 |.int a,.int b=>a == b
 |.str a,.str b=>a == b
 |_,_=>false
theorem xn{A:Around}{s:Shared}{y x:V}{u v:Value}(ry:RelV y u)(rx:RelV x v)(fy:kP y=true)(fx:kP x=true):SeqAt.EqAt A s u v (vh y x):=by
 cases y with
 |non =>
  cases ry;cases x with
  |non=>cases rx;exact SeqAt.EqAt.same _
  |bl b=>cases rx;exact SeqAt.EqAt.none_bool b
  |int b=>obtain ⟨t,rfl⟩:=rx;exact SeqAt.EqAt.none_int b t
  |str b=>obtain ⟨t,rfl⟩:=rx;exact SeqAt.EqAt.none_str b t
  |_=>exact absurd (show false=true from fx) WA
 |bl a =>
  cases ry;cases x with
  |non=>cases rx;exact SeqAt.EqAt.bool_none a
  |bl b=>cases rx;exact SeqAt.EqAt.bool_bool a b
  |int b=>obtain ⟨t,rfl⟩:=rx;exact SeqAt.EqAt.bool_int a b t
  |str b=>obtain ⟨t,rfl⟩:=rx;exact SeqAt.EqAt.bool_str a b t
  |_=>exact absurd (show false=true from fx) WA
 |int a =>
  obtain ⟨t',rfl⟩:=ry;cases x with
  |non=>cases rx;exact SeqAt.EqAt.int_none a t'
  |bl b=>cases rx;exact SeqAt.EqAt.int_bool a t' b
  |int b=>obtain ⟨t,rfl⟩:=rx;exact SeqAt.EqAt.int_int a t' b t
  |str b=>obtain ⟨t,rfl⟩:=rx;exact SeqAt.EqAt.int_str a t' b t
  |_=>exact absurd (show false=true from fx) WA
 |str a =>
  obtain ⟨t',rfl⟩:=ry;cases x with
  |non=>cases rx;exact SeqAt.EqAt.str_none a t'
  |bl b=>cases rx;exact SeqAt.EqAt.str_bool a t' b
  |int b=>obtain ⟨t,rfl⟩:=rx;exact SeqAt.EqAt.str_int a t' b t
  |str b=>obtain ⟨t,rfl⟩:=rx;exact SeqAt.EqAt.str_str a t' b t
  |_=>exact absurd (show false=true from fx) WA
 |_=>exact absurd (show false=true from fy) WA
noncomputable def um(x:V)(u:Value):Bool:=match u with
 |.none=>vh .non x
 |.bool b=>vh (.bl b) x
 |.int i _=>vh (.int i) x
 |.str z _=>vh (.str z) x
 |_=>false
theorem Lg{x y:V}{u:Value}(r:RelV y u)(f:kP y=true):um x u=vh y x:=by
 cases y with
 |non=>cases r;rfl
 |bl b=>cases r;rfl
 |int i=>obtain ⟨t,rfl⟩:=r;rfl
 |str z=>obtain ⟨t,rfl⟩:=r;rfl
 |_=>exact absurd (show false=true from f) WA
theorem HB{x:V}:∀{xs:List V} {us:List Value},Vals xs us->xs.all kP=true->us.any (um x)=xs.any fun y=>vh y x
 |_,_,.nil,_=>rfl
 |y :: xs,u :: us,.cons r t,f=>by
  rw [List.all_cons,WU] at f;rw [Xo,Xo,Lg r f.1,HB t f.2]
theorem HC{A:Around}{s:Shared}{x:V}{v:Value}(rx:RelV x v)(fx:kP x=true):∀{xs:List V} {us:List Value},Vals xs us->xs.all kP=true->∀u∈us,SeqAt.EqAt A s u v (um x u)
 |_,_,.nil,_=>fun u hu=>by cases hu
 |y :: xs,u :: us,.cons r t,f=>fun u' hu=>by
  rw [List.all_cons,WU] at f;rcases WT.mp hu with rfl|hu
  ·rw [Lg r f.1];exact xn r rx f.1 fx
  ·exact HC rx fx t f.2 u' hu
noncomputable def vk(x:V)(xs:List V):Bool:=xs.any fun y=>vh y x
noncomputable def HD(K:Zfr)(neg:Bool):R2:=fun x y H Q=>∃p xs,y=.ref p/\(kj K H p xs\/fS K H p xs)/\kP x=true/\xs.all kP=true/\Q (.bl (if neg then !vk x xs else vk x xs)) H
theorem EO:kR X (compareOp .NotIn) (HD X.K true):=by
 intro pins s σ H x y v u Q I rx ry h;obtain ⟨p,xs,rfl,hq,fx,fs,q⟩:=h;cases ry;rcases hq with hq|hq
 ·obtain ⟨its,r,pl,hz⟩:=I.list hq
  refine SeqAt.notIn_listAt (um x) pl.isList (fun w hw=>HC rx fx r fs w (by simpa using hw)) ⟨.bl _,H,I,rfl,?_⟩;rw [show its.toArray.any (um x)=its.any (um x) by simp,HB r fs];exact q
 ·obtain ⟨its,r,pl,hz⟩:=I.tuple hq
  refine SeqAt.notIn_tupleAt (um x) pl (fun w hw=>HC rx fx r fs w (by simpa using hw)) ⟨.bl _,H,I,rfl,?_⟩;rw [show its.toArray.any (um x)=its.any (um x) by simp,HB r fs];exact q
theorem iD:gu X (.builtin "len") (fun xs H Q=>∃p ys,xs=[.ref p]/\(kj X.K H p ys\/fS X.K H p ys)/\Q (.int ys.length) H):=by
 intro pins s σ H xs us Q I r h;obtain ⟨p,ys,rfl,hq,q⟩:=h;obtain ⟨u,rfl,rx⟩:=vals1 r;cases rx;have hn:=oe;rcases hq with hq|hq
 ·obtain ⟨its,r',pl,hz⟩:=I.list hq
  have hlen:=r'.length;exact Calls.call_len_list pl.isList (by simp only [WH]<;>omega) ⟨.int ys.length,H,I.tok _,⟨s.toks+1,by rw [WH,hlen]⟩,q⟩
 ·obtain ⟨its,r',pl,hz⟩:=I.tuple hq
  have hlen:=r'.length;exact len_tuple pl (by simp only [WH]<;>omega) ⟨.int ys.length,H,I.tok _,⟨s.toks+1,by rw [WH,hlen]⟩,q⟩
theorem zY:gu X (.type "list") (fun xs H Q=>∃p ys,xs=[.ref p]/\(kj X.K H p ys\/fS X.K H p ys)/\∀l,H l=none->Q (.ref l) (upd H l (.lst ys))):=by
 intro pins s σ H xs us Q I r h;obtain ⟨p,ys,rfl,hq,q⟩:=h;obtain ⟨u,rfl,rx⟩:=vals1 r;cases rx;have fin:∀ (its:List Value),Vals ys its->ys.length<=sizeLine->∀ (h':Heap) (c':Nat),(∀ b o',s.heap.get? b=some o'->h'.get? b=some o') ->
   h'.get? s.heap.objs.size=some { cls:=.type "list",dict:=none,data:=.seq its.toArray c',slots:=#[] }->EP X pins σ Q (.ref s.heap.objs.size) { s with heap:=h' }:=fun its r' hz h' c' kp e =>
  ⟨.ref s.heap.objs.size,_,I.laid (t':=s.toks) kp (Wv _) (show cG X.prog X.w _ h' _ (.lst ys) from ⟨hz,its,c',r',e⟩),rfl,q _ (I.hok.fresh (Wv _))⟩
 rcases hq with hq|hq
 ·obtain ⟨its,r',pl,hz⟩:=I.list hq
  have hlen:=r'.length;obtain ⟨o,ho,hc,n,hd⟩:=pl.isList;exact call_list_seq p (.inl rfl) ho hc hd (fun h' c' kp e=>fin its r' hz h' c' kp e) (by simp only [WH]<;>omega)
 ·obtain ⟨its,r',pl,hz⟩:=I.tuple hq
  have hlen:=r'.length;obtain ⟨o,ho,hc,n,hd⟩:=pl;exact call_list_seq p (.inr rfl) ho hc hd (fun h' c' kp e=>fin its r' hz h' c' kp e) (by simp only [WH]<;>omega)
theorem mD:gu X (.type "tuple") (fun xs H Q=>∃p ys,xs=[.ref p]/\((kj X.K H p ys/\∀l,H l=none->Q (.ref l) (upd H l (.tup ys)))\/(fS X.K H p ys/\Q (.ref p) H))):=by
 intro pins s σ H xs us Q I r h;obtain ⟨p,ys,rfl,h⟩:=h;obtain ⟨u,rfl,rx⟩:=vals1 r;cases rx;rcases h with ⟨hq,q⟩|⟨hq,q⟩
 ·obtain ⟨its,r',pl,hz⟩:=I.list hq
  have hlen:=r'.length;refine call_tuple_list pl.isList (fun h' kp=>?_) (by simp only [WH]<;>omega);have I1:Inv X pins σ H { s with heap:=h' }:=I.kept (t':=s.toks) kp;have I2:Inv X pins σ (upd H h'.objs.size (.tup ys)) { s with heap:=h'.push { cls:=.type "tuple",data:=.seq its.toArray } } :=
   I1.laid (t':=s.toks) (fun b o e=>WJ _ e) (Wv _) (show cG X.prog X.w _ _ _ (.tup ys) from ⟨hz,its,r',nZ.new _ _⟩)
  exact ⟨.ref h'.objs.size,_,I2,rfl,q _ (I1.hok.fresh (Wv _))⟩
 ·obtain ⟨its,r',pl,hz⟩:=I.tuple hq
  exact call_tuple_same pl ⟨.ref p,H,I,rfl,q⟩
noncomputable def ER(K:Zfr)(T:String)(x:V)(H:Hp):Prop:=match x with
 |.str _=>T="str"
 |.int _=>T="int"
 | .ref p=>(T="list" /\ ∃ xs,kj K H p xs)\/(T="tuple" /\ ∃ xs,fS K H p xs) \/
   (T="dict" /\ ((∃kvs,H p=some (.dK kvs))\/∃kvs,H p=some (.dT kvs)))\/(T="set" /\ ∃S n,H p=some (.set S n))
 |_=>False
theorem Lh{pins:List (Addr×Obj)}{σ:St}{H:Hp}{s:Shared}{T:String}{x:V}{v:Value}(I:Inv X pins σ H s)(r:RelV x v)(ty:ER X.K T x H):
  s.TypeIs v T/\∀a,v=.ref a->∃ob,s.heap.get? a=some ob/\ob.dict=none:=by
 cases x with
 |str z =>
  obtain ⟨t,rfl⟩:=r;cases (show T="str" from ty);exact ⟨typeIs_str s z t,fun _ e=>nomatch e⟩
 |int i =>
  obtain ⟨t,rfl⟩:=r;cases (show T="int" from ty);exact ⟨typeIs_int s i t,fun _ e=>nomatch e⟩
 |ref p =>
  cases r;rcases ty with ⟨rfl,xs,hq⟩|⟨rfl,xs,hq⟩|⟨rfl,hk⟩|⟨rfl,S,n,hk⟩
  ·obtain ⟨its,_,pl,_⟩:=I.list hq
   refine ⟨pl.isList.typeIs,fun a e=>?_⟩;cases e;obtain ⟨o,n,e,c,hd,_⟩:=pl;exact ⟨o,e,hd⟩
  ·obtain ⟨its,_,⟨o,e,c,d,_⟩,_⟩:=I.n8 hq
   refine ⟨⟨o,e,c⟩,fun a e2=>?_⟩;cases e2;exact ⟨o,e,d⟩
  ·have z:∃ o,s.heap.get? p=some o/\o.ExactDict:=by
    rcases hk with ⟨kvs,hk⟩|⟨kvs,hk⟩
    ·obtain ⟨_,_,_,_,o,_,_,e,ex,_⟩:=I.hok p _ hk
     exact ⟨o,e,ex⟩
    ·obtain ⟨_,_,_,_,o,_,_,e,ex,_⟩:=I.hok p _ hk
     exact ⟨o,e,ex⟩
   obtain ⟨o,e,ex⟩:=z;refine ⟨⟨o,e,ex.1⟩,fun a e2=>?_⟩;cases e2;exact ⟨o,e,ex.2.1⟩
  ·obtain ⟨o,_,_,_,e,ex,_⟩:=I.hok p _ hk
   refine ⟨⟨o,e,ex.1⟩,fun a e2=>?_⟩;cases e2;exact ⟨o,e,ex.2.1⟩
 |_=>exact False.elim ty
noncomputable def BE(K:Zfr)(T:String)(r:V->List V->Hp->VK->Prop)(to:TE):TE:=fun σ H Q=>to σ H fun x H1=>ER K T x H1/\r x [] H1 Q
noncomputable def HE(K:Zfr)(T:String)(r:V->List V->Hp->VK->Prop)(to:TE)(t:TA):TE:=fun σ H Q=>to σ H fun x H1=>ER K T x H1/\t σ H1 fun xs H2=>r x xs H2 Q
variable {o e:Expr}{es:List Expr}{to:TE}{t:TA}{name:Str}{apos cpos:Pos}{T id:String}{r:V->List V->Hp->VK->Prop}
theorem Li(pa:PlainAttrs T)(slot:Slot T name id)(hty:typeOf (.builtin id)=pure (.type "method_descriptor"))(hm:vf X id r)(ho:PE X o to)
  (hbase:attributeBase o name X.env (eval o X.env)=eval o X.env:=by rfl) (hline:(apos.endLine == cpos.line)=true:=by rfl):PE X (.Call (.Attribute o name apos) [] [] cpos) (BE X.K T r to):=by
 intro pins s σ H Q I h;refine wpAny_Call_method0_late hbase hline (c6 (ho pins s σ H _ I h) fun v s1 ⟨x,H1,I1,r1,ty,q1⟩=>?_);obtain ⟨h1,h2⟩:=Lh I1 r1 ty;exact ⟨T,id,pa,slot,hty,h1,h2,Calls.callWith_builtin rfl (PySem.evalArgs_none (hm pins s1 σ H1 x [] v [] Q I1 r1 .nil q1))⟩
theorem lH(pa:PlainAttrs T)(slot:Slot T name id)(hty:typeOf (.builtin id)=pure (.type "method_descriptor"))(hm:vf X id r)(ho:PE X o to)(ha:PA X (e :: es) t)
  (hbase:attributeBase o name X.env (eval o X.env)=eval o X.env:=by rfl)
  (hfew:((backTo cpos (starEach (e :: es) X.env)).all (fun x=>!x.1) && (backToKw cpos (keywordEach [] X.env)).all (fun x=>x.1.isSome)
   && decide ((e :: es).length+([]:List Keyword).length+(if ([]:List Keyword).isEmpty then 0 else 1)<30))=true:=by rfl)
  (hline:(apos.endLine == cpos.line)=true:=by rfl) (hs:starEach (e :: es) X.env=(false,eval e X.env) :: starEach es X.env:=by rfl) (hplain:(backTo cpos (starEach es X.env)).any (·.1)=false:=by rfl) :
  PE X (.Call (.Attribute o name apos) (e :: es) [] cpos) (HE X.K T r to t):=by
 intro pins s σ H Q I h;refine wpAny_Call_method_late hbase hfew hline rfl (c6 (ho pins s σ H _ I h) fun v s1 ⟨x,H1,I1,r1,ty,q1⟩=>?_);obtain ⟨h1,h2⟩:=Lh I1 r1 ty;refine ⟨T,id,pa,slot,hty,h1,h2,?_⟩;have hA:=ha cpos pins s1 σ H1 _ I1 q1;rw [hs] at hA ⊢;refine Calls.callWith_builtin (by show (false || (backTo cpos (starEach es X.env)).any (·.1))=false;rw [hplain]<;>rfl) (Calls.evalArgs_plain ?_);exact c6 hA fun us s2 ⟨vs,H2,I2,r2,q2⟩=>hm pins s2 σ H2 x vs v us Q I2 r1 r2 q2
end
noncomputable def BF(X:Cx)(id:String)(r:V->List V->Hp->VK->Prop):Prop :=
 ∀(pins:List (Addr×Obj)) (s:Shared) (σ:St) (H:Hp) (x:V) (xs:List V) (v:Value) (us:List Value) (Q:VK),Inv X pins σ H s->RelV x v->Vals xs us->r x xs H Q ->
  wpAny (model X.prog X.w) X.A (call (.builtin id) (v :: us)) (EP X pins σ Q) X.xe s
theorem Vals.one:∀{x:V} {us:List Value},Vals [x] us->∃u,us=[u]/\RelV x u
 |_,_,.cons r .nil=>⟨_,rfl,r⟩
theorem Vals.zero:∀{us:List Value},Vals [] us->us=[]
 |_,.nil=>rfl
theorem Vals.dropLast{xs:List V}{us:List Value}(h:Vals xs us):Vals xs.dropLast us.dropLast:=by
 induction h with
 |nil=>exact .nil
 |cons r t ih =>
  cases t with
  |nil=>exact .nil
  |cons q t'=>exact .cons r ih
theorem Vals.eraseIdx:∀{xs:List V} {us:List Value} (i:Nat),Vals xs us->Vals (xs.eraseIdx i) (us.eraseIdx i)
 |_,_,_,.nil=>.nil
 |_,_,0,.cons _ t=>t
 |_,_,i+1,.cons r t=>.cons r (Vals.eraseIdx i t)
theorem Vals.rep{xs:List V}{us:List Value}(h:Vals xs us):∀k:Nat,Vals (List.replicate k xs).flatten (List.replicate k us).flatten
 |0=>.nil
 |k+1=>by
  rw [Xg,Xg,XH,XH];exact Vals.append h (Vals.rep h k)
theorem Pp{α:Type}(l:List α):l.eraseIdx (l.length-1)=l.dropLast:=by
 induction l with
 |nil=>rfl
 |cons a r ih =>
  cases r with
  |nil=>rfl
  |cons b r =>
   have e:(a :: b :: r).length-1=((b :: r).length-1)+1:=by
    have h1:(a :: b :: r).length=r.length+2:=rfl;have h2:(b :: r).length=r.length+1:=rfl;omega
   rw [e,List.eraseIdx_cons_succ,ih]
   all_goals rfl
theorem Lj{α:Type}:∀(l:List α) (i:Nat),(l.eraseIdx i).length<=l.length
 |[],_=>Wv _
 |_ :: _,0=>Nat.le_succ _
 |_ :: r,i+1=>Nat.succ_le_succ (Lj r i)
theorem Lk(its:List Value):∀(k:Nat) (acc:List Value),
  List.foldl (fun x1 x2=>x1 ++ x2) acc.toArray (List.replicate k its.toArray)=(acc ++ (List.replicate k its).flatten).toArray
 |0,acc=>by simp
 |k+1,acc=>by
  have e:acc.toArray ++ its.toArray=(acc ++ its).toArray:=by simp
  have e2:(acc ++ its) ++ (List.replicate k its).flatten=acc ++ (List.replicate (k+1) its).flatten:=by
   rw [Xg,XH,XI]
  rw [<- e2,<- Lk its k (acc ++ its),<- e,Xg,List.foldl_cons]
section
variable {X:Cx}{pins:List (Addr×Obj)}{σ:St}{H:Hp}{s:Shared}{l b:Addr}{xs ys zs:List V}
theorem Inv.rO{its its':List Value}{n:Nat}{f:Array Value->Array Value}{t':Nat}(I:Inv X pins σ H s)(hH:H l=some (.lst xs))
  (e:s.heap.get? l=some { cls:=.type "list",data:=.seq its.toArray n }) (hf:f its.toArray=its'.toArray) (hv:Vals ys its') (hz:ys.length<=sizeLine) :
  Inv X pins σ (upd H l (.lst ys)) { s with heap:=s.heap.update l (Obj.mapSeq f),toks:=t' }:=by
 have q:=PySem.IsL.update e f;rw [hf] at q;refine I.write (x:=l) (e:=l) (by rw [hH];exact trivial) (.inl rfl) (fun b' u hb hu=>(Xl s.heap (Obj.mapSeq f) (Ne.symm hb)).trans hu) ⟨_,q⟩ ?_;exact ⟨hz,its',_,hv,q⟩
theorem Inv.BG{its:List Value}{t':Nat}(I:Inv X pins σ H s)(hv:Vals ys its)(hz:ys.length<=sizeLine):
  Inv X pins σ (upd H s.heap.objs.size (.lst ys)) { s with heap:=s.heap.push { cls:=.type "list",data:=.seq its.toArray },toks:=t' } :=
 I.laid (fun _ _ q=>WJ _ q) (Wv _) ⟨hz,its,0,hv,WW _ rfl⟩
theorem Inv.fresh(I:Inv X pins σ H s):H s.heap.objs.size=none:=I.hok.fresh (Wv _)
theorem Inv.oY(I:Inv X pins σ H s)(hH:H l=some (.lst xs)):xs.length<=sizeLine/\∃(its:List Value) (n:Nat),Vals xs its/\xs.length=its.length/\s.heap.get? l=some { cls:=.type "list",data:=.seq its.toArray n }:=by
 obtain ⟨z,its,n,r,e⟩:=I.hok l _ hH;exact ⟨z,its,n,r,r.length,e⟩
theorem rP{n:Nat}(h:n<=sizeLine):Builtin.List.listTooLong n=false:=by
 unfold Builtin.List.listTooLong;exact decide_eq_false (by omega)
end
section
variable {X:Cx}
noncomputable def qc:V->List V->Hp->VK->Prop:=fun x vs H Q=>∃l xs y,x=.ref l/\vs=[y]/\H l=some (.lst xs)/\xs.length<sizeLine/\Q .non (upd H l (.lst (xs ++ [y])))
theorem og:BF X "list.append" qc:=by
 intro pins s σ H x vs v us Q I rx rv h;obtain ⟨l,xs,y,rfl,rfl,hH,hz,q⟩:=h;cases rx;obtain ⟨u,rfl,ru⟩:=rv.one;obtain ⟨z,its,n,r,hl,e⟩:=I.oY hH;refine call_meets F.slot_list_append ⟨_,e,rfl⟩ F.entry_list_append (F.args_list_append_2 _ _) (PySem.list_append l its.toArray n u (by rw [WH];omega)) ⟨e,?_⟩;refine ⟨.non,_,I.rO (its':=its ++ [u]) hH e (by simp) (r.append (.cons ru .nil)) ?_,rfl,q⟩;rw [Wt,XG];omega
noncomputable def BH:V->List V->Hp->VK->Prop:=fun x vs H Q=>∃l xs y,x=.ref l/\vs=[]/\H l=some (.lst xs)/\xs[xs.length-1]?=some y/\Q y (upd H l (.lst xs.dropLast))
theorem Ll:BF X "list.pop" BH:=by
 intro pins s σ H x vs v us Q I rx rv h;obtain ⟨l,xs,y,rfl,rfl,hH,hy,q⟩:=h;cases rx;have Pq:=rv.zero;subst Pq;obtain ⟨z,its,n,r,hl,e⟩:=I.oY hH;obtain ⟨u,hu,ru⟩:=r.get hy;have hy':its.toArray[its.toArray.size-1]?=some u:=by
  show its.toArray[its.length-1]?=some u;rw [<- X7,<- hl];exact hu
 refine call_meets F.slot_list_pop ⟨_,e,rfl⟩ F.entry_list_pop (F.args_list_pop_1 _) (MeetsSeq.list_pop_last l its.toArray n u hy' (by rw [WH];omega)) ⟨e,?_⟩;refine ⟨y,_,I.rO (its':=its.dropLast) hH e ?_ r.dropLast ?_,ru,q⟩
 ·show its.toArray.eraseIdxIfInBounds (its.toArray.size-1)=its.dropLast.toArray
  rw [WH,XZ,Pp]
 ·rw [List.length_dropLast]
  omega
noncomputable def rQ:V->List V->Hp->VK->Prop:=fun x vs H Q=>∃l xs i k y,x=.ref l/\vs=[.int i]/\H l=some (.lst xs)/\-(2 ^ 63)<=i/\i<2 ^ 63/\seqIndex? i xs.length=some k/\xs[k]?=some y/\Q y (upd H l (.lst (xs.eraseIdx k)))
theorem Lm:BF X "list.pop" rQ:=by
 intro pins s σ H x vs v us Q I rx rv h;obtain ⟨l,xs,i,k,y,rfl,rfl,hH,h1,h2,hk,hy,q⟩:=h;cases rx;obtain ⟨u,rfl,ru⟩:=rv.one;obtain ⟨t,rfl⟩:=ru;obtain ⟨z,its,n,r,hl,e⟩:=I.oY hH;obtain ⟨w,hw,rw'⟩:=r.get hy;refine call_meets F.slot_list_pop ⟨_,e,rfl⟩ F.entry_list_pop (F.args_list_pop_2 _ _)
  (MeetsSeq.list_pop_at l its.toArray n i t k w (fitsIndex_both h1 h2) (by rw [WH,<- hl];exact hk) (by rw [<- X7];exact hw) (by rw [WH];omega)) ⟨e,?_⟩
 refine ⟨y,_,I.rO (its':=its.eraseIdx k) hH e ?_ (r.eraseIdx k) ?_,rw',q⟩
 ·show its.toArray.eraseIdxIfInBounds k=(its.eraseIdx k).toArray
  rw [XZ]
 ·have:=Lj xs k
  omega
noncomputable def BI:R2:=fun x y H Q=>∃l b xs zs,x=.ref l/\y=.ref b/\H l=some (.lst xs)/\H b=some (.lst zs)/\xs.length+zs.length<=sizeLine/\∀p,H p=none->Q (.ref p) (upd H p (.lst (xs ++ zs)))
theorem qL:kR X (binaryOp .Add) BI:=by
 intro pins s σ H x y v u Q I rx ry h;obtain ⟨l,b,xs,zs,rfl,rfl,hH,hB,hz,q⟩:=h;cases rx;cases ry;obtain ⟨z,its,n,r,hl,e⟩:=I.oY hH;obtain ⟨z2,its2,n2,r2,hl2,e2⟩:=I.oY hB;refine PySem.P.add_list e e2 ?_ (by rw [WH,WH];omega);have ea:its.toArray ++ its2.toArray=(its ++ its2).toArray:=by simp
 rw [ea];exact ⟨.ref _,_,I.BG (t':=s.toks) (r.append r2) (by rw [Wt];omega),rfl,q _ I.fresh⟩
noncomputable def BJ:R2:=fun x y H Q=>∃l k xs,x=.ref l/\y=.int k/\H l=some (.lst xs)/\-(2 ^ 63)<=k/\k<2 ^ 63/\xs.length*k.toNat<=sizeLine /\
 ∀p,H p=none->Q (.ref p) (upd H p (.lst (List.replicate k.toNat xs).flatten))
theorem Pr{α:Type}(xs:List α)(k:Nat):(List.replicate k xs).flatten.length=k*xs.length:=by
 induction k with
 |zero=>simp
 |succ k ih=>rw [Xg,XH,Wt,ih,Nat.succ_mul,Nat.add_comm]
theorem Ln:kR X (binaryOp .Mult) BJ:=by
 intro pins s σ H x y v u Q I rx ry h;obtain ⟨l,k,xs,rfl,rfl,hH,h1,h2,hz,q⟩:=h;cases rx;obtain ⟨t,rfl⟩:=ry;obtain ⟨z,its,n,r,hl,e⟩:=I.oY hH;have hlen:its.toArray.size*k.toNat<=sizeLine:=by rw [WH,<- hl];exact hz
 have hcap:¬its.toArray.size*k.toNat > (2 ^ 63-1) / 8:=by
  have:(sizeLine:Nat)<=(2 ^ 63-1) / 8:=by decide
  omega
 have hfit:¬(!Builtin.List.listFitsIndex k)=true:=by
  rw [fitsIndex_both h1 h2];exact WA
 have BK:¬Builtin.List.listTooLong (its.toArray.size*k.toNat)=true:=by
  rw [rP hlen];exact WA
 have hnew:List.foldl (fun x1 x2=>x1 ++ x2) #[] (List.replicate (if its.toArray.isEmpty=true then 0 else k.toNat) its.toArray)=(List.replicate k.toNat its).flatten.toArray:=by
  have f0:∀m:Nat,List.foldl (fun x1 x2=>x1 ++ x2) #[] (List.replicate m its.toArray)=(List.replicate m its).flatten.toArray:=fun m=>by
   have:=Lk its m [];rw [List.nil_append] at this;exact this
  rw [f0];cases its with
  |nil=>simp
  |cons a r'=>rw [if_neg (by simp)]
 refine wpAny_binaryOp_repeat_ref (T:="list") (U:="int") (by decide) ⟨_,e,rfl⟩ (fun s'=>typeIs_int s' k t) noFill_list_mul F.fills_int_mul F.slot_int_rmul repeat_list F.slot_int_index.lookup
  (call_meets F.slot_int_rmul (typeIs_int s k t) F.entry_int_rmul (F.args_int_rmul_2 _ _) (int___rmul___int_list k t l its.toArray n)
   ⟨e,rfl,⟨_,e,rfl⟩,call_meets F.slot_list_mul ⟨_,e,rfl⟩ F.entry_list_mul (F.args_list_mul_2 _ _) (AutoListH.list___mul___list_int_3 l its.toArray n k t hfit hcap BK) ⟨e,?_⟩⟩)
 rw [hnew];exact ⟨.ref _,_,I.BG (t':=s.toks) (r.rep k.toNat) (by rw [Pr,Nat.mul_comm];exact hz),rfl,q _ I.fresh⟩
end
section
variable {κ:Type}[DecidableEq κ]
noncomputable def kS(kvs:List (κ×V))(k:κ):Option V:=(kvs.find? fun kv=>decide (kv.1=k)).map (·.2)
noncomputable def putK(kvs:List (κ×V))(k:κ)(v:V):List (κ×V) :=
 if (kvs.any fun kv=>decide (kv.1=k))=true then kvs.map (fun kv=>if kv.1=k then (kv.1,v) else kv) else kvs ++ [(k,v)]
theorem HF{p:κ×V}{r:List (κ×V)}{k:κ}(e:p.1=k):kS (p :: r) k=some p.2:=by simp [kS,Xq,e]
theorem HG{p:κ×V}{r:List (κ×V)}{k:κ}(e:¬p.1=k):kS (p :: r) k=kS r k:=by simp [kS,Xq,e]
theorem Lo(k:κ):∀kvs:List (κ×V),(kvs.any fun kv=>decide (kv.1=k))=(kS kvs k).isSome
 |[]=>rfl
 |p :: r=>by
  rw [Xo]
  by_cases e:p.1=k
  ·simp only [HF e,decide_eq_true e,Bool.true_or,Option.isSome_some]
  ·rw [HG e,decide_eq_false e,Bool.false_or];exact Lo k r
theorem Lp(kvs:List (κ×V))(k:κ)(v:V):(putK kvs k v).length<=kvs.length+1:=by
 unfold putK;split
 ·rw [Wo];omega
 ·rw [Wt,WX,List.length_nil];omega
theorem qJ.lU{o:Option V}{u:Option Value}(r:qJ o u):o.isSome=u.isSome:=by
 cases o with
 |none=>cases u with
  |none=>rfl
  |some _=>exact (show False from r).elim
 |some _=>cases u with
  |none=>exact (show False from r).elim
  |some _=>rfl
theorem KV.val{kvs:List (κ×V)}{vs:List (κ×Value)}(r:KV kvs vs)(k:κ):qJ (kS kvs k) (valueAt vs k):=by
 unfold KV at r
 induction r with
 |nil=>exact True.intro
 |@cons p q ps qs h t ih =>
  obtain ⟨h1,h2⟩:=h
  by_cases e:p.1=k
  ·have e':q.1=k:=h1.symm.trans e
   have b:valueAt (q :: qs) k=some q.2:=by simp [valueAt,Xq,e']
   rw [HF e,b];exact h2
  ·have e':¬q.1=k:=fun z=>e (h1.trans z)
   have b:valueAt (q :: qs) k=valueAt qs k:=by simp [valueAt,Xq,e']
   rw [HG e,b];exact ih
theorem KV.any{kvs:List (κ×V)}{vs:List (κ×Value)}(r:KV kvs vs)(k:κ):(kvs.any fun kv=>decide (kv.1=k))=vs.any fun kv=>decide (kv.1=k):=by
 unfold KV at r
 induction r with
 |nil=>rfl
 |cons h t ih=>rw [Xo,Xo,ih,h.1]
theorem KV.repl{kvs:List (κ×V)}{vs:List (κ×Value)}(r:KV kvs vs)(k:κ){y:V}{u:Value}(ry:RelV y u):
  KV (kvs.map fun kv=>if kv.1=k then (kv.1,y) else kv) (vs.map fun kv=>if kv.1=k then (kv.1,u) else kv):=by
 unfold KV at r ⊢
 induction r with
 |nil=>exact .nil
 |@cons p q ps qs h t ih =>
  rw [WM,WM];refine .cons ?_ ih;obtain ⟨h1,h2⟩:=h
  by_cases e:p.1=k
  ·rw [if_pos e,if_pos (h1.symm.trans e)];exact ⟨h1,ry⟩
  ·rw [if_neg e,if_neg (fun z=>e (h1.trans z))];exact ⟨h1,h2⟩
theorem KV.put{kvs:List (κ×V)}{vs:List (κ×Value)}(r:KV kvs vs)(k:κ){y:V}{u:Value}(ry:RelV y u):KV (putK kvs k y) (stored vs k u):=by
 unfold putK stored;rw [r.any k]
 by_cases e:(vs.any fun kv=>decide (kv.1=k))=true
 ·rw [if_pos e,if_pos e];exact r.repl k ry
 ·rw [if_neg e,if_neg e];exact Paired.snoc r ⟨rfl,ry⟩
theorem KV.length{kvs:List (κ×V)}{vs:List (κ×Value)}(r:KV kvs vs):kvs.length=vs.length:=Paired.length r
end
theorem HI{P:Program}{w:World}{k:Key}{u:Value}(r:RelV (kV k) u):(dh P w).is k u=true:=by
 cases k with
 |inl i=>obtain ⟨t,e⟩:=(show ∃t,u=Value.int i t from r);subst e;exact OQ P w i t
 |inr x=>obtain ⟨t,e⟩:=(show ∃t,u=Value.str x t from r);subst e;exact OR P w x t
theorem Lq{P:Program}{w:World}:∀{ks:List Key} {us:List Value},Vals (ks.map kV) us->ItemsAre (dh P w) ks us
 |[],_,r=>by rw [Xb] at r;cases r;exact .nil
 |k :: ks,_,r=>by
  rw [WM] at r;cases r with
  |cons h t=>exact .cons (HI h) (Lq t)
abbrev KT(H:Hp):List (List Key×V)->List (List Key×Addr×Value)->Prop:=Paired fun p q=>p.1=q.1/\H q.2.1=some (.tup (p.1.map kV))/\RelV p.2 q.2.2
theorem KT.val{H:Hp}{kvs:List (List Key×V)}{xs:List (List Key×Addr×Value)}(r:KT H kvs xs)(k:List Key):qJ (kS kvs k) ((atKey xs k).map (·.2)):=by
 induction r with
 |nil=>exact True.intro
 |@cons p q ps qs h t ih =>
  obtain ⟨h1,_,h2⟩:=h
  by_cases e:p.1=k
  ·have e':q.1=k:=h1.symm.trans e
   have b:atKey (q :: qs) k=some q.2:=by simp [atKey,Xq,e']
   rw [HF e,b];exact h2
  ·have e':¬q.1=k:=fun z=>e (h1.trans z)
   have b:atKey (q :: qs) k=atKey qs k:=by simp [atKey,Xq,e']
   rw [HG e,b];exact ih
theorem KT.repl{H:Hp}{kvs:List (List Key×V)}{xs:List (List Key×Addr×Value)}(r:KT H kvs xs)(k:List Key){y:V}{u:Value}(ry:RelV y u):
  KT H (kvs.map fun kv=>if kv.1=k then (kv.1,y) else kv) (xs.map (putAt k u)):=by
 induction r with
 |nil=>exact .nil
 |@cons p q ps qs h t ih =>
  rw [WM,WM];refine .cons ?_ ih;obtain ⟨h1,h2,h3⟩:=h;unfold putAt
  by_cases e:p.1=k
  ·rw [if_pos e,if_pos (h1.symm.trans e)];exact ⟨h1,h2,ry⟩
  ·rw [if_neg e,if_neg (fun z=>e (h1.trans z))];exact ⟨h1,h2,h3⟩
theorem KT.put{H:Hp}{kvs:List (List Key×V)}{xs:List (List Key×Addr×Value)}(r:KT H kvs xs)(k:List Key){b:Addr}{y:V}{u:Value}(hb:H b=some (.tup (k.map kV)))(ry:RelV y u):
  KT H (putK kvs k y) (storedH xs k b u):=by
 have e:(kvs.any fun kv=>decide (kv.1=k))=(atKey xs k).isSome:=by
  rw [Lo,(r.val k).lU,Option.isSome_map]
 unfold putK storedH;rw [e]
 by_cases q:(atKey xs k).isSome=true
 ·rw [if_pos q,if_pos q];exact r.repl k ry
 ·rw [if_neg q,if_neg q];exact Paired.snoc r ⟨rfl,hb,ry⟩
theorem KT.keeps{H H':Hp}{kvs:List (List Key×V)}{xs:List (List Key×Addr×Value)}(r:KT H kvs xs)(ht:∀b ys,H b=some (.tup ys)->H' b=some (.tup ys)):KT H' kvs xs :=
 Paired.wR r fun _ _ z=>⟨z.1,ht _ _ z.2.1,z.2.2⟩
section
variable {P:Program}{w:World}{H:Hp}{h:Heap}{a:Addr}
theorem vm{u:HO}(ok:lF P w H h)(e:Rd H a u):cG P w H h a u:=e.ok ok
theorem vn{kvs:List (Key×V)}(ok:lF P w H h)(e:Rd H a (.dK kvs)):kvs.length<=sizeLine/\(a == sysModules)=false/\∃vs,KV kvs vs/\h.DictOf (dh P w) a vs :=
 show cG P w H h a (.dK kvs) from vm ok e
theorem BL{kvs:List (Key×V)}(ok:lF P w H h)(e:H a=some (.dK kvs)):kvs.length<=sizeLine/\(a == sysModules)=false/\∃vs,KV kvs vs/\h.DictOf (dh P w) a vs:=vn ok (.inl e)
theorem zZ{ks:List Key}(ok:lF P w H h)(e:H a=some (.tup (ks.map kV))):(tupleKind (dh P w)).is h ks a:=by
 obtain ⟨_,its,r,o,h1,h2,_,n,h3⟩:=(show cG P w H h a (.tup (ks.map kV)) from ok a _ e);exact ⟨o,its.toArray,n,h1,h2,h3,by simpa using Lq r⟩
theorem vo{kvs:List (List Key×V)}(ok:lF P w H h)(e:Rd H a (.dT kvs)):kvs.length<=sizeLine/\(a == sysModules)=false /\
  ∃xs,KT H kvs xs/\h.DictOfH (tupleKind (dh P w)) a xs:=by
 obtain ⟨z,y,xs,r,o,es,ep,h1,h2,h3,h4,h5⟩:=(show cG P w H h a (.dT kvs) from vm ok e);refine ⟨z,y,xs,r,o,es,ep,h1,h2,h3,h4,fun x hx=>?_,h5⟩;have all:∀{l:List (List Key×V)} {m:List (List Key×Addr×Value)},KT H l m->∀x∈m,(tupleKind (dh P w)).is h x.1 x.2.1:=by
  intro l m q
  induction q with
  |nil=>intro x hx;exact nomatch hx
  |@cons p q ps qs hq t ih =>
   intro x hx;rcases WT.mp hx with e|hx
   ·subst e
    exact zZ ok (by rw [<- hq.1];exact hq.2.1)
   ·exact ih x hx
 exact all r x hx
theorem BM{kvs:List (List Key×V)}(ok:lF P w H h)(e:H a=some (.dT kvs)):kvs.length<=sizeLine/\(a == sysModules)=false /\
  ∃xs,KT H kvs xs/\h.DictOfH (tupleKind (dh P w)) a xs:=vo ok (.inl e)
end
noncomputable def rR(H:Hp)(a:Addr)(y:V)(r:Option V):Prop :=
 (∃kvs k,Rd H a (.dK kvs)/\y=kV k/\r=kS kvs k)\/∃kvs k b,Rd H a (.dT kvs)/\y=.ref b/\H b=some (.tup (k.map kV))/\r=kS kvs k
noncomputable def rS(H:Hp)(a:Addr)(y v:V)(H':Hp):Prop :=
 (∃kvs k,H a=some (.dK kvs)/\y=kV k/\kvs.length<sizeLine/\H'=upd H a (.dK (putK kvs k v))) \/
 ∃kvs k b,H a=some (.dT kvs)/\y=.ref b/\H b=some (.tup (k.map kV))/\kvs.length<sizeLine/\H'=upd H a (.dT (putK kvs k v))
theorem rR.k{H:Hp}{a:Addr}{kvs:List (Key×V)}{k:Key}(e:H a=some (.dK kvs)):rR H a (kV k) (kS kvs k):=.inl ⟨kvs,k,.inl e,rfl,rfl⟩
theorem rS.k{H:Hp}{a:Addr}{kvs:List (Key×V)}{k:Key}{v:V}(e:H a=some (.dK kvs))(hl:kvs.length<sizeLine):rS H a (kV k) v (upd H a (.dK (putK kvs k v))):=.inl ⟨kvs,k,e,rfl,hl,rfl⟩
section
variable {X:Cx}{pins:List (Addr×Obj)}{σ:St}{H:Hp}{s:Shared}{a:Addr}{y v:V}{u r:Value}{o:Option V}{A:Around}{E:Value->Shared->Prop}
theorem Inv.big(I:Inv X pins σ H s):sysModules<s.heap.objs.size:=by
 have h:mainGlobals<s.heap.objs.size:=(I.mod.glob.keeps I.bk).lt;exact Nat.lt_trans (by decide) h
theorem Pt{Q:Value->Shared->Prop}(hu:A.units+1<cLine)(I:Inv X pins σ H s)(g:rR H a y o)(ry:RelV y u)(h:∀s',Inv X pins σ H s'->Q (.bool (!o.isSome)) s'):
  wpAny (model X.prog X.w) A (compareOp .NotIn u (.ref a)) Q E s:=by
 rcases g with ⟨kvs,k,e,ey,l⟩|⟨kvs,k,b,e,ey,eb,l⟩
 ·subst ey
  obtain ⟨z,hd,vs,rel,dd⟩:=vn I.hok e;refine wpAny_notIn_of (HI ry) hd dd.mapOf ?_;rw [<- (rel.val k).lU,<- l];exact h _ (I.tok _)
 ·subst ey
  cases (show u=Value.ref b from ry);obtain ⟨z,hd,xs,rel,dd⟩:=vo I.hok e;refine wpAny_notIn_heap (tupleKind_room_in1 hu) (zZ I.hok eb) hd dd ?_;have q:=(rel.val k).lU;rw [Option.isSome_map] at q;rw [<- q,<- l];exact h _ (I.tok _)
theorem Lr{h':Heap}{t':Nat}{ob:HO}(I:Inv X pins σ H s)(mu:A4 (H a))(hs:Heap.SameBut a s.heap h')(he:∃q,h'.get? a=some q)(new:cG X.prog X.w (upd H a ob) h' a ob):
  Inv X pins σ (upd H a ob) { s with heap:=h',toks:=t' } :=
 I.write (x:=a) (e:=a) mu (.inl rfl) (fun b q hb z=>(hs.2 b hb).trans z) he new
theorem xo{P:Program}{w:World}{H':Hp}{h':Heap}{kvs:List (Key×V)}{vs:List (Key×Value)}(z:kvs.length<=sizeLine)(hd:(a == sysModules)=false)(rel:KV kvs vs)(dd:h'.DictOf (dh P w) a vs):
  cG P w H' h' a (.dK kvs):=⟨z,hd,vs,rel,dd⟩
theorem Pu{H':Hp}{Q:Unit->Shared->Prop}(hu:A.units+1<cLine)(I:Inv X pins σ H s)(g:rS H a y v H')(ry:RelV y u)(rv:RelV v r)(h:∀s',Inv X pins σ H' s'->Q () s'):
  wpAny (model X.prog X.w) A (setItem (.ref a) u r) Q E s:=by
 rcases g with ⟨kvs,k,e,ey,l,eH⟩|⟨kvs,k,b,e,ey,eb,l,eH⟩
 ·subst ey eH
  obtain ⟨z,hd,vs,rel,dd⟩:=BL I.hok e;have hz:vs.length<=sizeLine:=by rw [<- rel.length];exact z
  have hl:(putK kvs k v).length<=sizeLine:=by have:=Lp kvs k v;omega
  refine wpAny_setItem_pairs (hsz:=hz) (HI ry) dd fun h' ES hs=>h _ ?_;have he:∃q,h'.get? a=some q:=let ⟨q,_,_,hq,_⟩:=ES;⟨q,hq⟩
  exact Lr I (by rw [e];exact True.intro) hs he (xo hl hd (rel.put k rv) ES)
 ·subst ey eH
  cases (show u=Value.ref b from ry);obtain ⟨z,hd,xs,rel,dd⟩:=BM I.hok e;have hz:xs.length<=sizeLine:=by rw [<- Paired.length rel];exact z
  have hl:(putK kvs k v).length<=sizeLine:=by have:=Lp kvs k v;omega
  refine wpAny_setItem_heap (hsz:=hz) (tupleKind_room_in1 hu) (zZ I.hok eb) dd fun h' ES hs=>h _ ?_;obtain ⟨q,es,ep,hq,h2,h3,h4,_,h5⟩:=ES;refine Lr I (by rw [e];exact True.intro) hs ⟨q,hq⟩ ⟨hl,hd,_,(rel.put k eb rv).keeps fun c ys ec=>?_,q,es,ep,hq,h2,h3,h4,h5⟩;rw [ki (Hd ec e (fun z=>nomatch z))];exact ec
end
noncomputable def qd(ty td:TE):TE:=fun σ H Q=>ty σ H fun y H1=>td σ H1 fun x H2=>∃a o,x=.ref a/\rR H2 a y o/\Q (.bl (!o.isSome)) H2
noncomputable def vt(td ty tv:TE):TS:=fun D σ H=>tv σ H fun v H1=>td σ H1 fun x H2=>ty σ H2 fun y H3=>∃a H4,x=.ref a/\rS H3 a y v H4/\D.nx σ H4
section
variable {X:Cx}{o i e value:Expr}{pos pos' tpos:Pos}{td ty tv:TE}
theorem Pw(hu:X.A.units+1<cLine)(hi:PE X i ty)(ho:PE X o td):PC X .NotIn i o (qd ty td):=by
 intro pins s σ H Q I h;refine c6 (hi pins s σ H _ I h) fun iv s1 ⟨y,H1,I1,ry,q1⟩=>c6 (ho pins s1 σ H1 _ I1 q1) fun u s2 ⟨x,H2,I2,rx,a,ov,ex,g,q2⟩=>?_;subst ex;obtain rfl:u=Value.ref a:=rx;exact Pt hu I2 g ry fun s3 I3=>⟨.bl (!ov.isSome),H2,I3,rfl,q2⟩
theorem Px(hu:X.A.units+1<cLine)(ho:PE X o td)(hi:PE X i ty)(hv:PE X value tv)(hs:swapsWith value (some (.Subscript o i pos')) pos.line X.env=pure false):
  PS X (.Assign [.Subscript o i pos'] value pos) (vt td ty tv):=by
 intro pins s σ H D I h;refine wpAny_Assign_Subscript (c6 (hv pins s σ H _ I h) fun r s1 ⟨v,H1,I1,rv,q1⟩=>c6 (ho pins s1 σ H1 _ I1 q1) fun u s2 ⟨x,H2,I2,rx,q2⟩=>c6 (hi pins s2 σ H2 _ I2 q2) fun iv s3 ⟨y,H3,I3,ry,a,H4,ex,g,q3⟩=>?_) hs;subst ex;obtain rfl:u=Value.ref a:=rx;exact Pu hu I3 g ry rv fun s4 I4=>⟨σ,H4,I4,q3⟩
end
theorem Py{P:Program}{w:World}{H:Hp}(h:Heap)(hb:sysModules<h.objs.size):cG P w H (h.push { cls:=.type "dict",data:=.dict #[] }) h.objs.size (.dK []) :=
 ⟨W9 _,beq_eq_false_iff_ne.mpr (Ne.symm (Xf hb)),[],.nil,Heap.DictOf.new h⟩
noncomputable def rT:TE:=fun _ H Q=>∀p,H p=none->Q (.ref p) (upd H p (.dK []))
section
variable {X:Cx}{pos:Pos}
theorem Pz:PE X (.Dict [] [] pos) rT:=fun pins s σ H Q I h =>
 wpAny_Dict_empty ⟨.ref s.heap.objs.size,_,I.laid (a:=s.heap.objs.size) (o:=.dK []) (t':=s.toks) (fun _ _ q=>WJ _ q) (Wv _) (Py s.heap I.big),rfl,h _ (I.hok.fresh (Wv _))⟩
end
end L2
namespace Ls
open PySem PySem.W PySem.Calls PyProof.Rows
theorem PB{P:Params}{h:Heap}:∀(ns:List Int) (vs:List Value),WellAll P h vs (ns.map WData.int)->IntsAre vs ns:=by
 intro ns
 induction ns with
 |nil =>
  intro vs w;rw [Xb] at w;cases w;exact .nil
 |cons n ns ih =>
  intro vs w;rw [WM] at w;cases w with
  |cons a b =>
   cases a;exact .cons _ _ (ih _ b)
theorem PD{l:OpenLaw}{n:Nat}(hn:l.most=some n){P:Params}{h:Heap}{args:List WData}{vals:List Value}
  (hpre:l.row.toRowW.claim.pre args=true) (hwl:WellAll P h vals args) :
  ∃a vs ns,vals=[Value.ref a]/\args=[WData.list (ns.map WData.int)]/\h.get? a=some { cls:=.type "list",data:=.seq vs.toArray }/\IntsAre vs ns/\ns.length<=n:=by
 have hsh:WShape.hasAll [] args [.list .int]=true:=(pre_splitW hpre).1;have hc:l.pre.holds [] { args:=args }=true:=(pre_splitW hpre).2;obtain ⟨d,r,rfl,h1,h2⟩:=hasAllW_cons hsh;obtain rfl:=hasAllW_nil h2;obtain ⟨xs,rfl,h3⟩:=hasW_list h1;obtain ⟨ns,rfl⟩:=items_int h3;have hlen:ns.length<=n:=by
  unfold OpenLaw.pre at hc;have h4:(WTm.not (.lt (.lit (.int (n:Int))) (.len (.arg 0)))).holds [] { args:=[.list (ns.map .int)] }=true:=by
   have h4:=(holds_andW hc).1;rw [hn] at h4;exact h4
  have h5:=condW_of h4 (w_not (w_lt w_lit (w_len_list (w_arg rfl))));rw [Wo] at h5;refine Nat.le_of_not_lt fun q=>?_;have q':(n:Int)<((ns.length:Nat):Int):=by omega
  first
   |(rw [decide_eq_true q'] at h5;exact absurd h5 (by decide))
   |(simp at h5;omega)
 cases hwl with
 |cons w1 w2 =>
  cases w2;cases w1 with
  |list ho hall=>exact ⟨_,_,ns,rfl,rfl,ho,PB ns _ hall,hlen⟩
theorem PH(l:OpenLaw)(args:List WData):l.row.toRowW.claim.post args (.bool true) args=true :=
 postW_of (r:=l.row.toRowW) (X:=(true == true))
  (show WShape.has [] (.bool true) .bool=true by first|rfl|decide|simp [WShape.has,WShape.arms,WShape.armsAll])
  (show (WTm.eq .res (.lit (.bool true))).value [] { args:=args,res:=some (.bool true),after:=args }=some (.bool (true == true)) from w_eq_bool (w_res rfl) w_lit) rfl
theorem PJ{l:OpenLaw}{n:Nat}{q:Program}{loose:List Str}{XP:(Str->Option Value)->Heap->Prop}{YP:World->Heap->Prop}{d:DefRec}
  (hn:l.most=some n) (hdf:d.params.defaults=[])
  (call:∀(w:World) (s₀ s₁:Shared) (mg mb:Str->Option Value) (fa:Addr) (o:Obj) (pm cd doc:Value) (a:Addr) (vs:List Value) (ns:List Int),
   Ground q loose [] XP w s₀ mg mb s₁.heap->YP w s₁.heap ->
   s₁.heap.get? fa=some o->o.data=.func (docDef d.name d.params d.body d.scope pm cd doc)->s₁.heap.CodeRec cd d.name->mg d.name=some (.ref fa) ->
   s₁.heap.get? a=some { cls:=.type "list",data:=.seq vs.toArray }->IntsAre vs ns->ns.length<=n->s₁.gens=#[] ->
   codeAny (model l.prog w) callerA (.call (.ref fa) ⟨[.ref a],[]⟩) (fun r s'=>r=.ok (.ret (.bool true))/\OldK s₁.heap s'.heap/\s'.os=s₁.os/\AllBare s'.gens) s₁) :
  WalkO q loose XP YP l.row.toRowW d [] (fun f vs=>PySem.call f vs):=by
 intro w s₀ s₁ mg mb G Y fa o pm cd doc dV kV ho hd hcd hD hmg hg args vals as hpre hlay hrd hwl hlo;obtain rfl:dV=.none:=Dflts.none hD hdf;obtain rfl:kV=.none:=Dflts.noKw hD;obtain ⟨a,vs,ns,rfl,rfl,hobj,hints,hlen⟩:=PD hn hpre hwl;refine enter_call (codeAny_mono (call w s₀ s₁ mg mb fa o pm cd doc a vs ns G Y ho (fd_plain hd) hcd hmg hobj hints hlen hg) fun r s' hq=>?_);obtain ⟨rfl,h2,h3,h4⟩:=hq;exact ⟨.inl ⟨.bool true,.bool true,[],rfl,fun _=>rfl,.bool true,PH l _,fun _=>⟨List.Pairwise.nil,fun _ hm=>(nomatch hm)⟩⟩,h2,h3,h4⟩
end Ls
namespace L2
open PySem PySem.Spec PyProof.Rows
theorem Lu:∀{vs:List Value} {ns:List Int},IntsAre vs ns->Vals (ns.map V.int) vs
 |_,_,.nil=>.nil
 |_,_,.cons n t h=>.cons ⟨t,rfl⟩ (Lu h)
noncomputable def Only(H:Hp):Prop:=∀b,H b=none\/∃o xs,H b=some (.mU o (.lst xs))
theorem PK{P:Program}{w:World}{K:Zfr}{mg mb:Str->Option Value}{CX:p9}{k:Nat}{fa a:Addr}{fd:FuncData}{x:Str}{sp:Sp}{s₁:Shared}{vs:List Value}{ns:List Int}
  (KX:K.In s₁.heap) (hns:s₁.heap.Ns mainGlobals mg) (hb:s₁.heap.Ns builtinsNs mb) (PL:∀x:Str,x≠"__name__" -> mb x=bootBuiltins x) (hlim:s₁.heap.NoLimit) (hg:s₁.gens=#[])
  (ha:s₁.heap.get? a=some { cls:=.type "list",data:=.seq vs.toArray }) (hi:IntsAre vs ns) (hl:ns.length<=sizeLine) (hr:gW k callerA)
  (F:∀base:Heap,K.In base->base.Ns mainGlobals mg->aJ P w K mg base CX k fa fd [x] sp) (hbind:∀(s:Shared) (u:Value),BindsTo s fd ⟨[u],[]⟩ [(x,u)])
  (rg:∀H:Hp,Only H->kj K H a (ns.map V.int)->sp [.ref a] H (fun v _=>v=.bl true) fun _ _ _=>False)
  (BN:∀H e s',CX [] H s₁ (fun _ _ _=>False) e s'->False) :
  codeAny (model P w) callerA (.call (.ref fa) ⟨[.ref a],[]⟩) (fun r s'=>r=.ok (.ret (.bool true))/\OldK s₁.heap s'.heap/\s'.os=s₁.os/\AllBare s'.gens) s₁:=by
 have rv:=Lu hi;have HJ:=hi.length;have core:∀ H:Hp,Only H->kj K H a (ns.map V.int)->lF P w H s₁.heap->(∀ b,H b≠none->b=a)->(H a≠none->K.lookup a=none) ->
   codeAny (model P w) callerA (.call (.ref fa) ⟨[.ref a],[]⟩) (fun r s'=>r=.ok (.ret (.bool true))/\OldK s₁.heap s'.heap/\s'.os=s₁.os/\AllBare s'.gens) s₁:=by
  intro H hO hS hok hA hK;have qe:∀{b:Addr} {o:Obj},s₁.heap.get? b=some o->H b=none->(n6 s₁.heap H).get? b=some o:=fun e n=>OU e n;have Bw:∀{b:Addr} {o:Obj} {es:Array DictEntry} {ep:Nat},s₁.heap.get? b=some o->o.data=.dict es ep->H b=none:=fun {b o es ep} e d=>by
   cases q:H b with
   |none=>rfl
   |some u =>
    have e':b=a:=hA b (by rw [q];simp);subst e';rw [ha] at e;cases e;have d':Data.seq vs.toArray _=Data.dict es ep:=d;cases d'
  have ET:∀{b:Addr} {m:Str->Option Value},s₁.heap.Ns b m->(n6 s₁.heap H).Ns b m:=fun {b m} ⟨o,es,ep,e,d,r⟩=>⟨o,es,ep,qe e (Bw e d),d,r⟩
  have Lv:K.In (n6 s₁.heap H):=fun b o e=>qe (KX b o e) (by
   cases q:H b with
   |none=>rfl
   |some u =>
    have e':b=a:=hA b (by rw [q];simp);subst e'
    rw [hK (by rw [q];simp)] at e;cases e)
  have hM:Mod K mg (n6 s₁.heap H):=⟨Lv,ET hns,⟨mb,ET hb,PL⟩,let ⟨mc,h1,h2⟩:=hlim;⟨mc,ET h1,h2⟩⟩;have e0:uj P w K mg (n6 s₁.heap H) callerA [] s₁ H:=⟨rfl,hM,fun b o e=>OV e,Nat.le_of_eq (OT _ _),trivial,fun b hb=>absurd (show b∈([]:List Addr) from hb) (by simp),hok,.of_eq hg⟩;refine codeAny_mono ((F _ Lv (ET hns)).run callerA [] s₁ H ⟨[.ref a],[]⟩ [.ref a] [.ref a] _ _ hr e0 (hbind s₁ (.ref a)) (.cons rfl .nil) (rg H hO hS)) fun r s' h=>?_;cases r with
  |error e=>exact (BN H e s' h).elim
  |ok fl =>
   cases fl with
   |next=>exact False.elim h
   |brk=>exact False.elim h
   |cont=>exact False.elim h
   |ret u =>
    obtain ⟨v,H',os,bare,un,HK,r',q⟩:=h;have q':v=.bl true:=q;subst q';obtain rfl:u=Value.bool true:=r';refine ⟨rfl,OldK.of_keep fun b o e=>?_,os,bare⟩;cases q:H b with
    |none=>exact un.keep b o e q (by intro z;exact absurd (show b∈([]:List Addr) from z) (by simp)) (by simp)
    |some u =>
     rcases hO b with z|⟨ob,xs,z⟩
     ·rw [q] at z;cases z
     ·have z2:=un.n4 b ob _ z
      obtain ⟨e1,_⟩:=hok b _ z;obtain ⟨e2,_⟩:=HK b _ z2;rw [e] at e1;cases e1;exact e2
 cases hk:K.lookup a with
 |some o =>
  have e:=KX a o hk;rw [ha] at e;cases e;refine core (fun _=>none) (fun _=>.inl rfl) (.inr ⟨_,vs.toArray,_,hk,rfl,rfl,rfl,by rw [WH,HJ];exact hl,by simpa using rv⟩) (fun b u z=>by have z':(none:Option HO)=some u:=z;cases z') (fun b z=>absurd rfl z) fun z=>absurd rfl z
 |none =>
  refine core (fun b=>if b=a then some (.mU { cls:=.type "list",data:=.seq vs.toArray } (.lst (ns.map V.int))) else none) (fun b=>?_) (.inl (.inr ⟨{ cls:=.type "list",data:=.seq vs.toArray },if_pos rfl⟩)) (fun b u z=>?_) (fun b z=>?_) fun _=>hk
  ·by_cases hb:b=a
   ·exact .inr ⟨_,_,if_pos hb⟩
   ·exact .inl (if_neg hb)
  ·by_cases hb:b=a
   ·have z':=(if_pos hb).symm.trans z
    cases z';subst hb;exact ⟨ha,by rw [Wo];exact hl,vs,_,rv,ha⟩
   ·have z':=(if_neg hb).symm.trans z
    cases z'
  ·by_cases hb:b=a
   ·exact hb
   ·exact absurd (if_neg hb) z
abbrev KOf{K:Zfr}{h:Heap}(_:K.In h):Zfr:=K
theorem PN{l:PySem.W.OpenLaw}{n k:Nat}{q:Program}{loose:List Str}{XP:(Str->Option Value)->Heap->Prop}{YP:World->Heap->Prop}{d:DefRec}{K:Params->Zfr}{CX:World->p9}{sp:World->Sp}{x:Str}
  (hn:l.most=some n) (hn2:n<=sizeLine) (hdf:d.params.defaults=[]) (hr:gW k callerA)
  (hY:∀(w:World) (h:Heap),YP w h->(K w.params).In h)
  (F:∀(w:World) (mg:Str->Option Value) (fa:Addr) (h:Heap),(K w.params).In h->h.Ns mainGlobals mg->mg d.name=some (.ref fa) ->
   ∃fd:FuncData,(∀(s:Shared) (u:Value),BindsTo s fd ⟨[u],[]⟩ [(x,u)]) /\
    ∀base:Heap,(K w.params).In base->base.Ns mainGlobals mg->aJ l.prog w (K w.params) mg base (CX w) k fa fd [x] (sp w))
  (rg:∀(w:World) (H:Hp) (a:Addr) (ns:List Int),ns.length<=n->Only H->kj (K w.params) H a (ns.map V.int)->sp w [.ref a] H (fun v _=>v=.bl true) fun _ _ _=>False)
  (BN:∀(w:World) (H:Hp) (s:Shared) (e:Value) (s':Shared),CX w [] H s (fun _ _ _=>False) e s'->False) :
  PySem.W.WalkO q loose XP YP l.row.toRowW d [] (fun f vs=>PySem.call f vs):=by
 refine Ls.PJ hn hdf fun w s₀ s₁ mg mb fa o pm cd doc a vs ns G Y ho hd hcd hmg hobj hints hlen hg=>?_;have KX:=hY w _ Y;obtain ⟨fd,hb,hF⟩:=F w mg fa _ KX G.T.g hmg;exact PK KX G.T.g G.T.b G.T.builtins G.T.nolimit hg hobj hints (WZ hlen hn2) hr hF hb (fun H hO hS=>rg w H a ns hlen hO hS) fun H e s'=>BN w H s₁ e s'
theorem PQ{l:PySem.W.OpenLaw}{n k:Nat}{q:Program}{loose:List Str}{XP:(Str->Option Value)->Heap->Prop}{YP:World->Heap->Prop}{d:DefRec}{K:Params->Zfr}{CX:p9}{sp:Zfr->Sp}{x:Str}
  (hn:l.most=some n) (hn2:n<=sizeLine) (hdf:d.params.defaults=[]) (hr:gW k callerA)
  (hY:∀(w:World) (h:Heap),YP w h->(K w.params).In h)
  (F:∀(w:World) (mg:Str->Option Value) (fa:Addr) (h:Heap),(K w.params).In h->h.Ns mainGlobals mg->mg d.name=some (.ref fa) ->
   ∃fd:FuncData,(∀(s:Shared) (u:Value),BindsTo s fd ⟨[u],[]⟩ [(x,u)]) /\
    ∀base:Heap,(K w.params).In base->base.Ns mainGlobals mg->aJ l.prog w (K w.params) mg base CX k fa fd [x] (sp (K w.params)))
  (rg:∀(K:Zfr) (H:Hp) (a:Addr) (ns:List Int),ns.length<=n->Only H->kj K H a (ns.map V.int)->sp K [.ref a] H (fun v _=>v=.bl true) fun _ _ _=>False)
  (BN:∀(H:Hp) (s:Shared) (e:Value) (s':Shared),CX [] H s (fun _ _ _=>False) e s'->False) :
  PySem.W.WalkO q loose XP YP l.row.toRowW d [] (fun f vs=>PySem.call f vs) :=
 PN (K:=K) (CX:=fun _=>CX) (sp:=fun w=>sp (K w.params)) hn hn2 hdf hr hY F (fun w H a ns h1 h2 h3=>rg (K w.params) H a ns h1 h2 h3) fun _ H s e s'=>BN H s e s'
noncomputable def fX(s:Stmt):Arguments:=match s with
 |.FunctionDef _ a _ _ _ _ _ _ _ _=>a
 |_=>{ posonlyargs:=[],args:=[],vararg:=none,kwonlyargs:=[],kw_defaults:=[],kwarg:=none,defaults:=[] }
noncomputable def eu(s:Stmt):List Stmt:=match s with
 |.FunctionDef _ _ b _ _ _ _ _ _ _=>b
 |_=>[]
noncomputable def az(s:Stmt):Scope:=match s with
 |.FunctionDef _ _ _ _ _ _ sc _ _ _=>sc
 |_=>{ kind:=.function,names:=[],isGenerator:=false,isCoroutine:=false }
abbrev bG:p9:=fun _ _ _ _ _ _=>False
abbrev E0:XK:=fun _ _ _=>False
theorem rV{X:Cx}:Passes bG X E0:=fun _ _ _ _ _ _ _ h=>h.elim
structure EU(K:Zfr)(x qual:Str)(st:Stmt)(f:Addr)(fd:FuncData):Prop where
 ex:∃(oc:Value) (od:Option Addr) (kV doc pm:Value) (an:Option Addr) (cdv ct:Value) (osl:Array (Option Value)),
  fd=PySem.W.fnOf x qual (fX st) (eu st) (az st) .none kV doc pm an cdv ct/\K.lookup f=some ⟨oc,od,.func fd,osl⟩/\PySem.W.codeIn K cdv qual=true
 kp:PySem.W.keepIn K (.ref f)=true
section
variable {P:Program}{w:World}{K:Zfr}{mg:Str->Option Value}{base:Heap}
theorem EU.ok{x qual:Str}{st:Stmt}{f:Addr}{fd:FuncData}{N ps:List Str}{k:Nat}{sp:Sp}(F:EU K x qual st f fd)(S:aN N ps (az st))(len:∀vs H Q E,sp vs H Q E->vs.length=ps.length)
  (hbody:∀(cdv:Value) (A:Around) (outer:List Env) (s:Shared) (H:Hp) (vs:List V) (Q:VK) (E:XK),gW k (A.deeper (envOfC qual (az st) s.heap.objs.size f cdv))->sp vs H Q E ->
   ∃t,p4 (gw bG P w K mg base N qual (az st) f cdv A outer s H E).nA (eu st) t/\t { nx:=fun _ H'=>Q .non H',rt:=Q } (start N vs) H):aJ P w K mg base bG (k+1) f fd ps sp:=by
 obtain ⟨oc,od,kV,doc,pm,an,cdv,ct,osl,rfl,lk,hcd⟩:=F.ex;refine vd lk hcd S len fun A outer s H vs Q E hr rg=>?_;obtain ⟨t,h,q⟩:=hbody cdv A outer s H vs Q E hr rg;exact ⟨t,h.nA,q⟩
theorem xq{x qual:Str}{st:Stmt}{f:Addr}{oc:Value}{od an:Option Addr}{osl:Array (Option Value)}{kV doc pm cdv ct:Value}(l:K.lookup f=some ⟨oc,od,.func (PySem.W.fnOf x qual (fX st) (eu st) (az st) .none kV doc pm an cdv ct),osl⟩)
  (c:PySem.W.codeIn K cdv qual=true) (k:PySem.W.keepIn K (.ref f)=true):EU K x qual st f (PySem.W.fnOf x qual (fX st) (eu st) (az st) .none kV doc pm an cdv ct):=⟨⟨oc,od,kV,doc,pm,an,cdv,ct,osl,rfl,l,c⟩,k⟩
end
theorem BO{A:Around}{k:Nat}(hr:gW k A):A.units+1<cLine:=Xn (Nat.add_le_add_left (by decide:1<=64) _) hr.units
section
variable {X:Cx}
theorem pv(i:Nat){x:Str}{pos:Pos}(hN:X.N[i]?=some x:=by rfl)(hv:Hg X.env.scope x:=by first | exact Or.inl rfl | exact Or.inr (Or.inl rfl) | exact Or.inr (Or.inr rfl))(hd:(x == ("__debug__" : Str))=false:=by decide)
  (hcd:(x == ("__classdict__" : Str))=false:=by decide):PE X (.Name x pos) (wX i):=wY hN hv hd hcd
end
theorem qM{A B:Prop}(h:B):if false=true then A else B:=by
 rw [if_neg WA];exact h
theorem qN{A B:Prop}(h:A):if true=true then A else B:=by
 rw [if_pos rfl];exact h
noncomputable def jK(H H':Hp):Prop:=∀b o,H b=some o->H' b=some o
theorem jK.refl(H:Hp):jK H H:=fun _ _ h=>h
theorem iE:bootBuiltins "len" = some (.builtin "len"):=by decide +kernel
theorem xr:bootBuiltins "int" = some (.type "int"):=by decide +kernel
theorem Lw:bootBuiltins "bool" = some (.type "bool"):=by decide +kernel
theorem nQ:bootBuiltins "list" = some (.type "list"):=by decide +kernel
theorem mq:bootBuiltins "tuple" = some (.type "tuple"):=by decide +kernel
theorem qf:bootBuiltins "range" = some (.type "range"):=by decide +kernel
theorem Lx:bootBuiltins "isinstance" = some (.builtin "isinstance"):=by decide +kernel
theorem HL:bootBuiltins "max" = some (.builtin "max"):=by decide +kernel
theorem HM:bootBuiltins "min" = some (.builtin "min"):=by decide +kernel
structure Kp(ch:List Addr)(H H':Hp):Prop where
 keep:∀b o,H b=some o->b ∉ ch->H' b=some o
 tup:∀b xs,H b=some (.tup xs)->H' b=some (.tup xs)
 mU:∀b o u,H b=some (.mU o u)->H' b=some (.mU o u)
section
variable {ch:List Addr}{H H1 H2:Hp}{a l p:Addr}{o:HO}{xs ys:List V}{K:Zfr}
theorem Kp.refl:Kp ch H H:=⟨fun _ _ h _=>h,fun _ _ h=>h,fun _ _ _ h=>h⟩
theorem Kp.of_same(h:jK H H1):Kp ch H H1:=⟨fun b o e _=>h b o e,fun b xs e=>h b _ e,fun b o u e=>h b _ e⟩
theorem Kp.put(h:Kp ch H H1)(ha:a∈ch)(e:H1 a=some (.lst xs)):Kp ch H (upd H1 a o) :=
 ⟨fun b u q n=>by rw [ki (fun z=>n (by rw [z];exact ha))];exact h.keep b u q n,
   fun b u q=>by
  have r:=h.tup b u q;rw [ki (Hd r e (by intro z;cases z))];exact r,
   fun b u v q=>by
  have r:=h.mU b u v q
  rw [ki (Hd r e (by intro z;cases z))];exact r⟩
theorem Kp.HN(h:Kp ch H H1)(q:fS K H a xs):fS K H1 a xs:=by
 rcases q with (q|⟨o,q⟩)|q
 ·exact .inl (.inl (h.tup a xs q))
 ·exact .inl (.inr ⟨o,h.mU a o _ q⟩)
 ·exact .inr q
noncomputable def BP(K:Zfr)(H:Hp)(a:Addr)(xs:List V):Prop :=
 (∃o,H a=some (.mU o (.lst xs))) \/
  ∃(o:Obj) (its:Array Value) (n:Nat),K.lookup a=some o/\o.cls=.type "list" /\ o.dict=none/\o.data=.seq its n/\its.size<=sizeLine/\Vals xs its.toList
theorem BP.sq(h:BP K H a xs):kj K H a xs:=h.elim (fun ⟨o,e⟩=>.inl (.inr ⟨o,e⟩)) .inr
theorem kj.script(hO:Only H)(q:kj K H a xs):BP K H a xs:=by
 rcases q with (q|⟨o,q⟩)|q
 ·rcases hO a with e|⟨o,ys,e⟩
  ·rw [e] at q;cases q
  ·rw [e] at q;cases q
 ·exact .inl ⟨o,q⟩
 ·exact .inr q
theorem jK.up(h:H p=none):jK H (upd H p o):=fun b u e=>by rw [ki (zN e h)];exact e
end
noncomputable def pJ(K:Zfr)(H:Hp)(xs:List V)(Q:VK):Prop:=∀p H',fS K H' p xs->jK H H'->Q (.ref p) H'
section
variable {X:Cx}
theorem pJ.new{K:Zfr}{H:Hp}{xs:List V}{Q:VK}(h:pJ K H xs Q):∀p,H p=none->Q (.ref p) (upd H p (.tup xs)):=fun p hp=>h p _ (fS.of rf) (jK.up hp)
theorem pJ.it{K:Zfr}{H:Hp}{xs:List V}{Q:VK}{a:Addr}(h:pJ K H xs Q)(q:fS K H a xs):Q (.ref a) H:=h a H q (jK.refl H)
noncomputable def rW(K:Zfr):R2:=fun x y H Q=>∃a b xs ys,x=.ref a/\y=.ref b/\fS K H a xs/\fS K H b ys/\xs.length+ys.length<=sizeLine/\pJ K H (xs ++ ys) Q
theorem xt:kR X (binaryOp .Add) (rW X.K):=by
 intro pins s σ H x y v u Q I rx ry h;obtain ⟨a,b,xs,ys,rfl,rfl,ha,hb,hz,q⟩:=h
 by_cases hx:xs=[]
 ·subst hx
  cases rx;cases ry;obtain ⟨its,r1,p1,_⟩:=I.tuple ha;obtain ⟨its2,r2,p2,_⟩:=I.tuple hb;have e:its=[]:=r1.mK.mpr rfl;subst e;obtain ⟨⟨cls,dd,data,sl⟩,ho,hc,n,hd⟩:=id p1;obtain ⟨⟨Hw,dd2,data2,sl2⟩,ho2,hc2,n2,hd2⟩:=id p2;simp only at hc hd hc2 hd2;subst hc hd hc2 hd2;exact concat_meets ⟨_,ho,rfl⟩ ⟨_,ho2,rfl⟩ noFill_tuple_add seq_tuple_add PySem.F.slot_tuple_add PySem.F.entry_tuple_add (PySem.F.args_tuple_add_2 _ _)
   (tuple_addW0 a b #[] its2.toArray n n2 dd dd2 sl sl2 (by simp)) ⟨ho,ho2,⟨.ref b,H,I,rfl,q.it (by simpa using hb)⟩⟩
 ·exact Pk pins s σ H _ _ v u Q I rx ry ⟨a,b,xs,ys,rfl,rfl,ha,hb,hx,hz,fun e=>q.it (by subst e;simpa using ha),fun _=>q.new⟩
theorem PR{prog:Program}{w:World}{A:Around}{E:Value->Shared->Prop}{s:Shared}{t sl:Addr}{items:Array Value}{vl vu:Value}{lo hi:Option Int}{Q:Value->Shared->Prop}(ht:IsTup s.heap t items)(hs:s.heap.IsSliceOf sl vl vu .none)(pl:IsPart vl lo)(pu:IsPart vu hi)
  (hw:HT.c7 items.size 0 lo=0/\HT.c7 items.size items.size hi=items.size) (h:Q (.ref t) s):wpAny (model prog w) A (getItem (.ref t) (.ref sl)) Q E s:=by
 obtain ⟨os,hos,hcs,hds⟩:=id hs;have Hx:s.TypeIs (.ref sl) "slice" := ⟨os,hos,hcs⟩;unfold getItem
 try with_reducible refine wpAny_holding ?_
 first|refine wpAny_bind (wpAny_pure ?_)|skip
 refine wpAny_bind (wpAny_sequenceKey ht.typeIs (by decide) ?_)
 refine wpAny_bind (wpAny_callSpecial?_slot (name:=Str.ofString "__getitem__") ht.typeIs PyProof.Rows.slot_tuple_getitem
  (wpAny_call_entry PyProof.Rows.slot_tuple_getitem ht.typeIs entry_tuple_getitem ?_ (args_tuple_getitem _ _)))
 show wpAny _ _ (Builtin.Tuple.tupleItemsOf (.ref t) >>= _) _ _ s;refine wpAny_bind (tupleItemsOf_ ht ?_);refine wpAny_bind (wpAny_typeOf Hx ?_);rw [if_pos (by decide)];refine wpAny_bind (HT.Lc hs pl pu ?_);have hyes:((((HT.c7 items.size 0 lo:Nat):Int) == 0 && (1:Int) == 1 && (HT.c7 items.size items.size hi-HT.c7 items.size 0 lo) == items.size)=true):=by
  rw [hw.1,hw.2];simp
 show wpAny _ _ (if (((HT.c7 items.size 0 lo:Nat):Int) == 0 && (1:Int) == 1 && (HT.c7 items.size items.size hi-HT.c7 items.size 0 lo) == items.size)=true then _ else _) _ _ s;rw [if_pos hyes];obtain ⟨o,ho,hc,n,hd⟩:=id ht;unfold Builtin.Tuple.tupleIsExact
 first
  |exact wpAny_bind (wpAny_bind (wpAny_typeOf (T:="tuple") ⟨o,ho,hc⟩ (wpAny_pure (wpAny_bind (wpAny_rule (wpAny_pure ⟨_,rfl,wpAny_pure h⟩))))))
  |exact wpAny_bind (wpAny_bind (wpAny_typeOf (T:="tuple") ⟨o,ho,hc⟩ (wpAny_pure (wpAny_bind (wpAny_rule (wpAny_bind (wpAny_pure ⟨_,rfl,wpAny_pure h⟩)))))))
  |trace_state
noncomputable def vw(K:Zfr):V->Option Int->Option Int->Hp->VK->Prop:=fun x lo hi H Q=>∃a xs,x=.ref a/\fS K H a xs/\pJ K H (mZ xs lo hi) Q
theorem PU{xs:List V}{lo hi:Option Int}(h:HT.c7 xs.length 0 lo=0/\HT.c7 xs.length xs.length hi=xs.length):mZ xs lo hi=xs:=by
 unfold mZ;rw [h.1,h.2];simp
theorem PV:EM X (vw X.K):=by
 intro pins s σ H x v vl vu lo hi sl Q I rx hs pl pu h;obtain ⟨a,xs,rfl,hx,q⟩:=h
 by_cases hw:HT.c7 xs.length 0 lo=0/\HT.c7 xs.length xs.length hi=xs.length
 ·cases rx
  obtain ⟨its,r,ht,hz⟩:=I.tuple hx;have hlen:its.toArray.size=xs.length:=by rw [WH];exact r.length.symm
  refine ⟨"tuple",_,PyProof.Rows.slot_tuple_getitem.lookup,ht.typeIs,?_⟩;exact PR ht hs pl pu (by rw [hlen];exact hw) ⟨.ref a,H,I,rfl,q.it (by rw [PU hw];exact hx)⟩
 ·exact xj pins s σ H _ v vl vu lo hi sl Q I rx hs pl pu ⟨a,xs,rfl,hx,hw,q.new⟩
noncomputable def gx(lo:Int)(n:Nat):List V:=(List.range n).map fun (k:Nat)=>V.int (lo+k)
theorem PX(lo:Int)(n:Nat):(gx lo n).length=n:=by simp [gx]
theorem EV:gu X (.type "range") (fun xs H Q=>∃j:Int,xs=[.int j]/\∀p,H p=none->Q (.ref p) (upd H p (.gS 0 j))):=by
 intro pins s σ H xs us Q I r h;obtain ⟨j,rfl,q⟩:=h;obtain ⟨u,rfl,t,rfl⟩:=vals1 r;refine call_range_1 ⟨.ref s.heap.objs.size,_,I.laid (o:=.gS 0 j) (fun b o e=>WJ _ e) (Wv _) ?_,rfl,q _ (I.hok.fresh (Wv _))⟩;exact ⟨_,_,_,WW _ rfl⟩
theorem tw:gu X (.type "range") (fun xs H Q=>∃i j:Int,xs=[.int i,.int j]/\∀p,H p=none->Q (.ref p) (upd H p (.gS i j))):=by
 intro pins s σ H xs us Q I r h;obtain ⟨i,j,rfl,q⟩:=h;obtain ⟨u,u',rfl,⟨t,rfl⟩,t',rfl⟩:=vals2 r;refine call_range_2 ⟨.ref s.heap.objs.size,_,I.laid (o:=.gS i j) (fun b o e=>WJ _ e) (Wv _) ?_,rfl,q _ (I.hok.fresh (Wv _))⟩;exact ⟨_,_,_,WW _ rfl⟩
theorem Ly:∀(n:Nat) (lo:Int) (us:List Value),us.length=n->(∀(j:Nat) (v:Value),us[j]?=some v->∃t,v=.int (lo+j*1) t)->Vals (gx lo n) us
 |0,lo,[],_,_=>.nil
 |0,lo,_ :: _,h,_=>by simp at h
 |n+1,lo,[],h,_=>by simp at h
 |n+1,lo,u :: us,h,hv=>by
  have e:gx lo (n+1)=V.int lo :: gx (lo+1) n:=by
   unfold gx;rw [List.range_succ_eq_map,WM,WQ]
   congr 1
   ·simp
   ·apply W4
    intro i _;simp only [Function.comp]
    congr 1
    push_cast
    omega
  rw [e];obtain ⟨t,ht⟩:=hv 0 u rfl;refine .cons ⟨t,by rw [ht];simp⟩ (Ly n (lo+1) us (by simpa using h) fun j v hj=>?_);obtain ⟨t',ht'⟩:=hv (j+1) v hj;refine ⟨t',ht'.trans ?_⟩
  congr 1
  omega
theorem qg(hc:X.calm=true):gu X (.type "list") (fun xs H Q=>∃p lo hi,xs=[.ref p]/\H p=some (.gS lo hi)/\(-(2 ^ 62)<=lo/\lo<2 ^ 62/\-(2 ^ 62)<=hi/\hi<2 ^ 62)/\(hi-lo).toNat<=2 ^ 24 /\
  ∀l,H l=none->Q (.ref l) (upd H l (.lst (gx lo (hi-lo).toNat)))):=by
 intro pins s σ H xs us Q I r h;obtain ⟨p,lo,hi,rfl,hp,⟨b1,b2,b3,b4⟩,hz,q⟩:=h;obtain ⟨u,rfl,ru⟩:=vals1 r;cases ru;obtain ⟨t,t',t'',e⟩:=(show cG X.prog X.w H s.heap p (.gS lo hi) from I.hok p _ hp);refine call_list_range (a:=lo) (b:=hi) (c:=1) (n:=(hi-lo).toNat) (I.ok.hd hc) (show IsRange s.heap p lo hi 1 t t' t'' from e) (small_one b1 b2 b3 b4) (by rw [rangeSize_one];split<;>omega) hz fun h' tk acc c kp hD hI=>?_;refine ⟨.ref s.heap.objs.size,_,I.laid (t':=tk) (o:=.lst (gx lo (hi-lo).toNat)) kp (Wv _) ?_,rfl,q _ (I.hok.fresh (Wv _))⟩;refine ⟨by rw [PX];exact WZ hz (by decide),acc.toList,c,Ly _ _ _ (by rw [Array.length_toList];exact hI.1) fun j v hj=>hI.2 j v (by rw [<- hj,X7]),by simpa using hD⟩
end
mutual
inductive Rep(K:Zfr)(H:Hp):V->PyData->Prop
 |non:Rep K H .non .none
 |bl (b:Bool):Rep K H (.bl b) (.bool b)
 |int (i:Int):Rep K H (.int i) (.int i)
 |str (x:Str):Rep K H (.str x) (.str x)
 |tup {a:Addr} {xs:List V} {ds:List PyData}:fS K H a xs->gy K H xs ds->Rep K H (.ref a) (.tuple ds)
 |lst {a:Addr} {xs:List V} {ds:List PyData}:kj K H a xs->gy K H xs ds->Rep K H (.ref a) (.list ds)
inductive gy(K:Zfr)(H:Hp):List V->List PyData->Prop
 |nil:gy K H [] []
 |cons {v:V} {vs:List V} {d:PyData} {ds:List PyData}:Rep K H v d->gy K H vs ds->gy K H (v :: vs) (d :: ds)
end
section
variable {X:Cx}{pins:List (Addr×Obj)}{σ:St}{H:Hp}{s:Shared}
mutual
theorem Rep.reads(I:Inv X pins σ H s):∀{v:V} {d:PyData} {u:Value},Rep X.K H v d->RelV v u->∃as,Reads s.heap u d as
 |_,_,_,.non,r=>by cases r;exact ⟨_,.none⟩
 |_,_,_,.bl b,r=>by cases r;exact ⟨_,.bool b⟩
 |_,_,_,.int i,r=>by obtain ⟨t,rfl⟩:=r;exact ⟨_,.int i t⟩
 |_,_,_,.str x,r=>by obtain ⟨t,rfl⟩:=r;exact ⟨_,.str x t⟩
 |_,_,_,.tup q rs,r=>by
  cases r;obtain ⟨its,rv,⟨o,e,c,n,hd⟩,_⟩:=I.tuple q;obtain ⟨as,ra⟩:=gy.reads I rs rv;exact ⟨_,.tuple e c hd (by simpa using ra)⟩
 |_,_,_,.lst q rs,r=>by
  cases r;obtain ⟨its,rv,pl,_⟩:=I.list q;obtain ⟨o,e,c,n,hd⟩:=pl.isList;obtain ⟨as,ra⟩:=gy.reads I rs rv;exact ⟨_,.list e c hd (by simpa using ra)⟩
theorem gy.reads(I:Inv X pins σ H s):∀{vs:List V} {ds:List PyData} {us:List Value},gy X.K H vs ds->Vals vs us->∃as,ReadsAll s.heap us ds as
 |_,_,_,.nil,r=>by cases r;exact ⟨_,.nil⟩
 |_,_,_,.cons h t,r=>by
  cases r with
  |cons r1 r2 =>
   obtain ⟨as,h1⟩:=Rep.reads I h r1;obtain ⟨bs,h2⟩:=gy.reads I t r2;exact ⟨_,.cons h1 h2⟩
end
noncomputable def xu(K:Zfr)(neg:Bool):R2:=fun x y H Q=>∃d e,Rep K H x d/\Rep K H y e/\PyData.canLay0 d=true/\PyData.canLay0 e=true/\min d.depth e.depth<=60/\Q (.bl (if neg then !PyData.eqv d e else PyData.eqv d e)) H
theorem HP(hu:X.A.units+64<cLine):kR X (compareOp .Eq) (xu X.K false):=by
 intro pins s σ H x y v u Q I rx ry h;obtain ⟨d,e,hd,he,c1,c2,dp,q⟩:=h;obtain ⟨as,ra⟩:=hd.reads I rx;obtain ⟨bs,rb⟩:=he.reads I ry;exact SeqAt.eqOverData X.prog X.w X.A X.xe s v u d e as bs _ ra rb c1 c2 (by omega) ⟨.bl _,H,I,rfl,q⟩
theorem vz(hu:X.A.units+64<cLine):kR X (compareOp .NotEq) (xu X.K true):=by
 intro pins s σ H x y v u Q I rx ry h;obtain ⟨d,e,hd,he,c1,c2,dp,q⟩:=h;obtain ⟨as,ra⟩:=hd.reads I rx;obtain ⟨bs,rb⟩:=he.reads I ry;exact SeqAt.neOverData X.prog X.w X.A X.xe s v u d e as bs _ ra rb c1 c2 (by omega) ⟨.bl _,H,I,rfl,q⟩
end
section
variable {K:Zfr}{H:Hp}
noncomputable def du(ns:List Int):List PyData:=ns.map PyData.int
theorem xv:∀(ns:List Int),PyData.canLayAll0 (du ns)=true
 |[]=>rfl
 |n :: r=>by show (true && PyData.canLayAll0 (du r))=true;rw [xv r];rfl
theorem Aa:∀(ns:List Int),PyData.depthAll (du ns)=0
 |[]=>rfl
 |n :: r=>by show max 0 (PyData.depthAll (du r))=0;rw [Aa r];rfl
theorem BQ:∀(ns ms:List Int),PyData.eqvAll (du ns) (du ms)=decide (ns=ms)
 |[],[]=>rfl
 |[],_ :: _=>rfl
 |_ :: _,[]=>rfl
 |n :: ns,m :: ms=>by
  show ((n == m) && PyData.eqvAll (du ns) (du ms))=decide (n :: ns=m :: ms);rw [BQ ns ms]
  by_cases h:n=m
  ·subst h;simp
  ·simp [h]
end
end L2
namespace L2
open PySem PySem.Spec PyProof.Rows
structure Def(K:Zfr)(mg:Str->Option Value)(x:Str)(st:Stmt)(ps:List Str)(f:Addr)(fd:FuncData):Prop where
 F:EU K x x st f fd
 be:∀us:List Value,us.length=ps.length->bindArgs fd ⟨us,[]⟩=pure (ps.zip us)
 m:mg x=some (.ref f)
theorem Def.b{K:Zfr}{mg:Str->Option Value}{x:Str}{st:Stmt}{ps:List Str}{f:Addr}{fd:FuncData}(D:Def K mg x st ps f fd):Binds K fd ps []:=.all D.be
theorem jb{K:Zfr}{h:Heap}{mg:Str->Option Value}(X:K.In h)(G:h.Ns mainGlobals mg){x:Str}{st:Stmt}{ps:List Str}{f:Addr}{oc:Value}{od an:Option Addr}{osl:Array (Option Value)}{kV doc pm cdv ct:Value}
  (hb:∀(kV doc pm:Value) (an:Option Addr) (cdv ct:Value) (us:List Value),us.length=ps.length->bindArgs (PySem.W.fnOf x x (fX st) (eu st) (az st) .none kV doc pm an cdv ct) ⟨us,[]⟩=pure (ps.zip us))
  (a:PySem.W.nsIn K mainGlobals x=some (some (.ref f))) (l:K.lookup f=some ⟨oc,od,.func (PySem.W.fnOf x x (fX st) (eu st) (az st) .none kV doc pm an cdv ct),osl⟩)
  (c:PySem.W.codeIn K cdv x=true) (k:PySem.W.keepIn K (.ref f)=true):∃f fd,Def K mg x st ps f fd :=
 ⟨f,_,xq l c k,hb kV doc pm an cdv ct,PySem.W.mg_of X G a⟩
theorem Def.uo{K:Zfr}{mg:Str->Option Value}{x p:Str}{st:Stmt}{f:Addr}{fd:FuncData}(D:Def K mg x st [p] f fd)(s:Shared)(u:Value):BindsTo s fd ⟨[u],[]⟩ [(p,u)]:=.of_eq (D.be [u] rfl)
theorem tD{K:Zfr}{h:Heap}{mg:Str->Option Value}(X:K.In h)(G:h.Ns mainGlobals mg){x:Str}(z:PySem.W.nsIn K mainGlobals x=some none):mg x=none:=PySem.W.mg_none_of X G z
theorem xw{n j:Nat}(h:j<n):mC n (j:Int)=some j:=by
 unfold mC;rw [if_pos (by omega),if_pos (by omega)];simp
theorem xx{α:Type}{xs:List α}{i:Int}(h0:0<=i)(h1:i<xs.length):∃v,eW xs i=some v/\v∈xs:=by
 have hi:i.toNat<xs.length:=by omega
 refine ⟨xs[i.toNat],?_,Xk hi⟩;have:=zX (xs:=xs) (j:=i.toNat) (v:=xs[i.toNat]) (by simp [hi])
 rwa [WV h0] at this
theorem dT{c:Prop}[Decidable c](h:decide c=true):c:=of_decide_eq_true h
theorem BR:∀(names:List (Str×NameKind)) (n:Nat) (acc:List (Str×Addr)),cellsFrom n names acc=cellsFrom n names [] ++ acc
 |[],_,_=>rfl
 |(x,k) :: r,n,acc=>by
  show (if k == .cell then cellsFrom (n+1) r ((x,n) :: acc) else cellsFrom n r acc)=(if k == .cell then cellsFrom (n+1) r [(x,n)] else cellsFrom n r []) ++ acc
  by_cases hk:(k == NameKind.cell)=true
  ·rw [if_pos hk,if_pos hk,BR r (n+1) ((x,n) :: acc),BR r (n+1) [(x,n)],XI];rfl
  ·rw [if_neg hk,if_neg hk];exact BR r n acc
theorem HQ{x:Str}{c:Addr}:∀(names:List (Str×NameKind)) (n:Nat),(x,c)∈cellsFrom n names []->(x,NameKind.cell)∈names/\n<=c
 |[],_,h=>nomatch h
 |(y,k) :: r,n,h=>by
  have h':(x,c)∈(if k == .cell then cellsFrom (n+1) r [(y,n)] else cellsFrom n r []):=h
  by_cases hk:(k == NameKind.cell)=true
  ·rw [if_pos hk,BR] at h'
   rcases WS.mp h' with h'|h'
   ·obtain ⟨h1,h2⟩:=HQ r (n+1) h'
    exact ⟨WE _ h1,by omega⟩
   ·have e:(x,c)=(y,n):=by simpa using h'
    cases e;have e2:k=NameKind.cell:=by simpa using hk
    subst e2;exact ⟨Wy,Wv _⟩
  ·rw [if_neg hk] at h'
   obtain ⟨h1,h2⟩:=HQ r n h';exact ⟨WE _ h1,h2⟩
theorem HR{env:Env}(f:Str×NameKind->List (Str×Addr)->Sem (ForInStep (List (Str×Addr))))
  (hf:∀name kind cs,f (name,kind) cs=if kind == .free then (do let c <- cellOf env name;pure (.yield ((name,c) :: cs))) else pure (.yield cs)) :
  ∀(names:List (Str×NameKind)) (acc:List (Str×Addr)),(∀y∈names,y.2=NameKind.free->∃c,env.cells.lookup y.1=some c) ->
   ∃cl,(forIn names acc f:Sem (List (Str×Addr)))=pure cl/\(∀n c,(n,c)∈cl->(n,c)∈acc\/(env.cells.lookup n=some c/\(n,NameKind.free)∈names))/\(∀p∈acc,p∈cl)/\∀n,(n,NameKind.free)∈names->∃c,(n,c)∈cl
 |[],acc,_=>⟨acc,by rw [List.forIn_nil],fun n c h=>.inl h,fun p h=>h,fun n h=>nomatch h⟩
 |(x,k) :: r,acc,h=>by
  have hr:∀y∈r,y.2=NameKind.free->∃c,env.cells.lookup y.1=some c:=fun y hy=>h y (WE _ hy)
  by_cases hk:k=NameKind.free
  ·subst hk
   obtain ⟨c,hc⟩:=h (x,.free) Wy rfl;have e:cellOf env x=pure c:=by unfold cellOf;rw [hc]
   obtain ⟨cl,e1,h1,h2,h3⟩:=HR f hf r ((x,c) :: acc) hr;refine ⟨cl,?_,fun n d hd=>?_,fun p hp=>h2 p (WE _ hp),fun n hn=>?_⟩
   ·rw [List.forIn_cons,hf,if_pos (by rfl),e]
    exact e1
   ·rcases h1 n d hd with q|⟨q,q'⟩
    ·rcases WT.mp q with q|q
     ·cases q;exact .inr ⟨hc,Wy⟩
     ·exact .inl q
    ·exact .inr ⟨q,WE _ q'⟩
   ·rcases WT.mp hn with q|q
    ·cases q;exact ⟨c,h2 _ Wy⟩
    ·exact h3 n q
  ·obtain ⟨cl,e1,h1,h2,h3⟩:=HR f hf r acc hr
   have hb:¬((k == NameKind.free)=true):=by simpa using hk
   refine ⟨cl,?_,fun n d hd=>?_,h2,fun n hn=>?_⟩
   ·rw [List.forIn_cons,hf,if_neg hb]
    exact e1
   ·rcases h1 n d hd with q|⟨q,q'⟩
    ·exact .inl q
    ·exact .inr ⟨q,WE _ q'⟩
   ·rcases WT.mp hn with q|q
    ·cases q;exact absurd rfl hk
    ·exact h3 n q
theorem Lz{scope:Scope}{env:Env}(h:∀y∈scope.names,y.2=NameKind.free->∃c,env.cells.lookup y.1=some c):
  ∃cl,closureFor scope env=pure cl/\(∀n c,(n,c)∈cl->env.cells.lookup n=some c/\(n,NameKind.free)∈scope.names)/\∀n,(n,NameKind.free)∈scope.names->∃c,(n,c)∈cl:=by
 have key:∀ (f:Str×NameKind->List (Str×Addr)->Sem (ForInStep (List (Str×Addr)))),(∀ name kind cs,f (name,kind) cs=if kind == .free then (do let c <- cellOf env name;pure (.yield ((name,c) :: cs))) else pure (.yield cs)) ->
   ∃cl,((forIn scope.names [] f:Sem (List (Str×Addr))) >>= fun r=>pure r)=pure cl/\(∀n c,(n,c)∈cl->env.cells.lookup n=some c/\(n,NameKind.free)∈scope.names)/\∀n,(n,NameKind.free)∈scope.names->∃c,(n,c)∈cl:=fun f hf=>by
  obtain ⟨cl,e,h1,_,h3⟩:=HR f hf scope.names [] h;refine ⟨cl,?_,fun n c hc=>(h1 n c hc).elim (fun z=>nomatch z) id,h3⟩;rw [e];rfl
 simp only [closureFor];exact key _ fun name kind cs=>by cases hk:kind == NameKind.free<;>simp [hk]
theorem ltN{a b:Addr}(h:a<b):@LT.lt Nat _ a b:=h
theorem wW{a b:Addr}(h:@LT.lt Nat _ a b):a≠b:=Xf h
theorem LA{a b:Addr}(h:@LT.lt Nat _ b a):a≠b:=Nat.ne_of_gt h
theorem PY{M:Model}{A:Around}{E:Value->Shared->Prop}{s:Shared}{scope:Scope}{g:Addr}{cl:List (Str×Addr)}{q:Str}{env:Env}{Q:Env->Shared->Prop}
  (h:∀h',h'.Ns s.heap.objs.size (fun _=>none)->(∀b o,s.heap.get? b=some o->h'.get? b=some o)->CellsOk h' (s.heap.objs.size+1) (cellsFrom (s.heap.objs.size+1) scope.names []) ->
   Q { scope:=scope,locals:=s.heap.objs.size,globals:=g,cells:=cellsFrom (s.heap.objs.size+1) scope.names cl,qual:=q,func:=none,code:=env.code,frame:=env.frame,builtins:=env.builtins } { s with heap:=h' }) :
  wpAny M A (newFunctionEnv scope g cl [] q none .none (some env)) Q E s:=by
 simp only [newFunctionEnv,Option.isSome_some,if_true];refine wpAny_bind (wpAny_alloc ?_);refine wpAny_bind (wpAny_layCells _ (fun name kind cells=>by cases hkc:kind == NameKind.cell<;>simp [hkc]) _ _ _ _ ?_);have ok:=cellsFrom_ok scope.names (s.heap.push { cls:=.type "dict",data:=.dict #[] }) (s.heap.objs.size+1) [] ⟨fun _ _ hm=>(nomatch hm),List.Pairwise.nil⟩ (by rw [XS];exact Wv _);rw [XS] at ok;rw [show ({ s with heap:=s.heap.push { cls:=.type "dict",data:=.dict #[] } }:Shared).heap.objs.size=s.heap.objs.size+1 from XS ..];refine wpAny_bind ?_;rw [List.forIn_nil];refine wpAny_pure (wpAny_pure ?_);exact h _ ((Heap.Ns.new s.heap (.type "dict")).keeps (pushCells_keeps _ _)) (fun b o e=>pushCells_keeps _ _ b o (WJ _ e)) ok
noncomputable def bg(X:Cx)(N:List Str)(scope:Scope)(cells:List (Str×Addr))(C:Addr)(fp:List Addr)(s:Shared)(H:Hp):Cx where
 prog:=X.prog
 w:=X.w
 K:=X.K
 mg:=X.mg
 base:=X.base
 A:=X.A
 N:=N
 s₀:=s
 H₀:=H
 env:=compEnvC scope cells C X.env
 outer:=X.stack
 stack:=X.stack
 ex:=fp
 fn:=fun x=>decide (scope.names.lookup x=some .cell)
 calm:=X.calm
 pn:=[]
 xe:=fun _ _=>False
noncomputable def rX(scope sc:Scope):Scope :=
 { scope with names:=scope.names.map fun (n,k)=>if (k == .free && sc.kind == .function && sc.names.lookup n == some .cell) then (n,.cell) else (n,k) }
structure rY(sc scope:Scope)(own fr:List Str):Prop where
 kind:scope.kind=.function
 nd:(own ++ fr).Nodup
 Ab:(scope.names.map (·.1)).Nodup
 free:∀y∈scope.names,y.2=.free->sc.names.lookup y.1=some .cell\/sc.names.lookup y.1=some .free
 HS:∀x∈fr,scope.names.lookup x=some .free
structure gA(X:Cx)(scope:Scope)(own fr:List Str)(js:List Nat):Prop where
 c:rY X.env.scope scope own fr
 ix:js.map (fun j=>X.N[j]?)=fr.map some
theorem gA.kind{X:Cx}{scope:Scope}{own fr:List Str}{js:List Nat}(S:gA X scope own fr js):scope.kind=.function:=S.c.kind
theorem gA.Ab{X:Cx}{scope:Scope}{own fr:List Str}{js:List Nat}(S:gA X scope own fr js):(scope.names.map (·.1)).Nodup:=S.c.Ab
theorem gA.HS{X:Cx}{scope:Scope}{own fr:List Str}{js:List Nat}(S:gA X scope own fr js):∀x∈fr,scope.names.lookup x=some .free:=S.c.HS
theorem gA.free{X:Cx}{scope:Scope}{own fr:List Str}{js:List Nat}(S:gA X scope own fr js):∀y∈scope.names,y.2=.free->X.env.kindOf y.1=some .cell\/X.env.kindOf y.1=some .free:=S.c.free
theorem BS{α:Type}:∀{l:List (Str×α)} {n:Str} {c:α},(l.map (·.1)).Nodup->(n,c)∈l->l.lookup n=some c
 |(k,v) :: r,n,c,nd,h=>by
  obtain ⟨h1,h2⟩:=Xc.mp nd;rw [XD];rcases WT.mp h with e|h
  ·cases e;simp
  ·have:(n == k)=false:=beq_eq_false_iff_ne.mpr fun e=>h1 (by rw [<- e];exact WB.mpr ⟨(n,c),h,rfl⟩)
   rw [this];exact BS h2 h
theorem LB(scope:Scope)(env:Env)(x:Str):(relabel scope env).names.lookup x=none/\scope.names.lookup x=none \/
  ∃k,scope.names.lookup x=some k/\(relabel scope env).names.lookup x=some (if (k == .free && env.scope.kind == .function && env.kindOf x == some .cell) then .cell else k):=by
 have key:∀ names:List (Str×NameKind),(names.map fun (n,k)=>if (k == NameKind.free && env.scope.kind == .function && env.kindOf n == some .cell) then (n,NameKind.cell) else (n,k)).lookup x=none/\names.lookup x=none \/
   ∃k,names.lookup x=some k/\(names.map fun (n,k)=>if (k == NameKind.free && env.scope.kind == .function && env.kindOf n == some .cell) then (n,NameKind.cell) else (n,k)).lookup x=some (if (k == .free && env.scope.kind == .function && env.kindOf x == some .cell) then .cell else k):=by
  intro names
  induction names with
  |nil=>exact .inl ⟨rfl,rfl⟩
  |cons p r ih =>
   obtain ⟨n,k⟩:=p;rw [WM];cases hx:x == n with
   |true =>
    have e:x=n:=by simpa using hx
    subst e;refine .inr ⟨k,by simp [XD],?_⟩
    by_cases hc:(k == NameKind.free && env.scope.kind == .function && env.kindOf x == some .cell)=true
    ·simp only [if_pos hc];simp [XD]
    ·simp only [if_neg hc];simp [XD]
   |false =>
    have e1:∀q:NameKind,(((n,q) :: (r.map fun (n,k)=>if (k == NameKind.free && env.scope.kind == .function && env.kindOf n == some .cell) then (n,NameKind.cell) else (n,k))).lookup x)=((r.map fun (n,k)=>if (k == NameKind.free && env.scope.kind == .function && env.kindOf n == some .cell) then (n,NameKind.cell) else (n,k)).lookup x):=fun q=>by rw [XD,hx]
    have e2:((n,k) :: r).lookup x=r.lookup x:=by rw [XD,hx]
    rw [e2]
    by_cases hc:(k == NameKind.free && env.scope.kind == .function && env.kindOf n == some .cell)=true
    ·simp only [if_pos hc];rw [e1];exact ih
    ·simp only [if_neg hc];rw [e1];exact ih
 exact key scope.names
noncomputable def jR(n:Nat)(js:List Nat)(σ:St):St:=List.replicate n none ++ js.map fun j=>σ.getD j none
theorem Inv.BU{X:Cx}{pins:List (Addr×Obj)}{σ:St}{H:Hp}{s:Shared}{a:Addr}{o:HO}(I:Inv X pins σ H s)(f:lP X pins H a)(new:cG X.prog X.w (upd H a o) s.heap a o):Inv X pins σ (upd H a o) s:=by
 obtain ⟨f0,f1,f2,f3,f4,f5⟩:=f;have ne:∀b u,H b=some u->b≠a:=fun b u e z=>by rw [z,f0] at e;cases e
 refine I.step (h':=s.heap) (H':=upd H a o) (g':=s.gens) (d':=s.drawn) (t':=s.toks) (ch:=[a]) (fun b hb=>?_) (fun b u _ _ _ e _=>e) (fun b u _ _ _ e _=>⟨u.slots,e⟩) (fun b u hb e n=>?_) (fun b u _ e=>⟨u,e⟩)
  (fun b xs e=>by rw [ki (ne b _ e)];exact e) (fun b u xs e=>by rw [ki (ne b _ e)];exact e) (fun b ps e=>⟨#[],by rw [ki (ne b _ e),e];simp⟩) (fun m hm=>hm) (fun b u e=>?_) I.bare
 ·have e:b=a:=by simpa using hb
  subst e;exact ⟨f3,f1,f4,f5⟩
 ·rw [ki (fun z=>hb (by simp [z]))];exact n
 ·by_cases hb:b=a
  ·subst hb;rw [rf] at e;cases e;exact new
  ·rw [ki hb] at e
   exact (I.hok b u e).stay (fun c v _ q=>q) (fun c q=>by rw [ki (ne c _ q)];exact q) fun c xs q=>by rw [ki (ne c _ q)];exact q
noncomputable def PF(X:Cx)(ifs:List Expr)(t:TT):Prop :=
 ∀(pins:List (Addr×Obj)) (s:Shared) (σ:St) (H:Hp) (Q:Bool->Hp->Prop),Inv X pins σ H s->t σ H Q ->
  wpAny (model X.prog X.w) X.A (forIn ifs true fun c r=>if r=true then do let ok <- isTrue c X.env (eval c X.env);pure (ForInStep.yield ok) else pure (ForInStep.yield r)) (TP X pins σ Q) X.xe s
theorem qh{X:Cx}:PF X [] (fun _ H Q=>Q true H):=fun _ _ _ H _ I h=>wpAny_tests_nil ⟨H,I,h⟩
theorem LC{X:Cx}{c:Expr}{t:TT}(h:PT X c t):PF X [c] t:=fun pins s σ H Q I hw=>wpAny_tests_one (h pins s σ H Q I hw)
theorem PZ{prog:Program}{w:World}{A:Around}{R:Result->Shared->Prop}{s:Shared}{elt target iter:Expr}{ifs:List Expr}{scope:Scope}{pos:Pos}{it acc:Value}{env:Env}(I:Nat->Shared->Prop)
  (turn:∀n s,I n s->wpAny (model prog w) A (pyNext it) (fun r s₁=>match r with
   |none=>R (.ok .next) s₁
   | some v=>wpAny (model prog w) A (letOwnedTupleGo target it v) (fun _ s₁'=>wpAny (model prog w) A (assign target env v) (fun _ s₂ =>
     wpAny (model prog w) A (forIn ifs true fun c r=>if r=true then do let ok <- isTrue c env (eval c env);pure (ForInStep.yield ok) else pure (ForInStep.yield r)) (fun ok s₃ =>
      if ok=true then wpAny (model prog w) A (eval elt env) (fun x s₄ =>
       wpAny (model prog w) A (call (.builtin "list.append") [acc,x]) (fun _ s₅=>∃m,m<n/\I m s₅) (fun _ _=>False) s₄) (fun _ _=>False) s₃
      else ∃m,m<n/\I m s₃) (fun _ _=>False) s₂) (fun _ _=>False) s₁') (fun _ _=>False) s₁) (fun _ _=>False) s)
  (n:Nat) (h:I n s) :
  codeAny (model prog w) A (.compLoop (.ListComp elt [⟨target,iter,ifs,0⟩] scope pos) 0 it acc env) R s:=by
 refine codeAny_loop rfl I (fun n s hI=>?_) n h;show wpAny _ A ((compTurn (.ListComp elt [⟨target,iter,ifs,0⟩] scope pos) 0 it acc env).onRaise (fun x=>do noteFrame x env;theTreesLotGoes x)) _ _ s;refine wpAny_noted ?_;rw [compTurn_list];refine wpAny_bind (wpAny_standAt (wpAny_bind (wpAny_mono (turn n s hI) (fun r s₁ h₁=>?_) fun _ _ h'=>h'.elim)));cases r with
 |none=>exact wpAny_pure h₁
 |some v =>
  refine wpAny_bind (wpAny_mono h₁ (fun _ s₁' h₁'=>?_) fun _ _ h'=>h'.elim);refine wpAny_bind (wpAny_mono h₁' (fun _ s₂ h₂=>wpAny_bind (wpAny_mono h₂ (fun ok s₃ h₃=>?_) fun _ _ h'=>h'.elim)) fun _ _ h'=>h'.elim);cases ok with
  |false=>exact wpAny_pure ⟨rfl,h₃⟩
  |true =>
   exact wpAny_bind (wpAny_bind (wpAny_mono h₃ (fun x s₄ h₄=>wpAny_bind (wpAny_mono h₄ (fun _ s₅ h₅=>wpAny_pure (wpAny_pure ⟨rfl,h₅⟩)) fun _ _ h'=>h'.elim)) fun _ _ h'=>h'.elim))
noncomputable def xy(J:It)(n:Nat)(js:List Nat)(g:TG)(tc:TT)(te:TE)(σ:St)(H1:Hp)(Q:VK):Prop :=
 ∃W:Nat->Nat->List V->St->Hp->Prop,(∃m,W 0 m [] (jR n js σ) H1)/\∀i m ys σ' H',W i m ys σ' H' ->
  ys.length<sizeLine/\((J.stop i H'/\∀p,H' p=none->Q (.ref p) (upd H' p (.lst ys))) \/
   (J.go i H'/\∀x H2,J.ud i H' x H2->g x σ' H2 fun σ2 H3=>tc σ2 H3 fun b H4=>if b=true then te σ2 H4 fun y H5=>∃m',m' < m/\W (i+1) m' (ys ++ [y]) σ2 H5 else ∃m',m' < m/\W (i+1) m' ys σ2 H4))
noncomputable def rZ(wi:TI)(n:Nat)(js:List Nat)(g:TG)(tc:TT)(te:TE):TE:=fun σ H Q=>wi σ H fun J H1=>xy J n js g tc te σ H1 Q
section
variable {X:Cx}{pins:List (Addr×Obj)}{σ:St}{tg iter elt:Expr}{ifs:List Expr}{scope:Scope}{pos:Pos}{own fr:List Str}{js:List Nat}{g:TG}{tc:TT}{te:TE}{wi:TI}
theorem LD{H2:Hp}{s2:Shared}{it:Addr}{fp:List Addr}{tn:Nat->Heap->Prop}{J:It}{Q:VK}{E:Value->Shared->Prop}{cl:List (Str×Addr)}{RR:Value->Addr->Result->Shared->Prop}
  (hc:X.calm=true) (S:gA X scope own fr js) (hg:∀cells C fp s H,PG (bg X (own ++ fr) scope cells C fp s H) tg g) (hf:∀cells C fp s H,PF (bg X (own ++ fr) scope cells C fp s H) ifs tc) (he:∀cells C fp s H,PE (bg X (own ++ fr) scope cells C fp s H) elt te)
  (I2:Inv X pins σ H2 s2) (T:Turn X.prog X.w X.K tg J fp it tn) (st2:tn 0 s2.heap) (f2:∀b∈fp,lP X pins H2 b)
  (pK:∀n c,(n,c)∈cl->X.env.cells.lookup n=some c/\(n,NameKind.free)∈scope.names) (r6:∀n,(n,NameKind.free)∈scope.names->∃c,(n,c)∈cl)
  (W:Nat->Nat->List V->St->Hp->Prop) (m0:Nat) (w0:W 0 m0 [] (jR own.length js σ) H2)
  (turn:∀i m ys σ' H',W i m ys σ' H'->ys.length<sizeLine/\((J.stop i H'/\∀p,H' p=none->Q (.ref p) (upd H' p (.lst ys))) \/
   (J.go i H'/\∀x H2,J.ud i H' x H2->g x σ' H2 fun σ2 H3=>tc σ2 H3 fun b H4=>if b=true then te σ2 H4 fun y H5=>∃m',m' < m/\W (i+1) m' (ys ++ [y]) σ2 H5 else ∃m',m' < m/\W (i+1) m' ys σ2 H4)))
  (fin:∀(acc C:Addr) (H':Hp) (s':Shared) (v:V),v=.ref acc->Inv X pins σ H' s'->lP X pins H' C->(∃m,s'.heap.Ns C m)->Q v H'->RR (.ref acc) C (.ok .next) s') :
  wpAny (model X.prog X.w) X.A (newList []) (fun acc s3=>wpAny (model X.prog X.w) X.A (newFunctionEnv scope X.env.globals cl [] X.env.qual none .none (some X.env)) (fun cenv s4 =>
   codeAny (model X.prog X.w) X.A (.compStart (.ListComp elt [⟨tg,iter,ifs,0⟩] scope pos) 0 (.ref it) acc { cenv with scope:=relabel scope X.env }) (RR acc cenv.locals) s4) E s3) E s2:=by
 refine wpAny_newObj_type ?_;refine PY fun h4 hns LF oh=>?_;have hA:s2.heap.objs.size<(s2.heap.push { cls:=.type "list",data:=.seq ([]:List Value).toArray }).objs.size:=by rw [XS];exact Xs _
 generalize hC:(s2.heap.push { cls:=.type "list",data:=.seq ([]:List Value).toArray }).objs.size=C at hns oh hA ⊢;generalize hac:s2.heap.objs.size=acc at hA ⊢;have HU:acc≠C:=Xf hA;have old:∀b o,s2.heap.get? b=some o->h4.get? b=some o:=fun b o e=>LF b o (WJ _ e);have hacc:h4.get? acc=some { cls:=.type "list",data:=.seq ([]:List Value).toArray }:=LF _ _ (by rw [<- hac];exact WW _ rfl);have HV:∀x c,(x,c)∈cellsFrom (C+1) scope.names []->h4.IsCell c none/\C+1<=c/\scope.names.lookup x=some .cell:=fun x c h=>⟨(oh.empty x c h).1,(oh.empty x c h).2,BS S.Ab (HQ _ _ h).1⟩;have lk:∀x c,(cellsFrom (C+1) scope.names cl).lookup x=some c->(h4.IsCell c none/\C+1<=c/\(x,c)∈cellsFrom (C+1) scope.names [])\/(X.env.cells.lookup x=some c/\scope.names.lookup x=some .free):=fun x c h=>by
  rw [BR] at h;rcases WS.mp (PySem.mem_of_lookup h) with q|q
  ·exact .inl ⟨(HV x c q).1,(HV x c q).2.1,q⟩
  ·exact .inr ⟨(pK x c q).1,BS S.Ab (pK x c q).2⟩
 have HW:∀x c,X.env.cells.lookup x=some c->c<s2.heap.objs.size:=fun x c h=>by
  obtain ⟨v,z⟩:=I2.cell x c h;exact z.lt
 have qi:∀x c,(cellsFrom (C+1) scope.names cl).lookup x=some c->c≠C/\c≠acc/\H2 c=none/\∀b∈fp,c≠b:=fun x c h=>by
  rcases lk x c h with ⟨_,h1,_⟩|⟨h1,_⟩
  ·refine ⟨LA (by omega),LA (by omega),I2.hok.fresh (by omega),fun b hb z=>?_⟩
   obtain ⟨o,e,_⟩:=T.obj 0 _ st2 b hb;have:=ltN (WO e);rw [<- z] at this;omega
  ·have:=ltN (HW x c h1)
   exact ⟨wW (by omega),wW (by omega),I2.kL x c h1,fun b hb=>(f2 b hb).2.2.2.2.1 x c h1⟩
 have BV:∀x,scope.names.lookup x=some .free->∃c,X.env.cells.lookup x=some c/\(cellsFrom (C+1) scope.names cl).lookup x=some c:=fun x h=>by
  obtain ⟨c,LG⟩:=r6 x (PySem.mem_of_lookup h);have hc1:=(pK x c LG).1;have hs:((cellsFrom (C+1) scope.names cl).lookup x).isSome=true:=by
   refine PySem.W.cellsFrom_some scope.names (C+1) cl (.inr ?_);cases q:cl.lookup x with
   |some d=>rfl
   |none =>
    exfalso;have:∀{l:List (Str×Addr)},(x,c)∈l->l.lookup x≠none:=by
     intro l
     induction l with
     |nil=>intro h;exact nomatch h
     |cons p r ih =>
      intro h z;obtain ⟨k,v⟩:=p;rw [XD] at z;cases hb:x == k with
      |true=>rw [hb] at z;cases z
      |false =>
       rw [hb] at z;rcases WT.mp h with e|h
       ·cases e;simp at hb
       ·exact ih h z
    exact this LG q
  obtain ⟨d,hd⟩:=XT.mp hs;rcases lk x d hd with ⟨_,_,h2⟩|⟨h1,_⟩
  ·have:=(HV x d h2).2.2
   rw [h] at this;cases this
  ·rw [hc1] at h1;cases h1
   exact ⟨c,hc1,hd⟩
 have EW:∀b∈fp,b≠C/\b≠acc:=fun b hb=>by
  obtain ⟨o,e,_⟩:=T.obj 0 _ st2 b hb;have:=ltN (WO e);exact ⟨wW (by omega),wW (by omega)⟩
 have P0:(relabel scope X.env).kind=.function:=S.kind;have ok:(bg X (own ++ fr) scope (cellsFrom (C+1) scope.names cl) C fp s2 H2).Ok:=by
  refine ⟨I2.ok.mod,P0,I2.ok.glob,I2.ok.blt,?_,fun x y c h1 h2=>?_,fun x hx=>?_,fun x c hx h=>?_,I2.ok.hd,I2.ok.frames,.inl rfl,fun b hb=>⟨(EW b hb).1,fun x c h=>(qi x c h).2.2.2 b hb⟩,I2.bs,WZ I2.ok.uV I2.sz,fun b o e hb=>?_,fun b hb z=>?_,I2.stack,I2.pZ⟩
  ·show s2.heap.objs.size<=C
   omega
  ·rcases lk x c h1 with ⟨_,q1,q2⟩|⟨q1,_⟩
   ·rcases lk y c h2 with ⟨_,r1,r2⟩|⟨r1,_⟩
    ·exact name_of_addr oh.apart q2 r2
    ·have:=ltN (HW y c r1);omega
   ·rcases lk y c h2 with ⟨_,r1,r2⟩|⟨r1,_⟩
    ·have:=ltN (HW x c q1);omega
    ·exact I2.ok.inj x y c q1 r1
  ·have hx':(relabel scope X.env).names.lookup x=some .cell\/(relabel scope X.env).names.lookup x=some .free:=hx
   rcases LB scope X.env x with ⟨e,_⟩|⟨k,e1,e2⟩
   ·rcases hx' with z|z<;>(rw [e] at z;cases z)
   ·by_cases hk:k=.free
    ·subst hk
     obtain ⟨c,_,h⟩:=BV x e1;exact ⟨c,h⟩
    ·have hk':k=.cell:=by
      have hb:(k == NameKind.free)=false:=beq_eq_false_iff_ne.mpr hk;rw [hb] at e2;simp only [Bool.false_and,WR,if_false] at e2;rcases hx' with z|z
      ·rw [e2] at z;exact WD z
      ·rw [e2] at z;exact absurd (WD z) hk
     subst hk';exact XT.mp (PySem.W.cellsFrom_some scope.names (C+1) cl (.inl e1))
  ·have hx':scope.names.lookup x=some .cell:=of_decide_eq_true hx
   show s2.heap.objs.size<=c;rcases lk x c h with ⟨_,q,_⟩|⟨_,q⟩
   ·omega
   ·rw [hx'] at q;cases q
  ·rcases (f2 b hb).2.2.2.1 with z|z
   ·exact I2.ok.rG b o e z
   ·have h1:@LT.lt Nat _ b X.base.objs.size:=WO e
    have h2:=I2.ok.uV;omega
  ·rcases WT.mp (I2.mW b z) with e|e
   ·exact (f2 b hb).2.1 e
   ·exact (f2 b hb).2.2.1 e
 have I4:Inv (bg X (own ++ fr) scope (cellsFrom (C+1) scope.names cl) C fp s2 H2) [(acc,{ cls:=.type "list",data:=.seq ([]:List Value).toArray })] (jR own.length js σ) H2 { s2 with heap:=h4 }:=by
  refine ⟨ok,rfl,I2.bare,Un.kept old,⟨_,hns,fun i x v e1 e2 e3=>?_⟩,fun x c h=>?_,I2.hok.fresh (by show s2.heap.objs.size<=C;omega),fun x c h=>(qi x c h).2.2.1,fun p hp=>?_,I2.hok.kept old,?_⟩
  ·have Ac:(own ++ fr)[i]?=some x:=e1
   unfold jR at e2
   by_cases hi:i<own.length
   ·rw [WG (by simpa using hi),X0] at e2
    split at e2<;>cases e2
   ·rw [WN (by simpa using hi),X5,Wx] at e2
    rw [WN (by omega)] at Ac;cases hj:js[i-own.length]? with
    |none=>rw [hj] at e2;cases e2
    |some j =>
     rw [hj] at e2;have BW:σ.getD j none=some v:=WD e2;have hN:X.N[j]?=some x:=by
      have q:=congrArg (fun l=>l[i-own.length]?) S.ix;simp only [Wx,hj,Ac,Option.map_some] at q;exact WD q
     have hσ:σ[j]?=some (some v):=by
      rw [WI] at BW;cases q:σ[j]? with
      |none=>rw [q] at BW;cases BW
      |some o=>rw [q] at BW;exact congrArg some BW
     have hfr:scope.names.lookup x=some .free:=S.HS x (Ww Ac);have hk:=S.free _ (PySem.mem_of_lookup hfr) rfl;obtain ⟨m,_,hl⟩:=I2.loc;obtain ⟨u,ru,lo⟩:=hl j x v hN hσ (by rcases hk with k|k;exact .inr (.inl k);exact .inr (.inr k));refine ⟨u,ru,.inr ⟨?_,?_⟩⟩
     ·rcases LB scope X.env x with ⟨_,e⟩|⟨k,q1,q2⟩
      ·rw [hfr] at e;cases e
      ·rw [hfr] at q1;cases q1
       have P6:(compEnvC scope (cellsFrom (C+1) scope.names cl) C X.env).kindOf x=some (if (NameKind.free == .free && X.env.scope.kind == .function && X.env.kindOf x == some .cell)=true then .cell else .free):=q2;rw [show (bg X (own ++ fr) scope (cellsFrom (C+1) scope.names cl) C fp s2 H2).env.kindOf x=_ from P6];split
       ·exact .inl rfl
       ·exact .inr rfl
     ·rcases lo with ⟨k,_⟩|⟨_,c,hc1,hc2⟩
      ·rcases hk with k'|k'<;>(rw [k] at k';cases k')
      ·obtain ⟨d,hd1,hd2⟩:=BV x hfr
       rw [hc1] at hd1;cases hd1;exact ⟨c,hd2,hc2.keeps old⟩
  ·rcases lk x c h with ⟨q,_,_⟩|⟨q,_⟩
   ·exact ⟨_,q⟩
   ·obtain ⟨v,z⟩:=I2.cell x c q
    exact ⟨v,z.keeps old⟩
  ·have e:p=(acc,{ cls:=.type "list",data:=.seq ([]:List Value).toArray }):=by simpa [bg] using hp
   subst e;refine ⟨hacc,I2.hok.fresh (by omega),HU,fun z=>?_,fun v z=>nomatch z⟩;rcases WT.mp (I2.mW acc z) with e|e
   ·have:=ltN I2.lt
    rw [<- e] at this;omega
   ·exact I2.A7 (by omega) e
  ·show (jR own.length js σ).length=(own ++ fr).length
   have q:=congrArg List.length S.ix;simp only [Wo] at q;unfold jR;rw [Wt,X5,Wo,Wt,q]
 have HX:∀{H':Hp} {ob:Obj},(∀b∈fp,H' b=none)->∀b∈fp,lP (bg X (own ++ fr) scope (cellsFrom (C+1) scope.names cl) C fp s2 H2) [(acc,ob)] H' b:=fun {H' ob} hn b hb =>
  ⟨hn b hb,(EW b hb).1,fun z=>by
   rcases WT.mp (I2.mW b z) with e|e
   ·exact (f2 b hb).2.1 e
   ·exact (f2 b hb).2.2.1 e,.inl hb,fun x c h=>(qi x c h).2.2.2 b hb,fun p hp=>by
   have e:p=(acc,ob):=by simpa [bg] using hp
   subst e
   exact fun z=>(EW b hb).2 z.symm⟩
 have loop:codeAny (model X.prog X.w) X.A (.compLoop (.ListComp elt [⟨tg,iter,ifs,0⟩] scope pos) 0 (.ref it) (.ref acc) (compEnvC scope (cellsFrom (C+1) scope.names cl) C X.env)) (RR (.ref acc) C) { s2 with heap:=h4 }:=by
  refine PZ (fun m s'=>∃(i:Nat) (ys:List V) (its:List Value) (n:Nat) (σ':St) (H':Hp),Inv (bg X (own ++ fr) scope (cellsFrom (C+1) scope.names cl) C fp s2 H2) [(acc,{ cls:=.type "list",data:=.seq its.toArray n })] σ' H' s'/\Vals ys its/\tn i s'.heap/\(∀b∈fp,H' b=none)/\W i m ys σ' H') ?_ m0
   ⟨0,[],[],0,_,H2,I4,.nil,T.keep _ _ _ st2 fun b _ o e=>old b o e,fun b hb=>(f2 b hb).1,w0⟩
  rintro n s5 ⟨i,ys,its,en,σ5,H5,I5,rv,kM,EJ,w5⟩;obtain ⟨hz,alt⟩:=turn i n ys σ5 H5 w5;rcases alt with ⟨stop,qn⟩|⟨go,step⟩
  ·refine c6 (T.done (bg X (own ++ fr) scope (cellsFrom (C+1) scope.names cl) C fp s2 H2) rfl rfl rfl hc i _ s5 σ5 H5 _ I5 (HX EJ) kM stop) fun r s6 ⟨hr,I6⟩=>?_
   subst hr;show RR (.ref acc) C (.ok .next) s6;have u:Un (frs X.stack) fp H2 H5 s2.heap s6.heap:=I6.base;have J6:Inv X pins σ H5 s6:=I2.Ba I6.os u I6.hok I6.bare fun b hb=>⟨(f2 b hb).2.2.2.1,(f2 b hb).2.1,(f2 b hb).2.2.2.2.1,(f2 b hb).2.2.2.2.2⟩;have pacc:=I6.pin (acc,_) (WY _ Wy);have HY:lP X pins H5 acc:=I2.qK (by omega) pacc.2.1;have fC:lP X pins H5 C:=I2.qK (by omega) I6.free;have K6:Inv X pins σ (upd H5 acc (.lst ys)) s6:=J6.BU HY ⟨Nat.le_of_lt hz,its,en,rv,pacc.1⟩;obtain ⟨m,hm,_⟩:=I6.loc;exact fin acc C _ s6 (.ref acc) rfl K6 ⟨by rw [ki HU.symm];exact fC.1,fC.2⟩ ⟨m,hm⟩ (qn acc pacc.2.1)
  ·refine c6 (T.item (bg X (own ++ fr) scope (cellsFrom (C+1) scope.names cl) C fp s2 H2) rfl rfl rfl hc i _ s5 σ5 H5 _ I5 (HX EJ) kM go) fun r s6 ⟨u,hr,h6⟩=>?_
   subst hr;refine c6 h6 fun _ s7 ⟨x,H7,I7,r7,y7,qO,P8⟩=>?_;have P9:=I7.pinned (HX P8) (T.obj _ _ qO);refine c6 (hg _ _ _ _ _ _ s7 σ5 H7 x u _ P9 r7 (step x H7 y7)) fun _ s8 ⟨σ8,H8,I8,q8⟩=>?_;refine c6 (hf _ _ _ _ _ _ s8 σ8 H8 _ I8 q8) fun b s9 ⟨H9,I9,q9⟩=>?_;have EX:∀{s':Shared} {σ':St} {H':Hp},Inv (bg X (own ++ fr) scope (cellsFrom (C+1) scope.names cl) C fp s2 H2) ([(acc,{ cls:=.type "list",data:=.seq its.toArray en })] ++ mY fp s7.heap) σ' H' s'->tn (i+1) s'.heap/\∀b∈fp,H' b=none:=fun {s' σ' H'} I' =>
    ⟨T.keep _ _ _ qO fun b hb o e=>(I'.pin (b,o) (WY _ (WY _ (EI hb e)))).1,fun b hb=>by
     obtain ⟨o,e,d⟩:=T.obj _ _ qO b hb
     exact (I'.pin (b,o) (WY _ (WY _ (EI hb e)))).2.1⟩
   cases b with
   |false =>
    obtain ⟨m',hm,w9⟩:=q9;exact ⟨m',hm,i+1,ys,its,en,σ8,H9,I9.lG,rv,(EX I9).1,(EX I9).2,w9⟩
   |true =>
    refine c6 (he _ _ _ _ _ _ s9 σ8 H9 _ I9 q9) fun y tG ⟨yv,HZ,EY,Qa,m',hm,LH⟩=>?_;have pacc:=EY.pin (acc,_) (WY _ (Xw _ Wy));have hlen:=rv.length;refine wpAny_list_append_plain (items:=its.toArray) ⟨en,pacc.1⟩ (fun h11 ⟨LI,Ie⟩ BX=>?_) (by simp only [WH];omega);have cA:∀x c,(cellsFrom (C+1) scope.names cl).lookup x=some c->c≠acc:=fun x c h=>(qi x c h).2.1;have Ia:Inv (bg X (own ++ fr) scope (cellsFrom (C+1) scope.names cl) C fp s2 H2) [] σ8 HZ tG:=EY.mI fun p hp=>nomatch hp;have Ib:Inv (bg X (own ++ fr) scope (cellsFrom (C+1) scope.names cl) C fp s2 H2) [] σ8 HZ { tG with heap:=h11 }:=Ia.turned (it:=acc) (t':=tG.toks) (fun b o hb e=>(BX.2 b hb).trans e) pacc.2.1 HU (.inr (by show s2.heap.objs.size<=acc;omega)) cA fun p hp=>nomatch (show p∈([]:List (Addr×Obj)) from by simpa [bg] using hp);refine ⟨m',hm,i+1,ys ++ [yv],its ++ [y],LI,σ8,HZ,Ib.mI fun p hp=>?_,rv.append (.cons Qa .nil),T.keep _ _ _ (EX EY).1 fun b hb o e=>(BX.2 b (EW b hb).2).trans e,(EX EY).2,LH⟩;have e:p=(acc,{ cls:=.type "list",data:=.seq (its ++ [y]).toArray LI }):=by simpa using hp
    subst e;exact ⟨by simpa using Ie,pacc.2.1,pacc.2.2.1,pacc.2.2.2.1,fun v z=>nomatch z⟩
 exact codeAny_compStart_list loop (T.self X.A 0 _ _ _ (T.keep _ _ _ st2 fun b _ o e=>old b o e) loop)
theorem rh(hc:X.calm=true)(S:gA X scope own fr js)(hi:PI X tg iter wi)(hg:∀cells C fp s H,PG (bg X (own ++ fr) scope cells C fp s H) tg g)(hf:∀cells C fp s H,PF (bg X (own ++ fr) scope cells C fp s H) ifs tc)(he:∀cells C fp s H,PE (bg X (own ++ fr) scope cells C fp s H) elt te)
  (hs:∀x,foldedSetIterable iter X.env x=pure x:=by intro _;rfl):PE X (.ListComp elt [⟨tg,iter,ifs,0⟩] scope pos) (rZ wi own.length js g tc te):=by
 intro pins s σ H Q I h;obtain ⟨cl,hcl,pK,r6⟩:=Lz (scope:=scope) (env:=X.env) fun y hy hk=>I.ok.has y.1 (S.free y hy hk);rw [eval_ListComp];refine wpAny_comprehension_free (use:=none) rfl hs hcl S.kind (fun y hy hk=>by rw [<- hk];exact BS S.Ab hy) (c6 (hi pins s σ H _ I h) fun v s1 h1=>c6 h1 fun itv s2 h2=>?_);obtain ⟨it,fp,tn,J,H2,e,I2,T,st2,f2,W,⟨m0,w0⟩,turn⟩:=h2;subst e;refine LD (RR:=fun acc C=>compPost (model X.prog X.w) X.A X.xe none (EP X pins σ Q) acc C) hc S hg hf he I2 T st2 f2 pK r6 W m0 w0 turn ?_;intro acc C H' s' v hv I' fC ⟨m,hm⟩ q;subst hv;obtain ⟨f0,f1,Ig,f3,f4,f5⟩:=fC;exact ⟨m,hm,fun h'' xA=>⟨.ref acc,H',I'.turned (it:=C) (t':=s'.toks) (fun b o hb e=>(xA.2 b hb).trans e) f0 f1 f3 f4 f5,rfl,q⟩⟩
theorem EZ{i:Nat}{x:Str}{pos' spos:Pos}(hc:X.calm=true)(hN:X.N.Nodup)(hx:X.N[i]?=some x)(hl:X.env.scope.names.lookup x=some .local)(S:gA X scope own fr js)(hi:PI X tg iter wi)(hg:∀cells C fp s H,PG (bg X (own ++ fr) scope cells C fp s H) tg g)(hf:∀cells C fp s H,PF (bg X (own ++ fr) scope cells C fp s H) ifs tc)(he:∀cells C fp s H,PE (bg X (own ++ fr) scope cells C fp s H) elt te)
  (hsw:swapsWith (.ListComp elt [⟨tg,iter,ifs,0⟩] scope pos) (some (.Name x pos')) spos.line X.env=pure true:=by rfl)
  (hs:∀x,foldedSetIterable iter X.env x=pure x:=by intro _;rfl):PS X (.Assign [.Name x pos'] (.ListComp elt [⟨tg,iter,ifs,0⟩] scope pos) spos) (uc (rZ wi own.length js g tc te) (oV i)):=by
 intro pins s σ H D I h;obtain ⟨cl,hcl,pK,r6⟩:=Lz (scope:=scope) (env:=X.env) fun y hy hk=>I.ok.has y.1 (S.free y hy hk);rw [exec_Assign_Name_used _ _ _ _ hsw];refine wpAny_bind (wpAny_standAt (wpAny_bind ?_));show wpAny _ X.A (do let _ <- comprehension (.ListComp elt [⟨tg,iter,ifs,0⟩] scope pos) scope X.env _ (newList []) false (eval iter X.env) (some (assign (.Name x pos') X.env))) _ _ s
 refine wpAny_bind (wpAny_mono (wpAny_comprehension_free (use:=some (assign (.Name x pos') X.env)) (Q:=fun _ s'=>SP X pins D .next s') rfl hs hcl S.kind (fun y hy hk=>by rw [<- hk];exact BS S.Ab hy)
  (c6 (hi pins s σ H _ I h) fun v s1 h1=>c6 h1 fun itv s2 h2=>?_)) (fun _ s' hq=>wpAny_pure (wpAny_pure hq)) fun _ _ e=>e)
 obtain ⟨it,fp,tn,J,H2,e,I2,T,st2,f2,W,⟨m0,w0⟩,turn⟩:=h2;subst e;refine LD (Q:=fun v H'=>oV i v σ H' D.nx) (RR:=fun acc C=>compPost (model X.prog X.w) X.A X.xe (some (assign (.Name x pos') X.env)) (fun _ s'=>SP X pins D .next s') acc C) hc S hg hf he I2 T st2 f2 pK r6 W m0 w0 turn ?_;intro acc C H' s' v hv I' fC ⟨m,hm⟩ q;subst hv;obtain ⟨f0,f1,Ig,f3,f4,f5⟩:=fC;show wpAny _ X.A (assign (.Name x pos') X.env (.ref acc)) _ _ _;refine wpAny_assign_Name (Kx I' hN hx (.inl hl) (show RelV (.ref acc) (.ref acc) from rfl) (fun s'' Qb ⟨a,hs1,ha⟩=>?_) (.inr hl));have haC:a≠C:=by
  rcases ha with e|e
  ·rw [e];exact f1.symm
  ·exact f4 _ _ e
 exact ⟨m,hm.sameBut hs1 haC.symm,fun h'' xA=>⟨_,H',Qb.turned (it:=C) (t':=s''.toks) (fun b o hb e=>(xA.2 b hb).trans e) f0 f1 f3 f4 f5,q⟩⟩
end
mutual
noncomputable def wD:PyData->Nat
 |.none=>4
 |.bool _=>5
 |.int _=>1921
 |.str x=>(reprText x).length
 |.list _=>0
 |.tuple xs=>BZ xs+3
 |.dict _=>0
noncomputable def BZ:List PyData->Nat
 |[]=>0
 |x :: xs=>wD x+2+BZ xs
end
noncomputable def kT(ns:List Int):PyData:=.tuple (du ns)
theorem Ih:∀(rs:List (List Int)),PyData.canLayAll0 (rs.map kT)=true
 |[]=>rfl
 |r :: rs=>by
  show (PyData.canLayAll0 (du r) && PyData.canLayAll0 (rs.map kT))=true;rw [xv,Ih rs];rfl
theorem LJ:∀(rs:List (List Int)),PyData.depthAll (rs.map kT)<=1
 |[]=>W9 _
 |r :: rs=>by
  show max (PyData.depthAll (du r)+1) (PyData.depthAll (rs.map kT))<=1;have:=LJ rs;rw [Aa];omega
noncomputable def Ii(i:Int):Prop:=-1000000000000000000<=i/\i<=1000000000000000000
end L2
namespace L2
open PySem PySem.Spec PyProof.Rows
section
variable {X:Cx}{K:Zfr}
theorem tH(hK:X.K=K):BB X (xk K):=by subst hK;exact iU
theorem tI(hK:X.K=K):BB X (xl K):=by subst hK;exact fw
theorem LK(hK:X.K=K):kR X (compareOp .NotIn) (HD K true):=by subst hK;exact EO
theorem Qc(hK:X.K=K):gu X (.builtin "len") (fun xs H Q=>∃p ys,xs=[V.ref p]/\(kj K H p ys\/fS K H p ys)/\Q (.int ys.length) H):=by subst hK;exact iD
theorem LL(hK:X.K=K):gu X (.type "tuple") (fun xs H Q=>∃p ys,xs=[V.ref p]/\((kj K H p ys/\∀l,H l=none->Q (.ref l) (upd H l (.tup ys)))\/(fS K H p ys/\Q (.ref p) H))):=by subst hK;exact mD
theorem Qd{tg l:Expr}{tl:TE}(hK:X.K=K)(hl:PE X l tl):PI X tg l (rN K tl):=by subst hK;exact Bm hl
end
section
variable {prog:Program}{w:World}{A:Around}{E:Value->Shared->Prop}{s:Shared}
theorem Qe{j t:Addr}{i:Nat}{ys:Array Value}{y:Value}{Q:Value->Shared->Prop}(hj:s.heap.IsTupleIter j t i)(ht:s.heap.IsTuple t ys)(hy:ys[i]?=some y)
  (hQ:∀h',h'.IsTupleIter j t (i+1)->Heap.SameBut j s.heap h'->Q y { s with heap:=h' }):wpAny (model prog w) A (Builtin.SmallTypes.nextOf (.ref j)) Q E s:=by
 obtain ⟨r,hr,rc,rd⟩:=id hj;obtain ⟨q,hq,_,nq,dq⟩:=ht;unfold Builtin.SmallTypes.nextOf;refine wpAny_bind (wpAny_callSpecial?_slot (name:=Str.ofString "__next__") hj.typeIs F.slot_tuple_iterator_next (wpAny_call_entry F.slot_tuple_iterator_next hj.typeIs F.entry_tuple_iterator_next ?_ (F.args_tuple_iterator_next_1 _)));show wpAny _ _ (PySem.field (.ref j) 0 >>= _) _ _ s;refine wpAny_bind (wpAny_field hr rd (x:=.ref t) rfl ?_);show wpAny _ _ (if (Value.ref t == Value.none)=true then _ else _) _ _ s;rw [if_neg (fun z:(Value.ref t == Value.none)=true=>WA z)];show wpAny _ _ (PySem.field (.ref j) 1 >>= _) _ _ s;refine wpAny_bind (wpAny_field hr rd (x:=.int i 0) rfl ?_);show wpAny _ _ (seqItems? (.ref t) >>= _) _ _ s;refine wpAny_bind (wpAny_seqItems hq dq ?_);simp only [WC,hy];refine wpAny_bind (wpAny_setField hr rd (by simp) (wpAny_pure ⟨y,rfl,wpAny_pure (hQ _ ⟨_,Heap.get?_update_self _ hr (Obj.isFreed_of_fields (Obj.data_mapFields rd _)),(Obj.cls_mapFields ..).trans rc,by rw [Obj.data_mapFields rd];simp [rawInt]⟩ (Heap.SameBut.update ..))⟩))
theorem Qf{j t:Addr}{i:Nat}{ys:Array Value}{Q:Value->Shared->Prop}(hh:A.handled=none)(hj:s.heap.IsTupleIter j t i)(ht:s.heap.IsTuple t ys)(hy:ys[i]?=none)
  (hE:∀h' e,Heap.ExtBut j s.heap h'->(∃o,h'.get? e=some o/\o.cls=.type "StopIteration")->E (.ref e) { s with heap:=h' }):wpAny (model prog w) A (Builtin.SmallTypes.nextOf (.ref j)) Q E s:=by
 obtain ⟨r,hr,rc,rd⟩:=id hj;obtain ⟨q,hq,_,nq,dq⟩:=ht;unfold Builtin.SmallTypes.nextOf;refine wpAny_bind (wpAny_callSpecial?_slot (name:=Str.ofString "__next__") hj.typeIs F.slot_tuple_iterator_next (wpAny_call_entry F.slot_tuple_iterator_next hj.typeIs F.entry_tuple_iterator_next ?_ (F.args_tuple_iterator_next_1 _)));show wpAny _ _ (PySem.field (.ref j) 0 >>= _) _ _ s;refine wpAny_bind (wpAny_field hr rd (x:=.ref t) rfl ?_);show wpAny _ _ (if (Value.ref t == Value.none)=true then _ else _) _ _ s;rw [if_neg (fun z:(Value.ref t == Value.none)=true=>WA z)];show wpAny _ _ (PySem.field (.ref j) 1 >>= _) _ _ s;refine wpAny_bind (wpAny_field hr rd (x:=.int i 0) rfl ?_);show wpAny _ _ (seqItems? (.ref t) >>= _) _ _ s;refine wpAny_bind (wpAny_seqItems hq dq ?_);simp only [WC,hy];refine wpAny_bind (wpAny_rule (wpAny_bind (wpAny_setField hr rd (by simp) ?_)));show wpAny _ _ (newExc (.type "StopIteration") [] >>= _) _ _ _;refine wpAny_bind ?_;simp only [newExc,newTuple];refine wpAny_bind (wpAny_newObj_type ?_ (by size_fits));refine wpAny_bind (m:=firstArgMember _ _) (wpAny_of_eq (a:=Value.none) (by first|rfl|(simp only [firstArgMember];rfl)) ?_);refine wpAny_newObj_type ?_ (by size_fits);simp only [raiseNew];refine wpAny_bind (wpAny_handled ?_);first|rw [show A.in1.handled=none from hh]|rw [hh]
 exact wpAny_bind (wpAny_pure (wpAny_throw (hE _ _ (((Heap.SameBut.update ..).extBut.push _).push _) ⟨_,WW _ rfl,rfl⟩)))
end
theorem r9{prog:Program}{w:World}{A:Around}(hh:A.handled=none)(j t:Addr)(hne:t≠j)(ys:Array Value):
  Draws prog w A j [j,t] ys.size (fun i v=>ys[i]?=some v) (fun i h=>h.IsTupleIter j t i/\h.IsTuple t ys) where
 live:=fun _ _ st=>let ⟨o,ho,_⟩:=st.1;⟨o,ho⟩
 frame:=fun _ _ _ st k=>⟨st.1.at fun o e=>k j (by simp) o e,let ⟨o,e,r⟩:=st.2;⟨o,k t (by simp) o e,r⟩⟩
 item:=fun i s Q E hi st hQ=>Qe st.1 st.2 (y:=ys[i]) (by simp [hi]) fun h' a b=>hQ _ h' s.toks (by simp [hi]) ⟨a,st.2.extBut b.extBut hne⟩ b
 done:=fun s Q E st hE=>Qf hh st.1 st.2 (by simp) hE
theorem Qg(l:Addr)(items:Array Value)(n:Nat)(dct:Option Addr)(sl:Array (Option Value)):
  Meets (Builtin.«enumerate.__new__» ⟨[.type "enumerate",.ref l],[]⟩) (fun _ R s=>s.heap.get? l=some { cls:=.type "tuple",dict:=dct,data:=.seq items n,slots:=sl } /\
   R (.ok (.ret (.ref (s.heap.push { cls:=.type "tuple_iterator",data:=.fields #[.ref l,.int 0 0] }).objs.size)))
    { s with heap:=(s.heap.push { cls:=.type "tuple_iterator",data:=.fields #[.ref l,.int 0 0] }).push { cls:=.type "enumerate",data:=.fields #[.none,.bool false,.ref s.heap.objs.size,rawInt 0,.none,.none] } }) :=
 .of_wp fun prog w A R s h=>by
  obtain ⟨hp,g,d,tk,os⟩:=s;obtain ⟨hl,h⟩:=h;have hsub:=sub_enumerate;have hL:Heap.IsTuple (Shared.heap ⟨hp,g,d,tk,os⟩) l items:=⟨_,hl,rfl,n,rfl⟩
  wp_walk using AutoSeq1.wpAny_loadPart' hl
  refine wpAny_stack_any fun st=>wpAny_pure ?_;split
  ·rename_i c _ _ _ _ _
   cases (c == Value.type "enumerate")<;>(wp_walk using AutoSeq1.wpAny_loadPart' hl,wpAny_pyIter_tuple hL;exact ⟨_,rfl,h⟩)
  ·wp_walk using AutoSeq1.wpAny_loadPart' hl,wpAny_pyIter_tuple hL
   exact ⟨_,rfl,h⟩
section
variable {prog:Program}{w:World}{A:Around}{E:Value->Shared->Prop}{s:Shared}
theorem Qh{l:Addr}{ys:Array Value}{Q:Value->Shared->Prop}(ht:s.heap.IsTuple l ys)
  (h:∀h',IsEnum h' (s.heap.objs.size+1) s.heap.objs.size 0 .none->h'.IsTupleIter s.heap.objs.size l 0->h'.objs.size=s.heap.objs.size+2 ->
   (∀b o,s.heap.get? b=some o->h'.get? b=some o)->Q (.ref (s.heap.objs.size+1)) { s with heap:=h' }):wpAny (model prog w) A (call (.type "enumerate") [.ref l]) Q E s:=by
 obtain ⟨⟨c,dct,dt,sl⟩,hl,hc,n,hd⟩:=ht;cases (show c=.type "tuple" from hc);cases (show dt=.seq ys n from hd);refine callType_new F.called_enumerate (by decide) (F.typeCall_enumerate_1 _) (F.newCall_enumerate_1 _) (fun obj=>F.args_object_init_2 obj _) F.entry_enumerate_new (Qg l ys n dct sl) ⟨hl,?_⟩;have z:(s.heap.push { cls:=.type "tuple_iterator",data:=.fields #[.ref l,.int 0 0] }).objs.size=s.heap.objs.size+1:=XS ..;show _/\_;rw [z];have en:IsEnum ((s.heap.push { cls:=.type "tuple_iterator",data:=.fields #[.ref l,.int 0 0] }).push { cls:=.type "enumerate",data:=.fields #[.none,.bool false,.ref s.heap.objs.size,rawInt 0,.none,.none] }) (s.heap.objs.size+1) s.heap.objs.size 0 .none:=by
  have g:=WW (s.heap.push { cls:=.type "tuple_iterator",data:=.fields #[.ref l,.int 0 0] }) (o:={ cls:=.type "enumerate",data:=.fields #[.none,.bool false,.ref s.heap.objs.size,rawInt 0,.none,.none] }) rfl;rw [z] at g;exact g
 exact ⟨⟨_,en,rfl⟩,h _ en ⟨_,WJ _ (WW _ rfl),rfl,rfl⟩ (by rw [XS,z]) fun b o e=>WJ _ (WJ _ e)⟩
end
section
variable {X:Cx}{pins:List (Addr×Obj)}{σ:St}{H:Hp}{s:Shared}{h':Heap}
theorem Inv.uq{t':Nat}{ch:List Addr}(I:Inv X pins σ H s)(k:∀b o,b ∉ ch->s.heap.get? b=some o->h'.get? b=some o)(f:∀b∈ch,lP X pins H b):Inv X pins σ H { s with heap:=h',toks:=t' }:=by
 have A9:∀b u,H b=some u->b ∉ ch:=fun b u e z=>by rw [(f b z).1] at e;cases e
 refine I.step (g':=s.gens) (d':=s.drawn) (ch:=ch) (fun b hb=>⟨(f b hb).2.2.2.1,(f b hb).2.1,(f b hb).2.2.2.2.1,(f b hb).2.2.2.2.2⟩) (fun b o _ _ hc e _=>k b o hc e) (fun b o _ _ hc e _=>⟨o.slots,k b o hc e⟩) (fun _ _ _ _ n=>n)
  (fun b o hc e=>⟨o,k b o hc e⟩) (fun _ _ e=>e) (fun _ _ _ e=>e) (fun b ps e=>⟨#[],by rw [e];simp⟩) (fun m hm=>?_) (fun b u e=>?_) I.bare
 ·obtain ⟨o,es,ep,ho,r⟩:=hm
  exact ⟨o,es,ep,k _ o (fun z=>(f _ z).2.1 rfl) ho,r⟩
 ·refine (I.hok b u e).stay (fun c v hc q=>k c v ?_ q) (fun _ q=>q) fun _ _ q=>q
  rcases hc with z|z
  ·rw [z];exact A9 b u e
  ·exact A9 c _ z
end
noncomputable def LM(K:Zfr)(a:Addr):It :=
 ⟨fun i H=>∃xs x,fS K H a xs/\xs[i]?=some x,fun i H x H'=>∃p y,x=.ref p/\H p=none/\H'=upd H p (.tup [.int i,y])/\∀xs,fS K H a xs->xs[i]?=some y,fun i H=>∃xs,fS K H a xs/\xs.length=i⟩
theorem Qi{P:Program}{w:World}{K:Zfr}{es:List Expr}{x1}{pos:Pos}(a e it:Addr)(hne:e≠it):
  Turn P w K (.Tuple es x1 pos) (LM K a) [e,it] e (fun i h=>(∃old,IsEnum h e it i old)/\h.IsTupleIter it a i) where
 mem:=by simp
 obj:=fun i h st b hb=>by
  obtain ⟨⟨old,he⟩,o,e2,c,d⟩:=st;rcases WT.mp hb with rfl|hb
  ·exact ⟨_,he,fun v z=>by
    have z':Data.fields _=Data.cell v:=z
    cases z'⟩
  ·have q:b=it:=by simpa using hb
   subst q;exact ⟨o,e2,fun v z=>by rw [d] at z;cases z⟩
 keep:=fun i h h' st k=>⟨let ⟨old,he⟩:=st.1;⟨old,k e (by simp) _ he⟩,st.2.at fun o q=>k it (by simp) o q⟩
 item:=by
  intro X hP hw hK hc i pins s σ H E I hf st hg;subst hP hw hK;obtain ⟨xs,x,hq,hx⟩:=hg;obtain ⟨its,rv,p,hz⟩:=I.tuple hq;obtain ⟨u,hu,ru⟩:=rv.get hx;obtain ⟨⟨old,he⟩,hit⟩:=st;have ht:s.heap.IsTuple a its.toArray:=p;have Ij:a≠it:=fun z=>by
   obtain ⟨o,e1,c1,_⟩:=hit;obtain ⟨o2,e2,c2,_⟩:=ht;rw [z,e1] at e2;cases e2;exact absurd (c1.symm.trans c2) (by simp)
  have Qj:e≠a:=fun z=>by
   obtain ⟨o2,e2,c2,_⟩:=ht;rw [<- z,he] at e2;cases e2;exact absurd c2 (by simp)
  have hl:=rv.length;have hi:i<its.toArray.size:=by
   have:=Wq.mp hu;obtain ⟨q,_⟩:=this
   simpa using q
  refine wpAny_pyNext_enum_itemD (r9 (A:=X.A.in1) (I.ok.hd hc) it a Ij its.toArray) he ⟨hit,ht⟩ hi hne (by simp [hne,Qj]) fun y h1 tk hy ho hst hT hsz kk=>?_;have ey:y=u:=by
   have:its.toArray[i]?=some u:=by simpa using hu
   exact WD (hy.symm.trans this)
  subst ey;refine ⟨_,rfl,wpAny_letOwnedTupleGo_enum ho fun h2 Qk sb=>?_⟩;have hel:@LT.lt Nat _ e s.heap.objs.size:=WO he;have hil:@LT.lt Nat _ it s.heap.objs.size:=by obtain ⟨o,e1,_⟩:=hit;exact WO e1
  have Ik:H s.heap.objs.size=none:=I.hok.fresh (Wv _);have sb':Heap.SameBut e h1 h2:=sb;have I1:Inv X pins σ (upd H s.heap.objs.size (.tup [.int i,x])) { s with heap:=s.heap.push { cls:=.type "tuple",data:=.seq #[.int i tk,y] },toks:=s.toks } :=
   I.laid (fun b u e=>WJ _ e) (Wv _) ⟨(by decide:2<=sizeLine),[.int i tk,y],.cons ⟨tk,rfl⟩ (.cons ru .nil),⟨_,WW _ rfl,rfl,rfl,_,rfl⟩⟩
  have nn:∀b∈[e,it],@LT.lt Nat _ b s.heap.objs.size:=fun b hb=>by
   rcases WT.mp hb with rfl|hb
   ·exact hel
   ·have q:b=it:=by simpa using hb
    rw [q];exact hil
  have hn:∀b∈[e,it],upd H s.heap.objs.size (.tup [.int i,x]) b=none:=fun b hb=>by
   unfold upd;rw [if_neg (Xf (nn b hb))];exact (hf b hb).1
  have I2:Inv X pins σ (upd H s.heap.objs.size (.tup [.int i,x])) { s with heap:=h2,toks:=tk+1 }:=by
   refine Inv.uq (s:={ s with heap:=s.heap.push { cls:=.type "tuple",data:=.seq #[.int i tk,y] },toks:=s.toks }) (h':=h2) I1 (ch:=[e,it]) (t':=tk+1) (fun b o hb q=>?_) fun b hb=>⟨hn b hb,(hf b hb).2⟩;have nb:b≠e/\b≠it:=by simpa using hb
   refine (sb'.2 b nb.1).trans ?_;rcases Heap.get?_push_cases q with ⟨rfl,rfl⟩|q
   ·exact hT
   ·exact kk b o nb.1 nb.2 q
  refine ⟨.ref s.heap.objs.size,_,I2,rfl,⟨_,x,rfl,Ik,rfl,fun ys ur=>by rw [I.nO ur hq];exact hx⟩,⟨⟨y,?_⟩,?_⟩,hn⟩
  ·have:((i+1:Nat):Int)=(i:Int)+1:=by omega
   rw [this];exact Qk
  ·exact hst.1.extBut sb'.extBut (Ne.symm hne)
 done:=by
  intro X hP hw hK hc i pins s σ H E I hf st hg;subst hP hw hK;obtain ⟨xs,hq,hx⟩:=hg;obtain ⟨its,rv,p,hz⟩:=I.tuple hq;obtain ⟨⟨old,he⟩,hit⟩:=st;have ht:s.heap.IsTuple a its.toArray:=p;have Ij:a≠it:=fun z=>by
   obtain ⟨o,e1,c1,_⟩:=hit;obtain ⟨o2,e2,c2,_⟩:=ht;rw [z,e1] at e2;cases e2;exact absurd (c1.symm.trans c2) (by simp)
  have hl:=rv.length;have ei:its.toArray.size=i:=by simp;omega
  refine wpAny_pyNext_enum_endD (r9 (A:=X.A.in1) (I.ok.hd hc) it a Ij its.toArray) he (by rw [ei];exact ⟨hit,ht⟩) fun h1 eb=>⟨rfl,?_⟩;obtain ⟨f0,f1,f2,f3,f4,f5⟩:=hf it (by simp);exact I.turned (t':=s.toks) (fun b o hb q=>eb b o hb q) f0 f1 f3 f4 f5
 self:=fun _ _ _ _ _ st h=>let ⟨_,he⟩:=st.1;wpAny_pyIter_enum he h
noncomputable def vA(K:Zfr)(ta:TA):TI:=fun σ H R=>ta σ H fun vs H1=>∃a,vs=[.ref a]/\(∃xs,fS K H1 a xs)/\R (LM K a) H1
theorem E5{X:Cx}{es:List Expr}{x1}{p0:Pos}{l:Expr}{ta:TA}{p pos:Pos}(hg:Gl X "enumerate")(hm:X.mg "enumerate" = none)(ha:PA X [l] ta)(hs:starEach [l] X.env=[(false,eval l X.env)]:=by rfl):
  PI X (.Tuple es x1 p0) (.Call (.Name "enumerate" p) [l] [] pos) (vA X.K ta):=by
 intro pins s σ H R I h;refine Call_ (zS I hg hm boot_enumerate (PyProof.Rows.callWith_type1 (c6 (ha pos pins s σ H _ I h) fun us s1 ⟨vs,H1,I1,r1,q1⟩=>?_) hs rfl));obtain ⟨a,e,⟨xs,hq⟩,q⟩:=q1;subst e;cases r1 with
 |cons r rr =>
  cases rr;cases r;obtain ⟨its,rv,p,hz⟩:=I1.tuple hq;refine Qh (show s1.heap.IsTuple a its.toArray from p) fun h1 he hi hsz kk=>?_;refine wpAny_pyIter_enum he ?_;refine ⟨s1.heap.objs.size+1,[s1.heap.objs.size+1,s1.heap.objs.size],_,_,H1,rfl,I1.kept (t':=s1.toks) kk,Qi a _ _ (Nat.succ_ne_self _),⟨⟨_,he⟩,hi⟩,fun b hb=>?_,q⟩;have hb':@LE.le Nat _ s1.heap.objs.size b:=by
   rcases WT.mp hb with rfl|hb
   ·exact Nat.le_succ _
   ·have e:b=s1.heap.objs.size:=by simpa using hb
    rw [e];exact Wv _
  exact I1.qK hb' (I1.hok.fresh hb')
section
open Sem (wp)
open PySem.AutoSeq1 (wpAny_loadPart')
open PySem.MeetsSeq PySem.MeetsSeq2 PySem.MeetsSeq3
theorem IntsAre.get{vs:List Value}{ns:List Int}(h:IntsAre vs ns):∀{i:Nat} {n:Int},ns[i]?=some n->∃t,vs[i]?=some (.int n t):=by
 induction h with
 |nil=>intro i n e;simp at e
 |cons a t h ih =>
  intro i n e;cases i with
  |zero=>exact ⟨t,by simpa using e⟩
  |succ i=>simpa using ih (by simpa using e)
theorem sd(l:Addr)(items:Array Value)(n:Nat)(dd:Option Addr)(sl:Array (Option Value))(ns:List Int)(hi:IntsAre items.toList ns)(v:Int)(t:Tok)(j:Nat)(hj:ns[j]?=some v)(hb:∀i,i<j->ns[i]?≠some v):
  Meets (Builtin.«tuple.index» ⟨[.ref l,.int v t],[]⟩)
   (fun _ R s=>s.heap.get? l=some { cls:=.type "tuple",dict:=dd,data:=.seq items n,slots:=sl }/\R (.ok (.ret (.int (j:Int) s.toks))) { s with toks:=s.toks+1 }) :=
 .of_wp fun prog w A R s h=>by
  obtain ⟨hp,g,d,tk,os⟩:=s;obtain ⟨hl,h⟩:=h;have z1:items.size=ns.length:=by rw [<- hi.length];simp
  have hjl:j<ns.length:=(Wq.mp hj).1
  wp_walk using wpAny_loadPart' hl
  have key:wpAny (model prog w) A.in1 (forIn (m:=Sem) [:min items.size items.size] ((none,()):Option Fin×Unit) (fun (i:Nat) _ =>
    match items[i]? with
    |some y=>do
     let b <- eqBool y (Value.int v t)
     if b=true then do
      let r <- retInt (i:Int)
      pure (ForInStep.done (some r,()))
     else pure (ForInStep.yield (none,()))
    |_=>pure (ForInStep.yield (none,()))))
   (fun a s'=>a.1=some (.done (.ret (.int (j:Int) tk)))/\s'=⟨hp,g,d,tk+1,os⟩) (fun e s'=>R (Except.error e) s') ⟨hp,g,d,tk,os⟩:=by
   rw [Std.Legacy.Range.forIn_eq_forIn_range'];have ez:([:min items.size items.size]:Std.Legacy.Range).size=ns.length:=by
    simp [Std.Legacy.Range.size,z1]
   rw [ez];refine wpAny_forIn_list _ (fun rest b s'=>b.1=none/\s'=⟨hp,g,d,tk,os⟩/\∃k,k<=j/\rest=List.range' k (ns.length-k) 1) _ ?_ ?_ _ _ ⟨rfl,rfl,0,W9 _,by simp⟩
   ·rintro x rest b s' ⟨hb',rfl,k,hk,e⟩
    have el:ns.length-k=(ns.length-(k+1))+1:=by omega
    rw [el,List.range'_succ] at e;injection e with e1 e2;subst e1;have nE:x<ns.length:=by omega
    obtain ⟨t',ht'⟩:=IntsAre.get hi (Wr nE);have Ql:items[x]?=some (.int ns[x] t'):=by rw [<- ht',X7]
    simp only [Ql];obtain ⟨e,he,hiff⟩:=HT.Pb A.in1 ⟨hp,g,d,tk,os⟩ ns[x] t' v t;refine wpAny_bind (he prog w _ _ ?_);cases e with
    |true =>
     have ev:ns[x]=v:=hiff.mp rfl;have Qm:x=j:=by
      rcases X8 x j with h'|h'
      ·exact absurd (by rw [Wr nE,ev]) (hb x h')
      ·omega
     subst Qm
     wp_walk
     first|exact ⟨rfl,rfl⟩|trivial
    |false =>
     have ev:ns[x]≠v:=fun q=>absurd (hiff.mpr q) WA;have:x≠j:=fun z=>ev (by subst z;rw [Wr nE] at hj;exact WD hj)
     wp_walk
     exact ⟨rfl,rfl,x+1,by omega,e2⟩
   ·rintro b s' ⟨hb',rfl,k,hk,e⟩
    have:(List.range' k (ns.length-k) 1).length=0:=by rw [<- e];rfl
    rw [List.length_range'] at this;omega
  refine wpAny_mono key (fun a s' ha=>?_) (fun _ _ z=>z);obtain ⟨ha,rfl⟩:=ha;obtain ⟨a1,a2⟩:=a;cases (show a1=_ from ha);exact wpAny_pure ⟨_,rfl,h⟩
end
section
variable {X:Cx}{K:Zfr}
noncomputable def pL(K:Zfr):V->List V->Hp->VK->Prop:=fun x vs H Q=>∃(a:Addr) (ns:List Int) (v:Int) (j:Nat),x=.ref a/\vs=[.int v]/\fS K H a (ns.map V.int)/\ns[j]?=some v/\(∀i,i<j->ns[i]?≠some v)/\Q (.int (j:Int)) H
theorem Qn:vf X "tuple.index" (pL X.K):=by
 intro pins s σ H x xs v us Q I rx rv h;obtain ⟨a,ns,y,j,rfl,rfl,hq,hj,hb,q⟩:=h;cases rx;obtain ⟨u,rfl,t,rfl⟩:=vals1 rv;obtain ⟨its,r,⟨⟨c,dd,dt,sl⟩,e,hc,hd,n,hdt⟩,hz⟩:=I.n8 hq;cases (show c=.type "tuple" from hc);cases (show dt=.seq its.toArray n from hdt);refine call_meets F.slot_tuple_index ⟨_,e,rfl⟩ F.entry_tuple_index (F.args_tuple_index_2 _ _) (sd a its.toArray n dd sl ns (by simpa using Hy r) y t j hj hb) ⟨e,?_⟩;exact ⟨.int j,H,I.tok _,⟨_,rfl⟩,q⟩
theorem Il(hK:X.K=K):vf X "tuple.index" (pL K):=by subst hK;exact Qn
theorem E6{o e:Expr}{es:List Expr}{to:TE}{t:TA}{name:Str}{apos cpos:Pos}{T id:String}{r:V->List V->Hp->VK->Prop}(hK:X.K=K)(pa:PlainAttrs T)(slot:Slot T name id)(hty:typeOf (.builtin id)=pure (.type "method_descriptor"))(hm:vf X id r)(ho:PE X o to)(ha:PA X (e :: es) t)
  (hbase:attributeBase o name X.env (eval o X.env)=eval o X.env:=by rfl)
  (hfew:((backTo cpos (starEach (e :: es) X.env)).all (fun x=>!x.1) && (backToKw cpos (keywordEach [] X.env)).all (fun x=>x.1.isSome)
   && decide ((e :: es).length+([]:List Keyword).length+(if ([]:List Keyword).isEmpty then 0 else 1)<30))=true:=by rfl)
  (hline:(apos.endLine == cpos.line)=true:=by rfl) (hs:starEach (e :: es) X.env=(false,eval e X.env) :: starEach es X.env:=by rfl) (hplain:(backTo cpos (starEach es X.env)).any (·.1)=false:=by rfl) :
  PE X (.Call (.Attribute o name apos) (e :: es) [] cpos) (HE K T r to t):=by subst hK;exact lH pa slot hty hm ho ha hbase hfew hline hs hplain
end
open Builtin.Str
end L2
namespace L2
open PySem PySem.Spec PyProof.Rows
open Builtin.Str
end L2
namespace L2
open PySem PySem.Spec PyProof.Rows
section
variable {X:Cx}{K:Zfr}
noncomputable def eD(us:List Value)(ds:List PyData)(dx:PyData)(u:Value):Bool:=@decide (∃(i:Nat) (d:PyData),us[i]?=some u/\ds[i]?=some d/\PyData.eqv d dx=true) (Classical.propDecidable _)
theorem gy.get:∀{H:Hp} {vs:List V} {ds:List PyData},gy K H vs ds->∀{i:Nat} {v:V},vs[i]?=some v->∃d,ds[i]?=some d/\Rep K H v d
 |_,_,_,.nil,i,v,e=>by simp at e
 |_,_,_,.cons (d:=d) a b,0,v,e=>⟨d,by simp,by have:_=v:=WD (by simpa using e);rw [<- this];exact a⟩
 |_,_,_,.cons a b,i+1,v,e=>by
  obtain ⟨d,e1,r⟩:=gy.get b (i:=i) (by simpa using e);exact ⟨d,by simpa using e1,r⟩
theorem gy.se:∀{H:Hp} {vs:List V} {ds:List PyData},gy K H vs ds->vs.length=ds.length
 |_,_,_,.nil=>rfl
 |_,_,_,.cons _ r=>by rw [WX,WX,gy.se r]
theorem Vals.B0{xs:List V}{us:List Value}(r:Vals xs us){i:Nat}{u:Value}(h:us[i]?=some u):∃v,xs[i]?=some v/\RelV v u:=by
 have hi:=(Wq.mp h).1;have hl:=r.length;obtain ⟨u',hu,ru⟩:=r.get (i:=i) (x:=xs[i]'(by omega)) (Wr _);rw [h] at hu;cases hu;exact ⟨_,Wr _,ru⟩
open Classical in
theorem B1{pins:List (Addr×Obj)}{σ:St}{H:Hp}{s:Shared}{xs:List V}{us:List Value}{ds:List PyData}{x:V}{v:Value}{dx:PyData}(hu:X.A.units+64<cLine)(I:Inv X pins σ H s)(r:Vals xs us)(hr:gy X.K H xs ds)(rx:RelV x v)(hx:Rep X.K H x dx)(c1:∀d∈ds,d.canLay0=true)(c2:dx.canLay0=true)(c3:dx.depth<=60):
  ∀u∈us,SeqAt.EqAt X.A.in1 s u v (eD us ds dx u):=by
 intro u hm;obtain ⟨bs,rb⟩:=hx.reads I rx;have key:∀(i:Nat) (d:PyData),us[i]?=some u->ds[i]?=some d->SeqAt.EqAt X.A.in1 s u v (PyData.eqv d dx):=fun i d h1 h2=>by
  obtain ⟨y,hy,ry⟩:=r.B0 h1;obtain ⟨d',hd',rd⟩:=hr.get hy;rw [h2] at hd';cases hd';obtain ⟨as,ra⟩:=rd.reads I ry;intro prog w E Q q;refine SeqAt.eqBoolOverData prog w X.A.in1 E s u v d dx as bs Q ra rb (c1 _ (Ww h2)) c2 ?_ q;have:X.A.in1.units<=X.A.units+2:=by
   first|exact Nat.le_add_right _ _|(show X.A.units<=_;omega)|(show X.A.units+1<=_;omega)
  omega
 obtain ⟨i,hi⟩:=Xa hm;have hl1:=r.length;have hl2:=hr.se;have hil:=(Wq.mp hi).1;unfold eD
 by_cases h:∃(i:Nat) (d:PyData),us[i]?=some u/\ds[i]?=some d/\PyData.eqv d dx=true
 ·rw [decide_eq_true h]
  obtain ⟨j,d,h1,h2,h3⟩:=h;have:=key j d h1 h2
  rwa [h3] at this
 ·rw [decide_eq_false h]
  have h2:ds[i]?=some (ds[i]'(by omega)):=Wr _;have k:=key i _ hi h2;cases hb:PyData.eqv (ds[i]'(by omega)) dx with
  |true=>exact absurd ⟨i,_,hi,h2,hb⟩ h
  |false=>rwa [hb] at k
open Classical in
theorem LN{xs:List V}{us:List Value}{ds:List PyData}{dx:PyData}(h1:us.length=ds.length):us.any (eD us ds dx)=ds.any fun d=>PyData.eqv d dx:=by
 rw [Xx,List.any_eq_true,List.any_eq_true];constructor
 ·rintro ⟨u,hu,h⟩
  unfold eD at h;obtain ⟨i,d,_,h2,h3⟩:=of_decide_eq_true h;exact ⟨d,Ww h2,h3⟩
 ·rintro ⟨d,hd,h⟩
  obtain ⟨i,hi⟩:=Xa hd;have hil:=(Wq.mp hi).1;refine ⟨us[i]'(by omega),Xk _,?_⟩;unfold eD;exact decide_eq_true ⟨i,d,Wr _,hi,h⟩
noncomputable def xB(K:Zfr)(neg:Bool):R2:=fun x y H Q=>∃p xs ds dx,y=.ref p/\(kj K H p xs\/fS K H p xs)/\gy K H xs ds/\Rep K H x dx/\(∀d∈ds,PyData.canLay0 d=true)/\PyData.canLay0 dx=true/\PyData.depth dx<=60/\Q (.bl (if neg then !ds.any (fun d=>PyData.eqv d dx) else ds.any fun d=>PyData.eqv d dx)) H
theorem LO(hu:X.A.units+64<cLine):kR X (compareOp .In) (xB X.K false):=by
 intro pins s σ H x y v u Q I rx ry h;obtain ⟨p,xs,ds,dx,rfl,hq,hr,hx,c1,c2,c3,q⟩:=h;cases ry;have e2:∀{its:List Value},Vals xs its->its.toArray.any (eD its ds dx)=ds.any fun d=>PyData.eqv d dx:=fun {its} r=>by
  rw [show its.toArray.any (eD its ds dx)=its.any (eD its ds dx) by simp];exact LN (xs:=xs) (by rw [<- r.length];exact hr.se)
 rcases hq with hq|hq
 ·obtain ⟨its,r,pl,hz⟩:=I.list hq
  refine SeqAt.in_listAt (eD its ds dx) pl.isList (fun w hw=>B1 hu I r hr rx hx c1 c2 c3 w (by simpa using hw)) ⟨.bl _,H,I,rfl,?_⟩;rw [e2 r];exact q
 ·obtain ⟨its,r,pl,hz⟩:=I.tuple hq
  refine SeqAt.in_tupleAt (eD its ds dx) pl (fun w hw=>B1 hu I r hr rx hx c1 c2 c3 w (by simpa using hw)) ⟨.bl _,H,I,rfl,?_⟩;rw [e2 r];exact q
theorem LP(hu:X.A.units+64<cLine):kR X (compareOp .NotIn) (xB X.K true):=by
 intro pins s σ H x y v u Q I rx ry h;obtain ⟨p,xs,ds,dx,rfl,hq,hr,hx,c1,c2,c3,q⟩:=h;cases ry;have e2:∀{its:List Value},Vals xs its->its.toArray.any (eD its ds dx)=ds.any fun d=>PyData.eqv d dx:=fun {its} r=>by
  rw [show its.toArray.any (eD its ds dx)=its.any (eD its ds dx) by simp];exact LN (xs:=xs) (by rw [<- r.length];exact hr.se)
 rcases hq with hq|hq
 ·obtain ⟨its,r,pl,hz⟩:=I.list hq
  refine SeqAt.notIn_listAt (eD its ds dx) pl.isList (fun w hw=>B1 hu I r hr rx hx c1 c2 c3 w (by simpa using hw)) ⟨.bl _,H,I,rfl,?_⟩;rw [e2 r];exact q
 ·obtain ⟨its,r,pl,hz⟩:=I.tuple hq
  refine SeqAt.notIn_tupleAt (eD its ds dx) pl (fun w hw=>B1 hu I r hr rx hx c1 c2 c3 w (by simpa using hw)) ⟨.bl _,H,I,rfl,?_⟩;rw [e2 r];exact q
end
open Builtin.Str
end L2
namespace L2
open PySem PySem.Spec PyProof.Rows
open Builtin
end L2
namespace L2
open PySem PySem.Spec PyProof.Rows
noncomputable def DU(a:Addr)(xs:List (List Int×Addr×Value)):HO:=.ext fun h=>(a == sysModules)=false/\xs.length<=sizeLine/\∃o es ep,h.get? a=some o/\o.ExactDict/\o.data=.dict es ep /\
 (∃(P:Program) (w:World),es.toList=xs.map (entryOfKey (tupleKind (intKind P w))))/\(xs.map (·.1)).Nodup
end L2
namespace L2
open PySem PySem.Spec PyProof.Rows PySem.SeqAt PySem.MeetsSeq
noncomputable def oi(A:Around)(s:Shared)(y x:Value)(r:Bool):Prop:=∀(prog:Program) (w:World) (E Q:Value->Shared->Prop),Q (.bool r) s->wpAny (model prog w) A (richCompare .Lt y x) Q E s
noncomputable def dA(e lt:Nat->Bool)(fin:Bool):List Nat->Bool
 |[]=>fin
 |i :: r=>if e i then dA e lt fin r else lt i
theorem Qo(l m:Addr)(a b:Array Value)(n1 n2:Nat)(d1 d2:Option Addr)(s1 s2:Array (Option Value))(e lt:Nat->Bool):
  Meets (Builtin.«tuple.__lt__» ⟨[.ref l,.ref m],[]⟩) (fun A R s=>s.heap.get? l=some { cls:=.type "tuple",dict:=d1,data:=.seq a n1,slots:=s1 }/\s.heap.get? m=some { cls:=.type "tuple",dict:=d2,data:=.seq b n2,slots:=s2 } /\
    (∀j (h1:j<a.size) (h2:j<b.size),EqAt A.in1 s a[j] b[j] (e j))/\(∀j (h1:j<a.size) (h2:j<b.size),e j=false->oi A.in1 s a[j] b[j] (lt j))/\R (.ok (.ret (.bool (dA e lt (decide (a.size<b.size)) (List.range (min a.size b.size)))))) s) :=
 .of_wp fun prog w A R s h=>by
  obtain ⟨hp,g,d,tk,os⟩:=s;obtain ⟨hl,hm,he,hlt,h⟩:=h;have f2:=AutoSeq1.sub_tuple_tuple;have hZ:(a.toList.zip b.toList).length=min a.size b.size:=by simp
  wp_walk using wpAny_loadPart' hl,wpAny_loadPart' hm,wpAny_forIn_list _ (fun rest q s'=>q.1=none/\s'=⟨hp,g,d,tk,os⟩/\∃i,rest=(a.toList.zip b.toList).drop i/\R (.ok (.ret (.bool (dA e lt (decide (a.size<b.size)) ((List.range (min a.size b.size)).drop i))))) ⟨hp,g,d,tk,os⟩) _
  case turn =>
   rintro ⟨y,x⟩ rest q s' ⟨hq,rfl,i,hz,hR⟩;have hil:i<(a.toList.zip b.toList).length:=by
    rcases X8 i (a.toList.zip b.toList).length with k|k
    ·exact k
    ·rw [List.drop_of_length_le k] at hz;cases hz
   have hmn:i<min a.size b.size:=hZ ▸ hil;have g1:i<a.size:=by omega
   have g2:i<b.size:=by omega
   rw [XJ hil] at hz;injection hz with hyx hrest;have hy:y=a[i]:=by simpa using congrArg Prod.fst hyx
   have hx:x=b[i]:=by simpa using congrArg Prod.snd hyx
   subst hy hx;have hd:(List.range (min a.size b.size)).drop i=i :: (List.range (min a.size b.size)).drop (i+1):=by simp [XJ,hmn]
   rw [hd,dA] at hR;refine wpAny_bind (he i g1 g2 prog w _ _ ?_);cases hei:e i with
   |true =>
    rw [hei] at hR
    wp_walk
    exact ⟨rfl,rfl,i+1,hrest,hR⟩
   |false =>
    rw [hei] at hR;refine wpAny_bind (wpAny_rule (wpAny_bind (hlt i g1 g2 hei prog w _ _ ?_)))
    wp_walk
    exact ⟨_,rfl,hR⟩
  case fin =>
   rintro ⟨q1,q2⟩ s' ⟨hq,rfl,i,hz,hR⟩;simp only at hq;subst hq;have hge:min a.size b.size<=i:=by
    rcases X8 i (a.toList.zip b.toList).length with k|k
    ·rw [XJ k] at hz;cases hz
    ·exact hZ ▸ k
   rw [List.drop_of_length_le (by simpa using hge),dA] at hR
   wp_walk
   exact ⟨_,rfl,by simpa [Builtin.Tuple.tupleCompareSizes] using hR⟩
  case h =>
   exact ⟨rfl,rfl,0,rfl,by simpa using h⟩
theorem oi.tuples{A:Around}{s:Shared}{l m:Addr}{a b:Array Value}{e lt:Nat->Bool}(hl:s.heap.IsTuple l a)(hm:s.heap.IsTuple m b)(hu:A.units<cLine)
  (he:∀j (h1:j<a.size) (h2:j<b.size),EqAt A.in1 s a[j] b[j] (e j)) (hlt:∀j (h1:j<a.size) (h2:j<b.size),e j=false->oi A.in1 s a[j] b[j] (lt j)) :
  oi A s (.ref l) (.ref m) (dA e lt (decide (a.size<b.size)) (List.range (min a.size b.size))):=fun prog w E Q h=>by
 obtain ⟨⟨c1,d1,t1,s1⟩,o1,k1,n1,j1⟩:=hl;obtain ⟨⟨c2,d2,t2,s2⟩,o2,k2,n2,j2⟩:=hm;simp only at k1 j1 k2 j2;subst k1 j1 k2 j2;exact richCompare_meets_room (op:=.Lt) ⟨_,o1,rfl⟩ ⟨_,o2,rfl⟩ F.slot_tuple_lt F.entry_tuple_lt (F.args_tuple_lt_2 _ _) (Qo l m a b n1 n2 d1 d2 s1 s2 e lt)
  ⟨o1,o2,he,hlt,show Value.bool (dA e lt (decide (a.size<b.size)) (List.range (min a.size b.size)))≠Value.notImplemented/\Q (.bool (dA e lt (decide (a.size<b.size)) (List.range (min a.size b.size)))) s from ⟨(fun x=>nomatch x),h⟩⟩ hu
mutual
noncomputable def Ad:PyData->PyData->Bool
 |.int a,.int b=>decide (a<b)
 |.tuple xs,.tuple ys=>m8 xs ys
 |_,_=>false
noncomputable def m8:List PyData->List PyData->Bool
 |[],[]=>false
 |[],_ :: _=>true
 |_ :: _,[]=>false
 |x :: xs,y :: ys=>if PyData.eqv x y then m8 xs ys else Ad x y
end
mutual
noncomputable def sf:PyData->PyData->Bool
 |.int _,.int _=>true
 |.tuple xs,.tuple ys=>oj xs ys
 |_,_=>false
noncomputable def oj:List PyData->List PyData->Bool
 |[],_=>true
 |_ :: _,[]=>true
 |x :: xs,y :: ys=>sf x y && oj xs ys
end
theorem LQ(e lt:Nat->Bool)(fin:Bool)(f:Nat->Nat):∀l:List Nat,dA e lt fin (l.map f)=dA (fun i=>e (f i)) (fun i=>lt (f i)) fin l
 |[]=>rfl
 |i :: r=>by
  show (if e (f i) then dA e lt fin (r.map f) else lt (f i))=if e (f i) then _ else lt (f i)
  rw [LQ e lt fin f r]
noncomputable def pM(xs ys:List PyData)(j:Nat):Bool:=Ad (xs.getD j .none) (ys.getD j .none)
theorem LR:∀xs ys:List PyData,dA (pairEq xs ys) (pM xs ys) (decide (xs.length<ys.length)) (List.range (min xs.length ys.length))=m8 xs ys
 |[],[]=>rfl
 |[],_ :: _=>by simp [dA,m8]
 |_ :: _,[]=>by simp [dA,m8]
 |x :: xs,y :: ys=>by
  have ih:=LR xs ys;have e1:min (x :: xs).length (y :: ys).length=min xs.length ys.length+1:=by simp only [WX];omega
  have e2:decide ((x :: xs).length<(y :: ys).length)=decide (xs.length<ys.length):=by simp
  rw [e1,e2,List.range_succ_eq_map,dA,LQ];show (if PyData.eqv x y then dA (pairEq xs ys) (pM xs ys) (decide (xs.length<ys.length)) (List.range (min xs.length ys.length)) else Ad x y)=_;rw [ih,m8]
mutual
theorem LS:∀(da db:PyData) (A:Around) (s:Shared) (a b:Value) (as bs:List Addr),Reads s.heap a da as->Reads s.heap b db bs->sf da db=true->da.canLay0=true->db.canLay0=true->A.units+min da.depth db.depth<cLine->oi A s a b (Ad da db)
 |.int x,.int y,A,s,_,_,_,_,ra,rb,_,_,_,_=>by
  cases ra with
  |int _ t =>
   cases rb with
   |int _ u=>exact fun prog w E Q h=>richCompare_gives (op:=.Lt) (typeIs_int s _ t) (typeIs_int s _ u) F.slot_int_lt F.entry_int_lt (F.args_int_lt_2 _ _) (gives_int_lt _ _ t u) (fun x=>nomatch x) h
 |.tuple xs,.tuple ys,A,s,_,_,_,_,ra,rb,ok,ha,hb,hu=>by
  cases ra with
  |@tuple l o vs n _ VN h1 h2 h3 h4 =>
   cases rb with
   |@tuple l' o' vs' n' _ VO k1 k2 k3 k4 =>
    have t1:s.heap.IsTuple l vs:=⟨_,h1,h2,_,h3⟩;have t2:s.heap.IsTuple l' vs':=⟨_,k1,k2,_,k3⟩;have n1:vs.size=xs.length:=by simpa using ReadsAll.length _ _ _ h4
    have n2:vs'.size=ys.length:=by simpa using ReadsAll.length _ _ _ k4
    show oi A s (.ref l) (.ref l') (m8 xs ys);rw [<- LR xs ys,<- n1,<- n2];refine oi.tuples t1 t2 (room_here hu) (fun j j1 j2=>?_) (fun j j1 j2 _=>?_)
    ·have z:=eqAt_readsAll xs ys A.in1 s vs.toList vs'.toList _ _ h4 k4 ha hb (room_in hu) j (by simpa using j1) (by simpa using j2)
     simpa using z
    ·have z:=LU xs ys A.in1 s vs.toList vs'.toList _ _ h4 k4 ok ha hb (room_in hu) j (by simpa using j1) (by simpa using j2)
     simpa using z
 |.int _,.none,_,_,_,_,_,_,_,_,ok,_,_,_=>nomatch ok
 |.int _,.bool _,_,_,_,_,_,_,_,_,ok,_,_,_=>nomatch ok
 |.int _,.str _,_,_,_,_,_,_,_,_,ok,_,_,_=>nomatch ok
 |.int _,.list _,_,_,_,_,_,_,_,_,ok,_,_,_=>nomatch ok
 |.int _,.tuple _,_,_,_,_,_,_,_,_,ok,_,_,_=>nomatch ok
 |.int _,.dict _,_,_,_,_,_,_,_,_,ok,_,_,_=>nomatch ok
 |.tuple _,.none,_,_,_,_,_,_,_,_,ok,_,_,_=>nomatch ok
 |.tuple _,.bool _,_,_,_,_,_,_,_,_,ok,_,_,_=>nomatch ok
 |.tuple _,.int _,_,_,_,_,_,_,_,_,ok,_,_,_=>nomatch ok
 |.tuple _,.str _,_,_,_,_,_,_,_,_,ok,_,_,_=>nomatch ok
 |.tuple _,.list _,_,_,_,_,_,_,_,_,ok,_,_,_=>nomatch ok
 |.tuple _,.dict _,_,_,_,_,_,_,_,_,ok,_,_,_=>nomatch ok
 |.none,_,_,_,_,_,_,_,_,_,ok,_,_,_=>by simp [sf] at ok
 |.bool _,_,_,_,_,_,_,_,_,_,ok,_,_,_=>by simp [sf] at ok
 |.str _,_,_,_,_,_,_,_,_,_,ok,_,_,_=>by simp [sf] at ok
 |.list _,_,_,_,_,_,_,_,_,_,ok,_,_,_=>by simp [sf] at ok
 |.dict _,_,_,_,_,_,_,_,_,_,ok,_,_,_=>by simp [sf] at ok
theorem LU:∀(xs ys:List PyData) (A:Around) (s:Shared) (vs ws:List Value) (as bs:List Addr),ReadsAll s.heap vs xs as->ReadsAll s.heap ws ys bs->oj xs ys=true->PyData.canLayAll0 xs=true->PyData.canLayAll0 ys=true->A.units+min (PyData.depthAll xs) (PyData.depthAll ys)<cLine->∀j (h1:j<vs.length) (h2:j<ws.length),oi A s vs[j] ws[j] (pM xs ys j)
 |[],_,_,_,_,_,_,_,ra,_,_,_,_,_,j,h1,_=>by cases ra;exact absurd h1 (Xe _)
 |_ :: _,[],_,_,_,_,_,_,_,rb,_,_,_,_,j,_,h2=>by cases rb;exact absurd h2 (Xe _)
 |x :: xs,y :: ys,A,s,_,_,_,_,ra,rb,ok,ha,hb,hu,j,h1,h2=>by
  have a':x.canLay0=true/\PyData.canLayAll0 xs=true:=by simpa [PyData.canLayAll0] using ha
  have b':y.canLay0=true/\PyData.canLayAll0 ys=true:=by simpa [PyData.canLayAll0] using hb
  have o':sf x y=true/\oj xs ys=true:=by simpa [oj] using ok
  cases ra with
  |cons r rs =>
   cases rb with
   |cons r' rs' =>
    cases j with
    |zero=>exact LS x y A s _ _ _ _ r r' o'.1 a'.1 b'.1 (room_head hu)
    |succ j=>exact LU xs ys A s _ _ _ _ rs rs' o'.2 a'.2 b'.2 (room_tail hu) j (Nat.lt_of_succ_lt_succ h1) (Nat.lt_of_succ_lt_succ h2)
end
section
variable {prog:Program}{w:World}{A:Around}{R:Result->Shared->Prop}{I:Addr}{fp wr:List Addr}{n:Nat}{P:Nat->Value->Prop}{St:Nat->Heap->Prop}
noncomputable def jS(a b:Heap):Prop:=∀x o,a.get? x=some o->b.get? x=some o
noncomputable def xC(A:Around)(h0:Heap)(P:Nat->Value->Prop)(bt:Nat->Nat->Bool):Prop:=∀i j vi vj (s:Shared),jS h0 s.heap->P i vi->P j vj->oi A s vi vj (bt i j)
theorem E7:(toString "min" ++ toString ".loop" : String)="min.loop" := by decide
theorem Im(W:Walks prog w A.in1 I fp wr n P St)(bt:Nat->Nat->Bool){h0:Heap}(hcmp:xC A.in1 h0 P bt)(S:Addr)(hSf:S ∉ fp)(xD:h0.get? S=none)(hw0:∀b∈wr,h0.get? b=none):
  ∀(k j:Nat) (s:Shared) (vb:Value) (c:Nat),n-(j+1)=k->j+1<=n->St (j+1) s.heap->P (argBest bt j) vb->jS h0 s.heap->s.heap.get? S=some { cls:=.type "list",dict:=none,data:=.seq #[vb,vb] c,slots:=#[] } ->
  (∀v h' tk,P (argBest bt (n-1)) v->jS h0 h'->R (.ok (.ret v)) { s with heap:=h',toks:=tk })->codeAny (model prog w) A (.builtin "min.loop" ⟨[.ref I,.none,.ref S],[]⟩) R s
 |0,j,s,vb,c,hk,hj,hst,E8,hK,hS,hR=>by
  have B2:S ∉ wr:=fun z=>hSf (W.sub S z);have hin:n=j+1:=by omega
  subst hin;refine codeAny_builtin F.entry_min_loop ?_;rw [Around.under_plainId F.plain_min_loop (A:=A) _];show wpAny (model prog w) A.in1 (seqItems? (.ref S) >>= _) _ _ _;refine wpAny_bind (wpAny_seqItems hS rfl ?_);show wpAny (model prog w) A.in1 (tryCatch (pyNext (.ref I)) _ >>= _) _ _ _;refine wpAny_bind (wpAny_tryCatch (W.done s _ _ hst fun h' tk hk'=>?_));have hS':=hk' S _ B2 hS;show wpAny (model prog w) A.in1 (updateSeq S (fun _=>#[]) >>= _) _ _ _;refine wpAny_bind (wpAny_updateSeq hS' rfl (wpAny_bind (wpAny_letGo (wpAny_pure (hR vb _ tk E8 fun b o e=>?_)))));have hb1:b ∉ wr:=fun z=>by rw [hw0 b z] at e;cases e
  have hb2:S≠b:=fun z=>by rw [<- z,xD] at e;cases e
  exact (Xl _ _ hb2).trans (hk' b o hb1 (hK b o e))
 |k+1,j,s,vb,c,hk,hj,hst,E8,hK,hS,hR=>by
  have B2:S ∉ wr:=fun z=>hSf (W.sub S z);have hlt:j+1<n:=by omega
  refine codeAny_builtin F.entry_min_loop ?_;rw [Around.under_plainId F.plain_min_loop (A:=A) _];show wpAny (model prog w) A.in1 (seqItems? (.ref S) >>= _) _ _ _;refine wpAny_bind (wpAny_seqItems hS rfl ?_);show wpAny (model prog w) A.in1 (tryCatch (pyNext (.ref I)) _ >>= _) _ _ _;refine wpAny_bind (wpAny_tryCatch (W.item (j+1) s _ _ hlt hst fun v h' tk hP uu hk'=>?_));have hS':=hk' S _ B2 hS;have B3:jS h0 h':=fun b o e=>hk' b o (fun z=>by rw [hw0 b z] at e;cases e) (hK b o e);show wpAny (model prog w) A.in1 (tryCatch (holding [v,v] (richCompare .Lt v vb >>= _)) _ >>= _) _ _ _;refine wpAny_bind (wpAny_tryCatch (wpAny_holding (wpAny_bind (hcmp (j+1) (argBest bt j) v vb _ B3 hP E8 prog w _ _ ?_))));refine wpAny_bind (wpAny_holding (wpAny_truthy_bool (wpAny_bind (wpAny_letGo (wpAny_pure ?_)))));cases hb:bt (j+1) (argBest bt j) with
  |true =>
   simp only [if_true];refine wpAny_bind (wpAny_updateSeq hS' rfl (wpAny_bind (wpAny_letGo ?_)));rw [E7];have Io:jS h0 (h'.update S (Obj.mapSeq fun _=>#[v,v])):=fun b o e=>(Xl _ _ (fun z=>by rw [<- z,xD] at e;cases e)).trans (B3 b o e);refine wpAny_pure ⟨plainId_quiet F.plain_min_loop _,Im W bt hcmp S hSf xD hw0 k (j+1) _ v _ (by omega) hlt (W.frame _ _ _ uu fun b Ip o e=>?_) (by simp only [argBest,hb,if_true];exact hP) Io (Heap.get?_update_self _ hS' rfl) fun v' h'' si B4 sj=>hR v' h'' si B4 sj⟩;exact (Xl _ _ (fun z:S=b=>hSf (z ▸ Ip))).trans e
  |false =>
   simp only [WR,if_false];refine wpAny_bind (wpAny_letGo ?_);rw [E7];exact wpAny_pure ⟨plainId_quiet F.plain_min_loop _,Im W bt hcmp S hSf xD hw0 k (j+1) _ vb c (by omega) hlt uu (by simp only [argBest,hb,WR,if_false];exact E8) B3 hS' fun v' h'' si B4 sj=>hR v' h'' si B4 sj⟩
theorem Qp(W:Walks prog w A.in1 I fp wr n P St)(bt:Nat->Nat->Bool){h0:Heap}(hcmp:xC A.in1 h0 P bt)(S:Addr)(hSf:S ∉ fp)(xD:h0.get? S=none)(hw0:∀b∈wr,h0.get? b=none)(hn:0<n){s:Shared}{c:Nat}(hst:St 0 s.heap)(hK:jS h0 s.heap)
  (hS:s.heap.get? S=some { cls:=.type "list",dict:=none,data:=.seq #[] c,slots:=#[] }) (hR:∀v h' tk,P (argBest bt (n-1)) v->jS h0 h'->R (.ok (.ret v)) { s with heap:=h',toks:=tk }) :
  codeAny (model prog w) A (.builtin "min.loop" ⟨[.ref I,.none,.ref S],[]⟩) R s:=by
 have B2:S ∉ wr:=fun z=>hSf (W.sub S z);refine codeAny_builtin F.entry_min_loop ?_;rw [Around.under_plainId F.plain_min_loop (A:=A) _];show wpAny (model prog w) A.in1 (seqItems? (.ref S) >>= _) _ _ _;refine wpAny_bind (wpAny_seqItems hS rfl ?_);show wpAny (model prog w) A.in1 (tryCatch (pyNext (.ref I)) _ >>= _) _ _ _;refine wpAny_bind (wpAny_tryCatch (W.item 0 s _ _ hn hst fun v h' tk hP uu hk'=>?_));have hS':=hk' S _ B2 hS;have B3:jS h0 h':=fun b o e=>hk' b o (fun z=>by rw [hw0 b z] at e;cases e) (hK b o e);show wpAny (model prog w) A.in1 (updateSeq S (fun _=>#[v,v]) >>= _) _ _ _;refine wpAny_bind (wpAny_updateSeq hS' rfl ?_);rw [E7];have Io:jS h0 (h'.update S (Obj.mapSeq fun _=>#[v,v])):=fun b o e=>(Xl _ _ (fun z=>by rw [<- z,xD] at e;cases e)).trans (B3 b o e);refine wpAny_pure ⟨plainId_quiet F.plain_min_loop _,Im W bt hcmp S hSf xD hw0 _ 0 _ v _ rfl hn (W.frame _ _ _ uu fun b Ip o e=>?_) hP Io (Heap.get?_update_self _ hS' rfl) fun v' h'' si B4 sj=>hR v' h'' si B4 sj⟩;exact (Xl _ _ (fun z:S=b=>hSf (z ▸ Ip))).trans e
end
section
variable {prog:Program}{w:World}{A:Around}{E:Value->Shared->Prop}{s:Shared}
theorem Qq{p:Addr}{its:Array Value}{bt:Nat->Nat->Bool}{Q:Value->Shared->Prop}(hh:A.handled=none)(hl:s.heap.IsList p its)(hn:0<its.size)(hcmp:xC A.in1 s.heap (fun i v=>its[i]?=some v) bt)
  (hQ:∀v h' tk,its[argBest bt (its.size-1)]?=some v->jS s.heap h'->Q v { s with heap:=h',toks:=tk }):wpAny (model prog w) A (call (.builtin "min") [.ref p]) Q E s:=by
 have hlt:p<s.heap.objs.size:=by obtain ⟨_,e,_⟩:=hl;exact WO e
 have e0:s.heap.get? s.heap.objs.size=none:=by
  cases q:s.heap.get? s.heap.objs.size with
  |none=>rfl
  |some o=>exact absurd (WO q) (Yf _)
 have e1:s.heap.get? (s.heap.objs.size+1)=none:=by
  cases q:s.heap.get? (s.heap.objs.size+1) with
  |none=>rfl
  |some o=>exact absurd (WO q) (Nat.not_lt_of_le (Nat.le_succ _))
 refine call_function_tree F.kind_min F.plain_min F.entry_min (F.args_min1 _) ?_;show wpAny (model prog w) A.in1 (Builtin.Builtins.bindParams "min" ["key","default"] 0 ⟨[],[]⟩ >>= _) _ _ _;refine wpAny_bind (wpAny_of_eq (show Builtin.Builtins.bindParams "min" ["key","default"] 0 ⟨[],[]⟩=pure [none,none] from rfl) (wpAny_bind (wpAny_pure ?_)));refine wpAny_bind (wpAny_pyIter_list hl (wpAny_bind (wpAny_newObj_type ?_)));have hsz:(s.heap.push { cls:=.type "list_iterator",data:=.fields #[.ref p,.int 0 0] }).objs.size=s.heap.objs.size+1:=XS ..;have hne:p≠s.heap.objs.size:=Xf hlt;rw [E7];have k1:jS s.heap ((s.heap.push { cls:=.type "list_iterator",data:=.fields #[.ref p,.int 0 0] }).push { cls:=.type "list",data:=.seq #[] }):=fun b o e=>WJ _ (WJ _ e);refine wpAny_pure ⟨plainId_quiet F.plain_min_loop _,?_⟩;show codeAny (model prog w) A (.builtin "min.loop" ⟨[.ref s.heap.objs.size,.none,.ref (s.heap.push { cls:=.type "list_iterator",data:=.fields #[.ref p,.int 0 0] }).objs.size],[]⟩) _ _;rw [hsz];refine Qp (c:=0) (Walks.list (A:=A.in1) hh s.heap.objs.size p hne its) bt hcmp (s.heap.objs.size+1) (fun z=>?_) e1 (fun b hb=>?_) hn ?_ k1 ?_ fun v h' tk hv hk=>hQ v h' tk hv hk
 ·rcases WT.mp z with z|z
  ·exact absurd z (Nat.succ_ne_self _)
  ·have:s.heap.objs.size+1=p:=WK.mp z
   exact absurd hlt (by rw [<- this];exact Nat.not_lt_of_le (Nat.le_succ _))
 ·rw [WK.mp hb];exact e0
 ·exact ⟨⟨_,WJ _ (WW _ rfl),rfl,rfl⟩,(hl.push _).push _⟩
 ·rw [<- hsz];exact WW _ rfl
end
theorem Iq{h:Heap}:∀{us:List Value} {ds:List PyData} {as:List Addr} {i:Nat} {v:Value},ReadsAll h us ds as->us[i]?=some v->∃as',Reads h v (ds.getD i .none) as'/\ds.getD i .none∈ds
 |_,_,_,_,_,.nil,e=>by simp at e
 |_,_,_,0,_,.cons r _,e=>by simp at e;subst e;exact ⟨_,r,Wy⟩
 |_,_,_,i+1,v,.cons _ rs,e=>by
  obtain ⟨as',r,m⟩:=Iq (i:=i) (v:=v) rs (by simpa using e);exact ⟨as',r,WE _ m⟩
section
variable {X:Cx}
noncomputable def uv(ds:List PyData)(i j:Nat):Bool:=Ad (ds.getD i .none) (ds.getD j .none)
noncomputable def nR(ds:List PyData):Nat:=argBest (uv ds) (ds.length-1)
noncomputable def vB(K:Zfr):List V->Hp->VK->Prop:=fun xs H Q=>∃(p:Addr) (vs:List V) (ds:List PyData),xs=[.ref p]/\kj K H p vs/\gy K H vs ds/\0<ds.length/\(∀a∈ds,∀b∈ds,sf a b=true)/\(∀a∈ds,a.canLay0=true/\a.depth<=50)/\∃v,vs[nR ds]?=some v/\Q v H
theorem LV(hc:X.calm=true)(hu:X.A.units+64<cLine):gu X (.builtin "min") (vB X.K):=by
 intro pins s σ H xs us Q I r h;obtain ⟨p,vs,ds,rfl,hq,hr,hn,hok,hlay,v0,hv0,q⟩:=h;obtain ⟨u,rfl,ru⟩:=vals1 r;cases ru;obtain ⟨its,rv,pl,_⟩:=I.list hq;obtain ⟨as,ra⟩:=gy.reads I hr rv;have hlen:its.length=ds.length:=ReadsAll.length _ _ _ ra;refine Qq (bt:=uv ds) (I.ok.hd hc) pl.isList (by rw [WH];omega) (fun i j vi vj s' hK hi hj=>?_) fun v h' tk hv hk=>?_
 ·have hi':its[i]?=some vi:=by simpa using hi
  have hj':its[j]?=some vj:=by simpa using hj
  obtain ⟨a1,r1,m1⟩:=Iq ra hi';obtain ⟨a2,r2,m2⟩:=Iq ra hj';have b1:=(hlay _ m1).2;have b2:=(hlay _ m2).2;exact LS _ _ _ s' _ _ _ _ (Reads.keeps hK r1) (Reads.keeps hK r2) (hok _ m1 _ m2) (hlay _ m1).1 (hlay _ m2).1 (by show X.A.units+1+_<cLine;omega)
 ·have hv':its[nR ds]?=some v:=by
   have e:its.toArray.size-1=ds.length-1:=by rw [WH,hlen]
   rw [e] at hv;unfold nR
   simpa using hv
  obtain ⟨u,LW,ru⟩:=Vals.get rv hv0;rw [hv'] at LW;cases LW;exact ⟨v0,H,I.kept hk,ru,q⟩
end
end L2
namespace L2
open PySem PySem.Spec PyProof.Rows PySem.W
section
variable {lt:Nat->Nat->Bool}{n0:Nat}{cmp:Nat->Nat->(Bool->Shared->Prop)->Shared->Prop}{s:Shared}
structure Ord(lt:Nat->Nat->Bool):Prop where
 tr:∀a b c,lt b a=false->lt c b=false->lt c a=false
 as:∀a b,lt a b=true->lt b a=false
noncomputable def P(p:Array Nat)(i:Nat):Nat:=p.getD i 0
variable (o:Ord lt)(hn:0<n0)(hc:∀i j (C:Bool->Shared->Prop),i<n0->j<n0->C (lt i j) s->cmp i j C s)
include o hn hc
end
end L2
namespace L2
open PySem PySem.Spec PyProof.Rows
end L2
namespace L2
open PySem PySem.Spec PyProof.Rows PySem.W
end L2
namespace L2
open PySem PySem.Spec PyProof.Rows
open Builtin
end L2
namespace L2
open PySem PySem.Spec PyProof.Rows
end L2
namespace L2
open PySem PySem.Spec PyProof.Rows PySem.W
end L2
namespace L2
open PySem PySem.Spec PyProof.Rows
noncomputable def Qr:Option Addr->Value
 |none=>.none
 |some T=>.ref T
noncomputable def XO(a C:Addr)(dx tr:Option Addr):HO:=.ext fun h=>∃o vs,h.get? a=some o/\o.cls=.ref C/\o.dict=dx/\o.data=.fields vs/\vs[1]?=some (Qr tr)
end L2
namespace L2
open PySem PySem.Spec PyProof.Rows PySem.W
end L2
namespace L2
open PySem PySem.Spec PyProof.Rows
end L2
namespace L2
open PySem PySem.Spec PyProof.Rows PySem.W PySem.Builtin PySem.Builtin.ObjectAttr
end L2
namespace L2
open PySem PySem.Spec PyProof.Rows PySem.W
end L2
namespace L2
open PySem PySem.Spec PyProof.Rows
section
variable {X:Cx}{K:Zfr}
noncomputable def qj(K:Zfr):V->List V->Hp->VK->Prop:=fun x vs H Q=>∃(a:Addr) (ys:List V) (ds:List PyData) (y:V) (dy:PyData) (j:Nat),x=.ref a/\vs=[y]/\kj K H a ys/\gy K H ys ds/\Rep K H y dy/\(∀d∈ds,PyData.canLay0 d=true)/\PyData.canLay0 dy=true/\PyData.depth dy<=60 /\
 ds.length<=1000/\(∃d,ds[j]?=some d/\PyData.eqv d dy=true)/\(∀i d,i<j->ds[i]?=some d->PyData.eqv d dy=false)/\Q (.int (j:Int)) H
theorem LX(hu:X.A.units+64<cLine):vf X "list.index" (qj X.K):=by
 intro pins s σ H x xs v us Q I rx rv h;obtain ⟨a,ys,ds,y,dy,j,rfl,rfl,hq,hr,hy,c1,c2,c3,hl,hit,hno,q⟩:=h;cases rx;obtain ⟨u,rfl,ru⟩:=vals1 rv;obtain ⟨its,r,pl,hz⟩:=I.list hq;obtain ⟨⟨c,dd,dt,sl⟩,e,hc,n,hdt⟩:=pl.isList;cases (show c=.type "list" from hc);cases (show dt=.seq its.toArray n from hdt);have hlen:its.length=ds.length:=by rw [<- r.length];exact hr.se
 obtain ⟨d0,hd0,Qs⟩:=hit;have hjl:j<ds.length:=(Wq.mp hd0).1;have rd:∀(i:Nat) (w:Value) (d:PyData),its[i]?=some w->ds[i]?=some d->∃as,Reads s.heap w d as:=fun i w d h1 h2=>by
  obtain ⟨z,hz',rz⟩:=r.B0 h1;obtain ⟨d',hd',rp⟩:=hr.get hz';rw [h2] at hd';cases hd';exact rp.reads I rz
 refine call_meets F.slot_list_index ⟨_,e,rfl⟩ F.entry_list_index (F.args_list_index_2 _ _) (PySem.SeqAt.list_indexAt a its.toArray n dd sl u (eD its ds dy) j (by simp;omega) (by omega) ?_ fun m hm Qu=>?_) ⟨e,fun z hz=>?_,⟨.int _,H,I.tok _,⟨_,rfl⟩,q⟩⟩
 ·unfold eD
  refine @decide_eq_true _ (Classical.propDecidable _) ⟨j,d0,?_,hd0,Qs⟩;simp [show j<its.length by omega]
 ·unfold eD
  refine @decide_eq_false _ (Classical.propDecidable _) ?_;rintro ⟨i,d,h1,h2,h3⟩;have hm2:m<its.length:=by simpa using hm
  have Qv:its[m]?=some (its.toArray[m]):=by simp [hm2]
  obtain ⟨dm,LY⟩:∃dm,ds[m]?=some dm:=⟨ds[m]'(by omega),Wr _⟩;obtain ⟨as,ra⟩:=rd i _ d h1 h2;obtain ⟨bs,rb⟩:=rd m _ dm Qv LY;have ed:d=dm:=(Reads.unique ra _ _ rb).1;rw [ed,hno m dm Qu LY] at h3;cases h3
 ·exact B1 hu I r hr ru hy c1 c2 (by first|exact c3|(intro d hd;omega)) z (by simpa using hz)
end
section
variable {X:Cx}
noncomputable def qk:V->List V->Hp->VK->Prop:=fun x vs H Q=>∃l xs k y,x=.ref l/\vs=[.int k,y]/\H l=some (.lst xs)/\0<=k/\k<2 ^ 62/\xs.length<sizeLine/\Q .non (upd H l (.lst (xs.take k.toNat ++ y :: xs.drop k.toNat)))
theorem LZ:BF X "list.insert" qk:=by
 intro pins s σ H x vs v us Q I rx rv h;obtain ⟨l,xs,k,y,rfl,rfl,hH,k0,k1,hz,q⟩:=h;cases rx;cases rv with
 |cons r1 rv =>
 cases rv with
 |cons r2 rv =>
 cases rv
 rename_i u1 u2
 obtain ⟨t,rfl⟩:=r1;obtain ⟨z,its,n,r,hl,e⟩:=I.oY hH;have hf:Builtin.List.listFitsIndex k=true:=fitsIndex_both (by omega) (by omega);refine call_meets F.slot_list_insert ⟨_,e,rfl⟩ F.entry_list_insert (F.args_list_insert_3 _ _ _)
  (AutoSeq1.list_insert_list_int_val_1 l its.toArray n k t u2 (by simp [hf]) (by rw [WH];omega)) ⟨e,?_⟩
 refine ⟨.non,_,I.rO (its':=its.take k.toNat ++ u2 :: its.drop k.toNat) hH e ?_ ((r.take k.toNat).append (.cons r2 (r.drop k.toNat))) ?_,rfl,q⟩
 ·dsimp only
  rw [if_neg (by omega)];simp
  by_cases h:k.toNat<=its.length
  ·rw [Nat.min_eq_left h,X1 (l:=its.drop k.toNat) (by rw [XU];omega)]
  ·rw [Nat.min_eq_right (by omega),X1 (l:=its) (i:=k.toNat) (by omega),X1 (l:=its) (i:=its.length) (Wv _),List.drop_eq_nil_of_le (as:=its) (i:=k.toNat) (by omega),List.drop_eq_nil_of_le (as:=its) (i:=its.length) (Wv _),List.take_nil]
 ·rw [Wt,WX,Xj,XU]
  omega
theorem Ir{α β:Type}(f:α->β):∀(l:List α) (i:Nat),(l.eraseIdx i).map f=(l.map f).eraseIdx i
 |[],_=>rfl
 |_ :: _,0=>rfl
 |a :: l,i+1=>by rw [List.eraseIdx_cons_succ,WM,WM,List.eraseIdx_cons_succ,Ir f l i]
theorem Qw{k:Int}:∀{its:List Value} {ns:List Int},IntsAre its ns->k∈ns->PySem.W.kf_ints its=true/\PySem.W.kf_at k its=some (ns.idxOf k):=by
 intro its ns h;have all:PySem.W.kf_ints its=true:=by
  induction h with
  |nil=>rfl
  |cons n t h ih=>exact ih
 refine fun hk=>⟨all,?_⟩;clear all
 induction h with
 |nil=>cases hk
 |cons n t h ih =>
  rename_i vs ns
  unfold PySem.W.kf_at
  by_cases e:n=k
  ·subst e
   simp [isInt]
  ·have hm:k∈ns:=by rcases WT.mp hk with h|h;exact absurd h.symm e;exact h
   have e1:isInt k (.int n t)=false:=by simp [isInt,e]
   rw [e1,ih hm];have:(n == k)=false:=by simp [e]
   rw [List.idxOf_cons,this];rfl
noncomputable def oZ(K:Zfr):V->List V->Hp->VK->Prop:=fun x vs H Q=>∃(l:Addr) (ns:List Int) (k:Int),x=.ref l/\vs=[.int k]/\H l=some (.lst (ns.map V.int))/\k∈ns/\Q .non (upd H l (.lst ((ns.erase k).map V.int)))
theorem Qx:BF X "list.remove" (oZ X.K):=by
 intro pins s σ H x vs v us Q I rx rv h;obtain ⟨l,ns,k,rfl,rfl,hH,hk,q⟩:=h;cases rx;obtain ⟨u,rfl,ru⟩:=rv.one;obtain ⟨t,rfl⟩:=ru;obtain ⟨z,its,n,r,hl,e⟩:=I.oY hH;obtain ⟨h1,h2⟩:=Qw (Hy r) hk;obtain ⟨a,b,c⟩:=PySem.W.kf_at_spec h2;have hz':its.toArray.size<=sizeLine:=by rw [WH];omega
 refine call_meets F.slot_list_remove ⟨_,e,rfl⟩ F.entry_list_remove (F.args_list_remove_2 _ _)
  (MeetsSeq.list_remove l its.toArray n (.int k t) (isInt k) (fun y hy=>PySem.W.kf_eq h1 y (by simpa using hy)) (ns.idxOf k) (by simpa using a) (by simpa using b) (fun i hi hlt=>by simpa using c i (by simpa using hi) hlt) hz') ⟨e,?_⟩
 refine ⟨.non,_,I.rO (its':=its.eraseIdx (ns.idxOf k)) hH e ?_ ?_ ?_,rfl,q⟩
 ·show its.toArray.eraseIdxIfInBounds (ns.idxOf k)=(its.eraseIdx (ns.idxOf k)).toArray
  rw [XZ]
 ·rw [List.erase_eq_eraseIdx_of_idxOf (by rfl),Ir]
  exact r.eraseIdx _
 ·have:=List.length_erase_of_mem hk
  rw [Wo];rw [Wo] at z;omega
end
open Builtin
noncomputable def P2(k:Nat):Nat:=2 ^ k
end L2
namespace L2
open PySem PySem.Spec PySem.W PyProof.Rows
structure xE(K:Zfr)(x qual:Str)(st:Stmt)(f:Addr)(fd:FuncData):Prop where
 ex:∃(oc:Value) (od:Option Addr) (dV kV doc pm:Value) (an:Option Addr) (cdv ct:Value) (osl:Array (Option Value)),
  fd=PySem.W.fnOf x qual (fX st) (eu st) (az st) dV kV doc pm an cdv ct/\K.lookup f=some ⟨oc,od,.func fd,osl⟩/\PySem.W.codeIn K cdv qual=true
 kp:PySem.W.keepIn K (.ref f)=true
theorem xE.ok{P:Program}{w:World}{K:Zfr}{mg:Str->Option Value}{base:Heap}{x qual:Str}{st:Stmt}{f:Addr}{fd:FuncData}{N ps:List Str}{k:Nat}{sp:Sp}(F:xE K x qual st f fd)(S:aN N ps (az st))(len:∀vs H Q E,sp vs H Q E->vs.length=ps.length)
  (hbody:∀(cdv:Value) (A:Around) (outer:List Env) (s:Shared) (H:Hp) (vs:List V) (Q:VK) (E:XK),gW k (A.deeper (envOfC qual (az st) s.heap.objs.size f cdv))->sp vs H Q E ->
   ∃t,p4 (gw bG P w K mg base N qual (az st) f cdv A outer s H E).nA (eu st) t/\t { nx:=fun _ H'=>Q .non H',rt:=Q } (start N vs) H):aJ P w K mg base bG (k+1) f fd ps sp:=by
 obtain ⟨oc,od,dV,kV,doc,pm,an,cdv,ct,osl,rfl,lk,hcd⟩:=F.ex;refine vd lk hcd S len fun A outer s H vs Q E hr rg=>?_;obtain ⟨t,h,q⟩:=hbody cdv A outer s H vs Q E hr rg;exact ⟨t,h.nA,q⟩
structure qP(K:Zfr)(mg:Str->Option Value)(x:Str)(st:Stmt)(ps:List Str)(nP:List V)(f:Addr)(fd:FuncData):Prop where
 F:xE K x x st f fd
 b:Binds K fd ps []
 bd:∃ds,Vals nP ds/\Binds K fd ps ds
 m:mg x=some (.ref f)
noncomputable def sr(x:Str)(st:Stmt)(ps:List Str)(d m:Nat):Prop :=
 ∀(T:Addr) (kV doc pm:Value) (an:Option Addr) (cdv ct:Value) (us ds:List Value),us.length=m->ds.length=d ->
  ∃k:Option (Array Value)->Sem (List (Str×Value)),bindArgs (PySem.W.fnOf x x (fX st) (eu st) (az st) (.ref T) kV doc pm an cdv ct) ⟨us,[]⟩=seqItems? (.ref T) >>= k/\k (some ds.toArray)=pure (ps.zip (us ++ ds.drop (m+d-ps.length)))
theorem Qy{K:Zfr}{h:Heap}{mg:Str->Option Value}(X:K.In h)(G:h.Ns mainGlobals mg){x:Str}{st:Stmt}{ps:List Str}{nP:List V}{f T:Addr}{oc Qz:Value}{od an od':Option Addr}{osl Iu:Array (Option Value)}{kV doc pm cdv ct:Value}{its:Array Value}{n d:Nat}
  (hl:d<=ps.length) (hb:sr x st ps d (ps.length-d)) (hb2:sr x st ps d ps.length)
  (a:PySem.W.nsIn K mainGlobals x=some (some (.ref f))) (l:K.lookup f=some ⟨oc,od,.func (PySem.W.fnOf x x (fX st) (eu st) (az st) (.ref T) kV doc pm an cdv ct),osl⟩)
  (lT:K.lookup T=some ⟨Qz,od',.seq its n,Iu⟩) (ei:its.toList.length=d) (hv:Vals nP its.toList)
  (c:PySem.W.codeIn K cdv x=true) (k:PySem.W.keepIn K (.ref f)=true):∃f fd,qP K mg x st ps nP f fd:=by
 have key:∀m (s:Shared) (us:List Value),sr x st ps d m->K.In s.heap->us.length=m->BindsTo s (PySem.W.fnOf x x (fX st) (eu st) (az st) (.ref T) kV doc pm an cdv ct) ⟨us,[]⟩ (ps.zip (us ++ its.toList.drop (m+d-ps.length))):=fun m s us h KX hu=>by
  obtain ⟨kk,h1,h2⟩:=h T kV doc pm an cdv ct us its.toList hu ei;exact BindsTo.of_defaults rfl (KX _ _ lT) rfl h1 (by rw [Array.toArray_toList] at h2;exact h2)
 refine ⟨f,_,⟨⟨oc,od,.ref T,kV,doc,pm,an,cdv,ct,osl,rfl,l,c⟩,k⟩,fun s us KX hu=>?_,⟨its.toList,hv,fun s us KX hu=>?_⟩,PySem.W.mg_of X G a⟩
 ·rw [Xy] at hu ⊢
  have:=key ps.length s us hb2 KX hu;rw [show ps.length+d-ps.length=its.toList.length by omega,List.drop_length,Xy] at this;exact this
 ·rw [Wt] at hu
  have:=key (ps.length-d) s us hb KX (by omega);rw [show ps.length-d+d-ps.length=0 by omega,List.drop_zero] at this;exact this
section
variable {X:Cx}{CX:p9}{k:Nat}{f:Addr}{fd:FuncData}{ps:List Str}{sp:Sp}{x:Str}{nP:List V}{E:XK}{e:Expr}{es:List Expr}{t:TA}{p pos:Pos}
theorem L0(F:aJ X.prog X.w X.K X.mg X.base CX k f fd ps sp)(hr:gW k X.A)(hg:Gl X x)(hm:X.mg x=some (.ref f))(hk:PySem.W.keepIn X.K (.ref f)=true)(hb:∃ds,Vals nP ds/\Binds X.K fd ps ds)(hx:Passes CX X E)
  (ha:PA X (e :: es) t) (hdb:(x == ("__debug__" : Str))=false:=by decide) (he:starEach (e :: es) X.env=(false,eval e X.env) :: starEach es X.env:=by rfl) (hpl:(backTo pos (starEach es X.env)).any (·.1)=false:=by rfl) :
  PE X (.Call (.Name x p) (e :: es) [] pos) (oX sp nP E t):=by
 obtain ⟨ds,hd,hb⟩:=hb;exact K2 F hr hg hm hk hb hd hx ha hdb he hpl
end
end L2
namespace ag
noncomputable def upto(n:Nat):List Int:=(List.range n).map fun (k:Nat)=>(k:Int)
theorem o4(n:Nat):(upto n).length=n:=by simp [upto]
theorem lV{n:Nat}{x:Int}:x∈upto n↔0<=x/\x<(n:Int):=by
 simp only [upto,WB,X4];constructor
 ·rintro ⟨k,hk,rfl⟩;omega
 ·rintro ⟨h1,h2⟩;exact ⟨x.toNat,by omega,by omega⟩
theorem QA(n:Nat):(upto n).Pairwise (· < ·):=by
 unfold upto;rw [List.pairwise_map];exact (List.pairwise_lt_range).imp fun h=>by omega
theorem L3(n:Nat):(upto n).Nodup:=(QA n).imp fun h=>by omega
theorem E9:∀{xs ys:List Int},xs.Nodup->(∀x∈xs,x∈ys)->ys.length<=xs.length->xs.Perm ys
 |[],ys,_,_,h=>by
  have:ys=[]:=List.eq_nil_of_length_eq_zero (by simpa using h);subst this;exact X9 _
 |x :: xs,ys,hn,hs,hl=>by
  obtain ⟨h1,h2⟩:=Xc.mp hn;have hx:x∈ys:=hs x Wy;have hp:=Yc hx;have hlen:(ys.erase x).length+1=ys.length:=by have:=hp.length_eq;simpa using this.symm
  refine List.Perm.trans (List.Perm.cons x (E9 (ys:=ys.erase x) h2 (fun y hy=>?_) ?_)) hp.symm
  ·have hne:y≠x:=fun e=>h1 (e ▸ hy)
   exact (Xz hne).mpr (hs y (WE _ hy))
  ·simp at hl;omega
theorem Iv{xs:List Int}(hn:xs.Nodup)(hb:∀x∈xs,0<=x/\x<(xs.length:Int)):xs.Perm (upto xs.length):=by
 exact E9 hn (fun x hx=>lV.mpr (hb x hx)) (by rw [o4];exact Wv _)
end ag
namespace ag
noncomputable def app(xs:List Int)(i:Int):Int:=xs.getD i.toNat 0
noncomputable def bW(xs:List Int)(i:Int):Nat->Int
 |0=>i
 |j+1=>app xs (bW xs i j)
noncomputable def Tn(n:Nat)(xs:List Int):Prop:=xs.Perm (upto n)
theorem Tn.length{n:Nat}{xs:List Int}(h:Tn n xs):xs.length=n:=by rw [h.length_eq,o4]
theorem Tn.nodup{n:Nat}{xs:List Int}(h:Tn n xs):xs.Nodup:=h.nodup_iff.mpr (L3 n)
theorem Tn.bound{n:Nat}{xs:List Int}(h:Tn n xs){x:Int}(hx:x∈xs):0<=x/\x<(n:Int):=lV.mp (h.subset hx)
theorem o5{xs:List Int}{i:Int}(h0:0<=i)(h1:i<(xs.length:Int)):xs[i.toNat]?=some (app xs i):=by
 have:i.toNat<xs.length:=by omega
 unfold app;rw [WI,Wr this];rfl
theorem QB{xs:List Int}{i:Int}(h0:0<=i)(h1:i<(xs.length:Int)):app xs i∈xs:=Ww (o5 h0 h1)
theorem Tn.app{n:Nat}{xs:List Int}(h:Tn n xs){i:Int}(h0:0<=i)(h1:i<(n:Int)):0<=app xs i/\app xs i<(n:Int):=h.bound (QB h0 (by rw [h.length];exact h1))
theorem Tn.inj{n:Nat}{xs:List Int}(h:Tn n xs){i j:Int}(i0:0<=i)(i1:i<(n:Int))(j0:0<=j)(j1:j<(n:Int))(e:ag.app xs i=ag.app xs j):i=j:=by
 have hl:=h.length;have a:=o5 i0 (by rw [hl];exact i1);have b:=o5 j0 (by rw [hl];exact j1);rw [e] at a;obtain ⟨ha,ea⟩:=Wq.mp a;obtain ⟨hb,eb⟩:=Wq.mp b;have:=(List.getElem_inj h.nodup).mp (ea.trans eb.symm);omega
theorem Tn.bW{n:Nat}{xs:List Int}(h:Tn n xs){i:Int}(h0:0<=i)(h1:i<(n:Int)):∀j,0<=bW xs i j/\bW xs i j<(n:Int)
 |0=>⟨h0,h1⟩
 |j+1=>h.app (h.bW h0 h1 j).1 (h.bW h0 h1 j).2
theorem Tn.back{n:Nat}{xs:List Int}(h:Tn n xs){i:Int}(h0:0<=i)(h1:i<(n:Int)):∀(a d:Nat),ag.bW xs i a=ag.bW xs i (a+d)->ag.bW xs i d=i
 |0,d,e=>by rw [Ya] at e;exact e.symm
 |a+1,d,e=>by
  have e':ag.app xs (ag.bW xs i a)=ag.app xs (ag.bW xs i (a+d)):=by
   have:a+1+d=(a+d)+1:=by omega
   rw [this] at e;exact e
  exact h.back h0 h1 a d (h.inj (h.bW h0 h1 a).1 (h.bW h0 h1 a).2 (h.bW h0 h1 _).1 (h.bW h0 h1 _).2 e')
theorem Ae:∀{xs ys:List Int},xs.Nodup->(∀x∈xs,x∈ys)->xs.length<=ys.length
 |[],_,_,_=>W9 _
 |x :: xs,ys,hn,hs=>by
  obtain ⟨h1,h2⟩:=Xc.mp hn;have hx:x∈ys:=hs x Wy;have hp:=Yc hx;have hlen:(ys.erase x).length+1=ys.length:=by have:=hp.length_eq;simpa using this.symm
  have:=Ae (ys:=ys.erase x) h2 fun y hy=>(Xz (a:=y) (b:=x) (fun e=>h1 (by rw [<- e];exact hy))).mpr (hs y (WE _ hy));simp only [WX];omega
noncomputable def row(xs:List Int)(i:Int)(m:Nat):List Int:=(List.range (m+1)).map (bW xs i)
theorem L5(xs:List Int)(i:Int)(m:Nat):row xs i (m+1)=row xs i m ++ [bW xs i (m+1)]:=by
 unfold row;rw [List.range_succ,WL];rfl
theorem tJ(xs:List Int)(i:Int)(m:Nat):(row xs i m).length=m+1:=by simp [row]
theorem Fb{xs:List Int}{i:Int}{m:Nat}{x:Int}:x∈row xs i m↔∃j,j<=m/\bW xs i j=x:=by
 unfold row;rw [WB];constructor
 ·rintro ⟨j,hj,e⟩;exact ⟨j,by have:=X4.mp hj;omega,e⟩
 ·rintro ⟨j,hj,e⟩;exact ⟨j,X4.mpr (by omega),e⟩
noncomputable def NB(xs:List Int)(i:Int)(m:Nat):Prop:=∀j,1<=j->j<=m->bW xs i j≠i
theorem Tn.kU{n:Nat}{xs:List Int}(h:Tn n xs){i:Int}(h0:0<=i)(h1:i<(n:Int)){m:Nat}(nb:NB xs i m):m+1<=n:=by
 have hn:(row xs i m).Nodup:=by
  unfold row List.Nodup;rw [List.pairwise_map];refine List.Pairwise.imp_of_mem (R:=fun a b=>a<b) ?_ List.pairwise_lt_range;intro a b ha hb hab e;have ha':=X4.mp ha;have hb':=X4.mp hb;obtain ⟨d,rfl⟩:∃d,b=a+d:=⟨b-a,by omega⟩;exact nb d (by omega) (by omega) (h.back h0 h1 a d e)
 have:=Ae hn (ys:=upto n) fun x hx=>by
  obtain ⟨j,_,rfl⟩:=Fb.mp hx;exact lV.mpr (h.bW h0 h1 j)
 rw [tJ,o4] at this;exact this
structure je(xs:List Int)(i:Int)(r:List Int):Prop where
 ex:∃m,r=row xs i m/\NB xs i m/\bW xs i (m+1)=i
theorem je.mem{xs:List Int}{i:Int}{r:List Int}(a:je xs i r):i∈r:=by
 obtain ⟨m,e1,_,_⟩:=a.ex;rw [e1];exact Fb.mpr ⟨0,W9 _,rfl⟩
theorem je.len{n:Nat}{xs:List Int}(h:Tn n xs){i:Int}(h0:0<=i)(h1:i<(n:Int)){r:List Int}(a:je xs i r):r.length<=n:=by
 obtain ⟨m,e1,nb,_⟩:=a.ex;rw [e1,tJ];exact h.kU h0 h1 nb
theorem je.bound{n:Nat}{xs:List Int}(h:Tn n xs){i:Int}(h0:0<=i)(h1:i<(n:Int)){r:List Int}(a:je xs i r):∀x∈r,0<=x/\x<(n:Int):=by
 obtain ⟨m,e1,nb,_⟩:=a.ex;subst e1;intro x hx;obtain ⟨j,_,rfl⟩:=Fb.mp hx;exact h.bW h0 h1 j
noncomputable def out(left r:List Int):List Int:=left.filter fun k=>!r.contains k
inductive vC(xs:List Int):List Int->List (List Int)->Prop
 |nil:vC xs [] []
 |cons {i:Int} {left r:List Int} {rs:List (List Int)}:je xs i r->vC xs (out (i :: left) r) rs->vC xs (i :: left) (r :: rs)
noncomputable def from'(n k:Nat)(seen:Int->Bool):List Int:=(((List.range n).drop k).map fun (j:Nat)=>(j:Int)).filter fun x=>!seen x
theorem QC(n:Nat)(seen:Int->Bool):from' n n seen=[]:=by
 unfold from';rw [List.drop_of_length_le (by simp)];rfl
theorem QD{n k:Nat}(h:k<n)(seen:Int->Bool):from' n k seen=if seen (k:Int) then from' n (k+1) seen else (k:Int) :: from' n (k+1) seen:=by
 unfold from';rw [XJ (by simpa using h),WM,List.filter_cons];simp only [List.getElem_range];cases hs:seen (k:Int)<;>simp
theorem QE{n k:Nat}{seen:Int->Bool}{r:List Int}:out (from' n k seen) r=from' n k (fun x=>seen x || r.contains x):=by
 unfold out from';rw [List.filter_filter]
 congr 1
 funext x
 show (!r.contains x && !seen x)=!(seen x || r.contains x);cases seen x<;>cases r.contains x<;>rfl
theorem QF(n:Nat):from' n 0 (fun _=>false)=upto n:=by
 unfold from' upto;rw [List.drop_zero];simp
noncomputable def ql(n:Nat):List Int:=((List.range (n-1)).map fun (k:Nat)=>(1:Int)+k) ++ [0]
theorem QG:∀n,n<21->0<n->(ql n).isPerm (upto n)=true:=by decide
theorem L6{n:Nat}(h:n<21)(h0:0<n):Tn n (ql n):=List.isPerm_iff.mp (QG n h h0)
end ag
namespace ag
theorem B5{n:Nat}{xs:List Int}(h:xs.length=n):(upto n).map (app xs)=xs:=by
 apply List.ext_getElem
 ·rw [Wo,o4,h]
 ·intro i h1 h2
  have e:=o5 (xs:=xs) (i:=(i:Int)) (by omega) (by omega);simp only [WC] at e;rw [Wr h2] at e;rw [XW];unfold upto;simp only [XW,List.getElem_range];exact (WD e).symm
noncomputable def inv(xs:List Int):List Int:=(upto xs.length).map fun i=>(xs.idxOf i:Int)
theorem B6(xs:List Int):(inv xs).length=xs.length:=by unfold inv;rw [Wo,o4]
theorem B7{n i:Nat}(h:i<n):(upto n)[i]?=some (i:Int):=by
 unfold upto;rw [Wx,XB h];rfl
theorem Fc{xs:List Int}{i:Int}(h0:0<=i)(h1:i<(xs.length:Int)):app (inv xs) i=(xs.idxOf i:Int):=by
 have e:=o5 (xs:=inv xs) h0 (by rw [B6];exact h1);unfold inv at e;rw [Wx,B7 (by omega)] at e;have:=WD e;rw [<- inv] at this;rw [<- this,WV h0]
theorem Tn.mem{n:Nat}{xs:List Int}(h:Tn n xs){i:Int}(h0:0<=i)(h1:i<(n:Int)):i∈xs:=h.symm.subset (lV.mpr ⟨h0,h1⟩)
theorem Tn.idx{n:Nat}{xs:List Int}(h:Tn n xs){i:Int}(h0:0<=i)(h1:i<(n:Int)):xs.idxOf i<n:=by rw [<- h.length];exact List.idxOf_lt_length_of_mem (h.mem h0 h1)
theorem Tn.dj{n:Nat}{xs:List Int}(h:Tn n xs){i:Int}(h0:0<=i)(h1:i<(n:Int)):ag.app xs (ag.app (inv xs) i)=i:=by
 rw [Fc h0 (by rw [h.length];exact h1)];have hl:=h.idx h0 h1;have e:=o5 (xs:=xs) (i:=(xs.idxOf i:Int)) (by omega) (by rw [h.length];omega);rw [WC,Wr (by rw [h.length];exact hl)] at e;rw [<- WD e];exact List.getElem_idxOf _
theorem Tn.mE{n:Nat}{xs:List Int}(h:Tn n xs){i:Int}(h0:0<=i)(h1:i<(n:Int)):0<=ag.app (inv xs) i/\ag.app (inv xs) i<(n:Int):=by
 rw [Fc h0 (by rw [h.length];exact h1)];have:=h.idx h0 h1;omega
theorem Tn.gB{n:Nat}{xs:List Int}(h:Tn n xs){i:Int}(h0:0<=i)(h1:i<(n:Int)):ag.app (inv xs) (ag.app xs i)=i:=by
 obtain ⟨a0,a1⟩:=h.app h0 h1;obtain ⟨b0,b1⟩:=h.mE a0 a1;exact h.inj b0 b1 h0 h1 (h.dj a0 a1)
theorem Tn.aG{n:Nat}{xs:List Int}(h:Tn n xs):Tn n (inv xs):=by
 have hl:=h.length;unfold Tn;have e:(inv xs).length=n:=by rw [B6,hl]
 have:=Iv (xs:=inv xs) ?_ ?_
 ·rw [e] at this;exact this
 ·unfold List.Nodup
  rw [Xm];intro i j hi hj hij z;have a:=o5 (xs:=inv xs) (i:=(i:Int)) (by omega) (by omega);have b:=o5 (xs:=inv xs) (i:=(j:Int)) (by omega) (by omega);rw [WC,Wr hi] at a;rw [WC,Wr hj] at b;have a:=WD a;have b:=WD b;have c:=h.dj (i:=(i:Int)) (by omega) (by omega);have d:=h.dj (i:=(j:Int)) (by omega) (by omega);rw [<- a] at c;rw [<- b,<- z] at d;have:=c.symm.trans d;omega
 ·intro x hx
  unfold inv at hx;obtain ⟨i,hi,rfl⟩:=WB.mp hx;have:=lV.mp hi;rw [hl] at this;have:=h.idx this.1 this.2;rw [e];omega
theorem tK(xs:List Int)(i:Int)(j:Nat):∀d,bW xs (bW xs i j) d=bW xs i (j+d)
 |0=>rfl
 |d+1=>by show app xs (bW xs (bW xs i j) d)=app xs (bW xs i (j+d));rw [tK xs i j d]
theorem L7{xs:List Int}{i:Int}{L:Nat}(h:bW xs i L=i)(a:Nat):bW xs i (a+L)=bW xs i a:=by
 rw [Nat.add_comm,<- tK xs i L a,h]
theorem B8{xs:List Int}{i:Int}{L:Nat}(h:bW xs i L=i):∀(q r:Nat),bW xs i (r+L*q)=bW xs i r
 |0,r=>rfl
 |q+1,r=>by rw [Nat.mul_succ,<- Nat.add_assoc,L7 h];exact B8 h q r
theorem L8{xs:List Int}{i:Int}{L:Nat}(h:bW xs i L=i)(a:Nat):bW xs i (a % L)=bW xs i a:=by
 have:=B8 h (a / L) (a % L);rw [Nat.mod_add_div] at this;exact this.symm
noncomputable def L9(xs:List Int)(k i v:Int):Prop:=∃m,NB xs i m/\bW xs i (m+1)=i/\v=bW xs i (k % ((m+1:Nat):Int)).toNat
theorem Tn.xF{n:Nat}{xs:List Int}(h:Tn n xs){i:Int}(h0:0<=i)(h1:i<(n:Int)){m:Nat}(nb:NB xs i m)(bk:ag.bW xs i (m+1)=i)(j:Nat)(k:Int):
  L9 xs k (ag.bW xs i j) (ag.bW xs i (((j:Int)+k) % ((m+1:Nat):Int)).toNat):=by
 refine ⟨m,fun d d1 d2 e=>?_,?_,?_⟩
 ·rw [tK] at e
  exact nb d d1 d2 (h.back h0 h1 j d e.symm)
 ·rw [tK,L7 bk]
 ·rw [tK]
  rw [<- L8 bk (j+(k % ((m+1:Nat):Int)).toNat)]
  congr 1
  have hL:(0:Int)<((m+1:Nat):Int):=by omega
  have k0:=Xr k (Int.ne_of_gt hL);have e:(((j+(k % ((m+1:Nat):Int)).toNat) % (m+1):Nat):Int)=((j:Int)+k) % ((m+1:Nat):Int):=by
   rw [Int.natCast_emod,Int.natCast_add,WV k0,Int.add_emod_emod]
  rw [<- e,WC]
theorem vC.all{xs:List Int}:∀{left:List Int} {rs:List (List Int)},vC xs left rs->(∀r∈rs,∃i∈left,je xs i r)/\∀x∈left,∃r∈rs,x∈r:=by
 intro left rs a
 induction a with
 |nil=>exact ⟨fun r hr=>(nomatch hr),fun x hx=>(nomatch hx)⟩
 |cons h1 _ ih =>
  refine ⟨fun r hr=>?_,fun x hx=>?_⟩
  ·rcases WT.mp hr with rfl|hr
   ·exact ⟨_,Wy,h1⟩
   ·obtain ⟨i,hi,r'⟩:=ih.1 r hr
    exact ⟨i,(Yi.mp hi).1,r'⟩
  ·rename_i i left r rs _
   by_cases hc:x∈r
   ·exact ⟨r,Wy,hc⟩
   ·obtain ⟨r',hr',hx'⟩:=ih.2 x (Yi.mpr ⟨hx,by simp [hc]⟩)
    exact ⟨r',WE _ hr',hx'⟩
theorem QH{n:Nat}{xs:List Int}(h:Tn n xs):xs.map (app (inv xs))=upto n:=by
 have e:((upto n).map (app xs)).map (app (inv xs))=upto n:=by
  rw [WQ]
  conv=>rhs;rw [<- XQ (upto n)]
  apply W4;intro x hx;obtain ⟨a,b⟩:=lV.mp hx;exact h.gB a b
 rw [B5 h.length] at e;exact e
theorem QI{n:Nat}{xs:List Int}(h:Tn n xs):(inv xs).map (app xs)=upto n:=by
 have e:((upto n).map (app (inv xs))).map (app xs)=upto n:=by
  rw [WQ]
  conv=>rhs;rw [<- XQ (upto n)]
  apply W4;intro x hx;obtain ⟨a,b⟩:=lV.mp hx;exact h.dj a b
 rw [B5 (h.aG).length] at e;exact e
end ag
namespace ag
inductive jO(xs ys:List Int):Int->Prop
 |zero:jO xs ys 0
 |r {x:Int}:jO xs ys x->jO xs ys (app xs x)
 |u {x:Int}:jO xs ys x->jO xs ys (app ys x)
theorem jO.bound{n:Nat}{xs ys:List Int}(hx:Tn n xs)(hy:Tn n ys)(h0:0<n){x:Int}(h:jO xs ys x):0<=x/\x<(n:Int):=by
 induction h with
 |zero=>omega
 |r _ ih=>exact hx.app ih.1 ih.2
 |u _ ih=>exact hy.app ih.1 ih.2
theorem jO.bW{xs ys:List Int}{x:Int}(h:jO xs ys x):∀k,jO xs ys (ag.bW xs x k)
 |0=>h
 |k+1=>.r (h.bW k)
noncomputable def nF(xs:List Int)(m:Nat):List Int:=(xs.set 0 (app xs m)).set m (app xs 0)
theorem QJ(xs:List Int)(m:Nat):(nF xs m).length=xs.length:=by simp [nF]
theorem Iw{xs:List Int}{m:Nat}{v x:Int}(hm:m<xs.length)(h0:0<=x):app (xs.set m v) x=if x=(m:Int) then v else app xs x:=by
 unfold app;rw [WI,WI]
 by_cases hx:x=(m:Int)
 ·rw [if_pos hx,hx,WC,Wu hm];rfl
 ·rw [if_neg hx,Wz (by omega)]
theorem Af{xs:List Int}{m:Nat}(hm:m<xs.length){x:Int}(h0:0<=x):app (nF xs m) x=if x=(m:Int) then app xs 0 else if x=0 then app xs m else app xs x:=by
 unfold nF;rw [Iw (by simpa using hm) h0,Iw (by omega) h0];rfl
theorem xG{n:Nat}{xs:List Int}(h:Tn n xs){m:Nat}(hm:m<n):Tn n (nF xs m):=by
 have hl:=h.length;have e:(nF xs m).length=n:=by rw [QJ,hl]
 have:=Iv (xs:=nF xs m) ?_ ?_
 ·unfold Tn;rw [e] at this;exact this
 ·unfold List.Nodup
  rw [Xm];intro i j hi hj hij z;have a:=o5 (xs:=nF xs m) (i:=(i:Int)) (by omega) (by omega);have b:=o5 (xs:=nF xs m) (i:=(j:Int)) (by omega) (by omega);rw [WC,Wr hi] at a;rw [WC,Wr hj] at b;have a:=WD a;have b:=WD b;rw [Af (by omega) (by omega)] at a b;rw [a,b] at z;have inj:∀p q:Int,0<=p->p<(n:Int)->0<=q->q<(n:Int)->app xs p=app xs q->p=q:=fun p q p0 p1 q0 q1=>h.inj p0 p1 q0 q1;split at z<;>split at z<;>(try split at z)<;>(try split at z)<;>(first|omega|(have:=inj _ _ (by omega) (by omega) (by omega) (by omega) z;omega))
 ·intro x hx
  obtain ⟨i,hi,rfl⟩:=XC hx;have a:=o5 (xs:=nF xs m) (i:=(i:Int)) (by omega) (by omega);rw [WC,Wr hi] at a;rw [WD a,Af (by omega) (by omega),e];split
  ·exact h.app (by omega) (by omega)
  ·split
   ·exact h.app (by omega) (by omega)
   ·exact h.app (by omega) (by omega)
theorem Tn.uw{n:Nat}{xs:List Int}(h:Tn n xs){i:Int}(h0:0<=i)(h1:i<(n:Int)):∃m,NB xs i m/\ag.bW xs i (m+1)=i:=by
 by_cases hb:∃m,m<n/\ag.bW xs i (m+1)=i
 ·-- the least
  have key:∀b:Nat,(∃m,m<b/\ag.bW xs i (m+1)=i)->∃m,NB xs i m/\ag.bW xs i (m+1)=i:=by
   intro b
   induction b with
   |zero=>rintro ⟨m,hm,_⟩;omega
   |succ b ih =>
    rintro ⟨m,hm,e⟩
    by_cases hc:∃m,m<b/\ag.bW xs i (m+1)=i
    ·exact ih hc
    ·refine ⟨m,fun j j1 j2 z=>hc ⟨j-1,by omega,?_⟩,e⟩
     have:j-1+1=j:=by omega
     rw [this];exact z
  exact key n hb
 ·have nb:NB xs i n:=fun j j1 j2 z=>by
   refine hb ⟨j-1,by omega,?_⟩;have:j-1+1=j:=by omega
   rw [this];exact z
  have:=h.kU h0 h1 nb;omega
theorem QK{n:Nat}{xs ys:List Int}(hx:Tn n xs)(hy:Tn n ys){m:Nat}(hm:m<n)(nm:¬jO xs ys (m:Int)):jO (nF xs m) ys (m:Int)/\∀x,jO xs ys x->jO (nF xs m) ys x:=by
 have hl:=hx.length;have m0:m≠0:=fun z=>nm (by rw [z];exact .zero);obtain ⟨M,nb,bk⟩:=hx.uw (i:=(m:Int)) (by omega) (by omega);have QL:∀j,ag.bW xs (m:Int) j≠0:=by
  intro j z;have h':jO xs ys (ag.bW xs (ag.bW xs (m:Int) j) ((M+1)*j)):=by rw [z];exact jO.zero.bW _
  rw [tK] at h';have e2:ag.bW xs (m:Int) ((M+1)*(j+1))=(m:Int):=by
   have:=B8 bk (j+1) 0;rw [Ya] at this;exact this
  have h3:=h'.bW ((M+1)*(j+1)-(j+(M+1)*j));rw [tK] at h3;have e3:j+(M+1)*j+((M+1)*(j+1)-(j+(M+1)*j))=if j+(M+1)*j<=(M+1)*(j+1) then (M+1)*(j+1) else j+(M+1)*j:=by split<;>omega
  rw [e3] at h3
  by_cases hc:j+(M+1)*j<=(M+1)*(j+1)
  ·rw [if_pos hc,e2] at h3
   exact nm h3
  ·-- round as often as needed
   have h4:=h'.bW ((M+1)*(2*j+2)-(j+(M+1)*j));rw [tK] at h4;have hbig:j+(M+1)*j<=(M+1)*(2*j+2):=by
    have a1:(M+1)*(2*j+2)=(M+1)*j+((M+1)*j+(M+1)*2):=by rw [<- Nat.mul_add,<- Nat.mul_add];congr 1;omega
    have a2:j<=(M+1)*j:=Nat.le_mul_of_pos_left j (by omega);omega
   have e5:j+(M+1)*j+((M+1)*(2*j+2)-(j+(M+1)*j))=(M+1)*(2*j+2):=by omega
   rw [e5] at h4;have:=B8 bk (2*j+2) 0;rw [Ya] at this;rw [this] at h4;exact nm h4
 have ring:∀j,j<=M->jO (nF xs m) ys (ag.bW xs (m:Int) (j+1)):=by
  intro j
  induction j with
  |zero =>
   intro _;have h1:jO (nF xs m) ys (ag.app (nF xs m) 0):=.r .zero;rw [Af (by omega) (by omega),if_neg (by omega),if_pos rfl] at h1;exact h1
  |succ j ih =>
   intro hj;have h1:=(ih (by omega)).r;have b:=hx.bW (i:=(m:Int)) (by omega) (by omega) (j+1);rw [Af (by omega) b.1,if_neg (nb (j+1) (by omega) (by omega)),if_neg (QL (j+1))] at h1;exact h1
 have Ma:jO (nF xs m) ys (m:Int):=by have:=ring M (Wv _);rwa [bk] at this
 refine ⟨Ma,fun x h=>?_⟩;have hpos:0<n:=by omega
 induction h with
 |zero=>exact .zero
 |r hx' ih =>
  rename_i x
  have b:=hx'.bound hx hy hpos
  by_cases h0:x=0
  ·have h1:=Ma.r
   rw [Af (by omega) (by omega),if_pos rfl] at h1;rw [h0];exact h1
  ·have QM:x≠(m:Int):=fun z=>nm (by rw [<- z];exact hx')
   have h1:=ih.r;rw [Af (by omega) b.1,if_neg QM,if_neg h0] at h1;exact h1
 |u _ ih=>exact ih.u
noncomputable def Cl(xs ys F:List Int):Prop:=∀x∈F,app xs x∈F/\app ys x∈F
theorem Cl.all{xs ys F:List Int}(h:Cl xs ys F)(h0:(0:Int)∈F){x:Int}(r:jO xs ys x):x∈F:=by
 induction r with
 |zero=>exact h0
 |r _ ih=>exact (h _ ih).1
 |u _ ih=>exact (h _ ih).2
structure Fd(xs ys:List Int)(F:List Int):Prop where
 z:(0:Int)∈F
 nd:F.Nodup
 mt:∀x∈F,jO xs ys x
theorem Fd.len{n:Nat}{xs ys F:List Int}(h:Fd xs ys F)(hx:Tn n xs)(hy:Tn n ys)(h0:0<n):F.length<=n:=by
 have:=Ae h.nd (ys:=upto n) fun x hx'=>lV.mpr ((h.mt x hx').bound hx hy h0);rw [o4] at this;exact this
theorem Fd.one(xs ys:List Int):Fd xs ys [0]:=⟨by simp,by simp,fun x hx=>(show x=0 by simpa using hx) ▸ .zero⟩
theorem round{xs ys F F1 F2:List Int}(d:Fd xs ys F)(d2:Fd xs ys F2)(p1:F <+: F1)(p2:F1 <+: F2)(c1:∀x∈F,app xs x∈F1)(c2:∀x∈F1,app ys x∈F2){t:Nat}(h:Cl xs ys F\/t+1<=F.length):Cl xs ys F2\/t+1+1<=F2.length:=by
 have p:=p1.trans p2
 by_cases hc:Cl xs ys F
 ·refine .inl fun x hx=>?_
  have hF:=hc.all d.z (d2.mt x hx);exact ⟨p.subset (hc x hF).1,p.subset (hc x hF).2⟩
 ·have hl:=h.resolve_left hc
  by_cases he:F2.length<=F.length
  ·refine absurd ?_ hc
   have e2:F2=F:=(p.eq_of_length (by have:=p.length_le;omega)).symm;have e1:F1=F:=by
    have a:=p1.length_le;have b:=p2.length_le;exact (p1.eq_of_length (by omega)).symm
   intro x hx;refine ⟨?_,?_⟩
   ·have:=c1 x hx;rwa [e1] at this
   ·have:=c2 x (by rw [e1];exact hx);rwa [e2] at this
  ·exact .inr (by omega)
noncomputable def su(w n:Nat):List Int:=((List.range (w-1)).map fun (k:Nat)=>(1:Int)+k) ++ [0] ++ ((List.range (n-w)).map fun (k:Nat)=>(w:Int)+k)
noncomputable def ux(w n:Nat):List Int:=[(w:Int)] ++ ((List.range (w-1)).map fun (k:Nat)=>(1:Int)+k) ++ ((List.range (n-(w+1))).map fun (k:Nat)=>((w:Int)+1)+k) ++ [0]
theorem QN:∀n,n<21->∀w,w<n+1->0<w->(su w n).isPerm (upto n)=true:=by decide +kernel
theorem QO:∀n,n<21->∀w,w<n->0<w->(ux w n).isPerm (upto n)=true:=by decide +kernel
theorem QP{w n:Nat}(h:n<21)(h1:w<=n)(h0:0<w):Tn n (su w n):=List.isPerm_iff.mp (QN n h w (by omega) h0)
theorem QQ{w n:Nat}(h:n<21)(h1:w<n)(h0:0<w):Tn n (ux w n):=List.isPerm_iff.mp (QO n h w h1 h0)
theorem less{L L':List Int}{m:Int}(nd:L'.Nodup)(hs:∀x∈L',x∈L)(hm:m∈L)(hm':m ∉ L'):L'.length<L.length:=by
 have hp:=Yc hm;have hlen:(L.erase m).length+1=L.length:=by have:=hp.length_eq;simpa using this.symm
 have:=Ae (ys:=L.erase m) nd fun x hx=>(Xz (fun e=>hm' (by rw [<- e];exact hx))).mpr (hs x hx);omega
end ag
namespace ag
noncomputable def bB(xs ys:List Int):List Int:=xs.map (app ys)
theorem B9(xs ys:List Int):(bB xs ys).length=xs.length:=by simp [bB]
theorem qm{n:Nat}{xs ys:List Int}(hx:xs.length=n)(hy:ys.length=n)(h:∀s:Int,0<=s->s<(n:Int)->app xs s=app ys s):xs=ys:=by
 rw [<- B5 hx,<- B5 hy];apply W4;intro s hs;obtain ⟨h0,h1⟩:=lV.mp hs;exact h s h0 h1
theorem oN{xs ys:List Int}{s:Int}(h0:0<=s)(h1:s<(xs.length:Int)):app (bB xs ys) s=app ys (app xs s):=by
 have e:=o5 (xs:=bB xs ys) h0 (by rw [B9];exact h1);unfold bB at e;rw [Wx,o5 h0 h1] at e;exact (WD e).symm
theorem Tn.sv{n:Nat}{xs:List Int}(hl:xs.length=n)(hb:∀s:Int,0<=s->s<(n:Int)->0<=ag.app xs s/\ag.app xs s<(n:Int))(hi:∀s t:Int,0<=s->s<(n:Int)->0<=t->t<(n:Int)->ag.app xs s=ag.app xs t->s=t):Tn n xs:=by
 have el:∀(i:Nat) (h:i<xs.length),xs[i]=ag.app xs (i:Int):=fun i h=>by
  have a:=o5 (xs:=xs) (i:=(i:Int)) (by omega) (by omega);rw [WC,Wr h] at a;exact WD a
 have:=Iv (xs:=xs) ?_ ?_
 ·unfold Tn;rw [hl] at this;exact this
 ·unfold List.Nodup
  rw [Xm];intro i j h1 h2 hij z;rw [el i h1,el j h2] at z;have:=hi i j (by omega) (by omega) (by omega) (by omega) z;omega
 ·intro x hx
  obtain ⟨i,h,rfl⟩:=XC hx;rw [el i h,hl];exact hb i (by omega) (by omega)
theorem Tn.bB{n:Nat}{xs ys:List Int}(hx:Tn n xs)(hy:Tn n ys):Tn n (bB xs ys):=by
 have hl:=hx.length;refine Tn.sv (by rw [B9];exact hl) (fun s h0 h1=>?_) fun s t s0 s1 t0 t1 e=>?_
 ·rw [oN h0 (by omega)]
  obtain ⟨a,b⟩:=hx.app h0 h1;exact hy.app a b
 ·rw [oN s0 (by omega),oN t0 (by omega)] at e
  obtain ⟨a,b⟩:=hx.app s0 s1;obtain ⟨c,d⟩:=hx.app t0 t1;exact hx.inj s0 s1 t0 t1 (hy.inj a b c d e)
theorem Tn.uy{n:Nat}{xs ys:List Int}(hx:Tn n xs)(hy:Tn n ys){s:Int}(h0:0<=s)(h1:s<(n:Int)):ag.app (inv (ag.bB xs ys)) s=ag.app (inv xs) (ag.app (inv ys) s):=by
 have hf:=hx.bB hy;obtain ⟨a0,a1⟩:=hy.mE h0 h1;obtain ⟨b0,b1⟩:=hx.mE a0 a1;obtain ⟨c0,c1⟩:=hf.mE h0 h1;refine hf.inj c0 c1 b0 b1 ?_;rw [hf.dj h0 h1,oN b0 (by rw [hx.length];exact b1),hx.dj a0 a1,hy.dj h0 h1]
noncomputable def anew(xs p:List Int):List Int:=bB (bB (inv p) xs) p
theorem Tn.anew{n:Nat}{xs p:List Int}(hx:Tn n xs)(hp:Tn n p):Tn n (anew xs p):=(hp.aG.bB hx).bB hp
theorem Tn.iW{n:Nat}{xs p:List Int}(hx:Tn n xs)(hp:Tn n p){s:Int}(h0:0<=s)(h1:s<(n:Int)):ag.app (ag.anew xs p) s=ag.app p (ag.app xs (ag.app (inv p) s)):=by
 have hl:=hp.aG.length;unfold ag.anew;rw [oN h0 (by rw [B9,hl];exact h1),oN h0 (by rw [hl];exact h1)]
theorem Tn.lI{n:Nat}{xs p:List Int}(hx:Tn n xs)(hp:Tn n p){s:Int}(h0:0<=s)(h1:s<(n:Int)):ag.app (ag.anew xs p) (ag.app p s)=ag.app p (ag.app xs s):=by
 obtain ⟨a,b⟩:=hp.app h0 h1;rw [hx.iW hp a b,hp.gB h0 h1]
theorem Tn.lW{n:Nat}{xs p q:List Int}(hx:Tn n xs)(hp:Tn n p)(hq:Tn n q):ag.anew (ag.anew xs p) q=ag.anew xs (ag.bB p q):=by
 have hf:=hp.bB hq;refine qm (n:=n) ((hx.anew hp).anew hq).length (hx.anew hf).length fun s h0 h1=>?_;obtain ⟨a0,a1⟩:=hq.mE h0 h1;obtain ⟨b0,b1⟩:=hp.mE a0 a1;obtain ⟨c0,c1⟩:=hx.app b0 b1;rw [(hx.anew hp).iW hq h0 h1,hx.iW hp a0 a1,hx.iW hf h0 h1,hp.uy hq h0 h1,oN c0 (by rw [hp.length];exact c1)]
theorem Tn.lX{n:Nat}{xs p:List Int}(hx:Tn n xs)(hp:Tn n p):ag.anew (ag.anew xs p) (inv p)=xs:=by
 refine qm (n:=n) ((hx.anew hp).anew hp.aG).length hx.length fun s h0 h1=>?_;obtain ⟨a0,a1⟩:=hp.aG.mE h0 h1;have e:ag.app (inv (inv p)) s=ag.app p s:=by
  obtain ⟨b0,b1⟩:=hp.app h0 h1;refine hp.aG.inj a0 a1 b0 b1 ?_;rw [hp.aG.dj h0 h1,hp.gB h0 h1]
 obtain ⟨b0,b1⟩:=hp.app h0 h1;obtain ⟨c0,c1⟩:=hx.app h0 h1;rw [(hx.anew hp).iW hp.aG h0 h1,e,hx.lI hp h0 h1,hp.gB c0 c1]
end ag
namespace ag
noncomputable def c9(F:List Int)(x:Int):List Int:=if x∈F then F else F ++ [x]
theorem vD(F:List Int)(x:Int):F <+: c9 F x:=by
 unfold c9;split
 ·exact Yd _
 ·exact List.prefix_append _ _
theorem qo{F:List Int}{x y:Int}:y∈c9 F x↔y∈F\/y=x:=by
 unfold c9;split
 ·next h=>exact ⟨.inl,fun z=>z.elim id fun e=>e ▸ h⟩
 ·rw [WS,WK]
theorem Mb{F:List Int}{x:Int}(h:F.Nodup):(c9 F x).Nodup:=by
 unfold c9;split
 ·exact h
 ·next hx =>
  rw [List.nodup_append];exact ⟨h,by simp,fun a ha b hb e=>hx (by rw [WK] at hb;rw [<- hb,<- e];exact ha)⟩
noncomputable def visit(xs ys F:List Int)(x:Int):List Int:=c9 (c9 F (app xs x)) (app ys x)
noncomputable def bf(xs ys:List Int)(s:Int):Nat->List Int
 |0=>[s]
 |k+1=>match (bf xs ys s k)[k]? with
  |some x=>visit xs ys (bf xs ys s k) x
  |none=>bf xs ys s k
theorem QR(xs ys:List Int)(s:Int)(k:Nat):bf xs ys s k <+: bf xs ys s (k+1):=by
 show _ <+: (match (bf xs ys s k)[k]? with|some x=>visit xs ys (bf xs ys s k) x|none=>bf xs ys s k);split
 ·exact (vD _ _).trans (vD _ _)
 ·exact Yd _
theorem xH(xs ys:List Int)(s:Int)(k:Nat):∀d,bf xs ys s k <+: bf xs ys s (k+d)
 |0=>Yd _
 |d+1=>(xH xs ys s k d).trans (QR xs ys s (k+d))
theorem xI(xs ys:List Int)(s:Int):∀k,(bf xs ys s k).Nodup
 |0=>by show [s].Nodup;simp
 |k+1=>by
  show (match (bf xs ys s k)[k]? with|some x=>visit xs ys (bf xs ys s k) x|none=>bf xs ys s k).Nodup;split
  ·exact Mb (Mb (xI xs ys s k))
  ·exact xI xs ys s k
theorem Fe{xs ys:List Int}{s:Int}{k:Nat}(h:(bf xs ys s k).length<=k):∀d,bf xs ys s (k+d)=bf xs ys s k
 |0=>rfl
 |d+1=>by
  have e:=Fe h d;show (match (bf xs ys s (k+d))[k+d]? with|some x=>visit xs ys (bf xs ys s (k+d)) x|none=>bf xs ys s (k+d))=_;rw [e,List.getElem?_eq_none (by omega)]
section
variable {n:Nat}{xs ys:List Int}{s:Int}
theorem qQ(hx:Tn n xs)(hy:Tn n ys)(s0:0<=s)(s1:s<(n:Int)):∀k,∀x∈bf xs ys s k,0<=x/\x<(n:Int)
 |0,x,h=>by rw [WK.mp (show x∈[s] from h)];exact ⟨s0,s1⟩
 |k+1,x,h=>by
  have ih:=qQ hx hy s0 s1 k;have h':x∈(match (bf xs ys s k)[k]? with|some y=>visit xs ys (bf xs ys s k) y|none=>bf xs ys s k):=h;split at h'
  ·next y hy' =>
   obtain ⟨y0,y1⟩:=ih y (Ww hy');rcases qo.mp h' with h'|rfl
   ·rcases qo.mp h' with h'|rfl
    ·exact ih x h'
    ·exact hx.app y0 y1
   ·exact hy.app y0 y1
  ·exact ih x h'
theorem Ca(hx:Tn n xs)(hy:Tn n ys)(s0:0<=s)(s1:s<(n:Int))(k:Nat):(bf xs ys s k).length<=n:=by
 have:=Ae (xI xs ys s k) (ys:=upto n) fun x h=>lV.mpr (qQ hx hy s0 s1 k x h);rw [o4] at this;exact this
theorem Cb{k i:Nat}(hik:i<=k){x:Int}(h:(bf xs ys s k)[i]?=some x):(bf xs ys s i)[i]?=some x:=by
 obtain ⟨d,rfl⟩:∃d,k=i+d:=⟨k-i,by omega⟩
 by_cases hl:(bf xs ys s i).length<=i
 ·rw [Fe hl d] at h
  exact h
 ·obtain ⟨t,e⟩:=xH xs ys s i d
  rw [<- e,WG (by omega)] at h;exact h
theorem Iy(hx:Tn n xs)(hy:Tn n ys)(s0:0<=s)(s1:s<(n:Int)):Cl xs ys (bf xs ys s n):=by
 intro x hm;obtain ⟨i,hi,e⟩:=XC hm;have hl:=Ca hx hy s0 s1 n;have hi':(bf xs ys s i)[i]?=some x:=Cb (k:=n) (by omega) (by rw [Wr hi,e]);have hs:visit xs ys (bf xs ys s i) x <+: bf xs ys s n:=by
  have:=xH xs ys s (i+1) (n-(i+1));rw [show i+1+(n-(i+1))=n by omega] at this;have e2:bf xs ys s (i+1)=visit xs ys (bf xs ys s i) x:=by
   show (match (bf xs ys s i)[i]? with|some x=>visit xs ys (bf xs ys s i) x|none=>bf xs ys s i)=_;rw [hi']
  rw [<- e2];exact this
 refine ⟨hs.subset ?_,hs.subset ?_⟩
 ·exact qo.mpr (.inl (qo.mpr (.inr rfl)))
 ·exact qo.mpr (.inr rfl)
theorem Cc{zs F:List Int}(hz:Tn n zs)(nd:F.Nodup)(hb:∀x∈F,0<=x/\x<(n:Int))(hc:∀x∈F,app zs x∈F){y:Int}(y0:0<=y)(y1:y<(n:Int))(h:app zs y∈F):y∈F:=by
 have QS:(F.map (app zs)).Nodup:=by
  unfold List.Nodup;rw [List.pairwise_map];refine List.Pairwise.imp_of_mem (fun {a b} ha hb' hab e=>?_) nd;obtain ⟨a0,a1⟩:=hb a ha;obtain ⟨b0,b1⟩:=hb b hb';exact hab (hz.inj a0 a1 b0 b1 e)
 have pm:(F.map (app zs)).Perm F:=E9 QS (fun x hx=>by obtain ⟨z,hz',rfl⟩:=WB.mp hx;exact hc z hz') (by simp);obtain ⟨z,Ag,e⟩:=WB.mp (pm.symm.subset h);obtain ⟨z0,z1⟩:=hb z Ag;rw [<- hz.inj z0 z1 y0 y1 e];exact Ag
theorem Mc(hx:Tn n xs)(hy:Tn n ys)(s0:0<=s)(s1:s<(n:Int))(all:∀x:Int,0<=x->x<(n:Int)->jO xs ys x){x:Int}(x0:0<=x)(x1:x<(n:Int)):x∈bf xs ys s n:=by
 have cl:=Iy hx hy s0 s1;have nd:=xI xs ys s n;have bd:=qQ hx hy s0 s1 n;have hs:s∈bf xs ys s n:=by
  have:=xH xs ys s 0 n;rw [Ya] at this;exact this.subset (show s∈[s] by simp)
 have hpos:0<n:=by omega
 have zero:∀y,jO xs ys y->y∈bf xs ys s n->(0:Int)∈bf xs ys s n:=by
  intro y hr
  induction hr with
  |zero=>exact id
  |r h ih =>
   intro hm;obtain ⟨a,b⟩:=h.bound hx hy hpos;exact ih (Cc hx nd bd (fun x hx'=>(cl x hx').1) a b hm)
  |u h ih =>
   intro hm;obtain ⟨a,b⟩:=h.bound hx hy hpos;exact ih (Cc hy nd bd (fun x hx'=>(cl x hx').2) a b hm)
 exact cl.all (zero s (all s s0 s1) hs) (all x x0 x1)
theorem Ff(hx:Tn n xs)(hy:Tn n ys)(s0:0<=s)(s1:s<(n:Int))(all:∀x:Int,0<=x->x<(n:Int)->jO xs ys x):Tn n (bf xs ys s n) :=
 E9 (xI xs ys s n) (fun x h=>lV.mpr (qQ hx hy s0 s1 n x h)) (by
  have:=Ae (L3 n) (ys:=bf xs ys s n) fun x h=>by obtain ⟨a,b⟩:=lV.mp h;exact Mc hx hy s0 s1 all a b
  exact this)
theorem Md{p F:List Int}(hp:Tn n p)(hb:∀x∈F,0<=x/\x<(n:Int)){x:Int}(x0:0<=x)(x1:x<(n:Int)):c9 (F.map (app p)) (app p x)=(c9 F x).map (app p):=by
 unfold c9
 have e:app p x∈F.map (app p)↔x∈F:=⟨fun h=>by
  obtain ⟨y,hy,e⟩:=WB.mp h;obtain ⟨y0,y1⟩:=hb y hy
  rw [<- hp.inj y0 y1 x0 x1 e];exact hy,fun h=>WB.mpr ⟨x,h,rfl⟩⟩
 by_cases h:x∈F
 ·rw [if_pos h,if_pos (e.mpr h)]
 ·rw [if_neg h,if_neg fun z=>h (e.mp z),WL];rfl
theorem Iz{p:List Int}(hx:Tn n xs)(hy:Tn n ys)(hp:Tn n p)(s0:0<=s)(s1:s<(n:Int)):∀k,bf (anew xs p) (anew ys p) (app p s) k=(bf xs ys s k).map (app p)
 |0=>rfl
 |k+1=>by
  have ih:=Iz hx hy hp s0 s1 k;show (match (bf (anew xs p) (anew ys p) (app p s) k)[k]? with|some x=>visit (anew xs p) (anew ys p) (bf (anew xs p) (anew ys p) (app p s) k) x|none=>bf (anew xs p) (anew ys p) (app p s) k)=(match (bf xs ys s k)[k]? with|some x=>visit xs ys (bf xs ys s k) x|none=>bf xs ys s k).map (app p);rw [ih,Wx];cases h:(bf xs ys s k)[k]? with
  |none=>rfl
  |some x =>
   obtain ⟨x0,x1⟩:=qQ hx hy s0 s1 k x (Ww h);obtain ⟨a0,a1⟩:=hx.app x0 x1;obtain ⟨b0,b1⟩:=hy.app x0 x1;show visit (anew xs p) (anew ys p) ((bf xs ys s k).map (app p)) (app p x)=(visit xs ys (bf xs ys s k) x).map (app p);unfold visit;rw [hx.lI hp x0 x1,hy.lI hp x0 x1,Md hp (qQ hx hy s0 s1 k) a0 a1,Md hp (fun z hz=>?_) b0 b1];rcases qo.mp hz with hz|rfl
   ·exact qQ hx hy s0 s1 k z hz
   ·exact ⟨a0,a1⟩
end
noncomputable def num(zs sq:List Int):List Int:=sq.map fun o=>(sq.idxOf (app zs o):Int)
theorem Tn.inv_inv{n:Nat}{p:List Int}(hp:Tn n p):inv (inv p)=p:=by
 refine qm (n:=n) hp.aG.aG.length hp.length fun s h0 h1=>?_;obtain ⟨a0,a1⟩:=hp.aG.mE h0 h1;obtain ⟨b0,b1⟩:=hp.app h0 h1;refine hp.aG.inj a0 a1 b0 b1 ?_;rw [hp.aG.dj h0 h1,hp.gB h0 h1]
theorem vE{n:Nat}{zs sq:List Int}(hz:Tn n zs)(hs:Tn n sq):anew zs (inv sq)=num zs sq:=by
 unfold anew num bB;rw [hs.inv_inv,WQ];apply W4;intro o ho;obtain ⟨o0,o1⟩:=hs.bound ho;obtain ⟨a0,a1⟩:=hz.app o0 o1;exact Fc a0 (by rw [hs.length];exact a1)
theorem Me{n:Nat}{p:List Int}(hp:Tn n p):∀{sq:List Int},(∀x∈sq,0<=x/\x<(n:Int))->∀{y:Int},0<=y->y<(n:Int)->(sq.map (app p)).idxOf (app p y)=sq.idxOf y
 |[],_,_,_,_=>rfl
 |a :: r,hb,y,y0,y1=>by
  obtain ⟨a0,a1⟩:=hb a Wy;rw [WM,List.idxOf_cons,List.idxOf_cons,Me hp (fun x hx=>hb x (WE _ hx)) y0 y1]
  by_cases e:a=y
  ·rw [e];simp
  ·have e2:app p a≠app p y:=fun z=>e (hp.inj a0 a1 y0 y1 z)
   rw [show (a == y)=false by simpa using e,show (app p a == app p y)=false by simpa using e2]
theorem Mf{n:Nat}{zs sq p:List Int}(hz:Tn n zs)(hp:Tn n p)(hb:∀x∈sq,0<=x/\x<(n:Int)):num (anew zs p) (sq.map (app p))=num zs sq:=by
 unfold num;rw [WQ];apply W4;intro o ho;obtain ⟨o0,o1⟩:=hb o ho;obtain ⟨a0,a1⟩:=hz.app o0 o1;show ((sq.map (app p)).idxOf (app (anew zs p) (app p o)):Int)=_;rw [hz.lI hp o0 o1,Me hp hb a0 a1]
end ag
namespace ag
noncomputable def pw(xs:List Int)(k i:Int):Int:=if 0<=k then bW xs i k.toNat else bW (inv xs) i (-k).toNat
section
variable {n:Nat}{xs:List Int}{i:Int}
theorem Tn.om(h:Tn n xs)(i0:0<=i)(i1:i<(n:Int)):∀(k m:Nat),ag.bW (inv xs) (ag.bW xs i m) k=if k<=m then ag.bW xs i (m-k) else ag.bW (inv xs) i (k-m)
 |0,m=>by rw [if_pos (W9 _),Nat.sub_zero];rfl
 |k+1,m=>by
  show ag.app (inv xs) (ag.bW (inv xs) (ag.bW xs i m) k)=_;rw [h.om i0 i1 k m]
  by_cases hk:k<=m
  ·rw [if_pos hk]
   by_cases hk1:k+1<=m
   ·rw [if_pos hk1]
    obtain ⟨d,hd⟩:∃d,m-k=d+1:=⟨m-k-1,by omega⟩;rw [hd,show m-(k+1)=d by omega];obtain ⟨a,b⟩:=h.bW i0 i1 d;exact h.gB a b
   ·rw [if_neg hk1,show m-k=0 by omega,show k+1-m=1 by omega]
    rfl
  ·rw [if_neg hk,if_neg (by omega),show k+1-m=(k-m)+1 by omega]
   rfl
theorem Tn.sx(h:Tn n xs)(i0:0<=i)(i1:i<(n:Int))(k m:Nat):ag.bW xs (ag.bW (inv xs) i m) k=if k<=m then ag.bW (inv xs) i (m-k) else ag.bW xs i (k-m):=by
 have:=h.aG.om i0 i1 k m;rw [h.inv_inv] at this;exact this
theorem Tn.pw(h:Tn n xs)(i0:0<=i)(i1:i<(n:Int))(k:Int):0<=ag.pw xs k i/\ag.pw xs k i<(n:Int):=by
 unfold ag.pw;split
 ·exact h.bW i0 i1 _
 ·exact h.aG.bW i0 i1 _
theorem Tn.pw_add(h:Tn n xs)(i0:0<=i)(i1:i<(n:Int))(a b:Int):ag.pw xs a (ag.pw xs b i)=ag.pw xs (a+b) i:=by
 by_cases ha:0<=a<;>by_cases hb:0<=b
 ·unfold ag.pw
  rw [if_pos ha,if_pos hb,if_pos (by omega),tK]
  congr 1
  omega
 ·have e1:ag.pw xs b i=ag.bW (inv xs) i (-b).toNat:=by unfold ag.pw;rw [if_neg hb]
  have e2:∀j,ag.pw xs a j=ag.bW xs j a.toNat:=fun j=>by unfold ag.pw;rw [if_pos ha]
  rw [e1,e2,h.sx i0 i1];unfold ag.pw;split
  ·split
   ·rw [show (-b).toNat-a.toNat=0 by omega,show (a+b).toNat=0 by omega];rfl
   ·congr 1;omega
  ·rw [if_pos (by omega)];congr 1;omega
 ·have e1:ag.pw xs b i=ag.bW xs i b.toNat:=by unfold ag.pw;rw [if_pos hb]
  have e2:∀j,ag.pw xs a j=ag.bW (inv xs) j (-a).toNat:=fun j=>by unfold ag.pw;rw [if_neg ha]
  rw [e1,e2,h.om i0 i1];unfold ag.pw;split
  ·rw [if_pos (by omega)];congr 1;omega
  ·rw [if_neg (by omega)];congr 1;omega
 ·unfold ag.pw
  rw [if_neg ha,if_neg hb,if_neg (by omega),tK]
  congr 1
  omega
theorem Tn.pw_per(h:Tn n xs)(i0:0<=i)(i1:i<(n:Int)){L:Nat}(hL:ag.bW xs i L=i)(q:Int):ag.pw xs ((L:Int)*q) i=i:=by
 have pos:∀m:Nat,ag.pw xs ((L:Int)*(m:Int)) i=i:=fun m=>by
  unfold ag.pw;rw [if_pos (Int.mul_nonneg (by omega) (by omega)),show ((L:Int)*(m:Int)).toNat=0+L*m by rw [<- Int.natCast_mul,WC];omega,B8 hL];rfl
 by_cases hq:0<=q
 ·obtain ⟨m,rfl⟩:∃m:Nat,q=(m:Int):=⟨q.toNat,by omega⟩
  exact pos m
 ·obtain ⟨m,rfl⟩:∃m:Nat,q=-(m:Int):=⟨(-q).toNat,by omega⟩
  have:=h.pw_add i0 i1 ((L:Int) * -(m:Int)) ((L:Int)*(m:Int));rw [pos m] at this;rw [this,Int.mul_neg,Int.add_left_neg];rfl
theorem Tn.xJ(h:Tn n xs)(i0:0<=i)(i1:i<(n:Int)){k v:Int}(o:L9 xs k i v):v=ag.pw xs k i:=by
 obtain ⟨m,_,bk,rfl⟩:=o;have m0:=Xr k (show ((m+1:Nat):Int)≠0 by omega);have e:ag.bW xs i (k % ((m+1:Nat):Int)).toNat=ag.pw xs (k % ((m+1:Nat):Int)) i:=by unfold ag.pw;rw [if_pos m0]
 rw [e];have e2:=h.pw_add i0 i1 (k % ((m+1:Nat):Int)) (((m+1:Nat):Int)*(k / ((m+1:Nat):Int)));rw [h.pw_per i0 i1 bk,Int.emod_add_mul_ediv] at e2;exact e2
end
noncomputable def cZ(xs:List Int)(k:Int):List Int:=(upto xs.length).map (pw xs k)
theorem Cd(xs:List Int)(k:Int):(cZ xs k).length=xs.length:=by simp [cZ,o4]
theorem pN{xs:List Int}{k s:Int}(s0:0<=s)(s1:s<(xs.length:Int)):app (cZ xs k) s=pw xs k s:=by
 have e:=o5 (xs:=cZ xs k) s0 (by rw [Cd];exact s1);unfold cZ at e;rw [Wx,B7 (by omega)] at e;have:=WD e;rw [WV s0] at this;exact this.symm
theorem Tn.cZ{n:Nat}{xs:List Int}(h:Tn n xs)(k:Int):Tn n (cZ xs k):=by
 have hl:=h.length;refine Tn.sv (by rw [Cd];exact hl) (fun s s0 s1=>by rw [pN s0 (by omega)];exact h.pw s0 s1 k) fun s t s0 s1 t0 t1 e=>?_;rw [pN s0 (by omega),pN t0 (by omega)] at e;have e2:=congrArg (ag.pw xs (-k)) e;rw [h.pw_add s0 s1,h.pw_add t0 t1,Int.add_left_neg] at e2;exact e2
noncomputable def shr(xs ys:List Int)(k:Int):List Int:=bB (cZ xs (-k)) ys
theorem Tn.shr{n:Nat}{xs ys:List Int}(hx:Tn n xs)(hy:Tn n ys)(k:Int):Tn n (shr xs ys k):=(hx.cZ (-k)).bB hy
theorem Tn.mL{n:Nat}{xs ys:List Int}(hx:Tn n xs){k s:Int}(s0:0<=s)(s1:s<(n:Int)):ag.app (ag.shr xs ys k) s=ag.app ys (ag.pw xs (-k) s):=by
 have hl:=hx.length;unfold ag.shr;rw [oN s0 (by rw [Cd,hl];exact s1),pN s0 (by rw [hl];exact s1)]
theorem Tn.uz{n:Nat}{xs ys:List Int}(hx:Tn n xs)(hy:Tn n ys)(a b:Int):ag.shr xs (ag.shr xs ys a) b=ag.shr xs ys (a+b):=by
 refine qm (n:=n) (hx.shr (hx.shr hy a) b).length (hx.shr hy (a+b)).length fun s s0 s1=>?_;obtain ⟨p0,p1⟩:=hx.pw s0 s1 (-b);rw [hx.mL s0 s1,hx.mL p0 p1,hx.mL s0 s1,hx.pw_add s0 s1,show -a + -b=-(a+b) by omega]
theorem Tn.sy{n:Nat}{xs ys:List Int}(hx:Tn n xs)(hy:Tn n ys):ag.shr xs ys 0=ys:=by
 refine qm (n:=n) (hx.shr hy 0).length hy.length fun s s0 s1=>?_;rw [hx.mL s0 s1];rfl
end ag
namespace ag
noncomputable def tb(l:Int->Nat)(p:Int->Int)(a b:Int):Bool:=if l a=l b\/l (p a)=l (p b) then false else (decide (l a<l b)).xor (decide (l (p a)<l (p b)))
end ag
namespace ag
end ag
namespace ag
abbrev Sp:=Bool×Int
noncomputable def gX(s:Sp):Prop:=(s.1=false->1<=s.2/\s.2<=3)/\s.2≠0
noncomputable def iX(a b:Sp):Int:=if a.1 then a.2+b.2 else (a.2+b.2) % 4
noncomputable def cX(a b:Sp):List Sp:=if iX a b=0 then [] else [(a.1,iX a b)]
noncomputable def cw:List Sp->Sp->List Sp
 |[],s=>[s]
 |t :: r,s=>if t.1=s.1 then cX t s ++ r else s :: t :: r
theorem tL(t:Sp)(r:List Sp)(s:Sp):cw (t :: r) s=if t.1=s.1 then cX t s ++ r else s :: t :: r:=rfl
noncomputable def km(w:List Sp):List Sp:=w.foldl cw []
noncomputable def m9(s:Sp):Sp:=(s.1,if s.1 then -s.2 else 4-s.2)
noncomputable def mr(w:List Sp):List Sp:=(w.map m9).reverse
noncomputable def Pl:List Sp->Prop
 |[]=>True
 |a :: r=>gX a/\(∀b,r.head?=some b->a.1≠b.1)/\Pl r
theorem Pl.pr:∀{l:List Sp},Pl l->∀s∈l,gX s
 |a :: r,h,s,hs=>by
  rcases WT.mp hs with rfl|hs
  ·exact h.1
  ·exact Pl.pr h.2.2 s hs
theorem Mg{a b:Sp}(ha:gX a)(e:a.1=b.1):(iX a b=0/\cX a b=[])\/(gX (a.1,iX a b)/\cX a b=[(a.1,iX a b)]):=by
 unfold cX
 by_cases h:iX a b=0
 ·exact .inl ⟨h,by rw [if_pos h]⟩
 ·refine .inr ⟨⟨fun hf=>?_,h⟩,by rw [if_neg h]⟩
  simp only at hf;unfold iX at h ⊢;simp only [hf,WR,if_false] at h ⊢;omega
theorem Pl.push{l:List Sp}{s:Sp}(h:Pl l)(hs:gX s):Pl (cw l s):=by
 cases l with
 |nil=>exact ⟨hs,fun b h=>(nomatch h),trivial⟩
 |cons t r =>
  rw [tL];split
  ·next e =>
   rcases Mg h.1 e with ⟨_,ej⟩|⟨hp,ej⟩
   ·rw [ej];exact h.2.2
   ·rw [ej];exact ⟨hp,h.2.1,h.2.2⟩
  ·next e =>
   refine ⟨hs,fun b hb=>?_,h⟩;cases hb;exact fun e'=>e e'.symm
theorem Pl.fold{w:List Sp}:∀{l:List Sp},Pl l->(∀s∈w,gX s)->Pl (w.foldl cw l):=by
 induction w with
 |nil=>exact fun h _=>h
 |cons s w ih=>exact fun h hw=>ih (h.push (hw s (Wy))) fun s' h'=>hw s' (WE _ h')
theorem xK{w:List Sp}(hw:∀s∈w,gX s):Pl (km w):=Pl.fold (l:=[]) trivial hw
theorem IA{l:List Sp}{s:Sp}(h:∀b,l.head?=some b->s.1≠b.1):cw l s=s :: l:=by
 cases l with
 |nil=>rfl
 |cons t r=>rw [tL,if_neg fun e=>h t rfl e.symm]
theorem Pl.nS:∀{l:List Sp},Pl l->km l.reverse=l
 |[],_=>rfl
 |a :: r,h=>by
  unfold km;rw [X2,Xp];show cw (km r.reverse) a=_;rw [Pl.nS h.2.2,IA h.2.1]
theorem IB(u v:List Sp):km (u ++ v)=v.foldl cw (km u):=by unfold km;rw [Xp]
theorem Ce{s:Sp}(h:gX s):gX (m9 s):=by
 obtain ⟨b,k⟩:=s;cases b with
 |true=>exact ⟨nofun,fun e=>h.2 (by have:-k=0:=e;show k=0;omega)⟩
 |false =>
  obtain ⟨h1,h2⟩:=h.1 rfl;simp only at h1 h2;exact ⟨fun _=>by show 1<=4-k/\4-k<=3;omega,by show 4-k≠0;omega⟩
theorem QT{p:List Sp}{s:Sp}(hp:Pl p)(hs:gX s):cw (cw p s) (m9 s)=p:=by
 have e0:cX s (m9 s)=[]:=by
  unfold cX iX m9;cases hb:s.1<;>simp<;>omega
 cases p with
 |nil =>
  show (if s.1=(m9 s).1 then cX s (m9 s) ++ [] else _)=_;rw [if_pos (show s.1=(m9 s).1 from rfl),e0];rfl
 |cons t r =>
  by_cases e:t.1=s.1
  ·have e1:cw (t :: r) s=cX t s ++ r:=by rw [tL,if_pos e]
   rw [e1];obtain ⟨tb,tk⟩:=t;obtain ⟨sb,sk⟩:=s;simp only at e;subst e;have ht:=hp.1;rcases Mg (b:=(tb,sk)) hp.1 rfl with ⟨h0,ej⟩|⟨VP,ej⟩
   ·rw [ej,List.nil_append]
    have eb:m9 (tb,sk)=(tb,tk):=by
     unfold m9;unfold iX at h0;cases tb with
     |true=>simp only [if_true] at h0 ⊢;congr 1;omega
     |false =>
      have h1:=ht.1 rfl;have h2:=hs.1 rfl;simp only [WR,if_false] at h0 h1 h2 ⊢
      congr 1;omega
    rw [eb];exact IA hp.2.1
   ·rw [ej]
    show (if tb=(m9 (tb,sk)).1 then cX (tb,iX (tb,tk) (tb,sk)) (m9 (tb,sk)) ++ r else _)=_;rw [if_pos (show tb=(m9 (tb,sk)).1 from rfl)];have eb:iX (tb,iX (tb,tk) (tb,sk)) (m9 (tb,sk))=tk:=by
     unfold iX m9;cases tb with
     |true=>simp only [if_true];omega
     |false =>
      have h1:=ht.1 rfl;have h2:=hs.1 rfl;simp only [WR,if_false] at h1 h2 ⊢;omega
    unfold cX;rw [eb,if_neg ht.2];rfl
  ·have e1:cw (t :: r) s=s :: t :: r:=by rw [tL,if_neg e]
   rw [e1];show (if s.1=(m9 s).1 then cX s (m9 s) ++ (t :: r) else _)=_;rw [if_pos (show s.1=(m9 s).1 from rfl),e0];rfl
theorem QU{w:List Sp}:∀{p:List Sp},Pl p->(∀s∈w,gX s)->(w ++ mr w).foldl cw p=p:=by
 induction w with
 |nil=>exact fun _ _=>rfl
 |cons s w ih =>
  intro p hp hw;have e:(s :: w) ++ mr (s :: w)=s :: ((w ++ mr w) ++ [m9 s]):=by unfold mr;simp
  rw [e];show ((w ++ mr w) ++ [m9 s]).foldl cw (cw p s)=p;have hs:=hw s (Wy);rw [Xp,ih (hp.push hs) fun s' h'=>hw s' (WE _ h')];exact QT hp hs
theorem QV{w:List Sp}(hw:∀s∈w,gX s):km (w ++ mr w)=[]:=QU (p:=[]) trivial hw
theorem QW{l:List Sp}{s:Sp}{M B:Nat}(h:∀x∈l,x.2.natAbs<=M)(hs:s.2.natAbs<=B)(hp:gX s)(hl:Pl l):∀x∈cw l s,x.2.natAbs<=M+B:=by
 intro x hx;cases l with
 |nil=>rcases WK.mp hx with rfl;omega
 |cons t r =>
  rw [tL] at hx;have ht:=h t (Wy);split at hx
  ·next e0 =>
   rcases WS.mp hx with hx|hx
   ·unfold cX at hx
    split at hx
    ·exact (nomatch hx)
    ·rcases WK.mp hx with rfl
     show (iX t s).natAbs<=_;unfold iX;split
     ·omega
     ·next hb =>
      have:=hl.1.1 (by simpa using hb);have h2:=hp.1 (by rw [<- e0];simpa using hb);omega
   ·have:=h x (WE _ hx);omega
  ·rcases WT.mp hx with rfl|hx
   ·omega
   ·have:=h x hx;omega
theorem QX(l:List Sp)(s:Sp):(cw l s).length<=l.length+1:=by
 cases l with
 |nil=>exact Wv _
 |cons t r =>
  rw [tL];split
  ·unfold cX;split<;>simp<;>omega
  ·simp
theorem QY{w:List Sp}:∀{l:List Sp},(w.foldl cw l).length<=l.length+w.length:=by
 induction w with
 |nil=>exact Wv _
 |cons s w ih =>
  intro l;have:=ih (l:=cw l s);have h2:=QX l s;rw [WX];exact WZ this (by omega)
theorem IC(w:List Sp):(km w).length<=w.length:=by have:=QY (w:=w) (l:=[]);simpa [km] using this
structure T4 where (a b c d:Int)
noncomputable def T4.one:T4:=⟨1,0,0,1⟩
noncomputable def T4.qt:T4:=⟨0,-1,1,0⟩
noncomputable def T4.mul(x y:T4):T4:=⟨x.a*y.a+x.b*y.c,x.a*y.b+x.b*y.d,x.c*y.a+x.d*y.c,x.c*y.b+x.d*y.d⟩
noncomputable def T4.tM(x:T4):T4:=⟨x.d,-x.b,-x.c,x.a⟩
theorem T4.ext'{x y:T4}(h1:x.a=y.a)(h2:x.b=y.b)(h3:x.c=y.c)(h4:x.d=y.d):x=y:=by cases x;cases y;simp only at h1 h2 h3 h4;subst h1 h2 h3 h4;rfl
theorem T4.assoc(x y z:T4):(x.mul y).mul z=x.mul (y.mul z):=by
 apply T4.ext'<;>simp only [T4.mul,Int.add_mul,Int.mul_add,Int.mul_assoc]<;>omega
theorem T4.one_mul(x:T4):T4.one.mul x=x:=by apply T4.ext'<;>simp [T4.mul,T4.one]
theorem T4.mul_one(x:T4):x.mul T4.one=x:=by apply T4.ext'<;>simp [T4.mul,T4.one]
theorem T4.uA(x y:T4):(x.mul y).tM=y.tM.mul x.tM:=by
 apply T4.ext'<;>simp only [T4.mul,T4.tM,Int.neg_mul,Int.mul_neg,Int.neg_neg,Int.mul_comm]<;>omega
noncomputable def qp:Nat->T4
 |0=>T4.one
 |n+1=>T4.qt.mul (qp n)
noncomputable def nT(s:Sp):T4:=if s.1 then ⟨1,s.2,0,1⟩ else qp s.2.toNat
noncomputable def nG(T:T4)(w:List Sp):T4:=w.foldl (fun T s=>(nT s).mul T) T
noncomputable def cM(w:List Sp):T4:=nG T4.one w
theorem QZ(w:List Sp):∀T:T4,nG T w=(cM w).mul T:=by
 induction w with
 |nil=>exact fun T=>(T4.one_mul T).symm
 |cons s w ih =>
  intro T;show nG ((nT s).mul T) w=(nG ((nT s).mul T4.one) w).mul T;rw [ih,ih,T4.mul_one,T4.assoc]
theorem xM(u v:List Sp):cM (u ++ v)=(cM v).mul (cM u):=by
 show nG T4.one (u ++ v)=_;unfold nG;rw [Xp];exact QZ v _
theorem Cf(u:List Sp)(s:Sp):cM (u ++ [s])=(nT s).mul (cM u):=by
 show nG T4.one (u ++ [s])=_;unfold nG;rw [Xp];rfl
theorem t3{k:Int}(h:1<=k/\k<=3):k=1\/k=2\/k=3:=by omega
theorem Q0{t s:Sp}(ht:gX t)(hs:gX s)(e:t.1=s.1):cM (cX t s)=(nT s).mul (nT t):=by
 obtain ⟨tb,tk⟩:=t;obtain ⟨sb,sk⟩:=s;simp only at e;subst e;cases tb with
 |true =>
  have e2:(nT (true,sk)).mul (nT (true,tk))=⟨1,tk+sk,0,1⟩:=by apply T4.ext'<;>simp [T4.mul,nT]<;>omega
  rw [e2];unfold cX iX;simp only [if_true];split
  ·next h=>rw [h];rfl
  ·rw [show cM [(true,tk+sk)]=(nT (true,tk+sk)).mul T4.one from rfl,T4.mul_one];rfl
 |false =>
  have h1:=ht.1 rfl;have h2:=hs.1 rfl;simp only at h1 h2;rcases t3 h1 with rfl|rfl|rfl<;>rcases t3 h2 with rfl|rfl|rfl<;>rfl
theorem Q5{l:List Sp}{s:Sp}(hl:Pl l)(hs:gX s):cM (cw l s).reverse=(nT s).mul (cM l.reverse):=by
 cases l with
 |nil=>exact Cf [] s
 |cons t r =>
  rw [tL];split
  ·next e =>
   rw [List.reverse_append,xM,X2,Cf,<- T4.assoc]
   congr 1
   rw [<- Q0 hl.1 hs e];unfold cX;split<;>rfl
  ·rw [X2,Cf]
theorem Q6{w:List Sp}:∀{l:List Sp},Pl l->(∀s∈w,gX s)->cM (w.foldl cw l).reverse=nG (cM l.reverse) w:=by
 induction w with
 |nil=>exact fun _ _=>rfl
 |cons s w ih =>
  intro l hl hw;have hs:=hw s (Wy);show cM (w.foldl cw (cw l s)).reverse=nG ((nT s).mul (cM l.reverse)) w;rw [ih (hl.push hs) fun s' h'=>hw s' (WE _ h'),Q5 hl hs]
theorem Mh{w:List Sp}(hw:∀s∈w,gX s):cM (km w).reverse=cM w:=Q6 (l:=[]) trivial hw
theorem xN{s:Sp}(h:gX s):nT (m9 s)=(nT s).tM:=by
 obtain ⟨b,k⟩:=s;cases b with
 |true=>apply T4.ext'<;>simp [T4.tM,nT,m9]
 |false =>
  have h1:=h.1 rfl;simp only at h1;rcases t3 h1 with rfl|rfl|rfl<;>rfl
theorem Mi{w:List Sp}(hw:∀s∈w,gX s):cM (mr w)=(cM w).tM:=by
 induction w with
 |nil=>rfl
 |cons s w ih =>
  have e:mr (s :: w)=mr w ++ [m9 s]:=by unfold mr;simp
  have e2:cM (s :: w)=(cM w).mul (nT s):=by
   rw [show s :: w=[s] ++ w from rfl,xM]
   congr 1
   exact (Cf [] s).trans (T4.mul_one _)
  rw [e,Cf,ih fun s' h'=>hw s' (WE _ h'),xN (hw s (Wy)),e2,T4.uA]
end ag
namespace ag
noncomputable def pq:List Int->List Int->Bool
 |[],[]=>false
 |[],_ :: _=>true
 |_ :: _,[]=>false
 |x :: xs,y :: ys=>if x=y then pq xs ys else decide (x<y)
theorem Fg:∀xs:List Int,pq xs xs=false
 |[]=>rfl
 |x :: xs=>by unfold pq;rw [if_pos rfl];exact Fg xs
theorem IE:∀{xs ys zs:List Int},pq xs ys=true->pq ys zs=true->pq xs zs=true
 |[],[],_,h,_=>by cases h
 |[],_ :: _,[],_,h=>by cases h
 |[],_ :: _,_ :: _,_,_=>rfl
 |_ :: _,[],_,h,_=>by cases h
 |_ :: _,_ :: _,[],_,h=>by cases h
 |x :: xs,y :: ys,z :: zs,h1,h2=>by
  unfold pq at h1 h2 ⊢
  by_cases a:x=y
  ·rw [if_pos a] at h1
   by_cases b:y=z
   ·rw [if_pos b] at h2
    rw [if_pos (a.trans b)];exact IE h1 h2
   ·rw [if_neg b] at h2
    rw [if_neg (fun e=>b (a.symm.trans e))];rw [a];exact h2
  ·rw [if_neg a] at h1
   have h1:=of_decide_eq_true h1
   by_cases b:y=z
   ·rw [<- b,if_neg a];exact decide_eq_true h1
   ·rw [if_neg b] at h2
    have h2:=of_decide_eq_true h2;rw [if_neg (by omega)];exact decide_eq_true (by omega)
theorem IF:∀{xs ys:List Int},pq xs ys=false->pq ys xs=false->xs=ys
 |[],[],_,_=>rfl
 |[],_ :: _,h,_=>by cases h
 |_ :: _,[],_,h=>by cases h
 |x :: xs,y :: ys,h1,h2=>by
  unfold pq at h1 h2
  by_cases a:x=y
  ·subst a
   rw [if_pos rfl] at h1 h2;rw [IF h1 h2]
  ·rw [if_neg a] at h1
   rw [if_neg (Ne.symm a)] at h2;have h1:=of_decide_eq_false h1;have h2:=of_decide_eq_false h2;omega
abbrev aR:=List Int×List Int
noncomputable def nc(p q:aR):Bool:=if p.1=q.1 then pq p.2 q.2 else pq p.1 q.1
theorem Mj(p:aR):nc p p=false:=by unfold nc;rw [if_pos rfl];exact Fg _
theorem Q7{p q r:aR}(h1:nc p q=true)(h2:nc q r=true):nc p r=true:=by
 unfold nc at h1 h2 ⊢
 by_cases a:p.1=q.1
 ·rw [if_pos a] at h1
  by_cases b:q.1=r.1
  ·rw [if_pos b] at h2
   rw [if_pos (a.trans b)];exact IE h1 h2
  ·rw [if_neg b] at h2
   rw [if_neg (fun e=>b (a.symm.trans e)),a];exact h2
 ·rw [if_neg a] at h1
  by_cases b:q.1=r.1
  ·rw [<- b,if_neg a];exact h1
  ·rw [if_neg b] at h2
   have h:=IE h1 h2;rw [if_neg (fun e=>by rw [e,Fg] at h;cases h)];exact h
theorem Q8{p q:aR}(h1:nc p q=false)(h2:nc q p=false):p=q:=by
 unfold nc at h1 h2
 by_cases a:p.1=q.1
 ·rw [if_pos a] at h1
  rw [if_pos a.symm] at h2;exact Prod.ext a (IF h1 h2)
 ·rw [if_neg a] at h1
  rw [if_neg (Ne.symm a)] at h2;exact absurd (IF h1 h2) a
noncomputable def ng:List aR->aR
 |[]=>([],[])
 |p :: l=>l.foldl (fun b q=>if nc q b then q else b) p
noncomputable def Lst(l:List aR)(p:aR):Prop:=p∈l/\∀q∈l,nc q p=false
theorem Lst.unique{l m:List aR}{p q:aR}(a:Lst l p)(b:Lst m q)(h:∀x,x∈l↔x∈m):p=q:=Q8 (b.2 p ((h p).mp a.1)) (a.2 q ((h q).mpr b.1))
theorem Lst.step{l:List aR}{b q:aR}(h:Lst l b):Lst (l ++ [q]) (if nc q b then q else b):=by
 split
 ·next hq =>
  refine ⟨WY _ (List.mem_singleton_self _),fun x hx=>?_⟩;rcases WS.mp hx with hx|hx
  ·cases Q9:nc x q with
   |false=>rfl
   |true=>have:=Q7 Q9 hq;rw [h.2 x hx] at this;cases this
  ·rw [WK.mp hx];exact Mj q
 ·next hq =>
  refine ⟨Xw _ h.1,fun x hx=>?_⟩;rcases WS.mp hx with hx|hx
  ·exact h.2 x hx
  ·rw [WK.mp hx];simpa using hq
theorem Lst.fold:∀(l pre:List aR) (b:aR),Lst pre b->Lst (pre ++ l) (l.foldl (fun b q=>if nc q b then q else b) b)
 |[],pre,b,h=>by rw [Xy];exact h
 |q :: l,pre,b,h=>by
  have:=Lst.fold l (pre ++ [q]) _ (h.step (q:=q));rw [XI] at this;exact this
theorem IG{l:List aR}(h:l≠[]):Lst l (ng l):=by
 cases l with
 |nil=>exact absurd rfl h
 |cons p l=>exact Lst.fold l [p] p ⟨List.mem_singleton_self _,fun q hq=>by rw [WK.mp hq];exact Mj p⟩
theorem Ra{l m:List aR}(h:∀x,x∈l↔x∈m)(hl:l≠[]):ng l=ng m:=by
 have hm:m≠[]:=fun e=>by
  obtain ⟨x,hx⟩:=List.exists_mem_of_ne_nil l hl;have:=(h x).mp hx;rw [e] at this;cases this
 exact (IG hl).unique (IG hm) h
end ag
namespace ag
theorem vF(n:Nat):Tn n (upto n):=X9 _
theorem Fh{n:Nat}{s:Int}(s0:0<=s)(s1:s<(n:Int)):app (upto n) s=s:=by
 unfold app;rw [WI,B7 (by omega),Option.getD_some];omega
section
variable {n:Nat}{a b c g x y:List Int}
theorem qq(ha:Tn n a)(hb:Tn n b)(hc:Tn n c):bB (bB a b) c=bB a (bB b c):=by
 refine qm (n:=n) ((ha.bB hb).bB hc).length (ha.bB (hb.bB hc)).length fun s s0 s1=>?_;obtain ⟨p0,p1⟩:=ha.app s0 s1;rw [oN s0 (by rw [(ha.bB hb).length];exact s1),oN s0 (by rw [ha.length];exact s1),oN s0 (by rw [ha.length];exact s1),oN p0 (by rw [hb.length];exact p1)]
theorem Ci(ha:Tn n a):bB a (inv a)=upto n:=QH ha
theorem IH(ha:Tn n a):bB (inv a) a=upto n:=QI ha
theorem xO(ha:Tn n a):bB a (upto n)=a:=by
 refine qm (n:=n) (ha.bB (vF n)).length ha.length fun s s0 s1=>?_;obtain ⟨p0,p1⟩:=ha.app s0 s1;rw [oN s0 (by rw [ha.length];exact s1),Fh p0 p1]
theorem Fi(ha:Tn n a):bB (upto n) a=a:=by
 refine qm (n:=n) ((vF n).bB ha).length ha.length fun s s0 s1=>?_;rw [oN s0 (by rw [(vF n).length];exact s1),Fh s0 s1]
theorem Fj(ha:Tn n a)(hb:Tn n b)(h:bB a b=upto n):inv a=b:=by
 have e:bB (inv a) (bB a b)=b:=by rw [<- qq ha.aG ha hb,IH ha,Fi hb]
 rw [h,xO ha.aG] at e;exact e
theorem vG(ha:Tn n a)(hb:Tn n b):inv (bB a b)=bB (inv b) (inv a):=by
 refine Fj (ha.bB hb) (hb.aG.bB ha.aG) ?_;rw [qq ha hb (hb.aG.bB ha.aG),<- qq hb hb.aG ha.aG,Ci hb,Fi ha.aG,Ci ha]
theorem Mk(ha:Tn n a)(hb:Tn n b):bB (bB a b) (inv b)=a:=by rw [qq ha hb hb.aG,Ci hb,xO ha]
theorem II(ha:Tn n a)(hb:Tn n b):bB (bB a (inv b)) b=a:=by rw [qq ha hb.aG hb,IH hb,xO ha]
theorem Rb(ha:Tn n a)(hb:Tn n b):bB a (bB (inv a) b)=b:=by rw [<- qq ha ha.aG hb,Ci ha,Fi hb]
theorem Cj(hx:Tn n x)(i j:Int):bB (cZ x i) (cZ x j)=cZ x (i+j):=by
 refine qm (n:=n) ((hx.cZ i).bB (hx.cZ j)).length (hx.cZ (i+j)).length fun s s0 s1=>?_;obtain ⟨p0,p1⟩:=hx.pw s0 s1 i;have hl:=hx.length;rw [oN s0 (by rw [Cd,hl];exact s1),pN s0 (by rw [hl];exact s1),pN p0 (by rw [hl];exact p1),pN s0 (by rw [hl];exact s1),hx.pw_add s0 s1,Int.add_comm j i]
theorem IJ(hx:Tn n x):cZ x 0=upto n:=by
 refine qm (n:=n) (hx.cZ 0).length (vF n).length fun s s0 s1=>?_;rw [pN s0 (by rw [hx.length];exact s1),Fh s0 s1];rfl
theorem Ck(hx:Tn n x):cZ x 1=x:=by
 refine qm (n:=n) (hx.cZ 1).length hx.length fun s s0 s1=>?_;rw [pN s0 (by rw [hx.length];exact s1)];rfl
theorem IK(hx:Tn n x)(k:Int):inv (cZ x k)=cZ x (-k):=Fj (hx.cZ k) (hx.cZ (-k)) (by rw [Cj hx,Int.add_right_neg,IJ hx])
theorem IL(hx:Tn n x):cZ x (-1)=inv x:=by rw [<- IK hx,Ck hx]
theorem Ml(hx:Tn n x)(k:Int):cZ (inv x) k=cZ x (-k):=by
 refine qm (n:=n) (hx.aG.cZ k).length (hx.cZ (-k)).length fun s s0 s1=>?_;rw [pN s0 (by rw [hx.aG.length];exact s1),pN s0 (by rw [hx.length];exact s1)];unfold pw
 by_cases h:0<=k
 ·rw [if_pos h]
  by_cases h0:k=0
  ·subst h0;rfl
  ·rw [if_neg (by omega),show -(-k)=k by omega]
 ·rw [if_neg h,if_pos (by omega),hx.inv_inv]
theorem Mm(ha:Tn n a)(hb:Tn n b)(hg:Tn n g):bB (anew a g) (anew b g)=anew (bB a b) g:=by
 unfold anew;have hi:=hg.aG;rw [qq (hi.bB ha) hg ((hi.bB hb).bB hg),qq hi hb hg,Rb hg (hb.bB hg),qq hi ha (hb.bB hg),<- qq ha hb hg,<- qq hi (ha.bB hb) hg]
theorem Rc(hg:Tn n g):anew (upto n) g=upto n:=by unfold anew;rw [xO hg.aG,IH hg]
theorem Mp(ha:Tn n a)(hg:Tn n g):inv (anew a g)=anew (inv a) g:=Fj (ha.anew hg) (ha.aG.anew hg) (by rw [Mm ha ha.aG hg,Ci ha,Rc hg])
theorem IP(hx:Tn n x)(hg:Tn n g){i:Int}(i0:0<=i)(i1:i<(n:Int)):∀k,bW (anew x g) (app g i) k=app g (bW x i k)
 |0=>rfl
 |k+1=>by
  obtain ⟨p0,p1⟩:=hx.bW i0 i1 k;show app (anew x g) (bW (anew x g) (app g i) k)=app g (app x (bW x i k));rw [IP hx hg i0 i1 k,hx.lI hg p0 p1]
theorem Rf(hx:Tn n x)(hg:Tn n g){i:Int}(i0:0<=i)(i1:i<(n:Int))(k:Int):pw (anew x g) k (app g i)=app g (pw x k i):=by
 unfold pw;split
 ·exact IP hx hg i0 i1 _
 ·rw [Mp hx hg];exact IP hx.aG hg i0 i1 _
theorem Rg(hx:Tn n x)(hg:Tn n g)(k:Int):cZ (anew x g) k=anew (cZ x k) g:=by
 refine qm (n:=n) ((hx.anew hg).cZ k).length ((hx.cZ k).anew hg).length fun s s0 s1=>?_;obtain ⟨p0,p1⟩:=hg.mE s0 s1;rw [pN s0 (by rw [(hx.anew hg).length];exact s1),(hx.cZ k).iW hg s0 s1,pN p0 (by rw [hx.length];exact p1),<- Rf hx hg p0 p1,hg.dj s0 s1]
end
noncomputable def Vf(n:Nat)(p:aR):Prop:=Tn n p.1/\Tn n p.2
noncomputable def bO(n:Nat)(p q:aR):Prop:=∃g,Tn n g/\q=(anew p.1 g,anew p.2 g)
noncomputable def Sh(k:Int)(p:aR):aR:=(p.1,shr p.1 p.2 k)
noncomputable def Qt(p:aR):aR:=(inv p.2,p.1)
section
variable {n:Nat}{p q r:aR}
theorem Vf.sh(h:Vf n p)(k:Int):Vf n (Sh k p):=⟨h.1,h.1.shr h.2 k⟩
theorem Vf.qt(h:Vf n p):Vf n (Qt p):=⟨h.2.aG,h.1⟩
theorem bO.refl(h:Vf n p):bO n p p:=⟨upto n,vF n,by
 have e:∀a:List Int,Tn n a->anew a (upto n)=a:=fun a ha=>by
  unfold anew;rw [Fj (vF n) (vF n) (xO (vF n)),Fi ha,xO ha]
 rw [e _ h.1,e _ h.2]⟩
theorem bO.symm(h:Vf n p)(a:bO n p q):bO n q p:=by
 obtain ⟨g,hg,rfl⟩:=a;exact ⟨inv g,hg.aG,by show p=(anew (anew p.1 g) (inv g),anew (anew p.2 g) (inv g));rw [h.1.lX hg,h.2.lX hg]⟩
theorem bO.trans(h:Vf n p)(a:bO n p q)(b:bO n q r):bO n p r:=by
 obtain ⟨g,hg,rfl⟩:=a;obtain ⟨f,hf,rfl⟩:=b;exact ⟨bB g f,hg.bB hf,by show (anew (anew p.1 g) f,anew (anew p.2 g) f)=_;rw [h.1.lW hg hf,h.2.lW hg hf]⟩
theorem bO.sh(h:Vf n p)(a:bO n p q)(k:Int):bO n (Sh k p) (Sh k q):=by
 obtain ⟨g,hg,rfl⟩:=a;refine ⟨g,hg,?_⟩;show (anew p.1 g,bB (cZ (anew p.1 g) (-k)) (anew p.2 g))=(anew p.1 g,anew (bB (cZ p.1 (-k)) p.2) g);rw [Rg h.1 hg,Mm (h.1.cZ _) h.2 hg]
theorem bO.qt(h:Vf n p)(a:bO n p q):bO n (Qt p) (Qt q):=by
 obtain ⟨g,hg,rfl⟩:=a;refine ⟨g,hg,?_⟩;show (inv (anew p.2 g),anew p.1 g)=(anew (inv p.2) g,anew p.1 g);rw [Mp h.2 hg]
theorem tN(h:Vf n p)(j k:Int):Sh k (Sh j p)=Sh (j+k) p:=by
 show (p.1,shr p.1 (shr p.1 p.2 j) k)=(p.1,shr p.1 p.2 (j+k));rw [h.1.uz h.2]
theorem oo(h:Vf n p):Sh 0 p=p:=by
 show (p.1,shr p.1 p.2 0)=p;rw [h.1.sy h.2]
noncomputable def Q2(p:aR):aR:=(inv p.1,inv p.2)
theorem Cm(p:aR):Qt (Qt p)=Q2 p:=rfl
theorem Cn(h:Vf n p):Q2 (Q2 p)=p:=by
 show (inv (inv p.1),inv (inv p.2))=p;rw [h.1.inv_inv,h.2.inv_inv]
theorem Vf.q2(h:Vf n p):Vf n (Q2 p):=⟨h.1.aG,h.2.aG⟩
theorem bO.q2(h:Vf n p)(a:bO n p q):bO n (Q2 p) (Q2 q):=bO.qt h.qt (bO.qt h a)
theorem vH(h:Vf n p)(k:Int):bO n (Q2 (Sh k p)) (Sh k (Q2 p)):=by
 have hx:=h.1;have hy:=h.2;refine ⟨cZ p.1 (-k),hx.cZ _,?_⟩;show (inv p.1,bB (cZ (inv p.1) (-k)) (inv p.2))=(anew (inv p.1) (cZ p.1 (-k)),anew (inv (bB (cZ p.1 (-k)) p.2)) (cZ p.1 (-k)));have e1:anew (inv p.1) (cZ p.1 (-k))=inv p.1:=by
  unfold anew;rw [IK hx,<- IL hx,Cj hx,Cj hx]
  congr 1;omega
 have e2:anew (inv (bB (cZ p.1 (-k)) p.2)) (cZ p.1 (-k))=bB (cZ (inv p.1) (-k)) (inv p.2):=by
  unfold anew;rw [vG (hx.cZ _) hy,Ml hx,IK hx,qq (hx.cZ _) (hy.aG.bB (hx.cZ _)) (hx.cZ _),qq hy.aG (hx.cZ _) (hx.cZ _),Cj hx,show - -k + -k=0 by omega,IJ hx,xO hy.aG]
 rw [e1,e2]
theorem Cp(h:Vf n p):bO n (Qt (Sh 1 (Qt p))) (Sh (-1) (Qt (Sh (-1) p))):=by
 have hx:=h.1;have hy:=h.2;have l:Qt (Sh 1 (Qt p))=(bB (inv p.1) (inv p.2),inv p.2):=by
  show (inv (bB (cZ (inv p.2) (-1)) p.1),inv p.2)=_;rw [Ml hy,show -(-1:Int)=1 by omega,Ck hy,vG hy hx]
 have r:Sh (-1) (Qt (Sh (-1) p))=(bB (inv p.2) (inv p.1),inv p.2):=by
  show (inv (bB (cZ p.1 (-(-1))) p.2),bB (cZ (inv (bB (cZ p.1 (-(-1))) p.2)) (-(-1))) p.1)=_;have hf:=hx.bB hy;rw [show -(-1:Int)=1 by omega,Ck hx,Ck hf.aG,vG hx hy,II hy.aG hx]
 refine ⟨p.2,hy,?_⟩;rw [l,r];show (bB (inv p.2) (inv p.1),inv p.2)=(bB (bB (inv p.2) (bB (inv p.1) (inv p.2))) p.2,bB (bB (inv p.2) (inv p.2)) p.2);rw [<- qq hy.aG hx.aG hy.aG,II (hy.aG.bB hx.aG) hy,II hy.aG hy]
theorem xP(h:Vf n p):bO n (Qt (Sh (-1) (Qt p))) (Q2 (Sh 1 (Qt (Sh 1 p)))):=by
 have hx:=h.1;have hy:=h.2;have hu:=hx.aG.bB hy;have l:Qt (Sh (-1) (Qt p))=(bB (inv p.1) p.2,inv p.2):=by
  show (inv (bB (cZ (inv p.2) (-(-1))) p.1),inv p.2)=_;rw [show -(-1:Int)=1 by omega,Ck hy.aG,vG hy.aG hx,hy.inv_inv]
 have r:Q2 (Sh 1 (Qt (Sh 1 p)))=(bB (inv p.1) p.2,bB (inv p.1) (bB (inv p.2) p.1)):=by
  show (inv (inv (bB (cZ p.1 (-1)) p.2)),inv (bB (cZ (inv (bB (cZ p.1 (-1)) p.2)) (-1)) p.1))=_;rw [IL hx,IL hu.aG,hu.inv_inv,vG hu hx,vG hx.aG hy,hx.inv_inv]
 refine ⟨bB (inv p.2) p.1,hy.aG.bB hx,?_⟩;rw [l,r];show (bB (inv p.1) p.2,bB (inv p.1) (bB (inv p.2) p.1))=(bB (bB (inv (bB (inv p.2) p.1)) (bB (inv p.1) p.2)) (bB (inv p.2) p.1),bB (bB (inv (bB (inv p.2) p.1)) (inv p.2)) (bB (inv p.2) p.1));have eg:inv (bB (inv p.2) p.1)=bB (inv p.1) p.2:=by rw [vG hy.aG hx,hy.inv_inv]
 have Rh:bB (inv p.2) p.1=inv (bB (inv p.1) p.2):=by rw [vG hx.aG hy,hx.inv_inv]
 rw [eg];have e1:bB (bB (bB (inv p.1) p.2) (bB (inv p.1) p.2)) (bB (inv p.2) p.1)=bB (inv p.1) p.2:=by rw [Rh,Mk hu hu]
 have e2:bB (bB (bB (inv p.1) p.2) (inv p.2)) (bB (inv p.2) p.1)=bB (inv p.1) (bB (inv p.2) p.1):=by rw [Mk hx.aG hy]
 rw [e1,e2]
end
noncomputable def act:Int->List Int->aR->aR
 |k,[],p=>Sh k p
 |k,j :: ks,p=>act j ks (Qt (Sh k p))
noncomputable def tS(k:Int):T4:=⟨1,k,0,1⟩
noncomputable def jc(k:Int):T4:=⟨0,-1,1,k⟩
noncomputable def iY:Int->List Int->T4
 |k,[]=>tS k
 |k,j :: ks=>(iY j ks).mul (jc k)
noncomputable def kI(e:Bool)(M:T4):T4:=if e then ⟨-M.a,-M.b,-M.c,-M.d⟩ else M
noncomputable def oO(e:Bool)(p:aR):aR:=if e then Q2 p else p
theorem Cq(e f:Bool)(M:T4):kI e (kI f M)=kI (e.xor f) M:=by
 cases e<;>cases f<;>simp [kI]
theorem Cr(e:Bool)(M N:T4):(kI e M).mul N=kI e (M.mul N):=by
 cases e
 ·rfl
 ·unfold kI T4.mul;simp only [if_true];congr 1<;>grind
section
variable {n:Nat}{p q r:aR}
theorem Vf.act:∀{ks:List Int} {k:Int} {p:aR},Vf n p->Vf n (ag.act k ks p)
 |[],k,p,h=>h.sh k
 |j :: ks,k,p,h=>Vf.act (ks:=ks) (h.sh k).qt
theorem bO.act:∀{ks:List Int} {k:Int} {p q:aR},Vf n p->bO n p q->bO n (ag.act k ks p) (ag.act k ks q)
 |[],k,p,q,h,a=>bO.sh h a k
 |j :: ks,k,p,q,h,a=>bO.act (ks:=ks) (h.sh k).qt (bO.qt (h.sh k) (bO.sh h a k))
theorem bO.oO(h:Vf n p)(a:bO n p q)(e:Bool):bO n (ag.oO e p) (ag.oO e q):=by cases e;exact a;exact bO.q2 h a
theorem Fm(h:Vf n p)(e f:Bool):oO e (oO f p)=oO (e.xor f) p:=by
 cases e<;>cases f
 ·rfl
 ·rfl
 ·rfl
 ·exact Cn h
theorem Cs:∀{ks:List Int} {k:Int} {p:aR},Vf n p->bO n (act k ks (Q2 p)) (Q2 (act k ks p))
 |[],k,p,h=>bO.symm (h.sh k).q2 (vH h k)
 |j :: ks,k,p,h=>by
  have h1:bO n (Qt (Sh k (Q2 p))) (Qt (Q2 (Sh k p))):=bO.qt (h.q2.sh k) (bO.symm (h.sh k).q2 (vH h k));have h2:=bO.act (ks:=ks) (k:=j) ((h.q2.sh k).qt) h1;have h3:=Cs (ks:=ks) (k:=j) (h.sh k).qt;exact bO.trans (Vf.act (ks:=j :: ks) (k:=k) h.q2) h2 h3
theorem Fn{ks:List Int}{j k:Int}(h:Vf n p):act k ks (Sh j p)=act (j+k) ks p:=by
 cases ks with
 |nil=>exact tN h j k
 |cons i ks=>show act i ks (Qt (Sh k (Sh j p)))=act i ks (Qt (Sh (j+k) p));rw [tN h]
theorem Mq{ks:List Int}{k:Int}(h:Vf n p):act k ks (Qt p)=act 0 (k :: ks) p:=by show _=act k ks (Qt (Sh 0 p));rw [oo h]
theorem Ri{a b:Int}{ks:List Int}{j:Int}(hj:j=0\/j=1\/j=-1):∃(k':Int) (ks':List Int) (f:Bool),ks'.length<ks.length+2/\iY a (j :: b :: ks)=kI f (iY k' ks')/\∀{n:Nat} {p:aR},Vf n p->bO n (act a (j :: b :: ks) p) (oO f (act k' ks' p)):=by
 rcases hj with rfl|rfl|rfl
 ·refine ⟨a+b,ks,true,by omega,?_,fun {n p} h=>?_⟩
  ·cases ks with
   |nil=>simp [iY,kI,T4.mul,tS,jc];omega
   |cons i ks =>
    show (((iY i ks).mul (jc b)).mul (jc 0)).mul (jc a)=kI true ((iY i ks).mul (jc (a+b)));rw [T4.assoc,T4.assoc];have:(jc b).mul ((jc 0).mul (jc a))=kI true (jc (a+b)):=by simp [kI,T4.mul,jc];omega
    rw [this];unfold kI T4.mul;simp only [if_true];congr 1<;>grind
  ·show bO n (act b ks (Qt (Sh 0 (Qt (Sh a p))))) (Q2 (act (a+b) ks p))
   rw [oo (h.sh a).qt,Cm,<- Fn h];exact Cs (h.sh a)
 ·refine ⟨a-1,(b-1) :: ks,false,by simp,?_,fun {n p} h=>?_⟩
  ·cases ks with
   |nil=>simp [iY,kI,T4.mul,tS,jc];refine ⟨?_,?_⟩<;>grind
   |cons i ks =>
    show (((iY i ks).mul (jc b)).mul (jc 1)).mul (jc a)=((iY i ks).mul (jc (b-1))).mul (jc (a-1));rw [T4.assoc,T4.assoc,T4.assoc];have:(jc b).mul ((jc 1).mul (jc a))=(jc (b-1)).mul (jc (a-1)):=by simp [T4.mul,jc];refine ⟨?_,?_,?_⟩<;>grind
    rw [this]
  ·show bO n (act b ks (Qt (Sh 1 (Qt (Sh a p))))) (act (b-1) ks (Qt (Sh (a-1) p)))
   have h1:=bO.act (ks:=ks) (k:=b) ((h.sh a).qt.sh 1).qt (Cp (h.sh a));rw [Fn ((h.sh a).sh (-1)).qt,tN h,show -1+b=b-1 by omega,show a + -1=a-1 by omega] at h1;exact h1
 ·refine ⟨a+1,(b+1) :: ks,true,by simp,?_,fun {n p} h=>?_⟩
  ·cases ks with
   |nil=>simp [iY,kI,T4.mul,tS,jc];refine ⟨?_,?_⟩<;>grind
   |cons i ks =>
    show (((iY i ks).mul (jc b)).mul (jc (-1))).mul (jc a)=kI true (((iY i ks).mul (jc (b+1))).mul (jc (a+1)));rw [T4.assoc,T4.assoc,T4.assoc];have:(jc b).mul ((jc (-1)).mul (jc a))=kI true ((jc (b+1)).mul (jc (a+1))):=by simp [kI,T4.mul,jc];refine ⟨?_,?_,?_⟩<;>grind
    rw [this];unfold kI T4.mul;simp only [if_true];congr 1<;>grind
  ·show bO n (act b ks (Qt (Sh (-1) (Qt (Sh a p))))) (Q2 (act (b+1) ks (Qt (Sh (a+1) p))))
   have h1:=bO.act (ks:=ks) (k:=b) ((h.sh a).qt.sh (-1)).qt (xP (h.sh a));have h2:=Cs (ks:=ks) (k:=b) (((h.sh a).sh 1).qt.sh 1);rw [Fn ((h.sh a).sh 1).qt,tN h,show 1+b=b+1 by omega] at h2;have h3:=bO.trans (Vf.act (ks:=ks) (k:=b) ((h.sh a).qt.sh (-1)).qt) h1 (by rw [tN h] at *;exact h2);exact h3
noncomputable def big:List Int->Prop
 |[]=>True
 |[_]=>True
 |j :: b :: ks=>(2<=j\/j<=-2)/\big (b :: ks)
theorem Mr:∀(ks:List Int) (k:Int),big ks\/∃(k':Int) (ks':List Int) (f:Bool),ks'.length<ks.length/\iY k ks=kI f (iY k' ks')/\∀{n:Nat} {p:aR},Vf n p->bO n (act k ks p) (oO f (act k' ks' p))
 |[],_=>.inl trivial
 |[_],_=>.inl trivial
 |j :: b :: ks,k=>by
  by_cases hj:j=0\/j=1\/j=-1
  ·obtain ⟨k',ks',f,hl,hm,ha⟩:=Ri (a:=k) (b:=b) (ks:=ks) hj
   exact .inr ⟨k',ks',f,by simpa using hl,hm,ha⟩
  ·rcases Mr (b :: ks) j with h|⟨k',ks',f,hl,hm,ha⟩
   ·exact .inl ⟨by omega,h⟩
   ·refine .inr ⟨k,k' :: ks',f,by simpa using hl,?_,fun {n p} h=>?_⟩
    ·show (iY j (b :: ks)).mul (jc k)=kI f ((iY k' ks').mul (jc k))
     rw [hm,Cr]
    ·exact ha (h.sh k).qt
theorem Ms:∀(ks:List Int) (k:Int),big ks->(ks=[]\/2<=k\/k<=-2)->(iY k ks).c.natAbs<(iY k ks).d.natAbs
 |[],k,_,_=>by show (0:Int).natAbs<(1:Int).natAbs;decide
 |j :: ks,k,h,hk=>by
  have hk:2<=k\/k<=-2:=by rcases hk with hk|hk;cases hk;exact hk
  have hj:ks=[]\/2<=j\/j<=-2:=by
   cases ks with
   |nil=>exact .inl rfl
   |cons b ks=>exact .inr h.1
  have hb:big ks:=by
   cases ks with
   |nil=>trivial
   |cons b ks=>exact h.2
  have ih:=Ms ks j hb hj;show ((iY j ks).c*0+(iY j ks).d*1).natAbs<((iY j ks).c * -1+(iY j ks).d*k).natAbs;generalize (iY j ks).c=c at ih;generalize (iY j ks).d=d at ih;rw [Int.mul_zero,XX,Int.mul_one];have e:(d*k).natAbs=d.natAbs*k.natAbs:=Int.natAbs_mul d k;have e2:d.natAbs*2<=d.natAbs*k.natAbs:=Nat.mul_le_mul_left _ (by omega);omega
theorem Ct{ks:List Int}{k:Int}(h:big ks)(hn:ks≠[]):(iY k ks).c≠0:=by
 cases ks with
 |nil=>exact absurd rfl hn
 |cons j ks =>
  have hj:ks=[]\/2<=j\/j<=-2:=by
   cases ks with
   |nil=>exact .inl rfl
   |cons b ks=>exact .inr h.1
  have hb:big ks:=by
   cases ks with
   |nil=>trivial
   |cons b ks=>exact h.2
  have ih:=Ms ks j hb hj;show (iY j ks).c*0+(iY j ks).d*1≠0;omega
theorem IQ:∀(m:Nat) (ks:List Int) (k:Int),ks.length<=m->∀(e:Bool),iY k ks=kI e T4.one->∀{n:Nat} {p:aR},Vf n p->bO n (act k ks p) (oO e p):=by
 intro m
 induction m with
 |zero =>
  intro ks k hl e hm n p h;have:ks=[]:=List.eq_nil_of_length_eq_zero (by omega);subst this;have hm:(⟨1,k,0,1⟩:T4)=kI e T4.one:=hm;cases e with
  |false =>
   have hk:k=0:=congrArg T4.b hm;subst hk;show bO n (Sh 0 p) p;rw [oo h];exact bO.refl h
  |true=>exact absurd (congrArg T4.a hm) (show ¬(1:Int)=-1 by decide)
 |succ m ih =>
  intro ks k hl e hm n p h
  by_cases hn:ks=[]
  ·subst hn
   exact ih [] k (W9 _) e hm h
  ·rcases Mr ks k with hb|⟨k',ks',f,hl',hm',ha⟩
   ·have:=Ct (k:=k) hb hn
    rw [hm] at this;exact absurd (by cases e<;>rfl) this
   ·have hm2:iY k' ks'=kI (f.xor e) T4.one:=by
     have:kI f (iY k ks)=iY k' ks':=by rw [hm',Cq,Bool.xor_self];rfl
     rw [<- this,hm,Cq]
    have h1:=ih ks' k' (by omega) (f.xor e) hm2 h;have h2:=bO.trans h.act (ha h) (bO.oO h.act h1 f);rw [Fm h,<- Bool.xor_assoc,Bool.xor_self,Bool.false_xor] at h2;exact h2
end
noncomputable def nB:Nat->aR->aR
 |0,p=>p
 |j+1,p=>Qt (nB j p)
noncomputable def stM(p:aR)(s:Sp):aR:=if s.1=true then Sh s.2 p else nB s.2.toNat p
noncomputable def iF(p:aR)(w:List Sp):aR:=w.foldl stM p
section
variable {n:Nat}{p q:aR}
theorem Vf.nB(h:Vf n p):∀j,Vf n (ag.nB j p)
 |0=>h
 |j+1=>(Vf.nB h j).qt
theorem Vf.st(h:Vf n p)(s:Sp):Vf n (stM p s):=by
 unfold stM;split
 ·exact h.sh _
 ·exact h.nB _
theorem Vf.ld:∀{w:List Sp} {p:aR},Vf n p->Vf n (iF p w)
 |[],_,h=>h
 |s :: w,p,h=>Vf.ld (w:=w) (h.st s)
theorem bO.nB(h:Vf n p)(a:bO n p q):∀j,bO n (ag.nB j p) (ag.nB j q)
 |0=>a
 |j+1=>bO.qt (h.nB j) (bO.nB h a j)
theorem bO.st(h:Vf n p)(a:bO n p q)(s:Sp):bO n (stM p s) (stM q s):=by
 unfold stM;split
 ·exact bO.sh h a _
 ·exact bO.nB h a _
theorem bO.ld:∀{w:List Sp} {p q:aR},Vf n p->bO n p q->bO n (iF p w) (iF q w)
 |[],_,_,_,a=>a
 |s :: w,p,q,h,a=>bO.ld (w:=w) (h.st s) (bO.st h a s)
theorem Ah(p:aR)(u v:List Sp):iF p (u ++ v)=iF (iF p u) v:=by unfold iF;rw [Xp]
end
theorem Rj(s:Sp)(w:List Sp):cM (s :: w)=(cM w).mul (nT s):=by
 have:=xM [s] w;rw [show cM [s]=(nT s).mul T4.one from rfl,T4.mul_one] at this;exact this
theorem Mt(e:Bool)(M N:T4):M.mul (kI e N)=kI e (M.mul N):=by
 cases e
 ·rfl
 ·unfold kI T4.mul;simp only [if_true];congr 1<;>grind
theorem xQ(ks:List Int)(j k:Int):(iY k ks).mul (tS j)=iY (j+k) ks:=by
 cases ks with
 |nil=>simp [iY,T4.mul,tS]
 |cons i ks =>
  show ((iY i ks).mul (jc k)).mul (tS j)=(iY i ks).mul (jc (j+k));rw [T4.assoc]
  congr 1
  simp [T4.mul,jc,tS]
theorem xR(ks:List Int)(k:Int):(iY k ks).mul T4.qt=iY 0 (k :: ks):=rfl
theorem Mu:∀{w:List Sp},(∀s∈w,gX s)->∃(k:Int) (ks:List Int) (f:Bool),cM w=kI f (iY k ks)/\∀{n:Nat} {p:aR},Vf n p->bO n (iF p w) (oO f (act k ks p))
 |[],_=>⟨0,[],false,rfl,fun {n p} h=>by show bO n p (Sh 0 p);rw [oo h];exact bO.refl h⟩
 |s :: w,hw=>by
  obtain ⟨k,ks,f,hm,ha⟩:=Mu (w:=w) fun x hx=>hw x (WE _ hx);have hs:=hw s Wy;obtain ⟨b,j⟩:=s;rw [Rj,hm];cases b with
  |true =>
   refine ⟨j+k,ks,f,?_,fun {n p} h=>?_⟩
   ·rw [Cr];congr 1;exact xQ ks j k
   ·have:=ha (h.sh j)
    rw [Fn h] at this;exact this
  |false =>
   have c:j=1\/j=2\/j=3:=t3 (hs.1 rfl);rcases c with rfl|rfl|rfl
   ·refine ⟨0,k :: ks,f,?_,fun {n p} h=>?_⟩
    ·rw [Cr];congr 1
    ·have:=ha h.qt
     rw [Mq h] at this;exact this
   ·refine ⟨k,ks,!f,?_,fun {n p} h=>?_⟩
    ·rw [Cr,show nT (false,2)=kI true T4.one from rfl,Mt,T4.mul_one,Cq];cases f<;>rfl
    ·have h1:=ha h.q2
     have h2:=bO.trans (Vf.ld (w:=w) h.q2) h1 (bO.oO (Vf.act h.q2) (Cs h) f);have e:oO f (Q2 (act k ks p))=oO (!f) (act k ks p):=by
      have:=Fm (p:=act k ks p) h.act f true;rw [Bool.xor_true] at this;exact this
     rw [e] at h2;exact h2
   ·refine ⟨0,k :: ks,!f,?_,fun {n p} h=>?_⟩
    ·have e3:nT (false,3)=kI true T4.qt:=rfl
     rw [Cr,e3,Mt,Cq,xR];cases f<;>rfl
    ·have h1:=ha (p:=Q2 (Qt p)) h.qt.q2
     have h2:=bO.trans (Vf.ld (w:=w) h.qt.q2) h1 (bO.oO (Vf.act h.qt.q2) (Cs h.qt) f);have e:oO f (Q2 (act k ks (Qt p)))=oO (!f) (act 0 (k :: ks) p):=by
      have:=Fm (p:=act k ks (Qt p)) h.qt.act f true;rw [Bool.xor_true] at this;rw [<- Mq h];exact this
     rw [e] at h2;exact h2
theorem Mv{w:List Sp}(hw:∀s∈w,gX s)(h1:cM w=T4.one){n:Nat}{p:aR}(h:Vf n p):bO n (iF p w) p:=by
 obtain ⟨k,ks,f,hm,ha⟩:=Mu hw;have e:iY k ks=kI f T4.one:=by
  have:kI f (cM w)=iY k ks:=by rw [hm,Cq,Bool.xor_self];rfl
  rw [<- this,h1]
 have h2:=IQ ks.length ks k (Wv _) f e h;have h3:=bO.trans (Vf.ld h) (ha h) (bO.oO h.act h2 f);rw [Fm h,Bool.xor_self] at h3;exact h3
theorem IU{w:List Sp}(hw:∀s∈w,gX s):∀s∈mr w,gX s:=fun s hs=>by
 unfold mr at hs;obtain ⟨t,ht,rfl⟩:=WB.mp (Xt.mp hs);exact Ce (hw t ht)
theorem IV{w:List Sp}(hw:∀s∈w,gX s):cM (w ++ mr w)=T4.one:=by
 have hp:∀s∈w ++ mr w,gX s:=fun s hs=>by
  rcases WS.mp hs with hs|hs
  ·exact hw s hs
  ·exact IU hw s hs
 rw [<- Mh hp,QV hw];rfl
theorem Rm{w:List Sp}(hw:∀s∈w,gX s):(cM w).a*(cM w).d-(cM w).b*(cM w).c=1:=by
 have:=IV hw;rw [xM,Mi hw] at this;have h:=congrArg T4.a this;have h:(cM w).d*(cM w).a + -(cM w).b*(cM w).c=1:=h;rw [Int.mul_comm (cM w).d,Int.neg_mul] at h;omega
theorem Rn{M:T4}(h:M.a*M.d-M.b*M.c=1):M.mul M.tM=T4.one/\M.tM.mul M=T4.one:=by
 constructor<;>(apply T4.ext'<;>simp [T4.mul,T4.tM,T4.one]<;>grind)
theorem Mw{u w:List Sp}(hu:∀s∈u,gX s)(hw:∀s∈w,gX s)(e:cM u=cM w){n:Nat}{p:aR}(h:Vf n p):bO n (iF p u) (iF p w):=by
 have hb:=IU hw
 have h1:bO n (iF p (u ++ mr w)) p:=Mv (fun s hs=>by
  rcases WS.mp hs with hs|hs
  ·exact hu s hs
  ·exact hb s hs) (by rw [xM,e,<- xM];exact IV hw) h
 rw [Ah] at h1;have h2:=bO.ld (w:=w) (Vf.ld (Vf.ld h)) h1;rw [<- Ah] at h2
 have h3:bO n (iF (iF p u) (mr w ++ w)) (iF p u):=Mv (fun s hs=>by
  rcases WS.mp hs with hs|hs
  ·exact hb s hs
  ·exact hw s hs) (by rw [xM,Mi hw];exact (Rn (Rm hw)).1) (Vf.ld h)
 exact bO.trans (Vf.ld h) (bO.symm (Vf.ld (Vf.ld h)) h3) h2
noncomputable def pO(p:aR)(n:Nat)(s:Int):aR:=(num p.1 (bf p.1 p.2 s n),num p.2 (bf p.1 p.2 s n))
noncomputable def bC(n:Nat)(p:aR):aR:=ng ((upto n).map (pO p n))
theorem pz{n:Nat}{p q:aR}(n0:0<n)(h:Vf n p)(a:bO n p q):bC n p=bC n q:=by
 obtain ⟨g,hg,rfl⟩:=a;have key:∀s:Int,0<=s->s<(n:Int)->pO (anew p.1 g,anew p.2 g) n (app g s)=pO p n s:=fun s s0 s1=>by
  show (num (anew p.1 g) (bf (anew p.1 g) (anew p.2 g) (app g s) n),num (anew p.2 g) (bf (anew p.1 g) (anew p.2 g) (app g s) n))=_;have hb:=qQ h.1 h.2 s0 s1 n;rw [Iz h.1 h.2 hg s0 s1 n,Mf h.1 hg hb,Mf h.2 hg hb];rfl
 refine Ra (fun x=>?_) (fun e=>?_)
 ·constructor
  ·intro hx
   obtain ⟨s,hs,rfl⟩:=WB.mp hx;obtain ⟨s0,s1⟩:=lV.mp hs;exact WB.mpr ⟨app g s,lV.mpr (hg.app s0 s1),key s s0 s1⟩
  ·intro hx
   obtain ⟨t,ht,rfl⟩:=WB.mp hx;obtain ⟨t0,t1⟩:=lV.mp ht;obtain ⟨p0,p1⟩:=hg.mE t0 t1;refine WB.mpr ⟨app (inv g) t,lV.mpr ⟨p0,p1⟩,?_⟩;have:=key (app (inv g) t) p0 p1;rw [hg.dj t0 t1] at this;exact this.symm
 ·have:=congrArg List.length e
  rw [Wo,o4] at this;simp at this;omega
end ag
namespace ag
section
variable {n:Nat}{p q:aR}{g h:List Int}{s t:Int}
structure Wh(n:Nat)(p:aR):Prop where
 v:Vf n p
 all:∀x:Int,0<=x->x<(n:Int)->jO p.1 p.2 x
theorem Wh.bf(w:Wh n p)(s0:0<=s)(s1:s<(n:Int)):Tn n (bf p.1 p.2 s n):=Ff w.v.1 w.v.2 s0 s1 w.all
theorem Mx(xs ys:List Int)(s:Int)(n:Nat):app (bf xs ys s n) 0=s:=by
 have:=xH xs ys s 0 n;rw [Ya] at this;obtain ⟨t,e⟩:=this;rw [<- e];rfl
noncomputable def gF(p q:aR)(n:Nat)(s t:Int):List Int:=bB (inv (bf p.1 p.2 s n)) (bf q.1 q.2 t n)
noncomputable def Cg(n:Nat)(p q:aR)(g:List Int):Prop:=Tn n g/\q=(anew p.1 g,anew p.2 g)
theorem Cu(wp:Wh n p)(wq:Wh n q)(s0:0<=s)(s1:s<(n:Int))(t0:0<=t)(t1:t<(n:Int))(e:pO p n s=pO q n t):Cg n p q (gF p q n s t)/\app (gF p q n s t) s=t:=by
 have tb:=wp.bf s0 s1;have tc:=wq.bf t0 t1;have n0:0<n:=by omega
 refine ⟨⟨tb.aG.bB tc,?_⟩,?_⟩
 ·unfold pO at e
  have e1:=congrArg Prod.fst e;have e2:=congrArg Prod.snd e;simp only at e1 e2;rw [<- vE wp.v.1 tb,<- vE wq.v.1 tc] at e1;rw [<- vE wp.v.2 tb,<- vE wq.v.2 tc] at e2;have go:∀{a b:List Int},Tn n a->Tn n b->anew a (inv (bf p.1 p.2 s n))=anew b (inv (bf q.1 q.2 t n))->b=anew a (gF p q n s t):=fun {a b} ta tb' e=>by
   unfold gF;rw [<- Tn.lW ta tb.aG tc,e];have:=Tn.lX tb' tc.aG;rw [tc.inv_inv] at this;exact this.symm
  exact Prod.ext (go wp.v.1 wq.v.1 e1) (go wp.v.2 wq.v.2 e2)
 ·unfold gF
  rw [oN s0 (by rw [B6,tb.length];exact s1)];have:app (inv (bf p.1 p.2 s n)) s=0:=by
   have:=tb.gB (i:=0) (by decide) (by omega);rw [Mx] at this;exact this
  rw [this,Mx]
theorem Cv(xs ys:List Int):∀k,∀y∈bf xs ys 0 k,jO xs ys y
 |0,y,hy=>by rw [WK.mp (show y∈[(0:Int)] from hy)];exact .zero
 |k+1,y,hy=>by
  have hy':y∈(match (bf xs ys 0 k)[k]? with|some x=>visit xs ys (bf xs ys 0 k) x|none=>bf xs ys 0 k):=hy;split at hy'
  ·next z hz =>
   have vI:=Cv xs ys k z (Ww hz);rcases qo.mp hy' with hy'|rfl
   ·rcases qo.mp hy' with hy'|rfl
    ·exact Cv xs ys k y hy'
    ·exact vI.r
   ·exact vI.u
  ·exact Cv xs ys k y hy'
theorem vJ(w:Wh n p)(v:Vf n q)(n0:0<n)(h:∀F:List Int,F.Nodup->(∀x∈F,0<=x/\x<(n:Int))->Cl q.1 q.2 F->Cl p.1 p.2 F):Wh n q:=by
 refine ⟨v,fun x x0 x1=>Cv q.1 q.2 n x ?_⟩;have c:=h (bf q.1 q.2 0 n) (xI _ _ _ _) (qQ v.1 v.2 (by decide) (by omega) n) (Iy v.1 v.2 (by decide) (by omega));refine c.all ?_ (w.all x x0 x1);have:=xH q.1 q.2 0 0 n;rw [Ya] at this;exact this.subset (show (0:Int)∈[(0:Int)] by simp)
theorem Mz{zs F:List Int}(hz:Tn n zs)(nd:F.Nodup)(hb:∀x∈F,0<=x/\x<(n:Int))(hc:∀x∈F,app zs x∈F):∀x∈F,app (inv zs) x∈F:=fun x hx=>by
 obtain ⟨x0,x1⟩:=hb x hx;obtain ⟨a0,a1⟩:=hz.mE x0 x1;exact Cc hz nd hb hc a0 a1 (by rw [hz.dj x0 x1];exact hx)
theorem IW{zs F:List Int}(hc:∀x∈F,app zs x∈F){x:Int}(hx:x∈F):∀k,bW zs x k∈F
 |0=>hx
 |k+1=>hc _ (IW hc hx k)
theorem Cw{zs F:List Int}(hz:Tn n zs)(nd:F.Nodup)(hb:∀x∈F,0<=x/\x<(n:Int))(hc:∀x∈F,app zs x∈F)(k:Int){x:Int}(hx:x∈F):pw zs k x∈F:=by
 unfold pw;split
 ·exact IW hc hx _
 ·exact IW (Mz hz nd hb hc) hx _
theorem Wh.sh(w:Wh n p)(n0:0<n)(k:Int):Wh n (Sh k p):=by
 refine vJ w (w.v.sh k) n0 fun F nd hb hc x hx=>⟨(hc x hx).1,?_⟩;obtain ⟨x0,x1⟩:=hb x hx;have h1:∀x∈F,app p.1 x∈F:=fun x hx=>(hc x hx).1;have hy:=Cw w.v.1 nd hb h1 k hx;have:=(hc _ hy).2;obtain ⟨y0,y1⟩:=hb _ hy;have e:app (Sh k p).2 (pw p.1 k x)=app p.2 x:=by
  show app (shr p.1 p.2 k) (pw p.1 k x)=_;unfold shr;have hlen:(cZ p.1 (-k)).length=n:=(w.v.1.cZ (-k)).length;rw [oN y0 (by rw [hlen];exact y1)]
  congr 1
  have e3:=Cj w.v.1 k (-k);rw [Int.add_right_neg,IJ w.v.1] at e3;have e4:app (bB (cZ p.1 k) (cZ p.1 (-k))) x=app (upto n) x:=by rw [e3]
  rw [Fh x0 x1,oN x0 (by rw [(w.v.1.cZ k).length];exact x1)] at e4;have e5:app (cZ p.1 k) x=pw p.1 k x:=pN x0 (by rw [w.v.1.length];exact x1);rw [e5] at e4;exact e4
 rw [e] at this;exact this
theorem Wh.qt(w:Wh n p)(n0:0<n):Wh n (Qt p):=by
 refine vJ w w.v.qt n0 fun F nd hb hc x hx=>⟨(hc x hx).2,?_⟩;have:=Mz w.v.2.aG nd hb (fun x hx=>(hc x hx).1) x hx;rw [w.v.2.inv_inv] at this;exact this
noncomputable def Od(xs ys F:List Int):Prop:=F[0]?=some 0/\∀(k:Nat) (y:Int),F[k+1]?=some y->∃(j:Nat) (x:Int),j<=k/\F[j]?=some x/\(y=app xs x\/y=app ys x)
theorem Od.one(xs ys:List Int):Od xs ys [0]:=⟨rfl,fun k y h=>by cases h⟩
theorem Od.snoc{xs ys F:List Int}{x y:Int}(h:Od xs ys F)(hx:x∈F)(hy:y=app xs x\/y=app ys x):Od xs ys (F ++ [y]):=by
 have hl:0<F.length:=List.length_pos_of_mem hx;refine ⟨by rw [WG hl];exact h.1,fun k z hz=>?_⟩
 by_cases hk:k+1<F.length
 ·rw [WG hk] at hz
  obtain ⟨j,x',hj,hx',e⟩:=h.2 k z hz;exact ⟨j,x',hj,by rw [WG (by omega)];exact hx',e⟩
 ·rw [WN (by omega)] at hz
  have hz:z=y:=by
   cases h3:k+1-F.length with
   |zero=>rw [h3] at hz;cases hz;rfl
   |succ m=>rw [h3] at hz;cases hz
  obtain ⟨j,hj,e⟩:=XC hx;have nE:k+1=F.length\/F.length<k+1:=by omega
  refine ⟨j,x,by omega,by rw [WG hj,Wr hj,e],by rw [hz];exact hy⟩
structure Fo(xs ys F:List Int):Prop extends Fd xs ys F where
 od:Od xs ys F
theorem Fo.one(xs ys:List Int):Fo xs ys [0]:=⟨Fd.one xs ys,Od.one xs ys⟩
end
end ag
namespace ag
section
variable {n:Nat}{xs ys r r' r2:List Int}{i j x y:Int}
noncomputable def Sm(xs ys r:List Int):Prop:=∀s∈r,app ys (app xs s)=app xs (app ys s)
instance:Decidable (Sm xs ys r):=inferInstanceAs (Decidable (∀s∈r,app ys (app xs s)=app xs (app ys s)))
end
end ag
namespace ag
section
variable {n:Nat}{p q:aR}{g:List Int}
theorem Wh.nB(w:Wh n p)(n0:0<n):∀j,Wh n (ag.nB j p)
 |0=>w
 |j+1=>(w.nB n0 j).qt n0
theorem Wh.st(w:Wh n p)(n0:0<n)(s:Sp):Wh n (stM p s):=by
 unfold stM;split
 ·exact w.sh n0 _
 ·exact w.nB n0 _
theorem Wh.ld(n0:0<n):∀{w:List Sp} {p:aR},Wh n p->Wh n (iF p w)
 |[],_,h=>h
 |s :: w,_,h=>Wh.ld n0 (w:=w) (h.st n0 s)
end
end ag
namespace ag
end ag
namespace ag
section
variable {n:Nat}{p q:aR}
theorem Rq(vp:Vf n p)(vq:Vf n q)(k:Int)(a:bO n (Sh k p) (Sh k q)):bO n p q:=by
 have h:=bO.sh (vp.sh k) a (-k);rw [tN vp,tN vq,Int.add_right_neg,oo vp,oo vq] at h;exact h
theorem IX(p:aR)(n0:0<n):∃s:Int,0<=s/\s<(n:Int)/\bC n p=pO p n s:=by
 have h:=(IG (l:=(upto n).map (pO p n)) (fun e=>by
  have:=congrArg List.length e;rw [Wo,o4] at this;simp at this
  omega)).1
 obtain ⟨s,hs,e⟩:=WB.mp h;obtain ⟨s0,s1⟩:=lV.mp hs;exact ⟨s,s0,s1,e.symm⟩
theorem xS(wp:Wh n p)(wq:Wh n q)(n0:0<n)(e:bC n p=bC n q):bO n p q:=by
 obtain ⟨s,s0,s1,es⟩:=IX p n0;obtain ⟨t,t0,t1,et⟩:=IX q n0;rw [es,et] at e;obtain ⟨tg,eq⟩:=(Cu wp wq s0 s1 t0 t1 e).1;exact ⟨_,tg,eq⟩
theorem xT(n0:0<n)(k:Int)(wp:Wh n p)(wq:Wh n q)(op:bC n p=p)(oq:bC n q=q)(e:bC n (Sh k p)=bC n (Sh k q)):p=q:=by
 have a:=Rq wp.v wq.v k (xS (wp.sh n0 k) (wq.sh n0 k) n0 e);rw [<- op,<- oq];exact pz n0 wp.v a
end
end ag
namespace L4
open PySem PySem.Spec L2
inductive D where
 |non|bl (b:Bool)|int (i:Int)|str (x:Str)|ty (n:String)|tup (ds:List D)|ref (i:Nat)
instance:Inhabited D:=⟨.non⟩
inductive O where
 |lst (ds:List D)|ot (ds:List D)|dct (kvs:List (Key×D))|Fp (kvs:List (List Int×D))|exc (c:Str) (fs:List (Str×D))|any|gS (lo hi:Int)
abbrev Store:=List O
abbrev av:=List (Option D)
abbrev Dm(α:Type):=Store->Option (α×Store)
inductive Fl where
 |nx (δ:av)|bk (δ:av)|ct (δ:av)|rt (d:D)
mutual
inductive Rp(K:Zfr)(ρ:List Addr)(H:Hp):V->D->Prop
 |non:Rp K ρ H .non .non
 |bl (b:Bool):Rp K ρ H (.bl b) (.bl b)
 |int (i:Int):Rp K ρ H (.int i) (.int i)
 |str (x:Str):Rp K ρ H (.str x) (.str x)
 |ty (n:String):Rp K ρ H (.ty n) (.ty n)
 |ref {a:Addr} {i:Nat}:ρ[i]?=some a->Rp K ρ H (.ref a) (.ref i)
 |tup {a:Addr} {vs:List V} {ds:List D}:fS K H a vs->cY K ρ H vs ds->Rp K ρ H (.ref a) (.tup ds)
inductive cY(K:Zfr)(ρ:List Addr)(H:Hp):List V->List D->Prop
 |nil:cY K ρ H [] []
 |cons {v:V} {vs:List V} {d:D} {ds:List D}:Rp K ρ H v d->cY K ρ H vs ds->cY K ρ H (v :: vs) (d :: ds)
end
structure Mn(K:Zfr)(ρ:List Addr)(H:Hp)(ρ':List Addr)(H':Hp):Prop where
 r:∀(i:Nat) (a:Addr),ρ[i]?=some a->ρ'[i]?=some a
 t:∀a vs,fS K H a vs->fS K H' a vs
 f:∀a o u,H a=some (.mU o u)->H' a=some (.mU o u)
 x:∀a ws,H a=some (.xd ws)->H' a=some (.xd ws)
section
variable {K:Zfr}{ρ ρ' ρ2:List Addr}{H H' H2:Hp}
theorem Mn.refl:Mn K ρ H ρ H:=⟨fun _ _ h=>h,fun _ _ h=>h,fun _ _ _ h=>h,fun _ _ h=>h⟩
theorem Mn.trans(m:Mn K ρ H ρ' H')(n:Mn K ρ' H' ρ2 H2):Mn K ρ H ρ2 H2:=⟨fun i a h=>n.r i a (m.r i a h),fun a vs h=>n.t a vs (m.t a vs h),fun a o u h=>n.f a o u (m.f a o u h),fun a ws h=>n.x a ws (m.x a ws h)⟩
mutual
theorem Rp.mn(m:Mn K ρ H ρ' H'):∀{v:V} {d:D},Rp K ρ H v d->Rp K ρ' H' v d
 |_,_,.non=>.non
 |_,_,.bl b=>.bl b
 |_,_,.int i=>.int i
 |_,_,.str x=>.str x
 |_,_,.ty n=>.ty n
 |_,_,.ref e=>.ref (m.r _ _ e)
 |_,_,.tup q r=>.tup (m.t _ _ q) (cY.mn m r)
theorem cY.mn(m:Mn K ρ H ρ' H'):∀{vs:List V} {ds:List D},cY K ρ H vs ds->cY K ρ' H' vs ds
 |_,_,.nil=>.nil
 |_,_,.cons a b=>.cons (Rp.mn m a) (cY.mn m b)
end
theorem cY.length:∀{vs:List V} {ds:List D},cY K ρ H vs ds->vs.length=ds.length
 |_,_,.nil=>rfl
 |_,_,.cons _ r=>by rw [WX,WX,r.length]
theorem cY.got:∀{vs:List V} {ds:List D},cY K ρ H vs ds->∀{i:Nat} {d:D},ds[i]?=some d->∃v,vs[i]?=some v/\Rp K ρ H v d
 |_,_,.nil,i,v,e=>by simp at e
 |_,_,.cons (v:=v) a b,0,d,e=>⟨v,by simp,by have:_=d:=WD (by simpa using e);rw [<- this];exact a⟩
 |_,_,.cons a b,i+1,d,e=>by
  obtain ⟨v,e1,r⟩:=cY.got b (i:=i) (by simpa using e);exact ⟨v,by simpa using e1,r⟩
theorem cY.append:∀{vs:List V} {ds:List D} {ws:List V} {es:List D},cY K ρ H vs ds->cY K ρ H ws es->cY K ρ H (vs ++ ws) (ds ++ es)
 |_,_,_,_,.nil,s=>s
 |_,_,_,_,.cons a b,s=>.cons a (cY.append b s)
theorem cY.one{v:V}{d:D}(r:Rp K ρ H v d):cY K ρ H [v] [d]:=.cons r .nil
theorem cY.take:∀{vs:List V} {ds:List D} (n:Nat),cY K ρ H vs ds->cY K ρ H (vs.take n) (ds.take n)
 |_,_,0,_=>.nil
 |_,_,_+1,.nil=>.nil
 |_,_,n+1,.cons r t=>.cons r (cY.take n t)
theorem cY.drop:∀{vs:List V} {ds:List D} (n:Nat),cY K ρ H vs ds->cY K ρ H (vs.drop n) (ds.drop n)
 |_,_,0,r=>r
 |_,_,_+1,.nil=>.nil
 |_,_,n+1,.cons _ t=>cY.drop n t
theorem cY.set{v:V}{d:D}(r:Rp K ρ H v d):∀{vs:List V} {ds:List D} (i:Nat),cY K ρ H vs ds->cY K ρ H (vs.set i v) (ds.set i d)
 |_,_,_,.nil=>.nil
 |_,_,0,.cons _ t=>.cons r t
 |_,_,i+1,.cons q t=>.cons q (cY.set r i t)
theorem cY.erase:∀{vs:List V} {ds:List D} (i:Nat),cY K ρ H vs ds->cY K ρ H (vs.eraseIdx i) (ds.eraseIdx i)
 |_,_,_,.nil=>.nil
 |_,_,0,.cons _ t=>t
 |_,_,i+1,.cons q t=>.cons q (cY.erase i t)
theorem cY.flat{vs:List V}{ds:List D}(r:cY K ρ H vs ds):∀n:Nat,cY K ρ H (List.replicate n vs).flatten (List.replicate n ds).flatten
 |0=>.nil
 |n+1=>by rw [Xg,Xg,XH,XH];exact r.append (r.flat n)
theorem cY.ints:∀(ns:List Int),cY K ρ H (ns.map V.int) (ns.map D.int)
 |[]=>.nil
 |n :: r=>.cons (.int n) (cY.ints r)
end
noncomputable def Rs(K:Zfr)(ρ:List Addr)(H:Hp)(σ:St)(δ:av):Prop:=σ.length=δ.length/\∀(i:Nat) (d:D),δ[i]?=some (some d)->∃v,σ[i]?=some (some v)/\Rp K ρ H v d
noncomputable def Rk(K:Zfr)(ρ:List Addr)(H:Hp):List (Key×V)->List (Key×D)->Prop:=Paired fun p q=>p.1=q.1/\Rp K ρ H p.2 q.2
noncomputable def Ru(K:Zfr)(ρ:List Addr)(H:Hp):List (List Int×D)->List (List Int×Addr×Value)->Prop:=Paired fun q x=>q.1=x.1/\fS K H x.2.1 (x.1.map V.int)/\∃v,RelV v x.2.2/\Rp K ρ H v q.2
noncomputable def Xd(K:Zfr)(ρ:List Addr)(H:Hp):Option Addr->List (Str×D)->Prop
 |none,fs=>fs=[]
 |some d,fs=>∃ws,H d=some (.xd ws)/\∀f e,fs.lookup f=some e->∃v,ws.lookup f=some v/\Rp K ρ H v e
noncomputable def vK(K:Zfr)(ρ:List Addr)(H:Hp)(a:Addr):O->Prop
 |.lst ds=>∃vs,H a=some (.lst vs)/\cY K ρ H vs ds
 |.ot ds=>∃vs,BP K H a vs/\cY K ρ H vs ds
 |.dct kvs=>∃ws,H a=some (.dK ws)/\Rk K ρ H ws kvs
 |.Fp kvs=>∃xs,H a=some (DU a xs)/\Ru K ρ H kvs xs
 |.exc c fs=>∃C dx tr,PySem.W.nsIn K mainGlobals c=some (some (.ref C))/\H a=some (XO a C dx tr)/\Xd K ρ H dx fs
 |.any=>True
 |.gS lo hi=>H a=some (.gS lo hi)
noncomputable def O.mut:O->Bool
 |.ot _=>false
 |.any=>false
 |_=>true
structure Rl(K:Zfr)(ρ:List Addr)(H:Hp)(st:Store):Prop where
 len:ρ.length=st.length
 nd:∀(i j:Nat) (a:Addr) (o o':O),ρ[i]?=some a->ρ[j]?=some a->st[i]?=some o->st[j]?=some o'->o.mut=true->o'.mut=true->i=j
 obj:∀(i:Nat) (a:Addr) (o:O),ρ[i]?=some a->st[i]?=some o->vK K ρ H a o
section
variable {K:Zfr}{ρ ρ' ρ2:List Addr}{H H' H2:Hp}{st st':Store}{a p:Addr}{i:Nat}{o o':O}{ho:HO}{σ:St}{δ:av}
theorem Rs.mn(h:Rs K ρ H σ δ)(m:Mn K ρ H ρ' H'):Rs K ρ' H' σ δ:=⟨h.1,fun i d e=>let ⟨v,e1,r⟩:=h.2 i d e;⟨v,e1,r.mn m⟩⟩
theorem Rk.mn(m:Mn K ρ H ρ' H'){ws:List (Key×V)}{kvs:List (Key×D)}(h:Rk K ρ H ws kvs):Rk K ρ' H' ws kvs:=by
 induction h with
 |nil=>exact .nil
 |cons a _ ih=>exact .cons ⟨a.1,a.2.mn m⟩ ih
theorem Ru.mn(m:Mn K ρ H ρ' H'){kvs:List (List Int×D)}{xs:List (List Int×Addr×Value)}(h:Ru K ρ H kvs xs):Ru K ρ' H' kvs xs:=by
 induction h with
 |nil=>exact .nil
 |cons a _ ih=>obtain ⟨a1,a2,v,a3,a4⟩:=a;exact .cons ⟨a1,m.t _ _ a2,v,a3,a4.mn m⟩ ih
theorem Xd.mn(m:Mn K ρ H ρ' H'){dx:Option Addr}{fs:List (Str×D)}(h:Xd K ρ H dx fs):Xd K ρ' H' dx fs:=by
 cases dx with
 |none=>exact h
 |some d=>obtain ⟨ws,e,q⟩:=h;exact ⟨ws,m.x _ _ e,fun f e' z=>let ⟨v,z1,z2⟩:=q f e' z;⟨v,z1,z2.mn m⟩⟩
theorem vK.keep(m:Mn K ρ H ρ' H')(h:∀u,H a=some u->H' a=some u)(r:vK K ρ H a o):vK K ρ' H' a o:=by
 cases o with
 |lst ds=>obtain ⟨vs,e,q⟩:=r;exact ⟨vs,h _ e,q.mn m⟩
 |ot ds =>
  obtain ⟨vs,e,q⟩:=r;refine ⟨vs,?_,q.mn m⟩;rcases e with ⟨u,e⟩|e
  ·exact .inl ⟨u,h _ e⟩
  ·exact .inr e
 |dct kvs=>obtain ⟨ws,e,q⟩:=r;exact ⟨ws,h _ e,q.mn m⟩
 |Fp kvs=>obtain ⟨ws,e,q⟩:=r;exact ⟨ws,h _ e,q.mn m⟩
 |exc c fs=>obtain ⟨C,dx,tr,n,e,q⟩:=r;exact ⟨C,dx,tr,n,h _ e,q.mn m⟩
 |any=>trivial
 |gS lo hi=>exact h _ r
theorem Mn.same(s:jK H H'):Mn K ρ H ρ H':=⟨fun _ _ h=>h,fun _ _ h=>(Kp.of_same (ch:=[]) s).HN h,fun _ _ _ h=>s _ _ h,fun _ _ h=>s _ _ h⟩
theorem Rl.same(l:Rl K ρ H st)(s:jK H H'):Rl K ρ H' st:=⟨l.len,l.nd,fun i a o h1 h2=>(l.obj i a o h1 h2).keep (Mn.same s) fun u e=>s _ _ e⟩
theorem Rl.at(l:Rl K ρ H st)(h1:ρ[i]?=some a)(h2:st[i]?=some o)(hm:o.mut=true):∃u,H a=some u/\∀x y,u≠.mU x y:=by
 have r:=l.obj i a o h1 h2;cases o with
 |lst ds=>obtain ⟨vs,e,_⟩:=r;exact ⟨_,e,fun x y z=>nomatch z⟩
 |ot ds=>cases hm
 |dct kvs=>obtain ⟨ws,e,_⟩:=r;exact ⟨_,e,fun x y z=>nomatch z⟩
 |Fp kvs=>obtain ⟨ws,e,_⟩:=r;exact ⟨_,e,fun x y z=>by cases z⟩
 |exc c fs=>obtain ⟨C,dx,tr,_,e,_⟩:=r;exact ⟨_,e,fun x y z=>by cases z⟩
 |any=>cases hm
 |gS lo hi=>exact ⟨_,r,fun x y z=>nomatch z⟩
theorem Mn.new(hp:H p=none):Mn K ρ H (ρ ++ [p]) (upd H p ho):=⟨fun i a h=>by
  obtain ⟨hi,_⟩:=Wq.mp h
  rw [WG hi];exact h,fun _ _ h=>(Kp.of_same (ch:=[]) (jK.up hp)).HN h,fun _ _ _ h=>jK.up hp _ _ h,fun _ _ h=>jK.up hp _ _ h⟩
theorem Rl.new(l:Rl K ρ H st)(hp:H p=none)(mk:vK K (ρ ++ [p]) (upd H p ho) p o):Rl K (ρ ++ [p]) (upd H p ho) (st ++ [o]):=by
 have m:Mn K ρ H (ρ ++ [p]) (upd H p ho):=Mn.new hp;have split:∀(i:Nat) (a:Addr) (o':O),(ρ ++ [p])[i]?=some a->(st ++ [o])[i]?=some o'->(ρ[i]?=some a/\st[i]?=some o')\/(i=ρ.length/\a=p/\o'=o):=fun i a o' h1 h2=>by
  by_cases hi:i<ρ.length
  ·rw [WG hi] at h1
   rw [WG (by rw [<- l.len];exact hi)] at h2;exact .inl ⟨h1,h2⟩
  ·obtain ⟨hb,_⟩:=Wq.mp h1
   rw [Wt,XG] at hb;have e:i=ρ.length:=by omega
   subst e;rw [WN (Wv _),XA] at h1;rw [l.len,WN (Wv _),XA] at h2;exact .inr ⟨rfl,(WD h1).symm,(WD h2).symm⟩
 refine ⟨by rw [Wt,Wt,l.len];rfl,fun i j a u u' h1 h2 h3 h4 m1 m2=>?_,fun i a u h1 h2=>?_⟩
 ·rcases split i a u h1 h3 with ⟨g1,g2⟩|⟨rfl,rfl,rfl⟩<;>rcases split j _ u' h2 h4 with ⟨k1,k2⟩|⟨k1,k2,k3⟩
  ·exact l.nd i j a u u' g1 k1 g2 k2 m1 m2
  ·subst k2
   obtain ⟨w,e,_⟩:=l.at g1 g2 m1;rw [e] at hp;cases hp
  ·obtain ⟨w,e,_⟩:=l.at k1 k2 m2
   rw [e] at hp;cases hp
  ·exact k1.symm
 ·rcases split i a u h1 h2 with ⟨g1,g2⟩|⟨rfl,rfl,rfl⟩
  ·exact (l.obj i a u g1 g2).keep m fun w e=>jK.up hp _ _ e
  ·exact mk
theorem Rl.put(l:Rl K ρ H st)(hi:ρ[i]?=some a)(hs:st[i]?=some o)(hm:o.mut=true)(hm':o'.mut=true)(m:Mn K ρ H ρ (upd H a ho))(r:vK K ρ (upd H a ho) a o'):Rl K ρ (upd H a ho) (st.set i o'):=by
 obtain ⟨w,ew,nf⟩:=l.at hi hs hm;have Rr:i<st.length:=(Wq.mp hs).1;have old:∀(j:Nat) (u:O),(st.set i o')[j]?=some u->(j=i/\u=o')\/(j≠i/\st[j]?=some u):=fun j u h=>by
  by_cases hj:i=j
  ·subst hj
   rw [Wu Rr] at h;exact .inl ⟨rfl,(WD h).symm⟩
  ·rw [Wz hj] at h
   exact .inr ⟨fun z=>hj z.symm,h⟩
 refine ⟨by rw [W3];exact l.len,fun j k b u u' h1 h2 h3 h4 m1 m2=>?_,fun j b u h1 h2=>?_⟩
 ·rcases old j u h3 with ⟨rfl,rfl⟩|⟨nj,g3⟩<;>rcases old k u' h4 with ⟨rfl,rfl⟩|⟨nk,g4⟩
  ·rfl
  ·exact l.nd _ _ b o u' h1 h2 hs g4 hm m2
  ·exact l.nd _ _ b u o h1 h2 g3 hs m1 hm
  ·exact l.nd _ _ b u u' h1 h2 g3 g4 m1 m2
 ·rcases old j u h2 with ⟨rfl,rfl⟩|⟨nj,g2⟩
  ·rw [hi] at h1;cases h1;exact r
  ·by_cases hb:b=a
   ·subst hb
    cases u with
    |ot ds =>
     obtain ⟨vs,e,q⟩:=l.obj j b _ h1 g2;refine ⟨vs,?_,q.mn m⟩;rcases e with ⟨x,e⟩|e
     ·rw [ew] at e;cases e;exact absurd rfl (nf _ _)
     ·exact .inr e
    |lst ds=>exact absurd (l.nd j i b _ o h1 hi g2 hs rfl hm) nj
    |Fp ds=>exact absurd (l.nd j i b _ o h1 hi g2 hs rfl hm) nj
    |exc c fs=>exact absurd (l.nd j i b _ o h1 hi g2 hs rfl hm) nj
    |dct ds=>exact absurd (l.nd j i b _ o h1 hi g2 hs rfl hm) nj
    |any=>trivial
    |gS lo up=>exact absurd (l.nd j i b _ o h1 hi g2 hs rfl hm) nj
   ·exact (l.obj j b u h1 g2).keep m fun w e=>by rw [ki hb];exact e
theorem Mn.put{xs:List V}(e:H a=some (.lst xs)):Mn K ρ H ρ (upd H a ho):=⟨fun _ _ h=>h,fun b vs h=>(Kp.put (ch:=[a]) (o:=ho) Kp.refl (by simp) e).HN h,fun b o u h=>by rw [ki (fun z=>by rw [z,e] at h;cases h)];exact h,fun b ws h=>by rw [ki (fun z=>by rw [z,e] at h;cases h)];exact h⟩
theorem Mn.putD{ws:List (Key×V)}(e:H a=some (.dK ws)):Mn K ρ H ρ (upd H a ho):=⟨fun _ _ h=>h,fun b vs q=>by
 have ne:∀u,H b=some u->(∀w,u≠.dK w)->b≠a:=fun u hu n z=>by rw [z,e] at hu;cases hu;exact n _ rfl
 rcases q with (q|⟨o,q⟩)|q
 ·exact .inl (.inl (by rw [ki (ne _ q fun w z=>nomatch z)];exact q))
 ·exact .inl (.inr ⟨o,by rw [ki (ne _ q fun w z=>nomatch z)];exact q⟩)
 ·exact .inr q,fun b o u h=>by rw [ki (fun z=>by rw [z,e] at h;cases h)];exact h,fun b ws h=>by rw [ki (fun z=>by rw [z,e] at h;cases h)];exact h⟩
theorem Rl.newL{vs:List V}{ds:List D}(l:Rl K ρ H st)(hp:H p=none)(r:cY K ρ H vs ds):Rl K (ρ ++ [p]) (upd H p (.lst vs)) (st ++ [.lst ds]):=l.new hp ⟨vs,rf,r.mn (Mn.new hp)⟩
theorem Rl.newD{vs:List (Key×V)}{ds:List (Key×D)}(l:Rl K ρ H st)(hp:H p=none)(r:Rk K ρ H vs ds):Rl K (ρ ++ [p]) (upd H p (.dK vs)) (st ++ [.dct ds]):=l.new hp ⟨vs,rf,r.mn (Mn.new hp)⟩
theorem newR(l:Rl K ρ H st)(v:D:=.ref st.length):(ρ ++ [p])[st.length]?=some p:=by rw [<- l.len,WN (Wv _),XA];rfl
theorem Rl.putL{vs:List V}{ds xs:List D}(l:Rl K ρ H st)(hi:ρ[i]?=some a)(hs:st[i]?=some (.lst xs))(r:cY K ρ H vs ds):Rl K ρ (upd H a (.lst vs)) (st.set i (.lst ds))/\Mn K ρ H ρ (upd H a (.lst vs)):=by
 obtain ⟨ws,e,_⟩:=l.obj i a _ hi hs;have m:Mn K ρ H ρ (upd H a (.lst vs)):=Mn.put e;exact ⟨l.put hi hs rfl rfl m ⟨vs,rf,r.mn m⟩,m⟩
theorem Rl.xU{vs:List (Key×V)}{ds xs:List (Key×D)}(l:Rl K ρ H st)(hi:ρ[i]?=some a)(hs:st[i]?=some (.dct xs))(r:Rk K ρ H vs ds):Rl K ρ (upd H a (.dK vs)) (st.set i (.dct ds))/\Mn K ρ H ρ (upd H a (.dK vs)):=by
 obtain ⟨ws,e,_⟩:=l.obj i a _ hi hs;have m:Mn K ρ H ρ (upd H a (.dK vs)):=Mn.putD e;exact ⟨l.put hi hs rfl rfl m ⟨vs,rf,r.mn m⟩,m⟩
noncomputable def items(st:Store)(i:Nat):Option (List D):=match st[i]? with
 |some (.lst ds)=>some ds
 |some (.ot ds)=>some ds
 |_=>none
theorem Rl.items{ds:List D}(l:Rl K ρ H st)(hi:ρ[i]?=some a)(h:items st i=some ds):∃vs,kj K H a vs/\cY K ρ H vs ds:=by
 unfold L4.items at h;split at h
 ·next ds' hs=>cases h;obtain ⟨vs,e,r⟩:=l.obj i a _ hi hs;exact ⟨vs,.inl (.inl e),r⟩
 ·next ds' hs=>cases h;obtain ⟨vs,e,r⟩:=l.obj i a _ hi hs;exact ⟨vs,e.sq,r⟩
 ·cases h
end
noncomputable def So(K:Zfr){α β:Type}(R:List Addr->Hp->α->β->Prop)(t:St->Hp->(α->Hp->Prop)->Prop)(f:av->Dm β):Prop :=
 ∀(ρ:List Addr) (σ:St) (H:Hp) (δ:av) (st:Store) (b:β) (st':Store) (Q:α->Hp->Prop),Rl K ρ H st->Rs K ρ H σ δ->f δ st=some (b,st') ->
  (∀a H' ρ',Mn K ρ H ρ' H'->Rl K ρ' H' st'->R ρ' H' a b->Q a H')->t σ H Q
abbrev gC(K:Zfr)(t:TE)(f:av->Dm D):Prop:=So K (Rp K) t f
abbrev qr(K:Zfr)(t:TT)(f:av->Dm Bool):Prop:=So K (fun _ _=>Eq) t f
abbrev qR(K:Zfr)(t:TA)(f:av->Dm (List D)):Prop:=So K (cY K) t f
abbrev Fq(K:Zfr)(t:TO)(f:av->Dm (Option Int)):Prop:=So K (fun _ _=>Eq) t f
noncomputable def IY(K:Zfr)(r:V->Hp->VK->Prop)(g:D->Dm D):Prop :=
 ∀(ρ:List Addr) (H:Hp) (st:Store) (x:V) (a:D) (b:D) (st':Store) (Q:VK),Rl K ρ H st->Rp K ρ H x a->g a st=some (b,st')->(∀v H' ρ',Mn K ρ H ρ' H'->Rl K ρ' H' st'->Rp K ρ' H' v b->Q v H')->r x H Q
noncomputable def mF(K:Zfr)(r:R2)(g:D->D->Dm D):Prop :=
 ∀(ρ:List Addr) (H:Hp) (st:Store) (x y:V) (a c:D) (b:D) (st':Store) (Q:VK),Rl K ρ H st->Rp K ρ H x a->Rp K ρ H y c->g a c st=some (b,st')->(∀v H' ρ',Mn K ρ H ρ' H'->Rl K ρ' H' st'->Rp K ρ' H' v b->Q v H')->r x y H Q
noncomputable def rj(K:Zfr)(r:List V->Hp->VK->Prop)(g:List D->Dm D):Prop :=
 ∀(ρ:List Addr) (H:Hp) (st:Store) (xs:List V) (as:List D) (b:D) (st':Store) (Q:VK),Rl K ρ H st->cY K ρ H xs as->g as st=some (b,st')->(∀v H' ρ',Mn K ρ H ρ' H'->Rl K ρ' H' st'->Rp K ρ' H' v b->Q v H')->r xs H Q
noncomputable def tO(K:Zfr)(T:String)(r:V->List V->Hp->VK->Prop)(g:D->List D->Dm D):Prop :=
 ∀(ρ:List Addr) (H:Hp) (st:Store) (x:V) (xs:List V) (a:D) (as:List D) (b:D) (st':Store) (Q:VK),Rl K ρ H st->Rp K ρ H x a->cY K ρ H xs as->g a as st=some (b,st')->(∀v H' ρ',Mn K ρ H ρ' H'->Rl K ρ' H' st'->Rp K ρ' H' v b->Q v H')->r x xs H Q
noncomputable def bnd{α β:Type}(m:Option (α×Store))(k:α->Dm β):Option (β×Store):=match m with
 |some (a,st)=>k a st
 |none=>none
theorem eU{α β:Type}{m:Option (α×Store)}{k:α->Dm β}{r:β×Store}(h:bnd m k=some r):∃a st,m=some (a,st)/\k a st=some r:=by
 cases m with
 |none=>cases h
 |some p=>exact ⟨p.1,p.2,rfl,h⟩
section
variable {K:Zfr}
noncomputable def ah(i:Nat):av->Dm D:=fun δ st=>match δ[i]? with
 |some (some d)=>some (d,st)
 |_=>none
theorem aj(i:Nat):gC K (wX i) (ah i):=by
 intro ρ σ H δ st b st' Q l rs e q;unfold ah at e;split at e
 ·next d hd=>cases e;obtain ⟨v,ev,r⟩:=rs.2 i _ hd;exact ⟨v,ev,q v H ρ .refl l r⟩
 ·cases e
noncomputable def fC(d:D):av->Dm D:=fun _ st=>some (d,st)
theorem qS{v:V}{d:D}(h:∀ρ H,Rp K ρ H v d):gC K (tC v) (fC d):=by
 intro ρ σ H δ st b st' Q l rs e q;cases e;exact q v H ρ .refl l (h ρ H)
theorem aQ(i:Int):gC K (tC (.int i)) (fC (.int i)):=qS fun _ _=>.int i
theorem sA(b:Bool):gC K (tC (.bl b)) (fC (.bl b)):=qS fun _ _=>.bl b
theorem qu(x:Str):gC K (tC (.str x)) (fC (.str x)):=qS fun _ _=>.str x
theorem MA:gC K (tC .non) (fC .non):=qS fun _ _=>.non
theorem vL(n:String):gC K (tC (.ty n)) (fC (.ty n)):=qS fun _ _=>.ty n
noncomputable def aE(g:D->D->Dm D)(fa fb:av->Dm D):av->Dm D:=fun δ st=>bnd (fa δ st) fun a st1=>bnd (fb δ st1) fun b st2=>g a b st2
theorem aH{r:R2}{g:D->D->Dm D}{ta tb:TE}{fa fb:av->Dm D}(hr:mF K r g)(ha:gC K ta fa)(hb:gC K tb fb):gC K (Bo r ta tb) (aE g fa fb):=by
 intro ρ σ H δ st b st' Q l rs e q;obtain ⟨a,st1,e1,e⟩:=eU e;obtain ⟨c,st2,e2,e⟩:=eU e;refine ha ρ σ H δ st a st1 _ l rs e1 fun x H1 ρ1 m1 l1 r1=>hb ρ1 σ H1 δ st1 c st2 _ l1 (rs.mn m1) e2 fun y H2 ρ2 m2 l2 r2=>?_;exact hr ρ2 H2 st2 x y a c b st' Q l2 (r1.mn m2) r2 e fun v H3 ρ3 m3 l3 r3=>q v H3 ρ3 ((m1.trans m2).trans m3) l3 r3
noncomputable def uB(g:D->Dm D)(fa:av->Dm D):av->Dm D:=fun δ st=>bnd (fa δ st) fun a st1=>g a st1
theorem xV{r:V->Hp->VK->Prop}{g:D->Dm D}{ta:TE}{fa:av->Dm D}(hr:IY K r g)(ha:gC K ta fa):gC K (KP r ta) (uB g fa):=by
 intro ρ σ H δ st b st' Q l rs e q;obtain ⟨a,st1,e1,e⟩:=eU e;exact ha ρ σ H δ st a st1 _ l rs e1 fun x H1 ρ1 m1 l1 r1=>hr ρ1 H1 st1 x a b st' Q l1 r1 e fun v H3 ρ3 m3 l3 r3=>q v H3 ρ3 (m1.trans m3) l3 r3
noncomputable def ai:av->Dm (List D):=fun _ st=>some ([],st)
noncomputable def ae(fa:av->Dm D)(fr:av->Dm (List D)):av->Dm (List D):=fun δ st=>bnd (fa δ st) fun a st1=>bnd (fr δ st1) fun r st2=>some (a :: r,st2)
theorem ay:qR K Bt ai:=by
 intro ρ σ H δ st b st' Q l rs e q;cases e;exact q [] H ρ .refl l .nil
theorem au{ta:TE}{tr:TA}{fa:av->Dm D}{fr:av->Dm (List D)}(ha:gC K ta fa)(hr:qR K tr fr):qR K (va ta tr) (ae fa fr):=by
 intro ρ σ H δ st b st' Q l rs e q;obtain ⟨a,st1,e1,e⟩:=eU e;obtain ⟨c,st2,e2,e⟩:=eU e;cases e;exact ha ρ σ H δ st a st1 _ l rs e1 fun x H1 ρ1 m1 l1 r1=>hr ρ1 σ H1 δ st1 c _ _ l1 (rs.mn m1) e2 fun y H2 ρ2 m2 l2 r2=>q _ H2 ρ2 (m1.trans m2) l2 (.cons (r1.mn m2) r2)
noncomputable def lim(n:Nat):Bool:=Nat.ble n 100000
theorem Cy{n:Nat}(h:lim n=true):n<=sizeLine:=WZ (Nat.le_of_ble_eq_true h) (by decide)
theorem Fs{n:Nat}(h:lim n=true):n<sizeLine:=Xn (Nat.le_of_ble_eq_true h) (by decide)
noncomputable def bu(fa:av->Dm (List D)):av->Dm D:=fun δ st=>bnd (fa δ st) fun as st1=>if lim as.length=true then some (.tup as,st1) else none
theorem d7{ta:TA}{fa:av->Dm (List D)}(ha:qR K ta fa):gC K (Bu ta) (bu fa):=by
 intro ρ σ H δ st b st' Q l rs e q;obtain ⟨as,st1,e1,e⟩:=eU e;split at e
 ·next hl =>
  cases e;refine ha ρ σ H δ st as _ _ l rs e1 fun xs H1 ρ1 m1 l1 r1=>⟨by rw [r1.length];exact Cy hl,fun p hp=>?_⟩;have m2:Mn K ρ1 H1 ρ1 (upd H1 p (.tup xs)):=Mn.same (jK.up hp);exact q _ _ ρ1 (m1.trans m2) (l1.same (jK.up hp)) (.tup (fS.of rf) (r1.mn m2))
 ·cases e
noncomputable def cO(fa:av->Dm (List D)):av->Dm D:=fun δ st=>bnd (fa δ st) fun as st1=>if lim as.length=true then some (.ref st1.length,st1 ++ [.lst as]) else none
theorem jP{ta:TA}{fa:av->Dm (List D)}(ha:qR K ta fa):gC K (Bv ta) (cO fa):=by
 intro ρ σ H δ st b st' Q l rs e q;obtain ⟨as,st1,e1,e⟩:=eU e;split at e
 ·next hl =>
  cases e;refine ha ρ σ H δ st as _ _ l rs e1 fun xs H1 ρ1 m1 l1 r1=>⟨by rw [r1.length];exact Cy hl,fun p hp=>?_⟩;exact q _ _ _ (m1.trans (Mn.new hp)) (l1.newL hp r1) (.ref (newR l1))
 ·cases e
noncomputable def aI(fa:av->Dm D):av->Dm Bool:=fun δ st=>bnd (fa δ st) fun a st1=>match a with
 |.bl b=>some (b,st1)
 |_=>none
theorem dD{ta:TE}{fa:av->Dm D}(ha:gC K ta fa):qr K (u9 ta) (aI fa):=by
 intro ρ σ H δ st b st' Q l rs e q;obtain ⟨a,st1,e1,e⟩:=eU e;cases a<;>simp at e;obtain ⟨rfl,rfl⟩:=e;refine ha ρ σ H δ st _ _ _ l rs e1 fun x H1 ρ1 m1 l1 r1=>?_;cases r1;exact ⟨_,rfl,q _ H1 ρ1 m1 l1 rfl⟩
theorem IZ{ta:TE}{fa:av->Dm D}(ha:gC K ta fa):qr K (tB ta) (aI fa):=dD ha
noncomputable def sC(fa:av->Dm Bool):av->Dm Bool:=fun δ st=>bnd (fa δ st) fun a st1=>some (!a,st1)
theorem MB{ta:TT}{fa:av->Dm Bool}(ha:qr K ta fa):qr K (Bc ta) (sC fa):=by
 intro ρ σ H δ st b st' Q l rs e q;obtain ⟨a,st1,e1,e⟩:=eU e;cases e;exact ha ρ σ H δ st _ _ _ l rs e1 fun x H1 ρ1 m1 l1 r1=>q _ H1 ρ1 m1 l1 (by rw [r1])
noncomputable def qT(fa fb:av->Dm Bool):av->Dm Bool:=fun δ st=>bnd (fa δ st) fun a st1=>if a=true then fb δ st1 else some (false,st1)
noncomputable def rl(fa fb:av->Dm Bool):av->Dm Bool:=fun δ st=>bnd (fa δ st) fun a st1=>if a=true then some (true,st1) else fb δ st1
theorem Ja{ta tb:TT}{fa fb:av->Dm Bool}(ha:qr K ta fa)(hb:qr K tb fb):qr K (Bb ta tb) (qT fa fb):=by
 intro ρ σ H δ st b st' Q l rs e q;obtain ⟨a,st1,e1,e⟩:=eU e;refine ha ρ σ H δ st _ _ _ l rs e1 fun x H1 ρ1 m1 l1 r1=>?_;subst r1;cases x with
 |true =>
  refine qN ?_;rw [if_pos rfl] at e;exact hb ρ1 σ H1 δ st1 b st' _ l1 (rs.mn m1) e fun y H2 ρ2 m2 l2 r2=>q y H2 ρ2 (m1.trans m2) l2 r2
 |false =>
  refine qM ?_;rw [if_neg WA] at e;cases e;exact q _ H1 ρ1 m1 l1 rfl
theorem xW{ta tb:TT}{fa fb:av->Dm Bool}(ha:qr K ta fa)(hb:qr K tb fb):qr K (KD ta tb) (rl fa fb):=by
 intro ρ σ H δ st b st' Q l rs e q;obtain ⟨a,st1,e1,e⟩:=eU e;refine ha ρ σ H δ st _ _ _ l rs e1 fun x H1 ρ1 m1 l1 r1=>?_;subst r1;cases x with
 |false =>
  refine qM ?_;rw [if_neg WA] at e;exact hb ρ1 σ H1 δ st1 b st' _ l1 (rs.mn m1) e fun y H2 ρ2 m2 l2 r2=>q y H2 ρ2 (m1.trans m2) l2 r2
 |true =>
  refine qN ?_;rw [if_pos rfl] at e;cases e;exact q _ H1 ρ1 m1 l1 rfl
noncomputable def nh(fa fb:av->Dm D):av->Dm D:=fun δ st=>bnd (aI fa δ st) fun a st1=>if a=true then fb δ st1 else some (.bl false,st1)
noncomputable def Cz(fa fb:av->Dm D):av->Dm D:=fun δ st=>bnd (aI fa δ st) fun a st1=>if a=true then some (.bl true,st1) else fb δ st1
noncomputable def vM(fa:av->Dm D):av->Dm D:=fun δ st=>bnd (aI fa δ st) fun a st1=>some (.bl (!a),st1)
theorem Rv{fa:av->Dm D}{δ:av}{st st1:Store}{b:Bool}(h:aI fa δ st=some (b,st1)):fa δ st=some (.bl b,st1):=by
 obtain ⟨a,st2,e1,e⟩:=eU h;cases a<;>simp at e;obtain ⟨rfl,rfl⟩:=e;exact e1
theorem Ft{ta tb:TE}{fa fb:av->Dm D}(ha:gC K ta fa)(hb:gC K tb fb):gC K (uX ta tb) (nh fa fb):=by
 intro ρ σ H δ st b st' Q l rs e q;obtain ⟨a,st1,e1,e⟩:=eU e;refine ha ρ σ H δ st _ _ _ l rs (Rv e1) fun x H1 ρ1 m1 l1 r1=>?_;cases r1;refine ⟨a,rfl,?_⟩;cases a with
 |true =>
  refine qN ?_;rw [if_pos rfl] at e;exact hb ρ1 σ H1 δ st1 b st' _ l1 (rs.mn m1) e fun y H2 ρ2 m2 l2 r2=>q y H2 ρ2 (m1.trans m2) l2 r2
 |false =>
  refine qM ?_;rw [if_neg WA] at e;cases e;exact q _ H1 ρ1 m1 l1 (.bl _)
noncomputable def eB{β:Type}(c:av->Dm Bool)(fa fb:av->Dm β):av->Dm β:=fun δ st=>bnd (c δ st) fun a st1=>if a=true then fa δ st1 else fb δ st1
noncomputable def jf:av->Dm (Option Int):=fun _ st=>some (none,st)
noncomputable def mv(fa:av->Dm D):av->Dm (Option Int):=fun δ st=>bnd (fa δ st) fun a st1=>match a with
 |.int i=>some (some i,st1)
 |_=>none
theorem CA:Fq K qb jf:=by
 intro ρ σ H δ st b st' Q l rs e q;cases e;exact q _ H ρ .refl l rfl
theorem CB{ta:TE}{fa:av->Dm D}(ha:gC K ta fa):Fq K (ve ta) (mv fa):=by
 intro ρ σ H δ st b st' Q l rs e q;obtain ⟨a,st1,e1,e⟩:=eU e;cases a<;>simp at e;obtain ⟨rfl,rfl⟩:=e;refine ha ρ σ H δ st _ _ _ l rs e1 fun x H1 ρ1 m1 l1 r1=>?_;cases r1;exact ⟨_,rfl,q _ H1 ρ1 m1 l1 rfl⟩
noncomputable def xX(K:Zfr)(r:V->Option Int->Option Int->Hp->VK->Prop)(g:D->Option Int->Option Int->Dm D):Prop :=
 ∀lo hi,IY K (fun x=>r x lo hi) (fun a=>g a lo hi)
noncomputable def vN(g:D->Option Int->Option Int->Dm D)(fa:av->Dm D)(fl fh:av->Dm (Option Int)):av->Dm D:=fun δ st=>bnd (fa δ st) fun a st1=>bnd (fl δ st1) fun lo st2=>bnd (fh δ st2) fun hi st3=>g a lo hi st3
theorem CC{r:V->Option Int->Option Int->Hp->VK->Prop}{g:D->Option Int->Option Int->Dm D}{ta:TE}{tl th:TO}{fa:av->Dm D}{fl fh:av->Dm (Option Int)}(hr:xX K r g)(ha:gC K ta fa)(hl:Fq K tl fl)(hh:Fq K th fh):gC K (Ld r ta tl th) (vN g fa fl fh):=by
 intro ρ σ H δ st b st' Q l rs e q;obtain ⟨a,st1,e1,e⟩:=eU e;obtain ⟨lo,st2,e2,e⟩:=eU e;obtain ⟨hi,st3,e3,e⟩:=eU e;refine ha ρ σ H δ st a st1 _ l rs e1 fun x H1 ρ1 m1 l1 r1=>hl ρ1 σ H1 δ st1 lo st2 _ l1 (rs.mn m1) e2 fun y H2 ρ2 m2 l2 r2=>hh ρ2 σ H2 δ st2 hi st3 _ l2 (rs.mn (m1.trans m2)) e3 fun z H3 ρ3 m3 l3 r3=>?_;subst r2 r3;exact hr y z ρ3 H3 st3 x a b st' Q l3 (r1.mn (m2.trans m3)) e fun v H4 ρ4 m4 l4 r4=>q v H4 ρ4 (((m1.trans m2).trans m3).trans m4) l4 r4
noncomputable def aM(g:List D->Dm D)(fa:av->Dm (List D)):av->Dm D:=fun δ st=>bnd (fa δ st) fun as st1=>g as st1
theorem bS{r:List V->Hp->VK->Prop}{g:List D->Dm D}{ta:TA}{fa:av->Dm (List D)}(hr:rj K r g)(ha:qR K ta fa):gC K (Hv r ta) (aM g fa):=by
 intro ρ σ H δ st b st' Q l rs e q;obtain ⟨as,st1,e1,e⟩:=eU e;exact ha ρ σ H δ st as st1 _ l rs e1 fun x H1 ρ1 m1 l1 r1=>hr ρ1 H1 st1 x as b st' Q l1 r1 e fun v H3 ρ3 m3 l3 r3=>q v H3 ρ3 (m1.trans m3) l3 r3
noncomputable def bP(K:Zfr)(n:Nat)(F:List D->Dm D):Sp:=fun vs H Q _=>vs.length=n/\∃(ρ:List Addr) (st:Store) (ds:List D) (b:D) (st':Store),Rl K ρ H st/\cY K ρ H vs ds/\F ds st=some (b,st') /\
 ∀v H' ρ',Mn K ρ H ρ' H'->Rl K ρ' H' st'->Rp K ρ' H' v b->Q v H'
theorem b7{n:Nat}{F:List D->Dm D}{ta:TA}{fa:av->Dm (List D)}{E:XK}(ha:qR K ta fa)(hn:∀δ st as st',fa δ st=some (as,st')->as.length=n):gC K (oX (bP K n F) [] E ta) (aM F fa):=by
 intro ρ σ H δ st b st' Q l rs e q;obtain ⟨as,st1,e1,e⟩:=eU e;refine ha ρ σ H δ st as st1 _ l rs e1 fun vs H1 ρ1 m1 l1 r1=>⟨?_,ρ1,st1,as,b,st',l1,?_,e,fun v H3 ρ3 m3 l3 r3=>q v H3 ρ3 (m1.trans m3) l3 r3⟩
 ·rw [Xy,r1.length];exact hn _ _ _ _ e1
 ·rw [Xy];exact r1
theorem Rw{δ:av}{st st':Store}{as:List D}(h:ai δ st=some (as,st')):as.length=0:=by cases h;rfl
theorem Fu{fa:av->Dm D}{fr:av->Dm (List D)}{n:Nat}(hr:∀δ st as st',fr δ st=some (as,st')->as.length=n):∀δ st as st',ae fa fr δ st=some (as,st')->as.length=n+1:=fun δ st as st' h=>by
 obtain ⟨a,st1,e1,e⟩:=eU h;obtain ⟨c,st2,e2,e⟩:=eU e;cases e;rw [WX,hr _ _ _ _ e2]
end
end L4
namespace L4
open PySem PySem.Spec L2
section
variable {K:Zfr}
noncomputable def vO(h:Int->Int->D):D->D->Dm D
 |.int i,.int j,st=>some (h i j,st)
 |_,_,_=>none
theorem Ai{gv:Int->Int->V}{h:Int->Int->D}(hh:∀i j ρ H,Rp K ρ H (gv i j) (h i j)):mF K (pH gv) (vO h):=by
 intro ρ H st x y a c b st' Q l rx ry e q;unfold vO at e;split at e
 ·cases e;cases rx;cases ry;exact ⟨_,_,rfl,rfl,q _ H ρ .refl l (hh _ _ ρ H)⟩
 ·cases e
noncomputable def xY(c:Int->Int->Bool)(h:Int->Int->D):D->D->Dm D
 |.int i,.int j,st=>if c i j=true then some (h i j,st) else none
 |_,_,_=>none
theorem Fv{C:Int->Int->Prop}{c:Int->Int->Bool}{gv:Int->Int->V}{h:Int->Int->D}(hc:∀i j,c i j=true->C i j)(hh:∀i j ρ H,Rp K ρ H (gv i j) (h i j)):mF K (rI C gv) (xY c h):=by
 intro ρ H st x y a d b st' Q l rx ry e q;unfold xY at e;split at e
 ·split at e
  ·next hcc=>cases e;cases rx;cases ry;exact ⟨_,_,rfl,rfl,hc _ _ hcc,q _ H ρ .refl l (hh _ _ ρ H)⟩
  ·cases e
 ·cases e
noncomputable def eP:D->D->Dm D:=vO fun i j=>.int (i+j)
noncomputable def mX:D->D->Dm D:=vO fun i j=>.int (i-j)
noncomputable def mG:D->D->Dm D:=xY (fun i j=>decide (-18446744073709551616<i/\i<18446744073709551616) || decide (-18446744073709551616<j/\j<18446744073709551616)) fun i j=>.int (i*j)
noncomputable def o6:D->D->Dm D:=xY (fun i j=>decide (0<j/\j<1073741824)) fun i j=>.int (i / j)
noncomputable def jL:D->D->Dm D:=xY (fun i j=>decide (0<j)) fun i j=>.int (i % j)
noncomputable def sD:D->D->Dm D:=xY (fun i j=>decide (0<=j/\j<=1000000/\i.natAbs<18446744073709551616)) fun i j=>.int (i ^ j.toNat)
noncomputable def rm:D->D->Dm D:=vO fun i j=>.bl (decide (i<j))
noncomputable def Jb:D->D->Dm D:=vO fun i j=>.bl (decide (i<=j))
noncomputable def vP:D->D->Dm D:=vO fun i j=>.bl (decide (j<i))
noncomputable def CD:D->D->Dm D:=vO fun i j=>.bl (decide (j<=i))
theorem mw:mF K (pH fun i j=>.int (i+j)) eP:=Ai fun _ _ _ _=>.int _
theorem Aj:mF K (pH fun i j=>.int (i-j)) mX:=Ai fun _ _ _ _=>.int _
theorem uC:mF K (rI ug fun i j=>.int (i*j)) mG:=Fv (fun i j h=>by
 rw [Bool.or_eq_true,decide_eq_true_eq,decide_eq_true_eq] at h
 exact h) fun _ _ _ _=>.int _
theorem MC:mF K (rI Bq fun i j=>.int (i / j)) o6:=Fv (fun i j h=>of_decide_eq_true (p:=0<j/\j<1073741824) h) fun _ _ _ _=>.int _
theorem qv:mF K (rI (fun _ j=>0<j) fun i j=>.int (i % j)) jL:=Fv (fun i j h=>of_decide_eq_true h) fun _ _ _ _=>.int _
theorem MD:mF K (rI Br fun i j=>.int (i ^ j.toNat)) sD:=Fv (fun i j h=>by have h:=of_decide_eq_true (p:=0<=j/\j<=1000000/\i.natAbs<18446744073709551616) h;exact ⟨h.1,h.2.1,by omega⟩) fun _ _ _ _=>.int _
theorem uD:mF K (pH fun i j=>.bl (decide (i<j))) rm:=Ai fun _ _ _ _=>.bl _
theorem CF:mF K (pH fun i j=>.bl (decide (i<=j))) Jb:=Ai fun _ _ _ _=>.bl _
theorem Ak:mF K (pH fun i j=>.bl (decide (j<i))) vP:=Ai fun _ _ _ _=>.bl _
theorem vQ:mF K (pH fun i j=>.bl (decide (j<=i))) CD:=Ai fun _ _ _ _=>.bl _
noncomputable def nH:D->Dm D
 |.int i,st=>some (.int (-i),st)
 |_,_=>none
theorem xZ:IY K (rU fun i=>.int (-i)) nH:=by
 intro ρ H st x a b st' Q l rx e q;unfold nH at e;split at e
 ·cases e;cases rx;exact ⟨_,rfl,q _ H ρ .refl l (.int _)⟩
 ·cases e
noncomputable def sV:D->Option V
 |.non=>some .non
 |.bl b=>some (.bl b)
 |.int i=>some (.int i)
 |.str x=>some (.str x)
 |_=>none
theorem Al{ρ:List Addr}{H:Hp}{x v:V}{a:D}(r:Rp K ρ H x a)(h:sV a=some v):x=v:=by
 cases r<;>first|(cases h;rfl)|cases h
noncomputable def iS(neg:Bool):D->D->Dm D:=fun a b st=>match sV a,sV b with
 |some x,some y=>if n9 x y=true then some (.bl (if neg then !decide (x=y) else decide (x=y)),st) else none
 |_,_=>none
theorem lY:mF K KS (iS false):=by
 intro ρ H st x y a c b st' Q l rx ry e q;unfold iS at e;split at e
 ·next u v h1 h2 =>
  split at e
  ·next hs=>cases e;cases Al rx h1;cases Al ry h2;exact ⟨hs,q _ H ρ .refl l (.bl _)⟩
  ·cases e
 ·cases e
theorem Fw:mF K KU (iS true):=by
 intro ρ H st x y a c b st' Q l rx ry e q;unfold iS at e;split at e
 ·next u v h1 h2 =>
  split at e
  ·next hs=>cases e;cases Al rx h1;cases Al ry h2;exact ⟨hs,q _ H ρ .refl l (.bl _)⟩
  ·cases e
 ·cases e
noncomputable def cH{α β:Type}(f:α->Option β):List α->Option (List β)
 |[]=>some []
 |a :: r=>match f a,cH f r with
  |some b,some s=>some (b :: s)
  |_,_=>none
theorem Am{α β:Type}{f:α->Option β}{a:α}{r:List α}{s:List β}(h:cH f (a :: r)=some s):∃b t,f a=some b/\cH f r=some t/\s=b :: t:=by
 unfold cH at h;split at h
 ·next b t h1 h2=>cases h;exact ⟨b,t,h1,h2,rfl⟩
 ·cases h
theorem vR{α β γ:Type}{f:α->Option β}{g:γ->α}{k:γ->β}(h:∀c,f (g c)=some (k c)):∀l:List γ,cH f (l.map g)=some (l.map k)
 |[]=>rfl
 |c :: r=>by
  show cH f (g c :: r.map g)=_;unfold cH;rw [h c,vR h r];rfl
noncomputable def gp(st:Store):Nat->D->Option PyData
 |0,_=>none
 |_+1,.non=>some .none
 |_+1,.bl b=>some (.bool b)
 |_+1,.int i=>some (.int i)
 |_+1,.str x=>some (.str x)
 |_+1,.ty _=>none
 |n+1,.tup ds=>(cH (gp st n) ds).map PyData.tuple
 |n+1,.ref i=>match items st i with
  |some ds=>(cH (gp st n) ds).map PyData.list
  |none=>none
theorem An{ρ:List Addr}{H:Hp}{st:Store}(l:Rl K ρ H st):∀(n:Nat) {v:V} {d:D} {p:PyData},Rp K ρ H v d->gp st n d=some p->Rep K H v p
 |0,_,_,_,_,h=>by simp [gp] at h
 |n+1,v,d,p,r,h=>by
  have all:∀{vs:List V} {ds:List D} {ps:List PyData},cY K ρ H vs ds->cH (gp st n) ds=some ps->gy K H vs ps:=by
   intro vs ds ps rr
   induction vs generalizing ds ps with
   |nil=>intro hm;cases rr;cases hm;exact .nil
   |cons w ws ih =>
    intro hm;cases rr with
    |cons ra rb =>
     obtain ⟨b,t,h1,h2,rfl⟩:=Am hm;exact .cons (An l n ra h1) (ih rb h2)
  cases r with
  |non=>simp [gp] at h;subst h;exact .non
  |bl b=>simp [gp] at h;subst h;exact .bl b
  |int i=>simp [gp] at h;subst h;exact .int i
  |str x=>simp [gp] at h;subst h;exact .str x
  |ty n=>simp [gp] at h
  |ref hi =>
   simp only [gp] at h;split at h
   ·next ds hd =>
    obtain ⟨ps,h1,rfl⟩:=W2.mp h;obtain ⟨vs,e,rr⟩:=l.items hi hd;exact .lst e (all rr h1)
   ·cases h
  |tup q rr =>
   simp only [gp] at h;obtain ⟨ps,h1,rfl⟩:=W2.mp h;exact .tup q (all rr h1)
noncomputable def gD(neg:Bool):D->D->Dm D:=fun a b st=>match gp st 20 a,gp st 20 b with
 |some p,some q=>if (PyData.canLay0 p && PyData.canLay0 q && decide (min p.depth q.depth<=60))=true then some (.bl (if neg then !PyData.eqv p q else PyData.eqv p q),st) else none
 |_,_=>none
theorem sE(neg:Bool):mF K (xu K neg) (gD neg):=by
 intro ρ H st x y a c b st' Q l rx ry e q;unfold gD at e;split at e
 ·next u v h1 h2 =>
  split at e
  ·next hs =>
   cases e;rw [WU,WU,decide_eq_true_eq] at hs;exact ⟨u,v,An l 20 rx h1,An l 20 ry h2,hs.1.1,hs.1.2,hs.2,q _ H ρ .refl l (.bl _)⟩
  ·cases e
 ·cases e
theorem at_of{ρ:List Addr}{H:Hp}{vs:List V}{ds:List D}{i:Int}{d:D}(r:cY K ρ H vs ds)(h:eW ds i=some d):∃v,eW vs i=some v/\Rp K ρ H v d:=by
 unfold eW at h ⊢;rw [r.length];cases hx:mC ds.length i with
 |none=>rw [hx] at h;cases h
 |some j =>
  rw [hx] at h;exact r.got h
noncomputable def bh:D->D->Dm D
 |.tup ds,.int i,st=>match eW ds i with
  |some d=>some (d,st)
  |none=>none
 |_,_,_=>none
theorem dO:mF K (xl K) bh:=by
 intro ρ H st x y a c b st' Q l rx ry e q;unfold bh at e;split at e
 ·split at e
  ·next d hd =>
   cases e;cases ry;cases rx with
   |tup s r =>
    obtain ⟨v,hv,rv⟩:=at_of r hd;exact ⟨_,_,_,v,rfl,rfl,s,hv,q v H ρ .refl l rv⟩
  ·cases e
 ·cases e
noncomputable def bM:D->D->Dm D
 |.ref r,.int i,st=>match items st r with
  |some ds=>match eW ds i with
   |some d=>some (d,st)
   |none=>none
  |none=>none
 |_,_,_=>none
theorem fT:mF K (xk K) bM:=by
 intro ρ H st x y a c b st' Q l rx ry e q;unfold bM at e;split at e
 ·split at e
  ·next ds hi =>
   split at e
   ·next d hd =>
    cases e;cases ry;cases rx with
    |ref hr =>
     obtain ⟨vs,s,r⟩:=l.items hr hi;obtain ⟨v,hv,rv⟩:=at_of r hd;exact ⟨_,_,_,v,rfl,rfl,s,hv,q v H ρ .refl l rv⟩
   ·cases e
  ·cases e
 ·cases e
noncomputable def x4:D->D->Dm D
 | .str z,.int i,st=>if lim z.length=true then match eW z.cps.toList i with
   |some c=>some (.str ⟨#[c]⟩,st)
   |none=>none
  else none
 |_,_,_=>none
noncomputable def cutD(xs:List D)(lo hi:Option Int):List D:=(xs.drop (HT.c7 xs.length 0 lo)).take (HT.c7 xs.length xs.length hi-HT.c7 xs.length 0 lo)
theorem cY.cut{ρ:List Addr}{H:Hp}{vs:List V}{ds:List D}(r:cY K ρ H vs ds)(lo hi:Option Int):cY K ρ H (mZ vs lo hi) (cutD ds lo hi):=by
 unfold mZ cutD;rw [r.length];exact (r.drop _).take _
noncomputable def x6:D->Option Int->Option Int->Dm D
 |.tup ds,lo,hi,st=>some (.tup (cutD ds lo hi),st)
 |_,_,_,_=>none
theorem got{ρ:List Addr}{H:Hp}{st:Store}{vs:List V}{ds:List D}{Q:VK}(l:Rl K ρ H st)(r:cY K ρ H vs ds)(q:∀v H' ρ',Mn K ρ H ρ' H'->Rl K ρ' H' st->Rp K ρ' H' v (.tup ds)->Q v H'):pJ K H vs Q :=
 fun p H' s e=>q _ H' ρ (Mn.same e) (l.same e) (.tup s (r.mn (Mn.same e)))
theorem ya:xX K (vw K) x6:=by
 intro lo hi ρ H st x a b st' Q l rx e q;cases a with
 |tup ds =>
  cases e;cases rx with
  |tup s r=>exact ⟨_,_,rfl,s,got l (r.cut lo hi) q⟩
 |_=>cases e
noncomputable def pP:D->Option Int->Option Int->Dm D
 |.ref r,lo,hi,st=>match items st r with
  |some ds=>some (.ref st.length,st ++ [.lst (cutD ds lo hi)])
  |none=>none
 |_,_,_,_=>none
theorem Fx:xX K (BD K) pP:=by
 intro lo hi ρ H st x a b st' Q l rx e q;cases a with
 |ref i =>
  simp only [pP] at e;split at e
  ·next ds hd =>
   cases e;cases rx with
   |ref hr =>
    obtain ⟨vs,s,r⟩:=l.items hr hd;exact ⟨_,_,rfl,s,fun p hp=>q _ _ _ (Mn.new hp) (l.newL hp (r.cut lo hi)) (.ref (newR l))⟩
  ·cases e
 |_=>cases e
noncomputable def jT:D->D->Dm D
 |.tup a,.tup b,st=>if lim (a.length+b.length)=true then some (.tup (a ++ b),st) else none
 |_,_,_=>none
theorem yb:mF K (rW K) jT:=by
 intro ρ H st x y a c b st' Q l rx ry e q;unfold jT at e;split at e
 ·split at e
  ·next hl =>
   cases e;cases rx with
   |tup s r =>
    cases ry with
    |tup s' r'=>exact ⟨_,_,_,_,rfl,rfl,s,s',by rw [r.length,r'.length];exact Cy hl,got l (r.append r') q⟩
  ·cases e
 ·cases e
noncomputable def own(st:Store)(i:Nat):Option (List D):=match st[i]? with
 |some (.lst ds)=>some ds
 |_=>none
theorem pA{st:Store}{i:Nat}{ds:List D}(h:own st i=some ds):st[i]?=some (.lst ds):=by
 unfold own at h;split at h
 ·next ds' hs=>cases h;exact hs
 ·cases h
noncomputable def kJ:D->D->Dm D
 |.ref i,.ref j,st=>match own st i,own st j with
  |some a,some b=>if lim (a.length+b.length)=true then some (.ref st.length,st ++ [.lst (a ++ b)]) else none
  |_,_=>none
 |_,_,_=>none
theorem qU:mF K BI kJ:=by
 intro ρ H st x y a c b st' Q l rx ry e q;unfold kJ at e;split at e
 ·split at e
  ·next a b h1 h2 =>
   split at e
   ·next hl =>
    cases e;cases rx with
    |ref hi =>
     cases ry with
     |ref hj =>
      obtain ⟨vs,e1,r1⟩:=l.obj _ _ _ hi (pA h1);obtain ⟨ws,e2,r2⟩:=l.obj _ _ _ hj (pA h2);exact ⟨_,_,_,_,rfl,rfl,e1,e2,by rw [r1.length,r2.length];exact Cy hl,fun p hp=>q _ _ _ (Mn.new hp) (l.newL hp (r1.append r2)) (.ref (newR l))⟩
   ·cases e
  ·cases e
 ·cases e
noncomputable def sF:D->D->Dm D
 |.ref i,.int k,st=>match own st i with
  |some a=>if (decide (-9223372036854775808<=k/\k<9223372036854775808) && lim (a.length*k.toNat))=true then some (.ref st.length,st ++ [.lst (List.replicate k.toNat a).flatten]) else none
  |_=>none
 |_,_,_=>none
theorem ME{ρ:List Addr}{H:Hp}:∀{ws vs:List V} {ds:List D},cY K ρ H ws ds->cH sV ds=some vs->ws=vs
 |_,_,_,.nil,h=>by cases h;rfl
 |_,_,_,.cons a b,h=>by
  obtain ⟨x,t,h1,h2,rfl⟩:=Am h;rw [Al a h1,ME b h2]
theorem MF{a:D}{v:V}(h:sV a=some v):kP v=true:=by cases a<;>first|(cases h;rfl)|cases h
theorem MG:∀{ds:List D} {vs:List V},cH sV ds=some vs->vs.all kP=true
 |[],_,h=>by cases h;rfl
 |d :: r,_,h=>by
  obtain ⟨x,t,h1,h2,rfl⟩:=Am h;rw [List.all_cons,MF h1,MG h2];rfl
noncomputable def dv(st:Store):D->Option (List D)
 |.tup ds=>some ds
 |.ref i=>items st i
 |_=>none
theorem Fy{ρ:List Addr}{H:Hp}{st:Store}{x:V}{a:D}{ds:List D}(l:Rl K ρ H st)(r:Rp K ρ H x a)(h:dv st a=some ds):∃p vs,x=.ref p/\(kj K H p vs\/fS K H p vs)/\cY K ρ H vs ds:=by
 cases r<;>first|(cases h;done)|skip
 ·next hi=>obtain ⟨vs,s,r⟩:=l.items hi h;exact ⟨_,vs,rfl,.inl s,r⟩
 ·next s r=>cases h;exact ⟨_,_,rfl,.inr s,r⟩
noncomputable def rn(neg:Bool):D->D->Dm D:=fun a c st=>match sV a,(dv st c).bind (cH sV) with
 |some x,some vs=>some (.bl (if neg then !vk x vs else vk x vs),st)
 |_,_=>none
theorem CG(neg:Bool):mF K (HD K neg) (rn neg):=by
 intro ρ H st x y a c b st' Q l rx ry e q;unfold rn at e;split at e
 ·next u vs h1 h2 =>
  cases e;obtain ⟨ds,h3,h4⟩:=Xi.mp h2;obtain ⟨p,ws,rfl,s,r⟩:=Fy l ry h3;cases Al rx h1;cases ME r h4;exact ⟨p,_,rfl,s,MF h1,MG h4,q _ H ρ .refl l (.bl _)⟩
 ·cases e
theorem cY.one'{ρ:List Addr}{H:Hp}{vs:List V}{d:D}(r:cY K ρ H vs [d]):∃v,vs=[v]/\Rp K ρ H v d:=by cases r with|cons a b=>cases b;exact ⟨_,rfl,a⟩
theorem cY.two'{ρ:List Addr}{H:Hp}{vs:List V}{d e:D}(r:cY K ρ H vs [d,e]):∃v w,vs=[v,w]/\Rp K ρ H v d/\Rp K ρ H w e:=by
 cases r with
 |cons a b=>obtain ⟨w,rfl,r⟩:=b.one';exact ⟨_,_,rfl,a,r⟩
noncomputable def cq:List D->Dm D
 |[a],st=>match dv st a with
  |some ds=>some (.int ds.length,st)
  |none=>none
 |_,_=>none
theorem iG:rj K (fun xs H Q=>∃p ys,xs=[.ref p]/\(kj K H p ys\/fS K H p ys)/\Q (.int ys.length) H) cq:=by
 intro ρ H st xs as b st' Q l rx e q;unfold cq at e;split at e
 ·split at e
  ·next ds hd =>
   cases e;obtain ⟨v,rfl,r⟩:=rx.one';obtain ⟨p,vs,rfl,s,r⟩:=Fy l r hd;exact ⟨p,vs,rfl,s,q _ H ρ .refl l (by rw [r.length];exact .int _)⟩
  ·cases e
 ·cases e
noncomputable def lJ:List D->Dm D
 |[a],st=>match dv st a with
  |some ds=>some (.ref st.length,st ++ [.lst ds])
  |none=>none
 |_,_=>none
theorem Ao:rj K (fun xs H Q=>∃p ys,xs=[.ref p]/\(kj K H p ys\/fS K H p ys)/\∀l,H l=none->Q (.ref l) (upd H l (.lst ys))) lJ:=by
 intro ρ H st xs as b st' Q l rx e q;unfold lJ at e;split at e
 ·split at e
  ·next ds hd =>
   cases e;obtain ⟨v,rfl,r⟩:=rx.one';obtain ⟨p,vs,rfl,s,r⟩:=Fy l r hd;exact ⟨p,vs,rfl,s,fun p hp=>q _ _ _ (Mn.new hp) (l.newL hp r) (.ref (newR l))⟩
  ·cases e
 ·cases e
noncomputable def bK:List D->Dm D
 |[a],st=>match dv st a with
  |some ds=>some (.tup ds,st)
  |none=>none
 |_,_=>none
theorem mx:rj K (fun xs H Q=>∃p ys,xs=[.ref p]/\((kj K H p ys/\∀l,H l=none->Q (.ref l) (upd H l (.tup ys)))\/(fS K H p ys/\Q (.ref p) H))) bK:=by
 intro ρ H st xs as b st' Q l rx e q;unfold bK at e;split at e
 ·split at e
  ·next ds hd =>
   cases e;obtain ⟨v,rfl,r⟩:=rx.one';obtain ⟨p,vs,rfl,s,r'⟩:=Fy l r hd;refine ⟨p,vs,rfl,?_⟩;rcases s with s|s
   ·exact .inl ⟨s,(got l r' q).new⟩
   ·exact .inr ⟨s,(got l r' q).it s⟩
  ·cases e
 ·cases e
noncomputable def nU:List D->Dm D
 |[.int i,.int j],st=>some (.int (if j > i then j else i),st)
 |_,_=>none
noncomputable def qw:List D->Dm D
 |[.int i,.int j],st=>some (.int (if j<i then j else i),st)
 |_,_=>none
theorem Jc:rj K (fun xs H Q=>∃i j,xs=[.int i,.int j]/\Q (.int (if j > i then j else i)) H) nU:=by
 intro ρ H st xs as b st' Q l rx e q;unfold nU at e;split at e
 ·cases e
  obtain ⟨v,w,rfl,r1,r2⟩:=rx.two';cases r1;cases r2;exact ⟨_,_,rfl,q _ H ρ .refl l (.int _)⟩
 ·cases e
theorem Rx:rj K (fun xs H Q=>∃i j,xs=[.int i,.int j]/\Q (.int (if j<i then j else i)) H) qw:=by
 intro ρ H st xs as b st' Q l rx e q;unfold qw at e;split at e
 ·cases e
  obtain ⟨v,w,rfl,r1,r2⟩:=rx.two';cases r1;cases r2;exact ⟨_,_,rfl,q _ H ρ .refl l (.int _)⟩
 ·cases e
noncomputable def o7:List D->Dm D
 |[.int i],st=>some (.int i,st)
 |[.bl k],st=>some (.int (if k then 1 else 0),st)
 |_,_=>none
theorem Ry:rj K (fun xs H Q=>(∃i,xs=[.int i]/\Q (.int i) H)\/∃k,xs=[.bl k]/\Q (.int (if k then 1 else 0)) H) o7:=by
 intro ρ H st xs as b st' Q l rx e q;unfold o7 at e;split at e
 ·cases e
  obtain ⟨v,rfl,r⟩:=rx.one';cases r;exact .inl ⟨_,rfl,q _ H ρ .refl l (.int _)⟩
 ·cases e
  obtain ⟨v,rfl,r⟩:=rx.one';cases r;exact .inr ⟨_,rfl,q _ H ρ .refl l (.int _)⟩
 ·cases e
noncomputable def jg:List D->Dm D
 |[.int j],st=>some (.ref st.length,st ++ [.gS 0 j])
 |_,_=>none
noncomputable def dk:List D->Dm D
 |[.int i,.int j],st=>some (.ref st.length,st ++ [.gS i j])
 |_,_=>none
theorem Fz:rj K (fun xs H Q=>∃j:Int,xs=[.int j]/\∀p,H p=none->Q (.ref p) (upd H p (.gS 0 j))) jg:=by
 intro ρ H st xs as b st' Q l rx e q;unfold jg at e;split at e
 ·cases e
  obtain ⟨v,rfl,r⟩:=rx.one';cases r;exact ⟨_,rfl,fun p hp=>q _ _ _ (Mn.new hp) (l.new hp (show vK K _ _ p (.gS _ _) from rf)) (.ref (newR l))⟩
 ·cases e
theorem tP:rj K (fun xs H Q=>∃i j:Int,xs=[.int i,.int j]/\∀p,H p=none->Q (.ref p) (upd H p (.gS i j))) dk:=by
 intro ρ H st xs as b st' Q l rx e q;unfold dk at e;split at e
 ·cases e
  obtain ⟨v,w,rfl,r1,r2⟩:=rx.two';cases r1;cases r2;exact ⟨_,_,rfl,fun p hp=>q _ _ _ (Mn.new hp) (l.new hp (show vK K _ _ p (.gS _ _) from rf)) (.ref (newR l))⟩
 ·cases e
noncomputable def aA(lo:Int)(n:Nat):List D:=(List.range n).map fun (k:Nat)=>D.int (lo+k)
theorem Rz{ρ:List Addr}{H:Hp}(lo:Int)(n:Nat):cY K ρ H (gx lo n) (aA lo n):=by
 unfold gx aA
 induction (List.range n) with
 |nil=>exact .nil
 |cons a r ih=>exact .cons (.int _) ih
noncomputable def lK(lo hi:Int):Bool:=decide (-4611686018427387904<=lo/\lo<4611686018427387904/\-4611686018427387904<=hi/\hi<4611686018427387904) && lim (hi-lo).toNat
theorem MH{lo hi:Int}(h:lK lo hi=true):(-(2 ^ 62)<=lo/\lo<2 ^ 62/\-(2 ^ 62)<=hi/\hi<2 ^ 62)/\(hi-lo).toNat<=2 ^ 24:=by
 unfold lK at h;rw [WU,decide_eq_true_eq] at h;exact ⟨by omega,WZ (Nat.le_of_ble_eq_true h.2) (by decide)⟩
noncomputable def jJ(st:Store):D->Option (Int×Int)
 |.ref i=>match st[i]? with
  |some (.gS lo hi)=>some (lo,hi)
  |_=>none
 |_=>none
theorem yc{ρ:List Addr}{H:Hp}{st:Store}{x:V}{a:D}{lo hi:Int}(l:Rl K ρ H st)(r:Rp K ρ H x a)(h:jJ st a=some (lo,hi)):∃p,x=.ref p/\H p=some (.gS lo hi):=by
 cases r<;>first|(cases h;done)|skip
 ·next hi' =>
  simp only [jJ] at h;split at h
  ·next lo' RA hs=>cases h;exact ⟨_,rfl,l.obj _ _ _ hi' hs⟩
  ·cases h
noncomputable def dc:List D->Dm D
 |[a],st=>match jJ st a with
  |some (lo,hi)=>if lK lo hi=true then some (.ref st.length,st ++ [.lst (aA lo (hi-lo).toNat)]) else none
  |none=>none
 |_,_=>none
theorem qx:rj K (fun xs H Q=>∃p lo hi,xs=[.ref p]/\H p=some (.gS lo hi)/\(-(2 ^ 62)<=lo/\lo<2 ^ 62/\-(2 ^ 62)<=hi/\hi<2 ^ 62)/\(hi-lo).toNat<=2 ^ 24 /\
  ∀l,H l=none->Q (.ref l) (upd H l (.lst (gx lo (hi-lo).toNat)))) dc:=by
 intro ρ H st xs as b st' Q l rx e q;unfold dc at e;split at e
 ·split at e
  ·next lo hi hd =>
   split at e
   ·next ok =>
    cases e;obtain ⟨v,rfl,r⟩:=rx.one';obtain ⟨p,rfl,s⟩:=yc l r hd;exact ⟨p,lo,hi,rfl,s,(MH ok).1,(MH ok).2,fun p hp=>q _ _ _ (Mn.new hp) (l.newL hp (Rz lo _)) (.ref (newR l))⟩
   ·cases e
  ·cases e
 ·cases e
noncomputable def uE:List D->Dm D
 |[a],st=>match jJ st a with
  |some (lo,hi)=>if lK lo hi=true then some (.tup (aA lo (hi-lo).toNat),st) else none
  |none=>none
 |_,_=>none
noncomputable def iV:D->Option Int
 |.int i=>some i
 |_=>none
theorem FA{ρ:List Addr}{H:Hp}:∀{ws:List V} {ds:List D} {ns:List Int},cY K ρ H ws ds->cH iV ds=some ns->ws=ns.map V.int
 |_,_,_,.nil,h=>by cases h;rfl
 |_,_,_,.cons a b,h=>by
  obtain ⟨x,t,h1,h2,rfl⟩:=Am h;rw [FA b h2];cases a<;>first|(cases h1;rfl)|cases h1
noncomputable def bV:D->Option Bool
 |.bl i=>some i
 |_=>none
noncomputable def yd:List D->Dm D
 |[.ref i],st=>match (items st i).bind (cH bV) with
  |some bs=>some (.bl (bs.all id),st)
  |none=>none
 |_,_=>none
noncomputable def tQ(T:String)(st:Store):D->Bool
 |.str _=>T == "str"
 |.tup _=>T == "tuple"
 |.ref i=>T == "list" && (items st i).isSome
 |_=>false
theorem MI{ρ:List Addr}{H:Hp}{st:Store}{x:V}{a:D}{T:String}(l:Rl K ρ H st)(r:Rp K ρ H x a)(h:tQ T st a=true):ER K T x H:=by
 cases r<;>first|(cases h;done)|skip
 ·exact eq_of_beq h
 ·next hi =>
  simp only [tQ,WU] at h;obtain ⟨ds,hd⟩:=XT.mp h.2;obtain ⟨vs,s,_⟩:=l.items hi hd;exact .inl ⟨eq_of_beq h.1,vs,s⟩
 ·next s r=>exact .inr (.inl ⟨eq_of_beq h,_,s⟩)
noncomputable def g7(T:String)(g:D->List D->Dm D)(fo:av->Dm D)(fa:av->Dm (List D)):av->Dm D:=fun δ st=>bnd (fo δ st) fun o st1=>if tQ T st1 o=true then bnd (fa δ st1) fun as st2=>g o as st2 else none
theorem kQ{T:String}{r:V->List V->Hp->VK->Prop}{g:D->List D->Dm D}{to:TE}{ta:TA}{fo:av->Dm D}{fa:av->Dm (List D)}(hr:tO K T r g)(ho:gC K to fo)(ha:qR K ta fa):gC K (HE K T r to ta) (g7 T g fo fa):=by
 intro ρ σ H δ st b st' Q l rs e q;obtain ⟨o,st1,e1,e⟩:=eU e;split at e
 ·next ht =>
  obtain ⟨as,st2,e2,e⟩:=eU e;refine ho ρ σ H δ st o st1 _ l rs e1 fun x H1 ρ1 m1 l1 r1=>⟨MI l1 r1 ht,ha ρ1 σ H1 δ st1 as st2 _ l1 (rs.mn m1) e2 fun xs H2 ρ2 m2 l2 r2=>?_⟩;exact hr ρ2 H2 st2 x xs o as b st' Q l2 (r1.mn m2) r2 e fun v H3 ρ3 m3 l3 r3=>q v H3 ρ3 ((m1.trans m2).trans m3) l3 r3
 ·cases e
noncomputable def bp:D->List D->Dm D
 |.ref i,[y],st=>match own st i with
  |some xs=>if lim xs.length=true then some (.non,st.set i (.lst (xs ++ [y]))) else none
  |none=>none
 |_,_,_=>none
theorem ou:tO K "list" qc bp:=by
 intro ρ H st x xs a as b st' Q l rx o8 e q;unfold bp at e;split at e
 ·split at e
  ·next ys hy =>
   split at e
   ·next hl =>
    cases e;obtain ⟨v,rfl,r⟩:=o8.one';cases rx with
    |ref hi =>
     obtain ⟨vs,e1,r1⟩:=l.obj _ _ _ hi (pA hy);obtain ⟨l2,m2⟩:=l.putL hi (pA hy) (r1.append (.one r));exact ⟨_,vs,v,rfl,rfl,e1,by rw [r1.length];exact Fs hl,q _ _ ρ m2 l2 .non⟩
   ·cases e
  ·cases e
 ·cases e
noncomputable def ow:D->List D->Dm D
 |.ref i,[.ref j],st=>match own st i,own st j with
  |some xs,some ys=>if lim (xs.length+ys.length)=true then some (.non,st.set i (.lst (xs ++ ys))) else none
  |_,_=>none
 |_,_,_=>none
noncomputable def kW:D->List D->Dm D
 |.ref i,[.int k],st=>match own st i with
  | some xs=>if decide (-9223372036854775808<=k/\k < 9223372036854775808)=true then match seqIndex? k xs.length with
    |some j=>match xs[j]? with
     |some y=>some (y,st.set i (.lst (xs.eraseIdx j)))
     |none=>none
    |none=>none
   else none
  |none=>none
 |_,_,_=>none
theorem MJ:tO K "list" rQ kW:=by
 intro ρ H st x xs a as b st' Q l rx o8 e q;unfold kW at e;split at e
 ·split at e
  ·next ys hy =>
   split at e
   ·next hk =>
    split at e
    ·next j hj =>
     split at e
     ·next y hy' =>
      cases e;obtain ⟨v,rfl,r⟩:=o8.one';cases r;cases rx with
      |ref hi =>
       obtain ⟨vs,e1,r1⟩:=l.obj _ _ _ hi (pA hy);obtain ⟨w,hw,rw'⟩:=r1.got hy';obtain ⟨l2,m2⟩:=l.putL hi (pA hy) (r1.erase j);have hk:=of_decide_eq_true hk;exact ⟨_,vs,_,j,w,rfl,rfl,e1,by omega,by omega,by rw [r1.length];exact hj,hw,q _ _ ρ m2 l2 (rw'.mn m2)⟩
     ·cases e
    ·cases e
   ·cases e
  ·cases e
 ·cases e
noncomputable def jh:D->List D->Dm D
 |.tup ds,[.int v],st=>match cH iV ds with
  |some ns=>match ns.findIdx? (fun i=>decide (i=v)) with
   |some j=>some (.int (j:Int),st)
   |none=>none
  |none=>none
 |_,_,_=>none
theorem Jd:tO K "tuple" (pL K) jh:=by
 intro ρ H st x xs a as b st' Q l rx o8 e q;unfold jh at e;split at e
 ·split at e
  ·next ns hn =>
   split at e
   ·next j hj =>
    cases e;obtain ⟨v,rfl,r⟩:=o8.one';cases r;cases rx with
    |tup s r =>
     cases FA r hn;obtain ⟨h1,h2,h3⟩:=XR.mp hj;refine ⟨_,ns,_,j,rfl,rfl,s,?_,fun i hi z=>?_,q _ H ρ .refl l (.int _)⟩
     ·rw [Wr h1];exact congrArg some (of_decide_eq_true h2)
     ·have:=h3 i hi
      obtain ⟨hl,ez⟩:=Wq.mp z;rw [ez] at this;simp at this
   ·cases e
  ·cases e
 ·cases e
noncomputable def g8:D->List D->Dm D
 |.ref i,[.int v],st=>match (items st i).bind (cH iV) with
  |some ns=>if v∈ns/\ns.length<=1000/\∀i∈ns,-1000000000000000000<=i/\i<=1000000000000000000 then some (.int (ns.idxOf v:Int),st) else none
  |none=>none
 |_,_,_=>none
noncomputable def qV(st:Store):D->Option String
 |.non=>some "NoneType"
 |.bl _=>some "bool"
 |.int _=>some "int"
 |.str _=>some "str"
 |.tup _=>some "tuple"
 |.ref i=>match st[i]? with
  |some (.lst _)=>some "list"
  |some (.dct _)=>some "dict"
  |_=>none
 |.ty _=>none
noncomputable def oy:List D->Dm D
 |[a,.ty c],st=>match qV st a with
  |some T=>if T=c then some (.bl true,st) else none
  |none=>none
 |_,_=>none
end
section
variable {K:Zfr}
theorem MK:mF K BJ sF:=by
 intro ρ H st x y a c b st' Q l rx ry e q;unfold sF at e;split at e
 ·split at e
  ·next ds hd =>
   split at e
   ·next ok =>
    cases e;rw [WU,decide_eq_true_eq] at ok;cases ry;cases rx with
    |ref hi =>
     obtain ⟨vs,e1,r1⟩:=l.obj _ _ _ hi (pA hd);exact ⟨_,_,vs,rfl,rfl,e1,by omega,by omega,by rw [r1.length];exact Cy ok.2,fun p hp=>q _ _ _ (Mn.new hp) (l.newL hp (r1.flat _)) (.ref (newR l))⟩
   ·cases e
  ·cases e
 ·cases e
theorem Rs.set{ρ:List Addr}{H:Hp}{σ:St}{δ:av}{v:V}{d:D}{i:Nat}(h:Rs K ρ H σ δ)(r:Rp K ρ H v d):Rs K ρ H (σ.set i (some v)) (δ.set i (some d)):=by
 refine ⟨by rw [W3,W3];exact h.1,fun j e hj=>?_⟩
 by_cases hij:i=j
 ·subst hij
  have hl:i<δ.length:=by
   have:=(Wq.mp hj).1
   rwa [W3] at this
  rw [Wu hl] at hj;cases hj;exact ⟨v,by rw [Wu (by rw [h.1];exact hl)],r⟩
 ·rw [Wz hij] at hj
  obtain ⟨w,hw,rw'⟩:=h.2 j e hj;exact ⟨w,by rw [Wz hij];exact hw,rw'⟩
noncomputable def ye(K:Zfr)(g:TG)(f:D->av->Dm av):Prop :=
 ∀(ρ:List Addr) (σ:St) (H:Hp) (δ:av) (st:Store) (v:V) (d:D) (δ':av) (st':Store) (Q:St->Hp->Prop),Rl K ρ H st->Rs K ρ H σ δ->Rp K ρ H v d->f d δ st=some (δ',st') ->
  (∀σ' H' ρ',Mn K ρ H ρ' H'->Rl K ρ' H' st'->Rs K ρ' H' σ' δ'->Q σ' H')->g v σ H Q
noncomputable def uF(K:Zfr)(g:tq)(f:List D->av->Dm av):Prop :=
 ∀(ρ:List Addr) (σ:St) (H:Hp) (δ:av) (st:Store) (v:List V) (d:List D) (δ':av) (st':Store) (Q:St->Hp->Prop),Rl K ρ H st->Rs K ρ H σ δ->cY K ρ H v d->f d δ st=some (δ',st') ->
  (∀σ' H' ρ',Mn K ρ H ρ' H'->Rl K ρ' H' st'->Rs K ρ' H' σ' δ'->Q σ' H')->g v σ H Q
noncomputable def hName(i:Nat):D->av->Dm av:=fun d δ st=>some (δ.set i (some d),st)
theorem aV(i:Nat):ye K (oV i) (hName i):=by
 intro ρ σ H δ st v d δ' st' Q l rs r e q;cases e;exact q _ H ρ .refl l (rs.set r)
noncomputable def kK:List D->av->Dm av
 |[],δ,st=>some (δ,st)
 |_,_,_=>none
noncomputable def bU(f:D->av->Dm av)(g:List D->av->Dm av):List D->av->Dm av
 |d :: ds,δ,st=>bnd (f d δ st) fun δ1 st1=>g ds δ1 st1
 |_,_,_=>none
theorem qy:uF K Bh kK:=by
 intro ρ σ H δ st v d δ' st' Q l rs r e q;cases r with
 |nil=>cases e;exact ⟨rfl,q _ H ρ .refl l rs⟩
 |cons a b=>cases e
theorem kn{t:TG}{u:tq}{f:D->av->Dm av}{g:List D->av->Dm av}(hf:ye K t f)(hg:uF K u g):uF K (u3 t u) (bU f g):=by
 intro ρ σ H δ st v d δ' st' Q l rs r e q;cases r with
 |nil=>cases e
 |cons a b =>
  obtain ⟨δ1,st1,e1,e⟩:=eU e;exact ⟨_,_,rfl,hf ρ σ H δ st _ _ δ1 st1 _ l rs a e1 fun σ1 H1 ρ1 m1 l1 r1=>hg ρ1 σ1 H1 δ1 st1 _ _ δ' st' Q l1 r1 (b.mn m1) e fun σ2 H2 ρ2 m2 l2 r2=>q σ2 H2 ρ2 (m1.trans m2) l2 r2⟩
noncomputable def jU(n:Nat)(f:List D->av->Dm av):D->av->Dm av
 |.tup ds,δ,st=>if ds.length=n then f ds δ st else none
 |_,_,_=>none
theorem qz{n:Nat}{t:tq}{f:List D->av->Dm av}(hf:uF K t f):ye K (Bi K n t) (jU n f):=by
 intro ρ σ H δ st v d δ' st' Q l rs r e q;cases r<;>first|(cases e;done)|skip
 ·next s r =>
  simp only [jU] at e;split at e
  ·next hl=>exact ⟨_,_,rfl,s,by rw [r.length];exact hl,hf ρ σ H δ st _ _ δ' st' Q l rs r e q⟩
  ·cases e
noncomputable def hSub(fo fi:av->Dm D):D->av->Dm av:=fun d δ st=>bnd (fo δ st) fun o st1=>bnd (fi δ st1) fun i st2=>match o,i with
 |.ref r,.int k=>match own st2 r with
  |some xs=>match mC xs.length k with
   |some j=>some (δ,st2.set r (.lst (xs.set j d)))
   |none=>none
  |none=>none
 |_,_=>none
theorem pQ{to ti:TE}{fo fi:av->Dm D}(ho:gC K to fo)(hi:gC K ti fi):ye K (L2.mX to ti vg) (hSub fo fi):=by
 intro ρ σ H δ st v d δ' st' Q l rs r e q;obtain ⟨o,st1,e1,e⟩:=eU e;obtain ⟨i,st2,e2,e⟩:=eU e;refine ho ρ σ H δ st o st1 _ l rs e1 fun x H1 ρ1 m1 l1 r1=>hi ρ1 σ H1 δ st1 i st2 _ l1 (rs.mn m1) e2 fun y H2 ρ2 m2 l2 r2=>?_;split at e
 ·split at e
  ·next xs hx =>
   split at e
   ·next j hj =>
    cases e;cases r2;cases r1 with
    |ref hr =>
     have hr2:=m2.r _ _ hr;obtain ⟨vs,e3,r3⟩:=l2.obj _ _ _ hr2 (pA hx);obtain ⟨l3,m3⟩:=l2.putL hr2 (pA hx) (r3.set (r.mn (m1.trans m2)) j);exact ⟨_,vs,_,j,rfl,rfl,e3,by rw [r3.length];exact hj,q σ _ ρ2 ((m1.trans m2).trans m3) l3 (rs.mn ((m1.trans m2).trans m3))⟩
   ·cases e
  ·cases e
 ·cases e
noncomputable def Go(K:Zfr)(ρ:List Addr)(H:Hp)(st':Store)(E:Ends):Fl->Prop
 |.nx δ=>∀σ' H' ρ',Mn K ρ H ρ' H'->Rl K ρ' H' st'->Rs K ρ' H' σ' δ->E.nx σ' H'
 |.bk δ=>∀σ' H' ρ',Mn K ρ H ρ' H'->Rl K ρ' H' st'->Rs K ρ' H' σ' δ->E.bk σ' H'
 |.ct δ=>∀σ' H' ρ',Mn K ρ H ρ' H'->Rl K ρ' H' st'->Rs K ρ' H' σ' δ->E.ct σ' H'
 |.rt d=>∀v H' ρ',Mn K ρ H ρ' H'->Rl K ρ' H' st'->Rp K ρ' H' v d->E.rt v H'
theorem Go.mn{ρ ρ1:List Addr}{H H1:Hp}{st':Store}{E:Ends}{fl:Fl}(g:Go K ρ H st' E fl)(m:Mn K ρ H ρ1 H1):Go K ρ1 H1 st' E fl:=by
 cases fl<;>exact fun v H' ρ' m' l r=>g v H' ρ' (m.trans m') l r
noncomputable def oP(K:Zfr)(t:TS)(f:av->Dm Fl):Prop :=
 ∀(ρ:List Addr) (σ:St) (H:Hp) (δ:av) (st:Store) (fl:Fl) (st':Store) (E:Ends),Rl K ρ H st->Rs K ρ H σ δ->f δ st=some (fl,st')->Go K ρ H st' E fl->t E σ H
noncomputable def aW:av->Dm Fl:=fun δ st=>some (.nx δ,st)
theorem gU:oP K uY aW:=by
 intro ρ σ H δ st fl st' E l rs e g;cases e;exact g σ H ρ .refl l rs
noncomputable def aB(f g:av->Dm Fl):av->Dm Fl:=fun δ st=>bnd (f δ st) fun fl st1=>match fl with
 |.nx δ1=>g δ1 st1
 |x=>some (x,st1)
theorem a7{t u:TS}{f g:av->Dm Fl}(hf:oP K t f)(hg:oP K u g):oP K (Bd t u) (aB f g):=by
 intro ρ σ H δ st fl st' E l rs e q;obtain ⟨x,st1,e1,e⟩:=eU e;refine hf ρ σ H δ st x st1 _ l rs e1 ?_;cases x with
 |nx δ1=>exact fun σ1 H1 ρ1 m1 l1 r1=>hg ρ1 σ1 H1 δ1 st1 fl st' E l1 r1 e (q.mn m1)
 |bk δ1=>cases e;exact q
 |ct δ1=>cases e;exact q
 |rt d=>cases e;exact q
theorem fY{c:TT}{t u:TS}{fc:av->Dm Bool}{f g:av->Dm Fl}(hc:qr K c fc)(hf:oP K t f)(hg:oP K u g):oP K (Bf c t u) (eB fc f g):=by
 intro ρ σ H δ st fl st' E l rs e q;obtain ⟨a,st1,e1,e⟩:=eU e;refine hc ρ σ H δ st _ _ _ l rs e1 fun x H1 ρ1 m1 l1 r1=>?_;subst r1;cases x with
 |true =>
  refine qN ?_;rw [if_pos rfl] at e;exact hf ρ1 σ H1 δ st1 fl st' E l1 (rs.mn m1) e (q.mn m1)
 |false =>
  refine qM ?_;rw [if_neg WA] at e;exact hg ρ1 σ H1 δ st1 fl st' E l1 (rs.mn m1) e (q.mn m1)
noncomputable def cb(f:av->Dm D):av->Dm Fl:=fun δ st=>bnd (f δ st) fun _ st1=>some (.nx δ,st1)
theorem mM{t:TE}{f:av->Dm D}(hf:gC K t f):oP K (uZ t) (cb f):=by
 intro ρ σ H δ st fl st' E l rs e q;obtain ⟨a,st1,e1,e⟩:=eU e;cases e;exact hf ρ σ H δ st a _ _ l rs e1 fun x H1 ρ1 m1 l1 r1=>q σ H1 ρ1 m1 l1 (rs.mn m1)
noncomputable def bF(f:av->Dm D):av->Dm Fl:=fun δ st=>bnd (f δ st) fun d st1=>some (.rt d,st1)
theorem eX{t:TE}{f:av->Dm D}(hf:gC K t f):oP K (Be t) (bF f):=by
 intro ρ σ H δ st fl st' E l rs e q;obtain ⟨a,st1,e1,e⟩:=eU e;cases e;exact hf ρ σ H δ st a _ _ l rs e1 fun x H1 ρ1 m1 l1 r1=>q x H1 ρ1 m1 l1 r1
noncomputable def aL(f:av->Dm D)(h:D->av->Dm av):av->Dm Fl:=fun δ st=>bnd (f δ st) fun d st1=>bnd (h d δ st1) fun δ1 st2=>some (.nx δ1,st2)
theorem bL{t:TE}{g:TG}{f:av->Dm D}{h:D->av->Dm av}(hf:gC K t f)(hh:ye K g h):oP K (uc t g) (aL f h):=by
 intro ρ σ H δ st fl st' E l rs e q;obtain ⟨a,st1,e1,e⟩:=eU e;obtain ⟨δ1,st2,e2,e⟩:=eU e;cases e;exact hf ρ σ H δ st a st1 _ l rs e1 fun x H1 ρ1 m1 l1 r1=>hh ρ1 σ H1 δ st1 x a δ1 _ _ l1 (rs.mn m1) r1 e2 fun σ2 H2 ρ2 m2 l2 r2=>q σ2 H2 ρ2 (m1.trans m2) l2 r2
noncomputable def sG(i j:Nat)(fa:av->Dm (List D)):av->Dm Fl:=fun δ st=>bnd (fa δ st) fun as st1=>match as with
 |[a,b]=>some (.nx ((δ.set i (some a)).set j (some b)),st1)
 |_=>none
theorem ML{i j:Nat}{t:TA}{fa:av->Dm (List D)}(ha:qR K t fa):oP K (Bj i j t) (sG i j fa):=by
 intro ρ σ H δ st fl st' E l rs e q;obtain ⟨as,st1,e1,e⟩:=eU e;split at e
 ·cases e
  refine ha ρ σ H δ st _ _ _ l rs e1 fun x H1 ρ1 m1 l1 r1=>?_;obtain ⟨v,w,rfl,r,r'⟩:=r1.two';exact ⟨v,w,rfl,q _ H1 ρ1 m1 l1 (((rs.mn m1).set r).set r')⟩
 ·cases e
noncomputable def gE(c:av->Dm Bool)(b:av->Dm Fl):Nat->av->Dm Fl
 |0,_,_=>none
 | n + 1,δ,st=>bnd (c δ st) fun t st1=>if t=true then bnd (b δ st1) fun fl st2=>match fl with
   |.nx δ2=>gE c b n δ2 st2
   |.ct δ2=>gE c b n δ2 st2
   |.bk δ2=>some (.nx δ2,st2)
   |.rt d=>some (.rt d,st2)
  else some (.nx δ,st1)
noncomputable def fuel:Nat:=1000000
noncomputable def jV(c:av->Dm Bool)(b:av->Dm Fl):av->Dm Fl:=gE c b fuel
theorem Ap{tc:TT}{tb:TS}{c:av->Dm Bool}{b:av->Dm Fl}(hc:qr K tc c)(hb:oP K tb b):oP K (rM tc tb) (jV c b):=by
 intro ρ σ H δ st fl st' E l rs e q;refine ⟨fun m σ1 H1=>∃ρ1 δ1 st1,Mn K ρ H ρ1 H1/\Rl K ρ1 H1 st1/\Rs K ρ1 H1 σ1 δ1/\gE c b m δ1 st1=some (fl,st'),⟨fuel,ρ,δ,st,.refl,l,rs,e⟩,?_⟩;rintro m σ1 H1 ⟨ρ1,δ1,st1,m1,l1,vS,e1⟩;cases m with
 |zero=>cases e1
 |succ m =>
  obtain ⟨t,st2,e2,e1⟩:=eU e1;refine hc ρ1 σ1 H1 δ1 st1 _ _ _ l1 vS e2 fun x H2 ρ2 m2 l2 r2=>?_;subst r2;cases x with
  |true =>
   refine qN ?_;rw [if_pos rfl] at e1;obtain ⟨f2,st3,e3,e1⟩:=eU e1;refine ⟨fun σ3 H3=>∃m',m' < m+1/\∃ρ1 δ1 st1,Mn K ρ H ρ1 H3/\Rl K ρ1 H3 st1/\Rs K ρ1 H3 σ3 δ1/\gE c b m' δ1 st1=some (fl,st'),fun _ _ h=>h,hb ρ2 σ1 H2 δ1 st2 f2 st3 _ l2 (vS.mn m2) e3 ?_⟩;cases f2 with
   |nx δ3=>exact fun σ3 H3 ρ3 m3 l3 r3=>⟨m,Xs m,ρ3,δ3,st3,(m1.trans m2).trans m3,l3,r3,e1⟩
   |ct δ3=>exact fun σ3 H3 ρ3 m3 l3 r3=>⟨m,Xs m,ρ3,δ3,st3,(m1.trans m2).trans m3,l3,r3,e1⟩
   |bk δ3=>cases e1;exact q.mn (m1.trans m2)
   |rt d=>cases e1;exact q.mn (m1.trans m2)
  |false =>
   refine qM ?_;rw [if_neg WA] at e1;cases e1;exact q.mn (m1.trans m2) σ1 H2 ρ2 .refl l2 (vS.mn m2)
inductive Src where
 |fix (ds:List D)|live (i:Nat)|RB (i:Nat)|zl (i:Nat) (es:List D)|zr (ds:List D) (i:Nat)
noncomputable def Src.at:Src->Nat->Store->Option (Option D)
 |.fix ds,i,_=>if i<=ds.length then some ds[i]? else none
 |.live r,i,st=>(items st r).map fun ds=>ds[i]?
 |.RB r,i,st=>(items st r).bind fun ds=>if i<=ds.length then some (ds.mapIdx fun i d=>D.tup [.int (i:Int),d])[i]? else none
 |.zl r es,i,st=>(items st r).bind fun ds=>if i<=(List.zipWith (fun a b=>D.tup [a,b]) ds es).length then some (List.zipWith (fun a b=>D.tup [a,b]) ds es)[i]? else none
 |.zr ds r,i,st=>(items st r).bind fun es=>if i<=(List.zipWith (fun a b=>D.tup [a,b]) ds es).length then some (List.zipWith (fun a b=>D.tup [a,b]) ds es)[i]? else none
theorem Aq{ds:List D}{i:Nat}{st:Store}{o:Option D}(h:Src.at (.fix ds) i st=some o):i<=ds.length/\ds[i]?=o:=by
 simp only [Src.at] at h;split at h
 ·next hl=>exact ⟨hl,WD h⟩
 ·cases h
noncomputable def CH(K:Zfr)(ρ:List Addr)(H:Hp)(J:It)(S:Src):Prop :=
 ∀(ρ2:List Addr) (H2:Hp) (st2:Store) (i:Nat),Mn K ρ H ρ2 H2->Rl K ρ2 H2 st2 ->
  (S.at i st2=some none->J.stop i H2)/\∀d,S.at i st2=some (some d)->J.go i H2/\∀x H3,J.ud i H2 x H3->Mn K ρ2 H2 ρ2 H3/\Rl K ρ2 H3 st2/\Rp K ρ2 H3 x d
abbrev yf(K:Zfr)(t:TI)(f:av->Dm Src):Prop:=So K (CH K) t f
noncomputable def iH(S:Src)(g:D->av->Dm av)(b:av->Dm Fl):Nat->Nat->av->Dm Fl
 |0,_,_,_=>none
 |n+1,i,δ,st=>match S.at i st with
  |none=>none
  |some none=>some (.nx δ,st)
  |some (some d)=>bnd (g d δ st) fun δ1 st1=>bnd (b δ1 st1) fun fl st2=>match fl with
   |.nx δ2=>iH S g b n (i+1) δ2 st2
   |.ct δ2=>iH S g b n (i+1) δ2 st2
   |.bk δ2=>some (.nx δ2,st2)
   |.rt d=>some (.rt d,st2)
noncomputable def dE(fi:av->Dm Src)(g:D->av->Dm av)(b:av->Dm Fl):av->Dm Fl:=fun δ st=>bnd (fi δ st) fun S st1=>iH S g b fuel 0 δ st1
theorem lZ{wi:TI}{tg:TG}{tb:TS}{fi:av->Dm Src}{g:D->av->Dm av}{b:av->Dm Fl}(hi:yf K wi fi)(hg:ye K tg g)(hb:oP K tb b):oP K (Bn wi tg tb) (dE fi g b):=by
 intro ρ σ H δ st fl st' E l rs e q;obtain ⟨S,lL,e0,e⟩:=eU e;refine hi ρ σ H δ st S lL _ l rs e0 fun J H0 ρ0 m0 l0 ok=>?_;refine ⟨fun i m σ1 H1=>∃ρ1 δ1 st1,Mn K ρ0 H0 ρ1 H1/\Rl K ρ1 H1 st1/\Rs K ρ1 H1 σ1 δ1/\iH S g b m i δ1 st1=some (fl,st'),⟨fuel,ρ0,δ,lL,.refl,l0,rs.mn m0,e⟩,?_⟩;rintro i m σ1 H1 ⟨ρ1,δ1,st1,m1,l1,vS,e1⟩;cases m with
 |zero=>cases e1
 |succ m =>
  obtain ⟨hstop,hgo⟩:=ok ρ1 H1 st1 i m1 l1;unfold iH at e1;split at e1
  ·cases e1
  ·next hs=>cases e1;exact .inl ⟨hstop hs,q.mn (m0.trans m1) σ1 H1 ρ1 .refl l1 vS⟩
  ·next d hs =>
   obtain ⟨δ2,st2,e2,e1⟩:=eU e1;obtain ⟨f3,st3,e3,e1⟩:=eU e1;obtain ⟨go,ud⟩:=hgo d hs;refine .inr ⟨go,fun σ3 H3=>∃m',m' < m+1/\∃ρ1 δ1 st1,Mn K ρ0 H0 ρ1 H3/\Rl K ρ1 H3 st1/\Rs K ρ1 H3 σ3 δ1/\iH S g b m' (i+1) δ1 st1=some (fl,st'),fun _ _ h=>h,fun x H2 hy=>?_⟩;obtain ⟨m2,l2,r2⟩:=ud x H2 hy;refine hg ρ1 σ1 H2 δ1 st1 x d δ2 st2 _ l2 (vS.mn m2) r2 e2 fun σ4 H4 ρ4 m4 l4 r4=>hb ρ4 σ4 H4 δ2 st2 f3 st3 _ l4 r4 e3 ?_;have m5:=((m1.trans m2).trans m4);cases f3 with
   |nx δ3=>exact fun σ5 H5 ρ5 m6 l5 r5=>⟨m,Xs m,ρ5,δ3,st3,m5.trans m6,l5,r5,e1⟩
   |ct δ3=>exact fun σ5 H5 ρ5 m6 l5 r5=>⟨m,Xs m,ρ5,δ3,st3,m5.trans m6,l5,r5,e1⟩
   |bk δ3=>cases e1;exact q.mn (m0.trans m5)
   |rt d=>cases e1;exact q.mn (m0.trans m5)
noncomputable def d4(fa:av->Dm D):av->Dm Src:=fun δ st=>bnd (fa δ st) fun a st1=>match a with
 |.tup ds=>some (.fix ds,st1)
 |_=>none
theorem pB{t:TE}{fa:av->Dm D}(ha:gC K t fa):yf K (Bl K t) (d4 fa):=by
 intro ρ σ H δ st S st' Q l rs e q;obtain ⟨a,st1,e1,e⟩:=eU e;cases a<;>simp at e;obtain ⟨rfl,rfl⟩:=e;refine ha ρ σ H δ st _ _ _ l rs e1 fun x H1 ρ1 m1 l1 r1=>?_;cases r1 with
 |tup s r =>
  refine ⟨_,rfl,⟨_,s⟩,q _ H1 ρ1 m1 l1 fun ρ2 H2 st2 i m2 l2=>⟨fun h=>?_,fun d h=>?_⟩⟩
  ·exact ⟨_,m2.t _ _ s,by rw [r.length];exact W7.mp (Aq h).2⟩
  ·obtain ⟨v,hv,rv⟩:=r.got (Aq h).2
   refine ⟨⟨_,v,m2.t _ _ s,hv⟩,fun x H3 y=>?_⟩;obtain ⟨rfl,hx⟩:=y;have:=hx _ (m2.t _ _ s);rw [hv] at this;cases this;exact ⟨.refl,l2,rv.mn m2⟩
noncomputable def jW(fa:av->Dm D):av->Dm Src:=fun δ st=>bnd (fa δ st) fun a st1=>match a with
 |.ref i=>match items st1 i with
  |some _=>some (.live i,st1)
  |none=>none
 |_=>none
theorem CI{t:TE}{fa:av->Dm D}(ha:gC K t fa):yf K (rN K t) (jW fa):=by
 intro ρ σ H δ st S st' Q l rs e q;obtain ⟨a,st1,e1,e⟩:=eU e;split at e
 ·next k =>
  split at e
  ·next ds hd =>
   cases e;refine ha ρ σ H δ st _ _ _ l rs e1 fun x H1 ρ1 m1 l1 r1=>?_;cases r1 with
   |ref hi =>
    obtain ⟨vs,s,r⟩:=l1.items hi hd;refine ⟨_,rfl,⟨_,s⟩,q _ H1 ρ1 m1 l1 fun ρ2 H2 st2 i m2 l2=>⟨fun h=>?_,fun d h=>?_⟩⟩
    ·obtain ⟨RC,hd2,h⟩:=W2.mp h
     obtain ⟨MN,s2,r2⟩:=l2.items (m2.r _ _ hi) hd2;exact ⟨MN,s2,by rw [r2.length];exact W7.mp h⟩
    ·obtain ⟨RC,hd2,h⟩:=W2.mp h
     obtain ⟨MN,s2,r2⟩:=l2.items (m2.r _ _ hi) hd2;obtain ⟨v,hv,rv⟩:=r2.got h;refine ⟨⟨_,v,s2,hv⟩,fun x H3 y=>?_⟩;obtain ⟨rfl,hx⟩:=y;have:=hx _ s2;rw [hv] at this;cases this;exact ⟨.refl,l2,rv⟩
  ·cases e
 ·cases e
noncomputable def cz(fa:av->Dm (List D)):av->Dm Src:=fun δ st=>bnd (fa δ st) fun as st1=>match as with
 |[.int j]=>if decide (-4611686018427387904<=j/\j<4611686018427387904)=true then some (.fix (aA 0 j.toNat),st1) else none
 |_=>none
noncomputable def oz(fa:av->Dm (List D)):av->Dm Src:=fun δ st=>bnd (fa δ st) fun as st1=>match as with
 |[.int i,.int j]=>if decide ((-4611686018427387904<=i/\i<4611686018427387904)/\-4611686018427387904<=j/\j<4611686018427387904)=true then some (.fix (aA i (j-i).toNat),st1) else none
 |_=>none
theorem fH(lo:Int)(n:Nat):(aA lo n).length=n:=by simp [aA]
theorem yg{lo:Int}{n k:Nat}(h:k<n):(aA lo n)[k]?=some (.int (lo+k)):=by simp [aA,h]
theorem MO{ρ:List Addr}{H:Hp}(lo:Int)(n:Nat):CH K ρ H (Bk lo n) (.fix (aA lo n)):=by
 intro ρ2 H2 st2 i m2 l2;refine ⟨fun h=>?_,fun d h=>?_⟩
 ·have:=W7.mp (Aq h).2
  rw [fH] at this;exact this
 ·have h:=(Aq h).2
  have hl:=(Wq.mp h).1;rw [fH] at hl;rw [yg hl] at h;cases h;refine ⟨hl,fun x H3 y=>?_⟩;obtain ⟨rfl,rfl⟩:=y;exact ⟨.refl,l2,.int _⟩
theorem o9{t:TA}{fa:av->Dm (List D)}(ha:qR K t fa):yf K (u5 t) (cz fa):=by
 intro ρ σ H δ st S st' Q l rs e q;obtain ⟨as,st1,e1,e⟩:=eU e;split at e
 ·split at e
  ·next ok =>
   cases e;have ok:=of_decide_eq_true ok;refine ha ρ σ H δ st _ _ _ l rs e1 fun x H1 ρ1 m1 l1 r1=>?_;obtain ⟨v,rfl,r⟩:=r1.one';cases r;exact ⟨_,rfl,by omega,by omega,q _ H1 ρ1 m1 l1 (MO 0 _)⟩
  ·cases e
 ·cases e
theorem RD{t:TA}{fa:av->Dm (List D)}(ha:qR K t fa):yf K (u6 t) (oz fa):=by
 intro ρ σ H δ st S st' Q l rs e q;obtain ⟨as,st1,e1,e⟩:=eU e;split at e
 ·split at e
  ·next ok =>
   cases e;have ok:=of_decide_eq_true ok;refine ha ρ σ H δ st _ _ _ l rs e1 fun x H1 ρ1 m1 l1 r1=>?_;obtain ⟨v,w,rfl,r,r'⟩:=r1.two';cases r;cases r';exact ⟨_,_,rfl,by omega,q _ H1 ρ1 m1 l1 (MO _ _)⟩
  ·cases e
 ·cases e
noncomputable def fU(ds:List D):List D:=ds.mapIdx fun i d=>.tup [.int (i:Int),d]
theorem CJ(ds:List D):(fU ds).length=ds.length:=by simp [fU]
theorem Je{ds:List D}{i:Nat}{x:D}(h:(fU ds)[i]?=some x):∃d,ds[i]?=some d/\x=.tup [.int (i:Int),d]:=by
 unfold fU at h;rw [List.getElem?_mapIdx] at h;obtain ⟨d,h1,h2⟩:=W2.mp h;exact ⟨d,h1,h2.symm⟩
noncomputable def kX(fa:av->Dm (List D)):av->Dm Src:=fun δ st=>bnd (fa δ st) fun as st1=>match as with
 |[.tup ds]=>some (.fix (fU ds),st1)
 |_=>none
theorem FC{t:TA}{fa:av->Dm (List D)}(ha:qR K t fa):yf K (vA K t) (kX fa):=by
 intro ρ σ H δ st S st' Q l rs e q;obtain ⟨as,st1,e1,e⟩:=eU e;split at e
 ·cases e
  refine ha ρ σ H δ st _ _ _ l rs e1 fun x H1 ρ1 m1 l1 r1=>?_;obtain ⟨v,rfl,r⟩:=r1.one';cases r with
  |tup s r =>
   refine ⟨_,rfl,⟨_,s⟩,q _ H1 ρ1 m1 l1 fun ρ2 H2 st2 i m2 l2=>⟨fun h=>?_,fun d h=>?_⟩⟩
   ·obtain ⟨h1,h2⟩:=Aq h
    have h2:=W7.mp h2;rw [CJ] at h1 h2;exact ⟨_,m2.t _ _ s,by rw [r.length];omega⟩
   ·obtain ⟨h1,h2⟩:=Aq h
    obtain ⟨d',hd',rfl⟩:=Je h2;obtain ⟨v,hv,rv⟩:=r.got hd';refine ⟨⟨_,v,m2.t _ _ s,hv⟩,fun x H3 y=>?_⟩;obtain ⟨p,z,rfl,hp,rfl,hx⟩:=y;have:=hx _ (m2.t _ _ s);rw [hv] at this;cases this;have m3:Mn K ρ2 H2 ρ2 (upd H2 p (.tup [.int (i:Int),v])):=Mn.same (jK.up hp);exact ⟨m3,l2.same (jK.up hp),.tup (fS.of rf) (.cons (.int _) (.one ((rv.mn m2).mn m3)))⟩
 ·cases e
noncomputable def ji(S:Src)(g:D->av->Dm av)(tc:av->Dm Bool)(te:av->Dm D):Nat->Nat->List D->av->Dm (List D)
 |0,_,_,_,_=>none
 |n+1,i,ys,δ,st=>if lim ys.length=true then match S.at i st with
  |none=>none
  |some none=>some (ys,st)
  |some (some d)=>bnd (g d δ st) fun δ1 st1=>bnd (tc δ1 st1) fun t st2=>if t=true then bnd (te δ1 st2) fun y st3=>ji S g tc te n (i+1) (ys ++ [y]) δ1 st3 else ji S g tc te n (i+1) ys δ1 st2
  else none
noncomputable def pb(n:Nat)(js:List Nat)(δ:av):av:=List.replicate n none ++ js.map fun j=>δ.getD j none
noncomputable def dw(fi:av->Dm Src)(n:Nat)(js:List Nat)(g:D->av->Dm av)(tc:av->Dm Bool)(te:av->Dm D):av->Dm D:=fun δ st=>bnd (fi δ st) fun S st1=>bnd (ji S g tc te fuel 0 [] (pb n js δ) st1) fun ys st2=>some (.ref st2.length,st2 ++ [.lst ys])
theorem Rs.comp{ρ:List Addr}{H:Hp}{σ:St}{δ:av}(h:Rs K ρ H σ δ)(n:Nat)(js:List Nat):Rs K ρ H (jR n js σ) (pb n js δ):=by
 unfold jR pb;refine ⟨by simp,fun i d hd=>?_⟩
 by_cases hi:i<n
 ·rw [WG (by simpa using hi),X0,if_pos hi] at hd
  cases hd
 ·rw [WN (by simpa using Nat.le_of_not_lt hi),Wx] at hd
  rw [WN (by simpa using Nat.le_of_not_lt hi),Wx];simp only [X5] at hd ⊢;cases hj:js[i-n]? with
  |none=>rw [hj] at hd;cases hd
  |some j =>
   rw [hj] at hd;have hd:δ.getD j none=some d:=WD hd;rw [WI] at hd;have hd':δ[j]?=some (some d):=by
    cases hx:δ[j]? with
    |none=>rw [hx] at hd;cases hd
    |some y=>rw [hx] at hd;exact congrArg some hd
   obtain ⟨v,hv,r⟩:=h.2 j d hd';exact ⟨v,by show some (σ.getD j none)=_;rw [WI,hv];rfl,r⟩
theorem pC{wi:TI}{tg:TG}{tc:TT}{te:TE}{fi:av->Dm Src}{n:Nat}{js:List Nat}{g:D->av->Dm av}{c:av->Dm Bool}{f:av->Dm D}(hi:yf K wi fi)(hg:ye K tg g)(hc:qr K tc c)(hf:gC K te f):gC K (rZ wi n js tg tc te) (dw fi n js g c f):=by
 intro ρ σ H δ st b st' Q l rs e q;obtain ⟨S,lL,e0,e⟩:=eU e;obtain ⟨zs,pR,e9,e⟩:=eU e;cases e;refine hi ρ σ H δ st S lL _ l rs e0 fun J H0 ρ0 m0 l0 ok=>?_;refine ⟨fun i m ys σ1 H1=>∃ρ1 δ1 st1 ws,Mn K ρ0 H0 ρ1 H1/\Rl K ρ1 H1 st1/\Rs K ρ1 H1 σ1 δ1/\cY K ρ1 H1 ys ws/\ji S g c f m i ws δ1 st1=some (zs,pR),⟨fuel,ρ0,_,lL,[],.refl,l0,(rs.mn m0).comp n js,.nil,e9⟩,?_⟩;rintro i m ys σ1 H1 ⟨ρ1,δ1,st1,ws,m1,l1,vS,FD,e1⟩;cases m with
 |zero=>cases e1
 |succ m =>
  obtain ⟨hstop,hgo⟩:=ok ρ1 H1 st1 i m1 l1;unfold ji at e1;split at e1
  ·next hl =>
   refine ⟨by rw [FD.length];exact Fs hl,?_⟩;split at e1
   ·cases e1
   ·next hs =>
    cases e1;exact .inl ⟨hstop hs,fun p hp=>q _ _ _ ((m0.trans m1).trans (Mn.new hp)) (l1.newL hp FD) (.ref (newR l1))⟩
   ·next d hs =>
    obtain ⟨δ2,st2,e2,e1⟩:=eU e1;obtain ⟨t,st3,e3,e1⟩:=eU e1;obtain ⟨go,ud⟩:=hgo d hs;refine .inr ⟨go,fun x H2 hy=>?_⟩;obtain ⟨m2,l2,r2⟩:=ud x H2 hy;refine hg ρ1 σ1 H2 δ1 st1 x d δ2 st2 _ l2 (vS.mn m2) r2 e2 fun σ4 H4 ρ4 m4 l4 r4=>hc ρ4 σ4 H4 δ2 st2 t st3 _ l4 r4 e3 fun t' H5 ρ5 m5 l5 r5=>?_;subst r5;have m6:=(((m1.trans m2).trans m4).trans m5);cases t' with
    |true =>
     refine qN ?_;rw [if_pos rfl] at e1;obtain ⟨y,Jf,e6,e1⟩:=eU e1;exact hf ρ5 σ4 H5 δ2 st3 y Jf _ l5 (r4.mn m5) e6 fun v H7 ρ7 m7 l7 r7=>⟨m,Xs m,ρ7,δ2,Jf,ws ++ [y],m6.trans m7,l7,r4.mn (m5.trans m7),(FD.mn (((m2.trans m4).trans m5).trans m7)).append (.one r7),e1⟩
    |false =>
     refine qM ?_;rw [if_neg WA] at e1;exact ⟨m,Xs m,ρ5,δ2,st3,ws,m6,l5,r4.mn m5,FD.mn ((m2.trans m4).trans m5),e1⟩
  ·cases e1
noncomputable def eC:av->Dm Bool:=fun _ st=>some (true,st)
noncomputable def g9(n:Nat)(b:av->Dm Fl):List D->Dm D:=fun ds st=>bnd (b (ds.map some ++ List.replicate (n-ds.length) none) st) fun fl st1=>match fl with
 |.rt d=>some (d,st1)
 |.nx _=>some (.non,st1)
 |_=>none
theorem Rs.start{ρ:List Addr}{H:Hp}{vs:List V}{ds:List D}(r:cY K ρ H vs ds)(N:List Str):Rs K ρ H (start N vs) (ds.map some ++ List.replicate (N.length-ds.length) none):=by
 unfold L2.start;rw [r.length];refine ⟨by simp [r.length],fun i d hd=>?_⟩
 by_cases hi:i<ds.length
 ·rw [WG (by simpa using hi),Wx] at hd
  rw [WG (by rw [Wo,r.length];exact hi),Wx];cases hx:ds[i]? with
  |none=>rw [hx] at hd;cases hd
  |some y =>
   rw [hx] at hd;cases hd;obtain ⟨v,hv,rv⟩:=r.got hx;exact ⟨v,by rw [hv];rfl,rv⟩
 ·rw [WN (by simpa using Nat.le_of_not_lt hi),X0] at hd
  split at hd<;>cases hd
theorem iZ{N:List Str}{k n:Nat}{t:TS}{b:av->Dm Fl}{vs:List V}{H:Hp}{Q:VK}{E:XK}(hb:oP K t b)(hn:N.length=n)(h:bP K k (g9 n b) vs H Q E):t { nx:=fun _ H'=>Q .non H',rt:=Q } (start N vs) H:=by
 obtain ⟨hk,ρ,st,ds,d,st',l,r,e,q⟩:=h;subst hn;obtain ⟨fl,st1,e1,e⟩:=eU e;refine hb ρ _ H _ st fl st1 _ l (Rs.start r N) e1 ?_;cases fl with
 |rt v=>cases e;exact q
 |nx δ=>cases e;exact fun σ' H' ρ' m l' r'=>q .non H' ρ' m l' .non
 |bk δ=>cases e
 |ct δ=>cases e
end
section
variable {X:Cx}{K:Zfr}
theorem MP{N:List Str}{sH:Scope}{cells:List (Str×Addr)}{C:Addr}{fp:List Addr}{s:Shared}{H:Hp}{sI:Scope}{own fr:List Str}(h:rY (rX sH X.env.scope) sI own fr):rY (bg X N sH cells C fp s H).env.scope sI own fr:=h
theorem qA:qr K (fun _ H Q=>Q true H) eC:=by
 intro ρ σ H δ st b st' Q l rs e q;cases e;exact q _ H ρ .refl l rfl
end
noncomputable def vT(K:Zfr):Sp:=fun vs H Q _=>∃(a:Addr) (ns:List Int),vs=[.ref a]/\BP K H a (ns.map V.int)/\ns.length<=63/\∀H',Q (.bl true) H'
theorem yh{P:Program}{w:World}{K:Zfr}{mg:Str->Option Value}{base:Heap}{k:Nat}{f:Addr}{fd:FuncData}{ps:List Str}{F:List D->Dm D}(G:aJ P w K mg base bG k f fd ps (bP K 1 F))
  (h:∀ns:List Int,ns.length<=63->∃st',F [.ref 0] [.ot (ns.map D.int)]=some (.bl true,st')):aJ P w K mg base bG k f fd ps (vT K):=by
 refine G.imp fun vs H Q E hs=>?_;obtain ⟨a,ns,rfl,hS,hn,q⟩:=hs;obtain ⟨st',e⟩:=h ns hn;have one:∀i (b:Addr),([a]:List Addr)[i]?=some b->i=0/\b=a:=fun i b h=>by
  cases i with
  |zero=>exact ⟨rfl,(WD h).symm⟩
  |succ i=>simp at h
 refine ⟨rfl,[a],[.ot (ns.map D.int)],[.ref 0],.bl true,st',⟨rfl,fun i j b o o' h1 h2 _ _ _ _=>by rw [(one i b h1).1,(one j b h2).1],fun i b o h1 h2=>?_⟩,.one (.ref rfl),e,fun v H' ρ' m l r=>by cases r;exact q H'⟩;obtain ⟨rfl,rfl⟩:=one i b h1;cases (WD h2);exact ⟨ns.map V.int,hS,cY.ints ns⟩
noncomputable def Wp{α:Type}(m:Option (α×Store))(Q:α->Store->Prop):Prop:=∃a st,m=some (a,st)/\Q a st
section
variable {α β:Type}{Q Q':α->Store->Prop}{st:Store}{δ:av}
theorem bj{m:Option (α×Store)}(h:Wp m Q)(hq:∀a st,Q a st->Q' a st):Wp m Q':=let ⟨a,st,e,q⟩:=h;⟨a,st,e,hq a st q⟩
theorem bT{a:α}:Wp (some (a,st)) Q↔Q a st:=⟨fun ⟨_,_,e,q⟩=>by cases e;exact q,fun q=>⟨a,st,rfl,q⟩⟩
theorem gY:Wp (none:Option (α×Store)) Q↔False:=⟨fun ⟨_,_,e,_⟩=>(by cases e),False.elim⟩
theorem d8{R:β->Store->Prop}{m:Option (α×Store)}{k:α->Dm β}:Wp (bnd m k) R↔Wp m fun a st1=>Wp (k a st1) R:=by
 cases m with
 |none=>exact ⟨fun ⟨_,_,e,_⟩=>(by cases e),fun ⟨_,_,e,_⟩=>(by cases e)⟩
 |some p=>exact ⟨fun h=>⟨p.1,p.2,rfl,h⟩,fun ⟨a,s,e,h⟩=>by cases e;exact h⟩
theorem nV{c:Prop}[Decidable c]{m n:Option (α×Store)}:Wp (if c then m else n) Q↔if c then Wp m Q else Wp n Q:=by split<;>exact Iff.rfl
end
section
variable {st:Store}{δ:av}{Q:D->Store->Prop}
theorem yi{i:Nat}:Wp (ah i δ st) Q↔∃d,δ[i]?=some (some d)/\Q d st:=by
 unfold ah;split
 ·next d hd=>rw [bT];exact ⟨fun h=>⟨d,hd,h⟩,fun ⟨e,he,h⟩=>by rw [hd] at he;cases he;exact h⟩
 ·next h=>rw [gY];exact ⟨False.elim,fun ⟨e,he,_⟩=>h e he⟩
theorem Jg{d:D}:Wp (fC d δ st) Q↔Q d st:=bT
theorem CK{g:D->D->Dm D}{fa fb:av->Dm D}:Wp (aE g fa fb δ st) Q↔Wp (fa δ st) fun a st1=>Wp (fb δ st1) fun b st2=>Wp (g a b st2) Q:=by
 unfold aE;rw [d8];simp only [d8]
theorem CL{g:D->Dm D}{fa:av->Dm D}:Wp (uB g fa δ st) Q↔Wp (fa δ st) fun a st1=>Wp (g a st1) Q:=d8
theorem CM{g:List D->Dm D}{fa:av->Dm (List D)}:Wp (aM g fa δ st) Q↔Wp (fa δ st) fun a st1=>Wp (g a st1) Q:=d8
theorem yj{R:List D->Store->Prop}:Wp (ai δ st) R↔R [] st:=bT
theorem RE{R:List D->Store->Prop}{fa:av->Dm D}{fr:av->Dm (List D)}:Wp (ae fa fr δ st) R↔Wp (fa δ st) fun a st1=>Wp (fr δ st1) fun r st2=>R (a :: r) st2:=by
 unfold ae;rw [d8];simp only [d8,bT]
theorem yk{fa:av->Dm (List D)}:Wp (bu fa δ st) Q↔Wp (fa δ st) fun as st1=>lim as.length=true/\Q (.tup as) st1:=by
 unfold bu;rw [d8];simp only [nV,bT,gY];constructor<;>exact fun h=>bj h fun a s h=>by first|(split at h;exact ⟨by assumption,h⟩;exact h.elim)|(rw [if_pos h.1];exact h.2)
theorem yl{fa:av->Dm (List D)}:Wp (cO fa δ st) Q↔Wp (fa δ st) fun as st1=>lim as.length=true/\Q (.ref st1.length) (st1 ++ [.lst as]):=by
 unfold cO;rw [d8];simp only [nV,bT,gY];constructor<;>exact fun h=>bj h fun a s h=>by first|(split at h;exact ⟨by assumption,h⟩;exact h.elim)|(rw [if_pos h.1];exact h.2)
theorem RF{R:Bool->Store->Prop}{fa:av->Dm D}:Wp (aI fa δ st) R↔Wp (fa δ st) fun a st1=>∃b,a=.bl b/\R b st1:=by
 unfold aI;rw [d8];constructor<;>refine fun h=>bj h fun a s h=>?_
 ·cases a<;>simp only [bT,gY] at h
  exact ⟨_,rfl,h⟩
 ·obtain ⟨b,rfl,h⟩:=h
  exact bT.mpr h
theorem ym{R:Bool->Store->Prop}{fa:av->Dm Bool}:Wp (sC fa δ st) R↔Wp (fa δ st) fun a st1=>R (!a) st1:=by
 unfold sC;rw [d8];simp only [bT]
theorem yn{R:Bool->Store->Prop}{fa fb:av->Dm Bool}:Wp (qT fa fb δ st) R↔Wp (fa δ st) fun a st1=>if a=true then Wp (fb δ st1) R else R false st1:=by
 unfold qT;rw [d8];simp only [nV,bT]
theorem CN{R:Bool->Store->Prop}{fa fb:av->Dm Bool}:Wp (rl fa fb δ st) R↔Wp (fa δ st) fun a st1=>if a=true then R true st1 else Wp (fb δ st1) R:=by
 unfold rl;rw [d8];simp only [nV,bT]
theorem vU{α:Type}{R:α->Store->Prop}{c:av->Dm Bool}{fa fb:av->Dm α}:Wp (eB c fa fb δ st) R↔Wp (c δ st) fun a st1=>if a=true then Wp (fa δ st1) R else Wp (fb δ st1) R:=by
 unfold eB;rw [d8];simp only [nV]
theorem FE{fa fb:av->Dm D}:Wp (nh fa fb δ st) Q↔Wp (aI fa δ st) fun a st1=>if a=true then Wp (fb δ st1) Q else Q (.bl false) st1:=by
 unfold nh;rw [d8];simp only [nV,bT]
theorem yo{fa fb:av->Dm D}:Wp (Cz fa fb δ st) Q↔Wp (aI fa δ st) fun a st1=>if a=true then Q (.bl true) st1 else Wp (fb δ st1) Q:=by
 unfold Cz;rw [d8];simp only [nV,bT]
theorem RG{fa:av->Dm D}:Wp (vM fa δ st) Q↔Wp (aI fa δ st) fun a st1=>Q (.bl (!a)) st1:=by
 unfold vM;rw [d8];simp only [bT]
theorem RH{R:Option Int->Store->Prop}:Wp (jf δ st) R↔R none st:=bT
theorem RI{R:Option Int->Store->Prop}{fa:av->Dm D}:Wp (mv fa δ st) R↔Wp (fa δ st) fun a st1=>∃i,a=.int i/\R (some i) st1:=by
 unfold mv;rw [d8];constructor<;>refine fun h=>bj h fun a s h=>?_
 ·cases a<;>simp only [bT,gY] at h
  exact ⟨_,rfl,h⟩
 ·obtain ⟨b,rfl,h⟩:=h
  exact bT.mpr h
theorem CO{g:D->Option Int->Option Int->Dm D}{fa:av->Dm D}{fl fh:av->Dm (Option Int)}:Wp (vN g fa fl fh δ st) Q↔Wp (fa δ st) fun a st1=>Wp (fl δ st1) fun lo st2=>Wp (fh δ st2) fun hi st3=>Wp (g a lo hi st3) Q:=by
 unfold vN;rw [d8];simp only [d8]
theorem CP{T:String}{g:D->List D->Dm D}{fo:av->Dm D}{fa:av->Dm (List D)}:Wp (g7 T g fo fa δ st) Q↔Wp (fo δ st) fun o st1=>tQ T st1 o=true/\Wp (fa δ st1) fun as st2=>Wp (g o as st2) Q:=by
 unfold g7;rw [d8];simp only [nV,d8,gY];constructor<;>exact fun h=>bj h fun a s h=>by first|(split at h;exact ⟨by assumption,h⟩;exact h.elim)|(rw [if_pos h.1];exact h.2)
variable {i j:Int}{ds es:List D}{k:Nat}
theorem yp:Wp (eP (.int i) (.int j) st) Q↔Q (.int (i+j)) st:=bT
theorem yq:Wp (mX (.int i) (.int j) st) Q↔Q (.int (i-j)) st:=bT
theorem CQ:Wp (rm (.int i) (.int j) st) Q↔Q (.bl (decide (i<j))) st:=bT
theorem CT:Wp (Jb (.int i) (.int j) st) Q↔Q (.bl (decide (i<=j))) st:=bT
theorem CU:Wp (vP (.int i) (.int j) st) Q↔Q (.bl (decide (j<i))) st:=bT
theorem CV:Wp (CD (.int i) (.int j) st) Q↔Q (.bl (decide (j<=i))) st:=bT
theorem yr:Wp (nH (.int i) st) Q↔Q (.int (-i)) st:=bT
theorem FF{c:Int->Int->Bool}{h:Int->Int->D}:Wp (xY c h (.int i) (.int j) st) Q↔c i j=true/\Q (h i j) st:=by
 show Wp (if c i j=true then some (h i j,st) else none) Q↔_;rw [nV,bT,gY];split
 ·next h=>exact ⟨fun q=>⟨h,q⟩,fun q=>q.2⟩
 ·next h=>exact ⟨False.elim,fun q=>h q.1⟩
theorem yt:Wp (mG (.int i) (.int j) st) Q↔((-18446744073709551616<i/\i<18446744073709551616)\/(-18446744073709551616<j/\j<18446744073709551616))/\Q (.int (i*j)) st:=by
 unfold mG;rw [FF,Bool.or_eq_true,decide_eq_true_eq,decide_eq_true_eq]
theorem RJ:Wp (o6 (.int i) (.int j) st) Q↔(0<j/\j<1073741824)/\Q (.int (i / j)) st:=by unfold o6;rw [FF,decide_eq_true_eq]
theorem yu:Wp (jL (.int i) (.int j) st) Q↔0<j/\Q (.int (i % j)) st:=by unfold jL;rw [FF,decide_eq_true_eq]
theorem yw:Wp (sD (.int i) (.int j) st) Q↔(0<=j/\j<=1000000/\i.natAbs<18446744073709551616)/\Q (.int (i ^ j.toNat)) st:=by unfold sD;rw [FF,decide_eq_true_eq]
theorem yx{neg:Bool}:Wp (iS neg (.int i) (.int j) st) Q↔Q (.bl (if neg then !decide (i=j) else decide (i=j))) st:=by
 have e:decide (V.int i=V.int j)=decide (i=j):=by
  by_cases h:i=j
  ·subst h;simp
  ·simp [h]
 show Wp (if n9 (V.int i) (V.int j)=true then some (D.bl (if neg then !decide (V.int i=V.int j) else decide (V.int i=V.int j)),st) else none) Q↔_;rw [if_pos (show n9 _ _=true from rfl),bT,e]
theorem yy{neg:Bool}{x y:Str}:Wp (iS neg (.str x) (.str y) st) Q↔Q (.bl (if neg then !decide (x=y) else decide (x=y))) st:=by
 have e:decide (V.str x=V.str y)=decide (x=y):=by
  by_cases h:x=y
  ·subst h;simp
  ·simp [h]
 show Wp (if n9 (V.str x) (V.str y)=true then some (D.bl (if neg then !decide (V.str x=V.str y) else decide (V.str x=V.str y)),st) else none) Q↔_;rw [if_pos (show n9 _ _=true from rfl),bT,e]
theorem yz:Wp (bh (.tup ds) (.int i) st) Q↔∃d,eW ds i=some d/\Q d st:=by
 show Wp (match eW ds i with|some d=>some (d,st)|none=>none) Q↔_;cases eW ds i with
 |none=>rw [gY];exact ⟨False.elim,fun ⟨_,e,_⟩=>by cases e⟩
 |some d=>rw [bT];exact ⟨fun q=>⟨d,rfl,q⟩,fun ⟨_,e,q⟩=>by cases e;exact q⟩
theorem yA:Wp (bM (.ref k) (.int i) st) Q↔∃ds d,items st k=some ds/\eW ds i=some d/\Q d st:=by
 show Wp (match items st k with|some ds=>(match eW ds i with|some d=>some (d,st)|none=>none)|none=>none) Q↔_;cases items st k with
 |none=>rw [gY];exact ⟨False.elim,fun ⟨_,_,e,_⟩=>by cases e⟩
 |some ds =>
  show Wp (match eW ds i with|some d=>some (d,st)|none=>none) Q↔_;cases h:eW ds i with
  |none=>rw [gY];exact ⟨False.elim,fun ⟨_,_,e,e',_⟩=>by cases e;rw [h] at e';cases e'⟩
  |some d=>rw [bT];exact ⟨fun q=>⟨ds,d,rfl,h,q⟩,fun ⟨_,_,e,e',q⟩=>by cases e;rw [h] at e';cases e';exact q⟩
theorem yB{lo hi:Option Int}:Wp (x6 (.tup ds) lo hi st) Q↔Q (.tup (cutD ds lo hi)) st:=bT
theorem yC{lo hi:Option Int}:Wp (pP (.ref k) lo hi st) Q↔∃ds,items st k=some ds/\Q (.ref st.length) (st ++ [.lst (cutD ds lo hi)]):=by
 show Wp (match items st k with|some ds=>some (D.ref st.length,st ++ [O.lst (cutD ds lo hi)])|none=>none) Q↔_;cases items st k with
 |none=>rw [gY];exact ⟨False.elim,fun ⟨_,e,_⟩=>by cases e⟩
 |some ds=>rw [bT];exact ⟨fun q=>⟨ds,rfl,q⟩,fun ⟨_,e,q⟩=>by cases e;exact q⟩
theorem RK:Wp (jT (.tup ds) (.tup es) st) Q↔lim (ds.length+es.length)=true/\Q (.tup (ds ++ es)) st:=by
 show Wp (if lim (ds.length+es.length)=true then some (D.tup (ds ++ es),st) else none) Q↔_;rw [nV,bT,gY];split
 ·next h=>exact ⟨fun q=>⟨h,q⟩,fun q=>q.2⟩
 ·next h=>exact ⟨False.elim,fun q=>h q.1⟩
theorem yD{a b:Nat}:Wp (kJ (.ref a) (.ref b) st) Q↔∃xs ys,own st a=some xs/\own st b=some ys/\lim (xs.length+ys.length)=true/\Q (.ref st.length) (st ++ [.lst (xs ++ ys)]):=by
 show Wp (match own st a,own st b with|some xs,some ys=>if lim (xs.length+ys.length)=true then some (D.ref st.length,st ++ [O.lst (xs ++ ys)]) else none|_,_=>none) Q↔_;cases ha:own st a<;>cases hb:own st b
 ·simp only [gY];exact ⟨False.elim,fun ⟨_,_,e,_⟩=>by cases e⟩
 ·simp only [gY];exact ⟨False.elim,fun ⟨_,_,e,_⟩=>by cases e⟩
 ·simp only [gY];exact ⟨False.elim,fun ⟨_,_,_,e,_⟩=>by cases e⟩
 ·next xs ys =>
  show Wp (if lim (xs.length+ys.length)=true then some (D.ref st.length,st ++ [O.lst (xs ++ ys)]) else none) Q↔_;rw [nV,bT,gY];split
  ·next h=>exact ⟨fun q=>⟨_,_,rfl,rfl,h,q⟩,fun ⟨_,_,e,e',_,q⟩=>by cases e;cases e';exact q⟩
  ·next h=>exact ⟨False.elim,fun ⟨_,_,e,e',q,_⟩=>by cases e;cases e';exact h q⟩
theorem yE{a:D}:Wp (cq [a] st) Q↔∃ds,dv st a=some ds/\Q (.int ds.length) st:=by
 show Wp (match dv st a with|some ds=>some (D.int ds.length,st)|none=>none) Q↔_;cases dv st a with
 |none=>rw [gY];exact ⟨False.elim,fun ⟨_,e,_⟩=>by cases e⟩
 |some ds=>rw [bT];exact ⟨fun q=>⟨ds,rfl,q⟩,fun ⟨_,e,q⟩=>by cases e;exact q⟩
theorem RL{a:D}:Wp (lJ [a] st) Q↔∃ds,dv st a=some ds/\Q (.ref st.length) (st ++ [.lst ds]):=by
 show Wp (match dv st a with|some ds=>some (D.ref st.length,st ++ [O.lst ds])|none=>none) Q↔_;cases dv st a with
 |none=>rw [gY];exact ⟨False.elim,fun ⟨_,e,_⟩=>by cases e⟩
 |some ds=>rw [bT];exact ⟨fun q=>⟨ds,rfl,q⟩,fun ⟨_,e,q⟩=>by cases e;exact q⟩
theorem RM{a:D}:Wp (bK [a] st) Q↔∃ds,dv st a=some ds/\Q (.tup ds) st:=by
 show Wp (match dv st a with|some ds=>some (D.tup ds,st)|none=>none) Q↔_;cases dv st a with
 |none=>rw [gY];exact ⟨False.elim,fun ⟨_,e,_⟩=>by cases e⟩
 |some ds=>rw [bT];exact ⟨fun q=>⟨ds,rfl,q⟩,fun ⟨_,e,q⟩=>by cases e;exact q⟩
theorem RN:Wp (nU [.int i,.int j] st) Q↔Q (.int (if j > i then j else i)) st:=bT
theorem RO:Wp (qw [.int i,.int j] st) Q↔Q (.int (if j<i then j else i)) st:=bT
theorem RP:Wp (o7 [.int i] st) Q↔Q (.int i) st:=bT
theorem RQ{b:Bool}:Wp (o7 [.bl b] st) Q↔Q (.int (if b then 1 else 0)) st:=bT
theorem RS:Wp (jg [.int j] st) Q↔Q (.ref st.length) (st ++ [.gS 0 j]):=bT
theorem RT:Wp (dk [.int i,.int j] st) Q↔Q (.ref st.length) (st ++ [.gS i j]):=bT
theorem RU{y:D}:Wp (bp (.ref k) [y] st) Q↔∃xs,own st k=some xs/\lim xs.length=true/\Q .non (st.set k (.lst (xs ++ [y]))):=by
 show Wp (match own st k with|some xs=>if lim xs.length=true then some (D.non,st.set k (O.lst (xs ++ [y]))) else none|none=>none) Q↔_;cases own st k with
 |none=>rw [gY];exact ⟨False.elim,fun ⟨_,e,_⟩=>by cases e⟩
 |some xs =>
  show Wp (if lim xs.length=true then some (D.non,st.set k (O.lst (xs ++ [y]))) else none) Q↔_;rw [nV,bT,gY];split
  ·next h=>exact ⟨fun q=>⟨_,rfl,h,q⟩,fun ⟨_,e,_,q⟩=>by cases e;exact q⟩
  ·next h=>exact ⟨False.elim,fun ⟨_,e,q,_⟩=>by cases e;exact h q⟩
end
noncomputable def Ws(m:Option (Fl×Store))(N B C:av->Store->Prop)(R:D->Store->Prop):Prop:=Wp m fun fl st=>match fl with
 |.nx δ=>N δ st
 |.bk δ=>B δ st
 |.ct δ=>C δ st
 |.rt d=>R d st
section
variable {st:Store}{δ:av}{N B C:av->Store->Prop}{R:D->Store->Prop}{f g:av->Dm Fl}{e:av->Dm D}
theorem rq{m:Option (Fl×Store)}{N':av->Store->Prop}(h:Ws m N B C R)(hn:∀δ st,N δ st->N' δ st):Ws m N' B C R:=bj h fun fl st q=>by
 cases fl with
 |nx δ=>exact hn δ st q
 |bk δ=>exact q
 |ct δ=>exact q
 |rt d=>exact q
theorem aZ(h:Ws (f δ st) (fun δ1 st1=>Ws (g δ1 st1) N B C R) B C R):Ws (aB f g δ st) N B C R:=by
 unfold Ws aB;rw [d8];refine bj h fun fl st1 q=>?_;cases fl with
 |nx δ1=>exact q
 |bk δ1=>exact bT.mpr q
 |ct δ1=>exact bT.mpr q
 |rt d=>exact bT.mpr q
theorem jd(h:N δ st):Ws (aW δ st) N B C R:=bT.mpr h
theorem nW{t:D->av->Dm av}(h:Wp (e δ st) fun d st1=>Wp (t d δ st1) N):Ws (aL e t δ st) N B C R:=by
 unfold Ws aL;rw [d8];refine bj h fun d st1 q=>?_;rw [d8];exact bj q fun δ1 st2 q=>bT.mpr q
theorem b9{i:Nat}(h:Wp (e δ st) fun d st1=>N (δ.set i (some d)) st1):Ws (aL e (hName i) δ st) N B C R:=nW (bj h fun d st1 q=>bT.mpr q)
theorem mN(h:Wp (e δ st) fun _ st1=>N δ st1):Ws (cb e δ st) N B C R:=by
 unfold Ws cb;rw [d8];exact bj h fun d st1 q=>bT.mpr q
theorem eo(h:Wp (e δ st) R):Ws (bF e δ st) N B C R:=by
 unfold Ws bF;rw [d8];exact bj h fun d st1 q=>bT.mpr q
theorem hJ{c:av->Dm Bool}(h:Wp (c δ st) fun b st1=>(b=true->Ws (f δ st1) N B C R)/\(b=false->Ws (g δ st1) N B C R)):Ws (eB c f g δ st) N B C R:=by
 unfold Ws;rw [vU];refine bj h fun b st1 q=>?_;cases b with
 |true=>rw [if_pos rfl];exact q.1 rfl
 |false=>rw [if_neg WA];exact q.2 rfl
theorem MQ{i j:Nat}{fa:av->Dm (List D)}(h:Wp (fa δ st) fun as st1=>∃a b,as=[a,b]/\N ((δ.set i (some a)).set j (some b)) st1):Ws (sG i j fa δ st) N B C R:=by
 unfold Ws sG;rw [d8];refine bj h fun as st1 q=>?_;obtain ⟨a,b,rfl,q⟩:=q;exact bT.mpr q
theorem iT{n:Nat}{b:av->Dm Fl}{ds:List D}(h:Ws (b (ds.map some ++ List.replicate (n-ds.length) none) st) (fun _ st1=>R .non st1) (fun _ _=>False) (fun _ _=>False) R):Wp (g9 n b ds st) R:=by
 unfold g9;rw [d8];refine bj h fun fl st1 q=>?_;cases fl with
 |nx δ1=>exact bT.mpr q
 |bk δ1=>exact q.elim
 |ct δ1=>exact q.elim
 |rt d=>exact bT.mpr q
theorem Ar{c:av->Dm Bool}{b:av->Dm Fl}(W:Nat->av->Store->Prop)(m:Nat)(hm:m<fuel)(h0:W m δ st)
  (step:∀m δ st,W m δ st->Wp (c δ st) fun t st1=>(t=true->Ws (b δ st1) (fun δ2 st2=>∃m',m' < m/\W m' δ2 st2) N (fun δ2 st2=>∃m',m' < m/\W m' δ2 st2) R)/\(t=false->N δ st1)):Ws (jV c b δ st) N B C R:=by
 have key:∀(k m:Nat) (δ:av) (st:Store),m<k->W m δ st->Ws (gE c b k δ st) N B C R:=by
  intro k
  induction k with
  |zero=>intro m δ st h;exact absurd h (Xe _)
  |succ k ih =>
   intro m δ st hk hw;unfold Ws gE;rw [d8];refine bj (step m δ st hw) fun t st1 q=>?_;cases t with
   |false=>rw [if_neg WA];exact bT.mpr (q.2 rfl)
   |true =>
    rw [if_pos rfl,d8];refine bj (q.1 rfl) fun fl st2 q=>?_;cases fl with
    |nx δ2=>obtain ⟨m',hm',w⟩:=q;exact ih m' δ2 st2 (by omega) w
    |ct δ2=>obtain ⟨m',hm',w⟩:=q;exact ih m' δ2 st2 (by omega) w
    |bk δ2=>exact bT.mpr q
    |rt d=>exact bT.mpr q
 exact key fuel m δ st hm h0
theorem mO{fi:av->Dm Src}{t:D->av->Dm av}{b:av->Dm Fl}(ds:List D)(Pv:Nat->av->Store->Prop)(hi:Wp (fi δ st) fun S st1=>S=.fix ds/\Pv 0 δ st1)(hl:ds.length<100000)
  (step:∀i d δ st,ds[i]?=some d->Pv i δ st->Wp (t d δ st) fun δ1 st1=>Ws (b δ1 st1) (Pv (i+1)) N (Pv (i+1)) R) (fin:∀δ st,Pv ds.length δ st->N δ st):Ws (dE fi t b δ st) N B C R:=by
 unfold Ws dE;rw [d8];refine bj hi fun S lL q=>?_;obtain ⟨rfl,h0⟩:=q;have key:∀(k i:Nat) (δ:av) (st:Store),i<=ds.length->ds.length-i<k->Pv i δ st->Ws (iH (.fix ds) t b k i δ st) N B C R:=by
  intro k
  induction k with
  |zero=>intro i δ st _ h;exact absurd h (Xe _)
  |succ k ih =>
   intro i δ st hi hk hw;unfold Ws iH;have e:Src.at (.fix ds) i st=some ds[i]?:=by show (if i<=ds.length then some ds[i]? else none)=_;rw [if_pos hi]
   rw [e];cases hd:ds[i]? with
   |none =>
    have:=W7.mp hd;have e:i=ds.length:=by omega
    exact bT.mpr (fin δ st (e ▸ hw))
   |some d =>
    have hlt:=(Wq.mp hd).1;show Wp (bnd _ _) _;rw [d8];refine bj (step i d δ st hd hw) fun δ1 st1 q=>?_;rw [d8];refine bj q fun fl st2 q=>?_;cases fl with
    |nx δ2=>exact ih (i+1) δ2 st2 (by omega) (by omega) q
    |ct δ2=>exact ih (i+1) δ2 st2 (by omega) (by omega) q
    |bk δ2=>exact bT.mpr q
    |rt d=>exact bT.mpr q
 exact key fuel 0 δ lL (W9 _) (Nat.lt_trans (by omega) (show 100000<fuel by decide)) h0
theorem FG{fi:av->Dm Src}{t:D->av->Dm av}{b:av->Dm Fl}(ds:List D)(r:Nat)(Pv:Nat->av->Store->Prop)(hi:Wp (fi δ st) fun S st1=>S=.live r/\Pv 0 δ st1)(hl:ds.length<100000)(hk:∀i δ st,Pv i δ st->items st r=some ds)
  (step:∀i d δ st,ds[i]?=some d->Pv i δ st->Wp (t d δ st) fun δ1 st1=>Ws (b δ1 st1) (Pv (i+1)) N (Pv (i+1)) R) (fin:∀δ st,Pv ds.length δ st->N δ st):Ws (dE fi t b δ st) N B C R:=by
 unfold Ws dE;rw [d8];refine bj hi fun S lL q=>?_;obtain ⟨rfl,h0⟩:=q;have key:∀(k i:Nat) (δ:av) (st:Store),i<=ds.length->ds.length-i<k->Pv i δ st->Ws (iH (.live r) t b k i δ st) N B C R:=by
  intro k
  induction k with
  |zero=>intro i δ st _ h;exact absurd h (Xe _)
  |succ k ih =>
   intro i δ st hi hk' hw;unfold Ws iH;have e:Src.at (.live r) i st=some ds[i]?:=by show (items st r).map _=_;rw [hk i δ st hw];rfl
   rw [e];cases hd:ds[i]? with
   |none =>
    have:=W7.mp hd;have e:i=ds.length:=by omega
    exact bT.mpr (fin δ st (e ▸ hw))
   |some d =>
    have hlt:=(Wq.mp hd).1;show Wp (bnd _ _) _;rw [d8];refine bj (step i d δ st hd hw) fun δ1 st1 q=>?_;rw [d8];refine bj q fun fl st2 q=>?_;cases fl with
    |nx δ2=>exact ih (i+1) δ2 st2 (by omega) (by omega) q
    |ct δ2=>exact ih (i+1) δ2 st2 (by omega) (by omega) q
    |bk δ2=>exact bT.mpr q
    |rt d=>exact bT.mpr q
 exact key fuel 0 δ lL (W9 _) (Nat.lt_trans (by omega) (show 100000<fuel by decide)) h0
theorem MR{fi:av->Dm Src}{n:Nat}{js:List Nat}{t:D->av->Dm av}{c:av->Dm Bool}{f:av->Dm D}{Q:D->Store->Prop}(ds:List D)(Pv:Nat->List D->av->Store->Prop)
  (hi:Wp (fi δ st) fun S st1=>(∀i ys δ st,i<=ds.length->Pv i ys δ st->S.at i st=some ds[i]?)/\Pv 0 [] (pb n js δ) st1) (hl:ds.length<100000) (hy:∀i ys δ st,Pv i ys δ st->ys.length<=i)
  (step:∀i d ys δ st,ds[i]?=some d->Pv i ys δ st->Wp (t d δ st) fun δ1 st1=>Wp (c δ1 st1) fun b st2=>(b=true->Wp (f δ1 st2) fun y st3=>Pv (i+1) (ys ++ [y]) δ1 st3)/\(b=false->Pv (i+1) ys δ1 st2))
  (fin:∀ys δ st,Pv ds.length ys δ st->Q (.ref st.length) (st ++ [.lst ys])):Wp (dw fi n js t c f δ st) Q:=by
 unfold dw;rw [d8];refine bj hi fun S lL q=>?_;obtain ⟨hS,h0⟩:=q;have key:∀(k i:Nat) (ys:List D) (δ:av) (st:Store),i<=ds.length->ds.length-i<k->Pv i ys δ st->Wp (ji S t c f k i ys δ st) fun zs pR=>∃δ9,Pv ds.length zs δ9 pR:=by
  intro k
  induction k with
  |zero=>intro i ys δ st _ h;exact absurd h (Xe _)
  |succ k ih =>
   intro i ys δ st hi hk' hw;unfold ji;have hlim:lim ys.length=true:=Nat.ble_eq_true_of_le (by have:=hy i ys δ st hw;omega);rw [if_pos hlim,hS i ys δ st hi hw];cases hd:ds[i]? with
   |none =>
    have:=W7.mp hd;have e:i=ds.length:=by omega
    exact bT.mpr ⟨δ,e ▸ hw⟩
   |some d =>
    have hlt:=(Wq.mp hd).1;show Wp (bnd _ _) _;rw [d8];refine bj (step i d ys δ st hd hw) fun δ1 st1 q=>?_;rw [d8];refine bj q fun b st2 q=>?_;cases b with
    |true =>
     rw [if_pos rfl,d8];exact bj (q.1 rfl) fun y st3 q=>ih (i+1) _ δ1 st3 (by omega) (by omega) q
    |false =>
     rw [if_neg WA];exact ih (i+1) ys δ1 st2 (by omega) (by omega) (q.2 rfl)
 rw [d8];exact bj (key fuel 0 [] _ lL (W9 _) (Nat.lt_trans (by omega) (show 100000<fuel by decide)) h0) fun zs pR ⟨δ9,q⟩=>bT.mpr (fin zs δ9 pR q)
end
noncomputable def keyOf:D->Option Key
 |.int i=>some (.inl i)
 |.str x=>some (.inr x)
 |_=>none
noncomputable def jX(st:Store):D->Option (List (Key×D))
 |.ref i=>match st[i]? with
  |some (.dct kvs)=>some kvs
  |_=>none
 |_=>none
noncomputable def eQ(kvs:List (Key×D))(k:Key):Option D:=(kvs.find? fun kv=>decide (kv.1=k)).map (·.2)
noncomputable def putD(kvs:List (Key×D))(k:Key)(v:D):List (Key×D) :=
 if (kvs.any fun kv=>decide (kv.1=k))=true then kvs.map (fun kv=>if kv.1=k then (kv.1,v) else kv) else kvs ++ [(k,v)]
section
variable {K:Zfr}{ρ:List Addr}{H:Hp}{st:Store}
theorem zZ{x:V}{y:D}{k:Key}(r:Rp K ρ H x y)(h:keyOf y=some k):x=kV k:=by
 cases r<;>first|(cases h;rfl)|cases h
theorem MS{x:V}{a:D}{kvs:List (Key×D)}(l:Rl K ρ H st)(r:Rp K ρ H x a)(h:jX st a=some kvs):∃p i ws,x=.ref p/\a=.ref i/\ρ[i]?=some p/\st[i]?=some (.dct kvs)/\H p=some (.dK ws)/\Rk K ρ H ws kvs:=by
 cases r<;>first|(cases h;done)|skip
 next hi =>
  simp only [jX] at h;split at h
  ·next kvs' hs =>
   cases h;obtain ⟨ws,e,r⟩:=l.obj _ _ _ hi hs;exact ⟨_,_,ws,rfl,rfl,hi,hs,e,r⟩
  ·cases h
theorem Rk.val{ws:List (Key×V)}{kvs:List (Key×D)}(r:Rk K ρ H ws kvs)(k:Key):(∀d,eQ kvs k=some d->∃v,kS ws k=some v/\Rp K ρ H v d)/\(kS ws k).isSome=(eQ kvs k).isSome:=by
 induction r with
 |nil=>exact ⟨fun d h=>(by cases h),rfl⟩
 |@cons p q ps qs h t ih =>
  obtain ⟨h1,h2⟩:=h;unfold eQ kS at ih ⊢;rw [Xq,Xq]
  by_cases e:p.1=k
  ·rw [decide_eq_true e,decide_eq_true (h1 ▸ e)]
   exact ⟨fun d hd=>by cases hd;exact ⟨_,rfl,h2⟩,rfl⟩
  ·rw [decide_eq_false e,decide_eq_false (h1 ▸ e)]
   exact ih
theorem Rk.app{ws As:List (Key×V)}{kvs kvs':List (Key×D)}(r:Rk K ρ H ws kvs)(r':Rk K ρ H As kvs'):Rk K ρ H (ws ++ As) (kvs ++ kvs'):=by
 induction r with
 |nil=>exact r'
 |cons h _ ih=>exact .cons h ih
theorem Rk.put{ws:List (Key×V)}{kvs:List (Key×D)}{v:V}{d:D}(r:Rk K ρ H ws kvs)(k:Key)(rv:Rp K ρ H v d):Rk K ρ H (putK ws k v) (putD kvs k d):=by
 have hany:(ws.any fun kv=>decide (kv.1=k))=(kvs.any fun kv=>decide (kv.1=k)):=by
  induction r with
  |nil=>rfl
  |cons h _ ih=>rw [Xo,Xo,ih,h.1]
 have hmap:Rk K ρ H (ws.map fun kv=>if kv.1=k then (kv.1,v) else kv) (kvs.map fun kv=>if kv.1=k then (kv.1,d) else kv):=by
  clear hany
  induction r with
  |nil=>exact .nil
  |@cons p q ps qs h _ ih =>
   refine .cons ?_ ih;dsimp only
   by_cases e:p.1=k
   ·rw [if_pos e,if_pos (h.1 ▸ e)];exact ⟨h.1,rv⟩
   ·rw [if_neg e,if_neg (h.1 ▸ e)];exact h
 unfold putK putD;rw [hany];split
 ·exact hmap
 ·exact r.app (.cons ⟨rfl,rv⟩ .nil)
theorem Rk.length{ws:List (Key×V)}{kvs:List (Key×D)}(r:Rk K ρ H ws kvs):ws.length=kvs.length:=by
 induction r with
 |nil=>rfl
 |cons _ _ ih=>rw [WX,WX,ih]
end
section
variable {K:Zfr}
noncomputable def sJ:av->Dm D:=fun _ st=>some (.ref st.length,st ++ [.dct []])
theorem RV:gC K rT sJ:=by
 intro ρ σ H δ st b st' Q l rs e q;cases e;exact fun p hp=>q _ _ _ (Mn.new hp) (l.newD hp .nil) (.ref (newR l))
noncomputable def vV(fd fy:av->Dm D):av->Dm D:=fun δ st=>bnd (fd δ st) fun x st1=>bnd (fy δ st1) fun y st2=>match jX st2 x,keyOf y with
 |some kvs,some k=>match eQ kvs k with
  |some v=>some (v,st2)
  |none=>none
 |_,_=>none
noncomputable def uG(neg:Bool)(fy fd:av->Dm D):av->Dm D:=fun δ st=>bnd (fy δ st) fun y st1=>bnd (fd δ st1) fun x st2=>match jX st2 x,keyOf y with
 |some kvs,some k=>some (.bl (if neg then !(eQ kvs k).isSome else (eQ kvs k).isSome),st2)
 |_,_=>none
theorem RW{td ty:TE}{fd fy:av->Dm D}(hy:gC K ty fy)(hd:gC K td fd):gC K (qd ty td) (uG true fy fd):=by
 intro ρ σ H δ st b st' Q l rs e q;obtain ⟨y,st1,e1,e⟩:=eU e;obtain ⟨x,st2,e2,e⟩:=eU e;refine hy ρ σ H δ st y st1 _ l rs e1 fun vy H1 ρ1 m1 l1 r1=>hd ρ1 σ H1 δ st1 x st2 _ l1 (rs.mn m1) e2 fun vx H2 ρ2 m2 l2 r2=>?_;split at e
 ·next kvs k hx hk =>
  cases e;obtain ⟨p,i,ws,rfl,rfl,hi,hs,hp,rk⟩:=MS l2 r2 hx;refine ⟨p,kS ws k,rfl,by rw [zZ r1 hk];exact rR.k hp,q _ H2 ρ2 (m1.trans m2) l2 ?_⟩;rw [(rk.val k).2];exact .bl _
 ·cases e
noncomputable def qB(fd fy fv:av->Dm D):av->Dm Fl:=fun δ st=>bnd (fv δ st) fun v st1=>bnd (fd δ st1) fun x st2=>bnd (fy δ st2) fun y st3=>match x,jX st3 x,keyOf y with
 |.ref i,some kvs,some k=>if lim kvs.length=true then some (.nx δ,st3.set i (.dct (putD kvs k v))) else none
 |_,_,_=>none
theorem RX{td ty tv:TE}{fd fy fv:av->Dm D}(hd:gC K td fd)(hy:gC K ty fy)(hv:gC K tv fv):oP K (vt td ty tv) (qB fd fy fv):=by
 intro ρ σ H δ st fl st' E l rs e q;obtain ⟨v,st1,e1,e⟩:=eU e;obtain ⟨x,st2,e2,e⟩:=eU e;obtain ⟨y,st3,e3,e⟩:=eU e;refine hv ρ σ H δ st v st1 _ l rs e1 fun vv H1 ρ1 m1 l1 r1=>hd ρ1 σ H1 δ st1 x st2 _ l1 (rs.mn m1) e2 fun vx H2 ρ2 m2 l2 r2=>hy ρ2 σ H2 δ st2 y st3 _ l2 (rs.mn (m1.trans m2)) e3 fun vy H3 ρ3 m3 l3 r3=>?_;obtain ⟨i,rfl⟩:∃i,x=.ref i:=by
  cases x<;>first|exact ⟨_,rfl⟩|(simp at e;done)|cases e
 cases hx:jX st3 (.ref i) with
 |none=>rw [hx] at e;cases e
 |some kvs =>
 cases hk:keyOf y with
 |none=>rw [hx,hk] at e;cases e
 |some k =>
  rw [hx,hk] at e;simp only at e;split at e
  ·next hl =>
   cases e;obtain ⟨p,j,ws,rfl,ej,hi,hs,hp,rk⟩:=MS l3 (r2.mn m3) hx;cases ej;obtain ⟨l4,m4⟩:=l3.xU hi hs (rk.put k (r1.mn (m2.trans m3)));have mm:=((m1.trans m2).trans m3).trans m4;refine ⟨p,_,rfl,?_,q σ _ ρ3 mm l4 (rs.mn mm)⟩;rw [zZ r3 hk];exact rS.k hp (by rw [rk.length];exact Fs hl)
  ·cases e
noncomputable def CW:av->Dm (List (D×D)):=fun _ st=>some ([],st)
noncomputable def sL(fk fv:av->Dm D)(fr:av->Dm (List (D×D))):av->Dm (List (D×D)):=fun δ st=>bnd (fk δ st) fun k st1=>bnd (fv δ st1) fun v st2=>bnd (fr δ st2) fun r st3=>some ((k,v) :: r,st3)
noncomputable def keysOf:List (D×D)->Option (List (Key×D))
 |[]=>some []
 |(k,v) :: r=>match keyOf k,keysOf r with
  |some k',some r'=>some ((k',v) :: r')
  |_,_=>none
noncomputable def sM(kvs more:List (Key×D)):List (Key×D):=more.foldl (fun acc kv=>putD acc kv.1 kv.2) kvs
noncomputable def vW(fp:av->Dm (List (D×D))):av->Dm D:=fun δ st=>bnd (fp δ (st ++ [.dct []])) fun ps st2=>match st2[st.length]?,keysOf ps with
 |some (.dct []),some kvs=>if kvs.length<=15 then some (.ref st.length,st2.set st.length (.dct (sM [] kvs))) else none
 |_,_=>none
end
section
variable {st:Store}{δ:av}{Q:D->Store->Prop}
theorem RY:Wp (sJ δ st) Q↔Q (.ref st.length) (st ++ [.dct []]):=bT
theorem RZ{fd fy:av->Dm D}:Wp (vV fd fy δ st) Q↔Wp (fd δ st) fun x st1=>Wp (fy δ st1) fun y st2=>∃kvs k v,jX st2 x=some kvs/\keyOf y=some k/\eQ kvs k=some v/\Q v st2:=by
 unfold vV;rw [d8];simp only [d8];constructor<;>refine fun h=>bj h fun x s h=>bj h fun y s2 h=>?_
 ·split at h
  ·next kvs k h1 h2 =>
   split at h
   ·next v h3=>exact ⟨kvs,k,v,by assumption,by assumption,h3,bT.mp h⟩
   ·exact (gY.mp h).elim
  ·exact (gY.mp h).elim
 ·obtain ⟨kvs,k,v,h1,h2,h3,h⟩:=h
  rw [h1,h2];simp only [h3];exact bT.mpr h
theorem yF{neg:Bool}{fd fy:av->Dm D}:Wp (uG neg fy fd δ st) Q↔Wp (fy δ st) fun y st1=>Wp (fd δ st1) fun x st2=>∃kvs k,jX st2 x=some kvs/\keyOf y=some k/\Q (.bl (if neg then !(eQ kvs k).isSome else (eQ kvs k).isSome)) st2:=by
 unfold uG;rw [d8];simp only [d8];constructor<;>refine fun h=>bj h fun x s h=>bj h fun y s2 h=>?_
 ·split at h
  ·next kvs k h1 h2=>exact ⟨kvs,k,by assumption,by assumption,bT.mp h⟩
  ·exact (gY.mp h).elim
 ·obtain ⟨kvs,k,h1,h2,h⟩:=h
  rw [h1,h2];exact bT.mpr h
theorem R3{R:List (D×D)->Store->Prop}:Wp (CW δ st) R↔R [] st:=bT
theorem R4{fk fv:av->Dm D}{fr:av->Dm (List (D×D))}{R:List (D×D)->Store->Prop}:Wp (sL fk fv fr δ st) R↔Wp (fk δ st) fun k st1=>Wp (fv δ st1) fun v st2=>Wp (fr δ st2) fun r st3=>R ((k,v) :: r) st3:=by
 unfold sL;rw [d8];simp only [d8,bT]
theorem R5{fp:av->Dm (List (D×D))}:Wp (vW fp δ st) Q↔Wp (fp δ (st ++ [.dct []])) fun ps st2=>st2[st.length]?=some (.dct [])/\∃kvs,keysOf ps=some kvs/\kvs.length<=15/\Q (.ref st.length) (st2.set st.length (.dct (sM [] kvs))):=by
 unfold vW;rw [d8];constructor<;>refine fun h=>bj h fun ps s h=>?_
 ·split at h
  ·next kvs h1 h2 =>
   rw [nV,bT,gY] at h;split at h
   ·next hl=>exact ⟨by assumption,kvs,by assumption,hl,h⟩
   ·exact h.elim
  ·exact (gY.mp h).elim
 ·obtain ⟨h1,kvs,h2,h3,h⟩:=h
  rw [h1,h2];simp only [if_pos h3];exact bT.mpr h
theorem R6{fd fy fv:av->Dm D}{N B C:av->Store->Prop}{R:D->Store->Prop}(h:Wp (fv δ st) fun v st1=>Wp (fd δ st1) fun x st2=>Wp (fy δ st2) fun y st3=>∃i kvs k,x=.ref i/\jX st3 x=some kvs/\keyOf y=some k/\lim kvs.length=true/\N δ (st3.set i (.dct (putD kvs k v)))):Ws (qB fd fy fv δ st) N B C R:=by
 unfold Ws qB;rw [d8];refine bj h fun v st1 h=>?_;rw [d8];refine bj h fun x st2 h=>?_;rw [d8];refine bj h fun y st3 h=>?_;obtain ⟨i,kvs,k,rfl,h1,h2,h3,h⟩:=h;rw [h1,h2];simp only [h3];exact bT.mpr h
end
structure Ex(c:List Nat)(st st':Store):Prop where
 len:st.length<=st'.length
 keep:∀(i:Nat) (o:O),st[i]?=some o->i ∉ c->st'[i]?=some o
section
variable {c c':List Nat}{st st1 st2:Store}{i:Nat}{o:O}{ds:List D}
theorem Ex.refl:Ex c st st:=⟨Wv _,fun _ _ h _=>h⟩
theorem Ex.trans(a:Ex c st st1)(b:Ex c st1 st2):Ex c st st2:=⟨WZ a.len b.len,fun i o h n=>b.keep i o (a.keep i o h n) n⟩
theorem Ex.mono(a:Ex c st st1)(h:∀x∈c,x∈c'):Ex c' st st1:=⟨a.len,fun i o e n=>a.keep i o e fun z=>n (h i z)⟩
theorem Ex.any(a:Ex [] st st1):Ex c st st1:=a.mono fun x h=>nomatch h
theorem dz{α:Type}{l:List α}{i:Nat}{o:α}(h:l[i]?=some o):i<l.length:=(Wq.mp h).1
theorem iI{l m:List O}(h:l[i]?=some o):(l ++ m)[i]?=some o:=by rw [WG (dz h)];exact h
theorem gG{l:List O}:(l ++ [o])[l.length]?=some o:=by rw [WN (Wv _),XA];rfl
theorem Ex.app(a:Ex c st st1)(m:List O):Ex c st (st1 ++ m):=⟨by rw [Wt];exact WZ a.len (Nat.le_add_right _ _),fun i o h n=>iI (a.keep i o h n)⟩
theorem Ex.cI(m:List O):Ex c st (st ++ m):=Ex.refl.app m
theorem Ex.put(a:Ex c st st1)(h:i∈c):Ex c st (st1.set i o):=⟨by rw [W3];exact a.len,fun j u e n=>by rw [Wz (fun z=>n (by rw [<- z];exact h))];exact a.keep j u e n⟩
theorem Ex.loc(a:Ex c st st1)(h:st.length<=i):Ex c st (st1.set i o):=⟨by rw [W3];exact a.len,fun j u e n=>by rw [Wz (by have:=dz e;omega)];exact a.keep j u e n⟩
theorem bw(h:st[i]?=some (.lst ds)):items st i=some ds:=by unfold items;rw [h]
theorem Jh(h:st[i]?=some (.ot ds)):items st i=some ds:=by unfold items;rw [h]
theorem iJ(h:st[i]?=some (.lst ds)):own st i=some ds:=by unfold own;rw [h]
theorem rA:items (st ++ [.lst ds]) st.length=some ds:=bw gG
theorem R7:own (st ++ [.lst ds]) st.length=some ds:=iJ gG
theorem R8{o':O}:items (st ++ [.lst ds] ++ [o']) st.length=some ds:=bw (iI gG)
theorem R9{o':O}:own (st ++ [.lst ds] ++ [o']) st.length=some ds:=iJ (iI gG)
theorem Sb{o' o2:O}:items (st ++ [.lst ds] ++ [o'] ++ [o2]) st.length=some ds:=bw (iI (iI gG))
theorem Sd{o' o2:O}:own (st ++ [.lst ds] ++ [o'] ++ [o2]) st.length=some ds:=iJ (iI (iI gG))
theorem Se{lo hi:Int}:jJ (st ++ [.gS lo hi]) (.ref st.length)=some (lo,hi):=by simp only [jJ,gG]
theorem Sf:dv st (.tup ds)=some ds:=rfl
theorem Ji:dv st (.ref i)=items st i:=rfl
theorem kY(h:(items st i).isSome=true):tQ "list" st (.ref i)=true:=by simp only [tQ,h];rfl
theorem Jj:tQ "tuple" st (.tup ds)=true:=by simp only [tQ];rfl
theorem gZ{n:Nat}(h:n<=100000):lim n=true:=Nat.ble_eq_true_of_le h
end
section
variable {st:Store}{Q:D->Store->Prop}{i j:Int}{k:Nat}{ds es:List D}
theorem Sg{a:D}:Wp (dc [a] st) Q↔∃p,jJ st a=some p/\lK p.1 p.2=true/\Q (.ref st.length) (st ++ [.lst (aA p.1 (p.2-p.1).toNat)]):=by
 show Wp (match jJ st a with|some (lo,hi)=>if lK lo hi=true then some (D.ref st.length,st ++ [O.lst (aA lo (hi-lo).toNat)]) else none|none=>none) Q↔_;cases jJ st a with
 |none=>rw [gY];exact ⟨False.elim,fun ⟨_,e,_⟩=>by cases e⟩
 |some p =>
  obtain ⟨lo,hi⟩:=p;show Wp (if lK lo hi=true then some (D.ref st.length,st ++ [O.lst (aA lo (hi-lo).toNat)]) else none) Q↔_;rw [nV,bT,gY];split
  ·next h=>exact ⟨fun q=>⟨_,rfl,h,q⟩,fun ⟨_,e,_,q⟩=>by cases e;exact q⟩
  ·next h=>exact ⟨False.elim,fun ⟨_,e,q,_⟩=>by cases e;exact h q⟩
theorem Si{a:D}:Wp (uE [a] st) Q↔∃p,jJ st a=some p/\lK p.1 p.2=true/\Q (.tup (aA p.1 (p.2-p.1).toNat)) st:=by
 show Wp (match jJ st a with|some (lo,hi)=>if lK lo hi=true then some (D.tup (aA lo (hi-lo).toNat),st) else none|none=>none) Q↔_;cases jJ st a with
 |none=>rw [gY];exact ⟨False.elim,fun ⟨_,e,_⟩=>by cases e⟩
 |some p =>
  obtain ⟨lo,hi⟩:=p;show Wp (if lK lo hi=true then some (D.tup (aA lo (hi-lo).toNat),st) else none) Q↔_;rw [nV,bT,gY];split
  ·next h=>exact ⟨fun q=>⟨_,rfl,h,q⟩,fun ⟨_,e,_,q⟩=>by cases e;exact q⟩
  ·next h=>exact ⟨False.elim,fun ⟨_,e,q,_⟩=>by cases e;exact h q⟩
theorem yG:Wp (sF (.ref k) (.int j) st) Q↔∃xs,own st k=some xs/\(-9223372036854775808<=j/\j<9223372036854775808)/\lim (xs.length*j.toNat)=true/\Q (.ref st.length) (st ++ [.lst (List.replicate j.toNat xs).flatten]):=by
 show Wp (match own st k with|some a=>if (decide (-9223372036854775808<=j/\j<9223372036854775808) && lim (a.length*j.toNat))=true then some (D.ref st.length,st ++ [O.lst (List.replicate j.toNat a).flatten]) else none|_=>none) Q↔_;cases own st k with
 |none=>simp only [gY];exact ⟨False.elim,fun ⟨_,e,_⟩=>by cases e⟩
 |some xs =>
  show Wp (if (decide (-9223372036854775808<=j/\j<9223372036854775808) && lim (xs.length*j.toNat))=true then some (D.ref st.length,st ++ [O.lst (List.replicate j.toNat xs).flatten]) else none) Q↔_;rw [nV,bT,gY];split
  ·next h=>rw [WU,decide_eq_true_eq] at h;exact ⟨fun q=>⟨_,rfl,h.1,h.2,q⟩,fun ⟨_,e,_,_,q⟩=>by cases e;exact q⟩
  ·next h=>rw [WU,decide_eq_true_eq] at h;exact ⟨False.elim,fun ⟨_,e,q,q',_⟩=>by cases e;exact h ⟨q,q'⟩⟩
theorem Sj:Wp (kW (.ref k) [.int i] st) Q↔∃xs j y,own st k=some xs/\(-9223372036854775808<=i/\i<9223372036854775808)/\seqIndex? i xs.length=some j/\xs[j]?=some y/\Q y (st.set k (.lst (xs.eraseIdx j))):=by
 constructor
 ·rintro ⟨a,s,e,q⟩
  simp only [kW] at e;split at e
  ·next xs hx =>
   split at e
   ·next hk =>
    split at e
    ·next j hj =>
     split at e
     ·next y hy=>cases e;exact ⟨xs,j,_,hx,of_decide_eq_true hk,hj,hy,q⟩
     ·cases e
    ·cases e
   ·cases e
  ·cases e
 ·rintro ⟨xs,j,y,hx,hk,hj,hy,q⟩
  refine ⟨_,_,?_,q⟩;simp only [kW,hx,hj,hy,decide_eq_true hk];rfl
theorem Sk{b:Nat}:Wp (ow (.ref k) [.ref b] st) Q↔∃xs ys,own st k=some xs/\own st b=some ys/\lim (xs.length+ys.length)=true/\Q .non (st.set k (.lst (xs ++ ys))):=by
 constructor
 ·rintro ⟨a,s,e,q⟩
  simp only [ow] at e;split at e
  ·next xs ys hx hy =>
   split at e
   ·next hl=>cases e;exact ⟨xs,ys,hx,hy,hl,q⟩
   ·cases e
  ·cases e
 ·rintro ⟨xs,ys,hx,hy,hl,q⟩
  refine ⟨_,_,?_,q⟩;simp only [ow,hx,hy,hl];rfl
theorem MT{v:Int}:Wp (jh (.tup ds) [.int v] st) Q↔∃ns j,cH iV ds=some ns/\ns.findIdx? (fun i=>decide (i=v))=some j/\Q (.int (j:Int)) st:=by
 constructor
 ·rintro ⟨a,s,e,q⟩
  simp only [jh] at e;split at e
  ·next ns hn =>
   split at e
   ·next j hj=>cases e;exact ⟨ns,j,hn,hj,q⟩
   ·cases e
  ·cases e
 ·rintro ⟨ns,j,hn,hj,q⟩
  refine ⟨_,_,?_,q⟩;simp only [jh,hn,hj]
theorem Jk{v:Int}{ns:List Int}(h:items st k=some (ns.map D.int))(hv:v∈ns)(hl:ns.length<=1000)(hb:∀i∈ns,-1000000000000000000<=i/\i<=1000000000000000000):Wp (g8 (.ref k) [.int v] st) Q↔Q (.int (ns.idxOf v:Int)) st:=by
 have e:cH iV (ns.map D.int)=some ns:=by
  have:=vR (f:=iV) (g:=D.int) (k:=id) (fun _=>rfl) ns;rw [this,XQ]
 have e2:g8 (.ref k) [.int v] st=some (.int (ns.idxOf v:Int),st):=by
  simp only [g8,h,Xu,e];rw [if_pos ⟨hv,hl,hb⟩]
 rw [e2,bT]
theorem yH:Wp (yd [.ref k] st) Q↔∃ds bs,items st k=some ds/\cH bV ds=some bs/\Q (.bl (bs.all id)) st:=by
 constructor
 ·rintro ⟨a,s,e,q⟩
  simp only [yd] at e;split at e
  ·next bs hb =>
   cases e;obtain ⟨ds,h1,h2⟩:=Xi.mp hb;exact ⟨ds,bs,h1,h2,q⟩
  ·cases e
 ·rintro ⟨ds,bs,h1,h2,q⟩
  refine ⟨_,_,?_,q⟩;simp only [yd,h1,Xu,h2]
theorem CY{neg:Bool}{a c:D}:Wp (rn neg a c st) Q↔∃x ds vs,sV a=some x/\dv st c=some ds/\cH sV ds=some vs/\Q (.bl (if neg then !vk x vs else vk x vs)) st:=by
 constructor
 ·rintro ⟨b,s,e,q⟩
  simp only [rn] at e;split at e
  ·next x vs h1 h2 =>
   cases e;obtain ⟨ds,h3,h4⟩:=Xi.mp h2;exact ⟨x,ds,vs,h1,h3,h4,q⟩
  ·cases e
 ·rintro ⟨x,ds,vs,h1,h2,h3,q⟩
  refine ⟨_,_,?_,q⟩;simp only [rn,h1,h2,Xu,h3]
theorem MU(ns:List Int):cH sV (ns.map D.int)=some (ns.map V.int):=vR (f:=sV) (g:=D.int) (k:=V.int) (fun _=>rfl) ns
theorem Jl(ns:List Int):cH iV (ns.map D.int)=some ns:=by
 have:=vR (f:=iV) (g:=D.int) (k:=id) (fun _=>rfl) ns;rw [this,XQ]
theorem Jm{neg:Bool}{a b:D}:Wp (gD neg a b st) Q↔∃p q,gp st 20 a=some p/\gp st 20 b=some q/\(PyData.canLay0 p=true/\PyData.canLay0 q=true/\min p.depth q.depth<=60)/\Q (.bl (if neg then !PyData.eqv p q else PyData.eqv p q)) st:=by
 constructor
 ·rintro ⟨c,s,e,q⟩
  simp only [gD] at e;split at e
  ·next x y h1 h2 =>
   split at e
   ·next hs =>
    cases e;rw [WU,WU,decide_eq_true_eq] at hs;exact ⟨x,y,h1,h2,⟨hs.1.1,hs.1.2,hs.2⟩,q⟩
   ·cases e
  ·cases e
 ·rintro ⟨x,y,h1,h2,⟨h3,h4,h5⟩,q⟩
  refine ⟨_,_,?_,q⟩;simp only [gD,h1,h2,h3,h4,decide_eq_true h5];rfl
theorem yI{z:Str}:Wp (x4 (.str z) (.int i) st) Q↔∃c,lim z.length=true/\eW z.cps.toList i=some c/\Q (.str ⟨#[c]⟩) st:=by
 constructor
 ·rintro ⟨c,s,e,q⟩
  simp only [x4] at e;split at e
  ·next h1 =>
   split at e
   ·next c hc=>cases e;exact ⟨c,h1,hc,q⟩
   ·cases e
  ·cases e
 ·rintro ⟨c,h1,h2,q⟩
  refine ⟨_,_,?_,q⟩;simp only [x4,h1,h2];rfl
theorem Sl{δ:av}{fa:av->Dm (List D)}{R:Src->Store->Prop}:Wp (cz fa δ st) R↔Wp (fa δ st) fun as st1=>∃j,as=[.int j]/\(-4611686018427387904<=j/\j<4611686018427387904)/\R (.fix (aA 0 j.toNat)) st1:=by
 unfold cz;rw [d8];constructor<;>refine fun h=>bj h fun as s h=>?_
 ·split at h
  ·next j =>
   rw [nV,bT,gY] at h;split at h
   ·next hk=>exact ⟨j,rfl,of_decide_eq_true hk,h⟩
   ·exact h.elim
  ·exact (gY.mp h).elim
 ·obtain ⟨j,rfl,h1,h⟩:=h
  simp only [decide_eq_true h1,if_true];exact bT.mpr h
theorem Sn{δ:av}{fa:av->Dm (List D)}{R:Src->Store->Prop}:Wp (oz fa δ st) R↔Wp (fa δ st) fun as st1=>∃i j,as=[.int i,.int j]/\((-4611686018427387904<=i/\i<4611686018427387904)/\-4611686018427387904<=j/\j<4611686018427387904)/\R (.fix (aA i (j-i).toNat)) st1:=by
 unfold oz;rw [d8];constructor<;>refine fun h=>bj h fun as s h=>?_
 ·split at h
  ·next i j =>
   rw [nV,bT,gY] at h;split at h
   ·next hk=>exact ⟨i,j,rfl,of_decide_eq_true hk,h⟩
   ·exact h.elim
  ·exact (gY.mp h).elim
 ·obtain ⟨i,j,rfl,h1,h⟩:=h
  simp only [decide_eq_true h1,if_true];exact bT.mpr h
theorem Sq{δ:av}{fa:av->Dm D}{R:Src->Store->Prop}:Wp (d4 fa δ st) R↔Wp (fa δ st) fun a st1=>∃ds,a=.tup ds/\R (.fix ds) st1:=by
 unfold d4;rw [d8];constructor<;>refine fun h=>bj h fun a s h=>?_
 ·cases a<;>simp only [bT,gY] at h
  exact ⟨_,rfl,h⟩
 ·obtain ⟨j,rfl,h⟩:=h
  exact bT.mpr h
theorem Sr{δ:av}{fa:av->Dm D}{R:Src->Store->Prop}:Wp (jW fa δ st) R↔Wp (fa δ st) fun a st1=>∃i ds,a=.ref i/\items st1 i=some ds/\R (.live i) st1:=by
 unfold jW;rw [d8];constructor<;>refine fun h=>bj h fun a s h=>?_
 ·split at h
  ·split at h
   ·next i ds hd=>exact ⟨_,ds,rfl,hd,bT.mp h⟩
   ·exact (gY.mp h).elim
  ·exact (gY.mp h).elim
 ·obtain ⟨i,ds,rfl,hd,h⟩:=h
  simp only [hd];exact bT.mpr h
theorem Ss{δ:av}{fa:av->Dm (List D)}{R:Src->Store->Prop}:Wp (kX fa δ st) R↔Wp (fa δ st) fun as st1=>∃ds,as=[.tup ds]/\R (.fix (fU ds)) st1:=by
 unfold kX;rw [d8];constructor<;>refine fun h=>bj h fun as s h=>?_
 ·split at h
  ·exact ⟨_,rfl,bT.mp h⟩
  ·exact (gY.mp h).elim
 ·obtain ⟨ds,rfl,h⟩:=h
  exact bT.mpr h
theorem MV{i:Nat}{d:D}{δ:av}{R:av->Store->Prop}:Wp (hName i d δ st) R↔R (δ.set i (some d)) st:=bT
theorem Sv{δ:av}{R:av->Store->Prop}:Wp (kK [] δ st) R↔R δ st:=bT
theorem Sw{f:D->av->Dm av}{g:List D->av->Dm av}{d:D}{ds:List D}{δ:av}{R:av->Store->Prop}:Wp (bU f g (d :: ds) δ st) R↔Wp (f d δ st) fun δ1 st1=>Wp (g ds δ1 st1) R:=d8
theorem Sx{n:Nat}{f:List D->av->Dm av}{ds:List D}{δ:av}{R:av->Store->Prop}:Wp (jU n f (.tup ds) δ st) R↔ds.length=n/\Wp (f ds δ st) R:=by
 show Wp (if ds.length=n then f ds δ st else none) R↔_;rw [nV,gY];split
 ·next h=>exact ⟨fun q=>⟨h,q⟩,fun q=>q.2⟩
 ·next h=>exact ⟨False.elim,fun q=>h q.1⟩
theorem FH{fo fi:av->Dm D}{d:D}{δ:av}{R:av->Store->Prop}:Wp (hSub fo fi d δ st) R↔Wp (fo δ st) fun o st1=>Wp (fi δ st1) fun i st2=>∃r k xs j,o=.ref r/\i=.int k/\own st2 r=some xs/\mC xs.length k=some j/\R δ (st2.set r (.lst (xs.set j d))):=by
 unfold hSub;rw [d8];simp only [d8];constructor<;>refine fun h=>bj h fun o s h=>bj h fun i s2 h=>?_
 ·split at h
  ·split at h
   ·next xs hx =>
    split at h
    ·next j hj=>exact ⟨_,_,xs,j,rfl,rfl,hx,hj,bT.mp h⟩
    ·exact (gY.mp h).elim
   ·exact (gY.mp h).elim
  ·exact (gY.mp h).elim
 ·obtain ⟨r,k,xs,j,rfl,rfl,hx,hj,h⟩:=h
  simp only [hx,hj];exact bT.mpr h
theorem Sy{a:D}{c:String}:Wp (oy [a,.ty c] st) Q↔qV st a=some c/\Q (.bl true) st:=by
 constructor
 ·rintro ⟨b,s,e,q⟩
  simp only [oy] at e;split at e
  ·next T hT =>
   split at e
   ·next h=>cases e;subst h;exact ⟨hT,q⟩
   ·cases e
  ·cases e
 ·rintro ⟨h,q⟩
  refine ⟨_,_,?_,q⟩;simp only [oy,h,if_true]
theorem MW{δ:av}{R:Bool->Store->Prop}:Wp (eC δ st) R↔R true st:=bT
end
theorem MX{α:Type}(x:α)(xs:List α):eW (x :: xs) 0=some x:=by
 unfold eW mC;rw [if_pos (by decide),if_pos (by simp only [WX];omega)];rfl
theorem MY{α:Type}(x y:α)(xs:List α):eW (x :: y :: xs) 1=some y:=by
 unfold eW mC;rw [if_pos (by decide),if_pos (by simp only [WX];omega)];rfl
theorem yJ{α:Type}{a:α}{l:List α}:(a :: l)[0]?=some a:=List.getElem?_cons_zero
theorem yK{α:Type}{a:α}{l:List α}{i:Nat}:(a :: l)[i+1]?=l[i]?:=List.getElem?_cons_succ
theorem yL{α:Type}{a b:α}{l:List α}:(a :: l).set 0 b=b :: l:=List.set_cons_zero
theorem yM{α:Type}{a b:α}{l:List α}{i:Nat}:(a :: l).set (i+1) b=a :: l.set i b:=List.set_cons_succ
theorem yN{α:Type}(a b:α):(some a=some b)=(a=b):=Option.some.injEq a b
theorem CZ{α:Type}{p:α->Prop}{a':α}:(∃a,a'=a/\p a)↔p a':=exists_eq_left'
theorem Jn{α:Type}{p:α->Prop}{a':α}:(∃a,a=a'/\p a)↔p a':=exists_eq_left
theorem C0{α:Type}{p:α->Prop}{b:Prop}:(∃x,b/\p x)↔b/\∃x,p x:=exists_and_left
theorem C1(a b:Int):(D.int a=D.int b)=(a=b):=D.int.injEq a b
theorem Jo(a b:Bool):(D.bl a=D.bl b)=(a=b):=D.bl.injEq a b
theorem C2(a b:Str):(D.str a=D.str b)=(a=b):=D.str.injEq a b
theorem C3(a b:List D):(D.tup a=D.tup b)=(a=b):=D.tup.injEq a b
theorem C4(a b:Nat):(D.ref a=D.ref b)=(a=b):=D.ref.injEq a b
theorem yO{α:Type}(a:α)(l:List α)(b:α)(m:List α):(a :: l=b :: m)=(a=b/\l=m):=List.cons.injEq a l b m
theorem yP{α β:Type}(a:α)(b:β)(c:α)(d:β):((a,b)=(c,d))=(a=c/\b=d):=Prod.mk.injEq a b c d
theorem yQ(p:Prop):(p/\True)=p:=and_true p
theorem yR(p:Prop):(True/\p)=p:=true_and p
theorem yS:(!true)=false:=rfl
theorem yT:(!false)=true:=rfl
theorem Jp:(false=true)=False:=by simp
theorem C5{α:Type}{h:Decidable False}(t e:α):@ite α False h t e=e:=if_false t e
theorem C6{α:Type}{h:Decidable True}(t e:α):@ite α True h t e=t:=if_true t e
noncomputable def bD:=And.intro @yi (And.intro @Jg (And.intro @CK (And.intro @CL (And.intro @CM (And.intro @yj (And.intro @RE (And.intro @yk (And.intro @yl (And.intro @RF (And.intro @ym (And.intro @yn (And.intro @CN (And.intro @vU (And.intro @FE (And.intro @yo (And.intro @RG (And.intro @RH (And.intro @RI (And.intro @CO (And.intro @CP (And.intro @yp (And.intro @yq (And.intro @CQ (And.intro @CT (And.intro @CU (And.intro @CV (And.intro @yr (And.intro @yt (And.intro @RJ (And.intro @yu (And.intro @yw (And.intro @yx (And.intro @yy (And.intro @yz (And.intro @yA (And.intro @yB (And.intro @yC (And.intro @RK (And.intro @yD (And.intro @yE (And.intro @RL (And.intro @RM (And.intro @RN (And.intro @RO (And.intro @RP (And.intro @RQ (And.intro @RS (And.intro @RT (And.intro @RU (And.intro @RY (And.intro @RZ (And.intro @yF (And.intro @R3 (And.intro @R4 (And.intro @R5 (And.intro @rA (And.intro @R7 (And.intro @R8 (And.intro @R9 (And.intro @Sb (And.intro @Sd (And.intro @Se (And.intro @Sf (And.intro @Ji (And.intro @Sg (And.intro @Si (And.intro @yG (And.intro @Sj (And.intro @Sk (And.intro @MT (And.intro @yH (And.intro @yI (And.intro @Sl (And.intro @Sn (And.intro @Sq (And.intro @Sr (And.intro @Ss (And.intro @MV (And.intro @Sv (And.intro @Sw (And.intro @Sx (And.intro @FH (And.intro @Sy (And.intro @MW (And.intro @MX (And.intro @MY (And.intro @yJ (And.intro @yK (And.intro @yL (And.intro @yM (And.intro @yN (And.intro @CZ (And.intro @Jn (And.intro @C0 (And.intro @C1 (And.intro @Jo (And.intro @C2 (And.intro @C3 (And.intro @C4 (And.intro @yO (And.intro @yP (And.intro @yQ (And.intro @yR (And.intro @yS (And.intro @yT (And.intro @Jp (And.intro @C5 (@C6))))))))))))))))))))))))))))))))))))))))))))))))))))))))))))))))))))))))))))))))))))))))))))))))))))))))))))
theorem ck{α:Type}{m:Option (α×Store)}{Q:α->Store->Prop}(h:∀Q':α->Store->Prop,(∀a st,Q a st->Q' a st)->Wp m Q'):Wp m Q:=h Q fun _ _ h=>h
section
variable {X:Cx}{K:Zfr}
theorem MZ:∀{ns:List Int},(∀i∈ns,Ii i)->PyData.weightAll (du ns)<=65*ns.length
 |[],_=>by show PyData.weightAll []<=0;simp only [PyData.weightAll];exact Wv _
 |n :: r,h=>by
  have ih:=MZ (ns:=r) fun i hi=>h i (WE _ hi);have hn:=h n Wy;have hw:(PyData.int n).weight<=64:=by
   simp only [PyData.weight];split
   ·omega
   ·have:n.natAbs<2 ^ 63:=by unfold Ii at hn;omega
    have h2:n.natAbs.log2<63:=by
     by_cases h0:n.natAbs=0
     ·rw [h0];decide
     ·exact (Nat.log2_lt h0).mpr this
    omega
  show PyData.weightAll (PyData.int n :: du r)<=65*(r.length+1);simp only [PyData.weightAll];omega
noncomputable def oA(K:Zfr):V->List V->Hp->VK->Prop:=fun x vs H Q=>∃(a:Addr) (ns:List Int) (v:Int),x=.ref a/\vs=[.int v]/\kj K H a (ns.map V.int)/\v∈ns/\ns.length<=1000/\(∀i∈ns,Ii i)/\Q (.int (ns.idxOf v:Int)) H
theorem Jq:vf X "list.index" (oA X.K):=by
 intro pins s σ H x xs v us Q I rx rv h;obtain ⟨a,ns,y,rfl,rfl,hq,hm,hl,hb,q⟩:=h;cases rx;obtain ⟨u,rfl,t,rfl⟩:=vals1 rv;obtain ⟨its,r,pl,hz⟩:=I.list hq
 exact PyProof.Rows.index_list_ints (vs:=its) pl.isList (Hy r) (by
  have hw:=MZ hb;have c1:(PyData.list (List.map PyData.int ns)).canLay0=true:=xv ns;have c2:(PyData.list (List.map PyData.int ns)).depth<=64:=by show PyData.depthAll (du ns)+1<=64;rw [Aa];omega
  have c3:(PyData.list (List.map PyData.int ns)).weight<=2 ^ 20:=by simp only [PyData.weight];exact WZ hw (by omega)
  show (_ && _ && _)=true
  rw [c1,decide_eq_true c2,decide_eq_true c3];rfl) hm ⟨.int _,H,I.tok _,⟨_,rfl⟩,q⟩
theorem Sz(hK:X.K=K):vf X "list.index" (oA K):=by subst hK;exact Jq
theorem Jr:tO K "list" (oA K) g8:=by
 intro ρ H st x xs a as b st' Q l rx o8 e q;unfold g8 at e;split at e
 ·split at e
  ·next ns hn =>
   split at e
   ·next hm =>
    cases e;obtain ⟨v,rfl,r⟩:=o8.one';cases r;cases rx with
    |ref hi =>
     obtain ⟨ds,h1,h2⟩:=Xi.mp hn;obtain ⟨vs,s,r⟩:=l.items hi h1;cases FA r h2;exact ⟨_,ns,_,rfl,rfl,s,hm.1,hm.2.1,hm.2.2,q _ H ρ .refl l (.int _)⟩
   ·cases e
  ·cases e
 ·cases e
end
section
variable {st:Store}{Q:D->Store->Prop}
theorem M0(n:Nat)(L:List Int):cH (gp st (n+1)) (L.map D.int)=some (du L):=vR (f:=gp st (n+1)) (g:=D.int) (k:=PyData.int) (fun _=>by simp only [gp]) L
theorem Js(a b:List PyData):PyData.eqv (.list a) (.list b)=PyData.eqvAll a b:=by simp only [PyData.eqv]
theorem FI(a b:List PyData):PyData.eqv (.tuple a) (.tuple b)=PyData.eqvAll a b:=by simp only [PyData.eqv]
theorem M1{neg:Bool}{a b:Nat}{L M:List Int}(ha:items st a=some (L.map D.int))(hb:items st b=some (M.map D.int)):Wp (gD neg (.ref a) (.ref b) st) Q↔Q (.bl (if neg then !decide (L=M) else decide (L=M))) st:=by
 have p1:∀(i:Nat) (N:List Int),items st i=some (N.map D.int)->gp st 20 (.ref i)=some (.list (du N)):=fun i N h=>by
  simp only [gp,h];rw [M0];rfl
 have dp:∀N:List Int,PyData.depth (.list (du N))<=1:=fun N=>by show PyData.depthAll (du N)+1<=1;rw [Aa];omega
 rw [Jm];constructor
 ·rintro ⟨p,q,h1,h2,_,h⟩
  rw [p1 a L ha] at h1;rw [p1 b M hb] at h2;cases h1;cases h2;rw [Js,BQ] at h;exact h
 ·intro h
  refine ⟨_,_,p1 a L ha,p1 b M hb,⟨xv L,xv M,by have:=dp L;omega⟩,?_⟩;rw [Js,BQ];exact h
noncomputable def C7(rs:List (List Int)):D:=.tup (rs.map fun r=>.tup (r.map D.int))
theorem Jt(rs:List (List Int)):gp st 20 (C7 rs)=some (.tuple (rs.map kT)):=by
 unfold C7;simp only [gp];rw [vR (f:=gp st 19) (g:=fun r:List Int=>D.tup (r.map D.int)) (k:=kT) (fun r=>by simp only [gp];rw [M0];rfl) rs];rfl
theorem Ju:∀(rs ss:List (List Int)),PyData.eqvAll (rs.map kT) (ss.map kT)=decide (rs=ss)
 |[],[]=>rfl
 |[],_ :: _=>rfl
 |_ :: _,[]=>rfl
 |r :: rs,s :: ss=>by
  show (PyData.eqv (kT r) (kT s) && PyData.eqvAll (rs.map kT) (ss.map kT))=decide (r :: rs=s :: ss);rw [Ju rs ss];unfold kT;rw [FI,BQ]
  by_cases h:r=s
  ·subst h;simp
  ·simp [h]
theorem SA{neg:Bool}{rs ss:List (List Int)}:Wp (gD neg (C7 rs) (C7 ss) st) Q↔Q (.bl (if neg then !decide (rs=ss) else decide (rs=ss))) st:=by
 have dp:∀rs:List (List Int),PyData.depth (.tuple (rs.map kT))<=2:=fun N=>by show PyData.depthAll (N.map kT)+1<=2;have:=LJ N;omega
 rw [Jm];constructor
 ·rintro ⟨p,q,h1,h2,_,h⟩
  rw [Jt] at h1 h2;cases h1;cases h2;rw [FI,Ju] at h;exact h
 ·intro h
  refine ⟨_,_,Jt rs,Jt ss,⟨Ih rs,Ih ss,by have:=dp rs;omega⟩,?_⟩;rw [FI,Ju];exact h
end
noncomputable def a5(st:Store)(f:Nat):Prop:=∃o m:Int,st[f]?=some (.lst [.int o,.int m])/\0<=o/\0<=m/\m<4294967296
theorem C8:mC 2 0=some 0:=by decide
theorem C9:mC 2 1=some 1:=by decide
theorem pS(n:Nat):aA 0 n=(ag.upto n).map D.int:=by
 unfold aA ag.upto;rw [WQ];apply W4;intro i _;simp
theorem SD(L:List Int)(j:Nat):(L.map D.int).eraseIdx j=(L.eraseIdx j).map D.int:=by
 induction L generalizing j with
 |nil=>rfl
 |cons a r ih =>
  cases j with
  |zero=>rfl
  |succ j=>show D.int a :: (r.map D.int).eraseIdx j=_;rw [ih];rfl
theorem SE{L:List Int}{j:Nat}(h:j<L.length):(L[j] :: L.eraseIdx j).Perm L:=by
 induction L generalizing j with
 |nil=>exact absurd h (Xe _)
 |cons a r ih =>
  cases j with
  |zero=>exact X9 _
  |succ j =>
   have:=ih (j:=j) (by simpa using h);exact (List.Perm.swap _ _ _).trans (this.cons a)
theorem a5.keep{st st':Store}{f:Nat}(h:a5 st f)(e:Ex [] st st'):a5 st' f:=by
 obtain ⟨o,m,e1,r⟩:=h;exact ⟨o,m,e.keep _ _ e1 (by simp),r⟩
theorem a5.ne{st:Store}{f i:Nat}{o:O}(h:a5 st f)(hi:i≠f):a5 (st.set i o) f:=by
 obtain ⟨x,m,e1,r⟩:=h;exact ⟨x,m,by rw [Wz hi];exact e1,r⟩
theorem a5.lt{st:Store}{f:Nat}(h:a5 st f):f<st.length:=let ⟨_,_,e,_⟩:=h;dz e
theorem pT{xs:List Int}{i:Int}(h0:0<=i)(h1:i<(xs.length:Int)):eW (xs.map D.int) i=some (.int (ag.app xs i)):=by
 have e:(xs.map D.int)[i.toNat]?=some (.int (ag.app xs i)):=by rw [Wx,ag.o5 h0 h1];rfl
 have:=zX e
 rwa [WV h0] at this
theorem Dc{xs:List Int}{i:Nat}{d:D}(h:(xs.map D.int)[i]?=some d):∃x,xs[i]?=some x/\d=.int x:=by
 rw [Wx] at h;obtain ⟨x,h1,h2⟩:=W2.mp h;exact ⟨x,h1,h2.symm⟩
theorem Jv(x:Int):∀(ns:List Int),vk (.int x) (ns.map V.int)=ns.contains x
 |[]=>rfl
 |n :: r=>by
  have e:=Jv x r;unfold vk at e ⊢;rw [WM,Xo,e,List.contains_cons]
  congr 1
  show (n == x)=(x == n);exact Bool.beq_comm
theorem FJ{st:Store}{Q:D->Store->Prop}{neg:Bool}{x:Int}{c:D}{ns:List Int}(hc:dv st c=some (ns.map D.int)):Wp (rn neg (.int x) c st) Q↔Q (.bl (if neg then !ns.contains x else ns.contains x)) st:=by
 rw [CY];constructor
 ·rintro ⟨v,ds,vs,h1,h2,h3,h⟩
  cases h1;rw [hc] at h2;cases h2;rw [MU] at h3;cases h3;rw [Jv] at h;exact h
 ·intro h
  refine ⟨_,_,_,rfl,hc,MU ns,?_⟩;rw [Jv];exact h
noncomputable def cv(xs ys:List Int):D:=.tup [.tup (xs.map D.int),.tup (ys.map D.int)]
structure oB(lL st:Store)(f r u:Nat)(n:Nat)(X Y:List Int):Prop where
 hr:st[r]?=some (.lst (X.map D.int))
 hu:st[u]?=some (.lst (Y.map D.int))
 ne:r≠u
 r0:lL.length<=r
 u0:lL.length<=u
 tX:ag.Tn n X
 tY:ag.Tn n Y
 fd:a5 st f
 ex:Ex [f] lL st
section
variable {lL st st':Store}{f r u n:Nat}{X Y Z:List Int}{o:O}
theorem oB.keep(h:oB lL st f r u n X Y)(e:Ex [] st st'):oB lL st' f r u n X Y:=⟨e.keep _ _ h.hr (by simp),e.keep _ _ h.hu (by simp),h.ne,h.r0,h.u0,h.tX,h.tY,h.fd.keep e,h.ex.trans e.any⟩
theorem oB.yU(h:oB lL st f r u n X Y)(t:ag.Tn n Z):oB lL (st ++ [.lst (Z.map D.int)]) f st.length u n Z Y:=⟨gG,iI h.hu,by have:=dz h.hu;omega,h.ex.len,h.u0,t,h.tY,h.fd.keep (Ex.cI _),h.ex.app _⟩
theorem oB.yV(h:oB lL st f r u n X Y)(t:ag.Tn n Z):oB lL (st ++ [.lst (Z.map D.int)]) f r st.length n X Z:=⟨iI h.hr,gG,by have:=dz h.hr;omega,h.r0,h.ex.len,h.tX,t,h.fd.keep (Ex.cI _),h.ex.app _⟩
theorem oB.put(h:oB lL st f r u n X Y)(t:ag.Tn n Z)(hf:f<lL.length):oB lL (st.set r (.lst (Z.map D.int))) f r u n Z Y:=⟨Wu (dz h.hr),by rw [Wz h.ne];exact h.hu,h.ne,h.r0,h.u0,t,h.tY,h.fd.ne (by have:=h.r0;omega),h.ex.loc h.r0⟩
end
theorem M3(n:Nat):(ag.ql n).map D.int=aA 1 ((n:Int)-1).toNat ++ [.int 0]:=by
 unfold ag.ql aA;rw [WL,WQ,show ((n:Int)-1).toNat=n-1 by omega];rfl
theorem uH{lo hi:Int}(h:0<=lo/\lo<=10000/\0<=hi/\hi<=10000):lK lo hi=true:=by
 unfold lK;rw [WU,decide_eq_true_eq];exact ⟨by omega,gZ (by omega)⟩
theorem yW(w n:Nat):(ag.su w n).map D.int=aA 1 ((w:Int)-1).toNat ++ [.int 0] ++ aA (w:Int) ((n:Int)-(w:Int)).toNat:=by
 unfold ag.su aA;rw [WL,WL,WQ,WQ,show ((w:Int)-1).toNat=w-1 by omega,show ((n:Int)-(w:Int)).toNat=n-w by omega];rfl
theorem Jw(xs:List D)(j:Nat):cutD xs none (some (j:Int))=xs.take j:=by
 unfold cutD;rw [HT.Pd,HT.Pe,List.drop_zero,Nat.sub_zero,List.take_eq_take_iff];omega
theorem yX{w n:Nat}(h0:0<w)(h:w<n):(ag.ux w n).map D.int=cutD ([D.int (w:Int)] ++ aA 1 ((w:Int)-1).toNat ++ aA ((w:Int)+1) ((n:Int)-((w:Int)+1)).toNat ++ [.int 0]) none (some (n:Int)):=by
 rw [Jw,X1 (by simp [fH];omega)];unfold ag.ux aA;rw [WL,WL,WL,WQ,WQ,show ((w:Int)-1).toNat=w-1 by omega,show ((n:Int)-((w:Int)+1)).toNat=n-(w+1) by omega];rfl
noncomputable def nI(n:Nat)(xs ys:List Int):Prop:=ag.Tn n xs/\ag.Tn n ys/\∀x:Int,0<=x->x<(n:Int)->ag.jO xs ys x
theorem M4{xs:List Int}{v:Int}(h:v∈xs):xs.findIdx? (fun i=>decide (i=v))=some (xs.idxOf v):=by
 induction xs with
 |nil=>exact nomatch h
 |cons a r ih =>
  rw [List.findIdx?_cons]
  by_cases e:a=v
  ·subst e;simp
  ·have hm:v∈r:=by
    rcases WT.mp h with h|h
    ·exact absurd h.symm e
    ·exact h
   rw [decide_eq_false e,ih hm,List.idxOf_cons,show (a == v)=false by simpa using e];rfl
theorem SF{xs:List D}{lo hi:Option Int}{d:D}(h:d∈cutD xs lo hi):d∈xs:=List.mem_of_mem_drop (List.mem_of_mem_take h)
theorem SG(xs:List D)(lo hi:Option Int):(cutD xs lo hi).length<=xs.length:=by
 unfold cutD;rw [Xj,XU];omega
noncomputable def sN(S:Src)(ds:List D)(st:Store):Prop:=∀(i:Nat) (st2:Store),i<=ds.length->Ex [] st st2->S.at i st2=some ds[i]?
theorem SH{st st':Store}{r:Nat}{ds:List D}(h:items st r=some ds)(e:Ex [] st st'):items st' r=some ds:=by
 unfold items at h ⊢;cases hx:st[r]? with
 |none=>rw [hx] at h;cases h
 |some o=>rw [e.keep _ _ hx (by simp)];rw [hx] at h;exact h
theorem qW(ds:List D)(st:Store):sN (.fix ds) ds st:=fun i st2 hi _=>by
 show (if i<=ds.length then some ds[i]? else none)=_;rw [if_pos hi]
theorem SI{ds:List D}{st:Store}{r:Nat}(h:items st r=some ds):sN (.live r) ds st:=fun i st2 hi e=>by
 show (items st2 r).map _=_;rw [SH h e];rfl
theorem qC{δ:av}{st:Store}{fi:av->Dm Src}{js:List Nat}{f:av->Dm D}{Q:D->Store->Prop}(ds:List D)(h:D->D)(hi:Wp (fi δ st) fun S st1=>sN S ds st1/\Ex [] st st1)(hl:ds.length<100000)
  (step:∀d∈ds,∀st1,Ex [] st st1->Wp (f (some d :: js.map fun j=>δ.getD j none) st1) fun y st2=>y=h d/\Ex [] st1 st2) (fin:∀st',Ex [] st st'->Q (.ref st'.length) (st' ++ [.lst (ds.map h)])):Wp (dw fi 1 js (hName 0) eC f δ st) Q:=by
 obtain ⟨S,st1,e1,hS,k1⟩:=hi;refine MR ds (fun i ys δ' oC=>(∃v,δ'=v :: js.map fun j=>δ.getD j none)/\ys=(ds.take i).map h/\Ex [] st1 oC) ⟨S,st1,e1,fun i ys δ' oC hi' hp=>hS i oC hi' hp.2.2,⟨none,rfl⟩,rfl,Ex.refl⟩ hl ?_ ?_ ?_
 ·rintro i ys δ' oC ⟨_,rfl,_⟩
  rw [Wo,Xj];omega
 ·rintro i d ys δ' oC hd ⟨⟨v,rfl⟩,rfl,k8⟩
  rw [MV];show Wp (eC _ _) _;rw [MW];refine ⟨fun _=>?_,fun h=>absurd h (by decide)⟩;refine bj (step d (Ww hd) oC (k1.trans k8)) ?_;rintro y pR ⟨rfl,k9⟩;refine ⟨⟨some d,rfl⟩,?_,k8.trans k9⟩;obtain ⟨hlt,e⟩:=Wq.mp hd;rw [W8 hlt,WL,e];rfl
 ·rintro ys δ' oC ⟨_,rfl,k8⟩
  rw [XE];exact fin oC (k1.trans k8)
theorem vX{xs:List Int}{d:D}(h:d∈xs.map D.int):∃x∈xs,d=.int x:=by
 obtain ⟨x,hx,rfl⟩:=WB.mp h;exact ⟨x,hx,rfl⟩
theorem Au{xs:List Int}{f:Int->Int}{h:D->D}(e:∀x∈xs,h (.int x)=.int (f x)):(xs.map D.int).map h=(xs.map f).map D.int:=by
 rw [WQ,WQ];exact W4 fun x hx=>e x hx
noncomputable def inD:D->Int
 |.int i=>i
 |_=>0
section
variable {st:Store}{Q:D->Store->Prop}
theorem SJ{neg:Bool}{xs ys zs ws:List Int}:Wp (gD neg (cv xs ys) (cv zs ws) st) Q↔Q (.bl (if neg then !decide ([xs,ys]=[zs,ws]) else decide ([xs,ys]=[zs,ws]))) st:=SA (rs:=[xs,ys]) (ss:=[zs,ws])
end
theorem M5(zs:List Int):(zs.map D.int).map inD=zs:=by rw [WQ];exact XQ zs
theorem _root_.ag.qD{n:Nat}{xs ys p:List Int}(fl:nI n xs ys)(tp:ag.Tn n p)(n0:0<n):nI n (ag.anew xs p) (ag.anew ys p):=by
 obtain ⟨tx,ty,all⟩:=fl;have tX:=tx.anew tp;have tY:=ty.anew tp;refine ⟨tX,tY,fun x x0 x1=>?_⟩;obtain ⟨a0,a1⟩:=tp.app (i:=0) (by decide) (by omega);have hb:∀y:Int,0<=y->y<(n:Int)->y∈ag.bf (ag.anew xs p) (ag.anew ys p) (ag.app p 0) n:=fun y y0 y1=>by
  rw [ag.Iz tx ty tp (by decide) (by omega) n];obtain ⟨b0,b1⟩:=tp.mE y0 y1;exact WB.mpr ⟨ag.app (ag.inv p) y,ag.Mc tx ty (by decide) (by omega) all b0 b1,tp.dj y0 y1⟩
 have hF:=ag.Iy tX tY (s:=0) (by decide) (by omega);have nd:=ag.xI (ag.anew xs p) (ag.anew ys p) 0 n;have bd:=ag.qQ tX tY (s:=0) (by decide) (by omega) n;have SK:∀k,∀y∈ag.bf (ag.anew xs p) (ag.anew ys p) 0 k,ag.jO (ag.anew xs p) (ag.anew ys p) y:=by
  intro k
  induction k with
  |zero=>intro y hy;rw [WK.mp (show y∈[(0:Int)] from hy)];exact .zero
  |succ k ih =>
   intro y hy;have hy':y∈(match (ag.bf (ag.anew xs p) (ag.anew ys p) 0 k)[k]? with|some x=>ag.visit (ag.anew xs p) (ag.anew ys p) (ag.bf (ag.anew xs p) (ag.anew ys p) 0 k) x|none=>ag.bf (ag.anew xs p) (ag.anew ys p) 0 k):=hy;split at hy'
   ·next z hz =>
    have vI:=ih z (Ww hz);rcases ag.qo.mp hy' with hy'|rfl
    ·rcases ag.qo.mp hy' with hy'|rfl
     ·exact ih y hy'
     ·exact vI.r
    ·exact vI.u
   ·exact ih y hy'
 refine SK n x ?_;have z0:(0:Int)∈ag.bf (ag.anew xs p) (ag.anew ys p) 0 n:=by
  have:=ag.xH (ag.anew xs p) (ag.anew ys p) 0 0 n;rw [Ya] at this;exact this.subset (show (0:Int)∈[(0:Int)] by simp)
 have back:∀k,(∃y∈ag.bf (ag.anew xs p) (ag.anew ys p) (ag.app p 0) k,y∈ag.bf (ag.anew xs p) (ag.anew ys p) 0 n)->ag.app p 0∈ag.bf (ag.anew xs p) (ag.anew ys p) 0 n:=by
  intro k
  induction k with
  |zero =>
   rintro ⟨y,hy,ur⟩;rw [WK.mp (show y∈[ag.app p 0] from hy)] at ur;exact ur
  |succ k ih =>
   rintro ⟨y,hy,ur⟩;have hy':y∈(match (ag.bf (ag.anew xs p) (ag.anew ys p) (ag.app p 0) k)[k]? with|some x=>ag.visit (ag.anew xs p) (ag.anew ys p) (ag.bf (ag.anew xs p) (ag.anew ys p) (ag.app p 0) k) x|none=>ag.bf (ag.anew xs p) (ag.anew ys p) (ag.app p 0) k):=hy;split at hy'
   ·next z hz =>
    have Ag:=Ww hz;obtain ⟨c0,c1⟩:=ag.qQ tX tY a0 a1 k z Ag;rcases ag.qo.mp hy' with hy'|rfl
    ·rcases ag.qo.mp hy' with hy'|rfl
     ·exact ih ⟨y,hy',ur⟩
     ·exact ih ⟨z,Ag,ag.Cc tX nd bd (fun x hx=>(hF x hx).1) c0 c1 ur⟩
    ·exact ih ⟨z,Ag,ag.Cc tY nd bd (fun x hx=>(hF x hx).2) c0 c1 ur⟩
   ·exact ih ⟨y,hy',ur⟩
 have hp0:=back n ⟨0,hb 0 (by decide) (by omega),z0⟩;have fwd:∀k,∀y∈ag.bf (ag.anew xs p) (ag.anew ys p) (ag.app p 0) k,y∈ag.bf (ag.anew xs p) (ag.anew ys p) 0 n:=by
  intro k
  induction k with
  |zero=>intro y hy;rw [WK.mp (show y∈[ag.app p 0] from hy)];exact hp0
  |succ k ih =>
   intro y hy;have hy':y∈(match (ag.bf (ag.anew xs p) (ag.anew ys p) (ag.app p 0) k)[k]? with|some x=>ag.visit (ag.anew xs p) (ag.anew ys p) (ag.bf (ag.anew xs p) (ag.anew ys p) (ag.app p 0) k) x|none=>ag.bf (ag.anew xs p) (ag.anew ys p) (ag.app p 0) k):=hy;split at hy'
   ·next z hz =>
    have vI:=ih z (Ww hz);rcases ag.qo.mp hy' with hy'|rfl
    ·rcases ag.qo.mp hy' with hy'|rfl
     ·exact ih y hy'
     ·exact (hF z vI).1
    ·exact (hF z vI).2
   ·exact ih y hy'
 exact fwd n x (hb x x0 x1)
theorem yZ(p:Key×D)(r:List (Key×D))(k:Key):eQ (p :: r) k=if p.1=k then some p.2 else eQ r k:=by
 unfold eQ;rw [Xq]
 by_cases e:p.1=k
 ·rw [decide_eq_true e,if_pos e];rfl
 ·rw [decide_eq_false e,if_neg e]
theorem SM(kvs:List (Key×D))(k j:Key)(y:D):eQ (putD kvs k y) j=if j=k then some y else eQ kvs j:=by
 unfold putD
 by_cases a:(kvs.any fun kv=>decide (kv.1=k))=true
 ·rw [if_pos a]
  induction kvs with
  |nil=>simp at a
  |cons p r ih =>
   rw [WM,yZ,yZ]
   by_cases e:p.1=k
   ·rw [if_pos e]
    by_cases ej:j=k
    ·rw [if_pos ej,if_pos (show (p.1,y).1=j from e.trans ej.symm)]
    ·rw [if_neg ej,if_neg (show ¬(p.1,y).1=j from fun z=>ej (z.symm.trans e)),if_neg (fun z=>ej (z.symm.trans e))]
     have:∀l:List (Key×D),eQ (l.map fun kv=>if kv.1=k then (kv.1,y) else kv) j=eQ l j:=by
      intro l
      induction l with
      |nil=>rfl
      |cons q l ihl =>
       rw [WM,yZ,yZ,ihl]
       by_cases eq:q.1=k
       ·rw [if_pos eq,if_neg (show ¬(q.1,y).1=j from fun z=>ej (z.symm.trans eq)),if_neg (fun z=>ej (z.symm.trans eq))]
       ·rw [if_neg eq]
     exact this r
   ·rw [if_neg e]
    have a':(r.any fun kv=>decide (kv.1=k))=true:=by
     rw [Xo,decide_eq_false e,Bool.false_or] at a;exact a
    rw [ih a']
    by_cases ej:j=k
    ·rw [if_pos ej,if_neg (fun z=>e (z.trans ej)),if_pos ej]
    ·rw [if_neg ej,if_neg ej]
 ·rw [if_neg a]
  induction kvs with
  |nil =>
   show eQ [(k,y)] j=_;rw [yZ]
   by_cases ej:j=k
   ·rw [if_pos ej.symm,if_pos ej]
   ·rw [if_neg (fun z=>ej z.symm),if_neg ej]
  |cons p r ih =>
   have a':¬(r.any fun kv=>decide (kv.1=k))=true:=fun z=>a (by rw [Xo,z,Bool.or_true]);have ep:p.1≠k:=fun z=>a (by rw [Xo,decide_eq_true z,Bool.true_or]);rw [List.cons_append,yZ,ih a',yZ]
   by_cases ej:j=k
   ·rw [if_pos ej,if_pos ej,if_neg (fun z=>ep (z.trans ej))]
   ·rw [if_neg ej,if_neg ej]
theorem SN(kvs:List (Key×D))(k:Key)(v:D):(putD kvs k v).length<=kvs.length+1:=by
 unfold putD;split
 ·rw [Wo];omega
 ·rw [Wt,WX,List.length_nil];omega
theorem M6{st:Store}{i:Nat}{kvs:List (Key×D)}(h:st[i]?=some (.dct kvs)):jX st (.ref i)=some kvs:=by simp only [jX,h]
theorem M7(i:Int):keyOf (.int i)=some (.inl i):=rfl
theorem SO{r:List Int}{j:Nat}(h:j<r.length)(x:Int):(r.take (j+1)).contains x=((r.take j).contains x || x == r[j]):=by
 rw [W8 h,List.contains_append]
 congr 1
 show ([r[j]]:List Int).contains x=(x == r[j]);rw [List.contains_cons,List.contains_nil,Bool.or_false]
abbrev fV:=Bool×Int
noncomputable def bN(s:fV):D:=.tup [.str (if s.1 then "s" else "t"),.int s.2]
section
variable {K:Zfr}
noncomputable def uI(neg:Bool):D->D->Dm D
 |.bl a,.bl b,st=>some (.bl (if neg then !decide (a=b) else decide (a=b)),st)
 |_,_,_=>none
noncomputable def Dd(neg:Bool):R2:=fun x y H Q=>∃a b,x=.bl a/\y=.bl b/\Q (.bl (if neg then !decide (a=b) else decide (a=b))) H
theorem y2(neg:Bool):mF K (Dd neg) (uI neg):=by
 intro ρ H st x y a c b st' Q l rx ry e q;unfold uI at e;split at e
 ·cases e
  cases rx;cases ry;exact ⟨_,_,rfl,rfl,q _ H ρ .refl l (.bl _)⟩
 ·cases e
noncomputable def sO(neg:Bool):D->D->Dm D
 |a,.non,st=>some (.bl (match a with|.non=>!neg|_=>neg),st)
 |_,_,_=>none
noncomputable def vY(neg:Bool):R2:=fun x y H Q=>y=.non/\Q (.bl (if neg then !decide (x=.non) else decide (x=.non))) H
theorem y4(neg:Bool):mF K (vY neg) (sO neg):=by
 intro ρ H st x y a c b st' Q l rx ry e q;unfold sO at e;split at e
 ·cases e
  cases ry;refine ⟨rfl,?_⟩;have k:=q _ H ρ .refl l (.bl _);cases rx<;>cases neg<;>exact k
 ·cases e
end
section
variable {X:Cx}
theorem y6:kR X (compareOp .Is) (Dd false):=by
 intro pins s σ H x y v u Q I rx ry h;obtain ⟨a,b,rfl,rfl,q⟩:=h;cases rx;cases ry;exact PyProof.Rows.is_bool (kO I q (by cases a<;>cases b<;>rfl))
theorem SQ:kR X (compareOp .Is) (vY false):=xc
end
section
variable {st:Store}{Q:D->Store->Prop}
theorem y8{neg a b:Bool}:Wp (uI neg (.bl a) (.bl b) st) Q↔Q (.bl (if neg then !decide (a=b) else decide (a=b))) st:=bT
theorem SR{neg:Bool}:Wp (sO neg .non .non st) Q↔Q (.bl (!neg)) st:=bT
theorem SS{neg:Bool}{i:List D}:Wp (sO neg (.tup i) .non st) Q↔Q (.bl neg) st:=bT
theorem M8{neg a b:Bool}:Wp (iS neg (.bl a) (.bl b) st) Q↔Q (.bl (if neg then !decide (a=b) else decide (a=b))) st:=by
 have e:decide (V.bl a=V.bl b)=decide (a=b):=by
  by_cases h:a=b
  ·subst h;simp
  ·simp [h]
 show Wp (if n9 (V.bl a) (V.bl b)=true then some (D.bl (if neg then !decide (V.bl a=V.bl b) else decide (V.bl a=V.bl b)),st) else none) Q↔_;rw [if_pos (show n9 _ _=true from rfl),bT,e]
end
noncomputable def tR(x:Str):List D:=x.cps.toList.map fun c=>.str ⟨#[c]⟩
noncomputable def M9:D->Option (List D)
 |.tup ds=>some ds
 |.str x=>some (tR x)
 |_=>none
noncomputable def De:List D->List D->List D
 |a :: r,b :: t=>.tup [a,b] :: De r t
 |_,_=>[]
noncomputable def Na(fa:av->Dm (List D)):av->Dm Src:=fun δ st=>bnd (fa δ st) fun as st1=>match as with
 |[a,b]=>match M9 a,M9 b with
  |some ds,some es=>some (.fix (De ds es),st1)
  |_,_=>none
 |_=>none
noncomputable def uJ:List String:=["NoneType","bool","int","str","tuple","list","dict"]
noncomputable def uK:List String:=["bool","int","str","tuple","list","dict"]
noncomputable def y9(T c:String):Option Bool:=if uJ.contains T && uK.contains c then some (T == c || (T == "bool" && c == "int")) else none
noncomputable def kZ(T:String):List String->Option Bool
 |[]=>some false
 |c :: r=>match y9 T c with
  |some true=>some true
  |some false=>kZ T r
  |none=>none
noncomputable def Nb:D->Option String
 |.ty n=>some n
 |_=>none
noncomputable def Df:D->Option (List String)
 |.ty n=>some [n]
 |.tup ds=>cH Nb ds
 |_=>none
noncomputable def pV:List D->Dm D
 |[a,c],st=>match qV st a,Df c with
  |some T,some cs=>match kZ T cs with
   |some b=>some (.bl b,st)
   |none=>none
  |_,_=>none
 |_,_=>none
theorem Nc{st:Store}{Q:D->Store->Prop}{a c:D}{T:String}{cs:List String}{b:Bool}(h:qV st a=some T)(hc:Df c=some cs)(hb:kZ T cs=some b):Wp (pV [a,c] st) Q↔Q (.bl b) st:=by
 have e:pV [a,c] st=some (.bl b,st):=by simp only [pV,h,hc,hb]
 rw [e,bT]
section
variable {X:Cx}{K:Zfr}
theorem FK(K:Zfr){T c:String}{b:Bool}(h:y9 T c=some b):PySem.W.kitOne K (.type T) (.type c)=some b:=by
 have hh:uJ.contains T=true/\uK.contains c=true:=by
  unfold y9 at h;split at h
  ·next g=>simpa using g
  ·cases h
 have h1:T∈uJ:=Xh.mp hh.1;have h2:c∈uK:=Xh.mp hh.2;unfold uJ at h1;unfold uK at h2;simp only [WT,Ye,or_false] at h1 h2;rcases h1 with rfl|rfl|rfl|rfl|rfl|rfl|rfl<;>rcases h2 with rfl|rfl|rfl|rfl|rfl|rfl<;>(cases h;rfl)
theorem Nd(K:Zfr){T:String}:∀{cs:List String} {b:Bool},kZ T cs=some b->PySem.W.kitAny K (.type T) (cs.map Value.type)=some b
 |[],b,h=>by cases h;rfl
 |c :: r,b,h=>by
  simp only [kZ] at h;split at h
  ·next e=>cases h;simp only [WM,PySem.W.kitAny,FK K e]
  ·next e=>simp only [WM,PySem.W.kitAny,FK K e];exact Nd K h
  ·cases h
noncomputable def Jx(K:Zfr)(H:Hp)(x:V)(T:String):Prop:=mB K H x (.type T)\/(T="tuple" /\ ∃a ys,x=.ref a/\fS K H a ys)
noncomputable def Dg(K:Zfr):List V->Hp->VK->Prop:=fun xs H Q=>∃x c T cs b,xs=[x,c]/\Jx K H x T/\((∃n,c=.ty n/\cs=[n])\/∃p,c=.ref p/\fS K H p (cs.map V.ty))/\kZ T cs=some b/\Q (.bl b) H
theorem SU{pins:List (Addr×Obj)}{σ:St}{H:Hp}{s:Shared}{x:V}{u:Value}{T:String}(I:Inv X pins σ H s)(rx:RelV x u)(ty:Jx X.K H x T):∃Hh,PySem.W.KitX X.K u (.type T) Hh/\Hh s.heap/\u≠.builtin "__main__.__loader__#opaque" := by
 rcases ty with ty|⟨rfl,a,ys,rfl,hs⟩
 ·generalize ht:Value.type T=t at ty
  cases ty with
  |non=>cases ht;cases (show u=Value.none from rx);exact ⟨_,PySem.W.kitx_none,True.intro,fun z=>nomatch z⟩
  |bl y=>cases ht;cases (show u=Value.bool y from rx);exact ⟨_,PySem.W.kitx_bool,True.intro,fun z=>nomatch z⟩
  |int i=>cases ht;obtain ⟨t,q⟩:=(show ∃t,u=Value.int i t from rx);cases q;exact ⟨_,PySem.W.kitx_int,True.intro,fun z=>nomatch z⟩
  |str y=>cases ht;obtain ⟨t,q⟩:=(show ∃t,u=Value.str y t from rx);cases q;exact ⟨_,PySem.W.kitx_str,True.intro,fun z=>nomatch z⟩
  |zM y=>cases ht;obtain ⟨t,q⟩:=(show ∃t,u=Value.float y t from rx);cases q;exact ⟨_,PySem.W.kitx_float,True.intro,fun z=>nomatch z⟩
  |@lst a xs ea =>
   cases ht;cases (show u=Value.ref a from rx);obtain ⟨_,_,n,_,h1⟩:=(show cG X.prog X.w H s.heap a (.lst xs) from I.hok a _ ea);exact ⟨_,PySem.W.kitx_list,⟨_,h1,rfl⟩,fun z=>nomatch z⟩
  |@mU a ob xs ea =>
   cases ht;cases (show u=Value.ref a from rx);obtain ⟨_,_,_,n,_,h1⟩:=(show cG X.prog X.w H s.heap a (.mU ob (.lst xs)) from I.hok a _ ea);exact ⟨_,PySem.W.kitx_list,⟨_,h1,rfl⟩,fun z=>nomatch z⟩
  |@tup a xs ea =>
   cases ht;cases (show u=Value.ref a from rx);obtain ⟨_,_,_,p⟩:=(show cG X.prog X.w H s.heap a (.tup xs) from I.hok a _ ea);obtain ⟨o,h1,h2,_⟩:=p;exact ⟨_,PySem.W.kitx_tuple,⟨o,h1,h2⟩,fun z=>nomatch z⟩
  |@dK a kvs ea =>
   cases ht;cases (show u=Value.ref a from rx);obtain ⟨_,_,vs,_,p⟩:=(show cG X.prog X.w H s.heap a (.dK kvs) from I.hok a _ ea);obtain ⟨o,es,ep,h1,h2,_⟩:=p;exact ⟨_,PySem.W.kitx_dict,⟨o,h1,h2.1⟩,fun z=>nomatch z⟩
  |@dT a kvs ea =>
   cases ht;cases (show u=Value.ref a from rx);obtain ⟨_,_,xs,_,o,es,ep,h1,h2,_⟩:=(show cG X.prog X.w H s.heap a (.dT kvs) from I.hok a _ ea);exact ⟨_,PySem.W.kitx_dict,⟨o,h1,h2.1⟩,fun z=>nomatch z⟩
  |ins=>cases ht
 ·cases (show u=Value.ref a from rx)
  obtain ⟨its,_,⟨o,h1,h2,_⟩,_⟩:=I.tuple hs;exact ⟨_,PySem.W.kitx_tuple,⟨o,h1,h2⟩,fun z=>nomatch z⟩
theorem Nf:∀{cs:List String} {us:List Value},Vals (cs.map V.ty) us->us=cs.map Value.type
 |[],us,h=>by
  cases us with
  |nil=>rfl
  |cons a b=>cases h
 |x :: xs,us,h=>by
  cases us with
  |nil=>cases h
  |cons u us =>
   cases h with
   |cons r t =>
    rw [Nf t];cases (show u=Value.type x from r);rfl
theorem Ng:gu X (.builtin "isinstance") (Dg X.K):=by
 intro pins s σ H xs us Q I r h;obtain ⟨x,c,T,cs,b,rfl,ty,hc,hb,q⟩:=h;obtain ⟨u,u',rfl,ru,Nh⟩:=vals2 r;obtain ⟨Hh,Z,hh,hx⟩:=SU I ru ty;have fin:∀tk,EP X pins σ Q (.bool b) { s with toks:=tk }:=fun tk=>⟨.bl b,H,I.tok tk,rfl,q⟩;have ka:=Nd X.K hb;rcases hc with ⟨n,rfl,rfl⟩|⟨p,rfl,hp⟩
 ·cases (show u'=Value.type n from Nh)
  refine PySem.W.kia_one Z I.zQ hh ?_ hx fin;simp only [kZ] at hb;split at hb
  ·next e=>cases hb;exact FK _ e
  ·next e=>cases hb;exact FK _ e
  ·cases hb
 ·cases (show u'=Value.ref p from Nh)
  obtain ⟨its,rv,⟨⟨oc,od,SV,osl⟩,e,h2,h3,n,h4⟩,_⟩:=I.n8 hp;cases (show oc=.type "tuple" from h2);cases (show SV=.seq its.toArray n from h4);cases Nf rv;exact PySem.W.kia_tup Z I.zQ hh e ka hx fin
theorem za{ρ:List Addr}{H:Hp}{st:Store}{v:V}{a:D}{T:String}(l:Rl K ρ H st)(r1:Rp K ρ H v a)(hT:qV st a=some T):Jx K H v T:=by
 cases r1<;>simp only [qV] at hT
 ·cases hT;exact .inl .non
 ·cases hT;exact .inl (.bl _)
 ·cases hT;exact .inl (.int _)
 ·cases hT;exact .inl (.str _)
 ·cases hT
 ·next hi =>
  split at hT
  ·next ds hs=>cases hT;obtain ⟨vs,e1,_⟩:=l.obj _ _ _ hi hs;exact .inl (.lst e1)
  ·next ds hs=>cases hT;obtain ⟨vs,e1,_⟩:=l.obj _ _ _ hi hs;exact .inl (.dK e1)
  ·cases hT
 ·next hs hr=>cases hT;exact .inr ⟨rfl,_,_,rfl,hs⟩
theorem Ni{ρ:List Addr}{H:Hp}:∀{ws:List V} {ds:List D} {ns:List String},cY K ρ H ws ds->cH Nb ds=some ns->ws=ns.map V.ty
 |_,_,_,.nil,h=>by cases h;rfl
 |_,_,_,.cons a b,h=>by
  obtain ⟨x,t,h1,h2,rfl⟩:=Am h;rw [Ni b h2];cases a<;>first|(cases h1;rfl)|cases h1
theorem Nj:rj K (Dg K) pV:=by
 intro ρ H st xs as b st' Q l rx e q;unfold pV at e;split at e
 ·next a c =>
  split at e
  ·next T cs h1 h2 =>
   split at e
   ·next bb hb =>
    cases e;obtain ⟨v,w,rfl,r1,r2⟩:=rx.two';refine ⟨v,w,T,cs,bb,rfl,za l r1 h1,?_,hb,q _ H ρ .refl l (.bl _)⟩;cases r2 with
    |non=>cases h2
    |bl _=>cases h2
    |int _=>cases h2
    |str _=>cases h2
    |ref _=>cases h2
    |ty n=>cases h2;exact .inl ⟨n,rfl,rfl⟩
    |tup s r=>exact .inr ⟨_,rfl,Ni r h2 ▸ s⟩
   ·cases e
  ·cases e
 ·cases e
end
structure tu(K:Zfr)(mg:Str->Option Value)(x:Str)(v:V)(d:D):Prop where
 ex:∃u,mg x=some u/\RelV v u
 rp:∀(ρ:List Addr) (H:Hp),Rp K ρ H v d
theorem Nk{X:Cx}{K:Zfr}{mg:Str->Option Value}{x:Str}{v:V}{d:D}{pos:Pos}(C:tu K mg x v d)(hg:Gl X x)(hX:X.mg=mg)(hd:(x == ("__debug__" : Str))=false):PE X (.Name x pos) (tC v):=by
 obtain ⟨u,h,r⟩:=C.ex;subst hX;exact OY hg h r hd
theorem Nl{K:Zfr}{mg:Str->Option Value}{x:Str}{v:V}{d:D}(C:tu K mg x v d):gC K (tC v) (fC d):=qS C.rp
theorem Nm{K:Zfr}{h:Heap}{mg:Str->Option Value}(X:K.In h)(G:h.Ns mainGlobals mg){x:Str}{a:Addr}{od:Option Addr}{its:Array Value}{n:Nat}{sl:Array (Option Value)}{vs:List V}{ds:List D}(e:PySem.W.nsIn K mainGlobals x=some (some (.ref a)))(l:K.lookup a=some ⟨.type "tuple",od,.seq its n,sl⟩)
  (ho:od=none) (hz:its.size<=sizeLine) (hv:Vals vs its.toList) (hd:∀(ρ:List Addr) (H:Hp),cY K ρ H vs ds):∃v,tu K mg x v (.tup ds) :=
 ⟨.ref a,⟨_,PySem.W.mg_of X G e,rfl⟩,fun ρ H=>.tup (.inr ⟨_,its,n,l,rfl,ho,rfl,hz,hv⟩) (hd ρ H)⟩
noncomputable def pU:Nat->D->Prop
 |_,.int _=>True
 |_,.str x=>PyData.canLay0 (.str x)=true
 |_,.non=>True
 |n+1,.tup ds=>∀d∈ds,pU n d
 |_,_=>False
noncomputable def jM:Nat->D->PyData
 |_,.int i=>.int i
 |_,.str x=>.str x
 |n+1,.tup ds=>.tuple (ds.map (jM n))
 |_,_=>.none
theorem Dh{α β:Type}{f:α->Option β}{g:α->β}:∀{l:List α},(∀x∈l,f x=some (g x))->cH f l=some (l.map g)
 |[],_=>rfl
 |a :: r,h=>by
  have h1:=h a Wy;have h2:=Dh (f:=f) (g:=g) (l:=r) fun x hx=>h x (WE _ hx);simp only [cH,h1,h2,WM]
theorem Av:∀(n:Nat) (d:D),pU n d->∀(m:Nat),n<m->∀st,gp st m d=some (jM n d)
 |n,.int i,_,m+1,_,st=>by cases n<;>rfl
 |n,.str x,_,m+1,_,st=>by cases n<;>rfl
 |n,.non,_,m+1,_,st=>by cases n<;>rfl
 |n,.bl b,h,_,_,_=>by cases n<;>exact h.elim
 |n,.ty b,h,_,_,_=>by cases n<;>exact h.elim
 |n,.ref b,h,_,_,_=>by cases n<;>exact h.elim
 |0,.tup ds,h,_,_,_=>h.elim
 |n+1,.tup ds,h,m+1,hm,st=>by
  simp only [gp];rw [Dh (g:=jM n) fun x hx=>Av n x (h x hx) m (by omega) st];rfl
theorem Jy:∀{l:List PyData},(∀x∈l,x.canLay0=true)->PyData.canLayAll0 l=true
 |[],_=>rfl
 |a :: r,h=>by
  simp only [PyData.canLayAll0,h a Wy,Jy fun x hx=>h x (WE _ hx),Bool.and_self]
theorem Jz{n:Nat}:∀{l:List PyData},(∀x∈l,x.depth<=n)->PyData.depthAll l<=n
 |[],_=>W9 _
 |a :: r,h=>by
  have h1:=h a Wy;have h2:=Jz fun x hx=>h x (WE _ hx);simp only [PyData.depthAll];omega
theorem vZ:∀(n:Nat) (d:D),pU n d->(jM n d).canLay0=true/\(jM n d).depth<=n
 |n,.int i,_=>by cases n<;>exact ⟨rfl,W9 _⟩
 |n,.str x,h=>by cases n<;>exact ⟨h,W9 _⟩
 |n,.non,_=>by cases n<;>exact ⟨rfl,W9 _⟩
 |n,.bl b,h=>by cases n<;>exact h.elim
 |n,.ty b,h=>by cases n<;>exact h.elim
 |n,.ref b,h=>by cases n<;>exact h.elim
 |0,.tup ds,h=>h.elim
 |n+1,.tup ds,h=>by
  refine ⟨?_,?_⟩
  ·show PyData.canLayAll0 (ds.map (jM n))=true
   exact Jy fun x hx=>by
    obtain ⟨d,hd,rfl⟩:=WB.mp hx;exact (vZ n d (h d hd)).1
  ·show PyData.depthAll (ds.map (jM n))+1<=n+1
   have:=Jz (n:=n) (l:=ds.map (jM n)) fun x hx=>by
    obtain ⟨d,hd,rfl⟩:=WB.mp hx;exact (vZ n d (h d hd)).2
   omega
theorem JA{n:Nat}(ih:∀a b:D,pU n a->pU n b->(PyData.eqv (jM n a) (jM n b)=true↔a=b)):∀(l m:List D),(∀x∈l,pU n x)->(∀x∈m,pU n x)->(PyData.eqvAll (l.map (jM n)) (m.map (jM n))=true↔l=m)
 |[],[],_,_=>by simp [PyData.eqvAll]
 |[],_ :: _,_,_=>by simp [PyData.eqvAll]
 |_ :: _,[],_,_=>by simp [PyData.eqvAll]
 |a :: l,b :: m,h1,h2=>by
  have e1:=ih a b (h1 a Wy) (h2 b Wy);have e2:=JA ih l m (fun x hx=>h1 x (WE _ hx)) fun x hx=>h2 x (WE _ hx);simp only [WM,PyData.eqvAll,WU,e1,e2,List.cons.injEq]
theorem Di:∀(n:Nat) (a b:D),pU n a->pU n b->(PyData.eqv (jM n a) (jM n b)=true↔a=b):=by
 intro n
 induction n with
 |zero =>
  intro a b ha hb;cases a<;>first|exact ha.elim|skip
  all_goals (cases b<;>first|exact hb.elim|simp [jM,PyData.eqv])
 |succ n ih =>
  intro a b ha hb;cases a<;>first|exact ha.elim|skip
  all_goals (cases b<;>first|exact hb.elim|skip)
  all_goals first
   |(simp [jM,PyData.eqv];done)
   |skip
  next l m =>
   have:=JA ih l m ha hb;show PyData.eqv (.tuple (l.map (jM n))) (.tuple (m.map (jM n)))=true↔_;rw [FI,this];constructor
   ·rintro rfl;rfl
   ·intro h;exact D.tup.inj h
theorem Nn(n:Nat)(L:List Int):pU (n+1) (.tup (L.map D.int)):=fun d hd=>by
 obtain ⟨x,_,rfl⟩:=WB.mp hd;cases n<;>trivial
theorem wc(n:Nat)(s:fV):pU (n+1) (bN s):=fun d hd=>by
 have hd:d=.str (if s.1 then "s" else "t")\/d=.int s.2:=by simpa [bN] using hd
 rcases hd with rfl|rfl
 ·have h:PyData.canLay0 (.str (if s.1=true then "s" else "t" : Str))=true:=by cases s.1<;>decide +kernel
  cases n<;>exact h
 ·cases n<;>trivial
theorem Dj(n:Nat)(xs ys:List Int):pU (n+2) (cv xs ys):=fun d hd=>by
 have hd:d=.tup (xs.map D.int)\/d=.tup (ys.map D.int):=by simpa [cv] using hd
 rcases hd with rfl|rfl
 ·exact Nn n xs
 ·exact Nn n ys
noncomputable def nJ(neg:Bool):D->D->Dm D:=fun a c st=>match gp st 20 a,(dv st c).bind (cH (gp st 19)) with
 |some dx,some ds=>if dx.canLay0 && ds.all PyData.canLay0 && decide (dx.depth<=60) then some (.bl (if neg then !ds.any (fun d=>PyData.eqv d dx) else ds.any fun d=>PyData.eqv d dx),st) else none
 |_,_=>none
section
variable {K:Zfr}
theorem FL{ρ:List Addr}{H:Hp}{st:Store}(l:Rl K ρ H st)(n:Nat):∀{vs:List V} {ds:List D} {ps:List PyData},cY K ρ H vs ds->cH (gp st n) ds=some ps->gy K H vs ps
 |_,_,_,.nil,h=>by cases h;exact .nil
 |_,_,_,.cons a b,h=>by
  obtain ⟨x,t,h1,h2,rfl⟩:=Am h;exact .cons (An l n a h1) (FL l n b h2)
theorem FN(neg:Bool):mF K (xB K neg) (nJ neg):=by
 intro ρ H st x y a c b st' Q l rx ry e q;unfold nJ at e;split at e
 ·next dx ds h1 h2 =>
  split at e
  ·next ok =>
   cases e;rw [WU,WU,decide_eq_true_eq,XY] at ok;obtain ⟨es,h3,h4⟩:=Xi.mp h2;obtain ⟨p,xs,rfl,hq,rr⟩:∃p xs,y=.ref p/\(kj K H p xs\/fS K H p xs)/\cY K ρ H xs es:=by
    cases ry with
    |non=>cases h3
    |bl _=>cases h3
    |int _=>cases h3
    |str _=>cases h3
    |ty _=>cases h3
    |ref hi=>obtain ⟨vs,s,r⟩:=l.items hi h3;exact ⟨_,vs,rfl,.inl s,r⟩
    |tup s r=>cases h3;exact ⟨_,_,rfl,.inr s,r⟩
   exact ⟨p,xs,ds,dx,rfl,hq,FL l 19 rr h4,An l 20 rx h1,ok.1.2,ok.1.1,ok.2,q _ H ρ .refl l (.bl _)⟩
  ·cases e
 ·cases e
end
open Classical in
theorem FO{st:Store}{Q:D->Store->Prop}{neg:Bool}{n:Nat}{a c:D}{es:List D}(ha:pU n a)(hc:dv st c=some es)(he:∀e∈es,pU n e)(hn:n<=15):Wp (nJ neg a c st) Q↔Q (.bl (if neg then !decide (a∈es) else decide (a∈es))) st:=by
 have h1:=Av n a ha 20 (by omega) st;have h2:cH (gp st 19) es=some (es.map (jM n)):=Dh fun x hx=>Av n x (he x hx) 19 (by omega) st;have ea:(es.map (jM n)).any (fun d=>PyData.eqv d (jM n a))=decide (a∈es):=by
  rw [Xx,List.any_eq_true,decide_eq_true_eq];constructor
  ·rintro ⟨d,hd,h⟩
   obtain ⟨x,hx,rfl⟩:=WB.mp hd;rw [<- (Di n x a (he x hx) ha).mp h];exact hx
  ·intro h
   exact ⟨_,WB.mpr ⟨a,h,rfl⟩,(Di n a a ha ha).mpr rfl⟩
 have l1:=vZ n a ha;have l2:(es.map (jM n)).all PyData.canLay0=true:=by
  rw [XY];intro d hd;obtain ⟨x,hx,rfl⟩:=WB.mp hd;exact (vZ n x (he x hx)).1
 have e:nJ neg a c st=some (.bl (if neg then !decide (a∈es) else decide (a∈es)),st):=by
  unfold nJ;simp only [h1,hc,Xu,h2,ea,l1.1,l2,Bool.true_and,decide_eq_true_eq];rw [if_pos (by omega)]
 rw [e,bT]
noncomputable def qE(ps:List PyData):Bool:=decide (0<ps.length) && ps.all (fun a=>ps.all fun b=>sf a b) && ps.all fun a=>a.canLay0 && decide (a.depth<=50)
noncomputable def my:List D->Dm D
 |[.ref r],st=>match own st r with
  |some ds=>match cH (gp st 20) ds with
   |some ps=>if qE ps=true then (match ds[nR ps]? with|some d=>some (d,st)|none=>none) else none
   |none=>none
  |none=>none
 |_,_=>none
section
variable {K:Zfr}
theorem Np:rj K (vB K) my:=by
 intro ρ H st xs as b st' Q l rx e q;unfold my at e;split at e
 ·next r lL =>
  split at e
  ·next ds hd =>
   split at e
   ·next ps hp =>
    split at e
    ·next hok =>
     split at e
     ·next d hd0 =>
      cases e;obtain ⟨v,rfl,r⟩:=rx.one';cases r with
      |ref hi =>
       obtain ⟨vs,hs,rr⟩:=l.items hi (bw (pA hd));obtain ⟨v,hv,rv⟩:=rr.got hd0;simp only [qE,WU,decide_eq_true_eq,XY] at hok;exact ⟨_,vs,ps,rfl,hs,FL l 20 rr hp,hok.1.1,hok.1.2,hok.2,v,hv,q v H ρ .refl l rv⟩
     ·cases e
    ·cases e
   ·cases e
  ·cases e
 ·cases e
end
theorem SW{st:Store}{Q:D->Store->Prop}{r:Nat}{ds:List D}{ps:List PyData}(h:own st r=some ds)(hp:cH (gp st 20) ds=some ps)(hok:qE ps=true){d:D}(hd:ds[nR ps]?=some d):Wp (my [.ref r] st) Q↔Q d st:=by
 have e:my [.ref r] st=some (d,st):=by simp only [my,h,hp,hok,hd,if_true]
 rw [e,bT]
noncomputable def tupI(xs:List Int):PyData:=.tuple (xs.map PyData.int)
noncomputable def lg(p:ag.aR):PyData:=.tuple [tupI p.1,tupI p.2]
theorem JB:∀xs ys:List Int,m8 (xs.map PyData.int) (ys.map PyData.int)=ag.pq xs ys
 |[],[]=>rfl
 |[],_ :: _=>rfl
 |_ :: _,[]=>rfl
 |x :: xs,y :: ys=>by
  show (if (x == y)=true then m8 (xs.map PyData.int) (ys.map PyData.int) else decide (x<y))=if x=y then ag.pq xs ys else decide (x<y)
  rw [JB xs ys]
  by_cases h:x=y
  ·rw [if_pos h,if_pos (by simp [h])]
  ·rw [if_neg h,if_neg (by simp [h])]
theorem Nq(xs ys:List Int):PyData.eqv (tupI xs) (tupI ys)=decide (xs=ys):=BQ xs ys
theorem SX(p q:ag.aR):Ad (lg p) (lg q)=ag.nc p q:=by
 show (if PyData.eqv (tupI p.1) (tupI q.1)=true then (if PyData.eqv (tupI p.2) (tupI q.2)=true then false else m8 (p.2.map PyData.int) (q.2.map PyData.int)) else m8 (p.1.map PyData.int) (q.1.map PyData.int))=if p.1=q.1 then ag.pq p.2 q.2 else ag.pq p.1 q.1
 rw [Nq,Nq,JB,JB]
 by_cases a:p.1=q.1
 ·rw [if_pos a,if_pos (decide_eq_true a)]
  by_cases b:p.2=q.2
  ·rw [if_pos (decide_eq_true b),b,ag.Fg]
  ·rw [if_neg (by simp [b])]
 ·rw [if_neg a,if_neg (by simp [a])]
theorem JC:∀xs ys:List Int,oj (xs.map PyData.int) (ys.map PyData.int)=true
 |[],_=>rfl
 |_ :: _,[]=>rfl
 |x :: xs,y :: ys=>by show (true && oj (xs.map PyData.int) (ys.map PyData.int))=true;rw [JC xs ys];rfl
theorem SY(p q:ag.aR):sf (lg p) (lg q)=true:=by
 show (oj (p.1.map PyData.int) (q.1.map PyData.int) && (oj (p.2.map PyData.int) (q.2.map PyData.int) && true))=true;rw [JC,JC];rfl
theorem S0(p:ag.aR):(lg p).canLay0=true/\(lg p).depth<=50:=by
 refine ⟨?_,?_⟩
 ·show (PyData.canLayAll0 (du p.1) && (PyData.canLayAll0 (du p.2) && true))=true
  rw [xv,xv];rfl
 ·show max (PyData.depthAll (du p.1)+1) (max (PyData.depthAll (du p.2)+1) 0)+1<=50
  rw [Aa,Aa];decide
theorem Nr(l:List ag.aR):∀k,k<l.length->l[argBest (fun i j=>ag.nc (l.getD i ([],[])) (l.getD j ([],[]))) k]?=some (ag.ng (l.take (k+1)))
 |0,h=>by
  cases l with
  |nil=>simp at h
  |cons p l=>rfl
 |k+1,h=>by
  have ih:=Nr l k (by omega);generalize hb:argBest (fun i j=>ag.nc (l.getD i ([],[])) (l.getD j ([],[]))) k=b at ih;have e1:l.getD b ([],[])=ag.ng (l.take (k+1)):=by rw [WI,ih];rfl
  have e2:ag.ng (l.take (k+1+1))=if ag.nc (l.getD (k+1) ([],[])) (ag.ng (l.take (k+1))) then l.getD (k+1) ([],[]) else ag.ng (l.take (k+1)):=by
   have et:l.take (k+1+1)=l.take (k+1) ++ [l.getD (k+1) ([],[])]:=by
    rw [W8 h,WI,Wr h];rfl
   rw [et];cases l with
   |nil=>simp at h
   |cons p l =>
    show ((l.take k ++ [_]).foldl _ p)=_;rw [Xp];rfl
  show l[if (ag.nc (l.getD (k+1) ([],[])) (l.getD (argBest _ k) ([],[])))=true then k+1 else argBest _ k]?=_;rw [hb,e1,e2];split
  ·rw [WI,Wr h];rfl
  ·exact ih
theorem S1(st:Store)(p:ag.aR):gp st 20 (cv p.1 p.2)=some (lg p):=by
 have h:∀(m:Nat) (xs:List Int),cH (gp st (m+1)) (xs.map D.int)=some (xs.map PyData.int):=fun m xs=>by
  have:=vR (f:=gp st (m+1)) (g:=D.int) (k:=PyData.int) (fun _=>rfl) xs;exact this
 show (cH (gp st 19) [D.tup (p.1.map D.int),D.tup (p.2.map D.int)]).map PyData.tuple=_;have e1:gp st 19 (D.tup (p.1.map D.int))=some (tupI p.1):=by show (cH (gp st 18) (p.1.map D.int)).map PyData.tuple=_;rw [h];rfl
 have e2:gp st 19 (D.tup (p.2.map D.int))=some (tupI p.2):=by show (cH (gp st 18) (p.2.map D.int)).map PyData.tuple=_;rw [h];rfl
 simp only [cH,e1,e2];rfl
theorem Nt{st:Store}{Q:D->Store->Prop}{r:Nat}{l:List ag.aR}(h:own st r=some (l.map fun p=>cv p.1 p.2))(hn:0<l.length):Wp (my [.ref r] st) Q↔Q (cv (ag.ng l).1 (ag.ng l).2) st:=by
 have hp:cH (gp st 20) (l.map fun p=>cv p.1 p.2)=some (l.map lg):=vR (f:=gp st 20) (g:=fun p:ag.aR=>cv p.1 p.2) (k:=lg) (fun p=>S1 st p) l;refine SW h hp ?_ ?_
 ·simp only [qE,WU,decide_eq_true_eq,XY,Wo]
  refine ⟨⟨hn,fun a ha b hb=>?_⟩,fun a ha=>?_⟩
  ·obtain ⟨p,_,rfl⟩:=WB.mp ha
   obtain ⟨q,_,rfl⟩:=WB.mp hb;exact SY p q
  ·obtain ⟨p,_,rfl⟩:=WB.mp ha
   exact S0 p
 ·have hb:=Nr l (l.length-1) (by omega)
  rw [show l.length-1+1=l.length by omega,XE] at hb;have e:∀k,k<l.length->argBest (uv (l.map lg)) k=argBest (fun i j=>ag.nc (l.getD i ([],[])) (l.getD j ([],[]))) k/\argBest (fun i j=>ag.nc (l.getD i ([],[])) (l.getD j ([],[]))) k<l.length:=by
   intro k
   induction k with
   |zero=>intro hk;exact ⟨rfl,hk⟩
   |succ k ih =>
    intro hk;obtain ⟨e1,e2⟩:=ih (by omega);have eb:uv (l.map lg) (k+1) (argBest (uv (l.map lg)) k)=ag.nc (l.getD (k+1) ([],[])) (l.getD (argBest (fun i j=>ag.nc (l.getD i ([],[])) (l.getD j ([],[]))) k) ([],[])):=by
     rw [e1];unfold uv;rw [WI,WI,Wx,Wx,Wr hk,Wr e2,WI,WI,Wr hk,Wr e2];exact SX _ _
    refine ⟨?_,?_⟩
    ·show (if uv (l.map lg) (k+1) (argBest (uv (l.map lg)) k)=true then k+1 else argBest (uv (l.map lg)) k)=if _=true then k+1 else _
     rw [eb,e1]
    ·show (if _=true then k+1 else _)<l.length
     split
     ·exact hk
     ·exact e2
  unfold nR;rw [Wo,(e (l.length-1) (by omega)).1,Wx,hb];rfl
section
variable {K:Zfr}
noncomputable def sP(T:String)(g:D->List D->Dm D)(fo:av->Dm D):av->Dm D:=fun δ st=>bnd (fo δ st) fun o st1=>if tQ T st1 o=true then g o [] st1 else none
theorem Nu{T:String}{r:V->List V->Hp->VK->Prop}{g:D->List D->Dm D}{to:TE}{fo:av->Dm D}(hr:tO K T r g)(ho:gC K to fo):gC K (BE K T r to) (sP T g fo):=by
 intro ρ σ H δ st b st' Q l rs e q;obtain ⟨o,st1,e1,e⟩:=eU e;split at e
 ·next ht =>
  refine ho ρ σ H δ st o st1 _ l rs e1 fun x H1 ρ1 m1 l1 r1=>⟨MI l1 r1 ht,?_⟩;exact hr ρ1 H1 st1 x [] o [] b st' Q l1 r1 .nil e fun v H3 ρ3 m3 l3 r3=>q v H3 ρ3 (m1.trans m3) l3 r3
 ·cases e
end
section
variable {st:Store}{Q:D->Store->Prop}{i:Nat}
theorem Dk{α:Type}{m:Option (α×Store)}{R R':α->Store->Prop}(h:∀a s,R a s↔R' a s):Wp m R↔Wp m R':=by
 have e:R=R':=funext fun a=>funext fun s=>propext (h a s);rw [e]
theorem Nv{T:String}{g:D->List D->Dm D}{fo:av->Dm D}{δ:av}:Wp (sP T g fo δ st) Q↔Wp (fo δ st) fun o st1=>tQ T st1 o=true/\Wp (g o [] st1) Q:=by
 unfold sP;rw [d8];refine Dk fun o st1=>?_;rw [nV,gY];split
 ·next h=>exact ⟨fun q=>⟨h,q⟩,fun q=>q.2⟩
 ·next h=>exact ⟨False.elim,fun q=>h q.1⟩
end
section
variable {K:Zfr}
noncomputable def sQ:av->Dm Fl:=fun _ _=>none
theorem S2:oP K rL sQ:=by
 intro ρ σ H δ st fl st' E l rs e q;cases e
end
noncomputable def fz:D->List D->Dm D
 |.ref k,[a],st=>match gp st 20 a,(items st k).bind (cH (gp st 19)) with
  |some dx,some ds=>match ds.findIdx? fun d=>PyData.eqv d dx with
   |some j=>if dx.canLay0 && ds.all PyData.canLay0 && decide (dx.depth<=60) && decide (ds.length<=1000) then some (.int (j:Int),st) else none
   |none=>none
  |_,_=>none
 |_,_,_=>none
section
variable {K:Zfr}
theorem Nw:tO K "list" (qj K) fz:=by
 intro ρ H st x xs a as b st' Q l rx o8 e q;unfold fz at e;split at e
 ·split at e
  ·next dx ds h1 h2 =>
   split at e
   ·next j hj =>
    split at e
    ·next ok =>
     cases e;rw [WU,WU,WU,decide_eq_true_eq,decide_eq_true_eq,XY] at ok;obtain ⟨es,h3,h4⟩:=Xi.mp h2;obtain ⟨y,rfl,r⟩:=o8.one';cases rx with
     |ref hi =>
      obtain ⟨vs,s,rr⟩:=l.items hi h3;obtain ⟨hjl,hj1,hj2⟩:=XR.mp hj
      exact ⟨_,vs,ds,y,dx,j,rfl,rfl,s,FL l 19 rr h4,An l 20 r h1,ok.1.1.2,ok.1.1.1,ok.1.2,ok.2,⟨_,Wr hjl,hj1⟩,fun i d hij hd=>by
       obtain ⟨hil,rfl⟩:=Wq.mp hd
       simpa using hj2 i hij,q _ H ρ .refl l (.int _)⟩
    ·cases e
   ·cases e
  ·cases e
 ·cases e
end
theorem Ny{st:Store}{Q:D->Store->Prop}{n k j:Nat}{a:D}{es:List D}(ha:pU n a)(hc:items st k=some es)(he:∀e∈es,pU n e)(hn:n<=15)(hl:es.length<=1000)(hj:es[j]?=some a)(hno:∀i e,i<j->es[i]?=some e->e≠a):Wp (fz (.ref k) [a] st) Q↔Q (.int (j:Int)) st:=by
 have h1:=Av n a ha 20 (by omega) st;have h2:cH (gp st 19) es=some (es.map (jM n)):=Dh fun x hx=>Av n x (he x hx) 19 (by omega) st;obtain ⟨hjl,S3⟩:=Wq.mp hj;have hf:(es.map (jM n)).findIdx? (fun d=>PyData.eqv d (jM n a))=some j:=by
  refine XR.mpr ⟨by simpa using hjl,?_,fun i hij=>?_⟩
  ·rw [XW,S3]
   exact (Di n a a ha ha).mpr rfl
  ·have hil:i<es.length:=by omega
   rw [XW];have hm:es[i]∈es:=Xk hil;intro h;exact hno i es[i] hij (Wr hil) ((Di n es[i] a (he _ hm) ha).mp h)
 have l1:=vZ n a ha;have l2:(es.map (jM n)).all PyData.canLay0=true:=by
  rw [XY];intro d hd;obtain ⟨x,hx,rfl⟩:=WB.mp hd;exact (vZ n x (he x hx)).1
 have e:fz (.ref k) [a] st=some (.int (j:Int),st):=by
  unfold fz;simp only [h1,hc,Xu,h2,hf,l1.1,l2,Bool.true_and,Wo,decide_eq_true_eq,WU];rw [if_pos ⟨by omega,hl⟩]
 rw [e,bT]
section
variable {K:Zfr}
noncomputable def jk:D->List D->Dm D
 |.ref i,[.int k,y],st=>match own st i with
  |some xs=>if (decide (0<=k/\k<4611686018427387904) && lim xs.length)=true then some (.non,st.set i (.lst (xs.take k.toNat ++ y :: xs.drop k.toNat))) else none
  |none=>none
 |_,_,_=>none
theorem Nz:tO K "list" qk jk:=by
 intro ρ H st x xs a as b st' Q l rx o8 e q;unfold jk at e;split at e
 ·split at e
  ·next ys hy =>
   split at e
   ·next hl =>
    cases e;obtain ⟨h1,h2⟩:=Bool.and_eq_true_iff.mp hl;have h1:=of_decide_eq_true h1;cases o8 with
    |cons r1 o8 =>
    obtain ⟨v,rfl,r⟩:=o8.one';cases r1;cases rx with
    |ref hi =>
     obtain ⟨vs,e1,r1⟩:=l.obj _ _ _ hi (pA hy);obtain ⟨l2,m2⟩:=l.putL hi (pA hy) ((r1.take _).append (.cons r (r1.drop _)));exact ⟨_,vs,_,v,rfl,rfl,e1,h1.1,h1.2,by rw [r1.length];exact Fs h2,q _ _ ρ m2 l2 .non⟩
   ·cases e
  ·cases e
 ·cases e
noncomputable def i3:D->List D->Dm D
 |.ref i,[.int k],st=>match (own st i).bind (cH iV) with
  |some ns=>if k∈ns then some (.non,st.set i (.lst ((ns.erase k).map D.int))) else none
  |none=>none
 |_,_,_=>none
theorem S4:tO K "list" (oZ K) i3:=by
 intro ρ H st x xs a as b st' Q l rx o8 e q;unfold i3 at e;split at e
 ·split at e
  ·next ns hn =>
   split at e
   ·next hm =>
    cases e;obtain ⟨v,rfl,r⟩:=o8.one';cases r;cases rx with
    |ref hi =>
     obtain ⟨ds,h1,h2⟩:=Xi.mp hn;obtain ⟨vs,e1,r1⟩:=l.obj _ _ _ hi (pA h1);cases FA r1 h2;obtain ⟨l2,m2⟩:=l.putL hi (pA h1) (cY.ints (ns.erase _));exact ⟨_,ns,_,rfl,rfl,e1,hm,q _ _ ρ m2 l2 .non⟩
   ·cases e
  ·cases e
 ·cases e
end
section
variable {st:Store}{Q:D->Store->Prop}{k:Nat}
theorem NA{i:Int}{y:D}{xs:List D}(h:own st k=some xs)(h0:0<=i)(h1:i<4611686018427387904)(hl:lim xs.length=true):Wp (jk (.ref k) [.int i,y] st) Q↔Q .non (st.set k (.lst (xs.take i.toNat ++ y :: xs.drop i.toNat))):=by
 have e:jk (.ref k) [.int i,y] st=some (.non,st.set k (.lst (xs.take i.toNat ++ y :: xs.drop i.toNat))):=by
  simp only [jk,h,hl,decide_eq_true (show 0<=i/\i<4611686018427387904 from ⟨h0,h1⟩)];rfl
 rw [e,bT]
theorem S5{i:Int}{ns:List Int}(h:own st k=some (ns.map D.int))(hm:i∈ns):Wp (i3 (.ref k) [.int i] st) Q↔Q .non (st.set k (.lst ((ns.erase i).map D.int))):=by
 have e:i3 (.ref k) [.int i] st=some (.non,st.set k (.lst ((ns.erase i).map D.int))):=by
  simp only [i3,h,Xu,Jl];rw [if_pos hm]
 rw [e,bT]
end
noncomputable def sR:D->List D->Dm D
 |.ref i,[],st=>match own st i with
  |some xs=>match xs[xs.length-1]? with
   |some y=>some (y,st.set i (.lst xs.dropLast))
   |none=>none
  |none=>none
 |_,_,_=>none
section
variable {K:Zfr}
theorem NC:tO K "list" BH sR:=by
 intro ρ H st x xs a as b st' Q l rx o8 e q;unfold sR at e;split at e
 ·split at e
  ·next ys hy =>
   split at e
   ·next y hl =>
    cases e;cases o8;cases rx with
    |ref hi =>
     obtain ⟨vs,e1,r1⟩:=l.obj _ _ _ hi (pA hy);obtain ⟨v,hv,rv⟩:=r1.got hl;have hlen:=r1.length;have r2:cY K ρ H vs.dropLast ys.dropLast:=by
      rw [List.dropLast_eq_take,List.dropLast_eq_take,hlen];exact r1.take _
     obtain ⟨l2,m2⟩:=l.putL hi (pA hy) r2;exact ⟨_,vs,v,rfl,rfl,e1,by rw [hlen];exact hv,q _ _ ρ m2 l2 (rv.mn m2)⟩
   ·cases e
  ·cases e
 ·cases e
end
section
variable {st:Store}{Q:D->Store->Prop}{i:Nat}
theorem ND{xs:List D}{y:D}(h:own st i=some (xs ++ [y])):Wp (sR (.ref i) [] st) Q↔Q y (st.set i (.lst xs)):=by
 have e:(xs ++ [y])[(xs ++ [y]).length-1]?=some y:=by simp
 have e2:(xs ++ [y]).dropLast=xs:=by simp
 show Wp (match own st i with|some xs=>(match xs[xs.length-1]? with|some y=>some (y,st.set i (O.lst xs.dropLast))|none=>none)|none=>none) Q↔_;rw [h];dsimp only;rw [e,e2];exact bT
end
end L4
namespace ag
abbrev CS:=List aR×List (List Sp)×List (Nat×Nat)
noncomputable def bz(n:Nat)(fs:List aR)(ws:List (List Sp))(k:Nat)(s:Sp):List aR×List (List Sp)×Nat :=
 if bC n (stM (fs.getD k ([],[])) s)∈fs then (fs,ws,fs.idxOf (bC n (stM (fs.getD k ([],[])) s))) else (fs ++ [bC n (stM (fs.getD k ([],[])) s)],ws ++ [(km (ws.getD k [] ++ [s])).reverse],fs.length)
noncomputable def lh(n:Nat)(c:CS):List aR×List (List Sp)×Nat:=bz n c.1 c.2.1 c.2.2.length (true,1)
noncomputable def jY(n:Nat)(c:CS):List aR×List (List Sp)×Nat:=bz n (lh n c).1 (lh n c).2.1 c.2.2.length (false,1)
noncomputable def JD(n:Nat)(c:CS):CS:=((jY n c).1,(jY n c).2.1,c.2.2 ++ [((lh n c).2.2,(jY n c).2.2)])
noncomputable def ch(n:Nat)(p:aR):Nat->CS
 |0=>([bC n p],[[]],[])
 |i+1=>JD n (ch n p i)
structure GR(n:Nat)(p:aR)(fs:List aR)(ws:List (List Sp)):Prop where
 nd:fs.Nodup
 own:∀q∈fs,Wh n q/\bC n q=q
 wl:ws.length=fs.length
 hd:fs[0]?=some (bC n p)
 wd:∀(k:Nat) (w:List Sp),ws[k]?=some w->Pl w.reverse/\w.length<=k/\(∀s∈w,s.2.natAbs<=k+3)/\∃q,fs[k]?=some q/\bO n (iF p w) q
noncomputable def S6(n:Nat)(fs:List aR)(ls:List (Nat×Nat)):Prop:=∀(k:Nat) (l:Nat×Nat),ls[k]?=some l->∃p,fs[k]?=some p/\fs[l.1]?=some (bC n (stM p (true,1)))/\fs[l.2]?=some (bC n (stM p (false,1)))
structure GC(n:Nat)(p:aR)(c:CS)(i:Nat):Prop where
 r:GR n p c.1 c.2.1
 ll:c.2.2.length=i
 le:i<=c.1.length
 ld:S6 n c.1 c.2.2
section
variable {n:Nat}{p:aR}
theorem GR.few{fs:List aR}{ws:List (List Sp)}(g:GR n p fs ws):0<fs.length:=(Wq.mp g.hd).1
theorem rB(w:Wh n p)(n0:0<n):Wh n (bC n p)/\bC n (bC n p)=bC n p/\bO n p (bC n p):=by
 obtain ⟨s,s0,s1,e⟩:=IX p n0;have tb:=w.bf s0 s1;have a:bO n p (bC n p):=⟨inv (bf p.1 p.2 s n),tb.aG,by rw [e,vE w.v.1 tb,vE w.v.2 tb];rfl⟩;have wq:Wh n (bC n p):=by
  obtain ⟨g,tg,eq⟩:=a;have:=qD (xs:=p.1) (ys:=p.2) ⟨w.v.1,w.v.2,w.all⟩ tg n0;rw [eq];exact ⟨⟨this.1,this.2.1⟩,this.2.2⟩
 exact ⟨wq,(pz n0 w.v a).symm,a⟩
theorem S7{fs:List aR}{q:aR}(h:q∈fs):fs[fs.idxOf q]?=some q:=by
 have hl:=List.idxOf_lt_length_of_mem h;rw [Wr hl,List.getElem_idxOf]
theorem S8{w:List Sp}{k:Nat}{s:Sp}(hp:Pl w.reverse)(hn:∀a∈w,a.2.natAbs<=k+3)(hs:s=(true,1)\/s=(false,1)):Pl (km (w ++ [s]))/\∀a∈(km (w ++ [s])),a.2.natAbs<=k+1+3:=by
 have ps:gX s:=by rcases hs with rfl|rfl<;>exact ⟨fun _=>by decide,by decide⟩
 have ew:km w=w.reverse:=by
  have:=Pl.nS hp
  rwa [List.reverse_reverse] at this
 have e:km (w ++ [s])=cw w.reverse s:=by
  rw [IB,ew];rfl
 rw [e];refine ⟨hp.push ps,fun a ha=>?_⟩;have s1:s.2.natAbs<=1:=by rcases hs with rfl|rfl<;>decide
 exact QW (M:=k+3) (B:=1) (fun x hx=>hn x (Xt.mp hx)) s1 ps hp a ha
theorem tT{fs:List aR}{ws:List (List Sp)}{k:Nat}{s:Sp}(n0:0<n)(g:GR n p fs ws)(vp:Vf n p)(hk:k<fs.length)(hs:s=(true,1)\/s=(false,1)):
  GR n p (bz n fs ws k s).1 (bz n fs ws k s).2.1/\(∀(i:Nat) (q:aR),fs[i]?=some q->(bz n fs ws k s).1[i]?=some q)/\fs.length<=(bz n fs ws k s).1.length/\(bz n fs ws k s).1.length<=fs.length+1/\∃q,fs[k]?=some q/\(bz n fs ws k s).1[(bz n fs ws k s).2.2]?=some (bC n (stM q s)):=by
 have ek:fs[k]?=some (fs.getD k ([],[])):=by rw [WI,Wr hk];rfl
 generalize hq:fs.getD k ([],[])=q at ek;obtain ⟨wq,oq⟩:=g.own q (Ww ek);have zc:=wq.st n0 s;obtain ⟨wF,oF,aF⟩:=rB zc n0;unfold bz;rw [hq]
 by_cases hm:bC n (stM q s)∈fs
 ·rw [if_pos hm]
  exact ⟨g,fun _ _ h=>h,Wv _,Nat.le_succ _,q,ek,S7 hm⟩
 ·rw [if_neg hm]
  have S9:k<ws.length:=by rw [g.wl];exact hk
  have ew:ws[k]?=some (ws.getD k []):=by rw [WI,Wr S9];rfl
  generalize ws.getD k []=w at ew;obtain ⟨pw,lw,nw,q',eq',aw⟩:=g.wd k w ew;rw [ek] at eq';cases eq';obtain ⟨pl,nl⟩:=S8 (k:=k) pw nw hs;refine ⟨⟨List.nodup_append.mpr ⟨g.nd,by simp,fun x hx y hy e=>hm (by rw [<- WK.mp hy,<- e];exact hx)⟩,fun q' hq'=>?_,by rw [Wt,Wt,g.wl];rfl,by rw [WG g.few];exact g.hd,fun i v hv=>?_⟩,fun i q' h=>by rw [WG (Wq.mp h).1];exact h,by rw [Wt];omega,by rw [Wt];exact Wv _,q,ek,?_⟩
  ·rcases WS.mp hq' with h|h
   ·exact g.own q' h
   ·rw [WK.mp h];exact ⟨wF,oF⟩
  ·by_cases hi:i<ws.length
   ·rw [WG hi] at hv
    obtain ⟨a1,a2,a3,q',b1,b2⟩:=g.wd i v hv;exact ⟨a1,a2,a3,q',by rw [WG (Wq.mp b1).1];exact b1,b2⟩
   ·have hi2:i=ws.length:=by
     have:=(Wq.mp hv).1;rw [Wt] at this;have:i<ws.length+1:=this;omega
    subst hi2;rw [WN (Wv _),XA] at hv;cases (show some _=some v from hv);refine ⟨by rw [List.reverse_reverse];exact pl,?_,fun a ha=>?_,bC n (stM q s),?_,?_⟩
    ·rw [List.length_reverse]
     have:=IC (w ++ [s]);rw [Wt] at this;have:(km (w ++ [s])).length<=w.length+1:=this;omega
    ·have:=nl a (Xt.mp ha)
     omega
    ·rw [g.wl,WN (Wv _),XA];rfl
    ·have cZ:∀ a∈w ++ [s],gX a:=fun a ha=>by
      rcases WS.mp ha with h|h
      ·exact Pl.pr pw a (Xt.mpr h)
      ·rw [WK.mp h]
       rcases hs with rfl|rfl<;>exact ⟨fun _=>by decide,by decide⟩
     have e1:cM (km (w ++ [s])).reverse=cM (w ++ [s]):=Mh cZ;have pp:∀a∈(km (w ++ [s])).reverse,gX a:=fun a ha=>Pl.pr pl a (Xt.mp ha);have a1:=Mw pp cZ e1 vp;have a2:bO n (iF p (w ++ [s])) (stM q s):=by
      rw [Ah];exact bO.st vp.ld aw s
     exact bO.trans vp.ld (bO.trans vp.ld a1 a2) aF
  ·rw [WN (Wv _),XA];rfl
theorem wg(n0:0<n)(w:Wh n p):∀i:Nat,(∀j,j<i->j<(ch n p j).1.length)->GC n p (ch n p i) i
 |0,_=>by
  obtain ⟨wF,oF,aF⟩:=rB w n0
  exact ⟨⟨by show [bC n p].Nodup;simp,fun q hq=>by rw [WK.mp hq];exact ⟨wF,oF⟩,rfl,rfl,fun k v hv=>by
   cases k with
   |zero =>
    cases (show some []=some v from hv);exact ⟨trivial,Wv _,(fun s hs=>nomatch hs),_,rfl,aF⟩
   |succ k=>cases (show none=some v from hv)⟩,rfl,W9 _,fun k l hl=>nomatch hl⟩
 |i+1,h=>by
  have g:=wg n0 w i fun j hj=>h j (by omega);have hi:=h i (by omega);have nC:=g.ll;have vp:=w.v;have r1:=tT (s:=(true,1)) n0 g.r vp (k:=(ch n p i).2.2.length) (by omega) (.inl rfl);have r2:=tT (s:=(false,1)) n0 r1.1 vp (k:=(ch n p i).2.2.length) (by have:=r1.2.2.1;omega) (.inr rfl);refine ⟨r2.1,by show ((ch n p i).2.2 ++ [_]).length=i+1;rw [Wt,nC];rfl,?_,fun k l hl=>?_⟩
  ·have a:=r1.2.2.1
   have b:=r2.2.2.1;show i+1<=(jY n (ch n p i)).1.length;unfold jY lh;omega
  ·have hl:((ch n p i).2.2 ++ [((lh n (ch n p i)).2.2,(jY n (ch n p i)).2.2)])[k]?=some l:=hl
   by_cases hk:k<(ch n p i).2.2.length
   ·rw [WG hk] at hl
    obtain ⟨q,b1,b2,b3⟩:=g.ld k l hl;exact ⟨q,r2.2.1 _ _ (r1.2.1 _ _ b1),r2.2.1 _ _ (r1.2.1 _ _ b2),r2.2.1 _ _ (r1.2.1 _ _ b3)⟩
   ·have hk2:k=(ch n p i).2.2.length:=by
     have:=(Wq.mp hl).1;rw [Wt] at this;have:k<(ch n p i).2.2.length+1:=this;omega
    subst hk2;rw [WN (Wv _),XA] at hl;cases (show some _=some l from hl);obtain ⟨q1,c1,c2⟩:=r1.2.2.2.2;obtain ⟨q2,d1,d2⟩:=r2.2.2.2.2;have:q2=q1:=by
     have:=r1.2.1 _ _ c1;rw [d1] at this;exact WD this
    subst this;exact ⟨q2,r2.2.1 _ _ d1,r2.2.1 _ _ c2,d2⟩
theorem NF:∀{l m:List aR},m.Nodup->(∀x∈m,x∈l)->l.length<=m.length->∀x∈l,x∈m
 |l,[],_,_,hl,x,hx=>by
  have:l=[]:=List.length_eq_zero_iff.mp (by simpa using hl);rw [this] at hx;cases hx
 |l,a :: m,nd,hs,hl,x,hx=>by
  by_cases e:x=a
  ·rw [e];exact Wy
  ·have wj:=Xc.mp nd
   have ha:=hs a Wy
   have:=NF (l:=l.erase a) (m:=m) wj.2 (fun y hy=>by
    have JE:y≠a:=fun z=>wj.1 (z ▸ hy)
    exact (Xz JE).mpr (hs y (WE _ hy))) (by rw [List.length_erase_of_mem ha];simp at hl;omega) x ((Xz e).mpr hx)
   exact WE _ this
theorem NG{f:aR->aR}:∀{l:List aR},l.Nodup->(∀a∈l,∀b∈l,f a=f b->a=b)->(l.map f).Nodup
 |[],_,_=>List.nodup_nil
 |a :: l,nd,h=>by
  rw [WM];have wj:=Xc.mp nd;refine Xc.mpr ⟨fun hm=>?_,NG wj.2 fun x hx y hy=>h x (WE _ hx) y (WE _ hy)⟩;obtain ⟨b,hb,e⟩:=WB.mp hm;have:=h b (WE _ hb) a Wy e;exact wj.1 (this ▸ hb)
structure Full(n:Nat)(p:aR)(c:CS)(N:Nat):Prop extends GC n p c N where
 fl:c.1.length=N
theorem Full.s{c:CS}{N:Nat}(h:Full n p c N){q:aR}(hq:q∈c.1):bC n (Sh 1 q)∈c.1/\bC n (Qt q)∈c.1:=by
 obtain ⟨k,hk⟩:=Xa hq;have nE:k<c.2.2.length:=by rw [h.ll,<- h.fl];exact (Wq.mp hk).1
 obtain ⟨q',b1,b2,b3⟩:=h.ld k _ (Wr nE);rw [hk] at b1;cases b1;exact ⟨Ww b2,Ww b3⟩
structure nK(n:Nat)(fs:List aR):Prop where
 nd:fs.Nodup
 own:∀q∈fs,Wh n q/\bC n q=q
 s:∀q∈fs,bC n (Sh 1 q)∈fs/\bC n (Qt q)∈fs
theorem Full.uL{c:CS}{N:Nat}(h:Full n p c N):nK n c.1:=⟨h.r.nd,h.r.own,fun q hq=>h.s hq⟩
theorem nK.sm{fs:List aR}(n0:0<n)(h:nK n fs){q:aR}(hq:q∈fs):bC n (Sh (-1) q)∈fs:=by
 have inj:∀a∈fs,∀b∈fs,bC n (Sh 1 a)=bC n (Sh 1 b)->a=b:=fun a ha b hb e=>xT n0 1 (h.own a ha).1 (h.own b hb).1 (h.own a ha).2 (h.own b hb).2 e;have nd:=NG (f:=fun a=>bC n (Sh 1 a)) h.nd inj
 have:=NF nd (fun x hx=>by
  obtain ⟨a,ha,rfl⟩:=WB.mp hx
  exact (h.s a ha).1) (by rw [Wo];exact Wv _) q hq
 obtain ⟨a,ha,e⟩:=WB.mp this;obtain ⟨wa,oa⟩:=h.own a ha;obtain ⟨wF,oF,aF⟩:=rB (wa.sh n0 1) n0;have a1:bO n (Sh 1 a) q:=by rw [<- e];exact aF
 have a2:=bO.sh (wa.sh n0 1).v a1 (-1);rw [tN wa.v,show (1:Int) + -1=0 from rfl,oo wa.v] at a2;rw [<- pz n0 wa.v a2,oa];exact ha
theorem nK.st{fs:List aR}(n0:0<n)(h:nK n fs){q:aR}(hq:q∈fs)(s:Sp):bC n (stM q s)∈fs:=by
 have up:∀k:Nat,bC n (Sh (k:Int) q)∈fs:=fun k=>by
  induction k with
  |zero =>
   rw [show ((0:Nat):Int)=0 from rfl,oo (h.own q hq).1.v,(h.own q hq).2];exact hq
  |succ k ih =>
   have wk:=(h.own q hq).1.sh n0 (k:Int);obtain ⟨wF,oF,aF⟩:=rB wk n0;have:=(h.s _ ih).1;rw [<- pz n0 (wk.sh n0 1).v (bO.sh wk.v aF 1),tN (h.own q hq).1.v] at this;exact this
 have dn:∀k:Nat,bC n (Sh (-(k:Int)) q)∈fs:=fun k=>by
  induction k with
  |zero =>
   rw [show (-((0:Nat):Int))=0 from rfl,oo (h.own q hq).1.v,(h.own q hq).2];exact hq
  |succ k ih =>
   have wk:=(h.own q hq).1.sh n0 (-(k:Int));obtain ⟨wF,oF,aF⟩:=rB wk n0;have:=h.sm n0 ih;rw [<- pz n0 (wk.sh n0 (-1)).v (bO.sh wk.v aF (-1)),tN (h.own q hq).1.v,show -(k:Int) + -1=-((k+1:Nat):Int) by omega] at this;exact this
 have qt:∀k:Nat,Wh n (nB k q)/\bC n (nB k q)∈fs:=fun k=>by
  induction k with
  |zero=>exact ⟨(h.own q hq).1,by show bC n q∈fs;rw [(h.own q hq).2];exact hq⟩
  |succ k ih =>
   obtain ⟨wk,ih⟩:=ih;obtain ⟨wF,oF,aF⟩:=rB wk n0;have:=(h.s _ ih).2;rw [<- pz n0 (wk.qt n0).v (bO.qt wk.v aF)] at this;exact ⟨wk.qt n0,this⟩
 unfold stM;split
 ·rcases Int.lt_or_le s.2 0 with z|z
  ·have:=dn s.2.natAbs
   rwa [show -((s.2.natAbs:Nat):Int)=s.2 by omega] at this
  ·have:=up s.2.toNat
   rwa [show ((s.2.toNat:Nat):Int)=s.2 by omega] at this
 ·exact (qt _).2
theorem nK.ld{fs:List aR}(n0:0<n)(h:nK n fs):∀(w:List Sp) (q:aR),Wh n q->bC n q∈fs->bC n (iF q w)∈fs
 |[],_,_,hq=>hq
 |s :: w,q,wq,hq=>by
  refine nK.ld n0 h w (stM q s) (wq.st n0 s) ?_;obtain ⟨wF,oF,aF⟩:=rB wq n0;have:=h.st n0 hq s;rw [<- pz n0 (wq.st n0 s).v (bO.st wq.v aF s)] at this;exact this
theorem Full.word{c:CS}{N:Nat}(n0:0<n)(h:Full n p c N)(wp:Wh n p)(w:List Sp):bC n (iF p w)∈c.1:=h.uL.ld n0 w p wp (Ww h.r.hd)
end
end ag
namespace ag
noncomputable def Tl:Nat->List (List Int)
 |1=>[[0]]
 |2=>[[0,1],[1,0]]
 |3=>[[0,1,2],[0,2,1],[1,0,2],[1,2,0],[2,0,1],[2,1,0]]
 |_=>[]
theorem zd:∀a∈([0,1]:List Int),∀b∈([0,1]:List Int),[a,b].Nodup->[a,b]∈Tl 2:=by decide +kernel
theorem Ta:∀a∈([0,1,2]:List Int),∀b∈([0,1,2]:List Int),∀c∈([0,1,2]:List Int),[a,b,c].Nodup->[a,b,c]∈Tl 3:=by decide +kernel
theorem NH{n:Nat}(n0:0<n)(n3:n<=3){xs:List Int}(t:Tn n xs):xs∈Tl n:=by
 have hl:=t.length;have hb:∀x∈xs,x∈upto n:=fun x hx=>t.subset hx;have nd:=t.nodup;clear t
 match n,n0,n3,xs,hl with
 |1,_,_,[x],_ =>
  have h1:=hb x Wy;rw [WK.mp (show x∈[0] from h1)];exact Wy
 |2,_,_,[x,y],_=>exact zd x (hb x Wy) y (hb y (.tail _ Wy)) nd
 |3,_,_,[x,y,z],_=>exact Ta x (hb x Wy) y (hb y (.tail _ Wy)) z (hb z (.tail _ (.tail _ Wy))) nd
noncomputable def Ul(n:Nat):List aR:=((Tl n).flatMap fun x=>(Tl n).map fun y=>(x,y)).filter fun q=>decide (bC n q=q)
theorem ze{n:Nat}(n0:0<n)(n3:n<=3){q:aR}(w:Wh n q)(h:bC n q=q):q∈Ul n:=by
 unfold Ul;refine Yi.mpr ⟨List.mem_flatMap.mpr ⟨q.1,NH n0 n3 w.v.1,WB.mpr ⟨q.2,NH n0 n3 w.v.2,rfl⟩⟩,by rw [h];exact decide_eq_true rfl⟩
theorem Aw:∀{m l:List aR},m.Nodup->(∀x∈m,x∈l)->m.length<=l.length
 |[],_,_,_=>W9 _
 |a :: m,l,nd,hs=>by
  have wj:=Xc.mp nd;have ha:=hs a Wy;have:=Aw (m:=m) (l:=l.erase a) wj.2 fun y hy=>by
   have JE:y≠a:=fun z=>wj.1 (z ▸ hy);exact (Xz JE).mpr (hs y (WE _ hy))
  rw [List.length_erase_of_mem ha] at this;have hp:0<l.length:=List.length_pos_of_mem ha;simp;omega
theorem Tb{n:Nat}{p q:aR}(n0:0<n)(wp:Wh n p)(wq:Wh n q)(e:bC n p=bC n q):bO n p q:=by
 obtain ⟨_,_,a⟩:=rB wp n0;obtain ⟨_,_,b⟩:=rB wq n0;rw [e] at a;exact bO.trans wp.v a (bO.symm wq.v b)
end ag
namespace ag
theorem JF:(Ul 1).length<=16/\(Ul 2).length<=16/\(Ul 3).length<=16:=by decide +kernel
theorem Tc{n:Nat}(n0:0<n)(n3:n<=3){fs:List aR}(nd:fs.Nodup)(own:∀q∈fs,Wh n q/\bC n q=q):fs.length<=16:=by
 have h:=Aw (l:=Ul n) nd fun q hq=>ze n0 n3 (own q hq).1 (own q hq).2;rcases (show n=1\/n=2\/n=3 by omega) with rfl|rfl|rfl
 ·exact WZ h JF.1
 ·exact WZ h JF.2.1
 ·exact WZ h JF.2.2
end ag
namespace ag
noncomputable def zf(C:CS)(i:Nat):Nat×Nat:=C.2.2.getD i (0,0)
theorem NI{n N:Nat}{p:aR}{C:CS}(F:Full n p C N){i:Nat}(hi:i<N):(zf C i).1<N/\(zf C i).2<N:=by
 have hl:i<C.2.2.length:=by rw [F.ll];exact hi
 have e:C.2.2[i]?=some (zf C i):=by unfold zf;rw [WI,Wr hl];rfl
 obtain ⟨q,_,h1,h2⟩:=F.ld i _ e;exact ⟨by rw [<- F.fl];exact (Wq.mp h1).1,by rw [<- F.fl];exact (Wq.mp h2).1⟩
theorem zg{n N:Nat}{p:aR}{C:CS}(F:Full n p C N){k:Nat}(hk:k<N):(∀s∈C.2.1.getD k [],gX s/\s.2.natAbs<=N+3)/\(C.2.1.getD k []).length<=N:=by
 have hl:k<C.2.1.length:=by rw [F.r.wl,F.fl];exact hk
 have e:C.2.1[k]?=some (C.2.1.getD k []):=by rw [WI,Wr hl];rfl
 obtain ⟨pw,lw,nw,_⟩:=F.r.wd k _ e;exact ⟨fun s hs=>⟨Pl.pr pw s (Xt.mpr hs),by have:=nw s hs;omega⟩,by omega⟩
end ag
namespace ag
structure Ro where
 m:Nat
 q:aR
 w:List Sp
 s:Int
 t:Int
noncomputable def Ro.f(r:Ro):aR:=bC r.m r.q
noncomputable def At(fs:List aR)(i:Int)(f:aR):Prop:=0<=i/\i<(fs.length:Int)/\fs[i.toNat]?=some f
noncomputable def pd(n:Nat)(p:aR)(fs:List aR)(r:Ro):Prop:=bC n (iF p r.w)=r.f/\At fs r.s (bC r.m (Sh 1 r.q))/\At fs r.t (bC r.m (Qt r.q))
noncomputable def Holds(n:Nat)(p:aR)(R:List Ro):Prop:=(R.map Ro.f)[0]?=some (bC n p)/\∀(k:Nat) (r:Ro),R[k]?=some r->r.f ∉ (R.map Ro.f).take k/\pd n p (R.map Ro.f) r
structure fM(r:Ro):Prop where
 w:Wh r.m r.q
 m0:0<r.m
 oQ:r.m<=20
 pr:∀s∈r.w,gX s
 wl:r.w.length<=1000
noncomputable def bq(n:Nat)(C:CS)(N:Nat):List Ro:=(List.range N).map fun k=>⟨n,C.1.getD k ([],[]),C.2.1.getD k [],((C.2.2.getD k (0,0)).1:Int),((C.2.2.getD k (0,0)).2:Int)⟩
theorem gd{α:Type}{l:List α}{k:Nat}{d:α}(h:k<l.length):l[k]?=some (l.getD k d):=by rw [WI,Wr h];rfl
theorem NJ{n N:Nat}{p:aR}{C:CS}(F:Full n p C N):(bq n C N).map Ro.f=C.1:=by
 unfold bq;rw [WQ];refine List.ext_getElem? fun k=>?_
 by_cases hk:k<N
 ·have e:=gd (d:=(([],[]):aR)) (show k<C.1.length by rw [F.fl];exact hk)
  rw [Wx,XB hk,e];show some (bC n (C.1.getD k ([],[])))=_;rw [(F.r.own _ (Ww e)).2]
 ·rw [W7.mpr (by rw [Wo,X3];omega),W7.mpr (by rw [F.fl];omega)]
theorem FP{n N k:Nat}{C:CS}{r:Ro}(h:(bq n C N)[k]?=some r):k<N/\r=⟨n,C.1.getD k ([],[]),C.2.1.getD k [],((C.2.2.getD k (0,0)).1:Int),((C.2.2.getD k (0,0)).2:Int)⟩:=by
 unfold bq at h;have hk:k<N:=by have:=(Wq.mp h).1;rw [Wo,X3] at this;exact this
 rw [Wx,XB hk] at h;exact ⟨hk,(WD h).symm⟩
theorem JG{n N:Nat}{p:aR}{C:CS}(F:Full n p C N)(n0:0<n)(hn:n<=20)(hN:N<=60):∀r∈bq n C N,fM r:=fun r hr=>by
 obtain ⟨k,hk⟩:=Xa hr;obtain ⟨hkN,rfl⟩:=FP hk;have ef:=gd (d:=(([],[]):aR)) (show k<C.1.length by rw [F.fl];exact hkN);have ew:=gd (d:=([]:List Sp)) (show k<C.2.1.length by rw [F.r.wl,F.fl];exact hkN);obtain ⟨pw,lw,nw,_⟩:=F.r.wd k _ ew;exact ⟨(F.r.own _ (Ww ef)).1,n0,hn,fun s hs=>Pl.pr pw s (Xt.mpr hs),by show (C.2.1.getD k []).length<=1000;omega⟩
theorem NK{n N:Nat}{p:aR}{C:CS}(F:Full n p C N)(n0:0<n)(wp:Wh n p):Holds n p (bq n C N):=by
 have ef:=NJ F;refine ⟨by rw [ef];exact F.r.hd,fun k r hr=>?_⟩;obtain ⟨hk,e⟩:=FP hr;have hf:C.1[k]?=some r.f:=by rw [<- ef,Wx,hr];rfl
 have eq:=gd (d:=(([],[]):aR)) (show k<C.1.length by rw [F.fl];exact hk);have ew:=gd (d:=([]:List Sp)) (show k<C.2.1.length by rw [F.r.wl,F.fl];exact hk);have el:=gd (d:=((0,0):Nat×Nat)) (show k<C.2.2.length by rw [F.ll];exact hk);obtain ⟨q,h1,h2,h3⟩:=F.ld k _ el;obtain ⟨_,_,_,q',hq',aq⟩:=F.r.wd k _ ew;have hq2:q'=q:=by rw [hq'] at h1;exact WD h1
 subst hq2;have er:r.q=q':=by rw [eq] at hq';rw [e];exact WD hq'
 have em:r.m=n:=by rw [e]
 have es:r.s=((C.2.2.getD k (0,0)).1:Int):=by rw [e]
 have et:r.t=((C.2.2.getD k (0,0)).2:Int):=by rw [e]
 have ww:r.w=C.2.1.getD k []:=by rw [e]
 rw [ef];have lt:∀{i:Nat} {f:aR},C.1[i]?=some f->At C.1 (i:Int) f:=fun {i f} h=>⟨by omega,by have:=(Wq.mp h).1;omega,by rw [WC];exact h⟩;refine ⟨fun hm=>?_,?_,?_,?_⟩
 ·obtain ⟨j,hj⟩:=Xa hm
  have hjk:j<k:=by have:=(Wq.mp hj).1;rw [Xj] at this;omega
  rw [List.getElem?_take_of_lt hjk] at hj;obtain ⟨g1,g2⟩:=Wq.mp hj;obtain ⟨g3,g4⟩:=Wq.mp hf;exact Xm.mp F.r.nd j k g1 g3 hjk (by rw [g2,g4])
 ·unfold Ro.f
  rw [ww,em,er,pz n0 (wp.ld n0 (w:=C.2.1.getD k [])).v aq]
 ·rw [es,em,er];exact lt h2
 ·rw [et,em,er];exact lt h3
end ag
namespace ag
theorem NL{n:Nat}{p:aR}(w:Wh n p)(n0:0<n):(bC n p).1.length=n:=(rB w n0).1.v.1.length
theorem Holds.uL{n:Nat}{p:aR}{R:List Ro}(h:Holds n p R)(n0:0<n)(wp:Wh n p)(ok:∀r∈R,fM r):nK n (R.map Ro.f):=by
 have row:∀r∈R,r.m=n/\pd n p (R.map Ro.f) r:=fun r hr=>by
  obtain ⟨k,hk⟩:=Xa hr;have a:=(h.2 k r hk).2;have e:=congrArg (fun z:aR=>z.1.length) a.1;have e:(bC n (iF p r.w)).1.length=(bC r.m r.q).1.length:=e;rw [NL (wp.ld n0 (w:=r.w)) n0,NL (ok r hr).w (ok r hr).m0] at e;exact ⟨e.symm,a⟩
 have sS:∀{i:Int} {f:aR},At (R.map Ro.f) i f->f∈R.map Ro.f:=fun h=>Ww h.2.2;refine ⟨Xm.mpr fun i j hi hj hij e=>?_,fun q hq=>?_,fun q hq=>?_⟩
 ·have Td:j<R.length:=by rw [Wo] at hj;exact hj
  have:=(h.2 j R[j] (Wr Td)).1;refine this ?_;have ej:(R.map Ro.f)[j]=R[j].f:=XW _;rw [<- ej,<- e];refine Ww (i:=i) ?_;rw [List.getElem?_take_of_lt hij,Wr hi]
 ·obtain ⟨r,hr,rfl⟩:=WB.mp hq
  obtain ⟨em,a⟩:=row r hr;have o:=rB (ok r hr).w (ok r hr).m0;unfold Ro.f;rw [em] at o ⊢;exact ⟨o.1,o.2.1⟩
 ·obtain ⟨r,hr,rfl⟩:=WB.mp hq
  obtain ⟨em,a⟩:=row r hr;have w:=(ok r hr).w;rw [em] at w;obtain ⟨o1,o2,al⟩:=rB w n0;have a2:=a.2;rw [em] at a2;unfold Ro.f;rw [em];refine ⟨?_,?_⟩
  ·rw [<- pz n0 (w.sh n0 1).v (bO.sh w.v al 1)]
   exact sS a2.1
  ·rw [<- pz n0 (w.qt n0).v (bO.qt w.v al)]
   exact sS a2.2
theorem Holds.word{n:Nat}{p:aR}{R:List Ro}(h:Holds n p R)(n0:0<n)(wp:Wh n p)(ok:∀r∈R,fM r)(w:List Sp):bC n (iF p w)∈R.map Ro.f:=(h.uL n0 wp ok).ld n0 w p wp (Ww h.1)
theorem Holds.len{n N:Nat}{p:aR}{R:List Ro}{C:CS}(h:Holds n p R)(n0:0<n)(wp:Wh n p)(ok:∀r∈R,fM r)(F:Full n p C N):R.length=N:=by
 have s:=h.uL n0 wp ok;have a:(R.map Ro.f).length<=C.1.length:=Aw s.nd fun q hq=>by
  obtain ⟨r,hr,rfl⟩:=WB.mp hq;obtain ⟨k,hk⟩:=Xa hr;rw [<- (h.2 k r hk).2.1];exact F.word n0 wp _
 have b:C.1.length<=(R.map Ro.f).length:=Aw F.r.nd fun q hq=>by
  obtain ⟨k,hk⟩:=Xa hq;have hl:k<C.2.1.length:=by rw [F.r.wl];exact (Wq.mp hk).1
  obtain ⟨_,_,_,q',hq',aq⟩:=F.r.wd k _ (Wr hl);rw [hk] at hq';cases hq';have o:=F.r.own q hq;have:=h.word n0 wp ok C.2.1[k];rw [pz n0 (wp.ld n0 (w:=C.2.1[k])).v aq,o.2] at this;exact this
 rw [Wo,F.fl] at a b;omega
end ag
namespace ag
noncomputable def sT:List aR:=[([0,1,2,3,5,4],[1,2,3,4,0,5]),([0,1,2,3,5,4],[1,2,3,4,5,0]),([1,2,3,4,5,0],[0,1,2,3,5,4]),([1,2,4,0,5,3],[0,3,1,5,2,4]),([1,3,0,5,2,4],[2,4,5,0,3,1]),([1,2,4,5,3,0],[2,3,5,1,0,4]),([1,2,3,4,5,0],[1,3,4,5,0,2]),([1,2,3,4,5,0],[0,2,3,4,5,1]),([0,2,4,1,5,3],[1,3,0,5,2,4]),([0,2,4,5,3,1],[1,3,5,2,0,4]),([0,2,3,4,5,1],[1,3,4,5,0,2]),([0,2,3,4,5,1],[1,2,3,4,5,0]),([0,2,3,4,5,1],[1,0,2,3,4,5]),([1,2,3,4,5,0],[0,3,4,5,1,2]),([1,2,3,4,5,0],[1,2,3,5,0,4]),([1,2,3,4,5,0],[0,1,2,4,5,3]),([1,2,3,5,0,4],[0,1,4,2,5,3]),([1,2,4,0,5,3],[2,3,0,5,1,4]),([1,2,4,5,3,0],[1,3,5,2,0,4]),([1,0,3,4,5,2],[2,3,1,4,5,0]),([1,0,3,4,5,2],[2,3,1,0,4,5]),([1,0,3,5,2,4],[2,3,4,0,5,1]),([1,0,3,4,5,2],[2,3,4,5,1,0]),([1,2,3,4,5,0],[1,2,4,5,0,3]),([1,2,3,4,5,0],[0,1,3,4,5,2]),([1,2,3,4,5,0],[0,1,2,5,3,4]),([1,2,4,0,5,3],[1,3,0,5,2,4]),([1,2,4,5,3,0],[0,3,5,2,1,4]),([1,2,3,5,0,4],[2,3,4,0,5,1]),([0,1,2,4,5,3],[1,2,3,4,5,0]),([0,1,2,4,5,3],[1,2,3,0,4,5]),([0,1,2,4,5,3],[1,2,3,5,0,4]),([0,1,3,4,5,2],[1,2,0,3,4,5]),([0,1,3,5,2,4],[1,2,4,0,5,3]),([0,1,3,4,5,2],[1,2,4,5,0,3]),([0,1,3,4,5,2],[1,2,3,4,5,0])]
noncomputable def Co:List aR:=[([1,0,2,3,4,5],[2,1,3,4,5,0]),([1,2,0,3,4,5],[3,1,2,4,5,0]),([1,2,3,0,4,5],[4,1,2,3,5,0]),([1,2,3,4,0,5],[5,1,2,3,4,0])]
theorem NM{n:Nat}{q:aR}(h:q.1.Perm (upto n)/\q.2.Perm (upto n)/\∀x∈upto n,x∈bf q.1 q.2 0 n):Wh n q:=⟨⟨h.1,h.2.1⟩,fun x x0 x1=>Cv q.1 q.2 n x (h.2.2 x (lV.mpr ⟨x0,x1⟩))⟩
theorem NN:∀q∈sT ++ Co,q.1.Perm (upto 6)/\q.2.Perm (upto 6)/\∀x∈upto 6,x∈bf q.1 q.2 0 6:=by decide +kernel
theorem JH:∀q∈sT,bC 6 q=q:=by decide +kernel
theorem Te:sT.Nodup:=by decide +kernel
theorem Dl:∀q∈sT,bC 6 (Sh 1 q)∈sT/\bC 6 (Qt q)∈sT:=by decide +kernel
theorem NP:∀q∈Co,bC 6 q∈sT/\bC 6 q≠bC 6 (Sh 1 q):=by decide +kernel
theorem Dn:nK 6 sT:=⟨Te,fun q hq=>⟨NM (NN q (Xw _ hq)),JH q hq⟩,Dl⟩
theorem wm{q:aR}(h:q∈Co):Wh 6 q:=NM (NN q (WY _ h))
theorem Tf{p0 p:aR}{w:List Sp}(h:p0∈Co)(hw:∀s∈w,gX s)(wp:Wh 6 p)(a:bO 6 (iF p0 w) p):∃N,Full 6 p (ch 6 p N) N/\(∀j,j<N->j<(ch 6 p j).1.length)/\2<=N/\N<=60:=by
 have n0:0<6:=by decide
 have w0:=wm h;have wl:=w0.ld n0 (w:=w);have mem:∀u:List Sp,bC 6 (iF p u)∈sT:=fun u=>by
  have b:=bO.ld (w:=u) wl.v a;rw [<- Ah] at b;rw [<- pz n0 (w0.ld n0 (w:=w ++ u)).v b];exact Dn.ld n0 (w ++ u) p0 w0 (NP p0 h).1
 have key:∀m,(∃N,N<=m/\Full 6 p (ch 6 p N) N/\(∀j,j<N->j<(ch 6 p j).1.length))\/∀j,j<=m->j<(ch 6 p j).1.length:=fun m=>by
  induction m with
  |zero =>
   right;intro j hj;have:j=0:=by omega
   subst this;exact Nat.one_pos
  |succ m ih =>
   rcases ih with ⟨N,h1,h2,h3⟩|h
   ·exact .inl ⟨N,by omega,h2,h3⟩
   ·have g:=wg n0 wp (m+1) fun j hj=>h j (by omega)
    by_cases e:m+1<(ch 6 p (m+1)).1.length
    ·right
     intro j hj;rcases X8 j (m+1) with z|z
     ·exact h j (by omega)
     ·have:j=m+1:=by omega
      subst this;exact e
    ·have:=g.le
     exact .inl ⟨m+1,Wv _,{ toGC:=g,fl:=by omega },fun j hj=>h j (by omega)⟩
 rcases key 60 with ⟨N,h1,F,h3⟩|hk
 ·refine ⟨N,F,h3,?_,h1⟩
  have b:=bO.ld (w:=mr w) wl.v a;rw [<- Ah] at b
  have c:=Mw (u:=w ++ mr w) (w:=[]) (fun s hs=>by
   rcases WS.mp hs with h|h
   ·exact hw s h
   ·exact IU hw s h) (fun s hs=>nomatch hs) (IV hw) w0.v
  have wb:=(w0.ld n0 (w:=w ++ mr w)).v;have e1:bC 6 (iF p (mr w))=bC 6 p0:=(pz n0 wb b).symm.trans (pz n0 wb c);have al:=Tb n0 (wp.ld n0 (w:=mr w)) w0 e1;have e2:bC 6 (iF p (mr w ++ [(true,1)]))=bC 6 (Sh 1 p0):=by
   rw [Ah];exact pz n0 ((wp.ld n0 (w:=mr w)).sh n0 1).v (bO.sh (wp.ld n0 (w:=mr w)).v al 1)
  have m1:=F.word n0 wp (mr w);have m2:=F.word n0 wp (mr w ++ [(true,1)]);rw [e1] at m1;rw [e2] at m2;have:=Aw (m:=[bC 6 p0,bC 6 (Sh 1 p0)]) (l:=(ch 6 p N).1) (Xc.mpr ⟨fun z=>(NP p0 h).2 (WK.mp z),Xc.mpr ⟨(fun z=>nomatch z),List.nodup_nil⟩⟩) fun x hx=>by
   rcases WT.mp hx with rfl|hx
   ·exact m1
   ·rw [WK.mp hx];exact m2
  rw [F.fl] at this;exact this
 ·have g:=wg n0 wp 60 fun j hj=>hk j (by omega)
  have Tg:=hk 60 (Wv _);generalize ch 6 p 60=C at g Tg;have:=Aw (l:=sT) g.r.nd fun q hq=>by
   obtain ⟨k,hk⟩:=Xa hq;have hl:k<C.2.1.length:=by rw [g.r.wl];exact (Wq.mp hk).1
   obtain ⟨_,_,_,q',hq',aq⟩:=g.r.wd k _ (Wr hl);rw [hk] at hq';cases hq';have:=mem C.2.1[k];rw [pz n0 (wp.ld n0 (w:=C.2.1[k])).v aq,(g.r.own q hq).2] at this;exact this
  have:sT.length=36:=rfl;omega
end ag
namespace L4
open PySem PySem.Spec L2
section
variable {K:Zfr}
theorem NQ{n m:Nat}{F:List D->Dm D}{ta:TA}{fa:av->Dm (List D)}{E:XK}{nP:List V}{Dp:List D}(ha:qR K ta fa)(hn:∀δ st as st',fa δ st=some (as,st')->as.length=m)(hm:m+nP.length=n)(hd:∀ρ H,cY K ρ H nP Dp):gC K (oX (bP K n F) nP E ta) (aM (fun as=>F (as ++ Dp)) fa):=by
 intro ρ σ H δ st b st' Q l rs e q;obtain ⟨as,st1,e1,e⟩:=eU e;refine ha ρ σ H δ st as st1 _ l rs e1 fun vs H1 ρ1 m1 l1 r1=>⟨?_,ρ1,st1,as ++ Dp,b,st',l1,?_,e,fun v H3 ρ3 m3 l3 r3=>q v H3 ρ3 (m1.trans m3) l3 r3⟩
 ·rw [Wt,r1.length,hn _ _ _ _ e1];exact hm
 ·exact r1.append (hd _ _)
end
end L4
namespace My
local macro_rules|`(tactic| w_up)=>`(tactic| first|exact .inl rfl|exact .inr rfl|assumption)
local macro_rules|`(tactic| w_fin)=>`(tactic| decide +kernel)
local macro_rules|`(tactic| kspl_open $h)=>`(tactic| (refine L4.ck ?_;intro _ $h;set_option simprocs false in simp only [L4.bD]))
local macro_rules|`(tactic| w_how)=>`(tactic| set_option simprocs false in simp only [L4.bD])
open PySem L2 L4
theorem Ti:∀δ st as st',ai δ st=some (as,st')->as.length=0:=fun _ _ _ _ h=>Rw h
theorem l8{f1:av->Dm D}:∀δ st as st',ae f1 ai δ st=some (as,st')->as.length=1:=Fu Ti
theorem c5{f1 f2:av->Dm D}:∀δ st as st',ae f2 (ae f1 ai) δ st=some (as,st')->as.length=2:=Fu l8
theorem wo{f1 f2 f3:av->Dm D}:∀δ st as st',ae f3 (ae f2 (ae f1 ai)) δ st=some (as,st')->as.length=3:=Fu c5
theorem NR{f1 f2 f3 f4:av->Dm D}:∀δ st as st',ae f4 (ae f3 (ae f2 (ae f1 ai))) δ st=some (as,st')->as.length=4:=Fu wo
theorem b8{X:Cx}{k k':Nat}{f:Addr}{fd:FuncData}{ps:List Str}{sp:Sp}{x:Str}{st:Stmt}{e:Expr}{es:List Expr}{t:TA}{p pos:Pos}(F:aJ X.prog X.w X.K X.mg X.base bG k f fd ps sp)(D:Def X.K X.mg x st ps f fd)(hr:gW k' X.A)(hk:k<=k')(hg:Gl X x)(ha:PA X (e :: es) t)(hdb:(x == ("__debug__" : Str))=false:=by decide)(he:starEach (e :: es) X.env=(false,eval e X.env) :: starEach es X.env:=by rfl)(hpl:(backTo pos (starEach es X.env)).any (·.1)=false:=by rfl):PE X (.Call (.Name x p) (e :: es) [] pos) (oX sp [] E0 t):=K2 F (hr.mono hk) hg D.m D.F.kp D.b .nil rV ha hdb he hpl
theorem tU{fd:FuncData}{p0:Str}(k:∀x0,bindArgs fd ⟨[x0],[]⟩=pure [(p0,x0)])(us:List Value)(h:us.length=1):bindArgs fd ⟨us,[]⟩=pure ([p0].zip us):=match us,h with|[x0],_=>k x0
theorem mP{fd:FuncData}{p0 p1:Str}(k:∀x0 x1,bindArgs fd ⟨[x0,x1],[]⟩=pure [(p0,x0),(p1,x1)])(us:List Value)(h:us.length=2):bindArgs fd ⟨us,[]⟩=pure ([p0,p1].zip us):=match us,h with|[x0,x1],_=>k x0 x1
theorem Dq{fd:FuncData}{p0 p1 p2:Str}(k:∀x0 x1 x2,bindArgs fd ⟨[x0,x1,x2],[]⟩=pure [(p0,x0),(p1,x1),(p2,x2)])(us:List Value)(h:us.length=3):bindArgs fd ⟨us,[]⟩=pure ([p0,p1,p2].zip us):=match us,h with|[x0,x1,x2],_=>k x0 x1 x2
theorem Tj{fd:FuncData}{p0 p1 p2 p3:Str}(k:∀x0 x1 x2 x3,bindArgs fd ⟨[x0,x1,x2,x3],[]⟩=pure [(p0,x0),(p1,x1),(p2,x2),(p3,x3)])(us:List Value)(h:us.length=4):bindArgs fd ⟨us,[]⟩=pure ([p0,p1,p2,p3].zip us):=match us,h with|[x0,x1,x2,x3],_=>k x0 x1 x2 x3
noncomputable def top(i:Nat):Stmt:=PySem.Challenge.pw_shearfloor_k28_charts_looked_at.main.body.getD i (.Pass ⟨0,0,0,0⟩)
structure Txt(mg:Str->Option Value):Prop where
 sU:mg "bool" = none
 hU:mg "enumerate" = none
 Dr:mg "int" = none
 lM:mg "isinstance" = none
 bA:mg "len" = none
 cJ:mg "list" = none
 sW:mg "max" = none
 sX:mg "min" = none
 aX:mg "range" = none
 bx:mg "tuple" = none
section
variable {P:Program}{w:World}{K:Zfr}{mg:Str->Option Value}{base:Heap}
noncomputable def FQ:av->Dm Fl :=
 (aB (aL (aE eP (aE mG (fC (.int 7901)) (ah 1)) (fC (.int 24697))) (hName 2))
 (aB (eB (aI (aE rm (ah 1) (aM cq (ae (ah 0) ai)))) (aL (aE bM (ah 0) (ah 1)) (hName 2)) (eB (aI (aE vP (aM cq (ae (ah 0) ai)) (fC (.int 0)))) (aL (aE eP (aE mG (aE jL (aE bM (ah 0) (aE jL (ah 1) (aM cq (ae (ah 0) ai)))) (fC (.int 2147483629))) (fC (.int 31))) (aE mG (fC (.int 7901)) (ah 1))) (hName 2)) aW))
 (aB (aL (fC (.int 0)) (hName 3))
 (aB (eB (aI (aE CD (ah 2) (aE sD (fC (.int 10)) (fC (.int 18))))) (aL (ah 2) (hName 3)) aW)
 (bF (cO (ae (ah 3) (ae (aE eP (aE jL (aE sD (aE eP (aE mG (aE jL (ah 2) (fC (.int 2147483629))) (fC (.int 48271))) (aE mG (fC (.int 40692)) (ah 1))) (fC (.int 5))) (fC (.int 2147483629))) (fC (.int 1))) ai))))))))
noncomputable def zh:List D->Dm D:=g9 4 FQ
noncomputable def Ds:Stmt:=top 34
theorem Ax:aN ["_law_script","_law_k","_law_cell","_law_own"] ["_law_script","_law_k"] (az Ds):=⟨rfl,rfl,rfl,by w_fin,rfl,by w_fin,by w_fin⟩
theorem To{f:Addr}{fd:FuncData}(D:Def K mg "_law_feed" Ds ["_law_script","_law_k"] f fd)(T:Txt mg) :aJ P w K mg base bG 1 f fd ["_law_script","_law_k"] (bP K 2 zh):=by
 refine D.F.ok Ax (fun _ _ _ _ h=>h.1) (fun c A o s H v Q E hr h=>?_)
 refine ⟨_,(@a6 _ _ _ _ _ (@cn (i:=2) _ _ _ _ _ _ Ax.nd rfl (by w_up) (cL ml (cL uh aP (pv 1)) aP) (by rfl) (by w_up))
  (@a6 _ _ _ _ _ (@fW _ _ _ _ _ _ _ _ (dF ui (pv 1) (fL iD (by rfl) T.bA iE (@ao _ _ _ _ _ (pv 0) ax (by rfl))) (aK _)) (@bE _ _ _ (@cn (i:=2) _ _ _ _ _ _ Ax.nd rfl (by w_up) (@bQ _ _ _ _ _ _ _ iU (pv 0) (pv 1) (fun _ _=>rfl)) (by rfl) (by w_up))) (@bE _ _ _ (@fW _ _ _ _ _ _ _ _ (dF zW (fL iD (by rfl) T.bA iE (@ao _ _ _ _ _ (pv 0) ax (by rfl))) aP (aK _)) (@bE _ _ _ (@cn (i:=2) _ _ _ _ _ _ Ax.nd rfl (by w_up) (cL ml (cL uh (cL p8 (@bQ _ _ _ _ _ _ _ iU (pv 0) (cL p8 (pv 1) (fL iD (by rfl) T.bA iE (@ao _ _ _ _ _ (pv 0) ax (by rfl)))) (fun _ _=>rfl)) aP) aP) (cL uh aP (pv 1))) (by rfl) (by w_up))) gT)))
  (@a6 _ _ _ _ _ (@cn (i:=3) _ _ _ _ _ _ Ax.nd rfl (by w_up) aP (by rfl) (by w_up))
  (@a6 _ _ _ _ _ (@fW _ _ _ _ _ _ _ _ (dF u7 (pv 2) (cL KR aP aP) (aK _)) (@bE _ _ _ (@cn (i:=3) _ _ _ _ _ _ Ax.nd rfl (by w_up) (pv 2) (by rfl) (by w_up))) gT)
  (@bE _ _ _ (@eV _ _ _ _ (@jN _ _ _ _ (@ao _ _ _ _ _ (pv 3) (@ao _ _ _ _ _ (cL ml (cL p8 (cL KR (cL ml (cL uh (cL p8 (pv 2) aP) aP) (cL uh aP (pv 1))) aP) aP) aP) ax (by rfl)) (by rfl))))))))),?_⟩
 exact iZ (b:=FQ) (a7 (bL (aH mw (aH uC (aQ _) (aj 1)) (aQ _)) (aV 2))
  (a7 (fY (dD (aH uD (aj 1) (bS iG (au (aj 0) ay)))) (bL (aH fT (aj 0) (aj 1)) (aV 2)) (fY (dD (aH Ak (bS iG (au (aj 0) ay)) (aQ _))) (bL (aH mw (aH uC (aH qv (aH fT (aj 0) (aH qv (aj 1) (bS iG (au (aj 0) ay)))) (aQ _)) (aQ _)) (aH uC (aQ _) (aj 1))) (aV 2)) gU))
  (a7 (bL (aQ _) (aV 3))
  (a7 (fY (dD (aH vQ (aj 2) (aH MD (aQ _) (aQ _)))) (bL (aj 2) (aV 3)) gU)
  (eX (jP (au (aj 3) (au (aH mw (aH qv (aH MD (aH mw (aH uC (aH qv (aj 2) (aQ _)) (aQ _)) (aH uC (aQ _) (aj 1))) (aQ _)) (aQ _)) (aQ _)) ay)))))))) rfl h
noncomputable def FR:av->Dm Fl :=
 (aB (eB (aI (aE vP (aE bM (ah 0) (fC (.int 0))) (fC (.int 0)))) (aB (aL (aE jL (aE bM (ah 0) (fC (.int 0))) (ah 1)) (hName 2))
 (aB (aL (aE o6 (aE bM (ah 0) (fC (.int 0))) (ah 1)) (hSub (ah 0) (fC (.int 0))))
 (bF (ah 2)))) aW)
 (aB (aL (aE jL (aE mG (aE bM (ah 0) (fC (.int 1))) (fC (.int 48271))) (fC (.int 2147483647))) (hName 3))
 (aB (aL (aE eP (aE jL (aE eP (aE mG (ah 3) (fC (.int 40692))) (fC (.int 30103))) (fC (.int 2147483399))) (fC (.int 1))) (hSub (ah 0) (fC (.int 1))))
 (bF (aE jL (aE o6 (aE eP (aE mG (ah 3) (fC (.int 2147483647))) (aE bM (ah 0) (fC (.int 1)))) (fC (.int 8191))) (ah 1))))))
noncomputable def eE:List D->Dm D:=g9 4 FR
noncomputable def sY:Stmt:=top 35
theorem JI:aN ["_law_feed_here","_law_many","_law_digit","_law_one"] ["_law_feed_here","_law_many"] (az sY):=⟨rfl,rfl,rfl,by w_fin,rfl,by w_fin,by w_fin⟩
theorem Tp{f:Addr}{fd:FuncData}(D:Def K mg "_law_take" sY ["_law_feed_here","_law_many"] f fd)(T:Txt mg) :aJ P w K mg base bG 1 f fd ["_law_feed_here","_law_many"] (bP K 2 eE):=by
 refine D.F.ok JI (fun _ _ _ _ h=>h.1) (fun c A o s H v Q E hr h=>?_)
 refine ⟨_,(@a6 _ _ _ _ _ (@fW _ _ _ _ _ _ _ _ (dF zW (@bQ _ _ _ _ _ _ _ iU (pv 0) aP (fun _ _=>rfl)) aP (aK _)) (@a6 _ _ _ _ _ (@cn (i:=2) _ _ _ _ _ _ JI.nd rfl (by w_up) (cL p8 (@bQ _ _ _ _ _ _ _ iU (pv 0) aP (fun _ _=>rfl)) (pv 1)) (by rfl) (by w_up))
  (@a6 _ _ _ _ _ (oM (cL KQ (@bQ _ _ _ _ _ _ _ iU (pv 0) aP (fun _ _=>rfl)) (pv 1)) (pF (pv 0) aP pI))
  (@bE _ _ _ (@eV _ _ _ _ (pv 2))))) gT)
  (@a6 _ _ _ _ _ (@cn (i:=3) _ _ _ _ _ _ JI.nd rfl (by w_up) (cL p8 (cL uh (@bQ _ _ _ _ _ _ _ iU (pv 0) aP (fun _ _=>rfl)) aP) aP) (by rfl) (by w_up))
  (@a6 _ _ _ _ _ (oM (cL ml (cL p8 (cL ml (cL uh (pv 3) aP) aP) aP) aP) (pF (pv 0) aP pI))
  (@bE _ _ _ (@eV _ _ _ _ (cL p8 (cL KQ (cL ml (cL uh (pv 3) aP) (@bQ _ _ _ _ _ _ _ iU (pv 0) aP (fun _ _=>rfl))) aP) (pv 1))))))),?_⟩
 exact iZ (b:=FR) (a7 (fY (dD (aH Ak (aH fT (aj 0) (aQ _)) (aQ _))) (a7 (bL (aH qv (aH fT (aj 0) (aQ _)) (aj 1)) (aV 2))
  (a7 (bL (aH MC (aH fT (aj 0) (aQ _)) (aj 1)) (pQ (aj 0) (aQ _)))
  (eX (aj 2)))) gU)
  (a7 (bL (aH qv (aH uC (aH fT (aj 0) (aQ _)) (aQ _)) (aQ _)) (aV 3))
  (a7 (bL (aH mw (aH qv (aH mw (aH uC (aj 3) (aQ _)) (aQ _)) (aQ _)) (aQ _)) (pQ (aj 0) (aQ _)))
  (eX (aH qv (aH MC (aH mw (aH uC (aj 3) (aQ _)) (aH fT (aj 0) (aQ _))) (aQ _)) (aj 1)))))) rfl h
noncomputable def FT:av->Dm Fl :=
 (aB (aL (aM dc (ae (aM jg (ae (ah 1) ai)) ai)) (hName 2))
 (aB (aL (bu ai) (hName 3))
 (aB (jV (aI (aE (gD true) (ah 2) (cO ai))) (aL (aE jT (ah 3) (bu (ae (g7 "list" kW (ah 2) (ae (aM eE (ae (ah 0) (ae (aM cq (ae (ah 2) ai)) ai))) ai)) ai))) (hName 3)))
 (bF (ah 3)))))
noncomputable def oR:List D->Dm D:=g9 4 FT
noncomputable def wt:Stmt:=top 36
theorem FU:aN ["_law_feed_here","_law_n","_law_left","_law_found"] ["_law_feed_here","_law_n"] (az wt):=⟨rfl,rfl,rfl,by w_fin,rfl,by w_fin,by w_fin⟩
theorem Tq{f:Addr}{fd:FuncData}(D:Def K mg "_law_turning" wt ["_law_feed_here","_law_n"] f fd)(T:Txt mg)  {aS:Addr}{aT:FuncData}(aC:Def K mg "_law_take" sY ["_law_feed_here","_law_many"] aS aT)(aD:aJ P w K mg base bG 1 aS aT ["_law_feed_here","_law_many"] (bP K 2 eE)):aJ P w K mg base bG 2 f fd ["_law_feed_here","_law_n"] (bP K 2 oR):=by
 refine D.F.ok FU (fun _ _ _ _ h=>h.1) (fun c A o s H v Q E hr h=>?_);have hu:=hr.units
 refine ⟨_,(@a6 _ _ _ _ _ (@cn (i:=2) _ _ _ _ _ _ FU.nd rfl (by w_up) (d6 (qg rfl) (by rfl) T.cJ nQ (@ao _ _ _ _ _ (d6 EV (by rfl) T.aX qf (@ao _ _ _ _ _ (pv 1) ax (by rfl))) ax (by rfl))) (by rfl) (by w_up))
  (@a6 _ _ _ _ _ (@cn (i:=3) _ _ _ _ _ _ FU.nd rfl (by w_up) (@d5 _ _ _ _ _ ax) (by rfl) (by w_up))
  (@a6 _ _ _ _ _ (zU PassesOwn.never (dF (vz hu) (pv 2) (@jN _ _ _ _ ax) (aK _)) (@bE _ _ _ (@cn (i:=3) _ _ _ _ _ _ FU.nd rfl (by w_up) (cL xt (pv 3) (@d5 _ _ _ _ _ (@ao _ _ _ _ _ (lH PySem.F.plainAttrs_list PySem.F.slot_list_pop PySem.F.type_list_pop Lm (pv 2) (@ao _ _ _ _ _ (b8 aD aC hr (by decide) rfl (@ao _ _ _ _ _ (pv 0) (@ao _ _ _ _ _ (fL iD (by rfl) T.bA iE (@ao _ _ _ _ _ (pv 2) ax (by rfl))) ax (by rfl)) (by rfl))) ax (by rfl))) ax (by rfl)))) (by rfl) (by w_up))))
  (@bE _ _ _ (@eV _ _ _ _ (pv 3)))))),?_⟩
 exact iZ (b:=FT) (a7 (bL (bS qx (au (bS Fz (au (aj 1) ay)) ay)) (aV 2))
  (a7 (bL (d7 ay) (aV 3))
  (a7 (Ap (dD (aH (sE true) (aj 2) (jP ay))) (bL (aH yb (aj 3) (d7 (au (kQ MJ (aj 2) (au (b7 (F:=eE) (au (aj 0) (au (bS iG (au (aj 2) ay)) ay)) c5) ay)) ay))) (aV 3)))
  (eX (aj 3))))) rfl h
noncomputable def FV:av->Dm Fl :=
 (aB (aL (cO (ae (fC (.int 0)) ai)) (hName 1))
 (aB (dE (cz (ae (aE eP (fC (.int 1)) (aM cq (ae (aE bh (ah 0) (fC (.int 0))) ai))) ai)) (hName 2) (dE (d4 (ah 0)) (hName 3) (dE (jW (aM lJ (ae (ah 1) ai))) (hName 4) (eB (aI (aE (rn true) (aE bh (ah 3) (ah 4)) (ah 1))) (cb (g7 "list" bp (ah 1) (ae (aE bh (ah 3) (ah 4)) ai))) aW))))
 (bF (ah 1))))
noncomputable def uM:List D->Dm D:=g9 5 FV
noncomputable def Dt:Stmt:=top 37
theorem Du:aN ["_law_floor_here","_law_found","_law_turn","_law_turning_here","_law_one"] ["_law_floor_here"] (az Dt):=⟨rfl,rfl,rfl,by w_fin,rfl,by w_fin,by w_fin⟩
theorem Tr{f:Addr}{fd:FuncData}(D:Def K mg "_law_met" Dt ["_law_floor_here"] f fd)(T:Txt mg) :aJ P w K mg base bG 1 f fd ["_law_floor_here"] (bP K 1 uM):=by
 refine D.F.ok Du (fun _ _ _ _ h=>h.1) (fun c A o s H v Q E hr h=>?_)
 refine ⟨_,(@a6 _ _ _ _ _ (@cn (i:=1) _ _ _ _ _ _ Du.nd rfl (by w_up) (@jN _ _ _ _ (@ao _ _ _ _ _ aP ax (by rfl))) (by rfl) (by w_up))
  (@a6 _ _ _ _ _ (@lQ _ _ _ _ _ _ _ _ PassesOwn.never rfl (oW rfl T.aX (@ao _ _ _ _ _ (cL ml aP (fL iD (by rfl) T.bA iE (@ao _ _ _ _ _ (@bQ _ _ _ _ _ _ _ fw (pv 0) aP (fun _ _=>rfl)) ax (by rfl)))) ax (by rfl))) (dC (i:=2) Du.nd rfl (by w_up)) (@bE _ _ _ (@lQ _ _ _ _ _ _ _ _ PassesOwn.never rfl (pk (pv 0)) (dC (i:=3) Du.nd rfl (by w_up)) (@bE _ _ _ (@lQ _ _ _ _ _ _ _ _ PassesOwn.never rfl (Bm (d6 zY (by rfl) T.cJ nQ (@ao _ _ _ _ _ (pv 1) ax (by rfl)))) (dC (i:=4) Du.nd rfl (by w_up)) (@bE _ _ _ (@fW _ _ _ _ _ _ _ _ (dF EO (@bQ _ _ _ _ _ _ _ fw (pv 3) (pv 4) (fun _ _=>rfl)) (pv 1) (by with_unfolding_all rfl)) (@bE _ _ _ (mJ (lH PySem.F.plainAttrs_list PySem.F.slot_list_append PySem.F.type_list_append og (pv 1) (@ao _ _ _ _ _ (@bQ _ _ _ _ _ _ _ fw (pv 3) (pv 4) (fun _ _=>rfl)) ax (by rfl))))) gT)) (by intro _;rfl))) (by intro _;rfl))) (by intro _;rfl))
  (@bE _ _ _ (@eV _ _ _ _ (pv 1))))),?_⟩
 exact iZ (b:=FV) (a7 (bL (jP (au (aQ _) ay)) (aV 1))
  (a7 (lZ (o9 (au (aH mw (aQ _) (bS iG (au (aH dO (aj 0) (aQ _)) ay))) ay)) (aV 2) (lZ (pB (aj 0)) (aV 3) (lZ (CI (bS Ao (au (aj 1) ay))) (aV 4) (fY (dD (aH (CG true) (aH dO (aj 3) (aj 4)) (aj 1))) (mM (kQ ou (aj 1) (au (aH dO (aj 3) (aj 4)) ay))) gU))))
  (eX (aj 1)))) rfl h
noncomputable def FW:av->Dm Fl :=
 (aB (aL (aM eE (ae (ah 0) (ae (fC (.int 6)) ai))) (hName 2))
 (aB (sG 3 4 (ae (aM lJ (ae (aM oR (ae (ah 0) (ae (ah 1) ai))) ai)) (ae (aM lJ (ae (aM oR (ae (ah 0) (ae (ah 1) ai))) ai)) ai)))
 (aB (eB (aI (aE (iS false) (ah 2) (fC (.int 0)))) (aL (aE kJ (aM dc (ae (aM dk (ae (fC (.int 1)) (ae (ah 1) ai))) ai)) (cO (ae (fC (.int 0)) ai))) (hName 3)) aW)
 (aB (eB (aI (aE (iS false) (ah 2) (fC (.int 1)))) (sG 3 4 (ae (aM dc (ae (aM jg (ae (ah 1) ai)) ai)) (ae (aE kJ (aM dc (ae (aM dk (ae (fC (.int 1)) (ae (ah 1) ai))) ai)) (cO (ae (fC (.int 0)) ai))) ai))) aW)
 (aB (eB (aI (aE (iS false) (ah 2) (fC (.int 2)))) (aB (aL (aE eP (fC (.int 1)) (aM eE (ae (ah 0) (ae (ah 1) ai)))) (hName 5))
 (aB (aL (aE kJ (aE kJ (aM dc (ae (aM dk (ae (fC (.int 1)) (ae (ah 5) ai))) ai)) (cO (ae (fC (.int 0)) ai))) (aM dc (ae (aM dk (ae (ah 5) (ae (ah 1) ai))) ai))) (hName 3))
 (aB (aL (vN pP (aE kJ (aE kJ (aE kJ (cO (ae (ah 5) ai)) (aM dc (ae (aM dk (ae (fC (.int 1)) (ae (ah 5) ai))) ai))) (aM dc (ae (aM dk (ae (aE eP (ah 5) (fC (.int 1))) (ae (ah 1) ai))) ai))) (cO (ae (fC (.int 0)) ai))) jf (mv (ah 1))) (hName 4))
 (eB (aI (aE (iS false) (ah 5) (ah 1))) (aL (aM dc (ae (aM jg (ae (ah 1) ai)) ai)) (hName 4)) aW)))) aW)
 (aB (aL (bu (ae (aM bK (ae (ah 3) ai)) (ae (aM bK (ae (ah 4) ai)) ai))) (hName 6))
 (aB (aL (dw (cz (ae (ah 1) ai)) 1 [6] (hName 0) (aI (aE (rn true) (ah 0) (aM uM (ae (ah 1) ai)))) (ah 0)) (hName 7))
 (aB (jV (aI (aE (gD true) (ah 7) (cO ai))) (aB (aL (aE bM (ah 7) (fC (.int 0))) (hName 8))
 (aB (aL (bu (ae (aE bM (ah 3) (ah 8)) (ae (aE bM (ah 3) (fC (.int 0))) ai))) (jU 2 (bU (hSub (ah 3) (fC (.int 0))) (bU (hSub (ah 3) (ah 8)) kK))))
 (aB (aL (bu (ae (aM bK (ae (ah 3) ai)) (ae (aM bK (ae (ah 4) ai)) ai))) (hName 6))
 (aL (dw (cz (ae (ah 1) ai)) 1 [6] (hName 0) (aI (aE (rn true) (ah 0) (aM uM (ae (ah 1) ai)))) (ah 0)) (hName 7))))))
 (bF (ah 6))))))))))
noncomputable def rC:List D->Dm D:=g9 9 FW
noncomputable def Ay:Stmt:=top 38
theorem qF:aN ["_law_feed_here","_law_n","_law_form_here","_law_right","_law_up","_law_wide","_law_found","_law_apart","_law_m"] ["_law_feed_here","_law_n"] (az Ay):=⟨rfl,rfl,rfl,by w_fin,rfl,by w_fin,by w_fin⟩
theorem Ts{f:Addr}{fd:FuncData}(D:Def K mg "_law_floor" Ay ["_law_feed_here","_law_n"] f fd)(T:Txt mg)  {aS:Addr}{aT:FuncData}(aC:Def K mg "_law_take" sY ["_law_feed_here","_law_many"] aS aT)(aD:aJ P w K mg base bG 1 aS aT ["_law_feed_here","_law_many"] (bP K 2 eE)){a8:Addr}{a9:FuncData}(aU:Def K mg "_law_turning" wt ["_law_feed_here","_law_n"] a8 a9)(aY:aJ P w K mg base bG 2 a8 a9 ["_law_feed_here","_law_n"] (bP K 2 oR)){ko:Addr}{kq:FuncData}(i6:Def K mg "_law_met" Dt ["_law_floor_here"] ko kq)(kr:aJ P w K mg base bG 1 ko kq ["_law_floor_here"] (bP K 1 uM)):aJ P w K mg base bG 3 f fd ["_law_feed_here","_law_n"] (bP K 2 rC):=by
 refine D.F.ok qF (fun _ _ _ _ h=>h.1) (fun c A o s H v Q E hr h=>?_);have hu:=hr.units
 refine ⟨_,(@a6 _ _ _ _ _ (@cn (i:=2) _ _ _ _ _ _ qF.nd rfl (by w_up) (b8 aD aC hr (by decide) rfl (@ao _ _ _ _ _ (pv 0) (@ao _ _ _ _ _ aP ax (by rfl)) (by rfl))) (by rfl) (by w_up))
  (@a6 _ _ _ _ _ (KH (i:=3) (j:=4) rfl qF.nd rfl rfl (by decide) rfl rfl (@ao _ _ _ _ _ (d6 zY (by rfl) T.cJ nQ (@ao _ _ _ _ _ (b8 aY aU hr (by decide) rfl (@ao _ _ _ _ _ (pv 0) (@ao _ _ _ _ _ (pv 1) ax (by rfl)) (by rfl))) ax (by rfl))) (@ao _ _ _ _ _ (d6 zY (by rfl) T.cJ nQ (@ao _ _ _ _ _ (b8 aY aU hr (by decide) rfl (@ao _ _ _ _ _ (pv 0) (@ao _ _ _ _ _ (pv 1) ax (by rfl)) (by rfl))) ax (by rfl))) ax (by rfl)) (by rfl)) rfl)
  (@a6 _ _ _ _ _ (@fW _ _ _ _ _ _ _ _ (dF lS (pv 2) aP (aK _)) (@bE _ _ _ (@cn (i:=3) _ _ _ _ _ _ qF.nd rfl (by w_up) (cL qL (d6 (qg rfl) (by rfl) T.cJ nQ (@ao _ _ _ _ _ (d6 tw (by rfl) T.aX qf (@ao _ _ _ _ _ aP (@ao _ _ _ _ _ (pv 1) ax (by rfl)) (by rfl))) ax (by rfl))) (@jN _ _ _ _ (@ao _ _ _ _ _ aP ax (by rfl)))) (by rfl) (by w_up))) gT)
  (@a6 _ _ _ _ _ (@fW _ _ _ _ _ _ _ _ (dF lS (pv 2) aP (aK _)) (@bE _ _ _ (KH (i:=3) (j:=4) rfl qF.nd rfl rfl (by decide) rfl rfl (@ao _ _ _ _ _ (d6 (qg rfl) (by rfl) T.cJ nQ (@ao _ _ _ _ _ (d6 EV (by rfl) T.aX qf (@ao _ _ _ _ _ (pv 1) ax (by rfl))) ax (by rfl))) (@ao _ _ _ _ _ (cL qL (d6 (qg rfl) (by rfl) T.cJ nQ (@ao _ _ _ _ _ (d6 tw (by rfl) T.aX qf (@ao _ _ _ _ _ aP (@ao _ _ _ _ _ (pv 1) ax (by rfl)) (by rfl))) ax (by rfl))) (@jN _ _ _ _ (@ao _ _ _ _ _ aP ax (by rfl)))) ax (by rfl)) (by rfl)) rfl)) gT)
  (@a6 _ _ _ _ _ (@fW _ _ _ _ _ _ _ _ (dF lS (pv 2) aP (aK _)) (@a6 _ _ _ _ _ (@cn (i:=5) _ _ _ _ _ _ qF.nd rfl (by w_up) (cL ml aP (b8 aD aC hr (by decide) rfl (@ao _ _ _ _ _ (pv 0) (@ao _ _ _ _ _ (pv 1) ax (by rfl)) (by rfl)))) (by rfl) (by w_up))
  (@a6 _ _ _ _ _ (@cn (i:=3) _ _ _ _ _ _ qF.nd rfl (by w_up) (cL qL (cL qL (d6 (qg rfl) (by rfl) T.cJ nQ (@ao _ _ _ _ _ (d6 tw (by rfl) T.aX qf (@ao _ _ _ _ _ aP (@ao _ _ _ _ _ (pv 5) ax (by rfl)) (by rfl))) ax (by rfl))) (@jN _ _ _ _ (@ao _ _ _ _ _ aP ax (by rfl)))) (d6 (qg rfl) (by rfl) T.cJ nQ (@ao _ _ _ _ _ (d6 tw (by rfl) T.aX qf (@ao _ _ _ _ _ (pv 5) (@ao _ _ _ _ _ (pv 1) ax (by rfl)) (by rfl))) ax (by rfl)))) (by rfl) (by w_up))
  (@a6 _ _ _ _ _ (@cn (i:=4) _ _ _ _ _ _ qF.nd rfl (by w_up) (Bz EN (cL qL (cL qL (cL qL (@jN _ _ _ _ (@ao _ _ _ _ _ (pv 5) ax (by rfl))) (d6 (qg rfl) (by rfl) T.cJ nQ (@ao _ _ _ _ _ (d6 tw (by rfl) T.aX qf (@ao _ _ _ _ _ aP (@ao _ _ _ _ _ (pv 5) ax (by rfl)) (by rfl))) ax (by rfl)))) (d6 (qg rfl) (by rfl) T.cJ nQ (@ao _ _ _ _ _ (d6 tw (by rfl) T.aX qf (@ao _ _ _ _ _ (cL ml (pv 5) aP) (@ao _ _ _ _ _ (pv 1) ax (by rfl)) (by rfl))) ax (by rfl)))) (@jN _ _ _ _ (@ao _ _ _ _ _ aP ax (by rfl)))) Bx (By (pv 1))) (by rfl) (by w_up))
  (@bE _ _ _ (@fW _ _ _ _ _ _ _ _ (dF lS (pv 5) (pv 1) (aK _)) (@bE _ _ _ (@cn (i:=4) _ _ _ _ _ _ qF.nd rfl (by w_up) (d6 (qg rfl) (by rfl) T.cJ nQ (@ao _ _ _ _ _ (d6 EV (by rfl) T.aX qf (@ao _ _ _ _ _ (pv 1) ax (by rfl))) ax (by rfl))) (by rfl) (by w_up))) gT))))) gT)
  (@a6 _ _ _ _ _ (@cn (i:=6) _ _ _ _ _ _ qF.nd rfl (by w_up) (@d5 _ _ _ _ _ (@ao _ _ _ _ _ (d6 mD (by rfl) T.bx mq (@ao _ _ _ _ _ (pv 3) ax (by rfl))) (@ao _ _ _ _ _ (d6 mD (by rfl) T.bx mq (@ao _ _ _ _ _ (pv 4) ax (by rfl))) ax (by rfl)) (by rfl))) (by rfl) (by w_up))
  (@a6 _ _ _ _ _ (EZ (i:=7) (own:=["_law_s"]) (fr:=["_law_found"]) (js:=[6]) rfl qF.nd rfl rfl ⟨⟨rfl,by w_fin,by w_fin,by dsimp only [gw,bg,Cx.nA,Cx.wish,PyProof.Rows.envOfC,compEnvC,relabel,Env.kindOf];decide +kernel,by w_fin⟩,rfl⟩ (oW rfl T.aX (@ao _ _ _ _ _ (pv 1) ax (by rfl))) (fun _ _ _ _ _=>(dC (i:=0) (show ((["_law_s"]:List Str) ++ (["_law_found"]:List Str)).Nodup by w_fin) rfl (by w_up))) (fun _ _ _ _ _=>(LC (dF (LK (K:=K) rfl) (pv 0) (b8 kr i6 hr (by decide) rfl (@ao _ _ _ _ _ (pv 1) ax (by rfl))) (by with_unfolding_all rfl)))) (fun _ _ _ _ _=>(pv 0)))
  (@a6 _ _ _ _ _ (zU PassesOwn.never (dF (vz hu) (pv 7) (@jN _ _ _ _ ax) (aK _)) (@a6 _ _ _ _ _ (@cn (i:=8) _ _ _ _ _ _ qF.nd rfl (by w_up) (@bQ _ _ _ _ _ _ _ iU (pv 7) aP (fun _ _=>rfl)) (by rfl) (by w_up))
  (@a6 _ _ _ _ _ (oM (@d5 _ _ _ _ _ (@ao _ _ _ _ _ (@bQ _ _ _ _ _ _ _ iU (pv 3) (pv 8) (fun _ _=>rfl)) (@ao _ _ _ _ _ (@bQ _ _ _ _ _ _ _ iU (pv 3) aP (fun _ _=>rfl)) ax (by rfl)) (by rfl))) (p7 (n:=2) rfl (kl (pF (pv 3) aP pI) (kl (pF (pv 3) (pv 8) pI) p6))))
  (@a6 _ _ _ _ _ (@cn (i:=6) _ _ _ _ _ _ qF.nd rfl (by w_up) (@d5 _ _ _ _ _ (@ao _ _ _ _ _ (d6 mD (by rfl) T.bx mq (@ao _ _ _ _ _ (pv 3) ax (by rfl))) (@ao _ _ _ _ _ (d6 mD (by rfl) T.bx mq (@ao _ _ _ _ _ (pv 4) ax (by rfl))) ax (by rfl)) (by rfl))) (by rfl) (by w_up))
  (@bE _ _ _ (EZ (i:=7) (own:=["_law_s"]) (fr:=["_law_found"]) (js:=[6]) rfl qF.nd rfl rfl ⟨⟨rfl,by w_fin,by w_fin,by dsimp only [gw,bg,Cx.nA,Cx.wish,PyProof.Rows.envOfC,compEnvC,relabel,Env.kindOf];decide +kernel,by w_fin⟩,rfl⟩ (oW rfl T.aX (@ao _ _ _ _ _ (pv 1) ax (by rfl))) (fun _ _ _ _ _=>(dC (i:=0) (show ((["_law_s"]:List Str) ++ (["_law_found"]:List Str)).Nodup by w_fin) rfl (by w_up))) (fun _ _ _ _ _=>(LC (dF (LK (K:=K) rfl) (pv 0) (b8 kr i6 hr (by decide) rfl (@ao _ _ _ _ _ (pv 1) ax (by rfl))) (by with_unfolding_all rfl)))) (fun _ _ _ _ _=>(pv 0))))))))
  (@bE _ _ _ (@eV _ _ _ _ (pv 6))))))))))),?_⟩
 exact iZ (b:=FW) (a7 (bL (b7 (F:=eE) (au (aj 0) (au (aQ _) ay)) c5) (aV 2))
  (a7 (ML (au (bS Ao (au (b7 (F:=oR) (au (aj 0) (au (aj 1) ay)) c5) ay)) (au (bS Ao (au (b7 (F:=oR) (au (aj 0) (au (aj 1) ay)) c5) ay)) ay)))
  (a7 (fY (dD (aH lY (aj 2) (aQ _))) (bL (aH qU (bS qx (au (bS tP (au (aQ _) (au (aj 1) ay))) ay)) (jP (au (aQ _) ay))) (aV 3)) gU)
  (a7 (fY (dD (aH lY (aj 2) (aQ _))) (ML (au (bS qx (au (bS Fz (au (aj 1) ay)) ay)) (au (aH qU (bS qx (au (bS tP (au (aQ _) (au (aj 1) ay))) ay)) (jP (au (aQ _) ay))) ay))) gU)
  (a7 (fY (dD (aH lY (aj 2) (aQ _))) (a7 (bL (aH mw (aQ _) (b7 (F:=eE) (au (aj 0) (au (aj 1) ay)) c5)) (aV 5))
  (a7 (bL (aH qU (aH qU (bS qx (au (bS tP (au (aQ _) (au (aj 5) ay))) ay)) (jP (au (aQ _) ay))) (bS qx (au (bS tP (au (aj 5) (au (aj 1) ay))) ay))) (aV 3))
  (a7 (bL (CC Fx (aH qU (aH qU (aH qU (jP (au (aj 5) ay)) (bS qx (au (bS tP (au (aQ _) (au (aj 5) ay))) ay))) (bS qx (au (bS tP (au (aH mw (aj 5) (aQ _)) (au (aj 1) ay))) ay))) (jP (au (aQ _) ay))) CA (CB (aj 1))) (aV 4))
  (fY (dD (aH lY (aj 5) (aj 1))) (bL (bS qx (au (bS Fz (au (aj 1) ay)) ay)) (aV 4)) gU)))) gU)
  (a7 (bL (d7 (au (bS mx (au (aj 3) ay)) (au (bS mx (au (aj 4) ay)) ay))) (aV 6))
  (a7 (bL (pC (o9 (au (aj 1) ay)) (aV 0) (dD (aH (CG true) (aj 0) (b7 (F:=uM) (au (aj 1) ay) l8))) (aj 0)) (aV 7))
  (a7 (Ap (dD (aH (sE true) (aj 7) (jP ay))) (a7 (bL (aH fT (aj 7) (aQ _)) (aV 8))
  (a7 (bL (d7 (au (aH fT (aj 3) (aj 8)) (au (aH fT (aj 3) (aQ _)) ay))) (qz (kn (pQ (aj 3) (aQ _)) (kn (pQ (aj 3) (aj 8)) qy))))
  (a7 (bL (d7 (au (bS mx (au (aj 3) ay)) (au (bS mx (au (aj 4) ay)) ay))) (aV 6))
  (bL (pC (o9 (au (aj 1) ay)) (aV 0) (dD (aH (CG true) (aj 0) (b7 (F:=uM) (au (aj 1) ay) l8))) (aj 0)) (aV 7))))))
  (eX (aj 6)))))))))) rfl h
noncomputable def FX:av->Dm Fl :=
 (aB (aL (cO (ae (ah 1) ai)) (hName 2))
 (aB (dE (jW (aM dc (ae (aM jg (ae (aM cq (ae (aE bh (ah 0) (fC (.int 0))) ai)) ai)) ai))) (hName 3) (dE (d4 (ah 0)) (hName 4) (eB (qT (aI (aE rm (ah 3) (aM cq (ae (ah 2) ai)))) (aI (aE (rn true) (aE bh (ah 4) (aE bM (ah 2) (ah 3))) (ah 2)))) (cb (g7 "list" bp (ah 2) (ae (aE bh (ah 4) (aE bM (ah 2) (ah 3))) ai))) aW)))
 (bF (aM bK (ae (dw (d4 (ah 0)) 1 [2] (hName 0) eC (aM bK (ae (dw (jW (ah 1)) 1 [0,1] (hName 0) eC (g7 "list" g8 (ah 2) (ae (aE bh (ah 1) (ah 0)) ai))) ai))) ai)))))
noncomputable def Dv:List D->Dm D:=g9 5 FX
noncomputable def Dw:Stmt:=top 43
theorem FY:aN ["_law_floor_here","_law_s","_law_called","_law_one","_law_turning_here"] ["_law_floor_here","_law_s"] (az Dw):=⟨rfl,rfl,rfl,by w_fin,rfl,by w_fin,by w_fin⟩
theorem Tt{f:Addr}{fd:FuncData}(D:Def K mg "_law_numbered" Dw ["_law_floor_here","_law_s"] f fd)(T:Txt mg) :aJ P w K mg base bG 1 f fd ["_law_floor_here","_law_s"] (bP K 2 Dv):=by
 refine D.F.ok FY (fun _ _ _ _ h=>h.1) (fun c A o s H v Q E hr h=>?_)
 refine ⟨_,(@a6 _ _ _ _ _ (@cn (i:=2) _ _ _ _ _ _ FY.nd rfl (by w_up) (@jN _ _ _ _ (@ao _ _ _ _ _ (pv 1) ax (by rfl))) (by rfl) (by w_up))
  (@a6 _ _ _ _ _ (@lQ _ _ _ _ _ _ _ _ PassesOwn.never rfl (Bm (d6 (qg rfl) (by rfl) T.cJ nQ (@ao _ _ _ _ _ (d6 EV (by rfl) T.aX qf (@ao _ _ _ _ _ (fL iD (by rfl) T.bA iE (@ao _ _ _ _ _ (@bQ _ _ _ _ _ _ _ fw (pv 0) aP (fun _ _=>rfl)) ax (by rfl))) ax (by rfl))) ax (by rfl)))) (dC (i:=3) FY.nd rfl (by w_up)) (@bE _ _ _ (@lQ _ _ _ _ _ _ _ _ PassesOwn.never rfl (pk (pv 0)) (dC (i:=4) FY.nd rfl (by w_up)) (@bE _ _ _ (@fW _ _ _ _ _ _ _ _ (PW.pt (Hm (dF ui (pv 3) (fL iD (by rfl) T.bA iE (@ao _ _ _ _ _ (pv 2) ax (by rfl))) (aK _)) (Hl (dF EO (@bQ _ _ _ _ _ _ _ fw (pv 4) (@bQ _ _ _ _ _ _ _ iU (pv 2) (pv 3) (fun _ _=>rfl)) (fun _ _=>rfl)) (pv 2) (by with_unfolding_all rfl))))) (@bE _ _ _ (mJ (lH PySem.F.plainAttrs_list PySem.F.slot_list_append PySem.F.type_list_append og (pv 2) (@ao _ _ _ _ _ (@bQ _ _ _ _ _ _ _ fw (pv 4) (@bQ _ _ _ _ _ _ _ iU (pv 2) (pv 3) (fun _ _=>rfl)) (fun _ _=>rfl)) ax (by rfl))))) gT)) (by intro _;rfl))) (by intro _;rfl))
  (@bE _ _ _ (@eV _ _ _ _ (d6 mD (by rfl) T.bx mq (@ao _ _ _ _ _ (rh (own:=["_law_turning_here"]) (fr:=["_law_called"]) (js:=[2]) rfl ⟨⟨rfl,by w_fin,by w_fin,by dsimp only [gw,bg,Cx.nA,Cx.wish,PyProof.Rows.envOfC,compEnvC,relabel,Env.kindOf];decide +kernel,by w_fin⟩,rfl⟩ (pk (pv 0)) (fun _ _ _ _ _=>(dC (i:=0) (show ((["_law_turning_here"]:List Str) ++ (["_law_called"]:List Str)).Nodup by w_fin) rfl (by w_up))) (fun _ _ _ _ _=>qh) (fun _ _ _ _ _=>(d6 (LL (K:=K) rfl) (by rfl) T.bx mq (@ao _ _ _ _ _ (rh (own:=["_law_one"]) (fr:=["_law_turning_here","_law_called"]) (js:=[0,1]) rfl ⟨MP ⟨rfl,by w_fin,by w_fin,by dsimp only [gw,Cx.nA,Cx.wish,PyProof.Rows.envOfC];decide +kernel,by w_fin⟩,rfl⟩ (Qd (K:=K) rfl (pv 1)) (fun _ _ _ _ _=>(dC (i:=0) (show ((["_law_one"]:List Str) ++ (["_law_turning_here","_law_called"]:List Str)).Nodup by w_fin) rfl (by w_up))) (fun _ _ _ _ _=>qh) (fun _ _ _ _ _=>(E6 (K:=K) rfl PySem.F.plainAttrs_list PySem.F.slot_list_index PySem.F.type_list_index (Sz (K:=K) rfl) (pv 2) (@ao _ _ _ _ _ (@bQ _ _ _ _ _ _ _ (tI (K:=K) rfl) (pv 1) (pv 0) (fun _ _=>rfl)) ax (by rfl))))) ax (by rfl))))) ax (by rfl))))))),?_⟩
 exact iZ (b:=FX) (a7 (bL (jP (au (aj 1) ay)) (aV 2))
  (a7 (lZ (CI (bS qx (au (bS Fz (au (bS iG (au (aH dO (aj 0) (aQ _)) ay)) ay)) ay))) (aV 3) (lZ (pB (aj 0)) (aV 4) (fY (Ja (dD (aH uD (aj 3) (bS iG (au (aj 2) ay)))) (dD (aH (CG true) (aH dO (aj 4) (aH fT (aj 2) (aj 3))) (aj 2)))) (mM (kQ ou (aj 2) (au (aH dO (aj 4) (aH fT (aj 2) (aj 3))) ay))) gU)))
  (eX (bS mx (au (pC (pB (aj 0)) (aV 0) qA (bS mx (au (pC (CI (aj 1)) (aV 0) qA (kQ Jr (aj 2) (au (aH dO (aj 1) (aj 0)) ay))) ay))) ay))))) rfl h
noncomputable def FZ:av->Dm Fl :=
 (bF (aM my (ae (dw (cz (ae (aM cq (ae (aE bh (ah 0) (fC (.int 0))) ai)) ai)) 1 [0] (hName 0) eC (aM Dv (ae (ah 1) (ae (ah 0) ai)))) ai)))
noncomputable def nX:List D->Dm D:=g9 1 FZ
noncomputable def Az:Stmt:=top 44
theorem Tv:aN ["_law_floor_here"] ["_law_floor_here"] (az Az):=⟨rfl,rfl,rfl,by w_fin,rfl,by w_fin,by w_fin⟩
theorem Tw{f:Addr}{fd:FuncData}(D:Def K mg "_law_form" Az ["_law_floor_here"] f fd)(T:Txt mg)  {eG:Addr}{eI:FuncData}(eJ:Def K mg "_law_numbered" Dw ["_law_floor_here","_law_s"] eG eI)(gH:aJ P w K mg base bG 1 eG eI ["_law_floor_here","_law_s"] (bP K 2 Dv)):aJ P w K mg base bG 2 f fd ["_law_floor_here"] (bP K 1 nX):=by
 refine D.F.ok Tv (fun _ _ _ _ h=>h.1) (fun c A o s H v Q E hr h=>?_);have hu:=hr.units;refine ⟨_,(@bE _ _ _ (@eV _ _ _ _ (fL (LV rfl hu) (by rfl) T.sX HM (@ao _ _ _ _ _ (rh (own:=["_law_s"]) (fr:=["_law_floor_here"]) (js:=[0]) rfl ⟨⟨rfl,by w_fin,by w_fin,by dsimp only [gw,bg,Cx.nA,Cx.wish,PyProof.Rows.envOfC,compEnvC,relabel,Env.kindOf];decide +kernel,by w_fin⟩,rfl⟩ (oW rfl T.aX (@ao _ _ _ _ _ (fL iD (by rfl) T.bA iE (@ao _ _ _ _ _ (@bQ _ _ _ _ _ _ _ fw (pv 0) aP (fun _ _=>rfl)) ax (by rfl))) ax (by rfl))) (fun _ _ _ _ _=>(dC (i:=0) (show ((["_law_s"]:List Str) ++ (["_law_floor_here"]:List Str)).Nodup by w_fin) rfl (by w_up))) (fun _ _ _ _ _=>qh) (fun _ _ _ _ _=>(b8 gH eJ hr (by decide) rfl (@ao _ _ _ _ _ (pv 1) (@ao _ _ _ _ _ (pv 0) ax (by rfl)) (by rfl))))) ax (by rfl))))),?_⟩;exact iZ (b:=FZ) (eX (bS Np (au (pC (o9 (au (bS iG (au (aH dO (aj 0) (aQ _)) ay)) ay)) (aV 0) qA (b7 (F:=Dv) (au (aj 1) (au (aj 0) ay)) c5)) ay))) rfl h
noncomputable def F0:av->Dm Fl :=
 (aB (eB (aI (aE rm (ah 2) (fC (.int 0)))) (aB (aL (aM bK (ae (dw (cz (ae (aM cq (ae (ah 0) ai)) ai)) 1 [0] (hName 0) eC (g7 "tuple" jh (ah 1) (ae (ah 0) ai))) ai)) (hName 0))
 (aL (aE mX (fC (.int 0)) (ah 2)) (hName 2))) aW)
 (aB (aL (cO (ae (ah 1) ai)) (hName 3))
 (aB (jV (aI (aE (iS true) (aE bh (ah 0) (aE bM (ah 3) (uB nH (fC (.int 1))))) (ah 1))) (cb (g7 "list" bp (ah 3) (ae (aE bh (ah 0) (aE bM (ah 3) (uB nH (fC (.int 1))))) ai))))
 (bF (aE bM (ah 3) (aE jL (ah 2) (aM cq (ae (ah 3) ai))))))))
noncomputable def Dx:List D->Dm D:=g9 4 F0
noncomputable def Dy:Stmt:=top 40
theorem F3:aN ["_law_turning_here","_law_s","_law_k","_law_ring"] ["_law_turning_here","_law_s","_law_k"] (az Dy):=⟨rfl,rfl,rfl,by w_fin,rfl,by w_fin,by w_fin⟩
theorem Tx{f:Addr}{fd:FuncData}(D:Def K mg "_law_behind" Dy ["_law_turning_here","_law_s","_law_k"] f fd)(T:Txt mg) :aJ P w K mg base bG 1 f fd ["_law_turning_here","_law_s","_law_k"] (bP K 3 Dx):=by
 refine D.F.ok F3 (fun _ _ _ _ h=>h.1) (fun c A o s H v Q E hr h=>?_)
 refine ⟨_,(@a6 _ _ _ _ _ (@fW _ _ _ _ _ _ _ _ (dF ui (pv 2) aP (aK _)) (@a6 _ _ _ _ _ (@cn (i:=0) _ _ _ _ _ _ F3.nd rfl (by w_up) (d6 mD (by rfl) T.bx mq (@ao _ _ _ _ _ (rh (own:=["_law_one"]) (fr:=["_law_turning_here"]) (js:=[0]) rfl ⟨⟨rfl,by w_fin,by w_fin,by dsimp only [gw,bg,Cx.nA,Cx.wish,PyProof.Rows.envOfC,compEnvC,relabel,Env.kindOf];decide +kernel,by w_fin⟩,rfl⟩ (oW rfl T.aX (@ao _ _ _ _ _ (fL iD (by rfl) T.bA iE (@ao _ _ _ _ _ (pv 0) ax (by rfl))) ax (by rfl))) (fun _ _ _ _ _=>(dC (i:=0) (show ((["_law_one"]:List Str) ++ (["_law_turning_here"]:List Str)).Nodup by w_fin) rfl (by w_up))) (fun _ _ _ _ _=>qh) (fun _ _ _ _ _=>(E6 (K:=K) rfl PySem.F.plainAttrs_tuple PySem.F.slot_tuple_index PySem.F.type_tuple_index (Il (K:=K) rfl) (pv 1) (@ao _ _ _ _ _ (pv 0) ax (by rfl))))) ax (by rfl))) (by rfl) (by w_up))
  (@bE _ _ _ (@cn (i:=2) _ _ _ _ _ _ F3.nd rfl (by w_up) (cL zV aP (pv 2)) (by rfl) (by w_up)))) gT)
  (@a6 _ _ _ _ _ (@cn (i:=3) _ _ _ _ _ _ F3.nd rfl (by w_up) (@jN _ _ _ _ (@ao _ _ _ _ _ (pv 1) ax (by rfl))) (by rfl) (by w_up))
  (@a6 _ _ _ _ _ (zU PassesOwn.never (dF EL (@bQ _ _ _ _ _ _ _ fw (pv 0) (@bQ _ _ _ _ _ _ _ iU (pv 3) (xa xb aP) (fun _ _=>rfl)) (fun _ _=>rfl)) (pv 1) (aK _)) (@bE _ _ _ (mJ (lH PySem.F.plainAttrs_list PySem.F.slot_list_append PySem.F.type_list_append og (pv 3) (@ao _ _ _ _ _ (@bQ _ _ _ _ _ _ _ fw (pv 0) (@bQ _ _ _ _ _ _ _ iU (pv 3) (xa xb aP) (fun _ _=>rfl)) (fun _ _=>rfl)) ax (by rfl))))))
  (@bE _ _ _ (@eV _ _ _ _ (@bQ _ _ _ _ _ _ _ iU (pv 3) (cL p8 (pv 2) (fL iD (by rfl) T.bA iE (@ao _ _ _ _ _ (pv 3) ax (by rfl)))) (fun _ _=>rfl))))))),?_⟩
 exact iZ (b:=F0) (a7 (fY (dD (aH uD (aj 2) (aQ _))) (a7 (bL (bS mx (au (pC (o9 (au (bS iG (au (aj 0) ay)) ay)) (aV 0) qA (kQ Jd (aj 1) (au (aj 0) ay))) ay)) (aV 0))
  (bL (aH Aj (aQ _) (aj 2)) (aV 2))) gU)
  (a7 (bL (jP (au (aj 1) ay)) (aV 3))
  (a7 (Ap (dD (aH Fw (aH dO (aj 0) (aH fT (aj 3) (xV xZ (aQ _)))) (aj 1))) (mM (kQ ou (aj 3) (au (aH dO (aj 0) (aH fT (aj 3) (xV xZ (aQ _)))) ay))))
  (eX (aH fT (aj 3) (aH qv (aj 2) (bS iG (au (aj 3) ay)))))))) rfl h
noncomputable def AA:av->Dm Fl :=
 (aB (aL (ah 0) (jU 2 (bU (hName 2) (bU (hName 3) kK))))
 (aB (eB (aI (aE (iS false) (aE bh (ah 1) (fC (.int 0))) (fC (.str "s")))) (bF (bu (ae (ah 2) (ae (aM bK (ae (dw (cz (ae (aM cq (ae (ah 3) ai)) ai)) 1 [1,2,3] (hName 0) eC (aE bh (ah 3) (aM Dx (ae (ah 2) (ae (ah 0) (ae (aE mX (fC (.int 0)) (aE bh (ah 1) (fC (.int 1)))) ai)))))) ai)) ai)))) aW)
 (aB (dE (cz (ae (aE jL (aE bh (ah 1) (fC (.int 1))) (fC (.int 4))) ai)) (hName 4) (aL (bu (ae (aM bK (ae (dw (cz (ae (aM cq (ae (ah 3) ai)) ai)) 1 [3] (hName 0) eC (g7 "tuple" jh (ah 1) (ae (ah 0) ai))) ai)) (ae (ah 2) ai))) (jU 2 (bU (hName 2) (bU (hName 3) kK)))))
 (bF (bu (ae (ah 2) (ae (ah 3) ai)))))))
noncomputable def pD:List D->Dm D:=g9 5 AA
noncomputable def zi:Stmt:=top 41
theorem AB:aN ["_law_floor_here","_law_step","_law_right","_law_up","_law_turn"] ["_law_floor_here","_law_step"] (az zi):=⟨rfl,rfl,rfl,by w_fin,rfl,by w_fin,by w_fin⟩
theorem Tz{f:Addr}{fd:FuncData}(D:Def K mg "_law_stepped" zi ["_law_floor_here","_law_step"] f fd)(T:Txt mg)  {fZ:Addr}{gb:FuncData}(gf:Def K mg "_law_behind" Dy ["_law_turning_here","_law_s","_law_k"] fZ gb)(jl:aJ P w K mg base bG 1 fZ gb ["_law_turning_here","_law_s","_law_k"] (bP K 3 Dx)):aJ P w K mg base bG 2 f fd ["_law_floor_here","_law_step"] (bP K 2 pD):=by
 refine D.F.ok AB (fun _ _ _ _ h=>h.1) (fun c A o s H v Q E hr h=>?_)
 refine ⟨_,(@a6 _ _ _ _ _ (oM (pv 0) (p7 (n:=2) rfl (kl (dC (i:=2) AB.nd rfl (by w_up)) (kl (dC (i:=3) AB.nd rfl (by w_up)) p6))))
  (@a6 _ _ _ _ _ (@fW _ _ _ _ _ _ _ _ (dF lS (@bQ _ _ _ _ _ _ _ fw (pv 1) aP (fun _ _=>rfl)) p5 (aK _)) (@bE _ _ _ (@eV _ _ _ _ (@d5 _ _ _ _ _ (@ao _ _ _ _ _ (pv 2) (@ao _ _ _ _ _ (d6 mD (by rfl) T.bx mq (@ao _ _ _ _ _ (rh (own:=["_law_s"]) (fr:=["_law_step","_law_right","_law_up"]) (js:=[1,2,3]) rfl ⟨⟨rfl,by w_fin,by w_fin,by dsimp only [gw,bg,Cx.nA,Cx.wish,PyProof.Rows.envOfC,compEnvC,relabel,Env.kindOf];decide +kernel,by w_fin⟩,rfl⟩ (oW rfl T.aX (@ao _ _ _ _ _ (fL iD (by rfl) T.bA iE (@ao _ _ _ _ _ (pv 3) ax (by rfl))) ax (by rfl))) (fun _ _ _ _ _=>(dC (i:=0) (show ((["_law_s"]:List Str) ++ (["_law_step","_law_right","_law_up"]:List Str)).Nodup by w_fin) rfl (by w_up))) (fun _ _ _ _ _=>qh) (fun _ _ _ _ _=>(@bQ _ _ _ _ _ _ _ (tI (K:=K) rfl) (pv 3) (b8 jl gf hr (by decide) rfl (@ao _ _ _ _ _ (pv 2) (@ao _ _ _ _ _ (pv 0) (@ao _ _ _ _ _ (cL zV aP (@bQ _ _ _ _ _ _ _ (tI (K:=K) rfl) (pv 1) aP (fun _ _=>rfl))) ax (by rfl)) (by rfl)) (by rfl))) (fun _ _=>rfl)))) ax (by rfl))) ax (by rfl)) (by rfl))))) gT)
  (@a6 _ _ _ _ _ (@lQ _ _ _ _ _ _ _ _ PassesOwn.never rfl (oW rfl T.aX (@ao _ _ _ _ _ (cL p8 (@bQ _ _ _ _ _ _ _ fw (pv 1) aP (fun _ _=>rfl)) aP) ax (by rfl))) (dC (i:=4) AB.nd rfl (by w_up)) (@bE _ _ _ (oM (@d5 _ _ _ _ _ (@ao _ _ _ _ _ (d6 mD (by rfl) T.bx mq (@ao _ _ _ _ _ (rh (own:=["_law_s"]) (fr:=["_law_up"]) (js:=[3]) rfl ⟨⟨rfl,by w_fin,by w_fin,by dsimp only [gw,bg,Cx.nA,Cx.wish,PyProof.Rows.envOfC,compEnvC,relabel,Env.kindOf];decide +kernel,by w_fin⟩,rfl⟩ (oW rfl T.aX (@ao _ _ _ _ _ (fL iD (by rfl) T.bA iE (@ao _ _ _ _ _ (pv 3) ax (by rfl))) ax (by rfl))) (fun _ _ _ _ _=>(dC (i:=0) (show ((["_law_s"]:List Str) ++ (["_law_up"]:List Str)).Nodup by w_fin) rfl (by w_up))) (fun _ _ _ _ _=>qh) (fun _ _ _ _ _=>(E6 (K:=K) rfl PySem.F.plainAttrs_tuple PySem.F.slot_tuple_index PySem.F.type_tuple_index (Il (K:=K) rfl) (pv 1) (@ao _ _ _ _ _ (pv 0) ax (by rfl))))) ax (by rfl))) (@ao _ _ _ _ _ (pv 2) ax (by rfl)) (by rfl))) (p7 (n:=2) rfl (kl (dC (i:=2) AB.nd rfl (by w_up)) (kl (dC (i:=3) AB.nd rfl (by w_up)) p6))))) (by intro _;rfl))
  (@bE _ _ _ (@eV _ _ _ _ (@d5 _ _ _ _ _ (@ao _ _ _ _ _ (pv 2) (@ao _ _ _ _ _ (pv 3) ax (by rfl)) (by rfl)))))))),?_⟩
 exact iZ (b:=AA) (a7 (bL (aj 0) (qz (kn (aV 2) (kn (aV 3) qy))))
  (a7 (fY (dD (aH lY (aH dO (aj 1) (aQ _)) (qu _))) (eX (d7 (au (aj 2) (au (bS mx (au (pC (o9 (au (bS iG (au (aj 3) ay)) ay)) (aV 0) qA (aH dO (aj 3) (b7 (F:=Dx) (au (aj 2) (au (aj 0) (au (aH Aj (aQ _) (aH dO (aj 1) (aQ _))) ay))) wo))) ay)) ay)))) gU)
  (a7 (lZ (o9 (au (aH qv (aH dO (aj 1) (aQ _)) (aQ _)) ay)) (aV 4) (bL (d7 (au (bS mx (au (pC (o9 (au (bS iG (au (aj 3) ay)) ay)) (aV 0) qA (kQ Jd (aj 1) (au (aj 0) ay))) ay)) (au (aj 2) ay))) (qz (kn (aV 2) (kn (aV 3) qy)))))
  (eX (d7 (au (aj 2) (au (aj 3) ay))))))) rfl h
noncomputable def F4:av->Dm Fl :=
 (aB (aL (cO ai) (hName 1))
 (aB (dE (d4 (ah 0)) (jU 2 (bU (hName 2) (bU (hName 3) kK))) (aB (eB (qT (aI (aE (gD true) (ah 1) (cO ai))) (aI (aE (iS false) (aE bh (aE bM (ah 1) (uB nH (fC (.int 1)))) (fC (.int 0))) (ah 2)))) (aL (aE eP (aE bh (sP "list" sR (ah 1)) (fC (.int 1))) (ah 3)) (hName 3)) aW)
 (aB (eB (aI (aE (iS false) (ah 2) (fC (.str "t")))) (aL (aE jL (ah 3) (fC (.int 4))) (hName 3)) aW)
 (eB (aI (aE (iS true) (ah 3) (fC (.int 0)))) (cb (g7 "list" bp (ah 1) (ae (bu (ae (ah 2) (ae (ah 3) ai))) ai))) aW))))
 (bF (aM bK (ae (ah 1) ai)))))
noncomputable def AE:List D->Dm D:=g9 4 F4
noncomputable def Dz:Stmt:=top 46
theorem AF:aN ["_law_word_here","_law_found","_law_letter","_law_k"] ["_law_word_here"] (az Dz):=⟨rfl,rfl,rfl,by w_fin,rfl,by w_fin,by w_fin⟩
theorem TB{f:Addr}{fd:FuncData}(D:Def K mg "_law_plain" Dz ["_law_word_here"] f fd)(T:Txt mg) :aJ P w K mg base bG 1 f fd ["_law_word_here"] (bP K 1 AE):=by
 refine D.F.ok AF (fun _ _ _ _ h=>h.1) (fun c A o s H v Q E hr h=>?_);have hu:=hr.units
 refine ⟨_,(@a6 _ _ _ _ _ (@cn (i:=1) _ _ _ _ _ _ AF.nd rfl (by w_up) (@jN _ _ _ _ ax) (by rfl) (by w_up))
  (@a6 _ _ _ _ _ (@lQ _ _ _ _ _ _ _ _ PassesOwn.never rfl (pk (pv 0)) (p7 (n:=2) rfl (kl (dC (i:=2) AF.nd rfl (by w_up)) (kl (dC (i:=3) AF.nd rfl (by w_up)) p6))) (@a6 _ _ _ _ _ (@fW _ _ _ _ _ _ _ _ (PW.pt (Hm (dF (vz hu) (pv 1) (@jN _ _ _ _ ax) (aK _)) (Hl (dF lS (@bQ _ _ _ _ _ _ _ fw (@bQ _ _ _ _ _ _ _ iU (pv 1) (xa xb aP) (fun _ _=>rfl)) aP (fun _ _=>rfl)) (pv 2) (aK _))))) (@bE _ _ _ (@cn (i:=3) _ _ _ _ _ _ AF.nd rfl (by w_up) (cL ml (@bQ _ _ _ _ _ _ _ fw (Li PySem.F.plainAttrs_list PySem.F.slot_list_pop PySem.F.type_list_pop Ll (pv 1)) aP (fun _ _=>rfl)) (pv 3)) (by rfl) (by w_up))) gT)
  (@a6 _ _ _ _ _ (@fW _ _ _ _ _ _ _ _ (dF lS (pv 2) p5 (aK _)) (@bE _ _ _ (@cn (i:=3) _ _ _ _ _ _ AF.nd rfl (by w_up) (cL p8 (pv 3) aP) (by rfl) (by w_up))) gT)
  (@bE _ _ _ (@fW _ _ _ _ _ _ _ _ (dF EL (pv 3) aP (aK _)) (@bE _ _ _ (mJ (lH PySem.F.plainAttrs_list PySem.F.slot_list_append PySem.F.type_list_append og (pv 1) (@ao _ _ _ _ _ (@d5 _ _ _ _ _ (@ao _ _ _ _ _ (pv 2) (@ao _ _ _ _ _ (pv 3) ax (by rfl)) (by rfl))) ax (by rfl))))) gT)))) (by intro _;rfl))
  (@bE _ _ _ (@eV _ _ _ _ (d6 mD (by rfl) T.bx mq (@ao _ _ _ _ _ (pv 1) ax (by rfl))))))),?_⟩
 exact iZ (b:=F4) (a7 (bL (jP ay) (aV 1))
  (a7 (lZ (pB (aj 0)) (qz (kn (aV 2) (kn (aV 3) qy))) (a7 (fY (Ja (dD (aH (sE true) (aj 1) (jP ay))) (dD (aH lY (aH dO (aH fT (aj 1) (xV xZ (aQ _))) (aQ _)) (aj 2)))) (bL (aH mw (aH dO (Nu NC (aj 1)) (aQ _)) (aj 3)) (aV 3)) gU)
  (a7 (fY (dD (aH lY (aj 2) (qu _))) (bL (aH qv (aj 3) (aQ _)) (aV 3)) gU)
  (fY (dD (aH Fw (aj 3) (aQ _))) (mM (kQ ou (aj 1) (au (d7 (au (aj 2) (au (aj 3) ay))) ay))) gU))))
  (eX (bS mx (au (aj 1) ay))))) rfl h
noncomputable def F5:av->Dm Fl :=
 (aB (aL (cO (ae (aM nX (ae (ah 0) ai)) ai)) (hName 2))
 (aB (aL (cO (ae (bu ai) ai)) (hName 3))
 (aB (aL (cO ai) (hName 4))
 (aB (dE (cz (ae (ah 1) ai)) (hName 5) (eB (aI (aE rm (ah 5) (aM cq (ae (ah 2) ai)))) (aB (cb (g7 "list" bp (ah 4) (ae (cO ai) ai)))
 (aB (dE (d4 (bu (ae (bu (ae (fC (.str "s")) (ae (fC (.int 1)) ai))) (ae (bu (ae (fC (.str "t")) (ae (fC (.int 1)) ai))) ai)))) (hName 6) (aB (aL (aM nX (ae (aM pD (ae (aE bM (ah 2) (ah 5)) (ae (ah 6) ai))) ai)) (hName 7))
 (aB (eB (aI (aE (nJ true) (ah 7) (ah 2))) (aB (cb (g7 "list" bp (ah 2) (ae (ah 7) ai)))
 (cb (g7 "list" bp (ah 3) (ae (aM AE (ae (aE jT (aE bM (ah 3) (ah 5)) (bu (ae (ah 6) ai))) ai)) ai)))) aW)
 (cb (g7 "list" bp (aE bM (ah 4) (ah 5)) (ae (g7 "list" fz (ah 2) (ae (ah 7) ai)) ai))))))
 (eB (aI (aE vP (aM cq (ae (ah 2) ai)) (ah 1))) (bF (fC .non)) aW))) aW))
 (bF (aM bK (ae (dw (cz (ae (aM cq (ae (ah 2) ai)) ai)) 1 [2,3,4] (hName 0) eC (bu (ae (aE bM (ah 1) (ah 0)) (ae (aE bM (ah 2) (ah 0)) (ae (aE bM (aE bM (ah 3) (ah 0)) (fC (.int 0))) (ae (aE bM (aE bM (ah 3) (ah 0)) (fC (.int 1))) ai)))))) ai)))))))
noncomputable def zj:List D->Dm D:=g9 8 F5
noncomputable def DA:Stmt:=top 47
theorem zk:aN ["_law_floor_here","_law_most","_law_forms","_law_words","_law_links","_law_at","_law_step","_law_fresh"] ["_law_floor_here","_law_most"] (az DA):=⟨rfl,rfl,rfl,by w_fin,rfl,by w_fin,by w_fin⟩
theorem TC{f:Addr}{fd:FuncData}(D:Def K mg "_law_chart" DA ["_law_floor_here","_law_most"] f fd)(T:Txt mg)  {dP:Addr}{dQ:FuncData}(cu:Def K mg "_law_form" Az ["_law_floor_here"] dP dQ)(cB:aJ P w K mg base bG 2 dP dQ ["_law_floor_here"] (bP K 1 nX)){bH:Addr}{bI:FuncData}(bJ:Def K mg "_law_stepped" zi ["_law_floor_here","_law_step"] bH bI)(bX:aJ P w K mg base bG 2 bH bI ["_law_floor_here","_law_step"] (bP K 2 pD)){hV:Addr}{hW:FuncData}(h7:Def K mg "_law_plain" Dz ["_law_word_here"] hV hW)(jZ:aJ P w K mg base bG 1 hV hW ["_law_word_here"] (bP K 1 AE)):aJ P w K mg base bG 3 f fd ["_law_floor_here","_law_most"] (bP K 2 zj):=by
 refine D.F.ok zk (fun _ _ _ _ h=>h.1) (fun c A o s H v Q E hr h=>?_);have hu:=hr.units
 refine ⟨_,(@a6 _ _ _ _ _ (@cn (i:=2) _ _ _ _ _ _ zk.nd rfl (by w_up) (@jN _ _ _ _ (@ao _ _ _ _ _ (b8 cB cu hr (by decide) rfl (@ao _ _ _ _ _ (pv 0) ax (by rfl))) ax (by rfl))) (by rfl) (by w_up))
  (@a6 _ _ _ _ _ (@cn (i:=3) _ _ _ _ _ _ zk.nd rfl (by w_up) (@jN _ _ _ _ (@ao _ _ _ _ _ (@d5 _ _ _ _ _ ax) ax (by rfl))) (by rfl) (by w_up))
  (@a6 _ _ _ _ _ (@cn (i:=4) _ _ _ _ _ _ zk.nd rfl (by w_up) (@jN _ _ _ _ ax) (by rfl) (by w_up))
  (@a6 _ _ _ _ _ (@lQ _ _ _ _ _ _ _ _ PassesOwn.never rfl (oW rfl T.aX (@ao _ _ _ _ _ (pv 1) ax (by rfl))) (dC (i:=5) zk.nd rfl (by w_up)) (@bE _ _ _ (@fW _ _ _ _ _ _ _ _ (dF ui (pv 5) (fL iD (by rfl) T.bA iE (@ao _ _ _ _ _ (pv 2) ax (by rfl))) (aK _)) (@a6 _ _ _ _ _ (mJ (lH PySem.F.plainAttrs_list PySem.F.slot_list_append PySem.F.type_list_append og (pv 4) (@ao _ _ _ _ _ (@jN _ _ _ _ ax) ax (by rfl))))
  (@a6 _ _ _ _ _ (@lQ _ _ _ _ _ _ _ _ PassesOwn.never rfl (pk (@d5 _ _ _ _ _ (@ao _ _ _ _ _ (@d5 _ _ _ _ _ (@ao _ _ _ _ _ p5 (@ao _ _ _ _ _ aP ax (by rfl)) (by rfl))) (@ao _ _ _ _ _ (@d5 _ _ _ _ _ (@ao _ _ _ _ _ p5 (@ao _ _ _ _ _ aP ax (by rfl)) (by rfl))) ax (by rfl)) (by rfl)))) (dC (i:=6) zk.nd rfl (by w_up)) (@a6 _ _ _ _ _ (@cn (i:=7) _ _ _ _ _ _ zk.nd rfl (by w_up) (b8 cB cu hr (by decide) rfl (@ao _ _ _ _ _ (b8 bX bJ hr (by decide) rfl (@ao _ _ _ _ _ (@bQ _ _ _ _ _ _ _ iU (pv 2) (pv 5) (fun _ _=>rfl)) (@ao _ _ _ _ _ (pv 6) ax (by rfl)) (by rfl))) ax (by rfl))) (by rfl) (by w_up))
  (@a6 _ _ _ _ _ (@fW _ _ _ _ _ _ _ _ (dF (LP hu) (pv 7) (pv 2) (by with_unfolding_all rfl)) (@a6 _ _ _ _ _ (mJ (lH PySem.F.plainAttrs_list PySem.F.slot_list_append PySem.F.type_list_append og (pv 2) (@ao _ _ _ _ _ (pv 7) ax (by rfl))))
  (@bE _ _ _ (mJ (lH PySem.F.plainAttrs_list PySem.F.slot_list_append PySem.F.type_list_append og (pv 3) (@ao _ _ _ _ _ (b8 jZ h7 hr (by decide) rfl (@ao _ _ _ _ _ (cL xt (@bQ _ _ _ _ _ _ _ iU (pv 3) (pv 5) (fun _ _=>rfl)) (@d5 _ _ _ _ _ (@ao _ _ _ _ _ (pv 6) ax (by rfl)))) ax (by rfl))) ax (by rfl)))))) gT)
  (@bE _ _ _ (mJ (lH PySem.F.plainAttrs_list PySem.F.slot_list_append PySem.F.type_list_append og (@bQ _ _ _ _ _ _ _ iU (pv 4) (pv 5) (fun _ _=>rfl)) (@ao _ _ _ _ _ (lH PySem.F.plainAttrs_list PySem.F.slot_list_index PySem.F.type_list_index (LX hu) (pv 2) (@ao _ _ _ _ _ (pv 7) ax (by rfl))) ax (by rfl))))))) (by intro _;rfl))
  (@bE _ _ _ (@fW _ _ _ _ _ _ _ _ (dF zW (fL iD (by rfl) T.bA iE (@ao _ _ _ _ _ (pv 2) ax (by rfl))) (pv 1) (aK _)) (@bE _ _ _ (@eV _ _ _ _ Ky)) gT)))) gT)) (by intro _;rfl))
  (@bE _ _ _ (@eV _ _ _ _ (d6 mD (by rfl) T.bx mq (@ao _ _ _ _ _ (rh (own:=["_law_at"]) (fr:=["_law_forms","_law_words","_law_links"]) (js:=[2,3,4]) rfl ⟨⟨rfl,by w_fin,by w_fin,by dsimp only [gw,bg,Cx.nA,Cx.wish,PyProof.Rows.envOfC,compEnvC,relabel,Env.kindOf];decide +kernel,by w_fin⟩,rfl⟩ (oW rfl T.aX (@ao _ _ _ _ _ (fL iD (by rfl) T.bA iE (@ao _ _ _ _ _ (pv 2) ax (by rfl))) ax (by rfl))) (fun _ _ _ _ _=>(dC (i:=0) (show ((["_law_at"]:List Str) ++ (["_law_forms","_law_words","_law_links"]:List Str)).Nodup by w_fin) rfl (by w_up))) (fun _ _ _ _ _=>qh) (fun _ _ _ _ _=>(@d5 _ _ _ _ _ (@ao _ _ _ _ _ (@bQ _ _ _ _ _ _ _ (tH (K:=K) rfl) (pv 1) (pv 0) (fun _ _=>rfl)) (@ao _ _ _ _ _ (@bQ _ _ _ _ _ _ _ (tH (K:=K) rfl) (pv 2) (pv 0) (fun _ _=>rfl)) (@ao _ _ _ _ _ (@bQ _ _ _ _ _ _ _ (tH (K:=K) rfl) (@bQ _ _ _ _ _ _ _ (tH (K:=K) rfl) (pv 3) (pv 0) (fun _ _=>rfl)) aP (fun _ _=>rfl)) (@ao _ _ _ _ _ (@bQ _ _ _ _ _ _ _ (tH (K:=K) rfl) (@bQ _ _ _ _ _ _ _ (tH (K:=K) rfl) (pv 3) (pv 0) (fun _ _=>rfl)) aP (fun _ _=>rfl)) ax (by rfl)) (by rfl)) (by rfl)) (by rfl))))) ax (by rfl))))))))),?_⟩
 exact iZ (b:=F5) (a7 (bL (jP (au (b7 (F:=nX) (au (aj 0) ay) l8) ay)) (aV 2))
  (a7 (bL (jP (au (d7 ay) ay)) (aV 3))
  (a7 (bL (jP ay) (aV 4))
  (a7 (lZ (o9 (au (aj 1) ay)) (aV 5) (fY (dD (aH uD (aj 5) (bS iG (au (aj 2) ay)))) (a7 (mM (kQ ou (aj 4) (au (jP ay) ay)))
  (a7 (lZ (pB (d7 (au (d7 (au (qu _) (au (aQ _) ay))) (au (d7 (au (qu _) (au (aQ _) ay))) ay)))) (aV 6) (a7 (bL (b7 (F:=nX) (au (b7 (F:=pD) (au (aH fT (aj 2) (aj 5)) (au (aj 6) ay)) c5) ay) l8) (aV 7))
  (a7 (fY (dD (aH (FN true) (aj 7) (aj 2))) (a7 (mM (kQ ou (aj 2) (au (aj 7) ay)))
  (mM (kQ ou (aj 3) (au (b7 (F:=AE) (au (aH yb (aH fT (aj 3) (aj 5)) (d7 (au (aj 6) ay))) ay) l8) ay)))) gU)
  (mM (kQ ou (aH fT (aj 4) (aj 5)) (au (kQ Nw (aj 2) (au (aj 7) ay)) ay))))))
  (fY (dD (aH Ak (bS iG (au (aj 2) ay)) (aj 1))) (eX MA) gU))) gU))
  (eX (bS mx (au (pC (o9 (au (bS iG (au (aj 2) ay)) ay)) (aV 0) qA (d7 (au (aH fT (aj 1) (aj 0)) (au (aH fT (aj 2) (aj 0)) (au (aH fT (aH fT (aj 3) (aj 0)) (aQ _)) (au (aH fT (aH fT (aj 3) (aj 0)) (aQ _)) ay)))))) ay))))))) rfl h
noncomputable def F6:av->Dm Fl :=
 (bF (aM bK (ae (dw (d4 (ah 0)) 1 [1] (hName 0) eC (aM bK (ae (dw (cz (ae (aM cq (ae (ah 1) ai)) ai)) 1 [0,1] (hName 0) eC (aE bh (ah 2) (aE bh (ah 1) (g7 "tuple" jh (ah 2) (ae (ah 0) ai))))) ai))) ai)))
noncomputable def sZ:List D->Dm D:=g9 2 F6
noncomputable def zm:Stmt:=top 45
theorem TF:aN ["_law_floor_here","_law_p"] ["_law_floor_here","_law_p"] (az zm):=⟨rfl,rfl,rfl,by w_fin,rfl,by w_fin,by w_fin⟩
theorem TH{f:Addr}{fd:FuncData}(D:Def K mg "_law_anew" zm ["_law_floor_here","_law_p"] f fd)(T:Txt mg) :aJ P w K mg base bG 1 f fd ["_law_floor_here","_law_p"] (bP K 2 sZ):=by
 refine D.F.ok TF (fun _ _ _ _ h=>h.1) (fun c A o s H v Q E hr h=>?_);refine ⟨_,(@bE _ _ _ (@eV _ _ _ _ (d6 mD (by rfl) T.bx mq (@ao _ _ _ _ _ (rh (own:=["_law_turning_here"]) (fr:=["_law_p"]) (js:=[1]) rfl ⟨⟨rfl,by w_fin,by w_fin,by dsimp only [gw,bg,Cx.nA,Cx.wish,PyProof.Rows.envOfC,compEnvC,relabel,Env.kindOf];decide +kernel,by w_fin⟩,rfl⟩ (pk (pv 0)) (fun _ _ _ _ _=>(dC (i:=0) (show ((["_law_turning_here"]:List Str) ++ (["_law_p"]:List Str)).Nodup by w_fin) rfl (by w_up))) (fun _ _ _ _ _=>qh) (fun _ _ _ _ _=>(d6 (LL (K:=K) rfl) (by rfl) T.bx mq (@ao _ _ _ _ _ (rh (own:=["_law_s"]) (fr:=["_law_turning_here","_law_p"]) (js:=[0,1]) rfl ⟨MP ⟨rfl,by w_fin,by w_fin,by dsimp only [gw,Cx.nA,Cx.wish,PyProof.Rows.envOfC];decide +kernel,by w_fin⟩,rfl⟩ (oW rfl T.aX (@ao _ _ _ _ _ (fL (Qc (K:=K) rfl) (by rfl) T.bA iE (@ao _ _ _ _ _ (pv 1) ax (by rfl))) ax (by rfl))) (fun _ _ _ _ _=>(dC (i:=0) (show ((["_law_s"]:List Str) ++ (["_law_turning_here","_law_p"]:List Str)).Nodup by w_fin) rfl (by w_up))) (fun _ _ _ _ _=>qh) (fun _ _ _ _ _=>(@bQ _ _ _ _ _ _ _ (tI (K:=K) rfl) (pv 2) (@bQ _ _ _ _ _ _ _ (tI (K:=K) rfl) (pv 1) (E6 (K:=K) rfl PySem.F.plainAttrs_tuple PySem.F.slot_tuple_index PySem.F.type_tuple_index (Il (K:=K) rfl) (pv 2) (@ao _ _ _ _ _ (pv 0) ax (by rfl))) (fun _ _=>rfl)) (fun _ _=>rfl)))) ax (by rfl))))) ax (by rfl))))),?_⟩;exact iZ (b:=F6) (eX (bS mx (au (pC (pB (aj 0)) (aV 0) qA (bS mx (au (pC (o9 (au (bS iG (au (aj 1) ay)) ay)) (aV 0) qA (aH dO (aj 2) (aH dO (aj 1) (kQ Jd (aj 2) (au (aj 0) ay))))) ay))) ay))) rfl h
noncomputable def F7:av->Dm Fl :=
 (aB (dE (d4 (ah 1)) (hName 2) (aL (aM pD (ae (ah 0) (ae (ah 2) ai))) (hName 0)))
 (bF (ah 0)))
noncomputable def wu:List D->Dm D:=g9 3 F7
noncomputable def AG:Stmt:=top 42
theorem JJ:aN ["_law_floor_here","_law_word_here","_law_step"] ["_law_floor_here","_law_word_here"] (az AG):=⟨rfl,rfl,rfl,by w_fin,rfl,by w_fin,by w_fin⟩
theorem TJ{f:Addr}{fd:FuncData}(D:Def K mg "_law_led" AG ["_law_floor_here","_law_word_here"] f fd)(T:Txt mg)  {bH:Addr}{bI:FuncData}(bJ:Def K mg "_law_stepped" zi ["_law_floor_here","_law_step"] bH bI)(bX:aJ P w K mg base bG 2 bH bI ["_law_floor_here","_law_step"] (bP K 2 pD)):aJ P w K mg base bG 3 f fd ["_law_floor_here","_law_word_here"] (bP K 2 wu):=by
 refine D.F.ok JJ (fun _ _ _ _ h=>h.1) (fun c A o s H v Q E hr h=>?_)
 refine ⟨_,(@a6 _ _ _ _ _ (@lQ _ _ _ _ _ _ _ _ PassesOwn.never rfl (pk (pv 1)) (dC (i:=2) JJ.nd rfl (by w_up)) (@bE _ _ _ (@cn (i:=0) _ _ _ _ _ _ JJ.nd rfl (by w_up) (b8 bX bJ hr (by decide) rfl (@ao _ _ _ _ _ (pv 0) (@ao _ _ _ _ _ (pv 2) ax (by rfl)) (by rfl))) (by rfl) (by w_up))) (by intro _;rfl))
  (@bE _ _ _ (@eV _ _ _ _ (pv 0)))),?_⟩
 exact iZ (b:=F7) (a7 (lZ (pB (aj 1)) (aV 2) (bL (b7 (F:=pD) (au (aj 0) (au (aj 2) ay)) c5) (aV 0)))
  (eX (aj 0))) rfl h
noncomputable def F8:av->Dm Fl :=
 (aB (aL (aE sF (cO (ae (fC (.int 0)) ai)) (aM cq (ae (ah 0) ai))) (hName 1))
 (aB (dE (kX (ae (ah 0) ai)) (jU 2 (bU (hName 2) (bU (hName 3) kK))) (aL (ah 2) (hSub (ah 1) (ah 3))))
 (bF (aM bK (ae (ah 1) ai)))))
noncomputable def tf:List D->Dm D:=g9 4 F8
noncomputable def zo:Stmt:=top 5
theorem F9:aN ["turning","back","number","led"] ["turning"] (az zo):=⟨rfl,rfl,rfl,by w_fin,rfl,by w_fin,by w_fin⟩
theorem TK{f:Addr}{fd:FuncData}(D:Def K mg "turned_back" zo ["turning"] f fd)(T:Txt mg) :aJ P w K mg base bG 1 f fd ["turning"] (bP K 1 tf):=by
 refine D.F.ok F9 (fun _ _ _ _ h=>h.1) (fun c A o s H v Q E hr h=>?_)
 refine ⟨_,(@a6 _ _ _ _ _ (@cn (i:=1) _ _ _ _ _ _ F9.nd rfl (by w_up) (cL Ln (@jN _ _ _ _ (@ao _ _ _ _ _ aP ax (by rfl))) (fL iD (by rfl) T.bA iE (@ao _ _ _ _ _ (pv 0) ax (by rfl)))) (by rfl) (by w_up))
  (@a6 _ _ _ _ _ (@lQ _ _ _ _ _ _ _ _ PassesOwn.never rfl (E5 rfl T.hU (@ao _ _ _ _ _ (pv 0) ax (by rfl))) (p7 (n:=2) rfl (kl (dC (i:=2) F9.nd rfl (by w_up)) (kl (dC (i:=3) F9.nd rfl (by w_up)) p6))) (@bE _ _ _ (oM (pv 2) (pF (pv 1) (pv 3) pI))) (by intro _;rfl))
  (@bE _ _ _ (@eV _ _ _ _ (d6 mD (by rfl) T.bx mq (@ao _ _ _ _ _ (pv 1) ax (by rfl))))))),?_⟩
 exact iZ (b:=F8) (a7 (bL (aH MK (jP (au (aQ _) ay)) (bS iG (au (aj 0) ay))) (aV 1))
  (a7 (lZ (FC (au (aj 0) ay)) (qz (kn (aV 2) (kn (aV 3) qy))) (bL (aj 2) (pQ (aj 1) (aj 3))))
  (eX (bS mx (au (aj 1) ay))))) rfl h
noncomputable def Ga:av->Dm Fl :=
 (bF (aM bK (ae (dw (d4 (ah 0)) 1 [1] (hName 0) eC (aE bh (ah 1) (ah 0))) ai)))
noncomputable def qG:List D->Dm D:=g9 2 Ga
noncomputable def AH:Stmt:=top 4
theorem TL:aN ["one","other"] ["one","other"] (az AH):=⟨rfl,rfl,rfl,by w_fin,rfl,by w_fin,by w_fin⟩
theorem TM{f:Addr}{fd:FuncData}(D:Def K mg "followed" AH ["one","other"] f fd)(T:Txt mg) :aJ P w K mg base bG 1 f fd ["one","other"] (bP K 2 qG):=by
 refine D.F.ok TL (fun _ _ _ _ h=>h.1) (fun c A o s H v Q E hr h=>?_);refine ⟨_,(@bE _ _ _ (@eV _ _ _ _ (d6 mD (by rfl) T.bx mq (@ao _ _ _ _ _ (rh (own:=["number"]) (fr:=["other"]) (js:=[1]) rfl ⟨⟨rfl,by w_fin,by w_fin,by dsimp only [gw,bg,Cx.nA,Cx.wish,PyProof.Rows.envOfC,compEnvC,relabel,Env.kindOf];decide +kernel,by w_fin⟩,rfl⟩ (pk (pv 0)) (fun _ _ _ _ _=>(dC (i:=0) (show ((["number"]:List Str) ++ (["other"]:List Str)).Nodup by w_fin) rfl (by w_up))) (fun _ _ _ _ _=>qh) (fun _ _ _ _ _=>(@bQ _ _ _ _ _ _ _ (tI (K:=K) rfl) (pv 1) (pv 0) (fun _ _=>rfl)))) ax (by rfl))))),?_⟩;exact iZ (b:=Ga) (eX (bS mx (au (pC (pB (aj 0)) (aV 0) qA (aH dO (aj 1) (aj 0))) ay))) rfl h
noncomputable def Gb:av->Dm Fl :=
 (aB (aL (aM tf (ae (ah 1) ai)) (hName 2))
 (aB (aL (aM qG (ae (aM qG (ae (ah 2) (ae (aE bh (ah 0) (fC (.int 0))) ai))) (ae (ah 1) ai))) (hName 3))
 (aB (aL (aM qG (ae (aM qG (ae (ah 2) (ae (aE bh (ah 0) (fC (.int 1))) ai))) (ae (ah 1) ai))) (hName 4))
 (bF (bu (ae (ah 3) (ae (ah 4) ai)))))))
noncomputable def DB:List D->Dm D:=g9 5 Gb
noncomputable def DC:Stmt:=top 12
theorem Gd:aN ["floor","p","back","right","up"] ["floor","p"] (az DC):=⟨rfl,rfl,rfl,by w_fin,rfl,by w_fin,by w_fin⟩
theorem TN{f:Addr}{fd:FuncData}(D:Def K mg "called_anew" DC ["floor","p"] f fd)(T:Txt mg)  {bY:Addr}{bZ:FuncData}(b5:Def K mg "turned_back" zo ["turning"] bY bZ)(cm:aJ P w K mg base bG 1 bY bZ ["turning"] (bP K 1 tf)){eY:Addr}{eZ:FuncData}(c4:Def K mg "followed" AH ["one","other"] eY eZ)(dr:aJ P w K mg base bG 1 eY eZ ["one","other"] (bP K 2 qG)):aJ P w K mg base bG 2 f fd ["floor","p"] (bP K 2 DB):=by
 refine D.F.ok Gd (fun _ _ _ _ h=>h.1) (fun c A o s H v Q E hr h=>?_)
 refine ⟨_,(@a6 _ _ _ _ _ (@cn (i:=2) _ _ _ _ _ _ Gd.nd rfl (by w_up) (b8 cm b5 hr (by decide) rfl (@ao _ _ _ _ _ (pv 1) ax (by rfl))) (by rfl) (by w_up))
  (@a6 _ _ _ _ _ (@cn (i:=3) _ _ _ _ _ _ Gd.nd rfl (by w_up) (b8 dr c4 hr (by decide) rfl (@ao _ _ _ _ _ (b8 dr c4 hr (by decide) rfl (@ao _ _ _ _ _ (pv 2) (@ao _ _ _ _ _ (@bQ _ _ _ _ _ _ _ fw (pv 0) aP (fun _ _=>rfl)) ax (by rfl)) (by rfl))) (@ao _ _ _ _ _ (pv 1) ax (by rfl)) (by rfl))) (by rfl) (by w_up))
  (@a6 _ _ _ _ _ (@cn (i:=4) _ _ _ _ _ _ Gd.nd rfl (by w_up) (b8 dr c4 hr (by decide) rfl (@ao _ _ _ _ _ (b8 dr c4 hr (by decide) rfl (@ao _ _ _ _ _ (pv 2) (@ao _ _ _ _ _ (@bQ _ _ _ _ _ _ _ fw (pv 0) aP (fun _ _=>rfl)) ax (by rfl)) (by rfl))) (@ao _ _ _ _ _ (pv 1) ax (by rfl)) (by rfl))) (by rfl) (by w_up))
  (@bE _ _ _ (@eV _ _ _ _ (@d5 _ _ _ _ _ (@ao _ _ _ _ _ (pv 3) (@ao _ _ _ _ _ (pv 4) ax (by rfl)) (by rfl)))))))),?_⟩
 exact iZ (b:=Gb) (a7 (bL (b7 (F:=tf) (au (aj 1) ay) l8) (aV 2))
  (a7 (bL (b7 (F:=qG) (au (b7 (F:=qG) (au (aj 2) (au (aH dO (aj 0) (aQ _)) ay)) c5) (au (aj 1) ay)) c5) (aV 3))
  (a7 (bL (b7 (F:=qG) (au (b7 (F:=qG) (au (aj 2) (au (aH dO (aj 0) (aQ _)) ay)) c5) (au (aj 1) ay)) c5) (aV 4))
  (eX (d7 (au (aj 3) (au (aj 4) ay))))))) rfl h
noncomputable def Ge:av->Dm Fl :=
 (aB (aL (cO (ae (ah 1) ai)) (hName 2))
 (aB (aL (fC (.int 0)) (hName 3))
 (aB (jV (aI (aE rm (ah 3) (aM cq (ae (ah 2) ai)))) (aB (dE (d4 (ah 0)) (hName 4) (aB (aL (aE bh (ah 4) (aE bM (ah 2) (ah 3))) (hName 5))
 (eB (aI (aE (rn true) (ah 5) (ah 2))) (cb (g7 "list" bp (ah 2) (ae (ah 5) ai))) aW)))
 (aL (aE eP (ah 3) (fC (.int 1))) (hName 3))))
 (bF (aM bK (ae (ah 2) ai))))))
noncomputable def DE:List D->Dm D:=g9 6 Ge
noncomputable def DF:Stmt:=top 10
theorem AI:aN ["floor","s","squares","place","turning","reached"] ["floor","s"] (az DF):=⟨rfl,rfl,rfl,by w_fin,rfl,by w_fin,by w_fin⟩
theorem TQ{f:Addr}{fd:FuncData}(D:Def K mg "squares_from" DF ["floor","s"] f fd)(T:Txt mg) :aJ P w K mg base bG 1 f fd ["floor","s"] (bP K 2 DE):=by
 refine D.F.ok AI (fun _ _ _ _ h=>h.1) (fun c A o s H v Q E hr h=>?_)
 refine ⟨_,(@a6 _ _ _ _ _ (@cn (i:=2) _ _ _ _ _ _ AI.nd rfl (by w_up) (@jN _ _ _ _ (@ao _ _ _ _ _ (pv 1) ax (by rfl))) (by rfl) (by w_up))
  (@a6 _ _ _ _ _ (@cn (i:=3) _ _ _ _ _ _ AI.nd rfl (by w_up) aP (by rfl) (by w_up))
  (@a6 _ _ _ _ _ (zU PassesOwn.never (dF ui (pv 3) (fL iD (by rfl) T.bA iE (@ao _ _ _ _ _ (pv 2) ax (by rfl))) (aK _)) (@a6 _ _ _ _ _ (@lQ _ _ _ _ _ _ _ _ PassesOwn.never rfl (pk (pv 0)) (dC (i:=4) AI.nd rfl (by w_up)) (@a6 _ _ _ _ _ (@cn (i:=5) _ _ _ _ _ _ AI.nd rfl (by w_up) (@bQ _ _ _ _ _ _ _ fw (pv 4) (@bQ _ _ _ _ _ _ _ iU (pv 2) (pv 3) (fun _ _=>rfl)) (fun _ _=>rfl)) (by rfl) (by w_up))
  (@bE _ _ _ (@fW _ _ _ _ _ _ _ _ (dF EO (pv 5) (pv 2) (by with_unfolding_all rfl)) (@bE _ _ _ (mJ (lH PySem.F.plainAttrs_list PySem.F.slot_list_append PySem.F.type_list_append og (pv 2) (@ao _ _ _ _ _ (pv 5) ax (by rfl))))) gT))) (by intro _;rfl))
  (@bE _ _ _ (@cn (i:=3) _ _ _ _ _ _ AI.nd rfl (by w_up) (cL ml (pv 3) aP) (by rfl) (by w_up)))))
  (@bE _ _ _ (@eV _ _ _ _ (d6 mD (by rfl) T.bx mq (@ao _ _ _ _ _ (pv 2) ax (by rfl)))))))),?_⟩
 exact iZ (b:=Ge) (a7 (bL (jP (au (aj 1) ay)) (aV 2))
  (a7 (bL (aQ _) (aV 3))
  (a7 (Ap (dD (aH uD (aj 3) (bS iG (au (aj 2) ay)))) (a7 (lZ (pB (aj 0)) (aV 4) (a7 (bL (aH dO (aj 4) (aH fT (aj 2) (aj 3))) (aV 5))
  (fY (dD (aH (CG true) (aj 5) (aj 2))) (mM (kQ ou (aj 2) (au (aj 5) ay))) gU)))
  (bL (aH mw (aj 3) (aQ _)) (aV 3))))
  (eX (bS mx (au (aj 2) ay)))))) rfl h
noncomputable def Gf:av->Dm Fl :=
 (bF (aM tf (ae (aM DE (ae (ah 0) (ae (ah 1) ai))) ai)))
noncomputable def DG:List D->Dm D:=g9 2 Gf
noncomputable def DH:Stmt:=top 13
theorem TR:aN ["floor","s"] ["floor","s"] (az DH):=⟨rfl,rfl,rfl,by w_fin,rfl,by w_fin,by w_fin⟩
theorem TU{f:Addr}{fd:FuncData}(D:Def K mg "numbering_from" DH ["floor","s"] f fd)(T:Txt mg)  {bY:Addr}{bZ:FuncData}(b5:Def K mg "turned_back" zo ["turning"] bY bZ)(cm:aJ P w K mg base bG 1 bY bZ ["turning"] (bP K 1 tf)){fA:Addr}{fB:FuncData}(fD:Def K mg "squares_from" DF ["floor","s"] fA fB)(iK:aJ P w K mg base bG 1 fA fB ["floor","s"] (bP K 2 DE)):aJ P w K mg base bG 2 f fd ["floor","s"] (bP K 2 DG):=by
 refine D.F.ok TR (fun _ _ _ _ h=>h.1) (fun c A o s H v Q E hr h=>?_);refine ⟨_,(@bE _ _ _ (@eV _ _ _ _ (b8 cm b5 hr (by decide) rfl (@ao _ _ _ _ _ (b8 iK fD hr (by decide) rfl (@ao _ _ _ _ _ (pv 0) (@ao _ _ _ _ _ (pv 1) ax (by rfl)) (by rfl))) ax (by rfl))))),?_⟩;exact iZ (b:=Gf) (eX (b7 (F:=tf) (au (b7 (F:=DE) (au (aj 0) (au (aj 1) ay)) c5) ay) l8)) rfl h
noncomputable def Gg:av->Dm Fl :=
 (bF (aM DB (ae (ah 0) (ae (aM DG (ae (ah 0) (ae (ah 1) ai))) ai))))
noncomputable def DI:List D->Dm D:=g9 2 Gg
noncomputable def DJ:Stmt:=top 14
theorem TV:aN ["floor","s"] ["floor","s"] (az DJ):=⟨rfl,rfl,rfl,by w_fin,rfl,by w_fin,by w_fin⟩
theorem TX{f:Addr}{fd:FuncData}(D:Def K mg "numbered_from" DJ ["floor","s"] f fd)(T:Txt mg)  {gg:Addr}{gh:FuncData}(gi:Def K mg "called_anew" DC ["floor","p"] gg gh)(jm:aJ P w K mg base bG 2 gg gh ["floor","p"] (bP K 2 DB)){dG:Addr}{dH:FuncData}(dI:Def K mg "numbering_from" DH ["floor","s"] dG dH)(fN:aJ P w K mg base bG 2 dG dH ["floor","s"] (bP K 2 DG)):aJ P w K mg base bG 3 f fd ["floor","s"] (bP K 2 DI):=by
 refine D.F.ok TV (fun _ _ _ _ h=>h.1) (fun c A o s H v Q E hr h=>?_);refine ⟨_,(@bE _ _ _ (@eV _ _ _ _ (b8 jm gi hr (by decide) rfl (@ao _ _ _ _ _ (pv 0) (@ao _ _ _ _ _ (b8 fN dI hr (by decide) rfl (@ao _ _ _ _ _ (pv 0) (@ao _ _ _ _ _ (pv 1) ax (by rfl)) (by rfl))) ax (by rfl)) (by rfl))))),?_⟩;exact iZ (b:=Gg) (eX (b7 (F:=DB) (au (aj 0) (au (b7 (F:=DG) (au (aj 0) (au (aj 1) ay)) c5) ay)) c5)) rfl h
noncomputable def Gh:av->Dm Fl :=
 (bF (aM my (ae (dw (cz (ae (aM cq (ae (aE bh (ah 0) (fC (.int 0))) ai)) ai)) 1 [0] (hName 0) eC (aM DI (ae (ah 1) (ae (ah 0) ai)))) ai)))
noncomputable def nD:List D->Dm D:=g9 1 Gh
noncomputable def uN:Stmt:=top 15
theorem TY:aN ["floor"] ["floor"] (az uN):=⟨rfl,rfl,rfl,by w_fin,rfl,by w_fin,by w_fin⟩
theorem T1{f:Addr}{fd:FuncData}(D:Def K mg "form_of" uN ["floor"] f fd)(T:Txt mg)  {eK:Addr}{eM:FuncData}(eO:Def K mg "numbered_from" DJ ["floor","s"] eK eM)(gI:aJ P w K mg base bG 3 eK eM ["floor","s"] (bP K 2 DI)):aJ P w K mg base bG 4 f fd ["floor"] (bP K 1 nD):=by
 refine D.F.ok TY (fun _ _ _ _ h=>h.1) (fun c A o s H v Q E hr h=>?_);have hu:=hr.units;refine ⟨_,(@bE _ _ _ (@eV _ _ _ _ (fL (LV rfl hu) (by rfl) T.sX HM (@ao _ _ _ _ _ (rh (own:=["s"]) (fr:=["floor"]) (js:=[0]) rfl ⟨⟨rfl,by w_fin,by w_fin,by dsimp only [gw,bg,Cx.nA,Cx.wish,PyProof.Rows.envOfC,compEnvC,relabel,Env.kindOf];decide +kernel,by w_fin⟩,rfl⟩ (oW rfl T.aX (@ao _ _ _ _ _ (fL iD (by rfl) T.bA iE (@ao _ _ _ _ _ (@bQ _ _ _ _ _ _ _ fw (pv 0) aP (fun _ _=>rfl)) ax (by rfl))) ax (by rfl))) (fun _ _ _ _ _=>(dC (i:=0) (show ((["s"]:List Str) ++ (["floor"]:List Str)).Nodup by w_fin) rfl (by w_up))) (fun _ _ _ _ _=>qh) (fun _ _ _ _ _=>(b8 gI eO hr (by decide) rfl (@ao _ _ _ _ _ (pv 1) (@ao _ _ _ _ _ (pv 0) ax (by rfl)) (by rfl))))) ax (by rfl))))),?_⟩;exact iZ (b:=Gh) (eX (bS Np (au (pC (o9 (au (bS iG (au (aH dO (aj 0) (aQ _)) ay)) ay)) (aV 0) qA (b7 (F:=DI) (au (aj 1) (au (aj 0) ay)) c5)) ay))) rfl h
noncomputable def Gi:av->Dm Fl :=
 (bF (nh (aE Jb (fC (.int 0)) (ah 1)) (nh (aE rm (ah 1) (aM cq (ae (ah 0) ai))) (aE (gD false) (aE bM (ah 0) (ah 1)) (aM nD (ae (ah 2) ai))))))
noncomputable def zp:List D->Dm D:=g9 3 Gi
noncomputable def DK:Stmt:=top 32
theorem T2:aN ["forms","number","floor"] ["forms","number","floor"] (az DK):=⟨rfl,rfl,rfl,by w_fin,rfl,by w_fin,by w_fin⟩
theorem T3{f:Addr}{fd:FuncData}(D:Def K mg "has_form" DK ["forms","number","floor"] f fd)(T:Txt mg)  {cg:Addr}{cj:FuncData}(bR:Def K mg "form_of" uN ["floor"] cg cj)(b6:aJ P w K mg base bG 4 cg cj ["floor"] (bP K 1 nD)):aJ P w K mg base bG 5 f fd ["forms","number","floor"] (bP K 3 zp):=by
 refine D.F.ok T2 (fun _ _ _ _ h=>h.1) (fun c A o s H v Q E hr h=>?_);have hu:=hr.units;refine ⟨_,(@bE _ _ _ (@eV _ _ _ _ (EG (xf Bs aP (pv 1) (aK _)) (EG (xf ui (pv 1) (fL iD (by rfl) T.bA iE (@ao _ _ _ _ _ (pv 0) ax (by rfl))) (aK _)) (Hn (xf (HP hu) (@bQ _ _ _ _ _ _ _ iU (pv 0) (pv 1) (fun _ _=>rfl)) (b8 b6 bR hr (by decide) rfl (@ao _ _ _ _ _ (pv 2) ax (by rfl))) (aK _))))))),?_⟩;exact iZ (b:=Gi) (eX (Ft (aH CF (aQ _) (aj 1)) (Ft (aH uD (aj 1) (bS iG (au (aj 0) ay))) (aH (sE false) (aH fT (aj 0) (aj 1)) (b7 (F:=nD) (au (aj 2) ay) l8))))) rfl h
noncomputable def Gj:av->Dm Fl :=
 (aB (aL (cO (ae (ah 1) ai)) (hName 2))
 (aB (aL (aE bh (ah 0) (ah 1)) (hName 3))
 (aB (jV (aI (aE (iS true) (ah 3) (ah 1))) (aB (cb (g7 "list" bp (ah 2) (ae (ah 3) ai)))
 (aL (aE bh (ah 0) (ah 3)) (hName 3))))
 (bF (aM bK (ae (ah 2) ai))))))
noncomputable def DL:List D->Dm D:=g9 4 Gj
noncomputable def DM:Stmt:=top 7
theorem Gk:aN ["turning","first","ring","reached"] ["turning","first"] (az DM):=⟨rfl,rfl,rfl,by w_fin,rfl,by w_fin,by w_fin⟩
theorem T5{f:Addr}{fd:FuncData}(D:Def K mg "ring_from" DM ["turning","first"] f fd)(T:Txt mg) :aJ P w K mg base bG 1 f fd ["turning","first"] (bP K 2 DL):=by
 refine D.F.ok Gk (fun _ _ _ _ h=>h.1) (fun c A o s H v Q E hr h=>?_)
 refine ⟨_,(@a6 _ _ _ _ _ (@cn (i:=2) _ _ _ _ _ _ Gk.nd rfl (by w_up) (@jN _ _ _ _ (@ao _ _ _ _ _ (pv 1) ax (by rfl))) (by rfl) (by w_up))
  (@a6 _ _ _ _ _ (@cn (i:=3) _ _ _ _ _ _ Gk.nd rfl (by w_up) (@bQ _ _ _ _ _ _ _ fw (pv 0) (pv 1) (fun _ _=>rfl)) (by rfl) (by w_up))
  (@a6 _ _ _ _ _ (zU PassesOwn.never (dF EL (pv 3) (pv 1) (aK _)) (@a6 _ _ _ _ _ (mJ (lH PySem.F.plainAttrs_list PySem.F.slot_list_append PySem.F.type_list_append og (pv 2) (@ao _ _ _ _ _ (pv 3) ax (by rfl))))
  (@bE _ _ _ (@cn (i:=3) _ _ _ _ _ _ Gk.nd rfl (by w_up) (@bQ _ _ _ _ _ _ _ fw (pv 0) (pv 3) (fun _ _=>rfl)) (by rfl) (by w_up)))))
  (@bE _ _ _ (@eV _ _ _ _ (d6 mD (by rfl) T.bx mq (@ao _ _ _ _ _ (pv 2) ax (by rfl)))))))),?_⟩
 exact iZ (b:=Gj) (a7 (bL (jP (au (aj 1) ay)) (aV 2))
  (a7 (bL (aH dO (aj 0) (aj 1)) (aV 3))
  (a7 (Ap (dD (aH Fw (aj 3) (aj 1))) (a7 (mM (kQ ou (aj 2) (au (aj 3) ay)))
  (bL (aH dO (aj 0) (aj 3)) (aV 3))))
  (eX (bS mx (au (aj 2) ay)))))) rfl h
noncomputable def Gm:av->Dm Fl :=
 (aB (aL (cO ai) (hName 1))
 (aB (aL sJ (hName 2))
 (aB (dE (cz (ae (aM cq (ae (ah 0) ai)) ai)) (hName 3) (eB (aI (uG true (ah 3) (ah 2))) (aB (aL (aM DL (ae (ah 0) (ae (ah 3) ai))) (hName 4))
 (aB (cb (g7 "list" bp (ah 1) (ae (ah 4) ai)))
 (dE (d4 (ah 4)) (hName 5) (qB (ah 2) (ah 5) (fC (.bl true)))))) aW))
 (bF (aM bK (ae (ah 1) ai))))))
noncomputable def DN:List D->Dm D:=g9 6 Gm
noncomputable def DO:Stmt:=top 8
theorem AJ:aN ["turning","rings","seen","first","ring","number"] ["turning"] (az DO):=⟨rfl,rfl,rfl,by w_fin,rfl,by w_fin,by w_fin⟩
theorem T6{f:Addr}{fd:FuncData}(D:Def K mg "rings_of" DO ["turning"] f fd)(T:Txt mg)  {jn:Addr}{jq:FuncData}(jr:Def K mg "ring_from" DM ["turning","first"] jn jq)(lj:aJ P w K mg base bG 1 jn jq ["turning","first"] (bP K 2 DL)):aJ P w K mg base bG 2 f fd ["turning"] (bP K 1 DN):=by
 refine D.F.ok AJ (fun _ _ _ _ h=>h.1) (fun c A o s H v Q E hr h=>?_);have hu1:=BO hr
 refine ⟨_,(@a6 _ _ _ _ _ (@cn (i:=1) _ _ _ _ _ _ AJ.nd rfl (by w_up) (@jN _ _ _ _ ax) (by rfl) (by w_up))
  (@a6 _ _ _ _ _ (@cn (i:=2) _ _ _ _ _ _ AJ.nd rfl (by w_up) Pz (by rfl) (by w_up))
  (@a6 _ _ _ _ _ (@lQ _ _ _ _ _ _ _ _ PassesOwn.never rfl (oW rfl T.aX (@ao _ _ _ _ _ (fL iD (by rfl) T.bA iE (@ao _ _ _ _ _ (pv 0) ax (by rfl))) ax (by rfl))) (dC (i:=3) AJ.nd rfl (by w_up)) (@bE _ _ _ (@fW _ _ _ _ _ _ _ _ (wZ (Pw hu1 (pv 3) (pv 2))) (@a6 _ _ _ _ _ (@cn (i:=4) _ _ _ _ _ _ AJ.nd rfl (by w_up) (b8 lj jr hr (by decide) rfl (@ao _ _ _ _ _ (pv 0) (@ao _ _ _ _ _ (pv 3) ax (by rfl)) (by rfl))) (by rfl) (by w_up))
  (@a6 _ _ _ _ _ (mJ (lH PySem.F.plainAttrs_list PySem.F.slot_list_append PySem.F.type_list_append og (pv 1) (@ao _ _ _ _ _ (pv 4) ax (by rfl))))
  (@bE _ _ _ (@lQ _ _ _ _ _ _ _ _ PassesOwn.never rfl (pk (pv 4)) (dC (i:=5) AJ.nd rfl (by w_up)) (@bE _ _ _ (Px hu1 (pv 2) (pv 5) rH rfl)) (by intro _;rfl))))) gT)) (by intro _;rfl))
  (@bE _ _ _ (@eV _ _ _ _ (d6 mD (by rfl) T.bx mq (@ao _ _ _ _ _ (pv 1) ax (by rfl)))))))),?_⟩
 exact iZ (b:=Gm) (a7 (bL (jP ay) (aV 1))
  (a7 (bL RV (aV 2))
  (a7 (lZ (o9 (au (bS iG (au (aj 0) ay)) ay)) (aV 3) (fY (IZ (RW (aj 3) (aj 2))) (a7 (bL (b7 (F:=DL) (au (aj 0) (au (aj 3) ay)) c5) (aV 4))
  (a7 (mM (kQ ou (aj 1) (au (aj 4) ay)))
  (lZ (pB (aj 4)) (aV 5) (RX (aj 2) (aj 5) (sA _))))) gU))
  (eX (bS mx (au (aj 1) ay)))))) rfl h
noncomputable def Gn:av->Dm Fl :=
 (aB (aL (aE sF (cO (ae (fC (.int 0)) ai)) (aM cq (ae (ah 0) ai))) (hName 2))
 (aB (dE (d4 (aM DN (ae (ah 0) ai))) (hName 3) (dE (kX (ae (ah 3) ai)) (jU 2 (bU (hName 4) (bU (hName 5) kK))) (aL (aE bh (ah 3) (aE jL (aE eP (ah 4) (ah 1)) (aM cq (ae (ah 3) ai)))) (hSub (ah 2) (ah 5)))))
 (bF (aM bK (ae (ah 2) ai)))))
noncomputable def DP:List D->Dm D:=g9 6 Gn
noncomputable def DQ:Stmt:=top 6
theorem DR:aN ["turning","k","led","ring","place","number"] ["turning","k"] (az DQ):=⟨rfl,rfl,rfl,by w_fin,rfl,by w_fin,by w_fin⟩
theorem T7{f:Addr}{fd:FuncData}(D:Def K mg "often" DQ ["turning","k"] f fd)(T:Txt mg)  {ku:Addr}{ky:FuncData}(kz:Def K mg "rings_of" DO ["turning"] ku ky)(l9:aJ P w K mg base bG 2 ku ky ["turning"] (bP K 1 DN)):aJ P w K mg base bG 3 f fd ["turning","k"] (bP K 2 DP):=by
 refine D.F.ok DR (fun _ _ _ _ h=>h.1) (fun c A o s H v Q E hr h=>?_)
 refine ⟨_,(@a6 _ _ _ _ _ (@cn (i:=2) _ _ _ _ _ _ DR.nd rfl (by w_up) (cL Ln (@jN _ _ _ _ (@ao _ _ _ _ _ aP ax (by rfl))) (fL iD (by rfl) T.bA iE (@ao _ _ _ _ _ (pv 0) ax (by rfl)))) (by rfl) (by w_up))
  (@a6 _ _ _ _ _ (@lQ _ _ _ _ _ _ _ _ PassesOwn.never rfl (pk (b8 l9 kz hr (by decide) rfl (@ao _ _ _ _ _ (pv 0) ax (by rfl)))) (dC (i:=3) DR.nd rfl (by w_up)) (@bE _ _ _ (@lQ _ _ _ _ _ _ _ _ PassesOwn.never rfl (E5 rfl T.hU (@ao _ _ _ _ _ (pv 3) ax (by rfl))) (p7 (n:=2) rfl (kl (dC (i:=4) DR.nd rfl (by w_up)) (kl (dC (i:=5) DR.nd rfl (by w_up)) p6))) (@bE _ _ _ (oM (@bQ _ _ _ _ _ _ _ fw (pv 3) (cL p8 (cL ml (pv 4) (pv 1)) (fL iD (by rfl) T.bA iE (@ao _ _ _ _ _ (pv 3) ax (by rfl)))) (fun _ _=>rfl)) (pF (pv 2) (pv 5) pI))) (by intro _;rfl))) (by intro _;rfl))
  (@bE _ _ _ (@eV _ _ _ _ (d6 mD (by rfl) T.bx mq (@ao _ _ _ _ _ (pv 2) ax (by rfl))))))),?_⟩
 exact iZ (b:=Gn) (a7 (bL (aH MK (jP (au (aQ _) ay)) (bS iG (au (aj 0) ay))) (aV 2))
  (a7 (lZ (pB (b7 (F:=DN) (au (aj 0) ay) l8)) (aV 3) (lZ (FC (au (aj 3) ay)) (qz (kn (aV 4) (kn (aV 5) qy))) (bL (aH dO (aj 3) (aH qv (aH mw (aj 4) (aj 1)) (bS iG (au (aj 3) ay)))) (pQ (aj 2) (aj 5)))))
  (eX (bS mx (au (aj 2) ay))))) rfl h
noncomputable def Gp:av->Dm Fl :=
 (bF (bu (ae (aE bh (ah 0) (fC (.int 0))) (ae (aM qG (ae (aM DP (ae (aE bh (ah 0) (fC (.int 0))) (ae (uB nH (ah 1)) ai))) (ae (aE bh (ah 0) (fC (.int 1))) ai))) ai))))
noncomputable def uO:List D->Dm D:=g9 2 Gp
noncomputable def AK:Stmt:=top 21
theorem T8:aN ["floor","k"] ["floor","k"] (az AK):=⟨rfl,rfl,rfl,by w_fin,rfl,by w_fin,by w_fin⟩
theorem T9{f:Addr}{fd:FuncData}(D:Def K mg "sheared" AK ["floor","k"] f fd)(T:Txt mg)  {eY:Addr}{eZ:FuncData}(c4:Def K mg "followed" AH ["one","other"] eY eZ)(dr:aJ P w K mg base bG 1 eY eZ ["one","other"] (bP K 2 qG)){oD:Addr}{oE:FuncData}(oG:Def K mg "often" DQ ["turning","k"] oD oE)(pW:aJ P w K mg base bG 3 oD oE ["turning","k"] (bP K 2 DP)):aJ P w K mg base bG 4 f fd ["floor","k"] (bP K 2 uO):=by
 refine D.F.ok T8 (fun _ _ _ _ h=>h.1) (fun c A o s H v Q E hr h=>?_);refine ⟨_,(@bE _ _ _ (@eV _ _ _ _ (@d5 _ _ _ _ _ (@ao _ _ _ _ _ (@bQ _ _ _ _ _ _ _ fw (pv 0) aP (fun _ _=>rfl)) (@ao _ _ _ _ _ (b8 dr c4 hr (by decide) rfl (@ao _ _ _ _ _ (b8 pW oG hr (by decide) rfl (@ao _ _ _ _ _ (@bQ _ _ _ _ _ _ _ fw (pv 0) aP (fun _ _=>rfl)) (@ao _ _ _ _ _ (xa xb (pv 1)) ax (by rfl)) (by rfl))) (@ao _ _ _ _ _ (@bQ _ _ _ _ _ _ _ fw (pv 0) aP (fun _ _=>rfl)) ax (by rfl)) (by rfl))) ax (by rfl)) (by rfl))))),?_⟩;exact iZ (b:=Gp) (eX (d7 (au (aH dO (aj 0) (aQ _)) (au (b7 (F:=qG) (au (b7 (F:=DP) (au (aH dO (aj 0) (aQ _)) (au (xV xZ (aj 1)) ay)) c5) (au (aH dO (aj 0) (aQ _)) ay)) c5) ay)))) rfl h
noncomputable def Gq:av->Dm Fl :=
 (bF (bu (ae (aM tf (ae (aE bh (ah 0) (fC (.int 1))) ai)) (ae (aE bh (ah 0) (fC (.int 0))) ai))))
noncomputable def uP:List D->Dm D:=g9 1 Gq
noncomputable def AL:Stmt:=top 22
theorem Ua:aN ["floor"] ["floor"] (az AL):=⟨rfl,rfl,rfl,by w_fin,rfl,by w_fin,by w_fin⟩
theorem Ub{f:Addr}{fd:FuncData}(D:Def K mg "quartered" AL ["floor"] f fd)(T:Txt mg)  {bY:Addr}{bZ:FuncData}(b5:Def K mg "turned_back" zo ["turning"] bY bZ)(cm:aJ P w K mg base bG 1 bY bZ ["turning"] (bP K 1 tf)):aJ P w K mg base bG 2 f fd ["floor"] (bP K 1 uP):=by
 refine D.F.ok Ua (fun _ _ _ _ h=>h.1) (fun c A o s H v Q E hr h=>?_);refine ⟨_,(@bE _ _ _ (@eV _ _ _ _ (@d5 _ _ _ _ _ (@ao _ _ _ _ _ (b8 cm b5 hr (by decide) rfl (@ao _ _ _ _ _ (@bQ _ _ _ _ _ _ _ fw (pv 0) aP (fun _ _=>rfl)) ax (by rfl))) (@ao _ _ _ _ _ (@bQ _ _ _ _ _ _ _ fw (pv 0) aP (fun _ _=>rfl)) ax (by rfl)) (by rfl))))),?_⟩;exact iZ (b:=Gq) (eX (d7 (au (b7 (F:=tf) (au (aH dO (aj 0) (aQ _)) ay) l8) (au (aH dO (aj 0) (aQ _)) ay)))) rfl h
noncomputable def Gr:av->Dm Fl :=
 (aB (eB (aI (aE (iS false) (aE bh (ah 1) (fC (.int 0))) (fC (.str "s")))) (bF (aM uO (ae (ah 0) (ae (aE bh (ah 1) (fC (.int 1))) ai)))) aW)
 (aB (aL (ah 0) (hName 2))
 (aB (dE (cz (ae (aE bh (ah 1) (fC (.int 1))) ai)) (hName 3) (aL (aM uP (ae (ah 2) ai)) (hName 2)))
 (bF (ah 2)))))
noncomputable def DS:List D->Dm D:=g9 4 Gr
noncomputable def DT:Stmt:=top 24
theorem Gs:aN ["floor","step","led","turn"] ["floor","step"] (az DT):=⟨rfl,rfl,rfl,by w_fin,rfl,by w_fin,by w_fin⟩
theorem Uc{f:Addr}{fd:FuncData}(D:Def K mg "led_by_step" DT ["floor","step"] f fd)(T:Txt mg)  {gJ:Addr}{gK:FuncData}(gL:Def K mg "sheared" AK ["floor","k"] gJ gK)(i9:aJ P w K mg base bG 4 gJ gK ["floor","k"] (bP K 2 uO)){dR:Addr}{dS:FuncData}(dU:Def K mg "quartered" AL ["floor"] dR dS)(e7:aJ P w K mg base bG 2 dR dS ["floor"] (bP K 1 uP)):aJ P w K mg base bG 5 f fd ["floor","step"] (bP K 2 DS):=by
 refine D.F.ok Gs (fun _ _ _ _ h=>h.1) (fun c A o s H v Q E hr h=>?_)
 refine ⟨_,(@a6 _ _ _ _ _ (@fW _ _ _ _ _ _ _ _ (dF lS (@bQ _ _ _ _ _ _ _ fw (pv 1) aP (fun _ _=>rfl)) p5 (aK _)) (@bE _ _ _ (@eV _ _ _ _ (b8 i9 gL hr (by decide) rfl (@ao _ _ _ _ _ (pv 0) (@ao _ _ _ _ _ (@bQ _ _ _ _ _ _ _ fw (pv 1) aP (fun _ _=>rfl)) ax (by rfl)) (by rfl))))) gT)
  (@a6 _ _ _ _ _ (@cn (i:=2) _ _ _ _ _ _ Gs.nd rfl (by w_up) (pv 0) (by rfl) (by w_up))
  (@a6 _ _ _ _ _ (@lQ _ _ _ _ _ _ _ _ PassesOwn.never rfl (oW rfl T.aX (@ao _ _ _ _ _ (@bQ _ _ _ _ _ _ _ fw (pv 1) aP (fun _ _=>rfl)) ax (by rfl))) (dC (i:=3) Gs.nd rfl (by w_up)) (@bE _ _ _ (@cn (i:=2) _ _ _ _ _ _ Gs.nd rfl (by w_up) (b8 e7 dU hr (by decide) rfl (@ao _ _ _ _ _ (pv 2) ax (by rfl))) (by rfl) (by w_up))) (by intro _;rfl))
  (@bE _ _ _ (@eV _ _ _ _ (pv 2)))))),?_⟩
 exact iZ (b:=Gr) (a7 (fY (dD (aH lY (aH dO (aj 1) (aQ _)) (qu _))) (eX (b7 (F:=uO) (au (aj 0) (au (aH dO (aj 1) (aQ _)) ay)) c5)) gU)
  (a7 (bL (aj 0) (aV 2))
  (a7 (lZ (o9 (au (aH dO (aj 1) (aQ _)) ay)) (aV 3) (bL (b7 (F:=uP) (au (aj 2) ay) l8) (aV 2)))
  (eX (aj 2))))) rfl h
noncomputable def Gu:av->Dm Fl :=
 (aB (aL (ah 0) (hName 2))
 (aB (dE (d4 (ah 1)) (hName 3) (aL (aM DS (ae (ah 2) (ae (ah 3) ai))) (hName 2)))
 (bF (ah 2))))
noncomputable def wx:List D->Dm D:=g9 4 Gu
noncomputable def AO:Stmt:=top 23
theorem Gv:aN ["floor","word","led","step"] ["floor","word"] (az AO):=⟨rfl,rfl,rfl,by w_fin,rfl,by w_fin,by w_fin⟩
theorem Ud{f:Addr}{fd:FuncData}(D:Def K mg "led_by" AO ["floor","word"] f fd)(T:Txt mg)  {gj:Addr}{gk:FuncData}(gn:Def K mg "led_by_step" DT ["floor","step"] gj gk)(jt:aJ P w K mg base bG 5 gj gk ["floor","step"] (bP K 2 DS)):aJ P w K mg base bG 6 f fd ["floor","word"] (bP K 2 wx):=by
 refine D.F.ok Gv (fun _ _ _ _ h=>h.1) (fun c A o s H v Q E hr h=>?_)
 refine ⟨_,(@a6 _ _ _ _ _ (@cn (i:=2) _ _ _ _ _ _ Gv.nd rfl (by w_up) (pv 0) (by rfl) (by w_up))
  (@a6 _ _ _ _ _ (@lQ _ _ _ _ _ _ _ _ PassesOwn.never rfl (pk (pv 1)) (dC (i:=3) Gv.nd rfl (by w_up)) (@bE _ _ _ (@cn (i:=2) _ _ _ _ _ _ Gv.nd rfl (by w_up) (b8 jt gn hr (by decide) rfl (@ao _ _ _ _ _ (pv 2) (@ao _ _ _ _ _ (pv 3) ax (by rfl)) (by rfl))) (by rfl) (by w_up))) (by intro _;rfl))
  (@bE _ _ _ (@eV _ _ _ _ (pv 2))))),?_⟩
 exact iZ (b:=Gu) (a7 (bL (aj 0) (aV 2))
  (a7 (lZ (pB (aj 1)) (aV 3) (bL (b7 (F:=DS) (au (aj 2) (au (aj 3) ay)) c5) (aV 2)))
  (eX (aj 2)))) rfl h
noncomputable def Gw:av->Dm Fl :=
 (aB (eB (aI (aE (gD true) (aM nD (ae (aM wx (ae (ah 0) (ae (aE bh (ah 1) (fC (.int 1))) ai))) ai)) (aM nD (ae (aE bh (ah 1) (fC (.int 0))) ai)))) (bF (fC (.bl false))) aW)
 (bF (nh (aM zp (ae (ah 2) (ae (aE bh (ah 1) (fC (.int 2))) (ae (aM uO (ae (aE bh (ah 1) (fC (.int 0))) (ae (fC (.int 1)) ai))) ai)))) (aM zp (ae (ah 2) (ae (aE bh (ah 1) (fC (.int 3))) (ae (aM uP (ae (aE bh (ah 1) (fC (.int 0))) ai)) ai)))))))
noncomputable def DV:List D->Dm D:=g9 3 Gw
noncomputable def DW:Stmt:=top 31
theorem Ue:aN ["floor","row","forms"] ["floor","row","forms"] (az DW):=⟨rfl,rfl,rfl,by w_fin,rfl,by w_fin,by w_fin⟩
theorem Ug{f:Addr}{fd:FuncData}(D:Def K mg "row_holds" DW ["floor","row","forms"] f fd)(T:Txt mg)  {cg:Addr}{cj:FuncData}(bR:Def K mg "form_of" uN ["floor"] cg cj)(b6:aJ P w K mg base bG 4 cg cj ["floor"] (bP K 1 nD)){kA:Addr}{kC:FuncData}(ja:Def K mg "has_form" DK ["forms","number","floor"] kA kC)(kD:aJ P w K mg base bG 5 kA kC ["forms","number","floor"] (bP K 3 zp)){ju:Addr}{jv:FuncData}(jw:Def K mg "led_by" AO ["floor","word"] ju jv)(kE:aJ P w K mg base bG 6 ju jv ["floor","word"] (bP K 2 wx)){gJ:Addr}{gK:FuncData}(gL:Def K mg "sheared" AK ["floor","k"] gJ gK)(i9:aJ P w K mg base bG 4 gJ gK ["floor","k"] (bP K 2 uO)){dR:Addr}{dS:FuncData}(dU:Def K mg "quartered" AL ["floor"] dR dS)(e7:aJ P w K mg base bG 2 dR dS ["floor"] (bP K 1 uP)):aJ P w K mg base bG 7 f fd ["floor","row","forms"] (bP K 3 DV):=by
 refine D.F.ok Ue (fun _ _ _ _ h=>h.1) (fun c A o s H v Q E hr h=>?_);have hu:=hr.units
 refine ⟨_,(@a6 _ _ _ _ _ (@fW _ _ _ _ _ _ _ _ (dF (vz hu) (b8 b6 bR hr (by decide) rfl (@ao _ _ _ _ _ (b8 kE jw hr (by decide) rfl (@ao _ _ _ _ _ (pv 0) (@ao _ _ _ _ _ (@bQ _ _ _ _ _ _ _ fw (pv 1) aP (fun _ _=>rfl)) ax (by rfl)) (by rfl))) ax (by rfl))) (b8 b6 bR hr (by decide) rfl (@ao _ _ _ _ _ (@bQ _ _ _ _ _ _ _ fw (pv 1) aP (fun _ _=>rfl)) ax (by rfl))) (aK _)) (@bE _ _ _ (@eV _ _ _ _ rH)) gT)
  (@bE _ _ _ (@eV _ _ _ _ (EG (b8 kD ja hr (by decide) rfl (@ao _ _ _ _ _ (pv 2) (@ao _ _ _ _ _ (@bQ _ _ _ _ _ _ _ fw (pv 1) aP (fun _ _=>rfl)) (@ao _ _ _ _ _ (b8 i9 gL hr (by decide) rfl (@ao _ _ _ _ _ (@bQ _ _ _ _ _ _ _ fw (pv 1) aP (fun _ _=>rfl)) (@ao _ _ _ _ _ aP ax (by rfl)) (by rfl))) ax (by rfl)) (by rfl)) (by rfl))) (Hn (b8 kD ja hr (by decide) rfl (@ao _ _ _ _ _ (pv 2) (@ao _ _ _ _ _ (@bQ _ _ _ _ _ _ _ fw (pv 1) aP (fun _ _=>rfl)) (@ao _ _ _ _ _ (b8 e7 dU hr (by decide) rfl (@ao _ _ _ _ _ (@bQ _ _ _ _ _ _ _ fw (pv 1) aP (fun _ _=>rfl)) ax (by rfl))) ax (by rfl)) (by rfl)) (by rfl)))))))),?_⟩
 exact iZ (b:=Gw) (a7 (fY (dD (aH (sE true) (b7 (F:=nD) (au (b7 (F:=wx) (au (aj 0) (au (aH dO (aj 1) (aQ _)) ay)) c5) ay) l8) (b7 (F:=nD) (au (aH dO (aj 1) (aQ _)) ay) l8))) (eX (sA _)) gU)
  (eX (Ft (b7 (F:=zp) (au (aj 2) (au (aH dO (aj 1) (aQ _)) (au (b7 (F:=uO) (au (aH dO (aj 1) (aQ _)) (au (aQ _) ay)) c5) ay))) wo) (b7 (F:=zp) (au (aj 2) (au (aH dO (aj 1) (aQ _)) (au (b7 (F:=uP) (au (aH dO (aj 1) (aQ _)) ay) l8) ay))) wo)))) rfl h
noncomputable def Gx:av->Dm Fl :=
 (aB (aL (dw (d4 (ah 1)) 1 [] (hName 0) eC (aM nD (ae (aE bh (ah 0) (fC (.int 0))) ai))) (hName 2))
 (aB (eB (rl (aI (aE (iS false) (aM cq (ae (ah 2) ai)) (fC (.int 0)))) (aI (aE (gD true) (aE bM (ah 2) (fC (.int 0))) (aM nD (ae (ah 0) ai))))) (bF (fC (.bl false))) aW)
 (aB (dE (kX (ae (ah 1) ai)) (jU 2 (bU (hName 3) (bU (hName 4) kK))) (eB (rl (aI (aE (nJ false) (aE bM (ah 2) (ah 3)) (vN pP (ah 2) jf (mv (ah 3))))) (sC (aI (aM DV (ae (ah 0) (ae (ah 4) (ae (ah 2) ai))))))) (bF (fC (.bl false))) aW))
 (bF (fC (.bl true))))))
noncomputable def tV:List D->Dm D:=g9 5 Gx
noncomputable def AQ:Stmt:=top 30
theorem Gy:aN ["floor","chart","forms","place","row"] ["floor","chart"] (az AQ):=⟨rfl,rfl,rfl,by w_fin,rfl,by w_fin,by w_fin⟩
theorem Uh{f:Addr}{fd:FuncData}(D:Def K mg "chart_holds" AQ ["floor","chart"] f fd)(T:Txt mg)  {cg:Addr}{cj:FuncData}(bR:Def K mg "form_of" uN ["floor"] cg cj)(b6:aJ P w K mg base bG 4 cg cj ["floor"] (bP K 1 nD)){jx:Addr}{jy:FuncData}(jz:Def K mg "row_holds" DW ["floor","row","forms"] jx jy)(lp:aJ P w K mg base bG 7 jx jy ["floor","row","forms"] (bP K 3 DV)):aJ P w K mg base bG 8 f fd ["floor","chart"] (bP K 2 tV):=by
 refine D.F.ok Gy (fun _ _ _ _ h=>h.1) (fun c A o s H v Q E hr h=>?_);have hu:=hr.units
 refine ⟨_,(@a6 _ _ _ _ _ (EZ (i:=2) (own:=["row"]) (fr:=[]) (js:=[]) rfl Gy.nd rfl rfl ⟨⟨rfl,by w_fin,by w_fin,by dsimp only [gw,bg,Cx.nA,Cx.wish,PyProof.Rows.envOfC,compEnvC,relabel,Env.kindOf];decide +kernel,by w_fin⟩,rfl⟩ (pk (pv 1)) (fun _ _ _ _ _=>(dC (i:=0) (show ((["row"]:List Str) ++ ([]:List Str)).Nodup by w_fin) rfl (by w_up))) (fun _ _ _ _ _=>qh) (fun _ _ _ _ _=>(b8 b6 bR hr (by decide) rfl (@ao _ _ _ _ _ (@bQ _ _ _ _ _ _ _ (tI (K:=K) rfl) (pv 0) aP (fun _ _=>rfl)) ax (by rfl)))))
  (@a6 _ _ _ _ _ (@fW _ _ _ _ _ _ _ _ (PW.pt (w4 (dF lS (fL iD (by rfl) T.bA iE (@ao _ _ _ _ _ (pv 2) ax (by rfl))) aP (aK _)) (zT (dF (vz hu) (@bQ _ _ _ _ _ _ _ iU (pv 2) aP (fun _ _=>rfl)) (b8 b6 bR hr (by decide) rfl (@ao _ _ _ _ _ (pv 0) ax (by rfl))) (aK _))))) (@bE _ _ _ (@eV _ _ _ _ rH)) gT)
  (@a6 _ _ _ _ _ (@lQ _ _ _ _ _ _ _ _ PassesOwn.never rfl (E5 rfl T.hU (@ao _ _ _ _ _ (pv 1) ax (by rfl))) (p7 (n:=2) rfl (kl (dC (i:=3) Gy.nd rfl (by w_up)) (kl (dC (i:=4) Gy.nd rfl (by w_up)) p6))) (@bE _ _ _ (@fW _ _ _ _ _ _ _ _ (PW.pt (w4 (dF (LO hu) (@bQ _ _ _ _ _ _ _ iU (pv 2) (pv 3) (fun _ _=>rfl)) (Bz EN (pv 2) Bx (By (pv 3))) (by with_unfolding_all rfl)) (zT (KG (KC (b8 lp jz hr (by decide) rfl (@ao _ _ _ _ _ (pv 0) (@ao _ _ _ _ _ (pv 4) (@ao _ _ _ _ _ (pv 2) ax (by rfl)) (by rfl)) (by rfl)))))))) (@bE _ _ _ (@eV _ _ _ _ rH)) gT)) (by intro _;rfl))
  (@bE _ _ _ (@eV _ _ _ _ rH))))),?_⟩
 exact iZ (b:=Gx) (a7 (bL (pC (pB (aj 1)) (aV 0) qA (b7 (F:=nD) (au (aH dO (aj 0) (aQ _)) ay) l8)) (aV 2))
  (a7 (fY (xW (dD (aH lY (bS iG (au (aj 2) ay)) (aQ _))) (dD (aH (sE true) (aH fT (aj 2) (aQ _)) (b7 (F:=nD) (au (aj 0) ay) l8)))) (eX (sA _)) gU)
  (a7 (lZ (FC (au (aj 1) ay)) (qz (kn (aV 3) (kn (aV 4) qy))) (fY (xW (dD (aH (FN false) (aH fT (aj 2) (aj 3)) (CC Fx (aj 2) CA (CB (aj 3))))) (MB (IZ (b7 (F:=DV) (au (aj 0) (au (aj 4) (au (aj 2) ay))) wo)))) (eX (sA _)) gU))
  (eX (sA _))))) rfl h
noncomputable def Gz:av->Dm Fl :=
 (aB (aL (cO ai) (hName 3))
 (aB (dE (cz (ae (aM eE (ae (ah 0) (ae (aE eP (ah 1) (fC (.int 1))) ai))) ai)) (hName 4) (eB (aI (aE (iS false) (aM eE (ae (ah 0) (ae (fC (.int 2)) ai))) (fC (.int 0)))) (cb (g7 "list" bp (ah 3) (ae (bu (ae (fC (.str "t")) (ae (aE eP (fC (.int 1)) (aM eE (ae (ah 0) (ae (fC (.int 3)) ai)))) ai))) ai))) (aB (aL (aE eP (fC (.int 1)) (aM eE (ae (ah 0) (ae (ah 2) ai)))) (hName 4))
 (cb (g7 "list" bp (ah 3) (ae (bu (ae (fC (.str "s")) (ae (aE bM (cO (ae (ah 4) (ae (aE mX (fC (.int 0)) (ah 4)) ai))) (aM eE (ae (ah 0) (ae (fC (.int 2)) ai)))) ai))) ai))))))
 (bF (aM bK (ae (ah 3) ai)))))
noncomputable def wz:List D->Dm D:=g9 5 Gz
noncomputable def AR:Stmt:=top 39
theorem GA:aN ["_law_feed_here","_law_most","_law_great","_law_found","_law_k"] ["_law_feed_here","_law_most","_law_great"] (az AR):=⟨rfl,rfl,rfl,by w_fin,rfl,by w_fin,by w_fin⟩
theorem Ui{f:Addr}{fd:FuncData}(D:Def K mg "_law_word" AR ["_law_feed_here","_law_most","_law_great"] f fd)(T:Txt mg)  {aS:Addr}{aT:FuncData}(aC:Def K mg "_law_take" sY ["_law_feed_here","_law_many"] aS aT)(aD:aJ P w K mg base bG 1 aS aT ["_law_feed_here","_law_many"] (bP K 2 eE)):aJ P w K mg base bG 2 f fd ["_law_feed_here","_law_most","_law_great"] (bP K 3 wz):=by
 refine D.F.ok GA (fun _ _ _ _ h=>h.1) (fun c A o s H v Q E hr h=>?_)
 refine ⟨_,(@a6 _ _ _ _ _ (@cn (i:=3) _ _ _ _ _ _ GA.nd rfl (by w_up) (@jN _ _ _ _ ax) (by rfl) (by w_up))
  (@a6 _ _ _ _ _ (@lQ _ _ _ _ _ _ _ _ PassesOwn.never rfl (oW rfl T.aX (@ao _ _ _ _ _ (b8 aD aC hr (by decide) rfl (@ao _ _ _ _ _ (pv 0) (@ao _ _ _ _ _ (cL ml (pv 1) aP) ax (by rfl)) (by rfl))) ax (by rfl))) (dC (i:=4) GA.nd rfl (by w_up)) (@bE _ _ _ (@fW _ _ _ _ _ _ _ _ (dF lS (b8 aD aC hr (by decide) rfl (@ao _ _ _ _ _ (pv 0) (@ao _ _ _ _ _ aP ax (by rfl)) (by rfl))) aP (aK _)) (@bE _ _ _ (mJ (lH PySem.F.plainAttrs_list PySem.F.slot_list_append PySem.F.type_list_append og (pv 3) (@ao _ _ _ _ _ (@d5 _ _ _ _ _ (@ao _ _ _ _ _ p5 (@ao _ _ _ _ _ (cL ml aP (b8 aD aC hr (by decide) rfl (@ao _ _ _ _ _ (pv 0) (@ao _ _ _ _ _ aP ax (by rfl)) (by rfl)))) ax (by rfl)) (by rfl))) ax (by rfl))))) (@a6 _ _ _ _ _ (@cn (i:=4) _ _ _ _ _ _ GA.nd rfl (by w_up) (cL ml aP (b8 aD aC hr (by decide) rfl (@ao _ _ _ _ _ (pv 0) (@ao _ _ _ _ _ (pv 2) ax (by rfl)) (by rfl)))) (by rfl) (by w_up))
  (@bE _ _ _ (mJ (lH PySem.F.plainAttrs_list PySem.F.slot_list_append PySem.F.type_list_append og (pv 3) (@ao _ _ _ _ _ (@d5 _ _ _ _ _ (@ao _ _ _ _ _ p5 (@ao _ _ _ _ _ (@bQ _ _ _ _ _ _ _ iU (@jN _ _ _ _ (@ao _ _ _ _ _ (pv 4) (@ao _ _ _ _ _ (cL zV aP (pv 4)) ax (by rfl)) (by rfl))) (b8 aD aC hr (by decide) rfl (@ao _ _ _ _ _ (pv 0) (@ao _ _ _ _ _ aP ax (by rfl)) (by rfl))) (fun _ _=>rfl)) ax (by rfl)) (by rfl))) ax (by rfl)))))))) (by intro _;rfl))
  (@bE _ _ _ (@eV _ _ _ _ (d6 mD (by rfl) T.bx mq (@ao _ _ _ _ _ (pv 3) ax (by rfl))))))),?_⟩
 exact iZ (b:=Gz) (a7 (bL (jP ay) (aV 3))
  (a7 (lZ (o9 (au (b7 (F:=eE) (au (aj 0) (au (aH mw (aj 1) (aQ _)) ay)) c5) ay)) (aV 4) (fY (dD (aH lY (b7 (F:=eE) (au (aj 0) (au (aQ _) ay)) c5) (aQ _))) (mM (kQ ou (aj 3) (au (d7 (au (qu _) (au (aH mw (aQ _) (b7 (F:=eE) (au (aj 0) (au (aQ _) ay)) c5)) ay))) ay))) (a7 (bL (aH mw (aQ _) (b7 (F:=eE) (au (aj 0) (au (aj 2) ay)) c5)) (aV 4))
  (mM (kQ ou (aj 3) (au (d7 (au (qu _) (au (aH fT (jP (au (aj 4) (au (aH Aj (aQ _) (aj 4)) ay))) (b7 (F:=eE) (au (aj 0) (au (aQ _) ay)) c5)) ay))) ay))))))
  (eX (bS mx (au (aj 3) ay))))) rfl h
noncomputable def GB:av->Dm Fl :=
 (aB (aL (aE eP (aE bh (ah 0) (fC (.int 1))) (aE bh (ah 1) (fC (.int 1)))) (hName 2))
 (aB (eB (aI (aE (iS false) (aE bh (ah 0) (fC (.int 0))) (fC (.str "t")))) (aL (aE jL (ah 2) (fC (.int 4))) (hName 2)) aW)
 (aB (eB (aI (aE (iS false) (ah 2) (fC (.int 0)))) (bF (bu ai)) aW)
 (bF (bu (ae (bu (ae (aE bh (ah 0) (fC (.int 0))) (ae (ah 2) ai))) ai))))))
noncomputable def DX:List D->Dm D:=g9 3 GB
noncomputable def DY:Stmt:=top 17
theorem JK:aN ["one","other","number"] ["one","other"] (az DY):=⟨rfl,rfl,rfl,by w_fin,rfl,by w_fin,by w_fin⟩
theorem Uj{f:Addr}{fd:FuncData}(D:Def K mg "joined" DY ["one","other"] f fd)(T:Txt mg) :aJ P w K mg base bG 1 f fd ["one","other"] (bP K 2 DX):=by
 refine D.F.ok JK (fun _ _ _ _ h=>h.1) (fun c A o s H v Q E hr h=>?_)
 refine ⟨_,(@a6 _ _ _ _ _ (@cn (i:=2) _ _ _ _ _ _ JK.nd rfl (by w_up) (cL ml (@bQ _ _ _ _ _ _ _ fw (pv 0) aP (fun _ _=>rfl)) (@bQ _ _ _ _ _ _ _ fw (pv 1) aP (fun _ _=>rfl))) (by rfl) (by w_up))
  (@a6 _ _ _ _ _ (@fW _ _ _ _ _ _ _ _ (dF lS (@bQ _ _ _ _ _ _ _ fw (pv 0) aP (fun _ _=>rfl)) p5 (aK _)) (@bE _ _ _ (@cn (i:=2) _ _ _ _ _ _ JK.nd rfl (by w_up) (cL p8 (pv 2) aP) (by rfl) (by w_up))) gT)
  (@a6 _ _ _ _ _ (@fW _ _ _ _ _ _ _ _ (dF lS (pv 2) aP (aK _)) (@bE _ _ _ (@eV _ _ _ _ (@d5 _ _ _ _ _ ax))) gT)
  (@bE _ _ _ (@eV _ _ _ _ (@d5 _ _ _ _ _ (@ao _ _ _ _ _ (@d5 _ _ _ _ _ (@ao _ _ _ _ _ (@bQ _ _ _ _ _ _ _ fw (pv 0) aP (fun _ _=>rfl)) (@ao _ _ _ _ _ (pv 2) ax (by rfl)) (by rfl))) ax (by rfl)))))))),?_⟩
 exact iZ (b:=GB) (a7 (bL (aH mw (aH dO (aj 0) (aQ _)) (aH dO (aj 1) (aQ _))) (aV 2))
  (a7 (fY (dD (aH lY (aH dO (aj 0) (aQ _)) (qu _))) (bL (aH qv (aj 2) (aQ _)) (aV 2)) gU)
  (a7 (fY (dD (aH lY (aj 2) (aQ _))) (eX (d7 ay)) gU)
  (eX (d7 (au (d7 (au (aH dO (aj 0) (aQ _)) (au (aj 2) ay))) ay)))))) rfl h
noncomputable def GD:av->Dm Fl :=
 (aB (aL (bu ai) (hName 1))
 (aB (dE (d4 (ah 0)) (hName 2) (eB (qT (aI (aE vP (aM cq (ae (ah 1) ai)) (fC (.int 0)))) (aI (aE (iS false) (aE bh (aE bh (ah 1) (uB nH (fC (.int 1)))) (fC (.int 0))) (aE bh (ah 2) (fC (.int 0)))))) (aL (aE jT (vN x6 (ah 1) jf (mv (uB nH (fC (.int 1))))) (aM DX (ae (aE bh (ah 1) (uB nH (fC (.int 1)))) (ae (ah 2) ai)))) (hName 1)) (aL (aE jT (ah 1) (bu (ae (ah 2) ai))) (hName 1))))
 (bF (ah 1))))
noncomputable def DZ:List D->Dm D:=g9 3 GD
noncomputable def D0:Stmt:=top 18
theorem D1:aN ["word","plain","step"] ["word"] (az D0):=⟨rfl,rfl,rfl,by w_fin,rfl,by w_fin,by w_fin⟩
theorem Uk{f:Addr}{fd:FuncData}(D:Def K mg "made_plain" D0 ["word"] f fd)(T:Txt mg)  {mQ:Addr}{mS:FuncData}(mT:Def K mg "joined" DY ["one","other"] mQ mS)(oH:aJ P w K mg base bG 1 mQ mS ["one","other"] (bP K 2 DX)):aJ P w K mg base bG 2 f fd ["word"] (bP K 1 DZ):=by
 refine D.F.ok D1 (fun _ _ _ _ h=>h.1) (fun c A o s H v Q E hr h=>?_)
 refine ⟨_,(@a6 _ _ _ _ _ (@cn (i:=1) _ _ _ _ _ _ D1.nd rfl (by w_up) (@d5 _ _ _ _ _ ax) (by rfl) (by w_up))
  (@a6 _ _ _ _ _ (@lQ _ _ _ _ _ _ _ _ PassesOwn.never rfl (pk (pv 0)) (dC (i:=2) D1.nd rfl (by w_up)) (@bE _ _ _ (@fW _ _ _ _ _ _ _ _ (PW.pt (Hm (dF zW (fL iD (by rfl) T.bA iE (@ao _ _ _ _ _ (pv 1) ax (by rfl))) aP (aK _)) (Hl (dF lS (@bQ _ _ _ _ _ _ _ fw (@bQ _ _ _ _ _ _ _ fw (pv 1) (xa xb aP) (fun _ _=>rfl)) aP (fun _ _=>rfl)) (@bQ _ _ _ _ _ _ _ fw (pv 2) aP (fun _ _=>rfl)) (aK _))))) (@bE _ _ _ (@cn (i:=1) _ _ _ _ _ _ D1.nd rfl (by w_up) (cL xt (Bz PV (pv 1) Bx (By (xa xb aP))) (b8 oH mT hr (by decide) rfl (@ao _ _ _ _ _ (@bQ _ _ _ _ _ _ _ fw (pv 1) (xa xb aP) (fun _ _=>rfl)) (@ao _ _ _ _ _ (pv 2) ax (by rfl)) (by rfl)))) (by rfl) (by w_up))) (@bE _ _ _ (@cn (i:=1) _ _ _ _ _ _ D1.nd rfl (by w_up) (cL xt (pv 1) (@d5 _ _ _ _ _ (@ao _ _ _ _ _ (pv 2) ax (by rfl)))) (by rfl) (by w_up))))) (by intro _;rfl))
  (@bE _ _ _ (@eV _ _ _ _ (pv 1))))),?_⟩
 exact iZ (b:=GD) (a7 (bL (d7 ay) (aV 1))
  (a7 (lZ (pB (aj 0)) (aV 2) (fY (Ja (dD (aH Ak (bS iG (au (aj 1) ay)) (aQ _))) (dD (aH lY (aH dO (aH dO (aj 1) (xV xZ (aQ _))) (aQ _)) (aH dO (aj 2) (aQ _))))) (bL (aH yb (CC ya (aj 1) CA (CB (xV xZ (aQ _)))) (b7 (F:=DX) (au (aH dO (aj 1) (xV xZ (aQ _))) (au (aj 2) ay)) c5)) (aV 1)) (bL (aH yb (aj 1) (d7 (au (aj 2) ay))) (aV 1))))
  (eX (aj 1)))) rfl h
noncomputable def GF:av->Dm Fl :=
 (bF (aM DZ (ae (aE jT (ah 0) (ah 1)) ai)))
noncomputable def D2:List D->Dm D:=g9 2 GF
noncomputable def D3:Stmt:=top 19
theorem Um:aN ["one","other"] ["one","other"] (az D3):=⟨rfl,rfl,rfl,by w_fin,rfl,by w_fin,by w_fin⟩
theorem Uo{f:Addr}{fd:FuncData}(D:Def K mg "put_together" D3 ["one","other"] f fd)(T:Txt mg)  {ie:Addr}{ig:FuncData}(ik:Def K mg "made_plain" D0 ["word"] ie ig)(j3:aJ P w K mg base bG 2 ie ig ["word"] (bP K 1 DZ)):aJ P w K mg base bG 3 f fd ["one","other"] (bP K 2 D2):=by
 refine D.F.ok Um (fun _ _ _ _ h=>h.1) (fun c A o s H v Q E hr h=>?_);refine ⟨_,(@bE _ _ _ (@eV _ _ _ _ (b8 j3 ik hr (by decide) rfl (@ao _ _ _ _ _ (cL xt (pv 0) (pv 1)) ax (by rfl))))),?_⟩;exact iZ (b:=GF) (eX (b7 (F:=DZ) (au (aH yb (aj 0) (aj 1)) ay) l8)) rfl h
noncomputable def GG:av->Dm Fl :=
 (aB (aL (aM nD (ae (aM wx (ae (aE bM (ah 0) (ah 2)) (ae (bu (ae (ah 3) ai)) ai))) ai)) (hName 4))
 (aB (eB (aI (aE (nJ true) (ah 4) (ah 0))) (aB (cb (g7 "list" bp (ah 0) (ae (ah 4) ai)))
 (cb (g7 "list" bp (ah 1) (ae (aM D2 (ae (aE bM (ah 1) (ah 2)) (ae (bu (ae (ah 3) ai)) ai))) ai)))) aW)
 (bF (g7 "list" fz (ah 0) (ae (ah 4) ai)))))
noncomputable def zq:List D->Dm D:=g9 5 GG
noncomputable def D4:Stmt:=top 29
theorem NS:aN ["forms","words","place","step","form"] ["forms","words","place","step"] (az D4):=⟨rfl,rfl,rfl,by w_fin,rfl,by w_fin,by w_fin⟩
theorem Up{f:Addr}{fd:FuncData}(D:Def K mg "row_led_to" D4 ["forms","words","place","step"] f fd)(T:Txt mg)  {cg:Addr}{cj:FuncData}(bR:Def K mg "form_of" uN ["floor"] cg cj)(b6:aJ P w K mg base bG 4 cg cj ["floor"] (bP K 1 nD)){ju:Addr}{jv:FuncData}(jw:Def K mg "led_by" AO ["floor","word"] ju jv)(kE:aJ P w K mg base bG 6 ju jv ["floor","word"] (bP K 2 wx)){fE:Addr}{fF:FuncData}(fG:Def K mg "put_together" D3 ["one","other"] fE fF)(iL:aJ P w K mg base bG 3 fE fF ["one","other"] (bP K 2 D2)):aJ P w K mg base bG 7 f fd ["forms","words","place","step"] (bP K 4 zq):=by
 refine D.F.ok NS (fun _ _ _ _ h=>h.1) (fun c A o s H v Q E hr h=>?_);have hu:=hr.units
 refine ⟨_,(@a6 _ _ _ _ _ (@cn (i:=4) _ _ _ _ _ _ NS.nd rfl (by w_up) (b8 b6 bR hr (by decide) rfl (@ao _ _ _ _ _ (b8 kE jw hr (by decide) rfl (@ao _ _ _ _ _ (@bQ _ _ _ _ _ _ _ iU (pv 0) (pv 2) (fun _ _=>rfl)) (@ao _ _ _ _ _ (@d5 _ _ _ _ _ (@ao _ _ _ _ _ (pv 3) ax (by rfl))) ax (by rfl)) (by rfl))) ax (by rfl))) (by rfl) (by w_up))
  (@a6 _ _ _ _ _ (@fW _ _ _ _ _ _ _ _ (dF (LP hu) (pv 4) (pv 0) (by with_unfolding_all rfl)) (@a6 _ _ _ _ _ (mJ (lH PySem.F.plainAttrs_list PySem.F.slot_list_append PySem.F.type_list_append og (pv 0) (@ao _ _ _ _ _ (pv 4) ax (by rfl))))
  (@bE _ _ _ (mJ (lH PySem.F.plainAttrs_list PySem.F.slot_list_append PySem.F.type_list_append og (pv 1) (@ao _ _ _ _ _ (b8 iL fG hr (by decide) rfl (@ao _ _ _ _ _ (@bQ _ _ _ _ _ _ _ iU (pv 1) (pv 2) (fun _ _=>rfl)) (@ao _ _ _ _ _ (@d5 _ _ _ _ _ (@ao _ _ _ _ _ (pv 3) ax (by rfl))) ax (by rfl)) (by rfl))) ax (by rfl)))))) gT)
  (@bE _ _ _ (@eV _ _ _ _ (lH PySem.F.plainAttrs_list PySem.F.slot_list_index PySem.F.type_list_index (LX hu) (pv 0) (@ao _ _ _ _ _ (pv 4) ax (by rfl))))))),?_⟩
 exact iZ (b:=GG) (a7 (bL (b7 (F:=nD) (au (b7 (F:=wx) (au (aH fT (aj 0) (aj 2)) (au (d7 (au (aj 3) ay)) ay)) c5) ay) l8) (aV 4))
  (a7 (fY (dD (aH (FN true) (aj 4) (aj 0))) (a7 (mM (kQ ou (aj 0) (au (aj 4) ay)))
  (mM (kQ ou (aj 1) (au (b7 (F:=D2) (au (aH fT (aj 1) (aj 2)) (au (d7 (au (aj 3) ay)) ay)) c5) ay)))) gU)
  (eX (kQ Nw (aj 0) (au (aj 4) ay))))) rfl h
noncomputable def GH:av->Dm Fl :=
 (aB (aL (cO (ae (aM nD (ae (ah 0) ai)) ai)) (hName 2))
 (aB (aL (cO (ae (bu ai) ai)) (hName 3))
 (aB (aL (cO ai) (hName 4))
 (aB (jV (aI (aE rm (aM cq (ae (ah 4) ai)) (aM cq (ae (ah 2) ai)))) (aB (eB (aI (aE vP (aM cq (ae (ah 2) ai)) (ah 1))) sQ aW)
 (aB (aL (aM cq (ae (ah 4) ai)) (hName 5))
 (aB (aL (aM zq (ae (ah 2) (ae (ah 3) (ae (ah 5) (ae (fC (.tup [(.str "s"),(.int 1)])) ai))))) (hName 6))
 (aB (aL (aM zq (ae (ah 2) (ae (ah 3) (ae (ah 5) (ae (fC (.tup [(.str "t"),(.int 1)])) ai))))) (hName 7))
 (cb (g7 "list" bp (ah 4) (ae (bu (ae (ah 6) (ae (ah 7) ai))) ai))))))))
 (bF (aM bK (ae (dw (cz (ae (aM cq (ae (ah 2) ai)) ai)) 1 [2,3,4] (hName 0) eC (bu (ae (aE bM (ah 1) (ah 0)) (ae (aE bM (ah 2) (ah 0)) (ae (aE bh (aE bM (ah 3) (ah 0)) (fC (.int 0))) (ae (aE bh (aE bM (ah 3) (ah 0)) (fC (.int 1))) ai)))))) ai)))))))
noncomputable def tW:List D->Dm D:=g9 8 GH
noncomputable def AU:Stmt:=top 28
theorem zt:aN ["floor","most","forms","words","leads","place","s","t"] ["floor","most"] (az AU):=⟨rfl,rfl,rfl,by w_fin,rfl,by w_fin,by w_fin⟩
theorem Uq{f:Addr}{fd:FuncData}(D:qP K mg "chart_of" AU ["floor","most"] [V.int 60] f fd)(T:Txt mg){ni:V}(lO:tu K mg "QUARTER" ni (.tup [(.str "t"),(.int 1)])){pX:V}(oI:tu K mg "SHEAR" pX (.tup [(.str "s"),(.int 1)])){cg:Addr}{cj:FuncData}(bR:Def K mg "form_of" uN ["floor"] cg cj)(b6:aJ P w K mg base bG 4 cg cj ["floor"] (bP K 1 nD)){il:Addr}{ip:FuncData}(fI:Def K mg "row_led_to" D4 ["forms","words","place","step"] il ip)(iq:aJ P w K mg base bG 7 il ip ["forms","words","place","step"] (bP K 4 zq)):aJ P w K mg base bG 8 f fd ["floor","most"] (bP K 2 tW):=by
 refine D.F.ok zt (fun _ _ _ _ h=>h.1) (fun c A o s H v Q E hr h=>?_)
 refine ⟨_,(@a6 _ _ _ _ _ (@cn (i:=2) _ _ _ _ _ _ zt.nd rfl (by w_up) (@jN _ _ _ _ (@ao _ _ _ _ _ (b8 b6 bR hr (by decide) rfl (@ao _ _ _ _ _ (pv 0) ax (by rfl))) ax (by rfl))) (by rfl) (by w_up))
  (@a6 _ _ _ _ _ (@cn (i:=3) _ _ _ _ _ _ zt.nd rfl (by w_up) (@jN _ _ _ _ (@ao _ _ _ _ _ (@d5 _ _ _ _ _ ax) ax (by rfl))) (by rfl) (by w_up))
  (@a6 _ _ _ _ _ (@cn (i:=4) _ _ _ _ _ _ zt.nd rfl (by w_up) (@jN _ _ _ _ ax) (by rfl) (by w_up))
  (@a6 _ _ _ _ _ (zU PassesOwn.never (dF ui (fL iD (by rfl) T.bA iE (@ao _ _ _ _ _ (pv 4) ax (by rfl))) (fL iD (by rfl) T.bA iE (@ao _ _ _ _ _ (pv 2) ax (by rfl))) (aK _)) (@a6 _ _ _ _ _ (@fW _ _ _ _ _ _ _ _ (dF zW (fL iD (by rfl) T.bA iE (@ao _ _ _ _ _ (pv 2) ax (by rfl))) (pv 1) (aK _)) (@bE _ _ _ OZ) gT)
  (@a6 _ _ _ _ _ (@cn (i:=5) _ _ _ _ _ _ zt.nd rfl (by w_up) (fL iD (by rfl) T.bA iE (@ao _ _ _ _ _ (pv 4) ax (by rfl))) (by rfl) (by w_up))
  (@a6 _ _ _ _ _ (@cn (i:=6) _ _ _ _ _ _ zt.nd rfl (by w_up) (b8 iq fI hr (by decide) rfl (@ao _ _ _ _ _ (pv 2) (@ao _ _ _ _ _ (pv 3) (@ao _ _ _ _ _ (pv 5) (@ao _ _ _ _ _ (Nk oI rfl rfl (by decide)) ax (by rfl)) (by rfl)) (by rfl)) (by rfl))) (by rfl) (by w_up))
  (@a6 _ _ _ _ _ (@cn (i:=7) _ _ _ _ _ _ zt.nd rfl (by w_up) (b8 iq fI hr (by decide) rfl (@ao _ _ _ _ _ (pv 2) (@ao _ _ _ _ _ (pv 3) (@ao _ _ _ _ _ (pv 5) (@ao _ _ _ _ _ (Nk lO rfl rfl (by decide)) ax (by rfl)) (by rfl)) (by rfl)) (by rfl))) (by rfl) (by w_up))
  (@bE _ _ _ (mJ (lH PySem.F.plainAttrs_list PySem.F.slot_list_append PySem.F.type_list_append og (pv 4) (@ao _ _ _ _ _ (@d5 _ _ _ _ _ (@ao _ _ _ _ _ (pv 6) (@ao _ _ _ _ _ (pv 7) ax (by rfl)) (by rfl))) ax (by rfl))))))))))
  (@bE _ _ _ (@eV _ _ _ _ (d6 mD (by rfl) T.bx mq (@ao _ _ _ _ _ (rh (own:=["k"]) (fr:=["forms","words","leads"]) (js:=[2,3,4]) rfl ⟨⟨rfl,by w_fin,by w_fin,by dsimp only [gw,bg,Cx.nA,Cx.wish,PyProof.Rows.envOfC,compEnvC,relabel,Env.kindOf];decide +kernel,by w_fin⟩,rfl⟩ (oW rfl T.aX (@ao _ _ _ _ _ (fL iD (by rfl) T.bA iE (@ao _ _ _ _ _ (pv 2) ax (by rfl))) ax (by rfl))) (fun _ _ _ _ _=>(dC (i:=0) (show ((["k"]:List Str) ++ (["forms","words","leads"]:List Str)).Nodup by w_fin) rfl (by w_up))) (fun _ _ _ _ _=>qh) (fun _ _ _ _ _=>(@d5 _ _ _ _ _ (@ao _ _ _ _ _ (@bQ _ _ _ _ _ _ _ (tH (K:=K) rfl) (pv 1) (pv 0) (fun _ _=>rfl)) (@ao _ _ _ _ _ (@bQ _ _ _ _ _ _ _ (tH (K:=K) rfl) (pv 2) (pv 0) (fun _ _=>rfl)) (@ao _ _ _ _ _ (@bQ _ _ _ _ _ _ _ (tI (K:=K) rfl) (@bQ _ _ _ _ _ _ _ (tH (K:=K) rfl) (pv 3) (pv 0) (fun _ _=>rfl)) aP (fun _ _=>rfl)) (@ao _ _ _ _ _ (@bQ _ _ _ _ _ _ _ (tI (K:=K) rfl) (@bQ _ _ _ _ _ _ _ (tH (K:=K) rfl) (pv 3) (pv 0) (fun _ _=>rfl)) aP (fun _ _=>rfl)) ax (by rfl)) (by rfl)) (by rfl)) (by rfl))))) ax (by rfl))))))))),?_⟩
 exact iZ (b:=GH) (a7 (bL (jP (au (b7 (F:=nD) (au (aj 0) ay) l8) ay)) (aV 2))
  (a7 (bL (jP (au (d7 ay) ay)) (aV 3))
  (a7 (bL (jP ay) (aV 4))
  (a7 (Ap (dD (aH uD (bS iG (au (aj 4) ay)) (bS iG (au (aj 2) ay)))) (a7 (fY (dD (aH Ak (bS iG (au (aj 2) ay)) (aj 1))) S2 gU)
  (a7 (bL (bS iG (au (aj 4) ay)) (aV 5))
  (a7 (bL (b7 (F:=zq) (au (aj 2) (au (aj 3) (au (aj 5) (au (Nl oI) ay)))) NR) (aV 6))
  (a7 (bL (b7 (F:=zq) (au (aj 2) (au (aj 3) (au (aj 5) (au (Nl lO) ay)))) NR) (aV 7))
  (mM (kQ ou (aj 4) (au (d7 (au (aj 6) (au (aj 7) ay))) ay))))))))
  (eX (bS mx (au (pC (o9 (au (bS iG (au (aj 2) ay)) ay)) (aV 0) qA (d7 (au (aH fT (aj 1) (aj 0)) (au (aH fT (aj 2) (aj 0)) (au (aH dO (aH fT (aj 3) (aj 0)) (aQ _)) (au (aH dO (aH fT (aj 3) (aj 0)) (aQ _)) ay)))))) ay))))))) rfl h
noncomputable def GI:av->Dm Fl :=
 (aB (aL (aM eE (ae (ah 0) (ae (fC (.int 3)) ai))) (hName 1))
 (aB (aL (aE eP (fC (.int 2)) (aM eE (ae (ah 0) (ae (fC (.int 4)) ai)))) (hName 2))
 (aB (aL (aE kJ (aE kJ (aM dc (ae (aM dk (ae (fC (.int 1)) (ae (ah 2) ai))) ai)) (cO (ae (fC (.int 0)) ai))) (aM dc (ae (aM dk (ae (ah 2) (ae (fC (.int 6)) ai))) ai))) (hName 3))
 (aB (aL (aE kJ (aE kJ (aE kJ (cO (ae (ah 2) ai)) (aM dc (ae (aM dk (ae (fC (.int 1)) (ae (ah 2) ai))) ai))) (aM dc (ae (aM dk (ae (aE eP (ah 2) (fC (.int 1))) (ae (fC (.int 6)) ai))) ai))) (cO (ae (fC (.int 0)) ai))) (hName 4))
 (aB (aL (aM wu (ae (bu (ae (aM bK (ae (ah 3) ai)) (ae (aM bK (ae (ah 4) ai)) ai))) (ae (aM wz (ae (ah 0) (ae (fC (.int 4)) (ae (fC (.int 3)) ai)))) ai))) (hName 5))
 (aB (aL (aM sZ (ae (ah 5) (ae (aM oR (ae (ah 0) (ae (fC (.int 6)) ai))) ai))) (hName 5))
 (aB (aL (aM lJ (ae (aM (fun as=>tW (as ++ [.int 60])) (ae (ah 5) ai)) ai)) (hName 6))
 (aB (aL (aM eE (ae (ah 0) (ae (aM cq (ae (ah 6) ai)) ai))) (hName 7))
 (aB (eB (aI (aE (iS false) (ah 1) (fC (.int 1)))) (cb (sP "list" sR (ah 6))) aW)
 (aB (eB (aI (aE (iS false) (ah 1) (fC (.int 2)))) (aB (aL (aE bM (ah 6) (ah 7)) (jU 4 (bU (hName 8) (bU (hName 9) (bU (hName 10) (bU (hName 11) kK))))))
 (aL (bu (ae (ah 8) (ae (ah 9) (ae (aE jL (aE eP (aE eP (ah 10) (fC (.int 1))) (aM eE (ae (ah 0) (ae (aE mX (aM cq (ae (ah 6) ai)) (fC (.int 1))) ai)))) (aM cq (ae (ah 6) ai))) (ae (ah 11) ai))))) (hSub (ah 6) (ah 7)))) aW)
 (aB (aL (aM tV (ae (ah 5) (ae (aM bK (ae (ah 6) ai)) ai))) (hName 12))
 (bF (nh (aM pV (ae (ah 12) (ae (fC (.ty "bool")) ai))) (aE (iS false) (ah 12) (aE (iS false) (ah 1) (fC (.int 0)))))))))))))))))
noncomputable def D5:List D->Dm D:=g9 13 GI
noncomputable def D6:Stmt:=top 51
theorem qH:aN ["_law_feed_here","_law_form_here","_law_wide","_law_right","_law_up","_law_floor_here","_law_rows","_law_at","_law_here","_law_word_here","_law_s","_law_t","_law_found"] ["_law_feed_here"] (az D6):=⟨rfl,rfl,rfl,by w_fin,rfl,by w_fin,by w_fin⟩
theorem Ur{f:Addr}{fd:FuncData}(D:Def K mg "_law_far" D6 ["_law_feed_here"] f fd)(T:Txt mg)  {aS:Addr}{aT:FuncData}(aC:Def K mg "_law_take" sY ["_law_feed_here","_law_many"] aS aT)(aD:aJ P w K mg base bG 1 aS aT ["_law_feed_here","_law_many"] (bP K 2 eE)){e8:Addr}{fe:FuncData}(ff:Def K mg "_law_led" AG ["_law_floor_here","_law_word_here"] e8 fe)(gq:aJ P w K mg base bG 3 e8 fe ["_law_floor_here","_law_word_here"] (bP K 2 wu)){cC:Addr}{cD:FuncData}(cE:Def K mg "_law_anew" zm ["_law_floor_here","_law_p"] cC cD)(cP:aJ P w K mg base bG 1 cC cD ["_law_floor_here","_law_p"] (bP K 2 sZ)){cQ:Addr}{cR:FuncData}(cx:Def K mg "chart_holds" AQ ["floor","chart"] cQ cR)(cS:aJ P w K mg base bG 8 cQ cR ["floor","chart"] (bP K 2 tV)){dW:Addr}{dX:FuncData}(dY:Def K mg "_law_word" AR ["_law_feed_here","_law_most","_law_great"] dW dX)(fg:aJ P w K mg base bG 2 dW dX ["_law_feed_here","_law_most","_law_great"] (bP K 3 wz)){a8:Addr}{a9:FuncData}(aU:Def K mg "_law_turning" wt ["_law_feed_here","_law_n"] a8 a9)(aY:aJ P w K mg base bG 2 a8 a9 ["_law_feed_here","_law_n"] (bP K 2 oR)){fj:Addr}{fq:FuncData}(cK:qP K mg "chart_of" AU ["floor","most"] [V.int 60] fj fq)(gs:aJ P w K mg base bG 8 fj fq ["floor","most"] (bP K 2 tW)):aJ P w K mg base bG 9 f fd ["_law_feed_here"] (bP K 1 D5):=by
 refine D.F.ok qH (fun _ _ _ _ h=>h.1) (fun c A o s H v Q E hr h=>?_)
 refine ⟨_,(@a6 _ _ _ _ _ (@cn (i:=1) _ _ _ _ _ _ qH.nd rfl (by w_up) (b8 aD aC hr (by decide) rfl (@ao _ _ _ _ _ (pv 0) (@ao _ _ _ _ _ aP ax (by rfl)) (by rfl))) (by rfl) (by w_up))
  (@a6 _ _ _ _ _ (@cn (i:=2) _ _ _ _ _ _ qH.nd rfl (by w_up) (cL ml aP (b8 aD aC hr (by decide) rfl (@ao _ _ _ _ _ (pv 0) (@ao _ _ _ _ _ aP ax (by rfl)) (by rfl)))) (by rfl) (by w_up))
  (@a6 _ _ _ _ _ (@cn (i:=3) _ _ _ _ _ _ qH.nd rfl (by w_up) (cL qL (cL qL (d6 (qg rfl) (by rfl) T.cJ nQ (@ao _ _ _ _ _ (d6 tw (by rfl) T.aX qf (@ao _ _ _ _ _ aP (@ao _ _ _ _ _ (pv 2) ax (by rfl)) (by rfl))) ax (by rfl))) (@jN _ _ _ _ (@ao _ _ _ _ _ aP ax (by rfl)))) (d6 (qg rfl) (by rfl) T.cJ nQ (@ao _ _ _ _ _ (d6 tw (by rfl) T.aX qf (@ao _ _ _ _ _ (pv 2) (@ao _ _ _ _ _ aP ax (by rfl)) (by rfl))) ax (by rfl)))) (by rfl) (by w_up))
  (@a6 _ _ _ _ _ (@cn (i:=4) _ _ _ _ _ _ qH.nd rfl (by w_up) (cL qL (cL qL (cL qL (@jN _ _ _ _ (@ao _ _ _ _ _ (pv 2) ax (by rfl))) (d6 (qg rfl) (by rfl) T.cJ nQ (@ao _ _ _ _ _ (d6 tw (by rfl) T.aX qf (@ao _ _ _ _ _ aP (@ao _ _ _ _ _ (pv 2) ax (by rfl)) (by rfl))) ax (by rfl)))) (d6 (qg rfl) (by rfl) T.cJ nQ (@ao _ _ _ _ _ (d6 tw (by rfl) T.aX qf (@ao _ _ _ _ _ (cL ml (pv 2) aP) (@ao _ _ _ _ _ aP ax (by rfl)) (by rfl))) ax (by rfl)))) (@jN _ _ _ _ (@ao _ _ _ _ _ aP ax (by rfl)))) (by rfl) (by w_up))
  (@a6 _ _ _ _ _ (@cn (i:=5) _ _ _ _ _ _ qH.nd rfl (by w_up) (b8 gq ff hr (by decide) rfl (@ao _ _ _ _ _ (@d5 _ _ _ _ _ (@ao _ _ _ _ _ (d6 mD (by rfl) T.bx mq (@ao _ _ _ _ _ (pv 3) ax (by rfl))) (@ao _ _ _ _ _ (d6 mD (by rfl) T.bx mq (@ao _ _ _ _ _ (pv 4) ax (by rfl))) ax (by rfl)) (by rfl))) (@ao _ _ _ _ _ (b8 fg dY hr (by decide) rfl (@ao _ _ _ _ _ (pv 0) (@ao _ _ _ _ _ aP (@ao _ _ _ _ _ aP ax (by rfl)) (by rfl)) (by rfl))) ax (by rfl)) (by rfl))) (by rfl) (by w_up))
  (@a6 _ _ _ _ _ (@cn (i:=5) _ _ _ _ _ _ qH.nd rfl (by w_up) (b8 cP cE hr (by decide) rfl (@ao _ _ _ _ _ (pv 5) (@ao _ _ _ _ _ (b8 aY aU hr (by decide) rfl (@ao _ _ _ _ _ (pv 0) (@ao _ _ _ _ _ aP ax (by rfl)) (by rfl))) ax (by rfl)) (by rfl))) (by rfl) (by w_up))
  (@a6 _ _ _ _ _ (@cn (i:=6) _ _ _ _ _ _ qH.nd rfl (by w_up) (d6 zY (by rfl) T.cJ nQ (@ao _ _ _ _ _ (L0 gs (hr.mono (by decide)) rfl cK.m cK.F.kp cK.bd rV (@ao _ _ _ _ _ (pv 5) ax (by rfl))) ax (by rfl))) (by rfl) (by w_up))
  (@a6 _ _ _ _ _ (@cn (i:=7) _ _ _ _ _ _ qH.nd rfl (by w_up) (b8 aD aC hr (by decide) rfl (@ao _ _ _ _ _ (pv 0) (@ao _ _ _ _ _ (fL iD (by rfl) T.bA iE (@ao _ _ _ _ _ (pv 6) ax (by rfl))) ax (by rfl)) (by rfl))) (by rfl) (by w_up))
  (@a6 _ _ _ _ _ (@fW _ _ _ _ _ _ _ _ (dF lS (pv 1) aP (aK _)) (@bE _ _ _ (mJ (Li PySem.F.plainAttrs_list PySem.F.slot_list_pop PySem.F.type_list_pop Ll (pv 6)))) gT)
  (@a6 _ _ _ _ _ (@fW _ _ _ _ _ _ _ _ (dF lS (pv 1) aP (aK _)) (@a6 _ _ _ _ _ (oM (@bQ _ _ _ _ _ _ _ iU (pv 6) (pv 7) (fun _ _=>rfl)) (p7 (n:=4) rfl (kl (dC (i:=8) qH.nd rfl (by w_up)) (kl (dC (i:=9) qH.nd rfl (by w_up)) (kl (dC (i:=10) qH.nd rfl (by w_up)) (kl (dC (i:=11) qH.nd rfl (by w_up)) p6))))))
  (@bE _ _ _ (oM (@d5 _ _ _ _ _ (@ao _ _ _ _ _ (pv 8) (@ao _ _ _ _ _ (pv 9) (@ao _ _ _ _ _ (cL p8 (cL ml (cL ml (pv 10) aP) (b8 aD aC hr (by decide) rfl (@ao _ _ _ _ _ (pv 0) (@ao _ _ _ _ _ (cL zV (fL iD (by rfl) T.bA iE (@ao _ _ _ _ _ (pv 6) ax (by rfl))) aP) ax (by rfl)) (by rfl)))) (fL iD (by rfl) T.bA iE (@ao _ _ _ _ _ (pv 6) ax (by rfl)))) (@ao _ _ _ _ _ (pv 11) ax (by rfl)) (by rfl)) (by rfl)) (by rfl))) (pF (pv 6) (pv 7) pI)))) gT)
  (@a6 _ _ _ _ _ (@cn (i:=12) _ _ _ _ _ _ qH.nd rfl (by w_up) (b8 cS cx hr (by decide) rfl (@ao _ _ _ _ _ (pv 5) (@ao _ _ _ _ _ (d6 mD (by rfl) T.bx mq (@ao _ _ _ _ _ (pv 6) ax (by rfl))) ax (by rfl)) (by rfl))) (by rfl) (by w_up))
  (@bE _ _ _ (@eV _ _ _ _ (EG (fL Ng (by rfl) T.lM Lx (@ao _ _ _ _ _ (pv 12) (@ao _ _ _ _ _ (KA (v:=.ty "bool") rfl T.sU Lw rfl) ax (by rfl)) (by rfl))) (Hn (xf lS (pv 12) (xf lS (pv 1) aP (aK _)) (aK _))))))))))))))))),?_⟩
 exact iZ (b:=GI) (a7 (bL (b7 (F:=eE) (au (aj 0) (au (aQ _) ay)) c5) (aV 1))
  (a7 (bL (aH mw (aQ _) (b7 (F:=eE) (au (aj 0) (au (aQ _) ay)) c5)) (aV 2))
  (a7 (bL (aH qU (aH qU (bS qx (au (bS tP (au (aQ _) (au (aj 2) ay))) ay)) (jP (au (aQ _) ay))) (bS qx (au (bS tP (au (aj 2) (au (aQ _) ay))) ay))) (aV 3))
  (a7 (bL (aH qU (aH qU (aH qU (jP (au (aj 2) ay)) (bS qx (au (bS tP (au (aQ _) (au (aj 2) ay))) ay))) (bS qx (au (bS tP (au (aH mw (aj 2) (aQ _)) (au (aQ _) ay))) ay))) (jP (au (aQ _) ay))) (aV 4))
  (a7 (bL (b7 (F:=wu) (au (d7 (au (bS mx (au (aj 3) ay)) (au (bS mx (au (aj 4) ay)) ay))) (au (b7 (F:=wz) (au (aj 0) (au (aQ _) (au (aQ _) ay))) wo) ay)) c5) (aV 5))
  (a7 (bL (b7 (F:=sZ) (au (aj 5) (au (b7 (F:=oR) (au (aj 0) (au (aQ _) ay)) c5) ay)) c5) (aV 5))
  (a7 (bL (bS Ao (au (NQ (m:=1) (F:=tW) (Dp:=[.int 60]) (au (aj 5) ay) l8 rfl (fun _ _=>.cons (.int _) (.nil))) ay)) (aV 6))
  (a7 (bL (b7 (F:=eE) (au (aj 0) (au (bS iG (au (aj 6) ay)) ay)) c5) (aV 7))
  (a7 (fY (dD (aH lY (aj 1) (aQ _))) (mM (Nu NC (aj 6))) gU)
  (a7 (fY (dD (aH lY (aj 1) (aQ _))) (a7 (bL (aH fT (aj 6) (aj 7)) (qz (kn (aV 8) (kn (aV 9) (kn (aV 10) (kn (aV 11) qy))))))
  (bL (d7 (au (aj 8) (au (aj 9) (au (aH qv (aH mw (aH mw (aj 10) (aQ _)) (b7 (F:=eE) (au (aj 0) (au (aH Aj (bS iG (au (aj 6) ay)) (aQ _)) ay)) c5)) (bS iG (au (aj 6) ay))) (au (aj 11) ay))))) (pQ (aj 6) (aj 7)))) gU)
  (a7 (bL (b7 (F:=tV) (au (aj 5) (au (bS mx (au (aj 6) ay)) ay)) c5) (aV 12))
  (eX (Ft (bS Nj (au (aj 12) (au (vL _) ay))) (aH lY (aj 12) (aH lY (aj 1) (aQ _)))))))))))))))) rfl h
noncomputable def GJ:av->Dm Fl :=
 (aB (aL (aM eE (ae (ah 0) (ae (fC (.int 4)) ai))) (hName 2))
 (aB (aL (aM lJ (ae (aM oR (ae (ah 0) (ae (aM cq (ae (ah 1) ai)) ai))) ai)) (hName 3))
 (aB (eB (aI (aE vP (ah 2) (fC (.int 0)))) (aB (cb (g7 "list" i3 (ah 3) (ae (fC (.int 0)) ai)))
 (cb (g7 "list" jk (ah 3) (ae (fC (.int 0)) (ae (fC (.int 0)) ai))))) aW)
 (aB (aL (cO ai) (hName 4))
 (aB (dE (jW (ah 3)) (hName 5) (aB (aL (aE bh (ah 1) (ah 5)) (jU 4 (bU (hName 6) (bU (hName 7) (bU (hName 8) (bU (hName 9) kK))))))
 (aB (aL (aM oR (ae (ah 0) (ae (aM cq (ae (aE bh (ah 6) (fC (.int 0))) ai)) ai))) (hName 10))
 (aB (aL (aE eP (fC (.int 1)) (aM eE (ae (ah 0) (ae (fC (.int 5)) ai)))) (hName 11))
 (aB (aL (aE mG (aM eE (ae (ah 0) (ae (fC (.int 3)) ai))) (aM o7 (ae (aE rm (aM cq (ae (ah 7) ai)) (fC (.int 11))) ai))) (hName 12))
 (aB (aL (aE bM (cO (ae (ah 7) (ae (aE jT (bu (ae (bu (ae (fC (.str "s")) (ae (ah 11) ai))) (ae (bu (ae (fC (.str "s")) (ae (aE mX (fC (.int 0)) (ah 11)) ai))) ai))) (ah 7)) (ae (aE jT (ah 7) (bu (ae (bu (ae (fC (.str "t")) (ae (fC (.int 1)) ai))) (ae (bu (ae (fC (.str "t")) (ae (fC (.int 3)) ai))) ai)))) ai)))) (ah 12)) (hName 7))
 (cb (g7 "list" bp (ah 4) (ae (bu (ae (aM sZ (ae (ah 6) (ae (ah 10) ai))) (ae (ah 7) (ae (g7 "list" g8 (ah 3) (ae (ah 8) ai)) (ae (g7 "list" g8 (ah 3) (ae (ah 9) ai)) ai))))) ai)))))))))
 (bF (aM bK (ae (ah 4) ai))))))))
noncomputable def D7:List D->Dm D:=g9 13 GJ
noncomputable def D8:Stmt:=top 50
theorem qX:aN ["_law_feed_here","_law_chart_here","_law_whole","_law_order","_law_found","_law_at","_law_here","_law_word_here","_law_s","_law_t","_law_p","_law_k","_law_way"] ["_law_feed_here","_law_chart_here"] (az D8):=⟨rfl,rfl,rfl,by w_fin,rfl,by w_fin,by w_fin⟩
theorem Us{f:Addr}{fd:FuncData}(D:Def K mg "_law_turned_about" D8 ["_law_feed_here","_law_chart_here"] f fd)(T:Txt mg)  {aS:Addr}{aT:FuncData}(aC:Def K mg "_law_take" sY ["_law_feed_here","_law_many"] aS aT)(aD:aJ P w K mg base bG 1 aS aT ["_law_feed_here","_law_many"] (bP K 2 eE)){a8:Addr}{a9:FuncData}(aU:Def K mg "_law_turning" wt ["_law_feed_here","_law_n"] a8 a9)(aY:aJ P w K mg base bG 2 a8 a9 ["_law_feed_here","_law_n"] (bP K 2 oR)){cC:Addr}{cD:FuncData}(cE:Def K mg "_law_anew" zm ["_law_floor_here","_law_p"] cC cD)(cP:aJ P w K mg base bG 1 cC cD ["_law_floor_here","_law_p"] (bP K 2 sZ)):aJ P w K mg base bG 3 f fd ["_law_feed_here","_law_chart_here"] (bP K 2 D7):=by
 refine D.F.ok qX (fun _ _ _ _ h=>h.1) (fun c A o s H v Q E hr h=>?_)
 refine ⟨_,(@a6 _ _ _ _ _ (@cn (i:=2) _ _ _ _ _ _ qX.nd rfl (by w_up) (b8 aD aC hr (by decide) rfl (@ao _ _ _ _ _ (pv 0) (@ao _ _ _ _ _ aP ax (by rfl)) (by rfl))) (by rfl) (by w_up))
  (@a6 _ _ _ _ _ (@cn (i:=3) _ _ _ _ _ _ qX.nd rfl (by w_up) (d6 zY (by rfl) T.cJ nQ (@ao _ _ _ _ _ (b8 aY aU hr (by decide) rfl (@ao _ _ _ _ _ (pv 0) (@ao _ _ _ _ _ (fL iD (by rfl) T.bA iE (@ao _ _ _ _ _ (pv 1) ax (by rfl))) ax (by rfl)) (by rfl))) ax (by rfl))) (by rfl) (by w_up))
  (@a6 _ _ _ _ _ (@fW _ _ _ _ _ _ _ _ (dF zW (pv 2) aP (aK _)) (@a6 _ _ _ _ _ (mJ (lH PySem.F.plainAttrs_list PySem.F.slot_list_remove PySem.F.type_list_remove Qx (pv 3) (@ao _ _ _ _ _ aP ax (by rfl))))
  (@bE _ _ _ (mJ (lH PySem.F.plainAttrs_list PySem.F.slot_list_insert PySem.F.type_list_insert LZ (pv 3) (@ao _ _ _ _ _ aP (@ao _ _ _ _ _ aP ax (by rfl)) (by rfl)))))) gT)
  (@a6 _ _ _ _ _ (@cn (i:=4) _ _ _ _ _ _ qX.nd rfl (by w_up) (@jN _ _ _ _ ax) (by rfl) (by w_up))
  (@a6 _ _ _ _ _ (@lQ _ _ _ _ _ _ _ _ PassesOwn.never rfl (Bm (pv 3)) (dC (i:=5) qX.nd rfl (by w_up)) (@a6 _ _ _ _ _ (oM (@bQ _ _ _ _ _ _ _ fw (pv 1) (pv 5) (fun _ _=>rfl)) (p7 (n:=4) rfl (kl (dC (i:=6) qX.nd rfl (by w_up)) (kl (dC (i:=7) qX.nd rfl (by w_up)) (kl (dC (i:=8) qX.nd rfl (by w_up)) (kl (dC (i:=9) qX.nd rfl (by w_up)) p6))))))
  (@a6 _ _ _ _ _ (@cn (i:=10) _ _ _ _ _ _ qX.nd rfl (by w_up) (b8 aY aU hr (by decide) rfl (@ao _ _ _ _ _ (pv 0) (@ao _ _ _ _ _ (fL iD (by rfl) T.bA iE (@ao _ _ _ _ _ (@bQ _ _ _ _ _ _ _ fw (pv 6) aP (fun _ _=>rfl)) ax (by rfl))) ax (by rfl)) (by rfl))) (by rfl) (by w_up))
  (@a6 _ _ _ _ _ (@cn (i:=11) _ _ _ _ _ _ qX.nd rfl (by w_up) (cL ml aP (b8 aD aC hr (by decide) rfl (@ao _ _ _ _ _ (pv 0) (@ao _ _ _ _ _ aP ax (by rfl)) (by rfl)))) (by rfl) (by w_up))
  (@a6 _ _ _ _ _ (@cn (i:=12) _ _ _ _ _ _ qX.nd rfl (by w_up) (cL uh (b8 aD aC hr (by decide) rfl (@ao _ _ _ _ _ (pv 0) (@ao _ _ _ _ _ aP ax (by rfl)) (by rfl))) (d6 O8 (by rfl) T.Dr xr (@ao _ _ _ _ _ (xf ui (fL iD (by rfl) T.bA iE (@ao _ _ _ _ _ (pv 7) ax (by rfl))) aP (aK _)) ax (by rfl)))) (by rfl) (by w_up))
  (@a6 _ _ _ _ _ (@cn (i:=7) _ _ _ _ _ _ qX.nd rfl (by w_up) (@bQ _ _ _ _ _ _ _ iU (@jN _ _ _ _ (@ao _ _ _ _ _ (pv 7) (@ao _ _ _ _ _ (cL xt (@d5 _ _ _ _ _ (@ao _ _ _ _ _ (@d5 _ _ _ _ _ (@ao _ _ _ _ _ p5 (@ao _ _ _ _ _ (pv 11) ax (by rfl)) (by rfl))) (@ao _ _ _ _ _ (@d5 _ _ _ _ _ (@ao _ _ _ _ _ p5 (@ao _ _ _ _ _ (cL zV aP (pv 11)) ax (by rfl)) (by rfl))) ax (by rfl)) (by rfl))) (pv 7)) (@ao _ _ _ _ _ (cL xt (pv 7) (@d5 _ _ _ _ _ (@ao _ _ _ _ _ (@d5 _ _ _ _ _ (@ao _ _ _ _ _ p5 (@ao _ _ _ _ _ aP ax (by rfl)) (by rfl))) (@ao _ _ _ _ _ (@d5 _ _ _ _ _ (@ao _ _ _ _ _ p5 (@ao _ _ _ _ _ aP ax (by rfl)) (by rfl))) ax (by rfl)) (by rfl)))) ax (by rfl)) (by rfl)) (by rfl))) (pv 12) (fun _ _=>rfl)) (by rfl) (by w_up))
  (@bE _ _ _ (mJ (lH PySem.F.plainAttrs_list PySem.F.slot_list_append PySem.F.type_list_append og (pv 4) (@ao _ _ _ _ _ (@d5 _ _ _ _ _ (@ao _ _ _ _ _ (b8 cP cE hr (by decide) rfl (@ao _ _ _ _ _ (pv 6) (@ao _ _ _ _ _ (pv 10) ax (by rfl)) (by rfl))) (@ao _ _ _ _ _ (pv 7) (@ao _ _ _ _ _ (lH PySem.F.plainAttrs_list PySem.F.slot_list_index PySem.F.type_list_index Jq (pv 3) (@ao _ _ _ _ _ (pv 8) ax (by rfl))) (@ao _ _ _ _ _ (lH PySem.F.plainAttrs_list PySem.F.slot_list_index PySem.F.type_list_index Jq (pv 3) (@ao _ _ _ _ _ (pv 9) ax (by rfl))) ax (by rfl)) (by rfl)) (by rfl)) (by rfl))) ax (by rfl)))))))))) (by intro _;rfl))
  (@bE _ _ _ (@eV _ _ _ _ (d6 mD (by rfl) T.bx mq (@ao _ _ _ _ _ (pv 4) ax (by rfl)))))))))),?_⟩
 exact iZ (b:=GJ) (a7 (bL (b7 (F:=eE) (au (aj 0) (au (aQ _) ay)) c5) (aV 2))
  (a7 (bL (bS Ao (au (b7 (F:=oR) (au (aj 0) (au (bS iG (au (aj 1) ay)) ay)) c5) ay)) (aV 3))
  (a7 (fY (dD (aH Ak (aj 2) (aQ _))) (a7 (mM (kQ S4 (aj 3) (au (aQ _) ay)))
  (mM (kQ Nz (aj 3) (au (aQ _) (au (aQ _) ay))))) gU)
  (a7 (bL (jP ay) (aV 4))
  (a7 (lZ (CI (aj 3)) (aV 5) (a7 (bL (aH dO (aj 1) (aj 5)) (qz (kn (aV 6) (kn (aV 7) (kn (aV 8) (kn (aV 9) qy))))))
  (a7 (bL (b7 (F:=oR) (au (aj 0) (au (bS iG (au (aH dO (aj 6) (aQ _)) ay)) ay)) c5) (aV 10))
  (a7 (bL (aH mw (aQ _) (b7 (F:=eE) (au (aj 0) (au (aQ _) ay)) c5)) (aV 11))
  (a7 (bL (aH uC (b7 (F:=eE) (au (aj 0) (au (aQ _) ay)) c5) (bS Ry (au (aH uD (bS iG (au (aj 7) ay)) (aQ _)) ay))) (aV 12))
  (a7 (bL (aH fT (jP (au (aj 7) (au (aH yb (d7 (au (d7 (au (qu _) (au (aj 11) ay))) (au (d7 (au (qu _) (au (aH Aj (aQ _) (aj 11)) ay))) ay))) (aj 7)) (au (aH yb (aj 7) (d7 (au (d7 (au (qu _) (au (aQ _) ay))) (au (d7 (au (qu _) (au (aQ _) ay))) ay)))) ay)))) (aj 12)) (aV 7))
  (mM (kQ ou (aj 4) (au (d7 (au (b7 (F:=sZ) (au (aj 6) (au (aj 10) ay)) c5) (au (aj 7) (au (kQ Jr (aj 3) (au (aj 8) ay)) (au (kQ Jr (aj 3) (au (aj 9) ay)) ay))))) ay)))))))))
  (eX (bS mx (au (aj 4) ay)))))))) rfl h
noncomputable def GK:av->Dm Fl :=
 (aB (aL (aM eE (ae (ah 0) (ae (fC (.int 9)) ai))) (hName 3))
 (aB (aL (aM lJ (ae (ah 2) ai)) (hName 4))
 (aB (aL (aM eE (ae (ah 0) (ae (aM nU (ae (fC (.int 1)) (ae (aM cq (ae (ah 4) ai)) ai))) ai))) (hName 5))
 (aB (aL (aM eE (ae (ah 0) (ae (aM nU (ae (fC (.int 1)) (ae (aM cq (ae (ah 4) ai)) ai))) ai))) (hName 6))
 (aB (eB (aI (aE (gD false) (ah 4) (cO ai))) (bF (bu (ae (bu (ae (ah 1) (ae (bu ai) (ae (fC (.int 0)) (ae (fC (.int 0)) ai))))) ai))) aW)
 (aB (aL (aE bM (ah 4) (ah 5)) (jU 4 (bU (hName 7) (bU (hName 8) (bU (hName 9) (bU (hName 10) kK))))))
 (aB (aL (aE bM (cO (ae (ah 6) (ae (aE mX (fC (.int 0)) (fC (.int 1))) (ae (aM cq (ae (ah 4) ai)) (ae (ah 9) (ae (ah 10) ai)))))) (aM eE (ae (ah 0) (ae (fC (.int 5)) ai)))) (hName 11))
 (aB (eB (aI (aE (iS false) (ah 3) (fC (.int 0)))) (cb (g7 "list" kW (ah 4) (ae (ah 5) ai))) aW)
 (aB (eB (aI (aE (iS false) (ah 3) (fC (.int 1)))) (cb (g7 "list" jk (ah 4) (ae (ah 6) (ae (aE bM (ah 4) (ah 5)) ai)))) aW)
 (aB (eB (aI (aE (iS false) (ah 3) (fC (.int 2)))) (aL (bu (ae (ah 7) (ae (ah 8) (ae (ah 11) (ae (ah 10) ai))))) (hSub (ah 4) (ah 5))) aW)
 (aB (eB (aI (aE (iS false) (ah 3) (fC (.int 3)))) (aL (bu (ae (ah 7) (ae (ah 8) (ae (ah 9) (ae (ah 11) ai))))) (hSub (ah 4) (ah 5))) aW)
 (aB (eB (aI (aE (iS false) (ah 3) (fC (.int 4)))) (aL (bu (ae (aE bh (aE bM (ah 4) (ah 6)) (fC (.int 0))) (ae (ah 8) (ae (ah 9) (ae (ah 10) ai))))) (hSub (ah 4) (ah 5))) aW)
 (aB (eB (aI (aE (iS false) (ah 3) (fC (.int 5)))) (aL (bu (ae (ah 7) (ae (aE bh (aE bM (ah 4) (ah 6)) (fC (.int 1))) (ae (ah 9) (ae (ah 10) ai))))) (hSub (ah 4) (ah 5))) aW)
 (aB (eB (aI (aE (iS false) (ah 3) (fC (.int 6)))) (aL (bu (ae (ah 7) (ae (aM wz (ae (ah 0) (ae (fC (.int 6)) (ae (fC (.int 4)) ai)))) (ae (ah 9) (ae (ah 10) ai))))) (hSub (ah 4) (ah 5))) aW)
 (aB (eB (aI (aE (iS false) (ah 3) (fC (.int 7)))) (aL (bu (ae (aM rC (ae (ah 0) (ae (aE eP (fC (.int 1)) (aM eE (ae (ah 0) (ae (fC (.int 5)) ai)))) ai))) (ae (ah 8) (ae (ah 9) (ae (ah 10) ai))))) (hSub (ah 4) (ah 5))) aW)
 (aB (eB (aI (aE (iS false) (ah 3) (fC (.int 8)))) (aL (bu (ae (aE bM (ah 4) (ah 6)) (ae (aE bM (ah 4) (ah 5)) ai))) (jU 2 (bU (hSub (ah 4) (ah 5)) (bU (hSub (ah 4) (ah 6)) kK)))) aW)
 (bF (aM bK (ae (ah 4) ai)))))))))))))))))))
noncomputable def D9:List D->Dm D:=g9 12 GK
noncomputable def Ea:Stmt:=top 49
theorem tZ:aN ["_law_feed_here","_law_floor_here","_law_chart_here","_law_form_here","_law_rows","_law_at","_law_to","_law_here","_law_word_here","_law_s","_law_t","_law_number"] ["_law_feed_here","_law_floor_here","_law_chart_here"] (az Ea):=⟨rfl,rfl,rfl,by w_fin,rfl,by w_fin,by w_fin⟩
theorem Ut{f:Addr}{fd:FuncData}(D:Def K mg "_law_otherwise" Ea ["_law_feed_here","_law_floor_here","_law_chart_here"] f fd)(T:Txt mg)  {aS:Addr}{aT:FuncData}(aC:Def K mg "_law_take" sY ["_law_feed_here","_law_many"] aS aT)(aD:aJ P w K mg base bG 1 aS aT ["_law_feed_here","_law_many"] (bP K 2 eE)){dW:Addr}{dX:FuncData}(dY:Def K mg "_law_word" AR ["_law_feed_here","_law_most","_law_great"] dW dX)(fg:aJ P w K mg base bG 2 dW dX ["_law_feed_here","_law_most","_law_great"] (bP K 3 wz)){de:Addr}{df:FuncData}(cy:Def K mg "_law_floor" Ay ["_law_feed_here","_law_n"] de df)(cN:aJ P w K mg base bG 3 de df ["_law_feed_here","_law_n"] (bP K 2 rC)):aJ P w K mg base bG 4 f fd ["_law_feed_here","_law_floor_here","_law_chart_here"] (bP K 3 D9):=by
 refine D.F.ok tZ (fun _ _ _ _ h=>h.1) (fun c A o s H v Q E hr h=>?_);have hu:=hr.units
 refine ⟨_,(@a6 _ _ _ _ _ (@cn (i:=3) _ _ _ _ _ _ tZ.nd rfl (by w_up) (b8 aD aC hr (by decide) rfl (@ao _ _ _ _ _ (pv 0) (@ao _ _ _ _ _ aP ax (by rfl)) (by rfl))) (by rfl) (by w_up))
  (@a6 _ _ _ _ _ (@cn (i:=4) _ _ _ _ _ _ tZ.nd rfl (by w_up) (d6 zY (by rfl) T.cJ nQ (@ao _ _ _ _ _ (pv 2) ax (by rfl))) (by rfl) (by w_up))
  (@a6 _ _ _ _ _ (@cn (i:=5) _ _ _ _ _ _ tZ.nd rfl (by w_up) (b8 aD aC hr (by decide) rfl (@ao _ _ _ _ _ (pv 0) (@ao _ _ _ _ _ (fL (Ht rfl) (by rfl) T.sW HL (@ao _ _ _ _ _ aP (@ao _ _ _ _ _ (fL iD (by rfl) T.bA iE (@ao _ _ _ _ _ (pv 4) ax (by rfl))) ax (by rfl)) (by rfl))) ax (by rfl)) (by rfl))) (by rfl) (by w_up))
  (@a6 _ _ _ _ _ (@cn (i:=6) _ _ _ _ _ _ tZ.nd rfl (by w_up) (b8 aD aC hr (by decide) rfl (@ao _ _ _ _ _ (pv 0) (@ao _ _ _ _ _ (fL (Ht rfl) (by rfl) T.sW HL (@ao _ _ _ _ _ aP (@ao _ _ _ _ _ (fL iD (by rfl) T.bA iE (@ao _ _ _ _ _ (pv 4) ax (by rfl))) ax (by rfl)) (by rfl))) ax (by rfl)) (by rfl))) (by rfl) (by w_up))
  (@a6 _ _ _ _ _ (@fW _ _ _ _ _ _ _ _ (dF (HP hu) (pv 4) (@jN _ _ _ _ ax) (aK _)) (@bE _ _ _ (@eV _ _ _ _ (@d5 _ _ _ _ _ (@ao _ _ _ _ _ (@d5 _ _ _ _ _ (@ao _ _ _ _ _ (pv 1) (@ao _ _ _ _ _ (@d5 _ _ _ _ _ ax) (@ao _ _ _ _ _ aP (@ao _ _ _ _ _ aP ax (by rfl)) (by rfl)) (by rfl)) (by rfl))) ax (by rfl))))) gT)
  (@a6 _ _ _ _ _ (oM (@bQ _ _ _ _ _ _ _ iU (pv 4) (pv 5) (fun _ _=>rfl)) (p7 (n:=4) rfl (kl (dC (i:=7) tZ.nd rfl (by w_up)) (kl (dC (i:=8) tZ.nd rfl (by w_up)) (kl (dC (i:=9) tZ.nd rfl (by w_up)) (kl (dC (i:=10) tZ.nd rfl (by w_up)) p6))))))
  (@a6 _ _ _ _ _ (@cn (i:=11) _ _ _ _ _ _ tZ.nd rfl (by w_up) (@bQ _ _ _ _ _ _ _ iU (@jN _ _ _ _ (@ao _ _ _ _ _ (pv 6) (@ao _ _ _ _ _ (cL zV aP aP) (@ao _ _ _ _ _ (fL iD (by rfl) T.bA iE (@ao _ _ _ _ _ (pv 4) ax (by rfl))) (@ao _ _ _ _ _ (pv 9) (@ao _ _ _ _ _ (pv 10) ax (by rfl)) (by rfl)) (by rfl)) (by rfl)) (by rfl))) (b8 aD aC hr (by decide) rfl (@ao _ _ _ _ _ (pv 0) (@ao _ _ _ _ _ aP ax (by rfl)) (by rfl))) (fun _ _=>rfl)) (by rfl) (by w_up))
  (@a6 _ _ _ _ _ (@fW _ _ _ _ _ _ _ _ (dF lS (pv 3) aP (aK _)) (@bE _ _ _ (mJ (lH PySem.F.plainAttrs_list PySem.F.slot_list_pop PySem.F.type_list_pop Lm (pv 4) (@ao _ _ _ _ _ (pv 5) ax (by rfl))))) gT)
  (@a6 _ _ _ _ _ (@fW _ _ _ _ _ _ _ _ (dF lS (pv 3) aP (aK _)) (@bE _ _ _ (mJ (lH PySem.F.plainAttrs_list PySem.F.slot_list_insert PySem.F.type_list_insert LZ (pv 4) (@ao _ _ _ _ _ (pv 6) (@ao _ _ _ _ _ (@bQ _ _ _ _ _ _ _ iU (pv 4) (pv 5) (fun _ _=>rfl)) ax (by rfl)) (by rfl))))) gT)
  (@a6 _ _ _ _ _ (@fW _ _ _ _ _ _ _ _ (dF lS (pv 3) aP (aK _)) (@bE _ _ _ (oM (@d5 _ _ _ _ _ (@ao _ _ _ _ _ (pv 7) (@ao _ _ _ _ _ (pv 8) (@ao _ _ _ _ _ (pv 11) (@ao _ _ _ _ _ (pv 10) ax (by rfl)) (by rfl)) (by rfl)) (by rfl))) (pF (pv 4) (pv 5) pI))) gT)
  (@a6 _ _ _ _ _ (@fW _ _ _ _ _ _ _ _ (dF lS (pv 3) aP (aK _)) (@bE _ _ _ (oM (@d5 _ _ _ _ _ (@ao _ _ _ _ _ (pv 7) (@ao _ _ _ _ _ (pv 8) (@ao _ _ _ _ _ (pv 9) (@ao _ _ _ _ _ (pv 11) ax (by rfl)) (by rfl)) (by rfl)) (by rfl))) (pF (pv 4) (pv 5) pI))) gT)
  (@a6 _ _ _ _ _ (@fW _ _ _ _ _ _ _ _ (dF lS (pv 3) aP (aK _)) (@bE _ _ _ (oM (@d5 _ _ _ _ _ (@ao _ _ _ _ _ (@bQ _ _ _ _ _ _ _ fw (@bQ _ _ _ _ _ _ _ iU (pv 4) (pv 6) (fun _ _=>rfl)) aP (fun _ _=>rfl)) (@ao _ _ _ _ _ (pv 8) (@ao _ _ _ _ _ (pv 9) (@ao _ _ _ _ _ (pv 10) ax (by rfl)) (by rfl)) (by rfl)) (by rfl))) (pF (pv 4) (pv 5) pI))) gT)
  (@a6 _ _ _ _ _ (@fW _ _ _ _ _ _ _ _ (dF lS (pv 3) aP (aK _)) (@bE _ _ _ (oM (@d5 _ _ _ _ _ (@ao _ _ _ _ _ (pv 7) (@ao _ _ _ _ _ (@bQ _ _ _ _ _ _ _ fw (@bQ _ _ _ _ _ _ _ iU (pv 4) (pv 6) (fun _ _=>rfl)) aP (fun _ _=>rfl)) (@ao _ _ _ _ _ (pv 9) (@ao _ _ _ _ _ (pv 10) ax (by rfl)) (by rfl)) (by rfl)) (by rfl))) (pF (pv 4) (pv 5) pI))) gT)
  (@a6 _ _ _ _ _ (@fW _ _ _ _ _ _ _ _ (dF lS (pv 3) aP (aK _)) (@bE _ _ _ (oM (@d5 _ _ _ _ _ (@ao _ _ _ _ _ (pv 7) (@ao _ _ _ _ _ (b8 fg dY hr (by decide) rfl (@ao _ _ _ _ _ (pv 0) (@ao _ _ _ _ _ aP (@ao _ _ _ _ _ aP ax (by rfl)) (by rfl)) (by rfl))) (@ao _ _ _ _ _ (pv 9) (@ao _ _ _ _ _ (pv 10) ax (by rfl)) (by rfl)) (by rfl)) (by rfl))) (pF (pv 4) (pv 5) pI))) gT)
  (@a6 _ _ _ _ _ (@fW _ _ _ _ _ _ _ _ (dF lS (pv 3) aP (aK _)) (@bE _ _ _ (oM (@d5 _ _ _ _ _ (@ao _ _ _ _ _ (b8 cN cy hr (by decide) rfl (@ao _ _ _ _ _ (pv 0) (@ao _ _ _ _ _ (cL ml aP (b8 aD aC hr (by decide) rfl (@ao _ _ _ _ _ (pv 0) (@ao _ _ _ _ _ aP ax (by rfl)) (by rfl)))) ax (by rfl)) (by rfl))) (@ao _ _ _ _ _ (pv 8) (@ao _ _ _ _ _ (pv 9) (@ao _ _ _ _ _ (pv 10) ax (by rfl)) (by rfl)) (by rfl)) (by rfl))) (pF (pv 4) (pv 5) pI))) gT)
  (@a6 _ _ _ _ _ (@fW _ _ _ _ _ _ _ _ (dF lS (pv 3) aP (aK _)) (@bE _ _ _ (oM (@d5 _ _ _ _ _ (@ao _ _ _ _ _ (@bQ _ _ _ _ _ _ _ iU (pv 4) (pv 6) (fun _ _=>rfl)) (@ao _ _ _ _ _ (@bQ _ _ _ _ _ _ _ iU (pv 4) (pv 5) (fun _ _=>rfl)) ax (by rfl)) (by rfl))) (p7 (n:=2) rfl (kl (pF (pv 4) (pv 5) pI) (kl (pF (pv 4) (pv 6) pI) p6))))) gT)
  (@bE _ _ _ (@eV _ _ _ _ (d6 mD (by rfl) T.bx mq (@ao _ _ _ _ _ (pv 4) ax (by rfl))))))))))))))))))))),?_⟩
 exact iZ (b:=GK) (a7 (bL (b7 (F:=eE) (au (aj 0) (au (aQ _) ay)) c5) (aV 3))
  (a7 (bL (bS Ao (au (aj 2) ay)) (aV 4))
  (a7 (bL (b7 (F:=eE) (au (aj 0) (au (bS Jc (au (aQ _) (au (bS iG (au (aj 4) ay)) ay))) ay)) c5) (aV 5))
  (a7 (bL (b7 (F:=eE) (au (aj 0) (au (bS Jc (au (aQ _) (au (bS iG (au (aj 4) ay)) ay))) ay)) c5) (aV 6))
  (a7 (fY (dD (aH (sE false) (aj 4) (jP ay))) (eX (d7 (au (d7 (au (aj 1) (au (d7 ay) (au (aQ _) (au (aQ _) ay))))) ay))) gU)
  (a7 (bL (aH fT (aj 4) (aj 5)) (qz (kn (aV 7) (kn (aV 8) (kn (aV 9) (kn (aV 10) qy))))))
  (a7 (bL (aH fT (jP (au (aj 6) (au (aH Aj (aQ _) (aQ _)) (au (bS iG (au (aj 4) ay)) (au (aj 9) (au (aj 10) ay)))))) (b7 (F:=eE) (au (aj 0) (au (aQ _) ay)) c5)) (aV 11))
  (a7 (fY (dD (aH lY (aj 3) (aQ _))) (mM (kQ MJ (aj 4) (au (aj 5) ay))) gU)
  (a7 (fY (dD (aH lY (aj 3) (aQ _))) (mM (kQ Nz (aj 4) (au (aj 6) (au (aH fT (aj 4) (aj 5)) ay)))) gU)
  (a7 (fY (dD (aH lY (aj 3) (aQ _))) (bL (d7 (au (aj 7) (au (aj 8) (au (aj 11) (au (aj 10) ay))))) (pQ (aj 4) (aj 5))) gU)
  (a7 (fY (dD (aH lY (aj 3) (aQ _))) (bL (d7 (au (aj 7) (au (aj 8) (au (aj 9) (au (aj 11) ay))))) (pQ (aj 4) (aj 5))) gU)
  (a7 (fY (dD (aH lY (aj 3) (aQ _))) (bL (d7 (au (aH dO (aH fT (aj 4) (aj 6)) (aQ _)) (au (aj 8) (au (aj 9) (au (aj 10) ay))))) (pQ (aj 4) (aj 5))) gU)
  (a7 (fY (dD (aH lY (aj 3) (aQ _))) (bL (d7 (au (aj 7) (au (aH dO (aH fT (aj 4) (aj 6)) (aQ _)) (au (aj 9) (au (aj 10) ay))))) (pQ (aj 4) (aj 5))) gU)
  (a7 (fY (dD (aH lY (aj 3) (aQ _))) (bL (d7 (au (aj 7) (au (b7 (F:=wz) (au (aj 0) (au (aQ _) (au (aQ _) ay))) wo) (au (aj 9) (au (aj 10) ay))))) (pQ (aj 4) (aj 5))) gU)
  (a7 (fY (dD (aH lY (aj 3) (aQ _))) (bL (d7 (au (b7 (F:=rC) (au (aj 0) (au (aH mw (aQ _) (b7 (F:=eE) (au (aj 0) (au (aQ _) ay)) c5)) ay)) c5) (au (aj 8) (au (aj 9) (au (aj 10) ay))))) (pQ (aj 4) (aj 5))) gU)
  (a7 (fY (dD (aH lY (aj 3) (aQ _))) (bL (d7 (au (aH fT (aj 4) (aj 6)) (au (aH fT (aj 4) (aj 5)) ay))) (qz (kn (pQ (aj 4) (aj 5)) (kn (pQ (aj 4) (aj 6)) qy)))) gU)
  (eX (bS mx (au (aj 4) ay))))))))))))))))))) rfl h
noncomputable def GL:av->Dm Fl :=
 (aB (aL (dw (d4 (ah 1)) 1 [] (hName 0) eC (aM nX (ae (aE bh (ah 0) (fC (.int 0))) ai))) (hName 2))
 (aB (eB (rl (aI (aE (gD false) (ah 2) (cO ai))) (aI (aE (gD true) (aE bM (ah 2) (fC (.int 0))) (aM nX (ae (ah 0) ai))))) (bF (fC (.bl false))) aW)
 (aB (dE (kX (ae (ah 1) ai)) (jU 2 (bU (hName 3) (bU (hName 4) kK))) (aB (eB (rl (aI (aE (nJ false) (aE bM (ah 2) (ah 3)) (vN pP (ah 2) jf (mv (ah 3))))) (aI (aE (gD true) (aE bM (ah 2) (ah 3)) (aM nX (ae (aM wu (ae (ah 0) (ae (aE bh (ah 4) (fC (.int 1))) ai))) ai))))) (bF (fC (.bl false))) aW)
 (dE (d4 (bu (ae (bu (ae (aE bh (ah 4) (fC (.int 2))) (ae (bu (ae (fC (.str "s")) (ae (fC (.int 1)) ai))) ai))) (ae (bu (ae (aE bh (ah 4) (fC (.int 3))) (ae (bu (ae (fC (.str "t")) (ae (fC (.int 1)) ai))) ai))) ai)))) (jU 2 (bU (hName 5) (bU (hName 6) kK))) (eB (rl (aI (aE rm (ah 5) (fC (.int 0)))) (rl (aI (aE CD (ah 5) (aM cq (ae (ah 1) ai)))) (aI (aE (gD true) (aE bM (ah 2) (ah 5)) (aM nX (ae (aM pD (ae (aE bh (ah 4) (fC (.int 0))) (ae (ah 6) ai))) ai)))))) (bF (fC (.bl false))) aW))))
 (bF (fC (.bl true))))))
noncomputable def Eb:List D->Dm D:=g9 7 GL
noncomputable def Ec:Stmt:=top 48
theorem AV:aN ["_law_floor_here","_law_chart_here","_law_forms","_law_at","_law_row","_law_number","_law_step"] ["_law_floor_here","_law_chart_here"] (az Ec):=⟨rfl,rfl,rfl,by w_fin,rfl,by w_fin,by w_fin⟩
theorem Uu{f:Addr}{fd:FuncData}(D:Def K mg "_law_shown" Ec ["_law_floor_here","_law_chart_here"] f fd)(T:Txt mg)  {dP:Addr}{dQ:FuncData}(cu:Def K mg "_law_form" Az ["_law_floor_here"] dP dQ)(cB:aJ P w K mg base bG 2 dP dQ ["_law_floor_here"] (bP K 1 nX)){e8:Addr}{fe:FuncData}(ff:Def K mg "_law_led" AG ["_law_floor_here","_law_word_here"] e8 fe)(gq:aJ P w K mg base bG 3 e8 fe ["_law_floor_here","_law_word_here"] (bP K 2 wu)){bH:Addr}{bI:FuncData}(bJ:Def K mg "_law_stepped" zi ["_law_floor_here","_law_step"] bH bI)(bX:aJ P w K mg base bG 2 bH bI ["_law_floor_here","_law_step"] (bP K 2 pD)):aJ P w K mg base bG 4 f fd ["_law_floor_here","_law_chart_here"] (bP K 2 Eb):=by
 refine D.F.ok AV (fun _ _ _ _ h=>h.1) (fun c A o s H v Q E hr h=>?_);have hu:=hr.units
 refine ⟨_,(@a6 _ _ _ _ _ (EZ (i:=2) (own:=["_law_row"]) (fr:=[]) (js:=[]) rfl AV.nd rfl rfl ⟨⟨rfl,by w_fin,by w_fin,by dsimp only [gw,bg,Cx.nA,Cx.wish,PyProof.Rows.envOfC,compEnvC,relabel,Env.kindOf];decide +kernel,by w_fin⟩,rfl⟩ (pk (pv 1)) (fun _ _ _ _ _=>(dC (i:=0) (show ((["_law_row"]:List Str) ++ ([]:List Str)).Nodup by w_fin) rfl (by w_up))) (fun _ _ _ _ _=>qh) (fun _ _ _ _ _=>(b8 cB cu hr (by decide) rfl (@ao _ _ _ _ _ (@bQ _ _ _ _ _ _ _ (tI (K:=K) rfl) (pv 0) aP (fun _ _=>rfl)) ax (by rfl)))))
  (@a6 _ _ _ _ _ (@fW _ _ _ _ _ _ _ _ (PW.pt (w4 (dF (HP hu) (pv 2) (@jN _ _ _ _ ax) (aK _)) (zT (dF (vz hu) (@bQ _ _ _ _ _ _ _ iU (pv 2) aP (fun _ _=>rfl)) (b8 cB cu hr (by decide) rfl (@ao _ _ _ _ _ (pv 0) ax (by rfl))) (aK _))))) (@bE _ _ _ (@eV _ _ _ _ rH)) gT)
  (@a6 _ _ _ _ _ (@lQ _ _ _ _ _ _ _ _ PassesOwn.never rfl (E5 rfl T.hU (@ao _ _ _ _ _ (pv 1) ax (by rfl))) (p7 (n:=2) rfl (kl (dC (i:=3) AV.nd rfl (by w_up)) (kl (dC (i:=4) AV.nd rfl (by w_up)) p6))) (@a6 _ _ _ _ _ (@fW _ _ _ _ _ _ _ _ (PW.pt (w4 (dF (LO hu) (@bQ _ _ _ _ _ _ _ iU (pv 2) (pv 3) (fun _ _=>rfl)) (Bz EN (pv 2) Bx (By (pv 3))) (by with_unfolding_all rfl)) (zT (dF (vz hu) (@bQ _ _ _ _ _ _ _ iU (pv 2) (pv 3) (fun _ _=>rfl)) (b8 cB cu hr (by decide) rfl (@ao _ _ _ _ _ (b8 gq ff hr (by decide) rfl (@ao _ _ _ _ _ (pv 0) (@ao _ _ _ _ _ (@bQ _ _ _ _ _ _ _ fw (pv 4) aP (fun _ _=>rfl)) ax (by rfl)) (by rfl))) ax (by rfl))) (aK _))))) (@bE _ _ _ (@eV _ _ _ _ rH)) gT)
  (@bE _ _ _ (@lQ _ _ _ _ _ _ _ _ PassesOwn.never rfl (pk (@d5 _ _ _ _ _ (@ao _ _ _ _ _ (@d5 _ _ _ _ _ (@ao _ _ _ _ _ (@bQ _ _ _ _ _ _ _ fw (pv 4) aP (fun _ _=>rfl)) (@ao _ _ _ _ _ (@d5 _ _ _ _ _ (@ao _ _ _ _ _ p5 (@ao _ _ _ _ _ aP ax (by rfl)) (by rfl))) ax (by rfl)) (by rfl))) (@ao _ _ _ _ _ (@d5 _ _ _ _ _ (@ao _ _ _ _ _ (@bQ _ _ _ _ _ _ _ fw (pv 4) aP (fun _ _=>rfl)) (@ao _ _ _ _ _ (@d5 _ _ _ _ _ (@ao _ _ _ _ _ p5 (@ao _ _ _ _ _ aP ax (by rfl)) (by rfl))) ax (by rfl)) (by rfl))) ax (by rfl)) (by rfl)))) (p7 (n:=2) rfl (kl (dC (i:=5) AV.nd rfl (by w_up)) (kl (dC (i:=6) AV.nd rfl (by w_up)) p6))) (@bE _ _ _ (@fW _ _ _ _ _ _ _ _ (PW.pt (w4 (dF ui (pv 5) aP (aK _)) (w4 (dF u7 (pv 5) (fL iD (by rfl) T.bA iE (@ao _ _ _ _ _ (pv 1) ax (by rfl))) (aK _)) (zT (dF (vz hu) (@bQ _ _ _ _ _ _ _ iU (pv 2) (pv 5) (fun _ _=>rfl)) (b8 cB cu hr (by decide) rfl (@ao _ _ _ _ _ (b8 bX bJ hr (by decide) rfl (@ao _ _ _ _ _ (@bQ _ _ _ _ _ _ _ fw (pv 4) aP (fun _ _=>rfl)) (@ao _ _ _ _ _ (pv 6) ax (by rfl)) (by rfl))) ax (by rfl))) (aK _)))))) (@bE _ _ _ (@eV _ _ _ _ rH)) gT)) (by intro _;rfl)))) (by intro _;rfl))
  (@bE _ _ _ (@eV _ _ _ _ rH))))),?_⟩
 exact iZ (b:=GL) (a7 (bL (pC (pB (aj 1)) (aV 0) qA (b7 (F:=nX) (au (aH dO (aj 0) (aQ _)) ay) l8)) (aV 2))
  (a7 (fY (xW (dD (aH (sE false) (aj 2) (jP ay))) (dD (aH (sE true) (aH fT (aj 2) (aQ _)) (b7 (F:=nX) (au (aj 0) ay) l8)))) (eX (sA _)) gU)
  (a7 (lZ (FC (au (aj 1) ay)) (qz (kn (aV 3) (kn (aV 4) qy))) (a7 (fY (xW (dD (aH (FN false) (aH fT (aj 2) (aj 3)) (CC Fx (aj 2) CA (CB (aj 3))))) (dD (aH (sE true) (aH fT (aj 2) (aj 3)) (b7 (F:=nX) (au (b7 (F:=wu) (au (aj 0) (au (aH dO (aj 4) (aQ _)) ay)) c5) ay) l8)))) (eX (sA _)) gU)
  (lZ (pB (d7 (au (d7 (au (aH dO (aj 4) (aQ _)) (au (d7 (au (qu _) (au (aQ _) ay))) ay))) (au (d7 (au (aH dO (aj 4) (aQ _)) (au (d7 (au (qu _) (au (aQ _) ay))) ay))) ay)))) (qz (kn (aV 5) (kn (aV 6) qy))) (fY (xW (dD (aH uD (aj 5) (aQ _))) (xW (dD (aH vQ (aj 5) (bS iG (au (aj 1) ay)))) (dD (aH (sE true) (aH fT (aj 2) (aj 5)) (b7 (F:=nX) (au (b7 (F:=pD) (au (aH dO (aj 4) (aQ _)) (au (aj 6) ay)) c5) ay) l8))))) (eX (sA _)) gU))))
  (eX (sA _))))) rfl h
noncomputable def GN:av->Dm Fl :=
 (aB (aL (aM zh (ae (ah 0) (ae (fC (.int 1)) ai))) (hName 1))
 (aB (eB (aI (aE (iS false) (aM eE (ae (ah 1) (ae (fC (.int 32)) ai))) (fC (.int 31)))) (bF (aM D5 (ae (ah 1) ai))) aW)
 (aB (aL (aM rC (ae (ah 1) (ae (aE eP (fC (.int 1)) (aM eE (ae (ah 1) (ae (fC (.int 5)) ai)))) ai))) (hName 2))
 (aB (aL (aM zj (ae (ah 2) (ae (fC (.int 24)) ai))) (hName 3))
 (aB (eB (aI (aE (sO false) (ah 3) (fC .non))) (aB (aL (aM rC (ae (ah 1) (ae (aE eP (fC (.int 1)) (aM eE (ae (ah 1) (ae (fC (.int 3)) ai)))) ai))) (hName 2))
 (aL (aM zj (ae (ah 2) (ae (fC (.int 24)) ai))) (hName 3))) aW)
 (aB (aL (aM sZ (ae (ah 2) (ae (aM oR (ae (ah 1) (ae (aM cq (ae (aE bh (ah 2) (fC (.int 0))) ai)) ai))) ai))) (hName 4))
 (aB (aL (cO (ae (bu (ae (ah 2) (ae (ah 3) ai))) (ae (bu (ae (ah 4) (ae (ah 3) ai))) (ae (bu (ae (ah 2) (ae (aM D7 (ae (ah 1) (ae (ah 3) ai))) ai))) (ae (bu (ae (ah 2) (ae (bu ai) ai))) ai))))) (hName 5))
 (aB (cb (g7 "list" bp (ah 5) (ae (bu (ae (aM rC (ae (ah 1) (ae (aM cq (ae (aE bh (ah 2) (fC (.int 0))) ai)) ai))) (ae (ah 3) ai))) ai)))
 (aB (dE (oz (ae (fC (.int 2)) (ae (aM nU (ae (fC (.int 5)) (ae (aM qw (ae (fC (.int 9)) (ae (aM cq (ae (ah 0) ai)) ai))) ai))) ai))) (hName 6) (aB (aL (aM zh (ae (ah 0) (ae (ah 6) ai))) (hName 1))
 (aB (aL (aE bh (aE bM (ah 5) (aM eE (ae (ah 1) (ae (fC (.int 3)) ai)))) (fC (.int 1))) (hName 7))
 (aB (dE (cz (ae (aE eP (fC (.int 1)) (aM eE (ae (ah 1) (ae (fC (.int 3)) ai)))) ai)) (hName 8) (aL (aM D9 (ae (ah 1) (ae (ah 2) (ae (ah 7) ai)))) (hName 7)))
 (cb (g7 "list" bp (ah 5) (ae (bu (ae (ah 2) (ae (ah 7) ai))) ai)))))))
 (aB (dE (jW (aE kJ (ah 5) (vN pP (ah 5) jf (mv (fC (.int 1)))))) (jU 2 (bU (hName 9) (bU (hName 10) kK))) (aB (aL (aM tV (ae (ah 9) (ae (ah 10) ai))) (hName 11))
 (eB (rl (sC (aI (aM pV (ae (ah 11) (ae (fC (.ty "bool")) ai))))) (aI (aE (iS true) (ah 11) (aM Eb (ae (ah 9) (ae (ah 10) ai)))))) (bF (fC (.bl false))) aW)))
 (bF (aE (uI false) (aM tV (ae (ah 2) (ae (aM (fun as=>tW (as ++ [.int 60])) (ae (ah 2) ai)) ai))) (fC (.bl true))))))))))))))
noncomputable def JL:List D->Dm D:=g9 12 GN
noncomputable def GO:Stmt:=top 52
theorem pE:aN ["_law_script","_law_feed_here","_law_floor_here","_law_chart_here","_law_near","_law_asked","_law_k","_law_bad","_law_turn","_law_here","_law_some","_law_found"] ["_law_script"] (az GO):=⟨rfl,rfl,rfl,by w_fin,rfl,by w_fin,by w_fin⟩
theorem zu{f:Addr}{fd:FuncData}(D:Def K mg "law" GO ["_law_script"] f fd)(T:Txt mg)  {jA:Addr}{jB:FuncData}(gM:Def K mg "_law_feed" Ds ["_law_script","_law_k"] jA jB)(jC:aJ P w K mg base bG 1 jA jB ["_law_script","_law_k"] (bP K 2 zh)){de:Addr}{df:FuncData}(cy:Def K mg "_law_floor" Ay ["_law_feed_here","_law_n"] de df)(cN:aJ P w K mg base bG 3 de df ["_law_feed_here","_law_n"] (bP K 2 rC)){iu:Addr}{iw:FuncData}(fJ:Def K mg "_law_chart" DA ["_law_floor_here","_law_most"] iu iw)(iy:aJ P w K mg base bG 3 iu iw ["_law_floor_here","_law_most"] (bP K 2 zj)){cC:Addr}{cD:FuncData}(cE:Def K mg "_law_anew" zm ["_law_floor_here","_law_p"] cC cD)(cP:aJ P w K mg base bG 1 cC cD ["_law_floor_here","_law_p"] (bP K 2 sZ)){aS:Addr}{aT:FuncData}(aC:Def K mg "_law_take" sY ["_law_feed_here","_law_many"] aS aT)(aD:aJ P w K mg base bG 1 aS aT ["_law_feed_here","_law_many"] (bP K 2 eE)){kF:Addr}{kG:FuncData}(kH:Def K mg "_law_far" D6 ["_law_feed_here"] kF kG)(ma:aJ P w K mg base bG 9 kF kG ["_law_feed_here"] (bP K 1 D5)){a8:Addr}{a9:FuncData}(aU:Def K mg "_law_turning" wt ["_law_feed_here","_law_n"] a8 a9)(aY:aJ P w K mg base bG 2 a8 a9 ["_law_feed_here","_law_n"] (bP K 2 oR)){cQ:Addr}{cR:FuncData}(cx:Def K mg "chart_holds" AQ ["floor","chart"] cQ cR)(cS:aJ P w K mg base bG 8 cQ cR ["floor","chart"] (bP K 2 tV)){cT:Addr}{cU:FuncData}(cV:Def K mg "_law_turned_about" D8 ["_law_feed_here","_law_chart_here"] cT cU)(dZ:aJ P w K mg base bG 3 cT cU ["_law_feed_here","_law_chart_here"] (bP K 2 D7)){dJ:Addr}{dM:FuncData}(dN:Def K mg "_law_otherwise" Ea ["_law_feed_here","_law_floor_here","_law_chart_here"] dJ dM)(fO:aJ P w K mg base bG 4 dJ dM ["_law_feed_here","_law_floor_here","_law_chart_here"] (bP K 3 D9)){fj:Addr}{fq:FuncData}(cK:qP K mg "chart_of" AU ["floor","most"] [V.int 60] fj fq)(gs:aJ P w K mg base bG 8 fj fq ["floor","most"] (bP K 2 tW)){iz:Addr}{iA:FuncData}(iB:Def K mg "_law_shown" Ec ["_law_floor_here","_law_chart_here"] iz iA)(j4:aJ P w K mg base bG 4 iz iA ["_law_floor_here","_law_chart_here"] (bP K 2 Eb)):aJ P w K mg base bG 10 f fd ["_law_script"] (bP K 1 JL):=by
 refine D.F.ok pE (fun _ _ _ _ h=>h.1) (fun c A o s H v Q E hr h=>?_)
 refine ⟨_,(@a6 _ _ _ _ _ (@cn (i:=1) _ _ _ _ _ _ pE.nd rfl (by w_up) (b8 jC gM hr (by decide) rfl (@ao _ _ _ _ _ (pv 0) (@ao _ _ _ _ _ aP ax (by rfl)) (by rfl))) (by rfl) (by w_up))
  (@a6 _ _ _ _ _ (@fW _ _ _ _ _ _ _ _ (dF lS (b8 aD aC hr (by decide) rfl (@ao _ _ _ _ _ (pv 1) (@ao _ _ _ _ _ aP ax (by rfl)) (by rfl))) aP (aK _)) (@bE _ _ _ (@eV _ _ _ _ (b8 ma kH hr (by decide) rfl (@ao _ _ _ _ _ (pv 1) ax (by rfl))))) gT)
  (@a6 _ _ _ _ _ (@cn (i:=2) _ _ _ _ _ _ pE.nd rfl (by w_up) (b8 cN cy hr (by decide) rfl (@ao _ _ _ _ _ (pv 1) (@ao _ _ _ _ _ (cL ml aP (b8 aD aC hr (by decide) rfl (@ao _ _ _ _ _ (pv 1) (@ao _ _ _ _ _ aP ax (by rfl)) (by rfl)))) ax (by rfl)) (by rfl))) (by rfl) (by w_up))
  (@a6 _ _ _ _ _ (@cn (i:=3) _ _ _ _ _ _ pE.nd rfl (by w_up) (b8 iy fJ hr (by decide) rfl (@ao _ _ _ _ _ (pv 2) (@ao _ _ _ _ _ aP ax (by rfl)) (by rfl))) (by rfl) (by w_up))
  (@a6 _ _ _ _ _ (@fW _ _ _ _ _ _ _ _ (dF SQ (pv 3) Ky (aK _)) (@a6 _ _ _ _ _ (@cn (i:=2) _ _ _ _ _ _ pE.nd rfl (by w_up) (b8 cN cy hr (by decide) rfl (@ao _ _ _ _ _ (pv 1) (@ao _ _ _ _ _ (cL ml aP (b8 aD aC hr (by decide) rfl (@ao _ _ _ _ _ (pv 1) (@ao _ _ _ _ _ aP ax (by rfl)) (by rfl)))) ax (by rfl)) (by rfl))) (by rfl) (by w_up))
  (@bE _ _ _ (@cn (i:=3) _ _ _ _ _ _ pE.nd rfl (by w_up) (b8 iy fJ hr (by decide) rfl (@ao _ _ _ _ _ (pv 2) (@ao _ _ _ _ _ aP ax (by rfl)) (by rfl))) (by rfl) (by w_up)))) gT)
  (@a6 _ _ _ _ _ (@cn (i:=4) _ _ _ _ _ _ pE.nd rfl (by w_up) (b8 cP cE hr (by decide) rfl (@ao _ _ _ _ _ (pv 2) (@ao _ _ _ _ _ (b8 aY aU hr (by decide) rfl (@ao _ _ _ _ _ (pv 1) (@ao _ _ _ _ _ (fL iD (by rfl) T.bA iE (@ao _ _ _ _ _ (@bQ _ _ _ _ _ _ _ fw (pv 2) aP (fun _ _=>rfl)) ax (by rfl))) ax (by rfl)) (by rfl))) ax (by rfl)) (by rfl))) (by rfl) (by w_up))
  (@a6 _ _ _ _ _ (@cn (i:=5) _ _ _ _ _ _ pE.nd rfl (by w_up) (@jN _ _ _ _ (@ao _ _ _ _ _ (@d5 _ _ _ _ _ (@ao _ _ _ _ _ (pv 2) (@ao _ _ _ _ _ (pv 3) ax (by rfl)) (by rfl))) (@ao _ _ _ _ _ (@d5 _ _ _ _ _ (@ao _ _ _ _ _ (pv 4) (@ao _ _ _ _ _ (pv 3) ax (by rfl)) (by rfl))) (@ao _ _ _ _ _ (@d5 _ _ _ _ _ (@ao _ _ _ _ _ (pv 2) (@ao _ _ _ _ _ (b8 dZ cV hr (by decide) rfl (@ao _ _ _ _ _ (pv 1) (@ao _ _ _ _ _ (pv 3) ax (by rfl)) (by rfl))) ax (by rfl)) (by rfl))) (@ao _ _ _ _ _ (@d5 _ _ _ _ _ (@ao _ _ _ _ _ (pv 2) (@ao _ _ _ _ _ (@d5 _ _ _ _ _ ax) ax (by rfl)) (by rfl))) ax (by rfl)) (by rfl)) (by rfl)) (by rfl))) (by rfl) (by w_up))
  (@a6 _ _ _ _ _ (mJ (lH PySem.F.plainAttrs_list PySem.F.slot_list_append PySem.F.type_list_append og (pv 5) (@ao _ _ _ _ _ (@d5 _ _ _ _ _ (@ao _ _ _ _ _ (b8 cN cy hr (by decide) rfl (@ao _ _ _ _ _ (pv 1) (@ao _ _ _ _ _ (fL iD (by rfl) T.bA iE (@ao _ _ _ _ _ (@bQ _ _ _ _ _ _ _ fw (pv 2) aP (fun _ _=>rfl)) ax (by rfl))) ax (by rfl)) (by rfl))) (@ao _ _ _ _ _ (pv 3) ax (by rfl)) (by rfl))) ax (by rfl))))
  (@a6 _ _ _ _ _ (@lQ _ _ _ _ _ _ _ _ PassesOwn.never rfl (O3 rfl T.aX (@ao _ _ _ _ _ aP (@ao _ _ _ _ _ (fL (Ht rfl) (by rfl) T.sW HL (@ao _ _ _ _ _ aP (@ao _ _ _ _ _ (fL (O7 rfl) (by rfl) T.sX HM (@ao _ _ _ _ _ aP (@ao _ _ _ _ _ (fL iD (by rfl) T.bA iE (@ao _ _ _ _ _ (pv 0) ax (by rfl))) ax (by rfl)) (by rfl))) ax (by rfl)) (by rfl))) ax (by rfl)) (by rfl))) (dC (i:=6) pE.nd rfl (by w_up)) (@a6 _ _ _ _ _ (@cn (i:=1) _ _ _ _ _ _ pE.nd rfl (by w_up) (b8 jC gM hr (by decide) rfl (@ao _ _ _ _ _ (pv 0) (@ao _ _ _ _ _ (pv 6) ax (by rfl)) (by rfl))) (by rfl) (by w_up))
  (@a6 _ _ _ _ _ (@cn (i:=7) _ _ _ _ _ _ pE.nd rfl (by w_up) (@bQ _ _ _ _ _ _ _ fw (@bQ _ _ _ _ _ _ _ iU (pv 5) (b8 aD aC hr (by decide) rfl (@ao _ _ _ _ _ (pv 1) (@ao _ _ _ _ _ aP ax (by rfl)) (by rfl))) (fun _ _=>rfl)) aP (fun _ _=>rfl)) (by rfl) (by w_up))
  (@a6 _ _ _ _ _ (@lQ _ _ _ _ _ _ _ _ PassesOwn.never rfl (oW rfl T.aX (@ao _ _ _ _ _ (cL ml aP (b8 aD aC hr (by decide) rfl (@ao _ _ _ _ _ (pv 1) (@ao _ _ _ _ _ aP ax (by rfl)) (by rfl)))) ax (by rfl))) (dC (i:=8) pE.nd rfl (by w_up)) (@bE _ _ _ (@cn (i:=7) _ _ _ _ _ _ pE.nd rfl (by w_up) (b8 fO dN hr (by decide) rfl (@ao _ _ _ _ _ (pv 1) (@ao _ _ _ _ _ (pv 2) (@ao _ _ _ _ _ (pv 7) ax (by rfl)) (by rfl)) (by rfl))) (by rfl) (by w_up))) (by intro _;rfl))
  (@bE _ _ _ (mJ (lH PySem.F.plainAttrs_list PySem.F.slot_list_append PySem.F.type_list_append og (pv 5) (@ao _ _ _ _ _ (@d5 _ _ _ _ _ (@ao _ _ _ _ _ (pv 2) (@ao _ _ _ _ _ (pv 7) ax (by rfl)) (by rfl))) ax (by rfl)))))))) (by intro _;rfl))
  (@a6 _ _ _ _ _ (@lQ _ _ _ _ _ _ _ _ PassesOwn.never rfl (Bm (cL qL (pv 5) (Bz EN (pv 5) Bx (By aP)))) (p7 (n:=2) rfl (kl (dC (i:=9) pE.nd rfl (by w_up)) (kl (dC (i:=10) pE.nd rfl (by w_up)) p6))) (@a6 _ _ _ _ _ (@cn (i:=11) _ _ _ _ _ _ pE.nd rfl (by w_up) (b8 cS cx hr (by decide) rfl (@ao _ _ _ _ _ (pv 9) (@ao _ _ _ _ _ (pv 10) ax (by rfl)) (by rfl))) (by rfl) (by w_up))
  (@bE _ _ _ (@fW _ _ _ _ _ _ _ _ (PW.pt (w4 (KG (KC (fL Ng (by rfl) T.lM Lx (@ao _ _ _ _ _ (pv 11) (@ao _ _ _ _ _ (KA (v:=.ty "bool") rfl T.sU Lw rfl) ax (by rfl)) (by rfl))))) (zT (dF EL (pv 11) (b8 j4 iB hr (by decide) rfl (@ao _ _ _ _ _ (pv 9) (@ao _ _ _ _ _ (pv 10) ax (by rfl)) (by rfl))) (aK _))))) (@bE _ _ _ (@eV _ _ _ _ rH)) gT))) (by intro _;rfl))
  (@bE _ _ _ (@eV _ _ _ _ (xf y6 (b8 cS cx hr (by decide) rfl (@ao _ _ _ _ _ (pv 2) (@ao _ _ _ _ _ (L0 gs (hr.mono (by decide)) rfl cK.m cK.F.kp cK.bd rV (@ao _ _ _ _ _ (pv 2) ax (by rfl))) ax (by rfl)) (by rfl))) rH (aK _)))))))))))))),?_⟩
 exact iZ (b:=GN) (a7 (bL (b7 (F:=zh) (au (aj 0) (au (aQ _) ay)) c5) (aV 1))
  (a7 (fY (dD (aH lY (b7 (F:=eE) (au (aj 1) (au (aQ _) ay)) c5) (aQ _))) (eX (b7 (F:=D5) (au (aj 1) ay) l8)) gU)
  (a7 (bL (b7 (F:=rC) (au (aj 1) (au (aH mw (aQ _) (b7 (F:=eE) (au (aj 1) (au (aQ _) ay)) c5)) ay)) c5) (aV 2))
  (a7 (bL (b7 (F:=zj) (au (aj 2) (au (aQ _) ay)) c5) (aV 3))
  (a7 (fY (dD (aH (y4 false) (aj 3) MA)) (a7 (bL (b7 (F:=rC) (au (aj 1) (au (aH mw (aQ _) (b7 (F:=eE) (au (aj 1) (au (aQ _) ay)) c5)) ay)) c5) (aV 2))
  (bL (b7 (F:=zj) (au (aj 2) (au (aQ _) ay)) c5) (aV 3))) gU)
  (a7 (bL (b7 (F:=sZ) (au (aj 2) (au (b7 (F:=oR) (au (aj 1) (au (bS iG (au (aH dO (aj 2) (aQ _)) ay)) ay)) c5) ay)) c5) (aV 4))
  (a7 (bL (jP (au (d7 (au (aj 2) (au (aj 3) ay))) (au (d7 (au (aj 4) (au (aj 3) ay))) (au (d7 (au (aj 2) (au (b7 (F:=D7) (au (aj 1) (au (aj 3) ay)) c5) ay))) (au (d7 (au (aj 2) (au (d7 ay) ay))) ay))))) (aV 5))
  (a7 (mM (kQ ou (aj 5) (au (d7 (au (b7 (F:=rC) (au (aj 1) (au (bS iG (au (aH dO (aj 2) (aQ _)) ay)) ay)) c5) (au (aj 3) ay))) ay)))
  (a7 (lZ (RD (au (aQ _) (au (bS Jc (au (aQ _) (au (bS Rx (au (aQ _) (au (bS iG (au (aj 0) ay)) ay))) ay))) ay))) (aV 6) (a7 (bL (b7 (F:=zh) (au (aj 0) (au (aj 6) ay)) c5) (aV 1))
  (a7 (bL (aH dO (aH fT (aj 5) (b7 (F:=eE) (au (aj 1) (au (aQ _) ay)) c5)) (aQ _)) (aV 7))
  (a7 (lZ (o9 (au (aH mw (aQ _) (b7 (F:=eE) (au (aj 1) (au (aQ _) ay)) c5)) ay)) (aV 8) (bL (b7 (F:=D9) (au (aj 1) (au (aj 2) (au (aj 7) ay))) wo) (aV 7)))
  (mM (kQ ou (aj 5) (au (d7 (au (aj 2) (au (aj 7) ay))) ay)))))))
  (a7 (lZ (CI (aH qU (aj 5) (CC Fx (aj 5) CA (CB (aQ _))))) (qz (kn (aV 9) (kn (aV 10) qy))) (a7 (bL (b7 (F:=tV) (au (aj 9) (au (aj 10) ay)) c5) (aV 11))
  (fY (xW (MB (IZ (bS Nj (au (aj 11) (au (vL _) ay))))) (dD (aH Fw (aj 11) (b7 (F:=Eb) (au (aj 9) (au (aj 10) ay)) c5)))) (eX (sA _)) gU)))
  (eX (aH (y2 false) (b7 (F:=tV) (au (aj 2) (au (NQ (m:=1) (F:=tW) (Dp:=[.int 60]) (au (aj 2) ay) l8 rfl (fun _ _=>.cons (.int _) (.nil))) ay)) c5) (sA _))))))))))))) rfl h
end
theorem mH{st:Store}{f:Nat}{n:Int}(hf:a5 st f)(h0:0<n)(h1:n<1073741824):Wp (eE [.ref f,.int n] st) fun d st'=>∃k:Int,d=.int k/\0<=k/\k<n/\a5 st' f/\Ex [f] st st':=by
 obtain ⟨o,m,e,o0,m0,m1⟩:=hf;have hfl:=dz e;refine iT ?_;show Ws (FR [some (.ref f),some (.int n),none,none] st) _ _ _ _;unfold FR;refine aZ (hJ ?_)
 set_option simprocs false in simp only [bD,bw e,iJ e]
 refine ⟨fun ho=>?_,fun ho=>?_⟩
 ·refine aZ (b9 ?_)
  set_option simprocs false in simp only [bD,bw e]
  refine ⟨h0,aZ (nW ?_)⟩
  set_option simprocs false in simp only [bD,bw e,iJ e,(show mC [D.int o,D.int m].length 0=some 0 from C8)]
  refine ⟨⟨h0,h1⟩,eo ?_⟩
  w_how
  refine ⟨Xr _ (by omega),Xv _ h0,⟨o / n,m,?_,Int.ediv_nonneg o0 (by omega),m0,m1⟩,Ex.refl.put (by simp)⟩;rw [Wu hfl]
 ·refine jd (aZ (b9 ?_))
  set_option simprocs false in simp only [bD,bw e]
  refine ⟨by omega,by omega,aZ (nW ?_)⟩
  set_option simprocs false in simp only [bD,bw e,iJ e,(show mC [D.int o,D.int m].length 1=some 1 from C9)]
  refine ⟨by omega,by omega,eo ?_⟩;have e2:(st.set f (.lst [.int o,.int ((m*48271 % 2147483647*40692+30103) % 2147483399+1)]))[f]?=some (.lst [.int o,.int ((m*48271 % 2147483647*40692+30103) % 2147483399+1)]):=Wu hfl
  set_option simprocs false in simp only [bD,bw e2]
  refine ⟨by omega,by omega,h0,Xr _ (by omega),Xv _ h0,⟨_,_,e2,o0,by omega,by omega⟩,Ex.refl.put (by simp)⟩
theorem NT{st:Store}{a:Nat}{ns:List Int}{k:Nat}(hs:items st a=some (ns.map D.int))(hk:k<=100):Wp (zh [.ref a,.int (k:Int)] st) fun d st'=>d=.ref st.length/\a5 st' st.length/\Ex [] st st':=by
 refine iT ?_;show Ws (FQ [some (.ref a),some (.int (k:Int)),none,none] st) _ _ _ _;unfold FQ;refine aZ (b9 ?_)
 w_how
 refine ⟨by omega,aZ (rq (N:=fun δ st1=>st1=st/\∃c:Int,δ=[some (.ref a),some (.int (k:Int)),some (.int c),none]) (hJ ?_) ?_)⟩
 ·set_option simprocs false in simp only [bD,hs]
  refine ⟨fun h=>b9 ?_,fun h=>hJ ?_⟩
  ·have h:=of_decide_eq_true h
   rw [Wo] at h
   set_option simprocs false in simp only [bD,hs]
   refine ⟨.int (ns[k]'(by omega)),zX (by rw [Wx,Wr];rfl),_,rfl⟩
  ·set_option simprocs false in simp only [bD,hs]
   refine ⟨fun h=>b9 ?_,fun h=>jd ⟨rfl,_,rfl⟩⟩;have h:=of_decide_eq_true h;obtain ⟨v,hv,hm⟩:=xx (xs:=ns.map D.int) (i:=(k:Int) % ((ns.map D.int).length:Int)) (Xr _ (by omega)) (Xv _ h);obtain ⟨c,_,rfl⟩:=WB.mp hm
   set_option simprocs false in simp only [bD,hs]
   refine ⟨h,_,hv,?_⟩
   w_how
   exact ⟨by omega,by omega,by omega,_,rfl⟩
 ·rintro δ st1 ⟨rfl,c,rfl⟩
  refine aZ (b9 ?_)
  w_how
  refine aZ (rq (N:=fun δ st2=>st2=st1/\∃o:Int,0<=o/\δ=[some (.ref a),some (.int (k:Int)),some (.int c),some (.int o)]) (hJ ?_) ?_)
  ·w_how
   refine ⟨by decide,fun h=>b9 ?_,fun h=>jd ⟨rfl,0,by decide,rfl⟩⟩;have h:=of_decide_eq_true h
   w_how
   exact ⟨c,Int.le_trans (by decide) h,rfl⟩
  ·rintro δ st2 ⟨rfl,o,o0,rfl⟩
   refine eo ?_
   w_how
   have h1:0<=c % 2147483629:=Xr _ (by decide);have h2:c % 2147483629<2147483629:=Xv _ (by decide);refine ⟨by omega,by omega,by omega,by omega,by omega,by rfl,⟨_,_,gG,o0,?_,?_⟩,Ex.cI _⟩
   ·have:=Xr ((c % 2147483629*48271+40692*(k:Int)) ^ (5:Int).toNat) (show (2147483629:Int)≠0 by decide)
    omega
   ·have:=Xv ((c % 2147483629*48271+40692*(k:Int)) ^ (5:Int).toNat) (show (0:Int)<2147483629 by decide)
    omega
theorem AW{st:Store}{f:Nat}{n:Nat}(hf:a5 st f)(hn:n<=100):Wp (oR [.ref f,.int (n:Int)] st) fun d st'=>∃xs:List Int,d=.tup (xs.map D.int)/\ag.Tn n xs/\a5 st' f/\Ex [f] st st':=by
 have hfl:=hf.lt;refine iT ?_;show Ws (FT [some (.ref f),some (.int (n:Int)),none,none] st) _ _ _ _;unfold FT;refine aZ (b9 ?_)
 w_how
 have e1:((n:Int)-0).toNat=n:=by omega
 rw [e1,pS];refine ⟨by unfold lK;rw [WU,decide_eq_true_eq];exact ⟨by omega,gZ (by omega)⟩,aZ (b9 ?_)⟩
 w_how
 refine ⟨rfl,aZ (Ar (fun m δ st2=>∃L xs:List Int,m=L.length/\δ=[some (.ref f),some (.int (n:Int)),some (.ref (st ++ [O.gS 0 (n:Int)]).length),some (.tup (xs.map D.int))]/\st2[(st ++ [O.gS 0 (n:Int)]).length]?=some (.lst (L.map D.int))/\(xs ++ L).Perm (ag.upto n)/\a5 st2 f/\Ex [f] st st2) n (Xn hn (by decide)) ⟨ag.upto n,[],(ag.o4 n).symm,rfl,gG,X9 _,hf.keep ((Ex.cI _).app _),(Ex.cI _).app _⟩ ?_)⟩;have hl:(st ++ [O.gS 0 (n:Int)]).length≠f:=by rw [Wt];omega
 have hls:st.length<=(st ++ [O.gS 0 (n:Int)]).length:=by rw [Wt];omega
 generalize (st ++ [O.gS 0 (n:Int)]).length=l at hl hls ⊢;rintro m δ st2 ⟨L,xs,rfl,rfl,hL,pm,hf2,k2⟩;have hlen:(xs ++ L).length=n:=by rw [pm.length_eq,ag.o4]
 rw [Wt] at hlen;refine ck ?_;intro dg hQ
 set_option simprocs false in simp only [bD,M1 (L:=L) (M:=[]) (st:=st2 ++ [O.lst []]) (bw (iI hL)) rA]
 refine ⟨rfl,hQ _ _ ⟨fun h=>?_,fun h=>?_⟩⟩
 ·have hne:L≠[]:=by simpa using h
  have hpos:0<L.length:=List.length_pos_iff.mpr hne;have GP:(st2 ++ [O.lst []])[l]?=some (.lst (L.map D.int)):=iI hL;have f3:a5 (st2 ++ [O.lst []]) f:=hf2.keep (Ex.cI _);have k3:Ex [f] st (st2 ++ [O.lst []]):=k2.app _;generalize (st2 ++ [O.lst []])=st3 at GP f3 k3 ⊢;refine b9 ?_;refine ck ?_;intro dg hQ
  set_option simprocs false in simp only [bD,bw GP]
  refine ⟨kY (by rw [bw GP];rfl),?_⟩;refine bj (mH (n:=((L.map D.int).length:Int)) f3 (by rw [Wo];omega) (by rw [Wo];omega)) ?_;rintro d nr ⟨k,rfl,k0,k1,f4,k4⟩;rw [Wo] at k1;have NU:=k4.keep _ _ GP (by simpa using hl);have nE:k.toNat<L.length:=by omega
  set_option simprocs false in simp only [bD,iJ NU]
  have hk':((k.toNat:Nat):Int)=k:=WV k0;refine ⟨by omega,k.toNat,?_,D.int L[k.toNat],by rw [Wx,Wr nE];rfl,rfl,gZ ?_,hQ _ _ ⟨(L.eraseIdx k.toNat).length,?_,L.eraseIdx k.toNat,xs ++ [L[k.toNat]],rfl,?_,?_,?_,?_,?_⟩⟩
  ·rw [<- hk',WC]
   exact (HA (xw (by rw [Wo];exact nE))).1
  ·simp only [Wo,WX,List.length_nil];omega
  ·rw [List.length_eraseIdx,if_pos nE];omega
  ·rw [WL];rfl
  ·rw [Wu (dz NU),SD]
  ·refine List.Perm.trans ?_ pm
   rw [XI];exact List.Perm.append_left xs (SE nE)
  ·exact f4.ne hl
  ·exact (k3.trans k4).loc hls
 ·have he:L=[]:=by simpa using h
  subst he;refine eo ?_;kspl_open hQ;exact hQ _ _ ⟨xs,rfl,by simpa [ag.Tn] using pm,hf2.keep (Ex.cI _),k2.app _⟩
theorem Uv{st:Store}{xs ys:List Int}{n:Nat}(tx:ag.Tn n xs)(ty:ag.Tn n ys)(n0:0<n)(hn:n<=100):Wp (uM [cv xs ys] st) fun d st'=>∃(g:Nat) (F:List Int),d=.ref g/\items st' g=some (F.map D.int)/\(∀x,x∈F↔ag.jO xs ys x)/\F.length<=n/\ag.Od xs ys F/\Ex [] st st':=by
 have hlx:=tx.length;have AX:=ty.length;refine iT ?_;show Ws (FV [some (cv xs ys),none,none,none,none] st) _ _ _ _;unfold FV;refine aZ (b9 ?_);kspl_open hQ;refine ⟨rfl,hQ _ _ (aZ (mO (aA 0 (n+1)) (fun i δ st2=>∃(v2 v3 v4:Option D) (F:List Int),δ=[some (cv xs ys),some (.ref st.length),v2,v3,v4]/\st2[st.length]?=some (.lst (F.map D.int))/\ag.Fo xs ys F/\(ag.Cl xs ys F\/i+1<=F.length)/\Ex [] st st2) ?_ ?_ ?_ ?_))⟩
 ·unfold cv
  kspl_open hQ;have e0:((1:Int)+((xs.map D.int).length:Int)).toNat=n+1:=by rw [Wo];omega
  refine ⟨by rw [Wo];omega,hQ _ _ ⟨by rw [e0],none,none,none,[0],rfl,gG,ag.Fo.one xs ys,.inr (Wv _),Ex.cI _⟩⟩
 ·rw [fH];omega
 ·rintro i d δ st2 hd ⟨v2,v3,v4,F,rfl,JM,hF,hcl,k2⟩
  kspl_open hQ
  refine hQ _ _ (mO [.tup (xs.map D.int),.tup (ys.map D.int)] (fun m δ st3=>∃ (v3 v4:Option D) (G:List Int),δ=[some (cv xs ys),some (.ref st.length),some d,v3,v4]/\st3[st.length]?=some (.lst (G.map D.int))/\ag.Fo xs ys G /\
    (m=0->G=F)/\(m=1->F <+: G/\∀x∈F,ag.app xs x∈G)/\(2<=m->∃F1,F <+: F1/\F1 <+: G/\(∀x∈F,ag.app xs x∈F1)/\∀x∈F1,ag.app ys x∈G)/\Ex [] st st3) ?_ (by simp) ?_ ?_)
  ·unfold cv
   kspl_open hQ;exact hQ _ _ ⟨rfl,v3,v4,F,rfl,JM,hF,fun _=>rfl,fun z=>by omega,fun z=>by omega,k2⟩
  ·rintro m z δ st3 hm ⟨v3,v4,G,rfl,Ed,hG,m0,m1,_,k3⟩
   have hm2:m<2:=dz hm;obtain ⟨zs,rfl,hz,em⟩:∃(zs:List Int),z=.tup (zs.map D.int)/\(zs=xs\/zs=ys)/\((m=0/\zs=xs)\/(m=1/\zs=ys)):=by
    rcases (show m=0\/m=1 by omega) with rfl|rfl
    ·exact ⟨xs,by simpa using hm.symm,.inl rfl,.inl ⟨rfl,rfl⟩⟩
    ·exact ⟨ys,by simpa using hm.symm,.inr rfl,.inr ⟨rfl,rfl⟩⟩
   have tz:ag.Tn n zs:=by rcases hz with rfl|rfl;exact tx;exact ty
   have JN:=tz.length;have go:∀x,ag.jO xs ys x->ag.jO xs ys (ag.app zs x):=fun x h=>by rcases hz with rfl|rfl;exact h.r;exact h.u
   kspl_open hQ;refine hQ _ _ (FG (G.map D.int) st3.length (fun j δ nr=>∃(v4:Option D) (G':List Int),δ=[some (cv xs ys),some (.ref st.length),some d,some (.tup (zs.map D.int)),v4]/\nr[st.length]?=some (.lst (G'.map D.int))/\nr[st3.length]?=some (.lst (G.map D.int))/\ag.Fo xs ys G'/\G <+: G'/\(∀i',i' < j->∀x,G[i']?=some x->ag.app zs x∈G')/\Ex [] st nr) ?_ ?_ ?_ ?_ ?_)
   ·refine ck ?_
    intro dg hQ
    set_option simprocs false in simp only [bD,bw Ed]
    exact hQ _ _ ⟨rfl,v4,G,rfl,iI Ed,gG,hG,Yd _,fun i' h=>absurd h (Xe _),k3.app _⟩
   ·rw [Wo]
    have:=hG.len tx ty n0;omega
   ·rintro j δ nr ⟨_,_,_,_,h,_⟩
    exact bw h
   ·rintro j VQ δ nr hj0 ⟨v4,G',rfl,zv,rD,zw,pG,hd',k4⟩
    obtain ⟨y,hj,rfl⟩:=Dc hj0;have hjl:=dz hj;have hR:=hG.mt _ (Ww hj);obtain ⟨y0,y1⟩:=hR.bound tx ty n0;have at':=pT (xs:=zs) y0 (by rw [JN];exact y1);have hnext:∀GQ:List Int,G' <+: GQ->ag.app zs y∈GQ->∀i',i' < j+1->∀x,G[i']?=some x->ag.app zs x∈GQ:=fun GQ p h i' hi' x hx=>by
     by_cases e:i'=j
     ·subst e
      rw [hj] at hx;cases hx;exact h
     ·exact p.subset (hd' i' (by omega) x hx)
    kspl_open hQ;refine hQ _ _ (hJ ?_);refine ck ?_;intro g5 cF
    set_option simprocs false in simp only [bD,at',FJ (st:=nr) (c:=.ref st.length) (ns:=G') (bw zv)]
    refine cF _ _ ⟨fun hcn=>?_,fun hcn=>?_⟩
    ·have hnm:ag.app zs y ∉ G':=fun z=>by rw [Xh.mpr z] at hcn;cases hcn
     have NV:ag.Fo xs ys (G' ++ [ag.app zs y]):=by
      refine ⟨⟨Xw _ zw.z,?_,fun x hx=>?_⟩,zw.od.snoc (pG.subset (Ww hj)) (hz.imp (fun e=>by rw [e]) fun e=>by rw [e])⟩
      ·rw [List.nodup_append]
       refine ⟨zw.nd,by simp,fun x hx y' hy e=>hnm ?_⟩;have e2:y'=ag.app zs y:=by simpa using hy
       rw [<- e2,<- e];exact hx
      ·rcases WS.mp hx with h|h
       ·exact zw.mt x h
       ·have e2:x=ag.app zs y:=by simpa using h
        rw [e2];exact go _ hR
     have hlen2:=NV.len tx ty n0;rw [Wt] at hlen2;refine mN ?_;refine ck ?_;intro zx pY
     set_option simprocs false in simp only [bD,at',iJ zv]
     refine ⟨kY (by rw [bw zv];rfl),gZ (by rw [Wo];simp at hlen2;omega),pY _ _ ⟨_,G' ++ [ag.app zs y],rfl,?_,?_,NV,pG.trans (List.prefix_append _ _),hnext _ (List.prefix_append _ _) (by simp),k4.loc (Wv _)⟩⟩
     ·rw [Wu (dz zv),WL];rfl
     ·rw [Wz (by have:=dz Ed;omega)];exact rD
    ·have hcn:G'.contains (ag.app zs y)=true:=by simpa using hcn
     exact jd ⟨_,G',rfl,zv,rD,zw,pG,hnext G' (Yd _) (Xh.mp hcn),k4⟩
   ·rintro δ nr ⟨v4,G',rfl,zv,rD,zw,pG,hd',k4⟩
    rw [Wo] at hd';have hall:∀x∈G,ag.app zs x∈G':=fun x hx=>by
     obtain ⟨i',hi',e⟩:=XC hx;exact hd' i' hi' x (by rw [Wr hi',e])
    refine ⟨_,_,G',rfl,zv,zw,fun z=>by omega,fun z=>?_,fun z=>?_,k4⟩
    ·rcases em with ⟨rfl,rfl⟩|⟨rfl,_⟩
     ·have:=m0 rfl
      subst this;exact ⟨pG,hall⟩
     ·omega
    ·rcases em with ⟨rfl,_⟩|⟨rfl,rfl⟩
     ·omega
     ·obtain ⟨p1,c1⟩:=m1 rfl
      exact ⟨G,p1,pG,c1,hall⟩
  ·rintro δ st3 ⟨v3,v4,G,rfl,Ed,hG,_,_,m2,k3⟩
   obtain ⟨F1,p1,p2,c1,c2⟩:=m2 (Wv 2);exact ⟨_,_,_,G,rfl,Ed,hG,ag.round hF.toFd hG.toFd p1 p2 c1 c2 hcl,k3⟩
 ·rintro δ st2 ⟨v2,v3,v4,F,rfl,JM,hF,hcl,k2⟩
  rw [fH] at hcl;have hl:=hF.len tx ty n0;have hc:ag.Cl xs ys F:=hcl.resolve_right (by omega);refine eo ?_;kspl_open hQ;exact hQ _ _ ⟨_,F,rfl,bw JM,fun x=>⟨hF.mt x,fun h=>hc.all hF.z h⟩,hl,hF.od,k2⟩
theorem Uw{st:Store}{xs ys:List Int}{n:Nat}(tx:ag.Tn n xs)(ty:ag.Tn n ys)(n0:0<n)(hn:n<=100):Wp (uM [cv xs ys] st) fun d st'=>∃(g:Nat) (F:List Int),d=.ref g/\items st' g=some (F.map D.int)/\(∀x,x∈F↔ag.jO xs ys x)/\F.length<=n/\Ex [] st st' :=
 bj (Uv tx ty n0 hn) fun d st' ⟨g,F,h1,h2,h3,h4,_,h5⟩=>⟨g,F,h1,h2,h3,h4,h5⟩
theorem NW{st:Store}{δ:av}{X Y:List Int}{n:Nat}{Q:D->Store->Prop}(tX:ag.Tn n X)(tY:ag.Tn n Y)(n0:0<n)(hn:n<=100)(h1:δ[1]?=some (some (.int (n:Int))))(h6:δ[6]?=some (some (cv X Y)))
  (q:∀(L:List Int) (st':Store),L.length<=n->L.Nodup->(∀x,x∈L↔(0<=x/\x<(n:Int)/\¬ag.jO X Y x))->Ex [] st st'->Q (.ref st'.length) (st' ++ [.lst (L.map D.int)])) :
  Wp (dw (cz (ae (ah 1) ai)) 1 [6] (hName 0) (aI (aE (rn true) (ah 0) (aM uM (ae (ah 1) ai)))) (ah 0) δ st) Q:=by
 have Ux:δ.getD 6 none=some (cv X Y):=by rw [WI,h6];rfl
 refine MR (aA 0 n) (fun j zs δ' oC=>∃(v:Option D) (L:List Int),δ'=[v,some (cv X Y)]/\zs=L.map D.int/\L.length<=j/\L.Nodup/\(∀x,x∈L↔(0<=x/\x<(j:Int)/\¬ag.jO X Y x))/\Ex [] st oC) ?_ (by rw [fH];omega) ?_ ?_ ?_
 ·refine ck ?_
  intro dg hQ
  set_option simprocs false in simp only [bD,h1]
  refine ⟨by omega,hQ _ _ ⟨fun i ys δ st hi _=>?_,none,[],?_,rfl,Wv _,List.nodup_nil,fun x=>⟨(fun h=>nomatch h),fun h=>by omega⟩,Ex.refl⟩⟩
  ·rw [WC]
   show (if i<=(aA 0 n).length then some (aA 0 n)[i]? else none)=_;rw [if_pos hi]
  ·unfold pb
   simp only [WM,Xb,Ux];rfl
 ·rintro j zs δ' oC ⟨v,L,_,rfl,hl,_⟩
  rw [Wo];exact hl
 ·rintro j d zs δ' oC hd ⟨v,L,rfl,rfl,nC,nd,hL,k8⟩
  have hjl:=dz hd;rw [fH] at hjl;rw [yg hjl] at hd;cases hd;rw [XX];kspl_open hQ;refine hQ _ _ ?_;kspl_open cF;refine bj (Uw (st:=oC) tX tY n0 hn) ?_;rintro d pR ⟨g,F,rfl,hg,hF,VR,k9⟩;rw [FJ (c:=.ref g) (ns:=F) hg];refine ⟨_,rfl,cF _ _ ⟨fun hc=>?_,fun hc=>?_⟩⟩
  ·have hR:¬ag.jO X Y (j:Int):=fun h=>by rw [Xh.mpr ((hF _).mpr h)] at hc;cases hc
   kspl_open pY;refine pY _ _ ⟨_,L ++ [(j:Int)],rfl,by rw [WL];rfl,by rw [Wt];simp;omega,?_,fun x=>?_,k8.trans k9⟩
   ·rw [List.nodup_append]
    refine ⟨nd,by simp,fun x hx y hy e=>?_⟩;have e2:y=(j:Int):=by simpa using hy
    have:=((hL x).mp hx).2.1;omega
   ·rw [WS,hL x]
    constructor
    ·rintro (⟨a1,a2,a3⟩|h)
     ·exact ⟨a1,by omega,a3⟩
     ·have e2:x=(j:Int):=by simpa using h
      rw [e2];exact ⟨by omega,by omega,hR⟩
    ·rintro ⟨a1,a2,a3⟩
     rcases Int.lt_or_le x (j:Int) with h|h
     ·exact .inl ⟨a1,h,a3⟩
     ·exact .inr (by simp;omega)
  ·have hc:F.contains (j:Int)=true:=by simpa using hc
   have hR:=(hF _).mp (Xh.mp hc);refine ⟨_,L,rfl,rfl,by omega,nd,fun x=>?_,k8.trans k9⟩;rw [hL x];constructor
   ·rintro ⟨a1,a2,a3⟩;exact ⟨a1,by omega,a3⟩
   ·rintro ⟨a1,a2,a3⟩
    refine ⟨a1,?_,a3⟩;rcases Int.lt_or_le x (j:Int) with h|h
    ·exact h
    ·exact absurd hR (by rw [show (j:Int)=x by omega];exact a3)
 ·rintro zs δ' oC ⟨v,L,rfl,rfl,nC,nd,hL,k8⟩
  rw [fH] at nC hL;exact q L oC nC nd hL k8
theorem GS{st:Store}{f n:Nat}(hf:a5 st f)(n1:1<=n)(AY:n<=20):Wp (rC [.ref f,.int (n:Int)] st) fun d st'=>∃xs ys:List Int,d=cv xs ys/\nI n xs ys/\a5 st' f/\Ex [f] st st':=by
 have hfl:=hf.lt;refine iT ?_;show Ws (FW [some (.ref f),some (.int (n:Int)),none,none,none,none,none,none,none] st) _ _ _ _;unfold FW;refine aZ (b9 ?_);kspl_open hQ;refine bj (mH (n:=6) hf (by decide) (by decide)) ?_;rintro d st1 ⟨form,rfl,g0,g6,f1,k1⟩;refine hQ _ _ (aZ (MQ ?_));clear hQ;kspl_open hQ;refine bj (AW (n:=n) f1 (by omega)) ?_;rintro d st2 ⟨X,rfl,tX,f2,k2⟩
 w_how
 refine bj (AW (n:=n) (f2.keep (Ex.cI [.lst (X.map D.int)])) (by omega)) ?_;rintro d st3 ⟨Y,rfl,tY,f3,k3⟩
 w_how
 refine hQ _ _ ⟨_,_,rfl,?_⟩;clear hQ;have pe:st3[st2.length]?=some (.lst (X.map D.int)):=k3.keep _ _ gG (by have:=f2.lt;simp;omega);have two:oB st (st3 ++ [.lst (Y.map D.int)]) f st2.length st3.length n X Y:=⟨iI pe,gG,by have:=dz pe;omega,(k1.trans k2).len,((k1.trans k2).trans ((Ex.cI _).trans k3)).len,tX,tY,f3.keep (Ex.cI _),(((k1.trans k2).app _).trans k3).app _⟩;show Ws _ _ _ _ _;generalize (st3 ++ [O.lst (Y.map D.int)])=nr at two ⊢;generalize st2.length=r at two ⊢;generalize st3.length=u at two ⊢;clear pe tX tY f3 k3 f2 k2 f1 k1;refine aZ (rq (N:=fun δ kM=>∃(r u:Nat) (X Y:List Int),δ=[some (.ref f),some (.int (n:Int)),some (.int form),some (.ref r),some (.ref u),none,none,none,none]/\oB st kM f r u n X Y) (hJ ?_) ?_)
 ·kspl_open hQ
  refine hQ _ _ ⟨fun _=>b9 ?_,fun _=>jd ⟨r,u,X,Y,rfl,two⟩⟩;kspl_open cF;rw [<- M3];refine ⟨uH (by omega),rfl,gZ (by rw [fH];simp;omega),cF _ _ ⟨_,u,_,Y,rfl,(two.keep (((Ex.cI _).app _).app _)).yU (ag.L6 (show n<21 by omega) (by omega))⟩⟩
 rintro δ kM ⟨r,u,X,Y,rfl,two⟩;refine aZ (rq (N:=fun δ kM=>∃(r u:Nat) (X Y:List Int),δ=[some (.ref f),some (.int (n:Int)),some (.int form),some (.ref r),some (.ref u),none,none,none,none]/\oB st kM f r u n X Y) (hJ ?_) ?_)
 ·kspl_open hQ
  refine hQ _ _ ⟨fun _=>MQ ?_,fun _=>jd ⟨r,u,X,Y,rfl,two⟩⟩;kspl_open cF;rw [<- M3,show ((n:Int)-0).toNat=n by omega,pS];refine ⟨uH (by omega),uH (by omega),rfl,gZ (by rw [fH];simp;omega),cF _ _ ⟨_,_,rfl,_,_,_,_,rfl,(((two.keep (Ex.cI [.gS 0 (n:Int)])).yU (Z:=ag.upto n) (X9 _)).keep (((Ex.cI _).app _).app _)).yV (ag.L6 (show n<21 by omega) (by omega))⟩⟩
 rintro δ Jf ⟨r,u,X,Y,rfl,two⟩;refine aZ (rq (N:=fun δ kM=>∃(r u:Nat) (v5:Option D) (X Y:List Int),δ=[some (.ref f),some (.int (n:Int)),some (.int form),some (.ref r),some (.ref u),v5,none,none,none]/\oB st kM f r u n X Y) (hJ ?_) ?_)
 ·kspl_open hQ
  refine hQ _ _ ⟨fun _=>aZ (b9 ?_),fun _=>jd ⟨r,u,none,X,Y,rfl,two⟩⟩;kspl_open cF;refine bj (mH (n:=(n:Int)) two.fd (by omega) (by omega)) ?_;rintro d qO ⟨w,rfl,w0,w1,f7,k7⟩;obtain ⟨wd,rfl⟩:∃wd:Nat,w=(wd:Int)-1:=⟨(w+1).toNat,by omega⟩;have t7:oB st qO f r u n X Y:=⟨k7.keep _ _ two.hr (by have:=two.r0;simp;omega),k7.keep _ _ two.hu (by have:=two.u0;simp;omega),two.ne,two.r0,two.u0,two.tX,two.tY,f7,two.ex.trans k7⟩
  w_how
  rw [show (1:Int)+((wd:Int)-1)=(wd:Int) by omega];refine cF _ _ (aZ (b9 ?_));clear cF hQ;kspl_open cF;rw [<- yW];refine ⟨uH (by omega),rfl,gZ (by rw [fH];simp;omega),uH (by omega),gZ (by rw [Wt,fH,fH];simp;omega),cF _ _ (aZ (b9 ?_))⟩;clear cF;have t8:=(t7.keep ((((((Ex.cI [.gS 1 (wd:Int)]).app [.lst (aA 1 ((wd:Int)-1).toNat)]).app [.lst [.int 0]]).app [.lst (aA 1 ((wd:Int)-1).toNat ++ [.int 0])]).app [.gS (wd:Int) (n:Int)]).app [.lst (aA (wd:Int) ((n:Int)-(wd:Int)).toNat)])).yU (ag.QP (w:=wd) (show n<21 by omega) (by omega) (by omega));generalize Uy:(qO ++ _ ++ _ ++ _ ++ _ ++ _ ++ _ ++ _:Store)=oC at t8 ⊢;generalize List.length _=r8 at t8 ⊢;kspl_open cF;refine ⟨rfl,uH (by omega),gZ (by simp [fH];omega),uH (by omega),gZ (by simp [fH];omega),rfl,gZ (by simp [fH];omega),cF _ _ (hJ ?_)⟩;clear cF;generalize Uz:(oC ++ _ ++ _ ++ _ ++ _ ++ _ ++ _ ++ _ ++ _ ++ _:Store)=GU;have tE:oB st GU f r8 u n (ag.su wd n) Y:=by rw [<- Uz];exact t8.keep (((((((((Ex.cI _).app _).app _).app _).app _).app _).app _).app _).app _)
  kspl_open hQ;refine hQ _ _ ⟨fun hw=>?_,fun hw=>?_⟩
  ·refine b9 ?_
   kspl_open cF;rw [show ((n:Int)-0).toNat=n by omega,pS];exact ⟨uH (by omega),cF _ _ ⟨r8,_,_,_,_,rfl,(tE.keep ((Ex.cI _).app _)).yV (X9 _)⟩⟩
  ·have hne:wd≠n:=fun z=>by simp [z] at hw
   have tF:=tE.yV (ag.QQ (w:=wd) (show n<21 by omega) (by omega) (by omega));rw [yX (by omega) (by omega)] at tF;exact jd ⟨r8,_,_,_,_,rfl,tF⟩
 rintro δ qO ⟨r,u,v5,X,Y,rfl,two⟩;have n0:0<n:=by omega
 refine aZ (b9 ?_);refine ck ?_;intro dg hQ
 set_option simprocs false in simp only [bD,bw two.hr,bw two.hu]
 refine ⟨rfl,hQ _ _ (aZ (b9 (NW (X:=X) (Y:=Y) two.tX two.tY n0 (by omega) rfl rfl ?_)))⟩;clear hQ;intro L oC nC nd hL k8;have t8:=(two.keep k8).keep (Ex.cI [.lst (L.map D.int)]);refine aZ (Ar (fun mm δ pR=>∃(pa:Nat) (X L:List Int) (v8:Option D),mm=L.length/\δ=[some (.ref f),some (.int (n:Int)),some (.int form),some (.ref r),some (.ref u),v5,some (cv X Y),some (.ref pa),v8]/\oB st pR f r u n X Y/\items pR pa=some (L.map D.int)/\L.length<=n/\L.Nodup/\(∀x,x∈L↔(0<=x/\x<(n:Int)/\¬ag.jO X Y x))) L.length (Xn nC (Xn AY (by decide))) ⟨_,X,L,none,rfl,rfl,t8,rA,nC,nd,hL⟩ ?_);rintro mm δ pR ⟨pa,X,L,v8,rfl,rfl,two,hpa,nC,nd,hL⟩;have VS:=two.tX.length;have zy:items (pR ++ [O.lst []]) pa=some (L.map D.int):=by
  unfold items at hpa ⊢;cases e:pR[pa]? with
  |none=>rw [e] at hpa;cases hpa
  |some o=>rw [iI e];rw [e] at hpa;exact hpa
 refine ck ?_;intro dg hQ
 set_option simprocs false in simp only [bD,M1 (L:=L) (M:=[]) (st:=pR ++ [O.lst []]) zy rA]
 refine ⟨rfl,hQ _ _ ⟨fun h=>?_,fun h=>?_⟩⟩
 ·have hne:L≠[]:=by simpa using h
  clear hQ;obtain ⟨m,L1,rfl⟩:∃m L1,L=m :: L1:=by cases L with|nil=>exact absurd rfl hne|cons m L1=>exact ⟨m,L1,rfl⟩
  obtain ⟨m0,m1,mR⟩:=(hL m).mp Wy;have t2:=two.keep (Ex.cI [O.lst []]);generalize (pR ++ [O.lst []])=GU at zy t2 ⊢;refine aZ (b9 ?_);refine ck ?_;intro dg hQ
  set_option simprocs false in simp only [bD,zy,WM]
  refine hQ _ _ (aZ (nW ?_));clear hQ;refine ck ?_;intro dg hQ
  set_option simprocs false in simp only [bD,bw t2.hr,pT (xs:=X) m0 (by omega),pT (xs:=X) (i:=0) (by decide) (by omega)]
  refine ⟨rfl,hQ _ _ ?_⟩;clear hQ;have i0:mC (X.map D.int).length 0=some 0:=xw (j:=0) (by rw [Wo];omega);have im:mC ((X.map D.int).set 0 (.int (ag.app X m))).length m=some m.toNat:=by
   rw [W3];have:=xw (n:=(X.map D.int).length) (j:=m.toNat) (by rw [Wo];omega)
   rwa [WV m0] at this
  have pe:(GU.set r (.lst ((X.map D.int).set 0 (.int (ag.app X m)))))[r]?=some (.lst ((X.map D.int).set 0 (.int (ag.app X m)))):=Wu (dz t2.hr);have eS:((X.map D.int).set 0 (.int (ag.app X m))).set m.toNat (.int (ag.app X 0))=(ag.nF X m.toNat).map D.int:=by
   unfold ag.nF;rw [WV m0,XF,XF]
  refine ck ?_;intro dg hQ
  set_option simprocs false in simp only [bD,iJ t2.hr,iJ pe,i0,im,eS]
  refine ⟨rfl,hQ _ _ (aZ (b9 ?_))⟩;clear hQ;have tS:=ag.xG t2.tX (m:=m.toNat) (by omega);have hmet:=ag.QK t2.tX t2.tY (m:=m.toNat) (by omega) (by rw [WV m0];exact mR);rw [WV m0] at hmet;rw [List.set_set];have t3:=t2.put (Z:=ag.nF X m.toNat) tS hfl;generalize GU.set r _=st3 at t3 ⊢;refine ck ?_;intro dg hQ
  set_option simprocs false in simp only [bD,bw t3.hr,bw t3.hu]
  refine ⟨rfl,hQ _ _ (b9 (NW (X:=ag.nF X m.toNat) (Y:=Y) t3.tX t3.tY n0 (by omega) rfl rfl ?_))⟩;intro L' nr JO NX hL' k4;refine ⟨_,?_,nr.length,ag.nF X m.toNat,L',_,rfl,rfl,(t3.keep k4).keep (Ex.cI _),rA,JO,NX,hL'⟩;refine ag.less (m:=m) NX (fun x hx=>?_) Wy (fun h=>((hL' m).mp h).2.2 hmet.1);obtain ⟨a1,a2,a3⟩:=(hL' x).mp hx;exact (hL x).mpr ⟨a1,a2,fun h=>a3 (hmet.2 x h)⟩
 ·have he:L=[]:=by simpa using h
  subst he;refine eo ?_;kspl_open cF;have t2:=two.keep (Ex.cI [O.lst []]);refine cF _ _ ⟨X,Y,rfl,⟨t2.tX,t2.tY,fun x x0 x1=>?_⟩,t2.fd,t2.ex⟩;exact Classical.byContradiction fun h=>nomatch (hL x).mpr ⟨x0,x1,h⟩
theorem JP{st:Store}{xs:List Int}{n:Nat}(tn:ag.Tn n xs)(hn:n<=100):Wp (tf [.tup (xs.map D.int)] st) fun d st'=>d=.tup ((ag.inv xs).map D.int)/\Ex [] st st':=by
 have hlen:=tn.length;refine iT ?_;show Ws (F8 [some (.tup (xs.map D.int)),none,none,none] st) _ _ _ _;unfold F8;refine aZ (b9 ?_);kspl_open hQ;have e0:(((xs.map D.int).length:Int)).toNat=n:=by rw [Wo];omega
 have ez:(List.replicate n [D.int 0]).flatten=(List.replicate n (0:Int)).map D.int:=by
  induction n with
  |zero=>rfl
  |succ n ih=>simp [Xg]
 rw [e0,ez];refine ⟨rfl,by rw [Wo];omega,gZ (by simp;omega),hQ _ _ (aZ (mO (fU (xs.map D.int)) (fun k δ st2=>∃(v2 v3:Option D) (bs:List Int),δ=[some (.tup (xs.map D.int)),some (.ref (st ++ [O.lst [D.int 0]]).length),v2,v3]/\st2[(st ++ [O.lst [D.int 0]]).length]?=some (.lst (bs.map D.int))/\bs.length=n/\(∀j,j<k->∀x,xs[j]?=some x->bs[x.toNat]?=some (j:Int))/\Ex [] st st2) ?_ ?_ ?_ ?_))⟩
 ·kspl_open hQ
  exact hQ _ _ ⟨rfl,none,none,_,rfl,gG,by simp,fun j hj=>absurd hj (Xe _),(Ex.cI _).app _⟩
 ·rw [CJ,Wo];omega
 ·have Ee:st.length<=(st ++ [O.lst [D.int 0]]).length:=by simp
  generalize (st ++ [O.lst [D.int 0]]).length=B at Ee ⊢;rintro k d δ st2 hd ⟨v2,v3,bs,rfl,hB,uQ,uR,k2⟩;obtain ⟨d',hd',rfl⟩:=Je hd;obtain ⟨x,hx,rfl⟩:=Dc hd';obtain ⟨x0,x1⟩:=tn.bound (Ww hx);have nE:=dz hx;kspl_open hQ;refine ⟨rfl,hQ _ _ (nW ?_)⟩;have hix:mC (bs.map D.int).length x=some x.toNat:=by
   have:=xw (n:=(bs.map D.int).length) (j:=x.toNat) (by rw [Wo];omega)
   rwa [WV x0] at this
  have es:(bs.map D.int).set x.toNat (.int (k:Int))=(bs.set x.toNat (k:Int)).map D.int:=by rw [XF]
  kspl_open cF;refine cF _ _ ?_;refine ck ?_;intro zx pY
  set_option simprocs false in simp only [bD,iJ hB,hix,es]
  refine pY _ _ ⟨_,_,bs.set x.toNat (k:Int),rfl,Wu (dz hB),by rw [W3];exact uQ,fun j hj y hy=>?_,k2.loc Ee⟩
  by_cases hjk:j=k
  ·subst hjk
   rw [hx] at hy;cases hy;rw [Wu (by rw [uQ];omega)]
  ·obtain ⟨y0,y1⟩:=tn.bound (Ww hy)
   rw [Wz (fun z=>?_)]
   ·exact uR j (by omega) y hy
   ·obtain ⟨h1,e1⟩:=Wq.mp hx
    obtain ⟨h2,e2⟩:=Wq.mp hy;exact hjk ((List.getElem_inj tn.nodup).mp (show xs[j]=xs[k] by omega))
 ·rintro δ st2 ⟨v2,v3,bs,rfl,hB,uQ,uR,k2⟩
  rw [CJ,Wo] at uR;have eb:bs=ag.inv xs:=by
   apply List.ext_getElem?;intro i
   by_cases hi:i<n
   ·have hm:=tn.mem (i:=(i:Int)) (by omega) (by omega)
    have hil:=List.idxOf_lt_length_of_mem hm;have:=uR (xs.idxOf (i:Int)) hil (i:Int) (by rw [Wr hil];exact congrArg some (List.getElem_idxOf hil));rw [WC] at this;rw [this];have ea:=ag.o5 (xs:=ag.inv xs) (i:=(i:Int)) (by omega) (by rw [ag.B6];omega);rw [WC,ag.Fc (by omega) (by omega)] at ea;exact ea.symm
   ·rw [List.getElem?_eq_none (by omega),List.getElem?_eq_none (by rw [ag.B6];omega)]
  subst eb;refine eo ?_;refine ck ?_;intro dg hQ
  set_option simprocs false in simp only [bD,bw hB]
  exact hQ _ _ ⟨rfl,k2⟩
theorem Ef{st:Store}{xs ys:List Int}(hb:∀x∈xs,0<=x/\x<(ys.length:Int))(hn:xs.length<=100):Wp (qG [.tup (xs.map D.int),.tup (ys.map D.int)] st) fun d st'=>d=.tup ((ag.bB xs ys).map D.int)/\Ex [] st st':=by
 refine iT ?_;show Ws (Ga [some (.tup (xs.map D.int)),some (.tup (ys.map D.int))] st) _ _ _ _;unfold Ga;refine eo ?_;kspl_open hQ;refine qC (xs.map D.int) (fun d=>.int (ag.app ys (inD d))) ?_ (by rw [Wo];omega) ?_ ?_
 ·kspl_open cF
  exact cF _ _ ⟨qW _ _,Ex.refl⟩
 ·intro d hd st1 k1
  obtain ⟨x,hx,rfl⟩:=vX hd;obtain ⟨x0,x1⟩:=hb x hx;refine ck ?_;intro g5 cF
  set_option simprocs false in simp only [bD,WM,Xb,W5,W6,pT (xs:=ys) x0 x1]
  exact cF _ _ ⟨rfl,Ex.refl⟩
 ·intro st' k'
  rw [Au (f:=ag.app ys) fun x hx=>rfl]
  w_how
  exact hQ _ _ ⟨rfl,k'.app _⟩
theorem UA{st:Store}{xs ys p:List Int}{n:Nat}(tx:ag.Tn n xs)(ty:ag.Tn n ys)(tp:ag.Tn n p)(hn:n<=100):Wp (DB [cv xs ys,.tup (p.map D.int)] st) fun d st'=>d=cv (ag.anew xs p) (ag.anew ys p)/\Ex [] st st':=by
 have hlx:=tx.length;have AX:=ty.length;have Eg:=tp.length;have ti:=tp.aG;have hli:=ti.length;refine iT ?_;show Ws (Gb [some (cv xs ys),some (.tup (p.map D.int)),none,none,none] st) _ _ _ _;unfold Gb cv;refine aZ (b9 ?_);kspl_open hQ;refine bj (JP tp hn) ?_;rintro d st1 ⟨rfl,k1⟩;refine hQ _ _ (aZ (b9 ?_));clear hQ;kspl_open hQ;refine bj (Ef (xs:=ag.inv p) (ys:=xs) (fun x hx=>by rw [hlx];exact ti.bound hx) (by omega)) ?_;rintro d st2 ⟨rfl,k2⟩;refine bj (Ef (xs:=ag.bB (ag.inv p) xs) (ys:=p) (fun x hx=>by rw [Eg];exact (ti.bB tx).bound hx) (by rw [ag.B9];omega)) ?_;rintro d st3 ⟨rfl,k3⟩;refine hQ _ _ (aZ (b9 ?_));clear hQ;kspl_open hQ;refine bj (Ef (xs:=ag.inv p) (ys:=ys) (fun x hx=>by rw [AX];exact ti.bound hx) (by omega)) ?_;rintro d nr ⟨rfl,k4⟩;refine bj (Ef (xs:=ag.bB (ag.inv p) ys) (ys:=p) (fun x hx=>by rw [Eg];exact (ti.bB ty).bound hx) (by rw [ag.B9];omega)) ?_;rintro d kM ⟨rfl,k5⟩;refine hQ _ _ (eo ?_);clear hQ;kspl_open hQ;exact ⟨rfl,hQ _ _ ⟨rfl,(((k1.trans k2).trans k3).trans k4).trans k5⟩⟩
theorem NY{F:List Int}{x:Int}:(!F.contains x)=true->ag.c9 F x=F ++ [x]:=fun h=>by
 unfold ag.c9;rw [if_neg fun z=>by rw [Xh.mpr z] at h;cases h]
theorem NZ{F:List Int}{x:Int}:(!F.contains x)=false->ag.c9 F x=F:=fun h=>by
 unfold ag.c9;rw [if_pos (Xh.mp (by simpa using h))]
theorem UB{st:Store}{xs ys:List Int}{n:Nat}{s:Int}(tx:ag.Tn n xs)(ty:ag.Tn n ys)(hn:n<=100)(s0:0<=s)(s1:s<(n:Int)):Wp (DE [cv xs ys,.int s] st) fun d st'=>d=.tup ((ag.bf xs ys s n).map D.int)/\Ex [] st st':=by
 have hlx:=tx.length;have AX:=ty.length;refine iT ?_;show Ws (Ge [some (cv xs ys),some (.int s),none,none,none,none] st) _ _ _ _;unfold Ge;refine aZ (b9 ?_);kspl_open hQ;refine ⟨rfl,hQ _ _ (aZ (b9 ?_))⟩;clear hQ;kspl_open hQ;refine hQ _ _ (aZ (Ar (fun m δ st2=>∃(k:Nat) (v4 v5:Option D),m=n-k/\δ=[some (cv xs ys),some (.int s),some (.ref st.length),some (.int (k:Int)),v4,v5]/\st2[st.length]?=some (.lst ((ag.bf xs ys s k).map D.int))/\k<=(ag.bf xs ys s k).length/\Ex [] st st2) n (Xn hn (by decide)) ⟨0,none,none,by omega,rfl,gG,W9 _,Ex.cI _⟩ ?_));clear hQ;rintro m δ st2 ⟨k,v4,v5,rfl,rfl,hl,hk,k2⟩;have uQ:=ag.Ca tx ty s0 s1 k;refine ck ?_;intro dg hQ
 set_option simprocs false in simp only [bD,bw hl]
 refine hQ _ _ ⟨fun hlt=>?_,fun hlt=>?_⟩
 ·clear hQ
  have hlt:=of_decide_eq_true hlt;rw [Wo] at hlt;have nE:k<(ag.bf xs ys s k).length:=by omega
  obtain ⟨x,hx⟩:∃x,(ag.bf xs ys s k)[k]?=some x:=⟨_,Wr nE⟩;obtain ⟨x0,x1⟩:=ag.qQ tx ty s0 s1 k x (Ww hx);have e1:ag.bf xs ys s (k+1)=ag.visit xs ys (ag.bf xs ys s k) x:=by
   show (match (ag.bf xs ys s k)[k]? with|some x=>ag.visit xs ys (ag.bf xs ys s k) x|none=>ag.bf xs ys s k)=_;rw [hx]
  have hb1:=ag.Ca tx ty s0 s1 (k+1);rw [e1] at hb1;have hp1:=(ag.vD (ag.c9 (ag.bf xs ys s k) (ag.app xs x)) (ag.app ys x)).length_le;have hp0:=(ag.vD (ag.bf xs ys s k) (ag.app xs x)).length_le;change _<=(ag.visit xs ys (ag.bf xs ys s k) x).length at hp1;refine aZ (mO [.tup (xs.map D.int),.tup (ys.map D.int)] (fun m δ st3=>∃(v4 v5:Option D) (G:List Int),δ=[some (cv xs ys),some (.int s),some (.ref st.length),some (.int (k:Int)),v4,v5]/\st3[st.length]?=some (.lst (G.map D.int))/\(m=0->G=ag.bf xs ys s k)/\(m=1->G=ag.c9 (ag.bf xs ys s k) (ag.app xs x))/\(m=2->G=ag.visit xs ys (ag.bf xs ys s k) x)/\Ex [] st st3) ?_ (by simp) ?_ ?_)
  ·unfold cv
   kspl_open hQ;exact hQ _ _ ⟨rfl,v4,v5,_,rfl,hl,fun _=>rfl,fun z=>by omega,fun z=>by omega,k2⟩
  ·rintro m z δ st3 hm ⟨v4,v5,G,rfl,hl3,g0,g1,_,k3⟩
   have hm2:m<2:=dz hm;obtain ⟨zs,rfl,tz,em⟩:∃(zs:List Int),z=.tup (zs.map D.int)/\ag.Tn n zs/\((m=0/\zs=xs)\/(m=1/\zs=ys)):=by
    rcases (show m=0\/m=1 by omega) with rfl|rfl
    ·exact ⟨xs,by simpa using hm.symm,tx,.inl ⟨rfl,rfl⟩⟩
    ·exact ⟨ys,by simpa using hm.symm,ty,.inr ⟨rfl,rfl⟩⟩
   have hG:G.length<=100/\G[k]?=some x:=by
    rcases em with ⟨rfl,_⟩|⟨rfl,_⟩
    ·rw [g0 rfl];exact ⟨by omega,hx⟩
    ·rw [g1 rfl]
     refine ⟨by omega,?_⟩;obtain ⟨t,e⟩:=ag.vD (ag.bf xs ys s k) (ag.app xs x);rw [<- e,WG nE];exact hx
   have Eh:∀G',G'=ag.c9 G (ag.app zs x)->(m+1=0->G'=ag.bf xs ys s k)/\(m+1=1->G'=ag.c9 (ag.bf xs ys s k) (ag.app xs x))/\(m+1=2->G'=ag.visit xs ys (ag.bf xs ys s k) x):=fun G' e=>by
    rcases em with ⟨rfl,rfl⟩|⟨rfl,rfl⟩
    ·exact ⟨fun z=>by omega,fun _=>by rw [e,g0 rfl],fun z=>by omega⟩
    ·exact ⟨fun z=>by omega,fun z=>by omega,fun _=>by rw [e,g1 rfl];rfl⟩
   have hat:eW (G.map D.int) (k:Int)=some (.int x):=zX (by rw [Wx,hG.2];rfl);kspl_open hQ;refine hQ _ _ (aZ (b9 ?_));clear hQ;refine ck ?_;intro dg hQ
   set_option simprocs false in simp only [bD,bw hl3,hat,pT (xs:=zs) x0 (by rw [tz.length];exact x1)]
   refine hQ _ _ (hJ ?_);clear hQ;refine ck ?_;intro dg hQ
   set_option simprocs false in simp only [bD,FJ (st:=st3) (c:=.ref st.length) (ns:=G) (bw hl3)]
   refine hQ _ _ ⟨fun hc=>mN ?_,fun hc=>jd ?_⟩
   ·obtain ⟨n0,n1,n2⟩:=Eh (G ++ [ag.app zs x]) (NY hc).symm
    refine ck ?_;intro g5 cF
    set_option simprocs false in simp only [bD,iJ hl3]
    refine ⟨kY (by rw [bw hl3];rfl),gZ (by rw [Wo];omega),cF _ _ ⟨_,_,G ++ [ag.app zs x],rfl,?_,n0,n1,n2,k3.loc (Wv _)⟩⟩;rw [Wu (dz hl3),WL];rfl
   ·obtain ⟨n0,n1,n2⟩:=Eh G (NZ hc).symm
    exact ⟨_,_,G,rfl,hl3,n0,n1,n2,k3⟩
  ·rintro δ st3 ⟨v4,v5,G,rfl,hl3,_,_,g2,k3⟩
   have g2:=g2 rfl;subst g2;refine b9 ?_;kspl_open hQ;refine hQ _ _ ⟨n-(k+1),by omega,k+1,v4,v5,rfl,by simp,by rw [e1];exact hl3,by rw [e1];omega,k3⟩
 ·have hlt:=of_decide_eq_false hlt
  rw [Wo] at hlt;have hle:(ag.bf xs ys s k).length<=k:=by omega
  have e:ag.bf xs ys s n=ag.bf xs ys s k:=by
   have:=ag.Fe hle (n-k)
   rwa [show k+(n-k)=n by omega] at this
  refine eo ?_;refine ck ?_;intro g5 cF
  set_option simprocs false in simp only [bD,bw hl]
  rw [<- e];exact cF _ _ ⟨rfl,k2⟩
theorem UC{st:Store}{xs:List Int}{n:Nat}{i:Int}(tn:ag.Tn n xs)(hn:n<=100)(i0:0<=i)(i1:i<(n:Int)):Wp (DL [.tup (xs.map D.int),.int i] st) fun d st'=>∃r:List Int,d=.tup (r.map D.int)/\ag.je xs i r/\Ex [] st st':=by
 have hlen:=tn.length;refine iT ?_;show Ws (Gj [some (.tup (xs.map D.int)),some (.int i),none,none] st) _ _ _ _;unfold Gj;refine aZ (b9 ?_);kspl_open hQ;refine ⟨rfl,hQ _ _ (aZ (b9 ?_))⟩;clear hQ;refine ck ?_;intro dg hQ
 set_option simprocs false in simp only [bD,pT (xs:=xs) i0 (by omega)]
 refine hQ _ _ (aZ (Ar (fun m δ st2=>∃k:Nat,m=n-(k+1)/\δ=[some (.tup (xs.map D.int)),some (.int i),some (.ref st.length),some (.int (ag.bW xs i (k+1)))]/\st2[st.length]?=some (.lst ((ag.row xs i k).map D.int))/\ag.NB xs i k/\Ex [] st st2) (n-1) (Xn (show n-1<=100 by omega) (by decide)) ⟨0,rfl,rfl,gG,fun j h1 h2=>by omega,Ex.cI _⟩ ?_));clear hQ;rintro m δ st2 ⟨k,rfl,rfl,hL,nb,k2⟩;have hrl:=tn.kU i0 i1 nb;kspl_open hQ;refine hQ _ _ ⟨fun hb=>?_,fun hb=>?_⟩
 ·have hb:ag.bW xs i (k+1)≠i:=by simpa using hb
  have Ei:ag.NB xs i (k+1):=fun j h1 h2=>by
   by_cases hj:j<=k
   ·exact nb j h1 hj
   ·have:j=k+1:=by omega
    rw [this];exact hb
  have hle:=tn.kU i0 i1 Ei;have hit:=tn.bW i0 i1 (k+1);refine aZ (mN ?_);refine ck ?_;intro g5 cF
  set_option simprocs false in simp only [bD,iJ hL]
  refine ⟨kY (by rw [bw hL];rfl),gZ (by rw [Wo,ag.tJ];omega),cF _ _ (b9 ?_)⟩;clear cF;refine ck ?_;intro g5 cF
  set_option simprocs false in simp only [bD,pT (xs:=xs) hit.1 (by omega)]
  refine cF _ _ ⟨n-(k+1+1),by omega,k+1,rfl,rfl,?_,Ei,k2.loc (Wv _)⟩;rw [Wu (dz hL),ag.L5,WL];rfl
 ·have hb:ag.bW xs i (k+1)=i:=by simpa using hb
  refine eo ?_;refine ck ?_;intro g5 cF
  set_option simprocs false in simp only [bD,bw hL]
  exact cF _ _ ⟨_,rfl,⟨k,rfl,nb,hb⟩,k2⟩
theorem UD{st:Store}{xs:List Int}{n:Nat}(tn:ag.Tn n xs)(hn:n<=100):Wp (DN [.tup (xs.map D.int)] st) fun d st'=>∃rs:List (List Int),d=C7 rs/\ag.vC xs (ag.upto n) rs/\(∀r∈rs,r.length<=n/\∀x∈r,0<=x/\x<(n:Int))/\rs.length<=n/\Ex [] st st':=by
 have hlen:=tn.length;refine iT ?_;show Ws (Gm [some (.tup (xs.map D.int)),none,none,none,none,none] st) _ _ _ _;unfold Gm;refine aZ (b9 ?_);kspl_open hQ;refine ⟨rfl,hQ _ _ (aZ (b9 ?_))⟩;clear hQ;kspl_open hQ;have eS:(st ++ [O.lst []]).length=st.length+1:=by simp
 rw [eS]
 refine hQ _ _ (aZ (mO (aA 0 n) (fun k δ st2=>∃ (v3 v4 v5:Option D) (rs:List (List Int)) (kvs:List (Key×D)),δ=[some (.tup (xs.map D.int)),some (.ref st.length),some (.ref (st.length + 1)),v3,v4,v5]/\st2[st.length]?=some (.lst (rs.map fun r=>.tup (r.map D.int)))/\st2[st.length + 1]?=some (.dct kvs) /\
   (∀rest,ag.vC xs (ag.from' n k (fun x=>(eQ kvs (Sum.inl x:Key)).isSome)) rest->ag.vC xs (ag.upto n) (rs ++ rest))/\(∀r∈rs,r.length<=n/\∀x∈r,0<=x/\x<(n:Int))/\rs.length<=k/\kvs.length<=k*n/\Ex [] st st2) ?_ (by rw [fH];omega) ?_ ?_))
 ·clear hQ
  kspl_open hQ;rw [Wo,hlen];refine ⟨by omega,hQ _ _ ⟨by rw [WC],none,none,none,[],[],rfl,iI gG,by rw [<- eS];exact gG,fun rest hrest=>?_,(fun r hr=>nomatch hr),Wv _,W9 _,(Ex.cI _).app _⟩⟩;have e:ag.from' n 0 (fun x=>(eQ ([]:List (Key×D)) (Sum.inl x:Key)).isSome)=ag.upto n:=ag.QF n;rw [e] at hrest;exact hrest
 ·rintro k d δ st2 hd ⟨v3,v4,v5,rs,kvs,rfl,GV,GW,wC,hb,hrl,nE,k2⟩
  have hk:=dz hd;rw [fH] at hk;rw [yg hk,XX] at hd;cases hd;have hkn:k*n<=10000:=WZ (Nat.mul_le_mul (show k<=100 by omega) hn) (by decide);clear hQ;kspl_open hQ;refine hQ _ _ (hJ ?_);clear hQ;refine ck ?_;intro dg hQ
  set_option simprocs false in simp only [bD,M6 GW,M7]
  have hfs:=ag.QD hk (fun x=>(eQ kvs (Sum.inl x:Key)).isSome);refine hQ _ _ ⟨fun hs=>?_,fun hs=>?_⟩
  ·have JQ:(eQ kvs (Sum.inl (k:Int):Key)).isSome=false:=by simpa using hs
   simp only [JQ,WR,if_false] at hfs;clear hQ;refine aZ (b9 ?_);kspl_open hQ;refine bj (UC tn hn (i:=(k:Int)) (by omega) (by omega)) ?_;rintro d st3 ⟨r,rfl,nY,k3⟩;refine hQ _ _ (aZ (mN ?_));clear hQ;have JR:=k3.keep _ _ GV (by simp);have UE:=k3.keep _ _ GW (by simp);have JS:=nY.len tn (by omega) (by omega);have hrb:=nY.bound tn (by omega) (by omega);refine ck ?_;intro dg hQ
   set_option simprocs false in simp only [bD,iJ JR]
   refine ⟨kY (by rw [bw JR];rfl),gZ (by rw [Wo];omega),hQ _ _ ?_⟩;clear hQ
   refine mO (r.map D.int) (fun j δ kM=>∃ (v5:Option D) (kvs':List (Key×D)),δ=[some (.tup (xs.map D.int)),some (.ref st.length),some (.ref (st.length + 1)),some (.int (k:Int)),some (.tup (r.map D.int)),v5]/\kM[st.length]?=some (.lst ((rs ++ [r]).map fun r=>.tup (r.map D.int)))/\kM[st.length + 1]?=some (.dct kvs') /\
     (∀x:Int,(eQ kvs' (Sum.inl x:Key)).isSome=((eQ kvs (Sum.inl x:Key)).isSome || (r.take j).contains x))/\kvs'.length<=kvs.length+j/\Ex [] st kM) ?_ (by rw [Wo];omega) ?_ ?_
   ·kspl_open hQ
    refine hQ _ _ ⟨rfl,v5,kvs,rfl,?_,?_,fun x=>by simp,by omega,(k2.trans k3).loc (Wv _)⟩
    ·rw [Wu (dz JR),WL];rfl
    ·rw [Wz (by omega)];exact UE
   ·rintro j y δ kM hj ⟨v5,kvs',rfl,JT,GX,GY,Ej,k5⟩
    obtain ⟨x,hx,rfl⟩:=Dc hj;obtain ⟨hjl,ex⟩:=Wq.mp hx;subst ex;kspl_open hQ;refine hQ _ _ (R6 ?_);clear hQ;kspl_open hQ;refine hQ _ _ ?_;kspl_open cF;refine cF _ _ ?_;kspl_open pY;refine pY _ _ ⟨_,kvs',_,rfl,M6 GX,M7 _,gZ (by omega),_,_,rfl,?_,Wu (dz GX),fun x=>?_,?_,k5.loc (by omega)⟩
    ·rw [Wz (by omega)];exact JT
    ·rw [SM,SO hjl]
     by_cases hx:x=r[j]
     ·subst hx;simp
     ·rw [if_neg (by intro z;exact hx (Sum.inl.inj z)),GY x]
      have:(x == r[j])=false:=beq_eq_false_iff_ne.mpr hx;rw [this,Bool.or_false]
    ·have:=SN kvs' (Sum.inl r[j]:Key) (.bl true);omega
   ·rintro δ kM ⟨v5,kvs',rfl,JT,GX,GY,Ej,k5⟩
    rw [Wo] at Ej GY;refine ⟨_,_,_,rs ++ [r],kvs',rfl,JT,GX,fun rest hrest=>?_,fun r' hr'=>?_,by rw [Wt];simp;omega,by rw [Nat.succ_mul];omega,k5⟩
    ·have e:(fun x=>(eQ kvs' (Sum.inl x:Key)).isSome)=fun x=>((eQ kvs (Sum.inl x:Key)).isSome || r.contains x):=by
      funext x;rw [GY x,XE]
     rw [e,<- ag.QE] at hrest;rw [XI];refine wC _ ?_;rw [hfs];refine .cons nY ?_;have e2:ag.out ((k:Int) :: ag.from' n (k+1) (fun x=>(eQ kvs (Sum.inl x:Key)).isSome)) r=ag.out (ag.from' n (k+1) (fun x=>(eQ kvs (Sum.inl x:Key)).isSome)) r:=by
      unfold ag.out;rw [List.filter_cons,if_neg (by simp [nY.mem])]
     rw [e2];exact hrest
    ·rcases WS.mp hr' with h|h
     ·exact hb r' h
     ·have:r'=r:=by simpa using h
      subst this;exact ⟨JS,hrb⟩
  ·have JQ:(eQ kvs (Sum.inl (k:Int):Key)).isSome=true:=by simpa using hs
   simp only [JQ,if_true] at hfs;exact jd ⟨_,_,_,rs,kvs,rfl,GV,GW,fun rest hrest=>wC rest (by rw [hfs];exact hrest),hb,by omega,by rw [Nat.succ_mul];omega,k2⟩
 ·rintro δ st2 ⟨v3,v4,v5,rs,kvs,rfl,GV,GW,wC,hb,hrl,nE,k2⟩
  rw [fH] at wC hrl;refine eo ?_;clear hQ;refine ck ?_;intro dg hQ
  set_option simprocs false in simp only [bD,bw GV]
  refine hQ _ _ ⟨rs,rfl,?_,hb,hrl,k2⟩;have:=wC [] (by rw [ag.QC];exact .nil)
  rwa [Xy] at this
theorem UG{rs:List (List Int)}{m:Nat}{d:D}(h:(rs.map fun r=>D.tup (r.map D.int))[m]?=some d):∃r,rs[m]?=some r/\d=.tup (r.map D.int):=by
 rw [Wx] at h;obtain ⟨r,h1,h2⟩:=W2.mp h;exact ⟨r,h1,h2.symm⟩
theorem N1{xs:List Int}{i:Int}{m:Nat}{j:Int}(h0:0<=j)(h1:j<((m+1:Nat):Int)):eW ((ag.row xs i m).map D.int) j=some (.int (ag.bW xs i j.toNat)):=by
 have e:((ag.row xs i m).map D.int)[j.toNat]?=some (.int (ag.bW xs i j.toNat)):=by
  unfold ag.row;rw [WQ,Wx,XB (by omega)];rfl
 have:=zX e
 rwa [WV h0] at this
theorem N3{bs:List Int}{m v x:Int}(h0:0<=m)(h1:m<(bs.length:Int))(x0:0<=x):ag.app (bs.set m.toNat v) x=if x=m then v else ag.app bs x:=by
 have:=ag.Iw (xs:=bs) (m:=m.toNat) (v:=v) (x:=x) (by omega) x0;rw [WV h0] at this;exact this
theorem UH{st:Store}{xs:List Int}{n:Nat}{k:Int}(tn:ag.Tn n xs)(hn:n<=100):Wp (DP [.tup (xs.map D.int),.int k] st) fun d st'=>d=.tup ((ag.cZ xs k).map D.int)/\Ex [] st st':=by
 have hlen:=tn.length;refine iT ?_;show Ws (Gn [some (.tup (xs.map D.int)),some (.int k),none,none,none,none] st) _ _ _ _;unfold Gn;refine aZ (b9 ?_);kspl_open hQ;have e0:(((xs.map D.int).length:Int)).toNat=n:=by rw [Wo];omega
 have ez:(List.replicate n [D.int 0]).flatten=(List.replicate n (0:Int)).map D.int:=by
  clear hlen tn hn e0
  induction n with
  |zero=>rfl
  |succ n ih=>simp [Xg]
 rw [e0,ez];have Ee:st.length<=(st ++ [O.lst [D.int 0]]).length:=by simp
 refine ⟨rfl,by rw [Wo];omega,gZ (by simp;omega),hQ _ _ ?_⟩;clear hQ;have JU:(st ++ [O.lst [D.int 0]] ++ [O.lst ((List.replicate n (0:Int)).map D.int)])[(st ++ [O.lst [D.int 0]]).length]?=some (.lst ((List.replicate n (0:Int)).map D.int)):=gG;have kB:Ex [] st (st ++ [O.lst [D.int 0]] ++ [O.lst ((List.replicate n (0:Int)).map D.int)]):=(Ex.cI _).app _;generalize (st ++ [O.lst [D.int 0]] ++ [O.lst ((List.replicate n (0:Int)).map D.int)])=UI at JU kB ⊢;generalize (st ++ [O.lst [D.int 0]]).length=B at Ee JU ⊢;show Ws _ _ _ _ _;obtain ⟨d,st2,e2,rs,rfl,wC,hrb,hrl,k2⟩:=UD (st:=UI) tn hn;refine aZ (mO (rs.map fun r=>.tup (r.map D.int)) (fun m δ st3=>∃(v3 v4 v5:Option D) (bs:List Int),δ=[some (.tup (xs.map D.int)),some (.int k),some (.ref B),v3,v4,v5]/\st3[B]?=some (.lst (bs.map D.int))/\bs.length=n/\(∀j,j<m->∀r,rs[j]?=some r->∀x∈r,ag.app bs x=ag.pw xs k x)/\Ex [] st st3) ?_ (by rw [Wo];omega) ?_ ?_)
 ·kspl_open hQ
  refine ⟨_,_,e2,?_⟩;exact ⟨_,rfl,hQ _ _ ⟨rfl,none,none,none,_,rfl,k2.keep _ _ JU (by simp),by simp,fun j hj=>absurd hj (Xe _),kB.trans k2⟩⟩
 ·rintro m d δ st3 hm ⟨v3,v4,v5,bs,rfl,JV,uQ,uR,k3⟩
  obtain ⟨r,hr,rfl⟩:=UG hm;obtain ⟨i,hi,nY⟩:=wC.all.1 r (Ww hr);obtain ⟨i0,i1⟩:=ag.lV.mp hi;obtain ⟨M,rfl,nb,bk⟩:=nY.ex;have hM:=tn.kU i0 i1 nb;kspl_open hQ;refine hQ _ _ (mO (fU ((ag.row xs i M).map D.int)) (fun t δ nr=>∃(v4 v5:Option D) (cs:List Int),δ=[some (.tup (xs.map D.int)),some (.int k),some (.ref B),some (.tup ((ag.row xs i M).map D.int)),v4,v5]/\nr[B]?=some (.lst (cs.map D.int))/\cs.length=n/\(∀x:Int,0<=x->x<(n:Int)->ag.app bs x=ag.pw xs k x->ag.app cs x=ag.pw xs k x)/\(∀j,j<t->ag.app cs (ag.bW xs i j)=ag.pw xs k (ag.bW xs i j))/\Ex [] st nr) ?_ ?_ ?_ ?_)
  ·clear hQ
   kspl_open hQ;exact hQ _ _ ⟨rfl,v4,v5,bs,rfl,JV,uQ,fun _ _ _ h=>h,fun j hj=>absurd hj (Xe _),k3⟩
  ·rw [CJ,Wo,ag.tJ];omega
  ·rintro t d δ nr hd ⟨v4,v5,cs,rfl,GZ,hcl,hcs,hct,k4⟩
   obtain ⟨d',hd',rfl⟩:=Je hd;obtain ⟨y,hy,rfl⟩:=Dc hd';have N4:=dz hy;rw [ag.tJ] at N4;have ey:y=ag.bW xs i t:=by
    unfold ag.row at hy;rw [Wx,XB N4] at hy;exact (WD hy).symm
   subst ey;obtain ⟨x0,x1⟩:=tn.bW i0 i1 t;have hL:(0:Int)<((M+1:Nat):Int):=by omega
   have m0:=Xr ((t:Int)+k) (Int.ne_of_gt hL);have m1:=Xv ((t:Int)+k) hL;have eL:((((ag.row xs i M).map D.int).length:Nat):Int)=((M+1:Nat):Int):=by rw [Wo,ag.tJ]
   have hix:mC (cs.map D.int).length (ag.bW xs i t)=some (ag.bW xs i t).toNat:=by
    have:=xw (n:=(cs.map D.int).length) (j:=(ag.bW xs i t).toNat) (by rw [Wo];omega)
    rwa [WV x0] at this
   have es:∀v:Int,(cs.map D.int).set (ag.bW xs i t).toNat (.int v)=(cs.set (ag.bW xs i t).toNat v).map D.int:=fun v=>by rw [XF]
   clear hQ;kspl_open hQ;refine ⟨rfl,hQ _ _ (nW ?_)⟩;clear hQ;refine ck ?_;intro dg hQ
   set_option simprocs false in simp only [bD,eL,N1 m0 m1]
   refine ⟨hL,hQ _ _ ?_⟩;clear hQ;refine ck ?_;intro dg hQ
   set_option simprocs false in simp only [bD,iJ GZ,hix,es]
   have hat:=tn.xJ x0 x1 (tn.xF i0 i1 nb bk t k);refine hQ _ _ ⟨_,_,_,rfl,Wu (dz GZ),by rw [W3];exact hcl,fun x h0 h1 h=>?_,fun j hj=>?_,k4.loc Ee⟩
   ·rw [N3 x0 (by omega) h0]
    split
    ·next e=>rw [e];exact hat
    ·exact hcs x h0 h1 h
   ·obtain ⟨y0,y1⟩:=tn.bW i0 i1 j
    rw [N3 x0 (by omega) y0];split
    ·next e=>rw [e];exact hat
    ·next e =>
     by_cases UJ:j=t
     ·rw [UJ] at e;exact absurd rfl e
     ·exact hct j (by omega)
  ·rintro δ nr ⟨v4,v5,cs,rfl,GZ,hcl,hcs,hct,k4⟩
   rw [CJ,Wo,ag.tJ] at hct;refine ⟨_,_,_,cs,rfl,GZ,hcl,fun j hj r hr2 x hx=>?_,k4⟩
   by_cases UK:j=m
   ·subst UK
    rw [hr] at hr2;cases hr2;obtain ⟨jj,VT,rfl⟩:=ag.Fb.mp hx;exact hct jj (by omega)
   ·obtain ⟨b0,b1⟩:=(hrb r (Ww hr2)).2 x hx
    exact hcs x b0 b1 (uR j (by omega) r hr2 x hx)
 ·rintro δ st3 ⟨v3,v4,v5,bs,rfl,JV,uQ,uR,k3⟩
  rw [Wo] at uR;have e:bs=ag.cZ xs k:=by
   refine ag.qm (n:=n) uQ (by rw [ag.Cd];exact hlen) fun s s0 s1=>?_;rw [ag.pN s0 (by omega)];obtain ⟨r,hr',hx⟩:=wC.all.2 s (ag.lV.mpr ⟨s0,s1⟩);obtain ⟨j,hj,ej⟩:=XC hr';exact uR j hj r (by rw [Wr hj,ej]) s hx
  subst e;refine eo ?_;refine ck ?_;intro dg hQ
  set_option simprocs false in simp only [bD,bw JV]
  exact hQ _ _ ⟨rfl,k3⟩
theorem N5{st:Store}{xs ys:List Int}{n:Nat}{k:Int}(tx:ag.Tn n xs)(ty:ag.Tn n ys)(hn:n<=100):Wp (uO [cv xs ys,.int k] st) fun d st'=>d=cv xs (ag.shr xs ys k)/\Ex [] st st':=by
 refine iT ?_;show Ws (Gp [some (cv xs ys),some (.int k)] st) _ _ _ _;unfold Gp cv;refine eo ?_;have tp:=tx.cZ (-k);kspl_open hQ;refine bj (UH (k:=-k) tx hn) ?_;rintro d st1 ⟨rfl,k1⟩;refine bj (Ef (xs:=ag.cZ xs (-k)) (ys:=ys) (fun x hx=>by rw [ty.length];exact tp.bound hx) (by rw [tp.length];exact hn)) ?_;rintro d st2 ⟨rfl,k2⟩;exact ⟨rfl,hQ _ _ ⟨rfl,k1.trans k2⟩⟩
theorem N6{st:Store}{xs ys:List Int}{n:Nat}(tx:ag.Tn n xs)(ty:ag.Tn n ys)(hn:n<=100):Wp (uP [cv xs ys] st) fun d st'=>d=cv (ag.inv ys) xs/\Ex [] st st':=by
 refine iT ?_;show Ws (Gq [some (cv xs ys)] st) _ _ _ _;unfold Gq cv;refine eo ?_;kspl_open hQ;refine bj (JP ty hn) ?_;rintro d st1 ⟨rfl,k1⟩;exact ⟨rfl,hQ _ _ ⟨rfl,k1⟩⟩
theorem JW{st:Store}{Q:D->Store->Prop}{xs:List Int}{v:Int}(h:v∈xs):Wp (jh (.tup (xs.map D.int)) [.int v] st) Q↔Q (.int (xs.idxOf v:Int)) st:=by
 rw [MT];constructor
 ·rintro ⟨ns,j,h1,h2,q⟩
  rw [Jl] at h1;cases h1;rw [M4 h] at h2;cases h2;exact q
 ·intro q
  exact ⟨xs,_,Jl xs,M4 h,q⟩
theorem JX{st:Store}{xs ys p:List Int}{n:Nat}(tx:ag.Tn n xs)(ty:ag.Tn n ys)(tp:ag.Tn n p)(hn:n<=100):Wp (sZ [cv xs ys,.tup (p.map D.int)] st) fun d st'=>d=cv (ag.anew xs p) (ag.anew ys p)/\Ex [] st st':=by
 have Eg:=tp.length;refine iT ?_;show Ws (F6 [some (cv xs ys),some (.tup (p.map D.int))] st) _ _ _ _;unfold F6 cv;refine eo ?_;kspl_open hQ;refine qC [.tup (xs.map D.int),.tup (ys.map D.int)] (fun d=>match d with|.tup ds=>.tup ((ag.anew (ds.map inD) p).map D.int)|_=>.non) ?_ (by simp) ?_ ?_
 ·kspl_open cF
  exact cF _ _ ⟨qW _ _,Ex.refl⟩
 ·intro d hd st1 k1
  obtain ⟨zs,rfl,tz⟩:∃zs:List Int,d=.tup (zs.map D.int)/\ag.Tn n zs:=by
   rcases WT.mp hd with rfl|hd
   ·exact ⟨xs,rfl,tx⟩
   ·exact ⟨ys,WK.mp hd,ty⟩
  have JN:=tz.length;refine ck ?_;intro g5 cF
  set_option simprocs false in simp only [bD,WM,Xb,W5,W6]
  refine qC (aA 0 n) (fun d=>.int (ag.app p (ag.app zs (p.idxOf (inD d):Int)))) ?_ (by rw [fH];omega) ?_ ?_
  ·kspl_open pY
   rw [Wo,Eg];exact ⟨by omega,pY _ _ ⟨by rw [WC];exact qW _ _,Ex.refl⟩⟩
  ·intro d hd st2 k2
   rw [pS] at hd;obtain ⟨x,hx,rfl⟩:=vX hd;obtain ⟨x0,x1⟩:=ag.lV.mp hx;have hm:=tp.mem x0 x1;have hi:=tp.idx x0 x1;obtain ⟨a0,a1⟩:=tz.app (i:=(p.idxOf x:Int)) (by omega) (by omega);refine ck ?_;intro zx pY
   set_option simprocs false in simp only [bD,WM,Xb,W5,W6,Jj,JW hm,pT (xs:=zs) (i:=(p.idxOf x:Int)) (by omega) (by omega),pT (xs:=p) a0 (by omega)]
   exact pY _ _ ⟨rfl,Ex.refl⟩
  ·intro st' k'
   have e:(aA 0 n).map (fun d=>D.int (ag.app p (ag.app zs (p.idxOf (inD d):Int))))=(ag.anew zs p).map D.int:=by
    rw [pS,Au (f:=fun x=>ag.app p (ag.app zs (p.idxOf x:Int))) fun x hx=>rfl]
    congr 1
    unfold ag.anew ag.bB ag.inv;rw [WQ,WQ,Eg];rfl
   rw [e]
   w_how
   refine cF _ _ ⟨?_,k'.app _⟩;show D.tup _=D.tup ((ag.anew ((zs.map D.int).map inD) p).map D.int);rw [WQ]
   congr 3
   exact (XQ zs).symm
 ·intro st' k'
  w_how
  refine hQ _ _ ⟨?_,k'.app _⟩;have e:∀zs:List Int,(zs.map D.int).map inD=zs:=fun zs=>by rw [WQ];exact XQ zs
  simp only [WM,Xb,e]
theorem N7{xs:List Int}{i:Int}{m:Nat}:eW ((ag.row xs i m).map D.int) (-1)=some (.int (ag.bW xs i m)):=by
 have hl:((ag.row xs i m).map D.int).length=m+1:=by rw [Wo,ag.tJ]
 unfold eW mC;rw [if_neg (by decide),hl,if_pos (by omega),Xu,show ((-1:Int)+((m+1:Nat):Int)).toNat=m by omega];unfold ag.row;rw [WQ,Wx,XB (by omega)];rfl
theorem UL{st:Store}{xs:List Int}{n:Nat}{s k:Int}(tn:ag.Tn n xs)(hn:n<=100)(s0:0<=s)(s1:s<(n:Int)):Wp (Dx [.tup (xs.map D.int),.int s,.int k] st) fun d st'=>d=.int (ag.pw xs k s)/\Ex [] st st':=by
 have hlen:=tn.length;refine iT ?_;show Ws (F0 [some (.tup (xs.map D.int)),some (.int s),some (.int k),none] st) _ _ _ _;unfold F0;refine aZ (rq (N:=fun δ st1=>∃(zs:List Int) (j:Nat),δ=[some (.tup (zs.map D.int)),some (.int s),some (.int (j:Int)),none]/\ag.Tn n zs/\ag.bW zs s j=ag.pw xs k s/\Ex [] st st1) (hJ ?_) ?_)
 ·kspl_open hQ
  refine hQ _ _ ⟨fun h=>?_,fun h=>jd ⟨xs,k.toNat,?_,tn,?_,Ex.refl⟩⟩
  ·have h:=of_decide_eq_true h
   clear hQ;refine aZ (b9 ?_);kspl_open hQ;refine qC (aA 0 n) (fun d=>.int (xs.idxOf (inD d):Int)) ?_ (by rw [fH];omega) ?_ ?_
   ·kspl_open cF
    rw [Wo,hlen];exact ⟨by omega,cF _ _ ⟨by rw [WC];exact qW _ _,Ex.refl⟩⟩
   ·intro d hd qO k7
    rw [pS] at hd;obtain ⟨x,hx,rfl⟩:=vX hd;obtain ⟨x0,x1⟩:=ag.lV.mp hx;refine ck ?_;intro g5 cF
    set_option simprocs false in simp only [bD,WM,Xb,W5,W6,Jj,JW (tn.mem x0 x1)]
    exact cF _ _ ⟨rfl,Ex.refl⟩
   ·intro qO k7
    have e:(aA 0 n).map (fun d=>D.int (xs.idxOf (inD d):Int))=(ag.inv xs).map D.int:=by
     rw [pS,Au (f:=fun x=>(xs.idxOf x:Int)) fun x hx=>rfl];unfold ag.inv;rw [hlen]
    rw [e]
    w_how
    refine hQ _ _ (b9 ?_);clear hQ;kspl_open hQ;refine hQ _ _ ⟨ag.inv xs,(-k).toNat,?_,tn.aG,?_,k7.app _⟩
    ·rw [show (0:Int)-k=(((-k).toNat:Nat):Int) by omega];rfl
    ·unfold ag.pw;rw [if_neg (by omega)]
  ·have h:=of_decide_eq_false h
   rw [WV (by omega)]
  ·have h:=of_decide_eq_false h
   unfold ag.pw;rw [if_pos (by omega)]
 rintro δ st1 ⟨zs,j,rfl,tz,ej,k1⟩;have JN:=tz.length;refine aZ (b9 ?_);kspl_open hQ;refine ⟨rfl,hQ _ _ (aZ (Ar (fun m δ st2=>∃k:Nat,m=n-(k+1)/\δ=[some (.tup (zs.map D.int)),some (.int s),some (.int (j:Int)),some (.ref st1.length)]/\st2[st1.length]?=some (.lst ((ag.row zs s k).map D.int))/\ag.NB zs s k/\Ex [] st1 st2) (n-1) (Xn (show n-1<=100 by omega) (by decide)) ⟨0,rfl,rfl,gG,fun j h1 h2=>by omega,Ex.cI _⟩ ?_))⟩;clear hQ;rintro m δ st2 ⟨k',rfl,rfl,hL,nb,k2⟩;have hrl:=tz.kU s0 s1 nb;obtain ⟨y0,y1⟩:=tz.bW s0 s1 k';refine ck ?_;intro dg hQ
 set_option simprocs false in simp only [bD,bw hL,N7,pT (xs:=zs) y0 (by omega)]
 refine hQ _ _ ⟨fun hb=>?_,fun hb=>?_⟩
 ·have hb:ag.bW zs s (k' + 1)≠s:=by show ag.app zs (ag.bW zs s k')≠s;simpa using hb
  have Ei:ag.NB zs s (k' + 1):=fun j h1 h2=>by
   by_cases hj:j<=k'
   ·exact nb j h1 hj
   ·have:j=k' + 1:=by omega
    rw [this];exact hb
  have hle:=tz.kU s0 s1 Ei;refine mN ?_;refine ck ?_;intro g5 cF
  set_option simprocs false in simp only [bD,bw hL,N7,pT (xs:=zs) y0 (by omega),iJ hL]
  refine ⟨kY (by rw [bw hL];rfl),gZ (by rw [Wo,ag.tJ];omega),cF _ _ ⟨n-(k' + 1+1),by omega,k' + 1,rfl,rfl,?_,Ei,k2.loc (Wv _)⟩⟩;rw [Wu (dz hL),ag.L5,WL];rfl
 ·have hb:ag.bW zs s (k' + 1)=s:=by show ag.app zs (ag.bW zs s k')=s;simpa using hb
  refine eo ?_;have hpos:(0:Int)<((k' + 1:Nat):Int):=by omega
  have eL:((((ag.row zs s k').map D.int).length:Nat):Int)=((k' + 1:Nat):Int):=by rw [Wo,ag.tJ]
  refine ck ?_;intro g5 cF
  set_option simprocs false in simp only [bD,bw hL,eL,N1 (Xr (j:Int) (Int.ne_of_gt hpos)) (Xv (j:Int) hpos)]
  refine ⟨hpos,cF _ _ ⟨?_,k1.trans k2⟩⟩;rw [<- ej,show ((j:Int) % ((k' + 1:Nat):Int)).toNat=j % (k' + 1) by omega,ag.L8 hb]
theorem UM{st:Store}{xs ys:List Int}{n:Nat}{k:Int}(tx:ag.Tn n xs)(ty:ag.Tn n ys)(hn:n<=100):Wp (pD [cv xs ys,.tup [.str "s",.int k]] st) fun d st'=>d=cv xs (ag.shr xs ys k)/\Ex [] st st':=by
 have hlx:=tx.length;have AX:=ty.length;refine iT ?_;show Ws (AA [some (cv xs ys),some (.tup [.str "s",.int k]),none,none,none] st) _ _ _ _;unfold AA cv;refine aZ (nW ?_);kspl_open hQ;refine hQ _ _ ?_;clear hQ;kspl_open hQ;refine ⟨rfl,hQ _ _ (aZ (hJ ?_))⟩;clear hQ;kspl_open hQ;refine hQ _ _ ⟨fun _=>eo ?_,fun h=>absurd h (by simp)⟩;clear hQ;kspl_open hQ;refine qC (aA 0 n) (fun d=>.int (ag.app ys (ag.pw xs (-k) (inD d)))) ?_ (by rw [fH];omega) ?_ ?_
 ·kspl_open cF
  rw [Wo,AX];exact ⟨by omega,cF _ _ ⟨by rw [WC];exact qW _ _,Ex.refl⟩⟩
 ·intro d hd qO k7
  rw [pS] at hd;obtain ⟨x,hx,rfl⟩:=vX hd;obtain ⟨x0,x1⟩:=ag.lV.mp hx;obtain ⟨p0,p1⟩:=tx.pw x0 x1 (-k);refine ck ?_;intro g5 cF
  set_option simprocs false in simp only [bD,WM,Xb,W5,W6]
  refine bj (UL (k:=0-k) tx hn x0 x1) ?_;rintro d oC ⟨rfl,k8⟩;rw [show (0:Int)-k=-k by omega]
  set_option simprocs false in simp only [bD,pT (xs:=ys) p0 (by omega)]
  exact cF _ _ ⟨rfl,k8⟩
 ·intro qO k7
  have e:(aA 0 n).map (fun d=>D.int (ag.app ys (ag.pw xs (-k) (inD d))))=(ag.shr xs ys k).map D.int:=by
   rw [pS,Au (f:=fun x=>ag.app ys (ag.pw xs (-k) x)) fun x hx=>rfl];unfold ag.shr ag.bB ag.cZ;rw [hlx,WQ,WQ,WQ];rfl
  rw [e]
  w_how
  exact ⟨rfl,hQ _ _ ⟨rfl,k7.app _⟩⟩
noncomputable def nL(xs ys:List Int):Nat->List Int×List Int
 |0=>(xs,ys)
 |j+1=>(ag.inv (nL xs ys j).2,(nL xs ys j).1)
theorem Ek{n:Nat}{xs ys:List Int}(tx:ag.Tn n xs)(ty:ag.Tn n ys):∀j,ag.Tn n (nL xs ys j).1/\ag.Tn n (nL xs ys j).2
 |0=>⟨tx,ty⟩
 |j+1=>⟨(Ek tx ty j).2.aG,(Ek tx ty j).1⟩
theorem UN{st:Store}{xs ys:List Int}{n j:Nat}(tx:ag.Tn n xs)(ty:ag.Tn n ys)(hn:n<=100)(hj:j<4):Wp (pD [cv xs ys,.tup [.str "t",.int (j:Int)]] st) fun d st'=>d=cv (nL xs ys j).1 (nL xs ys j).2/\Ex [] st st':=by
 refine iT ?_;show Ws (AA [some (cv xs ys),some (.tup [.str "t",.int (j:Int)]),none,none,none] st) _ _ _ _;unfold AA cv;refine aZ (nW ?_);kspl_open hQ;refine hQ _ _ ?_;clear hQ;kspl_open hQ;refine ⟨rfl,hQ _ _ (aZ (hJ ?_))⟩;clear hQ;kspl_open hQ;refine hQ _ _ ⟨fun h=>absurd h (by decide),fun _=>jd (aZ (mO (aA 0 j) (fun i δ st2=>∃v4:Option D,δ=[some (.tup [.tup (xs.map D.int),.tup (ys.map D.int)]),some (.tup [.str "t",.int (j:Int)]),some (.tup ((nL xs ys i).1.map D.int)),some (.tup ((nL xs ys i).2.map D.int)),v4]/\Ex [] st st2) ?_ (by rw [fH];omega) ?_ ?_))⟩
 ·clear hQ
  kspl_open hQ;rw [show (j:Int) % 4=(j:Int) by omega];exact ⟨by omega,by omega,hQ _ _ ⟨by rw [WC],none,rfl,Ex.refl⟩⟩
 ·rintro i d δ st2 hd ⟨v4,rfl,k2⟩
  obtain ⟨ta,tb⟩:=Ek tx ty i;show Wp _ _;have hlb:=tb.length;generalize hzs:(nL xs ys i).2=zs at tb hlb ⊢;clear hQ;kspl_open hQ;refine hQ _ _ (nW ?_);clear hQ;kspl_open hQ;refine qC (aA 0 n) (fun d=>.int (zs.idxOf (inD d):Int)) ?_ (by rw [fH];omega) ?_ ?_
  ·kspl_open cF
   rw [Wo,hlb];exact ⟨by omega,cF _ _ ⟨by rw [WC];exact qW _ _,Ex.refl⟩⟩
  ·intro d hd qO k7
   rw [pS] at hd;obtain ⟨x,hx,rfl⟩:=vX hd;obtain ⟨x0,x1⟩:=ag.lV.mp hx;refine ck ?_;intro g5 cF
   set_option simprocs false in simp only [bD,WM,Xb,W5,W6,Jj,JW (tb.mem x0 x1)]
   exact cF _ _ ⟨rfl,Ex.refl⟩
  ·intro qO k7
   have e:(aA 0 n).map (fun d=>D.int (zs.idxOf (inD d):Int))=(ag.inv zs).map D.int:=by
    rw [pS,Au (f:=fun x=>(zs.idxOf x:Int)) fun x hx=>rfl];unfold ag.inv;rw [hlb]
   rw [e]
   w_how
   refine ⟨rfl,hQ _ _ ?_⟩;clear hQ;kspl_open hQ;refine ⟨rfl,hQ _ _ ⟨some d,?_,(k2.trans k7).app _⟩⟩;rw [show (nL xs ys (i+1)).1=ag.inv (nL xs ys i).2 from rfl,show (nL xs ys (i+1)).2=(nL xs ys i).1 from rfl,hzs]
 ·rintro δ st2 ⟨v4,rfl,k2⟩
  rw [fH];refine eo ?_;clear hQ;kspl_open hQ;exact ⟨rfl,hQ _ _ ⟨rfl,k2⟩⟩
noncomputable def zz(s:fV):Prop:=s.1=false->1<=s.2/\s.2<=3
noncomputable def iC(p:List Int×List Int)(s:fV):List Int×List Int:=if s.1=true then (p.1,ag.shr p.1 p.2 s.2) else nL p.1 p.2 s.2.toNat
noncomputable def lr(p:List Int×List Int)(w:List fV):List Int×List Int:=w.foldl iC p
theorem UO{n:Nat}{p:List Int×List Int}(h:ag.Tn n p.1/\ag.Tn n p.2)(s:fV):ag.Tn n (iC p s).1/\ag.Tn n (iC p s).2:=by
 unfold iC;split
 ·exact ⟨h.1,h.1.shr h.2 _⟩
 ·exact Ek h.1 h.2 _
theorem JY{n:Nat}:∀{p:List Int×List Int},ag.Tn n p.1/\ag.Tn n p.2->∀w:List fV,ag.Tn n (lr p w).1/\ag.Tn n (lr p w).2
 |_,h,[]=>h
 |_,h,s :: w=>JY (UO h s) w
theorem UP(p:List Int×List Int)(v w:List fV):lr p (v ++ w)=lr (lr p v) w:=by unfold lr;rw [Xp]
theorem N8(p:List Int×List Int)(w:List fV)(s:fV):lr p (w ++ [s])=iC (lr p w) s:=by rw [UP];rfl
noncomputable def aO(p:List Int×List Int):D:=cv p.1 p.2
theorem JZ{st:Store}{p:List Int×List Int}{n:Nat}{s:fV}(h:ag.Tn n p.1/\ag.Tn n p.2)(hn:n<=100)(hs:zz s):Wp (pD [aO p,bN s] st) fun d st'=>d=aO (iC p s)/\Ex [] st st':=by
 obtain ⟨b,k⟩:=s;cases b with
 |true=>exact UM (k:=k) h.1 h.2 hn
 |false =>
  obtain ⟨k1,k3⟩:=hs rfl;obtain ⟨j,rfl⟩:∃j:Nat,k=(j:Int):=⟨k.toNat,by simp only at k1;omega⟩;have:=UN (st:=st) (j:=j) h.1 h.2 hn (by simp only at k3;omega);refine bj this ?_;rintro d st1 ⟨rfl,k1⟩;refine ⟨?_,k1⟩;unfold aO iC;rw [if_neg (show ¬(false=true) from WA),WC]
theorem N9{st:Store}{p:List Int×List Int}{n:Nat}{w:List fV}(h:ag.Tn n p.1/\ag.Tn n p.2)(hn:n<=100)(hw:∀s∈w,zz s)(hl:w.length<=1000):Wp (wu [aO p,.tup (w.map bN)] st) fun d st'=>d=aO (lr p w)/\Ex [] st st':=by
 refine iT ?_;show Ws (F7 [some (aO p),some (.tup (w.map bN)),none] st) _ _ _ _;unfold F7;refine aZ (mO (w.map bN) (fun i δ st2=>∃v2:Option D,δ=[some (aO (lr p (w.take i))),some (.tup (w.map bN)),v2]/\Ex [] st st2) ?_ (by rw [Wo];omega) ?_ ?_)
 ·kspl_open hQ
  exact hQ _ _ ⟨rfl,none,rfl,Ex.refl⟩
 ·rintro i d δ st2 hd ⟨v2,rfl,k2⟩
  rw [Wx] at hd;obtain ⟨s,hs,rfl⟩:=W2.mp hd;obtain ⟨hil,es⟩:=Wq.mp hs;kspl_open hQ;refine hQ _ _ (b9 ?_);clear hQ;kspl_open hQ;refine bj (JZ (JY h _) hn (hw s (Ww hs))) ?_;rintro d st3 ⟨rfl,k3⟩;refine hQ _ _ ⟨some (bN s),?_,k2.trans k3⟩;rw [W8 hil,N8,es];rfl
 ·rintro δ st2 ⟨v2,rfl,k2⟩
  rw [Wo,XE];refine eo ?_;kspl_open hQ;exact hQ _ _ ⟨rfl,k2⟩
theorem UQ{st:Store}{p:List Int×List Int}{n:Nat}{s:fV}(h:ag.Tn n p.1/\ag.Tn n p.2)(hn:n<=100)(hs:zz s):Wp (DS [aO p,bN s] st) fun d st'=>d=aO (iC p s)/\Ex [] st st':=by
 obtain ⟨b,k⟩:=s;refine iT ?_;show Ws (Gr [some (aO p),some (bN (b,k)),none,none] st) _ _ _ _;unfold Gr bN;cases b with
 |true =>
  refine aZ (hJ ?_);kspl_open hQ;refine hQ _ _ ⟨fun _=>eo ?_,fun z=>absurd z (by decide)⟩;clear hQ;kspl_open hQ;refine bj (N5 (k:=k) h.1 h.2 hn) ?_;rintro d st1 ⟨rfl,k1⟩;exact hQ _ _ ⟨rfl,k1⟩
 |false =>
  obtain ⟨k1,k3⟩:=hs rfl;obtain ⟨j,rfl⟩:∃j:Nat,k=(j:Int):=⟨k.toNat,by simp only at k1;omega⟩;refine aZ (hJ ?_);kspl_open hQ;refine hQ _ _ ⟨fun z=>absurd z (by decide),fun _=>jd (aZ (b9 ?_))⟩;clear hQ;kspl_open hQ;refine hQ _ _ (aZ (mO (aA 0 j) (fun i δ st2=>∃v3:Option D,δ=[some (aO p),some (bN (false,(j:Int))),some (cv (nL p.1 p.2 i).1 (nL p.1 p.2 i).2),v3]/\Ex [] st st2) ?_ (by rw [fH];simp only at k3;omega) ?_ ?_))
  ·clear hQ
   kspl_open hQ;exact ⟨by simp only at k3;omega,hQ _ _ ⟨by rw [WC],none,rfl,Ex.refl⟩⟩
  ·rintro i d δ st2 hd ⟨v3,rfl,k2⟩
   obtain ⟨ta,tb⟩:=Ek h.1 h.2 i;clear hQ;kspl_open hQ;refine hQ _ _ (b9 ?_);clear hQ;kspl_open hQ;refine bj (N6 ta tb hn) ?_;rintro d' st3 ⟨rfl,k3⟩;exact hQ _ _ ⟨some d,rfl,k2.trans k3⟩
  ·rintro δ st2 ⟨v3,rfl,k2⟩
   rw [fH];refine eo ?_;clear hQ;kspl_open hQ;refine hQ _ _ ⟨?_,k2⟩;unfold aO iC;rw [if_neg (show ¬(false=true) from WA),WC]
theorem Oa{st:Store}{p:List Int×List Int}{n:Nat}{w:List fV}(h:ag.Tn n p.1/\ag.Tn n p.2)(hn:n<=100)(hw:∀s∈w,zz s)(hl:w.length<=1000):Wp (wx [aO p,.tup (w.map bN)] st) fun d st'=>d=aO (lr p w)/\Ex [] st st':=by
 refine iT ?_;show Ws (Gu [some (aO p),some (.tup (w.map bN)),none,none] st) _ _ _ _;unfold Gu;refine aZ (b9 ?_);kspl_open hQ;refine hQ _ _ (aZ (mO (w.map bN) (fun i δ st2=>∃v2:Option D,δ=[some (aO p),some (.tup (w.map bN)),some (aO (lr p (w.take i))),v2]/\Ex [] st st2) ?_ (by rw [Wo];omega) ?_ ?_))
 ·clear hQ
  kspl_open hQ;exact hQ _ _ ⟨rfl,none,rfl,Ex.refl⟩
 ·rintro i d δ st2 hd ⟨v2,rfl,k2⟩
  rw [Wx] at hd;obtain ⟨s,hs,rfl⟩:=W2.mp hd;obtain ⟨hil,es⟩:=Wq.mp hs;clear hQ;kspl_open hQ;refine hQ _ _ (b9 ?_);clear hQ;kspl_open hQ;refine bj (UQ (JY h _) hn (hw s (Ww hs))) ?_;rintro d st3 ⟨rfl,k3⟩;refine hQ _ _ ⟨some (bN s),?_,k2.trans k3⟩;rw [W8 hil,N8,es];rfl
 ·rintro δ st2 ⟨v2,rfl,k2⟩
  rw [Wo,XE];refine eo ?_;clear hQ;kspl_open hQ;exact hQ _ _ ⟨rfl,k2⟩
noncomputable def El(g:Int)(s:fV):Prop:=(s.1=false->1<=s.2/\s.2<=3)/\(s.2.natAbs:Int)<=g/\s.2≠0
theorem Ob{st:Store}{f:Nat}{most great:Int}(hf:a5 st f)(m0:0<=most)(m1:most<=100)(g0:3<=great)(g1:great<=1000):Wp (wz [.ref f,.int most,.int great] st) fun d st'=>∃w:List fV,d=.tup (w.map bN)/\(∀s∈w,El great s)/\(w.length:Int)<=most/\a5 st' f/\Ex [f] st st':=by
 have hfl:=hf.lt;refine iT ?_;show Ws (Gz [some (.ref f),some (.int most),some (.int great),none,none] st) _ _ _ _;unfold Gz;refine aZ (b9 ?_);kspl_open hQ;refine ⟨rfl,hQ _ _ ?_⟩;clear hQ;show Ws _ _ _ _ _;obtain ⟨d,st1,e1,c,rfl,c0,c1,f1,k1⟩:=mH (st:=st ++ [O.lst []]) (n:=most+1) (hf.keep (Ex.cI _)) (by omega) (by omega);obtain ⟨m,rfl⟩:∃m:Nat,c=(m:Int):=⟨c.toNat,by omega⟩;have hl1:st1[st.length]?=some (.lst []):=k1.keep _ _ gG (by simp;omega);have kx:Ex [f] st st1:=(Ex.cI _).trans k1;refine aZ (mO (aA 0 m) (fun i δ st2=>∃(v4:Option D) (w:List fV),δ=[some (.ref f),some (.int most),some (.int great),some (.ref st.length),v4]/\st2[st.length]?=some (.lst (w.map bN))/\(∀s∈w,El great s)/\w.length<=i/\a5 st2 f/\Ex [f] st st2) ?_ (by rw [fH];omega) ?_ ?_)
 ·kspl_open hQ
  refine ⟨_,_,e1,?_⟩;exact ⟨_,rfl,by omega,hQ _ _ ⟨by rw [WC],none,[],rfl,hl1,(fun s hs=>nomatch hs),Wv _,f1,kx⟩⟩
 ·rintro i d δ st2 hd ⟨v4,w,rfl,hl2,hw,hwl,f2,k2⟩
  have hil:=dz hd;rw [fH] at hil;have put:∀(s:fV) (kM:Store),El great s->a5 kM f->kM[st.length]?=some (.lst (w.map bN))->Ex [f] st kM->∀v4:Option D,∃(UR:Option D) (w':List fV),[some (.ref f),some (.int most),some (.int great),some (.ref st.length),v4]=[some (.ref f),some (.int most),some (.int great),some (.ref st.length),UR]/\(kM.set st.length (.lst (w.map bN ++ [bN s])))[st.length]?=some (.lst (w'.map bN))/\(∀s∈w',El great s)/\w'.length<=i+1/\a5 (kM.set st.length (.lst (w.map bN ++ [bN s]))) f/\Ex [f] st (kM.set st.length (.lst (w.map bN ++ [bN s]))):=fun s kM os f5 h5 k5 v4=>by
   refine ⟨v4,w ++ [s],rfl,?_,fun s' hs'=>?_,by rw [Wt];simp;omega,f5.ne (by omega),k5.loc (Wv _)⟩
   ·rw [Wu (dz h5),WL];rfl
   ·rcases WS.mp hs' with h|h
    ·exact hw s' h
    ·rw [WK.mp h];exact os
  kspl_open hQ;refine hQ _ _ (hJ ?_);clear hQ;kspl_open hQ;refine bj (mH (n:=2) f2 (by decide) (by decide)) ?_;rintro d' st3 ⟨b,rfl,b0,b1,f3,k3⟩;have hl3:=k3.keep _ _ hl2 (by simp;omega)
  w_how
  refine hQ _ _ ⟨fun _=>mN ?_,fun _=>aZ (b9 ?_)⟩
  ·clear hQ
   kspl_open hQ;refine ⟨kY (by rw [bw hl3];rfl),?_⟩;refine bj (mH (n:=3) f3 (by decide) (by decide)) ?_;rintro d' nr ⟨c,rfl,c0,c1,f4,k4⟩;have rD:=k4.keep _ _ hl3 (by simp;omega)
   set_option simprocs false in simp only [bD,iJ rD]
   refine ⟨rfl,gZ (by rw [Wo];omega),hQ _ _ ?_⟩;exact put (false,1+c) nr ⟨fun _=>⟨by show 1<=1+c;omega,by show 1+c<=3;omega⟩,by show ((1+c).natAbs:Int)<=great;omega,by show 1+c≠0;omega⟩ f4 rD ((k2.trans k3).trans k4) _
  ·clear hQ
   kspl_open hQ;refine bj (mH (n:=great) f3 (by omega) (by omega)) ?_;rintro d' nr ⟨c,rfl,c0,c1,f4,k4⟩;have rD:=k4.keep _ _ hl3 (by simp;omega)
   w_how
   refine hQ _ _ (mN ?_);clear hQ;kspl_open hQ;refine ⟨kY (by rw [bw rD];rfl),rfl,?_⟩;refine bj (mH (n:=2) (f4.keep (Ex.cI [O.lst [D.int (1+c),D.int (0-(1+c))]])) (by decide) (by decide)) ?_;rintro d' kM ⟨g,rfl,VU,VW,f5,k5⟩;have US:kM[nr.length]?=some (.lst [D.int (1+c),D.int (0-(1+c))]):=k5.keep _ _ gG (by have:=f4.lt;simp;omega);have Ej:kM[st.length]?=some (.lst (w.map bN)):=k5.keep _ _ (iI rD) (by simp;omega);obtain ⟨sg,hsg,s1,s2⟩:∃sg:Int,eW [D.int (1+c),D.int (0-(1+c))] g=some (.int sg)/\(sg.natAbs:Int)<=great/\sg≠0:=by
    rcases (show g=0\/g=1 by omega) with rfl|rfl
    ·exact ⟨1+c,MX _ _,by omega,by omega⟩
    ·exact ⟨0-(1+c),MY _ _ _,by omega,by omega⟩
   set_option simprocs false in simp only [bD,bw US,hsg,iJ Ej]
   refine ⟨rfl,gZ (by rw [Wo];omega),hQ _ _ ?_⟩;exact put (true,sg) kM ⟨fun z=>Bool.noConfusion (show true=false from z),s1,s2⟩ f5 Ej (((k2.trans k3).trans k4).trans ((Ex.cI _).trans k5)) _
 ·rintro δ st2 ⟨v4,w,rfl,hl2,hw,hwl,f2,k2⟩
  rw [fH] at hwl;refine eo ?_;refine ck ?_;intro dg hQ
  set_option simprocs false in simp only [bD,bw hl2]
  exact hQ _ _ ⟨w,rfl,hw,by omega,f2,k2⟩
theorem UT{st:Store}{a b:fV}:Wp (DX [bN a,bN b] st) fun d st'=>d=.tup ((ag.cX a b).map bN)/\Ex [] st st':=by
 obtain ⟨ab,ak⟩:=a;obtain ⟨bb,bk⟩:=b;refine iT ?_;show Ws (GB [some (.tup [.str (if ab then "s" else "t"),.int ak]),some (.tup [.str (if bb then "s" else "t"),.int bk]),none] st) _ _ _ _;unfold GB;have hj:ag.cX (ab,ak) (bb,bk)=if ag.iX (ab,ak) (bb,bk)=0 then [] else [(ab,ag.iX (ab,ak) (bb,bk))]:=rfl
 refine aZ (b9 ?_);kspl_open hQ;refine hQ _ _ ?_;clear hQ;show Ws _ _ _ _ _;refine aZ (rq (N:=fun δ st1=>st1=st/\δ=[some (.tup [.str (if ab then "s" else "t"),.int ak]),some (.tup [.str (if bb then "s" else "t"),.int bk]),some (.int (ag.iX (ab,ak) (bb,bk)))]) (hJ ?_) ?_)
 ·kspl_open hQ
  refine hQ _ _ ⟨fun h=>b9 ?_,fun h=>jd ⟨rfl,?_⟩⟩
  ·cases ab with
   |true=>exact absurd h (by decide)
   |false =>
    clear hQ;kspl_open hQ;exact ⟨by decide,hQ _ _ ⟨rfl,rfl⟩⟩
  ·cases ab with
   |true=>rfl
   |false=>exact absurd h (by decide)
 ·rintro δ st1 ⟨rfl,rfl⟩
  refine aZ (hJ ?_);kspl_open hQ;refine hQ _ _ ⟨fun h=>eo ?_,fun h=>jd (eo ?_)⟩
  ·have h:=of_decide_eq_true h
   clear hQ;kspl_open hQ;refine ⟨rfl,hQ _ _ ⟨?_,Ex.refl⟩⟩;rw [hj,if_pos h];rfl
  ·have h:=of_decide_eq_false h
   clear hQ;kspl_open hQ;refine ⟨rfl,rfl,hQ _ _ ⟨?_,Ex.refl⟩⟩;rw [hj,if_neg h];rfl
theorem J0{xs:List D}{x:D}:eW (xs ++ [x]) (-1)=some x:=by
 unfold eW mC;rw [Wt,if_neg (by decide),if_pos (by simp;omega)];simp only [Xu];have e:((-1:Int)+((xs.length+[x].length:Nat):Int)).toNat=xs.length:=by simp only [XG];omega
 rw [e];simp
theorem UU{xs:List D}{x:D}:cutD (xs ++ [x]) none (some (-1))=xs:=by
 have e1:HT.c7 (xs ++ [x]).length 0 none=0:=rfl;have e2:HT.c7 (xs ++ [x]).length (xs ++ [x]).length (some (-1))=xs.length:=by
  unfold HT.c7;simp only;rw [if_pos (by decide),Wt,XG];omega
 unfold cutD;rw [e1,e2,List.drop_zero,Nat.sub_zero];simp
theorem UW(a b:Bool):(((if a=true then ("s" : Str) else "t")=(if b=true then ("s" : Str) else "t")))↔a=b:=by
 cases a<;>cases b<;>decide
theorem UX{st:Store}{w:List fV}(hl:w.length<=1000):Wp (DZ [.tup (w.map bN)] st) fun d st'=>d=.tup ((ag.km w).reverse.map bN)/\Ex [] st st':=by
 refine iT ?_;show Ws (GD [some (.tup (w.map bN)),none,none] st) _ _ _ _;unfold GD;refine aZ (b9 ?_);kspl_open hQ;refine ⟨rfl,hQ _ _ ?_⟩;clear hQ;show Ws _ _ _ _ _;refine aZ (mO (w.map bN) (fun i δ st2=>∃v:Option D,δ=[some (.tup (w.map bN)),some (.tup ((ag.km (w.take i)).reverse.map bN)),v]/\Ex [] st st2) ?_ (by rw [Wo];omega) ?_ ?_)
 ·kspl_open hQ
  exact hQ _ _ ⟨rfl,none,rfl,Ex.refl⟩
 ·rintro i d δ st2 hd ⟨v2,rfl,k2⟩
  rw [Wx] at hd;obtain ⟨s,hs,rfl⟩:=W2.mp hd;obtain ⟨hil,es⟩:=Wq.mp hs;have ep:ag.km (w.take (i+1))=ag.cw (ag.km (w.take i)) s:=by rw [W8 hil,ag.IB,es];rfl
  have hpl:(ag.km (w.take i)).length<=1000:=by have:=ag.IC (w.take i);rw [Xj] at this;omega
  rw [ep];clear ep;generalize ag.km (w.take i)=l at hpl ⊢;kspl_open hQ;refine hQ _ _ (hJ ?_);clear hQ;kspl_open hQ;cases l with
  |nil =>
   refine hQ _ _ ⟨fun h=>absurd h (by decide),fun _=>b9 ?_⟩;clear hQ;kspl_open hQ;exact ⟨rfl,rfl,hQ _ _ ⟨some (bN s),rfl,k2⟩⟩
  |cons t r =>
   have eg:(t :: r).reverse.map bN=r.reverse.map bN ++ [bN t]:=by simp
   rw [eg];have el:decide ((0:Int)<((r.reverse.map bN ++ [bN t]).length:Nat))=true:=decide_eq_true (by simp);have es1:bN t=.tup [.str (if t.1 then "s" else "t"),.int t.2]:=rfl;have G0:bN s=.tup [.str (if s.1 then "s" else "t"),.int s.2]:=rfl;have elt:(if t.1=true then ("s" : Str) else "t")=(if s.1=true then ("s" : Str) else "t")↔t.1=s.1:=UW _ _
   set_option simprocs false in simp only [bD,J0,es1,G0]
   rw [if_pos (by simp)];refine hQ _ _ ⟨fun h=>b9 ?_,fun h=>b9 ?_⟩
   ·have h:=elt.mp (of_decide_eq_true h)
    clear hQ;kspl_open hQ;rw [eg,UU]
    set_option simprocs false in simp only [bD,J0]
    refine bj UT ?_;rintro d st3 ⟨rfl,k3⟩
    w_how
    refine ⟨gZ ?_,hQ _ _ ⟨some (bN s),?_,k2.trans k3⟩⟩
    ·have:(ag.cX t s).length<=1:=by unfold ag.cX;split<;>simp
     simp only [Wo,List.length_reverse];simp only [WX] at hpl;omega
    ·have ej:(ag.cX t s).reverse=ag.cX t s:=by unfold ag.cX;split<;>rfl
     rw [ag.tL,if_pos h,List.reverse_append,WL,ej];rfl
   ·have h:=fun e=>of_decide_eq_false h (elt.mpr e)
    clear hQ;kspl_open hQ;refine ⟨rfl,gZ ?_,hQ _ _ ⟨some (bN s),?_,k2⟩⟩
    ·simp only [Wo,List.length_reverse,XG]
     omega
    ·have e2:(s :: t :: r).reverse.map bN=(t :: r).reverse.map bN ++ [bN s]:=by simp
     rw [ag.tL,if_neg h,e2];rfl
 ·rintro δ st2 ⟨v2,rfl,k2⟩
  rw [Wo,XE];refine eo ?_;kspl_open hQ;exact hQ _ _ ⟨rfl,k2⟩
theorem UY{st:Store}{v w:List fV}(hl:v.length+w.length<=1000):Wp (D2 [.tup (v.map bN),.tup (w.map bN)] st) fun d st'=>d=.tup ((ag.km (v ++ w)).reverse.map bN)/\Ex [] st st':=by
 refine iT ?_;show Ws (GF [some (.tup (v.map bN)),some (.tup (w.map bN))] st) _ _ _ _;unfold GF;refine eo ?_;kspl_open hQ;refine ⟨gZ (by simp only [Wo];omega),?_⟩;rw [<- WL];refine bj (UX (by rw [Wt];exact hl)) ?_;rintro d st3 ⟨rfl,k3⟩;exact hQ _ _ ⟨rfl,k3⟩
theorem UZ{st:Store}{xs ys:List Int}{n:Nat}{s:Int}(fl:nI n xs ys)(hn:n<=100)(s0:0<=s)(s1:s<(n:Int)):Wp (DG [cv xs ys,.int s] st) fun d st'=>d=.tup ((ag.inv (ag.bf xs ys s n)).map D.int)/\Ex [] st st':=by
 obtain ⟨tx,ty,all⟩:=fl;refine iT ?_;show Ws (Gf [some (cv xs ys),some (.int s)] st) _ _ _ _;unfold Gf;refine eo ?_;kspl_open hQ;refine bj (UB tx ty hn s0 s1) ?_;rintro d st1 ⟨rfl,k1⟩;refine bj (JP (ag.Ff tx ty s0 s1 all) hn) ?_;rintro d st2 ⟨rfl,k2⟩;exact hQ _ _ ⟨rfl,k1.trans k2⟩
noncomputable def zA(xs ys:List Int)(s:Int)(n:Nat):D:=cv (ag.num xs (ag.bf xs ys s n)) (ag.num ys (ag.bf xs ys s n))
theorem U0{st:Store}{xs ys:List Int}{n:Nat}{s:Int}(fl:nI n xs ys)(hn:n<=100)(s0:0<=s)(s1:s<(n:Int)):Wp (DI [cv xs ys,.int s] st) fun d st'=>d=zA xs ys s n/\Ex [] st st':=by
 have J1:=fl;obtain ⟨tx,ty,all⟩:=fl;have tb:=ag.Ff tx ty s0 s1 all;refine iT ?_;show Ws (Gg [some (cv xs ys),some (.int s)] st) _ _ _ _;unfold Gg;refine eo ?_;kspl_open hQ;refine bj (UZ J1 hn s0 s1) ?_;rintro d st1 ⟨rfl,k1⟩;refine bj (UA tx ty tb.aG hn) ?_;rintro d st2 ⟨rfl,k2⟩;rw [ag.vE tx tb,ag.vE ty tb];exact hQ _ _ ⟨rfl,k1.trans k2⟩
theorem U1{st:Store}{xs ys:List Int}{n:Nat}{s:Int}(fl:nI n xs ys)(hn:n<=100)(s0:0<=s)(s1:s<(n:Int)):Wp (Dv [cv xs ys,.int s] st) fun d st'=>d=zA xs ys s n/\Ex [] st st':=by
 obtain ⟨tx,ty,all⟩:=fl;have hlx:=tx.length;have AX:=ty.length;refine iT ?_;show Ws (FX [some (cv xs ys),some (.int s),none,none,none] st) _ _ _ _;unfold FX;refine aZ (b9 ?_);kspl_open hQ;refine ⟨rfl,hQ _ _ (aZ (FG ((ag.upto n).map D.int) (st.length+2) (fun k δ st2=>∃(v3 v4:Option D),δ=[some (cv xs ys),some (.int s),some (.ref st.length),v3,v4]/\st2[st.length]?=some (.lst ((ag.bf xs ys s k).map D.int))/\st2[st.length+2]?=some (.lst ((ag.upto n).map D.int))/\Ex [] st st2) ?_ ?_ ?_ ?_ ?_))⟩
 ·clear hQ
  unfold cv;kspl_open hQ;rw [Wo,hlx,show ((n:Int)-0).toNat=n by omega,pS];have e:(st ++ [O.lst [D.int s]] ++ [O.gS 0 (n:Int)]).length=st.length+2:=by simp
  rw [e];exact ⟨uH (by omega),hQ _ _ ⟨rfl,none,none,rfl,iI (iI gG),by rw [<- e];exact gG,((Ex.cI _).app _).app _⟩⟩
 ·rw [Wo,ag.o4];omega
 ·rintro k δ st2 ⟨_,_,_,_,h,_⟩
  exact bw h
 ·rintro k d δ st2 hd ⟨v3,v4,rfl,hl,hr,k2⟩
  obtain ⟨x',hx',rfl⟩:=Dc hd;have hkn:=dz hx';rw [ag.o4] at hkn;rw [ag.B7 hkn] at hx';cases hx';have uQ:=ag.Ca tx ty s0 s1 k;have hb1:=ag.Ca tx ty s0 s1 (k+1);clear hQ;kspl_open hQ;refine hQ _ _ ?_;clear hQ
  by_cases nE:k<(ag.bf xs ys s k).length
  ·obtain ⟨x,hx⟩:∃x,(ag.bf xs ys s k)[k]?=some x:=⟨_,Wr nE⟩
   obtain ⟨x0,x1⟩:=ag.qQ tx ty s0 s1 k x (Ww hx);have e1:ag.bf xs ys s (k+1)=ag.visit xs ys (ag.bf xs ys s k) x:=by
    show (match (ag.bf xs ys s k)[k]? with|some x=>ag.visit xs ys (ag.bf xs ys s k) x|none=>ag.bf xs ys s k)=_;rw [hx]
   rw [e1] at hb1 ⊢;have hp1:=(ag.vD (ag.c9 (ag.bf xs ys s k) (ag.app xs x)) (ag.app ys x)).length_le;have hp0:=(ag.vD (ag.bf xs ys s k) (ag.app xs x)).length_le;change _<=(ag.visit xs ys (ag.bf xs ys s k) x).length at hp1;refine mO [.tup (xs.map D.int),.tup (ys.map D.int)] (fun m δ st3=>∃(v4:Option D) (G:List Int),δ=[some (cv xs ys),some (.int s),some (.ref st.length),some (.int (k:Int)),v4]/\st3[st.length]?=some (.lst (G.map D.int))/\st3[st.length+2]?=some (.lst ((ag.upto n).map D.int))/\(m=0->G=ag.bf xs ys s k)/\(m=1->G=ag.c9 (ag.bf xs ys s k) (ag.app xs x))/\(m=2->G=ag.visit xs ys (ag.bf xs ys s k) x)/\Ex [] st st3) ?_ (by simp) ?_ ?_
   ·unfold cv
    kspl_open hQ;exact hQ _ _ ⟨rfl,v4,_,rfl,hl,hr,fun _=>rfl,fun z=>by omega,fun z=>by omega,k2⟩
   ·rintro m z δ st3 hm ⟨v4,G,rfl,hl3,pe,g0,g1,_,k3⟩
    have hm2:m<2:=dz hm;obtain ⟨zs,rfl,tz,em⟩:∃(zs:List Int),z=.tup (zs.map D.int)/\ag.Tn n zs/\((m=0/\zs=xs)\/(m=1/\zs=ys)):=by
     rcases (show m=0\/m=1 by omega) with rfl|rfl
     ·exact ⟨xs,by simpa using hm.symm,tx,.inl ⟨rfl,rfl⟩⟩
     ·exact ⟨ys,by simpa using hm.symm,ty,.inr ⟨rfl,rfl⟩⟩
    have hG:G.length<=100/\G[k]?=some x/\k<G.length:=by
     rcases em with ⟨rfl,_⟩|⟨rfl,_⟩
     ·rw [g0 rfl];exact ⟨by omega,hx,nE⟩
     ·rw [g1 rfl]
      refine ⟨by omega,?_,by omega⟩;obtain ⟨t,e⟩:=ag.vD (ag.bf xs ys s k) (ag.app xs x);rw [<- e,WG nE];exact hx
    have Eh:∀G',G'=ag.c9 G (ag.app zs x)->(m+1=0->G'=ag.bf xs ys s k)/\(m+1=1->G'=ag.c9 (ag.bf xs ys s k) (ag.app xs x))/\(m+1=2->G'=ag.visit xs ys (ag.bf xs ys s k) x):=fun G' e=>by
     rcases em with ⟨rfl,rfl⟩|⟨rfl,rfl⟩
     ·exact ⟨fun z=>by omega,fun _=>by rw [e,g0 rfl],fun z=>by omega⟩
     ·exact ⟨fun z=>by omega,fun z=>by omega,fun _=>by rw [e,g1 rfl];rfl⟩
    have hat:eW (G.map D.int) (k:Int)=some (.int x):=zX (by rw [Wx,hG.2.1];rfl);have hdt:decide ((k:Int)<((G.map D.int).length:Int))=true:=decide_eq_true (by rw [Wo];omega);kspl_open hQ;refine hQ _ _ (hJ ?_);clear hQ;refine ck ?_;intro dg hQ
    set_option simprocs false in simp only [bD,bw hl3,hdt,hat,pT (xs:=zs) x0 (by rw [tz.length];exact x1),FJ (st:=st3) (c:=.ref st.length) (ns:=G) (bw hl3)]
    refine hQ _ _ ⟨fun hc=>mN ?_,fun hc=>jd ?_⟩
    ·obtain ⟨n0,n1,n2⟩:=Eh (G ++ [ag.app zs x]) (NY hc).symm
     refine ck ?_;intro g5 cF
     set_option simprocs false in simp only [bD,bw hl3,hat,pT (xs:=zs) x0 (by rw [tz.length];exact x1),iJ hl3]
     refine ⟨kY (by rw [bw hl3];rfl),gZ (by rw [Wo];omega),cF _ _ ⟨_,G ++ [ag.app zs x],rfl,?_,?_,n0,n1,n2,k3.loc (Wv _)⟩⟩
     ·rw [Wu (dz hl3),WL];rfl
     ·rw [Wz (by omega)];exact pe
    ·obtain ⟨n0,n1,n2⟩:=Eh G (NZ hc).symm
     exact ⟨_,G,rfl,hl3,pe,n0,n1,n2,k3⟩
   ·rintro δ st3 ⟨v4,G,rfl,hl3,pe,_,_,g2,k3⟩
    have g2:=g2 rfl;subst g2;exact ⟨_,_,rfl,hl3,pe,k3⟩
  ·have e1:ag.bf xs ys s (k+1)=ag.bf xs ys s k:=ag.Fe (k:=k) (by omega) 1
   rw [e1];have hdf:decide ((k:Int)<(((ag.bf xs ys s k).map D.int).length:Int))=false:=decide_eq_false (by rw [Wo];omega);refine mO [.tup (xs.map D.int),.tup (ys.map D.int)] (fun m δ st3=>∃(v4:Option D),δ=[some (cv xs ys),some (.int s),some (.ref st.length),some (.int (k:Int)),v4]/\st3=st2) ?_ (by simp) ?_ ?_
   ·unfold cv
    kspl_open hQ;exact hQ _ _ ⟨rfl,v4,rfl,rfl⟩
   ·rintro m z δ st3 hm ⟨v4,rfl,rfl⟩
    kspl_open hQ;refine hQ _ _ (hJ ?_);clear hQ;refine ck ?_;intro dg hQ
    set_option simprocs false in simp only [bD,bw hl,hdf]
    exact hQ _ _ ⟨fun h=>absurd h (by decide),fun _=>jd ⟨_,rfl,rfl⟩⟩
   ·rintro δ st3 ⟨v4,rfl,rfl⟩
    exact ⟨_,_,rfl,hl,hr,k2⟩
 ·rintro δ st2 ⟨v3,v4,rfl,hl,hr,k2⟩
  rw [Wo,ag.o4] at hl;have tb:=ag.Ff tx ty s0 s1 all;have hlb:=tb.length;generalize Em:ag.bf xs ys s n=sq at hl tb hlb ⊢;clear hQ;unfold cv;refine eo ?_;kspl_open hQ;refine qC [.tup (xs.map D.int),.tup (ys.map D.int)] (fun d=>match d with|.tup ds=>.tup ((ag.num (ds.map inD) sq).map D.int)|_=>.non) ?_ (by simp) ?_ ?_
  ·kspl_open cF
   exact cF _ _ ⟨qW _ _,Ex.refl⟩
  ·intro d hd st3 k3
   obtain ⟨zs,rfl,tz⟩:∃zs:List Int,d=.tup (zs.map D.int)/\ag.Tn n zs:=by
    rcases WT.mp hd with rfl|hd
    ·exact ⟨xs,rfl,tx⟩
    ·exact ⟨ys,WK.mp hd,ty⟩
   have hl3:=k3.keep _ _ hl (by simp);refine ck ?_;intro g5 cF
   set_option simprocs false in simp only [bD,WM,Xb,W5,W6]
   refine qC (sq.map D.int) (fun d=>.int (sq.idxOf (ag.app zs (inD d)):Int)) ?_ (by rw [Wo];omega) ?_ ?_
   ·kspl_open pY
    exact ⟨_,bw hl3,pY _ _ ⟨SI (bw hl3),Ex.refl⟩⟩
   ·intro d hd nr k4
    obtain ⟨x,hx,rfl⟩:=vX hd;obtain ⟨x0,x1⟩:=tb.bound hx;obtain ⟨a0,a1⟩:=tz.app x0 x1;have rD:=k4.keep _ _ hl3 (by simp);refine ck ?_;intro zx pY
    set_option simprocs false in simp only [bD,WM,Xb,W5,W6,pT (xs:=zs) x0 (by rw [tz.length];exact x1),Jk (bw rD) (tb.mem a0 a1) (by omega) (fun i hi=>by have:=tb.bound hi;omega)]
    exact ⟨kY (by rw [bw rD];rfl),pY _ _ ⟨rfl,Ex.refl⟩⟩
   ·intro nr k4
    rw [Au (f:=fun x=>(sq.idxOf (ag.app zs x):Int)) fun x hx=>rfl]
    w_how
    refine cF _ _ ⟨?_,k4.app _⟩;show D.tup _=D.tup ((ag.num ((zs.map D.int).map inD) sq).map D.int);rw [M5];rfl
  ·intro st3 k3
   w_how
   refine hQ _ _ ⟨?_,(k2.trans k3).app _⟩;simp only [WM,Xb,M5];unfold zA;rw [Em];rfl
theorem G1{n:Nat}{xs ys:List Int}(fl:nI n xs ys):ag.Wh n (xs,ys):=⟨⟨fl.1,fl.2.1⟩,fl.2.2⟩
theorem zB{n:Nat}{p:ag.aR}(w:ag.Wh n p):nI n p.1 p.2:=⟨w.v.1,w.v.2,w.all⟩
theorem J3{n:Nat}{p q:ag.aR}(w:ag.Wh n p)(n0:0<n)(a:ag.bO n p q):ag.Wh n q:=by
 obtain ⟨g,tg,rfl⟩:=a;have:=ag.qD (zB w) tg n0;exact ⟨⟨this.1,this.2.1⟩,this.2.2⟩
theorem Oc(p:ag.aR)(n:Nat):(aA 0 n).map (fun d=>cv (ag.pO p n (inD d)).1 (ag.pO p n (inD d)).2)=((ag.upto n).map (ag.pO p n)).map fun q=>cv q.1 q.2:=by
 rw [pS,WQ,WQ];rfl
theorem J4{st:Store}{xs ys:List Int}{n:Nat}(fl:nI n xs ys)(n0:0<n)(hn:n<=20):Wp (nD [cv xs ys] st) fun d st'=>d=cv (ag.bC n (xs,ys)).1 (ag.bC n (xs,ys)).2/\Ex [] st st':=by
 have hlx:=fl.1.length;refine iT ?_;show Ws (Gh [some (cv xs ys)] st) _ _ _ _;unfold Gh;refine eo ?_;kspl_open hQ;refine qC (aA 0 n) (fun d=>cv (ag.pO (xs,ys) n (inD d)).1 (ag.pO (xs,ys) n (inD d)).2) ?_ (by rw [fH];omega) ?_ ?_
 ·unfold cv
  kspl_open cF;rw [Wo,hlx];exact ⟨by omega,cF _ _ ⟨by rw [WC];exact qW _ _,Ex.refl⟩⟩
 ·intro d hd st2 k2
  rw [pS] at hd;obtain ⟨x,hx,rfl⟩:=vX hd;obtain ⟨x0,x1⟩:=ag.lV.mp hx;refine ck ?_;intro g5 cF
  set_option simprocs false in simp only [bD,WM,Xb,W5,W6]
  refine bj (U0 fl (by omega) x0 x1) ?_;rintro d st3 ⟨rfl,k3⟩;exact cF _ _ ⟨rfl,k3⟩
 ·intro st' k'
  rw [Oc,Nt (iJ gG) (by rw [Wo,ag.o4];exact n0)];exact hQ _ _ ⟨rfl,k'.app _⟩
theorem J5{st:Store}{xs ys:List Int}{n:Nat}(fl:nI n xs ys)(n0:0<n)(hn:n<=20):Wp (nX [cv xs ys] st) fun d st'=>d=cv (ag.bC n (xs,ys)).1 (ag.bC n (xs,ys)).2/\Ex [] st st':=by
 have hlx:=fl.1.length;refine iT ?_;show Ws (FZ [some (cv xs ys)] st) _ _ _ _;unfold FZ;refine eo ?_;kspl_open hQ;refine qC (aA 0 n) (fun d=>cv (ag.pO (xs,ys) n (inD d)).1 (ag.pO (xs,ys) n (inD d)).2) ?_ (by rw [fH];omega) ?_ ?_
 ·unfold cv
  kspl_open cF;rw [Wo,hlx];exact ⟨by omega,cF _ _ ⟨by rw [WC];exact qW _ _,Ex.refl⟩⟩
 ·intro d hd st2 k2
  rw [pS] at hd;obtain ⟨x,hx,rfl⟩:=vX hd;obtain ⟨x0,x1⟩:=ag.lV.mp hx;refine ck ?_;intro g5 cF
  set_option simprocs false in simp only [bD,WM,Xb,W5,W6]
  refine bj (U1 fl (by omega) x0 x1) ?_;rintro d st3 ⟨rfl,k3⟩;exact cF _ _ ⟨rfl,k3⟩
 ·intro st' k'
  rw [Oc,Nt (iJ gG) (by rw [Wo,ag.o4];exact n0)];exact hQ _ _ ⟨rfl,k'.app _⟩
theorem B5{n:Nat}{f:Int->Int}{x:Int}(x0:0<=x)(x1:x<(n:Int)):ag.app ((ag.upto n).map f) x=f x:=by
 unfold ag.app;rw [WI,Wx,ag.B7 (by omega)];show f ((x.toNat:Nat):Int)=f x;rw [WV x0]
theorem Oe{g:Int}{s:fV}(h:El g s):ag.gX s:=⟨h.1,h.2.2⟩
theorem J7{w:List fV}(h:∀s∈w,ag.gX s):∀s∈w,zz s:=fun s hs=>(h s hs).1
theorem J8:∀(w:List fV) (p:List Int×List Int),lr p w=ag.iF p w:=by
 have hq:∀(p:List Int×List Int) (j:Nat),nL p.1 p.2 j=ag.nB j p:=fun p j=>by
  induction j with
  |zero=>rfl
  |succ j ih=>show (ag.inv (nL p.1 p.2 j).2,(nL p.1 p.2 j).1)=ag.Qt (ag.nB j p);rw [ih];rfl
 have hs:∀(p:List Int×List Int) (s:fV),iC p s=ag.stM p s:=fun p s=>by
  unfold iC ag.stM;rw [hq];rfl
 intro w
 induction w with
 |nil=>intro p;rfl
 |cons s w ih =>
  intro p;show lr (iC p s) w=ag.iF (ag.stM p s) w;rw [hs,ih]
open Classical in
theorem J9{st:Store}{Q:D->Store->Prop}{neg:Bool}{n a b:Nat}{ds es:List D}(ha:items st a=some ds)(hb:items st b=some es)(h1:∀d∈ds,pU n d)(h2:∀d∈es,pU n d)(hn:n<=14):Wp (gD neg (.ref a) (.ref b) st) Q↔Q (.bl (if neg then !decide (ds=es) else decide (ds=es))) st:=by
 have p1:∀(i:Nat) (l:List D),items st i=some l->(∀d∈l,pU n d)->gp st 20 (.ref i)=some (.list (l.map (jM n))):=fun i l h hl=>by
  simp only [gp,h];rw [Dh (g:=jM n) fun x hx=>Av n x (hl x hx) 19 (by omega) st];rfl
 have e:PyData.eqv (.list (ds.map (jM n))) (.list (es.map (jM n)))=decide (ds=es):=by
  rw [Js];have:=JA (Di n) ds es h1 h2;cases h:PyData.eqvAll (ds.map (jM n)) (es.map (jM n)) with
  |true=>exact (decide_eq_true (this.mp h)).symm
  |false=>exact (decide_eq_false fun z=>by rw [this.mpr z] at h;cases h).symm
 have ly:∀l:List D,(∀d∈l,pU n d)->PyData.canLay0 (.list (l.map (jM n)))=true/\PyData.depth (.list (l.map (jM n)))<=n+1:=fun l hl=>by
  refine ⟨?_,?_⟩
  ·show PyData.canLayAll0 (l.map (jM n))=true
   exact Jy fun x hx=>by
    obtain ⟨d,hd,rfl⟩:=WB.mp hx;exact (vZ n d (hl d hd)).1
  ·show PyData.depthAll (l.map (jM n))+1<=n+1
   have:=Jz (n:=n) (l:=l.map (jM n)) fun x hx=>by
    obtain ⟨d,hd,rfl⟩:=WB.mp hx;exact (vZ n d (hl d hd)).2
   omega
 rw [Jm];constructor
 ·rintro ⟨p,q,e1,e2,_,h⟩
  rw [p1 a ds ha h1] at e1;rw [p1 b es hb h2] at e2;cases e1;cases e2;rw [e] at h;exact h
 ·intro h
  refine ⟨_,_,p1 a ds ha h1,p1 b es hb h2,⟨(ly ds h1).1,(ly es h2).1,?_⟩,?_⟩
  ·have:=(ly ds h1).2
   omega
  ·rw [e];exact h
theorem Og{R:List fV}{b:Bool}{k:Int}(pa:ag.gX (b,k))(h:∀(t:fV) (r:List fV),R=t :: r->t.1≠b):ag.cw R (b,k)=(if (if b=true then k else k % 4)=0 then R else (b,if b=true then k else k % 4) :: R):=by
 have e:(if b=true then k else k % 4)=k:=by
  cases b with
  |true=>rfl
  |false =>
   have:=pa.1 rfl;simp only at this;rw [if_neg WA];omega
 rw [e,if_neg pa.2];exact ag.IA fun t ht=>by
  cases R with
  |nil=>cases ht
  |cons x r=>cases ht;exact fun z=>h _ _ rfl z.symm
theorem Ka{st s2:Store}{w0:D}{b:Bool}{k':Int}{R' X:List fV}{N B C:av->Store->Prop}{R:D->Store->Prop}(h2:s2[st.length]?=some (.lst (R'.reverse.map bN)))(k2:Ex [] st s2)(hl:R'.length<=1000)(ep:X=(if (if b=true then k' else k' % 4)=0 then R' else (b,if b=true then k' else k' % 4) :: R'))
  (hN:∀(v3:Option D) (s:Store),s[st.length]?=some (.lst (X.reverse.map bN))->Ex [] st s->N [some w0,some (.ref st.length),some (.str (if b then "s" else "t")),v3] s) :
  Ws (aB (eB (aI (aE (iS false) (ah 2) (fC (.str "t")))) (aL (aE jL (ah 3) (fC (.int 4))) (hName 3)) aW) (eB (aI (aE (iS true) (ah 3) (fC (.int 0)))) (cb (g7 "list" bp (ah 1) (ae (bu (ae (ah 2) (ae (ah 3) ai))) ai))) aW) [some w0,some (.ref st.length),some (.str (if b then "s" else "t")),some (.int k')] s2) N B C R:=by
 have fin:∀kk:Int,kk=(if b=true then k' else k' % 4)->Ws (eB (aI (aE (iS true) (ah 3) (fC (.int 0)))) (cb (g7 "list" bp (ah 1) (ae (bu (ae (ah 2) (ae (ah 3) ai))) ai))) aW [some w0,some (.ref st.length),some (.str (if b then "s" else "t")),some (.int kk)] s2) N B C R:=fun kk hk=>by
  rw [<- hk] at ep;refine hJ ?_;kspl_open hQ
  by_cases z:kk=0
  ·refine hQ _ _ ⟨fun y=>absurd z (by simpa using y),fun _=>jd (hN _ _ ?_ k2)⟩
   rw [ep,if_pos z];exact h2
  ·refine hQ _ _ ⟨fun _=>mN ?_,fun y=>absurd y (by simp [z])⟩
   clear hQ;refine ck ?_;intro dg hQ
   set_option simprocs false in simp only [bD,iJ h2]
   refine ⟨kY (by rw [bw h2];rfl),rfl,gZ (by rw [Wo,List.length_reverse];omega),hQ _ _ (hN _ _ ?_ (k2.loc (Wv _)))⟩;rw [Wu (dz h2),ep,if_neg z,X2,WL];rfl
 refine aZ (hJ ?_);cases b with
 |true =>
  kspl_open hQ;exact hQ _ _ ⟨fun z=>absurd z (by decide),fun _=>jd (fin k' rfl)⟩
 |false =>
  kspl_open hQ;refine hQ _ _ ⟨fun _=>b9 ?_,fun z=>absurd z (by decide)⟩;clear hQ;kspl_open hQ;exact ⟨by decide,hQ _ _ (fin (k' % 4) rfl)⟩
theorem U2{st:Store}{w:List fV}(hw:∀s∈w,ag.gX s)(hl:w.length<=1000):Wp (AE [.tup (w.map bN)] st) fun d st'=>d=.tup ((ag.km w).reverse.map bN)/\Ex [] st st':=by
 refine iT ?_;show Ws (F4 [some (.tup (w.map bN)),none,none,none] st) _ _ _ _;unfold F4;refine aZ (b9 ?_);kspl_open hQ;refine ⟨rfl,hQ _ _ ?_⟩;clear hQ;show Ws _ _ _ _ _;refine aZ (mO (w.map bN) (fun i δ s=>∃v2 v3:Option D,δ=[some (.tup (w.map bN)),some (.ref st.length),v2,v3]/\s[st.length]?=some (.lst ((ag.km (w.take i)).reverse.map bN))/\Ex [] st s) ?_ (by rw [Wo];omega) ?_ ?_)
 ·kspl_open hQ
  exact hQ _ _ ⟨rfl,none,none,rfl,gG,Ex.cI _⟩
 ·rintro i d δ s hd ⟨v2,v3,rfl,hs,kx⟩
  rw [Wx] at hd;obtain ⟨a,ha,rfl⟩:=W2.mp hd;obtain ⟨hi,ea⟩:=Wq.mp ha;have pa:=hw a (Ww ha);have et:ag.km (w.take (i+1))=ag.cw (ag.km (w.take i)) a:=by
   rw [W8 hi,ag.IB,ea];rfl
  have hlen:=ag.IC (w.take i);rw [Xj] at hlen;have pl:ag.Pl (ag.km (w.take i)):=ag.xK fun s hs=>hw s (List.mem_of_mem_take hs);rw [et];generalize ag.km (w.take i)=R at hs hlen pl ⊢;obtain ⟨b,k⟩:=a;have es1:bN (b,k)=.tup [.str (if b then "s" else "t"),.int k]:=rfl;rw [es1];kspl_open hQ;refine ⟨rfl,hQ _ _ (aZ (hJ ?_))⟩;clear hQ;refine ck ?_;intro dg hQ
  set_option simprocs false in simp only [bD,bw hs]
  refine ⟨rfl,?_⟩;have U3:∀d∈R.reverse.map bN,pU 1 d:=fun d hd=>by
   obtain ⟨x,_,rfl⟩:=WB.mp hd;exact wc 0 x
  rw [J9 (n:=1) (ds:=R.reverse.map bN) (es:=[]) (bw (iI hs)) rA U3 (fun d hd=>nomatch hd) (by decide)];have hs1:=iI (m:=[O.lst []]) hs;have G2:Ex [] st (s ++ [O.lst []]):=kx.app _;generalize s ++ [O.lst []]=s1 at hs1 G2 ⊢;have En:∀(t:fV) (r:List fV),R=t :: r->R.reverse.map bN=r.reverse.map bN ++ [bN t]:=fun t r e=>by rw [e,X2,WL];rfl
  cases R with
  |nil =>
   refine ⟨false,by simp,?_⟩;rw [if_neg (by decide)];refine hQ _ _ ⟨fun z=>absurd z (by decide),fun _=>jd ?_⟩;refine Ka (X:=ag.cw [] (b,k)) hs1 G2 (by simp) ?_ fun v3 s h1 h2=>⟨_,_,rfl,h1,h2⟩;exact Og (R:=[]) pa (by simp)
  |cons t r =>
   have e1:=En t r rfl;refine ⟨true,by simp,?_⟩;rw [if_pos rfl,bw hs1,e1];refine ⟨_,rfl,bN t,J0,?_⟩;obtain ⟨bt,kt⟩:=t;have G0:bN (bt,kt)=.tup [.str (if bt then "s" else "t"),.int kt]:=rfl;rw [G0]
   w_how
   have eD:decide ((if bt=true then ("s" : Str) else "t")=if b=true then ("s" : Str) else "t")=decide (bt=b):=by cases bt<;>cases b<;>decide
   rw [eD]
   by_cases hb:bt=b
   ·subst hb
    refine hQ _ _ ⟨fun _=>b9 ?_,fun z=>absurd z (by simp)⟩;clear hQ;rw [e1] at hs1;refine ck ?_;intro dg hQ
    set_option simprocs false in simp only [bD,Nv]
    refine ⟨kY (by rw [bw hs1];rfl),?_⟩;rw [ND (iJ hs1),G0]
    w_how
    refine hQ _ _ ?_;have hs2:(s1.set st.length (.lst (r.reverse.map bN)))[st.length]?=some (.lst (r.reverse.map bN)):=Wu (dz hs1);refine Ka (X:=ag.cw ((bt,kt) :: r) (bt,k)) hs2 (G2.loc (Wv _)) (by rw [WX] at hlen;omega) ?_ fun v3 s h1 h2=>⟨_,_,rfl,h1,h2⟩;rw [ag.tL,if_pos rfl];unfold ag.cX ag.iX;cases bt<;>simp<;>split<;>rfl
   ·refine hQ _ _ ⟨fun z=>absurd (of_decide_eq_true z) hb,fun _=>jd ?_⟩
    refine Ka (X:=ag.cw ((bt,kt) :: r) (b,k)) hs1 G2 (by omega) ?_ fun v3 s h1 h2=>⟨_,_,rfl,h1,h2⟩;exact Og (R:=(bt,kt) :: r) pa (fun t r e=>by cases e;exact hb)
 ·rintro δ s ⟨v2,v3,rfl,hs,kx⟩
  rw [Wo,XE] at hs;refine eo ?_;refine ck ?_;intro dg hQ
  set_option simprocs false in simp only [bD,bw hs]
  exact hQ _ _ ⟨rfl,kx⟩
theorem Kb(p:List Int×List Int)(s:fV):iC p s=ag.stM p s:=by
 have hq:∀j,nL p.1 p.2 j=ag.nB j p:=fun j=>by
  induction j with
  |zero=>rfl
  |succ j ih=>show _=_;unfold nL ag.nB;rw [ih];rfl
 unfold iC ag.stM;split
 ·rfl
 ·exact hq _
theorem zC{p q:ag.aR}(h:aO p=aO q):p=q:=by
 have h:D.tup [.tup (p.1.map D.int),.tup (p.2.map D.int)]=D.tup [.tup (q.1.map D.int),.tup (q.2.map D.int)]:=h;injection h with h;injection h with h1 h2;injection h2 with h2 _;have inj:∀{x y:List Int},D.tup (x.map D.int)=D.tup (y.map D.int)->x=y:=fun {x y} e=>by
  injection e with e;have:=congrArg (List.map inD) e;rw [WQ,WQ] at this;exact (XQ x).symm.trans (this.trans (XQ y))
 exact Prod.ext (inj h1) (inj h2)
theorem md{α:Type}{fs:List α}{g:α->D}{k:Nat}{p:α}(h:fs[k]?=some p):eW (fs.map g) (k:Int)=some (g p):=by
 have hk:k<fs.length:=(Wq.mp h).1;unfold eW;rw [xw (by rw [Wo];exact hk)];show (fs.map g)[k]?=_;rw [Wx,h];rfl
theorem Oh{fs:List ag.aR}{F:ag.aR}{j:Nat}(nd:fs.Nodup)(hj:fs[j]?=some F):∀i e,i<j->(fs.map aO)[i]?=some e->e≠aO F:=fun i e hij he z=>by
 rw [Wx] at he;obtain ⟨q,hq,rfl⟩:=W2.mp he;have:=zC z;subst this;obtain ⟨g1,g2⟩:=Wq.mp hq;obtain ⟨g3,g4⟩:=Wq.mp hj;exact Xm.mp nd i j g1 g3 hij (by rw [g2,g4])
theorem d3{α:Type}{l:List α}{k:Nat}{d:α}(h:k<l.length):l[k]?=some (l.getD k d):=by rw [WI,Wr h];rfl
noncomputable def wD(w:List fV):D:=.tup (w.map bN)
theorem Oi{s:Store}{a b c r n k:Nat}{p:ag.aR}{fs:List ag.aR}{ws:List (List fV)}{rs:List Nat}{L:List Int}{s1:fV}{v0 v1 v7:Option D}{N B C:av->Store->Prop}{R:D->Store->Prop}
  (n0:0<n) (hn:n<=20) (hs:s1=(true,1)\/s1=(false,1)) (ab:a≠b) (ac:a≠c) (bc:b≠c) (ar:a≠r) (br:b≠r) (cr:c≠r)
  (ha:s[a]?=some (.lst (fs.map aO))) (hb:s[b]?=some (.lst (ws.map wD))) (hc:s[c]?=some (.lst (rs.map D.ref))) (hr:s[r]?=some (.lst (L.map D.int))) (hrk:rs[k]?=some r)
  (g:ag.GR n p fs ws) (vp:ag.Vf n p) (hk:k<fs.length) (few:fs.length<=100) (hL:L.length<=5)
  (hN:∀(v:Option D) (s':Store),s'[a]?=some (.lst ((ag.bz n fs ws k s1).1.map aO))->s'[b]?=some (.lst ((ag.bz n fs ws k s1).2.1.map wD))->s'[c]?=some (.lst (rs.map D.ref))->s'[r]?=some (.lst ((L ++ [((ag.bz n fs ws k s1).2.2:Int)]).map D.int))->Ex [a,b,r] s s'->N [v0,v1,some (.ref a),some (.ref b),some (.ref c),some (.int (k:Int)),some (bN s1),v] s') :
  Ws ((aB (aL (aM nX (ae (aM pD (ae (aE bM (ah 2) (ah 5)) (ae (ah 6) ai))) ai)) (hName 7))
 (aB (eB (aI (aE (nJ true) (ah 7) (ah 2))) (aB (cb (g7 "list" bp (ah 2) (ae (ah 7) ai)))
 (cb (g7 "list" bp (ah 3) (ae (aM AE (ae (aE jT (aE bM (ah 3) (ah 5)) (bu (ae (ah 6) ai))) ai)) ai)))) aW)
 (cb (g7 "list" bp (aE bM (ah 4) (ah 5)) (ae (g7 "list" fz (ah 2) (ae (ah 7) ai)) ai))))) [v0,v1,some (.ref a),some (.ref b),some (.ref c),some (.int (k:Int)),some (bN s1),v7] s) N B C R:=by
 have ek:=d3 (d:=(([],[]):ag.aR)) hk;have hkw:k<ws.length:=by rw [g.wl];exact hk
 have ew:=d3 (d:=([]:List fV)) hkw;have ps:ag.gX s1:=by rcases hs with rfl|rfl<;>exact ⟨fun _=>by decide,by decide⟩
 have gN:=ag.tT n0 g vp hk hs;have lN:(ag.bz n fs ws k s1).1.length<=101:=by have:=gN.2.2.2.1;omega
 generalize hq:fs.getD k ([],[])=q at ek;generalize hw:ws.getD k []=w at ew;obtain ⟨wq,oq⟩:=g.own q (Ww ek);obtain ⟨pw,lw,nw,-⟩:=g.wd k w ew;have hat:eW (fs.map aO) (k:Int)=some (aO q):=md ek;have Kc:eW (rs.map D.ref) (k:Int)=some (.ref r):=md hrk;refine aZ (b9 ?_);refine ck ?_;intro dg hQ
 set_option simprocs false in simp only [bD,bw ha,hat]
 refine bj (JZ (p:=q) (s:=s1) ⟨wq.v.1,wq.v.2⟩ (by omega) ps.1) ?_;rintro d t1 ⟨rfl,k1⟩;rw [Kb];have zc:=wq.st n0 s1;have eS:aO (ag.stM q s1)=cv (ag.stM q s1).1 (ag.stM q s1).2:=rfl;rw [eS];refine bj (J5 (zB zc) n0 hn) ?_;rintro d t2 ⟨rfl,k2⟩;have eF:cv (ag.bC n ((ag.stM q s1).1,(ag.stM q s1).2)).1 (ag.bC n ((ag.stM q s1).1,(ag.stM q s1).2)).2=aO (ag.bC n (ag.stM q s1)):=rfl;rw [eF];have tj:=k1.trans k2;have ha2:=tj.keep _ _ ha (by simp);have hb2:=tj.keep _ _ hb (by simp);have hc2:=tj.keep _ _ hc (by simp);have hr2:=tj.keep _ _ hr (by simp);have pf:∀q:ag.aR,pU 2 (aO q):=fun q=>Dj 0 _ _;have rest:∀ {s3:Store},s3[a]?=some (.lst ((ag.bz n fs ws k s1).1.map aO))->s3[b]?=some (.lst ((ag.bz n fs ws k s1).2.1.map wD))->s3[c]?=some (.lst (rs.map D.ref))->s3[r]?=some (.lst (L.map D.int))->Ex [a,b,r] s s3->(ag.bz n fs ws k s1).1[(ag.bz n fs ws k s1).2.2]?=some (ag.bC n (ag.stM q s1)) ->
   Ws ((cb (g7 "list" bp (aE bM (ah 4) (ah 5)) (ae (g7 "list" fz (ah 2) (ae (ah 7) ai)) ai))) [v0,v1,some (.ref a),some (.ref b),some (.ref c),some (.int (k:Int)),some (bN s1),some (aO (ag.bC n (ag.stM q s1)))] s3) N B C R:=by
  intro s3 oS nt hc3 pe k3 hj;refine mN ?_;refine ck ?_;intro g5 cF
  set_option simprocs false in simp only [bD,bw hc3,Kc]
  refine ⟨kY (by rw [bw pe];rfl),kY (by rw [bw oS];rfl),?_⟩;rw [Ny (n:=2) (j:=(ag.bz n fs ws k s1).2.2) (pf _) (bw oS) (fun e he=>by obtain ⟨q,_,rfl⟩:=WB.mp he;exact pf q) (by decide) (by rw [Wo];omega) (by rw [Wx,hj];rfl) (Oh gN.1.nd hj)]
  set_option simprocs false in simp only [bD,iJ pe]
  refine ⟨gZ (by rw [Wo];omega),cF _ _ (hN _ _ ?_ ?_ ?_ ?_ ?_)⟩
  ·rw [Wz (Ne.symm ar)];exact oS
  ·rw [Wz (Ne.symm br)];exact nt
  ·rw [Wz (Ne.symm cr)];exact hc3
  ·rw [Wu (dz pe),WL];rfl
  ·exact k3.put (by simp)
 have hj:(ag.bz n fs ws k s1).1[(ag.bz n fs ws k s1).2.2]?=some (ag.bC n (ag.stM q s1)):=by
  obtain ⟨q',h1,h2⟩:=gN.2.2.2.2;rw [ek] at h1;cases h1;exact h2
 refine hQ _ _ (aZ (hJ ?_));clear hQ;kspl_open hQ;have Em:dv t2 (.ref a)=some (fs.map aO):=bw ha2;rw [FO (n:=2) (es:=fs.map aO) (pf _) Em (fun e he=>by obtain ⟨q,_,rfl⟩:=WB.mp he;exact pf q) (by decide)]
 by_cases hm:ag.bC n (ag.stM q s1)∈fs
 ·have hm':aO (ag.bC n (ag.stM q s1))∈fs.map aO:=WB.mpr ⟨_,hm,rfl⟩
  have eR:ag.bz n fs ws k s1=(fs,ws,fs.idxOf (ag.bC n (ag.stM q s1))):=by unfold ag.bz;rw [hq,if_pos hm]
  refine ⟨false,by simp [hm'],hQ _ _ ⟨fun z=>(nomatch z),fun _=>jd (rest ?_ ?_ hc2 hr2 tj.any hj)⟩⟩
  ·rw [eR];exact ha2
  ·rw [eR];exact hb2
 ·have hm':aO (ag.bC n (ag.stM q s1)) ∉ fs.map aO:=fun z=>by
   obtain ⟨q',h1,h2⟩:=WB.mp z;exact hm (zC h2 ▸ h1)
  have eR:ag.bz n fs ws k s1=(fs ++ [ag.bC n (ag.stM q s1)],ws ++ [(ag.km (w ++ [s1])).reverse],fs.length):=by unfold ag.bz;rw [hq,hw,if_neg hm]
  refine ⟨true,by simp [hm'],hQ _ _ ⟨fun _=>?_,fun z=>(nomatch z)⟩⟩;clear hQ;refine aZ (mN ?_);refine ck ?_;intro dg hQ
  set_option simprocs false in simp only [bD,iJ ha2]
  refine ⟨kY (by rw [bw ha2];rfl),gZ (by rw [Wo];omega),hQ _ _ (mN ?_)⟩;clear hQ;have em:fs.map aO ++ [aO (ag.bC n (ag.stM q s1))]=(ag.bz n fs ws k s1).1.map aO:=by rw [eR,WL];rfl
  rw [em];have oS:(t2.set a (.lst ((ag.bz n fs ws k s1).1.map aO)))[a]?=some (.lst ((ag.bz n fs ws k s1).1.map aO)):=Wu (dz ha2);have nt:(t2.set a (.lst ((ag.bz n fs ws k s1).1.map aO)))[b]?=some (.lst (ws.map wD)):=by rw [Wz ab];exact hb2
  have hc3:(t2.set a (.lst ((ag.bz n fs ws k s1).1.map aO)))[c]?=some (.lst (rs.map D.ref)):=by rw [Wz ac];exact hc2
  have pe:(t2.set a (.lst ((ag.bz n fs ws k s1).1.map aO)))[r]?=some (.lst (L.map D.int)):=by rw [Wz ar];exact hr2
  have k3:Ex [a,b,r] s (t2.set a (.lst ((ag.bz n fs ws k s1).1.map aO))):=(tj.any).put (by simp);generalize t2.set a (.lst ((ag.bz n fs ws k s1).1.map aO))=s3 at oS nt hc3 pe k3 ⊢;have zD:eW (ws.map wD) (k:Int)=some (wD w):=md ew;refine ck ?_;intro dg hQ
  set_option simprocs false in simp only [bD,bw nt,zD]
  refine ⟨kY (by rw [bw nt];rfl),rfl,?_⟩;have e1:w.map bN ++ [bN s1]=(w ++ [s1]).map bN:=by rw [WL];rfl
  unfold wD
  w_how
  rw [e1];refine ⟨gZ (by rw [Wo];show _+1<=_;omega),?_⟩;have cZ:∀x∈w ++ [s1],ag.gX x:=fun x hx=>by
   rcases WS.mp hx with h|h
   ·exact ag.Pl.pr pw x (Xt.mpr h)
   ·rw [WK.mp h];exact ps
  refine bj (U2 (w:=w ++ [s1]) cZ (by rw [Wt];show _+1<=_;omega)) ?_;rintro d s4 ⟨rfl,k4⟩;have Eo:=k4.keep _ _ oS (by simp);have rE:=k4.keep _ _ nt (by simp);have hc4:=k4.keep _ _ hc3 (by simp);have U4:=k4.keep _ _ pe (by simp)
  set_option simprocs false in simp only [bD,iJ rE]
  refine ⟨gZ (by rw [Wo,g.wl];omega),hQ _ _ (rest ?_ ?_ ?_ ?_ ((k3.trans k4.any).put (by simp)) hj)⟩
  ·rw [Wz (Ne.symm ab)];exact Eo
  ·rw [Wu (dz rE),eR,WL];rfl
  ·rw [Wz bc];exact hc4
  ·rw [Wz br];exact U4
noncomputable def Ep(p:ag.aR)(w:List fV)(l:Nat×Nat):D:=.tup [aO p,wD w,.int (l.1:Int),.int (l.2:Int)]
noncomputable def tR(c:ag.CS)(N:Nat):D:=.tup ((List.range N).map fun k=>Ep (c.1.getD k ([],[])) (c.2.1.getD k []) (c.2.2.getD k (0,0)))
structure uS(st s:Store)(ia ib ic:Nat)(fs:List ag.aR)(ws:List (List fV))(ls:List (Nat×Nat))(rs:List Nat):Prop where
 a:s[ia]?=some (.lst (fs.map aO))
 b:s[ib]?=some (.lst (ws.map wD))
 c:s[ic]?=some (.lst (rs.map D.ref))
 l:ls.length<=rs.length
 r:∀(k r:Nat) (l:Nat×Nat),rs[k]?=some r->ls[k]?=some l->s[r]?=some (.lst [.int (l.1:Int),.int (l.2:Int)])
 h:∀r∈rs,ic<r/\r<s.length
 e:Ex [] st s
theorem Er{x y:D}:eW [x,y] 0=some x:=rfl
theorem Es{x y:D}:eW [x,y] 1=some y:=rfl
theorem Oj{st:Store}{p:ag.aR}{n most:Nat}(w0:ag.Wh n p)(n0:0<n)(hn:n<=20)(m1:1<=most)(U5:most<=60):Wp (zj [aO p,.int (most:Int)] st) fun d st'=>Ex [] st st'/\((∃N,N<=most/\ag.Full n p (ag.ch n p N) N/\(∀j,j<N->j<(ag.ch n p j).1.length)/\d=tR (ag.ch n p N) N)\/(d=.non/\∃i,(∀j,j<i->j<(ag.ch n p j).1.length)/\most<(ag.ch n p i).1.length)):=by
 refine iT ?_;show Ws (F5 [some (aO p),some (.int (most:Int)),none,none,none,none,none,none] st) _ _ _ _;unfold F5;refine aZ (b9 ?_);kspl_open hQ;refine bj (J5 (zB w0) n0 hn) ?_;rintro d s1 ⟨rfl,k1⟩;refine ⟨rfl,hQ _ _ (aZ (b9 ?_))⟩;clear hQ;kspl_open hQ;refine ⟨rfl,rfl,hQ _ _ (aZ (b9 ?_))⟩;clear hQ;kspl_open hQ;refine ⟨rfl,hQ _ _ ?_⟩;clear hQ;have eF:cv (ag.bC n (p.1,p.2)).1 (ag.bC n (p.1,p.2)).2=aO (ag.bC n p):=rfl;rw [eF];obtain ⟨a,b,c,s2,ea,eb,ec,es,ab,bc,la,I0⟩:∃(a b c:Nat) (s2:Store),s1.length=a/\(s1 ++ [O.lst [aO (ag.bC n p)]]).length=b/\(s1 ++ [O.lst [aO (ag.bC n p)]] ++ [O.lst [D.tup []]]).length=c/\s1 ++ [O.lst [aO (ag.bC n p)]] ++ [O.lst [D.tup []]] ++ [O.lst []]=s2/\a<b/\b<c/\st.length<=a/\uS st s2 a b c (ag.ch n p 0).1 (ag.ch n p 0).2.1 (ag.ch n p 0).2.2 [] :=
  ⟨_,_,_,_,rfl,rfl,rfl,rfl,by simp,by simp,k1.len,iI (iI gG),iI gG,gG,Wv _,(fun k r l h=>nomatch h),(fun r h=>nomatch h),((k1.app _).app _).app _⟩
 rw [ea,eb,ec,es];refine aZ (mO (aA 0 most) (fun i δ s=>∃(v5 v6 v7:Option D) (j:Nat) (rs:List Nat),δ=[some (aO p),some (.int (most:Int)),some (.ref a),some (.ref b),some (.ref c),v5,v6,v7]/\j<=i/\(∀j',j' < j->j' < (ag.ch n p j').1.length)/\(ag.ch n p j).1.length<=most/\(j=i\/(ag.ch n p j).1.length=j)/\rs.length=j/\uS st s a b c (ag.ch n p j).1 (ag.ch n p j).2.1 (ag.ch n p j).2.2 rs) ?_ (by rw [fH];omega) ?_ ?_)
 ·kspl_open hQ
  refine ⟨by omega,hQ _ _ ⟨by rw [WC],none,none,none,0,[],rfl,Wv _,(fun j' h=>nomatch h),(show 1<=most from m1),.inl rfl,rfl,I0⟩⟩
 ·rintro i d δ s hd ⟨v5,v6,v7,j,rs,rfl,hj,pr,few,jo,hrs,I⟩
  have hi:i<most:=by have:=dz hd;rw [fH] at this;exact this
  rw [yg hi,XX] at hd;cases hd;have g:=ag.wg n0 w0 j pr;kspl_open hQ;refine hQ _ _ (hJ ?_);clear hQ;refine ck ?_;intro dg hQ
  set_option simprocs false in simp only [bD,bw I.a]
  rw [Wo];refine hQ _ _ ⟨fun z=>?_,fun z=>jd ?_⟩
  ·have z:i<(ag.ch n p j).1.length:=by have:=of_decide_eq_true z;omega
   have ej:j=i:=by rcases jo with h|h<;>omega
   subst ej;clear hQ;have nC:=g.ll;have U6:=g.le;refine aZ (mN ?_);kspl_open hQ;have Ic:=iI (m:=[O.lst []]) I.c;refine ⟨kY (by rw [bw I.c];rfl),rfl,_,iJ Ic,gZ (by rw [Wo];omega),hQ _ _ ?_⟩;clear hQ;have er:rs.map D.ref ++ [D.ref s.length]=(rs ++ [s.length]).map D.ref:=by rw [WL];rfl
   rw [er];have lc:=dz I.c;have I1:uS st ((s ++ [O.lst []]).set c (.lst ((rs ++ [s.length]).map D.ref))) a b c (ag.ch n p j).1 (ag.ch n p j).2.1 (ag.ch n p j).2.2 (rs ++ [s.length]):=by
    refine ⟨?_,?_,Wu (dz Ic),by rw [Wt];have:=I.l;omega,fun k r l h1 h2=>?_,fun r hr=>?_,?_⟩
    ·rw [Wz (by omega)];exact iI I.a
    ·rw [Wz (by omega)];exact iI I.b
    ·have hk:k<rs.length:=by have:=(Wq.mp h2).1;omega
     rw [WG hk] at h1;have hc:=I.h r (Ww h1);rw [Wz (by omega)];exact iI (I.r k r l h1 h2)
    ·rw [W3,Wt]
     rcases WS.mp hr with h|h
     ·have:=I.h r h;exact ⟨this.1,Nat.lt_succ_of_lt this.2⟩
     ·rw [WK.mp h];exact ⟨lc,Xs _⟩
    ·exact (I.e.app _).loc (by omega)
   have hr1:((s ++ [O.lst []]).set c (.lst ((rs ++ [s.length]).map D.ref)))[s.length]?=some (.lst (([]:List Int).map D.int)):=by
    rw [Wz (by omega)];exact gG
   have hrk:(rs ++ [s.length])[j]?=some s.length:=by rw [WN (by omega),hrs,XA];rfl
   have old:∀r∈rs,r≠s.length:=fun r h=>by have:=I.h r h;omega
   have U7:c<s.length:=lc;generalize (s ++ [O.lst []]).set c (.lst ((rs ++ [s.length]).map D.ref))=s3 at I1 hr1;generalize s.length=r at I1 hr1 hrk old U7;have r1:=ag.tT (s:=(true,1)) n0 g.r w0.v (k:=j) z (.inl rfl);have r2:=ag.tT (s:=(false,1)) n0 r1.1 w0.v (k:=j) (by have:=r1.2.2.1;omega) (.inr rfl);have eS:ag.lh n (ag.ch n p j)=ag.bz n (ag.ch n p j).1 (ag.ch n p j).2.1 j (true,1):=by unfold ag.lh;rw [nC]
   have eT:ag.jY n (ag.ch n p j)=ag.bz n (ag.bz n (ag.ch n p j).1 (ag.ch n p j).2.1 j (true,1)).1 (ag.bz n (ag.ch n p j).1 (ag.ch n p j).2.1 j (true,1)).2.1 j (false,1):=by unfold ag.jY;rw [eS,nC]
   have mk:∀{fs fs':List ag.aR} {ws As:List (List fV)} {s s':Store},uS st s a b c fs ws (ag.ch n p j).2.2 (rs ++ [r])->s'[a]?=some (.lst (fs'.map aO))->s'[b]?=some (.lst (As.map wD))->s'[c]?=some (.lst ((rs ++ [r]).map D.ref))->Ex [a,b,r] s s'->uS st s' a b c fs' As (ag.ch n p j).2.2 (rs ++ [r]):=by
    intro fs fs' ws As s s' J h1 h2 h3 k;refine ⟨h1,h2,h3,J.l,fun i r' l e1 e2=>?_,fun r' hr=>?_,⟨WZ J.e.len k.len,fun i o e n=>k.keep i o (J.e.keep i o e n) (by have:=dz e;simp;omega)⟩⟩
    ·have hk:i<rs.length:=by have:=(Wq.mp e2).1;omega
     have Ac:=e1;rw [WG hk] at Ac;have hm:=Ww Ac;have hc:=J.h r' (Ww e1);have:=old r' hm;exact k.keep _ _ (J.r i r' l e1 e2) (by simp;omega)
    ·have hc:=J.h r' hr
     exact ⟨hc.1,W0 hc.2 k.len⟩
   refine aZ (mO [bN (true,1),bN (false,1)] (fun m δ s=>∃(v6 v7:Option D),δ=[some (aO p),some (.int (most:Int)),some (.ref a),some (.ref b),some (.ref c),some (.int (j:Int)),v6,v7]/\((m=0/\uS st s a b c (ag.ch n p j).1 (ag.ch n p j).2.1 (ag.ch n p j).2.2 (rs ++ [r])/\s[r]?=some (.lst (([]:List Int).map D.int)))\/(m=1/\uS st s a b c (ag.lh n (ag.ch n p j)).1 (ag.lh n (ag.ch n p j)).2.1 (ag.ch n p j).2.2 (rs ++ [r])/\s[r]?=some (.lst (([((ag.lh n (ag.ch n p j)).2.2:Int)]:List Int).map D.int)))\/(m=2/\uS st s a b c (ag.jY n (ag.ch n p j)).1 (ag.jY n (ag.ch n p j)).2.1 (ag.ch n p j).2.2 (rs ++ [r])/\s[r]?=some (.lst (([((ag.lh n (ag.ch n p j)).2.2:Int),((ag.jY n (ag.ch n p j)).2.2:Int)]:List Int).map D.int))))) ?_ (by decide) ?_ ?_)
   ·kspl_open hQ
    exact ⟨rfl,rfl,rfl,hQ _ _ ⟨rfl,v6,v7,rfl,.inl ⟨rfl,I1,hr1⟩⟩⟩
   ·rintro m d δ s5 hd ⟨v6,v7,rfl,hm⟩
    kspl_open hQ;refine hQ _ _ ?_;clear hQ;rcases hm with ⟨rfl,J,hr⟩|⟨rfl,J,hr⟩|⟨rfl,J,hr⟩
    ·cases (show some (bN (true,1))=some d from hd)
     refine Oi (s1:=(true,1)) n0 hn (.inl rfl) (by omega) (by omega) (by omega) (by omega) (by omega) (by omega) J.a J.b J.c hr hrk g.r w0.v z (by omega) (by simp) fun v s' h1 h2 h3 h4 h5=>?_;refine ⟨_,v,rfl,.inr (.inl ⟨rfl,?_,?_⟩)⟩
     ·rw [eS];exact mk J h1 h2 h3 h5
     ·rw [eS];exact h4
    ·cases (show some (bN (false,1))=some d from hd)
     rw [eS] at J hr;refine Oi (s1:=(false,1)) n0 hn (.inr rfl) (by omega) (by omega) (by omega) (by omega) (by omega) (by omega) J.a J.b J.c hr hrk r1.1 w0.v (by have:=r1.2.2.1;omega) (by have:=r1.2.2.2.1;omega) (by simp) fun v s' h1 h2 h3 h4 h5=>?_;refine ⟨_,v,rfl,.inr (.inr ⟨rfl,?_,?_⟩)⟩
     ·rw [eT];exact mk J h1 h2 h3 h5
     ·rw [eT,eS];exact h4
    ·cases (show none=some d from hd)
   ·rintro δ s5 ⟨v6,v7,rfl,⟨h,_⟩|⟨h,_⟩|⟨_,J,hr⟩⟩
    ·cases h
    ·cases h
    have AZ:∀j',j' < j+1->j' < (ag.ch n p j').1.length:=fun j' h=>by
     rcases X8 j' j with h'|h'
     ·exact pr j' h'
     ·have:j'=j:=by omega
      subst this;exact z
    have J2:uS st s5 a b c (ag.ch n p (j+1)).1 (ag.ch n p (j+1)).2.1 (ag.ch n p (j+1)).2.2 (rs ++ [r]):=by
     refine ⟨J.a,J.b,J.c,?_,fun k r' l e1 e2=>?_,J.h,J.e⟩
     ·show ((ag.ch n p j).2.2 ++ [_]).length<=_
      rw [Wt,Wt,nC,hrs];exact Wv _
     ·have e2:((ag.ch n p j).2.2 ++ [((ag.lh n (ag.ch n p j)).2.2,(ag.jY n (ag.ch n p j)).2.2)])[k]?=some l:=e2
      by_cases hk:k<(ag.ch n p j).2.2.length
      ·rw [WG hk] at e2
       exact J.r k r' l e1 e2
      ·have hk2:k=j:=by
        have:=(Wq.mp e2).1;rw [Wt] at this;have:k<(ag.ch n p j).2.2.length+1:=this;omega
       subst hk2;rw [WN (by omega),nC,XA] at e2;cases (show some _=some l from e2);rw [hrk] at e1;cases e1;exact hr
    refine hJ ?_;refine ck ?_;intro dg hQ
    set_option simprocs false in simp only [bD,bw J2.a]
    rw [Wo];refine hQ _ _ ⟨fun y=>eo ?_,fun y=>jd ⟨_,_,_,j+1,_,rfl,Wv _,AZ,?_,.inl rfl,?_,J2⟩⟩
    ·clear hQ
     kspl_open hQ;exact hQ _ _ ⟨J2.e,.inr ⟨rfl,j+1,AZ,by have:=of_decide_eq_true y;omega⟩⟩
    ·have:=of_decide_eq_false y;omega
    ·rw [Wt,hrs];rfl
  ·have z:¬i<(ag.ch n p j).1.length:=by have:=of_decide_eq_false z;omega
   have:=g.le;exact ⟨_,_,_,j,rs,rfl,by omega,pr,few,by omega,hrs,I⟩
 ·rintro δ s ⟨v5,v6,v7,j,rs,rfl,hj,pr,few,jo,hrs,I⟩
  rw [fH] at hj jo;have g:=ag.wg n0 w0 j pr;have U6:=g.le;have Kd:(ag.ch n p j).1.length=j:=by rcases jo with h|h<;>omega
  have wG:ag.Full n p (ag.ch n p j) j:={ toGC:=g,fl:=Kd };refine eo ?_;kspl_open hQ;generalize hC:ag.ch n p j=C at I g Kd wG;refine qC (aA 0 j) (fun d=>Ep (C.1.getD (inD d).toNat ([],[])) (C.2.1.getD (inD d).toNat []) (C.2.2.getD (inD d).toNat (0,0))) ?_ (by rw [fH];omega) ?_ ?_
  ·refine ck ?_
   intro g5 cF
   set_option simprocs false in simp only [bD,bw I.a]
   rw [Wo,Kd];exact ⟨by omega,cF _ _ ⟨by rw [WC];exact qW _ _,Ex.refl⟩⟩
  ·intro d hd s5 k5
   obtain ⟨i,hi⟩:=Xa hd;have hil:=dz hi;rw [fH] at hil;rw [yg hil,XX] at hi;cases hi;have hwl:=g.r.wl;have nC:=g.ll;have ef:=d3 (d:=(([],[]):ag.aR)) (show i<C.1.length by omega);have ew:=d3 (d:=([]:List fV)) (show i<C.2.1.length by omega);have el:=d3 (d:=((0,0):Nat×Nat)) (show i<C.2.2.length by omega);have er:=d3 (d:=0) (show i<rs.length by omega);have hR:=k5.keep _ _ (I.r i _ _ er el) (by simp);have a1:eW (C.1.map aO) (i:Int)=some (aO (C.1.getD i ([],[]))):=md ef;have a2:eW (C.2.1.map wD) (i:Int)=some (wD (C.2.1.getD i [])):=md ew;have a3:eW (rs.map D.ref) (i:Int)=some (.ref (rs.getD i 0)):=md er;have uT:=k5.keep _ _ I.a (by simp);have wH:=k5.keep _ _ I.b (by simp);have hc5:=k5.keep _ _ I.c (by simp);generalize rs.getD i 0=r at hR a3;refine ck ?_;intro g5 cF
   set_option simprocs false in simp only [bD,WM,Xb,W5,W6,bw uT,bw wH,bw hc5,a1,a2,a3,bw hR,Er,Es]
   exact ⟨rfl,cF _ _ ⟨rfl,Ex.refl⟩⟩
  ·intro s5 k5
   refine ⟨_,rA,hQ _ _ ⟨(I.e.trans k5).app _,.inl ⟨j,by omega,by rw [hC];exact wG,pr,?_⟩⟩⟩;rw [hC];unfold tR
   congr 1
   unfold aA;rw [WQ];refine W4 fun i _=>?_;show Ep _ _ _=_;simp only [Function.comp,inD,XX,WC]
theorem wI{n:Nat}{p:ag.aR}(n0:0<n)(w:ag.Wh n p):∀(N j:Nat),(∀i,i<N->i<(ag.ch n p i).1.length)->j<=N->(ag.ch n p j).1.length<=(ag.ch n p N).1.length
 |0,j,_,hj=>by
  have:j=0:=by omega
  subst this;exact Wv _
 |N+1,j,pr,hj=>by
  by_cases e:j=N+1
  ·subst e;exact Wv _
  ·have h1:=wI n0 w N j (fun i hi=>pr i (by omega)) (by omega)
   have g:=ag.wg n0 w N fun i hi=>pr i (by omega);have hN:=pr N (by omega);have nC:=g.ll;have r1:=ag.tT (s:=(true,1)) n0 g.r w.v (k:=(ag.ch n p N).2.2.length) (by omega) (.inl rfl);have r2:=ag.tT (s:=(false,1)) n0 r1.1 w.v (k:=(ag.ch n p N).2.2.length) (by have:=r1.2.2.1;omega) (.inr rfl);have a:=r1.2.2.1;have b:=r2.2.2.1;have:(ag.ch n p N).1.length<=(ag.ch n p (N+1)).1.length:=WZ a b;omega
theorem Ol{st:Store}{a b n k:Nat}{p:ag.aR}{fs:List ag.aR}{ws:List (List fV)}{s1:fV}(n0:0<n)(hn:n<=20)(hs:s1=(true,1)\/s1=(false,1))(ab:a≠b)(ha:st[a]?=some (.lst (fs.map aO)))(hb:st[b]?=some (.lst (ws.map wD)))(g:ag.GR n p fs ws)(vp:ag.Vf n p)(hk:k<fs.length)(few:fs.length<=100):
  Wp (zq [.ref a,.ref b,.int (k:Int),bN s1] st) fun d st'=>d=.int ((ag.bz n fs ws k s1).2.2:Int)/\st'[a]?=some (.lst ((ag.bz n fs ws k s1).1.map aO))/\st'[b]?=some (.lst ((ag.bz n fs ws k s1).2.1.map wD))/\Ex [a,b] st st':=by
 refine iT ?_;show Ws (GG [some (.ref a),some (.ref b),some (.int (k:Int)),some (bN s1),none] st) _ _ _ _;unfold GG;have ek:=d3 (d:=(([],[]):ag.aR)) hk;have hkw:k<ws.length:=by rw [g.wl];exact hk
 have ew:=d3 (d:=([]:List fV)) hkw;have ps:ag.gX s1:=by rcases hs with rfl|rfl<;>exact ⟨fun _=>by decide,by decide⟩
 have gN:=ag.tT n0 g vp hk hs;have lN:(ag.bz n fs ws k s1).1.length<=101:=by have:=gN.2.2.2.1;omega
 generalize hq:fs.getD k ([],[])=q at ek;generalize hw:ws.getD k []=w at ew;obtain ⟨wq,oq⟩:=g.own q (Ww ek);obtain ⟨pw,lw,nw,-⟩:=g.wd k w ew;have hat:eW (fs.map aO) (k:Int)=some (aO q):=md ek;refine aZ (b9 ?_);refine ck ?_;intro dg hQ
 set_option simprocs false in simp only [bD,bw ha,hat]
 refine ⟨rfl,?_⟩;have hw1:(D.tup [bN s1])=.tup ([s1].map bN):=rfl;rw [hw1];refine bj (Oa (p:=q) (w:=[s1]) ⟨wq.v.1,wq.v.2⟩ (by omega) (fun x hx=>by rw [WK.mp hx];exact ps.1) (show 1<=1000 by decide)) ?_;rintro d t1 ⟨rfl,k1⟩;have e1:lr q [s1]=ag.stM q s1:=Kb q s1;rw [e1];have zc:=wq.st n0 s1;have eS:aO (ag.stM q s1)=cv (ag.stM q s1).1 (ag.stM q s1).2:=rfl;rw [eS];refine bj (J4 (zB zc) n0 hn) ?_;rintro d t2 ⟨rfl,k2⟩;have eF:cv (ag.bC n ((ag.stM q s1).1,(ag.stM q s1).2)).1 (ag.bC n ((ag.stM q s1).1,(ag.stM q s1).2)).2=aO (ag.bC n (ag.stM q s1)):=rfl;rw [eF];have tj:=k1.trans k2;have ha2:=tj.keep _ _ ha (by simp);have hb2:=tj.keep _ _ hb (by simp);have pf:∀q:ag.aR,pU 2 (aO q):=fun q=>Dj 0 _ _;have hj:(ag.bz n fs ws k s1).1[(ag.bz n fs ws k s1).2.2]?=some (ag.bC n (ag.stM q s1)):=by
  obtain ⟨q',h1,h2⟩:=gN.2.2.2.2;rw [ek] at h1;cases h1;exact h2
 have rest:∀ {s3:Store},s3[a]?=some (.lst ((ag.bz n fs ws k s1).1.map aO))->s3[b]?=some (.lst ((ag.bz n fs ws k s1).2.1.map wD))->Ex [a,b] st s3 ->
   Ws ((bF (g7 "list" fz (ah 0) (ae (ah 4) ai))) [some (.ref a),some (.ref b),some (.int (k:Int)),some (bN s1),some (aO (ag.bC n (ag.stM q s1)))] s3) (fun _ st1=>D.non=D.int ((ag.bz n fs ws k s1).2.2:Int)/\st1[a]?=some (.lst ((ag.bz n fs ws k s1).1.map aO))/\st1[b]?=some (.lst ((ag.bz n fs ws k s1).2.1.map wD))/\Ex [a,b] st st1) (fun _ _=>False) (fun _ _=>False) (fun d st1=>d=D.int ((ag.bz n fs ws k s1).2.2:Int)/\st1[a]?=some (.lst ((ag.bz n fs ws k s1).1.map aO))/\st1[b]?=some (.lst ((ag.bz n fs ws k s1).2.1.map wD))/\Ex [a,b] st st1):=by
  intro s3 oS nt k3;refine eo ?_;kspl_open cF;refine ⟨kY (by rw [bw oS];rfl),?_⟩;rw [Ny (n:=2) (j:=(ag.bz n fs ws k s1).2.2) (pf _) (bw oS) (fun e he=>by obtain ⟨q,_,rfl⟩:=WB.mp he;exact pf q) (by decide) (by rw [Wo];omega) (by rw [Wx,hj];rfl) (Oh gN.1.nd hj)];exact cF _ _ ⟨rfl,oS,nt,k3⟩
 refine hQ _ _ (aZ (hJ ?_));clear hQ;kspl_open hQ;have Em:dv t2 (.ref a)=some (fs.map aO):=bw ha2;rw [FO (n:=2) (es:=fs.map aO) (pf _) Em (fun e he=>by obtain ⟨q,_,rfl⟩:=WB.mp he;exact pf q) (by decide)]
 by_cases hm:ag.bC n (ag.stM q s1)∈fs
 ·have hm':aO (ag.bC n (ag.stM q s1))∈fs.map aO:=WB.mpr ⟨_,hm,rfl⟩
  have eR:ag.bz n fs ws k s1=(fs,ws,fs.idxOf (ag.bC n (ag.stM q s1))):=by unfold ag.bz;rw [hq,if_pos hm]
  refine ⟨false,by simp [hm'],hQ _ _ ⟨fun z=>(nomatch z),fun _=>jd (rest ?_ ?_ tj.any)⟩⟩
  ·rw [eR];exact ha2
  ·rw [eR];exact hb2
 ·have hm':aO (ag.bC n (ag.stM q s1)) ∉ fs.map aO:=fun z=>by
   obtain ⟨q',h1,h2⟩:=WB.mp z;exact hm (zC h2 ▸ h1)
  have eR:ag.bz n fs ws k s1=(fs ++ [ag.bC n (ag.stM q s1)],ws ++ [(ag.km (w ++ [s1])).reverse],fs.length):=by unfold ag.bz;rw [hq,hw,if_neg hm]
  refine ⟨true,by simp [hm'],hQ _ _ ⟨fun _=>?_,fun z=>(nomatch z)⟩⟩;clear hQ;refine aZ (mN ?_);refine ck ?_;intro dg hQ
  set_option simprocs false in simp only [bD,iJ ha2]
  refine ⟨kY (by rw [bw ha2];rfl),gZ (by rw [Wo];omega),hQ _ _ (mN ?_)⟩;clear hQ;have em:fs.map aO ++ [aO (ag.bC n (ag.stM q s1))]=(ag.bz n fs ws k s1).1.map aO:=by rw [eR,WL];rfl
  rw [em];have oS:(t2.set a (.lst ((ag.bz n fs ws k s1).1.map aO)))[a]?=some (.lst ((ag.bz n fs ws k s1).1.map aO)):=Wu (dz ha2);have nt:(t2.set a (.lst ((ag.bz n fs ws k s1).1.map aO)))[b]?=some (.lst (ws.map wD)):=by rw [Wz ab];exact hb2
  have k3:Ex [a,b] st (t2.set a (.lst ((ag.bz n fs ws k s1).1.map aO))):=(tj.any).put (by simp);generalize t2.set a (.lst ((ag.bz n fs ws k s1).1.map aO))=s3 at oS nt k3 ⊢;have zD:eW (ws.map wD) (k:Int)=some (.tup (w.map bN)):=md (g:=wD) ew;refine ck ?_;intro dg hQ
  set_option simprocs false in simp only [bD,bw nt,zD]
  refine ⟨kY (by rw [bw nt];rfl),rfl,?_⟩;rw [hw1];refine bj (UY (v:=w) (w:=[s1]) (by show _+1<=_;omega)) ?_;rintro d s4 ⟨rfl,k4⟩;have Eo:=k4.keep _ _ oS (by simp);have rE:=k4.keep _ _ nt (by simp)
  set_option simprocs false in simp only [bD,iJ rE]
  refine ⟨gZ (by rw [Wo,g.wl];omega),hQ _ _ (rest ?_ ?_ ((k3.trans k4.any).put (by simp)))⟩
  ·rw [Wz (Ne.symm ab)];exact Eo
  ·rw [Wu (dz rE),eR,WL];rfl
noncomputable def zE(l:Nat×Nat):D:=.tup [.int (l.1:Int),.int (l.2:Int)]
theorem Om{st:Store}{p:ag.aR}{n N most:Nat}(w0:ag.Wh n p)(n0:0<n)(hn:n<=20)(F:ag.Full n p (ag.ch n p N) N)(pr:∀j,j<N->j<(ag.ch n p j).1.length)(hN:N<=most)(U5:most<=60):Wp (tW [aO p,.int (most:Int)] st) fun d st'=>d=tR (ag.ch n p N) N/\Ex [] st st':=by
 refine iT ?_;show Ws (GH [some (aO p),some (.int (most:Int)),none,none,none,none,none,none] st) _ _ _ _;unfold GH;refine aZ (b9 ?_);kspl_open hQ;refine bj (J4 (zB w0) n0 hn) ?_;rintro d s1 ⟨rfl,k1⟩;refine ⟨rfl,hQ _ _ (aZ (b9 ?_))⟩;clear hQ;kspl_open hQ;refine ⟨rfl,rfl,hQ _ _ (aZ (b9 ?_))⟩;clear hQ;kspl_open hQ;refine ⟨rfl,hQ _ _ ?_⟩;clear hQ;have eF:cv (ag.bC n (p.1,p.2)).1 (ag.bC n (p.1,p.2)).2=aO (ag.bC n p):=rfl;rw [eF];obtain ⟨a,b,c,s2,ea,eb,ec,es,ab,bc,la,ha,hb,hc,kx⟩:∃(a b c:Nat) (s2:Store),s1.length=a/\(s1 ++ [O.lst [aO (ag.bC n p)]]).length=b/\(s1 ++ [O.lst [aO (ag.bC n p)]] ++ [O.lst [D.tup []]]).length=c/\s1 ++ [O.lst [aO (ag.bC n p)]] ++ [O.lst [D.tup []]] ++ [O.lst []]=s2/\a<b/\b<c/\st.length<=a/\s2[a]?=some (.lst ((ag.ch n p 0).1.map aO))/\s2[b]?=some (.lst ((ag.ch n p 0).2.1.map wD))/\s2[c]?=some (.lst ((ag.ch n p 0).2.2.map zE))/\Ex [] st s2 :=
  ⟨_,_,_,_,rfl,rfl,rfl,rfl,by simp,by simp,k1.len,iI (iI gG),iI gG,gG,((k1.app _).app _).app _⟩
 rw [ea,eb,ec,es];refine aZ (Ar (fun m δ s=>∃(v5 v6 v7:Option D) (j:Nat),δ=[some (aO p),some (.int (most:Int)),some (.ref a),some (.ref b),some (.ref c),v5,v6,v7]/\m+j=N/\s[a]?=some (.lst ((ag.ch n p j).1.map aO))/\s[b]?=some (.lst ((ag.ch n p j).2.1.map wD))/\s[c]?=some (.lst ((ag.ch n p j).2.2.map zE))/\Ex [] st s) N (by show N<1000000;omega) ⟨none,none,none,0,rfl,rfl,ha,hb,hc,kx⟩ ?_);rintro m δ s ⟨v5,v6,v7,j,rfl,hm,ha,hb,hc,k⟩;have g:=ag.wg n0 w0 j fun i hi=>pr i (by omega);have nC:=g.ll;have up:=wI n0 w0 N j pr (by omega);have hfl:=F.fl;refine ck ?_;intro dg hQ
 set_option simprocs false in simp only [bD,bw ha,bw hc]
 rw [Wo,Wo,nC];refine hQ _ _ ⟨fun z=>aZ (hJ ?_),fun z=>eo ?_⟩
 ·have z:j<(ag.ch n p j).1.length:=by have:=of_decide_eq_true z;omega
  clear hQ;refine ck ?_;intro dg hQ
  set_option simprocs false in simp only [bD,bw ha]
  rw [Wo];refine hQ _ _ ⟨fun y=>?_,fun y=>jd (aZ (b9 ?_))⟩
  ·have:=of_decide_eq_true y
   omega
  ·clear hQ
   have VX:j<N:=by
    rcases X8 j N with h|h
    ·exact h
    ·have:j=N:=by omega
     subst this;omega
   refine ck ?_;intro dg hQ
   set_option simprocs false in simp only [bD,bw hc]
   rw [Wo,nC];refine hQ _ _ (aZ (b9 ?_));clear hQ;kspl_open hQ;have es1:D.tup [D.str (Str.ofString "s"),D.int 1]=bN (true,1):=rfl;have U8:D.tup [D.str (Str.ofString "t"),D.int 1]=bN (false,1):=rfl;rw [es1];have r1:=ag.tT (s:=(true,1)) n0 g.r w0.v (k:=j) z (.inl rfl);have r2:=ag.tT (s:=(false,1)) n0 r1.1 w0.v (k:=j) (by have:=r1.2.2.1;omega) (.inr rfl);refine bj (Ol (s1:=(true,1)) (k:=j) n0 hn (.inl rfl) (by omega) ha hb g.r w0.v z (by omega)) ?_;rintro d s3 ⟨rfl,oS,nt,k3⟩;have hc3:=k3.keep _ _ hc (by simp;omega);refine hQ _ _ (aZ (b9 ?_));clear hQ;kspl_open hQ;rw [U8];refine bj (Ol (s1:=(false,1)) (k:=j) n0 hn (.inr rfl) (by omega) oS nt r1.1 w0.v (by have:=r1.2.2.1;omega) (by have:=r1.2.2.2.1;omega)) ?_;rintro d s4 ⟨rfl,Eo,rE,k4⟩;have hc4:=k4.keep _ _ hc3 (by simp;omega);refine hQ _ _ (mN ?_);clear hQ;refine ck ?_;intro dg hQ
   set_option simprocs false in simp only [bD,iJ hc4]
   have eS:ag.lh n (ag.ch n p j)=ag.bz n (ag.ch n p j).1 (ag.ch n p j).2.1 j (true,1):=by unfold ag.lh;rw [nC]
   have eT:ag.jY n (ag.ch n p j)=ag.bz n (ag.bz n (ag.ch n p j).1 (ag.ch n p j).2.1 j (true,1)).1 (ag.bz n (ag.ch n p j).1 (ag.ch n p j).2.1 j (true,1)).2.1 j (false,1):=by unfold ag.jY;rw [eS,nC]
   have kd:∀{x y:Store},Ex [] st x->Ex [a,b] x y->Ex [] st y:=fun {x y} h g=>⟨WZ h.len g.len,fun i o e n=>g.keep i o (h.keep i o e n) (by have:=dz e;simp;omega)⟩;have k5:Ex [] st s4:=kd (kd k k3) k4;refine ⟨kY (by rw [bw hc4];rfl),rfl,gZ (by rw [Wo];omega),hQ _ _ ⟨m-1,by omega,_,_,_,j+1,rfl,by omega,?_,?_,?_,k5.loc (by omega)⟩⟩
   ·rw [Wz (by omega)]
    show _=some (O.lst ((ag.jY n (ag.ch n p j)).1.map aO));rw [eT];exact Eo
   ·rw [Wz (by omega)]
    show _=some (O.lst ((ag.jY n (ag.ch n p j)).2.1.map wD));rw [eT];exact rE
   ·rw [Wu (dz hc4)]
    show _=some (O.lst (((ag.ch n p j).2.2 ++ [((ag.lh n (ag.ch n p j)).2.2,(ag.jY n (ag.ch n p j)).2.2)]).map zE));rw [WL,eT,eS];rfl
 ·have z:¬j<(ag.ch n p j).1.length:=by have:=of_decide_eq_false z;omega
  have ej:j=N:=by
   rcases X8 j N with h|h
   ·exact absurd (pr j h) z
   ·omega
  subst ej;clear hQ;kspl_open hQ;generalize hC:ag.ch n p j=C at ha hb hc g F hfl nC;refine qC (aA 0 j) (fun d=>Ep (C.1.getD (inD d).toNat ([],[])) (C.2.1.getD (inD d).toNat []) (C.2.2.getD (inD d).toNat (0,0))) ?_ (by rw [fH];omega) ?_ ?_
  ·refine ck ?_
   intro g5 cF
   set_option simprocs false in simp only [bD,bw ha]
   rw [Wo,hfl];exact ⟨by omega,cF _ _ ⟨by rw [WC];exact qW _ _,Ex.refl⟩⟩
  ·intro d hd s5 k5
   obtain ⟨i,hi⟩:=Xa hd;have hil:=dz hi;rw [fH] at hil;rw [yg hil,XX] at hi;cases hi;have hwl:=g.r.wl;have ef:=d3 (d:=(([],[]):ag.aR)) (show i<C.1.length by omega);have ew:=d3 (d:=([]:List fV)) (show i<C.2.1.length by omega);have el:=d3 (d:=((0,0):Nat×Nat)) (show i<C.2.2.length by omega);have a1:eW (C.1.map aO) (i:Int)=some (aO (C.1.getD i ([],[]))):=md ef;have a2:eW (C.2.1.map wD) (i:Int)=some (wD (C.2.1.getD i [])):=md ew;have a3:eW (C.2.2.map zE) (i:Int)=some (zE (C.2.2.getD i (0,0))):=md el;have g0:∀{l:Nat×Nat} {s:Store} {Q:D->Store->Prop},Wp (bh (zE l) (.int 0) s) Q↔Q (.int (l.1:Int)) s:=bT;have g1:∀{l:Nat×Nat} {s:Store} {Q:D->Store->Prop},Wp (bh (zE l) (.int 1) s) Q↔Q (.int (l.2:Int)) s:=bT;have uT:=k5.keep _ _ ha (by simp);have wH:=k5.keep _ _ hb (by simp);have hc5:=k5.keep _ _ hc (by simp);refine ck ?_;intro g5 cF
   set_option simprocs false in simp only [bD,WM,Xb,W5,W6,bw uT,bw wH,bw hc5,a1,a2,a3,g0,g1]
   exact ⟨rfl,cF _ _ ⟨rfl,Ex.refl⟩⟩
  ·intro s5 k5
   refine ⟨_,rA,hQ _ _ ⟨?_,(k.trans k5).app _⟩⟩;rw [hC];unfold tR
   congr 1
   unfold aA;rw [WQ];refine W4 fun i _=>?_;show Ep _ _ _=_;simp only [Function.comp,inD,XX,WC]
noncomputable def cW(r:ag.Ro):D:=.tup [aO r.q,wD r.w,.int r.s,.int r.t]
noncomputable def j5(R:List ag.Ro):D:=.tup (R.map cW)
theorem Ke(n N:Nat)(C:ag.CS):tR C N=j5 (ag.bq n C N):=by
 unfold tR j5 ag.bq;rw [WQ];rfl
theorem A0{st:Store}{Q:D->Store->Prop}{r:ag.Ro}:Wp (bh (cW r) (.int 0) st) Q↔Q (aO r.q) st:=bT
theorem Kf{st:Store}{Q:D->Store->Prop}{r:ag.Ro}:Wp (bh (cW r) (.int 1) st) Q↔Q (wD r.w) st:=bT
theorem Oo{st:Store}{Q:D->Store->Prop}{r:ag.Ro}:Wp (bh (cW r) (.int 2) st) Q↔Q (.int r.s) st:=bT
theorem Oq{st:Store}{Q:D->Store->Prop}{r:ag.Ro}:Wp (bh (cW r) (.int 3) st) Q↔Q (.int r.t) st:=bT
theorem Et{st:Store}{n:Nat}{p:ag.aR}(w:ag.Wh n p)(n0:0<n)(hn:n<=20):Wp (nD [aO p] st) fun d st'=>d=aO (ag.bC n p)/\Ex [] st st':=J4 (zB w) n0 hn
theorem A1{st:Store}{Q:D->Store->Prop}{neg:Bool}{p q:ag.aR}:Wp (gD neg (aO p) (aO q) st) Q↔Q (.bl (if neg then !decide (p=q) else decide (p=q))) st:=by
 have e:decide ([p.1,p.2]=[q.1,q.2])=decide (p=q):=decide_eq_decide.mpr ⟨fun z=>by injection z with z1 z2;injection z2 with z2 _;exact Prod.ext z1 z2,fun z=>by rw [z]⟩;show Wp (gD neg (cv p.1 p.2) (cv q.1 q.2) st) Q↔_;rw [SJ,e]
theorem U9{st:Store}{n:Nat}{p:ag.aR}(v:ag.Vf n p)(hn:n<=100):Wp (uO [aO p,.int 1] st) fun d st'=>d=aO (ag.Sh 1 p)/\Ex [] st st':=N5 v.1 v.2 hn
theorem Va{st:Store}{n:Nat}{p:ag.aR}(v:ag.Vf n p)(hn:n<=100):Wp (uP [aO p] st) fun d st'=>d=aO (ag.Qt p)/\Ex [] st st':=N6 v.1 v.2 hn
theorem Ot{st:Store}{b m:Nat}{fs:List ag.aR}{i:Int}{q:ag.aR}(hb:st[b]?=some (.lst (fs.map aO)))(w:ag.Wh m q)(m0:0<m)(hm:m<=20):Wp (zp [.ref b,.int i,aO q] st) fun d st'=>(∃c:Bool,d=.bl c/\(c=true↔ag.At fs i (ag.bC m q)))/\Ex [] st st':=by
 refine iT ?_;show Ws (Gi [some (.ref b),some (.int i),some (aO q)] st) _ _ _ _;unfold Gi;refine eo ?_;refine ck ?_;intro dg hQ
 set_option simprocs false in simp only [bD,FE,bw hb]
 rw [Wo]
 by_cases h0:0<=i
 ·by_cases h1:i<(fs.length:Int)
  ·simp only [h0,h1,decide_true,if_true]
   have hi:i.toNat<fs.length:=by omega
   have e:=d3 (d:=(([],[]):ag.aR)) hi;have ea:eW (fs.map aO) i=some (aO (fs.getD i.toNat ([],[]))):=by
    have:=md (g:=aO) e
    rwa [WV h0] at this
   refine ⟨_,ea,?_⟩;refine bj (Et w m0 hm) ?_;rintro d s1 ⟨rfl,k1⟩;rw [A1];refine hQ _ _ ⟨⟨_,rfl,?_⟩,k1⟩;unfold ag.At;simp only [h0,h1,true_and];rw [e];simp
  ·simp only [h0,h1,decide_true,decide_false,if_true,WR,if_false]
   exact hQ _ _ ⟨⟨_,rfl,⟨fun z=>(nomatch z),fun z=>absurd z.2.1 h1⟩⟩,Ex.refl⟩
 ·simp only [h0,decide_false,WR,if_false]
  exact hQ _ _ ⟨⟨_,rfl,⟨fun z=>(nomatch z),fun z=>absurd z.1 h0⟩⟩,Ex.refl⟩
theorem Vb{st:Store}{b n:Nat}{p:ag.aR}{fs:List ag.aR}{r:ag.Ro}(hb:st[b]?=some (.lst (fs.map aO)))(wp:ag.Wh n p)(n0:0<n)(hn:n<=20)(ok:ag.fM r):Wp (DV [aO p,cW r,.ref b] st) fun d st'=>(∃c:Bool,d=.bl c/\(c=true↔ag.pd n p fs r))/\Ex [] st st':=by
 refine iT ?_;show Ws (Gw [some (aO p),some (cW r),some (.ref b)] st) _ _ _ _;unfold Gw;refine aZ (hJ ?_);refine ck ?_;intro dg hQ
 set_option simprocs false in simp only [bD,A0,Kf]
 unfold wD;refine bj (Oa (p:=p) (w:=r.w) ⟨wp.v.1,wp.v.2⟩ (by omega) (J7 ok.pr) ok.wl) ?_;rintro d s1 ⟨rfl,k1⟩;rw [J8];refine bj (Et (wp.ld n0 (w:=r.w)) n0 hn) ?_;rintro d s2 ⟨rfl,k2⟩;refine bj (Et ok.w ok.m0 ok.oQ) ?_;rintro d s3 ⟨rfl,k3⟩;have G3:=(k1.trans k2).trans k3;have nt:=G3.keep _ _ hb (by simp);rw [A1,if_pos rfl];refine ⟨_,rfl,hQ _ _ ⟨fun z=>eo ?_,fun z=>jd (eo ?_)⟩⟩
 ·clear hQ
  kspl_open hQ;refine hQ _ _ ⟨⟨_,rfl,⟨fun z=>(nomatch z),fun y=>?_⟩⟩,G3⟩;have:ag.bC n (ag.iF p r.w)=ag.bC r.m r.q:=y.1;rw [this] at z;simp at z
 ·have e:ag.bC n (ag.iF p r.w)=ag.bC r.m r.q:=by simpa using z
  clear hQ;refine ck ?_;intro dg hQ
  set_option simprocs false in simp only [bD,FE,A0,Oo,Oq]
  have vq:=ok.w.v;refine bj (U9 (p:=r.q) vq (by have:=ok.oQ;omega)) ?_;rintro d s4 ⟨rfl,k4⟩;have rE:=k4.keep _ _ nt (by simp);refine bj (Ot (i:=r.s) rE (ok.w.sh ok.m0 1) ok.m0 ok.oQ) ?_;rintro d s5 ⟨⟨c1,rfl,hc1⟩,k5⟩;have wH:=k5.keep _ _ rE (by simp);refine ⟨_,rfl,?_⟩;cases c1 with
  |false =>
   simp only [WR,if_false];refine hQ _ _ ⟨⟨_,rfl,⟨fun z=>(nomatch z),fun y=>by have:=hc1.mpr y.2.1;cases this⟩⟩,(G3.trans k4).trans k5⟩
  |true =>
   simp only [if_true];refine bj (Va (p:=r.q) vq (by have:=ok.oQ;omega)) ?_;rintro d s6 ⟨rfl,k6⟩;have Kg:=k6.keep _ _ wH (by simp);refine bj (Ot (i:=r.t) Kg (ok.w.qt ok.m0) ok.m0 ok.oQ) ?_;rintro d s7 ⟨⟨c2,rfl,hc2⟩,k7⟩;refine hQ _ _ ⟨⟨_,rfl,⟨fun z=>⟨e,hc1.mp rfl,hc2.mp z⟩,fun y=>hc2.mpr y.2.2⟩⟩,(((G3.trans k4).trans k5).trans k6).trans k7⟩
theorem Ou{ds:List D}{i:Nat}{d:D}(h:ds[i]?=some d):(fU ds)[i]?=some (.tup [.int (i:Int),d]):=by
 unfold fU;simp [Wx,List.getElem?_zipIdx,h]
theorem Kh{st:Store}{n:Nat}{p:ag.aR}{R:List ag.Ro}(wp:ag.Wh n p)(n0:0<n)(hn:n<=20)(ok:∀r∈R,ag.fM r)(few:R.length<=100):Wp (tV [aO p,j5 R] st) fun d st'=>(∃c:Bool,d=.bl c/\(c=true↔ag.Holds n p R))/\Ex [] st st':=by
 refine iT ?_;show Ws (Gx [some (aO p),some (j5 R),none,none,none] st) _ _ _ _;unfold Gx;refine aZ (b9 ?_);obtain ⟨h,hh⟩:∃h:D->D,∀r∈R,h (cW r)=aO r.f:=by
  classical
  refine ⟨fun d=>if x:∃r,r∈R/\cW r=d then aO x.choose.f else .non,fun r hr=>?_⟩;have x:∃r',r'∈R/\cW r'=cW r:=⟨r,hr,rfl⟩;show (if x:∃r',r'∈R/\cW r'=cW r then aO x.choose.f else .non)=_;rw [dif_pos x];obtain ⟨h1,h2⟩:=x.choose_spec;have e:x.choose.q=r.q:=zC (by injection h2 with h2;injection h2);have em:x.choose.m=r.m:=by rw [<- (ok _ h1).w.v.1.length,<- (ok _ hr).w.v.1.length,e]
  unfold ag.Ro.f;rw [e,em]
 refine qC (R.map cW) h ?_ (by rw [Wo];omega) ?_ ?_
 ·kspl_open hQ
  exact ⟨_,rfl,hQ _ _ ⟨qW _ _,Ex.refl⟩⟩
 ·intro d hd s1 k1
  obtain ⟨r,hr,rfl⟩:=WB.mp hd;refine ck ?_;intro dg hQ
  set_option simprocs false in simp only [bD,A0]
  refine bj (Et (ok r hr).w (ok r hr).m0 (ok r hr).oQ) ?_;rintro d s2 ⟨rfl,k2⟩;exact hQ _ _ ⟨(hh r hr).symm,k2⟩
 intro s1 k1;have eh:(R.map cW).map h=(R.map ag.Ro.f).map aO:=by
  rw [WQ,WQ];exact W4 fun r hr=>hh r hr
 rw [eh];have hb:(s1 ++ [O.lst ((R.map ag.Ro.f).map aO)])[s1.length]?=some (.lst ((R.map ag.Ro.f).map aO)):=gG;have kb:Ex [] st (s1 ++ [O.lst ((R.map ag.Ro.f).map aO)]):=k1.app _;generalize s1 ++ [O.lst ((R.map ag.Ro.f).map aO)]=s2 at hb kb ⊢;generalize s1.length=b at hb ⊢;show Ws _ _ _ _ _;have el:(R.map ag.Ro.f).length=R.length:=Wo _;have pf:∀q:ag.aR,pU 2 (aO q):=fun q=>Dj 0 _ _;refine aZ (hJ ?_);refine ck ?_;intro dg hQ
 set_option simprocs false in simp only [bD,bw hb]
 rw [Wo,el]
 by_cases z:R.length=0
 ·have z1:((R.length:Int)=0):=by omega
  simp only [z1,decide_true,if_true];refine hQ _ _ ⟨fun _=>eo ?_,fun y=>(nomatch y)⟩;clear hQ;kspl_open hQ;refine hQ _ _ ⟨⟨_,rfl,⟨fun y=>(nomatch y),fun y=>?_⟩⟩,kb⟩;have:=(Wq.mp y.1).1;omega
 ·have z1:¬((R.length:Int)=0):=by omega
  simp only [z1,decide_false,WR,if_false];have e0:=d3 (d:=(([],[]):ag.aR)) (show 0<(R.map ag.Ro.f).length by omega);have ea:eW ((R.map ag.Ro.f).map aO) 0=some (aO ((R.map ag.Ro.f).getD 0 ([],[]))):=md (g:=aO) e0;refine ⟨_,ea,?_⟩;refine bj (Et wp n0 hn) ?_;rintro d s3 ⟨rfl,k3⟩;have nt:=k3.keep _ _ hb (by simp);rw [A1,if_pos rfl];refine ⟨_,rfl,hQ _ _ ⟨fun y=>eo ?_,fun y=>jd ?_⟩⟩
  ·clear hQ
   kspl_open hQ;refine hQ _ _ ⟨⟨_,rfl,⟨fun y=>(nomatch y),fun x=>?_⟩⟩,kb.trans k3⟩;have:=x.1;rw [e0] at this;rw [WD this] at y;simp at y
  ·have y:(R.map ag.Ro.f)[0]?=some (ag.bC n p):=by rw [e0];congr 1;simpa using y
   clear hQ;have eL:(fU (R.map cW)).length=R.length:=by unfold fU;simp
   refine aZ (mO (fU (R.map cW)) (fun i δ s=>∃(v3 v4:Option D),δ=[some (aO p),some (j5 R),some (.ref b),v3,v4]/\s[b]?=some (.lst ((R.map ag.Ro.f).map aO))/\(∀(k:Nat) (r:ag.Ro),k<i->R[k]?=some r->r.f ∉ (R.map ag.Ro.f).take k/\ag.pd n p (R.map ag.Ro.f) r)/\Ex [] st s) ?_ (by omega) ?_ ?_)
   ·kspl_open hQ
    exact ⟨_,rfl,hQ _ _ ⟨rfl,_,_,rfl,nt,fun k r hk=>absurd hk (Xe k),kb.trans k3⟩⟩
   ·rintro i d δ s hd ⟨v3,v4,rfl,hb,good,k⟩
    have hi:i<R.length:=by have:=dz hd;omega
    have er:R[i]?=some R[i]:=Wr hi;have hr:R[i]∈R:=Xk hi;generalize R[i]=r at er hr;rw [Ou (d:=cW r) (by rw [Wx,er];rfl)] at hd;cases hd;have ef:(R.map ag.Ro.f)[i]?=some r.f:=by rw [Wx,er];rfl
    have ec:cutD ((R.map ag.Ro.f).map aO) none (some (i:Int))=((R.map ag.Ro.f).take i).map aO:=by
     rw [List.map_take];exact Jw _ i
    kspl_open hQ;refine ⟨rfl,hQ _ _ (hJ ?_)⟩;clear hQ;refine ck ?_;intro dg hQ
    set_option simprocs false in simp only [bD,bw hb,md (g:=aO) ef]
    rw [ec];rw [FO (n:=2) (es:=((R.map ag.Ro.f).take i).map aO) (pf _) (by rw [Ji];exact rA) (fun e he=>by obtain ⟨q,_,rfl⟩:=WB.mp he;exact pf q) (by decide)];have hb1:=iI (m:=[O.lst (((R.map ag.Ro.f).take i).map aO)]) hb;have k1:Ex [] st (s ++ [O.lst (((R.map ag.Ro.f).take i).map aO)]):=k.app _;generalize s ++ [O.lst (((R.map ag.Ro.f).take i).map aO)]=s5 at hb1 k1 ⊢
    by_cases hm:r.f∈(R.map ag.Ro.f).take i
    ·have hm':aO r.f∈((R.map ag.Ro.f).take i).map aO:=WB.mpr ⟨_,hm,rfl⟩
     refine ⟨true,by simp only [hm',decide_true,WR,if_false],?_⟩;simp only [if_true];refine hQ _ _ ⟨fun _=>eo ?_,fun y=>(nomatch y)⟩;clear hQ;kspl_open hQ;exact hQ _ _ ⟨⟨_,rfl,⟨fun y=>(nomatch y),fun x=>absurd hm (x.2 i r er).1⟩⟩,k1⟩
    ·have hm':aO r.f ∉ ((R.map ag.Ro.f).take i).map aO:=fun x=>by
      obtain ⟨q,h1,h2⟩:=WB.mp x;exact hm (zC h2 ▸ h1)
     refine ⟨false,by simp only [hm',decide_false,WR,if_false],?_⟩;simp only [WR,if_false];refine bj (Vb hb1 wp n0 hn (ok r hr)) ?_;rintro d s6 ⟨⟨c,rfl,hc⟩,k6⟩;have Kg:=k6.keep _ _ hb1 (by simp);refine ⟨_,rfl,?_⟩;cases c with
     |true =>
      refine hQ _ _ ⟨fun y=>(nomatch y),fun _=>jd ⟨_,_,rfl,Kg,fun j r' hj hr'=>?_,k1.trans k6⟩⟩
      by_cases e:j=i
      ·subst e
       rw [er] at hr';cases hr';exact ⟨hm,hc.mp rfl⟩
      ·exact good j r' (by omega) hr'
     |false =>
      refine hQ _ _ ⟨fun _=>eo ?_,fun y=>(nomatch y)⟩;clear hQ;kspl_open hQ;exact hQ _ _ ⟨⟨_,rfl,⟨fun y=>(nomatch y),fun x=>by have:=hc.mpr (x.2 i r er).2;cases this⟩⟩,k1.trans k6⟩
   ·rintro δ s ⟨v3,v4,rfl,hb,good,k⟩
    rw [eL] at good;refine eo ?_;kspl_open hQ;exact hQ _ _ ⟨⟨_,rfl,⟨fun _=>⟨y,fun k r hr=>good k r (Wq.mp hr).1 hr⟩,fun _=>rfl⟩⟩,k⟩
theorem G4{st:Store}{n:Nat}{p:ag.aR}(w:ag.Wh n p)(n0:0<n)(hn:n<=20):Wp (nX [aO p] st) fun d st'=>d=aO (ag.bC n p)/\Ex [] st st':=J5 (zB w) n0 hn
theorem zF{R:List ag.Ro}(ok:∀r∈R,ag.fM r):∃h:D->D,∀r∈R,h (cW r)=aO r.f:=by
 classical
 refine ⟨fun d=>if x:∃r,r∈R/\cW r=d then aO x.choose.f else .non,fun r hr=>?_⟩;have x:∃r',r'∈R/\cW r'=cW r:=⟨r,hr,rfl⟩;show (if x:∃r',r'∈R/\cW r'=cW r then aO x.choose.f else .non)=_;rw [dif_pos x];obtain ⟨h1,h2⟩:=x.choose_spec;have e:x.choose.q=r.q:=zC (by injection h2 with h2;injection h2);have em:x.choose.m=r.m:=by rw [<- (ok _ h1).w.v.1.length,<- (ok _ hr).w.v.1.length,e]
 unfold ag.Ro.f;rw [e,em]
theorem zG{st:Store}{R:List ag.Ro}{δ:av}{i:Nat}{Q:D->Store->Prop}(ok:∀r∈R,ag.fM r)(few:R.length<=100)(hc:δ[i]?=some (some (j5 R)))(h:∀s b,s[b]?=some (.lst ((R.map ag.Ro.f).map aO))->st.length<=b->Ex [] st s->Q (.ref b) s):Wp (dw (d4 (ah i)) 1 [] (hName 0) eC (aM nX (ae (aE bh (ah 0) (fC (.int 0))) ai)) δ st) Q:=by
 obtain ⟨g,hg⟩:=zF ok;refine qC (R.map cW) g ?_ (by rw [Wo];omega) ?_ ?_
 ·kspl_open hQ
  exact ⟨_,hc,_,rfl,hQ _ _ ⟨qW _ _,Ex.refl⟩⟩
 ·intro d hd s1 k1
  obtain ⟨r,hr,rfl⟩:=WB.mp hd;refine ck ?_;intro dg hQ
  set_option simprocs false in simp only [bD,A0]
  refine bj (G4 (ok r hr).w (ok r hr).m0 (ok r hr).oQ) ?_;rintro d s2 ⟨rfl,k2⟩;exact hQ _ _ ⟨(hg r hr).symm,k2⟩
 ·intro s1 k1
  have eh:(R.map cW).map g=(R.map ag.Ro.f).map aO:=by
   rw [WQ,WQ];exact W4 fun r hr=>hg r hr
  rw [eh];exact h _ _ gG k1.len (k1.app _)
theorem Vc{st:Store}{n:Nat}{q:ag.aR}{s:fV}(v:ag.Vf n q)(hn:n<=100)(hs:zz s):Wp (pD [aO q,bN s] st) fun d st'=>d=aO (ag.stM q s)/\Ex [] st st':=by
 refine bj (JZ (p:=q) (n:=n) ⟨v.1,v.2⟩ hn hs) ?_;rintro d s1 ⟨rfl,k1⟩;exact ⟨by rw [Kb],k1⟩
theorem Ov{s st:Store}{b m:Nat}{R:List ag.Ro}{r:ag.Ro}{i:Int}{sp:fV}{d0:D}{v3:Option D}{Nx B Co:av->Store->Prop}{Rt:D->Store->Prop}(hb:s[b]?=some (.lst ((R.map ag.Ro.f).map aO)))(ok:ag.fM r)(hs:zz sp)(ps:sp=(true,1)\/sp=(false,1))
  (good:ag.At (R.map ag.Ro.f) i (ag.bC r.m (ag.stM r.q sp))->∀s',s'[b]?=some (.lst ((R.map ag.Ro.f).map aO))->Ex [] s s'->Nx [some d0,some (j5 R),some (.ref b),v3,some (cW r),some (.int i),some (bN sp)] s')
  (bad:¬ag.At (R.map ag.Ro.f) i (ag.bC r.m (ag.stM r.q sp))->∀s',Ex [] s s'->Rt (.bl false) s') :
  Ws ((eB (rl (aI (aE rm (ah 5) (fC (.int 0)))) (rl (aI (aE CD (ah 5) (aM cq (ae (ah 1) ai)))) (aI (aE (gD true) (aE bM (ah 2) (ah 5)) (aM nX (ae (aM pD (ae (aE bh (ah 4) (fC (.int 0))) (ae (ah 6) ai))) ai)))))) (bF (fC (.bl false))) aW) [some d0,some (j5 R),some (.ref b),v3,some (cW r),some (.int i),some (bN sp)] s) Nx B Co Rt:=by
 have zc:ag.Wh r.m (ag.stM r.q sp):=ok.w.st ok.m0 sp;have hm:=ok.oQ;refine hJ ?_;unfold j5 at good ⊢;kspl_open hQ
 by_cases h0:i<0
 ·simp only [h0,decide_true,if_true]
  refine hQ _ _ ⟨fun _=>eo ?_,fun z=>(nomatch z)⟩;clear hQ;kspl_open hQ;exact hQ _ _ (bad (fun z=>by have:=z.1;omega) s Ex.refl)
 ·simp only [h0,decide_false,WR,if_false]
  rw [Wo]
  by_cases h1:i >= (R.length:Int)
  ·simp only [h1,decide_true,if_true]
   refine hQ _ _ ⟨fun _=>eo ?_,fun z=>(nomatch z)⟩;clear hQ;kspl_open hQ;exact hQ _ _ (bad (fun z=>by have:=z.2.1;rw [Wo] at this;omega) s Ex.refl)
  ·simp only [h1,decide_false,WR,if_false]
   have hi:i.toNat<(R.map ag.Ro.f).length:=by rw [Wo];omega
   have e:=d3 (d:=(([],[]):ag.aR)) hi;have ea:eW ((R.map ag.Ro.f).map aO) i=some (aO ((R.map ag.Ro.f).getD i.toNat ([],[]))):=by
    have:=md (g:=aO) e
    rwa [WV (by omega)] at this
   set_option simprocs false in simp only [bD,bw hb,ea,A0]
   refine bj (Vc ok.w.v (by omega) hs) ?_;rintro d s1 ⟨rfl,k1⟩;refine bj (G4 zc ok.m0 ok.oQ) ?_;rintro d s2 ⟨rfl,k2⟩;rw [A1,if_pos rfl];have hb2:=(k1.trans k2).keep _ _ hb (by simp);have eA:ag.At (R.map ag.Ro.f) i (ag.bC r.m (ag.stM r.q sp))↔(R.map ag.Ro.f).getD i.toNat ([],[])=ag.bC r.m (ag.stM r.q sp):=by
    unfold ag.At;rw [e];exact ⟨fun z=>WD z.2.2,fun z=>⟨by omega,by rw [Wo];omega,by rw [z]⟩⟩
   generalize (R.map ag.Ro.f).getD i.toNat ([],[])=G at eA ⊢
   by_cases z:G=ag.bC r.m (ag.stM r.q sp)
   ·refine ⟨_,rfl,hQ _ _ ⟨fun y=>absurd y (by simp [z]),fun _=>jd (good (eA.mpr z) _ hb2 (k1.trans k2))⟩⟩
   ·refine ⟨_,rfl,hQ _ _ ⟨fun _=>eo ?_,fun y=>absurd y (by simp [z])⟩⟩
    clear hQ;kspl_open hQ;exact hQ _ _ (bad (fun y=>z (eA.mp y)) _ (k1.trans k2))
theorem Vd{st:Store}{n:Nat}{p:ag.aR}{R:List ag.Ro}(wp:ag.Wh n p)(n0:0<n)(hn:n<=20)(ok:∀r∈R,ag.fM r)(few:R.length<=100):Wp (Eb [aO p,j5 R] st) fun d st'=>(∃c:Bool,d=.bl c/\(c=true↔ag.Holds n p R))/\Ex [] st st':=by
 refine iT ?_;show Ws (GL [some (aO p),some (j5 R),none,none,none,none,none] st) _ _ _ _;unfold GL;refine aZ (b9 ?_);refine zG (i:=1) ok few rfl fun s2 b hb lb kb=>?_;show Ws _ _ _ _ _;have el:(R.map ag.Ro.f).length=R.length:=Wo _;have pf:∀q:ag.aR,pU 2 (aO q):=fun q=>Dj 0 _ _;refine aZ (hJ ?_);kspl_open hQ;refine ⟨rfl,?_⟩;rw [J9 (n:=2) (ds:=(R.map ag.Ro.f).map aO) (es:=[]) (bw (iI hb)) rA (fun d hd=>by obtain ⟨q,_,rfl⟩:=WB.mp hd;exact pf q) (fun d hd=>nomatch hd) (by decide)];have hb2:=iI (m:=[O.lst []]) hb;have kb2:Ex [] st (s2 ++ [O.lst []]):=kb.app _;generalize s2 ++ [O.lst []]=s3 at hb2 kb2 ⊢;cases R with
 |nil =>
  refine ⟨true,by simp,?_⟩;simp only [if_true];refine hQ _ _ ⟨fun _=>eo ?_,fun y=>(nomatch y)⟩;clear hQ;kspl_open hQ;exact hQ _ _ ⟨⟨_,rfl,⟨fun y=>(nomatch y),fun y=>by cases y.1⟩⟩,kb2⟩
 |cons r0 R' =>
  generalize hR:r0 :: R'=R at *;have z:R.length≠0:=by rw [<- hR];simp
  have ne:(R.map ag.Ro.f).map aO≠[]:=by rw [<- hR];simp
  refine ⟨false,by simp only [ne,decide_false,WR,if_false],?_⟩;simp only [WR,if_false];have e0:=d3 (d:=(([],[]):ag.aR)) (show 0<(R.map ag.Ro.f).length by omega);have ea:eW ((R.map ag.Ro.f).map aO) 0=some (aO ((R.map ag.Ro.f).getD 0 ([],[]))):=md (g:=aO) e0
  set_option simprocs false in simp only [bD,bw hb2,ea]
  refine bj (G4 wp n0 hn) ?_;rintro d s4 ⟨rfl,k4⟩;have rE:=k4.keep _ _ hb2 (by simp);rw [A1,if_pos rfl];refine ⟨_,rfl,hQ _ _ ⟨fun y=>eo ?_,fun y=>jd ?_⟩⟩
  ·clear hQ
   kspl_open hQ;refine hQ _ _ ⟨⟨_,rfl,⟨fun y=>(nomatch y),fun x=>?_⟩⟩,kb2.trans k4⟩;have:=x.1;rw [e0] at this;rw [WD this] at y;simp at y
  ·have y:(R.map ag.Ro.f)[0]?=some (ag.bC n p):=by rw [e0];congr 1;simpa using y
   clear hQ;have eL:(fU (R.map cW)).length=R.length:=by unfold fU;simp
   refine aZ (mO (fU (R.map cW)) (fun i δ s=>∃(v3 v4 v5 v6:Option D),δ=[some (aO p),some (j5 R),some (.ref b),v3,v4,v5,v6]/\s[b]?=some (.lst ((R.map ag.Ro.f).map aO))/\(∀(k:Nat) (r:ag.Ro),k<i->R[k]?=some r->r.f ∉ (R.map ag.Ro.f).take k/\ag.pd n p (R.map ag.Ro.f) r)/\Ex [] st s) ?_ (by omega) ?_ ?_)
   ·kspl_open hQ
    exact ⟨_,rfl,hQ _ _ ⟨rfl,_,_,_,_,rfl,rE,fun k r hk=>absurd hk (Xe k),kb2.trans k4⟩⟩
   ·rintro i d δ s hd ⟨v3,v4,v5,v6,rfl,hb,good,k⟩
    have hi:i<R.length:=by have:=dz hd;omega
    have er:R[i]?=some R[i]:=Wr hi;have hr:R[i]∈R:=Xk hi;generalize R[i]=r at er hr;rw [Ou (d:=cW r) (by rw [Wx,er];rfl)] at hd;cases hd;have fK:=ok r hr;have ef:(R.map ag.Ro.f)[i]?=some r.f:=by rw [Wx,er];rfl
    have ec:cutD ((R.map ag.Ro.f).map aO) none (some (i:Int))=((R.map ag.Ro.f).take i).map aO:=by
     rw [List.map_take];exact Jw _ i
    kspl_open hQ;refine ⟨rfl,hQ _ _ (aZ (hJ ?_))⟩;clear hQ;refine ck ?_;intro dg hQ
    set_option simprocs false in simp only [bD,bw hb,md (g:=aO) ef]
    rw [ec];rw [FO (n:=2) (es:=((R.map ag.Ro.f).take i).map aO) (pf _) (by rw [Ji];exact rA) (fun e he=>by obtain ⟨q,_,rfl⟩:=WB.mp he;exact pf q) (by decide)];have hb1:=iI (m:=[O.lst (((R.map ag.Ro.f).take i).map aO)]) hb;have k1:Ex [] st (s ++ [O.lst (((R.map ag.Ro.f).take i).map aO)]):=k.app _;generalize s ++ [O.lst (((R.map ag.Ro.f).take i).map aO)]=s5 at hb1 k1 ⊢
    by_cases hm:r.f∈(R.map ag.Ro.f).take i
    ·have hm':aO r.f∈((R.map ag.Ro.f).take i).map aO:=WB.mpr ⟨_,hm,rfl⟩
     refine ⟨true,by simp only [hm',decide_true,WR,if_false],?_⟩;simp only [if_true];refine hQ _ _ ⟨fun _=>eo ?_,fun y=>(nomatch y)⟩;clear hQ;kspl_open hQ;exact hQ _ _ ⟨⟨_,rfl,⟨fun y=>(nomatch y),fun x=>absurd hm (x.2 i r er).1⟩⟩,k1⟩
    ·have hm':aO r.f ∉ ((R.map ag.Ro.f).take i).map aO:=fun x=>by
      obtain ⟨q,h1,h2⟩:=WB.mp x;exact hm (zC h2 ▸ h1)
     refine ⟨false,by simp only [hm',decide_false,WR,if_false],?_⟩;simp only [WR,if_false]
     set_option simprocs false in simp only [bD,bw hb1,md (g:=aO) ef,Kf]
     unfold wD;refine bj (N9 (p:=p) (w:=r.w) ⟨wp.v.1,wp.v.2⟩ (by omega) (J7 fK.pr) fK.wl) ?_;rintro d s6 ⟨rfl,k6⟩;rw [J8];refine bj (G4 (wp.ld n0 (w:=r.w)) n0 hn) ?_;rintro d s7 ⟨rfl,k7⟩;have Ve:=(k6.trans k7).keep _ _ hb1 (by simp);have Ow:=k1.trans (k6.trans k7);rw [A1,if_pos rfl]
     by_cases e1:r.f=ag.bC n (ag.iF p r.w)
     ·refine ⟨_,rfl,hQ _ _ ⟨fun x=>absurd x (by simp [e1]),fun _=>jd ?_⟩⟩
      clear hQ;refine mO [.tup [.int r.s,bN (true,1)],.tup [.int r.t,bN (false,1)]] (fun j δ s=>∃(v5 v6:Option D),δ=[some (aO p),some (j5 R),some (.ref b),some (.int (i:Int)),some (cW r),v5,v6]/\s[b]?=some (.lst ((R.map ag.Ro.f).map aO))/\(1<=j->ag.At (R.map ag.Ro.f) r.s (ag.bC r.m (ag.Sh 1 r.q)))/\(2<=j->ag.At (R.map ag.Ro.f) r.t (ag.bC r.m (ag.Qt r.q)))/\Ex [] st s) ?_ (show 2<100000 by decide) ?_ ?_
      ·refine ck ?_
       intro dg hQ
       set_option simprocs false in simp only [bD,Oo,Oq]
       exact ⟨rfl,rfl,rfl,rfl,rfl,hQ _ _ ⟨rfl,_,_,rfl,Ve,fun x=>absurd x (by decide),fun x=>absurd x (by decide),Ow⟩⟩
      ·rintro j d δ s8 hd ⟨v5,v6,rfl,G5,g1,g2,k8⟩
       rcases j with _|_|j
       ·cases hd
        kspl_open hQ;refine ⟨rfl,hQ _ _ ?_⟩;refine Ov (st:=st) (m:=0) (sp:=(true,1)) G5 fK (fun z=>(nomatch z)) (.inl rfl) (fun a s' hb' k'=>⟨_,_,rfl,hb',fun _=>a,fun x=>absurd x (by decide),k8.trans k'⟩) fun a s' k'=>⟨⟨_,rfl,⟨fun y=>(nomatch y),fun x=>absurd (x.2 i r er).2.2.1 a⟩⟩,k8.trans k'⟩
       ·cases hd
        kspl_open hQ;refine ⟨rfl,hQ _ _ ?_⟩;refine Ov (st:=st) (m:=0) (sp:=(false,1)) G5 fK (fun _=>by decide) (.inr rfl) (fun a s' hb' k'=>⟨_,_,rfl,hb',fun _=>g1 (by decide),fun _=>a,k8.trans k'⟩) fun a s' k'=>⟨⟨_,rfl,⟨fun y=>(nomatch y),fun x=>absurd (x.2 i r er).2.2.2 a⟩⟩,k8.trans k'⟩
       ·exact absurd hd (by simp)
      ·rintro δ s8 ⟨v5,v6,rfl,G5,g1,g2,k8⟩
       refine ⟨_,_,_,_,rfl,G5,fun j r' hj hr'=>?_,k8⟩
       by_cases e:j=i
       ·subst e
        rw [er] at hr';cases hr';exact ⟨hm,e1.symm,g1 (by show 1<=2;decide),g2 (by show 2<=2;decide)⟩
       ·exact good j r' (by omega) hr'
     ·refine ⟨_,rfl,hQ _ _ ⟨fun _=>eo ?_,fun x=>absurd x (by simp [e1])⟩⟩
      clear hQ;kspl_open hQ;exact hQ _ _ ⟨⟨_,rfl,⟨fun y=>(nomatch y),fun x=>absurd (x.2 i r er).2.1.symm e1⟩⟩,Ow⟩
   ·rintro δ s ⟨v3,v4,v5,v6,rfl,hb,good,k⟩
    rw [eL] at good;refine eo ?_;kspl_open hQ;exact hQ _ _ ⟨⟨_,rfl,⟨fun _=>⟨y,fun k r hr=>good k r (Wq.mp hr).1 hr⟩,fun _=>rfl⟩⟩,k⟩
theorem uU{kf:Int}{j:Int}{b:av->Dm Fl}{δ:av}{s:Store}{N B C:av->Store->Prop}{R:D->Store->Prop}{P P':Store->Prop}(h3:δ[3]?=some (some (.int kf)))(hP:(j<=kf/\P s)\/(kf<j/\P' s))(hb:kf=j->P s->Ws (b δ s) (fun δ1 s1=>δ1=δ/\P' s1) B C R)(hN:∀s1,((j+1<=kf/\P s1)\/(kf<j+1/\P' s1))->N δ s1):Ws (eB (aI (aE (iS false) (ah 3) (fC (.int j)))) b aW δ s) N B C R:=by
 refine hJ ?_;kspl_open hQ;refine ⟨_,h3,?_⟩
 w_how
 by_cases e:kf=j
 ·refine hQ _ _ ⟨fun _=>?_,fun z=>absurd z (by simp [e])⟩
  rcases hP with ⟨_,hp⟩|⟨z,_⟩
  ·refine rq (hb e hp) fun δ1 s1 h=>?_
   rw [h.1];exact hN s1 (.inr ⟨by omega,h.2⟩)
  ·omega
 ·refine hQ _ _ ⟨fun z=>absurd (of_decide_eq_true z) e,fun _=>jd (hN s ?_)⟩
  rcases hP with ⟨z,hp⟩|⟨z,hp⟩
  ·exact .inl ⟨by omega,hp⟩
  ·exact .inr ⟨by omega,hp⟩
structure oT(st s:Store)(f a:Nat)(R:List ag.Ro):Prop where
 l:s[a]?=some (.lst (R.map cW))
 fd:a5 s f
 k:Ex [f] st s
structure qY(st s:Store)(f a c:Nat):Prop where
 ex:∃R,oT st s f a R/\(∀r∈R,ag.fM r)/\R.length<=c
theorem G6{n i:Nat}(h:i<n):mC n (i:Int)=some i:=xw h
theorem zH{st s:Store}{f a c i:Nat}{R:List ag.Ro}{r:ag.Ro}{δ:av}{vi:Nat}{Q:av->Store->Prop}(h:oT st s f a R)(la:st.length<=a)(fa:f≠a)(ok:∀r∈R,ag.fM r)(hi:i<R.length)(hc:R.length<=c)(fK:ag.fM r)(h4:δ[4]?=some (some (.ref a)))(h5:δ[vi]?=some (some (.int (i:Int))))(hQ:∀s',qY st s' f a c->Q δ s'):Wp (hSub (ah 4) (ah vi) (cW r) δ s) Q:=by
 refine ck ?_;intro g5 cF
 set_option simprocs false in simp only [bD,FH]
 refine ⟨_,h4,_,h5,_,rfl,_,rfl,_,iJ h.l,_,G6 (by rw [Wo];exact hi),cF _ _ (hQ _ ⟨R.set i r,⟨?_,?_,?_⟩,fun r' hr'=>?_,by rw [W3];exact hc⟩)⟩
 ·rw [Wu (dz h.l),XF]
 ·exact h.fd.ne (fun z=>fa z.symm)
 ·exact h.k.loc la
 ·rcases XM hr' with h|h
  ·exact ok r' h
  ·rw [h];exact fK
theorem Eu{R:List ag.Ro}:∀d∈R.map cW,pU 4 d:=fun d hd=>by
 obtain ⟨r,_,rfl⟩:=WB.mp hd;show ∀d∈[aO r.q,wD r.w,D.int r.s,D.int r.t],pU 3 d;intro d hd;simp only [WT,Ye,or_false] at hd;rcases hd with rfl|rfl|rfl|rfl
 ·exact Dj 1 _ _
 ·exact fun d hd=>by obtain ⟨x,_,rfl⟩:=WB.mp hd;exact wc 1 x
 ·exact True.intro
 ·exact True.intro
theorem zI{n i:Nat}(h:i<n):seqIndex? (i:Int) n=some i:=by
 unfold seqIndex?;have h1:¬(i:Int)<0:=by omega
 have h2:(i:Int)<(n:Int):=by omega
 simp only [h1,if_false,h2,decide_true,Bool.and_true,WC];rw [if_pos (by simp)]
theorem Vg{st:Store}{f n:Nat}{p:ag.aR}{R:List ag.Ro}(hf:a5 st f)(wp:ag.Wh n p)(n0:0<n)(hn:n<=20)(ok:∀r∈R,ag.fM r)(few:R.length<=90):Wp (D9 [.ref f,aO p,j5 R] st) fun d st'=>∃R',d=j5 R'/\(∀r∈R',ag.fM r)/\R'.length<=R.length+1/\a5 st' f/\Ex [f] st st':=by
 refine iT ?_;show Ws (GK [some (.ref f),some (aO p),some (j5 R),none,none,none,none,none,none,none,none,none] st) _ _ _ _;unfold GK;refine aZ (b9 ?_);kspl_open hQ;refine bj (mH (n:=9) hf (by decide) (by decide)) ?_;rintro d s1 ⟨kf,rfl,Ki,VY,f1,k1⟩;refine hQ _ _ (aZ (b9 ?_));clear hQ;unfold j5;kspl_open hQ;refine hQ _ _ ?_;clear hQ;obtain ⟨a,s2,ea,es,P2,la⟩:∃(a:Nat) (s2:Store),s1.length=a/\s1 ++ [O.lst (R.map cW)]=s2/\oT st s2 f a R/\st.length<=a:=⟨_,_,rfl,rfl,⟨gG,f1.keep (Ex.cI _),k1.app _⟩,k1.len⟩;rw [ea,es];have fa:f≠a:=by have:=hf.lt;omega
 obtain ⟨m,hm,m0,VZ,Vh⟩:∃m:Nat,(if (((R.map cW).length:Nat):Int) > 1 then (((R.map cW).length:Nat):Int) else 1)=(m:Int)/\0<m/\m<=90/\(R.length≠0->m=R.length):=by
  rw [Wo];refine ⟨max 1 R.length,?_,by omega,by omega,by omega⟩;split<;>omega
 refine aZ (b9 ?_);refine ck ?_;intro dg hQ
 set_option simprocs false in simp only [bD,bw P2.l]
 rw [hm];refine bj (mH (n:=(m:Int)) P2.fd (by omega) (by omega)) ?_;rintro d s3 ⟨i1,rfl,V0,V1,f3,k3⟩;have l3:=k3.keep _ _ P2.l (by simp;exact fun z=>fa z.symm);refine hQ _ _ (aZ (b9 ?_));clear hQ;refine ck ?_;intro dg hQ
 set_option simprocs false in simp only [bD,bw l3]
 rw [hm];refine bj (mH (n:=(m:Int)) f3 (by omega) (by omega)) ?_;rintro d s4 ⟨i2,rfl,V2,V3,f4,k4⟩;have l4:=k4.keep _ _ l3 (by simp;exact fun z=>fa z.symm);have Vi:Ex [f] st s4:=(P2.k.trans k3).trans k4;refine hQ _ _ (aZ (hJ ?_));clear hQ;kspl_open hQ;refine ⟨rfl,?_⟩;rw [J9 (n:=4) (ds:=R.map cW) (es:=[]) (bw (iI l4)) rA Eu (fun d hd=>nomatch hd) (by decide)];have P4:oT st (s4 ++ [O.lst []]) f a R:=⟨iI l4,f4.keep (Ex.cI _),Vi.app _⟩;generalize s4 ++ [O.lst []]=s5 at P4 ⊢;obtain ⟨i1,rfl⟩:∃k:Nat,i1=(k:Int):=⟨i1.toNat,by omega⟩;obtain ⟨i2,rfl⟩:∃k:Nat,i2=(k:Int):=⟨i2.toNat,by omega⟩
 by_cases zR:R.length=0
 ·have e0:R=[]:=List.length_eq_zero_iff.mp zR
  subst e0;refine ⟨true,by simp,hQ _ _ ⟨fun _=>eo ?_,fun z=>(nomatch z)⟩⟩;clear hQ;kspl_open hQ;refine ⟨rfl,rfl,rfl,hQ _ _ ⟨[⟨n,p,[],0,0⟩],rfl,fun r hr=>?_,Wv _,P4.fd,P4.k⟩⟩;rw [WK.mp hr];exact ⟨wp,n0,hn,(fun s hs=>nomatch hs),W9 _⟩
 ·have ne:R.map cW≠[]:=fun z=>zR (by rw [<- Wo (f:=cW),z];rfl)
  have mR:=Vh zR;subst mR;have h1:i1<R.length:=by omega
  have h2:i2<R.length:=by omega
  refine ⟨false,by simp only [ne,decide_false,WR,if_false],hQ _ _ ⟨fun z=>(nomatch z),fun _=>jd (aZ (nW ?_))⟩⟩;clear hQ;have er:R[i1]?=some R[i1]:=Wr h1;have G7:R[i2]?=some R[i2]:=Wr h2;have hr:R[i1]∈R:=Xk h1;have hr2:R[i2]∈R:=Xk h2;generalize V4:R[i1]=r at er hr;generalize V5:R[i2]=r2 at G7 hr2;have fK:=ok r hr;have qZ:=ok r2 hr2;refine ck ?_;intro dg hQ
  set_option simprocs false in simp only [bD,bw P4.l,md (g:=cW) er]
  refine hQ _ _ ?_;clear hQ;rw [show cW r=D.tup [aO r.q,wD r.w,D.int r.s,D.int r.t] from rfl];kspl_open hQ;refine ⟨rfl,hQ _ _ (aZ (b9 ?_))⟩;clear hQ;refine ck ?_;intro dg hQ
  set_option simprocs false in simp only [bD,bw P4.l]
  refine ⟨rfl,?_⟩;have P5:oT st (s5 ++ [O.lst [D.int (i2:Int),D.int (0-1),D.int ((R.map cW).length:Int),D.int r.s,D.int r.t]]) f a R:=⟨iI P4.l,P4.fd.keep (Ex.cI _),P4.k.app _⟩;have i5:(s5 ++ [O.lst [D.int (i2:Int),D.int (0-1),D.int ((R.map cW).length:Int),D.int r.s,D.int r.t]])[s5.length]?=some (.lst [D.int (i2:Int),D.int (0-1),D.int ((R.map cW).length:Int),D.int r.s,D.int r.t]):=gG;have n5:s5.length≠f:=by have:=P4.fd.lt;omega
  generalize s5 ++ [O.lst [D.int (i2:Int),D.int (0-1),D.int ((R.map cW).length:Int),D.int r.s,D.int r.t]]=s6 at P5 i5 ⊢;generalize s5.length=l5 at i5 n5 ⊢;refine bj (mH (n:=5) P5.fd (by decide) (by decide)) ?_;rintro d s7 ⟨k5,rfl,V6,V7,f7,k7⟩;have i7:=bw (k7.keep _ _ i5 (by simp;exact n5));obtain ⟨nu,Vj⟩:∃nu:Int,eW [D.int (i2:Int),D.int (0-1),D.int ((R.map cW).length:Int),D.int r.s,D.int r.t] k5=some (.int nu):=by
   rcases (show k5=0\/k5=1\/k5=2\/k5=3\/k5=4 by omega) with h|h|h|h|h<;>rw [h]<;>exact ⟨_,rfl⟩
  set_option simprocs false in simp only [bD,i7]
  refine ⟨_,Vj,hQ _ _ ?_⟩;clear hQ;have P7:oT st s7 f a R:=⟨k7.keep _ _ P5.l (by simp;exact fun z=>fa z.symm),f7,P5.k.trans k7⟩;have di:∀{s:Store} {R':List ag.Ro},oT st s f a R'->(∀r∈R',ag.fM r)->R'.length<=R.length+1->qY st s f a (R.length+1):=fun h1 h2 h3=>⟨_,h1,h2,h3⟩;have new:∀{m:Nat} {q:ag.aR} {w:List fV} {x y:Int},ag.Wh m q->0<m->m<=20->(∀s∈w,ag.gX s)->w.length<=1000->ag.fM ⟨m,q,w,x,y⟩:=fun h1 h2 h3 h4 h5=>⟨h1,h2,h3,h4,h5⟩;have q5:∀{s:Store} {r':ag.Ro} {vs:av} {Q:av->Store->Prop},oT st s f a R->ag.fM r'->vs[4]?=some (some (.ref a))->vs[5]?=some (some (.int (i1:Int)))->(∀s',qY st s' f a (R.length+1)->Q vs s')->Wp (hSub (ah 4) (ah 5) (cW r') vs s) Q:=fun Vk h2 h3 h4 h5=>zH Vk la fa ok h1 (Nat.le_succ _) h2 h3 h4 h5;refine aZ (uU (kf:=kf) (j:=0) (P:=fun s=>oT st s f a R) (P':=fun s=>qY st s f a (R.length+1)) rfl (.inl ⟨Ki,P7⟩) (fun _ hp=>mN ?_) fun s8 h8=>?_)
  ·kspl_open hQ
   refine ⟨kY (by rw [bw hp.l];rfl),_,iJ hp.l,⟨by omega,by omega⟩,i1,zI (by rw [Wo];exact h1),cW r,by rw [Wx,er];rfl,hQ _ _ ⟨rfl,di (R':=R.eraseIdx i1) ⟨?_,hp.fd.ne (fun z=>fa z.symm),hp.k.loc la⟩ (fun r hr=>ok r (List.mem_of_mem_eraseIdx hr)) (by have:=List.length_eraseIdx_le R i1;omega)⟩⟩;rw [Wu (dz hp.l),Ir]
  refine aZ (uU (kf:=kf) (j:=1) (P:=fun s=>oT st s f a R) (P':=fun s=>qY st s f a (R.length+1)) rfl h8 (fun _ hp=>mN ?_) fun s9 h9=>?_)
  ·refine ck ?_
   intro dg hQ
   set_option simprocs false in simp only [bD,bw hp.l,md (g:=cW) er]
   refine ⟨kY (by rw [bw hp.l];rfl),?_⟩;rw [NA (iJ hp.l) (by omega) (by omega) (gZ (by rw [Wo];omega))];refine hQ _ _ ⟨rfl,di (R':=R.take i2 ++ r :: R.drop i2) ⟨?_,hp.fd.ne (fun z=>fa z.symm),hp.k.loc la⟩ (fun r' hr'=>?_) (by rw [Wt,WX,Xj,XU];omega)⟩
   ·rw [Wu (dz hp.l),WC,WL,WM,List.map_take,List.map_drop]
   ·rcases WS.mp hr' with h|h
    ·exact ok r' (List.mem_of_mem_take h)
    ·rcases WT.mp h with h|h
     ·rw [h];exact fK
     ·exact ok r' (List.mem_of_mem_drop h)
  refine aZ (uU (kf:=kf) (j:=2) (P:=fun s=>oT st s f a R) (P':=fun s=>qY st s f a (R.length+1)) rfl h9 (fun _ hp=>nW ?_) fun tG Vl=>?_)
  ·kspl_open hQ
   refine ⟨rfl,hQ _ _ ?_⟩;exact q5 (r':=⟨r.m,r.q,r.w,nu,r.t⟩) hp (new fK.w fK.m0 fK.oQ fK.pr fK.wl) rfl rfl fun s' h'=>⟨rfl,h'⟩
  refine aZ (uU (kf:=kf) (j:=3) (P:=fun s=>oT st s f a R) (P':=fun s=>qY st s f a (R.length+1)) rfl Vl (fun _ hp=>nW ?_) fun Vm h11=>?_)
  ·kspl_open hQ
   refine ⟨rfl,hQ _ _ ?_⟩;exact q5 (r':=⟨r.m,r.q,r.w,r.s,nu⟩) hp (new fK.w fK.m0 fK.oQ fK.pr fK.wl) rfl rfl fun s' h'=>⟨rfl,h'⟩
  refine aZ (uU (kf:=kf) (j:=4) (P:=fun s=>oT st s f a R) (P':=fun s=>qY st s f a (R.length+1)) rfl h11 (fun _ hp=>nW ?_) fun s12 h12=>?_)
  ·refine ck ?_
   intro dg hQ
   set_option simprocs false in simp only [bD,bw hp.l,md (g:=cW) G7,A0]
   refine ⟨rfl,hQ _ _ ?_⟩;exact q5 (r':=⟨r2.m,r2.q,r.w,r.s,r.t⟩) hp (new qZ.w qZ.m0 qZ.oQ fK.pr fK.wl) rfl rfl fun s' h'=>⟨rfl,h'⟩
  refine aZ (uU (kf:=kf) (j:=5) (P:=fun s=>oT st s f a R) (P':=fun s=>qY st s f a (R.length+1)) rfl h12 (fun _ hp=>nW ?_) fun V8 Vn=>?_)
  ·refine ck ?_
   intro dg hQ
   set_option simprocs false in simp only [bD,bw hp.l,md (g:=cW) G7,Kf]
   refine ⟨rfl,hQ _ _ ?_⟩;exact q5 (r':=⟨r.m,r.q,r2.w,r.s,r.t⟩) hp (new fK.w fK.m0 fK.oQ qZ.pr qZ.wl) rfl rfl fun s' h'=>⟨rfl,h'⟩
  refine aZ (uU (kf:=kf) (j:=6) (P:=fun s=>oT st s f a R) (P':=fun s=>qY st s f a (R.length+1)) rfl Vn (fun _ hp=>nW ?_) fun V9 Vo=>?_)
  ·kspl_open hQ
   refine bj (Ob (most:=6) (great:=4) hp.fd (by decide) (by decide) (by decide) (by decide)) ?_;rintro d t1 ⟨w,rfl,hw,wl,g1,e1⟩;refine ⟨rfl,hQ _ _ ?_⟩;exact q5 (r':=⟨r.m,r.q,w,r.s,r.t⟩) ⟨e1.keep _ _ hp.l (by simp;exact fun z=>fa z.symm),g1,hp.k.trans e1⟩ (new fK.w fK.m0 fK.oQ (fun s hs=>Oe (hw s hs)) (by omega)) rfl rfl fun s' h'=>⟨rfl,h'⟩
  refine aZ (uU (kf:=kf) (j:=7) (P:=fun s=>oT st s f a R) (P':=fun s=>qY st s f a (R.length+1)) rfl Vo (fun _ hp=>nW ?_) fun Kj Vp=>?_)
  ·kspl_open hQ
   refine bj (mH (n:=5) hp.fd (by decide) (by decide)) ?_;rintro d t1 ⟨n1,rfl,Vq,Vr,g1,e1⟩
   w_how
   obtain ⟨n',hn1⟩:∃n':Nat,(1:Int)+n1=(n':Int):=⟨(1+n1).toNat,by omega⟩;rw [hn1];refine bj (GS (n:=n') g1 (by omega) (by omega)) ?_;rintro d t2 ⟨xs,ys,rfl,fl,g2,e2⟩;refine ⟨rfl,hQ _ _ ?_⟩;exact q5 (r':=⟨n',(xs,ys),r.w,r.s,r.t⟩) ⟨(e1.trans e2).keep _ _ hp.l (by simp;exact fun z=>fa z.symm),g2,hp.k.trans (e1.trans e2)⟩ (new (G1 fl) (by omega) (by omega) fK.pr fK.wl) rfl rfl fun s' h'=>⟨rfl,h'⟩
  refine aZ (uU (kf:=kf) (j:=8) (P:=fun s=>oT st s f a R) (P':=fun s=>qY st s f a (R.length+1)) rfl Vp (fun _ hp=>nW ?_) fun Vs Vt=>?_)
  ·refine ck ?_
   intro dg hQ
   set_option simprocs false in simp only [bD,bw hp.l,md (g:=cW) er,md (g:=cW) G7]
   refine ⟨rfl,hQ _ _ ?_⟩;clear hQ;refine ck ?_;intro dg hQ
   set_option simprocs false in simp only [bD,FH,iJ hp.l]
   refine ⟨rfl,_,G6 (by rw [Wo];exact h1),?_⟩;have l1:(Kj.set a (.lst ((R.map cW).set i1 (cW r2))))[a]?=some (.lst ((R.set i1 r2).map cW)):=by rw [Wu (dz hp.l),XF]
   have P1:oT st (Kj.set a (.lst ((R.map cW).set i1 (cW r2)))) f a (R.set i1 r2):=⟨l1,hp.fd.ne (fun z=>fa z.symm),hp.k.loc la⟩;generalize Kj.set a (.lst ((R.map cW).set i1 (cW r2)))=t1 at P1 ⊢;have Kk:∀r∈R.set i1 r2,ag.fM r:=fun r' hr'=>by
    rcases XM hr' with h|h
    ·exact ok r' h
    ·rw [h];exact qZ
   refine ⟨_,iJ P1.l,_,G6 (by rw [Wo,W3];exact h2),hQ _ _ ⟨rfl,di (R':=(R.set i1 r2).set i2 r) ⟨?_,P1.fd.ne (fun z=>fa z.symm),P1.k.loc la⟩ (fun r' hr'=>?_) (by rw [W3,W3];omega)⟩⟩
   ·rw [Wu (dz P1.l)]
    simp only [XF]
   ·rcases XM hr' with h|h
    ·exact Kk r' h
    ·rw [h];exact fK
  have Vu:qY st Vs f a (R.length+1):=by
   rcases Vt with ⟨z,_⟩|⟨_,h⟩
   ·omega
   ·exact h
  obtain ⟨R',P,ok',len'⟩:=Vu;refine eo ?_;kspl_open hQ;exact ⟨_,bw P.l,hQ _ _ ⟨R',rfl,ok',len',P.fd,P.k⟩⟩
theorem zJ{xs:List Int}{n:Nat}(tx:ag.Tn n xs){v:Int}(v0:0<=v)(v1:v<(n:Int)):v∈xs:=tx.mem_iff.mpr (ag.lV.mpr ⟨v0,v1⟩)
theorem Vv{st:Store}{f n N:Nat}{p:ag.aR}{C:ag.CS}(hf:a5 st f)(F:ag.Full n p C N)(n0:0<n)(hn:n<=20)(hN:N<=60)(N0:0<N):Wp (D7 [.ref f,j5 (ag.bq n C N)] st) fun d st'=>∃R',d=j5 R'/\(∀r∈R',ag.fM r)/\R'.length<=N/\a5 st' f/\Ex [f] st st':=by
 have ok:=ag.JG F n0 hn hN;have hlen:(ag.bq n C N).length=N:=by unfold ag.bq;rw [Wo,X3]
 refine iT ?_;show Ws (GJ [some (.ref f),some (j5 (ag.bq n C N)),none,none,none,none,none,none,none,none,none,none,none] st) _ _ _ _;unfold GJ;refine aZ (b9 ?_);kspl_open hQ;refine bj (mH (n:=4) hf (by decide) (by decide)) ?_;rintro d s1 ⟨k,rfl,k0,k4,f1,k1⟩;refine hQ _ _ (aZ (b9 ?_));clear hQ;unfold j5;kspl_open hQ;rw [Wo,hlen];refine bj (AW (n:=N) f1 (by omega)) ?_;rintro d s2 ⟨xs,rfl,tx,f2,k2⟩
 w_how
 refine hQ _ _ ?_;clear hQ;obtain ⟨a,s3,ea,es,l3,f3,k3,la⟩:∃(a:Nat) (s3:Store),s2.length=a/\s2 ++ [O.lst (xs.map D.int)]=s3/\s3[a]?=some (.lst (xs.map D.int))/\a5 s3 f/\Ex [f] st s3/\st.length<=a:=⟨_,_,rfl,rfl,gG,f2.keep (Ex.cI _),(k1.trans k2).app _,(k1.trans k2).len⟩;rw [ea,es];have fa:f≠a:=by have:=hf.lt;omega
 refine aZ (rq (N:=fun δ s=>δ=[some (.ref f),some (.tup ((ag.bq n C N).map cW)),some (.int k),some (.ref a),none,none,none,none,none,none,none,none,none]/\∃zs,ag.Tn N zs/\s[a]?=some (.lst (zs.map D.int))/\a5 s f/\Ex [f] st s) (hJ ?_) ?_)
 ·kspl_open hQ
  refine hQ _ _ ⟨fun _=>aZ (mN ?_),fun _=>jd ⟨rfl,xs,tx,l3,f3,k3⟩⟩;clear hQ;have m0:(0:Int)∈xs:=zJ tx (by decide) (by omega);kspl_open hQ;refine ⟨kY (by rw [bw l3];rfl),?_⟩;rw [S5 (iJ l3) m0];have l4:(s3.set a (.lst ((xs.erase 0).map D.int)))[a]?=some (.lst ((xs.erase 0).map D.int)):=Wu (dz l3);have f4:a5 (s3.set a (.lst ((xs.erase 0).map D.int))) f:=f3.ne (fun z=>fa z.symm);have Ew:Ex [f] st (s3.set a (.lst ((xs.erase 0).map D.int))):=k3.loc la;generalize s3.set a (.lst ((xs.erase 0).map D.int))=s4 at l4 f4 Ew ⊢;refine hQ _ _ (mN ?_);clear hQ;kspl_open hQ;refine ⟨kY (by rw [bw l4];rfl),?_⟩;have le:(xs.erase 0).length<=100:=by have:=List.length_erase_le (a:=(0:Int)) (l:=xs);have:=tx.length;omega
  rw [NA (iJ l4) (by decide) (by decide) (gZ (by rw [Wo];omega))];refine hQ _ _ ⟨rfl,0 :: xs.erase 0,?_,?_,f4.ne (fun z=>fa z.symm),Ew.loc la⟩
  ·exact (Yc m0).symm.trans tx
  ·rw [Wu (dz l4)]
   rfl
 ·rintro δ s ⟨rfl,zs,tz,l4,f4,Ew⟩
  refine aZ (b9 ?_);kspl_open hQ;refine ⟨rfl,hQ _ _ ?_⟩;clear hQ;obtain ⟨b,s5,eb,es,lb,l5,f5,k5,ab,Vw⟩:∃(b:Nat) (s5:Store),s.length=b/\s ++ [O.lst []]=s5/\s5[b]?=some (.lst (([]:List ag.Ro).map cW))/\s5[a]?=some (.lst (zs.map D.int))/\a5 s5 f/\Ex [f] st s5/\a<b/\st.length<=b:=⟨_,_,rfl,rfl,gG,iI l4,f4.keep (Ex.cI _),Ew.app _,dz l4,Ew.len⟩;rw [eb,es];have fb:f≠b:=by have:=hf.lt;omega
  have lz:=tz.length;refine aZ (FG (zs.map D.int) a (fun i δ s=>∃(v5 v6 v7 v8 v9 v10 v11 G8:Option D) (R':List ag.Ro),δ=[some (.ref f),some (.tup ((ag.bq n C N).map cW)),some (.int k),some (.ref a),some (.ref b),v5,v6,v7,v8,v9,v10,v11,G8]/\s[b]?=some (.lst (R'.map cW))/\s[a]?=some (.lst (zs.map D.int))/\R'.length=i/\(∀r∈R',ag.fM r)/\a5 s f/\Ex [f] st s) ?_ (by rw [Wo];omega) ?_ ?_ ?_)
  ·refine ck ?_
   intro dg hQ
   set_option simprocs false in simp only [bD,bw l5]
   exact hQ _ _ ⟨rfl,_,_,_,_,_,_,_,_,[],rfl,lb,l5,rfl,(fun r hr=>nomatch hr),f5,k5⟩
  ·rintro i δ s ⟨v5,v6,v7,v8,v9,v10,v11,G8,R',rfl,hb,ha,_⟩
   exact bw ha
  ·rintro i d δ s hd ⟨v5,v6,v7,v8,v9,v10,v11,G8,R',rfl,hb,ha,hR,lK,fs,ks⟩
   have hi:i<zs.length:=by have:=dz hd;rw [Wo] at this;exact this
   rw [Wx,Wr hi] at hd;have hz:=tz.bound (Xk hi);generalize zs[i]=z at hd hz;cases hd;obtain ⟨j,rfl⟩:∃j:Nat,z=(j:Int):=⟨z.toNat,by omega⟩;have hj:j<(ag.bq n C N).length:=by omega
   have er:(ag.bq n C N)[j]?=some (ag.bq n C N)[j]:=Wr hj;have hr:(ag.bq n C N)[j]∈ag.bq n C N:=Xk hj;have fK:=ok _ hr;have eg:=(ag.FP er).2;have lk:=ag.NI F (i:=j) (by omega);generalize (ag.bq n C N)[j]=r at er fK eg;have em:r.m=n:=by rw [eg]
   have es':r.s=((ag.zf C j).1:Int):=by rw [eg];rfl
   have et':r.t=((ag.zf C j).2:Int):=by rw [eg];rfl
   kspl_open hQ;refine hQ _ _ (aZ (nW ?_));clear hQ;refine ck ?_;intro dg hQ
   set_option simprocs false in simp only [bD,md (g:=cW) er]
   refine hQ _ _ ?_;clear hQ;rw [show cW r=D.tup [aO r.q,wD r.w,D.int r.s,D.int r.t] from rfl];kspl_open hQ;refine ⟨rfl,hQ _ _ (aZ (b9 ?_))⟩;clear hQ;have lq:=fK.w.v.1.length;unfold aO cv;kspl_open hQ;rw [Wo,lq];refine bj (AW (n:=r.m) fs (by have:=fK.oQ;omega)) ?_;rintro d t1 ⟨g,rfl,tg,Vx,e1⟩;refine hQ _ _ (aZ (b9 ?_));clear hQ;kspl_open hQ;refine bj (mH (n:=5) Vx (by decide) (by decide)) ?_;rintro d t2 ⟨kk,rfl,Wa,Wb,Ig,e2⟩
   w_how
   refine hQ _ _ (aZ (b9 ?_));clear hQ;unfold wD;kspl_open hQ;refine bj (mH (n:=3) Ig (by decide) (by decide)) ?_;rintro d t3 ⟨wy,rfl,Wc,Wd,Vy,e3⟩
   w_how
   obtain ⟨y,hy,y3⟩:∃y:Nat,(wy*if decide (((r.w.map bN).length:Int)<11)=true then 1 else 0)=(y:Int)/\y<3:=by
    split
    ·exact ⟨wy.toNat,by omega,by omega⟩
    ·exact ⟨0,by omega,by omega⟩
   rw [hy];refine ⟨.inl ⟨by omega,by omega⟩,hQ _ _ (aZ (b9 ?_))⟩;clear hQ;have wl:=fK.wl;have Wf:r.w.length<=N:=by
    rw [eg];exact (ag.zg F (by omega)).2
   kspl_open hQ;refine ⟨rfl,rfl,rfl,gZ (by rw [Wo];show 2+_<=_;omega),rfl,rfl,rfl,gZ (by rw [Wo];show _+2<=_;omega),rfl,?_⟩;obtain ⟨w',Ox,Vz,VA⟩:∃w':List fV,eW [D.tup (r.w.map bN),D.tup ([D.tup [D.str (Str.ofString "s"),D.int (1+kk)],D.tup [D.str (Str.ofString "s"),D.int (0-(1+kk))]] ++ r.w.map bN),D.tup (r.w.map bN ++ [D.tup [D.str (Str.ofString "t"),D.int 1],D.tup [D.str (Str.ofString "t"),D.int 3]])] (y:Int)=some (wD w')/\(∀s∈w',ag.gX s)/\w'.length<=1000:=by
    rcases (show y=0\/y=1\/y=2 by omega) with rfl|rfl|rfl
    ·exact ⟨r.w,rfl,fK.pr,fK.wl⟩
    ·refine ⟨[(true,1+kk),(true,0-(1+kk))] ++ r.w,?_,fun s hs=>?_,by show r.w.length+2<=1000;omega⟩
     ·unfold wD;rw [WL];rfl
     ·rcases WS.mp hs with h|h
      ·simp only [WT,Ye,or_false] at h
       rcases h with rfl|rfl
       ·exact ⟨fun z=>(nomatch z),by show (1+kk:Int)≠0;omega⟩
       ·exact ⟨fun z=>(nomatch z),by show (0-(1+kk):Int)≠0;omega⟩
      ·exact fK.pr s h
    ·refine ⟨r.w ++ [(false,1),(false,3)],?_,fun s hs=>?_,by rw [Wt];show r.w.length+2<=1000;omega⟩
     ·unfold wD;rw [WL];rfl
     ·rcases WS.mp hs with h|h
      ·exact fK.pr s h
      ·simp only [WT,Ye,or_false] at h
       rcases h with rfl|rfl
       ·exact ⟨fun _=>by decide,by decide⟩
       ·exact ⟨fun _=>by decide,by decide⟩
   refine ⟨_,Ox,hQ _ _ (mN ?_)⟩;clear hQ Ox;have nt:=iI (m:=[O.lst [D.tup (r.w.map bN),D.tup ([D.tup [D.str (Str.ofString "s"),D.int (1+kk)],D.tup [D.str (Str.ofString "s"),D.int (0-(1+kk))]] ++ r.w.map bN),D.tup (r.w.map bN ++ [D.tup [D.str (Str.ofString "t"),D.int 1],D.tup [D.str (Str.ofString "t"),D.int 3]])]]) (((e1.trans e2).trans e3).keep _ _ hb (by simp;omega));have oS:=iI (m:=[O.lst [D.tup (r.w.map bN),D.tup ([D.tup [D.str (Str.ofString "s"),D.int (1+kk)],D.tup [D.str (Str.ofString "s"),D.int (0-(1+kk))]] ++ r.w.map bN),D.tup (r.w.map bN ++ [D.tup [D.str (Str.ofString "t"),D.int 1],D.tup [D.str (Str.ofString "t"),D.int 3]])]]) (((e1.trans e2).trans e3).keep _ _ ha (by simp;omega));have Oy:=Vy.keep (Ex.cI [O.lst [D.tup (r.w.map bN),D.tup ([D.tup [D.str (Str.ofString "s"),D.int (1+kk)],D.tup [D.str (Str.ofString "s"),D.int (0-(1+kk))]] ++ r.w.map bN),D.tup (r.w.map bN ++ [D.tup [D.str (Str.ofString "t"),D.int 1],D.tup [D.str (Str.ofString "t"),D.int 3]])]]);have e4:Ex [f] st (t3 ++ [O.lst [D.tup (r.w.map bN),D.tup ([D.tup [D.str (Str.ofString "s"),D.int (1+kk)],D.tup [D.str (Str.ofString "s"),D.int (0-(1+kk))]] ++ r.w.map bN),D.tup (r.w.map bN ++ [D.tup [D.str (Str.ofString "t"),D.int 1],D.tup [D.str (Str.ofString "t"),D.int 3]])]]):=(ks.trans ((e1.trans e2).trans e3)).app _;generalize t3 ++ [O.lst [D.tup (r.w.map bN),D.tup ([D.tup [D.str (Str.ofString "s"),D.int (1+kk)],D.tup [D.str (Str.ofString "s"),D.int (0-(1+kk))]] ++ r.w.map bN),D.tup (r.w.map bN ++ [D.tup [D.str (Str.ofString "t"),D.int 1],D.tup [D.str (Str.ofString "t"),D.int 3]])]]=t4 at nt oS Oy e4 ⊢;kspl_open hQ;refine ⟨kY (by rw [bw nt];rfl),?_⟩;refine bj (JX (xs:=r.q.1) (ys:=r.q.2) (p:=g) fK.w.v.1 fK.w.v.2 tg (by have:=fK.oQ;omega)) ?_;rintro d t5 ⟨rfl,e5⟩;have wH:=e5.keep _ _ nt (by simp);have uT:=e5.keep _ _ oS (by simp);have zb:∀i∈zs,-1000000000000000000<=i/\i<=1000000000000000000:=fun i hi=>by have:=tz.bound hi;omega
   have ms:r.s∈zs:=zJ tz (by rw [es'];omega) (by rw [es'];omega);have mt:r.t∈zs:=zJ tz (by rw [et'];omega) (by rw [et'];omega);refine ⟨kY (by rw [bw uT];rfl),?_⟩;rw [Jk (bw uT) ms (by omega) zb];refine ⟨kY (by rw [bw uT];rfl),?_⟩;rw [Jk (bw uT) mt (by omega) zb];have al:ag.bO r.m r.q (ag.anew r.q.1 g,ag.anew r.q.2 g):=⟨g,tg,rfl⟩;refine ⟨rfl,_,iJ wH,gZ (by rw [Wo];omega),hQ _ _ ⟨_,_,_,_,_,_,_,_,R' ++ [⟨r.m,(ag.anew r.q.1 g,ag.anew r.q.2 g),w',(zs.idxOf r.s:Int),(zs.idxOf r.t:Int)⟩],rfl,?_,?_,by rw [Wt,hR];rfl,fun r' hr'=>?_,(Oy.keep e5).ne (fun z=>fb z.symm),(e4.trans e5.any).loc Vw⟩⟩
   ·rw [Wu (dz wH),WL];rfl
   ·rw [Wz (by omega)];exact uT
   ·rcases WS.mp hr' with h|h
    ·exact lK r' h
    ·rw [WK.mp h]
     exact ⟨J3 fK.w fK.m0 al,fK.m0,fK.oQ,Vz,VA⟩
  ·rintro δ s ⟨v5,v6,v7,v8,v9,v10,v11,G8,R',rfl,hb,ha,hR,lK,fs,ks⟩
   rw [Wo] at hR;refine eo ?_;kspl_open hQ;exact ⟨_,bw hb,hQ _ _ ⟨R',rfl,lK,by omega,fs,ks⟩⟩
theorem VB{st:Store}{f:Nat}(hf:a5 st f):Wp (D5 [.ref f] st) fun d _=>d=.bl true:=by
 refine iT ?_;show Ws (GI [some (.ref f),none,none,none,none,none,none,none,none,none,none,none,none] st) _ _ _ _;unfold GI;refine aZ (b9 ?_);kspl_open hQ;refine bj (mH (n:=3) hf (by decide) (by decide)) ?_;rintro d s1 ⟨kf,rfl,Ki,Wg,f1,k1⟩;refine hQ _ _ (aZ (b9 ?_));clear hQ;kspl_open hQ;refine bj (mH (n:=4) f1 (by decide) (by decide)) ?_;rintro d s2 ⟨w1,rfl,LH,Wi,f2,k2⟩
 w_how
 refine hQ _ _ (aZ (b9 ?_));clear hQ;kspl_open hQ;obtain ⟨p0,hp0,e1,e2,o1,o2,o3⟩:∃q∈ag.Co,aA 1 (2+w1-1).toNat ++ [D.int 0] ++ aA (2+w1) (6-(2+w1)).toNat=q.1.map D.int/\[D.int (2+w1)] ++ aA 1 (2+w1-1).toNat ++ aA (2+w1+1) (6-(2+w1+1)).toNat ++ [D.int 0]=q.2.map D.int/\lK 1 (2+w1)=true/\lK (2+w1) 6=true/\lK (2+w1+1) 6=true:=by
  rcases (show w1=0\/w1=1\/w1=2\/w1=3 by omega) with rfl|rfl|rfl|rfl
  ·exact ⟨_,.head _,rfl,rfl,rfl,rfl,rfl⟩
  ·exact ⟨_,.tail _ (.head _),rfl,rfl,rfl,rfl,rfl⟩
  ·exact ⟨_,.tail _ (.tail _ (.head _)),rfl,rfl,rfl,rfl,rfl⟩
  ·exact ⟨_,.tail _ (.tail _ (.tail _ (.head _))),rfl,rfl,rfl,rfl,rfl⟩
 have w0:=ag.wm hp0;refine ⟨o1,rfl,gZ (by rw [fH];show _+1<=_;omega),o2,gZ (by rw [Wt,fH,fH];show _+1+_<=_;omega),hQ _ _ (aZ (b9 ?_))⟩;clear hQ;rw [e1];obtain ⟨a,s3,ea,es,l3,k3⟩:∃(a:Nat) (s3:Store),List.length (s2 ++ [O.gS 1 (2+w1)] ++ [O.lst (aA 1 (2+w1-1).toNat)] ++ [O.lst [D.int 0]] ++ [O.lst (aA 1 (2+w1-1).toNat ++ [D.int 0])] ++ [O.gS (2+w1) 6] ++ [O.lst (aA (2+w1) (6-(2+w1)).toNat)])=a/\(s2 ++ [O.gS 1 (2+w1)] ++ [O.lst (aA 1 (2+w1-1).toNat)] ++ [O.lst [D.int 0]] ++ [O.lst (aA 1 (2+w1-1).toNat ++ [D.int 0])] ++ [O.gS (2+w1) 6] ++ [O.lst (aA (2+w1) (6-(2+w1)).toNat)] ++ [O.lst (p0.1.map D.int)])=s3/\s3[a]?=some (.lst (p0.1.map D.int))/\Ex [] s2 s3:=⟨_,_,rfl,rfl,gG,(((((((Ex.refl.app _).app _).app _).app _).app _).app _).app _)⟩;rw [ea,es];have f3:=f2.keep k3;kspl_open hQ;refine ⟨rfl,o1,gZ (by rw [fH];show 1+_<=_;omega),o3,gZ (by rw [Wt,fH,fH];show 1+_+_<=_;omega),rfl,gZ (by rw [Wt,Wt,fH,fH];show 1+_+_+1<=_;omega),hQ _ _ ?_⟩;clear hQ;rw [e2];obtain ⟨b,s4,eb,es,l4,VC,k4⟩:∃(b:Nat) (s4:Store),List.length (s3 ++ [O.lst [D.int (2+w1)]] ++ [O.gS 1 (2+w1)] ++ [O.lst (aA 1 (2+w1-1).toNat)] ++ [O.lst ([D.int (2+w1)] ++ aA 1 (2+w1-1).toNat)] ++ [O.gS (2+w1+1) 6] ++ [O.lst (aA (2+w1+1) (6-(2+w1+1)).toNat)] ++ [O.lst ([D.int (2+w1)] ++ aA 1 (2+w1-1).toNat ++ aA (2+w1+1) (6-(2+w1+1)).toNat)] ++ [O.lst [D.int 0]])=b/\(s3 ++ [O.lst [D.int (2+w1)]] ++ [O.gS 1 (2+w1)] ++ [O.lst (aA 1 (2+w1-1).toNat)] ++ [O.lst ([D.int (2+w1)] ++ aA 1 (2+w1-1).toNat)] ++ [O.gS (2+w1+1) 6] ++ [O.lst (aA (2+w1+1) (6-(2+w1+1)).toNat)] ++ [O.lst ([D.int (2+w1)] ++ aA 1 (2+w1-1).toNat ++ aA (2+w1+1) (6-(2+w1+1)).toNat)] ++ [O.lst [D.int 0]] ++ [O.lst (p0.2.map D.int)])=s4/\s4[b]?=some (.lst (p0.2.map D.int))/\s4[a]?=some (.lst (p0.1.map D.int))/\Ex [] s3 s4:=by
  have k:Ex [] s3 (s3 ++ [O.lst [D.int (2+w1)]] ++ [O.gS 1 (2+w1)] ++ [O.lst (aA 1 (2+w1-1).toNat)] ++ [O.lst ([D.int (2+w1)] ++ aA 1 (2+w1-1).toNat)] ++ [O.gS (2+w1+1) 6] ++ [O.lst (aA (2+w1+1) (6-(2+w1+1)).toNat)] ++ [O.lst ([D.int (2+w1)] ++ aA 1 (2+w1-1).toNat ++ aA (2+w1+1) (6-(2+w1+1)).toNat)] ++ [O.lst [D.int 0]]):=(((((((Ex.refl.app _).app _).app _).app _).app _).app _).app _).app _;exact ⟨_,_,rfl,rfl,gG,iI (k.keep _ _ l3 (by simp)),k.app _⟩
 rw [eb,es];have f4:=f3.keep k4;clear eb es ea o1 o2 o3 e1 e2;refine aZ (b9 ?_);kspl_open hQ;refine ⟨_,bw VC,_,bw l4,rfl,?_⟩;have e0:D.tup [D.tup (p0.1.map D.int),D.tup (p0.2.map D.int)]=aO p0:=rfl;rw [e0];refine bj (Ob (most:=4) (great:=3) f4 (by decide) (by decide) (by decide) (by decide)) ?_;rintro d s5 ⟨w,rfl,hw,wl,f5,k5⟩;have pw:∀s∈w,ag.gX s:=fun s hs=>Oe (hw s hs);refine bj (N9 (p:=p0) (w:=w) ⟨w0.v.1,w0.v.2⟩ (by decide) (J7 pw) (by omega)) ?_;rintro d s6 ⟨rfl,k6⟩;rw [J8];have wl:=w0.ld (by decide) (w:=w);refine hQ _ _ (aZ (b9 ?_));clear hQ;kspl_open hQ;rw [show (D.int 6)=.int ((6:Nat):Int) from rfl];refine bj (AW (n:=6) (f5.keep k6) (by decide)) ?_;rintro d s7 ⟨g,rfl,tg,f7,k7⟩;refine bj (JX (xs:=(ag.iF p0 w).1) (ys:=(ag.iF p0 w).2) (p:=g) wl.v.1 wl.v.2 tg (by decide)) ?_;rintro d s8 ⟨rfl,k8⟩;have al:ag.bO 6 (ag.iF p0 w) (ag.anew (ag.iF p0 w).1 g,ag.anew (ag.iF p0 w).2 g):=⟨g,tg,rfl⟩;have wp:=J3 wl (by decide) al;obtain ⟨N,F,pr,N2,hN⟩:=ag.Tf hp0 pw wp al;have f8:=f7.keep k8;have ep:cv (ag.anew (ag.iF p0 w).1 g) (ag.anew (ag.iF p0 w).2 g)=aO (ag.anew (ag.iF p0 w).1 g,ag.anew (ag.iF p0 w).2 g):=rfl;rw [ep];clear ep;refine hQ _ _ ?_;clear hQ;generalize ((ag.anew (ag.iF p0 w).1 g,ag.anew (ag.iF p0 w).2 g):ag.aR)=p at wp F pr ⊢;refine aZ (b9 ?_);kspl_open hQ;rw [show (D.int 60)=.int ((60:Nat):Int) from rfl];show Wp (tW [aO p,.int ((60:Nat):Int)] s8) _;refine bj (Om (most:=60) wp (by decide) (by decide) F pr (by omega) (by decide)) ?_;rintro d s9 ⟨rfl,k9⟩;generalize ag.ch 6 p N=C at F ⊢;have n0:0<6:=by decide
 have hlen:(ag.bq 6 C N).length=N:=by unfold ag.bq;rw [Wo,X3]
 have ok:=ag.JG F n0 (by decide) hN;rw [Ke 6 N C];unfold j5
 w_how
 refine hQ _ _ ?_;clear hQ;obtain ⟨c,tG,ec,es,Oz,Kl⟩:∃(c:Nat) (tG:Store),s9.length=c/\s9 ++ [O.lst ((ag.bq 6 C N).map cW)]=tG/\tG[c]?=some (.lst ((ag.bq 6 C N).map cW))/\a5 tG f:=⟨_,_,rfl,rfl,gG,(f8.keep k9).keep (Ex.cI _)⟩;have cf:c≠f:=by have:=(f8.keep k9).lt;omega
 rw [ec,es];refine aZ (b9 ?_);refine ck ?_;intro dg hQ
 set_option simprocs false in simp only [bD,bw Oz]
 rw [Wo,hlen];refine bj (mH (n:=(N:Int)) Kl (by omega) (by omega)) ?_;rintro d Vm ⟨i,rfl,i0,iN,OA,VD⟩;have Ey:=VD.keep _ _ Oz (by simp;exact cf);obtain ⟨i,rfl⟩:∃j:Nat,i=(j:Int):=⟨i.toNat,by omega⟩;refine hQ _ _ ?_;clear hQ;have OB:=ag.NK F n0 wp;refine aZ (rq (N:=fun δ s=>∃R,δ=[some (.ref f),some (.int kf),some (.int (2+w1)),some (.ref a),some (.ref b),some (aO p),some (.ref c),some (.int (i:Int)),none,none,none,none,none]/\s[c]?=some (.lst (R.map cW))/\a5 s f/\(∀r∈R,ag.fM r)/\(kf=1->R.length+1=N)/\(kf≠1->R=ag.bq 6 C N)) (hJ ?_) ?_)
 ·kspl_open hQ
  by_cases e:kf=1
  ·refine hQ _ _ ⟨fun _=>mN ?_,fun z=>absurd z (by simp [e])⟩
   clear hQ;have ne:ag.bq 6 C N≠[]:=fun z=>by rw [z] at hlen;simp at hlen;omega
   have el:(ag.bq 6 C N).map cW=(ag.bq 6 C N).dropLast.map cW ++ [cW ((ag.bq 6 C N).getLast ne)]:=by
    rw [<- List.map_singleton,<- WL,List.dropLast_concat_getLast ne]
   rw [el] at Ey;refine ck ?_;intro dg hQ
   set_option simprocs false in simp only [bD,Nv]
   refine ⟨kY (by rw [bw Ey];rfl),?_⟩;rw [ND (iJ Ey)];refine hQ _ _ ⟨(ag.bq 6 C N).dropLast,rfl,Wu (dz Ey),OA.ne cf,fun r hr=>ok r (List.dropLast_subset _ hr),fun _=>by rw [List.length_dropLast,hlen];omega,fun z=>absurd e z⟩
  ·exact hQ _ _ ⟨fun z=>absurd (of_decide_eq_true z) e,fun _=>jd ⟨_,rfl,Ey,OA,ok,fun z=>absurd z e,fun _=>rfl⟩⟩
 rintro δ s ⟨R,rfl,lR,fR,lK,h1,h2⟩;refine aZ (rq (N:=fun δ s=>∃(v8 v9 v10 v11:Option D) (R:List ag.Ro),δ=[some (.ref f),some (.int kf),some (.int (2+w1)),some (.ref a),some (.ref b),some (aO p),some (.ref c),some (.int (i:Int)),v8,v9,v10,v11,none]/\s[c]?=some (.lst (R.map cW))/\(∀r∈R,ag.fM r)/\R.length<=60/\(ag.Holds 6 p R↔kf=0)) (hJ ?_) ?_)
 ·kspl_open hQ
  by_cases e:kf=2
  ·refine hQ _ _ ⟨fun _=>aZ (nW ?_),fun z=>absurd z (by simp [e])⟩
   clear hQ;cases h2 (by omega);have hi:i<(ag.bq 6 C N).length:=by omega
   have er:(ag.bq 6 C N)[i]?=some (ag.bq 6 C N)[i]:=Wr hi;have hr:(ag.bq 6 C N)[i]∈ag.bq 6 C N:=Xk hi;have fK:=ok _ hr;have eg:=(ag.FP er).2;have lk:=ag.NI F (i:=i) (by omega);generalize hx:(ag.bq 6 C N)[i]=r at er fK eg;have es':r.s=((ag.zf C i).1:Int):=by rw [eg];rfl
   refine ck ?_;intro dg hQ
   set_option simprocs false in simp only [bD,bw lR,md (g:=cW) er]
   refine hQ _ _ ?_;clear hQ;rw [show cW r=D.tup [aO r.q,wD r.w,D.int r.s,D.int r.t] from rfl];kspl_open hQ;refine ⟨rfl,hQ _ _ (nW ?_)⟩;clear hQ;refine ck ?_;intro dg hQ
   set_option simprocs false in simp only [bD,bw lR]
   rw [Wo,hlen];refine bj (mH (n:=(N:Int)-1) fR (by omega) (by omega)) ?_;rintro d t1 ⟨k,rfl,k0,kN,g1,x1⟩;have lt:=x1.keep _ _ lR (by simp;exact cf)
   set_option simprocs false in simp only [bD,bw lt]
   rw [Wo,hlen];refine ⟨by omega,rfl,hQ _ _ ?_⟩;clear hQ;generalize hs':(r.s+1+k) % (N:Int)=s';have ne:s'≠r.s:=fun z=>by
    rw [<- hs'] at z;rcases Int.lt_or_le (r.s+1+k) N with h|h
    ·rw [Int.emod_eq_of_lt (by omega) h] at z;omega
    ·rw [show r.s+1+k=(r.s+1+k-N)+N by omega,Int.add_emod_right,Int.emod_eq_of_lt (by omega) (by omega)] at z;omega
   refine ck ?_;intro dg hQ
   set_option simprocs false in simp only [bD,FH,iJ lt]
   refine ⟨_,G6 (by rw [Wo];exact hi),hQ _ _ ⟨_,_,_,_,(ag.bq 6 C N).set i ⟨r.m,r.q,r.w,s',r.t⟩,rfl,?_,fun r' hr'=>?_,by rw [W3];omega,⟨fun H=>?_,fun z=>absurd (z.symm.trans e) (by decide)⟩⟩⟩
   ·rw [Wu (dz lt),XF];rfl
   ·rcases XM hr' with h|h
    ·exact ok r' h
    ·rw [h];exact ⟨fK.w,fK.m0,fK.oQ,fK.pr,fK.wl⟩
   ·exfalso
    have ef:((ag.bq 6 C N).set i ⟨r.m,r.q,r.w,s',r.t⟩).map ag.Ro.f=(ag.bq 6 C N).map ag.Ro.f:=by
     rw [XF];have:(ag.Ro.f ⟨r.m,r.q,r.w,s',r.t⟩)=((ag.bq 6 C N).map ag.Ro.f)[i]'(by rw [Wo];exact hi):=by rw [XW,hx];rfl
     rw [this,List.set_getElem_self]
    have a1:=(H.2 i ⟨r.m,r.q,r.w,s',r.t⟩ (by rw [Wu hi])).2.2.1;have a2:=(OB.2 i r er).2.2.1;rw [ef] at a1;have nd:((ag.bq 6 C N).map ag.Ro.f).Nodup:=by rw [ag.NJ F];exact F.r.nd
    have h3:=a1.2.2;have h4:=a2.2.2;obtain ⟨g1,g2⟩:=Wq.mp h3;obtain ⟨g3,g4⟩:=Wq.mp h4;have:=(List.getElem_inj nd).mp (g2.trans g4.symm);have b1:0<=s':=a1.1;have b2:=a2.1;have this:s'.toNat=r.s.toNat:=this;exact ne (by omega)
  ·refine hQ _ _ ⟨fun z=>absurd (of_decide_eq_true z) e,fun _=>jd ⟨_,_,_,_,R,rfl,lR,lK,?_,?_⟩⟩
   ·by_cases e1:kf=1
    ·have:=h1 e1;omega
    ·rw [h2 e1];omega
   ·by_cases e1:kf=1
    ·refine ⟨fun H=>?_,fun z=>absurd (z.symm.trans e1) (by decide)⟩
     have:=H.len n0 wp lK F;have:=h1 e1;omega
    ·rw [h2 e1]
     exact ⟨fun _=>by omega,fun _=>OB⟩
 rintro δ s ⟨v8,v9,v10,v11,R,rfl,lR,lK,few,hH⟩;refine aZ (b9 ?_);kspl_open hQ;refine ⟨_,bw lR,?_⟩;have eR:D.tup (R.map cW)=j5 R:=rfl;rw [eR];refine bj (Kh wp n0 (by decide) lK (by omega)) ?_;rintro d t1 ⟨⟨cc,rfl,hc⟩,k1⟩;refine hQ _ _ (eo ?_);clear hQ;refine ck ?_;intro dg hQ
 set_option simprocs false in simp only [bD,FE]
 rw [Nc (T:="bool") (cs:=["bool"]) (b:=true) rfl rfl rfl];refine ⟨_,rfl,?_⟩;simp only [if_true];rw [M8,if_neg WA];refine hQ _ _ ?_;have e:cc=decide (kf=0):=by
  rw [Xx,hc,hH,decide_eq_true_iff]
 rw [e,decide_eq_true rfl]
theorem OC{st:Store}{Q:D->Store->Prop}{p:ag.aR}:Wp (bh (aO p) (.int 0) st) Q↔Q (.tup (p.1.map D.int)) st:=bT
noncomputable def mz(e:Nat×ag.aR×List ag.Ro):D:=.tup [aO e.2.1,j5 e.2.2]
structure ph(e:Nat×ag.aR×List ag.Ro):Prop where
 w:ag.Wh e.1 e.2.1
 n0:0<e.1
 AY:e.1<=20
 ok:∀r∈e.2.2,ag.fM r
 few:e.2.2.length<=40
theorem tm(ns:List Int)(hns:ns.length<=63):Wp (JL [.ref 0] [.ot (ns.map D.int)]) fun d _=>d=.bl true:=by
 refine iT ?_;show Ws (GN [some (.ref 0),none,none,none,none,none,none,none,none,none,none,none] [.ot (ns.map D.int)]) _ _ _ _;unfold GN;have G9:([O.ot (ns.map D.int)]:Store)[0]?=some (.ot (ns.map D.int)):=rfl;generalize ([O.ot (ns.map D.int)]:Store)=lL at G9;refine aZ (b9 ?_);kspl_open hQ;rw [show (D.int 1)=.int ((1:Nat):Int) from rfl];refine bj (NT (a:=0) (ns:=ns) (k:=1) (Jh G9) (by decide)) ?_;rintro d t1 ⟨rfl,f1,k1⟩;have VE:0<lL.length:=dz G9;have h01:=k1.keep _ _ G9 (by simp);generalize lL.length=f at f1 VE;refine hQ _ _ (aZ (hJ ?_));clear hQ;kspl_open hQ;refine bj (mH (n:=32) f1 (by decide) (by decide)) ?_;rintro d t2 ⟨kf,rfl,Ki,VF,f2,k2⟩;have h02:=k2.keep _ _ h01 (by simp;omega)
 w_how
 refine hQ _ _ ⟨fun _=>eo ?_,fun _=>jd (aZ (b9 ?_))⟩
 ·clear hQ
  kspl_open hQ;refine bj (VB f2) ?_;rintro d t3 rfl;exact hQ _ _ rfl
 clear hQ;kspl_open hQ;refine bj (mH (n:=5) f2 (by decide) (by decide)) ?_;rintro d t3 ⟨n1,rfl,Vq,Vr,f3,k3⟩
 w_how
 obtain ⟨n,hn1⟩:∃n:Nat,(1:Int)+n1=(n:Int):=⟨(1+n1).toNat,by omega⟩;rw [hn1];refine bj (GS (n:=n) f3 (by omega) (by omega)) ?_;rintro d t4 ⟨xs,ys,rfl,fl,f4,k4⟩;have VG:=(k3.trans k4).keep _ _ h02 (by simp;omega);have wA:=G1 fl;refine hQ _ _ (aZ (b9 ?_));clear hQ;kspl_open hQ;rw [show (D.int 24)=.int ((24:Nat):Int) from rfl];refine bj (Oj (p:=(xs,ys)) (most:=24) wA (show 0<n by omega) (by omega) (by decide) (by decide)) ?_;rintro d t5 ⟨k5,hc⟩;have OD:=k5.keep _ _ VG (by simp);have f5:=f4.keep k5;refine hQ _ _ ?_;clear hQ;refine aZ (rq (N:=fun δ s=>∃(n N:Nat) (p:ag.aR),δ=[some (.ref 0),some (.ref f),some (aO p),some (tR (ag.ch n p N) N),none,none,none,none,none,none,none,none]/\ag.Wh n p/\0<n/\n<=5/\N<=24/\ag.Full n p (ag.ch n p N) N/\(∀j,j<N->j<(ag.ch n p j).1.length)/\s[0]?=some (.ot (ns.map D.int))/\a5 s f) (hJ ?_) ?_)
 ·kspl_open hQ
  rcases hc with ⟨N,Ha,hF,pr,rfl⟩|⟨rfl,i,pr,hi⟩
  ·obtain ⟨ds,OE⟩:∃ds,tR (ag.ch n (xs,ys) N) N=.tup ds:=⟨_,rfl⟩
   rw [OE,SS];exact ⟨_,rfl,hQ _ _ ⟨fun z=>(nomatch z),fun _=>jd ⟨n,N,(xs,ys),by rw [OE];rfl,wA,by omega,by omega,Ha,hF,pr,OD,f5⟩⟩⟩
  ·rw [SR]
   refine ⟨_,rfl,hQ _ _ ⟨fun _=>aZ (b9 ?_),fun z=>(nomatch z)⟩⟩;clear hQ;kspl_open hQ;refine bj (mH (n:=3) f5 (by decide) (by decide)) ?_;rintro d t6 ⟨n2,rfl,AY,Wj,f6,k6⟩
   w_how
   obtain ⟨n',hn2⟩:∃n':Nat,(1:Int)+n2=(n':Int):=⟨(1+n2).toNat,by omega⟩;rw [hn2];refine bj (GS (n:=n') f6 (by omega) (by omega)) ?_;rintro d t7 ⟨xs',ys',rfl,J1,f7,k7⟩;have Km:=(k6.trans k7).keep _ _ OD (by simp;omega);have wB:=G1 J1;refine hQ _ _ (b9 ?_);clear hQ;kspl_open hQ;rw [show (D.int 24)=.int ((24:Nat):Int) from rfl];refine bj (Oj (p:=(xs',ys')) (most:=24) wB (show 0<n' by omega) (by omega) (by decide) (by decide)) ?_;rintro d t8 ⟨k8,hc'⟩;have Kn:=k8.keep _ _ Km (by simp);rcases hc' with ⟨N,Ha,hF,AZ,rfl⟩|⟨rfl,j,AZ,hj⟩
   ·exact hQ _ _ ⟨n',N,(xs',ys'),rfl,wB,by omega,by omega,Ha,hF,AZ,Kn,f7.keep k8⟩
   ·have g:=ag.wg (by omega) wB j AZ
    have:=ag.Tc (n:=n') (by omega) (by omega) g.r.nd g.r.own;omega
 rintro δ s ⟨n,N,p,rfl,w0,n0,n5,Ha,F,pr,h0,hf⟩;have qI:=fun s=>Om (st:=s) (most:=60) w0 n0 (by omega) F pr (by omega) (by decide);generalize ag.ch n p N=C at F qI ⊢;have N0:0<N:=by rw [<- F.fl];exact (Wq.mp F.r.hd).1
 have hlen:(ag.bq n C N).length=N:=by unfold ag.bq;rw [Wo,X3]
 have ok:=ag.JG F n0 (by omega) (by omega);rw [Ke n N C];refine aZ (b9 ?_);have lq:=w0.v.1.length;refine ck ?_;intro dg hQ
 set_option simprocs false in simp only [bD,OC]
 rw [Wo,lq];refine bj (AW (n:=n) hf (by omega)) ?_;rintro d s1 ⟨g,rfl,tg,f1,x1⟩;refine bj (JX (xs:=p.1) (ys:=p.2) (p:=g) w0.v.1 w0.v.2 tg (by omega)) ?_;rintro d s2 ⟨rfl,x2⟩;have wN:=J3 w0 n0 ⟨g,tg,rfl⟩;have eN:cv (ag.anew p.1 g) (ag.anew p.2 g)=aO (ag.anew p.1 g,ag.anew p.2 g):=rfl;rw [eN];generalize ((ag.anew p.1 g,ag.anew p.2 g):ag.aR)=pn at wN ⊢;have h2:=(x1.trans x2.any).keep _ _ h0 (by simp;omega);have f2:=f1.keep x2;refine hQ _ _ (aZ (b9 ?_));clear hQ;kspl_open hQ;refine ⟨rfl,rfl,?_⟩;refine bj (Vv f2 F n0 (by omega) (by omega) N0) ?_;rintro d s3 ⟨R1,rfl,Kk,Ko,f3,x3⟩;have h3:=x3.keep _ _ h2 (by simp;omega);refine ⟨rfl,rfl,rfl,rfl,hQ _ _ ?_⟩;clear hQ;have E0:ph (n,p,ag.bq n C N):=⟨w0,n0,by show n<=20;omega,ok,by show (ag.bq n C N).length<=40;omega⟩;have E1:ph (n,pn,ag.bq n C N):=⟨wN,n0,by show n<=20;omega,ok,by show (ag.bq n C N).length<=40;omega⟩;have E2:ph (n,p,R1):=⟨w0,n0,by show n<=20;omega,Kk,by show R1.length<=40;omega⟩;have E3:ph (n,p,[]):=⟨w0,n0,by show n<=20;omega,(fun r hr=>nomatch hr),W9 _⟩;obtain ⟨a,s4,ea,es,l4,h4,f4⟩:∃(a:Nat) (s4:Store),s3.length=a/\s3 ++ [O.lst [D.tup [aO p,j5 (ag.bq n C N)],D.tup [aO pn,j5 (ag.bq n C N)],D.tup [aO p,j5 R1],D.tup [aO p,D.tup []]]]=s4/\s4[a]?=some (.lst ([(n,p,ag.bq n C N),(n,pn,ag.bq n C N),(n,p,R1),(n,p,[])].map mz))/\s4[0]?=some (.ot (ns.map D.int))/\a5 s4 f:=⟨_,_,rfl,rfl,gG,iI h3,f3.keep (Ex.cI _)⟩;have a0:0<a:=by have:=dz h3;omega
 have af:a≠f:=by have:=f3.lt;omega
 rw [ea,es];refine aZ (mN ?_);refine ck ?_;intro dg hQ
 set_option simprocs false in simp only [bD,OC]
 rw [Wo,lq];refine ⟨kY (by rw [bw l4];rfl),?_⟩;refine bj (GS (n:=n) f4 (by omega) (by omega)) ?_;rintro d s5 ⟨us,vs,rfl,fm,f5,x5⟩;have l5:=x5.keep _ _ l4 (by simp;exact af);have h5:=x5.keep _ _ h4 (by simp;omega);have wM:=G1 fm;have E4:ph (n,(us,vs),ag.bq n C N):=⟨wM,n0,by show n<=20;omega,ok,by show (ag.bq n C N).length<=40;omega⟩
 set_option simprocs false in simp only [bD,iJ l5]
 refine ⟨rfl,rfl,hQ _ _ ?_⟩;clear hQ;have l6:(s5.set a (.lst ([(n,p,ag.bq n C N),(n,pn,ag.bq n C N),(n,p,R1),(n,p,[])].map mz ++ [D.tup [cv us vs,j5 (ag.bq n C N)]])))[a]?=some (.lst ([(n,p,ag.bq n C N),(n,pn,ag.bq n C N),(n,p,R1),(n,p,[]),(n,(us,vs),ag.bq n C N)].map mz)):=Wu (dz l5);have h6:(s5.set a (.lst ([(n,p,ag.bq n C N),(n,pn,ag.bq n C N),(n,p,R1),(n,p,[])].map mz ++ [D.tup [cv us vs,j5 (ag.bq n C N)]])))[0]?=some (.ot (ns.map D.int)):=by rw [Wz (by omega)];exact h5
 generalize s5.set a (.lst ([(n,p,ag.bq n C N),(n,pn,ag.bq n C N),(n,p,R1),(n,p,[])].map mz ++ [D.tup [cv us vs,j5 (ag.bq n C N)]]))=s6 at l6 h6 ⊢
 obtain ⟨A2,OG,Wk,OH⟩:∃es:List (Nat×ag.aR×List ag.Ro),[(n,p,ag.bq n C N),(n,pn,ag.bq n C N),(n,p,R1),(n,p,[]),(n,(us,vs),ag.bq n C N)]=es/\es.length=5/\∀e∈es,ph e:=⟨_,rfl,rfl,fun e he=>by
  simp only [WT,Ye,or_false] at he
  rcases he with rfl|rfl|rfl|rfl|rfl<;>assumption⟩
 have Kq:∀(k:Nat),k<3->∃(q:ag.aR) (R:List ag.Ro),A2[k]?=some (n,q,R)/\R.length<=N:=fun k hk=>by
  rw [<- OG];rcases (show k=0\/k=1\/k=2 by omega) with rfl|rfl|rfl
  ·exact ⟨_,_,rfl,by omega⟩
  ·exact ⟨_,_,rfl,by omega⟩
  ·exact ⟨_,_,rfl,Ko⟩
 rw [OG] at l6;obtain ⟨m,hm,VH⟩:∃m:Nat,(if (if (ns.length:Int)<9 then (ns.length:Int) else 9) > 5 then (if (ns.length:Int)<9 then (ns.length:Int) else 9) else 5)=(m:Int)+2/\m<=10:=by
  refine ⟨((if (if (ns.length:Int)<9 then (ns.length:Int) else 9) > 5 then (if (ns.length:Int)<9 then (ns.length:Int) else 9) else 5)-2).toNat,?_,?_⟩<;>split<;>split<;>omega
 refine aZ (mO (aA 2 m) (fun i δ s=>∃(v1 v6 v7 v8:Option D) (es:List (Nat×ag.aR×List ag.Ro)),δ=[some (.ref 0),v1,some (aO p),some (j5 (ag.bq n C N)),some (aO pn),some (.ref a),v6,v7,v8,none,none,none]/\s[0]?=some (.ot (ns.map D.int))/\s[a]?=some (.lst ((A2 ++ es).map mz))/\es.length=i/\∀e∈es,ph e) ?_ (by rw [fH];omega) ?_ ?_)
 ·refine ck ?_
  intro dg hQ
  set_option simprocs false in simp only [bD,Jh h6]
  rw [Wo,hm];exact ⟨2,(m:Int)+2,⟨rfl,rfl⟩,⟨⟨by decide,by decide⟩,by omega,by omega⟩,hQ _ _ ⟨by rw [show ((m:Int)+2-2).toNat=m by omega],_,_,_,_,[],rfl,h6,by rw [Xy];exact l6,rfl,(fun e he=>nomatch he)⟩⟩
 ·rintro i d δ s hd ⟨v1,v6,v7,v8,es,rfl,h0,la,le,hes⟩
  have hil:=dz hd;rw [fH] at hil;rw [yg hil] at hd;cases hd;kspl_open hQ;refine hQ _ _ (aZ (b9 ?_));clear hQ;kspl_open hQ;rw [show (2:Int)+(i:Int)=((2+i:Nat):Int) by omega];refine bj (NT (a:=0) (ns:=ns) (k:=2+i) (Jh h0) (by omega)) ?_;rintro d s7 ⟨rfl,f7,x7⟩;have Km:=x7.keep _ _ h0 (by simp);have VI:=x7.keep _ _ la (by simp);have Ik:s.length≠0:=by have:=dz h0;omega
  have Hb:a≠s.length:=by have:=dz la;omega
  generalize s.length=f' at f7 Ik Hb;refine hQ _ _ (aZ (b9 ?_));clear hQ;kspl_open hQ;refine bj (mH (n:=3) f7 (by decide) (by decide)) ?_;rintro d s8 ⟨k,rfl,k0,k3,f8,x8⟩;have Kn:=x8.keep _ _ Km (by simp;omega);have OI:=x8.keep _ _ VI (by simp;exact Hb);obtain ⟨k,rfl⟩:∃j:Nat,k=(j:Int):=⟨k.toNat,by omega⟩;obtain ⟨q,R0,hk,zK⟩:=Kq k (by omega);have hk2:(A2 ++ es)[k]?=some (n,q,R0):=by rw [WG (Wq.mp hk).1];exact hk
  have Kr:=(OH _ (Ww hk)).ok
  set_option simprocs false in simp only [bD,bw OI,md (g:=mz) hk2]
  rw [show mz (n,q,R0)=D.tup [aO q,j5 R0] from rfl]
  w_how
  refine hQ _ _ ?_;clear hQ;obtain ⟨d9,s9,e9,k4,rfl,Wl,Wm,f9,x9⟩:=mH (n:=3) f8 (by decide) (by decide);obtain ⟨y,hy⟩:∃y:Nat,1+k4=(y:Int):=⟨(1+k4).toNat,by omega⟩;have VJ:=x9.keep _ _ Kn (by simp;omega);have VL:=x9.keep _ _ OI (by simp;exact Hb);refine aZ (mO (aA 0 y) (fun j δ s=>∃(v8:Option D) (R:List ag.Ro),δ=[some (.ref 0),some (.ref f'),some (aO p),some (j5 (ag.bq n C N)),some (aO pn),some (.ref a),some (.int (2+(i:Int))),some (j5 R),v8,none,none,none]/\(∀r∈R,ag.fM r)/\R.length<=N+j/\a5 s f'/\s[0]?=some (.ot (ns.map D.int))/\s[a]?=some (.lst ((A2 ++ es).map mz))) ?_ (by rw [fH];omega) ?_ ?_)
  ·kspl_open hQ
   refine ⟨_,_,e9,?_⟩
   w_how
   rw [hy];exact ⟨by omega,hQ _ _ ⟨by rw [WC],_,R0,rfl,Kr,by omega,f9,VJ,VL⟩⟩
  ·rintro j d δ s hd ⟨v8,R,rfl,lK,zK,fs,h0,la⟩
   have hj:=dz hd;rw [fH] at hj;kspl_open hQ;refine hQ _ _ (b9 ?_);clear hQ;kspl_open hQ;refine bj (Vg fs w0 n0 (by omega) lK (by omega)) ?_;rintro d tG ⟨R',rfl,ok',len',Kl,OJ⟩;exact hQ _ _ ⟨_,R',rfl,ok',by omega,Kl,OJ.keep _ _ h0 (by simp;omega),OJ.keep _ _ la (by simp;exact Hb)⟩
  ·rintro δ s ⟨v8,R,rfl,lK,zK,fs,h0,la⟩
   rw [fH] at zK;refine mN ?_;refine ck ?_;intro dg hQ
   set_option simprocs false in simp only [bD,iJ la]
   refine ⟨kY (by rw [bw la];rfl),rfl,gZ (by rw [Wo,Wt];omega),hQ _ _ ⟨_,_,_,_,es ++ [(n,p,R)],rfl,?_,?_,by rw [Wt,le];rfl,fun e he=>?_⟩⟩
   ·rw [Wz (by omega)];exact h0
   ·rw [Wu (dz la),<- XI,WL (l₁:=A2 ++ es)];rfl
   ·rcases WS.mp he with h|h
    ·exact hes e h
    ·rw [WK.mp h]
     exact ⟨w0,n0,by show n<=20;omega,lK,by show R.length<=40;omega⟩
 ·rintro δ s ⟨v1,v6,v7,v8,es,rfl,h0,la,le,hes⟩
  rw [fH] at le;generalize hall:A2 ++ es=al at la;have Ez:∀e∈al,ph e:=fun e he=>by
   rw [<- hall] at he;rcases WS.mp he with h|h
   ·exact OH e h
   ·exact hes e h
  have Wn:al.length<=20:=by rw [<- hall,Wt];omega
  have hcl:(al.map mz ++ cutD (al.map mz) none (some 1)).length<=100:=by
   rw [Wt];have:=SG (al.map mz) none (some 1);rw [Wo] at this ⊢;omega
  have hin:∀d∈al.map mz ++ cutD (al.map mz) none (some 1),∃e∈al,d=mz e:=fun d hd=>by
   have:d∈al.map mz:=by
    rcases WS.mp hd with h|h
    ·exact h
    ·exact SF h
   obtain ⟨w,hw,rfl⟩:=WB.mp this;exact ⟨w,hw,rfl⟩
  refine aZ (FG (al.map mz ++ cutD (al.map mz) none (some 1)) (s.length+1) (fun i δ s'=>∃(v9 v10 v11:Option D),δ=[some (.ref 0),v1,some (aO p),some (j5 (ag.bq n C N)),some (aO pn),some (.ref a),v6,v7,v8,v9,v10,v11]/\s'[s.length+1]?=some (.lst (al.map mz ++ cutD (al.map mz) none (some 1)))) ?_ (by omega) ?_ ?_ ?_)
  ·refine ck ?_
   intro dg hQ
   set_option simprocs false in simp only [bD,bw la]
   rw [Wt] at hcl;refine ⟨_,iJ (iI la),gZ (by omega),?_⟩;rw [show (s ++ [O.lst (cutD (al.map mz) none (some 1))]).length=s.length+1 from Wt];refine hQ _ _ ⟨rfl,_,_,_,rfl,?_⟩;have:=gG (l:=s ++ [O.lst (cutD (al.map mz) none (some 1))]) (o:=O.lst (al.map mz ++ cutD (al.map mz) none (some 1)))
   rwa [show (s ++ [O.lst (cutD (al.map mz) none (some 1))]).length=s.length+1 from Wt] at this
  ·rintro i δ s' ⟨v9,v10,v11,rfl,h⟩
   exact bw h
  ·rintro i d δ s1 hd ⟨v9,v10,v11,rfl,hL⟩
   obtain ⟨e,he,rfl⟩:=hin d (Ww hd);obtain ⟨we,ne,AY,OL,VM⟩:=Ez e he;unfold mz;kspl_open hQ;refine ⟨rfl,hQ _ _ (aZ (b9 ?_))⟩;clear hQ;kspl_open hQ;refine bj (Kh we ne AY OL (by omega)) ?_;rintro d s2 ⟨⟨c,rfl,hc⟩,k2⟩;refine hQ _ _ (hJ ?_);clear hQ;kspl_open hQ;rw [Nc (T:="bool") (cs:=["bool"]) (b:=true) rfl rfl rfl];refine ⟨_,rfl,?_⟩;simp only [Bool.not_true,WR,if_false];refine bj (Vd we ne AY OL (by omega)) ?_;rintro d s3 ⟨⟨c',rfl,hc'⟩,k3⟩;have ec:c'=c:=by rw [Xx,hc',hc]
   subst ec;rw [M8];exact ⟨_,rfl,hQ _ _ ⟨fun z=>absurd z (by simp),fun _=>jd ⟨_,_,_,rfl,(k2.trans k3).keep _ _ hL (by simp)⟩⟩⟩
  ·rintro δ s1 ⟨v9,v10,v11,rfl,hL⟩
   refine eo ?_;kspl_open hQ;rw [show (D.int 60)=.int ((60:Nat):Int) from rfl];show Wp (tW [aO p,.int ((60:Nat):Int)] s1) _;refine bj (qI s1) ?_;rintro d s2 ⟨rfl,k2⟩;rw [Ke n N C];refine bj (Kh w0 n0 (by omega) ok (by omega)) ?_;rintro d s3 ⟨⟨c,rfl,hc⟩,k3⟩;rw [hc.mpr (ag.NK F n0 w0),y8];exact hQ _ _ rfl
theorem zL{P:Program}{w:World}{K:Zfr}{mg:Str->Option Value}{base:Heap}(T:Txt mg){ni:V}(lO:tu K mg "QUARTER" ni (.tup [(.str "t"),(.int 1)])){pX:V}(oI:tu K mg "SHEAR" pX (.tup [(.str "s"),(.int 1)])){jA:Addr}{jB:FuncData}(gM:Def K mg "_law_feed" Ds ["_law_script","_law_k"] jA jB){aS:Addr}{aT:FuncData}(aC:Def K mg "_law_take" sY ["_law_feed_here","_law_many"] aS aT){a8:Addr}{a9:FuncData}(aU:Def K mg "_law_turning" wt ["_law_feed_here","_law_n"] a8 a9){ko:Addr}{kq:FuncData}(i6:Def K mg "_law_met" Dt ["_law_floor_here"] ko kq){de:Addr}{df:FuncData}(cy:Def K mg "_law_floor" Ay ["_law_feed_here","_law_n"] de df){eG:Addr}{eI:FuncData}(eJ:Def K mg "_law_numbered" Dw ["_law_floor_here","_law_s"] eG eI){dP:Addr}{dQ:FuncData}(cu:Def K mg "_law_form" Az ["_law_floor_here"] dP dQ){fZ:Addr}{gb:FuncData}(gf:Def K mg "_law_behind" Dy ["_law_turning_here","_law_s","_law_k"] fZ gb){bH:Addr}{bI:FuncData}(bJ:Def K mg "_law_stepped" zi ["_law_floor_here","_law_step"] bH bI){hV:Addr}{hW:FuncData}(h7:Def K mg "_law_plain" Dz ["_law_word_here"] hV hW){iu:Addr}{iw:FuncData}(fJ:Def K mg "_law_chart" DA ["_law_floor_here","_law_most"] iu iw){cC:Addr}{cD:FuncData}(cE:Def K mg "_law_anew" zm ["_law_floor_here","_law_p"] cC cD){e8:Addr}{fe:FuncData}(ff:Def K mg "_law_led" AG ["_law_floor_here","_law_word_here"] e8 fe){bY:Addr}{bZ:FuncData}(b5:Def K mg "turned_back" zo ["turning"] bY bZ){eY:Addr}{eZ:FuncData}(c4:Def K mg "followed" AH ["one","other"] eY eZ){gg:Addr}{gh:FuncData}(gi:Def K mg "called_anew" DC ["floor","p"] gg gh){fA:Addr}{fB:FuncData}(fD:Def K mg "squares_from" DF ["floor","s"] fA fB){dG:Addr}{dH:FuncData}(dI:Def K mg "numbering_from" DH ["floor","s"] dG dH){eK:Addr}{eM:FuncData}(eO:Def K mg "numbered_from" DJ ["floor","s"] eK eM){cg:Addr}{cj:FuncData}(bR:Def K mg "form_of" uN ["floor"] cg cj){kA:Addr}{kC:FuncData}(ja:Def K mg "has_form" DK ["forms","number","floor"] kA kC){jn:Addr}{jq:FuncData}(jr:Def K mg "ring_from" DM ["turning","first"] jn jq){ku:Addr}{ky:FuncData}(kz:Def K mg "rings_of" DO ["turning"] ku ky){oD:Addr}{oE:FuncData}(oG:Def K mg "often" DQ ["turning","k"] oD oE){gJ:Addr}{gK:FuncData}(gL:Def K mg "sheared" AK ["floor","k"] gJ gK){dR:Addr}{dS:FuncData}(dU:Def K mg "quartered" AL ["floor"] dR dS){gj:Addr}{gk:FuncData}(gn:Def K mg "led_by_step" DT ["floor","step"] gj gk){ju:Addr}{jv:FuncData}(jw:Def K mg "led_by" AO ["floor","word"] ju jv){jx:Addr}{jy:FuncData}(jz:Def K mg "row_holds" DW ["floor","row","forms"] jx jy){cQ:Addr}{cR:FuncData}(cx:Def K mg "chart_holds" AQ ["floor","chart"] cQ cR){dW:Addr}{dX:FuncData}(dY:Def K mg "_law_word" AR ["_law_feed_here","_law_most","_law_great"] dW dX){mQ:Addr}{mS:FuncData}(mT:Def K mg "joined" DY ["one","other"] mQ mS){ie:Addr}{ig:FuncData}(ik:Def K mg "made_plain" D0 ["word"] ie ig){fE:Addr}{fF:FuncData}(fG:Def K mg "put_together" D3 ["one","other"] fE fF){il:Addr}{ip:FuncData}(fI:Def K mg "row_led_to" D4 ["forms","words","place","step"] il ip){fj:Addr}{fq:FuncData}(cK:qP K mg "chart_of" AU ["floor","most"] [V.int 60] fj fq){kF:Addr}{kG:FuncData}(kH:Def K mg "_law_far" D6 ["_law_feed_here"] kF kG){cT:Addr}{cU:FuncData}(cV:Def K mg "_law_turned_about" D8 ["_law_feed_here","_law_chart_here"] cT cU){dJ:Addr}{dM:FuncData}(dN:Def K mg "_law_otherwise" Ea ["_law_feed_here","_law_floor_here","_law_chart_here"] dJ dM){iz:Addr}{iA:FuncData}(iB:Def K mg "_law_shown" Ec ["_law_floor_here","_law_chart_here"] iz iA){EA:Addr}{EB:FuncData}(Ks:Def K mg "law" GO ["_law_script"] EA EB):aJ P w K mg base bG 10 EA EB ["_law_script"] (bP K 1 JL):=by
 have jC:=To (P:=P) (w:=w) (base:=base) gM T;have aD:=Tp (P:=P) (w:=w) (base:=base) aC T;have aY:=Tq (P:=P) (w:=w) (base:=base) aU T  aC aD;have kr:=Tr (P:=P) (w:=w) (base:=base) i6 T;have cN:=Ts (P:=P) (w:=w) (base:=base) cy T  aC aD aU aY i6 kr;have gH:=Tt (P:=P) (w:=w) (base:=base) eJ T;have cB:=Tw (P:=P) (w:=w) (base:=base) cu T  eJ gH;have jl:=Tx (P:=P) (w:=w) (base:=base) gf T;have bX:=Tz (P:=P) (w:=w) (base:=base) bJ T  gf jl;have jZ:=TB (P:=P) (w:=w) (base:=base) h7 T;have iy:=TC (P:=P) (w:=w) (base:=base) fJ T  cu cB bJ bX h7 jZ;have cP:=TH (P:=P) (w:=w) (base:=base) cE T;have gq:=TJ (P:=P) (w:=w) (base:=base) ff T  bJ bX;have cm:=TK (P:=P) (w:=w) (base:=base) b5 T;have dr:=TM (P:=P) (w:=w) (base:=base) c4 T;have jm:=TN (P:=P) (w:=w) (base:=base) gi T  b5 cm c4 dr;have iK:=TQ (P:=P) (w:=w) (base:=base) fD T;have fN:=TU (P:=P) (w:=w) (base:=base) dI T  b5 cm fD iK;have gI:=TX (P:=P) (w:=w) (base:=base) eO T  gi jm dI fN;have b6:=T1 (P:=P) (w:=w) (base:=base) bR T  eO gI;have kD:=T3 (P:=P) (w:=w) (base:=base) ja T  bR b6;have lj:=T5 (P:=P) (w:=w) (base:=base) jr T;have l9:=T6 (P:=P) (w:=w) (base:=base) kz T  jr lj;have pW:=T7 (P:=P) (w:=w) (base:=base) oG T  kz l9;have i9:=T9 (P:=P) (w:=w) (base:=base) gL T  c4 dr oG pW;have e7:=Ub (P:=P) (w:=w) (base:=base) dU T  b5 cm;have jt:=Uc (P:=P) (w:=w) (base:=base) gn T  gL i9 dU e7;have kE:=Ud (P:=P) (w:=w) (base:=base) jw T  gn jt;have lp:=Ug (P:=P) (w:=w) (base:=base) jz T  bR b6 ja kD jw kE gL i9 dU e7;have cS:=Uh (P:=P) (w:=w) (base:=base) cx T  bR b6 jz lp;have fg:=Ui (P:=P) (w:=w) (base:=base) dY T  aC aD;have oH:=Uj (P:=P) (w:=w) (base:=base) mT T;have j3:=Uk (P:=P) (w:=w) (base:=base) ik T  mT oH;have iL:=Uo (P:=P) (w:=w) (base:=base) fG T  ik j3;have iq:=Up (P:=P) (w:=w) (base:=base) fI T  bR b6 jw kE fG iL;have gs:=Uq (P:=P) (w:=w) (base:=base) cK T lO oI bR b6 fI iq;have ma:=Ur (P:=P) (w:=w) (base:=base) kH T  aC aD ff gq cE cP cx cS dY fg aU aY cK gs;have dZ:=Us (P:=P) (w:=w) (base:=base) cV T  aC aD aU aY cE cP;have fO:=Ut (P:=P) (w:=w) (base:=base) dN T  aC aD dY fg cy cN;have j4:=Uu (P:=P) (w:=w) (base:=base) iB T  cu cB ff gq bJ bX;have Kt:=zu (P:=P) (w:=w) (base:=base) Ks T  gM jC cy cN fJ iy cE cP aC aD kH ma aU aY cx cS cV dZ dN fO cK gs iB j4;exact Kt
end My
open PySem PySem.W PyProof.Rows L2
namespace PySem.W.Fast
theorem tw10157865982991005940:True:=⟨⟩
theorem tw1017846909263439808:True:=⟨⟩
theorem tw10288466148792269918:True:=⟨⟩
theorem tw10334992502665085207:True:=⟨⟩
theorem tw10552298545958162935:True:=⟨⟩
theorem tw10594641039366237459:True:=⟨⟩
theorem tw1068843740542024298:True:=⟨⟩
theorem tw10771758187745374645:True:=⟨⟩
theorem tw10927847321987815879:True:=⟨⟩
theorem tw10974628459804777329:True:=⟨⟩
theorem tw10998654388900353860:True:=⟨⟩
theorem tw1100691844118431814:True:=⟨⟩
theorem tw11027864282725872270:True:=⟨⟩
theorem tw11154524643225989608:True:=⟨⟩
theorem tw11248720400255819171:True:=⟨⟩
theorem tw11409769452319945024:True:=⟨⟩
theorem tw11449329988265902760:True:=⟨⟩
theorem tw11504965140811787776:True:=⟨⟩
theorem tw11522318701099094723:True:=⟨⟩
theorem tw11535063250680743365:True:=⟨⟩
theorem tw11589773019062307187:True:=⟨⟩
theorem tw11607550394615178104:True:=⟨⟩
theorem tw11770193451337340211:True:=⟨⟩
theorem tw11811866541845225480:True:=⟨⟩
theorem tw11876329421704279247:True:=⟨⟩
theorem tw1197282940220405901:True:=⟨⟩
theorem tw11994371236481530168:True:=⟨⟩
theorem tw12095583569501901909:True:=⟨⟩
theorem tw12166839618245884871:True:=⟨⟩
theorem tw12258776045903880061:True:=⟨⟩
theorem tw12322488575026333221:True:=⟨⟩
theorem tw12363712649059025465:True:=⟨⟩
theorem tw12506542803378037531:True:=⟨⟩
theorem tw1269047335605529907:True:=⟨⟩
theorem tw12723740792122272879:True:=⟨⟩
theorem tw12735634204649175966:True:=⟨⟩
theorem tw12755064466665710866:True:=⟨⟩
theorem tw12760795947845441393:True:=⟨⟩
theorem tw12771420519742911536:True:=⟨⟩
theorem tw12919729573702388528:True:=⟨⟩
theorem tw12938757880041811212:True:=⟨⟩
theorem tw13031200279183335367:True:=⟨⟩
theorem tw13451567716989451534:True:=⟨⟩
theorem tw13556811182271377582:True:=⟨⟩
theorem tw13618508034610514020:True:=⟨⟩
theorem tw13648909536422180649:True:=⟨⟩
theorem tw13700624489861722646:True:=⟨⟩
theorem tw13715874403269694812:True:=⟨⟩
theorem tw13944363653806647757:True:=⟨⟩
theorem tw14257805897318741868:True:=⟨⟩
theorem tw14286215048106301334:True:=⟨⟩
theorem tw14300684550537273799:True:=⟨⟩
theorem tw1438502769023336860:True:=⟨⟩
theorem tw14405441187940687676:True:=⟨⟩
theorem tw14451256767451534563:True:=⟨⟩
theorem tw1447750680237239123:True:=⟨⟩
theorem tw14504769666835085260:True:=⟨⟩
theorem tw14510555351889895739:True:=⟨⟩
theorem tw14568851599195741461:True:=⟨⟩
theorem tw14797621968696596574:True:=⟨⟩
theorem tw14910838918960856192:True:=⟨⟩
theorem tw14942329898004429046:True:=⟨⟩
theorem tw15095858685597353508:True:=⟨⟩
theorem tw15124834006026148492:True:=⟨⟩
theorem tw15160651945775810004:True:=⟨⟩
theorem tw15226593740038357481:True:=⟨⟩
theorem tw15438183903824956283:True:=⟨⟩
theorem tw15607245240681951066:True:=⟨⟩
theorem tw15642403520342366200:True:=⟨⟩
theorem tw15674488251225435934:True:=⟨⟩
theorem tw15730118174482976320:True:=⟨⟩
theorem tw157902175898298042:True:=⟨⟩
theorem tw16118535212593098231:True:=⟨⟩
theorem tw16159429023804391290:True:=⟨⟩
theorem tw1617638846666996095:True:=⟨⟩
theorem tw16184906784858465409:True:=⟨⟩
theorem tw16213201074835169737:True:=⟨⟩
theorem tw16252067930154788025:True:=⟨⟩
theorem tw1634109209526788199:True:=⟨⟩
theorem tw16397362055754653944:True:=⟨⟩
theorem tw16479997694387854064:True:=⟨⟩
theorem tw16569303439592678414:True:=⟨⟩
theorem tw1657151814066990719:True:=⟨⟩
theorem tw16581212154358298545:True:=⟨⟩
theorem tw16594942954678126222:True:=⟨⟩
theorem tw16635234507309424943:True:=⟨⟩
theorem tw1696279602264485148:True:=⟨⟩
theorem tw17072539537715529799:True:=⟨⟩
theorem tw17173642593284516967:True:=⟨⟩
theorem tw17185534796695292150:True:=⟨⟩
theorem tw17198895427834952853:True:=⟨⟩
theorem tw17222592429706676611:True:=⟨⟩
theorem tw17251161044176560964:True:=⟨⟩
theorem tw17272999479574945793:True:=⟨⟩
theorem tw17386893294210677740:True:=⟨⟩
theorem tw17421115925491197928:True:=⟨⟩
theorem tw17578642808879530301:True:=⟨⟩
theorem tw17581473689922696718:True:=⟨⟩
theorem tw17592092323125763534:True:=⟨⟩
theorem tw17629742855425712675:True:=⟨⟩
theorem tw1803697817264945527:True:=⟨⟩
theorem tw18050244064804392299:True:=⟨⟩
theorem tw18119913543727281600:True:=⟨⟩
theorem tw18208698475868842928:True:=⟨⟩
theorem tw1821932018710414455:True:=⟨⟩
theorem tw18240717370546042252:True:=⟨⟩
theorem tw18404842150882976191:True:=⟨⟩
theorem tw18413111622669344922:True:=⟨⟩
theorem tw18431486077674271567:True:=⟨⟩
theorem tw2194066487672770597:True:=⟨⟩
theorem tw2370036887074699229:True:=⟨⟩
theorem tw247569421308920334:True:=⟨⟩
theorem tw2614733322876194706:True:=⟨⟩
theorem tw2627076007136084203:True:=⟨⟩
theorem tw2628991909873912034:True:=⟨⟩
theorem tw2700197746025157667:True:=⟨⟩
theorem tw2744756906266700429:True:=⟨⟩
theorem tw2748471731853290025:True:=⟨⟩
theorem tw2753196430887090612:True:=⟨⟩
theorem tw2893354022388027740:True:=⟨⟩
theorem tw2897969975298467867:True:=⟨⟩
theorem tw2914580091293159424:True:=⟨⟩
theorem tw3053205040401162065:True:=⟨⟩
theorem tw3215138049910608124:True:=⟨⟩
theorem tw3255762836203335734:True:=⟨⟩
theorem tw3335960877134558201:True:=⟨⟩
theorem tw3379665851838830365:True:=⟨⟩
theorem tw3472255338259351215:True:=⟨⟩
theorem tw3594967036189272986:True:=⟨⟩
theorem tw381216110823860384:True:=⟨⟩
theorem tw3818101162888200858:True:=⟨⟩
theorem tw3880217486768017472:True:=⟨⟩
theorem tw4247756980784596119:True:=⟨⟩
theorem tw4502869222209390151:True:=⟨⟩
theorem tw4703638855145037947:True:=⟨⟩
theorem tw4729730827918511171:True:=⟨⟩
theorem tw4787363609897743527:True:=⟨⟩
theorem tw4844028360282787254:True:=⟨⟩
theorem tw5187774797573146765:True:=⟨⟩
theorem tw5296450481134014236:True:=⟨⟩
theorem tw5563522900274981621:True:=⟨⟩
theorem tw5774007101537174164:True:=⟨⟩
theorem tw5963122707935427230:True:=⟨⟩
theorem tw6049507567080835418:True:=⟨⟩
theorem tw6581516994385251103:True:=⟨⟩
theorem tw6598897233841193856:True:=⟨⟩
theorem tw6628708565343967275:True:=⟨⟩
theorem tw6722084199044720261:True:=⟨⟩
theorem tw685821608019174518:True:=⟨⟩
theorem tw7093173204245384044:True:=⟨⟩
theorem tw7209270744942607872:True:=⟨⟩
theorem tw7217771597055325495:True:=⟨⟩
theorem tw726194922852757245:True:=⟨⟩
theorem tw7480890898351502347:True:=⟨⟩
theorem tw750780707844859627:True:=⟨⟩
theorem tw7734395504261115886:True:=⟨⟩
theorem tw777233764855093910:True:=⟨⟩
theorem tw7791538498444722915:True:=⟨⟩
theorem tw783827460432401221:True:=⟨⟩
theorem tw8102243112781244343:True:=⟨⟩
theorem tw8133931822969875134:True:=⟨⟩
theorem tw8215456720472719440:True:=⟨⟩
theorem tw8346229856322321424:True:=⟨⟩
theorem tw8615771017320605751:True:=⟨⟩
theorem tw8662442984771994573:True:=⟨⟩
theorem tw874064469790440941:True:=⟨⟩
theorem tw8757541307970975060:True:=⟨⟩
theorem tw9117210845668713277:True:=⟨⟩
theorem tw9252984681547427194:True:=⟨⟩
theorem tw9306650855135031712:True:=⟨⟩
theorem tw9344603432187625478:True:=⟨⟩
theorem tw9368326508215522225:True:=⟨⟩
theorem tw9389043500400700502:True:=⟨⟩
theorem tw9632200358531346222:True:=⟨⟩
theorem tw9778873435324385801:True:=⟨⟩
theorem tw9843269822763613143:True:=⟨⟩
theorem tw9901012621977410598:True:=⟨⟩
theorem tw991546832466527709:True:=⟨⟩
end PySem.W.Fast
set_option maxRecDepth 100000 in
set_option maxHeartbeats 0 in
theorem PySem.Challenge.cw_shearfloor_k28_charts_looked_at_holds : PySem.Challenge.rw_shearfloor_k28_charts_looked_at.Holds := by
 w_on;o_law;k_head;(case hw=>w_witness2)
 k_fill
 refine L2.PQ (l:=PySem.Challenge.rw_shearfloor_k28_charts_looked_at) (n:=63) (k:=10) (x:="_law_script") (CX:=bG) (sp:=L4.vT) rfl (by decide) rfl ⟨rfl,by decide,by decide,rfl⟩ (fun w h Y=>PySem.W.kIn_of Y) ?F ?S ?C
 case F =>
  intro w mg fa h KX G hmg;have T:My.Txt mg:=by
   refine' ⟨tD KX G ?z0,tD KX G ?z1,tD KX G ?z2,tD KX G ?z3,tD KX G ?z4,tD KX G ?z5,tD KX G ?z6,tD KX G ?z7,tD KX G ?z8,tD KX G ?z9⟩
   (case z0=>k_is);(case z1=>k_is);(case z2=>k_is);(case z3=>k_is);(case z4=>k_is);(case z5=>k_is);(case z6=>k_is);(case z7=>k_is);(case z8=>k_is);(case z9=>k_is)
  have mf:∃v,L4.tu (L2.KOf KX) mg "QUARTER" v (.tup [(.str "t"),(.int 1)]):=by
   dsimp only [L2.KOf];refine' L4.Nm (vs:=[V.str "t",V.int 1]) KX G ?a ?l ?o ?z ?v ?d
   (case a=>k_is);(case l=>k_is);(case o=>rfl);(case z=>decide);(case v=>exact (.cons ⟨_,rfl⟩ (.cons ⟨_,rfl⟩ .nil)));(case d=>exact fun ρ H=>(.cons (.str _) (.cons (.int _) .nil)))
  obtain ⟨_,mf⟩:=mf;have oJ:∃v,L4.tu (L2.KOf KX) mg "SHEAR" v (.tup [(.str "s"),(.int 1)]):=by
   dsimp only [L2.KOf];refine' L4.Nm (vs:=[V.str "s",V.int 1]) KX G ?a ?l ?o ?z ?v ?d
   (case a=>k_is);(case l=>k_is);(case o=>rfl);(case z=>decide);(case v=>exact (.cons ⟨_,rfl⟩ (.cons ⟨_,rfl⟩ .nil)));(case d=>exact fun ρ H=>(.cons (.str _) (.cons (.int _) .nil)))
  obtain ⟨_,oJ⟩:=oJ;have j6:∃f fd,Def (L2.KOf KX) mg "_law_feed" My.Ds ["_law_script","_law_k"] f fd:=by
   dsimp only [L2.KOf];refine' jb KX G (fun _ _ _ _ _ _=>My.mP fun _ _=>rfl) ?a ?l ?c ?k
   (case a=>k_is);(case l=>k_is);(case c=>k_is);(case k=>k_is)
  obtain ⟨_,_,j6⟩:=j6;have j7:∃f fd,Def (L2.KOf KX) mg "_law_take" My.sY ["_law_feed_here","_law_many"] f fd:=by
   dsimp only [L2.KOf];refine' jb KX G (fun _ _ _ _ _ _=>My.mP fun _ _=>rfl) ?a ?l ?c ?k
   (case a=>k_is);(case l=>k_is);(case c=>k_is);(case k=>k_is)
  obtain ⟨_,_,j7⟩:=j7;have gO:∃f fd,Def (L2.KOf KX) mg "_law_turning" My.wt ["_law_feed_here","_law_n"] f fd:=by
   dsimp only [L2.KOf];refine' jb KX G (fun _ _ _ _ _ _=>My.mP fun _ _=>rfl) ?a ?l ?c ?k
   (case a=>k_is);(case l=>k_is);(case c=>k_is);(case k=>k_is)
  obtain ⟨_,_,gO⟩:=gO;have lu:∃f fd,Def (L2.KOf KX) mg "_law_met" My.Dt ["_law_floor_here"] f fd:=by
   dsimp only [L2.KOf];refine' jb KX G (fun _ _ _ _ _ _=>My.tU fun _=>rfl) ?a ?l ?c ?k
   (case a=>k_is);(case l=>k_is);(case c=>k_is);(case k=>k_is)
  obtain ⟨_,_,lu⟩:=lu;have jD:∃f fd,Def (L2.KOf KX) mg "_law_floor" My.Ay ["_law_feed_here","_law_n"] f fd:=by
   dsimp only [L2.KOf];refine' jb KX G (fun _ _ _ _ _ _=>My.mP fun _ _=>rfl) ?a ?l ?c ?k
   (case a=>k_is);(case l=>k_is);(case c=>k_is);(case k=>k_is)
  obtain ⟨_,_,jD⟩:=jD;have fP:∃f fd,Def (L2.KOf KX) mg "_law_numbered" My.Dw ["_law_floor_here","_law_s"] f fd:=by
   dsimp only [L2.KOf];refine' jb KX G (fun _ _ _ _ _ _=>My.mP fun _ _=>rfl) ?a ?l ?c ?k
   (case a=>k_is);(case l=>k_is);(case c=>k_is);(case k=>k_is)
  obtain ⟨_,_,fP⟩:=fP;have j8:∃f fd,Def (L2.KOf KX) mg "_law_form" My.Az ["_law_floor_here"] f fd:=by
   dsimp only [L2.KOf];refine' jb KX G (fun _ _ _ _ _ _=>My.tU fun _=>rfl) ?a ?l ?c ?k
   (case a=>k_is);(case l=>k_is);(case c=>k_is);(case k=>k_is)
  obtain ⟨_,_,j8⟩:=j8;have iM:∃f fd,Def (L2.KOf KX) mg "_law_behind" My.Dy ["_law_turning_here","_law_s","_law_k"] f fd:=by
   dsimp only [L2.KOf];refine' jb KX G (fun _ _ _ _ _ _=>My.Dq fun _ _ _=>rfl) ?a ?l ?c ?k
   (case a=>k_is);(case l=>k_is);(case c=>k_is);(case k=>k_is)
  obtain ⟨_,_,iM⟩:=iM;have gP:∃f fd,Def (L2.KOf KX) mg "_law_stepped" My.zi ["_law_floor_here","_law_step"] f fd:=by
   dsimp only [L2.KOf];refine' jb KX G (fun _ _ _ _ _ _=>My.mP fun _ _=>rfl) ?a ?l ?c ?k
   (case a=>k_is);(case l=>k_is);(case c=>k_is);(case k=>k_is)
  obtain ⟨_,_,gP⟩:=gP;have jE:∃f fd,Def (L2.KOf KX) mg "_law_plain" My.Dz ["_law_word_here"] f fd:=by
   dsimp only [L2.KOf];refine' jb KX G (fun _ _ _ _ _ _=>My.tU fun _=>rfl) ?a ?l ?c ?k
   (case a=>k_is);(case l=>k_is);(case c=>k_is);(case k=>k_is)
  obtain ⟨_,_,jE⟩:=jE;have jF:∃f fd,Def (L2.KOf KX) mg "_law_chart" My.DA ["_law_floor_here","_law_most"] f fd:=by
   dsimp only [L2.KOf];refine' jb KX G (fun _ _ _ _ _ _=>My.mP fun _ _=>rfl) ?a ?l ?c ?k
   (case a=>k_is);(case l=>k_is);(case c=>k_is);(case k=>k_is)
  obtain ⟨_,_,jF⟩:=jF;have j9:∃f fd,Def (L2.KOf KX) mg "_law_anew" My.zm ["_law_floor_here","_law_p"] f fd:=by
   dsimp only [L2.KOf];refine' jb KX G (fun _ _ _ _ _ _=>My.mP fun _ _=>rfl) ?a ?l ?c ?k
   (case a=>k_is);(case l=>k_is);(case c=>k_is);(case k=>k_is)
  obtain ⟨_,_,j9⟩:=j9;have lx:∃f fd,Def (L2.KOf KX) mg "_law_led" My.AG ["_law_floor_here","_law_word_here"] f fd:=by
   dsimp only [L2.KOf];refine' jb KX G (fun _ _ _ _ _ _=>My.mP fun _ _=>rfl) ?a ?l ?c ?k
   (case a=>k_is);(case l=>k_is);(case c=>k_is);(case k=>k_is)
  obtain ⟨_,_,lx⟩:=lx;have iO:∃f fd,Def (L2.KOf KX) mg "turned_back" My.zo ["turning"] f fd:=by
   dsimp only [L2.KOf];refine' jb KX G (fun _ _ _ _ _ _=>My.tU fun _=>rfl) ?a ?l ?c ?k
   (case a=>k_is);(case l=>k_is);(case c=>k_is);(case k=>k_is)
  obtain ⟨_,_,iO⟩:=iO;have lA:∃f fd,Def (L2.KOf KX) mg "followed" My.AH ["one","other"] f fd:=by
   dsimp only [L2.KOf];refine' jb KX G (fun _ _ _ _ _ _=>My.mP fun _ _=>rfl) ?a ?l ?c ?k
   (case a=>k_is);(case l=>k_is);(case c=>k_is);(case k=>k_is)
  obtain ⟨_,_,lA⟩:=lA;have iP:∃f fd,Def (L2.KOf KX) mg "called_anew" My.DC ["floor","p"] f fd:=by
   dsimp only [L2.KOf];refine' jb KX G (fun _ _ _ _ _ _=>My.mP fun _ _=>rfl) ?a ?l ?c ?k
   (case a=>k_is);(case l=>k_is);(case c=>k_is);(case k=>k_is)
  obtain ⟨_,_,iP⟩:=iP;have gQ:∃f fd,Def (L2.KOf KX) mg "squares_from" My.DF ["floor","s"] f fd:=by
   dsimp only [L2.KOf];refine' jb KX G (fun _ _ _ _ _ _=>My.mP fun _ _=>rfl) ?a ?l ?c ?k
   (case a=>k_is);(case l=>k_is);(case c=>k_is);(case k=>k_is)
  obtain ⟨_,_,gQ⟩:=gQ;have ft:∃f fd,Def (L2.KOf KX) mg "numbering_from" My.DH ["floor","s"] f fd:=by
   dsimp only [L2.KOf];refine' jb KX G (fun _ _ _ _ _ _=>My.mP fun _ _=>rfl) ?a ?l ?c ?k
   (case a=>k_is);(case l=>k_is);(case c=>k_is);(case k=>k_is)
  obtain ⟨_,_,ft⟩:=ft;have fQ:∃f fd,Def (L2.KOf KX) mg "numbered_from" My.DJ ["floor","s"] f fd:=by
   dsimp only [L2.KOf];refine' jb KX G (fun _ _ _ _ _ _=>My.mP fun _ _=>rfl) ?a ?l ?c ?k
   (case a=>k_is);(case l=>k_is);(case c=>k_is);(case k=>k_is)
  obtain ⟨_,_,fQ⟩:=fQ;have mh:∃f fd,Def (L2.KOf KX) mg "form_of" My.uN ["floor"] f fd:=by
   dsimp only [L2.KOf];refine' jb KX G (fun _ _ _ _ _ _=>My.tU fun _=>rfl) ?a ?l ?c ?k
   (case a=>k_is);(case l=>k_is);(case c=>k_is);(case k=>k_is)
  obtain ⟨_,_,mh⟩:=mh;have lB:∃f fd,Def (L2.KOf KX) mg "has_form" My.DK ["forms","number","floor"] f fd:=by
   dsimp only [L2.KOf];refine' jb KX G (fun _ _ _ _ _ _=>My.Dq fun _ _ _=>rfl) ?a ?l ?c ?k
   (case a=>k_is);(case l=>k_is);(case c=>k_is);(case k=>k_is)
  obtain ⟨_,_,lB⟩:=lB;have kc:∃f fd,Def (L2.KOf KX) mg "ring_from" My.DM ["turning","first"] f fd:=by
   dsimp only [L2.KOf];refine' jb KX G (fun _ _ _ _ _ _=>My.mP fun _ _=>rfl) ?a ?l ?c ?k
   (case a=>k_is);(case l=>k_is);(case c=>k_is);(case k=>k_is)
  obtain ⟨_,_,kc⟩:=kc;have lC:∃f fd,Def (L2.KOf KX) mg "rings_of" My.DO ["turning"] f fd:=by
   dsimp only [L2.KOf];refine' jb KX G (fun _ _ _ _ _ _=>My.tU fun _=>rfl) ?a ?l ?c ?k
   (case a=>k_is);(case l=>k_is);(case c=>k_is);(case k=>k_is)
  obtain ⟨_,_,lC⟩:=lC;have oK:∃f fd,Def (L2.KOf KX) mg "often" My.DQ ["turning","k"] f fd:=by
   dsimp only [L2.KOf];refine' jb KX G (fun _ _ _ _ _ _=>My.mP fun _ _=>rfl) ?a ?l ?c ?k
   (case a=>k_is);(case l=>k_is);(case c=>k_is);(case k=>k_is)
  obtain ⟨_,_,oK⟩:=oK;have mj:∃f fd,Def (L2.KOf KX) mg "sheared" My.AK ["floor","k"] f fd:=by
   dsimp only [L2.KOf];refine' jb KX G (fun _ _ _ _ _ _=>My.mP fun _ _=>rfl) ?a ?l ?c ?k
   (case a=>k_is);(case l=>k_is);(case c=>k_is);(case k=>k_is)
  obtain ⟨_,_,mj⟩:=mj;have ke:∃f fd,Def (L2.KOf KX) mg "quartered" My.AL ["floor"] f fd:=by
   dsimp only [L2.KOf];refine' jb KX G (fun _ _ _ _ _ _=>My.tU fun _=>rfl) ?a ?l ?c ?k
   (case a=>k_is);(case l=>k_is);(case c=>k_is);(case k=>k_is)
  obtain ⟨_,_,ke⟩:=ke;have iQ:∃f fd,Def (L2.KOf KX) mg "led_by_step" My.DT ["floor","step"] f fd:=by
   dsimp only [L2.KOf];refine' jb KX G (fun _ _ _ _ _ _=>My.mP fun _ _=>rfl) ?a ?l ?c ?k
   (case a=>k_is);(case l=>k_is);(case c=>k_is);(case k=>k_is)
  obtain ⟨_,_,iQ⟩:=iQ;have ny:∃f fd,Def (L2.KOf KX) mg "led_by" My.AO ["floor","word"] f fd:=by
   dsimp only [L2.KOf];refine' jb KX G (fun _ _ _ _ _ _=>My.mP fun _ _=>rfl) ?a ?l ?c ?k
   (case a=>k_is);(case l=>k_is);(case c=>k_is);(case k=>k_is)
  obtain ⟨_,_,ny⟩:=ny;have kg:∃f fd,Def (L2.KOf KX) mg "row_holds" My.DW ["floor","row","forms"] f fd:=by
   dsimp only [L2.KOf];refine' jb KX G (fun _ _ _ _ _ _=>My.Dq fun _ _ _=>rfl) ?a ?l ?c ?k
   (case a=>k_is);(case l=>k_is);(case c=>k_is);(case k=>k_is)
  obtain ⟨_,_,kg⟩:=kg;have iR:∃f fd,Def (L2.KOf KX) mg "chart_holds" My.AQ ["floor","chart"] f fd:=by
   dsimp only [L2.KOf];refine' jb KX G (fun _ _ _ _ _ _=>My.mP fun _ _=>rfl) ?a ?l ?c ?k
   (case a=>k_is);(case l=>k_is);(case c=>k_is);(case k=>k_is)
  obtain ⟨_,_,iR⟩:=iR;have kh:∃f fd,Def (L2.KOf KX) mg "_law_word" My.AR ["_law_feed_here","_law_most","_law_great"] f fd:=by
   dsimp only [L2.KOf];refine' jb KX G (fun _ _ _ _ _ _=>My.Dq fun _ _ _=>rfl) ?a ?l ?c ?k
   (case a=>k_is);(case l=>k_is);(case c=>k_is);(case k=>k_is)
  obtain ⟨_,_,kh⟩:=kh;have nz:∃f fd,Def (L2.KOf KX) mg "joined" My.DY ["one","other"] f fd:=by
   dsimp only [L2.KOf];refine' jb KX G (fun _ _ _ _ _ _=>My.mP fun _ _=>rfl) ?a ?l ?c ?k
   (case a=>k_is);(case l=>k_is);(case c=>k_is);(case k=>k_is)
  obtain ⟨_,_,nz⟩:=nz;have jG:∃f fd,Def (L2.KOf KX) mg "made_plain" My.D0 ["word"] f fd:=by
   dsimp only [L2.KOf];refine' jb KX G (fun _ _ _ _ _ _=>My.tU fun _=>rfl) ?a ?l ?c ?k
   (case a=>k_is);(case l=>k_is);(case c=>k_is);(case k=>k_is)
  obtain ⟨_,_,jG⟩:=jG;have gR:∃f fd,Def (L2.KOf KX) mg "put_together" My.D3 ["one","other"] f fd:=by
   dsimp only [L2.KOf];refine' jb KX G (fun _ _ _ _ _ _=>My.mP fun _ _=>rfl) ?a ?l ?c ?k
   (case a=>k_is);(case l=>k_is);(case c=>k_is);(case k=>k_is)
  obtain ⟨_,_,gR⟩:=gR;have jH:∃f fd,Def (L2.KOf KX) mg "row_led_to" My.D4 ["forms","words","place","step"] f fd:=by
   dsimp only [L2.KOf];refine' jb KX G (fun _ _ _ _ _ _=>My.Tj fun _ _ _ _=>rfl) ?a ?l ?c ?k
   (case a=>k_is);(case l=>k_is);(case c=>k_is);(case k=>k_is)
  obtain ⟨_,_,jH⟩:=jH;have lD:∃f fd,qP (L2.KOf KX) mg "chart_of" My.AU ["floor","most"] [V.int 60] f fd:=by
   dsimp only [L2.KOf];refine' Qy (d:=1) KX G (by decide) (fun _ _ _ _ _ _ _ us ds hl hd=>match us,ds,hl,hd with|[_],[_],_,_=>⟨_,rfl,rfl⟩) (fun _ _ _ _ _ _ _ us ds hl hd=>match us,ds,hl,hd with|[_,_],[_],_,_=>⟨_,rfl,rfl⟩) ?a ?l ?lT ?e ?v ?c ?k
   (case a=>k_is);(case l=>k_is);(case lT=>k_is);(case e=>rfl);(case v=>exact .cons ⟨_,rfl⟩ (.nil));(case c=>k_is);(case k=>k_is)
  obtain ⟨_,_,lD⟩:=lD;have lE:∃f fd,Def (L2.KOf KX) mg "_law_far" My.D6 ["_law_feed_here"] f fd:=by
   dsimp only [L2.KOf];refine' jb KX G (fun _ _ _ _ _ _=>My.tU fun _=>rfl) ?a ?l ?c ?k
   (case a=>k_is);(case l=>k_is);(case c=>k_is);(case k=>k_is)
  obtain ⟨_,_,lE⟩:=lE;have dB:∃f fd,Def (L2.KOf KX) mg "_law_turned_about" My.D8 ["_law_feed_here","_law_chart_here"] f fd:=by
   dsimp only [L2.KOf];refine' jb KX G (fun _ _ _ _ _ _=>My.mP fun _ _=>rfl) ?a ?l ?c ?k
   (case a=>k_is);(case l=>k_is);(case c=>k_is);(case k=>k_is)
  obtain ⟨_,_,dB⟩:=dB;have fu:∃f fd,Def (L2.KOf KX) mg "_law_otherwise" My.Ea ["_law_feed_here","_law_floor_here","_law_chart_here"] f fd:=by
   dsimp only [L2.KOf];refine' jb KX G (fun _ _ _ _ _ _=>My.Dq fun _ _ _=>rfl) ?a ?l ?c ?k
   (case a=>k_is);(case l=>k_is);(case c=>k_is);(case k=>k_is)
  obtain ⟨_,_,fu⟩:=fu;have jI:∃f fd,Def (L2.KOf KX) mg "_law_shown" My.Ec ["_law_floor_here","_law_chart_here"] f fd:=by
   dsimp only [L2.KOf];refine' jb KX G (fun _ _ _ _ _ _=>My.mP fun _ _=>rfl) ?a ?l ?c ?k
   (case a=>k_is);(case l=>k_is);(case c=>k_is);(case k=>k_is)
  obtain ⟨_,_,jI⟩:=jI;have pj:∃f fd,Def (L2.KOf KX) mg "law" My.GO ["_law_script"] f fd:=by
   dsimp only [L2.KOf];refine' jb KX G (fun _ _ _ _ _ _=>My.tU fun _=>rfl) ?a ?l ?c ?k
   (case a=>k_is);(case l=>k_is);(case c=>k_is);(case k=>k_is)
  obtain ⟨_,_,pj⟩:=pj;have e0:=hmg.symm.trans pj.m;cases e0;exact ⟨_,pj.uo,fun base _ _=>L4.yh (My.zL T mf oJ j6 j7 gO lu jD fP j8 iM gP jE jF j9 lx iO lA iP gQ ft fQ mh lB kc lC oK mj ke iQ ny kg iR kh nz jG gR jH lD lE dB fu jI pj) fun ns hn=>let ⟨_,st,e,h⟩:=My.tm ns hn;⟨st,h ▸ e⟩⟩
 case S=>exact fun K H a ns hl hO hS=>⟨a,ns,rfl,hS.script hO,hl,fun _=>rfl⟩
 case C=>exact fun _ _ _ _ z=>z
