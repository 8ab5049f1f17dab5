import PyProof.Rows.All
import Wide.All
import OpenK.AllK
import Wide.FinOn
import Lean
import PyProof.EqAt
import PyProof.EqKinds
import PyProof.TupleCall
import PyProof.DictIter
import PyProof.EnumMake
import KE.KSortTup
import KE.KDictLaws
import KE.KDictSum
import PyProof.StrLawsTight
import KE.KIntText
import PyProof.MinMaxWalk
import PyProof.WalkInts
import KE.KIsAll
import PyProof.ExcInit
import PyProof.NsDelKeeps
import PyProof.ExcBaseAll.ValueError
import OpenK.KOwn
import PyProof.ExcAttrAll.ValueError
import PyProof.InstStoreFacts
import PyProof.NoPylong
import PySem.Challenge.RW_shearfloor_k39_makers_told
set_option Elab.async false
set_option linter.all false
set_option maxRecDepth 100000
set_option maxHeartbeats 4000000
set_option genSizeOf false
noncomputable section
def TJ:=@List.length_map
def TK:=@List.getElem?_eq_some_iff
def TL:=@List.getElem?_eq_getElem
def TM:=@Nat.le_refl
def TN:=@List.length_append
def TQ:=@List.getElem?_set_self
def TR:=@List.getElem?_map
def TU:=@List.mem_cons_self
def TV:=@List.getElem?_set_ne
def TX:=@Bool.false_ne_true
def TY:=@List.mem_cons_of_mem
def T1:=@List.getElem?_append_left
def T2:=@List.mem_of_getElem?
def T3:=@Int.toNat_natCast
def T5:=@Option.some.inj
def T6:=@List.map_append
def T7:=@List.size_toArray
def T8:=@PySem.Heap.get?_push_of_some
def T9:=@List.getD_eq_getElem?_getD
def Ua:=@Bool.and_eq_true
def Ub:=@List.mem_map
def Uc:=@List.getElem?_append_right
def Ud:=@List.mem_singleton
def Ue:=@PySem.Heap.lt_size
def Ug:=@PySem.Heap.get?_push_size
def Uh:=@Nat.le_trans
def Ui:=@List.map_cons
def Uj:=@Option.map_eq_some_iff
def Uk:=@List.mem_append
def Um:=@Int.toNat_of_nonneg
def Uo:=@List.length_cons
def Up:=@List.mem_cons
def Uq:=@List.map_map
def Ur:=@List.take_succ_eq_append_getElem
def Us:=@List.mem_append_right
def Ut:=@Nat.lt_of_lt_of_le
def Uu:=@List.length_reverse
def Uv:=@List.getElem?_eq_none_iff
def Uw:=@Nat.zero_le
def Ux:=@List.map_congr_left
def Uy:=@List.getD_cons_succ
def Uz:=@List.getD_cons_zero
def UA:=@Nat.ne_of_lt
def UB:=@List.map_nil
def UC:=@List.replicate_succ
def UD:=@List.length_set
def UE:=@Nat.not_lt_zero
def UG:=@Nat.lt_of_le_of_lt
def UH:=@List.take_length
def UI:=@PySem.Heap.get?_update_other
def UJ:=@List.length_take
def UK:=@Bool.false_eq_true
def UL:=@List.any_cons
def UM:=@Option.bind_eq_some_iff
def UN:=@List.foldl_append
def UO:=@List.find?_cons
def UP:=@Int.emod_nonneg
def UQ:=@List.getElem?_range
def UR:=@Nat.sub_self
def US:=@Nat.lt_succ_self
def UT:=@List.mem_reverse
def UU:=@PySem.Heap.get?_update_self
def UW:=@List.length_singleton
def UX:=@Int.emod_lt_of_pos
def UY:=@List.contains_iff_mem
def UZ:=@List.nodup_cons
def U0:=@PySem.Heap.SameBut.update
def U1:=@List.getElem_of_mem
def U2:=@List.lookup_cons
def U3:=@Option.bind_some
def U4:=@Int.zero_add
def U5:=@List.append_nil
def U6:=@List.getElem?_eq_none
def U7:=@List.flatten_cons
def U8:=@List.mem_append_left
def U9:=@List.drop_eq_getElem_cons
def Va:=@List.pairwise_iff_getElem
def Vb:=@List.findIdx?_eq_some_iff_getElem
def Vc:=@PySem.Heap.size_push
def Vd:=@Option.isSome_iff_exists
def Ve:=@List.all_eq_true
def Vg:=@List.getElem?_replicate
def Vh:=@Bool.eq_iff_iff
def Vi:=@List.append_assoc
def Vj:=@List.reverse_cons
def Vk:=@List.mem_range
def Vl:=@List.length_replicate
def Vm:=@Array.getElem?_toList
def Vn:=@Nat.lt_or_ge
def Vo:=@List.Perm.refl
def Vp:=@List.idxOf_lt_length_of_mem
def Vq:=@List.getElem?_of_mem
def Vr:=@List.mem_erase_of_ne
def Vs:=@List.prefix_refl
def Vt:=@Nat.lt_irrefl
def Vu:=@List.map_id
def Vv:=@Array.length_toList
def Vw:=@List.mem_filter
def Vx:=@Nat.zero_add
def Vy:=@List.nodup_append
def Vz:=@Nat.le_succ
def VA:=@List.drop_of_length_le
def VB:=@Nat.le_of_not_lt
def VC:=@List.getElem_mem
def VD:=@List.getElem_map
def VE:=@List.map_reverse
def VF:=@Nat.le_of_ble_eq_true
def VG:=@List.eraseIdxIfInBounds_toArray
def VH:=@Nat.succ_mul
def VI:=@List.perm_cons_erase
def VJ:=@Bool.or_eq_true
def VL:=@List.eq_nil_of_length_eq_zero
def VM:=@List.filterMap_cons
def VN:=@List.drop_zero
def VO:=@List.getElem_idxOf
def VP:=@List.prefix_append
def VQ:=@Bool.xor_self
def VR:=@List.pairwise_map
def VS:=@List.length_range
def VT:=@Nat.le_of_lt
def VU:=@List.getElem_inj
def VW:=@List.length_drop
def VX:=@Nat.lt_trans
def VY:=@List.any_eq_true
def V0:=@List.map_set
def V1:=@List.not_mem_nil
abbrev Zfr:=PySem.W.Frag
namespace L2
open PySem PySem.Spec PyProof.Rows
abbrev Key:=Sum Int Str
def mT:Key->Value->Bool
 | .inl k,v=>Value.isInt k v
 | .inr x,v=>Value.isStrOf x v
def Fe (w:World):Key->Int
 | .inl k=>hashInt k
 | .inr x=>hashStr w x
theorem rY:∀ {k:Key} {v:Value},mT k v=true->(∃ i t,k=Sum.inl i/\v=Value.int i t)\/(∃ x t,k=Sum.inr x/\v=Value.str x t)
 | .inl i,v,h=>by
  obtain ⟨t,e⟩:=Value.isInt_shape (k:=i) (v:=v) h
  exact .inl ⟨i,t,rfl,e⟩
 | .inr x,v,h=>by
  obtain ⟨t,e⟩:=Value.isStrOf_shape (x:=x) (v:=v) h
  exact .inr ⟨x,t,rfl,e⟩
theorem Mf (i:Int) (t:Tok):mT (.inl i) (.int i t)=true:=by simp [mT,Value.isInt]
theorem Mg (x:Str) (t:Tok):mT (.inr x) (.str x t)=true:=by simp [mT,Value.isStrOf]
theorem uY (a b:Int):decide ((Sum.inl a:Key)=Sum.inl b)=(a == b):=by
 by_cases e:a=b
 ·subst e;simp
 ·have h:¬ (Sum.inl a:Key)=Sum.inl b:=fun q=>e (Sum.inl.inj q)
  rw [decide_eq_false h]
  exact (beq_eq_false_iff_ne.mpr e).symm
theorem uZ (a b:Str):decide ((Sum.inr a:Key)=Sum.inr b)=decide (a=b):=by
 by_cases e:a=b
 ·subst e;simp
 ·have h:¬ (Sum.inr a:Key)=Sum.inr b:=fun q=>e (Sum.inr.inj q)
  rw [decide_eq_false h,decide_eq_false e]
theorem u3 (a:Int) (b:Str):decide ((Sum.inl a:Key)=Sum.inr b)=false:=decide_eq_false (fun q=>nomatch q)
theorem u5 (a:Str) (b:Int):decide ((Sum.inr a:Key)=Sum.inl b)=false:=decide_eq_false (fun q=>nomatch q)
def cv (prog:Program) (w:World):PySem.KeyKind prog w Key where
 is:=mT
 hash:=Fe w
 inj:=fun v a b ha hb=>by
  rcases rY ha with ⟨i,t,rfl,rfl⟩ | ⟨x,t,rfl,rfl⟩
  ·rcases rY hb with ⟨j,u,rfl,e⟩ | ⟨y,u,rfl,e⟩
   ·injection e with e1 _;rw [e1]
   ·exact nomatch e
  ·rcases rY hb with ⟨j,u,rfl,e⟩ | ⟨y,u,rfl,e⟩
   ·exact nomatch e
   ·injection e with e1 _;rw [e1]
 byValue:=fun k v h=>by
  rcases rY h with ⟨i,t,rfl,rfl⟩ | ⟨x,t,rfl,rfl⟩ <;> rfl
 pyHash:=fun hv h=>by
  rcases rY hv with ⟨i,t,rfl,rfl⟩ | ⟨x,t,rfl,rfl⟩
  ·exact wpAny_pyHash_int h
  ·exact wpAny_pyHash_str h
 eqBool:=fun hu hv h=>by
  rcases rY hu with ⟨i,t,rfl,rfl⟩ | ⟨x,t,rfl,rfl⟩
  ·rcases rY hv with ⟨j,u,rfl,rfl⟩ | ⟨y,u,rfl,rfl⟩
   ·rw [uY] at h;exact wpAny_eqBool_int h
   ·rw [u3] at h;exact SeqAt.EqAt.int_str i t y u _ _ _ _ h
  ·rcases rY hv with ⟨j,u,rfl,rfl⟩ | ⟨y,u,rfl,rfl⟩
   ·rw [u5] at h;exact SeqAt.EqAt.str_int x t j u _ _ _ _ h
   ·rw [uZ] at h;exact wpAny_eqBool_str h
 «strs»:=fun k x t v h=>by
  rcases rY h with ⟨i,u,rfl,e⟩ | ⟨y,u,rfl,e⟩
  ·exact nomatch e
  ·injection e with e1 _
   subst e1
   cases v <;> rfl
theorem Mh (prog:Program) (w:World) (i:Int) (t:Tok):(cv prog w).is (.inl i) (.int i t)=true:=Mf i t
theorem Mi (prog:Program) (w:World) (x:Str) (t:Tok):(cv prog w).is (.inr x) (.str x t)=true:=Mg x t
inductive V where
 | non | bl (b:Bool) | int (i:Int) | str (x:Str) | qf (b:Array UInt8) | Ff (b:UInt64) | ref (a:Addr) | ty (n:String)
 deriving DecidableEq
def RelV:V->Value->Prop
 | .non,u=>u=Value.none
 | .bl b,u=>u=Value.bool b
 | .int i,u=>∃ t,u=Value.int i t
 | .str x,u=>∃ t,u=Value.str x t
 | .qf b,u=>∃ t,u=Value.bytes b t
 | .Ff b,u=>∃ t,u=Value.float b t
 | .ref a,u=>u=Value.ref a
 | .ty n,u=>u=Value.type n
abbrev Vals:List V->List Value->Prop:=Paired RelV
theorem Vals.length {xs:List V} {us:List Value} (r:Vals xs us):xs.length=us.length:=Paired.length r
theorem Vals.get:∀ {xs:List V} {us:List Value} {i:Nat} {x:V},Vals xs us->xs[i]?=some x->∃ u,us[i]?=some u/\RelV x u
 | _,_,_,_,.nil,e=>by simp at e
 | _,_,0,_,.cons r _,e=>by simp at e;subst e;exact ⟨_,rfl,r⟩
 | _,_,i + 1,x,.cons _ t,e=>by
  obtain ⟨u,h1,h2⟩:=Vals.get (i:=i) (x:=x) t (by simpa using e)
  exact ⟨u,by simpa using h1,h2⟩
theorem Vals.set {x:V} {u:Value} (r:RelV x u):∀ {xs:List V} {us:List Value} (i:Nat),Vals xs us->Vals (xs.set i x) (us.set i u)
 | _,_,_,.nil=>.nil
 | _,_,0,.cons _ t=>.cons r t
 | _,_,i + 1,.cons q t=>.cons q (Vals.set r i t)
theorem Vals.append:∀ {xs ys:List V} {us ws:List Value},Vals xs us->Vals ys ws->Vals (xs ++ ys) (us ++ ws)
 | _,_,_,_,.nil,s=>s
 | _,_,_,_,.cons r t,s=>.cons r (Vals.append t s)
theorem Vals.take:∀ {xs:List V} {us:List Value} (n:Nat),Vals xs us->Vals (xs.take n) (us.take n)
 | _,_,0,_=>.nil
 | _,_,_ + 1,.nil=>.nil
 | _,_,n + 1,.cons r t=>.cons r (Vals.take n t)
theorem Vals.drop:∀ {xs:List V} {us:List Value} (n:Nat),Vals xs us->Vals (xs.drop n) (us.drop n)
 | _,_,0,r=>r
 | _,_,_ + 1,.nil=>.nil
 | _,_,n + 1,.cons _ t=>Vals.drop n t
def pQ:Option V->Option Value->Prop
 | some v,some u=>RelV v u
 | none,none=>True
 | _,_=>False
def KV {κ:Type}:List (κ×V)->List (κ×Value)->Prop:=Paired fun (p:κ×V) (q:κ×Value)=>p.1=q.1/\RelV p.2 q.2
def kV:Key->V
 | .inl i=>.int i
 | .inr x=>.str x
set_option genInjectivity false in
inductive HO where
 /-- a list -/
 | lst (xs:List V)
 /-- a tuple (never changes) -/
 | tup (xs:List V)
 /-- a dict whose keys are ints and texts;one whose keys are tuples of ints and texts (the empty one is both) -/
 | dK (kvs:List (Key×V)) | dT (kvs:List (List Key×V))
 /-- a set of ints: its members,its size -/
 | set (S:Int->Bool) (n:Nat)
 /-- an instance of the class at C,its dict at dx,its attributes -/
 | ins (C dx:Addr) (fs:List (Str×V))
 /-- the dict of the instance at x -/
 | own (x:Addr)
 /-- the dict of an exception -/
 | xd (fs:List (Str×V))
 /-- a bound method,f of x -/
 | met (f x:Addr)
 /-- a range object lo,lo + 1,.. below hi -/
 | iY (lo hi:Int)
 /-- a thing that is known to the object (the script;a dict while a loop walks it): read,never written while it is so -/
 | nr (o:Obj) (u:HO)
 /-- a code y8 table -/
 | u6 (ps:Array Value)
 /-- any other thing,by what is true of its one object (a def of HW own: Mj a S n:=HO.ext fun h=>..) -/
 | ext (φ:Heap->Prop)
abbrev Hp:=Addr->Option HO
def upd (H:Hp) (a:Addr) (o:HO):Hp:=fun b=>if b=a then some o else H b
theorem p7 {H:Hp} {a:Addr} {o:HO}:upd H a o a=some o:=by unfold upd;rw [if_pos rfl]
theorem jE {H:Hp} {a b:Addr} {o:HO} (h:b≠a):upd H a o b=H b:=by unfold upd;rw [if_neg h]
theorem Fg {H:Hp} {a b:Addr} {o u:HO} (h:H a=some o) (h':H b=some u) (d:o≠u):a≠b:=by
 intro e;subst e;rw [h] at h';exact d (T5 h')
theorem yd {H:Hp} {a b:Addr} {o:HO} (h:H a=some o) (h':H b=none):a≠b:=by
 intro e;subst e;rw [h] at h';cases h'
def nt (h:Heap) (a:Addr) (its:Array Value):Prop:=∃ o,h.get? a=some o/\o.cls=.type "tuple" /\ o.dict=none/\∃ n,o.data=.seq its n
theorem nt.tup {h:Heap} {a:Addr} {its:Array Value} (x:nt h a its):IsTup h a its:=let ⟨o,e,c,_,n,d⟩:=x;⟨o,e,c,n,d⟩
theorem nt.new (h:Heap) (its:Array Value):nt (h.push { cls:=.type "tuple",data:=.seq its }) h.objs.size its:=⟨_,Ug _ rfl,rfl,rfl,_,rfl⟩
section
variable (P:Program) (w:World)
def cm (H:Hp) (h:Heap) (a:Addr):HO->Prop
 | .lst xs=>xs.length<=sizeLine/\∃ (its:List Value) (n:Nat),Vals xs its/\h.get? a=some { cls:=.type "list",data:=.seq its.toArray n }
 | .tup xs=>xs.length<=sizeLine/\∃ its:List Value,Vals xs its/\nt h a its.toArray
 | .dK kvs=>kvs.length<=sizeLine/\(a == sysModules)=false/\∃ vs,KV kvs vs/\h.DictOf (cv P w) a vs
 | .dT kvs=>kvs.length<=sizeLine/\(a == sysModules)=false/\∃ xs:List (List Key×Addr×Value),
   Paired (fun (p:List Key×V) (q:List Key×Addr×Value)=>p.1=q.1/\H q.2.1=some (.tup (p.1.map kV))/\RelV p.2 q.2.2) kvs xs /\
   ∃ o es ep,h.get? a=some o/\o.ExactDict/\o.data=.dict es ep/\es.toList=xs.map (entryOfKey (tupleKind (cv P w)))/\(xs.map (·.1)).Nodup
 | .set S n=>h.SetOf (intKind P w) a S n
 | .ins C dx fs=>H dx=some (.own a)/\fs.length<=1000/\dx≠a/\h.get? a=some (PySem.W.instObj C dx) /\
   ∃ mA,h.Ns1 dx mA/\(∀ f,pQ (fs.lookup f) (mA f))/\PySem.Within mA (fs.map (·.1))
 | .own _=>∃ o,h.get? a=some o
 | .xd fs=>∃ mA,h.Ns1 a mA/\∀ f,pQ (fs.lookup f) (mA f)
 | .iY lo hi=>∃ t u v,h.get? a=some { cls:=.type "range",data:=.fields #[.int lo t,.int hi u,.int 1 v] }
 | .nr o u=>h.get? a=some o/\cm H h a u
 | .u6 ps=>h.get? a=some { cls:=.none,data:=.fields ps }
 | .met f x=>h.get? a=some (PySem.W.methodObj (.ref f) (.ref x))
 | .ext φ=>φ h/\(∃ o,h.get? a=some o)/\∀ h1 h2:Heap,φ h1->(∀ o,h1.get? a=some o->h2.get? a=some o)->φ h2
def kF (H:Hp) (h:Heap):Prop:=∀ a o,H a=some o->cm P w H h a o
end
section
variable {P:Program} {w:World} {H H':Hp} {h h':Heap} {a:Addr} {o:HO}
theorem cm.lt (x:cm P w H h a o):a < h.objs.size:=by
 cases o with
 | lst xs=>obtain ⟨_,_,_,_,e⟩:=x;exact Ue e
 | tup xs=>obtain ⟨_,_,_,_,e,_⟩:=x;exact Ue e
 | dK kvs=>obtain ⟨_,_,_,_,o,_,_,e,_⟩:=x;exact Ue e
 | dT kvs=>obtain ⟨_,_,_,_,o,_,_,e,_⟩:=x;exact Ue e
 | set S n=>obtain ⟨o,_,_,_,e,_⟩:=x;exact Ue e
 | ins C dx fs=>obtain ⟨_,_,_,e,_⟩:=x;exact Ue e
 | own y=>obtain ⟨_,e⟩:=x;exact Ue e
 | xd fs=>obtain ⟨_,⟨_,_,_,e,_⟩,_⟩:=x;exact Ue e
 | iY lo hi=>obtain ⟨_,_,_,e⟩:=x;exact Ue e
 | nr ob u=>obtain ⟨e,_⟩:=x;exact Ue e
 | u6 ps=>exact Ue (show h.get? a=some _ from x)
 | met f y=>exact Ue (show h.get? a=some _ from x)
 | ext φ=>obtain ⟨_,⟨_,e⟩,_⟩:=x;exact Ue e
theorem Paired.u7 {α β:Type} {F G:α->β->Prop}:∀ {l₁:List α} {l₂:List β},Paired F l₁ l₂->(∀ a b,F a b->G a b)->Paired G l₁ l₂
 | _,_,.nil,_=>.nil
 | _,_,.cons r t,f=>.cons (f _ _ r) (Paired.u7 t f)
theorem cm.stay (x:cm P w H h a o) (k:∀ b u,(b=a\/H b=some (.own a))->h.get? b=some u->h'.get? b=some u)
  (ho:∀ b,H b=some (.own a)->H' b=some (.own a)) (ht:∀ b xs,H b=some (.tup xs)->H' b=some (.tup xs)):cm P w H' h' a o:=by
 induction o with
 | lst xs=>obtain ⟨z,its,n,r,e⟩:=x;exact ⟨z,its,n,r,k _ _ (.inl rfl) e⟩
 | tup xs=>obtain ⟨z,its,r,ob,e,c⟩:=x;exact ⟨z,its,r,ob,k _ _ (.inl rfl) e,c⟩
 | dK kvs=>obtain ⟨z,y,vs,r,ob,es,ep,e,c⟩:=x;exact ⟨z,y,vs,r,ob,es,ep,k _ _ (.inl rfl) e,c⟩
 | dT kvs =>
  obtain ⟨z,y,xs,r,ob,es,ep,e,c⟩:=x
  exact ⟨z,y,xs,Paired.u7 r fun p q z=>⟨z.1,ht _ _ z.2.1,z.2.2⟩,ob,es,ep,k _ _ (.inl rfl) e,c⟩
 | set S n=>obtain ⟨ob,es,ep,t,e,c⟩:=x;exact ⟨ob,es,ep,t,k _ _ (.inl rfl) e,c⟩
 | ins C dx fs =>
  obtain ⟨d,z,ne,e,mA,⟨od,es,ep,e2,c⟩,r⟩:=x
  exact ⟨ho _ d,z,ne,k _ _ (.inl rfl) e,mA,⟨od,es,ep,k _ _ (.inr d) e2,c⟩,r⟩
 | own y=>obtain ⟨ob,e⟩:=x;exact ⟨ob,k _ _ (.inl rfl) e⟩
 | xd fs=>obtain ⟨mA,⟨od,es,ep,e,c⟩,r⟩:=x;exact ⟨mA,⟨od,es,ep,k _ _ (.inl rfl) e,c⟩,r⟩
 | iY lo hi=>obtain ⟨t,u,v,e⟩:=x;exact ⟨t,u,v,k _ _ (.inl rfl) e⟩
 | nr ob u ih=>obtain ⟨e,q⟩:=x;exact ⟨k _ _ (.inl rfl) e,ih q⟩
 | u6 ps =>
  have e:h.get? a=some { cls:=.none,data:=.fields ps }:=x
  show h'.get? a=some { cls:=.none,data:=.fields ps }
  exact k a _ (.inl rfl) e
 | met f y =>
  have e:h.get? a=some (PySem.W.methodObj (.ref f) (.ref y)):=x
  show h'.get? a=some (PySem.W.methodObj (.ref f) (.ref y))
  exact k a _ (.inl rfl) e
 | ext φ=>obtain ⟨p,⟨o,e⟩,st⟩:=x;exact ⟨st _ _ p fun o q=>k _ _ (.inl rfl) q,⟨o,k _ _ (.inl rfl) e⟩,st⟩
theorem kF.lt (x:kF P w H h) (e:H a=some o):a < h.objs.size:=(x a o e).lt
theorem kF.fresh (x:kF P w H h) (e:h.objs.size<=a):H a=none:=by
 cases q:H a with
 | none=>rfl
 | some u=>exact absurd (Ut (x.lt q) e) (Vt _)
theorem kF.kept (x:kF P w H h) (k:∀ b u,h.get? b=some u->h'.get? b=some u):kF P w H h':=fun a o e =>
 (x a o e).stay (fun b u _ q=>k b u q) (fun _ q=>q) fun _ _ q=>q
theorem kF.laid (x:kF P w H h) (k:∀ b u,h.get? b=some u->h'.get? b=some u) (hp:h.objs.size<=a) (new:cm P w (upd H a o) h' a o):kF P w (upd H a o) h':=fun b u e=>by
 have hn:=x.fresh hp
 by_cases hb:b=a
 ·subst hb;rw [p7] at e;cases e;exact new
 ·rw [jE hb] at e
  exact (x b u e).stay (fun c v _ q=>k c v q) (fun c q=>by rw [jE (yd q hn)];exact q) fun c xs q=>by rw [jE (yd q hn)];exact q
end
def Rd (H:Hp) (a:Addr) (u:HO):Prop:=H a=some u\/∃ o,H a=some (.nr o u)
theorem Rd.ok {P:Program} {w:World} {H:Hp} {h:Heap} {a:Addr} {u:HO} (r:Rd H a u) (x:kF P w H h):cm P w H h a u:=by
 rcases r with r | ⟨o,r⟩
 ·exact x a u r
 ·obtain ⟨_,q⟩:=x a _ r
  exact q
def y9:Option HO->Prop
 | some (.lst _)=>True
 | some (.dK _)=>True
 | some (.dT _)=>True
 | some (.set _ _)=>True
 | some (.ins _ _ _)=>True
 | some (.ext _)=>True
 | _=>False
section
variable {P:Program} {w:World} {H:Hp} {h h':Heap} {x e:Addr} {o':HO}
theorem kF.write (ok:kF P w H h) (mu:y9 (H x)) (he:e=x\/H e=some (.own x)) (k:∀ b u,b≠e->h.get? b=some u->h'.get? b=some u) (ye:∃ u,h'.get? e=some u)
  (new:cm P w (upd H x o') h' x o'):kF P w (upd H x o') h':=fun b u q=>by
 have za:∀ c y,H c=some (.own y)->c≠x:=fun c y r z=>by subst z;rw [r] at mu;exact mu
 have Fh:∀ c xs,H c=some (.tup xs)->c≠x:=fun c xs r z=>by subst z;rw [r] at mu;exact mu
 by_cases hb:b=x
 ·subst hb;rw [p7] at q;cases q;exact new
 ·rw [jE hb] at q
  by_cases u9:b=e
  ·have q':H b=some (.own x):=by
    rcases he with z | z
    ·exact absurd (u9.trans z) hb
    ·rw [u9];exact z
   rw [q] at q';cases q'
   obtain ⟨v,hv⟩:=ye
   exact ⟨v,by rw [u9];exact hv⟩
  ·refine (ok b u q).stay (fun c v hc r=>k c v ?_ r) (fun c r=>by rw [jE (za c b r)];exact r) fun c xs r=>by rw [jE (Fh c xs r)];exact r
   rcases hc with rfl | hc
   ·exact u9
   ·rintro rfl
    rcases he with z | z
    ·exact za c b hc z
    ·rw [hc] at z;cases z;exact hb rfl
end
structure Un (fs ex:List Addr) (H H':Hp) (h h':Heap):Prop where
 keep:∀ b o,h.get? b=some o->H b=none->b ∉ fs->b ∉ ex->h'.get? b=some o
 slot:∀ b o,h.get? b=some o->H b=none->b∈fs->b ∉ ex->∃ sl,h'.get? b=some { o with slots:=sl }
 free:∀ b o,h.get? b=some o->H b=none->b ∉ ex->H' b=none
 there:∀ b o,h.get? b=some o->b ∉ ex->∃ o',h'.get? b=some o'
 tups:∀ b xs,H b=some (.tup xs)->H' b=some (.tup xs)
 nu:∀ b o u,H b=some (.nr o u)->H' b=some (.nr o u)
 oi:∀ b ps,H b=some (.u6 ps)->∃ more,H' b=some (.u6 (ps ++ more))
section
variable {fs fs' ex ex':List Addr} {H H1 H2:Hp} {h h1 h2 h':Heap} {a x e:Addr} {o:HO}
theorem Un.any (u:Un fs ex H H1 h h1) {b:Addr} {ob:Obj} (q:h.get? b=some ob) (n:H b=none) (hx:b ∉ ex):∃ sl,h1.get? b=some { ob with slots:=sl }:=by
 by_cases hb:b∈fs
 ·exact u.slot b ob q n hb hx
 ·exact ⟨ob.slots,u.keep b ob q n hb hx⟩
theorem Un.kept (k:∀ b u,h.get? b=some u->h'.get? b=some u):Un fs ex H H h h' :=
 ⟨fun b ob q _ _ _=>k b ob q,fun b ob q _ _ _=>⟨ob.slots,k b ob q⟩,fun _ _ _ n _=>n,fun b ob q _=>⟨ob,k b ob q⟩,fun _ _ q=>q,fun _ _ _ q=>q,fun _ ps q=>⟨#[],by rw [q];simp⟩⟩
theorem Un.refl:Un fs ex H H h h:=Un.kept fun _ _ q=>q
theorem Un.laid (k:∀ b u,h.get? b=some u->h'.get? b=some u) (hp:h.objs.size<=a) (hn:H a=none):Un fs ex H (upd H a o) h h' where
 keep:=fun b u q _ _ _=>k b u q
 slot:=fun b u q _ _ _=>⟨u.slots,k b u q⟩
 free:=fun b u q n _=>by rw [jE (UA (Ut (Ue q) hp))];exact n
 there:=fun b u q _=>⟨u,k b u q⟩
 tups:=fun b xs q=>by rw [jE (yd q hn)];exact q
 nu:=fun b u xs q=>by rw [jE (yd q hn)];exact q
 oi:=fun b ps q=>⟨#[],by rw [jE (yd q hn),q];simp⟩
theorem Un.write (mu:y9 (H x)) (he:e=x\/H e=some (.own x)) (k:∀ b u,b≠e->h.get? b=some u->h'.get? b=some u) (ye:∃ u,h'.get? e=some u):Un fs ex H (upd H x o) h h':=by
 have hx:∀ b,H b=none->b≠x:=fun b n z=>by subst z;rw [n] at mu;exact mu
 have hb:∀ b,H b=none->b≠e:=fun b n z=>by
  subst z
  rcases he with r | r
  ·exact hx b n r
  ·rw [n] at r;cases r
 have hm:∀ b u,H b=some u->¬ y9 (some u)->b≠x:=fun b u q nm z=>by subst z;rw [q] at mu;exact nm mu
 refine ⟨fun b u q n _ _=>k b u (hb b n) q,fun b u q n _ _=>⟨u.slots,k b u (hb b n) q⟩,fun b u q n _=>by rw [jE (hx b n)];exact n,fun b u q _=>?_,
  fun b xs q=>by rw [jE (hm b _ q fun z=>z)];exact q,fun b u xs q=>by rw [jE (hm b _ q fun z=>z)];exact q,fun b ps q=>⟨#[],by rw [jE (hm b _ q fun z=>z),q];simp⟩⟩
 by_cases u9:b=e
 ·subst u9;exact ye
 ·exact ⟨u,k b u u9 q⟩
end
def C0 (h:Heap) (H:Hp):List Addr:=(List.range h.objs.size).filter fun a=>(H a).isSome
def ny (h:Heap) (H:Hp):Heap:=PySem.W.hideAll h (C0 h H)
theorem Mk (h:Heap) (H:Hp):(ny h H).objs.size=h.objs.size:=PySem.W.hideAll_size _ _
theorem Ml {h:Heap} {H:Hp} {b:Addr} {o:Obj} (e:h.get? b=some o) (n:H b=none):(ny h H).get? b=some o :=
 PySem.W.hideAll_get _ e fun hm=>by
  have q:(H b).isSome=true:=(Vw.mp hm).2
  rw [n] at q;simp at q
theorem Mm {h:Heap} {H:Hp} {b:Addr} {o:Obj} (e:(ny h H).get? b=some o):h.get? b=some o/\H b=none:=by
 have e':h.get? b=some o:=PySem.W.of_hideAll (C0 h H) e
 refine ⟨e',?_⟩
 cases q:H b with
 | none=>rfl
 | some x =>
  have hm:b∈C0 h H:=Vw.mpr ⟨Vk.mpr (Ue e'),by simp [q]⟩
  have z:(ny h H).get? b=none:=PySem.W.hideAll_none (C0 h H) hm
  rw [z] at e;cases e
def rZ (g h:Heap) (L:Addr):List (Addr×Obj):=(List.range h.objs.size).filterMap fun a=>if a=L\/(g.get? a).isSome=true then none else (h.get? a).map fun o=>(a,o)
def rest (g h:Heap) (L d:Addr):List (Addr×Obj):=(rZ g h L).filter fun p=>decide (p.1≠d)
structure Mod (K:Zfr) (mg:Str->Option Value) (base:Heap):Prop where
 Fi:K.In base
 glob:base.Ns mainGlobals mg
 blt:∃ mb,base.Ns builtinsNs mb/\∀ x:Str,x≠"__name__" -> mb x=bootBuiltins x
 nolimit:base.NoLimit
set_option genInjectivity false in
structure Cx where
 prog:Program
 w:World
 K:Zfr
 mg:Str->Option Value
 base:Heap
 A:Around
 N:List Str
 s₀:Shared
 H₀:Hp
 env:Env
 outer:List Env
 stack:List Env
 ex:List Addr
 fn:Str->Bool
 calm:Bool
 pn:List (Addr×Obj)
 xe:Value->Shared->Prop
def frs (l:List Env):List Addr:=l.filterMap (·.frame)
abbrev Cx.fs (X:Cx):List Addr:=frs X.outer
def Fj (sc:Scope) (x:Str):Prop:=sc.names.lookup x=some .local\/sc.names.lookup x=some .cell\/sc.names.lookup x=some .free
def Loc (sc:Scope) (x:Str):Prop:=sc.names.lookup x=some .local\/sc.names.lookup x=some .cell
def Look (env:Env) (h:Heap) (m:Str->Option Value) (x:Str) (u:Value):Prop :=
 (env.kindOf x=some .local/\m x=some u)\/((env.kindOf x=some .cell\/env.kindOf x=some .free)/\∃ c,env.cells.lookup x=some c/\h.IsCell c (some u))
structure Cx.Ok (X:Cx):Prop where
 mod:Mod X.K X.mg X.base
 kind:X.env.scope.kind=.function
 glob:X.env.globals=mainGlobals
 blt:X.env.builtins=builtinsNs
 above:X.s₀.heap.objs.size<=X.env.locals
 inj:∀ x y c,X.env.cells.lookup x=some c->X.env.cells.lookup y=some c->x=y
 has:∀ x,(X.env.kindOf x=some .cell\/X.env.kindOf x=some .free)->∃ c,X.env.cells.lookup x=some c
 zb:∀ x c,X.fn x=true->X.env.cells.lookup x=some c->X.s₀.heap.objs.size<=c
 hd:X.calm=true->X.A.handled=none
 frames:X.A.frames=some X.stack
 stk:X.stack=X.outer\/(X.stack=X.env :: X.outer/\X.env.frame=some X.env.locals)
 HX:∀ b∈X.ex,b≠X.env.locals/\∀ x c,X.env.cells.lookup x=some c->c≠b
 bs:∀ b o,X.base.get? b=some o->X.s₀.heap.get? b=some o/\X.H₀ b=none
 tw:X.base.objs.size<=X.s₀.heap.objs.size
 qg:∀ b o,X.base.get? b=some o->b ∉ X.ex
 r6:∀ b∈X.ex,b ∉ X.fs
 mh:X.s₀.heap.FunFrames X.base X.outer
 yf:∀ b∈X.fs,X.H₀ b=none
structure Inv (X:Cx) (pins:List (Addr×Obj)) (σ:List (Option V)) (H:Hp) (s:Shared):Prop where
 ok:X.Ok
 os:s.os=X.s₀.os
 bare:AllBare s.gens
 base:Un X.fs X.ex X.H₀ H X.s₀.heap s.heap
 loc:∃ m,s.heap.Ns X.env.locals m/\∀ (i:Nat) (x:Str) (v:V),X.N[i]?=some x->σ[i]?=some (some v)->Fj X.env.scope x->∃ u,RelV v u/\Look X.env s.heap m x u
 cell:∀ x c,X.env.cells.lookup x=some c->∃ v,s.heap.IsCell c v
 free:H X.env.locals=none
 jZ:∀ x c,X.env.cells.lookup x=some c->H c=none
 pin:∀ p∈X.pn ++ pins,s.heap.get? p.1=some p.2/\H p.1=none/\p.1≠X.env.locals/\p.1 ∉ X.fs/\∀ v,p.2.data≠.cell v
 hok:kF X.prog X.w H s.heap
 len:σ.length=X.N.length
section
variable {X:Cx} {pins:List (Addr×Obj)} {σ:List (Option V)} {H H':Hp} {s:Shared} {h':Heap}
theorem Cx.Ok.Fm (ok:X.Ok) {b:Addr} {o:Obj} (e:X.base.get? b=some o):b ∉ X.fs:=fun hb=>by
 have:=(ok.mh.mem hb).1
 rw [e] at this;cases this
theorem Inv.bs (I:Inv X pins σ H s):∀ b o,X.base.get? b=some o->s.heap.get? b=some o/\H b=none:=fun b o e =>
 ⟨I.base.keep b o (I.ok.bs b o e).1 (I.ok.bs b o e).2 (I.ok.Fm e) (I.ok.qg b o e),I.base.free b o (I.ok.bs b o e).1 (I.ok.bs b o e).2 (I.ok.qg b o e)⟩
theorem Inv.bk (I:Inv X pins σ H s):∀ b o,X.base.get? b=some o->s.heap.get? b=some o:=fun b o e=>(I.bs b o e).1
theorem Inv.mod (I:Inv X pins σ H s):Mod X.K X.mg X.base:=I.ok.mod
theorem Inv.C1 (I:Inv X pins σ H s):X.K.In s.heap:=I.ok.mod.Fi.keeps I.bk
theorem Inv.lt (I:Inv X pins σ H s):X.env.locals < s.heap.objs.size:=let ⟨_,hn,_⟩:=I.loc;hn.lt
theorem Inv.sz (I:Inv X pins σ H s):X.s₀.heap.objs.size<=s.heap.objs.size:=Uh I.ok.above (VT I.lt)
theorem Inv.zc (I:Inv X pins σ H s) {a:Addr} (h:s.heap.objs.size<=a):a ∉ X.fs:=fun hb=>by
 obtain ⟨_,o,ho,_⟩:=I.ok.mh.mem hb
 exact absurd (Ut (Ue ho) (Uh I.sz h)) (Vt _)
theorem Inv.va (I:Inv X pins σ H s):∀ x c,X.env.cells.lookup x=some c->c≠X.env.locals:=fun x c e z=>by
 obtain ⟨v,o,ho,hd⟩:=I.cell x c e
 obtain ⟨m,⟨o',es,ep,ho',hd',_⟩,_⟩:=I.loc
 rw [z,ho'] at ho;cases ho;rw [hd'] at hd;cases hd
theorem Inv.mh (I:Inv X pins σ H s):s.heap.FunFrames X.base X.outer:=by
 have all:∀ (l:List Env),(∀ b∈frs l,b∈X.fs)->X.s₀.heap.FunFrames X.base l->s.heap.FunFrames X.base l:=by
  intro l
  induction l with
  | nil=>intro _ _;trivial
  | cons env r ih =>
   intro hs hl
   obtain ⟨hk,⟨L,o,hf,hn,ho,hd⟩,hr⟩:=hl
   have hL:L∈X.fs:=hs L (by unfold frs;rw [VM,hf];exact TU)
   obtain ⟨sl,e⟩:=I.base.slot L o ho (I.ok.yf L hL) hL fun z=>I.ok.r6 L z hL
   exact ⟨hk,⟨L,_,hf,hn,e,hd⟩,ih (fun b hb=>hs b (by unfold frs;rw [VM,hf];exact TY _ hb)) hr⟩
 exact all X.outer (fun _ hb=>hb) I.ok.mh
theorem Inv.stack (I:Inv X pins σ H s):s.heap.FunFrames X.base X.stack:=by
 rcases I.ok.stk with e | ⟨e,hf⟩
 ·rw [e];exact I.mh
 ·rw [e]
  obtain ⟨m,hn,_⟩:=I.loc
  refine .cons (by rw [I.ok.kind];decide) hf hn ?_ I.mh
  exact Heap.get?_none_of_le (Uh I.ok.tw I.ok.above)
theorem Inv.mj (I:Inv X pins σ H s):∀ b∈frs X.stack,b∈X.env.locals :: X.fs:=fun b hb=>by
 rcases I.ok.stk with e | ⟨e,hf⟩
 ·rw [e] at hb;exact TY _ hb
 ·rw [e] at hb
  unfold frs at hb
  rw [VM,hf] at hb
  exact hb
theorem Inv.pd (I:Inv X pins σ H s):∀ b∈frs X.stack,H b=none:=fun b hb=>by
 rcases Up.mp (I.mj b hb) with e | hb
 ·rw [e];exact I.free
 ·obtain ⟨_,o,ho,_⟩:=I.ok.mh.mem hb
  exact I.base.free b o ho (I.ok.yf b hb) fun z=>I.ok.r6 b z hb
theorem Inv.step {g':Array GenState} {t':Nat} {d':Drawn} {ch:List Addr} (I:Inv X pins σ H s)
  (hch:∀ b∈ch,(b∈X.ex\/X.s₀.heap.objs.size<=b)/\b≠X.env.locals/\(∀ x c,X.env.cells.lookup x=some c->c≠b)/\∀ p∈X.pn ++ pins,p.1≠b)
  (keep:∀ b o,b≠X.env.locals->b ∉ X.fs->b ∉ ch->s.heap.get? b=some o->H b=none->h'.get? b=some o)
  (slot:∀ b o,b≠X.env.locals->b∈X.fs->b ∉ ch->s.heap.get? b=some o->H b=none->∃ sl,h'.get? b=some { o with slots:=sl }) (free:∀ b o,b ∉ ch->s.heap.get? b=some o->H b=none->H' b=none)
  (there:∀ b o,b ∉ ch->s.heap.get? b=some o->∃ o',h'.get? b=some o')
  (tups:∀ b xs,H b=some (.tup xs)->H' b=some (.tup xs)) (nu:∀ b o u,H b=some (.nr o u)->H' b=some (.nr o u)) (oi:∀ b ps,H b=some (.u6 ps)->∃ more,H' b=some (.u6 (ps ++ more)))
  (ns:∀ m,s.heap.Ns X.env.locals m->h'.Ns X.env.locals m) (hok:kF X.prog X.w H' h') (hg:AllBare g') :
  Inv X pins σ H' { s with heap:=h',gens:=g',drawn:=d',toks:=t' }:=by
 have vd:∀ b o,X.s₀.heap.get? b=some o->b≠X.env.locals:=fun b o e=>UA (Ut (Ue e) I.ok.above)
 have C2:∀ b o,X.s₀.heap.get? b=some o->b ∉ X.ex->b ∉ ch:=fun b o e hx hb=>by
  rcases (hch b hb).1 with z | z
  ·exact hx z
  ·exact absurd (Ut (Ue e) z) (Vt _)
 have cellK:∀ x c,X.env.cells.lookup x=some c->∀ v,s.heap.IsCell c v->h'.IsCell c v:=fun x c e v ⟨o,ho,hd⟩=>by
  have zd:c ∉ ch:=fun z=>(hch c z).2.2.1 x c e rfl
  by_cases hc:c∈X.fs
  ·obtain ⟨sl,q⟩:=slot c o (I.va x c e) hc zd ho (I.jZ x c e)
   exact ⟨_,q,hd⟩
  ·exact ⟨o,keep c o (I.va x c e) hc zd ho (I.jZ x c e),hd⟩
 refine ⟨I.ok,I.os,hg,⟨fun b o e n hb hx=>?_,fun b o e n hb hx=>?_,fun b o e n hx=>?_,fun b o e hx=>?_,fun b xs e=>tups b xs (I.base.tups b xs e),fun b o xs e=>nu b o xs (I.base.nu b o xs e),fun b ps e=>?_⟩,?_,fun x c e=>?_,?_,fun x c e=>?_,fun p hp=>?_,hok,I.len⟩
 ·exact keep b o (vd b o e) hb (C2 b o e hx) (I.base.keep b o e n hb hx) (I.base.free b o e n hx)
 ·obtain ⟨sl,e1⟩:=I.base.slot b o e n hb hx
  obtain ⟨Mp,e2⟩:=slot b _ (vd b o e) hb (C2 b o e hx) e1 (I.base.free b o e n hx)
  exact ⟨Mp,e2⟩
 ·obtain ⟨o',e1⟩:=I.base.there b o e hx
  exact free b o' (C2 b o e hx) e1 (I.base.free b o e n hx)
 ·obtain ⟨o',e1⟩:=I.base.there b o e hx
  exact there b o' (C2 b o e hx) e1
 ·obtain ⟨m1,e1⟩:=I.base.oi b ps e
  obtain ⟨m2,e2⟩:=oi b _ e1
  exact ⟨m1 ++ m2,by rw [e2,Array.append_assoc]⟩
 ·obtain ⟨m,hn,hl⟩:=I.loc
  refine ⟨m,ns m hn,fun i x v e1 e2 e3=>?_⟩
  obtain ⟨u,r,l⟩:=hl i x v e1 e2 e3
  refine ⟨u,r,?_⟩
  rcases l with l | ⟨k,c,e,z⟩
  ·exact .inl l
  ·exact .inr ⟨k,c,e,cellK x c e _ z⟩
 ·obtain ⟨v,z⟩:=I.cell x c e
  exact ⟨v,cellK x c e v z⟩
 ·obtain ⟨m,⟨o,_,_,ho,_⟩,_⟩:=I.loc
  exact free _ o (fun z=>(hch _ z).2.1 rfl) ho I.free
 ·obtain ⟨v,o,ho,hd⟩:=I.cell x c e
  exact free c o (fun z=>(hch c z).2.2.1 x c e rfl) ho (I.jZ x c e)
 ·obtain ⟨e,n,ne,nf,d⟩:=I.pin p hp
  have zd:p.1 ∉ ch:=fun z=>(hch p.1 z).2.2.2 p hp rfl
  exact ⟨keep p.1 p.2 ne nf zd e n,free p.1 p.2 zd e n,ne,nf,d⟩
theorem Inv.un {t':Nat} (I:Inv X pins σ H s) (u:Un X.fs [] H H' s.heap h') (hok:kF X.prog X.w H' h'):Inv X pins σ H' { s with heap:=h',toks:=t' }:=by
 obtain ⟨m,⟨o,es,ep,ho,r⟩,_⟩:=id I.loc
 obtain ⟨sl,hL⟩:=u.any ho I.free (by simp)
 exact I.step (g':=s.gens) (d':=s.drawn) (ch:=[]) (fun _ z=>nomatch z) (fun b o _ hb _ e n=>u.keep b o e n hb (by simp)) (fun b o _ hb _ e n=>u.slot b o e n hb (by simp)) (fun b o _ e n=>u.free b o e n (by simp)) (fun b o _ e=>u.there b o e (by simp)) u.tups u.nu u.oi (fun m' hm=>by
  obtain ⟨o',es',Fn,ho',r'⟩:=hm
  rw [ho] at ho';cases ho'
  exact ⟨_,es',Fn,hL,r'⟩) hok I.bare
theorem Inv.call {g':Array GenState} {t':Nat} {d':Drawn} {ch:List Addr} (I:Inv X pins σ H s) (u:Un (frs X.stack) ch H H' s.heap h') (hok:kF X.prog X.w H' h') (hg:AllBare g')
  (hch:∀ b∈ch,(b∈X.ex\/X.s₀.heap.objs.size<=b)/\b≠X.env.locals/\(∀ x c,X.env.cells.lookup x=some c->c≠b)/\∀ p∈X.pn ++ pins,p.1≠b) :
  Inv X pins σ H' { s with heap:=h',gens:=g',drawn:=d',toks:=t' }:=by
 obtain ⟨m,⟨o,es,ep,ho,r⟩,_⟩:=id I.loc
 obtain ⟨sl,hL⟩:=u.any ho I.free fun z=>(hch _ z).2.1 rfl
 exact I.step (ch:=ch) hch (fun b o hL hb hc e n=>u.keep b o e n (fun z=>(Up.mp (I.mj b z)).elim hL hb) hc) (fun b o _ _ hc e n=>u.any e n hc) (fun b o hc e n=>u.free b o e n hc) (fun b o hc e=>u.there b o e hc) u.tups u.nu u.oi (fun m' hm=>by
  obtain ⟨o',es',Fn,ho',r'⟩:=hm
  rw [ho] at ho';cases ho'
  exact ⟨_,es',Fn,hL,r'⟩) hok hg
theorem Inv.turned {t':Nat} {it:Addr} (I:Inv X pins σ H s) (k:∀ b o,b≠it->s.heap.get? b=some o->h'.get? b=some o) (hn:H it=none) (hL:it≠X.env.locals)
  (h1:it∈X.ex\/X.s₀.heap.objs.size<=it) (h2:∀ x c,X.env.cells.lookup x=some c->c≠it) (h3:∀ p∈X.pn ++ pins,p.1≠it):Inv X pins σ H { s with heap:=h',toks:=t' }:=by
 have ze:∀ b u,H b=some u->b≠it:=fun b u e z=>by rw [z,hn] at e;cases e
 refine I.step (g':=s.gens) (d':=s.drawn) (ch:=[it]) (fun b hb=>?_) (fun b o _ _ hc e _=>k b o (fun z=>hc (by simp [z])) e) (fun b o _ _ hc e _=>⟨o.slots,k b o (fun z=>hc (by simp [z])) e⟩) (fun _ _ _ _ n=>n)
  (fun b o hc e=>⟨o,k b o (fun z=>hc (by simp [z])) e⟩) (fun _ _ e=>e) (fun _ _ _ e=>e) (fun b ps e=>⟨#[],by rw [e];simp⟩) (fun m hm=>?_) (fun b u e=>?_) I.bare
 ·have e:b=it:=by simpa using hb
  subst e
  exact ⟨h1,hL,h2,h3⟩
 ·obtain ⟨o,es,ep,ho,r⟩:=hm
  exact ⟨o,es,ep,k _ o (Ne.symm hL) ho,r⟩
 ·refine (I.hok b u e).stay (fun c v hc q=>k c v ?_ q) (fun _ q=>q) fun _ _ q=>q
  rcases hc with z | z
  ·rw [z];exact ze b u e
  ·exact ze c _ z
theorem Inv.tok (I:Inv X pins σ H s) (t:Nat):Inv X pins σ H { s with toks:=t }:=I.un (h':=s.heap) (t':=t) Un.refl I.hok
theorem Inv.kept {t':Nat} (I:Inv X pins σ H s) (k:∀ b u,s.heap.get? b=some u->h'.get? b=some u):Inv X pins σ H { s with heap:=h',toks:=t' }:=I.un (Un.kept k) (I.hok.kept k)
theorem Inv.laid {a:Addr} {o:HO} {t':Nat} (I:Inv X pins σ H s) (k:∀ b u,s.heap.get? b=some u->h'.get? b=some u) (hp:s.heap.objs.size<=a) (new:cm X.prog X.w (upd H a o) h' a o) :
  Inv X pins σ (upd H a o) { s with heap:=h',toks:=t' }:=I.un (Un.laid k hp (I.hok.fresh hp)) (I.hok.laid k hp new)
theorem Inv.write {x e:Addr} {o:HO} {t':Nat} (I:Inv X pins σ H s) (mu:y9 (H x)) (he:e=x\/H e=some (.own x)) (k:∀ b u,b≠e->s.heap.get? b=some u->h'.get? b=some u) (ye:∃ u,h'.get? e=some u)
  (new:cm X.prog X.w (upd H x o) h' x o):Inv X pins σ (upd H x o) { s with heap:=h',toks:=t' }:=I.un (Un.write mu he k ye) (I.hok.write mu he k ye new)
theorem Inv.lS {tD:List (Addr×Obj)} (I:Inv X pins σ H s) (h:∀ p∈tD,s.heap.get? p.1=some p.2/\H p.1=none/\p.1≠X.env.locals/\p.1 ∉ X.fs/\∀ v,p.2.data≠.cell v):Inv X tD σ H s :=
 ⟨I.ok,I.os,I.bare,I.base,I.loc,I.cell,I.free,I.jZ,fun p hp=>(Uk.mp hp).elim (fun z=>I.pin p (U8 _ z)) (h p),I.hok,I.len⟩
theorem HY {N:List Str} (hN:N.Nodup) {i j:Nat} {x:Str} (a:N[i]?=some x) (b:N[j]?=some x):i=j:=by
 obtain ⟨h1,e1⟩:=TK.mp a
 obtain ⟨h2,e2⟩:=TK.mp b
 exact (VU hN).mp (e1.trans e2.symm)
theorem HZ {M:Model} {A:Around} {E:Value->Shared->Prop} {i:Nat} {x:Str} {v:V} {u:Value} {Q:Unit->Shared->Prop} (I:Inv X pins σ H s) (hN:X.N.Nodup) (hi:X.N[i]?=some x) (hx:Loc X.env.scope x) (r:RelV v u)
  (h:∀ s',Inv X pins (σ.set i (some v)) H s'->(∃ a,Heap.SameBut a s.heap s'.heap/\(a=X.env.locals\/X.env.cells.lookup x=some a))->Q () s') (hf:X.fn x=true\/X.env.scope.names.lookup x=some .local:=by first | exact .inl rfl | exact .inr rfl | assumption):wpAny M A (storeName X.env x u) Q E s:=by
 obtain ⟨m,hn,hl⟩:=id I.loc
 have hcls:(X.env.scope.kind == .class || (X.env.scope.kind == .module && X.env.locals != X.env.globals))=false:=by rw [I.ok.kind];rfl
 have hiσ:i < σ.length:=by rw [I.len];exact (TK.mp hi).1
 have va:=I.va
 have tracked:∀ {a:Addr} {h':Heap},(∃ o,s.heap.get? a=some o/\H a=none)->Heap.SameBut a s.heap h'->kF X.prog X.w H h':=fun {a h'} ha hs b ob e=>by
  obtain ⟨_,_,hfree⟩:=ha
  refine (I.hok b ob e).stay (fun c w' hc q=>(hs.2 c ?_).trans q) (fun _ q=>q) fun _ _ q=>q
  rintro rfl
  rcases hc with rfl | hc
  ·rw [hfree] at e;cases e
  ·rw [hfree] at hc;cases hc
 rcases hx with hk | hk
 ·refine wpAny_storeName_local hk hn (fun h' hn' hs=>?_) hcls
  obtain ⟨oL,_,_,Mq,_⟩:=id hn
  refine h _ ⟨I.ok,I.os,I.bare,⟨fun b o e n hb hx=>?_,fun b o e n hb hx=>?_,I.base.free,fun b o e hx=>?_,I.base.tups,I.base.nu,I.base.oi⟩,⟨_,hn',fun j y v' e1 e2 e3=>?_⟩,fun y c e=>?_,I.free,I.jZ,fun p hp=>?_,tracked ⟨oL,Mq,I.free⟩ hs,by simpa using I.len⟩ ⟨_,hs,.inl rfl⟩
  ·exact (hs.2 b (UA (Ut (Ue e) I.ok.above))).trans (I.base.keep b o e n hb hx)
  ·obtain ⟨sl,e1⟩:=I.base.slot b o e n hb hx
   exact ⟨sl,(hs.2 b (UA (Ut (Ue e) I.ok.above))).trans e1⟩
  ·obtain ⟨o',e1⟩:=I.base.there b o e hx
   exact ⟨o',(hs.2 b (UA (Ut (Ue e) I.ok.above))).trans e1⟩
  ·by_cases hj:j=i
   ·subst hj
    rw [hi] at e1;cases e1
    rw [TQ hiσ] at e2
    cases e2
    exact ⟨u,r,.inl ⟨hk,by simp⟩⟩
   ·rw [TV (Ne.symm hj)] at e2
    obtain ⟨u',r',q⟩:=hl j y v' e1 e2 e3
    refine ⟨u',r',?_⟩
    rcases q with ⟨k,e⟩ | ⟨k,c,e,z⟩
    ·refine .inl ⟨k,?_⟩
     have:y≠x:=fun e=>hj (HY hN e1 (e ▸ hi))
     simp [this,e]
    ·exact .inr ⟨k,c,e,z.sameBut hs (va y c e)⟩
  ·obtain ⟨w',z⟩:=I.cell y c e
   exact ⟨w',z.sameBut hs (va y c e)⟩
  ·obtain ⟨e,n,ne,nf,d⟩:=I.pin p hp
   exact ⟨(hs.2 p.1 ne).trans e,n,ne,nf,d⟩
 ·have hfn:X.fn x=true:=by
   rcases hf with z | z
   ·exact z
   ·rw [z] at hk;cases hk
  obtain ⟨c,hc⟩:=I.ok.has x (.inl hk)
  obtain ⟨w',z⟩:=I.cell x c hc
  refine wpAny_storeName_cell I.ok.kind hk hc z (fun h' hc' hs=>?_)
  obtain ⟨oc,hoc,Fp⟩:=id z
  refine h { s with heap:=h' } ⟨I.ok,I.os,I.bare,⟨fun b o e n hb hx=>?_,fun b o e n hb hx=>?_,I.base.free,fun b o e hx=>?_,I.base.tups,I.base.nu,I.base.oi⟩,⟨m,hn.sameBut hs (Ne.symm (va x c hc)),fun j y v' e1 e2 e3=>?_⟩,fun y c' e=>?_,I.free,I.jZ,fun p hp=>?_,tracked ⟨oc,hoc,I.jZ x c hc⟩ hs,by simpa using I.len⟩ ⟨c,hs,.inr hc⟩
  ·exact (hs.2 b (UA (Ut (Ue e) (I.ok.zb x c hfn hc)))).trans (I.base.keep b o e n hb hx)
  ·obtain ⟨sl,e1⟩:=I.base.slot b o e n hb hx
   exact ⟨sl,(hs.2 b (UA (Ut (Ue e) (I.ok.zb x c hfn hc)))).trans e1⟩
  ·obtain ⟨o',e1⟩:=I.base.there b o e hx
   exact ⟨o',(hs.2 b (UA (Ut (Ue e) (I.ok.zb x c hfn hc)))).trans e1⟩
  ·by_cases hj:j=i
   ·subst hj
    rw [hi] at e1;cases e1
    rw [TQ hiσ] at e2
    cases e2
    exact ⟨u,r,.inr ⟨.inl hk,c,hc,hc'⟩⟩
   ·rw [TV (Ne.symm hj)] at e2
    obtain ⟨u',r',q⟩:=hl j y v' e1 e2 e3
    refine ⟨u',r',?_⟩
    rcases q with q | ⟨k,c',e,z'⟩
    ·exact .inl q
    ·refine .inr ⟨k,c',e,z'.sameBut hs ?_⟩
     rintro rfl
     exact hj (HY hN e1 (I.ok.inj _ _ _ e hc ▸ hi))
  ·by_cases hcc:c'=c
   ·subst hcc;exact ⟨_,hc'⟩
   ·obtain ⟨w2,z2⟩:=I.cell y c' e
    exact ⟨w2,z2.sameBut hs hcc⟩
  ·obtain ⟨e,n,ne,nf,d⟩:=I.pin p hp
   refine ⟨(hs.2 p.1 ?_).trans e,n,ne,nf,d⟩
   intro q
   rw [q,hoc] at e
   have q':oc=p.2:=T5 e
   exact d w' (by rw [<- q'];exact Fp)
theorem C3 {M:Model} {A:Around} {E:Value->Shared->Prop} {i:Nat} {x:Str} {v:V} {u:Value} {Q:Unit->Shared->Prop} (I:Inv X pins σ H s) (hN:X.N.Nodup) (hi:X.N[i]?=some x) (hx:Loc X.env.scope x) (r:RelV v u)
  (h:∀ s',Inv X pins (σ.set i (some v)) H s'->Q () s') (hf:X.fn x=true\/X.env.scope.names.lookup x=some .local:=by first | exact .inl rfl | exact .inr rfl | assumption):wpAny M A (storeName X.env x u) Q E s :=
 HZ I hN hi hx r (fun s' I' _=>h s' I') hf
theorem Inv.zf {s':Shared} {ch:List Addr} (I:Inv X pins σ H s) (ho:s'.os=s.os) (u:Un (frs X.stack) ch H H' s.heap s'.heap) (hok:kF X.prog X.w H' s'.heap) (hg:AllBare s'.gens)
  (hch:∀ b∈ch,(b∈X.ex\/X.s₀.heap.objs.size<=b)/\b≠X.env.locals/\(∀ x c,X.env.cells.lookup x=some c->c≠b)/\∀ p∈X.pn ++ pins,p.1≠b):Inv X pins σ H' s':=by
 obtain ⟨h',g',d',t',o'⟩:=s'
 have e:o'=s.os:=ho
 subst e
 exact I.call (g':=g') (t':=t') (d':=d') u hok hg hch
end
abbrev XK:=Value->Option Addr->Hp->Prop
abbrev St:=List (Option V)
abbrev VK:=V->Hp->Prop
abbrev TE:=St->Hp->VK->Prop
abbrev TT:=St->Hp->(Bool->Hp->Prop)->Prop
abbrev TA:=St->Hp->(List V->Hp->Prop)->Prop
set_option genInjectivity false in
structure Ends where
 nx:St->Hp->Prop
 rt:VK
 bk:St->Hp->Prop:=fun _ _=>False
 ct:St->Hp->Prop:=fun _ _=>False
abbrev TS:=Ends->St->Hp->Prop
def EP (X:Cx) (pins:List (Addr×Obj)) (σ:St) (Q:VK) (u:Value) (s':Shared):Prop:=∃ v H',Inv X pins σ H' s'/\RelV v u/\Q v H'
def TP (X:Cx) (pins:List (Addr×Obj)) (σ:St) (Q:Bool->Hp->Prop) (b:Bool) (s':Shared):Prop:=∃ H',Inv X pins σ H' s'/\Q b H'
def AP (X:Cx) (pins:List (Addr×Obj)) (σ:St) (Q:List V->Hp->Prop) (us:List Value) (s':Shared):Prop:=∃ vs H',Inv X pins σ H' s'/\Vals vs us/\Q vs H'
def SP (X:Cx) (pins:List (Addr×Obj)) (D:Ends) (f:Flow) (s':Shared):Prop :=
 match f with
 | .next=>∃ σ' H',Inv X pins σ' H' s'/\D.nx σ' H'
 | .brk=>∃ σ' H',Inv X pins σ' H' s'/\D.bk σ' H'
 | .cont=>∃ σ' H',Inv X pins σ' H' s'/\D.ct σ' H'
 | .ret u=>∃ v σ' H',Inv X pins σ' H' s'/\RelV v u/\D.rt v H'
def PE (X:Cx) (e:Expr) (t:TE):Prop :=
 ∀ (pins:List (Addr×Obj)) (s:Shared) (σ:St) (H:Hp) (Q:VK),Inv X pins σ H s->t σ H Q->wpAny (model X.prog X.w) X.A (eval e X.env) (EP X pins σ Q) X.xe s
def PT (X:Cx) (e:Expr) (t:TT):Prop :=
 ∀ (pins:List (Addr×Obj)) (s:Shared) (σ:St) (H:Hp) (Q:Bool->Hp->Prop),Inv X pins σ H s->t σ H Q->wpAny (model X.prog X.w) X.A (isTrue e X.env (eval e X.env)) (TP X pins σ Q) X.xe s
def PW (X:Cx) (e:Expr) (t:TT):Prop :=
 ∀ (whole:Sem Value) (pins:List (Addr×Obj)) (s:Shared) (σ:St) (H:Hp) (Q:Bool->Hp->Prop),Inv X pins σ H s->t σ H Q->wpAny (model X.prog X.w) X.A (isTrue e X.env whole) (TP X pins σ Q) X.xe s
theorem PW.pt {X:Cx} {e:Expr} {t:TT} (h:PW X e t):PT X e t:=h _
def PA (X:Cx) (es:List Expr) (t:TA):Prop :=
 ∀ (pos:Pos) (pins:List (Addr×Obj)) (s:Shared) (σ:St) (H:Hp) (Q:List V->Hp->Prop),Inv X pins σ H s->t σ H Q->wpAny (model X.prog X.w) X.A (spliced (backTo pos (starEach es X.env))) (AP X pins σ Q) X.xe s
def PS (X:Cx) (st:Stmt) (t:TS):Prop :=
 ∀ (pins:List (Addr×Obj)) (s:Shared) (σ:St) (H:Hp) (D:Ends),Inv X pins σ H s->t D σ H->wpAny (model X.prog X.w) X.A (exec st X.env) (SP X pins D) X.xe s
def pe (X:Cx) (st:List Stmt) (t:TS):Prop :=
 ∀ (pins:List (Addr×Obj)) (s:Shared) (σ:St) (H:Hp) (D:Ends),Inv X pins σ H s->t D σ H->wpAny (model X.prog X.w) X.A (execs st X.env) (SP X pins D) X.xe s
theorem cy {α:Type} {t:Sem α} {Q Q':α->Shared->Prop} {M:Model} {A:Around} {E:Value->Shared->Prop} {s:Shared} (h:wpAny M A t Q E s) (hQ:∀ a s,Q a s->Q' a s):wpAny M A t Q' E s:=wpAny_mono h hQ fun _ _ x=>x
section
variable {X:Cx}
def ve (i:Nat):TE:=fun σ H Q=>∃ v,σ[i]?=some (some v)/\Q v H
def tC (v:V):TE:=fun _ H Q=>Q v H
theorem vf {i:Nat} {x:Str} {pos:Pos} (hN:X.N[i]?=some x) (hv:Fj X.env.scope x) (hd:(x == ("__debug__" : Str))=false:=by decide) (hcd:(x == ("__classdict__" : Str))=false:=by decide):PE X (.Name x pos) (ve i):=by
 intro pins s σ H Q I h
 obtain ⟨v,e,h⟩:=h
 obtain ⟨m,hn,hl⟩:=I.loc
 obtain ⟨u,r,l⟩:=hl i x v hN e hv
 have fin:EP X pins σ Q u s:=⟨v,H,I,r,h⟩
 rcases l with ⟨hk,hm⟩ | ⟨hk,c,hc,hcell⟩
 ·exact wpAny_Name (wpAny_loadName_local I.ok.kind hk hn hm fin) hd
 ·rcases hk with hk | hk
  ·exact wpAny_Name (wpAny_loadName_cell I.ok.kind hk hc hcell fin) hd
  ·exact wpAny_Name (wpAny_loadName_free I.ok.kind hk hc hcell fin hcd) hd
theorem aJ {i j pos}:PE X (.Constant (.int i) j pos) (tC (.int i)):=fun _ _ _ H _ I h=>wpAny_Constant_int ⟨.int i,H,I.tok _,⟨_,rfl⟩,h⟩
theorem C4 {b j pos}:PE X (.Constant (.bool b) j pos) (tC (.bl b)):=fun _ _ _ H _ I h=>Constant_bool ⟨.bl b,H,I,rfl,h⟩
theorem Ie {j pos}:PE X (.Constant .none j pos) (tC .non):=fun _ _ _ H _ I h=>Constant_none ⟨.non,H,I,rfl,h⟩
theorem oV {x j pos}:PE X (.Constant (.str x) j pos) (tC (.str x)):=fun _ _ _ H _ I h=>Calls.Constant_str ⟨.str x,H,I.tok _,⟨_,rfl⟩,h⟩
def Gl (X:Cx) (x:Str):Prop:=X.env.kindOf x=some .globalImplicit
theorem Ig {E:Value->Shared->Prop} {pins:List (Addr×Obj)} {s:Shared} {σ:St} {H:Hp} {x:Str} {u:Value} {pos:Pos} {Q:Value->Shared->Prop} (I:Inv X pins σ H s) (hg:Gl X x) (hm:X.mg x=some u) (h:Q u s)
  (hd:(x == ("__debug__" : Str))=false:=by decide):wpAny (model X.prog X.w) X.A (eval (.Name x pos) X.env) Q E s :=
 Calls.Name_function_global I.ok.kind hg (Calls.loadGlobal_global (by rw [I.ok.glob];exact I.mod.glob.keeps I.bk) hm h) hd
theorem yg {E:Value->Shared->Prop} {pins:List (Addr×Obj)} {s:Shared} {σ:St} {H:Hp} {x:Str} {u:Value} {pos:Pos} {Q:Value->Shared->Prop} (I:Inv X pins σ H s) (hg:Gl X x) (hm:X.mg x=none) (hv:bootBuiltins x=some u) (h:Q u s)
  (hn:x≠"__name__" := by decide) (hd:(x == ("__debug__" : Str))=false:=by decide):wpAny (model X.prog X.w) X.A (eval (.Name x pos) X.env) Q E s:=by
 obtain ⟨mb,h1,h2⟩:=I.mod.blt
 exact Calls.Name_function_global I.ok.kind hg (Calls.loadGlobal_builtin (by rw [I.ok.glob];exact I.mod.glob.keeps I.bk) hm (by rw [I.ok.blt];exact h1.keeps I.bk) ((h2 x hn).trans hv) h) hd
theorem Mr {x:Str} {v:V} {u:Value} {pos:Pos} (hg:Gl X x) (hm:X.mg x=some u) (r:RelV v u) (hd:(x == ("__debug__" : Str))=false:=by decide):PE X (.Name x pos) (tC v) :=
 fun _ _ _ H _ I h=>Ig I hg hm ⟨v,H,I,r,h⟩ hd
variable {a b:Expr} {ta tb:TE} {pos:Pos}
def PC (X:Cx) (op:CmpOp) (a b:Expr) (t:TE):Prop :=
 ∀ (pins:List (Addr×Obj)) (s:Shared) (σ:St) (H:Hp) (Q:VK),Inv X pins σ H s->t σ H Q ->
  wpAny (model X.prog X.w) X.A (eval a X.env) (fun v s₁=>wpAny (model X.prog X.w) X.A (eval b X.env) (fun u s₂=>wpAny (model X.prog X.w) X.A (compareOp op v u) (EP X pins σ Q) X.xe s₂) X.xe s₁) X.xe s
theorem qh (b:Expr) {op:CmpOp} (h:op≠.In) (h2:op≠.NotIn):behindInMarks op b=false:=by
 have e1:(op == CmpOp.In)=false:=by cases op <;> first | rfl | exact absurd rfl h
 have e2:(op == CmpOp.NotIn)=false:=by cases op <;> first | rfl | exact absurd rfl h2
 cases b <;> simp [behindInMarks,e1,e2]
def tB (t:TE):TT:=fun σ H Q=>t σ H fun x H1=>∃ c,x=.bl c/\Q c H1
theorem vg {op:CmpOp} {t:TE} (h:PC X op a b t) (h1:behindInMarks op b=false:=by first | exact qh _ (by decide) (by decide) | rfl):PT X (.Compare a [op] [b] pos) (tB t):=by
 intro pins s σ H Q I hw
 refine wpAny_isTrue_Compare1 (cy (h pins s σ H _ I hw) fun v s1 h1=>cy h1 fun u s2 h2=>cy h2 fun c s3 ⟨x,H1,I1,r1,q1⟩=>?_) h1
 obtain ⟨d,rfl,q⟩:=q1
 cases r1
 exact wpAny_truthy_bool ⟨H1,I1,q⟩
variable {tA Ih:TT} {rest:List Expr}
def zg (t u:TT):TT:=fun σ H Q=>t σ H fun c H1=>if c=true then u σ H1 Q else Q false H1
theorem Fq (ha:PT X a tA):PW X (.BoolOp .And [a] pos) tA:=by
 intro wh pins s σ H Q I h
 refine isTrue_and (cy (ha pins s σ H Q I h) fun c s1 e=>?_)
 cases c with
 | true=>exact isTrue_and_nil e
 | false=>exact e
theorem Fs (ha:PT X a tA) (hb:PW X (.BoolOp .And (b :: rest) pos) Ih):PW X (.BoolOp .And (a :: b :: rest) pos) (zg tA Ih):=by
 intro wh pins s σ H Q I h
 refine isTrue_and (cy (ha pins s σ H _ I h) fun c s1 ⟨H1,I1,q1⟩=>?_)
 cases c with
 | true=>exact hb wh pins s1 σ H1 Q I1 q1
 | false=>exact ⟨H1,I1,q1⟩
end
def iZ (K:Zfr) (H:Hp) (a:Addr) (xs:List V):Prop :=
 Rd H a (.lst xs) \/
  ∃ (o:Obj) (its:Array Value) (n:Nat),K.lookup a=some o/\o.cls=.type "list" /\ o.dict=none/\o.data=.seq its n/\its.size<=sizeLine/\Vals xs its.toList
def dW (K:Zfr) (H:Hp) (a:Addr) (xs:List V):Prop :=
 Rd H a (.tup xs) \/
  ∃ (o:Obj) (its:Array Value) (n:Nat),K.lookup a=some o/\o.cls=.type "tuple" /\ o.dict=none/\o.data=.seq its n/\its.size<=sizeLine/\Vals xs its.toList
def Ft:Value->Option V
 | .none=>some .non
 | .bool b=>some (.bl b)
 | .int i _=>some (.int i)
 | .str x _=>some (.str x)
 | .bytes b _=>some (.qf b)
 | .float b _=>some (.Ff b)
 | .ref a=>some (.ref a)
 | .type n=>some (.ty n)
 | _=>none
theorem RelV.abs {x:V} {u:Value} (r:RelV x u):Ft u=some x:=by
 cases x with
 | non=>cases r;rfl
 | bl _=>cases r;rfl
 | int _=>obtain ⟨t,rfl⟩:=r;rfl
 | str _=>obtain ⟨t,rfl⟩:=r;rfl
 | qf _=>obtain ⟨t,rfl⟩:=r;rfl
 | Ff _=>obtain ⟨t,rfl⟩:=r;rfl
 | ref _=>cases r;rfl
 | ty _=>cases r;rfl
theorem RelV.inj {x y:V} {u:Value} (r:RelV x u) (q:RelV y u):x=y:=T5 (r.abs.symm.trans q.abs)
theorem Vals.inj:∀ {xs ys:List V} {us:List Value},Vals xs us->Vals ys us->xs=ys
 | _,_,_,.nil,.nil=>rfl
 | _,_,_,.cons r t,.cons r' t'=>by rw [r.inj r',Vals.inj t t']
section
variable {X:Cx} {pins:List (Addr×Obj)} {σ:St} {H:Hp} {s:Shared} {a:Addr} {xs ys:List V}
theorem dW.of {K:Zfr} (h:H a=some (.tup xs)):dW K H a xs:=.inl (.inl h)
theorem Inv.list (I:Inv X pins σ H s) (h:iZ X.K H a xs):∃ its:List Value,Vals xs its/\PlainL s.heap a its.toArray/\xs.length<=sizeLine:=by
 rcases h with h | ⟨o,its,n,hk,hc,hd,hs,hz,r⟩
 ·obtain ⟨z,its,n,r,e⟩:=h.ok I.hok
  exact ⟨its,r,⟨_,n,e,rfl,rfl,rfl⟩,z⟩
 ·refine ⟨its.toList,r,⟨o,n,I.C1 a o hk,hc,hd,by simpa using hs⟩,?_⟩
  have e:=r.length
  simp only [Vv] at e
  omega
theorem Inv.oW (I:Inv X pins σ H s) (h:dW X.K H a xs):∃ its:List Value,Vals xs its/\nt s.heap a its.toArray/\xs.length<=sizeLine:=by
 rcases h with h | ⟨o,its,n,hk,hc,hd0,hs,hz,r⟩
 ·obtain ⟨z,its,r,p⟩:=h.ok I.hok
  exact ⟨its,r,p,z⟩
 ·refine ⟨its.toList,r,⟨o,I.C1 a o hk,hc,hd0,n,by simpa using hs⟩,?_⟩
  have e:=r.length
  simp only [Vv] at e
  omega
theorem Inv.tuple (I:Inv X pins σ H s) (h:dW X.K H a xs):∃ its:List Value,Vals xs its/\IsTup s.heap a its.toArray/\xs.length<=sizeLine :=
 let ⟨its,r,p,z⟩:=I.oW h
 ⟨its,r,p.tup,z⟩
theorem Inv.oj (I:Inv X pins σ H s) (h:iZ X.K H a xs) (h':iZ X.K H a ys):xs=ys:=by
 obtain ⟨its,r,⟨o,n,e,_,_,d⟩,_⟩:=I.list h
 obtain ⟨its',r',⟨o',n',e',_,_,d'⟩,_⟩:=I.list h'
 rw [e] at e';cases e'
 rw [d] at d'
 injection d' with d1 _
 have:its=its':=by simpa using congrArg Array.toList d1
 subst this
 exact r.inj r'
theorem Inv.gJ (I:Inv X pins σ H s) (h:dW X.K H a xs) (h':dW X.K H a ys):xs=ys:=by
 obtain ⟨its,r,⟨o,e,_,n,d⟩,_⟩:=I.tuple h
 obtain ⟨its',r',⟨o',e',_,n',d'⟩,_⟩:=I.tuple h'
 rw [e] at e';cases e'
 rw [d] at d'
 injection d' with d1 _
 have:its=its':=by simpa using congrArg Array.toList d1
 subst this
 exact r.inj r'
end
abbrev Cx.wish (X:Cx) (E:Value->Shared->Prop):Cx:={ X with xe:=E }
abbrev Cx.nz (X:Cx):Cx:=X.wish fun _ _=>False
theorem Cx.Ok.wish {X:Cx} (ok:X.Ok) (E:Value->Shared->Prop):(X.wish E).Ok :=
 ⟨ok.mod,ok.kind,ok.glob,ok.blt,ok.above,ok.inj,ok.has,ok.zb,ok.hd,ok.frames,ok.stk,ok.HX,ok.bs,ok.tw,ok.qg,ok.r6,ok.mh,ok.yf⟩
theorem Cx.Ok.i7 {X:Cx} {E:Value->Shared->Prop} (ok:(X.wish E).Ok):X.Ok :=
 ⟨ok.mod,ok.kind,ok.glob,ok.blt,ok.above,ok.inj,ok.has,ok.zb,ok.hd,ok.frames,ok.stk,ok.HX,ok.bs,ok.tw,ok.qg,ok.r6,ok.mh,ok.yf⟩
section
variable {X:Cx} {pins:List (Addr×Obj)} {σ:St} {H:Hp} {s:Shared} {E:Value->Shared->Prop}
theorem Inv.wish (I:Inv X pins σ H s) (E:Value->Shared->Prop):Inv (X.wish E) pins σ H s:=⟨I.ok.wish E,I.os,I.bare,I.base,I.loc,I.cell,I.free,I.jZ,I.pin,I.hok,I.len⟩
theorem Inv.i7 (I:Inv (X.wish E) pins σ H s):Inv X pins σ H s:=⟨I.ok.i7,I.os,I.bare,I.base,I.loc,I.cell,I.free,I.jZ,I.pin,I.hok,I.len⟩
theorem SP.i7 {D:Ends} {f:Flow} {s':Shared} (h:SP (X.wish E) pins D f s'):SP X pins D f s':=by
 cases f with
 | next=>obtain ⟨σ',H',I,q⟩:=h;exact ⟨σ',H',I.i7,q⟩
 | brk=>obtain ⟨σ',H',I,q⟩:=h;exact ⟨σ',H',I.i7,q⟩
 | cont=>obtain ⟨σ',H',I,q⟩:=h;exact ⟨σ',H',I.i7,q⟩
 | ret u=>obtain ⟨v,σ',H',I,r,q⟩:=h;exact ⟨v,σ',H',I.i7,r,q⟩
theorem pe.nz {st:List Stmt} {t:TS} (h:pe X.nz st t):pe X st t:=fun pins s σ H D I hw =>
 wpAny_mono (h pins s σ H D (I.wish _) hw) (fun _ _ q=>q.i7) fun _ _ z=>False.elim z
end
section
variable {X:Cx} {st:Stmt} {rest:List Stmt} {t u:TS} {e:Expr} {te:TE} {pos:Pos}
def tG:TS:=fun D σ H=>D.nx σ H
def zh (t u:TS):TS:=fun D σ H=>t { D with nx:=u D } σ H
theorem kP:pe X [] tG:=fun _ _ σ H _ I h=>wpAny_execs_nil ⟨σ,H,I,h⟩
theorem aZ (h1:PS X st t) (h2:pe X rest u):pe X (st :: rest) (zh t u):=by
 intro pins s σ H D I h
 refine wpAny_execs_cons (cy (h1 pins s σ H { D with nx:=u D } I h) fun f s1 q=>?_)
 cases f with
 | next =>
  obtain ⟨σ',H',I',q⟩:=q
  exact h2 pins s1 σ' H' D I' q
 | ret v=>exact q
 | brk=>exact q
 | cont=>exact q
theorem a8 (h1:PS X st t):pe X [st] t:=by
 intro pins s σ H D I h
 refine wpAny_execs_cons (cy (h1 pins s σ H D I h) fun f s1 q=>?_)
 cases f with
 | next=>exact wpAny_execs_nil q
 | ret v=>exact q
 | brk=>exact q
 | cont=>exact q
theorem Inv.quiet {pins:List (Addr×Obj)} {σ:St} {H:Hp} {s:Shared} (I:Inv X pins σ H s):interactive X.env=false:=by simp [interactive,I.ok.kind]
def tH (te:TE):TS:=fun D σ H=>te σ H fun _ H1=>D.nx σ H1
theorem nA (he:PE X e te) (hs:swapsWith e none pos.line X.env=pure false:=by rfl):PS X (.Expr e pos) (tH te):=by
 intro pins s σ H D I h
 exact wpAny_Expr_any (cy (he pins s σ H _ I h) fun v s1 ⟨x,H1,I1,r1,q1⟩=>⟨σ,H1,I1,q1⟩) I.quiet hs
def zi (te:TE):TS:=fun D σ H=>te σ H D.rt
theorem dN (he:PE X e te):PS X (.Return (some e) pos) (zi te):=by
 intro pins s σ H D I h
 exact wpAny_Return_some (cy (he pins s σ H _ I h) fun v s1 ⟨x,H1,I1,r1,q1⟩=>⟨x,σ,H1,I1,r1,q1⟩)
def zj (c:TT) (t u:TS):TS:=fun D σ H=>c σ H fun b H1=>if b=true then t D σ H1 else u D σ H1
theorem j4 {c:Expr} {a b:List Stmt} {tc:TT} (hc:PT X c tc) (ha:pe X a t) (hb:pe X b u):PS X (.If c a b pos) (zj tc t u):=by
 intro pins s σ H D I h
 refine wpAny_If (cy (hc pins s σ H _ I h) fun d s1 ⟨H1,I1,q1⟩=>?_)
 cases d with
 | true=>exact ha pins s1 σ H1 D I1 q1
 | false=>exact hb pins s1 σ H1 D I1 q1
def qi:TS:=fun _ _ _=>False
theorem Ms:PS X st qi:=fun _ _ _ _ _ _ h=>h.elim
end
abbrev TG:=V->St->Hp->(St->Hp->Prop)->Prop
abbrev rD:=List V->St->Hp->(St->Hp->Prop)->Prop
def PG (X:Cx) (target:Expr) (t:TG):Prop :=
 ∀ (pins:List (Addr×Obj)) (s:Shared) (σ:St) (H:Hp) (v:V) (u:Value) (Q:St->Hp->Prop),Inv X pins σ H s->RelV v u->t v σ H Q ->
  wpAny (model X.prog X.w) X.A (assign target X.env u) (fun _ s'=>∃ σ' H',Inv X pins σ' H' s'/\Q σ' H') X.xe s
def C5 (X:Cx) (ts:List Expr) (t:rD):Prop :=
 ∀ (pins:List (Addr×Obj)) (s:Shared) (σ:St) (H:Hp) (vs:List V) (us:List Value) (Q:St->Hp->Prop),Inv X pins σ H s->Vals vs us->t vs σ H Q ->
  wpAny (model X.prog X.w) X.A (assignInOrder ((assignEach ts X.env).map (·.2)) us) (fun _ s'=>∃ σ' H',Inv X pins σ' H' s'/\Q σ' H') X.xe s
abbrev vh:=V->V->V->Hp->(Hp->Prop)->Prop
def zk (X:Cx) (t:vh):Prop :=
 ∀ (pins:List (Addr×Obj)) (s:Shared) (σ:St) (H:Hp) (o i v:V) (ov iv u:Value) (Q:Hp->Prop),Inv X pins σ H s->RelV o ov->RelV i iv->RelV v u->t o i v H Q ->
  wpAny (model X.prog X.w) X.A (setItem ov iv u) (fun _ s'=>∃ H',Inv X pins σ H' s'/\Q H') X.xe s
section
variable {X:Cx} {pos:Pos}
def om (i:Nat):TG:=fun v σ H Q=>Q (σ.set i (some v)) H
theorem cj {i:Nat} {x:Str} (hN:X.N.Nodup) (hi:X.N[i]?=some x) (hx:Loc X.env.scope x) (hf:X.fn x=true\/X.env.scope.names.lookup x=some .local:=by first | exact .inl rfl | exact .inr rfl | assumption):PG X (.Name x pos) (om i):=by
 intro pins s σ H v u Q I r h
 exact wpAny_assign_Name (C3 I hN hi hx r (fun s' I'=>⟨_,H,I',h⟩) hf)
def zm:rD:=fun vs σ H Q=>vs=[]/\Q σ H
def tI (t:TG) (u:rD):rD:=fun vs σ H Q=>∃ v r,vs=v :: r/\t v σ H fun σ' H'=>u r σ' H' Q
theorem oo:C5 X [] zm:=by
 intro pins s σ H vs us Q I r h
 obtain ⟨e,h⟩:=h
 subst e
 cases r
 exact assignInOrder_nil ⟨σ,H,I,h⟩
theorem gD {e:Expr} {es:List Expr} {t:TG} {u:rD} (h1:PG X e t) (h2:C5 X es u)
  (hs:(assignEach (e :: es) X.env).map (·.2)=assign e X.env :: (assignEach es X.env).map (·.2):=by rfl):C5 X (e :: es) (tI t u):=by
 intro pins s σ H vs us Q I r h
 obtain ⟨v,vr,e1,h⟩:=h
 subst e1
 cases r with
 | cons r rr =>
  rw [hs]
  refine assignInOrder_cons (cy (h1 pins s σ H _ _ _ I r h) fun _ s1 ⟨σ1,H1,I1,q1⟩=>?_)
  exact h2 pins s1 σ1 H1 _ _ Q I1 rr q1
def zo (K:Zfr) (n:Nat) (t:rD):TG:=fun v σ H Q=>∃ a xs,v=.ref a/\dW K H a xs/\xs.length=n/\t xs σ H Q
theorem ot {es:List Expr} {k:Nat} {t:rD} {n:Nat} (hc:X.calm=true) (h:C5 X es t)
  (hn:(assignEach es X.env).length=n:=by rfl) (hst:(assignEach es X.env).findIdx? (·.1)=none:=by rfl):PG X (.Tuple es k pos) (zo X.K n t):=by
 intro pins s σ H v u Q I r hw
 obtain ⟨a,xs,e1,hq,hl,hw⟩:=hw
 subst e1
 cases r
 obtain ⟨its,rv,ht,hz⟩:=I.tuple hq
 refine assign_Tuple_tuple (I.ok.hd hc) ht (by simp [hn,<- hl,rv.length]) hst fun h' hx=>?_
 have I1:Inv X pins σ H { s with heap:=h' }:=I.kept (t':=s.toks) fun b o e=>hx b o (UA (Ue e)) e
 exact h pins _ σ H xs _ Q I1 (by simpa using rv) hw
def mO (to ti:TE) (t:vh):TG:=fun v σ H Q=>to σ H fun o H1=>ti σ H1 fun i H2=>t o i v H2 fun H3=>Q σ H3
theorem yh {o i:Expr} {to ti:TE} {t:vh} (ho:PE X o to) (hi:PE X i ti) (hs:zk X t)
  (ha:∀ v,assign (.Subscript o i pos) X.env v=(do
   let ov <- holding [v] (eval o X.env)
   let iv <- holding [v,ov] (eval i X.env)
   standAt pos
   holding [v,ov,iv] (setItem ov iv v)
   release [v,ov,iv] []):=by intro _;rfl):PG X (.Subscript o i pos) (mO to ti t):=by
 intro pins s σ H v u Q I r h
 rw [ha]
 refine wpAny_bind (wpAny_holding (cy (ho pins s σ H _ I h) fun ov s1 ⟨x,H1,I1,r1,q1⟩=>?_))
 refine wpAny_bind (wpAny_holding (cy (hi pins s1 σ H1 _ I1 q1) fun iv s2 ⟨y,H2,I2,r2,q2⟩=>?_))
 refine wpAny_bind (wpAny_standAt (wpAny_bind (wpAny_holding (cy (hs pins s2 σ H2 x y v ov iv u _ I2 r1 r2 r q2) fun _ s3 ⟨H3,I3,q3⟩=>?_))))
 exact wpAny_release ⟨σ,H3,I3,q3⟩
def r9 (te:TE) (g:TG):TS:=fun D σ H=>te σ H fun x H1=>g x σ H1 D.nx
theorem rE {tg e:Expr} {te:TE} {g:TG} (he:PE X e te) (hg:PG X tg g) (hs:swapsWithSole [tg] e pos.line X.env=pure false:=by rfl) (hw:swappedStores [tg] e X.env=pure none:=by rfl)
  (h1:(assignEach [tg] X.env).map (·.2)=[assign tg X.env]:=by rfl):PS X (.Assign [tg] e pos) (r9 te g):=by
 intro pins s σ H D I h
 refine wpAny_Assign_stores (cy (he pins s σ H _ I h) fun v s1 ⟨x,H1,I1,r1,q1⟩=>?_) hs hw
 rw [h1]
 exact cy (hg pins s1 σ H1 x v _ I1 r1 q1) fun _ s2 q=>q
theorem bW {i:Nat} {x:Str} {e:Expr} {te:TE} {pos':Pos} (hN:X.N.Nodup) (hi:X.N[i]?=some x) (hx:Loc X.env.scope x) (he:PE X e te) (hs:swapsWith e (some (.Name x pos')) pos.line X.env=pure false:=by rfl) (hf:X.fn x=true\/X.env.scope.names.lookup x=some .local:=by first | exact .inl rfl | exact .inr rfl | assumption) :
  PS X (.Assign [.Name x pos'] e pos) (r9 te (om i)):=by
 intro pins s σ H D I h
 refine wpAny_Assign_Name (cy (he pins s σ H _ I h) fun v s1 ⟨y,H1,I1,r1,q1⟩=>?_) hs
 exact C3 I1 hN hi hx r1 (fun s2 I2=>⟨_,H1,I2,q1⟩) hf
def zp (i j:Nat) (ta:TA):TS:=fun D σ H=>ta σ H fun vs H1=>∃ v w,vs=[v,w]/\D.nx ((σ.set i (some v)).set j (some w)) H1
theorem Ii {i j:Nat} {x y:Str} {a b:Expr} {ta:TA} {px py pt:Pos} {kt k2 Fu} (hc:X.calm=true) (hN:X.N.Nodup) (hi:X.N[i]?=some x) (hj:X.N[j]?=some y) (hij:i≠j)
  (hx:X.env.scope.names.lookup x=some .local) (hy:X.env.scope.names.lookup y=some .local) (ha:PA X [a,b] ta)
  (hw:swappedStores [.Tuple [.Name x px,.Name y py] kt pt] (.Tuple [a,b] k2 Fu) X.env=pure (some [x,y]))
  (hs:swapsWithSole [.Tuple [.Name x px,.Name y py] kt pt] (.Tuple [a,b] k2 Fu) pos.line X.env=pure false:=by rfl) :
  PS X (.Assign [.Tuple [.Name x px,.Name y py] kt pt] (.Tuple [a,b] k2 Fu) pos) (zp i j ta):=by
 intro pins s σ H D I h
 rw [exec_Assign_arm]
 refine wpAny_bind (wpAny_standAt ?_)
 rw [hs]
 refine wpAny_bind (wpAny_pure ?_)
 rw [if_neg (by decide)]
 refine wpAny_bind (Tuple_ (cy (ha _ pins s σ H _ I h) fun us s1 ⟨vs,H1,I1,r1,q1⟩=>?_))
 obtain ⟨v,w,e1,q1⟩:=q1
 subst e1
 obtain ⟨u1,u2,rfl,rv,rw'⟩:∃ u1 u2,us=[u1,u2]/\RelV v u1/\RelV w u2:=by
  cases r1 with
  | cons p q =>
   cases q with
   | cons p' q' =>
    cases q'
    exact ⟨_,_,rfl,p,p'⟩
 refine wpAny_newObj_type ?_ (by show 2<=sizeLine;decide)
 have I2:Inv X pins σ H1 { s1 with heap:=s1.heap.push { cls:=.type "tuple",data:=.seq [u1,u2].toArray } }:=I1.kept (t':=s1.toks) fun b o e=>T8 _ e
 rw [hw]
 refine wpAny_bind (wpAny_pure ?_)
 show wpAny (model X.prog X.w) X.A (do rule "assign.swapped-stores";let items <- unpackItems (.ref s1.heap.objs.size) 2 none;assignInOrder [fun v=>bindName X.env y v,fun v=>bindName X.env x v] items.reverse;pure Flow.next) _ _ _
 refine wpAny_bind (wpAny_rule (wpAny_bind (unpackItems_tuple (items:=#[u1,u2]) (I.ok.hd hc) (IsTup.new s1.heap _) fun h' hx'=>?_)))
 have I3:=I2.kept (h':=h') (t':=s1.toks) fun b o e=>hx' b o (UA (Ue e)) e
 show wpAny _ _ (assignInOrder [fun v=>bindName X.env y v,fun v=>bindName X.env x v] [u2,u1] >>= fun _=>pure Flow.next) _ _ _
 refine wpAny_bind (assignInOrder_cons (wpAny_bindName (C3 I3 hN hj (.inl hy) rw' (fun s2 I4=>?_) (.inr hy))))
 refine assignInOrder_cons (wpAny_bindName (C3 I4 hN hi (.inl hx) rv (fun s3 I5=>assignInOrder_nil (wpAny_pure ?_)) (.inr hx)))
 rw [List.set_comm _ _ (Ne.symm hij)] at I5
 exact ⟨_,H1,I5,q1⟩
end
section
variable {X:Cx} {pos:Pos}
def qj (c:TT) (tb:TS):TS:=fun D σ H=>∃ W:Nat->St->Hp->Prop,(∃ m,W m σ H)/\∀ m σ H,W m σ H ->
 c σ H fun b H1=>if b=true then ∃ N:St->Hp->Prop,(∀ σ' H',N σ' H'->∃ m',m' < m/\W m' σ' H')/\tb { D with nx:=N,ct:=N,bk:=D.nx } σ H1 else D.nx σ H1
theorem vk {c:Expr} {body:List Stmt} {tc:TT} {tb:TS} (hp:PassesOwn (model X.prog X.w) X.A X.env X.xe) (hc:PT X c tc) (hb:pe X body tb):PS X (.While c body [] pos) (qj tc tb):=by
 intro pins s σ H D I h
 obtain ⟨W,⟨m0,w0⟩,turn⟩:=h
 refine wpAny_While (codeAny_whileLoop (fun n s'=>∃ σ' H',Inv X pins σ' H' s'/\W n σ' H') ?_ m0 ⟨σ,H,I,w0⟩)
 rintro n s1 ⟨σ1,H1,I1,w1⟩
 refine wpAny_passesOwn hp (cy (hc pins s1 σ1 H1 _ I1 (turn n σ1 H1 w1)) fun b s2 ⟨H2,I2,q2⟩=>?_)
 cases b with
 | true =>
  obtain ⟨N,hN,q2⟩:=q2
  rw [if_pos rfl]
  refine wpAny_passesOwn hp (cy (hb pins s2 σ1 H2 _ I2 q2) fun f s3 q3=>?_)
  cases f with
  | next =>
   obtain ⟨σ3,H3,I3,n3⟩:=q3
   obtain ⟨m',hm,w3⟩:=hN σ3 H3 n3
   exact ⟨m',hm,σ3,H3,I3,w3⟩
  | cont =>
   obtain ⟨σ3,H3,I3,n3⟩:=q3
   obtain ⟨m',hm,w3⟩:=hN σ3 H3 n3
   exact ⟨m',hm,σ3,H3,I3,w3⟩
  | brk=>exact q3
  | ret v=>exact q3
 | false =>
  rw [if_neg TX]
  exact wpAny_execs_nil ⟨σ1,H2,I2,q2⟩
end
set_option genInjectivity false in
structure It where
 go:Nat->Hp->Prop
 sa:Nat->Hp->V->Hp->Prop
 stop:Nat->Hp->Prop
def lb (X:Cx) (pins:List (Addr×Obj)) (H:Hp) (b:Addr):Prop :=
 H b=none/\b≠X.env.locals/\b ∉ X.fs/\(b∈X.ex\/X.s₀.heap.objs.size<=b)/\(∀ x c,X.env.cells.lookup x=some c->c≠b)/\∀ p∈X.pn ++ pins,p.1≠b
theorem Inv.oX {X:Cx} {pins:List (Addr×Obj)} {σ:St} {H H':Hp} {s:Shared} {b:Addr} (I:Inv X pins σ H s) (hb:s.heap.objs.size<=b) (hn:H' b=none):lb X pins H' b:=by
 refine ⟨hn,Nat.ne_of_gt (Ut I.lt hb),I.zc hb,.inr (Uh I.sz hb),fun x c e z=>?_,fun p hp z=>?_⟩
 ·obtain ⟨v,q⟩:=I.cell x c e
  exact absurd (Ut q.lt (by rw [z];exact hb)) (Vt _)
 ·exact absurd (Ut (Ue (I.pin p hp).1) (by rw [z];exact hb)) (Vt _)
structure Turn (P:Program) (w:World) (K:Zfr) (tg:Expr) (J:It) (fp:List Addr) (it:Addr) (tn:Nat->Heap->Prop):Prop where
 mem:it∈fp
 obj:∀ i h,tn i h->∀ b∈fp,∃ o,h.get? b=some o/\∀ v,o.data≠.cell v
 keep:∀ i h h',tn i h->(∀ b∈fp,∀ o,h.get? b=some o->h'.get? b=some o)->tn i h'
 item:∀ (X:Cx),X.prog=P->X.w=w->X.K=K->X.calm=true->∀ (i:Nat) (pins:List (Addr×Obj)) (s:Shared) (σ:St) (H:Hp) (E:Value->Shared->Prop),Inv X pins σ H s->(∀ b∈fp,lb X pins H b)->tn i s.heap->J.go i H ->
  wpAny (model P w) X.A (pyNext (.ref it)) (fun r s1=>∃ u,r=some u /\
   wpAny (model P w) X.A (letOwnedTupleGo tg (.ref it) u) (fun _ s2=>∃ x H',Inv X pins σ H' s2/\RelV x u/\J.sa i H x H'/\tn (i + 1) s2.heap/\∀ b∈fp,H' b=none) E s1) E s
 done:∀ (X:Cx),X.prog=P->X.w=w->X.K=K->X.calm=true->∀ (i:Nat) (pins:List (Addr×Obj)) (s:Shared) (σ:St) (H:Hp) (E:Value->Shared->Prop),Inv X pins σ H s->(∀ b∈fp,lb X pins H b)->tn i s.heap->J.stop i H ->
  wpAny (model P w) X.A (pyNext (.ref it)) (fun r s1=>r=none/\Inv X pins σ H s1) E s
 self:∀ (A:Around) (i:Nat) (s:Shared) (Q:Value->Shared->Prop) (E:Value->Shared->Prop),tn i s.heap->Q (.ref it) s->wpAny (model P w) A (pyIter (.ref it)) Q E s
abbrev TI:=St->Hp->(It->Hp->Prop)->Prop
def Fv (X:Cx) (pins:List (Addr×Obj)) (σ:St) (tg:Expr) (R:It->Hp->Prop) (itv:Value) (s2:Shared):Prop :=
 ∃ (it:Addr) (fp:List Addr) (tn:Nat->Heap->Prop) (J:It) (H':Hp),itv=.ref it/\Inv X pins σ H' s2/\Turn X.prog X.w X.K tg J fp it tn/\tn 0 s2.heap/\(∀ b∈fp,lb X pins H' b)/\R J H'
def PI (X:Cx) (tg iter:Expr) (wi:TI):Prop :=
 ∀ (pins:List (Addr×Obj)) (s:Shared) (σ:St) (H:Hp) (R:It->Hp->Prop),Inv X pins σ H s->wi σ H R ->
  wpAny (model X.prog X.w) X.A (eval iter X.env) (fun v s1=>wpAny (model X.prog X.w) X.A (pyIter v) (Fv X pins σ tg R) X.xe s1) X.xe s
theorem C6 {M:Model} {A:Around} {E:Value->Shared->Prop} {s:Shared} {tg:Expr} {it:Addr} {u:Value} {o:Obj} {n:String} {vs:Array Value} {Q:Unit->Shared->Prop} (ho:s.heap.get? it=some o) (hc:o.cls=.type n) (hd:o.data=.fields vs)
  (hn:["enumerate","zip","dict_itemiterator","dict_reverseitemiterator","odict_iterator","itertools.zip_longest","itertools.pairwise"].contains n=false) (hQ:Q () s):wpAny M A (letOwnedTupleGo tg (.ref it) u) Q E s:=by
 unfold letOwnedTupleGo
 cases tg <;> first
  | exact wpAny_pure hQ
  | (cases u <;> first
    | exact wpAny_pure hQ
    | (refine wpAny_bind (wpAny_load ho ?_)
       rw [hc,hd]
       show wpAny M A (if (["enumerate","zip","dict_itemiterator","dict_reverseitemiterator","odict_iterator","itertools.zip_longest","itertools.pairwise"].contains n && vs[0]? == some (rawInt _))=true then _ else _) Q E s
       rw [if_neg (by intro h;rw [hn,Bool.false_and] at h;cases h)]
       exact wpAny_pure hQ))
def Ij (K:Zfr) (a:Addr):It :=
 ⟨fun i H=>∃ xs x,iZ K H a xs/\xs[i]?=some x,fun i H x H'=>H'=H/\∀ xs,iZ K H a xs->xs[i]?=some x,fun i H=>∃ xs,iZ K H a xs/\xs.length<=i⟩
def Ik (K:Zfr) (a:Addr):It :=
 ⟨fun i H=>∃ xs x,dW K H a xs/\xs[i]?=some x,fun i H x H'=>H'=H/\∀ xs,dW K H a xs->xs[i]?=some x,fun i H=>∃ xs,dW K H a xs/\xs.length<=i⟩
def zq (lo:Int) (n:Nat):It:=⟨fun i _=>i < n,fun i H x H'=>H'=H/\x=.int (lo + i),fun i _=>n<=i⟩
theorem Mt {P:Program} {w:World} {K:Zfr} {tg:Expr} (a it:Addr):Turn P w K tg (Ij K a) [it] it (fun i h=>h.IsListIter it a i) where
 mem:=by simp
 obj:=fun i h st b hb=>by
  have e:b=it:=by simpa using hb
  subst e
  obtain ⟨o,e,c,d⟩:=st
  exact ⟨o,e,fun v z=>by rw [d] at z;cases z⟩
 keep:=fun i h h' st k=>st.at fun o e=>k it (by simp) o e
 item:=by
  intro X hP hw hK hc i pins s σ H E I hf st hg
  subst hP hw hK
  obtain ⟨xs,x,hq,hx⟩:=hg
  obtain ⟨its,rv,p,hz⟩:=I.list hq
  obtain ⟨u,hu,ru⟩:=rv.get hx
  obtain ⟨f0,f1,f2,f3,f4,f5⟩:=hf it (by simp)
  refine wpAny_pyNext_list_item st p.isList (x:=u) (by simpa using hu) fun h' st' sb=>?_
  have I1:Inv X pins σ H { s with heap:=h' }:=I.turned (t':=s.toks) (fun b o hb e=>(sb.2 b hb).trans e) f0 f1 f3 f4 f5
  obtain ⟨o,e,c,d⟩:=id st'
  exact ⟨u,rfl,C6 (s:={ s with heap:=h' }) e c d (by decide) ⟨x,H,I1,ru,⟨rfl,fun ys hy=>by rw [I.oj hy hq];exact hx⟩,st',fun b hb=>(hf b hb).1⟩⟩
 done:=by
  intro X hP hw hK hc i pins s σ H E I hf st hg
  subst hP hw hK
  obtain ⟨xs,hq,hx⟩:=hg
  obtain ⟨its,rv,p,hz⟩:=I.list hq
  obtain ⟨f0,f1,f2,f3,f4,f5⟩:=hf it (by simp)
  have hl:=rv.length
  exact wpAny_pyNext_list_end (I.ok.hd hc) st p.isList (by simp;omega) fun h' eb=>⟨rfl,I.turned (t':=s.toks) (fun b o hb e=>eb b o hb e) f0 f1 f3 f4 f5⟩
 self:=fun _ _ _ _ _ st h=>wpAny_pyIter_listiter st h
theorem Mu {P:Program} {w:World} {K:Zfr} {tg:Expr} (a it:Addr):Turn P w K tg (Ik K a) [it] it (fun i h=>h.IsTupleIter it a i) where
 mem:=by simp
 obj:=fun i h st b hb=>by
  have e:b=it:=by simpa using hb
  subst e
  obtain ⟨o,e,c,d⟩:=st
  exact ⟨o,e,fun v z=>by rw [d] at z;cases z⟩
 keep:=fun i h h' st k=>st.at fun o e=>k it (by simp) o e
 item:=by
  intro X hP hw hK hc i pins s σ H E I hf st hg
  subst hP hw hK
  obtain ⟨xs,x,hq,hx⟩:=hg
  obtain ⟨its,rv,p,hz⟩:=I.tuple hq
  obtain ⟨u,hu,ru⟩:=rv.get hx
  obtain ⟨f0,f1,f2,f3,f4,f5⟩:=hf it (by simp)
  refine wpAny_pyNext_tuple_item st (show s.heap.IsTuple a its.toArray from p) (x:=u) (by simpa using hu) fun h' st' sb=>?_
  have I1:Inv X pins σ H { s with heap:=h' }:=I.turned (t':=s.toks) (fun b o hb e=>(sb.2 b hb).trans e) f0 f1 f3 f4 f5
  obtain ⟨o,e,c,d⟩:=id st'
  exact ⟨u,rfl,C6 (s:={ s with heap:=h' }) e c d (by decide) ⟨x,H,I1,ru,⟨rfl,fun ys hy=>by rw [I.gJ hy hq];exact hx⟩,st',fun b hb=>(hf b hb).1⟩⟩
 done:=by
  intro X hP hw hK hc i pins s σ H E I hf st hg
  subst hP hw hK
  obtain ⟨xs,hq,hx⟩:=hg
  obtain ⟨its,rv,p,hz⟩:=I.tuple hq
  obtain ⟨f0,f1,f2,f3,f4,f5⟩:=hf it (by simp)
  have hl:=rv.length
  exact wpAny_pyNext_tuple_end (I.ok.hd hc) st (show s.heap.IsTuple a its.toArray from p) (by simp;omega) fun h' eb=>⟨rfl,I.turned (t':=s.toks) (fun b o hb e=>eb b o hb e) f0 f1 f3 f4 f5⟩
 self:=fun _ _ _ _ _ st h=>wpAny_pyIter_tupleiter st h
theorem Mv {P:Program} {w:World} {K:Zfr} {tg:Expr} (it:Addr) (lo:Int) (n:Nat):Turn P w K tg (zq lo n) [it] it (fun i h=>IsRangeIter h it (lo + (i:Nat) * 1) ((n:Int) - (i:Nat)) 1) where
 mem:=by simp
 obj:=fun i h st b hb=>by
  have e:b=it:=by simpa using hb
  subst e
  exact ⟨_,st,fun v z=>by
   have z':Data.fields _=Data.cell v:=z
   cases z'⟩
 keep:=fun i h h' st k=>k it (by simp) _ st
 item:=by
  intro X hP hw hK hc i pins s σ H E I hf st hg
  subst hP hw hK
  obtain ⟨f0,f1,f2,f3,f4,f5⟩:=hf it (by simp)
  have W:=Walks.range (prog:=X.prog) (w:=X.w) (I.ok.hd hc) it lo 1 n
  refine W.item i s _ _ hg st fun v h' tk hv st' kk=>?_
  obtain ⟨t,rfl⟩:=hv
  have I1:Inv X pins σ H { s with heap:=h',toks:=tk }:=I.turned (fun b o hb e=>kk b o (by simpa using hb) e) f0 f1 f3 f4 f5
  refine ⟨_,rfl,C6 (s:={ s with heap:=h',toks:=tk }) (n:="range_iterator") st' rfl rfl (by decide) ⟨.int (lo + i),H,I1,⟨t,?_⟩,⟨rfl,rfl⟩,st',fun b hb=>(hf b hb).1⟩⟩
  rw [Int.mul_one]
 done:=by
  intro X hP hw hK hc i pins s σ H E I hf st hg
  subst hP hw hK
  obtain ⟨f0,f1,f2,f3,f4,f5⟩:=hf it (by simp)
  exact wpAny_pyNext_range_end (I.ok.hd hc) st (by have:n<=i:=hg;omega) fun h' eb=>⟨rfl,I.turned (t':=s.toks) (fun b o hb e=>eb b o hb e) f0 f1 f3 f4 f5⟩
 self:=fun _ _ _ _ _ st h=>wpAny_pyIter_rangeiter st h
section
variable {X:Cx} {tg:Expr}
def qk (K:Zfr) (tl:TE):TI:=fun σ H R=>tl σ H fun x H1=>∃ a,x=.ref a/\(∃ xs,iZ K H1 a xs)/\R (Ij K a) H1
def zt (K:Zfr) (tl:TE):TI:=fun σ H R=>tl σ H fun x H1=>∃ a,x=.ref a/\(∃ xs,dW K H1 a xs)/\R (Ik K a) H1
theorem C7 {l:Expr} {tl:TE} (hl:PE X l tl):PI X tg l (qk X.K tl):=by
 intro pins s σ H R I h
 refine cy (hl pins s σ H _ I h) fun v s1 ⟨x,H1,I1,r1,q1⟩=>?_
 obtain ⟨a,e,⟨xs,hq⟩,q⟩:=q1
 subst e
 cases r1
 obtain ⟨its,rv,p,hz⟩:=I1.list hq
 refine wpAny_pyIter_list p.isList ?_
 refine ⟨s1.heap.objs.size,[s1.heap.objs.size],_,_,H1,rfl,I1.kept (t':=s1.toks) fun b o e=>T8 _ e,Mt a _,⟨_,Ug _ rfl,rfl,rfl⟩,fun b hb=>?_,q⟩
 have e:b=s1.heap.objs.size:=by simpa using hb
 subst e
 exact I1.oX (TM _) (I1.hok.fresh (TM _))
theorem ou {l:Expr} {tl:TE} (hl:PE X l tl):PI X tg l (zt X.K tl):=by
 intro pins s σ H R I h
 refine cy (hl pins s σ H _ I h) fun v s1 ⟨x,H1,I1,r1,q1⟩=>?_
 obtain ⟨a,e,⟨xs,hq⟩,q⟩:=q1
 subst e
 cases r1
 obtain ⟨its,rv,p,hz⟩:=I1.tuple hq
 refine wpAny_pyIter_tuple (show s1.heap.IsTuple a its.toArray from p) ?_
 refine ⟨s1.heap.objs.size,[s1.heap.objs.size],_,_,H1,rfl,I1.kept (t':=s1.toks) fun b o e=>T8 _ e,Mu a _,⟨_,Ug _ rfl,rfl,rfl⟩,fun b hb=>?_,q⟩
 have e:b=s1.heap.objs.size:=by simpa using hb
 subst e
 exact I1.oX (TM _) (I1.hok.fresh (TM _))
theorem Il {pins:List (Addr×Obj)} {σ:St} {H:Hp} {s:Shared} {R:It->Hp->Prop} {E:Value->Shared->Prop} {lo hi:Int} {t u v:Tok} {tk:Nat} (I:Inv X pins σ H s) (h1:-(2 ^ 62)<=lo) (h2:lo < 2 ^ 62) (h3:-(2 ^ 62)<=hi) (h4:hi < 2 ^ 62)
  (q:R (zq lo (hi - lo).toNat) H):wpAny (model X.prog X.w) X.A (pyIter (.ref s.heap.objs.size)) (Fv X pins σ tg R) E { s with heap:=s.heap.push { cls:=.type "range",data:=.fields #[.int lo t,.int hi u,.int 1 v] },toks:=tk }:=by
 refine wpAny_pyIter_range (IsRange.new ..) (small_one h1 h2 h3 h4) ?_
 have I1:Inv X pins σ H { s with heap:=s.heap.push { cls:=.type "range",data:=.fields #[.int lo t,.int hi u,.int 1 v] },toks:=tk }:=I.kept fun b o e=>T8 _ e
 refine ⟨(s.heap.push { cls:=.type "range",data:=.fields #[.int lo t,.int hi u,.int 1 v] }).objs.size,[(s.heap.push { cls:=.type "range",data:=.fields #[.int lo t,.int hi u,.int 1 v] }).objs.size],_,_,H,rfl,
  I1.kept (t':=tk) fun b o e=>T8 _ e,Mv _ lo (hi - lo).toNat,?_,fun b hb=>?_,q⟩
 ·have e1:lo + ((0:Nat):Int) * 1=lo:=by simp
  have e2:(((hi - lo).toNat:Nat):Int) - ((0:Nat):Int)=Builtin.Range.rangeSize lo hi 1:=by rw [rangeSize_one];split <;> omega
  show IsRangeIter _ _ (lo + ((0:Nat):Int) * 1) ((((hi - lo).toNat:Nat):Int) - ((0:Nat):Int)) 1
  rw [e1,e2]
  exact Ug _ rfl
 ·have e:b=(s.heap.push { cls:=.type "range",data:=.fields #[.int lo t,.int hi u,.int 1 v] }).objs.size:=by simpa using hb
  subst e
  exact I1.oX (TM _) (I1.hok.fresh (TM _))
def tJ (ta:TA):TI:=fun σ H R=>ta σ H fun vs H1=>∃ j:Int,vs=[.int j]/\-(2 ^ 62)<=j/\j < 2 ^ 62/\R (zq 0 j.toNat) H1
def tK (ta:TA):TI:=fun σ H R=>ta σ H fun vs H1=>∃ i j:Int,vs=[.int i,.int j]/\(-(2 ^ 62)<=i/\i < 2 ^ 62/\-(2 ^ 62)<=j/\j < 2 ^ 62)/\R (zq i (j - i).toNat) H1
theorem oN {a:Expr} {ta:TA} {p pos:Pos} (hg:Gl X "range") (hm:X.mg "range" = none) (ha:PA X [a] ta) (hs:starEach [a] X.env=[(false,eval a X.env)]:=by rfl):PI X tg (.Call (.Name "range" p) [a] [] pos) (tJ ta):=by
 intro pins s σ H R I h
 refine Call_ (yg I hg hm boot_range (PyProof.Rows.callWith_type1 (cy (ha pos pins s σ H _ I h) fun us s1 ⟨vs,H1,I1,r1,q1⟩=>?_) hs rfl))
 obtain ⟨j,e,q1,q2,q⟩:=q1
 subst e
 cases r1 with
 | cons r rr =>
  cases rr
  obtain ⟨t,rfl⟩:=r
  exact call_range_1 (Il I1 (by omega) (by omega) q1 q2 (by simpa using q))
theorem Mw {a b:Expr} {ta:TA} {p pos:Pos} (hg:Gl X "range") (hm:X.mg "range" = none) (ha:PA X [a,b] ta) (hs:starEach [a,b] X.env=[(false,eval a X.env),(false,eval b X.env)]:=by rfl) (hs2:starEach [b] X.env=[(false,eval b X.env)]:=by rfl) :
  PI X tg (.Call (.Name "range" p) [a,b] [] pos) (tK ta):=by
 intro pins s σ H R I h
 refine Call_ (yg I hg hm boot_range (PyProof.Rows.callWith_type1 (cy (ha pos pins s σ H _ I h) fun us s1 ⟨vs,H1,I1,r1,q1⟩=>?_) (by rw [hs,hs2]) (by rw [hs2];rfl)))
 obtain ⟨i,j,e,⟨q1,q2,q3,q4⟩,q⟩:=q1
 subst e
 cases r1 with
 | cons r rr =>
  cases rr with
  | cons r' rr =>
   cases rr
   obtain ⟨t,rfl⟩:=r
   obtain ⟨t',rfl⟩:=r'
   exact call_range_2 (Il I1 q1 q2 q3 q4 q)
def zu (wi:TI) (g:TG) (tb:TS):TS:=fun D σ H=>wi σ H fun J H1=>∃ W:Nat->Nat->St->Hp->Prop,(∃ m,W 0 m σ H1)/\∀ i m σ H,W i m σ H ->
 (J.stop i H/\D.nx σ H)\/(J.go i H/\∃ N:St->Hp->Prop,(∀ σ' H',N σ' H'->∃ m',m' < m/\W (i + 1) m' σ' H')/\∀ x H',J.sa i H x H'->g x σ H' fun σ2 H2=>tb { D with nx:=N,ct:=N,bk:=D.nx } σ2 H2)
def ml (fp:List Addr) (h:Heap):List (Addr×Obj):=fp.filterMap fun b=>(h.get? b).map fun o=>(b,o)
theorem C8 {fp:List Addr} {h:Heap} {b:Addr} {o:Obj} (hb:b∈fp) (e:h.get? b=some o):(b,o)∈ml fp h:=List.mem_filterMap.mpr ⟨b,hb,by rw [e];rfl⟩
theorem Mx {fp:List Addr} {h:Heap} {p:Addr×Obj} (hp:p∈ml fp h):p.1∈fp/\h.get? p.1=some p.2:=by
 obtain ⟨b,hb,e⟩:=List.mem_filterMap.mp hp
 cases q:h.get? b with
 | none=>rw [q] at e;cases e
 | some o =>
  rw [q] at e
  have e':(b,o)=p:=T5 e
  subst e'
  exact ⟨hb,q⟩
theorem Inv.pinned {pins:List (Addr×Obj)} {σ:St} {H:Hp} {s:Shared} {fp:List Addr} (I:Inv X pins σ H s) (hf:∀ b∈fp,lb X pins H b) (ho:∀ b∈fp,∃ o,s.heap.get? b=some o/\∀ v,o.data≠.cell v):Inv X (pins ++ ml fp s.heap) σ H s :=
 I.lS fun p hp=>(Uk.mp hp).elim (fun z=>I.pin p (Us _ z)) fun z=>by
  obtain ⟨hb,e⟩:=Mx z
  obtain ⟨f0,f1,f2,_⟩:=hf p.1 hb
  obtain ⟨o,e',d⟩:=ho p.1 hb
  rw [e] at e';cases e'
  exact ⟨e,f0,f1,f2,d⟩
theorem Inv.kG {pins pl:List (Addr×Obj)} {σ:St} {H:Hp} {s:Shared} (I:Inv X (pins ++ pl) σ H s):Inv X pins σ H s:=I.lS fun p hp=>I.pin p (Us _ (U8 _ hp))
theorem kC {iter:Expr} {body:List Stmt} {wi:TI} {g:TG} {tb:TS} {pos:Pos} (hp:PassesOwn (model X.prog X.w) X.A X.env X.xe) (hc:X.calm=true) (hi:PI X tg iter wi) (hg:PG X tg g) (hb:pe X body tb)
  (hs:∀ x,foldedSetIterable iter X.env x=pure x:=by intro _;rfl):PS X (.For tg iter body [] pos) (zu wi g tb):=by
 intro pins s σ H D I h
 refine wpAny_For (cy (hi pins s σ H _ I h) fun v s1 h1=>cy h1 fun itv s2 h2=>?_) hs
 obtain ⟨it,fp,tn,J,H2,e,I2,T,st2,f2,W,⟨m0,w0⟩,turn⟩:=h2
 subst e
 have stat:∀ {H':Hp},(∀ b∈fp,H' b=none)->∀ b∈fp,lb X pins H' b:=fun hn b hb=>⟨hn b hb,(f2 b hb).2⟩
 refine codeAny_forLoop_any (fun n s'=>∃ i σ' H',Inv X pins σ' H' s'/\tn i s'.heap/\(∀ b∈fp,H' b=none)/\W i n σ' H') ?_ m0 ⟨0,σ,H2,I2,st2,fun b hb=>(f2 b hb).1,w0⟩
 rintro n s3 ⟨i,σ3,H3,I3,st3,Im,w3⟩
 rcases turn i n σ3 H3 w3 with ⟨stop,qn⟩ | ⟨go,N,hN,step⟩
 ·refine wpAny_passesOwn hp (cy (T.done X rfl rfl rfl hc i pins s3 σ3 H3 X.xe I3 (stat Im) st3 stop) fun r s4 ⟨hr,I4⟩=>?_)
  subst hr
  exact wpAny_execs_nil ⟨σ3,H3,I4,qn⟩
 ·refine wpAny_passesOwn hp (cy (T.item X rfl rfl rfl hc i pins s3 σ3 H3 X.xe I3 (stat Im) st3 go) fun r s4 ⟨u,hr,h4⟩=>?_)
  subst hr
  refine wpAny_passesOwn hp (cy h4 fun _ s5 ⟨x,H5,I5,r5,y5,mU,C9⟩=>?_)
  have Mz:=I5.pinned (stat C9) (T.obj _ _ mU)
  refine wpAny_passesOwn hp (cy (hg _ s5 σ3 H5 x u _ Mz r5 (step x H5 y5)) fun _ s6 ⟨σ6,H6,I6,q6⟩=>?_)
  refine wpAny_passesOwn hp (cy (hb _ s6 σ6 H6 _ I6 q6) fun f s7 q7=>?_)
  have again:∀ {σ7:St} {H7:Hp},Inv X (pins ++ ml fp s5.heap) σ7 H7 s7->N σ7 H7->∃ m,m < n/\∃ i σ' H',Inv X pins σ' H' s7/\tn i s7.heap/\(∀ b∈fp,H' b=none)/\W i m σ' H':=fun {σ7 H7} I7 n7=>by
   obtain ⟨m',hm,w7⟩:=hN σ7 H7 n7
   refine ⟨m',hm,i + 1,σ7,H7,I7.kG,T.keep _ _ _ mU fun b hb o e=>(I7.pin (b,o) (Us _ (Us _ (C8 hb e)))).1,fun b hb=>?_,w7⟩
   obtain ⟨o,e,d⟩:=T.obj _ _ mU b hb
   exact (I7.pin (b,o) (Us _ (Us _ (C8 hb e)))).2.1
  cases f with
  | next=>obtain ⟨σ7,H7,I7,n7⟩:=q7;exact again I7 n7
  | cont=>obtain ⟨σ7,H7,I7,n7⟩:=q7;exact again I7 n7
  | brk=>obtain ⟨σ7,H7,I7,q7⟩:=q7;exact ⟨σ7,H7,I7.kG,q7⟩
  | ret v=>obtain ⟨x7,σ7,H7,I7,r7,q7⟩:=q7;exact ⟨x7,σ7,H7,I7.kG,r7,q7⟩
end
abbrev R2:=V->V->Hp->VK->Prop
def kQ (X:Cx) (f:Value->Value->Sem Value) (r:R2):Prop :=
 ∀ (pins:List (Addr×Obj)) (s:Shared) (σ:St) (H:Hp) (x y:V) (v u:Value) (Q:VK),Inv X pins σ H s->RelV x v->RelV y u->r x y H Q ->
  wpAny (model X.prog X.w) X.A (f v u) (EP X pins σ Q) X.xe s
def Fw (X:Cx) (f:Value->Sem Value) (r:V->Hp->VK->Prop):Prop :=
 ∀ (pins:List (Addr×Obj)) (s:Shared) (σ:St) (H:Hp) (x:V) (v:Value) (Q:VK),Inv X pins σ H s->RelV x v->r x H Q ->
  wpAny (model X.prog X.w) X.A (f v) (EP X pins σ Q) X.xe s
def fB (X:Cx) (f:Value) (r:List V->Hp->VK->Prop):Prop :=
 ∀ (pins:List (Addr×Obj)) (s:Shared) (σ:St) (H:Hp) (xs:List V) (us:List Value) (Q:VK),Inv X pins σ H s->Vals xs us->r xs H Q ->
  wpAny (model X.prog X.w) X.A (call f us) (EP X pins σ Q) X.xe s
def zv (r:R2) (ta tb:TE):TE:=fun σ H Q=>ta σ H fun x H1=>tb σ H1 fun y H2=>r x y H2 Q
def Io (r:V->Hp->VK->Prop) (ta:TE):TE:=fun σ H Q=>ta σ H fun x H1=>r x H1 Q
def rI (C:Int->Int->Prop) (g:Int->Int->V):R2:=fun x y H Q=>∃ i j,x=.int i/\y=.int j/\C i j/\Q (g i j) H
def pR (g:Int->Int->V):R2:=fun x y H Q=>∃ i j,x=.int i/\y=.int j/\Q (g i j) H
def rU (g:Int->V):V->Hp->VK->Prop:=fun x H Q=>∃ i,x=.int i/\Q (g i) H
section
variable {X:Cx} {a b c:Expr} {ta tb tc:TE} {pos:Pos}
theorem vm (ha:PE X a ta) (hb:PE X b tb) {pins:List (Addr×Obj)} {s:Shared} {σ:St} {H:Hp} {R:V->V->Hp->Prop} (I:Inv X pins σ H s)
  (h:ta σ H fun x H1=>tb σ H1 fun y H2=>R x y H2) {Q:Value->Shared->Prop} {f:Value->Value->Sem Value}
  (hf:∀ v u s2 x y H2,Inv X pins σ H2 s2->RelV x v->RelV y u->R x y H2->wpAny (model X.prog X.w) X.A (f v u) Q X.xe s2) :
  wpAny (model X.prog X.w) X.A (eval a X.env) (fun v s₁=>wpAny (model X.prog X.w) X.A (eval b X.env) (fun u s₂=>wpAny (model X.prog X.w) X.A (f v u) Q X.xe s₂) X.xe s₁) X.xe s:=by
 refine cy (ha pins s σ H _ I h) fun v s1 ⟨x,H1,I1,r1,q1⟩=>?_
 refine cy (hb pins s1 σ H1 _ I1 q1) fun u s2 ⟨y,H2,I2,r2,q2⟩=>?_
 exact hf v u s2 x y H2 I2 r1 r2 q2
theorem bM {op:Operator} {r:R2} (ho:kQ X (binaryOp op) r) (ha:PE X a ta) (hb:PE X b tb):PE X (.BinOp a op b pos) (zv r ta tb):=by
 intro pins s σ H Q I h
 exact wpAny_BinOp (vm ha hb I h fun v u s2 x y H2 I2 rx ry q=>ho pins s2 σ H2 x y v u Q I2 rx ry q)
theorem sd {op:UnaryOp} {r:V->Hp->VK->Prop} (ho:Fw X (unaryOp op) r) (ha:PE X a ta):PE X (.UnaryOp op a pos) (Io r ta):=by
 intro pins s σ H Q I h
 exact UnaryOp_ (cy (ha pins s σ H _ I h) fun v s1 ⟨x,H1,I1,r1,q1⟩=>ho pins s1 σ H1 x v Q I1 r1 q1)
theorem zw {f:Value->Value->Sem Value} {C:Int->Int->Prop} {g:Int->Int->Int}
  (rule:∀ (i j:Int) (t u:Tok) (s:Shared) (Q:Value->Shared->Prop) (E:Value->Shared->Prop),C i j->Q (.int (g i j) s.toks) { s with toks:=s.toks + 1 }->wpAny (model X.prog X.w) X.A (f (.int i t) (.int j u)) Q E s) :
  kQ X f (rI C fun i j=>.int (g i j)):=by
 intro pins s σ H x y v u Q I rx ry h
 obtain ⟨i,j,rfl,rfl,hc,q⟩:=h
 obtain ⟨t,rfl⟩:=rx
 obtain ⟨t',rfl⟩:=ry
 exact rule i j t t' s _ _ hc ⟨.int (g i j),H,I.tok _,⟨_,rfl⟩,q⟩
theorem zx {f:Value->Value->Sem Value} {g:Int->Int->Int}
  (rule:∀ (i j:Int) (t u:Tok) (s:Shared) (Q:Value->Shared->Prop) (E:Value->Shared->Prop),Q (.int (g i j) s.toks) { s with toks:=s.toks + 1 }->wpAny (model X.prog X.w) X.A (f (.int i t) (.int j u)) Q E s) :
  kQ X f (pR fun i j=>.int (g i j)):=by
 intro pins s σ H x y v u Q I rx ry h
 obtain ⟨i,j,rfl,rfl,q⟩:=h
 obtain ⟨t,rfl⟩:=rx
 obtain ⟨t',rfl⟩:=ry
 exact rule i j t t' s _ _ ⟨.int (g i j),H,I.tok _,⟨_,rfl⟩,q⟩
theorem vn {f:Value->Value->Sem Value} {g:Int->Int->Bool}
  (rule:∀ (i j:Int) (t u:Tok) (s:Shared) (Q:Value->Shared->Prop) (E:Value->Shared->Prop),Q (.bool (g i j)) s->wpAny (model X.prog X.w) X.A (f (.int i t) (.int j u)) Q E s) :
  kQ X f (pR fun i j=>.bl (g i j)):=by
 intro pins s σ H x y v u Q I rx ry h
 obtain ⟨i,j,rfl,rfl,q⟩:=h
 obtain ⟨t,rfl⟩:=rx
 obtain ⟨t',rfl⟩:=ry
 exact rule i j t t' s _ _ ⟨.bl (g i j),H,I,rfl,q⟩
def zy (i j:Int):Prop:=0 < j/\j < 1073741824
def zz (i j:Int):Prop:=0<=j/\j<=1000000/\i.natAbs < 2 ^ 64
def ql (i j:Int):Prop:=(-(2 ^ 64) < i/\i < 2 ^ 64)\/(-(2 ^ 64) < j/\j < 2 ^ 64)
theorem ql.ok {i j:Int} (h:ql i j):IntMulOk i j:=by
 rcases h with ⟨h1,h2⟩ | ⟨h1,h2⟩
 ·exact .of_left (intBits_le_64 h1 h2)
 ·exact .of_right (intBits_le_64 h1 h2)
theorem lE:kQ X (binaryOp .Add) (pR fun i j=>.int (i + j)):=zx fun _ _ _ _ _ _ _ q=>add_int q
theorem zA:kQ X (binaryOp .Sub) (pR fun i j=>.int (i - j)):=zx fun _ _ _ _ _ _ _ q=>sub_int q
theorem tL:kQ X (binaryOp .Mult) (rI ql fun i j=>.int (i * j)):=zw fun _ _ _ _ _ _ _ hc q=>mul_int q hc.ok
theorem Fx:kQ X (binaryOp .FloorDiv) (rI zy fun i j=>.int (i / j)):=zw fun i j _ _ _ _ _ hc q=>by
 have h1:(0:Int) < j:=hc.1
 have h2:j < 1073741824:=hc.2
 exact floordiv_int (by omega) (by rw [Int.fdiv_eq_ediv_of_nonneg i (by omega)];exact q) (.inl (PyProof.noPylong_small (by omega)))
theorem pS:kQ X (binaryOp .Mod) (rI (fun _ j=>0 < j) fun i j=>.int (i % j)):=zw fun i j _ _ _ _ _ hc q=>by
 have h1:(0:Int) < j:=hc
 exact mod_int' (by omega) (by rw [Int.fmod_eq_emod_of_nonneg i (by omega)];exact q)
theorem Ip:kQ X (binaryOp .Pow) (rI zz fun i j=>.int (i ^ j.toNat)):=zw fun _ _ _ _ _ _ _ hc q=>pow_int_small hc.1 hc.2.1 hc.2.2 q
theorem MA {f:Value->Sem Value} {g:Int->Int}
  (rule:∀ (i:Int) (t:Tok) (s:Shared) (Q:Value->Shared->Prop) (E:Value->Shared->Prop),Q (.int (g i) s.toks) { s with toks:=s.toks + 1 }->wpAny (model X.prog X.w) X.A (f (.int i t)) Q E s) :
  Fw X f (rU fun i=>.int (g i)):=by
 intro pins s σ H x v Q I rx h
 obtain ⟨i,rfl,q⟩:=h
 obtain ⟨t,rfl⟩:=rx
 exact rule i t s _ _ ⟨.int (g i),H,I.tok _,⟨_,rfl⟩,q⟩
theorem se:Fw X (unaryOp .USub) (rU fun i=>.int (-i)):=MA fun _ _ _ _ _ q=>neg_int q
end
def oY:V->V->Bool
 | .non,.non=>true | .non,.int _=>true | .int _,.non=>true | .non,.bl _=>true | .bl _,.non=>true | .non,.str _=>true | .str _,.non=>true
 | .int _,.int _=>true | .bl _,.bl _=>true | .str _,.str _=>true | .qf _,.qf _=>true
 | .int _,.str _=>true | .str _,.int _=>true | .bl _,.str _=>true | .str _,.bl _=>true
 | _,_=>false
def Iq:R2:=fun x y H Q=>oY x y=true/\Q (.bl (decide (x=y))) H
def Ir:R2:=fun x y H Q=>oY x y=true/\Q (.bl (!decide (x=y))) H
theorem Iu {i j:Int}:decide (V.int i=V.int j)=(i == j):=by
 rw [Vh]
 simp
theorem Iv {i j:Bool}:decide (V.bl i=V.bl j)=(i == j):=by
 rw [Vh]
 simp
theorem Iw {i j:Str}:decide (V.str i=V.str j)=(i == j):=by
 rw [Vh]
 simp
theorem Iy {i j:Array UInt8}:decide (V.qf i=V.qf j)=(i.toList == j.toList):=by
 rw [Vh]
 cases i
 cases j
 simp
section
variable {X:Cx} {a b c:Expr} {ta tb tc:TE} {pos:Pos}
theorem j7 {pins:List (Addr×Obj)} {σ:St} {H:Hp} {s:Shared} {Q:VK} {k k':Bool} (I:Inv X pins σ H s) (q:Q (.bl k) H) (e:k=k'):EP X pins σ Q (.bool k') s:=by
 subst e
 exact ⟨.bl k,H,I,rfl,q⟩
theorem n5:kQ X (compareOp .Eq) Iq:=by
 intro pins s σ H x y v u Q I rx ry h
 obtain ⟨hs,q⟩:=h
 cases x with
 | non =>
  cases rx
  cases y with
  | non=>cases ry;exact PySem.EqNone.eq_none_none (j7 I q (by simp))
  | bl j=>cases ry;exact PySem.EqNone.eq_none_bool (j7 I q (by simp))
  | int j=>obtain ⟨t',rfl⟩:=ry;exact PySem.EqNone.eq_none_int (j7 I q (by simp))
  | str j=>obtain ⟨t',rfl⟩:=ry;exact PySem.EqNone.eq_none_str (j7 I q (by simp))
  | _=>exact absurd (show false=true from hs) TX
 | bl i =>
  cases rx
  cases y with
  | non=>cases ry;exact PySem.EqNone.eq_bool_none (j7 I q (by simp))
  | bl j=>cases ry;exact eq_bool (j7 I q Iv)
  | str j=>obtain ⟨t',rfl⟩:=ry;exact PySem.EqMixed.eq_bool_str (j7 I q (by simp))
  | _=>exact absurd (show false=true from hs) TX
 | int i =>
  obtain ⟨t,rfl⟩:=rx
  cases y with
  | non=>cases ry;exact PySem.EqNone.eq_int_none (j7 I q (by simp))
  | int j=>obtain ⟨t',rfl⟩:=ry;exact eq_int (j7 I q Iu)
  | str j=>obtain ⟨t',rfl⟩:=ry;exact PySem.EqMixed.eq_int_str (j7 I q (by simp))
  | _=>exact absurd (show false=true from hs) TX
 | str i =>
  obtain ⟨t,rfl⟩:=rx
  cases y with
  | non=>cases ry;exact PySem.EqNone.eq_str_none (j7 I q (by simp))
  | bl j=>cases ry;exact PySem.EqMixed.eq_str_bool (j7 I q (by simp))
  | int j=>obtain ⟨t',rfl⟩:=ry;exact PySem.EqMixed.eq_str_int (j7 I q (by simp))
  | str j=>obtain ⟨t',rfl⟩:=ry;exact eq_str (j7 I q Iw)
  | _=>exact absurd (show false=true from hs) TX
 | qf i =>
  obtain ⟨t,rfl⟩:=rx
  cases y with
  | qf j=>obtain ⟨t',rfl⟩:=ry;exact PySem.W.eq_bytes (j7 I q Iy)
  | _=>exact absurd (show false=true from hs) TX
 | _=>cases y <;> exact absurd (show false=true from hs) TX
theorem Dc:kQ X (compareOp .NotEq) Ir:=by
 intro pins s σ H x y v u Q I rx ry h
 obtain ⟨hs,q⟩:=h
 cases x with
 | non =>
  cases rx
  cases y with
  | non=>cases ry;exact PySem.EqNone.ne_none_none (j7 I q (by simp))
  | bl j=>cases ry;exact PySem.EqNone.ne_none_bool (j7 I q (by simp))
  | int j=>obtain ⟨t',rfl⟩:=ry;exact PySem.EqNone.ne_none_int (j7 I q (by simp))
  | str j=>obtain ⟨t',rfl⟩:=ry;exact PySem.EqNone.ne_none_str (j7 I q (by simp))
  | _=>exact absurd (show false=true from hs) TX
 | bl i =>
  cases rx
  cases y with
  | non=>cases ry;exact PySem.EqNone.ne_bool_none (j7 I q (by simp))
  | bl j=>cases ry;exact ne_bool (j7 I q (congrArg not Iv))
  | str j=>obtain ⟨t',rfl⟩:=ry;exact PySem.EqMixed.ne_bool_str (j7 I q (by simp))
  | _=>exact absurd (show false=true from hs) TX
 | int i =>
  obtain ⟨t,rfl⟩:=rx
  cases y with
  | non=>cases ry;exact PySem.EqNone.ne_int_none (j7 I q (by simp))
  | int j=>obtain ⟨t',rfl⟩:=ry;exact ne_int (j7 I q (congrArg not Iu))
  | str j=>obtain ⟨t',rfl⟩:=ry;exact PySem.EqMixed.ne_int_str (j7 I q (by simp))
  | _=>exact absurd (show false=true from hs) TX
 | str i =>
  obtain ⟨t,rfl⟩:=rx
  cases y with
  | non=>cases ry;exact PySem.EqNone.ne_str_none (j7 I q (by simp))
  | bl j=>cases ry;exact PySem.EqMixed.ne_str_bool (j7 I q (by simp))
  | int j=>obtain ⟨t',rfl⟩:=ry;exact PySem.EqMixed.ne_str_int (j7 I q (by simp))
  | str j=>obtain ⟨t',rfl⟩:=ry;exact ne_str (j7 I q (congrArg not Iw))
  | _=>exact absurd (show false=true from hs) TX
 | qf i =>
  obtain ⟨t,rfl⟩:=rx
  cases y with
  | qf j=>obtain ⟨t',rfl⟩:=ry;exact PySem.W.ne_bytes (j7 I q (congrArg not Iy))
  | _=>exact absurd (show false=true from hs) TX
 | _=>cases y <;> exact absurd (show false=true from hs) TX
theorem yi:kQ X (compareOp .Lt) (pR fun i j=>.bl (decide (i < j))):=vn fun _ _ _ _ _ _ _ q=>lt_int q
theorem zB:kQ X (compareOp .Gt) (pR fun i j=>.bl (decide (j < i))):=vn fun _ _ _ _ _ _ _ q=>gt_int q
theorem zC:kQ X (compareOp .GtE) (pR fun i j=>.bl (decide (j<=i))):=vn fun _ _ _ _ _ _ _ q=>ge_int q
theorem vo:kQ X (compareOp .Is) (fun x y H Q=>y=.non/\Q (.bl (decide (x=.non))) H):=by
 intro pins s σ H x y v u Q I rx ry h
 obtain ⟨rfl,q⟩:=h
 cases ry
 refine is_none_gen (j7 I q ?_)
 cases x <;> first
  | (cases rx;rfl)
  | (obtain ⟨t,rfl⟩:=rx;rfl)
theorem aL (b:Expr) {op:CmpOp} (h:op≠.In:=by decide) (h2:op≠.NotIn:=by decide):behindInMarks op b=false:=by
 have e1:(op == CmpOp.In)=false:=by cases op <;> first | rfl | exact absurd rfl h
 have e2:(op == CmpOp.NotIn)=false:=by cases op <;> first | rfl | exact absurd rfl h2
 cases b <;> simp [behindInMarks,e1,e2]
theorem Fy {op:CmpOp} {r:R2} (ho:kQ X (compareOp op) r) (ha:PE X a ta) (hb:PE X b tb) (hm:behindInMarks op b=false):PE X (.Compare a [op] [b] pos) (zv r ta tb):=by
 intro pins s σ H Q I h
 exact wpAny_Compare1 (vm ha hb I h fun v u s2 x y H2 I2 rx ry q=>ho pins s2 σ H2 x y v u Q I2 rx ry q) hm
def tM (t:TE):TT:=fun σ H Q=>t σ H fun x H'=>∃ k,x=.bl k/\Q k H'
theorem gh {op:CmpOp} {r:R2} (ho:kQ X (compareOp op) r) (ha:PE X a ta) (hb:PE X b tb) (hm:behindInMarks op b=false):PT X (.Compare a [op] [b] pos) (tM (zv r ta tb)):=by
 intro pins s σ H Q I h
 refine wpAny_isTrue_Compare1 (cy (ha pins s σ H _ I h) fun v s1 ⟨x,H1,I1,r1,q1⟩=>cy (hb pins s1 σ H1 _ I1 q1) fun u s2 ⟨y,H2,I2,r2,q2⟩ =>
  cy (ho pins s2 σ H2 x y v u _ I2 r1 r2 q2) fun c s3 ⟨z,H3,I3,r3,k,e,q3⟩=>?_) hm
 subst e
 cases r3
 exact wpAny_truthy_bool ⟨H3,I3,q3⟩
theorem lg:(sizeLine:Nat) < 2 ^ 63:=by rw [sizeLine_eq];decide
theorem vals1 {x:V} {us:List Value} (r:Vals [x] us):∃ u,us=[u]/\RelV x u:=by
 cases r with
 | cons r1 r2=>cases r2;exact ⟨_,rfl,r1⟩
theorem vals2 {x y:V} {us:List Value} (r:Vals [x,y] us):∃ u w',us=[u,w']/\RelV x u/\RelV y w':=by
 cases r with
 | cons r1 r2 =>
  cases r2 with
  | cons r3 r4=>cases r4;exact ⟨_,_,rfl,r1,r3⟩
theorem MB (hc:X.calm=true):fB X (.builtin "max") (fun xs H Q=>∃ i j,xs=[.int i,.int j]/\Q (.int (if j > i then j else i)) H):=by
 intro pins s σ H xs us Q I r h
 obtain ⟨i,j,rfl,q⟩:=h
 obtain ⟨u,w',rfl,⟨t,rfl⟩,⟨t',rfl⟩⟩:=vals2 r
 refine max_two_ints (I.ok.hd hc) fun h' tk k=>⟨_,H,I.kept k,?_,q⟩
 by_cases hj:j > i
 ·rw [if_pos hj,if_pos hj];exact ⟨_,rfl⟩
 ·rw [if_neg hj,if_neg hj];exact ⟨_,rfl⟩
theorem MC (hc:X.calm=true):fB X (.builtin "min") (fun xs H Q=>∃ i j,xs=[.int i,.int j]/\Q (.int (if j < i then j else i)) H):=by
 intro pins s σ H xs us Q I r h
 obtain ⟨i,j,rfl,q⟩:=h
 obtain ⟨u,w',rfl,⟨t,rfl⟩,⟨t',rfl⟩⟩:=vals2 r
 refine min_two_ints (I.ok.hd hc) fun h' tk k=>⟨_,H,I.kept k,?_,q⟩
 by_cases hj:j < i
 ·rw [if_pos hj,if_pos hj];exact ⟨_,rfl⟩
 ·rw [if_neg hj,if_neg hj];exact ⟨_,rfl⟩
theorem Fz:fB X (.type "int") (fun xs H Q=>(∃ i,xs=[.int i]/\Q (.int i) H)\/∃ k,xs=[.bl k]/\Q (.int (if k then 1 else 0)) H):=by
 intro pins s σ H xs us Q I r h
 rcases h with ⟨i,rfl,q⟩ | ⟨k,rfl,q⟩
 ·obtain ⟨u,rfl,t,rfl⟩:=vals1 r
  exact call_int_int ⟨.int i,H,I,⟨_,rfl⟩,q⟩
 ·obtain ⟨u,rfl,r1⟩:=vals1 r
  cases r1
  exact call_int_bool ⟨.int (if k then 1 else 0),H,I.tok _,⟨_,rfl⟩,q⟩
end
section
variable {prog:Program} {w:World} {A:Around} {E:Value->Shared->Prop} {s:Shared} {K:Zfr} {x dx C f:Addr} {mA:Str->Option Value} {name:Str} {v:Value}
end
section
variable {P:Program} {w:World} {H H':Hp} {h h':Heap} {a C dx:Addr} {fs fs':List (Str×V)}
end
structure nB (K:Zfr) (C:Addr) (f:Str) (v:V) (u:Value):Prop where
 at_:PySem.W.findIn K (.ref C) f=some (some u)
 rel:RelV v u
 get:PySem.W.specialIn K u "__get__" = some none
 cp:PySem.W.copiedNames.contains f=false
section
variable {X:Cx} {pins:List (Addr×Obj)} {σ:St} {H:Hp} {s:Shared} {a C dx:Addr} {fs:List (Str×V)} {f:Str} {v:V} {A:Around} {E:Value->Shared->Prop}
end
section
variable {X:Cx} {o e value:Expr} {f:Str} {pos pos' tpos:Pos} {ta tv:TE}
end
section
variable {X:Cx} {pins:List (Addr×Obj)} {σ:St} {H:Hp} {s:Shared} {A:Around} {E:Value->Shared->Prop} {Q:Value->Shared->Prop} {c:Value} {b:Bool}
end
structure eK (k:Nat) (A:Around):Prop where
 hd:A.handled=none
 dp:A.depth + 3 * k + 5 < recursionLimit
 un:A.units + 16 * k + 200 < cLine
 gd:A.guards=some []
theorem eK.mono {j k:Nat} {A:Around} (r:eK k A) (h:j<=k):eK j A:=⟨r.hd,by have:=r.dp;omega,by have:=r.un;omega,r.gd⟩
theorem eK.deeper {k:Nat} {A:Around} (r:eK (k + 1) A) (env:Env):eK k (A.deeper env) :=
 ⟨r.hd,by have:=r.dp;show A.depth + 1 + 3 * k + 5 < _;omega,by have:=r.un;show A.units + 3 + 16 * k + 200 < _;omega,r.gd⟩
theorem eK.depth {k:Nat} {A:Around} (r:eK k A):A.depth < recursionLimit:=by have:=r.dp;omega
theorem eK.units {k:Nat} {A:Around} (r:eK k A):A.units + 64 < cLine:=by have:=r.un;omega
def zD:TA:=fun _ H Q=>Q [] H
def tN (ta:TE) (tr:TA):TA:=fun σ H Q=>ta σ H fun x H1=>tr σ H1 fun xs H2=>Q (x :: xs) H2
section
variable {X:Cx} {e:Expr} {es:List Expr} {te:TE} {t:TA} {pos:Pos}
theorem av:PA X [] zD:=fun _ _ _ _ H Q I h=>Calls.spliced_nil ⟨[],H,I,.nil,h⟩
theorem aj (ha:PE X e te) (hr:PA X es t) (hs:starEach (e :: es) X.env=(false,eval e X.env) :: starEach es X.env:=by rfl):PA X (e :: es) (tN te t):=by
 intro pos pins s σ H Q I h
 rw [hs]
 show wpAny _ _ (spliced ((false,eval e X.env) :: backTo pos (starEach es X.env))) _ _ s
 refine Calls.spliced_cons (cy (ha pins s σ H _ I h) fun u s1 ⟨x,H1,I1,r1,q1⟩=>?_)
 exact cy (hr pos pins s1 σ H1 _ I1 q1) fun us s2 ⟨xs,H2,I2,r2,q2⟩=>⟨x :: xs,H2,I2,.cons r1 r2,q2⟩
def zE (t:TA):TE:=fun σ H Q=>t σ H fun xs H1=>xs.length<=sizeLine/\∀ p,H1 p=none->Q (.ref p) (upd H1 p (.tup xs))
def zF (t:TA):TE:=fun σ H Q=>t σ H fun xs H1=>xs.length<=sizeLine/\∀ p,H1 p=none->Q (.ref p) (upd H1 p (.lst xs))
theorem dZ {x1} (h:PA X es t):PE X (.Tuple es x1 pos) (zE t):=by
 intro pins s σ H Q I hq
 refine wpAny_Tuple_spliced (cy (h pos pins s σ H _ I hq) fun us s1 ⟨xs,H1,I1,r,z,q⟩=>⟨by rw [<- r.length];exact z,?_⟩)
 have hf:H1 s1.heap.objs.size=none:=I1.hok.fresh (TM _)
 refine ⟨.ref s1.heap.objs.size,upd H1 s1.heap.objs.size (.tup xs),I1.laid (t':=s1.toks) (fun b u e=>T8 _ e) (TM _) ?_,rfl,q _ hf⟩
 exact ⟨z,us,r,⟨_,Ug _ rfl,rfl,rfl,_,rfl⟩⟩
theorem i9 (h:PA X es t):PE X (.List es pos) (zF t):=by
 intro pins s σ H Q I hq
 refine wpAny_List_spliced (cy (h pos pins s σ H _ I hq) fun us s1 ⟨xs,H1,I1,r,z,q⟩=>⟨by rw [<- r.length];exact z,?_⟩)
 have hf:H1 s1.heap.objs.size=none:=I1.hok.fresh (TM _)
 refine ⟨.ref s1.heap.objs.size,upd H1 s1.heap.objs.size (.lst xs),I1.laid (t':=s1.toks) (fun b u e=>T8 _ e) (TM _) ?_,rfl,q _ hf⟩
 exact ⟨z,us,0,r,Ug _ rfl⟩
end
abbrev Sp:=List V->Hp->VK->XK->Prop
abbrev pg:=List Env->Hp->Shared->XK->Value->Shared->Prop
structure sf (P:Program) (w:World) (K:Zfr) (mg:Str->Option Value) (base:Heap) (A:Around) (outer:List Env) (s:Shared) (H:Hp):Prop where
 frames:A.frames=some outer
 mod:Mod K mg base
 bs:∀ b o,base.get? b=some o->s.heap.get? b=some o/\H b=none
 tw:base.objs.size<=s.heap.objs.size
 mh:s.heap.FunFrames base outer
 yf:∀ b∈frs outer,H b=none
 hok:kF P w H s.heap
 bare:AllBare s.gens
def CE (outer:List Env) (P:Program) (w:World) (H:Hp) (s:Shared) (Q:VK) (u:Value) (s':Shared):Prop :=
 ∃ v H',s'.os=s.os/\AllBare s'.gens/\Un (frs outer) [] H H' s.heap s'.heap/\kF P w H' s'.heap/\RelV v u/\Q v H'
def CR (CX:pg) (outer:List Env) (P:Program) (w:World) (H:Hp) (s:Shared) (Q:VK) (E:XK) (r:Result) (s':Shared):Prop :=
 match r with
 | .ok (.ret u)=>CE outer P w H s Q u s'
 | .ok _=>False
 | .error e=>CX outer H s E e s'
structure aE (P:Program) (w:World) (K:Zfr) (mg:Str->Option Value) (base:Heap) (CX:pg) (k:Nat) (f:Addr) (fd:FuncData) (ps:List Str) (sp:Sp):Prop where
 len:∀ vs H Q E,sp vs H Q E->vs.length=ps.length
 run:∀ (A:Around) (outer:List Env) (s:Shared) (H:Hp) (args:Args) (us:List Value) (vs:List V) (Q:VK) (E:XK),eK k A->sf P w K mg base A outer s H->BindsTo s fd args (ps.zip us)->Vals vs us->sp vs H Q E ->
  codeAny (model P w) A (.call (.ref f) args) (CR CX outer P w H s Q E) s
theorem aE.imp {P:Program} {w:World} {K:Zfr} {mg:Str->Option Value} {base:Heap} {CX:pg} {k:Nat} {f:Addr} {fd:FuncData} {ps:List Str} {sp Iz:Sp} (F:aE P w K mg base CX k f fd ps sp)
  (h:∀ vs H Q E,Iz vs H Q E->sp vs H Q E):aE P w K mg base CX k f fd ps Iz :=
 ⟨fun vs H Q E q=>F.len vs H Q E (h _ _ _ _ q),fun A outer s H args us vs Q E hr he hb hv hs=>F.run A outer s H args us vs Q E hr he hb hv (h _ _ _ _ hs)⟩
section
variable {X:Cx} {pins:List (Addr×Obj)} {σ:St} {H:Hp} {s s':Shared}
theorem Inv.FA (I:Inv X pins σ H s):sf X.prog X.w X.K X.mg X.base X.A X.stack s H :=
 ⟨I.ok.frames,I.ok.mod,I.bs,Uh I.ok.tw I.sz,I.stack,I.pd,I.hok,I.bare⟩
theorem Inv.after {Q:VK} {u:Value} (I:Inv X pins σ H s) (h:CE X.stack X.prog X.w H s Q u s'):EP X pins σ Q u s':=by
 obtain ⟨v,H',os,bare,un,hok,r,q⟩:=h
 obtain ⟨hh,g,d,t,os'⟩:=s'
 obtain rfl:os'=s.os:=os
 exact ⟨v,H',I.call (h':=hh) (g':=g) (d':=d) (t':=t) (ch:=[]) un hok bare (fun b z=>absurd z (by simp)),r,q⟩
end
def ow (sp:Sp) (mV:List V) (E:XK) (t:TA):TE:=fun σ H Q=>t σ H fun vs H1=>sp (vs ++ mV) H1 Q E
def Binds (K:Zfr) (fd:FuncData) (ps:List Str) (ds:List Value):Prop :=
 ∀ (s:Shared) (us:List Value),K.In s.heap->(us ++ ds).length=ps.length->BindsTo s fd ⟨us,[]⟩ (ps.zip (us ++ ds))
theorem Binds.all {K:Zfr} {fd:FuncData} {ps:List Str} (h:∀ us:List Value,us.length=ps.length->bindArgs fd ⟨us,[]⟩=pure (ps.zip us)):Binds K fd ps []:=fun s us _ hl=>by
 rw [U5] at hl ⊢
 exact .of_eq (h us hl)
def Passes (CX:pg) (X:Cx) (E:XK):Prop:=∀ (pins:List (Addr×Obj)) (σ:St) (H:Hp) (s:Shared) (e:Value) (s':Shared),Inv X pins σ H s->CX X.stack H s E e s'->X.xe e s'
section
variable {X:Cx} {CX:pg} {k:Nat} {f C:Addr} {fd:FuncData} {ps:List Str} {sp:Sp} {mV:List V} {ds:List Value} {E:XK} {x m:Str} {p pos apos:Pos} {e o:Expr} {es:List Expr} {ta:TE} {t:TA}
theorem vq {pins:List (Addr×Obj)} {σ:St} {H:Hp} {s:Shared} {Q:VK} {us:List Value} {vs:List V} (F:aE X.prog X.w X.K X.mg X.base CX k f fd ps sp) (hr:eK k X.A) (hb:Binds X.K fd ps ds) (hd:Vals mV ds) (hx:Passes CX X E)
  (I:Inv X pins σ H s) (r:Vals vs us) (h:sp (vs ++ mV) H Q E):wpAny (model X.prog X.w) X.A (call (.ref f) us) (EP X pins σ Q) X.xe s:=by
 have r2:Vals (vs ++ mV) (us ++ ds):=r.append hd
 have hl:(us ++ ds).length=ps.length:=by rw [<- r2.length];exact F.len _ _ _ _ h
 refine wpAny_call (codeAny_mono (F.run X.A X.stack s H ⟨us,[]⟩ (us ++ ds) (vs ++ mV) Q E hr I.FA (hb s us I.C1 hl) r2 h) fun r s' hq=>?_)
 cases r with
 | error e=>exact hx pins σ H s e s' I hq
 | ok fl =>
  cases fl with
  | ret u=>exact I.after hq
  | next=>exact False.elim hq
  | brk=>exact False.elim hq
  | cont=>exact False.elim hq
theorem IA (F:aE X.prog X.w X.K X.mg X.base CX k f fd ps sp) (hr:eK k X.A) (hg:Gl X x) (hm:X.mg x=some (.ref f)) (hk:PySem.W.keepIn X.K (.ref f)=true) (hb:Binds X.K fd ps ds) (hd:Vals mV ds) (hx:Passes CX X E)
  (ha:PA X (e :: es) t) (hdb:(x == ("__debug__" : Str))=false:=by decide) (he:starEach (e :: es) X.env=(false,eval e X.env) :: starEach es X.env:=by rfl) (hpl:(backTo pos (starEach es X.env)).any (·.1)=false:=by rfl) :
  PE X (.Call (.Name x p) (e :: es) [] pos) (ow sp mV E t):=by
 intro pins s σ H Q I h
 refine wpAny_Call_Name_kw (Ig I hg hm ?_ hdb)
 refine PySem.W.callWith_K (h₀:=X.base) I.ok.mod.Fi hk (cy (ha pos pins s σ H _ I h) fun us s1 ⟨vs,H1,I1,r,q⟩=>⟨I1.C1,?_⟩) he hpl
 exact vq F hr hb hd hx I1 r q
end
section
variable {X:Cx} {CX:pg} {k:Nat} {f C:Addr} {fd:FuncData} {ps ks:List Str} {sp:Sp} {E:XK} {x m:Str} {p pos apos kpos:Pos} {e o:Expr} {es:List Expr} {kws:List Keyword} {te ta:TE} {t tk:TA} {nm:Option Str}
variable {g:List Value->List Value->List Value} {gV:List V->List V->List V}
end
structure aC (N P:List Str) (sc:Scope):Prop where
 kind:sc.kind=.function
 co:sc.isCoroutine=false
 gen:sc.isGenerator=false
 nd:N.Nodup
 pre:N.take P.length=P
 par:∀ x∈P,sc.names.lookup x=some .local\/sc.names.lookup x=some .cell
 vt:∀ y∈sc.names,y.2≠.free
theorem IB {kindOf:Str->Option NameKind} {x:Str}:∀ {binds:List (Str×Value)} {m:Str->Option Value},(∀ v,(x,v) ∉ binds)->bindL kindOf binds m x=m x
 | [],_,_=>rfl
 | (n,v) :: r,m,h=>by
  unfold bindL
  rw [IB fun w hw=>h w (TY _ hw)]
  split
  ·have:x≠n:=by rintro rfl;exact h v TU
   simp [this]
  ·rfl
theorem IC {kindOf:Str->Option NameKind} {x:Str}:∀ {binds:List (Str×Value)} {m:Str->Option Value},(∀ v,(x,v) ∉ binds)->bindC kindOf binds m x=m x
 | [],_,_=>rfl
 | (n,v) :: r,m,h=>by
  unfold bindC
  rw [IC fun w hw=>h w (TY _ hw)]
  split
  ·rfl
  ·have:x≠n:=by rintro rfl;exact h v TU
   simp [this]
theorem IE {kindOf:Str->Option NameKind} {x:Str} {v:Value}:∀ {P:List Str} {vs:List Value} {i:Nat} {m:Str->Option Value},P.Nodup->P[i]?=some x->vs[i]?=some v->kindOf x=some .local ->
  bindL kindOf (P.zip vs) m x=some v
 | [],_,_,_,_,h,_,_=>by simp at h
 | _ :: _,[],_,_,_,_,h,_=>by simp at h
 | p :: P,w :: vs,0,m,nd,h1,h2,hk=>by
  simp at h1 h2;subst h1;subst h2
  show bindL kindOf ((p,w) :: P.zip vs) m p=_
  unfold bindL
  rw [IB fun v hv=>(UZ.mp nd).1 (List.of_mem_zip hv).1,if_pos hk]
  simp
 | p :: P,w :: vs,i + 1,m,nd,h1,h2,hk=>by
  show bindL kindOf ((p,w) :: P.zip vs) m x=_
  unfold bindL
  exact IE (i:=i) (UZ.mp nd).2 (by simpa using h1) (by simpa using h2) hk
theorem IF {kindOf:Str->Option NameKind} {x:Str} {v:Value}:∀ {P:List Str} {vs:List Value} {i:Nat} {m:Str->Option Value},P.Nodup->P[i]?=some x->vs[i]?=some v->kindOf x≠some .local ->
  bindC kindOf (P.zip vs) m x=some v
 | [],_,_,_,_,h,_,_=>by simp at h
 | _ :: _,[],_,_,_,_,h,_=>by simp at h
 | p :: P,w :: vs,0,m,nd,h1,h2,hk=>by
  simp at h1 h2;subst h1;subst h2
  show bindC kindOf ((p,w) :: P.zip vs) m p=_
  unfold bindC
  rw [IC fun v hv=>(UZ.mp nd).1 (List.of_mem_zip hv).1,if_neg hk]
  simp
 | p :: P,w :: vs,i + 1,m,nd,h1,h2,hk=>by
  show bindC kindOf ((p,w) :: P.zip vs) m x=_
  unfold bindC
  exact IF (i:=i) (UZ.mp nd).2 (by simpa using h1) (by simpa using h2) hk
def start (N:List Str) (vs:List V):St:=vs.map some ++ List.replicate (N.length - vs.length) none
def gK (CX:pg) (P:Program) (w:World) (K:Zfr) (mg:Str->Option Value) (base:Heap) (N:List Str) (qual:Str) (scope:Scope) (f:Addr) (cd:Value) (A:Around) (outer:List Env) (s:Shared) (H:Hp) (E:XK):Cx where
 prog:=P
 w:=w
 K:=K
 mg:=mg
 base:=base
 A:=A.deeper (envOfC qual scope s.heap.objs.size f cd)
 N:=N
 s₀:=s
 H₀:=H
 env:=envOfC qual scope s.heap.objs.size f cd
 outer:=outer
 stack:=envOfC qual scope s.heap.objs.size f cd :: outer
 ex:=[]
 calm:=true
 fn:=fun _=>true
 pn:=[]
 xe:=fun e s'=>wpAny (model P w) (A.deeper (envOfC qual scope s.heap.objs.size f cd)) («leaving» (envOfC qual scope s.heap.objs.size f cd) e) (fun _ s''=>CX outer H s E e s'') (fun e' s''=>CX outer H s E e' s'') s'
theorem IG {sc:Scope} {n:Nat} {x:Str} (h:sc.names.lookup x=some .cell):∃ c,(cellsFrom n sc.names []).lookup x=some c:=by
 have q:=PySem.W.cellsFrom_some sc.names n [] (.inl h)
 exact Vd.mp q
theorem MD {CX:pg} {P:Program} {w:World} {K:Zfr} {mg:Str->Option Value} {base:Heap} {N ps:List Str} {qual:Str} {scope:Scope} {f:Addr} {cd:Value} {A:Around} {outer:List Env} {s s1:Shared} {H:Hp} {E:XK} {us:List Value} {vs:List V}
  (S:aC N ps scope) (hd:A.handled=none) (e0:sf P w K mg base A outer s H) (hl:vs.length=ps.length) (r:Vals vs us)
  (x:InCallC s s.heap.objs.size (bindL (envOfC qual scope s.heap.objs.size f cd).kindOf (ps.zip us) fun _=>none) (cellsFrom (s.heap.objs.size + 1) scope.names []) (bindC (envOfC qual scope s.heap.objs.size f cd).kindOf (ps.zip us) fun _=>none) s1) :
  Inv (gK CX P w K mg base N qual scope f cd A outer s H E) [] (start N vs) H s1:=by
 have hpl:ps.length<=N.length:=by have:=congrArg List.length S.pre;rw [UJ] at this;omega
 obtain ⟨h1,tk,rfl,hk⟩:=x.done
 have zG:∀ b:Addr,b ∉ (gK CX P w K mg base N qual scope f cd A outer s H E).ex:=fun b z=>absurd (show b∈([]:List Addr) from z) (by simp)
 refine ⟨⟨e0.mod,S.kind,rfl,rfl,TM _,fun y z c h1 h2=>?_,fun y hy=>?_,fun y c _ h=>?_,fun _=>hd,Around.frames_deeper e0.frames,.inr ⟨rfl,rfl⟩,fun b z=>absurd z (zG b),e0.bs,e0.tw,fun b _ _=>zG b,fun b z=>absurd z (zG b),e0.mh,e0.yf⟩,
  rfl,e0.bare,Un.kept hk,⟨_,x.toInCall.ns,fun i y v h1 h2 h3=>?_⟩,fun y c h=>⟨_,x.cell y c h⟩,e0.hok.fresh (TM _),fun y c h=>?_,fun p hp=>absurd (show p∈([]:List (Addr×Obj)) from hp) (by simp),e0.hok.kept hk,?_⟩
 ·exact name_of_addr x.apart (PySem.mem_of_lookup h1) (PySem.mem_of_lookup h2)
 ·have hy:scope.names.lookup y=some .cell\/scope.names.lookup y=some .free:=hy
  rcases hy with hy | hy
  ·exact IG hy
  ·exact absurd rfl (S.vt _ (PySem.mem_of_lookup hy))
 ·exact VT (x.above y c (PySem.mem_of_lookup h))
 ·have hi:i < vs.length:=by
   unfold start at h2
   by_cases hi:i < vs.length
   ·exact hi
   ·rw [Uc (by simpa using hi)] at h2
    rw [Vg] at h2
    split at h2 <;> cases h2
  have ha:vs[i]?=some v:=by
   unfold start at h2
   rw [T1 (by simpa using hi),TR] at h2
   cases e:vs[i]? with
   | none=>rw [e] at h2;cases h2
   | some a=>rw [e] at h2;cases h2;rfl
  obtain ⟨u,hu,rv⟩:=r.get ha
  have hp:ps[i]?=some y:=by
   rw [<- S.pre,List.getElem?_take_of_lt (by omega)];exact h1
  have IH:ps.Nodup:=by rw [<- S.pre];exact S.nd.sublist (List.take_sublist _ _)
  refine ⟨u,rv,?_⟩
  rcases S.par y (T2 hp) with k | k
  ·exact .inl ⟨k,IE IH hp hu k⟩
  ·obtain ⟨c,e⟩:=IG (n:=s.heap.objs.size + 1) k
   refine .inr ⟨.inl k,c,e,?_⟩
   have q:=x.cell y c e
   rw [IF IH hp hu (by show scope.names.lookup y≠_;rw [k];decide)] at q
   exact q
 ·exact e0.hok.fresh (VT (x.above y c (PySem.mem_of_lookup h)))
 ·unfold start
  show _=N.length
  rw [TN,TJ,Vl]
  omega
theorem tO {CX:pg} {P:Program} {w:World} {K:Zfr} {mg:Str->Option Value} {base:Heap} {k:Nat} {f:Addr} {name qual:Str} {params:Arguments} {body:List Stmt} {scope:Scope} {dV kV doc pm cdv ct oc:Value} {an od:Option Addr}
  {osl:Array (Option Value)} {N ps:List Str} {sp:Sp} (lk:K.lookup f=some ⟨oc,od,.func (PySem.W.fnOf name qual params body scope dV kV doc pm an cdv ct),osl⟩) (hcd:PySem.W.codeIn K cdv qual=true) (S:aC N ps scope)
  (len:∀ vs H Q E,sp vs H Q E->vs.length=ps.length)
  (hbody:∀ (A:Around) (outer:List Env) (s:Shared) (H:Hp) (vs:List V) (Q:VK) (E:XK),eK k (A.deeper (envOfC qual scope s.heap.objs.size f cdv))->sp vs H Q E ->
   ∃ t,pe (gK CX P w K mg base N qual scope f cdv A outer s H E) body t/\t { nx:=fun _ H'=>Q .non H',rt:=Q } (start N vs) H) :
  aE P w K mg base CX (k + 1) f (PySem.W.fnOf name qual params body scope dV kV doc pm an cdv ct) ps sp:=by
 refine ⟨len,fun A outer s H args us vs Q E hr e0 hb r p8=>?_⟩
 have hl:=len _ _ _ _ p8
 have KX:K.In s.heap:=e0.mod.Fi.keeps fun b o e=>(e0.bs b o e).1
 have lim:s.heap.NoLimit:=e0.mod.nolimit.keeps fun b o e=>(e0.bs b o e).1
 have hkind:∀ y∈ps.zip us,scope.names.lookup y.1=some .local\/(scope.names.lookup y.1=some .cell/\((cellsFrom (s.heap.objs.size + 1) scope.names []).lookup y.1).isSome=true):=fun ⟨n,v⟩ hy=>by
  rcases S.par n (List.of_mem_zip hy).1 with q | q
  ·exact .inl q
  ·exact .inr ⟨q,PySem.W.cellsFrom_some _ _ _ (.inl q)⟩
 refine codeAny_call_function hr.depth (KX _ _ lk) rfl S.co S.gen rfl (PySem.W.codeRec_of KX hcd) (hb _ _ _ _ ?_)
 refine wpAny_newFunctionEnv_cells S.kind hkind fun env he s1 x=>?_
 subst he
 refine ⟨lim.keeps x.toInCall.keep,codeAny_func ?_⟩
 obtain ⟨t,ht,hq⟩:=hbody A outer s H vs Q E (hr.deeper _) p8
 have I:Inv (gK CX P w K mg base N qual scope f cdv A outer s H E) [] (start N vs) H s1:=MD S hr.hd e0 hl r x
 refine wpAny_mono (ht [] s1 (start N vs) H _ I hq) (fun fl s' hs=>?_) fun e s' hs=>hs
 have fin:∀ {σ':St} {H':Hp} {v:V} {u:Value},Inv (gK CX P w K mg base N qual scope f cdv A outer s H E) [] σ' H' s'->RelV v u->Q v H'->CE outer P w H s Q u s' :=
  fun {σ' H' v u} J rv q=>⟨v,H',J.os,J.bare,J.base,J.hok,rv,q⟩
 cases fl with
 | ret u =>
  obtain ⟨v,σ',H',J,rv,q⟩:=hs
  exact fin J rv q
 | next =>
  obtain ⟨σ',H',J,q⟩:=hs
  exact fin (v:=V.non) (u:=Value.none) J rfl q
 | brk =>
  obtain ⟨_,_,_,q⟩:=hs
  exact False.elim q
 | cont =>
  obtain ⟨_,_,_,q⟩:=hs
  exact False.elim q
section
variable {X:Cx} {x:Str} {p pos:Pos} {e:Expr} {es:List Expr} {t:TA} {id T:String} {r:List V->Hp->VK->Prop}
def FC (r:List V->Hp->VK->Prop) (t:TA):TE:=fun σ H Q=>t σ H fun vs H1=>r vs H1 Q
theorem jF (hc:fB X (.builtin id) r) (hg:Gl X x) (hm:X.mg x=none) (hv:bootBuiltins x=some (.builtin id)) (ha:PA X (e :: es) t) (hn:x≠"__name__" := by decide) (hdb:(x == ("__debug__" : Str))=false:=by decide)
  (he:starEach (e :: es) X.env=(false,eval e X.env) :: starEach es X.env:=by rfl) (hpl:(backTo pos (starEach es X.env)).any (·.1)=false:=by rfl):PE X (.Call (.Name x p) (e :: es) [] pos) (FC r t):=by
 intro pins s σ H Q I h
 refine wpAny_Call_Name_kw (yg I hg hm hv ?_ hn hdb)
 exact PyProof.Rows.callWith_builtin1 (cy (ha pos pins s σ H _ I h) fun us s1 ⟨vs,H1,I1,r1,q1⟩=>hc pins s1 σ H1 vs us Q I1 r1 q1) he hpl
theorem d3 (hc:fB X (.type T) r) (hg:Gl X x) (hm:X.mg x=none) (hv:bootBuiltins x=some (.type T)) (ha:PA X (e :: es) t) (hn:x≠"__name__" := by decide) (hdb:(x == ("__debug__" : Str))=false:=by decide)
  (he:starEach (e :: es) X.env=(false,eval e X.env) :: starEach es X.env:=by rfl) (hpl:(backTo pos (starEach es X.env)).any (·.1)=false:=by rfl):PE X (.Call (.Name x p) (e :: es) [] pos) (FC r t):=by
 intro pins s σ H Q I h
 refine wpAny_Call_Name_kw (yg I hg hm hv ?_ hn hdb)
 exact PyProof.Rows.callWith_type1 (cy (ha pos pins s σ H _ I h) fun us s1 ⟨vs,H1,I1,r1,q1⟩=>hc pins s1 σ H1 vs us Q I1 r1 q1) he hpl
end
end L2
namespace HT
open PySem PyProof.Rows
theorem ME (A:Around) (s:Shared) (a:Int) (t:Tok) (c:Int) (u:Tok):∃ e,SeqAt.EqAt A s (.int a t) (.int c u) e/\(e=true↔a=c) :=
 ⟨(a == c),SeqAt.EqAt.int_int a t c u,by simp⟩
section
open PySem.SeqAt
open PySem.AutoSeq1 (wpAny_loadPart')
open PySem.MeetsSeq PySem.MeetsSeq2 PySem.MeetsSeq3
end
section
variable {prog:Program} {w:World} {A:Around} {E:Value->Shared->Prop} {s:Shared}
theorem MF {t b:Addr} {vs ws:List Value} {Q:Value->Shared->Prop} (ht:IsTup s.heap t vs.toArray) (hb:IsTup s.heap b ws.toArray) (hv:vs≠[])
  (h1:ws=[]->Q (.ref t) s) (h2:ws≠[]->Q (.ref s.heap.objs.size) { s with heap:=s.heap.push { cls:=.type "tuple",data:=.seq (vs ++ ws).toArray } })
  (hsz:vs.length + ws.length<=sizeLine):wpAny (model prog w) A (binaryOp .Add (.ref t) (.ref b)) Q E s:=by
 obtain ⟨⟨cls,dd,data,sl⟩,ho,hc,n,hd⟩:=id ht
 obtain ⟨⟨FD,dd2,data2,sl2⟩,ho2,hc2,n2,hd2⟩:=id hb
 simp only at hc hd hc2 hd2
 subst hc hd hc2 hd2
 have e:vs.toArray ++ ws.toArray=(vs ++ ws).toArray:=by simp
 by_cases hw:ws=[]
 ·exact concat_meets ⟨_,ho,rfl⟩ ⟨_,ho2,rfl⟩ noFill_tuple_add seq_tuple_add PySem.F.slot_tuple_add PySem.F.entry_tuple_add (PySem.F.args_tuple_add_2 _ _)
   (tuple_addW1 t b vs.toArray ws.toArray n n2 dd dd2 sl sl2 (by simpa using hv) (by simp [hw])) ⟨ho,ho2,h1 hw⟩
 ·refine concat_meets ⟨_,ho,rfl⟩ ⟨_,ho2,rfl⟩ noFill_tuple_add seq_tuple_add PySem.F.slot_tuple_add PySem.F.entry_tuple_add (PySem.F.args_tuple_add_2 _ _)
   (tuple_addW2 t b vs.toArray ws.toArray n n2 dd dd2 sl sl2 (by simpa using hv) (by simpa using hw) (by rw [T7,T7];exact hsz)) ⟨ho,ho2,?_⟩
  rw [e]
  exact h2 hw
def cn (n d:Nat):Option Int->Nat
 | none=>d
 | some v=>if v < 0 then (v + (n:Int)).toNat else min v.toNat n
theorem MG (n d:Nat):cn n d none=d:=rfl
theorem MH (n d k:Nat):cn n d (some (k:Int))=min k n:=by
 show (if (k:Int) < 0 then ((k:Int) + (n:Int)).toNat else min (k:Int).toNat n)=min k n
 rw [if_neg (by omega),T3]
theorem vw (n d:Nat) (hd:d<=n) (o:Option Int):cn n d o<=n:=by
 cases o with
 | none=>exact hd
 | some v =>
  show (if v < 0 then (v + (n:Int)).toNat else min v.toNat n)<=n
  by_cases hv:v < 0
  ·rw [if_pos hv];omega
  ·rw [if_neg hv];exact Nat.min_le_right _ _
theorem II (v:Int) (n d:Nat):(if v < 0 then max (v + (n:Int)) 0 else min v (n:Int))=((cn n d (some v):Nat):Int):=by
 show (if v < 0 then max (v + (n:Int)) 0 else min v (n:Int))=(((if v < 0 then (v + (n:Int)).toNat else min v.toNat n):Nat):Int)
 by_cases hv:v < 0
 ·simp only [if_pos hv];omega
 ·simp only [if_neg hv];omega
theorem MI (lo hi:Option Int) (n:Nat):Builtin.Slice.sliceAdjust lo hi 1 (n:Int)=(((cn n 0 lo:Nat):Int),((cn n n hi:Nat):Int)):=by
 have h1:¬ ((1:Int) < 0):=by omega
 unfold Builtin.Slice.sliceAdjust
 simp only [h1,if_false]
 refine Prod.ext ?_ ?_
 ·cases lo with
  | none=>rfl
  | some v=>exact II v n 0
 ·cases hi with
  | none=>rfl
  | some v=>exact II v n n
theorem MJ (i j:Nat):Builtin.Slice.slicePlaces (i:Int) (j:Int) 1=j - i:=by
 unfold Builtin.Slice.slicePlaces
 have h1:(1:Int) > 0:=by omega
 simp only [h1,if_true,Int.ediv_one]
 split <;> omega
theorem IJ {v:Value} {o:Option Int} {Q:Option Int->Shared->Prop} (p:IsPart v o) (h:Q o s):wpAny (model prog w) A (Builtin.Slice.slicePartIndex v) Q E s:=by
 cases p with
 | none=>exact slicePart_none h
 | int i t=>exact slicePart_int h
theorem IK {sl:Addr} {vl vu:Value} {lo hi:Option Int} {n:Nat} {Q:Int×Int×Nat->Shared->Prop} (hs:s.heap.IsSliceOf sl vl vu .none) (pl:IsPart vl lo) (pu:IsPart vu hi)
  (h:Q (((cn n 0 lo:Nat):Int),1,cn n n hi - cn n 0 lo) s):wpAny (model prog w) A (Builtin.Slice.sliceApplied (.ref sl) (pure (n:Int))) Q E s:=by
 obtain ⟨os,hos,hcs,hds⟩:=id hs
 unfold Builtin.Slice.sliceApplied Builtin.Slice.sliceFields
 refine wpAny_bind (wpAny_bind (wpAny_field hos hds (x:=vl) rfl (wpAny_bind (wpAny_field hos hds (x:=vu) rfl (wpAny_bind (wpAny_field hos hds (x:=.none) rfl (wpAny_pure ?_)))))))
 refine wpAny_bind (slicePart_none ?_)
 show wpAny _ _ (if ((1:Int) == 0)=true then _ else _) _ _ s
 rw [if_neg (by decide)]
 refine wpAny_bind (IJ pl (wpAny_bind (IJ pu (wpAny_bind (wpAny_pure ?_)))))
 show wpAny _ _ (match Builtin.Slice.sliceAdjust lo hi 1 (n:Int) with | (lo,hi)=>pure (lo,(1:Int),Builtin.Slice.slicePlaces lo hi 1)) _ _ s
 rw [MI lo hi n]
 show wpAny _ _ (pure (((cn n 0 lo:Nat):Int),(1:Int),Builtin.Slice.slicePlaces ((cn n 0 lo:Nat):Int) ((cn n n hi:Nat):Int) 1)) _ _ s
 rw [MJ]
 exact wpAny_pure h
theorem MK (xs:Array Value) (i k:Nat):((List.range k).filterMap fun (m:Nat)=>xs[((i:Int) + (m:Int) * 1).toNat]?).toArray=((xs.toList.drop i).take k).toArray:=by
 have e:(fun (m:Nat)=>xs[((i:Int) + (m:Int) * 1).toNat]?)=fun m=>xs[i + m]?:=by
  funext m
  have:((i:Int) + (m:Int) * 1).toNat=i + m:=by omega
  rw [this]
 rw [e]
 have:=pick_run xs i k
 rw [List.filterMap_map] at this
 have e2:((fun x=>xs[x]?) ∘ fun x=>i + x)=fun m=>xs[i + m]?:=rfl
 rw [e2] at this
 rw [this]
theorem ML {t sl:Addr} {items:Array Value} {vl vu:Value} {lo hi:Option Int} {Q:Value->Shared->Prop} (ht:IsTup s.heap t items) (hs:s.heap.IsSliceOf sl vl vu .none) (pl:IsPart vl lo) (pu:IsPart vu hi)
  (hw:¬ (cn items.size 0 lo=0/\cn items.size items.size hi=items.size))
  (h:Q (.ref s.heap.objs.size) { s with heap:=s.heap.push { cls:=.type "tuple",data:=.seq ((items.toList.drop (cn items.size 0 lo)).take (cn items.size items.size hi - cn items.size 0 lo)).toArray } })
  (hsz:items.size<=sizeLine):wpAny (model prog w) A (getItem (.ref t) (.ref sl)) Q E s:=by
 have ph:sizeOk (.seq ((items.toList.drop (cn items.size 0 lo)).take (cn items.size items.size hi - cn items.size 0 lo)).toArray):=by
  show ((items.toList.drop (cn items.size 0 lo)).take (cn items.size items.size hi - cn items.size 0 lo)).toArray.size<=sizeLine
  rw [T7,UJ,VW,Vv]
  omega
 have hj:cn items.size items.size hi<=items.size:=vw _ _ (TM _) hi
 obtain ⟨os,hos,hcs,hds⟩:=id hs
 have FE:s.TypeIs (.ref sl) "slice" := ⟨os,hos,hcs⟩
 unfold getItem
 try with_reducible refine wpAny_holding ?_
 first | refine wpAny_bind (wpAny_pure ?_) | skip
 refine wpAny_bind (wpAny_sequenceKey ht.typeIs (by decide) ?_)
 refine wpAny_bind (wpAny_callSpecial?_slot (name:=Str.ofString "__getitem__") ht.typeIs PyProof.Rows.slot_tuple_getitem
  (wpAny_call_entry PyProof.Rows.slot_tuple_getitem ht.typeIs entry_tuple_getitem ?_ (args_tuple_getitem _ _)))
 show wpAny _ _ (Builtin.Tuple.tupleItemsOf (.ref t) >>= _) _ _ s
 refine wpAny_bind (tupleItemsOf_ ht ?_)
 refine wpAny_bind (wpAny_typeOf FE ?_)
 rw [if_pos (by decide)]
 refine wpAny_bind (IK hs pl pu ?_)
 have hno:¬ ((((cn items.size 0 lo:Nat):Int) == 0 && (1:Int) == 1 && (cn items.size items.size hi - cn items.size 0 lo) == items.size)=true):=by
  intro q
  rw [Ua,Ua] at q
  have q1:((cn items.size 0 lo:Nat):Int)=0:=eq_of_beq q.1.1
  have q2:cn items.size items.size hi - cn items.size 0 lo=items.size:=eq_of_beq q.2
  exact hw ⟨by omega,by omega⟩
 show wpAny _ _ (if (((cn items.size 0 lo:Nat):Int) == 0 && (1:Int) == 1 && (cn items.size items.size hi - cn items.size 0 lo) == items.size)=true then _ else _) _ _ s
 rw [if_neg hno,MK]
 first
  | exact wpAny_bind (m:=Builtin.Tuple.tupleExact _) (wpAny_newObj_type (wpAny_pure ⟨_,rfl,wpAny_pure h⟩) ph)
  | exact wpAny_bind (m:=Builtin.Tuple.tupleExact _) (wpAny_newObj_type (wpAny_bind (wpAny_pure (wpAny_pure ⟨_,rfl,wpAny_pure h⟩))) ph)
  | exact wpAny_bind (wpAny_bind (m:=Builtin.Tuple.tupleExact _) (wpAny_newObj_type (wpAny_pure (wpAny_pure ⟨_,rfl,wpAny_pure h⟩)) ph))
  | exact wpAny_bind (wpAny_bind (m:=Builtin.Tuple.tupleExact _) (wpAny_newObj_type (wpAny_pure ⟨_,rfl,wpAny_pure h⟩) ph))
end
end HT
namespace L2
open PySem PySem.Spec PyProof.Rows
abbrev TO:=St->Hp->(Option Int->Hp->Prop)->Prop
def PO (X:Cx) (e:Option Expr) (t:TO):Prop :=
 ∀ (pins:List (Addr×Obj)) (s:Shared) (σ:St) (H:Hp) (Q:Option Int->Hp->Prop),Inv X pins σ H s->t σ H Q ->
  wpAny (model X.prog X.w) X.A (evalPart e X.env) (fun u s'=>∃ o H',Inv X pins σ H' s'/\IsPart u o/\Q o H') X.xe s
def pj:TO:=fun _ H Q=>Q none H
def tP (t:TE):TO:=fun σ H Q=>t σ H fun x H1=>∃ i,x=.int i/\Q (some i) H1
theorem IL {ns:List Int}:∀ {us:List Value},Vals (ns.map V.int) us->IntsAre us ns:=by
 induction ns with
 | nil=>intro us r;rw [UB] at r;cases r;exact .nil
 | cons n ns ih =>
  intro us r
  rw [Ui] at r
  cases r with
  | cons r1 r2 =>
   obtain ⟨t,e⟩:=r1
   subst e
   exact .cons n t (ih r2)
section
variable {X:Cx} {e:Expr} {te:TE} {lo hi:Option Expr} {tl th:TO} {pos p2:Pos}
theorem FF:PO X none pj:=by
 intro pins s σ H Q I h
 rw [evalPart_none]
 exact wpAny_pure ⟨none,H,I,.none,h⟩
theorem FG (h:PE X e te):PO X (some e) (tP te):=by
 intro pins s σ H Q I hw
 rw [evalPart_some]
 refine cy (h pins s σ H _ I hw) fun u s1 ⟨x,H1,I1,r1,q1⟩=>?_
 obtain ⟨i,rfl,q⟩:=q1
 obtain ⟨t,rfl⟩:=r1
 exact ⟨some i,H1,I1,.int i t,q⟩
def Dd (X:Cx) (r:V->Option Int->Option Int->Hp->VK->Prop):Prop :=
 ∀ (pins:List (Addr×Obj)) (s:Shared) (σ:St) (H:Hp) (x:V) (v vl vu:Value) (lo hi:Option Int) (sl:Addr) (Q:VK),Inv X pins σ H s->RelV x v->s.heap.IsSliceOf sl vl vu .none->IsPart vl lo->IsPart vu hi->r x lo hi H Q ->
  ∃ T id,typeLookup (.type T) "__getitem__" = pure (some (.builtin id))/\s.TypeIs v T/\wpAny (model X.prog X.w) X.A (getItem v (.ref sl)) (EP X pins σ Q) X.xe s
def IP (r:V->Option Int->Option Int->Hp->VK->Prop) (te:TE) (tl th:TO):TE:=fun σ H Q=>te σ H fun x H1=>tl σ H1 fun l H2=>th σ H2 fun u H3=>r x l u H3 Q
theorem FH {r:V->Option Int->Option Int->Hp->VK->Prop} (hr:Dd X r) (he:PE X e te) (hl:PO X lo tl) (hu:PO X hi th):PE X (.Subscript e (.Slice lo hi none p2) pos) (IP r te tl th):=by
 intro pins s σ H Q I h
 refine Subscript_ (cy (he pins s σ H _ I h) fun v s1 ⟨x,H1,I1,r1,q1⟩=>?_)
 refine wpAny_Slice (cy (hl pins s1 σ H1 _ I1 q1) fun vl s2 ⟨l,H2,I2,pl,q2⟩=>cy (hu pins s2 σ H2 _ I2 q2) fun vu s3 ⟨u,H3,I3,pu,q3⟩=>?_)
 rw [evalPart_none]
 refine wpAny_pure ?_
 have I4:Inv X pins σ H3 { s3 with heap:=s3.heap.push { cls:=.type "slice",data:=.fields #[vl,vu,.none] } }:=I3.kept (t':=s3.toks) fun b ob q=>T8 _ q
 obtain ⟨T,id,hT,ht,hg⟩:=hr pins { s3 with heap:=s3.heap.push { cls:=.type "slice",data:=.fields #[vl,vu,.none] } } σ H3 x v vl vu l u s3.heap.objs.size Q I4 r1 (Heap.IsSliceOf.new ..) pl pu q3
 show wpAny (model X.prog X.w) X.A (subscriptTail e (.Slice lo hi none p2) v (.ref s3.heap.objs.size)) (EP X pins σ Q) X.xe { s3 with heap:=s3.heap.push { cls:=.type "slice",data:=.fields #[vl,vu,.none] } }
 exact tail_any (ops:=[.ref s3.heap.objs.size,v]) ht hT hg (by with_unfolding_all rfl)
def mq (xs:List V) (lo hi:Option Int):List V:=(xs.drop (HT.cn xs.length 0 lo)).take (HT.cn xs.length xs.length hi - HT.cn xs.length 0 lo)
theorem IQ (xs:List V) (lo hi:Option Int):(mq xs lo hi).length<=xs.length:=by
 unfold mq
 rw [UJ,VW]
 omega
def FI (K:Zfr):V->Option Int->Option Int->Hp->VK->Prop:=fun x lo hi H Q=>∃ a xs,x=.ref a/\dW K H a xs /\
 ¬ (HT.cn xs.length 0 lo=0/\HT.cn xs.length xs.length hi=xs.length)/\∀ p,H p=none->Q (.ref p) (upd H p (.tup (mq xs lo hi)))
theorem vz:Dd X (FI X.K):=by
 intro pins s σ H x v vl vu lo hi sl Q I rx hs pl pu h
 obtain ⟨a,xs,rfl,hx,hw,q⟩:=h
 cases rx
 obtain ⟨its,r,ht,hz⟩:=I.tuple hx
 have hlen:its.toArray.size=xs.length:=by rw [T7];exact r.length.symm
 refine ⟨"tuple",_,PyProof.Rows.slot_tuple_getitem.lookup,ht.typeIs,?_⟩
 refine HT.ML ht hs pl pu (by rw [hlen];exact hw) ?_ (by rw [hlen];exact hz)
 rw [hlen]
 refine ⟨.ref s.heap.objs.size,_,I.laid (t':=s.toks) (o:=.tup (mq xs lo hi)) (fun b ob q=>T8 _ q) (TM _) ?_,rfl,q _ (I.hok.fresh (TM _))⟩
 exact ⟨Uh (IQ xs lo hi) hz,_,(r.drop (HT.cn xs.length 0 lo)).take (HT.cn xs.length xs.length hi - HT.cn xs.length 0 lo),nt.new _ _⟩
def zH (K:Zfr):R2:=fun x y H Q=>∃ a b xs ys,x=.ref a/\y=.ref b/\dW K H a xs/\dW K H b ys/\xs≠[]/\xs.length + ys.length<=sizeLine /\
 (ys=[]->Q (.ref a) H)/\(ys≠[]->∀ p,H p=none->Q (.ref p) (upd H p (.tup (xs ++ ys))))
theorem Vals.lU {xs:List V} {us:List Value} (r:Vals xs us):us=[]↔xs=[]:=by
 cases r with
 | nil=>simp
 | cons _ _=>simp
theorem MN:kQ X (binaryOp .Add) (zH X.K):=by
 intro pins s σ H x y v u Q I rx ry h
 obtain ⟨a,b,xs,ys,rfl,rfl,ha,hb,hx,hz,q1,q2⟩:=h
 cases rx
 cases ry
 obtain ⟨its,r1,p1,_⟩:=I.tuple ha
 obtain ⟨its2,r2,p2,_⟩:=I.tuple hb
 refine HT.MF p1 p2 (fun z=>hx (r1.lU.mp z)) (fun z=>⟨.ref a,H,I,rfl,q1 (r2.lU.mp z)⟩) (fun z=>?_) (by rw [<- r1.length,<- r2.length];exact hz)
 refine ⟨.ref s.heap.objs.size,_,I.laid (t':=s.toks) (o:=.tup (xs ++ ys)) (fun b ob q=>T8 _ q) (TM _) ?_,rfl,q2 (fun w=>z (r2.lU.mpr w)) _ (I.hok.fresh (TM _))⟩
 exact ⟨by rw [TN];exact hz,_,r1.append r2,nt.new _ _⟩
end
def lF (n:Nat) (i:Int):Option Nat:=if 0<=i then (if i < n then some i.toNat else none) else if -(n:Int)<=i then some (i + n).toNat else none
def c5 {α:Type} (xs:List α) (i:Int):Option α:=(lF xs.length i).bind fun j=>xs[j]?
theorem FJ {n:Nat} {i:Int} {j:Nat} (h:lF n i=some j):seqIndex? i n=some j/\j < n/\-(n:Int)<=i/\i < n:=by
 unfold lF at h
 by_cases h0:0<=i
 ·rw [if_pos h0] at h
  by_cases h1:i < n
  ·rw [if_pos h1] at h
   have e:i.toNat=j:=T5 h
   exact ⟨by rw [seqIndex_of h0 h1,e],by omega,by omega,h1⟩
  ·rw [if_neg h1] at h;cases h
 ·rw [if_neg h0] at h
  by_cases h1:-(n:Int)<=i
  ·rw [if_pos h1] at h
   have e:(i + n).toNat=j:=T5 h
   exact ⟨by rw [seqIndex_neg (by omega) h1,e],by omega,h1,by omega⟩
  ·rw [if_neg h1] at h;cases h
theorem IU {α:Type} {xs:List α} {i:Int} {v:α} (h:c5 xs i=some v):∃ j,seqIndex? i xs.length=some j/\xs[j]?=some v/\j < xs.length/\-(xs.length:Int)<=i/\i < xs.length:=by
 unfold c5 at h
 cases e:lF xs.length i with
 | none=>rw [e] at h;cases h
 | some j =>
  rw [e] at h
  obtain ⟨h1,h2,h3,h4⟩:=FJ e
  exact ⟨j,h1,h,h2,h3,h4⟩
theorem yj {α:Type} {xs:List α} {j:Nat} {v:α} (h:xs[j]?=some v):c5 xs (j:Int)=some v:=by
 have hj:j < xs.length:=(TK.mp h).1
 have e:lF xs.length (j:Int)=some j:=by
  unfold lF
  rw [if_pos (by omega),if_pos (by omega)];simp
 unfold c5;rw [e];exact h
def sg (b:Expr):Prop:=∀ o i,subscripted b false o i=operate [o,i] (getItem o i)
def zI (X:Cx) (r:R2):Prop :=
 ∀ (value slice:Expr) (pins:List (Addr×Obj)) (s:Shared) (σ:St) (H:Hp) (x y:V) (v u:Value) (Q:VK),Inv X pins σ H s->RelV x v->RelV y u->r x y H Q ->
  subscripted slice false v u=operate [v,u] (getItem v u)->wpAny (model X.prog X.w) X.A (subscriptTail value slice v u) (EP X pins σ Q) X.xe s
def tQ (X:Cx) (id:String) (r:V->List V->Hp->VK->Prop):Prop :=
 ∀ (pins:List (Addr×Obj)) (s:Shared) (σ:St) (H:Hp) (x:V) (xs:List V) (v:Value) (us:List Value) (Q:VK),Inv X pins σ H s->RelV x v->Vals xs us->r x xs H Q ->
  wpAny (model X.prog X.w) X.A (call (.builtin id) (v :: us)) (EP X pins σ Q) X.xe s
section
variable {X:Cx} {a b:Expr} {ta tb:TE} {pos:Pos}
theorem bp {r:R2} (hr:zI X r) (ha:PE X a ta) (hb:PE X b tb) (hs:sg b):PE X (.Subscript a b pos) (zv r ta tb):=by
 intro pins s σ H Q I h
 exact Subscript_ (vm ha hb I h fun v u s2 x y H2 I2 rx ry q=>hr a b pins s2 σ H2 x y v u Q I2 rx ry q (hs _ _))
def vA (K:Zfr):R2:=fun x y H Q=>∃ p xs i v,x=.ref p/\y=.int i/\iZ K H p xs/\c5 xs i=some v/\Q v H
def vB (K:Zfr):R2:=fun x y H Q=>∃ p xs i v,x=.ref p/\y=.int i/\dW K H p xs/\c5 xs i=some v/\Q v H
theorem kR:zI X (vA X.K):=by
 intro value slice pins s σ H x y v u Q I rx ry h hs
 obtain ⟨p,xs,i,z,rfl,rfl,hq,he,q⟩:=h
 cases rx
 obtain ⟨t,rfl⟩:=ry
 obtain ⟨its,r,pl,hz⟩:=I.list hq
 obtain ⟨j,h1,h2,h3,h4,h5⟩:=IU he
 obtain ⟨w,ew,rw'⟩:=r.get h2
 have hl:=r.length
 have hn:=lg
 have fin:EP X pins σ Q w s:=⟨z,H,I,rw',q⟩
 by_cases h0:0<=i
 ·have hj:i.toNat=j:=by
   rw [seqIndex_of h0 h5] at h1
   exact T5 h1
  exact item_listR pl.isList h0 (by omega) (by rw [hj];simpa using ew) fin hs
 ·have hj:(i + (its.toArray.size:Int)).toNat=j:=by
   rw [seqIndex_neg (by omega) h4] at h1
   rw [T7,<- hl]
   exact T5 h1
  exact subscriptTail_builtinR (x:=w) pl.isList.typeIs slot_list_getitem.lookup
   (wpAny_getItem_list_neg (Q:=fun r s'=>r=w/\EP X pins σ Q r s') pl.isList (by omega) (by rw [T7] <;> omega) (by omega) (by rw [hj];simpa using ew) ⟨rfl,fin⟩) hs
theorem cB:zI X (vB X.K):=by
 intro value slice pins s σ H x y v u Q I rx ry h hs
 obtain ⟨p,xs,i,z,rfl,rfl,hq,he,q⟩:=h
 cases rx
 obtain ⟨t,rfl⟩:=ry
 obtain ⟨its,r,pl,hz⟩:=I.tuple hq
 obtain ⟨j,h1,h2,h3,h4,h5⟩:=IU he
 obtain ⟨w,ew,rw'⟩:=r.get h2
 have hl:=r.length
 have hn:=lg
 have fin:EP X pins σ Q w s:=⟨z,H,I,rw',q⟩
 exact subscriptTail_builtinR (x:=w) pl.typeIs slot_tuple_getitem.lookup
  (getItem_tuple (j:=j) (Q:=fun r s'=>r=w/\EP X pins σ Q r s') pl (by omega) (by omega) (by rw [T7,<- hl];exact h1) (by simpa using ew) ⟨rfl,fin⟩) hs
theorem MO (its:List Value) (n j:Nat) (u:Value):Obj.mapSeq (·.setIfInBounds j u) { cls:=.type "list",data:=.seq its.toArray n }={ cls:=.type "list",data:=.seq (its.set j u).toArray n }:=by
 simp [Obj.mapSeq]
theorem Inv.lst {pins:List (Addr×Obj)} {σ:St} {H:Hp} {s:Shared} {p:Addr} {xs:List V} (I:Inv X pins σ H s) (h:H p=some (.lst xs)) :
  ∃ (its:List Value) (n:Nat),Vals xs its/\s.heap.get? p=some { cls:=.type "list",data:=.seq its.toArray n }/\xs.length<=sizeLine:=by
 obtain ⟨z,its,n,r,e⟩:=I.hok p _ h
 exact ⟨its,n,r,e,z⟩
theorem Inv.vC {pins:List (Addr×Obj)} {σ:St} {H:Hp} {s:Shared} {p:Addr} {xs ys:List V} {its its':List Value} {n n':Nat} {f:Obj->Obj} (I:Inv X pins σ H s) (h:H p=some (.lst xs))
  (ho:s.heap.get? p=some { cls:=.type "list",data:=.seq its.toArray n }) (hf:f { cls:=.type "list",data:=.seq its.toArray n }={ cls:=.type "list",data:=.seq its'.toArray n' }) (r:Vals ys its') (hz:ys.length<=sizeLine) (t:Nat) :
  Inv X pins σ (upd H p (.lst ys)) { s with heap:=s.heap.update p f,toks:=t }:=by
 have e:(s.heap.update p f).get? p=some { cls:=.type "list",data:=.seq its'.toArray n' }:=by
  rw [UU f ho (by rw [hf] <;> rfl),hf]
 refine I.write (x:=p) (e:=p) (by rw [h];trivial) (.inl rfl) (fun b u hb q=>(UI _ _ (Ne.symm hb)).trans q) ⟨_,e⟩ ?_
 exact ⟨hz,its',n',r,e⟩
def tR:V->V->V->Hp->(Hp->Prop)->Prop:=fun o i v H Q=>∃ p xs k j,o=.ref p/\i=.int k/\H p=some (.lst xs)/\lF xs.length k=some j/\Q (upd H p (.lst (xs.set j v)))
theorem yk:zk X tR:=by
 intro pins s σ H o i v ov iv u Q I ro ri rv h
 obtain ⟨p,xs,k,j,rfl,rfl,hp,hj,q⟩:=h
 cases ro
 obtain ⟨t,rfl⟩:=ri
 obtain ⟨its,n,r,ho,hz⟩:=I.lst hp
 obtain ⟨h1,h2,h3,h4⟩:=FJ hj
 have hl:=r.length
 have hn:=lg
 have I':Inv X pins σ (upd H p (.lst (xs.set j v))) { s with heap:=s.heap.update p (Obj.mapSeq (·.setIfInBounds j u)) } :=
  I.vC hp ho (MO its n j u) (r.set rv j) (by rw [UD];exact hz) s.toks
 by_cases h0:0<=k
 ·have hk:k.toNat=j:=by
   rw [seqIndex_of h0 h4] at h1
   exact T5 h1
  exact PySem.W.ki_setAt ho h0 (by omega) (by rw [T7,<- hl];exact h4) (by rw [hk];exact ⟨_,I',q⟩)
 ·have hk:(k + (its.toArray.size:Int)).toNat=j:=by
   rw [seqIndex_neg (by omega) h3] at h1
   rw [T7,<- hl]
   exact T5 h1
  exact PySem.W.ki_setBack ho (by omega) (by rw [T7,<- hl];exact h3) (by omega) (by rw [hk];exact ⟨_,I',q⟩)
theorem MP (lo hi:Option Int) (n:Nat):(sliceBounds lo hi none n).1=((HT.cn n 0 lo:Nat):Int)/\(sliceBounds lo hi none n).2.1=((HT.cn n n hi:Nat):Int)/\(sliceBounds lo hi none n).2.2=1:=by
 refine ⟨?_,?_,rfl⟩
 ·cases lo with
  | none=>simp [sliceBounds,HT.cn]
  | some i =>
   simp only [sliceBounds,HT.cn,Option.getD_none,show (1:Int) > 0 by decide,if_true]
   by_cases h:i < 0
   ·simp only [h,if_true] <;> omega
   ·simp only [h,if_false] <;> omega
 ·cases hi with
  | none=>simp [sliceBounds,HT.cn]
  | some i =>
   simp only [sliceBounds,HT.cn,Option.getD_none,show (1:Int) > 0 by decide,if_true]
   by_cases h:i < 0
   ·simp only [h,if_true] <;> omega
   ·simp only [h,if_false] <;> omega
theorem MQ (its:List Value) (lo hi:Option Int):slicePick its.toArray lo hi none=((its.drop (HT.cn its.length 0 lo)).take (HT.cn its.length its.length hi - HT.cn its.length 0 lo)).toArray:=by
 obtain ⟨h1,h2,h3⟩:=MP lo hi its.toArray.size
 unfold slicePick
 rw [h1,h2,h3]
 simp only [sliceRange_one,pick_run,T7] <;> rfl
def zJ (K:Zfr):V->Option Int->Option Int->Hp->VK->Prop:=fun x lo hi H Q=>∃ a xs,x=.ref a/\iZ K H a xs/\∀ p,H p=none->Q (.ref p) (upd H p (.lst (mq xs lo hi)))
theorem IV:Dd X (zJ X.K):=by
 intro pins s σ H x v vl vu lo hi sl Q I rx hs pl pu h
 obtain ⟨a,xs,rfl,hx,q⟩:=h
 cases rx
 obtain ⟨its,r,ht,hz⟩:=I.list hx
 have hlen:=r.length
 refine ⟨"list",_,slot_list_getitem.lookup,ht.isList.typeIs,?_⟩
 refine wpAny_getItem_list_slice ht.isList hs pl pu .none (by simp) ?_ (by rw [T7] <;> omega)
 rw [MQ,<- hlen]
 refine ⟨.ref s.heap.objs.size,_,I.laid (t':=s.toks) (o:=.lst (mq xs lo hi)) (fun b ob q=>T8 _ q) (TM _) ?_,rfl,q _ (I.hok.fresh (TM _))⟩
 exact ⟨Uh (IQ xs lo hi) hz,_,0,(r.drop (HT.cn xs.length 0 lo)).take (HT.cn xs.length xs.length hi - HT.cn xs.length 0 lo),Ug _ rfl⟩
def j5:V->Bool
 | .non=>true
 | .bl _=>true
 | .int _=>true
 | .str _=>true
 | _=>false
def tT:V->V->Bool
 | .non,.non=>true
 | .bl a,.bl b=>a == b
 | .bl a,.int b=>(if a then 1 else 0) == b
 | .int a,.bl b=>a == (if b then 1 else 0)
 | .int a,.int b=>a == b
 | .str a,.str b=>a == b
 | _,_=>false
theorem vD {A:Around} {s:Shared} {y x:V} {u v:Value} (ry:RelV y u) (rx:RelV x v) (fy:j5 y=true) (fx:j5 x=true):SeqAt.EqAt A s u v (tT y x):=by
 cases y with
 | non =>
  cases ry
  cases x with
  | non=>cases rx;exact SeqAt.EqAt.same _
  | bl b=>cases rx;exact SeqAt.EqAt.none_bool b
  | int b=>obtain ⟨t,rfl⟩:=rx;exact SeqAt.EqAt.none_int b t
  | str b=>obtain ⟨t,rfl⟩:=rx;exact SeqAt.EqAt.none_str b t
  | _=>exact absurd (show false=true from fx) TX
 | bl a =>
  cases ry
  cases x with
  | non=>cases rx;exact SeqAt.EqAt.bool_none a
  | bl b=>cases rx;exact SeqAt.EqAt.bool_bool a b
  | int b=>obtain ⟨t,rfl⟩:=rx;exact SeqAt.EqAt.bool_int a b t
  | str b=>obtain ⟨t,rfl⟩:=rx;exact SeqAt.EqAt.bool_str a b t
  | _=>exact absurd (show false=true from fx) TX
 | int a =>
  obtain ⟨t',rfl⟩:=ry
  cases x with
  | non=>cases rx;exact SeqAt.EqAt.int_none a t'
  | bl b=>cases rx;exact SeqAt.EqAt.int_bool a t' b
  | int b=>obtain ⟨t,rfl⟩:=rx;exact SeqAt.EqAt.int_int a t' b t
  | str b=>obtain ⟨t,rfl⟩:=rx;exact SeqAt.EqAt.int_str a t' b t
  | _=>exact absurd (show false=true from fx) TX
 | str a =>
  obtain ⟨t',rfl⟩:=ry
  cases x with
  | non=>cases rx;exact SeqAt.EqAt.str_none a t'
  | bl b=>cases rx;exact SeqAt.EqAt.str_bool a t' b
  | int b=>obtain ⟨t,rfl⟩:=rx;exact SeqAt.EqAt.str_int a t' b t
  | str b=>obtain ⟨t,rfl⟩:=rx;exact SeqAt.EqAt.str_str a t' b t
  | _=>exact absurd (show false=true from fx) TX
 | _=>exact absurd (show false=true from fy) TX
def si (x:V) (u:Value):Bool:=match u with
 | .none=>tT .non x
 | .bool b=>tT (.bl b) x
 | .int i _=>tT (.int i) x
 | .str z _=>tT (.str z) x
 | _=>false
theorem IW {x y:V} {u:Value} (r:RelV y u) (f:j5 y=true):si x u=tT y x:=by
 cases y with
 | non=>cases r;rfl
 | bl b=>cases r;rfl
 | int i=>obtain ⟨t,rfl⟩:=r;rfl
 | str z=>obtain ⟨t,rfl⟩:=r;rfl
 | _=>exact absurd (show false=true from f) TX
theorem FK {x:V}:∀ {xs:List V} {us:List Value},Vals xs us->xs.all j5=true->us.any (si x)=xs.any fun y=>tT y x
 | _,_,.nil,_=>rfl
 | y :: xs,u :: us,.cons r t,f=>by
  rw [List.all_cons,Ua] at f
  rw [UL,UL,IW r f.1,FK t f.2]
theorem FL {A:Around} {s:Shared} {x:V} {v:Value} (rx:RelV x v) (fx:j5 x=true):∀ {xs:List V} {us:List Value},Vals xs us->xs.all j5=true->∀ u∈us,SeqAt.EqAt A s u v (si x u)
 | _,_,.nil,_=>fun u hu=>by cases hu
 | y :: xs,u :: us,.cons r t,f=>fun u' hu=>by
  rw [List.all_cons,Ua] at f
  rcases Up.mp hu with rfl | hu
  ·rw [IW r f.1];exact vD r rx f.1 fx
  ·exact FL rx fx t f.2 u' hu
def tU (x:V) (xs:List V):Bool:=xs.any fun y=>tT y x
def FN (K:Zfr) (neg:Bool):R2:=fun x y H Q=>∃ p xs,y=.ref p/\(iZ K H p xs\/dW K H p xs)/\j5 x=true/\xs.all j5=true/\Q (.bl (if neg then !tU x xs else tU x xs)) H
theorem De:kQ X (compareOp .NotIn) (FN X.K true):=by
 intro pins s σ H x y v u Q I rx ry h
 obtain ⟨p,xs,rfl,hq,fx,fs,q⟩:=h
 cases ry
 rcases hq with hq | hq
 ·obtain ⟨its,r,pl,hz⟩:=I.list hq
  refine SeqAt.notIn_listAt (si x) pl.isList (fun w hw=>FL rx fx r fs w (by simpa using hw)) ⟨.bl _,H,I,rfl,?_⟩
  rw [show its.toArray.any (si x)=its.any (si x) by simp,FK r fs]
  exact q
 ·obtain ⟨its,r,pl,hz⟩:=I.tuple hq
  refine SeqAt.notIn_tupleAt (si x) pl (fun w hw=>FL rx fx r fs w (by simpa using hw)) ⟨.bl _,H,I,rfl,?_⟩
  rw [show its.toArray.any (si x)=its.any (si x) by simp,FK r fs]
  exact q
theorem kS:fB X (.builtin "len") (fun xs H Q=>∃ p ys,xs=[.ref p]/\(iZ X.K H p ys\/dW X.K H p ys)/\Q (.int ys.length) H):=by
 intro pins s σ H xs us Q I r h
 obtain ⟨p,ys,rfl,hq,q⟩:=h
 obtain ⟨u,rfl,rx⟩:=vals1 r
 cases rx
 have hn:=lg
 rcases hq with hq | hq
 ·obtain ⟨its,r',pl,hz⟩:=I.list hq
  have hlen:=r'.length
  exact Calls.call_len_list pl.isList (by simp only [T7] <;> omega) ⟨.int ys.length,H,I.tok _,⟨s.toks + 1,by rw [T7,hlen]⟩,q⟩
 ·obtain ⟨its,r',pl,hz⟩:=I.tuple hq
  have hlen:=r'.length
  exact len_tuple pl (by simp only [T7] <;> omega) ⟨.int ys.length,H,I.tok _,⟨s.toks + 1,by rw [T7,hlen]⟩,q⟩
theorem FO:fB X (.type "list") (fun xs H Q=>∃ p ys,xs=[.ref p]/\(iZ X.K H p ys\/dW X.K H p ys)/\∀ l,H l=none->Q (.ref l) (upd H l (.lst ys))):=by
 intro pins s σ H xs us Q I r h
 obtain ⟨p,ys,rfl,hq,q⟩:=h
 obtain ⟨u,rfl,rx⟩:=vals1 r
 cases rx
 have fin:∀ (its:List Value),Vals ys its->ys.length<=sizeLine->∀ (h':Heap) (c':Nat),(∀ b o',s.heap.get? b=some o'->h'.get? b=some o') ->
   h'.get? s.heap.objs.size=some { cls:=.type "list",dict:=none,data:=.seq its.toArray c',slots:=#[] }->EP X pins σ Q (.ref s.heap.objs.size) { s with heap:=h' }:=fun its r' hz h' c' kp e =>
  ⟨.ref s.heap.objs.size,_,I.laid (t':=s.toks) kp (TM _) (show cm X.prog X.w _ h' _ (.lst ys) from ⟨hz,its,c',r',e⟩),rfl,q _ (I.hok.fresh (TM _))⟩
 rcases hq with hq | hq
 ·obtain ⟨its,r',pl,hz⟩:=I.list hq
  have hlen:=r'.length
  obtain ⟨o,ho,hc,n,hd⟩:=pl.isList
  exact call_list_seq p (.inl rfl) ho hc hd (fun h' c' kp e=>fin its r' hz h' c' kp e) (by simp only [T7] <;> omega)
 ·obtain ⟨its,r',pl,hz⟩:=I.tuple hq
  have hlen:=r'.length
  obtain ⟨o,ho,hc,n,hd⟩:=pl
  exact call_list_seq p (.inr rfl) ho hc hd (fun h' c' kp e=>fin its r' hz h' c' kp e) (by simp only [T7] <;> omega)
theorem mr:fB X (.type "tuple") (fun xs H Q=>∃ p ys,xs=[.ref p]/\((iZ X.K H p ys/\∀ l,H l=none->Q (.ref l) (upd H l (.tup ys)))\/(dW X.K H p ys/\Q (.ref p) H))):=by
 intro pins s σ H xs us Q I r h
 obtain ⟨p,ys,rfl,h⟩:=h
 obtain ⟨u,rfl,rx⟩:=vals1 r
 cases rx
 rcases h with ⟨hq,q⟩ | ⟨hq,q⟩
 ·obtain ⟨its,r',pl,hz⟩:=I.list hq
  have hlen:=r'.length
  refine call_tuple_list pl.isList (fun h' kp=>?_) (by simp only [T7] <;> omega)
  have I1:Inv X pins σ H { s with heap:=h' }:=I.kept (t':=s.toks) kp
  have I2:Inv X pins σ (upd H h'.objs.size (.tup ys)) { s with heap:=h'.push { cls:=.type "tuple",data:=.seq its.toArray } } :=
   I1.laid (t':=s.toks) (fun b o e=>T8 _ e) (TM _) (show cm X.prog X.w _ _ _ (.tup ys) from ⟨hz,its,r',nt.new _ _⟩)
  exact ⟨.ref h'.objs.size,_,I2,rfl,q _ (I1.hok.fresh (TM _))⟩
 ·obtain ⟨its,r',pl,hz⟩:=I.tuple hq
  exact call_tuple_same pl ⟨.ref p,H,I,rfl,q⟩
def Df (K:Zfr) (T:String) (x:V) (H:Hp):Prop:=match x with
 | .str _=>T="str"
 | .int _=>T="int"
 | .ref p=>(T="list" /\ ∃ xs,iZ K H p xs)\/(T="tuple" /\ ∃ xs,dW K H p xs) \/
   (T="dict" /\ ((∃ kvs,H p=some (.dK kvs))\/∃ kvs,H p=some (.dT kvs)))\/(T="set" /\ ∃ S n,H p=some (.set S n))
 | _=>False
theorem IX {pins:List (Addr×Obj)} {σ:St} {H:Hp} {s:Shared} {T:String} {x:V} {v:Value} (I:Inv X pins σ H s) (r:RelV x v) (ty:Df X.K T x H) :
  s.TypeIs v T/\∀ a,v=.ref a->∃ ob,s.heap.get? a=some ob/\ob.dict=none:=by
 cases x with
 | str z =>
  obtain ⟨t,rfl⟩:=r
  cases (show T="str" from ty)
  exact ⟨typeIs_str s z t,fun _ e=>nomatch e⟩
 | int i =>
  obtain ⟨t,rfl⟩:=r
  cases (show T="int" from ty)
  exact ⟨typeIs_int s i t,fun _ e=>nomatch e⟩
 | ref p =>
  cases r
  rcases ty with ⟨rfl,xs,hq⟩ | ⟨rfl,xs,hq⟩ | ⟨rfl,hk⟩ | ⟨rfl,S,n,hk⟩
  ·obtain ⟨its,_,pl,_⟩:=I.list hq
   refine ⟨pl.isList.typeIs,fun a e=>?_⟩
   cases e
   obtain ⟨o,n,e,c,hd,_⟩:=pl
   exact ⟨o,e,hd⟩
  ·obtain ⟨its,_,⟨o,e,c,d,_⟩,_⟩:=I.oW hq
   refine ⟨⟨o,e,c⟩,fun a e2=>?_⟩
   cases e2
   exact ⟨o,e,d⟩
  ·have z:∃ o,s.heap.get? p=some o/\o.ExactDict:=by
    rcases hk with ⟨kvs,hk⟩ | ⟨kvs,hk⟩
    ·obtain ⟨_,_,_,_,o,_,_,e,ex,_⟩:=I.hok p _ hk
     exact ⟨o,e,ex⟩
    ·obtain ⟨_,_,_,_,o,_,_,e,ex,_⟩:=I.hok p _ hk
     exact ⟨o,e,ex⟩
   obtain ⟨o,e,ex⟩:=z
   refine ⟨⟨o,e,ex.1⟩,fun a e2=>?_⟩
   cases e2
   exact ⟨o,e,ex.2.1⟩
  ·obtain ⟨o,_,_,_,e,ex,_⟩:=I.hok p _ hk
   refine ⟨⟨o,e,ex.1⟩,fun a e2=>?_⟩
   cases e2
   exact ⟨o,e,ex.2.1⟩
 | _=>exact False.elim ty
def zK (K:Zfr) (T:String) (r:V->List V->Hp->VK->Prop) (to:TE):TE:=fun σ H Q=>to σ H fun x H1=>Df K T x H1/\r x [] H1 Q
def FP (K:Zfr) (T:String) (r:V->List V->Hp->VK->Prop) (to:TE) (t:TA):TE:=fun σ H Q=>to σ H fun x H1=>Df K T x H1/\t σ H1 fun xs H2=>r x xs H2 Q
variable {o e:Expr} {es:List Expr} {to:TE} {t:TA} {name:Str} {apos cpos:Pos} {T id:String} {r:V->List V->Hp->VK->Prop}
theorem vE (pa:PlainAttrs T) (slot:Slot T name id) (hty:typeOf (.builtin id)=pure (.type "method_descriptor")) (hm:tQ X id r) (ho:PE X o to)
  (hbase:attributeBase o name X.env (eval o X.env)=eval o X.env:=by rfl) (hline:(apos.endLine == cpos.line)=true:=by rfl):PE X (.Call (.Attribute o name apos) [] [] cpos) (zK X.K T r to):=by
 intro pins s σ H Q I h
 refine wpAny_Call_method0_late hbase hline (cy (ho pins s σ H _ I h) fun v s1 ⟨x,H1,I1,r1,ty,q1⟩=>?_)
 obtain ⟨h1,h2⟩:=IX I1 r1 ty
 exact ⟨T,id,pa,slot,hty,h1,h2,Calls.callWith_builtin rfl (PySem.evalArgs_none (hm pins s1 σ H1 x [] v [] Q I1 r1 .nil q1))⟩
theorem mv (pa:PlainAttrs T) (slot:Slot T name id) (hty:typeOf (.builtin id)=pure (.type "method_descriptor")) (hm:tQ X id r) (ho:PE X o to) (ha:PA X (e :: es) t)
  (hbase:attributeBase o name X.env (eval o X.env)=eval o X.env:=by rfl)
  (hfew:((backTo cpos (starEach (e :: es) X.env)).all (fun x=>!x.1) && (backToKw cpos (keywordEach [] X.env)).all (fun x=>x.1.isSome)
   && decide ((e :: es).length + ([]:List Keyword).length + (if ([]:List Keyword).isEmpty then 0 else 1) < 30))=true:=by rfl)
  (hline:(apos.endLine == cpos.line)=true:=by rfl) (hs:starEach (e :: es) X.env=(false,eval e X.env) :: starEach es X.env:=by rfl) (hplain:(backTo cpos (starEach es X.env)).any (·.1)=false:=by rfl) :
  PE X (.Call (.Attribute o name apos) (e :: es) [] cpos) (FP X.K T r to t):=by
 intro pins s σ H Q I h
 refine wpAny_Call_method_late hbase hfew hline rfl (cy (ho pins s σ H _ I h) fun v s1 ⟨x,H1,I1,r1,ty,q1⟩=>?_)
 obtain ⟨h1,h2⟩:=IX I1 r1 ty
 refine ⟨T,id,pa,slot,hty,h1,h2,?_⟩
 have hA:=ha cpos pins s1 σ H1 _ I1 q1
 rw [hs] at hA ⊢
 refine Calls.callWith_builtin (by show (false || (backTo cpos (starEach es X.env)).any (·.1))=false;rw [hplain] <;> rfl) (Calls.evalArgs_plain ?_)
 exact cy hA fun us s2 ⟨vs,H2,I2,r2,q2⟩=>hm pins s2 σ H2 x vs v us Q I2 r1 r2 q2
end
def FQ (X:Cx) (id:String) (r:V->List V->Hp->VK->Prop):Prop :=
 ∀ (pins:List (Addr×Obj)) (s:Shared) (σ:St) (H:Hp) (x:V) (xs:List V) (v:Value) (us:List Value) (Q:VK),Inv X pins σ H s->RelV x v->Vals xs us->r x xs H Q ->
  wpAny (model X.prog X.w) X.A (call (.builtin id) (v :: us)) (EP X pins σ Q) X.xe s
theorem Vals.one:∀ {x:V} {us:List Value},Vals [x] us->∃ u,us=[u]/\RelV x u
 | _,_,.cons r .nil=>⟨_,rfl,r⟩
theorem Vals.zero:∀ {us:List Value},Vals [] us->us=[]
 | _,.nil=>rfl
theorem Vals.dropLast {xs:List V} {us:List Value} (h:Vals xs us):Vals xs.dropLast us.dropLast:=by
 induction h with
 | nil=>exact .nil
 | cons r t ih =>
  cases t with
  | nil=>exact .nil
  | cons q t'=>exact .cons r ih
theorem Vals.eraseIdx:∀ {xs:List V} {us:List Value} (i:Nat),Vals xs us->Vals (xs.eraseIdx i) (us.eraseIdx i)
 | _,_,_,.nil=>.nil
 | _,_,0,.cons _ t=>t
 | _,_,i + 1,.cons r t=>.cons r (Vals.eraseIdx i t)
theorem Vals.rep {xs:List V} {us:List Value} (h:Vals xs us):∀ k:Nat,Vals (List.replicate k xs).flatten (List.replicate k us).flatten
 | 0=>.nil
 | k + 1=>by
  rw [UC,UC,U7,U7]
  exact Vals.append h (Vals.rep h k)
theorem MR {α:Type} (l:List α):l.eraseIdx (l.length - 1)=l.dropLast:=by
 induction l with
 | nil=>rfl
 | cons a r ih =>
  cases r with
  | nil=>rfl
  | cons b r =>
   have e:(a :: b :: r).length - 1=((b :: r).length - 1) + 1:=by
    have h1:(a :: b :: r).length=r.length + 2:=rfl
    have h2:(b :: r).length=r.length + 1:=rfl
    omega
   rw [e,List.eraseIdx_cons_succ,ih]
   all_goals rfl
theorem IY {α:Type}:∀ (l:List α) (i:Nat),(l.eraseIdx i).length<=l.length
 | [],_=>TM _
 | _ :: _,0=>Vz _
 | _ :: r,i + 1=>Nat.succ_le_succ (IY r i)
theorem IZ (its:List Value):∀ (k:Nat) (acc:List Value),
  List.foldl (fun x1 x2=>x1 ++ x2) acc.toArray (List.replicate k its.toArray)=(acc ++ (List.replicate k its).flatten).toArray
 | 0,acc=>by simp
 | k + 1,acc=>by
  have e:acc.toArray ++ its.toArray=(acc ++ its).toArray:=by simp
  have e2:(acc ++ its) ++ (List.replicate k its).flatten=acc ++ (List.replicate (k + 1) its).flatten:=by
   rw [UC,U7,Vi]
  rw [<- e2,<- IZ its k (acc ++ its),<- e,UC,List.foldl_cons]
section
variable {X:Cx} {pins:List (Addr×Obj)} {σ:St} {H:Hp} {s:Shared} {l b:Addr} {xs ys zs:List V}
theorem Inv.vF {its its':List Value} {n:Nat} {f:Array Value->Array Value} {t':Nat} (I:Inv X pins σ H s) (hH:H l=some (.lst xs))
  (e:s.heap.get? l=some { cls:=.type "list",data:=.seq its.toArray n }) (hf:f its.toArray=its'.toArray) (hv:Vals ys its') (hz:ys.length<=sizeLine) :
  Inv X pins σ (upd H l (.lst ys)) { s with heap:=s.heap.update l (Obj.mapSeq f),toks:=t' }:=by
 have q:=PySem.IsL.update e f
 rw [hf] at q
 refine I.write (x:=l) (e:=l) (by rw [hH];exact trivial) (.inl rfl) (fun b' u hb hu=>(UI s.heap (Obj.mapSeq f) (Ne.symm hb)).trans hu) ⟨_,q⟩ ?_
 exact ⟨hz,its',_,hv,q⟩
theorem Inv.zL {its:List Value} {t':Nat} (I:Inv X pins σ H s) (hv:Vals ys its) (hz:ys.length<=sizeLine) :
  Inv X pins σ (upd H s.heap.objs.size (.lst ys)) { s with heap:=s.heap.push { cls:=.type "list",data:=.seq its.toArray },toks:=t' } :=
 I.laid (fun _ _ q=>T8 _ q) (TM _) ⟨hz,its,0,hv,Ug _ rfl⟩
theorem Inv.fresh (I:Inv X pins σ H s):H s.heap.objs.size=none:=I.hok.fresh (TM _)
theorem Inv.pT (I:Inv X pins σ H s) (hH:H l=some (.lst xs)):xs.length<=sizeLine/\∃ (its:List Value) (n:Nat),Vals xs its/\xs.length=its.length/\s.heap.get? l=some { cls:=.type "list",data:=.seq its.toArray n }:=by
 obtain ⟨z,its,n,r,e⟩:=I.hok l _ hH
 exact ⟨z,its,n,r,r.length,e⟩
theorem qm {n:Nat} (h:n<=sizeLine):Builtin.List.listTooLong n=false:=by
 unfold Builtin.List.listTooLong
 exact decide_eq_false (by omega)
end
section
variable {X:Cx}
def pk:V->List V->Hp->VK->Prop:=fun x vs H Q=>∃ l xs y,x=.ref l/\vs=[y]/\H l=some (.lst xs)/\xs.length < sizeLine/\Q .non (upd H l (.lst (xs ++ [y])))
theorem nC:FQ X "list.append" pk:=by
 intro pins s σ H x vs v us Q I rx rv h
 obtain ⟨l,xs,y,rfl,rfl,hH,hz,q⟩:=h
 cases rx
 obtain ⟨u,rfl,ru⟩:=rv.one
 obtain ⟨z,its,n,r,hl,e⟩:=I.pT hH
 refine call_meets F.slot_list_append ⟨_,e,rfl⟩ F.entry_list_append (F.args_list_append_2 _ _) (PySem.list_append l its.toArray n u (by rw [T7];omega)) ⟨e,?_⟩
 refine ⟨.non,_,I.vF (its':=its ++ [u]) hH e (by simp) (r.append (.cons ru .nil)) ?_,rfl,q⟩
 rw [TN,UW]
 omega
def zM:V->List V->Hp->VK->Prop:=fun x vs H Q=>∃ l xs y,x=.ref l/\vs=[]/\H l=some (.lst xs)/\xs[xs.length - 1]?=some y/\Q y (upd H l (.lst xs.dropLast))
theorem vG:FQ X "list.pop" zM:=by
 intro pins s σ H x vs v us Q I rx rv h
 obtain ⟨l,xs,y,rfl,rfl,hH,hy,q⟩:=h
 cases rx
 have MS:=rv.zero
 subst MS
 obtain ⟨z,its,n,r,hl,e⟩:=I.pT hH
 obtain ⟨u,hu,ru⟩:=r.get hy
 have hy':its.toArray[its.toArray.size - 1]?=some u:=by
  show its.toArray[its.length - 1]?=some u
  rw [<- Vm,<- hl]
  exact hu
 refine call_meets F.slot_list_pop ⟨_,e,rfl⟩ F.entry_list_pop (F.args_list_pop_1 _) (MeetsSeq.list_pop_last l its.toArray n u hy' (by rw [T7];omega)) ⟨e,?_⟩
 refine ⟨y,_,I.vF (its':=its.dropLast) hH e ?_ r.dropLast ?_,ru,q⟩
 ·show its.toArray.eraseIdxIfInBounds (its.toArray.size - 1)=its.dropLast.toArray
  rw [T7,VG,MR]
 ·rw [List.length_dropLast]
  omega
def qo:V->List V->Hp->VK->Prop:=fun x vs H Q=>∃ l xs i k y,x=.ref l/\vs=[.int i]/\H l=some (.lst xs)/\-(2 ^ 63)<=i/\i < 2 ^ 63/\seqIndex? i xs.length=some k/\xs[k]?=some y/\Q y (upd H l (.lst (xs.eraseIdx k)))
theorem MT:FQ X "list.pop" qo:=by
 intro pins s σ H x vs v us Q I rx rv h
 obtain ⟨l,xs,i,k,y,rfl,rfl,hH,h1,h2,hk,hy,q⟩:=h
 cases rx
 obtain ⟨u,rfl,ru⟩:=rv.one
 obtain ⟨t,rfl⟩:=ru
 obtain ⟨z,its,n,r,hl,e⟩:=I.pT hH
 obtain ⟨w,hw,rw'⟩:=r.get hy
 refine call_meets F.slot_list_pop ⟨_,e,rfl⟩ F.entry_list_pop (F.args_list_pop_2 _ _)
  (MeetsSeq.list_pop_at l its.toArray n i t k w (fitsIndex_both h1 h2) (by rw [T7,<- hl];exact hk) (by rw [<- Vm];exact hw) (by rw [T7];omega)) ⟨e,?_⟩
 refine ⟨y,_,I.vF (its':=its.eraseIdx k) hH e ?_ (r.eraseIdx k) ?_,rw',q⟩
 ·show its.toArray.eraseIdxIfInBounds k=(its.eraseIdx k).toArray
  rw [VG]
 ·have:=IY xs k
  omega
def zN:R2:=fun x y H Q=>∃ l b xs zs,x=.ref l/\y=.ref b/\H l=some (.lst xs)/\H b=some (.lst zs)/\xs.length + zs.length<=sizeLine/\∀ p,H p=none->Q (.ref p) (upd H p (.lst (xs ++ zs)))
theorem tV:kQ X (binaryOp .Add) zN:=by
 intro pins s σ H x y v u Q I rx ry h
 obtain ⟨l,b,xs,zs,rfl,rfl,hH,hB,hz,q⟩:=h
 cases rx
 cases ry
 obtain ⟨z,its,n,r,hl,e⟩:=I.pT hH
 obtain ⟨z2,its2,n2,r2,hl2,e2⟩:=I.pT hB
 refine PySem.P.add_list e e2 ?_ (by rw [T7,T7];omega)
 have ea:its.toArray ++ its2.toArray=(its ++ its2).toArray:=by simp
 rw [ea]
 exact ⟨.ref _,_,I.zL (t':=s.toks) (r.append r2) (by rw [TN];omega),rfl,q _ I.fresh⟩
def zO:R2:=fun x y H Q=>∃ l k xs,x=.ref l/\y=.int k/\H l=some (.lst xs)/\-(2 ^ 63)<=k/\k < 2 ^ 63/\xs.length * k.toNat<=sizeLine /\
 ∀ p,H p=none->Q (.ref p) (upd H p (.lst (List.replicate k.toNat xs).flatten))
theorem MU {α:Type} (xs:List α) (k:Nat):(List.replicate k xs).flatten.length=k * xs.length:=by
 induction k with
 | zero=>simp
 | succ k ih=>rw [UC,U7,TN,ih,VH,Nat.add_comm]
theorem Ja:kQ X (binaryOp .Mult) zO:=by
 intro pins s σ H x y v u Q I rx ry h
 obtain ⟨l,k,xs,rfl,rfl,hH,h1,h2,hz,q⟩:=h
 cases rx
 obtain ⟨t,rfl⟩:=ry
 obtain ⟨z,its,n,r,hl,e⟩:=I.pT hH
 have hlen:its.toArray.size * k.toNat<=sizeLine:=by rw [T7,<- hl];exact hz
 have hcap:¬ its.toArray.size * k.toNat > (2 ^ 63 - 1) / 8:=by
  have:(sizeLine:Nat)<=(2 ^ 63 - 1) / 8:=by decide
  omega
 have hfit:¬ (!Builtin.List.listFitsIndex k)=true:=by
  rw [fitsIndex_both h1 h2]
  exact TX
 have zP:¬ Builtin.List.listTooLong (its.toArray.size * k.toNat)=true:=by
  rw [qm hlen]
  exact TX
 have hnew:List.foldl (fun x1 x2=>x1 ++ x2) #[] (List.replicate (if its.toArray.isEmpty=true then 0 else k.toNat) its.toArray)=(List.replicate k.toNat its).flatten.toArray:=by
  have f0:∀ m:Nat,List.foldl (fun x1 x2=>x1 ++ x2) #[] (List.replicate m its.toArray)=(List.replicate m its).flatten.toArray:=fun m=>by
   have:=IZ its m []
   rw [List.nil_append] at this
   exact this
  rw [f0]
  cases its with
  | nil=>simp
  | cons a r'=>rw [if_neg (by simp)]
 refine wpAny_binaryOp_repeat_ref (T:="list") (U:="int") (by decide) ⟨_,e,rfl⟩ (fun s'=>typeIs_int s' k t) noFill_list_mul F.fills_int_mul F.slot_int_rmul repeat_list F.slot_int_index.lookup
  (call_meets F.slot_int_rmul (typeIs_int s k t) F.entry_int_rmul (F.args_int_rmul_2 _ _) (int___rmul___int_list k t l its.toArray n)
   ⟨e,rfl,⟨_,e,rfl⟩,call_meets F.slot_list_mul ⟨_,e,rfl⟩ F.entry_list_mul (F.args_list_mul_2 _ _) (AutoListH.list___mul___list_int_3 l its.toArray n k t hfit hcap zP) ⟨e,?_⟩⟩)
 rw [hnew]
 exact ⟨.ref _,_,I.zL (t':=s.toks) (r.rep k.toNat) (by rw [MU,Nat.mul_comm];exact hz),rfl,q _ I.fresh⟩
end
section
variable {prog:Program} {w:World} {A:Around} {E:Value->Shared->Prop} {s:Shared}
end
section
variable {X:Cx}
end
section
variable {κ:Type} [DecidableEq κ]
def j8 (kvs:List (κ×V)) (k:κ):Option V:=(kvs.find? fun kv=>decide (kv.1=k)).map (·.2)
def putK (kvs:List (κ×V)) (k:κ) (v:V):List (κ×V) :=
 if (kvs.any fun kv=>decide (kv.1=k))=true then kvs.map (fun kv=>if kv.1=k then (kv.1,v) else kv) else kvs ++ [(k,v)]
theorem FR {p:κ×V} {r:List (κ×V)} {k:κ} (e:p.1=k):j8 (p :: r) k=some p.2:=by simp [j8,UO,e]
theorem FT {p:κ×V} {r:List (κ×V)} {k:κ} (e:¬ p.1=k):j8 (p :: r) k=j8 r k:=by simp [j8,UO,e]
theorem Jb (k:κ):∀ kvs:List (κ×V),(kvs.any fun kv=>decide (kv.1=k))=(j8 kvs k).isSome
 | []=>rfl
 | p :: r=>by
  rw [UL]
  by_cases e:p.1=k
  ·simp only [FR e,decide_eq_true e,Bool.true_or,Option.isSome_some]
  ·rw [FT e,decide_eq_false e,Bool.false_or];exact Jb k r
theorem Jc (kvs:List (κ×V)) (k:κ) (v:V):(putK kvs k v).length<=kvs.length + 1:=by
 unfold putK
 split
 ·rw [TJ];omega
 ·rw [TN,Uo,List.length_nil];omega
theorem pQ.lh {o:Option V} {u:Option Value} (r:pQ o u):o.isSome=u.isSome:=by
 cases o with
 | none=>cases u with
  | none=>rfl
  | some _=>exact (show False from r).elim
 | some _=>cases u with
  | none=>exact (show False from r).elim
  | some _=>rfl
theorem KV.val {kvs:List (κ×V)} {vs:List (κ×Value)} (r:KV kvs vs) (k:κ):pQ (j8 kvs k) (valueAt vs k):=by
 unfold KV at r
 induction r with
 | nil=>exact True.intro
 | @cons p q ps qs h t ih =>
  obtain ⟨h1,h2⟩:=h
  by_cases e:p.1=k
  ·have e':q.1=k:=h1.symm.trans e
   have b:valueAt (q :: qs) k=some q.2:=by simp [valueAt,UO,e']
   rw [FR e,b];exact h2
  ·have e':¬ q.1=k:=fun z=>e (h1.trans z)
   have b:valueAt (q :: qs) k=valueAt qs k:=by simp [valueAt,UO,e']
   rw [FT e,b];exact ih
theorem KV.any {kvs:List (κ×V)} {vs:List (κ×Value)} (r:KV kvs vs) (k:κ):(kvs.any fun kv=>decide (kv.1=k))=vs.any fun kv=>decide (kv.1=k):=by
 unfold KV at r
 induction r with
 | nil=>rfl
 | cons h t ih=>rw [UL,UL,ih,h.1]
theorem KV.repl {kvs:List (κ×V)} {vs:List (κ×Value)} (r:KV kvs vs) (k:κ) {y:V} {u:Value} (ry:RelV y u) :
  KV (kvs.map fun kv=>if kv.1=k then (kv.1,y) else kv) (vs.map fun kv=>if kv.1=k then (kv.1,u) else kv):=by
 unfold KV at r ⊢
 induction r with
 | nil=>exact .nil
 | @cons p q ps qs h t ih =>
  rw [Ui,Ui]
  refine .cons ?_ ih
  obtain ⟨h1,h2⟩:=h
  by_cases e:p.1=k
  ·rw [if_pos e,if_pos (h1.symm.trans e)];exact ⟨h1,ry⟩
  ·rw [if_neg e,if_neg (fun z=>e (h1.trans z))];exact ⟨h1,h2⟩
theorem KV.put {kvs:List (κ×V)} {vs:List (κ×Value)} (r:KV kvs vs) (k:κ) {y:V} {u:Value} (ry:RelV y u):KV (putK kvs k y) (stored vs k u):=by
 unfold putK stored
 rw [r.any k]
 by_cases e:(vs.any fun kv=>decide (kv.1=k))=true
 ·rw [if_pos e,if_pos e];exact r.repl k ry
 ·rw [if_neg e,if_neg e];exact Paired.snoc r ⟨rfl,ry⟩
theorem KV.length {kvs:List (κ×V)} {vs:List (κ×Value)} (r:KV kvs vs):kvs.length=vs.length:=Paired.length r
end
theorem FU {P:Program} {w:World} {k:Key} {u:Value} (r:RelV (kV k) u):(cv P w).is k u=true:=by
 cases k with
 | inl i=>obtain ⟨t,e⟩:=(show ∃ t,u=Value.int i t from r);subst e;exact Mh P w i t
 | inr x=>obtain ⟨t,e⟩:=(show ∃ t,u=Value.str x t from r);subst e;exact Mi P w x t
theorem Jd {P:Program} {w:World}:∀ {ks:List Key} {us:List Value},Vals (ks.map kV) us->ItemsAre (cv P w) ks us
 | [],_,r=>by rw [UB] at r;cases r;exact .nil
 | k :: ks,_,r=>by
  rw [Ui] at r
  cases r with
  | cons h t=>exact .cons (FU h) (Jd t)
abbrev KT (H:Hp):List (List Key×V)->List (List Key×Addr×Value)->Prop:=Paired fun p q=>p.1=q.1/\H q.2.1=some (.tup (p.1.map kV))/\RelV p.2 q.2.2
theorem KT.val {H:Hp} {kvs:List (List Key×V)} {xs:List (List Key×Addr×Value)} (r:KT H kvs xs) (k:List Key):pQ (j8 kvs k) ((atKey xs k).map (·.2)):=by
 induction r with
 | nil=>exact True.intro
 | @cons p q ps qs h t ih =>
  obtain ⟨h1,_,h2⟩:=h
  by_cases e:p.1=k
  ·have e':q.1=k:=h1.symm.trans e
   have b:atKey (q :: qs) k=some q.2:=by simp [atKey,UO,e']
   rw [FR e,b];exact h2
  ·have e':¬ q.1=k:=fun z=>e (h1.trans z)
   have b:atKey (q :: qs) k=atKey qs k:=by simp [atKey,UO,e']
   rw [FT e,b];exact ih
theorem KT.repl {H:Hp} {kvs:List (List Key×V)} {xs:List (List Key×Addr×Value)} (r:KT H kvs xs) (k:List Key) {y:V} {u:Value} (ry:RelV y u) :
  KT H (kvs.map fun kv=>if kv.1=k then (kv.1,y) else kv) (xs.map (putAt k u)):=by
 induction r with
 | nil=>exact .nil
 | @cons p q ps qs h t ih =>
  rw [Ui,Ui]
  refine .cons ?_ ih
  obtain ⟨h1,h2,h3⟩:=h
  unfold putAt
  by_cases e:p.1=k
  ·rw [if_pos e,if_pos (h1.symm.trans e)];exact ⟨h1,h2,ry⟩
  ·rw [if_neg e,if_neg (fun z=>e (h1.trans z))];exact ⟨h1,h2,h3⟩
theorem KT.put {H:Hp} {kvs:List (List Key×V)} {xs:List (List Key×Addr×Value)} (r:KT H kvs xs) (k:List Key) {b:Addr} {y:V} {u:Value} (hb:H b=some (.tup (k.map kV))) (ry:RelV y u) :
  KT H (putK kvs k y) (storedH xs k b u):=by
 have e:(kvs.any fun kv=>decide (kv.1=k))=(atKey xs k).isSome:=by
  rw [Jb,(r.val k).lh,Option.isSome_map]
 unfold putK storedH
 rw [e]
 by_cases q:(atKey xs k).isSome=true
 ·rw [if_pos q,if_pos q];exact r.repl k ry
 ·rw [if_neg q,if_neg q];exact Paired.snoc r ⟨rfl,hb,ry⟩
theorem KT.keeps {H H':Hp} {kvs:List (List Key×V)} {xs:List (List Key×Addr×Value)} (r:KT H kvs xs) (ht:∀ b ys,H b=some (.tup ys)->H' b=some (.tup ys)):KT H' kvs xs :=
 Paired.u7 r fun _ _ z=>⟨z.1,ht _ _ z.2.1,z.2.2⟩
section
variable {P:Program} {w:World} {H:Hp} {h:Heap} {a:Addr}
theorem tW {u:HO} (ok:kF P w H h) (e:Rd H a u):cm P w H h a u:=e.ok ok
theorem tZ {kvs:List (Key×V)} (ok:kF P w H h) (e:Rd H a (.dK kvs)):kvs.length<=sizeLine/\(a == sysModules)=false/\∃ vs,KV kvs vs/\h.DictOf (cv P w) a vs :=
 show cm P w H h a (.dK kvs) from tW ok e
theorem zQ {kvs:List (Key×V)} (ok:kF P w H h) (e:H a=some (.dK kvs)):kvs.length<=sizeLine/\(a == sysModules)=false/\∃ vs,KV kvs vs/\h.DictOf (cv P w) a vs:=tZ ok (.inl e)
theorem yl {ks:List Key} (ok:kF P w H h) (e:H a=some (.tup (ks.map kV))):(tupleKind (cv P w)).is h ks a:=by
 obtain ⟨_,its,r,o,h1,h2,_,n,h3⟩:=(show cm P w H h a (.tup (ks.map kV)) from ok a _ e)
 exact ⟨o,its.toArray,n,h1,h2,h3,by simpa using Jd r⟩
theorem t6 {kvs:List (List Key×V)} (ok:kF P w H h) (e:Rd H a (.dT kvs)):kvs.length<=sizeLine/\(a == sysModules)=false /\
  ∃ xs,KT H kvs xs/\h.DictOfH (tupleKind (cv P w)) a xs:=by
 obtain ⟨z,y,xs,r,o,es,ep,h1,h2,h3,h4,h5⟩:=(show cm P w H h a (.dT kvs) from tW ok e)
 refine ⟨z,y,xs,r,o,es,ep,h1,h2,h3,h4,fun x hx=>?_,h5⟩
 have all:∀ {l:List (List Key×V)} {m:List (List Key×Addr×Value)},KT H l m->∀ x∈m,(tupleKind (cv P w)).is h x.1 x.2.1:=by
  intro l m q
  induction q with
  | nil=>intro x hx;exact nomatch hx
  | @cons p q ps qs hq t ih =>
   intro x hx
   rcases Up.mp hx with e | hx
   ·subst e
    exact yl ok (by rw [<- hq.1];exact hq.2.1)
   ·exact ih x hx
 exact all r x hx
theorem zR {kvs:List (List Key×V)} (ok:kF P w H h) (e:H a=some (.dT kvs)):kvs.length<=sizeLine/\(a == sysModules)=false /\
  ∃ xs,KT H kvs xs/\h.DictOfH (tupleKind (cv P w)) a xs:=t6 ok (.inl e)
end
def qq (H:Hp) (a:Addr) (y:V) (r:Option V):Prop :=
 (∃ kvs k,Rd H a (.dK kvs)/\y=kV k/\r=j8 kvs k)\/∃ kvs k b,Rd H a (.dT kvs)/\y=.ref b/\H b=some (.tup (k.map kV))/\r=j8 kvs k
def qr (H:Hp) (a:Addr) (y v:V) (H':Hp):Prop :=
 (∃ kvs k,H a=some (.dK kvs)/\y=kV k/\kvs.length < sizeLine/\H'=upd H a (.dK (putK kvs k v))) \/
 ∃ kvs k b,H a=some (.dT kvs)/\y=.ref b/\H b=some (.tup (k.map kV))/\kvs.length < sizeLine/\H'=upd H a (.dT (putK kvs k v))
theorem qq.k {H:Hp} {a:Addr} {kvs:List (Key×V)} {k:Key} (e:H a=some (.dK kvs)):qq H a (kV k) (j8 kvs k):=.inl ⟨kvs,k,.inl e,rfl,rfl⟩
theorem qr.k {H:Hp} {a:Addr} {kvs:List (Key×V)} {k:Key} {v:V} (e:H a=some (.dK kvs)) (hl:kvs.length < sizeLine):qr H a (kV k) v (upd H a (.dK (putK kvs k v))):=.inl ⟨kvs,k,e,rfl,hl,rfl⟩
section
variable {X:Cx} {pins:List (Addr×Obj)} {σ:St} {H:Hp} {s:Shared} {a:Addr} {y v:V} {u r:Value} {o:Option V} {A:Around} {E:Value->Shared->Prop}
theorem Inv.big (I:Inv X pins σ H s):sysModules < s.heap.objs.size:=by
 have h:mainGlobals < s.heap.objs.size:=(I.mod.glob.keeps I.bk).lt
 exact VX (by decide) h
theorem MV {Q:Value->Shared->Prop} (hu:A.units + 1 < cLine) (I:Inv X pins σ H s) (g:qq H a y o) (ry:RelV y u) (h:∀ s',Inv X pins σ H s'->Q (.bool (!o.isSome)) s') :
  wpAny (model X.prog X.w) A (compareOp .NotIn u (.ref a)) Q E s:=by
 rcases g with ⟨kvs,k,e,ey,l⟩ | ⟨kvs,k,b,e,ey,eb,l⟩
 ·subst ey
  obtain ⟨z,hd,vs,rel,dd⟩:=tZ I.hok e
  refine wpAny_notIn_of (FU ry) hd dd.mapOf ?_
  rw [<- (rel.val k).lh,<- l]
  exact h _ (I.tok _)
 ·subst ey
  cases (show u=Value.ref b from ry)
  obtain ⟨z,hd,xs,rel,dd⟩:=t6 I.hok e
  refine wpAny_notIn_heap (tupleKind_room_in1 hu) (yl I.hok eb) hd dd ?_
  have q:=(rel.val k).lh
  rw [Option.isSome_map] at q
  rw [<- q,<- l]
  exact h _ (I.tok _)
theorem Je {h':Heap} {t':Nat} {ob:HO} (I:Inv X pins σ H s) (mu:y9 (H a)) (hs:Heap.SameBut a s.heap h') (he:∃ q,h'.get? a=some q) (new:cm X.prog X.w (upd H a ob) h' a ob) :
  Inv X pins σ (upd H a ob) { s with heap:=h',toks:=t' } :=
 I.write (x:=a) (e:=a) mu (.inl rfl) (fun b q hb z=>(hs.2 b hb).trans z) he new
theorem vH {P:Program} {w:World} {H':Hp} {h':Heap} {kvs:List (Key×V)} {vs:List (Key×Value)} (z:kvs.length<=sizeLine) (hd:(a == sysModules)=false) (rel:KV kvs vs) (dd:h'.DictOf (cv P w) a vs) :
  cm P w H' h' a (.dK kvs):=⟨z,hd,vs,rel,dd⟩
theorem MW {H':Hp} {Q:Unit->Shared->Prop} (hu:A.units + 1 < cLine) (I:Inv X pins σ H s) (g:qr H a y v H') (ry:RelV y u) (rv:RelV v r) (h:∀ s',Inv X pins σ H' s'->Q () s') :
  wpAny (model X.prog X.w) A (setItem (.ref a) u r) Q E s:=by
 rcases g with ⟨kvs,k,e,ey,l,eH⟩ | ⟨kvs,k,b,e,ey,eb,l,eH⟩
 ·subst ey eH
  obtain ⟨z,hd,vs,rel,dd⟩:=zQ I.hok e
  have hz:vs.length<=sizeLine:=by rw [<- rel.length];exact z
  have hl:(putK kvs k v).length<=sizeLine:=by have:=Jc kvs k v;omega
  refine wpAny_setItem_pairs (hsz:=hz) (FU ry) dd fun h' Dg hs=>h _ ?_
  have he:∃ q,h'.get? a=some q:=let ⟨q,_,_,hq,_⟩:=Dg;⟨q,hq⟩
  exact Je I (by rw [e];exact True.intro) hs he (vH hl hd (rel.put k rv) Dg)
 ·subst ey eH
  cases (show u=Value.ref b from ry)
  obtain ⟨z,hd,xs,rel,dd⟩:=zR I.hok e
  have hz:xs.length<=sizeLine:=by rw [<- Paired.length rel];exact z
  have hl:(putK kvs k v).length<=sizeLine:=by have:=Jc kvs k v;omega
  refine wpAny_setItem_heap (hsz:=hz) (tupleKind_room_in1 hu) (yl I.hok eb) dd fun h' Dg hs=>h _ ?_
  obtain ⟨q,es,ep,hq,h2,h3,h4,_,h5⟩:=Dg
  refine Je I (by rw [e];exact True.intro) hs ⟨q,hq⟩ ⟨hl,hd,_,(rel.put k eb rv).keeps fun c ys ec=>?_,q,es,ep,hq,h2,h3,h4,h5⟩
  rw [jE (Fg ec e (fun z=>nomatch z))]
  exact ec
end
section
variable {X:Cx} {pins:List (Addr×Obj)} {σ:St} {H:Hp} {s:Shared} {a:Addr} {kvs:List (Key×V)} {k:Key} {u:Value} {A:Around} {E:Value->Shared->Prop}
end
def pq (ty td:TE):TE:=fun σ H Q=>ty σ H fun y H1=>td σ H1 fun x H2=>∃ a o,x=.ref a/\qq H2 a y o/\Q (.bl (!o.isSome)) H2
def ua (td ty tv:TE):TS:=fun D σ H=>tv σ H fun v H1=>td σ H1 fun x H2=>ty σ H2 fun y H3=>∃ a H4,x=.ref a/\qr H3 a y v H4/\D.nx σ H4
section
variable {X:Cx} {o i e value:Expr} {pos pos' tpos:Pos} {td ty tv:TE}
theorem MX (hu:X.A.units + 1 < cLine) (hi:PE X i ty) (ho:PE X o td):PC X .NotIn i o (pq ty td):=by
 intro pins s σ H Q I h
 refine cy (hi pins s σ H _ I h) fun iv s1 ⟨y,H1,I1,ry,q1⟩=>cy (ho pins s1 σ H1 _ I1 q1) fun u s2 ⟨x,H2,I2,rx,a,ov,ex,g,q2⟩=>?_
 subst ex
 obtain rfl:u=Value.ref a:=rx
 exact MV hu I2 g ry fun s3 I3=>⟨.bl (!ov.isSome),H2,I3,rfl,q2⟩
theorem MY (hu:X.A.units + 1 < cLine) (ho:PE X o td) (hi:PE X i ty) (hv:PE X value tv) (hs:swapsWith value (some (.Subscript o i pos')) pos.line X.env=pure false) :
  PS X (.Assign [.Subscript o i pos'] value pos) (ua td ty tv):=by
 intro pins s σ H D I h
 refine wpAny_Assign_Subscript (cy (hv pins s σ H _ I h) fun r s1 ⟨v,H1,I1,rv,q1⟩=>cy (ho pins s1 σ H1 _ I1 q1) fun u s2 ⟨x,H2,I2,rx,q2⟩=>cy (hi pins s2 σ H2 _ I2 q2) fun iv s3 ⟨y,H3,I3,ry,a,H4,ex,g,q3⟩=>?_) hs
 subst ex
 obtain rfl:u=Value.ref a:=rx
 exact MW hu I3 g ry rv fun s4 I4=>⟨σ,H4,I4,q3⟩
end
theorem MZ {P:Program} {w:World} {H:Hp} (h:Heap) (hb:sysModules < h.objs.size):cm P w H (h.push { cls:=.type "dict",data:=.dict #[] }) h.objs.size (.dK []) :=
 ⟨Uw _,beq_eq_false_iff_ne.mpr (Ne.symm (UA hb)),[],.nil,Heap.DictOf.new h⟩
def qu:TE:=fun _ H Q=>∀ p,H p=none->Q (.ref p) (upd H p (.dK []))
section
variable {X:Cx} {pos:Pos}
theorem M0:PE X (.Dict [] [] pos) qu:=fun pins s σ H Q I h =>
 wpAny_Dict_empty ⟨.ref s.heap.objs.size,_,I.laid (a:=s.heap.objs.size) (o:=.dK []) (t':=s.toks) (fun _ _ q=>T8 _ q) (TM _) (MZ s.heap I.big),rfl,h _ (I.hok.fresh (TM _))⟩
end
section
variable {X:Cx} {pins:List (Addr×Obj)} {σ:St} {H:Hp} {s:Shared} {a:Addr} {y d:V} {u r:Value} {o:Option V} {A:Around} {E:Value->Shared->Prop}
end
section
variable {X:Cx} {o e f:Expr} {apos cpos:Pos} {td ty tx:TE}
end
section
variable {X:Cx} {pins:List (Addr×Obj)} {σ:St} {H:Hp} {s:Shared} {a:Addr} {kvs:List (Key×V)} {A:Around} {E:Value->Shared->Prop}
end
section
variable {X:Cx} {pins:List (Addr×Obj)} {σ:St} {H:Hp} {s:Shared} {a:Addr} {y:V} {u:Value} {A:Around} {E:Value->Shared->Prop}
end
end L2
namespace Jf
open PySem PySem.W PySem.Calls PyProof.Rows
theorem M1 {P:Params} {h:Heap}:∀ (ns:List Int) (vs:List Value),WellAll P h vs (ns.map WData.int)->IntsAre vs ns:=by
 intro ns
 induction ns with
 | nil =>
  intro vs w
  rw [UB] at w
  cases w
  exact .nil
 | cons n ns ih =>
  intro vs w
  rw [Ui] at w
  cases w with
  | cons a b =>
   cases a
   exact .cons _ _ (ih _ b)
theorem M3 {l:OpenLaw} {n:Nat} (hn:l.most=some n) {P:Params} {h:Heap} {args:List WData} {vals:List Value}
  (hpre:l.row.toRowW.claim.pre args=true) (hwl:WellAll P h vals args) :
  ∃ a vs ns,vals=[Value.ref a]/\args=[WData.list (ns.map WData.int)]/\h.get? a=some { cls:=.type "list",data:=.seq vs.toArray }/\IntsAre vs ns/\ns.length<=n:=by
 have hsh:WShape.hasAll [] args [.list .int]=true:=(pre_splitW hpre).1
 have hc:l.pre.holds [] { args:=args }=true:=(pre_splitW hpre).2
 obtain ⟨d,r,rfl,h1,h2⟩:=hasAllW_cons hsh
 obtain rfl:=hasAllW_nil h2
 obtain ⟨xs,rfl,h3⟩:=hasW_list h1
 obtain ⟨ns,rfl⟩:=items_int h3
 have hlen:ns.length<=n:=by
  unfold OpenLaw.pre at hc
  have h4:(WTm.not (.lt (.lit (.int (n:Int))) (.len (.arg 0)))).holds [] { args:=[.list (ns.map .int)] }=true:=by
   have h4:=(holds_andW hc).1
   rw [hn] at h4
   exact h4
  have h5:=condW_of h4 (w_not (w_lt w_lit (w_len_list (w_arg rfl))))
  rw [TJ] at h5
  refine VB fun q=>?_
  have q':(n:Int) < ((ns.length:Nat):Int):=by omega
  first
   | (rw [decide_eq_true q'] at h5;exact absurd h5 (by decide))
   | (simp at h5;omega)
 cases hwl with
 | cons w1 w2 =>
  cases w2
  cases w1 with
  | list ho hall=>exact ⟨_,_,ns,rfl,rfl,ho,M1 ns _ hall,hlen⟩
theorem M4 (l:OpenLaw) (args:List WData):l.row.toRowW.claim.post args (.bool true) args=true :=
 postW_of (r:=l.row.toRowW) (X:=(true == true))
  (show WShape.has [] (.bool true) .bool=true by first | rfl | decide | simp [WShape.has,WShape.arms,WShape.armsAll])
  (show (WTm.eq .res (.lit (.bool true))).value [] { args:=args,res:=some (.bool true),after:=args }=some (.bool (true == true)) from w_eq_bool (w_res rfl) w_lit) rfl
theorem M5 {l:OpenLaw} {n:Nat} {q:Program} {loose:List Str} {XP:(Str->Option Value)->Heap->Prop} {YP:World->Heap->Prop} {d:DefRec}
  (hn:l.most=some n) (hdf:d.params.defaults=[])
  (call:∀ (w:World) (s₀ s₁:Shared) (mg mb:Str->Option Value) (fa:Addr) (o:Obj) (pm cd doc:Value) (a:Addr) (vs:List Value) (ns:List Int),
   Ground q loose [] XP w s₀ mg mb s₁.heap->YP w s₁.heap ->
   s₁.heap.get? fa=some o->o.data=.func (docDef d.name d.params d.body d.scope pm cd doc)->s₁.heap.CodeRec cd d.name->mg d.name=some (.ref fa) ->
   s₁.heap.get? a=some { cls:=.type "list",data:=.seq vs.toArray }->IntsAre vs ns->ns.length<=n->s₁.gens=#[] ->
   codeAny (model l.prog w) callerA (.call (.ref fa) ⟨[.ref a],[]⟩) (fun r s'=>r=.ok (.ret (.bool true))/\OldK s₁.heap s'.heap/\s'.os=s₁.os/\AllBare s'.gens) s₁) :
  WalkO q loose XP YP l.row.toRowW d [] (fun f vs=>PySem.call f vs):=by
 intro w s₀ s₁ mg mb G Y fa o pm cd doc dV kV ho hd hcd hD hmg hg args vals as hpre hlay hrd hwl hlo
 obtain rfl:dV=.none:=Dflts.none hD hdf
 obtain rfl:kV=.none:=Dflts.noKw hD
 obtain ⟨a,vs,ns,rfl,rfl,hobj,hints,hlen⟩:=M3 hn hpre hwl
 refine enter_call (codeAny_mono (call w s₀ s₁ mg mb fa o pm cd doc a vs ns G Y ho (fd_plain hd) hcd hmg hobj hints hlen hg) fun r s' hq=>?_)
 obtain ⟨rfl,h2,h3,h4⟩:=hq
 exact ⟨.inl ⟨.bool true,.bool true,[],rfl,fun _=>rfl,.bool true,M4 l _,fun _=>⟨List.Pairwise.nil,fun _ hm=>(nomatch hm)⟩⟩,h2,h3,h4⟩
section
variable {prog:Program} {w:World} {A:Around} {E:Value->Shared->Prop} {s:Shared} {K:Frag}
end
end Jf
namespace L2
open PySem PySem.Spec PyProof.Rows
theorem Jg:∀ {vs:List Value} {ns:List Int},IntsAre vs ns->Vals (ns.map V.int) vs
 | _,_,.nil=>.nil
 | _,_,.cons n t h=>.cons ⟨t,rfl⟩ (Jg h)
def Only (H:Hp):Prop:=∀ b,H b=none\/∃ o xs,H b=some (.nr o (.lst xs))
theorem M6 {P:Program} {w:World} {K:Zfr} {mg mb:Str->Option Value} {CX:pg} {k:Nat} {fa a:Addr} {fd:FuncData} {x:Str} {sp:Sp} {s₁:Shared} {vs:List Value} {ns:List Int}
  (KX:K.In s₁.heap) (hns:s₁.heap.Ns mainGlobals mg) (hb:s₁.heap.Ns builtinsNs mb) (M7:∀ x:Str,x≠"__name__" -> mb x=bootBuiltins x) (hlim:s₁.heap.NoLimit) (hg:s₁.gens=#[])
  (ha:s₁.heap.get? a=some { cls:=.type "list",data:=.seq vs.toArray }) (hi:IntsAre vs ns) (hl:ns.length<=sizeLine) (hr:eK k callerA)
  (F:∀ base:Heap,K.In base->base.Ns mainGlobals mg->aE P w K mg base CX k fa fd [x] sp) (hbind:∀ (s:Shared) (u:Value),BindsTo s fd ⟨[u],[]⟩ [(x,u)])
  (p8:∀ H:Hp,Only H->iZ K H a (ns.map V.int)->sp [.ref a] H (fun v _=>v=.bl true) fun _ _ _=>False)
  (zS:∀ H e s',CX [] H s₁ (fun _ _ _=>False) e s'->False) :
  codeAny (model P w) callerA (.call (.ref fa) ⟨[.ref a],[]⟩) (fun r s'=>r=.ok (.ret (.bool true))/\OldK s₁.heap s'.heap/\s'.os=s₁.os/\AllBare s'.gens) s₁:=by
 have rv:=Jg hi
 have FV:=hi.length
 have core:∀ H:Hp,Only H->iZ K H a (ns.map V.int)->kF P w H s₁.heap->(∀ b,H b≠none->b=a)->(H a≠none->K.lookup a=none) ->
   codeAny (model P w) callerA (.call (.ref fa) ⟨[.ref a],[]⟩) (fun r s'=>r=.ok (.ret (.bool true))/\OldK s₁.heap s'.heap/\s'.os=s₁.os/\AllBare s'.gens) s₁:=by
  intro H hO hS hok hA hK
  have pz:∀ {b:Addr} {o:Obj},s₁.heap.get? b=some o->H b=none->(ny s₁.heap H).get? b=some o:=fun e n=>Ml e n
  have zG:∀ {b:Addr} {o:Obj} {es:Array DictEntry} {ep:Nat},s₁.heap.get? b=some o->o.data=.dict es ep->H b=none:=fun {b o es ep} e d=>by
   cases q:H b with
   | none=>rfl
   | some u =>
    have e':b=a:=hA b (by rw [q];simp)
    subst e'
    rw [ha] at e;cases e
    have d':Data.seq vs.toArray _=Data.dict es ep:=d
    cases d'
  have Dh:∀ {b:Addr} {m:Str->Option Value},s₁.heap.Ns b m->(ny s₁.heap H).Ns b m:=fun {b m} ⟨o,es,ep,e,d,r⟩=>⟨o,es,ep,pz e (zG e d),d,r⟩
  have Jh:K.In (ny s₁.heap H):=fun b o e=>pz (KX b o e) (by
   cases q:H b with
   | none=>rfl
   | some u =>
    have e':b=a:=hA b (by rw [q];simp)
    subst e'
    rw [hK (by rw [q];simp)] at e;cases e)
  have hM:Mod K mg (ny s₁.heap H):=⟨Jh,Dh hns,⟨mb,Dh hb,M7⟩,let ⟨mc,h1,h2⟩:=hlim;⟨mc,Dh h1,h2⟩⟩
  have e0:sf P w K mg (ny s₁.heap H) callerA [] s₁ H:=⟨rfl,hM,fun b o e=>Mm e,Nat.le_of_eq (Mk _ _),trivial,fun b hb=>absurd (show b∈([]:List Addr) from hb) (by simp),hok,.of_eq hg⟩
  refine codeAny_mono ((F _ Jh (Dh hns)).run callerA [] s₁ H ⟨[.ref a],[]⟩ [.ref a] [.ref a] _ _ hr e0 (hbind s₁ (.ref a)) (.cons rfl .nil) (p8 H hO hS)) fun r s' h=>?_
  cases r with
  | error e=>exact (zS H e s' h).elim
  | ok fl =>
   cases fl with
   | next=>exact False.elim h
   | brk=>exact False.elim h
   | cont=>exact False.elim h
   | ret u =>
    obtain ⟨v,H',os,bare,un,FW,r',q⟩:=h
    have q':v=.bl true:=q
    subst q'
    obtain rfl:u=Value.bool true:=r'
    refine ⟨rfl,OldK.of_keep fun b o e=>?_,os,bare⟩
    cases q:H b with
    | none=>exact un.keep b o e q (by intro z;exact absurd (show b∈([]:List Addr) from z) (by simp)) (by simp)
    | some u =>
     rcases hO b with z | ⟨ob,xs,z⟩
     ·rw [q] at z;cases z
     ·have z2:=un.nu b ob _ z
      obtain ⟨e1,_⟩:=hok b _ z
      obtain ⟨e2,_⟩:=FW b _ z2
      rw [e] at e1;cases e1
      exact e2
 cases hk:K.lookup a with
 | some o =>
  have e:=KX a o hk
  rw [ha] at e
  cases e
  refine core (fun _=>none) (fun _=>.inl rfl) (.inr ⟨_,vs.toArray,_,hk,rfl,rfl,rfl,by rw [T7,FV];exact hl,by simpa using rv⟩) (fun b u z=>by have z':(none:Option HO)=some u:=z;cases z') (fun b z=>absurd rfl z) fun z=>absurd rfl z
 | none =>
  refine core (fun b=>if b=a then some (.nr { cls:=.type "list",data:=.seq vs.toArray } (.lst (ns.map V.int))) else none) (fun b=>?_) (.inl (.inr ⟨{ cls:=.type "list",data:=.seq vs.toArray },if_pos rfl⟩)) (fun b u z=>?_) (fun b z=>?_) fun _=>hk
  ·by_cases hb:b=a
   ·exact .inr ⟨_,_,if_pos hb⟩
   ·exact .inl (if_neg hb)
  ·by_cases hb:b=a
   ·have z':=(if_pos hb).symm.trans z
    cases z'
    subst hb
    exact ⟨ha,by rw [TJ];exact hl,vs,_,rv,ha⟩
   ·have z':=(if_neg hb).symm.trans z
    cases z'
  ·by_cases hb:b=a
   ·exact hb
   ·exact absurd (if_neg hb) z
abbrev KOf {K:Zfr} {h:Heap} (_:K.In h):Zfr:=K
theorem M8 {l:PySem.W.OpenLaw} {n k:Nat} {q:Program} {loose:List Str} {XP:(Str->Option Value)->Heap->Prop} {YP:World->Heap->Prop} {d:DefRec} {K:Params->Zfr} {CX:World->pg} {sp:World->Sp} {x:Str}
  (hn:l.most=some n) (hn2:n<=sizeLine) (hdf:d.params.defaults=[]) (hr:eK k callerA)
  (hY:∀ (w:World) (h:Heap),YP w h->(K w.params).In h)
  (F:∀ (w:World) (mg:Str->Option Value) (fa:Addr) (h:Heap),(K w.params).In h->h.Ns mainGlobals mg->mg d.name=some (.ref fa) ->
   ∃ fd:FuncData,(∀ (s:Shared) (u:Value),BindsTo s fd ⟨[u],[]⟩ [(x,u)]) /\
    ∀ base:Heap,(K w.params).In base->base.Ns mainGlobals mg->aE l.prog w (K w.params) mg base (CX w) k fa fd [x] (sp w))
  (p8:∀ (w:World) (H:Hp) (a:Addr) (ns:List Int),ns.length<=n->Only H->iZ (K w.params) H a (ns.map V.int)->sp w [.ref a] H (fun v _=>v=.bl true) fun _ _ _=>False)
  (zS:∀ (w:World) (H:Hp) (s:Shared) (e:Value) (s':Shared),CX w [] H s (fun _ _ _=>False) e s'->False) :
  PySem.W.WalkO q loose XP YP l.row.toRowW d [] (fun f vs=>PySem.call f vs):=by
 refine Jf.M5 hn hdf fun w s₀ s₁ mg mb fa o pm cd doc a vs ns G Y ho hd hcd hmg hobj hints hlen hg=>?_
 have KX:=hY w _ Y
 obtain ⟨fd,hb,hF⟩:=F w mg fa _ KX G.T.g hmg
 exact M6 KX G.T.g G.T.b G.T.builtins G.T.nolimit hg hobj hints (Uh hlen hn2) hr hF hb (fun H hO hS=>p8 w H a ns hlen hO hS) fun H e s'=>zS w H s₁ e s'
theorem M9 {l:PySem.W.OpenLaw} {n k:Nat} {q:Program} {loose:List Str} {XP:(Str->Option Value)->Heap->Prop} {YP:World->Heap->Prop} {d:DefRec} {K:Params->Zfr} {CX:pg} {sp:Zfr->Sp} {x:Str}
  (hn:l.most=some n) (hn2:n<=sizeLine) (hdf:d.params.defaults=[]) (hr:eK k callerA)
  (hY:∀ (w:World) (h:Heap),YP w h->(K w.params).In h)
  (F:∀ (w:World) (mg:Str->Option Value) (fa:Addr) (h:Heap),(K w.params).In h->h.Ns mainGlobals mg->mg d.name=some (.ref fa) ->
   ∃ fd:FuncData,(∀ (s:Shared) (u:Value),BindsTo s fd ⟨[u],[]⟩ [(x,u)]) /\
    ∀ base:Heap,(K w.params).In base->base.Ns mainGlobals mg->aE l.prog w (K w.params) mg base CX k fa fd [x] (sp (K w.params)))
  (p8:∀ (K:Zfr) (H:Hp) (a:Addr) (ns:List Int),ns.length<=n->Only H->iZ K H a (ns.map V.int)->sp K [.ref a] H (fun v _=>v=.bl true) fun _ _ _=>False)
  (zS:∀ (H:Hp) (s:Shared) (e:Value) (s':Shared),CX [] H s (fun _ _ _=>False) e s'->False) :
  PySem.W.WalkO q loose XP YP l.row.toRowW d [] (fun f vs=>PySem.call f vs) :=
 M8 (K:=K) (CX:=fun _=>CX) (sp:=fun w=>sp (K w.params)) hn hn2 hdf hr hY F (fun w H a ns h1 h2 h3=>p8 (K w.params) H a ns h1 h2 h3) fun _ H s e s'=>zS H s e s'
def d4 (s:Stmt):Arguments:=match s with
 | .FunctionDef _ a _ _ _ _ _ _ _ _=>a
 | _=>{ posonlyargs:=[],args:=[],vararg:=none,kwonlyargs:=[],kw_defaults:=[],kwarg:=none,defaults:=[] }
def cP (s:Stmt):List Stmt:=match s with
 | .FunctionDef _ _ b _ _ _ _ _ _ _=>b
 | _=>[]
def au (s:Stmt):Scope:=match s with
 | .FunctionDef _ _ _ _ _ _ sc _ _ _=>sc
 | _=>{ kind:=.function,names:=[],isGenerator:=false,isCoroutine:=false }
abbrev bE:pg:=fun _ _ _ _ _ _=>False
abbrev E0:XK:=fun _ _ _=>False
theorem ub {X:Cx}:Passes bE X E0:=fun _ _ _ _ _ _ _ h=>h.elim
structure Di (K:Zfr) (x qual:Str) (st:Stmt) (f:Addr) (fd:FuncData):Prop where
 ex:∃ (oc:Value) (od:Option Addr) (kV doc pm:Value) (an:Option Addr) (cdv ct:Value) (osl:Array (Option Value)),
  fd=PySem.W.fnOf x qual (d4 st) (cP st) (au st) .none kV doc pm an cdv ct/\K.lookup f=some ⟨oc,od,.func fd,osl⟩/\PySem.W.codeIn K cdv qual=true
 kp:PySem.W.keepIn K (.ref f)=true
section
variable {P:Program} {w:World} {K:Zfr} {mg:Str->Option Value} {base:Heap}
theorem Di.ok {x qual:Str} {st:Stmt} {f:Addr} {fd:FuncData} {N ps:List Str} {k:Nat} {sp:Sp} (F:Di K x qual st f fd) (S:aC N ps (au st)) (len:∀ vs H Q E,sp vs H Q E->vs.length=ps.length)
  (hbody:∀ (cdv:Value) (A:Around) (outer:List Env) (s:Shared) (H:Hp) (vs:List V) (Q:VK) (E:XK),eK k (A.deeper (envOfC qual (au st) s.heap.objs.size f cdv))->sp vs H Q E ->
   ∃ t,pe (gK bE P w K mg base N qual (au st) f cdv A outer s H E).nz (cP st) t/\t { nx:=fun _ H'=>Q .non H',rt:=Q } (start N vs) H):aE P w K mg base bE (k + 1) f fd ps sp:=by
 obtain ⟨oc,od,kV,doc,pm,an,cdv,ct,osl,rfl,lk,hcd⟩:=F.ex
 refine tO lk hcd S len fun A outer s H vs Q E hr p8=>?_
 obtain ⟨t,h,q⟩:=hbody cdv A outer s H vs Q E hr p8
 exact ⟨t,h.nz,q⟩
theorem vI {x qual:Str} {st:Stmt} {f:Addr} {oc:Value} {od an:Option Addr} {osl:Array (Option Value)} {kV doc pm cdv ct:Value} (l:K.lookup f=some ⟨oc,od,.func (PySem.W.fnOf x qual (d4 st) (cP st) (au st) .none kV doc pm an cdv ct),osl⟩)
  (c:PySem.W.codeIn K cdv qual=true) (k:PySem.W.keepIn K (.ref f)=true):Di K x qual st f (PySem.W.fnOf x qual (d4 st) (cP st) (au st) .none kV doc pm an cdv ct):=⟨⟨oc,od,kV,doc,pm,an,cdv,ct,osl,rfl,l,c⟩,k⟩
end
theorem zT {A:Around} {k:Nat} (hr:eK k A):A.units + 1 < cLine:=UG (Nat.add_le_add_left (by decide:1<=64) _) hr.units
section
variable {X:Cx}
theorem pv (i:Nat) {x:Str} {pos:Pos} (hN:X.N[i]?=some x:=by rfl) (hv:Fj X.env.scope x:=by first | exact Or.inl rfl | exact Or.inr (Or.inl rfl) | exact Or.inr (Or.inr rfl)) (hd:(x == ("__debug__" : Str))=false:=by decide)
  (hcd:(x == ("__classdict__" : Str))=false:=by decide):PE X (.Name x pos) (ve i):=vf hN hv hd hcd
end
theorem sj {A B:Prop} (h:B):if false=true then A else B:=by
 rw [if_neg TX]
 exact h
theorem sm {A B:Prop} (h:A):if true=true then A else B:=by
 rw [if_pos rfl]
 exact h
def iU (H H':Hp):Prop:=∀ b o,H b=some o->H' b=some o
theorem iU.refl (H:Hp):iU H H:=fun _ _ h=>h
section
variable {X:Cx}
end
section
variable {κ:Type} [DecidableEq κ]
end
theorem kT:bootBuiltins "len" = some (.builtin "len"):=by decide +kernel
theorem FX:bootBuiltins "int" = some (.type "int"):=by decide +kernel
theorem pV:bootBuiltins "list" = some (.type "list"):=by decide +kernel
theorem mw:bootBuiltins "tuple" = some (.type "tuple"):=by decide +kernel
theorem rF:bootBuiltins "range" = some (.type "range"):=by decide +kernel
theorem vJ:bootBuiltins "max" = some (.builtin "max"):=by decide +kernel
theorem FY:bootBuiltins "min" = some (.builtin "min"):=by decide +kernel
theorem Ji:bootBuiltins "repr" = some (.builtin "repr"):=by decide +kernel
theorem Na:bootBuiltins "reversed" = some (.type "reversed"):=by decide +kernel
structure Kp (ch:List Addr) (H H':Hp):Prop where
 keep:∀ b o,H b=some o->b ∉ ch->H' b=some o
 tup:∀ b xs,H b=some (.tup xs)->H' b=some (.tup xs)
 nr:∀ b o u,H b=some (.nr o u)->H' b=some (.nr o u)
section
variable {ch:List Addr} {H H1 H2:Hp} {a l p:Addr} {o:HO} {xs ys:List V} {K:Zfr}
theorem Kp.refl:Kp ch H H:=⟨fun _ _ h _=>h,fun _ _ h=>h,fun _ _ _ h=>h⟩
theorem Kp.of_same (h:iU H H1):Kp ch H H1:=⟨fun b o e _=>h b o e,fun b xs e=>h b _ e,fun b o u e=>h b _ e⟩
theorem Kp.put (h:Kp ch H H1) (ha:a∈ch) (e:H1 a=some (.lst xs)):Kp ch H (upd H1 a o) :=
 ⟨fun b u q n=>by rw [jE (fun z=>n (by rw [z];exact ha))];exact h.keep b u q n,
   fun b u q=>by
  have r:=h.tup b u q
  rw [jE (Fg r e (by intro z;cases z))];exact r,
   fun b u v q=>by
  have r:=h.nr b u v q
  rw [jE (Fg r e (by intro z;cases z))];exact r⟩
theorem Kp.FZ (h:Kp ch H H1) (q:dW K H a xs):dW K H1 a xs:=by
 rcases q with (q | ⟨o,q⟩) | q
 ·exact .inl (.inl (h.tup a xs q))
 ·exact .inl (.inr ⟨o,h.nr a o _ q⟩)
 ·exact .inr q
def zU (K:Zfr) (H:Hp) (a:Addr) (xs:List V):Prop :=
 (∃ o,H a=some (.nr o (.lst xs))) \/
  ∃ (o:Obj) (its:Array Value) (n:Nat),K.lookup a=some o/\o.cls=.type "list" /\ o.dict=none/\o.data=.seq its n/\its.size<=sizeLine/\Vals xs its.toList
theorem zU.sq (h:zU K H a xs):iZ K H a xs:=h.elim (fun ⟨o,e⟩=>.inl (.inr ⟨o,e⟩)) .inr
theorem iZ.script (hO:Only H) (q:iZ K H a xs):zU K H a xs:=by
 rcases q with (q | ⟨o,q⟩) | q
 ·rcases hO a with e | ⟨o,ys,e⟩
  ·rw [e] at q;cases q
  ·rw [e] at q;cases q
 ·exact .inl ⟨o,q⟩
 ·exact .inr q
theorem iU.up (h:H p=none):iU H (upd H p o):=fun b u e=>by rw [jE (yd e h)];exact e
end
def oZ (K:Zfr) (H:Hp) (xs:List V) (Q:VK):Prop:=∀ p H',dW K H' p xs->iU H H'->Q (.ref p) H'
section
variable {X:Cx}
theorem oZ.new {K:Zfr} {H:Hp} {xs:List V} {Q:VK} (h:oZ K H xs Q):∀ p,H p=none->Q (.ref p) (upd H p (.tup xs)):=fun p hp=>h p _ (dW.of p7) (iU.up hp)
theorem oZ.it {K:Zfr} {H:Hp} {xs:List V} {Q:VK} {a:Addr} (h:oZ K H xs Q) (q:dW K H a xs):Q (.ref a) H:=h a H q (iU.refl H)
def qv (K:Zfr):R2:=fun x y H Q=>∃ a b xs ys,x=.ref a/\y=.ref b/\dW K H a xs/\dW K H b ys/\xs.length + ys.length<=sizeLine/\oZ K H (xs ++ ys) Q
theorem sr:kQ X (binaryOp .Add) (qv X.K):=by
 intro pins s σ H x y v u Q I rx ry h
 obtain ⟨a,b,xs,ys,rfl,rfl,ha,hb,hz,q⟩:=h
 by_cases hx:xs=[]
 ·subst hx
  cases rx
  cases ry
  obtain ⟨its,r1,p1,_⟩:=I.tuple ha
  obtain ⟨its2,r2,p2,_⟩:=I.tuple hb
  have e:its=[]:=r1.lU.mpr rfl
  subst e
  obtain ⟨⟨cls,dd,data,sl⟩,ho,hc,n,hd⟩:=id p1
  obtain ⟨⟨FD,dd2,data2,sl2⟩,ho2,hc2,n2,hd2⟩:=id p2
  simp only at hc hd hc2 hd2
  subst hc hd hc2 hd2
  exact concat_meets ⟨_,ho,rfl⟩ ⟨_,ho2,rfl⟩ noFill_tuple_add seq_tuple_add PySem.F.slot_tuple_add PySem.F.entry_tuple_add (PySem.F.args_tuple_add_2 _ _)
   (tuple_addW0 a b #[] its2.toArray n n2 dd dd2 sl sl2 (by simp)) ⟨ho,ho2,⟨.ref b,H,I,rfl,q.it (by simpa using hb)⟩⟩
 ·exact MN pins s σ H _ _ v u Q I rx ry ⟨a,b,xs,ys,rfl,rfl,ha,hb,hx,hz,fun e=>q.it (by subst e;simpa using ha),fun _=>q.new⟩
theorem Nb {prog:Program} {w:World} {A:Around} {E:Value->Shared->Prop} {s:Shared} {t sl:Addr} {items:Array Value} {vl vu:Value} {lo hi:Option Int} {Q:Value->Shared->Prop} (ht:IsTup s.heap t items) (hs:s.heap.IsSliceOf sl vl vu .none) (pl:IsPart vl lo) (pu:IsPart vu hi)
  (hw:HT.cn items.size 0 lo=0/\HT.cn items.size items.size hi=items.size) (h:Q (.ref t) s):wpAny (model prog w) A (getItem (.ref t) (.ref sl)) Q E s:=by
 obtain ⟨os,hos,hcs,hds⟩:=id hs
 have FE:s.TypeIs (.ref sl) "slice" := ⟨os,hos,hcs⟩
 unfold getItem
 try with_reducible refine wpAny_holding ?_
 first | refine wpAny_bind (wpAny_pure ?_) | skip
 refine wpAny_bind (wpAny_sequenceKey ht.typeIs (by decide) ?_)
 refine wpAny_bind (wpAny_callSpecial?_slot (name:=Str.ofString "__getitem__") ht.typeIs PyProof.Rows.slot_tuple_getitem
  (wpAny_call_entry PyProof.Rows.slot_tuple_getitem ht.typeIs entry_tuple_getitem ?_ (args_tuple_getitem _ _)))
 show wpAny _ _ (Builtin.Tuple.tupleItemsOf (.ref t) >>= _) _ _ s
 refine wpAny_bind (tupleItemsOf_ ht ?_)
 refine wpAny_bind (wpAny_typeOf FE ?_)
 rw [if_pos (by decide)]
 refine wpAny_bind (HT.IK hs pl pu ?_)
 have hyes:((((HT.cn items.size 0 lo:Nat):Int) == 0 && (1:Int) == 1 && (HT.cn items.size items.size hi - HT.cn items.size 0 lo) == items.size)=true):=by
  rw [hw.1,hw.2];simp
 show wpAny _ _ (if (((HT.cn items.size 0 lo:Nat):Int) == 0 && (1:Int) == 1 && (HT.cn items.size items.size hi - HT.cn items.size 0 lo) == items.size)=true then _ else _) _ _ s
 rw [if_pos hyes]
 obtain ⟨o,ho,hc,n,hd⟩:=id ht
 unfold Builtin.Tuple.tupleIsExact
 first
  | exact wpAny_bind (wpAny_bind (wpAny_typeOf (T:="tuple") ⟨o,ho,hc⟩ (wpAny_pure (wpAny_bind (wpAny_rule (wpAny_pure ⟨_,rfl,wpAny_pure h⟩))))))
  | exact wpAny_bind (wpAny_bind (wpAny_typeOf (T:="tuple") ⟨o,ho,hc⟩ (wpAny_pure (wpAny_bind (wpAny_rule (wpAny_bind (wpAny_pure ⟨_,rfl,wpAny_pure h⟩)))))))
  | trace_state
def uc (K:Zfr):V->Option Int->Option Int->Hp->VK->Prop:=fun x lo hi H Q=>∃ a xs,x=.ref a/\dW K H a xs/\oZ K H (mq xs lo hi) Q
theorem Nc {xs:List V} {lo hi:Option Int} (h:HT.cn xs.length 0 lo=0/\HT.cn xs.length xs.length hi=xs.length):mq xs lo hi=xs:=by
 unfold mq;rw [h.1,h.2];simp
theorem Nd:Dd X (uc X.K):=by
 intro pins s σ H x v vl vu lo hi sl Q I rx hs pl pu h
 obtain ⟨a,xs,rfl,hx,q⟩:=h
 by_cases hw:HT.cn xs.length 0 lo=0/\HT.cn xs.length xs.length hi=xs.length
 ·cases rx
  obtain ⟨its,r,ht,hz⟩:=I.tuple hx
  have hlen:its.toArray.size=xs.length:=by rw [T7];exact r.length.symm
  refine ⟨"tuple",_,PyProof.Rows.slot_tuple_getitem.lookup,ht.typeIs,?_⟩
  exact Nb ht hs pl pu (by rw [hlen];exact hw) ⟨.ref a,H,I,rfl,q.it (by rw [Nc hw];exact hx)⟩
 ·exact vz pins s σ H _ v vl vu lo hi sl Q I rx hs pl pu ⟨a,xs,rfl,hx,hw,q.new⟩
def eM (lo:Int) (n:Nat):List V:=(List.range n).map fun (k:Nat)=>V.int (lo + k)
theorem Nf (lo:Int) (n:Nat):(eM lo n).length=n:=by simp [eM]
theorem Dj:fB X (.type "range") (fun xs H Q=>∃ j:Int,xs=[.int j]/\∀ p,H p=none->Q (.ref p) (upd H p (.iY 0 j))):=by
 intro pins s σ H xs us Q I r h
 obtain ⟨j,rfl,q⟩:=h
 obtain ⟨u,rfl,t,rfl⟩:=vals1 r
 refine call_range_1 ⟨.ref s.heap.objs.size,_,I.laid (o:=.iY 0 j) (fun b o e=>T8 _ e) (TM _) ?_,rfl,q _ (I.hok.fresh (TM _))⟩
 exact ⟨_,_,_,Ug _ rfl⟩
theorem ym:fB X (.type "range") (fun xs H Q=>∃ i j:Int,xs=[.int i,.int j]/\∀ p,H p=none->Q (.ref p) (upd H p (.iY i j))):=by
 intro pins s σ H xs us Q I r h
 obtain ⟨i,j,rfl,q⟩:=h
 obtain ⟨u,u',rfl,⟨t,rfl⟩,t',rfl⟩:=vals2 r
 refine call_range_2 ⟨.ref s.heap.objs.size,_,I.laid (o:=.iY i j) (fun b o e=>T8 _ e) (TM _) ?_,rfl,q _ (I.hok.fresh (TM _))⟩
 exact ⟨_,_,_,Ug _ rfl⟩
theorem Jj:∀ (n:Nat) (lo:Int) (us:List Value),us.length=n->(∀ (j:Nat) (v:Value),us[j]?=some v->∃ t,v=.int (lo + j * 1) t)->Vals (eM lo n) us
 | 0,lo,[],_,_=>.nil
 | 0,lo,_ :: _,h,_=>by simp at h
 | n + 1,lo,[],h,_=>by simp at h
 | n + 1,lo,u :: us,h,hv=>by
  have e:eM lo (n + 1)=V.int lo :: eM (lo + 1) n:=by
   unfold eM
   rw [List.range_succ_eq_map,Ui,Uq]
   congr 1
   ·simp
   ·apply Ux
    intro i _
    simp only [Function.comp]
    congr 1
    push_cast
    omega
  rw [e]
  obtain ⟨t,ht⟩:=hv 0 u rfl
  refine .cons ⟨t,by rw [ht];simp⟩ (Jj n (lo + 1) us (by simpa using h) fun j v hj=>?_)
  obtain ⟨t',ht'⟩:=hv (j + 1) v hj
  refine ⟨t',ht'.trans ?_⟩
  congr 1
  omega
theorem rG (hc:X.calm=true):fB X (.type "list") (fun xs H Q=>∃ p lo hi,xs=[.ref p]/\H p=some (.iY lo hi)/\(-(2 ^ 62)<=lo/\lo < 2 ^ 62/\-(2 ^ 62)<=hi/\hi < 2 ^ 62)/\(hi - lo).toNat<=2 ^ 24 /\
  ∀ l,H l=none->Q (.ref l) (upd H l (.lst (eM lo (hi - lo).toNat)))):=by
 intro pins s σ H xs us Q I r h
 obtain ⟨p,lo,hi,rfl,hp,⟨b1,b2,b3,b4⟩,hz,q⟩:=h
 obtain ⟨u,rfl,ru⟩:=vals1 r
 cases ru
 obtain ⟨t,t',t'',e⟩:=(show cm X.prog X.w H s.heap p (.iY lo hi) from I.hok p _ hp)
 refine call_list_range (a:=lo) (b:=hi) (c:=1) (n:=(hi - lo).toNat) (I.ok.hd hc) (show IsRange s.heap p lo hi 1 t t' t'' from e) (small_one b1 b2 b3 b4) (by rw [rangeSize_one];split <;> omega) hz fun h' tk acc c kp hD hI=>?_
 refine ⟨.ref s.heap.objs.size,_,I.laid (t':=tk) (o:=.lst (eM lo (hi - lo).toNat)) kp (TM _) ?_,rfl,q _ (I.hok.fresh (TM _))⟩
 refine ⟨by rw [Nf];exact Uh hz (by decide),acc.toList,c,Jj _ _ _ (by rw [Vv];exact hI.1) fun j v hj=>hI.2 j v (by rw [<- hj,Vm]),by simpa using hD⟩
end
mutual
inductive Rep (K:Zfr) (H:Hp):V->PyData->Prop
 | non:Rep K H .non .none
 | bl (b:Bool):Rep K H (.bl b) (.bool b)
 | int (i:Int):Rep K H (.int i) (.int i)
 | str (x:Str):Rep K H (.str x) (.str x)
 | tup {a:Addr} {xs:List V} {ds:List PyData}:dW K H a xs->eN K H xs ds->Rep K H (.ref a) (.tuple ds)
 | lst {a:Addr} {xs:List V} {ds:List PyData}:iZ K H a xs->eN K H xs ds->Rep K H (.ref a) (.list ds)
inductive eN (K:Zfr) (H:Hp):List V->List PyData->Prop
 | nil:eN K H [] []
 | cons {v:V} {vs:List V} {d:PyData} {ds:List PyData}:Rep K H v d->eN K H vs ds->eN K H (v :: vs) (d :: ds)
end
section
variable {X:Cx} {pins:List (Addr×Obj)} {σ:St} {H:Hp} {s:Shared}
mutual
theorem Rep.reads (I:Inv X pins σ H s):∀ {v:V} {d:PyData} {u:Value},Rep X.K H v d->RelV v u->∃ as,Reads s.heap u d as
 | _,_,_,.non,r=>by cases r;exact ⟨_,.none⟩
 | _,_,_,.bl b,r=>by cases r;exact ⟨_,.bool b⟩
 | _,_,_,.int i,r=>by obtain ⟨t,rfl⟩:=r;exact ⟨_,.int i t⟩
 | _,_,_,.str x,r=>by obtain ⟨t,rfl⟩:=r;exact ⟨_,.str x t⟩
 | _,_,_,.tup q rs,r=>by
  cases r
  obtain ⟨its,rv,⟨o,e,c,n,hd⟩,_⟩:=I.tuple q
  obtain ⟨as,ra⟩:=eN.reads I rs rv
  exact ⟨_,.tuple e c hd (by simpa using ra)⟩
 | _,_,_,.lst q rs,r=>by
  cases r
  obtain ⟨its,rv,pl,_⟩:=I.list q
  obtain ⟨o,e,c,n,hd⟩:=pl.isList
  obtain ⟨as,ra⟩:=eN.reads I rs rv
  exact ⟨_,.list e c hd (by simpa using ra)⟩
theorem eN.reads (I:Inv X pins σ H s):∀ {vs:List V} {ds:List PyData} {us:List Value},eN X.K H vs ds->Vals vs us->∃ as,ReadsAll s.heap us ds as
 | _,_,_,.nil,r=>by cases r;exact ⟨_,.nil⟩
 | _,_,_,.cons h t,r=>by
  cases r with
  | cons r1 r2 =>
   obtain ⟨as,h1⟩:=Rep.reads I h r1
   obtain ⟨bs,h2⟩:=eN.reads I t r2
   exact ⟨_,.cons h1 h2⟩
end
def zV (K:Zfr) (neg:Bool):R2:=fun x y H Q=>∃ d e,Rep K H x d/\Rep K H y e/\PyData.canLay0 d=true/\PyData.canLay0 e=true/\min d.depth e.depth<=60/\Q (.bl (if neg then !PyData.eqv d e else PyData.eqv d e)) H
theorem Dk (hu:X.A.units + 64 < cLine):kQ X (compareOp .NotEq) (zV X.K true):=by
 intro pins s σ H x y v u Q I rx ry h
 obtain ⟨d,e,hd,he,c1,c2,dp,q⟩:=h
 obtain ⟨as,ra⟩:=hd.reads I rx
 obtain ⟨bs,rb⟩:=he.reads I ry
 exact SeqAt.neOverData X.prog X.w X.A X.xe s v u d e as bs _ ra rb c1 c2 (by omega) ⟨.bl _,H,I,rfl,q⟩
end
section
variable {K:Zfr} {H:Hp}
def bS (ns:List Int):List PyData:=ns.map PyData.int
theorem vK:∀ (ns:List Int),PyData.canLayAll0 (bS ns)=true
 | []=>rfl
 | n :: r=>by show (true && PyData.canLayAll0 (bS r))=true;rw [vK r];rfl
theorem yn:∀ (ns:List Int),PyData.depthAll (bS ns)=0
 | []=>rfl
 | n :: r=>by show max 0 (PyData.depthAll (bS r))=0;rw [yn r];rfl
theorem Dl:∀ (ns ms:List Int),PyData.eqvAll (bS ns) (bS ms)=decide (ns=ms)
 | [],[]=>rfl
 | [],_ :: _=>rfl
 | _ :: _,[]=>rfl
 | n :: ns,m :: ms=>by
  show ((n == m) && PyData.eqvAll (bS ns) (bS ms))=decide (n :: ns=m :: ms)
  rw [Dl ns ms]
  by_cases h:n=m
  ·subst h;simp
  ·simp [h]
end
end L2
namespace L2
open PySem PySem.Spec PyProof.Rows
structure Def (K:Zfr) (mg:Str->Option Value) (x:Str) (st:Stmt) (ps:List Str) (f:Addr) (fd:FuncData):Prop where
 F:Di K x x st f fd
 be:∀ us:List Value,us.length=ps.length->bindArgs fd ⟨us,[]⟩=pure (ps.zip us)
 m:mg x=some (.ref f)
theorem Def.b {K:Zfr} {mg:Str->Option Value} {x:Str} {st:Stmt} {ps:List Str} {f:Addr} {fd:FuncData} (D:Def K mg x st ps f fd):Binds K fd ps []:=.all D.be
theorem gE {K:Zfr} {h:Heap} {mg:Str->Option Value} (X:K.In h) (G:h.Ns mainGlobals mg) {x:Str} {st:Stmt} {ps:List Str} {f:Addr} {oc:Value} {od an:Option Addr} {osl:Array (Option Value)} {kV doc pm cdv ct:Value}
  (hb:∀ (kV doc pm:Value) (an:Option Addr) (cdv ct:Value) (us:List Value),us.length=ps.length->bindArgs (PySem.W.fnOf x x (d4 st) (cP st) (au st) .none kV doc pm an cdv ct) ⟨us,[]⟩=pure (ps.zip us))
  (a:PySem.W.nsIn K mainGlobals x=some (some (.ref f))) (l:K.lookup f=some ⟨oc,od,.func (PySem.W.fnOf x x (d4 st) (cP st) (au st) .none kV doc pm an cdv ct),osl⟩)
  (c:PySem.W.codeIn K cdv x=true) (k:PySem.W.keepIn K (.ref f)=true):∃ f fd,Def K mg x st ps f fd :=
 ⟨f,_,vI l c k,hb kV doc pm an cdv ct,PySem.W.mg_of X G a⟩
theorem Def.su {K:Zfr} {mg:Str->Option Value} {x p:Str} {st:Stmt} {f:Addr} {fd:FuncData} (D:Def K mg x st [p] f fd) (s:Shared) (u:Value):BindsTo s fd ⟨[u],[]⟩ [(p,u)]:=.of_eq (D.be [u] rfl)
theorem rH {K:Zfr} {h:Heap} {mg:Str->Option Value} (X:K.In h) (G:h.Ns mainGlobals mg) {x:Str} (z:PySem.W.nsIn K mainGlobals x=some none):mg x=none:=PySem.W.mg_none_of X G z
theorem yo {n j:Nat} (h:j < n):lF n (j:Int)=some j:=by
 unfold lF
 rw [if_pos (by omega),if_pos (by omega)]
 simp
theorem vL {α:Type} {xs:List α} {i:Int} (h0:0<=i) (h1:i < xs.length):∃ v,c5 xs i=some v/\v∈xs:=by
 have hi:i.toNat < xs.length:=by omega
 refine ⟨xs[i.toNat],?_,VC hi⟩
 have:=yj (xs:=xs) (j:=i.toNat) (v:=xs[i.toNat]) (by simp [hi])
 rwa [Um h0] at this
theorem dT {c:Prop} [Decidable c] (h:decide c=true):c:=of_decide_eq_true h
section
variable {prog:Program} {w:World} {A:Around} {E:Value->Shared->Prop} {s:Shared}
end
section
variable {X:Cx} {e:Expr} {te:TE} {pos p0 p1 p2:Pos} {j:Nat}
end
section
variable {K:Zfr} {f:Addr} {H0:Hp} {σ:St} {i:Nat} {t u ta tb:TE} {R R':V->Hp->Prop} {P P' P2:Int->Prop} {L M:Nat}
end
theorem zW:∀ (names:List (Str×NameKind)) (n:Nat) (acc:List (Str×Addr)),cellsFrom n names acc=cellsFrom n names [] ++ acc
 | [],_,_=>rfl
 | (x,k) :: r,n,acc=>by
  show (if k == .cell then cellsFrom (n + 1) r ((x,n) :: acc) else cellsFrom n r acc)=(if k == .cell then cellsFrom (n + 1) r [(x,n)] else cellsFrom n r []) ++ acc
  by_cases hk:(k == NameKind.cell)=true
  ·rw [if_pos hk,if_pos hk,zW r (n + 1) ((x,n) :: acc),zW r (n + 1) [(x,n)],Vi];rfl
  ·rw [if_neg hk,if_neg hk];exact zW r n acc
theorem F0 {x:Str} {c:Addr}:∀ (names:List (Str×NameKind)) (n:Nat),(x,c)∈cellsFrom n names []->(x,NameKind.cell)∈names/\n<=c
 | [],_,h=>nomatch h
 | (y,k) :: r,n,h=>by
  have h':(x,c)∈(if k == .cell then cellsFrom (n + 1) r [(y,n)] else cellsFrom n r []):=h
  by_cases hk:(k == NameKind.cell)=true
  ·rw [if_pos hk,zW] at h'
   rcases Uk.mp h' with h' | h'
   ·obtain ⟨h1,h2⟩:=F0 r (n + 1) h'
    exact ⟨TY _ h1,by omega⟩
   ·have e:(x,c)=(y,n):=by simpa using h'
    cases e
    have e2:k=NameKind.cell:=by simpa using hk
    subst e2
    exact ⟨TU,TM _⟩
  ·rw [if_neg hk] at h'
   obtain ⟨h1,h2⟩:=F0 r n h'
   exact ⟨TY _ h1,h2⟩
theorem F3 {env:Env} (f:Str×NameKind->List (Str×Addr)->Sem (ForInStep (List (Str×Addr))))
  (hf:∀ name kind cs,f (name,kind) cs=if kind == .free then (do let c <- cellOf env name;pure (.yield ((name,c) :: cs))) else pure (.yield cs)) :
  ∀ (names:List (Str×NameKind)) (acc:List (Str×Addr)),(∀ y∈names,y.2=NameKind.free->∃ c,env.cells.lookup y.1=some c) ->
   ∃ cl,(forIn names acc f:Sem (List (Str×Addr)))=pure cl/\(∀ n c,(n,c)∈cl->(n,c)∈acc\/(env.cells.lookup n=some c/\(n,NameKind.free)∈names))/\(∀ p∈acc,p∈cl)/\∀ n,(n,NameKind.free)∈names->∃ c,(n,c)∈cl
 | [],acc,_=>⟨acc,by rw [List.forIn_nil],fun n c h=>.inl h,fun p h=>h,fun n h=>nomatch h⟩
 | (x,k) :: r,acc,h=>by
  have hr:∀ y∈r,y.2=NameKind.free->∃ c,env.cells.lookup y.1=some c:=fun y hy=>h y (TY _ hy)
  by_cases hk:k=NameKind.free
  ·subst hk
   obtain ⟨c,hc⟩:=h (x,.free) TU rfl
   have e:cellOf env x=pure c:=by unfold cellOf;rw [hc]
   obtain ⟨cl,e1,h1,h2,h3⟩:=F3 f hf r ((x,c) :: acc) hr
   refine ⟨cl,?_,fun n d hd=>?_,fun p hp=>h2 p (TY _ hp),fun n hn=>?_⟩
   ·rw [List.forIn_cons,hf,if_pos (by rfl),e]
    exact e1
   ·rcases h1 n d hd with q | ⟨q,q'⟩
    ·rcases Up.mp q with q | q
     ·cases q;exact .inr ⟨hc,TU⟩
     ·exact .inl q
    ·exact .inr ⟨q,TY _ q'⟩
   ·rcases Up.mp hn with q | q
    ·cases q;exact ⟨c,h2 _ TU⟩
    ·exact h3 n q
  ·obtain ⟨cl,e1,h1,h2,h3⟩:=F3 f hf r acc hr
   have hb:¬ ((k == NameKind.free)=true):=by simpa using hk
   refine ⟨cl,?_,fun n d hd=>?_,h2,fun n hn=>?_⟩
   ·rw [List.forIn_cons,hf,if_neg hb]
    exact e1
   ·rcases h1 n d hd with q | ⟨q,q'⟩
    ·exact .inl q
    ·exact .inr ⟨q,TY _ q'⟩
   ·rcases Up.mp hn with q | q
    ·cases q;exact absurd rfl hk
    ·exact h3 n q
theorem Jk {scope:Scope} {env:Env} (h:∀ y∈scope.names,y.2=NameKind.free->∃ c,env.cells.lookup y.1=some c) :
  ∃ cl,closureFor scope env=pure cl/\(∀ n c,(n,c)∈cl->env.cells.lookup n=some c/\(n,NameKind.free)∈scope.names)/\∀ n,(n,NameKind.free)∈scope.names->∃ c,(n,c)∈cl:=by
 have key:∀ (f:Str×NameKind->List (Str×Addr)->Sem (ForInStep (List (Str×Addr)))),(∀ name kind cs,f (name,kind) cs=if kind == .free then (do let c <- cellOf env name;pure (.yield ((name,c) :: cs))) else pure (.yield cs)) ->
   ∃ cl,((forIn scope.names [] f:Sem (List (Str×Addr))) >>= fun r=>pure r)=pure cl/\(∀ n c,(n,c)∈cl->env.cells.lookup n=some c/\(n,NameKind.free)∈scope.names)/\∀ n,(n,NameKind.free)∈scope.names->∃ c,(n,c)∈cl:=fun f hf=>by
  obtain ⟨cl,e,h1,_,h3⟩:=F3 f hf scope.names [] h
  refine ⟨cl,?_,fun n c hc=>(h1 n c hc).elim (fun z=>nomatch z) id,h3⟩
  rw [e]
  rfl
 simp only [closureFor]
 exact key _ fun name kind cs=>by cases hk:kind == NameKind.free <;> simp [hk]
theorem ltN {a b:Addr} (h:a < b):@LT.lt Nat _ a b:=h
theorem vd {a b:Addr} (h:@LT.lt Nat _ a b):a≠b:=UA h
theorem Jl {a b:Addr} (h:@LT.lt Nat _ b a):a≠b:=Nat.ne_of_gt h
theorem Ng {M:Model} {A:Around} {E:Value->Shared->Prop} {s:Shared} {scope:Scope} {g:Addr} {cl:List (Str×Addr)} {q:Str} {env:Env} {Q:Env->Shared->Prop}
  (h:∀ h',h'.Ns s.heap.objs.size (fun _=>none)->(∀ b o,s.heap.get? b=some o->h'.get? b=some o)->CellsOk h' (s.heap.objs.size + 1) (cellsFrom (s.heap.objs.size + 1) scope.names []) ->
   Q { scope:=scope,locals:=s.heap.objs.size,globals:=g,cells:=cellsFrom (s.heap.objs.size + 1) scope.names cl,qual:=q,func:=none,code:=env.code,frame:=env.frame,builtins:=env.builtins } { s with heap:=h' }) :
  wpAny M A (newFunctionEnv scope g cl [] q none .none (some env)) Q E s:=by
 simp only [newFunctionEnv,Option.isSome_some,if_true]
 refine wpAny_bind (wpAny_alloc ?_)
 refine wpAny_bind (wpAny_layCells _ (fun name kind cells=>by cases hkc:kind == NameKind.cell <;> simp [hkc]) _ _ _ _ ?_)
 have ok:=cellsFrom_ok scope.names (s.heap.push { cls:=.type "dict",data:=.dict #[] }) (s.heap.objs.size + 1) [] ⟨fun _ _ hm=>(nomatch hm),List.Pairwise.nil⟩ (by rw [Vc];exact TM _)
 rw [Vc] at ok
 rw [show ({ s with heap:=s.heap.push { cls:=.type "dict",data:=.dict #[] } }:Shared).heap.objs.size=s.heap.objs.size + 1 from Vc ..]
 refine wpAny_bind ?_
 rw [List.forIn_nil]
 refine wpAny_pure (wpAny_pure ?_)
 exact h _ ((Heap.Ns.new s.heap (.type "dict")).keeps (pushCells_keeps _ _)) (fun b o e=>pushCells_keeps _ _ b o (T8 _ e)) ok
def aP (X:Cx) (N:List Str) (scope:Scope) (cells:List (Str×Addr)) (C:Addr) (fp:List Addr) (s:Shared) (H:Hp):Cx where
 prog:=X.prog
 w:=X.w
 K:=X.K
 mg:=X.mg
 base:=X.base
 A:=X.A
 N:=N
 s₀:=s
 H₀:=H
 env:=compEnvC scope cells C X.env
 outer:=X.stack
 stack:=X.stack
 ex:=fp
 fn:=fun x=>decide (scope.names.lookup x=some .cell)
 calm:=X.calm
 pn:=[]
 xe:=fun _ _=>False
def qw (scope sc:Scope):Scope :=
 { scope with names:=scope.names.map fun (n,k)=>if (k == .free && sc.kind == .function && sc.names.lookup n == some .cell) then (n,.cell) else (n,k) }
structure qx (sc scope:Scope) (own fr:List Str):Prop where
 kind:scope.kind=.function
 nd:(own ++ fr).Nodup
 yp:(scope.names.map (·.1)).Nodup
 free:∀ y∈scope.names,y.2=.free->sc.names.lookup y.1=some .cell\/sc.names.lookup y.1=some .free
 F4:∀ x∈fr,scope.names.lookup x=some .free
structure eO (X:Cx) (scope:Scope) (own fr:List Str) (js:List Nat):Prop where
 c:qx X.env.scope scope own fr
 ix:js.map (fun j=>X.N[j]?)=fr.map some
theorem eO.kind {X:Cx} {scope:Scope} {own fr:List Str} {js:List Nat} (S:eO X scope own fr js):scope.kind=.function:=S.c.kind
theorem eO.yp {X:Cx} {scope:Scope} {own fr:List Str} {js:List Nat} (S:eO X scope own fr js):(scope.names.map (·.1)).Nodup:=S.c.yp
theorem eO.F4 {X:Cx} {scope:Scope} {own fr:List Str} {js:List Nat} (S:eO X scope own fr js):∀ x∈fr,scope.names.lookup x=some .free:=S.c.F4
theorem eO.free {X:Cx} {scope:Scope} {own fr:List Str} {js:List Nat} (S:eO X scope own fr js):∀ y∈scope.names,y.2=.free->X.env.kindOf y.1=some .cell\/X.env.kindOf y.1=some .free:=S.c.free
theorem zX {α:Type}:∀ {l:List (Str×α)} {n:Str} {c:α},(l.map (·.1)).Nodup->(n,c)∈l->l.lookup n=some c
 | (k,v) :: r,n,c,nd,h=>by
  obtain ⟨h1,h2⟩:=UZ.mp nd
  rw [U2]
  rcases Up.mp h with e | h
  ·cases e;simp
  ·have:(n == k)=false:=beq_eq_false_iff_ne.mpr fun e=>h1 (by rw [<- e];exact Ub.mpr ⟨(n,c),h,rfl⟩)
   rw [this]
   exact zX h2 h
theorem Jm (scope:Scope) (env:Env) (x:Str):(relabel scope env).names.lookup x=none/\scope.names.lookup x=none \/
  ∃ k,scope.names.lookup x=some k/\(relabel scope env).names.lookup x=some (if (k == .free && env.scope.kind == .function && env.kindOf x == some .cell) then .cell else k):=by
 have key:∀ names:List (Str×NameKind),(names.map fun (n,k)=>if (k == NameKind.free && env.scope.kind == .function && env.kindOf n == some .cell) then (n,NameKind.cell) else (n,k)).lookup x=none/\names.lookup x=none \/
   ∃ k,names.lookup x=some k/\(names.map fun (n,k)=>if (k == NameKind.free && env.scope.kind == .function && env.kindOf n == some .cell) then (n,NameKind.cell) else (n,k)).lookup x=some (if (k == .free && env.scope.kind == .function && env.kindOf x == some .cell) then .cell else k):=by
  intro names
  induction names with
  | nil=>exact .inl ⟨rfl,rfl⟩
  | cons p r ih =>
   obtain ⟨n,k⟩:=p
   rw [Ui]
   cases hx:x == n with
   | true =>
    have e:x=n:=by simpa using hx
    subst e
    refine .inr ⟨k,by simp [U2],?_⟩
    by_cases hc:(k == NameKind.free && env.scope.kind == .function && env.kindOf x == some .cell)=true
    ·simp only [if_pos hc];simp [U2]
    ·simp only [if_neg hc];simp [U2]
   | false =>
    have e1:∀ q:NameKind,(((n,q) :: (r.map fun (n,k)=>if (k == NameKind.free && env.scope.kind == .function && env.kindOf n == some .cell) then (n,NameKind.cell) else (n,k))).lookup x)=((r.map fun (n,k)=>if (k == NameKind.free && env.scope.kind == .function && env.kindOf n == some .cell) then (n,NameKind.cell) else (n,k)).lookup x):=fun q=>by rw [U2,hx]
    have e2:((n,k) :: r).lookup x=r.lookup x:=by rw [U2,hx]
    rw [e2]
    by_cases hc:(k == NameKind.free && env.scope.kind == .function && env.kindOf n == some .cell)=true
    ·simp only [if_pos hc];rw [e1];exact ih
    ·simp only [if_neg hc];rw [e1];exact ih
 exact key scope.names
def ja (n:Nat) (js:List Nat) (σ:St):St:=List.replicate n none ++ js.map fun j=>σ.getD j none
theorem Inv.zY {X:Cx} {pins:List (Addr×Obj)} {σ:St} {H:Hp} {s:Shared} {a:Addr} {o:HO} (I:Inv X pins σ H s) (f:lb X pins H a) (new:cm X.prog X.w (upd H a o) s.heap a o):Inv X pins σ (upd H a o) s:=by
 obtain ⟨f0,f1,f2,f3,f4,f5⟩:=f
 have ne:∀ b u,H b=some u->b≠a:=fun b u e z=>by rw [z,f0] at e;cases e
 refine I.step (h':=s.heap) (H':=upd H a o) (g':=s.gens) (d':=s.drawn) (t':=s.toks) (ch:=[a]) (fun b hb=>?_) (fun b u _ _ _ e _=>e) (fun b u _ _ _ e _=>⟨u.slots,e⟩) (fun b u hb e n=>?_) (fun b u _ e=>⟨u,e⟩)
  (fun b xs e=>by rw [jE (ne b _ e)];exact e) (fun b u xs e=>by rw [jE (ne b _ e)];exact e) (fun b ps e=>⟨#[],by rw [jE (ne b _ e),e];simp⟩) (fun m hm=>hm) (fun b u e=>?_) I.bare
 ·have e:b=a:=by simpa using hb
  subst e
  exact ⟨f3,f1,f4,f5⟩
 ·rw [jE (fun z=>hb (by simp [z]))];exact n
 ·by_cases hb:b=a
  ·subst hb;rw [p7] at e;cases e;exact new
  ·rw [jE hb] at e
   exact (I.hok b u e).stay (fun c v _ q=>q) (fun c q=>by rw [jE (ne c _ q)];exact q) fun c xs q=>by rw [jE (ne c _ q)];exact q
def PF (X:Cx) (ifs:List Expr) (t:TT):Prop :=
 ∀ (pins:List (Addr×Obj)) (s:Shared) (σ:St) (H:Hp) (Q:Bool->Hp->Prop),Inv X pins σ H s->t σ H Q ->
  wpAny (model X.prog X.w) X.A (forIn ifs true fun c r=>if r=true then do let ok <- isTrue c X.env (eval c X.env);pure (ForInStep.yield ok) else pure (ForInStep.yield r)) (TP X pins σ Q) X.xe s
theorem qy {X:Cx}:PF X [] (fun _ H Q=>Q true H):=fun _ _ _ H _ I h=>wpAny_tests_nil ⟨H,I,h⟩
theorem Jn {X:Cx} {c:Expr} {t:TT} (h:PT X c t):PF X [c] t:=fun pins s σ H Q I hw=>wpAny_tests_one (h pins s σ H Q I hw)
theorem Nh {prog:Program} {w:World} {A:Around} {R:Result->Shared->Prop} {s:Shared} {elt target iter:Expr} {ifs:List Expr} {scope:Scope} {pos:Pos} {it acc:Value} {env:Env} (I:Nat->Shared->Prop)
  (turn:∀ n s,I n s->wpAny (model prog w) A (pyNext it) (fun r s₁=>match r with
   | none=>R (.ok .next) s₁
   | some v=>wpAny (model prog w) A (letOwnedTupleGo target it v) (fun _ s₁'=>wpAny (model prog w) A (assign target env v) (fun _ s₂ =>
     wpAny (model prog w) A (forIn ifs true fun c r=>if r=true then do let ok <- isTrue c env (eval c env);pure (ForInStep.yield ok) else pure (ForInStep.yield r)) (fun ok s₃ =>
      if ok=true then wpAny (model prog w) A (eval elt env) (fun x s₄ =>
       wpAny (model prog w) A (call (.builtin "list.append") [acc,x]) (fun _ s₅=>∃ m,m < n/\I m s₅) (fun _ _=>False) s₄) (fun _ _=>False) s₃
      else ∃ m,m < n/\I m s₃) (fun _ _=>False) s₂) (fun _ _=>False) s₁') (fun _ _=>False) s₁) (fun _ _=>False) s)
  (n:Nat) (h:I n s) :
  codeAny (model prog w) A (.compLoop (.ListComp elt [⟨target,iter,ifs,0⟩] scope pos) 0 it acc env) R s:=by
 refine codeAny_loop rfl I (fun n s hI=>?_) n h
 show wpAny _ A ((compTurn (.ListComp elt [⟨target,iter,ifs,0⟩] scope pos) 0 it acc env).onRaise (fun x=>do noteFrame x env;theTreesLotGoes x)) _ _ s
 refine wpAny_noted ?_
 rw [compTurn_list]
 refine wpAny_bind (wpAny_standAt (wpAny_bind (wpAny_mono (turn n s hI) (fun r s₁ h₁=>?_) fun _ _ h'=>h'.elim)))
 cases r with
 | none=>exact wpAny_pure h₁
 | some v =>
  refine wpAny_bind (wpAny_mono h₁ (fun _ s₁' h₁'=>?_) fun _ _ h'=>h'.elim)
  refine wpAny_bind (wpAny_mono h₁' (fun _ s₂ h₂=>wpAny_bind (wpAny_mono h₂ (fun ok s₃ h₃=>?_) fun _ _ h'=>h'.elim)) fun _ _ h'=>h'.elim)
  cases ok with
  | false=>exact wpAny_pure ⟨rfl,h₃⟩
  | true =>
   exact wpAny_bind (wpAny_bind (wpAny_mono h₃ (fun x s₄ h₄=>wpAny_bind (wpAny_mono h₄ (fun _ s₅ h₅=>wpAny_pure (wpAny_pure ⟨rfl,h₅⟩)) fun _ _ h'=>h'.elim)) fun _ _ h'=>h'.elim))
def vM (J:It) (n:Nat) (js:List Nat) (g:TG) (tc:TT) (te:TE) (σ:St) (H1:Hp) (Q:VK):Prop :=
 ∃ W:Nat->Nat->List V->St->Hp->Prop,(∃ m,W 0 m [] (ja n js σ) H1)/\∀ i m ys σ' H',W i m ys σ' H' ->
  ys.length < sizeLine/\((J.stop i H'/\∀ p,H' p=none->Q (.ref p) (upd H' p (.lst ys))) \/
   (J.go i H'/\∀ x H2,J.sa i H' x H2->g x σ' H2 fun σ2 H3=>tc σ2 H3 fun b H4=>if b=true then te σ2 H4 fun y H5=>∃ m',m' < m/\W (i + 1) m' (ys ++ [y]) σ2 H5 else ∃ m',m' < m/\W (i + 1) m' ys σ2 H4))
def qz (wi:TI) (n:Nat) (js:List Nat) (g:TG) (tc:TT) (te:TE):TE:=fun σ H Q=>wi σ H fun J H1=>vM J n js g tc te σ H1 Q
section
variable {X:Cx} {pins:List (Addr×Obj)} {σ:St} {tg iter elt:Expr} {ifs:List Expr} {scope:Scope} {pos:Pos} {own fr:List Str} {js:List Nat} {g:TG} {tc:TT} {te:TE} {wi:TI}
theorem Jo {H2:Hp} {s2:Shared} {it:Addr} {fp:List Addr} {tn:Nat->Heap->Prop} {J:It} {Q:VK} {E:Value->Shared->Prop} {cl:List (Str×Addr)} {RR:Value->Addr->Result->Shared->Prop}
  (hc:X.calm=true) (S:eO X scope own fr js) (hg:∀ cells C fp s H,PG (aP X (own ++ fr) scope cells C fp s H) tg g) (hf:∀ cells C fp s H,PF (aP X (own ++ fr) scope cells C fp s H) ifs tc) (he:∀ cells C fp s H,PE (aP X (own ++ fr) scope cells C fp s H) elt te)
  (I2:Inv X pins σ H2 s2) (T:Turn X.prog X.w X.K tg J fp it tn) (st2:tn 0 s2.heap) (f2:∀ b∈fp,lb X pins H2 b)
  (o3:∀ n c,(n,c)∈cl->X.env.cells.lookup n=some c/\(n,NameKind.free)∈scope.names) (qA:∀ n,(n,NameKind.free)∈scope.names->∃ c,(n,c)∈cl)
  (W:Nat->Nat->List V->St->Hp->Prop) (m0:Nat) (w0:W 0 m0 [] (ja own.length js σ) H2)
  (turn:∀ i m ys σ' H',W i m ys σ' H'->ys.length < sizeLine/\((J.stop i H'/\∀ p,H' p=none->Q (.ref p) (upd H' p (.lst ys))) \/
   (J.go i H'/\∀ x H2,J.sa i H' x H2->g x σ' H2 fun σ2 H3=>tc σ2 H3 fun b H4=>if b=true then te σ2 H4 fun y H5=>∃ m',m' < m/\W (i + 1) m' (ys ++ [y]) σ2 H5 else ∃ m',m' < m/\W (i + 1) m' ys σ2 H4)))
  (fin:∀ (acc C:Addr) (H':Hp) (s':Shared) (v:V),v=.ref acc->Inv X pins σ H' s'->lb X pins H' C->(∃ m,s'.heap.Ns C m)->Q v H'->RR (.ref acc) C (.ok .next) s') :
  wpAny (model X.prog X.w) X.A (newList []) (fun acc s3=>wpAny (model X.prog X.w) X.A (newFunctionEnv scope X.env.globals cl [] X.env.qual none .none (some X.env)) (fun cenv s4 =>
   codeAny (model X.prog X.w) X.A (.compStart (.ListComp elt [⟨tg,iter,ifs,0⟩] scope pos) 0 (.ref it) acc { cenv with scope:=relabel scope X.env }) (RR acc cenv.locals) s4) E s3) E s2:=by
 refine wpAny_newObj_type ?_
 refine Ng fun h4 hns Jp nD=>?_
 have hA:s2.heap.objs.size < (s2.heap.push { cls:=.type "list",data:=.seq ([]:List Value).toArray }).objs.size:=by rw [Vc];exact US _
 generalize hC:(s2.heap.push { cls:=.type "list",data:=.seq ([]:List Value).toArray }).objs.size=C at hns nD hA ⊢
 generalize hac:s2.heap.objs.size=acc at hA ⊢
 have F5:acc≠C:=UA hA
 have old:∀ b o,s2.heap.get? b=some o->h4.get? b=some o:=fun b o e=>Jp b o (T8 _ e)
 have hacc:h4.get? acc=some { cls:=.type "list",data:=.seq ([]:List Value).toArray }:=Jp _ _ (by rw [<- hac];exact Ug _ rfl)
 have F6:∀ x c,(x,c)∈cellsFrom (C + 1) scope.names []->h4.IsCell c none/\C + 1<=c/\scope.names.lookup x=some .cell:=fun x c h=>⟨(nD.empty x c h).1,(nD.empty x c h).2,zX S.yp (F0 _ _ h).1⟩
 have lk:∀ x c,(cellsFrom (C + 1) scope.names cl).lookup x=some c->(h4.IsCell c none/\C + 1<=c/\(x,c)∈cellsFrom (C + 1) scope.names [])\/(X.env.cells.lookup x=some c/\scope.names.lookup x=some .free):=fun x c h=>by
  rw [zW] at h
  rcases Uk.mp (PySem.mem_of_lookup h) with q | q
  ·exact .inl ⟨(F6 x c q).1,(F6 x c q).2.1,q⟩
  ·exact .inr ⟨(o3 x c q).1,zX S.yp (o3 x c q).2⟩
 have F7:∀ x c,X.env.cells.lookup x=some c->c < s2.heap.objs.size:=fun x c h=>by
  obtain ⟨v,z⟩:=I2.cell x c h
  exact z.lt
 have pA:∀ x c,(cellsFrom (C + 1) scope.names cl).lookup x=some c->c≠C/\c≠acc/\H2 c=none/\∀ b∈fp,c≠b:=fun x c h=>by
  rcases lk x c h with ⟨_,h1,_⟩ | ⟨h1,_⟩
  ·refine ⟨Jl (by omega),Jl (by omega),I2.hok.fresh (by omega),fun b hb z=>?_⟩
   obtain ⟨o,e,_⟩:=T.obj 0 _ st2 b hb
   have:=ltN (Ue e)
   rw [<- z] at this
   omega
  ·have:=ltN (F7 x c h1)
   exact ⟨vd (by omega),vd (by omega),I2.jZ x c h1,fun b hb=>(f2 b hb).2.2.2.2.1 x c h1⟩
 have zZ:∀ x,scope.names.lookup x=some .free->∃ c,X.env.cells.lookup x=some c/\(cellsFrom (C + 1) scope.names cl).lookup x=some c:=fun x h=>by
  obtain ⟨c,Jq⟩:=qA x (PySem.mem_of_lookup h)
  have hc1:=(o3 x c Jq).1
  have hs:((cellsFrom (C + 1) scope.names cl).lookup x).isSome=true:=by
   refine PySem.W.cellsFrom_some scope.names (C + 1) cl (.inr ?_)
   cases q:cl.lookup x with
   | some d=>rfl
   | none =>
    exfalso
    have:∀ {l:List (Str×Addr)},(x,c)∈l->l.lookup x≠none:=by
     intro l
     induction l with
     | nil=>intro h;exact nomatch h
     | cons p r ih =>
      intro h z
      obtain ⟨k,v⟩:=p
      rw [U2] at z
      cases hb:x == k with
      | true=>rw [hb] at z;cases z
      | false =>
       rw [hb] at z
       rcases Up.mp h with e | h
       ·cases e;simp at hb
       ·exact ih h z
    exact this Jq q
  obtain ⟨d,hd⟩:=Vd.mp hs
  rcases lk x d hd with ⟨_,_,h2⟩ | ⟨h1,_⟩
  ·have:=(F6 x d h2).2.2
   rw [h] at this;cases this
  ·rw [hc1] at h1;cases h1
   exact ⟨c,hc1,hd⟩
 have Dn:∀ b∈fp,b≠C/\b≠acc:=fun b hb=>by
  obtain ⟨o,e,_⟩:=T.obj 0 _ st2 b hb
  have:=ltN (Ue e)
  exact ⟨vd (by omega),vd (by omega)⟩
 have Ni:(relabel scope X.env).kind=.function:=S.kind
 have ok:(aP X (own ++ fr) scope (cellsFrom (C + 1) scope.names cl) C fp s2 H2).Ok:=by
  refine ⟨I2.ok.mod,Ni,I2.ok.glob,I2.ok.blt,?_,fun x y c h1 h2=>?_,fun x hx=>?_,fun x c hx h=>?_,I2.ok.hd,I2.ok.frames,.inl rfl,fun b hb=>⟨(Dn b hb).1,fun x c h=>(pA x c h).2.2.2 b hb⟩,I2.bs,Uh I2.ok.tw I2.sz,fun b o e hb=>?_,fun b hb z=>?_,I2.stack,I2.pd⟩
  ·show s2.heap.objs.size<=C
   omega
  ·rcases lk x c h1 with ⟨_,q1,q2⟩ | ⟨q1,_⟩
   ·rcases lk y c h2 with ⟨_,r1,r2⟩ | ⟨r1,_⟩
    ·exact name_of_addr nD.apart q2 r2
    ·have:=ltN (F7 y c r1);omega
   ·rcases lk y c h2 with ⟨_,r1,r2⟩ | ⟨r1,_⟩
    ·have:=ltN (F7 x c q1);omega
    ·exact I2.ok.inj x y c q1 r1
  ·have hx':(relabel scope X.env).names.lookup x=some .cell\/(relabel scope X.env).names.lookup x=some .free:=hx
   rcases Jm scope X.env x with ⟨e,_⟩ | ⟨k,e1,e2⟩
   ·rcases hx' with z | z <;> (rw [e] at z;cases z)
   ·by_cases hk:k=.free
    ·subst hk
     obtain ⟨c,_,h⟩:=zZ x e1
     exact ⟨c,h⟩
    ·have hk':k=.cell:=by
      have hb:(k == NameKind.free)=false:=beq_eq_false_iff_ne.mpr hk
      rw [hb] at e2
      simp only [Bool.false_and,UK,if_false] at e2
      rcases hx' with z | z
      ·rw [e2] at z;exact T5 z
      ·rw [e2] at z;exact absurd (T5 z) hk
     subst hk'
     exact Vd.mp (PySem.W.cellsFrom_some scope.names (C + 1) cl (.inl e1))
  ·have hx':scope.names.lookup x=some .cell:=of_decide_eq_true hx
   show s2.heap.objs.size<=c
   rcases lk x c h with ⟨_,q,_⟩ | ⟨_,q⟩
   ·omega
   ·rw [hx'] at q;cases q
  ·rcases (f2 b hb).2.2.2.1 with z | z
   ·exact I2.ok.qg b o e z
   ·have h1:@LT.lt Nat _ b X.base.objs.size:=Ue e
    have h2:=I2.ok.tw
    omega
  ·rcases Up.mp (I2.mj b z) with e | e
   ·exact (f2 b hb).2.1 e
   ·exact (f2 b hb).2.2.1 e
 have I4:Inv (aP X (own ++ fr) scope (cellsFrom (C + 1) scope.names cl) C fp s2 H2) [(acc,{ cls:=.type "list",data:=.seq ([]:List Value).toArray })] (ja own.length js σ) H2 { s2 with heap:=h4 }:=by
  refine ⟨ok,rfl,I2.bare,Un.kept old,⟨_,hns,fun i x v e1 e2 e3=>?_⟩,fun x c h=>?_,I2.hok.fresh (by show s2.heap.objs.size<=C;omega),fun x c h=>(pA x c h).2.2.1,fun p hp=>?_,I2.hok.kept old,?_⟩
  ·have yq:(own ++ fr)[i]?=some x:=e1
   unfold ja at e2
   by_cases hi:i < own.length
   ·rw [T1 (by simpa using hi),Vg] at e2
    split at e2 <;> cases e2
   ·rw [Uc (by simpa using hi),Vl,TR] at e2
    rw [Uc (by omega)] at yq
    cases hj:js[i - own.length]? with
    | none=>rw [hj] at e2;cases e2
    | some j =>
     rw [hj] at e2
     have Aa:σ.getD j none=some v:=T5 e2
     have hN:X.N[j]?=some x:=by
      have q:=congrArg (fun l=>l[i - own.length]?) S.ix
      simp only [TR,hj,yq,Option.map_some] at q
      exact T5 q
     have hσ:σ[j]?=some (some v):=by
      rw [T9] at Aa
      cases q:σ[j]? with
      | none=>rw [q] at Aa;cases Aa
      | some o=>rw [q] at Aa;exact congrArg some Aa
     have hfr:scope.names.lookup x=some .free:=S.F4 x (T2 yq)
     have hk:=S.free _ (PySem.mem_of_lookup hfr) rfl
     obtain ⟨m,_,hl⟩:=I2.loc
     obtain ⟨u,ru,lo⟩:=hl j x v hN hσ (by rcases hk with k | k;exact .inr (.inl k);exact .inr (.inr k))
     refine ⟨u,ru,.inr ⟨?_,?_⟩⟩
     ·rcases Jm scope X.env x with ⟨_,e⟩ | ⟨k,q1,q2⟩
      ·rw [hfr] at e;cases e
      ·rw [hfr] at q1;cases q1
       have Nj:(compEnvC scope (cellsFrom (C + 1) scope.names cl) C X.env).kindOf x=some (if (NameKind.free == .free && X.env.scope.kind == .function && X.env.kindOf x == some .cell)=true then .cell else .free):=q2
       rw [show (aP X (own ++ fr) scope (cellsFrom (C + 1) scope.names cl) C fp s2 H2).env.kindOf x=_ from Nj]
       split
       ·exact .inl rfl
       ·exact .inr rfl
     ·rcases lo with ⟨k,_⟩ | ⟨_,c,hc1,hc2⟩
      ·rcases hk with k' | k' <;> (rw [k] at k';cases k')
      ·obtain ⟨d,hd1,hd2⟩:=zZ x hfr
       rw [hc1] at hd1;cases hd1
       exact ⟨c,hd2,hc2.keeps old⟩
  ·rcases lk x c h with ⟨q,_,_⟩ | ⟨q,_⟩
   ·exact ⟨_,q⟩
   ·obtain ⟨v,z⟩:=I2.cell x c q
    exact ⟨v,z.keeps old⟩
  ·have e:p=(acc,{ cls:=.type "list",data:=.seq ([]:List Value).toArray }):=by simpa [aP] using hp
   subst e
   refine ⟨hacc,I2.hok.fresh (by omega),F5,fun z=>?_,fun v z=>nomatch z⟩
   rcases Up.mp (I2.mj acc z) with e | e
   ·have:=ltN I2.lt
    rw [<- e] at this
    omega
   ·exact I2.zc (by omega) e
  ·show (ja own.length js σ).length=(own ++ fr).length
   have q:=congrArg List.length S.ix
   simp only [TJ] at q
   unfold ja
   rw [TN,Vl,TJ,TN,q]
 have F8:∀ {H':Hp} {ob:Obj},(∀ b∈fp,H' b=none)->∀ b∈fp,lb (aP X (own ++ fr) scope (cellsFrom (C + 1) scope.names cl) C fp s2 H2) [(acc,ob)] H' b:=fun {H' ob} hn b hb =>
  ⟨hn b hb,(Dn b hb).1,fun z=>by
   rcases Up.mp (I2.mj b z) with e | e
   ·exact (f2 b hb).2.1 e
   ·exact (f2 b hb).2.2.1 e,.inl hb,fun x c h=>(pA x c h).2.2.2 b hb,fun p hp=>by
   have e:p=(acc,ob):=by simpa [aP] using hp
   subst e
   exact fun z=>(Dn b hb).2 z.symm⟩
 have loop:codeAny (model X.prog X.w) X.A (.compLoop (.ListComp elt [⟨tg,iter,ifs,0⟩] scope pos) 0 (.ref it) (.ref acc) (compEnvC scope (cellsFrom (C + 1) scope.names cl) C X.env)) (RR (.ref acc) C) { s2 with heap:=h4 }:=by
  refine Nh (fun m s'=>∃ (i:Nat) (ys:List V) (its:List Value) (n:Nat) (σ':St) (H':Hp),Inv (aP X (own ++ fr) scope (cellsFrom (C + 1) scope.names cl) C fp s2 H2) [(acc,{ cls:=.type "list",data:=.seq its.toArray n })] σ' H' s'/\Vals ys its/\tn i s'.heap/\(∀ b∈fp,H' b=none)/\W i m ys σ' H') ?_ m0
   ⟨0,[],[],0,_,H2,I4,.nil,T.keep _ _ _ st2 fun b _ o e=>old b o e,fun b hb=>(f2 b hb).1,w0⟩
  rintro n s5 ⟨i,ys,its,en,σ5,H5,I5,rv,mU,C9,w5⟩
  obtain ⟨hz,alt⟩:=turn i n ys σ5 H5 w5
  rcases alt with ⟨stop,qn⟩ | ⟨go,step⟩
  ·refine cy (T.done (aP X (own ++ fr) scope (cellsFrom (C + 1) scope.names cl) C fp s2 H2) rfl rfl rfl hc i _ s5 σ5 H5 _ I5 (F8 C9) mU stop) fun r s6 ⟨hr,I6⟩=>?_
   subst hr
   show RR (.ref acc) C (.ok .next) s6
   have u:Un (frs X.stack) fp H2 H5 s2.heap s6.heap:=I6.base
   have J6:Inv X pins σ H5 s6:=I2.zf I6.os u I6.hok I6.bare fun b hb=>⟨(f2 b hb).2.2.2.1,(f2 b hb).2.1,(f2 b hb).2.2.2.2.1,(f2 b hb).2.2.2.2.2⟩
   have pacc:=I6.pin (acc,_) (Us _ TU)
   have F9:lb X pins H5 acc:=I2.oX (by omega) pacc.2.1
   have fC:lb X pins H5 C:=I2.oX (by omega) I6.free
   have K6:Inv X pins σ (upd H5 acc (.lst ys)) s6:=J6.zY F9 ⟨VT hz,its,en,rv,pacc.1⟩
   obtain ⟨m,hm,_⟩:=I6.loc
   exact fin acc C _ s6 (.ref acc) rfl K6 ⟨by rw [jE F5.symm];exact fC.1,fC.2⟩ ⟨m,hm⟩ (qn acc pacc.2.1)
  ·refine cy (T.item (aP X (own ++ fr) scope (cellsFrom (C + 1) scope.names cl) C fp s2 H2) rfl rfl rfl hc i _ s5 σ5 H5 _ I5 (F8 C9) mU go) fun r s6 ⟨u,hr,h6⟩=>?_
   subst hr
   refine cy h6 fun _ s7 ⟨x,H7,I7,r7,y7,pW,Nk⟩=>?_
   have Nl:=I7.pinned (F8 Nk) (T.obj _ _ pW)
   refine cy (hg _ _ _ _ _ _ s7 σ5 H7 x u _ Nl r7 (step x H7 y7)) fun _ s8 ⟨σ8,H8,I8,q8⟩=>?_
   refine cy (hf _ _ _ _ _ _ s8 σ8 H8 _ I8 q8) fun b s9 ⟨H9,I9,q9⟩=>?_
   have Dp:∀ {s':Shared} {σ':St} {H':Hp},Inv (aP X (own ++ fr) scope (cellsFrom (C + 1) scope.names cl) C fp s2 H2) ([(acc,{ cls:=.type "list",data:=.seq its.toArray en })] ++ ml fp s7.heap) σ' H' s'->tn (i + 1) s'.heap/\∀ b∈fp,H' b=none:=fun {s' σ' H'} I' =>
    ⟨T.keep _ _ _ pW fun b hb o e=>(I'.pin (b,o) (Us _ (Us _ (C8 hb e)))).1,fun b hb=>by
     obtain ⟨o,e,d⟩:=T.obj _ _ pW b hb
     exact (I'.pin (b,o) (Us _ (Us _ (C8 hb e)))).2.1⟩
   cases b with
   | false =>
    obtain ⟨m',hm,w9⟩:=q9
    exact ⟨m',hm,i + 1,ys,its,en,σ8,H9,I9.kG,rv,(Dp I9).1,(Dp I9).2,w9⟩
   | true =>
    refine cy (he _ _ _ _ _ _ s9 σ8 H9 _ I9 q9) fun y Ga ⟨yv,Gb,Dq,Nm,m',hm,Nn⟩=>?_
    have pacc:=Dq.pin (acc,_) (Us _ (U8 _ TU))
    have hlen:=rv.length
    refine wpAny_list_append_plain (items:=its.toArray) ⟨en,pacc.1⟩ (fun h11 ⟨Jr,Gd⟩ Ab=>?_) (by simp only [T7];omega)
    have cA:∀ x c,(cellsFrom (C + 1) scope.names cl).lookup x=some c->c≠acc:=fun x c h=>(pA x c h).2.1
    have Ia:Inv (aP X (own ++ fr) scope (cellsFrom (C + 1) scope.names cl) C fp s2 H2) [] σ8 Gb Ga:=Dq.lS fun p hp=>nomatch hp
    have Ib:Inv (aP X (own ++ fr) scope (cellsFrom (C + 1) scope.names cl) C fp s2 H2) [] σ8 Gb { Ga with heap:=h11 }:=Ia.turned (it:=acc) (t':=Ga.toks) (fun b o hb e=>(Ab.2 b hb).trans e) pacc.2.1 F5 (.inr (by show s2.heap.objs.size<=acc;omega)) cA fun p hp=>nomatch (show p∈([]:List (Addr×Obj)) from by simpa [aP] using hp)
    refine ⟨m',hm,i + 1,ys ++ [yv],its ++ [y],Jr,σ8,Gb,Ib.lS fun p hp=>?_,rv.append (.cons Nm .nil),T.keep _ _ _ (Dp Dq).1 fun b hb o e=>(Ab.2 b (Dn b hb).2).trans e,(Dp Dq).2,Nn⟩
    have e:p=(acc,{ cls:=.type "list",data:=.seq (its ++ [y]).toArray Jr }):=by simpa using hp
    subst e
    exact ⟨by simpa using Gd,pacc.2.1,pacc.2.2.1,pacc.2.2.2.1,fun v z=>nomatch z⟩
 exact codeAny_compStart_list loop (T.self X.A 0 _ _ _ (T.keep _ _ _ st2 fun b _ o e=>old b o e) loop)
theorem qB (hc:X.calm=true) (S:eO X scope own fr js) (hi:PI X tg iter wi) (hg:∀ cells C fp s H,PG (aP X (own ++ fr) scope cells C fp s H) tg g) (hf:∀ cells C fp s H,PF (aP X (own ++ fr) scope cells C fp s H) ifs tc) (he:∀ cells C fp s H,PE (aP X (own ++ fr) scope cells C fp s H) elt te)
  (hs:∀ x,foldedSetIterable iter X.env x=pure x:=by intro _;rfl):PE X (.ListComp elt [⟨tg,iter,ifs,0⟩] scope pos) (qz wi own.length js g tc te):=by
 intro pins s σ H Q I h
 obtain ⟨cl,hcl,o3,qA⟩:=Jk (scope:=scope) (env:=X.env) fun y hy hk=>I.ok.has y.1 (S.free y hy hk)
 rw [eval_ListComp]
 refine wpAny_comprehension_free (use:=none) rfl hs hcl S.kind (fun y hy hk=>by rw [<- hk];exact zX S.yp hy) (cy (hi pins s σ H _ I h) fun v s1 h1=>cy h1 fun itv s2 h2=>?_)
 obtain ⟨it,fp,tn,J,H2,e,I2,T,st2,f2,W,⟨m0,w0⟩,turn⟩:=h2
 subst e
 refine Jo (RR:=fun acc C=>compPost (model X.prog X.w) X.A X.xe none (EP X pins σ Q) acc C) hc S hg hf he I2 T st2 f2 o3 qA W m0 w0 turn ?_
 intro acc C H' s' v hv I' fC ⟨m,hm⟩ q
 subst hv
 obtain ⟨f0,f1,Np,f3,f4,f5⟩:=fC
 exact ⟨m,hm,fun h'' vN=>⟨.ref acc,H',I'.turned (it:=C) (t':=s'.toks) (fun b o hb e=>(vN.2 b hb).trans e) f0 f1 f3 f4 f5,rfl,q⟩⟩
theorem Js {i:Nat} {x:Str} {pos' spos:Pos} (hc:X.calm=true) (hN:X.N.Nodup) (hx:X.N[i]?=some x) (hl:X.env.scope.names.lookup x=some .local) (S:eO X scope own fr js) (hi:PI X tg iter wi) (hg:∀ cells C fp s H,PG (aP X (own ++ fr) scope cells C fp s H) tg g) (hf:∀ cells C fp s H,PF (aP X (own ++ fr) scope cells C fp s H) ifs tc) (he:∀ cells C fp s H,PE (aP X (own ++ fr) scope cells C fp s H) elt te)
  (hsw:swapsWith (.ListComp elt [⟨tg,iter,ifs,0⟩] scope pos) (some (.Name x pos')) spos.line X.env=pure true:=by rfl)
  (hs:∀ x,foldedSetIterable iter X.env x=pure x:=by intro _;rfl):PS X (.Assign [.Name x pos'] (.ListComp elt [⟨tg,iter,ifs,0⟩] scope pos) spos) (r9 (qz wi own.length js g tc te) (om i)):=by
 intro pins s σ H D I h
 obtain ⟨cl,hcl,o3,qA⟩:=Jk (scope:=scope) (env:=X.env) fun y hy hk=>I.ok.has y.1 (S.free y hy hk)
 rw [exec_Assign_Name_used _ _ _ _ hsw]
 refine wpAny_bind (wpAny_standAt (wpAny_bind ?_))
 show wpAny _ X.A (do let _ <- comprehension (.ListComp elt [⟨tg,iter,ifs,0⟩] scope pos) scope X.env _ (newList []) false (eval iter X.env) (some (assign (.Name x pos') X.env))) _ _ s
 refine wpAny_bind (wpAny_mono (wpAny_comprehension_free (use:=some (assign (.Name x pos') X.env)) (Q:=fun _ s'=>SP X pins D .next s') rfl hs hcl S.kind (fun y hy hk=>by rw [<- hk];exact zX S.yp hy)
  (cy (hi pins s σ H _ I h) fun v s1 h1=>cy h1 fun itv s2 h2=>?_)) (fun _ s' hq=>wpAny_pure (wpAny_pure hq)) fun _ _ e=>e)
 obtain ⟨it,fp,tn,J,H2,e,I2,T,st2,f2,W,⟨m0,w0⟩,turn⟩:=h2
 subst e
 refine Jo (Q:=fun v H'=>om i v σ H' D.nx) (RR:=fun acc C=>compPost (model X.prog X.w) X.A X.xe (some (assign (.Name x pos') X.env)) (fun _ s'=>SP X pins D .next s') acc C) hc S hg hf he I2 T st2 f2 o3 qA W m0 w0 turn ?_
 intro acc C H' s' v hv I' fC ⟨m,hm⟩ q
 subst hv
 obtain ⟨f0,f1,Np,f3,f4,f5⟩:=fC
 show wpAny _ X.A (assign (.Name x pos') X.env (.ref acc)) _ _ _
 refine wpAny_assign_Name (HZ I' hN hx (.inl hl) (show RelV (.ref acc) (.ref acc) from rfl) (fun s'' Nq ⟨a,hs1,ha⟩=>?_) (.inr hl))
 have haC:a≠C:=by
  rcases ha with e | e
  ·rw [e];exact f1.symm
  ·exact f4 _ _ e
 exact ⟨m,hm.sameBut hs1 haC.symm,fun h'' vN=>⟨_,H',Nq.turned (it:=C) (t':=s''.toks) (fun b o hb e=>(vN.2 b hb).trans e) f0 f1 f3 f4 f5,q⟩⟩
end
section
variable {X:Cx}
theorem Jt {k:Nat} (hr:eK k X.A):fB X (.builtin "repr") (fun xs H Q=>∃ (x:V) (d:PyData),xs=[x]/\Rep X.K H x d/\d.showable=true/\d.canLay0=true/\d.shown.length<=sizeLine/\d.depth<=60/\Q (.str d.shown) H):=by
 intro pins s σ H xs us Q I r h
 obtain ⟨x,d,rfl,rp,sh,cl,sz,dp,q⟩:=h
 obtain ⟨u,rfl,ru⟩:=vals1 r
 obtain ⟨as,rd⟩:=rp.reads I ru
 have hu:=hr.units
 have big:∀ a,u=.ref a->wpAny (model X.prog X.w) X.A (call (.builtin "repr") [u]) (EP X pins σ Q) X.xe s:=fun a e=>by
  subst e
  exact repr_of_reads' rd sh (PyData.noDict_hsm (PyData.hasDict_of_canLay _ cl)) hr.gd (by omega) (fun _ _ e=>e) (fun h' u tk kp=>⟨.str _,H,I.kept kp,⟨_,rfl⟩,q⟩) sz
 cases rp with
 | non =>
  cases ru
  have e:PyData.shown .none="None" := by simp only [PyData.shown]
  rw [e] at q
  exact P.repr_of_none ⟨.str _,H,I.tok _,⟨_,rfl⟩,q⟩
 | bl b =>
  cases ru
  have e:PyData.shown (.bool b)=(if b=true then Str.ofString "True" else Str.ofString "False"):=by simp only [PyData.shown]
  rw [e] at q
  exact P.repr_of_bool ⟨.str _,H,I.tok _,⟨_,rfl⟩,q⟩
 | int i =>
  obtain ⟨t,rfl⟩:=ru
  have e:PyData.shown (.int i)=toString i:=by simp only [PyData.shown]
  rw [e] at q
  have Nr:i.natAbs.log2 < 1920:=by simpa only [PyData.showable,decide_eq_true_eq] using sh
  exact P.repr_of_int Nr ⟨.str _,H,I.tok _,⟨_,rfl⟩,q⟩
 | str x =>
  obtain ⟨t,rfl⟩:=ru
  have e:PyData.shown (.str x)=reprText x:=by simp only [PyData.shown]
  rw [e] at q sz
  exact P.repr_of_str ⟨.str _,H,I.tok _,⟨_,rfl⟩,q⟩ sz
 | tup _ _=>cases ru;exact big _ rfl
 | lst _ _=>cases ru;exact big _ rfl
end
section
variable {prog:Program} {w:World} {A:Around} {E:Value->Shared->Prop} {s:Shared}
end
section
variable {X:Cx}
end
mutual
def wD:PyData->Nat
 | .none=>4
 | .bool _=>5
 | .int _=>1921
 | .str x=>(reprText x).length
 | .list _=>0
 | .tuple xs=>nE xs + 3
 | .dict _=>0
def nE:List PyData->Nat
 | []=>0
 | x :: xs=>wD x + 2 + nE xs
end
mutual
def ud:PyData->Bool
 | .none=>true
 | .bool _=>true
 | .int _=>true
 | .str _=>true
 | .list _=>false
 | .tuple xs=>oy xs
 | .dict _=>false
def oy:List PyData->Bool
 | []=>true
 | x :: xs=>ud x && oy xs
end
theorem Nt (ts:List Str):(tupleText ts).length<=piled ts + 3:=by
 unfold tupleText
 rw [strLen_append,strLen_append]
 have e1:((("(" : String):Str)).length=1:=rfl
 have e3:(((if ts.length == 1 then ",)" else ")" : String):Str)).length<=2:=by split <;> decide
 rw [e1]
 by_cases h:ts=[]
 ·subst h
  have e4:(Str.join ", " []).length=0:=rfl
  rw [e4];omega
 ·have:=join_length_add ts h
  omega
mutual
theorem Ju:∀ (d:PyData),d.showable=true->ud d=true->d.shown.length<=wD d
 | .none,_,_=>by simp only [PyData.shown,wD];decide
 | .bool b,_,_=>by simp only [PyData.shown,wD];cases b <;> decide
 | .int i,h,_=>by
  simp only [PyData.shown,wD]
  exact int_text_len_1921 (by simpa only [PyData.showable,decide_eq_true_eq] using h)
 | .str x,_,_=>by simp only [PyData.shown,wD];exact TM _
 | .list _,_,h=>by simp only [ud] at h;cases h
 | .dict _,_,h=>by simp only [ud] at h;cases h
 | .tuple xs,h,h'=>by
  simp only [PyData.shown,wD]
  have:=Jv xs (by simpa only [PyData.showable] using h) (by simpa only [ud] using h')
  have:=Nt (PyData.shownAll xs)
  omega
theorem Jv:∀ (ds:List PyData),PyData.showableAll ds=true->oy ds=true->piled (PyData.shownAll ds)<=nE ds
 | [],_,_=>by simp only [PyData.shownAll,nE,piled_nil];exact TM _
 | d :: ds,h,h'=>by
  simp only [PyData.showableAll,Ua] at h
  simp only [oy,Ua] at h'
  simp only [PyData.shownAll,nE,piled_cons]
  have:=Ju d h.1 h'.1
  have:=Jv ds h.2 h'.2
  omega
end
theorem Jw:∀ (ns:List Int),nE (bS ns)=1923 * ns.length
 | []=>rfl
 | n :: r=>by
  show wD (.int n) + 2 + nE (bS r)=1923 * (r.length + 1)
  rw [Jw r]
  simp only [wD];omega
section
variable {K:Zfr} {ch:List Addr} {H H':Hp}
theorem Jx:∀ (ns:List Int),oy (bS ns)=true
 | []=>rfl
 | n :: r=>by show (true && oy (bS r))=true;rw [Jx r];rfl
end
def gi (ns:List Int):PyData:=.tuple (bS ns)
theorem Nu (ns:List Int):ud (gi ns)=true:=by unfold gi;simp only [ud];exact Jx ns
theorem Jy:∀ (rs:List (List Int)),oy (rs.map gi)=true
 | []=>rfl
 | r :: rs=>by rw [Ui];simp only [oy];rw [Nu,Jy rs];rfl
theorem Jz:∀ (rs:List (List Int)),PyData.canLayAll0 (rs.map gi)=true
 | []=>rfl
 | r :: rs=>by
  show (PyData.canLayAll0 (bS r) && PyData.canLayAll0 (rs.map gi))=true
  rw [vK,Jz rs];rfl
theorem JA:∀ (rs:List (List Int)),PyData.depthAll (rs.map gi)<=1
 | []=>Uw _
 | r :: rs=>by
  show max (PyData.depthAll (bS r) + 1) (PyData.depthAll (rs.map gi))<=1
  have:=JA rs
  rw [yn];omega
def total (rs:List (List Int)):Nat:=(rs.map List.length).sum
theorem JB:∀ (rs:List (List Int)),nE (rs.map gi)=1923 * total rs + 5 * rs.length
 | []=>rfl
 | r :: rs=>by
  show wD (gi r) + 2 + nE (rs.map gi)=1923 * (r.length + total rs) + 5 * (rs.length + 1)
  rw [JB rs]
  unfold gi
  simp only [wD,Jw];omega
def Ge (i:Int):Prop:=-1000000000000000000<=i/\i<=1000000000000000000
section
variable {X:Cx} {K:Zfr}
theorem rJ (hK:X.K=K):zI X (vA K):=by subst hK;exact kR
theorem yr (hK:X.K=K):zI X (vB K):=by subst hK;exact cB
theorem JC (hK:X.K=K):kQ X (compareOp .NotIn) (FN K true):=by subst hK;exact De
theorem Nv (hK:X.K=K):fB X (.type "tuple") (fun xs H Q=>∃ p ys,xs=[V.ref p]/\((iZ K H p ys/\∀ l,H l=none->Q (.ref l) (upd H l (.tup ys)))\/(dW K H p ys/\Q (.ref p) H))):=by subst hK;exact mr
theorem Nw {tg l:Expr} {tl:TE} (hK:X.K=K) (hl:PE X l tl):PI X tg l (qk K tl):=by subst hK;exact C7 hl
end
section
variable {prog:Program} {w:World} {A:Around} {E:Value->Shared->Prop} {s:Shared}
theorem Ny {j t:Addr} {i:Nat} {ys:Array Value} {y:Value} {Q:Value->Shared->Prop} (hj:s.heap.IsTupleIter j t i) (ht:s.heap.IsTuple t ys) (hy:ys[i]?=some y)
  (hQ:∀ h',h'.IsTupleIter j t (i + 1)->Heap.SameBut j s.heap h'->Q y { s with heap:=h' }):wpAny (model prog w) A (Builtin.SmallTypes.nextOf (.ref j)) Q E s:=by
 obtain ⟨r,hr,rc,rd⟩:=id hj
 obtain ⟨q,hq,_,nq,dq⟩:=ht
 unfold Builtin.SmallTypes.nextOf
 refine wpAny_bind (wpAny_callSpecial?_slot (name:=Str.ofString "__next__") hj.typeIs F.slot_tuple_iterator_next (wpAny_call_entry F.slot_tuple_iterator_next hj.typeIs F.entry_tuple_iterator_next ?_ (F.args_tuple_iterator_next_1 _)))
 show wpAny _ _ (PySem.field (.ref j) 0 >>= _) _ _ s
 refine wpAny_bind (wpAny_field hr rd (x:=.ref t) rfl ?_);show wpAny _ _ (if (Value.ref t == Value.none)=true then _ else _) _ _ s
 rw [if_neg (fun z:(Value.ref t == Value.none)=true=>TX z)];show wpAny _ _ (PySem.field (.ref j) 1 >>= _) _ _ s
 refine wpAny_bind (wpAny_field hr rd (x:=.int i 0) rfl ?_);show wpAny _ _ (seqItems? (.ref t) >>= _) _ _ s
 refine wpAny_bind (wpAny_seqItems hq dq ?_);simp only [T3,hy]
 refine wpAny_bind (wpAny_setField hr rd (by simp) (wpAny_pure ⟨y,rfl,wpAny_pure (hQ _ ⟨_,UU _ hr (Obj.isFreed_of_fields (Obj.data_mapFields rd _)),(Obj.cls_mapFields ..).trans rc,by rw [Obj.data_mapFields rd];simp [rawInt]⟩ (U0 ..))⟩))
theorem Nz {j t:Addr} {i:Nat} {ys:Array Value} {Q:Value->Shared->Prop} (hh:A.handled=none) (hj:s.heap.IsTupleIter j t i) (ht:s.heap.IsTuple t ys) (hy:ys[i]?=none)
  (hE:∀ h' e,Heap.ExtBut j s.heap h'->(∃ o,h'.get? e=some o/\o.cls=.type "StopIteration")->E (.ref e) { s with heap:=h' }):wpAny (model prog w) A (Builtin.SmallTypes.nextOf (.ref j)) Q E s:=by
 obtain ⟨r,hr,rc,rd⟩:=id hj
 obtain ⟨q,hq,_,nq,dq⟩:=ht
 unfold Builtin.SmallTypes.nextOf
 refine wpAny_bind (wpAny_callSpecial?_slot (name:=Str.ofString "__next__") hj.typeIs F.slot_tuple_iterator_next (wpAny_call_entry F.slot_tuple_iterator_next hj.typeIs F.entry_tuple_iterator_next ?_ (F.args_tuple_iterator_next_1 _)))
 show wpAny _ _ (PySem.field (.ref j) 0 >>= _) _ _ s
 refine wpAny_bind (wpAny_field hr rd (x:=.ref t) rfl ?_);show wpAny _ _ (if (Value.ref t == Value.none)=true then _ else _) _ _ s
 rw [if_neg (fun z:(Value.ref t == Value.none)=true=>TX z)];show wpAny _ _ (PySem.field (.ref j) 1 >>= _) _ _ s
 refine wpAny_bind (wpAny_field hr rd (x:=.int i 0) rfl ?_);show wpAny _ _ (seqItems? (.ref t) >>= _) _ _ s
 refine wpAny_bind (wpAny_seqItems hq dq ?_);simp only [T3,hy]
 refine wpAny_bind (wpAny_rule (wpAny_bind (wpAny_setField hr rd (by simp) ?_)));show wpAny _ _ (newExc (.type "StopIteration") [] >>= _) _ _ _
 refine wpAny_bind ?_;simp only [newExc,newTuple]
 refine wpAny_bind (wpAny_newObj_type ?_ (by size_fits));refine wpAny_bind (m:=firstArgMember _ _) (wpAny_of_eq (a:=Value.none) (by first | rfl | (simp only [firstArgMember];rfl)) ?_)
 refine wpAny_newObj_type ?_ (by size_fits);simp only [raiseNew]
 refine wpAny_bind (wpAny_handled ?_);first | rw [show A.in1.handled=none from hh] | rw [hh]
 exact wpAny_bind (wpAny_pure (wpAny_throw (hE _ _ (((U0 ..).extBut.push _).push _) ⟨_,Ug _ rfl,rfl⟩)))
end
theorem qC {prog:Program} {w:World} {A:Around} (hh:A.handled=none) (j t:Addr) (hne:t≠j) (ys:Array Value) :
  Draws prog w A j [j,t] ys.size (fun i v=>ys[i]?=some v) (fun i h=>h.IsTupleIter j t i/\h.IsTuple t ys) where
 live:=fun _ _ st=>let ⟨o,ho,_⟩:=st.1;⟨o,ho⟩
 frame:=fun _ _ _ st k=>⟨st.1.at fun o e=>k j (by simp) o e,let ⟨o,e,r⟩:=st.2;⟨o,k t (by simp) o e,r⟩⟩
 item:=fun i s Q E hi st hQ=>Ny st.1 st.2 (y:=ys[i]) (by simp [hi]) fun h' a b=>hQ _ h' s.toks (by simp [hi]) ⟨a,st.2.extBut b.extBut hne⟩ b
 done:=fun s Q E st hE=>Nz hh st.1 st.2 (by simp) hE
theorem NA (l:Addr) (items:Array Value) (n:Nat) (dct:Option Addr) (sl:Array (Option Value)) :
  Meets (Builtin.«enumerate.__new__» ⟨[.type "enumerate",.ref l],[]⟩) (fun _ R s=>s.heap.get? l=some { cls:=.type "tuple",dict:=dct,data:=.seq items n,slots:=sl } /\
   R (.ok (.ret (.ref (s.heap.push { cls:=.type "tuple_iterator",data:=.fields #[.ref l,.int 0 0] }).objs.size)))
    { s with heap:=(s.heap.push { cls:=.type "tuple_iterator",data:=.fields #[.ref l,.int 0 0] }).push { cls:=.type "enumerate",data:=.fields #[.none,.bool false,.ref s.heap.objs.size,rawInt 0,.none,.none] } }) :=
 .of_wp fun prog w A R s h=>by
  obtain ⟨hp,g,d,tk,os⟩:=s;obtain ⟨hl,h⟩:=h
  have hsub:=sub_enumerate
  have hL:Heap.IsTuple (Shared.heap ⟨hp,g,d,tk,os⟩) l items:=⟨_,hl,rfl,n,rfl⟩
  wp_walk using AutoSeq1.wpAny_loadPart' hl
  refine wpAny_stack_any fun st=>wpAny_pure ?_
  split
  ·rename_i c _ _ _ _ _
   cases (c == Value.type "enumerate") <;> (wp_walk using AutoSeq1.wpAny_loadPart' hl,wpAny_pyIter_tuple hL;exact ⟨_,rfl,h⟩)
  ·wp_walk using AutoSeq1.wpAny_loadPart' hl,wpAny_pyIter_tuple hL
   exact ⟨_,rfl,h⟩
section
variable {prog:Program} {w:World} {A:Around} {E:Value->Shared->Prop} {s:Shared}
theorem NC {l:Addr} {ys:Array Value} {Q:Value->Shared->Prop} (ht:s.heap.IsTuple l ys)
  (h:∀ h',IsEnum h' (s.heap.objs.size + 1) s.heap.objs.size 0 .none->h'.IsTupleIter s.heap.objs.size l 0->h'.objs.size=s.heap.objs.size + 2 ->
   (∀ b o,s.heap.get? b=some o->h'.get? b=some o)->Q (.ref (s.heap.objs.size + 1)) { s with heap:=h' }):wpAny (model prog w) A (call (.type "enumerate") [.ref l]) Q E s:=by
 obtain ⟨⟨c,dct,dt,sl⟩,hl,hc,n,hd⟩:=ht
 cases (show c=.type "tuple" from hc)
 cases (show dt=.seq ys n from hd)
 refine callType_new F.called_enumerate (by decide) (F.typeCall_enumerate_1 _) (F.newCall_enumerate_1 _) (fun obj=>F.args_object_init_2 obj _) F.entry_enumerate_new (NA l ys n dct sl) ⟨hl,?_⟩
 have z:(s.heap.push { cls:=.type "tuple_iterator",data:=.fields #[.ref l,.int 0 0] }).objs.size=s.heap.objs.size + 1:=Vc ..
 show _/\_;rw [z]
 have en:IsEnum ((s.heap.push { cls:=.type "tuple_iterator",data:=.fields #[.ref l,.int 0 0] }).push { cls:=.type "enumerate",data:=.fields #[.none,.bool false,.ref s.heap.objs.size,rawInt 0,.none,.none] }) (s.heap.objs.size + 1) s.heap.objs.size 0 .none:=by
  have g:=Ug (s.heap.push { cls:=.type "tuple_iterator",data:=.fields #[.ref l,.int 0 0] }) (o:={ cls:=.type "enumerate",data:=.fields #[.none,.bool false,.ref s.heap.objs.size,rawInt 0,.none,.none] }) rfl
  rw [z] at g
  exact g
 exact ⟨⟨_,en,rfl⟩,h _ en ⟨_,T8 _ (Ug _ rfl),rfl,rfl⟩ (by rw [Vc,z]) fun b o e=>T8 _ (T8 _ e)⟩
end
section
variable {X:Cx} {pins:List (Addr×Obj)} {σ:St} {H:Hp} {s:Shared} {h':Heap}
theorem Inv.sv {t':Nat} {ch:List Addr} (I:Inv X pins σ H s) (k:∀ b o,b ∉ ch->s.heap.get? b=some o->h'.get? b=some o) (f:∀ b∈ch,lb X pins H b):Inv X pins σ H { s with heap:=h',toks:=t' }:=by
 have ze:∀ b u,H b=some u->b ∉ ch:=fun b u e z=>by rw [(f b z).1] at e;cases e
 refine I.step (g':=s.gens) (d':=s.drawn) (ch:=ch) (fun b hb=>⟨(f b hb).2.2.2.1,(f b hb).2.1,(f b hb).2.2.2.2.1,(f b hb).2.2.2.2.2⟩) (fun b o _ _ hc e _=>k b o hc e) (fun b o _ _ hc e _=>⟨o.slots,k b o hc e⟩) (fun _ _ _ _ n=>n)
  (fun b o hc e=>⟨o,k b o hc e⟩) (fun _ _ e=>e) (fun _ _ _ e=>e) (fun b ps e=>⟨#[],by rw [e];simp⟩) (fun m hm=>?_) (fun b u e=>?_) I.bare
 ·obtain ⟨o,es,ep,ho,r⟩:=hm
  exact ⟨o,es,ep,k _ o (fun z=>(f _ z).2.1 rfl) ho,r⟩
 ·refine (I.hok b u e).stay (fun c v hc q=>k c v ?_ q) (fun _ q=>q) fun _ _ q=>q
  rcases hc with z | z
  ·rw [z];exact ze b u e
  ·exact ze c _ z
end
def JD (K:Zfr) (a:Addr):It :=
 ⟨fun i H=>∃ xs x,dW K H a xs/\xs[i]?=some x,fun i H x H'=>∃ p y,x=.ref p/\H p=none/\H'=upd H p (.tup [.int i,y])/\∀ xs,dW K H a xs->xs[i]?=some y,fun i H=>∃ xs,dW K H a xs/\xs.length=i⟩
theorem ND {P:Program} {w:World} {K:Zfr} {es:List Expr} {x1} {pos:Pos} (a e it:Addr) (hne:e≠it) :
  Turn P w K (.Tuple es x1 pos) (JD K a) [e,it] e (fun i h=>(∃ old,IsEnum h e it i old)/\h.IsTupleIter it a i) where
 mem:=by simp
 obj:=fun i h st b hb=>by
  obtain ⟨⟨old,he⟩,o,e2,c,d⟩:=st
  rcases Up.mp hb with rfl | hb
  ·exact ⟨_,he,fun v z=>by
    have z':Data.fields _=Data.cell v:=z
    cases z'⟩
  ·have q:b=it:=by simpa using hb
   subst q
   exact ⟨o,e2,fun v z=>by rw [d] at z;cases z⟩
 keep:=fun i h h' st k=>⟨let ⟨old,he⟩:=st.1;⟨old,k e (by simp) _ he⟩,st.2.at fun o q=>k it (by simp) o q⟩
 item:=by
  intro X hP hw hK hc i pins s σ H E I hf st hg
  subst hP hw hK
  obtain ⟨xs,x,hq,hx⟩:=hg
  obtain ⟨its,rv,p,hz⟩:=I.tuple hq
  obtain ⟨u,hu,ru⟩:=rv.get hx
  obtain ⟨⟨old,he⟩,hit⟩:=st
  have ht:s.heap.IsTuple a its.toArray:=p
  have Gf:a≠it:=fun z=>by
   obtain ⟨o,e1,c1,_⟩:=hit
   obtain ⟨o2,e2,c2,_⟩:=ht
   rw [z,e1] at e2;cases e2
   exact absurd (c1.symm.trans c2) (by simp)
  have NF:e≠a:=fun z=>by
   obtain ⟨o2,e2,c2,_⟩:=ht
   rw [<- z,he] at e2;cases e2
   exact absurd c2 (by simp)
  have hl:=rv.length
  have hi:i < its.toArray.size:=by
   have:=TK.mp hu
   obtain ⟨q,_⟩:=this
   simpa using q
  refine wpAny_pyNext_enum_itemD (qC (A:=X.A.in1) (I.ok.hd hc) it a Gf its.toArray) he ⟨hit,ht⟩ hi hne (by simp [hne,NF]) fun y h1 tk hy ho hst hT hsz kk=>?_
  have ey:y=u:=by
   have:its.toArray[i]?=some u:=by simpa using hu
   exact T5 (hy.symm.trans this)
  subst ey
  refine ⟨_,rfl,wpAny_letOwnedTupleGo_enum ho fun h2 NG sb=>?_⟩
  have hel:@LT.lt Nat _ e s.heap.objs.size:=Ue he
  have hil:@LT.lt Nat _ it s.heap.objs.size:=by obtain ⟨o,e1,_⟩:=hit;exact Ue e1
  have Gg:H s.heap.objs.size=none:=I.hok.fresh (TM _)
  have sb':Heap.SameBut e h1 h2:=sb
  have I1:Inv X pins σ (upd H s.heap.objs.size (.tup [.int i,x])) { s with heap:=s.heap.push { cls:=.type "tuple",data:=.seq #[.int i tk,y] },toks:=s.toks } :=
   I.laid (fun b u e=>T8 _ e) (TM _) ⟨(by decide:2<=sizeLine),[.int i tk,y],.cons ⟨tk,rfl⟩ (.cons ru .nil),⟨_,Ug _ rfl,rfl,rfl,_,rfl⟩⟩
  have nn:∀ b∈[e,it],@LT.lt Nat _ b s.heap.objs.size:=fun b hb=>by
   rcases Up.mp hb with rfl | hb
   ·exact hel
   ·have q:b=it:=by simpa using hb
    rw [q];exact hil
  have hn:∀ b∈[e,it],upd H s.heap.objs.size (.tup [.int i,x]) b=none:=fun b hb=>by
   unfold upd
   rw [if_neg (UA (nn b hb))]
   exact (hf b hb).1
  have I2:Inv X pins σ (upd H s.heap.objs.size (.tup [.int i,x])) { s with heap:=h2,toks:=tk + 1 }:=by
   refine Inv.sv (s:={ s with heap:=s.heap.push { cls:=.type "tuple",data:=.seq #[.int i tk,y] },toks:=s.toks }) (h':=h2) I1 (ch:=[e,it]) (t':=tk + 1) (fun b o hb q=>?_) fun b hb=>⟨hn b hb,(hf b hb).2⟩
   have nb:b≠e/\b≠it:=by simpa using hb
   refine (sb'.2 b nb.1).trans ?_
   rcases Heap.get?_push_cases q with ⟨rfl,rfl⟩ | q
   ·exact hT
   ·exact kk b o nb.1 nb.2 q
  refine ⟨.ref s.heap.objs.size,_,I2,rfl,⟨_,x,rfl,Gg,rfl,fun ys sx=>by rw [I.gJ sx hq];exact hx⟩,⟨⟨y,?_⟩,?_⟩,hn⟩
  ·have:((i + 1:Nat):Int)=(i:Int) + 1:=by omega
   rw [this];exact NG
  ·exact hst.1.extBut sb'.extBut (Ne.symm hne)
 done:=by
  intro X hP hw hK hc i pins s σ H E I hf st hg
  subst hP hw hK
  obtain ⟨xs,hq,hx⟩:=hg
  obtain ⟨its,rv,p,hz⟩:=I.tuple hq
  obtain ⟨⟨old,he⟩,hit⟩:=st
  have ht:s.heap.IsTuple a its.toArray:=p
  have Gf:a≠it:=fun z=>by
   obtain ⟨o,e1,c1,_⟩:=hit
   obtain ⟨o2,e2,c2,_⟩:=ht
   rw [z,e1] at e2;cases e2
   exact absurd (c1.symm.trans c2) (by simp)
  have hl:=rv.length
  have ei:its.toArray.size=i:=by simp;omega
  refine wpAny_pyNext_enum_endD (qC (A:=X.A.in1) (I.ok.hd hc) it a Gf its.toArray) he (by rw [ei];exact ⟨hit,ht⟩) fun h1 eb=>⟨rfl,?_⟩
  obtain ⟨f0,f1,f2,f3,f4,f5⟩:=hf it (by simp)
  exact I.turned (t':=s.toks) (fun b o hb q=>eb b o hb q) f0 f1 f3 f4 f5
 self:=fun _ _ _ _ _ st h=>let ⟨_,he⟩:=st.1;wpAny_pyIter_enum he h
def uf (K:Zfr) (ta:TA):TI:=fun σ H R=>ta σ H fun vs H1=>∃ a,vs=[.ref a]/\(∃ xs,dW K H1 a xs)/\R (JD K a) H1
theorem Gh {X:Cx} {es:List Expr} {x1} {p0:Pos} {l:Expr} {ta:TA} {p pos:Pos} (hg:Gl X "enumerate") (hm:X.mg "enumerate" = none) (ha:PA X [l] ta) (hs:starEach [l] X.env=[(false,eval l X.env)]:=by rfl) :
  PI X (.Tuple es x1 p0) (.Call (.Name "enumerate" p) [l] [] pos) (uf X.K ta):=by
 intro pins s σ H R I h
 refine Call_ (yg I hg hm boot_enumerate (PyProof.Rows.callWith_type1 (cy (ha pos pins s σ H _ I h) fun us s1 ⟨vs,H1,I1,r1,q1⟩=>?_) hs rfl))
 obtain ⟨a,e,⟨xs,hq⟩,q⟩:=q1
 subst e
 cases r1 with
 | cons r rr =>
  cases rr
  cases r
  obtain ⟨its,rv,p,hz⟩:=I1.tuple hq
  refine NC (show s1.heap.IsTuple a its.toArray from p) fun h1 he hi hsz kk=>?_
  refine wpAny_pyIter_enum he ?_
  refine ⟨s1.heap.objs.size + 1,[s1.heap.objs.size + 1,s1.heap.objs.size],_,_,H1,rfl,I1.kept (t':=s1.toks) kk,ND a _ _ (Nat.succ_ne_self _),⟨⟨_,he⟩,hi⟩,fun b hb=>?_,q⟩
  have hb':@LE.le Nat _ s1.heap.objs.size b:=by
   rcases Up.mp hb with rfl | hb
   ·exact Vz _
   ·have e:b=s1.heap.objs.size:=by simpa using hb
    rw [e];exact TM _
  exact I1.oX hb' (I1.hok.fresh hb')
section
open Sem (wp)
open PySem.AutoSeq1 (wpAny_loadPart')
open PySem.MeetsSeq PySem.MeetsSeq2 PySem.MeetsSeq3
theorem IntsAre.get {vs:List Value} {ns:List Int} (h:IntsAre vs ns):∀ {i:Nat} {n:Int},ns[i]?=some n->∃ t,vs[i]?=some (.int n t):=by
 induction h with
 | nil=>intro i n e;simp at e
 | cons a t h ih =>
  intro i n e
  cases i with
  | zero=>exact ⟨t,by simpa using e⟩
  | succ i=>simpa using ih (by simpa using e)
theorem qD (l:Addr) (items:Array Value) (n:Nat) (dd:Option Addr) (sl:Array (Option Value)) (ns:List Int) (hi:IntsAre items.toList ns) (v:Int) (t:Tok) (j:Nat) (hj:ns[j]?=some v) (hb:∀ i,i < j->ns[i]?≠some v) :
  Meets (Builtin.«tuple.index» ⟨[.ref l,.int v t],[]⟩)
   (fun _ R s=>s.heap.get? l=some { cls:=.type "tuple",dict:=dd,data:=.seq items n,slots:=sl }/\R (.ok (.ret (.int (j:Int) s.toks))) { s with toks:=s.toks + 1 }) :=
 .of_wp fun prog w A R s h=>by
  obtain ⟨hp,g,d,tk,os⟩:=s;obtain ⟨hl,h⟩:=h
  have z1:items.size=ns.length:=by rw [<- hi.length];simp
  have hjl:j < ns.length:=(TK.mp hj).1
  wp_walk using wpAny_loadPart' hl
  have key:wpAny (model prog w) A.in1 (forIn (m:=Sem) [:min items.size items.size] ((none,()):Option Fin×Unit) (fun (i:Nat) _ =>
    match items[i]? with
    | some y=>do
     let b <- eqBool y (Value.int v t)
     if b=true then do
      let r <- retInt (i:Int)
      pure (ForInStep.done (some r,()))
     else pure (ForInStep.yield (none,()))
    | _=>pure (ForInStep.yield (none,()))))
   (fun a s'=>a.1=some (.done (.ret (.int (j:Int) tk)))/\s'=⟨hp,g,d,tk + 1,os⟩) (fun e s'=>R (Except.error e) s') ⟨hp,g,d,tk,os⟩:=by
   rw [Std.Legacy.Range.forIn_eq_forIn_range']
   have ez:([:min items.size items.size]:Std.Legacy.Range).size=ns.length:=by
    simp [Std.Legacy.Range.size,z1]
   rw [ez]
   refine wpAny_forIn_list _ (fun rest b s'=>b.1=none/\s'=⟨hp,g,d,tk,os⟩/\∃ k,k<=j/\rest=List.range' k (ns.length - k) 1) _ ?_ ?_ _ _ ⟨rfl,rfl,0,Uw _,by simp⟩
   ·rintro x rest b s' ⟨hb',rfl,k,hk,e⟩
    have el:ns.length - k=(ns.length - (k + 1)) + 1:=by omega
    rw [el,List.range'_succ] at e
    injection e with e1 e2
    subst e1
    have nF:x < ns.length:=by omega
    obtain ⟨t',ht'⟩:=IntsAre.get hi (TL nF)
    have NH:items[x]?=some (.int ns[x] t'):=by rw [<- ht',Vm]
    simp only [NH]
    obtain ⟨e,he,hiff⟩:=HT.ME A.in1 ⟨hp,g,d,tk,os⟩ ns[x] t' v t
    refine wpAny_bind (he prog w _ _ ?_)
    cases e with
    | true =>
     have ev:ns[x]=v:=hiff.mp rfl
     have NI:x=j:=by
      rcases Vn x j with h' | h'
      ·exact absurd (by rw [TL nF,ev]) (hb x h')
      ·omega
     subst NI
     wp_walk
     first | exact ⟨rfl,rfl⟩ | trivial
    | false =>
     have ev:ns[x]≠v:=fun q=>absurd (hiff.mpr q) TX
     have:x≠j:=fun z=>ev (by subst z;rw [TL nF] at hj;exact T5 hj)
     wp_walk
     exact ⟨rfl,rfl,x + 1,by omega,e2⟩
   ·rintro b s' ⟨hb',rfl,k,hk,e⟩
    have:(List.range' k (ns.length - k) 1).length=0:=by rw [<- e];rfl
    rw [List.length_range'] at this
    omega
  refine wpAny_mono key (fun a s' ha=>?_) (fun _ _ z=>z)
  obtain ⟨ha,rfl⟩:=ha
  obtain ⟨a1,a2⟩:=a
  cases (show a1=_ from ha)
  exact wpAny_pure ⟨_,rfl,h⟩
end
section
variable {X:Cx} {K:Zfr}
def o4 (K:Zfr):V->List V->Hp->VK->Prop:=fun x vs H Q=>∃ (a:Addr) (ns:List Int) (v:Int) (j:Nat),x=.ref a/\vs=[.int v]/\dW K H a (ns.map V.int)/\ns[j]?=some v/\(∀ i,i < j->ns[i]?≠some v)/\Q (.int (j:Int)) H
theorem NJ:tQ X "tuple.index" (o4 X.K):=by
 intro pins s σ H x xs v us Q I rx rv h
 obtain ⟨a,ns,y,j,rfl,rfl,hq,hj,hb,q⟩:=h
 cases rx
 obtain ⟨u,rfl,t,rfl⟩:=vals1 rv
 obtain ⟨its,r,⟨⟨c,dd,dt,sl⟩,e,hc,hd,n,hdt⟩,hz⟩:=I.oW hq
 cases (show c=.type "tuple" from hc)
 cases (show dt=.seq its.toArray n from hdt)
 refine call_meets F.slot_tuple_index ⟨_,e,rfl⟩ F.entry_tuple_index (F.args_tuple_index_2 _ _) (qD a its.toArray n dd sl ns (by simpa using IL r) y t j hj hb) ⟨e,?_⟩
 exact ⟨.int j,H,I.tok _,⟨_,rfl⟩,q⟩
theorem JE (hK:X.K=K):tQ X "tuple.index" (o4 K):=by subst hK;exact NJ
theorem Gi {o e:Expr} {es:List Expr} {to:TE} {t:TA} {name:Str} {apos cpos:Pos} {T id:String} {r:V->List V->Hp->VK->Prop} (hK:X.K=K) (pa:PlainAttrs T) (slot:Slot T name id) (hty:typeOf (.builtin id)=pure (.type "method_descriptor")) (hm:tQ X id r) (ho:PE X o to) (ha:PA X (e :: es) t)
  (hbase:attributeBase o name X.env (eval o X.env)=eval o X.env:=by rfl)
  (hfew:((backTo cpos (starEach (e :: es) X.env)).all (fun x=>!x.1) && (backToKw cpos (keywordEach [] X.env)).all (fun x=>x.1.isSome)
   && decide ((e :: es).length + ([]:List Keyword).length + (if ([]:List Keyword).isEmpty then 0 else 1) < 30))=true:=by rfl)
  (hline:(apos.endLine == cpos.line)=true:=by rfl) (hs:starEach (e :: es) X.env=(false,eval e X.env) :: starEach es X.env:=by rfl) (hplain:(backTo cpos (starEach es X.env)).any (·.1)=false:=by rfl) :
  PE X (.Call (.Attribute o name apos) (e :: es) [] cpos) (FP K T r to t):=by subst hK;exact mv pa slot hty hm ho ha hbase hfew hline hs hplain
end
open Builtin.Str
section
variable {X:Cx} {K:Zfr}
end
section
variable {X:Cx} {tg:Expr}
end
open Builtin.Str
section
variable {prog:Program} {w:World} {A:Around} {E:Value->Shared->Prop} {s:Shared}
end
set_option genInjectivity false in
inductive ZS where
 | tup (a:Addr) | lst (a:Addr) | str (x:Str)
def ZS.has (K:Zfr) (H:Hp) (i:Nat) (v:V):ZS->Prop
 | .tup a=>∃ xs,dW K H a xs/\xs[i]?=some v
 | .lst a=>∃ xs,iZ K H a xs/\xs[i]?=some v
 | .str x=>∃ c,x.cps[i]?=some c/\v=.str ⟨#[c]⟩
def ZS.fin (K:Zfr) (H:Hp) (i:Nat):ZS->Prop
 | .tup a=>∃ xs,dW K H a xs/\xs.length=i
 | .lst a=>∃ xs,iZ K H a xs/\xs.length=i
 | .str x=>x.cps.size=i
section
variable {X:Cx} {pins:List (Addr×Obj)} {σ:St} {H:Hp} {s:Shared}
end
theorem ZS.sy {X:Cx} {pins:List (Addr×Obj)} {σ:St} {H:Hp} {s:Shared} {src:ZS} {i:Nat} {x y:V} (I:Inv X pins σ H s) (a:src.has X.K H i x) (b:src.has X.K H i y):y=x:=by
 cases src with
 | tup p =>
  obtain ⟨xs,h1,e1⟩:=a
  obtain ⟨ys,h2,e2⟩:=b
  rw [I.gJ h2 h1] at e2
  rw [e1] at e2
  exact (T5 e2).symm
 | lst p =>
  obtain ⟨xs,h1,e1⟩:=a
  obtain ⟨ys,h2,e2⟩:=b
  rw [I.oj h2 h1] at e2
  rw [e1] at e2
  exact (T5 e2).symm
 | str z =>
  obtain ⟨c,h1,rfl⟩:=a
  obtain ⟨d,h2,rfl⟩:=b
  rw [h1] at h2
  cases h2
  rfl
def ZS.val (K:Zfr) (H:Hp) (x:V):ZS->Prop
 | .tup a=>x=.ref a/\∃ xs,dW K H a xs
 | .lst a=>x=.ref a/\∃ xs,iZ K H a xs
 | .str z=>x=.str z
section
variable {X:Cx} {K:Zfr}
def eD (us:List Value) (ds:List PyData) (dx:PyData) (u:Value):Bool:=@decide (∃ (i:Nat) (d:PyData),us[i]?=some u/\ds[i]?=some d/\PyData.eqv d dx=true) (Classical.propDecidable _)
theorem eN.get:∀ {H:Hp} {vs:List V} {ds:List PyData},eN K H vs ds->∀ {i:Nat} {v:V},vs[i]?=some v->∃ d,ds[i]?=some d/\Rep K H v d
 | _,_,_,.nil,i,v,e=>by simp at e
 | _,_,_,.cons (d:=d) a b,0,v,e=>⟨d,by simp,by have:_=v:=T5 (by simpa using e);rw [<- this];exact a⟩
 | _,_,_,.cons a b,i + 1,v,e=>by
  obtain ⟨d,e1,r⟩:=eN.get b (i:=i) (by simpa using e)
  exact ⟨d,by simpa using e1,r⟩
theorem eN.sA:∀ {H:Hp} {vs:List V} {ds:List PyData},eN K H vs ds->vs.length=ds.length
 | _,_,_,.nil=>rfl
 | _,_,_,.cons _ r=>by rw [Uo,Uo,eN.sA r]
theorem Vals.Ac {xs:List V} {us:List Value} (r:Vals xs us) {i:Nat} {u:Value} (h:us[i]?=some u):∃ v,xs[i]?=some v/\RelV v u:=by
 have hi:=(TK.mp h).1
 have hl:=r.length
 obtain ⟨u',hu,ru⟩:=r.get (i:=i) (x:=xs[i]'(by omega)) (TL _)
 rw [h] at hu
 cases hu
 exact ⟨_,TL _,ru⟩
open Classical in
theorem Gj {pins:List (Addr×Obj)} {σ:St} {H:Hp} {s:Shared} {xs:List V} {us:List Value} {ds:List PyData} {x:V} {v:Value} {dx:PyData} (hu:X.A.units + 64 < cLine) (I:Inv X pins σ H s) (r:Vals xs us) (hr:eN X.K H xs ds) (rx:RelV x v) (hx:Rep X.K H x dx) (c1:∀ d∈ds,d.canLay0=true) (c2:dx.canLay0=true) (c3:dx.depth<=60) :
  ∀ u∈us,SeqAt.EqAt X.A.in1 s u v (eD us ds dx u):=by
 intro u hm
 obtain ⟨bs,rb⟩:=hx.reads I rx
 have key:∀ (i:Nat) (d:PyData),us[i]?=some u->ds[i]?=some d->SeqAt.EqAt X.A.in1 s u v (PyData.eqv d dx):=fun i d h1 h2=>by
  obtain ⟨y,hy,ry⟩:=r.Ac h1
  obtain ⟨d',hd',rd⟩:=hr.get hy
  rw [h2] at hd'
  cases hd'
  obtain ⟨as,ra⟩:=rd.reads I ry
  intro prog w E Q q
  refine SeqAt.eqBoolOverData prog w X.A.in1 E s u v d dx as bs Q ra rb (c1 _ (T2 h2)) c2 ?_ q
  have:X.A.in1.units<=X.A.units + 2:=by
   first | exact Nat.le_add_right _ _ | (show X.A.units<=_;omega) | (show X.A.units + 1<=_;omega)
  omega
 obtain ⟨i,hi⟩:=Vq hm
 have hl1:=r.length
 have hl2:=hr.sA
 have hil:=(TK.mp hi).1
 unfold eD
 by_cases h:∃ (i:Nat) (d:PyData),us[i]?=some u/\ds[i]?=some d/\PyData.eqv d dx=true
 ·rw [decide_eq_true h]
  obtain ⟨j,d,h1,h2,h3⟩:=h
  have:=key j d h1 h2
  rwa [h3] at this
 ·rw [decide_eq_false h]
  have h2:ds[i]?=some (ds[i]'(by omega)):=TL _
  have k:=key i _ hi h2
  cases hb:PyData.eqv (ds[i]'(by omega)) dx with
  | true=>exact absurd ⟨i,_,hi,h2,hb⟩ h
  | false=>rwa [hb] at k
open Classical in
theorem vO {xs:List V} {us:List Value} {ds:List PyData} {dx:PyData} (h1:us.length=ds.length):us.any (eD us ds dx)=ds.any fun d=>PyData.eqv d dx:=by
 rw [Vh,VY,VY]
 constructor
 ·rintro ⟨u,hu,h⟩
  unfold eD at h
  obtain ⟨i,d,_,h2,h3⟩:=of_decide_eq_true h
  exact ⟨d,T2 h2,h3⟩
 ·rintro ⟨d,hd,h⟩
  obtain ⟨i,hi⟩:=Vq hd
  have hil:=(TK.mp hi).1
  refine ⟨us[i]'(by omega),VC _,?_⟩
  unfold eD
  exact decide_eq_true ⟨i,d,TL _,hi,h⟩
def Ad (K:Zfr) (neg:Bool):R2:=fun x y H Q=>∃ p xs ds dx,y=.ref p/\(iZ K H p xs\/dW K H p xs)/\eN K H xs ds/\Rep K H x dx/\(∀ d∈ds,PyData.canLay0 d=true)/\PyData.canLay0 dx=true/\PyData.depth dx<=60/\Q (.bl (if neg then !ds.any (fun d=>PyData.eqv d dx) else ds.any fun d=>PyData.eqv d dx)) H
theorem JF (hu:X.A.units + 64 < cLine):kQ X (compareOp .NotIn) (Ad X.K true):=by
 intro pins s σ H x y v u Q I rx ry h
 obtain ⟨p,xs,ds,dx,rfl,hq,hr,hx,c1,c2,c3,q⟩:=h
 cases ry
 have e2:∀ {its:List Value},Vals xs its->its.toArray.any (eD its ds dx)=ds.any fun d=>PyData.eqv d dx:=fun {its} r=>by
  rw [show its.toArray.any (eD its ds dx)=its.any (eD its ds dx) by simp]
  exact vO (xs:=xs) (by rw [<- r.length];exact hr.sA)
 rcases hq with hq | hq
 ·obtain ⟨its,r,pl,hz⟩:=I.list hq
  refine SeqAt.notIn_listAt (eD its ds dx) pl.isList (fun w hw=>Gj hu I r hr rx hx c1 c2 c3 w (by simpa using hw)) ⟨.bl _,H,I,rfl,?_⟩
  rw [e2 r]
  exact q
 ·obtain ⟨its,r,pl,hz⟩:=I.tuple hq
  refine SeqAt.notIn_tupleAt (eD its ds dx) pl (fun w hw=>Gj hu I r hr rx hx c1 c2 c3 w (by simpa using hw)) ⟨.bl _,H,I,rfl,?_⟩
  rw [e2 r]
  exact q
end
open Builtin.Str
theorem Ae:Slot "reversed" "__next__" "reversed.__next__" :=
 .of (owner:="reversed") (n:="__next__") (by rw [typeLookup_type,builtinLookup_eq_fast];kernel_rfl) (by decide +kernel) (by decide +kernel) (by decide +kernel)
  (by first | exact .inl (by decide +kernel) | exact .inr (by decide +kernel)) (by rw [isSubtype_type];kernel_rfl)
theorem JG:Slot "reversed" "__iter__" "reversed.__iter__" :=
 .of (owner:="reversed") (n:="__iter__") (by rw [typeLookup_type,builtinLookup_eq_fast];kernel_rfl) (by decide +kernel) (by decide +kernel) (by decide +kernel)
  (by first | exact .inl (by decide +kernel) | exact .inr (by decide +kernel)) (by rw [isSubtype_type];kernel_rfl)
theorem JH:entryFor table "reversed.__next__" = some Builtin.«reversed.__next__»:=entryFor_of_tree (by kernel_rfl)
theorem JI (a:Value):argsOk "reversed.__next__" ⟨[a],[]⟩:=by unfold argsOk;kernel_rfl
theorem NK:entryFor table "reversed.__iter__" = some Builtin.«dict_keyiterator.__iter__» :=
 entryFor_alias (id':="dict_keyiterator.__iter__") (by kernel_rfl) (by first | rfl | decide +kernel) (by decide +kernel) (by kernel_rfl)
theorem NL (a:Value):argsOk "reversed.__iter__" ⟨[a],[]⟩:=by unfold argsOk;kernel_rfl
theorem NM:typeLookup (.type "tuple") "__reversed__" = pure none:=by rw [typeLookup_type,builtinLookup_eq_fast];kernel_rfl
theorem NN:typeLookup (.type "str") "__reversed__" = pure none:=by rw [typeLookup_type,builtinLookup_eq_fast];kernel_rfl
def lj (h:Heap) (a:Addr) (v:Value) (i:Int):Prop:=∃ o,h.get? a=some o/\o.cls=.type "reversed" /\ o.data=.fields #[v,rawInt i]
theorem lj.at {h h':Heap} {a:Addr} {v:Value} {i:Int} (x:lj h a v i) (e:∀ o,h.get? a=some o->h'.get? a=some o):lj h' a v i:=let ⟨o,ho,r⟩:=x;⟨o,e _ ho,r⟩
section
variable {prog:Program} {w:World} {A:Around} {E:Value->Shared->Prop} {s:Shared}
theorem lj.typeIs {a:Addr} {v:Value} {i:Int} (x:lj s.heap a v i):s.TypeIs (.ref a) "reversed" := let ⟨o,ho,hc,_⟩:=x;⟨o,ho,hc⟩
theorem JJ {it:Addr} {v:Value} {i:Int} {Q:Value->Shared->Prop} (hit:lj s.heap it v i) (h:Q (.ref it) s):wpAny (model prog w) A (pyIter (.ref it)) Q E s:=by
 refine wpAny_pyIter_slot hit.typeIs JG (wpAny_call_entry JG hit.typeIs NK ?_ (NL _))
 show wpAny _ _ (ret (.ref it)) _ _ s
 exact wpAny_pure ⟨_,rfl,"reversed",_,hit.typeIs,Ae.lookup,h⟩
theorem NP {it:Addr} {T gid:String} {v:Value} {y:Value->Prop} {i:Nat} {Q:Option Value->Shared->Prop} (hit:lj s.heap it v (i:Int)) (hT:s.TypeIs v T) (hg:typeLookup (.type T) "__getitem__" = pure (some (.builtin gid)))
  (hget:∀ (A':Around) (E':Value->Shared->Prop) (Q':Value->Shared->Prop) (tk:Tok) (n:Nat),(∀ z k,y z->Q' z { s with toks:=k })->wpAny (model prog w) A' (getItem v (.int i tk)) Q' E' { s with toks:=n })
  (hQ:∀ x h' k,y x->lj h' it v ((i:Int) - 1)->Heap.SameBut it s.heap h'->Q (some x) { s with heap:=h',toks:=k }):wpAny (model prog w) A (pyNext (.ref it)) Q E s:=by
 obtain ⟨o,ho,hc,hd⟩:=id hit
 unfold pyNext
 refine wpAny_bind (wpAny_attempt (wpAny_callSpecial?_slot (name:=Str.ofString "__next__") hit.typeIs Ae
  (wpAny_call_entry Ae hit.typeIs JH ?_ (JI _))))
 unfold Builtin.«reversed.__next__»
 refine wpAny_bind (wpAny_of_eq (a:=(Value.ref it,[])) rfl ?_)
 try dsimp only
 refine wpAny_bind (wpAny_field ho hd (x:=v) rfl ?_)
 refine wpAny_bind (wpAny_field ho hd (x:=rawInt (i:Int)) rfl ?_)
 show wpAny _ _ (if (i:Int) < 0 then _ else _) _ _ s
 rw [if_neg (by omega)]
 refine wpAny_bind (wpAny_specialOf hT hg ?_)
 try dsimp only
 rw [if_neg (by simp)]
 refine wpAny_bind (wpAny_mkInt ?_)
 refine wpAny_bind (wpAny_attempt (hget _ _ _ _ _ fun x k hx=>?_))
 show wpAny _ _ (field (.ref it) 1 >>= _) _ _ _
 refine wpAny_bind (wpAny_field ho hd (x:=rawInt (i:Int)) rfl ?_)
 refine wpAny_bind (wpAny_setField ho hd (by simp) ?_)
 first
 | refine wpAny_pure ⟨x,rfl,wpAny_pure (hQ _ _ _ hx ?_ (U0 ..))⟩
 | refine wpAny_pure ⟨x,rfl,wpAny_bind (wpAny_pure (wpAny_pure (hQ _ _ _ hx ?_ (U0 ..))))⟩
 exact ⟨_,UU _ ho (Obj.isFreed_of_fields (Obj.data_mapFields hd _)),(Obj.cls_mapFields ..).trans hc,by rw [Obj.data_mapFields hd];simp [rawInt]⟩
theorem NQ {it:Addr} {v:Value} {i:Int} {Q:Option Value->Shared->Prop} (hh:A.handled=none) (hit:lj s.heap it v i) (hi:i < 0)
  (hQ:∀ h',Heap.ExtBut it s.heap h'->Q none { s with heap:=h' }):wpAny (model prog w) A (pyNext (.ref it)) Q E s:=by
 obtain ⟨o,ho,hc,hd⟩:=id hit
 unfold pyNext
 refine wpAny_bind (wpAny_attempt (wpAny_callSpecial?_slot (name:=Str.ofString "__next__") hit.typeIs Ae
  (wpAny_call_entry Ae hit.typeIs JH ?_ (JI _))))
 unfold Builtin.«reversed.__next__»
 refine wpAny_bind (wpAny_of_eq (a:=(Value.ref it,[])) rfl ?_)
 try dsimp only
 refine wpAny_bind (wpAny_field ho hd (x:=v) rfl ?_)
 refine wpAny_bind (wpAny_field ho hd (x:=rawInt i) rfl ?_)
 show wpAny _ _ (if i < 0 then _ else _) _ _ s
 rw [if_pos hi]
 refine wpAny_bind (wpAny_rule ?_)
 refine wpAny_bind ?_
 show wpAny _ _ (setField (.ref it) 1 (rawInt (-1)) >>= fun _=>setField (.ref it) 0 .none) _ _ _
 refine wpAny_bind (wpAny_setField ho hd (by simp) ?_)
 have NR:=UU (Obj.mapFields fun x=>x.setIfInBounds 1 (rawInt (-1))) ho (Obj.isFreed_of_fields (Obj.data_mapFields hd _))
 have hd1:=Obj.data_mapFields hd (fun x=>x.setIfInBounds 1 (rawInt (-1)))
 refine wpAny_setField NR hd1 (by simp) ?_
 first
 | show wpAny _ _ (newExc (.type "StopIteration") [] >>= _) _ _ _
 | (refine wpAny_bind ?_;show wpAny _ _ (newExc (.type "StopIteration") [] >>= _) _ _ _)
 refine wpAny_bind ?_
 simp only [newExc,newTuple]
 refine wpAny_bind (wpAny_newObj_type ?_ (by size_fits))
 refine wpAny_bind (m:=firstArgMember _ _) (wpAny_of_eq (a:=Value.none) (by first | rfl | (simp only [firstArgMember];rfl)) ?_)
 refine wpAny_newObj_type ?_ (by size_fits)
 simp only [raiseNew]
 refine wpAny_bind (wpAny_handled ?_)
 first | rw [show A.in1.handled=none from hh] | rw [hh]
 refine wpAny_bind (wpAny_pure (wpAny_throw ?_))
 refine wpAny_bind (wpAny_isInstance (T:="StopIteration") (b:=true) ⟨_,Ug _ rfl,rfl⟩ isSubtype_stop ?_)
 refine wpAny_pure (hQ _ ?_)
 have x2:Heap.ExtBut it s.heap ((s.heap.update it (Obj.mapFields fun x=>x.setIfInBounds 1 (rawInt (-1)))).update it (Obj.mapFields fun x=>x.setIfInBounds 0 .none)):=fun c o hc e=>(U0 ..).extBut c o hc ((U0 ..).extBut c o hc e)
 exact (x2.push _).push _
end
def JK (K:Zfr) (src:ZS) (n:Nat):It:=⟨fun i H=>i < n/\∃ v,src.has K H (n - 1 - i) v,fun i H x H'=>H'=H/\∀ v,src.has K H (n - 1 - i) v->v=x,fun i _=>i=n⟩
theorem ZS.got {X:Cx} {pins:List (Addr×Obj)} {σ:St} {H:Hp} {s:Shared} {src:ZS} {u:Value} {x:V} {i:Nat} {v:V} (I:Inv X pins σ H s) (r:RelV x u) (hv:src.val X.K H x) (nl:∀ a,src≠.lst a) (hs:∀ z,src=.str z->z.length<=sizeLine) (h:src.has X.K H i v) :
  ∃ (T gid:String) (y:Value->Prop),s.TypeIs u T/\typeLookup (.type T) "__getitem__" = pure (some (.builtin gid))/\(∀ z,y z->RelV v z) /\
   ∀ (A':Around) (E':Value->Shared->Prop) (Q':Value->Shared->Prop) (tk:Tok) (n:Nat),(∀ z k,y z->Q' z { s with toks:=k })->wpAny (model X.prog X.w) A' (getItem u (.int i tk)) Q' E' { s with toks:=n }:=by
 have hn:=lg
 cases src with
 | lst a=>exact absurd rfl (nl a)
 | tup a =>
  obtain ⟨rfl,xs,hq⟩:=hv
  obtain ⟨xs',hq',hx⟩:=h
  rw [I.gJ hq' hq] at hx
  cases r
  obtain ⟨its,rv,pl,hz⟩:=I.tuple hq
  obtain ⟨w,ew,rw'⟩:=rv.get hx
  have hl:=rv.length
  have hi:=(TK.mp hx).1
  refine ⟨"tuple",_,fun z=>z=w,pl.typeIs,slot_tuple_getitem.lookup,fun z e=>e ▸ rw',fun A' E' Q' tk n hq'=>?_⟩
  exact getItem_tuple (s:={ s with toks:=n }) (j:=i) pl (by omega) (by omega) (by rw [T7];exact seqIndex_of (by omega) (by omega)) (by simpa using ew) (hq' w n rfl)
 | str z =>
  cases hv
  obtain ⟨c,hx,rfl⟩:=h
  obtain ⟨t,rfl⟩:=r
  have hi:=(Array.getElem?_eq_some_iff.mp hx).1
  have hl:z.length=z.cps.size:=rfl
  have Tj:=hs z rfl
  refine ⟨"str",_,fun y=>∃ t,y=.str ⟨#[c]⟩ t,typeIs_str s z t,slot_str_getitem.lookup,fun y hy=>hy,fun A' E' Q' tk n hq'=>?_⟩
  refine getItem_str (s:={ s with toks:=n }) (c:=c) (by
   have e1:decide ((i:Int) < -(2 ^ 63:Int))=false:=decide_eq_false (by omega)
   have e2:decide ((i:Int) >= 2 ^ 63)=false:=decide_eq_false (by omega)
   rw [e1,e2,Bool.or_false]) (by rw [seqIndex_of (by omega) (by omega)];simpa using hx) (hq' _ _ ⟨_,rfl⟩)
theorem NS {P:Program} {w:World} {K:Zfr} {tg:Expr} (src:ZS) (u:Value) (n:Nat) (it:Addr) (nl:∀ a,src≠.lst a) (hs:∀ z,src=.str z->z.length<=sizeLine) (x:V) (rx:RelV x u) (hsv:∀ (H:Hp) (v:V) (i:Nat),src.has K H i v->src.val K H x) :
  Turn P w K tg (JK K src n) [it] it (fun i h=>lj h it u ((n:Int) - 1 - (i:Nat))) where
 mem:=by simp
 obj:=fun i h st b hb=>by
  have e:b=it:=by simpa using hb
  subst e
  obtain ⟨o,e,c,d⟩:=st
  exact ⟨o,e,fun v z=>by rw [d] at z;cases z⟩
 keep:=fun i h h' st k=>st.at fun o e=>k it (by simp) o e
 item:=by
  intro X hP hw hK hc i pins s σ H E I hf st hg
  subst hP hw hK
  obtain ⟨hin,v,hv⟩:=hg
  obtain ⟨f0,f1,f2,f3,f4,f5⟩:=hf it (by simp)
  obtain ⟨T,gid,y,hT,hl,hy,hget⟩:=ZS.got I rx (hsv H v _ hv) nl hs hv
  have st':lj s.heap it u ((n - 1 - i:Nat):Int):=by
   have e:((n - 1 - i:Nat):Int)=(n:Int) - 1 - (i:Nat):=by omega
   rw [e];exact st
  refine NP st' hT hl hget fun z h' tk hz hr sb=>?_
  have I1:Inv X pins σ H { s with heap:=h',toks:=tk }:=I.turned (fun b o hb e=>(sb.2 b hb).trans e) f0 f1 f3 f4 f5
  have hr':lj h' it u ((n:Int) - 1 - ((i + 1:Nat):Int)):=by
   have e:(n:Int) - 1 - ((i + 1:Nat):Int)=((n - 1 - i:Nat):Int) - 1:=by omega
   rw [e];exact hr
  obtain ⟨o,e,c,d⟩:=id hr
  exact ⟨z,rfl,C6 (s:={ s with heap:=h',toks:=tk }) e c d (by decide) ⟨v,H,I1,hy z hz,⟨rfl,fun v' hv'=>ZS.sy I hv hv'⟩,hr',fun b hb=>(hf b hb).1⟩⟩
 done:=by
  intro X hP hw hK hc i pins s σ H E I hf st hg
  subst hP hw hK
  have hg:i=n:=hg
  subst hg
  obtain ⟨f0,f1,f2,f3,f4,f5⟩:=hf it (by simp)
  exact NQ (I.ok.hd hc) st (by omega) fun h' eb=>⟨rfl,I.turned (t':=s.toks) (fun b o hb e=>eb b o hb e) f0 f1 f3 f4 f5⟩
 self:=fun _ _ _ _ _ st h=>JJ st h
theorem NT:Slot "reversed" "__init__" "object.__init__" :=
 .of (owner:="object") (n:="__init__") (by rw [typeLookup_type,builtinLookup_eq_fast];kernel_rfl) (by decide +kernel) (by decide +kernel) (by decide +kernel)
  (by first | exact .inl (by decide +kernel) | exact .inr (by decide +kernel)) (by rw [isSubtype_type];kernel_rfl)
theorem JL:TypeCalled "reversed" "reversed.__new__" "object.__init__" :=
 ⟨by decide +kernel,by decide +kernel,⟨_,_,F.mro_reversed⟩,F.made_reversed,by decide +kernel,by rw [isSubtype_type];kernel_rfl,NT⟩
theorem JM {u:Value} {T gid:String} {n:Nat} (h0:typeLookup (.type T) "__reversed__" = pure none) (h1:typeLookup (.type T) "__getitem__" = pure (some (.builtin gid))) (hsub:isSubtype (.type T) (.type "dict")=pure false)
  (Gk:["tuple.__getitem__","str.__getitem__","bytes.__getitem__","bytearray.__getitem__","memoryview.__getitem__","numpy.ndarray.__getitem__","sqlite3.Row.__getitem__"].contains gid=true) :
  Meets (Builtin.«reversed.__new__» ⟨[.type "reversed",u],[]⟩) (fun _ R s=>s.TypeIs u T /\
   (∀ (prog:Program) (w:World) (A':Around) (E':Value->Shared->Prop) (Q':Value->Shared->Prop),(∀ t k,Q' (.int n t) { s with toks:=k })->wpAny (model prog w) A' (call (.builtin "len") [u]) Q' E' s) /\
   ∀ k,R (.ok (.ret (.ref s.heap.objs.size))) { s with heap:=s.heap.push { cls:=.type "reversed",data:=.fields #[u,rawInt ((n:Int) - 1)] },toks:=k }) :=
 .of_wp fun prog w A R s h=>by
 obtain ⟨hT,hlen,h⟩:=h
 unfold Builtin.«reversed.__new__»
 refine wpAny_bind (wpAny_of_eq (newClass_reversed _) ?_)
 try dsimp only
 refine wpAny_bind (wpAny_of_eq (a:=()) (by first | rfl | kernel_rfl) ?_)
 refine wpAny_bind (wpAny_of_eq (a:=()) (by first | rfl | kernel_rfl) ?_)
 try dsimp only
 refine wpAny_bind (wpAny_specialOf hT h0 ?_)
 try dsimp only
 refine wpAny_bind ?_
 show wpAny _ _ (isInstance u (.type "dict") >>= _) _ _ _
 refine wpAny_bind (wpAny_isInstance (b:=false) hT hsub ?_)
 rw [if_neg TX]
 refine wpAny_bind (wpAny_specialOf hT h1 ?_)
 show wpAny _ _ (if ["tuple.__getitem__","str.__getitem__","bytes.__getitem__","bytearray.__getitem__","memoryview.__getitem__","numpy.ndarray.__getitem__","sqlite3.Row.__getitem__"].contains gid=true then _ else _) _ _ _
 rw [if_pos Gk]
 refine wpAny_pure ?_
 rw [if_neg (by simp)]
 refine wpAny_bind (hlen _ _ _ _ _ fun t k=>?_)
 refine wpAny_bind (wpAny_of_eq (a:=some (n:Int)) rfl ?_)
 try dsimp only
 refine wpAny_bind ?_
 show wpAny _ _ (newObj (.type "reversed") (.fields #[u,rawInt ((n:Int) - 1)])) _ _ _
 refine wpAny_newObj_type ?_
 exact wpAny_pure ⟨_,rfl,h k⟩
theorem NU:isSubtype (.type "tuple") (.type "dict")=pure false:=by rw [isSubtype_type];kernel_rfl
theorem NV:isSubtype (.type "str") (.type "dict")=pure false:=by rw [isSubtype_type];kernel_rfl
def Af (K:Zfr) (ta:TA):TI:=fun σ H R=>ta σ H fun vs H1=>∃ (x:V) (src:ZS) (n:Nat),vs=[x]/\src.val K H1 x/\src.fin K H1 n/\(∀ a,src≠.lst a)/\(∀ z,src=.str z->z.length<=sizeLine)/\R (JK K src n) H1
theorem JN {X:Cx} {tg l:Expr} {ta:TA} {p pos:Pos} (hg:Gl X "reversed") (hm:X.mg "reversed" = none) (ha:PA X [l] ta) (hs:starEach [l] X.env=[(false,eval l X.env)]:=by rfl) :
  PI X tg (.Call (.Name "reversed" p) [l] [] pos) (Af X.K ta):=by
 intro pins s σ H R I h
 refine Call_ (yg I hg hm Na (PyProof.Rows.callWith_type1 (cy (ha pos pins s σ H _ I h) fun us s1 ⟨vs,H1,I1,r1,q1⟩=>?_) hs rfl))
 obtain ⟨x,src,n,e,hv,hn,nl,hz,q⟩:=q1
 subst e
 obtain ⟨u,rfl,r⟩:=vals1 r1
 ·have To:=lg
  have hsv:∀ (H:Hp) (v:V) (i:Nat),src.has X.K H i v->src.val X.K H x:=fun H v i hh=>by
   cases src with
   | tup a=>obtain ⟨xs,h1,_⟩:=hh;exact ⟨hv.1,xs,h1⟩
   | lst a=>exact absurd rfl (nl a)
   | str z=>exact hv
  have fin:∀ k,wpAny (model X.prog X.w) X.A (pyIter (.ref s1.heap.objs.size)) (Fv X pins σ tg R) X.xe { s1 with heap:=s1.heap.push { cls:=.type "reversed",data:=.fields #[u,rawInt ((n:Int) - 1)] },toks:=k }:=fun k=>by
   have g:lj (s1.heap.push { cls:=.type "reversed",data:=.fields #[u,rawInt ((n:Int) - 1)] }) s1.heap.objs.size u ((n:Int) - 1 - (0:Nat)):=⟨_,Ug _ rfl,rfl,by simp⟩
   refine JJ g ?_
   refine ⟨s1.heap.objs.size,[s1.heap.objs.size],_,_,H1,rfl,I1.kept (t':=k) fun b o e=>T8 _ e,NS src u n _ nl hz x r hsv,g,fun b hb=>?_,q⟩
   have e:b=s1.heap.objs.size:=by simpa using hb
   subst e
   exact I1.oX (TM _) (I1.hok.fresh (TM _))
  cases src with
  | lst a=>exact absurd rfl (nl a)
  | tup a =>
   obtain ⟨rfl,xs,hq⟩:=id hv
   obtain ⟨xs',hq',hx⟩:=hn
   have hx:xs.length=n:=by rw [<- I1.gJ hq' hq];exact hx
   cases r
   obtain ⟨its,rv,pl,hz'⟩:=I1.tuple hq
   have hl:=rv.length
   refine callType_new JL (by decide) (F.typeCall_reversed_1 _) (F.newCall_reversed_1 _) (fun obj=>F.args_object_init_2 obj _) F.entry_reversed_new (JM (n:=n) NM slot_tuple_getitem.lookup NU (by decide)) ⟨pl.typeIs,fun prog w A' E' Q' hq=>?_,fun k=>⟨⟨_,Ug _ rfl,rfl⟩,fin k⟩⟩
   have e:its.toArray.size=n:=by rw [T7];omega
   refine len_tuple pl (by rw [e];omega) ?_
   rw [e]
   exact hq _ _
  | str z =>
   cases hv
   have hn:z.length=n:=hn
   have:=hz z rfl
   obtain ⟨t,rfl⟩:=r
   refine callType_new JL (by decide) (F.typeCall_reversed_1 _) (F.newCall_reversed_1 _) (fun obj=>F.args_object_init_2 obj _) F.entry_reversed_new (JM (n:=n) NN slot_str_getitem.lookup NV (by decide)) ⟨typeIs_str _ z t,fun prog w A' E' Q' hq=>?_,fun k=>⟨⟨_,Ug _ rfl,rfl⟩,fin k⟩⟩
   refine len_str (by omega) ?_
   rw [hn]
   exact hq _ _
open Builtin
section
variable {X:Cx}
end
section
variable {prog:Program} {w:World} {A:Around} {E:Value->Shared->Prop} {s:Shared}
end
section
variable {X:Cx} {pos:Pos}
end
section
variable {prog:Program} {w:World} {A:Around} {E:Value->Shared->Prop} {s:Shared}
end
section
variable {prog:Program} {w:World} {A:Around} {E:Value->Shared->Prop} {s:Shared}
end
section
variable {X:Cx} {pos:Pos}
end
def DU (a:Addr) (xs:List (List Int×Addr×Value)):HO:=.ext fun h=>(a == sysModules)=false/\xs.length<=sizeLine/\∃ o es ep,h.get? a=some o/\o.ExactDict/\o.data=.dict es ep /\
 (∃ (P:Program) (w:World),es.toList=xs.map (entryOfKey (tupleKind (intKind P w))))/\(xs.map (·.1)).Nodup
section
variable {X:Cx} {pins:List (Addr×Obj)} {σ:St} {H:Hp} {s:Shared} {a b:Addr} {k:List Int} {xs:List (List Int×Addr×Value)}
end
section
variable {X:Cx} {o i e value:Expr} {pos pos' tpos:Pos} {td ty tv:TE}
end
end L2
namespace L2
open PySem PySem.Spec PyProof.Rows PySem.SeqAt PySem.MeetsSeq
def nG (A:Around) (s:Shared) (y x:Value) (r:Bool):Prop:=∀ (prog:Program) (w:World) (E Q:Value->Shared->Prop),Q (.bool r) s->wpAny (model prog w) A (richCompare .Lt y x) Q E s
def cC (e lt:Nat->Bool) (fin:Bool):List Nat->Bool
 | []=>fin
 | i :: r=>if e i then cC e lt fin r else lt i
theorem NW (l m:Addr) (a b:Array Value) (n1 n2:Nat) (d1 d2:Option Addr) (s1 s2:Array (Option Value)) (e lt:Nat->Bool) :
  Meets (Builtin.«tuple.__lt__» ⟨[.ref l,.ref m],[]⟩) (fun A R s=>s.heap.get? l=some { cls:=.type "tuple",dict:=d1,data:=.seq a n1,slots:=s1 }/\s.heap.get? m=some { cls:=.type "tuple",dict:=d2,data:=.seq b n2,slots:=s2 } /\
    (∀ j (h1:j < a.size) (h2:j < b.size),EqAt A.in1 s a[j] b[j] (e j))/\(∀ j (h1:j < a.size) (h2:j < b.size),e j=false->nG A.in1 s a[j] b[j] (lt j))/\R (.ok (.ret (.bool (cC e lt (decide (a.size < b.size)) (List.range (min a.size b.size)))))) s) :=
 .of_wp fun prog w A R s h=>by
  obtain ⟨hp,g,d,tk,os⟩:=s
  obtain ⟨hl,hm,he,hlt,h⟩:=h
  have f2:=AutoSeq1.sub_tuple_tuple
  have hZ:(a.toList.zip b.toList).length=min a.size b.size:=by simp
  wp_walk using wpAny_loadPart' hl,wpAny_loadPart' hm,wpAny_forIn_list _ (fun rest q s'=>q.1=none/\s'=⟨hp,g,d,tk,os⟩/\∃ i,rest=(a.toList.zip b.toList).drop i/\R (.ok (.ret (.bool (cC e lt (decide (a.size < b.size)) ((List.range (min a.size b.size)).drop i))))) ⟨hp,g,d,tk,os⟩) _
  case turn =>
   rintro ⟨y,x⟩ rest q s' ⟨hq,rfl,i,hz,hR⟩
   have hil:i < (a.toList.zip b.toList).length:=by
    rcases Vn i (a.toList.zip b.toList).length with k | k
    ·exact k
    ·rw [VA k] at hz;cases hz
   have hmn:i < min a.size b.size:=hZ ▸ hil
   have g1:i < a.size:=by omega
   have g2:i < b.size:=by omega
   rw [U9 hil] at hz
   injection hz with hyx hrest
   have hy:y=a[i]:=by simpa using congrArg Prod.fst hyx
   have hx:x=b[i]:=by simpa using congrArg Prod.snd hyx
   subst hy hx
   have hd:(List.range (min a.size b.size)).drop i=i :: (List.range (min a.size b.size)).drop (i + 1):=by simp [U9,hmn]
   rw [hd,cC] at hR
   refine wpAny_bind (he i g1 g2 prog w _ _ ?_)
   cases hei:e i with
   | true =>
    rw [hei] at hR
    wp_walk
    exact ⟨rfl,rfl,i + 1,hrest,hR⟩
   | false =>
    rw [hei] at hR
    refine wpAny_bind (wpAny_rule (wpAny_bind (hlt i g1 g2 hei prog w _ _ ?_)))
    wp_walk
    exact ⟨_,rfl,hR⟩
  case fin =>
   rintro ⟨q1,q2⟩ s' ⟨hq,rfl,i,hz,hR⟩
   simp only at hq
   subst hq
   have hge:min a.size b.size<=i:=by
    rcases Vn i (a.toList.zip b.toList).length with k | k
    ·rw [U9 k] at hz;cases hz
    ·exact hZ ▸ k
   rw [VA (by simpa using hge),cC] at hR
   wp_walk
   exact ⟨_,rfl,by simpa [Builtin.Tuple.tupleCompareSizes] using hR⟩
  case h =>
   exact ⟨rfl,rfl,0,rfl,by simpa using h⟩
theorem nG.tuples {A:Around} {s:Shared} {l m:Addr} {a b:Array Value} {e lt:Nat->Bool} (hl:s.heap.IsTuple l a) (hm:s.heap.IsTuple m b) (hu:A.units < cLine)
  (he:∀ j (h1:j < a.size) (h2:j < b.size),EqAt A.in1 s a[j] b[j] (e j)) (hlt:∀ j (h1:j < a.size) (h2:j < b.size),e j=false->nG A.in1 s a[j] b[j] (lt j)) :
  nG A s (.ref l) (.ref m) (cC e lt (decide (a.size < b.size)) (List.range (min a.size b.size))):=fun prog w E Q h=>by
 obtain ⟨⟨c1,d1,t1,s1⟩,o1,k1,n1,j1⟩:=hl
 obtain ⟨⟨c2,d2,t2,s2⟩,o2,k2,n2,j2⟩:=hm
 simp only at k1 j1 k2 j2
 subst k1 j1 k2 j2
 exact richCompare_meets_room (op:=.Lt) ⟨_,o1,rfl⟩ ⟨_,o2,rfl⟩ F.slot_tuple_lt F.entry_tuple_lt (F.args_tuple_lt_2 _ _) (NW l m a b n1 n2 d1 d2 s1 s2 e lt)
  ⟨o1,o2,he,hlt,show Value.bool (cC e lt (decide (a.size < b.size)) (List.range (min a.size b.size)))≠Value.notImplemented/\Q (.bool (cC e lt (decide (a.size < b.size)) (List.range (min a.size b.size)))) s from ⟨(fun x=>nomatch x),h⟩⟩ hu
mutual
def yt:PyData->PyData->Bool
 | .int a,.int b=>decide (a < b)
 | .tuple xs,.tuple ys=>mx xs ys
 | _,_=>false
def mx:List PyData->List PyData->Bool
 | [],[]=>false
 | [],_ :: _=>true
 | _ :: _,[]=>false
 | x :: xs,y :: ys=>if PyData.eqv x y then mx xs ys else yt x y
end
mutual
def qE:PyData->PyData->Bool
 | .int _,.int _=>true
 | .tuple xs,.tuple ys=>nH xs ys
 | _,_=>false
def nH:List PyData->List PyData->Bool
 | [],_=>true
 | _ :: _,[]=>true
 | x :: xs,y :: ys=>qE x y && nH xs ys
end
theorem JO (e lt:Nat->Bool) (fin:Bool) (f:Nat->Nat):∀ l:List Nat,cC e lt fin (l.map f)=cC (fun i=>e (f i)) (fun i=>lt (f i)) fin l
 | []=>rfl
 | i :: r=>by
  show (if e (f i) then cC e lt fin (r.map f) else lt (f i))=if e (f i) then _ else lt (f i)
  rw [JO e lt fin f r]
def o5 (xs ys:List PyData) (j:Nat):Bool:=yt (xs.getD j .none) (ys.getD j .none)
theorem JP:∀ xs ys:List PyData,cC (pairEq xs ys) (o5 xs ys) (decide (xs.length < ys.length)) (List.range (min xs.length ys.length))=mx xs ys
 | [],[]=>rfl
 | [],_ :: _=>by simp [cC,mx]
 | _ :: _,[]=>by simp [cC,mx]
 | x :: xs,y :: ys=>by
  have ih:=JP xs ys
  have e1:min (x :: xs).length (y :: ys).length=min xs.length ys.length + 1:=by simp only [Uo];omega
  have e2:decide ((x :: xs).length < (y :: ys).length)=decide (xs.length < ys.length):=by simp
  rw [e1,e2,List.range_succ_eq_map,cC,JO]
  show (if PyData.eqv x y then cC (pairEq xs ys) (o5 xs ys) (decide (xs.length < ys.length)) (List.range (min xs.length ys.length)) else yt x y)=_
  rw [ih,mx]
mutual
theorem JQ:∀ (da db:PyData) (A:Around) (s:Shared) (a b:Value) (as bs:List Addr),Reads s.heap a da as->Reads s.heap b db bs->qE da db=true->da.canLay0=true->db.canLay0=true->A.units + min da.depth db.depth < cLine->nG A s a b (yt da db)
 | .int x,.int y,A,s,_,_,_,_,ra,rb,_,_,_,_=>by
  cases ra with
  | int _ t =>
   cases rb with
   | int _ u=>exact fun prog w E Q h=>richCompare_gives (op:=.Lt) (typeIs_int s _ t) (typeIs_int s _ u) F.slot_int_lt F.entry_int_lt (F.args_int_lt_2 _ _) (gives_int_lt _ _ t u) (fun x=>nomatch x) h
 | .tuple xs,.tuple ys,A,s,_,_,_,_,ra,rb,ok,ha,hb,hu=>by
  cases ra with
  | @tuple l o vs n _ Tp h1 h2 h3 h4 =>
   cases rb with
   | @tuple l' o' vs' n' _ Tq k1 k2 k3 k4 =>
    have t1:s.heap.IsTuple l vs:=⟨_,h1,h2,_,h3⟩
    have t2:s.heap.IsTuple l' vs':=⟨_,k1,k2,_,k3⟩
    have n1:vs.size=xs.length:=by simpa using ReadsAll.length _ _ _ h4
    have n2:vs'.size=ys.length:=by simpa using ReadsAll.length _ _ _ k4
    show nG A s (.ref l) (.ref l') (mx xs ys)
    rw [<- JP xs ys,<- n1,<- n2]
    refine nG.tuples t1 t2 (room_here hu) (fun j j1 j2=>?_) (fun j j1 j2 _=>?_)
    ·have z:=eqAt_readsAll xs ys A.in1 s vs.toList vs'.toList _ _ h4 k4 ha hb (room_in hu) j (by simpa using j1) (by simpa using j2)
     simpa using z
    ·have z:=JR xs ys A.in1 s vs.toList vs'.toList _ _ h4 k4 ok ha hb (room_in hu) j (by simpa using j1) (by simpa using j2)
     simpa using z
 | .int _,.none,_,_,_,_,_,_,_,_,ok,_,_,_=>nomatch ok
 | .int _,.bool _,_,_,_,_,_,_,_,_,ok,_,_,_=>nomatch ok
 | .int _,.str _,_,_,_,_,_,_,_,_,ok,_,_,_=>nomatch ok
 | .int _,.list _,_,_,_,_,_,_,_,_,ok,_,_,_=>nomatch ok
 | .int _,.tuple _,_,_,_,_,_,_,_,_,ok,_,_,_=>nomatch ok
 | .int _,.dict _,_,_,_,_,_,_,_,_,ok,_,_,_=>nomatch ok
 | .tuple _,.none,_,_,_,_,_,_,_,_,ok,_,_,_=>nomatch ok
 | .tuple _,.bool _,_,_,_,_,_,_,_,_,ok,_,_,_=>nomatch ok
 | .tuple _,.int _,_,_,_,_,_,_,_,_,ok,_,_,_=>nomatch ok
 | .tuple _,.str _,_,_,_,_,_,_,_,_,ok,_,_,_=>nomatch ok
 | .tuple _,.list _,_,_,_,_,_,_,_,_,ok,_,_,_=>nomatch ok
 | .tuple _,.dict _,_,_,_,_,_,_,_,_,ok,_,_,_=>nomatch ok
 | .none,_,_,_,_,_,_,_,_,_,ok,_,_,_=>by simp [qE] at ok
 | .bool _,_,_,_,_,_,_,_,_,_,ok,_,_,_=>by simp [qE] at ok
 | .str _,_,_,_,_,_,_,_,_,_,ok,_,_,_=>by simp [qE] at ok
 | .list _,_,_,_,_,_,_,_,_,_,ok,_,_,_=>by simp [qE] at ok
 | .dict _,_,_,_,_,_,_,_,_,_,ok,_,_,_=>by simp [qE] at ok
theorem JR:∀ (xs ys:List PyData) (A:Around) (s:Shared) (vs ws:List Value) (as bs:List Addr),ReadsAll s.heap vs xs as->ReadsAll s.heap ws ys bs->nH xs ys=true->PyData.canLayAll0 xs=true->PyData.canLayAll0 ys=true->A.units + min (PyData.depthAll xs) (PyData.depthAll ys) < cLine->∀ j (h1:j < vs.length) (h2:j < ws.length),nG A s vs[j] ws[j] (o5 xs ys j)
 | [],_,_,_,_,_,_,_,ra,_,_,_,_,_,j,h1,_=>by cases ra;exact absurd h1 (UE _)
 | _ :: _,[],_,_,_,_,_,_,_,rb,_,_,_,_,j,_,h2=>by cases rb;exact absurd h2 (UE _)
 | x :: xs,y :: ys,A,s,_,_,_,_,ra,rb,ok,ha,hb,hu,j,h1,h2=>by
  have a':x.canLay0=true/\PyData.canLayAll0 xs=true:=by simpa [PyData.canLayAll0] using ha
  have b':y.canLay0=true/\PyData.canLayAll0 ys=true:=by simpa [PyData.canLayAll0] using hb
  have o':qE x y=true/\nH xs ys=true:=by simpa [nH] using ok
  cases ra with
  | cons r rs =>
   cases rb with
   | cons r' rs' =>
    cases j with
    | zero=>exact JQ x y A s _ _ _ _ r r' o'.1 a'.1 b'.1 (room_head hu)
    | succ j=>exact JR xs ys A s _ _ _ _ rs rs' o'.2 a'.2 b'.2 (room_tail hu) j (Nat.lt_of_succ_lt_succ h1) (Nat.lt_of_succ_lt_succ h2)
end
section
variable {prog:Program} {w:World} {A:Around} {R:Result->Shared->Prop} {I:Addr} {fp wr:List Addr} {n:Nat} {P:Nat->Value->Prop} {St:Nat->Heap->Prop}
def jb (a b:Heap):Prop:=∀ x o,a.get? x=some o->b.get? x=some o
def vP (A:Around) (h0:Heap) (P:Nat->Value->Prop) (bt:Nat->Nat->Bool):Prop:=∀ i j vi vj (s:Shared),jb h0 s.heap->P i vi->P j vj->nG A s vi vj (bt i j)
theorem Dr:(toString "min" ++ toString ".loop" : String)="min.loop" := by decide
theorem Gm (W:Walks prog w A.in1 I fp wr n P St) (bt:Nat->Nat->Bool) {h0:Heap} (hcmp:vP A.in1 h0 P bt) (S:Addr) (hSf:S ∉ fp) (vQ:h0.get? S=none) (hw0:∀ b∈wr,h0.get? b=none) :
  ∀ (k j:Nat) (s:Shared) (vb:Value) (c:Nat),n - (j + 1)=k->j + 1<=n->St (j + 1) s.heap->P (argBest bt j) vb->jb h0 s.heap->s.heap.get? S=some { cls:=.type "list",dict:=none,data:=.seq #[vb,vb] c,slots:=#[] } ->
  (∀ v h' tk,P (argBest bt (n - 1)) v->jb h0 h'->R (.ok (.ret v)) { s with heap:=h',toks:=tk })->codeAny (model prog w) A (.builtin "min.loop" ⟨[.ref I,.none,.ref S],[]⟩) R s
 | 0,j,s,vb,c,hk,hj,hst,Ds,hK,hS,hR=>by
  have Ag:S ∉ wr:=fun z=>hSf (W.sub S z)
  have hin:n=j + 1:=by omega
  subst hin
  refine codeAny_builtin F.entry_min_loop ?_
  rw [Around.under_plainId F.plain_min_loop (A:=A) _]
  show wpAny (model prog w) A.in1 (seqItems? (.ref S) >>= _) _ _ _
  refine wpAny_bind (wpAny_seqItems hS rfl ?_)
  show wpAny (model prog w) A.in1 (tryCatch (pyNext (.ref I)) _ >>= _) _ _ _
  refine wpAny_bind (wpAny_tryCatch (W.done s _ _ hst fun h' tk hk'=>?_))
  have hS':=hk' S _ Ag hS
  show wpAny (model prog w) A.in1 (updateSeq S (fun _=>#[]) >>= _) _ _ _
  refine wpAny_bind (wpAny_updateSeq hS' rfl (wpAny_bind (wpAny_letGo (wpAny_pure (hR vb _ tk Ds fun b o e=>?_)))))
  have hb1:b ∉ wr:=fun z=>by rw [hw0 b z] at e;cases e
  have hb2:S≠b:=fun z=>by rw [<- z,vQ] at e;cases e
  exact (UI _ _ hb2).trans (hk' b o hb1 (hK b o e))
 | k + 1,j,s,vb,c,hk,hj,hst,Ds,hK,hS,hR=>by
  have Ag:S ∉ wr:=fun z=>hSf (W.sub S z)
  have hlt:j + 1 < n:=by omega
  refine codeAny_builtin F.entry_min_loop ?_
  rw [Around.under_plainId F.plain_min_loop (A:=A) _]
  show wpAny (model prog w) A.in1 (seqItems? (.ref S) >>= _) _ _ _
  refine wpAny_bind (wpAny_seqItems hS rfl ?_)
  show wpAny (model prog w) A.in1 (tryCatch (pyNext (.ref I)) _ >>= _) _ _ _
  refine wpAny_bind (wpAny_tryCatch (W.item (j + 1) s _ _ hlt hst fun v h' tk hP sC hk'=>?_))
  have hS':=hk' S _ Ag hS
  have Ah:jb h0 h':=fun b o e=>hk' b o (fun z=>by rw [hw0 b z] at e;cases e) (hK b o e)
  show wpAny (model prog w) A.in1 (tryCatch (holding [v,v] (richCompare .Lt v vb >>= _)) _ >>= _) _ _ _
  refine wpAny_bind (wpAny_tryCatch (wpAny_holding (wpAny_bind (hcmp (j + 1) (argBest bt j) v vb _ Ah hP Ds prog w _ _ ?_))))
  refine wpAny_bind (wpAny_holding (wpAny_truthy_bool (wpAny_bind (wpAny_letGo (wpAny_pure ?_)))))
  cases hb:bt (j + 1) (argBest bt j) with
  | true =>
   simp only [if_true]
   refine wpAny_bind (wpAny_updateSeq hS' rfl (wpAny_bind (wpAny_letGo ?_)))
   rw [Dr]
   have Gn:jb h0 (h'.update S (Obj.mapSeq fun _=>#[v,v])):=fun b o e=>(UI _ _ (fun z=>by rw [<- z,vQ] at e;cases e)).trans (Ah b o e)
   refine wpAny_pure ⟨plainId_quiet F.plain_min_loop _,Gm W bt hcmp S hSf vQ hw0 k (j + 1) _ v _ (by omega) hlt (W.frame _ _ _ sC fun b Gp o e=>?_) (by simp only [argBest,hb,if_true];exact hP) Gn (UU _ hS' rfl) fun v' h'' qF Ai qG=>hR v' h'' qF Ai qG⟩
   exact (UI _ _ (fun z:S=b=>hSf (z ▸ Gp))).trans e
  | false =>
   simp only [UK,if_false]
   refine wpAny_bind (wpAny_letGo ?_)
   rw [Dr]
   exact wpAny_pure ⟨plainId_quiet F.plain_min_loop _,Gm W bt hcmp S hSf vQ hw0 k (j + 1) _ vb c (by omega) hlt sC (by simp only [argBest,hb,UK,if_false];exact Ds) Ah hS' fun v' h'' qF Ai qG=>hR v' h'' qF Ai qG⟩
theorem NX (W:Walks prog w A.in1 I fp wr n P St) (bt:Nat->Nat->Bool) {h0:Heap} (hcmp:vP A.in1 h0 P bt) (S:Addr) (hSf:S ∉ fp) (vQ:h0.get? S=none) (hw0:∀ b∈wr,h0.get? b=none) (hn:0 < n) {s:Shared} {c:Nat} (hst:St 0 s.heap) (hK:jb h0 s.heap)
  (hS:s.heap.get? S=some { cls:=.type "list",dict:=none,data:=.seq #[] c,slots:=#[] }) (hR:∀ v h' tk,P (argBest bt (n - 1)) v->jb h0 h'->R (.ok (.ret v)) { s with heap:=h',toks:=tk }) :
  codeAny (model prog w) A (.builtin "min.loop" ⟨[.ref I,.none,.ref S],[]⟩) R s:=by
 have Ag:S ∉ wr:=fun z=>hSf (W.sub S z)
 refine codeAny_builtin F.entry_min_loop ?_
 rw [Around.under_plainId F.plain_min_loop (A:=A) _]
 show wpAny (model prog w) A.in1 (seqItems? (.ref S) >>= _) _ _ _
 refine wpAny_bind (wpAny_seqItems hS rfl ?_)
 show wpAny (model prog w) A.in1 (tryCatch (pyNext (.ref I)) _ >>= _) _ _ _
 refine wpAny_bind (wpAny_tryCatch (W.item 0 s _ _ hn hst fun v h' tk hP sC hk'=>?_))
 have hS':=hk' S _ Ag hS
 have Ah:jb h0 h':=fun b o e=>hk' b o (fun z=>by rw [hw0 b z] at e;cases e) (hK b o e)
 show wpAny (model prog w) A.in1 (updateSeq S (fun _=>#[v,v]) >>= _) _ _ _
 refine wpAny_bind (wpAny_updateSeq hS' rfl ?_)
 rw [Dr]
 have Gn:jb h0 (h'.update S (Obj.mapSeq fun _=>#[v,v])):=fun b o e=>(UI _ _ (fun z=>by rw [<- z,vQ] at e;cases e)).trans (Ah b o e)
 refine wpAny_pure ⟨plainId_quiet F.plain_min_loop _,Gm W bt hcmp S hSf vQ hw0 _ 0 _ v _ rfl hn (W.frame _ _ _ sC fun b Gp o e=>?_) hP Gn (UU _ hS' rfl) fun v' h'' qF Ai qG=>hR v' h'' qF Ai qG⟩
 exact (UI _ _ (fun z:S=b=>hSf (z ▸ Gp))).trans e
end
section
variable {prog:Program} {w:World} {A:Around} {E:Value->Shared->Prop} {s:Shared}
theorem NY {p:Addr} {its:Array Value} {bt:Nat->Nat->Bool} {Q:Value->Shared->Prop} (hh:A.handled=none) (hl:s.heap.IsList p its) (hn:0 < its.size) (hcmp:vP A.in1 s.heap (fun i v=>its[i]?=some v) bt)
  (hQ:∀ v h' tk,its[argBest bt (its.size - 1)]?=some v->jb s.heap h'->Q v { s with heap:=h',toks:=tk }):wpAny (model prog w) A (call (.builtin "min") [.ref p]) Q E s:=by
 have hlt:p < s.heap.objs.size:=by obtain ⟨_,e,_⟩:=hl;exact Ue e
 have e0:s.heap.get? s.heap.objs.size=none:=by
  cases q:s.heap.get? s.heap.objs.size with
  | none=>rfl
  | some o=>exact absurd (Ue q) (Vt _)
 have e1:s.heap.get? (s.heap.objs.size + 1)=none:=by
  cases q:s.heap.get? (s.heap.objs.size + 1) with
  | none=>rfl
  | some o=>exact absurd (Ue q) (Nat.not_lt_of_le (Vz _))
 refine call_function_tree F.kind_min F.plain_min F.entry_min (F.args_min1 _) ?_
 show wpAny (model prog w) A.in1 (Builtin.Builtins.bindParams "min" ["key","default"] 0 ⟨[],[]⟩ >>= _) _ _ _
 refine wpAny_bind (wpAny_of_eq (show Builtin.Builtins.bindParams "min" ["key","default"] 0 ⟨[],[]⟩=pure [none,none] from rfl) (wpAny_bind (wpAny_pure ?_)))
 refine wpAny_bind (wpAny_pyIter_list hl (wpAny_bind (wpAny_newObj_type ?_)))
 have hsz:(s.heap.push { cls:=.type "list_iterator",data:=.fields #[.ref p,.int 0 0] }).objs.size=s.heap.objs.size + 1:=Vc ..
 have hne:p≠s.heap.objs.size:=UA hlt
 rw [Dr]
 have k1:jb s.heap ((s.heap.push { cls:=.type "list_iterator",data:=.fields #[.ref p,.int 0 0] }).push { cls:=.type "list",data:=.seq #[] }):=fun b o e=>T8 _ (T8 _ e)
 refine wpAny_pure ⟨plainId_quiet F.plain_min_loop _,?_⟩
 show codeAny (model prog w) A (.builtin "min.loop" ⟨[.ref s.heap.objs.size,.none,.ref (s.heap.push { cls:=.type "list_iterator",data:=.fields #[.ref p,.int 0 0] }).objs.size],[]⟩) _ _
 rw [hsz]
 refine NX (c:=0) (Walks.list (A:=A.in1) hh s.heap.objs.size p hne its) bt hcmp (s.heap.objs.size + 1) (fun z=>?_) e1 (fun b hb=>?_) hn ?_ k1 ?_ fun v h' tk hv hk=>hQ v h' tk hv hk
 ·rcases Up.mp z with z | z
  ·exact absurd z (Nat.succ_ne_self _)
  ·have:s.heap.objs.size + 1=p:=Ud.mp z
   exact absurd hlt (by rw [<- this];exact Nat.not_lt_of_le (Vz _))
 ·rw [Ud.mp hb];exact e0
 ·exact ⟨⟨_,T8 _ (Ug _ rfl),rfl,rfl⟩,(hl.push _).push _⟩
 ·rw [<- hsz];exact Ug _ rfl
end
theorem Gq {h:Heap}:∀ {us:List Value} {ds:List PyData} {as:List Addr} {i:Nat} {v:Value},ReadsAll h us ds as->us[i]?=some v->∃ as',Reads h v (ds.getD i .none) as'/\ds.getD i .none∈ds
 | _,_,_,_,_,.nil,e=>by simp at e
 | _,_,_,0,_,.cons r _,e=>by simp at e;subst e;exact ⟨_,r,TU⟩
 | _,_,_,i + 1,v,.cons _ rs,e=>by
  obtain ⟨as',r,m⟩:=Gq (i:=i) (v:=v) rs (by simpa using e)
  exact ⟨as',r,TY _ m⟩
section
variable {X:Cx}
def sD (ds:List PyData) (i j:Nat):Bool:=yt (ds.getD i .none) (ds.getD j .none)
def mW (ds:List PyData):Nat:=argBest (sD ds) (ds.length - 1)
def ug (K:Zfr):List V->Hp->VK->Prop:=fun xs H Q=>∃ (p:Addr) (vs:List V) (ds:List PyData),xs=[.ref p]/\iZ K H p vs/\eN K H vs ds/\0 < ds.length/\(∀ a∈ds,∀ b∈ds,qE a b=true)/\(∀ a∈ds,a.canLay0=true/\a.depth<=50)/\∃ v,vs[mW ds]?=some v/\Q v H
theorem JS (hc:X.calm=true) (hu:X.A.units + 64 < cLine):fB X (.builtin "min") (ug X.K):=by
 intro pins s σ H xs us Q I r h
 obtain ⟨p,vs,ds,rfl,hq,hr,hn,hok,hlay,v0,hv0,q⟩:=h
 obtain ⟨u,rfl,ru⟩:=vals1 r
 cases ru
 obtain ⟨its,rv,pl,_⟩:=I.list hq
 obtain ⟨as,ra⟩:=eN.reads I hr rv
 have hlen:its.length=ds.length:=ReadsAll.length _ _ _ ra
 refine NY (bt:=sD ds) (I.ok.hd hc) pl.isList (by rw [T7];omega) (fun i j vi vj s' hK hi hj=>?_) fun v h' tk hv hk=>?_
 ·have hi':its[i]?=some vi:=by simpa using hi
  have hj':its[j]?=some vj:=by simpa using hj
  obtain ⟨a1,r1,m1⟩:=Gq ra hi'
  obtain ⟨a2,r2,m2⟩:=Gq ra hj'
  have b1:=(hlay _ m1).2
  have b2:=(hlay _ m2).2
  exact JQ _ _ _ s' _ _ _ _ (Reads.keeps hK r1) (Reads.keeps hK r2) (hok _ m1 _ m2) (hlay _ m1).1 (hlay _ m2).1 (by show X.A.units + 1 + _ < cLine;omega)
 ·have hv':its[mW ds]?=some v:=by
   have e:its.toArray.size - 1=ds.length - 1:=by rw [T7,hlen]
   rw [e] at hv
   unfold mW
   simpa using hv
  obtain ⟨u,JT,ru⟩:=Vals.get rv hv0
  rw [hv'] at JT
  cases JT
  exact ⟨v0,H,I.kept hk,ru,q⟩
end
end L2
namespace L2
open PySem PySem.Spec PyProof.Rows PySem.W
section
variable {lt:Nat->Nat->Bool} {n0:Nat} {cmp:Nat->Nat->(Bool->Shared->Prop)->Shared->Prop} {s:Shared}
structure Ord (lt:Nat->Nat->Bool):Prop where
 tr:∀ a b c,lt b a=false->lt c b=false->lt c a=false
 as:∀ a b,lt a b=true->lt b a=false
def P (p:Array Nat) (i:Nat):Nat:=p.getD i 0
variable (o:Ord lt) (hn:0 < n0) (hc:∀ i j (C:Bool->Shared->Prop),i < n0->j < n0->C (lt i j) s->cmp i j C s)
include o hn hc
end
section
variable {prog:Program} {w:World} {A:Around} {E:Value->Shared->Prop} {s:Shared}
end
section
variable {prog:Program} {w:World} {A:Around} {E:Value->Shared->Prop} {s:Shared} {lt:Nat->Nat->Bool}
end
section
variable {X:Cx}
end
end L2
namespace L2
open PySem PySem.Spec PyProof.Rows
section
variable {X:Cx} {o e f:Expr} {apos cpos:Pos} {td ty tx:TE}
end
end L2
namespace L2
open PySem PySem.Spec PyProof.Rows PySem.W
section
variable {X:Cx} {o e:Expr} {t t' td:TE} {apos cpos pos p:Pos}
end
end L2
namespace L2
open PySem PySem.Spec PyProof.Rows
section
variable {X:Cx} {body:List Stmt} {h₀:ExceptHandler} {hs:List ExceptHandler} {pos:Pos} {t:TS}
end
section
variable {X:Cx} {K:Zfr}
end
open Builtin
end L2
namespace L2
open PySem PySem.Spec PyProof.Rows
section
variable {X:Cx} {K:Zfr}
end
end L2
namespace L2
open PySem PySem.Spec PyProof.Rows PySem.W
section
variable {prog:Program} {w:World} {A:Around} {E:Value->Shared->Prop} {s:Shared}
end
end L2
namespace L2
open PySem PySem.Spec PyProof.Rows
section
variable {M:Model} {A:Around} {E:Value->Shared->Prop} {s:Shared}
end
def NZ:Option Addr->Value
 | none=>.none
 | some T=>.ref T
def XO (a C:Addr) (dx tr:Option Addr):HO:=.ext fun h=>∃ o vs,h.get? a=some o/\o.cls=.ref C/\o.dict=dx/\o.data=.fields vs/\vs[1]?=some (NZ tr)
section
variable {P:Program} {w:World} {H H' H2:Hp} {h h':Heap} {a C T:Addr} {dx tr:Option Addr} {o:HO}
end
section
variable {X:Cx} {pins:List (Addr×Obj)} {σ:St} {H:Hp} {s:Shared} {a C:Addr} {dx:Option Addr}
end
section
variable {P:Program} {w:World} {K:Zfr} {mg:Str->Option Value} {base:Heap} {N:List Str} {qual:Str} {scope:Scope} {f:Addr} {cd:Value} {A:Around} {outer:List Env} {s0:Shared} {H0:Hp} {E:XK}
end
section
open PySem.W
end
section
variable {X:Cx} {pins:List (Addr×Obj)} {σ:St} {H:Hp} {s:Shared} {a C:Addr} {dx:Option Addr}
end
section
variable {P:Program} {w:World} {K:Zfr} {mg:Str->Option Value} {base:Heap} {N:List Str} {qual:Str} {scope:Scope} {f:Addr} {cd:Value} {A:Around} {outer:List Env} {s0:Shared} {H0:Hp} {E:XK}
end
section
variable {X:Cx} {pins:List (Addr×Obj)} {σ:St} {H:Hp} {s:Shared} {W:St->Addr->Hp->Prop} {a:Addr}
end
section
variable {X:Cx} {i:Nat} {x n:Str} {F:Addr} {bmB:List Value} {newId:String} {tb:(St->Addr->Hp->Prop)->TS} {ts:TS} {body suite:List Stmt} {b0:Stmt} {np hpos pos:Pos}
end
section
variable {X:Cx} {k:Nat} {f:Addr} {fd:FuncData} {ps:List Str} {sp:Sp} {x:Str} {p pos:Pos} {e:Expr} {es:List Expr} {t:TA} {pins:List (Addr×Obj)} {W:St->Addr->Hp->Prop}
end
end L2
namespace L2
open PySem PySem.Spec PyProof.Rows PySem.W
section
variable {prog:Program} {w:World} {A:Around} {E:Value->Shared->Prop} {s:Shared} {K:Frag} {a C:Addr} {ox:Obj} {odo:Option Obj} {name:Str}
end
section
variable {X:Cx} {x:Str} {c:Value} {v:V} {p pos:Pos} {e:Expr} {te:TE} {b:Bool}
end
end L2
namespace L2
open PySem PySem.Spec PyProof.Rows
section
variable {X:Cx}
end
end L2
namespace L2
open PySem PySem.Spec PyProof.Rows PySem.W PySem.Builtin PySem.Builtin.ObjectAttr
section
variable {prog:Program} {w:World} {A:Around} {E:Value->Shared->Prop} {s:Shared} {K:Frag} {a C:Addr} {ox:Obj} {odo:Option Obj} {name:Str} {v:Value}
end
section
variable {X:Cx} {pins:List (Addr×Obj)} {σ:St} {H:Hp} {s:Shared} {a C:Addr} {tr:Option Addr} {f:Str} {y:V} {u:Value}
variable {o value:Expr} {ta tv:TE} {pos pos':Pos}
end
end L2
namespace L2
open PySem PySem.Spec PyProof.Rows PySem.W
section
variable {prog:Program} {w:World} {A:Around} {E:Value->Shared->Prop} {h:Heap} {g:Array GenState} {d:Drawn} {t:Nat} {os:OsState}
variable {nm q:Str} {C N:Addr} {bs bm bmB:List Value} {hdct:Bool} {sn:List Str} {sub:List Value} {ab:Bool} {col:Option Bool} {dd:Option Addr} {k0 k1 k2 k3 k5:Option Value} {B newId initId:String}
end
section
variable {X:Cx} {k:Nat} {f C:Addr} {fd:FuncData} {ps:List Str} {sp:Sp} {x:Str} {p pos:Pos} {e:Expr} {es:List Expr} {t:TA} {B newId initId:String} {bmB:List Value}
end
section
variable {P:Program} {w:World} {K:Frag} {mg:Str->Option Value} {base:Heap} {N:List Str} {qual:Str} {scope:Scope} {f:Addr} {cd:Value} {A:Around} {outer:List Env} {s0:Shared} {H0:Hp} {E:XK}
end
section
variable {X:Cx} {e:Expr} {te:TE} {f:Str} {pos:Pos}
end
end L2
namespace L2
open PySem PySem.Spec PyProof.Rows
section
variable {X:Cx} {K:Zfr}
def pB (K:Zfr):V->List V->Hp->VK->Prop:=fun x vs H Q=>∃ (a:Addr) (ys:List V) (ds:List PyData) (y:V) (dy:PyData) (j:Nat),x=.ref a/\vs=[y]/\iZ K H a ys/\eN K H ys ds/\Rep K H y dy/\(∀ d∈ds,PyData.canLay0 d=true)/\PyData.canLay0 dy=true/\PyData.depth dy<=60 /\
 ds.length<=1000/\(∃ d,ds[j]?=some d/\PyData.eqv d dy=true)/\(∀ i d,i < j->ds[i]?=some d->PyData.eqv d dy=false)/\Q (.int (j:Int)) H
theorem JU (hu:X.A.units + 64 < cLine):tQ X "list.index" (pB X.K):=by
 intro pins s σ H x xs v us Q I rx rv h
 obtain ⟨a,ys,ds,y,dy,j,rfl,rfl,hq,hr,hy,c1,c2,c3,hl,hit,hno,q⟩:=h
 cases rx
 obtain ⟨u,rfl,ru⟩:=vals1 rv
 obtain ⟨its,r,pl,hz⟩:=I.list hq
 obtain ⟨⟨c,dd,dt,sl⟩,e,hc,n,hdt⟩:=pl.isList
 cases (show c=.type "list" from hc)
 cases (show dt=.seq its.toArray n from hdt)
 have hlen:its.length=ds.length:=by rw [<- r.length];exact hr.sA
 obtain ⟨d0,hd0,N0⟩:=hit
 have hjl:j < ds.length:=(TK.mp hd0).1
 have rd:∀ (i:Nat) (w:Value) (d:PyData),its[i]?=some w->ds[i]?=some d->∃ as,Reads s.heap w d as:=fun i w d h1 h2=>by
  obtain ⟨z,hz',rz⟩:=r.Ac h1
  obtain ⟨d',hd',rp⟩:=hr.get hz'
  rw [h2] at hd'
  cases hd'
  exact rp.reads I rz
 refine call_meets F.slot_list_index ⟨_,e,rfl⟩ F.entry_list_index (F.args_list_index_2 _ _) (PySem.SeqAt.list_indexAt a its.toArray n dd sl u (eD its ds dy) j (by simp;omega) (by omega) ?_ fun m hm N1=>?_) ⟨e,fun z hz=>?_,⟨.int _,H,I.tok _,⟨_,rfl⟩,q⟩⟩
 ·unfold eD
  refine @decide_eq_true _ (Classical.propDecidable _) ⟨j,d0,?_,hd0,N0⟩
  simp [show j < its.length by omega]
 ·unfold eD
  refine @decide_eq_false _ (Classical.propDecidable _) ?_
  rintro ⟨i,d,h1,h2,h3⟩
  have hm2:m < its.length:=by simpa using hm
  have N2:its[m]?=some (its.toArray[m]):=by simp [hm2]
  obtain ⟨dm,JV⟩:∃ dm,ds[m]?=some dm:=⟨ds[m]'(by omega),TL _⟩
  obtain ⟨as,ra⟩:=rd i _ d h1 h2
  obtain ⟨bs,rb⟩:=rd m _ dm N2 JV
  have ed:d=dm:=(Reads.unique ra _ _ rb).1
  rw [ed,hno m dm N1 JV] at h3
  cases h3
 ·exact Gj hu I r hr ru hy c1 c2 (by first | exact c3 | (intro d hd;omega)) z (by simpa using hz)
end
section
variable {X:Cx}
end
open Builtin
def P2 (k:Nat):Nat:=2 ^ k
def pC (i j:Int):Prop:=ql i j\/(Builtin.Int.intBits i<=60000000/\Builtin.Int.intBits j<=60000000)
theorem pC.ok {i j:Int} (h:pC i j):IntMulOk i j:=by
 rcases h with h | ⟨h1,h2⟩
 ·exact h.ok
 ·exact PyProof.Rows.mulOk_of_bits (m:=60000000) (n:=60000000) h1 h2 (by decide)
section
variable {X:Cx}
theorem oO:kQ X (binaryOp .Mult) (rI pC fun i j=>.int (i * j)):=zw fun _ _ _ _ _ _ _ hc q=>mul_int q hc.ok
end
end L2
namespace L2
open PySem PySem.Spec PySem.W PyProof.Rows
structure vR (K:Zfr) (x qual:Str) (st:Stmt) (f:Addr) (fd:FuncData):Prop where
 ex:∃ (oc:Value) (od:Option Addr) (dV kV doc pm:Value) (an:Option Addr) (cdv ct:Value) (osl:Array (Option Value)),
  fd=PySem.W.fnOf x qual (d4 st) (cP st) (au st) dV kV doc pm an cdv ct/\K.lookup f=some ⟨oc,od,.func fd,osl⟩/\PySem.W.codeIn K cdv qual=true
 kp:PySem.W.keepIn K (.ref f)=true
theorem vR.ok {P:Program} {w:World} {K:Zfr} {mg:Str->Option Value} {base:Heap} {x qual:Str} {st:Stmt} {f:Addr} {fd:FuncData} {N ps:List Str} {k:Nat} {sp:Sp} (F:vR K x qual st f fd) (S:aC N ps (au st)) (len:∀ vs H Q E,sp vs H Q E->vs.length=ps.length)
  (hbody:∀ (cdv:Value) (A:Around) (outer:List Env) (s:Shared) (H:Hp) (vs:List V) (Q:VK) (E:XK),eK k (A.deeper (envOfC qual (au st) s.heap.objs.size f cdv))->sp vs H Q E ->
   ∃ t,pe (gK bE P w K mg base N qual (au st) f cdv A outer s H E).nz (cP st) t/\t { nx:=fun _ H'=>Q .non H',rt:=Q } (start N vs) H):aE P w K mg base bE (k + 1) f fd ps sp:=by
 obtain ⟨oc,od,dV,kV,doc,pm,an,cdv,ct,osl,rfl,lk,hcd⟩:=F.ex
 refine tO lk hcd S len fun A outer s H vs Q E hr p8=>?_
 obtain ⟨t,h,q⟩:=hbody cdv A outer s H vs Q E hr p8
 exact ⟨t,h.nz,q⟩
structure qH (K:Zfr) (mg:Str->Option Value) (x:Str) (st:Stmt) (ps:List Str) (mV:List V) (f:Addr) (fd:FuncData):Prop where
 F:vR K x x st f fd
 b:Binds K fd ps []
 bd:∃ ds,Vals mV ds/\Binds K fd ps ds
 m:mg x=some (.ref f)
def qI (x:Str) (st:Stmt) (ps:List Str) (d m:Nat):Prop :=
 ∀ (T:Addr) (kV doc pm:Value) (an:Option Addr) (cdv ct:Value) (us ds:List Value),us.length=m->ds.length=d ->
  ∃ k:Option (Array Value)->Sem (List (Str×Value)),bindArgs (PySem.W.fnOf x x (d4 st) (cP st) (au st) (.ref T) kV doc pm an cdv ct) ⟨us,[]⟩=seqItems? (.ref T) >>= k/\k (some ds.toArray)=pure (ps.zip (us ++ ds.drop (m + d - ps.length)))
theorem N3 {K:Zfr} {h:Heap} {mg:Str->Option Value} (X:K.In h) (G:h.Ns mainGlobals mg) {x:Str} {st:Stmt} {ps:List Str} {mV:List V} {f T:Addr} {oc N4:Value} {od an od':Option Addr} {osl Gr:Array (Option Value)} {kV doc pm cdv ct:Value} {its:Array Value} {n d:Nat}
  (hl:d<=ps.length) (hb:qI x st ps d (ps.length - d)) (hb2:qI x st ps d ps.length)
  (a:PySem.W.nsIn K mainGlobals x=some (some (.ref f))) (l:K.lookup f=some ⟨oc,od,.func (PySem.W.fnOf x x (d4 st) (cP st) (au st) (.ref T) kV doc pm an cdv ct),osl⟩)
  (lT:K.lookup T=some ⟨N4,od',.seq its n,Gr⟩) (ei:its.toList.length=d) (hv:Vals mV its.toList)
  (c:PySem.W.codeIn K cdv x=true) (k:PySem.W.keepIn K (.ref f)=true):∃ f fd,qH K mg x st ps mV f fd:=by
 have key:∀ m (s:Shared) (us:List Value),qI x st ps d m->K.In s.heap->us.length=m->BindsTo s (PySem.W.fnOf x x (d4 st) (cP st) (au st) (.ref T) kV doc pm an cdv ct) ⟨us,[]⟩ (ps.zip (us ++ its.toList.drop (m + d - ps.length))):=fun m s us h KX hu=>by
  obtain ⟨kk,h1,h2⟩:=h T kV doc pm an cdv ct us its.toList hu ei
  exact BindsTo.of_defaults rfl (KX _ _ lT) rfl h1 (by rw [Array.toArray_toList] at h2;exact h2)
 refine ⟨f,_,⟨⟨oc,od,.ref T,kV,doc,pm,an,cdv,ct,osl,rfl,l,c⟩,k⟩,fun s us KX hu=>?_,⟨its.toList,hv,fun s us KX hu=>?_⟩,PySem.W.mg_of X G a⟩
 ·rw [U5] at hu ⊢
  have:=key ps.length s us hb2 KX hu
  rw [show ps.length + d - ps.length=its.toList.length by omega,List.drop_length,U5] at this
  exact this
 ·rw [TN] at hu
  have:=key (ps.length - d) s us hb KX (by omega)
  rw [show ps.length - d + d - ps.length=0 by omega,VN] at this
  exact this
section
variable {X:Cx} {CX:pg} {k:Nat} {f:Addr} {fd:FuncData} {ps:List Str} {sp:Sp} {x:Str} {mV:List V} {E:XK} {e:Expr} {es:List Expr} {t:TA} {p pos:Pos}
theorem N5 (F:aE X.prog X.w X.K X.mg X.base CX k f fd ps sp) (hr:eK k X.A) (hg:Gl X x) (hm:X.mg x=some (.ref f)) (hk:PySem.W.keepIn X.K (.ref f)=true) (hb:∃ ds,Vals mV ds/\Binds X.K fd ps ds) (hx:Passes CX X E)
  (ha:PA X (e :: es) t) (hdb:(x == ("__debug__" : Str))=false:=by decide) (he:starEach (e :: es) X.env=(false,eval e X.env) :: starEach es X.env:=by rfl) (hpl:(backTo pos (starEach es X.env)).any (·.1)=false:=by rfl) :
  PE X (.Call (.Name x p) (e :: es) [] pos) (ow sp mV E t):=by
 obtain ⟨ds,hd,hb⟩:=hb
 exact IA F hr hg hm hk hb hd hx ha hdb he hpl
end
end L2
namespace af
def upto (n:Nat):List Int:=(List.range n).map fun (k:Nat)=>(k:Int)
theorem oz (n:Nat):(upto n).length=n:=by simp [upto]
theorem lV {n:Nat} {x:Int}:x∈upto n↔0<=x/\x < (n:Int):=by
 simp only [upto,Ub,Vk]
 constructor
 ·rintro ⟨k,hk,rfl⟩;omega
 ·rintro ⟨h1,h2⟩;exact ⟨x.toNat,by omega,by omega⟩
theorem N6 (n:Nat):(upto n).Pairwise (· < ·):=by
 unfold upto
 rw [VR]
 exact (List.pairwise_lt_range).imp fun h=>by omega
theorem JW (n:Nat):(upto n).Nodup:=(N6 n).imp fun h=>by omega
theorem Dt:∀ {xs ys:List Int},xs.Nodup->(∀ x∈xs,x∈ys)->ys.length<=xs.length->xs.Perm ys
 | [],ys,_,_,h=>by
  have:ys=[]:=VL (by simpa using h)
  subst this;exact Vo _
 | x :: xs,ys,hn,hs,hl=>by
  obtain ⟨h1,h2⟩:=UZ.mp hn
  have hx:x∈ys:=hs x TU
  have hp:=VI hx
  have hlen:(ys.erase x).length + 1=ys.length:=by have:=hp.length_eq;simpa using this.symm
  refine List.Perm.trans (List.Perm.cons x (Dt (ys:=ys.erase x) h2 (fun y hy=>?_) ?_)) hp.symm
  ·have hne:y≠x:=fun e=>h1 (e ▸ hy)
   exact (Vr hne).mpr (hs y (TY _ hy))
  ·simp at hl;omega
theorem Gs {xs:List Int} (hn:xs.Nodup) (hb:∀ x∈xs,0<=x/\x < (xs.length:Int)):xs.Perm (upto xs.length):=by
 exact Dt hn (fun x hx=>lV.mpr (hb x hx)) (by rw [oz];exact TM _)
end af
namespace af
def app (xs:List Int) (i:Int):Int:=xs.getD i.toNat 0
def bq (xs:List Int) (i:Int):Nat->Int
 | 0=>i
 | j + 1=>app xs (bq xs i j)
def Tn (n:Nat) (xs:List Int):Prop:=xs.Perm (upto n)
theorem Tn.length {n:Nat} {xs:List Int} (h:Tn n xs):xs.length=n:=by rw [h.length_eq,oz]
theorem Tn.nodup {n:Nat} {xs:List Int} (h:Tn n xs):xs.Nodup:=h.nodup_iff.mpr (JW n)
theorem Tn.bound {n:Nat} {xs:List Int} (h:Tn n xs) {x:Int} (hx:x∈xs):0<=x/\x < (n:Int):=lV.mp (h.subset hx)
theorem oA {xs:List Int} {i:Int} (h0:0<=i) (h1:i < (xs.length:Int)):xs[i.toNat]?=some (app xs i):=by
 have:i.toNat < xs.length:=by omega
 unfold app
 rw [T9,TL this];rfl
theorem N7 {xs:List Int} {i:Int} (h0:0<=i) (h1:i < (xs.length:Int)):app xs i∈xs:=T2 (oA h0 h1)
theorem Tn.app {n:Nat} {xs:List Int} (h:Tn n xs) {i:Int} (h0:0<=i) (h1:i < (n:Int)):0<=app xs i/\app xs i < (n:Int):=h.bound (N7 h0 (by rw [h.length];exact h1))
theorem Tn.inj {n:Nat} {xs:List Int} (h:Tn n xs) {i j:Int} (i0:0<=i) (i1:i < (n:Int)) (j0:0<=j) (j1:j < (n:Int)) (e:af.app xs i=af.app xs j):i=j:=by
 have hl:=h.length
 have a:=oA i0 (by rw [hl];exact i1)
 have b:=oA j0 (by rw [hl];exact j1)
 rw [e] at a
 obtain ⟨ha,ea⟩:=TK.mp a
 obtain ⟨hb,eb⟩:=TK.mp b
 have:=(VU h.nodup).mp (ea.trans eb.symm)
 omega
theorem Tn.bq {n:Nat} {xs:List Int} (h:Tn n xs) {i:Int} (h0:0<=i) (h1:i < (n:Int)):∀ j,0<=bq xs i j/\bq xs i j < (n:Int)
 | 0=>⟨h0,h1⟩
 | j + 1=>h.app (h.bq h0 h1 j).1 (h.bq h0 h1 j).2
theorem Tn.back {n:Nat} {xs:List Int} (h:Tn n xs) {i:Int} (h0:0<=i) (h1:i < (n:Int)):∀ (a d:Nat),af.bq xs i a=af.bq xs i (a + d)->af.bq xs i d=i
 | 0,d,e=>by rw [Vx] at e;exact e.symm
 | a + 1,d,e=>by
  have e':af.app xs (af.bq xs i a)=af.app xs (af.bq xs i (a + d)):=by
   have:a + 1 + d=(a + d) + 1:=by omega
   rw [this] at e
   exact e
  exact h.back h0 h1 a d (h.inj (h.bq h0 h1 a).1 (h.bq h0 h1 a).2 (h.bq h0 h1 _).1 (h.bq h0 h1 _).2 e')
theorem yu:∀ {xs ys:List Int},xs.Nodup->(∀ x∈xs,x∈ys)->xs.length<=ys.length
 | [],_,_,_=>Uw _
 | x :: xs,ys,hn,hs=>by
  obtain ⟨h1,h2⟩:=UZ.mp hn
  have hx:x∈ys:=hs x TU
  have hp:=VI hx
  have hlen:(ys.erase x).length + 1=ys.length:=by have:=hp.length_eq;simpa using this.symm
  have:=yu (ys:=ys.erase x) h2 fun y hy=>(Vr (a:=y) (b:=x) (fun e=>h1 (by rw [<- e];exact hy))).mpr (hs y (TY _ hy))
  simp only [Uo]
  omega
def row (xs:List Int) (i:Int) (m:Nat):List Int:=(List.range (m + 1)).map (bq xs i)
theorem JX (xs:List Int) (i:Int) (m:Nat):row xs i (m + 1)=row xs i m ++ [bq xs i (m + 1)]:=by
 unfold row;rw [List.range_succ,T6];rfl
theorem rK (xs:List Int) (i:Int) (m:Nat):(row xs i m).length=m + 1:=by simp [row]
theorem Du {xs:List Int} {i:Int} {m:Nat} {x:Int}:x∈row xs i m↔∃ j,j<=m/\bq xs i j=x:=by
 unfold row
 rw [Ub]
 constructor
 ·rintro ⟨j,hj,e⟩;exact ⟨j,by have:=Vk.mp hj;omega,e⟩
 ·rintro ⟨j,hj,e⟩;exact ⟨j,Vk.mpr (by omega),e⟩
def NB (xs:List Int) (i:Int) (m:Nat):Prop:=∀ j,1<=j->j<=m->bq xs i j≠i
theorem Tn.j9 {n:Nat} {xs:List Int} (h:Tn n xs) {i:Int} (h0:0<=i) (h1:i < (n:Int)) {m:Nat} (nb:NB xs i m):m + 1<=n:=by
 have hn:(row xs i m).Nodup:=by
  unfold row List.Nodup
  rw [VR]
  refine List.Pairwise.imp_of_mem (R:=fun a b=>a < b) ?_ List.pairwise_lt_range
  intro a b ha hb hab e
  have ha':=Vk.mp ha
  have hb':=Vk.mp hb
  obtain ⟨d,rfl⟩:∃ d,b=a + d:=⟨b - a,by omega⟩
  exact nb d (by omega) (by omega) (h.back h0 h1 a d e)
 have:=yu hn (ys:=upto n) fun x hx=>by
  obtain ⟨j,_,rfl⟩:=Du.mp hx
  exact lV.mpr (h.bq h0 h1 j)
 rw [rK,oz] at this
 exact this
structure gX (xs:List Int) (i:Int) (r:List Int):Prop where
 ex:∃ m,r=row xs i m/\NB xs i m/\bq xs i (m + 1)=i
theorem gX.mem {xs:List Int} {i:Int} {r:List Int} (a:gX xs i r):i∈r:=by
 obtain ⟨m,e1,_,_⟩:=a.ex
 rw [e1];exact Du.mpr ⟨0,Uw _,rfl⟩
theorem gX.len {n:Nat} {xs:List Int} (h:Tn n xs) {i:Int} (h0:0<=i) (h1:i < (n:Int)) {r:List Int} (a:gX xs i r):r.length<=n:=by
 obtain ⟨m,e1,nb,_⟩:=a.ex
 rw [e1,rK];exact h.j9 h0 h1 nb
theorem gX.bound {n:Nat} {xs:List Int} (h:Tn n xs) {i:Int} (h0:0<=i) (h1:i < (n:Int)) {r:List Int} (a:gX xs i r):∀ x∈r,0<=x/\x < (n:Int):=by
 obtain ⟨m,e1,nb,_⟩:=a.ex
 subst e1
 intro x hx
 obtain ⟨j,_,rfl⟩:=Du.mp hx
 exact h.bq h0 h1 j
def out (left r:List Int):List Int:=left.filter fun k=>!r.contains k
inductive uh (xs:List Int):List Int->List (List Int)->Prop
 | nil:uh xs [] []
 | cons {i:Int} {left r:List Int} {rs:List (List Int)}:gX xs i r->uh xs (out (i :: left) r) rs->uh xs (i :: left) (r :: rs)
def from' (n k:Nat) (seen:Int->Bool):List Int:=(((List.range n).drop k).map fun (j:Nat)=>(j:Int)).filter fun x=>!seen x
theorem N8 (n:Nat) (seen:Int->Bool):from' n n seen=[]:=by
 unfold from';rw [VA (by simp)];rfl
theorem N9 {n k:Nat} (h:k < n) (seen:Int->Bool):from' n k seen=if seen (k:Int) then from' n (k + 1) seen else (k:Int) :: from' n (k + 1) seen:=by
 unfold from'
 rw [U9 (by simpa using h),Ui,List.filter_cons]
 simp only [List.getElem_range]
 cases hs:seen (k:Int) <;> simp
theorem Oa {n k:Nat} {seen:Int->Bool} {r:List Int}:out (from' n k seen) r=from' n k (fun x=>seen x || r.contains x):=by
 unfold out from'
 rw [List.filter_filter]
 congr 1
 funext x
 show (!r.contains x && !seen x)=!(seen x || r.contains x)
 cases seen x <;> cases r.contains x <;> rfl
theorem Ob (n:Nat):from' n 0 (fun _=>false)=upto n:=by
 unfold from' upto
 rw [VN]
 simp
def pD (n:Nat):List Int:=((List.range (n - 1)).map fun (k:Nat)=>(1:Int) + k) ++ [0]
theorem Oc:∀ n,n < 21->0 < n->(pD n).isPerm (upto n)=true:=by decide
theorem JY {n:Nat} (h:n < 21) (h0:0 < n):Tn n (pD n):=List.isPerm_iff.mp (Oc n h h0)
end af
namespace af
theorem Aj {n:Nat} {xs:List Int} (h:xs.length=n):(upto n).map (app xs)=xs:=by
 apply List.ext_getElem
 ·rw [TJ,oz,h]
 ·intro i h1 h2
  have e:=oA (xs:=xs) (i:=(i:Int)) (by omega) (by omega)
  simp only [T3] at e
  rw [TL h2] at e
  rw [VD]
  unfold upto
  simp only [VD,List.getElem_range]
  exact (T5 e).symm
def inv (xs:List Int):List Int:=(upto xs.length).map fun i=>(xs.idxOf i:Int)
theorem Dv (xs:List Int):(inv xs).length=xs.length:=by unfold inv;rw [TJ,oz]
theorem Ak {n i:Nat} (h:i < n):(upto n)[i]?=some (i:Int):=by
 unfold upto;rw [TR,UQ h];rfl
theorem Dw {xs:List Int} {i:Int} (h0:0<=i) (h1:i < (xs.length:Int)):app (inv xs) i=(xs.idxOf i:Int):=by
 have e:=oA (xs:=inv xs) h0 (by rw [Dv];exact h1)
 unfold inv at e
 rw [TR,Ak (by omega)] at e
 have:=T5 e
 rw [<- inv] at this
 rw [<- this,Um h0]
theorem Tn.mem {n:Nat} {xs:List Int} (h:Tn n xs) {i:Int} (h0:0<=i) (h1:i < (n:Int)):i∈xs:=h.symm.subset (lV.mpr ⟨h0,h1⟩)
theorem Tn.idx {n:Nat} {xs:List Int} (h:Tn n xs) {i:Int} (h0:0<=i) (h1:i < (n:Int)):xs.idxOf i < n:=by rw [<- h.length];exact Vp (h.mem h0 h1)
theorem Tn.cw {n:Nat} {xs:List Int} (h:Tn n xs) {i:Int} (h0:0<=i) (h1:i < (n:Int)):af.app xs (af.app (inv xs) i)=i:=by
 rw [Dw h0 (by rw [h.length];exact h1)]
 have hl:=h.idx h0 h1
 have e:=oA (xs:=xs) (i:=(xs.idxOf i:Int)) (by omega) (by rw [h.length];omega)
 rw [T3,TL (by rw [h.length];exact hl)] at e
 rw [<- T5 e]
 exact VO _
theorem Tn.lJ {n:Nat} {xs:List Int} (h:Tn n xs) {i:Int} (h0:0<=i) (h1:i < (n:Int)):0<=af.app (inv xs) i/\af.app (inv xs) i < (n:Int):=by
 rw [Dw h0 (by rw [h.length];exact h1)]
 have:=h.idx h0 h1
 omega
theorem Tn.gL {n:Nat} {xs:List Int} (h:Tn n xs) {i:Int} (h0:0<=i) (h1:i < (n:Int)):af.app (inv xs) (af.app xs i)=i:=by
 obtain ⟨a0,a1⟩:=h.app h0 h1
 obtain ⟨b0,b1⟩:=h.lJ a0 a1
 exact h.inj b0 b1 h0 h1 (h.cw a0 a1)
theorem Tn.aA {n:Nat} {xs:List Int} (h:Tn n xs):Tn n (inv xs):=by
 have hl:=h.length
 unfold Tn
 have e:(inv xs).length=n:=by rw [Dv,hl]
 have:=Gs (xs:=inv xs) ?_ ?_
 ·rw [e] at this;exact this
 ·unfold List.Nodup
  rw [Va]
  intro i j hi hj hij z
  have a:=oA (xs:=inv xs) (i:=(i:Int)) (by omega) (by omega)
  have b:=oA (xs:=inv xs) (i:=(j:Int)) (by omega) (by omega)
  rw [T3,TL hi] at a
  rw [T3,TL hj] at b
  have a:=T5 a
  have b:=T5 b
  have c:=h.cw (i:=(i:Int)) (by omega) (by omega)
  have d:=h.cw (i:=(j:Int)) (by omega) (by omega)
  rw [<- a] at c
  rw [<- b,<- z] at d
  have:=c.symm.trans d
  omega
 ·intro x hx
  unfold inv at hx
  obtain ⟨i,hi,rfl⟩:=Ub.mp hx
  have:=lV.mp hi
  rw [hl] at this
  have:=h.idx this.1 this.2
  rw [e];omega
theorem rL (xs:List Int) (i:Int) (j:Nat):∀ d,bq xs (bq xs i j) d=bq xs i (j + d)
 | 0=>rfl
 | d + 1=>by show app xs (bq xs (bq xs i j) d)=app xs (bq xs i (j + d));rw [rL xs i j d]
theorem JZ {xs:List Int} {i:Int} {L:Nat} (h:bq xs i L=i) (a:Nat):bq xs i (a + L)=bq xs i a:=by
 rw [Nat.add_comm,<- rL xs i L a,h]
theorem Al {xs:List Int} {i:Int} {L:Nat} (h:bq xs i L=i):∀ (q r:Nat),bq xs i (r + L * q)=bq xs i r
 | 0,r=>rfl
 | q + 1,r=>by rw [Nat.mul_succ,<- Nat.add_assoc,JZ h];exact Al h q r
theorem J0 {xs:List Int} {i:Int} {L:Nat} (h:bq xs i L=i) (a:Nat):bq xs i (a % L)=bq xs i a:=by
 have:=Al h (a / L) (a % L)
 rw [Nat.mod_add_div] at this
 exact this.symm
def J1 (xs:List Int) (k i v:Int):Prop:=∃ m,NB xs i m/\bq xs i (m + 1)=i/\v=bq xs i (k % ((m + 1:Nat):Int)).toNat
theorem Tn.vS {n:Nat} {xs:List Int} (h:Tn n xs) {i:Int} (h0:0<=i) (h1:i < (n:Int)) {m:Nat} (nb:NB xs i m) (bk:af.bq xs i (m + 1)=i) (j:Nat) (k:Int) :
  J1 xs k (af.bq xs i j) (af.bq xs i (((j:Int) + k) % ((m + 1:Nat):Int)).toNat):=by
 refine ⟨m,fun d d1 d2 e=>?_,?_,?_⟩
 ·rw [rL] at e
  exact nb d d1 d2 (h.back h0 h1 j d e.symm)
 ·rw [rL,JZ bk]
 ·rw [rL]
  rw [<- J0 bk (j + (k % ((m + 1:Nat):Int)).toNat)]
  congr 1
  have hL:(0:Int) < ((m + 1:Nat):Int):=by omega
  have k0:=UP k (Int.ne_of_gt hL)
  have e:(((j + (k % ((m + 1:Nat):Int)).toNat) % (m + 1):Nat):Int)=((j:Int) + k) % ((m + 1:Nat):Int):=by
   rw [Int.natCast_emod,Int.natCast_add,Um k0,Int.add_emod_emod]
  rw [<- e,T3]
theorem uh.all {xs:List Int}:∀ {left:List Int} {rs:List (List Int)},uh xs left rs->(∀ r∈rs,∃ i∈left,gX xs i r)/\∀ x∈left,∃ r∈rs,x∈r:=by
 intro left rs a
 induction a with
 | nil=>exact ⟨fun r hr=>(nomatch hr),fun x hx=>(nomatch hx)⟩
 | cons h1 _ ih =>
  refine ⟨fun r hr=>?_,fun x hx=>?_⟩
  ·rcases Up.mp hr with rfl | hr
   ·exact ⟨_,TU,h1⟩
   ·obtain ⟨i,hi,r'⟩:=ih.1 r hr
    exact ⟨i,(Vw.mp hi).1,r'⟩
  ·rename_i i left r rs _
   by_cases hc:x∈r
   ·exact ⟨r,TU,hc⟩
   ·obtain ⟨r',hr',hx'⟩:=ih.2 x (Vw.mpr ⟨hx,by simp [hc]⟩)
    exact ⟨r',TY _ hr',hx'⟩
theorem Oe {n:Nat} {xs:List Int} (h:Tn n xs):xs.map (app (inv xs))=upto n:=by
 have e:((upto n).map (app xs)).map (app (inv xs))=upto n:=by
  rw [Uq]
  conv=>rhs;rw [<- Vu (upto n)]
  apply Ux
  intro x hx
  obtain ⟨a,b⟩:=lV.mp hx
  exact h.gL a b
 rw [Aj h.length] at e
 exact e
theorem Og {n:Nat} {xs:List Int} (h:Tn n xs):(inv xs).map (app xs)=upto n:=by
 have e:((upto n).map (app (inv xs))).map (app xs)=upto n:=by
  rw [Uq]
  conv=>rhs;rw [<- Vu (upto n)]
  apply Ux
  intro x hx
  obtain ⟨a,b⟩:=lV.mp hx
  exact h.cw a b
 rw [Aj (h.aA).length] at e
 exact e
end af
namespace af
inductive i5 (xs ys:List Int):Int->Prop
 | zero:i5 xs ys 0
 | r {x:Int}:i5 xs ys x->i5 xs ys (app xs x)
 | u {x:Int}:i5 xs ys x->i5 xs ys (app ys x)
theorem i5.bound {n:Nat} {xs ys:List Int} (hx:Tn n xs) (hy:Tn n ys) (h0:0 < n) {x:Int} (h:i5 xs ys x):0<=x/\x < (n:Int):=by
 induction h with
 | zero=>omega
 | r _ ih=>exact hx.app ih.1 ih.2
 | u _ ih=>exact hy.app ih.1 ih.2
theorem i5.bq {xs ys:List Int} {x:Int} (h:i5 xs ys x):∀ k,i5 xs ys (af.bq xs x k)
 | 0=>h
 | k + 1=>.r (h.bq k)
def mP (xs:List Int) (m:Nat):List Int:=(xs.set 0 (app xs m)).set m (app xs 0)
theorem Oh (xs:List Int) (m:Nat):(mP xs m).length=xs.length:=by simp [mP]
theorem Gu {xs:List Int} {m:Nat} {v x:Int} (hm:m < xs.length) (h0:0<=x):app (xs.set m v) x=if x=(m:Int) then v else app xs x:=by
 unfold app
 rw [T9,T9]
 by_cases hx:x=(m:Int)
 ·rw [if_pos hx,hx,T3,TQ hm];rfl
 ·rw [if_neg hx,TV (by omega)]
theorem yw {xs:List Int} {m:Nat} (hm:m < xs.length) {x:Int} (h0:0<=x):app (mP xs m) x=if x=(m:Int) then app xs 0 else if x=0 then app xs m else app xs x:=by
 unfold mP
 rw [Gu (by simpa using hm) h0,Gu (by omega) h0]
 rfl
theorem vT {n:Nat} {xs:List Int} (h:Tn n xs) {m:Nat} (hm:m < n):Tn n (mP xs m):=by
 have hl:=h.length
 have e:(mP xs m).length=n:=by rw [Oh,hl]
 have:=Gs (xs:=mP xs m) ?_ ?_
 ·unfold Tn;rw [e] at this;exact this
 ·unfold List.Nodup
  rw [Va]
  intro i j hi hj hij z
  have a:=oA (xs:=mP xs m) (i:=(i:Int)) (by omega) (by omega)
  have b:=oA (xs:=mP xs m) (i:=(j:Int)) (by omega) (by omega)
  rw [T3,TL hi] at a
  rw [T3,TL hj] at b
  have a:=T5 a
  have b:=T5 b
  rw [yw (by omega) (by omega)] at a b
  rw [a,b] at z
  have inj:∀ p q:Int,0<=p->p < (n:Int)->0<=q->q < (n:Int)->app xs p=app xs q->p=q:=fun p q p0 p1 q0 q1=>h.inj p0 p1 q0 q1
  split at z <;> split at z <;> (try split at z) <;> (try split at z) <;> (first | omega | (have:=inj _ _ (by omega) (by omega) (by omega) (by omega) z;omega))
 ·intro x hx
  obtain ⟨i,hi,rfl⟩:=U1 hx
  have a:=oA (xs:=mP xs m) (i:=(i:Int)) (by omega) (by omega)
  rw [T3,TL hi] at a
  rw [T5 a,yw (by omega) (by omega),e]
  split
  ·exact h.app (by omega) (by omega)
  ·split
   ·exact h.app (by omega) (by omega)
   ·exact h.app (by omega) (by omega)
theorem Tn.sE {n:Nat} {xs:List Int} (h:Tn n xs) {i:Int} (h0:0<=i) (h1:i < (n:Int)):∃ m,NB xs i m/\af.bq xs i (m + 1)=i:=by
 by_cases hb:∃ m,m < n/\af.bq xs i (m + 1)=i
 ·-- the least
  have key:∀ b:Nat,(∃ m,m < b/\af.bq xs i (m + 1)=i)->∃ m,NB xs i m/\af.bq xs i (m + 1)=i:=by
   intro b
   induction b with
   | zero=>rintro ⟨m,hm,_⟩;omega
   | succ b ih =>
    rintro ⟨m,hm,e⟩
    by_cases hc:∃ m,m < b/\af.bq xs i (m + 1)=i
    ·exact ih hc
    ·refine ⟨m,fun j j1 j2 z=>hc ⟨j - 1,by omega,?_⟩,e⟩
     have:j - 1 + 1=j:=by omega
     rw [this];exact z
  exact key n hb
 ·have nb:NB xs i n:=fun j j1 j2 z=>by
   refine hb ⟨j - 1,by omega,?_⟩
   have:j - 1 + 1=j:=by omega
   rw [this];exact z
  have:=h.j9 h0 h1 nb
  omega
theorem Oi {n:Nat} {xs ys:List Int} (hx:Tn n xs) (hy:Tn n ys) {m:Nat} (hm:m < n) (nm:¬ i5 xs ys (m:Int)):i5 (mP xs m) ys (m:Int)/\∀ x,i5 xs ys x->i5 (mP xs m) ys x:=by
 have hl:=hx.length
 have m0:m≠0:=fun z=>nm (by rw [z];exact .zero)
 obtain ⟨M,nb,bk⟩:=hx.sE (i:=(m:Int)) (by omega) (by omega)
 have Oj:∀ j,af.bq xs (m:Int) j≠0:=by
  intro j z
  have h':i5 xs ys (af.bq xs (af.bq xs (m:Int) j) ((M + 1) * j)):=by rw [z];exact i5.zero.bq _
  rw [rL] at h'
  have e2:af.bq xs (m:Int) ((M + 1) * (j + 1))=(m:Int):=by
   have:=Al bk (j + 1) 0
   rw [Vx] at this
   exact this
  have h3:=h'.bq ((M + 1) * (j + 1) - (j + (M + 1) * j))
  rw [rL] at h3
  have e3:j + (M + 1) * j + ((M + 1) * (j + 1) - (j + (M + 1) * j))=if j + (M + 1) * j<=(M + 1) * (j + 1) then (M + 1) * (j + 1) else j + (M + 1) * j:=by split <;> omega
  rw [e3] at h3
  by_cases hc:j + (M + 1) * j<=(M + 1) * (j + 1)
  ·rw [if_pos hc,e2] at h3
   exact nm h3
  ·-- round as often as needed
   have h4:=h'.bq ((M + 1) * (2 * j + 2) - (j + (M + 1) * j))
   rw [rL] at h4
   have hbig:j + (M + 1) * j<=(M + 1) * (2 * j + 2):=by
    have a1:(M + 1) * (2 * j + 2)=(M + 1) * j + ((M + 1) * j + (M + 1) * 2):=by rw [<- Nat.mul_add,<- Nat.mul_add];congr 1;omega
    have a2:j<=(M + 1) * j:=Nat.le_mul_of_pos_left j (by omega)
    omega
   have e5:j + (M + 1) * j + ((M + 1) * (2 * j + 2) - (j + (M + 1) * j))=(M + 1) * (2 * j + 2):=by omega
   rw [e5] at h4
   have:=Al bk (2 * j + 2) 0
   rw [Vx] at this
   rw [this] at h4
   exact nm h4
 have ring:∀ j,j<=M->i5 (mP xs m) ys (af.bq xs (m:Int) (j + 1)):=by
  intro j
  induction j with
  | zero =>
   intro _
   have h1:i5 (mP xs m) ys (af.app (mP xs m) 0):=.r .zero
   rw [yw (by omega) (by omega),if_neg (by omega),if_pos rfl] at h1
   exact h1
  | succ j ih =>
   intro hj
   have h1:=(ih (by omega)).r
   have b:=hx.bq (i:=(m:Int)) (by omega) (by omega) (j + 1)
   rw [yw (by omega) b.1,if_neg (nb (j + 1) (by omega) (by omega)),if_neg (Oj (j + 1))] at h1
   exact h1
 have J3:i5 (mP xs m) ys (m:Int):=by have:=ring M (TM _);rwa [bk] at this
 refine ⟨J3,fun x h=>?_⟩
 have hpos:0 < n:=by omega
 induction h with
 | zero=>exact .zero
 | r hx' ih =>
  rename_i x
  have b:=hx'.bound hx hy hpos
  by_cases h0:x=0
  ·have h1:=J3.r
   rw [yw (by omega) (by omega),if_pos rfl] at h1
   rw [h0];exact h1
  ·have Ol:x≠(m:Int):=fun z=>nm (by rw [<- z];exact hx')
   have h1:=ih.r
   rw [yw (by omega) b.1,if_neg Ol,if_neg h0] at h1
   exact h1
 | u _ ih=>exact ih.u
def Cl (xs ys F:List Int):Prop:=∀ x∈F,app xs x∈F/\app ys x∈F
theorem Cl.all {xs ys F:List Int} (h:Cl xs ys F) (h0:(0:Int)∈F) {x:Int} (r:i5 xs ys x):x∈F:=by
 induction r with
 | zero=>exact h0
 | r _ ih=>exact (h _ ih).1
 | u _ ih=>exact (h _ ih).2
structure Fd (xs ys:List Int) (F:List Int):Prop where
 z:(0:Int)∈F
 nd:F.Nodup
 mt:∀ x∈F,i5 xs ys x
theorem Fd.len {n:Nat} {xs ys F:List Int} (h:Fd xs ys F) (hx:Tn n xs) (hy:Tn n ys) (h0:0 < n):F.length<=n:=by
 have:=yu h.nd (ys:=upto n) fun x hx'=>lV.mpr ((h.mt x hx').bound hx hy h0)
 rw [oz] at this
 exact this
theorem Fd.one (xs ys:List Int):Fd xs ys [0]:=⟨by simp,by simp,fun x hx=>(show x=0 by simpa using hx) ▸ .zero⟩
theorem round {xs ys F F1 F2:List Int} (d:Fd xs ys F) (d2:Fd xs ys F2) (p1:F <+: F1) (p2:F1 <+: F2) (c1:∀ x∈F,app xs x∈F1) (c2:∀ x∈F1,app ys x∈F2) {t:Nat} (h:Cl xs ys F\/t + 1<=F.length):Cl xs ys F2\/t + 1 + 1<=F2.length:=by
 have p:=p1.trans p2
 by_cases hc:Cl xs ys F
 ·refine .inl fun x hx=>?_
  have hF:=hc.all d.z (d2.mt x hx)
  exact ⟨p.subset (hc x hF).1,p.subset (hc x hF).2⟩
 ·have hl:=h.resolve_left hc
  by_cases he:F2.length<=F.length
  ·refine absurd ?_ hc
   have e2:F2=F:=(p.eq_of_length (by have:=p.length_le;omega)).symm
   have e1:F1=F:=by
    have a:=p1.length_le
    have b:=p2.length_le
    exact (p1.eq_of_length (by omega)).symm
   intro x hx
   refine ⟨?_,?_⟩
   ·have:=c1 x hx;rwa [e1] at this
   ·have:=c2 x (by rw [e1];exact hx);rwa [e2] at this
  ·exact .inr (by omega)
def qJ (w n:Nat):List Int:=((List.range (w - 1)).map fun (k:Nat)=>(1:Int) + k) ++ [0] ++ ((List.range (n - w)).map fun (k:Nat)=>(w:Int) + k)
def sF (w n:Nat):List Int:=[(w:Int)] ++ ((List.range (w - 1)).map fun (k:Nat)=>(1:Int) + k) ++ ((List.range (n - (w + 1))).map fun (k:Nat)=>((w:Int) + 1) + k) ++ [0]
theorem Om:∀ n,n < 21->∀ w,w < n + 1->0 < w->(qJ w n).isPerm (upto n)=true:=by decide +kernel
theorem Oo:∀ n,n < 21->∀ w,w < n->0 < w->(sF w n).isPerm (upto n)=true:=by decide +kernel
theorem Oq {w n:Nat} (h:n < 21) (h1:w<=n) (h0:0 < w):Tn n (qJ w n):=List.isPerm_iff.mp (Om n h w (by omega) h0)
theorem Ot {w n:Nat} (h:n < 21) (h1:w < n) (h0:0 < w):Tn n (sF w n):=List.isPerm_iff.mp (Oo n h w h1 h0)
theorem less {L L':List Int} {m:Int} (nd:L'.Nodup) (hs:∀ x∈L',x∈L) (hm:m∈L) (hm':m ∉ L'):L'.length < L.length:=by
 have hp:=VI hm
 have hlen:(L.erase m).length + 1=L.length:=by have:=hp.length_eq;simpa using this.symm
 have:=yu (ys:=L.erase m) nd fun x hx=>(Vr (fun e=>hm' (by rw [<- e];exact hx))).mpr (hs x hx)
 omega
end af
namespace af
def aY (xs ys:List Int):List Int:=xs.map (app ys)
theorem Am (xs ys:List Int):(aY xs ys).length=xs.length:=by simp [aY]
theorem pE {n:Nat} {xs ys:List Int} (hx:xs.length=n) (hy:ys.length=n) (h:∀ s:Int,0<=s->s < (n:Int)->app xs s=app ys s):xs=ys:=by
 rw [<- Aj hx,<- Aj hy]
 apply Ux
 intro s hs
 obtain ⟨h0,h1⟩:=lV.mp hs
 exact h s h0 h1
theorem oB {xs ys:List Int} {s:Int} (h0:0<=s) (h1:s < (xs.length:Int)):app (aY xs ys) s=app ys (app xs s):=by
 have e:=oA (xs:=aY xs ys) h0 (by rw [Am];exact h1)
 unfold aY at e
 rw [TR,oA h0 h1] at e
 exact (T5 e).symm
theorem Tn.qK {n:Nat} {xs:List Int} (hl:xs.length=n) (hb:∀ s:Int,0<=s->s < (n:Int)->0<=af.app xs s/\af.app xs s < (n:Int)) (hi:∀ s t:Int,0<=s->s < (n:Int)->0<=t->t < (n:Int)->af.app xs s=af.app xs t->s=t):Tn n xs:=by
 have el:∀ (i:Nat) (h:i < xs.length),xs[i]=af.app xs (i:Int):=fun i h=>by
  have a:=oA (xs:=xs) (i:=(i:Int)) (by omega) (by omega)
  rw [T3,TL h] at a
  exact T5 a
 have:=Gs (xs:=xs) ?_ ?_
 ·unfold Tn;rw [hl] at this;exact this
 ·unfold List.Nodup
  rw [Va]
  intro i j h1 h2 hij z
  rw [el i h1,el j h2] at z
  have:=hi i j (by omega) (by omega) (by omega) (by omega) z
  omega
 ·intro x hx
  obtain ⟨i,h,rfl⟩:=U1 hx
  rw [el i h,hl]
  exact hb i (by omega) (by omega)
theorem Tn.aY {n:Nat} {xs ys:List Int} (hx:Tn n xs) (hy:Tn n ys):Tn n (aY xs ys):=by
 have hl:=hx.length
 refine Tn.qK (by rw [Am];exact hl) (fun s h0 h1=>?_) fun s t s0 s1 t0 t1 e=>?_
 ·rw [oB h0 (by omega)]
  obtain ⟨a,b⟩:=hx.app h0 h1
  exact hy.app a b
 ·rw [oB s0 (by omega),oB t0 (by omega)] at e
  obtain ⟨a,b⟩:=hx.app s0 s1
  obtain ⟨c,d⟩:=hx.app t0 t1
  exact hx.inj s0 s1 t0 t1 (hy.inj a b c d e)
theorem Tn.sG {n:Nat} {xs ys:List Int} (hx:Tn n xs) (hy:Tn n ys) {s:Int} (h0:0<=s) (h1:s < (n:Int)):af.app (inv (af.aY xs ys)) s=af.app (inv xs) (af.app (inv ys) s):=by
 have hf:=hx.aY hy
 obtain ⟨a0,a1⟩:=hy.lJ h0 h1
 obtain ⟨b0,b1⟩:=hx.lJ a0 a1
 obtain ⟨c0,c1⟩:=hf.lJ h0 h1
 refine hf.inj c0 c1 b0 b1 ?_
 rw [hf.cw h0 h1,oB b0 (by rw [hx.length];exact b1),hx.cw a0 a1,hy.cw h0 h1]
def anew (xs p:List Int):List Int:=aY (aY (inv p) xs) p
theorem Tn.anew {n:Nat} {xs p:List Int} (hx:Tn n xs) (hp:Tn n p):Tn n (anew xs p):=(hp.aA.aY hx).aY hp
theorem Tn.gM {n:Nat} {xs p:List Int} (hx:Tn n xs) (hp:Tn n p) {s:Int} (h0:0<=s) (h1:s < (n:Int)):af.app (af.anew xs p) s=af.app p (af.app xs (af.app (inv p) s)):=by
 have hl:=hp.aA.length
 unfold af.anew
 rw [oB h0 (by rw [Am,hl];exact h1),oB h0 (by rw [hl];exact h1)]
theorem Tn.kH {n:Nat} {xs p:List Int} (hx:Tn n xs) (hp:Tn n p) {s:Int} (h0:0<=s) (h1:s < (n:Int)):af.app (af.anew xs p) (af.app p s)=af.app p (af.app xs s):=by
 obtain ⟨a,b⟩:=hp.app h0 h1
 rw [hx.gM hp a b,hp.gL h0 h1]
theorem Tn.mX {n:Nat} {xs p q:List Int} (hx:Tn n xs) (hp:Tn n p) (hq:Tn n q):af.anew (af.anew xs p) q=af.anew xs (af.aY p q):=by
 have hf:=hp.aY hq
 refine pE (n:=n) ((hx.anew hp).anew hq).length (hx.anew hf).length fun s h0 h1=>?_
 obtain ⟨a0,a1⟩:=hq.lJ h0 h1
 obtain ⟨b0,b1⟩:=hp.lJ a0 a1
 obtain ⟨c0,c1⟩:=hx.app b0 b1
 rw [(hx.anew hp).gM hq h0 h1,hx.gM hp a0 a1,hx.gM hf h0 h1,hp.sG hq h0 h1,oB c0 (by rw [hp.length];exact c1)]
theorem Tn.mY {n:Nat} {xs p:List Int} (hx:Tn n xs) (hp:Tn n p):af.anew (af.anew xs p) (inv p)=xs:=by
 refine pE (n:=n) ((hx.anew hp).anew hp.aA).length hx.length fun s h0 h1=>?_
 obtain ⟨a0,a1⟩:=hp.aA.lJ h0 h1
 have e:af.app (inv (inv p)) s=af.app p s:=by
  obtain ⟨b0,b1⟩:=hp.app h0 h1
  refine hp.aA.inj a0 a1 b0 b1 ?_
  rw [hp.aA.cw h0 h1,hp.gL h0 h1]
 obtain ⟨b0,b1⟩:=hp.app h0 h1
 obtain ⟨c0,c1⟩:=hx.app h0 h1
 rw [(hx.anew hp).gM hp.aA h0 h1,e,hx.kH hp h0 h1,hp.gL c0 c1]
end af
namespace af
def cq (F:List Int) (x:Int):List Int:=if x∈F then F else F ++ [x]
theorem ui (F:List Int) (x:Int):F <+: cq F x:=by
 unfold cq;split
 ·exact Vs _
 ·exact VP _ _
theorem pF {F:List Int} {x y:Int}:y∈cq F x↔y∈F\/y=x:=by
 unfold cq;split
 ·next h=>exact ⟨.inl,fun z=>z.elim id fun e=>e ▸ h⟩
 ·rw [Uk,Ud]
theorem J4 {F:List Int} {x:Int} (h:F.Nodup):(cq F x).Nodup:=by
 unfold cq;split
 ·exact h
 ·next hx =>
  rw [Vy]
  exact ⟨h,by simp,fun a ha b hb e=>hx (by rw [Ud] at hb;rw [<- hb,<- e];exact ha)⟩
def visit (xs ys F:List Int) (x:Int):List Int:=cq (cq F (app xs x)) (app ys x)
def bf (xs ys:List Int) (s:Int):Nat->List Int
 | 0=>[s]
 | k + 1=>match (bf xs ys s k)[k]? with
  | some x=>visit xs ys (bf xs ys s k) x
  | none=>bf xs ys s k
theorem Ou (xs ys:List Int) (s:Int) (k:Nat):bf xs ys s k <+: bf xs ys s (k + 1):=by
 show _ <+: (match (bf xs ys s k)[k]? with | some x=>visit xs ys (bf xs ys s k) x | none=>bf xs ys s k)
 split
 ·exact (ui _ _).trans (ui _ _)
 ·exact Vs _
theorem yx (xs ys:List Int) (s:Int) (k:Nat):∀ d,bf xs ys s k <+: bf xs ys s (k + d)
 | 0=>Vs _
 | d + 1=>(yx xs ys s k d).trans (Ou xs ys s (k + d))
theorem vU (xs ys:List Int) (s:Int):∀ k,(bf xs ys s k).Nodup
 | 0=>by show [s].Nodup;simp
 | k + 1=>by
  show (match (bf xs ys s k)[k]? with | some x=>visit xs ys (bf xs ys s k) x | none=>bf xs ys s k).Nodup
  split
  ·exact J4 (J4 (vU xs ys s k))
  ·exact vU xs ys s k
theorem Dx {xs ys:List Int} {s:Int} {k:Nat} (h:(bf xs ys s k).length<=k):∀ d,bf xs ys s (k + d)=bf xs ys s k
 | 0=>rfl
 | d + 1=>by
  have e:=Dx h d
  show (match (bf xs ys s (k + d))[k + d]? with | some x=>visit xs ys (bf xs ys s (k + d)) x | none=>bf xs ys s (k + d))=_
  rw [e,U6 (by omega)]
section
variable {n:Nat} {xs ys:List Int} {s:Int}
theorem pX (hx:Tn n xs) (hy:Tn n ys) (s0:0<=s) (s1:s < (n:Int)):∀ k,∀ x∈bf xs ys s k,0<=x/\x < (n:Int)
 | 0,x,h=>by rw [Ud.mp (show x∈[s] from h)];exact ⟨s0,s1⟩
 | k + 1,x,h=>by
  have ih:=pX hx hy s0 s1 k
  have h':x∈(match (bf xs ys s k)[k]? with | some y=>visit xs ys (bf xs ys s k) y | none=>bf xs ys s k):=h
  split at h'
  ·next y hy' =>
   obtain ⟨y0,y1⟩:=ih y (T2 hy')
   rcases pF.mp h' with h' | rfl
   ·rcases pF.mp h' with h' | rfl
    ·exact ih x h'
    ·exact hx.app y0 y1
   ·exact hy.app y0 y1
  ·exact ih x h'
theorem An (hx:Tn n xs) (hy:Tn n ys) (s0:0<=s) (s1:s < (n:Int)) (k:Nat):(bf xs ys s k).length<=n:=by
 have:=yu (vU xs ys s k) (ys:=upto n) fun x h=>lV.mpr (pX hx hy s0 s1 k x h)
 rw [oz] at this
 exact this
theorem Ao {k i:Nat} (hik:i<=k) {x:Int} (h:(bf xs ys s k)[i]?=some x):(bf xs ys s i)[i]?=some x:=by
 obtain ⟨d,rfl⟩:∃ d,k=i + d:=⟨k - i,by omega⟩
 by_cases hl:(bf xs ys s i).length<=i
 ·rw [Dx hl d] at h
  exact h
 ·obtain ⟨t,e⟩:=yx xs ys s i d
  rw [<- e,T1 (by omega)] at h
  exact h
theorem Gv (hx:Tn n xs) (hy:Tn n ys) (s0:0<=s) (s1:s < (n:Int)):Cl xs ys (bf xs ys s n):=by
 intro x hm
 obtain ⟨i,hi,e⟩:=U1 hm
 have hl:=An hx hy s0 s1 n
 have hi':(bf xs ys s i)[i]?=some x:=Ao (k:=n) (by omega) (by rw [TL hi,e])
 have hs:visit xs ys (bf xs ys s i) x <+: bf xs ys s n:=by
  have:=yx xs ys s (i + 1) (n - (i + 1))
  rw [show i + 1 + (n - (i + 1))=n by omega] at this
  have e2:bf xs ys s (i + 1)=visit xs ys (bf xs ys s i) x:=by
   show (match (bf xs ys s i)[i]? with | some x=>visit xs ys (bf xs ys s i) x | none=>bf xs ys s i)=_
   rw [hi']
  rw [<- e2];exact this
 refine ⟨hs.subset ?_,hs.subset ?_⟩
 ·exact pF.mpr (.inl (pF.mpr (.inr rfl)))
 ·exact pF.mpr (.inr rfl)
theorem Ap {zs F:List Int} (hz:Tn n zs) (nd:F.Nodup) (hb:∀ x∈F,0<=x/\x < (n:Int)) (hc:∀ x∈F,app zs x∈F) {y:Int} (y0:0<=y) (y1:y < (n:Int)) (h:app zs y∈F):y∈F:=by
 have Ov:(F.map (app zs)).Nodup:=by
  unfold List.Nodup
  rw [VR]
  refine List.Pairwise.imp_of_mem (fun {a b} ha hb' hab e=>?_) nd
  obtain ⟨a0,a1⟩:=hb a ha
  obtain ⟨b0,b1⟩:=hb b hb'
  exact hab (hz.inj a0 a1 b0 b1 e)
 have pm:(F.map (app zs)).Perm F:=Dt Ov (fun x hx=>by obtain ⟨z,hz',rfl⟩:=Ub.mp hx;exact hc z hz') (by simp)
 obtain ⟨z,yy,e⟩:=Ub.mp (pm.symm.subset h)
 obtain ⟨z0,z1⟩:=hb z yy
 rw [<- hz.inj z0 z1 y0 y1 e];exact yy
theorem J5 (hx:Tn n xs) (hy:Tn n ys) (s0:0<=s) (s1:s < (n:Int)) (all:∀ x:Int,0<=x->x < (n:Int)->i5 xs ys x) {x:Int} (x0:0<=x) (x1:x < (n:Int)):x∈bf xs ys s n:=by
 have cl:=Gv hx hy s0 s1
 have nd:=vU xs ys s n
 have bd:=pX hx hy s0 s1 n
 have hs:s∈bf xs ys s n:=by
  have:=yx xs ys s 0 n
  rw [Vx] at this
  exact this.subset (show s∈[s] by simp)
 have hpos:0 < n:=by omega
 have zero:∀ y,i5 xs ys y->y∈bf xs ys s n->(0:Int)∈bf xs ys s n:=by
  intro y hr
  induction hr with
  | zero=>exact id
  | r h ih =>
   intro hm
   obtain ⟨a,b⟩:=h.bound hx hy hpos
   exact ih (Ap hx nd bd (fun x hx'=>(cl x hx').1) a b hm)
  | u h ih =>
   intro hm
   obtain ⟨a,b⟩:=h.bound hx hy hpos
   exact ih (Ap hy nd bd (fun x hx'=>(cl x hx').2) a b hm)
 exact cl.all (zero s (all s s0 s1) hs) (all x x0 x1)
theorem Dy (hx:Tn n xs) (hy:Tn n ys) (s0:0<=s) (s1:s < (n:Int)) (all:∀ x:Int,0<=x->x < (n:Int)->i5 xs ys x):Tn n (bf xs ys s n) :=
 Dt (vU xs ys s n) (fun x h=>lV.mpr (pX hx hy s0 s1 n x h)) (by
  have:=yu (JW n) (ys:=bf xs ys s n) fun x h=>by obtain ⟨a,b⟩:=lV.mp h;exact J5 hx hy s0 s1 all a b
  exact this)
theorem J7 {p F:List Int} (hp:Tn n p) (hb:∀ x∈F,0<=x/\x < (n:Int)) {x:Int} (x0:0<=x) (x1:x < (n:Int)):cq (F.map (app p)) (app p x)=(cq F x).map (app p):=by
 unfold cq
 have e:app p x∈F.map (app p)↔x∈F:=⟨fun h=>by
  obtain ⟨y,hy,e⟩:=Ub.mp h
  obtain ⟨y0,y1⟩:=hb y hy
  rw [<- hp.inj y0 y1 x0 x1 e];exact hy,fun h=>Ub.mpr ⟨x,h,rfl⟩⟩
 by_cases h:x∈F
 ·rw [if_pos h,if_pos (e.mpr h)]
 ·rw [if_neg h,if_neg fun z=>h (e.mp z),T6];rfl
theorem Gw {p:List Int} (hx:Tn n xs) (hy:Tn n ys) (hp:Tn n p) (s0:0<=s) (s1:s < (n:Int)):∀ k,bf (anew xs p) (anew ys p) (app p s) k=(bf xs ys s k).map (app p)
 | 0=>rfl
 | k + 1=>by
  have ih:=Gw hx hy hp s0 s1 k
  show (match (bf (anew xs p) (anew ys p) (app p s) k)[k]? with | some x=>visit (anew xs p) (anew ys p) (bf (anew xs p) (anew ys p) (app p s) k) x | none=>bf (anew xs p) (anew ys p) (app p s) k)=(match (bf xs ys s k)[k]? with | some x=>visit xs ys (bf xs ys s k) x | none=>bf xs ys s k).map (app p)
  rw [ih,TR]
  cases h:(bf xs ys s k)[k]? with
  | none=>rfl
  | some x =>
   obtain ⟨x0,x1⟩:=pX hx hy s0 s1 k x (T2 h)
   obtain ⟨a0,a1⟩:=hx.app x0 x1
   obtain ⟨b0,b1⟩:=hy.app x0 x1
   show visit (anew xs p) (anew ys p) ((bf xs ys s k).map (app p)) (app p x)=(visit xs ys (bf xs ys s k) x).map (app p)
   unfold visit
   rw [hx.kH hp x0 x1,hy.kH hp x0 x1,J7 hp (pX hx hy s0 s1 k) a0 a1,J7 hp (fun z hz=>?_) b0 b1]
   rcases pF.mp hz with hz | rfl
   ·exact pX hx hy s0 s1 k z hz
   ·exact ⟨a0,a1⟩
end
def num (zs sq:List Int):List Int:=sq.map fun o=>(sq.idxOf (app zs o):Int)
theorem Tn.inv_inv {n:Nat} {p:List Int} (hp:Tn n p):inv (inv p)=p:=by
 refine pE (n:=n) hp.aA.aA.length hp.length fun s h0 h1=>?_
 obtain ⟨a0,a1⟩:=hp.aA.lJ h0 h1
 obtain ⟨b0,b1⟩:=hp.app h0 h1
 refine hp.aA.inj a0 a1 b0 b1 ?_
 rw [hp.aA.cw h0 h1,hp.gL h0 h1]
theorem Dz {n:Nat} {zs sq:List Int} (hz:Tn n zs) (hs:Tn n sq):anew zs (inv sq)=num zs sq:=by
 unfold anew num aY
 rw [hs.inv_inv,Uq]
 apply Ux
 intro o ho
 obtain ⟨o0,o1⟩:=hs.bound ho
 obtain ⟨a0,a1⟩:=hz.app o0 o1
 exact Dw a0 (by rw [hs.length];exact a1)
theorem J8 {n:Nat} {p:List Int} (hp:Tn n p):∀ {sq:List Int},(∀ x∈sq,0<=x/\x < (n:Int))->∀ {y:Int},0<=y->y < (n:Int)->(sq.map (app p)).idxOf (app p y)=sq.idxOf y
 | [],_,_,_,_=>rfl
 | a :: r,hb,y,y0,y1=>by
  obtain ⟨a0,a1⟩:=hb a TU
  rw [Ui,List.idxOf_cons,List.idxOf_cons,J8 hp (fun x hx=>hb x (TY _ hx)) y0 y1]
  by_cases e:a=y
  ·rw [e];simp
  ·have e2:app p a≠app p y:=fun z=>e (hp.inj a0 a1 y0 y1 z)
   rw [show (a == y)=false by simpa using e,show (app p a == app p y)=false by simpa using e2]
theorem J9 {n:Nat} {zs sq p:List Int} (hz:Tn n zs) (hp:Tn n p) (hb:∀ x∈sq,0<=x/\x < (n:Int)):num (anew zs p) (sq.map (app p))=num zs sq:=by
 unfold num
 rw [Uq]
 apply Ux
 intro o ho
 obtain ⟨o0,o1⟩:=hb o ho
 obtain ⟨a0,a1⟩:=hz.app o0 o1
 show ((sq.map (app p)).idxOf (app (anew zs p) (app p o)):Int)=_
 rw [hz.kH hp o0 o1,J8 hp hb a0 a1]
end af
namespace af
def pw (xs:List Int) (k i:Int):Int:=if 0<=k then bq xs i k.toNat else bq (inv xs) i (-k).toNat
section
variable {n:Nat} {xs:List Int} {i:Int}
theorem Tn.nI (h:Tn n xs) (i0:0<=i) (i1:i < (n:Int)):∀ (k m:Nat),af.bq (inv xs) (af.bq xs i m) k=if k<=m then af.bq xs i (m - k) else af.bq (inv xs) i (k - m)
 | 0,m=>by rw [if_pos (Uw _),Nat.sub_zero];rfl
 | k + 1,m=>by
  show af.app (inv xs) (af.bq (inv xs) (af.bq xs i m) k)=_
  rw [h.nI i0 i1 k m]
  by_cases hk:k<=m
  ·rw [if_pos hk]
   by_cases hk1:k + 1<=m
   ·rw [if_pos hk1]
    obtain ⟨d,hd⟩:∃ d,m - k=d + 1:=⟨m - k - 1,by omega⟩
    rw [hd,show m - (k + 1)=d by omega]
    obtain ⟨a,b⟩:=h.bq i0 i1 d
    exact h.gL a b
   ·rw [if_neg hk1,show m - k=0 by omega,show k + 1 - m=1 by omega]
    rfl
  ·rw [if_neg hk,if_neg (by omega),show k + 1 - m=(k - m) + 1 by omega]
   rfl
theorem Tn.qL (h:Tn n xs) (i0:0<=i) (i1:i < (n:Int)) (k m:Nat):af.bq xs (af.bq (inv xs) i m) k=if k<=m then af.bq (inv xs) i (m - k) else af.bq xs i (k - m):=by
 have:=h.aA.nI i0 i1 k m
 rw [h.inv_inv] at this
 exact this
theorem Tn.pw (h:Tn n xs) (i0:0<=i) (i1:i < (n:Int)) (k:Int):0<=af.pw xs k i/\af.pw xs k i < (n:Int):=by
 unfold af.pw
 split
 ·exact h.bq i0 i1 _
 ·exact h.aA.bq i0 i1 _
theorem Tn.pw_add (h:Tn n xs) (i0:0<=i) (i1:i < (n:Int)) (a b:Int):af.pw xs a (af.pw xs b i)=af.pw xs (a + b) i:=by
 by_cases ha:0<=a <;> by_cases hb:0<=b
 ·unfold af.pw
  rw [if_pos ha,if_pos hb,if_pos (by omega),rL]
  congr 1
  omega
 ·have e1:af.pw xs b i=af.bq (inv xs) i (-b).toNat:=by unfold af.pw;rw [if_neg hb]
  have e2:∀ j,af.pw xs a j=af.bq xs j a.toNat:=fun j=>by unfold af.pw;rw [if_pos ha]
  rw [e1,e2,h.qL i0 i1]
  unfold af.pw
  split
  ·split
   ·rw [show (-b).toNat - a.toNat=0 by omega,show (a + b).toNat=0 by omega];rfl
   ·congr 1;omega
  ·rw [if_pos (by omega)];congr 1;omega
 ·have e1:af.pw xs b i=af.bq xs i b.toNat:=by unfold af.pw;rw [if_pos hb]
  have e2:∀ j,af.pw xs a j=af.bq (inv xs) j (-a).toNat:=fun j=>by unfold af.pw;rw [if_neg ha]
  rw [e1,e2,h.nI i0 i1]
  unfold af.pw
  split
  ·rw [if_pos (by omega)];congr 1;omega
  ·rw [if_neg (by omega)];congr 1;omega
 ·unfold af.pw
  rw [if_neg ha,if_neg hb,if_neg (by omega),rL]
  congr 1
  omega
theorem Tn.pw_per (h:Tn n xs) (i0:0<=i) (i1:i < (n:Int)) {L:Nat} (hL:af.bq xs i L=i) (q:Int):af.pw xs ((L:Int) * q) i=i:=by
 have pos:∀ m:Nat,af.pw xs ((L:Int) * (m:Int)) i=i:=fun m=>by
  unfold af.pw
  rw [if_pos (Int.mul_nonneg (by omega) (by omega)),show ((L:Int) * (m:Int)).toNat=0 + L * m by rw [<- Int.natCast_mul,T3];omega,Al hL]
  rfl
 by_cases hq:0<=q
 ·obtain ⟨m,rfl⟩:∃ m:Nat,q=(m:Int):=⟨q.toNat,by omega⟩
  exact pos m
 ·obtain ⟨m,rfl⟩:∃ m:Nat,q=-(m:Int):=⟨(-q).toNat,by omega⟩
  have:=h.pw_add i0 i1 ((L:Int) * -(m:Int)) ((L:Int) * (m:Int))
  rw [pos m] at this
  rw [this,Int.mul_neg,Int.add_left_neg]
  rfl
theorem Tn.vV (h:Tn n xs) (i0:0<=i) (i1:i < (n:Int)) {k v:Int} (o:J1 xs k i v):v=af.pw xs k i:=by
 obtain ⟨m,_,bk,rfl⟩:=o
 have m0:=UP k (show ((m + 1:Nat):Int)≠0 by omega)
 have e:af.bq xs i (k % ((m + 1:Nat):Int)).toNat=af.pw xs (k % ((m + 1:Nat):Int)) i:=by unfold af.pw;rw [if_pos m0]
 rw [e]
 have e2:=h.pw_add i0 i1 (k % ((m + 1:Nat):Int)) (((m + 1:Nat):Int) * (k / ((m + 1:Nat):Int)))
 rw [h.pw_per i0 i1 bk,Int.emod_add_mul_ediv] at e2
 exact e2
end
def cc (xs:List Int) (k:Int):List Int:=(upto xs.length).map (pw xs k)
theorem Aq (xs:List Int) (k:Int):(cc xs k).length=xs.length:=by simp [cc,oz]
theorem o6 {xs:List Int} {k s:Int} (s0:0<=s) (s1:s < (xs.length:Int)):app (cc xs k) s=pw xs k s:=by
 have e:=oA (xs:=cc xs k) s0 (by rw [Aq];exact s1)
 unfold cc at e
 rw [TR,Ak (by omega)] at e
 have:=T5 e
 rw [Um s0] at this
 exact this.symm
theorem Tn.cc {n:Nat} {xs:List Int} (h:Tn n xs) (k:Int):Tn n (cc xs k):=by
 have hl:=h.length
 refine Tn.qK (by rw [Aq];exact hl) (fun s s0 s1=>by rw [o6 s0 (by omega)];exact h.pw s0 s1 k) fun s t s0 s1 t0 t1 e=>?_
 rw [o6 s0 (by omega),o6 t0 (by omega)] at e
 have e2:=congrArg (af.pw xs (-k)) e
 rw [h.pw_add s0 s1,h.pw_add t0 t1,Int.add_left_neg] at e2
 exact e2
def shr (xs ys:List Int) (k:Int):List Int:=aY (cc xs (-k)) ys
theorem Tn.shr {n:Nat} {xs ys:List Int} (hx:Tn n xs) (hy:Tn n ys) (k:Int):Tn n (shr xs ys k):=(hx.cc (-k)).aY hy
theorem Tn.lW {n:Nat} {xs ys:List Int} (hx:Tn n xs) {k s:Int} (s0:0<=s) (s1:s < (n:Int)):af.app (af.shr xs ys k) s=af.app ys (af.pw xs (-k) s):=by
 have hl:=hx.length
 unfold af.shr
 rw [oB s0 (by rw [Aq,hl];exact s1),o6 s0 (by rw [hl];exact s1)]
theorem Tn.sH {n:Nat} {xs ys:List Int} (hx:Tn n xs) (hy:Tn n ys) (a b:Int):af.shr xs (af.shr xs ys a) b=af.shr xs ys (a + b):=by
 refine pE (n:=n) (hx.shr (hx.shr hy a) b).length (hx.shr hy (a + b)).length fun s s0 s1=>?_
 obtain ⟨p0,p1⟩:=hx.pw s0 s1 (-b)
 rw [hx.lW s0 s1,hx.lW p0 p1,hx.lW s0 s1,hx.pw_add s0 s1,show -a + -b=-(a + b) by omega]
theorem Tn.qM {n:Nat} {xs ys:List Int} (hx:Tn n xs) (hy:Tn n ys):af.shr xs ys 0=ys:=by
 refine pE (n:=n) (hx.shr hy 0).length hy.length fun s s0 s1=>?_
 rw [hx.lW s0 s1]
 rfl
end af
namespace af
def tb (l:Int->Nat) (p:Int->Int) (a b:Int):Bool:=if l a=l b\/l (p a)=l (p b) then false else (decide (l a < l b)).xor (decide (l (p a) < l (p b)))
section
variable {n:Nat} {L:List Int} {l:Int->Nat}
end
end af
namespace af
end af
namespace af
abbrev Sp:=Bool×Int
def eP (s:Sp):Prop:=(s.1=false->1<=s.2/\s.2<=3)/\s.2≠0
def gO (a b:Sp):Int:=if a.1 then a.2 + b.2 else (a.2 + b.2) % 4
def b8 (a b:Sp):List Sp:=if gO a b=0 then [] else [(a.1,gO a b)]
def bP:List Sp->Sp->List Sp
 | [],s=>[s]
 | t :: r,s=>if t.1=s.1 then b8 t s ++ r else s :: t :: r
theorem rM (t:Sp) (r:List Sp) (s:Sp):bP (t :: r) s=if t.1=s.1 then b8 t s ++ r else s :: t :: r:=rfl
def jG (w:List Sp):List Sp:=w.foldl bP []
def iS (s:Sp):Sp:=(s.1,if s.1 then -s.2 else 4 - s.2)
def kU (w:List Sp):List Sp:=(w.map iS).reverse
def Pl:List Sp->Prop
 | []=>True
 | a :: r=>eP a/\(∀ b,r.head?=some b->a.1≠b.1)/\Pl r
theorem Pl.pr:∀ {l:List Sp},Pl l->∀ s∈l,eP s
 | a :: r,h,s,hs=>by
  rcases Up.mp hs with rfl | hs
  ·exact h.1
  ·exact Pl.pr h.2.2 s hs
theorem Ka {a b:Sp} (ha:eP a) (e:a.1=b.1):(gO a b=0/\b8 a b=[])\/(eP (a.1,gO a b)/\b8 a b=[(a.1,gO a b)]):=by
 unfold b8
 by_cases h:gO a b=0
 ·exact .inl ⟨h,by rw [if_pos h]⟩
 ·refine .inr ⟨⟨fun hf=>?_,h⟩,by rw [if_neg h]⟩
  simp only at hf
  unfold gO at h ⊢
  simp only [hf,UK,if_false] at h ⊢
  omega
theorem Pl.push {l:List Sp} {s:Sp} (h:Pl l) (hs:eP s):Pl (bP l s):=by
 cases l with
 | nil=>exact ⟨hs,fun b h=>(nomatch h),trivial⟩
 | cons t r =>
  rw [rM]
  split
  ·next e =>
   rcases Ka h.1 e with ⟨_,ej⟩ | ⟨hp,ej⟩
   ·rw [ej];exact h.2.2
   ·rw [ej];exact ⟨hp,h.2.1,h.2.2⟩
  ·next e =>
   refine ⟨hs,fun b hb=>?_,h⟩
   cases hb
   exact fun e'=>e e'.symm
theorem Pl.fold {w:List Sp}:∀ {l:List Sp},Pl l->(∀ s∈w,eP s)->Pl (w.foldl bP l):=by
 induction w with
 | nil=>exact fun h _=>h
 | cons s w ih=>exact fun h hw=>ih (h.push (hw s (TU))) fun s' h'=>hw s' (TY _ h')
theorem vW {w:List Sp} (hw:∀ s∈w,eP s):Pl (jG w):=Pl.fold (l:=[]) trivial hw
theorem Gx {l:List Sp} {s:Sp} (h:∀ b,l.head?=some b->s.1≠b.1):bP l s=s :: l:=by
 cases l with
 | nil=>rfl
 | cons t r=>rw [rM,if_neg fun e=>h t rfl e.symm]
theorem Pl.mZ:∀ {l:List Sp},Pl l->jG l.reverse=l
 | [],_=>rfl
 | a :: r,h=>by
  unfold jG
  rw [Vj,UN]
  show bP (jG r.reverse) a=_
  rw [Pl.mZ h.2.2,Gx h.2.1]
theorem Gy (u v:List Sp):jG (u ++ v)=v.foldl bP (jG u):=by unfold jG;rw [UN]
theorem Ar {s:Sp} (h:eP s):eP (iS s):=by
 obtain ⟨b,k⟩:=s
 cases b with
 | true=>exact ⟨nofun,fun e=>h.2 (by have:-k=0:=e;show k=0;omega)⟩
 | false =>
  obtain ⟨h1,h2⟩:=h.1 rfl
  simp only at h1 h2
  exact ⟨fun _=>by show 1<=4 - k/\4 - k<=3;omega,by show 4 - k≠0;omega⟩
theorem Ow {p:List Sp} {s:Sp} (hp:Pl p) (hs:eP s):bP (bP p s) (iS s)=p:=by
 have e0:b8 s (iS s)=[]:=by
  unfold b8 gO iS
  cases hb:s.1 <;> simp <;> omega
 cases p with
 | nil =>
  show (if s.1=(iS s).1 then b8 s (iS s) ++ [] else _)=_
  rw [if_pos (show s.1=(iS s).1 from rfl),e0];rfl
 | cons t r =>
  by_cases e:t.1=s.1
  ·have e1:bP (t :: r) s=b8 t s ++ r:=by rw [rM,if_pos e]
   rw [e1]
   obtain ⟨tb,tk⟩:=t
   obtain ⟨sb,sk⟩:=s
   simp only at e
   subst e
   have ht:=hp.1
   rcases Ka (b:=(tb,sk)) hp.1 rfl with ⟨h0,ej⟩ | ⟨yz,ej⟩
   ·rw [ej,List.nil_append]
    have eb:iS (tb,sk)=(tb,tk):=by
     unfold iS
     unfold gO at h0
     cases tb with
     | true=>simp only [if_true] at h0 ⊢;congr 1;omega
     | false =>
      have h1:=ht.1 rfl
      have h2:=hs.1 rfl
      simp only [UK,if_false] at h0 h1 h2 ⊢
      congr 1;omega
    rw [eb]
    exact Gx hp.2.1
   ·rw [ej]
    show (if tb=(iS (tb,sk)).1 then b8 (tb,gO (tb,tk) (tb,sk)) (iS (tb,sk)) ++ r else _)=_
    rw [if_pos (show tb=(iS (tb,sk)).1 from rfl)]
    have eb:gO (tb,gO (tb,tk) (tb,sk)) (iS (tb,sk))=tk:=by
     unfold gO iS
     cases tb with
     | true=>simp only [if_true];omega
     | false =>
      have h1:=ht.1 rfl
      have h2:=hs.1 rfl
      simp only [UK,if_false] at h1 h2 ⊢
      omega
    unfold b8
    rw [eb,if_neg ht.2]
    rfl
  ·have e1:bP (t :: r) s=s :: t :: r:=by rw [rM,if_neg e]
   rw [e1]
   show (if s.1=(iS s).1 then b8 s (iS s) ++ (t :: r) else _)=_
   rw [if_pos (show s.1=(iS s).1 from rfl),e0];rfl
theorem Ox {w:List Sp}:∀ {p:List Sp},Pl p->(∀ s∈w,eP s)->(w ++ kU w).foldl bP p=p:=by
 induction w with
 | nil=>exact fun _ _=>rfl
 | cons s w ih =>
  intro p hp hw
  have e:(s :: w) ++ kU (s :: w)=s :: ((w ++ kU w) ++ [iS s]):=by unfold kU;simp
  rw [e]
  show ((w ++ kU w) ++ [iS s]).foldl bP (bP p s)=p
  have hs:=hw s (TU)
  rw [UN,ih (hp.push hs) fun s' h'=>hw s' (TY _ h')]
  exact Ow hp hs
theorem Oy {w:List Sp} (hw:∀ s∈w,eP s):jG (w ++ kU w)=[]:=Ox (p:=[]) trivial hw
theorem Oz {l:List Sp} {s:Sp} {M B:Nat} (h:∀ x∈l,x.2.natAbs<=M) (hs:s.2.natAbs<=B) (hp:eP s) (hl:Pl l):∀ x∈bP l s,x.2.natAbs<=M + B:=by
 intro x hx
 cases l with
 | nil=>rcases Ud.mp hx with rfl;omega
 | cons t r =>
  rw [rM] at hx
  have ht:=h t (TU)
  split at hx
  ·next e0 =>
   rcases Uk.mp hx with hx | hx
   ·unfold b8 at hx
    split at hx
    ·exact (nomatch hx)
    ·rcases Ud.mp hx with rfl
     show (gO t s).natAbs<=_
     unfold gO
     split
     ·omega
     ·next hb =>
      have:=hl.1.1 (by simpa using hb)
      have h2:=hp.1 (by rw [<- e0];simpa using hb)
      omega
   ·have:=h x (TY _ hx);omega
  ·rcases Up.mp hx with rfl | hx
   ·omega
   ·have:=h x hx;omega
theorem OA (l:List Sp) (s:Sp):(bP l s).length<=l.length + 1:=by
 cases l with
 | nil=>exact TM _
 | cons t r =>
  rw [rM]
  split
  ·unfold b8;split <;> simp <;> omega
  ·simp
theorem OB {w:List Sp}:∀ {l:List Sp},(w.foldl bP l).length<=l.length + w.length:=by
 induction w with
 | nil=>exact TM _
 | cons s w ih =>
  intro l
  have:=ih (l:=bP l s)
  have h2:=OA l s
  rw [Uo]
  exact Uh this (by omega)
theorem Gz (w:List Sp):(jG w).length<=w.length:=by have:=OB (w:=w) (l:=[]);simpa [jG] using this
structure T4 where (a b c d:Int)
def T4.one:T4:=⟨1,0,0,1⟩
def T4.qt:T4:=⟨0,-1,1,0⟩
def T4.mul (x y:T4):T4:=⟨x.a * y.a + x.b * y.c,x.a * y.b + x.b * y.d,x.c * y.a + x.d * y.c,x.c * y.b + x.d * y.d⟩
def T4.rN (x:T4):T4:=⟨x.d,-x.b,-x.c,x.a⟩
theorem T4.ext' {x y:T4} (h1:x.a=y.a) (h2:x.b=y.b) (h3:x.c=y.c) (h4:x.d=y.d):x=y:=by cases x;cases y;simp only at h1 h2 h3 h4;subst h1 h2 h3 h4;rfl
theorem T4.assoc (x y z:T4):(x.mul y).mul z=x.mul (y.mul z):=by
 apply T4.ext' <;> simp only [T4.mul,Int.add_mul,Int.mul_add,Int.mul_assoc] <;> omega
theorem T4.one_mul (x:T4):T4.one.mul x=x:=by apply T4.ext' <;> simp [T4.mul,T4.one]
theorem T4.mul_one (x:T4):x.mul T4.one=x:=by apply T4.ext' <;> simp [T4.mul,T4.one]
theorem T4.sI (x y:T4):(x.mul y).rN=y.rN.mul x.rN:=by
 apply T4.ext' <;> simp only [T4.mul,T4.rN,Int.neg_mul,Int.mul_neg,Int.neg_neg,Int.mul_comm] <;> omega
def qp:Nat->T4
 | 0=>T4.one
 | n + 1=>T4.qt.mul (qp n)
def kI (s:Sp):T4:=if s.1 then ⟨1,s.2,0,1⟩ else qp s.2.toNat
def lK (T:T4) (w:List Sp):T4:=w.foldl (fun T s=>(kI s).mul T) T
def bu (w:List Sp):T4:=lK T4.one w
theorem OC (w:List Sp):∀ T:T4,lK T w=(bu w).mul T:=by
 induction w with
 | nil=>exact fun T=>(T4.one_mul T).symm
 | cons s w ih =>
  intro T
  show lK ((kI s).mul T) w=(lK ((kI s).mul T4.one) w).mul T
  rw [ih,ih,T4.mul_one,T4.assoc]
theorem vX (u v:List Sp):bu (u ++ v)=(bu v).mul (bu u):=by
 show lK T4.one (u ++ v)=_
 unfold lK
 rw [UN]
 exact OC v _
theorem vY (u:List Sp) (s:Sp):bu (u ++ [s])=(kI s).mul (bu u):=by
 show lK T4.one (u ++ [s])=_
 unfold lK
 rw [UN];rfl
theorem t3 {k:Int} (h:1<=k/\k<=3):k=1\/k=2\/k=3:=by omega
theorem OD {t s:Sp} (ht:eP t) (hs:eP s) (e:t.1=s.1):bu (b8 t s)=(kI s).mul (kI t):=by
 obtain ⟨tb,tk⟩:=t
 obtain ⟨sb,sk⟩:=s
 simp only at e
 subst e
 cases tb with
 | true =>
  have e2:(kI (true,sk)).mul (kI (true,tk))=⟨1,tk + sk,0,1⟩:=by apply T4.ext' <;> simp [T4.mul,kI] <;> omega
  rw [e2]
  unfold b8 gO
  simp only [if_true]
  split
  ·next h=>rw [h];rfl
  ·rw [show bu [(true,tk + sk)]=(kI (true,tk + sk)).mul T4.one from rfl,T4.mul_one];rfl
 | false =>
  have h1:=ht.1 rfl
  have h2:=hs.1 rfl
  simp only at h1 h2
  rcases t3 h1 with rfl | rfl | rfl <;> rcases t3 h2 with rfl | rfl | rfl <;> rfl
theorem OE {l:List Sp} {s:Sp} (hl:Pl l) (hs:eP s):bu (bP l s).reverse=(kI s).mul (bu l.reverse):=by
 cases l with
 | nil=>exact vY [] s
 | cons t r =>
  rw [rM]
  split
  ·next e =>
   rw [List.reverse_append,vX,Vj,vY,<- T4.assoc]
   congr 1
   rw [<- OD hl.1 hs e]
   unfold b8
   split <;> rfl
  ·rw [Vj,vY]
theorem OG {w:List Sp}:∀ {l:List Sp},Pl l->(∀ s∈w,eP s)->bu (w.foldl bP l).reverse=lK (bu l.reverse) w:=by
 induction w with
 | nil=>exact fun _ _=>rfl
 | cons s w ih =>
  intro l hl hw
  have hs:=hw s (TU)
  show bu (w.foldl bP (bP l s)).reverse=lK ((kI s).mul (bu l.reverse)) w
  rw [ih (hl.push hs) fun s' h'=>hw s' (TY _ h'),OE hl hs]
theorem Kb {w:List Sp} (hw:∀ s∈w,eP s):bu (jG w).reverse=bu w:=OG (l:=[]) trivial hw
theorem vZ {s:Sp} (h:eP s):kI (iS s)=(kI s).rN:=by
 obtain ⟨b,k⟩:=s
 cases b with
 | true=>apply T4.ext' <;> simp [T4.rN,kI,iS]
 | false =>
  have h1:=h.1 rfl
  simp only at h1
  rcases t3 h1 with rfl | rfl | rfl <;> rfl
theorem Kc {w:List Sp} (hw:∀ s∈w,eP s):bu (kU w)=(bu w).rN:=by
 induction w with
 | nil=>rfl
 | cons s w ih =>
  have e:kU (s :: w)=kU w ++ [iS s]:=by unfold kU;simp
  have e2:bu (s :: w)=(bu w).mul (kI s):=by
   rw [show s :: w=[s] ++ w from rfl,vX]
   congr 1
   exact (vY [] s).trans (T4.mul_one _)
  rw [e,vY,ih fun s' h'=>hw s' (TY _ h'),vZ (hw s (TU)),e2,T4.sI]
def T4.le (x:T4) (M:Nat):Prop:=x.a.natAbs<=M/\x.b.natAbs<=M/\x.c.natAbs<=M/\x.d.natAbs<=M
theorem Kd {a c k:Int} {M B:Nat} (ha:a.natAbs<=M) (hc:c.natAbs<=M) (hk:k.natAbs<=B):(a + k * c).natAbs<=(B + 1) * M:=by
 have h1:(k * c).natAbs<=B * M:=by rw [Int.natAbs_mul];exact Nat.mul_le_mul hk hc
 rw [VH]
 omega
theorem uj {T:T4} {s:Sp} {M B:Nat} (h:T.le M) (hp:eP s) (hs:s.2.natAbs<=B):((kI s).mul T).le ((B + 1) * M):=by
 obtain ⟨b,k⟩:=s
 obtain ⟨ha,hb,hc,hd⟩:=h
 have hM:M<=(B + 1) * M:=by rw [VH];omega
 cases b with
 | true =>
  refine ⟨?_,?_,?_,?_⟩ <;> simp only [T4.mul,kI,if_true,Int.one_mul,Int.zero_mul,U4]
  ·exact Kd ha hc hs
  ·exact Kd hb hd hs
  ·omega
  ·omega
 | false =>
  have h1:=hp.1 rfl
  simp only at h1
  rcases t3 h1 with rfl | rfl | rfl <;> refine ⟨?_,?_,?_,?_⟩ <;> simp [T4.mul,kI,qp,T4.qt,T4.one] <;> omega
theorem v9 {B:Nat} {w:List Sp}:∀ {T:T4} {M:Nat},T.le M->(∀ s∈w,eP s/\s.2.natAbs<=B)->(lK T w).le ((B + 1) ^ w.length * M):=by
 induction w with
 | nil=>intro T M h _;simpa [lK] using h
 | cons s w ih =>
  intro T M h hw
  have hs:=hw s (TU)
  have:=ih (uj h hs.1 hs.2) fun s' h'=>hw s' (TY _ h')
  rw [Uo,Nat.pow_succ,Nat.mul_assoc]
  exact this
theorem OH {B n:Nat} {w:List Sp} (hw:∀ s∈w,eP s/\s.2.natAbs<=B) (hn:w.length<=n):(bu w).le ((B + 1) ^ n):=by
 have h:=v9 (T:=T4.one) (M:=1) ⟨by decide,by decide,by decide,by decide⟩ hw
 have h2:(B + 1) ^ w.length * 1<=(B + 1) ^ n:=by rw [Nat.mul_one];exact Nat.pow_le_pow_right (by omega) hn
 exact ⟨Uh h.1 h2,Uh h.2.1 h2,Uh h.2.2.1 h2,Uh h.2.2.2 h2⟩
end af
namespace af
def oP:List Int->List Int->Bool
 | [],[]=>false
 | [],_ :: _=>true
 | _ :: _,[]=>false
 | x :: xs,y :: ys=>if x=y then oP xs ys else decide (x < y)
theorem DA:∀ xs:List Int,oP xs xs=false
 | []=>rfl
 | x :: xs=>by unfold oP;rw [if_pos rfl];exact DA xs
theorem GA:∀ {xs ys zs:List Int},oP xs ys=true->oP ys zs=true->oP xs zs=true
 | [],[],_,h,_=>by cases h
 | [],_ :: _,[],_,h=>by cases h
 | [],_ :: _,_ :: _,_,_=>rfl
 | _ :: _,[],_,h,_=>by cases h
 | _ :: _,_ :: _,[],_,h=>by cases h
 | x :: xs,y :: ys,z :: zs,h1,h2=>by
  unfold oP at h1 h2 ⊢
  by_cases a:x=y
  ·rw [if_pos a] at h1
   by_cases b:y=z
   ·rw [if_pos b] at h2
    rw [if_pos (a.trans b)];exact GA h1 h2
   ·rw [if_neg b] at h2
    rw [if_neg (fun e=>b (a.symm.trans e))]
    rw [a];exact h2
  ·rw [if_neg a] at h1
   have h1:=of_decide_eq_true h1
   by_cases b:y=z
   ·rw [<- b,if_neg a];exact decide_eq_true h1
   ·rw [if_neg b] at h2
    have h2:=of_decide_eq_true h2
    rw [if_neg (by omega)];exact decide_eq_true (by omega)
theorem GB:∀ {xs ys:List Int},oP xs ys=false->oP ys xs=false->xs=ys
 | [],[],_,_=>rfl
 | [],_ :: _,h,_=>by cases h
 | _ :: _,[],_,h=>by cases h
 | x :: xs,y :: ys,h1,h2=>by
  unfold oP at h1 h2
  by_cases a:x=y
  ·subst a
   rw [if_pos rfl] at h1 h2
   rw [GB h1 h2]
  ·rw [if_neg a] at h1
   rw [if_neg (Ne.symm a)] at h2
   have h1:=of_decide_eq_false h1
   have h2:=of_decide_eq_false h2
   omega
abbrev aU:=List Int×List Int
def my (p q:aU):Bool:=if p.1=q.1 then oP p.2 q.2 else oP p.1 q.1
theorem Ke (p:aU):my p p=false:=by unfold my;rw [if_pos rfl];exact DA _
theorem OI {p q r:aU} (h1:my p q=true) (h2:my q r=true):my p r=true:=by
 unfold my at h1 h2 ⊢
 by_cases a:p.1=q.1
 ·rw [if_pos a] at h1
  by_cases b:q.1=r.1
  ·rw [if_pos b] at h2
   rw [if_pos (a.trans b)];exact GA h1 h2
  ·rw [if_neg b] at h2
   rw [if_neg (fun e=>b (a.symm.trans e)),a];exact h2
 ·rw [if_neg a] at h1
  by_cases b:q.1=r.1
  ·rw [<- b,if_neg a];exact h1
  ·rw [if_neg b] at h2
   have h:=GA h1 h2
   rw [if_neg (fun e=>by rw [e,DA] at h;cases h)];exact h
theorem OJ {p q:aU} (h1:my p q=false) (h2:my q p=false):p=q:=by
 unfold my at h1 h2
 by_cases a:p.1=q.1
 ·rw [if_pos a] at h1
  rw [if_pos a.symm] at h2
  exact Prod.ext a (GB h1 h2)
 ·rw [if_neg a] at h1
  rw [if_neg (Ne.symm a)] at h2
  exact absurd (GB h1 h2) a
def mz:List aU->aU
 | []=>([],[])
 | p :: l=>l.foldl (fun b q=>if my q b then q else b) p
def Lst (l:List aU) (p:aU):Prop:=p∈l/\∀ q∈l,my q p=false
theorem Lst.unique {l m:List aU} {p q:aU} (a:Lst l p) (b:Lst m q) (h:∀ x,x∈l↔x∈m):p=q:=OJ (b.2 p ((h p).mp a.1)) (a.2 q ((h q).mpr b.1))
theorem Lst.step {l:List aU} {b q:aU} (h:Lst l b):Lst (l ++ [q]) (if my q b then q else b):=by
 split
 ·next hq =>
  refine ⟨Us _ (List.mem_singleton_self _),fun x hx=>?_⟩
  rcases Uk.mp hx with hx | hx
  ·cases OL:my x q with
   | false=>rfl
   | true=>have:=OI OL hq;rw [h.2 x hx] at this;cases this
  ·rw [Ud.mp hx];exact Ke q
 ·next hq =>
  refine ⟨U8 _ h.1,fun x hx=>?_⟩
  rcases Uk.mp hx with hx | hx
  ·exact h.2 x hx
  ·rw [Ud.mp hx];simpa using hq
theorem Lst.fold:∀ (l pre:List aU) (b:aU),Lst pre b->Lst (pre ++ l) (l.foldl (fun b q=>if my q b then q else b) b)
 | [],pre,b,h=>by rw [U5];exact h
 | q :: l,pre,b,h=>by
  have:=Lst.fold l (pre ++ [q]) _ (h.step (q:=q))
  rw [Vi] at this
  exact this
theorem GD {l:List aU} (h:l≠[]):Lst l (mz l):=by
 cases l with
 | nil=>exact absurd rfl h
 | cons p l=>exact Lst.fold l [p] p ⟨List.mem_singleton_self _,fun q hq=>by rw [Ud.mp hq];exact Ke p⟩
theorem OM {l m:List aU} (h:∀ x,x∈l↔x∈m) (hl:l≠[]):mz l=mz m:=by
 have hm:m≠[]:=fun e=>by
  obtain ⟨x,hx⟩:=List.exists_mem_of_ne_nil l hl
  have:=(h x).mp hx
  rw [e] at this
  cases this
 exact (GD hl).unique (GD hm) h
end af
namespace af
theorem uk (n:Nat):Tn n (upto n):=Vo _
theorem DB {n:Nat} {s:Int} (s0:0<=s) (s1:s < (n:Int)):app (upto n) s=s:=by
 unfold app
 rw [T9,Ak (by omega),Option.getD_some];omega
section
variable {n:Nat} {a b c g x y:List Int}
theorem pH (ha:Tn n a) (hb:Tn n b) (hc:Tn n c):aY (aY a b) c=aY a (aY b c):=by
 refine pE (n:=n) ((ha.aY hb).aY hc).length (ha.aY (hb.aY hc)).length fun s s0 s1=>?_
 obtain ⟨p0,p1⟩:=ha.app s0 s1
 rw [oB s0 (by rw [(ha.aY hb).length];exact s1),oB s0 (by rw [ha.length];exact s1),oB s0 (by rw [ha.length];exact s1),oB p0 (by rw [hb.length];exact p1)]
theorem As (ha:Tn n a):aY a (inv a)=upto n:=Oe ha
theorem GF (ha:Tn n a):aY (inv a) a=upto n:=Og ha
theorem wa (ha:Tn n a):aY a (upto n)=a:=by
 refine pE (n:=n) (ha.aY (uk n)).length ha.length fun s s0 s1=>?_
 obtain ⟨p0,p1⟩:=ha.app s0 s1
 rw [oB s0 (by rw [ha.length];exact s1),DB p0 p1]
theorem DC (ha:Tn n a):aY (upto n) a=a:=by
 refine pE (n:=n) ((uk n).aY ha).length ha.length fun s s0 s1=>?_
 rw [oB s0 (by rw [(uk n).length];exact s1),DB s0 s1]
theorem DE (ha:Tn n a) (hb:Tn n b) (h:aY a b=upto n):inv a=b:=by
 have e:aY (inv a) (aY a b)=b:=by rw [<- pH ha.aA ha hb,GF ha,DC hb]
 rw [h,wa ha.aA] at e
 exact e
theorem um (ha:Tn n a) (hb:Tn n b):inv (aY a b)=aY (inv b) (inv a):=by
 refine DE (ha.aY hb) (hb.aA.aY ha.aA) ?_
 rw [pH ha hb (hb.aA.aY ha.aA),<- pH hb hb.aA ha.aA,As hb,DC ha.aA,As ha]
theorem Kf (ha:Tn n a) (hb:Tn n b):aY (aY a b) (inv b)=a:=by rw [pH ha hb hb.aA,As hb,wa ha]
theorem GG (ha:Tn n a) (hb:Tn n b):aY (aY a (inv b)) b=a:=by rw [pH ha hb.aA hb,GF hb,wa ha]
theorem OO (ha:Tn n a) (hb:Tn n b):aY a (aY (inv a) b)=b:=by rw [<- pH ha ha.aA hb,As ha,DC hb]
theorem Au (hx:Tn n x) (i j:Int):aY (cc x i) (cc x j)=cc x (i + j):=by
 refine pE (n:=n) ((hx.cc i).aY (hx.cc j)).length (hx.cc (i + j)).length fun s s0 s1=>?_
 obtain ⟨p0,p1⟩:=hx.pw s0 s1 i
 have hl:=hx.length
 rw [oB s0 (by rw [Aq,hl];exact s1),o6 s0 (by rw [hl];exact s1),o6 p0 (by rw [hl];exact p1),o6 s0 (by rw [hl];exact s1),hx.pw_add s0 s1,Int.add_comm j i]
theorem GH (hx:Tn n x):cc x 0=upto n:=by
 refine pE (n:=n) (hx.cc 0).length (uk n).length fun s s0 s1=>?_
 rw [o6 s0 (by rw [hx.length];exact s1),DB s0 s1];rfl
theorem Av (hx:Tn n x):cc x 1=x:=by
 refine pE (n:=n) (hx.cc 1).length hx.length fun s s0 s1=>?_
 rw [o6 s0 (by rw [hx.length];exact s1)];rfl
theorem GI (hx:Tn n x) (k:Int):inv (cc x k)=cc x (-k):=DE (hx.cc k) (hx.cc (-k)) (by rw [Au hx,Int.add_right_neg,GH hx])
theorem GJ (hx:Tn n x):cc x (-1)=inv x:=by rw [<- GI hx,Av hx]
theorem Kg (hx:Tn n x) (k:Int):cc (inv x) k=cc x (-k):=by
 refine pE (n:=n) (hx.aA.cc k).length (hx.cc (-k)).length fun s s0 s1=>?_
 rw [o6 s0 (by rw [hx.aA.length];exact s1),o6 s0 (by rw [hx.length];exact s1)]
 unfold pw
 by_cases h:0<=k
 ·rw [if_pos h]
  by_cases h0:k=0
  ·subst h0;rfl
  ·rw [if_neg (by omega),show -(-k)=k by omega]
 ·rw [if_neg h,if_pos (by omega),hx.inv_inv]
theorem Kh (ha:Tn n a) (hb:Tn n b) (hg:Tn n g):aY (anew a g) (anew b g)=anew (aY a b) g:=by
 unfold anew
 have hi:=hg.aA
 rw [pH (hi.aY ha) hg ((hi.aY hb).aY hg),pH hi hb hg,OO hg (hb.aY hg),pH hi ha (hb.aY hg),<- pH ha hb hg,<- pH hi (ha.aY hb) hg]
theorem OQ (hg:Tn n g):anew (upto n) g=upto n:=by unfold anew;rw [wa hg.aA,GF hg]
theorem Ki (ha:Tn n a) (hg:Tn n g):inv (anew a g)=anew (inv a) g:=DE (ha.anew hg) (ha.aA.anew hg) (by rw [Kh ha ha.aA hg,As ha,OQ hg])
theorem GK (hx:Tn n x) (hg:Tn n g) {i:Int} (i0:0<=i) (i1:i < (n:Int)):∀ k,bq (anew x g) (app g i) k=app g (bq x i k)
 | 0=>rfl
 | k + 1=>by
  obtain ⟨p0,p1⟩:=hx.bq i0 i1 k
  show app (anew x g) (bq (anew x g) (app g i) k)=app g (app x (bq x i k))
  rw [GK hx hg i0 i1 k,hx.kH hg p0 p1]
theorem OR (hx:Tn n x) (hg:Tn n g) {i:Int} (i0:0<=i) (i1:i < (n:Int)) (k:Int):pw (anew x g) k (app g i)=app g (pw x k i):=by
 unfold pw
 split
 ·exact GK hx hg i0 i1 _
 ·rw [Ki hx hg];exact GK hx.aA hg i0 i1 _
theorem OS (hx:Tn n x) (hg:Tn n g) (k:Int):cc (anew x g) k=anew (cc x k) g:=by
 refine pE (n:=n) ((hx.anew hg).cc k).length ((hx.cc k).anew hg).length fun s s0 s1=>?_
 obtain ⟨p0,p1⟩:=hg.lJ s0 s1
 rw [o6 s0 (by rw [(hx.anew hg).length];exact s1),(hx.cc k).gM hg s0 s1,o6 p0 (by rw [hx.length];exact p1),<- OR hx hg p0 p1,hg.cw s0 s1]
end
def Vf (n:Nat) (p:aU):Prop:=Tn n p.1/\Tn n p.2
def bL (n:Nat) (p q:aU):Prop:=∃ g,Tn n g/\q=(anew p.1 g,anew p.2 g)
def Sh (k:Int) (p:aU):aU:=(p.1,shr p.1 p.2 k)
def Qt (p:aU):aU:=(inv p.2,p.1)
section
variable {n:Nat} {p q r:aU}
theorem Vf.sh (h:Vf n p) (k:Int):Vf n (Sh k p):=⟨h.1,h.1.shr h.2 k⟩
theorem Vf.qt (h:Vf n p):Vf n (Qt p):=⟨h.2.aA,h.1⟩
theorem bL.refl (h:Vf n p):bL n p p:=⟨upto n,uk n,by
 have e:∀ a:List Int,Tn n a->anew a (upto n)=a:=fun a ha=>by
  unfold anew
  rw [DE (uk n) (uk n) (wa (uk n)),DC ha,wa ha]
 rw [e _ h.1,e _ h.2]⟩
theorem bL.symm (h:Vf n p) (a:bL n p q):bL n q p:=by
 obtain ⟨g,hg,rfl⟩:=a
 exact ⟨inv g,hg.aA,by show p=(anew (anew p.1 g) (inv g),anew (anew p.2 g) (inv g));rw [h.1.mY hg,h.2.mY hg]⟩
theorem bL.trans (h:Vf n p) (a:bL n p q) (b:bL n q r):bL n p r:=by
 obtain ⟨g,hg,rfl⟩:=a
 obtain ⟨f,hf,rfl⟩:=b
 exact ⟨aY g f,hg.aY hf,by show (anew (anew p.1 g) f,anew (anew p.2 g) f)=_;rw [h.1.mX hg hf,h.2.mX hg hf]⟩
theorem bL.sh (h:Vf n p) (a:bL n p q) (k:Int):bL n (Sh k p) (Sh k q):=by
 obtain ⟨g,hg,rfl⟩:=a
 refine ⟨g,hg,?_⟩
 show (anew p.1 g,aY (cc (anew p.1 g) (-k)) (anew p.2 g))=(anew p.1 g,anew (aY (cc p.1 (-k)) p.2) g)
 rw [OS h.1 hg,Kh (h.1.cc _) h.2 hg]
theorem bL.qt (h:Vf n p) (a:bL n p q):bL n (Qt p) (Qt q):=by
 obtain ⟨g,hg,rfl⟩:=a
 refine ⟨g,hg,?_⟩
 show (inv (anew p.2 g),anew p.1 g)=(anew (inv p.2) g,anew p.1 g)
 rw [Ki h.2 hg]
theorem Aw (h:Vf n p) (j k:Int):Sh k (Sh j p)=Sh (j + k) p:=by
 show (p.1,shr p.1 (shr p.1 p.2 j) k)=(p.1,shr p.1 p.2 (j + k))
 rw [h.1.sH h.2]
theorem sJ (h:Vf n p):Sh 0 p=p:=by
 show (p.1,shr p.1 p.2 0)=p
 rw [h.1.qM h.2]
def Q2 (p:aU):aU:=(inv p.1,inv p.2)
theorem Ax (p:aU):Qt (Qt p)=Q2 p:=rfl
theorem Ay (h:Vf n p):Q2 (Q2 p)=p:=by
 show (inv (inv p.1),inv (inv p.2))=p
 rw [h.1.inv_inv,h.2.inv_inv]
theorem Vf.q2 (h:Vf n p):Vf n (Q2 p):=⟨h.1.aA,h.2.aA⟩
theorem bL.q2 (h:Vf n p) (a:bL n p q):bL n (Q2 p) (Q2 q):=bL.qt h.qt (bL.qt h a)
theorem uo (h:Vf n p) (k:Int):bL n (Q2 (Sh k p)) (Sh k (Q2 p)):=by
 have hx:=h.1
 have hy:=h.2
 refine ⟨cc p.1 (-k),hx.cc _,?_⟩
 show (inv p.1,aY (cc (inv p.1) (-k)) (inv p.2))=(anew (inv p.1) (cc p.1 (-k)),anew (inv (aY (cc p.1 (-k)) p.2)) (cc p.1 (-k)))
 have e1:anew (inv p.1) (cc p.1 (-k))=inv p.1:=by
  unfold anew
  rw [GI hx,<- GJ hx,Au hx,Au hx]
  congr 1;omega
 have e2:anew (inv (aY (cc p.1 (-k)) p.2)) (cc p.1 (-k))=aY (cc (inv p.1) (-k)) (inv p.2):=by
  unfold anew
  rw [um (hx.cc _) hy,Kg hx,GI hx,pH (hx.cc _) (hy.aA.aY (hx.cc _)) (hx.cc _),pH hy.aA (hx.cc _) (hx.cc _),Au hx,show - -k + -k=0 by omega,GH hx,wa hy.aA]
 rw [e1,e2]
theorem Az (h:Vf n p):bL n (Qt (Sh 1 (Qt p))) (Sh (-1) (Qt (Sh (-1) p))):=by
 have hx:=h.1
 have hy:=h.2
 have l:Qt (Sh 1 (Qt p))=(aY (inv p.1) (inv p.2),inv p.2):=by
  show (inv (aY (cc (inv p.2) (-1)) p.1),inv p.2)=_
  rw [Kg hy,show -(-1:Int)=1 by omega,Av hy,um hy hx]
 have r:Sh (-1) (Qt (Sh (-1) p))=(aY (inv p.2) (inv p.1),inv p.2):=by
  show (inv (aY (cc p.1 (-(-1))) p.2),aY (cc (inv (aY (cc p.1 (-(-1))) p.2)) (-(-1))) p.1)=_
  have hf:=hx.aY hy
  rw [show -(-1:Int)=1 by omega,Av hx,Av hf.aA,um hx hy,GG hy.aA hx]
 refine ⟨p.2,hy,?_⟩
 rw [l,r]
 show (aY (inv p.2) (inv p.1),inv p.2)=(aY (aY (inv p.2) (aY (inv p.1) (inv p.2))) p.2,aY (aY (inv p.2) (inv p.2)) p.2)
 rw [<- pH hy.aA hx.aA hy.aA,GG (hy.aA.aY hx.aA) hy,GG hy.aA hy]
theorem wb (h:Vf n p):bL n (Qt (Sh (-1) (Qt p))) (Q2 (Sh 1 (Qt (Sh 1 p)))):=by
 have hx:=h.1
 have hy:=h.2
 have hu:=hx.aA.aY hy
 have l:Qt (Sh (-1) (Qt p))=(aY (inv p.1) p.2,inv p.2):=by
  show (inv (aY (cc (inv p.2) (-(-1))) p.1),inv p.2)=_
  rw [show -(-1:Int)=1 by omega,Av hy.aA,um hy.aA hx,hy.inv_inv]
 have r:Q2 (Sh 1 (Qt (Sh 1 p)))=(aY (inv p.1) p.2,aY (inv p.1) (aY (inv p.2) p.1)):=by
  show (inv (inv (aY (cc p.1 (-1)) p.2)),inv (aY (cc (inv (aY (cc p.1 (-1)) p.2)) (-1)) p.1))=_
  rw [GJ hx,GJ hu.aA,hu.inv_inv,um hu hx,um hx.aA hy,hx.inv_inv]
 refine ⟨aY (inv p.2) p.1,hy.aA.aY hx,?_⟩
 rw [l,r]
 show (aY (inv p.1) p.2,aY (inv p.1) (aY (inv p.2) p.1))=(aY (aY (inv (aY (inv p.2) p.1)) (aY (inv p.1) p.2)) (aY (inv p.2) p.1),aY (aY (inv (aY (inv p.2) p.1)) (inv p.2)) (aY (inv p.2) p.1))
 have eg:inv (aY (inv p.2) p.1)=aY (inv p.1) p.2:=by rw [um hy.aA hx,hy.inv_inv]
 have OT:aY (inv p.2) p.1=inv (aY (inv p.1) p.2):=by rw [um hx.aA hy,hx.inv_inv]
 rw [eg]
 have e1:aY (aY (aY (inv p.1) p.2) (aY (inv p.1) p.2)) (aY (inv p.2) p.1)=aY (inv p.1) p.2:=by rw [OT,Kf hu hu]
 have e2:aY (aY (aY (inv p.1) p.2) (inv p.2)) (aY (inv p.2) p.1)=aY (inv p.1) (aY (inv p.2) p.1):=by rw [Kf hx.aA hy]
 rw [e1,e2]
end
def act:Int->List Int->aU->aU
 | k,[],p=>Sh k p
 | k,j :: ks,p=>act j ks (Qt (Sh k p))
def tS (k:Int):T4:=⟨1,k,0,1⟩
def gW (k:Int):T4:=⟨0,-1,1,k⟩
def gP:Int->List Int->T4
 | k,[]=>tS k
 | k,j :: ks=>(gP j ks).mul (gW k)
def jX (e:Bool) (M:T4):T4:=if e then ⟨-M.a,-M.b,-M.c,-M.d⟩ else M
def n8 (e:Bool) (p:aU):aU:=if e then Q2 p else p
theorem AA (e f:Bool) (M:T4):jX e (jX f M)=jX (e.xor f) M:=by
 cases e <;> cases f <;> simp [jX]
theorem AB (e:Bool) (M N:T4):(jX e M).mul N=jX e (M.mul N):=by
 cases e
 ·rfl
 ·unfold jX T4.mul;simp only [if_true];congr 1 <;> grind
section
variable {n:Nat} {p q r:aU}
theorem Vf.act:∀ {ks:List Int} {k:Int} {p:aU},Vf n p->Vf n (af.act k ks p)
 | [],k,p,h=>h.sh k
 | j :: ks,k,p,h=>Vf.act (ks:=ks) (h.sh k).qt
theorem bL.act:∀ {ks:List Int} {k:Int} {p q:aU},Vf n p->bL n p q->bL n (af.act k ks p) (af.act k ks q)
 | [],k,p,q,h,a=>bL.sh h a k
 | j :: ks,k,p,q,h,a=>bL.act (ks:=ks) (h.sh k).qt (bL.qt (h.sh k) (bL.sh h a k))
theorem bL.n8 (h:Vf n p) (a:bL n p q) (e:Bool):bL n (af.n8 e p) (af.n8 e q):=by cases e;exact a;exact bL.q2 h a
theorem DF (h:Vf n p) (e f:Bool):n8 e (n8 f p)=n8 (e.xor f) p:=by
 cases e <;> cases f
 ·rfl
 ·rfl
 ·rfl
 ·exact Ay h
theorem AE:∀ {ks:List Int} {k:Int} {p:aU},Vf n p->bL n (act k ks (Q2 p)) (Q2 (act k ks p))
 | [],k,p,h=>bL.symm (h.sh k).q2 (uo h k)
 | j :: ks,k,p,h=>by
  have h1:bL n (Qt (Sh k (Q2 p))) (Qt (Q2 (Sh k p))):=bL.qt (h.q2.sh k) (bL.symm (h.sh k).q2 (uo h k))
  have h2:=bL.act (ks:=ks) (k:=j) ((h.q2.sh k).qt) h1
  have h3:=AE (ks:=ks) (k:=j) (h.sh k).qt
  exact bL.trans (Vf.act (ks:=j :: ks) (k:=k) h.q2) h2 h3
theorem DG {ks:List Int} {j k:Int} (h:Vf n p):act k ks (Sh j p)=act (j + k) ks p:=by
 cases ks with
 | nil=>exact Aw h j k
 | cons i ks=>show act i ks (Qt (Sh k (Sh j p)))=act i ks (Qt (Sh (j + k) p));rw [Aw h]
theorem Kj {ks:List Int} {k:Int} (h:Vf n p):act k ks (Qt p)=act 0 (k :: ks) p:=by show _=act k ks (Qt (Sh 0 p));rw [sJ h]
theorem OU {a b:Int} {ks:List Int} {j:Int} (hj:j=0\/j=1\/j=-1):∃ (k':Int) (ks':List Int) (f:Bool),ks'.length < ks.length + 2/\gP a (j :: b :: ks)=jX f (gP k' ks')/\∀ {n:Nat} {p:aU},Vf n p->bL n (act a (j :: b :: ks) p) (n8 f (act k' ks' p)):=by
 rcases hj with rfl | rfl | rfl
 ·refine ⟨a + b,ks,true,by omega,?_,fun {n p} h=>?_⟩
  ·cases ks with
   | nil=>simp [gP,jX,T4.mul,tS,gW];omega
   | cons i ks =>
    show (((gP i ks).mul (gW b)).mul (gW 0)).mul (gW a)=jX true ((gP i ks).mul (gW (a + b)))
    rw [T4.assoc,T4.assoc]
    have:(gW b).mul ((gW 0).mul (gW a))=jX true (gW (a + b)):=by simp [jX,T4.mul,gW];omega
    rw [this]
    unfold jX T4.mul;simp only [if_true];congr 1 <;> grind
  ·show bL n (act b ks (Qt (Sh 0 (Qt (Sh a p))))) (Q2 (act (a + b) ks p))
   rw [sJ (h.sh a).qt,Ax,<- DG h]
   exact AE (h.sh a)
 ·refine ⟨a - 1,(b - 1) :: ks,false,by simp,?_,fun {n p} h=>?_⟩
  ·cases ks with
   | nil=>simp [gP,jX,T4.mul,tS,gW];refine ⟨?_,?_⟩ <;> grind
   | cons i ks =>
    show (((gP i ks).mul (gW b)).mul (gW 1)).mul (gW a)=((gP i ks).mul (gW (b - 1))).mul (gW (a - 1))
    rw [T4.assoc,T4.assoc,T4.assoc]
    have:(gW b).mul ((gW 1).mul (gW a))=(gW (b - 1)).mul (gW (a - 1)):=by simp [T4.mul,gW];refine ⟨?_,?_,?_⟩ <;> grind
    rw [this]
  ·show bL n (act b ks (Qt (Sh 1 (Qt (Sh a p))))) (act (b - 1) ks (Qt (Sh (a - 1) p)))
   have h1:=bL.act (ks:=ks) (k:=b) ((h.sh a).qt.sh 1).qt (Az (h.sh a))
   rw [DG ((h.sh a).sh (-1)).qt,Aw h,show -1 + b=b - 1 by omega,show a + -1=a - 1 by omega] at h1
   exact h1
 ·refine ⟨a + 1,(b + 1) :: ks,true,by simp,?_,fun {n p} h=>?_⟩
  ·cases ks with
   | nil=>simp [gP,jX,T4.mul,tS,gW];refine ⟨?_,?_⟩ <;> grind
   | cons i ks =>
    show (((gP i ks).mul (gW b)).mul (gW (-1))).mul (gW a)=jX true (((gP i ks).mul (gW (b + 1))).mul (gW (a + 1)))
    rw [T4.assoc,T4.assoc,T4.assoc]
    have:(gW b).mul ((gW (-1)).mul (gW a))=jX true ((gW (b + 1)).mul (gW (a + 1))):=by simp [jX,T4.mul,gW];refine ⟨?_,?_,?_⟩ <;> grind
    rw [this]
    unfold jX T4.mul;simp only [if_true];congr 1 <;> grind
  ·show bL n (act b ks (Qt (Sh (-1) (Qt (Sh a p))))) (Q2 (act (b + 1) ks (Qt (Sh (a + 1) p))))
   have h1:=bL.act (ks:=ks) (k:=b) ((h.sh a).qt.sh (-1)).qt (wb (h.sh a))
   have h2:=AE (ks:=ks) (k:=b) (((h.sh a).sh 1).qt.sh 1)
   rw [DG ((h.sh a).sh 1).qt,Aw h,show 1 + b=b + 1 by omega] at h2
   have h3:=bL.trans (Vf.act (ks:=ks) (k:=b) ((h.sh a).qt.sh (-1)).qt) h1 (by rw [Aw h] at *;exact h2)
   exact h3
def big:List Int->Prop
 | []=>True
 | [_]=>True
 | j :: b :: ks=>(2<=j\/j<=-2)/\big (b :: ks)
theorem Kk:∀ (ks:List Int) (k:Int),big ks\/∃ (k':Int) (ks':List Int) (f:Bool),ks'.length < ks.length/\gP k ks=jX f (gP k' ks')/\∀ {n:Nat} {p:aU},Vf n p->bL n (act k ks p) (n8 f (act k' ks' p))
 | [],_=>.inl trivial
 | [_],_=>.inl trivial
 | j :: b :: ks,k=>by
  by_cases hj:j=0\/j=1\/j=-1
  ·obtain ⟨k',ks',f,hl,hm,ha⟩:=OU (a:=k) (b:=b) (ks:=ks) hj
   exact .inr ⟨k',ks',f,by simpa using hl,hm,ha⟩
  ·rcases Kk (b :: ks) j with h | ⟨k',ks',f,hl,hm,ha⟩
   ·exact .inl ⟨by omega,h⟩
   ·refine .inr ⟨k,k' :: ks',f,by simpa using hl,?_,fun {n p} h=>?_⟩
    ·show (gP j (b :: ks)).mul (gW k)=jX f ((gP k' ks').mul (gW k))
     rw [hm,AB]
    ·exact ha (h.sh k).qt
theorem Kl:∀ (ks:List Int) (k:Int),big ks->(ks=[]\/2<=k\/k<=-2)->(gP k ks).c.natAbs < (gP k ks).d.natAbs
 | [],k,_,_=>by show (0:Int).natAbs < (1:Int).natAbs;decide
 | j :: ks,k,h,hk=>by
  have hk:2<=k\/k<=-2:=by rcases hk with hk | hk;cases hk;exact hk
  have hj:ks=[]\/2<=j\/j<=-2:=by
   cases ks with
   | nil=>exact .inl rfl
   | cons b ks=>exact .inr h.1
  have hb:big ks:=by
   cases ks with
   | nil=>trivial
   | cons b ks=>exact h.2
  have ih:=Kl ks j hb hj
  show ((gP j ks).c * 0 + (gP j ks).d * 1).natAbs < ((gP j ks).c * -1 + (gP j ks).d * k).natAbs
  generalize (gP j ks).c=c at ih
  generalize (gP j ks).d=d at ih
  rw [Int.mul_zero,U4,Int.mul_one]
  have e:(d * k).natAbs=d.natAbs * k.natAbs:=Int.natAbs_mul d k
  have e2:d.natAbs * 2<=d.natAbs * k.natAbs:=Nat.mul_le_mul_left _ (by omega)
  omega
theorem AF {ks:List Int} {k:Int} (h:big ks) (hn:ks≠[]):(gP k ks).c≠0:=by
 cases ks with
 | nil=>exact absurd rfl hn
 | cons j ks =>
  have hj:ks=[]\/2<=j\/j<=-2:=by
   cases ks with
   | nil=>exact .inl rfl
   | cons b ks=>exact .inr h.1
  have hb:big ks:=by
   cases ks with
   | nil=>trivial
   | cons b ks=>exact h.2
  have ih:=Kl ks j hb hj
  show (gP j ks).c * 0 + (gP j ks).d * 1≠0
  omega
theorem GL:∀ (m:Nat) (ks:List Int) (k:Int),ks.length<=m->∀ (e:Bool),gP k ks=jX e T4.one->∀ {n:Nat} {p:aU},Vf n p->bL n (act k ks p) (n8 e p):=by
 intro m
 induction m with
 | zero =>
  intro ks k hl e hm n p h
  have:ks=[]:=VL (by omega)
  subst this
  have hm:(⟨1,k,0,1⟩:T4)=jX e T4.one:=hm
  cases e with
  | false =>
   have hk:k=0:=congrArg T4.b hm
   subst hk
   show bL n (Sh 0 p) p
   rw [sJ h];exact bL.refl h
  | true=>exact absurd (congrArg T4.a hm) (show ¬ (1:Int)=-1 by decide)
 | succ m ih =>
  intro ks k hl e hm n p h
  by_cases hn:ks=[]
  ·subst hn
   exact ih [] k (Uw _) e hm h
  ·rcases Kk ks k with hb | ⟨k',ks',f,hl',hm',ha⟩
   ·have:=AF (k:=k) hb hn
    rw [hm] at this
    exact absurd (by cases e <;> rfl) this
   ·have hm2:gP k' ks'=jX (f.xor e) T4.one:=by
     have:jX f (gP k ks)=gP k' ks':=by rw [hm',AA,VQ];rfl
     rw [<- this,hm,AA]
    have h1:=ih ks' k' (by omega) (f.xor e) hm2 h
    have h2:=bL.trans h.act (ha h) (bL.n8 h.act h1 f)
    rw [DF h,<- Bool.xor_assoc,VQ,Bool.false_xor] at h2
    exact h2
end
def n9:Nat->aU->aU
 | 0,p=>p
 | j + 1,p=>Qt (n9 j p)
def stM (p:aU) (s:Sp):aU:=if s.1=true then Sh s.2 p else n9 s.2.toNat p
def oC (p:aU) (w:List Sp):aU:=w.foldl stM p
section
variable {n:Nat} {p q:aU}
theorem Vf.n9 (h:Vf n p):∀ j,Vf n (af.n9 j p)
 | 0=>h
 | j + 1=>(Vf.n9 h j).qt
theorem Vf.st (h:Vf n p) (s:Sp):Vf n (stM p s):=by
 unfold stM
 split
 ·exact h.sh _
 ·exact h.n9 _
theorem Vf.ld:∀ {w:List Sp} {p:aU},Vf n p->Vf n (oC p w)
 | [],_,h=>h
 | s :: w,p,h=>Vf.ld (w:=w) (h.st s)
theorem bL.n9 (h:Vf n p) (a:bL n p q):∀ j,bL n (af.n9 j p) (af.n9 j q)
 | 0=>a
 | j + 1=>bL.qt (h.n9 j) (bL.n9 h a j)
theorem bL.st (h:Vf n p) (a:bL n p q) (s:Sp):bL n (stM p s) (stM q s):=by
 unfold stM
 split
 ·exact bL.sh h a _
 ·exact bL.n9 h a _
theorem bL.ld:∀ {w:List Sp} {p q:aU},Vf n p->bL n p q->bL n (oC p w) (oC q w)
 | [],_,_,_,a=>a
 | s :: w,p,q,h,a=>bL.ld (w:=w) (h.st s) (bL.st h a s)
theorem GN (p:aU) (u v:List Sp):oC p (u ++ v)=oC (oC p u) v:=by unfold oC;rw [UN]
end
theorem OV (s:Sp) (w:List Sp):bu (s :: w)=(bu w).mul (kI s):=by
 have:=vX [s] w
 rw [show bu [s]=(kI s).mul T4.one from rfl,T4.mul_one] at this
 exact this
theorem Km (e:Bool) (M N:T4):M.mul (jX e N)=jX e (M.mul N):=by
 cases e
 ·rfl
 ·unfold jX T4.mul;simp only [if_true];congr 1 <;> grind
theorem wc (ks:List Int) (j k:Int):(gP k ks).mul (tS j)=gP (j + k) ks:=by
 cases ks with
 | nil=>simp [gP,T4.mul,tS]
 | cons i ks =>
  show ((gP i ks).mul (gW k)).mul (tS j)=(gP i ks).mul (gW (j + k))
  rw [T4.assoc]
  congr 1
  simp [T4.mul,gW,tS]
theorem wg (ks:List Int) (k:Int):(gP k ks).mul T4.qt=gP 0 (k :: ks):=rfl
theorem Kn:∀ {w:List Sp},(∀ s∈w,eP s)->∃ (k:Int) (ks:List Int) (f:Bool),bu w=jX f (gP k ks)/\∀ {n:Nat} {p:aU},Vf n p->bL n (oC p w) (n8 f (act k ks p))
 | [],_=>⟨0,[],false,rfl,fun {n p} h=>by show bL n p (Sh 0 p);rw [sJ h];exact bL.refl h⟩
 | s :: w,hw=>by
  obtain ⟨k,ks,f,hm,ha⟩:=Kn (w:=w) fun x hx=>hw x (TY _ hx)
  have hs:=hw s TU
  obtain ⟨b,j⟩:=s
  rw [OV,hm]
  cases b with
  | true =>
   refine ⟨j + k,ks,f,?_,fun {n p} h=>?_⟩
   ·rw [AB];congr 1;exact wc ks j k
   ·have:=ha (h.sh j)
    rw [DG h] at this
    exact this
  | false =>
   have c:j=1\/j=2\/j=3:=t3 (hs.1 rfl)
   rcases c with rfl | rfl | rfl
   ·refine ⟨0,k :: ks,f,?_,fun {n p} h=>?_⟩
    ·rw [AB];congr 1
    ·have:=ha h.qt
     rw [Kj h] at this
     exact this
   ·refine ⟨k,ks,!f,?_,fun {n p} h=>?_⟩
    ·rw [AB,show kI (false,2)=jX true T4.one from rfl,Km,T4.mul_one,AA];cases f <;> rfl
    ·have h1:=ha h.q2
     have h2:=bL.trans (Vf.ld (w:=w) h.q2) h1 (bL.n8 (Vf.act h.q2) (AE h) f)
     have e:n8 f (Q2 (act k ks p))=n8 (!f) (act k ks p):=by
      have:=DF (p:=act k ks p) h.act f true
      rw [Bool.xor_true] at this
      exact this
     rw [e] at h2
     exact h2
   ·refine ⟨0,k :: ks,!f,?_,fun {n p} h=>?_⟩
    ·have e3:kI (false,3)=jX true T4.qt:=rfl
     rw [AB,e3,Km,AA,wg];cases f <;> rfl
    ·have h1:=ha (p:=Q2 (Qt p)) h.qt.q2
     have h2:=bL.trans (Vf.ld (w:=w) h.qt.q2) h1 (bL.n8 (Vf.act h.qt.q2) (AE h.qt) f)
     have e:n8 f (Q2 (act k ks (Qt p)))=n8 (!f) (act 0 (k :: ks) p):=by
      have:=DF (p:=act k ks (Qt p)) h.qt.act f true
      rw [Bool.xor_true] at this
      rw [<- Kj h]
      exact this
     rw [e] at h2
     exact h2
theorem Ko {w:List Sp} (hw:∀ s∈w,eP s) (h1:bu w=T4.one) {n:Nat} {p:aU} (h:Vf n p):bL n (oC p w) p:=by
 obtain ⟨k,ks,f,hm,ha⟩:=Kn hw
 have e:gP k ks=jX f T4.one:=by
  have:jX f (bu w)=gP k ks:=by rw [hm,AA,VQ];rfl
  rw [<- this,h1]
 have h2:=GL ks.length ks k (TM _) f e h
 have h3:=bL.trans (Vf.ld h) (ha h) (bL.n8 h.act h2 f)
 rw [DF h,VQ] at h3
 exact h3
theorem GO {w:List Sp} (hw:∀ s∈w,eP s):∀ s∈kU w,eP s:=fun s hs=>by
 unfold kU at hs
 obtain ⟨t,ht,rfl⟩:=Ub.mp (UT.mp hs)
 exact Ar (hw t ht)
theorem Kq {w:List Sp} (hw:∀ s∈w,eP s):bu (w ++ kU w)=T4.one:=by
 have hp:∀ s∈w ++ kU w,eP s:=fun s hs=>by
  rcases Uk.mp hs with hs | hs
  ·exact hw s hs
  ·exact GO hw s hs
 rw [<- Kb hp,Oy hw];rfl
theorem OW {w:List Sp} (hw:∀ s∈w,eP s):(bu w).a * (bu w).d - (bu w).b * (bu w).c=1:=by
 have:=Kq hw
 rw [vX,Kc hw] at this
 have h:=congrArg T4.a this
 have h:(bu w).d * (bu w).a + -(bu w).b * (bu w).c=1:=h
 rw [Int.mul_comm (bu w).d,Int.neg_mul] at h
 omega
theorem OX {M:T4} (h:M.a * M.d - M.b * M.c=1):M.mul M.rN=T4.one/\M.rN.mul M=T4.one:=by
 constructor <;> (apply T4.ext' <;> simp [T4.mul,T4.rN,T4.one] <;> grind)
theorem OY {u w:List Sp} (hu:∀ s∈u,eP s) (hw:∀ s∈w,eP s) (e:bu u=bu w) {n:Nat} {p:aU} (h:Vf n p):bL n (oC p u) (oC p w):=by
 have hb:=GO hw
 have h1:bL n (oC p (u ++ kU w)) p:=Ko (fun s hs=>by
  rcases Uk.mp hs with hs | hs
  ·exact hu s hs
  ·exact hb s hs) (by rw [vX,e,<- vX];exact Kq hw) h
 rw [GN] at h1
 have h2:=bL.ld (w:=w) (Vf.ld (Vf.ld h)) h1
 rw [<- GN] at h2
 have h3:bL n (oC (oC p u) (kU w ++ w)) (oC p u):=Ko (fun s hs=>by
  rcases Uk.mp hs with hs | hs
  ·exact hb s hs
  ·exact hw s hs) (by rw [vX,Kc hw];exact (OX (OW hw)).1) (Vf.ld h)
 exact bL.trans (Vf.ld h) (bL.symm (Vf.ld (Vf.ld h)) h3) h2
def p9 (p:aU) (n:Nat) (s:Int):aU:=(num p.1 (bf p.1 p.2 s n),num p.2 (bf p.1 p.2 s n))
def cE (n:Nat) (p:aU):aU:=mz ((upto n).map (p9 p n))
theorem OZ {n:Nat} {p q:aU} (n0:0 < n) (h:Vf n p) (a:bL n p q):cE n p=cE n q:=by
 obtain ⟨g,hg,rfl⟩:=a
 have key:∀ s:Int,0<=s->s < (n:Int)->p9 (anew p.1 g,anew p.2 g) n (app g s)=p9 p n s:=fun s s0 s1=>by
  show (num (anew p.1 g) (bf (anew p.1 g) (anew p.2 g) (app g s) n),num (anew p.2 g) (bf (anew p.1 g) (anew p.2 g) (app g s) n))=_
  have hb:=pX h.1 h.2 s0 s1 n
  rw [Gw h.1 h.2 hg s0 s1 n,J9 h.1 hg hb,J9 h.2 hg hb]
  rfl
 refine OM (fun x=>?_) (fun e=>?_)
 ·constructor
  ·intro hx
   obtain ⟨s,hs,rfl⟩:=Ub.mp hx
   obtain ⟨s0,s1⟩:=lV.mp hs
   exact Ub.mpr ⟨app g s,lV.mpr (hg.app s0 s1),key s s0 s1⟩
  ·intro hx
   obtain ⟨t,ht,rfl⟩:=Ub.mp hx
   obtain ⟨t0,t1⟩:=lV.mp ht
   obtain ⟨p0,p1⟩:=hg.lJ t0 t1
   refine Ub.mpr ⟨app (inv g) t,lV.mpr ⟨p0,p1⟩,?_⟩
   have:=key (app (inv g) t) p0 p1
   rw [hg.cw t0 t1] at this
   exact this.symm
 ·have:=congrArg List.length e
  rw [TJ,oz] at this
  simp at this
  omega
end af
namespace af
section
variable {n:Nat} {p q:aU} {g h:List Int} {s t:Int}
structure Wh (n:Nat) (p:aU):Prop where
 v:Vf n p
 all:∀ x:Int,0<=x->x < (n:Int)->i5 p.1 p.2 x
theorem Wh.bf (w:Wh n p) (s0:0<=s) (s1:s < (n:Int)):Tn n (bf p.1 p.2 s n):=Dy w.v.1 w.v.2 s0 s1 w.all
theorem DH (xs ys:List Int):∀ k,∀ y∈bf xs ys 0 k,i5 xs ys y
 | 0,y,hy=>by rw [Ud.mp (show y∈[(0:Int)] from hy)];exact .zero
 | k + 1,y,hy=>by
  have hy':y∈(match (bf xs ys 0 k)[k]? with | some x=>visit xs ys (bf xs ys 0 k) x | none=>bf xs ys 0 k):=hy
  split at hy'
  ·next z hz =>
   have uq:=DH xs ys k z (T2 hz)
   rcases pF.mp hy' with hy' | rfl
   ·rcases pF.mp hy' with hy' | rfl
    ·exact DH xs ys k y hy'
    ·exact uq.r
   ·exact uq.u
  ·exact DH xs ys k y hy'
theorem ur (w:Wh n p) (v:Vf n q) (n0:0 < n) (h:∀ F:List Int,F.Nodup->(∀ x∈F,0<=x/\x < (n:Int))->Cl q.1 q.2 F->Cl p.1 p.2 F):Wh n q:=by
 refine ⟨v,fun x x0 x1=>DH q.1 q.2 n x ?_⟩
 have c:=h (bf q.1 q.2 0 n) (vU _ _ _ _) (pX v.1 v.2 (by decide) (by omega) n) (Gv v.1 v.2 (by decide) (by omega))
 refine c.all ?_ (w.all x x0 x1)
 have:=yx q.1 q.2 0 0 n
 rw [Vx] at this
 exact this.subset (show (0:Int)∈[(0:Int)] by simp)
theorem Kr {zs F:List Int} (hz:Tn n zs) (nd:F.Nodup) (hb:∀ x∈F,0<=x/\x < (n:Int)) (hc:∀ x∈F,app zs x∈F):∀ x∈F,app (inv zs) x∈F:=fun x hx=>by
 obtain ⟨x0,x1⟩:=hb x hx
 obtain ⟨a0,a1⟩:=hz.lJ x0 x1
 exact Ap hz nd hb hc a0 a1 (by rw [hz.cw x0 x1];exact hx)
theorem GP {zs F:List Int} (hc:∀ x∈F,app zs x∈F) {x:Int} (hx:x∈F):∀ k,bq zs x k∈F
 | 0=>hx
 | k + 1=>hc _ (GP hc hx k)
theorem AG {zs F:List Int} (hz:Tn n zs) (nd:F.Nodup) (hb:∀ x∈F,0<=x/\x < (n:Int)) (hc:∀ x∈F,app zs x∈F) (k:Int) {x:Int} (hx:x∈F):pw zs k x∈F:=by
 unfold pw
 split
 ·exact GP hc hx _
 ·exact GP (Kr hz nd hb hc) hx _
theorem Wh.sh (w:Wh n p) (n0:0 < n) (k:Int):Wh n (Sh k p):=by
 refine ur w (w.v.sh k) n0 fun F nd hb hc x hx=>⟨(hc x hx).1,?_⟩
 obtain ⟨x0,x1⟩:=hb x hx
 have h1:∀ x∈F,app p.1 x∈F:=fun x hx=>(hc x hx).1
 have hy:=AG w.v.1 nd hb h1 k hx
 have:=(hc _ hy).2
 obtain ⟨y0,y1⟩:=hb _ hy
 have e:app (Sh k p).2 (pw p.1 k x)=app p.2 x:=by
  show app (shr p.1 p.2 k) (pw p.1 k x)=_
  unfold shr
  have hlen:(cc p.1 (-k)).length=n:=(w.v.1.cc (-k)).length
  rw [oB y0 (by rw [hlen];exact y1)]
  congr 1
  have e3:=Au w.v.1 k (-k)
  rw [Int.add_right_neg,GH w.v.1] at e3
  have e4:app (aY (cc p.1 k) (cc p.1 (-k))) x=app (upto n) x:=by rw [e3]
  rw [DB x0 x1,oB x0 (by rw [(w.v.1.cc k).length];exact x1)] at e4
  have e5:app (cc p.1 k) x=pw p.1 k x:=o6 x0 (by rw [w.v.1.length];exact x1)
  rw [e5] at e4
  exact e4
 rw [e] at this
 exact this
theorem Wh.qt (w:Wh n p) (n0:0 < n):Wh n (Qt p):=by
 refine ur w w.v.qt n0 fun F nd hb hc x hx=>⟨(hc x hx).2,?_⟩
 have:=Kr w.v.2.aA nd hb (fun x hx=>(hc x hx).1) x hx
 rw [w.v.2.inv_inv] at this
 exact this
def Od (xs ys F:List Int):Prop:=F[0]?=some 0/\∀ (k:Nat) (y:Int),F[k + 1]?=some y->∃ (j:Nat) (x:Int),j<=k/\F[j]?=some x/\(y=app xs x\/y=app ys x)
theorem Od.one (xs ys:List Int):Od xs ys [0]:=⟨rfl,fun k y h=>by cases h⟩
theorem Od.snoc {xs ys F:List Int} {x y:Int} (h:Od xs ys F) (hx:x∈F) (hy:y=app xs x\/y=app ys x):Od xs ys (F ++ [y]):=by
 have hl:0 < F.length:=List.length_pos_of_mem hx
 refine ⟨by rw [T1 hl];exact h.1,fun k z hz=>?_⟩
 by_cases hk:k + 1 < F.length
 ·rw [T1 hk] at hz
  obtain ⟨j,x',hj,hx',e⟩:=h.2 k z hz
  exact ⟨j,x',hj,by rw [T1 (by omega)];exact hx',e⟩
 ·rw [Uc (by omega)] at hz
  have hz:z=y:=by
   cases h3:k + 1 - F.length with
   | zero=>rw [h3] at hz;cases hz;rfl
   | succ m=>rw [h3] at hz;cases hz
  obtain ⟨j,hj,e⟩:=U1 hx
  have nF:k + 1=F.length\/F.length < k + 1:=by omega
  refine ⟨j,x,by omega,by rw [T1 hj,TL hj,e],by rw [hz];exact hy⟩
structure Fo (xs ys F:List Int):Prop extends Fd xs ys F where
 od:Od xs ys F
theorem Fo.one (xs ys:List Int):Fo xs ys [0]:=⟨Fd.one xs ys,Od.one xs ys⟩
end
end af
namespace af
section
variable {n:Nat} {xs ys r r' r2:List Int} {i j x y:Int}
def Sm (xs ys r:List Int):Prop:=∀ s∈r,app ys (app xs s)=app xs (app ys s)
instance:Decidable (Sm xs ys r):=inferInstanceAs (Decidable (∀ s∈r,app ys (app xs s)=app xs (app ys s)))
end
end af
namespace af
section
variable {n:Nat} {xs ys:List Int} {rs:List (List Int)} {lows:List (List Int)} {B:List Int->List (List Int)}
end
section
variable {n:Nat} {c g:List Int} {rs rs':List (List Int)}
end
section
variable {n:Nat} {p q:aU} {g:List Int}
theorem Wh.n9 (w:Wh n p) (n0:0 < n):∀ j,Wh n (af.n9 j p)
 | 0=>w
 | j + 1=>(w.n9 n0 j).qt n0
theorem Wh.st (w:Wh n p) (n0:0 < n) (s:Sp):Wh n (stM p s):=by
 unfold stM
 split
 ·exact w.sh n0 _
 ·exact w.n9 n0 _
end
end af
namespace af
end af
namespace af
section
variable {n:Nat} {p q:aU}
theorem AH (p:aU) (n0:0 < n):∃ s:Int,0<=s/\s < (n:Int)/\cE n p=p9 p n s:=by
 have h:=(GD (l:=(upto n).map (p9 p n)) (fun e=>by
  have:=congrArg List.length e
  rw [TJ,oz] at this
  simp at this
  omega)).1
 obtain ⟨s,hs,e⟩:=Ub.mp h
 obtain ⟨s0,s1⟩:=lV.mp hs
 exact ⟨s,s0,s1,e.symm⟩
end
end af
namespace L4
open PySem PySem.Spec L2
inductive D where
 | non | bl (b:Bool) | int (i:Int) | str (x:Str) | ty (n:String) | tup (ds:List D) | ref (i:Nat)
instance:Inhabited D:=⟨.non⟩
inductive O where
 | lst (ds:List D) | oQ (ds:List D) | dct (kvs:List (Key×D)) | DI (kvs:List (List Int×D)) | exc (c:Str) (fs:List (Str×D)) | any | iY (lo hi:Int)
abbrev Store:=List O
abbrev aq:=List (Option D)
abbrev Dm (α:Type):=Store->Option (α×Store)
inductive Fl where
 | nx (δ:aq) | bk (δ:aq) | ct (δ:aq) | rt (d:D)
mutual
inductive Rp (K:Zfr) (ρ:List Addr) (H:Hp):V->D->Prop
 | non:Rp K ρ H .non .non
 | bl (b:Bool):Rp K ρ H (.bl b) (.bl b)
 | int (i:Int):Rp K ρ H (.int i) (.int i)
 | str (x:Str):Rp K ρ H (.str x) (.str x)
 | ty (n:String):Rp K ρ H (.ty n) (.ty n)
 | ref {a:Addr} {i:Nat}:ρ[i]?=some a->Rp K ρ H (.ref a) (.ref i)
 | tup {a:Addr} {vs:List V} {ds:List D}:dW K H a vs->cg K ρ H vs ds->Rp K ρ H (.ref a) (.tup ds)
inductive cg (K:Zfr) (ρ:List Addr) (H:Hp):List V->List D->Prop
 | nil:cg K ρ H [] []
 | cons {v:V} {vs:List V} {d:D} {ds:List D}:Rp K ρ H v d->cg K ρ H vs ds->cg K ρ H (v :: vs) (d :: ds)
end
structure Mn (K:Zfr) (ρ:List Addr) (H:Hp) (ρ':List Addr) (H':Hp):Prop where
 r:∀ (i:Nat) (a:Addr),ρ[i]?=some a->ρ'[i]?=some a
 t:∀ a vs,dW K H a vs->dW K H' a vs
 f:∀ a o u,H a=some (.nr o u)->H' a=some (.nr o u)
 x:∀ a ws,H a=some (.xd ws)->H' a=some (.xd ws)
section
variable {K:Zfr} {ρ ρ' ρ2:List Addr} {H H' H2:Hp}
theorem Mn.refl:Mn K ρ H ρ H:=⟨fun _ _ h=>h,fun _ _ h=>h,fun _ _ _ h=>h,fun _ _ h=>h⟩
theorem Mn.trans (m:Mn K ρ H ρ' H') (n:Mn K ρ' H' ρ2 H2):Mn K ρ H ρ2 H2:=⟨fun i a h=>n.r i a (m.r i a h),fun a vs h=>n.t a vs (m.t a vs h),fun a o u h=>n.f a o u (m.f a o u h),fun a ws h=>n.x a ws (m.x a ws h)⟩
mutual
theorem Rp.mn (m:Mn K ρ H ρ' H'):∀ {v:V} {d:D},Rp K ρ H v d->Rp K ρ' H' v d
 | _,_,.non=>.non
 | _,_,.bl b=>.bl b
 | _,_,.int i=>.int i
 | _,_,.str x=>.str x
 | _,_,.ty n=>.ty n
 | _,_,.ref e=>.ref (m.r _ _ e)
 | _,_,.tup q r=>.tup (m.t _ _ q) (cg.mn m r)
theorem cg.mn (m:Mn K ρ H ρ' H'):∀ {vs:List V} {ds:List D},cg K ρ H vs ds->cg K ρ' H' vs ds
 | _,_,.nil=>.nil
 | _,_,.cons a b=>.cons (Rp.mn m a) (cg.mn m b)
end
theorem cg.length:∀ {vs:List V} {ds:List D},cg K ρ H vs ds->vs.length=ds.length
 | _,_,.nil=>rfl
 | _,_,.cons _ r=>by rw [Uo,Uo,r.length]
theorem cg.got:∀ {vs:List V} {ds:List D},cg K ρ H vs ds->∀ {i:Nat} {d:D},ds[i]?=some d->∃ v,vs[i]?=some v/\Rp K ρ H v d
 | _,_,.nil,i,v,e=>by simp at e
 | _,_,.cons (v:=v) a b,0,d,e=>⟨v,by simp,by have:_=d:=T5 (by simpa using e);rw [<- this];exact a⟩
 | _,_,.cons a b,i + 1,d,e=>by
  obtain ⟨v,e1,r⟩:=cg.got b (i:=i) (by simpa using e)
  exact ⟨v,by simpa using e1,r⟩
theorem cg.append:∀ {vs:List V} {ds:List D} {ws:List V} {es:List D},cg K ρ H vs ds->cg K ρ H ws es->cg K ρ H (vs ++ ws) (ds ++ es)
 | _,_,_,_,.nil,s=>s
 | _,_,_,_,.cons a b,s=>.cons a (cg.append b s)
theorem cg.one {v:V} {d:D} (r:Rp K ρ H v d):cg K ρ H [v] [d]:=.cons r .nil
theorem cg.take:∀ {vs:List V} {ds:List D} (n:Nat),cg K ρ H vs ds->cg K ρ H (vs.take n) (ds.take n)
 | _,_,0,_=>.nil
 | _,_,_ + 1,.nil=>.nil
 | _,_,n + 1,.cons r t=>.cons r (cg.take n t)
theorem cg.drop:∀ {vs:List V} {ds:List D} (n:Nat),cg K ρ H vs ds->cg K ρ H (vs.drop n) (ds.drop n)
 | _,_,0,r=>r
 | _,_,_ + 1,.nil=>.nil
 | _,_,n + 1,.cons _ t=>cg.drop n t
theorem cg.set {v:V} {d:D} (r:Rp K ρ H v d):∀ {vs:List V} {ds:List D} (i:Nat),cg K ρ H vs ds->cg K ρ H (vs.set i v) (ds.set i d)
 | _,_,_,.nil=>.nil
 | _,_,0,.cons _ t=>.cons r t
 | _,_,i + 1,.cons q t=>.cons q (cg.set r i t)
theorem cg.erase:∀ {vs:List V} {ds:List D} (i:Nat),cg K ρ H vs ds->cg K ρ H (vs.eraseIdx i) (ds.eraseIdx i)
 | _,_,_,.nil=>.nil
 | _,_,0,.cons _ t=>t
 | _,_,i + 1,.cons q t=>.cons q (cg.erase i t)
theorem cg.flat {vs:List V} {ds:List D} (r:cg K ρ H vs ds):∀ n:Nat,cg K ρ H (List.replicate n vs).flatten (List.replicate n ds).flatten
 | 0=>.nil
 | n + 1=>by rw [UC,UC,U7,U7];exact r.append (r.flat n)
theorem cg.ints:∀ (ns:List Int),cg K ρ H (ns.map V.int) (ns.map D.int)
 | []=>.nil
 | n :: r=>.cons (.int n) (cg.ints r)
end
def Rs (K:Zfr) (ρ:List Addr) (H:Hp) (σ:St) (δ:aq):Prop:=σ.length=δ.length/\∀ (i:Nat) (d:D),δ[i]?=some (some d)->∃ v,σ[i]?=some (some v)/\Rp K ρ H v d
def Rk (K:Zfr) (ρ:List Addr) (H:Hp):List (Key×V)->List (Key×D)->Prop:=Paired fun p q=>p.1=q.1/\Rp K ρ H p.2 q.2
def Ru (K:Zfr) (ρ:List Addr) (H:Hp):List (List Int×D)->List (List Int×Addr×Value)->Prop:=Paired fun q x=>q.1=x.1/\dW K H x.2.1 (x.1.map V.int)/\∃ v,RelV v x.2.2/\Rp K ρ H v q.2
def Xd (K:Zfr) (ρ:List Addr) (H:Hp):Option Addr->List (Str×D)->Prop
 | none,fs=>fs=[]
 | some d,fs=>∃ ws,H d=some (.xd ws)/\∀ f e,fs.lookup f=some e->∃ v,ws.lookup f=some v/\Rp K ρ H v e
def uu (K:Zfr) (ρ:List Addr) (H:Hp) (a:Addr):O->Prop
 | .lst ds=>∃ vs,H a=some (.lst vs)/\cg K ρ H vs ds
 | .oQ ds=>∃ vs,zU K H a vs/\cg K ρ H vs ds
 | .dct kvs=>∃ ws,H a=some (.dK ws)/\Rk K ρ H ws kvs
 | .DI kvs=>∃ xs,H a=some (DU a xs)/\Ru K ρ H kvs xs
 | .exc c fs=>∃ C dx tr,PySem.W.nsIn K mainGlobals c=some (some (.ref C))/\H a=some (XO a C dx tr)/\Xd K ρ H dx fs
 | .any=>True
 | .iY lo hi=>H a=some (.iY lo hi)
def O.mut:O->Bool
 | .oQ _=>false
 | .any=>false
 | _=>true
structure Rl (K:Zfr) (ρ:List Addr) (H:Hp) (st:Store):Prop where
 len:ρ.length=st.length
 nd:∀ (i j:Nat) (a:Addr) (o o':O),ρ[i]?=some a->ρ[j]?=some a->st[i]?=some o->st[j]?=some o'->o.mut=true->o'.mut=true->i=j
 obj:∀ (i:Nat) (a:Addr) (o:O),ρ[i]?=some a->st[i]?=some o->uu K ρ H a o
section
variable {K:Zfr} {ρ ρ' ρ2:List Addr} {H H' H2:Hp} {st st':Store} {a p:Addr} {i:Nat} {o o':O} {ho:HO} {σ:St} {δ:aq}
theorem Rs.mn (h:Rs K ρ H σ δ) (m:Mn K ρ H ρ' H'):Rs K ρ' H' σ δ:=⟨h.1,fun i d e=>let ⟨v,e1,r⟩:=h.2 i d e;⟨v,e1,r.mn m⟩⟩
theorem Rk.mn (m:Mn K ρ H ρ' H') {ws:List (Key×V)} {kvs:List (Key×D)} (h:Rk K ρ H ws kvs):Rk K ρ' H' ws kvs:=by
 induction h with
 | nil=>exact .nil
 | cons a _ ih=>exact .cons ⟨a.1,a.2.mn m⟩ ih
theorem Ru.mn (m:Mn K ρ H ρ' H') {kvs:List (List Int×D)} {xs:List (List Int×Addr×Value)} (h:Ru K ρ H kvs xs):Ru K ρ' H' kvs xs:=by
 induction h with
 | nil=>exact .nil
 | cons a _ ih=>obtain ⟨a1,a2,v,a3,a4⟩:=a;exact .cons ⟨a1,m.t _ _ a2,v,a3,a4.mn m⟩ ih
theorem Xd.mn (m:Mn K ρ H ρ' H') {dx:Option Addr} {fs:List (Str×D)} (h:Xd K ρ H dx fs):Xd K ρ' H' dx fs:=by
 cases dx with
 | none=>exact h
 | some d=>obtain ⟨ws,e,q⟩:=h;exact ⟨ws,m.x _ _ e,fun f e' z=>let ⟨v,z1,z2⟩:=q f e' z;⟨v,z1,z2.mn m⟩⟩
theorem uu.keep (m:Mn K ρ H ρ' H') (h:∀ u,H a=some u->H' a=some u) (r:uu K ρ H a o):uu K ρ' H' a o:=by
 cases o with
 | lst ds=>obtain ⟨vs,e,q⟩:=r;exact ⟨vs,h _ e,q.mn m⟩
 | oQ ds =>
  obtain ⟨vs,e,q⟩:=r
  refine ⟨vs,?_,q.mn m⟩
  rcases e with ⟨u,e⟩ | e
  ·exact .inl ⟨u,h _ e⟩
  ·exact .inr e
 | dct kvs=>obtain ⟨ws,e,q⟩:=r;exact ⟨ws,h _ e,q.mn m⟩
 | DI kvs=>obtain ⟨ws,e,q⟩:=r;exact ⟨ws,h _ e,q.mn m⟩
 | exc c fs=>obtain ⟨C,dx,tr,n,e,q⟩:=r;exact ⟨C,dx,tr,n,h _ e,q.mn m⟩
 | any=>trivial
 | iY lo hi=>exact h _ r
theorem Mn.same (s:iU H H'):Mn K ρ H ρ H':=⟨fun _ _ h=>h,fun _ _ h=>(Kp.of_same (ch:=[]) s).FZ h,fun _ _ _ h=>s _ _ h,fun _ _ h=>s _ _ h⟩
theorem Rl.same (l:Rl K ρ H st) (s:iU H H'):Rl K ρ H' st:=⟨l.len,l.nd,fun i a o h1 h2=>(l.obj i a o h1 h2).keep (Mn.same s) fun u e=>s _ _ e⟩
theorem Rl.at (l:Rl K ρ H st) (h1:ρ[i]?=some a) (h2:st[i]?=some o) (hm:o.mut=true):∃ u,H a=some u/\∀ x y,u≠.nr x y:=by
 have r:=l.obj i a o h1 h2
 cases o with
 | lst ds=>obtain ⟨vs,e,_⟩:=r;exact ⟨_,e,fun x y z=>nomatch z⟩
 | oQ ds=>cases hm
 | dct kvs=>obtain ⟨ws,e,_⟩:=r;exact ⟨_,e,fun x y z=>nomatch z⟩
 | DI kvs=>obtain ⟨ws,e,_⟩:=r;exact ⟨_,e,fun x y z=>by cases z⟩
 | exc c fs=>obtain ⟨C,dx,tr,_,e,_⟩:=r;exact ⟨_,e,fun x y z=>by cases z⟩
 | any=>cases hm
 | iY lo hi=>exact ⟨_,r,fun x y z=>nomatch z⟩
theorem Mn.new (hp:H p=none):Mn K ρ H (ρ ++ [p]) (upd H p ho):=⟨fun i a h=>by
  obtain ⟨hi,_⟩:=TK.mp h
  rw [T1 hi];exact h,fun _ _ h=>(Kp.of_same (ch:=[]) (iU.up hp)).FZ h,fun _ _ _ h=>iU.up hp _ _ h,fun _ _ h=>iU.up hp _ _ h⟩
theorem Rl.new (l:Rl K ρ H st) (hp:H p=none) (mk:uu K (ρ ++ [p]) (upd H p ho) p o):Rl K (ρ ++ [p]) (upd H p ho) (st ++ [o]):=by
 have m:Mn K ρ H (ρ ++ [p]) (upd H p ho):=Mn.new hp
 have split:∀ (i:Nat) (a:Addr) (o':O),(ρ ++ [p])[i]?=some a->(st ++ [o])[i]?=some o'->(ρ[i]?=some a/\st[i]?=some o')\/(i=ρ.length/\a=p/\o'=o):=fun i a o' h1 h2=>by
  by_cases hi:i < ρ.length
  ·rw [T1 hi] at h1
   rw [T1 (by rw [<- l.len];exact hi)] at h2
   exact .inl ⟨h1,h2⟩
  ·obtain ⟨hb,_⟩:=TK.mp h1
   rw [TN,UW] at hb
   have e:i=ρ.length:=by omega
   subst e
   rw [Uc (TM _),UR] at h1
   rw [l.len,Uc (TM _),UR] at h2
   exact .inr ⟨rfl,(T5 h1).symm,(T5 h2).symm⟩
 refine ⟨by rw [TN,TN,l.len];rfl,fun i j a u u' h1 h2 h3 h4 m1 m2=>?_,fun i a u h1 h2=>?_⟩
 ·rcases split i a u h1 h3 with ⟨g1,g2⟩ | ⟨rfl,rfl,rfl⟩ <;> rcases split j _ u' h2 h4 with ⟨k1,k2⟩ | ⟨k1,k2,k3⟩
  ·exact l.nd i j a u u' g1 k1 g2 k2 m1 m2
  ·subst k2
   obtain ⟨w,e,_⟩:=l.at g1 g2 m1
   rw [e] at hp;cases hp
  ·obtain ⟨w,e,_⟩:=l.at k1 k2 m2
   rw [e] at hp;cases hp
  ·exact k1.symm
 ·rcases split i a u h1 h2 with ⟨g1,g2⟩ | ⟨rfl,rfl,rfl⟩
  ·exact (l.obj i a u g1 g2).keep m fun w e=>iU.up hp _ _ e
  ·exact mk
theorem Rl.put (l:Rl K ρ H st) (hi:ρ[i]?=some a) (hs:st[i]?=some o) (hm:o.mut=true) (hm':o'.mut=true) (m:Mn K ρ H ρ (upd H a ho)) (r:uu K ρ (upd H a ho) a o'):Rl K ρ (upd H a ho) (st.set i o'):=by
 obtain ⟨w,ew,nf⟩:=l.at hi hs hm
 have O0:i < st.length:=(TK.mp hs).1
 have old:∀ (j:Nat) (u:O),(st.set i o')[j]?=some u->(j=i/\u=o')\/(j≠i/\st[j]?=some u):=fun j u h=>by
  by_cases hj:i=j
  ·subst hj
   rw [TQ O0] at h
   exact .inl ⟨rfl,(T5 h).symm⟩
  ·rw [TV hj] at h
   exact .inr ⟨fun z=>hj z.symm,h⟩
 refine ⟨by rw [UD];exact l.len,fun j k b u u' h1 h2 h3 h4 m1 m2=>?_,fun j b u h1 h2=>?_⟩
 ·rcases old j u h3 with ⟨rfl,rfl⟩ | ⟨nj,g3⟩ <;> rcases old k u' h4 with ⟨rfl,rfl⟩ | ⟨nk,g4⟩
  ·rfl
  ·exact l.nd _ _ b o u' h1 h2 hs g4 hm m2
  ·exact l.nd _ _ b u o h1 h2 g3 hs m1 hm
  ·exact l.nd _ _ b u u' h1 h2 g3 g4 m1 m2
 ·rcases old j u h2 with ⟨rfl,rfl⟩ | ⟨nj,g2⟩
  ·rw [hi] at h1;cases h1;exact r
  ·by_cases hb:b=a
   ·subst hb
    cases u with
    | oQ ds =>
     obtain ⟨vs,e,q⟩:=l.obj j b _ h1 g2
     refine ⟨vs,?_,q.mn m⟩
     rcases e with ⟨x,e⟩ | e
     ·rw [ew] at e;cases e;exact absurd rfl (nf _ _)
     ·exact .inr e
    | lst ds=>exact absurd (l.nd j i b _ o h1 hi g2 hs rfl hm) nj
    | DI ds=>exact absurd (l.nd j i b _ o h1 hi g2 hs rfl hm) nj
    | exc c fs=>exact absurd (l.nd j i b _ o h1 hi g2 hs rfl hm) nj
    | dct ds=>exact absurd (l.nd j i b _ o h1 hi g2 hs rfl hm) nj
    | any=>trivial
    | iY lo up=>exact absurd (l.nd j i b _ o h1 hi g2 hs rfl hm) nj
   ·exact (l.obj j b u h1 g2).keep m fun w e=>by rw [jE hb];exact e
theorem Mn.put {xs:List V} (e:H a=some (.lst xs)):Mn K ρ H ρ (upd H a ho):=⟨fun _ _ h=>h,fun b vs h=>(Kp.put (ch:=[a]) (o:=ho) Kp.refl (by simp) e).FZ h,fun b o u h=>by rw [jE (fun z=>by rw [z,e] at h;cases h)];exact h,fun b ws h=>by rw [jE (fun z=>by rw [z,e] at h;cases h)];exact h⟩
theorem Mn.putD {ws:List (Key×V)} (e:H a=some (.dK ws)):Mn K ρ H ρ (upd H a ho):=⟨fun _ _ h=>h,fun b vs q=>by
 have ne:∀ u,H b=some u->(∀ w,u≠.dK w)->b≠a:=fun u hu n z=>by rw [z,e] at hu;cases hu;exact n _ rfl
 rcases q with (q | ⟨o,q⟩) | q
 ·exact .inl (.inl (by rw [jE (ne _ q fun w z=>nomatch z)];exact q))
 ·exact .inl (.inr ⟨o,by rw [jE (ne _ q fun w z=>nomatch z)];exact q⟩)
 ·exact .inr q,fun b o u h=>by rw [jE (fun z=>by rw [z,e] at h;cases h)];exact h,fun b ws h=>by rw [jE (fun z=>by rw [z,e] at h;cases h)];exact h⟩
theorem Rl.newL {vs:List V} {ds:List D} (l:Rl K ρ H st) (hp:H p=none) (r:cg K ρ H vs ds):Rl K (ρ ++ [p]) (upd H p (.lst vs)) (st ++ [.lst ds]):=l.new hp ⟨vs,p7,r.mn (Mn.new hp)⟩
theorem Rl.newD {vs:List (Key×V)} {ds:List (Key×D)} (l:Rl K ρ H st) (hp:H p=none) (r:Rk K ρ H vs ds):Rl K (ρ ++ [p]) (upd H p (.dK vs)) (st ++ [.dct ds]):=l.new hp ⟨vs,p7,r.mn (Mn.new hp)⟩
theorem newR (l:Rl K ρ H st) (v:D:=.ref st.length):(ρ ++ [p])[st.length]?=some p:=by rw [<- l.len,Uc (TM _),UR];rfl
theorem Rl.putL {vs:List V} {ds xs:List D} (l:Rl K ρ H st) (hi:ρ[i]?=some a) (hs:st[i]?=some (.lst xs)) (r:cg K ρ H vs ds):Rl K ρ (upd H a (.lst vs)) (st.set i (.lst ds))/\Mn K ρ H ρ (upd H a (.lst vs)):=by
 obtain ⟨ws,e,_⟩:=l.obj i a _ hi hs
 have m:Mn K ρ H ρ (upd H a (.lst vs)):=Mn.put e
 exact ⟨l.put hi hs rfl rfl m ⟨vs,p7,r.mn m⟩,m⟩
theorem Rl.wj {vs:List (Key×V)} {ds xs:List (Key×D)} (l:Rl K ρ H st) (hi:ρ[i]?=some a) (hs:st[i]?=some (.dct xs)) (r:Rk K ρ H vs ds):Rl K ρ (upd H a (.dK vs)) (st.set i (.dct ds))/\Mn K ρ H ρ (upd H a (.dK vs)):=by
 obtain ⟨ws,e,_⟩:=l.obj i a _ hi hs
 have m:Mn K ρ H ρ (upd H a (.dK vs)):=Mn.putD e
 exact ⟨l.put hi hs rfl rfl m ⟨vs,p7,r.mn m⟩,m⟩
def items (st:Store) (i:Nat):Option (List D):=match st[i]? with
 | some (.lst ds)=>some ds
 | some (.oQ ds)=>some ds
 | _=>none
theorem Rl.items {ds:List D} (l:Rl K ρ H st) (hi:ρ[i]?=some a) (h:items st i=some ds):∃ vs,iZ K H a vs/\cg K ρ H vs ds:=by
 unfold L4.items at h
 split at h
 ·next ds' hs=>cases h;obtain ⟨vs,e,r⟩:=l.obj i a _ hi hs;exact ⟨vs,.inl (.inl e),r⟩
 ·next ds' hs=>cases h;obtain ⟨vs,e,r⟩:=l.obj i a _ hi hs;exact ⟨vs,e.sq,r⟩
 ·cases h
end
def So (K:Zfr) {α β:Type} (R:List Addr->Hp->α->β->Prop) (t:St->Hp->(α->Hp->Prop)->Prop) (f:aq->Dm β):Prop :=
 ∀ (ρ:List Addr) (σ:St) (H:Hp) (δ:aq) (st:Store) (b:β) (st':Store) (Q:α->Hp->Prop),Rl K ρ H st->Rs K ρ H σ δ->f δ st=some (b,st') ->
  (∀ a H' ρ',Mn K ρ H ρ' H'->Rl K ρ' H' st'->R ρ' H' a b->Q a H')->t σ H Q
abbrev gj (K:Zfr) (t:TE) (f:aq->Dm D):Prop:=So K (Rp K) t f
abbrev sL (K:Zfr) (t:TT) (f:aq->Dm Bool):Prop:=So K (fun _ _=>Eq) t f
abbrev pI (K:Zfr) (t:TA) (f:aq->Dm (List D)):Prop:=So K (cg K) t f
abbrev DJ (K:Zfr) (t:TO) (f:aq->Dm (Option Int)):Prop:=So K (fun _ _=>Eq) t f
def GQ (K:Zfr) (r:V->Hp->VK->Prop) (g:D->Dm D):Prop :=
 ∀ (ρ:List Addr) (H:Hp) (st:Store) (x:V) (a:D) (b:D) (st':Store) (Q:VK),Rl K ρ H st->Rp K ρ H x a->g a st=some (b,st')->(∀ v H' ρ',Mn K ρ H ρ' H'->Rl K ρ' H' st'->Rp K ρ' H' v b->Q v H')->r x H Q
def lX (K:Zfr) (r:R2) (g:D->D->Dm D):Prop :=
 ∀ (ρ:List Addr) (H:Hp) (st:Store) (x y:V) (a c:D) (b:D) (st':Store) (Q:VK),Rl K ρ H st->Rp K ρ H x a->Rp K ρ H y c->g a c st=some (b,st')->(∀ v H' ρ',Mn K ρ H ρ' H'->Rl K ρ' H' st'->Rp K ρ' H' v b->Q v H')->r x y H Q
def qa (K:Zfr) (r:List V->Hp->VK->Prop) (g:List D->Dm D):Prop :=
 ∀ (ρ:List Addr) (H:Hp) (st:Store) (xs:List V) (as:List D) (b:D) (st':Store) (Q:VK),Rl K ρ H st->cg K ρ H xs as->g as st=some (b,st')->(∀ v H' ρ',Mn K ρ H ρ' H'->Rl K ρ' H' st'->Rp K ρ' H' v b->Q v H')->r xs H Q
def uv (K:Zfr) (T:String) (r:V->List V->Hp->VK->Prop) (g:D->List D->Dm D):Prop :=
 ∀ (ρ:List Addr) (H:Hp) (st:Store) (x:V) (xs:List V) (a:D) (as:List D) (b:D) (st':Store) (Q:VK),Rl K ρ H st->Rp K ρ H x a->cg K ρ H xs as->g a as st=some (b,st')->(∀ v H' ρ',Mn K ρ H ρ' H'->Rl K ρ' H' st'->Rp K ρ' H' v b->Q v H')->r x xs H Q
def bnd {α β:Type} (m:Option (α×Store)) (k:α->Dm β):Option (β×Store):=match m with
 | some (a,st)=>k a st
 | none=>none
theorem dF {α β:Type} {m:Option (α×Store)} {k:α->Dm β} {r:β×Store} (h:bnd m k=some r):∃ a st,m=some (a,st)/\k a st=some r:=by
 cases m with
 | none=>cases h
 | some p=>exact ⟨p.1,p.2,rfl,h⟩
section
variable {K:Zfr}
def ag (i:Nat):aq->Dm D:=fun δ st=>match δ[i]? with
 | some (some d)=>some (d,st)
 | _=>none
theorem ai (i:Nat):gj K (ve i) (ag i):=by
 intro ρ σ H δ st b st' Q l rs e q
 unfold ag at e
 split at e
 ·next d hd=>cases e;obtain ⟨v,ev,r⟩:=rs.2 i _ hd;exact ⟨v,ev,q v H ρ .refl l r⟩
 ·cases e
def fC (d:D):aq->Dm D:=fun _ st=>some (d,st)
theorem qN {v:V} {d:D} (h:∀ ρ H,Rp K ρ H v d):gj K (tC v) (fC d):=by
 intro ρ σ H δ st b st' Q l rs e q
 cases e
 exact q v H ρ .refl l (h ρ H)
theorem aK (i:Int):gj K (tC (.int i)) (fC (.int i)):=qN fun _ _=>.int i
theorem DK (b:Bool):gj K (tC (.bl b)) (fC (.bl b)):=qN fun _ _=>.bl b
theorem o7 (x:Str):gj K (tC (.str x)) (fC (.str x)):=qN fun _ _=>.str x
theorem Ks:gj K (tC .non) (fC .non):=qN fun _ _=>.non
def ay (g:D->D->Dm D) (fa fb:aq->Dm D):aq->Dm D:=fun δ st=>bnd (fa δ st) fun a st1=>bnd (fb δ st1) fun b st2=>g a b st2
theorem aB {r:R2} {g:D->D->Dm D} {ta tb:TE} {fa fb:aq->Dm D} (hr:lX K r g) (ha:gj K ta fa) (hb:gj K tb fb):gj K (zv r ta tb) (ay g fa fb):=by
 intro ρ σ H δ st b st' Q l rs e q
 obtain ⟨a,st1,e1,e⟩:=dF e
 obtain ⟨c,st2,e2,e⟩:=dF e
 refine ha ρ σ H δ st a st1 _ l rs e1 fun x H1 ρ1 m1 l1 r1=>hb ρ1 σ H1 δ st1 c st2 _ l1 (rs.mn m1) e2 fun y H2 ρ2 m2 l2 r2=>?_
 exact hr ρ2 H2 st2 x y a c b st' Q l2 (r1.mn m2) r2 e fun v H3 ρ3 m3 l3 r3=>q v H3 ρ3 ((m1.trans m2).trans m3) l3 r3
def qO (g:D->Dm D) (fa:aq->Dm D):aq->Dm D:=fun δ st=>bnd (fa δ st) fun a st1=>g a st1
theorem sM {r:V->Hp->VK->Prop} {g:D->Dm D} {ta:TE} {fa:aq->Dm D} (hr:GQ K r g) (ha:gj K ta fa):gj K (Io r ta) (qO g fa):=by
 intro ρ σ H δ st b st' Q l rs e q
 obtain ⟨a,st1,e1,e⟩:=dF e
 exact ha ρ σ H δ st a st1 _ l rs e1 fun x H1 ρ1 m1 l1 r1=>hr ρ1 H1 st1 x a b st' Q l1 r1 e fun v H3 ρ3 m3 l3 r3=>q v H3 ρ3 (m1.trans m3) l3 r3
def ah:aq->Dm (List D):=fun _ st=>some ([],st)
def ae (fa:aq->Dm D) (fr:aq->Dm (List D)):aq->Dm (List D):=fun δ st=>bnd (fa δ st) fun a st1=>bnd (fr δ st1) fun r st2=>some (a :: r,st2)
theorem ax:pI K zD ah:=by
 intro ρ σ H δ st b st' Q l rs e q
 cases e
 exact q [] H ρ .refl l .nil
theorem ao {ta:TE} {tr:TA} {fa:aq->Dm D} {fr:aq->Dm (List D)} (ha:gj K ta fa) (hr:pI K tr fr):pI K (tN ta tr) (ae fa fr):=by
 intro ρ σ H δ st b st' Q l rs e q
 obtain ⟨a,st1,e1,e⟩:=dF e
 obtain ⟨c,st2,e2,e⟩:=dF e
 cases e
 exact ha ρ σ H δ st a st1 _ l rs e1 fun x H1 ρ1 m1 l1 r1=>hr ρ1 σ H1 δ st1 c _ _ l1 (rs.mn m1) e2 fun y H2 ρ2 m2 l2 r2=>q _ H2 ρ2 (m1.trans m2) l2 (.cons (r1.mn m2) r2)
def lim (n:Nat):Bool:=Nat.ble n 100000
theorem AI {n:Nat} (h:lim n=true):n<=sizeLine:=Uh (VF h) (by decide)
theorem GS {n:Nat} (h:lim n=true):n < sizeLine:=UG (VF h) (by decide)
def a7 (fa:aq->Dm (List D)):aq->Dm D:=fun δ st=>bnd (fa δ st) fun as st1=>if lim as.length=true then some (.tup as,st1) else none
theorem d5 {ta:TA} {fa:aq->Dm (List D)} (ha:pI K ta fa):gj K (zE ta) (a7 fa):=by
 intro ρ σ H δ st b st' Q l rs e q
 obtain ⟨as,st1,e1,e⟩:=dF e
 split at e
 ·next hl =>
  cases e
  refine ha ρ σ H δ st as _ _ l rs e1 fun xs H1 ρ1 m1 l1 r1=>⟨by rw [r1.length];exact AI hl,fun p hp=>?_⟩
  have m2:Mn K ρ1 H1 ρ1 (upd H1 p (.tup xs)):=Mn.same (iU.up hp)
  exact q _ _ ρ1 (m1.trans m2) (l1.same (iU.up hp)) (.tup (dW.of p7) (r1.mn m2))
 ·cases e
def b9 (fa:aq->Dm (List D)):aq->Dm D:=fun δ st=>bnd (fa δ st) fun as st1=>if lim as.length=true then some (.ref st1.length,st1 ++ [.lst as]) else none
theorem jc {ta:TA} {fa:aq->Dm (List D)} (ha:pI K ta fa):gj K (zF ta) (b9 fa):=by
 intro ρ σ H δ st b st' Q l rs e q
 obtain ⟨as,st1,e1,e⟩:=dF e
 split at e
 ·next hl =>
  cases e
  refine ha ρ σ H δ st as _ _ l rs e1 fun xs H1 ρ1 m1 l1 r1=>⟨by rw [r1.length];exact AI hl,fun p hp=>?_⟩
  exact q _ _ _ (m1.trans (Mn.new hp)) (l1.newL hp r1) (.ref (newR l1))
 ·cases e
def aH (fa:aq->Dm D):aq->Dm Bool:=fun δ st=>bnd (fa δ st) fun a st1=>match a with
 | .bl b=>some (b,st1)
 | _=>none
theorem fD {ta:TE} {fa:aq->Dm D} (ha:gj K ta fa):sL K (tM ta) (aH fa):=by
 intro ρ σ H δ st b st' Q l rs e q
 obtain ⟨a,st1,e1,e⟩:=dF e
 cases a <;> simp at e
 obtain ⟨rfl,rfl⟩:=e
 refine ha ρ σ H δ st _ _ _ l rs e1 fun x H1 ρ1 m1 l1 r1=>?_
 cases r1
 exact ⟨_,rfl,q _ H1 ρ1 m1 l1 rfl⟩
theorem AJ {ta:TE} {fa:aq->Dm D} (ha:gj K ta fa):sL K (tB ta) (aH fa):=fD ha
def AK (fa:aq->Dm Bool):aq->Dm Bool:=fun δ st=>bnd (fa δ st) fun a st1=>some (!a,st1)
def pY (fa fb:aq->Dm Bool):aq->Dm Bool:=fun δ st=>bnd (fa δ st) fun a st1=>if a=true then fb δ st1 else some (false,st1)
def Kt (fa fb:aq->Dm Bool):aq->Dm Bool:=fun δ st=>bnd (fa δ st) fun a st1=>if a=true then some (true,st1) else fb δ st1
theorem GU {ta tb:TT} {fa fb:aq->Dm Bool} (ha:sL K ta fa) (hb:sL K tb fb):sL K (zg ta tb) (pY fa fb):=by
 intro ρ σ H δ st b st' Q l rs e q
 obtain ⟨a,st1,e1,e⟩:=dF e
 refine ha ρ σ H δ st _ _ _ l rs e1 fun x H1 ρ1 m1 l1 r1=>?_
 subst r1
 cases x with
 | true =>
  refine sm ?_
  rw [if_pos rfl] at e
  exact hb ρ1 σ H1 δ st1 b st' _ l1 (rs.mn m1) e fun y H2 ρ2 m2 l2 r2=>q y H2 ρ2 (m1.trans m2) l2 r2
 | false =>
  refine sj ?_
  rw [if_neg TX] at e
  cases e
  exact q _ H1 ρ1 m1 l1 rfl
def uw (fa fb:aq->Dm D):aq->Dm D:=fun δ st=>bnd (aH fa δ st) fun a st1=>if a=true then fb δ st1 else some (.bl false,st1)
def AL (fa fb:aq->Dm D):aq->Dm D:=fun δ st=>bnd (aH fa δ st) fun a st1=>if a=true then some (.bl true,st1) else fb δ st1
def ux (fa:aq->Dm D):aq->Dm D:=fun δ st=>bnd (aH fa δ st) fun a st1=>some (.bl (!a),st1)
def gF {β:Type} (c:aq->Dm Bool) (fa fb:aq->Dm β):aq->Dm β:=fun δ st=>bnd (c δ st) fun a st1=>if a=true then fa δ st1 else fb δ st1
def kJ:aq->Dm (Option Int):=fun _ st=>some (none,st)
def m8 (fa:aq->Dm D):aq->Dm (Option Int):=fun δ st=>bnd (fa δ st) fun a st1=>match a with
 | .int i=>some (some i,st1)
 | _=>none
theorem GV:DJ K pj kJ:=by
 intro ρ σ H δ st b st' Q l rs e q
 cases e
 exact q _ H ρ .refl l rfl
theorem GW {ta:TE} {fa:aq->Dm D} (ha:gj K ta fa):DJ K (tP ta) (m8 fa):=by
 intro ρ σ H δ st b st' Q l rs e q
 obtain ⟨a,st1,e1,e⟩:=dF e
 cases a <;> simp at e
 obtain ⟨rfl,rfl⟩:=e
 refine ha ρ σ H δ st _ _ _ l rs e1 fun x H1 ρ1 m1 l1 r1=>?_
 cases r1
 exact ⟨_,rfl,q _ H1 ρ1 m1 l1 rfl⟩
def wk (K:Zfr) (r:V->Option Int->Option Int->Hp->VK->Prop) (g:D->Option Int->Option Int->Dm D):Prop :=
 ∀ lo hi,GQ K (fun x=>r x lo hi) (fun a=>g a lo hi)
def yA (g:D->Option Int->Option Int->Dm D) (fa:aq->Dm D) (fl fh:aq->Dm (Option Int)):aq->Dm D:=fun δ st=>bnd (fa δ st) fun a st1=>bnd (fl δ st1) fun lo st2=>bnd (fh δ st2) fun hi st3=>g a lo hi st3
theorem GX {r:V->Option Int->Option Int->Hp->VK->Prop} {g:D->Option Int->Option Int->Dm D} {ta:TE} {tl th:TO} {fa:aq->Dm D} {fl fh:aq->Dm (Option Int)} (hr:wk K r g) (ha:gj K ta fa) (hl:DJ K tl fl) (hh:DJ K th fh):gj K (IP r ta tl th) (yA g fa fl fh):=by
 intro ρ σ H δ st b st' Q l rs e q
 obtain ⟨a,st1,e1,e⟩:=dF e
 obtain ⟨lo,st2,e2,e⟩:=dF e
 obtain ⟨hi,st3,e3,e⟩:=dF e
 refine ha ρ σ H δ st a st1 _ l rs e1 fun x H1 ρ1 m1 l1 r1=>hl ρ1 σ H1 δ st1 lo st2 _ l1 (rs.mn m1) e2 fun y H2 ρ2 m2 l2 r2=>hh ρ2 σ H2 δ st2 hi st3 _ l2 (rs.mn (m1.trans m2)) e3 fun z H3 ρ3 m3 l3 r3=>?_
 subst r2 r3
 exact hr y z ρ3 H3 st3 x a b st' Q l3 (r1.mn (m2.trans m3)) e fun v H4 ρ4 m4 l4 r4=>q v H4 ρ4 (((m1.trans m2).trans m3).trans m4) l4 r4
def aN (g:List D->Dm D) (fa:aq->Dm (List D)):aq->Dm D:=fun δ st=>bnd (fa δ st) fun as st1=>g as st1
theorem bX {r:List V->Hp->VK->Prop} {g:List D->Dm D} {ta:TA} {fa:aq->Dm (List D)} (hr:qa K r g) (ha:pI K ta fa):gj K (FC r ta) (aN g fa):=by
 intro ρ σ H δ st b st' Q l rs e q
 obtain ⟨as,st1,e1,e⟩:=dF e
 exact ha ρ σ H δ st as st1 _ l rs e1 fun x H1 ρ1 m1 l1 r1=>hr ρ1 H1 st1 x as b st' Q l1 r1 e fun v H3 ρ3 m3 l3 r3=>q v H3 ρ3 (m1.trans m3) l3 r3
def bI (K:Zfr) (n:Nat) (F:List D->Dm D):Sp:=fun vs H Q _=>vs.length=n/\∃ (ρ:List Addr) (st:Store) (ds:List D) (b:D) (st':Store),Rl K ρ H st/\cg K ρ H vs ds/\F ds st=some (b,st') /\
 ∀ v H' ρ',Mn K ρ H ρ' H'->Rl K ρ' H' st'->Rp K ρ' H' v b->Q v H'
theorem cL {n:Nat} {F:List D->Dm D} {ta:TA} {fa:aq->Dm (List D)} {E:XK} (ha:pI K ta fa) (hn:∀ δ st as st',fa δ st=some (as,st')->as.length=n):gj K (ow (bI K n F) [] E ta) (aN F fa):=by
 intro ρ σ H δ st b st' Q l rs e q
 obtain ⟨as,st1,e1,e⟩:=dF e
 refine ha ρ σ H δ st as st1 _ l rs e1 fun vs H1 ρ1 m1 l1 r1=>⟨?_,ρ1,st1,as,b,st',l1,?_,e,fun v H3 ρ3 m3 l3 r3=>q v H3 ρ3 (m1.trans m3) l3 r3⟩
 ·rw [U5,r1.length];exact hn _ _ _ _ e1
 ·rw [U5];exact r1
theorem O1 {δ:aq} {st st':Store} {as:List D} (h:ah δ st=some (as,st')):as.length=0:=by cases h;rfl
theorem DL {fa:aq->Dm D} {fr:aq->Dm (List D)} {n:Nat} (hr:∀ δ st as st',fr δ st=some (as,st')->as.length=n):∀ δ st as st',ae fa fr δ st=some (as,st')->as.length=n + 1:=fun δ st as st' h=>by
 obtain ⟨a,st1,e1,e⟩:=dF h
 obtain ⟨c,st2,e2,e⟩:=dF e
 cases e
 rw [Uo,hr _ _ _ _ e2]
end
end L4
namespace L4
open PySem PySem.Spec L2
section
variable {K:Zfr}
def uy (h:Int->Int->D):D->D->Dm D
 | .int i,.int j,st=>some (h i j,st)
 | _,_,_=>none
theorem AO {gv:Int->Int->V} {h:Int->Int->D} (hh:∀ i j ρ H,Rp K ρ H (gv i j) (h i j)):lX K (pR gv) (uy h):=by
 intro ρ H st x y a c b st' Q l rx ry e q
 unfold uy at e
 split at e
 ·cases e;cases rx;cases ry;exact ⟨_,_,rfl,rfl,q _ H ρ .refl l (hh _ _ ρ H)⟩
 ·cases e
def uz (c:Int->Int->Bool) (h:Int->Int->D):D->D->Dm D
 | .int i,.int j,st=>if c i j=true then some (h i j,st) else none
 | _,_,_=>none
theorem AQ {C:Int->Int->Prop} {c:Int->Int->Bool} {gv:Int->Int->V} {h:Int->Int->D} (hc:∀ i j,c i j=true->C i j) (hh:∀ i j ρ H,Rp K ρ H (gv i j) (h i j)):lX K (rI C gv) (uz c h):=by
 intro ρ H st x y a d b st' Q l rx ry e q
 unfold uz at e
 split at e
 ·split at e
  ·next hcc=>cases e;cases rx;cases ry;exact ⟨_,_,rfl,rfl,hc _ _ hcc,q _ H ρ .refl l (hh _ _ ρ H)⟩
  ·cases e
 ·cases e
def cM:D->D->Dm D:=uy fun i j=>.int (i + j)
def mO:D->D->Dm D:=uy fun i j=>.int (i - j)
def mB:D->D->Dm D:=uz (fun i j=>decide (-18446744073709551616 < i/\i < 18446744073709551616) || decide (-18446744073709551616 < j/\j < 18446744073709551616)) fun i j=>.int (i * j)
def m9:D->D->Dm D:=uz (fun i j=>decide (0 < j/\j < 1073741824)) fun i j=>.int (i / j)
def jd:D->D->Dm D:=uz (fun i j=>decide (0 < j)) fun i j=>.int (i % j)
def qP:D->D->Dm D:=uz (fun i j=>decide (0<=j/\j<=1000000/\i.natAbs < 18446744073709551616)) fun i j=>.int (i ^ j.toNat)
def uA:D->D->Dm D:=uy fun i j=>.bl (decide (i < j))
def O2:D->D->Dm D:=uy fun i j=>.bl (decide (i<=j))
def wm:D->D->Dm D:=uy fun i j=>.bl (decide (j < i))
def GY:D->D->Dm D:=uy fun i j=>.bl (decide (j<=i))
theorem lG:lX K (pR fun i j=>.int (i + j)) cM:=AO fun _ _ _ _=>.int _
theorem AR:lX K (pR fun i j=>.int (i - j)) mO:=AO fun _ _ _ _=>.int _
theorem uB:lX K (rI ql fun i j=>.int (i * j)) mB:=AQ (fun i j h=>by
 rw [VJ,decide_eq_true_eq,decide_eq_true_eq] at h
 exact h) fun _ _ _ _=>.int _
theorem GZ:lX K (rI zy fun i j=>.int (i / j)) m9:=AQ (fun i j h=>of_decide_eq_true (p:=0 < j/\j < 1073741824) h) fun _ _ _ _=>.int _
theorem pZ:lX K (rI (fun _ j=>0 < j) fun i j=>.int (i % j)) jd:=AQ (fun i j h=>of_decide_eq_true h) fun _ _ _ _=>.int _
theorem Ku:lX K (rI zz fun i j=>.int (i ^ j.toNat)) qP:=AQ (fun i j h=>by have h:=of_decide_eq_true (p:=0<=j/\j<=1000000/\i.natAbs < 18446744073709551616) h;exact ⟨h.1,h.2.1,by omega⟩) fun _ _ _ _=>.int _
theorem yB:lX K (pR fun i j=>.bl (decide (i < j))) uA:=AO fun _ _ _ _=>.bl _
theorem AU:lX K (pR fun i j=>.bl (decide (j < i))) wm:=AO fun _ _ _ _=>.bl _
theorem AV:lX K (pR fun i j=>.bl (decide (j<=i))) GY:=AO fun _ _ _ _=>.bl _
def lL:D->Dm D
 | .int i,st=>some (.int (-i),st)
 | _,_=>none
theorem sN:GQ K (rU fun i=>.int (-i)) lL:=by
 intro ρ H st x a b st' Q l rx e q
 unfold lL at e
 split at e
 ·cases e;cases rx;exact ⟨_,rfl,q _ H ρ .refl l (.int _)⟩
 ·cases e
def sV:D->Option V
 | .non=>some .non
 | .bl b=>some (.bl b)
 | .int i=>some (.int i)
 | .str x=>some (.str x)
 | _=>none
theorem yC {ρ:List Addr} {H:Hp} {x v:V} {a:D} (r:Rp K ρ H x a) (h:sV a=some v):x=v:=by
 cases r <;> first | (cases h;rfl) | cases h
def jY (neg:Bool):D->D->Dm D:=fun a b st=>match sV a,sV b with
 | some x,some y=>if oY x y=true then some (.bl (if neg then !decide (x=y) else decide (x=y)),st) else none
 | _,_=>none
theorem oa:lX K Iq (jY false):=by
 intro ρ H st x y a c b st' Q l rx ry e q
 unfold jY at e
 split at e
 ·next u v h1 h2 =>
  split at e
  ·next hs=>cases e;cases yC rx h1;cases yC ry h2;exact ⟨hs,q _ H ρ .refl l (.bl _)⟩
  ·cases e
 ·cases e
theorem DM:lX K Ir (jY true):=by
 intro ρ H st x y a c b st' Q l rx ry e q
 unfold jY at e
 split at e
 ·next u v h1 h2 =>
  split at e
  ·next hs=>cases e;cases yC rx h1;cases yC ry h2;exact ⟨hs,q _ H ρ .refl l (.bl _)⟩
  ·cases e
 ·cases e
def bZ {α β:Type} (f:α->Option β):List α->Option (List β)
 | []=>some []
 | a :: r=>match f a,bZ f r with
  | some b,some s=>some (b :: s)
  | _,_=>none
theorem AW {α β:Type} {f:α->Option β} {a:α} {r:List α} {s:List β} (h:bZ f (a :: r)=some s):∃ b t,f a=some b/\bZ f r=some t/\s=b :: t:=by
 unfold bZ at h
 split at h
 ·next b t h1 h2=>cases h;exact ⟨b,t,h1,h2,rfl⟩
 ·cases h
theorem uC {α β γ:Type} {f:α->Option β} {g:γ->α} {k:γ->β} (h:∀ c,f (g c)=some (k c)):∀ l:List γ,bZ f (l.map g)=some (l.map k)
 | []=>rfl
 | c :: r=>by
  show bZ f (g c :: r.map g)=_
  unfold bZ
  rw [h c,uC h r]
  rfl
def dX (st:Store):Nat->D->Option PyData
 | 0,_=>none
 | _ + 1,.non=>some .none
 | _ + 1,.bl b=>some (.bool b)
 | _ + 1,.int i=>some (.int i)
 | _ + 1,.str x=>some (.str x)
 | _ + 1,.ty _=>none
 | n + 1,.tup ds=>(bZ (dX st n) ds).map PyData.tuple
 | n + 1,.ref i=>match items st i with
  | some ds=>(bZ (dX st n) ds).map PyData.list
  | none=>none
theorem wo {ρ:List Addr} {H:Hp} {st:Store} (l:Rl K ρ H st):∀ (n:Nat) {v:V} {d:D} {p:PyData},Rp K ρ H v d->dX st n d=some p->Rep K H v p
 | 0,_,_,_,_,h=>by simp [dX] at h
 | n + 1,v,d,p,r,h=>by
  have all:∀ {vs:List V} {ds:List D} {ps:List PyData},cg K ρ H vs ds->bZ (dX st n) ds=some ps->eN K H vs ps:=by
   intro vs ds ps rr
   induction vs generalizing ds ps with
   | nil=>intro hm;cases rr;cases hm;exact .nil
   | cons w ws ih =>
    intro hm
    cases rr with
    | cons ra rb =>
     obtain ⟨b,t,h1,h2,rfl⟩:=AW hm
     exact .cons (wo l n ra h1) (ih rb h2)
  cases r with
  | non=>simp [dX] at h;subst h;exact .non
  | bl b=>simp [dX] at h;subst h;exact .bl b
  | int i=>simp [dX] at h;subst h;exact .int i
  | str x=>simp [dX] at h;subst h;exact .str x
  | ty n=>simp [dX] at h
  | ref hi =>
   simp only [dX] at h
   split at h
   ·next ds hd =>
    obtain ⟨ps,h1,rfl⟩:=Uj.mp h
    obtain ⟨vs,e,rr⟩:=l.items hi hd
    exact .lst e (all rr h1)
   ·cases h
  | tup q rr =>
   simp only [dX] at h
   obtain ⟨ps,h1,rfl⟩:=Uj.mp h
   exact .tup q (all rr h1)
def lM (neg:Bool):D->D->Dm D:=fun a b st=>match dX st 20 a,dX st 20 b with
 | some p,some q=>if (PyData.canLay0 p && PyData.canLay0 q && decide (min p.depth q.depth<=60))=true then some (.bl (if neg then !PyData.eqv p q else PyData.eqv p q),st) else none
 | _,_=>none
theorem DN (neg:Bool):lX K (zV K neg) (lM neg):=by
 intro ρ H st x y a c b st' Q l rx ry e q
 unfold lM at e
 split at e
 ·next u v h1 h2 =>
  split at e
  ·next hs =>
   cases e
   rw [Ua,Ua,decide_eq_true_eq] at hs
   exact ⟨u,v,wo l 20 rx h1,wo l 20 ry h2,hs.1.1,hs.1.2,hs.2,q _ H ρ .refl l (.bl _)⟩
  ·cases e
 ·cases e
theorem at_of {ρ:List Addr} {H:Hp} {vs:List V} {ds:List D} {i:Int} {d:D} (r:cg K ρ H vs ds) (h:c5 ds i=some d):∃ v,c5 vs i=some v/\Rp K ρ H v d:=by
 unfold c5 at h ⊢
 rw [r.length]
 cases hx:lF ds.length i with
 | none=>rw [hx] at h;cases h
 | some j =>
  rw [hx] at h
  exact r.got h
def aI:D->D->Dm D
 | .tup ds,.int i,st=>match c5 ds i with
  | some d=>some (d,st)
  | none=>none
 | _,_,_=>none
theorem ck:lX K (vB K) aI:=by
 intro ρ H st x y a c b st' Q l rx ry e q
 unfold aI at e
 split at e
 ·split at e
  ·next d hd =>
   cases e
   cases ry
   cases rx with
   | tup s r =>
    obtain ⟨v,hv,rv⟩:=at_of r hd
    exact ⟨_,_,_,v,rfl,rfl,s,hv,q v H ρ .refl l rv⟩
  ·cases e
 ·cases e
def bQ:D->D->Dm D
 | .ref r,.int i,st=>match items st r with
  | some ds=>match c5 ds i with
   | some d=>some (d,st)
   | none=>none
  | none=>none
 | _,_,_=>none
theorem iW:lX K (vA K) bQ:=by
 intro ρ H st x y a c b st' Q l rx ry e q
 unfold bQ at e
 split at e
 ·split at e
  ·next ds hi =>
   split at e
   ·next d hd =>
    cases e
    cases ry
    cases rx with
    | ref hr =>
     obtain ⟨vs,s,r⟩:=l.items hr hi
     obtain ⟨v,hv,rv⟩:=at_of r hd
     exact ⟨_,_,_,v,rfl,rfl,s,hv,q v H ρ .refl l rv⟩
   ·cases e
  ·cases e
 ·cases e
def wt:D->D->Dm D
 | .str z,.int i,st=>if lim z.length=true then match c5 z.cps.toList i with
   | some c=>some (.str ⟨#[c]⟩,st)
   | none=>none
  else none
 | _,_,_=>none
def cutD (xs:List D) (lo hi:Option Int):List D:=(xs.drop (HT.cn xs.length 0 lo)).take (HT.cn xs.length xs.length hi - HT.cn xs.length 0 lo)
theorem cg.cut {ρ:List Addr} {H:Hp} {vs:List V} {ds:List D} (r:cg K ρ H vs ds) (lo hi:Option Int):cg K ρ H (mq vs lo hi) (cutD ds lo hi):=by
 unfold mq cutD
 rw [r.length]
 exact (r.drop _).take _
def wu:D->Option Int->Option Int->Dm D
 | .tup ds,lo,hi,st=>some (.tup (cutD ds lo hi),st)
 | _,_,_,_=>none
theorem got {ρ:List Addr} {H:Hp} {st:Store} {vs:List V} {ds:List D} {Q:VK} (l:Rl K ρ H st) (r:cg K ρ H vs ds) (q:∀ v H' ρ',Mn K ρ H ρ' H'->Rl K ρ' H' st->Rp K ρ' H' v (.tup ds)->Q v H'):oZ K H vs Q :=
 fun p H' s e=>q _ H' ρ (Mn.same e) (l.same e) (.tup s (r.mn (Mn.same e)))
theorem wx:wk K (uc K) wu:=by
 intro lo hi ρ H st x a b st' Q l rx e q
 cases a with
 | tup ds =>
  cases e
  cases rx with
  | tup s r=>exact ⟨_,_,rfl,s,got l (r.cut lo hi) q⟩
 | _=>cases e
def qQ:D->Option Int->Option Int->Dm D
 | .ref r,lo,hi,st=>match items st r with
  | some ds=>some (.ref st.length,st ++ [.lst (cutD ds lo hi)])
  | none=>none
 | _,_,_,_=>none
theorem Kv:wk K (zJ K) qQ:=by
 intro lo hi ρ H st x a b st' Q l rx e q
 cases a with
 | ref i =>
  simp only [qQ] at e
  split at e
  ·next ds hd =>
   cases e
   cases rx with
   | ref hr =>
    obtain ⟨vs,s,r⟩:=l.items hr hd
    exact ⟨_,_,rfl,s,fun p hp=>q _ _ _ (Mn.new hp) (l.newL hp (r.cut lo hi)) (.ref (newR l))⟩
  ·cases e
 | _=>cases e
def eQ:D->D->Dm D
 | .tup a,.tup b,st=>if lim (a.length + b.length)=true then some (.tup (a ++ b),st) else none
 | _,_,_=>none
theorem sO:lX K (qv K) eQ:=by
 intro ρ H st x y a c b st' Q l rx ry e q
 unfold eQ at e
 split at e
 ·split at e
  ·next hl =>
   cases e
   cases rx with
   | tup s r =>
    cases ry with
    | tup s' r'=>exact ⟨_,_,_,_,rfl,rfl,s,s',by rw [r.length,r'.length];exact AI hl,got l (r.append r') q⟩
  ·cases e
 ·cases e
def own (st:Store) (i:Nat):Option (List D):=match st[i]? with
 | some (.lst ds)=>some ds
 | _=>none
theorem qb {st:Store} {i:Nat} {ds:List D} (h:own st i=some ds):st[i]?=some (.lst ds):=by
 unfold own at h
 split at h
 ·next ds' hs=>cases h;exact hs
 ·cases h
def mC:D->D->Dm D
 | .ref i,.ref j,st=>match own st i,own st j with
  | some a,some b=>if lim (a.length + b.length)=true then some (.ref st.length,st ++ [.lst (a ++ b)]) else none
  | _,_=>none
 | _,_,_=>none
theorem uD:lX K zN mC:=by
 intro ρ H st x y a c b st' Q l rx ry e q
 unfold mC at e
 split at e
 ·split at e
  ·next a b h1 h2 =>
   split at e
   ·next hl =>
    cases e
    cases rx with
    | ref hi =>
     cases ry with
     | ref hj =>
      obtain ⟨vs,e1,r1⟩:=l.obj _ _ _ hi (qb h1)
      obtain ⟨ws,e2,r2⟩:=l.obj _ _ _ hj (qb h2)
      exact ⟨_,_,_,_,rfl,rfl,e1,e2,by rw [r1.length,r2.length];exact AI hl,fun p hp=>q _ _ _ (Mn.new hp) (l.newL hp (r1.append r2)) (.ref (newR l))⟩
   ·cases e
  ·cases e
 ·cases e
def qR:D->D->Dm D
 | .ref i,.int k,st=>match own st i with
  | some a=>if (decide (-9223372036854775808<=k/\k < 9223372036854775808) && lim (a.length * k.toNat))=true then some (.ref st.length,st ++ [.lst (List.replicate k.toNat a).flatten]) else none
  | _=>none
 | _,_,_=>none
theorem Kw {ρ:List Addr} {H:Hp}:∀ {ws vs:List V} {ds:List D},cg K ρ H ws ds->bZ sV ds=some vs->ws=vs
 | _,_,_,.nil,h=>by cases h;rfl
 | _,_,_,.cons a b,h=>by
  obtain ⟨x,t,h1,h2,rfl⟩:=AW h
  rw [yC a h1,Kw b h2]
theorem Kx {a:D} {v:V} (h:sV a=some v):j5 v=true:=by cases a <;> first | (cases h;rfl) | cases h
theorem Ky:∀ {ds:List D} {vs:List V},bZ sV ds=some vs->vs.all j5=true
 | [],_,h=>by cases h;rfl
 | d :: r,_,h=>by
  obtain ⟨x,t,h1,h2,rfl⟩:=AW h
  rw [List.all_cons,Kx h1,Ky h2];rfl
def cz (st:Store):D->Option (List D)
 | .tup ds=>some ds
 | .ref i=>items st i
 | _=>none
theorem DO {ρ:List Addr} {H:Hp} {st:Store} {x:V} {a:D} {ds:List D} (l:Rl K ρ H st) (r:Rp K ρ H x a) (h:cz st a=some ds):∃ p vs,x=.ref p/\(iZ K H p vs\/dW K H p vs)/\cg K ρ H vs ds:=by
 cases r <;> first | (cases h;done) | skip
 ·next hi=>obtain ⟨vs,s,r⟩:=l.items hi h;exact ⟨_,vs,rfl,.inl s,r⟩
 ·next s r=>cases h;exact ⟨_,_,rfl,.inr s,r⟩
def qc (neg:Bool):D->D->Dm D:=fun a c st=>match sV a,(cz st c).bind (bZ sV) with
 | some x,some vs=>some (.bl (if neg then !tU x vs else tU x vs),st)
 | _,_=>none
theorem AX (neg:Bool):lX K (FN K neg) (qc neg):=by
 intro ρ H st x y a c b st' Q l rx ry e q
 unfold qc at e
 split at e
 ·next u vs h1 h2 =>
  cases e
  obtain ⟨ds,h3,h4⟩:=UM.mp h2
  obtain ⟨p,ws,rfl,s,r⟩:=DO l ry h3
  cases yC rx h1
  cases Kw r h4
  exact ⟨p,_,rfl,s,Kx h1,Ky h4,q _ H ρ .refl l (.bl _)⟩
 ·cases e
theorem cg.one' {ρ:List Addr} {H:Hp} {vs:List V} {d:D} (r:cg K ρ H vs [d]):∃ v,vs=[v]/\Rp K ρ H v d:=by cases r with | cons a b=>cases b;exact ⟨_,rfl,a⟩
theorem cg.two' {ρ:List Addr} {H:Hp} {vs:List V} {d e:D} (r:cg K ρ H vs [d,e]):∃ v w,vs=[v,w]/\Rp K ρ H v d/\Rp K ρ H w e:=by
 cases r with
 | cons a b=>obtain ⟨w,rfl,r⟩:=b.one';exact ⟨_,_,rfl,a,r⟩
def cI:List D->Dm D
 | [a],st=>match cz st a with
  | some ds=>some (.int ds.length,st)
  | none=>none
 | _,_=>none
theorem kW:qa K (fun xs H Q=>∃ p ys,xs=[.ref p]/\(iZ K H p ys\/dW K H p ys)/\Q (.int ys.length) H) cI:=by
 intro ρ H st xs as b st' Q l rx e q
 unfold cI at e
 split at e
 ·split at e
  ·next ds hd =>
   cases e
   obtain ⟨v,rfl,r⟩:=rx.one'
   obtain ⟨p,vs,rfl,s,r⟩:=DO l r hd
   exact ⟨p,vs,rfl,s,q _ H ρ .refl l (by rw [r.length];exact .int _)⟩
  ·cases e
 ·cases e
def nc:List D->Dm D
 | [a],st=>match cz st a with
  | some ds=>some (.ref st.length,st ++ [.lst ds])
  | none=>none
 | _,_=>none
theorem G0:qa K (fun xs H Q=>∃ p ys,xs=[.ref p]/\(iZ K H p ys\/dW K H p ys)/\∀ l,H l=none->Q (.ref l) (upd H l (.lst ys))) nc:=by
 intro ρ H st xs as b st' Q l rx e q
 unfold nc at e
 split at e
 ·split at e
  ·next ds hd =>
   cases e
   obtain ⟨v,rfl,r⟩:=rx.one'
   obtain ⟨p,vs,rfl,s,r⟩:=DO l r hd
   exact ⟨p,vs,rfl,s,fun p hp=>q _ _ _ (Mn.new hp) (l.newL hp r) (.ref (newR l))⟩
  ·cases e
 ·cases e
def bB:List D->Dm D
 | [a],st=>match cz st a with
  | some ds=>some (.tup ds,st)
  | none=>none
 | _,_=>none
theorem mD:qa K (fun xs H Q=>∃ p ys,xs=[.ref p]/\((iZ K H p ys/\∀ l,H l=none->Q (.ref l) (upd H l (.tup ys)))\/(dW K H p ys/\Q (.ref p) H))) bB:=by
 intro ρ H st xs as b st' Q l rx e q
 unfold bB at e
 split at e
 ·split at e
  ·next ds hd =>
   cases e
   obtain ⟨v,rfl,r⟩:=rx.one'
   obtain ⟨p,vs,rfl,s,r'⟩:=DO l r hd
   refine ⟨p,vs,rfl,?_⟩
   rcases s with s | s
   ·exact .inl ⟨s,(got l r' q).new⟩
   ·exact .inr ⟨s,(got l r' q).it s⟩
  ·cases e
 ·cases e
def pJ:List D->Dm D
 | [.int i,.int j],st=>some (.int (if j > i then j else i),st)
 | _,_=>none
def pK:List D->Dm D
 | [.int i,.int j],st=>some (.int (if j < i then j else i),st)
 | _,_=>none
theorem O3:qa K (fun xs H Q=>∃ i j,xs=[.int i,.int j]/\Q (.int (if j > i then j else i)) H) pJ:=by
 intro ρ H st xs as b st' Q l rx e q
 unfold pJ at e
 split at e
 ·cases e
  obtain ⟨v,w,rfl,r1,r2⟩:=rx.two'
  cases r1;cases r2
  exact ⟨_,_,rfl,q _ H ρ .refl l (.int _)⟩
 ·cases e
theorem O4:qa K (fun xs H Q=>∃ i j,xs=[.int i,.int j]/\Q (.int (if j < i then j else i)) H) pK:=by
 intro ρ H st xs as b st' Q l rx e q
 unfold pK at e
 split at e
 ·cases e
  obtain ⟨v,w,rfl,r1,r2⟩:=rx.two'
  cases r1;cases r2
  exact ⟨_,_,rfl,q _ H ρ .refl l (.int _)⟩
 ·cases e
def mE:List D->Dm D
 | [.int i],st=>some (.int i,st)
 | [.bl k],st=>some (.int (if k then 1 else 0),st)
 | _,_=>none
theorem G1:qa K (fun xs H Q=>(∃ i,xs=[.int i]/\Q (.int i) H)\/∃ k,xs=[.bl k]/\Q (.int (if k then 1 else 0)) H) mE:=by
 intro ρ H st xs as b st' Q l rx e q
 unfold mE at e
 split at e
 ·cases e
  obtain ⟨v,rfl,r⟩:=rx.one'
  cases r
  exact .inl ⟨_,rfl,q _ H ρ .refl l (.int _)⟩
 ·cases e
  obtain ⟨v,rfl,r⟩:=rx.one'
  cases r
  exact .inr ⟨_,rfl,q _ H ρ .refl l (.int _)⟩
 ·cases e
def gY:List D->Dm D
 | [.int j],st=>some (.ref st.length,st ++ [.iY 0 j])
 | _,_=>none
def d6:List D->Dm D
 | [.int i,.int j],st=>some (.ref st.length,st ++ [.iY i j])
 | _,_=>none
theorem DP:qa K (fun xs H Q=>∃ j:Int,xs=[.int j]/\∀ p,H p=none->Q (.ref p) (upd H p (.iY 0 j))) gY:=by
 intro ρ H st xs as b st' Q l rx e q
 unfold gY at e
 split at e
 ·cases e
  obtain ⟨v,rfl,r⟩:=rx.one'
  cases r
  exact ⟨_,rfl,fun p hp=>q _ _ _ (Mn.new hp) (l.new hp (show uu K _ _ p (.iY _ _) from p7)) (.ref (newR l))⟩
 ·cases e
theorem yD:qa K (fun xs H Q=>∃ i j:Int,xs=[.int i,.int j]/\∀ p,H p=none->Q (.ref p) (upd H p (.iY i j))) d6:=by
 intro ρ H st xs as b st' Q l rx e q
 unfold d6 at e
 split at e
 ·cases e
  obtain ⟨v,w,rfl,r1,r2⟩:=rx.two'
  cases r1;cases r2
  exact ⟨_,_,rfl,fun p hp=>q _ _ _ (Mn.new hp) (l.new hp (show uu K _ _ p (.iY _ _) from p7)) (.ref (newR l))⟩
 ·cases e
def aD (lo:Int) (n:Nat):List D:=(List.range n).map fun (k:Nat)=>D.int (lo + k)
theorem O5 {ρ:List Addr} {H:Hp} (lo:Int) (n:Nat):cg K ρ H (eM lo n) (aD lo n):=by
 unfold eM aD
 induction (List.range n) with
 | nil=>exact .nil
 | cons a r ih=>exact .cons (.int _) ih
def p3 (lo hi:Int):Bool:=decide (-4611686018427387904<=lo/\lo < 4611686018427387904/\-4611686018427387904<=hi/\hi < 4611686018427387904) && lim (hi - lo).toNat
theorem Kz {lo hi:Int} (h:p3 lo hi=true):(-(2 ^ 62)<=lo/\lo < 2 ^ 62/\-(2 ^ 62)<=hi/\hi < 2 ^ 62)/\(hi - lo).toNat<=2 ^ 24:=by
 unfold p3 at h
 rw [Ua,decide_eq_true_eq] at h
 exact ⟨by omega,Uh (VF h.2) (by decide)⟩
def iT (st:Store):D->Option (Int×Int)
 | .ref i=>match st[i]? with
  | some (.iY lo hi)=>some (lo,hi)
  | _=>none
 | _=>none
theorem wy {ρ:List Addr} {H:Hp} {st:Store} {x:V} {a:D} {lo hi:Int} (l:Rl K ρ H st) (r:Rp K ρ H x a) (h:iT st a=some (lo,hi)):∃ p,x=.ref p/\H p=some (.iY lo hi):=by
 cases r <;> first | (cases h;done) | skip
 ·next hi' =>
  simp only [iT] at h
  split at h
  ·next lo' O6 hs=>cases h;exact ⟨_,rfl,l.obj _ _ _ hi' hs⟩
  ·cases h
def c6:List D->Dm D
 | [a],st=>match iT st a with
  | some (lo,hi)=>if p3 lo hi=true then some (.ref st.length,st ++ [.lst (aD lo (hi - lo).toNat)]) else none
  | none=>none
 | _,_=>none
theorem rO:qa K (fun xs H Q=>∃ p lo hi,xs=[.ref p]/\H p=some (.iY lo hi)/\(-(2 ^ 62)<=lo/\lo < 2 ^ 62/\-(2 ^ 62)<=hi/\hi < 2 ^ 62)/\(hi - lo).toNat<=2 ^ 24 /\
  ∀ l,H l=none->Q (.ref l) (upd H l (.lst (eM lo (hi - lo).toNat)))) c6:=by
 intro ρ H st xs as b st' Q l rx e q
 unfold c6 at e
 split at e
 ·split at e
  ·next lo hi hd =>
   split at e
   ·next ok =>
    cases e
    obtain ⟨v,rfl,r⟩:=rx.one'
    obtain ⟨p,rfl,s⟩:=wy l r hd
    exact ⟨p,lo,hi,rfl,s,(Kz ok).1,(Kz ok).2,fun p hp=>q _ _ _ (Mn.new hp) (l.newL hp (O5 lo _)) (.ref (newR l))⟩
   ·cases e
  ·cases e
 ·cases e
def sP:List D->Dm D
 | [a],st=>match iT st a with
  | some (lo,hi)=>if p3 lo hi=true then some (.tup (aD lo (hi - lo).toNat),st) else none
  | none=>none
 | _,_=>none
def iV:D->Option Int
 | .int i=>some i
 | _=>none
theorem G2 {ρ:List Addr} {H:Hp}:∀ {ws:List V} {ds:List D} {ns:List Int},cg K ρ H ws ds->bZ iV ds=some ns->ws=ns.map V.int
 | _,_,_,.nil,h=>by cases h;rfl
 | _,_,_,.cons a b,h=>by
  obtain ⟨x,t,h1,h2,rfl⟩:=AW h
  rw [G2 b h2]
  cases a <;> first | (cases h1;rfl) | cases h1
def lH:List D->Dm D
 | [a],st=>match dX st 20 a with
  | some p=>if (p.showable && p.canLay0 && decide (p.shown.length<=sizeLine) && decide (p.depth<=60))=true then some (.str p.shown,st) else none
  | none=>none
 | _,_=>none
theorem KA:qa K (fun xs H Q=>∃ (x:V) (d:PyData),xs=[x]/\Rep K H x d/\d.showable=true/\d.canLay0=true/\d.shown.length<=sizeLine/\d.depth<=60/\Q (.str d.shown) H) lH:=by
 intro ρ H st xs as b st' Q l rx e q
 unfold lH at e
 split at e
 ·split at e
  ·next p hp =>
   split at e
   ·next ok =>
    cases e
    rw [Ua,Ua,Ua,decide_eq_true_eq,decide_eq_true_eq] at ok
    obtain ⟨v,rfl,r⟩:=rx.one'
    exact ⟨v,p,rfl,wo l 20 r hp,ok.1.1.1,ok.1.1.2,ok.1.2,ok.2,q _ H ρ .refl l (.str _)⟩
   ·cases e
  ·cases e
 ·cases e
def bV:D->Option Bool
 | .bl i=>some i
 | _=>none
def wz:List D->Dm D
 | [.ref i],st=>match (items st i).bind (bZ bV) with
  | some bs=>some (.bl (bs.all id),st)
  | none=>none
 | _,_=>none
def rP (T:String) (st:Store):D->Bool
 | .str _=>T == "str"
 | .tup _=>T == "tuple"
 | .ref i=>T == "list" && (items st i).isSome
 | _=>false
theorem KC {ρ:List Addr} {H:Hp} {st:Store} {x:V} {a:D} {T:String} (l:Rl K ρ H st) (r:Rp K ρ H x a) (h:rP T st a=true):Df K T x H:=by
 cases r <;> first | (cases h;done) | skip
 ·exact eq_of_beq h
 ·next hi =>
  simp only [rP,Ua] at h
  obtain ⟨ds,hd⟩:=Vd.mp h.2
  obtain ⟨vs,s,_⟩:=l.items hi hd
  exact .inl ⟨eq_of_beq h.1,vs,s⟩
 ·next s r=>exact .inr (.inl ⟨eq_of_beq h,_,s⟩)
def gZ (T:String) (g:D->List D->Dm D) (fo:aq->Dm D) (fa:aq->Dm (List D)):aq->Dm D:=fun δ st=>bnd (fo δ st) fun o st1=>if rP T st1 o=true then bnd (fa δ st1) fun as st2=>g o as st2 else none
theorem lO {T:String} {r:V->List V->Hp->VK->Prop} {g:D->List D->Dm D} {to:TE} {ta:TA} {fo:aq->Dm D} {fa:aq->Dm (List D)} (hr:uv K T r g) (ho:gj K to fo) (ha:pI K ta fa):gj K (FP K T r to ta) (gZ T g fo fa):=by
 intro ρ σ H δ st b st' Q l rs e q
 obtain ⟨o,st1,e1,e⟩:=dF e
 split at e
 ·next ht =>
  obtain ⟨as,st2,e2,e⟩:=dF e
  refine ho ρ σ H δ st o st1 _ l rs e1 fun x H1 ρ1 m1 l1 r1=>⟨KC l1 r1 ht,ha ρ1 σ H1 δ st1 as st2 _ l1 (rs.mn m1) e2 fun xs H2 ρ2 m2 l2 r2=>?_⟩
  exact hr ρ2 H2 st2 x xs o as b st' Q l2 (r1.mn m2) r2 e fun v H3 ρ3 m3 l3 r3=>q v H3 ρ3 ((m1.trans m2).trans m3) l3 r3
 ·cases e
def aO:D->List D->Dm D
 | .ref i,[y],st=>match own st i with
  | some xs=>if lim xs.length=true then some (.non,st.set i (.lst (xs ++ [y]))) else none
  | none=>none
 | _,_,_=>none
theorem nJ:uv K "list" pk aO:=by
 intro ρ H st x xs a as b st' Q l rx qS e q
 unfold aO at e
 split at e
 ·split at e
  ·next ys hy =>
   split at e
   ·next hl =>
    cases e
    obtain ⟨v,rfl,r⟩:=qS.one'
    cases rx with
    | ref hi =>
     obtain ⟨vs,e1,r1⟩:=l.obj _ _ _ hi (qb hy)
     obtain ⟨l2,m2⟩:=l.putL hi (qb hy) (r1.append (.one r))
     exact ⟨_,vs,v,rfl,rfl,e1,by rw [r1.length];exact GS hl,q _ _ ρ m2 l2 .non⟩
   ·cases e
  ·cases e
 ·cases e
def nK:D->List D->Dm D
 | .ref i,[.ref j],st=>match own st i,own st j with
  | some xs,some ys=>if lim (xs.length + ys.length)=true then some (.non,st.set i (.lst (xs ++ ys))) else none
  | _,_=>none
 | _,_,_=>none
def lp:D->List D->Dm D
 | .ref i,[.int k],st=>match own st i with
  | some xs=>if decide (-9223372036854775808<=k/\k < 9223372036854775808)=true then match seqIndex? k xs.length with
    | some j=>match xs[j]? with
     | some y=>some (y,st.set i (.lst (xs.eraseIdx j)))
     | none=>none
    | none=>none
   else none
  | none=>none
 | _,_,_=>none
theorem O7:uv K "list" qo lp:=by
 intro ρ H st x xs a as b st' Q l rx qS e q
 unfold lp at e
 split at e
 ·split at e
  ·next ys hy =>
   split at e
   ·next hk =>
    split at e
    ·next j hj =>
     split at e
     ·next y hy' =>
      cases e
      obtain ⟨v,rfl,r⟩:=qS.one'
      cases r
      cases rx with
      | ref hi =>
       obtain ⟨vs,e1,r1⟩:=l.obj _ _ _ hi (qb hy)
       obtain ⟨w,hw,rw'⟩:=r1.got hy'
       obtain ⟨l2,m2⟩:=l.putL hi (qb hy) (r1.erase j)
       have hk:=of_decide_eq_true hk
       exact ⟨_,vs,_,j,w,rfl,rfl,e1,by omega,by omega,by rw [r1.length];exact hj,hw,q _ _ ρ m2 l2 (rw'.mn m2)⟩
     ·cases e
    ·cases e
   ·cases e
  ·cases e
 ·cases e
def je:D->List D->Dm D
 | .tup ds,[.int v],st=>match bZ iV ds with
  | some ns=>match ns.findIdx? (fun i=>decide (i=v)) with
   | some j=>some (.int (j:Int),st)
   | none=>none
  | none=>none
 | _,_,_=>none
theorem KD:uv K "tuple" (o4 K) je:=by
 intro ρ H st x xs a as b st' Q l rx qS e q
 unfold je at e
 split at e
 ·split at e
  ·next ns hn =>
   split at e
   ·next j hj =>
    cases e
    obtain ⟨v,rfl,r⟩:=qS.one'
    cases r
    cases rx with
    | tup s r =>
     cases G2 r hn
     obtain ⟨h1,h2,h3⟩:=Vb.mp hj
     refine ⟨_,ns,_,j,rfl,rfl,s,?_,fun i hi z=>?_,q _ H ρ .refl l (.int _)⟩
     ·rw [TL h1];exact congrArg some (of_decide_eq_true h2)
     ·have:=h3 i hi
      obtain ⟨hl,ez⟩:=TK.mp z
      rw [ez] at this
      simp at this
   ·cases e
  ·cases e
 ·cases e
def jH:D->List D->Dm D
 | .ref i,[.int v],st=>match (items st i).bind (bZ iV) with
  | some ns=>if v∈ns/\ns.length<=1000/\∀ i∈ns,-1000000000000000000<=i/\i<=1000000000000000000 then some (.int (ns.idxOf v:Int),st) else none
  | none=>none
 | _,_,_=>none
def AY (st:Store):D->Option String
 | .non=>some "NoneType"
 | .bl _=>some "bool"
 | .int _=>some "int"
 | .str _=>some "str"
 | .tup _=>some "tuple"
 | .ref i=>match st[i]? with
  | some (.lst _)=>some "list"
  | some (.dct _)=>some "dict"
  | _=>none
 | .ty _=>none
def nL:List D->Dm D
 | [a,.ty c],st=>match AY st a with
  | some T=>if T=c then some (.bl true,st) else none
  | none=>none
 | _,_=>none
end
section
variable {K:Zfr}
theorem KG:lX K zO qR:=by
 intro ρ H st x y a c b st' Q l rx ry e q
 unfold qR at e
 split at e
 ·split at e
  ·next ds hd =>
   split at e
   ·next ok =>
    cases e
    rw [Ua,decide_eq_true_eq] at ok
    cases ry
    cases rx with
    | ref hi =>
     obtain ⟨vs,e1,r1⟩:=l.obj _ _ _ hi (qb hd)
     exact ⟨_,_,vs,rfl,rfl,e1,by omega,by omega,by rw [r1.length];exact AI ok.2,fun p hp=>q _ _ _ (Mn.new hp) (l.newL hp (r1.flat _)) (.ref (newR l))⟩
   ·cases e
  ·cases e
 ·cases e
theorem Rs.set {ρ:List Addr} {H:Hp} {σ:St} {δ:aq} {v:V} {d:D} {i:Nat} (h:Rs K ρ H σ δ) (r:Rp K ρ H v d):Rs K ρ H (σ.set i (some v)) (δ.set i (some d)):=by
 refine ⟨by rw [UD,UD];exact h.1,fun j e hj=>?_⟩
 by_cases hij:i=j
 ·subst hij
  have hl:i < δ.length:=by
   have:=(TK.mp hj).1
   rwa [UD] at this
  rw [TQ hl] at hj
  cases hj
  exact ⟨v,by rw [TQ (by rw [h.1];exact hl)],r⟩
 ·rw [TV hij] at hj
  obtain ⟨w,hw,rw'⟩:=h.2 j e hj
  exact ⟨w,by rw [TV hij];exact hw,rw'⟩
def wA (K:Zfr) (g:TG) (f:D->aq->Dm aq):Prop :=
 ∀ (ρ:List Addr) (σ:St) (H:Hp) (δ:aq) (st:Store) (v:V) (d:D) (δ':aq) (st':Store) (Q:St->Hp->Prop),Rl K ρ H st->Rs K ρ H σ δ->Rp K ρ H v d->f d δ st=some (δ',st') ->
  (∀ σ' H' ρ',Mn K ρ H ρ' H'->Rl K ρ' H' st'->Rs K ρ' H' σ' δ'->Q σ' H')->g v σ H Q
def sQ (K:Zfr) (g:rD) (f:List D->aq->Dm aq):Prop :=
 ∀ (ρ:List Addr) (σ:St) (H:Hp) (δ:aq) (st:Store) (v:List V) (d:List D) (δ':aq) (st':Store) (Q:St->Hp->Prop),Rl K ρ H st->Rs K ρ H σ δ->cg K ρ H v d->f d δ st=some (δ',st') ->
  (∀ σ' H' ρ',Mn K ρ H ρ' H'->Rl K ρ' H' st'->Rs K ρ' H' σ' δ'->Q σ' H')->g v σ H Q
def hName (i:Nat):D->aq->Dm aq:=fun d δ st=>some (δ.set i (some d),st)
theorem aM (i:Nat):wA K (om i) (hName i):=by
 intro ρ σ H δ st v d δ' st' Q l rs r e q
 cases e
 exact q _ H ρ .refl l (rs.set r)
def g5:List D->aq->Dm aq
 | [],δ,st=>some (δ,st)
 | _,_,_=>none
def aS (f:D->aq->Dm aq) (g:List D->aq->Dm aq):List D->aq->Dm aq
 | d :: ds,δ,st=>bnd (f d δ st) fun δ1 st1=>g ds δ1 st1
 | _,_,_=>none
theorem oD:sQ K zm g5:=by
 intro ρ σ H δ st v d δ' st' Q l rs r e q
 cases r with
 | nil=>cases e;exact ⟨rfl,q _ H ρ .refl l rs⟩
 | cons a b=>cases e
theorem gG {t:TG} {u:rD} {f:D->aq->Dm aq} {g:List D->aq->Dm aq} (hf:wA K t f) (hg:sQ K u g):sQ K (tI t u) (aS f g):=by
 intro ρ σ H δ st v d δ' st' Q l rs r e q
 cases r with
 | nil=>cases e
 | cons a b =>
  obtain ⟨δ1,st1,e1,e⟩:=dF e
  exact ⟨_,_,rfl,hf ρ σ H δ st _ _ δ1 st1 _ l rs a e1 fun σ1 H1 ρ1 m1 l1 r1=>hg ρ1 σ1 H1 δ1 st1 _ _ δ' st' Q l1 r1 (b.mn m1) e fun σ2 H2 ρ2 m2 l2 r2=>q σ2 H2 ρ2 (m1.trans m2) l2 r2⟩
def gQ (n:Nat) (f:List D->aq->Dm aq):D->aq->Dm aq
 | .tup ds,δ,st=>if ds.length=n then f ds δ st else none
 | _,_,_=>none
theorem oE {n:Nat} {t:rD} {f:List D->aq->Dm aq} (hf:sQ K t f):wA K (zo K n t) (gQ n f):=by
 intro ρ σ H δ st v d δ' st' Q l rs r e q
 cases r <;> first | (cases e;done) | skip
 ·next s r =>
  simp only [gQ] at e
  split at e
  ·next hl=>exact ⟨_,_,rfl,s,by rw [r.length];exact hl,hf ρ σ H δ st _ _ δ' st' Q l rs r e q⟩
  ·cases e
def hSub (fo fi:aq->Dm D):D->aq->Dm aq:=fun d δ st=>bnd (fo δ st) fun o st1=>bnd (fi δ st1) fun i st2=>match o,i with
 | .ref r,.int k=>match own st2 r with
  | some xs=>match lF xs.length k with
   | some j=>some (δ,st2.set r (.lst (xs.set j d)))
   | none=>none
  | none=>none
 | _,_=>none
theorem yE {to ti:TE} {fo fi:aq->Dm D} (ho:gj K to fo) (hi:gj K ti fi):wA K (L2.mO to ti tR) (hSub fo fi):=by
 intro ρ σ H δ st v d δ' st' Q l rs r e q
 obtain ⟨o,st1,e1,e⟩:=dF e
 obtain ⟨i,st2,e2,e⟩:=dF e
 refine ho ρ σ H δ st o st1 _ l rs e1 fun x H1 ρ1 m1 l1 r1=>hi ρ1 σ H1 δ st1 i st2 _ l1 (rs.mn m1) e2 fun y H2 ρ2 m2 l2 r2=>?_
 split at e
 ·split at e
  ·next xs hx =>
   split at e
   ·next j hj =>
    cases e
    cases r2
    cases r1 with
    | ref hr =>
     have hr2:=m2.r _ _ hr
     obtain ⟨vs,e3,r3⟩:=l2.obj _ _ _ hr2 (qb hx)
     obtain ⟨l3,m3⟩:=l2.putL hr2 (qb hx) (r3.set (r.mn (m1.trans m2)) j)
     exact ⟨_,vs,_,j,rfl,rfl,e3,by rw [r3.length];exact hj,q σ _ ρ2 ((m1.trans m2).trans m3) l3 (rs.mn ((m1.trans m2).trans m3))⟩
   ·cases e
  ·cases e
 ·cases e
def Go (K:Zfr) (ρ:List Addr) (H:Hp) (st':Store) (E:Ends):Fl->Prop
 | .nx δ=>∀ σ' H' ρ',Mn K ρ H ρ' H'->Rl K ρ' H' st'->Rs K ρ' H' σ' δ->E.nx σ' H'
 | .bk δ=>∀ σ' H' ρ',Mn K ρ H ρ' H'->Rl K ρ' H' st'->Rs K ρ' H' σ' δ->E.bk σ' H'
 | .ct δ=>∀ σ' H' ρ',Mn K ρ H ρ' H'->Rl K ρ' H' st'->Rs K ρ' H' σ' δ->E.ct σ' H'
 | .rt d=>∀ v H' ρ',Mn K ρ H ρ' H'->Rl K ρ' H' st'->Rp K ρ' H' v d->E.rt v H'
theorem Go.mn {ρ ρ1:List Addr} {H H1:Hp} {st':Store} {E:Ends} {fl:Fl} (g:Go K ρ H st' E fl) (m:Mn K ρ H ρ1 H1):Go K ρ1 H1 st' E fl:=by
 cases fl <;> exact fun v H' ρ' m' l r=>g v H' ρ' (m.trans m') l r
def oe (K:Zfr) (t:TS) (f:aq->Dm Fl):Prop :=
 ∀ (ρ:List Addr) (σ:St) (H:Hp) (δ:aq) (st:Store) (fl:Fl) (st':Store) (E:Ends),Rl K ρ H st->Rs K ρ H σ δ->f δ st=some (fl,st')->Go K ρ H st' E fl->t E σ H
def bD:aq->Dm Fl:=fun δ st=>some (.nx δ,st)
theorem kX:oe K tG bD:=by
 intro ρ σ H δ st fl st' E l rs e g
 cases e
 exact g σ H ρ .refl l rs
def az (f g:aq->Dm Fl):aq->Dm Fl:=fun δ st=>bnd (f δ st) fun fl st1=>match fl with
 | .nx δ1=>g δ1 st1
 | x=>some (x,st1)
theorem a5 {t u:TS} {f g:aq->Dm Fl} (hf:oe K t f) (hg:oe K u g):oe K (zh t u) (az f g):=by
 intro ρ σ H δ st fl st' E l rs e q
 obtain ⟨x,st1,e1,e⟩:=dF e
 refine hf ρ σ H δ st x st1 _ l rs e1 ?_
 cases x with
 | nx δ1=>exact fun σ1 H1 ρ1 m1 l1 r1=>hg ρ1 σ1 H1 δ1 st1 fl st' E l1 r1 e (q.mn m1)
 | bk δ1=>cases e;exact q
 | ct δ1=>cases e;exact q
 | rt d=>cases e;exact q
theorem j6 {c:TT} {t u:TS} {fc:aq->Dm Bool} {f g:aq->Dm Fl} (hc:sL K c fc) (hf:oe K t f) (hg:oe K u g):oe K (zj c t u) (gF fc f g):=by
 intro ρ σ H δ st fl st' E l rs e q
 obtain ⟨a,st1,e1,e⟩:=dF e
 refine hc ρ σ H δ st _ _ _ l rs e1 fun x H1 ρ1 m1 l1 r1=>?_
 subst r1
 cases x with
 | true =>
  refine sm ?_
  rw [if_pos rfl] at e
  exact hf ρ1 σ H1 δ st1 fl st' E l1 (rs.mn m1) e (q.mn m1)
 | false =>
  refine sj ?_
  rw [if_neg TX] at e
  exact hg ρ1 σ H1 δ st1 fl st' E l1 (rs.mn m1) e (q.mn m1)
def bN (f:aq->Dm D):aq->Dm Fl:=fun δ st=>bnd (f δ st) fun _ st1=>some (.nx δ,st1)
theorem nM {t:TE} {f:aq->Dm D} (hf:gj K t f):oe K (tH t) (bN f):=by
 intro ρ σ H δ st fl st' E l rs e q
 obtain ⟨a,st1,e1,e⟩:=dF e
 cases e
 exact hf ρ σ H δ st a _ _ l rs e1 fun x H1 ρ1 m1 l1 r1=>q σ H1 ρ1 m1 l1 (rs.mn m1)
def bg (f:aq->Dm D):aq->Dm Fl:=fun δ st=>bnd (f δ st) fun d st1=>some (.rt d,st1)
theorem dO {t:TE} {f:aq->Dm D} (hf:gj K t f):oe K (zi t) (bg f):=by
 intro ρ σ H δ st fl st' E l rs e q
 obtain ⟨a,st1,e1,e⟩:=dF e
 cases e
 exact hf ρ σ H δ st a _ _ l rs e1 fun x H1 ρ1 m1 l1 r1=>q x H1 ρ1 m1 l1 r1
def aG (f:aq->Dm D) (h:D->aq->Dm aq):aq->Dm Fl:=fun δ st=>bnd (f δ st) fun d st1=>bnd (h d δ st1) fun δ1 st2=>some (.nx δ1,st2)
theorem bK {t:TE} {g:TG} {f:aq->Dm D} {h:D->aq->Dm aq} (hf:gj K t f) (hh:wA K g h):oe K (r9 t g) (aG f h):=by
 intro ρ σ H δ st fl st' E l rs e q
 obtain ⟨a,st1,e1,e⟩:=dF e
 obtain ⟨δ1,st2,e2,e⟩:=dF e
 cases e
 exact hf ρ σ H δ st a st1 _ l rs e1 fun x H1 ρ1 m1 l1 r1=>hh ρ1 σ H1 δ st1 x a δ1 _ _ l1 (rs.mn m1) r1 e2 fun σ2 H2 ρ2 m2 l2 r2=>q σ2 H2 ρ2 (m1.trans m2) l2 r2
def qT (i j:Nat) (fa:aq->Dm (List D)):aq->Dm Fl:=fun δ st=>bnd (fa δ st) fun as st1=>match as with
 | [a,b]=>some (.nx ((δ.set i (some a)).set j (some b)),st1)
 | _=>none
theorem KH {i j:Nat} {t:TA} {fa:aq->Dm (List D)} (ha:pI K t fa):oe K (zp i j t) (qT i j fa):=by
 intro ρ σ H δ st fl st' E l rs e q
 obtain ⟨as,st1,e1,e⟩:=dF e
 split at e
 ·cases e
  refine ha ρ σ H δ st _ _ _ l rs e1 fun x H1 ρ1 m1 l1 r1=>?_
  obtain ⟨v,w,rfl,r,r'⟩:=r1.two'
  exact ⟨v,w,rfl,q _ H1 ρ1 m1 l1 (((rs.mn m1).set r).set r')⟩
 ·cases e
def eU (c:aq->Dm Bool) (b:aq->Dm Fl):Nat->aq->Dm Fl
 | 0,_,_=>none
 | n + 1,δ,st=>bnd (c δ st) fun t st1=>if t=true then bnd (b δ st1) fun fl st2=>match fl with
   | .nx δ2=>eU c b n δ2 st2
   | .ct δ2=>eU c b n δ2 st2
   | .bk δ2=>some (.nx δ2,st2)
   | .rt d=>some (.rt d,st2)
  else some (.nx δ,st1)
def fuel:Nat:=1000000
def g7 (c:aq->Dm Bool) (b:aq->Dm Fl):aq->Dm Fl:=eU c b fuel
theorem wB {tc:TT} {tb:TS} {c:aq->Dm Bool} {b:aq->Dm Fl} (hc:sL K tc c) (hb:oe K tb b):oe K (qj tc tb) (g7 c b):=by
 intro ρ σ H δ st fl st' E l rs e q
 refine ⟨fun m σ1 H1=>∃ ρ1 δ1 st1,Mn K ρ H ρ1 H1/\Rl K ρ1 H1 st1/\Rs K ρ1 H1 σ1 δ1/\eU c b m δ1 st1=some (fl,st'),⟨fuel,ρ,δ,st,.refl,l,rs,e⟩,?_⟩
 rintro m σ1 H1 ⟨ρ1,δ1,st1,m1,l1,uE,e1⟩
 cases m with
 | zero=>cases e1
 | succ m =>
  obtain ⟨t,st2,e2,e1⟩:=dF e1
  refine hc ρ1 σ1 H1 δ1 st1 _ _ _ l1 uE e2 fun x H2 ρ2 m2 l2 r2=>?_
  subst r2
  cases x with
  | true =>
   refine sm ?_
   rw [if_pos rfl] at e1
   obtain ⟨f2,st3,e3,e1⟩:=dF e1
   refine ⟨fun σ3 H3=>∃ m',m' < m + 1/\∃ ρ1 δ1 st1,Mn K ρ H ρ1 H3/\Rl K ρ1 H3 st1/\Rs K ρ1 H3 σ3 δ1/\eU c b m' δ1 st1=some (fl,st'),fun _ _ h=>h,hb ρ2 σ1 H2 δ1 st2 f2 st3 _ l2 (uE.mn m2) e3 ?_⟩
   cases f2 with
   | nx δ3=>exact fun σ3 H3 ρ3 m3 l3 r3=>⟨m,US m,ρ3,δ3,st3,(m1.trans m2).trans m3,l3,r3,e1⟩
   | ct δ3=>exact fun σ3 H3 ρ3 m3 l3 r3=>⟨m,US m,ρ3,δ3,st3,(m1.trans m2).trans m3,l3,r3,e1⟩
   | bk δ3=>cases e1;exact q.mn (m1.trans m2)
   | rt d=>cases e1;exact q.mn (m1.trans m2)
  | false =>
   refine sj ?_
   rw [if_neg TX] at e1
   cases e1
   exact q.mn (m1.trans m2) σ1 H2 ρ2 .refl l2 (uE.mn m2)
inductive Src where
 | fix (ds:List D) | live (i:Nat) | O8 (i:Nat) | zl (i:Nat) (es:List D) | zr (ds:List D) (i:Nat)
def Src.at:Src->Nat->Store->Option (Option D)
 | .fix ds,i,_=>if i<=ds.length then some ds[i]? else none
 | .live r,i,st=>(items st r).map fun ds=>ds[i]?
 | .O8 r,i,st=>(items st r).bind fun ds=>if i<=ds.length then some (ds.mapIdx fun i d=>D.tup [.int (i:Int),d])[i]? else none
 | .zl r es,i,st=>(items st r).bind fun ds=>if i<=(List.zipWith (fun a b=>D.tup [a,b]) ds es).length then some (List.zipWith (fun a b=>D.tup [a,b]) ds es)[i]? else none
 | .zr ds r,i,st=>(items st r).bind fun es=>if i<=(List.zipWith (fun a b=>D.tup [a,b]) ds es).length then some (List.zipWith (fun a b=>D.tup [a,b]) ds es)[i]? else none
theorem uF {ds:List D} {i:Nat} {st:Store} {o:Option D} (h:Src.at (.fix ds) i st=some o):i<=ds.length/\ds[i]?=o:=by
 simp only [Src.at] at h
 split at h
 ·next hl=>exact ⟨hl,T5 h⟩
 ·cases h
def AZ (K:Zfr) (ρ:List Addr) (H:Hp) (J:It) (S:Src):Prop :=
 ∀ (ρ2:List Addr) (H2:Hp) (st2:Store) (i:Nat),Mn K ρ H ρ2 H2->Rl K ρ2 H2 st2 ->
  (S.at i st2=some none->J.stop i H2)/\∀ d,S.at i st2=some (some d)->J.go i H2/\∀ x H3,J.sa i H2 x H3->Mn K ρ2 H2 ρ2 H3/\Rl K ρ2 H3 st2/\Rp K ρ2 H3 x d
abbrev uG (K:Zfr) (t:TI) (f:aq->Dm Src):Prop:=So K (AZ K) t f
def gk (S:Src) (g:D->aq->Dm aq) (b:aq->Dm Fl):Nat->Nat->aq->Dm Fl
 | 0,_,_,_=>none
 | n + 1,i,δ,st=>match S.at i st with
  | none=>none
  | some none=>some (.nx δ,st)
  | some (some d)=>bnd (g d δ st) fun δ1 st1=>bnd (b δ1 st1) fun fl st2=>match fl with
   | .nx δ2=>gk S g b n (i + 1) δ2 st2
   | .ct δ2=>gk S g b n (i + 1) δ2 st2
   | .bk δ2=>some (.nx δ2,st2)
   | .rt d=>some (.rt d,st2)
def cu (fi:aq->Dm Src) (g:D->aq->Dm aq) (b:aq->Dm Fl):aq->Dm Fl:=fun δ st=>bnd (fi δ st) fun S st1=>gk S g b fuel 0 δ st1
theorem kD {wi:TI} {tg:TG} {tb:TS} {fi:aq->Dm Src} {g:D->aq->Dm aq} {b:aq->Dm Fl} (hi:uG K wi fi) (hg:wA K tg g) (hb:oe K tb b):oe K (zu wi tg tb) (cu fi g b):=by
 intro ρ σ H δ st fl st' E l rs e q
 obtain ⟨S,kK,e0,e⟩:=dF e
 refine hi ρ σ H δ st S kK _ l rs e0 fun J H0 ρ0 m0 l0 ok=>?_
 refine ⟨fun i m σ1 H1=>∃ ρ1 δ1 st1,Mn K ρ0 H0 ρ1 H1/\Rl K ρ1 H1 st1/\Rs K ρ1 H1 σ1 δ1/\gk S g b m i δ1 st1=some (fl,st'),⟨fuel,ρ0,δ,kK,.refl,l0,rs.mn m0,e⟩,?_⟩
 rintro i m σ1 H1 ⟨ρ1,δ1,st1,m1,l1,uE,e1⟩
 cases m with
 | zero=>cases e1
 | succ m =>
  obtain ⟨hstop,hgo⟩:=ok ρ1 H1 st1 i m1 l1
  unfold gk at e1
  split at e1
  ·cases e1
  ·next hs=>cases e1;exact .inl ⟨hstop hs,q.mn (m0.trans m1) σ1 H1 ρ1 .refl l1 uE⟩
  ·next d hs =>
   obtain ⟨δ2,st2,e2,e1⟩:=dF e1
   obtain ⟨f3,st3,e3,e1⟩:=dF e1
   obtain ⟨go,sa⟩:=hgo d hs
   refine .inr ⟨go,fun σ3 H3=>∃ m',m' < m + 1/\∃ ρ1 δ1 st1,Mn K ρ0 H0 ρ1 H3/\Rl K ρ1 H3 st1/\Rs K ρ1 H3 σ3 δ1/\gk S g b m' (i + 1) δ1 st1=some (fl,st'),fun _ _ h=>h,fun x H2 hy=>?_⟩
   obtain ⟨m2,l2,r2⟩:=sa x H2 hy
   refine hg ρ1 σ1 H2 δ1 st1 x d δ2 st2 _ l2 (uE.mn m2) r2 e2 fun σ4 H4 ρ4 m4 l4 r4=>hb ρ4 σ4 H4 δ2 st2 f3 st3 _ l4 r4 e3 ?_
   have m5:=((m1.trans m2).trans m4)
   cases f3 with
   | nx δ3=>exact fun σ5 H5 ρ5 m6 l5 r5=>⟨m,US m,ρ5,δ3,st3,m5.trans m6,l5,r5,e1⟩
   | ct δ3=>exact fun σ5 H5 ρ5 m6 l5 r5=>⟨m,US m,ρ5,δ3,st3,m5.trans m6,l5,r5,e1⟩
   | bk δ3=>cases e1;exact q.mn (m0.trans m5)
   | rt d=>cases e1;exact q.mn (m0.trans m5)
def cK (fa:aq->Dm D):aq->Dm Src:=fun δ st=>bnd (fa δ st) fun a st1=>match a with
 | .tup ds=>some (.fix ds,st1)
 | _=>none
theorem oG {t:TE} {fa:aq->Dm D} (ha:gj K t fa):uG K (zt K t) (cK fa):=by
 intro ρ σ H δ st S st' Q l rs e q
 obtain ⟨a,st1,e1,e⟩:=dF e
 cases a <;> simp at e
 obtain ⟨rfl,rfl⟩:=e
 refine ha ρ σ H δ st _ _ _ l rs e1 fun x H1 ρ1 m1 l1 r1=>?_
 cases r1 with
 | tup s r =>
  refine ⟨_,rfl,⟨_,s⟩,q _ H1 ρ1 m1 l1 fun ρ2 H2 st2 i m2 l2=>⟨fun h=>?_,fun d h=>?_⟩⟩
  ·exact ⟨_,m2.t _ _ s,by rw [r.length];exact Uv.mp (uF h).2⟩
  ·obtain ⟨v,hv,rv⟩:=r.got (uF h).2
   refine ⟨⟨_,v,m2.t _ _ s,hv⟩,fun x H3 y=>?_⟩
   obtain ⟨rfl,hx⟩:=y
   have:=hx _ (m2.t _ _ s)
   rw [hv] at this
   cases this
   exact ⟨.refl,l2,rv.mn m2⟩
def ka (fa:aq->Dm D):aq->Dm Src:=fun δ st=>bnd (fa δ st) fun a st1=>match a with
 | .ref i=>match items st1 i with
  | some _=>some (.live i,st1)
  | none=>none
 | _=>none
theorem DQ {t:TE} {fa:aq->Dm D} (ha:gj K t fa):uG K (qk K t) (ka fa):=by
 intro ρ σ H δ st S st' Q l rs e q
 obtain ⟨a,st1,e1,e⟩:=dF e
 split at e
 ·next k =>
  split at e
  ·next ds hd =>
   cases e
   refine ha ρ σ H δ st _ _ _ l rs e1 fun x H1 ρ1 m1 l1 r1=>?_
   cases r1 with
   | ref hi =>
    obtain ⟨vs,s,r⟩:=l1.items hi hd
    refine ⟨_,rfl,⟨_,s⟩,q _ H1 ρ1 m1 l1 fun ρ2 H2 st2 i m2 l2=>⟨fun h=>?_,fun d h=>?_⟩⟩
    ·obtain ⟨O9,hd2,h⟩:=Uj.mp h
     obtain ⟨KI,s2,r2⟩:=l2.items (m2.r _ _ hi) hd2
     exact ⟨KI,s2,by rw [r2.length];exact Uv.mp h⟩
    ·obtain ⟨O9,hd2,h⟩:=Uj.mp h
     obtain ⟨KI,s2,r2⟩:=l2.items (m2.r _ _ hi) hd2
     obtain ⟨v,hv,rv⟩:=r2.got h
     refine ⟨⟨_,v,s2,hv⟩,fun x H3 y=>?_⟩
     obtain ⟨rfl,hx⟩:=y
     have:=hx _ s2
     rw [hv] at this
     cases this
     exact ⟨.refl,l2,rv⟩
  ·cases e
 ·cases e
def bY (fa:aq->Dm (List D)):aq->Dm Src:=fun δ st=>bnd (fa δ st) fun as st1=>match as with
 | [.int j]=>if decide (-4611686018427387904<=j/\j < 4611686018427387904)=true then some (.fix (aD 0 j.toNat),st1) else none
 | _=>none
def nO (fa:aq->Dm (List D)):aq->Dm Src:=fun δ st=>bnd (fa δ st) fun as st1=>match as with
 | [.int i,.int j]=>if decide ((-4611686018427387904<=i/\i < 4611686018427387904)/\-4611686018427387904<=j/\j < 4611686018427387904)=true then some (.fix (aD i (j - i).toNat),st1) else none
 | _=>none
theorem fE (lo:Int) (n:Nat):(aD lo n).length=n:=by simp [aD]
theorem wC {lo:Int} {n k:Nat} (h:k < n):(aD lo n)[k]?=some (.int (lo + k)):=by simp [aD,h]
theorem KJ {ρ:List Addr} {H:Hp} (lo:Int) (n:Nat):AZ K ρ H (zq lo n) (.fix (aD lo n)):=by
 intro ρ2 H2 st2 i m2 l2
 refine ⟨fun h=>?_,fun d h=>?_⟩
 ·have:=Uv.mp (uF h).2
  rw [fE] at this
  exact this
 ·have h:=(uF h).2
  have hl:=(TK.mp h).1
  rw [fE] at hl
  rw [wC hl] at h
  cases h
  refine ⟨hl,fun x H3 y=>?_⟩
  obtain ⟨rfl,rfl⟩:=y
  exact ⟨.refl,l2,.int _⟩
theorem oR {t:TA} {fa:aq->Dm (List D)} (ha:pI K t fa):uG K (tJ t) (bY fa):=by
 intro ρ σ H δ st S st' Q l rs e q
 obtain ⟨as,st1,e1,e⟩:=dF e
 split at e
 ·split at e
  ·next ok =>
   cases e
   have ok:=of_decide_eq_true ok
   refine ha ρ σ H δ st _ _ _ l rs e1 fun x H1 ρ1 m1 l1 r1=>?_
   obtain ⟨v,rfl,r⟩:=r1.one'
   cases r
   exact ⟨_,rfl,by omega,by omega,q _ H1 ρ1 m1 l1 (KJ 0 _)⟩
  ·cases e
 ·cases e
theorem Pa {t:TA} {fa:aq->Dm (List D)} (ha:pI K t fa):uG K (tK t) (nO fa):=by
 intro ρ σ H δ st S st' Q l rs e q
 obtain ⟨as,st1,e1,e⟩:=dF e
 split at e
 ·split at e
  ·next ok =>
   cases e
   have ok:=of_decide_eq_true ok
   refine ha ρ σ H δ st _ _ _ l rs e1 fun x H1 ρ1 m1 l1 r1=>?_
   obtain ⟨v,w,rfl,r,r'⟩:=r1.two'
   cases r
   cases r'
   exact ⟨_,_,rfl,by omega,q _ H1 ρ1 m1 l1 (KJ _ _)⟩
  ·cases e
 ·cases e
def gR (ds:List D):List D:=ds.mapIdx fun i d=>.tup [.int (i:Int),d]
theorem A0 (ds:List D):(gR ds).length=ds.length:=by simp [gR]
theorem G3 {ds:List D} {i:Nat} {x:D} (h:(gR ds)[i]?=some x):∃ d,ds[i]?=some d/\x=.tup [.int (i:Int),d]:=by
 unfold gR at h
 rw [List.getElem?_mapIdx] at h
 obtain ⟨d,h1,h2⟩:=Uj.mp h
 exact ⟨d,h1,h2.symm⟩
def lq (fa:aq->Dm (List D)):aq->Dm Src:=fun δ st=>bnd (fa δ st) fun as st1=>match as with
 | [.tup ds]=>some (.fix (gR ds),st1)
 | _=>none
theorem G4 {t:TA} {fa:aq->Dm (List D)} (ha:pI K t fa):uG K (uf K t) (lq fa):=by
 intro ρ σ H δ st S st' Q l rs e q
 obtain ⟨as,st1,e1,e⟩:=dF e
 split at e
 ·cases e
  refine ha ρ σ H δ st _ _ _ l rs e1 fun x H1 ρ1 m1 l1 r1=>?_
  obtain ⟨v,rfl,r⟩:=r1.one'
  cases r with
  | tup s r =>
   refine ⟨_,rfl,⟨_,s⟩,q _ H1 ρ1 m1 l1 fun ρ2 H2 st2 i m2 l2=>⟨fun h=>?_,fun d h=>?_⟩⟩
   ·obtain ⟨h1,h2⟩:=uF h
    have h2:=Uv.mp h2
    rw [A0] at h1 h2
    exact ⟨_,m2.t _ _ s,by rw [r.length];omega⟩
   ·obtain ⟨h1,h2⟩:=uF h
    obtain ⟨d',hd',rfl⟩:=G3 h2
    obtain ⟨v,hv,rv⟩:=r.got hd'
    refine ⟨⟨_,v,m2.t _ _ s,hv⟩,fun x H3 y=>?_⟩
    obtain ⟨p,z,rfl,hp,rfl,hx⟩:=y
    have:=hx _ (m2.t _ _ s)
    rw [hv] at this
    cases this
    have m3:Mn K ρ2 H2 ρ2 (upd H2 p (.tup [.int (i:Int),v])):=Mn.same (iU.up hp)
    exact ⟨m3,l2.same (iU.up hp),.tup (dW.of p7) (.cons (.int _) (.one ((rv.mn m2).mn m3)))⟩
 ·cases e
def g8 (S:Src) (g:D->aq->Dm aq) (tc:aq->Dm Bool) (te:aq->Dm D):Nat->Nat->List D->aq->Dm (List D)
 | 0,_,_,_,_=>none
 | n + 1,i,ys,δ,st=>if lim ys.length=true then match S.at i st with
  | none=>none
  | some none=>some (ys,st)
  | some (some d)=>bnd (g d δ st) fun δ1 st1=>bnd (tc δ1 st1) fun t st2=>if t=true then bnd (te δ1 st2) fun y st3=>g8 S g tc te n (i + 1) (ys ++ [y]) δ1 st3 else g8 S g tc te n (i + 1) ys δ1 st2
  else none
def oH (n:Nat) (js:List Nat) (δ:aq):aq:=List.replicate n none ++ js.map fun j=>δ.getD j none
def cQ (fi:aq->Dm Src) (n:Nat) (js:List Nat) (g:D->aq->Dm aq) (tc:aq->Dm Bool) (te:aq->Dm D):aq->Dm D:=fun δ st=>bnd (fi δ st) fun S st1=>bnd (g8 S g tc te fuel 0 [] (oH n js δ) st1) fun ys st2=>some (.ref st2.length,st2 ++ [.lst ys])
theorem Rs.comp {ρ:List Addr} {H:Hp} {σ:St} {δ:aq} (h:Rs K ρ H σ δ) (n:Nat) (js:List Nat):Rs K ρ H (ja n js σ) (oH n js δ):=by
 unfold ja oH
 refine ⟨by simp,fun i d hd=>?_⟩
 by_cases hi:i < n
 ·rw [T1 (by simpa using hi),Vg,if_pos hi] at hd
  cases hd
 ·rw [Uc (by simpa using VB hi),TR] at hd
  rw [Uc (by simpa using VB hi),TR]
  simp only [Vl] at hd ⊢
  cases hj:js[i - n]? with
  | none=>rw [hj] at hd;cases hd
  | some j =>
   rw [hj] at hd
   have hd:δ.getD j none=some d:=T5 hd
   rw [T9] at hd
   have hd':δ[j]?=some (some d):=by
    cases hx:δ[j]? with
    | none=>rw [hx] at hd;cases hd
    | some y=>rw [hx] at hd;exact congrArg some hd
   obtain ⟨v,hv,r⟩:=h.2 j d hd'
   exact ⟨v,by show some (σ.getD j none)=_;rw [T9,hv];rfl,r⟩
theorem p4 {wi:TI} {tg:TG} {tc:TT} {te:TE} {fi:aq->Dm Src} {n:Nat} {js:List Nat} {g:D->aq->Dm aq} {c:aq->Dm Bool} {f:aq->Dm D} (hi:uG K wi fi) (hg:wA K tg g) (hc:sL K tc c) (hf:gj K te f):gj K (qz wi n js tg tc te) (cQ fi n js g c f):=by
 intro ρ σ H δ st b st' Q l rs e q
 obtain ⟨S,kK,e0,e⟩:=dF e
 obtain ⟨zs,oS,e9,e⟩:=dF e
 cases e
 refine hi ρ σ H δ st S kK _ l rs e0 fun J H0 ρ0 m0 l0 ok=>?_
 refine ⟨fun i m ys σ1 H1=>∃ ρ1 δ1 st1 ws,Mn K ρ0 H0 ρ1 H1/\Rl K ρ1 H1 st1/\Rs K ρ1 H1 σ1 δ1/\cg K ρ1 H1 ys ws/\g8 S g c f m i ws δ1 st1=some (zs,oS),⟨fuel,ρ0,_,kK,[],.refl,l0,(rs.mn m0).comp n js,.nil,e9⟩,?_⟩
 rintro i m ys σ1 H1 ⟨ρ1,δ1,st1,ws,m1,l1,uE,DR,e1⟩
 cases m with
 | zero=>cases e1
 | succ m =>
  obtain ⟨hstop,hgo⟩:=ok ρ1 H1 st1 i m1 l1
  unfold g8 at e1
  split at e1
  ·next hl =>
   refine ⟨by rw [DR.length];exact GS hl,?_⟩
   split at e1
   ·cases e1
   ·next hs =>
    cases e1
    exact .inl ⟨hstop hs,fun p hp=>q _ _ _ ((m0.trans m1).trans (Mn.new hp)) (l1.newL hp DR) (.ref (newR l1))⟩
   ·next d hs =>
    obtain ⟨δ2,st2,e2,e1⟩:=dF e1
    obtain ⟨t,st3,e3,e1⟩:=dF e1
    obtain ⟨go,sa⟩:=hgo d hs
    refine .inr ⟨go,fun x H2 hy=>?_⟩
    obtain ⟨m2,l2,r2⟩:=sa x H2 hy
    refine hg ρ1 σ1 H2 δ1 st1 x d δ2 st2 _ l2 (uE.mn m2) r2 e2 fun σ4 H4 ρ4 m4 l4 r4=>hc ρ4 σ4 H4 δ2 st2 t st3 _ l4 r4 e3 fun t' H5 ρ5 m5 l5 r5=>?_
    subst r5
    have m6:=(((m1.trans m2).trans m4).trans m5)
    cases t' with
    | true =>
     refine sm ?_
     rw [if_pos rfl] at e1
     obtain ⟨y,G5,e6,e1⟩:=dF e1
     exact hf ρ5 σ4 H5 δ2 st3 y G5 _ l5 (r4.mn m5) e6 fun v H7 ρ7 m7 l7 r7=>⟨m,US m,ρ7,δ2,G5,ws ++ [y],m6.trans m7,l7,r4.mn (m5.trans m7),(DR.mn (((m2.trans m4).trans m5).trans m7)).append (.one r7),e1⟩
    | false =>
     refine sj ?_
     rw [if_neg TX] at e1
     exact ⟨m,US m,ρ5,δ2,st3,ws,m6,l5,r4.mn m5,DR.mn ((m2.trans m4).trans m5),e1⟩
  ·cases e1
def dG:aq->Dm Bool:=fun _ st=>some (true,st)
def fA (n:Nat) (b:aq->Dm Fl):List D->Dm D:=fun ds st=>bnd (b (ds.map some ++ List.replicate (n - ds.length) none) st) fun fl st1=>match fl with
 | .rt d=>some (d,st1)
 | .nx _=>some (.non,st1)
 | _=>none
theorem Rs.start {ρ:List Addr} {H:Hp} {vs:List V} {ds:List D} (r:cg K ρ H vs ds) (N:List Str):Rs K ρ H (start N vs) (ds.map some ++ List.replicate (N.length - ds.length) none):=by
 unfold L2.start
 rw [r.length]
 refine ⟨by simp [r.length],fun i d hd=>?_⟩
 by_cases hi:i < ds.length
 ·rw [T1 (by simpa using hi),TR] at hd
  rw [T1 (by rw [TJ,r.length];exact hi),TR]
  cases hx:ds[i]? with
  | none=>rw [hx] at hd;cases hd
  | some y =>
   rw [hx] at hd
   cases hd
   obtain ⟨v,hv,rv⟩:=r.got hx
   exact ⟨v,by rw [hv];rfl,rv⟩
 ·rw [Uc (by simpa using VB hi),Vg] at hd
  split at hd <;> cases hd
theorem gn {N:List Str} {k n:Nat} {t:TS} {b:aq->Dm Fl} {vs:List V} {H:Hp} {Q:VK} {E:XK} (hb:oe K t b) (hn:N.length=n) (h:bI K k (fA n b) vs H Q E):t { nx:=fun _ H'=>Q .non H',rt:=Q } (start N vs) H:=by
 obtain ⟨hk,ρ,st,ds,d,st',l,r,e,q⟩:=h
 subst hn
 obtain ⟨fl,st1,e1,e⟩:=dF e
 refine hb ρ _ H _ st fl st1 _ l (Rs.start r N) e1 ?_
 cases fl with
 | rt v=>cases e;exact q
 | nx δ=>cases e;exact fun σ' H' ρ' m l' r'=>q .non H' ρ' m l' .non
 | bk δ=>cases e
 | ct δ=>cases e
end
section
variable {X:Cx} {K:Zfr}
theorem Pb {N:List Str} {qU:Scope} {cells:List (Str×Addr)} {C:Addr} {fp:List Addr} {s:Shared} {H:Hp} {qV:Scope} {own fr:List Str} (h:qx (qw qU X.env.scope) qV own fr):qx (aP X N qU cells C fp s H).env.scope qV own fr:=h
theorem qW:sL K (fun _ H Q=>Q true H) dG:=by
 intro ρ σ H δ st b st' Q l rs e q
 cases e
 exact q _ H ρ .refl l rfl
end
def uH (K:Zfr):Sp:=fun vs H Q _=>∃ (a:Addr) (ns:List Int),vs=[.ref a]/\zU K H a (ns.map V.int)/\ns.length<=63/\∀ H',Q (.bl true) H'
theorem wG {P:Program} {w:World} {K:Zfr} {mg:Str->Option Value} {base:Heap} {k:Nat} {f:Addr} {fd:FuncData} {ps:List Str} {F:List D->Dm D} (G:aE P w K mg base bE k f fd ps (bI K 1 F))
  (h:∀ ns:List Int,ns.length<=63->∃ st',F [.ref 0] [.oQ (ns.map D.int)]=some (.bl true,st')):aE P w K mg base bE k f fd ps (uH K):=by
 refine G.imp fun vs H Q E hs=>?_
 obtain ⟨a,ns,rfl,hS,hn,q⟩:=hs
 obtain ⟨st',e⟩:=h ns hn
 have one:∀ i (b:Addr),([a]:List Addr)[i]?=some b->i=0/\b=a:=fun i b h=>by
  cases i with
  | zero=>exact ⟨rfl,(T5 h).symm⟩
  | succ i=>simp at h
 refine ⟨rfl,[a],[.oQ (ns.map D.int)],[.ref 0],.bl true,st',⟨rfl,fun i j b o o' h1 h2 _ _ _ _=>by rw [(one i b h1).1,(one j b h2).1],fun i b o h1 h2=>?_⟩,.one (.ref rfl),e,fun v H' ρ' m l r=>by cases r;exact q H'⟩
 obtain ⟨rfl,rfl⟩:=one i b h1
 cases (T5 h2)
 exact ⟨ns.map V.int,hS,cg.ints ns⟩
def Wp {α:Type} (m:Option (α×Store)) (Q:α->Store->Prop):Prop:=∃ a st,m=some (a,st)/\Q a st
section
variable {α β:Type} {Q Q':α->Store->Prop} {st:Store} {δ:aq}
theorem bw {m:Option (α×Store)} (h:Wp m Q) (hq:∀ a st,Q a st->Q' a st):Wp m Q':=let ⟨a,st,e,q⟩:=h;⟨a,st,e,hq a st q⟩
theorem bC {a:α}:Wp (some (a,st)) Q↔Q a st:=⟨fun ⟨_,_,e,q⟩=>by cases e;exact q,fun q=>⟨a,st,rfl,q⟩⟩
theorem eV:Wp (none:Option (α×Store)) Q↔False:=⟨fun ⟨_,_,e,_⟩=>(by cases e),False.elim⟩
theorem cN {R:β->Store->Prop} {m:Option (α×Store)} {k:α->Dm β}:Wp (bnd m k) R↔Wp m fun a st1=>Wp (k a st1) R:=by
 cases m with
 | none=>exact ⟨fun ⟨_,_,e,_⟩=>(by cases e),fun ⟨_,_,e,_⟩=>(by cases e)⟩
 | some p=>exact ⟨fun h=>⟨p.1,p.2,rfl,h⟩,fun ⟨a,s,e,h⟩=>by cases e;exact h⟩
theorem ng {c:Prop} [Decidable c] {m n:Option (α×Store)}:Wp (if c then m else n) Q↔if c then Wp m Q else Wp n Q:=by split <;> exact Iff.rfl
end
section
variable {st:Store} {δ:aq} {Q:D->Store->Prop}
theorem wH {i:Nat}:Wp (ag i δ st) Q↔∃ d,δ[i]?=some (some d)/\Q d st:=by
 unfold ag
 split
 ·next d hd=>rw [bC];exact ⟨fun h=>⟨d,hd,h⟩,fun ⟨e,he,h⟩=>by rw [hd] at he;cases he;exact h⟩
 ·next h=>rw [eV];exact ⟨False.elim,fun ⟨e,he,_⟩=>h e he⟩
theorem G6 {d:D}:Wp (fC d δ st) Q↔Q d st:=bC
theorem A1 {g:D->D->Dm D} {fa fb:aq->Dm D}:Wp (ay g fa fb δ st) Q↔Wp (fa δ st) fun a st1=>Wp (fb δ st1) fun b st2=>Wp (g a b st2) Q:=by
 unfold ay;rw [cN];simp only [cN]
theorem A2 {g:D->Dm D} {fa:aq->Dm D}:Wp (qO g fa δ st) Q↔Wp (fa δ st) fun a st1=>Wp (g a st1) Q:=cN
theorem A3 {g:List D->Dm D} {fa:aq->Dm (List D)}:Wp (aN g fa δ st) Q↔Wp (fa δ st) fun a st1=>Wp (g a st1) Q:=cN
theorem wI {R:List D->Store->Prop}:Wp (ah δ st) R↔R [] st:=bC
theorem Pc {R:List D->Store->Prop} {fa:aq->Dm D} {fr:aq->Dm (List D)}:Wp (ae fa fr δ st) R↔Wp (fa δ st) fun a st1=>Wp (fr δ st1) fun r st2=>R (a :: r) st2:=by
 unfold ae;rw [cN];simp only [cN,bC]
theorem wJ {fa:aq->Dm (List D)}:Wp (a7 fa δ st) Q↔Wp (fa δ st) fun as st1=>lim as.length=true/\Q (.tup as) st1:=by
 unfold a7;rw [cN];simp only [ng,bC,eV]
 constructor <;> exact fun h=>bw h fun a s h=>by first | (split at h;exact ⟨by assumption,h⟩;exact h.elim) | (rw [if_pos h.1];exact h.2)
theorem wK {fa:aq->Dm (List D)}:Wp (b9 fa δ st) Q↔Wp (fa δ st) fun as st1=>lim as.length=true/\Q (.ref st1.length) (st1 ++ [.lst as]):=by
 unfold b9;rw [cN];simp only [ng,bC,eV]
 constructor <;> exact fun h=>bw h fun a s h=>by first | (split at h;exact ⟨by assumption,h⟩;exact h.elim) | (rw [if_pos h.1];exact h.2)
theorem Pd {R:Bool->Store->Prop} {fa:aq->Dm D}:Wp (aH fa δ st) R↔Wp (fa δ st) fun a st1=>∃ b,a=.bl b/\R b st1:=by
 unfold aH;rw [cN]
 constructor <;> refine fun h=>bw h fun a s h=>?_
 ·cases a <;> simp only [bC,eV] at h
  exact ⟨_,rfl,h⟩
 ·obtain ⟨b,rfl,h⟩:=h
  exact bC.mpr h
theorem wL {R:Bool->Store->Prop} {fa:aq->Dm Bool}:Wp (AK fa δ st) R↔Wp (fa δ st) fun a st1=>R (!a) st1:=by
 unfold AK;rw [cN];simp only [bC]
theorem wM {R:Bool->Store->Prop} {fa fb:aq->Dm Bool}:Wp (pY fa fb δ st) R↔Wp (fa δ st) fun a st1=>if a=true then Wp (fb δ st1) R else R false st1:=by
 unfold pY;rw [cN];simp only [ng,bC]
theorem A4 {R:Bool->Store->Prop} {fa fb:aq->Dm Bool}:Wp (Kt fa fb δ st) R↔Wp (fa δ st) fun a st1=>if a=true then R true st1 else Wp (fb δ st1) R:=by
 unfold Kt;rw [cN];simp only [ng,bC]
theorem uI {α:Type} {R:α->Store->Prop} {c:aq->Dm Bool} {fa fb:aq->Dm α}:Wp (gF c fa fb δ st) R↔Wp (c δ st) fun a st1=>if a=true then Wp (fa δ st1) R else Wp (fb δ st1) R:=by
 unfold gF;rw [cN];simp only [ng]
theorem Pe {fa fb:aq->Dm D}:Wp (uw fa fb δ st) Q↔Wp (aH fa δ st) fun a st1=>if a=true then Wp (fb δ st1) Q else Q (.bl false) st1:=by
 unfold uw;rw [cN];simp only [ng,bC]
theorem wN {fa fb:aq->Dm D}:Wp (AL fa fb δ st) Q↔Wp (aH fa δ st) fun a st1=>if a=true then Q (.bl true) st1 else Wp (fb δ st1) Q:=by
 unfold AL;rw [cN];simp only [ng,bC]
theorem Pf {fa:aq->Dm D}:Wp (ux fa δ st) Q↔Wp (aH fa δ st) fun a st1=>Q (.bl (!a)) st1:=by
 unfold ux;rw [cN];simp only [bC]
theorem Pg {R:Option Int->Store->Prop}:Wp (kJ δ st) R↔R none st:=bC
theorem Ph {R:Option Int->Store->Prop} {fa:aq->Dm D}:Wp (m8 fa δ st) R↔Wp (fa δ st) fun a st1=>∃ i,a=.int i/\R (some i) st1:=by
 unfold m8;rw [cN]
 constructor <;> refine fun h=>bw h fun a s h=>?_
 ·cases a <;> simp only [bC,eV] at h
  exact ⟨_,rfl,h⟩
 ·obtain ⟨b,rfl,h⟩:=h
  exact bC.mpr h
theorem A5 {g:D->Option Int->Option Int->Dm D} {fa:aq->Dm D} {fl fh:aq->Dm (Option Int)}:Wp (yA g fa fl fh δ st) Q↔Wp (fa δ st) fun a st1=>Wp (fl δ st1) fun lo st2=>Wp (fh δ st2) fun hi st3=>Wp (g a lo hi st3) Q:=by
 unfold yA;rw [cN];simp only [cN]
theorem A6 {T:String} {g:D->List D->Dm D} {fo:aq->Dm D} {fa:aq->Dm (List D)}:Wp (gZ T g fo fa δ st) Q↔Wp (fo δ st) fun o st1=>rP T st1 o=true/\Wp (fa δ st1) fun as st2=>Wp (g o as st2) Q:=by
 unfold gZ;rw [cN];simp only [ng,cN,eV]
 constructor <;> exact fun h=>bw h fun a s h=>by first | (split at h;exact ⟨by assumption,h⟩;exact h.elim) | (rw [if_pos h.1];exact h.2)
variable {i j:Int} {ds es:List D} {k:Nat}
theorem wO:Wp (cM (.int i) (.int j) st) Q↔Q (.int (i + j)) st:=bC
theorem wQ:Wp (mO (.int i) (.int j) st) Q↔Q (.int (i - j)) st:=bC
theorem A7:Wp (uA (.int i) (.int j) st) Q↔Q (.bl (decide (i < j))) st:=bC
theorem A8:Wp (O2 (.int i) (.int j) st) Q↔Q (.bl (decide (i<=j))) st:=bC
theorem A9:Wp (wm (.int i) (.int j) st) Q↔Q (.bl (decide (j < i))) st:=bC
theorem Ba:Wp (GY (.int i) (.int j) st) Q↔Q (.bl (decide (j<=i))) st:=bC
theorem wR:Wp (lL (.int i) st) Q↔Q (.int (-i)) st:=bC
theorem Bb {c:Int->Int->Bool} {h:Int->Int->D}:Wp (uz c h (.int i) (.int j) st) Q↔c i j=true/\Q (h i j) st:=by
 show Wp (if c i j=true then some (h i j,st) else none) Q↔_
 rw [ng,bC,eV]
 split
 ·next h=>exact ⟨fun q=>⟨h,q⟩,fun q=>q.2⟩
 ·next h=>exact ⟨False.elim,fun q=>h q.1⟩
theorem wU:Wp (mB (.int i) (.int j) st) Q↔((-18446744073709551616 < i/\i < 18446744073709551616)\/(-18446744073709551616 < j/\j < 18446744073709551616))/\Q (.int (i * j)) st:=by
 unfold mB;rw [Bb,VJ,decide_eq_true_eq,decide_eq_true_eq]
theorem Pj:Wp (m9 (.int i) (.int j) st) Q↔(0 < j/\j < 1073741824)/\Q (.int (i / j)) st:=by unfold m9;rw [Bb,decide_eq_true_eq]
theorem wV:Wp (jd (.int i) (.int j) st) Q↔0 < j/\Q (.int (i % j)) st:=by unfold jd;rw [Bb,decide_eq_true_eq]
theorem wW:Wp (qP (.int i) (.int j) st) Q↔(0<=j/\j<=1000000/\i.natAbs < 18446744073709551616)/\Q (.int (i ^ j.toNat)) st:=by unfold qP;rw [Bb,decide_eq_true_eq]
theorem wX {neg:Bool}:Wp (jY neg (.int i) (.int j) st) Q↔Q (.bl (if neg then !decide (i=j) else decide (i=j))) st:=by
 have e:decide (V.int i=V.int j)=decide (i=j):=by
  by_cases h:i=j
  ·subst h;simp
  ·simp [h]
 show Wp (if oY (V.int i) (V.int j)=true then some (D.bl (if neg then !decide (V.int i=V.int j) else decide (V.int i=V.int j)),st) else none) Q↔_
 rw [if_pos (show oY _ _=true from rfl),bC,e]
theorem wY {neg:Bool} {x y:Str}:Wp (jY neg (.str x) (.str y) st) Q↔Q (.bl (if neg then !decide (x=y) else decide (x=y))) st:=by
 have e:decide (V.str x=V.str y)=decide (x=y):=by
  by_cases h:x=y
  ·subst h;simp
  ·simp [h]
 show Wp (if oY (V.str x) (V.str y)=true then some (D.bl (if neg then !decide (V.str x=V.str y) else decide (V.str x=V.str y)),st) else none) Q↔_
 rw [if_pos (show oY _ _=true from rfl),bC,e]
theorem KL:Wp (aI (.tup ds) (.int i) st) Q↔∃ d,c5 ds i=some d/\Q d st:=by
 show Wp (match c5 ds i with | some d=>some (d,st) | none=>none) Q↔_
 cases c5 ds i with
 | none=>rw [eV];exact ⟨False.elim,fun ⟨_,e,_⟩=>by cases e⟩
 | some d=>rw [bC];exact ⟨fun q=>⟨d,rfl,q⟩,fun ⟨_,e,q⟩=>by cases e;exact q⟩
theorem wZ:Wp (bQ (.ref k) (.int i) st) Q↔∃ ds d,items st k=some ds/\c5 ds i=some d/\Q d st:=by
 show Wp (match items st k with | some ds=>(match c5 ds i with | some d=>some (d,st) | none=>none) | none=>none) Q↔_
 cases items st k with
 | none=>rw [eV];exact ⟨False.elim,fun ⟨_,_,e,_⟩=>by cases e⟩
 | some ds =>
  show Wp (match c5 ds i with | some d=>some (d,st) | none=>none) Q↔_
  cases h:c5 ds i with
  | none=>rw [eV];exact ⟨False.elim,fun ⟨_,_,e,e',_⟩=>by cases e;rw [h] at e';cases e'⟩
  | some d=>rw [bC];exact ⟨fun q=>⟨ds,d,rfl,h,q⟩,fun ⟨_,_,e,e',q⟩=>by cases e;rw [h] at e';cases e';exact q⟩
theorem w6 {lo hi:Option Int}:Wp (wu (.tup ds) lo hi st) Q↔Q (.tup (cutD ds lo hi)) st:=bC
theorem xa {lo hi:Option Int}:Wp (qQ (.ref k) lo hi st) Q↔∃ ds,items st k=some ds/\Q (.ref st.length) (st ++ [.lst (cutD ds lo hi)]):=by
 show Wp (match items st k with | some ds=>some (D.ref st.length,st ++ [O.lst (cutD ds lo hi)]) | none=>none) Q↔_
 cases items st k with
 | none=>rw [eV];exact ⟨False.elim,fun ⟨_,e,_⟩=>by cases e⟩
 | some ds=>rw [bC];exact ⟨fun q=>⟨ds,rfl,q⟩,fun ⟨_,e,q⟩=>by cases e;exact q⟩
theorem Pk:Wp (eQ (.tup ds) (.tup es) st) Q↔lim (ds.length + es.length)=true/\Q (.tup (ds ++ es)) st:=by
 show Wp (if lim (ds.length + es.length)=true then some (D.tup (ds ++ es),st) else none) Q↔_
 rw [ng,bC,eV]
 split
 ·next h=>exact ⟨fun q=>⟨h,q⟩,fun q=>q.2⟩
 ·next h=>exact ⟨False.elim,fun q=>h q.1⟩
theorem xb {a b:Nat}:Wp (mC (.ref a) (.ref b) st) Q↔∃ xs ys,own st a=some xs/\own st b=some ys/\lim (xs.length + ys.length)=true/\Q (.ref st.length) (st ++ [.lst (xs ++ ys)]):=by
 show Wp (match own st a,own st b with | some xs,some ys=>if lim (xs.length + ys.length)=true then some (D.ref st.length,st ++ [O.lst (xs ++ ys)]) else none | _,_=>none) Q↔_
 cases ha:own st a <;> cases hb:own st b
 ·simp only [eV];exact ⟨False.elim,fun ⟨_,_,e,_⟩=>by cases e⟩
 ·simp only [eV];exact ⟨False.elim,fun ⟨_,_,e,_⟩=>by cases e⟩
 ·simp only [eV];exact ⟨False.elim,fun ⟨_,_,_,e,_⟩=>by cases e⟩
 ·next xs ys =>
  show Wp (if lim (xs.length + ys.length)=true then some (D.ref st.length,st ++ [O.lst (xs ++ ys)]) else none) Q↔_
  rw [ng,bC,eV]
  split
  ·next h=>exact ⟨fun q=>⟨_,_,rfl,rfl,h,q⟩,fun ⟨_,_,e,e',_,q⟩=>by cases e;cases e';exact q⟩
  ·next h=>exact ⟨False.elim,fun ⟨_,_,e,e',q,_⟩=>by cases e;cases e';exact h q⟩
theorem xc {a:D}:Wp (cI [a] st) Q↔∃ ds,cz st a=some ds/\Q (.int ds.length) st:=by
 show Wp (match cz st a with | some ds=>some (D.int ds.length,st) | none=>none) Q↔_
 cases cz st a with
 | none=>rw [eV];exact ⟨False.elim,fun ⟨_,e,_⟩=>by cases e⟩
 | some ds=>rw [bC];exact ⟨fun q=>⟨ds,rfl,q⟩,fun ⟨_,e,q⟩=>by cases e;exact q⟩
theorem Pm {a:D}:Wp (nc [a] st) Q↔∃ ds,cz st a=some ds/\Q (.ref st.length) (st ++ [.lst ds]):=by
 show Wp (match cz st a with | some ds=>some (D.ref st.length,st ++ [O.lst ds]) | none=>none) Q↔_
 cases cz st a with
 | none=>rw [eV];exact ⟨False.elim,fun ⟨_,e,_⟩=>by cases e⟩
 | some ds=>rw [bC];exact ⟨fun q=>⟨ds,rfl,q⟩,fun ⟨_,e,q⟩=>by cases e;exact q⟩
theorem Pn {a:D}:Wp (bB [a] st) Q↔∃ ds,cz st a=some ds/\Q (.tup ds) st:=by
 show Wp (match cz st a with | some ds=>some (D.tup ds,st) | none=>none) Q↔_
 cases cz st a with
 | none=>rw [eV];exact ⟨False.elim,fun ⟨_,e,_⟩=>by cases e⟩
 | some ds=>rw [bC];exact ⟨fun q=>⟨ds,rfl,q⟩,fun ⟨_,e,q⟩=>by cases e;exact q⟩
theorem Po:Wp (pJ [.int i,.int j] st) Q↔Q (.int (if j > i then j else i)) st:=bC
theorem Pp:Wp (pK [.int i,.int j] st) Q↔Q (.int (if j < i then j else i)) st:=bC
theorem Pq:Wp (mE [.int i] st) Q↔Q (.int i) st:=bC
theorem Pr {b:Bool}:Wp (mE [.bl b] st) Q↔Q (.int (if b then 1 else 0)) st:=bC
theorem Pt:Wp (gY [.int j] st) Q↔Q (.ref st.length) (st ++ [.iY 0 j]):=bC
theorem Pu:Wp (d6 [.int i,.int j] st) Q↔Q (.ref st.length) (st ++ [.iY i j]):=bC
theorem Pw {y:D}:Wp (aO (.ref k) [y] st) Q↔∃ xs,own st k=some xs/\lim xs.length=true/\Q .non (st.set k (.lst (xs ++ [y]))):=by
 show Wp (match own st k with | some xs=>if lim xs.length=true then some (D.non,st.set k (O.lst (xs ++ [y]))) else none | none=>none) Q↔_
 cases own st k with
 | none=>rw [eV];exact ⟨False.elim,fun ⟨_,e,_⟩=>by cases e⟩
 | some xs =>
  show Wp (if lim xs.length=true then some (D.non,st.set k (O.lst (xs ++ [y]))) else none) Q↔_
  rw [ng,bC,eV]
  split
  ·next h=>exact ⟨fun q=>⟨_,rfl,h,q⟩,fun ⟨_,e,_,q⟩=>by cases e;exact q⟩
  ·next h=>exact ⟨False.elim,fun ⟨_,e,q,_⟩=>by cases e;exact h q⟩
end
def Ws (m:Option (Fl×Store)) (N B C:aq->Store->Prop) (R:D->Store->Prop):Prop:=Wp m fun fl st=>match fl with
 | .nx δ=>N δ st
 | .bk δ=>B δ st
 | .ct δ=>C δ st
 | .rt d=>R d st
section
variable {st:Store} {δ:aq} {N B C:aq->Store->Prop} {R:D->Store->Prop} {f g:aq->Dm Fl} {e:aq->Dm D}
theorem xf {m:Option (Fl×Store)} {N':aq->Store->Prop} (h:Ws m N B C R) (hn:∀ δ st,N δ st->N' δ st):Ws m N' B C R:=bw h fun fl st q=>by
 cases fl with
 | nx δ=>exact hn δ st q
 | bk δ=>exact q
 | ct δ=>exact q
 | rt d=>exact q
theorem aV (h:Ws (f δ st) (fun δ1 st1=>Ws (g δ1 st1) N B C R) B C R):Ws (az f g δ st) N B C R:=by
 unfold Ws az
 rw [cN]
 refine bw h fun fl st1 q=>?_
 cases fl with
 | nx δ1=>exact q
 | bk δ1=>exact bC.mpr q
 | ct δ1=>exact bC.mpr q
 | rt d=>exact bC.mpr q
theorem kE (h:N δ st):Ws (bD δ st) N B C R:=bC.mpr h
theorem qd {t:D->aq->Dm aq} (h:Wp (e δ st) fun d st1=>Wp (t d δ st1) N):Ws (aG e t δ st) N B C R:=by
 unfold Ws aG
 rw [cN]
 refine bw h fun d st1 q=>?_
 rw [cN]
 exact bw q fun δ1 st2 q=>bC.mpr q
theorem bR {i:Nat} (h:Wp (e δ st) fun d st1=>N (δ.set i (some d)) st1):Ws (aG e (hName i) δ st) N B C R:=qd (bw h fun d st1 q=>bC.mpr q)
theorem nP (h:Wp (e δ st) fun _ st1=>N δ st1):Ws (bN e δ st) N B C R:=by
 unfold Ws bN
 rw [cN]
 exact bw h fun d st1 q=>bC.mpr q
theorem dY (h:Wp (e δ st) R):Ws (bg e δ st) N B C R:=by
 unfold Ws bg
 rw [cN]
 exact bw h fun d st1 q=>bC.mpr q
theorem i6 {c:aq->Dm Bool} (h:Wp (c δ st) fun b st1=>(b=true->Ws (f δ st1) N B C R)/\(b=false->Ws (g δ st1) N B C R)):Ws (gF c f g δ st) N B C R:=by
 unfold Ws
 rw [uI]
 refine bw h fun b st1 q=>?_
 cases b with
 | true=>rw [if_pos rfl];exact q.1 rfl
 | false=>rw [if_neg TX];exact q.2 rfl
theorem KN {i j:Nat} {fa:aq->Dm (List D)} (h:Wp (fa δ st) fun as st1=>∃ a b,as=[a,b]/\N ((δ.set i (some a)).set j (some b)) st1):Ws (qT i j fa δ st) N B C R:=by
 unfold Ws qT
 rw [cN]
 refine bw h fun as st1 q=>?_
 obtain ⟨a,b,rfl,q⟩:=q
 exact bC.mpr q
theorem fF {n:Nat} {b:aq->Dm Fl} {ds:List D} (h:Ws (b (ds.map some ++ List.replicate (n - ds.length) none) st) (fun _ st1=>R .non st1) (fun _ _=>False) (fun _ _=>False) R):Wp (fA n b ds st) R:=by
 unfold fA
 rw [cN]
 refine bw h fun fl st1 q=>?_
 cases fl with
 | nx δ1=>exact bC.mpr q
 | bk δ1=>exact q.elim
 | ct δ1=>exact q.elim
 | rt d=>exact bC.mpr q
theorem xg {c:aq->Dm Bool} {b:aq->Dm Fl} (W:Nat->aq->Store->Prop) (m:Nat) (hm:m < fuel) (h0:W m δ st)
  (step:∀ m δ st,W m δ st->Wp (c δ st) fun t st1=>(t=true->Ws (b δ st1) (fun δ2 st2=>∃ m',m' < m/\W m' δ2 st2) N (fun δ2 st2=>∃ m',m' < m/\W m' δ2 st2) R)/\(t=false->N δ st1)):Ws (g7 c b δ st) N B C R:=by
 have key:∀ (k m:Nat) (δ:aq) (st:Store),m < k->W m δ st->Ws (eU c b k δ st) N B C R:=by
  intro k
  induction k with
  | zero=>intro m δ st h;exact absurd h (UE _)
  | succ k ih =>
   intro m δ st hk hw
   unfold Ws eU
   rw [cN]
   refine bw (step m δ st hw) fun t st1 q=>?_
   cases t with
   | false=>rw [if_neg TX];exact bC.mpr (q.2 rfl)
   | true =>
    rw [if_pos rfl,cN]
    refine bw (q.1 rfl) fun fl st2 q=>?_
    cases fl with
    | nx δ2=>obtain ⟨m',hm',w⟩:=q;exact ih m' δ2 st2 (by omega) w
    | ct δ2=>obtain ⟨m',hm',w⟩:=q;exact ih m' δ2 st2 (by omega) w
    | bk δ2=>exact bC.mpr q
    | rt d=>exact bC.mpr q
 exact key fuel m δ st hm h0
theorem kL {fi:aq->Dm Src} {t:D->aq->Dm aq} {b:aq->Dm Fl} (ds:List D) (Pv:Nat->aq->Store->Prop) (hi:Wp (fi δ st) fun S st1=>S=.fix ds/\Pv 0 δ st1) (hl:ds.length < 100000)
  (step:∀ i d δ st,ds[i]?=some d->Pv i δ st->Wp (t d δ st) fun δ1 st1=>Ws (b δ1 st1) (Pv (i + 1)) N (Pv (i + 1)) R) (fin:∀ δ st,Pv ds.length δ st->N δ st):Ws (cu fi t b δ st) N B C R:=by
 unfold Ws cu
 rw [cN]
 refine bw hi fun S kK q=>?_
 obtain ⟨rfl,h0⟩:=q
 have key:∀ (k i:Nat) (δ:aq) (st:Store),i<=ds.length->ds.length - i < k->Pv i δ st->Ws (gk (.fix ds) t b k i δ st) N B C R:=by
  intro k
  induction k with
  | zero=>intro i δ st _ h;exact absurd h (UE _)
  | succ k ih =>
   intro i δ st hi hk hw
   unfold Ws gk
   have e:Src.at (.fix ds) i st=some ds[i]?:=by show (if i<=ds.length then some ds[i]? else none)=_;rw [if_pos hi]
   rw [e]
   cases hd:ds[i]? with
   | none =>
    have:=Uv.mp hd
    have e:i=ds.length:=by omega
    exact bC.mpr (fin δ st (e ▸ hw))
   | some d =>
    have hlt:=(TK.mp hd).1
    show Wp (bnd _ _) _
    rw [cN]
    refine bw (step i d δ st hd hw) fun δ1 st1 q=>?_
    rw [cN]
    refine bw q fun fl st2 q=>?_
    cases fl with
    | nx δ2=>exact ih (i + 1) δ2 st2 (by omega) (by omega) q
    | ct δ2=>exact ih (i + 1) δ2 st2 (by omega) (by omega) q
    | bk δ2=>exact bC.mpr q
    | rt d=>exact bC.mpr q
 exact key fuel 0 δ kK (Uw _) (VX (by omega) (show 100000 < fuel by decide)) h0
theorem G7 {fi:aq->Dm Src} {t:D->aq->Dm aq} {b:aq->Dm Fl} (ds:List D) (r:Nat) (Pv:Nat->aq->Store->Prop) (hi:Wp (fi δ st) fun S st1=>S=.live r/\Pv 0 δ st1) (hl:ds.length < 100000) (hk:∀ i δ st,Pv i δ st->items st r=some ds)
  (step:∀ i d δ st,ds[i]?=some d->Pv i δ st->Wp (t d δ st) fun δ1 st1=>Ws (b δ1 st1) (Pv (i + 1)) N (Pv (i + 1)) R) (fin:∀ δ st,Pv ds.length δ st->N δ st):Ws (cu fi t b δ st) N B C R:=by
 unfold Ws cu
 rw [cN]
 refine bw hi fun S kK q=>?_
 obtain ⟨rfl,h0⟩:=q
 have key:∀ (k i:Nat) (δ:aq) (st:Store),i<=ds.length->ds.length - i < k->Pv i δ st->Ws (gk (.live r) t b k i δ st) N B C R:=by
  intro k
  induction k with
  | zero=>intro i δ st _ h;exact absurd h (UE _)
  | succ k ih =>
   intro i δ st hi hk' hw
   unfold Ws gk
   have e:Src.at (.live r) i st=some ds[i]?:=by show (items st r).map _=_;rw [hk i δ st hw];rfl
   rw [e]
   cases hd:ds[i]? with
   | none =>
    have:=Uv.mp hd
    have e:i=ds.length:=by omega
    exact bC.mpr (fin δ st (e ▸ hw))
   | some d =>
    have hlt:=(TK.mp hd).1
    show Wp (bnd _ _) _
    rw [cN]
    refine bw (step i d δ st hd hw) fun δ1 st1 q=>?_
    rw [cN]
    refine bw q fun fl st2 q=>?_
    cases fl with
    | nx δ2=>exact ih (i + 1) δ2 st2 (by omega) (by omega) q
    | ct δ2=>exact ih (i + 1) δ2 st2 (by omega) (by omega) q
    | bk δ2=>exact bC.mpr q
    | rt d=>exact bC.mpr q
 exact key fuel 0 δ kK (Uw _) (VX (by omega) (show 100000 < fuel by decide)) h0
theorem G8 {fi:aq->Dm Src} {n:Nat} {js:List Nat} {t:D->aq->Dm aq} {c:aq->Dm Bool} {f:aq->Dm D} {Q:D->Store->Prop} (ds:List D) (Pv:Nat->List D->aq->Store->Prop)
  (hi:Wp (fi δ st) fun S st1=>(∀ i ys δ st,i<=ds.length->Pv i ys δ st->S.at i st=some ds[i]?)/\Pv 0 [] (oH n js δ) st1) (hl:ds.length < 100000) (hy:∀ i ys δ st,Pv i ys δ st->ys.length<=i)
  (step:∀ i d ys δ st,ds[i]?=some d->Pv i ys δ st->Wp (t d δ st) fun δ1 st1=>Wp (c δ1 st1) fun b st2=>(b=true->Wp (f δ1 st2) fun y st3=>Pv (i + 1) (ys ++ [y]) δ1 st3)/\(b=false->Pv (i + 1) ys δ1 st2))
  (fin:∀ ys δ st,Pv ds.length ys δ st->Q (.ref st.length) (st ++ [.lst ys])):Wp (cQ fi n js t c f δ st) Q:=by
 unfold cQ
 rw [cN]
 refine bw hi fun S kK q=>?_
 obtain ⟨hS,h0⟩:=q
 have key:∀ (k i:Nat) (ys:List D) (δ:aq) (st:Store),i<=ds.length->ds.length - i < k->Pv i ys δ st->Wp (g8 S t c f k i ys δ st) fun zs oS=>∃ δ9,Pv ds.length zs δ9 oS:=by
  intro k
  induction k with
  | zero=>intro i ys δ st _ h;exact absurd h (UE _)
  | succ k ih =>
   intro i ys δ st hi hk' hw
   unfold g8
   have hlim:lim ys.length=true:=Nat.ble_eq_true_of_le (by have:=hy i ys δ st hw;omega)
   rw [if_pos hlim,hS i ys δ st hi hw]
   cases hd:ds[i]? with
   | none =>
    have:=Uv.mp hd
    have e:i=ds.length:=by omega
    exact bC.mpr ⟨δ,e ▸ hw⟩
   | some d =>
    have hlt:=(TK.mp hd).1
    show Wp (bnd _ _) _
    rw [cN]
    refine bw (step i d ys δ st hd hw) fun δ1 st1 q=>?_
    rw [cN]
    refine bw q fun b st2 q=>?_
    cases b with
    | true =>
     rw [if_pos rfl,cN]
     exact bw (q.1 rfl) fun y st3 q=>ih (i + 1) _ δ1 st3 (by omega) (by omega) q
    | false =>
     rw [if_neg TX]
     exact ih (i + 1) ys δ1 st2 (by omega) (by omega) (q.2 rfl)
 rw [cN]
 exact bw (key fuel 0 [] _ kK (Uw _) (VX (by omega) (show 100000 < fuel by decide)) h0) fun zs oS ⟨δ9,q⟩=>bC.mpr (fin zs δ9 oS q)
end
def keyOf:D->Option Key
 | .int i=>some (.inl i)
 | .str x=>some (.inr x)
 | _=>none
def jf (st:Store):D->Option (List (Key×D))
 | .ref i=>match st[i]? with
  | some (.dct kvs)=>some kvs
  | _=>none
 | _=>none
def c4 (kvs:List (Key×D)) (k:Key):Option D:=(kvs.find? fun kv=>decide (kv.1=k)).map (·.2)
def putD (kvs:List (Key×D)) (k:Key) (v:D):List (Key×D) :=
 if (kvs.any fun kv=>decide (kv.1=k))=true then kvs.map (fun kv=>if kv.1=k then (kv.1,v) else kv) else kvs ++ [(k,v)]
section
variable {K:Zfr} {ρ:List Addr} {H:Hp} {st:Store}
theorem yl {x:V} {y:D} {k:Key} (r:Rp K ρ H x y) (h:keyOf y=some k):x=kV k:=by
 cases r <;> first | (cases h;rfl) | cases h
theorem KO {x:V} {a:D} {kvs:List (Key×D)} (l:Rl K ρ H st) (r:Rp K ρ H x a) (h:jf st a=some kvs):∃ p i ws,x=.ref p/\a=.ref i/\ρ[i]?=some p/\st[i]?=some (.dct kvs)/\H p=some (.dK ws)/\Rk K ρ H ws kvs:=by
 cases r <;> first | (cases h;done) | skip
 next hi =>
  simp only [jf] at h
  split at h
  ·next kvs' hs =>
   cases h
   obtain ⟨ws,e,r⟩:=l.obj _ _ _ hi hs
   exact ⟨_,_,ws,rfl,rfl,hi,hs,e,r⟩
  ·cases h
theorem Rk.val {ws:List (Key×V)} {kvs:List (Key×D)} (r:Rk K ρ H ws kvs) (k:Key):(∀ d,c4 kvs k=some d->∃ v,j8 ws k=some v/\Rp K ρ H v d)/\(j8 ws k).isSome=(c4 kvs k).isSome:=by
 induction r with
 | nil=>exact ⟨fun d h=>(by cases h),rfl⟩
 | @cons p q ps qs h t ih =>
  obtain ⟨h1,h2⟩:=h
  unfold c4 j8 at ih ⊢
  rw [UO,UO]
  by_cases e:p.1=k
  ·rw [decide_eq_true e,decide_eq_true (h1 ▸ e)]
   exact ⟨fun d hd=>by cases hd;exact ⟨_,rfl,h2⟩,rfl⟩
  ·rw [decide_eq_false e,decide_eq_false (h1 ▸ e)]
   exact ih
theorem Rk.app {ws yF:List (Key×V)} {kvs kvs':List (Key×D)} (r:Rk K ρ H ws kvs) (r':Rk K ρ H yF kvs'):Rk K ρ H (ws ++ yF) (kvs ++ kvs'):=by
 induction r with
 | nil=>exact r'
 | cons h _ ih=>exact .cons h ih
theorem Rk.put {ws:List (Key×V)} {kvs:List (Key×D)} {v:V} {d:D} (r:Rk K ρ H ws kvs) (k:Key) (rv:Rp K ρ H v d):Rk K ρ H (putK ws k v) (putD kvs k d):=by
 have hany:(ws.any fun kv=>decide (kv.1=k))=(kvs.any fun kv=>decide (kv.1=k)):=by
  induction r with
  | nil=>rfl
  | cons h _ ih=>rw [UL,UL,ih,h.1]
 have hmap:Rk K ρ H (ws.map fun kv=>if kv.1=k then (kv.1,v) else kv) (kvs.map fun kv=>if kv.1=k then (kv.1,d) else kv):=by
  clear hany
  induction r with
  | nil=>exact .nil
  | @cons p q ps qs h _ ih =>
   refine .cons ?_ ih
   dsimp only
   by_cases e:p.1=k
   ·rw [if_pos e,if_pos (h.1 ▸ e)];exact ⟨h.1,rv⟩
   ·rw [if_neg e,if_neg (h.1 ▸ e)];exact h
 unfold putK putD
 rw [hany]
 split
 ·exact hmap
 ·exact r.app (.cons ⟨rfl,rv⟩ .nil)
theorem Rk.length {ws:List (Key×V)} {kvs:List (Key×D)} (r:Rk K ρ H ws kvs):ws.length=kvs.length:=by
 induction r with
 | nil=>rfl
 | cons _ _ ih=>rw [Uo,Uo,ih]
end
section
variable {K:Zfr}
def qX:aq->Dm D:=fun _ st=>some (.ref st.length,st ++ [.dct []])
theorem Px:gj K qu qX:=by
 intro ρ σ H δ st b st' Q l rs e q
 cases e
 exact fun p hp=>q _ _ _ (Mn.new hp) (l.newD hp .nil) (.ref (newR l))
def uJ (fd fy:aq->Dm D):aq->Dm D:=fun δ st=>bnd (fd δ st) fun x st1=>bnd (fy δ st1) fun y st2=>match jf st2 x,keyOf y with
 | some kvs,some k=>match c4 kvs k with
  | some v=>some (v,st2)
  | none=>none
 | _,_=>none
def sR (neg:Bool) (fy fd:aq->Dm D):aq->Dm D:=fun δ st=>bnd (fy δ st) fun y st1=>bnd (fd δ st1) fun x st2=>match jf st2 x,keyOf y with
 | some kvs,some k=>some (.bl (if neg then !(c4 kvs k).isSome else (c4 kvs k).isSome),st2)
 | _,_=>none
theorem Py {td ty:TE} {fd fy:aq->Dm D} (hy:gj K ty fy) (hd:gj K td fd):gj K (pq ty td) (sR true fy fd):=by
 intro ρ σ H δ st b st' Q l rs e q
 obtain ⟨y,st1,e1,e⟩:=dF e
 obtain ⟨x,st2,e2,e⟩:=dF e
 refine hy ρ σ H δ st y st1 _ l rs e1 fun vy H1 ρ1 m1 l1 r1=>hd ρ1 σ H1 δ st1 x st2 _ l1 (rs.mn m1) e2 fun vx H2 ρ2 m2 l2 r2=>?_
 split at e
 ·next kvs k hx hk =>
  cases e
  obtain ⟨p,i,ws,rfl,rfl,hi,hs,hp,rk⟩:=KO l2 r2 hx
  refine ⟨p,j8 ws k,rfl,by rw [yl r1 hk];exact qq.k hp,q _ H2 ρ2 (m1.trans m2) l2 ?_⟩
  rw [(rk.val k).2]
  exact .bl _
 ·cases e
def pL (fd fy fv:aq->Dm D):aq->Dm Fl:=fun δ st=>bnd (fv δ st) fun v st1=>bnd (fd δ st1) fun x st2=>bnd (fy δ st2) fun y st3=>match x,jf st3 x,keyOf y with
 | .ref i,some kvs,some k=>if lim kvs.length=true then some (.nx δ,st3.set i (.dct (putD kvs k v))) else none
 | _,_,_=>none
theorem Pz {td ty tv:TE} {fd fy fv:aq->Dm D} (hd:gj K td fd) (hy:gj K ty fy) (hv:gj K tv fv):oe K (ua td ty tv) (pL fd fy fv):=by
 intro ρ σ H δ st fl st' E l rs e q
 obtain ⟨v,st1,e1,e⟩:=dF e
 obtain ⟨x,st2,e2,e⟩:=dF e
 obtain ⟨y,st3,e3,e⟩:=dF e
 refine hv ρ σ H δ st v st1 _ l rs e1 fun vv H1 ρ1 m1 l1 r1=>hd ρ1 σ H1 δ st1 x st2 _ l1 (rs.mn m1) e2 fun vx H2 ρ2 m2 l2 r2=>hy ρ2 σ H2 δ st2 y st3 _ l2 (rs.mn (m1.trans m2)) e3 fun vy H3 ρ3 m3 l3 r3=>?_
 obtain ⟨i,rfl⟩:∃ i,x=.ref i:=by
  cases x <;> first | exact ⟨_,rfl⟩ | (simp at e;done) | cases e
 cases hx:jf st3 (.ref i) with
 | none=>rw [hx] at e;cases e
 | some kvs =>
 cases hk:keyOf y with
 | none=>rw [hx,hk] at e;cases e
 | some k =>
  rw [hx,hk] at e
  simp only at e
  split at e
  ·next hl =>
   cases e
   obtain ⟨p,j,ws,rfl,ej,hi,hs,hp,rk⟩:=KO l3 (r2.mn m3) hx
   cases ej
   obtain ⟨l4,m4⟩:=l3.wj hi hs (rk.put k (r1.mn (m2.trans m3)))
   have mm:=((m1.trans m2).trans m3).trans m4
   refine ⟨p,_,rfl,?_,q σ _ ρ3 mm l4 (rs.mn mm)⟩
   rw [yl r3 hk]
   exact qr.k hp (by rw [rk.length];exact GS hl)
  ·cases e
def Bc:aq->Dm (List (D×D)):=fun _ st=>some ([],st)
def qY (fk fv:aq->Dm D) (fr:aq->Dm (List (D×D))):aq->Dm (List (D×D)):=fun δ st=>bnd (fk δ st) fun k st1=>bnd (fv δ st1) fun v st2=>bnd (fr δ st2) fun r st3=>some ((k,v) :: r,st3)
def keysOf:List (D×D)->Option (List (Key×D))
 | []=>some []
 | (k,v) :: r=>match keyOf k,keysOf r with
  | some k',some r'=>some ((k',v) :: r')
  | _,_=>none
def qZ (kvs more:List (Key×D)):List (Key×D):=more.foldl (fun acc kv=>putD acc kv.1 kv.2) kvs
def uK (fp:aq->Dm (List (D×D))):aq->Dm D:=fun δ st=>bnd (fp δ (st ++ [.dct []])) fun ps st2=>match st2[st.length]?,keysOf ps with
 | some (.dct []),some kvs=>if kvs.length<=15 then some (.ref st.length,st2.set st.length (.dct (qZ [] kvs))) else none
 | _,_=>none
end
section
variable {st:Store} {δ:aq} {Q:D->Store->Prop}
theorem PB:Wp (qX δ st) Q↔Q (.ref st.length) (st ++ [.dct []]):=bC
theorem PD {fd fy:aq->Dm D}:Wp (uJ fd fy δ st) Q↔Wp (fd δ st) fun x st1=>Wp (fy δ st1) fun y st2=>∃ kvs k v,jf st2 x=some kvs/\keyOf y=some k/\c4 kvs k=some v/\Q v st2:=by
 unfold uJ;rw [cN];simp only [cN]
 constructor <;> refine fun h=>bw h fun x s h=>bw h fun y s2 h=>?_
 ·split at h
  ·next kvs k h1 h2 =>
   split at h
   ·next v h3=>exact ⟨kvs,k,v,by assumption,by assumption,h3,bC.mp h⟩
   ·exact (eV.mp h).elim
  ·exact (eV.mp h).elim
 ·obtain ⟨kvs,k,v,h1,h2,h3,h⟩:=h
  rw [h1,h2]
  simp only [h3]
  exact bC.mpr h
theorem xh {neg:Bool} {fd fy:aq->Dm D}:Wp (sR neg fy fd δ st) Q↔Wp (fy δ st) fun y st1=>Wp (fd δ st1) fun x st2=>∃ kvs k,jf st2 x=some kvs/\keyOf y=some k/\Q (.bl (if neg then !(c4 kvs k).isSome else (c4 kvs k).isSome)) st2:=by
 unfold sR;rw [cN];simp only [cN]
 constructor <;> refine fun h=>bw h fun x s h=>bw h fun y s2 h=>?_
 ·split at h
  ·next kvs k h1 h2=>exact ⟨kvs,k,by assumption,by assumption,bC.mp h⟩
  ·exact (eV.mp h).elim
 ·obtain ⟨kvs,k,h1,h2,h⟩:=h
  rw [h1,h2]
  exact bC.mpr h
theorem PH {R:List (D×D)->Store->Prop}:Wp (Bc δ st) R↔R [] st:=bC
theorem PJ {fk fv:aq->Dm D} {fr:aq->Dm (List (D×D))} {R:List (D×D)->Store->Prop}:Wp (qY fk fv fr δ st) R↔Wp (fk δ st) fun k st1=>Wp (fv δ st1) fun v st2=>Wp (fr δ st2) fun r st3=>R ((k,v) :: r) st3:=by
 unfold qY;rw [cN];simp only [cN,bC]
theorem PK {fp:aq->Dm (List (D×D))}:Wp (uK fp δ st) Q↔Wp (fp δ (st ++ [.dct []])) fun ps st2=>st2[st.length]?=some (.dct [])/\∃ kvs,keysOf ps=some kvs/\kvs.length<=15/\Q (.ref st.length) (st2.set st.length (.dct (qZ [] kvs))):=by
 unfold uK;rw [cN]
 constructor <;> refine fun h=>bw h fun ps s h=>?_
 ·split at h
  ·next kvs h1 h2 =>
   rw [ng,bC,eV] at h
   split at h
   ·next hl=>exact ⟨by assumption,kvs,by assumption,hl,h⟩
   ·exact h.elim
  ·exact (eV.mp h).elim
 ·obtain ⟨h1,kvs,h2,h3,h⟩:=h
  rw [h1,h2]
  simp only [if_pos h3]
  exact bC.mpr h
theorem PL {fd fy fv:aq->Dm D} {N B C:aq->Store->Prop} {R:D->Store->Prop} (h:Wp (fv δ st) fun v st1=>Wp (fd δ st1) fun x st2=>Wp (fy δ st2) fun y st3=>∃ i kvs k,x=.ref i/\jf st3 x=some kvs/\keyOf y=some k/\lim kvs.length=true/\N δ (st3.set i (.dct (putD kvs k v)))):Ws (pL fd fy fv δ st) N B C R:=by
 unfold Ws pL
 rw [cN]
 refine bw h fun v st1 h=>?_
 rw [cN]
 refine bw h fun x st2 h=>?_
 rw [cN]
 refine bw h fun y st3 h=>?_
 obtain ⟨i,kvs,k,rfl,h1,h2,h3,h⟩:=h
 rw [h1,h2]
 simp only [h3]
 exact bC.mpr h
end
structure Ex (c:List Nat) (st st':Store):Prop where
 len:st.length<=st'.length
 keep:∀ (i:Nat) (o:O),st[i]?=some o->i ∉ c->st'[i]?=some o
section
variable {c c':List Nat} {st st1 st2:Store} {i:Nat} {o:O} {ds:List D}
theorem Ex.refl:Ex c st st:=⟨TM _,fun _ _ h _=>h⟩
theorem Ex.trans (a:Ex c st st1) (b:Ex c st1 st2):Ex c st st2:=⟨Uh a.len b.len,fun i o h n=>b.keep i o (a.keep i o h n) n⟩
theorem Ex.mono (a:Ex c st st1) (h:∀ x∈c,x∈c'):Ex c' st st1:=⟨a.len,fun i o e n=>a.keep i o e fun z=>n (h i z)⟩
theorem Ex.any (a:Ex [] st st1):Ex c st st1:=a.mono fun x h=>nomatch h
theorem cZ {α:Type} {l:List α} {i:Nat} {o:α} (h:l[i]?=some o):i < l.length:=(TK.mp h).1
theorem jI {l m:List O} (h:l[i]?=some o):(l ++ m)[i]?=some o:=by rw [T1 (cZ h)];exact h
theorem gH {l:List O}:(l ++ [o])[l.length]?=some o:=by rw [Uc (TM _),UR];rfl
theorem Ex.app (a:Ex c st st1) (m:List O):Ex c st (st1 ++ m):=⟨by rw [TN];exact Uh a.len (Nat.le_add_right _ _),fun i o h n=>jI (a.keep i o h n)⟩
theorem Ex.b5 (m:List O):Ex c st (st ++ m):=Ex.refl.app m
theorem Ex.put (a:Ex c st st1) (h:i∈c):Ex c st (st1.set i o):=⟨by rw [UD];exact a.len,fun j u e n=>by rw [TV (fun z=>n (by rw [<- z];exact h))];exact a.keep j u e n⟩
theorem Ex.loc (a:Ex c st st1) (h:st.length<=i):Ex c st (st1.set i o):=⟨by rw [UD];exact a.len,fun j u e n=>by rw [TV (by have:=cZ e;omega)];exact a.keep j u e n⟩
theorem bF (h:st[i]?=some (.lst ds)):items st i=some ds:=by unfold items;rw [h]
theorem KP (h:st[i]?=some (.oQ ds)):items st i=some ds:=by unfold items;rw [h]
theorem jg (h:st[i]?=some (.lst ds)):own st i=some ds:=by unfold own;rw [h]
theorem rQ:items (st ++ [.lst ds]) st.length=some ds:=bF gH
theorem PN:own (st ++ [.lst ds]) st.length=some ds:=jg gH
theorem PQ {o':O}:items (st ++ [.lst ds] ++ [o']) st.length=some ds:=bF (jI gH)
theorem PR {o':O}:own (st ++ [.lst ds] ++ [o']) st.length=some ds:=jg (jI gH)
theorem PU {o' o2:O}:items (st ++ [.lst ds] ++ [o'] ++ [o2]) st.length=some ds:=bF (jI (jI gH))
theorem PV {o' o2:O}:own (st ++ [.lst ds] ++ [o'] ++ [o2]) st.length=some ds:=jg (jI (jI gH))
theorem PX {lo hi:Int}:iT (st ++ [.iY lo hi]) (.ref st.length)=some (lo,hi):=by simp only [iT,gH]
theorem PY:cz st (.tup ds)=some ds:=rfl
theorem PZ:cz st (.ref i)=items st i:=rfl
theorem lP (h:(items st i).isSome=true):rP "list" st (.ref i)=true:=by simp only [rP,h];rfl
theorem KQ:rP "tuple" st (.tup ds)=true:=by simp only [rP];rfl
theorem gI {n:Nat} (h:n<=100000):lim n=true:=Nat.ble_eq_true_of_le h
end
section
variable {st:Store} {Q:D->Store->Prop} {i j:Int} {k:Nat} {ds es:List D}
theorem P0 {a:D}:Wp (c6 [a] st) Q↔∃ p,iT st a=some p/\p3 p.1 p.2=true/\Q (.ref st.length) (st ++ [.lst (aD p.1 (p.2 - p.1).toNat)]):=by
 show Wp (match iT st a with | some (lo,hi)=>if p3 lo hi=true then some (D.ref st.length,st ++ [O.lst (aD lo (hi - lo).toNat)]) else none | none=>none) Q↔_
 cases iT st a with
 | none=>rw [eV];exact ⟨False.elim,fun ⟨_,e,_⟩=>by cases e⟩
 | some p =>
  obtain ⟨lo,hi⟩:=p
  show Wp (if p3 lo hi=true then some (D.ref st.length,st ++ [O.lst (aD lo (hi - lo).toNat)]) else none) Q↔_
  rw [ng,bC,eV]
  split
  ·next h=>exact ⟨fun q=>⟨_,rfl,h,q⟩,fun ⟨_,e,_,q⟩=>by cases e;exact q⟩
  ·next h=>exact ⟨False.elim,fun ⟨_,e,q,_⟩=>by cases e;exact h q⟩
theorem P1 {a:D}:Wp (sP [a] st) Q↔∃ p,iT st a=some p/\p3 p.1 p.2=true/\Q (.tup (aD p.1 (p.2 - p.1).toNat)) st:=by
 show Wp (match iT st a with | some (lo,hi)=>if p3 lo hi=true then some (D.tup (aD lo (hi - lo).toNat),st) else none | none=>none) Q↔_
 cases iT st a with
 | none=>rw [eV];exact ⟨False.elim,fun ⟨_,e,_⟩=>by cases e⟩
 | some p =>
  obtain ⟨lo,hi⟩:=p
  show Wp (if p3 lo hi=true then some (D.tup (aD lo (hi - lo).toNat),st) else none) Q↔_
  rw [ng,bC,eV]
  split
  ·next h=>exact ⟨fun q=>⟨_,rfl,h,q⟩,fun ⟨_,e,_,q⟩=>by cases e;exact q⟩
  ·next h=>exact ⟨False.elim,fun ⟨_,e,q,_⟩=>by cases e;exact h q⟩
theorem xi:Wp (qR (.ref k) (.int j) st) Q↔∃ xs,own st k=some xs/\(-9223372036854775808<=j/\j < 9223372036854775808)/\lim (xs.length * j.toNat)=true/\Q (.ref st.length) (st ++ [.lst (List.replicate j.toNat xs).flatten]):=by
 show Wp (match own st k with | some a=>if (decide (-9223372036854775808<=j/\j < 9223372036854775808) && lim (a.length * j.toNat))=true then some (D.ref st.length,st ++ [O.lst (List.replicate j.toNat a).flatten]) else none | _=>none) Q↔_
 cases own st k with
 | none=>simp only [eV];exact ⟨False.elim,fun ⟨_,e,_⟩=>by cases e⟩
 | some xs =>
  show Wp (if (decide (-9223372036854775808<=j/\j < 9223372036854775808) && lim (xs.length * j.toNat))=true then some (D.ref st.length,st ++ [O.lst (List.replicate j.toNat xs).flatten]) else none) Q↔_
  rw [ng,bC,eV]
  split
  ·next h=>rw [Ua,decide_eq_true_eq] at h;exact ⟨fun q=>⟨_,rfl,h.1,h.2,q⟩,fun ⟨_,e,_,_,q⟩=>by cases e;exact q⟩
  ·next h=>rw [Ua,decide_eq_true_eq] at h;exact ⟨False.elim,fun ⟨_,e,q,q',_⟩=>by cases e;exact h ⟨q,q'⟩⟩
theorem P4:Wp (lp (.ref k) [.int i] st) Q↔∃ xs j y,own st k=some xs/\(-9223372036854775808<=i/\i < 9223372036854775808)/\seqIndex? i xs.length=some j/\xs[j]?=some y/\Q y (st.set k (.lst (xs.eraseIdx j))):=by
 constructor
 ·rintro ⟨a,s,e,q⟩
  simp only [lp] at e
  split at e
  ·next xs hx =>
   split at e
   ·next hk =>
    split at e
    ·next j hj =>
     split at e
     ·next y hy=>cases e;exact ⟨xs,j,_,hx,of_decide_eq_true hk,hj,hy,q⟩
     ·cases e
    ·cases e
   ·cases e
  ·cases e
 ·rintro ⟨xs,j,y,hx,hk,hj,hy,q⟩
  refine ⟨_,_,?_,q⟩
  simp only [lp,hx,hj,hy,decide_eq_true hk]
  rfl
theorem P5 {b:Nat}:Wp (nK (.ref k) [.ref b] st) Q↔∃ xs ys,own st k=some xs/\own st b=some ys/\lim (xs.length + ys.length)=true/\Q .non (st.set k (.lst (xs ++ ys))):=by
 constructor
 ·rintro ⟨a,s,e,q⟩
  simp only [nK] at e
  split at e
  ·next xs ys hx hy =>
   split at e
   ·next hl=>cases e;exact ⟨xs,ys,hx,hy,hl,q⟩
   ·cases e
  ·cases e
 ·rintro ⟨xs,ys,hx,hy,hl,q⟩
  refine ⟨_,_,?_,q⟩
  simp only [nK,hx,hy,hl]
  rfl
theorem KR {v:Int}:Wp (je (.tup ds) [.int v] st) Q↔∃ ns j,bZ iV ds=some ns/\ns.findIdx? (fun i=>decide (i=v))=some j/\Q (.int (j:Int)) st:=by
 constructor
 ·rintro ⟨a,s,e,q⟩
  simp only [je] at e
  split at e
  ·next ns hn =>
   split at e
   ·next j hj=>cases e;exact ⟨ns,j,hn,hj,q⟩
   ·cases e
  ·cases e
 ·rintro ⟨ns,j,hn,hj,q⟩
  refine ⟨_,_,?_,q⟩
  simp only [je,hn,hj]
theorem P6 {v:Int} {ns:List Int} (h:items st k=some (ns.map D.int)) (hv:v∈ns) (hl:ns.length<=1000) (hb:∀ i∈ns,-1000000000000000000<=i/\i<=1000000000000000000):Wp (jH (.ref k) [.int v] st) Q↔Q (.int (ns.idxOf v:Int)) st:=by
 have e:bZ iV (ns.map D.int)=some ns:=by
  have:=uC (f:=iV) (g:=D.int) (k:=id) (fun _=>rfl) ns
  rw [this,Vu]
 have e2:jH (.ref k) [.int v] st=some (.int (ns.idxOf v:Int),st):=by
  simp only [jH,h,U3,e]
  rw [if_pos ⟨hv,hl,hb⟩]
 rw [e2,bC]
theorem xj:Wp (wz [.ref k] st) Q↔∃ ds bs,items st k=some ds/\bZ bV ds=some bs/\Q (.bl (bs.all id)) st:=by
 constructor
 ·rintro ⟨a,s,e,q⟩
  simp only [wz] at e
  split at e
  ·next bs hb =>
   cases e
   obtain ⟨ds,h1,h2⟩:=UM.mp hb
   exact ⟨ds,bs,h1,h2,q⟩
  ·cases e
 ·rintro ⟨ds,bs,h1,h2,q⟩
  refine ⟨_,_,?_,q⟩
  simp only [wz,h1,U3,h2]
theorem Bd {neg:Bool} {a c:D}:Wp (qc neg a c st) Q↔∃ x ds vs,sV a=some x/\cz st c=some ds/\bZ sV ds=some vs/\Q (.bl (if neg then !tU x vs else tU x vs)) st:=by
 constructor
 ·rintro ⟨b,s,e,q⟩
  simp only [qc] at e
  split at e
  ·next x vs h1 h2 =>
   cases e
   obtain ⟨ds,h3,h4⟩:=UM.mp h2
   exact ⟨x,ds,vs,h1,h3,h4,q⟩
  ·cases e
 ·rintro ⟨x,ds,vs,h1,h2,h3,q⟩
  refine ⟨_,_,?_,q⟩
  simp only [qc,h1,h2,U3,h3]
theorem KS (ns:List Int):bZ sV (ns.map D.int)=some (ns.map V.int):=uC (f:=sV) (g:=D.int) (k:=V.int) (fun _=>rfl) ns
theorem KU (ns:List Int):bZ iV (ns.map D.int)=some ns:=by
 have:=uC (f:=iV) (g:=D.int) (k:=id) (fun _=>rfl) ns
 rw [this,Vu]
theorem G9 {neg:Bool} {a b:D}:Wp (lM neg a b st) Q↔∃ p q,dX st 20 a=some p/\dX st 20 b=some q/\(PyData.canLay0 p=true/\PyData.canLay0 q=true/\min p.depth q.depth<=60)/\Q (.bl (if neg then !PyData.eqv p q else PyData.eqv p q)) st:=by
 constructor
 ·rintro ⟨c,s,e,q⟩
  simp only [lM] at e
  split at e
  ·next x y h1 h2 =>
   split at e
   ·next hs =>
    cases e
    rw [Ua,Ua,decide_eq_true_eq] at hs
    exact ⟨x,y,h1,h2,⟨hs.1.1,hs.1.2,hs.2⟩,q⟩
   ·cases e
  ·cases e
 ·rintro ⟨x,y,h1,h2,⟨h3,h4,h5⟩,q⟩
  refine ⟨_,_,?_,q⟩
  simp only [lM,h1,h2,h3,h4,decide_eq_true h5]
  rfl
theorem P7 {a:D}:Wp (lH [a] st) Q↔∃ p,dX st 20 a=some p/\(p.showable=true/\p.canLay0=true/\p.shown.length<=sizeLine/\p.depth<=60)/\Q (.str p.shown) st:=by
 constructor
 ·rintro ⟨c,s,e,q⟩
  simp only [lH] at e
  split at e
  ·next p h1 =>
   split at e
   ·next hs =>
    cases e
    rw [Ua,Ua,Ua,decide_eq_true_eq,decide_eq_true_eq] at hs
    exact ⟨p,h1,⟨hs.1.1.1,hs.1.1.2,hs.1.2,hs.2⟩,q⟩
   ·cases e
  ·cases e
 ·rintro ⟨p,h1,⟨h3,h4,h5,h6⟩,q⟩
  refine ⟨_,_,?_,q⟩
  simp only [lH,h1,h3,h4,decide_eq_true h5,decide_eq_true h6]
  rfl
theorem xk {z:Str}:Wp (wt (.str z) (.int i) st) Q↔∃ c,lim z.length=true/\c5 z.cps.toList i=some c/\Q (.str ⟨#[c]⟩) st:=by
 constructor
 ·rintro ⟨c,s,e,q⟩
  simp only [wt] at e
  split at e
  ·next h1 =>
   split at e
   ·next c hc=>cases e;exact ⟨c,h1,hc,q⟩
   ·cases e
  ·cases e
 ·rintro ⟨c,h1,h2,q⟩
  refine ⟨_,_,?_,q⟩
  simp only [wt,h1,h2]
  rfl
theorem P8 {δ:aq} {fa:aq->Dm (List D)} {R:Src->Store->Prop}:Wp (bY fa δ st) R↔Wp (fa δ st) fun as st1=>∃ j,as=[.int j]/\(-4611686018427387904<=j/\j < 4611686018427387904)/\R (.fix (aD 0 j.toNat)) st1:=by
 unfold bY;rw [cN]
 constructor <;> refine fun h=>bw h fun as s h=>?_
 ·split at h
  ·next j =>
   rw [ng,bC,eV] at h
   split at h
   ·next hk=>exact ⟨j,rfl,of_decide_eq_true hk,h⟩
   ·exact h.elim
  ·exact (eV.mp h).elim
 ·obtain ⟨j,rfl,h1,h⟩:=h
  simp only [decide_eq_true h1,if_true]
  exact bC.mpr h
theorem P9 {δ:aq} {fa:aq->Dm (List D)} {R:Src->Store->Prop}:Wp (nO fa δ st) R↔Wp (fa δ st) fun as st1=>∃ i j,as=[.int i,.int j]/\((-4611686018427387904<=i/\i < 4611686018427387904)/\-4611686018427387904<=j/\j < 4611686018427387904)/\R (.fix (aD i (j - i).toNat)) st1:=by
 unfold nO;rw [cN]
 constructor <;> refine fun h=>bw h fun as s h=>?_
 ·split at h
  ·next i j =>
   rw [ng,bC,eV] at h
   split at h
   ·next hk=>exact ⟨i,j,rfl,of_decide_eq_true hk,h⟩
   ·exact h.elim
  ·exact (eV.mp h).elim
 ·obtain ⟨i,j,rfl,h1,h⟩:=h
  simp only [decide_eq_true h1,if_true]
  exact bC.mpr h
theorem Qa {δ:aq} {fa:aq->Dm D} {R:Src->Store->Prop}:Wp (cK fa δ st) R↔Wp (fa δ st) fun a st1=>∃ ds,a=.tup ds/\R (.fix ds) st1:=by
 unfold cK;rw [cN]
 constructor <;> refine fun h=>bw h fun a s h=>?_
 ·cases a <;> simp only [bC,eV] at h
  exact ⟨_,rfl,h⟩
 ·obtain ⟨j,rfl,h⟩:=h
  exact bC.mpr h
theorem Qb {δ:aq} {fa:aq->Dm D} {R:Src->Store->Prop}:Wp (ka fa δ st) R↔Wp (fa δ st) fun a st1=>∃ i ds,a=.ref i/\items st1 i=some ds/\R (.live i) st1:=by
 unfold ka;rw [cN]
 constructor <;> refine fun h=>bw h fun a s h=>?_
 ·split at h
  ·split at h
   ·next i ds hd=>exact ⟨_,ds,rfl,hd,bC.mp h⟩
   ·exact (eV.mp h).elim
  ·exact (eV.mp h).elim
 ·obtain ⟨i,ds,rfl,hd,h⟩:=h
  simp only [hd]
  exact bC.mpr h
theorem Qc {δ:aq} {fa:aq->Dm (List D)} {R:Src->Store->Prop}:Wp (lq fa δ st) R↔Wp (fa δ st) fun as st1=>∃ ds,as=[.tup ds]/\R (.fix (gR ds)) st1:=by
 unfold lq;rw [cN]
 constructor <;> refine fun h=>bw h fun as s h=>?_
 ·split at h
  ·exact ⟨_,rfl,bC.mp h⟩
  ·exact (eV.mp h).elim
 ·obtain ⟨ds,rfl,h⟩:=h
  exact bC.mpr h
theorem Ha {i:Nat} {d:D} {δ:aq} {R:aq->Store->Prop}:Wp (hName i d δ st) R↔R (δ.set i (some d)) st:=bC
theorem Qd {δ:aq} {R:aq->Store->Prop}:Wp (g5 [] δ st) R↔R δ st:=bC
theorem Qe {f:D->aq->Dm aq} {g:List D->aq->Dm aq} {d:D} {ds:List D} {δ:aq} {R:aq->Store->Prop}:Wp (aS f g (d :: ds) δ st) R↔Wp (f d δ st) fun δ1 st1=>Wp (g ds δ1 st1) R:=cN
theorem Qf {n:Nat} {f:List D->aq->Dm aq} {ds:List D} {δ:aq} {R:aq->Store->Prop}:Wp (gQ n f (.tup ds) δ st) R↔ds.length=n/\Wp (f ds δ st) R:=by
 show Wp (if ds.length=n then f ds δ st else none) R↔_
 rw [ng,eV]
 split
 ·next h=>exact ⟨fun q=>⟨h,q⟩,fun q=>q.2⟩
 ·next h=>exact ⟨False.elim,fun q=>h q.1⟩
theorem Qg {fo fi:aq->Dm D} {d:D} {δ:aq} {R:aq->Store->Prop}:Wp (hSub fo fi d δ st) R↔Wp (fo δ st) fun o st1=>Wp (fi δ st1) fun i st2=>∃ r k xs j,o=.ref r/\i=.int k/\own st2 r=some xs/\lF xs.length k=some j/\R δ (st2.set r (.lst (xs.set j d))):=by
 unfold hSub;rw [cN];simp only [cN]
 constructor <;> refine fun h=>bw h fun o s h=>bw h fun i s2 h=>?_
 ·split at h
  ·split at h
   ·next xs hx =>
    split at h
    ·next j hj=>exact ⟨_,_,xs,j,rfl,rfl,hx,hj,bC.mp h⟩
    ·exact (eV.mp h).elim
   ·exact (eV.mp h).elim
  ·exact (eV.mp h).elim
 ·obtain ⟨r,k,xs,j,rfl,rfl,hx,hj,h⟩:=h
  simp only [hx,hj]
  exact bC.mpr h
theorem Qh {a:D} {c:String}:Wp (nL [a,.ty c] st) Q↔AY st a=some c/\Q (.bl true) st:=by
 constructor
 ·rintro ⟨b,s,e,q⟩
  simp only [nL] at e
  split at e
  ·next T hT =>
   split at e
   ·next h=>cases e;subst h;exact ⟨hT,q⟩
   ·cases e
  ·cases e
 ·rintro ⟨h,q⟩
  refine ⟨_,_,?_,q⟩
  simp only [nL,h,if_true]
theorem Hb {δ:aq} {R:Bool->Store->Prop}:Wp (dG δ st) R↔R true st:=bC
end
theorem Hc {α:Type} (x:α) (xs:List α):c5 (x :: xs) 0=some x:=by
 unfold c5 lF
 rw [if_pos (by decide),if_pos (by simp only [Uo];omega)]
 rfl
theorem Hd {α:Type} (x y:α) (xs:List α):c5 (x :: y :: xs) 1=some y:=by
 unfold c5 lF
 rw [if_pos (by decide),if_pos (by simp only [Uo];omega)]
 rfl
theorem xl {α:Type} {a:α} {l:List α}:(a :: l)[0]?=some a:=List.getElem?_cons_zero
theorem xm {α:Type} {a:α} {l:List α} {i:Nat}:(a :: l)[i + 1]?=l[i]?:=List.getElem?_cons_succ
theorem xn {α:Type} {a b:α} {l:List α}:(a :: l).set 0 b=b :: l:=List.set_cons_zero
theorem xo {α:Type} {a b:α} {l:List α} {i:Nat}:(a :: l).set (i + 1) b=a :: l.set i b:=List.set_cons_succ
theorem xq {α:Type} (a b:α):(some a=some b)=(a=b):=Option.some.injEq a b
theorem Be {α:Type} {p:α->Prop} {a':α}:(∃ a,a'=a/\p a)↔p a':=exists_eq_left'
theorem He {α:Type} {p:α->Prop} {a':α}:(∃ a,a=a'/\p a)↔p a':=exists_eq_left
theorem Bf {α:Type} {p:α->Prop} {b:Prop}:(∃ x,b/\p x)↔b/\∃ x,p x:=exists_and_left
theorem Bg (a b:Int):(D.int a=D.int b)=(a=b):=D.int.injEq a b
theorem Hf (a b:Bool):(D.bl a=D.bl b)=(a=b):=D.bl.injEq a b
theorem Bh (a b:Str):(D.str a=D.str b)=(a=b):=D.str.injEq a b
theorem Bi (a b:List D):(D.tup a=D.tup b)=(a=b):=D.tup.injEq a b
theorem Bj (a b:Nat):(D.ref a=D.ref b)=(a=b):=D.ref.injEq a b
theorem xr {α:Type} (a:α) (l:List α) (b:α) (m:List α):(a :: l=b :: m)=(a=b/\l=m):=List.cons.injEq a l b m
theorem xt {α β:Type} (a:α) (b:β) (c:α) (d:β):((a,b)=(c,d))=(a=c/\b=d):=Prod.mk.injEq a b c d
theorem xu (p:Prop):(p/\True)=p:=and_true p
theorem xv (p:Prop):(True/\p)=p:=true_and p
theorem xw:(!true)=false:=rfl
theorem xx:(!false)=true:=rfl
theorem Hg:(false=true)=False:=by simp
theorem Bk {α:Type} {h:Decidable False} (t e:α):@ite α False h t e=e:=if_false t e
theorem Bl {α:Type} {h:Decidable True} (t e:α):@ite α True h t e=t:=if_true t e
def bG:=And.intro @wH (And.intro @G6 (And.intro @A1 (And.intro @A2 (And.intro @A3 (And.intro @wI (And.intro @Pc (And.intro @wJ (And.intro @wK (And.intro @Pd (And.intro @wL (And.intro @wM (And.intro @A4 (And.intro @uI (And.intro @Pe (And.intro @wN (And.intro @Pf (And.intro @Pg (And.intro @Ph (And.intro @A5 (And.intro @A6 (And.intro @wO (And.intro @wQ (And.intro @A7 (And.intro @A8 (And.intro @A9 (And.intro @Ba (And.intro @wR (And.intro @wU (And.intro @Pj (And.intro @wV (And.intro @wW (And.intro @wX (And.intro @wY (And.intro @KL (And.intro @wZ (And.intro @w6 (And.intro @xa (And.intro @Pk (And.intro @xb (And.intro @xc (And.intro @Pm (And.intro @Pn (And.intro @Po (And.intro @Pp (And.intro @Pq (And.intro @Pr (And.intro @Pt (And.intro @Pu (And.intro @Pw (And.intro @PB (And.intro @PD (And.intro @xh (And.intro @PH (And.intro @PJ (And.intro @PK (And.intro @rQ (And.intro @PN (And.intro @PQ (And.intro @PR (And.intro @PU (And.intro @PV (And.intro @PX (And.intro @PY (And.intro @PZ (And.intro @P0 (And.intro @P1 (And.intro @xi (And.intro @P4 (And.intro @P5 (And.intro @KR (And.intro @xj (And.intro @xk (And.intro @P8 (And.intro @P9 (And.intro @Qa (And.intro @Qb (And.intro @Qc (And.intro @Ha (And.intro @Qd (And.intro @Qe (And.intro @Qf (And.intro @Qg (And.intro @Qh (And.intro @Hb (And.intro @Hc (And.intro @Hd (And.intro @xl (And.intro @xm (And.intro @xn (And.intro @xo (And.intro @xq (And.intro @Be (And.intro @He (And.intro @Bf (And.intro @Bg (And.intro @Hf (And.intro @Bh (And.intro @Bi (And.intro @Bj (And.intro @xr (And.intro @xt (And.intro @xu (And.intro @xv (And.intro @xw (And.intro @xx (And.intro @Hg (And.intro @Bk (@Bl))))))))))))))))))))))))))))))))))))))))))))))))))))))))))))))))))))))))))))))))))))))))))))))))))))))))))))
theorem b7 {α:Type} {m:Option (α×Store)} {Q:α->Store->Prop} (h:∀ Q':α->Store->Prop,(∀ a st,Q a st->Q' a st)->Wp m Q'):Wp m Q:=h Q fun _ _ h=>h
section
variable {X:Cx} {K:Zfr}
theorem KW:∀ {ns:List Int},(∀ i∈ns,Ge i)->PyData.weightAll (bS ns)<=65 * ns.length
 | [],_=>by show PyData.weightAll []<=0;simp only [PyData.weightAll];exact TM _
 | n :: r,h=>by
  have ih:=KW (ns:=r) fun i hi=>h i (TY _ hi)
  have hn:=h n TU
  have hw:(PyData.int n).weight<=64:=by
   simp only [PyData.weight]
   split
   ·omega
   ·have:n.natAbs < 2 ^ 63:=by unfold Ge at hn;omega
    have h2:n.natAbs.log2 < 63:=by
     by_cases h0:n.natAbs=0
     ·rw [h0];decide
     ·exact (Nat.log2_lt h0).mpr this
    omega
  show PyData.weightAll (PyData.int n :: bS r)<=65 * (r.length + 1)
  simp only [PyData.weightAll]
  omega
def nQ (K:Zfr):V->List V->Hp->VK->Prop:=fun x vs H Q=>∃ (a:Addr) (ns:List Int) (v:Int),x=.ref a/\vs=[.int v]/\iZ K H a (ns.map V.int)/\v∈ns/\ns.length<=1000/\(∀ i∈ns,Ge i)/\Q (.int (ns.idxOf v:Int)) H
theorem Qi:tQ X "list.index" (nQ X.K):=by
 intro pins s σ H x xs v us Q I rx rv h
 obtain ⟨a,ns,y,rfl,rfl,hq,hm,hl,hb,q⟩:=h
 cases rx
 obtain ⟨u,rfl,t,rfl⟩:=vals1 rv
 obtain ⟨its,r,pl,hz⟩:=I.list hq
 exact PyProof.Rows.index_list_ints (vs:=its) pl.isList (IL r) (by
  have hw:=KW hb
  have c1:(PyData.list (List.map PyData.int ns)).canLay0=true:=vK ns
  have c2:(PyData.list (List.map PyData.int ns)).depth<=64:=by show PyData.depthAll (bS ns) + 1<=64;rw [yn];omega
  have c3:(PyData.list (List.map PyData.int ns)).weight<=2 ^ 20:=by simp only [PyData.weight];exact Uh hw (by omega)
  show (_ && _ && _)=true
  rw [c1,decide_eq_true c2,decide_eq_true c3];rfl) hm ⟨.int _,H,I.tok _,⟨_,rfl⟩,q⟩
theorem Qj (hK:X.K=K):tQ X "list.index" (nQ K):=by subst hK;exact Qi
theorem Qk:uv K "list" (nQ K) jH:=by
 intro ρ H st x xs a as b st' Q l rx qS e q
 unfold jH at e
 split at e
 ·split at e
  ·next ns hn =>
   split at e
   ·next hm =>
    cases e
    obtain ⟨v,rfl,r⟩:=qS.one'
    cases r
    cases rx with
    | ref hi =>
     obtain ⟨ds,h1,h2⟩:=UM.mp hn
     obtain ⟨vs,s,r⟩:=l.items hi h1
     cases G2 r h2
     exact ⟨_,ns,_,rfl,rfl,s,hm.1,hm.2.1,hm.2.2,q _ H ρ .refl l (.int _)⟩
   ·cases e
  ·cases e
 ·cases e
end
section
variable {st:Store} {Q:D->Store->Prop}
theorem KY (n:Nat) (L:List Int):bZ (dX st (n + 1)) (L.map D.int)=some (bS L):=uC (f:=dX st (n + 1)) (g:=D.int) (k:=PyData.int) (fun _=>by simp only [dX]) L
theorem Hh (a b:List PyData):PyData.eqv (.list a) (.list b)=PyData.eqvAll a b:=by simp only [PyData.eqv]
theorem Ql (a b:List PyData):PyData.eqv (.tuple a) (.tuple b)=PyData.eqvAll a b:=by simp only [PyData.eqv]
theorem KZ {neg:Bool} {a b:Nat} {L M:List Int} (ha:items st a=some (L.map D.int)) (hb:items st b=some (M.map D.int)):Wp (lM neg (.ref a) (.ref b) st) Q↔Q (.bl (if neg then !decide (L=M) else decide (L=M))) st:=by
 have p1:∀ (i:Nat) (N:List Int),items st i=some (N.map D.int)->dX st 20 (.ref i)=some (.list (bS N)):=fun i N h=>by
  simp only [dX,h]
  rw [KY];rfl
 have dp:∀ N:List Int,PyData.depth (.list (bS N))<=1:=fun N=>by show PyData.depthAll (bS N) + 1<=1;rw [yn];omega
 rw [G9]
 constructor
 ·rintro ⟨p,q,h1,h2,_,h⟩
  rw [p1 a L ha] at h1
  rw [p1 b M hb] at h2
  cases h1
  cases h2
  rw [Hh,Dl] at h
  exact h
 ·intro h
  refine ⟨_,_,p1 a L ha,p1 b M hb,⟨vK L,vK M,by have:=dp L;omega⟩,?_⟩
  rw [Hh,Dl]
  exact h
def yG (rs:List (List Int)):D:=.tup (rs.map fun r=>.tup (r.map D.int))
theorem K0 (rs:List (List Int)):dX st 20 (yG rs)=some (.tuple (rs.map gi)):=by
 unfold yG
 simp only [dX]
 rw [uC (f:=dX st 19) (g:=fun r:List Int=>D.tup (r.map D.int)) (k:=gi) (fun r=>by simp only [dX];rw [KY];rfl) rs]
 rfl
end
def bO (st:Store) (f:Nat):Prop:=∃ o m:Int,st[f]?=some (.lst [.int o,.int m])/\0<=o/\0<=m/\m < 4294967296
theorem Bm:lF 2 0=some 0:=by decide
theorem Bn:lF 2 1=some 1:=by decide
theorem p5 (n:Nat):aD 0 n=(af.upto n).map D.int:=by
 unfold aD af.upto
 rw [Uq]
 apply Ux
 intro i _
 simp
theorem Qm (L:List Int) (j:Nat):(L.map D.int).eraseIdx j=(L.eraseIdx j).map D.int:=by
 induction L generalizing j with
 | nil=>rfl
 | cons a r ih =>
  cases j with
  | zero=>rfl
  | succ j=>show D.int a :: (r.map D.int).eraseIdx j=_;rw [ih];rfl
theorem Qn {L:List Int} {j:Nat} (h:j < L.length):(L[j] :: L.eraseIdx j).Perm L:=by
 induction L generalizing j with
 | nil=>exact absurd h (UE _)
 | cons a r ih =>
  cases j with
  | zero=>exact Vo _
  | succ j =>
   have:=ih (j:=j) (by simpa using h)
   exact (List.Perm.swap _ _ _).trans (this.cons a)
theorem bO.keep {st st':Store} {f:Nat} (h:bO st f) (e:Ex [] st st'):bO st' f:=by
 obtain ⟨o,m,e1,r⟩:=h
 exact ⟨o,m,e.keep _ _ e1 (by simp),r⟩
theorem bO.ne {st:Store} {f i:Nat} {o:O} (h:bO st f) (hi:i≠f):bO (st.set i o) f:=by
 obtain ⟨x,m,e1,r⟩:=h
 exact ⟨x,m,by rw [TV hi];exact e1,r⟩
theorem bO.lt {st:Store} {f:Nat} (h:bO st f):f < st.length:=let ⟨_,_,e,_⟩:=h;cZ e
theorem p6 {xs:List Int} {i:Int} (h0:0<=i) (h1:i < (xs.length:Int)):c5 (xs.map D.int) i=some (.int (af.app xs i)):=by
 have e:(xs.map D.int)[i.toNat]?=some (.int (af.app xs i)):=by rw [TR,af.oA h0 h1];rfl
 have:=yj e
 rwa [Um h0] at this
theorem Bo {xs:List Int} {i:Nat} {d:D} (h:(xs.map D.int)[i]?=some d):∃ x,xs[i]?=some x/\d=.int x:=by
 rw [TR] at h
 obtain ⟨x,h1,h2⟩:=Uj.mp h
 exact ⟨x,h1,h2.symm⟩
theorem Hi (x:Int):∀ (ns:List Int),tU (.int x) (ns.map V.int)=ns.contains x
 | []=>rfl
 | n :: r=>by
  have e:=Hi x r
  unfold tU at e ⊢
  rw [Ui,UL,e,List.contains_cons]
  congr 1
  show (n == x)=(x == n)
  exact Bool.beq_comm
theorem DS {st:Store} {Q:D->Store->Prop} {neg:Bool} {x:Int} {c:D} {ns:List Int} (hc:cz st c=some (ns.map D.int)):Wp (qc neg (.int x) c st) Q↔Q (.bl (if neg then !ns.contains x else ns.contains x)) st:=by
 rw [Bd]
 constructor
 ·rintro ⟨v,ds,vs,h1,h2,h3,h⟩
  cases h1
  rw [hc] at h2
  cases h2
  rw [KS] at h3
  cases h3
  rw [Hi] at h
  exact h
 ·intro h
  refine ⟨_,_,_,rfl,hc,KS ns,?_⟩
  rw [Hi]
  exact h
def b6 (xs ys:List Int):D:=.tup [.tup (xs.map D.int),.tup (ys.map D.int)]
structure nR (kK st:Store) (f r u:Nat) (n:Nat) (X Y:List Int):Prop where
 hr:st[r]?=some (.lst (X.map D.int))
 hu:st[u]?=some (.lst (Y.map D.int))
 ne:r≠u
 r0:kK.length<=r
 u0:kK.length<=u
 tX:af.Tn n X
 tY:af.Tn n Y
 fd:bO st f
 ex:Ex [f] kK st
section
variable {kK st st':Store} {f r u n:Nat} {X Y Z:List Int} {o:O}
theorem nR.keep (h:nR kK st f r u n X Y) (e:Ex [] st st'):nR kK st' f r u n X Y:=⟨e.keep _ _ h.hr (by simp),e.keep _ _ h.hu (by simp),h.ne,h.r0,h.u0,h.tX,h.tY,h.fd.keep e,h.ex.trans e.any⟩
theorem nR.xy (h:nR kK st f r u n X Y) (t:af.Tn n Z):nR kK (st ++ [.lst (Z.map D.int)]) f st.length u n Z Y:=⟨gH,jI h.hu,by have:=cZ h.hu;omega,h.ex.len,h.u0,t,h.tY,h.fd.keep (Ex.b5 _),h.ex.app _⟩
theorem nR.xA (h:nR kK st f r u n X Y) (t:af.Tn n Z):nR kK (st ++ [.lst (Z.map D.int)]) f r st.length n X Z:=⟨jI h.hr,gH,by have:=cZ h.hr;omega,h.r0,h.ex.len,h.tX,t,h.fd.keep (Ex.b5 _),h.ex.app _⟩
theorem nR.put (h:nR kK st f r u n X Y) (t:af.Tn n Z) (hf:f < kK.length):nR kK (st.set r (.lst (Z.map D.int))) f r u n Z Y:=⟨TQ (cZ h.hr),by rw [TV h.ne];exact h.hu,h.ne,h.r0,h.u0,t,h.tY,h.fd.ne (by have:=h.r0;omega),h.ex.loc h.r0⟩
end
theorem K1 (n:Nat):(af.pD n).map D.int=aD 1 ((n:Int) - 1).toNat ++ [.int 0]:=by
 unfold af.pD aD
 rw [T6,Uq,show ((n:Int) - 1).toNat=n - 1 by omega]
 rfl
theorem sS {lo hi:Int} (h:0<=lo/\lo<=10000/\0<=hi/\hi<=10000):p3 lo hi=true:=by
 unfold p3;rw [Ua,decide_eq_true_eq];exact ⟨by omega,gI (by omega)⟩
theorem xB (w n:Nat):(af.qJ w n).map D.int=aD 1 ((w:Int) - 1).toNat ++ [.int 0] ++ aD (w:Int) ((n:Int) - (w:Int)).toNat:=by
 unfold af.qJ aD
 rw [T6,T6,Uq,Uq,show ((w:Int) - 1).toNat=w - 1 by omega,show ((n:Int) - (w:Int)).toNat=n - w by omega]
 rfl
theorem Qo (xs:List D) (j:Nat):cutD xs none (some (j:Int))=xs.take j:=by
 unfold cutD
 rw [HT.MG,HT.MH,VN,Nat.sub_zero,List.take_eq_take_iff];omega
theorem xC {w n:Nat} (h0:0 < w) (h:w < n):(af.sF w n).map D.int=cutD ([D.int (w:Int)] ++ aD 1 ((w:Int) - 1).toNat ++ aD ((w:Int) + 1) ((n:Int) - ((w:Int) + 1)).toNat ++ [.int 0]) none (some (n:Int)):=by
 rw [Qo,List.take_of_length_le (by simp [fE];omega)]
 unfold af.sF aD
 rw [T6,T6,T6,Uq,Uq,show ((w:Int) - 1).toNat=w - 1 by omega,show ((n:Int) - ((w:Int) + 1)).toNat=n - (w + 1) by omega]
 rfl
def mQ (n:Nat) (xs ys:List Int):Prop:=af.Tn n xs/\af.Tn n ys/\∀ x:Int,0<=x->x < (n:Int)->af.i5 xs ys x
theorem K2 {xs:List Int} {v:Int} (h:v∈xs):xs.findIdx? (fun i=>decide (i=v))=some (xs.idxOf v):=by
 induction xs with
 | nil=>exact nomatch h
 | cons a r ih =>
  rw [List.findIdx?_cons]
  by_cases e:a=v
  ·subst e;simp
  ·have hm:v∈r:=by
    rcases Up.mp h with h | h
    ·exact absurd h.symm e
    ·exact h
   rw [decide_eq_false e,ih hm,List.idxOf_cons,show (a == v)=false by simpa using e]
   rfl
theorem Qp {xs:List D} {lo hi:Option Int} {d:D} (h:d∈cutD xs lo hi):d∈xs:=List.mem_of_mem_drop (List.mem_of_mem_take h)
theorem Qq (xs:List D) (lo hi:Option Int):(cutD xs lo hi).length<=xs.length:=by
 unfold cutD;rw [UJ,VW];omega
def q5 (S:Src) (ds:List D) (st:Store):Prop:=∀ (i:Nat) (st2:Store),i<=ds.length->Ex [] st st2->S.at i st2=some ds[i]?
theorem Qr {st st':Store} {r:Nat} {ds:List D} (h:items st r=some ds) (e:Ex [] st st'):items st' r=some ds:=by
 unfold items at h ⊢
 cases hx:st[r]? with
 | none=>rw [hx] at h;cases h
 | some o=>rw [e.keep _ _ hx (by simp)];rw [hx] at h;exact h
theorem rR (ds:List D) (st:Store):q5 (.fix ds) ds st:=fun i st2 hi _=>by
 show (if i<=ds.length then some ds[i]? else none)=_
 rw [if_pos hi]
theorem Qs {ds:List D} {st:Store} {r:Nat} (h:items st r=some ds):q5 (.live r) ds st:=fun i st2 hi e=>by
 show (items st2 r).map _=_
 rw [Qr h e];rfl
theorem rS {δ:aq} {st:Store} {fi:aq->Dm Src} {js:List Nat} {f:aq->Dm D} {Q:D->Store->Prop} (ds:List D) (h:D->D) (hi:Wp (fi δ st) fun S st1=>q5 S ds st1/\Ex [] st st1) (hl:ds.length < 100000)
  (step:∀ d∈ds,∀ st1,Ex [] st st1->Wp (f (some d :: js.map fun j=>δ.getD j none) st1) fun y st2=>y=h d/\Ex [] st1 st2) (fin:∀ st',Ex [] st st'->Q (.ref st'.length) (st' ++ [.lst (ds.map h)])):Wp (cQ fi 1 js (hName 0) dG f δ st) Q:=by
 obtain ⟨S,st1,e1,hS,k1⟩:=hi
 refine G8 ds (fun i ys δ' kY=>(∃ v,δ'=v :: js.map fun j=>δ.getD j none)/\ys=(ds.take i).map h/\Ex [] st1 kY) ⟨S,st1,e1,fun i ys δ' kY hi' hp=>hS i kY hi' hp.2.2,⟨none,rfl⟩,rfl,Ex.refl⟩ hl ?_ ?_ ?_
 ·rintro i ys δ' kY ⟨_,rfl,_⟩
  rw [TJ,UJ];omega
 ·rintro i d ys δ' kY hd ⟨⟨v,rfl⟩,rfl,k8⟩
  rw [Ha]
  show Wp (dG _ _) _
  rw [Hb]
  refine ⟨fun _=>?_,fun h=>absurd h (by decide)⟩
  refine bw (step d (T2 hd) kY (k1.trans k8)) ?_
  rintro y oS ⟨rfl,k9⟩
  refine ⟨⟨some d,rfl⟩,?_,k8.trans k9⟩
  obtain ⟨hlt,e⟩:=TK.mp hd
  rw [Ur hlt,T6,e];rfl
 ·rintro ys δ' kY ⟨_,rfl,k8⟩
  rw [UH]
  exact fin kY (k1.trans k8)
theorem xD {xs:List Int} {d:D} (h:d∈xs.map D.int):∃ x∈xs,d=.int x:=by
 obtain ⟨x,hx,rfl⟩:=Ub.mp h
 exact ⟨x,hx,rfl⟩
theorem Bp {xs:List Int} {f:Int->Int} {h:D->D} (e:∀ x∈xs,h (.int x)=.int (f x)):(xs.map D.int).map h=(xs.map f).map D.int:=by
 rw [Uq,Uq]
 exact Ux fun x hx=>e x hx
def inD:D->Int
 | .int i=>i
 | _=>0
section
variable {st:Store} {Q:D->Store->Prop}
end
theorem K3 (zs:List Int):(zs.map D.int).map inD=zs:=by rw [Uq];exact Vu zs
theorem _root_.af.sT {n:Nat} {xs ys p:List Int} (fl:mQ n xs ys) (tp:af.Tn n p) (n0:0 < n):mQ n (af.anew xs p) (af.anew ys p):=by
 obtain ⟨tx,ty,all⟩:=fl
 have tX:=tx.anew tp
 have tY:=ty.anew tp
 refine ⟨tX,tY,fun x x0 x1=>?_⟩
 obtain ⟨a0,a1⟩:=tp.app (i:=0) (by decide) (by omega)
 have hb:∀ y:Int,0<=y->y < (n:Int)->y∈af.bf (af.anew xs p) (af.anew ys p) (af.app p 0) n:=fun y y0 y1=>by
  rw [af.Gw tx ty tp (by decide) (by omega) n]
  obtain ⟨b0,b1⟩:=tp.lJ y0 y1
  exact Ub.mpr ⟨af.app (af.inv p) y,af.J5 tx ty (by decide) (by omega) all b0 b1,tp.cw y0 y1⟩
 have hF:=af.Gv tX tY (s:=0) (by decide) (by omega)
 have nd:=af.vU (af.anew xs p) (af.anew ys p) 0 n
 have bd:=af.pX tX tY (s:=0) (by decide) (by omega) n
 have Qu:∀ k,∀ y∈af.bf (af.anew xs p) (af.anew ys p) 0 k,af.i5 (af.anew xs p) (af.anew ys p) y:=by
  intro k
  induction k with
  | zero=>intro y hy;rw [Ud.mp (show y∈[(0:Int)] from hy)];exact .zero
  | succ k ih =>
   intro y hy
   have hy':y∈(match (af.bf (af.anew xs p) (af.anew ys p) 0 k)[k]? with | some x=>af.visit (af.anew xs p) (af.anew ys p) (af.bf (af.anew xs p) (af.anew ys p) 0 k) x | none=>af.bf (af.anew xs p) (af.anew ys p) 0 k):=hy
   split at hy'
   ·next z hz =>
    have uq:=ih z (T2 hz)
    rcases af.pF.mp hy' with hy' | rfl
    ·rcases af.pF.mp hy' with hy' | rfl
     ·exact ih y hy'
     ·exact uq.r
    ·exact uq.u
   ·exact ih y hy'
 refine Qu n x ?_
 have z0:(0:Int)∈af.bf (af.anew xs p) (af.anew ys p) 0 n:=by
  have:=af.yx (af.anew xs p) (af.anew ys p) 0 0 n
  rw [Vx] at this
  exact this.subset (show (0:Int)∈[(0:Int)] by simp)
 have back:∀ k,(∃ y∈af.bf (af.anew xs p) (af.anew ys p) (af.app p 0) k,y∈af.bf (af.anew xs p) (af.anew ys p) 0 n)->af.app p 0∈af.bf (af.anew xs p) (af.anew ys p) 0 n:=by
  intro k
  induction k with
  | zero =>
   rintro ⟨y,hy,sx⟩
   rw [Ud.mp (show y∈[af.app p 0] from hy)] at sx
   exact sx
  | succ k ih =>
   rintro ⟨y,hy,sx⟩
   have hy':y∈(match (af.bf (af.anew xs p) (af.anew ys p) (af.app p 0) k)[k]? with | some x=>af.visit (af.anew xs p) (af.anew ys p) (af.bf (af.anew xs p) (af.anew ys p) (af.app p 0) k) x | none=>af.bf (af.anew xs p) (af.anew ys p) (af.app p 0) k):=hy
   split at hy'
   ·next z hz =>
    have yy:=T2 hz
    obtain ⟨c0,c1⟩:=af.pX tX tY a0 a1 k z yy
    rcases af.pF.mp hy' with hy' | rfl
    ·rcases af.pF.mp hy' with hy' | rfl
     ·exact ih ⟨y,hy',sx⟩
     ·exact ih ⟨z,yy,af.Ap tX nd bd (fun x hx=>(hF x hx).1) c0 c1 sx⟩
    ·exact ih ⟨z,yy,af.Ap tY nd bd (fun x hx=>(hF x hx).2) c0 c1 sx⟩
   ·exact ih ⟨y,hy',sx⟩
 have hp0:=back n ⟨0,hb 0 (by decide) (by omega),z0⟩
 have fwd:∀ k,∀ y∈af.bf (af.anew xs p) (af.anew ys p) (af.app p 0) k,y∈af.bf (af.anew xs p) (af.anew ys p) 0 n:=by
  intro k
  induction k with
  | zero=>intro y hy;rw [Ud.mp (show y∈[af.app p 0] from hy)];exact hp0
  | succ k ih =>
   intro y hy
   have hy':y∈(match (af.bf (af.anew xs p) (af.anew ys p) (af.app p 0) k)[k]? with | some x=>af.visit (af.anew xs p) (af.anew ys p) (af.bf (af.anew xs p) (af.anew ys p) (af.app p 0) k) x | none=>af.bf (af.anew xs p) (af.anew ys p) (af.app p 0) k):=hy
   split at hy'
   ·next z hz =>
    have uq:=ih z (T2 hz)
    rcases af.pF.mp hy' with hy' | rfl
    ·rcases af.pF.mp hy' with hy' | rfl
     ·exact ih y hy'
     ·exact (hF z uq).1
    ·exact (hF z uq).2
   ·exact ih y hy'
 exact fwd n x (hb x x0 x1)
theorem xE (p:Key×D) (r:List (Key×D)) (k:Key):c4 (p :: r) k=if p.1=k then some p.2 else c4 r k:=by
 unfold c4
 rw [UO]
 by_cases e:p.1=k
 ·rw [decide_eq_true e,if_pos e];rfl
 ·rw [decide_eq_false e,if_neg e]
theorem Qv (kvs:List (Key×D)) (k j:Key) (y:D):c4 (putD kvs k y) j=if j=k then some y else c4 kvs j:=by
 unfold putD
 by_cases a:(kvs.any fun kv=>decide (kv.1=k))=true
 ·rw [if_pos a]
  induction kvs with
  | nil=>simp at a
  | cons p r ih =>
   rw [Ui,xE,xE]
   by_cases e:p.1=k
   ·rw [if_pos e]
    by_cases ej:j=k
    ·rw [if_pos ej,if_pos (show (p.1,y).1=j from e.trans ej.symm)]
    ·rw [if_neg ej,if_neg (show ¬ (p.1,y).1=j from fun z=>ej (z.symm.trans e)),if_neg (fun z=>ej (z.symm.trans e))]
     have:∀ l:List (Key×D),c4 (l.map fun kv=>if kv.1=k then (kv.1,y) else kv) j=c4 l j:=by
      intro l
      induction l with
      | nil=>rfl
      | cons q l ihl =>
       rw [Ui,xE,xE,ihl]
       by_cases eq:q.1=k
       ·rw [if_pos eq,if_neg (show ¬ (q.1,y).1=j from fun z=>ej (z.symm.trans eq)),if_neg (fun z=>ej (z.symm.trans eq))]
       ·rw [if_neg eq]
     exact this r
   ·rw [if_neg e]
    have a':(r.any fun kv=>decide (kv.1=k))=true:=by
     rw [UL,decide_eq_false e,Bool.false_or] at a
     exact a
    rw [ih a']
    by_cases ej:j=k
    ·rw [if_pos ej,if_neg (fun z=>e (z.trans ej)),if_pos ej]
    ·rw [if_neg ej,if_neg ej]
 ·rw [if_neg a]
  induction kvs with
  | nil =>
   show c4 [(k,y)] j=_
   rw [xE]
   by_cases ej:j=k
   ·rw [if_pos ej.symm,if_pos ej]
   ·rw [if_neg (fun z=>ej z.symm),if_neg ej]
  | cons p r ih =>
   have a':¬ (r.any fun kv=>decide (kv.1=k))=true:=fun z=>a (by rw [UL,z,Bool.or_true])
   have ep:p.1≠k:=fun z=>a (by rw [UL,decide_eq_true z,Bool.true_or])
   rw [List.cons_append,xE,ih a',xE]
   by_cases ej:j=k
   ·rw [if_pos ej,if_pos ej,if_neg (fun z=>ep (z.trans ej))]
   ·rw [if_neg ej,if_neg ej]
theorem Qw (kvs:List (Key×D)) (k:Key) (v:D):(putD kvs k v).length<=kvs.length + 1:=by
 unfold putD
 split
 ·rw [TJ];omega
 ·rw [TN,Uo,List.length_nil];omega
theorem K4 {st:Store} {i:Nat} {kvs:List (Key×D)} (h:st[i]?=some (.dct kvs)):jf st (.ref i)=some kvs:=by simp only [jf,h]
theorem K5 (i:Int):keyOf (.int i)=some (.inl i):=rfl
theorem Qx {r:List Int} {j:Nat} (h:j < r.length) (x:Int):(r.take (j + 1)).contains x=((r.take j).contains x || x == r[j]):=by
 rw [Ur h,List.contains_append]
 congr 1
 show ([r[j]]:List Int).contains x=(x == r[j])
 rw [List.contains_cons,List.contains_nil,Bool.or_false]
abbrev eW:=Bool×Int
def aW (s:eW):D:=.tup [.str (if s.1 then "s" else "t"),.int s.2]
section
variable {X:Cx} {K:Zfr}
end
section
variable {K:Zfr}
def rf (neg:Bool):D->D->Dm D
 | a,.non,st=>some (.bl (match a with | .non=>!neg | _=>neg),st)
 | _,_,_=>none
def uL (neg:Bool):R2:=fun x y H Q=>y=.non/\Q (.bl (if neg then !decide (x=.non) else decide (x=.non))) H
theorem xF (neg:Bool):lX K (uL neg) (rf neg):=by
 intro ρ H st x y a c b st' Q l rx ry e q
 unfold rf at e
 split at e
 ·cases e
  cases ry
  refine ⟨rfl,?_⟩
  have k:=q _ H ρ .refl l (.bl _)
  cases rx <;> cases neg <;> exact k
 ·cases e
end
section
variable {X:Cx}
theorem Qy:kQ X (compareOp .Is) (uL false):=vo
end
theorem at2 {α:Type} (x y z:α) (xs:List α):c5 (x :: y :: z :: xs) 2=some z:=by
 unfold c5 lF
 rw [if_pos (by decide),if_pos (by simp only [Uo];omega)]
 rfl
theorem Qz {α:Type} (x y z u:α) (xs:List α):c5 (x :: y :: z :: u :: xs) 3=some u:=by
 unfold c5 lF
 rw [if_pos (by decide),if_pos (by simp only [Uo];omega)]
 rfl
section
variable {st:Store} {Q:D->Store->Prop}
theorem QA {neg:Bool}:Wp (rf neg .non .non st) Q↔Q (.bl (!neg)) st:=bC
theorem QB {neg:Bool} {i:List D}:Wp (rf neg (.tup i) .non st) Q↔Q (.bl neg) st:=bC
end
theorem QC {δ:aq} {st:Store} {fi:aq->Dm Src} {js:List Nat} {f:aq->Dm D} {Q:D->Store->Prop} (ds:List D) (P:Nat->D->Prop) (I:Store->Prop)
  (hi:Wp (fi δ st) fun S st1=>(∀ i st2,i<=ds.length->I st2->S.at i st2=some ds[i]?)/\I st1) (hl:ds.length < 100000)
  (step:∀ i d,ds[i]?=some d->∀ st1,I st1->Wp (f (some d :: js.map fun j=>δ.getD j none) st1) fun y st2=>P i y/\I st2)
  (fin:∀ ys st',I st'->ys.length=ds.length->(∀ i y,ys[i]?=some y->P i y)->Q (.ref st'.length) (st' ++ [.lst ys])):Wp (cQ fi 1 js (hName 0) dG f δ st) Q:=by
 obtain ⟨S,st1,e1,hS,k1⟩:=hi
 refine G8 ds (fun i ys δ' kY=>(∃ v,δ'=v :: js.map fun j=>δ.getD j none)/\ys.length=i/\(∀ i y,ys[i]?=some y->P i y)/\I kY) ⟨S,st1,e1,fun i ys δ' kY hi' hp=>hS i kY hi' hp.2.2.2,⟨none,rfl⟩,rfl,(fun i y h=>by simp at h),k1⟩ hl ?_ ?_ ?_
 ·rintro i ys δ' kY ⟨_,h,_⟩
  omega
 ·rintro i d ys δ' kY hd ⟨⟨v,rfl⟩,hlen,hP,k8⟩
  rw [Ha]
  show Wp (dG _ _) _
  rw [Hb]
  refine ⟨fun _=>?_,fun h=>absurd h (by decide)⟩
  refine bw (step i d hd kY k8) ?_
  rintro y oS ⟨hp,k9⟩
  refine ⟨⟨some d,rfl⟩,by rw [TN,hlen];rfl,fun j z hz=>?_,k9⟩
  by_cases hj:j < ys.length
  ·rw [T1 hj] at hz;exact hP j z hz
  ·have hb:=cZ hz
   rw [TN,UW] at hb
   have e:j=ys.length:=by omega
   subst e
   rw [Uc (TM _),UR] at hz
   cases hz
   rw [hlen];exact hp
 ·rintro ys δ' kY ⟨_,hlen,hP,k8⟩
  exact fin ys kY k8 hlen hP
theorem Ex.drop {st st1 st2:Store} {f:Nat} (a:Ex [] st st1) (b:Ex [f] st1 st2) (h:st.length<=f):Ex [] st st2:=⟨Uh a.len b.len,fun i o e n=>b.keep i o (a.keep i o e n) (by have:=cZ e;simp;omega)⟩
def kZ (x:Str):List D:=x.cps.toList.map fun c=>.str ⟨#[c]⟩
section
variable {K:Zfr}
end
section
variable {st:Store} {Q:D->Store->Prop}
end
section
variable {K:Zfr}
end
section
variable {st:Store}
end
section
variable {X:Cx} {K:Zfr}
end
structure nB (K:Zfr) (mg:Str->Option Value) (x:Str) (v:V) (d:D):Prop where
 ex:∃ u,mg x=some u/\RelV v u
 rp:∀ (ρ:List Addr) (H:Hp),Rp K ρ H v d
theorem xG {X:Cx} {K:Zfr} {mg:Str->Option Value} {x:Str} {v:V} {d:D} {pos:Pos} (C:nB K mg x v d) (hg:Gl X x) (hX:X.mg=mg) (hd:(x == ("__debug__" : Str))=false):PE X (.Name x pos) (tC v):=by
 obtain ⟨u,h,r⟩:=C.ex
 subst hX
 exact Mr hg h r hd
theorem xH {K:Zfr} {mg:Str->Option Value} {x:Str} {v:V} {d:D} (C:nB K mg x v d):gj K (tC v) (fC d):=qN C.rp
theorem DT {K:Zfr} {h:Heap} {mg:Str->Option Value} (X:K.In h) (G:h.Ns mainGlobals mg) {x:Str} {a:Addr} {od:Option Addr} {its:Array Value} {n:Nat} {sl:Array (Option Value)} {vs:List V} {ds:List D} (e:PySem.W.nsIn K mainGlobals x=some (some (.ref a))) (l:K.lookup a=some ⟨.type "tuple",od,.seq its n,sl⟩)
  (ho:od=none) (hz:its.size<=sizeLine) (hv:Vals vs its.toList) (hd:∀ (ρ:List Addr) (H:Hp),cg K ρ H vs ds):∃ v,nB K mg x v (.tup ds) :=
 ⟨.ref a,⟨_,PySem.W.mg_of X G e,rfl⟩,fun ρ H=>.tup (.inr ⟨_,its,n,l,rfl,ho,rfl,hz,hv⟩) (hd ρ H)⟩
def pU:Nat->D->Prop
 | _,.int _=>True
 | _,.str x=>PyData.canLay0 (.str x)=true
 | _,.non=>True
 | n + 1,.tup ds=>∀ d∈ds,pU n d
 | _,_=>False
def gS:Nat->D->PyData
 | _,.int i=>.int i
 | _,.str x=>.str x
 | n + 1,.tup ds=>.tuple (ds.map (gS n))
 | _,_=>.none
theorem Bq {α β:Type} {f:α->Option β} {g:α->β}:∀ {l:List α},(∀ x∈l,f x=some (g x))->bZ f l=some (l.map g)
 | [],_=>rfl
 | a :: r,h=>by
  have h1:=h a TU
  have h2:=Bq (f:=f) (g:=g) (l:=r) fun x hx=>h x (TY _ hx)
  simp only [bZ,h1,h2,Ui]
theorem rT:∀ (n:Nat) (d:D),pU n d->∀ (m:Nat),n < m->∀ st,dX st m d=some (gS n d)
 | n,.int i,_,m + 1,_,st=>by cases n <;> rfl
 | n,.str x,_,m + 1,_,st=>by cases n <;> rfl
 | n,.non,_,m + 1,_,st=>by cases n <;> rfl
 | n,.bl b,h,_,_,_=>by cases n <;> exact h.elim
 | n,.ty b,h,_,_,_=>by cases n <;> exact h.elim
 | n,.ref b,h,_,_,_=>by cases n <;> exact h.elim
 | 0,.tup ds,h,_,_,_=>h.elim
 | n + 1,.tup ds,h,m + 1,hm,st=>by
  simp only [dX]
  rw [Bq (g:=gS n) fun x hx=>rT n x (h x hx) m (by omega) st]
  rfl
theorem Hj:∀ {l:List PyData},(∀ x∈l,x.canLay0=true)->PyData.canLayAll0 l=true
 | [],_=>rfl
 | a :: r,h=>by
  simp only [PyData.canLayAll0,h a TU,Hj fun x hx=>h x (TY _ hx),Bool.and_self]
theorem Hk {n:Nat}:∀ {l:List PyData},(∀ x∈l,x.depth<=n)->PyData.depthAll l<=n
 | [],_=>Uw _
 | a :: r,h=>by
  have h1:=h a TU
  have h2:=Hk fun x hx=>h x (TY _ hx)
  simp only [PyData.depthAll]
  omega
theorem rg:∀ (n:Nat) (d:D),pU n d->(gS n d).canLay0=true/\(gS n d).depth<=n
 | n,.int i,_=>by cases n <;> exact ⟨rfl,Uw _⟩
 | n,.str x,h=>by cases n <;> exact ⟨h,Uw _⟩
 | n,.non,_=>by cases n <;> exact ⟨rfl,Uw _⟩
 | n,.bl b,h=>by cases n <;> exact h.elim
 | n,.ty b,h=>by cases n <;> exact h.elim
 | n,.ref b,h=>by cases n <;> exact h.elim
 | 0,.tup ds,h=>h.elim
 | n + 1,.tup ds,h=>by
  refine ⟨?_,?_⟩
  ·show PyData.canLayAll0 (ds.map (gS n))=true
   exact Hj fun x hx=>by
    obtain ⟨d,hd,rfl⟩:=Ub.mp hx
    exact (rg n d (h d hd)).1
  ·show PyData.depthAll (ds.map (gS n)) + 1<=n + 1
   have:=Hk (n:=n) (l:=ds.map (gS n)) fun x hx=>by
    obtain ⟨d,hd,rfl⟩:=Ub.mp hx
    exact (rg n d (h d hd)).2
   omega
theorem Hl {n:Nat} (ih:∀ a b:D,pU n a->pU n b->(PyData.eqv (gS n a) (gS n b)=true↔a=b)):∀ (l m:List D),(∀ x∈l,pU n x)->(∀ x∈m,pU n x)->(PyData.eqvAll (l.map (gS n)) (m.map (gS n))=true↔l=m)
 | [],[],_,_=>by simp [PyData.eqvAll]
 | [],_ :: _,_,_=>by simp [PyData.eqvAll]
 | _ :: _,[],_,_=>by simp [PyData.eqvAll]
 | a :: l,b :: m,h1,h2=>by
  have e1:=ih a b (h1 a TU) (h2 b TU)
  have e2:=Hl ih l m (fun x hx=>h1 x (TY _ hx)) fun x hx=>h2 x (TY _ hx)
  simp only [Ui,PyData.eqvAll,Ua,e1,e2,List.cons.injEq]
theorem yH:∀ (n:Nat) (a b:D),pU n a->pU n b->(PyData.eqv (gS n a) (gS n b)=true↔a=b):=by
 intro n
 induction n with
 | zero =>
  intro a b ha hb
  cases a <;> first | exact ha.elim | skip
  all_goals (cases b <;> first | exact hb.elim | simp [gS,PyData.eqv])
 | succ n ih =>
  intro a b ha hb
  cases a <;> first | exact ha.elim | skip
  all_goals (cases b <;> first | exact hb.elim | skip)
  all_goals first
   | (simp [gS,PyData.eqv];done)
   | skip
  next l m =>
   have:=Hl ih l m ha hb
   show PyData.eqv (.tuple (l.map (gS n))) (.tuple (m.map (gS n)))=true↔_
   rw [Ql,this]
   constructor
   ·rintro rfl;rfl
   ·intro h;exact D.tup.inj h
open Classical in
theorem xI {st:Store} {Q:D->Store->Prop} {neg:Bool} {n:Nat} {a b:D} (ha:pU n a) (hb:pU n b) (hn:n<=15):Wp (lM neg a b st) Q↔Q (.bl (if neg then !decide (a=b) else decide (a=b))) st:=by
 have e:PyData.eqv (gS n a) (gS n b)=decide (a=b):=by
  have:=yH n a b ha hb
  cases h:PyData.eqv (gS n a) (gS n b) with
  | true=>exact (decide_eq_true (this.mp h)).symm
  | false=>exact (decide_eq_false fun z=>by rw [this.mpr z] at h;cases h).symm
 rw [G9]
 constructor
 ·rintro ⟨p,q,h1,h2,_,h⟩
  rw [rT n a ha 20 (by omega)] at h1
  rw [rT n b hb 20 (by omega)] at h2
  cases h1
  cases h2
  rw [e] at h
  exact h
 ·intro h
  refine ⟨_,_,rT n a ha 20 (by omega) st,rT n b hb 20 (by omega) st,⟨(rg n a ha).1,(rg n b hb).1,?_⟩,?_⟩
  ·have:=(rg n a ha).2
   omega
  ·rw [e];exact h
theorem K7 (n:Nat) (L:List Int):pU (n + 1) (.tup (L.map D.int)):=fun d hd=>by
 obtain ⟨x,_,rfl⟩:=Ub.mp hd
 cases n <;> trivial
theorem uM (n:Nat) (s:eW):pU (n + 1) (aW s):=fun d hd=>by
 have hd:d=.str (if s.1 then "s" else "t")\/d=.int s.2:=by simpa [aW] using hd
 rcases hd with rfl | rfl
 ·have h:PyData.canLay0 (.str (if s.1=true then "s" else "t" : Str))=true:=by cases s.1 <;> decide +kernel
  cases n <;> exact h
 ·cases n <;> trivial
theorem Hm (n:Nat) (xs ys:List Int):pU (n + 2) (b6 xs ys):=fun d hd=>by
 have hd:d=.tup (xs.map D.int)\/d=.tup (ys.map D.int):=by simpa [b6] using hd
 rcases hd with rfl | rfl
 ·exact K7 n xs
 ·exact K7 n ys
def oI (neg:Bool):D->D->Dm D:=fun a c st=>match dX st 20 a,(cz st c).bind (bZ (dX st 19)) with
 | some dx,some ds=>if dx.canLay0 && ds.all PyData.canLay0 && decide (dx.depth<=60) then some (.bl (if neg then !ds.any (fun d=>PyData.eqv d dx) else ds.any fun d=>PyData.eqv d dx),st) else none
 | _,_=>none
section
variable {K:Zfr}
theorem DV {ρ:List Addr} {H:Hp} {st:Store} (l:Rl K ρ H st) (n:Nat):∀ {vs:List V} {ds:List D} {ps:List PyData},cg K ρ H vs ds->bZ (dX st n) ds=some ps->eN K H vs ps
 | _,_,_,.nil,h=>by cases h;exact .nil
 | _,_,_,.cons a b,h=>by
  obtain ⟨x,t,h1,h2,rfl⟩:=AW h
  exact .cons (wo l n a h1) (DV l n b h2)
theorem K8 (neg:Bool):lX K (Ad K neg) (oI neg):=by
 intro ρ H st x y a c b st' Q l rx ry e q
 unfold oI at e
 split at e
 ·next dx ds h1 h2 =>
  split at e
  ·next ok =>
   cases e
   rw [Ua,Ua,decide_eq_true_eq,Ve] at ok
   obtain ⟨es,h3,h4⟩:=UM.mp h2
   obtain ⟨p,xs,rfl,hq,rr⟩:∃ p xs,y=.ref p/\(iZ K H p xs\/dW K H p xs)/\cg K ρ H xs es:=by
    cases ry with
    | non=>cases h3
    | bl _=>cases h3
    | int _=>cases h3
    | str _=>cases h3
    | ty _=>cases h3
    | ref hi=>obtain ⟨vs,s,r⟩:=l.items hi h3;exact ⟨_,vs,rfl,.inl s,r⟩
    | tup s r=>cases h3;exact ⟨_,_,rfl,.inr s,r⟩
   exact ⟨p,xs,ds,dx,rfl,hq,DV l 19 rr h4,wo l 20 rx h1,ok.1.2,ok.1.1,ok.2,q _ H ρ .refl l (.bl _)⟩
  ·cases e
 ·cases e
end
open Classical in
theorem K9 {st:Store} {Q:D->Store->Prop} {neg:Bool} {n:Nat} {a c:D} {es:List D} (ha:pU n a) (hc:cz st c=some es) (he:∀ e∈es,pU n e) (hn:n<=15):Wp (oI neg a c st) Q↔Q (.bl (if neg then !decide (a∈es) else decide (a∈es))) st:=by
 have h1:=rT n a ha 20 (by omega) st
 have h2:bZ (dX st 19) es=some (es.map (gS n)):=Bq fun x hx=>rT n x (he x hx) 19 (by omega) st
 have ea:(es.map (gS n)).any (fun d=>PyData.eqv d (gS n a))=decide (a∈es):=by
  rw [Vh,VY,decide_eq_true_eq]
  constructor
  ·rintro ⟨d,hd,h⟩
   obtain ⟨x,hx,rfl⟩:=Ub.mp hd
   rw [<- (yH n x a (he x hx) ha).mp h]
   exact hx
  ·intro h
   exact ⟨_,Ub.mpr ⟨a,h,rfl⟩,(yH n a a ha ha).mpr rfl⟩
 have l1:=rg n a ha
 have l2:(es.map (gS n)).all PyData.canLay0=true:=by
  rw [Ve]
  intro d hd
  obtain ⟨x,hx,rfl⟩:=Ub.mp hd
  exact (rg n x (he x hx)).1
 have e:oI neg a c st=some (.bl (if neg then !decide (a∈es) else decide (a∈es)),st):=by
  unfold oI
  simp only [h1,hc,U3,h2,ea,l1.1,l2,Bool.true_and,decide_eq_true_eq]
  rw [if_pos (by omega)]
 rw [e,bC]
def DW:D->Option (List D)
 | .tup ds=>some ds
 | .str x=>if x.length<=sizeLine then some (kZ x) else none
 | _=>none
def oJ (fa:aq->Dm (List D)):aq->Dm Src:=fun δ st=>bnd (fa δ st) fun as st1=>match as with
 | [a]=>match DW a with
  | some ds=>some (.fix ds.reverse,st1)
  | none=>none
 | _=>none
section
variable {K:Zfr}
theorem Br {ρ:List Addr} {H:Hp} {x:V} {a:D} {ds:List D} (r:Rp K ρ H x a) (h:DW a=some ds):∃ src:ZS,src.val K H x/\(∀ a,src≠.lst a)/\(∀ z,src=.str z->z.length<=sizeLine)/\∀ (ρ2:List Addr) (H2:Hp),Mn K ρ H ρ2 H2->∀ i,(∀ d,ds[i]?=some d->∃ v,src.has K H2 i v/\Rp K ρ2 H2 v d)/\(i=ds.length->src.fin K H2 i):=by
 cases r with
 | non=>cases h
 | bl b=>cases h
 | int i=>cases h
 | ty n=>cases h
 | ref e=>cases h
 | str x =>
  unfold DW at h
  simp only at h
  split at h
  ·next hx =>
   cases h
   refine ⟨.str x,rfl,nofun,fun z e=>by cases e;exact hx,fun ρ2 H2 m i=>⟨fun d hd=>?_,fun e=>?_⟩⟩
   ·unfold kZ at hd
    rw [TR] at hd
    obtain ⟨c,hc,rfl⟩:=Uj.mp hd
    have hc':x.cps[i]?=some c:=by simpa using hc
    exact ⟨_,⟨c,hc',rfl⟩,.str _⟩
   ·show x.cps.size=i
    rw [e];simp [kZ]
  ·cases h
 | tup s r =>
  cases h
  refine ⟨.tup _,⟨rfl,_,s⟩,nofun,nofun,fun ρ2 H2 m i=>⟨fun d hd=>?_,fun e=>?_⟩⟩
  ·obtain ⟨v,hv,rv⟩:=r.got hd
   exact ⟨v,⟨_,m.t _ _ s,hv⟩,rv.mn m⟩
  ·exact ⟨_,m.t _ _ s,by rw [r.length];exact e.symm⟩
theorem La {t:TA} {fa:aq->Dm (List D)} (ha:pI K t fa):uG K (Af K t) (oJ fa):=by
 intro ρ σ H δ st S st' Q l rs e q
 obtain ⟨as,st1,e1,e⟩:=dF e
 split at e
 ·next a =>
  split at e
  ·next ds h1 =>
   cases e
   refine ha ρ σ H δ st _ _ _ l rs e1 fun xs H1 ρ1 m1 l1 r1=>?_
   obtain ⟨x,rfl,rx⟩:=r1.one'
   obtain ⟨s1,v1,nl,hz,g1⟩:=Br rx h1
   refine ⟨x,s1,ds.length,rfl,v1,(g1 ρ1 H1 Mn.refl ds.length).2 rfl,nl,hz,q _ H1 ρ1 m1 l1 fun ρ2 H2 st2 i m2 l2=>⟨fun h=>?_,fun d h=>?_⟩⟩
   ·obtain ⟨hl,hn⟩:=uF h
    have:=Uv.mp hn
    simp only [Uu] at this hl
    exact (show i=ds.length by omega)
   ·have hd:=(uF h).2
    have hi:i < ds.length:=by simpa using (TK.mp hd).1
    rw [List.getElem?_reverse hi] at hd
    obtain ⟨v,hv,rv⟩:=(g1 ρ2 H2 m2 _).1 d hd
    refine ⟨⟨hi,v,hv⟩,fun z H3 hz=>?_⟩
    obtain ⟨rfl,k1⟩:=hz
    cases k1 _ hv
    exact ⟨Mn.refl,l2,rv⟩
  ·cases e
 ·cases e
end
section
variable {st:Store}
theorem Lb {δ:aq} {fa:aq->Dm (List D)} {R:Src->Store->Prop}:Wp (oJ fa δ st) R↔Wp (fa δ st) fun as st1=>∃ a ds,as=[a]/\DW a=some ds/\R (.fix ds.reverse) st1:=by
 unfold oJ;rw [cN]
 constructor <;> refine fun h=>bw h fun as s h=>?_
 ·split at h
  ·next a =>
   split at h
   ·next ds h1=>exact ⟨a,ds,rfl,h1,bC.mp h⟩
   ·exact (eV.mp h).elim
  ·exact (eV.mp h).elim
 ·obtain ⟨a,ds,rfl,h1,h⟩:=h
  simp only [h1]
  exact bC.mpr h
end
section
variable {K:Zfr}
end
section
variable {st:Store} {Q:D->Store->Prop}
end
section
variable {K:Zfr}
end
section
variable {K:Zfr}
end
section
variable {K:Zfr}
end
section
variable {K:Zfr}
end
section
variable {δ:aq} {st:Store} {N B C:aq->Store->Prop} {R:D->Store->Prop}
end
section
variable {K:Zfr}
end
section
variable {δ:aq} {st:Store} {N B C:aq->Store->Prop} {R:D->Store->Prop}
end
def pM (ps:List PyData):Bool:=decide (0 < ps.length) && ps.all (fun a=>ps.all fun b=>qE a b) && ps.all fun a=>a.canLay0 && decide (a.depth<=50)
def lI:List D->Dm D
 | [.ref r],st=>match own st r with
  | some ds=>match bZ (dX st 20) ds with
   | some ps=>if pM ps=true then (match ds[mW ps]? with | some d=>some (d,st) | none=>none) else none
   | none=>none
  | none=>none
 | _,_=>none
section
variable {K:Zfr}
theorem Lc:qa K (ug K) lI:=by
 intro ρ H st xs as b st' Q l rx e q
 unfold lI at e
 split at e
 ·next r kK =>
  split at e
  ·next ds hd =>
   split at e
   ·next ps hp =>
    split at e
    ·next hok =>
     split at e
     ·next d hd0 =>
      cases e
      obtain ⟨v,rfl,r⟩:=rx.one'
      cases r with
      | ref hi =>
       obtain ⟨vs,hs,rr⟩:=l.items hi (bF (qb hd))
       obtain ⟨v,hv,rv⟩:=rr.got hd0
       simp only [pM,Ua,decide_eq_true_eq,Ve] at hok
       exact ⟨_,vs,ps,rfl,hs,DV l 20 rr hp,hok.1.1,hok.1.2,hok.2,v,hv,q v H ρ .refl l rv⟩
     ·cases e
    ·cases e
   ·cases e
  ·cases e
 ·cases e
end
theorem QD {st:Store} {Q:D->Store->Prop} {r:Nat} {ds:List D} {ps:List PyData} (h:own st r=some ds) (hp:bZ (dX st 20) ds=some ps) (hok:pM ps=true) {d:D} (hd:ds[mW ps]?=some d):Wp (lI [.ref r] st) Q↔Q d st:=by
 have e:lI [.ref r] st=some (d,st):=by simp only [lI,h,hp,hok,hd,if_true]
 rw [e,bC]
def tupI (xs:List Int):PyData:=.tuple (xs.map PyData.int)
def kb (p:af.aU):PyData:=.tuple [tupI p.1,tupI p.2]
theorem Hn:∀ xs ys:List Int,mx (xs.map PyData.int) (ys.map PyData.int)=af.oP xs ys
 | [],[]=>rfl
 | [],_ :: _=>rfl
 | _ :: _,[]=>rfl
 | x :: xs,y :: ys=>by
  show (if (x == y)=true then mx (xs.map PyData.int) (ys.map PyData.int) else decide (x < y))=if x=y then af.oP xs ys else decide (x < y)
  rw [Hn xs ys]
  by_cases h:x=y
  ·rw [if_pos h,if_pos (by simp [h])]
  ·rw [if_neg h,if_neg (by simp [h])]
theorem Ld (xs ys:List Int):PyData.eqv (tupI xs) (tupI ys)=decide (xs=ys):=Dl xs ys
theorem QE (p q:af.aU):yt (kb p) (kb q)=af.my p q:=by
 show (if PyData.eqv (tupI p.1) (tupI q.1)=true then (if PyData.eqv (tupI p.2) (tupI q.2)=true then false else mx (p.2.map PyData.int) (q.2.map PyData.int)) else mx (p.1.map PyData.int) (q.1.map PyData.int))=if p.1=q.1 then af.oP p.2 q.2 else af.oP p.1 q.1
 rw [Ld,Ld,Hn,Hn]
 by_cases a:p.1=q.1
 ·rw [if_pos a,if_pos (decide_eq_true a)]
  by_cases b:p.2=q.2
  ·rw [if_pos (decide_eq_true b),b,af.DA]
  ·rw [if_neg (by simp [b])]
 ·rw [if_neg a,if_neg (by simp [a])]
theorem Ho:∀ xs ys:List Int,nH (xs.map PyData.int) (ys.map PyData.int)=true
 | [],_=>rfl
 | _ :: _,[]=>rfl
 | x :: xs,y :: ys=>by show (true && nH (xs.map PyData.int) (ys.map PyData.int))=true;rw [Ho xs ys];rfl
theorem QF (p q:af.aU):qE (kb p) (kb q)=true:=by
 show (nH (p.1.map PyData.int) (q.1.map PyData.int) && (nH (p.2.map PyData.int) (q.2.map PyData.int) && true))=true
 rw [Ho,Ho];rfl
theorem QG (p:af.aU):(kb p).canLay0=true/\(kb p).depth<=50:=by
 refine ⟨?_,?_⟩
 ·show (PyData.canLayAll0 (bS p.1) && (PyData.canLayAll0 (bS p.2) && true))=true
  rw [vK,vK];rfl
 ·show max (PyData.depthAll (bS p.1) + 1) (max (PyData.depthAll (bS p.2) + 1) 0) + 1<=50
  rw [yn,yn];decide
theorem Le (l:List af.aU):∀ k,k < l.length->l[argBest (fun i j=>af.my (l.getD i ([],[])) (l.getD j ([],[]))) k]?=some (af.mz (l.take (k + 1)))
 | 0,h=>by
  cases l with
  | nil=>simp at h
  | cons p l=>rfl
 | k + 1,h=>by
  have ih:=Le l k (by omega)
  generalize hb:argBest (fun i j=>af.my (l.getD i ([],[])) (l.getD j ([],[]))) k=b at ih
  have e1:l.getD b ([],[])=af.mz (l.take (k + 1)):=by rw [T9,ih];rfl
  have e2:af.mz (l.take (k + 1 + 1))=if af.my (l.getD (k + 1) ([],[])) (af.mz (l.take (k + 1))) then l.getD (k + 1) ([],[]) else af.mz (l.take (k + 1)):=by
   have et:l.take (k + 1 + 1)=l.take (k + 1) ++ [l.getD (k + 1) ([],[])]:=by
    rw [Ur h,T9,TL h];rfl
   rw [et]
   cases l with
   | nil=>simp at h
   | cons p l =>
    show ((l.take k ++ [_]).foldl _ p)=_
    rw [UN]
    rfl
  show l[if (af.my (l.getD (k + 1) ([],[])) (l.getD (argBest _ k) ([],[])))=true then k + 1 else argBest _ k]?=_
  rw [hb,e1,e2]
  split
  ·rw [T9,TL h];rfl
  ·exact ih
theorem QH (st:Store) (p:af.aU):dX st 20 (b6 p.1 p.2)=some (kb p):=by
 have h:∀ (m:Nat) (xs:List Int),bZ (dX st (m + 1)) (xs.map D.int)=some (xs.map PyData.int):=fun m xs=>by
  have:=uC (f:=dX st (m + 1)) (g:=D.int) (k:=PyData.int) (fun _=>rfl) xs
  exact this
 show (bZ (dX st 19) [D.tup (p.1.map D.int),D.tup (p.2.map D.int)]).map PyData.tuple=_
 have e1:dX st 19 (D.tup (p.1.map D.int))=some (tupI p.1):=by show (bZ (dX st 18) (p.1.map D.int)).map PyData.tuple=_;rw [h];rfl
 have e2:dX st 19 (D.tup (p.2.map D.int))=some (tupI p.2):=by show (bZ (dX st 18) (p.2.map D.int)).map PyData.tuple=_;rw [h];rfl
 simp only [bZ,e1,e2]
 rfl
theorem Lf {st:Store} {Q:D->Store->Prop} {r:Nat} {l:List af.aU} (h:own st r=some (l.map fun p=>b6 p.1 p.2)) (hn:0 < l.length):Wp (lI [.ref r] st) Q↔Q (b6 (af.mz l).1 (af.mz l).2) st:=by
 have hp:bZ (dX st 20) (l.map fun p=>b6 p.1 p.2)=some (l.map kb):=uC (f:=dX st 20) (g:=fun p:af.aU=>b6 p.1 p.2) (k:=kb) (fun p=>QH st p) l
 refine QD h hp ?_ ?_
 ·simp only [pM,Ua,decide_eq_true_eq,Ve,TJ]
  refine ⟨⟨hn,fun a ha b hb=>?_⟩,fun a ha=>?_⟩
  ·obtain ⟨p,_,rfl⟩:=Ub.mp ha
   obtain ⟨q,_,rfl⟩:=Ub.mp hb
   exact QF p q
  ·obtain ⟨p,_,rfl⟩:=Ub.mp ha
   exact QG p
 ·have hb:=Le l (l.length - 1) (by omega)
  rw [show l.length - 1 + 1=l.length by omega,UH] at hb
  have e:∀ k,k < l.length->argBest (sD (l.map kb)) k=argBest (fun i j=>af.my (l.getD i ([],[])) (l.getD j ([],[]))) k/\argBest (fun i j=>af.my (l.getD i ([],[])) (l.getD j ([],[]))) k < l.length:=by
   intro k
   induction k with
   | zero=>intro hk;exact ⟨rfl,hk⟩
   | succ k ih =>
    intro hk
    obtain ⟨e1,e2⟩:=ih (by omega)
    have eb:sD (l.map kb) (k + 1) (argBest (sD (l.map kb)) k)=af.my (l.getD (k + 1) ([],[])) (l.getD (argBest (fun i j=>af.my (l.getD i ([],[])) (l.getD j ([],[]))) k) ([],[])):=by
     rw [e1]
     unfold sD
     rw [T9,T9,TR,TR,TL hk,TL e2,T9,T9,TL hk,TL e2]
     exact QE _ _
    refine ⟨?_,?_⟩
    ·show (if sD (l.map kb) (k + 1) (argBest (sD (l.map kb)) k)=true then k + 1 else argBest (sD (l.map kb)) k)=if _=true then k + 1 else _
     rw [eb,e1]
    ·show (if _=true then k + 1 else _) < l.length
     split
     ·exact hk
     ·exact e2
  unfold mW
  rw [TJ,(e (l.length - 1) (by omega)).1,TR,hb]
  rfl
section
variable {K:Zfr}
end
section
variable {K:Zfr}
def sU (T:String) (g:D->List D->Dm D) (fo:aq->Dm D):aq->Dm D:=fun δ st=>bnd (fo δ st) fun o st1=>if rP T st1 o=true then g o [] st1 else none
theorem xJ {T:String} {r:V->List V->Hp->VK->Prop} {g:D->List D->Dm D} {to:TE} {fo:aq->Dm D} (hr:uv K T r g) (ho:gj K to fo):gj K (zK K T r to) (sU T g fo):=by
 intro ρ σ H δ st b st' Q l rs e q
 obtain ⟨o,st1,e1,e⟩:=dF e
 split at e
 ·next ht =>
  refine ho ρ σ H δ st o st1 _ l rs e1 fun x H1 ρ1 m1 l1 r1=>⟨KC l1 r1 ht,?_⟩
  exact hr ρ1 H1 st1 x [] o [] b st' Q l1 r1 .nil e fun v H3 ρ3 m3 l3 r3=>q v H3 ρ3 (m1.trans m3) l3 r3
 ·cases e
end
section
variable {st:Store} {Q:D->Store->Prop} {i:Nat}
theorem Bs {α:Type} {m:Option (α×Store)} {R R':α->Store->Prop} (h:∀ a s,R a s↔R' a s):Wp m R↔Wp m R':=by
 have e:R=R':=funext fun a=>funext fun s=>propext (h a s)
 rw [e]
theorem xK {T:String} {g:D->List D->Dm D} {fo:aq->Dm D} {δ:aq}:Wp (sU T g fo δ st) Q↔Wp (fo δ st) fun o st1=>rP T st1 o=true/\Wp (g o [] st1) Q:=by
 unfold sU
 rw [cN]
 refine Bs fun o st1=>?_
 rw [ng,eV]
 split
 ·next h=>exact ⟨fun q=>⟨h,q⟩,fun q=>q.2⟩
 ·next h=>exact ⟨False.elim,fun q=>h q.1⟩
end
section
variable {K:Zfr}
end
section
variable {st:Store} {Q:D->Store->Prop} {δ:aq}
end
section
variable {K:Zfr}
def rh:aq->Dm Fl:=fun _ _=>none
theorem QI:oe K qi rh:=by
 intro ρ σ H δ st fl st' E l rs e q
 cases e
end
section
variable {st:Store} {Q:D->Store->Prop}
end
section
variable {K:Zfr}
end
section
variable {st:Store} {δ:aq}
end
section
variable {K:Zfr}
end
section
variable {K:Zfr}
end
section
variable {K:Zfr}
end
section
variable {st:Store} {Q:D->Store->Prop}
end
section
variable {K:Zfr}
end
section
variable {K:Zfr}
end
section
variable {st:Store} {Q:D->Store->Prop}
end
def cJ (i j:Int):Bool:=(decide (-18446744073709551616 < i/\i < 18446744073709551616) || decide (-18446744073709551616 < j/\j < 18446744073709551616)) || (decide (Builtin.Int.intBits i<=60000000) && decide (Builtin.Int.intBits j<=60000000))
def cR:D->D->Dm D:=uz cJ fun i j=>.int (i * j)
section
variable {K:Zfr}
theorem oT:lX K (rI pC fun i j=>.int (i * j)) cR:=AQ (fun i j h=>by
 unfold cJ at h
 rw [VJ,VJ,Ua,decide_eq_true_eq,decide_eq_true_eq,decide_eq_true_eq,decide_eq_true_eq] at h
 exact h) fun _ _ _ _=>.int _
end
section
variable {st:Store} {Q:D->Store->Prop}
theorem Lg {i j:Int}:Wp (cR (.int i) (.int j) st) Q↔cJ i j=true/\Q (.int (i * j)) st:=by
 unfold cR;rw [Bb]
theorem QJ {i j:Int} (h:i.natAbs < 18446744073709551616):cJ i j=true:=by
 unfold cJ
 rw [decide_eq_true (show -18446744073709551616 < i/\i < 18446744073709551616 by omega)]
 rfl
end
def dg:D->List D->Dm D
 | .ref k,[a],st=>match dX st 20 a,(items st k).bind (bZ (dX st 19)) with
  | some dx,some ds=>match ds.findIdx? fun d=>PyData.eqv d dx with
   | some j=>if dx.canLay0 && ds.all PyData.canLay0 && decide (dx.depth<=60) && decide (ds.length<=1000) then some (.int (j:Int),st) else none
   | none=>none
  | _,_=>none
 | _,_,_=>none
section
variable {K:Zfr}
theorem Lh:uv K "list" (pB K) dg:=by
 intro ρ H st x xs a as b st' Q l rx qS e q
 unfold dg at e
 split at e
 ·split at e
  ·next dx ds h1 h2 =>
   split at e
   ·next j hj =>
    split at e
    ·next ok =>
     cases e
     rw [Ua,Ua,Ua,decide_eq_true_eq,decide_eq_true_eq,Ve] at ok
     obtain ⟨es,h3,h4⟩:=UM.mp h2
     obtain ⟨y,rfl,r⟩:=qS.one'
     cases rx with
     | ref hi =>
      obtain ⟨vs,s,rr⟩:=l.items hi h3
      obtain ⟨hjl,hj1,hj2⟩:=Vb.mp hj
      exact ⟨_,vs,ds,y,dx,j,rfl,rfl,s,DV l 19 rr h4,wo l 20 r h1,ok.1.1.2,ok.1.1.1,ok.1.2,ok.2,⟨_,TL hjl,hj1⟩,fun i d hij hd=>by
       obtain ⟨hil,rfl⟩:=TK.mp hd
       simpa using hj2 i hij,q _ H ρ .refl l (.int _)⟩
    ·cases e
   ·cases e
  ·cases e
 ·cases e
end
theorem Li {st:Store} {Q:D->Store->Prop} {n k j:Nat} {a:D} {es:List D} (ha:pU n a) (hc:items st k=some es) (he:∀ e∈es,pU n e) (hn:n<=15) (hl:es.length<=1000) (hj:es[j]?=some a) (hno:∀ i e,i < j->es[i]?=some e->e≠a):Wp (dg (.ref k) [a] st) Q↔Q (.int (j:Int)) st:=by
 have h1:=rT n a ha 20 (by omega) st
 have h2:bZ (dX st 19) es=some (es.map (gS n)):=Bq fun x hx=>rT n x (he x hx) 19 (by omega) st
 obtain ⟨hjl,QK⟩:=TK.mp hj
 have hf:(es.map (gS n)).findIdx? (fun d=>PyData.eqv d (gS n a))=some j:=by
  refine Vb.mpr ⟨by simpa using hjl,?_,fun i hij=>?_⟩
  ·rw [VD,QK]
   exact (yH n a a ha ha).mpr rfl
  ·have hil:i < es.length:=by omega
   rw [VD]
   have hm:es[i]∈es:=VC hil
   intro h
   exact hno i es[i] hij (TL hil) ((yH n es[i] a (he _ hm) ha).mp h)
 have l1:=rg n a ha
 have l2:(es.map (gS n)).all PyData.canLay0=true:=by
  rw [Ve]
  intro d hd
  obtain ⟨x,hx,rfl⟩:=Ub.mp hd
  exact (rg n x (he x hx)).1
 have e:dg (.ref k) [a] st=some (.int (j:Int),st):=by
  unfold dg
  simp only [h1,hc,U3,h2,hf,l1.1,l2,Bool.true_and,TJ,decide_eq_true_eq,Ua]
  rw [if_pos ⟨by omega,hl⟩]
 rw [e,bC]
def sW:D->List D->Dm D
 | .ref i,[],st=>match own st i with
  | some xs=>match xs[xs.length - 1]? with
   | some y=>some (y,st.set i (.lst xs.dropLast))
   | none=>none
  | none=>none
 | _,_,_=>none
section
variable {K:Zfr}
theorem xM:uv K "list" zM sW:=by
 intro ρ H st x xs a as b st' Q l rx qS e q
 unfold sW at e
 split at e
 ·split at e
  ·next ys hy =>
   split at e
   ·next y hl =>
    cases e
    cases qS
    cases rx with
    | ref hi =>
     obtain ⟨vs,e1,r1⟩:=l.obj _ _ _ hi (qb hy)
     obtain ⟨v,hv,rv⟩:=r1.got hl
     have hlen:=r1.length
     have r2:cg K ρ H vs.dropLast ys.dropLast:=by
      rw [List.dropLast_eq_take,List.dropLast_eq_take,hlen]
      exact r1.take _
     obtain ⟨l2,m2⟩:=l.putL hi (qb hy) r2
     exact ⟨_,vs,v,rfl,rfl,e1,by rw [hlen];exact hv,q _ _ ρ m2 l2 (rv.mn m2)⟩
   ·cases e
  ·cases e
 ·cases e
end
section
variable {st:Store} {Q:D->Store->Prop} {i:Nat}
theorem xN {xs:List D} {y:D} (h:own st i=some (xs ++ [y])):Wp (sW (.ref i) [] st) Q↔Q y (st.set i (.lst xs)):=by
 have e:(xs ++ [y])[(xs ++ [y]).length - 1]?=some y:=by simp
 have e2:(xs ++ [y]).dropLast=xs:=by simp
 show Wp (match own st i with | some xs=>(match xs[xs.length - 1]? with | some y=>some (y,st.set i (O.lst xs.dropLast)) | none=>none) | none=>none) Q↔_
 rw [h]
 dsimp only
 rw [e,e2]
 exact bC
end
end L4
namespace af
abbrev CS:=List aU×List (List Sp)×List (Nat×Nat)
def aT (n:Nat) (fs:List aU) (ws:List (List Sp)) (k:Nat) (s:Sp):List aU×List (List Sp)×Nat :=
 if cE n (stM (fs.getD k ([],[])) s)∈fs then (fs,ws,fs.idxOf (cE n (stM (fs.getD k ([],[])) s))) else (fs ++ [cE n (stM (fs.getD k ([],[])) s)],ws ++ [(jG (ws.getD k [] ++ [s])).reverse],fs.length)
def kc (n:Nat) (c:CS):List aU×List (List Sp)×Nat:=aT n c.1 c.2.1 c.2.2.length (true,1)
def jh (n:Nat) (c:CS):List aU×List (List Sp)×Nat:=aT n (kc n c).1 (kc n c).2.1 c.2.2.length (false,1)
def Hq (n:Nat) (c:CS):CS:=((jh n c).1,(jh n c).2.1,c.2.2 ++ [((kc n c).2.2,(jh n c).2.2)])
def ch (n:Nat) (p:aU):Nat->CS
 | 0=>([cE n p],[[]],[])
 | i + 1=>Hq n (ch n p i)
structure GR (n:Nat) (p:aU) (fs:List aU) (ws:List (List Sp)):Prop where
 nd:fs.Nodup
 own:∀ q∈fs,Wh n q/\cE n q=q
 wl:ws.length=fs.length
 hd:fs[0]?=some (cE n p)
 wd:∀ (k:Nat) (w:List Sp),ws[k]?=some w->Pl w.reverse/\w.length<=k/\(∀ s∈w,s.2.natAbs<=k + 3)/\∃ q,fs[k]?=some q/\bL n (oC p w) q
def QL (n:Nat) (fs:List aU) (ls:List (Nat×Nat)):Prop:=∀ (k:Nat) (l:Nat×Nat),ls[k]?=some l->∃ p,fs[k]?=some p/\fs[l.1]?=some (cE n (stM p (true,1)))/\fs[l.2]?=some (cE n (stM p (false,1)))
structure GC (n:Nat) (p:aU) (c:CS) (i:Nat):Prop where
 r:GR n p c.1 c.2.1
 ll:c.2.2.length=i
 le:i<=c.1.length
 ld:QL n c.1 c.2.2
section
variable {n:Nat} {p:aU}
theorem GR.few {fs:List aU} {ws:List (List Sp)} (g:GR n p fs ws):0 < fs.length:=(TK.mp g.hd).1
theorem Lj (w:Wh n p) (n0:0 < n):Wh n (cE n p)/\cE n (cE n p)=cE n p/\bL n p (cE n p):=by
 obtain ⟨s,s0,s1,e⟩:=AH p n0
 have tb:=w.bf s0 s1
 have a:bL n p (cE n p):=⟨inv (bf p.1 p.2 s n),tb.aA,by rw [e,Dz w.v.1 tb,Dz w.v.2 tb];rfl⟩
 have wq:Wh n (cE n p):=by
  obtain ⟨g,tg,eq⟩:=a
  have:=sT (xs:=p.1) (ys:=p.2) ⟨w.v.1,w.v.2,w.all⟩ tg n0
  rw [eq]
  exact ⟨⟨this.1,this.2.1⟩,this.2.2⟩
 exact ⟨wq,(OZ n0 w.v a).symm,a⟩
theorem QM {fs:List aU} {q:aU} (h:q∈fs):fs[fs.idxOf q]?=some q:=by
 have hl:=Vp h
 rw [TL hl,VO]
theorem QN {w:List Sp} {k:Nat} {s:Sp} (hp:Pl w.reverse) (hn:∀ a∈w,a.2.natAbs<=k + 3) (hs:s=(true,1)\/s=(false,1)):Pl (jG (w ++ [s]))/\∀ a∈(jG (w ++ [s])),a.2.natAbs<=k + 1 + 3:=by
 have ps:eP s:=by rcases hs with rfl | rfl <;> exact ⟨fun _=>by decide,by decide⟩
 have ew:jG w=w.reverse:=by
  have:=Pl.mZ hp
  rwa [List.reverse_reverse] at this
 have e:jG (w ++ [s])=bP w.reverse s:=by
  rw [Gy,ew];rfl
 rw [e]
 refine ⟨hp.push ps,fun a ha=>?_⟩
 have s1:s.2.natAbs<=1:=by rcases hs with rfl | rfl <;> decide
 exact Oz (M:=k + 3) (B:=1) (fun x hx=>hn x (UT.mp hx)) s1 ps hp a ha
theorem rV {fs:List aU} {ws:List (List Sp)} {k:Nat} {s:Sp} (n0:0 < n) (g:GR n p fs ws) (vp:Vf n p) (hk:k < fs.length) (hs:s=(true,1)\/s=(false,1)) :
  GR n p (aT n fs ws k s).1 (aT n fs ws k s).2.1/\(∀ (i:Nat) (q:aU),fs[i]?=some q->(aT n fs ws k s).1[i]?=some q)/\fs.length<=(aT n fs ws k s).1.length/\(aT n fs ws k s).1.length<=fs.length + 1/\∃ q,fs[k]?=some q/\(aT n fs ws k s).1[(aT n fs ws k s).2.2]?=some (cE n (stM q s)):=by
 have ek:fs[k]?=some (fs.getD k ([],[])):=by rw [T9,TL hk];rfl
 generalize hq:fs.getD k ([],[])=q at ek
 obtain ⟨wq,oq⟩:=g.own q (T2 ek)
 have Bt:=wq.st n0 s
 obtain ⟨wF,oF,aF⟩:=Lj Bt n0
 unfold aT
 rw [hq]
 by_cases hm:cE n (stM q s)∈fs
 ·rw [if_pos hm]
  exact ⟨g,fun _ _ h=>h,TM _,Vz _,q,ek,QM hm⟩
 ·rw [if_neg hm]
  have QO:k < ws.length:=by rw [g.wl];exact hk
  have ew:ws[k]?=some (ws.getD k []):=by rw [T9,TL QO];rfl
  generalize ws.getD k []=w at ew
  obtain ⟨pw,lw,nw,q',eq',aw⟩:=g.wd k w ew
  rw [ek] at eq'
  cases eq'
  obtain ⟨pl,nl⟩:=QN (k:=k) pw nw hs
  refine ⟨⟨Vy.mpr ⟨g.nd,by simp,fun x hx y hy e=>hm (by rw [<- Ud.mp hy,<- e];exact hx)⟩,fun q' hq'=>?_,by rw [TN,TN,g.wl];rfl,by rw [T1 g.few];exact g.hd,fun i v hv=>?_⟩,fun i q' h=>by rw [T1 (TK.mp h).1];exact h,by rw [TN];omega,by rw [TN];exact TM _,q,ek,?_⟩
  ·rcases Uk.mp hq' with h | h
   ·exact g.own q' h
   ·rw [Ud.mp h];exact ⟨wF,oF⟩
  ·by_cases hi:i < ws.length
   ·rw [T1 hi] at hv
    obtain ⟨a1,a2,a3,q',b1,b2⟩:=g.wd i v hv
    exact ⟨a1,a2,a3,q',by rw [T1 (TK.mp b1).1];exact b1,b2⟩
   ·have hi2:i=ws.length:=by
     have:=(TK.mp hv).1
     rw [TN] at this
     have:i < ws.length + 1:=this
     omega
    subst hi2
    rw [Uc (TM _),UR] at hv
    cases (show some _=some v from hv)
    refine ⟨by rw [List.reverse_reverse];exact pl,?_,fun a ha=>?_,cE n (stM q s),?_,?_⟩
    ·rw [Uu]
     have:=Gz (w ++ [s])
     rw [TN] at this
     have:(jG (w ++ [s])).length<=w.length + 1:=this
     omega
    ·have:=nl a (UT.mp ha)
     omega
    ·rw [g.wl,Uc (TM _),UR];rfl
    ·have cc:∀ a∈w ++ [s],eP a:=fun a ha=>by
      rcases Uk.mp ha with h | h
      ·exact Pl.pr pw a (UT.mpr h)
      ·rw [Ud.mp h]
       rcases hs with rfl | rfl <;> exact ⟨fun _=>by decide,by decide⟩
     have e1:bu (jG (w ++ [s])).reverse=bu (w ++ [s]):=Kb cc
     have pp:∀ a∈(jG (w ++ [s])).reverse,eP a:=fun a ha=>Pl.pr pl a (UT.mp ha)
     have a1:=OY pp cc e1 vp
     have a2:bL n (oC p (w ++ [s])) (stM q s):=by
      rw [GN]
      exact bL.st vp.ld aw s
     exact bL.trans vp.ld (bL.trans vp.ld a1 a2) aF
  ·rw [Uc (TM _),UR];rfl
theorem yI (n0:0 < n) (w:Wh n p):∀ i:Nat,(∀ j,j < i->j < (ch n p j).1.length)->GC n p (ch n p i) i
 | 0,_=>by
  obtain ⟨wF,oF,aF⟩:=Lj w n0
  exact ⟨⟨by show [cE n p].Nodup;simp,fun q hq=>by rw [Ud.mp hq];exact ⟨wF,oF⟩,rfl,rfl,fun k v hv=>by
   cases k with
   | zero =>
    cases (show some []=some v from hv)
    exact ⟨trivial,TM _,(fun s hs=>nomatch hs),_,rfl,aF⟩
   | succ k=>cases (show none=some v from hv)⟩,rfl,Uw _,fun k l hl=>nomatch hl⟩
 | i + 1,h=>by
  have g:=yI n0 w i fun j hj=>h j (by omega)
  have hi:=h i (by omega)
  have mL:=g.ll
  have vp:=w.v
  have r1:=rV (s:=(true,1)) n0 g.r vp (k:=(ch n p i).2.2.length) (by omega) (.inl rfl)
  have r2:=rV (s:=(false,1)) n0 r1.1 vp (k:=(ch n p i).2.2.length) (by have:=r1.2.2.1;omega) (.inr rfl)
  refine ⟨r2.1,by show ((ch n p i).2.2 ++ [_]).length=i + 1;rw [TN,mL];rfl,?_,fun k l hl=>?_⟩
  ·have a:=r1.2.2.1
   have b:=r2.2.2.1
   show i + 1<=(jh n (ch n p i)).1.length
   unfold jh kc
   omega
  ·have hl:((ch n p i).2.2 ++ [((kc n (ch n p i)).2.2,(jh n (ch n p i)).2.2)])[k]?=some l:=hl
   by_cases hk:k < (ch n p i).2.2.length
   ·rw [T1 hk] at hl
    obtain ⟨q,b1,b2,b3⟩:=g.ld k l hl
    exact ⟨q,r2.2.1 _ _ (r1.2.1 _ _ b1),r2.2.1 _ _ (r1.2.1 _ _ b2),r2.2.1 _ _ (r1.2.1 _ _ b3)⟩
   ·have hk2:k=(ch n p i).2.2.length:=by
     have:=(TK.mp hl).1
     rw [TN] at this
     have:k < (ch n p i).2.2.length + 1:=this
     omega
    subst hk2
    rw [Uc (TM _),UR] at hl
    cases (show some _=some l from hl)
    obtain ⟨q1,c1,c2⟩:=r1.2.2.2.2
    obtain ⟨q2,d1,d2⟩:=r2.2.2.2.2
    have:q2=q1:=by
     have:=r1.2.1 _ _ c1
     rw [d1] at this
     exact T5 this
    subst this
    exact ⟨q2,r2.2.1 _ _ d1,r2.2.1 _ _ c2,d2⟩
structure Full (n:Nat) (p:aU) (c:CS) (N:Nat):Prop extends GC n p c N where
 fl:c.1.length=N
end
end af
namespace af
def Tl:Nat->List (List Int)
 | 1=>[[0]]
 | 2=>[[0,1],[1,0]]
 | 3=>[[0,1,2],[0,2,1],[1,0,2],[1,2,0],[2,0,1],[2,1,0]]
 | _=>[]
theorem xO:∀ a∈([0,1]:List Int),∀ b∈([0,1]:List Int),[a,b].Nodup->[a,b]∈Tl 2:=by decide +kernel
theorem QP:∀ a∈([0,1,2]:List Int),∀ b∈([0,1,2]:List Int),∀ c∈([0,1,2]:List Int),[a,b,c].Nodup->[a,b,c]∈Tl 3:=by decide +kernel
theorem Lk {n:Nat} (n0:0 < n) (n3:n<=3) {xs:List Int} (t:Tn n xs):xs∈Tl n:=by
 have hl:=t.length
 have hb:∀ x∈xs,x∈upto n:=fun x hx=>t.subset hx
 have nd:=t.nodup
 clear t
 match n,n0,n3,xs,hl with
 | 1,_,_,[x],_ =>
  have h1:=hb x TU
  rw [Ud.mp (show x∈[0] from h1)]
  exact TU
 | 2,_,_,[x,y],_=>exact xO x (hb x TU) y (hb y (.tail _ TU)) nd
 | 3,_,_,[x,y,z],_=>exact QP x (hb x TU) y (hb y (.tail _ TU)) z (hb z (.tail _ (.tail _ TU))) nd
def Ul (n:Nat):List aU:=((Tl n).flatMap fun x=>(Tl n).map fun y=>(x,y)).filter fun q=>decide (cE n q=q)
theorem xP {n:Nat} (n0:0 < n) (n3:n<=3) {q:aU} (w:Wh n q) (h:cE n q=q):q∈Ul n:=by
 unfold Ul
 refine Vw.mpr ⟨List.mem_flatMap.mpr ⟨q.1,Lk n0 n3 w.v.1,Ub.mpr ⟨q.2,Lk n0 n3 w.v.2,rfl⟩⟩,by rw [h];exact decide_eq_true rfl⟩
theorem Ll:∀ {m l:List aU},m.Nodup->(∀ x∈m,x∈l)->m.length<=l.length
 | [],_,_,_=>Uw _
 | a :: m,l,nd,hs=>by
  have Lm:=UZ.mp nd
  have ha:=hs a TU
  have:=Ll (m:=m) (l:=l.erase a) Lm.2 fun y hy=>by
   have QQ:y≠a:=fun z=>Lm.1 (z ▸ hy)
   exact (Vr QQ).mpr (hs y (TY _ hy))
  rw [List.length_erase_of_mem ha] at this
  have hp:0 < l.length:=List.length_pos_of_mem ha
  simp
  omega
theorem Hr:(Ul 1).length<=30/\(Ul 2).length<=30/\(Ul 3).length<=30:=by decide +kernel
theorem QR {n:Nat} (n0:0 < n) (n3:n<=3) {fs:List aU} (nd:fs.Nodup) (own:∀ q∈fs,Wh n q/\cE n q=q):fs.length<=30:=by
 have h:=Ll (l:=Ul n) nd fun q hq=>xP n0 n3 (own q hq).1 (own q hq).2
 rcases (show n=1\/n=2\/n=3 by omega) with rfl | rfl | rfl
 ·exact Uh h Hr.1
 ·exact Uh h Hr.2.1
 ·exact Uh h Hr.2.2
end af
namespace af
end af
namespace af
abbrev oU:=Nat×Sp×Nat
def mM (x:Nat×List oU) (t:oU):Nat×List oU:=if t.2.2=x.1 then (x.1 + 1,x.2) else (x.1,x.2 ++ [t])
def lY (C:CS) (i:Nat):Nat×Nat:=C.2.2.getD i (0,0)
def lQ (C:CS):Nat->Nat×List oU
 | 0=>(1,[])
 | i + 1=>mM (mM (lQ C i) (i,(true,1),(lY C i).1)) (i,(false,1),(lY C i).2)
def DX (C:CS) (i:Nat):Nat->Nat×List oU
 | 0=>lQ C i
 | 1=>mM (lQ C i) (i,(true,1),(lY C i).1)
 | _=>lQ C (i + 1)
def pN (C:CS) (t:oU):List Sp:=C.2.1.getD t.1 [] ++ [t.2.1] ++ kU (C.2.1.getD t.2.2 [])
def sX (N:Nat) (t:oU):Prop:=t.1 < N/\(t.2.1=(true,1)\/t.2.1=(false,1))/\t.2.2 < N
theorem DY {N:Nat} {x:Nat×List oU} {t:oU} (h:∀ s∈x.2,sX N s) (ht:sX N t):(∀ s∈(mM x t).2,sX N s)/\(mM x t).2.length<=x.2.length + 1:=by
 unfold mM
 split
 ·exact ⟨h,Vz _⟩
 ·refine ⟨fun s hs=>?_,by rw [TN];exact TM _⟩
  rcases Uk.mp hs with h' | h'
  ·exact h s h'
  ·rw [Ud.mp h'];exact ht
theorem Hs {n N:Nat} {p:aU} {C:CS} (F:Full n p C N) {i:Nat} (hi:i < N):(lY C i).1 < N/\(lY C i).2 < N:=by
 have hl:i < C.2.2.length:=by rw [F.ll];exact hi
 have e:C.2.2[i]?=some (lY C i):=by unfold lY;rw [T9,TL hl];rfl
 obtain ⟨q,_,h1,h2⟩:=F.ld i _ e
 exact ⟨by rw [<- F.fl];exact (TK.mp h1).1,by rw [<- F.fl];exact (TK.mp h2).1⟩
theorem yJ {n N:Nat} {p:aU} {C:CS} (F:Full n p C N):∀ i,i<=N->(∀ s∈(lQ C i).2,sX N s)/\(lQ C i).2.length<=2 * i
 | 0,_=>⟨(fun s hs=>nomatch hs),TM _⟩
 | i + 1,hi=>by
  obtain ⟨h1,h2⟩:=yJ F i (by omega)
  obtain ⟨l1,l2⟩:=Hs F (i:=i) (by omega)
  have a:=DY (t:=(i,(true,1),(lY C i).1)) h1 ⟨by show i < N;omega,.inl rfl,l1⟩
  have b:=DY (t:=(i,(false,1),(lY C i).2)) a.1 ⟨by show i < N;omega,.inr rfl,l2⟩
  refine ⟨b.1,?_⟩
  have:=a.2
  have:=b.2
  show (mM (mM (lQ C i) _) _).2.length<=_
  omega
theorem yK {n N:Nat} {p:aU} {C:CS} (F:Full n p C N) {k:Nat} (hk:k < N):(∀ s∈C.2.1.getD k [],eP s/\s.2.natAbs<=N + 3)/\(C.2.1.getD k []).length<=N:=by
 have hl:k < C.2.1.length:=by rw [F.r.wl,F.fl];exact hk
 have e:C.2.1[k]?=some (C.2.1.getD k []):=by rw [T9,TL hl];rfl
 obtain ⟨pw,lw,nw,_⟩:=F.r.wd k _ e
 exact ⟨fun s hs=>⟨Pl.pr pw s (UT.mpr hs),by have:=nw s hs;omega⟩,by omega⟩
theorem QS {s:Sp} {B:Nat} (h:eP s) (hb:s.2.natAbs<=B) (h3:3<=B):(iS s).2.natAbs<=B:=by
 unfold iS
 cases hs:s.1 with
 | true=>simp only [if_true];rw [Int.natAbs_neg];exact hb
 | false =>
  have:=h.1 hs
  simp only [UK,if_false]
  omega
theorem Ht {n N:Nat} {p:aU} {C:CS} (F:Full n p C N) {t:oU} (h:sX N t):(∀ s∈pN C t,eP s/\s.2.natAbs<=N + 3)/\(pN C t).length<=2 * N + 1:=by
 obtain ⟨h1,h2,h3⟩:=h
 obtain ⟨a1,a2⟩:=yK F h1
 obtain ⟨b1,b2⟩:=yK F h3
 refine ⟨fun s hs=>?_,?_⟩
 ·unfold pN at hs
  rcases Uk.mp hs with hs | hs
  ·rcases Uk.mp hs with hs | hs
   ·exact a1 s hs
   ·rw [Ud.mp hs]
    rcases h2 with e | e <;> rw [e]
    ·exact ⟨⟨fun z=>(nomatch z),by decide⟩,by show 1<=_;omega⟩
    ·exact ⟨⟨fun _=>⟨by decide,by decide⟩,by decide⟩,by show 1<=_;omega⟩
  ·have pb:=GO (fun s hs=>(b1 s hs).1) s hs
   unfold kU at hs
   obtain ⟨x,hx,rfl⟩:=Ub.mp (UT.mp hs)
   exact ⟨pb,QS (b1 x hx).1 (b1 x hx).2 (by omega)⟩
 ·unfold pN kU
  rw [TN,TN,Uu,TJ]
  show _ + 1 + _<=_
  omega
end af
namespace L4
open PySem PySem.Spec L2
def DZ (i:Int):Prop:=i.natAbs.log2 < 1920
theorem Ln:∀ {ns:List Int},(∀ i∈ns,DZ i)->PyData.showableAll (bS ns)=true
 | [],_=>rfl
 | n :: r,h=>by
  show (PyData.showable (.int n) && PyData.showableAll (bS r))=true
  rw [Ln fun i hi=>h i (TY _ hi),Bool.and_true]
  simp only [PyData.showable,decide_eq_true_eq]
  exact h n TU
theorem Lo:∀ {rs:List (List Int)},(∀ r∈rs,∀ i∈r,DZ i)->PyData.showableAll (rs.map gi)=true
 | [],_=>rfl
 | r :: rs,h=>by
  show (PyData.showable (gi r) && PyData.showableAll (rs.map gi))=true
  rw [Lo fun r' hr=>h r' (TY _ hr),Bool.and_true]
  unfold gi
  simp only [PyData.showable]
  exact Ln (h r TU)
def Bu (rs:List (List Int)):Prop:=rs.length<=200/\∀ r∈rs,r.length<=10/\∀ i∈r,DZ i
theorem Lp:∀ (rs:List (List Int)),(∀ r∈rs,r.length<=10)->total rs<=rs.length * 10
 | [],_=>TM _
 | r :: l,h=>by
  have a:=h r TU
  have b:=Lp l fun r hr=>h r (TY _ hr)
  show r.length + total l<=(l.length + 1) * 10
  omega
section
variable {st:Store} {Q:D->Store->Prop}
theorem Lq {rs:List (List Int)} (h:Bu rs):Wp (lH [yG rs] st) Q↔Q (.str (PyData.shown (.tuple (rs.map fun r=>.tuple (r.map PyData.int))))) st:=by
 have s1:(PyData.tuple (rs.map gi)).showable=true:=by
  simp only [PyData.showable]
  exact Lo fun r hr i hi=>(h.2 r hr).2 i hi
 have sz:(PyData.tuple (rs.map gi)).shown.length<=sizeLine:=by
  refine Uh (Ju _ s1 (by simp only [ud];exact Jy rs)) ?_
  simp only [wD]
  rw [JB]
  have:=Lp rs fun r hr=>(h.2 r hr).1
  have h1:=h.1
  show _<=16777216
  omega
 have dp:PyData.depth (.tuple (rs.map gi))<=2:=by show PyData.depthAll (rs.map gi) + 1<=2;have:=JA rs;omega
 rw [P7]
 constructor
 ·rintro ⟨p,h1,_,h⟩
  rw [K0] at h1
  cases h1
  exact h
 ·intro q
  exact ⟨_,K0 rs,⟨s1,Jz rs,sz,by omega⟩,q⟩
end
section
variable {K:Zfr}
theorem QT {n m:Nat} {F:List D->Dm D} {ta:TA} {fa:aq->Dm (List D)} {E:XK} {mV:List V} {D0:List D} (ha:pI K ta fa) (hn:∀ δ st as st',fa δ st=some (as,st')->as.length=m) (hm:m + mV.length=n) (hd:∀ ρ H,cg K ρ H mV D0):gj K (ow (bI K n F) mV E ta) (aN (fun as=>F (as ++ D0)) fa):=by
 intro ρ σ H δ st b st' Q l rs e q
 obtain ⟨as,st1,e1,e⟩:=dF e
 refine ha ρ σ H δ st as st1 _ l rs e1 fun vs H1 ρ1 m1 l1 r1=>⟨?_,ρ1,st1,as ++ D0,b,st',l1,?_,e,fun v H3 ρ3 m3 l3 r3=>q v H3 ρ3 (m1.trans m3) l3 r3⟩
 ·rw [TN,r1.length,hn _ _ _ _ e1];exact hm
 ·exact r1.append (hd _ _)
end
end L4
namespace My
local macro_rules | `(tactic| w_up)=>`(tactic| first | exact .inl rfl | exact .inr rfl | assumption)
local macro_rules | `(tactic| w_fin)=>`(tactic| decide +kernel)
local macro_rules | `(tactic| kspl_open $h)=>`(tactic| (refine L4.b7 ?_;intro _ $h;set_option simprocs false in simp only [L4.bG]))
local macro_rules | `(tactic| w_how)=>`(tactic| set_option simprocs false in simp only [L4.bG])
open PySem L2 L4
theorem QU:∀ δ st as st',ah δ st=some (as,st')->as.length=0:=fun _ _ _ _ h=>O1 h
theorem lZ {f1:aq->Dm D}:∀ δ st as st',ae f1 ah δ st=some (as,st')->as.length=1:=DL QU
theorem iX {f1 f2:aq->Dm D}:∀ δ st as st',ae f2 (ae f1 ah) δ st=some (as,st')->as.length=2:=DL lZ
theorem Lr {f1 f2 f3:aq->Dm D}:∀ δ st as st',ae f3 (ae f2 (ae f1 ah)) δ st=some (as,st')->as.length=3:=DL iX
theorem Ls {f1 f2 f3 f4:aq->Dm D}:∀ δ st as st',ae f4 (ae f3 (ae f2 (ae f1 ah))) δ st=some (as,st')->as.length=4:=DL Lr
theorem cO {X:Cx} {k k':Nat} {f:Addr} {fd:FuncData} {ps:List Str} {sp:Sp} {x:Str} {st:Stmt} {e:Expr} {es:List Expr} {t:TA} {p pos:Pos} (F:aE X.prog X.w X.K X.mg X.base bE k f fd ps sp) (D:Def X.K X.mg x st ps f fd) (hr:eK k' X.A) (hk:k<=k') (hg:Gl X x) (ha:PA X (e :: es) t) (hdb:(x == ("__debug__" : Str))=false:=by decide) (he:starEach (e :: es) X.env=(false,eval e X.env) :: starEach es X.env:=by rfl) (hpl:(backTo pos (starEach es X.env)).any (·.1)=false:=by rfl):PE X (.Call (.Name x p) (e :: es) [] pos) (ow sp [] E0 t):=IA F (hr.mono hk) hg D.m D.F.kp D.b .nil ub ha hdb he hpl
def top (i:Nat):Stmt:=PySem.Challenge.pw_shearfloor_k39_makers_told.main.body.getD i (.Pass ⟨0,0,0,0⟩)
structure Txt (mg:Str->Option Value):Prop where
 ji:mg "enumerate" = none
 rj:mg "int" = none
 bT:mg "len" = none
 c7:mg "list" = none
 Bv:mg "max" = none
 rl:mg "min" = none
 aQ:mg "range" = none
 rm:mg "repr" = none
 mF:mg "reversed" = none
 a6:mg "tuple" = none
section
variable {P:Program} {w:World} {K:Zfr} {mg:Str->Option Value} {base:Heap}
def D1:aq->Dm Fl :=
 (az (aG (ay cM (ay mB (fC (.int 7901)) (ag 1)) (fC (.int 24697))) (hName 2))
 (az (gF (aH (ay uA (ag 1) (aN cI (ae (ag 0) ah)))) (aG (ay bQ (ag 0) (ag 1)) (hName 2)) (gF (aH (ay wm (aN cI (ae (ag 0) ah)) (fC (.int 0)))) (aG (ay cM (ay mB (ay jd (ay bQ (ag 0) (ay jd (ag 1) (aN cI (ae (ag 0) ah)))) (fC (.int 2147483629))) (fC (.int 31))) (ay mB (fC (.int 7901)) (ag 1))) (hName 2)) bD))
 (az (aG (fC (.int 0)) (hName 3))
 (az (gF (aH (ay GY (ag 2) (ay qP (fC (.int 10)) (fC (.int 18))))) (aG (ag 2) (hName 3)) bD)
 (bg (b9 (ae (ag 3) (ae (ay cM (ay jd (ay qP (ay cM (ay mB (ay jd (ag 2) (fC (.int 2147483629))) (fC (.int 48271))) (ay mB (fC (.int 40692)) (ag 1))) (fC (.int 5))) (fC (.int 2147483629))) (fC (.int 1))) ah))))))))
def Bw:List D->Dm D:=fA 4 D1
def Bx:Stmt:=top 42
theorem yL:aC ["_law_script","_law_k","_law_cell","_law_own_here"] ["_law_script","_law_k"] (au Bx):=⟨rfl,rfl,rfl,by w_fin,rfl,by w_fin,by w_fin⟩
theorem QV {f:Addr} {fd:FuncData} (D:Def K mg "_law_feed" Bx ["_law_script","_law_k"] f fd) (T:Txt mg)  :aE P w K mg base bE 1 f fd ["_law_script","_law_k"] (bI K 2 Bw):=by
 refine D.F.ok yL (fun _ _ _ _ h=>h.1) (fun c A o s H v Q E hr h=>?_)
 refine ⟨_,(@aZ _ _ _ _ _ (@bW (i:=2) _ _ _ _ _ _ yL.nd rfl (by w_up) (bM lE (bM tL aJ (pv 1)) aJ) (by rfl) (by w_up))
  (@aZ _ _ _ _ _ (@j4 _ _ _ _ _ _ _ _ (gh yi (pv 1) (jF kS (by rfl) T.bT kT (@aj _ _ _ _ _ (pv 0) av (by rfl))) (aL _)) (@a8 _ _ _ (@bW (i:=2) _ _ _ _ _ _ yL.nd rfl (by w_up) (@bp _ _ _ _ _ _ _ kR (pv 0) (pv 1) (fun _ _=>rfl)) (by rfl) (by w_up))) (@a8 _ _ _ (@j4 _ _ _ _ _ _ _ _ (gh zB (jF kS (by rfl) T.bT kT (@aj _ _ _ _ _ (pv 0) av (by rfl))) aJ (aL _)) (@a8 _ _ _ (@bW (i:=2) _ _ _ _ _ _ yL.nd rfl (by w_up) (bM lE (bM tL (bM pS (@bp _ _ _ _ _ _ _ kR (pv 0) (bM pS (pv 1) (jF kS (by rfl) T.bT kT (@aj _ _ _ _ _ (pv 0) av (by rfl)))) (fun _ _=>rfl)) aJ) aJ) (bM tL aJ (pv 1))) (by rfl) (by w_up))) kP)))
  (@aZ _ _ _ _ _ (@bW (i:=3) _ _ _ _ _ _ yL.nd rfl (by w_up) aJ (by rfl) (by w_up))
  (@aZ _ _ _ _ _ (@j4 _ _ _ _ _ _ _ _ (gh zC (pv 2) (bM Ip aJ aJ) (aL _)) (@a8 _ _ _ (@bW (i:=3) _ _ _ _ _ _ yL.nd rfl (by w_up) (pv 2) (by rfl) (by w_up))) kP)
  (@a8 _ _ _ (@dN _ _ _ _ (@i9 _ _ _ _ (@aj _ _ _ _ _ (pv 3) (@aj _ _ _ _ _ (bM lE (bM pS (bM Ip (bM lE (bM tL (bM pS (pv 2) aJ) aJ) (bM tL aJ (pv 1))) aJ) aJ) aJ) av (by rfl)) (by rfl))))))))),?_⟩
 exact gn (b:=D1) (a5 (bK (aB lG (aB uB (aK _) (ai 1)) (aK _)) (aM 2))
  (a5 (j6 (fD (aB yB (ai 1) (bX kW (ao (ai 0) ax)))) (bK (aB iW (ai 0) (ai 1)) (aM 2)) (j6 (fD (aB AU (bX kW (ao (ai 0) ax)) (aK _))) (bK (aB lG (aB uB (aB pZ (aB iW (ai 0) (aB pZ (ai 1) (bX kW (ao (ai 0) ax)))) (aK _)) (aK _)) (aB uB (aK _) (ai 1))) (aM 2)) kX))
  (a5 (bK (aK _) (aM 3))
  (a5 (j6 (fD (aB AV (ai 2) (aB Ku (aK _) (aK _)))) (bK (ai 2) (aM 3)) kX)
  (dO (jc (ao (ai 3) (ao (aB lG (aB pZ (aB Ku (aB lG (aB uB (aB pZ (ai 2) (aK _)) (aK _)) (aB uB (aK _) (ai 1))) (aK _)) (aK _)) (aK _)) ax)))))))) rfl h
def D2:aq->Dm Fl :=
 (az (gF (aH (ay wm (ay bQ (ag 0) (fC (.int 0))) (fC (.int 0)))) (az (aG (ay jd (ay bQ (ag 0) (fC (.int 0))) (ag 1)) (hName 2))
 (az (aG (ay m9 (ay bQ (ag 0) (fC (.int 0))) (ag 1)) (hSub (ag 0) (fC (.int 0))))
 (bg (ag 2)))) bD)
 (az (aG (ay jd (ay mB (ay bQ (ag 0) (fC (.int 1))) (fC (.int 48271))) (fC (.int 2147483647))) (hName 3))
 (az (aG (ay cM (ay jd (ay cM (ay mB (ag 3) (fC (.int 40692))) (fC (.int 30103))) (fC (.int 2147483399))) (fC (.int 1))) (hSub (ag 0) (fC (.int 1))))
 (bg (ay jd (ay m9 (ay cM (ay mB (ag 3) (fC (.int 2147483647))) (ay bQ (ag 0) (fC (.int 1)))) (fC (.int 8191))) (ag 1))))))
def nh:List D->Dm D:=fA 4 D2
def uN:Stmt:=top 43
theorem Hu:aC ["_law_feed_here","_law_many","_law_digit","_law_one"] ["_law_feed_here","_law_many"] (au uN):=⟨rfl,rfl,rfl,by w_fin,rfl,by w_fin,by w_fin⟩
theorem QW {f:Addr} {fd:FuncData} (D:Def K mg "_law_take" uN ["_law_feed_here","_law_many"] f fd) (T:Txt mg)  :aE P w K mg base bE 1 f fd ["_law_feed_here","_law_many"] (bI K 2 nh):=by
 refine D.F.ok Hu (fun _ _ _ _ h=>h.1) (fun c A o s H v Q E hr h=>?_)
 refine ⟨_,(@aZ _ _ _ _ _ (@j4 _ _ _ _ _ _ _ _ (gh zB (@bp _ _ _ _ _ _ _ kR (pv 0) aJ (fun _ _=>rfl)) aJ (aL _)) (@aZ _ _ _ _ _ (@bW (i:=2) _ _ _ _ _ _ Hu.nd rfl (by w_up) (bM pS (@bp _ _ _ _ _ _ _ kR (pv 0) aJ (fun _ _=>rfl)) (pv 1)) (by rfl) (by w_up))
  (@aZ _ _ _ _ _ (rE (bM Fx (@bp _ _ _ _ _ _ _ kR (pv 0) aJ (fun _ _=>rfl)) (pv 1)) (yh (pv 0) aJ yk))
  (@a8 _ _ _ (@dN _ _ _ _ (pv 2))))) kP)
  (@aZ _ _ _ _ _ (@bW (i:=3) _ _ _ _ _ _ Hu.nd rfl (by w_up) (bM pS (bM tL (@bp _ _ _ _ _ _ _ kR (pv 0) aJ (fun _ _=>rfl)) aJ) aJ) (by rfl) (by w_up))
  (@aZ _ _ _ _ _ (rE (bM lE (bM pS (bM lE (bM tL (pv 3) aJ) aJ) aJ) aJ) (yh (pv 0) aJ yk))
  (@a8 _ _ _ (@dN _ _ _ _ (bM pS (bM Fx (bM lE (bM tL (pv 3) aJ) (@bp _ _ _ _ _ _ _ kR (pv 0) aJ (fun _ _=>rfl))) aJ) (pv 1))))))),?_⟩
 exact gn (b:=D2) (a5 (j6 (fD (aB AU (aB iW (ai 0) (aK _)) (aK _))) (a5 (bK (aB pZ (aB iW (ai 0) (aK _)) (ai 1)) (aM 2))
  (a5 (bK (aB GZ (aB iW (ai 0) (aK _)) (ai 1)) (yE (ai 0) (aK _)))
  (dO (ai 2)))) kX)
  (a5 (bK (aB pZ (aB uB (aB iW (ai 0) (aK _)) (aK _)) (aK _)) (aM 3))
  (a5 (bK (aB lG (aB pZ (aB lG (aB uB (ai 3) (aK _)) (aK _)) (aK _)) (aK _)) (yE (ai 0) (aK _)))
  (dO (aB pZ (aB GZ (aB lG (aB uB (ai 3) (aK _)) (aB iW (ai 0) (aK _))) (aK _)) (ai 1)))))) rfl h
def D3:aq->Dm Fl :=
 (az (aG (aN c6 (ae (aN gY (ae (ag 1) ah)) ah)) (hName 2))
 (az (aG (a7 ah) (hName 3))
 (az (g7 (aH (ay (lM true) (ag 2) (b9 ah))) (aG (ay eQ (ag 3) (a7 (ae (gZ "list" lp (ag 2) (ae (aN nh (ae (ag 0) (ae (aN cI (ae (ag 2) ah)) ah))) ah)) ah))) (hName 3)))
 (bg (ag 3)))))
def xQ:List D->Dm D:=fA 4 D3
def By:Stmt:=top 44
theorem D4:aC ["_law_feed_here","_law_n","_law_left","_law_found"] ["_law_feed_here","_law_n"] (au By):=⟨rfl,rfl,rfl,by w_fin,rfl,by w_fin,by w_fin⟩
theorem QX {f:Addr} {fd:FuncData} (D:Def K mg "_law_turning" By ["_law_feed_here","_law_n"] f fd) (T:Txt mg)  {bh:Addr} {bj:FuncData} (aR:Def K mg "_law_take" uN ["_law_feed_here","_law_many"] bh bj) (aX:aE P w K mg base bE 1 bh bj ["_law_feed_here","_law_many"] (bI K 2 nh)):aE P w K mg base bE 2 f fd ["_law_feed_here","_law_n"] (bI K 2 xQ):=by
 refine D.F.ok D4 (fun _ _ _ _ h=>h.1) (fun c A o s H v Q E hr h=>?_)
 have hu:=hr.units
 refine ⟨_,(@aZ _ _ _ _ _ (@bW (i:=2) _ _ _ _ _ _ D4.nd rfl (by w_up) (d3 (rG rfl) (by rfl) T.c7 pV (@aj _ _ _ _ _ (d3 Dj (by rfl) T.aQ rF (@aj _ _ _ _ _ (pv 1) av (by rfl))) av (by rfl))) (by rfl) (by w_up))
  (@aZ _ _ _ _ _ (@bW (i:=3) _ _ _ _ _ _ D4.nd rfl (by w_up) (@dZ _ _ _ _ _ av) (by rfl) (by w_up))
  (@aZ _ _ _ _ _ (vk PassesOwn.never (gh (Dk hu) (pv 2) (@i9 _ _ _ _ av) (aL _)) (@a8 _ _ _ (@bW (i:=3) _ _ _ _ _ _ D4.nd rfl (by w_up) (bM sr (pv 3) (@dZ _ _ _ _ _ (@aj _ _ _ _ _ (mv PySem.F.plainAttrs_list PySem.F.slot_list_pop PySem.F.type_list_pop MT (pv 2) (@aj _ _ _ _ _ (cO aX aR hr (by decide) rfl (@aj _ _ _ _ _ (pv 0) (@aj _ _ _ _ _ (jF kS (by rfl) T.bT kT (@aj _ _ _ _ _ (pv 2) av (by rfl))) av (by rfl)) (by rfl))) av (by rfl))) av (by rfl)))) (by rfl) (by w_up))))
  (@a8 _ _ _ (@dN _ _ _ _ (pv 3)))))),?_⟩
 exact gn (b:=D3) (a5 (bK (bX rO (ao (bX DP (ao (ai 1) ax)) ax)) (aM 2))
  (a5 (bK (d5 ax) (aM 3))
  (a5 (wB (fD (aB (DN true) (ai 2) (jc ax))) (bK (aB sO (ai 3) (d5 (ao (lO O7 (ai 2) (ao (cL (F:=nh) (ao (ai 0) (ao (bX kW (ao (ai 2) ax)) ax)) iX) ax)) ax))) (aM 3)))
  (dO (ai 3))))) rfl h
def D5:aq->Dm Fl :=
 (az (aG (b9 (ae (fC (.int 0)) ah)) (hName 1))
 (az (cu (bY (ae (ay cM (fC (.int 1)) (aN cI (ae (ay aI (ag 0) (fC (.int 0))) ah))) ah)) (hName 2) (cu (cK (ag 0)) (hName 3) (cu (ka (aN nc (ae (ag 1) ah))) (hName 4) (gF (aH (ay (qc true) (ay aI (ag 3) (ag 4)) (ag 1))) (bN (gZ "list" aO (ag 1) (ae (ay aI (ag 3) (ag 4)) ah))) bD))))
 (bg (ag 1))))
def sY:List D->Dm D:=fA 5 D5
def Bz:Stmt:=top 45
theorem BA:aC ["_law_floor_here","_law_found","_law_turn","_law_turning_here","_law_one"] ["_law_floor_here"] (au Bz):=⟨rfl,rfl,rfl,by w_fin,rfl,by w_fin,by w_fin⟩
theorem QY {f:Addr} {fd:FuncData} (D:Def K mg "_law_met" Bz ["_law_floor_here"] f fd) (T:Txt mg)  :aE P w K mg base bE 1 f fd ["_law_floor_here"] (bI K 1 sY):=by
 refine D.F.ok BA (fun _ _ _ _ h=>h.1) (fun c A o s H v Q E hr h=>?_)
 refine ⟨_,(@aZ _ _ _ _ _ (@bW (i:=1) _ _ _ _ _ _ BA.nd rfl (by w_up) (@i9 _ _ _ _ (@aj _ _ _ _ _ aJ av (by rfl))) (by rfl) (by w_up))
  (@aZ _ _ _ _ _ (@kC _ _ _ _ _ _ _ _ PassesOwn.never rfl (oN rfl T.aQ (@aj _ _ _ _ _ (bM lE aJ (jF kS (by rfl) T.bT kT (@aj _ _ _ _ _ (@bp _ _ _ _ _ _ _ cB (pv 0) aJ (fun _ _=>rfl)) av (by rfl)))) av (by rfl))) (cj (i:=2) BA.nd rfl (by w_up)) (@a8 _ _ _ (@kC _ _ _ _ _ _ _ _ PassesOwn.never rfl (ou (pv 0)) (cj (i:=3) BA.nd rfl (by w_up)) (@a8 _ _ _ (@kC _ _ _ _ _ _ _ _ PassesOwn.never rfl (C7 (d3 FO (by rfl) T.c7 pV (@aj _ _ _ _ _ (pv 1) av (by rfl)))) (cj (i:=4) BA.nd rfl (by w_up)) (@a8 _ _ _ (@j4 _ _ _ _ _ _ _ _ (gh De (@bp _ _ _ _ _ _ _ cB (pv 3) (pv 4) (fun _ _=>rfl)) (pv 1) (by with_unfolding_all rfl)) (@a8 _ _ _ (nA (mv PySem.F.plainAttrs_list PySem.F.slot_list_append PySem.F.type_list_append nC (pv 1) (@aj _ _ _ _ _ (@bp _ _ _ _ _ _ _ cB (pv 3) (pv 4) (fun _ _=>rfl)) av (by rfl))))) kP)) (by intro _;rfl))) (by intro _;rfl))) (by intro _;rfl))
  (@a8 _ _ _ (@dN _ _ _ _ (pv 1))))),?_⟩
 exact gn (b:=D5) (a5 (bK (jc (ao (aK _) ax)) (aM 1))
  (a5 (kD (oR (ao (aB lG (aK _) (bX kW (ao (aB ck (ai 0) (aK _)) ax))) ax)) (aM 2) (kD (oG (ai 0)) (aM 3) (kD (DQ (bX G0 (ao (ai 1) ax))) (aM 4) (j6 (fD (aB (AX true) (aB ck (ai 3) (ai 4)) (ai 1))) (nM (lO nJ (ai 1) (ao (aB ck (ai 3) (ai 4)) ax))) kX))))
  (dO (ai 1)))) rfl h
def D6:aq->Dm Fl :=
 (az (aG (aN nh (ae (ag 0) (ae (fC (.int 6)) ah))) (hName 2))
 (az (qT 3 4 (ae (aN nc (ae (aN xQ (ae (ag 0) (ae (ag 1) ah))) ah)) (ae (aN nc (ae (aN xQ (ae (ag 0) (ae (ag 1) ah))) ah)) ah)))
 (az (gF (aH (ay (jY false) (ag 2) (fC (.int 0)))) (aG (ay mC (aN c6 (ae (aN d6 (ae (fC (.int 1)) (ae (ag 1) ah))) ah)) (b9 (ae (fC (.int 0)) ah))) (hName 3)) bD)
 (az (gF (aH (ay (jY false) (ag 2) (fC (.int 1)))) (qT 3 4 (ae (aN c6 (ae (aN gY (ae (ag 1) ah)) ah)) (ae (ay mC (aN c6 (ae (aN d6 (ae (fC (.int 1)) (ae (ag 1) ah))) ah)) (b9 (ae (fC (.int 0)) ah))) ah))) bD)
 (az (gF (aH (ay (jY false) (ag 2) (fC (.int 2)))) (az (aG (ay cM (fC (.int 1)) (aN nh (ae (ag 0) (ae (ag 1) ah)))) (hName 5))
 (az (aG (ay mC (ay mC (aN c6 (ae (aN d6 (ae (fC (.int 1)) (ae (ag 5) ah))) ah)) (b9 (ae (fC (.int 0)) ah))) (aN c6 (ae (aN d6 (ae (ag 5) (ae (ag 1) ah))) ah))) (hName 3))
 (az (aG (yA qQ (ay mC (ay mC (ay mC (b9 (ae (ag 5) ah)) (aN c6 (ae (aN d6 (ae (fC (.int 1)) (ae (ag 5) ah))) ah))) (aN c6 (ae (aN d6 (ae (ay cM (ag 5) (fC (.int 1))) (ae (ag 1) ah))) ah))) (b9 (ae (fC (.int 0)) ah))) kJ (m8 (ag 1))) (hName 4))
 (gF (aH (ay (jY false) (ag 5) (ag 1))) (aG (aN c6 (ae (aN gY (ae (ag 1) ah)) ah)) (hName 4)) bD)))) bD)
 (az (aG (a7 (ae (aN bB (ae (ag 3) ah)) (ae (aN bB (ae (ag 4) ah)) ah))) (hName 6))
 (az (aG (cQ (bY (ae (ag 1) ah)) 1 [6] (hName 0) (aH (ay (qc true) (ag 0) (aN sY (ae (ag 1) ah)))) (ag 0)) (hName 7))
 (az (g7 (aH (ay (lM true) (ag 7) (b9 ah))) (az (aG (ay bQ (ag 7) (fC (.int 0))) (hName 8))
 (az (aG (a7 (ae (ay bQ (ag 3) (ag 8)) (ae (ay bQ (ag 3) (fC (.int 0))) ah))) (gQ 2 (aS (hSub (ag 3) (fC (.int 0))) (aS (hSub (ag 3) (ag 8)) g5))))
 (az (aG (a7 (ae (aN bB (ae (ag 3) ah)) (ae (aN bB (ae (ag 4) ah)) ah))) (hName 6))
 (aG (cQ (bY (ae (ag 1) ah)) 1 [6] (hName 0) (aH (ay (qc true) (ag 0) (aN sY (ae (ag 1) ah)))) (ag 0)) (hName 7))))))
 (bg (ag 6))))))))))
def xR:List D->Dm D:=fA 9 D6
def BB:Stmt:=top 46
theorem pO:aC ["_law_feed_here","_law_n","_law_form_here","_law_right","_law_up","_law_wide","_law_found","_law_apart","_law_m"] ["_law_feed_here","_law_n"] (au BB):=⟨rfl,rfl,rfl,by w_fin,rfl,by w_fin,by w_fin⟩
theorem QZ {f:Addr} {fd:FuncData} (D:Def K mg "_law_floor" BB ["_law_feed_here","_law_n"] f fd) (T:Txt mg)  {bh:Addr} {bj:FuncData} (aR:Def K mg "_law_take" uN ["_law_feed_here","_law_many"] bh bj) (aX:aE P w K mg base bE 1 bh bj ["_law_feed_here","_law_many"] (bI K 2 nh)) {dh:Addr} {di:FuncData} (cD:Def K mg "_law_turning" By ["_law_feed_here","_law_n"] dh di) (dj:aE P w K mg base bE 2 dh di ["_law_feed_here","_law_n"] (bI K 2 xQ)) {jJ:Addr} {jK:FuncData} (gT:Def K mg "_law_met" Bz ["_law_floor_here"] jJ jK) (jL:aE P w K mg base bE 1 jJ jK ["_law_floor_here"] (bI K 1 sY)):aE P w K mg base bE 3 f fd ["_law_feed_here","_law_n"] (bI K 2 xR):=by
 refine D.F.ok pO (fun _ _ _ _ h=>h.1) (fun c A o s H v Q E hr h=>?_)
 have hu:=hr.units
 refine ⟨_,(@aZ _ _ _ _ _ (@bW (i:=2) _ _ _ _ _ _ pO.nd rfl (by w_up) (cO aX aR hr (by decide) rfl (@aj _ _ _ _ _ (pv 0) (@aj _ _ _ _ _ aJ av (by rfl)) (by rfl))) (by rfl) (by w_up))
  (@aZ _ _ _ _ _ (Ii (i:=3) (j:=4) rfl pO.nd rfl rfl (by decide) rfl rfl (@aj _ _ _ _ _ (d3 FO (by rfl) T.c7 pV (@aj _ _ _ _ _ (cO dj cD hr (by decide) rfl (@aj _ _ _ _ _ (pv 0) (@aj _ _ _ _ _ (pv 1) av (by rfl)) (by rfl))) av (by rfl))) (@aj _ _ _ _ _ (d3 FO (by rfl) T.c7 pV (@aj _ _ _ _ _ (cO dj cD hr (by decide) rfl (@aj _ _ _ _ _ (pv 0) (@aj _ _ _ _ _ (pv 1) av (by rfl)) (by rfl))) av (by rfl))) av (by rfl)) (by rfl)) rfl)
  (@aZ _ _ _ _ _ (@j4 _ _ _ _ _ _ _ _ (gh n5 (pv 2) aJ (aL _)) (@a8 _ _ _ (@bW (i:=3) _ _ _ _ _ _ pO.nd rfl (by w_up) (bM tV (d3 (rG rfl) (by rfl) T.c7 pV (@aj _ _ _ _ _ (d3 ym (by rfl) T.aQ rF (@aj _ _ _ _ _ aJ (@aj _ _ _ _ _ (pv 1) av (by rfl)) (by rfl))) av (by rfl))) (@i9 _ _ _ _ (@aj _ _ _ _ _ aJ av (by rfl)))) (by rfl) (by w_up))) kP)
  (@aZ _ _ _ _ _ (@j4 _ _ _ _ _ _ _ _ (gh n5 (pv 2) aJ (aL _)) (@a8 _ _ _ (Ii (i:=3) (j:=4) rfl pO.nd rfl rfl (by decide) rfl rfl (@aj _ _ _ _ _ (d3 (rG rfl) (by rfl) T.c7 pV (@aj _ _ _ _ _ (d3 Dj (by rfl) T.aQ rF (@aj _ _ _ _ _ (pv 1) av (by rfl))) av (by rfl))) (@aj _ _ _ _ _ (bM tV (d3 (rG rfl) (by rfl) T.c7 pV (@aj _ _ _ _ _ (d3 ym (by rfl) T.aQ rF (@aj _ _ _ _ _ aJ (@aj _ _ _ _ _ (pv 1) av (by rfl)) (by rfl))) av (by rfl))) (@i9 _ _ _ _ (@aj _ _ _ _ _ aJ av (by rfl)))) av (by rfl)) (by rfl)) rfl)) kP)
  (@aZ _ _ _ _ _ (@j4 _ _ _ _ _ _ _ _ (gh n5 (pv 2) aJ (aL _)) (@aZ _ _ _ _ _ (@bW (i:=5) _ _ _ _ _ _ pO.nd rfl (by w_up) (bM lE aJ (cO aX aR hr (by decide) rfl (@aj _ _ _ _ _ (pv 0) (@aj _ _ _ _ _ (pv 1) av (by rfl)) (by rfl)))) (by rfl) (by w_up))
  (@aZ _ _ _ _ _ (@bW (i:=3) _ _ _ _ _ _ pO.nd rfl (by w_up) (bM tV (bM tV (d3 (rG rfl) (by rfl) T.c7 pV (@aj _ _ _ _ _ (d3 ym (by rfl) T.aQ rF (@aj _ _ _ _ _ aJ (@aj _ _ _ _ _ (pv 5) av (by rfl)) (by rfl))) av (by rfl))) (@i9 _ _ _ _ (@aj _ _ _ _ _ aJ av (by rfl)))) (d3 (rG rfl) (by rfl) T.c7 pV (@aj _ _ _ _ _ (d3 ym (by rfl) T.aQ rF (@aj _ _ _ _ _ (pv 5) (@aj _ _ _ _ _ (pv 1) av (by rfl)) (by rfl))) av (by rfl)))) (by rfl) (by w_up))
  (@aZ _ _ _ _ _ (@bW (i:=4) _ _ _ _ _ _ pO.nd rfl (by w_up) (FH IV (bM tV (bM tV (bM tV (@i9 _ _ _ _ (@aj _ _ _ _ _ (pv 5) av (by rfl))) (d3 (rG rfl) (by rfl) T.c7 pV (@aj _ _ _ _ _ (d3 ym (by rfl) T.aQ rF (@aj _ _ _ _ _ aJ (@aj _ _ _ _ _ (pv 5) av (by rfl)) (by rfl))) av (by rfl)))) (d3 (rG rfl) (by rfl) T.c7 pV (@aj _ _ _ _ _ (d3 ym (by rfl) T.aQ rF (@aj _ _ _ _ _ (bM lE (pv 5) aJ) (@aj _ _ _ _ _ (pv 1) av (by rfl)) (by rfl))) av (by rfl)))) (@i9 _ _ _ _ (@aj _ _ _ _ _ aJ av (by rfl)))) FF (FG (pv 1))) (by rfl) (by w_up))
  (@a8 _ _ _ (@j4 _ _ _ _ _ _ _ _ (gh n5 (pv 5) (pv 1) (aL _)) (@a8 _ _ _ (@bW (i:=4) _ _ _ _ _ _ pO.nd rfl (by w_up) (d3 (rG rfl) (by rfl) T.c7 pV (@aj _ _ _ _ _ (d3 Dj (by rfl) T.aQ rF (@aj _ _ _ _ _ (pv 1) av (by rfl))) av (by rfl))) (by rfl) (by w_up))) kP))))) kP)
  (@aZ _ _ _ _ _ (@bW (i:=6) _ _ _ _ _ _ pO.nd rfl (by w_up) (@dZ _ _ _ _ _ (@aj _ _ _ _ _ (d3 mr (by rfl) T.a6 mw (@aj _ _ _ _ _ (pv 3) av (by rfl))) (@aj _ _ _ _ _ (d3 mr (by rfl) T.a6 mw (@aj _ _ _ _ _ (pv 4) av (by rfl))) av (by rfl)) (by rfl))) (by rfl) (by w_up))
  (@aZ _ _ _ _ _ (Js (i:=7) (own:=["_law_s"]) (fr:=["_law_found"]) (js:=[6]) rfl pO.nd rfl rfl ⟨⟨rfl,by w_fin,by w_fin,by dsimp only [gK,aP,Cx.nz,Cx.wish,PyProof.Rows.envOfC,compEnvC,relabel,Env.kindOf];decide +kernel,by w_fin⟩,rfl⟩ (oN rfl T.aQ (@aj _ _ _ _ _ (pv 1) av (by rfl))) (fun _ _ _ _ _=>(cj (i:=0) (show ((["_law_s"]:List Str) ++ (["_law_found"]:List Str)).Nodup by w_fin) rfl (by w_up))) (fun _ _ _ _ _=>(Jn (gh (JC (K:=K) rfl) (pv 0) (cO jL gT hr (by decide) rfl (@aj _ _ _ _ _ (pv 1) av (by rfl))) (by with_unfolding_all rfl)))) (fun _ _ _ _ _=>(pv 0)))
  (@aZ _ _ _ _ _ (vk PassesOwn.never (gh (Dk hu) (pv 7) (@i9 _ _ _ _ av) (aL _)) (@aZ _ _ _ _ _ (@bW (i:=8) _ _ _ _ _ _ pO.nd rfl (by w_up) (@bp _ _ _ _ _ _ _ kR (pv 7) aJ (fun _ _=>rfl)) (by rfl) (by w_up))
  (@aZ _ _ _ _ _ (rE (@dZ _ _ _ _ _ (@aj _ _ _ _ _ (@bp _ _ _ _ _ _ _ kR (pv 3) (pv 8) (fun _ _=>rfl)) (@aj _ _ _ _ _ (@bp _ _ _ _ _ _ _ kR (pv 3) aJ (fun _ _=>rfl)) av (by rfl)) (by rfl))) (ot (n:=2) rfl (gD (yh (pv 3) aJ yk) (gD (yh (pv 3) (pv 8) yk) oo))))
  (@aZ _ _ _ _ _ (@bW (i:=6) _ _ _ _ _ _ pO.nd rfl (by w_up) (@dZ _ _ _ _ _ (@aj _ _ _ _ _ (d3 mr (by rfl) T.a6 mw (@aj _ _ _ _ _ (pv 3) av (by rfl))) (@aj _ _ _ _ _ (d3 mr (by rfl) T.a6 mw (@aj _ _ _ _ _ (pv 4) av (by rfl))) av (by rfl)) (by rfl))) (by rfl) (by w_up))
  (@a8 _ _ _ (Js (i:=7) (own:=["_law_s"]) (fr:=["_law_found"]) (js:=[6]) rfl pO.nd rfl rfl ⟨⟨rfl,by w_fin,by w_fin,by dsimp only [gK,aP,Cx.nz,Cx.wish,PyProof.Rows.envOfC,compEnvC,relabel,Env.kindOf];decide +kernel,by w_fin⟩,rfl⟩ (oN rfl T.aQ (@aj _ _ _ _ _ (pv 1) av (by rfl))) (fun _ _ _ _ _=>(cj (i:=0) (show ((["_law_s"]:List Str) ++ (["_law_found"]:List Str)).Nodup by w_fin) rfl (by w_up))) (fun _ _ _ _ _=>(Jn (gh (JC (K:=K) rfl) (pv 0) (cO jL gT hr (by decide) rfl (@aj _ _ _ _ _ (pv 1) av (by rfl))) (by with_unfolding_all rfl)))) (fun _ _ _ _ _=>(pv 0))))))))
  (@a8 _ _ _ (@dN _ _ _ _ (pv 6))))))))))),?_⟩
 exact gn (b:=D6) (a5 (bK (cL (F:=nh) (ao (ai 0) (ao (aK _) ax)) iX) (aM 2))
  (a5 (KH (ao (bX G0 (ao (cL (F:=xQ) (ao (ai 0) (ao (ai 1) ax)) iX) ax)) (ao (bX G0 (ao (cL (F:=xQ) (ao (ai 0) (ao (ai 1) ax)) iX) ax)) ax)))
  (a5 (j6 (fD (aB oa (ai 2) (aK _))) (bK (aB uD (bX rO (ao (bX yD (ao (aK _) (ao (ai 1) ax))) ax)) (jc (ao (aK _) ax))) (aM 3)) kX)
  (a5 (j6 (fD (aB oa (ai 2) (aK _))) (KH (ao (bX rO (ao (bX DP (ao (ai 1) ax)) ax)) (ao (aB uD (bX rO (ao (bX yD (ao (aK _) (ao (ai 1) ax))) ax)) (jc (ao (aK _) ax))) ax))) kX)
  (a5 (j6 (fD (aB oa (ai 2) (aK _))) (a5 (bK (aB lG (aK _) (cL (F:=nh) (ao (ai 0) (ao (ai 1) ax)) iX)) (aM 5))
  (a5 (bK (aB uD (aB uD (bX rO (ao (bX yD (ao (aK _) (ao (ai 5) ax))) ax)) (jc (ao (aK _) ax))) (bX rO (ao (bX yD (ao (ai 5) (ao (ai 1) ax))) ax))) (aM 3))
  (a5 (bK (GX Kv (aB uD (aB uD (aB uD (jc (ao (ai 5) ax)) (bX rO (ao (bX yD (ao (aK _) (ao (ai 5) ax))) ax))) (bX rO (ao (bX yD (ao (aB lG (ai 5) (aK _)) (ao (ai 1) ax))) ax))) (jc (ao (aK _) ax))) GV (GW (ai 1))) (aM 4))
  (j6 (fD (aB oa (ai 5) (ai 1))) (bK (bX rO (ao (bX DP (ao (ai 1) ax)) ax)) (aM 4)) kX)))) kX)
  (a5 (bK (d5 (ao (bX mD (ao (ai 3) ax)) (ao (bX mD (ao (ai 4) ax)) ax))) (aM 6))
  (a5 (bK (p4 (oR (ao (ai 1) ax)) (aM 0) (fD (aB (AX true) (ai 0) (cL (F:=sY) (ao (ai 1) ax) lZ))) (ai 0)) (aM 7))
  (a5 (wB (fD (aB (DN true) (ai 7) (jc ax))) (a5 (bK (aB iW (ai 7) (aK _)) (aM 8))
  (a5 (bK (d5 (ao (aB iW (ai 3) (ai 8)) (ao (aB iW (ai 3) (aK _)) ax))) (oE (gG (yE (ai 3) (aK _)) (gG (yE (ai 3) (ai 8)) oD))))
  (a5 (bK (d5 (ao (bX mD (ao (ai 3) ax)) (ao (bX mD (ao (ai 4) ax)) ax))) (aM 6))
  (bK (p4 (oR (ao (ai 1) ax)) (aM 0) (fD (aB (AX true) (ai 0) (cL (F:=sY) (ao (ai 1) ax) lZ))) (ai 0)) (aM 7))))))
  (dO (ai 6)))))))))) rfl h
def D7:aq->Dm Fl :=
 (az (aG (b9 (ae (ag 1) ah)) (hName 2))
 (az (cu (ka (aN c6 (ae (aN gY (ae (aN cI (ae (ay aI (ag 0) (fC (.int 0))) ah)) ah)) ah))) (hName 3) (cu (cK (ag 0)) (hName 4) (gF (pY (aH (ay uA (ag 3) (aN cI (ae (ag 2) ah)))) (aH (ay (qc true) (ay aI (ag 4) (ay bQ (ag 2) (ag 3))) (ag 2)))) (bN (gZ "list" aO (ag 2) (ae (ay aI (ag 4) (ay bQ (ag 2) (ag 3))) ah))) bD)))
 (bg (aN bB (ae (cQ (cK (ag 0)) 1 [2] (hName 0) dG (aN bB (ae (cQ (ka (ag 1)) 1 [0,1] (hName 0) dG (gZ "list" jH (ag 2) (ae (ay aI (ag 1) (ag 0)) ah))) ah))) ah)))))
def BD:List D->Dm D:=fA 5 D7
def BE:Stmt:=top 49
theorem D8:aC ["_law_floor_here","_law_s","_law_called","_law_one","_law_turning_here"] ["_law_floor_here","_law_s"] (au BE):=⟨rfl,rfl,rfl,by w_fin,rfl,by w_fin,by w_fin⟩
theorem Q0 {f:Addr} {fd:FuncData} (D:Def K mg "_law_numbered" BE ["_law_floor_here","_law_s"] f fd) (T:Txt mg)  :aE P w K mg base bE 1 f fd ["_law_floor_here","_law_s"] (bI K 2 BD):=by
 refine D.F.ok D8 (fun _ _ _ _ h=>h.1) (fun c A o s H v Q E hr h=>?_)
 refine ⟨_,(@aZ _ _ _ _ _ (@bW (i:=2) _ _ _ _ _ _ D8.nd rfl (by w_up) (@i9 _ _ _ _ (@aj _ _ _ _ _ (pv 1) av (by rfl))) (by rfl) (by w_up))
  (@aZ _ _ _ _ _ (@kC _ _ _ _ _ _ _ _ PassesOwn.never rfl (C7 (d3 (rG rfl) (by rfl) T.c7 pV (@aj _ _ _ _ _ (d3 Dj (by rfl) T.aQ rF (@aj _ _ _ _ _ (jF kS (by rfl) T.bT kT (@aj _ _ _ _ _ (@bp _ _ _ _ _ _ _ cB (pv 0) aJ (fun _ _=>rfl)) av (by rfl))) av (by rfl))) av (by rfl)))) (cj (i:=3) D8.nd rfl (by w_up)) (@a8 _ _ _ (@kC _ _ _ _ _ _ _ _ PassesOwn.never rfl (ou (pv 0)) (cj (i:=4) D8.nd rfl (by w_up)) (@a8 _ _ _ (@j4 _ _ _ _ _ _ _ _ (PW.pt (Fs (gh yi (pv 3) (jF kS (by rfl) T.bT kT (@aj _ _ _ _ _ (pv 2) av (by rfl))) (aL _)) (Fq (gh De (@bp _ _ _ _ _ _ _ cB (pv 4) (@bp _ _ _ _ _ _ _ kR (pv 2) (pv 3) (fun _ _=>rfl)) (fun _ _=>rfl)) (pv 2) (by with_unfolding_all rfl))))) (@a8 _ _ _ (nA (mv PySem.F.plainAttrs_list PySem.F.slot_list_append PySem.F.type_list_append nC (pv 2) (@aj _ _ _ _ _ (@bp _ _ _ _ _ _ _ cB (pv 4) (@bp _ _ _ _ _ _ _ kR (pv 2) (pv 3) (fun _ _=>rfl)) (fun _ _=>rfl)) av (by rfl))))) kP)) (by intro _;rfl))) (by intro _;rfl))
  (@a8 _ _ _ (@dN _ _ _ _ (d3 mr (by rfl) T.a6 mw (@aj _ _ _ _ _ (qB (own:=["_law_turning_here"]) (fr:=["_law_called"]) (js:=[2]) rfl ⟨⟨rfl,by w_fin,by w_fin,by dsimp only [gK,aP,Cx.nz,Cx.wish,PyProof.Rows.envOfC,compEnvC,relabel,Env.kindOf];decide +kernel,by w_fin⟩,rfl⟩ (ou (pv 0)) (fun _ _ _ _ _=>(cj (i:=0) (show ((["_law_turning_here"]:List Str) ++ (["_law_called"]:List Str)).Nodup by w_fin) rfl (by w_up))) (fun _ _ _ _ _=>qy) (fun _ _ _ _ _=>(d3 (Nv (K:=K) rfl) (by rfl) T.a6 mw (@aj _ _ _ _ _ (qB (own:=["_law_one"]) (fr:=["_law_turning_here","_law_called"]) (js:=[0,1]) rfl ⟨Pb ⟨rfl,by w_fin,by w_fin,by dsimp only [gK,Cx.nz,Cx.wish,PyProof.Rows.envOfC];decide +kernel,by w_fin⟩,rfl⟩ (Nw (K:=K) rfl (pv 1)) (fun _ _ _ _ _=>(cj (i:=0) (show ((["_law_one"]:List Str) ++ (["_law_turning_here","_law_called"]:List Str)).Nodup by w_fin) rfl (by w_up))) (fun _ _ _ _ _=>qy) (fun _ _ _ _ _=>(Gi (K:=K) rfl PySem.F.plainAttrs_list PySem.F.slot_list_index PySem.F.type_list_index (Qj (K:=K) rfl) (pv 2) (@aj _ _ _ _ _ (@bp _ _ _ _ _ _ _ (yr (K:=K) rfl) (pv 1) (pv 0) (fun _ _=>rfl)) av (by rfl))))) av (by rfl))))) av (by rfl))))))),?_⟩
 exact gn (b:=D7) (a5 (bK (jc (ao (ai 1) ax)) (aM 2))
  (a5 (kD (DQ (bX rO (ao (bX DP (ao (bX kW (ao (aB ck (ai 0) (aK _)) ax)) ax)) ax))) (aM 3) (kD (oG (ai 0)) (aM 4) (j6 (GU (fD (aB yB (ai 3) (bX kW (ao (ai 2) ax)))) (fD (aB (AX true) (aB ck (ai 4) (aB iW (ai 2) (ai 3))) (ai 2)))) (nM (lO nJ (ai 2) (ao (aB ck (ai 4) (aB iW (ai 2) (ai 3))) ax))) kX)))
  (dO (bX mD (ao (p4 (oG (ai 0)) (aM 0) qW (bX mD (ao (p4 (DQ (ai 1)) (aM 0) qW (lO Qk (ai 2) (ao (aB ck (ai 1) (ai 0)) ax))) ax))) ax))))) rfl h
def D9:aq->Dm Fl :=
 (bg (aN lI (ae (cQ (bY (ae (aN cI (ae (ay aI (ag 0) (fC (.int 0))) ah)) ah)) 1 [0] (hName 0) dG (aN BD (ae (ag 1) (ae (ag 0) ah)))) ah)))
def uO:List D->Dm D:=fA 1 D9
def BF:Stmt:=top 50
theorem Q5:aC ["_law_floor_here"] ["_law_floor_here"] (au BF):=⟨rfl,rfl,rfl,by w_fin,rfl,by w_fin,by w_fin⟩
theorem Q6 {f:Addr} {fd:FuncData} (D:Def K mg "_law_form" BF ["_law_floor_here"] f fd) (T:Txt mg)  {cS:Addr} {cT:FuncData} (cU:Def K mg "_law_numbered" BE ["_law_floor_here","_law_s"] cS cT) (eX:aE P w K mg base bE 1 cS cT ["_law_floor_here","_law_s"] (bI K 2 BD)):aE P w K mg base bE 2 f fd ["_law_floor_here"] (bI K 1 uO):=by
 refine D.F.ok Q5 (fun _ _ _ _ h=>h.1) (fun c A o s H v Q E hr h=>?_)
 have hu:=hr.units
 refine ⟨_,(@a8 _ _ _ (@dN _ _ _ _ (jF (JS rfl hu) (by rfl) T.rl FY (@aj _ _ _ _ _ (qB (own:=["_law_s"]) (fr:=["_law_floor_here"]) (js:=[0]) rfl ⟨⟨rfl,by w_fin,by w_fin,by dsimp only [gK,aP,Cx.nz,Cx.wish,PyProof.Rows.envOfC,compEnvC,relabel,Env.kindOf];decide +kernel,by w_fin⟩,rfl⟩ (oN rfl T.aQ (@aj _ _ _ _ _ (jF kS (by rfl) T.bT kT (@aj _ _ _ _ _ (@bp _ _ _ _ _ _ _ cB (pv 0) aJ (fun _ _=>rfl)) av (by rfl))) av (by rfl))) (fun _ _ _ _ _=>(cj (i:=0) (show ((["_law_s"]:List Str) ++ (["_law_floor_here"]:List Str)).Nodup by w_fin) rfl (by w_up))) (fun _ _ _ _ _=>qy) (fun _ _ _ _ _=>(cO eX cU hr (by decide) rfl (@aj _ _ _ _ _ (pv 1) (@aj _ _ _ _ _ (pv 0) av (by rfl)) (by rfl))))) av (by rfl))))),?_⟩
 exact gn (b:=D9) (dO (bX Lc (ao (p4 (oR (ao (bX kW (ao (aB ck (ai 0) (aK _)) ax)) ax)) (aM 0) qW (cL (F:=BD) (ao (ai 1) (ao (ai 0) ax)) iX)) ax))) rfl h
def Ea:aq->Dm Fl :=
 (az (gF (aH (ay uA (ag 2) (fC (.int 0)))) (az (aG (aN bB (ae (cQ (bY (ae (aN cI (ae (ag 0) ah)) ah)) 1 [0] (hName 0) dG (gZ "tuple" je (ag 1) (ae (ag 0) ah))) ah)) (hName 0))
 (aG (ay mO (fC (.int 0)) (ag 2)) (hName 2))) bD)
 (az (aG (b9 (ae (ag 1) ah)) (hName 3))
 (az (g7 (aH (ay (jY true) (ay aI (ag 0) (ay bQ (ag 3) (qO lL (fC (.int 1))))) (ag 1))) (bN (gZ "list" aO (ag 3) (ae (ay aI (ag 0) (ay bQ (ag 3) (qO lL (fC (.int 1))))) ah))))
 (bg (ay bQ (ag 3) (ay jd (ag 2) (aN cI (ae (ag 3) ah))))))))
def BG:List D->Dm D:=fA 4 Ea
def BH:Stmt:=top 47
theorem Eb:aC ["_law_turning_here","_law_s","_law_k","_law_ring"] ["_law_turning_here","_law_s","_law_k"] (au BH):=⟨rfl,rfl,rfl,by w_fin,rfl,by w_fin,by w_fin⟩
theorem Q7 {f:Addr} {fd:FuncData} (D:Def K mg "_law_behind" BH ["_law_turning_here","_law_s","_law_k"] f fd) (T:Txt mg)  :aE P w K mg base bE 1 f fd ["_law_turning_here","_law_s","_law_k"] (bI K 3 BG):=by
 refine D.F.ok Eb (fun _ _ _ _ h=>h.1) (fun c A o s H v Q E hr h=>?_)
 refine ⟨_,(@aZ _ _ _ _ _ (@j4 _ _ _ _ _ _ _ _ (gh yi (pv 2) aJ (aL _)) (@aZ _ _ _ _ _ (@bW (i:=0) _ _ _ _ _ _ Eb.nd rfl (by w_up) (d3 mr (by rfl) T.a6 mw (@aj _ _ _ _ _ (qB (own:=["_law_one"]) (fr:=["_law_turning_here"]) (js:=[0]) rfl ⟨⟨rfl,by w_fin,by w_fin,by dsimp only [gK,aP,Cx.nz,Cx.wish,PyProof.Rows.envOfC,compEnvC,relabel,Env.kindOf];decide +kernel,by w_fin⟩,rfl⟩ (oN rfl T.aQ (@aj _ _ _ _ _ (jF kS (by rfl) T.bT kT (@aj _ _ _ _ _ (pv 0) av (by rfl))) av (by rfl))) (fun _ _ _ _ _=>(cj (i:=0) (show ((["_law_one"]:List Str) ++ (["_law_turning_here"]:List Str)).Nodup by w_fin) rfl (by w_up))) (fun _ _ _ _ _=>qy) (fun _ _ _ _ _=>(Gi (K:=K) rfl PySem.F.plainAttrs_tuple PySem.F.slot_tuple_index PySem.F.type_tuple_index (JE (K:=K) rfl) (pv 1) (@aj _ _ _ _ _ (pv 0) av (by rfl))))) av (by rfl))) (by rfl) (by w_up))
  (@a8 _ _ _ (@bW (i:=2) _ _ _ _ _ _ Eb.nd rfl (by w_up) (bM zA aJ (pv 2)) (by rfl) (by w_up)))) kP)
  (@aZ _ _ _ _ _ (@bW (i:=3) _ _ _ _ _ _ Eb.nd rfl (by w_up) (@i9 _ _ _ _ (@aj _ _ _ _ _ (pv 1) av (by rfl))) (by rfl) (by w_up))
  (@aZ _ _ _ _ _ (vk PassesOwn.never (gh Dc (@bp _ _ _ _ _ _ _ cB (pv 0) (@bp _ _ _ _ _ _ _ kR (pv 3) (sd se aJ) (fun _ _=>rfl)) (fun _ _=>rfl)) (pv 1) (aL _)) (@a8 _ _ _ (nA (mv PySem.F.plainAttrs_list PySem.F.slot_list_append PySem.F.type_list_append nC (pv 3) (@aj _ _ _ _ _ (@bp _ _ _ _ _ _ _ cB (pv 0) (@bp _ _ _ _ _ _ _ kR (pv 3) (sd se aJ) (fun _ _=>rfl)) (fun _ _=>rfl)) av (by rfl))))))
  (@a8 _ _ _ (@dN _ _ _ _ (@bp _ _ _ _ _ _ _ kR (pv 3) (bM pS (pv 2) (jF kS (by rfl) T.bT kT (@aj _ _ _ _ _ (pv 3) av (by rfl)))) (fun _ _=>rfl))))))),?_⟩
 exact gn (b:=Ea) (a5 (j6 (fD (aB yB (ai 2) (aK _))) (a5 (bK (bX mD (ao (p4 (oR (ao (bX kW (ao (ai 0) ax)) ax)) (aM 0) qW (lO KD (ai 1) (ao (ai 0) ax))) ax)) (aM 0))
  (bK (aB AR (aK _) (ai 2)) (aM 2))) kX)
  (a5 (bK (jc (ao (ai 1) ax)) (aM 3))
  (a5 (wB (fD (aB DM (aB ck (ai 0) (aB iW (ai 3) (sM sN (aK _)))) (ai 1))) (nM (lO nJ (ai 3) (ao (aB ck (ai 0) (aB iW (ai 3) (sM sN (aK _)))) ax))))
  (dO (aB iW (ai 3) (aB pZ (ai 2) (bX kW (ao (ai 3) ax)))))))) rfl h
def yM:aq->Dm Fl :=
 (az (aG (ag 0) (gQ 2 (aS (hName 2) (aS (hName 3) g5))))
 (az (gF (aH (ay (jY false) (ay aI (ag 1) (fC (.int 0))) (fC (.str "s")))) (bg (a7 (ae (ag 2) (ae (aN bB (ae (cQ (bY (ae (aN cI (ae (ag 3) ah)) ah)) 1 [1,2,3] (hName 0) dG (ay aI (ag 3) (aN BG (ae (ag 2) (ae (ag 0) (ae (ay mO (fC (.int 0)) (ay aI (ag 1) (fC (.int 1)))) ah)))))) ah)) ah)))) bD)
 (az (cu (bY (ae (ay jd (ay aI (ag 1) (fC (.int 1))) (fC (.int 4))) ah)) (hName 4) (aG (a7 (ae (aN bB (ae (cQ (bY (ae (aN cI (ae (ag 3) ah)) ah)) 1 [3] (hName 0) dG (gZ "tuple" je (ag 1) (ae (ag 0) ah))) ah)) (ae (ag 2) ah))) (gQ 2 (aS (hName 2) (aS (hName 3) g5)))))
 (bg (a7 (ae (ag 2) (ae (ag 3) ah)))))))
def uP:List D->Dm D:=fA 5 yM
def BI:Stmt:=top 48
theorem yN:aC ["_law_floor_here","_law_step","_law_right","_law_up","_law_turn"] ["_law_floor_here","_law_step"] (au BI):=⟨rfl,rfl,rfl,by w_fin,rfl,by w_fin,by w_fin⟩
theorem Q8 {f:Addr} {fd:FuncData} (D:Def K mg "_law_stepped" BI ["_law_floor_here","_law_step"] f fd) (T:Txt mg)  {d7:Addr} {d8:FuncData} (d9:Def K mg "_law_behind" BH ["_law_turning_here","_law_s","_law_k"] d7 d8) (g9:aE P w K mg base bE 1 d7 d8 ["_law_turning_here","_law_s","_law_k"] (bI K 3 BG)):aE P w K mg base bE 2 f fd ["_law_floor_here","_law_step"] (bI K 2 uP):=by
 refine D.F.ok yN (fun _ _ _ _ h=>h.1) (fun c A o s H v Q E hr h=>?_)
 refine ⟨_,(@aZ _ _ _ _ _ (rE (pv 0) (ot (n:=2) rfl (gD (cj (i:=2) yN.nd rfl (by w_up)) (gD (cj (i:=3) yN.nd rfl (by w_up)) oo))))
  (@aZ _ _ _ _ _ (@j4 _ _ _ _ _ _ _ _ (gh n5 (@bp _ _ _ _ _ _ _ cB (pv 1) aJ (fun _ _=>rfl)) oV (aL _)) (@a8 _ _ _ (@dN _ _ _ _ (@dZ _ _ _ _ _ (@aj _ _ _ _ _ (pv 2) (@aj _ _ _ _ _ (d3 mr (by rfl) T.a6 mw (@aj _ _ _ _ _ (qB (own:=["_law_s"]) (fr:=["_law_step","_law_right","_law_up"]) (js:=[1,2,3]) rfl ⟨⟨rfl,by w_fin,by w_fin,by dsimp only [gK,aP,Cx.nz,Cx.wish,PyProof.Rows.envOfC,compEnvC,relabel,Env.kindOf];decide +kernel,by w_fin⟩,rfl⟩ (oN rfl T.aQ (@aj _ _ _ _ _ (jF kS (by rfl) T.bT kT (@aj _ _ _ _ _ (pv 3) av (by rfl))) av (by rfl))) (fun _ _ _ _ _=>(cj (i:=0) (show ((["_law_s"]:List Str) ++ (["_law_step","_law_right","_law_up"]:List Str)).Nodup by w_fin) rfl (by w_up))) (fun _ _ _ _ _=>qy) (fun _ _ _ _ _=>(@bp _ _ _ _ _ _ _ (yr (K:=K) rfl) (pv 3) (cO g9 d9 hr (by decide) rfl (@aj _ _ _ _ _ (pv 2) (@aj _ _ _ _ _ (pv 0) (@aj _ _ _ _ _ (bM zA aJ (@bp _ _ _ _ _ _ _ (yr (K:=K) rfl) (pv 1) aJ (fun _ _=>rfl))) av (by rfl)) (by rfl)) (by rfl))) (fun _ _=>rfl)))) av (by rfl))) av (by rfl)) (by rfl))))) kP)
  (@aZ _ _ _ _ _ (@kC _ _ _ _ _ _ _ _ PassesOwn.never rfl (oN rfl T.aQ (@aj _ _ _ _ _ (bM pS (@bp _ _ _ _ _ _ _ cB (pv 1) aJ (fun _ _=>rfl)) aJ) av (by rfl))) (cj (i:=4) yN.nd rfl (by w_up)) (@a8 _ _ _ (rE (@dZ _ _ _ _ _ (@aj _ _ _ _ _ (d3 mr (by rfl) T.a6 mw (@aj _ _ _ _ _ (qB (own:=["_law_s"]) (fr:=["_law_up"]) (js:=[3]) rfl ⟨⟨rfl,by w_fin,by w_fin,by dsimp only [gK,aP,Cx.nz,Cx.wish,PyProof.Rows.envOfC,compEnvC,relabel,Env.kindOf];decide +kernel,by w_fin⟩,rfl⟩ (oN rfl T.aQ (@aj _ _ _ _ _ (jF kS (by rfl) T.bT kT (@aj _ _ _ _ _ (pv 3) av (by rfl))) av (by rfl))) (fun _ _ _ _ _=>(cj (i:=0) (show ((["_law_s"]:List Str) ++ (["_law_up"]:List Str)).Nodup by w_fin) rfl (by w_up))) (fun _ _ _ _ _=>qy) (fun _ _ _ _ _=>(Gi (K:=K) rfl PySem.F.plainAttrs_tuple PySem.F.slot_tuple_index PySem.F.type_tuple_index (JE (K:=K) rfl) (pv 1) (@aj _ _ _ _ _ (pv 0) av (by rfl))))) av (by rfl))) (@aj _ _ _ _ _ (pv 2) av (by rfl)) (by rfl))) (ot (n:=2) rfl (gD (cj (i:=2) yN.nd rfl (by w_up)) (gD (cj (i:=3) yN.nd rfl (by w_up)) oo))))) (by intro _;rfl))
  (@a8 _ _ _ (@dN _ _ _ _ (@dZ _ _ _ _ _ (@aj _ _ _ _ _ (pv 2) (@aj _ _ _ _ _ (pv 3) av (by rfl)) (by rfl)))))))),?_⟩
 exact gn (b:=yM) (a5 (bK (ai 0) (oE (gG (aM 2) (gG (aM 3) oD))))
  (a5 (j6 (fD (aB oa (aB ck (ai 1) (aK _)) (o7 _))) (dO (d5 (ao (ai 2) (ao (bX mD (ao (p4 (oR (ao (bX kW (ao (ai 3) ax)) ax)) (aM 0) qW (aB ck (ai 3) (cL (F:=BG) (ao (ai 2) (ao (ai 0) (ao (aB AR (aK _) (aB ck (ai 1) (aK _))) ax))) Lr))) ax)) ax)))) kX)
  (a5 (kD (oR (ao (aB pZ (aB ck (ai 1) (aK _)) (aK _)) ax)) (aM 4) (bK (d5 (ao (bX mD (ao (p4 (oR (ao (bX kW (ao (ai 3) ax)) ax)) (aM 0) qW (lO KD (ai 1) (ao (ai 0) ax))) ax)) (ao (ai 2) ax))) (oE (gG (aM 2) (gG (aM 3) oD)))))
  (dO (d5 (ao (ai 2) (ao (ai 3) ax))))))) rfl h
def Ec:aq->Dm Fl :=
 (az (aG (b9 ah) (hName 1))
 (az (cu (cK (ag 0)) (gQ 2 (aS (hName 2) (aS (hName 3) g5))) (az (gF (pY (aH (ay (lM true) (ag 1) (b9 ah))) (aH (ay (jY false) (ay aI (ay bQ (ag 1) (qO lL (fC (.int 1)))) (fC (.int 0))) (ag 2)))) (aG (ay cM (ay aI (sU "list" sW (ag 1)) (fC (.int 1))) (ag 3)) (hName 3)) bD)
 (az (gF (aH (ay (jY false) (ag 2) (fC (.str "t")))) (aG (ay jd (ag 3) (fC (.int 4))) (hName 3)) bD)
 (gF (aH (ay (jY true) (ag 3) (fC (.int 0)))) (bN (gZ "list" aO (ag 1) (ae (a7 (ae (ag 2) (ae (ag 3) ah))) ah))) bD))))
 (bg (aN bB (ae (ag 1) ah)))))
def yO:List D->Dm D:=fA 4 Ec
def BJ:Stmt:=top 53
theorem yP:aC ["_law_word","_law_found","_law_letter","_law_k"] ["_law_word"] (au BJ):=⟨rfl,rfl,rfl,by w_fin,rfl,by w_fin,by w_fin⟩
theorem Q9 {f:Addr} {fd:FuncData} (D:Def K mg "_law_plain" BJ ["_law_word"] f fd) (T:Txt mg)  :aE P w K mg base bE 1 f fd ["_law_word"] (bI K 1 yO):=by
 refine D.F.ok yP (fun _ _ _ _ h=>h.1) (fun c A o s H v Q E hr h=>?_)
 have hu:=hr.units
 refine ⟨_,(@aZ _ _ _ _ _ (@bW (i:=1) _ _ _ _ _ _ yP.nd rfl (by w_up) (@i9 _ _ _ _ av) (by rfl) (by w_up))
  (@aZ _ _ _ _ _ (@kC _ _ _ _ _ _ _ _ PassesOwn.never rfl (ou (pv 0)) (ot (n:=2) rfl (gD (cj (i:=2) yP.nd rfl (by w_up)) (gD (cj (i:=3) yP.nd rfl (by w_up)) oo))) (@aZ _ _ _ _ _ (@j4 _ _ _ _ _ _ _ _ (PW.pt (Fs (gh (Dk hu) (pv 1) (@i9 _ _ _ _ av) (aL _)) (Fq (gh n5 (@bp _ _ _ _ _ _ _ cB (@bp _ _ _ _ _ _ _ kR (pv 1) (sd se aJ) (fun _ _=>rfl)) aJ (fun _ _=>rfl)) (pv 2) (aL _))))) (@a8 _ _ _ (@bW (i:=3) _ _ _ _ _ _ yP.nd rfl (by w_up) (bM lE (@bp _ _ _ _ _ _ _ cB (vE PySem.F.plainAttrs_list PySem.F.slot_list_pop PySem.F.type_list_pop vG (pv 1)) aJ (fun _ _=>rfl)) (pv 3)) (by rfl) (by w_up))) kP)
  (@aZ _ _ _ _ _ (@j4 _ _ _ _ _ _ _ _ (gh n5 (pv 2) oV (aL _)) (@a8 _ _ _ (@bW (i:=3) _ _ _ _ _ _ yP.nd rfl (by w_up) (bM pS (pv 3) aJ) (by rfl) (by w_up))) kP)
  (@a8 _ _ _ (@j4 _ _ _ _ _ _ _ _ (gh Dc (pv 3) aJ (aL _)) (@a8 _ _ _ (nA (mv PySem.F.plainAttrs_list PySem.F.slot_list_append PySem.F.type_list_append nC (pv 1) (@aj _ _ _ _ _ (@dZ _ _ _ _ _ (@aj _ _ _ _ _ (pv 2) (@aj _ _ _ _ _ (pv 3) av (by rfl)) (by rfl))) av (by rfl))))) kP)))) (by intro _;rfl))
  (@a8 _ _ _ (@dN _ _ _ _ (d3 mr (by rfl) T.a6 mw (@aj _ _ _ _ _ (pv 1) av (by rfl))))))),?_⟩
 exact gn (b:=Ec) (a5 (bK (jc ax) (aM 1))
  (a5 (kD (oG (ai 0)) (oE (gG (aM 2) (gG (aM 3) oD))) (a5 (j6 (GU (fD (aB (DN true) (ai 1) (jc ax))) (fD (aB oa (aB ck (aB iW (ai 1) (sM sN (aK _))) (aK _)) (ai 2)))) (bK (aB lG (aB ck (xJ xM (ai 1)) (aK _)) (ai 3)) (aM 3)) kX)
  (a5 (j6 (fD (aB oa (ai 2) (o7 _))) (bK (aB pZ (ai 3) (aK _)) (aM 3)) kX)
  (j6 (fD (aB DM (ai 3) (aK _))) (nM (lO nJ (ai 1) (ao (d5 (ao (ai 2) (ao (ai 3) ax))) ax))) kX))))
  (dO (bX mD (ao (ai 1) ax))))) rfl h
def Ed:aq->Dm Fl :=
 (az (aG (b9 (ae (aN uO (ae (ag 0) ah)) ah)) (hName 2))
 (az (aG (b9 (ae (a7 ah) ah)) (hName 3))
 (az (aG (b9 ah) (hName 4))
 (az (cu (bY (ae (ag 1) ah)) (hName 5) (gF (aH (ay uA (ag 5) (aN cI (ae (ag 2) ah)))) (az (bN (gZ "list" aO (ag 4) (ae (b9 ah) ah)))
 (az (cu (cK (a7 (ae (a7 (ae (fC (.str "s")) (ae (fC (.int 1)) ah))) (ae (a7 (ae (fC (.str "t")) (ae (fC (.int 1)) ah))) ah)))) (hName 6) (az (aG (aN uO (ae (aN uP (ae (ay bQ (ag 2) (ag 5)) (ae (ag 6) ah))) ah)) (hName 7))
 (az (gF (aH (ay (oI true) (ag 7) (ag 2))) (az (bN (gZ "list" aO (ag 2) (ae (ag 7) ah)))
 (bN (gZ "list" aO (ag 3) (ae (aN yO (ae (ay eQ (ay bQ (ag 3) (ag 5)) (a7 (ae (ag 6) ah))) ah)) ah)))) bD)
 (bN (gZ "list" aO (ay bQ (ag 4) (ag 5)) (ae (gZ "list" dg (ag 2) (ae (ag 7) ah)) ah))))))
 (gF (aH (ay wm (aN cI (ae (ag 2) ah)) (ag 1))) (bg (fC .non)) bD))) bD))
 (bg (aN bB (ae (cQ (bY (ae (aN cI (ae (ag 2) ah)) ah)) 1 [2,3,4] (hName 0) dG (a7 (ae (ay bQ (ag 1) (ag 0)) (ae (ay bQ (ag 2) (ag 0)) (ae (ay bQ (ay bQ (ag 3) (ag 0)) (fC (.int 0))) (ae (ay bQ (ay bQ (ag 3) (ag 0)) (fC (.int 1))) ah)))))) ah)))))))
def xS:List D->Dm D:=fA 8 Ed
def BK:Stmt:=top 54
theorem xT:aC ["_law_floor_here","_law_most","_law_forms","_law_words","_law_links","_law_at","_law_step","_law_fresh"] ["_law_floor_here","_law_most"] (au BK):=⟨rfl,rfl,rfl,by w_fin,rfl,by w_fin,by w_fin⟩
theorem Ra {f:Addr} {fd:FuncData} (D:Def K mg "_law_chart" BK ["_law_floor_here","_law_most"] f fd) (T:Txt mg)  {hJ:Addr} {hU:FuncData} (eY:Def K mg "_law_form" BF ["_law_floor_here"] hJ hU) (hV:aE P w K mg base bE 2 hJ hU ["_law_floor_here"] (bI K 1 uO)) {dk:Addr} {dn:FuncData} (dr:Def K mg "_law_stepped" BI ["_law_floor_here","_law_step"] dk dn) (gp:aE P w K mg base bE 2 dk dn ["_law_floor_here","_law_step"] (bI K 2 uP)) {fG:Addr} {fH:FuncData} (fI:Def K mg "_law_plain" BJ ["_law_word"] fG fH) (jk:aE P w K mg base bE 1 fG fH ["_law_word"] (bI K 1 yO)):aE P w K mg base bE 3 f fd ["_law_floor_here","_law_most"] (bI K 2 xS):=by
 refine D.F.ok xT (fun _ _ _ _ h=>h.1) (fun c A o s H v Q E hr h=>?_)
 have hu:=hr.units
 refine ⟨_,(@aZ _ _ _ _ _ (@bW (i:=2) _ _ _ _ _ _ xT.nd rfl (by w_up) (@i9 _ _ _ _ (@aj _ _ _ _ _ (cO hV eY hr (by decide) rfl (@aj _ _ _ _ _ (pv 0) av (by rfl))) av (by rfl))) (by rfl) (by w_up))
  (@aZ _ _ _ _ _ (@bW (i:=3) _ _ _ _ _ _ xT.nd rfl (by w_up) (@i9 _ _ _ _ (@aj _ _ _ _ _ (@dZ _ _ _ _ _ av) av (by rfl))) (by rfl) (by w_up))
  (@aZ _ _ _ _ _ (@bW (i:=4) _ _ _ _ _ _ xT.nd rfl (by w_up) (@i9 _ _ _ _ av) (by rfl) (by w_up))
  (@aZ _ _ _ _ _ (@kC _ _ _ _ _ _ _ _ PassesOwn.never rfl (oN rfl T.aQ (@aj _ _ _ _ _ (pv 1) av (by rfl))) (cj (i:=5) xT.nd rfl (by w_up)) (@a8 _ _ _ (@j4 _ _ _ _ _ _ _ _ (gh yi (pv 5) (jF kS (by rfl) T.bT kT (@aj _ _ _ _ _ (pv 2) av (by rfl))) (aL _)) (@aZ _ _ _ _ _ (nA (mv PySem.F.plainAttrs_list PySem.F.slot_list_append PySem.F.type_list_append nC (pv 4) (@aj _ _ _ _ _ (@i9 _ _ _ _ av) av (by rfl))))
  (@aZ _ _ _ _ _ (@kC _ _ _ _ _ _ _ _ PassesOwn.never rfl (ou (@dZ _ _ _ _ _ (@aj _ _ _ _ _ (@dZ _ _ _ _ _ (@aj _ _ _ _ _ oV (@aj _ _ _ _ _ aJ av (by rfl)) (by rfl))) (@aj _ _ _ _ _ (@dZ _ _ _ _ _ (@aj _ _ _ _ _ oV (@aj _ _ _ _ _ aJ av (by rfl)) (by rfl))) av (by rfl)) (by rfl)))) (cj (i:=6) xT.nd rfl (by w_up)) (@aZ _ _ _ _ _ (@bW (i:=7) _ _ _ _ _ _ xT.nd rfl (by w_up) (cO hV eY hr (by decide) rfl (@aj _ _ _ _ _ (cO gp dr hr (by decide) rfl (@aj _ _ _ _ _ (@bp _ _ _ _ _ _ _ kR (pv 2) (pv 5) (fun _ _=>rfl)) (@aj _ _ _ _ _ (pv 6) av (by rfl)) (by rfl))) av (by rfl))) (by rfl) (by w_up))
  (@aZ _ _ _ _ _ (@j4 _ _ _ _ _ _ _ _ (gh (JF hu) (pv 7) (pv 2) (by with_unfolding_all rfl)) (@aZ _ _ _ _ _ (nA (mv PySem.F.plainAttrs_list PySem.F.slot_list_append PySem.F.type_list_append nC (pv 2) (@aj _ _ _ _ _ (pv 7) av (by rfl))))
  (@a8 _ _ _ (nA (mv PySem.F.plainAttrs_list PySem.F.slot_list_append PySem.F.type_list_append nC (pv 3) (@aj _ _ _ _ _ (cO jk fI hr (by decide) rfl (@aj _ _ _ _ _ (bM sr (@bp _ _ _ _ _ _ _ kR (pv 3) (pv 5) (fun _ _=>rfl)) (@dZ _ _ _ _ _ (@aj _ _ _ _ _ (pv 6) av (by rfl)))) av (by rfl))) av (by rfl)))))) kP)
  (@a8 _ _ _ (nA (mv PySem.F.plainAttrs_list PySem.F.slot_list_append PySem.F.type_list_append nC (@bp _ _ _ _ _ _ _ kR (pv 4) (pv 5) (fun _ _=>rfl)) (@aj _ _ _ _ _ (mv PySem.F.plainAttrs_list PySem.F.slot_list_index PySem.F.type_list_index (JU hu) (pv 2) (@aj _ _ _ _ _ (pv 7) av (by rfl))) av (by rfl))))))) (by intro _;rfl))
  (@a8 _ _ _ (@j4 _ _ _ _ _ _ _ _ (gh zB (jF kS (by rfl) T.bT kT (@aj _ _ _ _ _ (pv 2) av (by rfl))) (pv 1) (aL _)) (@a8 _ _ _ (@dN _ _ _ _ Ie)) kP)))) kP)) (by intro _;rfl))
  (@a8 _ _ _ (@dN _ _ _ _ (d3 mr (by rfl) T.a6 mw (@aj _ _ _ _ _ (qB (own:=["_law_at"]) (fr:=["_law_forms","_law_words","_law_links"]) (js:=[2,3,4]) rfl ⟨⟨rfl,by w_fin,by w_fin,by dsimp only [gK,aP,Cx.nz,Cx.wish,PyProof.Rows.envOfC,compEnvC,relabel,Env.kindOf];decide +kernel,by w_fin⟩,rfl⟩ (oN rfl T.aQ (@aj _ _ _ _ _ (jF kS (by rfl) T.bT kT (@aj _ _ _ _ _ (pv 2) av (by rfl))) av (by rfl))) (fun _ _ _ _ _=>(cj (i:=0) (show ((["_law_at"]:List Str) ++ (["_law_forms","_law_words","_law_links"]:List Str)).Nodup by w_fin) rfl (by w_up))) (fun _ _ _ _ _=>qy) (fun _ _ _ _ _=>(@dZ _ _ _ _ _ (@aj _ _ _ _ _ (@bp _ _ _ _ _ _ _ (rJ (K:=K) rfl) (pv 1) (pv 0) (fun _ _=>rfl)) (@aj _ _ _ _ _ (@bp _ _ _ _ _ _ _ (rJ (K:=K) rfl) (pv 2) (pv 0) (fun _ _=>rfl)) (@aj _ _ _ _ _ (@bp _ _ _ _ _ _ _ (rJ (K:=K) rfl) (@bp _ _ _ _ _ _ _ (rJ (K:=K) rfl) (pv 3) (pv 0) (fun _ _=>rfl)) aJ (fun _ _=>rfl)) (@aj _ _ _ _ _ (@bp _ _ _ _ _ _ _ (rJ (K:=K) rfl) (@bp _ _ _ _ _ _ _ (rJ (K:=K) rfl) (pv 3) (pv 0) (fun _ _=>rfl)) aJ (fun _ _=>rfl)) av (by rfl)) (by rfl)) (by rfl)) (by rfl))))) av (by rfl))))))))),?_⟩
 exact gn (b:=Ed) (a5 (bK (jc (ao (cL (F:=uO) (ao (ai 0) ax) lZ) ax)) (aM 2))
  (a5 (bK (jc (ao (d5 ax) ax)) (aM 3))
  (a5 (bK (jc ax) (aM 4))
  (a5 (kD (oR (ao (ai 1) ax)) (aM 5) (j6 (fD (aB yB (ai 5) (bX kW (ao (ai 2) ax)))) (a5 (nM (lO nJ (ai 4) (ao (jc ax) ax)))
  (a5 (kD (oG (d5 (ao (d5 (ao (o7 _) (ao (aK _) ax))) (ao (d5 (ao (o7 _) (ao (aK _) ax))) ax)))) (aM 6) (a5 (bK (cL (F:=uO) (ao (cL (F:=uP) (ao (aB iW (ai 2) (ai 5)) (ao (ai 6) ax)) iX) ax) lZ) (aM 7))
  (a5 (j6 (fD (aB (K8 true) (ai 7) (ai 2))) (a5 (nM (lO nJ (ai 2) (ao (ai 7) ax)))
  (nM (lO nJ (ai 3) (ao (cL (F:=yO) (ao (aB sO (aB iW (ai 3) (ai 5)) (d5 (ao (ai 6) ax))) ax) lZ) ax)))) kX)
  (nM (lO nJ (aB iW (ai 4) (ai 5)) (ao (lO Lh (ai 2) (ao (ai 7) ax)) ax))))))
  (j6 (fD (aB AU (bX kW (ao (ai 2) ax)) (ai 1))) (dO Ks) kX))) kX))
  (dO (bX mD (ao (p4 (oR (ao (bX kW (ao (ai 2) ax)) ax)) (aM 0) qW (d5 (ao (aB iW (ai 1) (ai 0)) (ao (aB iW (ai 2) (ai 0)) (ao (aB iW (aB iW (ai 3) (ai 0)) (aK _)) (ao (aB iW (aB iW (ai 3) (ai 0)) (aK _)) ax)))))) ax))))))) rfl h
def Ee:aq->Dm Fl :=
 (az (aG (aN xR (ae (ag 0) (ae (ay bQ (b9 (ae (ay cM (fC (.int 1)) (aN nh (ae (ag 0) (ae (fC (.int 5)) ah)))) (ae (fC (.int 6)) ah))) (ay m9 (aN nh (ae (ag 0) (ae (fC (.int 8)) ah))) (fC (.int 7)))) ah))) (hName 2))
 (az (aG (aN xS (ae (ag 2) (ae (ag 1) ah))) (hName 3))
 (az (g7 (aH (ay (rf false) (ag 3) (fC .non))) (az (aG (aN xR (ae (ag 0) (ae (ay cM (fC (.int 1)) (aN nh (ae (ag 0) (ae (fC (.int 3)) ah)))) ah))) (hName 2))
 (aG (aN xS (ae (ag 2) (ae (ag 1) ah))) (hName 3))))
 (bg (a7 (ae (ag 2) (ae (ag 3) ah)))))))
def BL:List D->Dm D:=fA 4 Ee
def BM:Stmt:=top 56
theorem BN:aC ["_law_feed_here","_law_most","_law_floor_here","_law_chart_here"] ["_law_feed_here","_law_most"] (au BM):=⟨rfl,rfl,rfl,by w_fin,rfl,by w_fin,by w_fin⟩
theorem Rb {f:Addr} {fd:FuncData} (D:Def K mg "_law_own" BM ["_law_feed_here","_law_most"] f fd) (T:Txt mg)  {fJ:Addr} {fK:FuncData} (dH:Def K mg "_law_floor" BB ["_law_feed_here","_law_n"] fJ fK) (fL:aE P w K mg base bE 3 fJ fK ["_law_feed_here","_law_n"] (bI K 2 xR)) {fM:Addr} {fN:FuncData} (dI:Def K mg "_law_chart" BK ["_law_floor_here","_law_most"] fM fN) (fO:aE P w K mg base bE 3 fM fN ["_law_floor_here","_law_most"] (bI K 2 xS)) {bh:Addr} {bj:FuncData} (aR:Def K mg "_law_take" uN ["_law_feed_here","_law_many"] bh bj) (aX:aE P w K mg base bE 1 bh bj ["_law_feed_here","_law_many"] (bI K 2 nh)):aE P w K mg base bE 4 f fd ["_law_feed_here","_law_most"] (bI K 2 BL):=by
 refine D.F.ok BN (fun _ _ _ _ h=>h.1) (fun c A o s H v Q E hr h=>?_)
 refine ⟨_,(@aZ _ _ _ _ _ (@bW (i:=2) _ _ _ _ _ _ BN.nd rfl (by w_up) (cO fL dH hr (by decide) rfl (@aj _ _ _ _ _ (pv 0) (@aj _ _ _ _ _ (@bp _ _ _ _ _ _ _ kR (@i9 _ _ _ _ (@aj _ _ _ _ _ (bM lE aJ (cO aX aR hr (by decide) rfl (@aj _ _ _ _ _ (pv 0) (@aj _ _ _ _ _ aJ av (by rfl)) (by rfl)))) (@aj _ _ _ _ _ aJ av (by rfl)) (by rfl))) (bM Fx (cO aX aR hr (by decide) rfl (@aj _ _ _ _ _ (pv 0) (@aj _ _ _ _ _ aJ av (by rfl)) (by rfl))) aJ) (fun _ _=>rfl)) av (by rfl)) (by rfl))) (by rfl) (by w_up))
  (@aZ _ _ _ _ _ (@bW (i:=3) _ _ _ _ _ _ BN.nd rfl (by w_up) (cO fO dI hr (by decide) rfl (@aj _ _ _ _ _ (pv 2) (@aj _ _ _ _ _ (pv 1) av (by rfl)) (by rfl))) (by rfl) (by w_up))
  (@aZ _ _ _ _ _ (vk PassesOwn.never (gh Qy (pv 3) Ie (aL _)) (@aZ _ _ _ _ _ (@bW (i:=2) _ _ _ _ _ _ BN.nd rfl (by w_up) (cO fL dH hr (by decide) rfl (@aj _ _ _ _ _ (pv 0) (@aj _ _ _ _ _ (bM lE aJ (cO aX aR hr (by decide) rfl (@aj _ _ _ _ _ (pv 0) (@aj _ _ _ _ _ aJ av (by rfl)) (by rfl)))) av (by rfl)) (by rfl))) (by rfl) (by w_up))
  (@a8 _ _ _ (@bW (i:=3) _ _ _ _ _ _ BN.nd rfl (by w_up) (cO fO dI hr (by decide) rfl (@aj _ _ _ _ _ (pv 2) (@aj _ _ _ _ _ (pv 1) av (by rfl)) (by rfl))) (by rfl) (by w_up)))))
  (@a8 _ _ _ (@dN _ _ _ _ (@dZ _ _ _ _ _ (@aj _ _ _ _ _ (pv 2) (@aj _ _ _ _ _ (pv 3) av (by rfl)) (by rfl)))))))),?_⟩
 exact gn (b:=Ee) (a5 (bK (cL (F:=xR) (ao (ai 0) (ao (aB iW (jc (ao (aB lG (aK _) (cL (F:=nh) (ao (ai 0) (ao (aK _) ax)) iX)) (ao (aK _) ax))) (aB GZ (cL (F:=nh) (ao (ai 0) (ao (aK _) ax)) iX) (aK _))) ax)) iX) (aM 2))
  (a5 (bK (cL (F:=xS) (ao (ai 2) (ao (ai 1) ax)) iX) (aM 3))
  (a5 (wB (fD (aB (xF false) (ai 3) Ks)) (a5 (bK (cL (F:=xR) (ao (ai 0) (ao (aB lG (aK _) (cL (F:=nh) (ao (ai 0) (ao (aK _) ax)) iX)) ax)) iX) (aM 2))
  (bK (cL (F:=xS) (ao (ai 2) (ao (ai 1) ax)) iX) (aM 3))))
  (dO (d5 (ao (ai 2) (ao (ai 3) ax))))))) rfl h
def Ef:aq->Dm Fl :=
 (az (aG (ay qR (b9 (ae (fC (.int 0)) ah)) (aN cI (ae (ag 0) ah))) (hName 1))
 (az (cu (lq (ae (ag 0) ah)) (gQ 2 (aS (hName 2) (aS (hName 3) g5))) (aG (ag 2) (hSub (ag 1) (ag 3))))
 (bg (aN bB (ae (ag 1) ah)))))
def rn:List D->Dm D:=fA 4 Ef
def xU:Stmt:=top 5
theorem Eg:aC ["turning","back","number","led"] ["turning"] (au xU):=⟨rfl,rfl,rfl,by w_fin,rfl,by w_fin,by w_fin⟩
theorem Rc {f:Addr} {fd:FuncData} (D:Def K mg "turned_back" xU ["turning"] f fd) (T:Txt mg)  :aE P w K mg base bE 1 f fd ["turning"] (bI K 1 rn):=by
 refine D.F.ok Eg (fun _ _ _ _ h=>h.1) (fun c A o s H v Q E hr h=>?_)
 refine ⟨_,(@aZ _ _ _ _ _ (@bW (i:=1) _ _ _ _ _ _ Eg.nd rfl (by w_up) (bM Ja (@i9 _ _ _ _ (@aj _ _ _ _ _ aJ av (by rfl))) (jF kS (by rfl) T.bT kT (@aj _ _ _ _ _ (pv 0) av (by rfl)))) (by rfl) (by w_up))
  (@aZ _ _ _ _ _ (@kC _ _ _ _ _ _ _ _ PassesOwn.never rfl (Gh rfl T.ji (@aj _ _ _ _ _ (pv 0) av (by rfl))) (ot (n:=2) rfl (gD (cj (i:=2) Eg.nd rfl (by w_up)) (gD (cj (i:=3) Eg.nd rfl (by w_up)) oo))) (@a8 _ _ _ (rE (pv 2) (yh (pv 1) (pv 3) yk))) (by intro _;rfl))
  (@a8 _ _ _ (@dN _ _ _ _ (d3 mr (by rfl) T.a6 mw (@aj _ _ _ _ _ (pv 1) av (by rfl))))))),?_⟩
 exact gn (b:=Ef) (a5 (bK (aB KG (jc (ao (aK _) ax)) (bX kW (ao (ai 0) ax))) (aM 1))
  (a5 (kD (G4 (ao (ai 0) ax)) (oE (gG (aM 2) (gG (aM 3) oD))) (bK (ai 2) (yE (ai 1) (ai 3))))
  (dO (bX mD (ao (ai 1) ax))))) rfl h
def Eh:aq->Dm Fl :=
 (bg (aN bB (ae (cQ (cK (ag 0)) 1 [1] (hName 0) dG (ay aI (ag 1) (ag 0))) ah)))
def pP:List D->Dm D:=fA 2 Eh
def yQ:Stmt:=top 4
theorem Rf:aC ["one","other"] ["one","other"] (au yQ):=⟨rfl,rfl,rfl,by w_fin,rfl,by w_fin,by w_fin⟩
theorem Rg {f:Addr} {fd:FuncData} (D:Def K mg "followed" yQ ["one","other"] f fd) (T:Txt mg)  :aE P w K mg base bE 1 f fd ["one","other"] (bI K 2 pP):=by
 refine D.F.ok Rf (fun _ _ _ _ h=>h.1) (fun c A o s H v Q E hr h=>?_)
 refine ⟨_,(@a8 _ _ _ (@dN _ _ _ _ (d3 mr (by rfl) T.a6 mw (@aj _ _ _ _ _ (qB (own:=["number"]) (fr:=["other"]) (js:=[1]) rfl ⟨⟨rfl,by w_fin,by w_fin,by dsimp only [gK,aP,Cx.nz,Cx.wish,PyProof.Rows.envOfC,compEnvC,relabel,Env.kindOf];decide +kernel,by w_fin⟩,rfl⟩ (ou (pv 0)) (fun _ _ _ _ _=>(cj (i:=0) (show ((["number"]:List Str) ++ (["other"]:List Str)).Nodup by w_fin) rfl (by w_up))) (fun _ _ _ _ _=>qy) (fun _ _ _ _ _=>(@bp _ _ _ _ _ _ _ (yr (K:=K) rfl) (pv 1) (pv 0) (fun _ _=>rfl)))) av (by rfl))))),?_⟩
 exact gn (b:=Eh) (dO (bX mD (ao (p4 (oG (ai 0)) (aM 0) qW (aB ck (ai 1) (ai 0))) ax))) rfl h
def Ei:aq->Dm Fl :=
 (az (aG (aN rn (ae (ag 1) ah)) (hName 2))
 (az (aG (aN pP (ae (aN pP (ae (ag 2) (ae (ay aI (ag 0) (fC (.int 0))) ah))) (ae (ag 1) ah))) (hName 3))
 (az (aG (aN pP (ae (aN pP (ae (ag 2) (ae (ay aI (ag 0) (fC (.int 1))) ah))) (ae (ag 1) ah))) (hName 4))
 (bg (a7 (ae (ag 3) (ae (ag 4) ah)))))))
def BO:List D->Dm D:=fA 5 Ei
def BP:Stmt:=top 12
theorem Ej:aC ["floor","p","back","right","up"] ["floor","p"] (au BP):=⟨rfl,rfl,rfl,by w_fin,rfl,by w_fin,by w_fin⟩
theorem Rh {f:Addr} {fd:FuncData} (D:Def K mg "called_anew" BP ["floor","p"] f fd) (T:Txt mg)  {bx:Addr} {bz:FuncData} (bA:Def K mg "turned_back" xU ["turning"] bx bz) (bH:aE P w K mg base bE 1 bx bz ["turning"] (bI K 1 rn)) {c9:Addr} {dc:FuncData} (cf:Def K mg "followed" yQ ["one","other"] c9 dc) (cx:aE P w K mg base bE 1 c9 dc ["one","other"] (bI K 2 pP)):aE P w K mg base bE 2 f fd ["floor","p"] (bI K 2 BO):=by
 refine D.F.ok Ej (fun _ _ _ _ h=>h.1) (fun c A o s H v Q E hr h=>?_)
 refine ⟨_,(@aZ _ _ _ _ _ (@bW (i:=2) _ _ _ _ _ _ Ej.nd rfl (by w_up) (cO bH bA hr (by decide) rfl (@aj _ _ _ _ _ (pv 1) av (by rfl))) (by rfl) (by w_up))
  (@aZ _ _ _ _ _ (@bW (i:=3) _ _ _ _ _ _ Ej.nd rfl (by w_up) (cO cx cf hr (by decide) rfl (@aj _ _ _ _ _ (cO cx cf hr (by decide) rfl (@aj _ _ _ _ _ (pv 2) (@aj _ _ _ _ _ (@bp _ _ _ _ _ _ _ cB (pv 0) aJ (fun _ _=>rfl)) av (by rfl)) (by rfl))) (@aj _ _ _ _ _ (pv 1) av (by rfl)) (by rfl))) (by rfl) (by w_up))
  (@aZ _ _ _ _ _ (@bW (i:=4) _ _ _ _ _ _ Ej.nd rfl (by w_up) (cO cx cf hr (by decide) rfl (@aj _ _ _ _ _ (cO cx cf hr (by decide) rfl (@aj _ _ _ _ _ (pv 2) (@aj _ _ _ _ _ (@bp _ _ _ _ _ _ _ cB (pv 0) aJ (fun _ _=>rfl)) av (by rfl)) (by rfl))) (@aj _ _ _ _ _ (pv 1) av (by rfl)) (by rfl))) (by rfl) (by w_up))
  (@a8 _ _ _ (@dN _ _ _ _ (@dZ _ _ _ _ _ (@aj _ _ _ _ _ (pv 3) (@aj _ _ _ _ _ (pv 4) av (by rfl)) (by rfl)))))))),?_⟩
 exact gn (b:=Ei) (a5 (bK (cL (F:=rn) (ao (ai 1) ax) lZ) (aM 2))
  (a5 (bK (cL (F:=pP) (ao (cL (F:=pP) (ao (ai 2) (ao (aB ck (ai 0) (aK _)) ax)) iX) (ao (ai 1) ax)) iX) (aM 3))
  (a5 (bK (cL (F:=pP) (ao (cL (F:=pP) (ao (ai 2) (ao (aB ck (ai 0) (aK _)) ax)) iX) (ao (ai 1) ax)) iX) (aM 4))
  (dO (d5 (ao (ai 3) (ao (ai 4) ax))))))) rfl h
def Ek:aq->Dm Fl :=
 (az (aG (b9 (ae (ag 1) ah)) (hName 2))
 (az (aG (fC (.int 0)) (hName 3))
 (az (g7 (aH (ay uA (ag 3) (aN cI (ae (ag 2) ah)))) (az (cu (cK (ag 0)) (hName 4) (az (aG (ay aI (ag 4) (ay bQ (ag 2) (ag 3))) (hName 5))
 (gF (aH (ay (qc true) (ag 5) (ag 2))) (bN (gZ "list" aO (ag 2) (ae (ag 5) ah))) bD)))
 (aG (ay cM (ag 3) (fC (.int 1))) (hName 3))))
 (bg (aN bB (ae (ag 2) ah))))))
def BQ:List D->Dm D:=fA 6 Ek
def BR:Stmt:=top 10
theorem yR:aC ["floor","s","squares","place","turning","reached"] ["floor","s"] (au BR):=⟨rfl,rfl,rfl,by w_fin,rfl,by w_fin,by w_fin⟩
theorem Ri {f:Addr} {fd:FuncData} (D:Def K mg "squares_from" BR ["floor","s"] f fd) (T:Txt mg)  :aE P w K mg base bE 1 f fd ["floor","s"] (bI K 2 BQ):=by
 refine D.F.ok yR (fun _ _ _ _ h=>h.1) (fun c A o s H v Q E hr h=>?_)
 refine ⟨_,(@aZ _ _ _ _ _ (@bW (i:=2) _ _ _ _ _ _ yR.nd rfl (by w_up) (@i9 _ _ _ _ (@aj _ _ _ _ _ (pv 1) av (by rfl))) (by rfl) (by w_up))
  (@aZ _ _ _ _ _ (@bW (i:=3) _ _ _ _ _ _ yR.nd rfl (by w_up) aJ (by rfl) (by w_up))
  (@aZ _ _ _ _ _ (vk PassesOwn.never (gh yi (pv 3) (jF kS (by rfl) T.bT kT (@aj _ _ _ _ _ (pv 2) av (by rfl))) (aL _)) (@aZ _ _ _ _ _ (@kC _ _ _ _ _ _ _ _ PassesOwn.never rfl (ou (pv 0)) (cj (i:=4) yR.nd rfl (by w_up)) (@aZ _ _ _ _ _ (@bW (i:=5) _ _ _ _ _ _ yR.nd rfl (by w_up) (@bp _ _ _ _ _ _ _ cB (pv 4) (@bp _ _ _ _ _ _ _ kR (pv 2) (pv 3) (fun _ _=>rfl)) (fun _ _=>rfl)) (by rfl) (by w_up))
  (@a8 _ _ _ (@j4 _ _ _ _ _ _ _ _ (gh De (pv 5) (pv 2) (by with_unfolding_all rfl)) (@a8 _ _ _ (nA (mv PySem.F.plainAttrs_list PySem.F.slot_list_append PySem.F.type_list_append nC (pv 2) (@aj _ _ _ _ _ (pv 5) av (by rfl))))) kP))) (by intro _;rfl))
  (@a8 _ _ _ (@bW (i:=3) _ _ _ _ _ _ yR.nd rfl (by w_up) (bM lE (pv 3) aJ) (by rfl) (by w_up)))))
  (@a8 _ _ _ (@dN _ _ _ _ (d3 mr (by rfl) T.a6 mw (@aj _ _ _ _ _ (pv 2) av (by rfl)))))))),?_⟩
 exact gn (b:=Ek) (a5 (bK (jc (ao (ai 1) ax)) (aM 2))
  (a5 (bK (aK _) (aM 3))
  (a5 (wB (fD (aB yB (ai 3) (bX kW (ao (ai 2) ax)))) (a5 (kD (oG (ai 0)) (aM 4) (a5 (bK (aB ck (ai 4) (aB iW (ai 2) (ai 3))) (aM 5))
  (j6 (fD (aB (AX true) (ai 5) (ai 2))) (nM (lO nJ (ai 2) (ao (ai 5) ax))) kX)))
  (bK (aB lG (ai 3) (aK _)) (aM 3))))
  (dO (bX mD (ao (ai 2) ax)))))) rfl h
def El:aq->Dm Fl :=
 (bg (aN rn (ae (aN BQ (ae (ag 0) (ae (ag 1) ah))) ah)))
def BS:List D->Dm D:=fA 2 El
def BU:Stmt:=top 13
theorem Rj:aC ["floor","s"] ["floor","s"] (au BU):=⟨rfl,rfl,rfl,by w_fin,rfl,by w_fin,by w_fin⟩
theorem Rm {f:Addr} {fd:FuncData} (D:Def K mg "numbering_from" BU ["floor","s"] f fd) (T:Txt mg)  {bx:Addr} {bz:FuncData} (bA:Def K mg "turned_back" xU ["turning"] bx bz) (bH:aE P w K mg base bE 1 bx bz ["turning"] (bI K 1 rn)) {du:Addr} {dv:FuncData} (dw:Def K mg "squares_from" BR ["floor","s"] du dv) (gq:aE P w K mg base bE 1 du dv ["floor","s"] (bI K 2 BQ)):aE P w K mg base bE 2 f fd ["floor","s"] (bI K 2 BS):=by
 refine D.F.ok Rj (fun _ _ _ _ h=>h.1) (fun c A o s H v Q E hr h=>?_)
 refine ⟨_,(@a8 _ _ _ (@dN _ _ _ _ (cO bH bA hr (by decide) rfl (@aj _ _ _ _ _ (cO gq dw hr (by decide) rfl (@aj _ _ _ _ _ (pv 0) (@aj _ _ _ _ _ (pv 1) av (by rfl)) (by rfl))) av (by rfl))))),?_⟩
 exact gn (b:=El) (dO (cL (F:=rn) (ao (cL (F:=BQ) (ao (ai 0) (ao (ai 1) ax)) iX) ax) lZ)) rfl h
def Em:aq->Dm Fl :=
 (bg (aN BO (ae (ag 0) (ae (aN BS (ae (ag 0) (ae (ag 1) ah))) ah))))
def BV:List D->Dm D:=fA 2 Em
def BW:Stmt:=top 14
theorem Rn:aC ["floor","s"] ["floor","s"] (au BW):=⟨rfl,rfl,rfl,by w_fin,rfl,by w_fin,by w_fin⟩
theorem Ro {f:Addr} {fd:FuncData} (D:Def K mg "numbered_from" BW ["floor","s"] f fd) (T:Txt mg)  {eh:Addr} {eo:FuncData} (eu:Def K mg "called_anew" BP ["floor","p"] eh eo) (hW:aE P w K mg base bE 2 eh eo ["floor","p"] (bI K 2 BO)) {cF:Addr} {cG:FuncData} (cH:Def K mg "numbering_from" BU ["floor","s"] cF cG) (dP:aE P w K mg base bE 2 cF cG ["floor","s"] (bI K 2 BS)):aE P w K mg base bE 3 f fd ["floor","s"] (bI K 2 BV):=by
 refine D.F.ok Rn (fun _ _ _ _ h=>h.1) (fun c A o s H v Q E hr h=>?_)
 refine ⟨_,(@a8 _ _ _ (@dN _ _ _ _ (cO hW eu hr (by decide) rfl (@aj _ _ _ _ _ (pv 0) (@aj _ _ _ _ _ (cO dP cH hr (by decide) rfl (@aj _ _ _ _ _ (pv 0) (@aj _ _ _ _ _ (pv 1) av (by rfl)) (by rfl))) av (by rfl)) (by rfl))))),?_⟩
 exact gn (b:=Em) (dO (cL (F:=BO) (ao (ai 0) (ao (cL (F:=BS) (ao (ai 0) (ao (ai 1) ax)) iX) ax)) iX)) rfl h
def En:aq->Dm Fl :=
 (bg (aN lI (ae (cQ (bY (ae (aN cI (ae (ay aI (ag 0) (fC (.int 0))) ah)) ah)) 1 [0] (hName 0) dG (aN BV (ae (ag 1) (ae (ag 0) ah)))) ah)))
def uQ:List D->Dm D:=fA 1 En
def yS:Stmt:=top 15
theorem Rq:aC ["floor"] ["floor"] (au yS):=⟨rfl,rfl,rfl,by w_fin,rfl,by w_fin,by w_fin⟩
theorem Rr {f:Addr} {fd:FuncData} (D:Def K mg "form_of" yS ["floor"] f fd) (T:Txt mg)  {cV:Addr} {cW:FuncData} (cX:Def K mg "numbered_from" BW ["floor","s"] cV cW) (eZ:aE P w K mg base bE 3 cV cW ["floor","s"] (bI K 2 BV)):aE P w K mg base bE 4 f fd ["floor"] (bI K 1 uQ):=by
 refine D.F.ok Rq (fun _ _ _ _ h=>h.1) (fun c A o s H v Q E hr h=>?_)
 have hu:=hr.units
 refine ⟨_,(@a8 _ _ _ (@dN _ _ _ _ (jF (JS rfl hu) (by rfl) T.rl FY (@aj _ _ _ _ _ (qB (own:=["s"]) (fr:=["floor"]) (js:=[0]) rfl ⟨⟨rfl,by w_fin,by w_fin,by dsimp only [gK,aP,Cx.nz,Cx.wish,PyProof.Rows.envOfC,compEnvC,relabel,Env.kindOf];decide +kernel,by w_fin⟩,rfl⟩ (oN rfl T.aQ (@aj _ _ _ _ _ (jF kS (by rfl) T.bT kT (@aj _ _ _ _ _ (@bp _ _ _ _ _ _ _ cB (pv 0) aJ (fun _ _=>rfl)) av (by rfl))) av (by rfl))) (fun _ _ _ _ _=>(cj (i:=0) (show ((["s"]:List Str) ++ (["floor"]:List Str)).Nodup by w_fin) rfl (by w_up))) (fun _ _ _ _ _=>qy) (fun _ _ _ _ _=>(cO eZ cX hr (by decide) rfl (@aj _ _ _ _ _ (pv 1) (@aj _ _ _ _ _ (pv 0) av (by rfl)) (by rfl))))) av (by rfl))))),?_⟩
 exact gn (b:=En) (dO (bX Lc (ao (p4 (oR (ao (bX kW (ao (aB ck (ai 0) (aK _)) ax)) ax)) (aM 0) qW (cL (F:=BV) (ao (ai 1) (ao (ai 0) ax)) iX)) ax))) rfl h
def Eo:aq->Dm Fl :=
 (az (aG (b9 (ae (ag 1) ah)) (hName 2))
 (az (aG (ay aI (ag 0) (ag 1)) (hName 3))
 (az (g7 (aH (ay (jY true) (ag 3) (ag 1))) (az (bN (gZ "list" aO (ag 2) (ae (ag 3) ah)))
 (aG (ay aI (ag 0) (ag 3)) (hName 3))))
 (bg (aN bB (ae (ag 2) ah))))))
def BX:List D->Dm D:=fA 4 Eo
def BZ:Stmt:=top 7
theorem Ep:aC ["turning","first","ring","reached"] ["turning","first"] (au BZ):=⟨rfl,rfl,rfl,by w_fin,rfl,by w_fin,by w_fin⟩
theorem Rt {f:Addr} {fd:FuncData} (D:Def K mg "ring_from" BZ ["turning","first"] f fd) (T:Txt mg)  :aE P w K mg base bE 1 f fd ["turning","first"] (bI K 2 BX):=by
 refine D.F.ok Ep (fun _ _ _ _ h=>h.1) (fun c A o s H v Q E hr h=>?_)
 refine ⟨_,(@aZ _ _ _ _ _ (@bW (i:=2) _ _ _ _ _ _ Ep.nd rfl (by w_up) (@i9 _ _ _ _ (@aj _ _ _ _ _ (pv 1) av (by rfl))) (by rfl) (by w_up))
  (@aZ _ _ _ _ _ (@bW (i:=3) _ _ _ _ _ _ Ep.nd rfl (by w_up) (@bp _ _ _ _ _ _ _ cB (pv 0) (pv 1) (fun _ _=>rfl)) (by rfl) (by w_up))
  (@aZ _ _ _ _ _ (vk PassesOwn.never (gh Dc (pv 3) (pv 1) (aL _)) (@aZ _ _ _ _ _ (nA (mv PySem.F.plainAttrs_list PySem.F.slot_list_append PySem.F.type_list_append nC (pv 2) (@aj _ _ _ _ _ (pv 3) av (by rfl))))
  (@a8 _ _ _ (@bW (i:=3) _ _ _ _ _ _ Ep.nd rfl (by w_up) (@bp _ _ _ _ _ _ _ cB (pv 0) (pv 3) (fun _ _=>rfl)) (by rfl) (by w_up)))))
  (@a8 _ _ _ (@dN _ _ _ _ (d3 mr (by rfl) T.a6 mw (@aj _ _ _ _ _ (pv 2) av (by rfl)))))))),?_⟩
 exact gn (b:=Eo) (a5 (bK (jc (ao (ai 1) ax)) (aM 2))
  (a5 (bK (aB ck (ai 0) (ai 1)) (aM 3))
  (a5 (wB (fD (aB DM (ai 3) (ai 1))) (a5 (nM (lO nJ (ai 2) (ao (ai 3) ax)))
  (bK (aB ck (ai 0) (ai 3)) (aM 3))))
  (dO (bX mD (ao (ai 2) ax)))))) rfl h
def Er:aq->Dm Fl :=
 (az (aG (b9 ah) (hName 1))
 (az (aG qX (hName 2))
 (az (cu (bY (ae (aN cI (ae (ag 0) ah)) ah)) (hName 3) (gF (aH (sR true (ag 3) (ag 2))) (az (aG (aN BX (ae (ag 0) (ae (ag 3) ah))) (hName 4))
 (az (bN (gZ "list" aO (ag 1) (ae (ag 4) ah)))
 (cu (cK (ag 4)) (hName 5) (pL (ag 2) (ag 5) (fC (.bl true)))))) bD))
 (bg (aN bB (ae (ag 1) ah))))))
def B0:List D->Dm D:=fA 6 Er
def B1:Stmt:=top 8
theorem yT:aC ["turning","rings","seen","first","ring","number"] ["turning"] (au B1):=⟨rfl,rfl,rfl,by w_fin,rfl,by w_fin,by w_fin⟩
theorem Rv {f:Addr} {fd:FuncData} (D:Def K mg "rings_of" B1 ["turning"] f fd) (T:Txt mg)  {h7:Addr} {h8:FuncData} (h9:Def K mg "ring_from" BZ ["turning","first"] h7 h8) (ke:aE P w K mg base bE 1 h7 h8 ["turning","first"] (bI K 2 BX)):aE P w K mg base bE 2 f fd ["turning"] (bI K 1 B0):=by
 refine D.F.ok yT (fun _ _ _ _ h=>h.1) (fun c A o s H v Q E hr h=>?_)
 have hu1:=zT hr
 refine ⟨_,(@aZ _ _ _ _ _ (@bW (i:=1) _ _ _ _ _ _ yT.nd rfl (by w_up) (@i9 _ _ _ _ av) (by rfl) (by w_up))
  (@aZ _ _ _ _ _ (@bW (i:=2) _ _ _ _ _ _ yT.nd rfl (by w_up) M0 (by rfl) (by w_up))
  (@aZ _ _ _ _ _ (@kC _ _ _ _ _ _ _ _ PassesOwn.never rfl (oN rfl T.aQ (@aj _ _ _ _ _ (jF kS (by rfl) T.bT kT (@aj _ _ _ _ _ (pv 0) av (by rfl))) av (by rfl))) (cj (i:=3) yT.nd rfl (by w_up)) (@a8 _ _ _ (@j4 _ _ _ _ _ _ _ _ (vg (MX hu1 (pv 3) (pv 2))) (@aZ _ _ _ _ _ (@bW (i:=4) _ _ _ _ _ _ yT.nd rfl (by w_up) (cO ke h9 hr (by decide) rfl (@aj _ _ _ _ _ (pv 0) (@aj _ _ _ _ _ (pv 3) av (by rfl)) (by rfl))) (by rfl) (by w_up))
  (@aZ _ _ _ _ _ (nA (mv PySem.F.plainAttrs_list PySem.F.slot_list_append PySem.F.type_list_append nC (pv 1) (@aj _ _ _ _ _ (pv 4) av (by rfl))))
  (@a8 _ _ _ (@kC _ _ _ _ _ _ _ _ PassesOwn.never rfl (ou (pv 4)) (cj (i:=5) yT.nd rfl (by w_up)) (@a8 _ _ _ (MY hu1 (pv 2) (pv 5) C4 rfl)) (by intro _;rfl))))) kP)) (by intro _;rfl))
  (@a8 _ _ _ (@dN _ _ _ _ (d3 mr (by rfl) T.a6 mw (@aj _ _ _ _ _ (pv 1) av (by rfl)))))))),?_⟩
 exact gn (b:=Er) (a5 (bK (jc ax) (aM 1))
  (a5 (bK Px (aM 2))
  (a5 (kD (oR (ao (bX kW (ao (ai 0) ax)) ax)) (aM 3) (j6 (AJ (Py (ai 3) (ai 2))) (a5 (bK (cL (F:=BX) (ao (ai 0) (ao (ai 3) ax)) iX) (aM 4))
  (a5 (nM (lO nJ (ai 1) (ao (ai 4) ax)))
  (kD (oG (ai 4)) (aM 5) (Pz (ai 2) (ai 5) (DK _))))) kX))
  (dO (bX mD (ao (ai 1) ax)))))) rfl h
def Es:aq->Dm Fl :=
 (az (aG (ay qR (b9 (ae (fC (.int 0)) ah)) (aN cI (ae (ag 0) ah))) (hName 2))
 (az (cu (cK (aN B0 (ae (ag 0) ah))) (hName 3) (cu (lq (ae (ag 3) ah)) (gQ 2 (aS (hName 4) (aS (hName 5) g5))) (aG (ay aI (ag 3) (ay jd (ay cM (ag 4) (ag 1)) (aN cI (ae (ag 3) ah)))) (hSub (ag 2) (ag 5)))))
 (bg (aN bB (ae (ag 2) ah)))))
def B2:List D->Dm D:=fA 6 Es
def B3:Stmt:=top 6
theorem B4:aC ["turning","k","led","ring","place","number"] ["turning","k"] (au B3):=⟨rfl,rfl,rfl,by w_fin,rfl,by w_fin,by w_fin⟩
theorem Rw {f:Addr} {fd:FuncData} (D:Def K mg "often" B3 ["turning","k"] f fd) (T:Txt mg)  {jM:Addr} {jN:FuncData} (jO:Def K mg "rings_of" B1 ["turning"] jM jN) (lr:aE P w K mg base bE 2 jM jN ["turning"] (bI K 1 B0)):aE P w K mg base bE 3 f fd ["turning","k"] (bI K 2 B2):=by
 refine D.F.ok B4 (fun _ _ _ _ h=>h.1) (fun c A o s H v Q E hr h=>?_)
 refine ⟨_,(@aZ _ _ _ _ _ (@bW (i:=2) _ _ _ _ _ _ B4.nd rfl (by w_up) (bM Ja (@i9 _ _ _ _ (@aj _ _ _ _ _ aJ av (by rfl))) (jF kS (by rfl) T.bT kT (@aj _ _ _ _ _ (pv 0) av (by rfl)))) (by rfl) (by w_up))
  (@aZ _ _ _ _ _ (@kC _ _ _ _ _ _ _ _ PassesOwn.never rfl (ou (cO lr jO hr (by decide) rfl (@aj _ _ _ _ _ (pv 0) av (by rfl)))) (cj (i:=3) B4.nd rfl (by w_up)) (@a8 _ _ _ (@kC _ _ _ _ _ _ _ _ PassesOwn.never rfl (Gh rfl T.ji (@aj _ _ _ _ _ (pv 3) av (by rfl))) (ot (n:=2) rfl (gD (cj (i:=4) B4.nd rfl (by w_up)) (gD (cj (i:=5) B4.nd rfl (by w_up)) oo))) (@a8 _ _ _ (rE (@bp _ _ _ _ _ _ _ cB (pv 3) (bM pS (bM lE (pv 4) (pv 1)) (jF kS (by rfl) T.bT kT (@aj _ _ _ _ _ (pv 3) av (by rfl)))) (fun _ _=>rfl)) (yh (pv 2) (pv 5) yk))) (by intro _;rfl))) (by intro _;rfl))
  (@a8 _ _ _ (@dN _ _ _ _ (d3 mr (by rfl) T.a6 mw (@aj _ _ _ _ _ (pv 2) av (by rfl))))))),?_⟩
 exact gn (b:=Es) (a5 (bK (aB KG (jc (ao (aK _) ax)) (bX kW (ao (ai 0) ax))) (aM 2))
  (a5 (kD (oG (cL (F:=B0) (ao (ai 0) ax) lZ)) (aM 3) (kD (G4 (ao (ai 3) ax)) (oE (gG (aM 4) (gG (aM 5) oD))) (bK (aB ck (ai 3) (aB pZ (aB lG (ai 4) (ai 1)) (bX kW (ao (ai 3) ax)))) (yE (ai 2) (ai 5)))))
  (dO (bX mD (ao (ai 2) ax))))) rfl h
def Et:aq->Dm Fl :=
 (bg (a7 (ae (ay aI (ag 0) (fC (.int 0))) (ae (aN pP (ae (aN B2 (ae (ay aI (ag 0) (fC (.int 0))) (ae (qO lL (ag 1)) ah))) (ae (ay aI (ag 0) (fC (.int 1))) ah))) ah))))
def B5:List D->Dm D:=fA 2 Et
def B6:Stmt:=top 29
theorem Rx:aC ["floor","k"] ["floor","k"] (au B6):=⟨rfl,rfl,rfl,by w_fin,rfl,by w_fin,by w_fin⟩
theorem Ry {f:Addr} {fd:FuncData} (D:Def K mg "sheared" B6 ["floor","k"] f fd) (T:Txt mg)  {c9:Addr} {dc:FuncData} (cf:Def K mg "followed" yQ ["one","other"] c9 dc) (cx:aE P w K mg base bE 1 c9 dc ["one","other"] (bI K 2 pP)) {nS:Addr} {nT:FuncData} (nU:Def K mg "often" B3 ["turning","k"] nS nT) (o8:aE P w K mg base bE 3 nS nT ["turning","k"] (bI K 2 B2)):aE P w K mg base bE 4 f fd ["floor","k"] (bI K 2 B5):=by
 refine D.F.ok Rx (fun _ _ _ _ h=>h.1) (fun c A o s H v Q E hr h=>?_)
 refine ⟨_,(@a8 _ _ _ (@dN _ _ _ _ (@dZ _ _ _ _ _ (@aj _ _ _ _ _ (@bp _ _ _ _ _ _ _ cB (pv 0) aJ (fun _ _=>rfl)) (@aj _ _ _ _ _ (cO cx cf hr (by decide) rfl (@aj _ _ _ _ _ (cO o8 nU hr (by decide) rfl (@aj _ _ _ _ _ (@bp _ _ _ _ _ _ _ cB (pv 0) aJ (fun _ _=>rfl)) (@aj _ _ _ _ _ (sd se (pv 1)) av (by rfl)) (by rfl))) (@aj _ _ _ _ _ (@bp _ _ _ _ _ _ _ cB (pv 0) aJ (fun _ _=>rfl)) av (by rfl)) (by rfl))) av (by rfl)) (by rfl))))),?_⟩
 exact gn (b:=Et) (dO (d5 (ao (aB ck (ai 0) (aK _)) (ao (cL (F:=pP) (ao (cL (F:=B2) (ao (aB ck (ai 0) (aK _)) (ao (sM sN (ai 1)) ax)) iX) (ao (aB ck (ai 0) (aK _)) ax)) iX) ax)))) rfl h
def Eu:aq->Dm Fl :=
 (bg (a7 (ae (aN rn (ae (ay aI (ag 0) (fC (.int 1))) ah)) (ae (ay aI (ag 0) (fC (.int 0))) ah))))
def B7:List D->Dm D:=fA 1 Eu
def B8:Stmt:=top 30
theorem Rz:aC ["floor"] ["floor"] (au B8):=⟨rfl,rfl,rfl,by w_fin,rfl,by w_fin,by w_fin⟩
theorem RA {f:Addr} {fd:FuncData} (D:Def K mg "quartered" B8 ["floor"] f fd) (T:Txt mg)  {bx:Addr} {bz:FuncData} (bA:Def K mg "turned_back" xU ["turning"] bx bz) (bH:aE P w K mg base bE 1 bx bz ["turning"] (bI K 1 rn)):aE P w K mg base bE 2 f fd ["floor"] (bI K 1 B7):=by
 refine D.F.ok Rz (fun _ _ _ _ h=>h.1) (fun c A o s H v Q E hr h=>?_)
 refine ⟨_,(@a8 _ _ _ (@dN _ _ _ _ (@dZ _ _ _ _ _ (@aj _ _ _ _ _ (cO bH bA hr (by decide) rfl (@aj _ _ _ _ _ (@bp _ _ _ _ _ _ _ cB (pv 0) aJ (fun _ _=>rfl)) av (by rfl))) (@aj _ _ _ _ _ (@bp _ _ _ _ _ _ _ cB (pv 0) aJ (fun _ _=>rfl)) av (by rfl)) (by rfl))))),?_⟩
 exact gn (b:=Eu) (dO (d5 (ao (cL (F:=rn) (ao (aB ck (ai 0) (aK _)) ax) lZ) (ao (aB ck (ai 0) (aK _)) ax)))) rfl h
def Ew:aq->Dm Fl :=
 (az (gF (aH (ay (jY false) (ay aI (ag 1) (fC (.int 0))) (fC (.str "s")))) (bg (aN B5 (ae (ag 0) (ae (ay aI (ag 1) (fC (.int 1))) ah)))) bD)
 (az (aG (ag 0) (hName 2))
 (az (cu (bY (ae (ay aI (ag 1) (fC (.int 1))) ah)) (hName 3) (aG (aN B7 (ae (ag 2) ah)) (hName 2)))
 (bg (ag 2)))))
def B9:List D->Dm D:=fA 4 Ew
def Ca:Stmt:=top 32
theorem Ey:aC ["floor","step","led","turn"] ["floor","step"] (au Ca):=⟨rfl,rfl,rfl,by w_fin,rfl,by w_fin,by w_fin⟩
theorem RB {f:Addr} {fd:FuncData} (D:Def K mg "led_by_step" Ca ["floor","step"] f fd) (T:Txt mg)  {kM:Addr} {kN:FuncData} (kO:Def K mg "sheared" B6 ["floor","k"] kM kN) (mG:aE P w K mg base bE 4 kM kN ["floor","k"] (bI K 2 B5)) {ie:Addr} {ig:FuncData} (ik:Def K mg "quartered" B8 ["floor"] ie ig) (kf:aE P w K mg base bE 2 ie ig ["floor"] (bI K 1 B7)):aE P w K mg base bE 5 f fd ["floor","step"] (bI K 2 B9):=by
 refine D.F.ok Ey (fun _ _ _ _ h=>h.1) (fun c A o s H v Q E hr h=>?_)
 refine ⟨_,(@aZ _ _ _ _ _ (@j4 _ _ _ _ _ _ _ _ (gh n5 (@bp _ _ _ _ _ _ _ cB (pv 1) aJ (fun _ _=>rfl)) oV (aL _)) (@a8 _ _ _ (@dN _ _ _ _ (cO mG kO hr (by decide) rfl (@aj _ _ _ _ _ (pv 0) (@aj _ _ _ _ _ (@bp _ _ _ _ _ _ _ cB (pv 1) aJ (fun _ _=>rfl)) av (by rfl)) (by rfl))))) kP)
  (@aZ _ _ _ _ _ (@bW (i:=2) _ _ _ _ _ _ Ey.nd rfl (by w_up) (pv 0) (by rfl) (by w_up))
  (@aZ _ _ _ _ _ (@kC _ _ _ _ _ _ _ _ PassesOwn.never rfl (oN rfl T.aQ (@aj _ _ _ _ _ (@bp _ _ _ _ _ _ _ cB (pv 1) aJ (fun _ _=>rfl)) av (by rfl))) (cj (i:=3) Ey.nd rfl (by w_up)) (@a8 _ _ _ (@bW (i:=2) _ _ _ _ _ _ Ey.nd rfl (by w_up) (cO kf ik hr (by decide) rfl (@aj _ _ _ _ _ (pv 2) av (by rfl))) (by rfl) (by w_up))) (by intro _;rfl))
  (@a8 _ _ _ (@dN _ _ _ _ (pv 2)))))),?_⟩
 exact gn (b:=Ew) (a5 (j6 (fD (aB oa (aB ck (ai 1) (aK _)) (o7 _))) (dO (cL (F:=B5) (ao (ai 0) (ao (aB ck (ai 1) (aK _)) ax)) iX)) kX)
  (a5 (bK (ai 0) (aM 2))
  (a5 (kD (oR (ao (aB ck (ai 1) (aK _)) ax)) (aM 3) (bK (cL (F:=B7) (ao (ai 2) ax) lZ) (aM 2)))
  (dO (ai 2))))) rfl h
def Ez:aq->Dm Fl :=
 (az (aG (ag 0) (hName 2))
 (az (cu (cK (ag 1)) (hName 3) (aG (aN B9 (ae (ag 2) (ae (ag 3) ah))) (hName 2)))
 (bg (ag 2))))
def Cb:List D->Dm D:=fA 4 Ez
def Cc:Stmt:=top 31
theorem EA:aC ["floor","word","led","step"] ["floor","word"] (au Cc):=⟨rfl,rfl,rfl,by w_fin,rfl,by w_fin,by w_fin⟩
theorem RC {f:Addr} {fd:FuncData} (D:Def K mg "led_by" Cc ["floor","word"] f fd) (T:Txt mg)  {eA:Addr} {eB:FuncData} (eC:Def K mg "led_by_step" Ca ["floor","step"] eA eB) (il:aE P w K mg base bE 5 eA eB ["floor","step"] (bI K 2 B9)):aE P w K mg base bE 6 f fd ["floor","word"] (bI K 2 Cb):=by
 refine D.F.ok EA (fun _ _ _ _ h=>h.1) (fun c A o s H v Q E hr h=>?_)
 refine ⟨_,(@aZ _ _ _ _ _ (@bW (i:=2) _ _ _ _ _ _ EA.nd rfl (by w_up) (pv 0) (by rfl) (by w_up))
  (@aZ _ _ _ _ _ (@kC _ _ _ _ _ _ _ _ PassesOwn.never rfl (ou (pv 1)) (cj (i:=3) EA.nd rfl (by w_up)) (@a8 _ _ _ (@bW (i:=2) _ _ _ _ _ _ EA.nd rfl (by w_up) (cO il eC hr (by decide) rfl (@aj _ _ _ _ _ (pv 2) (@aj _ _ _ _ _ (pv 3) av (by rfl)) (by rfl))) (by rfl) (by w_up))) (by intro _;rfl))
  (@a8 _ _ _ (@dN _ _ _ _ (pv 2))))),?_⟩
 exact gn (b:=Ez) (a5 (bK (ai 0) (aM 2))
  (a5 (kD (oG (ai 1)) (aM 3) (bK (cL (F:=B9) (ao (ai 2) (ao (ai 3) ax)) iX) (aM 2)))
  (dO (ai 2)))) rfl h
def EB:aq->Dm Fl :=
 (az (aG (ay cM (ay aI (ag 0) (fC (.int 1))) (ay aI (ag 1) (fC (.int 1)))) (hName 2))
 (az (gF (aH (ay (jY false) (ay aI (ag 0) (fC (.int 0))) (fC (.str "t")))) (aG (ay jd (ag 2) (fC (.int 4))) (hName 2)) bD)
 (az (gF (aH (ay (jY false) (ag 2) (fC (.int 0)))) (bg (a7 ah)) bD)
 (bg (a7 (ae (a7 (ae (ay aI (ag 0) (fC (.int 0))) (ae (ag 2) ah))) ah))))))
def Cd:List D->Dm D:=fA 3 EB
def Ce:Stmt:=top 23
theorem Hv:aC ["one","other","number"] ["one","other"] (au Ce):=⟨rfl,rfl,rfl,by w_fin,rfl,by w_fin,by w_fin⟩
theorem RD {f:Addr} {fd:FuncData} (D:Def K mg "joined" Ce ["one","other"] f fd) (T:Txt mg)  :aE P w K mg base bE 1 f fd ["one","other"] (bI K 2 Cd):=by
 refine D.F.ok Hv (fun _ _ _ _ h=>h.1) (fun c A o s H v Q E hr h=>?_)
 refine ⟨_,(@aZ _ _ _ _ _ (@bW (i:=2) _ _ _ _ _ _ Hv.nd rfl (by w_up) (bM lE (@bp _ _ _ _ _ _ _ cB (pv 0) aJ (fun _ _=>rfl)) (@bp _ _ _ _ _ _ _ cB (pv 1) aJ (fun _ _=>rfl))) (by rfl) (by w_up))
  (@aZ _ _ _ _ _ (@j4 _ _ _ _ _ _ _ _ (gh n5 (@bp _ _ _ _ _ _ _ cB (pv 0) aJ (fun _ _=>rfl)) oV (aL _)) (@a8 _ _ _ (@bW (i:=2) _ _ _ _ _ _ Hv.nd rfl (by w_up) (bM pS (pv 2) aJ) (by rfl) (by w_up))) kP)
  (@aZ _ _ _ _ _ (@j4 _ _ _ _ _ _ _ _ (gh n5 (pv 2) aJ (aL _)) (@a8 _ _ _ (@dN _ _ _ _ (@dZ _ _ _ _ _ av))) kP)
  (@a8 _ _ _ (@dN _ _ _ _ (@dZ _ _ _ _ _ (@aj _ _ _ _ _ (@dZ _ _ _ _ _ (@aj _ _ _ _ _ (@bp _ _ _ _ _ _ _ cB (pv 0) aJ (fun _ _=>rfl)) (@aj _ _ _ _ _ (pv 2) av (by rfl)) (by rfl))) av (by rfl)))))))),?_⟩
 exact gn (b:=EB) (a5 (bK (aB lG (aB ck (ai 0) (aK _)) (aB ck (ai 1) (aK _))) (aM 2))
  (a5 (j6 (fD (aB oa (aB ck (ai 0) (aK _)) (o7 _))) (bK (aB pZ (ai 2) (aK _)) (aM 2)) kX)
  (a5 (j6 (fD (aB oa (ai 2) (aK _))) (dO (d5 ax)) kX)
  (dO (d5 (ao (d5 (ao (aB ck (ai 0) (aK _)) (ao (ai 2) ax))) ax)))))) rfl h
def EC:aq->Dm Fl :=
 (az (aG (a7 ah) (hName 1))
 (az (cu (cK (ag 0)) (hName 2) (gF (pY (aH (ay wm (aN cI (ae (ag 1) ah)) (fC (.int 0)))) (aH (ay (jY false) (ay aI (ay aI (ag 1) (qO lL (fC (.int 1)))) (fC (.int 0))) (ay aI (ag 2) (fC (.int 0)))))) (aG (ay eQ (yA wu (ag 1) kJ (m8 (qO lL (fC (.int 1))))) (aN Cd (ae (ay aI (ag 1) (qO lL (fC (.int 1)))) (ae (ag 2) ah)))) (hName 1)) (aG (ay eQ (ag 1) (a7 (ae (ag 2) ah))) (hName 1))))
 (bg (ag 1))))
def Cf:List D->Dm D:=fA 3 EC
def Cg:Stmt:=top 24
theorem Ci:aC ["word","plain","step"] ["word"] (au Cg):=⟨rfl,rfl,rfl,by w_fin,rfl,by w_fin,by w_fin⟩
theorem RE {f:Addr} {fd:FuncData} (D:Def K mg "made_plain" Cg ["word"] f fd) (T:Txt mg)  {l6:Addr} {l8:FuncData} (l9:Def K mg "joined" Ce ["one","other"] l6 l8) (nV:aE P w K mg base bE 1 l6 l8 ["one","other"] (bI K 2 Cd)):aE P w K mg base bE 2 f fd ["word"] (bI K 1 Cf):=by
 refine D.F.ok Ci (fun _ _ _ _ h=>h.1) (fun c A o s H v Q E hr h=>?_)
 refine ⟨_,(@aZ _ _ _ _ _ (@bW (i:=1) _ _ _ _ _ _ Ci.nd rfl (by w_up) (@dZ _ _ _ _ _ av) (by rfl) (by w_up))
  (@aZ _ _ _ _ _ (@kC _ _ _ _ _ _ _ _ PassesOwn.never rfl (ou (pv 0)) (cj (i:=2) Ci.nd rfl (by w_up)) (@a8 _ _ _ (@j4 _ _ _ _ _ _ _ _ (PW.pt (Fs (gh zB (jF kS (by rfl) T.bT kT (@aj _ _ _ _ _ (pv 1) av (by rfl))) aJ (aL _)) (Fq (gh n5 (@bp _ _ _ _ _ _ _ cB (@bp _ _ _ _ _ _ _ cB (pv 1) (sd se aJ) (fun _ _=>rfl)) aJ (fun _ _=>rfl)) (@bp _ _ _ _ _ _ _ cB (pv 2) aJ (fun _ _=>rfl)) (aL _))))) (@a8 _ _ _ (@bW (i:=1) _ _ _ _ _ _ Ci.nd rfl (by w_up) (bM sr (FH Nd (pv 1) FF (FG (sd se aJ))) (cO nV l9 hr (by decide) rfl (@aj _ _ _ _ _ (@bp _ _ _ _ _ _ _ cB (pv 1) (sd se aJ) (fun _ _=>rfl)) (@aj _ _ _ _ _ (pv 2) av (by rfl)) (by rfl)))) (by rfl) (by w_up))) (@a8 _ _ _ (@bW (i:=1) _ _ _ _ _ _ Ci.nd rfl (by w_up) (bM sr (pv 1) (@dZ _ _ _ _ _ (@aj _ _ _ _ _ (pv 2) av (by rfl)))) (by rfl) (by w_up))))) (by intro _;rfl))
  (@a8 _ _ _ (@dN _ _ _ _ (pv 1))))),?_⟩
 exact gn (b:=EC) (a5 (bK (d5 ax) (aM 1))
  (a5 (kD (oG (ai 0)) (aM 2) (j6 (GU (fD (aB AU (bX kW (ao (ai 1) ax)) (aK _))) (fD (aB oa (aB ck (aB ck (ai 1) (sM sN (aK _))) (aK _)) (aB ck (ai 2) (aK _))))) (bK (aB sO (GX wx (ai 1) GV (GW (sM sN (aK _)))) (cL (F:=Cd) (ao (aB ck (ai 1) (sM sN (aK _))) (ao (ai 2) ax)) iX)) (aM 1)) (bK (aB sO (ai 1) (d5 (ao (ai 2) ax))) (aM 1))))
  (dO (ai 1)))) rfl h
def ED:aq->Dm Fl :=
 (bg (aN Cf (ae (ay eQ (ag 0) (ag 1)) ah)))
def Cj:List D->Dm D:=fA 2 ED
def Ck:Stmt:=top 25
theorem RF:aC ["one","other"] ["one","other"] (au Ck):=⟨rfl,rfl,rfl,by w_fin,rfl,by w_fin,by w_fin⟩
theorem RG {f:Addr} {fd:FuncData} (D:Def K mg "put_together" Ck ["one","other"] f fd) (T:Txt mg)  {fP:Addr} {fQ:FuncData} (fR:Def K mg "made_plain" Cg ["word"] fP fQ) (jl:aE P w K mg base bE 2 fP fQ ["word"] (bI K 1 Cf)):aE P w K mg base bE 3 f fd ["one","other"] (bI K 2 Cj):=by
 refine D.F.ok RF (fun _ _ _ _ h=>h.1) (fun c A o s H v Q E hr h=>?_)
 refine ⟨_,(@a8 _ _ _ (@dN _ _ _ _ (cO jl fR hr (by decide) rfl (@aj _ _ _ _ _ (bM sr (pv 0) (pv 1)) av (by rfl))))),?_⟩
 exact gn (b:=ED) (dO (cL (F:=Cf) (ao (aB sO (ai 0) (ai 1)) ax) lZ)) rfl h
def EE:aq->Dm Fl :=
 (az (aG (aN uQ (ae (aN Cb (ae (ay bQ (ag 0) (ag 2)) (ae (a7 (ae (ag 3) ah)) ah))) ah)) (hName 4))
 (az (gF (aH (ay (oI true) (ag 4) (ag 0))) (az (bN (gZ "list" aO (ag 0) (ae (ag 4) ah)))
 (bN (gZ "list" aO (ag 1) (ae (aN Cj (ae (ay bQ (ag 1) (ag 2)) (ae (a7 (ae (ag 3) ah)) ah))) ah)))) bD)
 (bg (gZ "list" dg (ag 0) (ae (ag 4) ah)))))
def xV:List D->Dm D:=fA 5 EE
def Cm:Stmt:=top 37
theorem Lu:aC ["forms","words","place","step","form"] ["forms","words","place","step"] (au Cm):=⟨rfl,rfl,rfl,by w_fin,rfl,by w_fin,by w_fin⟩
theorem RH {f:Addr} {fd:FuncData} (D:Def K mg "row_led_to" Cm ["forms","words","place","step"] f fd) (T:Txt mg)  {fe:Addr} {ff:FuncData} (fg:Def K mg "form_of" yS ["floor"] fe ff) (gU:aE P w K mg base bE 4 fe ff ["floor"] (bI K 1 uQ)) {ma:Addr} {md:FuncData} (mf:Def K mg "led_by" Cc ["floor","word"] ma md) (nW:aE P w K mg base bE 6 ma md ["floor","word"] (bI K 2 Cb)) {dz:Addr} {dA:FuncData} (dB:Def K mg "put_together" Ck ["one","other"] dz dA) (gs:aE P w K mg base bE 3 dz dA ["one","other"] (bI K 2 Cj)):aE P w K mg base bE 7 f fd ["forms","words","place","step"] (bI K 4 xV):=by
 refine D.F.ok Lu (fun _ _ _ _ h=>h.1) (fun c A o s H v Q E hr h=>?_)
 have hu:=hr.units
 refine ⟨_,(@aZ _ _ _ _ _ (@bW (i:=4) _ _ _ _ _ _ Lu.nd rfl (by w_up) (cO gU fg hr (by decide) rfl (@aj _ _ _ _ _ (cO nW mf hr (by decide) rfl (@aj _ _ _ _ _ (@bp _ _ _ _ _ _ _ kR (pv 0) (pv 2) (fun _ _=>rfl)) (@aj _ _ _ _ _ (@dZ _ _ _ _ _ (@aj _ _ _ _ _ (pv 3) av (by rfl))) av (by rfl)) (by rfl))) av (by rfl))) (by rfl) (by w_up))
  (@aZ _ _ _ _ _ (@j4 _ _ _ _ _ _ _ _ (gh (JF hu) (pv 4) (pv 0) (by with_unfolding_all rfl)) (@aZ _ _ _ _ _ (nA (mv PySem.F.plainAttrs_list PySem.F.slot_list_append PySem.F.type_list_append nC (pv 0) (@aj _ _ _ _ _ (pv 4) av (by rfl))))
  (@a8 _ _ _ (nA (mv PySem.F.plainAttrs_list PySem.F.slot_list_append PySem.F.type_list_append nC (pv 1) (@aj _ _ _ _ _ (cO gs dB hr (by decide) rfl (@aj _ _ _ _ _ (@bp _ _ _ _ _ _ _ kR (pv 1) (pv 2) (fun _ _=>rfl)) (@aj _ _ _ _ _ (@dZ _ _ _ _ _ (@aj _ _ _ _ _ (pv 3) av (by rfl))) av (by rfl)) (by rfl))) av (by rfl)))))) kP)
  (@a8 _ _ _ (@dN _ _ _ _ (mv PySem.F.plainAttrs_list PySem.F.slot_list_index PySem.F.type_list_index (JU hu) (pv 0) (@aj _ _ _ _ _ (pv 4) av (by rfl))))))),?_⟩
 exact gn (b:=EE) (a5 (bK (cL (F:=uQ) (ao (cL (F:=Cb) (ao (aB iW (ai 0) (ai 2)) (ao (d5 (ao (ai 3) ax)) ax)) iX) ax) lZ) (aM 4))
  (a5 (j6 (fD (aB (K8 true) (ai 4) (ai 0))) (a5 (nM (lO nJ (ai 0) (ao (ai 4) ax)))
  (nM (lO nJ (ai 1) (ao (cL (F:=Cj) (ao (aB iW (ai 1) (ai 2)) (ao (d5 (ao (ai 3) ax)) ax)) iX) ax)))) kX)
  (dO (lO Lh (ai 0) (ao (ai 4) ax))))) rfl h
def EF:aq->Dm Fl :=
 (az (aG (b9 (ae (aN uQ (ae (ag 0) ah)) ah)) (hName 2))
 (az (aG (b9 (ae (a7 ah) ah)) (hName 3))
 (az (aG (b9 ah) (hName 4))
 (az (g7 (aH (ay uA (aN cI (ae (ag 4) ah)) (aN cI (ae (ag 2) ah)))) (az (gF (aH (ay wm (aN cI (ae (ag 2) ah)) (ag 1))) rh bD)
 (az (aG (aN cI (ae (ag 4) ah)) (hName 5))
 (az (aG (aN xV (ae (ag 2) (ae (ag 3) (ae (ag 5) (ae (fC (.tup [(.str "s"),(.int 1)])) ah))))) (hName 6))
 (az (aG (aN xV (ae (ag 2) (ae (ag 3) (ae (ag 5) (ae (fC (.tup [(.str "t"),(.int 1)])) ah))))) (hName 7))
 (bN (gZ "list" aO (ag 4) (ae (a7 (ae (ag 6) (ae (ag 7) ah))) ah))))))))
 (bg (aN bB (ae (cQ (bY (ae (aN cI (ae (ag 2) ah)) ah)) 1 [2,3,4] (hName 0) dG (a7 (ae (ay bQ (ag 1) (ag 0)) (ae (ay bQ (ag 2) (ag 0)) (ae (ay aI (ay bQ (ag 3) (ag 0)) (fC (.int 0))) (ae (ay aI (ay bQ (ag 3) (ag 0)) (fC (.int 1))) ah)))))) ah)))))))
def yU:List D->Dm D:=fA 8 EF
def Cn:Stmt:=top 36
theorem xW:aC ["floor","most","forms","words","leads","place","s","t"] ["floor","most"] (au Cn):=⟨rfl,rfl,rfl,by w_fin,rfl,by w_fin,by w_fin⟩
theorem RI {f:Addr} {fd:FuncData} (D:qH K mg "chart_of" Cn ["floor","most"] [V.int 60] f fd) (T:Txt mg) {cb:V} (a9:nB K mg "QUARTER_charts" cb (.tup [(.str "t"),(.int 1)])) {mH:V} (jm:nB K mg "SHEAR" mH (.tup [(.str "s"),(.int 1)])) {fe:Addr} {ff:FuncData} (fg:Def K mg "form_of" yS ["floor"] fe ff) (gU:aE P w K mg base bE 4 fe ff ["floor"] (bI K 1 uQ)) {fS:Addr} {fT:FuncData} (dJ:Def K mg "row_led_to" Cm ["forms","words","place","step"] fS fT) (fU:aE P w K mg base bE 7 fS fT ["forms","words","place","step"] (bI K 4 xV)):aE P w K mg base bE 8 f fd ["floor","most"] (bI K 2 yU):=by
 refine D.F.ok xW (fun _ _ _ _ h=>h.1) (fun c A o s H v Q E hr h=>?_)
 refine ⟨_,(@aZ _ _ _ _ _ (@bW (i:=2) _ _ _ _ _ _ xW.nd rfl (by w_up) (@i9 _ _ _ _ (@aj _ _ _ _ _ (cO gU fg hr (by decide) rfl (@aj _ _ _ _ _ (pv 0) av (by rfl))) av (by rfl))) (by rfl) (by w_up))
  (@aZ _ _ _ _ _ (@bW (i:=3) _ _ _ _ _ _ xW.nd rfl (by w_up) (@i9 _ _ _ _ (@aj _ _ _ _ _ (@dZ _ _ _ _ _ av) av (by rfl))) (by rfl) (by w_up))
  (@aZ _ _ _ _ _ (@bW (i:=4) _ _ _ _ _ _ xW.nd rfl (by w_up) (@i9 _ _ _ _ av) (by rfl) (by w_up))
  (@aZ _ _ _ _ _ (vk PassesOwn.never (gh yi (jF kS (by rfl) T.bT kT (@aj _ _ _ _ _ (pv 4) av (by rfl))) (jF kS (by rfl) T.bT kT (@aj _ _ _ _ _ (pv 2) av (by rfl))) (aL _)) (@aZ _ _ _ _ _ (@j4 _ _ _ _ _ _ _ _ (gh zB (jF kS (by rfl) T.bT kT (@aj _ _ _ _ _ (pv 2) av (by rfl))) (pv 1) (aL _)) (@a8 _ _ _ Ms) kP)
  (@aZ _ _ _ _ _ (@bW (i:=5) _ _ _ _ _ _ xW.nd rfl (by w_up) (jF kS (by rfl) T.bT kT (@aj _ _ _ _ _ (pv 4) av (by rfl))) (by rfl) (by w_up))
  (@aZ _ _ _ _ _ (@bW (i:=6) _ _ _ _ _ _ xW.nd rfl (by w_up) (cO fU dJ hr (by decide) rfl (@aj _ _ _ _ _ (pv 2) (@aj _ _ _ _ _ (pv 3) (@aj _ _ _ _ _ (pv 5) (@aj _ _ _ _ _ (xG jm rfl rfl (by decide)) av (by rfl)) (by rfl)) (by rfl)) (by rfl))) (by rfl) (by w_up))
  (@aZ _ _ _ _ _ (@bW (i:=7) _ _ _ _ _ _ xW.nd rfl (by w_up) (cO fU dJ hr (by decide) rfl (@aj _ _ _ _ _ (pv 2) (@aj _ _ _ _ _ (pv 3) (@aj _ _ _ _ _ (pv 5) (@aj _ _ _ _ _ (xG a9 rfl rfl (by decide)) av (by rfl)) (by rfl)) (by rfl)) (by rfl))) (by rfl) (by w_up))
  (@a8 _ _ _ (nA (mv PySem.F.plainAttrs_list PySem.F.slot_list_append PySem.F.type_list_append nC (pv 4) (@aj _ _ _ _ _ (@dZ _ _ _ _ _ (@aj _ _ _ _ _ (pv 6) (@aj _ _ _ _ _ (pv 7) av (by rfl)) (by rfl))) av (by rfl))))))))))
  (@a8 _ _ _ (@dN _ _ _ _ (d3 mr (by rfl) T.a6 mw (@aj _ _ _ _ _ (qB (own:=["k"]) (fr:=["forms","words","leads"]) (js:=[2,3,4]) rfl ⟨⟨rfl,by w_fin,by w_fin,by dsimp only [gK,aP,Cx.nz,Cx.wish,PyProof.Rows.envOfC,compEnvC,relabel,Env.kindOf];decide +kernel,by w_fin⟩,rfl⟩ (oN rfl T.aQ (@aj _ _ _ _ _ (jF kS (by rfl) T.bT kT (@aj _ _ _ _ _ (pv 2) av (by rfl))) av (by rfl))) (fun _ _ _ _ _=>(cj (i:=0) (show ((["k"]:List Str) ++ (["forms","words","leads"]:List Str)).Nodup by w_fin) rfl (by w_up))) (fun _ _ _ _ _=>qy) (fun _ _ _ _ _=>(@dZ _ _ _ _ _ (@aj _ _ _ _ _ (@bp _ _ _ _ _ _ _ (rJ (K:=K) rfl) (pv 1) (pv 0) (fun _ _=>rfl)) (@aj _ _ _ _ _ (@bp _ _ _ _ _ _ _ (rJ (K:=K) rfl) (pv 2) (pv 0) (fun _ _=>rfl)) (@aj _ _ _ _ _ (@bp _ _ _ _ _ _ _ (yr (K:=K) rfl) (@bp _ _ _ _ _ _ _ (rJ (K:=K) rfl) (pv 3) (pv 0) (fun _ _=>rfl)) aJ (fun _ _=>rfl)) (@aj _ _ _ _ _ (@bp _ _ _ _ _ _ _ (yr (K:=K) rfl) (@bp _ _ _ _ _ _ _ (rJ (K:=K) rfl) (pv 3) (pv 0) (fun _ _=>rfl)) aJ (fun _ _=>rfl)) av (by rfl)) (by rfl)) (by rfl)) (by rfl))))) av (by rfl))))))))),?_⟩
 exact gn (b:=EF) (a5 (bK (jc (ao (cL (F:=uQ) (ao (ai 0) ax) lZ) ax)) (aM 2))
  (a5 (bK (jc (ao (d5 ax) ax)) (aM 3))
  (a5 (bK (jc ax) (aM 4))
  (a5 (wB (fD (aB yB (bX kW (ao (ai 4) ax)) (bX kW (ao (ai 2) ax)))) (a5 (j6 (fD (aB AU (bX kW (ao (ai 2) ax)) (ai 1))) QI kX)
  (a5 (bK (bX kW (ao (ai 4) ax)) (aM 5))
  (a5 (bK (cL (F:=xV) (ao (ai 2) (ao (ai 3) (ao (ai 5) (ao (xH jm) ax)))) Ls) (aM 6))
  (a5 (bK (cL (F:=xV) (ao (ai 2) (ao (ai 3) (ao (ai 5) (ao (xH a9) ax)))) Ls) (aM 7))
  (nM (lO nJ (ai 4) (ao (d5 (ao (ai 6) (ao (ai 7) ax))) ax))))))))
  (dO (bX mD (ao (p4 (oR (ao (bX kW (ao (ai 2) ax)) ax)) (aM 0) qW (d5 (ao (aB iW (ai 1) (ai 0)) (ao (aB iW (ai 2) (ai 0)) (ao (aB ck (aB iW (ai 3) (ai 0)) (aK _)) (ao (aB ck (aB iW (ai 3) (ai 0)) (aK _)) ax)))))) ax))))))) rfl h
def EG:aq->Dm Fl :=
 (az (aG (ag 0) (gQ 4 (aS (hName 2) (aS (hName 3) (aS (hName 4) (aS (hName 5) g5))))))
 (az (aG (ag 1) (gQ 4 (aS (hName 6) (aS (hName 7) (aS (hName 8) (aS (hName 9) g5))))))
 (bg (a7 (ae (ay cM (ay cR (ag 2) (ag 6)) (ay cR (ag 3) (ag 8))) (ae (ay cM (ay cR (ag 2) (ag 7)) (ay cR (ag 3) (ag 9))) (ae (ay cM (ay cR (ag 4) (ag 6)) (ay cR (ag 5) (ag 8))) (ae (ay cM (ay cR (ag 4) (ag 7)) (ay cR (ag 5) (ag 9))) ah))))))))
def Cp:List D->Dm D:=fA 10 EG
def Cq:Stmt:=top 51
theorem sZ:aC ["_law_one","_law_other","_law_a","_law_b","_law_c","_law_d","_law_e","_law_f","_law_g","_law_h"] ["_law_one","_law_other"] (au Cq):=⟨rfl,rfl,rfl,by w_fin,rfl,by w_fin,by w_fin⟩
theorem RJ {f:Addr} {fd:FuncData} (D:Def K mg "_law_times" Cq ["_law_one","_law_other"] f fd) (T:Txt mg)  :aE P w K mg base bE 1 f fd ["_law_one","_law_other"] (bI K 2 Cp):=by
 refine D.F.ok sZ (fun _ _ _ _ h=>h.1) (fun c A o s H v Q E hr h=>?_)
 refine ⟨_,(@aZ _ _ _ _ _ (rE (pv 0) (ot (n:=4) rfl (gD (cj (i:=2) sZ.nd rfl (by w_up)) (gD (cj (i:=3) sZ.nd rfl (by w_up)) (gD (cj (i:=4) sZ.nd rfl (by w_up)) (gD (cj (i:=5) sZ.nd rfl (by w_up)) oo))))))
  (@aZ _ _ _ _ _ (rE (pv 1) (ot (n:=4) rfl (gD (cj (i:=6) sZ.nd rfl (by w_up)) (gD (cj (i:=7) sZ.nd rfl (by w_up)) (gD (cj (i:=8) sZ.nd rfl (by w_up)) (gD (cj (i:=9) sZ.nd rfl (by w_up)) oo))))))
  (@a8 _ _ _ (@dN _ _ _ _ (@dZ _ _ _ _ _ (@aj _ _ _ _ _ (bM lE (bM oO (pv 2) (pv 6)) (bM oO (pv 3) (pv 8))) (@aj _ _ _ _ _ (bM lE (bM oO (pv 2) (pv 7)) (bM oO (pv 3) (pv 9))) (@aj _ _ _ _ _ (bM lE (bM oO (pv 4) (pv 6)) (bM oO (pv 5) (pv 8))) (@aj _ _ _ _ _ (bM lE (bM oO (pv 4) (pv 7)) (bM oO (pv 5) (pv 9))) av (by rfl)) (by rfl)) (by rfl)) (by rfl))))))),?_⟩
 exact gn (b:=EG) (a5 (bK (ai 0) (oE (gG (aM 2) (gG (aM 3) (gG (aM 4) (gG (aM 5) oD))))))
  (a5 (bK (ai 1) (oE (gG (aM 6) (gG (aM 7) (gG (aM 8) (gG (aM 9) oD))))))
  (dO (d5 (ao (aB lG (aB oT (ai 2) (ai 6)) (aB oT (ai 3) (ai 8))) (ao (aB lG (aB oT (ai 2) (ai 7)) (aB oT (ai 3) (ai 9))) (ao (aB lG (aB oT (ai 4) (ai 6)) (aB oT (ai 5) (ai 8))) (ao (aB lG (aB oT (ai 4) (ai 7)) (aB oT (ai 5) (ai 9))) ax)))))))) rfl h
def EH:aq->Dm Fl :=
 (az (aG (a7 (ae (fC (.int 1)) (ae (fC (.int 0)) (ae (fC (.int 0)) (ae (fC (.int 1)) ah))))) (hName 1))
 (az (cu (cK (ag 0)) (gQ 2 (aS (hName 2) (aS (hName 3) g5))) (cu (bY (ae (ay bQ (b9 (ae (fC (.int 1)) (ae (ag 3) ah))) (aN mE (ae (ay (jY false) (ag 2) (fC (.str "t"))) ah))) ah)) (hName 4) (aG (aN Cp (ae (ay bQ (b9 (ae (a7 (ae (fC (.int 1)) (ae (ag 3) (ae (fC (.int 0)) (ae (fC (.int 1)) ah))))) (ae (a7 (ae (fC (.int 0)) (ae (qO lL (fC (.int 1))) (ae (fC (.int 1)) (ae (fC (.int 0)) ah))))) ah))) (aN mE (ae (ay (jY false) (ag 2) (fC (.str "t"))) ah))) (ae (ag 1) ah))) (hName 1))))
 (bg (ag 1))))
def yV:List D->Dm D:=fA 5 EH
def Cr:Stmt:=top 52
theorem yW:aC ["_law_word","_law_found","_law_letter","_law_k","_law_turn"] ["_law_word"] (au Cr):=⟨rfl,rfl,rfl,by w_fin,rfl,by w_fin,by w_fin⟩
theorem RK {f:Addr} {fd:FuncData} (D:Def K mg "_law_table" Cr ["_law_word"] f fd) (T:Txt mg)  {fV:Addr} {fW:FuncData} (fX:Def K mg "_law_times" Cq ["_law_one","_law_other"] fV fW) (jn:aE P w K mg base bE 1 fV fW ["_law_one","_law_other"] (bI K 2 Cp)):aE P w K mg base bE 2 f fd ["_law_word"] (bI K 1 yV):=by
 refine D.F.ok yW (fun _ _ _ _ h=>h.1) (fun c A o s H v Q E hr h=>?_)
 refine ⟨_,(@aZ _ _ _ _ _ (@bW (i:=1) _ _ _ _ _ _ yW.nd rfl (by w_up) (@dZ _ _ _ _ _ (@aj _ _ _ _ _ aJ (@aj _ _ _ _ _ aJ (@aj _ _ _ _ _ aJ (@aj _ _ _ _ _ aJ av (by rfl)) (by rfl)) (by rfl)) (by rfl))) (by rfl) (by w_up))
  (@aZ _ _ _ _ _ (@kC _ _ _ _ _ _ _ _ PassesOwn.never rfl (ou (pv 0)) (ot (n:=2) rfl (gD (cj (i:=2) yW.nd rfl (by w_up)) (gD (cj (i:=3) yW.nd rfl (by w_up)) oo))) (@a8 _ _ _ (@kC _ _ _ _ _ _ _ _ PassesOwn.never rfl (oN rfl T.aQ (@aj _ _ _ _ _ (@bp _ _ _ _ _ _ _ kR (@i9 _ _ _ _ (@aj _ _ _ _ _ aJ (@aj _ _ _ _ _ (pv 3) av (by rfl)) (by rfl))) (d3 Fz (by rfl) T.rj FX (@aj _ _ _ _ _ (Fy n5 (pv 2) oV (aL _)) av (by rfl))) (fun _ _=>rfl)) av (by rfl))) (cj (i:=4) yW.nd rfl (by w_up)) (@a8 _ _ _ (@bW (i:=1) _ _ _ _ _ _ yW.nd rfl (by w_up) (cO jn fX hr (by decide) rfl (@aj _ _ _ _ _ (@bp _ _ _ _ _ _ _ kR (@i9 _ _ _ _ (@aj _ _ _ _ _ (@dZ _ _ _ _ _ (@aj _ _ _ _ _ aJ (@aj _ _ _ _ _ (pv 3) (@aj _ _ _ _ _ aJ (@aj _ _ _ _ _ aJ av (by rfl)) (by rfl)) (by rfl)) (by rfl))) (@aj _ _ _ _ _ (@dZ _ _ _ _ _ (@aj _ _ _ _ _ aJ (@aj _ _ _ _ _ (sd se aJ) (@aj _ _ _ _ _ aJ (@aj _ _ _ _ _ aJ av (by rfl)) (by rfl)) (by rfl)) (by rfl))) av (by rfl)) (by rfl))) (d3 Fz (by rfl) T.rj FX (@aj _ _ _ _ _ (Fy n5 (pv 2) oV (aL _)) av (by rfl))) (fun _ _=>rfl)) (@aj _ _ _ _ _ (pv 1) av (by rfl)) (by rfl))) (by rfl) (by w_up))) (by intro _;rfl))) (by intro _;rfl))
  (@a8 _ _ _ (@dN _ _ _ _ (pv 1))))),?_⟩
 exact gn (b:=EH) (a5 (bK (d5 (ao (aK _) (ao (aK _) (ao (aK _) (ao (aK _) ax))))) (aM 1))
  (a5 (kD (oG (ai 0)) (oE (gG (aM 2) (gG (aM 3) oD))) (kD (oR (ao (aB iW (jc (ao (aK _) (ao (ai 3) ax))) (bX G1 (ao (aB oa (ai 2) (o7 _)) ax))) ax)) (aM 4) (bK (cL (F:=Cp) (ao (aB iW (jc (ao (d5 (ao (aK _) (ao (ai 3) (ao (aK _) (ao (aK _) ax))))) (ao (d5 (ao (aK _) (ao (sM sN (aK _)) (ao (aK _) (ao (aK _) ax))))) ax))) (bX G1 (ao (aB oa (ai 2) (o7 _)) ax))) (ao (ai 1) ax)) iX) (aM 1))))
  (dO (ai 1)))) rfl h
def EI:aq->Dm Fl :=
 (az (aG (b9 ah) (hName 1))
 (az (cu (oJ (ae (ag 0) ah)) (gQ 2 (aS (hName 2) (aS (hName 3) g5))) (bN (gZ "list" aO (ag 1) (ae (a7 (ae (ag 2) (ae (ay bQ (b9 (ae (ay mO (fC (.int 0)) (ag 3)) (ae (ay mO (fC (.int 4)) (ag 3)) ah))) (aN mE (ae (ay (jY false) (ag 2) (fC (.str "t"))) ah))) ah))) ah))))
 (bg (aN bB (ae (ag 1) ah)))))
def yX:List D->Dm D:=fA 4 EI
def Cs:Stmt:=top 55
theorem EJ:aC ["_law_word","_law_found","_law_letter","_law_k"] ["_law_word"] (au Cs):=⟨rfl,rfl,rfl,by w_fin,rfl,by w_fin,by w_fin⟩
theorem RL {f:Addr} {fd:FuncData} (D:Def K mg "_law_back" Cs ["_law_word"] f fd) (T:Txt mg)  :aE P w K mg base bE 1 f fd ["_law_word"] (bI K 1 yX):=by
 refine D.F.ok EJ (fun _ _ _ _ h=>h.1) (fun c A o s H v Q E hr h=>?_)
 refine ⟨_,(@aZ _ _ _ _ _ (@bW (i:=1) _ _ _ _ _ _ EJ.nd rfl (by w_up) (@i9 _ _ _ _ av) (by rfl) (by w_up))
  (@aZ _ _ _ _ _ (@kC _ _ _ _ _ _ _ _ PassesOwn.never rfl (JN rfl T.mF (@aj _ _ _ _ _ (pv 0) av (by rfl))) (ot (n:=2) rfl (gD (cj (i:=2) EJ.nd rfl (by w_up)) (gD (cj (i:=3) EJ.nd rfl (by w_up)) oo))) (@a8 _ _ _ (nA (mv PySem.F.plainAttrs_list PySem.F.slot_list_append PySem.F.type_list_append nC (pv 1) (@aj _ _ _ _ _ (@dZ _ _ _ _ _ (@aj _ _ _ _ _ (pv 2) (@aj _ _ _ _ _ (@bp _ _ _ _ _ _ _ kR (@i9 _ _ _ _ (@aj _ _ _ _ _ (bM zA aJ (pv 3)) (@aj _ _ _ _ _ (bM zA aJ (pv 3)) av (by rfl)) (by rfl))) (d3 Fz (by rfl) T.rj FX (@aj _ _ _ _ _ (Fy n5 (pv 2) oV (aL _)) av (by rfl))) (fun _ _=>rfl)) av (by rfl)) (by rfl))) av (by rfl))))) (by intro _;rfl))
  (@a8 _ _ _ (@dN _ _ _ _ (d3 mr (by rfl) T.a6 mw (@aj _ _ _ _ _ (pv 1) av (by rfl))))))),?_⟩
 exact gn (b:=EI) (a5 (bK (jc ax) (aM 1))
  (a5 (kD (La (ao (ai 0) ax)) (oE (gG (aM 2) (gG (aM 3) oD))) (nM (lO nJ (ai 1) (ao (d5 (ao (ai 2) (ao (aB iW (jc (ao (aB AR (aK _) (ai 3)) (ao (aB AR (aK _) (ai 3)) ax))) (bX G1 (ao (aB oa (ai 2) (o7 _)) ax))) ax))) ax))))
  (dO (bX mD (ao (ai 1) ax))))) rfl h
def EK:aq->Dm Fl :=
 (az (aG (b9 ah) (hName 1))
 (az (aG (fC (.int 1)) (hName 2))
 (az (cu (cK (ag 0)) (gQ 4 (aS (hName 3) (aS (hName 4) (aS (hName 5) (aS (hName 6) g5))))) (cu (cK (a7 (ae (a7 (ae (fC (.str "s")) (ae (ag 5) ah))) (ae (a7 (ae (fC (.str "t")) (ae (ag 6) ah))) ah)))) (gQ 2 (aS (hName 7) (aS (hName 8) g5))) (gF (aH (ay (jY false) (ag 8) (ag 2))) (aG (ay cM (ag 2) (fC (.int 1))) (hName 2)) (bN (gZ "list" aO (ag 1) (ae (aN yV (ae (ay eQ (ay eQ (ag 4) (a7 (ae (a7 (ae (ag 7) (ae (fC (.int 1)) ah))) ah))) (aN yX (ae (ay aI (ay aI (ag 0) (ag 8)) (fC (.int 1))) ah))) ah)) ah))))))
 (bg (aN bB (ae (ag 1) ah))))))
def Ct:List D->Dm D:=fA 9 EK
def Cu:Stmt:=top 57
theorem rW:aC ["_law_chart_here","_law_found","_law_behind_here","_law_floor_here","_law_word","_law_s","_law_t","_law_letter","_law_goal"] ["_law_chart_here"] (au Cu):=⟨rfl,rfl,rfl,by w_fin,rfl,by w_fin,by w_fin⟩
theorem RM {f:Addr} {fd:FuncData} (D:Def K mg "_law_makers" Cu ["_law_chart_here"] f fd) (T:Txt mg)  {fY:Addr} {fZ:FuncData} (f9:Def K mg "_law_table" Cr ["_law_word"] fY fZ) (jq:aE P w K mg base bE 2 fY fZ ["_law_word"] (bI K 1 yV)) {ip:Addr} {iq:FuncData} (iu:Def K mg "_law_back" Cs ["_law_word"] ip iq) (kg:aE P w K mg base bE 1 ip iq ["_law_word"] (bI K 1 yX)):aE P w K mg base bE 3 f fd ["_law_chart_here"] (bI K 1 Ct):=by
 refine D.F.ok rW (fun _ _ _ _ h=>h.1) (fun c A o s H v Q E hr h=>?_)
 refine ⟨_,(@aZ _ _ _ _ _ (@bW (i:=1) _ _ _ _ _ _ rW.nd rfl (by w_up) (@i9 _ _ _ _ av) (by rfl) (by w_up))
  (@aZ _ _ _ _ _ (@bW (i:=2) _ _ _ _ _ _ rW.nd rfl (by w_up) aJ (by rfl) (by w_up))
  (@aZ _ _ _ _ _ (@kC _ _ _ _ _ _ _ _ PassesOwn.never rfl (ou (pv 0)) (ot (n:=4) rfl (gD (cj (i:=3) rW.nd rfl (by w_up)) (gD (cj (i:=4) rW.nd rfl (by w_up)) (gD (cj (i:=5) rW.nd rfl (by w_up)) (gD (cj (i:=6) rW.nd rfl (by w_up)) oo))))) (@a8 _ _ _ (@kC _ _ _ _ _ _ _ _ PassesOwn.never rfl (ou (@dZ _ _ _ _ _ (@aj _ _ _ _ _ (@dZ _ _ _ _ _ (@aj _ _ _ _ _ oV (@aj _ _ _ _ _ (pv 5) av (by rfl)) (by rfl))) (@aj _ _ _ _ _ (@dZ _ _ _ _ _ (@aj _ _ _ _ _ oV (@aj _ _ _ _ _ (pv 6) av (by rfl)) (by rfl))) av (by rfl)) (by rfl)))) (ot (n:=2) rfl (gD (cj (i:=7) rW.nd rfl (by w_up)) (gD (cj (i:=8) rW.nd rfl (by w_up)) oo))) (@a8 _ _ _ (@j4 _ _ _ _ _ _ _ _ (gh n5 (pv 8) (pv 2) (aL _)) (@a8 _ _ _ (@bW (i:=2) _ _ _ _ _ _ rW.nd rfl (by w_up) (bM lE (pv 2) aJ) (by rfl) (by w_up))) (@a8 _ _ _ (nA (mv PySem.F.plainAttrs_list PySem.F.slot_list_append PySem.F.type_list_append nC (pv 1) (@aj _ _ _ _ _ (cO jq f9 hr (by decide) rfl (@aj _ _ _ _ _ (bM sr (bM sr (pv 4) (@dZ _ _ _ _ _ (@aj _ _ _ _ _ (@dZ _ _ _ _ _ (@aj _ _ _ _ _ (pv 7) (@aj _ _ _ _ _ aJ av (by rfl)) (by rfl))) av (by rfl)))) (cO kg iu hr (by decide) rfl (@aj _ _ _ _ _ (@bp _ _ _ _ _ _ _ cB (@bp _ _ _ _ _ _ _ cB (pv 0) (pv 8) (fun _ _=>rfl)) aJ (fun _ _=>rfl)) av (by rfl)))) av (by rfl))) av (by rfl))))))) (by intro _;rfl))) (by intro _;rfl))
  (@a8 _ _ _ (@dN _ _ _ _ (d3 mr (by rfl) T.a6 mw (@aj _ _ _ _ _ (pv 1) av (by rfl)))))))),?_⟩
 exact gn (b:=EK) (a5 (bK (jc ax) (aM 1))
  (a5 (bK (aK _) (aM 2))
  (a5 (kD (oG (ai 0)) (oE (gG (aM 3) (gG (aM 4) (gG (aM 5) (gG (aM 6) oD))))) (kD (oG (d5 (ao (d5 (ao (o7 _) (ao (ai 5) ax))) (ao (d5 (ao (o7 _) (ao (ai 6) ax))) ax)))) (oE (gG (aM 7) (gG (aM 8) oD))) (j6 (fD (aB oa (ai 8) (ai 2))) (bK (aB lG (ai 2) (aK _)) (aM 2)) (nM (lO nJ (ai 1) (ao (cL (F:=yV) (ao (aB sO (aB sO (ai 4) (d5 (ao (d5 (ao (ai 7) (ao (aK _) ax))) ax))) (cL (F:=yX) (ao (aB ck (aB ck (ai 0) (ai 8)) (aK _)) ax) lZ)) ax) lZ) ax))))))
  (dO (bX mD (ao (ai 1) ax)))))) rfl h
def EL:aq->Dm Fl :=
 (az (aG (b9 ah) (hName 1))
 (az (aG (fC (.int 1)) (hName 2))
 (az (cu (lq (ae (ag 0) ah)) (gQ 2 (aS (hName 3) (aS (hName 4) g5))) (cu (cK (a7 (ae (a7 (ae (fC (.tup [(.str "s"),(.int 1)])) (ae (ay aI (ag 4) (fC (.int 2))) ah))) (ae (a7 (ae (fC (.tup [(.str "t"),(.int 1)])) (ae (ay aI (ag 4) (fC (.int 3))) ah))) ah)))) (gQ 2 (aS (hName 5) (aS (hName 6) g5))) (gF (aH (ay (jY false) (ag 6) (ag 2))) (aG (ay cM (ag 2) (fC (.int 1))) (hName 2)) (bN (gZ "list" aO (ag 1) (ae (a7 (ae (ag 3) (ae (ag 5) (ae (ag 6) ah)))) ah))))))
 (bg (aN bB (ae (ag 1) ah))))))
def Cv:List D->Dm D:=fA 7 EL
def Cw:Stmt:=top 39
theorem uR:aC ["chart","places","rows_so_far","number","row","step","reached"] ["chart"] (au Cw):=⟨rfl,rfl,rfl,by w_fin,rfl,by w_fin,by w_fin⟩
theorem RN {f:Addr} {fd:FuncData} (D:Def K mg "maker_places" Cw ["chart"] f fd) (T:Txt mg) {cb:V} (a9:nB K mg "QUARTER_charts" cb (.tup [(.str "t"),(.int 1)])) {mH:V} (jm:nB K mg "SHEAR" mH (.tup [(.str "s"),(.int 1)])) :aE P w K mg base bE 1 f fd ["chart"] (bI K 1 Cv):=by
 refine D.F.ok uR (fun _ _ _ _ h=>h.1) (fun c A o s H v Q E hr h=>?_)
 refine ⟨_,(@aZ _ _ _ _ _ (@bW (i:=1) _ _ _ _ _ _ uR.nd rfl (by w_up) (@i9 _ _ _ _ av) (by rfl) (by w_up))
  (@aZ _ _ _ _ _ (@bW (i:=2) _ _ _ _ _ _ uR.nd rfl (by w_up) aJ (by rfl) (by w_up))
  (@aZ _ _ _ _ _ (@kC _ _ _ _ _ _ _ _ PassesOwn.never rfl (Gh rfl T.ji (@aj _ _ _ _ _ (pv 0) av (by rfl))) (ot (n:=2) rfl (gD (cj (i:=3) uR.nd rfl (by w_up)) (gD (cj (i:=4) uR.nd rfl (by w_up)) oo))) (@a8 _ _ _ (@kC _ _ _ _ _ _ _ _ PassesOwn.never rfl (ou (@dZ _ _ _ _ _ (@aj _ _ _ _ _ (@dZ _ _ _ _ _ (@aj _ _ _ _ _ (xG jm rfl rfl (by decide)) (@aj _ _ _ _ _ (@bp _ _ _ _ _ _ _ cB (pv 4) aJ (fun _ _=>rfl)) av (by rfl)) (by rfl))) (@aj _ _ _ _ _ (@dZ _ _ _ _ _ (@aj _ _ _ _ _ (xG a9 rfl rfl (by decide)) (@aj _ _ _ _ _ (@bp _ _ _ _ _ _ _ cB (pv 4) aJ (fun _ _=>rfl)) av (by rfl)) (by rfl))) av (by rfl)) (by rfl)))) (ot (n:=2) rfl (gD (cj (i:=5) uR.nd rfl (by w_up)) (gD (cj (i:=6) uR.nd rfl (by w_up)) oo))) (@a8 _ _ _ (@j4 _ _ _ _ _ _ _ _ (gh n5 (pv 6) (pv 2) (aL _)) (@a8 _ _ _ (@bW (i:=2) _ _ _ _ _ _ uR.nd rfl (by w_up) (bM lE (pv 2) aJ) (by rfl) (by w_up))) (@a8 _ _ _ (nA (mv PySem.F.plainAttrs_list PySem.F.slot_list_append PySem.F.type_list_append nC (pv 1) (@aj _ _ _ _ _ (@dZ _ _ _ _ _ (@aj _ _ _ _ _ (pv 3) (@aj _ _ _ _ _ (pv 5) (@aj _ _ _ _ _ (pv 6) av (by rfl)) (by rfl)) (by rfl))) av (by rfl))))))) (by intro _;rfl))) (by intro _;rfl))
  (@a8 _ _ _ (@dN _ _ _ _ (d3 mr (by rfl) T.a6 mw (@aj _ _ _ _ _ (pv 1) av (by rfl)))))))),?_⟩
 exact gn (b:=EL) (a5 (bK (jc ax) (aM 1))
  (a5 (bK (aK _) (aM 2))
  (a5 (kD (G4 (ao (ai 0) ax)) (oE (gG (aM 3) (gG (aM 4) oD))) (kD (oG (d5 (ao (d5 (ao (xH jm) (ao (aB ck (ai 4) (aK _)) ax))) (ao (d5 (ao (xH a9) (ao (aB ck (ai 4) (aK _)) ax))) ax)))) (oE (gG (aM 5) (gG (aM 6) oD))) (j6 (fD (aB oa (ai 6) (ai 2))) (bK (aB lG (ai 2) (aK _)) (aM 2)) (nM (lO nJ (ai 1) (ao (d5 (ao (ai 3) (ao (ai 5) (ao (ai 6) ax)))) ax))))))
  (dO (bX mD (ao (ai 1) ax)))))) rfl h
def EM:aq->Dm Fl :=
 (bg (a7 (ae (ay cM (ay cR (ay aI (ag 0) (fC (.int 0))) (ay aI (ag 1) (fC (.int 0)))) (ay cR (ay aI (ag 0) (fC (.int 1))) (ay aI (ag 1) (fC (.int 2))))) (ae (ay cM (ay cR (ay aI (ag 0) (fC (.int 0))) (ay aI (ag 1) (fC (.int 1)))) (ay cR (ay aI (ag 0) (fC (.int 1))) (ay aI (ag 1) (fC (.int 3))))) (ae (ay cM (ay cR (ay aI (ag 0) (fC (.int 2))) (ay aI (ag 1) (fC (.int 0)))) (ay cR (ay aI (ag 0) (fC (.int 3))) (ay aI (ag 1) (fC (.int 2))))) (ae (ay cM (ay cR (ay aI (ag 0) (fC (.int 2))) (ay aI (ag 1) (fC (.int 1)))) (ay cR (ay aI (ag 0) (fC (.int 3))) (ay aI (ag 1) (fC (.int 3))))) ah))))))
def uS:List D->Dm D:=fA 2 EM
def yZ:Stmt:=top 17
theorem RO:aC ["one","other"] ["one","other"] (au yZ):=⟨rfl,rfl,rfl,by w_fin,rfl,by w_fin,by w_fin⟩
theorem RP {f:Addr} {fd:FuncData} (D:Def K mg "times" yZ ["one","other"] f fd) (T:Txt mg)  :aE P w K mg base bE 1 f fd ["one","other"] (bI K 2 uS):=by
 refine D.F.ok RO (fun _ _ _ _ h=>h.1) (fun c A o s H v Q E hr h=>?_)
 refine ⟨_,(@a8 _ _ _ (@dN _ _ _ _ (@dZ _ _ _ _ _ (@aj _ _ _ _ _ (bM lE (bM oO (@bp _ _ _ _ _ _ _ cB (pv 0) aJ (fun _ _=>rfl)) (@bp _ _ _ _ _ _ _ cB (pv 1) aJ (fun _ _=>rfl))) (bM oO (@bp _ _ _ _ _ _ _ cB (pv 0) aJ (fun _ _=>rfl)) (@bp _ _ _ _ _ _ _ cB (pv 1) aJ (fun _ _=>rfl)))) (@aj _ _ _ _ _ (bM lE (bM oO (@bp _ _ _ _ _ _ _ cB (pv 0) aJ (fun _ _=>rfl)) (@bp _ _ _ _ _ _ _ cB (pv 1) aJ (fun _ _=>rfl))) (bM oO (@bp _ _ _ _ _ _ _ cB (pv 0) aJ (fun _ _=>rfl)) (@bp _ _ _ _ _ _ _ cB (pv 1) aJ (fun _ _=>rfl)))) (@aj _ _ _ _ _ (bM lE (bM oO (@bp _ _ _ _ _ _ _ cB (pv 0) aJ (fun _ _=>rfl)) (@bp _ _ _ _ _ _ _ cB (pv 1) aJ (fun _ _=>rfl))) (bM oO (@bp _ _ _ _ _ _ _ cB (pv 0) aJ (fun _ _=>rfl)) (@bp _ _ _ _ _ _ _ cB (pv 1) aJ (fun _ _=>rfl)))) (@aj _ _ _ _ _ (bM lE (bM oO (@bp _ _ _ _ _ _ _ cB (pv 0) aJ (fun _ _=>rfl)) (@bp _ _ _ _ _ _ _ cB (pv 1) aJ (fun _ _=>rfl))) (bM oO (@bp _ _ _ _ _ _ _ cB (pv 0) aJ (fun _ _=>rfl)) (@bp _ _ _ _ _ _ _ cB (pv 1) aJ (fun _ _=>rfl)))) av (by rfl)) (by rfl)) (by rfl)) (by rfl))))),?_⟩
 exact gn (b:=EM) (dO (d5 (ao (aB lG (aB oT (aB ck (ai 0) (aK _)) (aB ck (ai 1) (aK _))) (aB oT (aB ck (ai 0) (aK _)) (aB ck (ai 1) (aK _)))) (ao (aB lG (aB oT (aB ck (ai 0) (aK _)) (aB ck (ai 1) (aK _))) (aB oT (aB ck (ai 0) (aK _)) (aB ck (ai 1) (aK _)))) (ao (aB lG (aB oT (aB ck (ai 0) (aK _)) (aB ck (ai 1) (aK _))) (aB oT (aB ck (ai 0) (aK _)) (aB ck (ai 1) (aK _)))) (ao (aB lG (aB oT (aB ck (ai 0) (aK _)) (aB ck (ai 1) (aK _))) (aB oT (aB ck (ai 0) (aK _)) (aB ck (ai 1) (aK _)))) ax)))))) rfl h
def EN:aq->Dm Fl :=
 (az (gF (aH (ay (jY false) (ay aI (ag 0) (fC (.int 0))) (fC (.str "s")))) (bg (a7 (ae (fC (.int 1)) (ae (ay aI (ag 0) (fC (.int 1))) (ae (fC (.int 0)) (ae (fC (.int 1)) ah)))))) bD)
 (az (aG (fC (.tup [(.int 1),(.int 0),(.int 0),(.int 1)])) (hName 1))
 (az (cu (bY (ae (ay aI (ag 0) (fC (.int 1))) ah)) (hName 2) (aG (aN uS (ae (fC (.tup [(.int 0),(.int (-1)),(.int 1),(.int 0)])) (ae (ag 1) ah))) (hName 1)))
 (bg (ag 1)))))
def Cy:List D->Dm D:=fA 3 EN
def Cz:Stmt:=top 21
theorem EO:aC ["step","table","turn"] ["step"] (au Cz):=⟨rfl,rfl,rfl,by w_fin,rfl,by w_fin,by w_fin⟩
theorem RQ {f:Addr} {fd:FuncData} (D:Def K mg "step_table" Cz ["step"] f fd) (T:Txt mg) {fj:V} (cY:nB K mg "QUARTER_words" fj (.tup [(.int 0),(.int (-1)),(.int 1),(.int 0)])) {jr:V} (dM:nB K mg "UNMOVED" jr (.tup [(.int 1),(.int 0),(.int 0),(.int 1)])) {kh:Addr} {ki:FuncData} (kj:Def K mg "times" yZ ["one","other"] kh ki) (lu:aE P w K mg base bE 1 kh ki ["one","other"] (bI K 2 uS)):aE P w K mg base bE 2 f fd ["step"] (bI K 1 Cy):=by
 refine D.F.ok EO (fun _ _ _ _ h=>h.1) (fun c A o s H v Q E hr h=>?_)
 refine ⟨_,(@aZ _ _ _ _ _ (@j4 _ _ _ _ _ _ _ _ (gh n5 (@bp _ _ _ _ _ _ _ cB (pv 0) aJ (fun _ _=>rfl)) oV (aL _)) (@a8 _ _ _ (@dN _ _ _ _ (@dZ _ _ _ _ _ (@aj _ _ _ _ _ aJ (@aj _ _ _ _ _ (@bp _ _ _ _ _ _ _ cB (pv 0) aJ (fun _ _=>rfl)) (@aj _ _ _ _ _ aJ (@aj _ _ _ _ _ aJ av (by rfl)) (by rfl)) (by rfl)) (by rfl))))) kP)
  (@aZ _ _ _ _ _ (@bW (i:=1) _ _ _ _ _ _ EO.nd rfl (by w_up) (xG dM rfl rfl (by decide)) (by rfl) (by w_up))
  (@aZ _ _ _ _ _ (@kC _ _ _ _ _ _ _ _ PassesOwn.never rfl (oN rfl T.aQ (@aj _ _ _ _ _ (@bp _ _ _ _ _ _ _ cB (pv 0) aJ (fun _ _=>rfl)) av (by rfl))) (cj (i:=2) EO.nd rfl (by w_up)) (@a8 _ _ _ (@bW (i:=1) _ _ _ _ _ _ EO.nd rfl (by w_up) (cO lu kj hr (by decide) rfl (@aj _ _ _ _ _ (xG cY rfl rfl (by decide)) (@aj _ _ _ _ _ (pv 1) av (by rfl)) (by rfl))) (by rfl) (by w_up))) (by intro _;rfl))
  (@a8 _ _ _ (@dN _ _ _ _ (pv 1)))))),?_⟩
 exact gn (b:=EN) (a5 (j6 (fD (aB oa (aB ck (ai 0) (aK _)) (o7 _))) (dO (d5 (ao (aK _) (ao (aB ck (ai 0) (aK _)) (ao (aK _) (ao (aK _) ax)))))) kX)
  (a5 (bK (xH dM) (aM 1))
  (a5 (kD (oR (ao (aB ck (ai 0) (aK _)) ax)) (aM 2) (bK (cL (F:=uS) (ao (xH cY) (ao (ai 1) ax)) iX) (aM 1)))
  (dO (ai 1))))) rfl h
def ER:aq->Dm Fl :=
 (az (aG (fC (.tup [(.int 1),(.int 0),(.int 0),(.int 1)])) (hName 1))
 (az (cu (cK (ag 0)) (hName 2) (aG (aN uS (ae (aN Cy (ae (ag 2) ah)) (ae (ag 1) ah))) (hName 1)))
 (bg (ag 1))))
def CA:List D->Dm D:=fA 3 ER
def CB:Stmt:=top 22
theorem ES:aC ["word","table","step"] ["word"] (au CB):=⟨rfl,rfl,rfl,by w_fin,rfl,by w_fin,by w_fin⟩
theorem RS {f:Addr} {fd:FuncData} (D:Def K mg "table_of" CB ["word"] f fd) (T:Txt mg) {jr:V} (dM:nB K mg "UNMOVED" jr (.tup [(.int 1),(.int 0),(.int 0),(.int 1)])) {kh:Addr} {ki:FuncData} (kj:Def K mg "times" yZ ["one","other"] kh ki) (lu:aE P w K mg base bE 1 kh ki ["one","other"] (bI K 2 uS)) {gb:Addr} {gf:FuncData} (gg:Def K mg "step_table" Cz ["step"] gb gf) (jt:aE P w K mg base bE 2 gb gf ["step"] (bI K 1 Cy)):aE P w K mg base bE 3 f fd ["word"] (bI K 1 CA):=by
 refine D.F.ok ES (fun _ _ _ _ h=>h.1) (fun c A o s H v Q E hr h=>?_)
 refine ⟨_,(@aZ _ _ _ _ _ (@bW (i:=1) _ _ _ _ _ _ ES.nd rfl (by w_up) (xG dM rfl rfl (by decide)) (by rfl) (by w_up))
  (@aZ _ _ _ _ _ (@kC _ _ _ _ _ _ _ _ PassesOwn.never rfl (ou (pv 0)) (cj (i:=2) ES.nd rfl (by w_up)) (@a8 _ _ _ (@bW (i:=1) _ _ _ _ _ _ ES.nd rfl (by w_up) (cO lu kj hr (by decide) rfl (@aj _ _ _ _ _ (cO jt gg hr (by decide) rfl (@aj _ _ _ _ _ (pv 2) av (by rfl))) (@aj _ _ _ _ _ (pv 1) av (by rfl)) (by rfl))) (by rfl) (by w_up))) (by intro _;rfl))
  (@a8 _ _ _ (@dN _ _ _ _ (pv 1))))),?_⟩
 exact gn (b:=ER) (a5 (bK (xH dM) (aM 1))
  (a5 (kD (oG (ai 0)) (aM 2) (bK (cL (F:=uS) (ao (cL (F:=Cy) (ao (ai 2) ax) lZ) (ao (ai 1) ax)) iX) (aM 1)))
  (dO (ai 1)))) rfl h
def ET:aq->Dm Fl :=
 (az (gF (aH (ay (jY false) (ay aI (ag 0) (fC (.int 0))) (fC (.str "s")))) (bg (a7 (ae (fC (.str "s")) (ae (qO lL (ay aI (ag 0) (fC (.int 1)))) ah)))) bD)
 (bg (a7 (ae (fC (.str "t")) (ae (ay mO (fC (.int 4)) (ay aI (ag 0) (fC (.int 1)))) ah)))))
def CC:List D->Dm D:=fA 1 ET
def CD:Stmt:=top 26
theorem RT:aC ["step"] ["step"] (au CD):=⟨rfl,rfl,rfl,by w_fin,rfl,by w_fin,by w_fin⟩
theorem RU {f:Addr} {fd:FuncData} (D:Def K mg "back_step" CD ["step"] f fd) (T:Txt mg)  :aE P w K mg base bE 1 f fd ["step"] (bI K 1 CC):=by
 refine D.F.ok RT (fun _ _ _ _ h=>h.1) (fun c A o s H v Q E hr h=>?_)
 refine ⟨_,(@aZ _ _ _ _ _ (@j4 _ _ _ _ _ _ _ _ (gh n5 (@bp _ _ _ _ _ _ _ cB (pv 0) aJ (fun _ _=>rfl)) oV (aL _)) (@a8 _ _ _ (@dN _ _ _ _ (@dZ _ _ _ _ _ (@aj _ _ _ _ _ oV (@aj _ _ _ _ _ (sd se (@bp _ _ _ _ _ _ _ cB (pv 0) aJ (fun _ _=>rfl))) av (by rfl)) (by rfl))))) kP)
  (@a8 _ _ _ (@dN _ _ _ _ (@dZ _ _ _ _ _ (@aj _ _ _ _ _ oV (@aj _ _ _ _ _ (bM zA aJ (@bp _ _ _ _ _ _ _ cB (pv 0) aJ (fun _ _=>rfl))) av (by rfl)) (by rfl)))))),?_⟩
 exact gn (b:=ET) (a5 (j6 (fD (aB oa (aB ck (ai 0) (aK _)) (o7 _))) (dO (d5 (ao (o7 _) (ao (sM sN (aB ck (ai 0) (aK _))) ax)))) kX)
  (dO (d5 (ao (o7 _) (ao (aB AR (aK _) (aB ck (ai 0) (aK _))) ax))))) rfl h
def EU:aq->Dm Fl :=
 (bg (aN bB (ae (cQ (oJ (ae (ag 0) ah)) 1 [] (hName 0) dG (aN CC (ae (ag 0) ah))) ah)))
def CF:List D->Dm D:=fA 1 EU
def CG:Stmt:=top 27
theorem RV:aC ["word"] ["word"] (au CG):=⟨rfl,rfl,rfl,by w_fin,rfl,by w_fin,by w_fin⟩
theorem RW {f:Addr} {fd:FuncData} (D:Def K mg "back_word" CG ["word"] f fd) (T:Txt mg)  {iw:Addr} {iy:FuncData} (iz:Def K mg "back_step" CD ["step"] iw iy) (kl:aE P w K mg base bE 1 iw iy ["step"] (bI K 1 CC)):aE P w K mg base bE 2 f fd ["word"] (bI K 1 CF):=by
 refine D.F.ok RV (fun _ _ _ _ h=>h.1) (fun c A o s H v Q E hr h=>?_)
 refine ⟨_,(@a8 _ _ _ (@dN _ _ _ _ (d3 mr (by rfl) T.a6 mw (@aj _ _ _ _ _ (qB (own:=["step"]) (fr:=[]) (js:=[]) rfl ⟨⟨rfl,by w_fin,by w_fin,by dsimp only [gK,aP,Cx.nz,Cx.wish,PyProof.Rows.envOfC,compEnvC,relabel,Env.kindOf];decide +kernel,by w_fin⟩,rfl⟩ (JN rfl T.mF (@aj _ _ _ _ _ (pv 0) av (by rfl))) (fun _ _ _ _ _=>(cj (i:=0) (show ((["step"]:List Str) ++ ([]:List Str)).Nodup by w_fin) rfl (by w_up))) (fun _ _ _ _ _=>qy) (fun _ _ _ _ _=>(cO kl iz hr (by decide) rfl (@aj _ _ _ _ _ (pv 0) av (by rfl))))) av (by rfl))))),?_⟩
 exact gn (b:=EU) (dO (bX mD (ao (p4 (La (ao (ai 0) ax)) (aM 0) qW (cL (F:=CC) (ao (ai 0) ax) lZ)) ax))) rfl h
def EV:aq->Dm Fl :=
 (az (aG (b9 ah) (hName 1))
 (az (cu (cK (aN Cv (ae (ag 0) ah))) (gQ 3 (aS (hName 2) (aS (hName 3) (aS (hName 4) g5)))) (bN (gZ "list" aO (ag 1) (ae (aN CA (ae (ay eQ (ay eQ (ay aI (ay aI (ag 0) (ag 2)) (fC (.int 1))) (a7 (ae (ag 3) ah))) (aN CF (ae (ay aI (ay aI (ag 0) (ag 4)) (fC (.int 1))) ah))) ah)) ah))))
 (bg (aN bB (ae (ag 1) ah)))))
def CH:List D->Dm D:=fA 5 EV
def CI:Stmt:=top 40
theorem CJ:aC ["chart","makers","number","step","reached"] ["chart"] (au CI):=⟨rfl,rfl,rfl,by w_fin,rfl,by w_fin,by w_fin⟩
theorem RX {f:Addr} {fd:FuncData} (D:Def K mg "makers_of" CI ["chart"] f fd) (T:Txt mg)  {dC:Addr} {dD:FuncData} (dE:Def K mg "maker_places" Cw ["chart"] dC dD) (gu:aE P w K mg base bE 1 dC dD ["chart"] (bI K 1 Cv)) {jP:Addr} {jQ:FuncData} (jR:Def K mg "table_of" CB ["word"] jP jQ) (lx:aE P w K mg base bE 3 jP jQ ["word"] (bI K 1 CA)) {iA:Addr} {iB:FuncData} (iC:Def K mg "back_word" CG ["word"] iA iB) (km:aE P w K mg base bE 2 iA iB ["word"] (bI K 1 CF)):aE P w K mg base bE 4 f fd ["chart"] (bI K 1 CH):=by
 refine D.F.ok CJ (fun _ _ _ _ h=>h.1) (fun c A o s H v Q E hr h=>?_)
 refine ⟨_,(@aZ _ _ _ _ _ (@bW (i:=1) _ _ _ _ _ _ CJ.nd rfl (by w_up) (@i9 _ _ _ _ av) (by rfl) (by w_up))
  (@aZ _ _ _ _ _ (@kC _ _ _ _ _ _ _ _ PassesOwn.never rfl (ou (cO gu dE hr (by decide) rfl (@aj _ _ _ _ _ (pv 0) av (by rfl)))) (ot (n:=3) rfl (gD (cj (i:=2) CJ.nd rfl (by w_up)) (gD (cj (i:=3) CJ.nd rfl (by w_up)) (gD (cj (i:=4) CJ.nd rfl (by w_up)) oo)))) (@a8 _ _ _ (nA (mv PySem.F.plainAttrs_list PySem.F.slot_list_append PySem.F.type_list_append nC (pv 1) (@aj _ _ _ _ _ (cO lx jR hr (by decide) rfl (@aj _ _ _ _ _ (bM sr (bM sr (@bp _ _ _ _ _ _ _ cB (@bp _ _ _ _ _ _ _ cB (pv 0) (pv 2) (fun _ _=>rfl)) aJ (fun _ _=>rfl)) (@dZ _ _ _ _ _ (@aj _ _ _ _ _ (pv 3) av (by rfl)))) (cO km iC hr (by decide) rfl (@aj _ _ _ _ _ (@bp _ _ _ _ _ _ _ cB (@bp _ _ _ _ _ _ _ cB (pv 0) (pv 4) (fun _ _=>rfl)) aJ (fun _ _=>rfl)) av (by rfl)))) av (by rfl))) av (by rfl))))) (by intro _;rfl))
  (@a8 _ _ _ (@dN _ _ _ _ (d3 mr (by rfl) T.a6 mw (@aj _ _ _ _ _ (pv 1) av (by rfl))))))),?_⟩
 exact gn (b:=EV) (a5 (bK (jc ax) (aM 1))
  (a5 (kD (oG (cL (F:=Cv) (ao (ai 0) ax) lZ)) (oE (gG (aM 2) (gG (aM 3) (gG (aM 4) oD)))) (nM (lO nJ (ai 1) (ao (cL (F:=CA) (ao (aB sO (aB sO (aB ck (aB ck (ai 0) (ai 2)) (aK _)) (d5 (ao (ai 3) ax))) (cL (F:=CF) (ao (aB ck (aB ck (ai 0) (ai 4)) (aK _)) ax) lZ)) ax) lZ) ax))))
  (dO (bX mD (ao (ai 1) ax))))) rfl h
def EW:aq->Dm Fl :=
 (az (aG (b9 ah) (hName 1))
 (az (cu (nO (ae (fC (.int 1)) (ae (aN pJ (ae (fC (.int 2)) (ae (aN pK (ae (fC (.int 4)) (ae (aN cI (ae (ag 0) ah)) ah))) ah))) ah))) (hName 2) (az (aG (aN Bw (ae (ag 0) (ae (ag 2) ah))) (hName 3))
 (az (aG (ay bQ (b9 (ae (fC (.int 30)) (ae (fC (.int 60)) ah))) (aN nh (ae (ag 3) (ae (fC (.int 2)) ah)))) (hName 4))
 (az (aG (aN BL (ae (ag 3) (ae (ag 4) ah))) (gQ 2 (aS (hName 5) (aS (hName 6) g5))))
 (az (aG (aN (fun as=>yU (as ++ [.int 60])) (ae (ag 5) ah)) (hName 7))
 (az (gF (aH (ay (lM true) (ag 7) (ag 6))) (bg (fC (.bl false))) bD)
 (bN (gZ "list" aO (ag 1) (ae (a7 (ae (ag 5) (ae (ag 7) (ae (aN Ct (ae (ag 6) ah)) ah)))) ah)))))))))
 (az (cu (ka (ay mC (ag 1) (yA qQ (ag 1) kJ (m8 (fC (.int 1)))))) (gQ 3 (aS (hName 5) (aS (hName 6) (aS (hName 8) g5)))) (gF (aH (ay (jY true) (aN lH (ae (aN CH (ae (ag 6) ah)) ah)) (aN lH (ae (ag 8) ah)))) (bg (fC (.bl false))) bD))
 (bg (fC (.bl true))))))
def Hw:List D->Dm D:=fA 9 EW
def EX:Stmt:=top 58
theorem rq:aC ["_law_script","_law_asked","_law_k","_law_feed_here","_law_most","_law_floor_here","_law_chart_here","_law_told","_law_due"] ["_law_script"] (au EX):=⟨rfl,rfl,rfl,by w_fin,rfl,by w_fin,by w_fin⟩
theorem xX {f:Addr} {fd:FuncData} (D:Def K mg "law" EX ["_law_script"] f fd) (T:Txt mg)  {iD:Addr} {iE:FuncData} (iF:Def K mg "_law_feed" Bx ["_law_script","_law_k"] iD iE) (kn:aE P w K mg base bE 1 iD iE ["_law_script","_law_k"] (bI K 2 Bw)) {jS:Addr} {jT:FuncData} (jU:Def K mg "_law_own" BM ["_law_feed_here","_law_most"] jS jT) (lz:aE P w K mg base bE 4 jS jT ["_law_feed_here","_law_most"] (bI K 2 BL)) {jV:Addr} {jW:FuncData} (eJ:qH K mg "chart_of" Cn ["floor","most"] [V.int 60] jV jW) (lA:aE P w K mg base bE 8 jV jW ["floor","most"] (bI K 2 yU)) {bh:Addr} {bj:FuncData} (aR:Def K mg "_law_take" uN ["_law_feed_here","_law_many"] bh bj) (aX:aE P w K mg base bE 1 bh bj ["_law_feed_here","_law_many"] (bI K 2 nh)) {eE:Addr} {eG:FuncData} (eI:Def K mg "_law_makers" Cu ["_law_chart_here"] eE eG) (iG:aE P w K mg base bE 3 eE eG ["_law_chart_here"] (bI K 1 Ct)) {iH:Addr} {iI:FuncData} (iJ:Def K mg "makers_of" CI ["chart"] iH iI) (ko:aE P w K mg base bE 4 iH iI ["chart"] (bI K 1 CH)):aE P w K mg base bE 9 f fd ["_law_script"] (bI K 1 Hw):=by
 refine D.F.ok rq (fun _ _ _ _ h=>h.1) (fun c A o s H v Q E hr h=>?_)
 have hu:=hr.units
 refine ⟨_,(@aZ _ _ _ _ _ (@bW (i:=1) _ _ _ _ _ _ rq.nd rfl (by w_up) (@i9 _ _ _ _ av) (by rfl) (by w_up))
  (@aZ _ _ _ _ _ (@kC _ _ _ _ _ _ _ _ PassesOwn.never rfl (Mw rfl T.aQ (@aj _ _ _ _ _ aJ (@aj _ _ _ _ _ (jF (MB rfl) (by rfl) T.Bv vJ (@aj _ _ _ _ _ aJ (@aj _ _ _ _ _ (jF (MC rfl) (by rfl) T.rl FY (@aj _ _ _ _ _ aJ (@aj _ _ _ _ _ (jF kS (by rfl) T.bT kT (@aj _ _ _ _ _ (pv 0) av (by rfl))) av (by rfl)) (by rfl))) av (by rfl)) (by rfl))) av (by rfl)) (by rfl))) (cj (i:=2) rq.nd rfl (by w_up)) (@aZ _ _ _ _ _ (@bW (i:=3) _ _ _ _ _ _ rq.nd rfl (by w_up) (cO kn iF hr (by decide) rfl (@aj _ _ _ _ _ (pv 0) (@aj _ _ _ _ _ (pv 2) av (by rfl)) (by rfl))) (by rfl) (by w_up))
  (@aZ _ _ _ _ _ (@bW (i:=4) _ _ _ _ _ _ rq.nd rfl (by w_up) (@bp _ _ _ _ _ _ _ kR (@i9 _ _ _ _ (@aj _ _ _ _ _ aJ (@aj _ _ _ _ _ aJ av (by rfl)) (by rfl))) (cO aX aR hr (by decide) rfl (@aj _ _ _ _ _ (pv 3) (@aj _ _ _ _ _ aJ av (by rfl)) (by rfl))) (fun _ _=>rfl)) (by rfl) (by w_up))
  (@aZ _ _ _ _ _ (rE (cO lz jU hr (by decide) rfl (@aj _ _ _ _ _ (pv 3) (@aj _ _ _ _ _ (pv 4) av (by rfl)) (by rfl))) (ot (n:=2) rfl (gD (cj (i:=5) rq.nd rfl (by w_up)) (gD (cj (i:=6) rq.nd rfl (by w_up)) oo))))
  (@aZ _ _ _ _ _ (@bW (i:=7) _ _ _ _ _ _ rq.nd rfl (by w_up) (N5 lA (hr.mono (by decide)) rfl eJ.m eJ.F.kp eJ.bd ub (@aj _ _ _ _ _ (pv 5) av (by rfl))) (by rfl) (by w_up))
  (@aZ _ _ _ _ _ (@j4 _ _ _ _ _ _ _ _ (gh (Dk hu) (pv 7) (pv 6) (aL _)) (@a8 _ _ _ (@dN _ _ _ _ C4)) kP)
  (@a8 _ _ _ (nA (mv PySem.F.plainAttrs_list PySem.F.slot_list_append PySem.F.type_list_append nC (pv 1) (@aj _ _ _ _ _ (@dZ _ _ _ _ _ (@aj _ _ _ _ _ (pv 5) (@aj _ _ _ _ _ (pv 7) (@aj _ _ _ _ _ (cO iG eI hr (by decide) rfl (@aj _ _ _ _ _ (pv 6) av (by rfl))) av (by rfl)) (by rfl)) (by rfl))) av (by rfl)))))))))) (by intro _;rfl))
  (@aZ _ _ _ _ _ (@kC _ _ _ _ _ _ _ _ PassesOwn.never rfl (C7 (bM tV (pv 1) (FH IV (pv 1) FF (FG aJ)))) (ot (n:=3) rfl (gD (cj (i:=5) rq.nd rfl (by w_up)) (gD (cj (i:=6) rq.nd rfl (by w_up)) (gD (cj (i:=8) rq.nd rfl (by w_up)) oo)))) (@a8 _ _ _ (@j4 _ _ _ _ _ _ _ _ (gh Dc (jF (Jt hr) (by rfl) T.rm Ji (@aj _ _ _ _ _ (cO ko iJ hr (by decide) rfl (@aj _ _ _ _ _ (pv 6) av (by rfl))) av (by rfl))) (jF (Jt hr) (by rfl) T.rm Ji (@aj _ _ _ _ _ (pv 8) av (by rfl))) (aL _)) (@a8 _ _ _ (@dN _ _ _ _ C4)) kP)) (by intro _;rfl))
  (@a8 _ _ _ (@dN _ _ _ _ C4))))),?_⟩
 exact gn (b:=EW) (a5 (bK (jc ax) (aM 1))
  (a5 (kD (Pa (ao (aK _) (ao (bX O3 (ao (aK _) (ao (bX O4 (ao (aK _) (ao (bX kW (ao (ai 0) ax)) ax))) ax))) ax))) (aM 2) (a5 (bK (cL (F:=Bw) (ao (ai 0) (ao (ai 2) ax)) iX) (aM 3))
  (a5 (bK (aB iW (jc (ao (aK _) (ao (aK _) ax))) (cL (F:=nh) (ao (ai 3) (ao (aK _) ax)) iX)) (aM 4))
  (a5 (bK (cL (F:=BL) (ao (ai 3) (ao (ai 4) ax)) iX) (oE (gG (aM 5) (gG (aM 6) oD))))
  (a5 (bK (QT (m:=1) (F:=yU) (D0:=[.int 60]) (ao (ai 5) ax) lZ rfl (fun _ _=>.cons (.int _) (.nil))) (aM 7))
  (a5 (j6 (fD (aB (DN true) (ai 7) (ai 6))) (dO (DK _)) kX)
  (nM (lO nJ (ai 1) (ao (d5 (ao (ai 5) (ao (ai 7) (ao (cL (F:=Ct) (ao (ai 6) ax) lZ) ax)))) ax)))))))))
  (a5 (kD (DQ (aB uD (ai 1) (GX Kv (ai 1) GV (GW (aK _))))) (oE (gG (aM 5) (gG (aM 6) (gG (aM 8) oD)))) (j6 (fD (aB DM (bX KA (ao (cL (F:=CH) (ao (ai 6) ax) lZ) ax)) (bX KA (ao (ai 8) ax)))) (dO (DK _)) kX))
  (dO (DK _))))) rfl h
end
theorem xY {st:Store} {f:Nat} {n:Int} (hf:bO st f) (h0:0 < n) (h1:n < 1073741824):Wp (nh [.ref f,.int n] st) fun d st'=>∃ k:Int,d=.int k/\0<=k/\k < n/\bO st' f/\Ex [f] st st':=by
 obtain ⟨o,m,e,o0,m0,m1⟩:=hf
 have hfl:=cZ e
 refine fF ?_
 show Ws (D2 [some (.ref f),some (.int n),none,none] st) _ _ _ _
 unfold D2
 refine aV (i6 ?_)
 set_option simprocs false in simp only [bG,bF e,jg e]
 refine ⟨fun ho=>?_,fun ho=>?_⟩
 ·refine aV (bR ?_)
  set_option simprocs false in simp only [bG,bF e]
  refine ⟨h0,aV (qd ?_)⟩
  set_option simprocs false in simp only [bG,bF e,jg e,(show lF [D.int o,D.int m].length 0=some 0 from Bm)]
  refine ⟨⟨h0,h1⟩,dY ?_⟩
  w_how
  refine ⟨UP _ (by omega),UX _ h0,⟨o / n,m,?_,Int.ediv_nonneg o0 (by omega),m0,m1⟩,Ex.refl.put (by simp)⟩
  rw [TQ hfl]
 ·refine kE (aV (bR ?_))
  set_option simprocs false in simp only [bG,bF e]
  refine ⟨by omega,by omega,aV (qd ?_)⟩
  set_option simprocs false in simp only [bG,bF e,jg e,(show lF [D.int o,D.int m].length 1=some 1 from Bn)]
  refine ⟨by omega,by omega,dY ?_⟩
  have e2:(st.set f (.lst [.int o,.int ((m * 48271 % 2147483647 * 40692 + 30103) % 2147483399 + 1)]))[f]?=some (.lst [.int o,.int ((m * 48271 % 2147483647 * 40692 + 30103) % 2147483399 + 1)]):=TQ hfl
  set_option simprocs false in simp only [bG,bF e2]
  refine ⟨by omega,by omega,h0,UP _ (by omega),UX _ h0,⟨_,_,e2,o0,by omega,by omega⟩,Ex.refl.put (by simp)⟩
theorem RY {st:Store} {a:Nat} {ns:List Int} {k:Nat} (hs:items st a=some (ns.map D.int)) (hk:k<=100):Wp (Bw [.ref a,.int (k:Int)] st) fun d st'=>d=.ref st.length/\bO st' st.length/\Ex [] st st':=by
 refine fF ?_
 show Ws (D1 [some (.ref a),some (.int (k:Int)),none,none] st) _ _ _ _
 unfold D1
 refine aV (bR ?_)
 w_how
 refine ⟨by omega,aV (xf (N:=fun δ st1=>st1=st/\∃ c:Int,δ=[some (.ref a),some (.int (k:Int)),some (.int c),none]) (i6 ?_) ?_)⟩
 ·set_option simprocs false in simp only [bG,hs]
  refine ⟨fun h=>bR ?_,fun h=>i6 ?_⟩
  ·have h:=of_decide_eq_true h
   rw [TJ] at h
   set_option simprocs false in simp only [bG,hs]
   refine ⟨.int (ns[k]'(by omega)),yj (by rw [TR,TL];rfl),_,rfl⟩
  ·set_option simprocs false in simp only [bG,hs]
   refine ⟨fun h=>bR ?_,fun h=>kE ⟨rfl,_,rfl⟩⟩
   have h:=of_decide_eq_true h
   obtain ⟨v,hv,hm⟩:=vL (xs:=ns.map D.int) (i:=(k:Int) % ((ns.map D.int).length:Int)) (UP _ (by omega)) (UX _ h)
   obtain ⟨c,_,rfl⟩:=Ub.mp hm
   set_option simprocs false in simp only [bG,hs]
   refine ⟨h,_,hv,?_⟩
   w_how
   exact ⟨by omega,by omega,by omega,_,rfl⟩
 ·rintro δ st1 ⟨rfl,c,rfl⟩
  refine aV (bR ?_)
  w_how
  refine aV (xf (N:=fun δ st2=>st2=st1/\∃ o:Int,0<=o/\δ=[some (.ref a),some (.int (k:Int)),some (.int c),some (.int o)]) (i6 ?_) ?_)
  ·w_how
   refine ⟨by decide,fun h=>bR ?_,fun h=>kE ⟨rfl,0,by decide,rfl⟩⟩
   have h:=of_decide_eq_true h
   w_how
   exact ⟨c,Int.le_trans (by decide) h,rfl⟩
  ·rintro δ st2 ⟨rfl,o,o0,rfl⟩
   refine dY ?_
   w_how
   have h1:0<=c % 2147483629:=UP _ (by decide)
   have h2:c % 2147483629 < 2147483629:=UX _ (by decide)
   refine ⟨by omega,by omega,by omega,by omega,by omega,by rfl,⟨_,_,gH,o0,?_,?_⟩,Ex.b5 _⟩
   ·have:=UP ((c % 2147483629 * 48271 + 40692 * (k:Int)) ^ (5:Int).toNat) (show (2147483629:Int)≠0 by decide)
    omega
   ·have:=UX ((c % 2147483629 * 48271 + 40692 * (k:Int)) ^ (5:Int).toNat) (show (0:Int) < 2147483629 by decide)
    omega
theorem Lv {st:Store} {f:Nat} {n:Nat} (hf:bO st f) (hn:n<=100):Wp (xQ [.ref f,.int (n:Int)] st) fun d st'=>∃ xs:List Int,d=.tup (xs.map D.int)/\af.Tn n xs/\bO st' f/\Ex [f] st st':=by
 have hfl:=hf.lt
 refine fF ?_
 show Ws (D3 [some (.ref f),some (.int (n:Int)),none,none] st) _ _ _ _
 unfold D3
 refine aV (bR ?_)
 w_how
 have e1:((n:Int) - 0).toNat=n:=by omega
 rw [e1,p5]
 refine ⟨by unfold p3;rw [Ua,decide_eq_true_eq];exact ⟨by omega,gI (by omega)⟩,aV (bR ?_)⟩
 w_how
 refine ⟨rfl,aV (xg (fun m δ st2=>∃ L xs:List Int,m=L.length/\δ=[some (.ref f),some (.int (n:Int)),some (.ref (st ++ [O.iY 0 (n:Int)]).length),some (.tup (xs.map D.int))]/\st2[(st ++ [O.iY 0 (n:Int)]).length]?=some (.lst (L.map D.int))/\(xs ++ L).Perm (af.upto n)/\bO st2 f/\Ex [f] st st2) n (UG hn (by decide)) ⟨af.upto n,[],(af.oz n).symm,rfl,gH,Vo _,hf.keep ((Ex.b5 _).app _),(Ex.b5 _).app _⟩ ?_)⟩
 have hl:(st ++ [O.iY 0 (n:Int)]).length≠f:=by rw [TN];omega
 have hls:st.length<=(st ++ [O.iY 0 (n:Int)]).length:=by rw [TN];omega
 generalize (st ++ [O.iY 0 (n:Int)]).length=l at hl hls ⊢
 rintro m δ st2 ⟨L,xs,rfl,rfl,hL,pm,hf2,k2⟩
 have hlen:(xs ++ L).length=n:=by rw [pm.length_eq,af.oz]
 rw [TN] at hlen
 refine b7 ?_
 intro dQ hQ
 set_option simprocs false in simp only [bG,KZ (L:=L) (M:=[]) (st:=st2 ++ [O.lst []]) (bF (jI hL)) rQ]
 refine ⟨rfl,hQ _ _ ⟨fun h=>?_,fun h=>?_⟩⟩
 ·have hne:L≠[]:=by simpa using h
  have hpos:0 < L.length:=List.length_pos_iff.mpr hne
  have EY:(st2 ++ [O.lst []])[l]?=some (.lst (L.map D.int)):=jI hL
  have f3:bO (st2 ++ [O.lst []]) f:=hf2.keep (Ex.b5 _)
  have k3:Ex [f] st (st2 ++ [O.lst []]):=k2.app _
  generalize (st2 ++ [O.lst []])=st3 at EY f3 k3 ⊢
  refine bR ?_
  refine b7 ?_
  intro dQ hQ
  set_option simprocs false in simp only [bG,bF EY]
  refine ⟨lP (by rw [bF EY];rfl),?_⟩
  refine bw (xY (n:=((L.map D.int).length:Int)) f3 (by rw [TJ];omega) (by rw [TJ];omega)) ?_
  rintro d mN ⟨k,rfl,k0,k1,f4,k4⟩
  rw [TJ] at k1
  have Lw:=k4.keep _ _ EY (by simpa using hl)
  have nF:k.toNat < L.length:=by omega
  set_option simprocs false in simp only [bG,jg Lw]
  have hk':((k.toNat:Nat):Int)=k:=Um k0
  refine ⟨by omega,k.toNat,?_,D.int L[k.toNat],by rw [TR,TL nF];rfl,rfl,gI ?_,hQ _ _ ⟨(L.eraseIdx k.toNat).length,?_,L.eraseIdx k.toNat,xs ++ [L[k.toNat]],rfl,?_,?_,?_,?_,?_⟩⟩
  ·rw [<- hk',T3]
   exact (FJ (yo (by rw [TJ];exact nF))).1
  ·simp only [TJ,Uo,List.length_nil];omega
  ·rw [List.length_eraseIdx,if_pos nF];omega
  ·rw [T6];rfl
  ·rw [TQ (cZ Lw),Qm]
  ·refine List.Perm.trans ?_ pm
   rw [Vi]
   exact List.Perm.append_left xs (Qn nF)
  ·exact f4.ne hl
  ·exact (k3.trans k4).loc hls
 ·have he:L=[]:=by simpa using h
  subst he
  refine dY ?_
  kspl_open hQ
  exact hQ _ _ ⟨xs,rfl,by simpa [af.Tn] using pm,hf2.keep (Ex.b5 _),k2.app _⟩
theorem RZ {st:Store} {xs ys:List Int} {n:Nat} (tx:af.Tn n xs) (ty:af.Tn n ys) (n0:0 < n) (hn:n<=100):Wp (sY [b6 xs ys] st) fun d st'=>∃ (g:Nat) (F:List Int),d=.ref g/\items st' g=some (F.map D.int)/\(∀ x,x∈F↔af.i5 xs ys x)/\F.length<=n/\af.Od xs ys F/\Ex [] st st':=by
 have hlx:=tx.length
 have y2:=ty.length
 refine fF ?_
 show Ws (D5 [some (b6 xs ys),none,none,none,none] st) _ _ _ _
 unfold D5
 refine aV (bR ?_)
 kspl_open hQ
 refine ⟨rfl,hQ _ _ (aV (kL (aD 0 (n + 1)) (fun i δ st2=>∃ (v2 v3 v4:Option D) (F:List Int),δ=[some (b6 xs ys),some (.ref st.length),v2,v3,v4]/\st2[st.length]?=some (.lst (F.map D.int))/\af.Fo xs ys F/\(af.Cl xs ys F\/i + 1<=F.length)/\Ex [] st st2) ?_ ?_ ?_ ?_))⟩
 ·unfold b6
  kspl_open hQ
  have e0:((1:Int) + ((xs.map D.int).length:Int)).toNat=n + 1:=by rw [TJ];omega
  refine ⟨by rw [TJ];omega,hQ _ _ ⟨by rw [e0],none,none,none,[0],rfl,gH,af.Fo.one xs ys,.inr (TM _),Ex.b5 _⟩⟩
 ·rw [fE];omega
 ·rintro i d δ st2 hd ⟨v2,v3,v4,F,rfl,y3,hF,hcl,k2⟩
  kspl_open hQ
  refine hQ _ _ (kL [.tup (xs.map D.int),.tup (ys.map D.int)] (fun m δ st3=>∃ (v3 v4:Option D) (G:List Int),δ=[some (b6 xs ys),some (.ref st.length),some d,v3,v4]/\st3[st.length]?=some (.lst (G.map D.int))/\af.Fo xs ys G /\
    (m=0->G=F)/\(m=1->F <+: G/\∀ x∈F,af.app xs x∈G)/\(2<=m->∃ F1,F <+: F1/\F1 <+: G/\(∀ x∈F,af.app xs x∈F1)/\∀ x∈F1,af.app ys x∈G)/\Ex [] st st3) ?_ (by simp) ?_ ?_)
  ·unfold b6
   kspl_open hQ
   exact hQ _ _ ⟨rfl,v3,v4,F,rfl,y3,hF,fun _=>rfl,fun z=>by omega,fun z=>by omega,k2⟩
  ·rintro m z δ st3 hm ⟨v3,v4,G,rfl,xZ,hG,m0,m1,_,k3⟩
   have hm2:m < 2:=cZ hm
   obtain ⟨zs,rfl,hz,em⟩:∃ (zs:List Int),z=.tup (zs.map D.int)/\(zs=xs\/zs=ys)/\((m=0/\zs=xs)\/(m=1/\zs=ys)):=by
    rcases (show m=0\/m=1 by omega) with rfl | rfl
    ·exact ⟨xs,by simpa using hm.symm,.inl rfl,.inl ⟨rfl,rfl⟩⟩
    ·exact ⟨ys,by simpa using hm.symm,.inr rfl,.inr ⟨rfl,rfl⟩⟩
   have tz:af.Tn n zs:=by rcases hz with rfl | rfl;exact tx;exact ty
   have Lx:=tz.length
   have go:∀ x,af.i5 xs ys x->af.i5 xs ys (af.app zs x):=fun x h=>by rcases hz with rfl | rfl;exact h.r;exact h.u
   kspl_open hQ
   refine hQ _ _ (G7 (G.map D.int) st3.length (fun j δ mN=>∃ (v4:Option D) (G':List Int),δ=[some (b6 xs ys),some (.ref st.length),some d,some (.tup (zs.map D.int)),v4]/\mN[st.length]?=some (.lst (G'.map D.int))/\mN[st3.length]?=some (.lst (G.map D.int))/\af.Fo xs ys G'/\G <+: G'/\(∀ i',i' < j->∀ x,G[i']?=some x->af.app zs x∈G')/\Ex [] st mN) ?_ ?_ ?_ ?_ ?_)
   ·refine b7 ?_
    intro dQ hQ
    set_option simprocs false in simp only [bG,bF xZ]
    exact hQ _ _ ⟨rfl,v4,G,rfl,jI xZ,gH,hG,Vs _,fun i' h=>absurd h (UE _),k3.app _⟩
   ·rw [TJ]
    have:=hG.len tx ty n0
    omega
   ·rintro j δ mN ⟨_,_,_,_,h,_⟩
    exact bF h
   ·rintro j Tr δ mN hj0 ⟨v4,G',rfl,tf,y4,x3,pG,hd',k4⟩
    obtain ⟨y,hj,rfl⟩:=Bo hj0
    have hjl:=cZ hj
    have hR:=hG.mt _ (T2 hj)
    obtain ⟨y0,y1⟩:=hR.bound tx ty n0
    have at':=p6 (xs:=zs) y0 (by rw [Lx];exact y1)
    have hnext:∀ EZ:List Int,G' <+: EZ->af.app zs y∈EZ->∀ i',i' < j + 1->∀ x,G[i']?=some x->af.app zs x∈EZ:=fun EZ p h i' hi' x hx=>by
     by_cases e:i'=j
     ·subst e
      rw [hj] at hx
      cases hx;exact h
     ·exact p.subset (hd' i' (by omega) x hx)
    kspl_open hQ
    refine hQ _ _ (i6 ?_)
    refine b7 ?_
    intro gw bU
    set_option simprocs false in simp only [bG,at',DS (st:=mN) (c:=.ref st.length) (ns:=G') (bF tf)]
    refine bU _ _ ⟨fun hcn=>?_,fun hcn=>?_⟩
    ·have hnm:af.app zs y ∉ G':=fun z=>by rw [UY.mpr z] at hcn;cases hcn
     have Ly:af.Fo xs ys (G' ++ [af.app zs y]):=by
      refine ⟨⟨U8 _ x3.z,?_,fun x hx=>?_⟩,x3.od.snoc (pG.subset (T2 hj)) (hz.imp (fun e=>by rw [e]) fun e=>by rw [e])⟩
      ·rw [Vy]
       refine ⟨x3.nd,by simp,fun x hx y' hy e=>hnm ?_⟩
       have e2:y'=af.app zs y:=by simpa using hy
       rw [<- e2,<- e];exact hx
      ·rcases Uk.mp hx with h | h
       ·exact x3.mt x h
       ·have e2:x=af.app zs y:=by simpa using h
        rw [e2];exact go _ hR
     have hlen2:=Ly.len tx ty n0
     rw [TN] at hlen2
     refine nP ?_
     refine b7 ?_
     intro CK rA
     set_option simprocs false in simp only [bG,at',jg tf]
     refine ⟨lP (by rw [bF tf];rfl),gI (by rw [TJ];simp at hlen2;omega),rA _ _ ⟨_,G' ++ [af.app zs y],rfl,?_,?_,Ly,pG.trans (VP _ _),hnext _ (VP _ _) (by simp),k4.loc (TM _)⟩⟩
     ·rw [TQ (cZ tf),T6];rfl
     ·rw [TV (by have:=cZ xZ;omega)];exact y4
    ·have hcn:G'.contains (af.app zs y)=true:=by simpa using hcn
     exact kE ⟨_,G',rfl,tf,y4,x3,pG,hnext G' (Vs _) (UY.mp hcn),k4⟩
   ·rintro δ mN ⟨v4,G',rfl,tf,y4,x3,pG,hd',k4⟩
    rw [TJ] at hd'
    have hall:∀ x∈G,af.app zs x∈G':=fun x hx=>by
     obtain ⟨i',hi',e⟩:=U1 hx
     exact hd' i' hi' x (by rw [TL hi',e])
    refine ⟨_,_,G',rfl,tf,x3,fun z=>by omega,fun z=>?_,fun z=>?_,k4⟩
    ·rcases em with ⟨rfl,rfl⟩ | ⟨rfl,_⟩
     ·have:=m0 rfl
      subst this
      exact ⟨pG,hall⟩
     ·omega
    ·rcases em with ⟨rfl,_⟩ | ⟨rfl,rfl⟩
     ·omega
     ·obtain ⟨p1,c1⟩:=m1 rfl
      exact ⟨G,p1,pG,c1,hall⟩
  ·rintro δ st3 ⟨v3,v4,G,rfl,xZ,hG,_,_,m2,k3⟩
   obtain ⟨F1,p1,p2,c1,c2⟩:=m2 (TM 2)
   exact ⟨_,_,_,G,rfl,xZ,hG,af.round hF.toFd hG.toFd p1 p2 c1 c2 hcl,k3⟩
 ·rintro δ st2 ⟨v2,v3,v4,F,rfl,y3,hF,hcl,k2⟩
  rw [fE] at hcl
  have hl:=hF.len tx ty n0
  have hc:af.Cl xs ys F:=hcl.resolve_right (by omega)
  refine dY ?_
  kspl_open hQ
  exact hQ _ _ ⟨_,F,rfl,bF y3,fun x=>⟨hF.mt x,fun h=>hc.all hF.z h⟩,hl,hF.od,k2⟩
theorem R0 {st:Store} {xs ys:List Int} {n:Nat} (tx:af.Tn n xs) (ty:af.Tn n ys) (n0:0 < n) (hn:n<=100):Wp (sY [b6 xs ys] st) fun d st'=>∃ (g:Nat) (F:List Int),d=.ref g/\items st' g=some (F.map D.int)/\(∀ x,x∈F↔af.i5 xs ys x)/\F.length<=n/\Ex [] st st' :=
 bw (RZ tx ty n0 hn) fun d st' ⟨g,F,h1,h2,h3,h4,_,h5⟩=>⟨g,F,h1,h2,h3,h4,h5⟩
theorem Lz {st:Store} {δ:aq} {X Y:List Int} {n:Nat} {Q:D->Store->Prop} (tX:af.Tn n X) (tY:af.Tn n Y) (n0:0 < n) (hn:n<=100) (h1:δ[1]?=some (some (.int (n:Int)))) (h6:δ[6]?=some (some (b6 X Y)))
  (q:∀ (L:List Int) (st':Store),L.length<=n->L.Nodup->(∀ x,x∈L↔(0<=x/\x < (n:Int)/\¬ af.i5 X Y x))->Ex [] st st'->Q (.ref st'.length) (st' ++ [.lst (L.map D.int)])) :
  Wp (cQ (bY (ae (ag 1) ah)) 1 [6] (hName 0) (aH (ay (qc true) (ag 0) (aN sY (ae (ag 1) ah)))) (ag 0) δ st) Q:=by
 have R1:δ.getD 6 none=some (b6 X Y):=by rw [T9,h6];rfl
 refine G8 (aD 0 n) (fun j zs δ' kY=>∃ (v:Option D) (L:List Int),δ'=[v,some (b6 X Y)]/\zs=L.map D.int/\L.length<=j/\L.Nodup/\(∀ x,x∈L↔(0<=x/\x < (j:Int)/\¬ af.i5 X Y x))/\Ex [] st kY) ?_ (by rw [fE];omega) ?_ ?_ ?_
 ·refine b7 ?_
  intro dQ hQ
  set_option simprocs false in simp only [bG,h1]
  refine ⟨by omega,hQ _ _ ⟨fun i ys δ st hi _=>?_,none,[],?_,rfl,TM _,List.nodup_nil,fun x=>⟨(fun h=>nomatch h),fun h=>by omega⟩,Ex.refl⟩⟩
  ·rw [T3]
   show (if i<=(aD 0 n).length then some (aD 0 n)[i]? else none)=_
   rw [if_pos hi]
  ·unfold oH
   simp only [Ui,UB,R1]
   rfl
 ·rintro j zs δ' kY ⟨v,L,_,rfl,hl,_⟩
  rw [TJ];exact hl
 ·rintro j d zs δ' kY hd ⟨v,L,rfl,rfl,mL,nd,hL,k8⟩
  have hjl:=cZ hd
  rw [fE] at hjl
  rw [wC hjl] at hd
  cases hd
  rw [U4]
  kspl_open hQ
  refine hQ _ _ ?_
  kspl_open bU
  refine bw (R0 (st:=kY) tX tY n0 hn) ?_
  rintro d oS ⟨g,F,rfl,hg,hF,Ts,k9⟩
  rw [DS (c:=.ref g) (ns:=F) hg]
  refine ⟨_,rfl,bU _ _ ⟨fun hc=>?_,fun hc=>?_⟩⟩
  ·have hR:¬ af.i5 X Y (j:Int):=fun h=>by rw [UY.mpr ((hF _).mpr h)] at hc;cases hc
   kspl_open rA
   refine rA _ _ ⟨_,L ++ [(j:Int)],rfl,by rw [T6];rfl,by rw [TN];simp;omega,?_,fun x=>?_,k8.trans k9⟩
   ·rw [Vy]
    refine ⟨nd,by simp,fun x hx y hy e=>?_⟩
    have e2:y=(j:Int):=by simpa using hy
    have:=((hL x).mp hx).2.1
    omega
   ·rw [Uk,hL x]
    constructor
    ·rintro (⟨a1,a2,a3⟩ | h)
     ·exact ⟨a1,by omega,a3⟩
     ·have e2:x=(j:Int):=by simpa using h
      rw [e2];exact ⟨by omega,by omega,hR⟩
    ·rintro ⟨a1,a2,a3⟩
     rcases Int.lt_or_le x (j:Int) with h | h
     ·exact .inl ⟨a1,h,a3⟩
     ·exact .inr (by simp;omega)
  ·have hc:F.contains (j:Int)=true:=by simpa using hc
   have hR:=(hF _).mp (UY.mp hc)
   refine ⟨_,L,rfl,rfl,by omega,nd,fun x=>?_,k8.trans k9⟩
   rw [hL x]
   constructor
   ·rintro ⟨a1,a2,a3⟩;exact ⟨a1,by omega,a3⟩
   ·rintro ⟨a1,a2,a3⟩
    refine ⟨a1,?_,a3⟩
    rcases Int.lt_or_le x (j:Int) with h | h
    ·exact h
    ·exact absurd hR (by rw [show (j:Int)=x by omega];exact a3)
 ·rintro zs δ' kY ⟨v,L,rfl,rfl,mL,nd,hL,k8⟩
  rw [fE] at mL hL
  exact q L kY mL nd hL k8
theorem LA {st:Store} {f n:Nat} (hf:bO st f) (n1:1<=n) (R3:n<=20):Wp (xR [.ref f,.int (n:Int)] st) fun d st'=>∃ xs ys:List Int,d=b6 xs ys/\mQ n xs ys/\bO st' f/\Ex [f] st st':=by
 have hfl:=hf.lt
 refine fF ?_
 show Ws (D6 [some (.ref f),some (.int (n:Int)),none,none,none,none,none,none,none] st) _ _ _ _
 unfold D6
 refine aV (bR ?_)
 kspl_open hQ
 refine bw (xY (n:=6) hf (by decide) (by decide)) ?_
 rintro d st1 ⟨form,rfl,g0,g6,f1,k1⟩
 refine hQ _ _ (aV (KN ?_))
 clear hQ
 kspl_open hQ
 refine bw (Lv (n:=n) f1 (by omega)) ?_
 rintro d st2 ⟨X,rfl,tX,f2,k2⟩
 w_how
 refine bw (Lv (n:=n) (f2.keep (Ex.b5 [.lst (X.map D.int)])) (by omega)) ?_
 rintro d st3 ⟨Y,rfl,tY,f3,k3⟩
 w_how
 refine hQ _ _ ⟨_,_,rfl,?_⟩
 clear hQ
 have oK:st3[st2.length]?=some (.lst (X.map D.int)):=k3.keep _ _ gH (by have:=f2.lt;simp;omega)
 have two:nR st (st3 ++ [.lst (Y.map D.int)]) f st2.length st3.length n X Y:=⟨jI oK,gH,by have:=cZ oK;omega,(k1.trans k2).len,((k1.trans k2).trans ((Ex.b5 _).trans k3)).len,tX,tY,f3.keep (Ex.b5 _),(((k1.trans k2).app _).trans k3).app _⟩
 show Ws _ _ _ _ _
 generalize (st3 ++ [O.lst (Y.map D.int)])=mN at two ⊢
 generalize st2.length=r at two ⊢
 generalize st3.length=u at two ⊢
 clear oK tX tY f3 k3 f2 k2 f1 k1
 refine aV (xf (N:=fun δ mU=>∃ (r u:Nat) (X Y:List Int),δ=[some (.ref f),some (.int (n:Int)),some (.int form),some (.ref r),some (.ref u),none,none,none,none]/\nR st mU f r u n X Y) (i6 ?_) ?_)
 ·kspl_open hQ
  refine hQ _ _ ⟨fun _=>bR ?_,fun _=>kE ⟨r,u,X,Y,rfl,two⟩⟩
  kspl_open bU
  rw [<- K1]
  refine ⟨sS (by omega),rfl,gI (by rw [fE];simp;omega),bU _ _ ⟨_,u,_,Y,rfl,(two.keep (((Ex.b5 _).app _).app _)).xy (af.JY (show n < 21 by omega) (by omega))⟩⟩
 rintro δ mU ⟨r,u,X,Y,rfl,two⟩
 refine aV (xf (N:=fun δ mU=>∃ (r u:Nat) (X Y:List Int),δ=[some (.ref f),some (.int (n:Int)),some (.int form),some (.ref r),some (.ref u),none,none,none,none]/\nR st mU f r u n X Y) (i6 ?_) ?_)
 ·kspl_open hQ
  refine hQ _ _ ⟨fun _=>KN ?_,fun _=>kE ⟨r,u,X,Y,rfl,two⟩⟩
  kspl_open bU
  rw [<- K1,show ((n:Int) - 0).toNat=n by omega,p5]
  refine ⟨sS (by omega),sS (by omega),rfl,gI (by rw [fE];simp;omega),bU _ _ ⟨_,_,rfl,_,_,_,_,rfl,(((two.keep (Ex.b5 [.iY 0 (n:Int)])).xy (Z:=af.upto n) (Vo _)).keep (((Ex.b5 _).app _).app _)).xA (af.JY (show n < 21 by omega) (by omega))⟩⟩
 rintro δ G5 ⟨r,u,X,Y,rfl,two⟩
 refine aV (xf (N:=fun δ mU=>∃ (r u:Nat) (v5:Option D) (X Y:List Int),δ=[some (.ref f),some (.int (n:Int)),some (.int form),some (.ref r),some (.ref u),v5,none,none,none]/\nR st mU f r u n X Y) (i6 ?_) ?_)
 ·kspl_open hQ
  refine hQ _ _ ⟨fun _=>aV (bR ?_),fun _=>kE ⟨r,u,none,X,Y,rfl,two⟩⟩
  kspl_open bU
  refine bw (xY (n:=(n:Int)) two.fd (by omega) (by omega)) ?_
  rintro d pW ⟨w,rfl,w0,w1,f7,k7⟩
  obtain ⟨wd,rfl⟩:∃ wd:Nat,w=(wd:Int) - 1:=⟨(w + 1).toNat,by omega⟩
  have t7:nR st pW f r u n X Y:=⟨k7.keep _ _ two.hr (by have:=two.r0;simp;omega),k7.keep _ _ two.hu (by have:=two.u0;simp;omega),two.ne,two.r0,two.u0,two.tX,two.tY,f7,two.ex.trans k7⟩
  w_how
  rw [show (1:Int) + ((wd:Int) - 1)=(wd:Int) by omega]
  refine bU _ _ (aV (bR ?_))
  clear bU hQ
  kspl_open bU
  rw [<- xB]
  refine ⟨sS (by omega),rfl,gI (by rw [fE];simp;omega),sS (by omega),gI (by rw [TN,fE,fE];simp;omega),bU _ _ (aV (bR ?_))⟩
  clear bU
  have t8:=(t7.keep ((((((Ex.b5 [.iY 1 (wd:Int)]).app [.lst (aD 1 ((wd:Int) - 1).toNat)]).app [.lst [.int 0]]).app [.lst (aD 1 ((wd:Int) - 1).toNat ++ [.int 0])]).app [.iY (wd:Int) (n:Int)]).app [.lst (aD (wd:Int) ((n:Int) - (wd:Int)).toNat)])).xy (af.Oq (w:=wd) (show n < 21 by omega) (by omega) (by omega))
  generalize R4:(pW ++ _ ++ _ ++ _ ++ _ ++ _ ++ _ ++ _:Store)=kY at t8 ⊢
  generalize List.length _=r8 at t8 ⊢
  kspl_open bU
  refine ⟨rfl,sS (by omega),gI (by simp [fE];omega),sS (by omega),gI (by simp [fE];omega),rfl,gI (by simp [fE];omega),bU _ _ (i6 ?_)⟩
  clear bU
  generalize R5:(kY ++ _ ++ _ ++ _ ++ _ ++ _ ++ _ ++ _ ++ _ ++ _:Store)=E1
  have tE:nR st E1 f r8 u n (af.qJ wd n) Y:=by rw [<- R5];exact t8.keep (((((((((Ex.b5 _).app _).app _).app _).app _).app _).app _).app _).app _)
  kspl_open hQ
  refine hQ _ _ ⟨fun hw=>?_,fun hw=>?_⟩
  ·refine bR ?_
   kspl_open bU
   rw [show ((n:Int) - 0).toNat=n by omega,p5]
   exact ⟨sS (by omega),bU _ _ ⟨r8,_,_,_,_,rfl,(tE.keep ((Ex.b5 _).app _)).xA (Vo _)⟩⟩
  ·have hne:wd≠n:=fun z=>by simp [z] at hw
   have tF:=tE.xA (af.Ot (w:=wd) (show n < 21 by omega) (by omega) (by omega))
   rw [xC (by omega) (by omega)] at tF
   exact kE ⟨r8,_,_,_,_,rfl,tF⟩
 rintro δ pW ⟨r,u,v5,X,Y,rfl,two⟩
 have n0:0 < n:=by omega
 refine aV (bR ?_)
 refine b7 ?_
 intro dQ hQ
 set_option simprocs false in simp only [bG,bF two.hr,bF two.hu]
 refine ⟨rfl,hQ _ _ (aV (bR (Lz (X:=X) (Y:=Y) two.tX two.tY n0 (by omega) rfl rfl ?_)))⟩
 clear hQ
 intro L kY mL nd hL k8
 have t8:=(two.keep k8).keep (Ex.b5 [.lst (L.map D.int)])
 refine aV (xg (fun mm δ oS=>∃ (pa:Nat) (X L:List Int) (v8:Option D),mm=L.length/\δ=[some (.ref f),some (.int (n:Int)),some (.int form),some (.ref r),some (.ref u),v5,some (b6 X Y),some (.ref pa),v8]/\nR st oS f r u n X Y/\items oS pa=some (L.map D.int)/\L.length<=n/\L.Nodup/\(∀ x,x∈L↔(0<=x/\x < (n:Int)/\¬ af.i5 X Y x))) L.length (UG mL (UG R3 (by decide))) ⟨_,X,L,none,rfl,rfl,t8,rQ,mL,nd,hL⟩ ?_)
 rintro mm δ oS ⟨pa,X,L,v8,rfl,rfl,two,hpa,mL,nd,hL⟩
 have Tt:=two.tX.length
 have x4:items (oS ++ [O.lst []]) pa=some (L.map D.int):=by
  unfold items at hpa ⊢
  cases e:oS[pa]? with
  | none=>rw [e] at hpa;cases hpa
  | some o=>rw [jI e];rw [e] at hpa;exact hpa
 refine b7 ?_
 intro dQ hQ
 set_option simprocs false in simp only [bG,KZ (L:=L) (M:=[]) (st:=oS ++ [O.lst []]) x4 rQ]
 refine ⟨rfl,hQ _ _ ⟨fun h=>?_,fun h=>?_⟩⟩
 ·have hne:L≠[]:=by simpa using h
  clear hQ
  obtain ⟨m,L1,rfl⟩:∃ m L1,L=m :: L1:=by cases L with | nil=>exact absurd rfl hne | cons m L1=>exact ⟨m,L1,rfl⟩
  obtain ⟨m0,m1,mR⟩:=(hL m).mp TU
  have t2:=two.keep (Ex.b5 [O.lst []])
  generalize (oS ++ [O.lst []])=E1 at x4 t2 ⊢
  refine aV (bR ?_)
  refine b7 ?_
  intro dQ hQ
  set_option simprocs false in simp only [bG,x4,Ui]
  refine hQ _ _ (aV (qd ?_))
  clear hQ
  refine b7 ?_
  intro dQ hQ
  set_option simprocs false in simp only [bG,bF t2.hr,p6 (xs:=X) m0 (by omega),p6 (xs:=X) (i:=0) (by decide) (by omega)]
  refine ⟨rfl,hQ _ _ ?_⟩
  clear hQ
  have i0:lF (X.map D.int).length 0=some 0:=yo (j:=0) (by rw [TJ];omega)
  have im:lF ((X.map D.int).set 0 (.int (af.app X m))).length m=some m.toNat:=by
   rw [UD]
   have:=yo (n:=(X.map D.int).length) (j:=m.toNat) (by rw [TJ];omega)
   rwa [Um m0] at this
  have oK:(E1.set r (.lst ((X.map D.int).set 0 (.int (af.app X m)))))[r]?=some (.lst ((X.map D.int).set 0 (.int (af.app X m)))):=TQ (cZ t2.hr)
  have eS:((X.map D.int).set 0 (.int (af.app X m))).set m.toNat (.int (af.app X 0))=(af.mP X m.toNat).map D.int:=by
   unfold af.mP
   rw [Um m0,V0,V0]
  refine b7 ?_
  intro dQ hQ
  set_option simprocs false in simp only [bG,jg t2.hr,jg oK,i0,im,eS]
  refine ⟨rfl,hQ _ _ (aV (bR ?_))⟩
  clear hQ
  have tS:=af.vT t2.tX (m:=m.toNat) (by omega)
  have hmet:=af.Oi t2.tX t2.tY (m:=m.toNat) (by omega) (by rw [Um m0];exact mR)
  rw [Um m0] at hmet
  rw [List.set_set]
  have t3:=t2.put (Z:=af.mP X m.toNat) tS hfl
  generalize E1.set r _=st3 at t3 ⊢
  refine b7 ?_
  intro dQ hQ
  set_option simprocs false in simp only [bG,bF t3.hr,bF t3.hu]
  refine ⟨rfl,hQ _ _ (bR (Lz (X:=af.mP X m.toNat) (Y:=Y) t3.tX t3.tY n0 (by omega) rfl rfl ?_))⟩
  intro L' mN Hx LB hL' k4
  refine ⟨_,?_,mN.length,af.mP X m.toNat,L',_,rfl,rfl,(t3.keep k4).keep (Ex.b5 _),rQ,Hx,LB,hL'⟩
  refine af.less (m:=m) LB (fun x hx=>?_) TU (fun h=>((hL' m).mp h).2.2 hmet.1)
  obtain ⟨a1,a2,a3⟩:=(hL' x).mp hx
  exact (hL x).mpr ⟨a1,a2,fun h=>a3 (hmet.2 x h)⟩
 ·have he:L=[]:=by simpa using h
  subst he
  refine dY ?_
  kspl_open bU
  have t2:=two.keep (Ex.b5 [O.lst []])
  refine bU _ _ ⟨X,Y,rfl,⟨t2.tX,t2.tY,fun x x0 x1=>?_⟩,t2.fd,t2.ex⟩
  exact Classical.byContradiction fun h=>nomatch (hL x).mpr ⟨x0,x1,h⟩
theorem Hy {st:Store} {xs:List Int} {n:Nat} (tn:af.Tn n xs) (hn:n<=100):Wp (rn [.tup (xs.map D.int)] st) fun d st'=>d=.tup ((af.inv xs).map D.int)/\Ex [] st st':=by
 have hlen:=tn.length
 refine fF ?_
 show Ws (Ef [some (.tup (xs.map D.int)),none,none,none] st) _ _ _ _
 unfold Ef
 refine aV (bR ?_)
 kspl_open hQ
 have e0:(((xs.map D.int).length:Int)).toNat=n:=by rw [TJ];omega
 have ez:(List.replicate n [D.int 0]).flatten=(List.replicate n (0:Int)).map D.int:=by
  induction n with
  | zero=>rfl
  | succ n ih=>simp [UC]
 rw [e0,ez]
 refine ⟨rfl,by rw [TJ];omega,gI (by simp;omega),hQ _ _ (aV (kL (gR (xs.map D.int)) (fun k δ st2=>∃ (v2 v3:Option D) (bs:List Int),δ=[some (.tup (xs.map D.int)),some (.ref (st ++ [O.lst [D.int 0]]).length),v2,v3]/\st2[(st ++ [O.lst [D.int 0]]).length]?=some (.lst (bs.map D.int))/\bs.length=n/\(∀ j,j < k->∀ x,xs[j]?=some x->bs[x.toNat]?=some (j:Int))/\Ex [] st st2) ?_ ?_ ?_ ?_))⟩
 ·kspl_open hQ
  exact hQ _ _ ⟨rfl,none,none,_,rfl,gH,by simp,fun j hj=>absurd hj (UE _),(Ex.b5 _).app _⟩
 ·rw [A0,TJ];omega
 ·have CL:st.length<=(st ++ [O.lst [D.int 0]]).length:=by simp
  generalize (st ++ [O.lst [D.int 0]]).length=B at CL ⊢
  rintro k d δ st2 hd ⟨v2,v3,bs,rfl,hB,tj,tm,k2⟩
  obtain ⟨d',hd',rfl⟩:=G3 hd
  obtain ⟨x,hx,rfl⟩:=Bo hd'
  obtain ⟨x0,x1⟩:=tn.bound (T2 hx)
  have nF:=cZ hx
  kspl_open hQ
  refine ⟨rfl,hQ _ _ (qd ?_)⟩
  have hix:lF (bs.map D.int).length x=some x.toNat:=by
   have:=yo (n:=(bs.map D.int).length) (j:=x.toNat) (by rw [TJ];omega)
   rwa [Um x0] at this
  have es:(bs.map D.int).set x.toNat (.int (k:Int))=(bs.set x.toNat (k:Int)).map D.int:=by rw [V0]
  kspl_open bU
  refine bU _ _ ?_
  refine b7 ?_
  intro CK rA
  set_option simprocs false in simp only [bG,jg hB,hix,es]
  refine rA _ _ ⟨_,_,bs.set x.toNat (k:Int),rfl,TQ (cZ hB),by rw [UD];exact tj,fun j hj y hy=>?_,k2.loc CL⟩
  by_cases hjk:j=k
  ·subst hjk
   rw [hx] at hy
   cases hy
   rw [TQ (by rw [tj];omega)]
  ·obtain ⟨y0,y1⟩:=tn.bound (T2 hy)
   rw [TV (fun z=>?_)]
   ·exact tm j (by omega) y hy
   ·obtain ⟨h1,e1⟩:=TK.mp hx
    obtain ⟨h2,e2⟩:=TK.mp hy
    exact hjk ((VU tn.nodup).mp (show xs[j]=xs[k] by omega))
 ·rintro δ st2 ⟨v2,v3,bs,rfl,hB,tj,tm,k2⟩
  rw [A0,TJ] at tm
  have eb:bs=af.inv xs:=by
   apply List.ext_getElem?
   intro i
   by_cases hi:i < n
   ·have hm:=tn.mem (i:=(i:Int)) (by omega) (by omega)
    have hil:=Vp hm
    have:=tm (xs.idxOf (i:Int)) hil (i:Int) (by rw [TL hil];exact congrArg some (VO hil))
    rw [T3] at this
    rw [this]
    have ea:=af.oA (xs:=af.inv xs) (i:=(i:Int)) (by omega) (by rw [af.Dv];omega)
    rw [T3,af.Dw (by omega) (by omega)] at ea
    exact ea.symm
   ·rw [U6 (by omega),U6 (by rw [af.Dv];omega)]
  subst eb
  refine dY ?_
  refine b7 ?_
  intro dQ hQ
  set_option simprocs false in simp only [bG,bF hB]
  exact hQ _ _ ⟨rfl,k2⟩
theorem CM {st:Store} {xs ys:List Int} (hb:∀ x∈xs,0<=x/\x < (ys.length:Int)) (hn:xs.length<=100):Wp (pP [.tup (xs.map D.int),.tup (ys.map D.int)] st) fun d st'=>d=.tup ((af.aY xs ys).map D.int)/\Ex [] st st':=by
 refine fF ?_
 show Ws (Eh [some (.tup (xs.map D.int)),some (.tup (ys.map D.int))] st) _ _ _ _
 unfold Eh
 refine dY ?_
 kspl_open hQ
 refine rS (xs.map D.int) (fun d=>.int (af.app ys (inD d))) ?_ (by rw [TJ];omega) ?_ ?_
 ·kspl_open bU
  exact bU _ _ ⟨rR _ _,Ex.refl⟩
 ·intro d hd st1 k1
  obtain ⟨x,hx,rfl⟩:=xD hd
  obtain ⟨x0,x1⟩:=hb x hx
  refine b7 ?_
  intro gw bU
  set_option simprocs false in simp only [bG,Ui,UB,Uy,Uz,p6 (xs:=ys) x0 x1]
  exact bU _ _ ⟨rfl,Ex.refl⟩
 ·intro st' k'
  rw [Bp (f:=af.app ys) fun x hx=>rfl]
  w_how
  exact hQ _ _ ⟨rfl,k'.app _⟩
theorem R6 {st:Store} {xs ys p:List Int} {n:Nat} (tx:af.Tn n xs) (ty:af.Tn n ys) (tp:af.Tn n p) (hn:n<=100):Wp (BO [b6 xs ys,.tup (p.map D.int)] st) fun d st'=>d=b6 (af.anew xs p) (af.anew ys p)/\Ex [] st st':=by
 have hlx:=tx.length
 have y2:=ty.length
 have LC:=tp.length
 have ti:=tp.aA
 have hli:=ti.length
 refine fF ?_
 show Ws (Ei [some (b6 xs ys),some (.tup (p.map D.int)),none,none,none] st) _ _ _ _
 unfold Ei b6
 refine aV (bR ?_)
 kspl_open hQ
 refine bw (Hy tp hn) ?_
 rintro d st1 ⟨rfl,k1⟩
 refine hQ _ _ (aV (bR ?_))
 clear hQ
 kspl_open hQ
 refine bw (CM (xs:=af.inv p) (ys:=xs) (fun x hx=>by rw [hlx];exact ti.bound hx) (by omega)) ?_
 rintro d st2 ⟨rfl,k2⟩
 refine bw (CM (xs:=af.aY (af.inv p) xs) (ys:=p) (fun x hx=>by rw [LC];exact (ti.aY tx).bound hx) (by rw [af.Am];omega)) ?_
 rintro d st3 ⟨rfl,k3⟩
 refine hQ _ _ (aV (bR ?_))
 clear hQ
 kspl_open hQ
 refine bw (CM (xs:=af.inv p) (ys:=ys) (fun x hx=>by rw [y2];exact ti.bound hx) (by omega)) ?_
 rintro d mN ⟨rfl,k4⟩
 refine bw (CM (xs:=af.aY (af.inv p) ys) (ys:=p) (fun x hx=>by rw [LC];exact (ti.aY ty).bound hx) (by rw [af.Am];omega)) ?_
 rintro d mU ⟨rfl,k5⟩
 refine hQ _ _ (dY ?_)
 clear hQ
 kspl_open hQ
 exact ⟨rfl,hQ _ _ ⟨rfl,(((k1.trans k2).trans k3).trans k4).trans k5⟩⟩
theorem LD {F:List Int} {x:Int}:(!F.contains x)=true->af.cq F x=F ++ [x]:=fun h=>by
 unfold af.cq
 rw [if_neg fun z=>by rw [UY.mpr z] at h;cases h]
theorem LF {F:List Int} {x:Int}:(!F.contains x)=false->af.cq F x=F:=fun h=>by
 unfold af.cq
 rw [if_pos (UY.mp (by simpa using h))]
theorem R7 {st:Store} {xs ys:List Int} {n:Nat} {s:Int} (tx:af.Tn n xs) (ty:af.Tn n ys) (hn:n<=100) (s0:0<=s) (s1:s < (n:Int)):Wp (BQ [b6 xs ys,.int s] st) fun d st'=>d=.tup ((af.bf xs ys s n).map D.int)/\Ex [] st st':=by
 have hlx:=tx.length
 have y2:=ty.length
 refine fF ?_
 show Ws (Ek [some (b6 xs ys),some (.int s),none,none,none,none] st) _ _ _ _
 unfold Ek
 refine aV (bR ?_)
 kspl_open hQ
 refine ⟨rfl,hQ _ _ (aV (bR ?_))⟩
 clear hQ
 kspl_open hQ
 refine hQ _ _ (aV (xg (fun m δ st2=>∃ (k:Nat) (v4 v5:Option D),m=n - k/\δ=[some (b6 xs ys),some (.int s),some (.ref st.length),some (.int (k:Int)),v4,v5]/\st2[st.length]?=some (.lst ((af.bf xs ys s k).map D.int))/\k<=(af.bf xs ys s k).length/\Ex [] st st2) n (UG hn (by decide)) ⟨0,none,none,by omega,rfl,gH,Uw _,Ex.b5 _⟩ ?_))
 clear hQ
 rintro m δ st2 ⟨k,v4,v5,rfl,rfl,hl,hk,k2⟩
 have tj:=af.An tx ty s0 s1 k
 refine b7 ?_
 intro dQ hQ
 set_option simprocs false in simp only [bG,bF hl]
 refine hQ _ _ ⟨fun hlt=>?_,fun hlt=>?_⟩
 ·clear hQ
  have hlt:=of_decide_eq_true hlt
  rw [TJ] at hlt
  have nF:k < (af.bf xs ys s k).length:=by omega
  obtain ⟨x,hx⟩:∃ x,(af.bf xs ys s k)[k]?=some x:=⟨_,TL nF⟩
  obtain ⟨x0,x1⟩:=af.pX tx ty s0 s1 k x (T2 hx)
  have e1:af.bf xs ys s (k + 1)=af.visit xs ys (af.bf xs ys s k) x:=by
   show (match (af.bf xs ys s k)[k]? with | some x=>af.visit xs ys (af.bf xs ys s k) x | none=>af.bf xs ys s k)=_
   rw [hx]
  have hb1:=af.An tx ty s0 s1 (k + 1)
  rw [e1] at hb1
  have hp1:=(af.ui (af.cq (af.bf xs ys s k) (af.app xs x)) (af.app ys x)).length_le
  have hp0:=(af.ui (af.bf xs ys s k) (af.app xs x)).length_le
  change _<=(af.visit xs ys (af.bf xs ys s k) x).length at hp1
  refine aV (kL [.tup (xs.map D.int),.tup (ys.map D.int)] (fun m δ st3=>∃ (v4 v5:Option D) (G:List Int),δ=[some (b6 xs ys),some (.int s),some (.ref st.length),some (.int (k:Int)),v4,v5]/\st3[st.length]?=some (.lst (G.map D.int))/\(m=0->G=af.bf xs ys s k)/\(m=1->G=af.cq (af.bf xs ys s k) (af.app xs x))/\(m=2->G=af.visit xs ys (af.bf xs ys s k) x)/\Ex [] st st3) ?_ (by simp) ?_ ?_)
  ·unfold b6
   kspl_open hQ
   exact hQ _ _ ⟨rfl,v4,v5,_,rfl,hl,fun _=>rfl,fun z=>by omega,fun z=>by omega,k2⟩
  ·rintro m z δ st3 hm ⟨v4,v5,G,rfl,hl3,g0,g1,_,k3⟩
   have hm2:m < 2:=cZ hm
   obtain ⟨zs,rfl,tz,em⟩:∃ (zs:List Int),z=.tup (zs.map D.int)/\af.Tn n zs/\((m=0/\zs=xs)\/(m=1/\zs=ys)):=by
    rcases (show m=0\/m=1 by omega) with rfl | rfl
    ·exact ⟨xs,by simpa using hm.symm,tx,.inl ⟨rfl,rfl⟩⟩
    ·exact ⟨ys,by simpa using hm.symm,ty,.inr ⟨rfl,rfl⟩⟩
   have hG:G.length<=100/\G[k]?=some x:=by
    rcases em with ⟨rfl,_⟩ | ⟨rfl,_⟩
    ·rw [g0 rfl];exact ⟨by omega,hx⟩
    ·rw [g1 rfl]
     refine ⟨by omega,?_⟩
     obtain ⟨t,e⟩:=af.ui (af.bf xs ys s k) (af.app xs x)
     rw [<- e,T1 nF];exact hx
   have CN:∀ G',G'=af.cq G (af.app zs x)->(m + 1=0->G'=af.bf xs ys s k)/\(m + 1=1->G'=af.cq (af.bf xs ys s k) (af.app xs x))/\(m + 1=2->G'=af.visit xs ys (af.bf xs ys s k) x):=fun G' e=>by
    rcases em with ⟨rfl,rfl⟩ | ⟨rfl,rfl⟩
    ·exact ⟨fun z=>by omega,fun _=>by rw [e,g0 rfl],fun z=>by omega⟩
    ·exact ⟨fun z=>by omega,fun z=>by omega,fun _=>by rw [e,g1 rfl];rfl⟩
   have hat:c5 (G.map D.int) (k:Int)=some (.int x):=yj (by rw [TR,hG.2];rfl)
   kspl_open hQ
   refine hQ _ _ (aV (bR ?_))
   clear hQ
   refine b7 ?_
   intro dQ hQ
   set_option simprocs false in simp only [bG,bF hl3,hat,p6 (xs:=zs) x0 (by rw [tz.length];exact x1)]
   refine hQ _ _ (i6 ?_)
   clear hQ
   refine b7 ?_
   intro dQ hQ
   set_option simprocs false in simp only [bG,DS (st:=st3) (c:=.ref st.length) (ns:=G) (bF hl3)]
   refine hQ _ _ ⟨fun hc=>nP ?_,fun hc=>kE ?_⟩
   ·obtain ⟨n0,n1,n2⟩:=CN (G ++ [af.app zs x]) (LD hc).symm
    refine b7 ?_
    intro gw bU
    set_option simprocs false in simp only [bG,jg hl3]
    refine ⟨lP (by rw [bF hl3];rfl),gI (by rw [TJ];omega),bU _ _ ⟨_,_,G ++ [af.app zs x],rfl,?_,n0,n1,n2,k3.loc (TM _)⟩⟩
    rw [TQ (cZ hl3),T6];rfl
   ·obtain ⟨n0,n1,n2⟩:=CN G (LF hc).symm
    exact ⟨_,_,G,rfl,hl3,n0,n1,n2,k3⟩
  ·rintro δ st3 ⟨v4,v5,G,rfl,hl3,_,_,g2,k3⟩
   have g2:=g2 rfl
   subst g2
   refine bR ?_
   kspl_open hQ
   refine hQ _ _ ⟨n - (k + 1),by omega,k + 1,v4,v5,rfl,by simp,by rw [e1];exact hl3,by rw [e1];omega,k3⟩
 ·have hlt:=of_decide_eq_false hlt
  rw [TJ] at hlt
  have hle:(af.bf xs ys s k).length<=k:=by omega
  have e:af.bf xs ys s n=af.bf xs ys s k:=by
   have:=af.Dx hle (n - k)
   rwa [show k + (n - k)=n by omega] at this
  refine dY ?_
  refine b7 ?_
  intro gw bU
  set_option simprocs false in simp only [bG,bF hl]
  rw [<- e]
  exact bU _ _ ⟨rfl,k2⟩
theorem R8 {st:Store} {xs:List Int} {n:Nat} {i:Int} (tn:af.Tn n xs) (hn:n<=100) (i0:0<=i) (i1:i < (n:Int)):Wp (BX [.tup (xs.map D.int),.int i] st) fun d st'=>∃ r:List Int,d=.tup (r.map D.int)/\af.gX xs i r/\Ex [] st st':=by
 have hlen:=tn.length
 refine fF ?_
 show Ws (Eo [some (.tup (xs.map D.int)),some (.int i),none,none] st) _ _ _ _
 unfold Eo
 refine aV (bR ?_)
 kspl_open hQ
 refine ⟨rfl,hQ _ _ (aV (bR ?_))⟩
 clear hQ
 refine b7 ?_
 intro dQ hQ
 set_option simprocs false in simp only [bG,p6 (xs:=xs) i0 (by omega)]
 refine hQ _ _ (aV (xg (fun m δ st2=>∃ k:Nat,m=n - (k + 1)/\δ=[some (.tup (xs.map D.int)),some (.int i),some (.ref st.length),some (.int (af.bq xs i (k + 1)))]/\st2[st.length]?=some (.lst ((af.row xs i k).map D.int))/\af.NB xs i k/\Ex [] st st2) (n - 1) (UG (show n - 1<=100 by omega) (by decide)) ⟨0,rfl,rfl,gH,fun j h1 h2=>by omega,Ex.b5 _⟩ ?_))
 clear hQ
 rintro m δ st2 ⟨k,rfl,rfl,hL,nb,k2⟩
 have hrl:=tn.j9 i0 i1 nb
 kspl_open hQ
 refine hQ _ _ ⟨fun hb=>?_,fun hb=>?_⟩
 ·have hb:af.bq xs i (k + 1)≠i:=by simpa using hb
  have CO:af.NB xs i (k + 1):=fun j h1 h2=>by
   by_cases hj:j<=k
   ·exact nb j h1 hj
   ·have:j=k + 1:=by omega
    rw [this];exact hb
  have hle:=tn.j9 i0 i1 CO
  have hit:=tn.bq i0 i1 (k + 1)
  refine aV (nP ?_)
  refine b7 ?_
  intro gw bU
  set_option simprocs false in simp only [bG,jg hL]
  refine ⟨lP (by rw [bF hL];rfl),gI (by rw [TJ,af.rK];omega),bU _ _ (bR ?_)⟩
  clear bU
  refine b7 ?_
  intro gw bU
  set_option simprocs false in simp only [bG,p6 (xs:=xs) hit.1 (by omega)]
  refine bU _ _ ⟨n - (k + 1 + 1),by omega,k + 1,rfl,rfl,?_,CO,k2.loc (TM _)⟩
  rw [TQ (cZ hL),af.JX,T6];rfl
 ·have hb:af.bq xs i (k + 1)=i:=by simpa using hb
  refine dY ?_
  refine b7 ?_
  intro gw bU
  set_option simprocs false in simp only [bG,bF hL]
  exact bU _ _ ⟨_,rfl,⟨k,rfl,nb,hb⟩,k2⟩
theorem R9 {st:Store} {xs:List Int} {n:Nat} (tn:af.Tn n xs) (hn:n<=100):Wp (B0 [.tup (xs.map D.int)] st) fun d st'=>∃ rs:List (List Int),d=yG rs/\af.uh xs (af.upto n) rs/\(∀ r∈rs,r.length<=n/\∀ x∈r,0<=x/\x < (n:Int))/\rs.length<=n/\Ex [] st st':=by
 have hlen:=tn.length
 refine fF ?_
 show Ws (Er [some (.tup (xs.map D.int)),none,none,none,none,none] st) _ _ _ _
 unfold Er
 refine aV (bR ?_)
 kspl_open hQ
 refine ⟨rfl,hQ _ _ (aV (bR ?_))⟩
 clear hQ
 kspl_open hQ
 have eS:(st ++ [O.lst []]).length=st.length + 1:=by simp
 rw [eS]
 refine hQ _ _ (aV (kL (aD 0 n) (fun k δ st2=>∃ (v3 v4 v5:Option D) (rs:List (List Int)) (kvs:List (Key×D)),δ=[some (.tup (xs.map D.int)),some (.ref st.length),some (.ref (st.length + 1)),v3,v4,v5]/\st2[st.length]?=some (.lst (rs.map fun r=>.tup (r.map D.int)))/\st2[st.length + 1]?=some (.dct kvs) /\
   (∀ rest,af.uh xs (af.from' n k (fun x=>(c4 kvs (Sum.inl x:Key)).isSome)) rest->af.uh xs (af.upto n) (rs ++ rest))/\(∀ r∈rs,r.length<=n/\∀ x∈r,0<=x/\x < (n:Int))/\rs.length<=k/\kvs.length<=k * n/\Ex [] st st2) ?_ (by rw [fE];omega) ?_ ?_))
 ·clear hQ
  kspl_open hQ
  rw [TJ,hlen]
  refine ⟨by omega,hQ _ _ ⟨by rw [T3],none,none,none,[],[],rfl,jI gH,by rw [<- eS];exact gH,fun rest hrest=>?_,(fun r hr=>nomatch hr),TM _,Uw _,(Ex.b5 _).app _⟩⟩
  have e:af.from' n 0 (fun x=>(c4 ([]:List (Key×D)) (Sum.inl x:Key)).isSome)=af.upto n:=af.Ob n
  rw [e] at hrest
  exact hrest
 ·rintro k d δ st2 hd ⟨v3,v4,v5,rs,kvs,rfl,E2,E3,uT,hb,hrl,nF,k2⟩
  have hk:=cZ hd
  rw [fE] at hk
  rw [wC hk,U4] at hd
  cases hd
  have hkn:k * n<=10000:=Uh (Nat.mul_le_mul (show k<=100 by omega) hn) (by decide)
  clear hQ
  kspl_open hQ
  refine hQ _ _ (i6 ?_)
  clear hQ
  refine b7 ?_
  intro dQ hQ
  set_option simprocs false in simp only [bG,K4 E3,K5]
  have hfs:=af.N9 hk (fun x=>(c4 kvs (Sum.inl x:Key)).isSome)
  refine hQ _ _ ⟨fun hs=>?_,fun hs=>?_⟩
  ·have Hz:(c4 kvs (Sum.inl (k:Int):Key)).isSome=false:=by simpa using hs
   simp only [Hz,UK,if_false] at hfs
   clear hQ
   refine aV (bR ?_)
   kspl_open hQ
   refine bw (R8 tn hn (i:=(k:Int)) (by omega) (by omega)) ?_
   rintro d st3 ⟨r,rfl,ni,k3⟩
   refine hQ _ _ (aV (nP ?_))
   clear hQ
   have HA:=k3.keep _ _ E2 (by simp)
   have Sb:=k3.keep _ _ E3 (by simp)
   have HB:=ni.len tn (by omega) (by omega)
   have hrb:=ni.bound tn (by omega) (by omega)
   refine b7 ?_
   intro dQ hQ
   set_option simprocs false in simp only [bG,jg HA]
   refine ⟨lP (by rw [bF HA];rfl),gI (by rw [TJ];omega),hQ _ _ ?_⟩
   clear hQ
   refine kL (r.map D.int) (fun j δ mU=>∃ (v5:Option D) (kvs':List (Key×D)),δ=[some (.tup (xs.map D.int)),some (.ref st.length),some (.ref (st.length + 1)),some (.int (k:Int)),some (.tup (r.map D.int)),v5]/\mU[st.length]?=some (.lst ((rs ++ [r]).map fun r=>.tup (r.map D.int)))/\mU[st.length + 1]?=some (.dct kvs') /\
     (∀ x:Int,(c4 kvs' (Sum.inl x:Key)).isSome=((c4 kvs (Sum.inl x:Key)).isSome || (r.take j).contains x))/\kvs'.length<=kvs.length + j/\Ex [] st mU) ?_ (by rw [TJ];omega) ?_ ?_
   ·kspl_open hQ
    refine hQ _ _ ⟨rfl,v5,kvs,rfl,?_,?_,fun x=>by simp,by omega,(k2.trans k3).loc (TM _)⟩
    ·rw [TQ (cZ HA),T6];rfl
    ·rw [TV (by omega)];exact Sb
   ·rintro j y δ mU hj ⟨v5,kvs',rfl,HC,E4,E5,LG,k5⟩
    obtain ⟨x,hx,rfl⟩:=Bo hj
    obtain ⟨hjl,ex⟩:=TK.mp hx
    subst ex
    kspl_open hQ
    refine hQ _ _ (PL ?_)
    clear hQ
    kspl_open hQ
    refine hQ _ _ ?_
    kspl_open bU
    refine bU _ _ ?_
    kspl_open rA
    refine rA _ _ ⟨_,kvs',_,rfl,K4 E4,K5 _,gI (by omega),_,_,rfl,?_,TQ (cZ E4),fun x=>?_,?_,k5.loc (by omega)⟩
    ·rw [TV (by omega)];exact HC
    ·rw [Qv,Qx hjl]
     by_cases hx:x=r[j]
     ·subst hx;simp
     ·rw [if_neg (by intro z;exact hx (Sum.inl.inj z)),E5 x]
      have:(x == r[j])=false:=beq_eq_false_iff_ne.mpr hx
      rw [this,Bool.or_false]
    ·have:=Qw kvs' (Sum.inl r[j]:Key) (.bl true);omega
   ·rintro δ mU ⟨v5,kvs',rfl,HC,E4,E5,LG,k5⟩
    rw [TJ] at LG E5
    refine ⟨_,_,_,rs ++ [r],kvs',rfl,HC,E4,fun rest hrest=>?_,fun r' hr'=>?_,by rw [TN];simp;omega,by rw [VH];omega,k5⟩
    ·have e:(fun x=>(c4 kvs' (Sum.inl x:Key)).isSome)=fun x=>((c4 kvs (Sum.inl x:Key)).isSome || r.contains x):=by
      funext x;rw [E5 x,UH]
     rw [e,<- af.Oa] at hrest
     rw [Vi]
     refine uT _ ?_
     rw [hfs]
     refine .cons ni ?_
     have e2:af.out ((k:Int) :: af.from' n (k + 1) (fun x=>(c4 kvs (Sum.inl x:Key)).isSome)) r=af.out (af.from' n (k + 1) (fun x=>(c4 kvs (Sum.inl x:Key)).isSome)) r:=by
      unfold af.out
      rw [List.filter_cons,if_neg (by simp [ni.mem])]
     rw [e2]
     exact hrest
    ·rcases Uk.mp hr' with h | h
     ·exact hb r' h
     ·have:r'=r:=by simpa using h
      subst this
      exact ⟨HB,hrb⟩
  ·have Hz:(c4 kvs (Sum.inl (k:Int):Key)).isSome=true:=by simpa using hs
   simp only [Hz,if_true] at hfs
   exact kE ⟨_,_,_,rs,kvs,rfl,E2,E3,fun rest hrest=>uT rest (by rw [hfs];exact hrest),hb,by omega,by rw [VH];omega,k2⟩
 ·rintro δ st2 ⟨v3,v4,v5,rs,kvs,rfl,E2,E3,uT,hb,hrl,nF,k2⟩
  rw [fE] at uT hrl
  refine dY ?_
  clear hQ
  refine b7 ?_
  intro dQ hQ
  set_option simprocs false in simp only [bG,bF E2]
  refine hQ _ _ ⟨rs,rfl,?_,hb,hrl,k2⟩
  have:=uT [] (by rw [af.N8];exact .nil)
  rwa [U5] at this
theorem Sd {rs:List (List Int)} {m:Nat} {d:D} (h:(rs.map fun r=>D.tup (r.map D.int))[m]?=some d):∃ r,rs[m]?=some r/\d=.tup (r.map D.int):=by
 rw [TR] at h
 obtain ⟨r,h1,h2⟩:=Uj.mp h
 exact ⟨r,h1,h2.symm⟩
theorem LH {xs:List Int} {i:Int} {m:Nat} {j:Int} (h0:0<=j) (h1:j < ((m + 1:Nat):Int)):c5 ((af.row xs i m).map D.int) j=some (.int (af.bq xs i j.toNat)):=by
 have e:((af.row xs i m).map D.int)[j.toNat]?=some (.int (af.bq xs i j.toNat)):=by
  unfold af.row
  rw [Uq,TR,UQ (by omega)];rfl
 have:=yj e
 rwa [Um h0] at this
theorem LI {bs:List Int} {m v x:Int} (h0:0<=m) (h1:m < (bs.length:Int)) (x0:0<=x):af.app (bs.set m.toNat v) x=if x=m then v else af.app bs x:=by
 have:=af.Gu (xs:=bs) (m:=m.toNat) (v:=v) (x:=x) (by omega) x0
 rw [Um h0] at this
 exact this
theorem Se {st:Store} {xs:List Int} {n:Nat} {k:Int} (tn:af.Tn n xs) (hn:n<=100):Wp (B2 [.tup (xs.map D.int),.int k] st) fun d st'=>d=.tup ((af.cc xs k).map D.int)/\Ex [] st st':=by
 have hlen:=tn.length
 refine fF ?_
 show Ws (Es [some (.tup (xs.map D.int)),some (.int k),none,none,none,none] st) _ _ _ _
 unfold Es
 refine aV (bR ?_)
 kspl_open hQ
 have e0:(((xs.map D.int).length:Int)).toNat=n:=by rw [TJ];omega
 have ez:(List.replicate n [D.int 0]).flatten=(List.replicate n (0:Int)).map D.int:=by
  clear hlen tn hn e0
  induction n with
  | zero=>rfl
  | succ n ih=>simp [UC]
 rw [e0,ez]
 have CL:st.length<=(st ++ [O.lst [D.int 0]]).length:=by simp
 refine ⟨rfl,by rw [TJ];omega,gI (by simp;omega),hQ _ _ ?_⟩
 clear hQ
 have HD:(st ++ [O.lst [D.int 0]] ++ [O.lst ((List.replicate n (0:Int)).map D.int)])[(st ++ [O.lst [D.int 0]]).length]?=some (.lst ((List.replicate n (0:Int)).map D.int)):=gH
 have kB:Ex [] st (st ++ [O.lst [D.int 0]] ++ [O.lst ((List.replicate n (0:Int)).map D.int)]):=(Ex.b5 _).app _
 generalize (st ++ [O.lst [D.int 0]] ++ [O.lst ((List.replicate n (0:Int)).map D.int)])=Sf at HD kB ⊢
 generalize (st ++ [O.lst [D.int 0]]).length=B at CL HD ⊢
 show Ws _ _ _ _ _
 obtain ⟨d,st2,e2,rs,rfl,uT,hrb,hrl,k2⟩:=R9 (st:=Sf) tn hn
 refine aV (kL (rs.map fun r=>.tup (r.map D.int)) (fun m δ st3=>∃ (v3 v4 v5:Option D) (bs:List Int),δ=[some (.tup (xs.map D.int)),some (.int k),some (.ref B),v3,v4,v5]/\st3[B]?=some (.lst (bs.map D.int))/\bs.length=n/\(∀ j,j < m->∀ r,rs[j]?=some r->∀ x∈r,af.app bs x=af.pw xs k x)/\Ex [] st st3) ?_ (by rw [TJ];omega) ?_ ?_)
 ·kspl_open hQ
  refine ⟨_,_,e2,?_⟩
  exact ⟨_,rfl,hQ _ _ ⟨rfl,none,none,none,_,rfl,k2.keep _ _ HD (by simp),by simp,fun j hj=>absurd hj (UE _),kB.trans k2⟩⟩
 ·rintro m d δ st3 hm ⟨v3,v4,v5,bs,rfl,HE,tj,tm,k3⟩
  obtain ⟨r,hr,rfl⟩:=Sd hm
  obtain ⟨i,hi,ni⟩:=uT.all.1 r (T2 hr)
  obtain ⟨i0,i1⟩:=af.lV.mp hi
  obtain ⟨M,rfl,nb,bk⟩:=ni.ex
  have hM:=tn.j9 i0 i1 nb
  kspl_open hQ
  refine hQ _ _ (kL (gR ((af.row xs i M).map D.int)) (fun t δ mN=>∃ (v4 v5:Option D) (cs:List Int),δ=[some (.tup (xs.map D.int)),some (.int k),some (.ref B),some (.tup ((af.row xs i M).map D.int)),v4,v5]/\mN[B]?=some (.lst (cs.map D.int))/\cs.length=n/\(∀ x:Int,0<=x->x < (n:Int)->af.app bs x=af.pw xs k x->af.app cs x=af.pw xs k x)/\(∀ j,j < t->af.app cs (af.bq xs i j)=af.pw xs k (af.bq xs i j))/\Ex [] st mN) ?_ ?_ ?_ ?_)
  ·clear hQ
   kspl_open hQ
   exact hQ _ _ ⟨rfl,v4,v5,bs,rfl,HE,tj,fun _ _ _ h=>h,fun j hj=>absurd hj (UE _),k3⟩
  ·rw [A0,TJ,af.rK];omega
  ·rintro t d δ mN hd ⟨v4,v5,cs,rfl,E6,hcl,hcs,hct,k4⟩
   obtain ⟨d',hd',rfl⟩:=G3 hd
   obtain ⟨y,hy,rfl⟩:=Bo hd'
   have LJ:=cZ hy
   rw [af.rK] at LJ
   have ey:y=af.bq xs i t:=by
    unfold af.row at hy
    rw [TR,UQ LJ] at hy
    exact (T5 hy).symm
   subst ey
   obtain ⟨x0,x1⟩:=tn.bq i0 i1 t
   have hL:(0:Int) < ((M + 1:Nat):Int):=by omega
   have m0:=UP ((t:Int) + k) (Int.ne_of_gt hL)
   have m1:=UX ((t:Int) + k) hL
   have eL:((((af.row xs i M).map D.int).length:Nat):Int)=((M + 1:Nat):Int):=by rw [TJ,af.rK]
   have hix:lF (cs.map D.int).length (af.bq xs i t)=some (af.bq xs i t).toNat:=by
    have:=yo (n:=(cs.map D.int).length) (j:=(af.bq xs i t).toNat) (by rw [TJ];omega)
    rwa [Um x0] at this
   have es:∀ v:Int,(cs.map D.int).set (af.bq xs i t).toNat (.int v)=(cs.set (af.bq xs i t).toNat v).map D.int:=fun v=>by rw [V0]
   clear hQ
   kspl_open hQ
   refine ⟨rfl,hQ _ _ (qd ?_)⟩
   clear hQ
   refine b7 ?_
   intro dQ hQ
   set_option simprocs false in simp only [bG,eL,LH m0 m1]
   refine ⟨hL,hQ _ _ ?_⟩
   clear hQ
   refine b7 ?_
   intro dQ hQ
   set_option simprocs false in simp only [bG,jg E6,hix,es]
   have hat:=tn.vV x0 x1 (tn.vS i0 i1 nb bk t k)
   refine hQ _ _ ⟨_,_,_,rfl,TQ (cZ E6),by rw [UD];exact hcl,fun x h0 h1 h=>?_,fun j hj=>?_,k4.loc CL⟩
   ·rw [LI x0 (by omega) h0]
    split
    ·next e=>rw [e];exact hat
    ·exact hcs x h0 h1 h
   ·obtain ⟨y0,y1⟩:=tn.bq i0 i1 j
    rw [LI x0 (by omega) y0]
    split
    ·next e=>rw [e];exact hat
    ·next e =>
     by_cases Sg:j=t
     ·rw [Sg] at e;exact absurd rfl e
     ·exact hct j (by omega)
  ·rintro δ mN ⟨v4,v5,cs,rfl,E6,hcl,hcs,hct,k4⟩
   rw [A0,TJ,af.rK] at hct
   refine ⟨_,_,_,cs,rfl,E6,hcl,fun j hj r hr2 x hx=>?_,k4⟩
   by_cases Si:j=m
   ·subst Si
    rw [hr] at hr2
    cases hr2
    obtain ⟨jj,Tv,rfl⟩:=af.Du.mp hx
    exact hct jj (by omega)
   ·obtain ⟨b0,b1⟩:=(hrb r (T2 hr2)).2 x hx
    exact hcs x b0 b1 (tm j (by omega) r hr2 x hx)
 ·rintro δ st3 ⟨v3,v4,v5,bs,rfl,HE,tj,tm,k3⟩
  rw [TJ] at tm
  have e:bs=af.cc xs k:=by
   refine af.pE (n:=n) tj (by rw [af.Aq];exact hlen) fun s s0 s1=>?_
   rw [af.o6 s0 (by omega)]
   obtain ⟨r,hr',hx⟩:=uT.all.2 s (af.lV.mpr ⟨s0,s1⟩)
   obtain ⟨j,hj,ej⟩:=U1 hr'
   exact tm j hj r (by rw [TL hj,ej]) s hx
  subst e
  refine dY ?_
  refine b7 ?_
  intro dQ hQ
  set_option simprocs false in simp only [bG,bF HE]
  exact hQ _ _ ⟨rfl,k3⟩
theorem Sj {st:Store} {xs ys:List Int} {n:Nat} {k:Int} (tx:af.Tn n xs) (ty:af.Tn n ys) (hn:n<=100):Wp (B5 [b6 xs ys,.int k] st) fun d st'=>d=b6 xs (af.shr xs ys k)/\Ex [] st st':=by
 refine fF ?_
 show Ws (Et [some (b6 xs ys),some (.int k)] st) _ _ _ _
 unfold Et b6
 refine dY ?_
 have tp:=tx.cc (-k)
 kspl_open hQ
 refine bw (Se (k:=-k) tx hn) ?_
 rintro d st1 ⟨rfl,k1⟩
 refine bw (CM (xs:=af.cc xs (-k)) (ys:=ys) (fun x hx=>by rw [ty.length];exact tp.bound hx) (by rw [tp.length];exact hn)) ?_
 rintro d st2 ⟨rfl,k2⟩
 exact ⟨rfl,hQ _ _ ⟨rfl,k1.trans k2⟩⟩
theorem Sk {st:Store} {xs ys:List Int} {n:Nat} (tx:af.Tn n xs) (ty:af.Tn n ys) (hn:n<=100):Wp (B7 [b6 xs ys] st) fun d st'=>d=b6 (af.inv ys) xs/\Ex [] st st':=by
 refine fF ?_
 show Ws (Eu [some (b6 xs ys)] st) _ _ _ _
 unfold Eu b6
 refine dY ?_
 kspl_open hQ
 refine bw (Hy ty hn) ?_
 rintro d st1 ⟨rfl,k1⟩
 exact ⟨rfl,hQ _ _ ⟨rfl,k1⟩⟩
theorem LK {st:Store} {Q:D->Store->Prop} {xs:List Int} {v:Int} (h:v∈xs):Wp (je (.tup (xs.map D.int)) [.int v] st) Q↔Q (.int (xs.idxOf v:Int)) st:=by
 rw [KR]
 constructor
 ·rintro ⟨ns,j,h1,h2,q⟩
  rw [KU] at h1
  cases h1
  rw [K2 h] at h2
  cases h2
  exact q
 ·intro q
  exact ⟨xs,_,KU xs,K2 h,q⟩
theorem LL {xs:List Int} {i:Int} {m:Nat}:c5 ((af.row xs i m).map D.int) (-1)=some (.int (af.bq xs i m)):=by
 have hl:((af.row xs i m).map D.int).length=m + 1:=by rw [TJ,af.rK]
 unfold c5 lF
 rw [if_neg (by decide),hl,if_pos (by omega),U3,show ((-1:Int) + ((m + 1:Nat):Int)).toNat=m by omega]
 unfold af.row
 rw [Uq,TR,UQ (by omega)];rfl
theorem Sl {st:Store} {xs:List Int} {n:Nat} {s k:Int} (tn:af.Tn n xs) (hn:n<=100) (s0:0<=s) (s1:s < (n:Int)):Wp (BG [.tup (xs.map D.int),.int s,.int k] st) fun d st'=>d=.int (af.pw xs k s)/\Ex [] st st':=by
 have hlen:=tn.length
 refine fF ?_
 show Ws (Ea [some (.tup (xs.map D.int)),some (.int s),some (.int k),none] st) _ _ _ _
 unfold Ea
 refine aV (xf (N:=fun δ st1=>∃ (zs:List Int) (j:Nat),δ=[some (.tup (zs.map D.int)),some (.int s),some (.int (j:Int)),none]/\af.Tn n zs/\af.bq zs s j=af.pw xs k s/\Ex [] st st1) (i6 ?_) ?_)
 ·kspl_open hQ
  refine hQ _ _ ⟨fun h=>?_,fun h=>kE ⟨xs,k.toNat,?_,tn,?_,Ex.refl⟩⟩
  ·have h:=of_decide_eq_true h
   clear hQ
   refine aV (bR ?_)
   kspl_open hQ
   refine rS (aD 0 n) (fun d=>.int (xs.idxOf (inD d):Int)) ?_ (by rw [fE];omega) ?_ ?_
   ·kspl_open bU
    rw [TJ,hlen]
    exact ⟨by omega,bU _ _ ⟨by rw [T3];exact rR _ _,Ex.refl⟩⟩
   ·intro d hd pW k7
    rw [p5] at hd
    obtain ⟨x,hx,rfl⟩:=xD hd
    obtain ⟨x0,x1⟩:=af.lV.mp hx
    refine b7 ?_
    intro gw bU
    set_option simprocs false in simp only [bG,Ui,UB,Uy,Uz,KQ,LK (tn.mem x0 x1)]
    exact bU _ _ ⟨rfl,Ex.refl⟩
   ·intro pW k7
    have e:(aD 0 n).map (fun d=>D.int (xs.idxOf (inD d):Int))=(af.inv xs).map D.int:=by
     rw [p5,Bp (f:=fun x=>(xs.idxOf x:Int)) fun x hx=>rfl]
     unfold af.inv
     rw [hlen]
    rw [e]
    w_how
    refine hQ _ _ (bR ?_)
    clear hQ
    kspl_open hQ
    refine hQ _ _ ⟨af.inv xs,(-k).toNat,?_,tn.aA,?_,k7.app _⟩
    ·rw [show (0:Int) - k=(((-k).toNat:Nat):Int) by omega];rfl
    ·unfold af.pw;rw [if_neg (by omega)]
  ·have h:=of_decide_eq_false h
   rw [Um (by omega)]
  ·have h:=of_decide_eq_false h
   unfold af.pw;rw [if_pos (by omega)]
 rintro δ st1 ⟨zs,j,rfl,tz,ej,k1⟩
 have Lx:=tz.length
 refine aV (bR ?_)
 kspl_open hQ
 refine ⟨rfl,hQ _ _ (aV (xg (fun m δ st2=>∃ k:Nat,m=n - (k + 1)/\δ=[some (.tup (zs.map D.int)),some (.int s),some (.int (j:Int)),some (.ref st1.length)]/\st2[st1.length]?=some (.lst ((af.row zs s k).map D.int))/\af.NB zs s k/\Ex [] st1 st2) (n - 1) (UG (show n - 1<=100 by omega) (by decide)) ⟨0,rfl,rfl,gH,fun j h1 h2=>by omega,Ex.b5 _⟩ ?_))⟩
 clear hQ
 rintro m δ st2 ⟨k',rfl,rfl,hL,nb,k2⟩
 have hrl:=tz.j9 s0 s1 nb
 obtain ⟨y0,y1⟩:=tz.bq s0 s1 k'
 refine b7 ?_
 intro dQ hQ
 set_option simprocs false in simp only [bG,bF hL,LL,p6 (xs:=zs) y0 (by omega)]
 refine hQ _ _ ⟨fun hb=>?_,fun hb=>?_⟩
 ·have hb:af.bq zs s (k' + 1)≠s:=by show af.app zs (af.bq zs s k')≠s;simpa using hb
  have CO:af.NB zs s (k' + 1):=fun j h1 h2=>by
   by_cases hj:j<=k'
   ·exact nb j h1 hj
   ·have:j=k' + 1:=by omega
    rw [this];exact hb
  have hle:=tz.j9 s0 s1 CO
  refine nP ?_
  refine b7 ?_
  intro gw bU
  set_option simprocs false in simp only [bG,bF hL,LL,p6 (xs:=zs) y0 (by omega),jg hL]
  refine ⟨lP (by rw [bF hL];rfl),gI (by rw [TJ,af.rK];omega),bU _ _ ⟨n - (k' + 1 + 1),by omega,k' + 1,rfl,rfl,?_,CO,k2.loc (TM _)⟩⟩
  rw [TQ (cZ hL),af.JX,T6];rfl
 ·have hb:af.bq zs s (k' + 1)=s:=by show af.app zs (af.bq zs s k')=s;simpa using hb
  refine dY ?_
  have hpos:(0:Int) < ((k' + 1:Nat):Int):=by omega
  have eL:((((af.row zs s k').map D.int).length:Nat):Int)=((k' + 1:Nat):Int):=by rw [TJ,af.rK]
  refine b7 ?_
  intro gw bU
  set_option simprocs false in simp only [bG,bF hL,eL,LH (UP (j:Int) (Int.ne_of_gt hpos)) (UX (j:Int) hpos)]
  refine ⟨hpos,bU _ _ ⟨?_,k1.trans k2⟩⟩
  rw [<- ej,show ((j:Int) % ((k' + 1:Nat):Int)).toNat=j % (k' + 1) by omega,af.J0 hb]
theorem Sn {st:Store} {xs ys:List Int} {n:Nat} {k:Int} (tx:af.Tn n xs) (ty:af.Tn n ys) (hn:n<=100):Wp (uP [b6 xs ys,.tup [.str "s",.int k]] st) fun d st'=>d=b6 xs (af.shr xs ys k)/\Ex [] st st':=by
 have hlx:=tx.length
 have y2:=ty.length
 refine fF ?_
 show Ws (yM [some (b6 xs ys),some (.tup [.str "s",.int k]),none,none,none] st) _ _ _ _
 unfold yM b6
 refine aV (qd ?_)
 kspl_open hQ
 refine hQ _ _ ?_
 clear hQ
 kspl_open hQ
 refine ⟨rfl,hQ _ _ (aV (i6 ?_))⟩
 clear hQ
 kspl_open hQ
 refine hQ _ _ ⟨fun _=>dY ?_,fun h=>absurd h (by simp)⟩
 clear hQ
 kspl_open hQ
 refine rS (aD 0 n) (fun d=>.int (af.app ys (af.pw xs (-k) (inD d)))) ?_ (by rw [fE];omega) ?_ ?_
 ·kspl_open bU
  rw [TJ,y2]
  exact ⟨by omega,bU _ _ ⟨by rw [T3];exact rR _ _,Ex.refl⟩⟩
 ·intro d hd pW k7
  rw [p5] at hd
  obtain ⟨x,hx,rfl⟩:=xD hd
  obtain ⟨x0,x1⟩:=af.lV.mp hx
  obtain ⟨p0,p1⟩:=tx.pw x0 x1 (-k)
  refine b7 ?_
  intro gw bU
  set_option simprocs false in simp only [bG,Ui,UB,Uy,Uz]
  refine bw (Sl (k:=0 - k) tx hn x0 x1) ?_
  rintro d kY ⟨rfl,k8⟩
  rw [show (0:Int) - k=-k by omega]
  set_option simprocs false in simp only [bG,p6 (xs:=ys) p0 (by omega)]
  exact bU _ _ ⟨rfl,k8⟩
 ·intro pW k7
  have e:(aD 0 n).map (fun d=>D.int (af.app ys (af.pw xs (-k) (inD d))))=(af.shr xs ys k).map D.int:=by
   rw [p5,Bp (f:=fun x=>af.app ys (af.pw xs (-k) x)) fun x hx=>rfl]
   unfold af.shr af.aY af.cc
   rw [hlx,Uq,Uq,Uq]
   rfl
  rw [e]
  w_how
  exact ⟨rfl,hQ _ _ ⟨rfl,k7.app _⟩⟩
def og (xs ys:List Int):Nat->List Int×List Int
 | 0=>(xs,ys)
 | j + 1=>(af.inv (og xs ys j).2,(og xs ys j).1)
theorem CP {n:Nat} {xs ys:List Int} (tx:af.Tn n xs) (ty:af.Tn n ys):∀ j,af.Tn n (og xs ys j).1/\af.Tn n (og xs ys j).2
 | 0=>⟨tx,ty⟩
 | j + 1=>⟨(CP tx ty j).2.aA,(CP tx ty j).1⟩
theorem Sq {st:Store} {xs ys:List Int} {n j:Nat} (tx:af.Tn n xs) (ty:af.Tn n ys) (hn:n<=100) (hj:j < 4):Wp (uP [b6 xs ys,.tup [.str "t",.int (j:Int)]] st) fun d st'=>d=b6 (og xs ys j).1 (og xs ys j).2/\Ex [] st st':=by
 refine fF ?_
 show Ws (yM [some (b6 xs ys),some (.tup [.str "t",.int (j:Int)]),none,none,none] st) _ _ _ _
 unfold yM b6
 refine aV (qd ?_)
 kspl_open hQ
 refine hQ _ _ ?_
 clear hQ
 kspl_open hQ
 refine ⟨rfl,hQ _ _ (aV (i6 ?_))⟩
 clear hQ
 kspl_open hQ
 refine hQ _ _ ⟨fun h=>absurd h (by decide),fun _=>kE (aV (kL (aD 0 j) (fun i δ st2=>∃ v4:Option D,δ=[some (.tup [.tup (xs.map D.int),.tup (ys.map D.int)]),some (.tup [.str "t",.int (j:Int)]),some (.tup ((og xs ys i).1.map D.int)),some (.tup ((og xs ys i).2.map D.int)),v4]/\Ex [] st st2) ?_ (by rw [fE];omega) ?_ ?_))⟩
 ·clear hQ
  kspl_open hQ
  rw [show (j:Int) % 4=(j:Int) by omega]
  exact ⟨by omega,by omega,hQ _ _ ⟨by rw [T3],none,rfl,Ex.refl⟩⟩
 ·rintro i d δ st2 hd ⟨v4,rfl,k2⟩
  obtain ⟨ta,tb⟩:=CP tx ty i
  show Wp _ _
  have hlb:=tb.length
  generalize hzs:(og xs ys i).2=zs at tb hlb ⊢
  clear hQ
  kspl_open hQ
  refine hQ _ _ (qd ?_)
  clear hQ
  kspl_open hQ
  refine rS (aD 0 n) (fun d=>.int (zs.idxOf (inD d):Int)) ?_ (by rw [fE];omega) ?_ ?_
  ·kspl_open bU
   rw [TJ,hlb]
   exact ⟨by omega,bU _ _ ⟨by rw [T3];exact rR _ _,Ex.refl⟩⟩
  ·intro d hd pW k7
   rw [p5] at hd
   obtain ⟨x,hx,rfl⟩:=xD hd
   obtain ⟨x0,x1⟩:=af.lV.mp hx
   refine b7 ?_
   intro gw bU
   set_option simprocs false in simp only [bG,Ui,UB,Uy,Uz,KQ,LK (tb.mem x0 x1)]
   exact bU _ _ ⟨rfl,Ex.refl⟩
  ·intro pW k7
   have e:(aD 0 n).map (fun d=>D.int (zs.idxOf (inD d):Int))=(af.inv zs).map D.int:=by
    rw [p5,Bp (f:=fun x=>(zs.idxOf x:Int)) fun x hx=>rfl]
    unfold af.inv
    rw [hlb]
   rw [e]
   w_how
   refine ⟨rfl,hQ _ _ ?_⟩
   clear hQ
   kspl_open hQ
   refine ⟨rfl,hQ _ _ ⟨some d,?_,(k2.trans k7).app _⟩⟩
   rw [show (og xs ys (i + 1)).1=af.inv (og xs ys i).2 from rfl,show (og xs ys (i + 1)).2=(og xs ys i).1 from rfl,hzs]
 ·rintro δ st2 ⟨v4,rfl,k2⟩
  rw [fE]
  refine dY ?_
  clear hQ
  kspl_open hQ
  exact ⟨rfl,hQ _ _ ⟨rfl,k2⟩⟩
def HF (s:eW):Prop:=s.1=false->1<=s.2/\s.2<=3
def ju (p:List Int×List Int) (s:eW):List Int×List Int:=if s.1=true then (p.1,af.shr p.1 p.2 s.2) else og p.1 p.2 s.2.toNat
def mI (p:List Int×List Int) (w:List eW):List Int×List Int:=w.foldl ju p
theorem Sr {n:Nat} {p:List Int×List Int} (h:af.Tn n p.1/\af.Tn n p.2) (s:eW):af.Tn n (ju p s).1/\af.Tn n (ju p s).2:=by
 unfold ju
 split
 ·exact ⟨h.1,h.1.shr h.2 _⟩
 ·exact CP h.1 h.2 _
theorem LM {n:Nat}:∀ {p:List Int×List Int},af.Tn n p.1/\af.Tn n p.2->∀ w:List eW,af.Tn n (mI p w).1/\af.Tn n (mI p w).2
 | _,h,[]=>h
 | _,h,s :: w=>LM (Sr h s) w
theorem Ss (p:List Int×List Int) (v w:List eW):mI p (v ++ w)=mI (mI p v) w:=by unfold mI;rw [UN]
theorem Sv (p:List Int×List Int) (w:List eW) (s:eW):mI p (w ++ [s])=ju (mI p w) s:=by rw [Ss];rfl
def bJ (p:List Int×List Int):D:=b6 p.1 p.2
theorem Sw {st:Store} {p:List Int×List Int} {n:Nat} {s:eW} (h:af.Tn n p.1/\af.Tn n p.2) (hn:n<=100) (hs:HF s):Wp (uP [bJ p,aW s] st) fun d st'=>d=bJ (ju p s)/\Ex [] st st':=by
 obtain ⟨b,k⟩:=s
 cases b with
 | true=>exact Sn (k:=k) h.1 h.2 hn
 | false =>
  obtain ⟨k1,k3⟩:=hs rfl
  obtain ⟨j,rfl⟩:∃ j:Nat,k=(j:Int):=⟨k.toNat,by simp only at k1;omega⟩
  have:=Sq (st:=st) (j:=j) h.1 h.2 hn (by simp only at k3;omega)
  refine bw this ?_
  rintro d st1 ⟨rfl,k1⟩
  refine ⟨?_,k1⟩
  unfold bJ ju
  rw [if_neg (show ¬ (false=true) from TX),T3]
theorem Sx {st:Store} {p:List Int×List Int} {n:Nat} {s:eW} (h:af.Tn n p.1/\af.Tn n p.2) (hn:n<=100) (hs:HF s):Wp (B9 [bJ p,aW s] st) fun d st'=>d=bJ (ju p s)/\Ex [] st st':=by
 obtain ⟨b,k⟩:=s
 refine fF ?_
 show Ws (Ew [some (bJ p),some (aW (b,k)),none,none] st) _ _ _ _
 unfold Ew aW
 cases b with
 | true =>
  refine aV (i6 ?_)
  kspl_open hQ
  refine hQ _ _ ⟨fun _=>dY ?_,fun z=>absurd z (by decide)⟩
  clear hQ
  kspl_open hQ
  refine bw (Sj (k:=k) h.1 h.2 hn) ?_
  rintro d st1 ⟨rfl,k1⟩
  exact hQ _ _ ⟨rfl,k1⟩
 | false =>
  obtain ⟨k1,k3⟩:=hs rfl
  obtain ⟨j,rfl⟩:∃ j:Nat,k=(j:Int):=⟨k.toNat,by simp only at k1;omega⟩
  refine aV (i6 ?_)
  kspl_open hQ
  refine hQ _ _ ⟨fun z=>absurd z (by decide),fun _=>kE (aV (bR ?_))⟩
  clear hQ
  kspl_open hQ
  refine hQ _ _ (aV (kL (aD 0 j) (fun i δ st2=>∃ v3:Option D,δ=[some (bJ p),some (aW (false,(j:Int))),some (b6 (og p.1 p.2 i).1 (og p.1 p.2 i).2),v3]/\Ex [] st st2) ?_ (by rw [fE];simp only at k3;omega) ?_ ?_))
  ·clear hQ
   kspl_open hQ
   exact ⟨by simp only at k3;omega,hQ _ _ ⟨by rw [T3],none,rfl,Ex.refl⟩⟩
  ·rintro i d δ st2 hd ⟨v3,rfl,k2⟩
   obtain ⟨ta,tb⟩:=CP h.1 h.2 i
   clear hQ
   kspl_open hQ
   refine hQ _ _ (bR ?_)
   clear hQ
   kspl_open hQ
   refine bw (Sk ta tb hn) ?_
   rintro d' st3 ⟨rfl,k3⟩
   exact hQ _ _ ⟨some d,rfl,k2.trans k3⟩
  ·rintro δ st2 ⟨v3,rfl,k2⟩
   rw [fE]
   refine dY ?_
   clear hQ
   kspl_open hQ
   refine hQ _ _ ⟨?_,k2⟩
   unfold bJ ju
   rw [if_neg (show ¬ (false=true) from TX),T3]
theorem Sy {st:Store} {p:List Int×List Int} {n:Nat} {w:List eW} (h:af.Tn n p.1/\af.Tn n p.2) (hn:n<=100) (hw:∀ s∈w,HF s) (hl:w.length<=1000):Wp (Cb [bJ p,.tup (w.map aW)] st) fun d st'=>d=bJ (mI p w)/\Ex [] st st':=by
 refine fF ?_
 show Ws (Ez [some (bJ p),some (.tup (w.map aW)),none,none] st) _ _ _ _
 unfold Ez
 refine aV (bR ?_)
 kspl_open hQ
 refine hQ _ _ (aV (kL (w.map aW) (fun i δ st2=>∃ v2:Option D,δ=[some (bJ p),some (.tup (w.map aW)),some (bJ (mI p (w.take i))),v2]/\Ex [] st st2) ?_ (by rw [TJ];omega) ?_ ?_))
 ·clear hQ
  kspl_open hQ
  exact hQ _ _ ⟨rfl,none,rfl,Ex.refl⟩
 ·rintro i d δ st2 hd ⟨v2,rfl,k2⟩
  rw [TR] at hd
  obtain ⟨s,hs,rfl⟩:=Uj.mp hd
  obtain ⟨hil,es⟩:=TK.mp hs
  clear hQ
  kspl_open hQ
  refine hQ _ _ (bR ?_)
  clear hQ
  kspl_open hQ
  refine bw (Sx (LM h _) hn (hw s (T2 hs))) ?_
  rintro d st3 ⟨rfl,k3⟩
  refine hQ _ _ ⟨some (aW s),?_,k2.trans k3⟩
  rw [Ur hil,Sv,es]
  rfl
 ·rintro δ st2 ⟨v2,rfl,k2⟩
  rw [TJ,UH]
  refine dY ?_
  clear hQ
  kspl_open hQ
  exact hQ _ _ ⟨rfl,k2⟩
def lR (T:af.T4):D:=.tup [.int T.a,.int T.b,.int T.c,.int T.d]
def HG (A B:af.T4):Prop:=∀ x∈[A.a,A.b,A.c,A.d],∀ y∈[B.a,B.b,B.c,B.d],cJ x y=true
theorem E7 {A B:af.T4} (h:A.le 18446744073709551615):HG A B:=fun x hx y _=>by
 refine QJ ?_
 obtain ⟨h1,h2,h3,h4⟩:=h
 simp only [Up,V1,or_false] at hx
 rcases hx with rfl | rfl | rfl | rfl <;> omega
theorem LN {st:Store} {A B:af.T4} (h:HG A B):Wp (uS [lR A,lR B] st) fun d st'=>d=lR (A.mul B)/\Ex [] st st':=by
 refine fF ?_
 show Ws (EM [some (lR A),some (lR B)] st) _ _ _ _
 unfold EM lR
 refine dY ?_
 have hh:∀ x y:Int,x∈[A.a,A.b,A.c,A.d]->y∈[B.a,B.b,B.c,B.d]->cJ x y=true:=fun x y hx hy=>h x hx y hy
 have a1:∀ y∈[B.a,B.b,B.c,B.d],cJ A.a y=true:=h _ (by simp)
 have a2:∀ y∈[B.a,B.b,B.c,B.d],cJ A.b y=true:=h _ (by simp)
 have a3:∀ y∈[B.a,B.b,B.c,B.d],cJ A.c y=true:=h _ (by simp)
 have a4:∀ y∈[B.a,B.b,B.c,B.d],cJ A.d y=true:=h _ (by simp)
 refine b7 ?_
 intro dQ hQ
 set_option simprocs false in simp only [bG,Lg,at2,Qz]
 exact ⟨a1 _ (by simp),a2 _ (by simp),a1 _ (by simp),a2 _ (by simp),a3 _ (by simp),a4 _ (by simp),a3 _ (by simp),a4 _ (by simp),rfl,hQ _ _ ⟨rfl,Ex.refl⟩⟩
theorem Sz {st:Store} {s:eW} (h:af.eP s):Wp (Cy [aW s] st) fun d st'=>d=lR (af.kI s)/\Ex [] st st':=by
 obtain ⟨b,k⟩:=s
 refine fF ?_
 show Ws (EN [some (aW (b,k)),none,none] st) _ _ _ _
 unfold EN aW
 cases b with
 | true =>
  refine aV (i6 ?_)
  kspl_open hQ
  refine hQ _ _ ⟨fun _=>dY ?_,fun h=>absurd h (by decide)⟩
  clear hQ
  kspl_open hQ
  exact ⟨rfl,hQ _ _ ⟨rfl,Ex.refl⟩⟩
 | false =>
  obtain ⟨k1,k3⟩:=h.1 rfl
  simp only at k1 k3
  obtain ⟨j,rfl⟩:∃ j:Nat,k=(j:Int):=⟨k.toNat,by omega⟩
  refine aV (i6 ?_)
  kspl_open hQ
  refine hQ _ _ ⟨fun h=>absurd h (by decide),fun _=>kE (aV (bR ?_))⟩
  clear hQ
  kspl_open hQ
  refine hQ _ _ ?_
  clear hQ
  show Ws _ _ _ _ _
  refine aV (kL (aD 0 j) (fun i δ st2=>∃ v:Option D,δ=[some (.tup [.str "t",.int (j:Int)]),some (lR (af.qp i)),v]/\Ex [] st st2) ?_ (by rw [fE];omega) ?_ ?_)
  ·kspl_open hQ
   exact ⟨by omega,hQ _ _ ⟨by rw [T3],none,rfl,Ex.refl⟩⟩
  ·rintro i d δ st2 hd ⟨v,rfl,k2⟩
   kspl_open hQ
   refine hQ _ _ (bR ?_)
   clear hQ
   kspl_open hQ
   refine bw (LN (A:=af.T4.qt) (B:=af.qp i) (E7 ⟨by decide,by decide,by decide,by decide⟩)) ?_
   rintro d st3 ⟨rfl,k3⟩
   exact hQ _ _ ⟨_,rfl,k2.trans k3⟩
  ·rintro δ st2 ⟨v,rfl,k2⟩
   rw [fE]
   refine dY ?_
   kspl_open hQ
   refine hQ _ _ ⟨?_,k2⟩
   show lR (af.qp j)=lR (af.qp (j:Int).toNat)
   rw [T3]
theorem LO {s:eW} {B:Nat} (h:af.eP s) (hs:s.2.natAbs<=B):(af.kI s).le (B + 1):=by
 have:=af.uj (T:=af.T4.one) (s:=s) (M:=1) (B:=B) ⟨by decide,by decide,by decide,by decide⟩ h hs
 rwa [af.T4.mul_one,Nat.mul_one] at this
theorem LP {T:af.T4} {M N:Nat} (h:T.le M) (hn:M<=N):T.le N:=⟨Uh h.1 hn,Uh h.2.1 hn,Uh h.2.2.1 hn,Uh h.2.2.2 hn⟩
theorem SA {st:Store} {w:List eW} (hw:∀ s∈w,af.eP s/\s.2.natAbs<=4611686018427387904) (hl:w.length<=1000):Wp (CA [.tup (w.map aW)] st) fun d st'=>d=lR (af.bu w)/\Ex [] st st':=by
 refine fF ?_
 show Ws (ER [some (.tup (w.map aW)),none,none] st) _ _ _ _
 unfold ER
 refine aV (bR ?_)
 kspl_open hQ
 refine hQ _ _ ?_
 clear hQ
 show Ws _ _ _ _ _
 refine aV (kL (w.map aW) (fun i δ st2=>∃ v:Option D,δ=[some (.tup (w.map aW)),some (lR (af.bu (w.take i))),v]/\Ex [] st st2) ?_ (by rw [TJ];omega) ?_ ?_)
 ·kspl_open hQ
  exact hQ _ _ ⟨rfl,none,rfl,Ex.refl⟩
 ·rintro i d δ st2 hd ⟨v2,rfl,k2⟩
  rw [TR] at hd
  obtain ⟨s,hs,rfl⟩:=Uj.mp hd
  obtain ⟨hil,es⟩:=TK.mp hs
  have hsw:=hw s (T2 hs)
  kspl_open hQ
  refine hQ _ _ (bR ?_)
  clear hQ
  kspl_open hQ
  refine bw (Sz hsw.1) ?_
  rintro d st3 ⟨rfl,k3⟩
  refine bw (LN (E7 (LP (LO hsw.1 hsw.2) (by decide)))) ?_
  rintro d mN ⟨rfl,k4⟩
  refine hQ _ _ ⟨some (aW s),?_,(k2.trans k3).trans k4⟩
  rw [Ur hil,af.vY,es]
  rfl
 ·rintro δ st2 ⟨v2,rfl,k2⟩
  rw [TJ,UH]
  refine dY ?_
  kspl_open hQ
  exact hQ _ _ ⟨rfl,k2⟩
theorem SD {st:Store} {a b:eW}:Wp (Cd [aW a,aW b] st) fun d st'=>d=.tup ((af.b8 a b).map aW)/\Ex [] st st':=by
 obtain ⟨ab,ak⟩:=a
 obtain ⟨bb,bk⟩:=b
 refine fF ?_
 show Ws (EB [some (.tup [.str (if ab then "s" else "t"),.int ak]),some (.tup [.str (if bb then "s" else "t"),.int bk]),none] st) _ _ _ _
 unfold EB
 have hj:af.b8 (ab,ak) (bb,bk)=if af.gO (ab,ak) (bb,bk)=0 then [] else [(ab,af.gO (ab,ak) (bb,bk))]:=rfl
 refine aV (bR ?_)
 kspl_open hQ
 refine hQ _ _ ?_
 clear hQ
 show Ws _ _ _ _ _
 refine aV (xf (N:=fun δ st1=>st1=st/\δ=[some (.tup [.str (if ab then "s" else "t"),.int ak]),some (.tup [.str (if bb then "s" else "t"),.int bk]),some (.int (af.gO (ab,ak) (bb,bk)))]) (i6 ?_) ?_)
 ·kspl_open hQ
  refine hQ _ _ ⟨fun h=>bR ?_,fun h=>kE ⟨rfl,?_⟩⟩
  ·cases ab with
   | true=>exact absurd h (by decide)
   | false =>
    clear hQ
    kspl_open hQ
    exact ⟨by decide,hQ _ _ ⟨rfl,rfl⟩⟩
  ·cases ab with
   | true=>rfl
   | false=>exact absurd h (by decide)
 ·rintro δ st1 ⟨rfl,rfl⟩
  refine aV (i6 ?_)
  kspl_open hQ
  refine hQ _ _ ⟨fun h=>dY ?_,fun h=>kE (dY ?_)⟩
  ·have h:=of_decide_eq_true h
   clear hQ
   kspl_open hQ
   refine ⟨rfl,hQ _ _ ⟨?_,Ex.refl⟩⟩
   rw [hj,if_pos h];rfl
  ·have h:=of_decide_eq_false h
   clear hQ
   kspl_open hQ
   refine ⟨rfl,rfl,hQ _ _ ⟨?_,Ex.refl⟩⟩
   rw [hj,if_neg h];rfl
theorem HI {xs:List D} {x:D}:c5 (xs ++ [x]) (-1)=some x:=by
 unfold c5 lF
 rw [TN,if_neg (by decide),if_pos (by simp;omega)]
 simp only [U3]
 have e:((-1:Int) + ((xs.length + [x].length:Nat):Int)).toNat=xs.length:=by simp only [UW];omega
 rw [e];simp
theorem SE {xs:List D} {x:D}:cutD (xs ++ [x]) none (some (-1))=xs:=by
 have e1:HT.cn (xs ++ [x]).length 0 none=0:=rfl
 have e2:HT.cn (xs ++ [x]).length (xs ++ [x]).length (some (-1))=xs.length:=by
  unfold HT.cn
  simp only
  rw [if_pos (by decide),TN,UW];omega
 unfold cutD
 rw [e1,e2,VN,Nat.sub_zero]
 simp
theorem SF (a b:Bool):(((if a=true then ("s" : Str) else "t")=(if b=true then ("s" : Str) else "t")))↔a=b:=by
 cases a <;> cases b <;> decide
theorem SG {st:Store} {w:List eW} (hl:w.length<=1000):Wp (Cf [.tup (w.map aW)] st) fun d st'=>d=.tup ((af.jG w).reverse.map aW)/\Ex [] st st':=by
 refine fF ?_
 show Ws (EC [some (.tup (w.map aW)),none,none] st) _ _ _ _
 unfold EC
 refine aV (bR ?_)
 kspl_open hQ
 refine ⟨rfl,hQ _ _ ?_⟩
 clear hQ
 show Ws _ _ _ _ _
 refine aV (kL (w.map aW) (fun i δ st2=>∃ v:Option D,δ=[some (.tup (w.map aW)),some (.tup ((af.jG (w.take i)).reverse.map aW)),v]/\Ex [] st st2) ?_ (by rw [TJ];omega) ?_ ?_)
 ·kspl_open hQ
  exact hQ _ _ ⟨rfl,none,rfl,Ex.refl⟩
 ·rintro i d δ st2 hd ⟨v2,rfl,k2⟩
  rw [TR] at hd
  obtain ⟨s,hs,rfl⟩:=Uj.mp hd
  obtain ⟨hil,es⟩:=TK.mp hs
  have ep:af.jG (w.take (i + 1))=af.bP (af.jG (w.take i)) s:=by rw [Ur hil,af.Gy,es];rfl
  have hpl:(af.jG (w.take i)).length<=1000:=by have:=af.Gz (w.take i);rw [UJ] at this;omega
  rw [ep]
  clear ep
  generalize af.jG (w.take i)=l at hpl ⊢
  kspl_open hQ
  refine hQ _ _ (i6 ?_)
  clear hQ
  kspl_open hQ
  cases l with
  | nil =>
   refine hQ _ _ ⟨fun h=>absurd h (by decide),fun _=>bR ?_⟩
   clear hQ
   kspl_open hQ
   exact ⟨rfl,rfl,hQ _ _ ⟨some (aW s),rfl,k2⟩⟩
  | cons t r =>
   have eg:(t :: r).reverse.map aW=r.reverse.map aW ++ [aW t]:=by simp
   rw [eg]
   have el:decide ((0:Int) < ((r.reverse.map aW ++ [aW t]).length:Nat))=true:=decide_eq_true (by simp)
   have es1:aW t=.tup [.str (if t.1 then "s" else "t"),.int t.2]:=rfl
   have E8:aW s=.tup [.str (if s.1 then "s" else "t"),.int s.2]:=rfl
   have elt:(if t.1=true then ("s" : Str) else "t")=(if s.1=true then ("s" : Str) else "t")↔t.1=s.1:=SF _ _
   set_option simprocs false in simp only [bG,HI,es1,E8]
   rw [if_pos (by simp)]
   refine hQ _ _ ⟨fun h=>bR ?_,fun h=>bR ?_⟩
   ·have h:=elt.mp (of_decide_eq_true h)
    clear hQ
    kspl_open hQ
    rw [eg,SE]
    set_option simprocs false in simp only [bG,HI]
    refine bw SD ?_
    rintro d st3 ⟨rfl,k3⟩
    w_how
    refine ⟨gI ?_,hQ _ _ ⟨some (aW s),?_,k2.trans k3⟩⟩
    ·have:(af.b8 t s).length<=1:=by unfold af.b8;split <;> simp
     simp only [TJ,Uu]
     simp only [Uo] at hpl
     omega
    ·have ej:(af.b8 t s).reverse=af.b8 t s:=by unfold af.b8;split <;> rfl
     rw [af.rM,if_pos h,List.reverse_append,T6,ej]
     rfl
   ·have h:=fun e=>of_decide_eq_false h (elt.mpr e)
    clear hQ
    kspl_open hQ
    refine ⟨rfl,gI ?_,hQ _ _ ⟨some (aW s),?_,k2⟩⟩
    ·simp only [TJ,Uu,UW]
     omega
    ·have e2:(s :: t :: r).reverse.map aW=(t :: r).reverse.map aW ++ [aW s]:=by simp
     rw [af.rM,if_neg h,e2]
     rfl
 ·rintro δ st2 ⟨v2,rfl,k2⟩
  rw [TJ,UH]
  refine dY ?_
  kspl_open hQ
  exact hQ _ _ ⟨rfl,k2⟩
theorem SH {st:Store} {v w:List eW} (hl:v.length + w.length<=1000):Wp (Cj [.tup (v.map aW),.tup (w.map aW)] st) fun d st'=>d=.tup ((af.jG (v ++ w)).reverse.map aW)/\Ex [] st st':=by
 refine fF ?_
 show Ws (ED [some (.tup (v.map aW)),some (.tup (w.map aW))] st) _ _ _ _
 unfold ED
 refine dY ?_
 kspl_open hQ
 refine ⟨gI (by simp only [TJ];omega),?_⟩
 rw [<- T6]
 refine bw (SG (by rw [TN];exact hl)) ?_
 rintro d st3 ⟨rfl,k3⟩
 exact hQ _ _ ⟨rfl,k3⟩
theorem SI {st:Store} {s:eW}:Wp (CC [aW s] st) fun d st'=>d=aW (af.iS s)/\Ex [] st st':=by
 obtain ⟨b,k⟩:=s
 refine fF ?_
 show Ws (ET [some (.tup [.str (if b then "s" else "t"),.int k])] st) _ _ _ _
 unfold ET
 refine aV (i6 ?_)
 cases b with
 | true =>
  kspl_open hQ
  refine hQ _ _ ⟨fun _=>dY ?_,fun h=>absurd h (by decide)⟩
  clear hQ
  kspl_open hQ
  exact ⟨rfl,hQ _ _ ⟨rfl,Ex.refl⟩⟩
 | false =>
  kspl_open hQ
  refine hQ _ _ ⟨fun h=>absurd h (by decide),fun _=>kE (dY ?_)⟩
  clear hQ
  kspl_open hQ
  exact ⟨rfl,hQ _ _ ⟨rfl,Ex.refl⟩⟩
theorem SJ {st:Store} {w:List eW} (hl:w.length<=1000):Wp (CF [.tup (w.map aW)] st) fun d st'=>d=.tup ((af.kU w).map aW)/\Ex [] st st':=by
 refine fF ?_
 show Ws (EU [some (.tup (w.map aW))] st) _ _ _ _
 unfold EU
 refine dY ?_
 kspl_open hQ
 refine QC (w.reverse.map aW) (fun i y=>∃ s,w.reverse[i]?=some s/\y=aW (af.iS s)) (Ex [] st) ?_ (by rw [TJ,Uu];omega) ?_ ?_
 ·refine b7 ?_
  intro gw bU
  set_option simprocs false in simp only [bG,Lb]
  refine ⟨_,rfl,bU _ _ ⟨fun i st2 hi _=>?_,Ex.refl⟩⟩
  rw [<- VE]
  exact rR _ st2 i st2 hi Ex.refl
 ·intro i d hd st1 k1
  rw [TR] at hd
  obtain ⟨s,hs,rfl⟩:=Uj.mp hd
  kspl_open bU
  refine bw SI ?_
  rintro d st3 ⟨rfl,k3⟩
  exact bU _ _ ⟨⟨s,hs,rfl⟩,k1.trans k3⟩
 ·intro ys st' k' hy h
  w_how
  refine hQ _ _ ⟨?_,k'.app _⟩
  congr 1
  refine List.ext_getElem? fun i=>?_
  rw [TJ,Uu] at hy
  have eb:af.kU w=w.reverse.map af.iS:=by unfold af.kU;rw [VE]
  rw [eb,TR,TR]
  rcases Vn i ys.length with hi | hi
  ·obtain ⟨s,hs,e⟩:=h i ys[i] (TL hi)
   rw [hs,TL hi,e];rfl
  ·rw [U6 hi,U6 (by rw [Uu];omega)];rfl
theorem LQ {st:Store} {A B:af.T4} (h:HG A B):Wp (Cp [lR A,lR B] st) fun d st'=>d=lR (A.mul B)/\Ex [] st st':=by
 refine fF ?_
 show Ws (EG [some (lR A),some (lR B),none,none,none,none,none,none,none,none] st) _ _ _ _
 unfold EG lR
 have a1:∀ y∈[B.a,B.b,B.c,B.d],cJ A.a y=true:=h _ (by simp)
 have a2:∀ y∈[B.a,B.b,B.c,B.d],cJ A.b y=true:=h _ (by simp)
 have a3:∀ y∈[B.a,B.b,B.c,B.d],cJ A.c y=true:=h _ (by simp)
 have a4:∀ y∈[B.a,B.b,B.c,B.d],cJ A.d y=true:=h _ (by simp)
 refine aV (qd ?_)
 kspl_open hQ
 refine hQ _ _ ?_
 clear hQ
 kspl_open hQ
 refine ⟨rfl,hQ _ _ (aV (qd ?_))⟩
 clear hQ
 kspl_open hQ
 refine hQ _ _ ?_
 clear hQ
 kspl_open hQ
 refine ⟨rfl,hQ _ _ (dY ?_)⟩
 clear hQ
 refine b7 ?_
 intro dQ hQ
 set_option simprocs false in simp only [bG,Lg]
 exact ⟨a1 _ (by simp),a2 _ (by simp),a1 _ (by simp),a2 _ (by simp),a3 _ (by simp),a4 _ (by simp),a3 _ (by simp),a4 _ (by simp),rfl,hQ _ _ ⟨rfl,Ex.refl⟩⟩
theorem SK {st:Store} {w:List eW} (hw:∀ s∈w,af.eP s/\s.2.natAbs<=1000000) (hl:w.length<=1000):Wp (yV [.tup (w.map aW)] st) fun d st'=>d=lR (af.bu w)/\Ex [] st st':=by
 refine fF ?_
 show Ws (EH [some (.tup (w.map aW)),none,none,none,none] st) _ _ _ _
 unfold EH
 refine aV (bR ?_)
 kspl_open hQ
 refine ⟨rfl,hQ _ _ ?_⟩
 clear hQ
 show Ws _ _ _ _ _
 refine aV (kL (w.map aW) (fun i δ st2=>∃ v1 v2 v3:Option D,δ=[some (.tup (w.map aW)),some (lR (af.bu (w.take i))),v1,v2,v3]/\Ex [] st st2) ?_ (by rw [TJ];omega) ?_ ?_)
 ·kspl_open hQ
  exact hQ _ _ ⟨rfl,none,none,none,rfl,Ex.refl⟩
 ·rintro i d δ st2 hd ⟨v1,v2,v3,rfl,k2⟩
  rw [TR] at hd
  obtain ⟨s,hs,rfl⟩:=Uj.mp hd
  obtain ⟨hil,es⟩:=TK.mp hs
  obtain ⟨hp,hb⟩:=hw s (T2 hs)
  have en:af.bu (w.take (i + 1))=(af.kI s).mul (af.bu (w.take i)):=by rw [Ur hil,af.vY,es]
  rw [en]
  clear en
  generalize af.bu (w.take i)=T
  obtain ⟨b,k⟩:=s
  have es1:aW (b,k)=.tup [.str (if b then "s" else "t"),.int k]:=rfl
  rw [es1]
  kspl_open hQ
  refine ⟨rfl,hQ _ _ ?_⟩
  clear hQ
  show Ws _ _ _ _ _
  cases b with
  | true =>
   refine kL (aD 0 1) (fun i δ st3=>∃ v3:Option D,δ=[some (.tup (w.map aW)),some (lR (if i=0 then T else (af.kI (true,k)).mul T)),some (.str "s"),some (.int k),v3]/\Ex [] st st3) ?_ (by rw [fE];omega) ?_ ?_
   ·kspl_open hQ
    refine ⟨rfl,.int 1,by rw [if_neg (by decide)];exact Hc _ _,_,rfl,?_⟩
    exact ⟨by decide,hQ _ _ ⟨rfl,_,rfl,k2.trans (Ex.b5 _)⟩⟩
   ·rintro i d δ st3 hd ⟨w3,rfl,k3⟩
    have hi0:i=0:=by have:=cZ hd;rw [fE] at this;omega
    subst hi0
    kspl_open hQ
    refine hQ _ _ (bR ?_)
    clear hQ
    kspl_open hQ
    refine ⟨rfl,rfl,rfl,lR (af.kI (true,k)),by rw [if_neg (by decide)];exact Hc _ _,?_⟩
    refine bw (LQ (A:=af.kI (true,k)) (B:=T) (E7 (LP (LO hp hb) (by decide)))) ?_
    rintro d mN ⟨rfl,k4⟩
    exact hQ _ _ ⟨_,rfl,(k3.trans (Ex.b5 _)).trans k4⟩
   ·rintro δ st3 ⟨w3,rfl,k3⟩
    exact ⟨_,_,_,rfl,k3⟩
  | false =>
   obtain ⟨j1,j3⟩:=hp.1 rfl
   simp only at j1 j3
   obtain ⟨j,rfl⟩:∃ j:Nat,k=(j:Int):=⟨k.toNat,by omega⟩
   refine kL (aD 0 j) (fun i δ st3=>∃ v3:Option D,δ=[some (.tup (w.map aW)),some (lR ((af.qp i).mul T)),some (.str "t"),some (.int (j:Int)),v3]/\Ex [] st st3) ?_ (by rw [fE];omega) ?_ ?_
   ·kspl_open hQ
    refine ⟨rfl,.int (j:Int),by rw [if_pos (by decide)];exact Hd _ _ _,_,rfl,?_⟩
    refine ⟨by omega,hQ _ _ ⟨by rw [T3],v3,?_,k2.trans (Ex.b5 _)⟩⟩
    rw [show (af.qp 0).mul T=T from af.T4.one_mul T]
    rfl
   ·rintro i d δ st3 hd ⟨w3,rfl,k3⟩
    kspl_open hQ
    refine hQ _ _ (bR ?_)
    clear hQ
    kspl_open hQ
    refine ⟨rfl,rfl,rfl,lR af.T4.qt,by rw [if_pos (by decide)];exact Hd _ _ _,?_⟩
    refine bw (LQ (A:=af.T4.qt) (B:=(af.qp i).mul T) (E7 ⟨by decide,by decide,by decide,by decide⟩)) ?_
    rintro d' mN ⟨rfl,k4⟩
    refine hQ _ _ ⟨some d,?_,(k3.trans (Ex.b5 _)).trans k4⟩
    rw [show (af.qp (i + 1)).mul T=af.T4.qt.mul ((af.qp i).mul T) from af.T4.assoc _ _ _]
    rfl
   ·rintro δ st3 ⟨w3,rfl,k3⟩
    rw [fE]
    exact ⟨_,_,_,rfl,k3⟩
 ·rintro δ st2 ⟨v1,v2,v3,rfl,k2⟩
  rw [TJ,UH]
  refine dY ?_
  kspl_open hQ
  exact hQ _ _ ⟨rfl,k2⟩
theorem SM {st:Store} {xs ys:List Int} {n:Nat} {s:Int} (fl:mQ n xs ys) (hn:n<=100) (s0:0<=s) (s1:s < (n:Int)):Wp (BS [b6 xs ys,.int s] st) fun d st'=>d=.tup ((af.inv (af.bf xs ys s n)).map D.int)/\Ex [] st st':=by
 obtain ⟨tx,ty,all⟩:=fl
 refine fF ?_
 show Ws (El [some (b6 xs ys),some (.int s)] st) _ _ _ _
 unfold El
 refine dY ?_
 kspl_open hQ
 refine bw (R7 tx ty hn s0 s1) ?_
 rintro d st1 ⟨rfl,k1⟩
 refine bw (Hy (af.Dy tx ty s0 s1 all) hn) ?_
 rintro d st2 ⟨rfl,k2⟩
 exact hQ _ _ ⟨rfl,k1.trans k2⟩
def x5 (xs ys:List Int) (s:Int) (n:Nat):D:=b6 (af.num xs (af.bf xs ys s n)) (af.num ys (af.bf xs ys s n))
theorem SN {st:Store} {xs ys:List Int} {n:Nat} {s:Int} (fl:mQ n xs ys) (hn:n<=100) (s0:0<=s) (s1:s < (n:Int)):Wp (BV [b6 xs ys,.int s] st) fun d st'=>d=x5 xs ys s n/\Ex [] st st':=by
 have SO:=fl
 obtain ⟨tx,ty,all⟩:=fl
 have tb:=af.Dy tx ty s0 s1 all
 refine fF ?_
 show Ws (Em [some (b6 xs ys),some (.int s)] st) _ _ _ _
 unfold Em
 refine dY ?_
 kspl_open hQ
 refine bw (SM SO hn s0 s1) ?_
 rintro d st1 ⟨rfl,k1⟩
 refine bw (R6 tx ty tb.aA hn) ?_
 rintro d st2 ⟨rfl,k2⟩
 rw [af.Dz tx tb,af.Dz ty tb]
 exact hQ _ _ ⟨rfl,k1.trans k2⟩
theorem SQ {st:Store} {xs ys:List Int} {n:Nat} {s:Int} (fl:mQ n xs ys) (hn:n<=100) (s0:0<=s) (s1:s < (n:Int)):Wp (BD [b6 xs ys,.int s] st) fun d st'=>d=x5 xs ys s n/\Ex [] st st':=by
 obtain ⟨tx,ty,all⟩:=fl
 have hlx:=tx.length
 have y2:=ty.length
 refine fF ?_
 show Ws (D7 [some (b6 xs ys),some (.int s),none,none,none] st) _ _ _ _
 unfold D7
 refine aV (bR ?_)
 kspl_open hQ
 refine ⟨rfl,hQ _ _ (aV (G7 ((af.upto n).map D.int) (st.length + 2) (fun k δ st2=>∃ (v3 v4:Option D),δ=[some (b6 xs ys),some (.int s),some (.ref st.length),v3,v4]/\st2[st.length]?=some (.lst ((af.bf xs ys s k).map D.int))/\st2[st.length + 2]?=some (.lst ((af.upto n).map D.int))/\Ex [] st st2) ?_ ?_ ?_ ?_ ?_))⟩
 ·clear hQ
  unfold b6
  kspl_open hQ
  rw [TJ,hlx,show ((n:Int) - 0).toNat=n by omega,p5]
  have e:(st ++ [O.lst [D.int s]] ++ [O.iY 0 (n:Int)]).length=st.length + 2:=by simp
  rw [e]
  exact ⟨sS (by omega),hQ _ _ ⟨rfl,none,none,rfl,jI (jI gH),by rw [<- e];exact gH,((Ex.b5 _).app _).app _⟩⟩
 ·rw [TJ,af.oz];omega
 ·rintro k δ st2 ⟨_,_,_,_,h,_⟩
  exact bF h
 ·rintro k d δ st2 hd ⟨v3,v4,rfl,hl,hr,k2⟩
  obtain ⟨x',hx',rfl⟩:=Bo hd
  have hkn:=cZ hx'
  rw [af.oz] at hkn
  rw [af.Ak hkn] at hx'
  cases hx'
  have tj:=af.An tx ty s0 s1 k
  have hb1:=af.An tx ty s0 s1 (k + 1)
  clear hQ
  kspl_open hQ
  refine hQ _ _ ?_
  clear hQ
  by_cases nF:k < (af.bf xs ys s k).length
  ·obtain ⟨x,hx⟩:∃ x,(af.bf xs ys s k)[k]?=some x:=⟨_,TL nF⟩
   obtain ⟨x0,x1⟩:=af.pX tx ty s0 s1 k x (T2 hx)
   have e1:af.bf xs ys s (k + 1)=af.visit xs ys (af.bf xs ys s k) x:=by
    show (match (af.bf xs ys s k)[k]? with | some x=>af.visit xs ys (af.bf xs ys s k) x | none=>af.bf xs ys s k)=_
    rw [hx]
   rw [e1] at hb1 ⊢
   have hp1:=(af.ui (af.cq (af.bf xs ys s k) (af.app xs x)) (af.app ys x)).length_le
   have hp0:=(af.ui (af.bf xs ys s k) (af.app xs x)).length_le
   change _<=(af.visit xs ys (af.bf xs ys s k) x).length at hp1
   refine kL [.tup (xs.map D.int),.tup (ys.map D.int)] (fun m δ st3=>∃ (v4:Option D) (G:List Int),δ=[some (b6 xs ys),some (.int s),some (.ref st.length),some (.int (k:Int)),v4]/\st3[st.length]?=some (.lst (G.map D.int))/\st3[st.length + 2]?=some (.lst ((af.upto n).map D.int))/\(m=0->G=af.bf xs ys s k)/\(m=1->G=af.cq (af.bf xs ys s k) (af.app xs x))/\(m=2->G=af.visit xs ys (af.bf xs ys s k) x)/\Ex [] st st3) ?_ (by simp) ?_ ?_
   ·unfold b6
    kspl_open hQ
    exact hQ _ _ ⟨rfl,v4,_,rfl,hl,hr,fun _=>rfl,fun z=>by omega,fun z=>by omega,k2⟩
   ·rintro m z δ st3 hm ⟨v4,G,rfl,hl3,oK,g0,g1,_,k3⟩
    have hm2:m < 2:=cZ hm
    obtain ⟨zs,rfl,tz,em⟩:∃ (zs:List Int),z=.tup (zs.map D.int)/\af.Tn n zs/\((m=0/\zs=xs)\/(m=1/\zs=ys)):=by
     rcases (show m=0\/m=1 by omega) with rfl | rfl
     ·exact ⟨xs,by simpa using hm.symm,tx,.inl ⟨rfl,rfl⟩⟩
     ·exact ⟨ys,by simpa using hm.symm,ty,.inr ⟨rfl,rfl⟩⟩
    have hG:G.length<=100/\G[k]?=some x/\k < G.length:=by
     rcases em with ⟨rfl,_⟩ | ⟨rfl,_⟩
     ·rw [g0 rfl];exact ⟨by omega,hx,nF⟩
     ·rw [g1 rfl]
      refine ⟨by omega,?_,by omega⟩
      obtain ⟨t,e⟩:=af.ui (af.bf xs ys s k) (af.app xs x)
      rw [<- e,T1 nF];exact hx
    have CN:∀ G',G'=af.cq G (af.app zs x)->(m + 1=0->G'=af.bf xs ys s k)/\(m + 1=1->G'=af.cq (af.bf xs ys s k) (af.app xs x))/\(m + 1=2->G'=af.visit xs ys (af.bf xs ys s k) x):=fun G' e=>by
     rcases em with ⟨rfl,rfl⟩ | ⟨rfl,rfl⟩
     ·exact ⟨fun z=>by omega,fun _=>by rw [e,g0 rfl],fun z=>by omega⟩
     ·exact ⟨fun z=>by omega,fun z=>by omega,fun _=>by rw [e,g1 rfl];rfl⟩
    have hat:c5 (G.map D.int) (k:Int)=some (.int x):=yj (by rw [TR,hG.2.1];rfl)
    have hdt:decide ((k:Int) < ((G.map D.int).length:Int))=true:=decide_eq_true (by rw [TJ];omega)
    kspl_open hQ
    refine hQ _ _ (i6 ?_)
    clear hQ
    refine b7 ?_
    intro dQ hQ
    set_option simprocs false in simp only [bG,bF hl3,hdt,hat,p6 (xs:=zs) x0 (by rw [tz.length];exact x1),DS (st:=st3) (c:=.ref st.length) (ns:=G) (bF hl3)]
    refine hQ _ _ ⟨fun hc=>nP ?_,fun hc=>kE ?_⟩
    ·obtain ⟨n0,n1,n2⟩:=CN (G ++ [af.app zs x]) (LD hc).symm
     refine b7 ?_
     intro gw bU
     set_option simprocs false in simp only [bG,bF hl3,hat,p6 (xs:=zs) x0 (by rw [tz.length];exact x1),jg hl3]
     refine ⟨lP (by rw [bF hl3];rfl),gI (by rw [TJ];omega),bU _ _ ⟨_,G ++ [af.app zs x],rfl,?_,?_,n0,n1,n2,k3.loc (TM _)⟩⟩
     ·rw [TQ (cZ hl3),T6];rfl
     ·rw [TV (by omega)];exact oK
    ·obtain ⟨n0,n1,n2⟩:=CN G (LF hc).symm
     exact ⟨_,G,rfl,hl3,oK,n0,n1,n2,k3⟩
   ·rintro δ st3 ⟨v4,G,rfl,hl3,oK,_,_,g2,k3⟩
    have g2:=g2 rfl
    subst g2
    exact ⟨_,_,rfl,hl3,oK,k3⟩
  ·have e1:af.bf xs ys s (k + 1)=af.bf xs ys s k:=af.Dx (k:=k) (by omega) 1
   rw [e1]
   have hdf:decide ((k:Int) < (((af.bf xs ys s k).map D.int).length:Int))=false:=decide_eq_false (by rw [TJ];omega)
   refine kL [.tup (xs.map D.int),.tup (ys.map D.int)] (fun m δ st3=>∃ (v4:Option D),δ=[some (b6 xs ys),some (.int s),some (.ref st.length),some (.int (k:Int)),v4]/\st3=st2) ?_ (by simp) ?_ ?_
   ·unfold b6
    kspl_open hQ
    exact hQ _ _ ⟨rfl,v4,rfl,rfl⟩
   ·rintro m z δ st3 hm ⟨v4,rfl,rfl⟩
    kspl_open hQ
    refine hQ _ _ (i6 ?_)
    clear hQ
    refine b7 ?_
    intro dQ hQ
    set_option simprocs false in simp only [bG,bF hl,hdf]
    exact hQ _ _ ⟨fun h=>absurd h (by decide),fun _=>kE ⟨_,rfl,rfl⟩⟩
   ·rintro δ st3 ⟨v4,rfl,rfl⟩
    exact ⟨_,_,rfl,hl,hr,k2⟩
 ·rintro δ st2 ⟨v3,v4,rfl,hl,hr,k2⟩
  rw [TJ,af.oz] at hl
  have tb:=af.Dy tx ty s0 s1 all
  have hlb:=tb.length
  generalize CQ:af.bf xs ys s n=sq at hl tb hlb ⊢
  clear hQ
  unfold b6
  refine dY ?_
  kspl_open hQ
  refine rS [.tup (xs.map D.int),.tup (ys.map D.int)] (fun d=>match d with | .tup ds=>.tup ((af.num (ds.map inD) sq).map D.int) | _=>.non) ?_ (by simp) ?_ ?_
  ·kspl_open bU
   exact bU _ _ ⟨rR _ _,Ex.refl⟩
  ·intro d hd st3 k3
   obtain ⟨zs,rfl,tz⟩:∃ zs:List Int,d=.tup (zs.map D.int)/\af.Tn n zs:=by
    rcases Up.mp hd with rfl | hd
    ·exact ⟨xs,rfl,tx⟩
    ·exact ⟨ys,Ud.mp hd,ty⟩
   have hl3:=k3.keep _ _ hl (by simp)
   refine b7 ?_
   intro gw bU
   set_option simprocs false in simp only [bG,Ui,UB,Uy,Uz]
   refine rS (sq.map D.int) (fun d=>.int (sq.idxOf (af.app zs (inD d)):Int)) ?_ (by rw [TJ];omega) ?_ ?_
   ·kspl_open rA
    exact ⟨_,bF hl3,rA _ _ ⟨Qs (bF hl3),Ex.refl⟩⟩
   ·intro d hd mN k4
    obtain ⟨x,hx,rfl⟩:=xD hd
    obtain ⟨x0,x1⟩:=tb.bound hx
    obtain ⟨a0,a1⟩:=tz.app x0 x1
    have y4:=k4.keep _ _ hl3 (by simp)
    refine b7 ?_
    intro CK rA
    set_option simprocs false in simp only [bG,Ui,UB,Uy,Uz,p6 (xs:=zs) x0 (by rw [tz.length];exact x1),P6 (bF y4) (tb.mem a0 a1) (by omega) (fun i hi=>by have:=tb.bound hi;omega)]
    exact ⟨lP (by rw [bF y4];rfl),rA _ _ ⟨rfl,Ex.refl⟩⟩
   ·intro mN k4
    rw [Bp (f:=fun x=>(sq.idxOf (af.app zs x):Int)) fun x hx=>rfl]
    w_how
    refine bU _ _ ⟨?_,k4.app _⟩
    show D.tup _=D.tup ((af.num ((zs.map D.int).map inD) sq).map D.int)
    rw [K3]
    rfl
  ·intro st3 k3
   w_how
   refine hQ _ _ ⟨?_,(k2.trans k3).app _⟩
   simp only [Ui,UB,K3]
   unfold x5
   rw [CQ]
   rfl
theorem LR {n:Nat} {xs ys:List Int} (fl:mQ n xs ys):af.Wh n (xs,ys):=⟨⟨fl.1,fl.2.1⟩,fl.2.2⟩
theorem E9 {n:Nat} {p:af.aU} (w:af.Wh n p):mQ n p.1 p.2:=⟨w.v.1,w.v.2,w.all⟩
theorem LS (p:af.aU) (n:Nat):(aD 0 n).map (fun d=>b6 (af.p9 p n (inD d)).1 (af.p9 p n (inD d)).2)=((af.upto n).map (af.p9 p n)).map fun q=>b6 q.1 q.2:=by
 rw [p5,Uq,Uq]
 rfl
theorem LU {st:Store} {xs ys:List Int} {n:Nat} (fl:mQ n xs ys) (n0:0 < n) (hn:n<=20):Wp (uQ [b6 xs ys] st) fun d st'=>d=b6 (af.cE n (xs,ys)).1 (af.cE n (xs,ys)).2/\Ex [] st st':=by
 have hlx:=fl.1.length
 refine fF ?_
 show Ws (En [some (b6 xs ys)] st) _ _ _ _
 unfold En
 refine dY ?_
 kspl_open hQ
 refine rS (aD 0 n) (fun d=>b6 (af.p9 (xs,ys) n (inD d)).1 (af.p9 (xs,ys) n (inD d)).2) ?_ (by rw [fE];omega) ?_ ?_
 ·unfold b6
  kspl_open bU
  rw [TJ,hlx]
  exact ⟨by omega,bU _ _ ⟨by rw [T3];exact rR _ _,Ex.refl⟩⟩
 ·intro d hd st2 k2
  rw [p5] at hd
  obtain ⟨x,hx,rfl⟩:=xD hd
  obtain ⟨x0,x1⟩:=af.lV.mp hx
  refine b7 ?_
  intro gw bU
  set_option simprocs false in simp only [bG,Ui,UB,Uy,Uz]
  refine bw (SN fl (by omega) x0 x1) ?_
  rintro d st3 ⟨rfl,k3⟩
  exact bU _ _ ⟨rfl,k3⟩
 ·intro st' k'
  rw [LS,Lf (jg gH) (by rw [TJ,af.oz];exact n0)]
  exact hQ _ _ ⟨rfl,k'.app _⟩
theorem LV {st:Store} {xs ys:List Int} {n:Nat} (fl:mQ n xs ys) (n0:0 < n) (hn:n<=20):Wp (uO [b6 xs ys] st) fun d st'=>d=b6 (af.cE n (xs,ys)).1 (af.cE n (xs,ys)).2/\Ex [] st st':=by
 have hlx:=fl.1.length
 refine fF ?_
 show Ws (D9 [some (b6 xs ys)] st) _ _ _ _
 unfold D9
 refine dY ?_
 kspl_open hQ
 refine rS (aD 0 n) (fun d=>b6 (af.p9 (xs,ys) n (inD d)).1 (af.p9 (xs,ys) n (inD d)).2) ?_ (by rw [fE];omega) ?_ ?_
 ·unfold b6
  kspl_open bU
  rw [TJ,hlx]
  exact ⟨by omega,bU _ _ ⟨by rw [T3];exact rR _ _,Ex.refl⟩⟩
 ·intro d hd st2 k2
  rw [p5] at hd
  obtain ⟨x,hx,rfl⟩:=xD hd
  obtain ⟨x0,x1⟩:=af.lV.mp hx
  refine b7 ?_
  intro gw bU
  set_option simprocs false in simp only [bG,Ui,UB,Uy,Uz]
  refine bw (SQ fl (by omega) x0 x1) ?_
  rintro d st3 ⟨rfl,k3⟩
  exact bU _ _ ⟨rfl,k3⟩
 ·intro st' k'
  rw [LS,Lf (jg gH) (by rw [TJ,af.oz];exact n0)]
  exact hQ _ _ ⟨rfl,k'.app _⟩
theorem Aj {n:Nat} {f:Int->Int} {x:Int} (x0:0<=x) (x1:x < (n:Int)):af.app ((af.upto n).map f) x=f x:=by
 unfold af.app
 rw [T9,TR,af.Ak (by omega)]
 show f ((x.toNat:Nat):Int)=f x
 rw [Um x0]
theorem LW (w:List eW):(af.kU w).length=w.length:=by unfold af.kU;rw [Uu,TJ]
open Classical in
theorem SR {st:Store} {Q:D->Store->Prop} {neg:Bool} {n a b:Nat} {ds es:List D} (ha:items st a=some ds) (hb:items st b=some es) (h1:∀ d∈ds,pU n d) (h2:∀ d∈es,pU n d) (hn:n<=14):Wp (lM neg (.ref a) (.ref b) st) Q↔Q (.bl (if neg then !decide (ds=es) else decide (ds=es))) st:=by
 have p1:∀ (i:Nat) (l:List D),items st i=some l->(∀ d∈l,pU n d)->dX st 20 (.ref i)=some (.list (l.map (gS n))):=fun i l h hl=>by
  simp only [dX,h]
  rw [Bq (g:=gS n) fun x hx=>rT n x (hl x hx) 19 (by omega) st]
  rfl
 have e:PyData.eqv (.list (ds.map (gS n))) (.list (es.map (gS n)))=decide (ds=es):=by
  rw [Hh]
  have:=Hl (yH n) ds es h1 h2
  cases h:PyData.eqvAll (ds.map (gS n)) (es.map (gS n)) with
  | true=>exact (decide_eq_true (this.mp h)).symm
  | false=>exact (decide_eq_false fun z=>by rw [this.mpr z] at h;cases h).symm
 have ly:∀ l:List D,(∀ d∈l,pU n d)->PyData.canLay0 (.list (l.map (gS n)))=true/\PyData.depth (.list (l.map (gS n)))<=n + 1:=fun l hl=>by
  refine ⟨?_,?_⟩
  ·show PyData.canLayAll0 (l.map (gS n))=true
   exact Hj fun x hx=>by
    obtain ⟨d,hd,rfl⟩:=Ub.mp hx
    exact (rg n d (hl d hd)).1
  ·show PyData.depthAll (l.map (gS n)) + 1<=n + 1
   have:=Hk (n:=n) (l:=l.map (gS n)) fun x hx=>by
    obtain ⟨d,hd,rfl⟩:=Ub.mp hx
    exact (rg n d (hl d hd)).2
   omega
 rw [G9]
 constructor
 ·rintro ⟨p,q,e1,e2,_,h⟩
  rw [p1 a ds ha h1] at e1
  rw [p1 b es hb h2] at e2
  cases e1
  cases e2
  rw [e] at h
  exact h
 ·intro h
  refine ⟨_,_,p1 a ds ha h1,p1 b es hb h2,⟨(ly ds h1).1,(ly es h2).1,?_⟩,?_⟩
  ·have:=(ly ds h1).2
   omega
  ·rw [e];exact h
theorem LX {R:List eW} {b:Bool} {k:Int} (pa:af.eP (b,k)) (h:∀ (t:eW) (r:List eW),R=t :: r->t.1≠b):af.bP R (b,k)=(if (if b=true then k else k % 4)=0 then R else (b,if b=true then k else k % 4) :: R):=by
 have e:(if b=true then k else k % 4)=k:=by
  cases b with
  | true=>rfl
  | false =>
   have:=pa.1 rfl
   simp only at this
   rw [if_neg TX];omega
 rw [e,if_neg pa.2]
 exact af.Gx fun t ht=>by
  cases R with
  | nil=>cases ht
  | cons x r=>cases ht;exact fun z=>h _ _ rfl z.symm
theorem HJ {st s2:Store} {w0:D} {b:Bool} {k':Int} {R' X:List eW} {N B C:aq->Store->Prop} {R:D->Store->Prop} (h2:s2[st.length]?=some (.lst (R'.reverse.map aW))) (k2:Ex [] st s2) (hl:R'.length<=1000) (ep:X=(if (if b=true then k' else k' % 4)=0 then R' else (b,if b=true then k' else k' % 4) :: R'))
  (hN:∀ (v3:Option D) (s:Store),s[st.length]?=some (.lst (X.reverse.map aW))->Ex [] st s->N [some w0,some (.ref st.length),some (.str (if b then "s" else "t")),v3] s) :
  Ws (az (gF (aH (ay (jY false) (ag 2) (fC (.str "t")))) (aG (ay jd (ag 3) (fC (.int 4))) (hName 3)) bD) (gF (aH (ay (jY true) (ag 3) (fC (.int 0)))) (bN (gZ "list" aO (ag 1) (ae (a7 (ae (ag 2) (ae (ag 3) ah))) ah))) bD) [some w0,some (.ref st.length),some (.str (if b then "s" else "t")),some (.int k')] s2) N B C R:=by
 have fin:∀ kk:Int,kk=(if b=true then k' else k' % 4)->Ws (gF (aH (ay (jY true) (ag 3) (fC (.int 0)))) (bN (gZ "list" aO (ag 1) (ae (a7 (ae (ag 2) (ae (ag 3) ah))) ah))) bD [some w0,some (.ref st.length),some (.str (if b then "s" else "t")),some (.int kk)] s2) N B C R:=fun kk hk=>by
  rw [<- hk] at ep
  refine i6 ?_
  kspl_open hQ
  by_cases z:kk=0
  ·refine hQ _ _ ⟨fun y=>absurd z (by simpa using y),fun _=>kE (hN _ _ ?_ k2)⟩
   rw [ep,if_pos z];exact h2
  ·refine hQ _ _ ⟨fun _=>nP ?_,fun y=>absurd y (by simp [z])⟩
   clear hQ
   refine b7 ?_
   intro dQ hQ
   set_option simprocs false in simp only [bG,jg h2]
   refine ⟨lP (by rw [bF h2];rfl),rfl,gI (by rw [TJ,Uu];omega),hQ _ _ (hN _ _ ?_ (k2.loc (TM _)))⟩
   rw [TQ (cZ h2),ep,if_neg z,Vj,T6]
   rfl
 refine aV (i6 ?_)
 cases b with
 | true =>
  kspl_open hQ
  exact hQ _ _ ⟨fun z=>absurd z (by decide),fun _=>kE (fin k' rfl)⟩
 | false =>
  kspl_open hQ
  refine hQ _ _ ⟨fun _=>bR ?_,fun z=>absurd z (by decide)⟩
  clear hQ
  kspl_open hQ
  exact ⟨by decide,hQ _ _ (fin (k' % 4) rfl)⟩
theorem SS {st:Store} {w:List eW} (hw:∀ s∈w,af.eP s) (hl:w.length<=1000):Wp (yO [.tup (w.map aW)] st) fun d st'=>d=.tup ((af.jG w).reverse.map aW)/\Ex [] st st':=by
 refine fF ?_
 show Ws (Ec [some (.tup (w.map aW)),none,none,none] st) _ _ _ _
 unfold Ec
 refine aV (bR ?_)
 kspl_open hQ
 refine ⟨rfl,hQ _ _ ?_⟩
 clear hQ
 show Ws _ _ _ _ _
 refine aV (kL (w.map aW) (fun i δ s=>∃ v2 v3:Option D,δ=[some (.tup (w.map aW)),some (.ref st.length),v2,v3]/\s[st.length]?=some (.lst ((af.jG (w.take i)).reverse.map aW))/\Ex [] st s) ?_ (by rw [TJ];omega) ?_ ?_)
 ·kspl_open hQ
  exact hQ _ _ ⟨rfl,none,none,rfl,gH,Ex.b5 _⟩
 ·rintro i d δ s hd ⟨v2,v3,rfl,hs,kx⟩
  rw [TR] at hd
  obtain ⟨a,ha,rfl⟩:=Uj.mp hd
  obtain ⟨hi,ea⟩:=TK.mp ha
  have pa:=hw a (T2 ha)
  have et:af.jG (w.take (i + 1))=af.bP (af.jG (w.take i)) a:=by
   rw [Ur hi,af.Gy,ea];rfl
  have hlen:=af.Gz (w.take i)
  rw [UJ] at hlen
  have pl:af.Pl (af.jG (w.take i)):=af.vW fun s hs=>hw s (List.mem_of_mem_take hs)
  rw [et]
  generalize af.jG (w.take i)=R at hs hlen pl ⊢
  obtain ⟨b,k⟩:=a
  have es1:aW (b,k)=.tup [.str (if b then "s" else "t"),.int k]:=rfl
  rw [es1]
  kspl_open hQ
  refine ⟨rfl,hQ _ _ (aV (i6 ?_))⟩
  clear hQ
  refine b7 ?_
  intro dQ hQ
  set_option simprocs false in simp only [bG,bF hs]
  refine ⟨rfl,?_⟩
  have SU:∀ d∈R.reverse.map aW,pU 1 d:=fun d hd=>by
   obtain ⟨x,_,rfl⟩:=Ub.mp hd
   exact uM 0 x
  rw [SR (n:=1) (ds:=R.reverse.map aW) (es:=[]) (bF (jI hs)) rQ SU (fun d hd=>nomatch hd) (by decide)]
  have hs1:=jI (m:=[O.lst []]) hs
  have Fb:Ex [] st (s ++ [O.lst []]):=kx.app _
  generalize s ++ [O.lst []]=s1 at hs1 Fb ⊢
  have CT:∀ (t:eW) (r:List eW),R=t :: r->R.reverse.map aW=r.reverse.map aW ++ [aW t]:=fun t r e=>by rw [e,Vj,T6];rfl
  cases R with
  | nil =>
   refine ⟨false,by simp,?_⟩
   rw [if_neg (by decide)]
   refine hQ _ _ ⟨fun z=>absurd z (by decide),fun _=>kE ?_⟩
   refine HJ (X:=af.bP [] (b,k)) hs1 Fb (by simp) ?_ fun v3 s h1 h2=>⟨_,_,rfl,h1,h2⟩
   exact LX (R:=[]) pa (by simp)
  | cons t r =>
   have e1:=CT t r rfl
   refine ⟨true,by simp,?_⟩
   rw [if_pos rfl,bF hs1,e1]
   refine ⟨_,rfl,aW t,HI,?_⟩
   obtain ⟨bt,kt⟩:=t
   have E8:aW (bt,kt)=.tup [.str (if bt then "s" else "t"),.int kt]:=rfl
   rw [E8]
   w_how
   have eD:decide ((if bt=true then ("s" : Str) else "t")=if b=true then ("s" : Str) else "t")=decide (bt=b):=by cases bt <;> cases b <;> decide
   rw [eD]
   by_cases hb:bt=b
   ·subst hb
    refine hQ _ _ ⟨fun _=>bR ?_,fun z=>absurd z (by simp)⟩
    clear hQ
    rw [e1] at hs1
    refine b7 ?_
    intro dQ hQ
    set_option simprocs false in simp only [bG,xK]
    refine ⟨lP (by rw [bF hs1];rfl),?_⟩
    rw [xN (jg hs1),E8]
    w_how
    refine hQ _ _ ?_
    have hs2:(s1.set st.length (.lst (r.reverse.map aW)))[st.length]?=some (.lst (r.reverse.map aW)):=TQ (cZ hs1)
    refine HJ (X:=af.bP ((bt,kt) :: r) (bt,k)) hs2 (Fb.loc (TM _)) (by rw [Uo] at hlen;omega) ?_ fun v3 s h1 h2=>⟨_,_,rfl,h1,h2⟩
    rw [af.rM,if_pos rfl]
    unfold af.b8 af.gO
    cases bt <;> simp <;> split <;> rfl
   ·refine hQ _ _ ⟨fun z=>absurd (of_decide_eq_true z) hb,fun _=>kE ?_⟩
    refine HJ (X:=af.bP ((bt,kt) :: r) (b,k)) hs1 Fb (by omega) ?_ fun v3 s h1 h2=>⟨_,_,rfl,h1,h2⟩
    exact LX (R:=(bt,kt) :: r) pa (fun t r e=>by cases e;exact hb)
 ·rintro δ s ⟨v2,v3,rfl,hs,kx⟩
  rw [TJ,UH] at hs
  refine dY ?_
  refine b7 ?_
  intro dQ hQ
  set_option simprocs false in simp only [bG,bF hs]
  exact hQ _ _ ⟨rfl,kx⟩
theorem SV {st:Store} {w:List eW} (hl:w.length<=1000):Wp (yX [.tup (w.map aW)] st) fun d st'=>d=.tup ((af.kU w).map aW)/\Ex [] st st':=by
 refine fF ?_
 show Ws (EI [some (.tup (w.map aW)),none,none,none] st) _ _ _ _
 unfold EI
 refine aV (bR ?_)
 kspl_open hQ
 refine ⟨rfl,hQ _ _ ?_⟩
 clear hQ
 show Ws _ _ _ _ _
 have er:(w.map aW).reverse=w.reverse.map aW:=VE.symm
 refine aV (kL (w.reverse.map aW) (fun i δ s=>∃ v2 v3:Option D,δ=[some (.tup (w.map aW)),some (.ref st.length),v2,v3]/\s[st.length]?=some (.lst (((w.reverse.take i).map af.iS).map aW))/\Ex [] st s) ?_ (by rw [TJ,Uu];omega) ?_ ?_)
 ·refine b7 ?_
  intro dQ hQ
  set_option simprocs false in simp only [bG,Lb]
  refine ⟨_,rfl,?_⟩
  rw [er]
  refine hQ _ _ ⟨rfl,none,none,rfl,gH,Ex.b5 _⟩
 ·rintro i d δ s hd ⟨v2,v3,rfl,hs,kx⟩
  rw [TR] at hd
  obtain ⟨a,ha,rfl⟩:=Uj.mp hd
  obtain ⟨hi,ea⟩:=TK.mp ha
  have et:((w.reverse.take (i + 1)).map af.iS).map aW=((w.reverse.take i).map af.iS).map aW ++ [aW (af.iS a)]:=by
   rw [Ur hi,ea,T6,T6];rfl
  rw [et]
  have SW:(((w.reverse.take i).map af.iS).map aW).length<=1000:=by
   rw [TJ,TJ,UJ,Uu];omega
  generalize ((w.reverse.take i).map af.iS).map aW=L at hs SW ⊢
  obtain ⟨b,k⟩:=a
  have es1:aW (b,k)=.tup [.str (if b then "s" else "t"),.int k]:=rfl
  rw [es1]
  kspl_open hQ
  refine ⟨rfl,hQ _ _ (nP ?_)⟩
  clear hQ
  have ln:L.length < 16777216:=by omega
  have h2:=jI (m:=[O.lst [D.int (0 - k),D.int (4 - k)]]) hs
  have k2:Ex [] st (s ++ [O.lst [D.int (0 - k),D.int (4 - k)]]):=kx.app _
  have fin:∀ x:D,x=.int (af.iS (b,k)).2->∃ v2 v3:Option D,[some (D.tup (w.map aW)),some (.ref st.length),some (D.str (if b then "s" else "t")),some (D.int k)]=[some (.tup (w.map aW)),some (.ref st.length),v2,v3]/\((s ++ [O.lst [D.int (0 - k),D.int (4 - k)]]).set st.length (.lst (L ++ [D.tup [D.str (if b then "s" else "t"),x]])))[st.length]?=some (.lst (L ++ [aW (af.iS (b,k))]))/\Ex [] st ((s ++ [O.lst [D.int (0 - k),D.int (4 - k)]]).set st.length (.lst (L ++ [D.tup [D.str (if b then "s" else "t"),x]]))):=fun x ex=>by
   refine ⟨_,_,rfl,?_,k2.loc (TM _)⟩
   rw [TQ (cZ h2),ex]
   cases b <;> rfl
  cases b with
  | true =>
   refine b7 ?_
   intro dQ hQ
   set_option simprocs false in simp only [bG,rQ]
   exact ⟨lP (by rw [bF hs];rfl),rfl,.int (0 - k),by rfl,rfl,L,jg h2,gI (by omega),hQ _ _ (fin _ (by simp [af.iS]))⟩
  | false =>
   refine b7 ?_
   intro dQ hQ
   set_option simprocs false in simp only [bG,rQ]
   exact ⟨lP (by rw [bF hs];rfl),rfl,.int (4 - k),by rfl,rfl,L,jg h2,gI (by omega),hQ _ _ (fin _ (by simp [af.iS]))⟩
 ·rintro δ s ⟨v2,v3,rfl,hs,kx⟩
  rw [TJ,UH] at hs
  refine dY ?_
  refine b7 ?_
  intro dQ hQ
  set_option simprocs false in simp only [bG,bF hs]
  refine hQ _ _ ⟨?_,kx⟩
  unfold af.kU
  rw [VE]
theorem LY (p:List Int×List Int) (s:eW):ju p s=af.stM p s:=by
 have hq:∀ j,og p.1 p.2 j=af.n9 j p:=fun j=>by
  induction j with
  | zero=>rfl
  | succ j ih=>show _=_;unfold og af.n9;rw [ih];rfl
 unfold ju af.stM
 split
 ·rfl
 ·exact hq _
theorem HK {p q:af.aU} (h:bJ p=bJ q):p=q:=by
 have h:D.tup [.tup (p.1.map D.int),.tup (p.2.map D.int)]=D.tup [.tup (q.1.map D.int),.tup (q.2.map D.int)]:=h
 injection h with h
 injection h with h1 h2
 injection h2 with h2 _
 have inj:∀ {x y:List Int},D.tup (x.map D.int)=D.tup (y.map D.int)->x=y:=fun {x y} e=>by
  injection e with e
  have:=congrArg (List.map inD) e
  rw [Uq,Uq] at this
  exact (Vu x).symm.trans (this.trans (Vu y))
 exact Prod.ext (inj h1) (inj h2)
theorem qe {α:Type} {fs:List α} {g:α->D} {k:Nat} {p:α} (h:fs[k]?=some p):c5 (fs.map g) (k:Int)=some (g p):=by
 have hk:k < fs.length:=(TK.mp h).1
 unfold c5
 rw [yo (by rw [TJ];exact hk)]
 show (fs.map g)[k]?=_
 rw [TR,h];rfl
theorem LZ {fs:List af.aU} {F:af.aU} {j:Nat} (nd:fs.Nodup) (hj:fs[j]?=some F):∀ i e,i < j->(fs.map bJ)[i]?=some e->e≠bJ F:=fun i e hij he z=>by
 rw [TR] at he
 obtain ⟨q,hq,rfl⟩:=Uj.mp he
 have:=HK z
 subst this
 obtain ⟨g1,g2⟩:=TK.mp hq
 obtain ⟨g3,g4⟩:=TK.mp hj
 exact Va.mp nd i j g1 g3 hij (by rw [g2,g4])
theorem fm {α:Type} {l:List α} {k:Nat} {d:α} (h:k < l.length):l[k]?=some (l.getD k d):=by rw [T9,TL h];rfl
def wD (w:List eW):D:=.tup (w.map aW)
theorem L0 {s:Store} {a b c r n k:Nat} {p:af.aU} {fs:List af.aU} {ws:List (List eW)} {rs:List Nat} {L:List Int} {s1:eW} {v0 v1 v7:Option D} {N B C:aq->Store->Prop} {R:D->Store->Prop}
  (n0:0 < n) (hn:n<=20) (hs:s1=(true,1)\/s1=(false,1)) (ab:a≠b) (ac:a≠c) (bc:b≠c) (ar:a≠r) (br:b≠r) (cr:c≠r)
  (ha:s[a]?=some (.lst (fs.map bJ))) (hb:s[b]?=some (.lst (ws.map wD))) (hc:s[c]?=some (.lst (rs.map D.ref))) (hr:s[r]?=some (.lst (L.map D.int))) (hrk:rs[k]?=some r)
  (g:af.GR n p fs ws) (vp:af.Vf n p) (hk:k < fs.length) (few:fs.length<=100) (hL:L.length<=5)
  (hN:∀ (v:Option D) (s':Store),s'[a]?=some (.lst ((af.aT n fs ws k s1).1.map bJ))->s'[b]?=some (.lst ((af.aT n fs ws k s1).2.1.map wD))->s'[c]?=some (.lst (rs.map D.ref))->s'[r]?=some (.lst ((L ++ [((af.aT n fs ws k s1).2.2:Int)]).map D.int))->Ex [a,b,r] s s'->N [v0,v1,some (.ref a),some (.ref b),some (.ref c),some (.int (k:Int)),some (aW s1),v] s') :
  Ws ((az (aG (aN uO (ae (aN uP (ae (ay bQ (ag 2) (ag 5)) (ae (ag 6) ah))) ah)) (hName 7))
 (az (gF (aH (ay (oI true) (ag 7) (ag 2))) (az (bN (gZ "list" aO (ag 2) (ae (ag 7) ah)))
 (bN (gZ "list" aO (ag 3) (ae (aN yO (ae (ay eQ (ay bQ (ag 3) (ag 5)) (a7 (ae (ag 6) ah))) ah)) ah)))) bD)
 (bN (gZ "list" aO (ay bQ (ag 4) (ag 5)) (ae (gZ "list" dg (ag 2) (ae (ag 7) ah)) ah))))) [v0,v1,some (.ref a),some (.ref b),some (.ref c),some (.int (k:Int)),some (aW s1),v7] s) N B C R:=by
 have ek:=fm (d:=(([],[]):af.aU)) hk
 have hkw:k < ws.length:=by rw [g.wl];exact hk
 have ew:=fm (d:=([]:List eW)) hkw
 have ps:af.eP s1:=by rcases hs with rfl | rfl <;> exact ⟨fun _=>by decide,by decide⟩
 have gN:=af.rV n0 g vp hk hs
 have lN:(af.aT n fs ws k s1).1.length<=101:=by have:=gN.2.2.2.1;omega
 generalize hq:fs.getD k ([],[])=q at ek
 generalize hw:ws.getD k []=w at ew
 obtain ⟨wq,oq⟩:=g.own q (T2 ek)
 obtain ⟨pw,lw,nw,-⟩:=g.wd k w ew
 have hat:c5 (fs.map bJ) (k:Int)=some (bJ q):=qe ek
 have HL:c5 (rs.map D.ref) (k:Int)=some (.ref r):=qe hrk
 refine aV (bR ?_)
 refine b7 ?_
 intro dQ hQ
 set_option simprocs false in simp only [bG,bF ha,hat]
 refine bw (Sw (p:=q) (s:=s1) ⟨wq.v.1,wq.v.2⟩ (by omega) ps.1) ?_
 rintro d t1 ⟨rfl,k1⟩
 rw [LY]
 have Bt:=wq.st n0 s1
 have eS:bJ (af.stM q s1)=b6 (af.stM q s1).1 (af.stM q s1).2:=rfl
 rw [eS]
 refine bw (LV (E9 Bt) n0 hn) ?_
 rintro d t2 ⟨rfl,k2⟩
 have eF:b6 (af.cE n ((af.stM q s1).1,(af.stM q s1).2)).1 (af.cE n ((af.stM q s1).1,(af.stM q s1).2)).2=bJ (af.cE n (af.stM q s1)):=rfl
 rw [eF]
 have rB:=k1.trans k2
 have ha2:=rB.keep _ _ ha (by simp)
 have hb2:=rB.keep _ _ hb (by simp)
 have hc2:=rB.keep _ _ hc (by simp)
 have hr2:=rB.keep _ _ hr (by simp)
 have pf:∀ q:af.aU,pU 2 (bJ q):=fun q=>Hm 0 _ _
 have rest:∀ {s3:Store},s3[a]?=some (.lst ((af.aT n fs ws k s1).1.map bJ))->s3[b]?=some (.lst ((af.aT n fs ws k s1).2.1.map wD))->s3[c]?=some (.lst (rs.map D.ref))->s3[r]?=some (.lst (L.map D.int))->Ex [a,b,r] s s3->(af.aT n fs ws k s1).1[(af.aT n fs ws k s1).2.2]?=some (af.cE n (af.stM q s1)) ->
   Ws ((bN (gZ "list" aO (ay bQ (ag 4) (ag 5)) (ae (gZ "list" dg (ag 2) (ae (ag 7) ah)) ah))) [v0,v1,some (.ref a),some (.ref b),some (.ref c),some (.int (k:Int)),some (aW s1),some (bJ (af.cE n (af.stM q s1)))] s3) N B C R:=by
  intro s3 mS o9 hc3 oK k3 hj
  refine nP ?_
  refine b7 ?_
  intro gw bU
  set_option simprocs false in simp only [bG,bF hc3,HL]
  refine ⟨lP (by rw [bF oK];rfl),lP (by rw [bF mS];rfl),?_⟩
  rw [Li (n:=2) (j:=(af.aT n fs ws k s1).2.2) (pf _) (bF mS) (fun e he=>by obtain ⟨q,_,rfl⟩:=Ub.mp he;exact pf q) (by decide) (by rw [TJ];omega) (by rw [TR,hj];rfl) (LZ gN.1.nd hj)]
  set_option simprocs false in simp only [bG,jg oK]
  refine ⟨gI (by rw [TJ];omega),bU _ _ (hN _ _ ?_ ?_ ?_ ?_ ?_)⟩
  ·rw [TV (Ne.symm ar)];exact mS
  ·rw [TV (Ne.symm br)];exact o9
  ·rw [TV (Ne.symm cr)];exact hc3
  ·rw [TQ (cZ oK),T6];rfl
  ·exact k3.put (by simp)
 have hj:(af.aT n fs ws k s1).1[(af.aT n fs ws k s1).2.2]?=some (af.cE n (af.stM q s1)):=by
  obtain ⟨q',h1,h2⟩:=gN.2.2.2.2
  rw [ek] at h1;cases h1;exact h2
 refine hQ _ _ (aV (i6 ?_))
 clear hQ
 kspl_open hQ
 have CQ:cz t2 (.ref a)=some (fs.map bJ):=bF ha2
 rw [K9 (n:=2) (es:=fs.map bJ) (pf _) CQ (fun e he=>by obtain ⟨q,_,rfl⟩:=Ub.mp he;exact pf q) (by decide)]
 by_cases hm:af.cE n (af.stM q s1)∈fs
 ·have hm':bJ (af.cE n (af.stM q s1))∈fs.map bJ:=Ub.mpr ⟨_,hm,rfl⟩
  have eR:af.aT n fs ws k s1=(fs,ws,fs.idxOf (af.cE n (af.stM q s1))):=by unfold af.aT;rw [hq,if_pos hm]
  refine ⟨false,by simp [hm'],hQ _ _ ⟨fun z=>(nomatch z),fun _=>kE (rest ?_ ?_ hc2 hr2 rB.any hj)⟩⟩
  ·rw [eR];exact ha2
  ·rw [eR];exact hb2
 ·have hm':bJ (af.cE n (af.stM q s1)) ∉ fs.map bJ:=fun z=>by
   obtain ⟨q',h1,h2⟩:=Ub.mp z
   exact hm (HK h2 ▸ h1)
  have eR:af.aT n fs ws k s1=(fs ++ [af.cE n (af.stM q s1)],ws ++ [(af.jG (w ++ [s1])).reverse],fs.length):=by unfold af.aT;rw [hq,hw,if_neg hm]
  refine ⟨true,by simp [hm'],hQ _ _ ⟨fun _=>?_,fun z=>(nomatch z)⟩⟩
  clear hQ
  refine aV (nP ?_)
  refine b7 ?_
  intro dQ hQ
  set_option simprocs false in simp only [bG,jg ha2]
  refine ⟨lP (by rw [bF ha2];rfl),gI (by rw [TJ];omega),hQ _ _ (nP ?_)⟩
  clear hQ
  have em:fs.map bJ ++ [bJ (af.cE n (af.stM q s1))]=(af.aT n fs ws k s1).1.map bJ:=by rw [eR,T6];rfl
  rw [em]
  have mS:(t2.set a (.lst ((af.aT n fs ws k s1).1.map bJ)))[a]?=some (.lst ((af.aT n fs ws k s1).1.map bJ)):=TQ (cZ ha2)
  have o9:(t2.set a (.lst ((af.aT n fs ws k s1).1.map bJ)))[b]?=some (.lst (ws.map wD)):=by rw [TV ab];exact hb2
  have hc3:(t2.set a (.lst ((af.aT n fs ws k s1).1.map bJ)))[c]?=some (.lst (rs.map D.ref)):=by rw [TV ac];exact hc2
  have oK:(t2.set a (.lst ((af.aT n fs ws k s1).1.map bJ)))[r]?=some (.lst (L.map D.int)):=by rw [TV ar];exact hr2
  have k3:Ex [a,b,r] s (t2.set a (.lst ((af.aT n fs ws k s1).1.map bJ))):=(rB.any).put (by simp)
  generalize t2.set a (.lst ((af.aT n fs ws k s1).1.map bJ))=s3 at mS o9 hc3 oK k3 ⊢
  have x6:c5 (ws.map wD) (k:Int)=some (wD w):=qe ew
  refine b7 ?_
  intro dQ hQ
  set_option simprocs false in simp only [bG,bF o9,x6]
  refine ⟨lP (by rw [bF o9];rfl),rfl,?_⟩
  have e1:w.map aW ++ [aW s1]=(w ++ [s1]).map aW:=by rw [T6];rfl
  unfold wD
  w_how
  rw [e1]
  refine ⟨gI (by rw [TJ];show _ + 1<=_;omega),?_⟩
  have cc:∀ x∈w ++ [s1],af.eP x:=fun x hx=>by
   rcases Uk.mp hx with h | h
   ·exact af.Pl.pr pw x (UT.mpr h)
   ·rw [Ud.mp h];exact ps
  refine bw (SS (w:=w ++ [s1]) cc (by rw [TN];show _ + 1<=_;omega)) ?_
  rintro d s4 ⟨rfl,k4⟩
  have CU:=k4.keep _ _ mS (by simp)
  have x8:=k4.keep _ _ o9 (by simp)
  have hc4:=k4.keep _ _ hc3 (by simp)
  have SX:=k4.keep _ _ oK (by simp)
  set_option simprocs false in simp only [bG,jg x8]
  refine ⟨gI (by rw [TJ,g.wl];omega),hQ _ _ (rest ?_ ?_ ?_ ?_ ((k3.trans k4.any).put (by simp)) hj)⟩
  ·rw [TV (Ne.symm ab)];exact CU
  ·rw [TQ (cZ x8),eR,T6];rfl
  ·rw [TV bc];exact hc4
  ·rw [TV br];exact SX
def oh (p:af.aU) (w:List eW) (l:Nat×Nat):D:=.tup [bJ p,wD w,.int (l.1:Int),.int (l.2:Int)]
def kZ (c:af.CS) (N:Nat):D:=.tup ((List.range N).map fun k=>oh (c.1.getD k ([],[])) (c.2.1.getD k []) (c.2.2.getD k (0,0)))
structure tq (st s:Store) (ia ib ic:Nat) (fs:List af.aU) (ws:List (List eW)) (ls:List (Nat×Nat)) (rs:List Nat):Prop where
 a:s[ia]?=some (.lst (fs.map bJ))
 b:s[ib]?=some (.lst (ws.map wD))
 c:s[ic]?=some (.lst (rs.map D.ref))
 l:ls.length<=rs.length
 r:∀ (k r:Nat) (l:Nat×Nat),rs[k]?=some r->ls[k]?=some l->s[r]?=some (.lst [.int (l.1:Int),.int (l.2:Int)])
 h:∀ r∈rs,ic < r/\r < s.length
 e:Ex [] st s
theorem CV {x y:D}:c5 [x,y] 0=some x:=rfl
theorem CW {x y:D}:c5 [x,y] 1=some y:=rfl
theorem L3 {st:Store} {p:af.aU} {n most:Nat} (w0:af.Wh n p) (n0:0 < n) (hn:n<=20) (m1:1<=most) (y6:most<=60):Wp (xS [bJ p,.int (most:Int)] st) fun d st'=>Ex [] st st'/\((∃ N,N<=most/\af.Full n p (af.ch n p N) N/\(∀ j,j < N->j < (af.ch n p j).1.length)/\d=kZ (af.ch n p N) N)\/(d=.non/\∃ i,(∀ j,j < i->j < (af.ch n p j).1.length)/\most < (af.ch n p i).1.length)):=by
 refine fF ?_
 show Ws (Ed [some (bJ p),some (.int (most:Int)),none,none,none,none,none,none] st) _ _ _ _
 unfold Ed
 refine aV (bR ?_)
 kspl_open hQ
 refine bw (LV (E9 w0) n0 hn) ?_
 rintro d s1 ⟨rfl,k1⟩
 refine ⟨rfl,hQ _ _ (aV (bR ?_))⟩
 clear hQ
 kspl_open hQ
 refine ⟨rfl,rfl,hQ _ _ (aV (bR ?_))⟩
 clear hQ
 kspl_open hQ
 refine ⟨rfl,hQ _ _ ?_⟩
 clear hQ
 have eF:b6 (af.cE n (p.1,p.2)).1 (af.cE n (p.1,p.2)).2=bJ (af.cE n p):=rfl
 rw [eF]
 obtain ⟨a,b,c,s2,ea,eb,ec,es,ab,bc,la,I0⟩:∃ (a b c:Nat) (s2:Store),s1.length=a/\(s1 ++ [O.lst [bJ (af.cE n p)]]).length=b/\(s1 ++ [O.lst [bJ (af.cE n p)]] ++ [O.lst [D.tup []]]).length=c/\s1 ++ [O.lst [bJ (af.cE n p)]] ++ [O.lst [D.tup []]] ++ [O.lst []]=s2/\a < b/\b < c/\st.length<=a/\tq st s2 a b c (af.ch n p 0).1 (af.ch n p 0).2.1 (af.ch n p 0).2.2 [] :=
  ⟨_,_,_,_,rfl,rfl,rfl,rfl,by simp,by simp,k1.len,jI (jI gH),jI gH,gH,TM _,(fun k r l h=>nomatch h),(fun r h=>nomatch h),((k1.app _).app _).app _⟩
 rw [ea,eb,ec,es]
 refine aV (kL (aD 0 most) (fun i δ s=>∃ (v5 v6 v7:Option D) (j:Nat) (rs:List Nat),δ=[some (bJ p),some (.int (most:Int)),some (.ref a),some (.ref b),some (.ref c),v5,v6,v7]/\j<=i/\(∀ j',j' < j->j' < (af.ch n p j').1.length)/\(af.ch n p j).1.length<=most/\(j=i\/(af.ch n p j).1.length=j)/\rs.length=j/\tq st s a b c (af.ch n p j).1 (af.ch n p j).2.1 (af.ch n p j).2.2 rs) ?_ (by rw [fE];omega) ?_ ?_)
 ·kspl_open hQ
  refine ⟨by omega,hQ _ _ ⟨by rw [T3],none,none,none,0,[],rfl,TM _,(fun j' h=>nomatch h),(show 1<=most from m1),.inl rfl,rfl,I0⟩⟩
 ·rintro i d δ s hd ⟨v5,v6,v7,j,rs,rfl,hj,pr,few,jo,hrs,I⟩
  have hi:i < most:=by have:=cZ hd;rw [fE] at this;exact this
  rw [wC hi,U4] at hd
  cases hd
  have g:=af.yI n0 w0 j pr
  kspl_open hQ
  refine hQ _ _ (i6 ?_)
  clear hQ
  refine b7 ?_
  intro dQ hQ
  set_option simprocs false in simp only [bG,bF I.a]
  rw [TJ]
  refine hQ _ _ ⟨fun z=>?_,fun z=>kE ?_⟩
  ·have z:i < (af.ch n p j).1.length:=by have:=of_decide_eq_true z;omega
   have ej:j=i:=by rcases jo with h | h <;> omega
   subst ej
   clear hQ
   have mL:=g.ll
   have SY:=g.le
   refine aV (nP ?_)
   kspl_open hQ
   have Ic:=jI (m:=[O.lst []]) I.c
   refine ⟨lP (by rw [bF I.c];rfl),rfl,_,jg Ic,gI (by rw [TJ];omega),hQ _ _ ?_⟩
   clear hQ
   have er:rs.map D.ref ++ [D.ref s.length]=(rs ++ [s.length]).map D.ref:=by rw [T6];rfl
   rw [er]
   have lc:=cZ I.c
   have I1:tq st ((s ++ [O.lst []]).set c (.lst ((rs ++ [s.length]).map D.ref))) a b c (af.ch n p j).1 (af.ch n p j).2.1 (af.ch n p j).2.2 (rs ++ [s.length]):=by
    refine ⟨?_,?_,TQ (cZ Ic),by rw [TN];have:=I.l;omega,fun k r l h1 h2=>?_,fun r hr=>?_,?_⟩
    ·rw [TV (by omega)];exact jI I.a
    ·rw [TV (by omega)];exact jI I.b
    ·have hk:k < rs.length:=by have:=(TK.mp h2).1;omega
     rw [T1 hk] at h1
     have hc:=I.h r (T2 h1)
     rw [TV (by omega)]
     exact jI (I.r k r l h1 h2)
    ·rw [UD,TN]
     rcases Uk.mp hr with h | h
     ·have:=I.h r h;exact ⟨this.1,Nat.lt_succ_of_lt this.2⟩
     ·rw [Ud.mp h];exact ⟨lc,US _⟩
    ·exact (I.e.app _).loc (by omega)
   have hr1:((s ++ [O.lst []]).set c (.lst ((rs ++ [s.length]).map D.ref)))[s.length]?=some (.lst (([]:List Int).map D.int)):=by
    rw [TV (by omega)];exact gH
   have hrk:(rs ++ [s.length])[j]?=some s.length:=by rw [Uc (by omega),hrs,UR];rfl
   have old:∀ r∈rs,r≠s.length:=fun r h=>by have:=I.h r h;omega
   have S0:c < s.length:=lc
   generalize (s ++ [O.lst []]).set c (.lst ((rs ++ [s.length]).map D.ref))=s3 at I1 hr1
   generalize s.length=r at I1 hr1 hrk old S0
   have r1:=af.rV (s:=(true,1)) n0 g.r w0.v (k:=j) z (.inl rfl)
   have r2:=af.rV (s:=(false,1)) n0 r1.1 w0.v (k:=j) (by have:=r1.2.2.1;omega) (.inr rfl)
   have eS:af.kc n (af.ch n p j)=af.aT n (af.ch n p j).1 (af.ch n p j).2.1 j (true,1):=by unfold af.kc;rw [mL]
   have eT:af.jh n (af.ch n p j)=af.aT n (af.aT n (af.ch n p j).1 (af.ch n p j).2.1 j (true,1)).1 (af.aT n (af.ch n p j).1 (af.ch n p j).2.1 j (true,1)).2.1 j (false,1):=by unfold af.jh;rw [eS,mL]
   have mk:∀ {fs fs':List af.aU} {ws yF:List (List eW)} {s s':Store},tq st s a b c fs ws (af.ch n p j).2.2 (rs ++ [r])->s'[a]?=some (.lst (fs'.map bJ))->s'[b]?=some (.lst (yF.map wD))->s'[c]?=some (.lst ((rs ++ [r]).map D.ref))->Ex [a,b,r] s s'->tq st s' a b c fs' yF (af.ch n p j).2.2 (rs ++ [r]):=by
    intro fs fs' ws yF s s' J h1 h2 h3 k
    refine ⟨h1,h2,h3,J.l,fun i r' l e1 e2=>?_,fun r' hr=>?_,⟨Uh J.e.len k.len,fun i o e n=>k.keep i o (J.e.keep i o e n) (by have:=cZ e;simp;omega)⟩⟩
    ·have hk:i < rs.length:=by have:=(TK.mp e2).1;omega
     have yq:=e1
     rw [T1 hk] at yq
     have hm:=T2 yq
     have hc:=J.h r' (T2 e1)
     have:=old r' hm
     exact k.keep _ _ (J.r i r' l e1 e2) (by simp;omega)
    ·have hc:=J.h r' hr
     exact ⟨hc.1,Ut hc.2 k.len⟩
   refine aV (kL [aW (true,1),aW (false,1)] (fun m δ s=>∃ (v6 v7:Option D),δ=[some (bJ p),some (.int (most:Int)),some (.ref a),some (.ref b),some (.ref c),some (.int (j:Int)),v6,v7]/\((m=0/\tq st s a b c (af.ch n p j).1 (af.ch n p j).2.1 (af.ch n p j).2.2 (rs ++ [r])/\s[r]?=some (.lst (([]:List Int).map D.int)))\/(m=1/\tq st s a b c (af.kc n (af.ch n p j)).1 (af.kc n (af.ch n p j)).2.1 (af.ch n p j).2.2 (rs ++ [r])/\s[r]?=some (.lst (([((af.kc n (af.ch n p j)).2.2:Int)]:List Int).map D.int)))\/(m=2/\tq st s a b c (af.jh n (af.ch n p j)).1 (af.jh n (af.ch n p j)).2.1 (af.ch n p j).2.2 (rs ++ [r])/\s[r]?=some (.lst (([((af.kc n (af.ch n p j)).2.2:Int),((af.jh n (af.ch n p j)).2.2:Int)]:List Int).map D.int))))) ?_ (by decide) ?_ ?_)
   ·kspl_open hQ
    exact ⟨rfl,rfl,rfl,hQ _ _ ⟨rfl,v6,v7,rfl,.inl ⟨rfl,I1,hr1⟩⟩⟩
   ·rintro m d δ s5 hd ⟨v6,v7,rfl,hm⟩
    kspl_open hQ
    refine hQ _ _ ?_
    clear hQ
    rcases hm with ⟨rfl,J,hr⟩ | ⟨rfl,J,hr⟩ | ⟨rfl,J,hr⟩
    ·cases (show some (aW (true,1))=some d from hd)
     refine L0 (s1:=(true,1)) n0 hn (.inl rfl) (by omega) (by omega) (by omega) (by omega) (by omega) (by omega) J.a J.b J.c hr hrk g.r w0.v z (by omega) (by simp) fun v s' h1 h2 h3 h4 h5=>?_
     refine ⟨_,v,rfl,.inr (.inl ⟨rfl,?_,?_⟩)⟩
     ·rw [eS];exact mk J h1 h2 h3 h5
     ·rw [eS];exact h4
    ·cases (show some (aW (false,1))=some d from hd)
     rw [eS] at J hr
     refine L0 (s1:=(false,1)) n0 hn (.inr rfl) (by omega) (by omega) (by omega) (by omega) (by omega) (by omega) J.a J.b J.c hr hrk r1.1 w0.v (by have:=r1.2.2.1;omega) (by have:=r1.2.2.2.1;omega) (by simp) fun v s' h1 h2 h3 h4 h5=>?_
     refine ⟨_,v,rfl,.inr (.inr ⟨rfl,?_,?_⟩)⟩
     ·rw [eT];exact mk J h1 h2 h3 h5
     ·rw [eT,eS];exact h4
    ·cases (show none=some d from hd)
   ·rintro δ s5 ⟨v6,v7,rfl,⟨h,_⟩ | ⟨h,_⟩ | ⟨_,J,hr⟩⟩
    ·cases h
    ·cases h
    have L5:∀ j',j' < j + 1->j' < (af.ch n p j').1.length:=fun j' h=>by
     rcases Vn j' j with h' | h'
     ·exact pr j' h'
     ·have:j'=j:=by omega
      subst this;exact z
    have J2:tq st s5 a b c (af.ch n p (j + 1)).1 (af.ch n p (j + 1)).2.1 (af.ch n p (j + 1)).2.2 (rs ++ [r]):=by
     refine ⟨J.a,J.b,J.c,?_,fun k r' l e1 e2=>?_,J.h,J.e⟩
     ·show ((af.ch n p j).2.2 ++ [_]).length<=_
      rw [TN,TN,mL,hrs];exact TM _
     ·have e2:((af.ch n p j).2.2 ++ [((af.kc n (af.ch n p j)).2.2,(af.jh n (af.ch n p j)).2.2)])[k]?=some l:=e2
      by_cases hk:k < (af.ch n p j).2.2.length
      ·rw [T1 hk] at e2
       exact J.r k r' l e1 e2
      ·have hk2:k=j:=by
        have:=(TK.mp e2).1
        rw [TN] at this
        have:k < (af.ch n p j).2.2.length + 1:=this
        omega
       subst hk2
       rw [Uc (by omega),mL,UR] at e2
       cases (show some _=some l from e2)
       rw [hrk] at e1
       cases e1
       exact hr
    refine i6 ?_
    refine b7 ?_
    intro dQ hQ
    set_option simprocs false in simp only [bG,bF J2.a]
    rw [TJ]
    refine hQ _ _ ⟨fun y=>dY ?_,fun y=>kE ⟨_,_,_,j + 1,_,rfl,TM _,L5,?_,.inl rfl,?_,J2⟩⟩
    ·clear hQ
     kspl_open hQ
     exact hQ _ _ ⟨J2.e,.inr ⟨rfl,j + 1,L5,by have:=of_decide_eq_true y;omega⟩⟩
    ·have:=of_decide_eq_false y;omega
    ·rw [TN,hrs];rfl
  ·have z:¬ i < (af.ch n p j).1.length:=by have:=of_decide_eq_false z;omega
   have:=g.le
   exact ⟨_,_,_,j,rs,rfl,by omega,pr,few,by omega,hrs,I⟩
 ·rintro δ s ⟨v5,v6,v7,j,rs,rfl,hj,pr,few,jo,hrs,I⟩
  rw [fE] at hj jo
  have g:=af.yI n0 w0 j pr
  have SY:=g.le
  have HM:(af.ch n p j).1.length=j:=by rcases jo with h | h <;> omega
  have uU:af.Full n p (af.ch n p j) j:={ toGC:=g,fl:=HM }
  refine dY ?_
  kspl_open hQ
  generalize hC:af.ch n p j=C at I g HM uU
  refine rS (aD 0 j) (fun d=>oh (C.1.getD (inD d).toNat ([],[])) (C.2.1.getD (inD d).toNat []) (C.2.2.getD (inD d).toNat (0,0))) ?_ (by rw [fE];omega) ?_ ?_
  ·refine b7 ?_
   intro gw bU
   set_option simprocs false in simp only [bG,bF I.a]
   rw [TJ,HM]
   exact ⟨by omega,bU _ _ ⟨by rw [T3];exact rR _ _,Ex.refl⟩⟩
  ·intro d hd s5 k5
   obtain ⟨i,hi⟩:=Vq hd
   have hil:=cZ hi
   rw [fE] at hil
   rw [wC hil,U4] at hi
   cases hi
   have hwl:=g.r.wl
   have mL:=g.ll
   have ef:=fm (d:=(([],[]):af.aU)) (show i < C.1.length by omega)
   have ew:=fm (d:=([]:List eW)) (show i < C.2.1.length by omega)
   have el:=fm (d:=((0,0):Nat×Nat)) (show i < C.2.2.length by omega)
   have er:=fm (d:=0) (show i < rs.length by omega)
   have hR:=k5.keep _ _ (I.r i _ _ er el) (by simp)
   have a1:c5 (C.1.map bJ) (i:Int)=some (bJ (C.1.getD i ([],[]))):=qe ef
   have a2:c5 (C.2.1.map wD) (i:Int)=some (wD (C.2.1.getD i [])):=qe ew
   have a3:c5 (rs.map D.ref) (i:Int)=some (.ref (rs.getD i 0)):=qe er
   have HN:=k5.keep _ _ I.a (by simp)
   have HP:=k5.keep _ _ I.b (by simp)
   have hc5:=k5.keep _ _ I.c (by simp)
   generalize rs.getD i 0=r at hR a3
   refine b7 ?_
   intro gw bU
   set_option simprocs false in simp only [bG,Ui,UB,Uy,Uz,bF HN,bF HP,bF hc5,a1,a2,a3,bF hR,CV,CW]
   exact ⟨rfl,bU _ _ ⟨rfl,Ex.refl⟩⟩
  ·intro s5 k5
   refine ⟨_,rQ,hQ _ _ ⟨(I.e.trans k5).app _,.inl ⟨j,by omega,by rw [hC];exact uU,pr,?_⟩⟩⟩
   rw [hC]
   unfold kZ
   congr 1
   unfold aD
   rw [Uq]
   refine Ux fun i _=>?_
   show oh _ _ _=_
   simp only [Function.comp,inD,U4,T3]
theorem uV {n:Nat} {p:af.aU} (n0:0 < n) (w:af.Wh n p):∀ (N j:Nat),(∀ i,i < N->i < (af.ch n p i).1.length)->j<=N->(af.ch n p j).1.length<=(af.ch n p N).1.length
 | 0,j,_,hj=>by
  have:j=0:=by omega
  subst this
  exact TM _
 | N + 1,j,pr,hj=>by
  by_cases e:j=N + 1
  ·subst e;exact TM _
  ·have h1:=uV n0 w N j (fun i hi=>pr i (by omega)) (by omega)
   have g:=af.yI n0 w N fun i hi=>pr i (by omega)
   have hN:=pr N (by omega)
   have mL:=g.ll
   have r1:=af.rV (s:=(true,1)) n0 g.r w.v (k:=(af.ch n p N).2.2.length) (by omega) (.inl rfl)
   have r2:=af.rV (s:=(false,1)) n0 r1.1 w.v (k:=(af.ch n p N).2.2.length) (by have:=r1.2.2.1;omega) (.inr rfl)
   have a:=r1.2.2.1
   have b:=r2.2.2.1
   have:(af.ch n p N).1.length<=(af.ch n p (N + 1)).1.length:=Uh a b
   omega
theorem L6 {st:Store} {a b n k:Nat} {p:af.aU} {fs:List af.aU} {ws:List (List eW)} {s1:eW} (n0:0 < n) (hn:n<=20) (hs:s1=(true,1)\/s1=(false,1)) (ab:a≠b) (ha:st[a]?=some (.lst (fs.map bJ))) (hb:st[b]?=some (.lst (ws.map wD))) (g:af.GR n p fs ws) (vp:af.Vf n p) (hk:k < fs.length) (few:fs.length<=100) :
  Wp (xV [.ref a,.ref b,.int (k:Int),aW s1] st) fun d st'=>d=.int ((af.aT n fs ws k s1).2.2:Int)/\st'[a]?=some (.lst ((af.aT n fs ws k s1).1.map bJ))/\st'[b]?=some (.lst ((af.aT n fs ws k s1).2.1.map wD))/\Ex [a,b] st st':=by
 refine fF ?_
 show Ws (EE [some (.ref a),some (.ref b),some (.int (k:Int)),some (aW s1),none] st) _ _ _ _
 unfold EE
 have ek:=fm (d:=(([],[]):af.aU)) hk
 have hkw:k < ws.length:=by rw [g.wl];exact hk
 have ew:=fm (d:=([]:List eW)) hkw
 have ps:af.eP s1:=by rcases hs with rfl | rfl <;> exact ⟨fun _=>by decide,by decide⟩
 have gN:=af.rV n0 g vp hk hs
 have lN:(af.aT n fs ws k s1).1.length<=101:=by have:=gN.2.2.2.1;omega
 generalize hq:fs.getD k ([],[])=q at ek
 generalize hw:ws.getD k []=w at ew
 obtain ⟨wq,oq⟩:=g.own q (T2 ek)
 obtain ⟨pw,lw,nw,-⟩:=g.wd k w ew
 have hat:c5 (fs.map bJ) (k:Int)=some (bJ q):=qe ek
 refine aV (bR ?_)
 refine b7 ?_
 intro dQ hQ
 set_option simprocs false in simp only [bG,bF ha,hat]
 refine ⟨rfl,?_⟩
 have hw1:(D.tup [aW s1])=.tup ([s1].map aW):=rfl
 rw [hw1]
 refine bw (Sy (p:=q) (w:=[s1]) ⟨wq.v.1,wq.v.2⟩ (by omega) (fun x hx=>by rw [Ud.mp hx];exact ps.1) (show 1<=1000 by decide)) ?_
 rintro d t1 ⟨rfl,k1⟩
 have e1:mI q [s1]=af.stM q s1:=LY q s1
 rw [e1]
 have Bt:=wq.st n0 s1
 have eS:bJ (af.stM q s1)=b6 (af.stM q s1).1 (af.stM q s1).2:=rfl
 rw [eS]
 refine bw (LU (E9 Bt) n0 hn) ?_
 rintro d t2 ⟨rfl,k2⟩
 have eF:b6 (af.cE n ((af.stM q s1).1,(af.stM q s1).2)).1 (af.cE n ((af.stM q s1).1,(af.stM q s1).2)).2=bJ (af.cE n (af.stM q s1)):=rfl
 rw [eF]
 have rB:=k1.trans k2
 have ha2:=rB.keep _ _ ha (by simp)
 have hb2:=rB.keep _ _ hb (by simp)
 have pf:∀ q:af.aU,pU 2 (bJ q):=fun q=>Hm 0 _ _
 have hj:(af.aT n fs ws k s1).1[(af.aT n fs ws k s1).2.2]?=some (af.cE n (af.stM q s1)):=by
  obtain ⟨q',h1,h2⟩:=gN.2.2.2.2
  rw [ek] at h1;cases h1;exact h2
 have rest:∀ {s3:Store},s3[a]?=some (.lst ((af.aT n fs ws k s1).1.map bJ))->s3[b]?=some (.lst ((af.aT n fs ws k s1).2.1.map wD))->Ex [a,b] st s3 ->
   Ws ((bg (gZ "list" dg (ag 0) (ae (ag 4) ah))) [some (.ref a),some (.ref b),some (.int (k:Int)),some (aW s1),some (bJ (af.cE n (af.stM q s1)))] s3) (fun _ st1=>D.non=D.int ((af.aT n fs ws k s1).2.2:Int)/\st1[a]?=some (.lst ((af.aT n fs ws k s1).1.map bJ))/\st1[b]?=some (.lst ((af.aT n fs ws k s1).2.1.map wD))/\Ex [a,b] st st1) (fun _ _=>False) (fun _ _=>False) (fun d st1=>d=D.int ((af.aT n fs ws k s1).2.2:Int)/\st1[a]?=some (.lst ((af.aT n fs ws k s1).1.map bJ))/\st1[b]?=some (.lst ((af.aT n fs ws k s1).2.1.map wD))/\Ex [a,b] st st1):=by
  intro s3 mS o9 k3
  refine dY ?_
  kspl_open bU
  refine ⟨lP (by rw [bF mS];rfl),?_⟩
  rw [Li (n:=2) (j:=(af.aT n fs ws k s1).2.2) (pf _) (bF mS) (fun e he=>by obtain ⟨q,_,rfl⟩:=Ub.mp he;exact pf q) (by decide) (by rw [TJ];omega) (by rw [TR,hj];rfl) (LZ gN.1.nd hj)]
  exact bU _ _ ⟨rfl,mS,o9,k3⟩
 refine hQ _ _ (aV (i6 ?_))
 clear hQ
 kspl_open hQ
 have CQ:cz t2 (.ref a)=some (fs.map bJ):=bF ha2
 rw [K9 (n:=2) (es:=fs.map bJ) (pf _) CQ (fun e he=>by obtain ⟨q,_,rfl⟩:=Ub.mp he;exact pf q) (by decide)]
 by_cases hm:af.cE n (af.stM q s1)∈fs
 ·have hm':bJ (af.cE n (af.stM q s1))∈fs.map bJ:=Ub.mpr ⟨_,hm,rfl⟩
  have eR:af.aT n fs ws k s1=(fs,ws,fs.idxOf (af.cE n (af.stM q s1))):=by unfold af.aT;rw [hq,if_pos hm]
  refine ⟨false,by simp [hm'],hQ _ _ ⟨fun z=>(nomatch z),fun _=>kE (rest ?_ ?_ rB.any)⟩⟩
  ·rw [eR];exact ha2
  ·rw [eR];exact hb2
 ·have hm':bJ (af.cE n (af.stM q s1)) ∉ fs.map bJ:=fun z=>by
   obtain ⟨q',h1,h2⟩:=Ub.mp z
   exact hm (HK h2 ▸ h1)
  have eR:af.aT n fs ws k s1=(fs ++ [af.cE n (af.stM q s1)],ws ++ [(af.jG (w ++ [s1])).reverse],fs.length):=by unfold af.aT;rw [hq,hw,if_neg hm]
  refine ⟨true,by simp [hm'],hQ _ _ ⟨fun _=>?_,fun z=>(nomatch z)⟩⟩
  clear hQ
  refine aV (nP ?_)
  refine b7 ?_
  intro dQ hQ
  set_option simprocs false in simp only [bG,jg ha2]
  refine ⟨lP (by rw [bF ha2];rfl),gI (by rw [TJ];omega),hQ _ _ (nP ?_)⟩
  clear hQ
  have em:fs.map bJ ++ [bJ (af.cE n (af.stM q s1))]=(af.aT n fs ws k s1).1.map bJ:=by rw [eR,T6];rfl
  rw [em]
  have mS:(t2.set a (.lst ((af.aT n fs ws k s1).1.map bJ)))[a]?=some (.lst ((af.aT n fs ws k s1).1.map bJ)):=TQ (cZ ha2)
  have o9:(t2.set a (.lst ((af.aT n fs ws k s1).1.map bJ)))[b]?=some (.lst (ws.map wD)):=by rw [TV ab];exact hb2
  have k3:Ex [a,b] st (t2.set a (.lst ((af.aT n fs ws k s1).1.map bJ))):=(rB.any).put (by simp)
  generalize t2.set a (.lst ((af.aT n fs ws k s1).1.map bJ))=s3 at mS o9 k3 ⊢
  have x6:c5 (ws.map wD) (k:Int)=some (.tup (w.map aW)):=qe (g:=wD) ew
  refine b7 ?_
  intro dQ hQ
  set_option simprocs false in simp only [bG,bF o9,x6]
  refine ⟨lP (by rw [bF o9];rfl),rfl,?_⟩
  rw [hw1]
  refine bw (SH (v:=w) (w:=[s1]) (by show _ + 1<=_;omega)) ?_
  rintro d s4 ⟨rfl,k4⟩
  have CU:=k4.keep _ _ mS (by simp)
  have x8:=k4.keep _ _ o9 (by simp)
  set_option simprocs false in simp only [bG,jg x8]
  refine ⟨gI (by rw [TJ,g.wl];omega),hQ _ _ (rest ?_ ?_ ((k3.trans k4.any).put (by simp)))⟩
  ·rw [TV (Ne.symm ab)];exact CU
  ·rw [TQ (cZ x8),eR,T6];rfl
def x9 (l:Nat×Nat):D:=.tup [.int (l.1:Int),.int (l.2:Int)]
theorem S1 {st:Store} {p:af.aU} {n N most:Nat} (w0:af.Wh n p) (n0:0 < n) (hn:n<=20) (F:af.Full n p (af.ch n p N) N) (pr:∀ j,j < N->j < (af.ch n p j).1.length) (hN:N<=most) (y6:most<=60):Wp (yU [bJ p,.int (most:Int)] st) fun d st'=>d=kZ (af.ch n p N) N/\Ex [] st st':=by
 refine fF ?_
 show Ws (EF [some (bJ p),some (.int (most:Int)),none,none,none,none,none,none] st) _ _ _ _
 unfold EF
 refine aV (bR ?_)
 kspl_open hQ
 refine bw (LU (E9 w0) n0 hn) ?_
 rintro d s1 ⟨rfl,k1⟩
 refine ⟨rfl,hQ _ _ (aV (bR ?_))⟩
 clear hQ
 kspl_open hQ
 refine ⟨rfl,rfl,hQ _ _ (aV (bR ?_))⟩
 clear hQ
 kspl_open hQ
 refine ⟨rfl,hQ _ _ ?_⟩
 clear hQ
 have eF:b6 (af.cE n (p.1,p.2)).1 (af.cE n (p.1,p.2)).2=bJ (af.cE n p):=rfl
 rw [eF]
 obtain ⟨a,b,c,s2,ea,eb,ec,es,ab,bc,la,ha,hb,hc,kx⟩:∃ (a b c:Nat) (s2:Store),s1.length=a/\(s1 ++ [O.lst [bJ (af.cE n p)]]).length=b/\(s1 ++ [O.lst [bJ (af.cE n p)]] ++ [O.lst [D.tup []]]).length=c/\s1 ++ [O.lst [bJ (af.cE n p)]] ++ [O.lst [D.tup []]] ++ [O.lst []]=s2/\a < b/\b < c/\st.length<=a/\s2[a]?=some (.lst ((af.ch n p 0).1.map bJ))/\s2[b]?=some (.lst ((af.ch n p 0).2.1.map wD))/\s2[c]?=some (.lst ((af.ch n p 0).2.2.map x9))/\Ex [] st s2 :=
  ⟨_,_,_,_,rfl,rfl,rfl,rfl,by simp,by simp,k1.len,jI (jI gH),jI gH,gH,((k1.app _).app _).app _⟩
 rw [ea,eb,ec,es]
 refine aV (xg (fun m δ s=>∃ (v5 v6 v7:Option D) (j:Nat),δ=[some (bJ p),some (.int (most:Int)),some (.ref a),some (.ref b),some (.ref c),v5,v6,v7]/\m + j=N/\s[a]?=some (.lst ((af.ch n p j).1.map bJ))/\s[b]?=some (.lst ((af.ch n p j).2.1.map wD))/\s[c]?=some (.lst ((af.ch n p j).2.2.map x9))/\Ex [] st s) N (by show N < 1000000;omega) ⟨none,none,none,0,rfl,rfl,ha,hb,hc,kx⟩ ?_)
 rintro m δ s ⟨v5,v6,v7,j,rfl,hm,ha,hb,hc,k⟩
 have g:=af.yI n0 w0 j fun i hi=>pr i (by omega)
 have mL:=g.ll
 have up:=uV n0 w0 N j pr (by omega)
 have hfl:=F.fl
 refine b7 ?_
 intro dQ hQ
 set_option simprocs false in simp only [bG,bF ha,bF hc]
 rw [TJ,TJ,mL]
 refine hQ _ _ ⟨fun z=>aV (i6 ?_),fun z=>dY ?_⟩
 ·have z:j < (af.ch n p j).1.length:=by have:=of_decide_eq_true z;omega
  clear hQ
  refine b7 ?_
  intro dQ hQ
  set_option simprocs false in simp only [bG,bF ha]
  rw [TJ]
  refine hQ _ _ ⟨fun y=>?_,fun y=>kE (aV (bR ?_))⟩
  ·have:=of_decide_eq_true y
   omega
  ·clear hQ
   have Tw:j < N:=by
    rcases Vn j N with h | h
    ·exact h
    ·have:j=N:=by omega
     subst this
     omega
   refine b7 ?_
   intro dQ hQ
   set_option simprocs false in simp only [bG,bF hc]
   rw [TJ,mL]
   refine hQ _ _ (aV (bR ?_))
   clear hQ
   kspl_open hQ
   have es1:D.tup [D.str (Str.ofString "s"),D.int 1]=aW (true,1):=rfl
   have S2:D.tup [D.str (Str.ofString "t"),D.int 1]=aW (false,1):=rfl
   rw [es1]
   have r1:=af.rV (s:=(true,1)) n0 g.r w0.v (k:=j) z (.inl rfl)
   have r2:=af.rV (s:=(false,1)) n0 r1.1 w0.v (k:=j) (by have:=r1.2.2.1;omega) (.inr rfl)
   refine bw (L6 (s1:=(true,1)) (k:=j) n0 hn (.inl rfl) (by omega) ha hb g.r w0.v z (by omega)) ?_
   rintro d s3 ⟨rfl,mS,o9,k3⟩
   have hc3:=k3.keep _ _ hc (by simp;omega)
   refine hQ _ _ (aV (bR ?_))
   clear hQ
   kspl_open hQ
   rw [S2]
   refine bw (L6 (s1:=(false,1)) (k:=j) n0 hn (.inr rfl) (by omega) mS o9 r1.1 w0.v (by have:=r1.2.2.1;omega) (by have:=r1.2.2.2.1;omega)) ?_
   rintro d s4 ⟨rfl,CU,x8,k4⟩
   have hc4:=k4.keep _ _ hc3 (by simp;omega)
   refine hQ _ _ (nP ?_)
   clear hQ
   refine b7 ?_
   intro dQ hQ
   set_option simprocs false in simp only [bG,jg hc4]
   have eS:af.kc n (af.ch n p j)=af.aT n (af.ch n p j).1 (af.ch n p j).2.1 j (true,1):=by unfold af.kc;rw [mL]
   have eT:af.jh n (af.ch n p j)=af.aT n (af.aT n (af.ch n p j).1 (af.ch n p j).2.1 j (true,1)).1 (af.aT n (af.ch n p j).1 (af.ch n p j).2.1 j (true,1)).2.1 j (false,1):=by unfold af.jh;rw [eS,mL]
   have kd:∀ {x y:Store},Ex [] st x->Ex [a,b] x y->Ex [] st y:=fun {x y} h g=>⟨Uh h.len g.len,fun i o e n=>g.keep i o (h.keep i o e n) (by have:=cZ e;simp;omega)⟩
   have k5:Ex [] st s4:=kd (kd k k3) k4
   refine ⟨lP (by rw [bF hc4];rfl),rfl,gI (by rw [TJ];omega),hQ _ _ ⟨m - 1,by omega,_,_,_,j + 1,rfl,by omega,?_,?_,?_,k5.loc (by omega)⟩⟩
   ·rw [TV (by omega)]
    show _=some (O.lst ((af.jh n (af.ch n p j)).1.map bJ))
    rw [eT];exact CU
   ·rw [TV (by omega)]
    show _=some (O.lst ((af.jh n (af.ch n p j)).2.1.map wD))
    rw [eT];exact x8
   ·rw [TQ (cZ hc4)]
    show _=some (O.lst (((af.ch n p j).2.2 ++ [((af.kc n (af.ch n p j)).2.2,(af.jh n (af.ch n p j)).2.2)]).map x9))
    rw [T6,eT,eS];rfl
 ·have z:¬ j < (af.ch n p j).1.length:=by have:=of_decide_eq_false z;omega
  have ej:j=N:=by
   rcases Vn j N with h | h
   ·exact absurd (pr j h) z
   ·omega
  subst ej
  clear hQ
  kspl_open hQ
  generalize hC:af.ch n p j=C at ha hb hc g F hfl mL
  refine rS (aD 0 j) (fun d=>oh (C.1.getD (inD d).toNat ([],[])) (C.2.1.getD (inD d).toNat []) (C.2.2.getD (inD d).toNat (0,0))) ?_ (by rw [fE];omega) ?_ ?_
  ·refine b7 ?_
   intro gw bU
   set_option simprocs false in simp only [bG,bF ha]
   rw [TJ,hfl]
   exact ⟨by omega,bU _ _ ⟨by rw [T3];exact rR _ _,Ex.refl⟩⟩
  ·intro d hd s5 k5
   obtain ⟨i,hi⟩:=Vq hd
   have hil:=cZ hi
   rw [fE] at hil
   rw [wC hil,U4] at hi
   cases hi
   have hwl:=g.r.wl
   have ef:=fm (d:=(([],[]):af.aU)) (show i < C.1.length by omega)
   have ew:=fm (d:=([]:List eW)) (show i < C.2.1.length by omega)
   have el:=fm (d:=((0,0):Nat×Nat)) (show i < C.2.2.length by omega)
   have a1:c5 (C.1.map bJ) (i:Int)=some (bJ (C.1.getD i ([],[]))):=qe ef
   have a2:c5 (C.2.1.map wD) (i:Int)=some (wD (C.2.1.getD i [])):=qe ew
   have a3:c5 (C.2.2.map x9) (i:Int)=some (x9 (C.2.2.getD i (0,0))):=qe el
   have g0:∀ {l:Nat×Nat} {s:Store} {Q:D->Store->Prop},Wp (aI (x9 l) (.int 0) s) Q↔Q (.int (l.1:Int)) s:=bC
   have g1:∀ {l:Nat×Nat} {s:Store} {Q:D->Store->Prop},Wp (aI (x9 l) (.int 1) s) Q↔Q (.int (l.2:Int)) s:=bC
   have HN:=k5.keep _ _ ha (by simp)
   have HP:=k5.keep _ _ hb (by simp)
   have hc5:=k5.keep _ _ hc (by simp)
   refine b7 ?_
   intro gw bU
   set_option simprocs false in simp only [bG,Ui,UB,Uy,Uz,bF HN,bF HP,bF hc5,a1,a2,a3,g0,g1]
   exact ⟨rfl,bU _ _ ⟨rfl,Ex.refl⟩⟩
  ·intro s5 k5
   refine ⟨_,rQ,hQ _ _ ⟨?_,(k.trans k5).app _⟩⟩
   rw [hC]
   unfold kZ
   congr 1
   unfold aD
   rw [Uq]
   refine Ux fun i _=>?_
   show oh _ _ _=_
   simp only [Function.comp,inD,U4,T3]
theorem S3 (c:af.CS) (N:Nat):∃ ds,kZ c N=.tup ds:=⟨_,rfl⟩
theorem S4 {st:Store} {f most:Nat} (hf:bO st f) (L7:30<=most) (y6:most<=60):Wp (BL [.ref f,.int (most:Int)] st) fun d st'=>∃ (n:Nat) (p:af.aU) (N:Nat),d=.tup [bJ p,kZ (af.ch n p N) N]/\af.Wh n p/\0 < n/\n<=6/\af.Full n p (af.ch n p N) N/\(∀ j,j < N->j < (af.ch n p j).1.length)/\N<=most/\bO st' f/\Ex [f] st st':=by
 refine fF ?_
 show Ws (Ee [some (.ref f),some (.int (most:Int)),none,none] st) _ _ _ _
 unfold Ee
 refine aV (bR ?_)
 kspl_open hQ
 refine bw (xY (n:=5) hf (by decide) (by decide)) ?_
 rintro d t1 ⟨k1,rfl,Tx,Tz,f1,e1⟩
 w_how
 refine ⟨rfl,?_⟩
 have f2:bO (t1 ++ [O.lst [D.int (1 + k1),D.int 6]]) f:=f1.keep (Ex.b5 _)
 have i2:(t1 ++ [O.lst [D.int (1 + k1),D.int 6]])[t1.length]?=some (.lst [D.int (1 + k1),D.int 6]):=gH
 have e2:Ex [f] st (t1 ++ [O.lst [D.int (1 + k1),D.int 6]]):=e1.app _
 have lf:=f1.lt
 have hne:t1.length≠f:=by omega
 generalize t1 ++ [O.lst [D.int (1 + k1),D.int 6]]=t2 at f2 i2 e2 ⊢
 generalize t1.length=r at i2 hne ⊢
 refine bw (xY (n:=8) f2 (by decide) (by decide)) ?_
 rintro d t3 ⟨k2,rfl,TB,TC,f3,e3⟩
 have i3:items t3 r=some [D.int (1 + k1),D.int 6]:=bF (e3.keep _ _ i2 (by simp;exact hne))
 set_option simprocs false in simp only [bG,i3]
 obtain ⟨n,x,hx,ex,n0,n6⟩:∃ (n:Nat) (x:D),c5 [D.int (1 + k1),D.int 6] (k2 / 7)=some x/\x=.int (n:Int)/\0 < n/\n<=6:=by
  rcases (show k2 / 7=0\/k2 / 7=1 by omega) with h | h
  ·rw [h];exact ⟨(1 + k1).toNat,_,rfl,by rw [Um (by omega)],by omega,by omega⟩
  ·rw [h];exact ⟨6,_,rfl,rfl,by decide,by decide⟩
 refine ⟨by decide,x,hx,?_⟩
 rw [ex]
 clear hx ex
 refine bw (LA (n:=n) f3 (by omega) (by omega)) ?_
 rintro d t4 ⟨xs,ys,rfl,fl,f4,e4⟩
 refine hQ _ _ (aV (bR ?_))
 clear hQ
 kspl_open hQ
 have w4:=LR fl
 have S5:Ex [f] st t4:=(e2.trans e3).trans e4
 refine bw (L3 (p:=(xs,ys)) (most:=most) w4 n0 (by omega) (by omega) y6) ?_
 rintro d t5 ⟨e5,hc⟩
 have f5:=f4.keep e5
 refine hQ _ _ ?_
 clear hQ
 show Ws _ _ _ _ _
 refine aV (xg (fun m δ s=>∃ (n:Nat) (p:af.aU) (d:D),δ=[some (.ref f),some (.int (most:Int)),some (bJ p),some d]/\af.Wh n p/\0 < n/\n<=6/\((∃ N,N<=most/\af.Full n p (af.ch n p N) N/\(∀ j,j < N->j < (af.ch n p j).1.length)/\d=kZ (af.ch n p N) N)\/(d=.non/\m=1))/\bO s f/\Ex [f] st s) 1 (by decide) ?_ ?_)
 ·refine ⟨n,(xs,ys),d,rfl,w4,n0,n6,?_,f5,S5.trans e5.any⟩
  rcases hc with h | h
  ·exact .inl h
  ·exact .inr ⟨h.1,rfl⟩
 ·rintro m δ s ⟨n,p,d,rfl,w4,n0,n6,hd,f6,e6⟩
  rcases hd with ⟨N,HQ,hF,yz,rfl⟩ | ⟨rfl,rfl⟩
  ·obtain ⟨ds,L8⟩:=S3 (af.ch n p N) N
   rw [L8]
   refine b7 ?_
   intro dQ hQ
   set_option simprocs false in simp only [bG,QB]
   refine hQ _ _ ⟨fun z=>(nomatch z),fun _=>dY ?_⟩
   clear hQ
   kspl_open hQ
   exact ⟨rfl,hQ _ _ ⟨n,p,N,by rw [L8],w4,n0,n6,hF,yz,HQ,f6,e6⟩⟩
  ·refine b7 ?_
   intro dQ hQ
   set_option simprocs false in simp only [bG,QA]
   refine hQ _ _ ⟨fun _=>aV (bR ?_),fun z=>(nomatch z)⟩
   clear hQ
   kspl_open hQ
   refine bw (xY (n:=3) f6 (by decide) (by decide)) ?_
   rintro d t7 ⟨k3,rfl,TF,TH,f7,e7⟩
   w_how
   obtain ⟨n',hn'⟩:∃ n':Nat,(1:Int) + k3=(n':Int):=⟨(1 + k3).toNat,by omega⟩
   rw [hn']
   refine bw (LA (n:=n') f7 (by omega) (by omega)) ?_
   rintro d t8 ⟨xs,ys,rfl,fl,f8,e8⟩
   refine hQ _ _ (bR ?_)
   clear hQ
   kspl_open hQ
   have w8:=LR fl
   refine bw (L3 (p:=(xs,ys)) (most:=most) w8 (show 0 < n' by omega) (by omega) (by omega) y6) ?_
   rintro d t9 ⟨e9,hc⟩
   rcases hc with ⟨N,HQ,hF,yz,rfl⟩ | ⟨rfl,i,pr,hi⟩
   ·exact hQ _ _ ⟨0,by decide,n',(xs,ys),_,rfl,w8,by omega,by omega,.inl ⟨N,HQ,hF,yz,rfl⟩,f8.keep e9,((e6.trans e7).trans e8).trans e9.any⟩
   ·have g:=af.yI (by omega) w8 i pr
    have:=af.QR (n:=n') (by omega) (by omega) g.r.nd g.r.own
    omega
def rX (C:af.CS) (t:af.oU):D:=lR (af.bu (af.pN C t))
theorem HR {st:Store} {Q:D->Store->Prop} {C:af.CS} {N g:Nat} (hg:g < N):Wp (aI (kZ C N) (.int (g:Int)) st) Q↔Q (oh (C.1.getD g ([],[])) (C.2.1.getD g []) (C.2.2.getD g (0,0))) st:=by
 have e:c5 ((List.range N).map fun k=>oh (C.1.getD k ([],[])) (C.2.1.getD k []) (C.2.2.getD k (0,0))) (g:Int)=some (oh (C.1.getD g ([],[])) (C.2.1.getD g []) (C.2.2.getD g (0,0))):=qe (g:=fun k=>oh (C.1.getD k ([],[])) (C.2.1.getD k []) (C.2.2.getD k (0,0))) (UQ hg)
 unfold kZ
 rw [KL,e]
 exact ⟨fun ⟨d,h1,h2⟩=>by cases h1;exact h2,fun h=>⟨_,rfl,h⟩⟩
theorem HS {st:Store} {Q:D->Store->Prop} {p:af.aU} {w:List eW} {l:Nat×Nat}:Wp (aI (oh p w l) (.int 1) st) Q↔Q (wD w) st:=bC
theorem L9 {s:Store} {n N a i:Nat} {p:af.aU} {C:af.CS} {x:Nat×List af.oU} {t:af.oU} {v3 v5 v6:Option D} {Nx B Co:aq->Store->Prop} {R:D->Store->Prop} (F:af.Full n p C N) (hN:N<=60) (ht:af.sX N t) (hx:x.2.length<=130) (ha:s[a]?=some (.lst (x.2.map (rX C))))
  (tu:∀ (s':Store),s'[a]?=some (.lst ((af.mM x t).2.map (rX C)))->Ex [a] s s'->Nx [some (kZ C N),some (.ref a),some (.int ((af.mM x t).1:Int)),v3,some (wD (C.2.1.getD t.1 [])),v5,v6,some (.str (if t.2.1.1 then "s" else "t")),some (.int (t.2.2:Int))] s') :
  Ws ((gF (aH (ay (jY false) (ag 8) (ag 2))) (aG (ay cM (ag 2) (fC (.int 1))) (hName 2)) (bN (gZ "list" aO (ag 1) (ae (aN yV (ae (ay eQ (ay eQ (ag 4) (a7 (ae (a7 (ae (ag 7) (ae (fC (.int 1)) ah))) ah))) (aN yX (ae (ay aI (ay aI (ag 0) (ag 8)) (fC (.int 1))) ah))) ah)) ah)))) [some (kZ C N),some (.ref a),some (.int (x.1:Int)),v3,some (wD (C.2.1.getD t.1 [])),v5,v6,some (.str (if t.2.1.1 then "s" else "t")),some (.int (t.2.2:Int))] s) Nx B Co R:=by
 obtain ⟨hw,lw⟩:=af.Ht F ht
 refine i6 ?_
 kspl_open hQ
 by_cases e:t.2.2=x.1
 ·refine hQ _ _ ⟨fun _=>bR ?_,fun z=>absurd z (by simp [e])⟩
  clear hQ
  kspl_open hQ
  refine hQ _ _ ?_
  have em:af.mM x t=(x.1 + 1,x.2):=by unfold af.mM;rw [if_pos e]
  rw [em] at tu
  exact tu s ha Ex.refl
 ·refine hQ _ _ ⟨fun z=>absurd (of_decide_eq_true z) (fun z=>e (by omega)),fun _=>nP ?_⟩
  clear hQ
  have em:af.mM x t=(x.1,x.2 ++ [t]):=by unfold af.mM;rw [if_neg e]
  rw [em] at tu
  kspl_open hQ
  have es:D.tup [D.str (if t.2.1.1=true then "s" else "t"),D.int 1]=aW t.2.1:=by
   obtain ⟨_,h2 | h2,_⟩:=ht <;> rw [h2] <;> rfl
  refine ⟨lP (by rw [bF ha];rfl),rfl,rfl,?_⟩
  rw [show D.tup [D.str (if t.2.1.1=true then Str.ofString "s" else Str.ofString "t"),D.int 1]=aW t.2.1 from es]
  obtain ⟨r1,r2⟩:=af.yK F ht.1
  obtain ⟨r3,r4⟩:=af.yK F ht.2.2
  unfold wD
  w_how
  rw [show (C.2.1.getD t.1 []).map aW ++ [aW t.2.1]=(C.2.1.getD t.1 [] ++ [t.2.1]).map aW by rw [T6];rfl]
  refine ⟨gI (by rw [TJ];show _ + 1<=_;omega),?_⟩
  rw [HR ht.2.2,HS]
  unfold wD
  refine bw (SV (w:=C.2.1.getD t.2.2 []) (by omega)) ?_
  rintro d s2 ⟨rfl,k2⟩
  w_how
  rw [<- T6]
  have hm:C.2.1.getD t.1 [] ++ [t.2.1] ++ af.kU (C.2.1.getD t.2.2 [])=af.pN C t:=rfl
  rw [hm]
  refine ⟨gI (by rw [TJ,TJ];have:=LW (C.2.1.getD t.2.2 []);rw [TN];show _ + 1 + _<=_;omega),?_⟩
  refine bw (SK (w:=af.pN C t) (fun s hs=>⟨(hw s hs).1,by have:=(hw s hs).2;omega⟩) (by omega)) ?_
  rintro d s3 ⟨rfl,k3⟩
  have mS:=(k2.trans k3).keep _ _ ha (by simp)
  refine ⟨_,jg mS,gI (by rw [TJ];omega),hQ _ _ (tu _ ?_ (((k2.trans k3).any).put (by simp)))⟩
  rw [TQ (cZ mS),T6]
  rfl
theorem Ma {n N:Nat} {p:af.aU} {C:af.CS} (F:af.Full n p C N) {i:Nat} (hi:i<=N) (hN:N<=60):(af.lQ C i).2.length<=120:=by
 have:=(af.yJ F i hi).2
 omega
theorem S6 {st:Store} {n N:Nat} {p:af.aU} {C:af.CS} (F:af.Full n p C N) (hN:N<=60):Wp (Ct [kZ C N] st) fun d st'=>d=.tup ((af.lQ C N).2.map (rX C))/\Ex [] st st':=by
 refine fF ?_
 show Ws (EK [some (kZ C N),none,none,none,none,none,none,none,none] st) _ _ _ _
 unfold EK
 refine aV (bR ?_)
 kspl_open hQ
 refine ⟨rfl,hQ _ _ (aV (bR ?_))⟩
 clear hQ
 kspl_open hQ
 refine hQ _ _ ?_
 clear hQ
 obtain ⟨a,s0,ea,es,ha,kx⟩:∃ (a:Nat) (s0:Store),st.length=a/\st ++ [O.lst []]=s0/\s0[a]?=some (.lst ((af.lQ C 0).2.map (rX C)))/\Ex [] st s0:=⟨_,_,rfl,rfl,gH,Ex.b5 _⟩
 rw [ea,es]
 refine aV (kL ((List.range N).map fun k=>oh (C.1.getD k ([],[])) (C.2.1.getD k []) (C.2.2.getD k (0,0))) (fun i δ s=>∃ (v3 v4 v5 v6 v7 v8:Option D),δ=[some (kZ C N),some (.ref a),some (.int ((af.lQ C i).1:Int)),v3,v4,v5,v6,v7,v8]/\s[a]?=some (.lst ((af.lQ C i).2.map (rX C)))/\Ex [] st s) ?_ (by rw [TJ,VS];omega) ?_ ?_)
 ·kspl_open hQ
  exact ⟨_,rfl,hQ _ _ ⟨rfl,_,_,_,_,_,_,rfl,ha,kx⟩⟩
 ·rintro i d δ s hd ⟨v3,v4,v5,v6,v7,v8,rfl,ha,k⟩
  have hi:i < N:=by have:=cZ hd;rw [TJ,VS] at this;exact this
  rw [TR,UQ hi] at hd
  cases hd
  dsimp only
  have l1:=af.Hs F hi
  have m1:=af.yJ F i (by omega)
  have t1:af.sX N (i,(true,1),(af.lY C i).1):=⟨hi,.inl rfl,l1.1⟩
  have t2:af.sX N (i,(false,1),(af.lY C i).2):=⟨hi,.inr rfl,l1.2⟩
  have m2:=af.DY m1.1 t1
  unfold oh
  kspl_open hQ
  refine ⟨rfl,hQ _ _ ?_⟩
  clear hQ
  refine kL [.tup [.str "s",.int ((af.lY C i).1:Int)],.tup [.str "t",.int ((af.lY C i).2:Int)]] (fun j δ s=>∃ (v7 v8:Option D),δ=[some (kZ C N),some (.ref a),some (.int ((af.DX C i j).1:Int)),some (bJ (C.1.getD i ([],[]))),some (wD (C.2.1.getD i [])),some (.int ((af.lY C i).1:Int)),some (.int ((af.lY C i).2:Int)),v7,v8]/\s[a]?=some (.lst ((af.DX C i j).2.map (rX C)))/\Ex [] st s) ?_ (show 2 < 100000 by decide) ?_ ?_
  ·kspl_open hQ
   exact ⟨rfl,rfl,rfl,hQ _ _ ⟨rfl,_,_,rfl,ha,k⟩⟩
  ·rintro j d δ s' hd ⟨v7,v8,rfl,ha',k'⟩
   rcases j with _ | _ | j
   ·cases hd
    kspl_open hQ
    refine ⟨rfl,hQ _ _ ?_⟩
    exact L9 (i:=i) (x:=af.lQ C i) (t:=(i,(true,1),(af.lY C i).1)) F hN t1 (by omega) ha' fun s2 ha2 k2=>⟨_,_,rfl,ha2,k'.drop k2 (by omega)⟩
   ·cases hd
    kspl_open hQ
    refine ⟨rfl,hQ _ _ ?_⟩
    exact L9 (i:=i) (x:=af.mM (af.lQ C i) (i,(true,1),(af.lY C i).1)) (t:=(i,(false,1),(af.lY C i).2)) F hN t2 (by have:=m2.2;omega) ha' fun s2 ha2 k2=>⟨_,_,rfl,ha2,k'.drop k2 (by omega)⟩
   ·exact absurd hd (by simp)
  ·rintro δ s' ⟨v7,v8,rfl,ha',k'⟩
   exact ⟨_,_,_,_,_,_,rfl,ha',k'⟩
 ·rintro δ s ⟨v3,v4,v5,v6,v7,v8,rfl,ha,k⟩
  rw [TJ,VS] at ha
  refine dY ?_
  kspl_open hQ
  exact ⟨_,bF ha,hQ _ _ ⟨rfl,k⟩⟩
def uW (t:af.oU):D:=.tup [.int (t.1:Int),aW t.2.1,.int (t.2.2:Int)]
theorem Mb {s:Store} {a N:Nat} {c:D} {x:Nat×List af.oU} {t:af.oU} {v4:Option D} {Nx B Co:aq->Store->Prop} {R:D->Store->Prop} (hx:x.2.length<=130) (ha:s[a]?=some (.lst (x.2.map uW)))
  (tu:∀ (s':Store),s'[a]?=some (.lst ((af.mM x t).2.map uW))->Ex [a] s s'->Nx [some c,some (.ref a),some (.int ((af.mM x t).1:Int)),some (.int (t.1:Int)),v4,some (aW t.2.1),some (.int (t.2.2:Int))] s') :
  Ws ((gF (aH (ay (jY false) (ag 6) (ag 2))) (aG (ay cM (ag 2) (fC (.int 1))) (hName 2)) (bN (gZ "list" aO (ag 1) (ae (a7 (ae (ag 3) (ae (ag 5) (ae (ag 6) ah)))) ah)))) [some c,some (.ref a),some (.int (x.1:Int)),some (.int (t.1:Int)),v4,some (aW t.2.1),some (.int (t.2.2:Int))] s) Nx B Co R:=by
 refine i6 ?_
 kspl_open hQ
 by_cases e:t.2.2=x.1
 ·refine hQ _ _ ⟨fun _=>bR ?_,fun z=>absurd z (by simp [e])⟩
  clear hQ
  kspl_open hQ
  refine hQ _ _ ?_
  have em:af.mM x t=(x.1 + 1,x.2):=by unfold af.mM;rw [if_pos e]
  rw [em] at tu
  exact tu s ha Ex.refl
 ·refine hQ _ _ ⟨fun z=>absurd (of_decide_eq_true z) (fun z=>e (by omega)),fun _=>nP ?_⟩
  clear hQ
  have em:af.mM x t=(x.1,x.2 ++ [t]):=by unfold af.mM;rw [if_neg e]
  rw [em] at tu
  refine b7 ?_
  intro dQ hQ
  set_option simprocs false in simp only [bG,jg ha]
  refine ⟨lP (by rw [bF ha];rfl),rfl,gI (by rw [TJ];omega),hQ _ _ (tu _ ?_ (Ex.refl.put (by simp)))⟩
  rw [TQ (cZ ha),T6]
  rfl
theorem ya {st:Store} {Q:D->Store->Prop} {p:af.aU} {w:List eW} {l:Nat×Nat}:Wp (aI (oh p w l) (.int 2) st) Q↔Q (.int (l.1:Int)) st:=bC
theorem yb {st:Store} {Q:D->Store->Prop} {p:af.aU} {w:List eW} {l:Nat×Nat}:Wp (aI (oh p w l) (.int 3) st) Q↔Q (.int (l.2:Int)) st:=bC
theorem S7 {ds:List D} {i:Nat} {d:D} (h:ds[i]?=some d):(gR ds)[i]?=some (.tup [.int (i:Int),d]):=by
 unfold gR
 simp [TR,List.getElem?_zipIdx,h]
theorem S8 {st:Store} {n N:Nat} {p:af.aU} {C:af.CS} (F:af.Full n p C N) (hN:N<=60):Wp (Cv [kZ C N] st) fun d st'=>d=.tup ((af.lQ C N).2.map uW)/\Ex [] st st':=by
 refine fF ?_
 show Ws (EL [some (kZ C N),none,none,none,none,none,none] st) _ _ _ _
 unfold EL
 refine aV (bR ?_)
 kspl_open hQ
 refine ⟨rfl,hQ _ _ (aV (bR ?_))⟩
 clear hQ
 kspl_open hQ
 refine hQ _ _ ?_
 clear hQ
 obtain ⟨a,s0,ea,es,ha,kx⟩:∃ (a:Nat) (s0:Store),st.length=a/\st ++ [O.lst []]=s0/\s0[a]?=some (.lst ((af.lQ C 0).2.map uW))/\Ex [] st s0:=⟨_,_,rfl,rfl,gH,Ex.b5 _⟩
 rw [ea,es]
 have eL:(gR ((List.range N).map fun k=>oh (C.1.getD k ([],[])) (C.2.1.getD k []) (C.2.2.getD k (0,0)))).length=N:=by unfold gR;simp
 refine aV (kL (gR ((List.range N).map fun k=>oh (C.1.getD k ([],[])) (C.2.1.getD k []) (C.2.2.getD k (0,0)))) (fun i δ s=>∃ (v3 v4 v5 v6:Option D),δ=[some (kZ C N),some (.ref a),some (.int ((af.lQ C i).1:Int)),v3,v4,v5,v6]/\s[a]?=some (.lst ((af.lQ C i).2.map uW))/\Ex [] st s) ?_ (by omega) ?_ ?_)
 ·kspl_open hQ
  exact ⟨_,rfl,hQ _ _ ⟨rfl,_,_,_,_,rfl,ha,kx⟩⟩
 ·rintro i d δ s hd ⟨v3,v4,v5,v6,rfl,ha,k⟩
  have hi:i < N:=by have:=cZ hd;omega
  rw [S7 (d:=oh (C.1.getD i ([],[])) (C.2.1.getD i []) (C.2.2.getD i (0,0))) (by rw [TR,UQ hi];rfl)] at hd
  cases hd
  have l1:=af.Hs F hi
  have m1:=af.yJ F i (by omega)
  have m2:=af.DY m1.1 (show af.sX N (i,(true,1),(af.lY C i).1) from ⟨hi,.inl rfl,l1.1⟩)
  kspl_open hQ
  refine ⟨rfl,hQ _ _ ?_⟩
  clear hQ
  refine kL [.tup [aW (true,1),.int ((af.lY C i).1:Int)],.tup [aW (false,1),.int ((af.lY C i).2:Int)]] (fun j δ s=>∃ (v5 v6:Option D),δ=[some (kZ C N),some (.ref a),some (.int ((af.DX C i j).1:Int)),some (.int (i:Int)),some (oh (C.1.getD i ([],[])) (C.2.1.getD i []) (C.2.2.getD i (0,0))),v5,v6]/\s[a]?=some (.lst ((af.DX C i j).2.map uW))/\Ex [] st s) ?_ (show 2 < 100000 by decide) ?_ ?_
  ·refine b7 ?_
   intro dQ hQ
   set_option simprocs false in simp only [bG,ya,yb]
   exact ⟨rfl,rfl,rfl,hQ _ _ ⟨rfl,_,_,rfl,ha,k⟩⟩
  ·rintro j d δ s' hd ⟨v5,v6,rfl,ha',k'⟩
   rcases j with _ | _ | j
   ·cases hd
    kspl_open hQ
    refine ⟨rfl,hQ _ _ ?_⟩
    exact Mb (N:=N) (x:=af.lQ C i) (t:=(i,(true,1),(af.lY C i).1)) (by omega) ha' fun s2 ha2 k2=>⟨_,_,rfl,ha2,k'.drop k2 (by omega)⟩
   ·cases hd
    kspl_open hQ
    refine ⟨rfl,hQ _ _ ?_⟩
    exact Mb (N:=N) (x:=af.mM (af.lQ C i) (i,(true,1),(af.lY C i).1)) (t:=(i,(false,1),(af.lY C i).2)) (by have:=m2.2;omega) ha' fun s2 ha2 k2=>⟨_,_,rfl,ha2,k'.drop k2 (by omega)⟩
   ·exact absurd hd (by simp)
  ·rintro δ s' ⟨v5,v6,rfl,ha',k'⟩
   exact ⟨_,_,_,_,rfl,ha',k'⟩
 ·rintro δ s ⟨v3,v4,v5,v6,rfl,ha,k⟩
  rw [eL] at ha
  refine dY ?_
  kspl_open hQ
  exact ⟨_,bF ha,hQ _ _ ⟨rfl,k⟩⟩
theorem S9 {st:Store} {n N:Nat} {p:af.aU} {C:af.CS} (F:af.Full n p C N) (hN:N<=60):Wp (CH [kZ C N] st) fun d st'=>d=.tup ((af.lQ C N).2.map (rX C))/\Ex [] st st':=by
 refine fF ?_
 show Ws (EV [some (kZ C N),none,none,none,none] st) _ _ _ _
 unfold EV
 refine aV (bR ?_)
 kspl_open hQ
 refine ⟨rfl,hQ _ _ ?_⟩
 clear hQ
 obtain ⟨a,s0,ea,es,ha,kx⟩:∃ (a:Nat) (s0:Store),st.length=a/\st ++ [O.lst []]=s0/\s0[a]?=some (.lst ([]:List D))/\Ex [] st s0:=⟨_,_,rfl,rfl,gH,Ex.b5 _⟩
 rw [ea,es]
 have mk:=af.yJ F N (TM _)
 have hL:=Ma F (TM N) hN
 generalize hM:(af.lQ C N).2=L at mk hL ⊢
 refine aV (kL (L.map uW) (fun i δ s=>∃ (v2 v3 v4:Option D),δ=[some (kZ C N),some (.ref a),v2,v3,v4]/\s[a]?=some (.lst ((L.take i).map (rX C)))/\Ex [] st s) ?_ (by rw [TJ];omega) ?_ ?_)
 ·kspl_open hQ
  refine bw (S8 (st:=s0) F hN) ?_
  rintro d s1 ⟨rfl,k1⟩
  rw [hM]
  exact ⟨_,rfl,hQ _ _ ⟨rfl,_,_,_,rfl,k1.keep _ _ ha (by simp),kx.trans k1⟩⟩
 ·rintro i d δ s hd ⟨v2,v3,v4,rfl,ha,k⟩
  have hi:i < L.length:=by have:=cZ hd;rw [TJ] at this;exact this
  rw [TR,TL hi] at hd
  have ht:=mk.1 _ (VC hi)
  have et:L.take (i + 1)=L.take i ++ [L[i]]:=by rw [List.take_succ,TL hi];rfl
  generalize L[i]=t at hd ht et
  cases hd
  obtain ⟨hw,lw⟩:=af.Ht F ht
  obtain ⟨r1,r2⟩:=af.yK F ht.1
  obtain ⟨r3,r4⟩:=af.yK F ht.2.2
  unfold uW
  kspl_open hQ
  refine ⟨rfl,hQ _ _ (nP ?_)⟩
  clear hQ
  kspl_open hQ
  refine ⟨lP (by rw [bF ha];rfl),?_⟩
  rw [HR ht.1,HS]
  unfold wD
  w_how
  rw [show (C.2.1.getD t.1 []).map aW ++ [aW t.2.1]=(C.2.1.getD t.1 [] ++ [t.2.1]).map aW by rw [T6];rfl]
  refine ⟨rfl,gI (by rw [TJ];show _ + 1<=_;omega),?_⟩
  rw [HR ht.2.2,HS]
  unfold wD
  refine bw (SJ (w:=C.2.1.getD t.2.2 []) (by omega)) ?_
  rintro d s2 ⟨rfl,k2⟩
  w_how
  rw [<- T6]
  have hm:C.2.1.getD t.1 [] ++ [t.2.1] ++ af.kU (C.2.1.getD t.2.2 [])=af.pN C t:=rfl
  rw [hm]
  refine ⟨gI (by rw [TJ,TJ];have:=LW (C.2.1.getD t.2.2 []);rw [TN];show _ + 1 + _<=_;omega),?_⟩
  refine bw (SA (w:=af.pN C t) (fun s hs=>⟨(hw s hs).1,by have:=(hw s hs).2;omega⟩) (by omega)) ?_
  rintro d s3 ⟨rfl,k3⟩
  have mS:=(k2.trans k3).keep _ _ ha (by simp)
  refine ⟨_,jg mS,gI (by rw [TJ,UJ];omega),hQ _ _ ⟨_,_,_,rfl,?_,(k.trans (k2.trans k3)).loc (by omega)⟩⟩
  rw [TQ (cZ mS),et,T6]
  rfl
 ·rintro δ s ⟨v2,v3,v4,rfl,ha,k⟩
  rw [TJ,UH] at ha
  refine dY ?_
  kspl_open hQ
  exact ⟨_,bF ha,hQ _ _ ⟨rfl,k⟩⟩
theorem Ta {n N:Nat} {p:af.aU} {C:af.CS} (F:af.Full n p C N) (hN:N<=60):∃ rs,Bu rs/\D.tup ((af.lQ C N).2.map (rX C))=yG rs:=by
 refine ⟨(af.lQ C N).2.map fun t=>[(af.bu (af.pN C t)).a,(af.bu (af.pN C t)).b,(af.bu (af.pN C t)).c,(af.bu (af.pN C t)).d],⟨by rw [TJ];have:=Ma F (TM N) hN;omega,fun r hr=>?_⟩,?_⟩
 ·obtain ⟨t,ht,rfl⟩:=Ub.mp hr
  obtain ⟨hw,lw⟩:=af.Ht F ((af.yJ F N (TM _)).1 t ht)
  have hl:(af.bu (af.pN C t)).le (64 ^ 121):=af.OH (B:=63) (fun s hs=>⟨(hw s hs).1,by have:=(hw s hs).2;omega⟩) (by omega)
  refine ⟨by show 4<=10;decide,fun i hi=>?_⟩
  have:i.natAbs<=64 ^ 121:=by
   obtain ⟨h1,h2,h3,h4⟩:=hl
   simp only [Up,V1,or_false] at hi
   rcases hi with rfl | rfl | rfl | rfl
   ·exact h1
   ·exact h2
   ·exact h3
   ·exact h4
  unfold DZ
  by_cases z:i.natAbs=0
  ·rw [z];decide
  ·exact (Nat.log2_lt z).mpr (UG this (by decide))
 ·unfold yG
  rw [Uq]
  rfl
def nX (e:Nat×af.aU×Nat):D:=.tup [bJ e.2.1,kZ (af.ch e.1 e.2.1 e.2.2) e.2.2,.tup ((af.lQ (af.ch e.1 e.2.1 e.2.2) e.2.2).2.map (rX (af.ch e.1 e.2.1 e.2.2)))]
theorem uX (C:af.CS) (N:Nat):pU 5 (kZ C N):=fun d hd=>by
 obtain ⟨k,_,rfl⟩:=Ub.mp hd
 show ∀ d∈[bJ (C.1.getD k ([],[])),wD (C.2.1.getD k []),D.int ((C.2.2.getD k (0,0)).1:Int),D.int ((C.2.2.getD k (0,0)).2:Int)],pU 3 d
 intro d hd
 simp only [Up,V1,or_false] at hd
 rcases hd with rfl | rfl | rfl | rfl
 ·exact Hm 1 _ _
 ·exact fun d hd=>by obtain ⟨x,_,rfl⟩:=Ub.mp hd;exact uM 1 x
 ·exact True.intro
 ·exact True.intro
theorem rC (ns:List Int) (hns:ns.length<=63):Wp (Hw [.ref 0] [.oQ (ns.map D.int)]) fun d _=>d=.bl true:=by
 refine fF ?_
 show Ws (EW [some (.ref 0),none,none,none,none,none,none,none,none] [.oQ (ns.map D.int)]) _ _ _ _
 unfold EW
 have Fc:([O.oQ (ns.map D.int)]:Store)[0]?=some (.oQ (ns.map D.int)):=rfl
 generalize ([O.oQ (ns.map D.int)]:Store)=kK at Fc
 refine aV (bR ?_)
 kspl_open hQ
 refine ⟨rfl,hQ _ _ ?_⟩
 clear hQ
 obtain ⟨g,s0,eg,es,hg,h01,g0⟩:∃ (g:Nat) (s0:Store),kK.length=g/\kK ++ [O.lst []]=s0/\s0[g]?=some (.lst (([]:List (Nat×af.aU×Nat)).map nX))/\s0[0]?=some (.oQ (ns.map D.int))/\0 < g:=⟨_,_,rfl,rfl,gH,jI Fc,cZ Fc⟩
 rw [eg,es]
 clear eg es Fc
 obtain ⟨m,hm,Tb⟩:∃ m:Nat,(if (if (ns.length:Int) < 4 then (ns.length:Int) else 4) > 2 then (if (ns.length:Int) < 4 then (ns.length:Int) else 4) else 2)=(m:Int) + 1/\m<=8:=by
  refine ⟨((if (if (ns.length:Int) < 4 then (ns.length:Int) else 4) > 2 then (if (ns.length:Int) < 4 then (ns.length:Int) else 4) else 2) - 1).toNat,?_,?_⟩ <;> split <;> split <;> omega
 refine aV (kL (aD 1 m) (fun i δ s=>∃ (v2 v3 v4 v5 v6 v7 v8:Option D) (es:List (Nat×af.aU×Nat)),δ=[some (.ref 0),some (.ref g),v2,v3,v4,v5,v6,v7,v8]/\s[0]?=some (.oQ (ns.map D.int))/\s[g]?=some (.lst (es.map nX))/\es.length=i/\∀ e∈es,af.Full e.1 e.2.1 (af.ch e.1 e.2.1 e.2.2) e.2.2/\e.2.2<=60) ?_ (by rw [fE];omega) ?_ ?_)
 ·refine b7 ?_
  intro dQ hQ
  set_option simprocs false in simp only [bG,KP h01]
  rw [TJ,hm]
  exact ⟨1,(m:Int) + 1,⟨rfl,rfl⟩,⟨⟨by decide,by decide⟩,by omega,by omega⟩,hQ _ _ ⟨by rw [show ((m:Int) + 1 - 1).toNat=m by omega],_,_,_,_,_,_,_,[],rfl,h01,hg,rfl,(fun e he=>nomatch he)⟩⟩
 ·rintro i d δ s hd ⟨v2,v3,v4,v5,v6,v7,v8,es,rfl,h0,hg,el,hes⟩
  have hil:=cZ hd
  rw [fE] at hil
  rw [wC hil] at hd
  cases hd
  kspl_open hQ
  refine hQ _ _ (aV (bR ?_))
  clear hQ
  kspl_open hQ
  rw [show (1:Int) + (i:Int)=((1 + i:Nat):Int) by omega]
  refine bw (RY (a:=0) (ns:=ns) (k:=1 + i) (KP h0) (by omega)) ?_
  rintro d s1 ⟨rfl,f1,k1⟩
  have h01:=k1.keep _ _ h0 (by simp)
  have Tc:=k1.keep _ _ hg (by simp)
  have Gg:g < s.length:=cZ hg
  generalize s.length=f at f1 Gg
  refine hQ _ _ (aV (bR ?_))
  clear hQ
  kspl_open hQ
  have f2:=f1.keep (Ex.b5 [O.lst [D.int 30,D.int 60]])
  have h02:=jI (m:=[O.lst [D.int 30,D.int 60]]) h01
  have y3:=jI (m:=[O.lst [D.int 30,D.int 60]]) Tc
  have i2:(s1 ++ [O.lst [D.int 30,D.int 60]])[s1.length]?=some (.lst [D.int 30,D.int 60]):=gH
  have hne:s1.length≠f:=by have:=f1.lt;omega
  generalize s1 ++ [O.lst [D.int 30,D.int 60]]=s2 at f2 h02 y3 i2 ⊢
  generalize s1.length=r at i2 hne ⊢
  refine ⟨rfl,?_⟩
  refine bw (xY (n:=2) f2 (by decide) (by decide)) ?_
  rintro d s3 ⟨k,rfl,k0,k2,f3,e3⟩
  have Td:=e3.keep _ _ h02 (by simp;omega)
  have xZ:=e3.keep _ _ y3 (by simp;omega)
  have i3:=bF (e3.keep _ _ i2 (by simp;exact hne))
  set_option simprocs false in simp only [bG,i3]
  obtain ⟨most,hmo,L7,y6⟩:∃ most:Nat,c5 [D.int 30,D.int 60] k=some (.int (most:Int))/\30<=most/\most<=60:=by
   rcases (show k=0\/k=1 by omega) with h | h
   ·exact ⟨30,by rw [h];rfl,by decide,by decide⟩
   ·exact ⟨60,by rw [h];rfl,by decide,by decide⟩
  refine ⟨_,hmo,hQ _ _ (aV (qd ?_))⟩
  clear hQ
  kspl_open hQ
  refine bw (S4 (most:=most) f3 L7 y6) ?_
  rintro d s4 ⟨n,p,N,rfl,w0,n0,n6,hF,yz,hN,f4,e4⟩
  have Te:=e4.keep _ _ Td (by simp;omega)
  have tf:=e4.keep _ _ xZ (by simp;omega)
  refine hQ _ _ ?_
  clear hQ
  kspl_open hQ
  refine ⟨rfl,hQ _ _ (aV (bR ?_))⟩
  clear hQ
  kspl_open hQ
  rw [show (D.int 60)=.int ((60:Nat):Int) from rfl]
  show Wp (yU [bJ p,.int ((60:Nat):Int)] s4) _
  refine bw (S1 (most:=60) w0 n0 (by omega) hF yz (by omega) (by decide)) ?_
  rintro d s5 ⟨rfl,k5⟩
  have Tf:=k5.keep _ _ Te (by simp)
  have Mc:=k5.keep _ _ tf (by simp)
  refine hQ _ _ (aV (i6 ?_))
  clear hQ
  kspl_open hQ
  rw [xI (n:=5) (uX _ _) (uX _ _) (by decide)]
  refine ⟨_,rfl,hQ _ _ ⟨fun z=>absurd z (by simp),fun _=>kE (nP ?_)⟩⟩
  clear hQ
  kspl_open hQ
  refine ⟨lP (by rw [bF Mc];rfl),?_⟩
  refine bw (S6 (st:=s5) hF (by omega)) ?_
  rintro d s6 ⟨rfl,k6⟩
  have Tg:=k6.keep _ _ Tf (by simp)
  have Md:=k6.keep _ _ Mc (by simp)
  set_option simprocs false in simp only [bG,jg Md]
  refine ⟨rfl,gI (by rw [TJ];omega),hQ _ _ ⟨_,_,_,_,_,_,_,es ++ [(n,p,N)],rfl,?_,?_,by rw [TN,el];rfl,fun e he=>?_⟩⟩
  ·rw [TV (by omega)];exact Tg
  ·rw [TQ (cZ Md),T6];rfl
  ·rcases Uk.mp he with h | h
   ·exact hes e h
   ·rw [Ud.mp h];exact ⟨hF,by show N<=60;omega⟩
 ·rintro δ s ⟨v2,v3,v4,v5,v6,v7,v8,es,rfl,h0,hg,el,hes⟩
  rw [fE] at el
  have hcl:(es.map nX ++ cutD (es.map nX) none (some 1)).length<=100:=by
   rw [TN]
   have:=Qq (es.map nX) none (some 1)
   rw [TJ] at this ⊢
   omega
  have hin:∀ d∈es.map nX ++ cutD (es.map nX) none (some 1),∃ e∈es,d=nX e:=fun d hd=>by
   have:d∈es.map nX:=by
    rcases Uk.mp hd with h | h
    ·exact h
    ·exact Qp h
   obtain ⟨w,hw,rfl⟩:=Ub.mp this
   exact ⟨w,hw,rfl⟩
  refine aV (G7 (es.map nX ++ cutD (es.map nX) none (some 1)) (s.length + 1) (fun i δ s'=>∃ (v2 v3 v4 v5 v6 v7 v8:Option D),δ=[some (.ref 0),some (.ref g),v2,v3,v4,v5,v6,v7,v8]/\s'[s.length + 1]?=some (.lst (es.map nX ++ cutD (es.map nX) none (some 1)))) ?_ (by omega) ?_ ?_ ?_)
  ·refine b7 ?_
   intro dQ hQ
   set_option simprocs false in simp only [bG,bF hg]
   rw [TN] at hcl
   refine ⟨_,jg (jI hg),gI (by omega),?_⟩
   rw [show (s ++ [O.lst (cutD (es.map nX) none (some 1))]).length=s.length + 1 from TN]
   refine hQ _ _ ⟨rfl,_,_,_,_,_,_,_,rfl,?_⟩
   have:=gH (l:=s ++ [O.lst (cutD (es.map nX) none (some 1))]) (o:=O.lst (es.map nX ++ cutD (es.map nX) none (some 1)))
   rwa [show (s ++ [O.lst (cutD (es.map nX) none (some 1))]).length=s.length + 1 from TN] at this
  ·rintro i δ s' ⟨v2,v3,v4,v5,v6,v7,v8,rfl,h⟩
   exact bF h
  ·rintro i d δ s1 hd ⟨v2,v3,v4,v5,v6,v7,v8,rfl,hL⟩
   obtain ⟨e,he,rfl⟩:=hin d (T2 hd)
   obtain ⟨F,hN⟩:=hes e he
   obtain ⟨rs,ok,Me⟩:=Ta F hN
   unfold nX
   rw [Me]
   kspl_open hQ
   refine ⟨rfl,hQ _ _ (i6 ?_)⟩
   clear hQ
   kspl_open hQ
   refine bw (S9 (st:=s1) F hN) ?_
   rintro d s2 ⟨rfl,k2⟩
   have Ti:=k2.keep _ _ hL (by simp)
   rw [Me,Lq ok,Lq ok]
   w_how
   exact hQ _ _ ⟨fun z=>absurd z (by simp),fun _=>kE ⟨_,_,_,_,_,_,_,rfl,Ti⟩⟩
  ·rintro δ s1 ⟨v2,v3,v4,v5,v6,v7,v8,rfl,hL⟩
   refine dY ?_
   kspl_open hQ
   exact hQ _ _ rfl
theorem yc {P:Program} {w:World} {K:Zfr} {mg:Str->Option Value} {base:Heap} (T:Txt mg) {cb:V} (a9:nB K mg "QUARTER_charts" cb (.tup [(.str "t"),(.int 1)])) {fj:V} (cY:nB K mg "QUARTER_words" fj (.tup [(.int 0),(.int (-1)),(.int 1),(.int 0)])) {mH:V} (jm:nB K mg "SHEAR" mH (.tup [(.str "s"),(.int 1)])) {jr:V} (dM:nB K mg "UNMOVED" jr (.tup [(.int 1),(.int 0),(.int 0),(.int 1)])) {iD:Addr} {iE:FuncData} (iF:Def K mg "_law_feed" Bx ["_law_script","_law_k"] iD iE) {bh:Addr} {bj:FuncData} (aR:Def K mg "_law_take" uN ["_law_feed_here","_law_many"] bh bj) {dh:Addr} {di:FuncData} (cD:Def K mg "_law_turning" By ["_law_feed_here","_law_n"] dh di) {jJ:Addr} {jK:FuncData} (gT:Def K mg "_law_met" Bz ["_law_floor_here"] jJ jK) {fJ:Addr} {fK:FuncData} (dH:Def K mg "_law_floor" BB ["_law_feed_here","_law_n"] fJ fK) {cS:Addr} {cT:FuncData} (cU:Def K mg "_law_numbered" BE ["_law_floor_here","_law_s"] cS cT) {hJ:Addr} {hU:FuncData} (eY:Def K mg "_law_form" BF ["_law_floor_here"] hJ hU) {d7:Addr} {d8:FuncData} (d9:Def K mg "_law_behind" BH ["_law_turning_here","_law_s","_law_k"] d7 d8) {dk:Addr} {dn:FuncData} (dr:Def K mg "_law_stepped" BI ["_law_floor_here","_law_step"] dk dn) {fG:Addr} {fH:FuncData} (fI:Def K mg "_law_plain" BJ ["_law_word"] fG fH) {fM:Addr} {fN:FuncData} (dI:Def K mg "_law_chart" BK ["_law_floor_here","_law_most"] fM fN) {jS:Addr} {jT:FuncData} (jU:Def K mg "_law_own" BM ["_law_feed_here","_law_most"] jS jT) {bx:Addr} {bz:FuncData} (bA:Def K mg "turned_back" xU ["turning"] bx bz) {c9:Addr} {dc:FuncData} (cf:Def K mg "followed" yQ ["one","other"] c9 dc) {eh:Addr} {eo:FuncData} (eu:Def K mg "called_anew" BP ["floor","p"] eh eo) {du:Addr} {dv:FuncData} (dw:Def K mg "squares_from" BR ["floor","s"] du dv) {cF:Addr} {cG:FuncData} (cH:Def K mg "numbering_from" BU ["floor","s"] cF cG) {cV:Addr} {cW:FuncData} (cX:Def K mg "numbered_from" BW ["floor","s"] cV cW) {fe:Addr} {ff:FuncData} (fg:Def K mg "form_of" yS ["floor"] fe ff) {h7:Addr} {h8:FuncData} (h9:Def K mg "ring_from" BZ ["turning","first"] h7 h8) {jM:Addr} {jN:FuncData} (jO:Def K mg "rings_of" B1 ["turning"] jM jN) {nS:Addr} {nT:FuncData} (nU:Def K mg "often" B3 ["turning","k"] nS nT) {kM:Addr} {kN:FuncData} (kO:Def K mg "sheared" B6 ["floor","k"] kM kN) {ie:Addr} {ig:FuncData} (ik:Def K mg "quartered" B8 ["floor"] ie ig) {eA:Addr} {eB:FuncData} (eC:Def K mg "led_by_step" Ca ["floor","step"] eA eB) {ma:Addr} {md:FuncData} (mf:Def K mg "led_by" Cc ["floor","word"] ma md) {l6:Addr} {l8:FuncData} (l9:Def K mg "joined" Ce ["one","other"] l6 l8) {fP:Addr} {fQ:FuncData} (fR:Def K mg "made_plain" Cg ["word"] fP fQ) {dz:Addr} {dA:FuncData} (dB:Def K mg "put_together" Ck ["one","other"] dz dA) {fS:Addr} {fT:FuncData} (dJ:Def K mg "row_led_to" Cm ["forms","words","place","step"] fS fT) {jV:Addr} {jW:FuncData} (eJ:qH K mg "chart_of" Cn ["floor","most"] [V.int 60] jV jW) {fV:Addr} {fW:FuncData} (fX:Def K mg "_law_times" Cq ["_law_one","_law_other"] fV fW) {fY:Addr} {fZ:FuncData} (f9:Def K mg "_law_table" Cr ["_law_word"] fY fZ) {ip:Addr} {iq:FuncData} (iu:Def K mg "_law_back" Cs ["_law_word"] ip iq) {eE:Addr} {eG:FuncData} (eI:Def K mg "_law_makers" Cu ["_law_chart_here"] eE eG) {dC:Addr} {dD:FuncData} (dE:Def K mg "maker_places" Cw ["chart"] dC dD) {kh:Addr} {ki:FuncData} (kj:Def K mg "times" yZ ["one","other"] kh ki) {gb:Addr} {gf:FuncData} (gg:Def K mg "step_table" Cz ["step"] gb gf) {jP:Addr} {jQ:FuncData} (jR:Def K mg "table_of" CB ["word"] jP jQ) {iw:Addr} {iy:FuncData} (iz:Def K mg "back_step" CD ["step"] iw iy) {iA:Addr} {iB:FuncData} (iC:Def K mg "back_word" CG ["word"] iA iB) {iH:Addr} {iI:FuncData} (iJ:Def K mg "makers_of" CI ["chart"] iH iI) {CY:Addr} {CZ:FuncData} (HU:Def K mg "law" EX ["_law_script"] CY CZ):aE P w K mg base bE 9 CY CZ ["_law_script"] (bI K 1 Hw):=by
 have kn:=QV (P:=P) (w:=w) (base:=base) iF T
 have aX:=QW (P:=P) (w:=w) (base:=base) aR T
 have dj:=QX (P:=P) (w:=w) (base:=base) cD T  aR aX
 have jL:=QY (P:=P) (w:=w) (base:=base) gT T
 have fL:=QZ (P:=P) (w:=w) (base:=base) dH T  aR aX cD dj gT jL
 have eX:=Q0 (P:=P) (w:=w) (base:=base) cU T
 have hV:=Q6 (P:=P) (w:=w) (base:=base) eY T  cU eX
 have g9:=Q7 (P:=P) (w:=w) (base:=base) d9 T
 have gp:=Q8 (P:=P) (w:=w) (base:=base) dr T  d9 g9
 have jk:=Q9 (P:=P) (w:=w) (base:=base) fI T
 have fO:=Ra (P:=P) (w:=w) (base:=base) dI T  eY hV dr gp fI jk
 have lz:=Rb (P:=P) (w:=w) (base:=base) jU T  dH fL dI fO aR aX
 have bH:=Rc (P:=P) (w:=w) (base:=base) bA T
 have cx:=Rg (P:=P) (w:=w) (base:=base) cf T
 have hW:=Rh (P:=P) (w:=w) (base:=base) eu T  bA bH cf cx
 have gq:=Ri (P:=P) (w:=w) (base:=base) dw T
 have dP:=Rm (P:=P) (w:=w) (base:=base) cH T  bA bH dw gq
 have eZ:=Ro (P:=P) (w:=w) (base:=base) cX T  eu hW cH dP
 have gU:=Rr (P:=P) (w:=w) (base:=base) fg T  cX eZ
 have ke:=Rt (P:=P) (w:=w) (base:=base) h9 T
 have lr:=Rv (P:=P) (w:=w) (base:=base) jO T  h9 ke
 have o8:=Rw (P:=P) (w:=w) (base:=base) nU T  jO lr
 have mG:=Ry (P:=P) (w:=w) (base:=base) kO T  cf cx nU o8
 have kf:=RA (P:=P) (w:=w) (base:=base) ik T  bA bH
 have il:=RB (P:=P) (w:=w) (base:=base) eC T  kO mG ik kf
 have nW:=RC (P:=P) (w:=w) (base:=base) mf T  eC il
 have nV:=RD (P:=P) (w:=w) (base:=base) l9 T
 have jl:=RE (P:=P) (w:=w) (base:=base) fR T  l9 nV
 have gs:=RG (P:=P) (w:=w) (base:=base) dB T  fR jl
 have fU:=RH (P:=P) (w:=w) (base:=base) dJ T  fg gU mf nW dB gs
 have lA:=RI (P:=P) (w:=w) (base:=base) eJ T a9 jm fg gU dJ fU
 have jn:=RJ (P:=P) (w:=w) (base:=base) fX T
 have jq:=RK (P:=P) (w:=w) (base:=base) f9 T  fX jn
 have kg:=RL (P:=P) (w:=w) (base:=base) iu T
 have iG:=RM (P:=P) (w:=w) (base:=base) eI T  f9 jq iu kg
 have gu:=RN (P:=P) (w:=w) (base:=base) dE T a9 jm
 have lu:=RP (P:=P) (w:=w) (base:=base) kj T
 have jt:=RQ (P:=P) (w:=w) (base:=base) gg T cY dM kj lu
 have lx:=RS (P:=P) (w:=w) (base:=base) jR T dM kj lu gg jt
 have kl:=RU (P:=P) (w:=w) (base:=base) iz T
 have km:=RW (P:=P) (w:=w) (base:=base) iC T  iz kl
 have ko:=RX (P:=P) (w:=w) (base:=base) iJ T  dE gu jR lx iC km
 have HV:=xX (P:=P) (w:=w) (base:=base) HU T  iF kn jU lz eJ lA aR aX eI iG iJ ko
 exact HV
end My
open PySem PySem.W PyProof.Rows L2
namespace PySem.W.Fast
theorem tw14220434196900177591:True:=⟨⟩
theorem tw3776180472884669595:True:=⟨⟩
theorem tw483535675686487612:True:=⟨⟩
theorem tw6254320529421703606:True:=⟨⟩
theorem tw3815925143600067835:True:=⟨⟩
theorem tw3038090499569509569:True:=⟨⟩
theorem tw282623595183498886:True:=⟨⟩
theorem tw1691198767362886621:True:=⟨⟩
theorem tw127868824039946681:True:=⟨⟩
theorem tw12239140310876606638:True:=⟨⟩
theorem tw18298450416000986543:True:=⟨⟩
theorem tw3450562829894972370:True:=⟨⟩
theorem tw5069461129567219293:True:=⟨⟩
theorem tw12599126125774740134:True:=⟨⟩
theorem tw13301658635658356965:True:=⟨⟩
theorem tw17975362141154425566:True:=⟨⟩
theorem tw17965090353399683551:True:=⟨⟩
theorem tw14165690799711695576:True:=⟨⟩
theorem tw10825872360734957802:True:=⟨⟩
theorem tw13033186584311446071:True:=⟨⟩
theorem tw12410168885973691348:True:=⟨⟩
theorem tw10201820533319662035:True:=⟨⟩
theorem tw5392483055822732702:True:=⟨⟩
theorem tw15412465354248039346:True:=⟨⟩
theorem tw17114712671115491194:True:=⟨⟩
theorem tw13881724605630852090:True:=⟨⟩
theorem tw13489388275151528604:True:=⟨⟩
theorem tw13648515334368761838:True:=⟨⟩
theorem tw2131214248014144442:True:=⟨⟩
theorem tw7854413036173372462:True:=⟨⟩
theorem tw4625954595582258688:True:=⟨⟩
theorem tw10291071809440580270:True:=⟨⟩
theorem tw10818334933651255542:True:=⟨⟩
theorem tw10450063377825723075:True:=⟨⟩
theorem tw14001330422022695304:True:=⟨⟩
theorem tw2859335617245514949:True:=⟨⟩
theorem tw4082776683001393135:True:=⟨⟩
theorem tw13486252483972416736:True:=⟨⟩
theorem tw11683372046666916888:True:=⟨⟩
theorem tw15942133928173554327:True:=⟨⟩
theorem tw5295011651984847507:True:=⟨⟩
theorem tw13031346348431488817:True:=⟨⟩
theorem tw10209087643647684993:True:=⟨⟩
theorem tw12552842732847525673:True:=⟨⟩
theorem tw17315609752527777277:True:=⟨⟩
theorem tw11219428250620964062:True:=⟨⟩
theorem tw12997862464801485800:True:=⟨⟩
theorem tw10098702851701781867:True:=⟨⟩
theorem tw8685391920685415459:True:=⟨⟩
theorem tw7202578260535983352:True:=⟨⟩
theorem tw13616116759728075583:True:=⟨⟩
theorem tw794303382396340360:True:=⟨⟩
theorem tw14192104803227276339:True:=⟨⟩
theorem tw2735387507429086899:True:=⟨⟩
theorem tw1559206687216533982:True:=⟨⟩
theorem tw9010719621543494847:True:=⟨⟩
theorem tw9300958400147013091:True:=⟨⟩
theorem tw12408683212038593270:True:=⟨⟩
theorem tw17564912711945583808:True:=⟨⟩
theorem tw8370060075798539011:True:=⟨⟩
theorem tw18405618139686052687:True:=⟨⟩
theorem tw11049207438294500421:True:=⟨⟩
theorem tw2183456438232644775:True:=⟨⟩
theorem tw1001933215447398244:True:=⟨⟩
theorem tw3382377342214699751:True:=⟨⟩
theorem tw18236641520352981643:True:=⟨⟩
theorem tw10403121551061294151:True:=⟨⟩
theorem tw2380321459184310066:True:=⟨⟩
theorem tw4861787822558502622:True:=⟨⟩
theorem tw12124848903446026870:True:=⟨⟩
theorem tw1417872738325122141:True:=⟨⟩
theorem tw13854459381687899031:True:=⟨⟩
theorem tw509127578928228090:True:=⟨⟩
theorem tw1664703720639614836:True:=⟨⟩
theorem tw12554749365689669695:True:=⟨⟩
theorem tw8555279538729247217:True:=⟨⟩
theorem tw16866021807586720264:True:=⟨⟩
theorem tw13984673538328461176:True:=⟨⟩
theorem tw7715822506182718623:True:=⟨⟩
theorem tw9913726290146041579:True:=⟨⟩
theorem tw7027200287017106688:True:=⟨⟩
end PySem.W.Fast
set_option maxRecDepth 100000 in
set_option maxHeartbeats 0 in
theorem PySem.Challenge.cw_shearfloor_k39_makers_told_holds : PySem.Challenge.rw_shearfloor_k39_makers_told.Holds := by
 w_on;o_law;k_head;(case hw=>w_witness2)
 k_fill
 refine L2.M9 (l:=PySem.Challenge.rw_shearfloor_k39_makers_told) (n:=63) (k:=9) (x:="_law_script") (CX:=bE) (sp:=L4.uH) rfl (by decide) rfl ⟨rfl,by decide,by decide,rfl⟩ (fun w h Y=>PySem.W.kIn_of Y) ?F ?S ?C
 case F =>
  intro w mg fa h KX G hmg
  have T:My.Txt mg:=by
   refine' ⟨rH KX G ?z0,rH KX G ?z1,rH KX G ?z2,rH KX G ?z3,rH KX G ?z4,rH KX G ?z5,rH KX G ?z6,rH KX G ?z7,rH KX G ?z8,rH KX G ?z9⟩
   (case z0=>k_is);(case z1=>k_is);(case z2=>k_is);(case z3=>k_is);(case z4=>k_is);(case z5=>k_is);(case z6=>k_is);(case z7=>k_is);(case z8=>k_is);(case z9=>k_is)
  have de:∃ v,L4.nB (L2.KOf KX) mg "QUARTER_charts" v (.tup [(.str "t"),(.int 1)]):=by
   dsimp only [L2.KOf];refine' L4.DT (vs:=[V.str "t",V.int 1]) KX G ?a ?l ?o ?z ?v ?d
   (case a=>k_is);(case l=>k_is);(case o=>rfl);(case z=>decide);(case v=>exact (.cons ⟨_,rfl⟩ (.cons ⟨_,rfl⟩ .nil)));(case d=>exact fun ρ H=>(.cons (.str _) (.cons (.int _) .nil)))
  obtain ⟨_,de⟩:=de
  have dR:∃ v,L4.nB (L2.KOf KX) mg "QUARTER_words" v (.tup [(.int 0),(.int (-1)),(.int 1),(.int 0)]):=by
   dsimp only [L2.KOf];refine' L4.DT (vs:=[V.int 0,V.int (-1),V.int 1,V.int 0]) KX G ?a ?l ?o ?z ?v ?d
   (case a=>k_is);(case l=>k_is);(case o=>rfl);(case z=>decide);(case v=>exact (.cons ⟨_,rfl⟩ (.cons ⟨_,rfl⟩ (.cons ⟨_,rfl⟩ (.cons ⟨_,rfl⟩ .nil)))));(case d=>exact fun ρ H=>(.cons (.int _) (.cons (.int _) (.cons (.int _) (.cons (.int _) .nil)))))
  obtain ⟨_,dR⟩:=dR
  have nY:∃ v,L4.nB (L2.KOf KX) mg "SHEAR" v (.tup [(.str "s"),(.int 1)]):=by
   dsimp only [L2.KOf];refine' L4.DT (vs:=[V.str "s",V.int 1]) KX G ?a ?l ?o ?z ?v ?d
   (case a=>k_is);(case l=>k_is);(case o=>rfl);(case z=>decide);(case v=>exact (.cons ⟨_,rfl⟩ (.cons ⟨_,rfl⟩ .nil)));(case d=>exact fun ρ H=>(.cons (.str _) (.cons (.int _) .nil)))
  obtain ⟨_,nY⟩:=nY
  have lB:∃ v,L4.nB (L2.KOf KX) mg "UNMOVED" v (.tup [(.int 1),(.int 0),(.int 0),(.int 1)]):=by
   dsimp only [L2.KOf];refine' L4.DT (vs:=[V.int 1,V.int 0,V.int 0,V.int 1]) KX G ?a ?l ?o ?z ?v ?d
   (case a=>k_is);(case l=>k_is);(case o=>rfl);(case z=>decide);(case v=>exact (.cons ⟨_,rfl⟩ (.cons ⟨_,rfl⟩ (.cons ⟨_,rfl⟩ (.cons ⟨_,rfl⟩ .nil)))));(case d=>exact fun ρ H=>(.cons (.int _) (.cons (.int _) (.cons (.int _) (.cons (.int _) .nil)))))
  obtain ⟨_,lB⟩:=lB
  have jv:∃ f fd,Def (L2.KOf KX) mg "_law_feed" My.Bx ["_law_script","_law_k"] f fd:=by
   dsimp only [L2.KOf];refine' gE KX G (fun _ _ _ _ _ _ us hl=>match us,hl with | [_,_],_=>rfl) ?a ?l ?c ?k
   (case a=>k_is);(case l=>k_is);(case c=>k_is);(case k=>k_is)
  obtain ⟨_,_,jv⟩:=jv
  have jw:∃ f fd,Def (L2.KOf KX) mg "_law_take" My.uN ["_law_feed_here","_law_many"] f fd:=by
   dsimp only [L2.KOf];refine' gE KX G (fun _ _ _ _ _ _ us hl=>match us,hl with | [_,_],_=>rfl) ?a ?l ?c ?k
   (case a=>k_is);(case l=>k_is);(case c=>k_is);(case k=>k_is)
  obtain ⟨_,_,jw⟩:=jw
  have fq:∃ f fd,Def (L2.KOf KX) mg "_law_turning" My.By ["_law_feed_here","_law_n"] f fd:=by
   dsimp only [L2.KOf];refine' gE KX G (fun _ _ _ _ _ _ us hl=>match us,hl with | [_,_],_=>rfl) ?a ?l ?c ?k
   (case a=>k_is);(case l=>k_is);(case c=>k_is);(case k=>k_is)
  obtain ⟨_,_,fq⟩:=fq
  have kq:∃ f fd,Def (L2.KOf KX) mg "_law_met" My.Bz ["_law_floor_here"] f fd:=by
   dsimp only [L2.KOf];refine' gE KX G (fun _ _ _ _ _ _ us hl=>match us,hl with | [_],_=>rfl) ?a ?l ?c ?k
   (case a=>k_is);(case l=>k_is);(case c=>k_is);(case k=>k_is)
  obtain ⟨_,_,kq⟩:=kq
  have iK:∃ f fd,Def (L2.KOf KX) mg "_law_floor" My.BB ["_law_feed_here","_law_n"] f fd:=by
   dsimp only [L2.KOf];refine' gE KX G (fun _ _ _ _ _ _ us hl=>match us,hl with | [_,_],_=>rfl) ?a ?l ?c ?k
   (case a=>k_is);(case l=>k_is);(case c=>k_is);(case k=>k_is)
  obtain ⟨_,_,iK⟩:=iK
  have dS:∃ f fd,Def (L2.KOf KX) mg "_law_numbered" My.BE ["_law_floor_here","_law_s"] f fd:=by
   dsimp only [L2.KOf];refine' gE KX G (fun _ _ _ _ _ _ us hl=>match us,hl with | [_,_],_=>rfl) ?a ?l ?c ?k
   (case a=>k_is);(case l=>k_is);(case c=>k_is);(case k=>k_is)
  obtain ⟨_,_,dS⟩:=dS
  have jx:∃ f fd,Def (L2.KOf KX) mg "_law_form" My.BF ["_law_floor_here"] f fd:=by
   dsimp only [L2.KOf];refine' gE KX G (fun _ _ _ _ _ _ us hl=>match us,hl with | [_],_=>rfl) ?a ?l ?c ?k
   (case a=>k_is);(case l=>k_is);(case c=>k_is);(case k=>k_is)
  obtain ⟨_,_,jx⟩:=jx
  have gx:∃ f fd,Def (L2.KOf KX) mg "_law_behind" My.BH ["_law_turning_here","_law_s","_law_k"] f fd:=by
   dsimp only [L2.KOf];refine' gE KX G (fun _ _ _ _ _ _ us hl=>match us,hl with | [_,_,_],_=>rfl) ?a ?l ?c ?k
   (case a=>k_is);(case l=>k_is);(case c=>k_is);(case k=>k_is)
  obtain ⟨_,_,gx⟩:=gx
  have ft:∃ f fd,Def (L2.KOf KX) mg "_law_stepped" My.BI ["_law_floor_here","_law_step"] f fd:=by
   dsimp only [L2.KOf];refine' gE KX G (fun _ _ _ _ _ _ us hl=>match us,hl with | [_,_],_=>rfl) ?a ?l ?c ?k
   (case a=>k_is);(case l=>k_is);(case c=>k_is);(case k=>k_is)
  obtain ⟨_,_,ft⟩:=ft
  have iL:∃ f fd,Def (L2.KOf KX) mg "_law_plain" My.BJ ["_law_word"] f fd:=by
   dsimp only [L2.KOf];refine' gE KX G (fun _ _ _ _ _ _ us hl=>match us,hl with | [_],_=>rfl) ?a ?l ?c ?k
   (case a=>k_is);(case l=>k_is);(case c=>k_is);(case k=>k_is)
  obtain ⟨_,_,iL⟩:=iL
  have iM:∃ f fd,Def (L2.KOf KX) mg "_law_chart" My.BK ["_law_floor_here","_law_most"] f fd:=by
   dsimp only [L2.KOf];refine' gE KX G (fun _ _ _ _ _ _ us hl=>match us,hl with | [_,_],_=>rfl) ?a ?l ?c ?k
   (case a=>k_is);(case l=>k_is);(case c=>k_is);(case k=>k_is)
  obtain ⟨_,_,iM⟩:=iM
  have kr:∃ f fd,Def (L2.KOf KX) mg "_law_own" My.BM ["_law_feed_here","_law_most"] f fd:=by
   dsimp only [L2.KOf];refine' gE KX G (fun _ _ _ _ _ _ us hl=>match us,hl with | [_,_],_=>rfl) ?a ?l ?c ?k
   (case a=>k_is);(case l=>k_is);(case c=>k_is);(case k=>k_is)
  obtain ⟨_,_,kr⟩:=kr
  have gy:∃ f fd,Def (L2.KOf KX) mg "turned_back" My.xU ["turning"] f fd:=by
   dsimp only [L2.KOf];refine' gE KX G (fun _ _ _ _ _ _ us hl=>match us,hl with | [_],_=>rfl) ?a ?l ?c ?k
   (case a=>k_is);(case l=>k_is);(case c=>k_is);(case k=>k_is)
  obtain ⟨_,_,gy⟩:=gy
  have ku:∃ f fd,Def (L2.KOf KX) mg "followed" My.yQ ["one","other"] f fd:=by
   dsimp only [L2.KOf];refine' gE KX G (fun _ _ _ _ _ _ us hl=>match us,hl with | [_,_],_=>rfl) ?a ?l ?c ?k
   (case a=>k_is);(case l=>k_is);(case c=>k_is);(case k=>k_is)
  obtain ⟨_,_,ku⟩:=ku
  have gA:∃ f fd,Def (L2.KOf KX) mg "called_anew" My.BP ["floor","p"] f fd:=by
   dsimp only [L2.KOf];refine' gE KX G (fun _ _ _ _ _ _ us hl=>match us,hl with | [_,_],_=>rfl) ?a ?l ?c ?k
   (case a=>k_is);(case l=>k_is);(case c=>k_is);(case k=>k_is)
  obtain ⟨_,_,gA⟩:=gA
  have fu:∃ f fd,Def (L2.KOf KX) mg "squares_from" My.BR ["floor","s"] f fd:=by
   dsimp only [L2.KOf];refine' gE KX G (fun _ _ _ _ _ _ us hl=>match us,hl with | [_,_],_=>rfl) ?a ?l ?c ?k
   (case a=>k_is);(case l=>k_is);(case c=>k_is);(case k=>k_is)
  obtain ⟨_,_,fu⟩:=fu
  have df:∃ f fd,Def (L2.KOf KX) mg "numbering_from" My.BU ["floor","s"] f fd:=by
   dsimp only [L2.KOf];refine' gE KX G (fun _ _ _ _ _ _ us hl=>match us,hl with | [_,_],_=>rfl) ?a ?l ?c ?k
   (case a=>k_is);(case l=>k_is);(case c=>k_is);(case k=>k_is)
  obtain ⟨_,_,df⟩:=df
  have dU:∃ f fd,Def (L2.KOf KX) mg "numbered_from" My.BW ["floor","s"] f fd:=by
   dsimp only [L2.KOf];refine' gE KX G (fun _ _ _ _ _ _ us hl=>match us,hl with | [_,_],_=>rfl) ?a ?l ?c ?k
   (case a=>k_is);(case l=>k_is);(case c=>k_is);(case k=>k_is)
  obtain ⟨_,_,dU⟩:=dU
  have lC:∃ f fd,Def (L2.KOf KX) mg "form_of" My.yS ["floor"] f fd:=by
   dsimp only [L2.KOf];refine' gE KX G (fun _ _ _ _ _ _ us hl=>match us,hl with | [_],_=>rfl) ?a ?l ?c ?k
   (case a=>k_is);(case l=>k_is);(case c=>k_is);(case k=>k_is)
  obtain ⟨_,_,lC⟩:=lC
  have jy:∃ f fd,Def (L2.KOf KX) mg "ring_from" My.BZ ["turning","first"] f fd:=by
   dsimp only [L2.KOf];refine' gE KX G (fun _ _ _ _ _ _ us hl=>match us,hl with | [_,_],_=>rfl) ?a ?l ?c ?k
   (case a=>k_is);(case l=>k_is);(case c=>k_is);(case k=>k_is)
  obtain ⟨_,_,jy⟩:=jy
  have ky:∃ f fd,Def (L2.KOf KX) mg "rings_of" My.B1 ["turning"] f fd:=by
   dsimp only [L2.KOf];refine' gE KX G (fun _ _ _ _ _ _ us hl=>match us,hl with | [_],_=>rfl) ?a ?l ?c ?k
   (case a=>k_is);(case l=>k_is);(case c=>k_is);(case k=>k_is)
  obtain ⟨_,_,ky⟩:=ky
  have nZ:∃ f fd,Def (L2.KOf KX) mg "often" My.B3 ["turning","k"] f fd:=by
   dsimp only [L2.KOf];refine' gE KX G (fun _ _ _ _ _ _ us hl=>match us,hl with | [_,_],_=>rfl) ?a ?l ?c ?k
   (case a=>k_is);(case l=>k_is);(case c=>k_is);(case k=>k_is)
  obtain ⟨_,_,nZ⟩:=nZ
  have lD:∃ f fd,Def (L2.KOf KX) mg "sheared" My.B6 ["floor","k"] f fd:=by
   dsimp only [L2.KOf];refine' gE KX G (fun _ _ _ _ _ _ us hl=>match us,hl with | [_,_],_=>rfl) ?a ?l ?c ?k
   (case a=>k_is);(case l=>k_is);(case c=>k_is);(case k=>k_is)
  obtain ⟨_,_,lD⟩:=lD
  have jz:∃ f fd,Def (L2.KOf KX) mg "quartered" My.B8 ["floor"] f fd:=by
   dsimp only [L2.KOf];refine' gE KX G (fun _ _ _ _ _ _ us hl=>match us,hl with | [_],_=>rfl) ?a ?l ?c ?k
   (case a=>k_is);(case l=>k_is);(case c=>k_is);(case k=>k_is)
  obtain ⟨_,_,jz⟩:=jz
  have gB:∃ f fd,Def (L2.KOf KX) mg "led_by_step" My.Ca ["floor","step"] f fd:=by
   dsimp only [L2.KOf];refine' gE KX G (fun _ _ _ _ _ _ us hl=>match us,hl with | [_,_],_=>rfl) ?a ?l ?c ?k
   (case a=>k_is);(case l=>k_is);(case c=>k_is);(case k=>k_is)
  obtain ⟨_,_,gB⟩:=gB
  have mJ:∃ f fd,Def (L2.KOf KX) mg "led_by" My.Cc ["floor","word"] f fd:=by
   dsimp only [L2.KOf];refine' gE KX G (fun _ _ _ _ _ _ us hl=>match us,hl with | [_,_],_=>rfl) ?a ?l ?c ?k
   (case a=>k_is);(case l=>k_is);(case c=>k_is);(case k=>k_is)
  obtain ⟨_,_,mJ⟩:=mJ
  have mK:∃ f fd,Def (L2.KOf KX) mg "joined" My.Ce ["one","other"] f fd:=by
   dsimp only [L2.KOf];refine' gE KX G (fun _ _ _ _ _ _ us hl=>match us,hl with | [_,_],_=>rfl) ?a ?l ?c ?k
   (case a=>k_is);(case l=>k_is);(case c=>k_is);(case k=>k_is)
  obtain ⟨_,_,mK⟩:=mK
  have iN:∃ f fd,Def (L2.KOf KX) mg "made_plain" My.Cg ["word"] f fd:=by
   dsimp only [L2.KOf];refine' gE KX G (fun _ _ _ _ _ _ us hl=>match us,hl with | [_],_=>rfl) ?a ?l ?c ?k
   (case a=>k_is);(case l=>k_is);(case c=>k_is);(case k=>k_is)
  obtain ⟨_,_,iN⟩:=iN
  have fw:∃ f fd,Def (L2.KOf KX) mg "put_together" My.Ck ["one","other"] f fd:=by
   dsimp only [L2.KOf];refine' gE KX G (fun _ _ _ _ _ _ us hl=>match us,hl with | [_,_],_=>rfl) ?a ?l ?c ?k
   (case a=>k_is);(case l=>k_is);(case c=>k_is);(case k=>k_is)
  obtain ⟨_,_,fw⟩:=fw
  have iO:∃ f fd,Def (L2.KOf KX) mg "row_led_to" My.Cm ["forms","words","place","step"] f fd:=by
   dsimp only [L2.KOf];refine' gE KX G (fun _ _ _ _ _ _ us hl=>match us,hl with | [_,_,_,_],_=>rfl) ?a ?l ?c ?k
   (case a=>k_is);(case l=>k_is);(case c=>k_is);(case k=>k_is)
  obtain ⟨_,_,iO⟩:=iO
  have kz:∃ f fd,qH (L2.KOf KX) mg "chart_of" My.Cn ["floor","most"] [V.int 60] f fd:=by
   dsimp only [L2.KOf];refine' N3 (d:=1) KX G (by decide) (fun _ _ _ _ _ _ _ us ds hl hd=>match us,ds,hl,hd with | [_],[_],_,_=>⟨_,rfl,rfl⟩) (fun _ _ _ _ _ _ _ us ds hl hd=>match us,ds,hl,hd with | [_,_],[_],_,_=>⟨_,rfl,rfl⟩) ?a ?l ?lT ?e ?v ?c ?k
   (case a=>k_is);(case l=>k_is);(case lT=>k_is);(case e=>rfl);(case v=>exact .cons ⟨_,rfl⟩ (.nil));(case c=>k_is);(case k=>k_is)
  obtain ⟨_,_,kz⟩:=kz
  have iP:∃ f fd,Def (L2.KOf KX) mg "_law_times" My.Cq ["_law_one","_law_other"] f fd:=by
   dsimp only [L2.KOf];refine' gE KX G (fun _ _ _ _ _ _ us hl=>match us,hl with | [_,_],_=>rfl) ?a ?l ?c ?k
   (case a=>k_is);(case l=>k_is);(case c=>k_is);(case k=>k_is)
  obtain ⟨_,_,iP⟩:=iP
  have iQ:∃ f fd,Def (L2.KOf KX) mg "_law_table" My.Cr ["_law_word"] f fd:=by
   dsimp only [L2.KOf];refine' gE KX G (fun _ _ _ _ _ _ us hl=>match us,hl with | [_],_=>rfl) ?a ?l ?c ?k
   (case a=>k_is);(case l=>k_is);(case c=>k_is);(case k=>k_is)
  obtain ⟨_,_,iQ⟩:=iQ
  have jA:∃ f fd,Def (L2.KOf KX) mg "_law_back" My.Cs ["_law_word"] f fd:=by
   dsimp only [L2.KOf];refine' gE KX G (fun _ _ _ _ _ _ us hl=>match us,hl with | [_],_=>rfl) ?a ?l ?c ?k
   (case a=>k_is);(case l=>k_is);(case c=>k_is);(case k=>k_is)
  obtain ⟨_,_,jA⟩:=jA
  have gC:∃ f fd,Def (L2.KOf KX) mg "_law_makers" My.Cu ["_law_chart_here"] f fd:=by
   dsimp only [L2.KOf];refine' gE KX G (fun _ _ _ _ _ _ us hl=>match us,hl with | [_],_=>rfl) ?a ?l ?c ?k
   (case a=>k_is);(case l=>k_is);(case c=>k_is);(case k=>k_is)
  obtain ⟨_,_,gC⟩:=gC
  have fz:∃ f fd,Def (L2.KOf KX) mg "maker_places" My.Cw ["chart"] f fd:=by
   dsimp only [L2.KOf];refine' gE KX G (fun _ _ _ _ _ _ us hl=>match us,hl with | [_],_=>rfl) ?a ?l ?c ?k
   (case a=>k_is);(case l=>k_is);(case c=>k_is);(case k=>k_is)
  obtain ⟨_,_,fz⟩:=fz
  have n4:∃ f fd,Def (L2.KOf KX) mg "times" My.yZ ["one","other"] f fd:=by
   dsimp only [L2.KOf];refine' gE KX G (fun _ _ _ _ _ _ us hl=>match us,hl with | [_,_],_=>rfl) ?a ?l ?c ?k
   (case a=>k_is);(case l=>k_is);(case c=>k_is);(case k=>k_is)
  obtain ⟨_,_,n4⟩:=n4
  have iR:∃ f fd,Def (L2.KOf KX) mg "step_table" My.Cz ["step"] f fd:=by
   dsimp only [L2.KOf];refine' gE KX G (fun _ _ _ _ _ _ us hl=>match us,hl with | [_],_=>rfl) ?a ?l ?c ?k
   (case a=>k_is);(case l=>k_is);(case c=>k_is);(case k=>k_is)
  obtain ⟨_,_,iR⟩:=iR
  have kA:∃ f fd,Def (L2.KOf KX) mg "table_of" My.CB ["word"] f fd:=by
   dsimp only [L2.KOf];refine' gE KX G (fun _ _ _ _ _ _ us hl=>match us,hl with | [_],_=>rfl) ?a ?l ?c ?k
   (case a=>k_is);(case l=>k_is);(case c=>k_is);(case k=>k_is)
  obtain ⟨_,_,kA⟩:=kA
  have jB:∃ f fd,Def (L2.KOf KX) mg "back_step" My.CD ["step"] f fd:=by
   dsimp only [L2.KOf];refine' gE KX G (fun _ _ _ _ _ _ us hl=>match us,hl with | [_],_=>rfl) ?a ?l ?c ?k
   (case a=>k_is);(case l=>k_is);(case c=>k_is);(case k=>k_is)
  obtain ⟨_,_,jB⟩:=jB
  have jC:∃ f fd,Def (L2.KOf KX) mg "back_word" My.CG ["word"] f fd:=by
   dsimp only [L2.KOf];refine' gE KX G (fun _ _ _ _ _ _ us hl=>match us,hl with | [_],_=>rfl) ?a ?l ?c ?k
   (case a=>k_is);(case l=>k_is);(case c=>k_is);(case k=>k_is)
  obtain ⟨_,_,jC⟩:=jC
  have jD:∃ f fd,Def (L2.KOf KX) mg "makers_of" My.CI ["chart"] f fd:=by
   dsimp only [L2.KOf];refine' gE KX G (fun _ _ _ _ _ _ us hl=>match us,hl with | [_],_=>rfl) ?a ?l ?c ?k
   (case a=>k_is);(case l=>k_is);(case c=>k_is);(case k=>k_is)
  obtain ⟨_,_,jD⟩:=jD
  have oM:∃ f fd,Def (L2.KOf KX) mg "law" My.EX ["_law_script"] f fd:=by
   dsimp only [L2.KOf];refine' gE KX G (fun _ _ _ _ _ _ us hl=>match us,hl with | [_],_=>rfl) ?a ?l ?c ?k
   (case a=>k_is);(case l=>k_is);(case c=>k_is);(case k=>k_is)
  obtain ⟨_,_,oM⟩:=oM
  have e0:=hmg.symm.trans oM.m
  cases e0
  exact ⟨_,oM.su,fun base _ _=>L4.wG (My.yc T de dR nY lB jv jw fq kq iK dS jx gx ft iL iM kr gy ku gA fu df dU lC jy ky nZ lD jz gB mJ mK iN fw iO kz iP iQ jA gC fz n4 iR kA jB jC jD oM) fun ns hn=>let ⟨_,st,e,h⟩:=My.rC ns hn;⟨st,h ▸ e⟩⟩
 case S=>exact fun K H a ns hl hO hS=>⟨a,ns,rfl,hS.script hO,hl,fun _=>rfl⟩
 case C=>exact fun _ _ _ _ z=>z
