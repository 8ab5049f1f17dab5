import PyProof.Rows.All
import Wide.All
import OpenK.AllK
import Wide.FinOn
import Lean
import PyProof.EqAt
import PyProof.EqKinds
import PyProof.TupleCall
import PyProof.DictIter
import PyProof.EnumMake
import KE.KSortTup
import KE.KDictLaws
import KE.KDictSum
import PyProof.StrLawsTight
import KE.KIntText
import PyProof.MinMaxWalk
import PyProof.WalkInts
import KE.KIsAll
import PyProof.ExcInit
import PyProof.NsDelKeeps
import PyProof.ExcBaseAll.ValueError
import OpenK.KOwn
import PyProof.ExcAttrAll.ValueError
import PyProof.InstStoreFacts
import PyProof.NoPylong
import PySem.Challenge.RW_shearfloor_k27_charts_told
set_option Elab.async false
set_option linter.all false
set_option maxRecDepth 100000
set_option maxHeartbeats 4000000
set_option genSizeOf false
noncomputable section
def Vz:=@List.length_map
def VA:=@List.getElem?_eq_some_iff
def VB:=@List.getElem?_eq_getElem
def VC:=@Nat.le_refl
def VD:=@Bool.false_ne_true
def VE:=@List.length_append
def VF:=@List.getElem?_set_ne
def VG:=@List.getElem?_set_self
def VH:=@PySem.Heap.get?_push_of_some
def VI:=@List.mem_of_getElem?
def VJ:=@Option.some.inj
def VL:=@List.mem_cons_of_mem
def VM:=@List.getElem?_append_left
def VN:=@List.mem_cons_self
def VO:=@List.mem_map
def VP:=@List.getElem?_map
def VQ:=@List.size_toArray
def VR:=@Int.toNat_natCast
def VS:=@Bool.and_eq_true
def VT:=@PySem.Heap.lt_size
def VU:=@List.getD_eq_getElem?_getD
def VW:=@List.map_append
def VX:=@List.getElem?_append_right
def VY:=@List.mem_singleton
def VZ:=@List.mem_cons
def V0:=@List.map_cons
def V1:=@PySem.Heap.get?_push_size
def V2:=@Int.toNat_of_nonneg
def V3:=@Nat.le_trans
def V4:=@PySem.Heap.get?_update_other
def V5:=@Nat.lt_of_lt_of_le
def V6:=@List.length_cons
def V7:=@Option.map_eq_some_iff
def V8:=@List.map_map
def V9:=@List.mem_append
def Wa:=@List.mem_append_right
def Wb:=@Nat.ne_of_lt
def Wc:=@List.length_set
def Wd:=@Nat.zero_le
def Wf:=@List.take_succ_eq_append_getElem
def Wg:=@List.map_congr_left
def Wi:=@List.getD_cons_succ
def Wj:=@List.getD_cons_zero
def Wk:=@PySem.Heap.get?_update_self
def Wl:=@List.append_nil
def Wm:=@List.map_nil
def Wn:=@Nat.not_lt_zero
def Wo:=@List.getElem?_eq_none_iff
def Wq:=@List.replicate_succ
def Wr:=@Bool.false_eq_true
def Wt:=@Option.bind_eq_some_iff
def Wu:=@Nat.lt_succ_self
def Wv:=@Option.bind_some
def Ww:=@Nat.lt_of_le_of_lt
def Wx:=@List.lookup_cons
def Wy:=@List.any_cons
def Wz:=@List.foldl_append
def WA:=@List.find?_cons
def WB:=@Int.emod_nonneg
def WC:=@Array.getElem?_eq_some_iff
def WD:=@List.length_take
def WE:=@List.not_mem_nil
def WG:=@Int.emod_lt_of_pos
def WH:=@List.contains_iff_mem
def WI:=@List.mem_append_left
def WJ:=@Nat.sub_self
def WK:=@List.getElem_of_mem
def WL:=@List.mem_range
def WM:=@PySem.Heap.size_push
def WN:=@List.nodup_cons
def WO:=@List.length_singleton
def WQ:=@List.flatten_cons
def WR:=@List.drop_eq_getElem_cons
def WS:=@List.pairwise_iff_getElem
def WT:=@List.findIdx?_eq_some_iff_getElem
def WU:=@Option.isSome_iff_exists
def WV:=@Int.zero_add
def WW:=@List.mem_reverse
def WX:=@List.take_length
def WY:=@List.all_eq_true
def WZ:=@List.getElem?_replicate
def W0:=@Bool.eq_iff_iff
def W2:=@Array.append_empty
def W3:=@List.append_assoc
def W4:=@List.reverse_cons
def W5:=@List.length_replicate
def W6:=@Array.getElem?_toList
def W7:=@List.getElem?_eq_none
def W8:=@List.Perm.refl
def Xa:=@List.getElem?_of_mem
def Xb:=@List.prefix_refl
def Xc:=@Nat.lt_irrefl
def Xe:=@List.map_id
def Xi:=@List.length_nil
abbrev Zfr:=PySem.W.Frag
namespace L2
open PySem PySem.Spec PyProof.Rows
abbrev Key:=Sum Int Str
def mB:Key->Value->Bool
 |.inl k,v=>Value.isInt k v
 |.inr x,v=>Value.isStrOf x v
def Gi(w:World):Key->Int
 |.inl k=>hashInt k
 |.inr x=>hashStr w x
theorem tR:∀{k:Key} {v:Value},mB k v=true->(∃i t,k=Sum.inl i/\v=Value.int i t)\/(∃x t,k=Sum.inr x/\v=Value.str x t)
 |.inl i,v,h=>by
  obtain ⟨t,e⟩:=Value.isInt_shape (k:=i) (v:=v) h;exact .inl ⟨i,t,rfl,e⟩
 |.inr x,v,h=>by
  obtain ⟨t,e⟩:=Value.isStrOf_shape (x:=x) (v:=v) h;exact .inr ⟨x,t,rfl,e⟩
theorem Nk(i:Int)(t:Tok):mB (.inl i) (.int i t)=true:=by simp [mB,Value.isInt]
theorem Nl(x:Str)(t:Tok):mB (.inr x) (.str x t)=true:=by simp [mB,Value.isStrOf]
theorem wy(a b:Int):decide ((Sum.inl a:Key)=Sum.inl b)=(a == b):=by
 by_cases e:a=b
 ·subst e;simp
 ·have h:¬(Sum.inl a:Key)=Sum.inl b:=fun q=>e (Sum.inl.inj q)
  rw [decide_eq_false h];exact (beq_eq_false_iff_ne.mpr e).symm
theorem wz(a b:Str):decide ((Sum.inr a:Key)=Sum.inr b)=decide (a=b):=by
 by_cases e:a=b
 ·subst e;simp
 ·have h:¬(Sum.inr a:Key)=Sum.inr b:=fun q=>e (Sum.inr.inj q)
  rw [decide_eq_false h,decide_eq_false e]
theorem wA(a:Int)(b:Str):decide ((Sum.inl a:Key)=Sum.inr b)=false:=decide_eq_false (fun q=>nomatch q)
theorem wB(a:Str)(b:Int):decide ((Sum.inr a:Key)=Sum.inl b)=false:=decide_eq_false (fun q=>nomatch q)
def cD(prog:Program)(w:World):PySem.KeyKind prog w Key where
 is:=mB
 hash:=Gi w
 inj:=fun v a b ha hb=>by
  rcases tR ha with ⟨i,t,rfl,rfl⟩|⟨x,t,rfl,rfl⟩
  ·rcases tR hb with ⟨j,u,rfl,e⟩|⟨y,u,rfl,e⟩
   ·injection e with e1 _;rw [e1]
   ·exact nomatch e
  ·rcases tR hb with ⟨j,u,rfl,e⟩|⟨y,u,rfl,e⟩
   ·exact nomatch e
   ·injection e with e1 _;rw [e1]
 byValue:=fun k v h=>by
  rcases tR h with ⟨i,t,rfl,rfl⟩|⟨x,t,rfl,rfl⟩<;>rfl
 pyHash:=fun hv h=>by
  rcases tR hv with ⟨i,t,rfl,rfl⟩|⟨x,t,rfl,rfl⟩
  ·exact wpAny_pyHash_int h
  ·exact wpAny_pyHash_str h
 eqBool:=fun hu hv h=>by
  rcases tR hu with ⟨i,t,rfl,rfl⟩|⟨x,t,rfl,rfl⟩
  ·rcases tR hv with ⟨j,u,rfl,rfl⟩|⟨y,u,rfl,rfl⟩
   ·rw [wy] at h;exact wpAny_eqBool_int h
   ·rw [wA] at h;exact SeqAt.EqAt.int_str i t y u _ _ _ _ h
  ·rcases tR hv with ⟨j,u,rfl,rfl⟩|⟨y,u,rfl,rfl⟩
   ·rw [wB] at h;exact SeqAt.EqAt.str_int x t j u _ _ _ _ h
   ·rw [wz] at h;exact wpAny_eqBool_str h
 «strs»:=fun k x t v h=>by
  rcases tR h with ⟨i,u,rfl,e⟩|⟨y,u,rfl,e⟩
  ·exact nomatch e
  ·injection e with e1 _
   subst e1;cases v<;>rfl
theorem Nm(prog:Program)(w:World)(i:Int)(t:Tok):(cD prog w).is (.inl i) (.int i t)=true:=Nk i t
theorem Nn(prog:Program)(w:World)(x:Str)(t:Tok):(cD prog w).is (.inr x) (.str x t)=true:=Nl x t
inductive V where
 |non|bl (b:Bool)|int (i:Int)|str (x:Str)|qJ (b:Array UInt8)|Ei (b:UInt64)|ref (a:Addr)|ty (n:String)
 deriving DecidableEq
def RelV:V->Value->Prop
 |.non,u=>u=Value.none
 |.bl b,u=>u=Value.bool b
 |.int i,u=>∃t,u=Value.int i t
 |.str x,u=>∃t,u=Value.str x t
 |.qJ b,u=>∃t,u=Value.bytes b t
 |.Ei b,u=>∃t,u=Value.float b t
 |.ref a,u=>u=Value.ref a
 |.ty n,u=>u=Value.type n
abbrev Vals:List V->List Value->Prop:=Paired RelV
theorem Vals.length{xs:List V}{us:List Value}(r:Vals xs us):xs.length=us.length:=Paired.length r
theorem Vals.get:∀{xs:List V} {us:List Value} {i:Nat} {x:V},Vals xs us->xs[i]?=some x->∃u,us[i]?=some u/\RelV x u
 |_,_,_,_,.nil,e=>by simp at e
 |_,_,0,_,.cons r _,e=>by simp at e;subst e;exact ⟨_,rfl,r⟩
 |_,_,i+1,x,.cons _ t,e=>by
  obtain ⟨u,h1,h2⟩:=Vals.get (i:=i) (x:=x) t (by simpa using e);exact ⟨u,by simpa using h1,h2⟩
theorem Vals.set{x:V}{u:Value}(r:RelV x u):∀{xs:List V} {us:List Value} (i:Nat),Vals xs us->Vals (xs.set i x) (us.set i u)
 |_,_,_,.nil=>.nil
 |_,_,0,.cons _ t=>.cons r t
 |_,_,i+1,.cons q t=>.cons q (Vals.set r i t)
theorem Vals.append:∀{xs ys:List V} {us ws:List Value},Vals xs us->Vals ys ws->Vals (xs ++ ys) (us ++ ws)
 |_,_,_,_,.nil,s=>s
 |_,_,_,_,.cons r t,s=>.cons r (Vals.append t s)
theorem Vals.take:∀{xs:List V} {us:List Value} (n:Nat),Vals xs us->Vals (xs.take n) (us.take n)
 |_,_,0,_=>.nil
 |_,_,_+1,.nil=>.nil
 |_,_,n+1,.cons r t=>.cons r (Vals.take n t)
theorem Vals.drop:∀{xs:List V} {us:List Value} (n:Nat),Vals xs us->Vals (xs.drop n) (us.drop n)
 |_,_,0,r=>r
 |_,_,_+1,.nil=>.nil
 |_,_,n+1,.cons _ t=>Vals.drop n t
def lA:Option V->Option Value->Prop
 |some v,some u=>RelV v u
 |none,none=>True
 |_,_=>False
def KV{κ:Type}:List (κ×V)->List (κ×Value)->Prop:=Paired fun (p:κ×V) (q:κ×Value)=>p.1=q.1/\RelV p.2 q.2
def kV:Key->V
 |.inl i=>.int i
 |.inr x=>.str x
set_option genInjectivity false in
inductive HO where
 /-- a list -/
 |lst (xs:List V)
 /-- a tuple (never changes) -/
 |tup (xs:List V)
 /-- a dict whose keys are ints and texts;one whose keys are tuples of ints and texts (the empty one is both) -/
 |dK (kvs:List (Key×V))|dT (kvs:List (List Key×V))
 /-- a set of ints: its members,its size -/
 |set (S:Int->Bool) (n:Nat)
 /-- an instance of the class at C,its dict at dx,its attributes -/
 |ins (C dx:Addr) (fs:List (Str×V))
 /-- the dict of the instance at x -/
 |own (x:Addr)
 /-- the dict of an exception -/
 |xd (fs:List (Str×V))
 /-- a bound method,f of x -/
 |met (f x:Addr)
 /-- a range object lo,lo+1,.. below hi -/
 |gR (lo hi:Int)
 /-- a thing that is known to the object (the script;a dict while a loop walks it): read,never written while it is so -/
 |mC (o:Obj) (u:HO)
 /-- a code Aw table -/
 |uS (ps:Array Value)
 /-- any other thing,by what is true of its one object (a def of Jn own: Np a S n:=HO.ext fun h=>..) -/
 |ext (φ:Heap->Prop)
abbrev Hp:=Addr->Option HO
def upd(H:Hp)(a:Addr)(o:HO):Hp:=fun b=>if b=a then some o else H b
theorem kS{H:Hp}{a:Addr}{o:HO}:upd H a o a=some o:=by unfold upd;rw [if_pos rfl]
theorem di{H:Hp}{a b:Addr}{o:HO}(h:b≠a):upd H a o b=H b:=by unfold upd;rw [if_neg h]
theorem Nq{H:Hp}{a:Addr}{o u:HO}:upd (upd H a o) a u=upd H a u:=by
 funext b;unfold upd;split<;>rfl
theorem Gj{H:Hp}{a b:Addr}{o u:HO}(h:H a=some o)(h':H b=some u)(d:o≠u):a≠b:=by
 intro e;subst e;rw [h] at h';exact d (VJ h')
theorem wC{H:Hp}{a b:Addr}{o:HO}(h:H a=some o)(h':H b=none):a≠b:=by
 intro e;subst e;rw [h] at h';cases h'
def mV(h:Heap)(a:Addr)(its:Array Value):Prop:=∃o,h.get? a=some o/\o.cls=.type "tuple" /\ o.dict=none/\∃n,o.data=.seq its n
theorem mV.tup{h:Heap}{a:Addr}{its:Array Value}(x:mV h a its):IsTup h a its:=let ⟨o,e,c,_,n,d⟩:=x;⟨o,e,c,n,d⟩
theorem mV.new(h:Heap)(its:Array Value):mV (h.push { cls:=.type "tuple",data:=.seq its }) h.objs.size its:=⟨_,V1 _ rfl,rfl,rfl,_,rfl⟩
section
variable (P:Program)(w:World)
def bw(H:Hp)(h:Heap)(a:Addr):HO->Prop
 |.lst xs=>xs.length<=sizeLine/\∃(its:List Value) (n:Nat),Vals xs its/\h.get? a=some { cls:=.type "list",data:=.seq its.toArray n }
 |.tup xs=>xs.length<=sizeLine/\∃its:List Value,Vals xs its/\mV h a its.toArray
 |.dK kvs=>kvs.length<=sizeLine/\(a == sysModules)=false/\∃vs,KV kvs vs/\h.DictOf (cD P w) a vs
 | .dT kvs=>kvs.length<=sizeLine/\(a == sysModules)=false/\∃ xs:List (List Key×Addr×Value),
   Paired (fun (p:List Key×V) (q:List Key×Addr×Value)=>p.1=q.1/\H q.2.1=some (.tup (p.1.map kV))/\RelV p.2 q.2.2) kvs xs /\
   ∃o es ep,h.get? a=some o/\o.ExactDict/\o.data=.dict es ep/\es.toList=xs.map (entryOfKey (tupleKind (cD P w)))/\(xs.map (·.1)).Nodup
 |.set S n=>h.SetOf (intKind P w) a S n
 | .ins C dx fs=>H dx=some (.own a)/\fs.length<=1000/\dx≠a/\h.get? a=some (PySem.W.instObj C dx) /\
   ∃mA,h.Ns1 dx mA/\(∀f,lA (fs.lookup f) (mA f))/\PySem.Within mA (fs.map (·.1))
 |.own _=>∃o,h.get? a=some o
 |.xd fs=>∃mA,h.Ns1 a mA/\∀f,lA (fs.lookup f) (mA f)
 |.gR lo hi=>∃t u v,h.get? a=some { cls:=.type "range",data:=.fields #[.int lo t,.int hi u,.int 1 v] }
 |.mC o u=>h.get? a=some o/\bw H h a u
 |.uS ps=>h.get? a=some { cls:=.none,data:=.fields ps }
 |.met f x=>h.get? a=some (PySem.W.methodObj (.ref f) (.ref x))
 |.ext φ=>φ h/\(∃o,h.get? a=some o)/\∀h1 h2:Heap,φ h1->(∀o,h1.get? a=some o->h2.get? a=some o)->φ h2
def iO(H:Hp)(h:Heap):Prop:=∀a o,H a=some o->bw P w H h a o
end
section
variable {P:Program}{w:World}{H H':Hp}{h h':Heap}{a:Addr}{o:HO}
theorem bw.lt(x:bw P w H h a o):a<h.objs.size:=by
 cases o with
 |lst xs=>obtain ⟨_,_,_,_,e⟩:=x;exact VT e
 |tup xs=>obtain ⟨_,_,_,_,e,_⟩:=x;exact VT e
 |dK kvs=>obtain ⟨_,_,_,_,o,_,_,e,_⟩:=x;exact VT e
 |dT kvs=>obtain ⟨_,_,_,_,o,_,_,e,_⟩:=x;exact VT e
 |set S n=>obtain ⟨o,_,_,_,e,_⟩:=x;exact VT e
 |ins C dx fs=>obtain ⟨_,_,_,e,_⟩:=x;exact VT e
 |own y=>obtain ⟨_,e⟩:=x;exact VT e
 |xd fs=>obtain ⟨_,⟨_,_,_,e,_⟩,_⟩:=x;exact VT e
 |gR lo hi=>obtain ⟨_,_,_,e⟩:=x;exact VT e
 |mC ob u=>obtain ⟨e,_⟩:=x;exact VT e
 |uS ps=>exact VT (show h.get? a=some _ from x)
 |met f y=>exact VT (show h.get? a=some _ from x)
 |ext φ=>obtain ⟨_,⟨_,e⟩,_⟩:=x;exact VT e
theorem Paired.wG{α β:Type}{F G:α->β->Prop}:∀{l₁:List α} {l₂:List β},Paired F l₁ l₂->(∀a b,F a b->G a b)->Paired G l₁ l₂
 |_,_,.nil,_=>.nil
 |_,_,.cons r t,f=>.cons (f _ _ r) (Paired.wG t f)
theorem bw.stay(x:bw P w H h a o)(k:∀b u,(b=a\/H b=some (.own a))->h.get? b=some u->h'.get? b=some u)
  (ho:∀b,H b=some (.own a)->H' b=some (.own a)) (ht:∀b xs,H b=some (.tup xs)->H' b=some (.tup xs)):bw P w H' h' a o:=by
 induction o with
 |lst xs=>obtain ⟨z,its,n,r,e⟩:=x;exact ⟨z,its,n,r,k _ _ (.inl rfl) e⟩
 |tup xs=>obtain ⟨z,its,r,ob,e,c⟩:=x;exact ⟨z,its,r,ob,k _ _ (.inl rfl) e,c⟩
 |dK kvs=>obtain ⟨z,y,vs,r,ob,es,ep,e,c⟩:=x;exact ⟨z,y,vs,r,ob,es,ep,k _ _ (.inl rfl) e,c⟩
 |dT kvs =>
  obtain ⟨z,y,xs,r,ob,es,ep,e,c⟩:=x;exact ⟨z,y,xs,Paired.wG r fun p q z=>⟨z.1,ht _ _ z.2.1,z.2.2⟩,ob,es,ep,k _ _ (.inl rfl) e,c⟩
 |set S n=>obtain ⟨ob,es,ep,t,e,c⟩:=x;exact ⟨ob,es,ep,t,k _ _ (.inl rfl) e,c⟩
 |ins C dx fs =>
  obtain ⟨d,z,ne,e,mA,⟨od,es,ep,e2,c⟩,r⟩:=x;exact ⟨ho _ d,z,ne,k _ _ (.inl rfl) e,mA,⟨od,es,ep,k _ _ (.inr d) e2,c⟩,r⟩
 |own y=>obtain ⟨ob,e⟩:=x;exact ⟨ob,k _ _ (.inl rfl) e⟩
 |xd fs=>obtain ⟨mA,⟨od,es,ep,e,c⟩,r⟩:=x;exact ⟨mA,⟨od,es,ep,k _ _ (.inl rfl) e,c⟩,r⟩
 |gR lo hi=>obtain ⟨t,u,v,e⟩:=x;exact ⟨t,u,v,k _ _ (.inl rfl) e⟩
 |mC ob u ih=>obtain ⟨e,q⟩:=x;exact ⟨k _ _ (.inl rfl) e,ih q⟩
 |uS ps =>
  have e:h.get? a=some { cls:=.none,data:=.fields ps }:=x;show h'.get? a=some { cls:=.none,data:=.fields ps };exact k a _ (.inl rfl) e
 |met f y =>
  have e:h.get? a=some (PySem.W.methodObj (.ref f) (.ref y)):=x;show h'.get? a=some (PySem.W.methodObj (.ref f) (.ref y));exact k a _ (.inl rfl) e
 |ext φ=>obtain ⟨p,⟨o,e⟩,st⟩:=x;exact ⟨st _ _ p fun o q=>k _ _ (.inl rfl) q,⟨o,k _ _ (.inl rfl) e⟩,st⟩
theorem iO.lt(x:iO P w H h)(e:H a=some o):a<h.objs.size:=(x a o e).lt
theorem iO.fresh(x:iO P w H h)(e:h.objs.size<=a):H a=none:=by
 cases q:H a with
 |none=>rfl
 |some u=>exact absurd (V5 (x.lt q) e) (Xc _)
theorem iO.kept(x:iO P w H h)(k:∀b u,h.get? b=some u->h'.get? b=some u):iO P w H h':=fun a o e =>
 (x a o e).stay (fun b u _ q=>k b u q) (fun _ q=>q) fun _ _ q=>q
theorem iO.laid(x:iO P w H h)(k:∀b u,h.get? b=some u->h'.get? b=some u)(hp:h.objs.size<=a)(new:bw P w (upd H a o) h' a o):iO P w (upd H a o) h':=fun b u e=>by
 have hn:=x.fresh hp
 by_cases hb:b=a
 ·subst hb;rw [kS] at e;cases e;exact new
 ·rw [di hb] at e
  exact (x b u e).stay (fun c v _ q=>k c v q) (fun c q=>by rw [di (wC q hn)];exact q) fun c xs q=>by rw [di (wC q hn)];exact q
end
def Rd(H:Hp)(a:Addr)(u:HO):Prop:=H a=some u\/∃o,H a=some (.mC o u)
theorem Rd.ok{P:Program}{w:World}{H:Hp}{h:Heap}{a:Addr}{u:HO}(r:Rd H a u)(x:iO P w H h):bw P w H h a u:=by
 rcases r with r|⟨o,r⟩
 ·exact x a u r
 ·obtain ⟨_,q⟩:=x a _ r
  exact q
def Ax:Option HO->Prop
 |some (.lst _)=>True
 |some (.dK _)=>True
 |some (.dT _)=>True
 |some (.set _ _)=>True
 |some (.ins _ _ _)=>True
 |some (.ext _)=>True
 |_=>False
section
variable {P:Program}{w:World}{H:Hp}{h h':Heap}{x e:Addr}{o':HO}
theorem iO.write(ok:iO P w H h)(mu:Ax (H x))(he:e=x\/H e=some (.own x))(k:∀b u,b≠e->h.get? b=some u->h'.get? b=some u)(zA:∃u,h'.get? e=some u)
  (new:bw P w (upd H x o') h' x o'):iO P w (upd H x o') h':=fun b u q=>by
 have Ay:∀c y,H c=some (.own y)->c≠x:=fun c y r z=>by subst z;rw [r] at mu;exact mu
 have Gk:∀c xs,H c=some (.tup xs)->c≠x:=fun c xs r z=>by subst z;rw [r] at mu;exact mu
 by_cases hb:b=x
 ·subst hb;rw [kS] at q;cases q;exact new
 ·rw [di hb] at q
  by_cases wH:b=e
  ·have q':H b=some (.own x):=by
    rcases he with z|z
    ·exact absurd (wH.trans z) hb
    ·rw [wH];exact z
   rw [q] at q';cases q';obtain ⟨v,hv⟩:=zA;exact ⟨v,by rw [wH];exact hv⟩
  ·refine (ok b u q).stay (fun c v hc r=>k c v ?_ r) (fun c r=>by rw [di (Ay c b r)];exact r) fun c xs r=>by rw [di (Gk c xs r)];exact r
   rcases hc with rfl|hc
   ·exact wH
   ·rintro rfl
    rcases he with z|z
    ·exact Ay c b hc z
    ·rw [hc] at z;cases z;exact hb rfl
end
structure Un(fs ex:List Addr)(H H':Hp)(h h':Heap):Prop where
 keep:∀b o,h.get? b=some o->H b=none->b ∉ fs->b ∉ ex->h'.get? b=some o
 slot:∀b o,h.get? b=some o->H b=none->b∈fs->b ∉ ex->∃sl,h'.get? b=some { o with slots:=sl }
 free:∀b o,h.get? b=some o->H b=none->b ∉ ex->H' b=none
 there:∀b o,h.get? b=some o->b ∉ ex->∃o',h'.get? b=some o'
 tups:∀b xs,H b=some (.tup xs)->H' b=some (.tup xs)
 l8:∀b o u,H b=some (.mC o u)->H' b=some (.mC o u)
 mW:∀b ps,H b=some (.uS ps)->∃more,H' b=some (.uS (ps ++ more))
section
variable {fs fs' ex ex':List Addr}{H H1 H2:Hp}{h h1 h2 h':Heap}{a x e:Addr}{o:HO}
theorem Un.any(u:Un fs ex H H1 h h1){b:Addr}{ob:Obj}(q:h.get? b=some ob)(n:H b=none)(hx:b ∉ ex):∃sl,h1.get? b=some { ob with slots:=sl }:=by
 by_cases hb:b∈fs
 ·exact u.slot b ob q n hb hx
 ·exact ⟨ob.slots,u.keep b ob q n hb hx⟩
theorem Un.kept(k:∀b u,h.get? b=some u->h'.get? b=some u):Un fs ex H H h h' :=
 ⟨fun b ob q _ _ _=>k b ob q,fun b ob q _ _ _=>⟨ob.slots,k b ob q⟩,fun _ _ _ n _=>n,fun b ob q _=>⟨ob,k b ob q⟩,fun _ _ q=>q,fun _ _ _ q=>q,fun _ ps q=>⟨#[],by rw [q];simp⟩⟩
theorem Un.refl:Un fs ex H H h h:=Un.kept fun _ _ q=>q
theorem Un.laid(k:∀b u,h.get? b=some u->h'.get? b=some u)(hp:h.objs.size<=a)(hn:H a=none):Un fs ex H (upd H a o) h h' where
 keep:=fun b u q _ _ _=>k b u q
 slot:=fun b u q _ _ _=>⟨u.slots,k b u q⟩
 free:=fun b u q n _=>by rw [di (Wb (V5 (VT q) hp))];exact n
 there:=fun b u q _=>⟨u,k b u q⟩
 tups:=fun b xs q=>by rw [di (wC q hn)];exact q
 l8:=fun b u xs q=>by rw [di (wC q hn)];exact q
 mW:=fun b ps q=>⟨#[],by rw [di (wC q hn),q];simp⟩
theorem Un.write(mu:Ax (H x))(he:e=x\/H e=some (.own x))(k:∀b u,b≠e->h.get? b=some u->h'.get? b=some u)(zA:∃u,h'.get? e=some u):Un fs ex H (upd H x o) h h':=by
 have hx:∀b,H b=none->b≠x:=fun b n z=>by subst z;rw [n] at mu;exact mu
 have hb:∀b,H b=none->b≠e:=fun b n z=>by
  subst z;rcases he with r|r
  ·exact hx b n r
  ·rw [n] at r;cases r
 have hm:∀b u,H b=some u->¬Ax (some u)->b≠x:=fun b u q nm z=>by subst z;rw [q] at mu;exact nm mu
 refine ⟨fun b u q n _ _=>k b u (hb b n) q,fun b u q n _ _=>⟨u.slots,k b u (hb b n) q⟩,fun b u q n _=>by rw [di (hx b n)];exact n,fun b u q _=>?_,
  fun b xs q=>by rw [di (hm b _ q fun z=>z)];exact q,fun b u xs q=>by rw [di (hm b _ q fun z=>z)];exact q,fun b ps q=>⟨#[],by rw [di (hm b _ q fun z=>z),q];simp⟩⟩
 by_cases wH:b=e
 ·subst wH;exact zA
 ·exact ⟨u,k b u wH q⟩
end
def Ej(h:Heap)(H:Hp):List Addr:=(List.range h.objs.size).filter fun a=>(H a).isSome
def mX(h:Heap)(H:Hp):Heap:=PySem.W.hideAll h (Ej h H)
theorem Nr(h:Heap)(H:Hp):(mX h H).objs.size=h.objs.size:=PySem.W.hideAll_size _ _
theorem Nt{h:Heap}{H:Hp}{b:Addr}{o:Obj}(e:h.get? b=some o)(n:H b=none):(mX h H).get? b=some o :=
 PySem.W.hideAll_get _ e fun hm=>by
  have q:(H b).isSome=true:=(List.mem_filter.mp hm).2;rw [n] at q;simp at q
theorem Nu{h:Heap}{H:Hp}{b:Addr}{o:Obj}(e:(mX h H).get? b=some o):h.get? b=some o/\H b=none:=by
 have e':h.get? b=some o:=PySem.W.of_hideAll (Ej h H) e;refine ⟨e',?_⟩;cases q:H b with
 |none=>rfl
 |some x =>
  have hm:b∈Ej h H:=List.mem_filter.mpr ⟨WL.mpr (VT e'),by simp [q]⟩;have z:(mX h H).get? b=none:=PySem.W.hideAll_none (Ej h H) hm;rw [z] at e;cases e
def tT(g h:Heap)(L:Addr):List (Addr×Obj):=(List.range h.objs.size).filterMap fun a=>if a=L\/(g.get? a).isSome=true then none else (h.get? a).map fun o=>(a,o)
def rest(g h:Heap)(L d:Addr):List (Addr×Obj):=(tT g h L).filter fun p=>decide (p.1≠d)
structure Mod(K:Zfr)(mg:Str->Option Value)(base:Heap):Prop where
 zB:K.In base
 glob:base.Ns mainGlobals mg
 blt:∃mb,base.Ns builtinsNs mb/\∀x:Str,x≠"__name__" -> mb x=bootBuiltins x
 nolimit:base.NoLimit
set_option genInjectivity false in
structure Cx where
 prog:Program
 w:World
 K:Zfr
 mg:Str->Option Value
 base:Heap
 A:Around
 N:List Str
 s₀:Shared
 H₀:Hp
 env:Env
 outer:List Env
 stack:List Env
 ex:List Addr
 fn:Str->Bool
 calm:Bool
 pn:List (Addr×Obj)
 xe:Value->Shared->Prop
def frs(l:List Env):List Addr:=l.filterMap (·.frame)
abbrev Cx.fs(X:Cx):List Addr:=frs X.outer
def Gm(sc:Scope)(x:Str):Prop:=sc.names.lookup x=some .local\/sc.names.lookup x=some .cell\/sc.names.lookup x=some .free
def Loc(sc:Scope)(x:Str):Prop:=sc.names.lookup x=some .local\/sc.names.lookup x=some .cell
def Look(env:Env)(h:Heap)(m:Str->Option Value)(x:Str)(u:Value):Prop :=
 (env.kindOf x=some .local/\m x=some u)\/((env.kindOf x=some .cell\/env.kindOf x=some .free)/\∃c,env.cells.lookup x=some c/\h.IsCell c (some u))
structure Cx.Ok(X:Cx):Prop where
 mod:Mod X.K X.mg X.base
 kind:X.env.scope.kind=.function
 glob:X.env.globals=mainGlobals
 blt:X.env.builtins=builtinsNs
 above:X.s₀.heap.objs.size<=X.env.locals
 inj:∀x y c,X.env.cells.lookup x=some c->X.env.cells.lookup y=some c->x=y
 has:∀x,(X.env.kindOf x=some .cell\/X.env.kindOf x=some .free)->∃c,X.env.cells.lookup x=some c
 uT:∀x c,X.fn x=true->X.env.cells.lookup x=some c->X.s₀.heap.objs.size<=c
 hd:X.calm=true->X.A.handled=none
 frames:X.A.frames=some X.stack
 stk:X.stack=X.outer\/(X.stack=X.env :: X.outer/\X.env.frame=some X.env.locals)
 Az:∀b∈X.ex,b≠X.env.locals/\∀x c,X.env.cells.lookup x=some c->c≠b
 bs:∀b o,X.base.get? b=some o->X.s₀.heap.get? b=some o/\X.H₀ b=none
 qK:X.base.objs.size<=X.s₀.heap.objs.size
 og:∀b o,X.base.get? b=some o->b ∉ X.ex
 o7:∀b∈X.ex,b ∉ X.fs
 jR:X.s₀.heap.FunFrames X.base X.outer
 sX:∀b∈X.fs,X.H₀ b=none
structure Inv(X:Cx)(pins:List (Addr×Obj))(σ:List (Option V))(H:Hp)(s:Shared):Prop where
 ok:X.Ok
 os:s.os=X.s₀.os
 bare:AllBare s.gens
 base:Un X.fs X.ex X.H₀ H X.s₀.heap s.heap
 loc:∃m,s.heap.Ns X.env.locals m/\∀(i:Nat) (x:Str) (v:V),X.N[i]?=some x->σ[i]?=some (some v)->Gm X.env.scope x->∃u,RelV v u/\Look X.env s.heap m x u
 cell:∀x c,X.env.cells.lookup x=some c->∃v,s.heap.IsCell c v
 free:H X.env.locals=none
 eQ:∀x c,X.env.cells.lookup x=some c->H c=none
 pin:∀p∈X.pn ++ pins,s.heap.get? p.1=some p.2/\H p.1=none/\p.1≠X.env.locals/\p.1 ∉ X.fs/\∀v,p.2.data≠.cell v
 hok:iO X.prog X.w H s.heap
 len:σ.length=X.N.length
section
variable {X:Cx}{pins:List (Addr×Obj)}{σ:List (Option V)}{H H':Hp}{s:Shared}{h':Heap}
theorem Cx.Ok.Gn(ok:X.Ok){b:Addr}{o:Obj}(e:X.base.get? b=some o):b ∉ X.fs:=fun hb=>by
 have:=(ok.jR.mem hb).1;rw [e] at this;cases this
theorem Inv.bs(I:Inv X pins σ H s):∀b o,X.base.get? b=some o->s.heap.get? b=some o/\H b=none:=fun b o e =>
 ⟨I.base.keep b o (I.ok.bs b o e).1 (I.ok.bs b o e).2 (I.ok.Gn e) (I.ok.og b o e),I.base.free b o (I.ok.bs b o e).1 (I.ok.bs b o e).2 (I.ok.og b o e)⟩
theorem Inv.bk(I:Inv X pins σ H s):∀b o,X.base.get? b=some o->s.heap.get? b=some o:=fun b o e=>(I.bs b o e).1
theorem Inv.mod(I:Inv X pins σ H s):Mod X.K X.mg X.base:=I.ok.mod
theorem Inv.mY(I:Inv X pins σ H s):X.K.In s.heap:=I.ok.mod.zB.keeps I.bk
theorem Inv.lt(I:Inv X pins σ H s):X.env.locals<s.heap.objs.size:=let ⟨_,hn,_⟩:=I.loc;hn.lt
theorem Inv.sz(I:Inv X pins σ H s):X.s₀.heap.objs.size<=s.heap.objs.size:=V3 I.ok.above (Nat.le_of_lt I.lt)
theorem Inv.AA(I:Inv X pins σ H s){a:Addr}(h:s.heap.objs.size<=a):a ∉ X.fs:=fun hb=>by
 obtain ⟨_,o,ho,_⟩:=I.ok.jR.mem hb;exact absurd (V5 (VT ho) (V3 I.sz h)) (Xc _)
theorem Inv.qZ(I:Inv X pins σ H s):∀x c,X.env.cells.lookup x=some c->c≠X.env.locals:=fun x c e z=>by
 obtain ⟨v,o,ho,hd⟩:=I.cell x c e;obtain ⟨m,⟨o',es,ep,ho',hd',_⟩,_⟩:=I.loc;rw [z,ho'] at ho;cases ho;rw [hd'] at hd;cases hd
theorem Inv.jR(I:Inv X pins σ H s):s.heap.FunFrames X.base X.outer:=by
 have all:∀(l:List Env),(∀b∈frs l,b∈X.fs)->X.s₀.heap.FunFrames X.base l->s.heap.FunFrames X.base l:=by
  intro l
  induction l with
  |nil=>intro _ _;trivial
  |cons env r ih =>
   intro hs hl;obtain ⟨hk,⟨L,o,hf,hn,ho,hd⟩,hr⟩:=hl;have hL:L∈X.fs:=hs L (by unfold frs;rw [List.filterMap_cons,hf];exact VN);obtain ⟨sl,e⟩:=I.base.slot L o ho (I.ok.sX L hL) hL fun z=>I.ok.o7 L z hL;exact ⟨hk,⟨L,_,hf,hn,e,hd⟩,ih (fun b hb=>hs b (by unfold frs;rw [List.filterMap_cons,hf];exact VL _ hb)) hr⟩
 exact all X.outer (fun _ hb=>hb) I.ok.jR
theorem Inv.stack(I:Inv X pins σ H s):s.heap.FunFrames X.base X.stack:=by
 rcases I.ok.stk with e|⟨e,hf⟩
 ·rw [e];exact I.jR
 ·rw [e]
  obtain ⟨m,hn,_⟩:=I.loc;refine .cons (by rw [I.ok.kind];decide) hf hn ?_ I.jR;exact Heap.get?_none_of_le (V3 I.ok.qK I.ok.above)
theorem Inv.lB(I:Inv X pins σ H s):∀b∈frs X.stack,b∈X.env.locals :: X.fs:=fun b hb=>by
 rcases I.ok.stk with e|⟨e,hf⟩
 ·rw [e] at hb;exact VL _ hb
 ·rw [e] at hb
  unfold frs at hb;rw [List.filterMap_cons,hf] at hb;exact hb
theorem Inv.mZ(I:Inv X pins σ H s):∀b∈frs X.stack,H b=none:=fun b hb=>by
 rcases VZ.mp (I.lB b hb) with e|hb
 ·rw [e];exact I.free
 ·obtain ⟨_,o,ho,_⟩:=I.ok.jR.mem hb
  exact I.base.free b o ho (I.ok.sX b hb) fun z=>I.ok.o7 b z hb
theorem Inv.step{g':Array GenState}{t':Nat}{d':Drawn}{ch:List Addr}(I:Inv X pins σ H s)
  (hch:∀b∈ch,(b∈X.ex\/X.s₀.heap.objs.size<=b)/\b≠X.env.locals/\(∀x c,X.env.cells.lookup x=some c->c≠b)/\∀p∈X.pn ++ pins,p.1≠b)
  (keep:∀b o,b≠X.env.locals->b ∉ X.fs->b ∉ ch->s.heap.get? b=some o->H b=none->h'.get? b=some o)
  (slot:∀b o,b≠X.env.locals->b∈X.fs->b ∉ ch->s.heap.get? b=some o->H b=none->∃sl,h'.get? b=some { o with slots:=sl }) (free:∀b o,b ∉ ch->s.heap.get? b=some o->H b=none->H' b=none)
  (there:∀b o,b ∉ ch->s.heap.get? b=some o->∃o',h'.get? b=some o')
  (tups:∀b xs,H b=some (.tup xs)->H' b=some (.tup xs)) (l8:∀b o u,H b=some (.mC o u)->H' b=some (.mC o u)) (mW:∀b ps,H b=some (.uS ps)->∃more,H' b=some (.uS (ps ++ more)))
  (ns:∀m,s.heap.Ns X.env.locals m->h'.Ns X.env.locals m) (hok:iO X.prog X.w H' h') (hg:AllBare g') :
  Inv X pins σ H' { s with heap:=h',gens:=g',drawn:=d',toks:=t' }:=by
 have wI:∀b o,X.s₀.heap.get? b=some o->b≠X.env.locals:=fun b o e=>Wb (V5 (VT e) I.ok.above);have Ek:∀b o,X.s₀.heap.get? b=some o->b ∉ X.ex->b ∉ ch:=fun b o e hx hb=>by
  rcases (hch b hb).1 with z|z
  ·exact hx z
  ·exact absurd (V5 (VT e) z) (Xc _)
 have cellK:∀x c,X.env.cells.lookup x=some c->∀v,s.heap.IsCell c v->h'.IsCell c v:=fun x c e v ⟨o,ho,hd⟩=>by
  have AB:c ∉ ch:=fun z=>(hch c z).2.2.1 x c e rfl
  by_cases hc:c∈X.fs
  ·obtain ⟨sl,q⟩:=slot c o (I.qZ x c e) hc AB ho (I.eQ x c e)
   exact ⟨_,q,hd⟩
  ·exact ⟨o,keep c o (I.qZ x c e) hc AB ho (I.eQ x c e),hd⟩
 refine ⟨I.ok,I.os,hg,⟨fun b o e n hb hx=>?_,fun b o e n hb hx=>?_,fun b o e n hx=>?_,fun b o e hx=>?_,fun b xs e=>tups b xs (I.base.tups b xs e),fun b o xs e=>l8 b o xs (I.base.l8 b o xs e),fun b ps e=>?_⟩,?_,fun x c e=>?_,?_,fun x c e=>?_,fun p hp=>?_,hok,I.len⟩
 ·exact keep b o (wI b o e) hb (Ek b o e hx) (I.base.keep b o e n hb hx) (I.base.free b o e n hx)
 ·obtain ⟨sl,e1⟩:=I.base.slot b o e n hb hx
  obtain ⟨Gp,e2⟩:=slot b _ (wI b o e) hb (Ek b o e hx) e1 (I.base.free b o e n hx);exact ⟨Gp,e2⟩
 ·obtain ⟨o',e1⟩:=I.base.there b o e hx
  exact free b o' (Ek b o e hx) e1 (I.base.free b o e n hx)
 ·obtain ⟨o',e1⟩:=I.base.there b o e hx
  exact there b o' (Ek b o e hx) e1
 ·obtain ⟨m1,e1⟩:=I.base.mW b ps e
  obtain ⟨m2,e2⟩:=mW b _ e1;exact ⟨m1 ++ m2,by rw [e2,Array.append_assoc]⟩
 ·obtain ⟨m,hn,hl⟩:=I.loc
  refine ⟨m,ns m hn,fun i x v e1 e2 e3=>?_⟩;obtain ⟨u,r,l⟩:=hl i x v e1 e2 e3;refine ⟨u,r,?_⟩;rcases l with l|⟨k,c,e,z⟩
  ·exact .inl l
  ·exact .inr ⟨k,c,e,cellK x c e _ z⟩
 ·obtain ⟨v,z⟩:=I.cell x c e
  exact ⟨v,cellK x c e v z⟩
 ·obtain ⟨m,⟨o,_,_,ho,_⟩,_⟩:=I.loc
  exact free _ o (fun z=>(hch _ z).2.1 rfl) ho I.free
 ·obtain ⟨v,o,ho,hd⟩:=I.cell x c e
  exact free c o (fun z=>(hch c z).2.2.1 x c e rfl) ho (I.eQ x c e)
 ·obtain ⟨e,n,ne,nf,d⟩:=I.pin p hp
  have AB:p.1 ∉ ch:=fun z=>(hch p.1 z).2.2.2 p hp rfl;exact ⟨keep p.1 p.2 ne nf AB e n,free p.1 p.2 AB e n,ne,nf,d⟩
theorem Inv.un{t':Nat}(I:Inv X pins σ H s)(u:Un X.fs [] H H' s.heap h')(hok:iO X.prog X.w H' h'):Inv X pins σ H' { s with heap:=h',toks:=t' }:=by
 obtain ⟨m,⟨o,es,ep,ho,r⟩,_⟩:=id I.loc;obtain ⟨sl,hL⟩:=u.any ho I.free (by simp)
 exact I.step (g':=s.gens) (d':=s.drawn) (ch:=[]) (fun _ z=>nomatch z) (fun b o _ hb _ e n=>u.keep b o e n hb (by simp)) (fun b o _ hb _ e n=>u.slot b o e n hb (by simp)) (fun b o _ e n=>u.free b o e n (by simp)) (fun b o _ e=>u.there b o e (by simp)) u.tups u.l8 u.mW (fun m' hm=>by
  obtain ⟨o',es',Gq,ho',r'⟩:=hm;rw [ho] at ho';cases ho'
  exact ⟨_,es',Gq,hL,r'⟩) hok I.bare
theorem Inv.call{g':Array GenState}{t':Nat}{d':Drawn}{ch:List Addr}(I:Inv X pins σ H s)(u:Un (frs X.stack) ch H H' s.heap h')(hok:iO X.prog X.w H' h')(hg:AllBare g')
  (hch:∀b∈ch,(b∈X.ex\/X.s₀.heap.objs.size<=b)/\b≠X.env.locals/\(∀x c,X.env.cells.lookup x=some c->c≠b)/\∀p∈X.pn ++ pins,p.1≠b) :
  Inv X pins σ H' { s with heap:=h',gens:=g',drawn:=d',toks:=t' }:=by
 obtain ⟨m,⟨o,es,ep,ho,r⟩,_⟩:=id I.loc;obtain ⟨sl,hL⟩:=u.any ho I.free fun z=>(hch _ z).2.1 rfl
 exact I.step (ch:=ch) hch (fun b o hL hb hc e n=>u.keep b o e n (fun z=>(VZ.mp (I.lB b z)).elim hL hb) hc) (fun b o _ _ hc e n=>u.any e n hc) (fun b o hc e n=>u.free b o e n hc) (fun b o hc e=>u.there b o e hc) u.tups u.l8 u.mW (fun m' hm=>by
  obtain ⟨o',es',Gq,ho',r'⟩:=hm;rw [ho] at ho';cases ho'
  exact ⟨_,es',Gq,hL,r'⟩) hok hg
theorem Inv.turned{t':Nat}{it:Addr}(I:Inv X pins σ H s)(k:∀b o,b≠it->s.heap.get? b=some o->h'.get? b=some o)(hn:H it=none)(hL:it≠X.env.locals)
  (h1:it∈X.ex\/X.s₀.heap.objs.size<=it) (h2:∀x c,X.env.cells.lookup x=some c->c≠it) (h3:∀p∈X.pn ++ pins,p.1≠it):Inv X pins σ H { s with heap:=h',toks:=t' }:=by
 have AE:∀b u,H b=some u->b≠it:=fun b u e z=>by rw [z,hn] at e;cases e
 refine I.step (g':=s.gens) (d':=s.drawn) (ch:=[it]) (fun b hb=>?_) (fun b o _ _ hc e _=>k b o (fun z=>hc (by simp [z])) e) (fun b o _ _ hc e _=>⟨o.slots,k b o (fun z=>hc (by simp [z])) e⟩) (fun _ _ _ _ n=>n)
  (fun b o hc e=>⟨o,k b o (fun z=>hc (by simp [z])) e⟩) (fun _ _ e=>e) (fun _ _ _ e=>e) (fun b ps e=>⟨#[],by rw [e];simp⟩) (fun m hm=>?_) (fun b u e=>?_) I.bare
 ·have e:b=it:=by simpa using hb
  subst e;exact ⟨h1,hL,h2,h3⟩
 ·obtain ⟨o,es,ep,ho,r⟩:=hm
  exact ⟨o,es,ep,k _ o (Ne.symm hL) ho,r⟩
 ·refine (I.hok b u e).stay (fun c v hc q=>k c v ?_ q) (fun _ q=>q) fun _ _ q=>q
  rcases hc with z|z
  ·rw [z];exact AE b u e
  ·exact AE c _ z
theorem Inv.tok(I:Inv X pins σ H s)(t:Nat):Inv X pins σ H { s with toks:=t }:=I.un (h':=s.heap) (t':=t) Un.refl I.hok
theorem Inv.kept{t':Nat}(I:Inv X pins σ H s)(k:∀b u,s.heap.get? b=some u->h'.get? b=some u):Inv X pins σ H { s with heap:=h',toks:=t' }:=I.un (Un.kept k) (I.hok.kept k)
theorem Inv.laid{a:Addr}{o:HO}{t':Nat}(I:Inv X pins σ H s)(k:∀b u,s.heap.get? b=some u->h'.get? b=some u)(hp:s.heap.objs.size<=a)(new:bw X.prog X.w (upd H a o) h' a o):
  Inv X pins σ (upd H a o) { s with heap:=h',toks:=t' }:=I.un (Un.laid k hp (I.hok.fresh hp)) (I.hok.laid k hp new)
theorem Inv.write{x e:Addr}{o:HO}{t':Nat}(I:Inv X pins σ H s)(mu:Ax (H x))(he:e=x\/H e=some (.own x))(k:∀b u,b≠e->s.heap.get? b=some u->h'.get? b=some u)(zA:∃u,h'.get? e=some u)
  (new:bw X.prog X.w (upd H x o) h' x o):Inv X pins σ (upd H x o) { s with heap:=h',toks:=t' }:=I.un (Un.write mu he k zA) (I.hok.write mu he k zA new)
theorem Inv.kX{jG:List (Addr×Obj)}(I:Inv X pins σ H s)(h:∀p∈jG,s.heap.get? p.1=some p.2/\H p.1=none/\p.1≠X.env.locals/\p.1 ∉ X.fs/\∀v,p.2.data≠.cell v):Inv X jG σ H s :=
 ⟨I.ok,I.os,I.bare,I.base,I.loc,I.cell,I.free,I.eQ,fun p hp=>(V9.mp hp).elim (fun z=>I.pin p (WI _ z)) (h p),I.hok,I.len⟩
theorem Gr{N:List Str}(hN:N.Nodup){i j:Nat}{x:Str}(a:N[i]?=some x)(b:N[j]?=some x):i=j:=by
 obtain ⟨h1,e1⟩:=VA.mp a;obtain ⟨h2,e2⟩:=VA.mp b;exact (List.getElem_inj hN).mp (e1.trans e2.symm)
theorem Jo{M:Model}{A:Around}{E:Value->Shared->Prop}{i:Nat}{x:Str}{v:V}{u:Value}{Q:Unit->Shared->Prop}(I:Inv X pins σ H s)(hN:X.N.Nodup)(hi:X.N[i]?=some x)(hx:Loc X.env.scope x)(r:RelV v u)
  (h:∀s',Inv X pins (σ.set i (some v)) H s'->(∃a,Heap.SameBut a s.heap s'.heap/\(a=X.env.locals\/X.env.cells.lookup x=some a))->Q () s') (hf:X.fn x=true\/X.env.scope.names.lookup x=some .local:=by first|exact .inl rfl|exact .inr rfl|assumption):wpAny M A (storeName X.env x u) Q E s:=by
 obtain ⟨m,hn,hl⟩:=id I.loc;have hcls:(X.env.scope.kind == .class || (X.env.scope.kind == .module && X.env.locals != X.env.globals))=false:=by rw [I.ok.kind];rfl
 have hiσ:i<σ.length:=by rw [I.len];exact (VA.mp hi).1
 have qZ:=I.qZ;have tracked:∀{a:Addr} {h':Heap},(∃o,s.heap.get? a=some o/\H a=none)->Heap.SameBut a s.heap h'->iO X.prog X.w H h':=fun {a h'} ha hs b ob e=>by
  obtain ⟨_,_,hfree⟩:=ha;refine (I.hok b ob e).stay (fun c w' hc q=>(hs.2 c ?_).trans q) (fun _ q=>q) fun _ _ q=>q;rintro rfl;rcases hc with rfl|hc
  ·rw [hfree] at e;cases e
  ·rw [hfree] at hc;cases hc
 rcases hx with hk|hk
 ·refine wpAny_storeName_local hk hn (fun h' hn' hs=>?_) hcls
  obtain ⟨oL,_,_,Nv,_⟩:=id hn;refine h _ ⟨I.ok,I.os,I.bare,⟨fun b o e n hb hx=>?_,fun b o e n hb hx=>?_,I.base.free,fun b o e hx=>?_,I.base.tups,I.base.l8,I.base.mW⟩,⟨_,hn',fun j y v' e1 e2 e3=>?_⟩,fun y c e=>?_,I.free,I.eQ,fun p hp=>?_,tracked ⟨oL,Nv,I.free⟩ hs,by simpa using I.len⟩ ⟨_,hs,.inl rfl⟩
  ·exact (hs.2 b (Wb (V5 (VT e) I.ok.above))).trans (I.base.keep b o e n hb hx)
  ·obtain ⟨sl,e1⟩:=I.base.slot b o e n hb hx
   exact ⟨sl,(hs.2 b (Wb (V5 (VT e) I.ok.above))).trans e1⟩
  ·obtain ⟨o',e1⟩:=I.base.there b o e hx
   exact ⟨o',(hs.2 b (Wb (V5 (VT e) I.ok.above))).trans e1⟩
  ·by_cases hj:j=i
   ·subst hj
    rw [hi] at e1;cases e1;rw [VG hiσ] at e2;cases e2;exact ⟨u,r,.inl ⟨hk,by simp⟩⟩
   ·rw [VF (Ne.symm hj)] at e2
    obtain ⟨u',r',q⟩:=hl j y v' e1 e2 e3;refine ⟨u',r',?_⟩;rcases q with ⟨k,e⟩|⟨k,c,e,z⟩
    ·refine .inl ⟨k,?_⟩
     have:y≠x:=fun e=>hj (Gr hN e1 (e ▸ hi));simp [this,e]
    ·exact .inr ⟨k,c,e,z.sameBut hs (qZ y c e)⟩
  ·obtain ⟨w',z⟩:=I.cell y c e
   exact ⟨w',z.sameBut hs (qZ y c e)⟩
  ·obtain ⟨e,n,ne,nf,d⟩:=I.pin p hp
   exact ⟨(hs.2 p.1 ne).trans e,n,ne,nf,d⟩
 ·have hfn:X.fn x=true:=by
   rcases hf with z|z
   ·exact z
   ·rw [z] at hk;cases hk
  obtain ⟨c,hc⟩:=I.ok.has x (.inl hk);obtain ⟨w',z⟩:=I.cell x c hc;refine wpAny_storeName_cell I.ok.kind hk hc z (fun h' hc' hs=>?_);obtain ⟨oc,hoc,Gs⟩:=id z;refine h { s with heap:=h' } ⟨I.ok,I.os,I.bare,⟨fun b o e n hb hx=>?_,fun b o e n hb hx=>?_,I.base.free,fun b o e hx=>?_,I.base.tups,I.base.l8,I.base.mW⟩,⟨m,hn.sameBut hs (Ne.symm (qZ x c hc)),fun j y v' e1 e2 e3=>?_⟩,fun y c' e=>?_,I.free,I.eQ,fun p hp=>?_,tracked ⟨oc,hoc,I.eQ x c hc⟩ hs,by simpa using I.len⟩ ⟨c,hs,.inr hc⟩
  ·exact (hs.2 b (Wb (V5 (VT e) (I.ok.uT x c hfn hc)))).trans (I.base.keep b o e n hb hx)
  ·obtain ⟨sl,e1⟩:=I.base.slot b o e n hb hx
   exact ⟨sl,(hs.2 b (Wb (V5 (VT e) (I.ok.uT x c hfn hc)))).trans e1⟩
  ·obtain ⟨o',e1⟩:=I.base.there b o e hx
   exact ⟨o',(hs.2 b (Wb (V5 (VT e) (I.ok.uT x c hfn hc)))).trans e1⟩
  ·by_cases hj:j=i
   ·subst hj
    rw [hi] at e1;cases e1;rw [VG hiσ] at e2;cases e2;exact ⟨u,r,.inr ⟨.inl hk,c,hc,hc'⟩⟩
   ·rw [VF (Ne.symm hj)] at e2
    obtain ⟨u',r',q⟩:=hl j y v' e1 e2 e3;refine ⟨u',r',?_⟩;rcases q with q|⟨k,c',e,z'⟩
    ·exact .inl q
    ·refine .inr ⟨k,c',e,z'.sameBut hs ?_⟩
     rintro rfl;exact hj (Gr hN e1 (I.ok.inj _ _ _ e hc ▸ hi))
  ·by_cases hcc:c'=c
   ·subst hcc;exact ⟨_,hc'⟩
   ·obtain ⟨w2,z2⟩:=I.cell y c' e
    exact ⟨w2,z2.sameBut hs hcc⟩
  ·obtain ⟨e,n,ne,nf,d⟩:=I.pin p hp
   refine ⟨(hs.2 p.1 ?_).trans e,n,ne,nf,d⟩;intro q;rw [q,hoc] at e;have q':oc=p.2:=VJ e;exact d w' (by rw [<- q'];exact Gs)
theorem AF{M:Model}{A:Around}{E:Value->Shared->Prop}{i:Nat}{x:Str}{v:V}{u:Value}{Q:Unit->Shared->Prop}(I:Inv X pins σ H s)(hN:X.N.Nodup)(hi:X.N[i]?=some x)(hx:Loc X.env.scope x)(r:RelV v u)
  (h:∀s',Inv X pins (σ.set i (some v)) H s'->Q () s') (hf:X.fn x=true\/X.env.scope.names.lookup x=some .local:=by first|exact .inl rfl|exact .inr rfl|assumption):wpAny M A (storeName X.env x u) Q E s :=
 Jo I hN hi hx r (fun s' I' _=>h s' I') hf
theorem Inv.rg{s':Shared}{ch:List Addr}(I:Inv X pins σ H s)(ho:s'.os=s.os)(u:Un (frs X.stack) ch H H' s.heap s'.heap)(hok:iO X.prog X.w H' s'.heap)(hg:AllBare s'.gens)
  (hch:∀b∈ch,(b∈X.ex\/X.s₀.heap.objs.size<=b)/\b≠X.env.locals/\(∀x c,X.env.cells.lookup x=some c->c≠b)/\∀p∈X.pn ++ pins,p.1≠b):Inv X pins σ H' s':=by
 obtain ⟨h',g',d',t',o'⟩:=s';have e:o'=s.os:=ho;subst e;exact I.call (g':=g') (t':=t') (d':=d') u hok hg hch
end
abbrev XK:=Value->Option Addr->Hp->Prop
abbrev St:=List (Option V)
abbrev VK:=V->Hp->Prop
abbrev TE:=St->Hp->VK->Prop
abbrev TT:=St->Hp->(Bool->Hp->Prop)->Prop
abbrev TA:=St->Hp->(List V->Hp->Prop)->Prop
set_option genInjectivity false in
structure Ends where
 nx:St->Hp->Prop
 rt:VK
 bk:St->Hp->Prop:=fun _ _=>False
 ct:St->Hp->Prop:=fun _ _=>False
abbrev TS:=Ends->St->Hp->Prop
def EP(X:Cx)(pins:List (Addr×Obj))(σ:St)(Q:VK)(u:Value)(s':Shared):Prop:=∃v H',Inv X pins σ H' s'/\RelV v u/\Q v H'
def TP(X:Cx)(pins:List (Addr×Obj))(σ:St)(Q:Bool->Hp->Prop)(b:Bool)(s':Shared):Prop:=∃H',Inv X pins σ H' s'/\Q b H'
def AP(X:Cx)(pins:List (Addr×Obj))(σ:St)(Q:List V->Hp->Prop)(us:List Value)(s':Shared):Prop:=∃vs H',Inv X pins σ H' s'/\Vals vs us/\Q vs H'
def SP(X:Cx)(pins:List (Addr×Obj))(D:Ends)(f:Flow)(s':Shared):Prop :=
 match f with
 |.next=>∃σ' H',Inv X pins σ' H' s'/\D.nx σ' H'
 |.brk=>∃σ' H',Inv X pins σ' H' s'/\D.bk σ' H'
 |.cont=>∃σ' H',Inv X pins σ' H' s'/\D.ct σ' H'
 |.ret u=>∃v σ' H',Inv X pins σ' H' s'/\RelV v u/\D.rt v H'
def PE(X:Cx)(e:Expr)(t:TE):Prop :=
 ∀(pins:List (Addr×Obj)) (s:Shared) (σ:St) (H:Hp) (Q:VK),Inv X pins σ H s->t σ H Q->wpAny (model X.prog X.w) X.A (eval e X.env) (EP X pins σ Q) X.xe s
def PT(X:Cx)(e:Expr)(t:TT):Prop :=
 ∀(pins:List (Addr×Obj)) (s:Shared) (σ:St) (H:Hp) (Q:Bool->Hp->Prop),Inv X pins σ H s->t σ H Q->wpAny (model X.prog X.w) X.A (isTrue e X.env (eval e X.env)) (TP X pins σ Q) X.xe s
def PW(X:Cx)(e:Expr)(t:TT):Prop :=
 ∀(whole:Sem Value) (pins:List (Addr×Obj)) (s:Shared) (σ:St) (H:Hp) (Q:Bool->Hp->Prop),Inv X pins σ H s->t σ H Q->wpAny (model X.prog X.w) X.A (isTrue e X.env whole) (TP X pins σ Q) X.xe s
theorem PW.pt{X:Cx}{e:Expr}{t:TT}(h:PW X e t):PT X e t:=h _
def PA(X:Cx)(es:List Expr)(t:TA):Prop :=
 ∀(pos:Pos) (pins:List (Addr×Obj)) (s:Shared) (σ:St) (H:Hp) (Q:List V->Hp->Prop),Inv X pins σ H s->t σ H Q->wpAny (model X.prog X.w) X.A (spliced (backTo pos (starEach es X.env))) (AP X pins σ Q) X.xe s
def PS(X:Cx)(st:Stmt)(t:TS):Prop :=
 ∀(pins:List (Addr×Obj)) (s:Shared) (σ:St) (H:Hp) (D:Ends),Inv X pins σ H s->t D σ H->wpAny (model X.prog X.w) X.A (exec st X.env) (SP X pins D) X.xe s
def oZ(X:Cx)(st:List Stmt)(t:TS):Prop :=
 ∀(pins:List (Addr×Obj)) (s:Shared) (σ:St) (H:Hp) (D:Ends),Inv X pins σ H s->t D σ H->wpAny (model X.prog X.w) X.A (execs st X.env) (SP X pins D) X.xe s
theorem cj{α:Type}{t:Sem α}{Q Q':α->Shared->Prop}{M:Model}{A:Around}{E:Value->Shared->Prop}{s:Shared}(h:wpAny M A t Q E s)(hQ:∀a s,Q a s->Q' a s):wpAny M A t Q' E s:=wpAny_mono h hQ fun _ _ x=>x
section
variable {X:Cx}
def rh(i:Nat):TE:=fun σ H Q=>∃v,σ[i]?=some (some v)/\Q v H
def tC(v:V):TE:=fun _ H Q=>Q v H
theorem wJ{i:Nat}{x:Str}{pos:Pos}(hN:X.N[i]?=some x)(hv:Gm X.env.scope x)(hd:(x == ("__debug__" : Str))=false:=by decide)(hcd:(x == ("__classdict__" : Str))=false:=by decide):PE X (.Name x pos) (rh i):=by
 intro pins s σ H Q I h;obtain ⟨v,e,h⟩:=h;obtain ⟨m,hn,hl⟩:=I.loc;obtain ⟨u,r,l⟩:=hl i x v hN e hv;have fin:EP X pins σ Q u s:=⟨v,H,I,r,h⟩;rcases l with ⟨hk,hm⟩|⟨hk,c,hc,hcell⟩
 ·exact wpAny_Name (wpAny_loadName_local I.ok.kind hk hn hm fin) hd
 ·rcases hk with hk|hk
  ·exact wpAny_Name (wpAny_loadName_cell I.ok.kind hk hc hcell fin) hd
  ·exact wpAny_Name (wpAny_loadName_free I.ok.kind hk hc hcell fin hcd) hd
theorem aT{i j pos}:PE X (.Constant (.int i) j pos) (tC (.int i)):=fun _ _ _ H _ I h=>wpAny_Constant_int ⟨.int i,H,I.tok _,⟨_,rfl⟩,h⟩
theorem uU{b j pos}:PE X (.Constant (.bool b) j pos) (tC (.bl b)):=fun _ _ _ H _ I h=>Constant_bool ⟨.bl b,H,I,rfl,h⟩
theorem AG{j pos}:PE X (.Constant .none j pos) (tC .non):=fun _ _ _ H _ I h=>Constant_none ⟨.non,H,I,rfl,h⟩
theorem qL{x j pos}:PE X (.Constant (.str x) j pos) (tC (.str x)):=fun _ _ _ H _ I h=>Calls.Constant_str ⟨.str x,H,I.tok _,⟨_,rfl⟩,h⟩
def Gl(X:Cx)(x:Str):Prop:=X.env.kindOf x=some .globalImplicit
theorem zC{E:Value->Shared->Prop}{pins:List (Addr×Obj)}{s:Shared}{σ:St}{H:Hp}{x:Str}{u:Value}{pos:Pos}{Q:Value->Shared->Prop}(I:Inv X pins σ H s)(hg:Gl X x)(hm:X.mg x=some u)(h:Q u s)
  (hd:(x == ("__debug__" : Str))=false:=by decide):wpAny (model X.prog X.w) X.A (eval (.Name x pos) X.env) Q E s :=
 Calls.Name_function_global I.ok.kind hg (Calls.loadGlobal_global (by rw [I.ok.glob];exact I.mod.glob.keeps I.bk) hm h) hd
theorem zD{E:Value->Shared->Prop}{pins:List (Addr×Obj)}{s:Shared}{σ:St}{H:Hp}{x:Str}{u:Value}{pos:Pos}{Q:Value->Shared->Prop}(I:Inv X pins σ H s)(hg:Gl X x)(hm:X.mg x=none)(hv:bootBuiltins x=some u)(h:Q u s)
  (hn:x≠"__name__" := by decide) (hd:(x == ("__debug__" : Str))=false:=by decide):wpAny (model X.prog X.w) X.A (eval (.Name x pos) X.env) Q E s:=by
 obtain ⟨mb,h1,h2⟩:=I.mod.blt;exact Calls.Name_function_global I.ok.kind hg (Calls.loadGlobal_builtin (by rw [I.ok.glob];exact I.mod.glob.keeps I.bk) hm (by rw [I.ok.blt];exact h1.keeps I.bk) ((h2 x hn).trans hv) h) hd
theorem Jp{x:Str}{v:V}{u:Value}{pos:Pos}(hg:Gl X x)(hm:X.mg x=some u)(r:RelV v u)(hd:(x == ("__debug__" : Str))=false:=by decide):PE X (.Name x pos) (tC v) :=
 fun _ _ _ H _ I h=>zC I hg hm ⟨v,H,I,r,h⟩ hd
theorem Nw{x:Str}{v:V}{u:Value}{pos:Pos}(hg:Gl X x)(hm:X.mg x=none)(hv:bootBuiltins x=some u)(r:RelV v u)(hn:x≠"__name__" := by decide)(hd:(x == ("__debug__" : Str))=false:=by decide):PE X (.Name x pos) (tC v) :=
 fun _ _ _ H _ I h=>zD I hg hm hv ⟨v,H,I,r,h⟩ hn hd
variable {a b:Expr}{ta tb:TE}{pos:Pos}
def PC(X:Cx)(op:CmpOp)(a b:Expr)(t:TE):Prop :=
 ∀(pins:List (Addr×Obj)) (s:Shared) (σ:St) (H:Hp) (Q:VK),Inv X pins σ H s->t σ H Q ->
  wpAny (model X.prog X.w) X.A (eval a X.env) (fun v s₁=>wpAny (model X.prog X.w) X.A (eval b X.env) (fun u s₂=>wpAny (model X.prog X.w) X.A (compareOp op v u) (EP X pins σ Q) X.xe s₂) X.xe s₁) X.xe s
theorem rj(b:Expr){op:CmpOp}(h:op≠.In)(h2:op≠.NotIn):behindInMarks op b=false:=by
 have e1:(op == CmpOp.In)=false:=by cases op<;>first|rfl|exact absurd rfl h
 have e2:(op == CmpOp.NotIn)=false:=by cases op<;>first|rfl|exact absurd rfl h2
 cases b<;>simp [behindInMarks,e1,e2]
def tB(t:TE):TT:=fun σ H Q=>t σ H fun x H1=>∃c,x=.bl c/\Q c H1
theorem wK{op:CmpOp}{t:TE}(h:PC X op a b t)(h1:behindInMarks op b=false:=by first|exact rj _ (by decide) (by decide)|rfl):PT X (.Compare a [op] [b] pos) (tB t):=by
 intro pins s σ H Q I hw;refine wpAny_isTrue_Compare1 (cj (h pins s σ H _ I hw) fun v s1 h1=>cj h1 fun u s2 h2=>cj h2 fun c s3 ⟨x,H1,I1,r1,q1⟩=>?_) h1;obtain ⟨d,rfl,q⟩:=q1;cases r1;exact wpAny_truthy_bool ⟨H1,I1,q⟩
theorem Gu{e:Expr}{t:TE}(h:PE X e t)(he:∀whole,isTrue e X.env whole=(do let v <- whole;standAt e.pos;holding [v] (truthy v)):=by intro _;rfl):PT X e (tB t):=by
 intro pins s σ H Q I hw;refine isTrue_plain (cj (h pins s σ H _ I hw) fun v s1 ⟨x,H1,I1,r1,q1⟩=>?_) (he _);obtain ⟨d,rfl,q⟩:=q1;cases r1;exact wpAny_truthy_bool ⟨H1,I1,q⟩
variable {tA Jq:TT}{rest:List Expr}
def AH(t u:TT):TT:=fun σ H Q=>t σ H fun c H1=>if c=true then u σ H1 Q else Q false H1
def AI(t:TT):TT:=fun σ H Q=>t σ H fun c H1=>Q (!c) H1
theorem El(ha:PT X a tA):PW X (.BoolOp .And [a] pos) tA:=by
 intro wh pins s σ H Q I h;refine isTrue_and (cj (ha pins s σ H Q I h) fun c s1 e=>?_);cases c with
 |true=>exact isTrue_and_nil e
 |false=>exact e
theorem AJ(ha:PT X a tA)(hb:PW X (.BoolOp .And (b :: rest) pos) Jq):PW X (.BoolOp .And (a :: b :: rest) pos) (AH tA Jq):=by
 intro wh pins s σ H Q I h;refine isTrue_and (cj (ha pins s σ H _ I h) fun c s1 ⟨H1,I1,q1⟩=>?_);cases c with
 |true=>exact hb wh pins s1 σ H1 Q I1 q1
 |false=>exact ⟨H1,I1,q1⟩
theorem wL(ha:PT X a tA):PT X (.UnaryOp .Not a pos) (AI tA):=by
 intro pins s σ H Q I h;exact isTrue_not (ha pins s σ H (fun c H1=>Q (!c) H1) I h)
def AK(ta tb:TE):TE:=fun σ H Q=>ta σ H fun x H1=>∃c,x=.bl c/\if c=true then Q (.bl true) H1 else tb σ H1 Q
theorem Gv{op}{t:TE}(h:PE X a t):PE X (.BoolOp op [a] pos) t:=fun pins s σ H Q I hw=>BoolOp_one (h pins s σ H Q I hw)
theorem AL(ha:PE X a ta)(hb:PE X (.BoolOp .Or (b :: rest) pos) tb):PE X (.BoolOp .Or (a :: b :: rest) pos) (AK ta tb):=by
 intro pins s σ H Q I h;refine BoolOp_or (cj (ha pins s σ H _ I h) fun v s1 ⟨x,H1,I1,r1,q1⟩=>?_);obtain ⟨c,rfl,q1⟩:=q1;cases r1;refine wpAny_truthy_bool ?_;cases c with
 |false=>exact hb pins s1 σ H1 Q I1 q1
 |true=>exact ⟨.bl true,H1,I1,rfl,q1⟩
end
def jC(K:Zfr)(H:Hp)(a:Addr)(xs:List V):Prop :=
 Rd H a (.lst xs) \/
  ∃(o:Obj) (its:Array Value) (n:Nat),K.lookup a=some o/\o.cls=.type "list" /\ o.dict=none/\o.data=.seq its n/\its.size<=sizeLine/\Vals xs its.toList
def eu(K:Zfr)(H:Hp)(a:Addr)(xs:List V):Prop :=
 Rd H a (.tup xs) \/
  ∃(o:Obj) (its:Array Value) (n:Nat),K.lookup a=some o/\o.cls=.type "tuple" /\ o.dict=none/\o.data=.seq its n/\its.size<=sizeLine/\Vals xs its.toList
def Gw:Value->Option V
 |.none=>some .non
 |.bool b=>some (.bl b)
 |.int i _=>some (.int i)
 |.str x _=>some (.str x)
 |.bytes b _=>some (.qJ b)
 |.float b _=>some (.Ei b)
 |.ref a=>some (.ref a)
 |.type n=>some (.ty n)
 |_=>none
theorem RelV.abs{x:V}{u:Value}(r:RelV x u):Gw u=some x:=by
 cases x with
 |non=>cases r;rfl
 |bl _=>cases r;rfl
 |int _=>obtain ⟨t,rfl⟩:=r;rfl
 |str _=>obtain ⟨t,rfl⟩:=r;rfl
 |qJ _=>obtain ⟨t,rfl⟩:=r;rfl
 |Ei _=>obtain ⟨t,rfl⟩:=r;rfl
 |ref _=>cases r;rfl
 |ty _=>cases r;rfl
theorem RelV.inj{x y:V}{u:Value}(r:RelV x u)(q:RelV y u):x=y:=VJ (r.abs.symm.trans q.abs)
theorem Vals.inj:∀{xs ys:List V} {us:List Value},Vals xs us->Vals ys us->xs=ys
 |_,_,_,.nil,.nil=>rfl
 |_,_,_,.cons r t,.cons r' t'=>by rw [r.inj r',Vals.inj t t']
section
variable {X:Cx}{pins:List (Addr×Obj)}{σ:St}{H:Hp}{s:Shared}{a:Addr}{xs ys:List V}
theorem eu.of{K:Zfr}(h:H a=some (.tup xs)):eu K H a xs:=.inl (.inl h)
theorem Inv.list(I:Inv X pins σ H s)(h:jC X.K H a xs):∃its:List Value,Vals xs its/\PlainL s.heap a its.toArray/\xs.length<=sizeLine:=by
 rcases h with h|⟨o,its,n,hk,hc,hd,hs,hz,r⟩
 ·obtain ⟨z,its,n,r,e⟩:=h.ok I.hok
  exact ⟨its,r,⟨_,n,e,rfl,rfl,rfl⟩,z⟩
 ·refine ⟨its.toList,r,⟨o,n,I.mY a o hk,hc,hd,by simpa using hs⟩,?_⟩
  have e:=r.length;simp only [Array.length_toList] at e;omega
theorem Inv.o8(I:Inv X pins σ H s)(h:eu X.K H a xs):∃its:List Value,Vals xs its/\mV s.heap a its.toArray/\xs.length<=sizeLine:=by
 rcases h with h|⟨o,its,n,hk,hc,hd0,hs,hz,r⟩
 ·obtain ⟨z,its,r,p⟩:=h.ok I.hok
  exact ⟨its,r,p,z⟩
 ·refine ⟨its.toList,r,⟨o,I.mY a o hk,hc,hd0,n,by simpa using hs⟩,?_⟩
  have e:=r.length;simp only [Array.length_toList] at e;omega
theorem Inv.tuple(I:Inv X pins σ H s)(h:eu X.K H a xs):∃its:List Value,Vals xs its/\IsTup s.heap a its.toArray/\xs.length<=sizeLine :=
 let ⟨its,r,p,z⟩:=I.o8 h
 ⟨its,r,p.tup,z⟩
theorem Inv.rl(I:Inv X pins σ H s)(h:jC X.K H a xs)(h':jC X.K H a ys):xs=ys:=by
 obtain ⟨its,r,⟨o,n,e,_,_,d⟩,_⟩:=I.list h;obtain ⟨its',r',⟨o',n',e',_,_,d'⟩,_⟩:=I.list h';rw [e] at e';cases e';rw [d] at d';injection d' with d1 _;have:its=its':=by simpa using congrArg Array.toList d1
 subst this;exact r.inj r'
theorem Inv.mD(I:Inv X pins σ H s)(h:eu X.K H a xs)(h':eu X.K H a ys):xs=ys:=by
 obtain ⟨its,r,⟨o,e,_,n,d⟩,_⟩:=I.tuple h;obtain ⟨its',r',⟨o',e',_,n',d'⟩,_⟩:=I.tuple h';rw [e] at e';cases e';rw [d] at d';injection d' with d1 _;have:its=its':=by simpa using congrArg Array.toList d1
 subst this;exact r.inj r'
end
abbrev Cx.wish(X:Cx)(E:Value->Shared->Prop):Cx:={ X with xe:=E }
abbrev Cx.o3(X:Cx):Cx:=X.wish fun _ _=>False
theorem Cx.Ok.wish{X:Cx}(ok:X.Ok)(E:Value->Shared->Prop):(X.wish E).Ok :=
 ⟨ok.mod,ok.kind,ok.glob,ok.blt,ok.above,ok.inj,ok.has,ok.uT,ok.hd,ok.frames,ok.stk,ok.Az,ok.bs,ok.qK,ok.og,ok.o7,ok.jR,ok.sX⟩
theorem Cx.Ok.iT{X:Cx}{E:Value->Shared->Prop}(ok:(X.wish E).Ok):X.Ok :=
 ⟨ok.mod,ok.kind,ok.glob,ok.blt,ok.above,ok.inj,ok.has,ok.uT,ok.hd,ok.frames,ok.stk,ok.Az,ok.bs,ok.qK,ok.og,ok.o7,ok.jR,ok.sX⟩
section
variable {X:Cx}{pins:List (Addr×Obj)}{σ:St}{H:Hp}{s:Shared}{E:Value->Shared->Prop}
theorem Inv.wish(I:Inv X pins σ H s)(E:Value->Shared->Prop):Inv (X.wish E) pins σ H s:=⟨I.ok.wish E,I.os,I.bare,I.base,I.loc,I.cell,I.free,I.eQ,I.pin,I.hok,I.len⟩
theorem Inv.iT(I:Inv (X.wish E) pins σ H s):Inv X pins σ H s:=⟨I.ok.iT,I.os,I.bare,I.base,I.loc,I.cell,I.free,I.eQ,I.pin,I.hok,I.len⟩
theorem SP.iT{D:Ends}{f:Flow}{s':Shared}(h:SP (X.wish E) pins D f s'):SP X pins D f s':=by
 cases f with
 |next=>obtain ⟨σ',H',I,q⟩:=h;exact ⟨σ',H',I.iT,q⟩
 |brk=>obtain ⟨σ',H',I,q⟩:=h;exact ⟨σ',H',I.iT,q⟩
 |cont=>obtain ⟨σ',H',I,q⟩:=h;exact ⟨σ',H',I.iT,q⟩
 |ret u=>obtain ⟨v,σ',H',I,r,q⟩:=h;exact ⟨v,σ',H',I.iT,r,q⟩
theorem oZ.o3{st:List Stmt}{t:TS}(h:oZ X.o3 st t):oZ X st t:=fun pins s σ H D I hw =>
 wpAny_mono (h pins s σ H D (I.wish _) hw) (fun _ _ q=>q.iT) fun _ _ z=>False.elim z
end
section
variable {X:Cx}{st:Stmt}{rest:List Stmt}{t u:TS}{e:Expr}{te:TE}{pos:Pos}
def uV:TS:=fun D σ H=>D.nx σ H
def wM(t u:TS):TS:=fun D σ H=>t { D with nx:=u D } σ H
theorem kC:oZ X [] uV:=fun _ _ σ H _ I h=>wpAny_execs_nil ⟨σ,H,I,h⟩
theorem bg(h1:PS X st t)(h2:oZ X rest u):oZ X (st :: rest) (wM t u):=by
 intro pins s σ H D I h;refine wpAny_execs_cons (cj (h1 pins s σ H { D with nx:=u D } I h) fun f s1 q=>?_);cases f with
 |next =>
  obtain ⟨σ',H',I',q⟩:=q;exact h2 pins s1 σ' H' D I' q
 |ret v=>exact q
 |brk=>exact q
 |cont=>exact q
theorem bz(h1:PS X st t):oZ X [st] t:=by
 intro pins s σ H D I h;refine wpAny_execs_cons (cj (h1 pins s σ H D I h) fun f s1 q=>?_);cases f with
 |next=>exact wpAny_execs_nil q
 |ret v=>exact q
 |brk=>exact q
 |cont=>exact q
theorem Inv.quiet{pins:List (Addr×Obj)}{σ:St}{H:Hp}{s:Shared}(I:Inv X pins σ H s):interactive X.env=false:=by simp [interactive,I.ok.kind]
def uW(te:TE):TS:=fun D σ H=>te σ H fun _ H1=>D.nx σ H1
theorem o9(he:PE X e te)(hs:swapsWith e none pos.line X.env=pure false:=by rfl):PS X (.Expr e pos) (uW te):=by
 intro pins s σ H D I h;exact wpAny_Expr_any (cj (he pins s σ H _ I h) fun v s1 ⟨x,H1,I1,r1,q1⟩=>⟨σ,H1,I1,q1⟩) I.quiet hs
def AO(te:TE):TS:=fun D σ H=>te σ H D.rt
theorem gS(he:PE X e te):PS X (.Return (some e) pos) (AO te):=by
 intro pins s σ H D I h;exact wpAny_Return_some (cj (he pins s σ H _ I h) fun v s1 ⟨x,H1,I1,r1,q1⟩=>⟨x,σ,H1,I1,r1,q1⟩)
def tU(c:TT)(t u:TS):TS:=fun D σ H=>c σ H fun b H1=>if b=true then t D σ H1 else u D σ H1
theorem jS{c:Expr}{a b:List Stmt}{tc:TT}(hc:PT X c tc)(ha:oZ X a t)(hb:oZ X b u):PS X (.If c a b pos) (tU tc t u):=by
 intro pins s σ H D I h;refine wpAny_If (cj (hc pins s σ H _ I h) fun d s1 ⟨H1,I1,q1⟩=>?_);cases d with
 |true=>exact ha pins s1 σ H1 D I1 q1
 |false=>exact hb pins s1 σ H1 D I1 q1
end
abbrev TG:=V->St->Hp->(St->Hp->Prop)->Prop
abbrev sY:=List V->St->Hp->(St->Hp->Prop)->Prop
def PG(X:Cx)(target:Expr)(t:TG):Prop :=
 ∀(pins:List (Addr×Obj)) (s:Shared) (σ:St) (H:Hp) (v:V) (u:Value) (Q:St->Hp->Prop),Inv X pins σ H s->RelV v u->t v σ H Q ->
  wpAny (model X.prog X.w) X.A (assign target X.env u) (fun _ s'=>∃σ' H',Inv X pins σ' H' s'/\Q σ' H') X.xe s
def Em(X:Cx)(ts:List Expr)(t:sY):Prop :=
 ∀(pins:List (Addr×Obj)) (s:Shared) (σ:St) (H:Hp) (vs:List V) (us:List Value) (Q:St->Hp->Prop),Inv X pins σ H s->Vals vs us->t vs σ H Q ->
  wpAny (model X.prog X.w) X.A (assignInOrder ((assignEach ts X.env).map (·.2)) us) (fun _ s'=>∃σ' H',Inv X pins σ' H' s'/\Q σ' H') X.xe s
abbrev wN:=V->V->V->Hp->(Hp->Prop)->Prop
def AQ(X:Cx)(t:wN):Prop :=
 ∀(pins:List (Addr×Obj)) (s:Shared) (σ:St) (H:Hp) (o i v:V) (ov iv u:Value) (Q:Hp->Prop),Inv X pins σ H s->RelV o ov->RelV i iv->RelV v u->t o i v H Q ->
  wpAny (model X.prog X.w) X.A (setItem ov iv u) (fun _ s'=>∃H',Inv X pins σ H' s'/\Q H') X.xe s
section
variable {X:Cx}{pos:Pos}
def lD(i:Nat):TG:=fun v σ H Q=>Q (σ.set i (some v)) H
theorem eU{i:Nat}{x:Str}(hN:X.N.Nodup)(hi:X.N[i]?=some x)(hx:Loc X.env.scope x)(hf:X.fn x=true\/X.env.scope.names.lookup x=some .local:=by first|exact .inl rfl|exact .inr rfl|assumption):PG X (.Name x pos) (lD i):=by
 intro pins s σ H v u Q I r h;exact wpAny_assign_Name (AF I hN hi hx r (fun s' I'=>⟨_,H,I',h⟩) hf)
def AR:sY:=fun vs σ H Q=>vs=[]/\Q σ H
def uX(t:TG)(u:sY):sY:=fun vs σ H Q=>∃v r,vs=v :: r/\t v σ H fun σ' H'=>u r σ' H' Q
theorem uY:Em X [] AR:=by
 intro pins s σ H vs us Q I r h;obtain ⟨e,h⟩:=h;subst e;cases r;exact assignInOrder_nil ⟨σ,H,I,h⟩
theorem mE{e:Expr}{es:List Expr}{t:TG}{u:sY}(h1:PG X e t)(h2:Em X es u)
  (hs:(assignEach (e :: es) X.env).map (·.2)=assign e X.env :: (assignEach es X.env).map (·.2):=by rfl):Em X (e :: es) (uX t u):=by
 intro pins s σ H vs us Q I r h;obtain ⟨v,vr,e1,h⟩:=h;subst e1;cases r with
 |cons r rr =>
  rw [hs];refine assignInOrder_cons (cj (h1 pins s σ H _ _ _ I r h) fun _ s1 ⟨σ1,H1,I1,q1⟩=>?_);exact h2 pins s1 σ1 H1 _ _ Q I1 rr q1
def AU(K:Zfr)(n:Nat)(t:sY):TG:=fun v σ H Q=>∃a xs,v=.ref a/\eu K H a xs/\xs.length=n/\t xs σ H Q
theorem uZ{es:List Expr}{k:Nat}{t:sY}{n:Nat}(hc:X.calm=true)(h:Em X es t)
  (hn:(assignEach es X.env).length=n:=by rfl) (hst:(assignEach es X.env).findIdx? (·.1)=none:=by rfl):PG X (.Tuple es k pos) (AU X.K n t):=by
 intro pins s σ H v u Q I r hw;obtain ⟨a,xs,e1,hq,hl,hw⟩:=hw;subst e1;cases r;obtain ⟨its,rv,ht,hz⟩:=I.tuple hq;refine assign_Tuple_tuple (I.ok.hd hc) ht (by simp [hn,<- hl,rv.length]) hst fun h' hx=>?_;have I1:Inv X pins σ H { s with heap:=h' }:=I.kept (t':=s.toks) fun b o e=>hx b o (Wb (VT e)) e;exact h pins _ σ H xs _ Q I1 (by simpa using rv) hw
def oh(to ti:TE)(t:wN):TG:=fun v σ H Q=>to σ H fun o H1=>ti σ H1 fun i H2=>t o i v H2 fun H3=>Q σ H3
theorem zE{o i:Expr}{to ti:TE}{t:wN}(ho:PE X o to)(hi:PE X i ti)(hs:AQ X t)
  (ha:∀v,assign (.Subscript o i pos) X.env v=(do
   let ov <- holding [v] (eval o X.env)
   let iv <- holding [v,ov] (eval i X.env)
   standAt pos
   holding [v,ov,iv] (setItem ov iv v)
   release [v,ov,iv] []):=by intro _;rfl):PG X (.Subscript o i pos) (oh to ti t):=by
 intro pins s σ H v u Q I r h;rw [ha];refine wpAny_bind (wpAny_holding (cj (ho pins s σ H _ I h) fun ov s1 ⟨x,H1,I1,r1,q1⟩=>?_));refine wpAny_bind (wpAny_holding (cj (hi pins s1 σ H1 _ I1 q1) fun iv s2 ⟨y,H2,I2,r2,q2⟩=>?_));refine wpAny_bind (wpAny_standAt (wpAny_bind (wpAny_holding (cj (hs pins s2 σ H2 x y v ov iv u _ I2 r1 r2 r q2) fun _ s3 ⟨H3,I3,q3⟩=>?_))));exact wpAny_release ⟨σ,H3,I3,q3⟩
def qj(te:TE)(g:TG):TS:=fun D σ H=>te σ H fun x H1=>g x σ H1 D.nx
theorem u3{tg e:Expr}{te:TE}{g:TG}(he:PE X e te)(hg:PG X tg g)(hs:swapsWithSole [tg] e pos.line X.env=pure false:=by rfl)(hw:swappedStores [tg] e X.env=pure none:=by rfl)
  (h1:(assignEach [tg] X.env).map (·.2)=[assign tg X.env]:=by rfl):PS X (.Assign [tg] e pos) (qj te g):=by
 intro pins s σ H D I h;refine wpAny_Assign_stores (cj (he pins s σ H _ I h) fun v s1 ⟨x,H1,I1,r1,q1⟩=>?_) hs hw;rw [h1];exact cj (hg pins s1 σ H1 x v _ I1 r1 q1) fun _ s2 q=>q
theorem b9{i:Nat}{x:Str}{e:Expr}{te:TE}{pos':Pos}(hN:X.N.Nodup)(hi:X.N[i]?=some x)(hx:Loc X.env.scope x)(he:PE X e te)(hs:swapsWith e (some (.Name x pos')) pos.line X.env=pure false:=by rfl)(hf:X.fn x=true\/X.env.scope.names.lookup x=some .local:=by first | exact .inl rfl | exact .inr rfl | assumption):
  PS X (.Assign [.Name x pos'] e pos) (qj te (lD i)):=by
 intro pins s σ H D I h;refine wpAny_Assign_Name (cj (he pins s σ H _ I h) fun v s1 ⟨y,H1,I1,r1,q1⟩=>?_) hs;exact AF I1 hN hi hx r1 (fun s2 I2=>⟨_,H1,I2,q1⟩) hf
def AV(i j:Nat)(ta:TA):TS:=fun D σ H=>ta σ H fun vs H1=>∃v w,vs=[v,w]/\D.nx ((σ.set i (some v)).set j (some w)) H1
theorem Jr{i j:Nat}{x y:Str}{a b:Expr}{ta:TA}{px py pt:Pos}{kt k2 Gx}(hc:X.calm=true)(hN:X.N.Nodup)(hi:X.N[i]?=some x)(hj:X.N[j]?=some y)(hij:i≠j)
  (hx:X.env.scope.names.lookup x=some .local) (hy:X.env.scope.names.lookup y=some .local) (ha:PA X [a,b] ta)
  (hw:swappedStores [.Tuple [.Name x px,.Name y py] kt pt] (.Tuple [a,b] k2 Gx) X.env=pure (some [x,y]))
  (hs:swapsWithSole [.Tuple [.Name x px,.Name y py] kt pt] (.Tuple [a,b] k2 Gx) pos.line X.env=pure false:=by rfl) :
  PS X (.Assign [.Tuple [.Name x px,.Name y py] kt pt] (.Tuple [a,b] k2 Gx) pos) (AV i j ta):=by
 intro pins s σ H D I h;rw [exec_Assign_arm];refine wpAny_bind (wpAny_standAt ?_);rw [hs];refine wpAny_bind (wpAny_pure ?_);rw [if_neg (by decide)];refine wpAny_bind (Tuple_ (cj (ha _ pins s σ H _ I h) fun us s1 ⟨vs,H1,I1,r1,q1⟩=>?_));obtain ⟨v,w,e1,q1⟩:=q1;subst e1;obtain ⟨u1,u2,rfl,rv,rw'⟩:∃u1 u2,us=[u1,u2]/\RelV v u1/\RelV w u2:=by
  cases r1 with
  |cons p q =>
   cases q with
   |cons p' q' =>
    cases q';exact ⟨_,_,rfl,p,p'⟩
 refine wpAny_newObj_type ?_ (by show 2<=sizeLine;decide);have I2:Inv X pins σ H1 { s1 with heap:=s1.heap.push { cls:=.type "tuple",data:=.seq [u1,u2].toArray } }:=I1.kept (t':=s1.toks) fun b o e=>VH _ e;rw [hw];refine wpAny_bind (wpAny_pure ?_);show wpAny (model X.prog X.w) X.A (do rule "assign.swapped-stores";let items <- unpackItems (.ref s1.heap.objs.size) 2 none;assignInOrder [fun v=>bindName X.env y v,fun v=>bindName X.env x v] items.reverse;pure Flow.next) _ _ _;refine wpAny_bind (wpAny_rule (wpAny_bind (unpackItems_tuple (items:=#[u1,u2]) (I.ok.hd hc) (IsTup.new s1.heap _) fun h' hx'=>?_)));have I3:=I2.kept (h':=h') (t':=s1.toks) fun b o e=>hx' b o (Wb (VT e)) e;show wpAny _ _ (assignInOrder [fun v=>bindName X.env y v,fun v=>bindName X.env x v] [u2,u1] >>= fun _=>pure Flow.next) _ _ _;refine wpAny_bind (assignInOrder_cons (wpAny_bindName (AF I3 hN hj (.inl hy) rw' (fun s2 I4=>?_) (.inr hy))));refine assignInOrder_cons (wpAny_bindName (AF I4 hN hi (.inl hx) rv (fun s3 I5=>assignInOrder_nil (wpAny_pure ?_)) (.inr hx)));rw [List.set_comm _ _ (Ne.symm hij)] at I5;exact ⟨_,H1,I5,q1⟩
end
section
variable {X:Cx}{pos:Pos}
def pb(c:TT)(tb:TS):TS:=fun D σ H=>∃W:Nat->St->Hp->Prop,(∃m,W m σ H)/\∀m σ H,W m σ H ->
 c σ H fun b H1=>if b=true then ∃N:St->Hp->Prop,(∀σ' H',N σ' H'->∃m',m' < m/\W m' σ' H')/\tb { D with nx:=N,ct:=N,bk:=D.nx } σ H1 else D.nx σ H1
theorem zF{c:Expr}{body:List Stmt}{tc:TT}{tb:TS}(hp:PassesOwn (model X.prog X.w) X.A X.env X.xe)(hc:PT X c tc)(hb:oZ X body tb):PS X (.While c body [] pos) (pb tc tb):=by
 intro pins s σ H D I h;obtain ⟨W,⟨m0,w0⟩,turn⟩:=h;refine wpAny_While (codeAny_whileLoop (fun n s'=>∃σ' H',Inv X pins σ' H' s'/\W n σ' H') ?_ m0 ⟨σ,H,I,w0⟩);rintro n s1 ⟨σ1,H1,I1,w1⟩;refine wpAny_passesOwn hp (cj (hc pins s1 σ1 H1 _ I1 (turn n σ1 H1 w1)) fun b s2 ⟨H2,I2,q2⟩=>?_);cases b with
 |true =>
  obtain ⟨N,hN,q2⟩:=q2;rw [if_pos rfl];refine wpAny_passesOwn hp (cj (hb pins s2 σ1 H2 _ I2 q2) fun f s3 q3=>?_);cases f with
  |next =>
   obtain ⟨σ3,H3,I3,n3⟩:=q3;obtain ⟨m',hm,w3⟩:=hN σ3 H3 n3;exact ⟨m',hm,σ3,H3,I3,w3⟩
  |cont =>
   obtain ⟨σ3,H3,I3,n3⟩:=q3;obtain ⟨m',hm,w3⟩:=hN σ3 H3 n3;exact ⟨m',hm,σ3,H3,I3,w3⟩
  |brk=>exact q3
  |ret v=>exact q3
 |false =>
  rw [if_neg VD];exact wpAny_execs_nil ⟨σ1,H2,I2,q2⟩
end
set_option genInjectivity false in
structure It where
 go:Nat->Hp->Prop
 tV:Nat->Hp->V->Hp->Prop
 stop:Nat->Hp->Prop
def kE(X:Cx)(pins:List (Addr×Obj))(H:Hp)(b:Addr):Prop :=
 H b=none/\b≠X.env.locals/\b ∉ X.fs/\(b∈X.ex\/X.s₀.heap.objs.size<=b)/\(∀x c,X.env.cells.lookup x=some c->c≠b)/\∀p∈X.pn ++ pins,p.1≠b
theorem Inv.qk{X:Cx}{pins:List (Addr×Obj)}{σ:St}{H H':Hp}{s:Shared}{b:Addr}(I:Inv X pins σ H s)(hb:s.heap.objs.size<=b)(hn:H' b=none):kE X pins H' b:=by
 refine ⟨hn,Nat.ne_of_gt (V5 I.lt hb),I.AA hb,.inr (V3 I.sz hb),fun x c e z=>?_,fun p hp z=>?_⟩
 ·obtain ⟨v,q⟩:=I.cell x c e
  exact absurd (V5 q.lt (by rw [z];exact hb)) (Xc _)
 ·exact absurd (V5 (VT (I.pin p hp).1) (by rw [z];exact hb)) (Xc _)
structure Turn(P:Program)(w:World)(K:Zfr)(tg:Expr)(J:It)(fp:List Addr)(it:Addr)(tn:Nat->Heap->Prop):Prop where
 mem:it∈fp
 obj:∀i h,tn i h->∀b∈fp,∃o,h.get? b=some o/\∀v,o.data≠.cell v
 keep:∀i h h',tn i h->(∀b∈fp,∀o,h.get? b=some o->h'.get? b=some o)->tn i h'
 item:∀(X:Cx),X.prog=P->X.w=w->X.K=K->X.calm=true->∀(i:Nat) (pins:List (Addr×Obj)) (s:Shared) (σ:St) (H:Hp) (E:Value->Shared->Prop),Inv X pins σ H s->(∀b∈fp,kE X pins H b)->tn i s.heap->J.go i H ->
  wpAny (model P w) X.A (pyNext (.ref it)) (fun r s1=>∃u,r=some u /\
   wpAny (model P w) X.A (letOwnedTupleGo tg (.ref it) u) (fun _ s2=>∃x H',Inv X pins σ H' s2/\RelV x u/\J.tV i H x H'/\tn (i+1) s2.heap/\∀b∈fp,H' b=none) E s1) E s
 done:∀(X:Cx),X.prog=P->X.w=w->X.K=K->X.calm=true->∀(i:Nat) (pins:List (Addr×Obj)) (s:Shared) (σ:St) (H:Hp) (E:Value->Shared->Prop),Inv X pins σ H s->(∀b∈fp,kE X pins H b)->tn i s.heap->J.stop i H ->
  wpAny (model P w) X.A (pyNext (.ref it)) (fun r s1=>r=none/\Inv X pins σ H s1) E s
 self:∀(A:Around) (i:Nat) (s:Shared) (Q:Value->Shared->Prop) (E:Value->Shared->Prop),tn i s.heap->Q (.ref it) s->wpAny (model P w) A (pyIter (.ref it)) Q E s
abbrev TI:=St->Hp->(It->Hp->Prop)->Prop
def Js(X:Cx)(pins:List (Addr×Obj))(σ:St)(tg:Expr)(R:It->Hp->Prop)(itv:Value)(s2:Shared):Prop :=
 ∃(it:Addr) (fp:List Addr) (tn:Nat->Heap->Prop) (J:It) (H':Hp),itv=.ref it/\Inv X pins σ H' s2/\Turn X.prog X.w X.K tg J fp it tn/\tn 0 s2.heap/\(∀b∈fp,kE X pins H' b)/\R J H'
def PI(X:Cx)(tg iter:Expr)(wi:TI):Prop :=
 ∀(pins:List (Addr×Obj)) (s:Shared) (σ:St) (H:Hp) (R:It->Hp->Prop),Inv X pins σ H s->wi σ H R ->
  wpAny (model X.prog X.w) X.A (eval iter X.env) (fun v s1=>wpAny (model X.prog X.w) X.A (pyIter v) (Js X pins σ tg R) X.xe s1) X.xe s
theorem Gy{M:Model}{A:Around}{E:Value->Shared->Prop}{s:Shared}{tg:Expr}{it:Addr}{u:Value}{o:Obj}{n:String}{vs:Array Value}{Q:Unit->Shared->Prop}(ho:s.heap.get? it=some o)(hc:o.cls=.type n)(hd:o.data=.fields vs)
  (hn:["enumerate","zip","dict_itemiterator","dict_reverseitemiterator","odict_iterator","itertools.zip_longest","itertools.pairwise"].contains n=false) (hQ:Q () s):wpAny M A (letOwnedTupleGo tg (.ref it) u) Q E s:=by
 unfold letOwnedTupleGo;cases tg<;>first
  |exact wpAny_pure hQ
  | (cases u <;> first
    |exact wpAny_pure hQ
    | (refine wpAny_bind (wpAny_load ho ?_)
       rw [hc,hd];show wpAny M A (if (["enumerate","zip","dict_itemiterator","dict_reverseitemiterator","odict_iterator","itertools.zip_longest","itertools.pairwise"].contains n && vs[0]? == some (rawInt _))=true then _ else _) Q E s;rw [if_neg (by intro h;rw [hn,Bool.false_and] at h;cases h)]
       exact wpAny_pure hQ))
def Jt(K:Zfr)(a:Addr):It :=
 ⟨fun i H=>∃xs x,jC K H a xs/\xs[i]?=some x,fun i H x H'=>H'=H/\∀xs,jC K H a xs->xs[i]?=some x,fun i H=>∃xs,jC K H a xs/\xs.length<=i⟩
def Ju(K:Zfr)(a:Addr):It :=
 ⟨fun i H=>∃xs x,eu K H a xs/\xs[i]?=some x,fun i H x H'=>H'=H/\∀xs,eu K H a xs->xs[i]?=some x,fun i H=>∃xs,eu K H a xs/\xs.length<=i⟩
def AW(lo:Int)(n:Nat):It:=⟨fun i _=>i<n,fun i H x H'=>H'=H/\x=.int (lo+i),fun i _=>n<=i⟩
theorem Ny{P:Program}{w:World}{K:Zfr}{tg:Expr}(a it:Addr):Turn P w K tg (Jt K a) [it] it (fun i h=>h.IsListIter it a i) where
 mem:=by simp
 obj:=fun i h st b hb=>by
  have e:b=it:=by simpa using hb
  subst e;obtain ⟨o,e,c,d⟩:=st;exact ⟨o,e,fun v z=>by rw [d] at z;cases z⟩
 keep:=fun i h h' st k=>st.at fun o e=>k it (by simp) o e
 item:=by
  intro X hP hw hK hc i pins s σ H E I hf st hg;subst hP hw hK;obtain ⟨xs,x,hq,hx⟩:=hg;obtain ⟨its,rv,p,hz⟩:=I.list hq;obtain ⟨u,hu,ru⟩:=rv.get hx;obtain ⟨f0,f1,f2,f3,f4,f5⟩:=hf it (by simp);refine wpAny_pyNext_list_item st p.isList (x:=u) (by simpa using hu) fun h' st' sb=>?_;have I1:Inv X pins σ H { s with heap:=h' }:=I.turned (t':=s.toks) (fun b o hb e=>(sb.2 b hb).trans e) f0 f1 f3 f4 f5;obtain ⟨o,e,c,d⟩:=id st';exact ⟨u,rfl,Gy (s:={ s with heap:=h' }) e c d (by decide) ⟨x,H,I1,ru,⟨rfl,fun ys hy=>by rw [I.rl hy hq];exact hx⟩,st',fun b hb=>(hf b hb).1⟩⟩
 done:=by
  intro X hP hw hK hc i pins s σ H E I hf st hg;subst hP hw hK;obtain ⟨xs,hq,hx⟩:=hg;obtain ⟨its,rv,p,hz⟩:=I.list hq;obtain ⟨f0,f1,f2,f3,f4,f5⟩:=hf it (by simp);have hl:=rv.length;exact wpAny_pyNext_list_end (I.ok.hd hc) st p.isList (by simp;omega) fun h' eb=>⟨rfl,I.turned (t':=s.toks) (fun b o hb e=>eb b o hb e) f0 f1 f3 f4 f5⟩
 self:=fun _ _ _ _ _ st h=>wpAny_pyIter_listiter st h
theorem Nz{P:Program}{w:World}{K:Zfr}{tg:Expr}(a it:Addr):Turn P w K tg (Ju K a) [it] it (fun i h=>h.IsTupleIter it a i) where
 mem:=by simp
 obj:=fun i h st b hb=>by
  have e:b=it:=by simpa using hb
  subst e;obtain ⟨o,e,c,d⟩:=st;exact ⟨o,e,fun v z=>by rw [d] at z;cases z⟩
 keep:=fun i h h' st k=>st.at fun o e=>k it (by simp) o e
 item:=by
  intro X hP hw hK hc i pins s σ H E I hf st hg;subst hP hw hK;obtain ⟨xs,x,hq,hx⟩:=hg;obtain ⟨its,rv,p,hz⟩:=I.tuple hq;obtain ⟨u,hu,ru⟩:=rv.get hx;obtain ⟨f0,f1,f2,f3,f4,f5⟩:=hf it (by simp);refine wpAny_pyNext_tuple_item st (show s.heap.IsTuple a its.toArray from p) (x:=u) (by simpa using hu) fun h' st' sb=>?_;have I1:Inv X pins σ H { s with heap:=h' }:=I.turned (t':=s.toks) (fun b o hb e=>(sb.2 b hb).trans e) f0 f1 f3 f4 f5;obtain ⟨o,e,c,d⟩:=id st';exact ⟨u,rfl,Gy (s:={ s with heap:=h' }) e c d (by decide) ⟨x,H,I1,ru,⟨rfl,fun ys hy=>by rw [I.mD hy hq];exact hx⟩,st',fun b hb=>(hf b hb).1⟩⟩
 done:=by
  intro X hP hw hK hc i pins s σ H E I hf st hg;subst hP hw hK;obtain ⟨xs,hq,hx⟩:=hg;obtain ⟨its,rv,p,hz⟩:=I.tuple hq;obtain ⟨f0,f1,f2,f3,f4,f5⟩:=hf it (by simp);have hl:=rv.length;exact wpAny_pyNext_tuple_end (I.ok.hd hc) st (show s.heap.IsTuple a its.toArray from p) (by simp;omega) fun h' eb=>⟨rfl,I.turned (t':=s.toks) (fun b o hb e=>eb b o hb e) f0 f1 f3 f4 f5⟩
 self:=fun _ _ _ _ _ st h=>wpAny_pyIter_tupleiter st h
theorem NA{P:Program}{w:World}{K:Zfr}{tg:Expr}(it:Addr)(lo:Int)(n:Nat):Turn P w K tg (AW lo n) [it] it (fun i h=>IsRangeIter h it (lo+(i:Nat)*1) ((n:Int)-(i:Nat)) 1) where
 mem:=by simp
 obj:=fun i h st b hb=>by
  have e:b=it:=by simpa using hb
  subst e
  exact ⟨_,st,fun v z=>by
   have z':Data.fields _=Data.cell v:=z
   cases z'⟩
 keep:=fun i h h' st k=>k it (by simp) _ st
 item:=by
  intro X hP hw hK hc i pins s σ H E I hf st hg;subst hP hw hK;obtain ⟨f0,f1,f2,f3,f4,f5⟩:=hf it (by simp);have W:=Walks.range (prog:=X.prog) (w:=X.w) (I.ok.hd hc) it lo 1 n;refine W.item i s _ _ hg st fun v h' tk hv st' kk=>?_;obtain ⟨t,rfl⟩:=hv;have I1:Inv X pins σ H { s with heap:=h',toks:=tk }:=I.turned (fun b o hb e=>kk b o (by simpa using hb) e) f0 f1 f3 f4 f5;refine ⟨_,rfl,Gy (s:={ s with heap:=h',toks:=tk }) (n:="range_iterator") st' rfl rfl (by decide) ⟨.int (lo+i),H,I1,⟨t,?_⟩,⟨rfl,rfl⟩,st',fun b hb=>(hf b hb).1⟩⟩;rw [Int.mul_one]
 done:=by
  intro X hP hw hK hc i pins s σ H E I hf st hg;subst hP hw hK;obtain ⟨f0,f1,f2,f3,f4,f5⟩:=hf it (by simp);exact wpAny_pyNext_range_end (I.ok.hd hc) st (by have:n<=i:=hg;omega) fun h' eb=>⟨rfl,I.turned (t':=s.toks) (fun b o hb e=>eb b o hb e) f0 f1 f3 f4 f5⟩
 self:=fun _ _ _ _ _ st h=>wpAny_pyIter_rangeiter st h
section
variable {X:Cx}{tg:Expr}
def rm(K:Zfr)(tl:TE):TI:=fun σ H R=>tl σ H fun x H1=>∃a,x=.ref a/\(∃xs,jC K H1 a xs)/\R (Jt K a) H1
def AX(K:Zfr)(tl:TE):TI:=fun σ H R=>tl σ H fun x H1=>∃a,x=.ref a/\(∃xs,eu K H1 a xs)/\R (Ju K a) H1
theorem AY{l:Expr}{tl:TE}(hl:PE X l tl):PI X tg l (rm X.K tl):=by
 intro pins s σ H R I h;refine cj (hl pins s σ H _ I h) fun v s1 ⟨x,H1,I1,r1,q1⟩=>?_;obtain ⟨a,e,⟨xs,hq⟩,q⟩:=q1;subst e;cases r1;obtain ⟨its,rv,p,hz⟩:=I1.list hq;refine wpAny_pyIter_list p.isList ?_;refine ⟨s1.heap.objs.size,[s1.heap.objs.size],_,_,H1,rfl,I1.kept (t':=s1.toks) fun b o e=>VH _ e,Ny a _,⟨_,V1 _ rfl,rfl,rfl⟩,fun b hb=>?_,q⟩;have e:b=s1.heap.objs.size:=by simpa using hb
 subst e;exact I1.qk (VC _) (I1.hok.fresh (VC _))
theorem rn{l:Expr}{tl:TE}(hl:PE X l tl):PI X tg l (AX X.K tl):=by
 intro pins s σ H R I h;refine cj (hl pins s σ H _ I h) fun v s1 ⟨x,H1,I1,r1,q1⟩=>?_;obtain ⟨a,e,⟨xs,hq⟩,q⟩:=q1;subst e;cases r1;obtain ⟨its,rv,p,hz⟩:=I1.tuple hq;refine wpAny_pyIter_tuple (show s1.heap.IsTuple a its.toArray from p) ?_;refine ⟨s1.heap.objs.size,[s1.heap.objs.size],_,_,H1,rfl,I1.kept (t':=s1.toks) fun b o e=>VH _ e,Nz a _,⟨_,V1 _ rfl,rfl,rfl⟩,fun b hb=>?_,q⟩;have e:b=s1.heap.objs.size:=by simpa using hb
 subst e;exact I1.qk (VC _) (I1.hok.fresh (VC _))
theorem Jv{pins:List (Addr×Obj)}{σ:St}{H:Hp}{s:Shared}{R:It->Hp->Prop}{E:Value->Shared->Prop}{lo hi:Int}{t u v:Tok}{tk:Nat}(I:Inv X pins σ H s)(h1:-(2 ^ 62)<=lo)(h2:lo<2 ^ 62)(h3:-(2 ^ 62)<=hi)(h4:hi<2 ^ 62)
  (q:R (AW lo (hi-lo).toNat) H):wpAny (model X.prog X.w) X.A (pyIter (.ref s.heap.objs.size)) (Js X pins σ tg R) E { s with heap:=s.heap.push { cls:=.type "range",data:=.fields #[.int lo t,.int hi u,.int 1 v] },toks:=tk }:=by
 refine wpAny_pyIter_range (IsRange.new ..) (small_one h1 h2 h3 h4) ?_;have I1:Inv X pins σ H { s with heap:=s.heap.push { cls:=.type "range",data:=.fields #[.int lo t,.int hi u,.int 1 v] },toks:=tk }:=I.kept fun b o e=>VH _ e
 refine ⟨(s.heap.push { cls:=.type "range",data:=.fields #[.int lo t,.int hi u,.int 1 v] }).objs.size,[(s.heap.push { cls:=.type "range",data:=.fields #[.int lo t,.int hi u,.int 1 v] }).objs.size],_,_,H,rfl,
  I1.kept (t':=tk) fun b o e=>VH _ e,NA _ lo (hi-lo).toNat,?_,fun b hb=>?_,q⟩
 ·have e1:lo+((0:Nat):Int)*1=lo:=by simp
  have e2:(((hi-lo).toNat:Nat):Int)-((0:Nat):Int)=Builtin.Range.rangeSize lo hi 1:=by rw [rangeSize_one];split<;>omega
  show IsRangeIter _ _ (lo+((0:Nat):Int)*1) ((((hi-lo).toNat:Nat):Int)-((0:Nat):Int)) 1;rw [e1,e2];exact V1 _ rfl
 ·have e:b=(s.heap.push { cls:=.type "range",data:=.fields #[.int lo t,.int hi u,.int 1 v] }).objs.size:=by simpa using hb
  subst e;exact I1.qk (VC _) (I1.hok.fresh (VC _))
def u5(ta:TA):TI:=fun σ H R=>ta σ H fun vs H1=>∃j:Int,vs=[.int j]/\-(2 ^ 62)<=j/\j<2 ^ 62/\R (AW 0 j.toNat) H1
def u6(ta:TA):TI:=fun σ H R=>ta σ H fun vs H1=>∃i j:Int,vs=[.int i,.int j]/\(-(2 ^ 62)<=i/\i<2 ^ 62/\-(2 ^ 62)<=j/\j<2 ^ 62)/\R (AW i (j-i).toNat) H1
theorem pM{a:Expr}{ta:TA}{p pos:Pos}(hg:Gl X "range")(hm:X.mg "range" = none)(ha:PA X [a] ta)(hs:starEach [a] X.env=[(false,eval a X.env)]:=by rfl):PI X tg (.Call (.Name "range" p) [a] [] pos) (u5 ta):=by
 intro pins s σ H R I h;refine Call_ (zD I hg hm boot_range (PyProof.Rows.callWith_type1 (cj (ha pos pins s σ H _ I h) fun us s1 ⟨vs,H1,I1,r1,q1⟩=>?_) hs rfl));obtain ⟨j,e,q1,q2,q⟩:=q1;subst e;cases r1 with
 |cons r rr =>
  cases rr;obtain ⟨t,rfl⟩:=r;exact call_range_1 (Jv I1 (by omega) (by omega) q1 q2 (by simpa using q))
theorem NC{a b:Expr}{ta:TA}{p pos:Pos}(hg:Gl X "range")(hm:X.mg "range" = none)(ha:PA X [a,b] ta)(hs:starEach [a,b] X.env=[(false,eval a X.env),(false,eval b X.env)]:=by rfl)(hs2:starEach [b] X.env=[(false,eval b X.env)]:=by rfl):
  PI X tg (.Call (.Name "range" p) [a,b] [] pos) (u6 ta):=by
 intro pins s σ H R I h;refine Call_ (zD I hg hm boot_range (PyProof.Rows.callWith_type1 (cj (ha pos pins s σ H _ I h) fun us s1 ⟨vs,H1,I1,r1,q1⟩=>?_) (by rw [hs,hs2]) (by rw [hs2];rfl)));obtain ⟨i,j,e,⟨q1,q2,q3,q4⟩,q⟩:=q1;subst e;cases r1 with
 |cons r rr =>
  cases rr with
  |cons r' rr =>
   cases rr;obtain ⟨t,rfl⟩:=r;obtain ⟨t',rfl⟩:=r';exact call_range_2 (Jv I1 q1 q2 q3 q4 q)
def AZ(wi:TI)(g:TG)(tb:TS):TS:=fun D σ H=>wi σ H fun J H1=>∃W:Nat->Nat->St->Hp->Prop,(∃m,W 0 m σ H1)/\∀i m σ H,W i m σ H ->
 (J.stop i H/\D.nx σ H)\/(J.go i H/\∃N:St->Hp->Prop,(∀σ' H',N σ' H'->∃m',m' < m/\W (i+1) m' σ' H')/\∀x H',J.tV i H x H'->g x σ H' fun σ2 H2=>tb { D with nx:=N,ct:=N,bk:=D.nx } σ2 H2)
def lE(fp:List Addr)(h:Heap):List (Addr×Obj):=fp.filterMap fun b=>(h.get? b).map fun o=>(b,o)
theorem En{fp:List Addr}{h:Heap}{b:Addr}{o:Obj}(hb:b∈fp)(e:h.get? b=some o):(b,o)∈lE fp h:=List.mem_filterMap.mpr ⟨b,hb,by rw [e];rfl⟩
theorem ND{fp:List Addr}{h:Heap}{p:Addr×Obj}(hp:p∈lE fp h):p.1∈fp/\h.get? p.1=some p.2:=by
 obtain ⟨b,hb,e⟩:=List.mem_filterMap.mp hp;cases q:h.get? b with
 |none=>rw [q] at e;cases e
 |some o =>
  rw [q] at e;have e':(b,o)=p:=VJ e;subst e';exact ⟨hb,q⟩
theorem Inv.pinned{pins:List (Addr×Obj)}{σ:St}{H:Hp}{s:Shared}{fp:List Addr}(I:Inv X pins σ H s)(hf:∀b∈fp,kE X pins H b)(ho:∀b∈fp,∃o,s.heap.get? b=some o/\∀v,o.data≠.cell v):Inv X (pins ++ lE fp s.heap) σ H s :=
 I.kX fun p hp=>(V9.mp hp).elim (fun z=>I.pin p (Wa _ z)) fun z=>by
  obtain ⟨hb,e⟩:=ND z;obtain ⟨f0,f1,f2,_⟩:=hf p.1 hb;obtain ⟨o,e',d⟩:=ho p.1 hb;rw [e] at e';cases e';exact ⟨e,f0,f1,f2,d⟩
theorem Inv.kb{pins pl:List (Addr×Obj)}{σ:St}{H:Hp}{s:Shared}(I:Inv X (pins ++ pl) σ H s):Inv X pins σ H s:=I.kX fun p hp=>I.pin p (Wa _ (WI _ hp))
theorem l9{iter:Expr}{body:List Stmt}{wi:TI}{g:TG}{tb:TS}{pos:Pos}(hp:PassesOwn (model X.prog X.w) X.A X.env X.xe)(hc:X.calm=true)(hi:PI X tg iter wi)(hg:PG X tg g)(hb:oZ X body tb)
  (hs:∀x,foldedSetIterable iter X.env x=pure x:=by intro _;rfl):PS X (.For tg iter body [] pos) (AZ wi g tb):=by
 intro pins s σ H D I h;refine wpAny_For (cj (hi pins s σ H _ I h) fun v s1 h1=>cj h1 fun itv s2 h2=>?_) hs;obtain ⟨it,fp,tn,J,H2,e,I2,T,st2,f2,W,⟨m0,w0⟩,turn⟩:=h2;subst e;have stat:∀{H':Hp},(∀b∈fp,H' b=none)->∀b∈fp,kE X pins H' b:=fun hn b hb=>⟨hn b hb,(f2 b hb).2⟩;refine codeAny_forLoop_any (fun n s'=>∃i σ' H',Inv X pins σ' H' s'/\tn i s'.heap/\(∀b∈fp,H' b=none)/\W i n σ' H') ?_ m0 ⟨0,σ,H2,I2,st2,fun b hb=>(f2 b hb).1,w0⟩;rintro n s3 ⟨i,σ3,H3,I3,st3,Jw,w3⟩;rcases turn i n σ3 H3 w3 with ⟨stop,qn⟩|⟨go,N,hN,step⟩
 ·refine wpAny_passesOwn hp (cj (T.done X rfl rfl rfl hc i pins s3 σ3 H3 X.xe I3 (stat Jw) st3 stop) fun r s4 ⟨hr,I4⟩=>?_)
  subst hr;exact wpAny_execs_nil ⟨σ3,H3,I4,qn⟩
 ·refine wpAny_passesOwn hp (cj (T.item X rfl rfl rfl hc i pins s3 σ3 H3 X.xe I3 (stat Jw) st3 go) fun r s4 ⟨u,hr,h4⟩=>?_)
  subst hr;refine wpAny_passesOwn hp (cj h4 fun _ s5 ⟨x,H5,I5,r5,y5,mF,Eo⟩=>?_);have NF:=I5.pinned (stat Eo) (T.obj _ _ mF);refine wpAny_passesOwn hp (cj (hg _ s5 σ3 H5 x u _ NF r5 (step x H5 y5)) fun _ s6 ⟨σ6,H6,I6,q6⟩=>?_);refine wpAny_passesOwn hp (cj (hb _ s6 σ6 H6 _ I6 q6) fun f s7 q7=>?_);have again:∀{σ7:St} {H7:Hp},Inv X (pins ++ lE fp s5.heap) σ7 H7 s7->N σ7 H7->∃m,m<n/\∃i σ' H',Inv X pins σ' H' s7/\tn i s7.heap/\(∀b∈fp,H' b=none)/\W i m σ' H':=fun {σ7 H7} I7 n7=>by
   obtain ⟨m',hm,w7⟩:=hN σ7 H7 n7;refine ⟨m',hm,i+1,σ7,H7,I7.kb,T.keep _ _ _ mF fun b hb o e=>(I7.pin (b,o) (Wa _ (Wa _ (En hb e)))).1,fun b hb=>?_,w7⟩;obtain ⟨o,e,d⟩:=T.obj _ _ mF b hb;exact (I7.pin (b,o) (Wa _ (Wa _ (En hb e)))).2.1
  cases f with
  |next=>obtain ⟨σ7,H7,I7,n7⟩:=q7;exact again I7 n7
  |cont=>obtain ⟨σ7,H7,I7,n7⟩:=q7;exact again I7 n7
  |brk=>obtain ⟨σ7,H7,I7,q7⟩:=q7;exact ⟨σ7,H7,I7.kb,q7⟩
  |ret v=>obtain ⟨x7,σ7,H7,I7,r7,q7⟩:=q7;exact ⟨x7,σ7,H7,I7.kb,r7,q7⟩
end
abbrev R2:=V->V->Hp->VK->Prop
def ka(X:Cx)(f:Value->Value->Sem Value)(r:R2):Prop :=
 ∀(pins:List (Addr×Obj)) (s:Shared) (σ:St) (H:Hp) (x y:V) (v u:Value) (Q:VK),Inv X pins σ H s->RelV x v->RelV y u->r x y H Q ->
  wpAny (model X.prog X.w) X.A (f v u) (EP X pins σ Q) X.xe s
def Gz(X:Cx)(f:Value->Sem Value)(r:V->Hp->VK->Prop):Prop :=
 ∀(pins:List (Addr×Obj)) (s:Shared) (σ:St) (H:Hp) (x:V) (v:Value) (Q:VK),Inv X pins σ H s->RelV x v->r x H Q ->
  wpAny (model X.prog X.w) X.A (f v) (EP X pins σ Q) X.xe s
def eh(X:Cx)(f:Value)(r:List V->Hp->VK->Prop):Prop :=
 ∀(pins:List (Addr×Obj)) (s:Shared) (σ:St) (H:Hp) (xs:List V) (us:List Value) (Q:VK),Inv X pins σ H s->Vals xs us->r xs H Q ->
  wpAny (model X.prog X.w) X.A (call f us) (EP X pins σ Q) X.xe s
def A0(r:R2)(ta tb:TE):TE:=fun σ H Q=>ta σ H fun x H1=>tb σ H1 fun y H2=>r x y H2 Q
def Jx(r:V->Hp->VK->Prop)(ta:TE):TE:=fun σ H Q=>ta σ H fun x H1=>r x H1 Q
def rI(C:Int->Int->Prop)(g:Int->Int->V):R2:=fun x y H Q=>∃i j,x=.int i/\y=.int j/\C i j/\Q (g i j) H
def ql(g:Int->Int->V):R2:=fun x y H Q=>∃i j,x=.int i/\y=.int j/\Q (g i j) H
def rU(g:Int->V):V->Hp->VK->Prop:=fun x H Q=>∃i,x=.int i/\Q (g i) H
section
variable {X:Cx}{a b c:Expr}{ta tb tc:TE}{pos:Pos}
theorem wO(ha:PE X a ta)(hb:PE X b tb){pins:List (Addr×Obj)}{s:Shared}{σ:St}{H:Hp}{R:V->V->Hp->Prop}(I:Inv X pins σ H s)
  (h:ta σ H fun x H1=>tb σ H1 fun y H2=>R x y H2) {Q:Value->Shared->Prop} {f:Value->Value->Sem Value}
  (hf:∀v u s2 x y H2,Inv X pins σ H2 s2->RelV x v->RelV y u->R x y H2->wpAny (model X.prog X.w) X.A (f v u) Q X.xe s2) :
  wpAny (model X.prog X.w) X.A (eval a X.env) (fun v s₁=>wpAny (model X.prog X.w) X.A (eval b X.env) (fun u s₂=>wpAny (model X.prog X.w) X.A (f v u) Q X.xe s₂) X.xe s₁) X.xe s:=by
 refine cj (ha pins s σ H _ I h) fun v s1 ⟨x,H1,I1,r1,q1⟩=>?_;refine cj (hb pins s1 σ H1 _ I1 q1) fun u s2 ⟨y,H2,I2,r2,q2⟩=>?_;exact hf v u s2 x y H2 I2 r1 r2 q2
theorem cW{op:Operator}{r:R2}(ho:ka X (binaryOp op) r)(ha:PE X a ta)(hb:PE X b tb):PE X (.BinOp a op b pos) (A0 r ta tb):=by
 intro pins s σ H Q I h;exact wpAny_BinOp (wO ha hb I h fun v u s2 x y H2 I2 rx ry q=>ho pins s2 σ H2 x y v u Q I2 rx ry q)
theorem wQ{op:UnaryOp}{r:V->Hp->VK->Prop}(ho:Gz X (unaryOp op) r)(ha:PE X a ta):PE X (.UnaryOp op a pos) (Jx r ta):=by
 intro pins s σ H Q I h;exact UnaryOp_ (cj (ha pins s σ H _ I h) fun v s1 ⟨x,H1,I1,r1,q1⟩=>ho pins s1 σ H1 x v Q I1 r1 q1)
theorem Ep{f:Value->Value->Sem Value}{C:Int->Int->Prop}{g:Int->Int->Int}
  (rule:∀(i j:Int) (t u:Tok) (s:Shared) (Q:Value->Shared->Prop) (E:Value->Shared->Prop),C i j->Q (.int (g i j) s.toks) { s with toks:=s.toks+1 }->wpAny (model X.prog X.w) X.A (f (.int i t) (.int j u)) Q E s) :
  ka X f (rI C fun i j=>.int (g i j)):=by
 intro pins s σ H x y v u Q I rx ry h;obtain ⟨i,j,rfl,rfl,hc,q⟩:=h;obtain ⟨t,rfl⟩:=rx;obtain ⟨t',rfl⟩:=ry;exact rule i j t t' s _ _ hc ⟨.int (g i j),H,I.tok _,⟨_,rfl⟩,q⟩
theorem A1{f:Value->Value->Sem Value}{g:Int->Int->Int}
  (rule:∀(i j:Int) (t u:Tok) (s:Shared) (Q:Value->Shared->Prop) (E:Value->Shared->Prop),Q (.int (g i j) s.toks) { s with toks:=s.toks+1 }->wpAny (model X.prog X.w) X.A (f (.int i t) (.int j u)) Q E s) :
  ka X f (ql fun i j=>.int (g i j)):=by
 intro pins s σ H x y v u Q I rx ry h;obtain ⟨i,j,rfl,rfl,q⟩:=h;obtain ⟨t,rfl⟩:=rx;obtain ⟨t',rfl⟩:=ry;exact rule i j t t' s _ _ ⟨.int (g i j),H,I.tok _,⟨_,rfl⟩,q⟩
theorem wR{f:Value->Value->Sem Value}{g:Int->Int->Bool}
  (rule:∀(i j:Int) (t u:Tok) (s:Shared) (Q:Value->Shared->Prop) (E:Value->Shared->Prop),Q (.bool (g i j)) s->wpAny (model X.prog X.w) X.A (f (.int i t) (.int j u)) Q E s) :
  ka X f (ql fun i j=>.bl (g i j)):=by
 intro pins s σ H x y v u Q I rx ry h;obtain ⟨i,j,rfl,rfl,q⟩:=h;obtain ⟨t,rfl⟩:=rx;obtain ⟨t',rfl⟩:=ry;exact rule i j t t' s _ _ ⟨.bl (g i j),H,I,rfl,q⟩
def A2(i j:Int):Prop:=0<j/\j<1073741824
def A3(i j:Int):Prop:=0<=j/\j<=1000000/\i.natAbs<2 ^ 64
def tW(i j:Int):Prop:=(-(2 ^ 64)<i/\i<2 ^ 64)\/(-(2 ^ 64)<j/\j<2 ^ 64)
theorem tW.ok{i j:Int}(h:tW i j):IntMulOk i j:=by
 rcases h with ⟨h1,h2⟩|⟨h1,h2⟩
 ·exact .of_left (intBits_le_64 h1 h2)
 ·exact .of_right (intBits_le_64 h1 h2)
theorem oi:ka X (binaryOp .Add) (ql fun i j=>.int (i+j)):=A1 fun _ _ _ _ _ _ _ q=>add_int q
theorem GA:ka X (binaryOp .Sub) (ql fun i j=>.int (i-j)):=A1 fun _ _ _ _ _ _ _ q=>sub_int q
theorem u7:ka X (binaryOp .Mult) (rI tW fun i j=>.int (i*j)):=Ep fun _ _ _ _ _ _ _ hc q=>mul_int q hc.ok
theorem GB:ka X (binaryOp .FloorDiv) (rI A2 fun i j=>.int (i / j)):=Ep fun i j _ _ _ _ _ hc q=>by
 have h1:(0:Int)<j:=hc.1;have h2:j<1073741824:=hc.2;exact floordiv_int (by omega) (by rw [Int.fdiv_eq_ediv_of_nonneg i (by omega)];exact q) (.inl (PyProof.noPylong_small (by omega)))
theorem qm:ka X (binaryOp .Mod) (rI (fun _ j=>0<j) fun i j=>.int (i % j)):=Ep fun i j _ _ _ _ _ hc q=>by
 have h1:(0:Int)<j:=hc;exact mod_int' (by omega) (by rw [Int.fmod_eq_emod_of_nonneg i (by omega)];exact q)
theorem Jy:ka X (binaryOp .Pow) (rI A3 fun i j=>.int (i ^ j.toNat)):=Ep fun _ _ _ _ _ _ _ hc q=>pow_int_small hc.1 hc.2.1 hc.2.2 q
theorem NG{f:Value->Sem Value}{g:Int->Int}
  (rule:∀(i:Int) (t:Tok) (s:Shared) (Q:Value->Shared->Prop) (E:Value->Shared->Prop),Q (.int (g i) s.toks) { s with toks:=s.toks+1 }->wpAny (model X.prog X.w) X.A (f (.int i t)) Q E s) :
  Gz X f (rU fun i=>.int (g i)):=by
 intro pins s σ H x v Q I rx h;obtain ⟨i,rfl,q⟩:=h;obtain ⟨t,rfl⟩:=rx;exact rule i t s _ _ ⟨.int (g i),H,I.tok _,⟨_,rfl⟩,q⟩
theorem wU:Gz X (unaryOp .USub) (rU fun i=>.int (-i)):=NG fun _ _ _ _ _ q=>neg_int q
end
def pd:V->V->Bool
 |.non,.non=>true|.non,.int _=>true|.int _,.non=>true|.non,.bl _=>true|.bl _,.non=>true|.non,.str _=>true|.str _,.non=>true
 |.int _,.int _=>true|.bl _,.bl _=>true|.str _,.str _=>true|.qJ _,.qJ _=>true
 |.int _,.str _=>true|.str _,.int _=>true|.bl _,.str _=>true|.str _,.bl _=>true
 |_,_=>false
def Jz:R2:=fun x y H Q=>pd x y=true/\Q (.bl (decide (x=y))) H
def JA:R2:=fun x y H Q=>pd x y=true/\Q (.bl (!decide (x=y))) H
theorem JB{i j:Int}:decide (V.int i=V.int j)=(i == j):=by
 rw [W0];simp
theorem JC{i j:Bool}:decide (V.bl i=V.bl j)=(i == j):=by
 rw [W0];simp
theorem JD{i j:Str}:decide (V.str i=V.str j)=(i == j):=by
 rw [W0];simp
theorem JE{i j:Array UInt8}:decide (V.qJ i=V.qJ j)=(i.toList == j.toList):=by
 rw [W0];cases i;cases j;simp
section
variable {X:Cx}{a b c:Expr}{ta tb tc:TE}{pos:Pos}
theorem jH{pins:List (Addr×Obj)}{σ:St}{H:Hp}{s:Shared}{Q:VK}{k k':Bool}(I:Inv X pins σ H s)(q:Q (.bl k) H)(e:k=k'):EP X pins σ Q (.bool k') s:=by
 subst e;exact ⟨.bl k,H,I,rfl,q⟩
theorem rq:ka X (compareOp .Eq) Jz:=by
 intro pins s σ H x y v u Q I rx ry h;obtain ⟨hs,q⟩:=h;cases x with
 |non =>
  cases rx;cases y with
  |non=>cases ry;exact PySem.EqNone.eq_none_none (jH I q (by simp))
  |bl j=>cases ry;exact PySem.EqNone.eq_none_bool (jH I q (by simp))
  |int j=>obtain ⟨t',rfl⟩:=ry;exact PySem.EqNone.eq_none_int (jH I q (by simp))
  |str j=>obtain ⟨t',rfl⟩:=ry;exact PySem.EqNone.eq_none_str (jH I q (by simp))
  |_=>exact absurd (show false=true from hs) VD
 |bl i =>
  cases rx;cases y with
  |non=>cases ry;exact PySem.EqNone.eq_bool_none (jH I q (by simp))
  |bl j=>cases ry;exact eq_bool (jH I q JC)
  |str j=>obtain ⟨t',rfl⟩:=ry;exact PySem.EqMixed.eq_bool_str (jH I q (by simp))
  |_=>exact absurd (show false=true from hs) VD
 |int i =>
  obtain ⟨t,rfl⟩:=rx;cases y with
  |non=>cases ry;exact PySem.EqNone.eq_int_none (jH I q (by simp))
  |int j=>obtain ⟨t',rfl⟩:=ry;exact eq_int (jH I q JB)
  |str j=>obtain ⟨t',rfl⟩:=ry;exact PySem.EqMixed.eq_int_str (jH I q (by simp))
  |_=>exact absurd (show false=true from hs) VD
 |str i =>
  obtain ⟨t,rfl⟩:=rx;cases y with
  |non=>cases ry;exact PySem.EqNone.eq_str_none (jH I q (by simp))
  |bl j=>cases ry;exact PySem.EqMixed.eq_str_bool (jH I q (by simp))
  |int j=>obtain ⟨t',rfl⟩:=ry;exact PySem.EqMixed.eq_str_int (jH I q (by simp))
  |str j=>obtain ⟨t',rfl⟩:=ry;exact eq_str (jH I q JD)
  |_=>exact absurd (show false=true from hs) VD
 |qJ i =>
  obtain ⟨t,rfl⟩:=rx;cases y with
  |qJ j=>obtain ⟨t',rfl⟩:=ry;exact PySem.W.eq_bytes (jH I q JE)
  |_=>exact absurd (show false=true from hs) VD
 |_=>cases y<;>exact absurd (show false=true from hs) VD
theorem Er:ka X (compareOp .NotEq) JA:=by
 intro pins s σ H x y v u Q I rx ry h;obtain ⟨hs,q⟩:=h;cases x with
 |non =>
  cases rx;cases y with
  |non=>cases ry;exact PySem.EqNone.ne_none_none (jH I q (by simp))
  |bl j=>cases ry;exact PySem.EqNone.ne_none_bool (jH I q (by simp))
  |int j=>obtain ⟨t',rfl⟩:=ry;exact PySem.EqNone.ne_none_int (jH I q (by simp))
  |str j=>obtain ⟨t',rfl⟩:=ry;exact PySem.EqNone.ne_none_str (jH I q (by simp))
  |_=>exact absurd (show false=true from hs) VD
 |bl i =>
  cases rx;cases y with
  |non=>cases ry;exact PySem.EqNone.ne_bool_none (jH I q (by simp))
  |bl j=>cases ry;exact ne_bool (jH I q (congrArg not JC))
  |str j=>obtain ⟨t',rfl⟩:=ry;exact PySem.EqMixed.ne_bool_str (jH I q (by simp))
  |_=>exact absurd (show false=true from hs) VD
 |int i =>
  obtain ⟨t,rfl⟩:=rx;cases y with
  |non=>cases ry;exact PySem.EqNone.ne_int_none (jH I q (by simp))
  |int j=>obtain ⟨t',rfl⟩:=ry;exact ne_int (jH I q (congrArg not JB))
  |str j=>obtain ⟨t',rfl⟩:=ry;exact PySem.EqMixed.ne_int_str (jH I q (by simp))
  |_=>exact absurd (show false=true from hs) VD
 |str i =>
  obtain ⟨t,rfl⟩:=rx;cases y with
  |non=>cases ry;exact PySem.EqNone.ne_str_none (jH I q (by simp))
  |bl j=>cases ry;exact PySem.EqMixed.ne_str_bool (jH I q (by simp))
  |int j=>obtain ⟨t',rfl⟩:=ry;exact PySem.EqMixed.ne_str_int (jH I q (by simp))
  |str j=>obtain ⟨t',rfl⟩:=ry;exact ne_str (jH I q (congrArg not JD))
  |_=>exact absurd (show false=true from hs) VD
 |qJ i =>
  obtain ⟨t,rfl⟩:=rx;cases y with
  |qJ j=>obtain ⟨t',rfl⟩:=ry;exact PySem.W.ne_bytes (jH I q (congrArg not JE))
  |_=>exact absurd (show false=true from hs) VD
 |_=>cases y<;>exact absurd (show false=true from hs) VD
theorem zG:ka X (compareOp .Lt) (ql fun i j=>.bl (decide (i<j))):=wR fun _ _ _ _ _ _ _ q=>lt_int q
theorem u9:ka X (compareOp .Gt) (ql fun i j=>.bl (decide (j<i))):=wR fun _ _ _ _ _ _ _ q=>gt_int q
theorem A4:ka X (compareOp .GtE) (ql fun i j=>.bl (decide (j<=i))):=wR fun _ _ _ _ _ _ _ q=>ge_int q
theorem wV:ka X (compareOp .Is) (fun x y H Q=>y=.non/\Q (.bl (decide (x=.non))) H):=by
 intro pins s σ H x y v u Q I rx ry h;obtain ⟨rfl,q⟩:=h;cases ry;refine is_none_gen (jH I q ?_);cases x<;>first
  |(cases rx;rfl)
  |(obtain ⟨t,rfl⟩:=rx;rfl)
theorem NH:ka X (compareOp .IsNot) (fun x y H Q=>y=.non/\Q (.bl (!decide (x=.non))) H):=by
 intro pins s σ H x y v u Q I rx ry h;obtain ⟨rfl,q⟩:=h;cases ry;refine isnot_none_gen (jH I q ?_);cases x<;>first
  |(cases rx;rfl)
  |(obtain ⟨t,rfl⟩:=rx;rfl)
theorem aK(b:Expr){op:CmpOp}(h:op≠.In:=by decide)(h2:op≠.NotIn:=by decide):behindInMarks op b=false:=by
 have e1:(op == CmpOp.In)=false:=by cases op<;>first|rfl|exact absurd rfl h
 have e2:(op == CmpOp.NotIn)=false:=by cases op<;>first|rfl|exact absurd rfl h2
 cases b<;>simp [behindInMarks,e1,e2]
theorem GD{op:CmpOp}{r:R2}(ho:ka X (compareOp op) r)(ha:PE X a ta)(hb:PE X b tb)(hm:behindInMarks op b=false):PE X (.Compare a [op] [b] pos) (A0 r ta tb):=by
 intro pins s σ H Q I h;exact wpAny_Compare1 (wO ha hb I h fun v u s2 x y H2 I2 rx ry q=>ho pins s2 σ H2 x y v u Q I2 rx ry q) hm
def va(t:TE):TT:=fun σ H Q=>t σ H fun x H'=>∃k,x=.bl k/\Q k H'
theorem gO{op:CmpOp}{r:R2}(ho:ka X (compareOp op) r)(ha:PE X a ta)(hb:PE X b tb)(hm:behindInMarks op b=false):PT X (.Compare a [op] [b] pos) (va (A0 r ta tb)):=by
 intro pins s σ H Q I h
 refine wpAny_isTrue_Compare1 (cj (ha pins s σ H _ I h) fun v s1 ⟨x,H1,I1,r1,q1⟩=>cj (hb pins s1 σ H1 _ I1 q1) fun u s2 ⟨y,H2,I2,r2,q2⟩ =>
  cj (ho pins s2 σ H2 x y v u _ I2 r1 r2 q2) fun c s3 ⟨z,H3,I3,r3,k,e,q3⟩=>?_) hm
 subst e;cases r3;exact wpAny_truthy_bool ⟨H3,I3,q3⟩
theorem m8:(sizeLine:Nat)<2 ^ 63:=by rw [sizeLine_eq];decide
theorem vals1{x:V}{us:List Value}(r:Vals [x] us):∃u,us=[u]/\RelV x u:=by
 cases r with
 |cons r1 r2=>cases r2;exact ⟨_,rfl,r1⟩
theorem vals2{x y:V}{us:List Value}(r:Vals [x,y] us):∃u w',us=[u,w']/\RelV x u/\RelV y w':=by
 cases r with
 |cons r1 r2 =>
  cases r2 with
  |cons r3 r4=>cases r4;exact ⟨_,_,rfl,r1,r3⟩
theorem NI(hc:X.calm=true):eh X (.builtin "max") (fun xs H Q=>∃i j,xs=[.int i,.int j]/\Q (.int (if j > i then j else i)) H):=by
 intro pins s σ H xs us Q I r h;obtain ⟨i,j,rfl,q⟩:=h;obtain ⟨u,w',rfl,⟨t,rfl⟩,⟨t',rfl⟩⟩:=vals2 r;refine max_two_ints (I.ok.hd hc) fun h' tk k=>⟨_,H,I.kept k,?_,q⟩
 by_cases hj:j > i
 ·rw [if_pos hj,if_pos hj];exact ⟨_,rfl⟩
 ·rw [if_neg hj,if_neg hj];exact ⟨_,rfl⟩
theorem NJ(hc:X.calm=true):eh X (.builtin "min") (fun xs H Q=>∃i j,xs=[.int i,.int j]/\Q (.int (if j<i then j else i)) H):=by
 intro pins s σ H xs us Q I r h;obtain ⟨i,j,rfl,q⟩:=h;obtain ⟨u,w',rfl,⟨t,rfl⟩,⟨t',rfl⟩⟩:=vals2 r;refine min_two_ints (I.ok.hd hc) fun h' tk k=>⟨_,H,I.kept k,?_,q⟩
 by_cases hj:j<i
 ·rw [if_pos hj,if_pos hj];exact ⟨_,rfl⟩
 ·rw [if_neg hj,if_neg hj];exact ⟨_,rfl⟩
theorem NK:eh X (.type "int") (fun xs H Q=>(∃i,xs=[.int i]/\Q (.int i) H)\/∃k,xs=[.bl k]/\Q (.int (if k then 1 else 0)) H):=by
 intro pins s σ H xs us Q I r h;rcases h with ⟨i,rfl,q⟩|⟨k,rfl,q⟩
 ·obtain ⟨u,rfl,t,rfl⟩:=vals1 r
  exact call_int_int ⟨.int i,H,I,⟨_,rfl⟩,q⟩
 ·obtain ⟨u,rfl,r1⟩:=vals1 r
  cases r1;exact call_int_bool ⟨.int (if k then 1 else 0),H,I.tok _,⟨_,rfl⟩,q⟩
end
theorem NL{h:Heap}{dx:Addr}{mA:Str->Option Value}(n:h.Ns1 dx mA):∃od,h.get? dx=some od/\∀name,PySem.W.lookIn name od=some (mA name):=by
 obtain ⟨o,es,ep,ho,hd,hk,_,hm⟩:=n;refine ⟨o,ho,fun name=>?_⟩;have e:=hm name;unfold nsFind findBy at e;rw [<- Array.find?_toList] at e;unfold PySem.W.lookIn;rw [hd];dsimp only;split
 ·rename_i y q
  rw [q] at e;exact congrArg some e
 ·rename_i q
  rw [q] at e;have a:es.toList.any (·.refKey)=false:=by
   rw [List.any_eq_false];intro y hy;obtain ⟨z,t,hkey⟩:=hk y (Array.mem_toList_iff.mp hy);simp [DictEntry.refKey,hkey]
  have a':¬es.toList.any (·.refKey)=true:=by rw [a];exact VD
  rw [if_neg a'];exact congrArg some e
theorem lA.some_of{v:V}{o:Option Value}(r:lA (some v) o):∃u,o=some u/\RelV v u:=by
 cases o with
 |none=>exact (show False from r).elim
 |some u=>exact ⟨u,rfl,r⟩
theorem NM{v:V}{u:Value}(r:RelV v u):PySem.W.handedIn u=true:=by
 cases v with
 |non=>cases (show u=Value.none from r);rfl
 |bl b=>cases (show u=Value.bool b from r);rfl
 |int i=>obtain ⟨t,e⟩:=(show ∃t,u=Value.int i t from r);cases e;rfl
 |str x=>obtain ⟨t,e⟩:=(show ∃t,u=Value.str x t from r);cases e;rfl
 |qJ b=>obtain ⟨t,e⟩:=(show ∃t,u=Value.bytes b t from r);cases e;rfl
 |Ei b=>obtain ⟨t,e⟩:=(show ∃t,u=Value.float b t from r);cases e;rfl
 |ref a=>cases (show u=Value.ref a from r);rfl
 |ty n=>cases (show u=Value.type n from r);rfl
structure sZ(K:Zfr)(C:Addr)(f:Str)(v:V)(u:Value):Prop where
 at_:PySem.W.findIn K (.ref C) f=some (some u)
 rel:RelV v u
 get:PySem.W.specialIn K u "__get__" = some none
 cp:PySem.W.copiedNames.contains f=false
section
variable {X:Cx}{pins:List (Addr×Obj)}{σ:St}{H:Hp}{s:Shared}{a C dx:Addr}{fs:List (Str×V)}{f:Str}{v:V}{A:Around}{E:Value->Shared->Prop}
theorem NP{prog:Program}{w:World}{env:Env}{e:Expr}{f:Str}{pos:Pos}{s:Shared}{Q:Value->Shared->Prop}(hb:attributeBase e f env (eval e env)=eval e env)
  (h:wpAny (model prog w) A (eval e env) (fun o s₁=>wpAny (model prog w) A (getAttr o f true) Q E s₁) E s):wpAny (model prog w) A (eval (.Attribute e f pos) env) Q E s :=
 Attribute_any_ h (by rw [arm_eval_Attribute,hb])
end
structure cS(k:Nat)(A:Around):Prop where
 hd:A.handled=none
 dp:A.depth+3*k+5<recursionLimit
 un:A.units+16*k+200<cLine
 gd:A.guards=some []
theorem cS.mono{j k:Nat}{A:Around}(r:cS k A)(h:j<=k):cS j A:=⟨r.hd,by have:=r.dp;omega,by have:=r.un;omega,r.gd⟩
theorem cS.deeper{k:Nat}{A:Around}(r:cS (k+1) A)(env:Env):cS k (A.deeper env) :=
 ⟨r.hd,by have:=r.dp;show A.depth+1+3*k+5<_;omega,by have:=r.un;show A.units+3+16*k+200<_;omega,r.gd⟩
theorem NQ{A:Around}{C:Addr}{us:List Value}{kw:List (Str×Value)}:(A.under (.builtin "type.__call__" ⟨.ref C :: us,kw⟩)).depth=A.depth+1:=by
 first|rfl|simp [Around.under,Code.weight,Code.isCreation,Code.isGuard,Code.isCaller,Code.frames,Code.isFrame,guardIds]
theorem NR{A:Around}{C:Addr}{us:List Value}{kw:List (Str×Value)}:(A.under (.builtin "type.__call__" ⟨.ref C :: us,kw⟩)).units=A.units+1:=by
 first|rfl|simp [Around.under,Code.cUnits,Code.frames,Code.isFrame]
theorem NS{A:Around}{C:Addr}{us:List Value}{kw:List (Str×Value)}:(A.under (.builtin "type.__call__" ⟨.ref C :: us,kw⟩)).guards=A.guards:=by
 first|rfl|simp [Around.under,Code.guards,Code.isGuard,pushGuards,guardIds]
theorem cS.make{k:Nat}{A:Around}(r:cS (k+1) A)(C:Addr)(us:List Value)(kw:List (Str×Value)):cS k (A.under (.builtin "type.__call__" ⟨.ref C :: us,kw⟩)) :=
 ⟨r.hd,by have:=r.dp;rw [NQ];omega,by have:=r.un;rw [NR];omega,by rw [NS];exact r.gd⟩
theorem cS.depth{k:Nat}{A:Around}(r:cS k A):A.depth<recursionLimit:=by have:=r.dp;omega
theorem cS.units{k:Nat}{A:Around}(r:cS k A):A.units+64<cLine:=by have:=r.un;omega
def qo:TA:=fun _ H Q=>Q [] H
def jI(ta:TE)(tr:TA):TA:=fun σ H Q=>ta σ H fun x H1=>tr σ H1 fun xs H2=>Q (x :: xs) H2
section
variable {X:Cx}{e:Expr}{es:List Expr}{te:TE}{t:TA}{pos:Pos}
theorem az:PA X [] qo:=fun _ _ _ _ H Q I h=>Calls.spliced_nil ⟨[],H,I,.nil,h⟩
theorem ao(ha:PE X e te)(hr:PA X es t)(hs:starEach (e :: es) X.env=(false,eval e X.env) :: starEach es X.env:=by rfl):PA X (e :: es) (jI te t):=by
 intro pos pins s σ H Q I h;rw [hs];show wpAny _ _ (spliced ((false,eval e X.env) :: backTo pos (starEach es X.env))) _ _ s;refine Calls.spliced_cons (cj (ha pins s σ H _ I h) fun u s1 ⟨x,H1,I1,r1,q1⟩=>?_);exact cj (hr pos pins s1 σ H1 _ I1 q1) fun us s2 ⟨xs,H2,I2,r2,q2⟩=>⟨x :: xs,H2,I2,.cons r1 r2,q2⟩
def rA(t:TA):TE:=fun σ H Q=>t σ H fun xs H1=>xs.length<=sizeLine/\∀p,H1 p=none->Q (.ref p) (upd H1 p (.tup xs))
def A5(t:TA):TE:=fun σ H Q=>t σ H fun xs H1=>xs.length<=sizeLine/\∀p,H1 p=none->Q (.ref p) (upd H1 p (.lst xs))
theorem iU{x1}(h:PA X es t):PE X (.Tuple es x1 pos) (rA t):=by
 intro pins s σ H Q I hq;refine wpAny_Tuple_spliced (cj (h pos pins s σ H _ I hq) fun us s1 ⟨xs,H1,I1,r,z,q⟩=>⟨by rw [<- r.length];exact z,?_⟩);have hf:H1 s1.heap.objs.size=none:=I1.hok.fresh (VC _);refine ⟨.ref s1.heap.objs.size,upd H1 s1.heap.objs.size (.tup xs),I1.laid (t':=s1.toks) (fun b u e=>VH _ e) (VC _) ?_,rfl,q _ hf⟩;exact ⟨z,us,r,⟨_,V1 _ rfl,rfl,rfl,_,rfl⟩⟩
theorem kc(h:PA X es t):PE X (.List es pos) (A5 t):=by
 intro pins s σ H Q I hq;refine wpAny_List_spliced (cj (h pos pins s σ H _ I hq) fun us s1 ⟨xs,H1,I1,r,z,q⟩=>⟨by rw [<- r.length];exact z,?_⟩);have hf:H1 s1.heap.objs.size=none:=I1.hok.fresh (VC _);refine ⟨.ref s1.heap.objs.size,upd H1 s1.heap.objs.size (.lst xs),I1.laid (t':=s1.toks) (fun b u e=>VH _ e) (VC _) ?_,rfl,q _ hf⟩;exact ⟨z,us,0,r,V1 _ rfl⟩
end
abbrev Sp:=List V->Hp->VK->XK->Prop
abbrev pe:=List Env->Hp->Shared->XK->Value->Shared->Prop
structure pg(P:Program)(w:World)(K:Zfr)(mg:Str->Option Value)(base:Heap)(A:Around)(outer:List Env)(s:Shared)(H:Hp):Prop where
 frames:A.frames=some outer
 mod:Mod K mg base
 bs:∀b o,base.get? b=some o->s.heap.get? b=some o/\H b=none
 qK:base.objs.size<=s.heap.objs.size
 jR:s.heap.FunFrames base outer
 sX:∀b∈frs outer,H b=none
 hok:iO P w H s.heap
 bare:AllBare s.gens
def CE(outer:List Env)(P:Program)(w:World)(H:Hp)(s:Shared)(Q:VK)(u:Value)(s':Shared):Prop :=
 ∃v H',s'.os=s.os/\AllBare s'.gens/\Un (frs outer) [] H H' s.heap s'.heap/\iO P w H' s'.heap/\RelV v u/\Q v H'
def CR(CX:pe)(outer:List Env)(P:Program)(w:World)(H:Hp)(s:Shared)(Q:VK)(E:XK)(r:Result)(s':Shared):Prop :=
 match r with
 |.ok (.ret u)=>CE outer P w H s Q u s'
 |.ok _=>False
 |.error e=>CX outer H s E e s'
structure aH(P:Program)(w:World)(K:Zfr)(mg:Str->Option Value)(base:Heap)(CX:pe)(k:Nat)(f:Addr)(fd:FuncData)(ps:List Str)(sp:Sp):Prop where
 len:∀vs H Q E,sp vs H Q E->vs.length=ps.length
 run:∀(A:Around) (outer:List Env) (s:Shared) (H:Hp) (args:Args) (us:List Value) (vs:List V) (Q:VK) (E:XK),cS k A->pg P w K mg base A outer s H->BindsTo s fd args (ps.zip us)->Vals vs us->sp vs H Q E ->
  codeAny (model P w) A (.call (.ref f) args) (CR CX outer P w H s Q E) s
theorem aH.imp{P:Program}{w:World}{K:Zfr}{mg:Str->Option Value}{base:Heap}{CX:pe}{k:Nat}{f:Addr}{fd:FuncData}{ps:List Str}{sp JF:Sp}(F:aH P w K mg base CX k f fd ps sp)
  (h:∀vs H Q E,JF vs H Q E->sp vs H Q E):aH P w K mg base CX k f fd ps JF :=
 ⟨fun vs H Q E q=>F.len vs H Q E (h _ _ _ _ q),fun A outer s H args us vs Q E hr he hb hv hs=>F.run A outer s H args us vs Q E hr he hb hv (h _ _ _ _ hs)⟩
theorem pg.make{P:Program}{w:World}{K:Zfr}{mg:Str->Option Value}{base:Heap}{A:Around}{outer:List Env}{s:Shared}{H:Hp}(e:pg P w K mg base A outer s H)(C:Addr)(us:List Value)(kw:List (Str×Value)):
  pg P w K mg base (A.under (.builtin "type.__call__" ⟨.ref C :: us,kw⟩)) outer s H:=⟨by first|exact e.frames|(simpa [Around.under,Code.envs,Code.isFrame,pushEnvs] using e.frames),e.mod,e.bs,e.qK,e.jR,e.sX,e.hok,e.bare⟩
section
variable {X:Cx}{pins:List (Addr×Obj)}{σ:St}{H:Hp}{s s':Shared}
theorem Inv.tZ(I:Inv X pins σ H s):pg X.prog X.w X.K X.mg X.base X.A X.stack s H :=
 ⟨I.ok.frames,I.ok.mod,I.bs,V3 I.ok.qK I.sz,I.stack,I.mZ,I.hok,I.bare⟩
theorem Inv.after{Q:VK}{u:Value}(I:Inv X pins σ H s)(h:CE X.stack X.prog X.w H s Q u s'):EP X pins σ Q u s':=by
 obtain ⟨v,H',os,bare,un,hok,r,q⟩:=h;obtain ⟨hh,g,d,t,os'⟩:=s';obtain rfl:os'=s.os:=os;exact ⟨v,H',I.call (h':=hh) (g':=g) (d':=d) (t':=t) (ch:=[]) un hok bare (fun b z=>absurd z (by simp)),r,q⟩
end
def oj(sp:Sp)(jT:List V)(E:XK)(t:TA):TE:=fun σ H Q=>t σ H fun vs H1=>sp (vs ++ jT) H1 Q E
def Binds(K:Zfr)(fd:FuncData)(ps:List Str)(ds:List Value):Prop :=
 ∀(s:Shared) (us:List Value),K.In s.heap->(us ++ ds).length=ps.length->BindsTo s fd ⟨us,[]⟩ (ps.zip (us ++ ds))
theorem Binds.all{K:Zfr}{fd:FuncData}{ps:List Str}(h:∀us:List Value,us.length=ps.length->bindArgs fd ⟨us,[]⟩=pure (ps.zip us)):Binds K fd ps []:=fun s us _ hl=>by
 rw [Wl] at hl ⊢;exact .of_eq (h us hl)
def Passes(CX:pe)(X:Cx)(E:XK):Prop:=∀(pins:List (Addr×Obj)) (σ:St) (H:Hp) (s:Shared) (e:Value) (s':Shared),Inv X pins σ H s->CX X.stack H s E e s'->X.xe e s'
section
variable {X:Cx}{CX:pe}{k:Nat}{f C:Addr}{fd:FuncData}{ps:List Str}{sp:Sp}{jT:List V}{ds:List Value}{E:XK}{x m:Str}{p pos apos:Pos}{e o:Expr}{es:List Expr}{ta:TE}{t:TA}
theorem wW{pins:List (Addr×Obj)}{σ:St}{H:Hp}{s:Shared}{Q:VK}{us:List Value}{vs:List V}(F:aH X.prog X.w X.K X.mg X.base CX k f fd ps sp)(hr:cS k X.A)(hb:Binds X.K fd ps ds)(hd:Vals jT ds)(hx:Passes CX X E)
  (I:Inv X pins σ H s) (r:Vals vs us) (h:sp (vs ++ jT) H Q E):wpAny (model X.prog X.w) X.A (call (.ref f) us) (EP X pins σ Q) X.xe s:=by
 have r2:Vals (vs ++ jT) (us ++ ds):=r.append hd;have hl:(us ++ ds).length=ps.length:=by rw [<- r2.length];exact F.len _ _ _ _ h
 refine wpAny_call (codeAny_mono (F.run X.A X.stack s H ⟨us,[]⟩ (us ++ ds) (vs ++ jT) Q E hr I.tZ (hb s us I.mY hl) r2 h) fun r s' hq=>?_);cases r with
 |error e=>exact hx pins σ H s e s' I hq
 |ok fl =>
  cases fl with
  |ret u=>exact I.after hq
  |next=>exact False.elim hq
  |brk=>exact False.elim hq
  |cont=>exact False.elim hq
theorem JG(F:aH X.prog X.w X.K X.mg X.base CX k f fd ps sp)(hr:cS k X.A)(hg:Gl X x)(hm:X.mg x=some (.ref f))(hk:PySem.W.keepIn X.K (.ref f)=true)(hb:Binds X.K fd ps ds)(hd:Vals jT ds)(hx:Passes CX X E)
  (ha:PA X (e :: es) t) (hdb:(x == ("__debug__" : Str))=false:=by decide) (he:starEach (e :: es) X.env=(false,eval e X.env) :: starEach es X.env:=by rfl) (hpl:(backTo pos (starEach es X.env)).any (·.1)=false:=by rfl) :
  PE X (.Call (.Name x p) (e :: es) [] pos) (oj sp jT E t):=by
 intro pins s σ H Q I h;refine wpAny_Call_Name_kw (zC I hg hm ?_ hdb);refine PySem.W.callWith_K (h₀:=X.base) I.ok.mod.zB hk (cj (ha pos pins s σ H _ I h) fun us s1 ⟨vs,H1,I1,r,q⟩=>⟨I1.mY,?_⟩) he hpl;exact wW F hr hb hd hx I1 r q
end
structure aE(N P:List Str)(sc:Scope):Prop where
 kind:sc.kind=.function
 co:sc.isCoroutine=false
 gen:sc.isGenerator=false
 nd:N.Nodup
 pre:N.take P.length=P
 par:∀x∈P,sc.names.lookup x=some .local\/sc.names.lookup x=some .cell
 wX:∀y∈sc.names,y.2≠.free
theorem JH{kindOf:Str->Option NameKind}{x:Str}:∀{binds:List (Str×Value)} {m:Str->Option Value},(∀v,(x,v) ∉ binds)->bindL kindOf binds m x=m x
 |[],_,_=>rfl
 |(n,v) :: r,m,h=>by
  unfold bindL;rw [JH fun w hw=>h w (VL _ hw)];split
  ·have:x≠n:=by rintro rfl;exact h v VN
   simp [this]
  ·rfl
theorem JI{kindOf:Str->Option NameKind}{x:Str}:∀{binds:List (Str×Value)} {m:Str->Option Value},(∀v,(x,v) ∉ binds)->bindC kindOf binds m x=m x
 |[],_,_=>rfl
 |(n,v) :: r,m,h=>by
  unfold bindC;rw [JI fun w hw=>h w (VL _ hw)];split
  ·rfl
  ·have:x≠n:=by rintro rfl;exact h v VN
   simp [this]
theorem JJ{kindOf:Str->Option NameKind}{x:Str}{v:Value}:∀{P:List Str} {vs:List Value} {i:Nat} {m:Str->Option Value},P.Nodup->P[i]?=some x->vs[i]?=some v->kindOf x=some .local ->
  bindL kindOf (P.zip vs) m x=some v
 |[],_,_,_,_,h,_,_=>by simp at h
 |_ :: _,[],_,_,_,_,h,_=>by simp at h
 |p :: P,w :: vs,0,m,nd,h1,h2,hk=>by
  simp at h1 h2;subst h1;subst h2;show bindL kindOf ((p,w) :: P.zip vs) m p=_;unfold bindL;rw [JH fun v hv=>(WN.mp nd).1 (List.of_mem_zip hv).1,if_pos hk];simp
 |p :: P,w :: vs,i+1,m,nd,h1,h2,hk=>by
  show bindL kindOf ((p,w) :: P.zip vs) m x=_;unfold bindL;exact JJ (i:=i) (WN.mp nd).2 (by simpa using h1) (by simpa using h2) hk
theorem JK{kindOf:Str->Option NameKind}{x:Str}{v:Value}:∀{P:List Str} {vs:List Value} {i:Nat} {m:Str->Option Value},P.Nodup->P[i]?=some x->vs[i]?=some v->kindOf x≠some .local ->
  bindC kindOf (P.zip vs) m x=some v
 |[],_,_,_,_,h,_,_=>by simp at h
 |_ :: _,[],_,_,_,_,h,_=>by simp at h
 |p :: P,w :: vs,0,m,nd,h1,h2,hk=>by
  simp at h1 h2;subst h1;subst h2;show bindC kindOf ((p,w) :: P.zip vs) m p=_;unfold bindC;rw [JI fun v hv=>(WN.mp nd).1 (List.of_mem_zip hv).1,if_neg hk];simp
 |p :: P,w :: vs,i+1,m,nd,h1,h2,hk=>by
  show bindC kindOf ((p,w) :: P.zip vs) m x=_;unfold bindC;exact JK (i:=i) (WN.mp nd).2 (by simpa using h1) (by simpa using h2) hk
def start(N:List Str)(vs:List V):St:=vs.map some ++ List.replicate (N.length-vs.length) none
def eV(CX:pe)(P:Program)(w:World)(K:Zfr)(mg:Str->Option Value)(base:Heap)(N:List Str)(qual:Str)(scope:Scope)(f:Addr)(cd:Value)(A:Around)(outer:List Env)(s:Shared)(H:Hp)(E:XK):Cx where
 prog:=P
 w:=w
 K:=K
 mg:=mg
 base:=base
 A:=A.deeper (envOfC qual scope s.heap.objs.size f cd)
 N:=N
 s₀:=s
 H₀:=H
 env:=envOfC qual scope s.heap.objs.size f cd
 outer:=outer
 stack:=envOfC qual scope s.heap.objs.size f cd :: outer
 ex:=[]
 calm:=true
 fn:=fun _=>true
 pn:=[]
 xe:=fun e s'=>wpAny (model P w) (A.deeper (envOfC qual scope s.heap.objs.size f cd)) («leaving» (envOfC qual scope s.heap.objs.size f cd) e) (fun _ s''=>CX outer H s E e s'') (fun e' s''=>CX outer H s E e' s'') s'
theorem JL{sc:Scope}{n:Nat}{x:Str}(h:sc.names.lookup x=some .cell):∃c,(cellsFrom n sc.names []).lookup x=some c:=by
 have q:=PySem.W.cellsFrom_some sc.names n [] (.inl h);exact WU.mp q
theorem NT{CX:pe}{P:Program}{w:World}{K:Zfr}{mg:Str->Option Value}{base:Heap}{N ps:List Str}{qual:Str}{scope:Scope}{f:Addr}{cd:Value}{A:Around}{outer:List Env}{s s1:Shared}{H:Hp}{E:XK}{us:List Value}{vs:List V}
  (S:aE N ps scope) (hd:A.handled=none) (e0:pg P w K mg base A outer s H) (hl:vs.length=ps.length) (r:Vals vs us)
  (x:InCallC s s.heap.objs.size (bindL (envOfC qual scope s.heap.objs.size f cd).kindOf (ps.zip us) fun _=>none) (cellsFrom (s.heap.objs.size+1) scope.names []) (bindC (envOfC qual scope s.heap.objs.size f cd).kindOf (ps.zip us) fun _=>none) s1) :
  Inv (eV CX P w K mg base N qual scope f cd A outer s H E) [] (start N vs) H s1:=by
 have hpl:ps.length<=N.length:=by have:=congrArg List.length S.pre;rw [WD] at this;omega
 obtain ⟨h1,tk,rfl,hk⟩:=x.done;have A6:∀b:Addr,b ∉ (eV CX P w K mg base N qual scope f cd A outer s H E).ex:=fun b z=>absurd (show b∈([]:List Addr) from z) (by simp)
 refine ⟨⟨e0.mod,S.kind,rfl,rfl,VC _,fun y z c h1 h2=>?_,fun y hy=>?_,fun y c _ h=>?_,fun _=>hd,Around.frames_deeper e0.frames,.inr ⟨rfl,rfl⟩,fun b z=>absurd z (A6 b),e0.bs,e0.qK,fun b _ _=>A6 b,fun b z=>absurd z (A6 b),e0.jR,e0.sX⟩,
  rfl,e0.bare,Un.kept hk,⟨_,x.toInCall.ns,fun i y v h1 h2 h3=>?_⟩,fun y c h=>⟨_,x.cell y c h⟩,e0.hok.fresh (VC _),fun y c h=>?_,fun p hp=>absurd (show p∈([]:List (Addr×Obj)) from hp) (by simp),e0.hok.kept hk,?_⟩
 ·exact name_of_addr x.apart (PySem.mem_of_lookup h1) (PySem.mem_of_lookup h2)
 ·have hy:scope.names.lookup y=some .cell\/scope.names.lookup y=some .free:=hy
  rcases hy with hy|hy
  ·exact JL hy
  ·exact absurd rfl (S.wX _ (PySem.mem_of_lookup hy))
 ·exact Nat.le_of_lt (x.above y c (PySem.mem_of_lookup h))
 ·have hi:i < vs.length:=by
   unfold start at h2
   by_cases hi:i<vs.length
   ·exact hi
   ·rw [VX (by simpa using hi)] at h2
    rw [WZ] at h2;split at h2<;>cases h2
  have ha:vs[i]?=some v:=by
   unfold start at h2;rw [VM (by simpa using hi),VP] at h2;cases e:vs[i]? with
   |none=>rw [e] at h2;cases h2
   |some a=>rw [e] at h2;cases h2;rfl
  obtain ⟨u,hu,rv⟩:=r.get ha;have hp:ps[i]?=some y:=by
   rw [<- S.pre,List.getElem?_take_of_lt (by omega)];exact h1
  have JM:ps.Nodup:=by rw [<- S.pre];exact S.nd.sublist (List.take_sublist _ _)
  refine ⟨u,rv,?_⟩;rcases S.par y (VI hp) with k|k
  ·exact .inl ⟨k,JJ JM hp hu k⟩
  ·obtain ⟨c,e⟩:=JL (n:=s.heap.objs.size+1) k
   refine .inr ⟨.inl k,c,e,?_⟩;have q:=x.cell y c e;rw [JK JM hp hu (by show scope.names.lookup y≠_;rw [k];decide)] at q;exact q
 ·exact e0.hok.fresh (Nat.le_of_lt (x.above y c (PySem.mem_of_lookup h)))
 ·unfold start
  show _=N.length;rw [VE,Vz,W5];omega
theorem vd{CX:pe}{P:Program}{w:World}{K:Zfr}{mg:Str->Option Value}{base:Heap}{k:Nat}{f:Addr}{name qual:Str}{params:Arguments}{body:List Stmt}{scope:Scope}{dV kV doc pm cdv ct oc:Value}{an od:Option Addr}
  {osl:Array (Option Value)} {N ps:List Str} {sp:Sp} (lk:K.lookup f=some ⟨oc,od,.func (PySem.W.fnOf name qual params body scope dV kV doc pm an cdv ct),osl⟩) (hcd:PySem.W.codeIn K cdv qual=true) (S:aE N ps scope)
  (len:∀vs H Q E,sp vs H Q E->vs.length=ps.length)
  (hbody:∀(A:Around) (outer:List Env) (s:Shared) (H:Hp) (vs:List V) (Q:VK) (E:XK),cS k (A.deeper (envOfC qual scope s.heap.objs.size f cdv))->sp vs H Q E ->
   ∃t,oZ (eV CX P w K mg base N qual scope f cdv A outer s H E) body t/\t { nx:=fun _ H'=>Q .non H',rt:=Q } (start N vs) H) :
  aH P w K mg base CX (k+1) f (PySem.W.fnOf name qual params body scope dV kV doc pm an cdv ct) ps sp:=by
 refine ⟨len,fun A outer s H args us vs Q E hr e0 hb r qM=>?_⟩;have hl:=len _ _ _ _ qM;have KX:K.In s.heap:=e0.mod.zB.keeps fun b o e=>(e0.bs b o e).1;have lim:s.heap.NoLimit:=e0.mod.nolimit.keeps fun b o e=>(e0.bs b o e).1;have hkind:∀y∈ps.zip us,scope.names.lookup y.1=some .local\/(scope.names.lookup y.1=some .cell/\((cellsFrom (s.heap.objs.size+1) scope.names []).lookup y.1).isSome=true):=fun ⟨n,v⟩ hy=>by
  rcases S.par n (List.of_mem_zip hy).1 with q|q
  ·exact .inl q
  ·exact .inr ⟨q,PySem.W.cellsFrom_some _ _ _ (.inl q)⟩
 refine codeAny_call_function hr.depth (KX _ _ lk) rfl S.co S.gen rfl (PySem.W.codeRec_of KX hcd) (hb _ _ _ _ ?_);refine wpAny_newFunctionEnv_cells S.kind hkind fun env he s1 x=>?_;subst he;refine ⟨lim.keeps x.toInCall.keep,codeAny_func ?_⟩;obtain ⟨t,ht,hq⟩:=hbody A outer s H vs Q E (hr.deeper _) qM;have I:Inv (eV CX P w K mg base N qual scope f cdv A outer s H E) [] (start N vs) H s1:=NT S hr.hd e0 hl r x;refine wpAny_mono (ht [] s1 (start N vs) H _ I hq) (fun fl s' hs=>?_) fun e s' hs=>hs;have fin:∀{σ':St} {H':Hp} {v:V} {u:Value},Inv (eV CX P w K mg base N qual scope f cdv A outer s H E) [] σ' H' s'->RelV v u->Q v H'->CE outer P w H s Q u s' :=
  fun {σ' H' v u} J rv q=>⟨v,H',J.os,J.bare,J.base,J.hok,rv,q⟩
 cases fl with
 |ret u =>
  obtain ⟨v,σ',H',J,rv,q⟩:=hs;exact fin J rv q
 |next =>
  obtain ⟨σ',H',J,q⟩:=hs;exact fin (v:=V.non) (u:=Value.none) J rfl q
 |brk =>
  obtain ⟨_,_,_,q⟩:=hs;exact False.elim q
 |cont =>
  obtain ⟨_,_,_,q⟩:=hs;exact False.elim q
section
variable {X:Cx}{x:Str}{p pos:Pos}{e:Expr}{es:List Expr}{t:TA}{id T:String}{r:List V->Hp->VK->Prop}
def A7(r:List V->Hp->VK->Prop)(t:TA):TE:=fun σ H Q=>t σ H fun vs H1=>r vs H1 Q
theorem iL(hc:eh X (.builtin id) r)(hg:Gl X x)(hm:X.mg x=none)(hv:bootBuiltins x=some (.builtin id))(ha:PA X (e :: es) t)(hn:x≠"__name__" := by decide)(hdb:(x == ("__debug__" : Str))=false:=by decide)
  (he:starEach (e :: es) X.env=(false,eval e X.env) :: starEach es X.env:=by rfl) (hpl:(backTo pos (starEach es X.env)).any (·.1)=false:=by rfl):PE X (.Call (.Name x p) (e :: es) [] pos) (A7 r t):=by
 intro pins s σ H Q I h;refine wpAny_Call_Name_kw (zD I hg hm hv ?_ hn hdb);exact PyProof.Rows.callWith_builtin1 (cj (ha pos pins s σ H _ I h) fun us s1 ⟨vs,H1,I1,r1,q1⟩=>hc pins s1 σ H1 vs us Q I1 r1 q1) he hpl
theorem gx(hc:eh X (.type T) r)(hg:Gl X x)(hm:X.mg x=none)(hv:bootBuiltins x=some (.type T))(ha:PA X (e :: es) t)(hn:x≠"__name__" := by decide)(hdb:(x == ("__debug__" : Str))=false:=by decide)
  (he:starEach (e :: es) X.env=(false,eval e X.env) :: starEach es X.env:=by rfl) (hpl:(backTo pos (starEach es X.env)).any (·.1)=false:=by rfl):PE X (.Call (.Name x p) (e :: es) [] pos) (A7 r t):=by
 intro pins s σ H Q I h;refine wpAny_Call_Name_kw (zD I hg hm hv ?_ hn hdb);exact PyProof.Rows.callWith_type1 (cj (ha pos pins s σ H _ I h) fun us s1 ⟨vs,H1,I1,r1,q1⟩=>hc pins s1 σ H1 vs us Q I1 r1 q1) he hpl
end
end L2
namespace HT
open PySem PyProof.Rows
theorem NU(A:Around)(s:Shared)(a:Int)(t:Tok)(c:Int)(u:Tok):∃e,SeqAt.EqAt A s (.int a t) (.int c u) e/\(e=true↔a=c) :=
 ⟨(a == c),SeqAt.EqAt.int_int a t c u,by simp⟩
section
variable {prog:Program}{w:World}{A:Around}{E:Value->Shared->Prop}{s:Shared}
theorem NV{t b:Addr}{vs ws:List Value}{Q:Value->Shared->Prop}(ht:IsTup s.heap t vs.toArray)(hb:IsTup s.heap b ws.toArray)(hv:vs≠[])
  (h1:ws=[]->Q (.ref t) s) (h2:ws≠[]->Q (.ref s.heap.objs.size) { s with heap:=s.heap.push { cls:=.type "tuple",data:=.seq (vs ++ ws).toArray } })
  (hsz:vs.length+ws.length<=sizeLine):wpAny (model prog w) A (binaryOp .Add (.ref t) (.ref b)) Q E s:=by
 obtain ⟨⟨cls,dd,data,sl⟩,ho,hc,n,hd⟩:=id ht;obtain ⟨⟨GF,dd2,data2,sl2⟩,ho2,hc2,n2,hd2⟩:=id hb;simp only at hc hd hc2 hd2;subst hc hd hc2 hd2;have e:vs.toArray ++ ws.toArray=(vs ++ ws).toArray:=by simp
 by_cases hw:ws=[]
 ·exact concat_meets ⟨_,ho,rfl⟩ ⟨_,ho2,rfl⟩ noFill_tuple_add seq_tuple_add PySem.F.slot_tuple_add PySem.F.entry_tuple_add (PySem.F.args_tuple_add_2 _ _)
   (tuple_addW1 t b vs.toArray ws.toArray n n2 dd dd2 sl sl2 (by simpa using hv) (by simp [hw])) ⟨ho,ho2,h1 hw⟩
 ·refine concat_meets ⟨_,ho,rfl⟩ ⟨_,ho2,rfl⟩ noFill_tuple_add seq_tuple_add PySem.F.slot_tuple_add PySem.F.entry_tuple_add (PySem.F.args_tuple_add_2 _ _)
   (tuple_addW2 t b vs.toArray ws.toArray n n2 dd dd2 sl sl2 (by simpa using hv) (by simpa using hw) (by rw [VQ,VQ];exact hsz)) ⟨ho,ho2,?_⟩
  rw [e];exact h2 hw
def cx(n d:Nat):Option Int->Nat
 |none=>d
 |some v=>if v<0 then (v+(n:Int)).toNat else min v.toNat n
theorem NW(n d:Nat):cx n d none=d:=rfl
theorem GG(n d k:Nat):cx n d (some (k:Int))=min k n:=by
 show (if (k:Int)<0 then ((k:Int)+(n:Int)).toNat else min (k:Int).toNat n)=min k n;rw [if_neg (by omega),VR]
theorem wY(n d:Nat)(hd:d<=n)(o:Option Int):cx n d o<=n:=by
 cases o with
 |none=>exact hd
 |some v =>
  show (if v<0 then (v+(n:Int)).toNat else min v.toNat n)<=n
  by_cases hv:v<0
  ·rw [if_pos hv];omega
  ·rw [if_neg hv];exact Nat.min_le_right _ _
theorem JN(v:Int)(n d:Nat):(if v<0 then max (v+(n:Int)) 0 else min v (n:Int))=((cx n d (some v):Nat):Int):=by
 show (if v<0 then max (v+(n:Int)) 0 else min v (n:Int))=(((if v<0 then (v+(n:Int)).toNat else min v.toNat n):Nat):Int)
 by_cases hv:v<0
 ·simp only [if_pos hv];omega
 ·simp only [if_neg hv];omega
theorem NX(lo hi:Option Int)(n:Nat):Builtin.Slice.sliceAdjust lo hi 1 (n:Int)=(((cx n 0 lo:Nat):Int),((cx n n hi:Nat):Int)):=by
 have h1:¬((1:Int)<0):=by omega
 unfold Builtin.Slice.sliceAdjust;simp only [h1,if_false];refine Prod.ext ?_ ?_
 ·cases lo with
  |none=>rfl
  |some v=>exact JN v n 0
 ·cases hi with
  |none=>rfl
  |some v=>exact JN v n n
theorem NY(i j:Nat):Builtin.Slice.slicePlaces (i:Int) (j:Int) 1=j-i:=by
 unfold Builtin.Slice.slicePlaces;have h1:(1:Int) > 0:=by omega
 simp only [h1,if_true,Int.ediv_one];split<;>omega
theorem JO{v:Value}{o:Option Int}{Q:Option Int->Shared->Prop}(p:IsPart v o)(h:Q o s):wpAny (model prog w) A (Builtin.Slice.slicePartIndex v) Q E s:=by
 cases p with
 |none=>exact slicePart_none h
 |int i t=>exact slicePart_int h
theorem JP{sl:Addr}{vl vu:Value}{lo hi:Option Int}{n:Nat}{Q:Int×Int×Nat->Shared->Prop}(hs:s.heap.IsSliceOf sl vl vu .none)(pl:IsPart vl lo)(pu:IsPart vu hi)
  (h:Q (((cx n 0 lo:Nat):Int),1,cx n n hi-cx n 0 lo) s):wpAny (model prog w) A (Builtin.Slice.sliceApplied (.ref sl) (pure (n:Int))) Q E s:=by
 obtain ⟨os,hos,hcs,hds⟩:=id hs;unfold Builtin.Slice.sliceApplied Builtin.Slice.sliceFields;refine wpAny_bind (wpAny_bind (wpAny_field hos hds (x:=vl) rfl (wpAny_bind (wpAny_field hos hds (x:=vu) rfl (wpAny_bind (wpAny_field hos hds (x:=.none) rfl (wpAny_pure ?_)))))));refine wpAny_bind (slicePart_none ?_);show wpAny _ _ (if ((1:Int) == 0)=true then _ else _) _ _ s;rw [if_neg (by decide)];refine wpAny_bind (JO pl (wpAny_bind (JO pu (wpAny_bind (wpAny_pure ?_)))));show wpAny _ _ (match Builtin.Slice.sliceAdjust lo hi 1 (n:Int) with|(lo,hi)=>pure (lo,(1:Int),Builtin.Slice.slicePlaces lo hi 1)) _ _ s;rw [NX lo hi n];show wpAny _ _ (pure (((cx n 0 lo:Nat):Int),(1:Int),Builtin.Slice.slicePlaces ((cx n 0 lo:Nat):Int) ((cx n n hi:Nat):Int) 1)) _ _ s;rw [NY];exact wpAny_pure h
theorem NZ(xs:Array Value)(i k:Nat):((List.range k).filterMap fun (m:Nat)=>xs[((i:Int)+(m:Int)*1).toNat]?).toArray=((xs.toList.drop i).take k).toArray:=by
 have e:(fun (m:Nat)=>xs[((i:Int)+(m:Int)*1).toNat]?)=fun m=>xs[i+m]?:=by
  funext m
  have:((i:Int)+(m:Int)*1).toNat=i+m:=by omega
  rw [this]
 rw [e];have:=pick_run xs i k;rw [List.filterMap_map] at this;have e2:((fun x=>xs[x]?) ∘ fun x=>i+x)=fun m=>xs[i+m]?:=rfl;rw [e2] at this;rw [this]
theorem N0{t sl:Addr}{items:Array Value}{vl vu:Value}{lo hi:Option Int}{Q:Value->Shared->Prop}(ht:IsTup s.heap t items)(hs:s.heap.IsSliceOf sl vl vu .none)(pl:IsPart vl lo)(pu:IsPart vu hi)
  (hw:¬(cx items.size 0 lo=0/\cx items.size items.size hi=items.size))
  (h:Q (.ref s.heap.objs.size) { s with heap:=s.heap.push { cls:=.type "tuple",data:=.seq ((items.toList.drop (cx items.size 0 lo)).take (cx items.size items.size hi-cx items.size 0 lo)).toArray } })
  (hsz:items.size<=sizeLine):wpAny (model prog w) A (getItem (.ref t) (.ref sl)) Q E s:=by
 have pN:sizeOk (.seq ((items.toList.drop (cx items.size 0 lo)).take (cx items.size items.size hi-cx items.size 0 lo)).toArray):=by
  show ((items.toList.drop (cx items.size 0 lo)).take (cx items.size items.size hi-cx items.size 0 lo)).toArray.size<=sizeLine;rw [VQ,WD,List.length_drop,Array.length_toList];omega
 have hj:cx items.size items.size hi<=items.size:=wY _ _ (VC _) hi;obtain ⟨os,hos,hcs,hds⟩:=id hs;have GH:s.TypeIs (.ref sl) "slice" := ⟨os,hos,hcs⟩;unfold getItem
 try with_reducible refine wpAny_holding ?_
 first|refine wpAny_bind (wpAny_pure ?_)|skip
 refine wpAny_bind (wpAny_sequenceKey ht.typeIs (by decide) ?_)
 refine wpAny_bind (wpAny_callSpecial?_slot (name:=Str.ofString "__getitem__") ht.typeIs PyProof.Rows.slot_tuple_getitem
  (wpAny_call_entry PyProof.Rows.slot_tuple_getitem ht.typeIs entry_tuple_getitem ?_ (args_tuple_getitem _ _)))
 show wpAny _ _ (Builtin.Tuple.tupleItemsOf (.ref t) >>= _) _ _ s;refine wpAny_bind (tupleItemsOf_ ht ?_);refine wpAny_bind (wpAny_typeOf GH ?_);rw [if_pos (by decide)];refine wpAny_bind (JP hs pl pu ?_);have hno:¬((((cx items.size 0 lo:Nat):Int) == 0 && (1:Int) == 1 && (cx items.size items.size hi-cx items.size 0 lo) == items.size)=true):=by
  intro q;rw [VS,VS] at q;have q1:((cx items.size 0 lo:Nat):Int)=0:=eq_of_beq q.1.1;have q2:cx items.size items.size hi-cx items.size 0 lo=items.size:=eq_of_beq q.2;exact hw ⟨by omega,by omega⟩
 show wpAny _ _ (if (((cx items.size 0 lo:Nat):Int) == 0 && (1:Int) == 1 && (cx items.size items.size hi-cx items.size 0 lo) == items.size)=true then _ else _) _ _ s;rw [if_neg hno,NZ]
 first
  |exact wpAny_bind (m:=Builtin.Tuple.tupleExact _) (wpAny_newObj_type (wpAny_pure ⟨_,rfl,wpAny_pure h⟩) pN)
  |exact wpAny_bind (m:=Builtin.Tuple.tupleExact _) (wpAny_newObj_type (wpAny_bind (wpAny_pure (wpAny_pure ⟨_,rfl,wpAny_pure h⟩))) pN)
  |exact wpAny_bind (wpAny_bind (m:=Builtin.Tuple.tupleExact _) (wpAny_newObj_type (wpAny_pure (wpAny_pure ⟨_,rfl,wpAny_pure h⟩)) pN))
  |exact wpAny_bind (wpAny_bind (m:=Builtin.Tuple.tupleExact _) (wpAny_newObj_type (wpAny_pure ⟨_,rfl,wpAny_pure h⟩) pN))
end
end HT
namespace L2
open PySem PySem.Spec PyProof.Rows
abbrev TO:=St->Hp->(Option Int->Hp->Prop)->Prop
def PO(X:Cx)(e:Option Expr)(t:TO):Prop :=
 ∀(pins:List (Addr×Obj)) (s:Shared) (σ:St) (H:Hp) (Q:Option Int->Hp->Prop),Inv X pins σ H s->t σ H Q ->
  wpAny (model X.prog X.w) X.A (evalPart e X.env) (fun u s'=>∃o H',Inv X pins σ H' s'/\IsPart u o/\Q o H') X.xe s
def pO:TO:=fun _ H Q=>Q none H
def ve(t:TE):TO:=fun σ H Q=>t σ H fun x H1=>∃i,x=.int i/\Q (some i) H1
theorem JQ{ns:List Int}:∀{us:List Value},Vals (ns.map V.int) us->IntsAre us ns:=by
 induction ns with
 |nil=>intro us r;rw [Wm] at r;cases r;exact .nil
 |cons n ns ih =>
  intro us r;rw [V0] at r;cases r with
  |cons r1 r2 =>
   obtain ⟨t,e⟩:=r1;subst e;exact .cons n t (ih r2)
section
variable {X:Cx}{e:Expr}{te:TE}{lo hi:Option Expr}{tl th:TO}{pos p2:Pos}
theorem GJ:PO X none pO:=by
 intro pins s σ H Q I h;rw [evalPart_none];exact wpAny_pure ⟨none,H,I,.none,h⟩
theorem A8(h:PE X e te):PO X (some e) (ve te):=by
 intro pins s σ H Q I hw;rw [evalPart_some];refine cj (h pins s σ H _ I hw) fun u s1 ⟨x,H1,I1,r1,q1⟩=>?_;obtain ⟨i,rfl,q⟩:=q1;obtain ⟨t,rfl⟩:=r1;exact ⟨some i,H1,I1,.int i t,q⟩
def Es(X:Cx)(r:V->Option Int->Option Int->Hp->VK->Prop):Prop :=
 ∀(pins:List (Addr×Obj)) (s:Shared) (σ:St) (H:Hp) (x:V) (v vl vu:Value) (lo hi:Option Int) (sl:Addr) (Q:VK),Inv X pins σ H s->RelV x v->s.heap.IsSliceOf sl vl vu .none->IsPart vl lo->IsPart vu hi->r x lo hi H Q ->
  ∃T id,typeLookup (.type T) "__getitem__" = pure (some (.builtin id))/\s.TypeIs v T/\wpAny (model X.prog X.w) X.A (getItem v (.ref sl)) (EP X pins σ Q) X.xe s
def JR(r:V->Option Int->Option Int->Hp->VK->Prop)(te:TE)(tl th:TO):TE:=fun σ H Q=>te σ H fun x H1=>tl σ H1 fun l H2=>th σ H2 fun u H3=>r x l u H3 Q
theorem Et{r:V->Option Int->Option Int->Hp->VK->Prop}(hr:Es X r)(he:PE X e te)(hl:PO X lo tl)(hu:PO X hi th):PE X (.Subscript e (.Slice lo hi none p2) pos) (JR r te tl th):=by
 intro pins s σ H Q I h;refine Subscript_ (cj (he pins s σ H _ I h) fun v s1 ⟨x,H1,I1,r1,q1⟩=>?_);refine wpAny_Slice (cj (hl pins s1 σ H1 _ I1 q1) fun vl s2 ⟨l,H2,I2,pl,q2⟩=>cj (hu pins s2 σ H2 _ I2 q2) fun vu s3 ⟨u,H3,I3,pu,q3⟩=>?_);rw [evalPart_none];refine wpAny_pure ?_;have I4:Inv X pins σ H3 { s3 with heap:=s3.heap.push { cls:=.type "slice",data:=.fields #[vl,vu,.none] } }:=I3.kept (t':=s3.toks) fun b ob q=>VH _ q;obtain ⟨T,id,hT,ht,hg⟩:=hr pins { s3 with heap:=s3.heap.push { cls:=.type "slice",data:=.fields #[vl,vu,.none] } } σ H3 x v vl vu l u s3.heap.objs.size Q I4 r1 (Heap.IsSliceOf.new ..) pl pu q3;show wpAny (model X.prog X.w) X.A (subscriptTail e (.Slice lo hi none p2) v (.ref s3.heap.objs.size)) (EP X pins σ Q) X.xe { s3 with heap:=s3.heap.push { cls:=.type "slice",data:=.fields #[vl,vu,.none] } };exact tail_any (ops:=[.ref s3.heap.objs.size,v]) ht hT hg (by with_unfolding_all rfl)
def lF(xs:List V)(lo hi:Option Int):List V:=(xs.drop (HT.cx xs.length 0 lo)).take (HT.cx xs.length xs.length hi-HT.cx xs.length 0 lo)
theorem JS(xs:List V)(lo hi:Option Int):(lF xs lo hi).length<=xs.length:=by
 unfold lF;rw [WD,List.length_drop];omega
def GK(K:Zfr):V->Option Int->Option Int->Hp->VK->Prop:=fun x lo hi H Q=>∃a xs,x=.ref a/\eu K H a xs /\
 ¬(HT.cx xs.length 0 lo=0/\HT.cx xs.length xs.length hi=xs.length)/\∀p,H p=none->Q (.ref p) (upd H p (.tup (lF xs lo hi)))
theorem wZ:Es X (GK X.K):=by
 intro pins s σ H x v vl vu lo hi sl Q I rx hs pl pu h;obtain ⟨a,xs,rfl,hx,hw,q⟩:=h;cases rx;obtain ⟨its,r,ht,hz⟩:=I.tuple hx;have hlen:its.toArray.size=xs.length:=by rw [VQ];exact r.length.symm
 refine ⟨"tuple",_,PyProof.Rows.slot_tuple_getitem.lookup,ht.typeIs,?_⟩;refine HT.N0 ht hs pl pu (by rw [hlen];exact hw) ?_ (by rw [hlen];exact hz);rw [hlen];refine ⟨.ref s.heap.objs.size,_,I.laid (t':=s.toks) (o:=.tup (lF xs lo hi)) (fun b ob q=>VH _ q) (VC _) ?_,rfl,q _ (I.hok.fresh (VC _))⟩;exact ⟨V3 (JS xs lo hi) hz,_,(r.drop (HT.cx xs.length 0 lo)).take (HT.cx xs.length xs.length hi-HT.cx xs.length 0 lo),mV.new _ _⟩
def A9(K:Zfr):R2:=fun x y H Q=>∃a b xs ys,x=.ref a/\y=.ref b/\eu K H a xs/\eu K H b ys/\xs≠[]/\xs.length+ys.length<=sizeLine /\
 (ys=[]->Q (.ref a) H)/\(ys≠[]->∀p,H p=none->Q (.ref p) (upd H p (.tup (xs ++ ys))))
theorem Vals.kY{xs:List V}{us:List Value}(r:Vals xs us):us=[]↔xs=[]:=by
 cases r with
 |nil=>simp
 |cons _ _=>simp
theorem N1:ka X (binaryOp .Add) (A9 X.K):=by
 intro pins s σ H x y v u Q I rx ry h;obtain ⟨a,b,xs,ys,rfl,rfl,ha,hb,hx,hz,q1,q2⟩:=h;cases rx;cases ry;obtain ⟨its,r1,p1,_⟩:=I.tuple ha;obtain ⟨its2,r2,p2,_⟩:=I.tuple hb;refine HT.NV p1 p2 (fun z=>hx (r1.kY.mp z)) (fun z=>⟨.ref a,H,I,rfl,q1 (r2.kY.mp z)⟩) (fun z=>?_) (by rw [<- r1.length,<- r2.length];exact hz);refine ⟨.ref s.heap.objs.size,_,I.laid (t':=s.toks) (o:=.tup (xs ++ ys)) (fun b ob q=>VH _ q) (VC _) ?_,rfl,q2 (fun w=>z (r2.kY.mpr w)) _ (I.hok.fresh (VC _))⟩;exact ⟨by rw [VE];exact hz,_,r1.append r2,mV.new _ _⟩
end
def kZ(n:Nat)(i:Int):Option Nat:=if 0<=i then (if i<n then some i.toNat else none) else if -(n:Int)<=i then some (i+n).toNat else none
def eo{α:Type}(xs:List α)(i:Int):Option α:=(kZ xs.length i).bind fun j=>xs[j]?
theorem GL{n:Nat}{i:Int}{j:Nat}(h:kZ n i=some j):seqIndex? i n=some j/\j<n/\-(n:Int)<=i/\i<n:=by
 unfold kZ at h
 by_cases h0:0<=i
 ·rw [if_pos h0] at h
  by_cases h1:i<n
  ·rw [if_pos h1] at h
   have e:i.toNat=j:=VJ h;exact ⟨by rw [seqIndex_of h0 h1,e],by omega,by omega,h1⟩
  ·rw [if_neg h1] at h;cases h
 ·rw [if_neg h0] at h
  by_cases h1:-(n:Int)<=i
  ·rw [if_pos h1] at h
   have e:(i+n).toNat=j:=VJ h;exact ⟨by rw [seqIndex_neg (by omega) h1,e],by omega,h1,by omega⟩
  ·rw [if_neg h1] at h;cases h
theorem JT{α:Type}{xs:List α}{i:Int}{v:α}(h:eo xs i=some v):∃j,seqIndex? i xs.length=some j/\xs[j]?=some v/\j<xs.length/\-(xs.length:Int)<=i/\i<xs.length:=by
 unfold eo at h;cases e:kZ xs.length i with
 |none=>rw [e] at h;cases h
 |some j =>
  rw [e] at h;obtain ⟨h1,h2,h3,h4⟩:=GL e;exact ⟨j,h1,h,h2,h3,h4⟩
theorem zH{α:Type}{xs:List α}{j:Nat}{v:α}(h:xs[j]?=some v):eo xs (j:Int)=some v:=by
 have hj:j<xs.length:=(VA.mp h).1;have e:kZ xs.length (j:Int)=some j:=by
  unfold kZ;rw [if_pos (by omega),if_pos (by omega)];simp
 unfold eo;rw [e];exact h
def t9(b:Expr):Prop:=∀o i,subscripted b false o i=operate [o,i] (getItem o i)
def Ba(X:Cx)(r:R2):Prop :=
 ∀(value slice:Expr) (pins:List (Addr×Obj)) (s:Shared) (σ:St) (H:Hp) (x y:V) (v u:Value) (Q:VK),Inv X pins σ H s->RelV x v->RelV y u->r x y H Q ->
  subscripted slice false v u=operate [v,u] (getItem v u)->wpAny (model X.prog X.w) X.A (subscriptTail value slice v u) (EP X pins σ Q) X.xe s
def vf(X:Cx)(id:String)(r:V->List V->Hp->VK->Prop):Prop :=
 ∀(pins:List (Addr×Obj)) (s:Shared) (σ:St) (H:Hp) (x:V) (xs:List V) (v:Value) (us:List Value) (Q:VK),Inv X pins σ H s->RelV x v->Vals xs us->r x xs H Q ->
  wpAny (model X.prog X.w) X.A (call (.builtin id) (v :: us)) (EP X pins σ Q) X.xe s
section
variable {X:Cx}{a b:Expr}{ta tb:TE}{pos:Pos}
theorem cb{r:R2}(hr:Ba X r)(ha:PE X a ta)(hb:PE X b tb)(hs:t9 b):PE X (.Subscript a b pos) (A0 r ta tb):=by
 intro pins s σ H Q I h;exact Subscript_ (wO ha hb I h fun v u s2 x y H2 I2 rx ry q=>hr a b pins s2 σ H2 x y v u Q I2 rx ry q (hs _ _))
def w6(K:Zfr):R2:=fun x y H Q=>∃p xs i v,x=.ref p/\y=.int i/\jC K H p xs/\eo xs i=some v/\Q v H
def w8(K:Zfr):R2:=fun x y H Q=>∃p xs i v,x=.ref p/\y=.int i/\eu K H p xs/\eo xs i=some v/\Q v H
theorem kN:Ba X (w6 X.K):=by
 intro value slice pins s σ H x y v u Q I rx ry h hs;obtain ⟨p,xs,i,z,rfl,rfl,hq,he,q⟩:=h;cases rx;obtain ⟨t,rfl⟩:=ry;obtain ⟨its,r,pl,hz⟩:=I.list hq;obtain ⟨j,h1,h2,h3,h4,h5⟩:=JT he;obtain ⟨w,ew,rw'⟩:=r.get h2;have hl:=r.length;have hn:=m8;have fin:EP X pins σ Q w s:=⟨z,H,I,rw',q⟩
 by_cases h0:0<=i
 ·have hj:i.toNat=j:=by
   rw [seqIndex_of h0 h5] at h1;exact VJ h1
  exact item_listR pl.isList h0 (by omega) (by rw [hj];simpa using ew) fin hs
 ·have hj:(i + (its.toArray.size:Int)).toNat=j:=by
   rw [seqIndex_neg (by omega) h4] at h1;rw [VQ,<- hl];exact VJ h1
  exact subscriptTail_builtinR (x:=w) pl.isList.typeIs slot_list_getitem.lookup
   (wpAny_getItem_list_neg (Q:=fun r s'=>r=w/\EP X pins σ Q r s') pl.isList (by omega) (by rw [VQ]<;>omega) (by omega) (by rw [hj];simpa using ew) ⟨rfl,fin⟩) hs
theorem iP:Ba X (w8 X.K):=by
 intro value slice pins s σ H x y v u Q I rx ry h hs;obtain ⟨p,xs,i,z,rfl,rfl,hq,he,q⟩:=h;cases rx;obtain ⟨t,rfl⟩:=ry;obtain ⟨its,r,pl,hz⟩:=I.tuple hq;obtain ⟨j,h1,h2,h3,h4,h5⟩:=JT he;obtain ⟨w,ew,rw'⟩:=r.get h2;have hl:=r.length;have hn:=m8;have fin:EP X pins σ Q w s:=⟨z,H,I,rw',q⟩;exact subscriptTail_builtinR (x:=w) pl.typeIs slot_tuple_getitem.lookup
  (getItem_tuple (j:=j) (Q:=fun r s'=>r=w/\EP X pins σ Q r s') pl (by omega) (by omega) (by rw [VQ,<- hl];exact h1) (by simpa using ew) ⟨rfl,fin⟩) hs
theorem N2(its:List Value)(n j:Nat)(u:Value):Obj.mapSeq (·.setIfInBounds j u) { cls:=.type "list",data:=.seq its.toArray n }={ cls:=.type "list",data:=.seq (its.set j u).toArray n }:=by
 simp [Obj.mapSeq]
theorem Inv.lst{pins:List (Addr×Obj)}{σ:St}{H:Hp}{s:Shared}{p:Addr}{xs:List V}(I:Inv X pins σ H s)(h:H p=some (.lst xs)):
  ∃(its:List Value) (n:Nat),Vals xs its/\s.heap.get? p=some { cls:=.type "list",data:=.seq its.toArray n }/\xs.length<=sizeLine:=by
 obtain ⟨z,its,n,r,e⟩:=I.hok p _ h;exact ⟨its,n,r,e,z⟩
theorem Inv.xa{pins:List (Addr×Obj)}{σ:St}{H:Hp}{s:Shared}{p:Addr}{xs ys:List V}{its its':List Value}{n n':Nat}{f:Obj->Obj}(I:Inv X pins σ H s)(h:H p=some (.lst xs))
  (ho:s.heap.get? p=some { cls:=.type "list",data:=.seq its.toArray n }) (hf:f { cls:=.type "list",data:=.seq its.toArray n }={ cls:=.type "list",data:=.seq its'.toArray n' }) (r:Vals ys its') (hz:ys.length<=sizeLine) (t:Nat) :
  Inv X pins σ (upd H p (.lst ys)) { s with heap:=s.heap.update p f,toks:=t }:=by
 have e:(s.heap.update p f).get? p=some { cls:=.type "list",data:=.seq its'.toArray n' }:=by
  rw [Wk f ho (by rw [hf]<;>rfl),hf]
 refine I.write (x:=p) (e:=p) (by rw [h];trivial) (.inl rfl) (fun b u hb q=>(V4 _ _ (Ne.symm hb)).trans q) ⟨_,e⟩ ?_;exact ⟨hz,its',n',r,e⟩
def vg:V->V->V->Hp->(Hp->Prop)->Prop:=fun o i v H Q=>∃p xs k j,o=.ref p/\i=.int k/\H p=some (.lst xs)/\kZ xs.length k=some j/\Q (upd H p (.lst (xs.set j v)))
theorem zI:AQ X vg:=by
 intro pins s σ H o i v ov iv u Q I ro ri rv h;obtain ⟨p,xs,k,j,rfl,rfl,hp,hj,q⟩:=h;cases ro;obtain ⟨t,rfl⟩:=ri;obtain ⟨its,n,r,ho,hz⟩:=I.lst hp;obtain ⟨h1,h2,h3,h4⟩:=GL hj;have hl:=r.length;have hn:=m8;have I':Inv X pins σ (upd H p (.lst (xs.set j v))) { s with heap:=s.heap.update p (Obj.mapSeq (·.setIfInBounds j u)) } :=
  I.xa hp ho (N2 its n j u) (r.set rv j) (by rw [Wc];exact hz) s.toks
 by_cases h0:0<=k
 ·have hk:k.toNat=j:=by
   rw [seqIndex_of h0 h4] at h1;exact VJ h1
  exact PySem.W.ki_setAt ho h0 (by omega) (by rw [VQ,<- hl];exact h4) (by rw [hk];exact ⟨_,I',q⟩)
 ·have hk:(k + (its.toArray.size:Int)).toNat=j:=by
   rw [seqIndex_neg (by omega) h3] at h1;rw [VQ,<- hl];exact VJ h1
  exact PySem.W.ki_setBack ho (by omega) (by rw [VQ,<- hl];exact h3) (by omega) (by rw [hk];exact ⟨_,I',q⟩)
theorem N3(lo hi:Option Int)(n:Nat):(sliceBounds lo hi none n).1=((HT.cx n 0 lo:Nat):Int)/\(sliceBounds lo hi none n).2.1=((HT.cx n n hi:Nat):Int)/\(sliceBounds lo hi none n).2.2=1:=by
 refine ⟨?_,?_,rfl⟩
 ·cases lo with
  |none=>simp [sliceBounds,HT.cx]
  |some i =>
   simp only [sliceBounds,HT.cx,Option.getD_none,show (1:Int) > 0 by decide,if_true]
   by_cases h:i<0
   ·simp only [h,if_true]<;>omega
   ·simp only [h,if_false]<;>omega
 ·cases hi with
  |none=>simp [sliceBounds,HT.cx]
  |some i =>
   simp only [sliceBounds,HT.cx,Option.getD_none,show (1:Int) > 0 by decide,if_true]
   by_cases h:i<0
   ·simp only [h,if_true]<;>omega
   ·simp only [h,if_false]<;>omega
theorem N4(its:List Value)(lo hi:Option Int):slicePick its.toArray lo hi none=((its.drop (HT.cx its.length 0 lo)).take (HT.cx its.length its.length hi-HT.cx its.length 0 lo)).toArray:=by
 obtain ⟨h1,h2,h3⟩:=N3 lo hi its.toArray.size;unfold slicePick;rw [h1,h2,h3];simp only [sliceRange_one,pick_run,VQ]<;>rfl
def Bb(K:Zfr):V->Option Int->Option Int->Hp->VK->Prop:=fun x lo hi H Q=>∃a xs,x=.ref a/\jC K H a xs/\∀p,H p=none->Q (.ref p) (upd H p (.lst (lF xs lo hi)))
theorem GN:Es X (Bb X.K):=by
 intro pins s σ H x v vl vu lo hi sl Q I rx hs pl pu h;obtain ⟨a,xs,rfl,hx,q⟩:=h;cases rx;obtain ⟨its,r,ht,hz⟩:=I.list hx;have hlen:=r.length;refine ⟨"list",_,slot_list_getitem.lookup,ht.isList.typeIs,?_⟩;refine wpAny_getItem_list_slice ht.isList hs pl pu .none (by simp) ?_ (by rw [VQ]<;>omega);rw [N4,<- hlen];refine ⟨.ref s.heap.objs.size,_,I.laid (t':=s.toks) (o:=.lst (lF xs lo hi)) (fun b ob q=>VH _ q) (VC _) ?_,rfl,q _ (I.hok.fresh (VC _))⟩;exact ⟨V3 (JS xs lo hi) hz,_,0,(r.drop (HT.cx xs.length 0 lo)).take (HT.cx xs.length xs.length hi-HT.cx xs.length 0 lo),V1 _ rfl⟩
def jJ:V->Bool
 |.non=>true
 |.bl _=>true
 |.int _=>true
 |.str _=>true
 |_=>false
def vh:V->V->Bool
 |.non,.non=>true
 |.bl a,.bl b=>a == b
 |.bl a,.int b=>(if a then 1 else 0) == b
 |.int a,.bl b=>a == (if b then 1 else 0)
 |.int a,.int b=>a == b
 |.str a,.str b=>a == b
 |_,_=>false
theorem xb{A:Around}{s:Shared}{y x:V}{u v:Value}(ry:RelV y u)(rx:RelV x v)(fy:jJ y=true)(fx:jJ x=true):SeqAt.EqAt A s u v (vh y x):=by
 cases y with
 |non =>
  cases ry;cases x with
  |non=>cases rx;exact SeqAt.EqAt.same _
  |bl b=>cases rx;exact SeqAt.EqAt.none_bool b
  |int b=>obtain ⟨t,rfl⟩:=rx;exact SeqAt.EqAt.none_int b t
  |str b=>obtain ⟨t,rfl⟩:=rx;exact SeqAt.EqAt.none_str b t
  |_=>exact absurd (show false=true from fx) VD
 |bl a =>
  cases ry;cases x with
  |non=>cases rx;exact SeqAt.EqAt.bool_none a
  |bl b=>cases rx;exact SeqAt.EqAt.bool_bool a b
  |int b=>obtain ⟨t,rfl⟩:=rx;exact SeqAt.EqAt.bool_int a b t
  |str b=>obtain ⟨t,rfl⟩:=rx;exact SeqAt.EqAt.bool_str a b t
  |_=>exact absurd (show false=true from fx) VD
 |int a =>
  obtain ⟨t',rfl⟩:=ry;cases x with
  |non=>cases rx;exact SeqAt.EqAt.int_none a t'
  |bl b=>cases rx;exact SeqAt.EqAt.int_bool a t' b
  |int b=>obtain ⟨t,rfl⟩:=rx;exact SeqAt.EqAt.int_int a t' b t
  |str b=>obtain ⟨t,rfl⟩:=rx;exact SeqAt.EqAt.int_str a t' b t
  |_=>exact absurd (show false=true from fx) VD
 |str a =>
  obtain ⟨t',rfl⟩:=ry;cases x with
  |non=>cases rx;exact SeqAt.EqAt.str_none a t'
  |bl b=>cases rx;exact SeqAt.EqAt.str_bool a t' b
  |int b=>obtain ⟨t,rfl⟩:=rx;exact SeqAt.EqAt.str_int a t' b t
  |str b=>obtain ⟨t,rfl⟩:=rx;exact SeqAt.EqAt.str_str a t' b t
  |_=>exact absurd (show false=true from fx) VD
 |_=>exact absurd (show false=true from fy) VD
def ua(x:V)(u:Value):Bool:=match u with
 |.none=>vh .non x
 |.bool b=>vh (.bl b) x
 |.int i _=>vh (.int i) x
 |.str z _=>vh (.str z) x
 |_=>false
theorem JU{x y:V}{u:Value}(r:RelV y u)(f:jJ y=true):ua x u=vh y x:=by
 cases y with
 |non=>cases r;rfl
 |bl b=>cases r;rfl
 |int i=>obtain ⟨t,rfl⟩:=r;rfl
 |str z=>obtain ⟨t,rfl⟩:=r;rfl
 |_=>exact absurd (show false=true from f) VD
theorem GO{x:V}:∀{xs:List V} {us:List Value},Vals xs us->xs.all jJ=true->us.any (ua x)=xs.any fun y=>vh y x
 |_,_,.nil,_=>rfl
 |y :: xs,u :: us,.cons r t,f=>by
  rw [List.all_cons,VS] at f;rw [Wy,Wy,JU r f.1,GO t f.2]
theorem GP{A:Around}{s:Shared}{x:V}{v:Value}(rx:RelV x v)(fx:jJ x=true):∀{xs:List V} {us:List Value},Vals xs us->xs.all jJ=true->∀u∈us,SeqAt.EqAt A s u v (ua x u)
 |_,_,.nil,_=>fun u hu=>by cases hu
 |y :: xs,u :: us,.cons r t,f=>fun u' hu=>by
  rw [List.all_cons,VS] at f;rcases VZ.mp hu with rfl|hu
  ·rw [JU r f.1];exact xb r rx f.1 fx
  ·exact GP rx fx t f.2 u' hu
def vk(x:V)(xs:List V):Bool:=xs.any fun y=>vh y x
def GQ(K:Zfr)(neg:Bool):R2:=fun x y H Q=>∃p xs,y=.ref p/\(jC K H p xs\/eu K H p xs)/\jJ x=true/\xs.all jJ=true/\Q (.bl (if neg then !vk x xs else vk x xs)) H
theorem Eu:ka X (compareOp .NotIn) (GQ X.K true):=by
 intro pins s σ H x y v u Q I rx ry h;obtain ⟨p,xs,rfl,hq,fx,fs,q⟩:=h;cases ry;rcases hq with hq|hq
 ·obtain ⟨its,r,pl,hz⟩:=I.list hq
  refine SeqAt.notIn_listAt (ua x) pl.isList (fun w hw=>GP rx fx r fs w (by simpa using hw)) ⟨.bl _,H,I,rfl,?_⟩;rw [show its.toArray.any (ua x)=its.any (ua x) by simp,GO r fs];exact q
 ·obtain ⟨its,r,pl,hz⟩:=I.tuple hq
  refine SeqAt.notIn_tupleAt (ua x) pl (fun w hw=>GP rx fx r fs w (by simpa using hw)) ⟨.bl _,H,I,rfl,?_⟩;rw [show its.toArray.any (ua x)=its.any (ua x) by simp,GO r fs];exact q
theorem ke:eh X (.builtin "len") (fun xs H Q=>∃p ys,xs=[.ref p]/\(jC X.K H p ys\/eu X.K H p ys)/\Q (.int ys.length) H):=by
 intro pins s σ H xs us Q I r h;obtain ⟨p,ys,rfl,hq,q⟩:=h;obtain ⟨u,rfl,rx⟩:=vals1 r;cases rx;have hn:=m8;rcases hq with hq|hq
 ·obtain ⟨its,r',pl,hz⟩:=I.list hq
  have hlen:=r'.length;exact Calls.call_len_list pl.isList (by simp only [VQ]<;>omega) ⟨.int ys.length,H,I.tok _,⟨s.toks+1,by rw [VQ,hlen]⟩,q⟩
 ·obtain ⟨its,r',pl,hz⟩:=I.tuple hq
  have hlen:=r'.length;exact len_tuple pl (by simp only [VQ]<;>omega) ⟨.int ys.length,H,I.tok _,⟨s.toks+1,by rw [VQ,hlen]⟩,q⟩
theorem GS:eh X (.type "list") (fun xs H Q=>∃p ys,xs=[.ref p]/\(jC X.K H p ys\/eu X.K H p ys)/\∀l,H l=none->Q (.ref l) (upd H l (.lst ys))):=by
 intro pins s σ H xs us Q I r h;obtain ⟨p,ys,rfl,hq,q⟩:=h;obtain ⟨u,rfl,rx⟩:=vals1 r;cases rx;have fin:∀ (its:List Value),Vals ys its->ys.length<=sizeLine->∀ (h':Heap) (c':Nat),(∀ b o',s.heap.get? b=some o'->h'.get? b=some o') ->
   h'.get? s.heap.objs.size=some { cls:=.type "list",dict:=none,data:=.seq its.toArray c',slots:=#[] }->EP X pins σ Q (.ref s.heap.objs.size) { s with heap:=h' }:=fun its r' hz h' c' kp e =>
  ⟨.ref s.heap.objs.size,_,I.laid (t':=s.toks) kp (VC _) (show bw X.prog X.w _ h' _ (.lst ys) from ⟨hz,its,c',r',e⟩),rfl,q _ (I.hok.fresh (VC _))⟩
 rcases hq with hq|hq
 ·obtain ⟨its,r',pl,hz⟩:=I.list hq
  have hlen:=r'.length;obtain ⟨o,ho,hc,n,hd⟩:=pl.isList;exact call_list_seq p (.inl rfl) ho hc hd (fun h' c' kp e=>fin its r' hz h' c' kp e) (by simp only [VQ]<;>omega)
 ·obtain ⟨its,r',pl,hz⟩:=I.tuple hq
  have hlen:=r'.length;obtain ⟨o,ho,hc,n,hd⟩:=pl;exact call_list_seq p (.inr rfl) ho hc hd (fun h' c' kp e=>fin its r' hz h' c' kp e) (by simp only [VQ]<;>omega)
theorem nW:eh X (.type "tuple") (fun xs H Q=>∃p ys,xs=[.ref p]/\((jC X.K H p ys/\∀l,H l=none->Q (.ref l) (upd H l (.tup ys)))\/(eu X.K H p ys/\Q (.ref p) H))):=by
 intro pins s σ H xs us Q I r h;obtain ⟨p,ys,rfl,h⟩:=h;obtain ⟨u,rfl,rx⟩:=vals1 r;cases rx;rcases h with ⟨hq,q⟩|⟨hq,q⟩
 ·obtain ⟨its,r',pl,hz⟩:=I.list hq
  have hlen:=r'.length;refine call_tuple_list pl.isList (fun h' kp=>?_) (by simp only [VQ]<;>omega);have I1:Inv X pins σ H { s with heap:=h' }:=I.kept (t':=s.toks) kp;have I2:Inv X pins σ (upd H h'.objs.size (.tup ys)) { s with heap:=h'.push { cls:=.type "tuple",data:=.seq its.toArray } } :=
   I1.laid (t':=s.toks) (fun b o e=>VH _ e) (VC _) (show bw X.prog X.w _ _ _ (.tup ys) from ⟨hz,its,r',mV.new _ _⟩)
  exact ⟨.ref h'.objs.size,_,I2,rfl,q _ (I1.hok.fresh (VC _))⟩
 ·obtain ⟨its,r',pl,hz⟩:=I.tuple hq
  exact call_tuple_same pl ⟨.ref p,H,I,rfl,q⟩
def Ew(K:Zfr)(T:String)(x:V)(H:Hp):Prop:=match x with
 |.str _=>T="str"
 |.int _=>T="int"
 | .ref p=>(T="list" /\ ∃ xs,jC K H p xs)\/(T="tuple" /\ ∃ xs,eu K H p xs) \/
   (T="dict" /\ ((∃kvs,H p=some (.dK kvs))\/∃kvs,H p=some (.dT kvs)))\/(T="set" /\ ∃S n,H p=some (.set S n))
 |_=>False
theorem JV{pins:List (Addr×Obj)}{σ:St}{H:Hp}{s:Shared}{T:String}{x:V}{v:Value}(I:Inv X pins σ H s)(r:RelV x v)(ty:Ew X.K T x H):
  s.TypeIs v T/\∀a,v=.ref a->∃ob,s.heap.get? a=some ob/\ob.dict=none:=by
 cases x with
 |str z =>
  obtain ⟨t,rfl⟩:=r;cases (show T="str" from ty);exact ⟨typeIs_str s z t,fun _ e=>nomatch e⟩
 |int i =>
  obtain ⟨t,rfl⟩:=r;cases (show T="int" from ty);exact ⟨typeIs_int s i t,fun _ e=>nomatch e⟩
 |ref p =>
  cases r;rcases ty with ⟨rfl,xs,hq⟩|⟨rfl,xs,hq⟩|⟨rfl,hk⟩|⟨rfl,S,n,hk⟩
  ·obtain ⟨its,_,pl,_⟩:=I.list hq
   refine ⟨pl.isList.typeIs,fun a e=>?_⟩;cases e;obtain ⟨o,n,e,c,hd,_⟩:=pl;exact ⟨o,e,hd⟩
  ·obtain ⟨its,_,⟨o,e,c,d,_⟩,_⟩:=I.o8 hq
   refine ⟨⟨o,e,c⟩,fun a e2=>?_⟩;cases e2;exact ⟨o,e,d⟩
  ·have z:∃ o,s.heap.get? p=some o/\o.ExactDict:=by
    rcases hk with ⟨kvs,hk⟩|⟨kvs,hk⟩
    ·obtain ⟨_,_,_,_,o,_,_,e,ex,_⟩:=I.hok p _ hk
     exact ⟨o,e,ex⟩
    ·obtain ⟨_,_,_,_,o,_,_,e,ex,_⟩:=I.hok p _ hk
     exact ⟨o,e,ex⟩
   obtain ⟨o,e,ex⟩:=z;refine ⟨⟨o,e,ex.1⟩,fun a e2=>?_⟩;cases e2;exact ⟨o,e,ex.2.1⟩
  ·obtain ⟨o,_,_,_,e,ex,_⟩:=I.hok p _ hk
   refine ⟨⟨o,e,ex.1⟩,fun a e2=>?_⟩;cases e2;exact ⟨o,e,ex.2.1⟩
 |_=>exact False.elim ty
def Bc(K:Zfr)(T:String)(r:V->List V->Hp->VK->Prop)(to:TE):TE:=fun σ H Q=>to σ H fun x H1=>Ew K T x H1/\r x [] H1 Q
def GU(K:Zfr)(T:String)(r:V->List V->Hp->VK->Prop)(to:TE)(t:TA):TE:=fun σ H Q=>to σ H fun x H1=>Ew K T x H1/\t σ H1 fun xs H2=>r x xs H2 Q
variable {o e:Expr}{es:List Expr}{to:TE}{t:TA}{name:Str}{apos cpos:Pos}{T id:String}{r:V->List V->Hp->VK->Prop}
theorem xc(pa:PlainAttrs T)(slot:Slot T name id)(hty:typeOf (.builtin id)=pure (.type "method_descriptor"))(hm:vf X id r)(ho:PE X o to)
  (hbase:attributeBase o name X.env (eval o X.env)=eval o X.env:=by rfl) (hline:(apos.endLine == cpos.line)=true:=by rfl):PE X (.Call (.Attribute o name apos) [] [] cpos) (Bc X.K T r to):=by
 intro pins s σ H Q I h;refine wpAny_Call_method0_late hbase hline (cj (ho pins s σ H _ I h) fun v s1 ⟨x,H1,I1,r1,ty,q1⟩=>?_);obtain ⟨h1,h2⟩:=JV I1 r1 ty;exact ⟨T,id,pa,slot,hty,h1,h2,Calls.callWith_builtin rfl (PySem.evalArgs_none (hm pins s1 σ H1 x [] v [] Q I1 r1 .nil q1))⟩
theorem m9(pa:PlainAttrs T)(slot:Slot T name id)(hty:typeOf (.builtin id)=pure (.type "method_descriptor"))(hm:vf X id r)(ho:PE X o to)(ha:PA X (e :: es) t)
  (hbase:attributeBase o name X.env (eval o X.env)=eval o X.env:=by rfl)
  (hfew:((backTo cpos (starEach (e :: es) X.env)).all (fun x=>!x.1) && (backToKw cpos (keywordEach [] X.env)).all (fun x=>x.1.isSome)
   && decide ((e :: es).length+([]:List Keyword).length+(if ([]:List Keyword).isEmpty then 0 else 1)<30))=true:=by rfl)
  (hline:(apos.endLine == cpos.line)=true:=by rfl) (hs:starEach (e :: es) X.env=(false,eval e X.env) :: starEach es X.env:=by rfl) (hplain:(backTo cpos (starEach es X.env)).any (·.1)=false:=by rfl) :
  PE X (.Call (.Attribute o name apos) (e :: es) [] cpos) (GU X.K T r to t):=by
 intro pins s σ H Q I h;refine wpAny_Call_method_late hbase hfew hline rfl (cj (ho pins s σ H _ I h) fun v s1 ⟨x,H1,I1,r1,ty,q1⟩=>?_);obtain ⟨h1,h2⟩:=JV I1 r1 ty;refine ⟨T,id,pa,slot,hty,h1,h2,?_⟩;have hA:=ha cpos pins s1 σ H1 _ I1 q1;rw [hs] at hA ⊢;refine Calls.callWith_builtin (by show (false || (backTo cpos (starEach es X.env)).any (·.1))=false;rw [hplain]<;>rfl) (Calls.evalArgs_plain ?_);exact cj hA fun us s2 ⟨vs,H2,I2,r2,q2⟩=>hm pins s2 σ H2 x vs v us Q I2 r1 r2 q2
end
def GV(X:Cx)(id:String)(r:V->List V->Hp->VK->Prop):Prop :=
 ∀(pins:List (Addr×Obj)) (s:Shared) (σ:St) (H:Hp) (x:V) (xs:List V) (v:Value) (us:List Value) (Q:VK),Inv X pins σ H s->RelV x v->Vals xs us->r x xs H Q ->
  wpAny (model X.prog X.w) X.A (call (.builtin id) (v :: us)) (EP X pins σ Q) X.xe s
theorem Vals.one:∀{x:V} {us:List Value},Vals [x] us->∃u,us=[u]/\RelV x u
 |_,_,.cons r .nil=>⟨_,rfl,r⟩
theorem Vals.zero:∀{us:List Value},Vals [] us->us=[]
 |_,.nil=>rfl
theorem Vals.dropLast{xs:List V}{us:List Value}(h:Vals xs us):Vals xs.dropLast us.dropLast:=by
 induction h with
 |nil=>exact .nil
 |cons r t ih =>
  cases t with
  |nil=>exact .nil
  |cons q t'=>exact .cons r ih
theorem Vals.eraseIdx:∀{xs:List V} {us:List Value} (i:Nat),Vals xs us->Vals (xs.eraseIdx i) (us.eraseIdx i)
 |_,_,_,.nil=>.nil
 |_,_,0,.cons _ t=>t
 |_,_,i+1,.cons r t=>.cons r (Vals.eraseIdx i t)
theorem Vals.rep{xs:List V}{us:List Value}(h:Vals xs us):∀k:Nat,Vals (List.replicate k xs).flatten (List.replicate k us).flatten
 |0=>.nil
 |k+1=>by
  rw [Wq,Wq,WQ,WQ];exact Vals.append h (Vals.rep h k)
theorem N5{α:Type}(l:List α):l.eraseIdx (l.length-1)=l.dropLast:=by
 induction l with
 |nil=>rfl
 |cons a r ih =>
  cases r with
  |nil=>rfl
  |cons b r =>
   have e:(a :: b :: r).length-1=((b :: r).length-1)+1:=by
    have h1:(a :: b :: r).length=r.length+2:=rfl;have h2:(b :: r).length=r.length+1:=rfl;omega
   rw [e,List.eraseIdx_cons_succ,ih]
   all_goals rfl
theorem JW{α:Type}:∀(l:List α) (i:Nat),(l.eraseIdx i).length<=l.length
 |[],_=>VC _
 |_ :: _,0=>Nat.le_succ _
 |_ :: r,i+1=>Nat.succ_le_succ (JW r i)
theorem JX(its:List Value):∀(k:Nat) (acc:List Value),
  List.foldl (fun x1 x2=>x1 ++ x2) acc.toArray (List.replicate k its.toArray)=(acc ++ (List.replicate k its).flatten).toArray
 |0,acc=>by simp
 |k+1,acc=>by
  have e:acc.toArray ++ its.toArray=(acc ++ its).toArray:=by simp
  have e2:(acc ++ its) ++ (List.replicate k its).flatten=acc ++ (List.replicate (k+1) its).flatten:=by
   rw [Wq,WQ,W3]
  rw [<- e2,<- JX its k (acc ++ its),<- e,Wq,List.foldl_cons]
section
variable {X:Cx}{pins:List (Addr×Obj)}{σ:St}{H:Hp}{s:Shared}{l b:Addr}{xs ys zs:List V}
theorem Inv.xf{its its':List Value}{n:Nat}{f:Array Value->Array Value}{t':Nat}(I:Inv X pins σ H s)(hH:H l=some (.lst xs))
  (e:s.heap.get? l=some { cls:=.type "list",data:=.seq its.toArray n }) (hf:f its.toArray=its'.toArray) (hv:Vals ys its') (hz:ys.length<=sizeLine) :
  Inv X pins σ (upd H l (.lst ys)) { s with heap:=s.heap.update l (Obj.mapSeq f),toks:=t' }:=by
 have q:=PySem.IsL.update e f;rw [hf] at q;refine I.write (x:=l) (e:=l) (by rw [hH];exact trivial) (.inl rfl) (fun b' u hb hu=>(V4 s.heap (Obj.mapSeq f) (Ne.symm hb)).trans hu) ⟨_,q⟩ ?_;exact ⟨hz,its',_,hv,q⟩
theorem Inv.Bd{its:List Value}{t':Nat}(I:Inv X pins σ H s)(hv:Vals ys its)(hz:ys.length<=sizeLine):
  Inv X pins σ (upd H s.heap.objs.size (.lst ys)) { s with heap:=s.heap.push { cls:=.type "list",data:=.seq its.toArray },toks:=t' } :=
 I.laid (fun _ _ q=>VH _ q) (VC _) ⟨hz,its,0,hv,V1 _ rfl⟩
theorem Inv.fresh(I:Inv X pins σ H s):H s.heap.objs.size=none:=I.hok.fresh (VC _)
theorem Inv.qq(I:Inv X pins σ H s)(hH:H l=some (.lst xs)):xs.length<=sizeLine/\∃(its:List Value) (n:Nat),Vals xs its/\xs.length=its.length/\s.heap.get? l=some { cls:=.type "list",data:=.seq its.toArray n }:=by
 obtain ⟨z,its,n,r,e⟩:=I.hok l _ hH;exact ⟨z,its,n,r,r.length,e⟩
theorem rB{n:Nat}(h:n<=sizeLine):Builtin.List.listTooLong n=false:=by
 unfold Builtin.List.listTooLong;exact decide_eq_false (by omega)
end
section
variable {X:Cx}
def pP:V->List V->Hp->VK->Prop:=fun x vs H Q=>∃l xs y,x=.ref l/\vs=[y]/\H l=some (.lst xs)/\xs.length<sizeLine/\Q .non (upd H l (.lst (xs ++ [y])))
theorem ph:GV X "list.append" pP:=by
 intro pins s σ H x vs v us Q I rx rv h;obtain ⟨l,xs,y,rfl,rfl,hH,hz,q⟩:=h;cases rx;obtain ⟨u,rfl,ru⟩:=rv.one;obtain ⟨z,its,n,r,hl,e⟩:=I.qq hH;refine call_meets F.slot_list_append ⟨_,e,rfl⟩ F.entry_list_append (F.args_list_append_2 _ _) (PySem.list_append l its.toArray n u (by rw [VQ];omega)) ⟨e,?_⟩;refine ⟨.non,_,I.xf (its':=its ++ [u]) hH e (by simp) (r.append (.cons ru .nil)) ?_,rfl,q⟩;rw [VE,WO];omega
def Be:V->List V->Hp->VK->Prop:=fun x vs H Q=>∃l xs y,x=.ref l/\vs=[]/\H l=some (.lst xs)/\xs[xs.length-1]?=some y/\Q y (upd H l (.lst xs.dropLast))
theorem xg:GV X "list.pop" Be:=by
 intro pins s σ H x vs v us Q I rx rv h;obtain ⟨l,xs,y,rfl,rfl,hH,hy,q⟩:=h;cases rx;have N6:=rv.zero;subst N6;obtain ⟨z,its,n,r,hl,e⟩:=I.qq hH;obtain ⟨u,hu,ru⟩:=r.get hy;have hy':its.toArray[its.toArray.size-1]?=some u:=by
  show its.toArray[its.length-1]?=some u;rw [<- W6,<- hl];exact hu
 refine call_meets F.slot_list_pop ⟨_,e,rfl⟩ F.entry_list_pop (F.args_list_pop_1 _) (MeetsSeq.list_pop_last l its.toArray n u hy' (by rw [VQ];omega)) ⟨e,?_⟩;refine ⟨y,_,I.xf (its':=its.dropLast) hH e ?_ r.dropLast ?_,ru,q⟩
 ·show its.toArray.eraseIdxIfInBounds (its.toArray.size-1)=its.dropLast.toArray
  rw [VQ,List.eraseIdxIfInBounds_toArray,N5]
 ·rw [List.length_dropLast]
  omega
def rC:V->List V->Hp->VK->Prop:=fun x vs H Q=>∃l xs i k y,x=.ref l/\vs=[.int i]/\H l=some (.lst xs)/\-(2 ^ 63)<=i/\i<2 ^ 63/\seqIndex? i xs.length=some k/\xs[k]?=some y/\Q y (upd H l (.lst (xs.eraseIdx k)))
theorem N7:GV X "list.pop" rC:=by
 intro pins s σ H x vs v us Q I rx rv h;obtain ⟨l,xs,i,k,y,rfl,rfl,hH,h1,h2,hk,hy,q⟩:=h;cases rx;obtain ⟨u,rfl,ru⟩:=rv.one;obtain ⟨t,rfl⟩:=ru;obtain ⟨z,its,n,r,hl,e⟩:=I.qq hH;obtain ⟨w,hw,rw'⟩:=r.get hy;refine call_meets F.slot_list_pop ⟨_,e,rfl⟩ F.entry_list_pop (F.args_list_pop_2 _ _)
  (MeetsSeq.list_pop_at l its.toArray n i t k w (fitsIndex_both h1 h2) (by rw [VQ,<- hl];exact hk) (by rw [<- W6];exact hw) (by rw [VQ];omega)) ⟨e,?_⟩
 refine ⟨y,_,I.xf (its':=its.eraseIdx k) hH e ?_ (r.eraseIdx k) ?_,rw',q⟩
 ·show its.toArray.eraseIdxIfInBounds k=(its.eraseIdx k).toArray
  rw [List.eraseIdxIfInBounds_toArray]
 ·have:=JW xs k
  omega
def Bf:R2:=fun x y H Q=>∃l b xs zs,x=.ref l/\y=.ref b/\H l=some (.lst xs)/\H b=some (.lst zs)/\xs.length+zs.length<=sizeLine/\∀p,H p=none->Q (.ref p) (upd H p (.lst (xs ++ zs)))
theorem xh:ka X (binaryOp .Add) Bf:=by
 intro pins s σ H x y v u Q I rx ry h;obtain ⟨l,b,xs,zs,rfl,rfl,hH,hB,hz,q⟩:=h;cases rx;cases ry;obtain ⟨z,its,n,r,hl,e⟩:=I.qq hH;obtain ⟨z2,its2,n2,r2,hl2,e2⟩:=I.qq hB;refine PySem.P.add_list e e2 ?_ (by rw [VQ,VQ];omega);have ea:its.toArray ++ its2.toArray=(its ++ its2).toArray:=by simp
 rw [ea];exact ⟨.ref _,_,I.Bd (t':=s.toks) (r.append r2) (by rw [VE];omega),rfl,q _ I.fresh⟩
def Bg:R2:=fun x y H Q=>∃l k xs,x=.ref l/\y=.int k/\H l=some (.lst xs)/\-(2 ^ 63)<=k/\k<2 ^ 63/\xs.length*k.toNat<=sizeLine /\
 ∀p,H p=none->Q (.ref p) (upd H p (.lst (List.replicate k.toNat xs).flatten))
theorem N8{α:Type}(xs:List α)(k:Nat):(List.replicate k xs).flatten.length=k*xs.length:=by
 induction k with
 |zero=>simp
 |succ k ih=>rw [Wq,WQ,VE,ih,Nat.succ_mul,Nat.add_comm]
theorem JY:ka X (binaryOp .Mult) Bg:=by
 intro pins s σ H x y v u Q I rx ry h;obtain ⟨l,k,xs,rfl,rfl,hH,h1,h2,hz,q⟩:=h;cases rx;obtain ⟨t,rfl⟩:=ry;obtain ⟨z,its,n,r,hl,e⟩:=I.qq hH;have hlen:its.toArray.size*k.toNat<=sizeLine:=by rw [VQ,<- hl];exact hz
 have hcap:¬its.toArray.size*k.toNat > (2 ^ 63-1) / 8:=by
  have:(sizeLine:Nat)<=(2 ^ 63-1) / 8:=by decide
  omega
 have hfit:¬(!Builtin.List.listFitsIndex k)=true:=by
  rw [fitsIndex_both h1 h2];exact VD
 have Bh:¬Builtin.List.listTooLong (its.toArray.size*k.toNat)=true:=by
  rw [rB hlen];exact VD
 have hnew:List.foldl (fun x1 x2=>x1 ++ x2) #[] (List.replicate (if its.toArray.isEmpty=true then 0 else k.toNat) its.toArray)=(List.replicate k.toNat its).flatten.toArray:=by
  have f0:∀m:Nat,List.foldl (fun x1 x2=>x1 ++ x2) #[] (List.replicate m its.toArray)=(List.replicate m its).flatten.toArray:=fun m=>by
   have:=JX its m [];rw [List.nil_append] at this;exact this
  rw [f0];cases its with
  |nil=>simp
  |cons a r'=>rw [if_neg (by simp)]
 refine wpAny_binaryOp_repeat_ref (T:="list") (U:="int") (by decide) ⟨_,e,rfl⟩ (fun s'=>typeIs_int s' k t) noFill_list_mul F.fills_int_mul F.slot_int_rmul repeat_list F.slot_int_index.lookup
  (call_meets F.slot_int_rmul (typeIs_int s k t) F.entry_int_rmul (F.args_int_rmul_2 _ _) (int___rmul___int_list k t l its.toArray n)
   ⟨e,rfl,⟨_,e,rfl⟩,call_meets F.slot_list_mul ⟨_,e,rfl⟩ F.entry_list_mul (F.args_list_mul_2 _ _) (AutoListH.list___mul___list_int_3 l its.toArray n k t hfit hcap Bh) ⟨e,?_⟩⟩)
 rw [hnew];exact ⟨.ref _,_,I.Bd (t':=s.toks) (r.rep k.toNat) (by rw [N8,Nat.mul_comm];exact hz),rfl,q _ I.fresh⟩
end
section
variable {κ:Type}[DecidableEq κ]
def jU(kvs:List (κ×V))(k:κ):Option V:=(kvs.find? fun kv=>decide (kv.1=k)).map (·.2)
def putK(kvs:List (κ×V))(k:κ)(v:V):List (κ×V) :=
 if (kvs.any fun kv=>decide (kv.1=k))=true then kvs.map (fun kv=>if kv.1=k then (kv.1,v) else kv) else kvs ++ [(k,v)]
theorem GW{p:κ×V}{r:List (κ×V)}{k:κ}(e:p.1=k):jU (p :: r) k=some p.2:=by simp [jU,WA,e]
theorem GX{p:κ×V}{r:List (κ×V)}{k:κ}(e:¬p.1=k):jU (p :: r) k=jU r k:=by simp [jU,WA,e]
theorem JZ(k:κ):∀kvs:List (κ×V),(kvs.any fun kv=>decide (kv.1=k))=(jU kvs k).isSome
 |[]=>rfl
 |p :: r=>by
  rw [Wy]
  by_cases e:p.1=k
  ·simp only [GW e,decide_eq_true e,Bool.true_or,Option.isSome_some]
  ·rw [GX e,decide_eq_false e,Bool.false_or];exact JZ k r
theorem J0(kvs:List (κ×V))(k:κ)(v:V):(putK kvs k v).length<=kvs.length+1:=by
 unfold putK;split
 ·rw [Vz];omega
 ·rw [VE,V6,Xi];omega
theorem lA.kF{o:Option V}{u:Option Value}(r:lA o u):o.isSome=u.isSome:=by
 cases o with
 |none=>cases u with
  |none=>rfl
  |some _=>exact (show False from r).elim
 |some _=>cases u with
  |none=>exact (show False from r).elim
  |some _=>rfl
theorem KV.val{kvs:List (κ×V)}{vs:List (κ×Value)}(r:KV kvs vs)(k:κ):lA (jU kvs k) (valueAt vs k):=by
 unfold KV at r
 induction r with
 |nil=>exact True.intro
 |@cons p q ps qs h t ih =>
  obtain ⟨h1,h2⟩:=h
  by_cases e:p.1=k
  ·have e':q.1=k:=h1.symm.trans e
   have b:valueAt (q :: qs) k=some q.2:=by simp [valueAt,WA,e']
   rw [GW e,b];exact h2
  ·have e':¬q.1=k:=fun z=>e (h1.trans z)
   have b:valueAt (q :: qs) k=valueAt qs k:=by simp [valueAt,WA,e']
   rw [GX e,b];exact ih
theorem KV.any{kvs:List (κ×V)}{vs:List (κ×Value)}(r:KV kvs vs)(k:κ):(kvs.any fun kv=>decide (kv.1=k))=vs.any fun kv=>decide (kv.1=k):=by
 unfold KV at r
 induction r with
 |nil=>rfl
 |cons h t ih=>rw [Wy,Wy,ih,h.1]
theorem KV.repl{kvs:List (κ×V)}{vs:List (κ×Value)}(r:KV kvs vs)(k:κ){y:V}{u:Value}(ry:RelV y u):
  KV (kvs.map fun kv=>if kv.1=k then (kv.1,y) else kv) (vs.map fun kv=>if kv.1=k then (kv.1,u) else kv):=by
 unfold KV at r ⊢
 induction r with
 |nil=>exact .nil
 |@cons p q ps qs h t ih =>
  rw [V0,V0];refine .cons ?_ ih;obtain ⟨h1,h2⟩:=h
  by_cases e:p.1=k
  ·rw [if_pos e,if_pos (h1.symm.trans e)];exact ⟨h1,ry⟩
  ·rw [if_neg e,if_neg (fun z=>e (h1.trans z))];exact ⟨h1,h2⟩
theorem KV.put{kvs:List (κ×V)}{vs:List (κ×Value)}(r:KV kvs vs)(k:κ){y:V}{u:Value}(ry:RelV y u):KV (putK kvs k y) (stored vs k u):=by
 unfold putK stored;rw [r.any k]
 by_cases e:(vs.any fun kv=>decide (kv.1=k))=true
 ·rw [if_pos e,if_pos e];exact r.repl k ry
 ·rw [if_neg e,if_neg e];exact Paired.snoc r ⟨rfl,ry⟩
theorem KV.length{kvs:List (κ×V)}{vs:List (κ×Value)}(r:KV kvs vs):kvs.length=vs.length:=Paired.length r
end
theorem GY{P:Program}{w:World}{k:Key}{u:Value}(r:RelV (kV k) u):(cD P w).is k u=true:=by
 cases k with
 |inl i=>obtain ⟨t,e⟩:=(show ∃t,u=Value.int i t from r);subst e;exact Nm P w i t
 |inr x=>obtain ⟨t,e⟩:=(show ∃t,u=Value.str x t from r);subst e;exact Nn P w x t
theorem J1{P:Program}{w:World}:∀{ks:List Key} {us:List Value},Vals (ks.map kV) us->ItemsAre (cD P w) ks us
 |[],_,r=>by rw [Wm] at r;cases r;exact .nil
 |k :: ks,_,r=>by
  rw [V0] at r;cases r with
  |cons h t=>exact .cons (GY h) (J1 t)
abbrev KT(H:Hp):List (List Key×V)->List (List Key×Addr×Value)->Prop:=Paired fun p q=>p.1=q.1/\H q.2.1=some (.tup (p.1.map kV))/\RelV p.2 q.2.2
theorem KT.val{H:Hp}{kvs:List (List Key×V)}{xs:List (List Key×Addr×Value)}(r:KT H kvs xs)(k:List Key):lA (jU kvs k) ((atKey xs k).map (·.2)):=by
 induction r with
 |nil=>exact True.intro
 |@cons p q ps qs h t ih =>
  obtain ⟨h1,_,h2⟩:=h
  by_cases e:p.1=k
  ·have e':q.1=k:=h1.symm.trans e
   have b:atKey (q :: qs) k=some q.2:=by simp [atKey,WA,e']
   rw [GW e,b];exact h2
  ·have e':¬q.1=k:=fun z=>e (h1.trans z)
   have b:atKey (q :: qs) k=atKey qs k:=by simp [atKey,WA,e']
   rw [GX e,b];exact ih
theorem KT.repl{H:Hp}{kvs:List (List Key×V)}{xs:List (List Key×Addr×Value)}(r:KT H kvs xs)(k:List Key){y:V}{u:Value}(ry:RelV y u):
  KT H (kvs.map fun kv=>if kv.1=k then (kv.1,y) else kv) (xs.map (putAt k u)):=by
 induction r with
 |nil=>exact .nil
 |@cons p q ps qs h t ih =>
  rw [V0,V0];refine .cons ?_ ih;obtain ⟨h1,h2,h3⟩:=h;unfold putAt
  by_cases e:p.1=k
  ·rw [if_pos e,if_pos (h1.symm.trans e)];exact ⟨h1,h2,ry⟩
  ·rw [if_neg e,if_neg (fun z=>e (h1.trans z))];exact ⟨h1,h2,h3⟩
theorem KT.put{H:Hp}{kvs:List (List Key×V)}{xs:List (List Key×Addr×Value)}(r:KT H kvs xs)(k:List Key){b:Addr}{y:V}{u:Value}(hb:H b=some (.tup (k.map kV)))(ry:RelV y u):
  KT H (putK kvs k y) (storedH xs k b u):=by
 have e:(kvs.any fun kv=>decide (kv.1=k))=(atKey xs k).isSome:=by
  rw [JZ,(r.val k).kF,Option.isSome_map]
 unfold putK storedH;rw [e]
 by_cases q:(atKey xs k).isSome=true
 ·rw [if_pos q,if_pos q];exact r.repl k ry
 ·rw [if_neg q,if_neg q];exact Paired.snoc r ⟨rfl,hb,ry⟩
theorem KT.keeps{H H':Hp}{kvs:List (List Key×V)}{xs:List (List Key×Addr×Value)}(r:KT H kvs xs)(ht:∀b ys,H b=some (.tup ys)->H' b=some (.tup ys)):KT H' kvs xs :=
 Paired.wG r fun _ _ z=>⟨z.1,ht _ _ z.2.1,z.2.2⟩
section
variable {P:Program}{w:World}{H:Hp}{h:Heap}{a:Addr}
theorem vm{u:HO}(ok:iO P w H h)(e:Rd H a u):bw P w H h a u:=e.ok ok
theorem vn{kvs:List (Key×V)}(ok:iO P w H h)(e:Rd H a (.dK kvs)):kvs.length<=sizeLine/\(a == sysModules)=false/\∃vs,KV kvs vs/\h.DictOf (cD P w) a vs :=
 show bw P w H h a (.dK kvs) from vm ok e
theorem Bi{kvs:List (Key×V)}(ok:iO P w H h)(e:H a=some (.dK kvs)):kvs.length<=sizeLine/\(a == sysModules)=false/\∃vs,KV kvs vs/\h.DictOf (cD P w) a vs:=vn ok (.inl e)
theorem zJ{ks:List Key}(ok:iO P w H h)(e:H a=some (.tup (ks.map kV))):(tupleKind (cD P w)).is h ks a:=by
 obtain ⟨_,its,r,o,h1,h2,_,n,h3⟩:=(show bw P w H h a (.tup (ks.map kV)) from ok a _ e);exact ⟨o,its.toArray,n,h1,h2,h3,by simpa using J1 r⟩
theorem vo{kvs:List (List Key×V)}(ok:iO P w H h)(e:Rd H a (.dT kvs)):kvs.length<=sizeLine/\(a == sysModules)=false /\
  ∃xs,KT H kvs xs/\h.DictOfH (tupleKind (cD P w)) a xs:=by
 obtain ⟨z,y,xs,r,o,es,ep,h1,h2,h3,h4,h5⟩:=(show bw P w H h a (.dT kvs) from vm ok e);refine ⟨z,y,xs,r,o,es,ep,h1,h2,h3,h4,fun x hx=>?_,h5⟩;have all:∀{l:List (List Key×V)} {m:List (List Key×Addr×Value)},KT H l m->∀x∈m,(tupleKind (cD P w)).is h x.1 x.2.1:=by
  intro l m q
  induction q with
  |nil=>intro x hx;exact nomatch hx
  |@cons p q ps qs hq t ih =>
   intro x hx;rcases VZ.mp hx with e|hx
   ·subst e
    exact zJ ok (by rw [<- hq.1];exact hq.2.1)
   ·exact ih x hx
 exact all r x hx
theorem Bj{kvs:List (List Key×V)}(ok:iO P w H h)(e:H a=some (.dT kvs)):kvs.length<=sizeLine/\(a == sysModules)=false /\
  ∃xs,KT H kvs xs/\h.DictOfH (tupleKind (cD P w)) a xs:=vo ok (.inl e)
end
def rD(H:Hp)(a:Addr)(y:V)(r:Option V):Prop :=
 (∃kvs k,Rd H a (.dK kvs)/\y=kV k/\r=jU kvs k)\/∃kvs k b,Rd H a (.dT kvs)/\y=.ref b/\H b=some (.tup (k.map kV))/\r=jU kvs k
def rE(H:Hp)(a:Addr)(y v:V)(H':Hp):Prop :=
 (∃kvs k,H a=some (.dK kvs)/\y=kV k/\kvs.length<sizeLine/\H'=upd H a (.dK (putK kvs k v))) \/
 ∃kvs k b,H a=some (.dT kvs)/\y=.ref b/\H b=some (.tup (k.map kV))/\kvs.length<sizeLine/\H'=upd H a (.dT (putK kvs k v))
theorem rD.k{H:Hp}{a:Addr}{kvs:List (Key×V)}{k:Key}(e:H a=some (.dK kvs)):rD H a (kV k) (jU kvs k):=.inl ⟨kvs,k,.inl e,rfl,rfl⟩
theorem rE.k{H:Hp}{a:Addr}{kvs:List (Key×V)}{k:Key}{v:V}(e:H a=some (.dK kvs))(hl:kvs.length<sizeLine):rE H a (kV k) v (upd H a (.dK (putK kvs k v))):=.inl ⟨kvs,k,e,rfl,hl,rfl⟩
section
variable {X:Cx}{pins:List (Addr×Obj)}{σ:St}{H:Hp}{s:Shared}{a:Addr}{y v:V}{u r:Value}{o:Option V}{A:Around}{E:Value->Shared->Prop}
theorem Inv.big(I:Inv X pins σ H s):sysModules<s.heap.objs.size:=by
 have h:mainGlobals<s.heap.objs.size:=(I.mod.glob.keeps I.bk).lt;exact Nat.lt_trans (by decide) h
theorem N9{Q:Value->Shared->Prop}(hu:A.units+1<cLine)(I:Inv X pins σ H s)(g:rD H a y o)(ry:RelV y u)(h:∀s',Inv X pins σ H s'->Q (.bool (!o.isSome)) s'):
  wpAny (model X.prog X.w) A (compareOp .NotIn u (.ref a)) Q E s:=by
 rcases g with ⟨kvs,k,e,ey,l⟩|⟨kvs,k,b,e,ey,eb,l⟩
 ·subst ey
  obtain ⟨z,hd,vs,rel,dd⟩:=vn I.hok e;refine wpAny_notIn_of (GY ry) hd dd.mapOf ?_;rw [<- (rel.val k).kF,<- l];exact h _ (I.tok _)
 ·subst ey
  cases (show u=Value.ref b from ry);obtain ⟨z,hd,xs,rel,dd⟩:=vo I.hok e;refine wpAny_notIn_heap (tupleKind_room_in1 hu) (zJ I.hok eb) hd dd ?_;have q:=(rel.val k).kF;rw [Option.isSome_map] at q;rw [<- q,<- l];exact h _ (I.tok _)
theorem J3{h':Heap}{t':Nat}{ob:HO}(I:Inv X pins σ H s)(mu:Ax (H a))(hs:Heap.SameBut a s.heap h')(he:∃q,h'.get? a=some q)(new:bw X.prog X.w (upd H a ob) h' a ob):
  Inv X pins σ (upd H a ob) { s with heap:=h',toks:=t' } :=
 I.write (x:=a) (e:=a) mu (.inl rfl) (fun b q hb z=>(hs.2 b hb).trans z) he new
theorem xi{P:Program}{w:World}{H':Hp}{h':Heap}{kvs:List (Key×V)}{vs:List (Key×Value)}(z:kvs.length<=sizeLine)(hd:(a == sysModules)=false)(rel:KV kvs vs)(dd:h'.DictOf (cD P w) a vs):
  bw P w H' h' a (.dK kvs):=⟨z,hd,vs,rel,dd⟩
theorem Oa{H':Hp}{Q:Unit->Shared->Prop}(hu:A.units+1<cLine)(I:Inv X pins σ H s)(g:rE H a y v H')(ry:RelV y u)(rv:RelV v r)(h:∀s',Inv X pins σ H' s'->Q () s'):
  wpAny (model X.prog X.w) A (setItem (.ref a) u r) Q E s:=by
 rcases g with ⟨kvs,k,e,ey,l,eH⟩|⟨kvs,k,b,e,ey,eb,l,eH⟩
 ·subst ey eH
  obtain ⟨z,hd,vs,rel,dd⟩:=Bi I.hok e;have hz:vs.length<=sizeLine:=by rw [<- rel.length];exact z
  have hl:(putK kvs k v).length<=sizeLine:=by have:=J0 kvs k v;omega
  refine wpAny_setItem_pairs (hsz:=hz) (GY ry) dd fun h' Ey hs=>h _ ?_;have he:∃q,h'.get? a=some q:=let ⟨q,_,_,hq,_⟩:=Ey;⟨q,hq⟩
  exact J3 I (by rw [e];exact True.intro) hs he (xi hl hd (rel.put k rv) Ey)
 ·subst ey eH
  cases (show u=Value.ref b from ry);obtain ⟨z,hd,xs,rel,dd⟩:=Bj I.hok e;have hz:xs.length<=sizeLine:=by rw [<- Paired.length rel];exact z
  have hl:(putK kvs k v).length<=sizeLine:=by have:=J0 kvs k v;omega
  refine wpAny_setItem_heap (hsz:=hz) (tupleKind_room_in1 hu) (zJ I.hok eb) dd fun h' Ey hs=>h _ ?_;obtain ⟨q,es,ep,hq,h2,h3,h4,_,h5⟩:=Ey;refine J3 I (by rw [e];exact True.intro) hs ⟨q,hq⟩ ⟨hl,hd,_,(rel.put k eb rv).keeps fun c ys ec=>?_,q,es,ep,hq,h2,h3,h4,h5⟩;rw [di (Gj ec e (fun z=>nomatch z))];exact ec
end
def pQ(ty td:TE):TE:=fun σ H Q=>ty σ H fun y H1=>td σ H1 fun x H2=>∃a o,x=.ref a/\rD H2 a y o/\Q (.bl (!o.isSome)) H2
def vq(td ty tv:TE):TS:=fun D σ H=>tv σ H fun v H1=>td σ H1 fun x H2=>ty σ H2 fun y H3=>∃a H4,x=.ref a/\rE H3 a y v H4/\D.nx σ H4
section
variable {X:Cx}{o i e value:Expr}{pos pos' tpos:Pos}{td ty tv:TE}
theorem Ob(hu:X.A.units+1<cLine)(hi:PE X i ty)(ho:PE X o td):PC X .NotIn i o (pQ ty td):=by
 intro pins s σ H Q I h;refine cj (hi pins s σ H _ I h) fun iv s1 ⟨y,H1,I1,ry,q1⟩=>cj (ho pins s1 σ H1 _ I1 q1) fun u s2 ⟨x,H2,I2,rx,a,ov,ex,g,q2⟩=>?_;subst ex;obtain rfl:u=Value.ref a:=rx;exact N9 hu I2 g ry fun s3 I3=>⟨.bl (!ov.isSome),H2,I3,rfl,q2⟩
theorem Oc(hu:X.A.units+1<cLine)(ho:PE X o td)(hi:PE X i ty)(hv:PE X value tv)(hs:swapsWith value (some (.Subscript o i pos')) pos.line X.env=pure false):
  PS X (.Assign [.Subscript o i pos'] value pos) (vq td ty tv):=by
 intro pins s σ H D I h;refine wpAny_Assign_Subscript (cj (hv pins s σ H _ I h) fun r s1 ⟨v,H1,I1,rv,q1⟩=>cj (ho pins s1 σ H1 _ I1 q1) fun u s2 ⟨x,H2,I2,rx,q2⟩=>cj (hi pins s2 σ H2 _ I2 q2) fun iv s3 ⟨y,H3,I3,ry,a,H4,ex,g,q3⟩=>?_) hs;subst ex;obtain rfl:u=Value.ref a:=rx;exact Oa hu I3 g ry rv fun s4 I4=>⟨σ,H4,I4,q3⟩
end
theorem Oe{P:Program}{w:World}{H:Hp}(h:Heap)(hb:sysModules<h.objs.size):bw P w H (h.push { cls:=.type "dict",data:=.dict #[] }) h.objs.size (.dK []) :=
 ⟨Wd _,beq_eq_false_iff_ne.mpr (Ne.symm (Wb hb)),[],.nil,Heap.DictOf.new h⟩
def rF:TE:=fun _ H Q=>∀p,H p=none->Q (.ref p) (upd H p (.dK []))
section
variable {X:Cx}{pos:Pos}
theorem Og:PE X (.Dict [] [] pos) rF:=fun pins s σ H Q I h =>
 wpAny_Dict_empty ⟨.ref s.heap.objs.size,_,I.laid (a:=s.heap.objs.size) (o:=.dK []) (t':=s.toks) (fun _ _ q=>VH _ q) (VC _) (Oe s.heap I.big),rfl,h _ (I.hok.fresh (VC _))⟩
end
end L2
namespace J4
open PySem PySem.W PySem.Calls PyProof.Rows
theorem Oh{P:Params}{h:Heap}:∀(ns:List Int) (vs:List Value),WellAll P h vs (ns.map WData.int)->IntsAre vs ns:=by
 intro ns
 induction ns with
 |nil =>
  intro vs w;rw [Wm] at w;cases w;exact .nil
 |cons n ns ih =>
  intro vs w;rw [V0] at w;cases w with
  |cons a b =>
   cases a;exact .cons _ _ (ih _ b)
theorem Oi{l:OpenLaw}{n:Nat}(hn:l.most=some n){P:Params}{h:Heap}{args:List WData}{vals:List Value}
  (hpre:l.row.toRowW.claim.pre args=true) (hwl:WellAll P h vals args) :
  ∃a vs ns,vals=[Value.ref a]/\args=[WData.list (ns.map WData.int)]/\h.get? a=some { cls:=.type "list",data:=.seq vs.toArray }/\IntsAre vs ns/\ns.length<=n:=by
 have hsh:WShape.hasAll [] args [.list .int]=true:=(pre_splitW hpre).1;have hc:l.pre.holds [] { args:=args }=true:=(pre_splitW hpre).2;obtain ⟨d,r,rfl,h1,h2⟩:=hasAllW_cons hsh;obtain rfl:=hasAllW_nil h2;obtain ⟨xs,rfl,h3⟩:=hasW_list h1;obtain ⟨ns,rfl⟩:=items_int h3;have hlen:ns.length<=n:=by
  unfold OpenLaw.pre at hc;have h4:(WTm.not (.lt (.lit (.int (n:Int))) (.len (.arg 0)))).holds [] { args:=[.list (ns.map .int)] }=true:=by
   have h4:=(holds_andW hc).1;rw [hn] at h4;exact h4
  have h5:=condW_of h4 (w_not (w_lt w_lit (w_len_list (w_arg rfl))));rw [Vz] at h5;refine Nat.le_of_not_lt fun q=>?_;have q':(n:Int)<((ns.length:Nat):Int):=by omega
  first
   |(rw [decide_eq_true q'] at h5;exact absurd h5 (by decide))
   |(simp at h5;omega)
 cases hwl with
 |cons w1 w2 =>
  cases w2;cases w1 with
  |list ho hall=>exact ⟨_,_,ns,rfl,rfl,ho,Oh ns _ hall,hlen⟩
theorem Oj(l:OpenLaw)(args:List WData):l.row.toRowW.claim.post args (.bool true) args=true :=
 postW_of (r:=l.row.toRowW) (X:=(true == true))
  (show WShape.has [] (.bool true) .bool=true by first|rfl|decide|simp [WShape.has,WShape.arms,WShape.armsAll])
  (show (WTm.eq .res (.lit (.bool true))).value [] { args:=args,res:=some (.bool true),after:=args }=some (.bool (true == true)) from w_eq_bool (w_res rfl) w_lit) rfl
theorem Ol{l:OpenLaw}{n:Nat}{q:Program}{loose:List Str}{XP:(Str->Option Value)->Heap->Prop}{YP:World->Heap->Prop}{d:DefRec}
  (hn:l.most=some n) (hdf:d.params.defaults=[])
  (call:∀(w:World) (s₀ s₁:Shared) (mg mb:Str->Option Value) (fa:Addr) (o:Obj) (pm cd doc:Value) (a:Addr) (vs:List Value) (ns:List Int),
   Ground q loose [] XP w s₀ mg mb s₁.heap->YP w s₁.heap ->
   s₁.heap.get? fa=some o->o.data=.func (docDef d.name d.params d.body d.scope pm cd doc)->s₁.heap.CodeRec cd d.name->mg d.name=some (.ref fa) ->
   s₁.heap.get? a=some { cls:=.type "list",data:=.seq vs.toArray }->IntsAre vs ns->ns.length<=n->s₁.gens=#[] ->
   codeAny (model l.prog w) callerA (.call (.ref fa) ⟨[.ref a],[]⟩) (fun r s'=>r=.ok (.ret (.bool true))/\OldK s₁.heap s'.heap/\s'.os=s₁.os/\AllBare s'.gens) s₁) :
  WalkO q loose XP YP l.row.toRowW d [] (fun f vs=>PySem.call f vs):=by
 intro w s₀ s₁ mg mb G Y fa o pm cd doc dV kV ho hd hcd hD hmg hg args vals as hpre hlay hrd hwl hlo;obtain rfl:dV=.none:=Dflts.none hD hdf;obtain rfl:kV=.none:=Dflts.noKw hD;obtain ⟨a,vs,ns,rfl,rfl,hobj,hints,hlen⟩:=Oi hn hpre hwl;refine enter_call (codeAny_mono (call w s₀ s₁ mg mb fa o pm cd doc a vs ns G Y ho (fd_plain hd) hcd hmg hobj hints hlen hg) fun r s' hq=>?_);obtain ⟨rfl,h2,h3,h4⟩:=hq;exact ⟨.inl ⟨.bool true,.bool true,[],rfl,fun _=>rfl,.bool true,Oj l _,fun _=>⟨List.Pairwise.nil,fun _ hm=>(nomatch hm)⟩⟩,h2,h3,h4⟩
end J4
namespace L2
open PySem PySem.Spec PyProof.Rows
theorem J5:∀{vs:List Value} {ns:List Int},IntsAre vs ns->Vals (ns.map V.int) vs
 |_,_,.nil=>.nil
 |_,_,.cons n t h=>.cons ⟨t,rfl⟩ (J5 h)
def Only(H:Hp):Prop:=∀b,H b=none\/∃o xs,H b=some (.mC o (.lst xs))
theorem Om{P:Program}{w:World}{K:Zfr}{mg mb:Str->Option Value}{CX:pe}{k:Nat}{fa a:Addr}{fd:FuncData}{x:Str}{sp:Sp}{s₁:Shared}{vs:List Value}{ns:List Int}
  (KX:K.In s₁.heap) (hns:s₁.heap.Ns mainGlobals mg) (hb:s₁.heap.Ns builtinsNs mb) (Oo:∀x:Str,x≠"__name__" -> mb x=bootBuiltins x) (hlim:s₁.heap.NoLimit) (hg:s₁.gens=#[])
  (ha:s₁.heap.get? a=some { cls:=.type "list",data:=.seq vs.toArray }) (hi:IntsAre vs ns) (hl:ns.length<=sizeLine) (hr:cS k callerA)
  (F:∀base:Heap,K.In base->base.Ns mainGlobals mg->aH P w K mg base CX k fa fd [x] sp) (hbind:∀(s:Shared) (u:Value),BindsTo s fd ⟨[u],[]⟩ [(x,u)])
  (qM:∀H:Hp,Only H->jC K H a (ns.map V.int)->sp [.ref a] H (fun v _=>v=.bl true) fun _ _ _=>False)
  (Bk:∀H e s',CX [] H s₁ (fun _ _ _=>False) e s'->False) :
  codeAny (model P w) callerA (.call (.ref fa) ⟨[.ref a],[]⟩) (fun r s'=>r=.ok (.ret (.bool true))/\OldK s₁.heap s'.heap/\s'.os=s₁.os/\AllBare s'.gens) s₁:=by
 have rv:=J5 hi;have GZ:=hi.length;have core:∀ H:Hp,Only H->jC K H a (ns.map V.int)->iO P w H s₁.heap->(∀ b,H b≠none->b=a)->(H a≠none->K.lookup a=none) ->
   codeAny (model P w) callerA (.call (.ref fa) ⟨[.ref a],[]⟩) (fun r s'=>r=.ok (.ret (.bool true))/\OldK s₁.heap s'.heap/\s'.os=s₁.os/\AllBare s'.gens) s₁:=by
  intro H hO hS hok hA hK;have pR:∀{b:Addr} {o:Obj},s₁.heap.get? b=some o->H b=none->(mX s₁.heap H).get? b=some o:=fun e n=>Nt e n;have A6:∀{b:Addr} {o:Obj} {es:Array DictEntry} {ep:Nat},s₁.heap.get? b=some o->o.data=.dict es ep->H b=none:=fun {b o es ep} e d=>by
   cases q:H b with
   |none=>rfl
   |some u =>
    have e':b=a:=hA b (by rw [q];simp);subst e';rw [ha] at e;cases e;have d':Data.seq vs.toArray _=Data.dict es ep:=d;cases d'
  have Ez:∀{b:Addr} {m:Str->Option Value},s₁.heap.Ns b m->(mX s₁.heap H).Ns b m:=fun {b m} ⟨o,es,ep,e,d,r⟩=>⟨o,es,ep,pR e (A6 e d),d,r⟩
  have J7:K.In (mX s₁.heap H):=fun b o e=>pR (KX b o e) (by
   cases q:H b with
   |none=>rfl
   |some u =>
    have e':b=a:=hA b (by rw [q];simp);subst e'
    rw [hK (by rw [q];simp)] at e;cases e)
  have hM:Mod K mg (mX s₁.heap H):=⟨J7,Ez hns,⟨mb,Ez hb,Oo⟩,let ⟨mc,h1,h2⟩:=hlim;⟨mc,Ez h1,h2⟩⟩;have e0:pg P w K mg (mX s₁.heap H) callerA [] s₁ H:=⟨rfl,hM,fun b o e=>Nu e,Nat.le_of_eq (Nr _ _),trivial,fun b hb=>absurd (show b∈([]:List Addr) from hb) (by simp),hok,.of_eq hg⟩;refine codeAny_mono ((F _ J7 (Ez hns)).run callerA [] s₁ H ⟨[.ref a],[]⟩ [.ref a] [.ref a] _ _ hr e0 (hbind s₁ (.ref a)) (.cons rfl .nil) (qM H hO hS)) fun r s' h=>?_;cases r with
  |error e=>exact (Bk H e s' h).elim
  |ok fl =>
   cases fl with
   |next=>exact False.elim h
   |brk=>exact False.elim h
   |cont=>exact False.elim h
   |ret u =>
    obtain ⟨v,H',os,bare,un,G0,r',q⟩:=h;have q':v=.bl true:=q;subst q';obtain rfl:u=Value.bool true:=r';refine ⟨rfl,OldK.of_keep fun b o e=>?_,os,bare⟩;cases q:H b with
    |none=>exact un.keep b o e q (by intro z;exact absurd (show b∈([]:List Addr) from z) (by simp)) (by simp)
    |some u =>
     rcases hO b with z|⟨ob,xs,z⟩
     ·rw [q] at z;cases z
     ·have z2:=un.l8 b ob _ z
      obtain ⟨e1,_⟩:=hok b _ z;obtain ⟨e2,_⟩:=G0 b _ z2;rw [e] at e1;cases e1;exact e2
 cases hk:K.lookup a with
 |some o =>
  have e:=KX a o hk;rw [ha] at e;cases e;refine core (fun _=>none) (fun _=>.inl rfl) (.inr ⟨_,vs.toArray,_,hk,rfl,rfl,rfl,by rw [VQ,GZ];exact hl,by simpa using rv⟩) (fun b u z=>by have z':(none:Option HO)=some u:=z;cases z') (fun b z=>absurd rfl z) fun z=>absurd rfl z
 |none =>
  refine core (fun b=>if b=a then some (.mC { cls:=.type "list",data:=.seq vs.toArray } (.lst (ns.map V.int))) else none) (fun b=>?_) (.inl (.inr ⟨{ cls:=.type "list",data:=.seq vs.toArray },if_pos rfl⟩)) (fun b u z=>?_) (fun b z=>?_) fun _=>hk
  ·by_cases hb:b=a
   ·exact .inr ⟨_,_,if_pos hb⟩
   ·exact .inl (if_neg hb)
  ·by_cases hb:b=a
   ·have z':=(if_pos hb).symm.trans z
    cases z';subst hb;exact ⟨ha,by rw [Vz];exact hl,vs,_,rv,ha⟩
   ·have z':=(if_neg hb).symm.trans z
    cases z'
  ·by_cases hb:b=a
   ·exact hb
   ·exact absurd (if_neg hb) z
abbrev KOf{K:Zfr}{h:Heap}(_:K.In h):Zfr:=K
theorem Oq{l:PySem.W.OpenLaw}{n k:Nat}{q:Program}{loose:List Str}{XP:(Str->Option Value)->Heap->Prop}{YP:World->Heap->Prop}{d:DefRec}{K:Params->Zfr}{CX:World->pe}{sp:World->Sp}{x:Str}
  (hn:l.most=some n) (hn2:n<=sizeLine) (hdf:d.params.defaults=[]) (hr:cS k callerA)
  (hY:∀(w:World) (h:Heap),YP w h->(K w.params).In h)
  (F:∀(w:World) (mg:Str->Option Value) (fa:Addr) (h:Heap),(K w.params).In h->h.Ns mainGlobals mg->mg d.name=some (.ref fa) ->
   ∃fd:FuncData,(∀(s:Shared) (u:Value),BindsTo s fd ⟨[u],[]⟩ [(x,u)]) /\
    ∀base:Heap,(K w.params).In base->base.Ns mainGlobals mg->aH l.prog w (K w.params) mg base (CX w) k fa fd [x] (sp w))
  (qM:∀(w:World) (H:Hp) (a:Addr) (ns:List Int),ns.length<=n->Only H->jC (K w.params) H a (ns.map V.int)->sp w [.ref a] H (fun v _=>v=.bl true) fun _ _ _=>False)
  (Bk:∀(w:World) (H:Hp) (s:Shared) (e:Value) (s':Shared),CX w [] H s (fun _ _ _=>False) e s'->False) :
  PySem.W.WalkO q loose XP YP l.row.toRowW d [] (fun f vs=>PySem.call f vs):=by
 refine J4.Ol hn hdf fun w s₀ s₁ mg mb fa o pm cd doc a vs ns G Y ho hd hcd hmg hobj hints hlen hg=>?_;have KX:=hY w _ Y;obtain ⟨fd,hb,hF⟩:=F w mg fa _ KX G.T.g hmg;exact Om KX G.T.g G.T.b G.T.builtins G.T.nolimit hg hobj hints (V3 hlen hn2) hr hF hb (fun H hO hS=>qM w H a ns hlen hO hS) fun H e s'=>Bk w H s₁ e s'
theorem Ot{l:PySem.W.OpenLaw}{n k:Nat}{q:Program}{loose:List Str}{XP:(Str->Option Value)->Heap->Prop}{YP:World->Heap->Prop}{d:DefRec}{K:Params->Zfr}{CX:pe}{sp:Zfr->Sp}{x:Str}
  (hn:l.most=some n) (hn2:n<=sizeLine) (hdf:d.params.defaults=[]) (hr:cS k callerA)
  (hY:∀(w:World) (h:Heap),YP w h->(K w.params).In h)
  (F:∀(w:World) (mg:Str->Option Value) (fa:Addr) (h:Heap),(K w.params).In h->h.Ns mainGlobals mg->mg d.name=some (.ref fa) ->
   ∃fd:FuncData,(∀(s:Shared) (u:Value),BindsTo s fd ⟨[u],[]⟩ [(x,u)]) /\
    ∀base:Heap,(K w.params).In base->base.Ns mainGlobals mg->aH l.prog w (K w.params) mg base CX k fa fd [x] (sp (K w.params)))
  (qM:∀(K:Zfr) (H:Hp) (a:Addr) (ns:List Int),ns.length<=n->Only H->jC K H a (ns.map V.int)->sp K [.ref a] H (fun v _=>v=.bl true) fun _ _ _=>False)
  (Bk:∀(H:Hp) (s:Shared) (e:Value) (s':Shared),CX [] H s (fun _ _ _=>False) e s'->False) :
  PySem.W.WalkO q loose XP YP l.row.toRowW d [] (fun f vs=>PySem.call f vs) :=
 Oq (K:=K) (CX:=fun _=>CX) (sp:=fun w=>sp (K w.params)) hn hn2 hdf hr hY F (fun w H a ns h1 h2 h3=>qM (K w.params) H a ns h1 h2 h3) fun _ H s e s'=>Bk H s e s'
def cX(s:Stmt):Arguments:=match s with
 |.FunctionDef _ a _ _ _ _ _ _ _ _=>a
 |_=>{ posonlyargs:=[],args:=[],vararg:=none,kwonlyargs:=[],kw_defaults:=[],kwarg:=none,defaults:=[] }
def cE(s:Stmt):List Stmt:=match s with
 |.FunctionDef _ _ b _ _ _ _ _ _ _=>b
 |_=>[]
def aq(s:Stmt):Scope:=match s with
 |.FunctionDef _ _ _ _ _ _ sc _ _ _=>sc
 |_=>{ kind:=.function,names:=[],isGenerator:=false,isCoroutine:=false }
abbrev bW:pe:=fun _ _ _ _ _ _=>False
abbrev E0:XK:=fun _ _ _=>False
theorem Bl{X:Cx}:Passes bW X E0:=fun _ _ _ _ _ _ _ h=>h.elim
structure vt(K:Zfr)(x qual:Str)(st:Stmt)(f:Addr)(fd:FuncData):Prop where
 ex:∃(oc:Value) (od:Option Addr) (kV doc pm:Value) (an:Option Addr) (cdv ct:Value) (osl:Array (Option Value)),
  fd=PySem.W.fnOf x qual (cX st) (cE st) (aq st) .none kV doc pm an cdv ct/\K.lookup f=some ⟨oc,od,.func fd,osl⟩/\PySem.W.codeIn K cdv qual=true
 kp:PySem.W.keepIn K (.ref f)=true
section
variable {P:Program}{w:World}{K:Zfr}{mg:Str->Option Value}{base:Heap}
theorem vt.ok{x qual:Str}{st:Stmt}{f:Addr}{fd:FuncData}{N ps:List Str}{k:Nat}{sp:Sp}(F:vt K x qual st f fd)(S:aE N ps (aq st))(len:∀vs H Q E,sp vs H Q E->vs.length=ps.length)
  (hbody:∀(cdv:Value) (A:Around) (outer:List Env) (s:Shared) (H:Hp) (vs:List V) (Q:VK) (E:XK),cS k (A.deeper (envOfC qual (aq st) s.heap.objs.size f cdv))->sp vs H Q E ->
   ∃t,oZ (eV bW P w K mg base N qual (aq st) f cdv A outer s H E).o3 (cE st) t/\t { nx:=fun _ H'=>Q .non H',rt:=Q } (start N vs) H):aH P w K mg base bW (k+1) f fd ps sp:=by
 obtain ⟨oc,od,kV,doc,pm,an,cdv,ct,osl,rfl,lk,hcd⟩:=F.ex;refine vd lk hcd S len fun A outer s H vs Q E hr qM=>?_;obtain ⟨t,h,q⟩:=hbody cdv A outer s H vs Q E hr qM;exact ⟨t,h.o3,q⟩
theorem J8{x qual:Str}{st:Stmt}{f:Addr}{oc:Value}{od an:Option Addr}{osl:Array (Option Value)}{kV doc pm cdv ct:Value}(l:K.lookup f=some ⟨oc,od,.func (PySem.W.fnOf x qual (cX st) (cE st) (aq st) .none kV doc pm an cdv ct),osl⟩)
  (c:PySem.W.codeIn K cdv qual=true) (k:PySem.W.keepIn K (.ref f)=true):vt K x qual st f (PySem.W.fnOf x qual (cX st) (cE st) (aq st) .none kV doc pm an cdv ct):=⟨⟨oc,od,kV,doc,pm,an,cdv,ct,osl,rfl,l,c⟩,k⟩
end
theorem Bm{A:Around}{k:Nat}(hr:cS k A):A.units+1<cLine:=Ww (Nat.add_le_add_left (by decide:1<=64) _) hr.units
section
variable {X:Cx}
theorem pv(i:Nat){x:Str}{pos:Pos}(hN:X.N[i]?=some x:=by rfl)(hv:Gm X.env.scope x:=by first | exact Or.inl rfl | exact Or.inr (Or.inl rfl) | exact Or.inr (Or.inr rfl))(hd:(x == ("__debug__" : Str))=false:=by decide)
  (hcd:(x == ("__classdict__" : Str))=false:=by decide):PE X (.Name x pos) (rh i):=wJ hN hv hd hcd
end
theorem om{A B:Prop}(h:B):if false=true then A else B:=by
 rw [if_neg VD];exact h
theorem oo{A B:Prop}(h:A):if true=true then A else B:=by
 rw [if_pos rfl];exact h
def dY(H H':Hp):Prop:=∀b o,H b=some o->H' b=some o
theorem dY.refl(H:Hp):dY H H:=fun _ _ h=>h
theorem kf:bootBuiltins "len" = some (.builtin "len"):=by decide +kernel
theorem xj:bootBuiltins "int" = some (.type "int"):=by decide +kernel
theorem qr:bootBuiltins "list" = some (.type "list"):=by decide +kernel
theorem nX:bootBuiltins "tuple" = some (.type "tuple"):=by decide +kernel
theorem tf:bootBuiltins "range" = some (.type "range"):=by decide +kernel
theorem G1:bootBuiltins "isinstance" = some (.builtin "isinstance"):=by decide +kernel
theorem xk:bootBuiltins "max" = some (.builtin "max"):=by decide +kernel
theorem G2:bootBuiltins "min" = some (.builtin "min"):=by decide +kernel
theorem J9:bootBuiltins "repr" = some (.builtin "repr"):=by decide +kernel
structure Kp(ch:List Addr)(H H':Hp):Prop where
 keep:∀b o,H b=some o->b ∉ ch->H' b=some o
 tup:∀b xs,H b=some (.tup xs)->H' b=some (.tup xs)
 mC:∀b o u,H b=some (.mC o u)->H' b=some (.mC o u)
section
variable {ch:List Addr}{H H1 H2:Hp}{a l p:Addr}{o:HO}{xs ys:List V}{K:Zfr}
theorem Kp.refl:Kp ch H H:=⟨fun _ _ h _=>h,fun _ _ h=>h,fun _ _ _ h=>h⟩
theorem Kp.of_same(h:dY H H1):Kp ch H H1:=⟨fun b o e _=>h b o e,fun b xs e=>h b _ e,fun b o u e=>h b _ e⟩
theorem Kp.put(h:Kp ch H H1)(ha:a∈ch)(e:H1 a=some (.lst xs)):Kp ch H (upd H1 a o) :=
 ⟨fun b u q n=>by rw [di (fun z=>n (by rw [z];exact ha))];exact h.keep b u q n,
   fun b u q=>by
  have r:=h.tup b u q;rw [di (Gj r e (by intro z;cases z))];exact r,
   fun b u v q=>by
  have r:=h.mC b u v q
  rw [di (Gj r e (by intro z;cases z))];exact r⟩
theorem Kp.G3(h:Kp ch H H1)(q:eu K H a xs):eu K H1 a xs:=by
 rcases q with (q|⟨o,q⟩)|q
 ·exact .inl (.inl (h.tup a xs q))
 ·exact .inl (.inr ⟨o,h.mC a o _ q⟩)
 ·exact .inr q
def Bo(K:Zfr)(H:Hp)(a:Addr)(xs:List V):Prop :=
 (∃o,H a=some (.mC o (.lst xs))) \/
  ∃(o:Obj) (its:Array Value) (n:Nat),K.lookup a=some o/\o.cls=.type "list" /\ o.dict=none/\o.data=.seq its n/\its.size<=sizeLine/\Vals xs its.toList
theorem Bo.sq(h:Bo K H a xs):jC K H a xs:=h.elim (fun ⟨o,e⟩=>.inl (.inr ⟨o,e⟩)) .inr
theorem jC.script(hO:Only H)(q:jC K H a xs):Bo K H a xs:=by
 rcases q with (q|⟨o,q⟩)|q
 ·rcases hO a with e|⟨o,ys,e⟩
  ·rw [e] at q;cases q
  ·rw [e] at q;cases q
 ·exact .inl ⟨o,q⟩
 ·exact .inr q
theorem dY.up(h:H p=none):dY H (upd H p o):=fun b u e=>by rw [di (wC e h)];exact e
end
def pj(K:Zfr)(H:Hp)(xs:List V)(Q:VK):Prop:=∀p H',eu K H' p xs->dY H H'->Q (.ref p) H'
section
variable {X:Cx}
theorem pj.new{K:Zfr}{H:Hp}{xs:List V}{Q:VK}(h:pj K H xs Q):∀p,H p=none->Q (.ref p) (upd H p (.tup xs)):=fun p hp=>h p _ (eu.of kS) (dY.up hp)
theorem pj.it{K:Zfr}{H:Hp}{xs:List V}{Q:VK}{a:Addr}(h:pj K H xs Q)(q:eu K H a xs):Q (.ref a) H:=h a H q (dY.refl H)
def rG(K:Zfr):R2:=fun x y H Q=>∃a b xs ys,x=.ref a/\y=.ref b/\eu K H a xs/\eu K H b ys/\xs.length+ys.length<=sizeLine/\pj K H (xs ++ ys) Q
theorem Bp:ka X (binaryOp .Add) (rG X.K):=by
 intro pins s σ H x y v u Q I rx ry h;obtain ⟨a,b,xs,ys,rfl,rfl,ha,hb,hz,q⟩:=h
 by_cases hx:xs=[]
 ·subst hx
  cases rx;cases ry;obtain ⟨its,r1,p1,_⟩:=I.tuple ha;obtain ⟨its2,r2,p2,_⟩:=I.tuple hb;have e:its=[]:=r1.kY.mpr rfl;subst e;obtain ⟨⟨cls,dd,data,sl⟩,ho,hc,n,hd⟩:=id p1;obtain ⟨⟨GF,dd2,data2,sl2⟩,ho2,hc2,n2,hd2⟩:=id p2;simp only at hc hd hc2 hd2;subst hc hd hc2 hd2;exact concat_meets ⟨_,ho,rfl⟩ ⟨_,ho2,rfl⟩ noFill_tuple_add seq_tuple_add PySem.F.slot_tuple_add PySem.F.entry_tuple_add (PySem.F.args_tuple_add_2 _ _)
   (tuple_addW0 a b #[] its2.toArray n n2 dd dd2 sl sl2 (by simp)) ⟨ho,ho2,⟨.ref b,H,I,rfl,q.it (by simpa using hb)⟩⟩
 ·exact N1 pins s σ H _ _ v u Q I rx ry ⟨a,b,xs,ys,rfl,rfl,ha,hb,hx,hz,fun e=>q.it (by subst e;simpa using ha),fun _=>q.new⟩
theorem Ou{prog:Program}{w:World}{A:Around}{E:Value->Shared->Prop}{s:Shared}{t sl:Addr}{items:Array Value}{vl vu:Value}{lo hi:Option Int}{Q:Value->Shared->Prop}(ht:IsTup s.heap t items)(hs:s.heap.IsSliceOf sl vl vu .none)(pl:IsPart vl lo)(pu:IsPart vu hi)
  (hw:HT.cx items.size 0 lo=0/\HT.cx items.size items.size hi=items.size) (h:Q (.ref t) s):wpAny (model prog w) A (getItem (.ref t) (.ref sl)) Q E s:=by
 obtain ⟨os,hos,hcs,hds⟩:=id hs;have GH:s.TypeIs (.ref sl) "slice" := ⟨os,hos,hcs⟩;unfold getItem
 try with_reducible refine wpAny_holding ?_
 first|refine wpAny_bind (wpAny_pure ?_)|skip
 refine wpAny_bind (wpAny_sequenceKey ht.typeIs (by decide) ?_)
 refine wpAny_bind (wpAny_callSpecial?_slot (name:=Str.ofString "__getitem__") ht.typeIs PyProof.Rows.slot_tuple_getitem
  (wpAny_call_entry PyProof.Rows.slot_tuple_getitem ht.typeIs entry_tuple_getitem ?_ (args_tuple_getitem _ _)))
 show wpAny _ _ (Builtin.Tuple.tupleItemsOf (.ref t) >>= _) _ _ s;refine wpAny_bind (tupleItemsOf_ ht ?_);refine wpAny_bind (wpAny_typeOf GH ?_);rw [if_pos (by decide)];refine wpAny_bind (HT.JP hs pl pu ?_);have hyes:((((HT.cx items.size 0 lo:Nat):Int) == 0 && (1:Int) == 1 && (HT.cx items.size items.size hi-HT.cx items.size 0 lo) == items.size)=true):=by
  rw [hw.1,hw.2];simp
 show wpAny _ _ (if (((HT.cx items.size 0 lo:Nat):Int) == 0 && (1:Int) == 1 && (HT.cx items.size items.size hi-HT.cx items.size 0 lo) == items.size)=true then _ else _) _ _ s;rw [if_pos hyes];obtain ⟨o,ho,hc,n,hd⟩:=id ht;unfold Builtin.Tuple.tupleIsExact
 first
  |exact wpAny_bind (wpAny_bind (wpAny_typeOf (T:="tuple") ⟨o,ho,hc⟩ (wpAny_pure (wpAny_bind (wpAny_rule (wpAny_pure ⟨_,rfl,wpAny_pure h⟩))))))
  |exact wpAny_bind (wpAny_bind (wpAny_typeOf (T:="tuple") ⟨o,ho,hc⟩ (wpAny_pure (wpAny_bind (wpAny_rule (wpAny_bind (wpAny_pure ⟨_,rfl,wpAny_pure h⟩)))))))
  |trace_state
def vw(K:Zfr):V->Option Int->Option Int->Hp->VK->Prop:=fun x lo hi H Q=>∃a xs,x=.ref a/\eu K H a xs/\pj K H (lF xs lo hi) Q
theorem Ov{xs:List V}{lo hi:Option Int}(h:HT.cx xs.length 0 lo=0/\HT.cx xs.length xs.length hi=xs.length):lF xs lo hi=xs:=by
 unfold lF;rw [h.1,h.2];simp
theorem Ow:Es X (vw X.K):=by
 intro pins s σ H x v vl vu lo hi sl Q I rx hs pl pu h;obtain ⟨a,xs,rfl,hx,q⟩:=h
 by_cases hw:HT.cx xs.length 0 lo=0/\HT.cx xs.length xs.length hi=xs.length
 ·cases rx
  obtain ⟨its,r,ht,hz⟩:=I.tuple hx;have hlen:its.toArray.size=xs.length:=by rw [VQ];exact r.length.symm
  refine ⟨"tuple",_,PyProof.Rows.slot_tuple_getitem.lookup,ht.typeIs,?_⟩;exact Ou ht hs pl pu (by rw [hlen];exact hw) ⟨.ref a,H,I,rfl,q.it (by rw [Ov hw];exact hx)⟩
 ·exact wZ pins s σ H _ v vl vu lo hi sl Q I rx hs pl pu ⟨a,xs,rfl,hx,hw,q.new⟩
def eW(lo:Int)(n:Nat):List V:=(List.range n).map fun (k:Nat)=>V.int (lo+k)
theorem Ox(lo:Int)(n:Nat):(eW lo n).length=n:=by simp [eW]
theorem EA:eh X (.type "range") (fun xs H Q=>∃j:Int,xs=[.int j]/\∀p,H p=none->Q (.ref p) (upd H p (.gR 0 j))):=by
 intro pins s σ H xs us Q I r h;obtain ⟨j,rfl,q⟩:=h;obtain ⟨u,rfl,t,rfl⟩:=vals1 r;refine call_range_1 ⟨.ref s.heap.objs.size,_,I.laid (o:=.gR 0 j) (fun b o e=>VH _ e) (VC _) ?_,rfl,q _ (I.hok.fresh (VC _))⟩;exact ⟨_,_,_,V1 _ rfl⟩
theorem zK:eh X (.type "range") (fun xs H Q=>∃i j:Int,xs=[.int i,.int j]/\∀p,H p=none->Q (.ref p) (upd H p (.gR i j))):=by
 intro pins s σ H xs us Q I r h;obtain ⟨i,j,rfl,q⟩:=h;obtain ⟨u,u',rfl,⟨t,rfl⟩,t',rfl⟩:=vals2 r;refine call_range_2 ⟨.ref s.heap.objs.size,_,I.laid (o:=.gR i j) (fun b o e=>VH _ e) (VC _) ?_,rfl,q _ (I.hok.fresh (VC _))⟩;exact ⟨_,_,_,V1 _ rfl⟩
theorem Ka:∀(n:Nat) (lo:Int) (us:List Value),us.length=n->(∀(j:Nat) (v:Value),us[j]?=some v->∃t,v=.int (lo+j*1) t)->Vals (eW lo n) us
 |0,lo,[],_,_=>.nil
 |0,lo,_ :: _,h,_=>by simp at h
 |n+1,lo,[],h,_=>by simp at h
 |n+1,lo,u :: us,h,hv=>by
  have e:eW lo (n+1)=V.int lo :: eW (lo+1) n:=by
   unfold eW;rw [List.range_succ_eq_map,V0,V8]
   congr 1
   ·simp
   ·apply Wg
    intro i _;simp only [Function.comp]
    congr 1
    push_cast
    omega
  rw [e];obtain ⟨t,ht⟩:=hv 0 u rfl;refine .cons ⟨t,by rw [ht];simp⟩ (Ka n (lo+1) us (by simpa using h) fun j v hj=>?_);obtain ⟨t',ht'⟩:=hv (j+1) v hj;refine ⟨t',ht'.trans ?_⟩
  congr 1
  omega
theorem tj(hc:X.calm=true):eh X (.type "list") (fun xs H Q=>∃p lo hi,xs=[.ref p]/\H p=some (.gR lo hi)/\(-(2 ^ 62)<=lo/\lo<2 ^ 62/\-(2 ^ 62)<=hi/\hi<2 ^ 62)/\(hi-lo).toNat<=2 ^ 24 /\
  ∀l,H l=none->Q (.ref l) (upd H l (.lst (eW lo (hi-lo).toNat)))):=by
 intro pins s σ H xs us Q I r h;obtain ⟨p,lo,hi,rfl,hp,⟨b1,b2,b3,b4⟩,hz,q⟩:=h;obtain ⟨u,rfl,ru⟩:=vals1 r;cases ru;obtain ⟨t,t',t'',e⟩:=(show bw X.prog X.w H s.heap p (.gR lo hi) from I.hok p _ hp);refine call_list_range (a:=lo) (b:=hi) (c:=1) (n:=(hi-lo).toNat) (I.ok.hd hc) (show IsRange s.heap p lo hi 1 t t' t'' from e) (small_one b1 b2 b3 b4) (by rw [rangeSize_one];split<;>omega) hz fun h' tk acc c kp hD hI=>?_;refine ⟨.ref s.heap.objs.size,_,I.laid (t':=tk) (o:=.lst (eW lo (hi-lo).toNat)) kp (VC _) ?_,rfl,q _ (I.hok.fresh (VC _))⟩;refine ⟨by rw [Ox];exact V3 hz (by decide),acc.toList,c,Ka _ _ _ (by rw [Array.length_toList];exact hI.1) fun j v hj=>hI.2 j v (by rw [<- hj,W6]),by simpa using hD⟩
end
mutual
inductive Rep(K:Zfr)(H:Hp):V->PyData->Prop
 |non:Rep K H .non .none
 |bl (b:Bool):Rep K H (.bl b) (.bool b)
 |int (i:Int):Rep K H (.int i) (.int i)
 |str (x:Str):Rep K H (.str x) (.str x)
 |tup {a:Addr} {xs:List V} {ds:List PyData}:eu K H a xs->eX K H xs ds->Rep K H (.ref a) (.tuple ds)
 |lst {a:Addr} {xs:List V} {ds:List PyData}:jC K H a xs->eX K H xs ds->Rep K H (.ref a) (.list ds)
inductive eX(K:Zfr)(H:Hp):List V->List PyData->Prop
 |nil:eX K H [] []
 |cons {v:V} {vs:List V} {d:PyData} {ds:List PyData}:Rep K H v d->eX K H vs ds->eX K H (v :: vs) (d :: ds)
end
section
variable {X:Cx}{pins:List (Addr×Obj)}{σ:St}{H:Hp}{s:Shared}
mutual
theorem Rep.reads(I:Inv X pins σ H s):∀{v:V} {d:PyData} {u:Value},Rep X.K H v d->RelV v u->∃as,Reads s.heap u d as
 |_,_,_,.non,r=>by cases r;exact ⟨_,.none⟩
 |_,_,_,.bl b,r=>by cases r;exact ⟨_,.bool b⟩
 |_,_,_,.int i,r=>by obtain ⟨t,rfl⟩:=r;exact ⟨_,.int i t⟩
 |_,_,_,.str x,r=>by obtain ⟨t,rfl⟩:=r;exact ⟨_,.str x t⟩
 |_,_,_,.tup q rs,r=>by
  cases r;obtain ⟨its,rv,⟨o,e,c,n,hd⟩,_⟩:=I.tuple q;obtain ⟨as,ra⟩:=eX.reads I rs rv;exact ⟨_,.tuple e c hd (by simpa using ra)⟩
 |_,_,_,.lst q rs,r=>by
  cases r;obtain ⟨its,rv,pl,_⟩:=I.list q;obtain ⟨o,e,c,n,hd⟩:=pl.isList;obtain ⟨as,ra⟩:=eX.reads I rs rv;exact ⟨_,.list e c hd (by simpa using ra)⟩
theorem eX.reads(I:Inv X pins σ H s):∀{vs:List V} {ds:List PyData} {us:List Value},eX X.K H vs ds->Vals vs us->∃as,ReadsAll s.heap us ds as
 |_,_,_,.nil,r=>by cases r;exact ⟨_,.nil⟩
 |_,_,_,.cons h t,r=>by
  cases r with
  |cons r1 r2 =>
   obtain ⟨as,h1⟩:=Rep.reads I h r1;obtain ⟨bs,h2⟩:=eX.reads I t r2;exact ⟨_,.cons h1 h2⟩
end
def xl(K:Zfr)(neg:Bool):R2:=fun x y H Q=>∃d e,Rep K H x d/\Rep K H y e/\PyData.canLay0 d=true/\PyData.canLay0 e=true/\min d.depth e.depth<=60/\Q (.bl (if neg then !PyData.eqv d e else PyData.eqv d e)) H
theorem xm(hu:X.A.units+64<cLine):ka X (compareOp .Eq) (xl X.K false):=by
 intro pins s σ H x y v u Q I rx ry h;obtain ⟨d,e,hd,he,c1,c2,dp,q⟩:=h;obtain ⟨as,ra⟩:=hd.reads I rx;obtain ⟨bs,rb⟩:=he.reads I ry;exact SeqAt.eqOverData X.prog X.w X.A X.xe s v u d e as bs _ ra rb c1 c2 (by omega) ⟨.bl _,H,I,rfl,q⟩
theorem G4(hu:X.A.units+64<cLine):ka X (compareOp .NotEq) (xl X.K true):=by
 intro pins s σ H x y v u Q I rx ry h;obtain ⟨d,e,hd,he,c1,c2,dp,q⟩:=h;obtain ⟨as,ra⟩:=hd.reads I rx;obtain ⟨bs,rb⟩:=he.reads I ry;exact SeqAt.neOverData X.prog X.w X.A X.xe s v u d e as bs _ ra rb c1 c2 (by omega) ⟨.bl _,H,I,rfl,q⟩
end
section
variable {K:Zfr}{H:Hp}
def cY(ns:List Int):List PyData:=ns.map PyData.int
theorem zL:∀(ns:List Int),PyData.canLayAll0 (cY ns)=true
 |[]=>rfl
 |n :: r=>by show (true && PyData.canLayAll0 (cY r))=true;rw [zL r];rfl
theorem Bq:∀(ns:List Int),PyData.depthAll (cY ns)=0
 |[]=>rfl
 |n :: r=>by show max 0 (PyData.depthAll (cY r))=0;rw [Bq r];rfl
theorem EB:∀(ns ms:List Int),PyData.eqvAll (cY ns) (cY ms)=decide (ns=ms)
 |[],[]=>rfl
 |[],_ :: _=>rfl
 |_ :: _,[]=>rfl
 |n :: ns,m :: ms=>by
  show ((n == m) && PyData.eqvAll (cY ns) (cY ms))=decide (n :: ns=m :: ms);rw [EB ns ms]
  by_cases h:n=m
  ·subst h;simp
  ·simp [h]
end
end L2
namespace L2
open PySem PySem.Spec PyProof.Rows
structure Def(K:Zfr)(mg:Str->Option Value)(x:Str)(st:Stmt)(ps:List Str)(f:Addr)(fd:FuncData):Prop where
 F:vt K x x st f fd
 be:∀us:List Value,us.length=ps.length->bindArgs fd ⟨us,[]⟩=pure (ps.zip us)
 m:mg x=some (.ref f)
theorem Def.b{K:Zfr}{mg:Str->Option Value}{x:Str}{st:Stmt}{ps:List Str}{f:Addr}{fd:FuncData}(D:Def K mg x st ps f fd):Binds K fd ps []:=.all D.be
theorem jK{K:Zfr}{h:Heap}{mg:Str->Option Value}(X:K.In h)(G:h.Ns mainGlobals mg){x:Str}{st:Stmt}{ps:List Str}{f:Addr}{oc:Value}{od an:Option Addr}{osl:Array (Option Value)}{kV doc pm cdv ct:Value}
  (hb:∀(kV doc pm:Value) (an:Option Addr) (cdv ct:Value) (us:List Value),us.length=ps.length->bindArgs (PySem.W.fnOf x x (cX st) (cE st) (aq st) .none kV doc pm an cdv ct) ⟨us,[]⟩=pure (ps.zip us))
  (a:PySem.W.nsIn K mainGlobals x=some (some (.ref f))) (l:K.lookup f=some ⟨oc,od,.func (PySem.W.fnOf x x (cX st) (cE st) (aq st) .none kV doc pm an cdv ct),osl⟩)
  (c:PySem.W.codeIn K cdv x=true) (k:PySem.W.keepIn K (.ref f)=true):∃f fd,Def K mg x st ps f fd :=
 ⟨f,_,J8 l c k,hb kV doc pm an cdv ct,PySem.W.mg_of X G a⟩
theorem Def.ub{K:Zfr}{mg:Str->Option Value}{x p:Str}{st:Stmt}{f:Addr}{fd:FuncData}(D:Def K mg x st [p] f fd)(s:Shared)(u:Value):BindsTo s fd ⟨[u],[]⟩ [(p,u)]:=.of_eq (D.be [u] rfl)
theorem rH{K:Zfr}{h:Heap}{mg:Str->Option Value}(X:K.In h)(G:h.Ns mainGlobals mg){x:Str}(z:PySem.W.nsIn K mainGlobals x=some none):mg x=none:=PySem.W.mg_none_of X G z
theorem zM{n j:Nat}(h:j<n):kZ n (j:Int)=some j:=by
 unfold kZ;rw [if_pos (by omega),if_pos (by omega)];simp
theorem xn{α:Type}{xs:List α}{i:Int}(h0:0<=i)(h1:i<xs.length):∃v,eo xs i=some v/\v∈xs:=by
 have hi:i.toNat<xs.length:=by omega
 refine ⟨xs[i.toNat],?_,List.getElem_mem hi⟩;have:=zH (xs:=xs) (j:=i.toNat) (v:=xs[i.toNat]) (by simp [hi])
 rwa [V2 h0] at this
theorem dT{c:Prop}[Decidable c](h:decide c=true):c:=of_decide_eq_true h
theorem Br:∀(names:List (Str×NameKind)) (n:Nat) (acc:List (Str×Addr)),cellsFrom n names acc=cellsFrom n names [] ++ acc
 |[],_,_=>rfl
 |(x,k) :: r,n,acc=>by
  show (if k == .cell then cellsFrom (n+1) r ((x,n) :: acc) else cellsFrom n r acc)=(if k == .cell then cellsFrom (n+1) r [(x,n)] else cellsFrom n r []) ++ acc
  by_cases hk:(k == NameKind.cell)=true
  ·rw [if_pos hk,if_pos hk,Br r (n+1) ((x,n) :: acc),Br r (n+1) [(x,n)],W3];rfl
  ·rw [if_neg hk,if_neg hk];exact Br r n acc
theorem G5{x:Str}{c:Addr}:∀(names:List (Str×NameKind)) (n:Nat),(x,c)∈cellsFrom n names []->(x,NameKind.cell)∈names/\n<=c
 |[],_,h=>nomatch h
 |(y,k) :: r,n,h=>by
  have h':(x,c)∈(if k == .cell then cellsFrom (n+1) r [(y,n)] else cellsFrom n r []):=h
  by_cases hk:(k == NameKind.cell)=true
  ·rw [if_pos hk,Br] at h'
   rcases V9.mp h' with h'|h'
   ·obtain ⟨h1,h2⟩:=G5 r (n+1) h'
    exact ⟨VL _ h1,by omega⟩
   ·have e:(x,c)=(y,n):=by simpa using h'
    cases e;have e2:k=NameKind.cell:=by simpa using hk
    subst e2;exact ⟨VN,VC _⟩
  ·rw [if_neg hk] at h'
   obtain ⟨h1,h2⟩:=G5 r n h';exact ⟨VL _ h1,h2⟩
theorem G6{env:Env}(f:Str×NameKind->List (Str×Addr)->Sem (ForInStep (List (Str×Addr))))
  (hf:∀name kind cs,f (name,kind) cs=if kind == .free then (do let c <- cellOf env name;pure (.yield ((name,c) :: cs))) else pure (.yield cs)) :
  ∀(names:List (Str×NameKind)) (acc:List (Str×Addr)),(∀y∈names,y.2=NameKind.free->∃c,env.cells.lookup y.1=some c) ->
   ∃cl,(forIn names acc f:Sem (List (Str×Addr)))=pure cl/\(∀n c,(n,c)∈cl->(n,c)∈acc\/(env.cells.lookup n=some c/\(n,NameKind.free)∈names))/\(∀p∈acc,p∈cl)/\∀n,(n,NameKind.free)∈names->∃c,(n,c)∈cl
 |[],acc,_=>⟨acc,by rw [List.forIn_nil],fun n c h=>.inl h,fun p h=>h,fun n h=>nomatch h⟩
 |(x,k) :: r,acc,h=>by
  have hr:∀y∈r,y.2=NameKind.free->∃c,env.cells.lookup y.1=some c:=fun y hy=>h y (VL _ hy)
  by_cases hk:k=NameKind.free
  ·subst hk
   obtain ⟨c,hc⟩:=h (x,.free) VN rfl;have e:cellOf env x=pure c:=by unfold cellOf;rw [hc]
   obtain ⟨cl,e1,h1,h2,h3⟩:=G6 f hf r ((x,c) :: acc) hr;refine ⟨cl,?_,fun n d hd=>?_,fun p hp=>h2 p (VL _ hp),fun n hn=>?_⟩
   ·rw [List.forIn_cons,hf,if_pos (by rfl),e]
    exact e1
   ·rcases h1 n d hd with q|⟨q,q'⟩
    ·rcases VZ.mp q with q|q
     ·cases q;exact .inr ⟨hc,VN⟩
     ·exact .inl q
    ·exact .inr ⟨q,VL _ q'⟩
   ·rcases VZ.mp hn with q|q
    ·cases q;exact ⟨c,h2 _ VN⟩
    ·exact h3 n q
  ·obtain ⟨cl,e1,h1,h2,h3⟩:=G6 f hf r acc hr
   have hb:¬((k == NameKind.free)=true):=by simpa using hk
   refine ⟨cl,?_,fun n d hd=>?_,h2,fun n hn=>?_⟩
   ·rw [List.forIn_cons,hf,if_neg hb]
    exact e1
   ·rcases h1 n d hd with q|⟨q,q'⟩
    ·exact .inl q
    ·exact .inr ⟨q,VL _ q'⟩
   ·rcases VZ.mp hn with q|q
    ·cases q;exact absurd rfl hk
    ·exact h3 n q
theorem Kb{scope:Scope}{env:Env}(h:∀y∈scope.names,y.2=NameKind.free->∃c,env.cells.lookup y.1=some c):
  ∃cl,closureFor scope env=pure cl/\(∀n c,(n,c)∈cl->env.cells.lookup n=some c/\(n,NameKind.free)∈scope.names)/\∀n,(n,NameKind.free)∈scope.names->∃c,(n,c)∈cl:=by
 have key:∀ (f:Str×NameKind->List (Str×Addr)->Sem (ForInStep (List (Str×Addr)))),(∀ name kind cs,f (name,kind) cs=if kind == .free then (do let c <- cellOf env name;pure (.yield ((name,c) :: cs))) else pure (.yield cs)) ->
   ∃cl,((forIn scope.names [] f:Sem (List (Str×Addr))) >>= fun r=>pure r)=pure cl/\(∀n c,(n,c)∈cl->env.cells.lookup n=some c/\(n,NameKind.free)∈scope.names)/\∀n,(n,NameKind.free)∈scope.names->∃c,(n,c)∈cl:=fun f hf=>by
  obtain ⟨cl,e,h1,_,h3⟩:=G6 f hf scope.names [] h;refine ⟨cl,?_,fun n c hc=>(h1 n c hc).elim (fun z=>nomatch z) id,h3⟩;rw [e];rfl
 simp only [closureFor];exact key _ fun name kind cs=>by cases hk:kind == NameKind.free<;>simp [hk]
theorem ltN{a b:Addr}(h:a<b):@LT.lt Nat _ a b:=h
theorem wI{a b:Addr}(h:@LT.lt Nat _ a b):a≠b:=Wb h
theorem Kc{a b:Addr}(h:@LT.lt Nat _ b a):a≠b:=Nat.ne_of_gt h
theorem Oy{M:Model}{A:Around}{E:Value->Shared->Prop}{s:Shared}{scope:Scope}{g:Addr}{cl:List (Str×Addr)}{q:Str}{env:Env}{Q:Env->Shared->Prop}
  (h:∀h',h'.Ns s.heap.objs.size (fun _=>none)->(∀b o,s.heap.get? b=some o->h'.get? b=some o)->CellsOk h' (s.heap.objs.size+1) (cellsFrom (s.heap.objs.size+1) scope.names []) ->
   Q { scope:=scope,locals:=s.heap.objs.size,globals:=g,cells:=cellsFrom (s.heap.objs.size+1) scope.names cl,qual:=q,func:=none,code:=env.code,frame:=env.frame,builtins:=env.builtins } { s with heap:=h' }) :
  wpAny M A (newFunctionEnv scope g cl [] q none .none (some env)) Q E s:=by
 simp only [newFunctionEnv,Option.isSome_some,if_true];refine wpAny_bind (wpAny_alloc ?_);refine wpAny_bind (wpAny_layCells _ (fun name kind cells=>by cases hkc:kind == NameKind.cell<;>simp [hkc]) _ _ _ _ ?_);have ok:=cellsFrom_ok scope.names (s.heap.push { cls:=.type "dict",data:=.dict #[] }) (s.heap.objs.size+1) [] ⟨fun _ _ hm=>(nomatch hm),List.Pairwise.nil⟩ (by rw [WM];exact VC _);rw [WM] at ok;rw [show ({ s with heap:=s.heap.push { cls:=.type "dict",data:=.dict #[] } }:Shared).heap.objs.size=s.heap.objs.size+1 from WM ..];refine wpAny_bind ?_;rw [List.forIn_nil];refine wpAny_pure (wpAny_pure ?_);exact h _ ((Heap.Ns.new s.heap (.type "dict")).keeps (pushCells_keeps _ _)) (fun b o e=>pushCells_keeps _ _ b o (VH _ e)) ok
def aL(X:Cx)(N:List Str)(scope:Scope)(cells:List (Str×Addr))(C:Addr)(fp:List Addr)(s:Shared)(H:Hp):Cx where
 prog:=X.prog
 w:=X.w
 K:=X.K
 mg:=X.mg
 base:=X.base
 A:=X.A
 N:=N
 s₀:=s
 H₀:=H
 env:=compEnvC scope cells C X.env
 outer:=X.stack
 stack:=X.stack
 ex:=fp
 fn:=fun x=>decide (scope.names.lookup x=some .cell)
 calm:=X.calm
 pn:=[]
 xe:=fun _ _=>False
def rJ(scope sc:Scope):Scope :=
 { scope with names:=scope.names.map fun (n,k)=>if (k == .free && sc.kind == .function && sc.names.lookup n == some .cell) then (n,.cell) else (n,k) }
structure rK(sc scope:Scope)(own fr:List Str):Prop where
 kind:scope.kind=.function
 nd:(own ++ fr).Nodup
 zN:(scope.names.map (·.1)).Nodup
 free:∀y∈scope.names,y.2=.free->sc.names.lookup y.1=some .cell\/sc.names.lookup y.1=some .free
 G7:∀x∈fr,scope.names.lookup x=some .free
structure eY(X:Cx)(scope:Scope)(own fr:List Str)(js:List Nat):Prop where
 c:rK X.env.scope scope own fr
 ix:js.map (fun j=>X.N[j]?)=fr.map some
theorem eY.kind{X:Cx}{scope:Scope}{own fr:List Str}{js:List Nat}(S:eY X scope own fr js):scope.kind=.function:=S.c.kind
theorem eY.zN{X:Cx}{scope:Scope}{own fr:List Str}{js:List Nat}(S:eY X scope own fr js):(scope.names.map (·.1)).Nodup:=S.c.zN
theorem eY.G7{X:Cx}{scope:Scope}{own fr:List Str}{js:List Nat}(S:eY X scope own fr js):∀x∈fr,scope.names.lookup x=some .free:=S.c.G7
theorem eY.free{X:Cx}{scope:Scope}{own fr:List Str}{js:List Nat}(S:eY X scope own fr js):∀y∈scope.names,y.2=.free->X.env.kindOf y.1=some .cell\/X.env.kindOf y.1=some .free:=S.c.free
theorem Bs{α:Type}:∀{l:List (Str×α)} {n:Str} {c:α},(l.map (·.1)).Nodup->(n,c)∈l->l.lookup n=some c
 |(k,v) :: r,n,c,nd,h=>by
  obtain ⟨h1,h2⟩:=WN.mp nd;rw [Wx];rcases VZ.mp h with e|h
  ·cases e;simp
  ·have:(n == k)=false:=beq_eq_false_iff_ne.mpr fun e=>h1 (by rw [<- e];exact VO.mpr ⟨(n,c),h,rfl⟩)
   rw [this];exact Bs h2 h
theorem Kd(scope:Scope)(env:Env)(x:Str):(relabel scope env).names.lookup x=none/\scope.names.lookup x=none \/
  ∃k,scope.names.lookup x=some k/\(relabel scope env).names.lookup x=some (if (k == .free && env.scope.kind == .function && env.kindOf x == some .cell) then .cell else k):=by
 have key:∀ names:List (Str×NameKind),(names.map fun (n,k)=>if (k == NameKind.free && env.scope.kind == .function && env.kindOf n == some .cell) then (n,NameKind.cell) else (n,k)).lookup x=none/\names.lookup x=none \/
   ∃k,names.lookup x=some k/\(names.map fun (n,k)=>if (k == NameKind.free && env.scope.kind == .function && env.kindOf n == some .cell) then (n,NameKind.cell) else (n,k)).lookup x=some (if (k == .free && env.scope.kind == .function && env.kindOf x == some .cell) then .cell else k):=by
  intro names
  induction names with
  |nil=>exact .inl ⟨rfl,rfl⟩
  |cons p r ih =>
   obtain ⟨n,k⟩:=p;rw [V0];cases hx:x == n with
   |true =>
    have e:x=n:=by simpa using hx
    subst e;refine .inr ⟨k,by simp [Wx],?_⟩
    by_cases hc:(k == NameKind.free && env.scope.kind == .function && env.kindOf x == some .cell)=true
    ·simp only [if_pos hc];simp [Wx]
    ·simp only [if_neg hc];simp [Wx]
   |false =>
    have e1:∀q:NameKind,(((n,q) :: (r.map fun (n,k)=>if (k == NameKind.free && env.scope.kind == .function && env.kindOf n == some .cell) then (n,NameKind.cell) else (n,k))).lookup x)=((r.map fun (n,k)=>if (k == NameKind.free && env.scope.kind == .function && env.kindOf n == some .cell) then (n,NameKind.cell) else (n,k)).lookup x):=fun q=>by rw [Wx,hx]
    have e2:((n,k) :: r).lookup x=r.lookup x:=by rw [Wx,hx]
    rw [e2]
    by_cases hc:(k == NameKind.free && env.scope.kind == .function && env.kindOf n == some .cell)=true
    ·simp only [if_pos hc];rw [e1];exact ih
    ·simp only [if_neg hc];rw [e1];exact ih
 exact key scope.names
def iW(n:Nat)(js:List Nat)(σ:St):St:=List.replicate n none ++ js.map fun j=>σ.getD j none
theorem Inv.Bt{X:Cx}{pins:List (Addr×Obj)}{σ:St}{H:Hp}{s:Shared}{a:Addr}{o:HO}(I:Inv X pins σ H s)(f:kE X pins H a)(new:bw X.prog X.w (upd H a o) s.heap a o):Inv X pins σ (upd H a o) s:=by
 obtain ⟨f0,f1,f2,f3,f4,f5⟩:=f;have ne:∀b u,H b=some u->b≠a:=fun b u e z=>by rw [z,f0] at e;cases e
 refine I.step (h':=s.heap) (H':=upd H a o) (g':=s.gens) (d':=s.drawn) (t':=s.toks) (ch:=[a]) (fun b hb=>?_) (fun b u _ _ _ e _=>e) (fun b u _ _ _ e _=>⟨u.slots,e⟩) (fun b u hb e n=>?_) (fun b u _ e=>⟨u,e⟩)
  (fun b xs e=>by rw [di (ne b _ e)];exact e) (fun b u xs e=>by rw [di (ne b _ e)];exact e) (fun b ps e=>⟨#[],by rw [di (ne b _ e),e];simp⟩) (fun m hm=>hm) (fun b u e=>?_) I.bare
 ·have e:b=a:=by simpa using hb
  subst e;exact ⟨f3,f1,f4,f5⟩
 ·rw [di (fun z=>hb (by simp [z]))];exact n
 ·by_cases hb:b=a
  ·subst hb;rw [kS] at e;cases e;exact new
  ·rw [di hb] at e
   exact (I.hok b u e).stay (fun c v _ q=>q) (fun c q=>by rw [di (ne c _ q)];exact q) fun c xs q=>by rw [di (ne c _ q)];exact q
def PF(X:Cx)(ifs:List Expr)(t:TT):Prop :=
 ∀(pins:List (Addr×Obj)) (s:Shared) (σ:St) (H:Hp) (Q:Bool->Hp->Prop),Inv X pins σ H s->t σ H Q ->
  wpAny (model X.prog X.w) X.A (forIn ifs true fun c r=>if r=true then do let ok <- isTrue c X.env (eval c X.env);pure (ForInStep.yield ok) else pure (ForInStep.yield r)) (TP X pins σ Q) X.xe s
theorem tm{X:Cx}:PF X [] (fun _ H Q=>Q true H):=fun _ _ _ H _ I h=>wpAny_tests_nil ⟨H,I,h⟩
theorem Ke{X:Cx}{c:Expr}{t:TT}(h:PT X c t):PF X [c] t:=fun pins s σ H Q I hw=>wpAny_tests_one (h pins s σ H Q I hw)
theorem Oz{prog:Program}{w:World}{A:Around}{R:Result->Shared->Prop}{s:Shared}{elt target iter:Expr}{ifs:List Expr}{scope:Scope}{pos:Pos}{it acc:Value}{env:Env}(I:Nat->Shared->Prop)
  (turn:∀n s,I n s->wpAny (model prog w) A (pyNext it) (fun r s₁=>match r with
   |none=>R (.ok .next) s₁
   | some v=>wpAny (model prog w) A (letOwnedTupleGo target it v) (fun _ s₁'=>wpAny (model prog w) A (assign target env v) (fun _ s₂ =>
     wpAny (model prog w) A (forIn ifs true fun c r=>if r=true then do let ok <- isTrue c env (eval c env);pure (ForInStep.yield ok) else pure (ForInStep.yield r)) (fun ok s₃ =>
      if ok=true then wpAny (model prog w) A (eval elt env) (fun x s₄ =>
       wpAny (model prog w) A (call (.builtin "list.append") [acc,x]) (fun _ s₅=>∃m,m<n/\I m s₅) (fun _ _=>False) s₄) (fun _ _=>False) s₃
      else ∃m,m<n/\I m s₃) (fun _ _=>False) s₂) (fun _ _=>False) s₁') (fun _ _=>False) s₁) (fun _ _=>False) s)
  (n:Nat) (h:I n s) :
  codeAny (model prog w) A (.compLoop (.ListComp elt [⟨target,iter,ifs,0⟩] scope pos) 0 it acc env) R s:=by
 refine codeAny_loop rfl I (fun n s hI=>?_) n h;show wpAny _ A ((compTurn (.ListComp elt [⟨target,iter,ifs,0⟩] scope pos) 0 it acc env).onRaise (fun x=>do noteFrame x env;theTreesLotGoes x)) _ _ s;refine wpAny_noted ?_;rw [compTurn_list];refine wpAny_bind (wpAny_standAt (wpAny_bind (wpAny_mono (turn n s hI) (fun r s₁ h₁=>?_) fun _ _ h'=>h'.elim)));cases r with
 |none=>exact wpAny_pure h₁
 |some v =>
  refine wpAny_bind (wpAny_mono h₁ (fun _ s₁' h₁'=>?_) fun _ _ h'=>h'.elim);refine wpAny_bind (wpAny_mono h₁' (fun _ s₂ h₂=>wpAny_bind (wpAny_mono h₂ (fun ok s₃ h₃=>?_) fun _ _ h'=>h'.elim)) fun _ _ h'=>h'.elim);cases ok with
  |false=>exact wpAny_pure ⟨rfl,h₃⟩
  |true =>
   exact wpAny_bind (wpAny_bind (wpAny_mono h₃ (fun x s₄ h₄=>wpAny_bind (wpAny_mono h₄ (fun _ s₅ h₅=>wpAny_pure (wpAny_pure ⟨rfl,h₅⟩)) fun _ _ h'=>h'.elim)) fun _ _ h'=>h'.elim))
def xo(J:It)(n:Nat)(js:List Nat)(g:TG)(tc:TT)(te:TE)(σ:St)(H1:Hp)(Q:VK):Prop :=
 ∃W:Nat->Nat->List V->St->Hp->Prop,(∃m,W 0 m [] (iW n js σ) H1)/\∀i m ys σ' H',W i m ys σ' H' ->
  ys.length<sizeLine/\((J.stop i H'/\∀p,H' p=none->Q (.ref p) (upd H' p (.lst ys))) \/
   (J.go i H'/\∀x H2,J.tV i H' x H2->g x σ' H2 fun σ2 H3=>tc σ2 H3 fun b H4=>if b=true then te σ2 H4 fun y H5=>∃m',m' < m/\W (i+1) m' (ys ++ [y]) σ2 H5 else ∃m',m' < m/\W (i+1) m' ys σ2 H4))
def rL(wi:TI)(n:Nat)(js:List Nat)(g:TG)(tc:TT)(te:TE):TE:=fun σ H Q=>wi σ H fun J H1=>xo J n js g tc te σ H1 Q
section
variable {X:Cx}{pins:List (Addr×Obj)}{σ:St}{tg iter elt:Expr}{ifs:List Expr}{scope:Scope}{pos:Pos}{own fr:List Str}{js:List Nat}{g:TG}{tc:TT}{te:TE}{wi:TI}
theorem Kf{H2:Hp}{s2:Shared}{it:Addr}{fp:List Addr}{tn:Nat->Heap->Prop}{J:It}{Q:VK}{E:Value->Shared->Prop}{cl:List (Str×Addr)}{RR:Value->Addr->Result->Shared->Prop}
  (hc:X.calm=true) (S:eY X scope own fr js) (hg:∀cells C fp s H,PG (aL X (own ++ fr) scope cells C fp s H) tg g) (hf:∀cells C fp s H,PF (aL X (own ++ fr) scope cells C fp s H) ifs tc) (he:∀cells C fp s H,PE (aL X (own ++ fr) scope cells C fp s H) elt te)
  (I2:Inv X pins σ H2 s2) (T:Turn X.prog X.w X.K tg J fp it tn) (st2:tn 0 s2.heap) (f2:∀b∈fp,kE X pins H2 b)
  (pk:∀n c,(n,c)∈cl->X.env.cells.lookup n=some c/\(n,NameKind.free)∈scope.names) (rM:∀n,(n,NameKind.free)∈scope.names->∃c,(n,c)∈cl)
  (W:Nat->Nat->List V->St->Hp->Prop) (m0:Nat) (w0:W 0 m0 [] (iW own.length js σ) H2)
  (turn:∀i m ys σ' H',W i m ys σ' H'->ys.length<sizeLine/\((J.stop i H'/\∀p,H' p=none->Q (.ref p) (upd H' p (.lst ys))) \/
   (J.go i H'/\∀x H2,J.tV i H' x H2->g x σ' H2 fun σ2 H3=>tc σ2 H3 fun b H4=>if b=true then te σ2 H4 fun y H5=>∃m',m' < m/\W (i+1) m' (ys ++ [y]) σ2 H5 else ∃m',m' < m/\W (i+1) m' ys σ2 H4)))
  (fin:∀(acc C:Addr) (H':Hp) (s':Shared) (v:V),v=.ref acc->Inv X pins σ H' s'->kE X pins H' C->(∃m,s'.heap.Ns C m)->Q v H'->RR (.ref acc) C (.ok .next) s') :
  wpAny (model X.prog X.w) X.A (newList []) (fun acc s3=>wpAny (model X.prog X.w) X.A (newFunctionEnv scope X.env.globals cl [] X.env.qual none .none (some X.env)) (fun cenv s4 =>
   codeAny (model X.prog X.w) X.A (.compStart (.ListComp elt [⟨tg,iter,ifs,0⟩] scope pos) 0 (.ref it) acc { cenv with scope:=relabel scope X.env }) (RR acc cenv.locals) s4) E s3) E s2:=by
 refine wpAny_newObj_type ?_;refine Oy fun h4 hns Kg ng=>?_;have hA:s2.heap.objs.size<(s2.heap.push { cls:=.type "list",data:=.seq ([]:List Value).toArray }).objs.size:=by rw [WM];exact Wu _
 generalize hC:(s2.heap.push { cls:=.type "list",data:=.seq ([]:List Value).toArray }).objs.size=C at hns ng hA ⊢;generalize hac:s2.heap.objs.size=acc at hA ⊢;have G8:acc≠C:=Wb hA;have old:∀b o,s2.heap.get? b=some o->h4.get? b=some o:=fun b o e=>Kg b o (VH _ e);have hacc:h4.get? acc=some { cls:=.type "list",data:=.seq ([]:List Value).toArray }:=Kg _ _ (by rw [<- hac];exact V1 _ rfl);have G9:∀x c,(x,c)∈cellsFrom (C+1) scope.names []->h4.IsCell c none/\C+1<=c/\scope.names.lookup x=some .cell:=fun x c h=>⟨(ng.empty x c h).1,(ng.empty x c h).2,Bs S.zN (G5 _ _ h).1⟩;have lk:∀x c,(cellsFrom (C+1) scope.names cl).lookup x=some c->(h4.IsCell c none/\C+1<=c/\(x,c)∈cellsFrom (C+1) scope.names [])\/(X.env.cells.lookup x=some c/\scope.names.lookup x=some .free):=fun x c h=>by
  rw [Br] at h;rcases V9.mp (PySem.mem_of_lookup h) with q|q
  ·exact .inl ⟨(G9 x c q).1,(G9 x c q).2.1,q⟩
  ·exact .inr ⟨(pk x c q).1,Bs S.zN (pk x c q).2⟩
 have Hc:∀x c,X.env.cells.lookup x=some c->c<s2.heap.objs.size:=fun x c h=>by
  obtain ⟨v,z⟩:=I2.cell x c h;exact z.lt
 have pS:∀x c,(cellsFrom (C+1) scope.names cl).lookup x=some c->c≠C/\c≠acc/\H2 c=none/\∀b∈fp,c≠b:=fun x c h=>by
  rcases lk x c h with ⟨_,h1,_⟩|⟨h1,_⟩
  ·refine ⟨Kc (by omega),Kc (by omega),I2.hok.fresh (by omega),fun b hb z=>?_⟩
   obtain ⟨o,e,_⟩:=T.obj 0 _ st2 b hb;have:=ltN (VT e);rw [<- z] at this;omega
  ·have:=ltN (Hc x c h1)
   exact ⟨wI (by omega),wI (by omega),I2.eQ x c h1,fun b hb=>(f2 b hb).2.2.2.2.1 x c h1⟩
 have Bu:∀x,scope.names.lookup x=some .free->∃c,X.env.cells.lookup x=some c/\(cellsFrom (C+1) scope.names cl).lookup x=some c:=fun x h=>by
  obtain ⟨c,Kh⟩:=rM x (PySem.mem_of_lookup h);have hc1:=(pk x c Kh).1;have hs:((cellsFrom (C+1) scope.names cl).lookup x).isSome=true:=by
   refine PySem.W.cellsFrom_some scope.names (C+1) cl (.inr ?_);cases q:cl.lookup x with
   |some d=>rfl
   |none =>
    exfalso;have:∀{l:List (Str×Addr)},(x,c)∈l->l.lookup x≠none:=by
     intro l
     induction l with
     |nil=>intro h;exact nomatch h
     |cons p r ih =>
      intro h z;obtain ⟨k,v⟩:=p;rw [Wx] at z;cases hb:x == k with
      |true=>rw [hb] at z;cases z
      |false =>
       rw [hb] at z;rcases VZ.mp h with e|h
       ·cases e;simp at hb
       ·exact ih h z
    exact this Kh q
  obtain ⟨d,hd⟩:=WU.mp hs;rcases lk x d hd with ⟨_,_,h2⟩|⟨h1,_⟩
  ·have:=(G9 x d h2).2.2
   rw [h] at this;cases this
  ·rw [hc1] at h1;cases h1
   exact ⟨c,hc1,hd⟩
 have EC:∀b∈fp,b≠C/\b≠acc:=fun b hb=>by
  obtain ⟨o,e,_⟩:=T.obj 0 _ st2 b hb;have:=ltN (VT e);exact ⟨wI (by omega),wI (by omega)⟩
 have OA:(relabel scope X.env).kind=.function:=S.kind;have ok:(aL X (own ++ fr) scope (cellsFrom (C+1) scope.names cl) C fp s2 H2).Ok:=by
  refine ⟨I2.ok.mod,OA,I2.ok.glob,I2.ok.blt,?_,fun x y c h1 h2=>?_,fun x hx=>?_,fun x c hx h=>?_,I2.ok.hd,I2.ok.frames,.inl rfl,fun b hb=>⟨(EC b hb).1,fun x c h=>(pS x c h).2.2.2 b hb⟩,I2.bs,V3 I2.ok.qK I2.sz,fun b o e hb=>?_,fun b hb z=>?_,I2.stack,I2.mZ⟩
  ·show s2.heap.objs.size<=C
   omega
  ·rcases lk x c h1 with ⟨_,q1,q2⟩|⟨q1,_⟩
   ·rcases lk y c h2 with ⟨_,r1,r2⟩|⟨r1,_⟩
    ·exact name_of_addr ng.apart q2 r2
    ·have:=ltN (Hc y c r1);omega
   ·rcases lk y c h2 with ⟨_,r1,r2⟩|⟨r1,_⟩
    ·have:=ltN (Hc x c q1);omega
    ·exact I2.ok.inj x y c q1 r1
  ·have hx':(relabel scope X.env).names.lookup x=some .cell\/(relabel scope X.env).names.lookup x=some .free:=hx
   rcases Kd scope X.env x with ⟨e,_⟩|⟨k,e1,e2⟩
   ·rcases hx' with z|z<;>(rw [e] at z;cases z)
   ·by_cases hk:k=.free
    ·subst hk
     obtain ⟨c,_,h⟩:=Bu x e1;exact ⟨c,h⟩
    ·have hk':k=.cell:=by
      have hb:(k == NameKind.free)=false:=beq_eq_false_iff_ne.mpr hk;rw [hb] at e2;simp only [Bool.false_and,Wr,if_false] at e2;rcases hx' with z|z
      ·rw [e2] at z;exact VJ z
      ·rw [e2] at z;exact absurd (VJ z) hk
     subst hk';exact WU.mp (PySem.W.cellsFrom_some scope.names (C+1) cl (.inl e1))
  ·have hx':scope.names.lookup x=some .cell:=of_decide_eq_true hx
   show s2.heap.objs.size<=c;rcases lk x c h with ⟨_,q,_⟩|⟨_,q⟩
   ·omega
   ·rw [hx'] at q;cases q
  ·rcases (f2 b hb).2.2.2.1 with z|z
   ·exact I2.ok.og b o e z
   ·have h1:@LT.lt Nat _ b X.base.objs.size:=VT e
    have h2:=I2.ok.qK;omega
  ·rcases VZ.mp (I2.lB b z) with e|e
   ·exact (f2 b hb).2.1 e
   ·exact (f2 b hb).2.2.1 e
 have I4:Inv (aL X (own ++ fr) scope (cellsFrom (C+1) scope.names cl) C fp s2 H2) [(acc,{ cls:=.type "list",data:=.seq ([]:List Value).toArray })] (iW own.length js σ) H2 { s2 with heap:=h4 }:=by
  refine ⟨ok,rfl,I2.bare,Un.kept old,⟨_,hns,fun i x v e1 e2 e3=>?_⟩,fun x c h=>?_,I2.hok.fresh (by show s2.heap.objs.size<=C;omega),fun x c h=>(pS x c h).2.2.1,fun p hp=>?_,I2.hok.kept old,?_⟩
  ·have zO:(own ++ fr)[i]?=some x:=e1
   unfold iW at e2
   by_cases hi:i<own.length
   ·rw [VM (by simpa using hi),WZ] at e2
    split at e2<;>cases e2
   ·rw [VX (by simpa using hi),W5,VP] at e2
    rw [VX (by omega)] at zO;cases hj:js[i-own.length]? with
    |none=>rw [hj] at e2;cases e2
    |some j =>
     rw [hj] at e2;have Bv:σ.getD j none=some v:=VJ e2;have hN:X.N[j]?=some x:=by
      have q:=congrArg (fun l=>l[i-own.length]?) S.ix;simp only [VP,hj,zO,Option.map_some] at q;exact VJ q
     have hσ:σ[j]?=some (some v):=by
      rw [VU] at Bv;cases q:σ[j]? with
      |none=>rw [q] at Bv;cases Bv
      |some o=>rw [q] at Bv;exact congrArg some Bv
     have hfr:scope.names.lookup x=some .free:=S.G7 x (VI zO);have hk:=S.free _ (PySem.mem_of_lookup hfr) rfl;obtain ⟨m,_,hl⟩:=I2.loc;obtain ⟨u,ru,lo⟩:=hl j x v hN hσ (by rcases hk with k|k;exact .inr (.inl k);exact .inr (.inr k));refine ⟨u,ru,.inr ⟨?_,?_⟩⟩
     ·rcases Kd scope X.env x with ⟨_,e⟩|⟨k,q1,q2⟩
      ·rw [hfr] at e;cases e
      ·rw [hfr] at q1;cases q1
       have OB:(compEnvC scope (cellsFrom (C+1) scope.names cl) C X.env).kindOf x=some (if (NameKind.free == .free && X.env.scope.kind == .function && X.env.kindOf x == some .cell)=true then .cell else .free):=q2;rw [show (aL X (own ++ fr) scope (cellsFrom (C+1) scope.names cl) C fp s2 H2).env.kindOf x=_ from OB];split
       ·exact .inl rfl
       ·exact .inr rfl
     ·rcases lo with ⟨k,_⟩|⟨_,c,hc1,hc2⟩
      ·rcases hk with k'|k'<;>(rw [k] at k';cases k')
      ·obtain ⟨d,hd1,hd2⟩:=Bu x hfr
       rw [hc1] at hd1;cases hd1;exact ⟨c,hd2,hc2.keeps old⟩
  ·rcases lk x c h with ⟨q,_,_⟩|⟨q,_⟩
   ·exact ⟨_,q⟩
   ·obtain ⟨v,z⟩:=I2.cell x c q
    exact ⟨v,z.keeps old⟩
  ·have e:p=(acc,{ cls:=.type "list",data:=.seq ([]:List Value).toArray }):=by simpa [aL] using hp
   subst e;refine ⟨hacc,I2.hok.fresh (by omega),G8,fun z=>?_,fun v z=>nomatch z⟩;rcases VZ.mp (I2.lB acc z) with e|e
   ·have:=ltN I2.lt
    rw [<- e] at this;omega
   ·exact I2.AA (by omega) e
  ·show (iW own.length js σ).length=(own ++ fr).length
   have q:=congrArg List.length S.ix;simp only [Vz] at q;unfold iW;rw [VE,W5,Vz,VE,q]
 have He:∀{H':Hp} {ob:Obj},(∀b∈fp,H' b=none)->∀b∈fp,kE (aL X (own ++ fr) scope (cellsFrom (C+1) scope.names cl) C fp s2 H2) [(acc,ob)] H' b:=fun {H' ob} hn b hb =>
  ⟨hn b hb,(EC b hb).1,fun z=>by
   rcases VZ.mp (I2.lB b z) with e|e
   ·exact (f2 b hb).2.1 e
   ·exact (f2 b hb).2.2.1 e,.inl hb,fun x c h=>(pS x c h).2.2.2 b hb,fun p hp=>by
   have e:p=(acc,ob):=by simpa [aL] using hp
   subst e
   exact fun z=>(EC b hb).2 z.symm⟩
 have loop:codeAny (model X.prog X.w) X.A (.compLoop (.ListComp elt [⟨tg,iter,ifs,0⟩] scope pos) 0 (.ref it) (.ref acc) (compEnvC scope (cellsFrom (C+1) scope.names cl) C X.env)) (RR (.ref acc) C) { s2 with heap:=h4 }:=by
  refine Oz (fun m s'=>∃(i:Nat) (ys:List V) (its:List Value) (n:Nat) (σ':St) (H':Hp),Inv (aL X (own ++ fr) scope (cellsFrom (C+1) scope.names cl) C fp s2 H2) [(acc,{ cls:=.type "list",data:=.seq its.toArray n })] σ' H' s'/\Vals ys its/\tn i s'.heap/\(∀b∈fp,H' b=none)/\W i m ys σ' H') ?_ m0
   ⟨0,[],[],0,_,H2,I4,.nil,T.keep _ _ _ st2 fun b _ o e=>old b o e,fun b hb=>(f2 b hb).1,w0⟩
  rintro n s5 ⟨i,ys,its,en,σ5,H5,I5,rv,mF,Eo,w5⟩;obtain ⟨hz,alt⟩:=turn i n ys σ5 H5 w5;rcases alt with ⟨stop,qn⟩|⟨go,step⟩
  ·refine cj (T.done (aL X (own ++ fr) scope (cellsFrom (C+1) scope.names cl) C fp s2 H2) rfl rfl rfl hc i _ s5 σ5 H5 _ I5 (He Eo) mF stop) fun r s6 ⟨hr,I6⟩=>?_
   subst hr;show RR (.ref acc) C (.ok .next) s6;have u:Un (frs X.stack) fp H2 H5 s2.heap s6.heap:=I6.base;have J6:Inv X pins σ H5 s6:=I2.rg I6.os u I6.hok I6.bare fun b hb=>⟨(f2 b hb).2.2.2.1,(f2 b hb).2.1,(f2 b hb).2.2.2.2.1,(f2 b hb).2.2.2.2.2⟩;have pacc:=I6.pin (acc,_) (Wa _ VN);have Hf:kE X pins H5 acc:=I2.qk (by omega) pacc.2.1;have fC:kE X pins H5 C:=I2.qk (by omega) I6.free;have K6:Inv X pins σ (upd H5 acc (.lst ys)) s6:=J6.Bt Hf ⟨Nat.le_of_lt hz,its,en,rv,pacc.1⟩;obtain ⟨m,hm,_⟩:=I6.loc;exact fin acc C _ s6 (.ref acc) rfl K6 ⟨by rw [di G8.symm];exact fC.1,fC.2⟩ ⟨m,hm⟩ (qn acc pacc.2.1)
  ·refine cj (T.item (aL X (own ++ fr) scope (cellsFrom (C+1) scope.names cl) C fp s2 H2) rfl rfl rfl hc i _ s5 σ5 H5 _ I5 (He Eo) mF go) fun r s6 ⟨u,hr,h6⟩=>?_
   subst hr;refine cj h6 fun _ s7 ⟨x,H7,I7,r7,y7,qu,OC⟩=>?_;have OD:=I7.pinned (He OC) (T.obj _ _ qu);refine cj (hg _ _ _ _ _ _ s7 σ5 H7 x u _ OD r7 (step x H7 y7)) fun _ s8 ⟨σ8,H8,I8,q8⟩=>?_;refine cj (hf _ _ _ _ _ _ s8 σ8 H8 _ I8 q8) fun b s9 ⟨H9,I9,q9⟩=>?_;have ED:∀{s':Shared} {σ':St} {H':Hp},Inv (aL X (own ++ fr) scope (cellsFrom (C+1) scope.names cl) C fp s2 H2) ([(acc,{ cls:=.type "list",data:=.seq its.toArray en })] ++ lE fp s7.heap) σ' H' s'->tn (i+1) s'.heap/\∀b∈fp,H' b=none:=fun {s' σ' H'} I' =>
    ⟨T.keep _ _ _ qu fun b hb o e=>(I'.pin (b,o) (Wa _ (Wa _ (En hb e)))).1,fun b hb=>by
     obtain ⟨o,e,d⟩:=T.obj _ _ qu b hb
     exact (I'.pin (b,o) (Wa _ (Wa _ (En hb e)))).2.1⟩
   cases b with
   |false =>
    obtain ⟨m',hm,w9⟩:=q9;exact ⟨m',hm,i+1,ys,its,en,σ8,H9,I9.kb,rv,(ED I9).1,(ED I9).2,w9⟩
   |true =>
    refine cj (he _ _ _ _ _ _ s9 σ8 H9 _ I9 q9) fun y Hg ⟨yv,Hh,EE,OE,m',hm,OG⟩=>?_;have pacc:=EE.pin (acc,_) (Wa _ (WI _ VN));have hlen:=rv.length;refine wpAny_list_append_plain (items:=its.toArray) ⟨en,pacc.1⟩ (fun h11 ⟨Ki,Hi⟩ Bw=>?_) (by simp only [VQ];omega);have cA:∀x c,(cellsFrom (C+1) scope.names cl).lookup x=some c->c≠acc:=fun x c h=>(pS x c h).2.1;have Ia:Inv (aL X (own ++ fr) scope (cellsFrom (C+1) scope.names cl) C fp s2 H2) [] σ8 Hh Hg:=EE.kX fun p hp=>nomatch hp;have Ib:Inv (aL X (own ++ fr) scope (cellsFrom (C+1) scope.names cl) C fp s2 H2) [] σ8 Hh { Hg with heap:=h11 }:=Ia.turned (it:=acc) (t':=Hg.toks) (fun b o hb e=>(Bw.2 b hb).trans e) pacc.2.1 G8 (.inr (by show s2.heap.objs.size<=acc;omega)) cA fun p hp=>nomatch (show p∈([]:List (Addr×Obj)) from by simpa [aL] using hp);refine ⟨m',hm,i+1,ys ++ [yv],its ++ [y],Ki,σ8,Hh,Ib.kX fun p hp=>?_,rv.append (.cons OE .nil),T.keep _ _ _ (ED EE).1 fun b hb o e=>(Bw.2 b (EC b hb).2).trans e,(ED EE).2,OG⟩;have e:p=(acc,{ cls:=.type "list",data:=.seq (its ++ [y]).toArray Ki }):=by simpa using hp
    subst e;exact ⟨by simpa using Hi,pacc.2.1,pacc.2.2.1,pacc.2.2.2.1,fun v z=>nomatch z⟩
 exact codeAny_compStart_list loop (T.self X.A 0 _ _ _ (T.keep _ _ _ st2 fun b _ o e=>old b o e) loop)
theorem tq(hc:X.calm=true)(S:eY X scope own fr js)(hi:PI X tg iter wi)(hg:∀cells C fp s H,PG (aL X (own ++ fr) scope cells C fp s H) tg g)(hf:∀cells C fp s H,PF (aL X (own ++ fr) scope cells C fp s H) ifs tc)(he:∀cells C fp s H,PE (aL X (own ++ fr) scope cells C fp s H) elt te)
  (hs:∀x,foldedSetIterable iter X.env x=pure x:=by intro _;rfl):PE X (.ListComp elt [⟨tg,iter,ifs,0⟩] scope pos) (rL wi own.length js g tc te):=by
 intro pins s σ H Q I h;obtain ⟨cl,hcl,pk,rM⟩:=Kb (scope:=scope) (env:=X.env) fun y hy hk=>I.ok.has y.1 (S.free y hy hk);rw [eval_ListComp];refine wpAny_comprehension_free (use:=none) rfl hs hcl S.kind (fun y hy hk=>by rw [<- hk];exact Bs S.zN hy) (cj (hi pins s σ H _ I h) fun v s1 h1=>cj h1 fun itv s2 h2=>?_);obtain ⟨it,fp,tn,J,H2,e,I2,T,st2,f2,W,⟨m0,w0⟩,turn⟩:=h2;subst e;refine Kf (RR:=fun acc C=>compPost (model X.prog X.w) X.A X.xe none (EP X pins σ Q) acc C) hc S hg hf he I2 T st2 f2 pk rM W m0 w0 turn ?_;intro acc C H' s' v hv I' fC ⟨m,hm⟩ q;subst hv;obtain ⟨f0,f1,OH,f3,f4,f5⟩:=fC;exact ⟨m,hm,fun h'' xq=>⟨.ref acc,H',I'.turned (it:=C) (t':=s'.toks) (fun b o hb e=>(xq.2 b hb).trans e) f0 f1 f3 f4 f5,rfl,q⟩⟩
theorem Kj{i:Nat}{x:Str}{pos' spos:Pos}(hc:X.calm=true)(hN:X.N.Nodup)(hx:X.N[i]?=some x)(hl:X.env.scope.names.lookup x=some .local)(S:eY X scope own fr js)(hi:PI X tg iter wi)(hg:∀cells C fp s H,PG (aL X (own ++ fr) scope cells C fp s H) tg g)(hf:∀cells C fp s H,PF (aL X (own ++ fr) scope cells C fp s H) ifs tc)(he:∀cells C fp s H,PE (aL X (own ++ fr) scope cells C fp s H) elt te)
  (hsw:swapsWith (.ListComp elt [⟨tg,iter,ifs,0⟩] scope pos) (some (.Name x pos')) spos.line X.env=pure true:=by rfl)
  (hs:∀x,foldedSetIterable iter X.env x=pure x:=by intro _;rfl):PS X (.Assign [.Name x pos'] (.ListComp elt [⟨tg,iter,ifs,0⟩] scope pos) spos) (qj (rL wi own.length js g tc te) (lD i)):=by
 intro pins s σ H D I h;obtain ⟨cl,hcl,pk,rM⟩:=Kb (scope:=scope) (env:=X.env) fun y hy hk=>I.ok.has y.1 (S.free y hy hk);rw [exec_Assign_Name_used _ _ _ _ hsw];refine wpAny_bind (wpAny_standAt (wpAny_bind ?_));show wpAny _ X.A (do let _ <- comprehension (.ListComp elt [⟨tg,iter,ifs,0⟩] scope pos) scope X.env _ (newList []) false (eval iter X.env) (some (assign (.Name x pos') X.env))) _ _ s
 refine wpAny_bind (wpAny_mono (wpAny_comprehension_free (use:=some (assign (.Name x pos') X.env)) (Q:=fun _ s'=>SP X pins D .next s') rfl hs hcl S.kind (fun y hy hk=>by rw [<- hk];exact Bs S.zN hy)
  (cj (hi pins s σ H _ I h) fun v s1 h1=>cj h1 fun itv s2 h2=>?_)) (fun _ s' hq=>wpAny_pure (wpAny_pure hq)) fun _ _ e=>e)
 obtain ⟨it,fp,tn,J,H2,e,I2,T,st2,f2,W,⟨m0,w0⟩,turn⟩:=h2;subst e;refine Kf (Q:=fun v H'=>lD i v σ H' D.nx) (RR:=fun acc C=>compPost (model X.prog X.w) X.A X.xe (some (assign (.Name x pos') X.env)) (fun _ s'=>SP X pins D .next s') acc C) hc S hg hf he I2 T st2 f2 pk rM W m0 w0 turn ?_;intro acc C H' s' v hv I' fC ⟨m,hm⟩ q;subst hv;obtain ⟨f0,f1,OH,f3,f4,f5⟩:=fC;show wpAny _ X.A (assign (.Name x pos') X.env (.ref acc)) _ _ _;refine wpAny_assign_Name (Jo I' hN hx (.inl hl) (show RelV (.ref acc) (.ref acc) from rfl) (fun s'' OI ⟨a,hs1,ha⟩=>?_) (.inr hl));have haC:a≠C:=by
  rcases ha with e|e
  ·rw [e];exact f1.symm
  ·exact f4 _ _ e
 exact ⟨m,hm.sameBut hs1 haC.symm,fun h'' xq=>⟨_,H',OI.turned (it:=C) (t':=s''.toks) (fun b o hb e=>(xq.2 b hb).trans e) f0 f1 f3 f4 f5,q⟩⟩
end
section
variable {X:Cx}
theorem Kk{k:Nat}(hr:cS k X.A):eh X (.builtin "repr") (fun xs H Q=>∃(x:V) (d:PyData),xs=[x]/\Rep X.K H x d/\d.showable=true/\d.canLay0=true/\d.shown.length<=sizeLine/\d.depth<=60/\Q (.str d.shown) H):=by
 intro pins s σ H xs us Q I r h;obtain ⟨x,d,rfl,rp,sh,cl,sz,dp,q⟩:=h;obtain ⟨u,rfl,ru⟩:=vals1 r;obtain ⟨as,rd⟩:=rp.reads I ru;have hu:=hr.units;have big:∀a,u=.ref a->wpAny (model X.prog X.w) X.A (call (.builtin "repr") [u]) (EP X pins σ Q) X.xe s:=fun a e=>by
  subst e;exact repr_of_reads' rd sh (PyData.noDict_hsm (PyData.hasDict_of_canLay _ cl)) hr.gd (by omega) (fun _ _ e=>e) (fun h' u tk kp=>⟨.str _,H,I.kept kp,⟨_,rfl⟩,q⟩) sz
 cases rp with
 |non =>
  cases ru;have e:PyData.shown .none="None" := by simp only [PyData.shown]
  rw [e] at q;exact P.repr_of_none ⟨.str _,H,I.tok _,⟨_,rfl⟩,q⟩
 |bl b =>
  cases ru;have e:PyData.shown (.bool b)=(if b=true then Str.ofString "True" else Str.ofString "False"):=by simp only [PyData.shown]
  rw [e] at q;exact P.repr_of_bool ⟨.str _,H,I.tok _,⟨_,rfl⟩,q⟩
 |int i =>
  obtain ⟨t,rfl⟩:=ru;have e:PyData.shown (.int i)=toString i:=by simp only [PyData.shown]
  rw [e] at q;have OJ:i.natAbs.log2<1920:=by simpa only [PyData.showable,decide_eq_true_eq] using sh
  exact P.repr_of_int OJ ⟨.str _,H,I.tok _,⟨_,rfl⟩,q⟩
 |str x =>
  obtain ⟨t,rfl⟩:=ru;have e:PyData.shown (.str x)=reprText x:=by simp only [PyData.shown]
  rw [e] at q sz;exact P.repr_of_str ⟨.str _,H,I.tok _,⟨_,rfl⟩,q⟩ sz
 |tup _ _=>cases ru;exact big _ rfl
 |lst _ _=>cases ru;exact big _ rfl
end
mutual
def wD:PyData->Nat
 |.none=>4
 |.bool _=>5
 |.int _=>1921
 |.str x=>(reprText x).length
 |.list _=>0
 |.tuple xs=>ma xs+3
 |.dict _=>0
def ma:List PyData->Nat
 |[]=>0
 |x :: xs=>wD x+2+ma xs
end
mutual
def qv:PyData->Bool
 |.none=>true
 |.bool _=>true
 |.int _=>true
 |.str _=>true
 |.list _=>false
 |.tuple xs=>qw xs
 |.dict _=>false
def qw:List PyData->Bool
 |[]=>true
 |x :: xs=>qv x && qw xs
end
theorem OL(ts:List Str):(tupleText ts).length<=piled ts+3:=by
 unfold tupleText;rw [strLen_append,strLen_append];have e1:((("(" : String):Str)).length=1:=rfl;have e3:(((if ts.length == 1 then ",)" else ")" : String):Str)).length<=2:=by split<;>decide
 rw [e1]
 by_cases h:ts=[]
 ·subst h
  have e4:(Str.join ", " []).length=0:=rfl;rw [e4];omega
 ·have:=join_length_add ts h
  omega
mutual
theorem Kl:∀(d:PyData),d.showable=true->qv d=true->d.shown.length<=wD d
 |.none,_,_=>by simp only [PyData.shown,wD];decide
 |.bool b,_,_=>by simp only [PyData.shown,wD];cases b<;>decide
 |.int i,h,_=>by
  simp only [PyData.shown,wD];exact int_text_len_1921 (by simpa only [PyData.showable,decide_eq_true_eq] using h)
 |.str x,_,_=>by simp only [PyData.shown,wD];exact VC _
 |.list _,_,h=>by simp only [qv] at h;cases h
 |.dict _,_,h=>by simp only [qv] at h;cases h
 |.tuple xs,h,h'=>by
  simp only [PyData.shown,wD];have:=Km xs (by simpa only [PyData.showable] using h) (by simpa only [qv] using h');have:=OL (PyData.shownAll xs);omega
theorem Km:∀(ds:List PyData),PyData.showableAll ds=true->qw ds=true->piled (PyData.shownAll ds)<=ma ds
 |[],_,_=>by simp only [PyData.shownAll,ma,piled_nil];exact VC _
 |d :: ds,h,h'=>by
  simp only [PyData.showableAll,VS] at h;simp only [qw,VS] at h';simp only [PyData.shownAll,ma,piled_cons];have:=Kl d h.1 h'.1;have:=Km ds h.2 h'.2;omega
end
def Hj(i:Int):Prop:=-1000000000000000000<=i/\i<=1000000000000000000
section
variable {X:Cx}{K:Zfr}
theorem tu(hK:X.K=K):Ba X (w6 K):=by subst hK;exact kN
theorem zP(hK:X.K=K):Ba X (w8 K):=by subst hK;exact iP
theorem Kn(hK:X.K=K):ka X (compareOp .NotIn) (GQ K true):=by subst hK;exact Eu
theorem OM(hK:X.K=K):eh X (.type "tuple") (fun xs H Q=>∃p ys,xs=[V.ref p]/\((jC K H p ys/\∀l,H l=none->Q (.ref l) (upd H l (.tup ys)))\/(eu K H p ys/\Q (.ref p) H))):=by subst hK;exact nW
theorem OO{tg l:Expr}{tl:TE}(hK:X.K=K)(hl:PE X l tl):PI X tg l (rm K tl):=by subst hK;exact AY hl
end
section
variable {prog:Program}{w:World}{A:Around}{E:Value->Shared->Prop}{s:Shared}
theorem OQ{j t:Addr}{i:Nat}{ys:Array Value}{y:Value}{Q:Value->Shared->Prop}(hj:s.heap.IsTupleIter j t i)(ht:s.heap.IsTuple t ys)(hy:ys[i]?=some y)
  (hQ:∀h',h'.IsTupleIter j t (i+1)->Heap.SameBut j s.heap h'->Q y { s with heap:=h' }):wpAny (model prog w) A (Builtin.SmallTypes.nextOf (.ref j)) Q E s:=by
 obtain ⟨r,hr,rc,rd⟩:=id hj;obtain ⟨q,hq,_,nq,dq⟩:=ht;unfold Builtin.SmallTypes.nextOf;refine wpAny_bind (wpAny_callSpecial?_slot (name:=Str.ofString "__next__") hj.typeIs F.slot_tuple_iterator_next (wpAny_call_entry F.slot_tuple_iterator_next hj.typeIs F.entry_tuple_iterator_next ?_ (F.args_tuple_iterator_next_1 _)));show wpAny _ _ (PySem.field (.ref j) 0 >>= _) _ _ s;refine wpAny_bind (wpAny_field hr rd (x:=.ref t) rfl ?_);show wpAny _ _ (if (Value.ref t == Value.none)=true then _ else _) _ _ s;rw [if_neg (fun z:(Value.ref t == Value.none)=true=>VD z)];show wpAny _ _ (PySem.field (.ref j) 1 >>= _) _ _ s;refine wpAny_bind (wpAny_field hr rd (x:=.int i 0) rfl ?_);show wpAny _ _ (seqItems? (.ref t) >>= _) _ _ s;refine wpAny_bind (wpAny_seqItems hq dq ?_);simp only [VR,hy];refine wpAny_bind (wpAny_setField hr rd (by simp) (wpAny_pure ⟨y,rfl,wpAny_pure (hQ _ ⟨_,Wk _ hr (Obj.isFreed_of_fields (Obj.data_mapFields rd _)),(Obj.cls_mapFields ..).trans rc,by rw [Obj.data_mapFields rd];simp [rawInt]⟩ (Heap.SameBut.update ..))⟩))
theorem OR{j t:Addr}{i:Nat}{ys:Array Value}{Q:Value->Shared->Prop}(hh:A.handled=none)(hj:s.heap.IsTupleIter j t i)(ht:s.heap.IsTuple t ys)(hy:ys[i]?=none)
  (hE:∀h' e,Heap.ExtBut j s.heap h'->(∃o,h'.get? e=some o/\o.cls=.type "StopIteration")->E (.ref e) { s with heap:=h' }):wpAny (model prog w) A (Builtin.SmallTypes.nextOf (.ref j)) Q E s:=by
 obtain ⟨r,hr,rc,rd⟩:=id hj;obtain ⟨q,hq,_,nq,dq⟩:=ht;unfold Builtin.SmallTypes.nextOf;refine wpAny_bind (wpAny_callSpecial?_slot (name:=Str.ofString "__next__") hj.typeIs F.slot_tuple_iterator_next (wpAny_call_entry F.slot_tuple_iterator_next hj.typeIs F.entry_tuple_iterator_next ?_ (F.args_tuple_iterator_next_1 _)));show wpAny _ _ (PySem.field (.ref j) 0 >>= _) _ _ s;refine wpAny_bind (wpAny_field hr rd (x:=.ref t) rfl ?_);show wpAny _ _ (if (Value.ref t == Value.none)=true then _ else _) _ _ s;rw [if_neg (fun z:(Value.ref t == Value.none)=true=>VD z)];show wpAny _ _ (PySem.field (.ref j) 1 >>= _) _ _ s;refine wpAny_bind (wpAny_field hr rd (x:=.int i 0) rfl ?_);show wpAny _ _ (seqItems? (.ref t) >>= _) _ _ s;refine wpAny_bind (wpAny_seqItems hq dq ?_);simp only [VR,hy];refine wpAny_bind (wpAny_rule (wpAny_bind (wpAny_setField hr rd (by simp) ?_)));show wpAny _ _ (newExc (.type "StopIteration") [] >>= _) _ _ _;refine wpAny_bind ?_;simp only [newExc,newTuple];refine wpAny_bind (wpAny_newObj_type ?_ (by size_fits));refine wpAny_bind (m:=firstArgMember _ _) (wpAny_of_eq (a:=Value.none) (by first|rfl|(simp only [firstArgMember];rfl)) ?_);refine wpAny_newObj_type ?_ (by size_fits);simp only [raiseNew];refine wpAny_bind (wpAny_handled ?_);first|rw [show A.in1.handled=none from hh]|rw [hh]
 exact wpAny_bind (wpAny_pure (wpAny_throw (hE _ _ (((Heap.SameBut.update ..).extBut.push _).push _) ⟨_,V1 _ rfl,rfl⟩)))
end
theorem rN{prog:Program}{w:World}{A:Around}(hh:A.handled=none)(j t:Addr)(hne:t≠j)(ys:Array Value):
  Draws prog w A j [j,t] ys.size (fun i v=>ys[i]?=some v) (fun i h=>h.IsTupleIter j t i/\h.IsTuple t ys) where
 live:=fun _ _ st=>let ⟨o,ho,_⟩:=st.1;⟨o,ho⟩
 frame:=fun _ _ _ st k=>⟨st.1.at fun o e=>k j (by simp) o e,let ⟨o,e,r⟩:=st.2;⟨o,k t (by simp) o e,r⟩⟩
 item:=fun i s Q E hi st hQ=>OQ st.1 st.2 (y:=ys[i]) (by simp [hi]) fun h' a b=>hQ _ h' s.toks (by simp [hi]) ⟨a,st.2.extBut b.extBut hne⟩ b
 done:=fun s Q E st hE=>OR hh st.1 st.2 (by simp) hE
theorem OS(l:Addr)(items:Array Value)(n:Nat)(dct:Option Addr)(sl:Array (Option Value)):
  Meets (Builtin.«enumerate.__new__» ⟨[.type "enumerate",.ref l],[]⟩) (fun _ R s=>s.heap.get? l=some { cls:=.type "tuple",dict:=dct,data:=.seq items n,slots:=sl } /\
   R (.ok (.ret (.ref (s.heap.push { cls:=.type "tuple_iterator",data:=.fields #[.ref l,.int 0 0] }).objs.size)))
    { s with heap:=(s.heap.push { cls:=.type "tuple_iterator",data:=.fields #[.ref l,.int 0 0] }).push { cls:=.type "enumerate",data:=.fields #[.none,.bool false,.ref s.heap.objs.size,rawInt 0,.none,.none] } }) :=
 .of_wp fun prog w A R s h=>by
  obtain ⟨hp,g,d,tk,os⟩:=s;obtain ⟨hl,h⟩:=h;have hsub:=sub_enumerate;have hL:Heap.IsTuple (Shared.heap ⟨hp,g,d,tk,os⟩) l items:=⟨_,hl,rfl,n,rfl⟩
  wp_walk using AutoSeq1.wpAny_loadPart' hl
  refine wpAny_stack_any fun st=>wpAny_pure ?_;split
  ·rename_i c _ _ _ _ _
   cases (c == Value.type "enumerate")<;>(wp_walk using AutoSeq1.wpAny_loadPart' hl,wpAny_pyIter_tuple hL;exact ⟨_,rfl,h⟩)
  ·wp_walk using AutoSeq1.wpAny_loadPart' hl,wpAny_pyIter_tuple hL
   exact ⟨_,rfl,h⟩
section
variable {prog:Program}{w:World}{A:Around}{E:Value->Shared->Prop}{s:Shared}
theorem OT{l:Addr}{ys:Array Value}{Q:Value->Shared->Prop}(ht:s.heap.IsTuple l ys)
  (h:∀h',IsEnum h' (s.heap.objs.size+1) s.heap.objs.size 0 .none->h'.IsTupleIter s.heap.objs.size l 0->h'.objs.size=s.heap.objs.size+2 ->
   (∀b o,s.heap.get? b=some o->h'.get? b=some o)->Q (.ref (s.heap.objs.size+1)) { s with heap:=h' }):wpAny (model prog w) A (call (.type "enumerate") [.ref l]) Q E s:=by
 obtain ⟨⟨c,dct,dt,sl⟩,hl,hc,n,hd⟩:=ht;cases (show c=.type "tuple" from hc);cases (show dt=.seq ys n from hd);refine callType_new F.called_enumerate (by decide) (F.typeCall_enumerate_1 _) (F.newCall_enumerate_1 _) (fun obj=>F.args_object_init_2 obj _) F.entry_enumerate_new (OS l ys n dct sl) ⟨hl,?_⟩;have z:(s.heap.push { cls:=.type "tuple_iterator",data:=.fields #[.ref l,.int 0 0] }).objs.size=s.heap.objs.size+1:=WM ..;show _/\_;rw [z];have en:IsEnum ((s.heap.push { cls:=.type "tuple_iterator",data:=.fields #[.ref l,.int 0 0] }).push { cls:=.type "enumerate",data:=.fields #[.none,.bool false,.ref s.heap.objs.size,rawInt 0,.none,.none] }) (s.heap.objs.size+1) s.heap.objs.size 0 .none:=by
  have g:=V1 (s.heap.push { cls:=.type "tuple_iterator",data:=.fields #[.ref l,.int 0 0] }) (o:={ cls:=.type "enumerate",data:=.fields #[.none,.bool false,.ref s.heap.objs.size,rawInt 0,.none,.none] }) rfl;rw [z] at g;exact g
 exact ⟨⟨_,en,rfl⟩,h _ en ⟨_,VH _ (V1 _ rfl),rfl,rfl⟩ (by rw [WM,z]) fun b o e=>VH _ (VH _ e)⟩
end
section
variable {X:Cx}{pins:List (Addr×Obj)}{σ:St}{H:Hp}{s:Shared}{h':Heap}
theorem Inv.uc{t':Nat}{ch:List Addr}(I:Inv X pins σ H s)(k:∀b o,b ∉ ch->s.heap.get? b=some o->h'.get? b=some o)(f:∀b∈ch,kE X pins H b):Inv X pins σ H { s with heap:=h',toks:=t' }:=by
 have AE:∀b u,H b=some u->b ∉ ch:=fun b u e z=>by rw [(f b z).1] at e;cases e
 refine I.step (g':=s.gens) (d':=s.drawn) (ch:=ch) (fun b hb=>⟨(f b hb).2.2.2.1,(f b hb).2.1,(f b hb).2.2.2.2.1,(f b hb).2.2.2.2.2⟩) (fun b o _ _ hc e _=>k b o hc e) (fun b o _ _ hc e _=>⟨o.slots,k b o hc e⟩) (fun _ _ _ _ n=>n)
  (fun b o hc e=>⟨o,k b o hc e⟩) (fun _ _ e=>e) (fun _ _ _ e=>e) (fun b ps e=>⟨#[],by rw [e];simp⟩) (fun m hm=>?_) (fun b u e=>?_) I.bare
 ·obtain ⟨o,es,ep,ho,r⟩:=hm
  exact ⟨o,es,ep,k _ o (fun z=>(f _ z).2.1 rfl) ho,r⟩
 ·refine (I.hok b u e).stay (fun c v hc q=>k c v ?_ q) (fun _ q=>q) fun _ _ q=>q
  rcases hc with z|z
  ·rw [z];exact AE b u e
  ·exact AE c _ z
end
def Ko(K:Zfr)(a:Addr):It :=
 ⟨fun i H=>∃xs x,eu K H a xs/\xs[i]?=some x,fun i H x H'=>∃p y,x=.ref p/\H p=none/\H'=upd H p (.tup [.int i,y])/\∀xs,eu K H a xs->xs[i]?=some y,fun i H=>∃xs,eu K H a xs/\xs.length=i⟩
theorem OU{P:Program}{w:World}{K:Zfr}{es:List Expr}{x1}{pos:Pos}(a e it:Addr)(hne:e≠it):
  Turn P w K (.Tuple es x1 pos) (Ko K a) [e,it] e (fun i h=>(∃old,IsEnum h e it i old)/\h.IsTupleIter it a i) where
 mem:=by simp
 obj:=fun i h st b hb=>by
  obtain ⟨⟨old,he⟩,o,e2,c,d⟩:=st;rcases VZ.mp hb with rfl|hb
  ·exact ⟨_,he,fun v z=>by
    have z':Data.fields _=Data.cell v:=z
    cases z'⟩
  ·have q:b=it:=by simpa using hb
   subst q;exact ⟨o,e2,fun v z=>by rw [d] at z;cases z⟩
 keep:=fun i h h' st k=>⟨let ⟨old,he⟩:=st.1;⟨old,k e (by simp) _ he⟩,st.2.at fun o q=>k it (by simp) o q⟩
 item:=by
  intro X hP hw hK hc i pins s σ H E I hf st hg;subst hP hw hK;obtain ⟨xs,x,hq,hx⟩:=hg;obtain ⟨its,rv,p,hz⟩:=I.tuple hq;obtain ⟨u,hu,ru⟩:=rv.get hx;obtain ⟨⟨old,he⟩,hit⟩:=st;have ht:s.heap.IsTuple a its.toArray:=p;have Hk:a≠it:=fun z=>by
   obtain ⟨o,e1,c1,_⟩:=hit;obtain ⟨o2,e2,c2,_⟩:=ht;rw [z,e1] at e2;cases e2;exact absurd (c1.symm.trans c2) (by simp)
  have OV:e≠a:=fun z=>by
   obtain ⟨o2,e2,c2,_⟩:=ht;rw [<- z,he] at e2;cases e2;exact absurd c2 (by simp)
  have hl:=rv.length;have hi:i<its.toArray.size:=by
   have:=VA.mp hu;obtain ⟨q,_⟩:=this
   simpa using q
  refine wpAny_pyNext_enum_itemD (rN (A:=X.A.in1) (I.ok.hd hc) it a Hk its.toArray) he ⟨hit,ht⟩ hi hne (by simp [hne,OV]) fun y h1 tk hy ho hst hT hsz kk=>?_;have ey:y=u:=by
   have:its.toArray[i]?=some u:=by simpa using hu
   exact VJ (hy.symm.trans this)
  subst ey;refine ⟨_,rfl,wpAny_letOwnedTupleGo_enum ho fun h2 OW sb=>?_⟩;have hel:@LT.lt Nat _ e s.heap.objs.size:=VT he;have hil:@LT.lt Nat _ it s.heap.objs.size:=by obtain ⟨o,e1,_⟩:=hit;exact VT e1
  have OX:H s.heap.objs.size=none:=I.hok.fresh (VC _);have sb':Heap.SameBut e h1 h2:=sb;have I1:Inv X pins σ (upd H s.heap.objs.size (.tup [.int i,x])) { s with heap:=s.heap.push { cls:=.type "tuple",data:=.seq #[.int i tk,y] },toks:=s.toks } :=
   I.laid (fun b u e=>VH _ e) (VC _) ⟨(by decide:2<=sizeLine),[.int i tk,y],.cons ⟨tk,rfl⟩ (.cons ru .nil),⟨_,V1 _ rfl,rfl,rfl,_,rfl⟩⟩
  have nn:∀b∈[e,it],@LT.lt Nat _ b s.heap.objs.size:=fun b hb=>by
   rcases VZ.mp hb with rfl|hb
   ·exact hel
   ·have q:b=it:=by simpa using hb
    rw [q];exact hil
  have hn:∀b∈[e,it],upd H s.heap.objs.size (.tup [.int i,x]) b=none:=fun b hb=>by
   unfold upd;rw [if_neg (Wb (nn b hb))];exact (hf b hb).1
  have I2:Inv X pins σ (upd H s.heap.objs.size (.tup [.int i,x])) { s with heap:=h2,toks:=tk+1 }:=by
   refine Inv.uc (s:={ s with heap:=s.heap.push { cls:=.type "tuple",data:=.seq #[.int i tk,y] },toks:=s.toks }) (h':=h2) I1 (ch:=[e,it]) (t':=tk+1) (fun b o hb q=>?_) fun b hb=>⟨hn b hb,(hf b hb).2⟩;have nb:b≠e/\b≠it:=by simpa using hb
   refine (sb'.2 b nb.1).trans ?_;rcases Heap.get?_push_cases q with ⟨rfl,rfl⟩|q
   ·exact hT
   ·exact kk b o nb.1 nb.2 q
  refine ⟨.ref s.heap.objs.size,_,I2,rfl,⟨_,x,rfl,OX,rfl,fun ys ud=>by rw [I.mD ud hq];exact hx⟩,⟨⟨y,?_⟩,?_⟩,hn⟩
  ·have:((i+1:Nat):Int)=(i:Int)+1:=by omega
   rw [this];exact OW
  ·exact hst.1.extBut sb'.extBut (Ne.symm hne)
 done:=by
  intro X hP hw hK hc i pins s σ H E I hf st hg;subst hP hw hK;obtain ⟨xs,hq,hx⟩:=hg;obtain ⟨its,rv,p,hz⟩:=I.tuple hq;obtain ⟨⟨old,he⟩,hit⟩:=st;have ht:s.heap.IsTuple a its.toArray:=p;have Hk:a≠it:=fun z=>by
   obtain ⟨o,e1,c1,_⟩:=hit;obtain ⟨o2,e2,c2,_⟩:=ht;rw [z,e1] at e2;cases e2;exact absurd (c1.symm.trans c2) (by simp)
  have hl:=rv.length;have ei:its.toArray.size=i:=by simp;omega
  refine wpAny_pyNext_enum_endD (rN (A:=X.A.in1) (I.ok.hd hc) it a Hk its.toArray) he (by rw [ei];exact ⟨hit,ht⟩) fun h1 eb=>⟨rfl,?_⟩;obtain ⟨f0,f1,f2,f3,f4,f5⟩:=hf it (by simp);exact I.turned (t':=s.toks) (fun b o hb q=>eb b o hb q) f0 f1 f3 f4 f5
 self:=fun _ _ _ _ _ st h=>let ⟨_,he⟩:=st.1;wpAny_pyIter_enum he h
def vz(K:Zfr)(ta:TA):TI:=fun σ H R=>ta σ H fun vs H1=>∃a,vs=[.ref a]/\(∃xs,eu K H1 a xs)/\R (Ko K a) H1
theorem Kq{X:Cx}{es:List Expr}{x1}{p0:Pos}{l:Expr}{ta:TA}{p pos:Pos}(hg:Gl X "enumerate")(hm:X.mg "enumerate" = none)(ha:PA X [l] ta)(hs:starEach [l] X.env=[(false,eval l X.env)]:=by rfl):
  PI X (.Tuple es x1 p0) (.Call (.Name "enumerate" p) [l] [] pos) (vz X.K ta):=by
 intro pins s σ H R I h;refine Call_ (zD I hg hm boot_enumerate (PyProof.Rows.callWith_type1 (cj (ha pos pins s σ H _ I h) fun us s1 ⟨vs,H1,I1,r1,q1⟩=>?_) hs rfl));obtain ⟨a,e,⟨xs,hq⟩,q⟩:=q1;subst e;cases r1 with
 |cons r rr =>
  cases rr;cases r;obtain ⟨its,rv,p,hz⟩:=I1.tuple hq;refine OT (show s1.heap.IsTuple a its.toArray from p) fun h1 he hi hsz kk=>?_;refine wpAny_pyIter_enum he ?_;refine ⟨s1.heap.objs.size+1,[s1.heap.objs.size+1,s1.heap.objs.size],_,_,H1,rfl,I1.kept (t':=s1.toks) kk,OU a _ _ (Nat.succ_ne_self _),⟨⟨_,he⟩,hi⟩,fun b hb=>?_,q⟩;have hb':@LE.le Nat _ s1.heap.objs.size b:=by
   rcases VZ.mp hb with rfl|hb
   ·exact Nat.le_succ _
   ·have e:b=s1.heap.objs.size:=by simpa using hb
    rw [e];exact VC _
  exact I1.qk hb' (I1.hok.fresh hb')
section
open Sem (wp)
open PySem.AutoSeq1 (wpAny_loadPart')
open PySem.MeetsSeq PySem.MeetsSeq2 PySem.MeetsSeq3
theorem IntsAre.get{vs:List Value}{ns:List Int}(h:IntsAre vs ns):∀{i:Nat} {n:Int},ns[i]?=some n->∃t,vs[i]?=some (.int n t):=by
 induction h with
 |nil=>intro i n e;simp at e
 |cons a t h ih =>
  intro i n e;cases i with
  |zero=>exact ⟨t,by simpa using e⟩
  |succ i=>simpa using ih (by simpa using e)
theorem rO(l:Addr)(items:Array Value)(n:Nat)(dd:Option Addr)(sl:Array (Option Value))(ns:List Int)(hi:IntsAre items.toList ns)(v:Int)(t:Tok)(j:Nat)(hj:ns[j]?=some v)(hb:∀i,i<j->ns[i]?≠some v):
  Meets (Builtin.«tuple.index» ⟨[.ref l,.int v t],[]⟩)
   (fun _ R s=>s.heap.get? l=some { cls:=.type "tuple",dict:=dd,data:=.seq items n,slots:=sl }/\R (.ok (.ret (.int (j:Int) s.toks))) { s with toks:=s.toks+1 }) :=
 .of_wp fun prog w A R s h=>by
  obtain ⟨hp,g,d,tk,os⟩:=s;obtain ⟨hl,h⟩:=h;have z1:items.size=ns.length:=by rw [<- hi.length];simp
  have hjl:j<ns.length:=(VA.mp hj).1
  wp_walk using wpAny_loadPart' hl
  have key:wpAny (model prog w) A.in1 (forIn (m:=Sem) [:min items.size items.size] ((none,()):Option Fin×Unit) (fun (i:Nat) _ =>
    match items[i]? with
    |some y=>do
     let b <- eqBool y (Value.int v t)
     if b=true then do
      let r <- retInt (i:Int)
      pure (ForInStep.done (some r,()))
     else pure (ForInStep.yield (none,()))
    |_=>pure (ForInStep.yield (none,()))))
   (fun a s'=>a.1=some (.done (.ret (.int (j:Int) tk)))/\s'=⟨hp,g,d,tk+1,os⟩) (fun e s'=>R (Except.error e) s') ⟨hp,g,d,tk,os⟩:=by
   rw [Std.Legacy.Range.forIn_eq_forIn_range'];have ez:([:min items.size items.size]:Std.Legacy.Range).size=ns.length:=by
    simp [Std.Legacy.Range.size,z1]
   rw [ez];refine wpAny_forIn_list _ (fun rest b s'=>b.1=none/\s'=⟨hp,g,d,tk,os⟩/\∃k,k<=j/\rest=List.range' k (ns.length-k) 1) _ ?_ ?_ _ _ ⟨rfl,rfl,0,Wd _,by simp⟩
   ·rintro x rest b s' ⟨hb',rfl,k,hk,e⟩
    have el:ns.length-k=(ns.length-(k+1))+1:=by omega
    rw [el,List.range'_succ] at e;injection e with e1 e2;subst e1;have nh:x<ns.length:=by omega
    obtain ⟨t',ht'⟩:=IntsAre.get hi (VB nh);have OY:items[x]?=some (.int ns[x] t'):=by rw [<- ht',W6]
    simp only [OY];obtain ⟨e,he,hiff⟩:=HT.NU A.in1 ⟨hp,g,d,tk,os⟩ ns[x] t' v t;refine wpAny_bind (he prog w _ _ ?_);cases e with
    |true =>
     have ev:ns[x]=v:=hiff.mp rfl;have OZ:x=j:=by
      rcases Nat.lt_or_ge x j with h'|h'
      ·exact absurd (by rw [VB nh,ev]) (hb x h')
      ·omega
     subst OZ
     wp_walk
     first|exact ⟨rfl,rfl⟩|trivial
    |false =>
     have ev:ns[x]≠v:=fun q=>absurd (hiff.mpr q) VD;have:x≠j:=fun z=>ev (by subst z;rw [VB nh] at hj;exact VJ hj)
     wp_walk
     exact ⟨rfl,rfl,x+1,by omega,e2⟩
   ·rintro b s' ⟨hb',rfl,k,hk,e⟩
    have:(List.range' k (ns.length-k) 1).length=0:=by rw [<- e];rfl
    rw [List.length_range'] at this;omega
  refine wpAny_mono key (fun a s' ha=>?_) (fun _ _ z=>z);obtain ⟨ha,rfl⟩:=ha;obtain ⟨a1,a2⟩:=a;cases (show a1=_ from ha);exact wpAny_pure ⟨_,rfl,h⟩
end
section
variable {X:Cx}{K:Zfr}
def pq(K:Zfr):V->List V->Hp->VK->Prop:=fun x vs H Q=>∃(a:Addr) (ns:List Int) (v:Int) (j:Nat),x=.ref a/\vs=[.int v]/\eu K H a (ns.map V.int)/\ns[j]?=some v/\(∀i,i<j->ns[i]?≠some v)/\Q (.int (j:Int)) H
theorem O0:vf X "tuple.index" (pq X.K):=by
 intro pins s σ H x xs v us Q I rx rv h;obtain ⟨a,ns,y,j,rfl,rfl,hq,hj,hb,q⟩:=h;cases rx;obtain ⟨u,rfl,t,rfl⟩:=vals1 rv;obtain ⟨its,r,⟨⟨c,dd,dt,sl⟩,e,hc,hd,n,hdt⟩,hz⟩:=I.o8 hq;cases (show c=.type "tuple" from hc);cases (show dt=.seq its.toArray n from hdt);refine call_meets F.slot_tuple_index ⟨_,e,rfl⟩ F.entry_tuple_index (F.args_tuple_index_2 _ _) (rO a its.toArray n dd sl ns (by simpa using JQ r) y t j hj hb) ⟨e,?_⟩;exact ⟨.int j,H,I.tok _,⟨_,rfl⟩,q⟩
theorem Kr(hK:X.K=K):vf X "tuple.index" (pq K):=by subst hK;exact O0
theorem Hl{o e:Expr}{es:List Expr}{to:TE}{t:TA}{name:Str}{apos cpos:Pos}{T id:String}{r:V->List V->Hp->VK->Prop}(hK:X.K=K)(pa:PlainAttrs T)(slot:Slot T name id)(hty:typeOf (.builtin id)=pure (.type "method_descriptor"))(hm:vf X id r)(ho:PE X o to)(ha:PA X (e :: es) t)
  (hbase:attributeBase o name X.env (eval o X.env)=eval o X.env:=by rfl)
  (hfew:((backTo cpos (starEach (e :: es) X.env)).all (fun x=>!x.1) && (backToKw cpos (keywordEach [] X.env)).all (fun x=>x.1.isSome)
   && decide ((e :: es).length+([]:List Keyword).length+(if ([]:List Keyword).isEmpty then 0 else 1)<30))=true:=by rfl)
  (hline:(apos.endLine == cpos.line)=true:=by rfl) (hs:starEach (e :: es) X.env=(false,eval e X.env) :: starEach es X.env:=by rfl) (hplain:(backTo cpos (starEach es X.env)).any (·.1)=false:=by rfl) :
  PE X (.Call (.Attribute o name apos) (e :: es) [] cpos) (GU K T r to t):=by subst hK;exact m9 pa slot hty hm ho ha hbase hfew hline hs hplain
end
open Builtin.Str
open Builtin.Str
section
variable {X:Cx}{K:Zfr}
def eD(us:List Value)(ds:List PyData)(dx:PyData)(u:Value):Bool:=@decide (∃(i:Nat) (d:PyData),us[i]?=some u/\ds[i]?=some d/\PyData.eqv d dx=true) (Classical.propDecidable _)
theorem eX.get:∀{H:Hp} {vs:List V} {ds:List PyData},eX K H vs ds->∀{i:Nat} {v:V},vs[i]?=some v->∃d,ds[i]?=some d/\Rep K H v d
 |_,_,_,.nil,i,v,e=>by simp at e
 |_,_,_,.cons (d:=d) a b,0,v,e=>⟨d,by simp,by have:_=v:=VJ (by simpa using e);rw [<- this];exact a⟩
 |_,_,_,.cons a b,i+1,v,e=>by
  obtain ⟨d,e1,r⟩:=eX.get b (i:=i) (by simpa using e);exact ⟨d,by simpa using e1,r⟩
theorem eX.uf:∀{H:Hp} {vs:List V} {ds:List PyData},eX K H vs ds->vs.length=ds.length
 |_,_,_,.nil=>rfl
 |_,_,_,.cons _ r=>by rw [V6,V6,eX.uf r]
theorem Vals.Bx{xs:List V}{us:List Value}(r:Vals xs us){i:Nat}{u:Value}(h:us[i]?=some u):∃v,xs[i]?=some v/\RelV v u:=by
 have hi:=(VA.mp h).1;have hl:=r.length;obtain ⟨u',hu,ru⟩:=r.get (i:=i) (x:=xs[i]'(by omega)) (VB _);rw [h] at hu;cases hu;exact ⟨_,VB _,ru⟩
open Classical in
theorem Hm{pins:List (Addr×Obj)}{σ:St}{H:Hp}{s:Shared}{xs:List V}{us:List Value}{ds:List PyData}{x:V}{v:Value}{dx:PyData}(hu:X.A.units+64<cLine)(I:Inv X pins σ H s)(r:Vals xs us)(hr:eX X.K H xs ds)(rx:RelV x v)(hx:Rep X.K H x dx)(c1:∀d∈ds,d.canLay0=true)(c2:dx.canLay0=true)(c3:dx.depth<=60):
  ∀u∈us,SeqAt.EqAt X.A.in1 s u v (eD us ds dx u):=by
 intro u hm;obtain ⟨bs,rb⟩:=hx.reads I rx;have key:∀(i:Nat) (d:PyData),us[i]?=some u->ds[i]?=some d->SeqAt.EqAt X.A.in1 s u v (PyData.eqv d dx):=fun i d h1 h2=>by
  obtain ⟨y,hy,ry⟩:=r.Bx h1;obtain ⟨d',hd',rd⟩:=hr.get hy;rw [h2] at hd';cases hd';obtain ⟨as,ra⟩:=rd.reads I ry;intro prog w E Q q;refine SeqAt.eqBoolOverData prog w X.A.in1 E s u v d dx as bs Q ra rb (c1 _ (VI h2)) c2 ?_ q;have:X.A.in1.units<=X.A.units+2:=by
   first|exact Nat.le_add_right _ _|(show X.A.units<=_;omega)|(show X.A.units+1<=_;omega)
  omega
 obtain ⟨i,hi⟩:=Xa hm;have hl1:=r.length;have hl2:=hr.uf;have hil:=(VA.mp hi).1;unfold eD
 by_cases h:∃(i:Nat) (d:PyData),us[i]?=some u/\ds[i]?=some d/\PyData.eqv d dx=true
 ·rw [decide_eq_true h]
  obtain ⟨j,d,h1,h2,h3⟩:=h;have:=key j d h1 h2
  rwa [h3] at this
 ·rw [decide_eq_false h]
  have h2:ds[i]?=some (ds[i]'(by omega)):=VB _;have k:=key i _ hi h2;cases hb:PyData.eqv (ds[i]'(by omega)) dx with
  |true=>exact absurd ⟨i,_,hi,h2,hb⟩ h
  |false=>rwa [hb] at k
open Classical in
theorem xr{xs:List V}{us:List Value}{ds:List PyData}{dx:PyData}(h1:us.length=ds.length):us.any (eD us ds dx)=ds.any fun d=>PyData.eqv d dx:=by
 rw [W0,List.any_eq_true,List.any_eq_true];constructor
 ·rintro ⟨u,hu,h⟩
  unfold eD at h;obtain ⟨i,d,_,h2,h3⟩:=of_decide_eq_true h;exact ⟨d,VI h2,h3⟩
 ·rintro ⟨d,hd,h⟩
  obtain ⟨i,hi⟩:=Xa hd;have hil:=(VA.mp hi).1;refine ⟨us[i]'(by omega),List.getElem_mem _,?_⟩;unfold eD;exact decide_eq_true ⟨i,d,VB _,hi,h⟩
def By(K:Zfr)(neg:Bool):R2:=fun x y H Q=>∃p xs ds dx,y=.ref p/\(jC K H p xs\/eu K H p xs)/\eX K H xs ds/\Rep K H x dx/\(∀d∈ds,PyData.canLay0 d=true)/\PyData.canLay0 dx=true/\PyData.depth dx<=60/\Q (.bl (if neg then !ds.any (fun d=>PyData.eqv d dx) else ds.any fun d=>PyData.eqv d dx)) H
theorem Ks(hu:X.A.units+64<cLine):ka X (compareOp .NotIn) (By X.K true):=by
 intro pins s σ H x y v u Q I rx ry h;obtain ⟨p,xs,ds,dx,rfl,hq,hr,hx,c1,c2,c3,q⟩:=h;cases ry;have e2:∀{its:List Value},Vals xs its->its.toArray.any (eD its ds dx)=ds.any fun d=>PyData.eqv d dx:=fun {its} r=>by
  rw [show its.toArray.any (eD its ds dx)=its.any (eD its ds dx) by simp];exact xr (xs:=xs) (by rw [<- r.length];exact hr.uf)
 rcases hq with hq|hq
 ·obtain ⟨its,r,pl,hz⟩:=I.list hq
  refine SeqAt.notIn_listAt (eD its ds dx) pl.isList (fun w hw=>Hm hu I r hr rx hx c1 c2 c3 w (by simpa using hw)) ⟨.bl _,H,I,rfl,?_⟩;rw [e2 r];exact q
 ·obtain ⟨its,r,pl,hz⟩:=I.tuple hq
  refine SeqAt.notIn_tupleAt (eD its ds dx) pl (fun w hw=>Hm hu I r hr rx hx c1 c2 c3 w (by simpa using hw)) ⟨.bl _,H,I,rfl,?_⟩;rw [e2 r];exact q
end
open Builtin.Str
open Builtin
def DU(a:Addr)(xs:List (List Int×Addr×Value)):HO:=.ext fun h=>(a == sysModules)=false/\xs.length<=sizeLine/\∃o es ep,h.get? a=some o/\o.ExactDict/\o.data=.dict es ep /\
 (∃(P:Program) (w:World),es.toList=xs.map (entryOfKey (tupleKind (intKind P w))))/\(xs.map (·.1)).Nodup
end L2
namespace L2
open PySem PySem.Spec PyProof.Rows PySem.SeqAt PySem.MeetsSeq
def ni(A:Around)(s:Shared)(y x:Value)(r:Bool):Prop:=∀(prog:Program) (w:World) (E Q:Value->Shared->Prop),Q (.bool r) s->wpAny (model prog w) A (richCompare .Lt y x) Q E s
def cK(e lt:Nat->Bool)(fin:Bool):List Nat->Bool
 |[]=>fin
 |i :: r=>if e i then cK e lt fin r else lt i
theorem O1(l m:Addr)(a b:Array Value)(n1 n2:Nat)(d1 d2:Option Addr)(s1 s2:Array (Option Value))(e lt:Nat->Bool):
  Meets (Builtin.«tuple.__lt__» ⟨[.ref l,.ref m],[]⟩) (fun A R s=>s.heap.get? l=some { cls:=.type "tuple",dict:=d1,data:=.seq a n1,slots:=s1 }/\s.heap.get? m=some { cls:=.type "tuple",dict:=d2,data:=.seq b n2,slots:=s2 } /\
    (∀j (h1:j<a.size) (h2:j<b.size),EqAt A.in1 s a[j] b[j] (e j))/\(∀j (h1:j<a.size) (h2:j<b.size),e j=false->ni A.in1 s a[j] b[j] (lt j))/\R (.ok (.ret (.bool (cK e lt (decide (a.size<b.size)) (List.range (min a.size b.size)))))) s) :=
 .of_wp fun prog w A R s h=>by
  obtain ⟨hp,g,d,tk,os⟩:=s;obtain ⟨hl,hm,he,hlt,h⟩:=h;have f2:=AutoSeq1.sub_tuple_tuple;have hZ:(a.toList.zip b.toList).length=min a.size b.size:=by simp
  wp_walk using wpAny_loadPart' hl,wpAny_loadPart' hm,wpAny_forIn_list _ (fun rest q s'=>q.1=none/\s'=⟨hp,g,d,tk,os⟩/\∃i,rest=(a.toList.zip b.toList).drop i/\R (.ok (.ret (.bool (cK e lt (decide (a.size<b.size)) ((List.range (min a.size b.size)).drop i))))) ⟨hp,g,d,tk,os⟩) _
  case turn =>
   rintro ⟨y,x⟩ rest q s' ⟨hq,rfl,i,hz,hR⟩;have hil:i<(a.toList.zip b.toList).length:=by
    rcases Nat.lt_or_ge i (a.toList.zip b.toList).length with k|k
    ·exact k
    ·rw [List.drop_of_length_le k] at hz;cases hz
   have hmn:i<min a.size b.size:=hZ ▸ hil;have g1:i<a.size:=by omega
   have g2:i<b.size:=by omega
   rw [WR hil] at hz;injection hz with hyx hrest;have hy:y=a[i]:=by simpa using congrArg Prod.fst hyx
   have hx:x=b[i]:=by simpa using congrArg Prod.snd hyx
   subst hy hx;have hd:(List.range (min a.size b.size)).drop i=i :: (List.range (min a.size b.size)).drop (i+1):=by simp [WR,hmn]
   rw [hd,cK] at hR;refine wpAny_bind (he i g1 g2 prog w _ _ ?_);cases hei:e i with
   |true =>
    rw [hei] at hR
    wp_walk
    exact ⟨rfl,rfl,i+1,hrest,hR⟩
   |false =>
    rw [hei] at hR;refine wpAny_bind (wpAny_rule (wpAny_bind (hlt i g1 g2 hei prog w _ _ ?_)))
    wp_walk
    exact ⟨_,rfl,hR⟩
  case fin =>
   rintro ⟨q1,q2⟩ s' ⟨hq,rfl,i,hz,hR⟩;simp only at hq;subst hq;have hge:min a.size b.size<=i:=by
    rcases Nat.lt_or_ge i (a.toList.zip b.toList).length with k|k
    ·rw [WR k] at hz;cases hz
    ·exact hZ ▸ k
   rw [List.drop_of_length_le (by simpa using hge),cK] at hR
   wp_walk
   exact ⟨_,rfl,by simpa [Builtin.Tuple.tupleCompareSizes] using hR⟩
  case h =>
   exact ⟨rfl,rfl,0,rfl,by simpa using h⟩
theorem ni.tuples{A:Around}{s:Shared}{l m:Addr}{a b:Array Value}{e lt:Nat->Bool}(hl:s.heap.IsTuple l a)(hm:s.heap.IsTuple m b)(hu:A.units<cLine)
  (he:∀j (h1:j<a.size) (h2:j<b.size),EqAt A.in1 s a[j] b[j] (e j)) (hlt:∀j (h1:j<a.size) (h2:j<b.size),e j=false->ni A.in1 s a[j] b[j] (lt j)) :
  ni A s (.ref l) (.ref m) (cK e lt (decide (a.size<b.size)) (List.range (min a.size b.size))):=fun prog w E Q h=>by
 obtain ⟨⟨c1,d1,t1,s1⟩,o1,k1,n1,j1⟩:=hl;obtain ⟨⟨c2,d2,t2,s2⟩,o2,k2,n2,j2⟩:=hm;simp only at k1 j1 k2 j2;subst k1 j1 k2 j2;exact richCompare_meets_room (op:=.Lt) ⟨_,o1,rfl⟩ ⟨_,o2,rfl⟩ F.slot_tuple_lt F.entry_tuple_lt (F.args_tuple_lt_2 _ _) (O1 l m a b n1 n2 d1 d2 s1 s2 e lt)
  ⟨o1,o2,he,hlt,show Value.bool (cK e lt (decide (a.size<b.size)) (List.range (min a.size b.size)))≠Value.notImplemented/\Q (.bool (cK e lt (decide (a.size<b.size)) (List.range (min a.size b.size)))) s from ⟨(fun x=>nomatch x),h⟩⟩ hu
mutual
def zQ:PyData->PyData->Bool
 |.int a,.int b=>decide (a<b)
 |.tuple xs,.tuple ys=>lG xs ys
 |_,_=>false
def lG:List PyData->List PyData->Bool
 |[],[]=>false
 |[],_ :: _=>true
 |_ :: _,[]=>false
 |x :: xs,y :: ys=>if PyData.eqv x y then lG xs ys else zQ x y
end
mutual
def rP:PyData->PyData->Bool
 |.int _,.int _=>true
 |.tuple xs,.tuple ys=>nr xs ys
 |_,_=>false
def nr:List PyData->List PyData->Bool
 |[],_=>true
 |_ :: _,[]=>true
 |x :: xs,y :: ys=>rP x y && nr xs ys
end
theorem Kt(e lt:Nat->Bool)(fin:Bool)(f:Nat->Nat):∀l:List Nat,cK e lt fin (l.map f)=cK (fun i=>e (f i)) (fun i=>lt (f i)) fin l
 |[]=>rfl
 |i :: r=>by
  show (if e (f i) then cK e lt fin (r.map f) else lt (f i))=if e (f i) then _ else lt (f i)
  rw [Kt e lt fin f r]
def pz(xs ys:List PyData)(j:Nat):Bool:=zQ (xs.getD j .none) (ys.getD j .none)
theorem Ku:∀xs ys:List PyData,cK (pairEq xs ys) (pz xs ys) (decide (xs.length<ys.length)) (List.range (min xs.length ys.length))=lG xs ys
 |[],[]=>rfl
 |[],_ :: _=>by simp [cK,lG]
 |_ :: _,[]=>by simp [cK,lG]
 |x :: xs,y :: ys=>by
  have ih:=Ku xs ys;have e1:min (x :: xs).length (y :: ys).length=min xs.length ys.length+1:=by simp only [V6];omega
  have e2:decide ((x :: xs).length<(y :: ys).length)=decide (xs.length<ys.length):=by simp
  rw [e1,e2,List.range_succ_eq_map,cK,Kt];show (if PyData.eqv x y then cK (pairEq xs ys) (pz xs ys) (decide (xs.length<ys.length)) (List.range (min xs.length ys.length)) else zQ x y)=_;rw [ih,lG]
mutual
theorem Kv:∀(da db:PyData) (A:Around) (s:Shared) (a b:Value) (as bs:List Addr),Reads s.heap a da as->Reads s.heap b db bs->rP da db=true->da.canLay0=true->db.canLay0=true->A.units+min da.depth db.depth<cLine->ni A s a b (zQ da db)
 |.int x,.int y,A,s,_,_,_,_,ra,rb,_,_,_,_=>by
  cases ra with
  |int _ t =>
   cases rb with
   |int _ u=>exact fun prog w E Q h=>richCompare_gives (op:=.Lt) (typeIs_int s _ t) (typeIs_int s _ u) F.slot_int_lt F.entry_int_lt (F.args_int_lt_2 _ _) (gives_int_lt _ _ t u) (fun x=>nomatch x) h
 |.tuple xs,.tuple ys,A,s,_,_,_,_,ra,rb,ok,ha,hb,hu=>by
  cases ra with
  |@tuple l o vs n _ Vg h1 h2 h3 h4 =>
   cases rb with
   |@tuple l' o' vs' n' _ Vh k1 k2 k3 k4 =>
    have t1:s.heap.IsTuple l vs:=⟨_,h1,h2,_,h3⟩;have t2:s.heap.IsTuple l' vs':=⟨_,k1,k2,_,k3⟩;have n1:vs.size=xs.length:=by simpa using ReadsAll.length _ _ _ h4
    have n2:vs'.size=ys.length:=by simpa using ReadsAll.length _ _ _ k4
    show ni A s (.ref l) (.ref l') (lG xs ys);rw [<- Ku xs ys,<- n1,<- n2];refine ni.tuples t1 t2 (room_here hu) (fun j j1 j2=>?_) (fun j j1 j2 _=>?_)
    ·have z:=eqAt_readsAll xs ys A.in1 s vs.toList vs'.toList _ _ h4 k4 ha hb (room_in hu) j (by simpa using j1) (by simpa using j2)
     simpa using z
    ·have z:=Kw xs ys A.in1 s vs.toList vs'.toList _ _ h4 k4 ok ha hb (room_in hu) j (by simpa using j1) (by simpa using j2)
     simpa using z
 |.int _,.none,_,_,_,_,_,_,_,_,ok,_,_,_=>nomatch ok
 |.int _,.bool _,_,_,_,_,_,_,_,_,ok,_,_,_=>nomatch ok
 |.int _,.str _,_,_,_,_,_,_,_,_,ok,_,_,_=>nomatch ok
 |.int _,.list _,_,_,_,_,_,_,_,_,ok,_,_,_=>nomatch ok
 |.int _,.tuple _,_,_,_,_,_,_,_,_,ok,_,_,_=>nomatch ok
 |.int _,.dict _,_,_,_,_,_,_,_,_,ok,_,_,_=>nomatch ok
 |.tuple _,.none,_,_,_,_,_,_,_,_,ok,_,_,_=>nomatch ok
 |.tuple _,.bool _,_,_,_,_,_,_,_,_,ok,_,_,_=>nomatch ok
 |.tuple _,.int _,_,_,_,_,_,_,_,_,ok,_,_,_=>nomatch ok
 |.tuple _,.str _,_,_,_,_,_,_,_,_,ok,_,_,_=>nomatch ok
 |.tuple _,.list _,_,_,_,_,_,_,_,_,ok,_,_,_=>nomatch ok
 |.tuple _,.dict _,_,_,_,_,_,_,_,_,ok,_,_,_=>nomatch ok
 |.none,_,_,_,_,_,_,_,_,_,ok,_,_,_=>by simp [rP] at ok
 |.bool _,_,_,_,_,_,_,_,_,_,ok,_,_,_=>by simp [rP] at ok
 |.str _,_,_,_,_,_,_,_,_,_,ok,_,_,_=>by simp [rP] at ok
 |.list _,_,_,_,_,_,_,_,_,_,ok,_,_,_=>by simp [rP] at ok
 |.dict _,_,_,_,_,_,_,_,_,_,ok,_,_,_=>by simp [rP] at ok
theorem Kw:∀(xs ys:List PyData) (A:Around) (s:Shared) (vs ws:List Value) (as bs:List Addr),ReadsAll s.heap vs xs as->ReadsAll s.heap ws ys bs->nr xs ys=true->PyData.canLayAll0 xs=true->PyData.canLayAll0 ys=true->A.units+min (PyData.depthAll xs) (PyData.depthAll ys)<cLine->∀j (h1:j<vs.length) (h2:j<ws.length),ni A s vs[j] ws[j] (pz xs ys j)
 |[],_,_,_,_,_,_,_,ra,_,_,_,_,_,j,h1,_=>by cases ra;exact absurd h1 (Wn _)
 |_ :: _,[],_,_,_,_,_,_,_,rb,_,_,_,_,j,_,h2=>by cases rb;exact absurd h2 (Wn _)
 |x :: xs,y :: ys,A,s,_,_,_,_,ra,rb,ok,ha,hb,hu,j,h1,h2=>by
  have a':x.canLay0=true/\PyData.canLayAll0 xs=true:=by simpa [PyData.canLayAll0] using ha
  have b':y.canLay0=true/\PyData.canLayAll0 ys=true:=by simpa [PyData.canLayAll0] using hb
  have o':rP x y=true/\nr xs ys=true:=by simpa [nr] using ok
  cases ra with
  |cons r rs =>
   cases rb with
   |cons r' rs' =>
    cases j with
    |zero=>exact Kv x y A s _ _ _ _ r r' o'.1 a'.1 b'.1 (room_head hu)
    |succ j=>exact Kw xs ys A s _ _ _ _ rs rs' o'.2 a'.2 b'.2 (room_tail hu) j (Nat.lt_of_succ_lt_succ h1) (Nat.lt_of_succ_lt_succ h2)
end
section
variable {prog:Program}{w:World}{A:Around}{R:Result->Shared->Prop}{I:Addr}{fp wr:List Addr}{n:Nat}{P:Nat->Value->Prop}{St:Nat->Heap->Prop}
def iX(a b:Heap):Prop:=∀x o,a.get? x=some o->b.get? x=some o
def xt(A:Around)(h0:Heap)(P:Nat->Value->Prop)(bt:Nat->Nat->Bool):Prop:=∀i j vi vj (s:Shared),iX h0 s.heap->P i vi->P j vj->ni A s vi vj (bt i j)
theorem EF:(toString "min" ++ toString ".loop" : String)="min.loop" := by decide
theorem Ho(W:Walks prog w A.in1 I fp wr n P St)(bt:Nat->Nat->Bool){h0:Heap}(hcmp:xt A.in1 h0 P bt)(S:Addr)(hSf:S ∉ fp)(xu:h0.get? S=none)(hw0:∀b∈wr,h0.get? b=none):
  ∀(k j:Nat) (s:Shared) (vb:Value) (c:Nat),n-(j+1)=k->j+1<=n->St (j+1) s.heap->P (argBest bt j) vb->iX h0 s.heap->s.heap.get? S=some { cls:=.type "list",dict:=none,data:=.seq #[vb,vb] c,slots:=#[] } ->
  (∀v h' tk,P (argBest bt (n-1)) v->iX h0 h'->R (.ok (.ret v)) { s with heap:=h',toks:=tk })->codeAny (model prog w) A (.builtin "min.loop" ⟨[.ref I,.none,.ref S],[]⟩) R s
 |0,j,s,vb,c,hk,hj,hst,EG,hK,hS,hR=>by
  have Bz:S ∉ wr:=fun z=>hSf (W.sub S z);have hin:n=j+1:=by omega
  subst hin;refine codeAny_builtin F.entry_min_loop ?_;rw [Around.under_plainId F.plain_min_loop (A:=A) _];show wpAny (model prog w) A.in1 (seqItems? (.ref S) >>= _) _ _ _;refine wpAny_bind (wpAny_seqItems hS rfl ?_);show wpAny (model prog w) A.in1 (tryCatch (pyNext (.ref I)) _ >>= _) _ _ _;refine wpAny_bind (wpAny_tryCatch (W.done s _ _ hst fun h' tk hk'=>?_));have hS':=hk' S _ Bz hS;show wpAny (model prog w) A.in1 (updateSeq S (fun _=>#[]) >>= _) _ _ _;refine wpAny_bind (wpAny_updateSeq hS' rfl (wpAny_bind (wpAny_letGo (wpAny_pure (hR vb _ tk EG fun b o e=>?_)))));have hb1:b ∉ wr:=fun z=>by rw [hw0 b z] at e;cases e
  have hb2:S≠b:=fun z=>by rw [<- z,xu] at e;cases e
  exact (V4 _ _ hb2).trans (hk' b o hb1 (hK b o e))
 |k+1,j,s,vb,c,hk,hj,hst,EG,hK,hS,hR=>by
  have Bz:S ∉ wr:=fun z=>hSf (W.sub S z);have hlt:j+1<n:=by omega
  refine codeAny_builtin F.entry_min_loop ?_;rw [Around.under_plainId F.plain_min_loop (A:=A) _];show wpAny (model prog w) A.in1 (seqItems? (.ref S) >>= _) _ _ _;refine wpAny_bind (wpAny_seqItems hS rfl ?_);show wpAny (model prog w) A.in1 (tryCatch (pyNext (.ref I)) _ >>= _) _ _ _;refine wpAny_bind (wpAny_tryCatch (W.item (j+1) s _ _ hlt hst fun v h' tk hP ug hk'=>?_));have hS':=hk' S _ Bz hS;have BA:iX h0 h':=fun b o e=>hk' b o (fun z=>by rw [hw0 b z] at e;cases e) (hK b o e);show wpAny (model prog w) A.in1 (tryCatch (holding [v,v] (richCompare .Lt v vb >>= _)) _ >>= _) _ _ _;refine wpAny_bind (wpAny_tryCatch (wpAny_holding (wpAny_bind (hcmp (j+1) (argBest bt j) v vb _ BA hP EG prog w _ _ ?_))));refine wpAny_bind (wpAny_holding (wpAny_truthy_bool (wpAny_bind (wpAny_letGo (wpAny_pure ?_)))));cases hb:bt (j+1) (argBest bt j) with
  |true =>
   simp only [if_true];refine wpAny_bind (wpAny_updateSeq hS' rfl (wpAny_bind (wpAny_letGo ?_)));rw [EF];have Hq:iX h0 (h'.update S (Obj.mapSeq fun _=>#[v,v])):=fun b o e=>(V4 _ _ (fun z=>by rw [<- z,xu] at e;cases e)).trans (BA b o e);refine wpAny_pure ⟨plainId_quiet F.plain_min_loop _,Ho W bt hcmp S hSf xu hw0 k (j+1) _ v _ (by omega) hlt (W.frame _ _ _ ug fun b Hr o e=>?_) (by simp only [argBest,hb,if_true];exact hP) Hq (Wk _ hS' rfl) fun v' h'' rQ BB rR=>hR v' h'' rQ BB rR⟩;exact (V4 _ _ (fun z:S=b=>hSf (z ▸ Hr))).trans e
  |false =>
   simp only [Wr,if_false];refine wpAny_bind (wpAny_letGo ?_);rw [EF];exact wpAny_pure ⟨plainId_quiet F.plain_min_loop _,Ho W bt hcmp S hSf xu hw0 k (j+1) _ vb c (by omega) hlt ug (by simp only [argBest,hb,Wr,if_false];exact EG) BA hS' fun v' h'' rQ BB rR=>hR v' h'' rQ BB rR⟩
theorem O2(W:Walks prog w A.in1 I fp wr n P St)(bt:Nat->Nat->Bool){h0:Heap}(hcmp:xt A.in1 h0 P bt)(S:Addr)(hSf:S ∉ fp)(xu:h0.get? S=none)(hw0:∀b∈wr,h0.get? b=none)(hn:0<n){s:Shared}{c:Nat}(hst:St 0 s.heap)(hK:iX h0 s.heap)
  (hS:s.heap.get? S=some { cls:=.type "list",dict:=none,data:=.seq #[] c,slots:=#[] }) (hR:∀v h' tk,P (argBest bt (n-1)) v->iX h0 h'->R (.ok (.ret v)) { s with heap:=h',toks:=tk }) :
  codeAny (model prog w) A (.builtin "min.loop" ⟨[.ref I,.none,.ref S],[]⟩) R s:=by
 have Bz:S ∉ wr:=fun z=>hSf (W.sub S z);refine codeAny_builtin F.entry_min_loop ?_;rw [Around.under_plainId F.plain_min_loop (A:=A) _];show wpAny (model prog w) A.in1 (seqItems? (.ref S) >>= _) _ _ _;refine wpAny_bind (wpAny_seqItems hS rfl ?_);show wpAny (model prog w) A.in1 (tryCatch (pyNext (.ref I)) _ >>= _) _ _ _;refine wpAny_bind (wpAny_tryCatch (W.item 0 s _ _ hn hst fun v h' tk hP ug hk'=>?_));have hS':=hk' S _ Bz hS;have BA:iX h0 h':=fun b o e=>hk' b o (fun z=>by rw [hw0 b z] at e;cases e) (hK b o e);show wpAny (model prog w) A.in1 (updateSeq S (fun _=>#[v,v]) >>= _) _ _ _;refine wpAny_bind (wpAny_updateSeq hS' rfl ?_);rw [EF];have Hq:iX h0 (h'.update S (Obj.mapSeq fun _=>#[v,v])):=fun b o e=>(V4 _ _ (fun z=>by rw [<- z,xu] at e;cases e)).trans (BA b o e);refine wpAny_pure ⟨plainId_quiet F.plain_min_loop _,Ho W bt hcmp S hSf xu hw0 _ 0 _ v _ rfl hn (W.frame _ _ _ ug fun b Hr o e=>?_) hP Hq (Wk _ hS' rfl) fun v' h'' rQ BB rR=>hR v' h'' rQ BB rR⟩;exact (V4 _ _ (fun z:S=b=>hSf (z ▸ Hr))).trans e
end
section
variable {prog:Program}{w:World}{A:Around}{E:Value->Shared->Prop}{s:Shared}
theorem O3{p:Addr}{its:Array Value}{bt:Nat->Nat->Bool}{Q:Value->Shared->Prop}(hh:A.handled=none)(hl:s.heap.IsList p its)(hn:0<its.size)(hcmp:xt A.in1 s.heap (fun i v=>its[i]?=some v) bt)
  (hQ:∀v h' tk,its[argBest bt (its.size-1)]?=some v->iX s.heap h'->Q v { s with heap:=h',toks:=tk }):wpAny (model prog w) A (call (.builtin "min") [.ref p]) Q E s:=by
 have hlt:p<s.heap.objs.size:=by obtain ⟨_,e,_⟩:=hl;exact VT e
 have e0:s.heap.get? s.heap.objs.size=none:=by
  cases q:s.heap.get? s.heap.objs.size with
  |none=>rfl
  |some o=>exact absurd (VT q) (Xc _)
 have e1:s.heap.get? (s.heap.objs.size+1)=none:=by
  cases q:s.heap.get? (s.heap.objs.size+1) with
  |none=>rfl
  |some o=>exact absurd (VT q) (Nat.not_lt_of_le (Nat.le_succ _))
 refine call_function_tree F.kind_min F.plain_min F.entry_min (F.args_min1 _) ?_;show wpAny (model prog w) A.in1 (Builtin.Builtins.bindParams "min" ["key","default"] 0 ⟨[],[]⟩ >>= _) _ _ _;refine wpAny_bind (wpAny_of_eq (show Builtin.Builtins.bindParams "min" ["key","default"] 0 ⟨[],[]⟩=pure [none,none] from rfl) (wpAny_bind (wpAny_pure ?_)));refine wpAny_bind (wpAny_pyIter_list hl (wpAny_bind (wpAny_newObj_type ?_)));have hsz:(s.heap.push { cls:=.type "list_iterator",data:=.fields #[.ref p,.int 0 0] }).objs.size=s.heap.objs.size+1:=WM ..;have hne:p≠s.heap.objs.size:=Wb hlt;rw [EF];have k1:iX s.heap ((s.heap.push { cls:=.type "list_iterator",data:=.fields #[.ref p,.int 0 0] }).push { cls:=.type "list",data:=.seq #[] }):=fun b o e=>VH _ (VH _ e);refine wpAny_pure ⟨plainId_quiet F.plain_min_loop _,?_⟩;show codeAny (model prog w) A (.builtin "min.loop" ⟨[.ref s.heap.objs.size,.none,.ref (s.heap.push { cls:=.type "list_iterator",data:=.fields #[.ref p,.int 0 0] }).objs.size],[]⟩) _ _;rw [hsz];refine O2 (c:=0) (Walks.list (A:=A.in1) hh s.heap.objs.size p hne its) bt hcmp (s.heap.objs.size+1) (fun z=>?_) e1 (fun b hb=>?_) hn ?_ k1 ?_ fun v h' tk hv hk=>hQ v h' tk hv hk
 ·rcases VZ.mp z with z|z
  ·exact absurd z (Nat.succ_ne_self _)
  ·have:s.heap.objs.size+1=p:=VY.mp z
   exact absurd hlt (by rw [<- this];exact Nat.not_lt_of_le (Nat.le_succ _))
 ·rw [VY.mp hb];exact e0
 ·exact ⟨⟨_,VH _ (V1 _ rfl),rfl,rfl⟩,(hl.push _).push _⟩
 ·rw [<- hsz];exact V1 _ rfl
end
theorem Hs{h:Heap}:∀{us:List Value} {ds:List PyData} {as:List Addr} {i:Nat} {v:Value},ReadsAll h us ds as->us[i]?=some v->∃as',Reads h v (ds.getD i .none) as'/\ds.getD i .none∈ds
 |_,_,_,_,_,.nil,e=>by simp at e
 |_,_,_,0,_,.cons r _,e=>by simp at e;subst e;exact ⟨_,r,VN⟩
 |_,_,_,i+1,v,.cons _ rs,e=>by
  obtain ⟨as',r,m⟩:=Hs (i:=i) (v:=v) rs (by simpa using e);exact ⟨as',r,VL _ m⟩
section
variable {X:Cx}
def uh(ds:List PyData)(i j:Nat):Bool:=zQ (ds.getD i .none) (ds.getD j .none)
def mG(ds:List PyData):Nat:=argBest (uh ds) (ds.length-1)
def vA(K:Zfr):List V->Hp->VK->Prop:=fun xs H Q=>∃(p:Addr) (vs:List V) (ds:List PyData),xs=[.ref p]/\jC K H p vs/\eX K H vs ds/\0<ds.length/\(∀a∈ds,∀b∈ds,rP a b=true)/\(∀a∈ds,a.canLay0=true/\a.depth<=50)/\∃v,vs[mG ds]?=some v/\Q v H
theorem Kx(hc:X.calm=true)(hu:X.A.units+64<cLine):eh X (.builtin "min") (vA X.K):=by
 intro pins s σ H xs us Q I r h;obtain ⟨p,vs,ds,rfl,hq,hr,hn,hok,hlay,v0,hv0,q⟩:=h;obtain ⟨u,rfl,ru⟩:=vals1 r;cases ru;obtain ⟨its,rv,pl,_⟩:=I.list hq;obtain ⟨as,ra⟩:=eX.reads I hr rv;have hlen:its.length=ds.length:=ReadsAll.length _ _ _ ra;refine O3 (bt:=uh ds) (I.ok.hd hc) pl.isList (by rw [VQ];omega) (fun i j vi vj s' hK hi hj=>?_) fun v h' tk hv hk=>?_
 ·have hi':its[i]?=some vi:=by simpa using hi
  have hj':its[j]?=some vj:=by simpa using hj
  obtain ⟨a1,r1,m1⟩:=Hs ra hi';obtain ⟨a2,r2,m2⟩:=Hs ra hj';have b1:=(hlay _ m1).2;have b2:=(hlay _ m2).2;exact Kv _ _ _ s' _ _ _ _ (Reads.keeps hK r1) (Reads.keeps hK r2) (hok _ m1 _ m2) (hlay _ m1).1 (hlay _ m2).1 (by show X.A.units+1+_<cLine;omega)
 ·have hv':its[mG ds]?=some v:=by
   have e:its.toArray.size-1=ds.length-1:=by rw [VQ,hlen]
   rw [e] at hv;unfold mG
   simpa using hv
  obtain ⟨u,Ky,ru⟩:=Vals.get rv hv0;rw [hv'] at Ky;cases Ky;exact ⟨v0,H,I.kept hk,ru,q⟩
end
end L2
namespace L2
open PySem PySem.Spec PyProof.Rows PySem.W
section
variable {lt:Nat->Nat->Bool}{n0:Nat}{cmp:Nat->Nat->(Bool->Shared->Prop)->Shared->Prop}{s:Shared}
structure Ord(lt:Nat->Nat->Bool):Prop where
 tr:∀a b c,lt b a=false->lt c b=false->lt c a=false
 as:∀a b,lt a b=true->lt b a=false
def P(p:Array Nat)(i:Nat):Nat:=p.getD i 0
variable (o:Ord lt)(hn:0<n0)(hc:∀i j (C:Bool->Shared->Prop),i<n0->j<n0->C (lt i j) s->cmp i j C s)
include o hn hc
end
end L2
namespace L2
open PySem PySem.Spec PyProof.Rows
end L2
namespace L2
open PySem PySem.Spec PyProof.Rows PySem.W
end L2
namespace L2
open PySem PySem.Spec PyProof.Rows
open Builtin
end L2
namespace L2
open PySem PySem.Spec PyProof.Rows
end L2
namespace L2
open PySem PySem.Spec PyProof.Rows PySem.W
end L2
namespace L2
open PySem PySem.Spec PyProof.Rows
structure BD(fs:List Addr)(e:Addr)(oe:Obj)(vs:Array Value)(T:Addr)(h h':Heap):Prop where
 exc:∃o ws,h'.get? e=some o/\o.cls=oe.cls/\o.dict=oe.dict/\o.data=.fields ws/\ws.size=vs.size/\ws[1]?=some (.ref T)
 new:h.objs.size<=T
 head:∃o ts,h'.get? T=some o/\o.data=.fields ts/\ts[3]?=some .none
 keep:∀b o,h.get? b=some o->b≠e->vs[1]?≠some (.ref b)->b ∉ fs->h'.get? b=some o
 slot:∀b o,h.get? b=some o->b≠e->vs[1]?≠some (.ref b)->∃sl,h'.get? b=some { o with slots:=sl }
 old:∀b,b≠e->vs[1]?=some (.ref b)->∃o ts,h'.get? b=some o/\o.data=.fields ts/\ts[3]?=some .none
section
variable {M:Model}{A:Around}{E:Value->Shared->Prop}{s:Shared}
theorem Kz{base:Heap}{env:Env}{outer:List Env}{L e:Addr}{oe:Obj}{vs:Array Value}{hd0:Value}{hn:Bool}{Q:Unit->Shared->Prop}(hfr:A.frames=some (env :: outer))(hl:s.heap.FunFrames base (env :: outer))
  (hf:env.frame=some L) (he:s.heap.get? e=some oe) (hd:oe.data=.fields vs) (hs:1<vs.size)
  (h:∀h' T,(∃o ws,h'.get? e=some o/\o.cls=oe.cls/\o.dict=oe.dict/\o.data=.fields ws/\ws.size=vs.size/\ws[1]?=some (.ref T))->s.heap.objs.size<=T->(∃o ts,h'.get? T=some o/\o.data=.fields ts/\ts[3]?=some .none) ->
   (∀b o,s.heap.get? b=some o->b≠e->b ∉ frs (env :: outer)->h'.get? b=some o)->(∀b o,s.heap.get? b=some o->b≠e->∃sl,h'.get? b=some { o with slots:=sl })->Q () { s with heap:=h' }) :
  wpAny M A (do let a <- frameOf env;let pl <- entryPlaceOf L hn;let b <- EntryCells.newEntry hd0 a .none (rawInt L) .none pl;setField (.ref e) 1 b) (fun _ s'=>wpAny M A (setFlight (.ref e) none) Q E s') E s:=by
 have ne:e ∉ frs (env :: outer):=fun z=>by
  obtain ⟨_,o,q,nf⟩:=hl.mem z;rw [he] at q;cases q;exact nf vs hd
 refine wpAny_bind (wpAny_frameOf_fun hfr hl hf fun h1 so=>wpAny_bind (wpAny_entryPlaceOf fun pl ip=>?_));obtain ⟨O4,KA,O5⟩:=so;have e1:h1.get? e=some oe:=by rw [KA e ne];exact he
 unfold EntryCells.newEntry newFields;refine wpAny_bind (wpAny_newObj_type ?_ (ip.sizeOk5 _ _ _ _ _));generalize htd:([hd0,Value.ref L,Value.none,rawInt L,Value.none] ++ (if pl.isEmpty then List.replicate 6 Value.none else pl)).toArray=td;have t3:3<td.size:=by
  rw [<- htd];simp only [VQ,VE,V6,Xi];omega
 generalize hob:({ cls:=.type "traceback",dict:=none,data:=.fields td }:Obj)=ob;have KC:ob.data=.fields td:=by rw [<- hob]
 have O6:ob.isFreed=false:=by rw [<- hob];rfl
 have e2:=VH ob e1;refine wpAny_setField e2 hd hs ?_;have nT:h1.objs.size≠e:=Nat.ne_of_gt (VT e1);have d3:=Obj.data_mapFields hd (·.setIfInBounds 1 (Value.ref h1.objs.size));have e3:=Wk (Obj.mapFields (·.setIfInBounds 1 (Value.ref h1.objs.size))) e2 (Obj.isFreed_of_fields d3);have T3:((h1.push ob).update e (Obj.mapFields (·.setIfInBounds 1 (Value.ref h1.objs.size)))).get? h1.objs.size=some ob:=by
  rw [V4 _ _ (Ne.symm nT)];exact V1 h1 O6
 unfold setFlight;refine wpAny_bind (wpAny_field e3 d3 (x:=.ref h1.objs.size) (by simp [hs]) ?_);rw [if_pos (by simp)];have d4:=Obj.data_mapFields KC (·.setIfInBounds 3 ((none:Option Addr).elim Value.none fun f=>rawInt f));refine wpAny_setField T3 KC t3 (h _ h1.objs.size ⟨_,_,?_,Obj.cls_mapFields _ _,?_,d3,by simp,by simp [hs]⟩ ?_ ⟨_,_,Wk _ T3 (Obj.isFreed_of_fields d4),d4,?_⟩ (fun b o q n1 n2=>?_) fun b o q n1=>?_)
 ·rw [V4 _ _ nT];exact e3
 ·obtain ⟨c0,d0,KD,s0⟩:=oe
  cases KD<;>first|rfl|cases hd
 ·rw [O4];exact VC _
 ·simp [t3]
 ·have q1:h1.get? b=some o:=by rw [KA b n2];exact q
  rw [V4 _ _ (Nat.ne_of_gt (VT q1)),V4 _ _ (Ne.symm n1)];exact VH _ q1
 ·obtain ⟨sl,q1⟩:=O5 b o q
  refine ⟨sl,?_⟩;rw [V4 _ _ (Nat.ne_of_gt (VT q1)),V4 _ _ (Ne.symm n1)];exact VH _ q1
theorem noted{base:Heap}{env:Env}{outer:List Env}{L e:Addr}{oe:Obj}{vs:Array Value}{Q:Unit->Shared->Prop}(hfr:A.frames=some (env :: outer))(hl:s.heap.FunFrames base (env :: outer))(hf:env.frame=some L)
  (he:s.heap.get? e=some oe) (hd:oe.data=.fields vs) (ht:vs[1]?=some .none\/∃T oT ts,vs[1]?=some (.ref T)/\T≠e/\s.heap.get? T=some oT/\oT.data=.fields ts/\ts[3]?=some .none)
  (h:∀h' T,BD (frs (env :: outer)) e oe vs T s.heap h'->Q () { s with heap:=h' }):wpAny M A (noteFrame (.ref e) env) (fun _ s'=>wpAny M A (setFlight (.ref e) none) Q E s') E s:=by
 unfold noteFrame;simp only [hf];rcases ht with h1|⟨T0,oT,ts,h1,nT,hT,dT,h3⟩
 ·refine wpAny_bind (wpAny_field he hd h1 ?_)
  rw [if_neg (by decide)];refine Kz hfr hl hf he hd (WC.mp h1).1 fun h' T a1 a2 a3 a4 a5=>h h' T ⟨a1,a2,a3,fun b o q n1 _ n3=>a4 b o q n1 n3,fun b o q n1 _=>a5 b o q n1,fun b _ z=>by rw [h1] at z;cases z⟩
 ·refine wpAny_bind (wpAny_field he hd h1 ?_)
  rw [if_pos (by simp)];refine wpAny_bind (wpAny_field hT dT h3 ?_);rw [if_neg (by simp [rawInt])];refine wpAny_bind (wpAny_setField hT dT (WC.mp h3).1 ?_);have d2:=Obj.data_mapFields dT (·.setIfInBounds 3 Value.none);have T2:=Wk (Obj.mapFields (·.setIfInBounds 3 Value.none)) hT (Obj.isFreed_of_fields d2);have ui:∀b,b≠T0->(s.heap.update T0 (Obj.mapFields (·.setIfInBounds 3 Value.none))).get? b=s.heap.get? b:=fun b n=>V4 _ _ (Ne.symm n);have rec':∀b o,s.heap.get? b=some o->(∀ws,o.data≠.fields ws)->b≠T0:=fun b o q n z=>by rw [z,hT] at q;cases q;exact n ts dT
  have O7:(ts.setIfInBounds 3 Value.none)[3]?=some .none:=by simp [(WC.mp h3).1]
  have O8:T0 ∉ frs (env :: outer):=fun z=>by
   obtain ⟨_,o,q,nf⟩:=hl.mem z;rw [hT] at q;cases q;exact nf ts dT
  refine Kz hfr (hl.of_keeps fun b o q n=>⟨o,by rw [ui b (rec' b o q n)];exact q,rfl⟩) hf (by rw [ui e (Ne.symm nT)];exact he) hd (WC.mp h1).1 fun h' T a1 a2 a3 a4 a5=>h h' T ⟨a1,?_,a3,fun b o q n1 n2 n3=>?_,fun b o q n1 n2=>?_,fun b n1 z=>?_⟩
  ·have z:=a2
   dsimp only at z;rw [Heap.size_after_update] at z;exact z
  ·have nb:b≠T0:=fun z=>n2 (by rw [z];exact h1)
   exact a4 b o (by dsimp only;rw [ui b nb];exact q) n1 n3
  ·have nb:b≠T0:=fun z=>n2 (by rw [z];exact h1)
   exact a5 b o (by dsimp only;rw [ui b nb];exact q) n1
  ·rw [h1] at z;cases z
   exact ⟨_,_,a4 T0 _ T2 n1 O8,d2,O7⟩
end
def xv:Option Addr->Value
 |none=>.none
 |some T=>.ref T
def XO(a C:Addr)(dx tr:Option Addr):HO:=.ext fun h=>∃o vs,h.get? a=some o/\o.cls=.ref C/\o.dict=dx/\o.data=.fields vs/\vs[1]?=some (xv tr)
def XT(T:Addr):HO:=.ext fun h=>∃o ts,h.get? T=some o/\o.data=.fields ts/\ts[3]?=some .none
def Exc(H:Hp)(a C:Addr)(dx:Option Addr):Prop:=∃tr,H a=some (XO a C dx tr)/\∀T,tr=some T->T≠a/\H T=some (XT T)
def XS(a:Addr)(H H':Hp):Prop:=(∃C dx tr xw,H a=some (XO a C dx tr)/\H' a=some (XO a C dx xw))/\∀b,b≠a->∀o,H b=some o->H' b=some o
section
variable {P:Program}{w:World}{H H' H2:Hp}{h h':Heap}{a C T:Addr}{dx tr:Option Addr}{o:HO}
theorem XO.ok(e:∃o vs,h.get? a=some o/\o.cls=.ref C/\o.dict=dx/\o.data=.fields vs/\vs[1]?=some (xv tr)):bw P w H h a (XO a C dx tr) :=
 ⟨e,let ⟨o,_,q,_⟩:=e;⟨o,q⟩,fun h1 h2 ⟨o,vs,q,r⟩ k=>⟨o,vs,k o q,r⟩⟩
theorem XT.ok(e:∃o ts,h.get? T=some o/\o.data=.fields ts/\ts[3]?=some .none):bw P w H h T (XT T) :=
 ⟨e,let ⟨o,_,q,_⟩:=e;⟨o,q⟩,fun h1 h2 ⟨o,vs,q,r⟩ k=>⟨o,vs,k o q,r⟩⟩
theorem XO.of(ok:iO P w H h)(e:H a=some (XO a C dx tr)):∃o vs,h.get? a=some o/\o.cls=.ref C/\o.dict=dx/\o.data=.fields vs/\vs[1]?=some (xv tr):=(ok a _ e).1
theorem XT.of(ok:iO P w H h)(e:H T=some (XT T)):∃o ts,h.get? T=some o/\o.data=.fields ts/\ts[3]?=some .none:=(ok T _ e).1
theorem bw.there(x:bw P w H h a o):∃ob,h.get? a=some ob:=by
 cases o with
 |lst xs=>obtain ⟨_,_,_,_,e⟩:=x;exact ⟨_,e⟩
 |tup xs=>obtain ⟨_,_,_,_,e,_⟩:=x;exact ⟨_,e⟩
 |dK kvs=>obtain ⟨_,_,_,_,o,_,_,e,_⟩:=x;exact ⟨_,e⟩
 |dT kvs=>obtain ⟨_,_,_,_,o,_,_,e,_⟩:=x;exact ⟨_,e⟩
 |set S n=>obtain ⟨o,_,_,_,e,_⟩:=x;exact ⟨_,e⟩
 |ins C dx fs=>obtain ⟨_,_,_,e,_⟩:=x;exact ⟨_,e⟩
 |own y=>obtain ⟨_,e⟩:=x;exact ⟨_,e⟩
 |xd fs=>obtain ⟨_,⟨_,_,_,e,_⟩,_⟩:=x;exact ⟨_,e⟩
 |gR lo hi=>obtain ⟨_,_,_,e⟩:=x;exact ⟨_,e⟩
 |mC ob u=>obtain ⟨e,_⟩:=x;exact ⟨_,e⟩
 |uS ps=>exact ⟨_,(show h.get? a=some _ from x)⟩
 |met f y=>exact ⟨_,(show h.get? a=some _ from x)⟩
 |ext φ=>obtain ⟨_,e,_⟩:=x;exact e
theorem iO.none_of(ok:iO P w H h)(e:h.get? a=none):H a=none:=by
 cases q:H a with
 |none=>rfl
 |some o=>obtain ⟨ob,z⟩:=(ok a o q).there;rw [e] at z;cases z
theorem XS.refl(x:Exc H a C dx):XS a H H:=let ⟨tr,e,_⟩:=x;⟨⟨C,dx,tr,tr,e,e⟩,fun _ _ _ q=>q⟩
theorem XO.inj{C':Addr}{zR xw:Option Addr}(e:XO a C dx tr=XO a C' zR xw):C=C'/\dx=zR:=by
 have q:(fun h:Heap=>∃o vs,h.get? a=some o/\o.cls=.ref C/\o.dict=dx/\o.data=.fields vs/\vs[1]?=some (xv tr))=(fun h:Heap=>∃o vs,h.get? a=some o/\o.cls=.ref C'/\o.dict=zR/\o.data=.fields vs/\vs[1]?=some (xv xw)):=by
  unfold XO at e;injection e
 let ob:Obj:={ cls:=.ref C,dict:=dx,data:=.fields #[.none,xv tr] }
 let h0:Heap:={ objs:=Array.replicate (a+1) ob }
 have e0:h0.get? a=some ob:=by
  refine Heap.get?_some_iff.mpr ⟨?_,rfl⟩;simp [h0]
 have z:=(congrFun q h0).mp ⟨ob,_,e0,rfl,rfl,rfl,rfl⟩;obtain ⟨o',vs,e1,e2,e3,_⟩:=z;rw [e0] at e1;cases e1;exact ⟨Value.ref.inj e2,e3⟩
theorem XS.trans(x:XS a H H')(y:XS a H' H2):XS a H H2:=by
 obtain ⟨⟨C,dx,tr,Vi,e1,e2⟩,k⟩:=x;obtain ⟨⟨C',zR,O9,Pa,e3,e4⟩,k'⟩:=y;rw [e2] at e3;obtain ⟨rfl,rfl⟩:=XO.inj (VJ e3);exact ⟨⟨C,dx,tr,Pa,e1,e4⟩,fun b n o q=>k' b n o (k b n o q)⟩
end
section
variable {X:Cx}{pins:List (Addr×Obj)}{σ:St}{H:Hp}{s:Shared}{a C:Addr}{dx:Option Addr}
theorem Inv.noted{A:Around}{E:Value->Shared->Prop}{Q:Unit->Shared->Prop}(I:Inv X pins σ H s)(hst:X.stack=X.env :: X.outer)(hf:X.env.frame=some X.env.locals)(hA:A.frames=some X.stack)(x:Exc H a C dx)
  (h:∀h' H',XS a H H'->Exc H' a C dx->Inv X pins σ H' { s with heap:=h' }->Q () { s with heap:=h' }) :
  wpAny (model X.prog X.w) A (noteFrame (.ref a) X.env) (fun _ s'=>wpAny (model X.prog X.w) A (setFlight (.ref a) none) Q E s') E s:=by
 obtain ⟨tr,ea,et⟩:=x;obtain ⟨oe,vs,he,hc,hdx,hd,h1⟩:=XO.of I.hok ea;have BE:∀b,H b=none->vs[1]?≠some (.ref b):=fun b nb z=>by
  rw [h1] at z;cases tr with
  |none=>cases z
  |some T=>cases z;rw [(et _ rfl).2] at nb;cases nb
 have uj:∀b,H b=none->b≠a:=fun b nb z=>by rw [z,ea] at nb;cases nb
 refine L2.noted (by rw [hA,hst]) (hst ▸ I.stack) hf he hd ?_ fun h' T N=>?_
 ·cases tr with
  |none=>exact .inl h1
  |some T=>obtain ⟨oT,ts,q1,q2,q3⟩:=XT.of I.hok (et T rfl).2;exact .inr ⟨T,oT,ts,h1,(et T rfl).1,q1,q2,q3⟩
 have HT:H T=none:=I.hok.fresh N.new;have Ta:T≠a:=uj T HT;have gT:∀b o,s.heap.get? b=some o->b≠T:=fun b o q=>Wb (V5 (VT q) N.new)
 let H':Hp:=upd (upd H a (XO a C dx (some T))) T (XT T)
 have Hb:∀b,b≠a->∀o,H b=some o->H' b=some o:=fun b n o q=>by
  show upd (upd H a _) T _ b=_;rw [di (fun z=>by rw [z,HT] at q;cases q),di n];exact q
 have Ha:H' a=some (XO a C dx (some T)):=by
  show upd (upd H a _) T _ a=_;rw [di (Ne.symm Ta),kS]
 have KG:H' T=some (XT T):=kS;have Hn:∀b o,s.heap.get? b=some o->H b=none->H' b=none:=fun b o q n=>by
  show upd (upd H a _) T _ b=_;rw [di (gT b o q),di (uj b n)];exact n
 have xs:XS a H H':=⟨⟨C,dx,tr,some T,ea,Ha⟩,Hb⟩;have qx:∀b u,H b=some u->(∀φ,u≠.ext φ)->b≠a:=fun b u q n z=>by rw [z,ea] at q;cases q;exact n _ rfl
 have un:Un (frs X.stack) [] H H' s.heap h':=by
  rw [hst]
  refine ⟨fun b o q n1 n2 _=>N.keep b o q (uj b n1) (BE b n1) n2,fun b o q n1 _ _=>N.slot b o q (uj b n1) (BE b n1),fun b o q n _=>Hn b o q n,fun b o q _=>?_,
   fun b xs q=>Hb b (qx b _ q fun φ z=>nomatch z) _ q,fun b o u q=>Hb b (qx b _ q fun φ z=>nomatch z) _ q,fun b ps q=>⟨#[],by rw [W2];exact Hb b (qx b _ q fun φ z=>nomatch z) _ q⟩⟩
  by_cases n1:b=a
  ·subst n1;obtain ⟨o',_,q',_⟩:=N.exc;exact ⟨o',q'⟩
  ·by_cases n2:vs[1]?=some (.ref b)
   ·obtain ⟨o',_,q',_⟩:=N.old b n1 n2;exact ⟨o',q'⟩
   ·obtain ⟨sl,q'⟩:=N.slot b o q n1 n2;exact ⟨_,q'⟩
 have hok:iO X.prog X.w H' h':=fun b u q=>by
  by_cases n0:b=T
  ·subst n0;rw [KG] at q;cases q;exact XT.ok N.head
  by_cases n1:b=a
  ·subst n1;rw [Ha] at q;cases q
   obtain ⟨o',ws,p1,p2,p3,p4,p5,p6⟩:=N.exc;exact XO.ok ⟨o',ws,p1,by rw [p2];exact hc,by rw [p3];exact hdx,p4,p6⟩
  have qb:H b=some u:=by
   have z:upd (upd H a (XO a C dx (some T))) T (XT T) b=some u:=q;rw [di n0,di n1] at z;exact z
  by_cases n2:vs[1]?=some (.ref b)
  ·rw [h1] at n2
   cases tr with
   |none=>cases n2
   |some T0 =>
    cases n2;rw [(et b rfl).2] at qb;cases qb;exact XT.ok (N.old b n1 h1)
  ·have KH:∀c v,H c=some v->c ∉ frs X.stack:=fun c v z y=>by rw [I.mZ c y] at z;cases z
   refine (I.hok b u qb).stay (fun c v hc' r=>?_) (fun c r=>Hb c (qx c _ r fun φ z=>nomatch z) _ r) fun c xs r=>Hb c (qx c _ r fun φ z=>nomatch z) _ r;rcases hc' with rfl|hc'
   ·exact N.keep c v r n1 n2 (hst ▸ KH c u qb)
   ·refine N.keep c v r (qx c _ hc' fun φ z=>nomatch z) (fun z=>?_) (hst ▸ KH c _ hc')
    rw [h1] at z;cases tr with
    |none=>cases z
    |some T0=>cases z;rw [(et c rfl).2] at hc';cases hc'
 exact h h' H' xs ⟨some T,Ha,fun T' e=>by cases e;exact ⟨Ta,KG⟩⟩ (I.call (ch:=[]) un hok I.bare fun b z=>absurd z (by simp))
def qN(P:Program)(w:World):pe:=fun outer H s E e s'=>∃a C dx H',e=.ref a/\s'.os=s.os/\AllBare s'.gens/\Un (frs outer) [] H H' s.heap s'.heap/\iO P w H' s'.heap/\Exc H' a C dx/\∀xx,XS a H' xx->E (.ref a) none xx
end
section
variable {P:Program}{w:World}{K:Zfr}{mg:Str->Option Value}{base:Heap}{N:List Str}{qual:Str}{scope:Scope}{f:Addr}{cd:Value}{A:Around}{outer:List Env}{s0:Shared}{H0:Hp}{E:XK}
theorem leave{pins:List (Addr×Obj)}{σ:St}{H:Hp}{s:Shared}{a C:Addr}{dx:Option Addr}(I:Inv (eV (qN P w) P w K mg base N qual scope f cd A outer s0 H0 E) pins σ H s)(x:Exc H a C dx)(h:∀xx,XS a H xx->E (.ref a) none xx):
  (eV (qN P w) P w K mg base N qual scope f cd A outer s0 H0 E).xe (.ref a) s:=by
 show wpAny _ _ («leaving» _ (.ref a)) _ _ s;unfold «leaving»;refine wpAny_bind (Inv.noted I rfl rfl I.ok.frames x fun h' H' xs x' I'=>?_);exact ⟨a,C,dx,H',rfl,I'.os,I'.bare,I'.base,I'.hok,x',fun xx y=>h xx (xs.trans y)⟩
end
structure Pb(K:Zfr)(mg:Str->Option Value)(x:Str)(C:Addr)(bmB:List Value)(newId:String):Prop where
 m:mg x=some (.ref C)
 k:PySem.W.excIn K C bmB newId=true
section
open PySem.W
theorem Pc{K:Frag}{h:Heap}{C:Addr}{bmB:List Value}{newId:String}(X:K.In h)(q:excIn K C bmB newId=true):
  ∃bm N nm qn bs hdct sn sub ab col dd k0 k1 k2 k3 k5 mN,h.get? C=some (excClassObj nm qn C N bs bm hdct sn sub ab col dd k0 k1 k2 k3 k5 newId)/\h.Ns N mN/\mN "__init__" = none/\OwnTail h bmB bm:=by
 unfold excIn at q;split at q
 ·next dd cd sl ho =>
  split at q
  ·next C' bm k0 k1 k2 k3 n k5 hm hs =>
   simp only [VS,beq_iff_eq,Bool.not_eq_true'] at q;obtain ⟨⟨⟨⟨⟨e1,e2⟩,e3⟩,e4⟩,e5⟩,e6⟩:=q;subst e1 e2;obtain ⟨nm,bs,mro,ns,qn,hd,sn,sub,ab,col,del⟩:=cd;obtain ⟨l⟩:=sl;dsimp only at hm hs e3 e5 e6;subst hm e3 hs;exact ⟨bm,ns,nm,qn,bs,hd,sn,sub,ab,col,dd,k0,k1,k2,k3,k5,_,X _ _ ho,.of_isNs (isNs_of_in X e5),nsMap_none_of_in X e5 e6,tail_of_in X e4⟩
  ·cases q
 ·cases q
end
section
variable {X:Cx}{pins:List (Addr×Obj)}{σ:St}{H:Hp}{s:Shared}{a C:Addr}{dx:Option Addr}
theorem Inv.Ht{h':Heap}{o:HO}(I:Inv X pins σ H s)(kp:∀b u,s.heap.get? b=some u->h'.get? b=some u)(hn:s.heap.get? a=none)(new:bw X.prog X.w (upd H a o) h' a o):Inv X pins σ (upd H a o) { s with heap:=h' }:=by
 have Ha:H a=none:=I.hok.none_of hn;have ne:∀b u,H b=some u->b≠a:=fun b u q=>wC q Ha;have up:∀b u,H b=some u->upd H a o b=some u:=fun b u q=>by rw [di (ne b u q)];exact q
 have hok:iO X.prog X.w (upd H a o) h':=fun b u q=>by
  by_cases hb:b=a
  ·subst hb;rw [kS] at q;cases q;exact new
  ·rw [di hb] at q
   exact (I.hok b u q).stay (fun c v _ r=>kp c v r) (fun c r=>up c _ r) fun c xs r=>up c _ r
 have un:Un (frs X.stack) [] H (upd H a o) s.heap h' :=
  ⟨fun b u q _ _ _=>kp b u q,fun b u q _ _ _=>⟨u.slots,kp b u q⟩,fun b u q n _=>by rw [di (fun z=>by rw [z,hn] at q;cases q)];exact n,fun b u q _=>⟨u,kp b u q⟩,fun b xs q=>up b _ q,fun b x y q=>up b _ q,fun b ps q=>⟨#[],by rw [W2];exact up b _ q⟩⟩
 exact I.call (ch:=[]) un hok I.bare fun b z=>absurd z (by simp)
theorem Inv.flight{M:Model}{A:Around}{E:Value->Shared->Prop}{Q:Unit->Shared->Prop}(I:Inv X pins σ H s)(x:Exc H a C dx)(h:∀h',Inv X pins σ H { s with heap:=h' }->Q () { s with heap:=h' }):wpAny M A (setFlight (.ref a) none) Q E s:=by
 obtain ⟨tr,ea,et⟩:=x;obtain ⟨oe,vs,he,hc,hdx,hd,h1⟩:=XO.of I.hok ea;cases tr with
 |none =>
  unfold setFlight;refine wpAny_bind (wpAny_field he hd h1 ?_);exact wpAny_pure (h s.heap I)
 |some T =>
  obtain ⟨Ta,eT⟩:=et T rfl;obtain ⟨oT,ts,q1,q2,q3⟩:=XT.of I.hok eT;have lt:3<ts.size:=(WC.mp q3).1;have d2:=Obj.data_mapFields q2 (·.setIfInBounds 3 Value.none);have T2:=Wk (Obj.mapFields (·.setIfInBounds 3 Value.none)) q1 (Obj.isFreed_of_fields d2);have ui:∀b u,b≠T->s.heap.get? b=some u->(s.heap.update T (Obj.mapFields (·.setIfInBounds 3 Value.none))).get? b=some u:=fun b u n q=>by rw [V4 _ _ (Ne.symm n)];exact q
  have nT:∀b,H b=none->b≠T:=fun b n z=>by rw [z,eT] at n;cases n
  refine wpAny_setFlight_none he hd h1 q1 q2 lt (h _ (I.call (ch:=[]) ⟨fun b u q n _ _=>ui b u (nT b n) q,fun b u q n _ _=>⟨u.slots,ui b u (nT b n) q⟩,fun b u q n _=>n,fun b u q _=>?_,fun _ _ q=>q,fun _ _ _ q=>q,fun b ps q=>⟨#[],by rw [W2];exact q⟩⟩ ?_ I.bare fun b z=>absurd z (by simp)))
  ·by_cases z:b=T
   ·subst z;exact ⟨_,T2⟩
   ·exact ⟨u,ui b u z q⟩
  ·intro b u q
   by_cases z:b=T
   ·subst z;rw [eT] at q;cases q;exact XT.ok ⟨_,_,T2,d2,by simp [lt]⟩
   ·refine (I.hok b u q).stay (fun c v hc' r=>ui c v ?_ r) (fun c r=>r) fun c xs r=>r
    rcases hc' with rfl|hc'
    ·exact z
    ·rintro rfl;rw [eT] at hc';cases hc'
end
theorem Pd{M:Model}{A:Around}{E:Value->Shared->Prop}{s:Shared}{K:Zfr}{a C F:Addr}{oe:Obj}{bmB:List Value}{newId:String}{Q:Bool->Shared->Prop}(X:K.In s.heap)(he:s.heap.get? a=some oe)(hc:oe.cls=.ref C)
  (hF:PySem.W.excIn K F bmB newId=true) (hb:bmB.contains (.type "BaseException")=true) (hm:PySem.W.mroIn K C (.ref F)=some true) (hq:Q true s):wpAny M A (excMatches (.ref a) (.ref F)) Q E s:=by
 obtain ⟨bm,NN,nm,qn,bs,hdct,sn,sub,ab,col,dd,k0,k1,k2,k3,k5,mN,hC,hN,hni,T⟩:=Pc X hF;have L:=PySem.W.looks_mroIn (M:=M) X hm;obtain ⟨h,g,d,t,os⟩:=s;have Pe:(Value.ref F :: bm).contains (.type "BaseException")=true:=by rw [List.contains_cons,T.hasType hb,Bool.or_true]
 have f:=tc_notTuple;unfold excMatches
 repeat (first|(with_reducible refine wpAny_loadPart_at he ?_;rw [hc])|with_reducible refine wpAny_loadPart_at hC ?_|(with_reducible refine wpAny_isSubtype_exc hC ?_;rw [Pe])|wp_step)
 refine L.at ?_;rw [if_pos rfl]
 wp_walk
 exact hq
abbrev Cx.tr(X:Cx)(pins:List (Addr×Obj))(W:St->Addr->Hp->Prop):Cx :=
 { X with pn:=X.pn ++ pins,xe:=fun e s=>∃σ H a C dx,e=.ref a/\Inv X pins σ H s/\Exc H a C dx/\∀H2,XS a H H2->W σ a H2 }
abbrev Cx.held(X:Cx)(a:Addr):Cx:={ X with A:=X.A.mark (some (.ref a)),calm:=false,xe:=fun _ _=>False }
section
variable {X:Cx}{pins:List (Addr×Obj)}{σ:St}{H:Hp}{s:Shared}{W:St->Addr->Hp->Prop}{a:Addr}
theorem Cx.Ok.tr(ok:X.Ok):(X.tr pins W).Ok:=⟨ok.mod,ok.kind,ok.glob,ok.blt,ok.above,ok.inj,ok.has,ok.uT,ok.hd,ok.frames,ok.stk,ok.Az,ok.bs,ok.qK,ok.og,ok.o7,ok.jR,ok.sX⟩
theorem Cx.Ok.kG(ok:(X.tr pins W).Ok):X.Ok:=⟨ok.mod,ok.kind,ok.glob,ok.blt,ok.above,ok.inj,ok.has,ok.uT,ok.hd,ok.frames,ok.stk,ok.Az,ok.bs,ok.qK,ok.og,ok.o7,ok.jR,ok.sX⟩
theorem Inv.tr(I:Inv X pins σ H s):Inv (X.tr pins W) [] σ H s:=⟨I.ok.tr,I.os,I.bare,I.base,I.loc,I.cell,I.free,I.eQ,fun p hp=>I.pin p (by rw [Wl] at hp;exact hp),I.hok,I.len⟩
theorem Inv.kG{jG:List (Addr×Obj)}(I:Inv (X.tr pins W) jG σ H s):Inv X pins σ H s:=⟨I.ok.kG,I.os,I.bare,I.base,I.loc,I.cell,I.free,I.eQ,fun p hp=>I.pin p (WI _ hp),I.hok,I.len⟩
theorem SP.kG{jG:List (Addr×Obj)}{D:Ends}{f:Flow}{s':Shared}(h:SP (X.tr pins W) jG D f s'):SP X pins D f s':=by
 cases f with
 |next=>obtain ⟨σ',H',I,q⟩:=h;exact ⟨σ',H',I.kG,q⟩
 |brk=>obtain ⟨σ',H',I,q⟩:=h;exact ⟨σ',H',I.kG,q⟩
 |cont=>obtain ⟨σ',H',I,q⟩:=h;exact ⟨σ',H',I.kG,q⟩
 |ret u=>obtain ⟨v,σ',H',I,r,q⟩:=h;exact ⟨v,σ',H',I.kG,r,q⟩
theorem Cx.Ok.held(ok:X.Ok):(X.held a).Ok:=⟨ok.mod,ok.kind,ok.glob,ok.blt,ok.above,ok.inj,ok.has,ok.uT,fun z=>(by cases z),ok.frames,ok.stk,ok.Az,ok.bs,ok.qK,ok.og,ok.o7,ok.jR,ok.sX⟩
theorem Inv.held(I:Inv X pins σ H s):Inv (X.held a) pins σ H s:=⟨I.ok.held,I.os,I.bare,I.base,I.loc,I.cell,I.free,I.eQ,I.pin,I.hok,I.len⟩
theorem Inv.nt(ok:X.Ok)(I:Inv (X.held a) pins σ H s):Inv X pins σ H s:=⟨ok,I.os,I.bare,I.base,I.loc,I.cell,I.free,I.eQ,I.pin,I.hok,I.len⟩
theorem Inv.unbind{M:Model}{A:Around}{E:Value->Shared->Prop}{i:Nat}{n:Str}{pos:Pos}{Q:Unit->Shared->Prop}(I:Inv X pins σ H s)(hN:X.N.Nodup)(hi:X.N[i]?=some n)(hk:X.env.scope.names.lookup n=some .local)
  (h:∀s',Inv X pins (σ.set i none) H s'->Q () s'):wpAny M A (do bindName X.env n .none;unbindBehindTheSuite X.env n pos) Q E s:=by
 obtain ⟨m,hn,hl⟩:=id I.loc;have hcls:(X.env.scope.kind == .class || (X.env.scope.kind == .module && X.env.locals != X.env.globals))=false:=by rw [I.ok.kind];rfl
 have qZ:=I.qZ;refine wpAny_nameGoes_keeps hk hn hcls fun h' v hn' hs=>h _ ?_;have low:∀b o,X.s₀.heap.get? b=some o->b≠X.env.locals:=fun b o e=>Wb (V5 (VT e) I.ok.above);have up:∀b o,b≠X.env.locals->s.heap.get? b=some o->h'.get? b=some o:=fun b o n q=>(hs.2 b n).trans q;refine ⟨I.ok,I.os,I.bare,⟨fun b o e n hb hx=>up b o (low b o e) (I.base.keep b o e n hb hx),fun b o e n hb hx=>?_,I.base.free,fun b o e hx=>?_,I.base.tups,I.base.l8,I.base.mW⟩,⟨_,hn',fun j y v' e1 e2 e3=>?_⟩,fun y c e=>?_,I.free,I.eQ,fun p hp=>?_,fun b ob e=>?_,by simpa using I.len⟩
 ·obtain ⟨sl,e1⟩:=I.base.slot b o e n hb hx
  exact ⟨sl,up b _ (low b o e) e1⟩
 ·obtain ⟨o',e1⟩:=I.base.there b o e hx
  exact ⟨o',up b _ (low b o e) e1⟩
 ·have hj:j≠i:=fun z=>by
   subst z
   by_cases hl':j<σ.length
   ·rw [VG hl'] at e2;cases e2
   ·rw [W7 (by rw [Wc];omega)] at e2;cases e2
  rw [VF (Ne.symm hj)] at e2;obtain ⟨u',r',q⟩:=hl j y v' e1 e2 e3;refine ⟨u',r',?_⟩;have yn:y≠n:=fun z=>hj (Gr hN e1 (z ▸ hi));rcases q with ⟨k,e⟩|⟨k,c,e,z⟩
  ·exact .inl ⟨k,by simp [yn,e]⟩
  ·exact .inr ⟨k,c,e,z.sameBut hs (qZ y c e)⟩
 ·obtain ⟨w',z⟩:=I.cell y c e
  exact ⟨w',z.sameBut hs (qZ y c e)⟩
 ·obtain ⟨e,n',ne,nf,d⟩:=I.pin p hp
  exact ⟨up _ _ ne e,n',ne,nf,d⟩
 ·refine (I.hok b ob e).stay (fun c w' hc q=>up c w' ?_ q) (fun _ q=>q) fun _ _ q=>q
  rintro rfl;rcases hc with rfl|hc
  ·rw [I.free] at e;cases e
  ·rw [I.free] at hc;cases hc
end
def BF(K:Zfr)(tb:(St->Addr->Hp->Prop)->TS)(F:Addr)(i:Nat)(ts:TS):TS:=fun D σ H =>
 tb (fun σ1 a H1=>∃C dx tr,H1 a=some (XO a C dx tr)/\PySem.W.mroIn K C (.ref F)=some true /\
  ts { nx:=fun σ2 H2=>D.nx (σ2.set i none) H2,bk:=fun σ2 H2=>D.bk (σ2.set i none) H2,ct:=fun σ2 H2=>D.ct (σ2.set i none) H2,rt:=D.rt } (σ1.set i (some (.ref a))) H1) D σ H
section
variable {X:Cx}{i:Nat}{x n:Str}{F:Addr}{bmB:List Value}{newId:String}{tb:(St->Addr->Hp->Prop)->TS}{ts:TS}{body suite:List Stmt}{b0:Stmt}{np hpos pos:Pos}
theorem xy(ec:Pb X.K X.mg x F bmB newId)(Pf:bmB.contains (.type "BaseException")=true)(hg:Gl X x)(hN:X.N.Nodup)(hi:X.N[i]?=some n)(hk:X.env.scope.names.lookup n=some .local)(hb:∀pins W,oZ (X.tr pins W) body (tb W))(Pg:∀a,oZ (X.held a) (b0 :: suite) ts)
  (hst:X.stack=X.env :: X.outer:=by rfl) (hf:X.env.frame=some X.env.locals:=by rfl) (hdb:(x == ("__debug__" : Str))=false:=by decide) :
  PS X (.Try body [.ExceptHandler (some (.Name x np)) (some n) (b0 :: suite) hpos] [] [] pos) (BF X.K tb F i ts):=by
 intro pins s σ H D I h;refine wpAny_Try_except (wpAny_mono (hb pins _ [] s σ H D I.tr h) (fun f s1 q=>?_) fun e s1 q=>?_)
 ·cases f with
  |next=>exact wpAny_pure q.kG
  |brk=>exact q.kG
  |cont=>exact q.kG
  |ret u=>exact q.kG
 ·obtain ⟨σ1,H1,a,C,dx,rfl,I1,x1,w1⟩:=q
  refine Inv.noted I1 hst hf I1.ok.frames x1 fun h2 H2 xs x2 I2=>?_;obtain ⟨C',zR,tr,e2,hm,q2⟩:=w1 H2 xs;obtain ⟨oe,vs,he,hc,_⟩:=XO.of I2.hok e2;refine wpAny_handleBy_cons (codeAny_handlers_test (zC (X:=X.held a) I2.held hg ec.m ?_ hdb)) (by intro z;cases z);refine Pd I2.mY he hc ec.k Pf hm ?_;refine codeAny_handlers_suite_as (Inv.flight I2 x2 fun h3 I3=>AF (X:=X.held a) (v:=.ref a) I3.held hN hi (.inl hk) rfl (fun s4 I4=>?_) (.inr hk));refine wpAny_mono (Pg a pins s4 _ H2 _ I4 q2) (fun f s5 q5=>?_) fun _ _ z=>z.elim;cases f with
  |next=>obtain ⟨σ6,H6,I6,q6⟩:=q5;exact Inv.unbind (I6.nt I.ok) hN hi hk fun s7 I7=>⟨_,H6,I7,q6⟩
  |brk=>obtain ⟨σ6,H6,I6,q6⟩:=q5;exact Inv.unbind (I6.nt I.ok) hN hi hk fun s7 I7=>⟨_,H6,I7,q6⟩
  |cont=>obtain ⟨σ6,H6,I6,q6⟩:=q5;exact Inv.unbind (I6.nt I.ok) hN hi hk fun s7 I7=>⟨_,H6,I7,q6⟩
  |ret u=>obtain ⟨v,σ6,H6,I6,r6,q6⟩:=q5;exact Inv.unbind (I6.nt I.ok) hN hi hk fun s7 I7=>⟨v,_,H6,I7,r6,q6⟩
end
def rS(sp:Sp)(W:St->Addr->Hp->Prop)(t:TA):TE:=fun σ H Q=>t σ H fun vs H1=>sp vs H1 Q fun u _ H2=>∃a,u=.ref a/\W σ a H2
section
variable {X:Cx}{k:Nat}{f:Addr}{fd:FuncData}{ps:List Str}{sp:Sp}{x:Str}{p pos:Pos}{e:Expr}{es:List Expr}{t:TA}{pins:List (Addr×Obj)}{W:St->Addr->Hp->Prop}
theorem Ph(F:aH X.prog X.w X.K X.mg X.base (qN X.prog X.w) k f fd ps sp)(hr:cS k X.A)(hg:Gl X x)(hm:X.mg x=some (.ref f))(hk:PySem.W.keepIn X.K (.ref f)=true)(hb:Binds X.K fd ps [])
  (ha:PA (X.tr pins W) (e :: es) t) (hdb:(x == ("__debug__" : Str))=false:=by decide) (he:starEach (e :: es) X.env=(false,eval e X.env) :: starEach es X.env:=by rfl) (hpl:(backTo pos (starEach es X.env)).any (·.1)=false:=by rfl) :
  PE (X.tr pins W) (.Call (.Name x p) (e :: es) [] pos) (rS sp W t):=by
 intro jG s σ H Q I h;refine wpAny_Call_Name_kw (zC I hg hm ?_ hdb);refine PySem.W.callWith_K (h₀:=X.base) I.ok.mod.zB hk (cj (ha pos jG s σ H _ I h) fun us s1 ⟨vs,H1,I1,r,q⟩=>⟨I1.mY,?_⟩) he hpl;have hl:us.length=ps.length:=by rw [<- r.length];exact F.len _ _ _ _ q
 have hbd:=hb s1 us I1.mY (by rw [Wl];exact hl);rw [Wl] at hbd;refine wpAny_call (codeAny_mono (F.run X.A X.stack s1 H1 ⟨us,[]⟩ us vs Q _ hr I1.tZ hbd r q) fun r s' hq=>?_);cases r with
 |error e =>
  obtain ⟨a,C,dx,H',rfl,os,bare,un,hok,x,hw⟩:=hq;refine ⟨σ,H',a,C,dx,rfl,(I1.rg os un hok bare fun b z=>absurd z (by simp)).kG,x,fun H2 y=>?_⟩;obtain ⟨a',ea,w⟩:=hw H2 y;cases ea;exact w
 |ok fl =>
  cases fl with
  |ret u=>exact I1.after hq
  |next=>exact False.elim hq
  |brk=>exact False.elim hq
  |cont=>exact False.elim hq
end
end L2
namespace L2
open PySem PySem.Spec PyProof.Rows PySem.W
structure ot(K:Frag)(C:Addr):Prop where
 ga:findIn K (.ref C) "__getattribute__" = some (some (.builtin "BaseException.__getattribute__"))
 gt:findIn K (.ref C) "__getattr__" = some none
 hd:hasDictIn K C=true
 bx:mroIn K C (.type "BaseException")=some true
 ob:mroIn K C (.type "object")=some true
 cl:findIn K (.ref C) "__class__" = some (some (.builtin "object.__class__"))
 gs:specialIn K (.builtin "object.__class__") "__get__" = some (some (.builtin "getset_descriptor.__get__"))
 tk:takesIn K (.builtin "object.__class__")=some true
section
variable {prog:Program}{w:World}{A:Around}{E:Value->Shared->Prop}{s:Shared}{K:Frag}{a C:Addr}{ox:Obj}{odo:Option Obj}{name:Str}
theorem Pj{M:Model}{nv:Value}{Q:Unit->Shared->Prop}(X:K.In s.heap)(I:InstAt s.heap a ox C odo)(e:ot K C)(hq:Q () s):wpAny M A (checkBuiltinCall "BaseException.__getattribute__" ⟨[.ref a,nv],[]⟩) Q E s:=by
 have hk:builtinKind "BaseException.__getattribute__" = some .slot:=by decide +kernel
 have hsplit:splitId "BaseException.__getattribute__" = some ("BaseException","__getattribute__"):=by decide +kernel
 have ha:=F.args_bexc_ga (.ref a) nv;have LT:=I.type (M:=M);have LB:=looks_mroIn (M:=M) X e.bx;obtain ⟨h,g,d,t,os⟩:=s;simp only [checkBuiltinCall,hk,hsplit];refine wpAny_bind ?_;unfold isInstance;refine wpAny_bind (LT.at (LB.at ?_))
 repeat (first|assumption|wp_step)
theorem KI{tk:Tok}{fill expr:Bool}{Q:Value->Shared->Prop}(X:K.In s.heap)(I:InstAt s.heap a ox C odo)(e:ot K C)
  (h:∀A' (R:Fin->Shared->Prop) E',(∀v s',handedOut v=pure v->Q v s'->R (.done (.ret v)) s')->wpAny (model prog w) A' (Builtin.«object.__getattribute__» ⟨[.ref a,.str name tk],[]⟩) R E' s) :
  wpAny (model prog w) A (getAttrBy (.ref a) (.str name tk) fill expr) Q E s:=by
 have f3:=F.attrBase_ValueError.ga.bind (.ref a);have LT:=I.type (M:=model prog w);have L1:=looks_findIn (M:=model prog w) X e.ga;have L2:=looks_findIn (M:=model prog w) X e.gt;have Vj:(expr && onTheHeap (Value.builtin "BaseException.__getattribute__"))=false:=by cases expr<;>rfl
 have Pk:(Value.builtin "BaseException.__getattribute__" == Value.builtin "object.__getattribute__")=false:=by decide +kernel
 have Vk:(onTheHeap (Value.ref C) && Value.builtin "BaseException.__getattribute__" == Value.builtin "object.__getattribute__")=false:=by rw [Pk];rfl
 obtain ⟨hh,g,d,t,os⟩:=s;unfold getAttrBy
 repeat (any_goals (first|assumption|with_reducible refine LT.at ?_|with_reducible refine L1.at ?_|with_reducible refine L2.at ?_|wp_step))
 refine codeAny_call_builtin F.attrBase_ValueError.ga.plain F.entry_bexc_ga (Pj X I e ?_);refine h _ _ _ fun v s' hv q=>?_;dsimp only;rw [hv];exact wpAny_pure q
theorem Pm{tk:Tok}{v:Value}{R:Fin->Shared->Prop}(X:K.In s.heap)(I:InstAt s.heap a ox C odo)(hf:findObj K C odo name=some (.value v))(h:R (.done (.ret v)) s):
  wpAny (model prog w) A (Builtin.«object.__getattribute__» ⟨[.ref a,.str name tk],[]⟩) R E s:=by
 have LT:=I.type (M:=model prog w);have LF:=looks_find (M:=model prog w) X I hf;obtain ⟨hh,g,d,t,os⟩:=s
 repeat (any_goals (first|assumption|with_reducible refine LT.at ?_|with_reducible refine LF.at ?_|wp_step))
theorem Pn{v:Value}{expr:Bool}{Q:Value->Shared->Prop}(X:K.In s.heap)(I:InstAt s.heap a ox C odo)(e:ot K C)(hf:findObj K C odo name=some (.value v))(hv:handedOut v=pure v)(h:Q v { s with toks:=s.toks+1 }):
  wpAny (model prog w) A (getAttr (.ref a) name expr) Q E s:=by
 obtain ⟨hh,g,d,t,os⟩:=s;unfold getAttr
 repeat (any_goals (first|assumption|with_reducible refine KI (s:=⟨hh,g,d,t+1,os⟩) X I e (fun A' R E' k=>Pm (s:=⟨hh,g,d,t+1,os⟩) X I hf (k _ _ hv ?_))|wp_step))
theorem Po{tk:Tok}{R:Fin->Shared->Prop}(X:K.In s.heap)(I:InstAt s.heap a ox C odo)(e:ot K C)(h:R (.done (.ret (.ref C))) s):
  wpAny (model prog w) A (Builtin.«object.__getattribute__» ⟨[.ref a,.str "__class__" tk],[]⟩) R E s:=by
 have LT:=I.type (M:=model prog w);have hf:findObj K C odo "__class__" = some (.bind (.builtin "getset_descriptor.__get__") (.builtin "object.__class__")):=by
  obtain ⟨cd,hc,_⟩:=any_some e.hd;unfold findObj;rw [hc,Wv,e.cl,Wv];simp [e.gs,e.tk]
 have LF:=looks_find (M:=model prog w) X I hf;obtain ⟨hh,g,d,t,os⟩:=s
 repeat (any_goals (first|assumption|with_reducible refine LT.at ?_|with_reducible refine LF.at ?_|wp_step))
 exact class_get (s:=⟨hh,g,d,t,os⟩) X I e.ob (wpAny_pure h)
theorem Pp{Q:Option Value->Shared->Prop}(X:K.In s.heap)(I:InstAt s.heap a ox C odo)(e:ot K C)(h:Q (some (.ref C)) { s with toks:=s.toks+1 }):wpAny (model prog w) A (getAttr? (.ref a) "__class__") Q E s:=by
 obtain ⟨hh,g,d,t,os⟩:=s;unfold getAttr? getAttrBy?
 repeat (any_goals (first|assumption|with_reducible refine KI (s:=⟨hh,g,d,t+1,os⟩) X I e (fun A' R E' k=>Po (s:=⟨hh,g,d,t+1,os⟩) X I e (k _ _ rfl ?_))|wp_step))
theorem KJ(e:ot K C):KitX K (.ref a) (.ref C) (fun h=>∃ox odo,InstAt h a ox C odo) where
 ty:=fun _ _ _ ⟨_,_,I⟩=>I.type
 it:=fun _ _ X _=>by
  obtain ⟨cd,hc,_⟩:=any_some e.hd;unfold clsIn at hc;split at hc
  ·next c' d' Pq Gp ho =>
   intro A' Q' E' s' k q;unfold isType loadHead;exact wpAny_bind (wpAny_loadPart (k _ _ (X _ _ ho)) (wpAny_pure q))
  ·cases hc
 ne:=fun h tp dd its n sl X htp=>by
  obtain ⟨cd,hc,_⟩:=any_some e.hd;refine Bool.eq_false_iff.mpr fun q=>?_;have z:C=tp:=Value.ref.inj (beq_iff_eq.mp q);subst z;unfold clsIn at hc;split at hc
  ·next c' d' Pq Gp ho =>
   have z:=(X _ _ ho).symm.trans htp;cases z
  ·cases hc
 ca:=fun X ⟨_,_,I⟩ k=>Pp X I e k
end
theorem Pr{P:Program}{w:World}{H:Hp}{h:Heap}{a C:Addr}{dx tr:Option Addr}(ok:iO P w H h)(ea:H a=some (XO a C dx tr))(hd:∀d,dx=some d->∃fs,H d=some (.xd fs)):∃ox odo,InstAt h a ox C odo:=by
 obtain ⟨o,vs,he,hc,hdx,hdt,_⟩:=XO.of ok ea;have nc:notCls o=true:=by unfold notCls;rw [hdt]
 cases dx with
 |none=>exact ⟨o,none,he,hc,nc,by rw [hdx];trivial⟩
 |some d =>
  obtain ⟨fs,ed⟩:=hd d rfl;obtain ⟨mA,⟨od,es,ep,e1,_⟩,_⟩:=(show bw P w H h d (.xd fs) from ok d _ ed);exact ⟨o,some od,he,hc,nc,by rw [hdx];exact e1⟩
inductive lH(K:Frag)(mg:Str->Option Value):Str->Value->V->Prop where
 |own {x:Str} {C:Addr}:mg x=some (.ref C)->lH K mg x (.ref C) (.ref C)
 |blt {x:Str} {n:String}:mg x=none->bootBuiltins x=some (.type n)->x≠"__name__" -> lH K mg x (.type n) (.ty n)
section
variable {X:Cx}{x:Str}{c:Value}{v:V}{p pos:Pos}{e:Expr}{te:TE}{b:Bool}
theorem vB(h:lH X.K X.mg x c v)(hg:Gl X x)(hdb:(x == ("__debug__" : Str))=false:=by decide):PE X (.Name x p) (tC v):=by
 cases h with
 |own m=>exact Jp hg m rfl hdb
 |blt m b n=>exact Nw hg m b rfl n hdb
end
def uk:V->Option Value
 |.ref a=>some (.ref a)
 |.ty n=>some (.type n)
 |_=>none
def ou:List V->Option (List Value)
 |[]=>some []
 |v :: r=>match uk v,ou r with
  |some c,some cs=>some (c :: cs)
  |_,_=>none
theorem KL{v:V}{c u:Value}(h:uk v=some c)(r:RelV v u):u=c:=by
 cases v<;>first|(cases h;exact r)|cases h
theorem KN:∀{vs:List V} {cs us:List Value},ou vs=some cs->Vals vs us->us=cs
 |_,_,_,h,.nil=>by cases h;rfl
 |v :: r,cs,_,h,.cons a b=>by
  unfold ou at h;split at h
  ·next c cs' e1 e2=>cases h;rw [KL e1 a,KN e2 b]
  ·cases h
def um(K:Frag):List V->Hp->VK->Prop:=fun xs H Q=>∃a C dx tr v b,xs=[.ref a,v]/\H a=some (XO a C dx tr)/\(∀d,dx=some d->∃fs,H d=some (.xd fs))/\ot K C /\
 ((∃c,uk v=some c/\kitOne K (.ref C) c=some b)\/∃p vs cs,v=.ref p/\H p=some (.tup vs)/\ou vs=some cs/\kitAny K (.ref C) cs=some b)/\Q (.bl b) H
theorem Pt{X:Cx}:eh X (.builtin "isinstance") (um X.K):=by
 intro pins s σ H xs us Q I r h;obtain ⟨a,C,dx,tr,v,b,rfl,ea,hd,ei,hc,q⟩:=h;obtain ⟨u,u',rfl,ru,KO⟩:=vals2 r;cases (show u=Value.ref a from ru);have J:=Pr I.hok ea hd;rcases hc with ⟨c,e1,e2⟩|⟨p,vs,cs,rfl,hp,e1,e2⟩
 ·rw [KL e1 KO]
  exact kia_one (KJ ei) I.mY J e2 (fun z=>nomatch z) fun tk=>⟨.bl b,H,I.tok tk,rfl,q⟩
 ·cases (show u'=Value.ref p from KO)
  obtain ⟨_,its,rv,o,h1,h2,h3,n,h4⟩:=(show bw X.prog X.w H s.heap p (.tup vs) from I.hok p _ hp);have ec:=KN e1 rv;subst ec;obtain ⟨oc,od,KP,osl⟩:=o;cases h2;cases h4;exact kia_tup (KJ ei) I.mY J h1 e2 (fun z=>nomatch z) fun tk=>⟨.bl b,H,I.tok tk,rfl,q⟩
end L2
namespace L2
open PySem PySem.Spec PyProof.Rows
end L2
namespace L2
open PySem PySem.Spec PyProof.Rows PySem.W PySem.Builtin PySem.Builtin.ObjectAttr
def Pu:List Value:=[.type "ValueError",.type "Exception",.type "BaseException",.type "object"]
def pT:List Value->Bool
 |[]=>false
 |v :: r=>(v :: r) == Pu || (match v with|.ref _=>pT r|_=>false)
theorem KQ(self:Value):∀{l:List Value},pT l=true->refuseLoop self "__setattr__" l=pure ()/\l.contains (.type "object")=true
 |[],e=>by cases e
 |v :: r,e=>by
  unfold pT at e;rcases Bool.or_eq_true_iff.mp e with e|e
  ·rw [beq_iff_eq.mp e];exact ⟨PySem.F.store_ValueError.passes self,by decide +kernel⟩
  ·split at e
   ·next c =>
    obtain ⟨h1,h2⟩:=KQ self (l:=r) e;exact ⟨by rw [refuseLoop_ref];exact h1,by rw [List.contains_cons,h2,Bool.or_true]⟩
   ·cases e
structure tw(K:Frag)(C:Addr):Prop where
 sa:findIn K (.ref C) "__setattr__" = some (some (.builtin "object.__setattr__"))
 hd:hasDictIn K C=true
 po:(clsIn K C).any (fun cd=>pT cd.mro)=true
section
variable {prog:Program}{w:World}{A:Around}{E:Value->Shared->Prop}{s:Shared}{K:Frag}{a C:Addr}{ox:Obj}{odo:Option Obj}{name:Str}{v:Value}
theorem KR{R:Result->Shared->Prop}{tk:Tok}(X:K.In s.heap)(I:InstAt s.heap a ox C odo)(e:tw K C)(ht:takerIn K C name=some none)
  (h:∀b,wpAny (model prog w) A.in1 (storeInOwnDict (.ref a) (.ref C) (.str name tk) name v b)
   (fun fin s'=>match fin with|.done f=>R (.ok f) s'|.again c'=>c'.quiet=true/\codeAny (model prog w) A c' R s') (fun e s'=>R (.error e) s') s) :
  codeAny (model prog w) A (.call (.builtin "object.__setattr__") ⟨[.ref a,.str name tk,v],[]⟩) R s:=by
 have SF:=PySem.F.store_object;obtain ⟨cd,hc,ho⟩:=any_some e.po;obtain ⟨o1,o2⟩:=KQ (.ref a) ho;have ne:cd.mro.isEmpty=false:=by
  cases q:cd.mro with
  |nil=>rw [q] at ho;cases ho
  |cons _ _=>rfl
 have sub:Looks (model prog w) s.heap (isInstance (.ref a) (.type "object")) true:=I.type.andThen (looks_mroIn X (by unfold mroIn;rw [hc,Wv,if_neg (by rw [ne];decide),o2]));refine codeAny_call_builtin SF.slot.plain SF.entry (@check_slot (model prog w) _ _ s "object.__setattr__" "object" "__setattr__" (.ref a) [.str name tk,v] [] _ SF.kind SF.split sub (SF.args (.ref a) (.str name tk) v) ?_);obtain ⟨attr,ha,hr⟩:=Wt.mp ht;have LM:Looks (model prog w) s.heap (mroOf (.ref C)) cd.mro:=(looks_clsIn X hc).andThen .now;have LT:Looks (model prog w) s.heap (storeTaker? attr) none:=by
  cases attr with
  |none=>exact .now
  |some u =>
   obtain ⟨b,hb,hn⟩:=V7.mp hr;cases b with
   |true=>cases hn
   |false=>exact (looks_takesIn X hb).andThen .now
 rw [osa_eq,refuse_eq];refine wpAny_bind (wpAny_bind (I.type.here (wpAny_bind (LM.here ?_))));rw [o1];exact wpAny_pure (wpAny_bind (I.type.here (wpAny_bind ((looks_findIn X ha).here (wpAny_bind (LT.here (h _)))))))
theorem Pw{Q:Unit->Shared->Prop}(X:K.In s.heap)(hx:s.heap.get? a=some ox)(hc:ox.cls=.ref C)(hdx:ox.dict=none){vs:Array Value}(hdt:ox.data=.fields vs)(e:tw K C)(ht:takerIn K C name=some none)
  (h:∀h' d tk,s.heap.objs.size<=d->h'.get? a=some { ox with dict:=some d }->h'.Ns1 d (fun y=>if y=name then some v else none)->(∀b o,b≠a->s.heap.get? b=some o->h'.get? b=some o)->Q () { s with heap:=h',toks:=tk }) :
  wpAny (model prog w) A (setAttr (.ref a) name v) Q E s:=by
 obtain ⟨oc,od,KP,osl⟩:=ox;dsimp only at hc hdx hdt;subst hc hdx hdt;have J:InstAt s.heap a ⟨.ref C,none,.fields vs,osl⟩ C none:=⟨hx,rfl,rfl,trivial⟩;refine set_plain X J e.sa (KR (s:={ s with toks:=s.toks+1 }) X J e ht fun b=>?_);obtain ⟨cd,hcd,hd'⟩:=any_some e.hd;refine wpAny_bind (wpAny_pure (wpAny_bind (wpAny_bind (wpAny_loadPart hx (wpAny_bind (Looks.here (s:={ s with toks:=s.toks+1 }) (looks_clsIn X hcd) ?_))))));rw [hd',if_neg (by decide)];dsimp only;rw [if_neg (by simp [typeHasDict])];have x1:(s.heap.push { cls:=.type "dict",data:=.dict #[] }).get? a=some ⟨.ref C,none,.fields vs,osl⟩:=VH _ hx;have ns:a≠s.heap.objs.size:=Wb (VT hx);refine wpAny_bind (wpAny_alloc' (wpAny_bind (wpAny_update' x1 (wpAny_pure ?_))));have gd:((s.heap.push { cls:=.type "dict",data:=.dict #[] }).update a fun o=>{ cls:=o.cls,dict:=some s.heap.objs.size,data:=o.data,slots:=o.slots }).get? s.heap.objs.size=some { cls:=.type "dict",data:=.dict #[] } :=
  (Heap.get?_update_ne _ _ _ _ ns.symm).trans (Heap.get?_push_at rfl rfl)
 have nd:((s.heap.push { cls:=.type "dict",data:=.dict #[] }).update a fun o=>{ cls:=o.cls,dict:=some s.heap.objs.size,data:=o.data,slots:=o.slots }).Ns s.heap.objs.size (fun _=>none) :=
  ⟨_,#[],_,gd,rfl,fun e he=>absurd he (by simp),fun _=>rfl⟩
 show wpAny _ _ (storeInDict s.heap.objs.size (.str name s.toks) name v) _ _ _;unfold storeInDict newKeyGuard;refine wpAny_bind (wpAny_pure (wpAny_bind (wpAny_nsSet1 (Heap.Ns1.of_empty nd) fun h' hn hs=>?_)));obtain ⟨oD,esD,Px,Hu,Hv,Hw⟩:=hn.count (Within.cons name v Within.nil);refine wpAny_bind (wpAny_lookBehind Hu (by rw [Hv];exact pastItsLine_dict (V3 Hw (by rw [V6,Xi,sizeLine_eq];omega))) ?_);refine wpAny_pure (h h' s.heap.objs.size _ (VC _) ((hs.2 a ns).trans (Wk _ x1 rfl)) hn fun b o nb q=>?_);exact (hs.2 b (Wb (VT q))).trans ((Heap.get?_update_ne _ _ _ _ nb).trans (VH _ q))
theorem Py{Q:Unit->Shared->Prop}{d:Addr}{mA:Str->Option Value}{nms:List Str}(X:K.In s.heap)(hx:s.heap.get? a=some ox)(hc:ox.cls=.ref C)(hdx:ox.dict=some d){vs:Array Value}(hdt:ox.data=.fields vs)(hn:s.heap.Ns1 d mA)(e:tw K C)(ht:takerIn K C name=some none)
  (hw:Within mA nms) (hsz:nms.length+1<=sizeLine) (h:∀h' tk,Heap.SameBut d s.heap h'->h'.Ns1 d (fun y=>if y=name then some v else mA y)->Q () { s with heap:=h',toks:=tk }) :
  wpAny (model prog w) A (setAttr (.ref a) name v) Q E s:=by
 obtain ⟨oc,od,KP,osl⟩:=ox;dsimp only at hc hdx hdt;subst hc hdx hdt;obtain ⟨odd,es,ep,e1,_⟩:=id hn;have J:InstAt s.heap a ⟨.ref C,some d,.fields vs,osl⟩ C (some odd):=⟨hx,rfl,rfl,e1⟩;refine set_plain X J e.sa (KR (s:={ s with toks:=s.toks+1 }) X J e ht fun b=>?_);obtain ⟨cd,hcd,hd'⟩:=any_some e.hd;refine wpAny_bind (wpAny_pure (wpAny_bind (wpAny_bind (wpAny_loadPart hx (wpAny_bind (Looks.here (s:={ s with toks:=s.toks+1 }) (looks_clsIn X hcd) ?_))))));rw [hd',if_neg (by decide)];refine wpAny_pure ?_;show wpAny _ _ (storeInDict d (.str name s.toks) name v) _ _ _;unfold storeInDict newKeyGuard;refine wpAny_bind (wpAny_pure (wpAny_bind (wpAny_nsSet1 (s:={ s with toks:=s.toks+1 }) hn fun h' hn2 hs2=>?_)));obtain ⟨oD,esD,Px,Hu,Hv,Hw⟩:=hn2.count (Within.cons name v hw);refine wpAny_bind (wpAny_lookBehind Hu (by rw [Hv];exact pastItsLine_dict (V3 Hw (by rw [V6];omega))) ?_);exact wpAny_pure (h h' _ hs2 hn2)
end
def KS(K:Frag)(ta tv:TE)(f:Str):TS:=fun D σ H=>tv σ H fun y H1=>ta σ H1 fun x H2=>∃a C tr,x=.ref a/\tw K C/\takerIn K C f=some none /\
 ((H2 a=some (XO a C none tr)/\∀ d,H2 d=none->d≠a->D.nx σ (upd (upd H2 a (XO a C (some d) tr)) d (.xd [(f,y)]))) \/
   ∃d fs,H2 a=some (XO a C (some d) tr)/\H2 d=some (.xd fs)/\fs.length<=10/\D.nx σ (upd H2 d (.xd ((f,y) :: fs))))
section
variable {X:Cx}{pins:List (Addr×Obj)}{σ:St}{H:Hp}{s:Shared}{a C:Addr}{tr:Option Addr}{f:Str}{y:V}{u:Value}
theorem KU{fs:List (Str×V)}{mA:Str->Option Value}(r:∀g,lA (fs.lookup g) (mA g))(ry:RelV y u):∀g,lA (((f,y) :: fs).lookup g) (if g=f then some u else mA g):=fun g=>by
 rw [Wx]
 by_cases e:g=f
 ·subst e;rw [if_pos rfl,beq_self_eq_true];exact ry
 ·rw [if_neg e,show (g == f)=false from by simpa using e];exact r g
theorem Inv.BG{A:Around}{E:Value->Shared->Prop}{Q:Unit->Shared->Prop}(I:Inv X pins σ H s)(ea:H a=some (XO a C none tr))(e:tw X.K C)(ht:takerIn X.K C f=some none)(ry:RelV y u)
  (h:∀s' d,H d=none->d≠a->Inv X pins σ (upd (upd H a (XO a C (some d) tr)) d (.xd [(f,y)])) s'->Q () s'):wpAny (model X.prog X.w) A (setAttr (.ref a) f u) Q E s:=by
 obtain ⟨ox,vs,hx,hc,hdx,hdt,h1⟩:=XO.of I.hok ea;refine Pw I.mY hx hc hdx hdt e ht fun h' d tk hd g1 g2 kp=>?_;have Hd:H d=none:=I.hok.fresh hd;have da:d≠a:=fun z=>by rw [z,ea] at Hd;cases Hd
 refine h _ d Hd da ?_;have Hb:∀b o,b≠a->H b=some o->upd (upd H a (XO a C (some d) tr)) d (.xd [(f,y)]) b=some o:=fun b o n q=>by rw [di (fun z=>by rw [z,Hd] at q;cases q),di n];exact q
 have qx:∀b o,H b=some o->(∀φ,o≠.ext φ)->b≠a:=fun b o q n z=>by rw [z,ea] at q;cases q;exact n _ rfl
 have low:∀b o,s.heap.get? b=some o->b≠d:=fun b o q=>Wb (V5 (VT q) hd)
 refine I.call (ch:=[]) ⟨fun b o q n _ _=>kp b o (fun z=>by rw [z,ea] at n;cases n) q,fun b o q n _ _=>⟨o.slots,kp b o (fun z=>by rw [z,ea] at n;cases n) q⟩,fun b o q n _=>?_,fun b o q _=>?_,
  fun b xs q=>Hb b _ (qx b _ q fun φ z=>by cases z) q,fun b o v q=>Hb b _ (qx b _ q fun φ z=>by cases z) q,fun b ps q=>⟨#[],by rw [W2];exact Hb b _ (qx b _ q fun φ z=>by cases z) q⟩⟩ ?_ I.bare fun b z=>absurd z (by simp)
 ·rw [di (low b o q),di (fun z=>by rw [z,ea] at n;cases n)];exact n
 ·by_cases z:b=a
  ·subst z;exact ⟨_,g1⟩
  ·exact ⟨o,kp b o z q⟩
 ·intro b o q
  by_cases z:b=d
  ·subst z;rw [kS] at q;cases q
   exact ⟨_,g2,KU (fs:=[]) (fun g=>trivial) ry⟩
  ·rw [di z] at q
   by_cases z2:b=a
   ·subst z2;rw [kS] at q;cases q
    exact XO.ok ⟨_,vs,g1,hc,rfl,hdt,h1⟩
   ·rw [di z2] at q
    refine (I.hok b o q).stay (fun c w' hc' r=>kp c w' ?_ r) (fun c r=>Hb c _ (qx c _ r fun φ z=>by cases z) r) fun c xs r=>Hb c _ (qx c _ r fun φ z=>by cases z) r;rcases hc' with rfl|hc'
    ·exact z2
    ·exact qx c _ hc' fun φ z=>by cases z
theorem Inv.BH{A:Around}{E:Value->Shared->Prop}{Q:Unit->Shared->Prop}{d:Addr}{fs:List (Str×V)}(I:Inv X pins σ H s)(ea:H a=some (XO a C (some d) tr))(ed:H d=some (.xd fs))(hl:fs.length<=10)(e:tw X.K C)(ht:takerIn X.K C f=some none)(ry:RelV y u)
  (h:∀s',Inv X pins σ (upd H d (.xd ((f,y) :: fs))) s'->Q () s'):wpAny (model X.prog X.w) A (setAttr (.ref a) f u) Q E s:=by
 obtain ⟨ox,vs,hx,hc,hdx,hdt,h1⟩:=XO.of I.hok ea;obtain ⟨mA,hn,rf⟩:=(show bw X.prog X.w H s.heap d (.xd fs) from I.hok d _ ed);have wi:Within mA (fs.map (·.1)):=fun g hg=>by
  cases q:fs.lookup g with
  |some v =>
   have:=PySem.mem_of_lookup q;exact VO.mpr ⟨(g,v),this,rfl⟩
  |none =>
   have z:=rf g;rw [q] at z;cases m:mA g with
   |none=>exact absurd m hg
   |some w=>rw [m] at z;exact z.elim
 refine Py I.mY hx hc hdx hdt hn e ht wi (by rw [Vz,sizeLine_eq];omega) fun h' tk sb hn2=>h _ ?_;have kp:∀b o,b≠d->s.heap.get? b=some o->h'.get? b=some o:=fun b o n q=>(sb.2 b n).trans q;have nd:∀b o,H b=some o->(∀ws,o≠.xd ws)->b≠d:=fun b o q n z=>by rw [z,ed] at q;cases q;exact n _ rfl
 have Hb:∀b o,H b=some o->(∀ws,o≠.xd ws)->upd H d (.xd ((f,y) :: fs)) b=some o:=fun b o q n=>by rw [di (nd b o q n)];exact q
 obtain ⟨od,es,ep,gd,_⟩:=id hn2
 refine I.call (ch:=[]) ⟨fun b o q n _ _=>kp b o (fun z=>by rw [z,ed] at n;cases n) q,fun b o q n _ _=>⟨o.slots,kp b o (fun z=>by rw [z,ed] at n;cases n) q⟩,fun b o q n _=>by rw [di (fun z=>by rw [z,ed] at n;cases n)];exact n,fun b o q _=>?_,
  fun b xs q=>Hb b _ q (fun ws z=>by cases z),fun b o v q=>Hb b _ q (fun ws z=>by cases z),fun b ps q=>⟨#[],by rw [W2];exact Hb b _ q (fun ws z=>by cases z)⟩⟩ ?_ I.bare fun b z=>absurd z (by simp)
 ·by_cases z:b=d
  ·subst z;exact ⟨_,gd⟩
  ·exact ⟨o,kp b o z q⟩
 ·intro b o q
  by_cases z:b=d
  ·subst z;rw [kS] at q;cases q
   exact ⟨_,hn2,KU rf ry⟩
  ·rw [di z] at q
   refine (I.hok b o q).stay (fun c w' hc' r=>kp c w' ?_ r) (fun c r=>Hb c _ r fun ws z=>by cases z) fun c xs r=>Hb c _ r fun ws z=>by cases z
   rcases hc' with rfl|hc'
   ·exact z
   ·exact nd c _ hc' fun ws z=>by cases z
variable {o value:Expr}{ta tv:TE}{pos pos':Pos}
theorem Pz(ha:PE X o ta)(hv:PE X value tv)(hs:swapsWith value (some (.Attribute o f pos')) pos.line X.env=pure false):PS X (.Assign [.Attribute o f pos'] value pos) (KS X.K ta tv f):=by
 intro pins s σ H D I h;refine plainObj_wpAny_Assign_Attribute (cj (hv pins s σ H _ I h) fun u s1 ⟨y,H1,I1,ry,q⟩=>cj (ha pins s1 σ H1 _ I1 q) fun ov s2 ⟨x,H2,I2,rx,a,C,tr,ex,e,ht,q2⟩=>?_) hs;subst ex;obtain rfl:ov=Value.ref a:=rx;rcases q2 with ⟨ea,q2⟩|⟨d,fs,ea,ed,hl,q2⟩
 ·exact I2.BG ea e ht ry fun s3 d h1 h2 I3=>⟨σ,_,I3,q2 d h1 h2⟩
 ·exact I2.BH ea ed hl e ht ry fun s3 I3=>⟨σ,_,I3,q2⟩
end
end L2
namespace L2
open PySem PySem.Spec PyProof.Rows PySem.W
def lJ(K:Frag)(C:Addr)(bmB:List Value)(newId:String)(f:Addr):Bool:=match K.lookup C with
 |some ⟨.type "type",_,.cls cd,sl⟩=>(match cd.mro,sl.toList with
  |.ref C' :: bm,[_,_,_,_,some (.builtin n),_]=>C' == C && n == newId && !cd.hasDel && tailIn K bmB bm && nsOkIn K cd.ns && nsIn K cd.ns "__init__" == some (some (.ref f))
  |_,_=>false)
 |_=>false
theorem PB{K:Frag}{h:Heap}{N:Addr}{mN:Str->Option Value}{n:Str}{v:Value}(X:K.In h)(G:h.Ns N mN)(e:nsIn K N n=some (some v)):mN n=some v:=by
 obtain ⟨o,es,ep,ho,hd,_,hf⟩:=G;unfold nsIn at e;split at e
 ·next c d es' n' sl q =>
  have z:=X _ _ q;rw [ho] at z;cases z;cases hd;split at e
  ·next en he =>
   cases e;rw [<- hf];unfold nsFind findBy;rw [<- Array.find?_toList,he];rfl
  ·split at e<;>cases e
 ·cases e
theorem PD{K:Frag}{h:Heap}{C f:Addr}{bmB:List Value}{newId:String}(X:K.In h)(q:lJ K C bmB newId f=true):
  ∃bm N nm qn bs hdct sn sub ab col dd k0 k1 k2 k3 k5 mN,h.get? C=some (excClassObj nm qn C N bs bm hdct sn sub ab col dd k0 k1 k2 k3 k5 newId)/\h.Ns N mN/\mN "__init__" = some (.ref f)/\OwnTail h bmB bm:=by
 unfold lJ at q;split at q
 ·next dd cd sl ho =>
  split at q
  ·next C' bm k0 k1 k2 k3 n k5 hm hs =>
   simp only [VS,beq_iff_eq,Bool.not_eq_true'] at q;obtain ⟨⟨⟨⟨⟨e1,e2⟩,e3⟩,e4⟩,e5⟩,e6⟩:=q;subst e1 e2;obtain ⟨nm,bs,mro,ns,qn,hd,sn,sub,ab,col,del⟩:=cd;obtain ⟨l⟩:=sl;dsimp only at hm hs e3 e5 e6;subst hm e3 hs;have G:h.Ns ns (h.nsMap ns):=.of_isNs (isNs_of_in X e5);exact ⟨bm,ns,nm,qn,bs,hd,sn,sub,ab,col,dd,k0,k1,k2,k3,k5,_,X _ _ ho,G,PB X G e6,tail_of_in X e4⟩
  ·cases q
 ·cases q
section
variable {prog:Program}{w:World}{A:Around}{E:Value->Shared->Prop}{h:Heap}{g:Array GenState}{d:Drawn}{t:Nat}{os:OsState}
variable {nm q:Str}{C N:Addr}{bs bm bmB:List Value}{hdct:Bool}{sn:List Str}{sub:List Value}{ab:Bool}{col:Option Bool}{dd:Option Addr}{k0 k1 k2 k3 k5:Option Value}{B newId initId:String}
theorem PH(F:ExcBaseFacts B newId initId bmB)(T:OwnTail h bmB bm){mN:Str->Option Value}{rest:List Value}{f:Addr}{oI:Obj}{Q:PySem.Fin->Shared->Prop}
  (hC:h.get? C=some (excClassObj nm q C N bs bm hdct sn sub ab col dd k0 k1 k2 k3 k5 newId)) (hn:h.Ns N mN) (hi:mN "__init__" = some (.ref f)) (hf:h.get? f=some oI) (hfc:oI.cls=.type "function")
  (hq:∀h' e,Heap.MadeExcOf h h' e (.ref C) rest->wpAny (model prog w) A (call (.ref f) (.ref e :: rest)) (fun r s'=>r=.none/\Q (.done (.ret (.ref e))) s') E ⟨h',g,d,t,os⟩) (hrest:rest.length<=sizeLine) :
  wpAny (model prog w) A (Builtin.«type.__call__» ⟨.ref C :: rest,[]⟩) Q E ⟨h,g,d,t,os⟩:=by
 repeat (first|with_reducible refine wpAny_loadPart_at hC ?_|with_reducible refine wpAny_madeBy_exc hC ?_|wp_step)
 refine codeAny_call_builtin_code (Code.quiet_builtin _ F.quiet) (wpAny_check_new_subT F T hC (codeAny_exc_new_subT F T hC ?_ hrest));show wpAny _ _ _ _ _ _;generalize e1:({ cls:=.type "tuple",data:=.seq rest.toArray }:Obj)=o1;generalize e2:({ cls:=.ref C,data:=.fields #[.ref h.objs.size,.none,.none,.none,.bool false,.none] }:Obj)=o2;have f1:o1.isFreed=false:=by rw [<- e1];rfl
 have f2:o2.isFreed=false:=by rw [<- e2];rfl
 have kp:∀b o,h.get? b=some o->((h.push o1).push o2).get? b=some o:=fun b o z=>VH _ (VH _ z);have gE:((h.push o1).push o2).get? (h.objs.size+1)=some o2:=Heap.get?_push_at (by simp only [WM]) f2;have KW:((h.push o1).push o2).get? (h.objs.size+1)=some { cls:=.ref C,data:=.fields #[.ref h.objs.size,.none,.none,.none,.bool false,.none] }:=by rw [gE,<- e2]
 have cC:(Value.ref C :: bm).contains (.ref C)=true:=by simp
 have KY:=kp _ _ hC;have hn1:((h.push o1).push o2).Ns N mN:=hn.keeps kp;have T1:=T.keeps kp;unfold isInstance
 repeat (first|with_reducible refine wpAny_loadPart_at KW ?_|(with_reducible refine wpAny_isSubtype_exc KY ?_;rw [cC])|wp_step)
 show wpAny _ _ (typeLookup (.ref C) _) _ _ _;refine wpAny_typeLookup_tail KY hn1 T1 F.mroIs F.init.lookup ?_;rw [hi];refine wpAny_holding (wpAny_bind ?_);unfold bindSpecial;refine wpAny_bind (wpAny_typeOf (T:="function") ⟨_,kp _ _ hf,hfc⟩ ?_);rw [if_pos (by decide)];refine wpAny_pure (wpAny_bind (wpAny_mono (hq _ (h.objs.size+1) ⟨kp,Heap.get?_none_of_le (Nat.le_succ _),h.objs.size,KW,Heap.get?_none_of_le (VC _),?_⟩) (fun r s' hr=>?_) fun _ _ x=>x))
 ·rw [VH o2 (Heap.get?_push_at rfl f1),e1]
 ·obtain ⟨rfl,hQ⟩:=hr
  wp_walk
  exact hQ
theorem PJ(F:ExcBaseFacts B newId initId bmB)(T:OwnTail h bmB bm){mN:Str->Option Value}{rest:List Value}{f:Addr}{oI:Obj}{Q:Value->Shared->Prop}
  (hC:h.get? C=some (excClassObj nm q C N bs bm hdct sn sub ab col dd k0 k1 k2 k3 k5 newId)) (hn:h.Ns N mN) (hi:mN "__init__" = some (.ref f)) (hf:h.get? f=some oI) (hfc:oI.cls=.type "function")
  (hq:∀h' e,Heap.MadeExcOf h h' e (.ref C) rest->wpAny (model prog w) (A.under (.builtin "type.__call__" ⟨.ref C :: rest,[]⟩)) (call (.ref f) (.ref e :: rest)) (fun r s'=>r=.none/\Q (.ref e) s') E ⟨h',g,d,t,os⟩) (hrest:rest.length<=sizeLine) :
  wpAny (model prog w) A (call (.ref C) rest) Q E ⟨h,g,d,t,os⟩:=by
 have f1:=tc_lookup;have f2:=tc_bind (.ref C);have hT:(⟨h,g,d,t,os⟩:Shared).TypeIs (.ref C) "type" := ⟨_,hC,rfl⟩;refine wpAny_call (codeAny_of_tree ?_);show wpAny _ _ (callAny (.ref C) _) _ _ _
 repeat (any_goals (first|assumption|with_reducible refine wpAny_loadPart_at hC ?_|wp_step))
 refine ⟨rfl,?_⟩;exact codeAny_call_builtin_at (Code.quiet_builtin _ (by decide +kernel)) entry_typeCall (wpAny_check_type_call_sub hC (PH F T hC hn hi hf hfc (fun h' e hm=>hq h' e hm) hrest))
end
theorem KZ{M:Model}{A:Around}{E:Value->Shared->Prop}{env:Env}{s:Shared}{x:Sem Value}{K:Frag}{Q:Flow->Shared->Prop}(hh:A.handled=none)
  (h:wpAny M A x (fun v s1=>∃e C dx vs sl,v=.ref e/\K.In s1.heap/\s1.heap.get? e=some ⟨.ref C,dx,.fields vs,sl⟩/\vs[1]?=some .none/\mroIn K C (.type "BaseException")=some true/\typeIn K (.ref C)=some (.type "type")/\E (.ref e) s1) E s) :
  wpAny M A (raiseStmt env (some x) none) Q E s:=by
 unfold raiseStmt;refine wpAny_bind (wpAny_mono h (fun v s1 h1=>?_) fun _ _ z=>z);obtain ⟨e,C,dx,vs,sl,rfl,X,he,h1,hm,ht,hE⟩:=h1;obtain ⟨oC,lC,cC⟩:=V7.mp (show (K.lookup C).map (·.cls)=some (.type "type") from ht);have gC:=X _ _ lC;have LB:=looks_mroIn (M:=M) X hm;obtain ⟨hp,g,d,tk,os⟩:=s1
 repeat (first|with_reducible refine wpAny_loadPart_at he ?_|(with_reducible refine wpAny_loadPart_at gC ?_;rw [cC])|with_reducible refine LB.at ?_|with_reducible refine wpAny_field he rfl h1 ?_|wp_step)
 exact wpAny_raiseNew_none hh hE
structure K0(K:Frag)(mg:Str->Option Value)(x:Str)(C f:Addr)(bmB:List Value)(newId:String):Prop where
 m:mg x=some (.ref C)
 k:lJ K C bmB newId f=true
 fn:isFn K (.ref f)=true
 kp:keepIn K (.ref C)=true
def rT(C:Addr)(sp:Sp)(t:TA):TE:=fun σ H Q=>t σ H fun vs H1=>vs.length<=10/\∀a,H1 a=none->sp (.ref a :: vs) (upd H1 a (XO a C none none)) (fun v H2=>v=.non/\Q (.ref a) H2) E0
section
variable {X:Cx}{k:Nat}{f C:Addr}{fd:FuncData}{ps:List Str}{sp:Sp}{x:Str}{p pos:Pos}{e:Expr}{es:List Expr}{t:TA}{B newId initId:String}{bmB:List Value}
theorem PK{pins:List (Addr×Obj)}{σ:St}{H:Hp}{s:Shared}{Q:VK}{us:List Value}{vs:List V}(FB:ExcBaseFacts B newId initId bmB)(M:K0 X.K X.mg x C f bmB newId)(F:aH X.prog X.w X.K X.mg X.base bW k f fd ps sp)(hr:cS (k+1) X.A)(hb:Binds X.K fd ps [])
  (I:Inv X pins σ H s) (r:Vals vs us) (hl:vs.length<=10) (h:∀a,H a=none->sp (.ref a :: vs) (upd H a (XO a C none none)) (fun v H2=>v=.non/\Q (.ref a) H2) E0) :
  wpAny (model X.prog X.w) X.A (call (.ref C) us) (EP X pins σ Q) X.xe s:=by
 obtain ⟨bm,NN,nm,qn,bs,hdct,sn,sub,ab,col,dd,k0,k1,k2,k3,k5,mN,hC,hN,hni,T⟩:=PD I.mY M.k;obtain ⟨oI,lI,cI⟩:=V7.mp (show (X.K.lookup f).map (·.cls)=some (.type "function") from beq_iff_eq.mp M.fn);obtain ⟨hp,g,d,tk,os⟩:=s;refine PJ FB T hC hN hni (I.mY _ _ lI) cI (fun h' a hm=>?_) (by rw [<- r.length,sizeLine_eq];omega);obtain ⟨t0,ht,_,_⟩:=hm.there;have I2:=I.Ht (o:=XO a C none none) hm.keeps hm.new (XO.ok ⟨_,_,ht,rfl,rfl,rfl,rfl⟩);have hq:=h a (I.hok.none_of hm.new);have r2:Vals (V.ref a :: vs) (Value.ref a :: us):=.cons rfl r;have hl2:(Value.ref a :: us).length=ps.length:=by rw [<- r2.length];exact F.len _ _ _ _ hq
 have hbd:=hb _ (Value.ref a :: us) I2.mY (by rw [Wl];exact hl2);rw [Wl] at hbd;refine wpAny_call (codeAny_mono (F.run _ X.stack _ _ ⟨Value.ref a :: us,[]⟩ (Value.ref a :: us) _ _ E0 (hr.make C us []) (I2.tZ.make C us []) hbd r2 hq) fun r s' hq'=>?_);cases r with
 |error e=>exact hq'.elim
 |ok fl =>
  cases fl with
  |ret u =>
   obtain ⟨v,H',I3,rv,ev,q3⟩:=I2.after hq';subst ev;exact ⟨rv,V.ref a,H',I3,rfl,q3⟩
  |next=>exact False.elim hq'
  |brk=>exact False.elim hq'
  |cont=>exact False.elim hq'
theorem PL(FB:ExcBaseFacts B newId initId bmB)(M:K0 X.K X.mg x C f bmB newId)(F:aH X.prog X.w X.K X.mg X.base bW k f fd ps sp)(hr:cS (k+1) X.A)(hg:Gl X x)(hb:Binds X.K fd ps [])
  (ha:PA X (e :: es) t) (hdb:(x == ("__debug__" : Str))=false:=by decide) (he:starEach (e :: es) X.env=(false,eval e X.env) :: starEach es X.env:=by rfl) (hpl:(backTo pos (starEach es X.env)).any (·.1)=false:=by rfl) :
  PE X (.Call (.Name x p) (e :: es) [] pos) (rT C sp t):=by
 intro pins s σ H Q I h;refine wpAny_Call_Name_kw (zC I hg M.m ?_ hdb);refine callWith_K (h₀:=X.base) I.ok.mod.zB M.kp (cj (ha pos pins s σ H _ I h) fun us s1 ⟨vs,H1,I1,r,hl,q⟩=>⟨I1.mY,?_⟩) he hpl;exact PK FB M F hr hb I1 r hl q
end
def pV(K:Frag)(te:TE)(E:XK):TS:=fun _ σ H=>te σ H fun v H1=>∃a C dx,v=.ref a/\H1 a=some (XO a C dx none)/\mroIn K C (.type "BaseException")=some true/\typeIn K (.ref C)=some (.type "type")/\∀H2,XS a H1 H2->E (.ref a) none H2
section
variable {P:Program}{w:World}{K:Frag}{mg:Str->Option Value}{base:Heap}{N:List Str}{qual:Str}{scope:Scope}{f:Addr}{cd:Value}{A:Around}{outer:List Env}{s0:Shared}{H0:Hp}{E:XK}
theorem PN{ex:Expr}{te:TE}{pos:Pos}(he:PE (eV (qN P w) P w K mg base N qual scope f cd A outer s0 H0 E) ex te):
  PS (eV (qN P w) P w K mg base N qual scope f cd A outer s0 H0 E) (.Raise (some ex) none pos) (pV K te E):=by
 intro pins s σ H D I h;rw [arm_exec_Raise]
 first
  |refine wpAny_bind (wpAny_standAt (KZ (K:=K) (I.ok.hd rfl) (wpAny_bind (wpAny_mono (he pins s σ H _ I h) (fun v s3 h3=>wpAny_bind (wpAny_standAt (wpAny_pure ?_))) fun _ _ x=>x))))
  |(simp only [evalOpt,Option.map];refine wpAny_bind (wpAny_standAt (KZ (K:=K) (I.ok.hd rfl) (wpAny_bind (wpAny_mono (he pins s σ H _ I h) (fun v s3 h3=>wpAny_bind (wpAny_standAt (wpAny_pure ?_))) fun _ _ x=>x)))))
 obtain ⟨y,H1,I1,ry,a,C,dx,rfl,ea,hm,ht,q⟩:=h3;obtain rfl:v=Value.ref a:=ry;obtain ⟨oe,vs,g1,g2,g3,g4,g5⟩:=XO.of I1.hok ea;obtain ⟨c0,d0,KD,PQ⟩:=oe;dsimp only at g2 g3 g4;subst g2 g3 g4;exact ⟨a,C,d0,vs,PQ,rfl,I1.mY,g1,g5,hm,ht,leave I1 ⟨none,ea,fun T z=>by cases z⟩ q⟩
end
def Hx(K:Frag)(te:TE)(f:Str):TE:=fun σ H Q=>te σ H fun x H1=>∃a C d tr fs v,x=.ref a/\H1 a=some (XO a C (some d) tr)/\H1 d=some (.xd fs)/\fs.lookup f=some v/\ot K C/\findIn K (.ref C) f=some none/\Q v H1
section
variable {X:Cx}{e:Expr}{te:TE}{f:Str}{pos:Pos}
theorem PR(he:PE X e te)(hb:attributeBase e f X.env (eval e X.env)=eval e X.env):PE X (.Attribute e f pos) (Hx X.K te f):=by
 intro pins s σ H Q I h;refine NP hb (cj (he pins s σ H _ I h) fun u s1 ⟨x,H1,I1,rx,a,C,d,tr,fs,v,ex,ea,ed,l,ei,n,q⟩=>?_);subst ex;obtain rfl:u=Value.ref a:=rx;obtain ⟨ox,vs,hx,hc,hdx,hdt,_⟩:=XO.of I1.hok ea;obtain ⟨mA,hn,rf⟩:=(show bw X.prog X.w H1 s1.heap d (.xd fs) from I1.hok d _ ed);obtain ⟨w',hw,rw'⟩:=lA.some_of (v:=v) (o:=mA f) (by rw [<- l];exact rf f);obtain ⟨od,ho,hl⟩:=NL hn;have J:InstAt s1.heap a ox C (some od):=⟨hx,hc,by unfold notCls;rw [hdt],by rw [hdx];exact ho⟩;exact Pn I1.mY J ei (findObj_own ei.hd n rfl (by rw [hl,hw])) (handedOut_of (NM rw')) ⟨v,H1,I1.tok _,rw',q⟩
end
def rV(K:Frag)(f1:Str):Sp:=fun vs H Q _=>∃a C tr v1,vs=[.ref a,v1]/\H a=some (XO a C none tr)/\tw K C/\takerIn K C f1=some none/\∀d,H d=none->d≠a->Q .non (upd (upd H a (XO a C (some d) tr)) d (.xd [(f1,v1)]))
theorem PU{K:Frag}{f1:Str}{vs:List V}{H:Hp}{Q:VK}{E:XK}(h:rV K f1 vs H Q E):vs.length=2:=by obtain ⟨_,_,_,_,rfl,_⟩:=h;rfl
theorem PV{K:Frag}{f1 p0 p1:Str}{vs:List V}{H:Hp}{Q:VK}{E:XK}(h:rV K f1 vs H Q E):
  KS K (rh 0) (rh 1) f1 { nx:=fun _ H'=>Q .non H',rt:=Q } (start [p0,p1] vs) H:=by
 obtain ⟨a,C,tr,v1,rfl,ea,es,t1,q⟩:=h;exact ⟨v1,rfl,.ref a,rfl,a,C,tr,rfl,es,t1,.inl ⟨ea,fun d hd da=>q d hd da⟩⟩
theorem PX{K:Frag}{x qual:Str}{st:Stmt}{ps:List Str}{f:Addr}{oc:Value}{od an:Option Addr}{osl:Array (Option Value)}{kV doc pm cdv ct:Value}
  (hb:∀(kV doc pm:Value) (an:Option Addr) (cdv ct:Value) (us:List Value),us.length=ps.length->bindArgs (fnOf x qual (cX st) (cE st) (aq st) .none kV doc pm an cdv ct) ⟨us,[]⟩=pure (ps.zip us))
  (l:K.lookup f=some ⟨oc,od,.func (fnOf x qual (cX st) (cE st) (aq st) .none kV doc pm an cdv ct),osl⟩) (c:codeIn K cdv qual=true) (k:keepIn K (.ref f)=true):∃fd,vt K x qual st f fd/\Binds K fd ps [] :=
 ⟨_,J8 l c k,.all (hb kV doc pm an cdv ct)⟩
end L2
namespace L2
open PySem PySem.Spec PyProof.Rows
open Builtin
def P2(k:Nat):Nat:=2 ^ k
end L2
namespace L2
open PySem PySem.Spec PyProof.Rows PySem.W
end L2
namespace L2
open PySem PySem.Spec PyProof.Rows
section
variable {X:Cx}{K:Zfr}
def pW(K:Zfr):V->List V->Hp->VK->Prop:=fun x vs H Q=>∃(a:Addr) (ys:List V) (ds:List PyData) (y:V) (dy:PyData) (j:Nat),x=.ref a/\vs=[y]/\jC K H a ys/\eX K H ys ds/\Rep K H y dy/\(∀d∈ds,PyData.canLay0 d=true)/\PyData.canLay0 dy=true/\PyData.depth dy<=60 /\
 ds.length<=1000/\(∃d,ds[j]?=some d/\PyData.eqv d dy=true)/\(∀i d,i<j->ds[i]?=some d->PyData.eqv d dy=false)/\Q (.int (j:Int)) H
theorem K1(hu:X.A.units+64<cLine):vf X "list.index" (pW X.K):=by
 intro pins s σ H x xs v us Q I rx rv h;obtain ⟨a,ys,ds,y,dy,j,rfl,rfl,hq,hr,hy,c1,c2,c3,hl,hit,hno,q⟩:=h;cases rx;obtain ⟨u,rfl,ru⟩:=vals1 rv;obtain ⟨its,r,pl,hz⟩:=I.list hq;obtain ⟨⟨c,dd,dt,sl⟩,e,hc,n,hdt⟩:=pl.isList;cases (show c=.type "list" from hc);cases (show dt=.seq its.toArray n from hdt);have hlen:its.length=ds.length:=by rw [<- r.length];exact hr.uf
 obtain ⟨d0,hd0,PY⟩:=hit;have hjl:j<ds.length:=(VA.mp hd0).1;have rd:∀(i:Nat) (w:Value) (d:PyData),its[i]?=some w->ds[i]?=some d->∃as,Reads s.heap w d as:=fun i w d h1 h2=>by
  obtain ⟨z,hz',rz⟩:=r.Bx h1;obtain ⟨d',hd',rp⟩:=hr.get hz';rw [h2] at hd';cases hd';exact rp.reads I rz
 refine call_meets F.slot_list_index ⟨_,e,rfl⟩ F.entry_list_index (F.args_list_index_2 _ _) (PySem.SeqAt.list_indexAt a its.toArray n dd sl u (eD its ds dy) j (by simp;omega) (by omega) ?_ fun m hm PZ=>?_) ⟨e,fun z hz=>?_,⟨.int _,H,I.tok _,⟨_,rfl⟩,q⟩⟩
 ·unfold eD
  refine @decide_eq_true _ (Classical.propDecidable _) ⟨j,d0,?_,hd0,PY⟩;simp [show j<its.length by omega]
 ·unfold eD
  refine @decide_eq_false _ (Classical.propDecidable _) ?_;rintro ⟨i,d,h1,h2,h3⟩;have hm2:m<its.length:=by simpa using hm
  have P0:its[m]?=some (its.toArray[m]):=by simp [hm2]
  obtain ⟨dm,K2⟩:∃dm,ds[m]?=some dm:=⟨ds[m]'(by omega),VB _⟩;obtain ⟨as,ra⟩:=rd i _ d h1 h2;obtain ⟨bs,rb⟩:=rd m _ dm P0 K2;have ed:d=dm:=(Reads.unique ra _ _ rb).1;rw [ed,hno m dm PZ K2] at h3;cases h3
 ·exact Hm hu I r hr ru hy c1 c2 (by first|exact c3|(intro d hd;omega)) z (by simpa using hz)
end
end L2
namespace L2
open PySem PySem.Spec PySem.W PyProof.Rows
structure xA(K:Zfr)(x qual:Str)(st:Stmt)(f:Addr)(fd:FuncData):Prop where
 ex:∃(oc:Value) (od:Option Addr) (dV kV doc pm:Value) (an:Option Addr) (cdv ct:Value) (osl:Array (Option Value)),
  fd=PySem.W.fnOf x qual (cX st) (cE st) (aq st) dV kV doc pm an cdv ct/\K.lookup f=some ⟨oc,od,.func fd,osl⟩/\PySem.W.codeIn K cdv qual=true
 kp:PySem.W.keepIn K (.ref f)=true
theorem xA.P1{P:Program}{w:World}{K:Zfr}{mg:Str->Option Value}{base:Heap}{x qual:Str}{st:Stmt}{f:Addr}{fd:FuncData}{N ps:List Str}{k:Nat}{sp:Sp}(F:xA K x qual st f fd)(S:aE N ps (aq st))(len:∀vs H Q E,sp vs H Q E->vs.length=ps.length)
  (hbody:∀(cdv:Value) (A:Around) (outer:List Env) (s:Shared) (H:Hp) (vs:List V) (Q:VK) (E:XK),cS k (A.deeper (envOfC qual (aq st) s.heap.objs.size f cdv))->sp vs H Q E ->
   ∃t,oZ (eV (qN P w) P w K mg base N qual (aq st) f cdv A outer s H E) (cE st) t/\t { nx:=fun _ H'=>Q .non H',rt:=Q } (start N vs) H):aH P w K mg base (qN P w) (k+1) f fd ps sp:=by
 obtain ⟨oc,od,dV,kV,doc,pm,an,cdv,ct,osl,rfl,lk,hcd⟩:=F.ex;exact vd lk hcd S len fun A outer s H vs Q E hr qM=>hbody cdv A outer s H vs Q E hr qM
structure qy(K:Zfr)(mg:Str->Option Value)(x:Str)(st:Stmt)(ps:List Str)(jT:List V)(f:Addr)(fd:FuncData):Prop where
 F:xA K x x st f fd
 b:Binds K fd ps []
 bd:∃ds,Vals jT ds/\Binds K fd ps ds
 m:mg x=some (.ref f)
def rW(x:Str)(st:Stmt)(ps:List Str)(d m:Nat):Prop :=
 ∀(T:Addr) (kV doc pm:Value) (an:Option Addr) (cdv ct:Value) (us ds:List Value),us.length=m->ds.length=d ->
  ∃k:Option (Array Value)->Sem (List (Str×Value)),bindArgs (PySem.W.fnOf x x (cX st) (cE st) (aq st) (.ref T) kV doc pm an cdv ct) ⟨us,[]⟩=seqItems? (.ref T) >>= k/\k (some ds.toArray)=pure (ps.zip (us ++ ds.drop (m+d-ps.length)))
theorem P4{K:Zfr}{h:Heap}{mg:Str->Option Value}(X:K.In h)(G:h.Ns mainGlobals mg){x:Str}{st:Stmt}{ps:List Str}{jT:List V}{f T:Addr}{oc P5:Value}{od an od':Option Addr}{osl Hy:Array (Option Value)}{kV doc pm cdv ct:Value}{its:Array Value}{n d:Nat}
  (hl:d<=ps.length) (hb:rW x st ps d (ps.length-d)) (hb2:rW x st ps d ps.length)
  (a:PySem.W.nsIn K mainGlobals x=some (some (.ref f))) (l:K.lookup f=some ⟨oc,od,.func (PySem.W.fnOf x x (cX st) (cE st) (aq st) (.ref T) kV doc pm an cdv ct),osl⟩)
  (lT:K.lookup T=some ⟨P5,od',.seq its n,Hy⟩) (ei:its.toList.length=d) (hv:Vals jT its.toList)
  (c:PySem.W.codeIn K cdv x=true) (k:PySem.W.keepIn K (.ref f)=true):∃f fd,qy K mg x st ps jT f fd:=by
 have key:∀m (s:Shared) (us:List Value),rW x st ps d m->K.In s.heap->us.length=m->BindsTo s (PySem.W.fnOf x x (cX st) (cE st) (aq st) (.ref T) kV doc pm an cdv ct) ⟨us,[]⟩ (ps.zip (us ++ its.toList.drop (m+d-ps.length))):=fun m s us h KX hu=>by
  obtain ⟨kk,h1,h2⟩:=h T kV doc pm an cdv ct us its.toList hu ei;exact BindsTo.of_defaults rfl (KX _ _ lT) rfl h1 (by rw [Array.toArray_toList] at h2;exact h2)
 refine ⟨f,_,⟨⟨oc,od,.ref T,kV,doc,pm,an,cdv,ct,osl,rfl,l,c⟩,k⟩,fun s us KX hu=>?_,⟨its.toList,hv,fun s us KX hu=>?_⟩,PySem.W.mg_of X G a⟩
 ·rw [Wl] at hu ⊢
  have:=key ps.length s us hb2 KX hu;rw [show ps.length+d-ps.length=its.toList.length by omega,List.drop_length,Wl] at this;exact this
 ·rw [VE] at hu
  have:=key (ps.length-d) s us hb KX (by omega);rw [show ps.length-d+d-ps.length=0 by omega,List.drop_zero] at this;exact this
section
variable {X:Cx}{CX:pe}{k:Nat}{f:Addr}{fd:FuncData}{ps:List Str}{sp:Sp}{x:Str}{jT:List V}{E:XK}{e:Expr}{es:List Expr}{t:TA}{p pos:Pos}
theorem P6(F:aH X.prog X.w X.K X.mg X.base CX k f fd ps sp)(hr:cS k X.A)(hg:Gl X x)(hm:X.mg x=some (.ref f))(hk:PySem.W.keepIn X.K (.ref f)=true)(hb:∃ds,Vals jT ds/\Binds X.K fd ps ds)(hx:Passes CX X E)
  (ha:PA X (e :: es) t) (hdb:(x == ("__debug__" : Str))=false:=by decide) (he:starEach (e :: es) X.env=(false,eval e X.env) :: starEach es X.env:=by rfl) (hpl:(backTo pos (starEach es X.env)).any (·.1)=false:=by rfl) :
  PE X (.Call (.Name x p) (e :: es) [] pos) (oj sp jT E t):=by
 obtain ⟨ds,hd,hb⟩:=hb;exact JG F hr hg hm hk hb hd hx ha hdb he hpl
end
end L2
namespace L2
open PySem PySem.Spec PyProof.Rows
def pX(sp:Sp)(jT:List V)(W:St->Addr->Hp->Prop)(t:TA):TE:=fun σ H Q=>t σ H fun vs H1=>sp (vs ++ jT) H1 Q fun u _ H2=>∃a,u=.ref a/\W σ a H2
section
variable {X:Cx}{k:Nat}{f:Addr}{fd:FuncData}{ps:List Str}{sp:Sp}{x:Str}{p pos:Pos}{e:Expr}{es:List Expr}{t:TA}{pins:List (Addr×Obj)}{W:St->Addr->Hp->Prop}{jT:List V}
theorem P7(F:aH X.prog X.w X.K X.mg X.base (qN X.prog X.w) k f fd ps sp)(hr:cS k X.A)(hg:Gl X x)(hm:X.mg x=some (.ref f))(hk:PySem.W.keepIn X.K (.ref f)=true)(hb:∃ds,Vals jT ds/\Binds X.K fd ps ds)
  (ha:PA (X.tr pins W) (e :: es) t) (hdb:(x == ("__debug__" : Str))=false:=by decide) (he:starEach (e :: es) X.env=(false,eval e X.env) :: starEach es X.env:=by rfl) (hpl:(backTo pos (starEach es X.env)).any (·.1)=false:=by rfl) :
  PE (X.tr pins W) (.Call (.Name x p) (e :: es) [] pos) (pX sp jT W t):=by
 obtain ⟨ds,hd,hb⟩:=hb;intro jG s σ H Q I h;refine wpAny_Call_Name_kw (zC I hg hm ?_ hdb);refine PySem.W.callWith_K (h₀:=X.base) I.ok.mod.zB hk (cj (ha pos jG s σ H _ I h) fun us s1 ⟨vs,H1,I1,r,q⟩=>⟨I1.mY,?_⟩) he hpl;have r2:=r.append hd;have hl:(us ++ ds).length=ps.length:=by rw [<- r2.length];exact F.len _ _ _ _ q
 have hbd:=hb s1 us I1.mY hl;refine wpAny_call (codeAny_mono (F.run X.A X.stack s1 H1 ⟨us,[]⟩ (us ++ ds) (vs ++ jT) Q _ hr I1.tZ hbd r2 q) fun r s' hq=>?_);cases r with
 |error e =>
  obtain ⟨a,C,dx,H',rfl,os,bare,un,hok,x,hw⟩:=hq;refine ⟨σ,H',a,C,dx,rfl,(I1.rg os un hok bare fun b z=>absurd z (by simp)).kG,x,fun H2 y=>?_⟩;obtain ⟨a',ea,w⟩:=hw H2 y;cases ea;exact w
 |ok fl =>
  cases fl with
  |ret u=>exact I1.after hq
  |next=>exact False.elim hq
  |brk=>exact False.elim hq
  |cont=>exact False.elim hq
end
section
variable {X:Cx}{a b:Expr}{rest:List Expr}{pos:Pos}{ta tb:TE}
theorem P8{M:Model}{A:Around}{E:Value->Shared->Prop}{s:Shared}{Q:Bool->Shared->Prop}(h:Q false s):wpAny M A (truthy .none) Q E s:=fun _ _ _=>h
def BJ(ta tb:TE):TE:=fun σ H Q=>ta σ H fun x H1=>(x=.non/\tb σ H1 Q)\/∃k:Int,x=.int k/\if k=0 then tb σ H1 Q else Q (.int k) H1
theorem K3(ha:PE X a ta)(hb:PE X (.BoolOp .Or (b :: rest) pos) tb):PE X (.BoolOp .Or (a :: b :: rest) pos) (BJ ta tb):=by
 intro pins s σ H Q I h;refine BoolOp_or (cj (ha pins s σ H _ I h) fun v s1 ⟨x,H1,I1,r1,q1⟩=>?_);rcases q1 with ⟨rfl,q1⟩|⟨k,rfl,q1⟩
 ·cases r1
  refine P8 ?_;exact hb pins s1 σ H1 Q I1 q1
 ·obtain ⟨t,rfl⟩:=r1
  refine PySem.P.truthy_int ?_
  by_cases z:k=0
  ·rw [if_pos z] at q1
   rw [show (k != 0)=false by simp [z]];exact hb pins s1 σ H1 Q I1 q1
  ·rw [if_neg z] at q1
   rw [show (k != 0)=true by simp [z]];exact ⟨.int k,H1,I1,⟨t,rfl⟩,q1⟩
end
section
variable {X:Cx}{K:Zfr}{e:Expr}{te:TE}{f:Str}{pos:Pos}
theorem Hz(hK:X.K=K):eh X (.builtin "isinstance") (um K):=by subst hK;exact Pt
theorem P9(hK:X.K=K)(he:PE X e te)(hb:attributeBase e f X.env (eval e X.env)=eval e X.env):PE X (.Attribute e f pos) (Hx K te f):=by subst hK;exact PR he hb
end
end L2
namespace ae
def HA(n:Nat)(xs:List Int)(k:Nat):Bool :=
 match xs[k]? with
 |some x=>decide (0<=x) && decide (x<(n:Int)) && !((xs.take k).contains x)
 |none=>true
def due(xs:List Int):Bool:=decide (0<xs.length) && (List.range xs.length).all (HA xs.length xs)
def upto(n:Nat):List Int:=(List.range n).map fun (k:Nat)=>(k:Int)
theorem ow(n:Nat):(upto n).length=n:=by simp [upto]
theorem lb{n:Nat}{x:Int}:x∈upto n↔0<=x/\x<(n:Int):=by
 simp only [upto,VO,WL];constructor
 ·rintro ⟨k,hk,rfl⟩;omega
 ·rintro ⟨h1,h2⟩;exact ⟨x.toNat,by omega,by omega⟩
theorem Qa(n:Nat):(upto n).Pairwise (· < ·):=by
 unfold upto;rw [List.pairwise_map];exact (List.pairwise_lt_range).imp fun h=>by omega
theorem K4(n:Nat):(upto n).Nodup:=(Qa n).imp fun h=>by omega
theorem EH:∀{xs ys:List Int},xs.Nodup->(∀x∈xs,x∈ys)->ys.length<=xs.length->xs.Perm ys
 |[],ys,_,_,h=>by
  have:ys=[]:=List.eq_nil_of_length_eq_zero (by simpa using h);subst this;exact W8 _
 |x :: xs,ys,hn,hs,hl=>by
  obtain ⟨h1,h2⟩:=WN.mp hn;have hx:x∈ys:=hs x VN;have hp:=List.perm_cons_erase hx;have hlen:(ys.erase x).length+1=ys.length:=by have:=hp.length_eq;simpa using this.symm
  refine List.Perm.trans (List.Perm.cons x (EH (ys:=ys.erase x) h2 (fun y hy=>?_) ?_)) hp.symm
  ·have hne:y≠x:=fun e=>h1 (e ▸ hy)
   exact (List.mem_erase_of_ne hne).mpr (hs y (VL _ hy))
  ·simp at hl;omega
theorem HB{xs:List Int}(hn:xs.Nodup)(hb:∀x∈xs,0<=x/\x<(xs.length:Int)):xs.Perm (upto xs.length):=by
 exact EH hn (fun x hx=>lb.mpr (hb x hx)) (by rw [ow];exact VC _)
end ae
namespace ae
def app(xs:List Int)(i:Int):Int:=xs.getD i.toNat 0
def aZ(xs:List Int)(i:Int):Nat->Int
 |0=>i
 |j+1=>app xs (aZ xs i j)
def Tn(n:Nat)(xs:List Int):Prop:=xs.Perm (upto n)
theorem Tn.length{n:Nat}{xs:List Int}(h:Tn n xs):xs.length=n:=by rw [h.length_eq,ow]
theorem Tn.nodup{n:Nat}{xs:List Int}(h:Tn n xs):xs.Nodup:=h.nodup_iff.mpr (K4 n)
theorem Tn.bound{n:Nat}{xs:List Int}(h:Tn n xs){x:Int}(hx:x∈xs):0<=x/\x<(n:Int):=lb.mp (h.subset hx)
theorem oy{xs:List Int}{i:Int}(h0:0<=i)(h1:i<(xs.length:Int)):xs[i.toNat]?=some (app xs i):=by
 have:i.toNat<xs.length:=by omega
 unfold app;rw [VU,VB this];rfl
theorem Qb{xs:List Int}{i:Int}(h0:0<=i)(h1:i<(xs.length:Int)):app xs i∈xs:=VI (oy h0 h1)
theorem Tn.app{n:Nat}{xs:List Int}(h:Tn n xs){i:Int}(h0:0<=i)(h1:i<(n:Int)):0<=app xs i/\app xs i<(n:Int):=h.bound (Qb h0 (by rw [h.length];exact h1))
theorem Tn.inj{n:Nat}{xs:List Int}(h:Tn n xs){i j:Int}(i0:0<=i)(i1:i<(n:Int))(j0:0<=j)(j1:j<(n:Int))(e:ae.app xs i=ae.app xs j):i=j:=by
 have hl:=h.length;have a:=oy i0 (by rw [hl];exact i1);have b:=oy j0 (by rw [hl];exact j1);rw [e] at a;obtain ⟨ha,ea⟩:=VA.mp a;obtain ⟨hb,eb⟩:=VA.mp b;have:=(List.getElem_inj h.nodup).mp (ea.trans eb.symm);omega
theorem Tn.aZ{n:Nat}{xs:List Int}(h:Tn n xs){i:Int}(h0:0<=i)(h1:i<(n:Int)):∀j,0<=aZ xs i j/\aZ xs i j<(n:Int)
 |0=>⟨h0,h1⟩
 |j+1=>h.app (h.aZ h0 h1 j).1 (h.aZ h0 h1 j).2
theorem Tn.back{n:Nat}{xs:List Int}(h:Tn n xs){i:Int}(h0:0<=i)(h1:i<(n:Int)):∀(a d:Nat),ae.aZ xs i a=ae.aZ xs i (a+d)->ae.aZ xs i d=i
 |0,d,e=>by rw [Nat.zero_add] at e;exact e.symm
 |a+1,d,e=>by
  have e':ae.app xs (ae.aZ xs i a)=ae.app xs (ae.aZ xs i (a+d)):=by
   have:a+1+d=(a+d)+1:=by omega
   rw [this] at e;exact e
  exact h.back h0 h1 a d (h.inj (h.aZ h0 h1 a).1 (h.aZ h0 h1 a).2 (h.aZ h0 h1 _).1 (h.aZ h0 h1 _).2 e')
theorem zS:∀{xs ys:List Int},xs.Nodup->(∀x∈xs,x∈ys)->xs.length<=ys.length
 |[],_,_,_=>Wd _
 |x :: xs,ys,hn,hs=>by
  obtain ⟨h1,h2⟩:=WN.mp hn;have hx:x∈ys:=hs x VN;have hp:=List.perm_cons_erase hx;have hlen:(ys.erase x).length+1=ys.length:=by have:=hp.length_eq;simpa using this.symm
  have:=zS (ys:=ys.erase x) h2 fun y hy=>(List.mem_erase_of_ne (a:=y) (b:=x) (fun e=>h1 (by rw [<- e];exact hy))).mpr (hs y (VL _ hy));simp only [V6];omega
def row(xs:List Int)(i:Int)(m:Nat):List Int:=(List.range (m+1)).map (aZ xs i)
theorem K5(xs:List Int)(i:Int)(m:Nat):row xs i (m+1)=row xs i m ++ [aZ xs i (m+1)]:=by
 unfold row;rw [List.range_succ,VW];rfl
theorem tD(xs:List Int)(i:Int)(m:Nat):(row xs i m).length=m+1:=by simp [row]
theorem EI{xs:List Int}{i:Int}{m:Nat}{x:Int}:x∈row xs i m↔∃j,j<=m/\aZ xs i j=x:=by
 unfold row;rw [VO];constructor
 ·rintro ⟨j,hj,e⟩;exact ⟨j,by have:=WL.mp hj;omega,e⟩
 ·rintro ⟨j,hj,e⟩;exact ⟨j,WL.mpr (by omega),e⟩
def NB(xs:List Int)(i:Int)(m:Nat):Prop:=∀j,1<=j->j<=m->aZ xs i j≠i
theorem Tn.jV{n:Nat}{xs:List Int}(h:Tn n xs){i:Int}(h0:0<=i)(h1:i<(n:Int)){m:Nat}(nb:NB xs i m):m+1<=n:=by
 have hn:(row xs i m).Nodup:=by
  unfold row List.Nodup;rw [List.pairwise_map];refine List.Pairwise.imp_of_mem (R:=fun a b=>a<b) ?_ List.pairwise_lt_range;intro a b ha hb hab e;have ha':=WL.mp ha;have hb':=WL.mp hb;obtain ⟨d,rfl⟩:∃d,b=a+d:=⟨b-a,by omega⟩;exact nb d (by omega) (by omega) (h.back h0 h1 a d e)
 have:=zS hn (ys:=upto n) fun x hx=>by
  obtain ⟨j,_,rfl⟩:=EI.mp hx;exact lb.mpr (h.aZ h0 h1 j)
 rw [tD,ow] at this;exact this
structure gU(xs:List Int)(i:Int)(r:List Int):Prop where
 ex:∃m,r=row xs i m/\NB xs i m/\aZ xs i (m+1)=i
theorem gU.mem{xs:List Int}{i:Int}{r:List Int}(a:gU xs i r):i∈r:=by
 obtain ⟨m,e1,_,_⟩:=a.ex;rw [e1];exact EI.mpr ⟨0,Wd _,rfl⟩
theorem gU.len{n:Nat}{xs:List Int}(h:Tn n xs){i:Int}(h0:0<=i)(h1:i<(n:Int)){r:List Int}(a:gU xs i r):r.length<=n:=by
 obtain ⟨m,e1,nb,_⟩:=a.ex;rw [e1,tD];exact h.jV h0 h1 nb
theorem gU.bound{n:Nat}{xs:List Int}(h:Tn n xs){i:Int}(h0:0<=i)(h1:i<(n:Int)){r:List Int}(a:gU xs i r):∀x∈r,0<=x/\x<(n:Int):=by
 obtain ⟨m,e1,nb,_⟩:=a.ex;subst e1;intro x hx;obtain ⟨j,_,rfl⟩:=EI.mp hx;exact h.aZ h0 h1 j
def out(left r:List Int):List Int:=left.filter fun k=>!r.contains k
inductive vC(xs:List Int):List Int->List (List Int)->Prop
 |nil:vC xs [] []
 |cons {i:Int} {left r:List Int} {rs:List (List Int)}:gU xs i r->vC xs (out (i :: left) r) rs->vC xs (i :: left) (r :: rs)
def from'(n k:Nat)(seen:Int->Bool):List Int:=(((List.range n).drop k).map fun (j:Nat)=>(j:Int)).filter fun x=>!seen x
theorem Qc(n:Nat)(seen:Int->Bool):from' n n seen=[]:=by
 unfold from';rw [List.drop_of_length_le (by simp)];rfl
theorem Qd{n k:Nat}(h:k<n)(seen:Int->Bool):from' n k seen=if seen (k:Int) then from' n (k+1) seen else (k:Int) :: from' n (k+1) seen:=by
 unfold from';rw [WR (by simpa using h),V0,List.filter_cons];simp only [List.getElem_range];cases hs:seen (k:Int)<;>simp
theorem Qe{n k:Nat}{seen:Int->Bool}{r:List Int}:out (from' n k seen) r=from' n k (fun x=>seen x || r.contains x):=by
 unfold out from';rw [List.filter_filter]
 congr 1
 funext x
 show (!r.contains x && !seen x)=!(seen x || r.contains x);cases seen x<;>cases r.contains x<;>rfl
theorem Qf(n:Nat):from' n 0 (fun _=>false)=upto n:=by
 unfold from' upto;rw [List.drop_zero];simp
def pY(n:Nat):List Int:=((List.range (n-1)).map fun (k:Nat)=>(1:Int)+k) ++ [0]
theorem Qg:∀n,n<21->0<n->(pY n).isPerm (upto n)=true:=by decide
theorem K7{n:Nat}(h:n<21)(h0:0<n):Tn n (pY n):=List.isPerm_iff.mp (Qg n h h0)
end ae
namespace ae
theorem BK{n:Nat}{xs:List Int}(h:xs.length=n):(upto n).map (app xs)=xs:=by
 apply List.ext_getElem
 ·rw [Vz,ow,h]
 ·intro i h1 h2
  have e:=oy (xs:=xs) (i:=(i:Int)) (by omega) (by omega);simp only [VR] at e;rw [VB h2] at e;rw [List.getElem_map];unfold upto;simp only [List.getElem_map,List.getElem_range];exact (VJ e).symm
def inv(xs:List Int):List Int:=(upto xs.length).map fun i=>(xs.idxOf i:Int)
theorem EJ(xs:List Int):(inv xs).length=xs.length:=by unfold inv;rw [Vz,ow]
theorem BL{n i:Nat}(h:i<n):(upto n)[i]?=some (i:Int):=by
 unfold upto;rw [VP,List.getElem?_range h];rfl
theorem EK{xs:List Int}{i:Int}(h0:0<=i)(h1:i<(xs.length:Int)):app (inv xs) i=(xs.idxOf i:Int):=by
 have e:=oy (xs:=inv xs) h0 (by rw [EJ];exact h1);unfold inv at e;rw [VP,BL (by omega)] at e;have:=VJ e;rw [<- inv] at this;rw [<- this,V2 h0]
theorem Tn.mem{n:Nat}{xs:List Int}(h:Tn n xs){i:Int}(h0:0<=i)(h1:i<(n:Int)):i∈xs:=h.symm.subset (lb.mpr ⟨h0,h1⟩)
theorem Tn.idx{n:Nat}{xs:List Int}(h:Tn n xs){i:Int}(h0:0<=i)(h1:i<(n:Int)):xs.idxOf i<n:=by rw [<- h.length];exact List.idxOf_lt_length_of_mem (h.mem h0 h1)
theorem Tn.cF{n:Nat}{xs:List Int}(h:Tn n xs){i:Int}(h0:0<=i)(h1:i<(n:Int)):ae.app xs (ae.app (inv xs) i)=i:=by
 rw [EK h0 (by rw [h.length];exact h1)];have hl:=h.idx h0 h1;have e:=oy (xs:=xs) (i:=(xs.idxOf i:Int)) (by omega) (by rw [h.length];omega);rw [VR,VB (by rw [h.length];exact hl)] at e;rw [<- VJ e];exact List.getElem_idxOf _
theorem Tn.kT{n:Nat}{xs:List Int}(h:Tn n xs){i:Int}(h0:0<=i)(h1:i<(n:Int)):0<=ae.app (inv xs) i/\ae.app (inv xs) i<(n:Int):=by
 rw [EK h0 (by rw [h.length];exact h1)];have:=h.idx h0 h1;omega
theorem Tn.gA{n:Nat}{xs:List Int}(h:Tn n xs){i:Int}(h0:0<=i)(h1:i<(n:Int)):ae.app (inv xs) (ae.app xs i)=i:=by
 obtain ⟨a0,a1⟩:=h.app h0 h1;obtain ⟨b0,b1⟩:=h.kT a0 a1;exact h.inj b0 b1 h0 h1 (h.cF a0 a1)
theorem Tn.av{n:Nat}{xs:List Int}(h:Tn n xs):Tn n (inv xs):=by
 have hl:=h.length;unfold Tn;have e:(inv xs).length=n:=by rw [EJ,hl]
 have:=HB (xs:=inv xs) ?_ ?_
 ·rw [e] at this;exact this
 ·unfold List.Nodup
  rw [WS];intro i j hi hj hij z;have a:=oy (xs:=inv xs) (i:=(i:Int)) (by omega) (by omega);have b:=oy (xs:=inv xs) (i:=(j:Int)) (by omega) (by omega);rw [VR,VB hi] at a;rw [VR,VB hj] at b;have a:=VJ a;have b:=VJ b;have c:=h.cF (i:=(i:Int)) (by omega) (by omega);have d:=h.cF (i:=(j:Int)) (by omega) (by omega);rw [<- a] at c;rw [<- b,<- z] at d;have:=c.symm.trans d;omega
 ·intro x hx
  unfold inv at hx;obtain ⟨i,hi,rfl⟩:=VO.mp hx;have:=lb.mp hi;rw [hl] at this;have:=h.idx this.1 this.2;rw [e];omega
theorem tG(xs:List Int)(i:Int)(j:Nat):∀d,aZ xs (aZ xs i j) d=aZ xs i (j+d)
 |0=>rfl
 |d+1=>by show app xs (aZ xs (aZ xs i j) d)=app xs (aZ xs i (j+d));rw [tG xs i j d]
theorem K8{xs:List Int}{i:Int}{L:Nat}(h:aZ xs i L=i)(a:Nat):aZ xs i (a+L)=aZ xs i a:=by
 rw [Nat.add_comm,<- tG xs i L a,h]
theorem BM{xs:List Int}{i:Int}{L:Nat}(h:aZ xs i L=i):∀(q r:Nat),aZ xs i (r+L*q)=aZ xs i r
 |0,r=>rfl
 |q+1,r=>by rw [Nat.mul_succ,<- Nat.add_assoc,K8 h];exact BM h q r
theorem K9{xs:List Int}{i:Int}{L:Nat}(h:aZ xs i L=i)(a:Nat):aZ xs i (a % L)=aZ xs i a:=by
 have:=BM h (a / L) (a % L);rw [Nat.mod_add_div] at this;exact this.symm
def La(xs:List Int)(k i v:Int):Prop:=∃m,NB xs i m/\aZ xs i (m+1)=i/\v=aZ xs i (k % ((m+1:Nat):Int)).toNat
theorem Tn.xB{n:Nat}{xs:List Int}(h:Tn n xs){i:Int}(h0:0<=i)(h1:i<(n:Int)){m:Nat}(nb:NB xs i m)(bk:ae.aZ xs i (m+1)=i)(j:Nat)(k:Int):
  La xs k (ae.aZ xs i j) (ae.aZ xs i (((j:Int)+k) % ((m+1:Nat):Int)).toNat):=by
 refine ⟨m,fun d d1 d2 e=>?_,?_,?_⟩
 ·rw [tG] at e
  exact nb d d1 d2 (h.back h0 h1 j d e.symm)
 ·rw [tG,K8 bk]
 ·rw [tG]
  rw [<- K9 bk (j+(k % ((m+1:Nat):Int)).toNat)]
  congr 1
  have hL:(0:Int)<((m+1:Nat):Int):=by omega
  have k0:=WB k (Int.ne_of_gt hL);have e:(((j+(k % ((m+1:Nat):Int)).toNat) % (m+1):Nat):Int)=((j:Int)+k) % ((m+1:Nat):Int):=by
   rw [Int.natCast_emod,Int.natCast_add,V2 k0,Int.add_emod_emod]
  rw [<- e,VR]
theorem vC.all{xs:List Int}:∀{left:List Int} {rs:List (List Int)},vC xs left rs->(∀r∈rs,∃i∈left,gU xs i r)/\∀x∈left,∃r∈rs,x∈r:=by
 intro left rs a
 induction a with
 |nil=>exact ⟨fun r hr=>(nomatch hr),fun x hx=>(nomatch hx)⟩
 |cons h1 _ ih =>
  refine ⟨fun r hr=>?_,fun x hx=>?_⟩
  ·rcases VZ.mp hr with rfl|hr
   ·exact ⟨_,VN,h1⟩
   ·obtain ⟨i,hi,r'⟩:=ih.1 r hr
    exact ⟨i,(List.mem_filter.mp hi).1,r'⟩
  ·rename_i i left r rs _
   by_cases hc:x∈r
   ·exact ⟨r,VN,hc⟩
   ·obtain ⟨r',hr',hx'⟩:=ih.2 x (List.mem_filter.mpr ⟨hx,by simp [hc]⟩)
    exact ⟨r',VL _ hr',hx'⟩
theorem Qh{n:Nat}{xs:List Int}(h:Tn n xs):xs.map (app (inv xs))=upto n:=by
 have e:((upto n).map (app xs)).map (app (inv xs))=upto n:=by
  rw [V8]
  conv=>rhs;rw [<- Xe (upto n)]
  apply Wg;intro x hx;obtain ⟨a,b⟩:=lb.mp hx;exact h.gA a b
 rw [BK h.length] at e;exact e
theorem Qi{n:Nat}{xs:List Int}(h:Tn n xs):(inv xs).map (app xs)=upto n:=by
 have e:((upto n).map (app (inv xs))).map (app xs)=upto n:=by
  rw [V8]
  conv=>rhs;rw [<- Xe (upto n)]
  apply Wg;intro x hx;obtain ⟨a,b⟩:=lb.mp hx;exact h.cF a b
 rw [BK (h.av).length] at e;exact e
end ae
namespace ae
inductive iS(xs ys:List Int):Int->Prop
 |zero:iS xs ys 0
 |r {x:Int}:iS xs ys x->iS xs ys (app xs x)
 |u {x:Int}:iS xs ys x->iS xs ys (app ys x)
theorem iS.bound{n:Nat}{xs ys:List Int}(hx:Tn n xs)(hy:Tn n ys)(h0:0<n){x:Int}(h:iS xs ys x):0<=x/\x<(n:Int):=by
 induction h with
 |zero=>omega
 |r _ ih=>exact hx.app ih.1 ih.2
 |u _ ih=>exact hy.app ih.1 ih.2
theorem iS.aZ{xs ys:List Int}{x:Int}(h:iS xs ys x):∀k,iS xs ys (ae.aZ xs x k)
 |0=>h
 |k+1=>.r (h.aZ k)
def md(xs:List Int)(m:Nat):List Int:=(xs.set 0 (app xs m)).set m (app xs 0)
theorem Qj(xs:List Int)(m:Nat):(md xs m).length=xs.length:=by simp [md]
theorem HC{xs:List Int}{m:Nat}{v x:Int}(hm:m<xs.length)(h0:0<=x):app (xs.set m v) x=if x=(m:Int) then v else app xs x:=by
 unfold app;rw [VU,VU]
 by_cases hx:x=(m:Int)
 ·rw [if_pos hx,hx,VR,VG hm];rfl
 ·rw [if_neg hx,VF (by omega)]
theorem zT{xs:List Int}{m:Nat}(hm:m<xs.length){x:Int}(h0:0<=x):app (md xs m) x=if x=(m:Int) then app xs 0 else if x=0 then app xs m else app xs x:=by
 unfold md;rw [HC (by simpa using hm) h0,HC (by omega) h0];rfl
theorem xC{n:Nat}{xs:List Int}(h:Tn n xs){m:Nat}(hm:m<n):Tn n (md xs m):=by
 have hl:=h.length;have e:(md xs m).length=n:=by rw [Qj,hl]
 have:=HB (xs:=md xs m) ?_ ?_
 ·unfold Tn;rw [e] at this;exact this
 ·unfold List.Nodup
  rw [WS];intro i j hi hj hij z;have a:=oy (xs:=md xs m) (i:=(i:Int)) (by omega) (by omega);have b:=oy (xs:=md xs m) (i:=(j:Int)) (by omega) (by omega);rw [VR,VB hi] at a;rw [VR,VB hj] at b;have a:=VJ a;have b:=VJ b;rw [zT (by omega) (by omega)] at a b;rw [a,b] at z;have inj:∀p q:Int,0<=p->p<(n:Int)->0<=q->q<(n:Int)->app xs p=app xs q->p=q:=fun p q p0 p1 q0 q1=>h.inj p0 p1 q0 q1;split at z<;>split at z<;>(try split at z)<;>(try split at z)<;>(first|omega|(have:=inj _ _ (by omega) (by omega) (by omega) (by omega) z;omega))
 ·intro x hx
  obtain ⟨i,hi,rfl⟩:=WK hx;have a:=oy (xs:=md xs m) (i:=(i:Int)) (by omega) (by omega);rw [VR,VB hi] at a;rw [VJ a,zT (by omega) (by omega),e];split
  ·exact h.app (by omega) (by omega)
  ·split
   ·exact h.app (by omega) (by omega)
   ·exact h.app (by omega) (by omega)
theorem Tn.uo{n:Nat}{xs:List Int}(h:Tn n xs){i:Int}(h0:0<=i)(h1:i<(n:Int)):∃m,NB xs i m/\ae.aZ xs i (m+1)=i:=by
 by_cases hb:∃m,m<n/\ae.aZ xs i (m+1)=i
 ·-- the least
  have key:∀b:Nat,(∃m,m<b/\ae.aZ xs i (m+1)=i)->∃m,NB xs i m/\ae.aZ xs i (m+1)=i:=by
   intro b
   induction b with
   |zero=>rintro ⟨m,hm,_⟩;omega
   |succ b ih =>
    rintro ⟨m,hm,e⟩
    by_cases hc:∃m,m<b/\ae.aZ xs i (m+1)=i
    ·exact ih hc
    ·refine ⟨m,fun j j1 j2 z=>hc ⟨j-1,by omega,?_⟩,e⟩
     have:j-1+1=j:=by omega
     rw [this];exact z
  exact key n hb
 ·have nb:NB xs i n:=fun j j1 j2 z=>by
   refine hb ⟨j-1,by omega,?_⟩;have:j-1+1=j:=by omega
   rw [this];exact z
  have:=h.jV h0 h1 nb;omega
theorem Qk{n:Nat}{xs ys:List Int}(hx:Tn n xs)(hy:Tn n ys){m:Nat}(hm:m<n)(nm:¬iS xs ys (m:Int)):iS (md xs m) ys (m:Int)/\∀x,iS xs ys x->iS (md xs m) ys x:=by
 have hl:=hx.length;have m0:m≠0:=fun z=>nm (by rw [z];exact .zero);obtain ⟨M,nb,bk⟩:=hx.uo (i:=(m:Int)) (by omega) (by omega);have Ql:∀j,ae.aZ xs (m:Int) j≠0:=by
  intro j z;have h':iS xs ys (ae.aZ xs (ae.aZ xs (m:Int) j) ((M+1)*j)):=by rw [z];exact iS.zero.aZ _
  rw [tG] at h';have e2:ae.aZ xs (m:Int) ((M+1)*(j+1))=(m:Int):=by
   have:=BM bk (j+1) 0;rw [Nat.zero_add] at this;exact this
  have h3:=h'.aZ ((M+1)*(j+1)-(j+(M+1)*j));rw [tG] at h3;have e3:j+(M+1)*j+((M+1)*(j+1)-(j+(M+1)*j))=if j+(M+1)*j<=(M+1)*(j+1) then (M+1)*(j+1) else j+(M+1)*j:=by split<;>omega
  rw [e3] at h3
  by_cases hc:j+(M+1)*j<=(M+1)*(j+1)
  ·rw [if_pos hc,e2] at h3
   exact nm h3
  ·-- round as often as needed
   have h4:=h'.aZ ((M+1)*(2*j+2)-(j+(M+1)*j));rw [tG] at h4;have hbig:j+(M+1)*j<=(M+1)*(2*j+2):=by
    have a1:(M+1)*(2*j+2)=(M+1)*j+((M+1)*j+(M+1)*2):=by rw [<- Nat.mul_add,<- Nat.mul_add];congr 1;omega
    have a2:j<=(M+1)*j:=Nat.le_mul_of_pos_left j (by omega);omega
   have e5:j+(M+1)*j+((M+1)*(2*j+2)-(j+(M+1)*j))=(M+1)*(2*j+2):=by omega
   rw [e5] at h4;have:=BM bk (2*j+2) 0;rw [Nat.zero_add] at this;rw [this] at h4;exact nm h4
 have ring:∀j,j<=M->iS (md xs m) ys (ae.aZ xs (m:Int) (j+1)):=by
  intro j
  induction j with
  |zero =>
   intro _;have h1:iS (md xs m) ys (ae.app (md xs m) 0):=.r .zero;rw [zT (by omega) (by omega),if_neg (by omega),if_pos rfl] at h1;exact h1
  |succ j ih =>
   intro hj;have h1:=(ih (by omega)).r;have b:=hx.aZ (i:=(m:Int)) (by omega) (by omega) (j+1);rw [zT (by omega) b.1,if_neg (nb (j+1) (by omega) (by omega)),if_neg (Ql (j+1))] at h1;exact h1
 have Lb:iS (md xs m) ys (m:Int):=by have:=ring M (VC _);rwa [bk] at this
 refine ⟨Lb,fun x h=>?_⟩;have hpos:0<n:=by omega
 induction h with
 |zero=>exact .zero
 |r hx' ih =>
  rename_i x
  have b:=hx'.bound hx hy hpos
  by_cases h0:x=0
  ·have h1:=Lb.r
   rw [zT (by omega) (by omega),if_pos rfl] at h1;rw [h0];exact h1
  ·have Qm:x≠(m:Int):=fun z=>nm (by rw [<- z];exact hx')
   have h1:=ih.r;rw [zT (by omega) b.1,if_neg Qm,if_neg h0] at h1;exact h1
 |u _ ih=>exact ih.u
def Cl(xs ys F:List Int):Prop:=∀x∈F,app xs x∈F/\app ys x∈F
theorem Cl.all{xs ys F:List Int}(h:Cl xs ys F)(h0:(0:Int)∈F){x:Int}(r:iS xs ys x):x∈F:=by
 induction r with
 |zero=>exact h0
 |r _ ih=>exact (h _ ih).1
 |u _ ih=>exact (h _ ih).2
structure Fd(xs ys:List Int)(F:List Int):Prop where
 z:(0:Int)∈F
 nd:F.Nodup
 mt:∀x∈F,iS xs ys x
theorem Fd.len{n:Nat}{xs ys F:List Int}(h:Fd xs ys F)(hx:Tn n xs)(hy:Tn n ys)(h0:0<n):F.length<=n:=by
 have:=zS h.nd (ys:=upto n) fun x hx'=>lb.mpr ((h.mt x hx').bound hx hy h0);rw [ow] at this;exact this
theorem Fd.one(xs ys:List Int):Fd xs ys [0]:=⟨by simp,by simp,fun x hx=>(show x=0 by simpa using hx) ▸ .zero⟩
theorem round{xs ys F F1 F2:List Int}(d:Fd xs ys F)(d2:Fd xs ys F2)(p1:F <+: F1)(p2:F1 <+: F2)(c1:∀x∈F,app xs x∈F1)(c2:∀x∈F1,app ys x∈F2){t:Nat}(h:Cl xs ys F\/t+1<=F.length):Cl xs ys F2\/t+1+1<=F2.length:=by
 have p:=p1.trans p2
 by_cases hc:Cl xs ys F
 ·refine .inl fun x hx=>?_
  have hF:=hc.all d.z (d2.mt x hx);exact ⟨p.subset (hc x hF).1,p.subset (hc x hF).2⟩
 ·have hl:=h.resolve_left hc
  by_cases he:F2.length<=F.length
  ·refine absurd ?_ hc
   have e2:F2=F:=(p.eq_of_length (by have:=p.length_le;omega)).symm;have e1:F1=F:=by
    have a:=p1.length_le;have b:=p2.length_le;exact (p1.eq_of_length (by omega)).symm
   intro x hx;refine ⟨?_,?_⟩
   ·have:=c1 x hx;rwa [e1] at this
   ·have:=c2 x (by rw [e1];exact hx);rwa [e2] at this
  ·exact .inr (by omega)
def rX(w n:Nat):List Int:=((List.range (w-1)).map fun (k:Nat)=>(1:Int)+k) ++ [0] ++ ((List.range (n-w)).map fun (k:Nat)=>(w:Int)+k)
def uq(w n:Nat):List Int:=[(w:Int)] ++ ((List.range (w-1)).map fun (k:Nat)=>(1:Int)+k) ++ ((List.range (n-(w+1))).map fun (k:Nat)=>((w:Int)+1)+k) ++ [0]
theorem Qn:∀n,n<21->∀w,w<n+1->0<w->(rX w n).isPerm (upto n)=true:=by decide +kernel
theorem Qo:∀n,n<21->∀w,w<n->0<w->(uq w n).isPerm (upto n)=true:=by decide +kernel
theorem Qp{w n:Nat}(h:n<21)(h1:w<=n)(h0:0<w):Tn n (rX w n):=List.isPerm_iff.mp (Qn n h w (by omega) h0)
theorem Qq{w n:Nat}(h:n<21)(h1:w<n)(h0:0<w):Tn n (uq w n):=List.isPerm_iff.mp (Qo n h w h1 h0)
theorem less{L L':List Int}{m:Int}(nd:L'.Nodup)(hs:∀x∈L',x∈L)(hm:m∈L)(hm':m ∉ L'):L'.length<L.length:=by
 have hp:=List.perm_cons_erase hm;have hlen:(L.erase m).length+1=L.length:=by have:=hp.length_eq;simpa using this.symm
 have:=zS (ys:=L.erase m) nd fun x hx=>(List.mem_erase_of_ne (fun e=>hm' (by rw [<- e];exact hx))).mpr (hs x hx);omega
end ae
namespace ae
def aQ(xs ys:List Int):List Int:=xs.map (app ys)
theorem BN(xs ys:List Int):(aQ xs ys).length=xs.length:=by simp [aQ]
theorem pZ{n:Nat}{xs ys:List Int}(hx:xs.length=n)(hy:ys.length=n)(h:∀s:Int,0<=s->s<(n:Int)->app xs s=app ys s):xs=ys:=by
 rw [<- BK hx,<- BK hy];apply Wg;intro s hs;obtain ⟨h0,h1⟩:=lb.mp hs;exact h s h0 h1
theorem oz{xs ys:List Int}{s:Int}(h0:0<=s)(h1:s<(xs.length:Int)):app (aQ xs ys) s=app ys (app xs s):=by
 have e:=oy (xs:=aQ xs ys) h0 (by rw [BN];exact h1);unfold aQ at e;rw [VP,oy h0 h1] at e;exact (VJ e).symm
theorem Tn.rY{n:Nat}{xs:List Int}(hl:xs.length=n)(hb:∀s:Int,0<=s->s<(n:Int)->0<=ae.app xs s/\ae.app xs s<(n:Int))(hi:∀s t:Int,0<=s->s<(n:Int)->0<=t->t<(n:Int)->ae.app xs s=ae.app xs t->s=t):Tn n xs:=by
 have el:∀(i:Nat) (h:i<xs.length),xs[i]=ae.app xs (i:Int):=fun i h=>by
  have a:=oy (xs:=xs) (i:=(i:Int)) (by omega) (by omega);rw [VR,VB h] at a;exact VJ a
 have:=HB (xs:=xs) ?_ ?_
 ·unfold Tn;rw [hl] at this;exact this
 ·unfold List.Nodup
  rw [WS];intro i j h1 h2 hij z;rw [el i h1,el j h2] at z;have:=hi i j (by omega) (by omega) (by omega) (by omega) z;omega
 ·intro x hx
  obtain ⟨i,h,rfl⟩:=WK hx;rw [el i h,hl];exact hb i (by omega) (by omega)
theorem Tn.aQ{n:Nat}{xs ys:List Int}(hx:Tn n xs)(hy:Tn n ys):Tn n (aQ xs ys):=by
 have hl:=hx.length;refine Tn.rY (by rw [BN];exact hl) (fun s h0 h1=>?_) fun s t s0 s1 t0 t1 e=>?_
 ·rw [oz h0 (by omega)]
  obtain ⟨a,b⟩:=hx.app h0 h1;exact hy.app a b
 ·rw [oz s0 (by omega),oz t0 (by omega)] at e
  obtain ⟨a,b⟩:=hx.app s0 s1;obtain ⟨c,d⟩:=hx.app t0 t1;exact hx.inj s0 s1 t0 t1 (hy.inj a b c d e)
theorem Tn.ur{n:Nat}{xs ys:List Int}(hx:Tn n xs)(hy:Tn n ys){s:Int}(h0:0<=s)(h1:s<(n:Int)):ae.app (inv (ae.aQ xs ys)) s=ae.app (inv xs) (ae.app (inv ys) s):=by
 have hf:=hx.aQ hy;obtain ⟨a0,a1⟩:=hy.kT h0 h1;obtain ⟨b0,b1⟩:=hx.kT a0 a1;obtain ⟨c0,c1⟩:=hf.kT h0 h1;refine hf.inj c0 c1 b0 b1 ?_;rw [hf.cF h0 h1,oz b0 (by rw [hx.length];exact b1),hx.cF a0 a1,hy.cF h0 h1]
def anew(xs p:List Int):List Int:=aQ (aQ (inv p) xs) p
theorem Tn.anew{n:Nat}{xs p:List Int}(hx:Tn n xs)(hp:Tn n p):Tn n (anew xs p):=(hp.av.aQ hx).aQ hp
theorem Tn.gB{n:Nat}{xs p:List Int}(hx:Tn n xs)(hp:Tn n p){s:Int}(h0:0<=s)(h1:s<(n:Int)):ae.app (ae.anew xs p) s=ae.app p (ae.app xs (ae.app (inv p) s)):=by
 have hl:=hp.av.length;unfold ae.anew;rw [oz h0 (by rw [BN,hl];exact h1),oz h0 (by rw [hl];exact h1)]
theorem Tn.kg{n:Nat}{xs p:List Int}(hx:Tn n xs)(hp:Tn n p){s:Int}(h0:0<=s)(h1:s<(n:Int)):ae.app (ae.anew xs p) (ae.app p s)=ae.app p (ae.app xs s):=by
 obtain ⟨a,b⟩:=hp.app h0 h1;rw [hx.gB hp a b,hp.gA h0 h1]
theorem Tn.mH{n:Nat}{xs p q:List Int}(hx:Tn n xs)(hp:Tn n p)(hq:Tn n q):ae.anew (ae.anew xs p) q=ae.anew xs (ae.aQ p q):=by
 have hf:=hp.aQ hq;refine pZ (n:=n) ((hx.anew hp).anew hq).length (hx.anew hf).length fun s h0 h1=>?_;obtain ⟨a0,a1⟩:=hq.kT h0 h1;obtain ⟨b0,b1⟩:=hp.kT a0 a1;obtain ⟨c0,c1⟩:=hx.app b0 b1;rw [(hx.anew hp).gB hq h0 h1,hx.gB hp a0 a1,hx.gB hf h0 h1,hp.ur hq h0 h1,oz c0 (by rw [hp.length];exact c1)]
theorem Tn.mI{n:Nat}{xs p:List Int}(hx:Tn n xs)(hp:Tn n p):ae.anew (ae.anew xs p) (inv p)=xs:=by
 refine pZ (n:=n) ((hx.anew hp).anew hp.av).length hx.length fun s h0 h1=>?_;obtain ⟨a0,a1⟩:=hp.av.kT h0 h1;have e:ae.app (inv (inv p)) s=ae.app p s:=by
  obtain ⟨b0,b1⟩:=hp.app h0 h1;refine hp.av.inj a0 a1 b0 b1 ?_;rw [hp.av.cF h0 h1,hp.gA h0 h1]
 obtain ⟨b0,b1⟩:=hp.app h0 h1;obtain ⟨c0,c1⟩:=hx.app h0 h1;rw [(hx.anew hp).gB hp.av h0 h1,e,hx.kg hp h0 h1,hp.gA c0 c1]
end ae
namespace ae
def cz(F:List Int)(x:Int):List Int:=if x∈F then F else F ++ [x]
theorem vD(F:List Int)(x:Int):F <+: cz F x:=by
 unfold cz;split
 ·exact Xb _
 ·exact List.prefix_append _ _
theorem p7{F:List Int}{x y:Int}:y∈cz F x↔y∈F\/y=x:=by
 unfold cz;split
 ·next h=>exact ⟨.inl,fun z=>z.elim id fun e=>e ▸ h⟩
 ·rw [V9,VY]
theorem Lc{F:List Int}{x:Int}(h:F.Nodup):(cz F x).Nodup:=by
 unfold cz;split
 ·exact h
 ·next hx =>
  rw [List.nodup_append];exact ⟨h,by simp,fun a ha b hb e=>hx (by rw [VY] at hb;rw [<- hb,<- e];exact ha)⟩
def visit(xs ys F:List Int)(x:Int):List Int:=cz (cz F (app xs x)) (app ys x)
def bf(xs ys:List Int)(s:Int):Nat->List Int
 |0=>[s]
 |k+1=>match (bf xs ys s k)[k]? with
  |some x=>visit xs ys (bf xs ys s k) x
  |none=>bf xs ys s k
theorem Qr(xs ys:List Int)(s:Int)(k:Nat):bf xs ys s k <+: bf xs ys s (k+1):=by
 show _ <+: (match (bf xs ys s k)[k]? with|some x=>visit xs ys (bf xs ys s k) x|none=>bf xs ys s k);split
 ·exact (vD _ _).trans (vD _ _)
 ·exact Xb _
theorem zU(xs ys:List Int)(s:Int)(k:Nat):∀d,bf xs ys s k <+: bf xs ys s (k+d)
 |0=>Xb _
 |d+1=>(zU xs ys s k d).trans (Qr xs ys s (k+d))
theorem xD(xs ys:List Int)(s:Int):∀k,(bf xs ys s k).Nodup
 |0=>by show [s].Nodup;simp
 |k+1=>by
  show (match (bf xs ys s k)[k]? with|some x=>visit xs ys (bf xs ys s k) x|none=>bf xs ys s k).Nodup;split
  ·exact Lc (Lc (xD xs ys s k))
  ·exact xD xs ys s k
theorem EL{xs ys:List Int}{s:Int}{k:Nat}(h:(bf xs ys s k).length<=k):∀d,bf xs ys s (k+d)=bf xs ys s k
 |0=>rfl
 |d+1=>by
  have e:=EL h d;show (match (bf xs ys s (k+d))[k+d]? with|some x=>visit xs ys (bf xs ys s (k+d)) x|none=>bf xs ys s (k+d))=_;rw [e,W7 (by omega)]
section
variable {n:Nat}{xs ys:List Int}{s:Int}
theorem qz(hx:Tn n xs)(hy:Tn n ys)(s0:0<=s)(s1:s<(n:Int)):∀k,∀x∈bf xs ys s k,0<=x/\x<(n:Int)
 |0,x,h=>by rw [VY.mp (show x∈[s] from h)];exact ⟨s0,s1⟩
 |k+1,x,h=>by
  have ih:=qz hx hy s0 s1 k;have h':x∈(match (bf xs ys s k)[k]? with|some y=>visit xs ys (bf xs ys s k) y|none=>bf xs ys s k):=h;split at h'
  ·next y hy' =>
   obtain ⟨y0,y1⟩:=ih y (VI hy');rcases p7.mp h' with h'|rfl
   ·rcases p7.mp h' with h'|rfl
    ·exact ih x h'
    ·exact hx.app y0 y1
   ·exact hy.app y0 y1
  ·exact ih x h'
theorem BO(hx:Tn n xs)(hy:Tn n ys)(s0:0<=s)(s1:s<(n:Int))(k:Nat):(bf xs ys s k).length<=n:=by
 have:=zS (xD xs ys s k) (ys:=upto n) fun x h=>lb.mpr (qz hx hy s0 s1 k x h);rw [ow] at this;exact this
theorem BP{k i:Nat}(hik:i<=k){x:Int}(h:(bf xs ys s k)[i]?=some x):(bf xs ys s i)[i]?=some x:=by
 obtain ⟨d,rfl⟩:∃d,k=i+d:=⟨k-i,by omega⟩
 by_cases hl:(bf xs ys s i).length<=i
 ·rw [EL hl d] at h
  exact h
 ·obtain ⟨t,e⟩:=zU xs ys s i d
  rw [<- e,VM (by omega)] at h;exact h
theorem HD(hx:Tn n xs)(hy:Tn n ys)(s0:0<=s)(s1:s<(n:Int)):Cl xs ys (bf xs ys s n):=by
 intro x hm;obtain ⟨i,hi,e⟩:=WK hm;have hl:=BO hx hy s0 s1 n;have hi':(bf xs ys s i)[i]?=some x:=BP (k:=n) (by omega) (by rw [VB hi,e]);have hs:visit xs ys (bf xs ys s i) x <+: bf xs ys s n:=by
  have:=zU xs ys s (i+1) (n-(i+1));rw [show i+1+(n-(i+1))=n by omega] at this;have e2:bf xs ys s (i+1)=visit xs ys (bf xs ys s i) x:=by
   show (match (bf xs ys s i)[i]? with|some x=>visit xs ys (bf xs ys s i) x|none=>bf xs ys s i)=_;rw [hi']
  rw [<- e2];exact this
 refine ⟨hs.subset ?_,hs.subset ?_⟩
 ·exact p7.mpr (.inl (p7.mpr (.inr rfl)))
 ·exact p7.mpr (.inr rfl)
theorem BQ{zs F:List Int}(hz:Tn n zs)(nd:F.Nodup)(hb:∀x∈F,0<=x/\x<(n:Int))(hc:∀x∈F,app zs x∈F){y:Int}(y0:0<=y)(y1:y<(n:Int))(h:app zs y∈F):y∈F:=by
 have Qs:(F.map (app zs)).Nodup:=by
  unfold List.Nodup;rw [List.pairwise_map];refine List.Pairwise.imp_of_mem (fun {a b} ha hb' hab e=>?_) nd;obtain ⟨a0,a1⟩:=hb a ha;obtain ⟨b0,b1⟩:=hb b hb';exact hab (hz.inj a0 a1 b0 b1 e)
 have pm:(F.map (app zs)).Perm F:=EH Qs (fun x hx=>by obtain ⟨z,hz',rfl⟩:=VO.mp hx;exact hc z hz') (by simp);obtain ⟨z,zV,e⟩:=VO.mp (pm.symm.subset h);obtain ⟨z0,z1⟩:=hb z zV;rw [<- hz.inj z0 z1 y0 y1 e];exact zV
theorem Ld(hx:Tn n xs)(hy:Tn n ys)(s0:0<=s)(s1:s<(n:Int))(all:∀x:Int,0<=x->x<(n:Int)->iS xs ys x){x:Int}(x0:0<=x)(x1:x<(n:Int)):x∈bf xs ys s n:=by
 have cl:=HD hx hy s0 s1;have nd:=xD xs ys s n;have bd:=qz hx hy s0 s1 n;have hs:s∈bf xs ys s n:=by
  have:=zU xs ys s 0 n;rw [Nat.zero_add] at this;exact this.subset (show s∈[s] by simp)
 have hpos:0<n:=by omega
 have zero:∀y,iS xs ys y->y∈bf xs ys s n->(0:Int)∈bf xs ys s n:=by
  intro y hr
  induction hr with
  |zero=>exact id
  |r h ih =>
   intro hm;obtain ⟨a,b⟩:=h.bound hx hy hpos;exact ih (BQ hx nd bd (fun x hx'=>(cl x hx').1) a b hm)
  |u h ih =>
   intro hm;obtain ⟨a,b⟩:=h.bound hx hy hpos;exact ih (BQ hy nd bd (fun x hx'=>(cl x hx').2) a b hm)
 exact cl.all (zero s (all s s0 s1) hs) (all x x0 x1)
theorem EM(hx:Tn n xs)(hy:Tn n ys)(s0:0<=s)(s1:s<(n:Int))(all:∀x:Int,0<=x->x<(n:Int)->iS xs ys x):Tn n (bf xs ys s n) :=
 EH (xD xs ys s n) (fun x h=>lb.mpr (qz hx hy s0 s1 n x h)) (by
  have:=zS (K4 n) (ys:=bf xs ys s n) fun x h=>by obtain ⟨a,b⟩:=lb.mp h;exact Ld hx hy s0 s1 all a b
  exact this)
theorem Le{p F:List Int}(hp:Tn n p)(hb:∀x∈F,0<=x/\x<(n:Int)){x:Int}(x0:0<=x)(x1:x<(n:Int)):cz (F.map (app p)) (app p x)=(cz F x).map (app p):=by
 unfold cz
 have e:app p x∈F.map (app p)↔x∈F:=⟨fun h=>by
  obtain ⟨y,hy,e⟩:=VO.mp h;obtain ⟨y0,y1⟩:=hb y hy
  rw [<- hp.inj y0 y1 x0 x1 e];exact hy,fun h=>VO.mpr ⟨x,h,rfl⟩⟩
 by_cases h:x∈F
 ·rw [if_pos h,if_pos (e.mpr h)]
 ·rw [if_neg h,if_neg fun z=>h (e.mp z),VW];rfl
theorem HE{p:List Int}(hx:Tn n xs)(hy:Tn n ys)(hp:Tn n p)(s0:0<=s)(s1:s<(n:Int)):∀k,bf (anew xs p) (anew ys p) (app p s) k=(bf xs ys s k).map (app p)
 |0=>rfl
 |k+1=>by
  have ih:=HE hx hy hp s0 s1 k;show (match (bf (anew xs p) (anew ys p) (app p s) k)[k]? with|some x=>visit (anew xs p) (anew ys p) (bf (anew xs p) (anew ys p) (app p s) k) x|none=>bf (anew xs p) (anew ys p) (app p s) k)=(match (bf xs ys s k)[k]? with|some x=>visit xs ys (bf xs ys s k) x|none=>bf xs ys s k).map (app p);rw [ih,VP];cases h:(bf xs ys s k)[k]? with
  |none=>rfl
  |some x =>
   obtain ⟨x0,x1⟩:=qz hx hy s0 s1 k x (VI h);obtain ⟨a0,a1⟩:=hx.app x0 x1;obtain ⟨b0,b1⟩:=hy.app x0 x1;show visit (anew xs p) (anew ys p) ((bf xs ys s k).map (app p)) (app p x)=(visit xs ys (bf xs ys s k) x).map (app p);unfold visit;rw [hx.kg hp x0 x1,hy.kg hp x0 x1,Le hp (qz hx hy s0 s1 k) a0 a1,Le hp (fun z hz=>?_) b0 b1];rcases p7.mp hz with hz|rfl
   ·exact qz hx hy s0 s1 k z hz
   ·exact ⟨a0,a1⟩
end
def num(zs sq:List Int):List Int:=sq.map fun o=>(sq.idxOf (app zs o):Int)
theorem Tn.inv_inv{n:Nat}{p:List Int}(hp:Tn n p):inv (inv p)=p:=by
 refine pZ (n:=n) hp.av.av.length hp.length fun s h0 h1=>?_;obtain ⟨a0,a1⟩:=hp.av.kT h0 h1;obtain ⟨b0,b1⟩:=hp.app h0 h1;refine hp.av.inj a0 a1 b0 b1 ?_;rw [hp.av.cF h0 h1,hp.gA h0 h1]
theorem EN{n:Nat}{zs sq:List Int}(hz:Tn n zs)(hs:Tn n sq):anew zs (inv sq)=num zs sq:=by
 unfold anew num aQ;rw [hs.inv_inv,V8];apply Wg;intro o ho;obtain ⟨o0,o1⟩:=hs.bound ho;obtain ⟨a0,a1⟩:=hz.app o0 o1;exact EK a0 (by rw [hs.length];exact a1)
theorem Lf{n:Nat}{p:List Int}(hp:Tn n p):∀{sq:List Int},(∀x∈sq,0<=x/\x<(n:Int))->∀{y:Int},0<=y->y<(n:Int)->(sq.map (app p)).idxOf (app p y)=sq.idxOf y
 |[],_,_,_,_=>rfl
 |a :: r,hb,y,y0,y1=>by
  obtain ⟨a0,a1⟩:=hb a VN;rw [V0,List.idxOf_cons,List.idxOf_cons,Lf hp (fun x hx=>hb x (VL _ hx)) y0 y1]
  by_cases e:a=y
  ·rw [e];simp
  ·have e2:app p a≠app p y:=fun z=>e (hp.inj a0 a1 y0 y1 z)
   rw [show (a == y)=false by simpa using e,show (app p a == app p y)=false by simpa using e2]
theorem Lg{n:Nat}{zs sq p:List Int}(hz:Tn n zs)(hp:Tn n p)(hb:∀x∈sq,0<=x/\x<(n:Int)):num (anew zs p) (sq.map (app p))=num zs sq:=by
 unfold num;rw [V8];apply Wg;intro o ho;obtain ⟨o0,o1⟩:=hb o ho;obtain ⟨a0,a1⟩:=hz.app o0 o1;show ((sq.map (app p)).idxOf (app (anew zs p) (app p o)):Int)=_;rw [hz.kg hp o0 o1,Lf hp hb a0 a1]
end ae
namespace ae
def pw(xs:List Int)(k i:Int):Int:=if 0<=k then aZ xs i k.toNat else aZ (inv xs) i (-k).toNat
section
variable {n:Nat}{xs:List Int}{i:Int}
theorem Tn.nu(h:Tn n xs)(i0:0<=i)(i1:i<(n:Int)):∀(k m:Nat),ae.aZ (inv xs) (ae.aZ xs i m) k=if k<=m then ae.aZ xs i (m-k) else ae.aZ (inv xs) i (k-m)
 |0,m=>by rw [if_pos (Wd _),Nat.sub_zero];rfl
 |k+1,m=>by
  show ae.app (inv xs) (ae.aZ (inv xs) (ae.aZ xs i m) k)=_;rw [h.nu i0 i1 k m]
  by_cases hk:k<=m
  ·rw [if_pos hk]
   by_cases hk1:k+1<=m
   ·rw [if_pos hk1]
    obtain ⟨d,hd⟩:∃d,m-k=d+1:=⟨m-k-1,by omega⟩;rw [hd,show m-(k+1)=d by omega];obtain ⟨a,b⟩:=h.aZ i0 i1 d;exact h.gA a b
   ·rw [if_neg hk1,show m-k=0 by omega,show k+1-m=1 by omega]
    rfl
  ·rw [if_neg hk,if_neg (by omega),show k+1-m=(k-m)+1 by omega]
   rfl
theorem Tn.rZ(h:Tn n xs)(i0:0<=i)(i1:i<(n:Int))(k m:Nat):ae.aZ xs (ae.aZ (inv xs) i m) k=if k<=m then ae.aZ (inv xs) i (m-k) else ae.aZ xs i (k-m):=by
 have:=h.av.nu i0 i1 k m;rw [h.inv_inv] at this;exact this
theorem Tn.pw(h:Tn n xs)(i0:0<=i)(i1:i<(n:Int))(k:Int):0<=ae.pw xs k i/\ae.pw xs k i<(n:Int):=by
 unfold ae.pw;split
 ·exact h.aZ i0 i1 _
 ·exact h.av.aZ i0 i1 _
theorem Tn.pw_add(h:Tn n xs)(i0:0<=i)(i1:i<(n:Int))(a b:Int):ae.pw xs a (ae.pw xs b i)=ae.pw xs (a+b) i:=by
 by_cases ha:0<=a<;>by_cases hb:0<=b
 ·unfold ae.pw
  rw [if_pos ha,if_pos hb,if_pos (by omega),tG]
  congr 1
  omega
 ·have e1:ae.pw xs b i=ae.aZ (inv xs) i (-b).toNat:=by unfold ae.pw;rw [if_neg hb]
  have e2:∀j,ae.pw xs a j=ae.aZ xs j a.toNat:=fun j=>by unfold ae.pw;rw [if_pos ha]
  rw [e1,e2,h.rZ i0 i1];unfold ae.pw;split
  ·split
   ·rw [show (-b).toNat-a.toNat=0 by omega,show (a+b).toNat=0 by omega];rfl
   ·congr 1;omega
  ·rw [if_pos (by omega)];congr 1;omega
 ·have e1:ae.pw xs b i=ae.aZ xs i b.toNat:=by unfold ae.pw;rw [if_pos hb]
  have e2:∀j,ae.pw xs a j=ae.aZ (inv xs) j (-a).toNat:=fun j=>by unfold ae.pw;rw [if_neg ha]
  rw [e1,e2,h.nu i0 i1];unfold ae.pw;split
  ·rw [if_pos (by omega)];congr 1;omega
  ·rw [if_neg (by omega)];congr 1;omega
 ·unfold ae.pw
  rw [if_neg ha,if_neg hb,if_neg (by omega),tG]
  congr 1
  omega
theorem Tn.pw_per(h:Tn n xs)(i0:0<=i)(i1:i<(n:Int)){L:Nat}(hL:ae.aZ xs i L=i)(q:Int):ae.pw xs ((L:Int)*q) i=i:=by
 have pos:∀m:Nat,ae.pw xs ((L:Int)*(m:Int)) i=i:=fun m=>by
  unfold ae.pw;rw [if_pos (Int.mul_nonneg (by omega) (by omega)),show ((L:Int)*(m:Int)).toNat=0+L*m by rw [<- Int.natCast_mul,VR];omega,BM hL];rfl
 by_cases hq:0<=q
 ·obtain ⟨m,rfl⟩:∃m:Nat,q=(m:Int):=⟨q.toNat,by omega⟩
  exact pos m
 ·obtain ⟨m,rfl⟩:∃m:Nat,q=-(m:Int):=⟨(-q).toNat,by omega⟩
  have:=h.pw_add i0 i1 ((L:Int) * -(m:Int)) ((L:Int)*(m:Int));rw [pos m] at this;rw [this,Int.mul_neg,Int.add_left_neg];rfl
theorem Tn.xE(h:Tn n xs)(i0:0<=i)(i1:i<(n:Int)){k v:Int}(o:La xs k i v):v=ae.pw xs k i:=by
 obtain ⟨m,_,bk,rfl⟩:=o;have m0:=WB k (show ((m+1:Nat):Int)≠0 by omega);have e:ae.aZ xs i (k % ((m+1:Nat):Int)).toNat=ae.pw xs (k % ((m+1:Nat):Int)) i:=by unfold ae.pw;rw [if_pos m0]
 rw [e];have e2:=h.pw_add i0 i1 (k % ((m+1:Nat):Int)) (((m+1:Nat):Int)*(k / ((m+1:Nat):Int)));rw [h.pw_per i0 i1 bk,Int.emod_add_mul_ediv] at e2;exact e2
end
def ck(xs:List Int)(k:Int):List Int:=(upto xs.length).map (pw xs k)
theorem BR(xs:List Int)(k:Int):(ck xs k).length=xs.length:=by simp [ck,ow]
theorem pA{xs:List Int}{k s:Int}(s0:0<=s)(s1:s<(xs.length:Int)):app (ck xs k) s=pw xs k s:=by
 have e:=oy (xs:=ck xs k) s0 (by rw [BR];exact s1);unfold ck at e;rw [VP,BL (by omega)] at e;have:=VJ e;rw [V2 s0] at this;exact this.symm
theorem Tn.ck{n:Nat}{xs:List Int}(h:Tn n xs)(k:Int):Tn n (ck xs k):=by
 have hl:=h.length;refine Tn.rY (by rw [BR];exact hl) (fun s s0 s1=>by rw [pA s0 (by omega)];exact h.pw s0 s1 k) fun s t s0 s1 t0 t1 e=>?_;rw [pA s0 (by omega),pA t0 (by omega)] at e;have e2:=congrArg (ae.pw xs (-k)) e;rw [h.pw_add s0 s1,h.pw_add t0 t1,Int.add_left_neg] at e2;exact e2
def shr(xs ys:List Int)(k:Int):List Int:=aQ (ck xs (-k)) ys
theorem Tn.shr{n:Nat}{xs ys:List Int}(hx:Tn n xs)(hy:Tn n ys)(k:Int):Tn n (shr xs ys k):=(hx.ck (-k)).aQ hy
theorem Tn.lg{n:Nat}{xs ys:List Int}(hx:Tn n xs){k s:Int}(s0:0<=s)(s1:s<(n:Int)):ae.app (ae.shr xs ys k) s=ae.app ys (ae.pw xs (-k) s):=by
 have hl:=hx.length;unfold ae.shr;rw [oz s0 (by rw [BR,hl];exact s1),pA s0 (by rw [hl];exact s1)]
theorem Tn.uu{n:Nat}{xs ys:List Int}(hx:Tn n xs)(hy:Tn n ys)(a b:Int):ae.shr xs (ae.shr xs ys a) b=ae.shr xs ys (a+b):=by
 refine pZ (n:=n) (hx.shr (hx.shr hy a) b).length (hx.shr hy (a+b)).length fun s s0 s1=>?_;obtain ⟨p0,p1⟩:=hx.pw s0 s1 (-b);rw [hx.lg s0 s1,hx.lg p0 p1,hx.lg s0 s1,hx.pw_add s0 s1,show -a + -b=-(a+b) by omega]
theorem Tn.r9{n:Nat}{xs ys:List Int}(hx:Tn n xs)(hy:Tn n ys):ae.shr xs ys 0=ys:=by
 refine pZ (n:=n) (hx.shr hy 0).length hy.length fun s s0 s1=>?_;rw [hx.lg s0 s1];rfl
end ae
namespace ae
def odd(n:Nat):Bool:=n % 2 == 1
def tb(l:Int->Nat)(p:Int->Int)(a b:Int):Bool:=if l a=l b\/l (p a)=l (p b) then false else (decide (l a<l b)).xor (decide (l (p a)<l (p b)))
end ae
namespace ae
end ae
namespace ae
abbrev Sp:=Bool×Int
def iQ(s:Sp):Prop:=(s.1=false->1<=s.2/\s.2<=3)/\s.2≠0
def gD(a b:Sp):Int:=if a.1 then a.2+b.2 else (a.2+b.2) % 4
def cc(a b:Sp):List Sp:=if gD a b=0 then [] else [(a.1,gD a b)]
def bK:List Sp->Sp->List Sp
 |[],s=>[s]
 |t :: r,s=>if t.1=s.1 then cc t s ++ r else s :: t :: r
theorem tH(t:Sp)(r:List Sp)(s:Sp):bK (t :: r) s=if t.1=s.1 then cc t s ++ r else s :: t :: r:=rfl
def jr(w:List Sp):List Sp:=w.foldl bK []
def lK(s:Sp):Sp:=(s.1,if s.1 then -s.2 else 4-s.2)
def o4(w:List Sp):List Sp:=(w.map lK).reverse
def Pl:List Sp->Prop
 |[]=>True
 |a :: r=>iQ a/\(∀b,r.head?=some b->a.1≠b.1)/\Pl r
theorem Pl.pr:∀{l:List Sp},Pl l->∀s∈l,iQ s
 |a :: r,h,s,hs=>by
  rcases VZ.mp hs with rfl|hs
  ·exact h.1
  ·exact Pl.pr h.2.2 s hs
theorem Lh{a b:Sp}(ha:iQ a)(e:a.1=b.1):(gD a b=0/\cc a b=[])\/(iQ (a.1,gD a b)/\cc a b=[(a.1,gD a b)]):=by
 unfold cc
 by_cases h:gD a b=0
 ·exact .inl ⟨h,by rw [if_pos h]⟩
 ·refine .inr ⟨⟨fun hf=>?_,h⟩,by rw [if_neg h]⟩
  simp only at hf;unfold gD at h ⊢;simp only [hf,Wr,if_false] at h ⊢;omega
theorem Pl.push{l:List Sp}{s:Sp}(h:Pl l)(hs:iQ s):Pl (bK l s):=by
 cases l with
 |nil=>exact ⟨hs,fun b h=>(nomatch h),trivial⟩
 |cons t r =>
  rw [tH];split
  ·next e =>
   rcases Lh h.1 e with ⟨_,ej⟩|⟨hp,ej⟩
   ·rw [ej];exact h.2.2
   ·rw [ej];exact ⟨hp,h.2.1,h.2.2⟩
  ·next e =>
   refine ⟨hs,fun b hb=>?_,h⟩;cases hb;exact fun e'=>e e'.symm
theorem Pl.fold{w:List Sp}:∀{l:List Sp},Pl l->(∀s∈w,iQ s)->Pl (w.foldl bK l):=by
 induction w with
 |nil=>exact fun h _=>h
 |cons s w ih=>exact fun h hw=>ih (h.push (hw s (VN))) fun s' h'=>hw s' (VL _ h')
theorem xF{w:List Sp}(hw:∀s∈w,iQ s):Pl (jr w):=Pl.fold (l:=[]) trivial hw
theorem HF{l:List Sp}{s:Sp}(h:∀b,l.head?=some b->s.1≠b.1):bK l s=s :: l:=by
 cases l with
 |nil=>rfl
 |cons t r=>rw [tH,if_neg fun e=>h t rfl e.symm]
theorem Pl.mJ:∀{l:List Sp},Pl l->jr l.reverse=l
 |[],_=>rfl
 |a :: r,h=>by
  unfold jr;rw [W4,Wz];show bK (jr r.reverse) a=_;rw [Pl.mJ h.2.2,HF h.2.1]
theorem HG(u v:List Sp):jr (u ++ v)=v.foldl bK (jr u):=by unfold jr;rw [Wz]
theorem BS{s:Sp}(h:iQ s):iQ (lK s):=by
 obtain ⟨b,k⟩:=s;cases b with
 |true=>exact ⟨nofun,fun e=>h.2 (by have:-k=0:=e;show k=0;omega)⟩
 |false =>
  obtain ⟨h1,h2⟩:=h.1 rfl;simp only at h1 h2;exact ⟨fun _=>by show 1<=4-k/\4-k<=3;omega,by show 4-k≠0;omega⟩
theorem Qu{p:List Sp}{s:Sp}(hp:Pl p)(hs:iQ s):bK (bK p s) (lK s)=p:=by
 have e0:cc s (lK s)=[]:=by
  unfold cc gD lK;cases hb:s.1<;>simp<;>omega
 cases p with
 |nil =>
  show (if s.1=(lK s).1 then cc s (lK s) ++ [] else _)=_;rw [if_pos (show s.1=(lK s).1 from rfl),e0];rfl
 |cons t r =>
  by_cases e:t.1=s.1
  ·have e1:bK (t :: r) s=cc t s ++ r:=by rw [tH,if_pos e]
   rw [e1];obtain ⟨tb,tk⟩:=t;obtain ⟨sb,sk⟩:=s;simp only at e;subst e;have ht:=hp.1;rcases Lh (b:=(tb,sk)) hp.1 rfl with ⟨h0,ej⟩|⟨Vl,ej⟩
   ·rw [ej,List.nil_append]
    have eb:lK (tb,sk)=(tb,tk):=by
     unfold lK;unfold gD at h0;cases tb with
     |true=>simp only [if_true] at h0 ⊢;congr 1;omega
     |false =>
      have h1:=ht.1 rfl;have h2:=hs.1 rfl;simp only [Wr,if_false] at h0 h1 h2 ⊢
      congr 1;omega
    rw [eb];exact HF hp.2.1
   ·rw [ej]
    show (if tb=(lK (tb,sk)).1 then cc (tb,gD (tb,tk) (tb,sk)) (lK (tb,sk)) ++ r else _)=_;rw [if_pos (show tb=(lK (tb,sk)).1 from rfl)];have eb:gD (tb,gD (tb,tk) (tb,sk)) (lK (tb,sk))=tk:=by
     unfold gD lK;cases tb with
     |true=>simp only [if_true];omega
     |false =>
      have h1:=ht.1 rfl;have h2:=hs.1 rfl;simp only [Wr,if_false] at h1 h2 ⊢;omega
    unfold cc;rw [eb,if_neg ht.2];rfl
  ·have e1:bK (t :: r) s=s :: t :: r:=by rw [tH,if_neg e]
   rw [e1];show (if s.1=(lK s).1 then cc s (lK s) ++ (t :: r) else _)=_;rw [if_pos (show s.1=(lK s).1 from rfl),e0];rfl
theorem Qv{w:List Sp}:∀{p:List Sp},Pl p->(∀s∈w,iQ s)->(w ++ o4 w).foldl bK p=p:=by
 induction w with
 |nil=>exact fun _ _=>rfl
 |cons s w ih =>
  intro p hp hw;have e:(s :: w) ++ o4 (s :: w)=s :: ((w ++ o4 w) ++ [lK s]):=by unfold o4;simp
  rw [e];show ((w ++ o4 w) ++ [lK s]).foldl bK (bK p s)=p;have hs:=hw s (VN);rw [Wz,ih (hp.push hs) fun s' h'=>hw s' (VL _ h')];exact Qu hp hs
theorem Qw{w:List Sp}(hw:∀s∈w,iQ s):jr (w ++ o4 w)=[]:=Qv (p:=[]) trivial hw
theorem Qx{l:List Sp}{s:Sp}{M B:Nat}(h:∀x∈l,x.2.natAbs<=M)(hs:s.2.natAbs<=B)(hp:iQ s)(hl:Pl l):∀x∈bK l s,x.2.natAbs<=M+B:=by
 intro x hx;cases l with
 |nil=>rcases VY.mp hx with rfl;omega
 |cons t r =>
  rw [tH] at hx;have ht:=h t (VN);split at hx
  ·next e0 =>
   rcases V9.mp hx with hx|hx
   ·unfold cc at hx
    split at hx
    ·exact (nomatch hx)
    ·rcases VY.mp hx with rfl
     show (gD t s).natAbs<=_;unfold gD;split
     ·omega
     ·next hb =>
      have:=hl.1.1 (by simpa using hb);have h2:=hp.1 (by rw [<- e0];simpa using hb);omega
   ·have:=h x (VL _ hx);omega
  ·rcases VZ.mp hx with rfl|hx
   ·omega
   ·have:=h x hx;omega
theorem Qy(l:List Sp)(s:Sp):(bK l s).length<=l.length+1:=by
 cases l with
 |nil=>exact VC _
 |cons t r =>
  rw [tH];split
  ·unfold cc;split<;>simp<;>omega
  ·simp
theorem Qz{w:List Sp}:∀{l:List Sp},(w.foldl bK l).length<=l.length+w.length:=by
 induction w with
 |nil=>exact VC _
 |cons s w ih =>
  intro l;have:=ih (l:=bK l s);have h2:=Qy l s;rw [V6];exact V3 this (by omega)
theorem HI(w:List Sp):(jr w).length<=w.length:=by have:=Qz (w:=w) (l:=[]);simpa [jr] using this
structure T4 where (a b c d:Int)
def T4.one:T4:=⟨1,0,0,1⟩
def T4.qt:T4:=⟨0,-1,1,0⟩
def T4.mul(x y:T4):T4:=⟨x.a*y.a+x.b*y.c,x.a*y.b+x.b*y.d,x.c*y.a+x.d*y.c,x.c*y.b+x.d*y.d⟩
def T4.tI(x:T4):T4:=⟨x.d,-x.b,-x.c,x.a⟩
theorem T4.ext'{x y:T4}(h1:x.a=y.a)(h2:x.b=y.b)(h3:x.c=y.c)(h4:x.d=y.d):x=y:=by cases x;cases y;simp only at h1 h2 h3 h4;subst h1 h2 h3 h4;rfl
theorem T4.assoc(x y z:T4):(x.mul y).mul z=x.mul (y.mul z):=by
 apply T4.ext'<;>simp only [T4.mul,Int.add_mul,Int.mul_add,Int.mul_assoc]<;>omega
theorem T4.one_mul(x:T4):T4.one.mul x=x:=by apply T4.ext'<;>simp [T4.mul,T4.one]
theorem T4.mul_one(x:T4):x.mul T4.one=x:=by apply T4.ext'<;>simp [T4.mul,T4.one]
theorem T4.uv(x y:T4):(x.mul y).tI=y.tI.mul x.tI:=by
 apply T4.ext'<;>simp only [T4.mul,T4.tI,Int.neg_mul,Int.mul_neg,Int.neg_neg,Int.mul_comm]<;>omega
def qp:Nat->T4
 |0=>T4.one
 |n+1=>T4.qt.mul (qp n)
def mK(s:Sp):T4:=if s.1 then ⟨1,s.2,0,1⟩ else qp s.2.toNat
def mf(T:T4)(w:List Sp):T4:=w.foldl (fun T s=>(mK s).mul T) T
def bX(w:List Sp):T4:=mf T4.one w
theorem QA(w:List Sp):∀T:T4,mf T w=(bX w).mul T:=by
 induction w with
 |nil=>exact fun T=>(T4.one_mul T).symm
 |cons s w ih =>
  intro T;show mf ((mK s).mul T) w=(mf ((mK s).mul T4.one) w).mul T;rw [ih,ih,T4.mul_one,T4.assoc]
theorem xG(u v:List Sp):bX (u ++ v)=(bX v).mul (bX u):=by
 show mf T4.one (u ++ v)=_;unfold mf;rw [Wz];exact QA v _
theorem BU(u:List Sp)(s:Sp):bX (u ++ [s])=(mK s).mul (bX u):=by
 show mf T4.one (u ++ [s])=_;unfold mf;rw [Wz];rfl
theorem t3{k:Int}(h:1<=k/\k<=3):k=1\/k=2\/k=3:=by omega
theorem QB{t s:Sp}(ht:iQ t)(hs:iQ s)(e:t.1=s.1):bX (cc t s)=(mK s).mul (mK t):=by
 obtain ⟨tb,tk⟩:=t;obtain ⟨sb,sk⟩:=s;simp only at e;subst e;cases tb with
 |true =>
  have e2:(mK (true,sk)).mul (mK (true,tk))=⟨1,tk+sk,0,1⟩:=by apply T4.ext'<;>simp [T4.mul,mK]<;>omega
  rw [e2];unfold cc gD;simp only [if_true];split
  ·next h=>rw [h];rfl
  ·rw [show bX [(true,tk+sk)]=(mK (true,tk+sk)).mul T4.one from rfl,T4.mul_one];rfl
 |false =>
  have h1:=ht.1 rfl;have h2:=hs.1 rfl;simp only at h1 h2;rcases t3 h1 with rfl|rfl|rfl<;>rcases t3 h2 with rfl|rfl|rfl<;>rfl
theorem QC{l:List Sp}{s:Sp}(hl:Pl l)(hs:iQ s):bX (bK l s).reverse=(mK s).mul (bX l.reverse):=by
 cases l with
 |nil=>exact BU [] s
 |cons t r =>
  rw [tH];split
  ·next e =>
   rw [List.reverse_append,xG,W4,BU,<- T4.assoc]
   congr 1
   rw [<- QB hl.1 hs e];unfold cc;split<;>rfl
  ·rw [W4,BU]
theorem QD{w:List Sp}:∀{l:List Sp},Pl l->(∀s∈w,iQ s)->bX (w.foldl bK l).reverse=mf (bX l.reverse) w:=by
 induction w with
 |nil=>exact fun _ _=>rfl
 |cons s w ih =>
  intro l hl hw;have hs:=hw s (VN);show bX (w.foldl bK (bK l s)).reverse=mf ((mK s).mul (bX l.reverse)) w;rw [ih (hl.push hs) fun s' h'=>hw s' (VL _ h'),QC hl hs]
theorem Li{w:List Sp}(hw:∀s∈w,iQ s):bX (jr w).reverse=bX w:=QD (l:=[]) trivial hw
theorem xH{s:Sp}(h:iQ s):mK (lK s)=(mK s).tI:=by
 obtain ⟨b,k⟩:=s;cases b with
 |true=>apply T4.ext'<;>simp [T4.tI,mK,lK]
 |false =>
  have h1:=h.1 rfl;simp only at h1;rcases t3 h1 with rfl|rfl|rfl<;>rfl
theorem Lj{w:List Sp}(hw:∀s∈w,iQ s):bX (o4 w)=(bX w).tI:=by
 induction w with
 |nil=>rfl
 |cons s w ih =>
  have e:o4 (s :: w)=o4 w ++ [lK s]:=by unfold o4;simp
  have e2:bX (s :: w)=(bX w).mul (mK s):=by
   rw [show s :: w=[s] ++ w from rfl,xG]
   congr 1
   exact (BU [] s).trans (T4.mul_one _)
  rw [e,BU,ih fun s' h'=>hw s' (VL _ h'),xH (hw s (VN)),e2,T4.uv]
end ae
namespace ae
def o5:List Int->List Int->Bool
 |[],[]=>false
 |[],_ :: _=>true
 |_ :: _,[]=>false
 |x :: xs,y :: ys=>if x=y then o5 xs ys else decide (x<y)
theorem EO:∀xs:List Int,o5 xs xs=false
 |[]=>rfl
 |x :: xs=>by unfold o5;rw [if_pos rfl];exact EO xs
theorem HJ:∀{xs ys zs:List Int},o5 xs ys=true->o5 ys zs=true->o5 xs zs=true
 |[],[],_,h,_=>by cases h
 |[],_ :: _,[],_,h=>by cases h
 |[],_ :: _,_ :: _,_,_=>rfl
 |_ :: _,[],_,h,_=>by cases h
 |_ :: _,_ :: _,[],_,h=>by cases h
 |x :: xs,y :: ys,z :: zs,h1,h2=>by
  unfold o5 at h1 h2 ⊢
  by_cases a:x=y
  ·rw [if_pos a] at h1
   by_cases b:y=z
   ·rw [if_pos b] at h2
    rw [if_pos (a.trans b)];exact HJ h1 h2
   ·rw [if_neg b] at h2
    rw [if_neg (fun e=>b (a.symm.trans e))];rw [a];exact h2
  ·rw [if_neg a] at h1
   have h1:=of_decide_eq_true h1
   by_cases b:y=z
   ·rw [<- b,if_neg a];exact decide_eq_true h1
   ·rw [if_neg b] at h2
    have h2:=of_decide_eq_true h2;rw [if_neg (by omega)];exact decide_eq_true (by omega)
theorem HK:∀{xs ys:List Int},o5 xs ys=false->o5 ys xs=false->xs=ys
 |[],[],_,_=>rfl
 |[],_ :: _,h,_=>by cases h
 |_ :: _,[],_,h=>by cases h
 |x :: xs,y :: ys,h1,h2=>by
  unfold o5 at h1 h2
  by_cases a:x=y
  ·subst a
   rw [if_pos rfl] at h1 h2;rw [HK h1 h2]
  ·rw [if_neg a] at h1
   rw [if_neg (Ne.symm a)] at h2;have h1:=of_decide_eq_false h1;have h2:=of_decide_eq_false h2;omega
abbrev aV:=List Int×List Int
def lL(p q:aV):Bool:=if p.1=q.1 then o5 p.2 q.2 else o5 p.1 q.1
theorem Lk(p:aV):lL p p=false:=by unfold lL;rw [if_pos rfl];exact EO _
theorem QE{p q r:aV}(h1:lL p q=true)(h2:lL q r=true):lL p r=true:=by
 unfold lL at h1 h2 ⊢
 by_cases a:p.1=q.1
 ·rw [if_pos a] at h1
  by_cases b:q.1=r.1
  ·rw [if_pos b] at h2
   rw [if_pos (a.trans b)];exact HJ h1 h2
  ·rw [if_neg b] at h2
   rw [if_neg (fun e=>b (a.symm.trans e)),a];exact h2
 ·rw [if_neg a] at h1
  by_cases b:q.1=r.1
  ·rw [<- b,if_neg a];exact h1
  ·rw [if_neg b] at h2
   have h:=HJ h1 h2;rw [if_neg (fun e=>by rw [e,EO] at h;cases h)];exact h
theorem QF{p q:aV}(h1:lL p q=false)(h2:lL q p=false):p=q:=by
 unfold lL at h1 h2
 by_cases a:p.1=q.1
 ·rw [if_pos a] at h1
  rw [if_pos a.symm] at h2;exact Prod.ext a (HK h1 h2)
 ·rw [if_neg a] at h1
  rw [if_neg (Ne.symm a)] at h2;exact absurd (HK h1 h2) a
def lM:List aV->aV
 |[]=>([],[])
 |p :: l=>l.foldl (fun b q=>if lL q b then q else b) p
def Lst(l:List aV)(p:aV):Prop:=p∈l/\∀q∈l,lL q p=false
theorem Lst.unique{l m:List aV}{p q:aV}(a:Lst l p)(b:Lst m q)(h:∀x,x∈l↔x∈m):p=q:=QF (b.2 p ((h p).mp a.1)) (a.2 q ((h q).mpr b.1))
theorem Lst.step{l:List aV}{b q:aV}(h:Lst l b):Lst (l ++ [q]) (if lL q b then q else b):=by
 split
 ·next hq =>
  refine ⟨Wa _ (List.mem_singleton_self _),fun x hx=>?_⟩;rcases V9.mp hx with hx|hx
  ·cases QG:lL x q with
   |false=>rfl
   |true=>have:=QE QG hq;rw [h.2 x hx] at this;cases this
  ·rw [VY.mp hx];exact Lk q
 ·next hq =>
  refine ⟨WI _ h.1,fun x hx=>?_⟩;rcases V9.mp hx with hx|hx
  ·exact h.2 x hx
  ·rw [VY.mp hx];simpa using hq
theorem Lst.fold:∀(l pre:List aV) (b:aV),Lst pre b->Lst (pre ++ l) (l.foldl (fun b q=>if lL q b then q else b) b)
 |[],pre,b,h=>by rw [Wl];exact h
 |q :: l,pre,b,h=>by
  have:=Lst.fold l (pre ++ [q]) _ (h.step (q:=q));rw [W3] at this;exact this
theorem HL{l:List aV}(h:l≠[]):Lst l (lM l):=by
 cases l with
 |nil=>exact absurd rfl h
 |cons p l=>exact Lst.fold l [p] p ⟨List.mem_singleton_self _,fun q hq=>by rw [VY.mp hq];exact Lk p⟩
theorem QH{l m:List aV}(h:∀x,x∈l↔x∈m)(hl:l≠[]):lM l=lM m:=by
 have hm:m≠[]:=fun e=>by
  obtain ⟨x,hx⟩:=List.exists_mem_of_ne_nil l hl;have:=(h x).mp hx;rw [e] at this;cases this
 exact (HL hl).unique (HL hm) h
end ae
namespace ae
theorem vE(n:Nat):Tn n (upto n):=W8 _
theorem ER{n:Nat}{s:Int}(s0:0<=s)(s1:s<(n:Int)):app (upto n) s=s:=by
 unfold app;rw [VU,BL (by omega),Option.getD_some];omega
section
variable {n:Nat}{a b c g x y:List Int}
theorem p8(ha:Tn n a)(hb:Tn n b)(hc:Tn n c):aQ (aQ a b) c=aQ a (aQ b c):=by
 refine pZ (n:=n) ((ha.aQ hb).aQ hc).length (ha.aQ (hb.aQ hc)).length fun s s0 s1=>?_;obtain ⟨p0,p1⟩:=ha.app s0 s1;rw [oz s0 (by rw [(ha.aQ hb).length];exact s1),oz s0 (by rw [ha.length];exact s1),oz s0 (by rw [ha.length];exact s1),oz p0 (by rw [hb.length];exact p1)]
theorem BV(ha:Tn n a):aQ a (inv a)=upto n:=Qh ha
theorem HM(ha:Tn n a):aQ (inv a) a=upto n:=Qi ha
theorem xI(ha:Tn n a):aQ a (upto n)=a:=by
 refine pZ (n:=n) (ha.aQ (vE n)).length ha.length fun s s0 s1=>?_;obtain ⟨p0,p1⟩:=ha.app s0 s1;rw [oz s0 (by rw [ha.length];exact s1),ER p0 p1]
theorem ES(ha:Tn n a):aQ (upto n) a=a:=by
 refine pZ (n:=n) ((vE n).aQ ha).length ha.length fun s s0 s1=>?_;rw [oz s0 (by rw [(vE n).length];exact s1),ER s0 s1]
theorem ET(ha:Tn n a)(hb:Tn n b)(h:aQ a b=upto n):inv a=b:=by
 have e:aQ (inv a) (aQ a b)=b:=by rw [<- p8 ha.av ha hb,HM ha,ES hb]
 rw [h,xI ha.av] at e;exact e
theorem vF(ha:Tn n a)(hb:Tn n b):inv (aQ a b)=aQ (inv b) (inv a):=by
 refine ET (ha.aQ hb) (hb.av.aQ ha.av) ?_;rw [p8 ha hb (hb.av.aQ ha.av),<- p8 hb hb.av ha.av,BV hb,ES ha.av,BV ha]
theorem Ll(ha:Tn n a)(hb:Tn n b):aQ (aQ a b) (inv b)=a:=by rw [p8 ha hb hb.av,BV hb,xI ha]
theorem HN(ha:Tn n a)(hb:Tn n b):aQ (aQ a (inv b)) b=a:=by rw [p8 ha hb.av hb,HM hb,xI ha]
theorem QI(ha:Tn n a)(hb:Tn n b):aQ a (aQ (inv a) b)=b:=by rw [<- p8 ha ha.av hb,BV ha,ES hb]
theorem BW(hx:Tn n x)(i j:Int):aQ (ck x i) (ck x j)=ck x (i+j):=by
 refine pZ (n:=n) ((hx.ck i).aQ (hx.ck j)).length (hx.ck (i+j)).length fun s s0 s1=>?_;obtain ⟨p0,p1⟩:=hx.pw s0 s1 i;have hl:=hx.length;rw [oz s0 (by rw [BR,hl];exact s1),pA s0 (by rw [hl];exact s1),pA p0 (by rw [hl];exact p1),pA s0 (by rw [hl];exact s1),hx.pw_add s0 s1,Int.add_comm j i]
theorem HP(hx:Tn n x):ck x 0=upto n:=by
 refine pZ (n:=n) (hx.ck 0).length (vE n).length fun s s0 s1=>?_;rw [pA s0 (by rw [hx.length];exact s1),ER s0 s1];rfl
theorem BX(hx:Tn n x):ck x 1=x:=by
 refine pZ (n:=n) (hx.ck 1).length hx.length fun s s0 s1=>?_;rw [pA s0 (by rw [hx.length];exact s1)];rfl
theorem HQ(hx:Tn n x)(k:Int):inv (ck x k)=ck x (-k):=ET (hx.ck k) (hx.ck (-k)) (by rw [BW hx,Int.add_right_neg,HP hx])
theorem HR(hx:Tn n x):ck x (-1)=inv x:=by rw [<- HQ hx,BX hx]
theorem Lm(hx:Tn n x)(k:Int):ck (inv x) k=ck x (-k):=by
 refine pZ (n:=n) (hx.av.ck k).length (hx.ck (-k)).length fun s s0 s1=>?_;rw [pA s0 (by rw [hx.av.length];exact s1),pA s0 (by rw [hx.length];exact s1)];unfold pw
 by_cases h:0<=k
 ·rw [if_pos h]
  by_cases h0:k=0
  ·subst h0;rfl
  ·rw [if_neg (by omega),show -(-k)=k by omega]
 ·rw [if_neg h,if_pos (by omega),hx.inv_inv]
theorem Ln(ha:Tn n a)(hb:Tn n b)(hg:Tn n g):aQ (anew a g) (anew b g)=anew (aQ a b) g:=by
 unfold anew;have hi:=hg.av;rw [p8 (hi.aQ ha) hg ((hi.aQ hb).aQ hg),p8 hi hb hg,QI hg (hb.aQ hg),p8 hi ha (hb.aQ hg),<- p8 ha hb hg,<- p8 hi (ha.aQ hb) hg]
theorem QJ(hg:Tn n g):anew (upto n) g=upto n:=by unfold anew;rw [xI hg.av,HM hg]
theorem Lo(ha:Tn n a)(hg:Tn n g):inv (anew a g)=anew (inv a) g:=ET (ha.anew hg) (ha.av.anew hg) (by rw [Ln ha ha.av hg,BV ha,QJ hg])
theorem HS(hx:Tn n x)(hg:Tn n g){i:Int}(i0:0<=i)(i1:i<(n:Int)):∀k,aZ (anew x g) (app g i) k=app g (aZ x i k)
 |0=>rfl
 |k+1=>by
  obtain ⟨p0,p1⟩:=hx.aZ i0 i1 k;show app (anew x g) (aZ (anew x g) (app g i) k)=app g (app x (aZ x i k));rw [HS hx hg i0 i1 k,hx.kg hg p0 p1]
theorem QK(hx:Tn n x)(hg:Tn n g){i:Int}(i0:0<=i)(i1:i<(n:Int))(k:Int):pw (anew x g) k (app g i)=app g (pw x k i):=by
 unfold pw;split
 ·exact HS hx hg i0 i1 _
 ·rw [Lo hx hg];exact HS hx.av hg i0 i1 _
theorem QL(hx:Tn n x)(hg:Tn n g)(k:Int):ck (anew x g) k=anew (ck x k) g:=by
 refine pZ (n:=n) ((hx.anew hg).ck k).length ((hx.ck k).anew hg).length fun s s0 s1=>?_;obtain ⟨p0,p1⟩:=hg.kT s0 s1;rw [pA s0 (by rw [(hx.anew hg).length];exact s1),(hx.ck k).gB hg s0 s1,pA p0 (by rw [hx.length];exact p1),<- QK hx hg p0 p1,hg.cF s0 s1]
end
def Vf(n:Nat)(p:aV):Prop:=Tn n p.1/\Tn n p.2
def bH(n:Nat)(p q:aV):Prop:=∃g,Tn n g/\q=(anew p.1 g,anew p.2 g)
def Sh(k:Int)(p:aV):aV:=(p.1,shr p.1 p.2 k)
def Qt(p:aV):aV:=(inv p.2,p.1)
section
variable {n:Nat}{p q r:aV}
theorem Vf.sh(h:Vf n p)(k:Int):Vf n (Sh k p):=⟨h.1,h.1.shr h.2 k⟩
theorem Vf.qt(h:Vf n p):Vf n (Qt p):=⟨h.2.av,h.1⟩
theorem bH.refl(h:Vf n p):bH n p p:=⟨upto n,vE n,by
 have e:∀a:List Int,Tn n a->anew a (upto n)=a:=fun a ha=>by
  unfold anew;rw [ET (vE n) (vE n) (xI (vE n)),ES ha,xI ha]
 rw [e _ h.1,e _ h.2]⟩
theorem bH.symm(h:Vf n p)(a:bH n p q):bH n q p:=by
 obtain ⟨g,hg,rfl⟩:=a;exact ⟨inv g,hg.av,by show p=(anew (anew p.1 g) (inv g),anew (anew p.2 g) (inv g));rw [h.1.mI hg,h.2.mI hg]⟩
theorem bH.trans(h:Vf n p)(a:bH n p q)(b:bH n q r):bH n p r:=by
 obtain ⟨g,hg,rfl⟩:=a;obtain ⟨f,hf,rfl⟩:=b;exact ⟨aQ g f,hg.aQ hf,by show (anew (anew p.1 g) f,anew (anew p.2 g) f)=_;rw [h.1.mH hg hf,h.2.mH hg hf]⟩
theorem bH.sh(h:Vf n p)(a:bH n p q)(k:Int):bH n (Sh k p) (Sh k q):=by
 obtain ⟨g,hg,rfl⟩:=a;refine ⟨g,hg,?_⟩;show (anew p.1 g,aQ (ck (anew p.1 g) (-k)) (anew p.2 g))=(anew p.1 g,anew (aQ (ck p.1 (-k)) p.2) g);rw [QL h.1 hg,Ln (h.1.ck _) h.2 hg]
theorem bH.qt(h:Vf n p)(a:bH n p q):bH n (Qt p) (Qt q):=by
 obtain ⟨g,hg,rfl⟩:=a;refine ⟨g,hg,?_⟩;show (inv (anew p.2 g),anew p.1 g)=(anew (inv p.2) g,anew p.1 g);rw [Lo h.2 hg]
theorem BZ(h:Vf n p)(j k:Int):Sh k (Sh j p)=Sh (j+k) p:=by
 show (p.1,shr p.1 (shr p.1 p.2 j) k)=(p.1,shr p.1 p.2 (j+k));rw [h.1.uu h.2]
theorem uw(h:Vf n p):Sh 0 p=p:=by
 show (p.1,shr p.1 p.2 0)=p;rw [h.1.r9 h.2]
def Q2(p:aV):aV:=(inv p.1,inv p.2)
theorem B0(p:aV):Qt (Qt p)=Q2 p:=rfl
theorem B1(h:Vf n p):Q2 (Q2 p)=p:=by
 show (inv (inv p.1),inv (inv p.2))=p;rw [h.1.inv_inv,h.2.inv_inv]
theorem Vf.q2(h:Vf n p):Vf n (Q2 p):=⟨h.1.av,h.2.av⟩
theorem bH.q2(h:Vf n p)(a:bH n p q):bH n (Q2 p) (Q2 q):=bH.qt h.qt (bH.qt h a)
theorem vG(h:Vf n p)(k:Int):bH n (Q2 (Sh k p)) (Sh k (Q2 p)):=by
 have hx:=h.1;have hy:=h.2;refine ⟨ck p.1 (-k),hx.ck _,?_⟩;show (inv p.1,aQ (ck (inv p.1) (-k)) (inv p.2))=(anew (inv p.1) (ck p.1 (-k)),anew (inv (aQ (ck p.1 (-k)) p.2)) (ck p.1 (-k)));have e1:anew (inv p.1) (ck p.1 (-k))=inv p.1:=by
  unfold anew;rw [HQ hx,<- HR hx,BW hx,BW hx]
  congr 1;omega
 have e2:anew (inv (aQ (ck p.1 (-k)) p.2)) (ck p.1 (-k))=aQ (ck (inv p.1) (-k)) (inv p.2):=by
  unfold anew;rw [vF (hx.ck _) hy,Lm hx,HQ hx,p8 (hx.ck _) (hy.av.aQ (hx.ck _)) (hx.ck _),p8 hy.av (hx.ck _) (hx.ck _),BW hx,show - -k + -k=0 by omega,HP hx,xI hy.av]
 rw [e1,e2]
theorem B2(h:Vf n p):bH n (Qt (Sh 1 (Qt p))) (Sh (-1) (Qt (Sh (-1) p))):=by
 have hx:=h.1;have hy:=h.2;have l:Qt (Sh 1 (Qt p))=(aQ (inv p.1) (inv p.2),inv p.2):=by
  show (inv (aQ (ck (inv p.2) (-1)) p.1),inv p.2)=_;rw [Lm hy,show -(-1:Int)=1 by omega,BX hy,vF hy hx]
 have r:Sh (-1) (Qt (Sh (-1) p))=(aQ (inv p.2) (inv p.1),inv p.2):=by
  show (inv (aQ (ck p.1 (-(-1))) p.2),aQ (ck (inv (aQ (ck p.1 (-(-1))) p.2)) (-(-1))) p.1)=_;have hf:=hx.aQ hy;rw [show -(-1:Int)=1 by omega,BX hx,BX hf.av,vF hx hy,HN hy.av hx]
 refine ⟨p.2,hy,?_⟩;rw [l,r];show (aQ (inv p.2) (inv p.1),inv p.2)=(aQ (aQ (inv p.2) (aQ (inv p.1) (inv p.2))) p.2,aQ (aQ (inv p.2) (inv p.2)) p.2);rw [<- p8 hy.av hx.av hy.av,HN (hy.av.aQ hx.av) hy,HN hy.av hy]
theorem xJ(h:Vf n p):bH n (Qt (Sh (-1) (Qt p))) (Q2 (Sh 1 (Qt (Sh 1 p)))):=by
 have hx:=h.1;have hy:=h.2;have hu:=hx.av.aQ hy;have l:Qt (Sh (-1) (Qt p))=(aQ (inv p.1) p.2,inv p.2):=by
  show (inv (aQ (ck (inv p.2) (-(-1))) p.1),inv p.2)=_;rw [show -(-1:Int)=1 by omega,BX hy.av,vF hy.av hx,hy.inv_inv]
 have r:Q2 (Sh 1 (Qt (Sh 1 p)))=(aQ (inv p.1) p.2,aQ (inv p.1) (aQ (inv p.2) p.1)):=by
  show (inv (inv (aQ (ck p.1 (-1)) p.2)),inv (aQ (ck (inv (aQ (ck p.1 (-1)) p.2)) (-1)) p.1))=_;rw [HR hx,HR hu.av,hu.inv_inv,vF hu hx,vF hx.av hy,hx.inv_inv]
 refine ⟨aQ (inv p.2) p.1,hy.av.aQ hx,?_⟩;rw [l,r];show (aQ (inv p.1) p.2,aQ (inv p.1) (aQ (inv p.2) p.1))=(aQ (aQ (inv (aQ (inv p.2) p.1)) (aQ (inv p.1) p.2)) (aQ (inv p.2) p.1),aQ (aQ (inv (aQ (inv p.2) p.1)) (inv p.2)) (aQ (inv p.2) p.1));have eg:inv (aQ (inv p.2) p.1)=aQ (inv p.1) p.2:=by rw [vF hy.av hx,hy.inv_inv]
 have QM:aQ (inv p.2) p.1=inv (aQ (inv p.1) p.2):=by rw [vF hx.av hy,hx.inv_inv]
 rw [eg];have e1:aQ (aQ (aQ (inv p.1) p.2) (aQ (inv p.1) p.2)) (aQ (inv p.2) p.1)=aQ (inv p.1) p.2:=by rw [QM,Ll hu hu]
 have e2:aQ (aQ (aQ (inv p.1) p.2) (inv p.2)) (aQ (inv p.2) p.1)=aQ (inv p.1) (aQ (inv p.2) p.1):=by rw [Ll hx.av hy]
 rw [e1,e2]
end
def act:Int->List Int->aV->aV
 |k,[],p=>Sh k p
 |k,j :: ks,p=>act j ks (Qt (Sh k p))
def tS(k:Int):T4:=⟨1,k,0,1⟩
def gP(k:Int):T4:=⟨0,-1,1,k⟩
def gF:Int->List Int->T4
 |k,[]=>tS k
 |k,j :: ks=>(gF j ks).mul (gP k)
def jD(e:Bool)(M:T4):T4:=if e then ⟨-M.a,-M.b,-M.c,-M.d⟩ else M
def nY(e:Bool)(p:aV):aV:=if e then Q2 p else p
theorem B3(e f:Bool)(M:T4):jD e (jD f M)=jD (e.xor f) M:=by
 cases e<;>cases f<;>simp [jD]
theorem B4(e:Bool)(M N:T4):(jD e M).mul N=jD e (M.mul N):=by
 cases e
 ·rfl
 ·unfold jD T4.mul;simp only [if_true];congr 1<;>grind
section
variable {n:Nat}{p q r:aV}
theorem Vf.act:∀{ks:List Int} {k:Int} {p:aV},Vf n p->Vf n (ae.act k ks p)
 |[],k,p,h=>h.sh k
 |j :: ks,k,p,h=>Vf.act (ks:=ks) (h.sh k).qt
theorem bH.act:∀{ks:List Int} {k:Int} {p q:aV},Vf n p->bH n p q->bH n (ae.act k ks p) (ae.act k ks q)
 |[],k,p,q,h,a=>bH.sh h a k
 |j :: ks,k,p,q,h,a=>bH.act (ks:=ks) (h.sh k).qt (bH.qt (h.sh k) (bH.sh h a k))
theorem bH.nY(h:Vf n p)(a:bH n p q)(e:Bool):bH n (ae.nY e p) (ae.nY e q):=by cases e;exact a;exact bH.q2 h a
theorem EU(h:Vf n p)(e f:Bool):nY e (nY f p)=nY (e.xor f) p:=by
 cases e<;>cases f
 ·rfl
 ·rfl
 ·rfl
 ·exact B1 h
theorem B5:∀{ks:List Int} {k:Int} {p:aV},Vf n p->bH n (act k ks (Q2 p)) (Q2 (act k ks p))
 |[],k,p,h=>bH.symm (h.sh k).q2 (vG h k)
 |j :: ks,k,p,h=>by
  have h1:bH n (Qt (Sh k (Q2 p))) (Qt (Q2 (Sh k p))):=bH.qt (h.q2.sh k) (bH.symm (h.sh k).q2 (vG h k));have h2:=bH.act (ks:=ks) (k:=j) ((h.q2.sh k).qt) h1;have h3:=B5 (ks:=ks) (k:=j) (h.sh k).qt;exact bH.trans (Vf.act (ks:=j :: ks) (k:=k) h.q2) h2 h3
theorem EV{ks:List Int}{j k:Int}(h:Vf n p):act k ks (Sh j p)=act (j+k) ks p:=by
 cases ks with
 |nil=>exact BZ h j k
 |cons i ks=>show act i ks (Qt (Sh k (Sh j p)))=act i ks (Qt (Sh (j+k) p));rw [BZ h]
theorem Lp{ks:List Int}{k:Int}(h:Vf n p):act k ks (Qt p)=act 0 (k :: ks) p:=by show _=act k ks (Qt (Sh 0 p));rw [uw h]
theorem QN{a b:Int}{ks:List Int}{j:Int}(hj:j=0\/j=1\/j=-1):∃(k':Int) (ks':List Int) (f:Bool),ks'.length<ks.length+2/\gF a (j :: b :: ks)=jD f (gF k' ks')/\∀{n:Nat} {p:aV},Vf n p->bH n (act a (j :: b :: ks) p) (nY f (act k' ks' p)):=by
 rcases hj with rfl|rfl|rfl
 ·refine ⟨a+b,ks,true,by omega,?_,fun {n p} h=>?_⟩
  ·cases ks with
   |nil=>simp [gF,jD,T4.mul,tS,gP];omega
   |cons i ks =>
    show (((gF i ks).mul (gP b)).mul (gP 0)).mul (gP a)=jD true ((gF i ks).mul (gP (a+b)));rw [T4.assoc,T4.assoc];have:(gP b).mul ((gP 0).mul (gP a))=jD true (gP (a+b)):=by simp [jD,T4.mul,gP];omega
    rw [this];unfold jD T4.mul;simp only [if_true];congr 1<;>grind
  ·show bH n (act b ks (Qt (Sh 0 (Qt (Sh a p))))) (Q2 (act (a+b) ks p))
   rw [uw (h.sh a).qt,B0,<- EV h];exact B5 (h.sh a)
 ·refine ⟨a-1,(b-1) :: ks,false,by simp,?_,fun {n p} h=>?_⟩
  ·cases ks with
   |nil=>simp [gF,jD,T4.mul,tS,gP];refine ⟨?_,?_⟩<;>grind
   |cons i ks =>
    show (((gF i ks).mul (gP b)).mul (gP 1)).mul (gP a)=((gF i ks).mul (gP (b-1))).mul (gP (a-1));rw [T4.assoc,T4.assoc,T4.assoc];have:(gP b).mul ((gP 1).mul (gP a))=(gP (b-1)).mul (gP (a-1)):=by simp [T4.mul,gP];refine ⟨?_,?_,?_⟩<;>grind
    rw [this]
  ·show bH n (act b ks (Qt (Sh 1 (Qt (Sh a p))))) (act (b-1) ks (Qt (Sh (a-1) p)))
   have h1:=bH.act (ks:=ks) (k:=b) ((h.sh a).qt.sh 1).qt (B2 (h.sh a));rw [EV ((h.sh a).sh (-1)).qt,BZ h,show -1+b=b-1 by omega,show a + -1=a-1 by omega] at h1;exact h1
 ·refine ⟨a+1,(b+1) :: ks,true,by simp,?_,fun {n p} h=>?_⟩
  ·cases ks with
   |nil=>simp [gF,jD,T4.mul,tS,gP];refine ⟨?_,?_⟩<;>grind
   |cons i ks =>
    show (((gF i ks).mul (gP b)).mul (gP (-1))).mul (gP a)=jD true (((gF i ks).mul (gP (b+1))).mul (gP (a+1)));rw [T4.assoc,T4.assoc,T4.assoc];have:(gP b).mul ((gP (-1)).mul (gP a))=jD true ((gP (b+1)).mul (gP (a+1))):=by simp [jD,T4.mul,gP];refine ⟨?_,?_,?_⟩<;>grind
    rw [this];unfold jD T4.mul;simp only [if_true];congr 1<;>grind
  ·show bH n (act b ks (Qt (Sh (-1) (Qt (Sh a p))))) (Q2 (act (b+1) ks (Qt (Sh (a+1) p))))
   have h1:=bH.act (ks:=ks) (k:=b) ((h.sh a).qt.sh (-1)).qt (xJ (h.sh a));have h2:=B5 (ks:=ks) (k:=b) (((h.sh a).sh 1).qt.sh 1);rw [EV ((h.sh a).sh 1).qt,BZ h,show 1+b=b+1 by omega] at h2;have h3:=bH.trans (Vf.act (ks:=ks) (k:=b) ((h.sh a).qt.sh (-1)).qt) h1 (by rw [BZ h] at *;exact h2);exact h3
def big:List Int->Prop
 |[]=>True
 |[_]=>True
 |j :: b :: ks=>(2<=j\/j<=-2)/\big (b :: ks)
theorem Lq:∀(ks:List Int) (k:Int),big ks\/∃(k':Int) (ks':List Int) (f:Bool),ks'.length<ks.length/\gF k ks=jD f (gF k' ks')/\∀{n:Nat} {p:aV},Vf n p->bH n (act k ks p) (nY f (act k' ks' p))
 |[],_=>.inl trivial
 |[_],_=>.inl trivial
 |j :: b :: ks,k=>by
  by_cases hj:j=0\/j=1\/j=-1
  ·obtain ⟨k',ks',f,hl,hm,ha⟩:=QN (a:=k) (b:=b) (ks:=ks) hj
   exact .inr ⟨k',ks',f,by simpa using hl,hm,ha⟩
  ·rcases Lq (b :: ks) j with h|⟨k',ks',f,hl,hm,ha⟩
   ·exact .inl ⟨by omega,h⟩
   ·refine .inr ⟨k,k' :: ks',f,by simpa using hl,?_,fun {n p} h=>?_⟩
    ·show (gF j (b :: ks)).mul (gP k)=jD f ((gF k' ks').mul (gP k))
     rw [hm,B4]
    ·exact ha (h.sh k).qt
theorem Lr:∀(ks:List Int) (k:Int),big ks->(ks=[]\/2<=k\/k<=-2)->(gF k ks).c.natAbs<(gF k ks).d.natAbs
 |[],k,_,_=>by show (0:Int).natAbs<(1:Int).natAbs;decide
 |j :: ks,k,h,hk=>by
  have hk:2<=k\/k<=-2:=by rcases hk with hk|hk;cases hk;exact hk
  have hj:ks=[]\/2<=j\/j<=-2:=by
   cases ks with
   |nil=>exact .inl rfl
   |cons b ks=>exact .inr h.1
  have hb:big ks:=by
   cases ks with
   |nil=>trivial
   |cons b ks=>exact h.2
  have ih:=Lr ks j hb hj;show ((gF j ks).c*0+(gF j ks).d*1).natAbs<((gF j ks).c * -1+(gF j ks).d*k).natAbs;generalize (gF j ks).c=c at ih;generalize (gF j ks).d=d at ih;rw [Int.mul_zero,WV,Int.mul_one];have e:(d*k).natAbs=d.natAbs*k.natAbs:=Int.natAbs_mul d k;have e2:d.natAbs*2<=d.natAbs*k.natAbs:=Nat.mul_le_mul_left _ (by omega);omega
theorem B6{ks:List Int}{k:Int}(h:big ks)(hn:ks≠[]):(gF k ks).c≠0:=by
 cases ks with
 |nil=>exact absurd rfl hn
 |cons j ks =>
  have hj:ks=[]\/2<=j\/j<=-2:=by
   cases ks with
   |nil=>exact .inl rfl
   |cons b ks=>exact .inr h.1
  have hb:big ks:=by
   cases ks with
   |nil=>trivial
   |cons b ks=>exact h.2
  have ih:=Lr ks j hb hj;show (gF j ks).c*0+(gF j ks).d*1≠0;omega
theorem HU:∀(m:Nat) (ks:List Int) (k:Int),ks.length<=m->∀(e:Bool),gF k ks=jD e T4.one->∀{n:Nat} {p:aV},Vf n p->bH n (act k ks p) (nY e p):=by
 intro m
 induction m with
 |zero =>
  intro ks k hl e hm n p h;have:ks=[]:=List.eq_nil_of_length_eq_zero (by omega);subst this;have hm:(⟨1,k,0,1⟩:T4)=jD e T4.one:=hm;cases e with
  |false =>
   have hk:k=0:=congrArg T4.b hm;subst hk;show bH n (Sh 0 p) p;rw [uw h];exact bH.refl h
  |true=>exact absurd (congrArg T4.a hm) (show ¬(1:Int)=-1 by decide)
 |succ m ih =>
  intro ks k hl e hm n p h
  by_cases hn:ks=[]
  ·subst hn
   exact ih [] k (Wd _) e hm h
  ·rcases Lq ks k with hb|⟨k',ks',f,hl',hm',ha⟩
   ·have:=B6 (k:=k) hb hn
    rw [hm] at this;exact absurd (by cases e<;>rfl) this
   ·have hm2:gF k' ks'=jD (f.xor e) T4.one:=by
     have:jD f (gF k ks)=gF k' ks':=by rw [hm',B3,Bool.xor_self];rfl
     rw [<- this,hm,B3]
    have h1:=ih ks' k' (by omega) (f.xor e) hm2 h;have h2:=bH.trans h.act (ha h) (bH.nY h.act h1 f);rw [EU h,<- Bool.xor_assoc,Bool.xor_self,Bool.false_xor] at h2;exact h2
end
def nZ:Nat->aV->aV
 |0,p=>p
 |j+1,p=>Qt (nZ j p)
def stM(p:aV)(s:Sp):aV:=if s.1=true then Sh s.2 p else nZ s.2.toNat p
def oA(p:aV)(w:List Sp):aV:=w.foldl stM p
section
variable {n:Nat}{p q:aV}
theorem Vf.nZ(h:Vf n p):∀j,Vf n (ae.nZ j p)
 |0=>h
 |j+1=>(Vf.nZ h j).qt
theorem Vf.st(h:Vf n p)(s:Sp):Vf n (stM p s):=by
 unfold stM;split
 ·exact h.sh _
 ·exact h.nZ _
theorem Vf.ld:∀{w:List Sp} {p:aV},Vf n p->Vf n (oA p w)
 |[],_,h=>h
 |s :: w,p,h=>Vf.ld (w:=w) (h.st s)
theorem bH.nZ(h:Vf n p)(a:bH n p q):∀j,bH n (ae.nZ j p) (ae.nZ j q)
 |0=>a
 |j+1=>bH.qt (h.nZ j) (bH.nZ h a j)
theorem bH.st(h:Vf n p)(a:bH n p q)(s:Sp):bH n (stM p s) (stM q s):=by
 unfold stM;split
 ·exact bH.sh h a _
 ·exact bH.nZ h a _
theorem bH.ld:∀{w:List Sp} {p q:aV},Vf n p->bH n p q->bH n (oA p w) (oA q w)
 |[],_,_,_,a=>a
 |s :: w,p,q,h,a=>bH.ld (w:=w) (h.st s) (bH.st h a s)
theorem HV(p:aV)(u v:List Sp):oA p (u ++ v)=oA (oA p u) v:=by unfold oA;rw [Wz]
end
theorem QO(s:Sp)(w:List Sp):bX (s :: w)=(bX w).mul (mK s):=by
 have:=xG [s] w;rw [show bX [s]=(mK s).mul T4.one from rfl,T4.mul_one] at this;exact this
theorem Ls(e:Bool)(M N:T4):M.mul (jD e N)=jD e (M.mul N):=by
 cases e
 ·rfl
 ·unfold jD T4.mul;simp only [if_true];congr 1<;>grind
theorem xK(ks:List Int)(j k:Int):(gF k ks).mul (tS j)=gF (j+k) ks:=by
 cases ks with
 |nil=>simp [gF,T4.mul,tS]
 |cons i ks =>
  show ((gF i ks).mul (gP k)).mul (tS j)=(gF i ks).mul (gP (j+k));rw [T4.assoc]
  congr 1
  simp [T4.mul,gP,tS]
theorem xM(ks:List Int)(k:Int):(gF k ks).mul T4.qt=gF 0 (k :: ks):=rfl
theorem Lu:∀{w:List Sp},(∀s∈w,iQ s)->∃(k:Int) (ks:List Int) (f:Bool),bX w=jD f (gF k ks)/\∀{n:Nat} {p:aV},Vf n p->bH n (oA p w) (nY f (act k ks p))
 |[],_=>⟨0,[],false,rfl,fun {n p} h=>by show bH n p (Sh 0 p);rw [uw h];exact bH.refl h⟩
 |s :: w,hw=>by
  obtain ⟨k,ks,f,hm,ha⟩:=Lu (w:=w) fun x hx=>hw x (VL _ hx);have hs:=hw s VN;obtain ⟨b,j⟩:=s;rw [QO,hm];cases b with
  |true =>
   refine ⟨j+k,ks,f,?_,fun {n p} h=>?_⟩
   ·rw [B4];congr 1;exact xK ks j k
   ·have:=ha (h.sh j)
    rw [EV h] at this;exact this
  |false =>
   have c:j=1\/j=2\/j=3:=t3 (hs.1 rfl);rcases c with rfl|rfl|rfl
   ·refine ⟨0,k :: ks,f,?_,fun {n p} h=>?_⟩
    ·rw [B4];congr 1
    ·have:=ha h.qt
     rw [Lp h] at this;exact this
   ·refine ⟨k,ks,!f,?_,fun {n p} h=>?_⟩
    ·rw [B4,show mK (false,2)=jD true T4.one from rfl,Ls,T4.mul_one,B3];cases f<;>rfl
    ·have h1:=ha h.q2
     have h2:=bH.trans (Vf.ld (w:=w) h.q2) h1 (bH.nY (Vf.act h.q2) (B5 h) f);have e:nY f (Q2 (act k ks p))=nY (!f) (act k ks p):=by
      have:=EU (p:=act k ks p) h.act f true;rw [Bool.xor_true] at this;exact this
     rw [e] at h2;exact h2
   ·refine ⟨0,k :: ks,!f,?_,fun {n p} h=>?_⟩
    ·have e3:mK (false,3)=jD true T4.qt:=rfl
     rw [B4,e3,Ls,B3,xM];cases f<;>rfl
    ·have h1:=ha (p:=Q2 (Qt p)) h.qt.q2
     have h2:=bH.trans (Vf.ld (w:=w) h.qt.q2) h1 (bH.nY (Vf.act h.qt.q2) (B5 h.qt) f);have e:nY f (Q2 (act k ks (Qt p)))=nY (!f) (act 0 (k :: ks) p):=by
      have:=EU (p:=act k ks (Qt p)) h.qt.act f true;rw [Bool.xor_true] at this;rw [<- Lp h];exact this
     rw [e] at h2;exact h2
theorem Lv{w:List Sp}(hw:∀s∈w,iQ s)(h1:bX w=T4.one){n:Nat}{p:aV}(h:Vf n p):bH n (oA p w) p:=by
 obtain ⟨k,ks,f,hm,ha⟩:=Lu hw;have e:gF k ks=jD f T4.one:=by
  have:jD f (bX w)=gF k ks:=by rw [hm,B3,Bool.xor_self];rfl
  rw [<- this,h1]
 have h2:=HU ks.length ks k (VC _) f e h;have h3:=bH.trans (Vf.ld h) (ha h) (bH.nY h.act h2 f);rw [EU h,Bool.xor_self] at h3;exact h3
theorem Lw{w:List Sp}(hw:∀s∈w,iQ s):∀s∈o4 w,iQ s:=fun s hs=>by
 unfold o4 at hs;obtain ⟨t,ht,rfl⟩:=VO.mp (WW.mp hs);exact BS (hw t ht)
theorem Lx{w:List Sp}(hw:∀s∈w,iQ s):bX (w ++ o4 w)=T4.one:=by
 have hp:∀s∈w ++ o4 w,iQ s:=fun s hs=>by
  rcases V9.mp hs with hs|hs
  ·exact hw s hs
  ·exact Lw hw s hs
 rw [<- Li hp,Qw hw];rfl
theorem QP{w:List Sp}(hw:∀s∈w,iQ s):(bX w).a*(bX w).d-(bX w).b*(bX w).c=1:=by
 have:=Lx hw;rw [xG,Lj hw] at this;have h:=congrArg T4.a this;have h:(bX w).d*(bX w).a + -(bX w).b*(bX w).c=1:=h;rw [Int.mul_comm (bX w).d,Int.neg_mul] at h;omega
theorem QQ{M:T4}(h:M.a*M.d-M.b*M.c=1):M.mul M.tI=T4.one/\M.tI.mul M=T4.one:=by
 constructor<;>(apply T4.ext'<;>simp [T4.mul,T4.tI,T4.one]<;>grind)
theorem QR{u w:List Sp}(hu:∀s∈u,iQ s)(hw:∀s∈w,iQ s)(e:bX u=bX w){n:Nat}{p:aV}(h:Vf n p):bH n (oA p u) (oA p w):=by
 have hb:=Lw hw
 have h1:bH n (oA p (u ++ o4 w)) p:=Lv (fun s hs=>by
  rcases V9.mp hs with hs|hs
  ·exact hu s hs
  ·exact hb s hs) (by rw [xG,e,<- xG];exact Lx hw) h
 rw [HV] at h1;have h2:=bH.ld (w:=w) (Vf.ld (Vf.ld h)) h1;rw [<- HV] at h2
 have h3:bH n (oA (oA p u) (o4 w ++ w)) (oA p u):=Lv (fun s hs=>by
  rcases V9.mp hs with hs|hs
  ·exact hb s hs
  ·exact hw s hs) (by rw [xG,Lj hw];exact (QQ (QP hw)).1) (Vf.ld h)
 exact bH.trans (Vf.ld h) (bH.symm (Vf.ld (Vf.ld h)) h3) h2
def qO(p:aV)(n:Nat)(s:Int):aV:=(num p.1 (bf p.1 p.2 s n),num p.2 (bf p.1 p.2 s n))
def cT(n:Nat)(p:aV):aV:=lM ((upto n).map (qO p n))
theorem QS{n:Nat}{p q:aV}(n0:0<n)(h:Vf n p)(a:bH n p q):cT n p=cT n q:=by
 obtain ⟨g,hg,rfl⟩:=a;have key:∀s:Int,0<=s->s<(n:Int)->qO (anew p.1 g,anew p.2 g) n (app g s)=qO p n s:=fun s s0 s1=>by
  show (num (anew p.1 g) (bf (anew p.1 g) (anew p.2 g) (app g s) n),num (anew p.2 g) (bf (anew p.1 g) (anew p.2 g) (app g s) n))=_;have hb:=qz h.1 h.2 s0 s1 n;rw [HE h.1 h.2 hg s0 s1 n,Lg h.1 hg hb,Lg h.2 hg hb];rfl
 refine QH (fun x=>?_) (fun e=>?_)
 ·constructor
  ·intro hx
   obtain ⟨s,hs,rfl⟩:=VO.mp hx;obtain ⟨s0,s1⟩:=lb.mp hs;exact VO.mpr ⟨app g s,lb.mpr (hg.app s0 s1),key s s0 s1⟩
  ·intro hx
   obtain ⟨t,ht,rfl⟩:=VO.mp hx;obtain ⟨t0,t1⟩:=lb.mp ht;obtain ⟨p0,p1⟩:=hg.kT t0 t1;refine VO.mpr ⟨app (inv g) t,lb.mpr ⟨p0,p1⟩,?_⟩;have:=key (app (inv g) t) p0 p1;rw [hg.cF t0 t1] at this;exact this.symm
 ·have:=congrArg List.length e
  rw [Vz,ow] at this;simp at this;omega
end ae
namespace ae
section
variable {n:Nat}{p q:aV}{g h:List Int}{s t:Int}
structure Wh(n:Nat)(p:aV):Prop where
 v:Vf n p
 all:∀x:Int,0<=x->x<(n:Int)->iS p.1 p.2 x
theorem Wh.bf(w:Wh n p)(s0:0<=s)(s1:s<(n:Int)):Tn n (bf p.1 p.2 s n):=EM w.v.1 w.v.2 s0 s1 w.all
theorem EW(xs ys:List Int):∀k,∀y∈bf xs ys 0 k,iS xs ys y
 |0,y,hy=>by rw [VY.mp (show y∈[(0:Int)] from hy)];exact .zero
 |k+1,y,hy=>by
  have hy':y∈(match (bf xs ys 0 k)[k]? with|some x=>visit xs ys (bf xs ys 0 k) x|none=>bf xs ys 0 k):=hy;split at hy'
  ·next z hz =>
   have vH:=EW xs ys k z (VI hz);rcases p7.mp hy' with hy'|rfl
   ·rcases p7.mp hy' with hy'|rfl
    ·exact EW xs ys k y hy'
    ·exact vH.r
   ·exact vH.u
  ·exact EW xs ys k y hy'
theorem vI(w:Wh n p)(v:Vf n q)(n0:0<n)(h:∀F:List Int,F.Nodup->(∀x∈F,0<=x/\x<(n:Int))->Cl q.1 q.2 F->Cl p.1 p.2 F):Wh n q:=by
 refine ⟨v,fun x x0 x1=>EW q.1 q.2 n x ?_⟩;have c:=h (bf q.1 q.2 0 n) (xD _ _ _ _) (qz v.1 v.2 (by decide) (by omega) n) (HD v.1 v.2 (by decide) (by omega));refine c.all ?_ (w.all x x0 x1);have:=zU q.1 q.2 0 0 n;rw [Nat.zero_add] at this;exact this.subset (show (0:Int)∈[(0:Int)] by simp)
theorem Ly{zs F:List Int}(hz:Tn n zs)(nd:F.Nodup)(hb:∀x∈F,0<=x/\x<(n:Int))(hc:∀x∈F,app zs x∈F):∀x∈F,app (inv zs) x∈F:=fun x hx=>by
 obtain ⟨x0,x1⟩:=hb x hx;obtain ⟨a0,a1⟩:=hz.kT x0 x1;exact BQ hz nd hb hc a0 a1 (by rw [hz.cF x0 x1];exact hx)
theorem HW{zs F:List Int}(hc:∀x∈F,app zs x∈F){x:Int}(hx:x∈F):∀k,aZ zs x k∈F
 |0=>hx
 |k+1=>hc _ (HW hc hx k)
theorem B7{zs F:List Int}(hz:Tn n zs)(nd:F.Nodup)(hb:∀x∈F,0<=x/\x<(n:Int))(hc:∀x∈F,app zs x∈F)(k:Int){x:Int}(hx:x∈F):pw zs k x∈F:=by
 unfold pw;split
 ·exact HW hc hx _
 ·exact HW (Ly hz nd hb hc) hx _
theorem Wh.sh(w:Wh n p)(n0:0<n)(k:Int):Wh n (Sh k p):=by
 refine vI w (w.v.sh k) n0 fun F nd hb hc x hx=>⟨(hc x hx).1,?_⟩;obtain ⟨x0,x1⟩:=hb x hx;have h1:∀x∈F,app p.1 x∈F:=fun x hx=>(hc x hx).1;have hy:=B7 w.v.1 nd hb h1 k hx;have:=(hc _ hy).2;obtain ⟨y0,y1⟩:=hb _ hy;have e:app (Sh k p).2 (pw p.1 k x)=app p.2 x:=by
  show app (shr p.1 p.2 k) (pw p.1 k x)=_;unfold shr;have hlen:(ck p.1 (-k)).length=n:=(w.v.1.ck (-k)).length;rw [oz y0 (by rw [hlen];exact y1)]
  congr 1
  have e3:=BW w.v.1 k (-k);rw [Int.add_right_neg,HP w.v.1] at e3;have e4:app (aQ (ck p.1 k) (ck p.1 (-k))) x=app (upto n) x:=by rw [e3]
  rw [ER x0 x1,oz x0 (by rw [(w.v.1.ck k).length];exact x1)] at e4;have e5:app (ck p.1 k) x=pw p.1 k x:=pA x0 (by rw [w.v.1.length];exact x1);rw [e5] at e4;exact e4
 rw [e] at this;exact this
theorem Wh.qt(w:Wh n p)(n0:0<n):Wh n (Qt p):=by
 refine vI w w.v.qt n0 fun F nd hb hc x hx=>⟨(hc x hx).2,?_⟩;have:=Ly w.v.2.av nd hb (fun x hx=>(hc x hx).1) x hx;rw [w.v.2.inv_inv] at this;exact this
def Od(xs ys F:List Int):Prop:=F[0]?=some 0/\∀(k:Nat) (y:Int),F[k+1]?=some y->∃(j:Nat) (x:Int),j<=k/\F[j]?=some x/\(y=app xs x\/y=app ys x)
theorem Od.one(xs ys:List Int):Od xs ys [0]:=⟨rfl,fun k y h=>by cases h⟩
theorem Od.snoc{xs ys F:List Int}{x y:Int}(h:Od xs ys F)(hx:x∈F)(hy:y=app xs x\/y=app ys x):Od xs ys (F ++ [y]):=by
 have hl:0<F.length:=List.length_pos_of_mem hx;refine ⟨by rw [VM hl];exact h.1,fun k z hz=>?_⟩
 by_cases hk:k+1<F.length
 ·rw [VM hk] at hz
  obtain ⟨j,x',hj,hx',e⟩:=h.2 k z hz;exact ⟨j,x',hj,by rw [VM (by omega)];exact hx',e⟩
 ·rw [VX (by omega)] at hz
  have hz:z=y:=by
   cases h3:k+1-F.length with
   |zero=>rw [h3] at hz;cases hz;rfl
   |succ m=>rw [h3] at hz;cases hz
  obtain ⟨j,hj,e⟩:=WK hx;have nh:k+1=F.length\/F.length<k+1:=by omega
  refine ⟨j,x,by omega,by rw [VM hj,VB hj,e],by rw [hz];exact hy⟩
structure Fo(xs ys F:List Int):Prop extends Fd xs ys F where
 od:Od xs ys F
theorem Fo.one(xs ys:List Int):Fo xs ys [0]:=⟨Fd.one xs ys,Od.one xs ys⟩
end
end ae
namespace ae
section
variable {n:Nat}{xs ys r r' r2:List Int}{i j x y:Int}
def Sm(xs ys r:List Int):Prop:=∀s∈r,app ys (app xs s)=app xs (app ys s)
instance:Decidable (Sm xs ys r):=inferInstanceAs (Decidable (∀s∈r,app ys (app xs s)=app xs (app ys s)))
end
end ae
namespace ae
section
variable {n:Nat}{p q:aV}{g:List Int}
theorem Wh.nZ(w:Wh n p)(n0:0<n):∀j,Wh n (ae.nZ j p)
 |0=>w
 |j+1=>(w.nZ n0 j).qt n0
theorem Wh.st(w:Wh n p)(n0:0<n)(s:Sp):Wh n (stM p s):=by
 unfold stM;split
 ·exact w.sh n0 _
 ·exact w.nZ n0 _
end
end ae
namespace ae
end ae
namespace ae
section
variable {n:Nat}{p q:aV}
theorem B8(p:aV)(n0:0<n):∃s:Int,0<=s/\s<(n:Int)/\cT n p=qO p n s:=by
 have h:=(HL (l:=(upto n).map (qO p n)) (fun e=>by
  have:=congrArg List.length e;rw [Vz,ow] at this;simp at this
  omega)).1
 obtain ⟨s,hs,e⟩:=VO.mp h;obtain ⟨s0,s1⟩:=lb.mp hs;exact ⟨s,s0,s1,e.symm⟩
end
end ae
namespace L4
open PySem PySem.Spec L2
inductive D where
 |non|bl (b:Bool)|int (i:Int)|str (x:Str)|ty (n:String)|tup (ds:List D)|ref (i:Nat)
instance:Inhabited D:=⟨.non⟩
inductive O where
 |lst (ds:List D)|oB (ds:List D)|dct (kvs:List (Key×D))|B9 (kvs:List (List Int×D))|exc (c:Str) (fs:List (Str×D))|any|gR (lo hi:Int)
abbrev Store:=List O
abbrev ai:=List (Option D)
abbrev Dm(α:Type):=Store->Option (α×Store)
inductive Fl where
 |nx (δ:ai)|bk (δ:ai)|ct (δ:ai)|rt (d:D)
mutual
inductive Rp(K:Zfr)(ρ:List Addr)(H:Hp):V->D->Prop
 |non:Rp K ρ H .non .non
 |bl (b:Bool):Rp K ρ H (.bl b) (.bl b)
 |int (i:Int):Rp K ρ H (.int i) (.int i)
 |str (x:Str):Rp K ρ H (.str x) (.str x)
 |ty (n:String):Rp K ρ H (.ty n) (.ty n)
 |ref {a:Addr} {i:Nat}:ρ[i]?=some a->Rp K ρ H (.ref a) (.ref i)
 |tup {a:Addr} {vs:List V} {ds:List D}:eu K H a vs->cf K ρ H vs ds->Rp K ρ H (.ref a) (.tup ds)
inductive cf(K:Zfr)(ρ:List Addr)(H:Hp):List V->List D->Prop
 |nil:cf K ρ H [] []
 |cons {v:V} {vs:List V} {d:D} {ds:List D}:Rp K ρ H v d->cf K ρ H vs ds->cf K ρ H (v :: vs) (d :: ds)
end
structure Mn(K:Zfr)(ρ:List Addr)(H:Hp)(ρ':List Addr)(H':Hp):Prop where
 r:∀(i:Nat) (a:Addr),ρ[i]?=some a->ρ'[i]?=some a
 t:∀a vs,eu K H a vs->eu K H' a vs
 f:∀a o u,H a=some (.mC o u)->H' a=some (.mC o u)
 x:∀a ws,H a=some (.xd ws)->H' a=some (.xd ws)
section
variable {K:Zfr}{ρ ρ' ρ2:List Addr}{H H' H2:Hp}
theorem Mn.refl:Mn K ρ H ρ H:=⟨fun _ _ h=>h,fun _ _ h=>h,fun _ _ _ h=>h,fun _ _ h=>h⟩
theorem Mn.trans(m:Mn K ρ H ρ' H')(n:Mn K ρ' H' ρ2 H2):Mn K ρ H ρ2 H2:=⟨fun i a h=>n.r i a (m.r i a h),fun a vs h=>n.t a vs (m.t a vs h),fun a o u h=>n.f a o u (m.f a o u h),fun a ws h=>n.x a ws (m.x a ws h)⟩
mutual
theorem Rp.mn(m:Mn K ρ H ρ' H'):∀{v:V} {d:D},Rp K ρ H v d->Rp K ρ' H' v d
 |_,_,.non=>.non
 |_,_,.bl b=>.bl b
 |_,_,.int i=>.int i
 |_,_,.str x=>.str x
 |_,_,.ty n=>.ty n
 |_,_,.ref e=>.ref (m.r _ _ e)
 |_,_,.tup q r=>.tup (m.t _ _ q) (cf.mn m r)
theorem cf.mn(m:Mn K ρ H ρ' H'):∀{vs:List V} {ds:List D},cf K ρ H vs ds->cf K ρ' H' vs ds
 |_,_,.nil=>.nil
 |_,_,.cons a b=>.cons (Rp.mn m a) (cf.mn m b)
end
theorem cf.length:∀{vs:List V} {ds:List D},cf K ρ H vs ds->vs.length=ds.length
 |_,_,.nil=>rfl
 |_,_,.cons _ r=>by rw [V6,V6,r.length]
theorem cf.got:∀{vs:List V} {ds:List D},cf K ρ H vs ds->∀{i:Nat} {d:D},ds[i]?=some d->∃v,vs[i]?=some v/\Rp K ρ H v d
 |_,_,.nil,i,v,e=>by simp at e
 |_,_,.cons (v:=v) a b,0,d,e=>⟨v,by simp,by have:_=d:=VJ (by simpa using e);rw [<- this];exact a⟩
 |_,_,.cons a b,i+1,d,e=>by
  obtain ⟨v,e1,r⟩:=cf.got b (i:=i) (by simpa using e);exact ⟨v,by simpa using e1,r⟩
theorem cf.append:∀{vs:List V} {ds:List D} {ws:List V} {es:List D},cf K ρ H vs ds->cf K ρ H ws es->cf K ρ H (vs ++ ws) (ds ++ es)
 |_,_,_,_,.nil,s=>s
 |_,_,_,_,.cons a b,s=>.cons a (cf.append b s)
theorem cf.one{v:V}{d:D}(r:Rp K ρ H v d):cf K ρ H [v] [d]:=.cons r .nil
theorem cf.take:∀{vs:List V} {ds:List D} (n:Nat),cf K ρ H vs ds->cf K ρ H (vs.take n) (ds.take n)
 |_,_,0,_=>.nil
 |_,_,_+1,.nil=>.nil
 |_,_,n+1,.cons r t=>.cons r (cf.take n t)
theorem cf.drop:∀{vs:List V} {ds:List D} (n:Nat),cf K ρ H vs ds->cf K ρ H (vs.drop n) (ds.drop n)
 |_,_,0,r=>r
 |_,_,_+1,.nil=>.nil
 |_,_,n+1,.cons _ t=>cf.drop n t
theorem cf.set{v:V}{d:D}(r:Rp K ρ H v d):∀{vs:List V} {ds:List D} (i:Nat),cf K ρ H vs ds->cf K ρ H (vs.set i v) (ds.set i d)
 |_,_,_,.nil=>.nil
 |_,_,0,.cons _ t=>.cons r t
 |_,_,i+1,.cons q t=>.cons q (cf.set r i t)
theorem cf.erase:∀{vs:List V} {ds:List D} (i:Nat),cf K ρ H vs ds->cf K ρ H (vs.eraseIdx i) (ds.eraseIdx i)
 |_,_,_,.nil=>.nil
 |_,_,0,.cons _ t=>t
 |_,_,i+1,.cons q t=>.cons q (cf.erase i t)
theorem cf.flat{vs:List V}{ds:List D}(r:cf K ρ H vs ds):∀n:Nat,cf K ρ H (List.replicate n vs).flatten (List.replicate n ds).flatten
 |0=>.nil
 |n+1=>by rw [Wq,Wq,WQ,WQ];exact r.append (r.flat n)
theorem cf.ints:∀(ns:List Int),cf K ρ H (ns.map V.int) (ns.map D.int)
 |[]=>.nil
 |n :: r=>.cons (.int n) (cf.ints r)
end
def Rs(K:Zfr)(ρ:List Addr)(H:Hp)(σ:St)(δ:ai):Prop:=σ.length=δ.length/\∀(i:Nat) (d:D),δ[i]?=some (some d)->∃v,σ[i]?=some (some v)/\Rp K ρ H v d
def Rk(K:Zfr)(ρ:List Addr)(H:Hp):List (Key×V)->List (Key×D)->Prop:=Paired fun p q=>p.1=q.1/\Rp K ρ H p.2 q.2
def Ru(K:Zfr)(ρ:List Addr)(H:Hp):List (List Int×D)->List (List Int×Addr×Value)->Prop:=Paired fun q x=>q.1=x.1/\eu K H x.2.1 (x.1.map V.int)/\∃v,RelV v x.2.2/\Rp K ρ H v q.2
def Xd(K:Zfr)(ρ:List Addr)(H:Hp):Option Addr->List (Str×D)->Prop
 |none,fs=>fs=[]
 |some d,fs=>∃ws,H d=some (.xd ws)/\∀f e,fs.lookup f=some e->∃v,ws.lookup f=some v/\Rp K ρ H v e
def vJ(K:Zfr)(ρ:List Addr)(H:Hp)(a:Addr):O->Prop
 |.lst ds=>∃vs,H a=some (.lst vs)/\cf K ρ H vs ds
 |.oB ds=>∃vs,Bo K H a vs/\cf K ρ H vs ds
 |.dct kvs=>∃ws,H a=some (.dK ws)/\Rk K ρ H ws kvs
 |.B9 kvs=>∃xs,H a=some (DU a xs)/\Ru K ρ H kvs xs
 |.exc c fs=>∃C dx tr,PySem.W.nsIn K mainGlobals c=some (some (.ref C))/\H a=some (XO a C dx tr)/\Xd K ρ H dx fs
 |.any=>True
 |.gR lo hi=>H a=some (.gR lo hi)
def O.mut:O->Bool
 |.oB _=>false
 |.any=>false
 |_=>true
structure Rl(K:Zfr)(ρ:List Addr)(H:Hp)(st:Store):Prop where
 len:ρ.length=st.length
 nd:∀(i j:Nat) (a:Addr) (o o':O),ρ[i]?=some a->ρ[j]?=some a->st[i]?=some o->st[j]?=some o'->o.mut=true->o'.mut=true->i=j
 obj:∀(i:Nat) (a:Addr) (o:O),ρ[i]?=some a->st[i]?=some o->vJ K ρ H a o
section
variable {K:Zfr}{ρ ρ' ρ2:List Addr}{H H' H2:Hp}{st st':Store}{a p:Addr}{i:Nat}{o o':O}{ho:HO}{σ:St}{δ:ai}
theorem Rs.mn(h:Rs K ρ H σ δ)(m:Mn K ρ H ρ' H'):Rs K ρ' H' σ δ:=⟨h.1,fun i d e=>let ⟨v,e1,r⟩:=h.2 i d e;⟨v,e1,r.mn m⟩⟩
theorem Rk.mn(m:Mn K ρ H ρ' H'){ws:List (Key×V)}{kvs:List (Key×D)}(h:Rk K ρ H ws kvs):Rk K ρ' H' ws kvs:=by
 induction h with
 |nil=>exact .nil
 |cons a _ ih=>exact .cons ⟨a.1,a.2.mn m⟩ ih
theorem Ru.mn(m:Mn K ρ H ρ' H'){kvs:List (List Int×D)}{xs:List (List Int×Addr×Value)}(h:Ru K ρ H kvs xs):Ru K ρ' H' kvs xs:=by
 induction h with
 |nil=>exact .nil
 |cons a _ ih=>obtain ⟨a1,a2,v,a3,a4⟩:=a;exact .cons ⟨a1,m.t _ _ a2,v,a3,a4.mn m⟩ ih
theorem Xd.mn(m:Mn K ρ H ρ' H'){dx:Option Addr}{fs:List (Str×D)}(h:Xd K ρ H dx fs):Xd K ρ' H' dx fs:=by
 cases dx with
 |none=>exact h
 |some d=>obtain ⟨ws,e,q⟩:=h;exact ⟨ws,m.x _ _ e,fun f e' z=>let ⟨v,z1,z2⟩:=q f e' z;⟨v,z1,z2.mn m⟩⟩
theorem vJ.keep(m:Mn K ρ H ρ' H')(h:∀u,H a=some u->H' a=some u)(r:vJ K ρ H a o):vJ K ρ' H' a o:=by
 cases o with
 |lst ds=>obtain ⟨vs,e,q⟩:=r;exact ⟨vs,h _ e,q.mn m⟩
 |oB ds =>
  obtain ⟨vs,e,q⟩:=r;refine ⟨vs,?_,q.mn m⟩;rcases e with ⟨u,e⟩|e
  ·exact .inl ⟨u,h _ e⟩
  ·exact .inr e
 |dct kvs=>obtain ⟨ws,e,q⟩:=r;exact ⟨ws,h _ e,q.mn m⟩
 |B9 kvs=>obtain ⟨ws,e,q⟩:=r;exact ⟨ws,h _ e,q.mn m⟩
 |exc c fs=>obtain ⟨C,dx,tr,n,e,q⟩:=r;exact ⟨C,dx,tr,n,h _ e,q.mn m⟩
 |any=>trivial
 |gR lo hi=>exact h _ r
theorem Mn.same(s:dY H H'):Mn K ρ H ρ H':=⟨fun _ _ h=>h,fun _ _ h=>(Kp.of_same (ch:=[]) s).G3 h,fun _ _ _ h=>s _ _ h,fun _ _ h=>s _ _ h⟩
theorem Rl.same(l:Rl K ρ H st)(s:dY H H'):Rl K ρ H' st:=⟨l.len,l.nd,fun i a o h1 h2=>(l.obj i a o h1 h2).keep (Mn.same s) fun u e=>s _ _ e⟩
theorem Rl.at(l:Rl K ρ H st)(h1:ρ[i]?=some a)(h2:st[i]?=some o)(hm:o.mut=true):∃u,H a=some u/\∀x y,u≠.mC x y:=by
 have r:=l.obj i a o h1 h2;cases o with
 |lst ds=>obtain ⟨vs,e,_⟩:=r;exact ⟨_,e,fun x y z=>nomatch z⟩
 |oB ds=>cases hm
 |dct kvs=>obtain ⟨ws,e,_⟩:=r;exact ⟨_,e,fun x y z=>nomatch z⟩
 |B9 kvs=>obtain ⟨ws,e,_⟩:=r;exact ⟨_,e,fun x y z=>by cases z⟩
 |exc c fs=>obtain ⟨C,dx,tr,_,e,_⟩:=r;exact ⟨_,e,fun x y z=>by cases z⟩
 |any=>cases hm
 |gR lo hi=>exact ⟨_,r,fun x y z=>nomatch z⟩
theorem Mn.new(hp:H p=none):Mn K ρ H (ρ ++ [p]) (upd H p ho):=⟨fun i a h=>by
  obtain ⟨hi,_⟩:=VA.mp h
  rw [VM hi];exact h,fun _ _ h=>(Kp.of_same (ch:=[]) (dY.up hp)).G3 h,fun _ _ _ h=>dY.up hp _ _ h,fun _ _ h=>dY.up hp _ _ h⟩
theorem Rl.new(l:Rl K ρ H st)(hp:H p=none)(mk:vJ K (ρ ++ [p]) (upd H p ho) p o):Rl K (ρ ++ [p]) (upd H p ho) (st ++ [o]):=by
 have m:Mn K ρ H (ρ ++ [p]) (upd H p ho):=Mn.new hp;have split:∀(i:Nat) (a:Addr) (o':O),(ρ ++ [p])[i]?=some a->(st ++ [o])[i]?=some o'->(ρ[i]?=some a/\st[i]?=some o')\/(i=ρ.length/\a=p/\o'=o):=fun i a o' h1 h2=>by
  by_cases hi:i<ρ.length
  ·rw [VM hi] at h1
   rw [VM (by rw [<- l.len];exact hi)] at h2;exact .inl ⟨h1,h2⟩
  ·obtain ⟨hb,_⟩:=VA.mp h1
   rw [VE,WO] at hb;have e:i=ρ.length:=by omega
   subst e;rw [VX (VC _),WJ] at h1;rw [l.len,VX (VC _),WJ] at h2;exact .inr ⟨rfl,(VJ h1).symm,(VJ h2).symm⟩
 refine ⟨by rw [VE,VE,l.len];rfl,fun i j a u u' h1 h2 h3 h4 m1 m2=>?_,fun i a u h1 h2=>?_⟩
 ·rcases split i a u h1 h3 with ⟨g1,g2⟩|⟨rfl,rfl,rfl⟩<;>rcases split j _ u' h2 h4 with ⟨k1,k2⟩|⟨k1,k2,k3⟩
  ·exact l.nd i j a u u' g1 k1 g2 k2 m1 m2
  ·subst k2
   obtain ⟨w,e,_⟩:=l.at g1 g2 m1;rw [e] at hp;cases hp
  ·obtain ⟨w,e,_⟩:=l.at k1 k2 m2
   rw [e] at hp;cases hp
  ·exact k1.symm
 ·rcases split i a u h1 h2 with ⟨g1,g2⟩|⟨rfl,rfl,rfl⟩
  ·exact (l.obj i a u g1 g2).keep m fun w e=>dY.up hp _ _ e
  ·exact mk
theorem Rl.put(l:Rl K ρ H st)(hi:ρ[i]?=some a)(hs:st[i]?=some o)(hm:o.mut=true)(hm':o'.mut=true)(m:Mn K ρ H ρ (upd H a ho))(r:vJ K ρ (upd H a ho) a o'):Rl K ρ (upd H a ho) (st.set i o'):=by
 obtain ⟨w,ew,nf⟩:=l.at hi hs hm;have QT:i<st.length:=(VA.mp hs).1;have old:∀(j:Nat) (u:O),(st.set i o')[j]?=some u->(j=i/\u=o')\/(j≠i/\st[j]?=some u):=fun j u h=>by
  by_cases hj:i=j
  ·subst hj
   rw [VG QT] at h;exact .inl ⟨rfl,(VJ h).symm⟩
  ·rw [VF hj] at h
   exact .inr ⟨fun z=>hj z.symm,h⟩
 refine ⟨by rw [Wc];exact l.len,fun j k b u u' h1 h2 h3 h4 m1 m2=>?_,fun j b u h1 h2=>?_⟩
 ·rcases old j u h3 with ⟨rfl,rfl⟩|⟨nj,g3⟩<;>rcases old k u' h4 with ⟨rfl,rfl⟩|⟨nk,g4⟩
  ·rfl
  ·exact l.nd _ _ b o u' h1 h2 hs g4 hm m2
  ·exact l.nd _ _ b u o h1 h2 g3 hs m1 hm
  ·exact l.nd _ _ b u u' h1 h2 g3 g4 m1 m2
 ·rcases old j u h2 with ⟨rfl,rfl⟩|⟨nj,g2⟩
  ·rw [hi] at h1;cases h1;exact r
  ·by_cases hb:b=a
   ·subst hb
    cases u with
    |oB ds =>
     obtain ⟨vs,e,q⟩:=l.obj j b _ h1 g2;refine ⟨vs,?_,q.mn m⟩;rcases e with ⟨x,e⟩|e
     ·rw [ew] at e;cases e;exact absurd rfl (nf _ _)
     ·exact .inr e
    |lst ds=>exact absurd (l.nd j i b _ o h1 hi g2 hs rfl hm) nj
    |B9 ds=>exact absurd (l.nd j i b _ o h1 hi g2 hs rfl hm) nj
    |exc c fs=>exact absurd (l.nd j i b _ o h1 hi g2 hs rfl hm) nj
    |dct ds=>exact absurd (l.nd j i b _ o h1 hi g2 hs rfl hm) nj
    |any=>trivial
    |gR lo up=>exact absurd (l.nd j i b _ o h1 hi g2 hs rfl hm) nj
   ·exact (l.obj j b u h1 g2).keep m fun w e=>by rw [di hb];exact e
theorem Mn.put{xs:List V}(e:H a=some (.lst xs)):Mn K ρ H ρ (upd H a ho):=⟨fun _ _ h=>h,fun b vs h=>(Kp.put (ch:=[a]) (o:=ho) Kp.refl (by simp) e).G3 h,fun b o u h=>by rw [di (fun z=>by rw [z,e] at h;cases h)];exact h,fun b ws h=>by rw [di (fun z=>by rw [z,e] at h;cases h)];exact h⟩
theorem Mn.putD{ws:List (Key×V)}(e:H a=some (.dK ws)):Mn K ρ H ρ (upd H a ho):=⟨fun _ _ h=>h,fun b vs q=>by
 have ne:∀u,H b=some u->(∀w,u≠.dK w)->b≠a:=fun u hu n z=>by rw [z,e] at hu;cases hu;exact n _ rfl
 rcases q with (q|⟨o,q⟩)|q
 ·exact .inl (.inl (by rw [di (ne _ q fun w z=>nomatch z)];exact q))
 ·exact .inl (.inr ⟨o,by rw [di (ne _ q fun w z=>nomatch z)];exact q⟩)
 ·exact .inr q,fun b o u h=>by rw [di (fun z=>by rw [z,e] at h;cases h)];exact h,fun b ws h=>by rw [di (fun z=>by rw [z,e] at h;cases h)];exact h⟩
theorem Rl.newL{vs:List V}{ds:List D}(l:Rl K ρ H st)(hp:H p=none)(r:cf K ρ H vs ds):Rl K (ρ ++ [p]) (upd H p (.lst vs)) (st ++ [.lst ds]):=l.new hp ⟨vs,kS,r.mn (Mn.new hp)⟩
theorem Rl.newD{vs:List (Key×V)}{ds:List (Key×D)}(l:Rl K ρ H st)(hp:H p=none)(r:Rk K ρ H vs ds):Rl K (ρ ++ [p]) (upd H p (.dK vs)) (st ++ [.dct ds]):=l.new hp ⟨vs,kS,r.mn (Mn.new hp)⟩
theorem newR(l:Rl K ρ H st)(v:D:=.ref st.length):(ρ ++ [p])[st.length]?=some p:=by rw [<- l.len,VX (VC _),WJ];rfl
theorem Rl.putL{vs:List V}{ds xs:List D}(l:Rl K ρ H st)(hi:ρ[i]?=some a)(hs:st[i]?=some (.lst xs))(r:cf K ρ H vs ds):Rl K ρ (upd H a (.lst vs)) (st.set i (.lst ds))/\Mn K ρ H ρ (upd H a (.lst vs)):=by
 obtain ⟨ws,e,_⟩:=l.obj i a _ hi hs;have m:Mn K ρ H ρ (upd H a (.lst vs)):=Mn.put e;exact ⟨l.put hi hs rfl rfl m ⟨vs,kS,r.mn m⟩,m⟩
theorem Rl.xN{vs:List (Key×V)}{ds xs:List (Key×D)}(l:Rl K ρ H st)(hi:ρ[i]?=some a)(hs:st[i]?=some (.dct xs))(r:Rk K ρ H vs ds):Rl K ρ (upd H a (.dK vs)) (st.set i (.dct ds))/\Mn K ρ H ρ (upd H a (.dK vs)):=by
 obtain ⟨ws,e,_⟩:=l.obj i a _ hi hs;have m:Mn K ρ H ρ (upd H a (.dK vs)):=Mn.putD e;exact ⟨l.put hi hs rfl rfl m ⟨vs,kS,r.mn m⟩,m⟩
def items(st:Store)(i:Nat):Option (List D):=match st[i]? with
 |some (.lst ds)=>some ds
 |some (.oB ds)=>some ds
 |_=>none
theorem Rl.items{ds:List D}(l:Rl K ρ H st)(hi:ρ[i]?=some a)(h:items st i=some ds):∃vs,jC K H a vs/\cf K ρ H vs ds:=by
 unfold L4.items at h;split at h
 ·next ds' hs=>cases h;obtain ⟨vs,e,r⟩:=l.obj i a _ hi hs;exact ⟨vs,.inl (.inl e),r⟩
 ·next ds' hs=>cases h;obtain ⟨vs,e,r⟩:=l.obj i a _ hi hs;exact ⟨vs,e.sq,r⟩
 ·cases h
end
def So(K:Zfr){α β:Type}(R:List Addr->Hp->α->β->Prop)(t:St->Hp->(α->Hp->Prop)->Prop)(f:ai->Dm β):Prop :=
 ∀(ρ:List Addr) (σ:St) (H:Hp) (δ:ai) (st:Store) (b:β) (st':Store) (Q:α->Hp->Prop),Rl K ρ H st->Rs K ρ H σ δ->f δ st=some (b,st') ->
  (∀a H' ρ',Mn K ρ H ρ' H'->Rl K ρ' H' st'->R ρ' H' a b->Q a H')->t σ H Q
abbrev dk(K:Zfr)(t:TE)(f:ai->Dm D):Prop:=So K (Rp K) t f
abbrev p9(K:Zfr)(t:TT)(f:ai->Dm Bool):Prop:=So K (fun _ _=>Eq) t f
abbrev o6(K:Zfr)(t:TA)(f:ai->Dm (List D)):Prop:=So K (cf K) t f
abbrev EX(K:Zfr)(t:TO)(f:ai->Dm (Option Int)):Prop:=So K (fun _ _=>Eq) t f
def HX(K:Zfr)(r:V->Hp->VK->Prop)(g:D->Dm D):Prop :=
 ∀(ρ:List Addr) (H:Hp) (st:Store) (x:V) (a:D) (b:D) (st':Store) (Q:VK),Rl K ρ H st->Rp K ρ H x a->g a st=some (b,st')->(∀v H' ρ',Mn K ρ H ρ' H'->Rl K ρ' H' st'->Rp K ρ' H' v b->Q v H')->r x H Q
def lO(K:Zfr)(r:R2)(g:D->D->Dm D):Prop :=
 ∀(ρ:List Addr) (H:Hp) (st:Store) (x y:V) (a c:D) (b:D) (st':Store) (Q:VK),Rl K ρ H st->Rp K ρ H x a->Rp K ρ H y c->g a c st=some (b,st')->(∀v H' ρ',Mn K ρ H ρ' H'->Rl K ρ' H' st'->Rp K ρ' H' v b->Q v H')->r x y H Q
def qP(K:Zfr)(r:List V->Hp->VK->Prop)(g:List D->Dm D):Prop :=
 ∀(ρ:List Addr) (H:Hp) (st:Store) (xs:List V) (as:List D) (b:D) (st':Store) (Q:VK),Rl K ρ H st->cf K ρ H xs as->g as st=some (b,st')->(∀v H' ρ',Mn K ρ H ρ' H'->Rl K ρ' H' st'->Rp K ρ' H' v b->Q v H')->r xs H Q
def vK(K:Zfr)(T:String)(r:V->List V->Hp->VK->Prop)(g:D->List D->Dm D):Prop :=
 ∀(ρ:List Addr) (H:Hp) (st:Store) (x:V) (xs:List V) (a:D) (as:List D) (b:D) (st':Store) (Q:VK),Rl K ρ H st->Rp K ρ H x a->cf K ρ H xs as->g a as st=some (b,st')->(∀v H' ρ',Mn K ρ H ρ' H'->Rl K ρ' H' st'->Rp K ρ' H' v b->Q v H')->r x xs H Q
def bnd{α β:Type}(m:Option (α×Store))(k:α->Dm β):Option (β×Store):=match m with
 |some (a,st)=>k a st
 |none=>none
theorem cn{α β:Type}{m:Option (α×Store)}{k:α->Dm β}{r:β×Store}(h:bnd m k=some r):∃a st,m=some (a,st)/\k a st=some r:=by
 cases m with
 |none=>cases h
 |some p=>exact ⟨p.1,p.2,rfl,h⟩
section
variable {K:Zfr}
def ag(i:Nat):ai->Dm D:=fun δ st=>match δ[i]? with
 |some (some d)=>some (d,st)
 |_=>none
theorem aj(i:Nat):dk K (rh i) (ag i):=by
 intro ρ σ H δ st b st' Q l rs e q;unfold ag at e;split at e
 ·next d hd=>cases e;obtain ⟨v,ev,r⟩:=rs.2 i _ hd;exact ⟨v,ev,q v H ρ .refl l r⟩
 ·cases e
def fC(d:D):ai->Dm D:=fun _ st=>some (d,st)
theorem sd{v:V}{d:D}(h:∀ρ H,Rp K ρ H v d):dk K (tC v) (fC d):=by
 intro ρ σ H δ st b st' Q l rs e q;cases e;exact q v H ρ .refl l (h ρ H)
theorem aU(i:Int):dk K (tC (.int i)) (fC (.int i)):=sd fun _ _=>.int i
theorem vL(b:Bool):dk K (tC (.bl b)) (fC (.bl b)):=sd fun _ _=>.bl b
theorem tJ(x:Str):dk K (tC (.str x)) (fC (.str x)):=sd fun _ _=>.str x
theorem Ca:dk K (tC .non) (fC .non):=sd fun _ _=>.non
def aD(g:D->D->Dm D)(fa fb:ai->Dm D):ai->Dm D:=fun δ st=>bnd (fa δ st) fun a st1=>bnd (fb δ st1) fun b st2=>g a b st2
theorem aI{r:R2}{g:D->D->Dm D}{ta tb:TE}{fa fb:ai->Dm D}(hr:lO K r g)(ha:dk K ta fa)(hb:dk K tb fb):dk K (A0 r ta tb) (aD g fa fb):=by
 intro ρ σ H δ st b st' Q l rs e q;obtain ⟨a,st1,e1,e⟩:=cn e;obtain ⟨c,st2,e2,e⟩:=cn e;refine ha ρ σ H δ st a st1 _ l rs e1 fun x H1 ρ1 m1 l1 r1=>hb ρ1 σ H1 δ st1 c st2 _ l1 (rs.mn m1) e2 fun y H2 ρ2 m2 l2 r2=>?_;exact hr ρ2 H2 st2 x y a c b st' Q l2 (r1.mn m2) r2 e fun v H3 ρ3 m3 l3 r3=>q v H3 ρ3 ((m1.trans m2).trans m3) l3 r3
def ux(g:D->Dm D)(fa:ai->Dm D):ai->Dm D:=fun δ st=>bnd (fa δ st) fun a st1=>g a st1
theorem xO{r:V->Hp->VK->Prop}{g:D->Dm D}{ta:TE}{fa:ai->Dm D}(hr:HX K r g)(ha:dk K ta fa):dk K (Jx r ta) (ux g fa):=by
 intro ρ σ H δ st b st' Q l rs e q;obtain ⟨a,st1,e1,e⟩:=cn e;exact ha ρ σ H δ st a st1 _ l rs e1 fun x H1 ρ1 m1 l1 r1=>hr ρ1 H1 st1 x a b st' Q l1 r1 e fun v H3 ρ3 m3 l3 r3=>q v H3 ρ3 (m1.trans m3) l3 r3
def ah:ai->Dm (List D):=fun _ st=>some ([],st)
def af(fa:ai->Dm D)(fr:ai->Dm (List D)):ai->Dm (List D):=fun δ st=>bnd (fa δ st) fun a st1=>bnd (fr δ st1) fun r st2=>some (a :: r,st2)
theorem aA:o6 K qo ah:=by
 intro ρ σ H δ st b st' Q l rs e q;cases e;exact q [] H ρ .refl l .nil
theorem au{ta:TE}{tr:TA}{fa:ai->Dm D}{fr:ai->Dm (List D)}(ha:dk K ta fa)(hr:o6 K tr fr):o6 K (jI ta tr) (af fa fr):=by
 intro ρ σ H δ st b st' Q l rs e q;obtain ⟨a,st1,e1,e⟩:=cn e;obtain ⟨c,st2,e2,e⟩:=cn e;cases e;exact ha ρ σ H δ st a st1 _ l rs e1 fun x H1 ρ1 m1 l1 r1=>hr ρ1 σ H1 δ st1 c _ _ l1 (rs.mn m1) e2 fun y H2 ρ2 m2 l2 r2=>q _ H2 ρ2 (m1.trans m2) l2 (.cons (r1.mn m2) r2)
def lim(n:Nat):Bool:=Nat.ble n 100000
theorem Cb{n:Nat}(h:lim n=true):n<=sizeLine:=V3 (Nat.le_of_ble_eq_true h) (by decide)
theorem HY{n:Nat}(h:lim n=true):n<sizeLine:=Ww (Nat.le_of_ble_eq_true h) (by decide)
def bS(fa:ai->Dm (List D)):ai->Dm D:=fun δ st=>bnd (fa δ st) fun as st1=>if lim as.length=true then some (.tup as,st1) else none
theorem jL{ta:TA}{fa:ai->Dm (List D)}(ha:o6 K ta fa):dk K (rA ta) (bS fa):=by
 intro ρ σ H δ st b st' Q l rs e q;obtain ⟨as,st1,e1,e⟩:=cn e;split at e
 ·next hl =>
  cases e;refine ha ρ σ H δ st as _ _ l rs e1 fun xs H1 ρ1 m1 l1 r1=>⟨by rw [r1.length];exact Cb hl,fun p hp=>?_⟩;have m2:Mn K ρ1 H1 ρ1 (upd H1 p (.tup xs)):=Mn.same (dY.up hp);exact q _ _ ρ1 (m1.trans m2) (l1.same (dY.up hp)) (.tup (eu.of kS) (r1.mn m2))
 ·cases e
def cL(fa:ai->Dm (List D)):ai->Dm D:=fun δ st=>bnd (fa δ st) fun as st1=>if lim as.length=true then some (.ref st1.length,st1 ++ [.lst as]) else none
theorem kh{ta:TA}{fa:ai->Dm (List D)}(ha:o6 K ta fa):dk K (A5 ta) (cL fa):=by
 intro ρ σ H δ st b st' Q l rs e q;obtain ⟨as,st1,e1,e⟩:=cn e;split at e
 ·next hl =>
  cases e;refine ha ρ σ H δ st as _ _ l rs e1 fun xs H1 ρ1 m1 l1 r1=>⟨by rw [r1.length];exact Cb hl,fun p hp=>?_⟩;exact q _ _ _ (m1.trans (Mn.new hp)) (l1.newL hp r1) (.ref (newR l1))
 ·cases e
def aC(fa:ai->Dm D):ai->Dm Bool:=fun δ st=>bnd (fa δ st) fun a st1=>match a with
 |.bl b=>some (b,st1)
 |_=>none
theorem gG{ta:TE}{fa:ai->Dm D}(ha:dk K ta fa):p9 K (va ta) (aC fa):=by
 intro ρ σ H δ st b st' Q l rs e q;obtain ⟨a,st1,e1,e⟩:=cn e;cases a<;>simp at e;obtain ⟨rfl,rfl⟩:=e;refine ha ρ σ H δ st _ _ _ l rs e1 fun x H1 ρ1 m1 l1 r1=>?_;cases r1;exact ⟨_,rfl,q _ H1 ρ1 m1 l1 rfl⟩
theorem EY{ta:TE}{fa:ai->Dm D}(ha:dk K ta fa):p9 K (tB ta) (aC fa):=gG ha
def se(fa:ai->Dm Bool):ai->Dm Bool:=fun δ st=>bnd (fa δ st) fun a st1=>some (!a,st1)
theorem xP{ta:TT}{fa:ai->Dm Bool}(ha:p9 K ta fa):p9 K (AI ta) (se fa):=by
 intro ρ σ H δ st b st' Q l rs e q;obtain ⟨a,st1,e1,e⟩:=cn e;cases e;exact ha ρ σ H δ st _ _ _ l rs e1 fun x H1 ρ1 m1 l1 r1=>q _ H1 ρ1 m1 l1 (by rw [r1])
def mh(fa fb:ai->Dm Bool):ai->Dm Bool:=fun δ st=>bnd (fa δ st) fun a st1=>if a=true then fb δ st1 else some (false,st1)
def Lz(fa fb:ai->Dm Bool):ai->Dm Bool:=fun δ st=>bnd (fa δ st) fun a st1=>if a=true then some (true,st1) else fb δ st1
theorem Cc{ta tb:TT}{fa fb:ai->Dm Bool}(ha:p9 K ta fa)(hb:p9 K tb fb):p9 K (AH ta tb) (mh fa fb):=by
 intro ρ σ H δ st b st' Q l rs e q;obtain ⟨a,st1,e1,e⟩:=cn e;refine ha ρ σ H δ st _ _ _ l rs e1 fun x H1 ρ1 m1 l1 r1=>?_;subst r1;cases x with
 |true =>
  refine oo ?_;rw [if_pos rfl] at e;exact hb ρ1 σ H1 δ st1 b st' _ l1 (rs.mn m1) e fun y H2 ρ2 m2 l2 r2=>q y H2 ρ2 (m1.trans m2) l2 r2
 |false =>
  refine om ?_;rw [if_neg VD] at e;cases e;exact q _ H1 ρ1 m1 l1 rfl
def vM(fa fb:ai->Dm D):ai->Dm D:=fun δ st=>bnd (aC fa δ st) fun a st1=>if a=true then fb δ st1 else some (.bl false,st1)
def uy(fa fb:ai->Dm D):ai->Dm D:=fun δ st=>bnd (aC fa δ st) fun a st1=>if a=true then some (.bl true,st1) else fb δ st1
def vN(fa:ai->Dm D):ai->Dm D:=fun δ st=>bnd (aC fa δ st) fun a st1=>some (.bl (!a),st1)
theorem QU{fa:ai->Dm D}{δ:ai}{st st1:Store}{b:Bool}(h:aC fa δ st=some (b,st1)):fa δ st=some (.bl b,st1):=by
 obtain ⟨a,st2,e1,e⟩:=cn h;cases a<;>simp at e;obtain ⟨rfl,rfl⟩:=e;exact e1
theorem xQ{ta tb:TE}{fa fb:ai->Dm D}(ha:dk K ta fa)(hb:dk K tb fb):dk K (AK ta tb) (uy fa fb):=by
 intro ρ σ H δ st b st' Q l rs e q;obtain ⟨a,st1,e1,e⟩:=cn e;refine ha ρ σ H δ st _ _ _ l rs (QU e1) fun x H1 ρ1 m1 l1 r1=>?_;cases r1;refine ⟨a,rfl,?_⟩;cases a with
 |false =>
  refine om ?_;rw [if_neg VD] at e;exact hb ρ1 σ H1 δ st1 b st' _ l1 (rs.mn m1) e fun y H2 ρ2 m2 l2 r2=>q y H2 ρ2 (m1.trans m2) l2 r2
 |true =>
  refine oo ?_;rw [if_pos rfl] at e;cases e;exact q _ H1 ρ1 m1 l1 (.bl _)
def fK{β:Type}(c:ai->Dm Bool)(fa fb:ai->Dm β):ai->Dm β:=fun δ st=>bnd (c δ st) fun a st1=>if a=true then fa δ st1 else fb δ st1
def ki:ai->Dm (Option Int):=fun _ st=>some (none,st)
def kO(fa:ai->Dm D):ai->Dm (Option Int):=fun δ st=>bnd (fa δ st) fun a st1=>match a with
 |.int i=>some (some i,st1)
 |_=>none
theorem HZ:EX K pO ki:=by
 intro ρ σ H δ st b st' Q l rs e q;cases e;exact q _ H ρ .refl l rfl
theorem Cd{ta:TE}{fa:ai->Dm D}(ha:dk K ta fa):EX K (ve ta) (kO fa):=by
 intro ρ σ H δ st b st' Q l rs e q;obtain ⟨a,st1,e1,e⟩:=cn e;cases a<;>simp at e;obtain ⟨rfl,rfl⟩:=e;refine ha ρ σ H δ st _ _ _ l rs e1 fun x H1 ρ1 m1 l1 r1=>?_;cases r1;exact ⟨_,rfl,q _ H1 ρ1 m1 l1 rfl⟩
def xR(K:Zfr)(r:V->Option Int->Option Int->Hp->VK->Prop)(g:D->Option Int->Option Int->Dm D):Prop :=
 ∀lo hi,HX K (fun x=>r x lo hi) (fun a=>g a lo hi)
def xS(g:D->Option Int->Option Int->Dm D)(fa:ai->Dm D)(fl fh:ai->Dm (Option Int)):ai->Dm D:=fun δ st=>bnd (fa δ st) fun a st1=>bnd (fl δ st1) fun lo st2=>bnd (fh δ st2) fun hi st3=>g a lo hi st3
theorem EZ{r:V->Option Int->Option Int->Hp->VK->Prop}{g:D->Option Int->Option Int->Dm D}{ta:TE}{tl th:TO}{fa:ai->Dm D}{fl fh:ai->Dm (Option Int)}(hr:xR K r g)(ha:dk K ta fa)(hl:EX K tl fl)(hh:EX K th fh):dk K (JR r ta tl th) (xS g fa fl fh):=by
 intro ρ σ H δ st b st' Q l rs e q;obtain ⟨a,st1,e1,e⟩:=cn e;obtain ⟨lo,st2,e2,e⟩:=cn e;obtain ⟨hi,st3,e3,e⟩:=cn e;refine ha ρ σ H δ st a st1 _ l rs e1 fun x H1 ρ1 m1 l1 r1=>hl ρ1 σ H1 δ st1 lo st2 _ l1 (rs.mn m1) e2 fun y H2 ρ2 m2 l2 r2=>hh ρ2 σ H2 δ st2 hi st3 _ l2 (rs.mn (m1.trans m2)) e3 fun z H3 ρ3 m3 l3 r3=>?_;subst r2 r3;exact hr y z ρ3 H3 st3 x a b st' Q l3 (r1.mn (m2.trans m3)) e fun v H4 ρ4 m4 l4 r4=>q v H4 ρ4 (((m1.trans m2).trans m3).trans m4) l4 r4
def aN(g:List D->Dm D)(fa:ai->Dm (List D)):ai->Dm D:=fun δ st=>bnd (fa δ st) fun as st1=>g as st1
theorem cg{r:List V->Hp->VK->Prop}{g:List D->Dm D}{ta:TA}{fa:ai->Dm (List D)}(hr:qP K r g)(ha:o6 K ta fa):dk K (A7 r ta) (aN g fa):=by
 intro ρ σ H δ st b st' Q l rs e q;obtain ⟨as,st1,e1,e⟩:=cn e;exact ha ρ σ H δ st as st1 _ l rs e1 fun x H1 ρ1 m1 l1 r1=>hr ρ1 H1 st1 x as b st' Q l1 r1 e fun v H3 ρ3 m3 l3 r3=>q v H3 ρ3 (m1.trans m3) l3 r3
def cy(K:Zfr)(n:Nat)(F:List D->Dm D):Sp:=fun vs H Q _=>vs.length=n/\∃(ρ:List Addr) (st:Store) (ds:List D) (b:D) (st':Store),Rl K ρ H st/\cf K ρ H vs ds/\F ds st=some (b,st') /\
 ∀v H' ρ',Mn K ρ H ρ' H'->Rl K ρ' H' st'->Rp K ρ' H' v b->Q v H'
theorem eZ{n:Nat}{F:List D->Dm D}{ta:TA}{fa:ai->Dm (List D)}{E:XK}(ha:o6 K ta fa)(hn:∀δ st as st',fa δ st=some (as,st')->as.length=n):dk K (oj (cy K n F) [] E ta) (aN F fa):=by
 intro ρ σ H δ st b st' Q l rs e q;obtain ⟨as,st1,e1,e⟩:=cn e;refine ha ρ σ H δ st as st1 _ l rs e1 fun vs H1 ρ1 m1 l1 r1=>⟨?_,ρ1,st1,as,b,st',l1,?_,e,fun v H3 ρ3 m3 l3 r3=>q v H3 ρ3 (m1.trans m3) l3 r3⟩
 ·rw [Wl,r1.length];exact hn _ _ _ _ e1
 ·rw [Wl];exact r1
theorem QV{δ:ai}{st st':Store}{as:List D}(h:ah δ st=some (as,st')):as.length=0:=by cases h;rfl
theorem E1{fa:ai->Dm D}{fr:ai->Dm (List D)}{n:Nat}(hr:∀δ st as st',fr δ st=some (as,st')->as.length=n):∀δ st as st',af fa fr δ st=some (as,st')->as.length=n+1:=fun δ st as st' h=>by
 obtain ⟨a,st1,e1,e⟩:=cn h;obtain ⟨c,st2,e2,e⟩:=cn e;cases e;rw [V6,hr _ _ _ _ e2]
end
end L4
namespace L4
open PySem PySem.Spec L2
section
variable {K:Zfr}
def vO(h:Int->Int->D):D->D->Dm D
 |.int i,.int j,st=>some (h i j,st)
 |_,_,_=>none
theorem Ce{gv:Int->Int->V}{h:Int->Int->D}(hh:∀i j ρ H,Rp K ρ H (gv i j) (h i j)):lO K (ql gv) (vO h):=by
 intro ρ H st x y a c b st' Q l rx ry e q;unfold vO at e;split at e
 ·cases e;cases rx;cases ry;exact ⟨_,_,rfl,rfl,q _ H ρ .refl l (hh _ _ ρ H)⟩
 ·cases e
def xT(c:Int->Int->Bool)(h:Int->Int->D):D->D->Dm D
 |.int i,.int j,st=>if c i j=true then some (h i j,st) else none
 |_,_,_=>none
theorem E2{C:Int->Int->Prop}{c:Int->Int->Bool}{gv:Int->Int->V}{h:Int->Int->D}(hc:∀i j,c i j=true->C i j)(hh:∀i j ρ H,Rp K ρ H (gv i j) (h i j)):lO K (rI C gv) (xT c h):=by
 intro ρ H st x y a d b st' Q l rx ry e q;unfold xT at e;split at e
 ·split at e
  ·next hcc=>cases e;cases rx;cases ry;exact ⟨_,_,rfl,rfl,hc _ _ hcc,q _ H ρ .refl l (hh _ _ ρ H)⟩
  ·cases e
 ·cases e
def gW:D->D->Dm D:=vO fun i j=>.int (i+j)
def oh:D->D->Dm D:=vO fun i j=>.int (i-j)
def lP:D->D->Dm D:=xT (fun i j=>decide (-18446744073709551616<i/\i<18446744073709551616) || decide (-18446744073709551616<j/\j<18446744073709551616)) fun i j=>.int (i*j)
def mL:D->D->Dm D:=xT (fun i j=>decide (0<j/\j<1073741824)) fun i j=>.int (i / j)
def iY:D->D->Dm D:=xT (fun i j=>decide (0<j)) fun i j=>.int (i % j)
def sf:D->D->Dm D:=xT (fun i j=>decide (0<=j/\j<=1000000/\i.natAbs<18446744073709551616)) fun i j=>.int (i ^ j.toNat)
def vP:D->D->Dm D:=vO fun i j=>.bl (decide (i<j))
def QW:D->D->Dm D:=vO fun i j=>.bl (decide (i<=j))
def sg:D->D->Dm D:=vO fun i j=>.bl (decide (j<i))
def Ie:D->D->Dm D:=vO fun i j=>.bl (decide (j<=i))
theorem oE:lO K (ql fun i j=>.int (i+j)) gW:=Ce fun _ _ _ _=>.int _
theorem Ig:lO K (ql fun i j=>.int (i-j)) oh:=Ce fun _ _ _ _=>.int _
theorem vQ:lO K (rI tW fun i j=>.int (i*j)) lP:=E2 (fun i j h=>by
 rw [Bool.or_eq_true,decide_eq_true_eq,decide_eq_true_eq] at h
 exact h) fun _ _ _ _=>.int _
theorem Ih:lO K (rI A2 fun i j=>.int (i / j)) mL:=E2 (fun i j h=>of_decide_eq_true (p:=0<j/\j<1073741824) h) fun _ _ _ _=>.int _
theorem qA:lO K (rI (fun _ j=>0<j) fun i j=>.int (i % j)) iY:=E2 (fun i j h=>of_decide_eq_true h) fun _ _ _ _=>.int _
theorem LA:lO K (rI A3 fun i j=>.int (i ^ j.toNat)) sf:=E2 (fun i j h=>by have h:=of_decide_eq_true (p:=0<=j/\j<=1000000/\i.natAbs<18446744073709551616) h;exact ⟨h.1,h.2.1,by omega⟩) fun _ _ _ _=>.int _
theorem zW:lO K (ql fun i j=>.bl (decide (i<j))) vP:=Ce fun _ _ _ _=>.bl _
theorem vR:lO K (ql fun i j=>.bl (decide (j<i))) sg:=Ce fun _ _ _ _=>.bl _
theorem Cf:lO K (ql fun i j=>.bl (decide (j<=i))) Ie:=Ce fun _ _ _ _=>.bl _
def mj:D->Dm D
 |.int i,st=>some (.int (-i),st)
 |_,_=>none
theorem xU:HX K (rU fun i=>.int (-i)) mj:=by
 intro ρ H st x a b st' Q l rx e q;unfold mj at e;split at e
 ·cases e;cases rx;exact ⟨_,rfl,q _ H ρ .refl l (.int _)⟩
 ·cases e
def sV:D->Option V
 |.non=>some .non
 |.bl b=>some (.bl b)
 |.int i=>some (.int i)
 |.str x=>some (.str x)
 |_=>none
theorem zX{ρ:List Addr}{H:Hp}{x v:V}{a:D}(r:Rp K ρ H x a)(h:sV a=some v):x=v:=by
 cases r<;>first|(cases h;rfl)|cases h
def kU(neg:Bool):D->D->Dm D:=fun a b st=>match sV a,sV b with
 |some x,some y=>if pd x y=true then some (.bl (if neg then !decide (x=y) else decide (x=y)),st) else none
 |_,_=>none
theorem si:lO K Jz (kU false):=by
 intro ρ H st x y a c b st' Q l rx ry e q;unfold kU at e;split at e
 ·next u v h1 h2 =>
  split at e
  ·next hs=>cases e;cases zX rx h1;cases zX ry h2;exact ⟨hs,q _ H ρ .refl l (.bl _)⟩
  ·cases e
 ·cases e
theorem E3:lO K JA (kU true):=by
 intro ρ H st x y a c b st' Q l rx ry e q;unfold kU at e;split at e
 ·next u v h1 h2 =>
  split at e
  ·next hs=>cases e;cases zX rx h1;cases zX ry h2;exact ⟨hs,q _ H ρ .refl l (.bl _)⟩
  ·cases e
 ·cases e
def bZ{α β:Type}(f:α->Option β):List α->Option (List β)
 |[]=>some []
 |a :: r=>match f a,bZ f r with
  |some b,some s=>some (b :: s)
  |_,_=>none
theorem Cg{α β:Type}{f:α->Option β}{a:α}{r:List α}{s:List β}(h:bZ f (a :: r)=some s):∃b t,f a=some b/\bZ f r=some t/\s=b :: t:=by
 unfold bZ at h;split at h
 ·next b t h1 h2=>cases h;exact ⟨b,t,h1,h2,rfl⟩
 ·cases h
theorem xV{α β γ:Type}{f:α->Option β}{g:γ->α}{k:γ->β}(h:∀c,f (g c)=some (k c)):∀l:List γ,bZ f (l.map g)=some (l.map k)
 |[]=>rfl
 |c :: r=>by
  show bZ f (g c :: r.map g)=_;unfold bZ;rw [h c,xV h r];rfl
def fH(st:Store):Nat->D->Option PyData
 |0,_=>none
 |_+1,.non=>some .none
 |_+1,.bl b=>some (.bool b)
 |_+1,.int i=>some (.int i)
 |_+1,.str x=>some (.str x)
 |_+1,.ty _=>none
 |n+1,.tup ds=>(bZ (fH st n) ds).map PyData.tuple
 |n+1,.ref i=>match items st i with
  |some ds=>(bZ (fH st n) ds).map PyData.list
  |none=>none
theorem xW{ρ:List Addr}{H:Hp}{st:Store}(l:Rl K ρ H st):∀(n:Nat) {v:V} {d:D} {p:PyData},Rp K ρ H v d->fH st n d=some p->Rep K H v p
 |0,_,_,_,_,h=>by simp [fH] at h
 |n+1,v,d,p,r,h=>by
  have all:∀{vs:List V} {ds:List D} {ps:List PyData},cf K ρ H vs ds->bZ (fH st n) ds=some ps->eX K H vs ps:=by
   intro vs ds ps rr
   induction vs generalizing ds ps with
   |nil=>intro hm;cases rr;cases hm;exact .nil
   |cons w ws ih =>
    intro hm;cases rr with
    |cons ra rb =>
     obtain ⟨b,t,h1,h2,rfl⟩:=Cg hm;exact .cons (xW l n ra h1) (ih rb h2)
  cases r with
  |non=>simp [fH] at h;subst h;exact .non
  |bl b=>simp [fH] at h;subst h;exact .bl b
  |int i=>simp [fH] at h;subst h;exact .int i
  |str x=>simp [fH] at h;subst h;exact .str x
  |ty n=>simp [fH] at h
  |ref hi =>
   simp only [fH] at h;split at h
   ·next ds hd =>
    obtain ⟨ps,h1,rfl⟩:=V7.mp h;obtain ⟨vs,e,rr⟩:=l.items hi hd;exact .lst e (all rr h1)
   ·cases h
  |tup q rr =>
   simp only [fH] at h;obtain ⟨ps,h1,rfl⟩:=V7.mp h;exact .tup q (all rr h1)
def kW(neg:Bool):D->D->Dm D:=fun a b st=>match fH st 20 a,fH st 20 b with
 |some p,some q=>if (PyData.canLay0 p && PyData.canLay0 q && decide (min p.depth q.depth<=60))=true then some (.bl (if neg then !PyData.eqv p q else PyData.eqv p q),st) else none
 |_,_=>none
theorem E4(neg:Bool):lO K (xl K neg) (kW neg):=by
 intro ρ H st x y a c b st' Q l rx ry e q;unfold kW at e;split at e
 ·next u v h1 h2 =>
  split at e
  ·next hs =>
   cases e;rw [VS,VS,decide_eq_true_eq] at hs;exact ⟨u,v,xW l 20 rx h1,xW l 20 ry h2,hs.1.1,hs.1.2,hs.2,q _ H ρ .refl l (.bl _)⟩
  ·cases e
 ·cases e
theorem at_of{ρ:List Addr}{H:Hp}{vs:List V}{ds:List D}{i:Int}{d:D}(r:cf K ρ H vs ds)(h:eo ds i=some d):∃v,eo vs i=some v/\Rp K ρ H v d:=by
 unfold eo at h ⊢;rw [r.length];cases hx:kZ ds.length i with
 |none=>rw [hx] at h;cases h
 |some j =>
  rw [hx] at h;exact r.got h
def bA:D->D->Dm D
 |.tup ds,.int i,st=>match eo ds i with
  |some d=>some (d,st)
  |none=>none
 |_,_,_=>none
theorem gy:lO K (w8 K) bA:=by
 intro ρ H st x y a c b st' Q l rx ry e q;unfold bA at e;split at e
 ·split at e
  ·next d hd =>
   cases e;cases ry;cases rx with
   |tup s r =>
    obtain ⟨v,hv,rv⟩:=at_of r hd;exact ⟨_,_,_,v,rfl,rfl,s,hv,q v H ρ .refl l rv⟩
  ·cases e
 ·cases e
def bP:D->D->Dm D
 |.ref r,.int i,st=>match items st r with
  |some ds=>match eo ds i with
   |some d=>some (d,st)
   |none=>none
  |none=>none
 |_,_,_=>none
theorem iZ:lO K (w6 K) bP:=by
 intro ρ H st x y a c b st' Q l rx ry e q;unfold bP at e;split at e
 ·split at e
  ·next ds hi =>
   split at e
   ·next d hd =>
    cases e;cases ry;cases rx with
    |ref hr =>
     obtain ⟨vs,s,r⟩:=l.items hr hi;obtain ⟨v,hv,rv⟩:=at_of r hd;exact ⟨_,_,_,v,rfl,rfl,s,hv,q v H ρ .refl l rv⟩
   ·cases e
  ·cases e
 ·cases e
def xX:D->D->Dm D
 | .str z,.int i,st=>if lim z.length=true then match eo z.cps.toList i with
   |some c=>some (.str ⟨#[c]⟩,st)
   |none=>none
  else none
 |_,_,_=>none
def cutD(xs:List D)(lo hi:Option Int):List D:=(xs.drop (HT.cx xs.length 0 lo)).take (HT.cx xs.length xs.length hi-HT.cx xs.length 0 lo)
theorem cf.cut{ρ:List Addr}{H:Hp}{vs:List V}{ds:List D}(r:cf K ρ H vs ds)(lo hi:Option Int):cf K ρ H (lF vs lo hi) (cutD ds lo hi):=by
 unfold lF cutD;rw [r.length];exact (r.drop _).take _
def xY:D->Option Int->Option Int->Dm D
 |.tup ds,lo,hi,st=>some (.tup (cutD ds lo hi),st)
 |_,_,_,_=>none
theorem got{ρ:List Addr}{H:Hp}{st:Store}{vs:List V}{ds:List D}{Q:VK}(l:Rl K ρ H st)(r:cf K ρ H vs ds)(q:∀v H' ρ',Mn K ρ H ρ' H'->Rl K ρ' H' st->Rp K ρ' H' v (.tup ds)->Q v H'):pj K H vs Q :=
 fun p H' s e=>q _ H' ρ (Mn.same e) (l.same e) (.tup s (r.mn (Mn.same e)))
theorem xZ:xR K (vw K) xY:=by
 intro lo hi ρ H st x a b st' Q l rx e q;cases a with
 |tup ds =>
  cases e;cases rx with
  |tup s r=>exact ⟨_,_,rfl,s,got l (r.cut lo hi) q⟩
 |_=>cases e
def qB:D->Option Int->Option Int->Dm D
 |.ref r,lo,hi,st=>match items st r with
  |some ds=>some (.ref st.length,st ++ [.lst (cutD ds lo hi)])
  |none=>none
 |_,_,_,_=>none
theorem Ii:xR K (Bb K) qB:=by
 intro lo hi ρ H st x a b st' Q l rx e q;cases a with
 |ref i =>
  simp only [qB] at e;split at e
  ·next ds hd =>
   cases e;cases rx with
   |ref hr =>
    obtain ⟨vs,s,r⟩:=l.items hr hd;exact ⟨_,_,rfl,s,fun p hp=>q _ _ _ (Mn.new hp) (l.newL hp (r.cut lo hi)) (.ref (newR l))⟩
  ·cases e
 |_=>cases e
def kj:D->D->Dm D
 |.tup a,.tup b,st=>if lim (a.length+b.length)=true then some (.tup (a ++ b),st) else none
 |_,_,_=>none
theorem Ci:lO K (rG K) kj:=by
 intro ρ H st x y a c b st' Q l rx ry e q;unfold kj at e;split at e
 ·split at e
  ·next hl =>
   cases e;cases rx with
   |tup s r =>
    cases ry with
    |tup s' r'=>exact ⟨_,_,_,_,rfl,rfl,s,s',by rw [r.length,r'.length];exact Cb hl,got l (r.append r') q⟩
  ·cases e
 ·cases e
def own(st:Store)(i:Nat):Option (List D):=match st[i]? with
 |some (.lst ds)=>some ds
 |_=>none
theorem qQ{st:Store}{i:Nat}{ds:List D}(h:own st i=some ds):st[i]?=some (.lst ds):=by
 unfold own at h;split at h
 ·next ds' hs=>cases h;exact hs
 ·cases h
def ml:D->D->Dm D
 |.ref i,.ref j,st=>match own st i,own st j with
  |some a,some b=>if lim (a.length+b.length)=true then some (.ref st.length,st ++ [.lst (a ++ b)]) else none
  |_,_=>none
 |_,_,_=>none
theorem x4:lO K Bf ml:=by
 intro ρ H st x y a c b st' Q l rx ry e q;unfold ml at e;split at e
 ·split at e
  ·next a b h1 h2 =>
   split at e
   ·next hl =>
    cases e;cases rx with
    |ref hi =>
     cases ry with
     |ref hj =>
      obtain ⟨vs,e1,r1⟩:=l.obj _ _ _ hi (qQ h1);obtain ⟨ws,e2,r2⟩:=l.obj _ _ _ hj (qQ h2);exact ⟨_,_,_,_,rfl,rfl,e1,e2,by rw [r1.length,r2.length];exact Cb hl,fun p hp=>q _ _ _ (Mn.new hp) (l.newL hp (r1.append r2)) (.ref (newR l))⟩
   ·cases e
  ·cases e
 ·cases e
def sj:D->D->Dm D
 |.ref i,.int k,st=>match own st i with
  |some a=>if (decide (-9223372036854775808<=k/\k<9223372036854775808) && lim (a.length*k.toNat))=true then some (.ref st.length,st ++ [.lst (List.replicate k.toNat a).flatten]) else none
  |_=>none
 |_,_,_=>none
theorem LC{ρ:List Addr}{H:Hp}:∀{ws vs:List V} {ds:List D},cf K ρ H ws ds->bZ sV ds=some vs->ws=vs
 |_,_,_,.nil,h=>by cases h;rfl
 |_,_,_,.cons a b,h=>by
  obtain ⟨x,t,h1,h2,rfl⟩:=Cg h;rw [zX a h1,LC b h2]
theorem LD{a:D}{v:V}(h:sV a=some v):jJ v=true:=by cases a<;>first|(cases h;rfl)|cases h
theorem LG:∀{ds:List D} {vs:List V},bZ sV ds=some vs->vs.all jJ=true
 |[],_,h=>by cases h;rfl
 |d :: r,_,h=>by
  obtain ⟨x,t,h1,h2,rfl⟩:=Cg h;rw [List.all_cons,LD h1,LG h2];rfl
def cH(st:Store):D->Option (List D)
 |.tup ds=>some ds
 |.ref i=>items st i
 |_=>none
theorem E5{ρ:List Addr}{H:Hp}{st:Store}{x:V}{a:D}{ds:List D}(l:Rl K ρ H st)(r:Rp K ρ H x a)(h:cH st a=some ds):∃p vs,x=.ref p/\(jC K H p vs\/eu K H p vs)/\cf K ρ H vs ds:=by
 cases r<;>first|(cases h;done)|skip
 ·next hi=>obtain ⟨vs,s,r⟩:=l.items hi h;exact ⟨_,vs,rfl,.inl s,r⟩
 ·next s r=>cases h;exact ⟨_,_,rfl,.inr s,r⟩
def qR(neg:Bool):D->D->Dm D:=fun a c st=>match sV a,(cH st c).bind (bZ sV) with
 |some x,some vs=>some (.bl (if neg then !vk x vs else vk x vs),st)
 |_,_=>none
theorem Cj(neg:Bool):lO K (GQ K neg) (qR neg):=by
 intro ρ H st x y a c b st' Q l rx ry e q;unfold qR at e;split at e
 ·next u vs h1 h2 =>
  cases e;obtain ⟨ds,h3,h4⟩:=Wt.mp h2;obtain ⟨p,ws,rfl,s,r⟩:=E5 l ry h3;cases zX rx h1;cases LC r h4;exact ⟨p,_,rfl,s,LD h1,LG h4,q _ H ρ .refl l (.bl _)⟩
 ·cases e
theorem cf.one'{ρ:List Addr}{H:Hp}{vs:List V}{d:D}(r:cf K ρ H vs [d]):∃v,vs=[v]/\Rp K ρ H v d:=by cases r with|cons a b=>cases b;exact ⟨_,rfl,a⟩
theorem cf.two'{ρ:List Addr}{H:Hp}{vs:List V}{d e:D}(r:cf K ρ H vs [d,e]):∃v w,vs=[v,w]/\Rp K ρ H v d/\Rp K ρ H w e:=by
 cases r with
 |cons a b=>obtain ⟨w,rfl,r⟩:=b.one';exact ⟨_,_,rfl,a,r⟩
def cM:List D->Dm D
 |[a],st=>match cH st a with
  |some ds=>some (.int ds.length,st)
  |none=>none
 |_,_=>none
theorem kl:qP K (fun xs H Q=>∃p ys,xs=[.ref p]/\(jC K H p ys\/eu K H p ys)/\Q (.int ys.length) H) cM:=by
 intro ρ H st xs as b st' Q l rx e q;unfold cM at e;split at e
 ·split at e
  ·next ds hd =>
   cases e;obtain ⟨v,rfl,r⟩:=rx.one';obtain ⟨p,vs,rfl,s,r⟩:=E5 l r hd;exact ⟨p,vs,rfl,s,q _ H ρ .refl l (by rw [r.length];exact .int _)⟩
  ·cases e
 ·cases e
def mM:List D->Dm D
 |[a],st=>match cH st a with
  |some ds=>some (.ref st.length,st ++ [.lst ds])
  |none=>none
 |_,_=>none
theorem Ij:qP K (fun xs H Q=>∃p ys,xs=[.ref p]/\(jC K H p ys\/eu K H p ys)/\∀l,H l=none->Q (.ref l) (upd H l (.lst ys))) mM:=by
 intro ρ H st xs as b st' Q l rx e q;unfold mM at e;split at e
 ·split at e
  ·next ds hd =>
   cases e;obtain ⟨v,rfl,r⟩:=rx.one';obtain ⟨p,vs,rfl,s,r⟩:=E5 l r hd;exact ⟨p,vs,rfl,s,fun p hp=>q _ _ _ (Mn.new hp) (l.newL hp r) (.ref (newR l))⟩
  ·cases e
 ·cases e
def bM:List D->Dm D
 |[a],st=>match cH st a with
  |some ds=>some (.tup ds,st)
  |none=>none
 |_,_=>none
theorem n4:qP K (fun xs H Q=>∃p ys,xs=[.ref p]/\((jC K H p ys/\∀l,H l=none->Q (.ref l) (upd H l (.tup ys)))\/(eu K H p ys/\Q (.ref p) H))) bM:=by
 intro ρ H st xs as b st' Q l rx e q;unfold bM at e;split at e
 ·split at e
  ·next ds hd =>
   cases e;obtain ⟨v,rfl,r⟩:=rx.one';obtain ⟨p,vs,rfl,s,r'⟩:=E5 l r hd;refine ⟨p,vs,rfl,?_⟩;rcases s with s|s
   ·exact .inl ⟨s,(got l r' q).new⟩
   ·exact .inr ⟨s,(got l r' q).it s⟩
  ·cases e
 ·cases e
def qa:List D->Dm D
 |[.int i,.int j],st=>some (.int (if j > i then j else i),st)
 |_,_=>none
def qc:List D->Dm D
 |[.int i,.int j],st=>some (.int (if j<i then j else i),st)
 |_,_=>none
theorem QX:qP K (fun xs H Q=>∃i j,xs=[.int i,.int j]/\Q (.int (if j > i then j else i)) H) qa:=by
 intro ρ H st xs as b st' Q l rx e q;unfold qa at e;split at e
 ·cases e
  obtain ⟨v,w,rfl,r1,r2⟩:=rx.two';cases r1;cases r2;exact ⟨_,_,rfl,q _ H ρ .refl l (.int _)⟩
 ·cases e
theorem QY:qP K (fun xs H Q=>∃i j,xs=[.int i,.int j]/\Q (.int (if j<i then j else i)) H) qc:=by
 intro ρ H st xs as b st' Q l rx e q;unfold qc at e;split at e
 ·cases e
  obtain ⟨v,w,rfl,r1,r2⟩:=rx.two';cases r1;cases r2;exact ⟨_,_,rfl,q _ H ρ .refl l (.int _)⟩
 ·cases e
def oG:List D->Dm D
 |[.int i],st=>some (.int i,st)
 |[.bl k],st=>some (.int (if k then 1 else 0),st)
 |_,_=>none
theorem QZ:qP K (fun xs H Q=>(∃i,xs=[.int i]/\Q (.int i) H)\/∃k,xs=[.bl k]/\Q (.int (if k then 1 else 0)) H) oG:=by
 intro ρ H st xs as b st' Q l rx e q;unfold oG at e;split at e
 ·cases e
  obtain ⟨v,rfl,r⟩:=rx.one';cases r;exact .inl ⟨_,rfl,q _ H ρ .refl l (.int _)⟩
 ·cases e
  obtain ⟨v,rfl,r⟩:=rx.one';cases r;exact .inr ⟨_,rfl,q _ H ρ .refl l (.int _)⟩
 ·cases e
def gX:List D->Dm D
 |[.int j],st=>some (.ref st.length,st ++ [.gR 0 j])
 |_,_=>none
def eA:List D->Dm D
 |[.int i,.int j],st=>some (.ref st.length,st ++ [.gR i j])
 |_,_=>none
theorem E6:qP K (fun xs H Q=>∃j:Int,xs=[.int j]/\∀p,H p=none->Q (.ref p) (upd H p (.gR 0 j))) gX:=by
 intro ρ H st xs as b st' Q l rx e q;unfold gX at e;split at e
 ·cases e
  obtain ⟨v,rfl,r⟩:=rx.one';cases r;exact ⟨_,rfl,fun p hp=>q _ _ _ (Mn.new hp) (l.new hp (show vJ K _ _ p (.gR _ _) from kS)) (.ref (newR l))⟩
 ·cases e
theorem zY:qP K (fun xs H Q=>∃i j:Int,xs=[.int i,.int j]/\∀p,H p=none->Q (.ref p) (upd H p (.gR i j))) eA:=by
 intro ρ H st xs as b st' Q l rx e q;unfold eA at e;split at e
 ·cases e
  obtain ⟨v,w,rfl,r1,r2⟩:=rx.two';cases r1;cases r2;exact ⟨_,_,rfl,fun p hp=>q _ _ _ (Mn.new hp) (l.new hp (show vJ K _ _ p (.gR _ _) from kS)) (.ref (newR l))⟩
 ·cases e
def aB(lo:Int)(n:Nat):List D:=(List.range n).map fun (k:Nat)=>D.int (lo+k)
theorem Q0{ρ:List Addr}{H:Hp}(lo:Int)(n:Nat):cf K ρ H (eW lo n) (aB lo n):=by
 unfold eW aB
 induction (List.range n) with
 |nil=>exact .nil
 |cons a r ih=>exact .cons (.int _) ih
def qC(lo hi:Int):Bool:=decide (-4611686018427387904<=lo/\lo<4611686018427387904/\-4611686018427387904<=hi/\hi<4611686018427387904) && lim (hi-lo).toNat
theorem LH{lo hi:Int}(h:qC lo hi=true):(-(2 ^ 62)<=lo/\lo<2 ^ 62/\-(2 ^ 62)<=hi/\hi<2 ^ 62)/\(hi-lo).toNat<=2 ^ 24:=by
 unfold qC at h;rw [VS,decide_eq_true_eq] at h;exact ⟨by omega,V3 (Nat.le_of_ble_eq_true h.2) (by decide)⟩
def iM(st:Store):D->Option (Int×Int)
 |.ref i=>match st[i]? with
  |some (.gR lo hi)=>some (lo,hi)
  |_=>none
 |_=>none
theorem x5{ρ:List Addr}{H:Hp}{st:Store}{x:V}{a:D}{lo hi:Int}(l:Rl K ρ H st)(r:Rp K ρ H x a)(h:iM st a=some (lo,hi)):∃p,x=.ref p/\H p=some (.gR lo hi):=by
 cases r<;>first|(cases h;done)|skip
 ·next hi' =>
  simp only [iM] at h;split at h
  ·next lo' Q5 hs=>cases h;exact ⟨_,rfl,l.obj _ _ _ hi' hs⟩
  ·cases h
def dn:List D->Dm D
 |[a],st=>match iM st a with
  |some (lo,hi)=>if qC lo hi=true then some (.ref st.length,st ++ [.lst (aB lo (hi-lo).toNat)]) else none
  |none=>none
 |_,_=>none
theorem tK:qP K (fun xs H Q=>∃p lo hi,xs=[.ref p]/\H p=some (.gR lo hi)/\(-(2 ^ 62)<=lo/\lo<2 ^ 62/\-(2 ^ 62)<=hi/\hi<2 ^ 62)/\(hi-lo).toNat<=2 ^ 24 /\
  ∀l,H l=none->Q (.ref l) (upd H l (.lst (eW lo (hi-lo).toNat)))) dn:=by
 intro ρ H st xs as b st' Q l rx e q;unfold dn at e;split at e
 ·split at e
  ·next lo hi hd =>
   split at e
   ·next ok =>
    cases e;obtain ⟨v,rfl,r⟩:=rx.one';obtain ⟨p,rfl,s⟩:=x5 l r hd;exact ⟨p,lo,hi,rfl,s,(LH ok).1,(LH ok).2,fun p hp=>q _ _ _ (Mn.new hp) (l.newL hp (Q0 lo _)) (.ref (newR l))⟩
   ·cases e
  ·cases e
 ·cases e
def uz:List D->Dm D
 |[a],st=>match iM st a with
  |some (lo,hi)=>if qC lo hi=true then some (.tup (aB lo (hi-lo).toNat),st) else none
  |none=>none
 |_,_=>none
def iV:D->Option Int
 |.int i=>some i
 |_=>none
theorem Ik{ρ:List Addr}{H:Hp}:∀{ws:List V} {ds:List D} {ns:List Int},cf K ρ H ws ds->bZ iV ds=some ns->ws=ns.map V.int
 |_,_,_,.nil,h=>by cases h;rfl
 |_,_,_,.cons a b,h=>by
  obtain ⟨x,t,h1,h2,rfl⟩:=Cg h;rw [Ik b h2];cases a<;>first|(cases h1;rfl)|cases h1
def jM:List D->Dm D
 |[a],st=>match fH st 20 a with
  |some p=>if (p.showable && p.canLay0 && decide (p.shown.length<=sizeLine) && decide (p.depth<=60))=true then some (.str p.shown,st) else none
  |none=>none
 |_,_=>none
theorem LI:qP K (fun xs H Q=>∃(x:V) (d:PyData),xs=[x]/\Rep K H x d/\d.showable=true/\d.canLay0=true/\d.shown.length<=sizeLine/\d.depth<=60/\Q (.str d.shown) H) jM:=by
 intro ρ H st xs as b st' Q l rx e q;unfold jM at e;split at e
 ·split at e
  ·next p hp =>
   split at e
   ·next ok =>
    cases e;rw [VS,VS,VS,decide_eq_true_eq,decide_eq_true_eq] at ok;obtain ⟨v,rfl,r⟩:=rx.one';exact ⟨v,p,rfl,xW l 20 r hp,ok.1.1.1,ok.1.1.2,ok.1.2,ok.2,q _ H ρ .refl l (.str _)⟩
   ·cases e
  ·cases e
 ·cases e
def bV:D->Option Bool
 |.bl i=>some i
 |_=>none
def x6:List D->Dm D
 |[.ref i],st=>match (items st i).bind (bZ bV) with
  |some bs=>some (.bl (bs.all id),st)
  |none=>none
 |_,_=>none
def tL(T:String)(st:Store):D->Bool
 |.str _=>T == "str"
 |.tup _=>T == "tuple"
 |.ref i=>T == "list" && (items st i).isSome
 |_=>false
theorem LJ{ρ:List Addr}{H:Hp}{st:Store}{x:V}{a:D}{T:String}(l:Rl K ρ H st)(r:Rp K ρ H x a)(h:tL T st a=true):Ew K T x H:=by
 cases r<;>first|(cases h;done)|skip
 ·exact eq_of_beq h
 ·next hi =>
  simp only [tL,VS] at h;obtain ⟨ds,hd⟩:=WU.mp h.2;obtain ⟨vs,s,_⟩:=l.items hi hd;exact .inl ⟨eq_of_beq h.1,vs,s⟩
 ·next s r=>exact .inr (.inl ⟨eq_of_beq h,_,s⟩)
def jE(T:String)(g:D->List D->Dm D)(fo:ai->Dm D)(fa:ai->Dm (List D)):ai->Dm D:=fun δ st=>bnd (fo δ st) fun o st1=>if tL T st1 o=true then bnd (fa δ st1) fun as st2=>g o as st2 else none
theorem mq{T:String}{r:V->List V->Hp->VK->Prop}{g:D->List D->Dm D}{to:TE}{ta:TA}{fo:ai->Dm D}{fa:ai->Dm (List D)}(hr:vK K T r g)(ho:dk K to fo)(ha:o6 K ta fa):dk K (GU K T r to ta) (jE T g fo fa):=by
 intro ρ σ H δ st b st' Q l rs e q;obtain ⟨o,st1,e1,e⟩:=cn e;split at e
 ·next ht =>
  obtain ⟨as,st2,e2,e⟩:=cn e;refine ho ρ σ H δ st o st1 _ l rs e1 fun x H1 ρ1 m1 l1 r1=>⟨LJ l1 r1 ht,ha ρ1 σ H1 δ st1 as st2 _ l1 (rs.mn m1) e2 fun xs H2 ρ2 m2 l2 r2=>?_⟩;exact hr ρ2 H2 st2 x xs o as b st' Q l2 (r1.mn m2) r2 e fun v H3 ρ3 m3 l3 r3=>q v H3 ρ3 ((m1.trans m2).trans m3) l3 r3
 ·cases e
def aR:D->List D->Dm D
 |.ref i,[y],st=>match own st i with
  |some xs=>if lim xs.length=true then some (.non,st.set i (.lst (xs ++ [y]))) else none
  |none=>none
 |_,_,_=>none
theorem pB:vK K "list" pP aR:=by
 intro ρ H st x xs a as b st' Q l rx sr e q;unfold aR at e;split at e
 ·split at e
  ·next ys hy =>
   split at e
   ·next hl =>
    cases e;obtain ⟨v,rfl,r⟩:=sr.one';cases rx with
    |ref hi =>
     obtain ⟨vs,e1,r1⟩:=l.obj _ _ _ hi (qQ hy);obtain ⟨l2,m2⟩:=l.putL hi (qQ hy) (r1.append (.one r));exact ⟨_,vs,v,rfl,rfl,e1,by rw [r1.length];exact HY hl,q _ _ ρ m2 l2 .non⟩
   ·cases e
  ·cases e
 ·cases e
def ny:D->List D->Dm D
 |.ref i,[.ref j],st=>match own st i,own st j with
  |some xs,some ys=>if lim (xs.length+ys.length)=true then some (.non,st.set i (.lst (xs ++ ys))) else none
  |_,_=>none
 |_,_,_=>none
def kH:D->List D->Dm D
 |.ref i,[.int k],st=>match own st i with
  | some xs=>if decide (-9223372036854775808<=k/\k < 9223372036854775808)=true then match seqIndex? k xs.length with
    |some j=>match xs[j]? with
     |some y=>some (y,st.set i (.lst (xs.eraseIdx j)))
     |none=>none
    |none=>none
   else none
  |none=>none
 |_,_,_=>none
theorem Q6:vK K "list" rC kH:=by
 intro ρ H st x xs a as b st' Q l rx sr e q;unfold kH at e;split at e
 ·split at e
  ·next ys hy =>
   split at e
   ·next hk =>
    split at e
    ·next j hj =>
     split at e
     ·next y hy' =>
      cases e;obtain ⟨v,rfl,r⟩:=sr.one';cases r;cases rx with
      |ref hi =>
       obtain ⟨vs,e1,r1⟩:=l.obj _ _ _ hi (qQ hy);obtain ⟨w,hw,rw'⟩:=r1.got hy';obtain ⟨l2,m2⟩:=l.putL hi (qQ hy) (r1.erase j);have hk:=of_decide_eq_true hk;exact ⟨_,vs,_,j,w,rfl,rfl,e1,by omega,by omega,by rw [r1.length];exact hj,hw,q _ _ ρ m2 l2 (rw'.mn m2)⟩
     ·cases e
    ·cases e
   ·cases e
  ·cases e
 ·cases e
def i5:D->List D->Dm D
 |.tup ds,[.int v],st=>match bZ iV ds with
  |some ns=>match ns.findIdx? (fun i=>decide (i=v)) with
   |some j=>some (.int (j:Int),st)
   |none=>none
  |none=>none
 |_,_,_=>none
theorem LK:vK K "tuple" (pq K) i5:=by
 intro ρ H st x xs a as b st' Q l rx sr e q;unfold i5 at e;split at e
 ·split at e
  ·next ns hn =>
   split at e
   ·next j hj =>
    cases e;obtain ⟨v,rfl,r⟩:=sr.one';cases r;cases rx with
    |tup s r =>
     cases Ik r hn;obtain ⟨h1,h2,h3⟩:=WT.mp hj;refine ⟨_,ns,_,j,rfl,rfl,s,?_,fun i hi z=>?_,q _ H ρ .refl l (.int _)⟩
     ·rw [VB h1];exact congrArg some (of_decide_eq_true h2)
     ·have:=h3 i hi
      obtain ⟨hl,ez⟩:=VA.mp z;rw [ez] at this;simp at this
   ·cases e
  ·cases e
 ·cases e
def jt:D->List D->Dm D
 |.ref i,[.int v],st=>match (items st i).bind (bZ iV) with
  |some ns=>if v∈ns/\ns.length<=1000/\∀i∈ns,-1000000000000000000<=i/\i<=1000000000000000000 then some (.int (ns.idxOf v:Int),st) else none
  |none=>none
 |_,_,_=>none
def Ck(st:Store):D->Option String
 |.non=>some "NoneType"
 |.bl _=>some "bool"
 |.int _=>some "int"
 |.str _=>some "str"
 |.tup _=>some "tuple"
 |.ref i=>match st[i]? with
  |some (.lst _)=>some "list"
  |some (.dct _)=>some "dict"
  |_=>none
 |.ty _=>none
def nz:List D->Dm D
 |[a,.ty c],st=>match Ck st a with
  |some T=>if T=c then some (.bl true,st) else none
  |none=>none
 |_,_=>none
end
section
variable {K:Zfr}
theorem LL:lO K Bg sj:=by
 intro ρ H st x y a c b st' Q l rx ry e q;unfold sj at e;split at e
 ·split at e
  ·next ds hd =>
   split at e
   ·next ok =>
    cases e;rw [VS,decide_eq_true_eq] at ok;cases ry;cases rx with
    |ref hi =>
     obtain ⟨vs,e1,r1⟩:=l.obj _ _ _ hi (qQ hd);exact ⟨_,_,vs,rfl,rfl,e1,by omega,by omega,by rw [r1.length];exact Cb ok.2,fun p hp=>q _ _ _ (Mn.new hp) (l.newL hp (r1.flat _)) (.ref (newR l))⟩
   ·cases e
  ·cases e
 ·cases e
theorem Rs.set{ρ:List Addr}{H:Hp}{σ:St}{δ:ai}{v:V}{d:D}{i:Nat}(h:Rs K ρ H σ δ)(r:Rp K ρ H v d):Rs K ρ H (σ.set i (some v)) (δ.set i (some d)):=by
 refine ⟨by rw [Wc,Wc];exact h.1,fun j e hj=>?_⟩
 by_cases hij:i=j
 ·subst hij
  have hl:i<δ.length:=by
   have:=(VA.mp hj).1
   rwa [Wc] at this
  rw [VG hl] at hj;cases hj;exact ⟨v,by rw [VG (by rw [h.1];exact hl)],r⟩
 ·rw [VF hij] at hj
  obtain ⟨w,hw,rw'⟩:=h.2 j e hj;exact ⟨w,by rw [VF hij];exact hw,rw'⟩
def x8(K:Zfr)(g:TG)(f:D->ai->Dm ai):Prop :=
 ∀(ρ:List Addr) (σ:St) (H:Hp) (δ:ai) (st:Store) (v:V) (d:D) (δ':ai) (st':Store) (Q:St->Hp->Prop),Rl K ρ H st->Rs K ρ H σ δ->Rp K ρ H v d->f d δ st=some (δ',st') ->
  (∀σ' H' ρ',Mn K ρ H ρ' H'->Rl K ρ' H' st'->Rs K ρ' H' σ' δ'->Q σ' H')->g v σ H Q
def uA(K:Zfr)(g:sY)(f:List D->ai->Dm ai):Prop :=
 ∀(ρ:List Addr) (σ:St) (H:Hp) (δ:ai) (st:Store) (v:List V) (d:List D) (δ':ai) (st':Store) (Q:St->Hp->Prop),Rl K ρ H st->Rs K ρ H σ δ->cf K ρ H v d->f d δ st=some (δ',st') ->
  (∀σ' H' ρ',Mn K ρ H ρ' H'->Rl K ρ' H' st'->Rs K ρ' H' σ' δ'->Q σ' H')->g v σ H Q
def hName(i:Nat):D->ai->Dm ai:=fun d δ st=>some (δ.set i (some d),st)
theorem aS(i:Nat):x8 K (lD i) (hName i):=by
 intro ρ σ H δ st v d δ' st' Q l rs r e q;cases e;exact q _ H ρ .refl l (rs.set r)
def mr:List D->ai->Dm ai
 |[],δ,st=>some (δ,st)
 |_,_,_=>none
def cJ(f:D->ai->Dm ai)(g:List D->ai->Dm ai):List D->ai->Dm ai
 |d :: ds,δ,st=>bnd (f d δ st) fun δ1 st1=>g ds δ1 st1
 |_,_,_=>none
theorem vS:uA K AR mr:=by
 intro ρ σ H δ st v d δ' st' Q l rs r e q;cases r with
 |nil=>cases e;exact ⟨rfl,q _ H ρ .refl l rs⟩
 |cons a b=>cases e
theorem mO{t:TG}{u:sY}{f:D->ai->Dm ai}{g:List D->ai->Dm ai}(hf:x8 K t f)(hg:uA K u g):uA K (uX t u) (cJ f g):=by
 intro ρ σ H δ st v d δ' st' Q l rs r e q;cases r with
 |nil=>cases e
 |cons a b =>
  obtain ⟨δ1,st1,e1,e⟩:=cn e;exact ⟨_,_,rfl,hf ρ σ H δ st _ _ δ1 st1 _ l rs a e1 fun σ1 H1 ρ1 m1 l1 r1=>hg ρ1 σ1 H1 δ1 st1 _ _ δ' st' Q l1 r1 (b.mn m1) e fun σ2 H2 ρ2 m2 l2 r2=>q σ2 H2 ρ2 (m1.trans m2) l2 r2⟩
def lQ(n:Nat)(f:List D->ai->Dm ai):D->ai->Dm ai
 |.tup ds,δ,st=>if ds.length=n then f ds δ st else none
 |_,_,_=>none
theorem vT{n:Nat}{t:sY}{f:List D->ai->Dm ai}(hf:uA K t f):x8 K (AU K n t) (lQ n f):=by
 intro ρ σ H δ st v d δ' st' Q l rs r e q;cases r<;>first|(cases e;done)|skip
 ·next s r =>
  simp only [lQ] at e;split at e
  ·next hl=>exact ⟨_,_,rfl,s,by rw [r.length];exact hl,hf ρ σ H δ st _ _ δ' st' Q l rs r e q⟩
  ·cases e
def hSub(fo fi:ai->Dm D):D->ai->Dm ai:=fun d δ st=>bnd (fo δ st) fun o st1=>bnd (fi δ st1) fun i st2=>match o,i with
 |.ref r,.int k=>match own st2 r with
  |some xs=>match kZ xs.length k with
   |some j=>some (δ,st2.set r (.lst (xs.set j d)))
   |none=>none
  |none=>none
 |_,_=>none
theorem zZ{to ti:TE}{fo fi:ai->Dm D}(ho:dk K to fo)(hi:dk K ti fi):x8 K (L2.oh to ti vg) (hSub fo fi):=by
 intro ρ σ H δ st v d δ' st' Q l rs r e q;obtain ⟨o,st1,e1,e⟩:=cn e;obtain ⟨i,st2,e2,e⟩:=cn e;refine ho ρ σ H δ st o st1 _ l rs e1 fun x H1 ρ1 m1 l1 r1=>hi ρ1 σ H1 δ st1 i st2 _ l1 (rs.mn m1) e2 fun y H2 ρ2 m2 l2 r2=>?_;split at e
 ·split at e
  ·next xs hx =>
   split at e
   ·next j hj =>
    cases e;cases r2;cases r1 with
    |ref hr =>
     have hr2:=m2.r _ _ hr;obtain ⟨vs,e3,r3⟩:=l2.obj _ _ _ hr2 (qQ hx);obtain ⟨l3,m3⟩:=l2.putL hr2 (qQ hx) (r3.set (r.mn (m1.trans m2)) j);exact ⟨_,vs,_,j,rfl,rfl,e3,by rw [r3.length];exact hj,q σ _ ρ2 ((m1.trans m2).trans m3) l3 (rs.mn ((m1.trans m2).trans m3))⟩
   ·cases e
  ·cases e
 ·cases e
def Go(K:Zfr)(ρ:List Addr)(H:Hp)(st':Store)(E:Ends):Fl->Prop
 |.nx δ=>∀σ' H' ρ',Mn K ρ H ρ' H'->Rl K ρ' H' st'->Rs K ρ' H' σ' δ->E.nx σ' H'
 |.bk δ=>∀σ' H' ρ',Mn K ρ H ρ' H'->Rl K ρ' H' st'->Rs K ρ' H' σ' δ->E.bk σ' H'
 |.ct δ=>∀σ' H' ρ',Mn K ρ H ρ' H'->Rl K ρ' H' st'->Rs K ρ' H' σ' δ->E.ct σ' H'
 |.rt d=>∀v H' ρ',Mn K ρ H ρ' H'->Rl K ρ' H' st'->Rp K ρ' H' v d->E.rt v H'
theorem Go.mn{ρ ρ1:List Addr}{H H1:Hp}{st':Store}{E:Ends}{fl:Fl}(g:Go K ρ H st' E fl)(m:Mn K ρ H ρ1 H1):Go K ρ1 H1 st' E fl:=by
 cases fl<;>exact fun v H' ρ' m' l r=>g v H' ρ' (m.trans m') l r
def mP(K:Zfr)(t:TS)(f:ai->Dm Fl):Prop :=
 ∀(ρ:List Addr) (σ:St) (H:Hp) (δ:ai) (st:Store) (fl:Fl) (st':Store) (E:Ends),Rl K ρ H st->Rs K ρ H σ δ->f δ st=some (fl,st')->Go K ρ H st' E fl->t E σ H
def aW:ai->Dm Fl:=fun δ st=>some (.nx δ,st)
theorem kD:mP K uV aW:=by
 intro ρ σ H δ st fl st' E l rs e g;cases e;exact g σ H ρ .refl l rs
def ay(f g:ai->Dm Fl):ai->Dm Fl:=fun δ st=>bnd (f δ st) fun fl st1=>match fl with
 |.nx δ1=>g δ1 st1
 |x=>some (x,st1)
theorem bq{t u:TS}{f g:ai->Dm Fl}(hf:mP K t f)(hg:mP K u g):mP K (wM t u) (ay f g):=by
 intro ρ σ H δ st fl st' E l rs e q;obtain ⟨x,st1,e1,e⟩:=cn e;refine hf ρ σ H δ st x st1 _ l rs e1 ?_;cases x with
 |nx δ1=>exact fun σ1 H1 ρ1 m1 l1 r1=>hg ρ1 σ1 H1 δ1 st1 fl st' E l1 r1 e (q.mn m1)
 |bk δ1=>cases e;exact q
 |ct δ1=>cases e;exact q
 |rt d=>cases e;exact q
theorem km{c:TT}{t u:TS}{fc:ai->Dm Bool}{f g:ai->Dm Fl}(hc:p9 K c fc)(hf:mP K t f)(hg:mP K u g):mP K (tU c t u) (fK fc f g):=by
 intro ρ σ H δ st fl st' E l rs e q;obtain ⟨a,st1,e1,e⟩:=cn e;refine hc ρ σ H δ st _ _ _ l rs e1 fun x H1 ρ1 m1 l1 r1=>?_;subst r1;cases x with
 |true =>
  refine oo ?_;rw [if_pos rfl] at e;exact hf ρ1 σ H1 δ st1 fl st' E l1 (rs.mn m1) e (q.mn m1)
 |false =>
  refine om ?_;rw [if_neg VD] at e;exact hg ρ1 σ H1 δ st1 fl st' E l1 (rs.mn m1) e (q.mn m1)
def cw(f:ai->Dm D):ai->Dm Fl:=fun δ st=>bnd (f δ st) fun _ st1=>some (.nx δ,st1)
theorem pC{t:TE}{f:ai->Dm D}(hf:dk K t f):mP K (uW t) (cw f):=by
 intro ρ σ H δ st fl st' E l rs e q;obtain ⟨a,st1,e1,e⟩:=cn e;cases e;exact hf ρ σ H δ st a _ _ l rs e1 fun x H1 ρ1 m1 l1 r1=>q σ H1 ρ1 m1 l1 (rs.mn m1)
def bI(f:ai->Dm D):ai->Dm Fl:=fun δ st=>bnd (f δ st) fun d st1=>some (.rt d,st1)
theorem gY{t:TE}{f:ai->Dm D}(hf:dk K t f):mP K (AO t) (bI f):=by
 intro ρ σ H δ st fl st' E l rs e q;obtain ⟨a,st1,e1,e⟩:=cn e;cases e;exact hf ρ σ H δ st a _ _ l rs e1 fun x H1 ρ1 m1 l1 r1=>q x H1 ρ1 m1 l1 r1
def aG(f:ai->Dm D)(h:D->ai->Dm ai):ai->Dm Fl:=fun δ st=>bnd (f δ st) fun d st1=>bnd (h d δ st1) fun δ1 st2=>some (.nx δ1,st2)
theorem bQ{t:TE}{g:TG}{f:ai->Dm D}{h:D->ai->Dm ai}(hf:dk K t f)(hh:x8 K g h):mP K (qj t g) (aG f h):=by
 intro ρ σ H δ st fl st' E l rs e q;obtain ⟨a,st1,e1,e⟩:=cn e;obtain ⟨δ1,st2,e2,e⟩:=cn e;cases e;exact hf ρ σ H δ st a st1 _ l rs e1 fun x H1 ρ1 m1 l1 r1=>hh ρ1 σ H1 δ st1 x a δ1 _ _ l1 (rs.mn m1) r1 e2 fun σ2 H2 ρ2 m2 l2 r2=>q σ2 H2 ρ2 (m1.trans m2) l2 r2
def su(i j:Nat)(fa:ai->Dm (List D)):ai->Dm Fl:=fun δ st=>bnd (fa δ st) fun as st1=>match as with
 |[a,b]=>some (.nx ((δ.set i (some a)).set j (some b)),st1)
 |_=>none
theorem LN{i j:Nat}{t:TA}{fa:ai->Dm (List D)}(ha:o6 K t fa):mP K (AV i j t) (su i j fa):=by
 intro ρ σ H δ st fl st' E l rs e q;obtain ⟨as,st1,e1,e⟩:=cn e;split at e
 ·cases e
  refine ha ρ σ H δ st _ _ _ l rs e1 fun x H1 ρ1 m1 l1 r1=>?_;obtain ⟨v,w,rfl,r,r'⟩:=r1.two';exact ⟨v,w,rfl,q _ H1 ρ1 m1 l1 (((rs.mn m1).set r).set r')⟩
 ·cases e
def cZ(c:ai->Dm Bool)(b:ai->Dm Fl):Nat->ai->Dm Fl
 |0,_,_=>none
 | n + 1,δ,st=>bnd (c δ st) fun t st1=>if t=true then bnd (b δ st1) fun fl st2=>match fl with
   |.nx δ2=>cZ c b n δ2 st2
   |.ct δ2=>cZ c b n δ2 st2
   |.bk δ2=>some (.nx δ2,st2)
   |.rt d=>some (.rt d,st2)
  else some (.nx δ,st1)
def fuel:Nat:=1000000
def gZ(c:ai->Dm Bool)(b:ai->Dm Fl):ai->Dm Fl:=cZ c b fuel
theorem Cm{tc:TT}{tb:TS}{c:ai->Dm Bool}{b:ai->Dm Fl}(hc:p9 K tc c)(hb:mP K tb b):mP K (pb tc tb) (gZ c b):=by
 intro ρ σ H δ st fl st' E l rs e q;refine ⟨fun m σ1 H1=>∃ρ1 δ1 st1,Mn K ρ H ρ1 H1/\Rl K ρ1 H1 st1/\Rs K ρ1 H1 σ1 δ1/\cZ c b m δ1 st1=some (fl,st'),⟨fuel,ρ,δ,st,.refl,l,rs,e⟩,?_⟩;rintro m σ1 H1 ⟨ρ1,δ1,st1,m1,l1,qS,e1⟩;cases m with
 |zero=>cases e1
 |succ m =>
  obtain ⟨t,st2,e2,e1⟩:=cn e1;refine hc ρ1 σ1 H1 δ1 st1 _ _ _ l1 qS e2 fun x H2 ρ2 m2 l2 r2=>?_;subst r2;cases x with
  |true =>
   refine oo ?_;rw [if_pos rfl] at e1;obtain ⟨f2,st3,e3,e1⟩:=cn e1;refine ⟨fun σ3 H3=>∃m',m' < m+1/\∃ρ1 δ1 st1,Mn K ρ H ρ1 H3/\Rl K ρ1 H3 st1/\Rs K ρ1 H3 σ3 δ1/\cZ c b m' δ1 st1=some (fl,st'),fun _ _ h=>h,hb ρ2 σ1 H2 δ1 st2 f2 st3 _ l2 (qS.mn m2) e3 ?_⟩;cases f2 with
   |nx δ3=>exact fun σ3 H3 ρ3 m3 l3 r3=>⟨m,Wu m,ρ3,δ3,st3,(m1.trans m2).trans m3,l3,r3,e1⟩
   |ct δ3=>exact fun σ3 H3 ρ3 m3 l3 r3=>⟨m,Wu m,ρ3,δ3,st3,(m1.trans m2).trans m3,l3,r3,e1⟩
   |bk δ3=>cases e1;exact q.mn (m1.trans m2)
   |rt d=>cases e1;exact q.mn (m1.trans m2)
  |false =>
   refine om ?_;rw [if_neg VD] at e1;cases e1;exact q.mn (m1.trans m2) σ1 H2 ρ2 .refl l2 (qS.mn m2)
inductive Src where
 |fix (ds:List D)|live (i:Nat)|Q7 (i:Nat)|zl (i:Nat) (es:List D)|zr (ds:List D) (i:Nat)
def Src.at:Src->Nat->Store->Option (Option D)
 |.fix ds,i,_=>if i<=ds.length then some ds[i]? else none
 |.live r,i,st=>(items st r).map fun ds=>ds[i]?
 |.Q7 r,i,st=>(items st r).bind fun ds=>if i<=ds.length then some (ds.mapIdx fun i d=>D.tup [.int (i:Int),d])[i]? else none
 |.zl r es,i,st=>(items st r).bind fun ds=>if i<=(List.zipWith (fun a b=>D.tup [a,b]) ds es).length then some (List.zipWith (fun a b=>D.tup [a,b]) ds es)[i]? else none
 |.zr ds r,i,st=>(items st r).bind fun es=>if i<=(List.zipWith (fun a b=>D.tup [a,b]) ds es).length then some (List.zipWith (fun a b=>D.tup [a,b]) ds es)[i]? else none
theorem Aa{ds:List D}{i:Nat}{st:Store}{o:Option D}(h:Src.at (.fix ds) i st=some o):i<=ds.length/\ds[i]?=o:=by
 simp only [Src.at] at h;split at h
 ·next hl=>exact ⟨hl,VJ h⟩
 ·cases h
def Cn(K:Zfr)(ρ:List Addr)(H:Hp)(J:It)(S:Src):Prop :=
 ∀(ρ2:List Addr) (H2:Hp) (st2:Store) (i:Nat),Mn K ρ H ρ2 H2->Rl K ρ2 H2 st2 ->
  (S.at i st2=some none->J.stop i H2)/\∀d,S.at i st2=some (some d)->J.go i H2/\∀x H3,J.tV i H2 x H3->Mn K ρ2 H2 ρ2 H3/\Rl K ρ2 H3 st2/\Rp K ρ2 H3 x d
abbrev x9(K:Zfr)(t:TI)(f:ai->Dm Src):Prop:=So K (Cn K) t f
def gg(S:Src)(g:D->ai->Dm ai)(b:ai->Dm Fl):Nat->Nat->ai->Dm Fl
 |0,_,_,_=>none
 |n+1,i,δ,st=>match S.at i st with
  |none=>none
  |some none=>some (.nx δ,st)
  |some (some d)=>bnd (g d δ st) fun δ1 st1=>bnd (b δ1 st1) fun fl st2=>match fl with
   |.nx δ2=>gg S g b n (i+1) δ2 st2
   |.ct δ2=>gg S g b n (i+1) δ2 st2
   |.bk δ2=>some (.nx δ2,st2)
   |.rt d=>some (.rt d,st2)
def dZ(fi:ai->Dm Src)(g:D->ai->Dm ai)(b:ai->Dm Fl):ai->Dm Fl:=fun δ st=>bnd (fi δ st) fun S st1=>gg S g b fuel 0 δ st1
theorem mv{wi:TI}{tg:TG}{tb:TS}{fi:ai->Dm Src}{g:D->ai->Dm ai}{b:ai->Dm Fl}(hi:x9 K wi fi)(hg:x8 K tg g)(hb:mP K tb b):mP K (AZ wi tg tb) (dZ fi g b):=by
 intro ρ σ H δ st fl st' E l rs e q;obtain ⟨S,kn,e0,e⟩:=cn e;refine hi ρ σ H δ st S kn _ l rs e0 fun J H0 ρ0 m0 l0 ok=>?_;refine ⟨fun i m σ1 H1=>∃ρ1 δ1 st1,Mn K ρ0 H0 ρ1 H1/\Rl K ρ1 H1 st1/\Rs K ρ1 H1 σ1 δ1/\gg S g b m i δ1 st1=some (fl,st'),⟨fuel,ρ0,δ,kn,.refl,l0,rs.mn m0,e⟩,?_⟩;rintro i m σ1 H1 ⟨ρ1,δ1,st1,m1,l1,qS,e1⟩;cases m with
 |zero=>cases e1
 |succ m =>
  obtain ⟨hstop,hgo⟩:=ok ρ1 H1 st1 i m1 l1;unfold gg at e1;split at e1
  ·cases e1
  ·next hs=>cases e1;exact .inl ⟨hstop hs,q.mn (m0.trans m1) σ1 H1 ρ1 .refl l1 qS⟩
  ·next d hs =>
   obtain ⟨δ2,st2,e2,e1⟩:=cn e1;obtain ⟨f3,st3,e3,e1⟩:=cn e1;obtain ⟨go,tV⟩:=hgo d hs;refine .inr ⟨go,fun σ3 H3=>∃m',m' < m+1/\∃ρ1 δ1 st1,Mn K ρ0 H0 ρ1 H3/\Rl K ρ1 H3 st1/\Rs K ρ1 H3 σ3 δ1/\gg S g b m' (i+1) δ1 st1=some (fl,st'),fun _ _ h=>h,fun x H2 hy=>?_⟩;obtain ⟨m2,l2,r2⟩:=tV x H2 hy;refine hg ρ1 σ1 H2 δ1 st1 x d δ2 st2 _ l2 (qS.mn m2) r2 e2 fun σ4 H4 ρ4 m4 l4 r4=>hb ρ4 σ4 H4 δ2 st2 f3 st3 _ l4 r4 e3 ?_;have m5:=((m1.trans m2).trans m4);cases f3 with
   |nx δ3=>exact fun σ5 H5 ρ5 m6 l5 r5=>⟨m,Wu m,ρ5,δ3,st3,m5.trans m6,l5,r5,e1⟩
   |ct δ3=>exact fun σ5 H5 ρ5 m6 l5 r5=>⟨m,Wu m,ρ5,δ3,st3,m5.trans m6,l5,r5,e1⟩
   |bk δ3=>cases e1;exact q.mn (m0.trans m5)
   |rt d=>cases e1;exact q.mn (m0.trans m5)
def fL(fa:ai->Dm D):ai->Dm Src:=fun δ st=>bnd (fa δ st) fun a st1=>match a with
 |.tup ds=>some (.fix ds,st1)
 |_=>none
theorem sv{t:TE}{fa:ai->Dm D}(ha:dk K t fa):x9 K (AX K t) (fL fa):=by
 intro ρ σ H δ st S st' Q l rs e q;obtain ⟨a,st1,e1,e⟩:=cn e;cases a<;>simp at e;obtain ⟨rfl,rfl⟩:=e;refine ha ρ σ H δ st _ _ _ l rs e1 fun x H1 ρ1 m1 l1 r1=>?_;cases r1 with
 |tup s r =>
  refine ⟨_,rfl,⟨_,s⟩,q _ H1 ρ1 m1 l1 fun ρ2 H2 st2 i m2 l2=>⟨fun h=>?_,fun d h=>?_⟩⟩
  ·exact ⟨_,m2.t _ _ s,by rw [r.length];exact Wo.mp (Aa h).2⟩
  ·obtain ⟨v,hv,rv⟩:=r.got (Aa h).2
   refine ⟨⟨_,v,m2.t _ _ s,hv⟩,fun x H3 y=>?_⟩;obtain ⟨rfl,hx⟩:=y;have:=hx _ (m2.t _ _ s);rw [hv] at this;cases this;exact ⟨.refl,l2,rv.mn m2⟩
def i6(fa:ai->Dm D):ai->Dm Src:=fun δ st=>bnd (fa δ st) fun a st1=>match a with
 |.ref i=>match items st1 i with
  |some _=>some (.live i,st1)
  |none=>none
 |_=>none
theorem Cp{t:TE}{fa:ai->Dm D}(ha:dk K t fa):x9 K (rm K t) (i6 fa):=by
 intro ρ σ H δ st S st' Q l rs e q;obtain ⟨a,st1,e1,e⟩:=cn e;split at e
 ·next k =>
  split at e
  ·next ds hd =>
   cases e;refine ha ρ σ H δ st _ _ _ l rs e1 fun x H1 ρ1 m1 l1 r1=>?_;cases r1 with
   |ref hi =>
    obtain ⟨vs,s,r⟩:=l1.items hi hd;refine ⟨_,rfl,⟨_,s⟩,q _ H1 ρ1 m1 l1 fun ρ2 H2 st2 i m2 l2=>⟨fun h=>?_,fun d h=>?_⟩⟩
    ·obtain ⟨Q8,hd2,h⟩:=V7.mp h
     obtain ⟨LO,s2,r2⟩:=l2.items (m2.r _ _ hi) hd2;exact ⟨LO,s2,by rw [r2.length];exact Wo.mp h⟩
    ·obtain ⟨Q8,hd2,h⟩:=V7.mp h
     obtain ⟨LO,s2,r2⟩:=l2.items (m2.r _ _ hi) hd2;obtain ⟨v,hv,rv⟩:=r2.got h;refine ⟨⟨_,v,s2,hv⟩,fun x H3 y=>?_⟩;obtain ⟨rfl,hx⟩:=y;have:=hx _ s2;rw [hv] at this;cases this;exact ⟨.refl,l2,rv⟩
  ·cases e
 ·cases e
def cq(fa:ai->Dm (List D)):ai->Dm Src:=fun δ st=>bnd (fa δ st) fun as st1=>match as with
 |[.int j]=>if decide (-4611686018427387904<=j/\j<4611686018427387904)=true then some (.fix (aB 0 j.toNat),st1) else none
 |_=>none
def nA(fa:ai->Dm (List D)):ai->Dm Src:=fun δ st=>bnd (fa δ st) fun as st1=>match as with
 |[.int i,.int j]=>if decide ((-4611686018427387904<=i/\i<4611686018427387904)/\-4611686018427387904<=j/\j<4611686018427387904)=true then some (.fix (aB i (j-i).toNat),st1) else none
 |_=>none
theorem iN(lo:Int)(n:Nat):(aB lo n).length=n:=by simp [aB]
theorem ya{lo:Int}{n k:Nat}(h:k<n):(aB lo n)[k]?=some (.int (lo+k)):=by simp [aB,h]
theorem LP{ρ:List Addr}{H:Hp}(lo:Int)(n:Nat):Cn K ρ H (AW lo n) (.fix (aB lo n)):=by
 intro ρ2 H2 st2 i m2 l2;refine ⟨fun h=>?_,fun d h=>?_⟩
 ·have:=Wo.mp (Aa h).2
  rw [iN] at this;exact this
 ·have h:=(Aa h).2
  have hl:=(VA.mp h).1;rw [iN] at hl;rw [ya hl] at h;cases h;refine ⟨hl,fun x H3 y=>?_⟩;obtain ⟨rfl,rfl⟩:=y;exact ⟨.refl,l2,.int _⟩
theorem qd{t:TA}{fa:ai->Dm (List D)}(ha:o6 K t fa):x9 K (u5 t) (cq fa):=by
 intro ρ σ H δ st S st' Q l rs e q;obtain ⟨as,st1,e1,e⟩:=cn e;split at e
 ·split at e
  ·next ok =>
   cases e;have ok:=of_decide_eq_true ok;refine ha ρ σ H δ st _ _ _ l rs e1 fun x H1 ρ1 m1 l1 r1=>?_;obtain ⟨v,rfl,r⟩:=r1.one';cases r;exact ⟨_,rfl,by omega,by omega,q _ H1 ρ1 m1 l1 (LP 0 _)⟩
  ·cases e
 ·cases e
theorem Q9{t:TA}{fa:ai->Dm (List D)}(ha:o6 K t fa):x9 K (u6 t) (nA fa):=by
 intro ρ σ H δ st S st' Q l rs e q;obtain ⟨as,st1,e1,e⟩:=cn e;split at e
 ·split at e
  ·next ok =>
   cases e;have ok:=of_decide_eq_true ok;refine ha ρ σ H δ st _ _ _ l rs e1 fun x H1 ρ1 m1 l1 r1=>?_;obtain ⟨v,w,rfl,r,r'⟩:=r1.two';cases r;cases r';exact ⟨_,_,rfl,by omega,q _ H1 ρ1 m1 l1 (LP _ _)⟩
  ·cases e
 ·cases e
def kP(ds:List D):List D:=ds.mapIdx fun i d=>.tup [.int (i:Int),d]
theorem Cq(ds:List D):(kP ds).length=ds.length:=by simp [kP]
theorem Il{ds:List D}{i:Nat}{x:D}(h:(kP ds)[i]?=some x):∃d,ds[i]?=some d/\x=.tup [.int (i:Int),d]:=by
 unfold kP at h;rw [List.getElem?_mapIdx] at h;obtain ⟨d,h1,h2⟩:=V7.mp h;exact ⟨d,h1,h2.symm⟩
def lR(fa:ai->Dm (List D)):ai->Dm Src:=fun δ st=>bnd (fa δ st) fun as st1=>match as with
 |[.tup ds]=>some (.fix (kP ds),st1)
 |_=>none
theorem LQ{t:TA}{fa:ai->Dm (List D)}(ha:o6 K t fa):x9 K (vz K t) (lR fa):=by
 intro ρ σ H δ st S st' Q l rs e q;obtain ⟨as,st1,e1,e⟩:=cn e;split at e
 ·cases e
  refine ha ρ σ H δ st _ _ _ l rs e1 fun x H1 ρ1 m1 l1 r1=>?_;obtain ⟨v,rfl,r⟩:=r1.one';cases r with
  |tup s r =>
   refine ⟨_,rfl,⟨_,s⟩,q _ H1 ρ1 m1 l1 fun ρ2 H2 st2 i m2 l2=>⟨fun h=>?_,fun d h=>?_⟩⟩
   ·obtain ⟨h1,h2⟩:=Aa h
    have h2:=Wo.mp h2;rw [Cq] at h1 h2;exact ⟨_,m2.t _ _ s,by rw [r.length];omega⟩
   ·obtain ⟨h1,h2⟩:=Aa h
    obtain ⟨d',hd',rfl⟩:=Il h2;obtain ⟨v,hv,rv⟩:=r.got hd';refine ⟨⟨_,v,m2.t _ _ s,hv⟩,fun x H3 y=>?_⟩;obtain ⟨p,z,rfl,hp,rfl,hx⟩:=y;have:=hx _ (m2.t _ _ s);rw [hv] at this;cases this;have m3:Mn K ρ2 H2 ρ2 (upd H2 p (.tup [.int (i:Int),v])):=Mn.same (dY.up hp);exact ⟨m3,l2.same (dY.up hp),.tup (eu.of kS) (.cons (.int _) (.one ((rv.mn m2).mn m3)))⟩
 ·cases e
def g7(S:Src)(g:D->ai->Dm ai)(tc:ai->Dm Bool)(te:ai->Dm D):Nat->Nat->List D->ai->Dm (List D)
 |0,_,_,_,_=>none
 |n+1,i,ys,δ,st=>if lim ys.length=true then match S.at i st with
  |none=>none
  |some none=>some (ys,st)
  |some (some d)=>bnd (g d δ st) fun δ1 st1=>bnd (tc δ1 st1) fun t st2=>if t=true then bnd (te δ1 st2) fun y st3=>g7 S g tc te n (i+1) (ys ++ [y]) δ1 st3 else g7 S g tc te n (i+1) ys δ1 st2
  else none
def oH(n:Nat)(js:List Nat)(δ:ai):ai:=List.replicate n none ++ js.map fun j=>δ.getD j none
def d5(fi:ai->Dm Src)(n:Nat)(js:List Nat)(g:D->ai->Dm ai)(tc:ai->Dm Bool)(te:ai->Dm D):ai->Dm D:=fun δ st=>bnd (fi δ st) fun S st1=>bnd (g7 S g tc te fuel 0 [] (oH n js δ) st1) fun ys st2=>some (.ref st2.length,st2 ++ [.lst ys])
theorem Rs.comp{ρ:List Addr}{H:Hp}{σ:St}{δ:ai}(h:Rs K ρ H σ δ)(n:Nat)(js:List Nat):Rs K ρ H (iW n js σ) (oH n js δ):=by
 unfold iW oH;refine ⟨by simp,fun i d hd=>?_⟩
 by_cases hi:i<n
 ·rw [VM (by simpa using hi),WZ,if_pos hi] at hd
  cases hd
 ·rw [VX (by simpa using Nat.le_of_not_lt hi),VP] at hd
  rw [VX (by simpa using Nat.le_of_not_lt hi),VP];simp only [W5] at hd ⊢;cases hj:js[i-n]? with
  |none=>rw [hj] at hd;cases hd
  |some j =>
   rw [hj] at hd;have hd:δ.getD j none=some d:=VJ hd;rw [VU] at hd;have hd':δ[j]?=some (some d):=by
    cases hx:δ[j]? with
    |none=>rw [hx] at hd;cases hd
    |some y=>rw [hx] at hd;exact congrArg some hd
   obtain ⟨v,hv,r⟩:=h.2 j d hd';exact ⟨v,by show some (σ.getD j none)=_;rw [VU,hv];rfl,r⟩
theorem qT{wi:TI}{tg:TG}{tc:TT}{te:TE}{fi:ai->Dm Src}{n:Nat}{js:List Nat}{g:D->ai->Dm ai}{c:ai->Dm Bool}{f:ai->Dm D}(hi:x9 K wi fi)(hg:x8 K tg g)(hc:p9 K tc c)(hf:dk K te f):dk K (rL wi n js tg tc te) (d5 fi n js g c f):=by
 intro ρ σ H δ st b st' Q l rs e q;obtain ⟨S,kn,e0,e⟩:=cn e;obtain ⟨zs,pD,e9,e⟩:=cn e;cases e;refine hi ρ σ H δ st S kn _ l rs e0 fun J H0 ρ0 m0 l0 ok=>?_;refine ⟨fun i m ys σ1 H1=>∃ρ1 δ1 st1 ws,Mn K ρ0 H0 ρ1 H1/\Rl K ρ1 H1 st1/\Rs K ρ1 H1 σ1 δ1/\cf K ρ1 H1 ys ws/\g7 S g c f m i ws δ1 st1=some (zs,pD),⟨fuel,ρ0,_,kn,[],.refl,l0,(rs.mn m0).comp n js,.nil,e9⟩,?_⟩;rintro i m ys σ1 H1 ⟨ρ1,δ1,st1,ws,m1,l1,qS,E7,e1⟩;cases m with
 |zero=>cases e1
 |succ m =>
  obtain ⟨hstop,hgo⟩:=ok ρ1 H1 st1 i m1 l1;unfold g7 at e1;split at e1
  ·next hl =>
   refine ⟨by rw [E7.length];exact HY hl,?_⟩;split at e1
   ·cases e1
   ·next hs =>
    cases e1;exact .inl ⟨hstop hs,fun p hp=>q _ _ _ ((m0.trans m1).trans (Mn.new hp)) (l1.newL hp E7) (.ref (newR l1))⟩
   ·next d hs =>
    obtain ⟨δ2,st2,e2,e1⟩:=cn e1;obtain ⟨t,st3,e3,e1⟩:=cn e1;obtain ⟨go,tV⟩:=hgo d hs;refine .inr ⟨go,fun x H2 hy=>?_⟩;obtain ⟨m2,l2,r2⟩:=tV x H2 hy;refine hg ρ1 σ1 H2 δ1 st1 x d δ2 st2 _ l2 (qS.mn m2) r2 e2 fun σ4 H4 ρ4 m4 l4 r4=>hc ρ4 σ4 H4 δ2 st2 t st3 _ l4 r4 e3 fun t' H5 ρ5 m5 l5 r5=>?_;subst r5;have m6:=(((m1.trans m2).trans m4).trans m5);cases t' with
    |true =>
     refine oo ?_;rw [if_pos rfl] at e1;obtain ⟨y,Im,e6,e1⟩:=cn e1;exact hf ρ5 σ4 H5 δ2 st3 y Im _ l5 (r4.mn m5) e6 fun v H7 ρ7 m7 l7 r7=>⟨m,Wu m,ρ7,δ2,Im,ws ++ [y],m6.trans m7,l7,r4.mn (m5.trans m7),(E7.mn (((m2.trans m4).trans m5).trans m7)).append (.one r7),e1⟩
    |false =>
     refine om ?_;rw [if_neg VD] at e1;exact ⟨m,Wu m,ρ5,δ2,st3,ws,m6,l5,r4.mn m5,E7.mn ((m2.trans m4).trans m5),e1⟩
  ·cases e1
def fM:ai->Dm Bool:=fun _ st=>some (true,st)
def iR(n:Nat)(b:ai->Dm Fl):List D->Dm D:=fun ds st=>bnd (b (ds.map some ++ List.replicate (n-ds.length) none) st) fun fl st1=>match fl with
 |.rt d=>some (d,st1)
 |.nx _=>some (.non,st1)
 |_=>none
theorem Rs.start{ρ:List Addr}{H:Hp}{vs:List V}{ds:List D}(r:cf K ρ H vs ds)(N:List Str):Rs K ρ H (start N vs) (ds.map some ++ List.replicate (N.length-ds.length) none):=by
 unfold L2.start;rw [r.length];refine ⟨by simp [r.length],fun i d hd=>?_⟩
 by_cases hi:i<ds.length
 ·rw [VM (by simpa using hi),VP] at hd
  rw [VM (by rw [Vz,r.length];exact hi),VP];cases hx:ds[i]? with
  |none=>rw [hx] at hd;cases hd
  |some y =>
   rw [hx] at hd;cases hd;obtain ⟨v,hv,rv⟩:=r.got hx;exact ⟨v,by rw [hv];rfl,rv⟩
 ·rw [VX (by simpa using Nat.le_of_not_lt hi),WZ] at hd
  split at hd<;>cases hd
theorem jN{N:List Str}{k n:Nat}{t:TS}{b:ai->Dm Fl}{vs:List V}{H:Hp}{Q:VK}{E:XK}(hb:mP K t b)(hn:N.length=n)(h:cy K k (iR n b) vs H Q E):t { nx:=fun _ H'=>Q .non H',rt:=Q } (start N vs) H:=by
 obtain ⟨hk,ρ,st,ds,d,st',l,r,e,q⟩:=h;subst hn;obtain ⟨fl,st1,e1,e⟩:=cn e;refine hb ρ _ H _ st fl st1 _ l (Rs.start r N) e1 ?_;cases fl with
 |rt v=>cases e;exact q
 |nx δ=>cases e;exact fun σ' H' ρ' m l' r'=>q .non H' ρ' m l' .non
 |bk δ=>cases e
 |ct δ=>cases e
end
section
variable {X:Cx}{K:Zfr}
theorem Ra{N:List Str}{sx:Scope}{cells:List (Str×Addr)}{C:Addr}{fp:List Addr}{s:Shared}{H:Hp}{sy:Scope}{own fr:List Str}(h:rK (rJ sx X.env.scope) sy own fr):rK (aL X N sx cells C fp s H).env.scope sy own fr:=h
theorem tM:p9 K (fun _ H Q=>Q true H) fM:=by
 intro ρ σ H δ st b st' Q l rs e q;cases e;exact q _ H ρ .refl l rfl
end
def vU(K:Zfr):Sp:=fun vs H Q _=>∃(a:Addr) (ns:List Int),vs=[.ref a]/\Bo K H a (ns.map V.int)/\ns.length<=63/\∀H',Q (.bl true) H'
theorem yb{P:Program}{w:World}{K:Zfr}{mg:Str->Option Value}{base:Heap}{k:Nat}{f:Addr}{fd:FuncData}{ps:List Str}{F:List D->Dm D}(G:aH P w K mg base bW k f fd ps (cy K 1 F))
  (h:∀ns:List Int,ns.length<=63->∃st',F [.ref 0] [.oB (ns.map D.int)]=some (.bl true,st')):aH P w K mg base bW k f fd ps (vU K):=by
 refine G.imp fun vs H Q E hs=>?_;obtain ⟨a,ns,rfl,hS,hn,q⟩:=hs;obtain ⟨st',e⟩:=h ns hn;have one:∀i (b:Addr),([a]:List Addr)[i]?=some b->i=0/\b=a:=fun i b h=>by
  cases i with
  |zero=>exact ⟨rfl,(VJ h).symm⟩
  |succ i=>simp at h
 refine ⟨rfl,[a],[.oB (ns.map D.int)],[.ref 0],.bl true,st',⟨rfl,fun i j b o o' h1 h2 _ _ _ _=>by rw [(one i b h1).1,(one j b h2).1],fun i b o h1 h2=>?_⟩,.one (.ref rfl),e,fun v H' ρ' m l r=>by cases r;exact q H'⟩;obtain ⟨rfl,rfl⟩:=one i b h1;cases (VJ h2);exact ⟨ns.map V.int,hS,cf.ints ns⟩
def Wp{α:Type}(m:Option (α×Store))(Q:α->Store->Prop):Prop:=∃a st,m=some (a,st)/\Q a st
section
variable {α β:Type}{Q Q':α->Store->Prop}{st:Store}{δ:ai}
theorem bB{m:Option (α×Store)}(h:Wp m Q)(hq:∀a st,Q a st->Q' a st):Wp m Q':=let ⟨a,st,e,q⟩:=h;⟨a,st,e,hq a st q⟩
theorem bh{a:α}:Wp (some (a,st)) Q↔Q a st:=⟨fun ⟨_,_,e,q⟩=>by cases e;exact q,fun q=>⟨a,st,rfl,q⟩⟩
theorem fJ:Wp (none:Option (α×Store)) Q↔False:=⟨fun ⟨_,_,e,_⟩=>(by cases e),False.elim⟩
theorem cU{R:β->Store->Prop}{m:Option (α×Store)}{k:α->Dm β}:Wp (bnd m k) R↔Wp m fun a st1=>Wp (k a st1) R:=by
 cases m with
 |none=>exact ⟨fun ⟨_,_,e,_⟩=>(by cases e),fun ⟨_,_,e,_⟩=>(by cases e)⟩
 |some p=>exact ⟨fun h=>⟨p.1,p.2,rfl,h⟩,fun ⟨a,s,e,h⟩=>by cases e;exact h⟩
theorem mQ{c:Prop}[Decidable c]{m n:Option (α×Store)}:Wp (if c then m else n) Q↔if c then Wp m Q else Wp n Q:=by split<;>exact Iff.rfl
end
section
variable {st:Store}{δ:ai}{Q:D->Store->Prop}
theorem yc{i:Nat}:Wp (ag i δ st) Q↔∃d,δ[i]?=some (some d)/\Q d st:=by
 unfold ag;split
 ·next d hd=>rw [bh];exact ⟨fun h=>⟨d,hd,h⟩,fun ⟨e,he,h⟩=>by rw [hd] at he;cases he;exact h⟩
 ·next h=>rw [fJ];exact ⟨False.elim,fun ⟨e,he,_⟩=>h e he⟩
theorem Io{d:D}:Wp (fC d δ st) Q↔Q d st:=bh
theorem Cr{g:D->D->Dm D}{fa fb:ai->Dm D}:Wp (aD g fa fb δ st) Q↔Wp (fa δ st) fun a st1=>Wp (fb δ st1) fun b st2=>Wp (g a b st2) Q:=by
 unfold aD;rw [cU];simp only [cU]
theorem Cs{g:D->Dm D}{fa:ai->Dm D}:Wp (ux g fa δ st) Q↔Wp (fa δ st) fun a st1=>Wp (g a st1) Q:=cU
theorem Ct{g:List D->Dm D}{fa:ai->Dm (List D)}:Wp (aN g fa δ st) Q↔Wp (fa δ st) fun a st1=>Wp (g a st1) Q:=cU
theorem yd{R:List D->Store->Prop}:Wp (ah δ st) R↔R [] st:=bh
theorem Rb{R:List D->Store->Prop}{fa:ai->Dm D}{fr:ai->Dm (List D)}:Wp (af fa fr δ st) R↔Wp (fa δ st) fun a st1=>Wp (fr δ st1) fun r st2=>R (a :: r) st2:=by
 unfold af;rw [cU];simp only [cU,bh]
theorem ye{fa:ai->Dm (List D)}:Wp (bS fa δ st) Q↔Wp (fa δ st) fun as st1=>lim as.length=true/\Q (.tup as) st1:=by
 unfold bS;rw [cU];simp only [mQ,bh,fJ];constructor<;>exact fun h=>bB h fun a s h=>by first|(split at h;exact ⟨by assumption,h⟩;exact h.elim)|(rw [if_pos h.1];exact h.2)
theorem yf{fa:ai->Dm (List D)}:Wp (cL fa δ st) Q↔Wp (fa δ st) fun as st1=>lim as.length=true/\Q (.ref st1.length) (st1 ++ [.lst as]):=by
 unfold cL;rw [cU];simp only [mQ,bh,fJ];constructor<;>exact fun h=>bB h fun a s h=>by first|(split at h;exact ⟨by assumption,h⟩;exact h.elim)|(rw [if_pos h.1];exact h.2)
theorem Rc{R:Bool->Store->Prop}{fa:ai->Dm D}:Wp (aC fa δ st) R↔Wp (fa δ st) fun a st1=>∃b,a=.bl b/\R b st1:=by
 unfold aC;rw [cU];constructor<;>refine fun h=>bB h fun a s h=>?_
 ·cases a<;>simp only [bh,fJ] at h
  exact ⟨_,rfl,h⟩
 ·obtain ⟨b,rfl,h⟩:=h
  exact bh.mpr h
theorem yg{R:Bool->Store->Prop}{fa:ai->Dm Bool}:Wp (se fa δ st) R↔Wp (fa δ st) fun a st1=>R (!a) st1:=by
 unfold se;rw [cU];simp only [bh]
theorem yh{R:Bool->Store->Prop}{fa fb:ai->Dm Bool}:Wp (mh fa fb δ st) R↔Wp (fa δ st) fun a st1=>if a=true then Wp (fb δ st1) R else R false st1:=by
 unfold mh;rw [cU];simp only [mQ,bh]
theorem Cu{R:Bool->Store->Prop}{fa fb:ai->Dm Bool}:Wp (Lz fa fb δ st) R↔Wp (fa δ st) fun a st1=>if a=true then R true st1 else Wp (fb δ st1) R:=by
 unfold Lz;rw [cU];simp only [mQ,bh]
theorem vV{α:Type}{R:α->Store->Prop}{c:ai->Dm Bool}{fa fb:ai->Dm α}:Wp (fK c fa fb δ st) R↔Wp (c δ st) fun a st1=>if a=true then Wp (fa δ st1) R else Wp (fb δ st1) R:=by
 unfold fK;rw [cU];simp only [mQ]
theorem Rf{fa fb:ai->Dm D}:Wp (vM fa fb δ st) Q↔Wp (aC fa δ st) fun a st1=>if a=true then Wp (fb δ st1) Q else Q (.bl false) st1:=by
 unfold vM;rw [cU];simp only [mQ,bh]
theorem LR{fa fb:ai->Dm D}:Wp (uy fa fb δ st) Q↔Wp (aC fa δ st) fun a st1=>if a=true then Q (.bl true) st1 else Wp (fb δ st1) Q:=by
 unfold uy;rw [cU];simp only [mQ,bh]
theorem Rg{fa:ai->Dm D}:Wp (vN fa δ st) Q↔Wp (aC fa δ st) fun a st1=>Q (.bl (!a)) st1:=by
 unfold vN;rw [cU];simp only [bh]
theorem Rh{R:Option Int->Store->Prop}:Wp (ki δ st) R↔R none st:=bh
theorem Ri{R:Option Int->Store->Prop}{fa:ai->Dm D}:Wp (kO fa δ st) R↔Wp (fa δ st) fun a st1=>∃i,a=.int i/\R (some i) st1:=by
 unfold kO;rw [cU];constructor<;>refine fun h=>bB h fun a s h=>?_
 ·cases a<;>simp only [bh,fJ] at h
  exact ⟨_,rfl,h⟩
 ·obtain ⟨b,rfl,h⟩:=h
  exact bh.mpr h
theorem Cv{g:D->Option Int->Option Int->Dm D}{fa:ai->Dm D}{fl fh:ai->Dm (Option Int)}:Wp (xS g fa fl fh δ st) Q↔Wp (fa δ st) fun a st1=>Wp (fl δ st1) fun lo st2=>Wp (fh δ st2) fun hi st3=>Wp (g a lo hi st3) Q:=by
 unfold xS;rw [cU];simp only [cU]
theorem Cw{T:String}{g:D->List D->Dm D}{fo:ai->Dm D}{fa:ai->Dm (List D)}:Wp (jE T g fo fa δ st) Q↔Wp (fo δ st) fun o st1=>tL T st1 o=true/\Wp (fa δ st1) fun as st2=>Wp (g o as st2) Q:=by
 unfold jE;rw [cU];simp only [mQ,cU,fJ];constructor<;>exact fun h=>bB h fun a s h=>by first|(split at h;exact ⟨by assumption,h⟩;exact h.elim)|(rw [if_pos h.1];exact h.2)
variable {i j:Int}{ds es:List D}{k:Nat}
theorem yi:Wp (gW (.int i) (.int j) st) Q↔Q (.int (i+j)) st:=bh
theorem yj:Wp (oh (.int i) (.int j) st) Q↔Q (.int (i-j)) st:=bh
theorem Cy:Wp (vP (.int i) (.int j) st) Q↔Q (.bl (decide (i<j))) st:=bh
theorem Cz:Wp (QW (.int i) (.int j) st) Q↔Q (.bl (decide (i<=j))) st:=bh
theorem CA:Wp (sg (.int i) (.int j) st) Q↔Q (.bl (decide (j<i))) st:=bh
theorem CB:Wp (Ie (.int i) (.int j) st) Q↔Q (.bl (decide (j<=i))) st:=bh
theorem yk:Wp (mj (.int i) st) Q↔Q (.int (-i)) st:=bh
theorem E8{c:Int->Int->Bool}{h:Int->Int->D}:Wp (xT c h (.int i) (.int j) st) Q↔c i j=true/\Q (h i j) st:=by
 show Wp (if c i j=true then some (h i j,st) else none) Q↔_;rw [mQ,bh,fJ];split
 ·next h=>exact ⟨fun q=>⟨h,q⟩,fun q=>q.2⟩
 ·next h=>exact ⟨False.elim,fun q=>h q.1⟩
theorem yl:Wp (lP (.int i) (.int j) st) Q↔((-18446744073709551616<i/\i<18446744073709551616)\/(-18446744073709551616<j/\j<18446744073709551616))/\Q (.int (i*j)) st:=by
 unfold lP;rw [E8,Bool.or_eq_true,decide_eq_true_eq,decide_eq_true_eq]
theorem Rj:Wp (mL (.int i) (.int j) st) Q↔(0<j/\j<1073741824)/\Q (.int (i / j)) st:=by unfold mL;rw [E8,decide_eq_true_eq]
theorem ym:Wp (iY (.int i) (.int j) st) Q↔0<j/\Q (.int (i % j)) st:=by unfold iY;rw [E8,decide_eq_true_eq]
theorem yo:Wp (sf (.int i) (.int j) st) Q↔(0<=j/\j<=1000000/\i.natAbs<18446744073709551616)/\Q (.int (i ^ j.toNat)) st:=by unfold sf;rw [E8,decide_eq_true_eq]
theorem yp{neg:Bool}:Wp (kU neg (.int i) (.int j) st) Q↔Q (.bl (if neg then !decide (i=j) else decide (i=j))) st:=by
 have e:decide (V.int i=V.int j)=decide (i=j):=by
  by_cases h:i=j
  ·subst h;simp
  ·simp [h]
 show Wp (if pd (V.int i) (V.int j)=true then some (D.bl (if neg then !decide (V.int i=V.int j) else decide (V.int i=V.int j)),st) else none) Q↔_;rw [if_pos (show pd _ _=true from rfl),bh,e]
theorem yq{neg:Bool}{x y:Str}:Wp (kU neg (.str x) (.str y) st) Q↔Q (.bl (if neg then !decide (x=y) else decide (x=y))) st:=by
 have e:decide (V.str x=V.str y)=decide (x=y):=by
  by_cases h:x=y
  ·subst h;simp
  ·simp [h]
 show Wp (if pd (V.str x) (V.str y)=true then some (D.bl (if neg then !decide (V.str x=V.str y) else decide (V.str x=V.str y)),st) else none) Q↔_;rw [if_pos (show pd _ _=true from rfl),bh,e]
theorem yr:Wp (bA (.tup ds) (.int i) st) Q↔∃d,eo ds i=some d/\Q d st:=by
 show Wp (match eo ds i with|some d=>some (d,st)|none=>none) Q↔_;cases eo ds i with
 |none=>rw [fJ];exact ⟨False.elim,fun ⟨_,e,_⟩=>by cases e⟩
 |some d=>rw [bh];exact ⟨fun q=>⟨d,rfl,q⟩,fun ⟨_,e,q⟩=>by cases e;exact q⟩
theorem yt:Wp (bP (.ref k) (.int i) st) Q↔∃ds d,items st k=some ds/\eo ds i=some d/\Q d st:=by
 show Wp (match items st k with|some ds=>(match eo ds i with|some d=>some (d,st)|none=>none)|none=>none) Q↔_;cases items st k with
 |none=>rw [fJ];exact ⟨False.elim,fun ⟨_,_,e,_⟩=>by cases e⟩
 |some ds =>
  show Wp (match eo ds i with|some d=>some (d,st)|none=>none) Q↔_;cases h:eo ds i with
  |none=>rw [fJ];exact ⟨False.elim,fun ⟨_,_,e,e',_⟩=>by cases e;rw [h] at e';cases e'⟩
  |some d=>rw [bh];exact ⟨fun q=>⟨ds,d,rfl,h,q⟩,fun ⟨_,_,e,e',q⟩=>by cases e;rw [h] at e';cases e';exact q⟩
theorem yu{lo hi:Option Int}:Wp (xY (.tup ds) lo hi st) Q↔Q (.tup (cutD ds lo hi)) st:=bh
theorem yw{lo hi:Option Int}:Wp (qB (.ref k) lo hi st) Q↔∃ds,items st k=some ds/\Q (.ref st.length) (st ++ [.lst (cutD ds lo hi)]):=by
 show Wp (match items st k with|some ds=>some (D.ref st.length,st ++ [O.lst (cutD ds lo hi)])|none=>none) Q↔_;cases items st k with
 |none=>rw [fJ];exact ⟨False.elim,fun ⟨_,e,_⟩=>by cases e⟩
 |some ds=>rw [bh];exact ⟨fun q=>⟨ds,rfl,q⟩,fun ⟨_,e,q⟩=>by cases e;exact q⟩
theorem Rm:Wp (kj (.tup ds) (.tup es) st) Q↔lim (ds.length+es.length)=true/\Q (.tup (ds ++ es)) st:=by
 show Wp (if lim (ds.length+es.length)=true then some (D.tup (ds ++ es),st) else none) Q↔_;rw [mQ,bh,fJ];split
 ·next h=>exact ⟨fun q=>⟨h,q⟩,fun q=>q.2⟩
 ·next h=>exact ⟨False.elim,fun q=>h q.1⟩
theorem yx{a b:Nat}:Wp (ml (.ref a) (.ref b) st) Q↔∃xs ys,own st a=some xs/\own st b=some ys/\lim (xs.length+ys.length)=true/\Q (.ref st.length) (st ++ [.lst (xs ++ ys)]):=by
 show Wp (match own st a,own st b with|some xs,some ys=>if lim (xs.length+ys.length)=true then some (D.ref st.length,st ++ [O.lst (xs ++ ys)]) else none|_,_=>none) Q↔_;cases ha:own st a<;>cases hb:own st b
 ·simp only [fJ];exact ⟨False.elim,fun ⟨_,_,e,_⟩=>by cases e⟩
 ·simp only [fJ];exact ⟨False.elim,fun ⟨_,_,e,_⟩=>by cases e⟩
 ·simp only [fJ];exact ⟨False.elim,fun ⟨_,_,_,e,_⟩=>by cases e⟩
 ·next xs ys =>
  show Wp (if lim (xs.length+ys.length)=true then some (D.ref st.length,st ++ [O.lst (xs ++ ys)]) else none) Q↔_;rw [mQ,bh,fJ];split
  ·next h=>exact ⟨fun q=>⟨_,_,rfl,rfl,h,q⟩,fun ⟨_,_,e,e',_,q⟩=>by cases e;cases e';exact q⟩
  ·next h=>exact ⟨False.elim,fun ⟨_,_,e,e',q,_⟩=>by cases e;cases e';exact h q⟩
theorem yy{a:D}:Wp (cM [a] st) Q↔∃ds,cH st a=some ds/\Q (.int ds.length) st:=by
 show Wp (match cH st a with|some ds=>some (D.int ds.length,st)|none=>none) Q↔_;cases cH st a with
 |none=>rw [fJ];exact ⟨False.elim,fun ⟨_,e,_⟩=>by cases e⟩
 |some ds=>rw [bh];exact ⟨fun q=>⟨ds,rfl,q⟩,fun ⟨_,e,q⟩=>by cases e;exact q⟩
theorem Rn{a:D}:Wp (mM [a] st) Q↔∃ds,cH st a=some ds/\Q (.ref st.length) (st ++ [.lst ds]):=by
 show Wp (match cH st a with|some ds=>some (D.ref st.length,st ++ [O.lst ds])|none=>none) Q↔_;cases cH st a with
 |none=>rw [fJ];exact ⟨False.elim,fun ⟨_,e,_⟩=>by cases e⟩
 |some ds=>rw [bh];exact ⟨fun q=>⟨ds,rfl,q⟩,fun ⟨_,e,q⟩=>by cases e;exact q⟩
theorem Ro{a:D}:Wp (bM [a] st) Q↔∃ds,cH st a=some ds/\Q (.tup ds) st:=by
 show Wp (match cH st a with|some ds=>some (D.tup ds,st)|none=>none) Q↔_;cases cH st a with
 |none=>rw [fJ];exact ⟨False.elim,fun ⟨_,e,_⟩=>by cases e⟩
 |some ds=>rw [bh];exact ⟨fun q=>⟨ds,rfl,q⟩,fun ⟨_,e,q⟩=>by cases e;exact q⟩
theorem Rq:Wp (qa [.int i,.int j] st) Q↔Q (.int (if j > i then j else i)) st:=bh
theorem Rr:Wp (qc [.int i,.int j] st) Q↔Q (.int (if j<i then j else i)) st:=bh
theorem Rt:Wp (oG [.int i] st) Q↔Q (.int i) st:=bh
theorem Rv{b:Bool}:Wp (oG [.bl b] st) Q↔Q (.int (if b then 1 else 0)) st:=bh
theorem Rw:Wp (gX [.int j] st) Q↔Q (.ref st.length) (st ++ [.gR 0 j]):=bh
theorem Rx:Wp (eA [.int i,.int j] st) Q↔Q (.ref st.length) (st ++ [.gR i j]):=bh
theorem Ry{y:D}:Wp (aR (.ref k) [y] st) Q↔∃xs,own st k=some xs/\lim xs.length=true/\Q .non (st.set k (.lst (xs ++ [y]))):=by
 show Wp (match own st k with|some xs=>if lim xs.length=true then some (D.non,st.set k (O.lst (xs ++ [y]))) else none|none=>none) Q↔_;cases own st k with
 |none=>rw [fJ];exact ⟨False.elim,fun ⟨_,e,_⟩=>by cases e⟩
 |some xs =>
  show Wp (if lim xs.length=true then some (D.non,st.set k (O.lst (xs ++ [y]))) else none) Q↔_;rw [mQ,bh,fJ];split
  ·next h=>exact ⟨fun q=>⟨_,rfl,h,q⟩,fun ⟨_,e,_,q⟩=>by cases e;exact q⟩
  ·next h=>exact ⟨False.elim,fun ⟨_,e,q,_⟩=>by cases e;exact h q⟩
end
def Ws(m:Option (Fl×Store))(N B C:ai->Store->Prop)(R:D->Store->Prop):Prop:=Wp m fun fl st=>match fl with
 |.nx δ=>N δ st
 |.bk δ=>B δ st
 |.ct δ=>C δ st
 |.rt d=>R d st
section
variable {st:Store}{δ:ai}{N B C:ai->Store->Prop}{R:D->Store->Prop}{f g:ai->Dm Fl}{e:ai->Dm D}
theorem uB{m:Option (Fl×Store)}{N':ai->Store->Prop}(h:Ws m N B C R)(hn:∀δ st,N δ st->N' δ st):Ws m N' B C R:=bB h fun fl st q=>by
 cases fl with
 |nx δ=>exact hn δ st q
 |bk δ=>exact q
 |ct δ=>exact q
 |rt d=>exact q
theorem aX(h:Ws (f δ st) (fun δ1 st1=>Ws (g δ1 st1) N B C R) B C R):Ws (ay f g δ st) N B C R:=by
 unfold Ws ay;rw [cU];refine bB h fun fl st1 q=>?_;cases fl with
 |nx δ1=>exact q
 |bk δ1=>exact bh.mpr q
 |ct δ1=>exact bh.mpr q
 |rt d=>exact bh.mpr q
theorem ko(h:N δ st):Ws (aW δ st) N B C R:=bh.mpr h
theorem tN{t:D->ai->Dm ai}(h:Wp (e δ st) fun d st1=>Wp (t d δ st1) N):Ws (aG e t δ st) N B C R:=by
 unfold Ws aG;rw [cU];refine bB h fun d st1 q=>?_;rw [cU];exact bB q fun δ1 st2 q=>bh.mpr q
theorem b8{i:Nat}(h:Wp (e δ st) fun d st1=>N (δ.set i (some d)) st1):Ws (aG e (hName i) δ st) N B C R:=tN (bB h fun d st1 q=>bh.mpr q)
theorem pE(h:Wp (e δ st) fun _ st1=>N δ st1):Ws (cw e δ st) N B C R:=by
 unfold Ws cw;rw [cU];exact bB h fun d st1 q=>bh.mpr q
theorem gQ(h:Wp (e δ st) R):Ws (bI e δ st) N B C R:=by
 unfold Ws bI;rw [cU];exact bB h fun d st1 q=>bh.mpr q
theorem ju{c:ai->Dm Bool}(h:Wp (c δ st) fun b st1=>(b=true->Ws (f δ st1) N B C R)/\(b=false->Ws (g δ st1) N B C R)):Ws (fK c f g δ st) N B C R:=by
 unfold Ws;rw [vV];refine bB h fun b st1 q=>?_;cases b with
 |true=>rw [if_pos rfl];exact q.1 rfl
 |false=>rw [if_neg VD];exact q.2 rfl
theorem LS{i j:Nat}{fa:ai->Dm (List D)}(h:Wp (fa δ st) fun as st1=>∃a b,as=[a,b]/\N ((δ.set i (some a)).set j (some b)) st1):Ws (su i j fa δ st) N B C R:=by
 unfold Ws su;rw [cU];refine bB h fun as st1 q=>?_;obtain ⟨a,b,rfl,q⟩:=q;exact bh.mpr q
theorem jv{n:Nat}{b:ai->Dm Fl}{ds:List D}(h:Ws (b (ds.map some ++ List.replicate (n-ds.length) none) st) (fun _ st1=>R .non st1) (fun _ _=>False) (fun _ _=>False) R):Wp (iR n b ds st) R:=by
 unfold iR;rw [cU];refine bB h fun fl st1 q=>?_;cases fl with
 |nx δ1=>exact bh.mpr q
 |bk δ1=>exact q.elim
 |ct δ1=>exact q.elim
 |rt d=>exact bh.mpr q
theorem Ab{c:ai->Dm Bool}{b:ai->Dm Fl}(W:Nat->ai->Store->Prop)(m:Nat)(hm:m<fuel)(h0:W m δ st)
  (step:∀m δ st,W m δ st->Wp (c δ st) fun t st1=>(t=true->Ws (b δ st1) (fun δ2 st2=>∃m',m' < m/\W m' δ2 st2) N (fun δ2 st2=>∃m',m' < m/\W m' δ2 st2) R)/\(t=false->N δ st1)):Ws (gZ c b δ st) N B C R:=by
 have key:∀(k m:Nat) (δ:ai) (st:Store),m<k->W m δ st->Ws (cZ c b k δ st) N B C R:=by
  intro k
  induction k with
  |zero=>intro m δ st h;exact absurd h (Wn _)
  |succ k ih =>
   intro m δ st hk hw;unfold Ws cZ;rw [cU];refine bB (step m δ st hw) fun t st1 q=>?_;cases t with
   |false=>rw [if_neg VD];exact bh.mpr (q.2 rfl)
   |true =>
    rw [if_pos rfl,cU];refine bB (q.1 rfl) fun fl st2 q=>?_;cases fl with
    |nx δ2=>obtain ⟨m',hm',w⟩:=q;exact ih m' δ2 st2 (by omega) w
    |ct δ2=>obtain ⟨m',hm',w⟩:=q;exact ih m' δ2 st2 (by omega) w
    |bk δ2=>exact bh.mpr q
    |rt d=>exact bh.mpr q
 exact key fuel m δ st hm h0
theorem n5{fi:ai->Dm Src}{t:D->ai->Dm ai}{b:ai->Dm Fl}(ds:List D)(Pv:Nat->ai->Store->Prop)(hi:Wp (fi δ st) fun S st1=>S=.fix ds/\Pv 0 δ st1)(hl:ds.length<100000)
  (step:∀i d δ st,ds[i]?=some d->Pv i δ st->Wp (t d δ st) fun δ1 st1=>Ws (b δ1 st1) (Pv (i+1)) N (Pv (i+1)) R) (fin:∀δ st,Pv ds.length δ st->N δ st):Ws (dZ fi t b δ st) N B C R:=by
 unfold Ws dZ;rw [cU];refine bB hi fun S kn q=>?_;obtain ⟨rfl,h0⟩:=q;have key:∀(k i:Nat) (δ:ai) (st:Store),i<=ds.length->ds.length-i<k->Pv i δ st->Ws (gg (.fix ds) t b k i δ st) N B C R:=by
  intro k
  induction k with
  |zero=>intro i δ st _ h;exact absurd h (Wn _)
  |succ k ih =>
   intro i δ st hi hk hw;unfold Ws gg;have e:Src.at (.fix ds) i st=some ds[i]?:=by show (if i<=ds.length then some ds[i]? else none)=_;rw [if_pos hi]
   rw [e];cases hd:ds[i]? with
   |none =>
    have:=Wo.mp hd;have e:i=ds.length:=by omega
    exact bh.mpr (fin δ st (e ▸ hw))
   |some d =>
    have hlt:=(VA.mp hd).1;show Wp (bnd _ _) _;rw [cU];refine bB (step i d δ st hd hw) fun δ1 st1 q=>?_;rw [cU];refine bB q fun fl st2 q=>?_;cases fl with
    |nx δ2=>exact ih (i+1) δ2 st2 (by omega) (by omega) q
    |ct δ2=>exact ih (i+1) δ2 st2 (by omega) (by omega) q
    |bk δ2=>exact bh.mpr q
    |rt d=>exact bh.mpr q
 exact key fuel 0 δ kn (Wd _) (Nat.lt_trans (by omega) (show 100000<fuel by decide)) h0
theorem E9{fi:ai->Dm Src}{t:D->ai->Dm ai}{b:ai->Dm Fl}(ds:List D)(r:Nat)(Pv:Nat->ai->Store->Prop)(hi:Wp (fi δ st) fun S st1=>S=.live r/\Pv 0 δ st1)(hl:ds.length<100000)(hk:∀i δ st,Pv i δ st->items st r=some ds)
  (step:∀i d δ st,ds[i]?=some d->Pv i δ st->Wp (t d δ st) fun δ1 st1=>Ws (b δ1 st1) (Pv (i+1)) N (Pv (i+1)) R) (fin:∀δ st,Pv ds.length δ st->N δ st):Ws (dZ fi t b δ st) N B C R:=by
 unfold Ws dZ;rw [cU];refine bB hi fun S kn q=>?_;obtain ⟨rfl,h0⟩:=q;have key:∀(k i:Nat) (δ:ai) (st:Store),i<=ds.length->ds.length-i<k->Pv i δ st->Ws (gg (.live r) t b k i δ st) N B C R:=by
  intro k
  induction k with
  |zero=>intro i δ st _ h;exact absurd h (Wn _)
  |succ k ih =>
   intro i δ st hi hk' hw;unfold Ws gg;have e:Src.at (.live r) i st=some ds[i]?:=by show (items st r).map _=_;rw [hk i δ st hw];rfl
   rw [e];cases hd:ds[i]? with
   |none =>
    have:=Wo.mp hd;have e:i=ds.length:=by omega
    exact bh.mpr (fin δ st (e ▸ hw))
   |some d =>
    have hlt:=(VA.mp hd).1;show Wp (bnd _ _) _;rw [cU];refine bB (step i d δ st hd hw) fun δ1 st1 q=>?_;rw [cU];refine bB q fun fl st2 q=>?_;cases fl with
    |nx δ2=>exact ih (i+1) δ2 st2 (by omega) (by omega) q
    |ct δ2=>exact ih (i+1) δ2 st2 (by omega) (by omega) q
    |bk δ2=>exact bh.mpr q
    |rt d=>exact bh.mpr q
 exact key fuel 0 δ kn (Wd _) (Nat.lt_trans (by omega) (show 100000<fuel by decide)) h0
theorem LU{fi:ai->Dm Src}{n:Nat}{js:List Nat}{t:D->ai->Dm ai}{c:ai->Dm Bool}{f:ai->Dm D}{Q:D->Store->Prop}(ds:List D)(Pv:Nat->List D->ai->Store->Prop)
  (hi:Wp (fi δ st) fun S st1=>(∀i ys δ st,i<=ds.length->Pv i ys δ st->S.at i st=some ds[i]?)/\Pv 0 [] (oH n js δ) st1) (hl:ds.length<100000) (hy:∀i ys δ st,Pv i ys δ st->ys.length<=i)
  (step:∀i d ys δ st,ds[i]?=some d->Pv i ys δ st->Wp (t d δ st) fun δ1 st1=>Wp (c δ1 st1) fun b st2=>(b=true->Wp (f δ1 st2) fun y st3=>Pv (i+1) (ys ++ [y]) δ1 st3)/\(b=false->Pv (i+1) ys δ1 st2))
  (fin:∀ys δ st,Pv ds.length ys δ st->Q (.ref st.length) (st ++ [.lst ys])):Wp (d5 fi n js t c f δ st) Q:=by
 unfold d5;rw [cU];refine bB hi fun S kn q=>?_;obtain ⟨hS,h0⟩:=q;have key:∀(k i:Nat) (ys:List D) (δ:ai) (st:Store),i<=ds.length->ds.length-i<k->Pv i ys δ st->Wp (g7 S t c f k i ys δ st) fun zs pD=>∃δ9,Pv ds.length zs δ9 pD:=by
  intro k
  induction k with
  |zero=>intro i ys δ st _ h;exact absurd h (Wn _)
  |succ k ih =>
   intro i ys δ st hi hk' hw;unfold g7;have hlim:lim ys.length=true:=Nat.ble_eq_true_of_le (by have:=hy i ys δ st hw;omega);rw [if_pos hlim,hS i ys δ st hi hw];cases hd:ds[i]? with
   |none =>
    have:=Wo.mp hd;have e:i=ds.length:=by omega
    exact bh.mpr ⟨δ,e ▸ hw⟩
   |some d =>
    have hlt:=(VA.mp hd).1;show Wp (bnd _ _) _;rw [cU];refine bB (step i d ys δ st hd hw) fun δ1 st1 q=>?_;rw [cU];refine bB q fun b st2 q=>?_;cases b with
    |true =>
     rw [if_pos rfl,cU];exact bB (q.1 rfl) fun y st3 q=>ih (i+1) _ δ1 st3 (by omega) (by omega) q
    |false =>
     rw [if_neg VD];exact ih (i+1) ys δ1 st2 (by omega) (by omega) (q.2 rfl)
 rw [cU];exact bB (key fuel 0 [] _ kn (Wd _) (Nat.lt_trans (by omega) (show 100000<fuel by decide)) h0) fun zs pD ⟨δ9,q⟩=>bh.mpr (fin zs δ9 pD q)
end
def keyOf:D->Option Key
 |.int i=>some (.inl i)
 |.str x=>some (.inr x)
 |_=>none
def i7(st:Store):D->Option (List (Key×D))
 |.ref i=>match st[i]? with
  |some (.dct kvs)=>some kvs
  |_=>none
 |_=>none
def dj(kvs:List (Key×D))(k:Key):Option D:=(kvs.find? fun kv=>decide (kv.1=k)).map (·.2)
def putD(kvs:List (Key×D))(k:Key)(v:D):List (Key×D) :=
 if (kvs.any fun kv=>decide (kv.1=k))=true then kvs.map (fun kv=>if kv.1=k then (kv.1,v) else kv) else kvs ++ [(k,v)]
section
variable {K:Zfr}{ρ:List Addr}{H:Hp}{st:Store}
theorem zJ{x:V}{y:D}{k:Key}(r:Rp K ρ H x y)(h:keyOf y=some k):x=kV k:=by
 cases r<;>first|(cases h;rfl)|cases h
theorem LV{x:V}{a:D}{kvs:List (Key×D)}(l:Rl K ρ H st)(r:Rp K ρ H x a)(h:i7 st a=some kvs):∃p i ws,x=.ref p/\a=.ref i/\ρ[i]?=some p/\st[i]?=some (.dct kvs)/\H p=some (.dK ws)/\Rk K ρ H ws kvs:=by
 cases r<;>first|(cases h;done)|skip
 next hi =>
  simp only [i7] at h;split at h
  ·next kvs' hs =>
   cases h;obtain ⟨ws,e,r⟩:=l.obj _ _ _ hi hs;exact ⟨_,_,ws,rfl,rfl,hi,hs,e,r⟩
  ·cases h
theorem Rk.val{ws:List (Key×V)}{kvs:List (Key×D)}(r:Rk K ρ H ws kvs)(k:Key):(∀d,dj kvs k=some d->∃v,jU ws k=some v/\Rp K ρ H v d)/\(jU ws k).isSome=(dj kvs k).isSome:=by
 induction r with
 |nil=>exact ⟨fun d h=>(by cases h),rfl⟩
 |@cons p q ps qs h t ih =>
  obtain ⟨h1,h2⟩:=h;unfold dj jU at ih ⊢;rw [WA,WA]
  by_cases e:p.1=k
  ·rw [decide_eq_true e,decide_eq_true (h1 ▸ e)]
   exact ⟨fun d hd=>by cases hd;exact ⟨_,rfl,h2⟩,rfl⟩
  ·rw [decide_eq_false e,decide_eq_false (h1 ▸ e)]
   exact ih
theorem Rk.app{ws Ac:List (Key×V)}{kvs kvs':List (Key×D)}(r:Rk K ρ H ws kvs)(r':Rk K ρ H Ac kvs'):Rk K ρ H (ws ++ Ac) (kvs ++ kvs'):=by
 induction r with
 |nil=>exact r'
 |cons h _ ih=>exact .cons h ih
theorem Rk.put{ws:List (Key×V)}{kvs:List (Key×D)}{v:V}{d:D}(r:Rk K ρ H ws kvs)(k:Key)(rv:Rp K ρ H v d):Rk K ρ H (putK ws k v) (putD kvs k d):=by
 have hany:(ws.any fun kv=>decide (kv.1=k))=(kvs.any fun kv=>decide (kv.1=k)):=by
  induction r with
  |nil=>rfl
  |cons h _ ih=>rw [Wy,Wy,ih,h.1]
 have hmap:Rk K ρ H (ws.map fun kv=>if kv.1=k then (kv.1,v) else kv) (kvs.map fun kv=>if kv.1=k then (kv.1,d) else kv):=by
  clear hany
  induction r with
  |nil=>exact .nil
  |@cons p q ps qs h _ ih =>
   refine .cons ?_ ih;dsimp only
   by_cases e:p.1=k
   ·rw [if_pos e,if_pos (h.1 ▸ e)];exact ⟨h.1,rv⟩
   ·rw [if_neg e,if_neg (h.1 ▸ e)];exact h
 unfold putK putD;rw [hany];split
 ·exact hmap
 ·exact r.app (.cons ⟨rfl,rv⟩ .nil)
theorem Rk.length{ws:List (Key×V)}{kvs:List (Key×D)}(r:Rk K ρ H ws kvs):ws.length=kvs.length:=by
 induction r with
 |nil=>rfl
 |cons _ _ ih=>rw [V6,V6,ih]
end
section
variable {K:Zfr}
def sA:ai->Dm D:=fun _ st=>some (.ref st.length,st ++ [.dct []])
theorem Rz:dk K rF sA:=by
 intro ρ σ H δ st b st' Q l rs e q;cases e;exact fun p hp=>q _ _ _ (Mn.new hp) (l.newD hp .nil) (.ref (newR l))
def vW(fd fy:ai->Dm D):ai->Dm D:=fun δ st=>bnd (fd δ st) fun x st1=>bnd (fy δ st1) fun y st2=>match i7 st2 x,keyOf y with
 |some kvs,some k=>match dj kvs k with
  |some v=>some (v,st2)
  |none=>none
 |_,_=>none
def uC(neg:Bool)(fy fd:ai->Dm D):ai->Dm D:=fun δ st=>bnd (fy δ st) fun y st1=>bnd (fd δ st1) fun x st2=>match i7 st2 x,keyOf y with
 |some kvs,some k=>some (.bl (if neg then !(dj kvs k).isSome else (dj kvs k).isSome),st2)
 |_,_=>none
theorem RA{td ty:TE}{fd fy:ai->Dm D}(hy:dk K ty fy)(hd:dk K td fd):dk K (pQ ty td) (uC true fy fd):=by
 intro ρ σ H δ st b st' Q l rs e q;obtain ⟨y,st1,e1,e⟩:=cn e;obtain ⟨x,st2,e2,e⟩:=cn e;refine hy ρ σ H δ st y st1 _ l rs e1 fun vy H1 ρ1 m1 l1 r1=>hd ρ1 σ H1 δ st1 x st2 _ l1 (rs.mn m1) e2 fun vx H2 ρ2 m2 l2 r2=>?_;split at e
 ·next kvs k hx hk =>
  cases e;obtain ⟨p,i,ws,rfl,rfl,hi,hs,hp,rk⟩:=LV l2 r2 hx;refine ⟨p,jU ws k,rfl,by rw [zJ r1 hk];exact rD.k hp,q _ H2 ρ2 (m1.trans m2) l2 ?_⟩;rw [(rk.val k).2];exact .bl _
 ·cases e
def qe(fd fy fv:ai->Dm D):ai->Dm Fl:=fun δ st=>bnd (fv δ st) fun v st1=>bnd (fd δ st1) fun x st2=>bnd (fy δ st2) fun y st3=>match x,i7 st3 x,keyOf y with
 |.ref i,some kvs,some k=>if lim kvs.length=true then some (.nx δ,st3.set i (.dct (putD kvs k v))) else none
 |_,_,_=>none
theorem RB{td ty tv:TE}{fd fy fv:ai->Dm D}(hd:dk K td fd)(hy:dk K ty fy)(hv:dk K tv fv):mP K (vq td ty tv) (qe fd fy fv):=by
 intro ρ σ H δ st fl st' E l rs e q;obtain ⟨v,st1,e1,e⟩:=cn e;obtain ⟨x,st2,e2,e⟩:=cn e;obtain ⟨y,st3,e3,e⟩:=cn e;refine hv ρ σ H δ st v st1 _ l rs e1 fun vv H1 ρ1 m1 l1 r1=>hd ρ1 σ H1 δ st1 x st2 _ l1 (rs.mn m1) e2 fun vx H2 ρ2 m2 l2 r2=>hy ρ2 σ H2 δ st2 y st3 _ l2 (rs.mn (m1.trans m2)) e3 fun vy H3 ρ3 m3 l3 r3=>?_;obtain ⟨i,rfl⟩:∃i,x=.ref i:=by
  cases x<;>first|exact ⟨_,rfl⟩|(simp at e;done)|cases e
 cases hx:i7 st3 (.ref i) with
 |none=>rw [hx] at e;cases e
 |some kvs =>
 cases hk:keyOf y with
 |none=>rw [hx,hk] at e;cases e
 |some k =>
  rw [hx,hk] at e;simp only at e;split at e
  ·next hl =>
   cases e;obtain ⟨p,j,ws,rfl,ej,hi,hs,hp,rk⟩:=LV l3 (r2.mn m3) hx;cases ej;obtain ⟨l4,m4⟩:=l3.xN hi hs (rk.put k (r1.mn (m2.trans m3)));have mm:=((m1.trans m2).trans m3).trans m4;refine ⟨p,_,rfl,?_,q σ _ ρ3 mm l4 (rs.mn mm)⟩;rw [zJ r3 hk];exact rE.k hp (by rw [rk.length];exact HY hl)
  ·cases e
def CC:ai->Dm (List (D×D)):=fun _ st=>some ([],st)
def sC(fk fv:ai->Dm D)(fr:ai->Dm (List (D×D))):ai->Dm (List (D×D)):=fun δ st=>bnd (fk δ st) fun k st1=>bnd (fv δ st1) fun v st2=>bnd (fr δ st2) fun r st3=>some ((k,v) :: r,st3)
def keysOf:List (D×D)->Option (List (Key×D))
 |[]=>some []
 |(k,v) :: r=>match keyOf k,keysOf r with
  |some k',some r'=>some ((k',v) :: r')
  |_,_=>none
def sD(kvs more:List (Key×D)):List (Key×D):=more.foldl (fun acc kv=>putD acc kv.1 kv.2) kvs
def vX(fp:ai->Dm (List (D×D))):ai->Dm D:=fun δ st=>bnd (fp δ (st ++ [.dct []])) fun ps st2=>match st2[st.length]?,keysOf ps with
 |some (.dct []),some kvs=>if kvs.length<=15 then some (.ref st.length,st2.set st.length (.dct (sD [] kvs))) else none
 |_,_=>none
end
section
variable {st:Store}{δ:ai}{Q:D->Store->Prop}
theorem RC:Wp (sA δ st) Q↔Q (.ref st.length) (st ++ [.dct []]):=bh
theorem RD{fd fy:ai->Dm D}:Wp (vW fd fy δ st) Q↔Wp (fd δ st) fun x st1=>Wp (fy δ st1) fun y st2=>∃kvs k v,i7 st2 x=some kvs/\keyOf y=some k/\dj kvs k=some v/\Q v st2:=by
 unfold vW;rw [cU];simp only [cU];constructor<;>refine fun h=>bB h fun x s h=>bB h fun y s2 h=>?_
 ·split at h
  ·next kvs k h1 h2 =>
   split at h
   ·next v h3=>exact ⟨kvs,k,v,by assumption,by assumption,h3,bh.mp h⟩
   ·exact (fJ.mp h).elim
  ·exact (fJ.mp h).elim
 ·obtain ⟨kvs,k,v,h1,h2,h3,h⟩:=h
  rw [h1,h2];simp only [h3];exact bh.mpr h
theorem yz{neg:Bool}{fd fy:ai->Dm D}:Wp (uC neg fy fd δ st) Q↔Wp (fy δ st) fun y st1=>Wp (fd δ st1) fun x st2=>∃kvs k,i7 st2 x=some kvs/\keyOf y=some k/\Q (.bl (if neg then !(dj kvs k).isSome else (dj kvs k).isSome)) st2:=by
 unfold uC;rw [cU];simp only [cU];constructor<;>refine fun h=>bB h fun x s h=>bB h fun y s2 h=>?_
 ·split at h
  ·next kvs k h1 h2=>exact ⟨kvs,k,by assumption,by assumption,bh.mp h⟩
  ·exact (fJ.mp h).elim
 ·obtain ⟨kvs,k,h1,h2,h⟩:=h
  rw [h1,h2];exact bh.mpr h
theorem RE{R:List (D×D)->Store->Prop}:Wp (CC δ st) R↔R [] st:=bh
theorem RF{fk fv:ai->Dm D}{fr:ai->Dm (List (D×D))}{R:List (D×D)->Store->Prop}:Wp (sC fk fv fr δ st) R↔Wp (fk δ st) fun k st1=>Wp (fv δ st1) fun v st2=>Wp (fr δ st2) fun r st3=>R ((k,v) :: r) st3:=by
 unfold sC;rw [cU];simp only [cU,bh]
theorem RG{fp:ai->Dm (List (D×D))}:Wp (vX fp δ st) Q↔Wp (fp δ (st ++ [.dct []])) fun ps st2=>st2[st.length]?=some (.dct [])/\∃kvs,keysOf ps=some kvs/\kvs.length<=15/\Q (.ref st.length) (st2.set st.length (.dct (sD [] kvs))):=by
 unfold vX;rw [cU];constructor<;>refine fun h=>bB h fun ps s h=>?_
 ·split at h
  ·next kvs h1 h2 =>
   rw [mQ,bh,fJ] at h;split at h
   ·next hl=>exact ⟨by assumption,kvs,by assumption,hl,h⟩
   ·exact h.elim
  ·exact (fJ.mp h).elim
 ·obtain ⟨h1,kvs,h2,h3,h⟩:=h
  rw [h1,h2];simp only [if_pos h3];exact bh.mpr h
theorem RH{fd fy fv:ai->Dm D}{N B C:ai->Store->Prop}{R:D->Store->Prop}(h:Wp (fv δ st) fun v st1=>Wp (fd δ st1) fun x st2=>Wp (fy δ st2) fun y st3=>∃i kvs k,x=.ref i/\i7 st3 x=some kvs/\keyOf y=some k/\lim kvs.length=true/\N δ (st3.set i (.dct (putD kvs k v)))):Ws (qe fd fy fv δ st) N B C R:=by
 unfold Ws qe;rw [cU];refine bB h fun v st1 h=>?_;rw [cU];refine bB h fun x st2 h=>?_;rw [cU];refine bB h fun y st3 h=>?_;obtain ⟨i,kvs,k,rfl,h1,h2,h3,h⟩:=h;rw [h1,h2];simp only [h3];exact bh.mpr h
end
structure Ex(c:List Nat)(st st':Store):Prop where
 len:st.length<=st'.length
 keep:∀(i:Nat) (o:O),st[i]?=some o->i ∉ c->st'[i]?=some o
section
variable {c c':List Nat}{st st1 st2:Store}{i:Nat}{o:O}{ds:List D}
theorem Ex.refl:Ex c st st:=⟨VC _,fun _ _ h _=>h⟩
theorem Ex.trans(a:Ex c st st1)(b:Ex c st1 st2):Ex c st st2:=⟨V3 a.len b.len,fun i o h n=>b.keep i o (a.keep i o h n) n⟩
theorem Ex.mono(a:Ex c st st1)(h:∀x∈c,x∈c'):Ex c' st st1:=⟨a.len,fun i o e n=>a.keep i o e fun z=>n (h i z)⟩
theorem Ex.any(a:Ex [] st st1):Ex c st st1:=a.mono fun x h=>nomatch h
theorem eB{α:Type}{l:List α}{i:Nat}{o:α}(h:l[i]?=some o):i<l.length:=(VA.mp h).1
theorem jF{l m:List O}(h:l[i]?=some o):(l ++ m)[i]?=some o:=by rw [VM (eB h)];exact h
theorem g8{l:List O}:(l ++ [o])[l.length]?=some o:=by rw [VX (VC _),WJ];rfl
theorem Ex.app(a:Ex c st st1)(m:List O):Ex c st (st1 ++ m):=⟨by rw [VE];exact V3 a.len (Nat.le_add_right _ _),fun i o h n=>jF (a.keep i o h n)⟩
theorem Ex.cV(m:List O):Ex c st (st ++ m):=Ex.refl.app m
theorem Ex.put(a:Ex c st st1)(h:i∈c):Ex c st (st1.set i o):=⟨by rw [Wc];exact a.len,fun j u e n=>by rw [VF (fun z=>n (by rw [<- z];exact h))];exact a.keep j u e n⟩
theorem Ex.loc(a:Ex c st st1)(h:st.length<=i):Ex c st (st1.set i o):=⟨by rw [Wc];exact a.len,fun j u e n=>by rw [VF (by have:=eB e;omega)];exact a.keep j u e n⟩
theorem bC(h:st[i]?=some (.lst ds)):items st i=some ds:=by unfold items;rw [h]
theorem LW(h:st[i]?=some (.oB ds)):items st i=some ds:=by unfold items;rw [h]
theorem kq(h:st[i]?=some (.lst ds)):own st i=some ds:=by unfold own;rw [h]
theorem vY:items (st ++ [.lst ds]) st.length=some ds:=bC g8
theorem RI:own (st ++ [.lst ds]) st.length=some ds:=kq g8
theorem RJ{o':O}:items (st ++ [.lst ds] ++ [o']) st.length=some ds:=bC (jF g8)
theorem RK{o':O}:own (st ++ [.lst ds] ++ [o']) st.length=some ds:=kq (jF g8)
theorem RL{o' o2:O}:items (st ++ [.lst ds] ++ [o'] ++ [o2]) st.length=some ds:=bC (jF (jF g8))
theorem RM{o' o2:O}:own (st ++ [.lst ds] ++ [o'] ++ [o2]) st.length=some ds:=kq (jF (jF g8))
theorem RN{lo hi:Int}:iM (st ++ [.gR lo hi]) (.ref st.length)=some (lo,hi):=by simp only [iM,g8]
theorem RO:cH st (.tup ds)=some ds:=rfl
theorem RP:cH st (.ref i)=items st i:=rfl
theorem mS(h:(items st i).isSome=true):tL "list" st (.ref i)=true:=by simp only [tL,h];rfl
theorem LX:tL "tuple" st (.tup ds)=true:=by simp only [tL];rfl
theorem jO{n:Nat}(h:n<=100000):lim n=true:=Nat.ble_eq_true_of_le h
end
section
variable {st:Store}{Q:D->Store->Prop}{i j:Int}{k:Nat}{ds es:List D}
theorem RQ{a:D}:Wp (dn [a] st) Q↔∃p,iM st a=some p/\qC p.1 p.2=true/\Q (.ref st.length) (st ++ [.lst (aB p.1 (p.2-p.1).toNat)]):=by
 show Wp (match iM st a with|some (lo,hi)=>if qC lo hi=true then some (D.ref st.length,st ++ [O.lst (aB lo (hi-lo).toNat)]) else none|none=>none) Q↔_;cases iM st a with
 |none=>rw [fJ];exact ⟨False.elim,fun ⟨_,e,_⟩=>by cases e⟩
 |some p =>
  obtain ⟨lo,hi⟩:=p;show Wp (if qC lo hi=true then some (D.ref st.length,st ++ [O.lst (aB lo (hi-lo).toNat)]) else none) Q↔_;rw [mQ,bh,fJ];split
  ·next h=>exact ⟨fun q=>⟨_,rfl,h,q⟩,fun ⟨_,e,_,q⟩=>by cases e;exact q⟩
  ·next h=>exact ⟨False.elim,fun ⟨_,e,q,_⟩=>by cases e;exact h q⟩
theorem RS{a:D}:Wp (uz [a] st) Q↔∃p,iM st a=some p/\qC p.1 p.2=true/\Q (.tup (aB p.1 (p.2-p.1).toNat)) st:=by
 show Wp (match iM st a with|some (lo,hi)=>if qC lo hi=true then some (D.tup (aB lo (hi-lo).toNat),st) else none|none=>none) Q↔_;cases iM st a with
 |none=>rw [fJ];exact ⟨False.elim,fun ⟨_,e,_⟩=>by cases e⟩
 |some p =>
  obtain ⟨lo,hi⟩:=p;show Wp (if qC lo hi=true then some (D.tup (aB lo (hi-lo).toNat),st) else none) Q↔_;rw [mQ,bh,fJ];split
  ·next h=>exact ⟨fun q=>⟨_,rfl,h,q⟩,fun ⟨_,e,_,q⟩=>by cases e;exact q⟩
  ·next h=>exact ⟨False.elim,fun ⟨_,e,q,_⟩=>by cases e;exact h q⟩
theorem yA:Wp (sj (.ref k) (.int j) st) Q↔∃xs,own st k=some xs/\(-9223372036854775808<=j/\j<9223372036854775808)/\lim (xs.length*j.toNat)=true/\Q (.ref st.length) (st ++ [.lst (List.replicate j.toNat xs).flatten]):=by
 show Wp (match own st k with|some a=>if (decide (-9223372036854775808<=j/\j<9223372036854775808) && lim (a.length*j.toNat))=true then some (D.ref st.length,st ++ [O.lst (List.replicate j.toNat a).flatten]) else none|_=>none) Q↔_;cases own st k with
 |none=>simp only [fJ];exact ⟨False.elim,fun ⟨_,e,_⟩=>by cases e⟩
 |some xs =>
  show Wp (if (decide (-9223372036854775808<=j/\j<9223372036854775808) && lim (xs.length*j.toNat))=true then some (D.ref st.length,st ++ [O.lst (List.replicate j.toNat xs).flatten]) else none) Q↔_;rw [mQ,bh,fJ];split
  ·next h=>rw [VS,decide_eq_true_eq] at h;exact ⟨fun q=>⟨_,rfl,h.1,h.2,q⟩,fun ⟨_,e,_,_,q⟩=>by cases e;exact q⟩
  ·next h=>rw [VS,decide_eq_true_eq] at h;exact ⟨False.elim,fun ⟨_,e,q,q',_⟩=>by cases e;exact h ⟨q,q'⟩⟩
theorem RT:Wp (kH (.ref k) [.int i] st) Q↔∃xs j y,own st k=some xs/\(-9223372036854775808<=i/\i<9223372036854775808)/\seqIndex? i xs.length=some j/\xs[j]?=some y/\Q y (st.set k (.lst (xs.eraseIdx j))):=by
 constructor
 ·rintro ⟨a,s,e,q⟩
  simp only [kH] at e;split at e
  ·next xs hx =>
   split at e
   ·next hk =>
    split at e
    ·next j hj =>
     split at e
     ·next y hy=>cases e;exact ⟨xs,j,_,hx,of_decide_eq_true hk,hj,hy,q⟩
     ·cases e
    ·cases e
   ·cases e
  ·cases e
 ·rintro ⟨xs,j,y,hx,hk,hj,hy,q⟩
  refine ⟨_,_,?_,q⟩;simp only [kH,hx,hj,hy,decide_eq_true hk];rfl
theorem RU{b:Nat}:Wp (ny (.ref k) [.ref b] st) Q↔∃xs ys,own st k=some xs/\own st b=some ys/\lim (xs.length+ys.length)=true/\Q .non (st.set k (.lst (xs ++ ys))):=by
 constructor
 ·rintro ⟨a,s,e,q⟩
  simp only [ny] at e;split at e
  ·next xs ys hx hy =>
   split at e
   ·next hl=>cases e;exact ⟨xs,ys,hx,hy,hl,q⟩
   ·cases e
  ·cases e
 ·rintro ⟨xs,ys,hx,hy,hl,q⟩
  refine ⟨_,_,?_,q⟩;simp only [ny,hx,hy,hl];rfl
theorem LY{v:Int}:Wp (i5 (.tup ds) [.int v] st) Q↔∃ns j,bZ iV ds=some ns/\ns.findIdx? (fun i=>decide (i=v))=some j/\Q (.int (j:Int)) st:=by
 constructor
 ·rintro ⟨a,s,e,q⟩
  simp only [i5] at e;split at e
  ·next ns hn =>
   split at e
   ·next j hj=>cases e;exact ⟨ns,j,hn,hj,q⟩
   ·cases e
  ·cases e
 ·rintro ⟨ns,j,hn,hj,q⟩
  refine ⟨_,_,?_,q⟩;simp only [i5,hn,hj]
theorem RV{v:Int}{ns:List Int}(h:items st k=some (ns.map D.int))(hv:v∈ns)(hl:ns.length<=1000)(hb:∀i∈ns,-1000000000000000000<=i/\i<=1000000000000000000):Wp (jt (.ref k) [.int v] st) Q↔Q (.int (ns.idxOf v:Int)) st:=by
 have e:bZ iV (ns.map D.int)=some ns:=by
  have:=xV (f:=iV) (g:=D.int) (k:=id) (fun _=>rfl) ns;rw [this,Xe]
 have e2:jt (.ref k) [.int v] st=some (.int (ns.idxOf v:Int),st):=by
  simp only [jt,h,Wv,e];rw [if_pos ⟨hv,hl,hb⟩]
 rw [e2,bh]
theorem yB:Wp (x6 [.ref k] st) Q↔∃ds bs,items st k=some ds/\bZ bV ds=some bs/\Q (.bl (bs.all id)) st:=by
 constructor
 ·rintro ⟨a,s,e,q⟩
  simp only [x6] at e;split at e
  ·next bs hb =>
   cases e;obtain ⟨ds,h1,h2⟩:=Wt.mp hb;exact ⟨ds,bs,h1,h2,q⟩
  ·cases e
 ·rintro ⟨ds,bs,h1,h2,q⟩
  refine ⟨_,_,?_,q⟩;simp only [x6,h1,Wv,h2]
theorem CD{neg:Bool}{a c:D}:Wp (qR neg a c st) Q↔∃x ds vs,sV a=some x/\cH st c=some ds/\bZ sV ds=some vs/\Q (.bl (if neg then !vk x vs else vk x vs)) st:=by
 constructor
 ·rintro ⟨b,s,e,q⟩
  simp only [qR] at e;split at e
  ·next x vs h1 h2 =>
   cases e;obtain ⟨ds,h3,h4⟩:=Wt.mp h2;exact ⟨x,ds,vs,h1,h3,h4,q⟩
  ·cases e
 ·rintro ⟨x,ds,vs,h1,h2,h3,q⟩
  refine ⟨_,_,?_,q⟩;simp only [qR,h1,h2,Wv,h3]
theorem LZ(ns:List Int):bZ sV (ns.map D.int)=some (ns.map V.int):=xV (f:=sV) (g:=D.int) (k:=V.int) (fun _=>rfl) ns
theorem L0(ns:List Int):bZ iV (ns.map D.int)=some ns:=by
 have:=xV (f:=iV) (g:=D.int) (k:=id) (fun _=>rfl) ns;rw [this,Xe]
theorem Ip{neg:Bool}{a b:D}:Wp (kW neg a b st) Q↔∃p q,fH st 20 a=some p/\fH st 20 b=some q/\(PyData.canLay0 p=true/\PyData.canLay0 q=true/\min p.depth q.depth<=60)/\Q (.bl (if neg then !PyData.eqv p q else PyData.eqv p q)) st:=by
 constructor
 ·rintro ⟨c,s,e,q⟩
  simp only [kW] at e;split at e
  ·next x y h1 h2 =>
   split at e
   ·next hs =>
    cases e;rw [VS,VS,decide_eq_true_eq] at hs;exact ⟨x,y,h1,h2,⟨hs.1.1,hs.1.2,hs.2⟩,q⟩
   ·cases e
  ·cases e
 ·rintro ⟨x,y,h1,h2,⟨h3,h4,h5⟩,q⟩
  refine ⟨_,_,?_,q⟩;simp only [kW,h1,h2,h3,h4,decide_eq_true h5];rfl
theorem RW{a:D}:Wp (jM [a] st) Q↔∃p,fH st 20 a=some p/\(p.showable=true/\p.canLay0=true/\p.shown.length<=sizeLine/\p.depth<=60)/\Q (.str p.shown) st:=by
 constructor
 ·rintro ⟨c,s,e,q⟩
  simp only [jM] at e;split at e
  ·next p h1 =>
   split at e
   ·next hs =>
    cases e;rw [VS,VS,VS,decide_eq_true_eq,decide_eq_true_eq] at hs;exact ⟨p,h1,⟨hs.1.1.1,hs.1.1.2,hs.1.2,hs.2⟩,q⟩
   ·cases e
  ·cases e
 ·rintro ⟨p,h1,⟨h3,h4,h5,h6⟩,q⟩
  refine ⟨_,_,?_,q⟩;simp only [jM,h1,h3,h4,decide_eq_true h5,decide_eq_true h6];rfl
theorem yC{z:Str}:Wp (xX (.str z) (.int i) st) Q↔∃c,lim z.length=true/\eo z.cps.toList i=some c/\Q (.str ⟨#[c]⟩) st:=by
 constructor
 ·rintro ⟨c,s,e,q⟩
  simp only [xX] at e;split at e
  ·next h1 =>
   split at e
   ·next c hc=>cases e;exact ⟨c,h1,hc,q⟩
   ·cases e
  ·cases e
 ·rintro ⟨c,h1,h2,q⟩
  refine ⟨_,_,?_,q⟩;simp only [xX,h1,h2];rfl
theorem RX{δ:ai}{fa:ai->Dm (List D)}{R:Src->Store->Prop}:Wp (cq fa δ st) R↔Wp (fa δ st) fun as st1=>∃j,as=[.int j]/\(-4611686018427387904<=j/\j<4611686018427387904)/\R (.fix (aB 0 j.toNat)) st1:=by
 unfold cq;rw [cU];constructor<;>refine fun h=>bB h fun as s h=>?_
 ·split at h
  ·next j =>
   rw [mQ,bh,fJ] at h;split at h
   ·next hk=>exact ⟨j,rfl,of_decide_eq_true hk,h⟩
   ·exact h.elim
  ·exact (fJ.mp h).elim
 ·obtain ⟨j,rfl,h1,h⟩:=h
  simp only [decide_eq_true h1,if_true];exact bh.mpr h
theorem RY{δ:ai}{fa:ai->Dm (List D)}{R:Src->Store->Prop}:Wp (nA fa δ st) R↔Wp (fa δ st) fun as st1=>∃i j,as=[.int i,.int j]/\((-4611686018427387904<=i/\i<4611686018427387904)/\-4611686018427387904<=j/\j<4611686018427387904)/\R (.fix (aB i (j-i).toNat)) st1:=by
 unfold nA;rw [cU];constructor<;>refine fun h=>bB h fun as s h=>?_
 ·split at h
  ·next i j =>
   rw [mQ,bh,fJ] at h;split at h
   ·next hk=>exact ⟨i,j,rfl,of_decide_eq_true hk,h⟩
   ·exact h.elim
  ·exact (fJ.mp h).elim
 ·obtain ⟨i,j,rfl,h1,h⟩:=h
  simp only [decide_eq_true h1,if_true];exact bh.mpr h
theorem RZ{δ:ai}{fa:ai->Dm D}{R:Src->Store->Prop}:Wp (fL fa δ st) R↔Wp (fa δ st) fun a st1=>∃ds,a=.tup ds/\R (.fix ds) st1:=by
 unfold fL;rw [cU];constructor<;>refine fun h=>bB h fun a s h=>?_
 ·cases a<;>simp only [bh,fJ] at h
  exact ⟨_,rfl,h⟩
 ·obtain ⟨j,rfl,h⟩:=h
  exact bh.mpr h
theorem R0{δ:ai}{fa:ai->Dm D}{R:Src->Store->Prop}:Wp (i6 fa δ st) R↔Wp (fa δ st) fun a st1=>∃i ds,a=.ref i/\items st1 i=some ds/\R (.live i) st1:=by
 unfold i6;rw [cU];constructor<;>refine fun h=>bB h fun a s h=>?_
 ·split at h
  ·split at h
   ·next i ds hd=>exact ⟨_,ds,rfl,hd,bh.mp h⟩
   ·exact (fJ.mp h).elim
  ·exact (fJ.mp h).elim
 ·obtain ⟨i,ds,rfl,hd,h⟩:=h
  simp only [hd];exact bh.mpr h
theorem R1{δ:ai}{fa:ai->Dm (List D)}{R:Src->Store->Prop}:Wp (lR fa δ st) R↔Wp (fa δ st) fun as st1=>∃ds,as=[.tup ds]/\R (.fix (kP ds)) st1:=by
 unfold lR;rw [cU];constructor<;>refine fun h=>bB h fun as s h=>?_
 ·split at h
  ·exact ⟨_,rfl,bh.mp h⟩
  ·exact (fJ.mp h).elim
 ·obtain ⟨ds,rfl,h⟩:=h
  exact bh.mpr h
theorem L3{i:Nat}{d:D}{δ:ai}{R:ai->Store->Prop}:Wp (hName i d δ st) R↔R (δ.set i (some d)) st:=bh
theorem R3{δ:ai}{R:ai->Store->Prop}:Wp (mr [] δ st) R↔R δ st:=bh
theorem R4{f:D->ai->Dm ai}{g:List D->ai->Dm ai}{d:D}{ds:List D}{δ:ai}{R:ai->Store->Prop}:Wp (cJ f g (d :: ds) δ st) R↔Wp (f d δ st) fun δ1 st1=>Wp (g ds δ1 st1) R:=cU
theorem R5{n:Nat}{f:List D->ai->Dm ai}{ds:List D}{δ:ai}{R:ai->Store->Prop}:Wp (lQ n f (.tup ds) δ st) R↔ds.length=n/\Wp (f ds δ st) R:=by
 show Wp (if ds.length=n then f ds δ st else none) R↔_;rw [mQ,fJ];split
 ·next h=>exact ⟨fun q=>⟨h,q⟩,fun q=>q.2⟩
 ·next h=>exact ⟨False.elim,fun q=>h q.1⟩
theorem R6{fo fi:ai->Dm D}{d:D}{δ:ai}{R:ai->Store->Prop}:Wp (hSub fo fi d δ st) R↔Wp (fo δ st) fun o st1=>Wp (fi δ st1) fun i st2=>∃r k xs j,o=.ref r/\i=.int k/\own st2 r=some xs/\kZ xs.length k=some j/\R δ (st2.set r (.lst (xs.set j d))):=by
 unfold hSub;rw [cU];simp only [cU];constructor<;>refine fun h=>bB h fun o s h=>bB h fun i s2 h=>?_
 ·split at h
  ·split at h
   ·next xs hx =>
    split at h
    ·next j hj=>exact ⟨_,_,xs,j,rfl,rfl,hx,hj,bh.mp h⟩
    ·exact (fJ.mp h).elim
   ·exact (fJ.mp h).elim
  ·exact (fJ.mp h).elim
 ·obtain ⟨r,k,xs,j,rfl,rfl,hx,hj,h⟩:=h
  simp only [hx,hj];exact bh.mpr h
theorem R7{a:D}{c:String}:Wp (nz [a,.ty c] st) Q↔Ck st a=some c/\Q (.bl true) st:=by
 constructor
 ·rintro ⟨b,s,e,q⟩
  simp only [nz] at e;split at e
  ·next T hT =>
   split at e
   ·next h=>cases e;subst h;exact ⟨hT,q⟩
   ·cases e
  ·cases e
 ·rintro ⟨h,q⟩
  refine ⟨_,_,?_,q⟩;simp only [nz,h,if_true]
theorem L5{δ:ai}{R:Bool->Store->Prop}:Wp (fM δ st) R↔R true st:=bh
end
theorem R8{α:Type}(x:α)(xs:List α):eo (x :: xs) 0=some x:=by
 unfold eo kZ;rw [if_pos (by decide),if_pos (by simp only [V6];omega)];rfl
theorem R9{α:Type}(x y:α)(xs:List α):eo (x :: y :: xs) 1=some y:=by
 unfold eo kZ;rw [if_pos (by decide),if_pos (by simp only [V6];omega)];rfl
theorem yD{α:Type}{a:α}{l:List α}:(a :: l)[0]?=some a:=List.getElem?_cons_zero
theorem yE{α:Type}{a:α}{l:List α}{i:Nat}:(a :: l)[i+1]?=l[i]?:=List.getElem?_cons_succ
theorem yF{α:Type}{a b:α}{l:List α}:(a :: l).set 0 b=b :: l:=List.set_cons_zero
theorem yG{α:Type}{a b:α}{l:List α}{i:Nat}:(a :: l).set (i+1) b=a :: l.set i b:=List.set_cons_succ
theorem yH{α:Type}(a b:α):(some a=some b)=(a=b):=Option.some.injEq a b
theorem CF{α:Type}{p:α->Prop}{a':α}:(∃a,a'=a/\p a)↔p a':=exists_eq_left'
theorem Iq{α:Type}{p:α->Prop}{a':α}:(∃a,a=a'/\p a)↔p a':=exists_eq_left
theorem CG{α:Type}{p:α->Prop}{b:Prop}:(∃x,b/\p x)↔b/\∃x,p x:=exists_and_left
theorem CH(a b:Int):(D.int a=D.int b)=(a=b):=D.int.injEq a b
theorem Ir(a b:Bool):(D.bl a=D.bl b)=(a=b):=D.bl.injEq a b
theorem CI(a b:Str):(D.str a=D.str b)=(a=b):=D.str.injEq a b
theorem CJ(a b:List D):(D.tup a=D.tup b)=(a=b):=D.tup.injEq a b
theorem CK(a b:Nat):(D.ref a=D.ref b)=(a=b):=D.ref.injEq a b
theorem yI{α:Type}(a:α)(l:List α)(b:α)(m:List α):(a :: l=b :: m)=(a=b/\l=m):=List.cons.injEq a l b m
theorem yJ{α β:Type}(a:α)(b:β)(c:α)(d:β):((a,b)=(c,d))=(a=c/\b=d):=Prod.mk.injEq a b c d
theorem yK(p:Prop):(p/\True)=p:=and_true p
theorem yL(p:Prop):(True/\p)=p:=true_and p
theorem yM:(!true)=false:=rfl
theorem yN:(!false)=true:=rfl
theorem Iu:(false=true)=False:=by simp
theorem CL{α:Type}{h:Decidable False}(t e:α):@ite α False h t e=e:=if_false t e
theorem CM{α:Type}{h:Decidable True}(t e:α):@ite α True h t e=t:=if_true t e
def bJ:=And.intro @yc (And.intro @Io (And.intro @Cr (And.intro @Cs (And.intro @Ct (And.intro @yd (And.intro @Rb (And.intro @ye (And.intro @yf (And.intro @Rc (And.intro @yg (And.intro @yh (And.intro @Cu (And.intro @vV (And.intro @Rf (And.intro @LR (And.intro @Rg (And.intro @Rh (And.intro @Ri (And.intro @Cv (And.intro @Cw (And.intro @yi (And.intro @yj (And.intro @Cy (And.intro @Cz (And.intro @CA (And.intro @CB (And.intro @yk (And.intro @yl (And.intro @Rj (And.intro @ym (And.intro @yo (And.intro @yp (And.intro @yq (And.intro @yr (And.intro @yt (And.intro @yu (And.intro @yw (And.intro @Rm (And.intro @yx (And.intro @yy (And.intro @Rn (And.intro @Ro (And.intro @Rq (And.intro @Rr (And.intro @Rt (And.intro @Rv (And.intro @Rw (And.intro @Rx (And.intro @Ry (And.intro @RC (And.intro @RD (And.intro @yz (And.intro @RE (And.intro @RF (And.intro @RG (And.intro @vY (And.intro @RI (And.intro @RJ (And.intro @RK (And.intro @RL (And.intro @RM (And.intro @RN (And.intro @RO (And.intro @RP (And.intro @RQ (And.intro @RS (And.intro @yA (And.intro @RT (And.intro @RU (And.intro @LY (And.intro @yB (And.intro @yC (And.intro @RX (And.intro @RY (And.intro @RZ (And.intro @R0 (And.intro @R1 (And.intro @L3 (And.intro @R3 (And.intro @R4 (And.intro @R5 (And.intro @R6 (And.intro @R7 (And.intro @L5 (And.intro @R8 (And.intro @R9 (And.intro @yD (And.intro @yE (And.intro @yF (And.intro @yG (And.intro @yH (And.intro @CF (And.intro @Iq (And.intro @CG (And.intro @CH (And.intro @Ir (And.intro @CI (And.intro @CJ (And.intro @CK (And.intro @yI (And.intro @yJ (And.intro @yK (And.intro @yL (And.intro @yM (And.intro @yN (And.intro @Iu (And.intro @CL (@CM))))))))))))))))))))))))))))))))))))))))))))))))))))))))))))))))))))))))))))))))))))))))))))))))))))))))))))
theorem cB{α:Type}{m:Option (α×Store)}{Q:α->Store->Prop}(h:∀Q':α->Store->Prop,(∀a st,Q a st->Q' a st)->Wp m Q'):Wp m Q:=h Q fun _ _ h=>h
section
variable {X:Cx}{K:Zfr}
theorem L6:∀{ns:List Int},(∀i∈ns,Hj i)->PyData.weightAll (cY ns)<=65*ns.length
 |[],_=>by show PyData.weightAll []<=0;simp only [PyData.weightAll];exact VC _
 |n :: r,h=>by
  have ih:=L6 (ns:=r) fun i hi=>h i (VL _ hi);have hn:=h n VN;have hw:(PyData.int n).weight<=64:=by
   simp only [PyData.weight];split
   ·omega
   ·have:n.natAbs<2 ^ 63:=by unfold Hj at hn;omega
    have h2:n.natAbs.log2<63:=by
     by_cases h0:n.natAbs=0
     ·rw [h0];decide
     ·exact (Nat.log2_lt h0).mpr this
    omega
  show PyData.weightAll (PyData.int n :: cY r)<=65*(r.length+1);simp only [PyData.weightAll];omega
def nB(K:Zfr):V->List V->Hp->VK->Prop:=fun x vs H Q=>∃(a:Addr) (ns:List Int) (v:Int),x=.ref a/\vs=[.int v]/\jC K H a (ns.map V.int)/\v∈ns/\ns.length<=1000/\(∀i∈ns,Hj i)/\Q (.int (ns.idxOf v:Int)) H
theorem Sb:vf X "list.index" (nB X.K):=by
 intro pins s σ H x xs v us Q I rx rv h;obtain ⟨a,ns,y,rfl,rfl,hq,hm,hl,hb,q⟩:=h;cases rx;obtain ⟨u,rfl,t,rfl⟩:=vals1 rv;obtain ⟨its,r,pl,hz⟩:=I.list hq
 exact PyProof.Rows.index_list_ints (vs:=its) pl.isList (JQ r) (by
  have hw:=L6 hb;have c1:(PyData.list (List.map PyData.int ns)).canLay0=true:=zL ns;have c2:(PyData.list (List.map PyData.int ns)).depth<=64:=by show PyData.depthAll (cY ns)+1<=64;rw [Bq];omega
  have c3:(PyData.list (List.map PyData.int ns)).weight<=2 ^ 20:=by simp only [PyData.weight];exact V3 hw (by omega)
  show (_ && _ && _)=true
  rw [c1,decide_eq_true c2,decide_eq_true c3];rfl) hm ⟨.int _,H,I.tok _,⟨_,rfl⟩,q⟩
theorem Sd(hK:X.K=K):vf X "list.index" (nB K):=by subst hK;exact Sb
theorem Se:vK K "list" (nB K) jt:=by
 intro ρ H st x xs a as b st' Q l rx sr e q;unfold jt at e;split at e
 ·split at e
  ·next ns hn =>
   split at e
   ·next hm =>
    cases e;obtain ⟨v,rfl,r⟩:=sr.one';cases r;cases rx with
    |ref hi =>
     obtain ⟨ds,h1,h2⟩:=Wt.mp hn;obtain ⟨vs,s,r⟩:=l.items hi h1;cases Ik r h2;exact ⟨_,ns,_,rfl,rfl,s,hm.1,hm.2.1,hm.2.2,q _ H ρ .refl l (.int _)⟩
   ·cases e
  ·cases e
 ·cases e
end
section
variable {st:Store}{Q:D->Store->Prop}
theorem Sf(n:Nat)(L:List Int):bZ (fH st (n+1)) (L.map D.int)=some (cY L):=xV (f:=fH st (n+1)) (g:=D.int) (k:=PyData.int) (fun _=>by simp only [fH]) L
theorem Iv(a b:List PyData):PyData.eqv (.list a) (.list b)=PyData.eqvAll a b:=by simp only [PyData.eqv]
theorem Sg(a b:List PyData):PyData.eqv (.tuple a) (.tuple b)=PyData.eqvAll a b:=by simp only [PyData.eqv]
theorem L7{neg:Bool}{a b:Nat}{L M:List Int}(ha:items st a=some (L.map D.int))(hb:items st b=some (M.map D.int)):Wp (kW neg (.ref a) (.ref b) st) Q↔Q (.bl (if neg then !decide (L=M) else decide (L=M))) st:=by
 have p1:∀(i:Nat) (N:List Int),items st i=some (N.map D.int)->fH st 20 (.ref i)=some (.list (cY N)):=fun i N h=>by
  simp only [fH,h];rw [Sf];rfl
 have dp:∀N:List Int,PyData.depth (.list (cY N))<=1:=fun N=>by show PyData.depthAll (cY N)+1<=1;rw [Bq];omega
 rw [Ip];constructor
 ·rintro ⟨p,q,h1,h2,_,h⟩
  rw [p1 a L ha] at h1;rw [p1 b M hb] at h2;cases h1;cases h2;rw [Iv,EB] at h;exact h
 ·intro h
  refine ⟨_,_,p1 a L ha,p1 b M hb,⟨zL L,zL M,by have:=dp L;omega⟩,?_⟩;rw [Iv,EB];exact h
def Si(rs:List (List Int)):D:=.tup (rs.map fun r=>.tup (r.map D.int))
end
def bT(st:Store)(f:Nat):Prop:=∃o m:Int,st[f]?=some (.lst [.int o,.int m])/\0<=o/\0<=m/\m<4294967296
theorem CN:kZ 2 0=some 0:=by decide
theorem CO:kZ 2 1=some 1:=by decide
theorem qD(n:Nat):aB 0 n=(ae.upto n).map D.int:=by
 unfold aB ae.upto;rw [V8];apply Wg;intro i _;simp
theorem Sj(L:List Int)(j:Nat):(L.map D.int).eraseIdx j=(L.eraseIdx j).map D.int:=by
 induction L generalizing j with
 |nil=>rfl
 |cons a r ih =>
  cases j with
  |zero=>rfl
  |succ j=>show D.int a :: (r.map D.int).eraseIdx j=_;rw [ih];rfl
theorem Sk{L:List Int}{j:Nat}(h:j<L.length):(L[j] :: L.eraseIdx j).Perm L:=by
 induction L generalizing j with
 |nil=>exact absurd h (Wn _)
 |cons a r ih =>
  cases j with
  |zero=>exact W8 _
  |succ j =>
   have:=ih (j:=j) (by simpa using h);exact (List.Perm.swap _ _ _).trans (this.cons a)
theorem bT.keep{st st':Store}{f:Nat}(h:bT st f)(e:Ex [] st st'):bT st' f:=by
 obtain ⟨o,m,e1,r⟩:=h;exact ⟨o,m,e.keep _ _ e1 (by simp),r⟩
theorem bT.ne{st:Store}{f i:Nat}{o:O}(h:bT st f)(hi:i≠f):bT (st.set i o) f:=by
 obtain ⟨x,m,e1,r⟩:=h;exact ⟨x,m,by rw [VF hi];exact e1,r⟩
theorem bT.lt{st:Store}{f:Nat}(h:bT st f):f<st.length:=let ⟨_,_,e,_⟩:=h;eB e
theorem qE{xs:List Int}{i:Int}(h0:0<=i)(h1:i<(xs.length:Int)):eo (xs.map D.int) i=some (.int (ae.app xs i)):=by
 have e:(xs.map D.int)[i.toNat]?=some (.int (ae.app xs i)):=by rw [VP,ae.oy h0 h1];rfl
 have:=zH e
 rwa [V2 h0] at this
theorem CP{xs:List Int}{i:Nat}{d:D}(h:(xs.map D.int)[i]?=some d):∃x,xs[i]?=some x/\d=.int x:=by
 rw [VP] at h;obtain ⟨x,h1,h2⟩:=V7.mp h;exact ⟨x,h1,h2.symm⟩
theorem Iw(x:Int):∀(ns:List Int),vk (.int x) (ns.map V.int)=ns.contains x
 |[]=>rfl
 |n :: r=>by
  have e:=Iw x r;unfold vk at e ⊢;rw [V0,Wy,e,List.contains_cons]
  congr 1
  show (n == x)=(x == n);exact Bool.beq_comm
theorem Fb{st:Store}{Q:D->Store->Prop}{neg:Bool}{x:Int}{c:D}{ns:List Int}(hc:cH st c=some (ns.map D.int)):Wp (qR neg (.int x) c st) Q↔Q (.bl (if neg then !ns.contains x else ns.contains x)) st:=by
 rw [CD];constructor
 ·rintro ⟨v,ds,vs,h1,h2,h3,h⟩
  cases h1;rw [hc] at h2;cases h2;rw [LZ] at h3;cases h3;rw [Iw] at h;exact h
 ·intro h
  refine ⟨_,_,_,rfl,hc,LZ ns,?_⟩;rw [Iw];exact h
def bY(xs ys:List Int):D:=.tup [.tup (xs.map D.int),.tup (ys.map D.int)]
structure nC(kn st:Store)(f r u:Nat)(n:Nat)(X Y:List Int):Prop where
 hr:st[r]?=some (.lst (X.map D.int))
 hu:st[u]?=some (.lst (Y.map D.int))
 ne:r≠u
 r0:kn.length<=r
 u0:kn.length<=u
 tX:ae.Tn n X
 tY:ae.Tn n Y
 fd:bT st f
 ex:Ex [f] kn st
section
variable {kn st st':Store}{f r u n:Nat}{X Y Z:List Int}{o:O}
theorem nC.keep(h:nC kn st f r u n X Y)(e:Ex [] st st'):nC kn st' f r u n X Y:=⟨e.keep _ _ h.hr (by simp),e.keep _ _ h.hu (by simp),h.ne,h.r0,h.u0,h.tX,h.tY,h.fd.keep e,h.ex.trans e.any⟩
theorem nC.yO(h:nC kn st f r u n X Y)(t:ae.Tn n Z):nC kn (st ++ [.lst (Z.map D.int)]) f st.length u n Z Y:=⟨g8,jF h.hu,by have:=eB h.hu;omega,h.ex.len,h.u0,t,h.tY,h.fd.keep (Ex.cV _),h.ex.app _⟩
theorem nC.yP(h:nC kn st f r u n X Y)(t:ae.Tn n Z):nC kn (st ++ [.lst (Z.map D.int)]) f r st.length n X Z:=⟨jF h.hr,g8,by have:=eB h.hr;omega,h.r0,h.ex.len,h.tX,t,h.fd.keep (Ex.cV _),h.ex.app _⟩
theorem nC.put(h:nC kn st f r u n X Y)(t:ae.Tn n Z)(hf:f<kn.length):nC kn (st.set r (.lst (Z.map D.int))) f r u n Z Y:=⟨VG (eB h.hr),by rw [VF h.ne];exact h.hu,h.ne,h.r0,h.u0,t,h.tY,h.fd.ne (by have:=h.r0;omega),h.ex.loc h.r0⟩
end
theorem L8(n:Nat):(ae.pY n).map D.int=aB 1 ((n:Int)-1).toNat ++ [.int 0]:=by
 unfold ae.pY aB;rw [VW,V8,show ((n:Int)-1).toNat=n-1 by omega];rfl
theorem uD{lo hi:Int}(h:0<=lo/\lo<=10000/\0<=hi/\hi<=10000):qC lo hi=true:=by
 unfold qC;rw [VS,decide_eq_true_eq];exact ⟨by omega,jO (by omega)⟩
theorem yQ(w n:Nat):(ae.rX w n).map D.int=aB 1 ((w:Int)-1).toNat ++ [.int 0] ++ aB (w:Int) ((n:Int)-(w:Int)).toNat:=by
 unfold ae.rX aB;rw [VW,VW,V8,V8,show ((w:Int)-1).toNat=w-1 by omega,show ((n:Int)-(w:Int)).toNat=n-w by omega];rfl
theorem L9(xs:List D)(j:Nat):cutD xs none (some (j:Int))=xs.take j:=by
 unfold cutD;rw [HT.NW,HT.GG,List.drop_zero,Nat.sub_zero,List.take_eq_take_iff];omega
theorem yR{w n:Nat}(h0:0<w)(h:w<n):(ae.uq w n).map D.int=cutD ([D.int (w:Int)] ++ aB 1 ((w:Int)-1).toNat ++ aB ((w:Int)+1) ((n:Int)-((w:Int)+1)).toNat ++ [.int 0]) none (some (n:Int)):=by
 rw [L9,List.take_of_length_le (by simp [iN];omega)];unfold ae.uq aB;rw [VW,VW,VW,V8,V8,show ((w:Int)-1).toNat=w-1 by omega,show ((n:Int)-((w:Int)+1)).toNat=n-(w+1) by omega];rfl
def mw(n:Nat)(xs ys:List Int):Prop:=ae.Tn n xs/\ae.Tn n ys/\∀x:Int,0<=x->x<(n:Int)->ae.iS xs ys x
theorem Ma{xs:List Int}{v:Int}(h:v∈xs):xs.findIdx? (fun i=>decide (i=v))=some (xs.idxOf v):=by
 induction xs with
 |nil=>exact nomatch h
 |cons a r ih =>
  rw [List.findIdx?_cons]
  by_cases e:a=v
  ·subst e;simp
  ·have hm:v∈r:=by
    rcases VZ.mp h with h|h
    ·exact absurd h.symm e
    ·exact h
   rw [decide_eq_false e,ih hm,List.idxOf_cons,show (a == v)=false by simpa using e];rfl
theorem Sl{xs:List D}{lo hi:Option Int}{d:D}(h:d∈cutD xs lo hi):d∈xs:=List.mem_of_mem_drop (List.mem_of_mem_take h)
def sE(S:Src)(ds:List D)(st:Store):Prop:=∀(i:Nat) (st2:Store),i<=ds.length->Ex [] st st2->S.at i st2=some ds[i]?
theorem Sn{st st':Store}{r:Nat}{ds:List D}(h:items st r=some ds)(e:Ex [] st st'):items st' r=some ds:=by
 unfold items at h ⊢;cases hx:st[r]? with
 |none=>rw [hx] at h;cases h
 |some o=>rw [e.keep _ _ hx (by simp)];rw [hx] at h;exact h
theorem uE(ds:List D)(st:Store):sE (.fix ds) ds st:=fun i st2 hi _=>by
 show (if i<=ds.length then some ds[i]? else none)=_;rw [if_pos hi]
theorem Sq{ds:List D}{st:Store}{r:Nat}(h:items st r=some ds):sE (.live r) ds st:=fun i st2 hi e=>by
 show (items st2 r).map _=_;rw [Sn h e];rfl
theorem tO{δ:ai}{st:Store}{fi:ai->Dm Src}{js:List Nat}{f:ai->Dm D}{Q:D->Store->Prop}(ds:List D)(h:D->D)(hi:Wp (fi δ st) fun S st1=>sE S ds st1/\Ex [] st st1)(hl:ds.length<100000)
  (step:∀d∈ds,∀st1,Ex [] st st1->Wp (f (some d :: js.map fun j=>δ.getD j none) st1) fun y st2=>y=h d/\Ex [] st1 st2) (fin:∀st',Ex [] st st'->Q (.ref st'.length) (st' ++ [.lst (ds.map h)])):Wp (d5 fi 1 js (hName 0) fM f δ st) Q:=by
 obtain ⟨S,st1,e1,hS,k1⟩:=hi;refine LU ds (fun i ys δ' nD=>(∃v,δ'=v :: js.map fun j=>δ.getD j none)/\ys=(ds.take i).map h/\Ex [] st1 nD) ⟨S,st1,e1,fun i ys δ' nD hi' hp=>hS i nD hi' hp.2.2,⟨none,rfl⟩,rfl,Ex.refl⟩ hl ?_ ?_ ?_
 ·rintro i ys δ' nD ⟨_,rfl,_⟩
  rw [Vz,WD];omega
 ·rintro i d ys δ' nD hd ⟨⟨v,rfl⟩,rfl,k8⟩
  rw [L3];show Wp (fM _ _) _;rw [L5];refine ⟨fun _=>?_,fun h=>absurd h (by decide)⟩;refine bB (step d (VI hd) nD (k1.trans k8)) ?_;rintro y pD ⟨rfl,k9⟩;refine ⟨⟨some d,rfl⟩,?_,k8.trans k9⟩;obtain ⟨hlt,e⟩:=VA.mp hd;rw [Wf hlt,VW,e];rfl
 ·rintro ys δ' nD ⟨_,rfl,k8⟩
  rw [WX];exact fin nD (k1.trans k8)
theorem yS{xs:List Int}{d:D}(h:d∈xs.map D.int):∃x∈xs,d=.int x:=by
 obtain ⟨x,hx,rfl⟩:=VO.mp h;exact ⟨x,hx,rfl⟩
theorem CQ{xs:List Int}{f:Int->Int}{h:D->D}(e:∀x∈xs,h (.int x)=.int (f x)):(xs.map D.int).map h=(xs.map f).map D.int:=by
 rw [V8,V8];exact Wg fun x hx=>e x hx
def inD:D->Int
 |.int i=>i
 |_=>0
theorem Mb(zs:List Int):(zs.map D.int).map inD=zs:=by rw [V8];exact Xe zs
theorem _root_.ae.uF{n:Nat}{xs ys p:List Int}(fl:mw n xs ys)(tp:ae.Tn n p)(n0:0<n):mw n (ae.anew xs p) (ae.anew ys p):=by
 obtain ⟨tx,ty,all⟩:=fl;have tX:=tx.anew tp;have tY:=ty.anew tp;refine ⟨tX,tY,fun x x0 x1=>?_⟩;obtain ⟨a0,a1⟩:=tp.app (i:=0) (by decide) (by omega);have hb:∀y:Int,0<=y->y<(n:Int)->y∈ae.bf (ae.anew xs p) (ae.anew ys p) (ae.app p 0) n:=fun y y0 y1=>by
  rw [ae.HE tx ty tp (by decide) (by omega) n];obtain ⟨b0,b1⟩:=tp.kT y0 y1;exact VO.mpr ⟨ae.app (ae.inv p) y,ae.Ld tx ty (by decide) (by omega) all b0 b1,tp.cF y0 y1⟩
 have hF:=ae.HD tX tY (s:=0) (by decide) (by omega);have nd:=ae.xD (ae.anew xs p) (ae.anew ys p) 0 n;have bd:=ae.qz tX tY (s:=0) (by decide) (by omega) n;have Sr:∀k,∀y∈ae.bf (ae.anew xs p) (ae.anew ys p) 0 k,ae.iS (ae.anew xs p) (ae.anew ys p) y:=by
  intro k
  induction k with
  |zero=>intro y hy;rw [VY.mp (show y∈[(0:Int)] from hy)];exact .zero
  |succ k ih =>
   intro y hy;have hy':y∈(match (ae.bf (ae.anew xs p) (ae.anew ys p) 0 k)[k]? with|some x=>ae.visit (ae.anew xs p) (ae.anew ys p) (ae.bf (ae.anew xs p) (ae.anew ys p) 0 k) x|none=>ae.bf (ae.anew xs p) (ae.anew ys p) 0 k):=hy;split at hy'
   ·next z hz =>
    have vH:=ih z (VI hz);rcases ae.p7.mp hy' with hy'|rfl
    ·rcases ae.p7.mp hy' with hy'|rfl
     ·exact ih y hy'
     ·exact vH.r
    ·exact vH.u
   ·exact ih y hy'
 refine Sr n x ?_;have z0:(0:Int)∈ae.bf (ae.anew xs p) (ae.anew ys p) 0 n:=by
  have:=ae.zU (ae.anew xs p) (ae.anew ys p) 0 0 n;rw [Nat.zero_add] at this;exact this.subset (show (0:Int)∈[(0:Int)] by simp)
 have back:∀k,(∃y∈ae.bf (ae.anew xs p) (ae.anew ys p) (ae.app p 0) k,y∈ae.bf (ae.anew xs p) (ae.anew ys p) 0 n)->ae.app p 0∈ae.bf (ae.anew xs p) (ae.anew ys p) 0 n:=by
  intro k
  induction k with
  |zero =>
   rintro ⟨y,hy,ud⟩;rw [VY.mp (show y∈[ae.app p 0] from hy)] at ud;exact ud
  |succ k ih =>
   rintro ⟨y,hy,ud⟩;have hy':y∈(match (ae.bf (ae.anew xs p) (ae.anew ys p) (ae.app p 0) k)[k]? with|some x=>ae.visit (ae.anew xs p) (ae.anew ys p) (ae.bf (ae.anew xs p) (ae.anew ys p) (ae.app p 0) k) x|none=>ae.bf (ae.anew xs p) (ae.anew ys p) (ae.app p 0) k):=hy;split at hy'
   ·next z hz =>
    have zV:=VI hz;obtain ⟨c0,c1⟩:=ae.qz tX tY a0 a1 k z zV;rcases ae.p7.mp hy' with hy'|rfl
    ·rcases ae.p7.mp hy' with hy'|rfl
     ·exact ih ⟨y,hy',ud⟩
     ·exact ih ⟨z,zV,ae.BQ tX nd bd (fun x hx=>(hF x hx).1) c0 c1 ud⟩
    ·exact ih ⟨z,zV,ae.BQ tY nd bd (fun x hx=>(hF x hx).2) c0 c1 ud⟩
   ·exact ih ⟨y,hy',ud⟩
 have hp0:=back n ⟨0,hb 0 (by decide) (by omega),z0⟩;have fwd:∀k,∀y∈ae.bf (ae.anew xs p) (ae.anew ys p) (ae.app p 0) k,y∈ae.bf (ae.anew xs p) (ae.anew ys p) 0 n:=by
  intro k
  induction k with
  |zero=>intro y hy;rw [VY.mp (show y∈[ae.app p 0] from hy)];exact hp0
  |succ k ih =>
   intro y hy;have hy':y∈(match (ae.bf (ae.anew xs p) (ae.anew ys p) (ae.app p 0) k)[k]? with|some x=>ae.visit (ae.anew xs p) (ae.anew ys p) (ae.bf (ae.anew xs p) (ae.anew ys p) (ae.app p 0) k) x|none=>ae.bf (ae.anew xs p) (ae.anew ys p) (ae.app p 0) k):=hy;split at hy'
   ·next z hz =>
    have vH:=ih z (VI hz);rcases ae.p7.mp hy' with hy'|rfl
    ·rcases ae.p7.mp hy' with hy'|rfl
     ·exact ih y hy'
     ·exact (hF z vH).1
    ·exact (hF z vH).2
   ·exact ih y hy'
 exact fwd n x (hb x x0 x1)
theorem yT(p:Key×D)(r:List (Key×D))(k:Key):dj (p :: r) k=if p.1=k then some p.2 else dj r k:=by
 unfold dj;rw [WA]
 by_cases e:p.1=k
 ·rw [decide_eq_true e,if_pos e];rfl
 ·rw [decide_eq_false e,if_neg e]
theorem Ss(kvs:List (Key×D))(k j:Key)(y:D):dj (putD kvs k y) j=if j=k then some y else dj kvs j:=by
 unfold putD
 by_cases a:(kvs.any fun kv=>decide (kv.1=k))=true
 ·rw [if_pos a]
  induction kvs with
  |nil=>simp at a
  |cons p r ih =>
   rw [V0,yT,yT]
   by_cases e:p.1=k
   ·rw [if_pos e]
    by_cases ej:j=k
    ·rw [if_pos ej,if_pos (show (p.1,y).1=j from e.trans ej.symm)]
    ·rw [if_neg ej,if_neg (show ¬(p.1,y).1=j from fun z=>ej (z.symm.trans e)),if_neg (fun z=>ej (z.symm.trans e))]
     have:∀l:List (Key×D),dj (l.map fun kv=>if kv.1=k then (kv.1,y) else kv) j=dj l j:=by
      intro l
      induction l with
      |nil=>rfl
      |cons q l ihl =>
       rw [V0,yT,yT,ihl]
       by_cases eq:q.1=k
       ·rw [if_pos eq,if_neg (show ¬(q.1,y).1=j from fun z=>ej (z.symm.trans eq)),if_neg (fun z=>ej (z.symm.trans eq))]
       ·rw [if_neg eq]
     exact this r
   ·rw [if_neg e]
    have a':(r.any fun kv=>decide (kv.1=k))=true:=by
     rw [Wy,decide_eq_false e,Bool.false_or] at a;exact a
    rw [ih a']
    by_cases ej:j=k
    ·rw [if_pos ej,if_neg (fun z=>e (z.trans ej)),if_pos ej]
    ·rw [if_neg ej,if_neg ej]
 ·rw [if_neg a]
  induction kvs with
  |nil =>
   show dj [(k,y)] j=_;rw [yT]
   by_cases ej:j=k
   ·rw [if_pos ej.symm,if_pos ej]
   ·rw [if_neg (fun z=>ej z.symm),if_neg ej]
  |cons p r ih =>
   have a':¬(r.any fun kv=>decide (kv.1=k))=true:=fun z=>a (by rw [Wy,z,Bool.or_true]);have ep:p.1≠k:=fun z=>a (by rw [Wy,decide_eq_true z,Bool.true_or]);rw [List.cons_append,yT,ih a',yT]
   by_cases ej:j=k
   ·rw [if_pos ej,if_pos ej,if_neg (fun z=>ep (z.trans ej))]
   ·rw [if_neg ej,if_neg ej]
theorem Sv(kvs:List (Key×D))(k:Key)(v:D):(putD kvs k v).length<=kvs.length+1:=by
 unfold putD;split
 ·rw [Vz];omega
 ·rw [VE,V6,Xi];omega
theorem Mc{st:Store}{i:Nat}{kvs:List (Key×D)}(h:st[i]?=some (.dct kvs)):i7 st (.ref i)=some kvs:=by simp only [i7,h]
theorem Md(i:Int):keyOf (.int i)=some (.inl i):=rfl
theorem Sw{r:List Int}{j:Nat}(h:j<r.length)(x:Int):(r.take (j+1)).contains x=((r.take j).contains x || x == r[j]):=by
 rw [Wf h,List.contains_append]
 congr 1
 show ([r[j]]:List Int).contains x=(x == r[j]);rw [List.contains_cons,List.contains_nil,Bool.or_false]
abbrev g9:=Bool×Int
def b5(s:g9):D:=.tup [.str (if s.1 then "s" else "t"),.int s.2]
section
variable {K:Zfr}
def pF(neg:Bool):D->D->Dm D
 |a,.non,st=>some (.bl (match a with|.non=>!neg|_=>neg),st)
 |_,_,_=>none
def sF(neg:Bool):R2:=fun x y H Q=>y=.non/\Q (.bl (if neg then !decide (x=.non) else decide (x=.non))) H
theorem Me(neg:Bool):lO K (sF neg) (pF neg):=by
 intro ρ H st x y a c b st' Q l rx ry e q;unfold pF at e;split at e
 ·cases e
  cases ry;refine ⟨rfl,?_⟩;have k:=q _ H ρ .refl l (.bl _);cases rx<;>cases neg<;>exact k
 ·cases e
end
section
variable {X:Cx}
theorem Sx:ka X (compareOp .Is) (sF false):=wV
theorem Sy:ka X (compareOp .IsNot) (sF true):=NH
end
section
variable {st:Store}{Q:D->Store->Prop}
theorem Mf{neg:Bool}:Wp (pF neg .non .non st) Q↔Q (.bl (!neg)) st:=bh
theorem Sz{neg:Bool}{i:Int}:Wp (pF neg (.int i) .non st) Q↔Q (.bl neg) st:=bh
theorem SA{neg:Bool}{i:List D}:Wp (pF neg (.tup i) .non st) Q↔Q (.bl neg) st:=bh
end
def n8(x:Str):List D:=x.cps.toList.map fun c=>.str ⟨#[c]⟩
structure sZ(K:Zfr)(mg:Str->Option Value)(x:Str)(v:V)(d:D):Prop where
 ex:∃u,mg x=some u/\RelV v u
 rp:∀(ρ:List Addr) (H:Hp),Rp K ρ H v d
theorem Mg{X:Cx}{K:Zfr}{mg:Str->Option Value}{x:Str}{v:V}{d:D}{pos:Pos}(C:sZ K mg x v d)(hg:Gl X x)(hX:X.mg=mg)(hd:(x == ("__debug__" : Str))=false):PE X (.Name x pos) (tC v):=by
 obtain ⟨u,h,r⟩:=C.ex;subst hX;exact Jp hg h r hd
theorem Mh{K:Zfr}{mg:Str->Option Value}{x:Str}{v:V}{d:D}(C:sZ K mg x v d):dk K (tC v) (fC d):=sd C.rp
theorem Mi{K:Zfr}{h:Heap}{mg:Str->Option Value}(X:K.In h)(G:h.Ns mainGlobals mg){x:Str}{a:Addr}{od:Option Addr}{its:Array Value}{n:Nat}{sl:Array (Option Value)}{vs:List V}{ds:List D}(e:PySem.W.nsIn K mainGlobals x=some (some (.ref a)))(l:K.lookup a=some ⟨.type "tuple",od,.seq its n,sl⟩)
  (ho:od=none) (hz:its.size<=sizeLine) (hv:Vals vs its.toList) (hd:∀(ρ:List Addr) (H:Hp),cf K ρ H vs ds):∃v,sZ K mg x v (.tup ds) :=
 ⟨.ref a,⟨_,PySem.W.mg_of X G e,rfl⟩,fun ρ H=>.tup (.inr ⟨_,its,n,l,rfl,ho,rfl,hz,hv⟩) (hd ρ H)⟩
def pU:Nat->D->Prop
 |_,.int _=>True
 |_,.str x=>PyData.canLay0 (.str x)=true
 |_,.non=>True
 |n+1,.tup ds=>∀d∈ds,pU n d
 |_,_=>False
def cu:Nat->D->PyData
 |_,.int i=>.int i
 |_,.str x=>.str x
 |n+1,.tup ds=>.tuple (ds.map (cu n))
 |_,_=>.none
theorem CT{α β:Type}{f:α->Option β}{g:α->β}:∀{l:List α},(∀x∈l,f x=some (g x))->bZ f l=some (l.map g)
 |[],_=>rfl
 |a :: r,h=>by
  have h1:=h a VN;have h2:=CT (f:=f) (g:=g) (l:=r) fun x hx=>h x (VL _ hx);simp only [bZ,h1,h2,V0]
theorem sG:∀(n:Nat) (d:D),pU n d->∀(m:Nat),n<m->∀st,fH st m d=some (cu n d)
 |n,.int i,_,m+1,_,st=>by cases n<;>rfl
 |n,.str x,_,m+1,_,st=>by cases n<;>rfl
 |n,.non,_,m+1,_,st=>by cases n<;>rfl
 |n,.bl b,h,_,_,_=>by cases n<;>exact h.elim
 |n,.ty b,h,_,_,_=>by cases n<;>exact h.elim
 |n,.ref b,h,_,_,_=>by cases n<;>exact h.elim
 |0,.tup ds,h,_,_,_=>h.elim
 |n+1,.tup ds,h,m+1,hm,st=>by
  simp only [fH];rw [CT (g:=cu n) fun x hx=>sG n x (h x hx) m (by omega) st];rfl
theorem Iy:∀{l:List PyData},(∀x∈l,x.canLay0=true)->PyData.canLayAll0 l=true
 |[],_=>rfl
 |a :: r,h=>by
  simp only [PyData.canLayAll0,h a VN,Iy fun x hx=>h x (VL _ hx),Bool.and_self]
theorem Iz{n:Nat}:∀{l:List PyData},(∀x∈l,x.depth<=n)->PyData.depthAll l<=n
 |[],_=>Wd _
 |a :: r,h=>by
  have h1:=h a VN;have h2:=Iz fun x hx=>h x (VL _ hx);simp only [PyData.depthAll];omega
theorem qU:∀(n:Nat) (d:D),pU n d->(cu n d).canLay0=true/\(cu n d).depth<=n
 |n,.int i,_=>by cases n<;>exact ⟨rfl,Wd _⟩
 |n,.str x,h=>by cases n<;>exact ⟨h,Wd _⟩
 |n,.non,_=>by cases n<;>exact ⟨rfl,Wd _⟩
 |n,.bl b,h=>by cases n<;>exact h.elim
 |n,.ty b,h=>by cases n<;>exact h.elim
 |n,.ref b,h=>by cases n<;>exact h.elim
 |0,.tup ds,h=>h.elim
 |n+1,.tup ds,h=>by
  refine ⟨?_,?_⟩
  ·show PyData.canLayAll0 (ds.map (cu n))=true
   exact Iy fun x hx=>by
    obtain ⟨d,hd,rfl⟩:=VO.mp hx;exact (qU n d (h d hd)).1
  ·show PyData.depthAll (ds.map (cu n))+1<=n+1
   have:=Iz (n:=n) (l:=ds.map (cu n)) fun x hx=>by
    obtain ⟨d,hd,rfl⟩:=VO.mp hx;exact (qU n d (h d hd)).2
   omega
theorem IA{n:Nat}(ih:∀a b:D,pU n a->pU n b->(PyData.eqv (cu n a) (cu n b)=true↔a=b)):∀(l m:List D),(∀x∈l,pU n x)->(∀x∈m,pU n x)->(PyData.eqvAll (l.map (cu n)) (m.map (cu n))=true↔l=m)
 |[],[],_,_=>by simp [PyData.eqvAll]
 |[],_ :: _,_,_=>by simp [PyData.eqvAll]
 |_ :: _,[],_,_=>by simp [PyData.eqvAll]
 |a :: l,b :: m,h1,h2=>by
  have e1:=ih a b (h1 a VN) (h2 b VN);have e2:=IA ih l m (fun x hx=>h1 x (VL _ hx)) fun x hx=>h2 x (VL _ hx);simp only [V0,PyData.eqvAll,VS,e1,e2,List.cons.injEq]
theorem Ad:∀(n:Nat) (a b:D),pU n a->pU n b->(PyData.eqv (cu n a) (cu n b)=true↔a=b):=by
 intro n
 induction n with
 |zero =>
  intro a b ha hb;cases a<;>first|exact ha.elim|skip
  all_goals (cases b<;>first|exact hb.elim|simp [cu,PyData.eqv])
 |succ n ih =>
  intro a b ha hb;cases a<;>first|exact ha.elim|skip
  all_goals (cases b<;>first|exact hb.elim|skip)
  all_goals first
   |(simp [cu,PyData.eqv];done)
   |skip
  next l m =>
   have:=IA ih l m ha hb;show PyData.eqv (.tuple (l.map (cu n))) (.tuple (m.map (cu n)))=true↔_;rw [Sg,this];constructor
   ·rintro rfl;rfl
   ·intro h;exact D.tup.inj h
open Classical in
theorem yU{st:Store}{Q:D->Store->Prop}{neg:Bool}{n:Nat}{a b:D}(ha:pU n a)(hb:pU n b)(hn:n<=15):Wp (kW neg a b st) Q↔Q (.bl (if neg then !decide (a=b) else decide (a=b))) st:=by
 have e:PyData.eqv (cu n a) (cu n b)=decide (a=b):=by
  have:=Ad n a b ha hb;cases h:PyData.eqv (cu n a) (cu n b) with
  |true=>exact (decide_eq_true (this.mp h)).symm
  |false=>exact (decide_eq_false fun z=>by rw [this.mpr z] at h;cases h).symm
 rw [Ip];constructor
 ·rintro ⟨p,q,h1,h2,_,h⟩
  rw [sG n a ha 20 (by omega)] at h1;rw [sG n b hb 20 (by omega)] at h2;cases h1;cases h2;rw [e] at h;exact h
 ·intro h
  refine ⟨_,_,sG n a ha 20 (by omega) st,sG n b hb 20 (by omega) st,⟨(qU n a ha).1,(qU n b hb).1,?_⟩,?_⟩
  ·have:=(qU n a ha).2
   omega
  ·rw [e];exact h
theorem Mj(n:Nat)(L:List Int):pU (n+1) (.tup (L.map D.int)):=fun d hd=>by
 obtain ⟨x,_,rfl⟩:=VO.mp hd;cases n<;>trivial
theorem CU(n:Nat)(s:g9):pU (n+1) (b5 s):=fun d hd=>by
 have hd:d=.str (if s.1 then "s" else "t")\/d=.int s.2:=by simpa [b5] using hd
 rcases hd with rfl|rfl
 ·have h:PyData.canLay0 (.str (if s.1=true then "s" else "t" : Str))=true:=by cases s.1<;>decide +kernel
  cases n<;>exact h
 ·cases n<;>trivial
theorem vZ(n:Nat)(xs ys:List Int):pU (n+2) (bY xs ys):=fun d hd=>by
 have hd:d=.tup (xs.map D.int)\/d=.tup (ys.map D.int):=by simpa [bY] using hd
 rcases hd with rfl|rfl
 ·exact Mj n xs
 ·exact Mj n ys
def oJ(neg:Bool):D->D->Dm D:=fun a c st=>match fH st 20 a,(cH st c).bind (bZ (fH st 19)) with
 |some dx,some ds=>if dx.canLay0 && ds.all PyData.canLay0 && decide (dx.depth<=60) then some (.bl (if neg then !ds.any (fun d=>PyData.eqv d dx) else ds.any fun d=>PyData.eqv d dx),st) else none
 |_,_=>none
section
variable {K:Zfr}
theorem Fc{ρ:List Addr}{H:Hp}{st:Store}(l:Rl K ρ H st)(n:Nat):∀{vs:List V} {ds:List D} {ps:List PyData},cf K ρ H vs ds->bZ (fH st n) ds=some ps->eX K H vs ps
 |_,_,_,.nil,h=>by cases h;exact .nil
 |_,_,_,.cons a b,h=>by
  obtain ⟨x,t,h1,h2,rfl⟩:=Cg h;exact .cons (xW l n a h1) (Fc l n b h2)
theorem Mk(neg:Bool):lO K (By K neg) (oJ neg):=by
 intro ρ H st x y a c b st' Q l rx ry e q;unfold oJ at e;split at e
 ·next dx ds h1 h2 =>
  split at e
  ·next ok =>
   cases e;rw [VS,VS,decide_eq_true_eq,WY] at ok;obtain ⟨es,h3,h4⟩:=Wt.mp h2;obtain ⟨p,xs,rfl,hq,rr⟩:∃p xs,y=.ref p/\(jC K H p xs\/eu K H p xs)/\cf K ρ H xs es:=by
    cases ry with
    |non=>cases h3
    |bl _=>cases h3
    |int _=>cases h3
    |str _=>cases h3
    |ty _=>cases h3
    |ref hi=>obtain ⟨vs,s,r⟩:=l.items hi h3;exact ⟨_,vs,rfl,.inl s,r⟩
    |tup s r=>cases h3;exact ⟨_,_,rfl,.inr s,r⟩
   exact ⟨p,xs,ds,dx,rfl,hq,Fc l 19 rr h4,xW l 20 rx h1,ok.1.2,ok.1.1,ok.2,q _ H ρ .refl l (.bl _)⟩
  ·cases e
 ·cases e
end
open Classical in
theorem Ml{st:Store}{Q:D->Store->Prop}{neg:Bool}{n:Nat}{a c:D}{es:List D}(ha:pU n a)(hc:cH st c=some es)(he:∀e∈es,pU n e)(hn:n<=15):Wp (oJ neg a c st) Q↔Q (.bl (if neg then !decide (a∈es) else decide (a∈es))) st:=by
 have h1:=sG n a ha 20 (by omega) st;have h2:bZ (fH st 19) es=some (es.map (cu n)):=CT fun x hx=>sG n x (he x hx) 19 (by omega) st;have ea:(es.map (cu n)).any (fun d=>PyData.eqv d (cu n a))=decide (a∈es):=by
  rw [W0,List.any_eq_true,decide_eq_true_eq];constructor
  ·rintro ⟨d,hd,h⟩
   obtain ⟨x,hx,rfl⟩:=VO.mp hd;rw [<- (Ad n x a (he x hx) ha).mp h];exact hx
  ·intro h
   exact ⟨_,VO.mpr ⟨a,h,rfl⟩,(Ad n a a ha ha).mpr rfl⟩
 have l1:=qU n a ha;have l2:(es.map (cu n)).all PyData.canLay0=true:=by
  rw [WY];intro d hd;obtain ⟨x,hx,rfl⟩:=VO.mp hd;exact (qU n x (he x hx)).1
 have e:oJ neg a c st=some (.bl (if neg then !decide (a∈es) else decide (a∈es)),st):=by
  unfold oJ;simp only [h1,hc,Wv,h2,ea,l1.1,l2,Bool.true_and,decide_eq_true_eq];rw [if_pos (by omega)]
 rw [e,bh]
def qf(ps:List PyData):Bool:=decide (0<ps.length) && ps.all (fun a=>ps.all fun b=>rP a b) && ps.all fun a=>a.canLay0 && decide (a.depth<=50)
def kQ:List D->Dm D
 |[.ref r],st=>match own st r with
  |some ds=>match bZ (fH st 20) ds with
   |some ps=>if qf ps=true then (match ds[mG ps]? with|some d=>some (d,st)|none=>none) else none
   |none=>none
  |none=>none
 |_,_=>none
section
variable {K:Zfr}
theorem Mm:qP K (vA K) kQ:=by
 intro ρ H st xs as b st' Q l rx e q;unfold kQ at e;split at e
 ·next r kn =>
  split at e
  ·next ds hd =>
   split at e
   ·next ps hp =>
    split at e
    ·next hok =>
     split at e
     ·next d hd0 =>
      cases e;obtain ⟨v,rfl,r⟩:=rx.one';cases r with
      |ref hi =>
       obtain ⟨vs,hs,rr⟩:=l.items hi (bC (qQ hd));obtain ⟨v,hv,rv⟩:=rr.got hd0;simp only [qf,VS,decide_eq_true_eq,WY] at hok;exact ⟨_,vs,ps,rfl,hs,Fc l 20 rr hp,hok.1.1,hok.1.2,hok.2,v,hv,q v H ρ .refl l rv⟩
     ·cases e
    ·cases e
   ·cases e
  ·cases e
 ·cases e
end
theorem SD{st:Store}{Q:D->Store->Prop}{r:Nat}{ds:List D}{ps:List PyData}(h:own st r=some ds)(hp:bZ (fH st 20) ds=some ps)(hok:qf ps=true){d:D}(hd:ds[mG ps]?=some d):Wp (kQ [.ref r] st) Q↔Q d st:=by
 have e:kQ [.ref r] st=some (d,st):=by simp only [kQ,h,hp,hok,hd,if_true]
 rw [e,bh]
def tupI(xs:List Int):PyData:=.tuple (xs.map PyData.int)
def jW(p:ae.aV):PyData:=.tuple [tupI p.1,tupI p.2]
theorem IB:∀xs ys:List Int,lG (xs.map PyData.int) (ys.map PyData.int)=ae.o5 xs ys
 |[],[]=>rfl
 |[],_ :: _=>rfl
 |_ :: _,[]=>rfl
 |x :: xs,y :: ys=>by
  show (if (x == y)=true then lG (xs.map PyData.int) (ys.map PyData.int) else decide (x<y))=if x=y then ae.o5 xs ys else decide (x<y)
  rw [IB xs ys]
  by_cases h:x=y
  ·rw [if_pos h,if_pos (by simp [h])]
  ·rw [if_neg h,if_neg (by simp [h])]
theorem Mp(xs ys:List Int):PyData.eqv (tupI xs) (tupI ys)=decide (xs=ys):=EB xs ys
theorem SE(p q:ae.aV):zQ (jW p) (jW q)=ae.lL p q:=by
 show (if PyData.eqv (tupI p.1) (tupI q.1)=true then (if PyData.eqv (tupI p.2) (tupI q.2)=true then false else lG (p.2.map PyData.int) (q.2.map PyData.int)) else lG (p.1.map PyData.int) (q.1.map PyData.int))=if p.1=q.1 then ae.o5 p.2 q.2 else ae.o5 p.1 q.1
 rw [Mp,Mp,IB,IB]
 by_cases a:p.1=q.1
 ·rw [if_pos a,if_pos (decide_eq_true a)]
  by_cases b:p.2=q.2
  ·rw [if_pos (decide_eq_true b),b,ae.EO]
  ·rw [if_neg (by simp [b])]
 ·rw [if_neg a,if_neg (by simp [a])]
theorem IC:∀xs ys:List Int,nr (xs.map PyData.int) (ys.map PyData.int)=true
 |[],_=>rfl
 |_ :: _,[]=>rfl
 |x :: xs,y :: ys=>by show (true && nr (xs.map PyData.int) (ys.map PyData.int))=true;rw [IC xs ys];rfl
theorem SG(p q:ae.aV):rP (jW p) (jW q)=true:=by
 show (nr (p.1.map PyData.int) (q.1.map PyData.int) && (nr (p.2.map PyData.int) (q.2.map PyData.int) && true))=true;rw [IC,IC];rfl
theorem SH(p:ae.aV):(jW p).canLay0=true/\(jW p).depth<=50:=by
 refine ⟨?_,?_⟩
 ·show (PyData.canLayAll0 (cY p.1) && (PyData.canLayAll0 (cY p.2) && true))=true
  rw [zL,zL];rfl
 ·show max (PyData.depthAll (cY p.1)+1) (max (PyData.depthAll (cY p.2)+1) 0)+1<=50
  rw [Bq,Bq];decide
theorem Mq(l:List ae.aV):∀k,k<l.length->l[argBest (fun i j=>ae.lL (l.getD i ([],[])) (l.getD j ([],[]))) k]?=some (ae.lM (l.take (k+1)))
 |0,h=>by
  cases l with
  |nil=>simp at h
  |cons p l=>rfl
 |k+1,h=>by
  have ih:=Mq l k (by omega);generalize hb:argBest (fun i j=>ae.lL (l.getD i ([],[])) (l.getD j ([],[]))) k=b at ih;have e1:l.getD b ([],[])=ae.lM (l.take (k+1)):=by rw [VU,ih];rfl
  have e2:ae.lM (l.take (k+1+1))=if ae.lL (l.getD (k+1) ([],[])) (ae.lM (l.take (k+1))) then l.getD (k+1) ([],[]) else ae.lM (l.take (k+1)):=by
   have et:l.take (k+1+1)=l.take (k+1) ++ [l.getD (k+1) ([],[])]:=by
    rw [Wf h,VU,VB h];rfl
   rw [et];cases l with
   |nil=>simp at h
   |cons p l =>
    show ((l.take k ++ [_]).foldl _ p)=_;rw [Wz];rfl
  show l[if (ae.lL (l.getD (k+1) ([],[])) (l.getD (argBest _ k) ([],[])))=true then k+1 else argBest _ k]?=_;rw [hb,e1,e2];split
  ·rw [VU,VB h];rfl
  ·exact ih
theorem SI(st:Store)(p:ae.aV):fH st 20 (bY p.1 p.2)=some (jW p):=by
 have h:∀(m:Nat) (xs:List Int),bZ (fH st (m+1)) (xs.map D.int)=some (xs.map PyData.int):=fun m xs=>by
  have:=xV (f:=fH st (m+1)) (g:=D.int) (k:=PyData.int) (fun _=>rfl) xs;exact this
 show (bZ (fH st 19) [D.tup (p.1.map D.int),D.tup (p.2.map D.int)]).map PyData.tuple=_;have e1:fH st 19 (D.tup (p.1.map D.int))=some (tupI p.1):=by show (bZ (fH st 18) (p.1.map D.int)).map PyData.tuple=_;rw [h];rfl
 have e2:fH st 19 (D.tup (p.2.map D.int))=some (tupI p.2):=by show (bZ (fH st 18) (p.2.map D.int)).map PyData.tuple=_;rw [h];rfl
 simp only [bZ,e1,e2];rfl
theorem Mr{st:Store}{Q:D->Store->Prop}{r:Nat}{l:List ae.aV}(h:own st r=some (l.map fun p=>bY p.1 p.2))(hn:0<l.length):Wp (kQ [.ref r] st) Q↔Q (bY (ae.lM l).1 (ae.lM l).2) st:=by
 have hp:bZ (fH st 20) (l.map fun p=>bY p.1 p.2)=some (l.map jW):=xV (f:=fH st 20) (g:=fun p:ae.aV=>bY p.1 p.2) (k:=jW) (fun p=>SI st p) l;refine SD h hp ?_ ?_
 ·simp only [qf,VS,decide_eq_true_eq,WY,Vz]
  refine ⟨⟨hn,fun a ha b hb=>?_⟩,fun a ha=>?_⟩
  ·obtain ⟨p,_,rfl⟩:=VO.mp ha
   obtain ⟨q,_,rfl⟩:=VO.mp hb;exact SG p q
  ·obtain ⟨p,_,rfl⟩:=VO.mp ha
   exact SH p
 ·have hb:=Mq l (l.length-1) (by omega)
  rw [show l.length-1+1=l.length by omega,WX] at hb;have e:∀k,k<l.length->argBest (uh (l.map jW)) k=argBest (fun i j=>ae.lL (l.getD i ([],[])) (l.getD j ([],[]))) k/\argBest (fun i j=>ae.lL (l.getD i ([],[])) (l.getD j ([],[]))) k<l.length:=by
   intro k
   induction k with
   |zero=>intro hk;exact ⟨rfl,hk⟩
   |succ k ih =>
    intro hk;obtain ⟨e1,e2⟩:=ih (by omega);have eb:uh (l.map jW) (k+1) (argBest (uh (l.map jW)) k)=ae.lL (l.getD (k+1) ([],[])) (l.getD (argBest (fun i j=>ae.lL (l.getD i ([],[])) (l.getD j ([],[]))) k) ([],[])):=by
     rw [e1];unfold uh;rw [VU,VU,VP,VP,VB hk,VB e2,VU,VU,VB hk,VB e2];exact SE _ _
    refine ⟨?_,?_⟩
    ·show (if uh (l.map jW) (k+1) (argBest (uh (l.map jW)) k)=true then k+1 else argBest (uh (l.map jW)) k)=if _=true then k+1 else _
     rw [eb,e1]
    ·show (if _=true then k+1 else _)<l.length
     split
     ·exact hk
     ·exact e2
  unfold mG;rw [Vz,(e (l.length-1) (by omega)).1,VP,hb];rfl
section
variable {K:Zfr}
def uG(T:String)(g:D->List D->Dm D)(fo:ai->Dm D):ai->Dm D:=fun δ st=>bnd (fo δ st) fun o st1=>if tL T st1 o=true then g o [] st1 else none
theorem yV{T:String}{r:V->List V->Hp->VK->Prop}{g:D->List D->Dm D}{to:TE}{fo:ai->Dm D}(hr:vK K T r g)(ho:dk K to fo):dk K (Bc K T r to) (uG T g fo):=by
 intro ρ σ H δ st b st' Q l rs e q;obtain ⟨o,st1,e1,e⟩:=cn e;split at e
 ·next ht =>
  refine ho ρ σ H δ st o st1 _ l rs e1 fun x H1 ρ1 m1 l1 r1=>⟨LJ l1 r1 ht,?_⟩;exact hr ρ1 H1 st1 x [] o [] b st' Q l1 r1 .nil e fun v H3 ρ3 m3 l3 r3=>q v H3 ρ3 (m1.trans m3) l3 r3
 ·cases e
end
section
variable {st:Store}{Q:D->Store->Prop}{i:Nat}
theorem CV{α:Type}{m:Option (α×Store)}{R R':α->Store->Prop}(h:∀a s,R a s↔R' a s):Wp m R↔Wp m R':=by
 have e:R=R':=funext fun a=>funext fun s=>propext (h a s);rw [e]
theorem yW{T:String}{g:D->List D->Dm D}{fo:ai->Dm D}{δ:ai}:Wp (uG T g fo δ st) Q↔Wp (fo δ st) fun o st1=>tL T st1 o=true/\Wp (g o [] st1) Q:=by
 unfold uG;rw [cU];refine CV fun o st1=>?_;rw [mQ,fJ];split
 ·next h=>exact ⟨fun q=>⟨h,q⟩,fun q=>q.2⟩
 ·next h=>exact ⟨False.elim,fun q=>h q.1⟩
end
def aM(d:D)(st:Store):Bool:=match d with
 |.ref i=>match st[i]? with
  |some (.exc _ _)=>true
  |_=>false
 |_=>false
theorem SJ{d:D}{st:Store}(h:aM d st=true):∃i c fs,d=.ref i/\st[i]?=some (.exc c fs):=by
 unfold aM at h;split at h
 ·next i =>
  split at h
  ·next c fs e=>exact ⟨i,c,fs,rfl,e⟩
  ·cases h
 ·cases h
theorem SK{a C:Addr}{dx tr:Option Addr}{xs:List (List Int×Addr×Value)}(e:DU a xs=XO a C dx tr):False:=by
 unfold DU XO at e;injection e with q
 let ob:Obj:={ cls:=.ref C,dict:=dx,data:=.fields #[.none,xv tr] }
 let h0:Heap:={ objs:=Array.replicate (a+1) ob }
 have e0:h0.get? a=some ob:=by
  refine Heap.get?_some_iff.mpr ⟨?_,rfl⟩;simp [h0]
 have z:=(congrFun q h0).mpr ⟨ob,_,e0,rfl,rfl,rfl,rfl⟩;obtain ⟨_,_,o,es,ep,e1,_,e2,_⟩:=z;rw [e0] at e1;cases e1;cases e2
section
variable {K:Zfr}{ρ ρ':List Addr}{H H' H2:Hp}{st st':Store}{a:Addr}
theorem Fe(y:XS a H H2){b:Addr}{u:HO}(h:H b=some u)(n:∀φ,u≠.ext φ):H2 b=some u:=by
 obtain ⟨⟨C,dx,tr,xw,e1,e2⟩,k⟩:=y;exact k b (fun z=>by rw [z,e1] at h;cases h;exact n _ rfl) u h
theorem Mn.xs(y:XS a H H2):Mn K ρ H ρ H2:=⟨fun _ _ h=>h,fun b vs q=>by
  rcases q with (q|⟨o,q⟩)|q
  ·exact .inl (.inl (Fe y q fun φ z=>nomatch z))
  ·exact .inl (.inr ⟨o,Fe y q fun φ z=>nomatch z⟩)
  ·exact .inr q
  ,fun b o u h=>Fe y h (fun φ z=>by cases z),fun b ws h=>Fe y h (fun φ z=>by cases z)⟩
theorem Rl.xs(l:Rl K ρ H st)(y:XS a H H2):Rl K ρ H2 st:=by
 have m:Mn K ρ H ρ H2:=Mn.xs y;refine ⟨l.len,l.nd,fun i b o h1 h2=>?_⟩;have r:=l.obj i b o h1 h2
 by_cases hb:b=a
 ·subst hb
  have y0:=y;obtain ⟨⟨C,dx,tr,xw,e1,e2⟩,k⟩:=y0;cases o with
  |lst ds=>obtain ⟨vs,e,_⟩:=r;rw [e1] at e;cases e
  |oB ds =>
   obtain ⟨vs,e,q⟩:=r;refine ⟨vs,?_,q.mn m⟩;rcases e with ⟨u,e⟩|e
   ·rw [e1] at e;cases e
   ·exact .inr e
  |dct kvs=>obtain ⟨vs,e,_⟩:=r;rw [e1] at e;cases e
  |B9 kvs=>obtain ⟨vs,e,_⟩:=r;rw [e1] at e;exact (SK (VJ e).symm).elim
  |exc c fs =>
   obtain ⟨C',zR,O9,n,e,q⟩:=r;rw [e1] at e;obtain ⟨rfl,rfl⟩:=XO.inj (VJ e);exact ⟨C,dx,xw,n,e2,q.mn m⟩
  |any=>trivial
  |gR lo hi=>have z:H b=some (.gR lo hi):=r;rw [e1] at z;cases z
 ·exact r.keep m fun u e=>y.2 b hb u e
def Ae(K:Zfr)(W:Addr->Hp->Prop)(ρ:List Addr)(H:Hp)(st':Store)(E:Ends):Fl->Prop
 |.rt d=>(aM d st'=true->∀a H' ρ',Mn K ρ H ρ' H'->Rl K ρ' H' st'->Rp K ρ' H' (.ref a) d->W a H')/\(aM d st'=false->Go K ρ H st' E (.rt d))
 |fl=>Go K ρ H st' E fl
theorem Ae.mn{W:Addr->Hp->Prop}{ρ1:List Addr}{H1:Hp}{E:Ends}{fl:Fl}(g:Ae K W ρ H st' E fl)(m:Mn K ρ H ρ1 H1):Ae K W ρ1 H1 st' E fl:=by
 cases fl with
 |rt d=>exact ⟨fun h a H' ρ' m' l r=>g.1 h a H' ρ' (m.trans m') l r,fun h=>Go.mn (g.2 h) m⟩
 |nx δ=>exact Go.mn (fl:=.nx δ) g m
 |bk δ=>exact Go.mn (fl:=.bk δ) g m
 |ct δ=>exact Go.mn (fl:=.ct δ) g m
def sH(K:Zfr)(W:Addr->Hp->Prop)(t:TS)(f:ai->Dm Fl):Prop :=
 ∀(ρ:List Addr) (σ:St) (H:Hp) (δ:ai) (st:Store) (fl:Fl) (st':Store) (E:Ends),Rl K ρ H st->Rs K ρ H σ δ->f δ st=some (fl,st')->Ae K W ρ H st' E fl->t E σ H
def qV(f:ai->Dm Fl):ai->Dm Fl:=fun δ st=>bnd (f δ st) fun fl st1=>match fl with
 |.rt d=>if aM d st1=true then none else some (.rt d,st1)
 |x=>some (x,st1)
theorem uH{W:Addr->Hp->Prop}{t:TS}{f:ai->Dm Fl}(hf:mP K t f):sH K W t (qV f):=by
 intro ρ σ H δ st fl st' E l rs e q;obtain ⟨x,st1,e1,e⟩:=cn e;cases x with
 |rt d =>
  dsimp only at e;split at e
  ·cases e
  ·next hn=>cases e;exact hf ρ σ H δ st _ _ E l rs e1 (q.2 (by simpa using hn))
 |nx δ1=>cases e;exact hf ρ σ H δ st _ _ E l rs e1 q
 |bk δ1=>cases e;exact hf ρ σ H δ st _ _ E l rs e1 q
 |ct δ1=>cases e;exact hf ρ σ H δ st _ _ E l rs e1 q
theorem v9{W:Addr->Hp->Prop}{t u:TS}{f g:ai->Dm Fl}(hf:sH K W t f)(hg:sH K W u g):sH K W (wM t u) (ay f g):=by
 intro ρ σ H δ st fl st' E l rs e q;obtain ⟨x,st1,e1,e⟩:=cn e;refine hf ρ σ H δ st x st1 _ l rs e1 ?_;cases x with
 |nx δ1=>exact fun σ1 H1 ρ1 m1 l1 r1=>hg ρ1 σ1 H1 δ1 st1 fl st' E l1 r1 e (q.mn m1)
 |bk δ1=>cases e;exact q
 |ct δ1=>cases e;exact q
 |rt d=>cases e;exact q
theorem SM{W:Addr->Hp->Prop}{c:TT}{t u:TS}{fc:ai->Dm Bool}{f g:ai->Dm Fl}(hc:p9 K c fc)(hf:sH K W t f)(hg:sH K W u g):sH K W (tU c t u) (fK fc f g):=by
 intro ρ σ H δ st fl st' E l rs e q;obtain ⟨a,st1,e1,e⟩:=cn e;refine hc ρ σ H δ st _ _ _ l rs e1 fun x H1 ρ1 m1 l1 r1=>?_;subst r1;cases x with
 |true =>
  refine oo ?_;rw [if_pos rfl] at e;exact hf ρ1 σ H1 δ st1 fl st' E l1 (rs.mn m1) e (q.mn m1)
 |false =>
  refine om ?_;rw [if_neg VD] at e;exact hg ρ1 σ H1 δ st1 fl st' E l1 (rs.mn m1) e (q.mn m1)
theorem SN{c:Str}{fs:List (Str×D)}:aM (.ref st.length) (st ++ [.exc c fs])=true:=by
 simp [aM]
def yX(K:Zfr)(n:Nat)(F:List D->Dm D):Sp:=fun vs H Q E=>vs.length=n/\∃(ρ:List Addr) (st:Store) (ds:List D) (b:D) (st':Store),Rl K ρ H st/\cf K ρ H vs ds/\F ds st=some (b,st') /\
 (aM b st'=true->∀a H' ρ',Mn K ρ H ρ' H'->Rl K ρ' H' st'->Rp K ρ' H' (.ref a) b->E (.ref a) none H')/\(aM b st'=false->∀v H' ρ',Mn K ρ H ρ' H'->Rl K ρ' H' st'->Rp K ρ' H' v b->Q v H')
theorem yZ{N:List Str}{k n:Nat}{t:TS}{b:ai->Dm Fl}{vs:List V}{H:Hp}{Q:VK}{E:XK}(hb:sH K (fun a H'=>E (.ref a) none H') t b)(hn:N.length=n)(h:yX K k (iR n b) vs H Q E):t { nx:=fun _ H'=>Q .non H',rt:=Q } (start N vs) H:=by
 obtain ⟨hk,ρ,st,ds,d,st',l,r,e,q1,q2⟩:=h;subst hn;obtain ⟨fl,st1,e1,e⟩:=cn e;refine hb ρ _ H _ st fl st1 _ l (Rs.start r N) e1 ?_;cases fl with
 |rt v=>cases e;exact ⟨q1,q2⟩
 |nx δ=>cases e;exact fun σ' H' ρ' m l' r'=>q2 rfl .non H' ρ' m l' .non
 |bk δ=>cases e
 |ct δ=>cases e
def Af(K:Zfr)(t:(St->Addr->Hp->Prop)->TS)(f:ai->Dm Fl):Prop :=
 ∀(ρ:List Addr) (σ:St) (H:Hp) (δ:ai) (st:Store) (fl:Fl) (st':Store) (E:Ends) (W:St->Addr->Hp->Prop),Rl K ρ H st->Rs K ρ H σ δ->f δ st=some (fl,st')->Ae K (W σ) ρ H st' E fl->t W E σ H
def catches(sub:Str->Bool)(d:D)(st:Store):Bool:=match d with
 |.ref i=>match st[i]? with
  |some (.exc c _)=>sub c
  |_=>false
 |_=>false
def uI(f:ai->Dm Fl)(sub:Str->Bool)(i:Nat)(fs:ai->Dm Fl):ai->Dm Fl:=fun δ st=>bnd (f δ st) fun fl st1=>match fl with
 | .rt d=>if aM d st1=true then (if catches sub d st1=true then bnd (fs (δ.set i (some d)) st1) (fun IE st2=>match IE with
   |.nx δ2=>some (.nx (δ2.set i none),st2)
   |.rt x=>some (.rt x,st2)
   |_=>none) else none) else some (.rt d,st1)
 |x=>some (x,st1)
theorem Rs.unset{σ:St}{δ:ai}{i:Nat}(h:Rs K ρ H σ δ):Rs K ρ H (σ.set i none) (δ.set i none):=by
 refine ⟨by rw [Wc,Wc];exact h.1,fun j e hj=>?_⟩
 by_cases hij:i=j
 ·subst hij
  have hl:i<δ.length:=by
   have:=(VA.mp hj).1
   rwa [Wc] at this
  rw [VG hl] at hj;cases hj
 ·rw [VF hij] at hj
  obtain ⟨w,hw,rw'⟩:=h.2 j e hj;exact ⟨w,by rw [VF hij];exact hw,rw'⟩
theorem y2{t:(St->Addr->Hp->Prop)->TS}{ts:TS}{f fs:ai->Dm Fl}{sub:Str->Bool}{F:Addr}{i:Nat}(hf:Af K t f)(hs:mP K ts fs)(hsub:∀c C,sub c=true->PySem.W.nsIn K mainGlobals c=some (some (.ref C))->PySem.W.mroIn K C (.ref F)=some true):
  mP K (BF K t F i ts) (uI f sub i fs):=by
 intro ρ σ H δ st fl st' E l rs e q;obtain ⟨x,st1,e1,e⟩:=cn e;refine hf ρ σ H δ st x st1 E _ l rs e1 ?_;cases x with
 |nx δ1=>cases e;exact q
 |bk δ1=>cases e;exact q
 |ct δ1=>cases e;exact q
 |rt d =>
  dsimp only at e;refine ⟨fun hr a H' ρ' m' l' r'=>?_,fun hr=>?_⟩
  ·rw [if_pos hr] at e
   obtain ⟨j,c,gs,rfl,hj⟩:=SJ hr;split at e
   ·next hca =>
    have hc:sub c=true:=by simpa [catches,hj] using hca
    obtain ⟨y,st2,e2,e⟩:=cn e;cases r' with
    |ref wa =>
     obtain ⟨C,dx,tr,hn,ea,_⟩:=l'.obj j a _ wa hj;refine ⟨C,dx,tr,ea,hsub c C hc hn,hs ρ' _ H' _ st1 y st2 _ l' ((rs.mn m').set (.ref wa)) e2 ?_⟩;cases y with
     |nx δ2=>cases e;exact fun σ3 H3 ρ3 m3 l3 r3=>q _ H3 ρ3 (m'.trans m3) l3 r3.unset
     |rt v=>cases e;exact fun v3 H3 ρ3 m3 l3 r3=>q v3 H3 ρ3 (m'.trans m3) l3 r3
     |bk δ2=>cases e
     |ct δ2=>cases e
   ·cases e
  ·rw [hr,if_neg VD] at e
   cases e;exact q
def mx(qW:Str->Option Bool)(f:ai->Dm D):ai->Dm D:=fun δ st=>bnd (f δ st) fun d st1=>match d with
 |.ref i=>match st1[i]? with
  |some (.exc c _)=>match qW c with
   |some b=>some (.bl b,st1)
   |none=>none
  |_=>none
 |_=>none
theorem Ms{dx:Option Addr}{fs:List (Str×D)}(h:Xd K ρ H dx fs):∀d,dx=some d->∃ws,H d=some (.xd ws):=fun d e=>by
 subst e;obtain ⟨ws,e,_⟩:=h;exact ⟨ws,e⟩
theorem Mt{te:TE}{f:ai->Dm D}{v:V}{cv:Value}{qW:Str->Option Bool}(hf:dk K te f)(hv:uk v=some cv)
  (h:∀c C b,qW c=some b->PySem.W.nsIn K mainGlobals c=some (some (.ref C))->ot K C/\PySem.W.kitOne K (.ref C) cv=some b):dk K (A7 (um K) (jI te (jI (tC v) qo))) (mx qW f):=by
 intro ρ σ H δ st b st' Q l rs e q;obtain ⟨d,st1,e1,e⟩:=cn e;refine hf ρ σ H δ st d st1 _ l rs e1 fun x H1 ρ1 m1 l1 r1=>?_;split at e
 ·split at e
  ·next c fs hj =>
   split at e
   ·next b0 hb =>
    cases e;cases r1 with
    |ref wa =>
     obtain ⟨C,dx,tr,hn,ea,hx⟩:=l1.obj _ _ _ wa hj;obtain ⟨ei,k⟩:=h c C b0 hb hn;exact ⟨_,C,dx,tr,v,b0,rfl,ea,Ms hx,ei,.inl ⟨cv,hv,k⟩,q _ H1 ρ1 m1 l1 (.bl b0)⟩
   ·cases e
  ·cases e
 ·cases e
theorem y3{te:TE}{f:ai->Dm D}{Mu:TA}{vs:List V}{cs:List Value}{qW:Str->Option Bool}(hf:dk K te f)(ht:∀σ H Q,Q vs H->Mu σ H Q)(hl:vs.length<=sizeLine)(hv:ou vs=some cs)
  (h:∀c C b,qW c=some b->PySem.W.nsIn K mainGlobals c=some (some (.ref C))->ot K C/\PySem.W.kitAny K (.ref C) cs=some b):dk K (A7 (um K) (jI te (jI (rA Mu) qo))) (mx qW f):=by
 intro ρ σ H δ st b st' Q l rs e q;obtain ⟨d,st1,e1,e⟩:=cn e;refine hf ρ σ H δ st d st1 _ l rs e1 fun x H1 ρ1 m1 l1 r1=>ht σ H1 _ ⟨hl,fun p hp=>?_⟩;have sm:dY H1 (upd H1 p (.tup vs)):=dY.up hp;have m2:Mn K ρ1 H1 ρ1 (upd H1 p (.tup vs)):=Mn.same sm;have l2:=l1.same sm;have r2:=r1.mn m2;split at e
 ·split at e
  ·next c fs hj =>
   split at e
   ·next b0 hb =>
    cases e;cases r2 with
    |ref wa =>
     obtain ⟨C,dx,tr,hn,ea,hx⟩:=l2.obj _ _ _ wa hj;obtain ⟨ei,k⟩:=h c C b0 hb hn;exact ⟨_,C,dx,tr,_,b0,rfl,ea,Ms hx,ei,.inr ⟨p,vs,cs,rfl,kS,hv,k⟩,q _ _ ρ1 (m1.trans m2) l2 (.bl b0)⟩
   ·cases e
  ·cases e
 ·cases e
def my(x:Str)(b:Bool):Str->Option Bool:=fun c=>if c=x then some b else none
def nE(x:Str):Str->Bool:=fun c=>decide (c=x)
theorem IF{x:Str}{C0:Addr}{b0:Bool}{R:Addr->Bool->Prop}(hn:PySem.W.nsIn K mainGlobals x=some (some (.ref C0)))(k:R C0 b0):∀c C b,my x b0 c=some b->PySem.W.nsIn K mainGlobals c=some (some (.ref C))->R C b:=fun c C b h n=>by
 unfold my at h;split at h
 ·next e=>subst e;cases h;rw [hn] at n;cases n;exact k
 ·cases h
theorem SO{x:Str}{C0 F:Addr}(hn:PySem.W.nsIn K mainGlobals x=some (some (.ref C0)))(k:PySem.W.mroIn K C0 (.ref F)=some true):∀c C,nE x c=true->PySem.W.nsIn K mainGlobals c=some (some (.ref C))->PySem.W.mroIn K C (.ref F)=some true:=fun c C h n=>by
 have e:c=x:=of_decide_eq_true h;subst e;rw [hn] at n;cases n;exact k
abbrev Ff:List Value:=[.type "ValueError",.type "Exception",.type "BaseException",.type "object"]
theorem SQ:bootBuiltins "ValueError" = some (.type "ValueError"):=by decide +kernel
def CW(qW:Str->Option Bool)(d:D)(st1:Store)(Q:D->Store->Prop):Prop:=∃i c fs b,d=.ref i/\st1[i]?=some (.exc c fs)/\qW c=some b/\Q (.bl b) st1
theorem y4{x:Str}{b:Bool}{i:Nat}{fs:List (Str×D)}{st:Store}{Q:D->Store->Prop}(hi:st[i]?=some (.exc x fs))(q:Q (.bl b) st):CW (my x b) (.ref i) st Q:=⟨i,x,fs,b,rfl,hi,by unfold my;rw [if_pos rfl],q⟩
theorem Mv{f:ai->Dm D}{δ:ai}{st:Store}{qW:Str->Option Bool}{Q:D->Store->Prop}:Wp (mx qW f δ st) Q↔Wp (f δ st) fun d st1=>CW qW d st1 Q:=by
 constructor
 ·rintro ⟨d,st',e,q⟩
  obtain ⟨x,st1,e1,e⟩:=cn e;refine ⟨x,st1,e1,?_⟩;split at e
  ·split at e
   ·next c fs hj =>
    split at e
    ·next b hb=>cases e;exact ⟨_,c,fs,b,rfl,hj,hb,q⟩
    ·cases e
   ·cases e
  ·cases e
 ·rintro ⟨x,st1,e1,i,c,fs,b,rfl,hj,hb,q⟩
  refine ⟨.bl b,st1,?_,q⟩;unfold mx;rw [e1];simp [bnd,hj,hb]
end
section
variable {st:Store}{δ:ai}{N B C:ai->Store->Prop}{R:D->Store->Prop}{f g:ai->Dm Fl}
theorem uJ(h:Ws (f δ st) N B C (fun d s=>aM d s=false/\R d s)):Ws (qV f δ st) N B C R:=by
 obtain ⟨fl,s1,e,q⟩:=h;unfold qV;rw [e];cases fl with
 |rt d=>refine ⟨.rt d,s1,?_,q.2⟩;simp [bnd,q.1]
 |nx δ1=>exact ⟨.nx δ1,s1,rfl,q⟩
 |bk δ1=>exact ⟨.bk δ1,s1,rfl,q⟩
 |ct δ1=>exact ⟨.ct δ1,s1,rfl,q⟩
theorem y6{sub:Str->Bool}{i:Nat}{fs:ai->Dm Fl}(h:Ws (f δ st) N B C (fun d s=>(aM d s=false->R d s)/\(aM d s=true->catches sub d s=true/\Ws (fs (δ.set i (some d)) s) (fun δ2 s2=>N (δ2.set i none) s2) (fun _ _=>False) (fun _ _=>False) R))):
  Ws (uI f sub i fs δ st) N B C R:=by
 obtain ⟨fl,s1,e,q⟩:=h;unfold uI;rw [e];cases fl with
 |rt d =>
  cases hr:aM d s1 with
  |false=>refine ⟨.rt d,s1,?_,q.1 hr⟩;simp [bnd,hr]
  |true =>
   obtain ⟨hc,IE,s2,e2,q2⟩:=q.2 hr;cases IE with
   |rt x=>refine ⟨.rt x,s2,?_,q2⟩;simp [bnd,hr,hc,e2]
   |nx δ1=>refine ⟨.nx (δ1.set i none),s2,?_,q2⟩;simp [bnd,hr,hc,e2]
   |bk δ1=>exact q2.elim
   |ct δ1=>exact q2.elim
 |nx δ1=>exact ⟨.nx δ1,s1,rfl,q⟩
 |bk δ1=>exact ⟨.bk δ1,s1,rfl,q⟩
 |ct δ1=>exact ⟨.ct δ1,s1,rfl,q⟩
end
section
variable {K:Zfr}{ρ ρ':List Addr}{H H' H2:Hp}{st st':Store}{a:Addr}
theorem SR{a b:Addr}{o u:HO}(n:a≠b):upd (upd H a o) b u=upd (upd H b u) a o:=by
 funext c
 unfold upd
 by_cases c1:c=b
 ·subst c1;rw [if_pos rfl,if_neg (Ne.symm n),if_pos rfl]
 ·rw [if_neg c1]
  by_cases c2:c=a
  ·rw [if_pos c2,if_pos c2]
  ·rw [if_neg c2,if_neg c2,if_neg c1]
theorem Rl.newX{C d:Addr}{c:Str}{fs:List (Str×D)}{ws:List (Str×V)}(l:Rl K ρ H st)(ha:H a=none)(hd:H d=none)(da:d≠a)(hc:PySem.W.nsIn K mainGlobals c=some (some (.ref C)))(hw:∀f e,fs.lookup f=some e->∃v,ws.lookup f=some v/\Rp K ρ H v e):
  Rl K (ρ ++ [a]) (upd (upd H a (XO a C (some d) none)) d (.xd ws)) (st ++ [.exc c fs])/\Mn K ρ H (ρ ++ [a]) (upd (upd H a (XO a C (some d) none)) d (.xd ws)):=by
 rw [SR (Ne.symm da)];have m1:Mn K ρ H ρ (upd H d (.xd ws)):=Mn.same (dY.up hd);have l1:=l.same (dY.up (o:=.xd ws) hd);have ha1:upd H d (.xd ws) a=none:=by rw [di (Ne.symm da)];exact ha
 have m2:Mn K ρ (upd H d (.xd ws)) (ρ ++ [a]) (upd (upd H d (.xd ws)) a (XO a C (some d) none)):=Mn.new ha1;refine ⟨l1.new ha1 ⟨C,some d,none,hc,kS,ws,by rw [di da,kS],fun f e h=>?_⟩,m1.trans m2⟩;obtain ⟨v,h1,h2⟩:=hw f e h;exact ⟨v,h1,h2.mn (m1.trans m2)⟩
def lh(c:Str)(fs:List Str)(fa:ai->Dm (List D)):ai->Dm Fl:=fun δ st=>bnd (fa δ st) fun ds st1=>some (.rt (.ref st1.length),st1 ++ [.exc c (fs.zip ds)])
def oK(sub:Str->Bool)(f:Str)(fa:ai->Dm D):ai->Dm D:=fun δ st=>bnd (fa δ st) fun d st1=>match d with
 |.ref i=>match st1[i]? with
  |some (.exc c fs)=>if sub c=true then (match fs.lookup f with
   |some e=>some (e,st1)
   |none=>none) else none
  |_=>none
 |_=>none
theorem SS{te:TE}{fa:ai->Dm D}{sub:Str->Bool}{f:Str}(ha:dk K te fa)(h:∀c C,sub c=true->PySem.W.nsIn K mainGlobals c=some (some (.ref C))->ot K C/\PySem.W.findIn K (.ref C) f=some none):dk K (Hx K te f) (oK sub f fa):=by
 intro ρ σ H δ st b st' Q l rs e q;obtain ⟨d,st1,e1,e⟩:=cn e;refine ha ρ σ H δ st d st1 _ l rs e1 fun x H1 ρ1 m1 l1 r1=>?_;split at e
 ·split at e
  ·next c fs hj =>
   split at e
   ·next hs =>
    split at e
    ·next e0 he =>
     cases e;cases r1 with
     |ref wa =>
      obtain ⟨C,dx,tr,hn,ea,hx⟩:=l1.obj _ _ _ wa hj;obtain ⟨ei,hf⟩:=h c C hs hn;cases dx with
      |none=>rw [show fs=[] from hx] at he;cases he
      |some dd =>
       obtain ⟨ws,ed,hw⟩:=hx;obtain ⟨v,hv,rv⟩:=hw f _ he;exact ⟨_,C,dd,tr,ws,v,rfl,ea,ed,hv,ei,hf,q v H1 ρ1 m1 l1 rv⟩
    ·cases e
   ·cases e
  ·cases e
 ·cases e
end
section
variable {st:Store}{δ:ai}{N B C:ai->Store->Prop}{R:D->Store->Prop}
theorem SU{c:Str}{fs:List Str}{fa:ai->Dm (List D)}(h:Wp (fa δ st) fun ds s1=>R (.ref s1.length) (s1 ++ [.exc c (fs.zip ds)])):Ws (lh c fs fa δ st) N B C R:=by
 obtain ⟨ds,s1,e,q⟩:=h;exact ⟨_,_,by unfold lh;rw [e];rfl,q⟩
def wb(sub:Str->Bool)(f:Str)(d:D)(st:Store)(Q:D->Store->Prop):Prop:=∃i c fs e,d=.ref i/\st[i]?=some (.exc c fs)/\sub c=true/\fs.lookup f=some e/\Q e st
theorem CY{x f:Str}{i:Nat}{fs:List (Str×D)}{e:D}{Q:D->Store->Prop}(hi:st[i]?=some (.exc x fs))(he:fs.lookup f=some e)(q:Q e st):wb (nE x) f (.ref i) st Q:=⟨i,x,fs,e,rfl,hi,by unfold nE;simp,he,q⟩
theorem SV{sub:Str->Bool}{f:Str}{fa:ai->Dm D}{Q:D->Store->Prop}(h:Wp (fa δ st) fun d s1=>wb sub f d s1 Q):Wp (oK sub f fa δ st) Q:=by
 obtain ⟨d,s1,e,i,c,fs,x,rfl,hi,hs,hl,q⟩:=h;refine ⟨x,s1,?_,q⟩;unfold oK;rw [e];simp [bnd,hi,hs,hl]
end
theorem SW{K:Zfr}{x:Str}{C0:Addr}{R:Addr->Prop}(hn:PySem.W.nsIn K mainGlobals x=some (some (.ref C0)))(k:R C0):∀c C,nE x c=true->PySem.W.nsIn K mainGlobals c=some (some (.ref C))->R C:=fun c C h n=>by
 have e:c=x:=of_decide_eq_true h;subst e;rw [hn] at n;cases n;exact k
end L4
namespace L2
open PySem PySem.Spec
theorem y8{P:Program}{w:World}{X:Cx}:Passes (qN P w) X E0:=by
 rintro pins σ H s e s' I ⟨a,C,dx,H',rfl,os,bare,un,hok,x,h⟩;exact (h H' (XS.refl x)).elim
end L2
namespace L4
open PySem PySem.Spec L2
def CZ(F:List D->Dm D):List D->Dm D:=fun as st=>bnd (F as st) fun b st2=>if aM b st2=true then none else some (b,st2)
section
variable {st:Store}{Q:D->Store->Prop}
theorem y9{F:List D->Dm D}{as:List D}:Wp (CZ F as st) Q↔Wp (F as st) fun b st2=>aM b st2=false/\Q b st2:=by
 unfold CZ;rw [cU];constructor
 ·rintro ⟨b,st2,e,h⟩
  refine ⟨b,st2,e,?_⟩
  by_cases hr:aM b st2=true
  ·rw [if_pos hr] at h;exact (fJ.mp h).elim
  ·rw [if_neg hr,bh] at h;exact ⟨by simpa using hr,h⟩
 ·rintro ⟨b,st2,e,hr,h⟩
  refine ⟨b,st2,e,?_⟩;show Wp (if aM b st2=true then none else some (b,st2)) Q;rw [hr,if_neg VD,bh];exact h
end
section
variable {K:Zfr}{W:Addr->Hp->Prop}
theorem SX{tc:TT}{tb:TS}{c:ai->Dm Bool}{b:ai->Dm Fl}(hc:p9 K tc c)(hb:sH K W tb b):sH K W (pb tc tb) (gZ c b):=by
 intro ρ σ H δ st fl st' E l rs e q;refine ⟨fun m σ1 H1=>∃ρ1 δ1 st1,Mn K ρ H ρ1 H1/\Rl K ρ1 H1 st1/\Rs K ρ1 H1 σ1 δ1/\cZ c b m δ1 st1=some (fl,st'),⟨fuel,ρ,δ,st,.refl,l,rs,e⟩,?_⟩;rintro m σ1 H1 ⟨ρ1,δ1,st1,m1,l1,qS,e1⟩;cases m with
 |zero=>cases e1
 |succ m =>
  obtain ⟨t,st2,e2,e1⟩:=cn e1;refine hc ρ1 σ1 H1 δ1 st1 _ _ _ l1 qS e2 fun x H2 ρ2 m2 l2 r2=>?_;subst r2;cases x with
  |true =>
   refine oo ?_;rw [if_pos rfl] at e1;obtain ⟨f2,st3,e3,e1⟩:=cn e1;refine ⟨fun σ3 H3=>∃m',m' < m+1/\∃ρ1 δ1 st1,Mn K ρ H ρ1 H3/\Rl K ρ1 H3 st1/\Rs K ρ1 H3 σ3 δ1/\cZ c b m' δ1 st1=some (fl,st'),fun _ _ h=>h,hb ρ2 σ1 H2 δ1 st2 f2 st3 _ l2 (qS.mn m2) e3 ?_⟩;cases f2 with
   |nx δ3=>exact fun σ3 H3 ρ3 m3 l3 r3=>⟨m,Wu m,ρ3,δ3,st3,(m1.trans m2).trans m3,l3,r3,e1⟩
   |ct δ3=>exact fun σ3 H3 ρ3 m3 l3 r3=>⟨m,Wu m,ρ3,δ3,st3,(m1.trans m2).trans m3,l3,r3,e1⟩
   |bk δ3=>cases e1;exact Go.mn (fl:=.nx δ3) q (m1.trans m2)
   |rt d=>cases e1;exact Ae.mn q (m1.trans m2)
  |false =>
   refine om ?_;rw [if_neg VD] at e1;cases e1;exact Go.mn (fl:=.nx δ1) q (m1.trans m2) σ1 H2 ρ2 .refl l2 (qS.mn m2)
end
section
variable {K:Zfr}
theorem SY{C:Addr}{c f1:Str}{E0:XK}{ta:TA}{fa:ai->Dm (List D)}(ha:o6 K ta fa)(hn:∀δ st as st',fa δ st=some (as,st')->as.length=1)(hc:PySem.W.nsIn K mainGlobals c=some (some (.ref C)))(es:tw K C)
  (t1:PySem.W.takerIn K C f1=some none) (hm:PySem.W.mroIn K C (.type "BaseException")=some true) (ht:PySem.W.typeIn K (.ref C)=some (.type "type")) :
  sH K (fun a H'=>E0 (.ref a) none H') (pV K (rT C (rV K f1) ta) E0) (lh c [f1] fa):=by
 intro ρ σ H δ st fl st' E l rs e q;obtain ⟨ds,st1,e1,e⟩:=cn e;cases e;refine ha ρ σ H δ st ds st1 _ l rs e1 fun vs H1 ρ1 m1 l1 r1=>?_;have hl:=hn _ _ _ _ e1;have hv:vs.length=1:=by rw [r1.length];exact hl
 match vs,ds,r1,hl,hv with
 |[v1],[d1],.cons a1 .nil,_,_ =>
  refine ⟨(show 1<=10 by decide),fun a hna=>⟨a,C,none,v1,rfl,kS,es,t1,fun d hd da=>⟨rfl,a,C,some d,rfl,?_,hm,ht,fun H2 y=>?_⟩⟩⟩
  ·rw [di (Ne.symm da),kS]
  ·have hd1:H1 d=none:=by rw [di da] at hd;exact hd
   rw [Nq] at y;obtain ⟨l2,m2⟩:=l1.newX (c:=c) (C:=C) (fs:=[(f1,d1)]) (ws:=[(f1,v1)]) hna hd1 da hc fun f e h=>by
    simp only [Wx,List.lookup_nil] at h ⊢
    by_cases z1:(f == f1)=true
    ·rw [z1] at h;cases h;rw [z1];exact ⟨v1,rfl,a1⟩
    ·have z1:(f == f1)=false:=by simpa using z1
     rw [z1] at h;cases h
   exact q.1 SN a H2 (ρ1 ++ [a]) ((m1.trans m2).trans (Mn.xs y)) (l2.xs y) (.ref (newR l1))
end
def dD:D->List D->Dm D
 |.ref k,[a],st=>match fH st 20 a,(items st k).bind (bZ (fH st 19)) with
  |some dx,some ds=>match ds.findIdx? fun d=>PyData.eqv d dx with
   |some j=>if dx.canLay0 && ds.all PyData.canLay0 && decide (dx.depth<=60) && decide (ds.length<=1000) then some (.int (j:Int),st) else none
   |none=>none
  |_,_=>none
 |_,_,_=>none
section
variable {K:Zfr}
theorem Mw:vK K "list" (pW K) dD:=by
 intro ρ H st x xs a as b st' Q l rx sr e q;unfold dD at e;split at e
 ·split at e
  ·next dx ds h1 h2 =>
   split at e
   ·next j hj =>
    split at e
    ·next ok =>
     cases e;rw [VS,VS,VS,decide_eq_true_eq,decide_eq_true_eq,WY] at ok;obtain ⟨es,h3,h4⟩:=Wt.mp h2;obtain ⟨y,rfl,r⟩:=sr.one';cases rx with
     |ref hi =>
      obtain ⟨vs,s,rr⟩:=l.items hi h3;obtain ⟨hjl,hj1,hj2⟩:=WT.mp hj
      exact ⟨_,vs,ds,y,dx,j,rfl,rfl,s,Fc l 19 rr h4,xW l 20 r h1,ok.1.1.2,ok.1.1.1,ok.1.2,ok.2,⟨_,VB hjl,hj1⟩,fun i d hij hd=>by
       obtain ⟨hil,rfl⟩:=VA.mp hd
       simpa using hj2 i hij,q _ H ρ .refl l (.int _)⟩
    ·cases e
   ·cases e
  ·cases e
 ·cases e
end
theorem Mx{st:Store}{Q:D->Store->Prop}{n k j:Nat}{a:D}{es:List D}(ha:pU n a)(hc:items st k=some es)(he:∀e∈es,pU n e)(hn:n<=15)(hl:es.length<=1000)(hj:es[j]?=some a)(hno:∀i e,i<j->es[i]?=some e->e≠a):Wp (dD (.ref k) [a] st) Q↔Q (.int (j:Int)) st:=by
 have h1:=sG n a ha 20 (by omega) st;have h2:bZ (fH st 19) es=some (es.map (cu n)):=CT fun x hx=>sG n x (he x hx) 19 (by omega) st;obtain ⟨hjl,S0⟩:=VA.mp hj;have hf:(es.map (cu n)).findIdx? (fun d=>PyData.eqv d (cu n a))=some j:=by
  refine WT.mpr ⟨by simpa using hjl,?_,fun i hij=>?_⟩
  ·rw [List.getElem_map,S0]
   exact (Ad n a a ha ha).mpr rfl
  ·have hil:i<es.length:=by omega
   rw [List.getElem_map];have hm:es[i]∈es:=List.getElem_mem hil;intro h;exact hno i es[i] hij (VB hil) ((Ad n es[i] a (he _ hm) ha).mp h)
 have l1:=qU n a ha;have l2:(es.map (cu n)).all PyData.canLay0=true:=by
  rw [WY];intro d hd;obtain ⟨x,hx,rfl⟩:=VO.mp hd;exact (qU n x (he x hx)).1
 have e:dD (.ref k) [a] st=some (.int (j:Int),st):=by
  unfold dD;simp only [h1,hc,Wv,h2,hf,l1.1,l2,Bool.true_and,Vz,decide_eq_true_eq,VS];rw [if_pos ⟨by omega,hl⟩]
 rw [e,bh]
def uK:D->List D->Dm D
 |.ref i,[],st=>match own st i with
  |some xs=>match xs[xs.length-1]? with
   |some y=>some (y,st.set i (.lst xs.dropLast))
   |none=>none
  |none=>none
 |_,_,_=>none
section
variable {K:Zfr}
theorem za:vK K "list" Be uK:=by
 intro ρ H st x xs a as b st' Q l rx sr e q;unfold uK at e;split at e
 ·split at e
  ·next ys hy =>
   split at e
   ·next y hl =>
    cases e;cases sr;cases rx with
    |ref hi =>
     obtain ⟨vs,e1,r1⟩:=l.obj _ _ _ hi (qQ hy);obtain ⟨v,hv,rv⟩:=r1.got hl;have hlen:=r1.length;have r2:cf K ρ H vs.dropLast ys.dropLast:=by
      rw [List.dropLast_eq_take,List.dropLast_eq_take,hlen];exact r1.take _
     obtain ⟨l2,m2⟩:=l.putL hi (qQ hy) r2;exact ⟨_,vs,v,rfl,rfl,e1,by rw [hlen];exact hv,q _ _ ρ m2 l2 (rv.mn m2)⟩
   ·cases e
  ·cases e
 ·cases e
end
section
variable {st:Store}{Q:D->Store->Prop}{i:Nat}
theorem zb{xs:List D}{y:D}(h:own st i=some (xs ++ [y])):Wp (uK (.ref i) [] st) Q↔Q y (st.set i (.lst xs)):=by
 have e:(xs ++ [y])[(xs ++ [y]).length-1]?=some y:=by simp
 have e2:(xs ++ [y]).dropLast=xs:=by simp
 show Wp (match own st i with|some xs=>(match xs[xs.length-1]? with|some y=>some (y,st.set i (O.lst xs.dropLast))|none=>none)|none=>none) Q↔_;rw [h];dsimp only;rw [e,e2];exact bh
end
end L4
namespace ae
abbrev CS:=List aV×List (List Sp)×List (Nat×Nat)
def aO(n:Nat)(fs:List aV)(ws:List (List Sp))(k:Nat)(s:Sp):List aV×List (List Sp)×Nat :=
 if cT n (stM (fs.getD k ([],[])) s)∈fs then (fs,ws,fs.idxOf (cT n (stM (fs.getD k ([],[])) s))) else (fs ++ [cT n (stM (fs.getD k ([],[])) s)],ws ++ [(jr (ws.getD k [] ++ [s])).reverse],fs.length)
def jX(n:Nat)(c:CS):List aV×List (List Sp)×Nat:=aO n c.1 c.2.1 c.2.2.length (true,1)
def i9(n:Nat)(c:CS):List aV×List (List Sp)×Nat:=aO n (jX n c).1 (jX n c).2.1 c.2.2.length (false,1)
def IG(n:Nat)(c:CS):CS:=((i9 n c).1,(i9 n c).2.1,c.2.2 ++ [((jX n c).2.2,(i9 n c).2.2)])
def ch(n:Nat)(p:aV):Nat->CS
 |0=>([cT n p],[[]],[])
 |i+1=>IG n (ch n p i)
structure GR(n:Nat)(p:aV)(fs:List aV)(ws:List (List Sp)):Prop where
 nd:fs.Nodup
 own:∀q∈fs,Wh n q/\cT n q=q
 wl:ws.length=fs.length
 hd:fs[0]?=some (cT n p)
 wd:∀(k:Nat) (w:List Sp),ws[k]?=some w->Pl w.reverse/\w.length<=k/\(∀s∈w,s.2.natAbs<=k+3)/\∃q,fs[k]?=some q/\bH n (oA p w) q
def S1(n:Nat)(fs:List aV)(ls:List (Nat×Nat)):Prop:=∀(k:Nat) (l:Nat×Nat),ls[k]?=some l->∃p,fs[k]?=some p/\fs[l.1]?=some (cT n (stM p (true,1)))/\fs[l.2]?=some (cT n (stM p (false,1)))
structure GC(n:Nat)(p:aV)(c:CS)(i:Nat):Prop where
 r:GR n p c.1 c.2.1
 ll:c.2.2.length=i
 le:i<=c.1.length
 ld:S1 n c.1 c.2.2
section
variable {n:Nat}{p:aV}
theorem GR.few{fs:List aV}{ws:List (List Sp)}(g:GR n p fs ws):0<fs.length:=(VA.mp g.hd).1
theorem Mz(w:Wh n p)(n0:0<n):Wh n (cT n p)/\cT n (cT n p)=cT n p/\bH n p (cT n p):=by
 obtain ⟨s,s0,s1,e⟩:=B8 p n0;have tb:=w.bf s0 s1;have a:bH n p (cT n p):=⟨inv (bf p.1 p.2 s n),tb.av,by rw [e,EN w.v.1 tb,EN w.v.2 tb];rfl⟩;have wq:Wh n (cT n p):=by
  obtain ⟨g,tg,eq⟩:=a;have:=uF (xs:=p.1) (ys:=p.2) ⟨w.v.1,w.v.2,w.all⟩ tg n0;rw [eq];exact ⟨⟨this.1,this.2.1⟩,this.2.2⟩
 exact ⟨wq,(QS n0 w.v a).symm,a⟩
theorem S2{fs:List aV}{q:aV}(h:q∈fs):fs[fs.idxOf q]?=some q:=by
 have hl:=List.idxOf_lt_length_of_mem h;rw [VB hl,List.getElem_idxOf]
theorem S3{w:List Sp}{k:Nat}{s:Sp}(hp:Pl w.reverse)(hn:∀a∈w,a.2.natAbs<=k+3)(hs:s=(true,1)\/s=(false,1)):Pl (jr (w ++ [s]))/\∀a∈(jr (w ++ [s])),a.2.natAbs<=k+1+3:=by
 have ps:iQ s:=by rcases hs with rfl|rfl<;>exact ⟨fun _=>by decide,by decide⟩
 have ew:jr w=w.reverse:=by
  have:=Pl.mJ hp
  rwa [List.reverse_reverse] at this
 have e:jr (w ++ [s])=bK w.reverse s:=by
  rw [HG,ew];rfl
 rw [e];refine ⟨hp.push ps,fun a ha=>?_⟩;have s1:s.2.natAbs<=1:=by rcases hs with rfl|rfl<;>decide
 exact Qx (M:=k+3) (B:=1) (fun x hx=>hn x (WW.mp hx)) s1 ps hp a ha
theorem tP{fs:List aV}{ws:List (List Sp)}{k:Nat}{s:Sp}(n0:0<n)(g:GR n p fs ws)(vp:Vf n p)(hk:k<fs.length)(hs:s=(true,1)\/s=(false,1)):
  GR n p (aO n fs ws k s).1 (aO n fs ws k s).2.1/\(∀(i:Nat) (q:aV),fs[i]?=some q->(aO n fs ws k s).1[i]?=some q)/\fs.length<=(aO n fs ws k s).1.length/\(aO n fs ws k s).1.length<=fs.length+1/\∃q,fs[k]?=some q/\(aO n fs ws k s).1[(aO n fs ws k s).2.2]?=some (cT n (stM q s)):=by
 have ek:fs[k]?=some (fs.getD k ([],[])):=by rw [VU,VB hk];rfl
 generalize hq:fs.getD k ([],[])=q at ek;obtain ⟨wq,oq⟩:=g.own q (VI ek);have C1:=wq.st n0 s;obtain ⟨wF,oF,aF⟩:=Mz C1 n0;unfold aO;rw [hq]
 by_cases hm:cT n (stM q s)∈fs
 ·rw [if_pos hm]
  exact ⟨g,fun _ _ h=>h,VC _,Nat.le_succ _,q,ek,S2 hm⟩
 ·rw [if_neg hm]
  have S4:k<ws.length:=by rw [g.wl];exact hk
  have ew:ws[k]?=some (ws.getD k []):=by rw [VU,VB S4];rfl
  generalize ws.getD k []=w at ew;obtain ⟨pw,lw,nw,q',eq',aw⟩:=g.wd k w ew;rw [ek] at eq';cases eq';obtain ⟨pl,nl⟩:=S3 (k:=k) pw nw hs;refine ⟨⟨List.nodup_append.mpr ⟨g.nd,by simp,fun x hx y hy e=>hm (by rw [<- VY.mp hy,<- e];exact hx)⟩,fun q' hq'=>?_,by rw [VE,VE,g.wl];rfl,by rw [VM g.few];exact g.hd,fun i v hv=>?_⟩,fun i q' h=>by rw [VM (VA.mp h).1];exact h,by rw [VE];omega,by rw [VE];exact VC _,q,ek,?_⟩
  ·rcases V9.mp hq' with h|h
   ·exact g.own q' h
   ·rw [VY.mp h];exact ⟨wF,oF⟩
  ·by_cases hi:i<ws.length
   ·rw [VM hi] at hv
    obtain ⟨a1,a2,a3,q',b1,b2⟩:=g.wd i v hv;exact ⟨a1,a2,a3,q',by rw [VM (VA.mp b1).1];exact b1,b2⟩
   ·have hi2:i=ws.length:=by
     have:=(VA.mp hv).1;rw [VE] at this;have:i<ws.length+1:=this;omega
    subst hi2;rw [VX (VC _),WJ] at hv;cases (show some _=some v from hv);refine ⟨by rw [List.reverse_reverse];exact pl,?_,fun a ha=>?_,cT n (stM q s),?_,?_⟩
    ·rw [List.length_reverse]
     have:=HI (w ++ [s]);rw [VE] at this;have:(jr (w ++ [s])).length<=w.length+1:=this;omega
    ·have:=nl a (WW.mp ha)
     omega
    ·rw [g.wl,VX (VC _),WJ];rfl
    ·have ck:∀ a∈w ++ [s],iQ a:=fun a ha=>by
      rcases V9.mp ha with h|h
      ·exact Pl.pr pw a (WW.mpr h)
      ·rw [VY.mp h]
       rcases hs with rfl|rfl<;>exact ⟨fun _=>by decide,by decide⟩
     have e1:bX (jr (w ++ [s])).reverse=bX (w ++ [s]):=Li ck;have pp:∀a∈(jr (w ++ [s])).reverse,iQ a:=fun a ha=>Pl.pr pl a (WW.mp ha);have a1:=QR pp ck e1 vp;have a2:bH n (oA p (w ++ [s])) (stM q s):=by
      rw [HV];exact bH.st vp.ld aw s
     exact bH.trans vp.ld (bH.trans vp.ld a1 a2) aF
  ·rw [VX (VC _),WJ];rfl
theorem C2(n0:0<n)(w:Wh n p):∀i:Nat,(∀j,j<i->j<(ch n p j).1.length)->GC n p (ch n p i) i
 |0,_=>by
  obtain ⟨wF,oF,aF⟩:=Mz w n0
  exact ⟨⟨by show [cT n p].Nodup;simp,fun q hq=>by rw [VY.mp hq];exact ⟨wF,oF⟩,rfl,rfl,fun k v hv=>by
   cases k with
   |zero =>
    cases (show some []=some v from hv);exact ⟨trivial,VC _,(fun s hs=>nomatch hs),_,rfl,aF⟩
   |succ k=>cases (show none=some v from hv)⟩,rfl,Wd _,fun k l hl=>nomatch hl⟩
 |i+1,h=>by
  have g:=C2 n0 w i fun j hj=>h j (by omega);have hi:=h i (by omega);have l6:=g.ll;have vp:=w.v;have r1:=tP (s:=(true,1)) n0 g.r vp (k:=(ch n p i).2.2.length) (by omega) (.inl rfl);have r2:=tP (s:=(false,1)) n0 r1.1 vp (k:=(ch n p i).2.2.length) (by have:=r1.2.2.1;omega) (.inr rfl);refine ⟨r2.1,by show ((ch n p i).2.2 ++ [_]).length=i+1;rw [VE,l6];rfl,?_,fun k l hl=>?_⟩
  ·have a:=r1.2.2.1
   have b:=r2.2.2.1;show i+1<=(i9 n (ch n p i)).1.length;unfold i9 jX;omega
  ·have hl:((ch n p i).2.2 ++ [((jX n (ch n p i)).2.2,(i9 n (ch n p i)).2.2)])[k]?=some l:=hl
   by_cases hk:k<(ch n p i).2.2.length
   ·rw [VM hk] at hl
    obtain ⟨q,b1,b2,b3⟩:=g.ld k l hl;exact ⟨q,r2.2.1 _ _ (r1.2.1 _ _ b1),r2.2.1 _ _ (r1.2.1 _ _ b2),r2.2.1 _ _ (r1.2.1 _ _ b3)⟩
   ·have hk2:k=(ch n p i).2.2.length:=by
     have:=(VA.mp hl).1;rw [VE] at this;have:k<(ch n p i).2.2.length+1:=this;omega
    subst hk2;rw [VX (VC _),WJ] at hl;cases (show some _=some l from hl);obtain ⟨q1,c1,c2⟩:=r1.2.2.2.2;obtain ⟨q2,d1,d2⟩:=r2.2.2.2.2;have:q2=q1:=by
     have:=r1.2.1 _ _ c1;rw [d1] at this;exact VJ this
    subst this;exact ⟨q2,r2.2.1 _ _ d1,r2.2.1 _ _ c2,d2⟩
structure Full(n:Nat)(p:aV)(c:CS)(N:Nat):Prop extends GC n p c N where
 fl:c.1.length=N
end
end ae
namespace ae
end ae
namespace ae
end ae
namespace L4
open PySem PySem.Spec L2
section
variable {K:Zfr}
theorem S5{n m:Nat}{F:List D->Dm D}{ta:TA}{fa:ai->Dm (List D)}{jT:List V}{uL:List D}(ha:o6 K ta fa)(hn:∀δ st as st',fa δ st=some (as,st')->as.length=m)(hm:m+jT.length=n)(hd:∀ρ H,cf K ρ H jT uL):dk K (oj (yX K n F) jT E0 ta) (aN (fun as=>CZ F (as ++ uL)) fa):=by
 intro ρ σ H δ st b st' Q l rs e q;obtain ⟨as,st1,e1,e⟩:=cn e;obtain ⟨c,st2,e2,e⟩:=cn e
 by_cases hr:aM c st2=true
 ·rw [if_pos hr] at e;cases e
 ·rw [if_neg hr] at e
  cases e;refine ha ρ σ H δ st as st1 _ l rs e1 fun vs H1 ρ1 m1 l1 r1=>⟨?_,ρ1,st1,as ++ uL,b,st',l1,?_,e2,fun h=>absurd h hr,fun _ v H3 ρ3 m3 l3 r3=>?_⟩
  ·rw [VE,r1.length,hn _ _ _ _ e1];exact hm
  ·exact r1.append (hd _ _)
  ·exact q v H3 ρ3 (m1.trans m3) l3 r3
end
section
variable {K:Zfr}
def kI(d:D)(F:List D->Dm D)(fa:ai->Dm (List D))(i:Nat):ai->Dm Fl:=fun δ st=>bnd (fa δ st) fun as st1=>bnd (F as st1) fun b st2=>if aM b st2=true then some (.rt b,st2) else some (.nx (δ.set i (some (.tup [d,b]))),st2)
theorem S6{n m i:Nat}{v0:V}{d:D}{F:List D->Dm D}{ta:TA}{fa:ai->Dm (List D)}{jT:List V}{uL:List D}(hv:∀ρ H,Rp K ρ H v0 d)(ha:o6 K ta fa)(hn:∀δ st as st',fa δ st=some (as,st')->as.length=m)(hm:m+jT.length=n)(hd:∀ρ H,cf K ρ H jT uL):
  Af K (fun W=>qj (rA (jI (tC v0) (jI (pX (yX K n F) jT W ta) qo))) (lD i)) (kI d (fun as=>F (as ++ uL)) fa i):=by
 intro ρ σ H δ st fl st' E W l rs e q;obtain ⟨as,st1,e1,e⟩:=cn e;obtain ⟨b,st2,e2,e⟩:=cn e;refine ha ρ σ H δ st as st1 _ l rs e1 fun vs H1 ρ1 m1 l1 r1=>⟨by rw [VE,r1.length,hn _ _ _ _ e1];exact hm,ρ1,st1,as ++ uL,b,st2,l1,r1.append (hd _ _),e2,fun hr a H3 ρ3 m3 l3 r3=>?_,fun hr v H3 ρ3 m3 l3 r3=>?_⟩
 ·rw [if_pos hr] at e
  cases e;exact ⟨a,rfl,q.1 hr a H3 ρ3 (m1.trans m3) l3 r3⟩
 ·rw [hr,if_neg VD] at e
  cases e;refine ⟨by show 2<=sizeLine;decide,fun p hp=>?_⟩;have m4:Mn K ρ3 H3 ρ3 (upd H3 p (.tup [v0,v])):=Mn.same (dY.up hp);exact q _ _ ρ3 ((m1.trans m3).trans m4) (l3.same (dY.up hp)) ((rs.mn ((m1.trans m3).trans m4)).set (.tup (eu.of kS) (.cons (hv _ _) (.cons (r3.mn m4) .nil))))
theorem S7{n i:Nat}{v0:V}{d:D}{F:List D->Dm D}{ta:TA}{fa:ai->Dm (List D)}(hv:∀ρ H,Rp K ρ H v0 d)(ha:o6 K ta fa)(hn:∀δ st as st',fa δ st=some (as,st')->as.length=n):
  Af K (fun W=>qj (rA (jI (tC v0) (jI (rS (yX K n F) W ta) qo))) (lD i)) (kI d F fa i):=by
 intro ρ σ H δ st fl st' E W l rs e q;obtain ⟨as,st1,e1,e⟩:=cn e;obtain ⟨b,st2,e2,e⟩:=cn e;refine ha ρ σ H δ st as st1 _ l rs e1 fun vs H1 ρ1 m1 l1 r1=>⟨by rw [r1.length];exact hn _ _ _ _ e1,ρ1,st1,as,b,st2,l1,r1,e2,fun hr a H3 ρ3 m3 l3 r3=>?_,fun hr v H3 ρ3 m3 l3 r3=>?_⟩
 ·rw [if_pos hr] at e
  cases e;exact ⟨a,rfl,q.1 hr a H3 ρ3 (m1.trans m3) l3 r3⟩
 ·rw [hr,if_neg VD] at e
  cases e;refine ⟨by show 2<=sizeLine;decide,fun p hp=>?_⟩;have m4:Mn K ρ3 H3 ρ3 (upd H3 p (.tup [v0,v])):=Mn.same (dY.up hp);exact q _ _ ρ3 ((m1.trans m3).trans m4) (l3.same (dY.up hp)) ((rs.mn ((m1.trans m3).trans m4)).set (.tup (eu.of kS) (.cons (hv _ _) (.cons (r3.mn m4) .nil))))
theorem zc{c:TT}{t u:(St->Addr->Hp->Prop)->TS}{fc:ai->Dm Bool}{f g:ai->Dm Fl}(hc:p9 K c fc)(hf:Af K t f)(hg:Af K u g):Af K (fun W=>tU c (t W) (u W)) (fK fc f g):=by
 intro ρ σ H δ st fl st' E W l rs e q;obtain ⟨a,st1,e1,e⟩:=cn e;refine hc ρ σ H δ st _ _ _ l rs e1 fun x H1 ρ1 m1 l1 r1=>?_;subst r1;cases x with
 |true =>
  refine oo ?_;rw [if_pos rfl] at e;exact hf ρ1 σ H1 δ st1 _ _ _ W l1 (rs.mn m1) e (q.mn m1)
 |false =>
  refine om ?_;rw [if_neg VD] at e;exact hg ρ1 σ H1 δ st1 _ _ _ W l1 (rs.mn m1) e (q.mn m1)
def oM(fa fb:ai->Dm D):ai->Dm D:=fun δ st=>bnd (fa δ st) fun x st1=>match x with
 |.non=>fb δ st1
 |.int k=>if k=0 then fb δ st1 else some (.int k,st1)
 |_=>none
theorem MA{ta tb:TE}{fa fb:ai->Dm D}(ha:dk K ta fa)(hb:dk K tb fb):dk K (BJ ta tb) (oM fa fb):=by
 intro ρ σ H δ st b st' Q l rs e q;obtain ⟨x,st1,e1,e⟩:=cn e;refine ha ρ σ H δ st x st1 _ l rs e1 fun y H1 ρ1 m1 l1 r1=>?_;cases x with
 |non =>
  cases r1;exact .inl ⟨rfl,hb ρ1 σ H1 δ st1 b st' Q l1 (rs.mn m1) e fun v H3 ρ3 m3 l3 r3=>q v H3 ρ3 (m1.trans m3) l3 r3⟩
 |int k =>
  cases r1;refine .inr ⟨k,rfl,?_⟩
  by_cases z:k=0
  ·rw [if_pos z]
   simp only [z,if_true] at e;exact hb ρ1 σ H1 δ st1 b st' Q l1 (rs.mn m1) e fun v H3 ρ3 m3 l3 r3=>q v H3 ρ3 (m1.trans m3) l3 r3
  ·rw [if_neg z]
   simp only [z,if_false] at e;cases e;exact q _ H1 ρ1 m1 l1 (.int _)
 |bl _=>cases e
 |str _=>cases e
 |tup _=>cases e
 |ref _=>cases e
 |ty _=>cases e
end
section
variable {st:Store}{δ:ai}{N B C:ai->Store->Prop}{R:D->Store->Prop}{Q:D->Store->Prop}
theorem MB{d:D}{i:Nat}{F:List D->Dm D}{fa:ai->Dm (List D)}(h:Wp (fa δ st) fun as s1=>Wp (F as s1) fun b s2=>(aM b s2=true->R b s2)/\(aM b s2=false->N (δ.set i (some (.tup [d,b]))) s2)):Ws (kI d F fa i δ st) N B C R:=by
 obtain ⟨as,s1,e,b,s2,e2,q⟩:=h;unfold kI;rw [e];show Ws (bnd (F as s1) _) N B C R;rw [e2]
 by_cases hr:aM b s2=true
 ·refine ⟨.rt b,s2,?_,q.1 hr⟩
  simp only [bnd,hr,if_true]
 ·have hr':aM b s2=false:=by simpa using hr
  refine ⟨.nx _,s2,?_,q.2 hr'⟩;simp only [bnd,hr',Wr,if_false]
theorem zd{fa fb:ai->Dm D}(h:Wp (fa δ st) fun x s1=>(x=.non/\Wp (fb δ s1) Q)\/∃k:Int,x=.int k/\k≠0/\Q (.int k) s1):Wp (oM fa fb δ st) Q:=by
 obtain ⟨x,s1,e,q⟩:=h;unfold oM;rw [e];show Wp (match x with|.non=>fb δ s1|.int k=>if k=0 then fb δ s1 else some (.int k,s1)|_=>none) Q;rcases q with ⟨rfl,q⟩|⟨k,rfl,z,q⟩
 ·exact q
 ·simp only [z,if_false]
  exact ⟨_,_,rfl,q⟩
end
def C3(i:Int):Prop:=i.natAbs.log2<1920
def pH:Nat->D->Prop
 |_,.int i=>C3 i
 |_,.non=>True
 |_,.str x=>PyData.showable (.str x)=true/\PyData.canLay0 (.str x)=true
 |n+1,.tup ds=>∀d∈ds,pH n d
 |_,_=>False
theorem MC:∀{l:List PyData},(∀x∈l,PyData.showable x=true)->PyData.showableAll l=true
 |[],_=>rfl
 |a :: r,h=>by
  show (PyData.showable a && PyData.showableAll r)=true;rw [h a VN,MC fun x hx=>h x (VL _ hx)];rfl
theorem MD:∀{l:List PyData},(∀x∈l,qv x=true)->qw l=true
 |[],_=>rfl
 |a :: r,h=>by
  show (qv a && qw r)=true;rw [h a VN,MD fun x hx=>h x (VL _ hx)];rfl
theorem ME{b:Nat}:∀{l:List PyData},(∀x∈l,L2.wD x<=b)->ma l<=l.length*(b+2)
 |[],_=>Wd _
 |a :: r,h=>by
  show L2.wD a+2+ma r<=(r.length+1)*(b+2);have h1:=h a VN;have h2:=ME fun x hx=>h x (VL _ hx);rw [Nat.add_mul];omega
theorem IH:∀(n:Nat) (d:D),pH n d->pU n d
 |n,.int _,_=>by cases n<;>exact True.intro
 |n,.non,_=>by cases n<;>exact True.intro
 |n,.str x,h=>by cases n<;>exact h.2
 |n+1,.tup ds,h=>fun d hd=>IH n d (h d hd)
 |0,.tup ds,h=>h.elim
 |n,.bl _,h=>by cases n<;>exact h.elim
 |n,.ref _,h=>by cases n<;>exact h.elim
 |n,.ty _,h=>by cases n<;>exact h.elim
theorem MF:∀(n:Nat) (d:D),pH n d->(cu n d).showable=true/\qv (cu n d)=true
 |n,.int i,h=>by
  have h:C3 i:=by cases n<;>exact h
  have e:cu n (.int i)=.int i:=by cases n<;>rfl
  rw [e];exact ⟨by simp only [PyData.showable,decide_eq_true_eq];exact h,by simp only [qv]⟩
 |n,.non,_=>by
  have e:cu n .non=.none:=by cases n<;>rfl
  rw [e];exact ⟨by simp only [PyData.showable],by simp only [qv]⟩
 |n,.str x,h=>by
  have h:PyData.showable (.str x)=true/\PyData.canLay0 (.str x)=true:=by cases n<;>exact h
  have e:cu n (.str x)=.str x:=by cases n<;>rfl
  rw [e];exact ⟨h.1,by simp only [qv]⟩
 |n+1,.tup ds,h=>by
  have e:cu (n+1) (.tup ds)=.tuple (ds.map (cu n)):=rfl;rw [e];have all:∀x∈ds.map (cu n),x.showable=true/\qv x=true:=fun x hx=>by
   obtain ⟨d,hd,rfl⟩:=VO.mp hx;exact MF n d (h d hd)
  refine ⟨?_,?_⟩
  ·simp only [PyData.showable];exact MC fun x hx=>(all x hx).1
  ·simp only [qv];exact MD fun x hx=>(all x hx).2
 |0,.tup ds,h=>h.elim
 |n,.bl _,h=>by cases n<;>exact h.elim
 |n,.ref _,h=>by cases n<;>exact h.elim
 |n,.ty _,h=>by cases n<;>exact h.elim
theorem MG{st:Store}{Q:D->Store->Prop}{n:Nat}{d:D}(h:pH n d)(hn:n<=15)(hw:L2.wD (cu n d)<=16777216):Wp (jM [d] st) Q↔Q (.str (cu n d).shown) st:=by
 have a:=MF n d h;have p:=IH n d h;have l:=qU n d p;have e:=sG n d p 20 (by omega) st;rw [RW];constructor
 ·rintro ⟨q,h1,_,h2⟩
  rw [e] at h1;cases h1;exact h2
 ·intro q
  exact ⟨_,e,⟨a.1,l.1,V3 (Kl _ a.1 a.2) hw,by omega⟩,q⟩
theorem C4{n b:Nat}{ds:List D}(h:∀d∈ds,L2.wD (cu n d)<=b):L2.wD (cu (n+1) (.tup ds))<=ds.length*(b+2)+3:=by
 have e:cu (n+1) (.tup ds)=.tuple (ds.map (cu n)):=rfl;rw [e];simp only [L2.wD];have:=ME (b:=b) (l:=ds.map (cu n)) fun x hx=>by
  obtain ⟨d,hd,rfl⟩:=VO.mp hx;exact h d hd
 rw [Vz] at this;omega
theorem MH(n:Nat)(i:Int):L2.wD (cu n (.int i))=1921:=by
 have e:cu n (.int i)=.int i:=by cases n<;>rfl
 rw [e];simp only [L2.wD]
end L4
namespace My
local macro_rules|`(tactic| w_up)=>`(tactic| first|exact .inl rfl|exact .inr rfl|assumption)
local macro_rules|`(tactic| w_fin)=>`(tactic| decide +kernel)
local macro_rules|`(tactic| kspl_open $h)=>`(tactic| (refine L4.cB ?_;intro _ $h;set_option simprocs false in simp only [L4.bJ]))
local macro_rules|`(tactic| w_how)=>`(tactic| set_option simprocs false in simp only [L4.bJ])
open PySem L2 L4
theorem S8:∀δ st as st',ah δ st=some (as,st')->as.length=0:=fun _ _ _ _ h=>QV h
theorem n9{f1:ai->Dm D}:∀δ st as st',af f1 ah δ st=some (as,st')->as.length=1:=E1 S8
theorem jP{f1 f2:ai->Dm D}:∀δ st as st',af f2 (af f1 ah) δ st=some (as,st')->as.length=2:=E1 n9
theorem MI{f1 f2 f3:ai->Dm D}:∀δ st as st',af f3 (af f2 (af f1 ah)) δ st=some (as,st')->as.length=3:=E1 jP
theorem MJ{f1 f2 f3 f4:ai->Dm D}:∀δ st as st',af f4 (af f3 (af f2 (af f1 ah))) δ st=some (as,st')->as.length=4:=E1 MI
theorem e8{X:Cx}{k k':Nat}{f:Addr}{fd:FuncData}{ps:List Str}{sp:Sp}{x:Str}{st:Stmt}{e:Expr}{es:List Expr}{t:TA}{p pos:Pos}(F:aH X.prog X.w X.K X.mg X.base bW k f fd ps sp)(D:Def X.K X.mg x st ps f fd)(hr:cS k' X.A)(hk:k<=k')(hg:Gl X x)(ha:PA X (e :: es) t)(hdb:(x == ("__debug__" : Str))=false:=by decide)(he:starEach (e :: es) X.env=(false,eval e X.env) :: starEach es X.env:=by rfl)(hpl:(backTo pos (starEach es X.env)).any (·.1)=false:=by rfl):PE X (.Call (.Name x p) (e :: es) [] pos) (oj sp [] E0 t):=JG F (hr.mono hk) hg D.m D.F.kp D.b .nil Bl ha hdb he hpl
theorem tQ{fd:FuncData}{p0:Str}(k:∀x0,bindArgs fd ⟨[x0],[]⟩=pure [(p0,x0)])(us:List Value)(h:us.length=1):bindArgs fd ⟨us,[]⟩=pure ([p0].zip us):=match us,h with|[x0],_=>k x0
theorem mz{fd:FuncData}{p0 p1:Str}(k:∀x0 x1,bindArgs fd ⟨[x0,x1],[]⟩=pure [(p0,x0),(p1,x1)])(us:List Value)(h:us.length=2):bindArgs fd ⟨us,[]⟩=pure ([p0,p1].zip us):=match us,h with|[x0,x1],_=>k x0 x1
theorem S9{fd:FuncData}{p0 p1 p2:Str}(k:∀x0 x1 x2,bindArgs fd ⟨[x0,x1,x2],[]⟩=pure [(p0,x0),(p1,x1),(p2,x2)])(us:List Value)(h:us.length=3):bindArgs fd ⟨us,[]⟩=pure ([p0,p1,p2].zip us):=match us,h with|[x0,x1,x2],_=>k x0 x1 x2
theorem Tb{fd:FuncData}{p0 p1 p2 p3:Str}(k:∀x0 x1 x2 x3,bindArgs fd ⟨[x0,x1,x2,x3],[]⟩=pure [(p0,x0),(p1,x1),(p2,x2),(p3,x3)])(us:List Value)(h:us.length=4):bindArgs fd ⟨us,[]⟩=pure ([p0,p1,p2,p3].zip us):=match us,h with|[x0,x1,x2,x3],_=>k x0 x1 x2 x3
def top(i:Nat):Stmt:=PySem.Challenge.pw_shearfloor_k27_charts_told.main.body.getD i (.Pass ⟨0,0,0,0⟩)
structure Txt(mg:Str->Option Value):Prop where
 nF:mg "ValueError" = none
 kR:mg "enumerate" = none
 C5:mg "int" = none
 hJ:mg "isinstance" = none
 bL:mg "len" = none
 dr:mg "list" = none
 C6:mg "max" = none
 sI:mg "min" = none
 aP:mg "range" = none
 sJ:mg "repr" = none
 bG:mg "tuple" = none
def Fg:Stmt:=match top 6 with
 |.ClassDef _ _ _ b _ _ _ _ _ _ _=>b.getD 0 (.Pass ⟨0,0,0,0⟩)
 |_=>.Pass ⟨0,0,0,0⟩
theorem Tc:aE ["self","most"] ["self","most"] (aq Fg):=⟨rfl,rfl,rfl,by w_fin,rfl,by w_fin,by w_fin⟩
structure XF(K:Zfr)(mg:Str->Option Value)(ax aJ bD b6 cR bE bF b7 cI:Addr):Prop where
 mT:mg "TooMany" = some (.ref ax)
 nG:mg "FloorError" = some (.ref aJ)
 qF:mg "NoFloor" = some (.ref bD)
 sL:mg "NoName" = some (.ref b6)
 uM:mg "NoRow" = some (.ref cR)
 qG:mg "NoSlope" = some (.ref bE)
 qH:mg "NoTable" = some (.ref bF)
 sM:mg "NoText" = some (.ref b7)
 bU:PySem.W.nsIn K mainGlobals "TooMany" = some (some (.ref ax))
 c4:PySem.W.nsIn K mainGlobals "FloorError" = some (some (.ref aJ))
 gH:PySem.W.nsIn K mainGlobals "NoFloor" = some (some (.ref bD))
 ja:PySem.W.nsIn K mainGlobals "NoName" = some (some (.ref b6))
 kr:PySem.W.nsIn K mainGlobals "NoRow" = some (some (.ref cR))
 gI:PySem.W.nsIn K mainGlobals "NoSlope" = some (some (.ref bE))
 gJ:PySem.W.nsIn K mainGlobals "NoTable" = some (some (.ref bF))
 jb:PySem.W.nsIn K mainGlobals "NoText" = some (some (.ref b7))
 nH:PySem.W.findIn K (.ref ax) "__init__" = some (some (.ref cI))
 c5:PySem.W.excIn K aJ Ff "ValueError.__new__" = true
 c6:PySem.W.mroIn K ax (.ref aJ)=some true
 fe:lJ K ax Ff "ValueError.__new__" cI=true
 ff:PySem.W.isFn K (.ref cI)=true
 fg:PySem.W.keepIn K (.ref ax)=true
 fj:PySem.W.mroIn K ax (.type "BaseException")=some true
 fm:PySem.W.typeIn K (.ref ax)=some (.type "type")
 lS:PySem.W.takerIn K ax "most" = some none
 lU:PySem.W.findIn K (.ref ax) "most" = some none
 k0:PySem.W.kitAny K (.ref ax) [.ref bD,.ref b6,.ref cR,.ref bE,.ref bF,.ref b7]=some false
 k1:PySem.W.kitOne K (.ref ax) (.ref ax)=some true
 k2:PySem.W.kitOne K (.ref ax) (.type "ValueError")=some true
 eP:ot K ax
 jY:tw K ax
 I:∃dI,vt K "__init__" "TooMany.__init__" Fg cI dI/\Binds K dI ["self","most"] []
theorem C7{K:Zfr}{mg:Str->Option Value}{h:Heap}{ax aJ bD b6 cR bE bF b7 cI:Addr}(KX:K.In h)(G:h.Ns mainGlobals mg)(bU:PySem.W.nsIn K mainGlobals "TooMany" = some (some (.ref ax)))(c4:PySem.W.nsIn K mainGlobals "FloorError" = some (some (.ref aJ)))(gH:PySem.W.nsIn K mainGlobals "NoFloor" = some (some (.ref bD)))(ja:PySem.W.nsIn K mainGlobals "NoName" = some (some (.ref b6)))(kr:PySem.W.nsIn K mainGlobals "NoRow" = some (some (.ref cR)))(gI:PySem.W.nsIn K mainGlobals "NoSlope" = some (some (.ref bE)))(gJ:PySem.W.nsIn K mainGlobals "NoTable" = some (some (.ref bF)))(jb:PySem.W.nsIn K mainGlobals "NoText" = some (some (.ref b7)))(nH:PySem.W.findIn K (.ref ax) "__init__" = some (some (.ref cI)))(c5:PySem.W.excIn K aJ Ff "ValueError.__new__" = true)(c6:PySem.W.mroIn K ax (.ref aJ)=some true)(fe:lJ K ax Ff "ValueError.__new__" cI=true)(ff:PySem.W.isFn K (.ref cI)=true)(fg:PySem.W.keepIn K (.ref ax)=true)(fj:PySem.W.mroIn K ax (.type "BaseException")=some true)(fm:PySem.W.typeIn K (.ref ax)=some (.type "type"))(lS:PySem.W.takerIn K ax "most" = some none)(lU:PySem.W.findIn K (.ref ax) "most" = some none)(k0:PySem.W.kitAny K (.ref ax) [.ref bD,.ref b6,.ref cR,.ref bE,.ref bF,.ref b7]=some false)(k1:PySem.W.kitOne K (.ref ax) (.ref ax)=some true)(k2:PySem.W.kitOne K (.ref ax) (.type "ValueError")=some true)(eP:ot K ax)(jY:tw K ax)(I:∃dI,vt K "__init__" "TooMany.__init__" Fg cI dI/\Binds K dI ["self","most"] []):XF K mg ax aJ bD b6 cR bE bF b7 cI :=
 ⟨PySem.W.mg_of KX G bU,PySem.W.mg_of KX G c4,PySem.W.mg_of KX G gH,PySem.W.mg_of KX G ja,PySem.W.mg_of KX G kr,PySem.W.mg_of KX G gI,PySem.W.mg_of KX G gJ,PySem.W.mg_of KX G jb,bU,c4,gH,ja,kr,gI,gJ,jb,nH,c5,c6,fe,ff,fg,fj,fm,lS,lU,k0,k1,k2,eP,jY,I⟩
theorem Td{P:Program}{w:World}{K:Zfr}{mg:Str->Option Value}{base:Heap}{cI:Addr}{dI:FuncData}(I:vt K "__init__" "TooMany.__init__" Fg cI dI):aH P w K mg base bW 1 cI dI ["self","most"] (rV K "most"):=by
 exact I.ok Tc (fun vs H Q E h=>PU h) (fun cdv A outer s H vs Q E hr h=>⟨_,(bz (Pz (pv 0) (pv 1) rfl)),PV h⟩)
section
variable {P:Program}{w:World}{K:Zfr}{mg:Str->Option Value}{base:Heap}
def Fh:ai->Dm Fl :=
 (ay (fK (aC (aD sg (aD bP (ag 0) (fC (.int 0))) (fC (.int 0)))) (ay (aG (aD iY (aD bP (ag 0) (fC (.int 0))) (ag 1)) (hName 2))
 (ay (aG (aD mL (aD bP (ag 0) (fC (.int 0))) (ag 1)) (hSub (ag 0) (fC (.int 0))))
 (bI (ag 2)))) aW)
 (ay (aG (aD iY (aD lP (aD bP (ag 0) (fC (.int 1))) (fC (.int 48271))) (fC (.int 2147483647))) (hName 3))
 (ay (aG (aD gW (aD iY (aD gW (aD lP (ag 3) (fC (.int 40692))) (fC (.int 30103))) (fC (.int 2147483399))) (fC (.int 1))) (hSub (ag 0) (fC (.int 1))))
 (bI (aD iY (aD mL (aD gW (aD lP (ag 3) (fC (.int 2147483647))) (aD bP (ag 0) (fC (.int 1)))) (fC (.int 8191))) (ag 1))))))
def oN:List D->Dm D:=iR 4 Fh
def ze:Stmt:=top 38
theorem II:aE ["_law_feed_here","_law_many","_law_digit","_law_one"] ["_law_feed_here","_law_many"] (aq ze):=⟨rfl,rfl,rfl,by w_fin,rfl,by w_fin,by w_fin⟩
theorem Te{f:Addr}{fd:FuncData}(D:Def K mg "_law_take" ze ["_law_feed_here","_law_many"] f fd)(T:Txt mg) :aH P w K mg base bW 1 f fd ["_law_feed_here","_law_many"] (cy K 2 oN):=by
 refine D.F.ok II (fun _ _ _ _ h=>h.1) (fun c A o s H v Q E hr h=>?_)
 refine ⟨_,(@bg _ _ _ _ _ (@jS _ _ _ _ _ _ _ _ (gO u9 (@cb _ _ _ _ _ _ _ kN (pv 0) aT (fun _ _=>rfl)) aT (aK _)) (@bg _ _ _ _ _ (@b9 (i:=2) _ _ _ _ _ _ II.nd rfl (by w_up) (cW qm (@cb _ _ _ _ _ _ _ kN (pv 0) aT (fun _ _=>rfl)) (pv 1)) (by rfl) (by w_up))
  (@bg _ _ _ _ _ (u3 (cW GB (@cb _ _ _ _ _ _ _ kN (pv 0) aT (fun _ _=>rfl)) (pv 1)) (zE (pv 0) aT zI))
  (@bz _ _ _ (@gS _ _ _ _ (pv 2))))) kC)
  (@bg _ _ _ _ _ (@b9 (i:=3) _ _ _ _ _ _ II.nd rfl (by w_up) (cW qm (cW u7 (@cb _ _ _ _ _ _ _ kN (pv 0) aT (fun _ _=>rfl)) aT) aT) (by rfl) (by w_up))
  (@bg _ _ _ _ _ (u3 (cW oi (cW qm (cW oi (cW u7 (pv 3) aT) aT) aT) aT) (zE (pv 0) aT zI))
  (@bz _ _ _ (@gS _ _ _ _ (cW qm (cW GB (cW oi (cW u7 (pv 3) aT) (@cb _ _ _ _ _ _ _ kN (pv 0) aT (fun _ _=>rfl))) aT) (pv 1))))))),?_⟩
 exact jN (b:=Fh) (bq (km (gG (aI vR (aI iZ (aj 0) (aU _)) (aU _))) (bq (bQ (aI qA (aI iZ (aj 0) (aU _)) (aj 1)) (aS 2))
  (bq (bQ (aI Ih (aI iZ (aj 0) (aU _)) (aj 1)) (zZ (aj 0) (aU _)))
  (gY (aj 2)))) kD)
  (bq (bQ (aI qA (aI vQ (aI iZ (aj 0) (aU _)) (aU _)) (aU _)) (aS 3))
  (bq (bQ (aI oE (aI qA (aI oE (aI vQ (aj 3) (aU _)) (aU _)) (aU _)) (aU _)) (zZ (aj 0) (aU _)))
  (gY (aI qA (aI Ih (aI oE (aI vQ (aj 3) (aU _)) (aI iZ (aj 0) (aU _))) (aU _)) (aj 1)))))) rfl h
def Fi:ai->Dm Fl :=
 (ay (aG (aN dn (af (aN gX (af (ag 1) ah)) ah)) (hName 2))
 (ay (aG (bS ah) (hName 3))
 (ay (gZ (aC (aD (kW true) (ag 2) (cL ah))) (aG (aD kj (ag 3) (bS (af (jE "list" kH (ag 2) (af (aN oN (af (ag 0) (af (aN cM (af (ag 2) ah)) ah))) ah)) ah))) (hName 3)))
 (bI (ag 3)))))
def zf:List D->Dm D:=iR 4 Fi
def C8:Stmt:=top 39
theorem Fj:aE ["_law_feed_here","_law_n","_law_left","_law_found"] ["_law_feed_here","_law_n"] (aq C8):=⟨rfl,rfl,rfl,by w_fin,rfl,by w_fin,by w_fin⟩
theorem Tf{f:Addr}{fd:FuncData}(D:Def K mg "_law_turning" C8 ["_law_feed_here","_law_n"] f fd)(T:Txt mg)  {bN:Addr}{bO:FuncData}(aY:Def K mg "_law_take" ze ["_law_feed_here","_law_many"] bN bO)(bp:aH P w K mg base bW 1 bN bO ["_law_feed_here","_law_many"] (cy K 2 oN)):aH P w K mg base bW 2 f fd ["_law_feed_here","_law_n"] (cy K 2 zf):=by
 refine D.F.ok Fj (fun _ _ _ _ h=>h.1) (fun c A o s H v Q E hr h=>?_);have hu:=hr.units
 refine ⟨_,(@bg _ _ _ _ _ (@b9 (i:=2) _ _ _ _ _ _ Fj.nd rfl (by w_up) (gx (tj rfl) (by rfl) T.dr qr (@ao _ _ _ _ _ (gx EA (by rfl) T.aP tf (@ao _ _ _ _ _ (pv 1) az (by rfl))) az (by rfl))) (by rfl) (by w_up))
  (@bg _ _ _ _ _ (@b9 (i:=3) _ _ _ _ _ _ Fj.nd rfl (by w_up) (@iU _ _ _ _ _ az) (by rfl) (by w_up))
  (@bg _ _ _ _ _ (zF PassesOwn.never (gO (G4 hu) (pv 2) (@kc _ _ _ _ az) (aK _)) (@bz _ _ _ (@b9 (i:=3) _ _ _ _ _ _ Fj.nd rfl (by w_up) (cW Bp (pv 3) (@iU _ _ _ _ _ (@ao _ _ _ _ _ (m9 PySem.F.plainAttrs_list PySem.F.slot_list_pop PySem.F.type_list_pop N7 (pv 2) (@ao _ _ _ _ _ (e8 bp aY hr (by decide) rfl (@ao _ _ _ _ _ (pv 0) (@ao _ _ _ _ _ (iL ke (by rfl) T.bL kf (@ao _ _ _ _ _ (pv 2) az (by rfl))) az (by rfl)) (by rfl))) az (by rfl))) az (by rfl)))) (by rfl) (by w_up))))
  (@bz _ _ _ (@gS _ _ _ _ (pv 3)))))),?_⟩
 exact jN (b:=Fi) (bq (bQ (cg tK (au (cg E6 (au (aj 1) aA)) aA)) (aS 2))
  (bq (bQ (jL aA) (aS 3))
  (bq (Cm (gG (aI (E4 true) (aj 2) (kh aA))) (bQ (aI Ci (aj 3) (jL (au (mq Q6 (aj 2) (au (eZ (F:=oN) (au (aj 0) (au (cg kl (au (aj 2) aA)) aA)) jP) aA)) aA))) (aS 3)))
  (gY (aj 3))))) rfl h
def Fm:ai->Dm Fl :=
 (ay (aG (cL (af (fC (.int 0)) ah)) (hName 1))
 (ay (dZ (cq (af (aD gW (fC (.int 1)) (aN cM (af (aD bA (ag 0) (fC (.int 0))) ah))) ah)) (hName 2) (dZ (fL (ag 0)) (hName 3) (dZ (i6 (aN mM (af (ag 1) ah))) (hName 4) (fK (aC (aD (qR true) (aD bA (ag 3) (ag 4)) (ag 1))) (cw (jE "list" aR (ag 1) (af (aD bA (ag 3) (ag 4)) ah))) aW))))
 (bI (ag 1))))
def uN:List D->Dm D:=iR 5 Fm
def C9:Stmt:=top 40
theorem Dc:aE ["_law_floor_here","_law_found","_law_turn","_law_turning_here","_law_one"] ["_law_floor_here"] (aq C9):=⟨rfl,rfl,rfl,by w_fin,rfl,by w_fin,by w_fin⟩
theorem Tg{f:Addr}{fd:FuncData}(D:Def K mg "_law_met" C9 ["_law_floor_here"] f fd)(T:Txt mg) :aH P w K mg base bW 1 f fd ["_law_floor_here"] (cy K 1 uN):=by
 refine D.F.ok Dc (fun _ _ _ _ h=>h.1) (fun c A o s H v Q E hr h=>?_)
 refine ⟨_,(@bg _ _ _ _ _ (@b9 (i:=1) _ _ _ _ _ _ Dc.nd rfl (by w_up) (@kc _ _ _ _ (@ao _ _ _ _ _ aT az (by rfl))) (by rfl) (by w_up))
  (@bg _ _ _ _ _ (@l9 _ _ _ _ _ _ _ _ PassesOwn.never rfl (pM rfl T.aP (@ao _ _ _ _ _ (cW oi aT (iL ke (by rfl) T.bL kf (@ao _ _ _ _ _ (@cb _ _ _ _ _ _ _ iP (pv 0) aT (fun _ _=>rfl)) az (by rfl)))) az (by rfl))) (eU (i:=2) Dc.nd rfl (by w_up)) (@bz _ _ _ (@l9 _ _ _ _ _ _ _ _ PassesOwn.never rfl (rn (pv 0)) (eU (i:=3) Dc.nd rfl (by w_up)) (@bz _ _ _ (@l9 _ _ _ _ _ _ _ _ PassesOwn.never rfl (AY (gx GS (by rfl) T.dr qr (@ao _ _ _ _ _ (pv 1) az (by rfl)))) (eU (i:=4) Dc.nd rfl (by w_up)) (@bz _ _ _ (@jS _ _ _ _ _ _ _ _ (gO Eu (@cb _ _ _ _ _ _ _ iP (pv 3) (pv 4) (fun _ _=>rfl)) (pv 1) (by with_unfolding_all rfl)) (@bz _ _ _ (o9 (m9 PySem.F.plainAttrs_list PySem.F.slot_list_append PySem.F.type_list_append ph (pv 1) (@ao _ _ _ _ _ (@cb _ _ _ _ _ _ _ iP (pv 3) (pv 4) (fun _ _=>rfl)) az (by rfl))))) kC)) (by intro _;rfl))) (by intro _;rfl))) (by intro _;rfl))
  (@bz _ _ _ (@gS _ _ _ _ (pv 1))))),?_⟩
 exact jN (b:=Fm) (bq (bQ (kh (au (aU _) aA)) (aS 1))
  (bq (mv (qd (au (aI oE (aU _) (cg kl (au (aI gy (aj 0) (aU _)) aA))) aA)) (aS 2) (mv (sv (aj 0)) (aS 3) (mv (Cp (cg Ij (au (aj 1) aA))) (aS 4) (km (gG (aI (Cj true) (aI gy (aj 3) (aj 4)) (aj 1))) (pC (mq pB (aj 1) (au (aI gy (aj 3) (aj 4)) aA))) kD))))
  (gY (aj 1)))) rfl h
def Fn:ai->Dm Fl :=
 (ay (aG (aN oN (af (ag 0) (af (fC (.int 6)) ah))) (hName 2))
 (ay (su 3 4 (af (aN mM (af (aN zf (af (ag 0) (af (ag 1) ah))) ah)) (af (aN mM (af (aN zf (af (ag 0) (af (ag 1) ah))) ah)) ah)))
 (ay (fK (aC (aD (kU false) (ag 2) (fC (.int 0)))) (aG (aD ml (aN dn (af (aN eA (af (fC (.int 1)) (af (ag 1) ah))) ah)) (cL (af (fC (.int 0)) ah))) (hName 3)) aW)
 (ay (fK (aC (aD (kU false) (ag 2) (fC (.int 1)))) (su 3 4 (af (aN dn (af (aN gX (af (ag 1) ah)) ah)) (af (aD ml (aN dn (af (aN eA (af (fC (.int 1)) (af (ag 1) ah))) ah)) (cL (af (fC (.int 0)) ah))) ah))) aW)
 (ay (fK (aC (aD (kU false) (ag 2) (fC (.int 2)))) (ay (aG (aD gW (fC (.int 1)) (aN oN (af (ag 0) (af (ag 1) ah)))) (hName 5))
 (ay (aG (aD ml (aD ml (aN dn (af (aN eA (af (fC (.int 1)) (af (ag 5) ah))) ah)) (cL (af (fC (.int 0)) ah))) (aN dn (af (aN eA (af (ag 5) (af (ag 1) ah))) ah))) (hName 3))
 (ay (aG (xS qB (aD ml (aD ml (aD ml (cL (af (ag 5) ah)) (aN dn (af (aN eA (af (fC (.int 1)) (af (ag 5) ah))) ah))) (aN dn (af (aN eA (af (aD gW (ag 5) (fC (.int 1))) (af (ag 1) ah))) ah))) (cL (af (fC (.int 0)) ah))) ki (kO (ag 1))) (hName 4))
 (fK (aC (aD (kU false) (ag 5) (ag 1))) (aG (aN dn (af (aN gX (af (ag 1) ah)) ah)) (hName 4)) aW)))) aW)
 (ay (aG (bS (af (aN bM (af (ag 3) ah)) (af (aN bM (af (ag 4) ah)) ah))) (hName 6))
 (ay (aG (d5 (cq (af (ag 1) ah)) 1 [6] (hName 0) (aC (aD (qR true) (ag 0) (aN uN (af (ag 1) ah)))) (ag 0)) (hName 7))
 (ay (gZ (aC (aD (kW true) (ag 7) (cL ah))) (ay (aG (aD bP (ag 7) (fC (.int 0))) (hName 8))
 (ay (aG (bS (af (aD bP (ag 3) (ag 8)) (af (aD bP (ag 3) (fC (.int 0))) ah))) (lQ 2 (cJ (hSub (ag 3) (fC (.int 0))) (cJ (hSub (ag 3) (ag 8)) mr))))
 (ay (aG (bS (af (aN bM (af (ag 3) ah)) (af (aN bM (af (ag 4) ah)) ah))) (hName 6))
 (aG (d5 (cq (af (ag 1) ah)) 1 [6] (hName 0) (aC (aD (qR true) (ag 0) (aN uN (af (ag 1) ah)))) (ag 0)) (hName 7))))))
 (bI (ag 6))))))))))
def Dd:List D->Dm D:=iR 9 Fn
def De:Stmt:=top 41
theorem qg:aE ["_law_feed_here","_law_n","_law_form_here","_law_right","_law_up","_law_wide","_law_found","_law_apart","_law_m"] ["_law_feed_here","_law_n"] (aq De):=⟨rfl,rfl,rfl,by w_fin,rfl,by w_fin,by w_fin⟩
theorem Ti{f:Addr}{fd:FuncData}(D:Def K mg "_law_floor" De ["_law_feed_here","_law_n"] f fd)(T:Txt mg)  {bN:Addr}{bO:FuncData}(aY:Def K mg "_law_take" ze ["_law_feed_here","_law_many"] bN bO)(bp:aH P w K mg base bW 1 bN bO ["_law_feed_here","_law_many"] (cy K 2 oN)){dE:Addr}{dF:FuncData}(cN:Def K mg "_law_turning" C8 ["_law_feed_here","_law_n"] dE dF)(dG:aH P w K mg base bW 2 dE dF ["_law_feed_here","_law_n"] (cy K 2 zf)){jw:Addr}{jx:FuncData}(gK:Def K mg "_law_met" C9 ["_law_floor_here"] jw jx)(jy:aH P w K mg base bW 1 jw jx ["_law_floor_here"] (cy K 1 uN)):aH P w K mg base bW 3 f fd ["_law_feed_here","_law_n"] (cy K 2 Dd):=by
 refine D.F.ok qg (fun _ _ _ _ h=>h.1) (fun c A o s H v Q E hr h=>?_);have hu:=hr.units
 refine ⟨_,(@bg _ _ _ _ _ (@b9 (i:=2) _ _ _ _ _ _ qg.nd rfl (by w_up) (e8 bp aY hr (by decide) rfl (@ao _ _ _ _ _ (pv 0) (@ao _ _ _ _ _ aT az (by rfl)) (by rfl))) (by rfl) (by w_up))
  (@bg _ _ _ _ _ (Jr (i:=3) (j:=4) rfl qg.nd rfl rfl (by decide) rfl rfl (@ao _ _ _ _ _ (gx GS (by rfl) T.dr qr (@ao _ _ _ _ _ (e8 dG cN hr (by decide) rfl (@ao _ _ _ _ _ (pv 0) (@ao _ _ _ _ _ (pv 1) az (by rfl)) (by rfl))) az (by rfl))) (@ao _ _ _ _ _ (gx GS (by rfl) T.dr qr (@ao _ _ _ _ _ (e8 dG cN hr (by decide) rfl (@ao _ _ _ _ _ (pv 0) (@ao _ _ _ _ _ (pv 1) az (by rfl)) (by rfl))) az (by rfl))) az (by rfl)) (by rfl)) rfl)
  (@bg _ _ _ _ _ (@jS _ _ _ _ _ _ _ _ (gO rq (pv 2) aT (aK _)) (@bz _ _ _ (@b9 (i:=3) _ _ _ _ _ _ qg.nd rfl (by w_up) (cW xh (gx (tj rfl) (by rfl) T.dr qr (@ao _ _ _ _ _ (gx zK (by rfl) T.aP tf (@ao _ _ _ _ _ aT (@ao _ _ _ _ _ (pv 1) az (by rfl)) (by rfl))) az (by rfl))) (@kc _ _ _ _ (@ao _ _ _ _ _ aT az (by rfl)))) (by rfl) (by w_up))) kC)
  (@bg _ _ _ _ _ (@jS _ _ _ _ _ _ _ _ (gO rq (pv 2) aT (aK _)) (@bz _ _ _ (Jr (i:=3) (j:=4) rfl qg.nd rfl rfl (by decide) rfl rfl (@ao _ _ _ _ _ (gx (tj rfl) (by rfl) T.dr qr (@ao _ _ _ _ _ (gx EA (by rfl) T.aP tf (@ao _ _ _ _ _ (pv 1) az (by rfl))) az (by rfl))) (@ao _ _ _ _ _ (cW xh (gx (tj rfl) (by rfl) T.dr qr (@ao _ _ _ _ _ (gx zK (by rfl) T.aP tf (@ao _ _ _ _ _ aT (@ao _ _ _ _ _ (pv 1) az (by rfl)) (by rfl))) az (by rfl))) (@kc _ _ _ _ (@ao _ _ _ _ _ aT az (by rfl)))) az (by rfl)) (by rfl)) rfl)) kC)
  (@bg _ _ _ _ _ (@jS _ _ _ _ _ _ _ _ (gO rq (pv 2) aT (aK _)) (@bg _ _ _ _ _ (@b9 (i:=5) _ _ _ _ _ _ qg.nd rfl (by w_up) (cW oi aT (e8 bp aY hr (by decide) rfl (@ao _ _ _ _ _ (pv 0) (@ao _ _ _ _ _ (pv 1) az (by rfl)) (by rfl)))) (by rfl) (by w_up))
  (@bg _ _ _ _ _ (@b9 (i:=3) _ _ _ _ _ _ qg.nd rfl (by w_up) (cW xh (cW xh (gx (tj rfl) (by rfl) T.dr qr (@ao _ _ _ _ _ (gx zK (by rfl) T.aP tf (@ao _ _ _ _ _ aT (@ao _ _ _ _ _ (pv 5) az (by rfl)) (by rfl))) az (by rfl))) (@kc _ _ _ _ (@ao _ _ _ _ _ aT az (by rfl)))) (gx (tj rfl) (by rfl) T.dr qr (@ao _ _ _ _ _ (gx zK (by rfl) T.aP tf (@ao _ _ _ _ _ (pv 5) (@ao _ _ _ _ _ (pv 1) az (by rfl)) (by rfl))) az (by rfl)))) (by rfl) (by w_up))
  (@bg _ _ _ _ _ (@b9 (i:=4) _ _ _ _ _ _ qg.nd rfl (by w_up) (Et GN (cW xh (cW xh (cW xh (@kc _ _ _ _ (@ao _ _ _ _ _ (pv 5) az (by rfl))) (gx (tj rfl) (by rfl) T.dr qr (@ao _ _ _ _ _ (gx zK (by rfl) T.aP tf (@ao _ _ _ _ _ aT (@ao _ _ _ _ _ (pv 5) az (by rfl)) (by rfl))) az (by rfl)))) (gx (tj rfl) (by rfl) T.dr qr (@ao _ _ _ _ _ (gx zK (by rfl) T.aP tf (@ao _ _ _ _ _ (cW oi (pv 5) aT) (@ao _ _ _ _ _ (pv 1) az (by rfl)) (by rfl))) az (by rfl)))) (@kc _ _ _ _ (@ao _ _ _ _ _ aT az (by rfl)))) GJ (A8 (pv 1))) (by rfl) (by w_up))
  (@bz _ _ _ (@jS _ _ _ _ _ _ _ _ (gO rq (pv 5) (pv 1) (aK _)) (@bz _ _ _ (@b9 (i:=4) _ _ _ _ _ _ qg.nd rfl (by w_up) (gx (tj rfl) (by rfl) T.dr qr (@ao _ _ _ _ _ (gx EA (by rfl) T.aP tf (@ao _ _ _ _ _ (pv 1) az (by rfl))) az (by rfl))) (by rfl) (by w_up))) kC))))) kC)
  (@bg _ _ _ _ _ (@b9 (i:=6) _ _ _ _ _ _ qg.nd rfl (by w_up) (@iU _ _ _ _ _ (@ao _ _ _ _ _ (gx nW (by rfl) T.bG nX (@ao _ _ _ _ _ (pv 3) az (by rfl))) (@ao _ _ _ _ _ (gx nW (by rfl) T.bG nX (@ao _ _ _ _ _ (pv 4) az (by rfl))) az (by rfl)) (by rfl))) (by rfl) (by w_up))
  (@bg _ _ _ _ _ (Kj (i:=7) (own:=["_law_s"]) (fr:=["_law_found"]) (js:=[6]) rfl qg.nd rfl rfl ⟨⟨rfl,by w_fin,by w_fin,by dsimp only [eV,aL,Cx.o3,Cx.wish,PyProof.Rows.envOfC,compEnvC,relabel,Env.kindOf];decide +kernel,by w_fin⟩,rfl⟩ (pM rfl T.aP (@ao _ _ _ _ _ (pv 1) az (by rfl))) (fun _ _ _ _ _=>(eU (i:=0) (show ((["_law_s"]:List Str) ++ (["_law_found"]:List Str)).Nodup by w_fin) rfl (by w_up))) (fun _ _ _ _ _=>(Ke (gO (Kn (K:=K) rfl) (pv 0) (e8 jy gK hr (by decide) rfl (@ao _ _ _ _ _ (pv 1) az (by rfl))) (by with_unfolding_all rfl)))) (fun _ _ _ _ _=>(pv 0)))
  (@bg _ _ _ _ _ (zF PassesOwn.never (gO (G4 hu) (pv 7) (@kc _ _ _ _ az) (aK _)) (@bg _ _ _ _ _ (@b9 (i:=8) _ _ _ _ _ _ qg.nd rfl (by w_up) (@cb _ _ _ _ _ _ _ kN (pv 7) aT (fun _ _=>rfl)) (by rfl) (by w_up))
  (@bg _ _ _ _ _ (u3 (@iU _ _ _ _ _ (@ao _ _ _ _ _ (@cb _ _ _ _ _ _ _ kN (pv 3) (pv 8) (fun _ _=>rfl)) (@ao _ _ _ _ _ (@cb _ _ _ _ _ _ _ kN (pv 3) aT (fun _ _=>rfl)) az (by rfl)) (by rfl))) (uZ (n:=2) rfl (mE (zE (pv 3) aT zI) (mE (zE (pv 3) (pv 8) zI) uY))))
  (@bg _ _ _ _ _ (@b9 (i:=6) _ _ _ _ _ _ qg.nd rfl (by w_up) (@iU _ _ _ _ _ (@ao _ _ _ _ _ (gx nW (by rfl) T.bG nX (@ao _ _ _ _ _ (pv 3) az (by rfl))) (@ao _ _ _ _ _ (gx nW (by rfl) T.bG nX (@ao _ _ _ _ _ (pv 4) az (by rfl))) az (by rfl)) (by rfl))) (by rfl) (by w_up))
  (@bz _ _ _ (Kj (i:=7) (own:=["_law_s"]) (fr:=["_law_found"]) (js:=[6]) rfl qg.nd rfl rfl ⟨⟨rfl,by w_fin,by w_fin,by dsimp only [eV,aL,Cx.o3,Cx.wish,PyProof.Rows.envOfC,compEnvC,relabel,Env.kindOf];decide +kernel,by w_fin⟩,rfl⟩ (pM rfl T.aP (@ao _ _ _ _ _ (pv 1) az (by rfl))) (fun _ _ _ _ _=>(eU (i:=0) (show ((["_law_s"]:List Str) ++ (["_law_found"]:List Str)).Nodup by w_fin) rfl (by w_up))) (fun _ _ _ _ _=>(Ke (gO (Kn (K:=K) rfl) (pv 0) (e8 jy gK hr (by decide) rfl (@ao _ _ _ _ _ (pv 1) az (by rfl))) (by with_unfolding_all rfl)))) (fun _ _ _ _ _=>(pv 0))))))))
  (@bz _ _ _ (@gS _ _ _ _ (pv 6))))))))))),?_⟩
 exact jN (b:=Fn) (bq (bQ (eZ (F:=oN) (au (aj 0) (au (aU _) aA)) jP) (aS 2))
  (bq (LN (au (cg Ij (au (eZ (F:=zf) (au (aj 0) (au (aj 1) aA)) jP) aA)) (au (cg Ij (au (eZ (F:=zf) (au (aj 0) (au (aj 1) aA)) jP) aA)) aA)))
  (bq (km (gG (aI si (aj 2) (aU _))) (bQ (aI x4 (cg tK (au (cg zY (au (aU _) (au (aj 1) aA))) aA)) (kh (au (aU _) aA))) (aS 3)) kD)
  (bq (km (gG (aI si (aj 2) (aU _))) (LN (au (cg tK (au (cg E6 (au (aj 1) aA)) aA)) (au (aI x4 (cg tK (au (cg zY (au (aU _) (au (aj 1) aA))) aA)) (kh (au (aU _) aA))) aA))) kD)
  (bq (km (gG (aI si (aj 2) (aU _))) (bq (bQ (aI oE (aU _) (eZ (F:=oN) (au (aj 0) (au (aj 1) aA)) jP)) (aS 5))
  (bq (bQ (aI x4 (aI x4 (cg tK (au (cg zY (au (aU _) (au (aj 5) aA))) aA)) (kh (au (aU _) aA))) (cg tK (au (cg zY (au (aj 5) (au (aj 1) aA))) aA))) (aS 3))
  (bq (bQ (EZ Ii (aI x4 (aI x4 (aI x4 (kh (au (aj 5) aA)) (cg tK (au (cg zY (au (aU _) (au (aj 5) aA))) aA))) (cg tK (au (cg zY (au (aI oE (aj 5) (aU _)) (au (aj 1) aA))) aA))) (kh (au (aU _) aA))) HZ (Cd (aj 1))) (aS 4))
  (km (gG (aI si (aj 5) (aj 1))) (bQ (cg tK (au (cg E6 (au (aj 1) aA)) aA)) (aS 4)) kD)))) kD)
  (bq (bQ (jL (au (cg n4 (au (aj 3) aA)) (au (cg n4 (au (aj 4) aA)) aA))) (aS 6))
  (bq (bQ (qT (qd (au (aj 1) aA)) (aS 0) (gG (aI (Cj true) (aj 0) (eZ (F:=uN) (au (aj 1) aA) n9))) (aj 0)) (aS 7))
  (bq (Cm (gG (aI (E4 true) (aj 7) (kh aA))) (bq (bQ (aI iZ (aj 7) (aU _)) (aS 8))
  (bq (bQ (jL (au (aI iZ (aj 3) (aj 8)) (au (aI iZ (aj 3) (aU _)) aA))) (vT (mO (zZ (aj 3) (aU _)) (mO (zZ (aj 3) (aj 8)) vS))))
  (bq (bQ (jL (au (cg n4 (au (aj 3) aA)) (au (cg n4 (au (aj 4) aA)) aA))) (aS 6))
  (bQ (qT (qd (au (aj 1) aA)) (aS 0) (gG (aI (Cj true) (aj 0) (eZ (F:=uN) (au (aj 1) aA) n9))) (aj 0)) (aS 7))))))
  (gY (aj 6)))))))))) rfl h
def Fp:ai->Dm Fl :=
 (ay (aG (cL (af (ag 1) ah)) (hName 2))
 (ay (dZ (i6 (aN dn (af (aN gX (af (aN cM (af (aD bA (ag 0) (fC (.int 0))) ah)) ah)) ah))) (hName 3) (dZ (fL (ag 0)) (hName 4) (fK (mh (aC (aD vP (ag 3) (aN cM (af (ag 2) ah)))) (aC (aD (qR true) (aD bA (ag 4) (aD bP (ag 2) (ag 3))) (ag 2)))) (cw (jE "list" aR (ag 2) (af (aD bA (ag 4) (aD bP (ag 2) (ag 3))) ah))) aW)))
 (bI (aN bM (af (d5 (fL (ag 0)) 1 [2] (hName 0) fM (aN bM (af (d5 (i6 (ag 1)) 1 [0,1] (hName 0) fM (jE "list" jt (ag 2) (af (aD bA (ag 1) (ag 0)) ah))) ah))) ah)))))
def Df:List D->Dm D:=iR 5 Fp
def Dg:Stmt:=top 44
theorem Fq:aE ["_law_floor_here","_law_s","_law_called","_law_one","_law_turning_here"] ["_law_floor_here","_law_s"] (aq Dg):=⟨rfl,rfl,rfl,by w_fin,rfl,by w_fin,by w_fin⟩
theorem Tj{f:Addr}{fd:FuncData}(D:Def K mg "_law_numbered" Dg ["_law_floor_here","_law_s"] f fd)(T:Txt mg) :aH P w K mg base bW 1 f fd ["_law_floor_here","_law_s"] (cy K 2 Df):=by
 refine D.F.ok Fq (fun _ _ _ _ h=>h.1) (fun c A o s H v Q E hr h=>?_)
 refine ⟨_,(@bg _ _ _ _ _ (@b9 (i:=2) _ _ _ _ _ _ Fq.nd rfl (by w_up) (@kc _ _ _ _ (@ao _ _ _ _ _ (pv 1) az (by rfl))) (by rfl) (by w_up))
  (@bg _ _ _ _ _ (@l9 _ _ _ _ _ _ _ _ PassesOwn.never rfl (AY (gx (tj rfl) (by rfl) T.dr qr (@ao _ _ _ _ _ (gx EA (by rfl) T.aP tf (@ao _ _ _ _ _ (iL ke (by rfl) T.bL kf (@ao _ _ _ _ _ (@cb _ _ _ _ _ _ _ iP (pv 0) aT (fun _ _=>rfl)) az (by rfl))) az (by rfl))) az (by rfl)))) (eU (i:=3) Fq.nd rfl (by w_up)) (@bz _ _ _ (@l9 _ _ _ _ _ _ _ _ PassesOwn.never rfl (rn (pv 0)) (eU (i:=4) Fq.nd rfl (by w_up)) (@bz _ _ _ (@jS _ _ _ _ _ _ _ _ (PW.pt (AJ (gO zG (pv 3) (iL ke (by rfl) T.bL kf (@ao _ _ _ _ _ (pv 2) az (by rfl))) (aK _)) (El (gO Eu (@cb _ _ _ _ _ _ _ iP (pv 4) (@cb _ _ _ _ _ _ _ kN (pv 2) (pv 3) (fun _ _=>rfl)) (fun _ _=>rfl)) (pv 2) (by with_unfolding_all rfl))))) (@bz _ _ _ (o9 (m9 PySem.F.plainAttrs_list PySem.F.slot_list_append PySem.F.type_list_append ph (pv 2) (@ao _ _ _ _ _ (@cb _ _ _ _ _ _ _ iP (pv 4) (@cb _ _ _ _ _ _ _ kN (pv 2) (pv 3) (fun _ _=>rfl)) (fun _ _=>rfl)) az (by rfl))))) kC)) (by intro _;rfl))) (by intro _;rfl))
  (@bz _ _ _ (@gS _ _ _ _ (gx nW (by rfl) T.bG nX (@ao _ _ _ _ _ (tq (own:=["_law_turning_here"]) (fr:=["_law_called"]) (js:=[2]) rfl ⟨⟨rfl,by w_fin,by w_fin,by dsimp only [eV,aL,Cx.o3,Cx.wish,PyProof.Rows.envOfC,compEnvC,relabel,Env.kindOf];decide +kernel,by w_fin⟩,rfl⟩ (rn (pv 0)) (fun _ _ _ _ _=>(eU (i:=0) (show ((["_law_turning_here"]:List Str) ++ (["_law_called"]:List Str)).Nodup by w_fin) rfl (by w_up))) (fun _ _ _ _ _=>tm) (fun _ _ _ _ _=>(gx (OM (K:=K) rfl) (by rfl) T.bG nX (@ao _ _ _ _ _ (tq (own:=["_law_one"]) (fr:=["_law_turning_here","_law_called"]) (js:=[0,1]) rfl ⟨Ra ⟨rfl,by w_fin,by w_fin,by dsimp only [eV,Cx.o3,Cx.wish,PyProof.Rows.envOfC];decide +kernel,by w_fin⟩,rfl⟩ (OO (K:=K) rfl (pv 1)) (fun _ _ _ _ _=>(eU (i:=0) (show ((["_law_one"]:List Str) ++ (["_law_turning_here","_law_called"]:List Str)).Nodup by w_fin) rfl (by w_up))) (fun _ _ _ _ _=>tm) (fun _ _ _ _ _=>(Hl (K:=K) rfl PySem.F.plainAttrs_list PySem.F.slot_list_index PySem.F.type_list_index (Sd (K:=K) rfl) (pv 2) (@ao _ _ _ _ _ (@cb _ _ _ _ _ _ _ (zP (K:=K) rfl) (pv 1) (pv 0) (fun _ _=>rfl)) az (by rfl))))) az (by rfl))))) az (by rfl))))))),?_⟩
 exact jN (b:=Fp) (bq (bQ (kh (au (aj 1) aA)) (aS 2))
  (bq (mv (Cp (cg tK (au (cg E6 (au (cg kl (au (aI gy (aj 0) (aU _)) aA)) aA)) aA))) (aS 3) (mv (sv (aj 0)) (aS 4) (km (Cc (gG (aI zW (aj 3) (cg kl (au (aj 2) aA)))) (gG (aI (Cj true) (aI gy (aj 4) (aI iZ (aj 2) (aj 3))) (aj 2)))) (pC (mq pB (aj 2) (au (aI gy (aj 4) (aI iZ (aj 2) (aj 3))) aA))) kD)))
  (gY (cg n4 (au (qT (sv (aj 0)) (aS 0) tM (cg n4 (au (qT (Cp (aj 1)) (aS 0) tM (mq Se (aj 2) (au (aI gy (aj 1) (aj 0)) aA))) aA))) aA))))) rfl h
def Fs:ai->Dm Fl :=
 (bI (aN kQ (af (d5 (cq (af (aN cM (af (aD bA (ag 0) (fC (.int 0))) ah)) ah)) 1 [0] (hName 0) fM (aN Df (af (ag 1) (af (ag 0) ah)))) ah)))
def wc:List D->Dm D:=iR 1 Fs
def Dh:Stmt:=top 45
theorem To:aE ["_law_floor_here"] ["_law_floor_here"] (aq Dh):=⟨rfl,rfl,rfl,by w_fin,rfl,by w_fin,by w_fin⟩
theorem Tp{f:Addr}{fd:FuncData}(D:Def K mg "_law_form" Dh ["_law_floor_here"] f fd)(T:Txt mg)  {c7:Addr}{c9:FuncData}(dc:Def K mg "_law_numbered" Dg ["_law_floor_here","_law_s"] c7 c9)(fq:aH P w K mg base bW 1 c7 c9 ["_law_floor_here","_law_s"] (cy K 2 Df)):aH P w K mg base bW 2 f fd ["_law_floor_here"] (cy K 1 wc):=by
 refine D.F.ok To (fun _ _ _ _ h=>h.1) (fun c A o s H v Q E hr h=>?_);have hu:=hr.units;refine ⟨_,(@bz _ _ _ (@gS _ _ _ _ (iL (Kx rfl hu) (by rfl) T.sI G2 (@ao _ _ _ _ _ (tq (own:=["_law_s"]) (fr:=["_law_floor_here"]) (js:=[0]) rfl ⟨⟨rfl,by w_fin,by w_fin,by dsimp only [eV,aL,Cx.o3,Cx.wish,PyProof.Rows.envOfC,compEnvC,relabel,Env.kindOf];decide +kernel,by w_fin⟩,rfl⟩ (pM rfl T.aP (@ao _ _ _ _ _ (iL ke (by rfl) T.bL kf (@ao _ _ _ _ _ (@cb _ _ _ _ _ _ _ iP (pv 0) aT (fun _ _=>rfl)) az (by rfl))) az (by rfl))) (fun _ _ _ _ _=>(eU (i:=0) (show ((["_law_s"]:List Str) ++ (["_law_floor_here"]:List Str)).Nodup by w_fin) rfl (by w_up))) (fun _ _ _ _ _=>tm) (fun _ _ _ _ _=>(e8 fq dc hr (by decide) rfl (@ao _ _ _ _ _ (pv 1) (@ao _ _ _ _ _ (pv 0) az (by rfl)) (by rfl))))) az (by rfl))))),?_⟩;exact jN (b:=Fs) (gY (cg Mm (au (qT (qd (au (cg kl (au (aI gy (aj 0) (aU _)) aA)) aA)) (aS 0) tM (eZ (F:=Df) (au (aj 1) (au (aj 0) aA)) jP)) aA))) rfl h
def Ft:ai->Dm Fl :=
 (ay (fK (aC (aD vP (ag 2) (fC (.int 0)))) (ay (aG (aN bM (af (d5 (cq (af (aN cM (af (ag 0) ah)) ah)) 1 [0] (hName 0) fM (jE "tuple" i5 (ag 1) (af (ag 0) ah))) ah)) (hName 0))
 (aG (aD oh (fC (.int 0)) (ag 2)) (hName 2))) aW)
 (ay (aG (cL (af (ag 1) ah)) (hName 3))
 (ay (gZ (aC (aD (kU true) (aD bA (ag 0) (aD bP (ag 3) (ux mj (fC (.int 1))))) (ag 1))) (cw (jE "list" aR (ag 3) (af (aD bA (ag 0) (aD bP (ag 3) (ux mj (fC (.int 1))))) ah))))
 (bI (aD bP (ag 3) (aD iY (ag 2) (aN cM (af (ag 3) ah))))))))
def Di:List D->Dm D:=iR 4 Ft
def Dj:Stmt:=top 42
theorem Fu:aE ["_law_turning_here","_law_s","_law_k","_law_ring"] ["_law_turning_here","_law_s","_law_k"] (aq Dj):=⟨rfl,rfl,rfl,by w_fin,rfl,by w_fin,by w_fin⟩
theorem Tq{f:Addr}{fd:FuncData}(D:Def K mg "_law_behind" Dj ["_law_turning_here","_law_s","_law_k"] f fd)(T:Txt mg) :aH P w K mg base bW 1 f fd ["_law_turning_here","_law_s","_law_k"] (cy K 3 Di):=by
 refine D.F.ok Fu (fun _ _ _ _ h=>h.1) (fun c A o s H v Q E hr h=>?_)
 refine ⟨_,(@bg _ _ _ _ _ (@jS _ _ _ _ _ _ _ _ (gO zG (pv 2) aT (aK _)) (@bg _ _ _ _ _ (@b9 (i:=0) _ _ _ _ _ _ Fu.nd rfl (by w_up) (gx nW (by rfl) T.bG nX (@ao _ _ _ _ _ (tq (own:=["_law_one"]) (fr:=["_law_turning_here"]) (js:=[0]) rfl ⟨⟨rfl,by w_fin,by w_fin,by dsimp only [eV,aL,Cx.o3,Cx.wish,PyProof.Rows.envOfC,compEnvC,relabel,Env.kindOf];decide +kernel,by w_fin⟩,rfl⟩ (pM rfl T.aP (@ao _ _ _ _ _ (iL ke (by rfl) T.bL kf (@ao _ _ _ _ _ (pv 0) az (by rfl))) az (by rfl))) (fun _ _ _ _ _=>(eU (i:=0) (show ((["_law_one"]:List Str) ++ (["_law_turning_here"]:List Str)).Nodup by w_fin) rfl (by w_up))) (fun _ _ _ _ _=>tm) (fun _ _ _ _ _=>(Hl (K:=K) rfl PySem.F.plainAttrs_tuple PySem.F.slot_tuple_index PySem.F.type_tuple_index (Kr (K:=K) rfl) (pv 1) (@ao _ _ _ _ _ (pv 0) az (by rfl))))) az (by rfl))) (by rfl) (by w_up))
  (@bz _ _ _ (@b9 (i:=2) _ _ _ _ _ _ Fu.nd rfl (by w_up) (cW GA aT (pv 2)) (by rfl) (by w_up)))) kC)
  (@bg _ _ _ _ _ (@b9 (i:=3) _ _ _ _ _ _ Fu.nd rfl (by w_up) (@kc _ _ _ _ (@ao _ _ _ _ _ (pv 1) az (by rfl))) (by rfl) (by w_up))
  (@bg _ _ _ _ _ (zF PassesOwn.never (gO Er (@cb _ _ _ _ _ _ _ iP (pv 0) (@cb _ _ _ _ _ _ _ kN (pv 3) (wQ wU aT) (fun _ _=>rfl)) (fun _ _=>rfl)) (pv 1) (aK _)) (@bz _ _ _ (o9 (m9 PySem.F.plainAttrs_list PySem.F.slot_list_append PySem.F.type_list_append ph (pv 3) (@ao _ _ _ _ _ (@cb _ _ _ _ _ _ _ iP (pv 0) (@cb _ _ _ _ _ _ _ kN (pv 3) (wQ wU aT) (fun _ _=>rfl)) (fun _ _=>rfl)) az (by rfl))))))
  (@bz _ _ _ (@gS _ _ _ _ (@cb _ _ _ _ _ _ _ kN (pv 3) (cW qm (pv 2) (iL ke (by rfl) T.bL kf (@ao _ _ _ _ _ (pv 3) az (by rfl)))) (fun _ _=>rfl))))))),?_⟩
 exact jN (b:=Ft) (bq (km (gG (aI zW (aj 2) (aU _))) (bq (bQ (cg n4 (au (qT (qd (au (cg kl (au (aj 0) aA)) aA)) (aS 0) tM (mq LK (aj 1) (au (aj 0) aA))) aA)) (aS 0))
  (bQ (aI Ig (aU _) (aj 2)) (aS 2))) kD)
  (bq (bQ (kh (au (aj 1) aA)) (aS 3))
  (bq (Cm (gG (aI E3 (aI gy (aj 0) (aI iZ (aj 3) (xO xU (aU _)))) (aj 1))) (pC (mq pB (aj 3) (au (aI gy (aj 0) (aI iZ (aj 3) (xO xU (aU _)))) aA))))
  (gY (aI iZ (aj 3) (aI qA (aj 2) (cg kl (au (aj 3) aA)))))))) rfl h
def Ag:ai->Dm Fl :=
 (ay (aG (ag 0) (lQ 2 (cJ (hName 2) (cJ (hName 3) mr))))
 (ay (fK (aC (aD (kU false) (aD bA (ag 1) (fC (.int 0))) (fC (.str "s")))) (bI (bS (af (ag 2) (af (aN bM (af (d5 (cq (af (aN cM (af (ag 3) ah)) ah)) 1 [1,2,3] (hName 0) fM (aD bA (ag 3) (aN Di (af (ag 2) (af (ag 0) (af (aD oh (fC (.int 0)) (aD bA (ag 1) (fC (.int 1)))) ah)))))) ah)) ah)))) aW)
 (ay (dZ (cq (af (aD iY (aD bA (ag 1) (fC (.int 1))) (fC (.int 4))) ah)) (hName 4) (aG (bS (af (aN bM (af (d5 (cq (af (aN cM (af (ag 3) ah)) ah)) 1 [3] (hName 0) fM (jE "tuple" i5 (ag 1) (af (ag 0) ah))) ah)) (af (ag 2) ah))) (lQ 2 (cJ (hName 2) (cJ (hName 3) mr)))))
 (bI (bS (af (ag 2) (af (ag 3) ah)))))))
def wg:List D->Dm D:=iR 5 Ag
def Dk:Stmt:=top 43
theorem Ah:aE ["_law_floor_here","_law_step","_law_right","_law_up","_law_turn"] ["_law_floor_here","_law_step"] (aq Dk):=⟨rfl,rfl,rfl,by w_fin,rfl,by w_fin,by w_fin⟩
theorem Tr{f:Addr}{fd:FuncData}(D:Def K mg "_law_stepped" Dk ["_law_floor_here","_law_step"] f fd)(T:Txt mg)  {eC:Addr}{eE:FuncData}(eG:Def K mg "_law_behind" Dj ["_law_turning_here","_law_s","_law_k"] eC eE)(hU:aH P w K mg base bW 1 eC eE ["_law_turning_here","_law_s","_law_k"] (cy K 3 Di)):aH P w K mg base bW 2 f fd ["_law_floor_here","_law_step"] (cy K 2 wg):=by
 refine D.F.ok Ah (fun _ _ _ _ h=>h.1) (fun c A o s H v Q E hr h=>?_)
 refine ⟨_,(@bg _ _ _ _ _ (u3 (pv 0) (uZ (n:=2) rfl (mE (eU (i:=2) Ah.nd rfl (by w_up)) (mE (eU (i:=3) Ah.nd rfl (by w_up)) uY))))
  (@bg _ _ _ _ _ (@jS _ _ _ _ _ _ _ _ (gO rq (@cb _ _ _ _ _ _ _ iP (pv 1) aT (fun _ _=>rfl)) qL (aK _)) (@bz _ _ _ (@gS _ _ _ _ (@iU _ _ _ _ _ (@ao _ _ _ _ _ (pv 2) (@ao _ _ _ _ _ (gx nW (by rfl) T.bG nX (@ao _ _ _ _ _ (tq (own:=["_law_s"]) (fr:=["_law_step","_law_right","_law_up"]) (js:=[1,2,3]) rfl ⟨⟨rfl,by w_fin,by w_fin,by dsimp only [eV,aL,Cx.o3,Cx.wish,PyProof.Rows.envOfC,compEnvC,relabel,Env.kindOf];decide +kernel,by w_fin⟩,rfl⟩ (pM rfl T.aP (@ao _ _ _ _ _ (iL ke (by rfl) T.bL kf (@ao _ _ _ _ _ (pv 3) az (by rfl))) az (by rfl))) (fun _ _ _ _ _=>(eU (i:=0) (show ((["_law_s"]:List Str) ++ (["_law_step","_law_right","_law_up"]:List Str)).Nodup by w_fin) rfl (by w_up))) (fun _ _ _ _ _=>tm) (fun _ _ _ _ _=>(@cb _ _ _ _ _ _ _ (zP (K:=K) rfl) (pv 3) (e8 hU eG hr (by decide) rfl (@ao _ _ _ _ _ (pv 2) (@ao _ _ _ _ _ (pv 0) (@ao _ _ _ _ _ (cW GA aT (@cb _ _ _ _ _ _ _ (zP (K:=K) rfl) (pv 1) aT (fun _ _=>rfl))) az (by rfl)) (by rfl)) (by rfl))) (fun _ _=>rfl)))) az (by rfl))) az (by rfl)) (by rfl))))) kC)
  (@bg _ _ _ _ _ (@l9 _ _ _ _ _ _ _ _ PassesOwn.never rfl (pM rfl T.aP (@ao _ _ _ _ _ (cW qm (@cb _ _ _ _ _ _ _ iP (pv 1) aT (fun _ _=>rfl)) aT) az (by rfl))) (eU (i:=4) Ah.nd rfl (by w_up)) (@bz _ _ _ (u3 (@iU _ _ _ _ _ (@ao _ _ _ _ _ (gx nW (by rfl) T.bG nX (@ao _ _ _ _ _ (tq (own:=["_law_s"]) (fr:=["_law_up"]) (js:=[3]) rfl ⟨⟨rfl,by w_fin,by w_fin,by dsimp only [eV,aL,Cx.o3,Cx.wish,PyProof.Rows.envOfC,compEnvC,relabel,Env.kindOf];decide +kernel,by w_fin⟩,rfl⟩ (pM rfl T.aP (@ao _ _ _ _ _ (iL ke (by rfl) T.bL kf (@ao _ _ _ _ _ (pv 3) az (by rfl))) az (by rfl))) (fun _ _ _ _ _=>(eU (i:=0) (show ((["_law_s"]:List Str) ++ (["_law_up"]:List Str)).Nodup by w_fin) rfl (by w_up))) (fun _ _ _ _ _=>tm) (fun _ _ _ _ _=>(Hl (K:=K) rfl PySem.F.plainAttrs_tuple PySem.F.slot_tuple_index PySem.F.type_tuple_index (Kr (K:=K) rfl) (pv 1) (@ao _ _ _ _ _ (pv 0) az (by rfl))))) az (by rfl))) (@ao _ _ _ _ _ (pv 2) az (by rfl)) (by rfl))) (uZ (n:=2) rfl (mE (eU (i:=2) Ah.nd rfl (by w_up)) (mE (eU (i:=3) Ah.nd rfl (by w_up)) uY))))) (by intro _;rfl))
  (@bz _ _ _ (@gS _ _ _ _ (@iU _ _ _ _ _ (@ao _ _ _ _ _ (pv 2) (@ao _ _ _ _ _ (pv 3) az (by rfl)) (by rfl)))))))),?_⟩
 exact jN (b:=Ag) (bq (bQ (aj 0) (vT (mO (aS 2) (mO (aS 3) vS))))
  (bq (km (gG (aI si (aI gy (aj 1) (aU _)) (tJ _))) (gY (jL (au (aj 2) (au (cg n4 (au (qT (qd (au (cg kl (au (aj 3) aA)) aA)) (aS 0) tM (aI gy (aj 3) (eZ (F:=Di) (au (aj 2) (au (aj 0) (au (aI Ig (aU _) (aI gy (aj 1) (aU _))) aA))) MI))) aA)) aA)))) kD)
  (bq (mv (qd (au (aI qA (aI gy (aj 1) (aU _)) (aU _)) aA)) (aS 4) (bQ (jL (au (cg n4 (au (qT (qd (au (cg kl (au (aj 3) aA)) aA)) (aS 0) tM (mq LK (aj 1) (au (aj 0) aA))) aA)) (au (aj 2) aA))) (vT (mO (aS 2) (mO (aS 3) vS)))))
  (gY (jL (au (aj 2) (au (aj 3) aA))))))) rfl h
def Fv:ai->Dm Fl :=
 (ay (aG (cL ah) (hName 1))
 (ay (dZ (fL (ag 0)) (lQ 2 (cJ (hName 2) (cJ (hName 3) mr))) (ay (fK (mh (aC (aD (kW true) (ag 1) (cL ah))) (aC (aD (kU false) (aD bA (aD bP (ag 1) (ux mj (fC (.int 1)))) (fC (.int 0))) (ag 2)))) (aG (aD gW (aD bA (uG "list" uK (ag 1)) (fC (.int 1))) (ag 3)) (hName 3)) aW)
 (ay (fK (aC (aD (kU false) (ag 2) (fC (.str "t")))) (aG (aD iY (ag 3) (fC (.int 4))) (hName 3)) aW)
 (fK (aC (aD (kU true) (ag 3) (fC (.int 0)))) (cw (jE "list" aR (ag 1) (af (bS (af (ag 2) (af (ag 3) ah))) ah))) aW))))
 (bI (aN bM (af (ag 1) ah)))))
def Ai:List D->Dm D:=iR 4 Fv
def Dl:Stmt:=top 46
theorem Aj:aE ["_law_word","_law_found","_law_letter","_law_k"] ["_law_word"] (aq Dl):=⟨rfl,rfl,rfl,by w_fin,rfl,by w_fin,by w_fin⟩
theorem Ts{f:Addr}{fd:FuncData}(D:Def K mg "_law_plain" Dl ["_law_word"] f fd)(T:Txt mg) :aH P w K mg base bW 1 f fd ["_law_word"] (cy K 1 Ai):=by
 refine D.F.ok Aj (fun _ _ _ _ h=>h.1) (fun c A o s H v Q E hr h=>?_);have hu:=hr.units
 refine ⟨_,(@bg _ _ _ _ _ (@b9 (i:=1) _ _ _ _ _ _ Aj.nd rfl (by w_up) (@kc _ _ _ _ az) (by rfl) (by w_up))
  (@bg _ _ _ _ _ (@l9 _ _ _ _ _ _ _ _ PassesOwn.never rfl (rn (pv 0)) (uZ (n:=2) rfl (mE (eU (i:=2) Aj.nd rfl (by w_up)) (mE (eU (i:=3) Aj.nd rfl (by w_up)) uY))) (@bg _ _ _ _ _ (@jS _ _ _ _ _ _ _ _ (PW.pt (AJ (gO (G4 hu) (pv 1) (@kc _ _ _ _ az) (aK _)) (El (gO rq (@cb _ _ _ _ _ _ _ iP (@cb _ _ _ _ _ _ _ kN (pv 1) (wQ wU aT) (fun _ _=>rfl)) aT (fun _ _=>rfl)) (pv 2) (aK _))))) (@bz _ _ _ (@b9 (i:=3) _ _ _ _ _ _ Aj.nd rfl (by w_up) (cW oi (@cb _ _ _ _ _ _ _ iP (xc PySem.F.plainAttrs_list PySem.F.slot_list_pop PySem.F.type_list_pop xg (pv 1)) aT (fun _ _=>rfl)) (pv 3)) (by rfl) (by w_up))) kC)
  (@bg _ _ _ _ _ (@jS _ _ _ _ _ _ _ _ (gO rq (pv 2) qL (aK _)) (@bz _ _ _ (@b9 (i:=3) _ _ _ _ _ _ Aj.nd rfl (by w_up) (cW qm (pv 3) aT) (by rfl) (by w_up))) kC)
  (@bz _ _ _ (@jS _ _ _ _ _ _ _ _ (gO Er (pv 3) aT (aK _)) (@bz _ _ _ (o9 (m9 PySem.F.plainAttrs_list PySem.F.slot_list_append PySem.F.type_list_append ph (pv 1) (@ao _ _ _ _ _ (@iU _ _ _ _ _ (@ao _ _ _ _ _ (pv 2) (@ao _ _ _ _ _ (pv 3) az (by rfl)) (by rfl))) az (by rfl))))) kC)))) (by intro _;rfl))
  (@bz _ _ _ (@gS _ _ _ _ (gx nW (by rfl) T.bG nX (@ao _ _ _ _ _ (pv 1) az (by rfl))))))),?_⟩
 exact jN (b:=Fv) (bq (bQ (kh aA) (aS 1))
  (bq (mv (sv (aj 0)) (vT (mO (aS 2) (mO (aS 3) vS))) (bq (km (Cc (gG (aI (E4 true) (aj 1) (kh aA))) (gG (aI si (aI gy (aI iZ (aj 1) (xO xU (aU _))) (aU _)) (aj 2)))) (bQ (aI oE (aI gy (yV za (aj 1)) (aU _)) (aj 3)) (aS 3)) kD)
  (bq (km (gG (aI si (aj 2) (tJ _))) (bQ (aI qA (aj 3) (aU _)) (aS 3)) kD)
  (km (gG (aI E3 (aj 3) (aU _))) (pC (mq pB (aj 1) (au (jL (au (aj 2) (au (aj 3) aA))) aA))) kD))))
  (gY (cg n4 (au (aj 1) aA))))) rfl h
def Fw:ai->Dm Fl :=
 (ay (aG (cL (af (aN wc (af (ag 0) ah)) ah)) (hName 2))
 (ay (aG (cL (af (bS ah) ah)) (hName 3))
 (ay (aG (cL ah) (hName 4))
 (ay (dZ (cq (af (ag 1) ah)) (hName 5) (fK (aC (aD vP (ag 5) (aN cM (af (ag 2) ah)))) (ay (cw (jE "list" aR (ag 4) (af (cL ah) ah)))
 (ay (dZ (fL (bS (af (bS (af (fC (.str "s")) (af (fC (.int 1)) ah))) (af (bS (af (fC (.str "t")) (af (fC (.int 1)) ah))) ah)))) (hName 6) (ay (aG (aN wc (af (aN wg (af (aD bP (ag 2) (ag 5)) (af (ag 6) ah))) ah)) (hName 7))
 (ay (fK (aC (aD (oJ true) (ag 7) (ag 2))) (ay (cw (jE "list" aR (ag 2) (af (ag 7) ah)))
 (cw (jE "list" aR (ag 3) (af (aN Ai (af (aD kj (aD bP (ag 3) (ag 5)) (bS (af (ag 6) ah))) ah)) ah)))) aW)
 (cw (jE "list" aR (aD bP (ag 4) (ag 5)) (af (jE "list" dD (ag 2) (af (ag 7) ah)) ah))))))
 (fK (aC (aD sg (aN cM (af (ag 2) ah)) (ag 1))) (bI (fC .non)) aW))) aW))
 (bI (aN bM (af (d5 (cq (af (aN cM (af (ag 2) ah)) ah)) 1 [2,3,4] (hName 0) fM (bS (af (aD bP (ag 1) (ag 0)) (af (aD bP (ag 2) (ag 0)) (af (aD bP (aD bP (ag 3) (ag 0)) (fC (.int 0))) (af (aD bP (aD bP (ag 3) (ag 0)) (fC (.int 1))) ah)))))) ah)))))))
def Dn:List D->Dm D:=iR 8 Fw
def Dp:Stmt:=top 47
theorem zg:aE ["_law_floor_here","_law_most","_law_forms","_law_words","_law_links","_law_at","_law_step","_law_fresh"] ["_law_floor_here","_law_most"] (aq Dp):=⟨rfl,rfl,rfl,by w_fin,rfl,by w_fin,by w_fin⟩
theorem Tt{f:Addr}{fd:FuncData}(D:Def K mg "_law_chart" Dp ["_law_floor_here","_law_most"] f fd)(T:Txt mg)  {hV:Addr}{h7:FuncData}(ft:Def K mg "_law_form" Dh ["_law_floor_here"] hV h7)(h8:aH P w K mg base bW 2 hV h7 ["_law_floor_here"] (cy K 1 wc)){dH:Addr}{dJ:FuncData}(dM:Def K mg "_law_stepped" Dk ["_law_floor_here","_law_step"] dH dJ)(gh:aH P w K mg base bW 2 dH dJ ["_law_floor_here","_law_step"] (cy K 2 wg)){fN:Addr}{fO:FuncData}(fP:Def K mg "_law_plain" Dl ["_law_word"] fN fO)(jc:aH P w K mg base bW 1 fN fO ["_law_word"] (cy K 1 Ai)):aH P w K mg base bW 3 f fd ["_law_floor_here","_law_most"] (cy K 2 Dn):=by
 refine D.F.ok zg (fun _ _ _ _ h=>h.1) (fun c A o s H v Q E hr h=>?_);have hu:=hr.units
 refine ⟨_,(@bg _ _ _ _ _ (@b9 (i:=2) _ _ _ _ _ _ zg.nd rfl (by w_up) (@kc _ _ _ _ (@ao _ _ _ _ _ (e8 h8 ft hr (by decide) rfl (@ao _ _ _ _ _ (pv 0) az (by rfl))) az (by rfl))) (by rfl) (by w_up))
  (@bg _ _ _ _ _ (@b9 (i:=3) _ _ _ _ _ _ zg.nd rfl (by w_up) (@kc _ _ _ _ (@ao _ _ _ _ _ (@iU _ _ _ _ _ az) az (by rfl))) (by rfl) (by w_up))
  (@bg _ _ _ _ _ (@b9 (i:=4) _ _ _ _ _ _ zg.nd rfl (by w_up) (@kc _ _ _ _ az) (by rfl) (by w_up))
  (@bg _ _ _ _ _ (@l9 _ _ _ _ _ _ _ _ PassesOwn.never rfl (pM rfl T.aP (@ao _ _ _ _ _ (pv 1) az (by rfl))) (eU (i:=5) zg.nd rfl (by w_up)) (@bz _ _ _ (@jS _ _ _ _ _ _ _ _ (gO zG (pv 5) (iL ke (by rfl) T.bL kf (@ao _ _ _ _ _ (pv 2) az (by rfl))) (aK _)) (@bg _ _ _ _ _ (o9 (m9 PySem.F.plainAttrs_list PySem.F.slot_list_append PySem.F.type_list_append ph (pv 4) (@ao _ _ _ _ _ (@kc _ _ _ _ az) az (by rfl))))
  (@bg _ _ _ _ _ (@l9 _ _ _ _ _ _ _ _ PassesOwn.never rfl (rn (@iU _ _ _ _ _ (@ao _ _ _ _ _ (@iU _ _ _ _ _ (@ao _ _ _ _ _ qL (@ao _ _ _ _ _ aT az (by rfl)) (by rfl))) (@ao _ _ _ _ _ (@iU _ _ _ _ _ (@ao _ _ _ _ _ qL (@ao _ _ _ _ _ aT az (by rfl)) (by rfl))) az (by rfl)) (by rfl)))) (eU (i:=6) zg.nd rfl (by w_up)) (@bg _ _ _ _ _ (@b9 (i:=7) _ _ _ _ _ _ zg.nd rfl (by w_up) (e8 h8 ft hr (by decide) rfl (@ao _ _ _ _ _ (e8 gh dM hr (by decide) rfl (@ao _ _ _ _ _ (@cb _ _ _ _ _ _ _ kN (pv 2) (pv 5) (fun _ _=>rfl)) (@ao _ _ _ _ _ (pv 6) az (by rfl)) (by rfl))) az (by rfl))) (by rfl) (by w_up))
  (@bg _ _ _ _ _ (@jS _ _ _ _ _ _ _ _ (gO (Ks hu) (pv 7) (pv 2) (by with_unfolding_all rfl)) (@bg _ _ _ _ _ (o9 (m9 PySem.F.plainAttrs_list PySem.F.slot_list_append PySem.F.type_list_append ph (pv 2) (@ao _ _ _ _ _ (pv 7) az (by rfl))))
  (@bz _ _ _ (o9 (m9 PySem.F.plainAttrs_list PySem.F.slot_list_append PySem.F.type_list_append ph (pv 3) (@ao _ _ _ _ _ (e8 jc fP hr (by decide) rfl (@ao _ _ _ _ _ (cW Bp (@cb _ _ _ _ _ _ _ kN (pv 3) (pv 5) (fun _ _=>rfl)) (@iU _ _ _ _ _ (@ao _ _ _ _ _ (pv 6) az (by rfl)))) az (by rfl))) az (by rfl)))))) kC)
  (@bz _ _ _ (o9 (m9 PySem.F.plainAttrs_list PySem.F.slot_list_append PySem.F.type_list_append ph (@cb _ _ _ _ _ _ _ kN (pv 4) (pv 5) (fun _ _=>rfl)) (@ao _ _ _ _ _ (m9 PySem.F.plainAttrs_list PySem.F.slot_list_index PySem.F.type_list_index (K1 hu) (pv 2) (@ao _ _ _ _ _ (pv 7) az (by rfl))) az (by rfl))))))) (by intro _;rfl))
  (@bz _ _ _ (@jS _ _ _ _ _ _ _ _ (gO u9 (iL ke (by rfl) T.bL kf (@ao _ _ _ _ _ (pv 2) az (by rfl))) (pv 1) (aK _)) (@bz _ _ _ (@gS _ _ _ _ AG)) kC)))) kC)) (by intro _;rfl))
  (@bz _ _ _ (@gS _ _ _ _ (gx nW (by rfl) T.bG nX (@ao _ _ _ _ _ (tq (own:=["_law_at"]) (fr:=["_law_forms","_law_words","_law_links"]) (js:=[2,3,4]) rfl ⟨⟨rfl,by w_fin,by w_fin,by dsimp only [eV,aL,Cx.o3,Cx.wish,PyProof.Rows.envOfC,compEnvC,relabel,Env.kindOf];decide +kernel,by w_fin⟩,rfl⟩ (pM rfl T.aP (@ao _ _ _ _ _ (iL ke (by rfl) T.bL kf (@ao _ _ _ _ _ (pv 2) az (by rfl))) az (by rfl))) (fun _ _ _ _ _=>(eU (i:=0) (show ((["_law_at"]:List Str) ++ (["_law_forms","_law_words","_law_links"]:List Str)).Nodup by w_fin) rfl (by w_up))) (fun _ _ _ _ _=>tm) (fun _ _ _ _ _=>(@iU _ _ _ _ _ (@ao _ _ _ _ _ (@cb _ _ _ _ _ _ _ (tu (K:=K) rfl) (pv 1) (pv 0) (fun _ _=>rfl)) (@ao _ _ _ _ _ (@cb _ _ _ _ _ _ _ (tu (K:=K) rfl) (pv 2) (pv 0) (fun _ _=>rfl)) (@ao _ _ _ _ _ (@cb _ _ _ _ _ _ _ (tu (K:=K) rfl) (@cb _ _ _ _ _ _ _ (tu (K:=K) rfl) (pv 3) (pv 0) (fun _ _=>rfl)) aT (fun _ _=>rfl)) (@ao _ _ _ _ _ (@cb _ _ _ _ _ _ _ (tu (K:=K) rfl) (@cb _ _ _ _ _ _ _ (tu (K:=K) rfl) (pv 3) (pv 0) (fun _ _=>rfl)) aT (fun _ _=>rfl)) az (by rfl)) (by rfl)) (by rfl)) (by rfl))))) az (by rfl))))))))),?_⟩
 exact jN (b:=Fw) (bq (bQ (kh (au (eZ (F:=wc) (au (aj 0) aA) n9) aA)) (aS 2))
  (bq (bQ (kh (au (jL aA) aA)) (aS 3))
  (bq (bQ (kh aA) (aS 4))
  (bq (mv (qd (au (aj 1) aA)) (aS 5) (km (gG (aI zW (aj 5) (cg kl (au (aj 2) aA)))) (bq (pC (mq pB (aj 4) (au (kh aA) aA)))
  (bq (mv (sv (jL (au (jL (au (tJ _) (au (aU _) aA))) (au (jL (au (tJ _) (au (aU _) aA))) aA)))) (aS 6) (bq (bQ (eZ (F:=wc) (au (eZ (F:=wg) (au (aI iZ (aj 2) (aj 5)) (au (aj 6) aA)) jP) aA) n9) (aS 7))
  (bq (km (gG (aI (Mk true) (aj 7) (aj 2))) (bq (pC (mq pB (aj 2) (au (aj 7) aA)))
  (pC (mq pB (aj 3) (au (eZ (F:=Ai) (au (aI Ci (aI iZ (aj 3) (aj 5)) (jL (au (aj 6) aA))) aA) n9) aA)))) kD)
  (pC (mq pB (aI iZ (aj 4) (aj 5)) (au (mq Mw (aj 2) (au (aj 7) aA)) aA))))))
  (km (gG (aI vR (cg kl (au (aj 2) aA)) (aj 1))) (gY Ca) kD))) kD))
  (gY (cg n4 (au (qT (qd (au (cg kl (au (aj 2) aA)) aA)) (aS 0) tM (jL (au (aI iZ (aj 1) (aj 0)) (au (aI iZ (aj 2) (aj 0)) (au (aI iZ (aI iZ (aj 3) (aj 0)) (aU _)) (au (aI iZ (aI iZ (aj 3) (aj 0)) (aU _)) aA)))))) aA))))))) rfl h
def Fx:ai->Dm Fl :=
 (ay (aG (aD bP (cL (af (aD gW (fC (.int 1)) (aN oN (af (ag 0) (af (fC (.int 5)) ah)))) (af (fC (.int 6)) ah))) (aD mL (aN oN (af (ag 0) (af (fC (.int 8)) ah))) (fC (.int 7)))) (hName 1))
 (ay (aG (aN Dd (af (ag 0) (af (ag 1) ah))) (hName 2))
 (ay (aG (aN Dn (af (ag 2) (af (fC (.int 60)) ah))) (hName 3))
 (ay (aG (fC (.int 61)) (hName 4))
 (ay (fK (aC (aD (pF true) (ag 3) (fC .non))) (aG (aN cM (af (ag 3) ah)) (hName 4)) aW)
 (ay (aG (cL (af (fC .non) (af (aN qc (af (fC (.int 60)) (af (ag 4) ah))) (af (aN qa (af (fC (.int 1)) (af (aD oh (ag 4) (fC (.int 1))) ah))) (af (aD gW (fC (.int 1)) (aN oN (af (ag 0) (af (fC (.int 60)) ah)))) ah))))) (hName 5))
 (bI (bS (af (ag 2) (af (ag 3) (af (ag 4) (af (xS qB (ag 5) ki (kO (aD bP (cL (af (fC (.int 4)) (af (fC (.int 3)) ah))) (aN oG (af (aD sg (ag 4) (fC (.int 20))) ah))))) ah))))))))))))
def Dq:List D->Dm D:=iR 6 Fx
def Dr:Stmt:=top 48
theorem zh:aE ["_law_feed_here","_law_n","_law_floor_here","_law_due","_law_many","_law_mosts"] ["_law_feed_here"] (aq Dr):=⟨rfl,rfl,rfl,by w_fin,rfl,by w_fin,by w_fin⟩
theorem Tv{f:Addr}{fd:FuncData}(D:Def K mg "_law_bounded" Dr ["_law_feed_here"] f fd)(T:Txt mg)  {fQ:Addr}{fR:FuncData}(fS:Def K mg "_law_floor" De ["_law_feed_here","_law_n"] fQ fR)(jd:aH P w K mg base bW 3 fQ fR ["_law_feed_here","_law_n"] (cy K 2 Dd)){fT:Addr}{fU:FuncData}(fV:Def K mg "_law_chart" Dp ["_law_floor_here","_law_most"] fT fU)(je:aH P w K mg base bW 3 fT fU ["_law_floor_here","_law_most"] (cy K 2 Dn)){bN:Addr}{bO:FuncData}(aY:Def K mg "_law_take" ze ["_law_feed_here","_law_many"] bN bO)(bp:aH P w K mg base bW 1 bN bO ["_law_feed_here","_law_many"] (cy K 2 oN)):aH P w K mg base bW 4 f fd ["_law_feed_here"] (cy K 1 Dq):=by
 refine D.F.ok zh (fun _ _ _ _ h=>h.1) (fun c A o s H v Q E hr h=>?_)
 refine ⟨_,(@bg _ _ _ _ _ (@b9 (i:=1) _ _ _ _ _ _ zh.nd rfl (by w_up) (@cb _ _ _ _ _ _ _ kN (@kc _ _ _ _ (@ao _ _ _ _ _ (cW oi aT (e8 bp aY hr (by decide) rfl (@ao _ _ _ _ _ (pv 0) (@ao _ _ _ _ _ aT az (by rfl)) (by rfl)))) (@ao _ _ _ _ _ aT az (by rfl)) (by rfl))) (cW GB (e8 bp aY hr (by decide) rfl (@ao _ _ _ _ _ (pv 0) (@ao _ _ _ _ _ aT az (by rfl)) (by rfl))) aT) (fun _ _=>rfl)) (by rfl) (by w_up))
  (@bg _ _ _ _ _ (@b9 (i:=2) _ _ _ _ _ _ zh.nd rfl (by w_up) (e8 jd fS hr (by decide) rfl (@ao _ _ _ _ _ (pv 0) (@ao _ _ _ _ _ (pv 1) az (by rfl)) (by rfl))) (by rfl) (by w_up))
  (@bg _ _ _ _ _ (@b9 (i:=3) _ _ _ _ _ _ zh.nd rfl (by w_up) (e8 je fV hr (by decide) rfl (@ao _ _ _ _ _ (pv 2) (@ao _ _ _ _ _ aT az (by rfl)) (by rfl))) (by rfl) (by w_up))
  (@bg _ _ _ _ _ (@b9 (i:=4) _ _ _ _ _ _ zh.nd rfl (by w_up) aT (by rfl) (by w_up))
  (@bg _ _ _ _ _ (@jS _ _ _ _ _ _ _ _ (gO Sy (pv 3) AG (aK _)) (@bz _ _ _ (@b9 (i:=4) _ _ _ _ _ _ zh.nd rfl (by w_up) (iL ke (by rfl) T.bL kf (@ao _ _ _ _ _ (pv 3) az (by rfl))) (by rfl) (by w_up))) kC)
  (@bg _ _ _ _ _ (@b9 (i:=5) _ _ _ _ _ _ zh.nd rfl (by w_up) (@kc _ _ _ _ (@ao _ _ _ _ _ AG (@ao _ _ _ _ _ (iL (NJ rfl) (by rfl) T.sI G2 (@ao _ _ _ _ _ aT (@ao _ _ _ _ _ (pv 4) az (by rfl)) (by rfl))) (@ao _ _ _ _ _ (iL (NI rfl) (by rfl) T.C6 xk (@ao _ _ _ _ _ aT (@ao _ _ _ _ _ (cW GA (pv 4) aT) az (by rfl)) (by rfl))) (@ao _ _ _ _ _ (cW oi aT (e8 bp aY hr (by decide) rfl (@ao _ _ _ _ _ (pv 0) (@ao _ _ _ _ _ aT az (by rfl)) (by rfl)))) az (by rfl)) (by rfl)) (by rfl)) (by rfl))) (by rfl) (by w_up))
  (@bz _ _ _ (@gS _ _ _ _ (@iU _ _ _ _ _ (@ao _ _ _ _ _ (pv 2) (@ao _ _ _ _ _ (pv 3) (@ao _ _ _ _ _ (pv 4) (@ao _ _ _ _ _ (Et GN (pv 5) GJ (A8 (@cb _ _ _ _ _ _ _ kN (@kc _ _ _ _ (@ao _ _ _ _ _ aT (@ao _ _ _ _ _ aT az (by rfl)) (by rfl))) (gx NK (by rfl) T.C5 xj (@ao _ _ _ _ _ (GD u9 (pv 4) aT (aK _)) az (by rfl))) (fun _ _=>rfl)))) az (by rfl)) (by rfl)) (by rfl)) (by rfl))))))))))),?_⟩
 exact jN (b:=Fx) (bq (bQ (aI iZ (kh (au (aI oE (aU _) (eZ (F:=oN) (au (aj 0) (au (aU _) aA)) jP)) (au (aU _) aA))) (aI Ih (eZ (F:=oN) (au (aj 0) (au (aU _) aA)) jP) (aU _))) (aS 1))
  (bq (bQ (eZ (F:=Dd) (au (aj 0) (au (aj 1) aA)) jP) (aS 2))
  (bq (bQ (eZ (F:=Dn) (au (aj 2) (au (aU _) aA)) jP) (aS 3))
  (bq (bQ (aU _) (aS 4))
  (bq (km (gG (aI (Me true) (aj 3) Ca)) (bQ (cg kl (au (aj 3) aA)) (aS 4)) kD)
  (bq (bQ (kh (au Ca (au (cg QY (au (aU _) (au (aj 4) aA))) (au (cg QX (au (aU _) (au (aI Ig (aj 4) (aU _)) aA))) (au (aI oE (aU _) (eZ (F:=oN) (au (aj 0) (au (aU _) aA)) jP)) aA))))) (aS 5))
  (gY (jL (au (aj 2) (au (aj 3) (au (aj 4) (au (EZ Ii (aj 5) HZ (Cd (aI iZ (kh (au (aU _) (au (aU _) aA))) (cg QZ (au (aI vR (aj 4) (aU _)) aA))))) aA)))))))))))) rfl h
def Fy:ai->Dm Fl :=
 (ay (aG (aD sj (cL (af (fC (.int 0)) ah)) (aN cM (af (ag 0) ah))) (hName 1))
 (ay (dZ (lR (af (ag 0) ah)) (lQ 2 (cJ (hName 2) (cJ (hName 3) mr))) (aG (ag 2) (hSub (ag 1) (ag 3))))
 (bI (aN bM (af (ag 1) ah)))))
def sN:List D->Dm D:=iR 4 Fy
def zi:Stmt:=top 11
theorem Fz:aE ["turning","back","number","led"] ["turning"] (aq zi):=⟨rfl,rfl,rfl,by w_fin,rfl,by w_fin,by w_fin⟩
theorem Tw{f:Addr}{fd:FuncData}(D:Def K mg "turned_back" zi ["turning"] f fd)(T:Txt mg) :aH P w K mg base bW 1 f fd ["turning"] (cy K 1 sN):=by
 refine D.F.ok Fz (fun _ _ _ _ h=>h.1) (fun c A o s H v Q E hr h=>?_)
 refine ⟨_,(@bg _ _ _ _ _ (@b9 (i:=1) _ _ _ _ _ _ Fz.nd rfl (by w_up) (cW JY (@kc _ _ _ _ (@ao _ _ _ _ _ aT az (by rfl))) (iL ke (by rfl) T.bL kf (@ao _ _ _ _ _ (pv 0) az (by rfl)))) (by rfl) (by w_up))
  (@bg _ _ _ _ _ (@l9 _ _ _ _ _ _ _ _ PassesOwn.never rfl (Kq rfl T.kR (@ao _ _ _ _ _ (pv 0) az (by rfl))) (uZ (n:=2) rfl (mE (eU (i:=2) Fz.nd rfl (by w_up)) (mE (eU (i:=3) Fz.nd rfl (by w_up)) uY))) (@bz _ _ _ (u3 (pv 2) (zE (pv 1) (pv 3) zI))) (by intro _;rfl))
  (@bz _ _ _ (@gS _ _ _ _ (gx nW (by rfl) T.bG nX (@ao _ _ _ _ _ (pv 1) az (by rfl))))))),?_⟩
 exact jN (b:=Fy) (bq (bQ (aI LL (kh (au (aU _) aA)) (cg kl (au (aj 0) aA))) (aS 1))
  (bq (mv (LQ (au (aj 0) aA)) (vT (mO (aS 2) (mO (aS 3) vS))) (bQ (aj 2) (zZ (aj 1) (aj 3))))
  (gY (cg n4 (au (aj 1) aA))))) rfl h
def FA:ai->Dm Fl :=
 (bI (aN bM (af (d5 (fL (ag 0)) 1 [1] (hName 0) fM (aD bA (ag 1) (ag 0))) ah)))
def qh:List D->Dm D:=iR 2 FA
def Ak:Stmt:=top 10
theorem Tx:aE ["one","other"] ["one","other"] (aq Ak):=⟨rfl,rfl,rfl,by w_fin,rfl,by w_fin,by w_fin⟩
theorem Tz{f:Addr}{fd:FuncData}(D:Def K mg "followed" Ak ["one","other"] f fd)(T:Txt mg) :aH P w K mg base bW 1 f fd ["one","other"] (cy K 2 qh):=by
 refine D.F.ok Tx (fun _ _ _ _ h=>h.1) (fun c A o s H v Q E hr h=>?_);refine ⟨_,(@bz _ _ _ (@gS _ _ _ _ (gx nW (by rfl) T.bG nX (@ao _ _ _ _ _ (tq (own:=["number"]) (fr:=["other"]) (js:=[1]) rfl ⟨⟨rfl,by w_fin,by w_fin,by dsimp only [eV,aL,Cx.o3,Cx.wish,PyProof.Rows.envOfC,compEnvC,relabel,Env.kindOf];decide +kernel,by w_fin⟩,rfl⟩ (rn (pv 0)) (fun _ _ _ _ _=>(eU (i:=0) (show ((["number"]:List Str) ++ (["other"]:List Str)).Nodup by w_fin) rfl (by w_up))) (fun _ _ _ _ _=>tm) (fun _ _ _ _ _=>(@cb _ _ _ _ _ _ _ (zP (K:=K) rfl) (pv 1) (pv 0) (fun _ _=>rfl)))) az (by rfl))))),?_⟩;exact jN (b:=FA) (gY (cg n4 (au (qT (sv (aj 0)) (aS 0) tM (aI gy (aj 1) (aj 0))) aA))) rfl h
def FC:ai->Dm Fl :=
 (ay (aG (aN sN (af (ag 1) ah)) (hName 2))
 (ay (aG (aN qh (af (aN qh (af (ag 2) (af (aD bA (ag 0) (fC (.int 0))) ah))) (af (ag 1) ah))) (hName 3))
 (ay (aG (aN qh (af (aN qh (af (ag 2) (af (aD bA (ag 0) (fC (.int 1))) ah))) (af (ag 1) ah))) (hName 4))
 (bI (bS (af (ag 3) (af (ag 4) ah)))))))
def Ds:List D->Dm D:=iR 5 FC
def Dt:Stmt:=top 18
theorem FD:aE ["floor","p","back","right","up"] ["floor","p"] (aq Dt):=⟨rfl,rfl,rfl,by w_fin,rfl,by w_fin,by w_fin⟩
theorem TB{f:Addr}{fd:FuncData}(D:Def K mg "called_anew" Dt ["floor","p"] f fd)(T:Txt mg)  {a6:Addr}{a7:FuncData}(a8:Def K mg "turned_back" zi ["turning"] a6 a7)(bu:aH P w K mg base bW 1 a6 a7 ["turning"] (cy K 1 sN)){du:Addr}{dv:FuncData}(cm:Def K mg "followed" Ak ["one","other"] du dv)(cG:aH P w K mg base bW 1 du dv ["one","other"] (cy K 2 qh)):aH P w K mg base bW 2 f fd ["floor","p"] (cy K 2 Ds):=by
 refine D.F.ok FD (fun _ _ _ _ h=>h.1) (fun c A o s H v Q E hr h=>?_)
 refine ⟨_,(@bg _ _ _ _ _ (@b9 (i:=2) _ _ _ _ _ _ FD.nd rfl (by w_up) (e8 bu a8 hr (by decide) rfl (@ao _ _ _ _ _ (pv 1) az (by rfl))) (by rfl) (by w_up))
  (@bg _ _ _ _ _ (@b9 (i:=3) _ _ _ _ _ _ FD.nd rfl (by w_up) (e8 cG cm hr (by decide) rfl (@ao _ _ _ _ _ (e8 cG cm hr (by decide) rfl (@ao _ _ _ _ _ (pv 2) (@ao _ _ _ _ _ (@cb _ _ _ _ _ _ _ iP (pv 0) aT (fun _ _=>rfl)) az (by rfl)) (by rfl))) (@ao _ _ _ _ _ (pv 1) az (by rfl)) (by rfl))) (by rfl) (by w_up))
  (@bg _ _ _ _ _ (@b9 (i:=4) _ _ _ _ _ _ FD.nd rfl (by w_up) (e8 cG cm hr (by decide) rfl (@ao _ _ _ _ _ (e8 cG cm hr (by decide) rfl (@ao _ _ _ _ _ (pv 2) (@ao _ _ _ _ _ (@cb _ _ _ _ _ _ _ iP (pv 0) aT (fun _ _=>rfl)) az (by rfl)) (by rfl))) (@ao _ _ _ _ _ (pv 1) az (by rfl)) (by rfl))) (by rfl) (by w_up))
  (@bz _ _ _ (@gS _ _ _ _ (@iU _ _ _ _ _ (@ao _ _ _ _ _ (pv 3) (@ao _ _ _ _ _ (pv 4) az (by rfl)) (by rfl)))))))),?_⟩
 exact jN (b:=FC) (bq (bQ (eZ (F:=sN) (au (aj 1) aA) n9) (aS 2))
  (bq (bQ (eZ (F:=qh) (au (eZ (F:=qh) (au (aj 2) (au (aI gy (aj 0) (aU _)) aA)) jP) (au (aj 1) aA)) jP) (aS 3))
  (bq (bQ (eZ (F:=qh) (au (eZ (F:=qh) (au (aj 2) (au (aI gy (aj 0) (aU _)) aA)) jP) (au (aj 1) aA)) jP) (aS 4))
  (gY (jL (au (aj 3) (au (aj 4) aA))))))) rfl h
def FE:ai->Dm Fl :=
 (ay (aG (cL (af (ag 1) ah)) (hName 2))
 (ay (aG (fC (.int 0)) (hName 3))
 (ay (gZ (aC (aD vP (ag 3) (aN cM (af (ag 2) ah)))) (ay (dZ (fL (ag 0)) (hName 4) (ay (aG (aD bA (ag 4) (aD bP (ag 2) (ag 3))) (hName 5))
 (fK (aC (aD (qR true) (ag 5) (ag 2))) (cw (jE "list" aR (ag 2) (af (ag 5) ah))) aW)))
 (aG (aD gW (ag 3) (fC (.int 1))) (hName 3))))
 (bI (aN bM (af (ag 2) ah))))))
def Du:List D->Dm D:=iR 6 FE
def Dv:Stmt:=top 16
theorem Al:aE ["floor","s","squares","place","turning","reached"] ["floor","s"] (aq Dv):=⟨rfl,rfl,rfl,by w_fin,rfl,by w_fin,by w_fin⟩
theorem TC{f:Addr}{fd:FuncData}(D:Def K mg "squares_from" Dv ["floor","s"] f fd)(T:Txt mg) :aH P w K mg base bW 1 f fd ["floor","s"] (cy K 2 Du):=by
 refine D.F.ok Al (fun _ _ _ _ h=>h.1) (fun c A o s H v Q E hr h=>?_)
 refine ⟨_,(@bg _ _ _ _ _ (@b9 (i:=2) _ _ _ _ _ _ Al.nd rfl (by w_up) (@kc _ _ _ _ (@ao _ _ _ _ _ (pv 1) az (by rfl))) (by rfl) (by w_up))
  (@bg _ _ _ _ _ (@b9 (i:=3) _ _ _ _ _ _ Al.nd rfl (by w_up) aT (by rfl) (by w_up))
  (@bg _ _ _ _ _ (zF PassesOwn.never (gO zG (pv 3) (iL ke (by rfl) T.bL kf (@ao _ _ _ _ _ (pv 2) az (by rfl))) (aK _)) (@bg _ _ _ _ _ (@l9 _ _ _ _ _ _ _ _ PassesOwn.never rfl (rn (pv 0)) (eU (i:=4) Al.nd rfl (by w_up)) (@bg _ _ _ _ _ (@b9 (i:=5) _ _ _ _ _ _ Al.nd rfl (by w_up) (@cb _ _ _ _ _ _ _ iP (pv 4) (@cb _ _ _ _ _ _ _ kN (pv 2) (pv 3) (fun _ _=>rfl)) (fun _ _=>rfl)) (by rfl) (by w_up))
  (@bz _ _ _ (@jS _ _ _ _ _ _ _ _ (gO Eu (pv 5) (pv 2) (by with_unfolding_all rfl)) (@bz _ _ _ (o9 (m9 PySem.F.plainAttrs_list PySem.F.slot_list_append PySem.F.type_list_append ph (pv 2) (@ao _ _ _ _ _ (pv 5) az (by rfl))))) kC))) (by intro _;rfl))
  (@bz _ _ _ (@b9 (i:=3) _ _ _ _ _ _ Al.nd rfl (by w_up) (cW oi (pv 3) aT) (by rfl) (by w_up)))))
  (@bz _ _ _ (@gS _ _ _ _ (gx nW (by rfl) T.bG nX (@ao _ _ _ _ _ (pv 2) az (by rfl)))))))),?_⟩
 exact jN (b:=FE) (bq (bQ (kh (au (aj 1) aA)) (aS 2))
  (bq (bQ (aU _) (aS 3))
  (bq (Cm (gG (aI zW (aj 3) (cg kl (au (aj 2) aA)))) (bq (mv (sv (aj 0)) (aS 4) (bq (bQ (aI gy (aj 4) (aI iZ (aj 2) (aj 3))) (aS 5))
  (km (gG (aI (Cj true) (aj 5) (aj 2))) (pC (mq pB (aj 2) (au (aj 5) aA))) kD)))
  (bQ (aI oE (aj 3) (aU _)) (aS 3))))
  (gY (cg n4 (au (aj 2) aA)))))) rfl h
def FF:ai->Dm Fl :=
 (bI (aN sN (af (aN Du (af (ag 0) (af (ag 1) ah))) ah)))
def Dw:List D->Dm D:=iR 2 FF
def Dx:Stmt:=top 19
theorem TF:aE ["floor","s"] ["floor","s"] (aq Dx):=⟨rfl,rfl,rfl,by w_fin,rfl,by w_fin,by w_fin⟩
theorem TH{f:Addr}{fd:FuncData}(D:Def K mg "numbering_from" Dx ["floor","s"] f fd)(T:Txt mg)  {a6:Addr}{a7:FuncData}(a8:Def K mg "turned_back" zi ["turning"] a6 a7)(bu:aH P w K mg base bW 1 a6 a7 ["turning"] (cy K 1 sN)){dN:Addr}{dO:FuncData}(dP:Def K mg "squares_from" Dv ["floor","s"] dN dO)(gj:aH P w K mg base bW 1 dN dO ["floor","s"] (cy K 2 Du)):aH P w K mg base bW 2 f fd ["floor","s"] (cy K 2 Dw):=by
 refine D.F.ok TF (fun _ _ _ _ h=>h.1) (fun c A o s H v Q E hr h=>?_);refine ⟨_,(@bz _ _ _ (@gS _ _ _ _ (e8 bu a8 hr (by decide) rfl (@ao _ _ _ _ _ (e8 gj dP hr (by decide) rfl (@ao _ _ _ _ _ (pv 0) (@ao _ _ _ _ _ (pv 1) az (by rfl)) (by rfl))) az (by rfl))))),?_⟩;exact jN (b:=FF) (gY (eZ (F:=sN) (au (eZ (F:=Du) (au (aj 0) (au (aj 1) aA)) jP) aA) n9)) rfl h
def FG:ai->Dm Fl :=
 (bI (aN Ds (af (ag 0) (af (aN Dw (af (ag 0) (af (ag 1) ah))) ah))))
def Dy:List D->Dm D:=iR 2 FG
def Dz:Stmt:=top 20
theorem TJ:aE ["floor","s"] ["floor","s"] (aq Dz):=⟨rfl,rfl,rfl,by w_fin,rfl,by w_fin,by w_fin⟩
theorem TK{f:Addr}{fd:FuncData}(D:Def K mg "numbered_from" Dz ["floor","s"] f fd)(T:Txt mg)  {eI:Addr}{eJ:FuncData}(eK:Def K mg "called_anew" Dt ["floor","p"] eI eJ)(h9:aH P w K mg base bW 2 eI eJ ["floor","p"] (cy K 2 Ds)){cO:Addr}{cP:FuncData}(cQ:Def K mg "numbering_from" Dx ["floor","s"] cO cP)(d7:aH P w K mg base bW 2 cO cP ["floor","s"] (cy K 2 Dw)):aH P w K mg base bW 3 f fd ["floor","s"] (cy K 2 Dy):=by
 refine D.F.ok TJ (fun _ _ _ _ h=>h.1) (fun c A o s H v Q E hr h=>?_);refine ⟨_,(@bz _ _ _ (@gS _ _ _ _ (e8 h9 eK hr (by decide) rfl (@ao _ _ _ _ _ (pv 0) (@ao _ _ _ _ _ (e8 d7 cQ hr (by decide) rfl (@ao _ _ _ _ _ (pv 0) (@ao _ _ _ _ _ (pv 1) az (by rfl)) (by rfl))) az (by rfl)) (by rfl))))),?_⟩;exact jN (b:=FG) (gY (eZ (F:=Ds) (au (aj 0) (au (eZ (F:=Dw) (au (aj 0) (au (aj 1) aA)) jP) aA)) jP)) rfl h
def FH:ai->Dm Fl :=
 (bI (aN kQ (af (d5 (cq (af (aN cM (af (aD bA (ag 0) (fC (.int 0))) ah)) ah)) 1 [0] (hName 0) fM (aN Dy (af (ag 1) (af (ag 0) ah)))) ah)))
def wj:List D->Dm D:=iR 1 FH
def Am:Stmt:=top 21
theorem TL:aE ["floor"] ["floor"] (aq Am):=⟨rfl,rfl,rfl,by w_fin,rfl,by w_fin,by w_fin⟩
theorem TM{f:Addr}{fd:FuncData}(D:Def K mg "form_of" Am ["floor"] f fd)(T:Txt mg)  {de:Addr}{df:FuncData}(dg:Def K mg "numbered_from" Dz ["floor","s"] de df)(fu:aH P w K mg base bW 3 de df ["floor","s"] (cy K 2 Dy)):aH P w K mg base bW 4 f fd ["floor"] (cy K 1 wj):=by
 refine D.F.ok TL (fun _ _ _ _ h=>h.1) (fun c A o s H v Q E hr h=>?_);have hu:=hr.units;refine ⟨_,(@bz _ _ _ (@gS _ _ _ _ (iL (Kx rfl hu) (by rfl) T.sI G2 (@ao _ _ _ _ _ (tq (own:=["s"]) (fr:=["floor"]) (js:=[0]) rfl ⟨⟨rfl,by w_fin,by w_fin,by dsimp only [eV,aL,Cx.o3,Cx.wish,PyProof.Rows.envOfC,compEnvC,relabel,Env.kindOf];decide +kernel,by w_fin⟩,rfl⟩ (pM rfl T.aP (@ao _ _ _ _ _ (iL ke (by rfl) T.bL kf (@ao _ _ _ _ _ (@cb _ _ _ _ _ _ _ iP (pv 0) aT (fun _ _=>rfl)) az (by rfl))) az (by rfl))) (fun _ _ _ _ _=>(eU (i:=0) (show ((["s"]:List Str) ++ (["floor"]:List Str)).Nodup by w_fin) rfl (by w_up))) (fun _ _ _ _ _=>tm) (fun _ _ _ _ _=>(e8 fu dg hr (by decide) rfl (@ao _ _ _ _ _ (pv 1) (@ao _ _ _ _ _ (pv 0) az (by rfl)) (by rfl))))) az (by rfl))))),?_⟩;exact jN (b:=FH) (gY (cg Mm (au (qT (qd (au (cg kl (au (aI gy (aj 0) (aU _)) aA)) aA)) (aS 0) tM (eZ (F:=Dy) (au (aj 1) (au (aj 0) aA)) jP)) aA))) rfl h
def FI:ai->Dm Fl :=
 (ay (aG (cL (af (ag 1) ah)) (hName 2))
 (ay (aG (aD bA (ag 0) (ag 1)) (hName 3))
 (ay (gZ (aC (aD (kU true) (ag 3) (ag 1))) (ay (cw (jE "list" aR (ag 2) (af (ag 3) ah)))
 (aG (aD bA (ag 0) (ag 3)) (hName 3))))
 (bI (aN bM (af (ag 2) ah))))))
def DA:List D->Dm D:=iR 4 FI
def DB:Stmt:=top 13
theorem FJ:aE ["turning","first","ring","reached"] ["turning","first"] (aq DB):=⟨rfl,rfl,rfl,by w_fin,rfl,by w_fin,by w_fin⟩
theorem TN{f:Addr}{fd:FuncData}(D:Def K mg "ring_from" DB ["turning","first"] f fd)(T:Txt mg) :aH P w K mg base bW 1 f fd ["turning","first"] (cy K 2 DA):=by
 refine D.F.ok FJ (fun _ _ _ _ h=>h.1) (fun c A o s H v Q E hr h=>?_)
 refine ⟨_,(@bg _ _ _ _ _ (@b9 (i:=2) _ _ _ _ _ _ FJ.nd rfl (by w_up) (@kc _ _ _ _ (@ao _ _ _ _ _ (pv 1) az (by rfl))) (by rfl) (by w_up))
  (@bg _ _ _ _ _ (@b9 (i:=3) _ _ _ _ _ _ FJ.nd rfl (by w_up) (@cb _ _ _ _ _ _ _ iP (pv 0) (pv 1) (fun _ _=>rfl)) (by rfl) (by w_up))
  (@bg _ _ _ _ _ (zF PassesOwn.never (gO Er (pv 3) (pv 1) (aK _)) (@bg _ _ _ _ _ (o9 (m9 PySem.F.plainAttrs_list PySem.F.slot_list_append PySem.F.type_list_append ph (pv 2) (@ao _ _ _ _ _ (pv 3) az (by rfl))))
  (@bz _ _ _ (@b9 (i:=3) _ _ _ _ _ _ FJ.nd rfl (by w_up) (@cb _ _ _ _ _ _ _ iP (pv 0) (pv 3) (fun _ _=>rfl)) (by rfl) (by w_up)))))
  (@bz _ _ _ (@gS _ _ _ _ (gx nW (by rfl) T.bG nX (@ao _ _ _ _ _ (pv 2) az (by rfl)))))))),?_⟩
 exact jN (b:=FI) (bq (bQ (kh (au (aj 1) aA)) (aS 2))
  (bq (bQ (aI gy (aj 0) (aj 1)) (aS 3))
  (bq (Cm (gG (aI E3 (aj 3) (aj 1))) (bq (pC (mq pB (aj 2) (au (aj 3) aA)))
  (bQ (aI gy (aj 0) (aj 3)) (aS 3))))
  (gY (cg n4 (au (aj 2) aA)))))) rfl h
def FK:ai->Dm Fl :=
 (ay (aG (cL ah) (hName 1))
 (ay (aG sA (hName 2))
 (ay (dZ (cq (af (aN cM (af (ag 0) ah)) ah)) (hName 3) (fK (aC (uC true (ag 3) (ag 2))) (ay (aG (aN DA (af (ag 0) (af (ag 3) ah))) (hName 4))
 (ay (cw (jE "list" aR (ag 1) (af (ag 4) ah)))
 (dZ (fL (ag 4)) (hName 5) (qe (ag 2) (ag 5) (fC (.bl true)))))) aW))
 (bI (aN bM (af (ag 1) ah))))))
def DC:List D->Dm D:=iR 6 FK
def DE:Stmt:=top 14
theorem An:aE ["turning","rings","seen","first","ring","number"] ["turning"] (aq DE):=⟨rfl,rfl,rfl,by w_fin,rfl,by w_fin,by w_fin⟩
theorem TQ{f:Addr}{fd:FuncData}(D:Def K mg "rings_of" DE ["turning"] f fd)(T:Txt mg)  {ie:Addr}{ig:FuncData}(iq:Def K mg "ring_from" DB ["turning","first"] ie ig)(jZ:aH P w K mg base bW 1 ie ig ["turning","first"] (cy K 2 DA)):aH P w K mg base bW 2 f fd ["turning"] (cy K 1 DC):=by
 refine D.F.ok An (fun _ _ _ _ h=>h.1) (fun c A o s H v Q E hr h=>?_);have hu1:=Bm hr
 refine ⟨_,(@bg _ _ _ _ _ (@b9 (i:=1) _ _ _ _ _ _ An.nd rfl (by w_up) (@kc _ _ _ _ az) (by rfl) (by w_up))
  (@bg _ _ _ _ _ (@b9 (i:=2) _ _ _ _ _ _ An.nd rfl (by w_up) Og (by rfl) (by w_up))
  (@bg _ _ _ _ _ (@l9 _ _ _ _ _ _ _ _ PassesOwn.never rfl (pM rfl T.aP (@ao _ _ _ _ _ (iL ke (by rfl) T.bL kf (@ao _ _ _ _ _ (pv 0) az (by rfl))) az (by rfl))) (eU (i:=3) An.nd rfl (by w_up)) (@bz _ _ _ (@jS _ _ _ _ _ _ _ _ (wK (Ob hu1 (pv 3) (pv 2))) (@bg _ _ _ _ _ (@b9 (i:=4) _ _ _ _ _ _ An.nd rfl (by w_up) (e8 jZ iq hr (by decide) rfl (@ao _ _ _ _ _ (pv 0) (@ao _ _ _ _ _ (pv 3) az (by rfl)) (by rfl))) (by rfl) (by w_up))
  (@bg _ _ _ _ _ (o9 (m9 PySem.F.plainAttrs_list PySem.F.slot_list_append PySem.F.type_list_append ph (pv 1) (@ao _ _ _ _ _ (pv 4) az (by rfl))))
  (@bz _ _ _ (@l9 _ _ _ _ _ _ _ _ PassesOwn.never rfl (rn (pv 4)) (eU (i:=5) An.nd rfl (by w_up)) (@bz _ _ _ (Oc hu1 (pv 2) (pv 5) uU rfl)) (by intro _;rfl))))) kC)) (by intro _;rfl))
  (@bz _ _ _ (@gS _ _ _ _ (gx nW (by rfl) T.bG nX (@ao _ _ _ _ _ (pv 1) az (by rfl)))))))),?_⟩
 exact jN (b:=FK) (bq (bQ (kh aA) (aS 1))
  (bq (bQ Rz (aS 2))
  (bq (mv (qd (au (cg kl (au (aj 0) aA)) aA)) (aS 3) (km (EY (RA (aj 3) (aj 2))) (bq (bQ (eZ (F:=DA) (au (aj 0) (au (aj 3) aA)) jP) (aS 4))
  (bq (pC (mq pB (aj 1) (au (aj 4) aA)))
  (mv (sv (aj 4)) (aS 5) (RB (aj 2) (aj 5) (vL _))))) kD))
  (gY (cg n4 (au (aj 1) aA)))))) rfl h
def FL:ai->Dm Fl :=
 (ay (aG (aD sj (cL (af (fC (.int 0)) ah)) (aN cM (af (ag 0) ah))) (hName 2))
 (ay (dZ (fL (aN DC (af (ag 0) ah))) (hName 3) (dZ (lR (af (ag 3) ah)) (lQ 2 (cJ (hName 4) (cJ (hName 5) mr))) (aG (aD bA (ag 3) (aD iY (aD gW (ag 4) (ag 1)) (aN cM (af (ag 3) ah)))) (hSub (ag 2) (ag 5)))))
 (bI (aN bM (af (ag 2) ah)))))
def DF:List D->Dm D:=iR 6 FL
def DG:Stmt:=top 12
theorem DH:aE ["turning","k","led","ring","place","number"] ["turning","k"] (aq DG):=⟨rfl,rfl,rfl,by w_fin,rfl,by w_fin,by w_fin⟩
theorem TR{f:Addr}{fd:FuncData}(D:Def K mg "often" DG ["turning","k"] f fd)(T:Txt mg)  {jz:Addr}{jA:FuncData}(jB:Def K mg "rings_of" DE ["turning"] jz jA)(kJ:aH P w K mg base bW 2 jz jA ["turning"] (cy K 1 DC)):aH P w K mg base bW 3 f fd ["turning","k"] (cy K 2 DF):=by
 refine D.F.ok DH (fun _ _ _ _ h=>h.1) (fun c A o s H v Q E hr h=>?_)
 refine ⟨_,(@bg _ _ _ _ _ (@b9 (i:=2) _ _ _ _ _ _ DH.nd rfl (by w_up) (cW JY (@kc _ _ _ _ (@ao _ _ _ _ _ aT az (by rfl))) (iL ke (by rfl) T.bL kf (@ao _ _ _ _ _ (pv 0) az (by rfl)))) (by rfl) (by w_up))
  (@bg _ _ _ _ _ (@l9 _ _ _ _ _ _ _ _ PassesOwn.never rfl (rn (e8 kJ jB hr (by decide) rfl (@ao _ _ _ _ _ (pv 0) az (by rfl)))) (eU (i:=3) DH.nd rfl (by w_up)) (@bz _ _ _ (@l9 _ _ _ _ _ _ _ _ PassesOwn.never rfl (Kq rfl T.kR (@ao _ _ _ _ _ (pv 3) az (by rfl))) (uZ (n:=2) rfl (mE (eU (i:=4) DH.nd rfl (by w_up)) (mE (eU (i:=5) DH.nd rfl (by w_up)) uY))) (@bz _ _ _ (u3 (@cb _ _ _ _ _ _ _ iP (pv 3) (cW qm (cW oi (pv 4) (pv 1)) (iL ke (by rfl) T.bL kf (@ao _ _ _ _ _ (pv 3) az (by rfl)))) (fun _ _=>rfl)) (zE (pv 2) (pv 5) zI))) (by intro _;rfl))) (by intro _;rfl))
  (@bz _ _ _ (@gS _ _ _ _ (gx nW (by rfl) T.bG nX (@ao _ _ _ _ _ (pv 2) az (by rfl))))))),?_⟩
 exact jN (b:=FL) (bq (bQ (aI LL (kh (au (aU _) aA)) (cg kl (au (aj 0) aA))) (aS 2))
  (bq (mv (sv (eZ (F:=DC) (au (aj 0) aA) n9)) (aS 3) (mv (LQ (au (aj 3) aA)) (vT (mO (aS 4) (mO (aS 5) vS))) (bQ (aI gy (aj 3) (aI qA (aI oE (aj 4) (aj 1)) (cg kl (au (aj 3) aA)))) (zZ (aj 2) (aj 5)))))
  (gY (cg n4 (au (aj 2) aA))))) rfl h
def FN:ai->Dm Fl :=
 (bI (bS (af (aD bA (ag 0) (fC (.int 0))) (af (aN qh (af (aN DF (af (aD bA (ag 0) (fC (.int 0))) (af (ux mj (ag 1)) ah))) (af (aD bA (ag 0) (fC (.int 1))) ah))) ah))))
def DI:List D->Dm D:=iR 2 FN
def DJ:Stmt:=top 27
theorem TU:aE ["floor","k"] ["floor","k"] (aq DJ):=⟨rfl,rfl,rfl,by w_fin,rfl,by w_fin,by w_fin⟩
theorem TV{f:Addr}{fd:FuncData}(D:Def K mg "sheared" DJ ["floor","k"] f fd)(T:Txt mg)  {du:Addr}{dv:FuncData}(cm:Def K mg "followed" Ak ["one","other"] du dv)(cG:aH P w K mg base bW 1 du dv ["one","other"] (cy K 2 qh)){nI:Addr}{nJ:FuncData}(nK:Def K mg "often" DG ["turning","k"] nI nJ)(pI:aH P w K mg base bW 3 nI nJ ["turning","k"] (cy K 2 DF)):aH P w K mg base bW 4 f fd ["floor","k"] (cy K 2 DI):=by
 refine D.F.ok TU (fun _ _ _ _ h=>h.1) (fun c A o s H v Q E hr h=>?_);refine ⟨_,(@bz _ _ _ (@gS _ _ _ _ (@iU _ _ _ _ _ (@ao _ _ _ _ _ (@cb _ _ _ _ _ _ _ iP (pv 0) aT (fun _ _=>rfl)) (@ao _ _ _ _ _ (e8 cG cm hr (by decide) rfl (@ao _ _ _ _ _ (e8 pI nK hr (by decide) rfl (@ao _ _ _ _ _ (@cb _ _ _ _ _ _ _ iP (pv 0) aT (fun _ _=>rfl)) (@ao _ _ _ _ _ (wQ wU (pv 1)) az (by rfl)) (by rfl))) (@ao _ _ _ _ _ (@cb _ _ _ _ _ _ _ iP (pv 0) aT (fun _ _=>rfl)) az (by rfl)) (by rfl))) az (by rfl)) (by rfl))))),?_⟩;exact jN (b:=FN) (gY (jL (au (aI gy (aj 0) (aU _)) (au (eZ (F:=qh) (au (eZ (F:=DF) (au (aI gy (aj 0) (aU _)) (au (xO xU (aj 1)) aA)) jP) (au (aI gy (aj 0) (aU _)) aA)) jP) aA)))) rfl h
def FO:ai->Dm Fl :=
 (bI (bS (af (aN sN (af (aD bA (ag 0) (fC (.int 1))) ah)) (af (aD bA (ag 0) (fC (.int 0))) ah))))
def DK:List D->Dm D:=iR 1 FO
def DL:Stmt:=top 28
theorem TX:aE ["floor"] ["floor"] (aq DL):=⟨rfl,rfl,rfl,by w_fin,rfl,by w_fin,by w_fin⟩
theorem TY{f:Addr}{fd:FuncData}(D:Def K mg "quartered" DL ["floor"] f fd)(T:Txt mg)  {a6:Addr}{a7:FuncData}(a8:Def K mg "turned_back" zi ["turning"] a6 a7)(bu:aH P w K mg base bW 1 a6 a7 ["turning"] (cy K 1 sN)):aH P w K mg base bW 2 f fd ["floor"] (cy K 1 DK):=by
 refine D.F.ok TX (fun _ _ _ _ h=>h.1) (fun c A o s H v Q E hr h=>?_);refine ⟨_,(@bz _ _ _ (@gS _ _ _ _ (@iU _ _ _ _ _ (@ao _ _ _ _ _ (e8 bu a8 hr (by decide) rfl (@ao _ _ _ _ _ (@cb _ _ _ _ _ _ _ iP (pv 0) aT (fun _ _=>rfl)) az (by rfl))) (@ao _ _ _ _ _ (@cb _ _ _ _ _ _ _ iP (pv 0) aT (fun _ _=>rfl)) az (by rfl)) (by rfl))))),?_⟩;exact jN (b:=FO) (gY (jL (au (eZ (F:=sN) (au (aI gy (aj 0) (aU _)) aA) n9) (au (aI gy (aj 0) (aU _)) aA)))) rfl h
def FP:ai->Dm Fl :=
 (ay (fK (aC (aD (kU false) (aD bA (ag 1) (fC (.int 0))) (fC (.str "s")))) (bI (aN DI (af (ag 0) (af (aD bA (ag 1) (fC (.int 1))) ah)))) aW)
 (ay (aG (ag 0) (hName 2))
 (ay (dZ (cq (af (aD bA (ag 1) (fC (.int 1))) ah)) (hName 3) (aG (aN DK (af (ag 2) ah)) (hName 2)))
 (bI (ag 2)))))
def DM:List D->Dm D:=iR 4 FP
def DN:Stmt:=top 30
theorem FQ:aE ["floor","step","led","turn"] ["floor","step"] (aq DN):=⟨rfl,rfl,rfl,by w_fin,rfl,by w_fin,by w_fin⟩
theorem T5{f:Addr}{fd:FuncData}(D:Def K mg "led_by_step" DN ["floor","step"] f fd)(T:Txt mg)  {ku:Addr}{ky:FuncData}(kz:Def K mg "sheared" DJ ["floor","k"] ku ky)(lV:aH P w K mg base bW 4 ku ky ["floor","k"] (cy K 2 DI)){iu:Addr}{iw:FuncData}(iy:Def K mg "quartered" DL ["floor"] iu iw)(j3:aH P w K mg base bW 2 iu iw ["floor"] (cy K 1 DK)):aH P w K mg base bW 5 f fd ["floor","step"] (cy K 2 DM):=by
 refine D.F.ok FQ (fun _ _ _ _ h=>h.1) (fun c A o s H v Q E hr h=>?_)
 refine ⟨_,(@bg _ _ _ _ _ (@jS _ _ _ _ _ _ _ _ (gO rq (@cb _ _ _ _ _ _ _ iP (pv 1) aT (fun _ _=>rfl)) qL (aK _)) (@bz _ _ _ (@gS _ _ _ _ (e8 lV kz hr (by decide) rfl (@ao _ _ _ _ _ (pv 0) (@ao _ _ _ _ _ (@cb _ _ _ _ _ _ _ iP (pv 1) aT (fun _ _=>rfl)) az (by rfl)) (by rfl))))) kC)
  (@bg _ _ _ _ _ (@b9 (i:=2) _ _ _ _ _ _ FQ.nd rfl (by w_up) (pv 0) (by rfl) (by w_up))
  (@bg _ _ _ _ _ (@l9 _ _ _ _ _ _ _ _ PassesOwn.never rfl (pM rfl T.aP (@ao _ _ _ _ _ (@cb _ _ _ _ _ _ _ iP (pv 1) aT (fun _ _=>rfl)) az (by rfl))) (eU (i:=3) FQ.nd rfl (by w_up)) (@bz _ _ _ (@b9 (i:=2) _ _ _ _ _ _ FQ.nd rfl (by w_up) (e8 j3 iy hr (by decide) rfl (@ao _ _ _ _ _ (pv 2) az (by rfl))) (by rfl) (by w_up))) (by intro _;rfl))
  (@bz _ _ _ (@gS _ _ _ _ (pv 2)))))),?_⟩
 exact jN (b:=FP) (bq (km (gG (aI si (aI gy (aj 1) (aU _)) (tJ _))) (gY (eZ (F:=DI) (au (aj 0) (au (aI gy (aj 1) (aU _)) aA)) jP)) kD)
  (bq (bQ (aj 0) (aS 2))
  (bq (mv (qd (au (aI gy (aj 1) (aU _)) aA)) (aS 3) (bQ (eZ (F:=DK) (au (aj 2) aA) n9) (aS 2)))
  (gY (aj 2))))) rfl h
def FR:ai->Dm Fl :=
 (ay (aG (ag 0) (hName 2))
 (ay (dZ (fL (ag 1)) (hName 3) (aG (aN DM (af (ag 2) (af (ag 3) ah))) (hName 2)))
 (bI (ag 2))))
def DO:List D->Dm D:=iR 4 FR
def DP:Stmt:=top 29
theorem FT:aE ["floor","word","led","step"] ["floor","word"] (aq DP):=⟨rfl,rfl,rfl,by w_fin,rfl,by w_fin,by w_fin⟩
theorem T6{f:Addr}{fd:FuncData}(D:Def K mg "led_by" DP ["floor","word"] f fd)(T:Txt mg)  {eM:Addr}{eN:FuncData}(eO:Def K mg "led_by_step" DN ["floor","step"] eM eN)(iz:aH P w K mg base bW 5 eM eN ["floor","step"] (cy K 2 DM)):aH P w K mg base bW 6 f fd ["floor","word"] (cy K 2 DO):=by
 refine D.F.ok FT (fun _ _ _ _ h=>h.1) (fun c A o s H v Q E hr h=>?_)
 refine ⟨_,(@bg _ _ _ _ _ (@b9 (i:=2) _ _ _ _ _ _ FT.nd rfl (by w_up) (pv 0) (by rfl) (by w_up))
  (@bg _ _ _ _ _ (@l9 _ _ _ _ _ _ _ _ PassesOwn.never rfl (rn (pv 1)) (eU (i:=3) FT.nd rfl (by w_up)) (@bz _ _ _ (@b9 (i:=2) _ _ _ _ _ _ FT.nd rfl (by w_up) (e8 iz eO hr (by decide) rfl (@ao _ _ _ _ _ (pv 2) (@ao _ _ _ _ _ (pv 3) az (by rfl)) (by rfl))) (by rfl) (by w_up))) (by intro _;rfl))
  (@bz _ _ _ (@gS _ _ _ _ (pv 2))))),?_⟩
 exact jN (b:=FR) (bq (bQ (aj 0) (aS 2))
  (bq (mv (sv (aj 1)) (aS 3) (bQ (eZ (F:=DM) (au (aj 2) (au (aj 3) aA)) jP) (aS 2)))
  (gY (aj 2)))) rfl h
def FU:ai->Dm Fl :=
 (ay (aG (aD gW (aD bA (ag 0) (fC (.int 1))) (aD bA (ag 1) (fC (.int 1)))) (hName 2))
 (ay (fK (aC (aD (kU false) (aD bA (ag 0) (fC (.int 0))) (fC (.str "t")))) (aG (aD iY (ag 2) (fC (.int 4))) (hName 2)) aW)
 (ay (fK (aC (aD (kU false) (ag 2) (fC (.int 0)))) (bI (bS ah)) aW)
 (bI (bS (af (bS (af (aD bA (ag 0) (fC (.int 0))) (af (ag 2) ah))) ah))))))
def DQ:List D->Dm D:=iR 3 FU
def DR:Stmt:=top 23
theorem IJ:aE ["one","other","number"] ["one","other"] (aq DR):=⟨rfl,rfl,rfl,by w_fin,rfl,by w_fin,by w_fin⟩
theorem T7{f:Addr}{fd:FuncData}(D:Def K mg "joined" DR ["one","other"] f fd)(T:Txt mg) :aH P w K mg base bW 1 f fd ["one","other"] (cy K 2 DQ):=by
 refine D.F.ok IJ (fun _ _ _ _ h=>h.1) (fun c A o s H v Q E hr h=>?_)
 refine ⟨_,(@bg _ _ _ _ _ (@b9 (i:=2) _ _ _ _ _ _ IJ.nd rfl (by w_up) (cW oi (@cb _ _ _ _ _ _ _ iP (pv 0) aT (fun _ _=>rfl)) (@cb _ _ _ _ _ _ _ iP (pv 1) aT (fun _ _=>rfl))) (by rfl) (by w_up))
  (@bg _ _ _ _ _ (@jS _ _ _ _ _ _ _ _ (gO rq (@cb _ _ _ _ _ _ _ iP (pv 0) aT (fun _ _=>rfl)) qL (aK _)) (@bz _ _ _ (@b9 (i:=2) _ _ _ _ _ _ IJ.nd rfl (by w_up) (cW qm (pv 2) aT) (by rfl) (by w_up))) kC)
  (@bg _ _ _ _ _ (@jS _ _ _ _ _ _ _ _ (gO rq (pv 2) aT (aK _)) (@bz _ _ _ (@gS _ _ _ _ (@iU _ _ _ _ _ az))) kC)
  (@bz _ _ _ (@gS _ _ _ _ (@iU _ _ _ _ _ (@ao _ _ _ _ _ (@iU _ _ _ _ _ (@ao _ _ _ _ _ (@cb _ _ _ _ _ _ _ iP (pv 0) aT (fun _ _=>rfl)) (@ao _ _ _ _ _ (pv 2) az (by rfl)) (by rfl))) az (by rfl)))))))),?_⟩
 exact jN (b:=FU) (bq (bQ (aI oE (aI gy (aj 0) (aU _)) (aI gy (aj 1) (aU _))) (aS 2))
  (bq (km (gG (aI si (aI gy (aj 0) (aU _)) (tJ _))) (bQ (aI qA (aj 2) (aU _)) (aS 2)) kD)
  (bq (km (gG (aI si (aj 2) (aU _))) (gY (jL aA)) kD)
  (gY (jL (au (jL (au (aI gy (aj 0) (aU _)) (au (aj 2) aA))) aA)))))) rfl h
def FV:ai->Dm Fl :=
 (ay (aG (bS ah) (hName 1))
 (ay (dZ (fL (ag 0)) (hName 2) (fK (mh (aC (aD sg (aN cM (af (ag 1) ah)) (fC (.int 0)))) (aC (aD (kU false) (aD bA (aD bA (ag 1) (ux mj (fC (.int 1)))) (fC (.int 0))) (aD bA (ag 2) (fC (.int 0)))))) (aG (aD kj (xS xY (ag 1) ki (kO (ux mj (fC (.int 1))))) (aN DQ (af (aD bA (ag 1) (ux mj (fC (.int 1)))) (af (ag 2) ah)))) (hName 1)) (aG (aD kj (ag 1) (bS (af (ag 2) ah))) (hName 1))))
 (bI (ag 1))))
def DS:List D->Dm D:=iR 3 FV
def DT:Stmt:=top 24
theorem DV:aE ["word","plain","step"] ["word"] (aq DT):=⟨rfl,rfl,rfl,by w_fin,rfl,by w_fin,by w_fin⟩
theorem T8{f:Addr}{fd:FuncData}(D:Def K mg "made_plain" DT ["word"] f fd)(T:Txt mg)  {lj:Addr}{lp:FuncData}(lq:Def K mg "joined" DR ["one","other"] lj lp)(nL:aH P w K mg base bW 1 lj lp ["one","other"] (cy K 2 DQ)):aH P w K mg base bW 2 f fd ["word"] (cy K 1 DS):=by
 refine D.F.ok DV (fun _ _ _ _ h=>h.1) (fun c A o s H v Q E hr h=>?_)
 refine ⟨_,(@bg _ _ _ _ _ (@b9 (i:=1) _ _ _ _ _ _ DV.nd rfl (by w_up) (@iU _ _ _ _ _ az) (by rfl) (by w_up))
  (@bg _ _ _ _ _ (@l9 _ _ _ _ _ _ _ _ PassesOwn.never rfl (rn (pv 0)) (eU (i:=2) DV.nd rfl (by w_up)) (@bz _ _ _ (@jS _ _ _ _ _ _ _ _ (PW.pt (AJ (gO u9 (iL ke (by rfl) T.bL kf (@ao _ _ _ _ _ (pv 1) az (by rfl))) aT (aK _)) (El (gO rq (@cb _ _ _ _ _ _ _ iP (@cb _ _ _ _ _ _ _ iP (pv 1) (wQ wU aT) (fun _ _=>rfl)) aT (fun _ _=>rfl)) (@cb _ _ _ _ _ _ _ iP (pv 2) aT (fun _ _=>rfl)) (aK _))))) (@bz _ _ _ (@b9 (i:=1) _ _ _ _ _ _ DV.nd rfl (by w_up) (cW Bp (Et Ow (pv 1) GJ (A8 (wQ wU aT))) (e8 nL lq hr (by decide) rfl (@ao _ _ _ _ _ (@cb _ _ _ _ _ _ _ iP (pv 1) (wQ wU aT) (fun _ _=>rfl)) (@ao _ _ _ _ _ (pv 2) az (by rfl)) (by rfl)))) (by rfl) (by w_up))) (@bz _ _ _ (@b9 (i:=1) _ _ _ _ _ _ DV.nd rfl (by w_up) (cW Bp (pv 1) (@iU _ _ _ _ _ (@ao _ _ _ _ _ (pv 2) az (by rfl)))) (by rfl) (by w_up))))) (by intro _;rfl))
  (@bz _ _ _ (@gS _ _ _ _ (pv 1))))),?_⟩
 exact jN (b:=FV) (bq (bQ (jL aA) (aS 1))
  (bq (mv (sv (aj 0)) (aS 2) (km (Cc (gG (aI vR (cg kl (au (aj 1) aA)) (aU _))) (gG (aI si (aI gy (aI gy (aj 1) (xO xU (aU _))) (aU _)) (aI gy (aj 2) (aU _))))) (bQ (aI Ci (EZ xZ (aj 1) HZ (Cd (xO xU (aU _)))) (eZ (F:=DQ) (au (aI gy (aj 1) (xO xU (aU _))) (au (aj 2) aA)) jP)) (aS 1)) (bQ (aI Ci (aj 1) (jL (au (aj 2) aA))) (aS 1))))
  (gY (aj 1)))) rfl h
def FW:ai->Dm Fl :=
 (bI (aN DS (af (aD kj (ag 0) (ag 1)) ah)))
def DW:List D->Dm D:=iR 2 FW
def DX:Stmt:=top 25
theorem T9:aE ["one","other"] ["one","other"] (aq DX):=⟨rfl,rfl,rfl,by w_fin,rfl,by w_fin,by w_fin⟩
theorem Ua{f:Addr}{fd:FuncData}(D:Def K mg "put_together" DX ["one","other"] f fd)(T:Txt mg)  {fW:Addr}{fX:FuncData}(fY:Def K mg "made_plain" DT ["word"] fW fX)(jf:aH P w K mg base bW 2 fW fX ["word"] (cy K 1 DS)):aH P w K mg base bW 3 f fd ["one","other"] (cy K 2 DW):=by
 refine D.F.ok T9 (fun _ _ _ _ h=>h.1) (fun c A o s H v Q E hr h=>?_);refine ⟨_,(@bz _ _ _ (@gS _ _ _ _ (e8 jf fY hr (by decide) rfl (@ao _ _ _ _ _ (cW Bp (pv 0) (pv 1)) az (by rfl))))),?_⟩;exact jN (b:=FW) (gY (eZ (F:=DS) (au (aI Ci (aj 0) (aj 1)) aA) n9)) rfl h
def FX:ai->Dm Fl :=
 (ay (aG (aN wj (af (aN DO (af (aD bP (ag 0) (ag 2)) (af (bS (af (ag 3) ah)) ah))) ah)) (hName 4))
 (ay (fK (aC (aD (oJ true) (ag 4) (ag 0))) (ay (cw (jE "list" aR (ag 0) (af (ag 4) ah)))
 (cw (jE "list" aR (ag 1) (af (aN DW (af (aD bP (ag 1) (ag 2)) (af (bS (af (ag 3) ah)) ah))) ah)))) aW)
 (bI (jE "list" dD (ag 0) (af (ag 4) ah)))))
def zj:List D->Dm D:=iR 5 FX
def DY:Stmt:=top 35
theorem MK:aE ["forms","words","place","step","form"] ["forms","words","place","step"] (aq DY):=⟨rfl,rfl,rfl,by w_fin,rfl,by w_fin,by w_fin⟩
theorem Ub{f:Addr}{fd:FuncData}(D:Def K mg "row_led_to" DY ["forms","words","place","step"] f fd)(T:Txt mg)  {fw:Addr}{fz:FuncData}(fA:Def K mg "form_of" Am ["floor"] fw fz)(gL:aH P w K mg base bW 4 fw fz ["floor"] (cy K 1 wj)){lu:Addr}{lx:FuncData}(lz:Def K mg "led_by" DP ["floor","word"] lu lx)(nM:aH P w K mg base bW 6 lu lx ["floor","word"] (cy K 2 DO)){dQ:Addr}{dR:FuncData}(dS:Def K mg "put_together" DX ["one","other"] dQ dR)(gk:aH P w K mg base bW 3 dQ dR ["one","other"] (cy K 2 DW)):aH P w K mg base bW 7 f fd ["forms","words","place","step"] (cy K 4 zj):=by
 refine D.F.ok MK (fun _ _ _ _ h=>h.1) (fun c A o s H v Q E hr h=>?_);have hu:=hr.units
 refine ⟨_,(@bg _ _ _ _ _ (@b9 (i:=4) _ _ _ _ _ _ MK.nd rfl (by w_up) (e8 gL fA hr (by decide) rfl (@ao _ _ _ _ _ (e8 nM lz hr (by decide) rfl (@ao _ _ _ _ _ (@cb _ _ _ _ _ _ _ kN (pv 0) (pv 2) (fun _ _=>rfl)) (@ao _ _ _ _ _ (@iU _ _ _ _ _ (@ao _ _ _ _ _ (pv 3) az (by rfl))) az (by rfl)) (by rfl))) az (by rfl))) (by rfl) (by w_up))
  (@bg _ _ _ _ _ (@jS _ _ _ _ _ _ _ _ (gO (Ks hu) (pv 4) (pv 0) (by with_unfolding_all rfl)) (@bg _ _ _ _ _ (o9 (m9 PySem.F.plainAttrs_list PySem.F.slot_list_append PySem.F.type_list_append ph (pv 0) (@ao _ _ _ _ _ (pv 4) az (by rfl))))
  (@bz _ _ _ (o9 (m9 PySem.F.plainAttrs_list PySem.F.slot_list_append PySem.F.type_list_append ph (pv 1) (@ao _ _ _ _ _ (e8 gk dS hr (by decide) rfl (@ao _ _ _ _ _ (@cb _ _ _ _ _ _ _ kN (pv 1) (pv 2) (fun _ _=>rfl)) (@ao _ _ _ _ _ (@iU _ _ _ _ _ (@ao _ _ _ _ _ (pv 3) az (by rfl))) az (by rfl)) (by rfl))) az (by rfl)))))) kC)
  (@bz _ _ _ (@gS _ _ _ _ (m9 PySem.F.plainAttrs_list PySem.F.slot_list_index PySem.F.type_list_index (K1 hu) (pv 0) (@ao _ _ _ _ _ (pv 4) az (by rfl))))))),?_⟩
 exact jN (b:=FX) (bq (bQ (eZ (F:=wj) (au (eZ (F:=DO) (au (aI iZ (aj 0) (aj 2)) (au (jL (au (aj 3) aA)) aA)) jP) aA) n9) (aS 4))
  (bq (km (gG (aI (Mk true) (aj 4) (aj 0))) (bq (pC (mq pB (aj 0) (au (aj 4) aA)))
  (pC (mq pB (aj 1) (au (eZ (F:=DW) (au (aI iZ (aj 1) (aj 2)) (au (jL (au (aj 3) aA)) aA)) jP) aA)))) kD)
  (gY (mq Mw (aj 0) (au (aj 4) aA))))) rfl h
def FY:ai->Dm Fl :=
 (ay (qV (aG (cL (af (aN wj (af (ag 0) ah)) ah)) (hName 2)))
 (ay (qV (aG (cL (af (bS ah) ah)) (hName 3)))
 (ay (qV (aG (cL ah) (hName 4)))
 (ay (gZ (aC (aD vP (aN cM (af (ag 4) ah)) (aN cM (af (ag 2) ah)))) (ay (fK (aC (aD sg (aN cM (af (ag 2) ah)) (ag 1))) (lh "TooMany" ["most"] (af (ag 1) ah)) (qV aW))
 (ay (qV (aG (aN cM (af (ag 4) ah)) (hName 5)))
 (ay (qV (aG (aN zj (af (ag 2) (af (ag 3) (af (ag 5) (af (fC (.tup [(.str "s"),(.int 1)])) ah))))) (hName 6)))
 (ay (qV (aG (aN zj (af (ag 2) (af (ag 3) (af (ag 5) (af (fC (.tup [(.str "t"),(.int 1)])) ah))))) (hName 7)))
 (qV (cw (jE "list" aR (ag 4) (af (bS (af (ag 6) (af (ag 7) ah))) ah)))))))))
 (qV (bI (aN bM (af (d5 (cq (af (aN cM (af (ag 2) ah)) ah)) 1 [2,3,4] (hName 0) fM (bS (af (aD bP (ag 1) (ag 0)) (af (aD bP (ag 2) (ag 0)) (af (aD bA (aD bP (ag 3) (ag 0)) (fC (.int 0))) (af (aD bA (aD bP (ag 3) (ag 0)) (fC (.int 1))) ah)))))) ah))))))))
def qX:List D->Dm D:=iR 8 FY
def Ao:Stmt:=top 34
theorem zk:aE ["floor","most","forms","words","leads","place","s","t"] ["floor","most"] (aq Ao):=⟨rfl,rfl,rfl,by w_fin,rfl,by w_fin,by w_fin⟩
theorem Uc{f:Addr}{fd:FuncData}(D:qy K mg "chart_of" Ao ["floor","most"] [V.int 60] f fd)(T:Txt mg){lW:V}(kA:sZ K mg "QUARTER" lW (.tup [(.str "t"),(.int 1)])){pJ:V}(nO:sZ K mg "SHEAR" pJ (.tup [(.str "s"),(.int 1)])){ax aJ bD b6 cR bE bF b7 cI:Addr}(Z:XF K mg ax aJ bD b6 cR bE bF b7 cI){dI:FuncData}(GI:aH P w K mg base bW 1 cI dI ["self","most"] (rV K "most"))(BI:Binds K dI ["self","most"] []){fw:Addr}{fz:FuncData}(fA:Def K mg "form_of" Am ["floor"] fw fz)(gL:aH P w K mg base bW 4 fw fz ["floor"] (cy K 1 wj)){fZ:Addr}{f9:FuncData}(d6:Def K mg "row_led_to" DY ["forms","words","place","step"] fZ f9)(gb:aH P w K mg base bW 7 fZ f9 ["forms","words","place","step"] (cy K 4 zj)):aH P w K mg base (qN P w) 8 f fd ["floor","most"] (yX K 2 qX):=by
 refine D.F.P1 zk (fun _ _ _ _ h=>h.1) (fun c A o s H v Q E hr h=>?_)
 refine ⟨_,(@bg _ _ _ _ _ (@b9 (i:=2) _ _ _ _ _ _ zk.nd rfl (by w_up) (@kc _ _ _ _ (@ao _ _ _ _ _ (e8 gL fA hr (by decide) rfl (@ao _ _ _ _ _ (pv 0) az (by rfl))) az (by rfl))) (by rfl) (by w_up))
  (@bg _ _ _ _ _ (@b9 (i:=3) _ _ _ _ _ _ zk.nd rfl (by w_up) (@kc _ _ _ _ (@ao _ _ _ _ _ (@iU _ _ _ _ _ az) az (by rfl))) (by rfl) (by w_up))
  (@bg _ _ _ _ _ (@b9 (i:=4) _ _ _ _ _ _ zk.nd rfl (by w_up) (@kc _ _ _ _ az) (by rfl) (by w_up))
  (@bg _ _ _ _ _ (zF PassesOwn.leaving (gO zG (iL ke (by rfl) T.bL kf (@ao _ _ _ _ _ (pv 4) az (by rfl))) (iL ke (by rfl) T.bL kf (@ao _ _ _ _ _ (pv 2) az (by rfl))) (aK _)) (@bg _ _ _ _ _ (@jS _ _ _ _ _ _ _ _ (gO u9 (iL ke (by rfl) T.bL kf (@ao _ _ _ _ _ (pv 2) az (by rfl))) (pv 1) (aK _)) (@bz _ _ _ (PN (PL PySem.F.excBase_ValueError ⟨Z.mT,Z.fe,Z.ff,Z.fg⟩ GI (hr.mono (by decide)) rfl BI (@ao _ _ _ _ _ (pv 1) az (by rfl))))) kC)
  (@bg _ _ _ _ _ (@b9 (i:=5) _ _ _ _ _ _ zk.nd rfl (by w_up) (iL ke (by rfl) T.bL kf (@ao _ _ _ _ _ (pv 4) az (by rfl))) (by rfl) (by w_up))
  (@bg _ _ _ _ _ (@b9 (i:=6) _ _ _ _ _ _ zk.nd rfl (by w_up) (e8 gb d6 hr (by decide) rfl (@ao _ _ _ _ _ (pv 2) (@ao _ _ _ _ _ (pv 3) (@ao _ _ _ _ _ (pv 5) (@ao _ _ _ _ _ (Mg nO rfl rfl (by decide)) az (by rfl)) (by rfl)) (by rfl)) (by rfl))) (by rfl) (by w_up))
  (@bg _ _ _ _ _ (@b9 (i:=7) _ _ _ _ _ _ zk.nd rfl (by w_up) (e8 gb d6 hr (by decide) rfl (@ao _ _ _ _ _ (pv 2) (@ao _ _ _ _ _ (pv 3) (@ao _ _ _ _ _ (pv 5) (@ao _ _ _ _ _ (Mg kA rfl rfl (by decide)) az (by rfl)) (by rfl)) (by rfl)) (by rfl))) (by rfl) (by w_up))
  (@bz _ _ _ (o9 (m9 PySem.F.plainAttrs_list PySem.F.slot_list_append PySem.F.type_list_append ph (pv 4) (@ao _ _ _ _ _ (@iU _ _ _ _ _ (@ao _ _ _ _ _ (pv 6) (@ao _ _ _ _ _ (pv 7) az (by rfl)) (by rfl))) az (by rfl))))))))))
  (@bz _ _ _ (@gS _ _ _ _ (gx nW (by rfl) T.bG nX (@ao _ _ _ _ _ (tq (own:=["k"]) (fr:=["forms","words","leads"]) (js:=[2,3,4]) rfl ⟨⟨rfl,by w_fin,by w_fin,by dsimp only [eV,aL,Cx.o3,Cx.wish,PyProof.Rows.envOfC,compEnvC,relabel,Env.kindOf];decide +kernel,by w_fin⟩,rfl⟩ (pM rfl T.aP (@ao _ _ _ _ _ (iL ke (by rfl) T.bL kf (@ao _ _ _ _ _ (pv 2) az (by rfl))) az (by rfl))) (fun _ _ _ _ _=>(eU (i:=0) (show ((["k"]:List Str) ++ (["forms","words","leads"]:List Str)).Nodup by w_fin) rfl (by w_up))) (fun _ _ _ _ _=>tm) (fun _ _ _ _ _=>(@iU _ _ _ _ _ (@ao _ _ _ _ _ (@cb _ _ _ _ _ _ _ (tu (K:=K) rfl) (pv 1) (pv 0) (fun _ _=>rfl)) (@ao _ _ _ _ _ (@cb _ _ _ _ _ _ _ (tu (K:=K) rfl) (pv 2) (pv 0) (fun _ _=>rfl)) (@ao _ _ _ _ _ (@cb _ _ _ _ _ _ _ (zP (K:=K) rfl) (@cb _ _ _ _ _ _ _ (tu (K:=K) rfl) (pv 3) (pv 0) (fun _ _=>rfl)) aT (fun _ _=>rfl)) (@ao _ _ _ _ _ (@cb _ _ _ _ _ _ _ (zP (K:=K) rfl) (@cb _ _ _ _ _ _ _ (tu (K:=K) rfl) (pv 3) (pv 0) (fun _ _=>rfl)) aT (fun _ _=>rfl)) az (by rfl)) (by rfl)) (by rfl)) (by rfl))))) az (by rfl))))))))),?_⟩
 exact yZ (b:=FY) (v9 (uH (bQ (kh (au (eZ (F:=wj) (au (aj 0) aA) n9) aA)) (aS 2)))
  (v9 (uH (bQ (kh (au (jL aA) aA)) (aS 3)))
  (v9 (uH (bQ (kh aA) (aS 4)))
  (v9 (SX (gG (aI zW (cg kl (au (aj 4) aA)) (cg kl (au (aj 2) aA)))) (v9 (SM (gG (aI vR (cg kl (au (aj 2) aA)) (aj 1))) (SY (au (aj 1) aA) n9 Z.bU Z.jY Z.lS Z.fj Z.fm) (uH kD))
  (v9 (uH (bQ (cg kl (au (aj 4) aA)) (aS 5)))
  (v9 (uH (bQ (eZ (F:=zj) (au (aj 2) (au (aj 3) (au (aj 5) (au (Mh nO) aA)))) MJ) (aS 6)))
  (v9 (uH (bQ (eZ (F:=zj) (au (aj 2) (au (aj 3) (au (aj 5) (au (Mh kA) aA)))) MJ) (aS 7)))
  (uH (pC (mq pB (aj 4) (au (jL (au (aj 6) (au (aj 7) aA))) aA)))))))))
  (uH (gY (cg n4 (au (qT (qd (au (cg kl (au (aj 2) aA)) aA)) (aS 0) tM (jL (au (aI iZ (aj 1) (aj 0)) (au (aI iZ (aj 2) (aj 0)) (au (aI gy (aI iZ (aj 3) (aj 0)) (aU _)) (au (aI gy (aI iZ (aj 3) (aj 0)) (aU _)) aA)))))) aA)))))))) rfl h
def FZ:ai->Dm Fl :=
 (ay (aG (aD gW (aD lP (fC (.int 7901)) (ag 1)) (fC (.int 24697))) (hName 2))
 (ay (fK (aC (aD vP (ag 1) (aN cM (af (ag 0) ah)))) (aG (aD bP (ag 0) (ag 1)) (hName 2)) (fK (aC (aD sg (aN cM (af (ag 0) ah)) (fC (.int 0)))) (aG (aD gW (aD lP (aD iY (aD bP (ag 0) (aD iY (ag 1) (aN cM (af (ag 0) ah)))) (fC (.int 2147483629))) (fC (.int 31))) (aD lP (fC (.int 7901)) (ag 1))) (hName 2)) aW))
 (ay (aG (fC (.int 0)) (hName 3))
 (ay (fK (aC (aD Ie (ag 2) (aD sf (fC (.int 10)) (fC (.int 18))))) (aG (ag 2) (hName 3)) aW)
 (bI (cL (af (ag 3) (af (aD gW (aD iY (aD sf (aD gW (aD lP (aD iY (ag 2) (fC (.int 2147483629))) (fC (.int 48271))) (aD lP (fC (.int 40692)) (ag 1))) (fC (.int 5))) (fC (.int 2147483629))) (fC (.int 1))) ah))))))))
def DZ:List D->Dm D:=iR 4 FZ
def D0:Stmt:=top 37
theorem Ap:aE ["_law_script","_law_k","_law_cell","_law_own"] ["_law_script","_law_k"] (aq D0):=⟨rfl,rfl,rfl,by w_fin,rfl,by w_fin,by w_fin⟩
theorem Ud{f:Addr}{fd:FuncData}(D:Def K mg "_law_feed" D0 ["_law_script","_law_k"] f fd)(T:Txt mg) :aH P w K mg base bW 1 f fd ["_law_script","_law_k"] (cy K 2 DZ):=by
 refine D.F.ok Ap (fun _ _ _ _ h=>h.1) (fun c A o s H v Q E hr h=>?_)
 refine ⟨_,(@bg _ _ _ _ _ (@b9 (i:=2) _ _ _ _ _ _ Ap.nd rfl (by w_up) (cW oi (cW u7 aT (pv 1)) aT) (by rfl) (by w_up))
  (@bg _ _ _ _ _ (@jS _ _ _ _ _ _ _ _ (gO zG (pv 1) (iL ke (by rfl) T.bL kf (@ao _ _ _ _ _ (pv 0) az (by rfl))) (aK _)) (@bz _ _ _ (@b9 (i:=2) _ _ _ _ _ _ Ap.nd rfl (by w_up) (@cb _ _ _ _ _ _ _ kN (pv 0) (pv 1) (fun _ _=>rfl)) (by rfl) (by w_up))) (@bz _ _ _ (@jS _ _ _ _ _ _ _ _ (gO u9 (iL ke (by rfl) T.bL kf (@ao _ _ _ _ _ (pv 0) az (by rfl))) aT (aK _)) (@bz _ _ _ (@b9 (i:=2) _ _ _ _ _ _ Ap.nd rfl (by w_up) (cW oi (cW u7 (cW qm (@cb _ _ _ _ _ _ _ kN (pv 0) (cW qm (pv 1) (iL ke (by rfl) T.bL kf (@ao _ _ _ _ _ (pv 0) az (by rfl)))) (fun _ _=>rfl)) aT) aT) (cW u7 aT (pv 1))) (by rfl) (by w_up))) kC)))
  (@bg _ _ _ _ _ (@b9 (i:=3) _ _ _ _ _ _ Ap.nd rfl (by w_up) aT (by rfl) (by w_up))
  (@bg _ _ _ _ _ (@jS _ _ _ _ _ _ _ _ (gO A4 (pv 2) (cW Jy aT aT) (aK _)) (@bz _ _ _ (@b9 (i:=3) _ _ _ _ _ _ Ap.nd rfl (by w_up) (pv 2) (by rfl) (by w_up))) kC)
  (@bz _ _ _ (@gS _ _ _ _ (@kc _ _ _ _ (@ao _ _ _ _ _ (pv 3) (@ao _ _ _ _ _ (cW oi (cW qm (cW Jy (cW oi (cW u7 (cW qm (pv 2) aT) aT) (cW u7 aT (pv 1))) aT) aT) aT) az (by rfl)) (by rfl))))))))),?_⟩
 exact jN (b:=FZ) (bq (bQ (aI oE (aI vQ (aU _) (aj 1)) (aU _)) (aS 2))
  (bq (km (gG (aI zW (aj 1) (cg kl (au (aj 0) aA)))) (bQ (aI iZ (aj 0) (aj 1)) (aS 2)) (km (gG (aI vR (cg kl (au (aj 0) aA)) (aU _))) (bQ (aI oE (aI vQ (aI qA (aI iZ (aj 0) (aI qA (aj 1) (cg kl (au (aj 0) aA)))) (aU _)) (aU _)) (aI vQ (aU _) (aj 1))) (aS 2)) kD))
  (bq (bQ (aU _) (aS 3))
  (bq (km (gG (aI Cf (aj 2) (aI LA (aU _) (aU _)))) (bQ (aj 2) (aS 3)) kD)
  (gY (kh (au (aj 3) (au (aI oE (aI qA (aI LA (aI oE (aI vQ (aI qA (aj 2) (aU _)) (aU _)) (aI vQ (aU _) (aj 1))) (aU _)) (aU _)) (aU _)) aA)))))))) rfl h
def F0:ai->Dm Fl :=
 (ay (aG (fC .non) (hName 2))
 (ay (uI (fK (aC (aD (pF false) (ag 1) (fC .non))) (kI (.str "told") (fun as=>qX (as ++ [.int 60])) (af (ag 0) ah) 2) (kI (.str "told") qX (af (ag 0) (af (ag 1) ah)) 2)) (nE "TooMany") 3 (ay (aG (fC (.str "other")) (hName 2))
 (ay (aG (mx (my "TooMany" false) (ag 3)) (hName 4))
 (fK (mh (aC (mx (my "TooMany" true) (ag 3))) (mh (aC (mx (my "TooMany" true) (ag 3))) (se (aC (ag 4))))) (aG (bS (af (fC (.str "refused")) (af (oK (nE "TooMany") "most" (ag 3)) ah))) (hName 2)) aW))))
 (bI (ag 2))))
def Aq:List D->Dm D:=iR 5 F0
def D1:Stmt:=top 49
theorem wk:aE ["_law_floor_here","_law_most","_law_found","e","_law_others"] ["_law_floor_here","_law_most"] (aq D1):=⟨rfl,rfl,rfl,by w_fin,rfl,by w_fin,by w_fin⟩
theorem Ue{f:Addr}{fd:FuncData}(D:Def K mg "_law_told" D1 ["_law_floor_here","_law_most"] f fd)(T:Txt mg)  {ax aJ bD b6 cR bE bF b7 cI:Addr}(Z:XF K mg ax aJ bD b6 cR bE bF b7 cI){dz:Addr}{dA:FuncData}(bj:qy K mg "chart_of" Ao ["floor","most"] [V.int 60] dz dA)(dB:aH P w K mg base (qN P w) 8 dz dA ["floor","most"] (yX K 2 qX)):aH P w K mg base bW 9 f fd ["_law_floor_here","_law_most"] (cy K 2 Aq):=by
 refine D.F.ok wk (fun _ _ _ _ h=>h.1) (fun c A o s H v Q E hr h=>?_)
 refine ⟨_,(@bg _ _ _ _ _ (@b9 (i:=2) _ _ _ _ _ _ wk.nd rfl (by w_up) AG (by rfl) (by w_up))
  (@bg _ _ _ _ _ (xy (i:=3) (F:=aJ) ⟨Z.nG,Z.c5⟩ (by decide) rfl wk.nd rfl rfl (fun pins W=>(@bz _ _ _ (@jS _ _ _ _ _ _ _ _ (gO Sx (pv 1) AG (aK _)) (@bz _ _ _ (@b9 (i:=2) _ _ _ _ _ _ wk.nd rfl (by w_up) (@iU _ _ _ _ _ (@ao _ _ _ _ _ qL (@ao _ _ _ _ _ (P7 dB (hr.mono (by decide)) rfl bj.m bj.F.kp bj.bd (@ao _ _ _ _ _ (pv 0) az (by rfl))) az (by rfl)) (by rfl))) (by rfl) (by w_up))) (@bz _ _ _ (@b9 (i:=2) _ _ _ _ _ _ wk.nd rfl (by w_up) (@iU _ _ _ _ _ (@ao _ _ _ _ _ qL (@ao _ _ _ _ _ (Ph dB (hr.mono (by decide)) rfl bj.m bj.F.kp bj.b (@ao _ _ _ _ _ (pv 0) (@ao _ _ _ _ _ (pv 1) az (by rfl)) (by rfl))) az (by rfl)) (by rfl))) (by rfl) (by w_up)))))) (fun a=>(@bg _ _ _ _ _ (@b9 (i:=2) _ _ _ _ _ _ wk.nd rfl (by w_up) qL (by rfl) (by w_up))
  (@bg _ _ _ _ _ (@b9 (i:=4) _ _ _ _ _ _ wk.nd rfl (by w_up) (iL (Hz (K:=K) rfl) (by rfl) T.hJ G1 (@ao _ _ _ _ _ (pv 3) (@ao _ _ _ _ _ (@iU _ _ _ _ _ (@ao _ _ _ _ _ (vB (lH.own Z.qF) rfl) (@ao _ _ _ _ _ (vB (lH.own Z.sL) rfl) (@ao _ _ _ _ _ (vB (lH.own Z.uM) rfl) (@ao _ _ _ _ _ (vB (lH.own Z.qG) rfl) (@ao _ _ _ _ _ (vB (lH.own Z.qH) rfl) (@ao _ _ _ _ _ (vB (lH.own Z.sM) rfl) az (by rfl)) (by rfl)) (by rfl)) (by rfl)) (by rfl)) (by rfl))) az (by rfl)) (by rfl))) (by rfl) (by w_up))
  (@bz _ _ _ (@jS _ _ _ _ _ _ _ _ (PW.pt (AJ (Gu (iL (Hz (K:=K) rfl) (by rfl) T.hJ G1 (@ao _ _ _ _ _ (pv 3) (@ao _ _ _ _ _ (vB (lH.own Z.mT) rfl) az (by rfl)) (by rfl)))) (AJ (Gu (iL (Hz (K:=K) rfl) (by rfl) T.hJ G1 (@ao _ _ _ _ _ (pv 3) (@ao _ _ _ _ _ (vB (lH.blt T.nF SQ (by decide)) rfl) az (by rfl)) (by rfl)))) (El (wL (Gu (pv 4))))))) (@bz _ _ _ (@b9 (i:=2) _ _ _ _ _ _ wk.nd rfl (by w_up) (@iU _ _ _ _ _ (@ao _ _ _ _ _ qL (@ao _ _ _ _ _ (P9 (K:=K) rfl (pv 3) (by rfl)) az (by rfl)) (by rfl))) (by rfl) (by w_up))) kC))))))
  (@bz _ _ _ (@gS _ _ _ _ (pv 2))))),?_⟩
 exact jN (b:=F0) (bq (bQ Ca (aS 2))
  (bq (y2 (zc (gG (aI (Me false) (aj 1) Ca)) (S6 (F:=qX) (jT:=[V.int 60]) (uL:=[.int 60]) (fun _ _=>.str _) (au (aj 0) aA) n9 (by decide) (fun _ _=>(.cons (.int _) .nil))) (S7 (F:=qX) (fun _ _=>.str _) (au (aj 0) (au (aj 1) aA)) jP)) (bq (bQ (tJ _) (aS 2))
  (bq (bQ (y3 (aj 3) (fun _ _ _ q=>q) (by show 6<=sizeLine;decide) rfl (IF (R:=fun C b=>ot K C/\PySem.W.kitAny K (.ref C) _=some b) Z.bU ⟨Z.eP,Z.k0⟩)) (aS 4))
  (km (Cc (EY (Mt (aj 3) rfl (IF (R:=fun C b=>ot K C/\PySem.W.kitOne K (.ref C) _=some b) Z.bU ⟨Z.eP,Z.k1⟩))) (Cc (EY (Mt (aj 3) rfl (IF (R:=fun C b=>ot K C/\PySem.W.kitOne K (.ref C) _=some b) Z.bU ⟨Z.eP,Z.k2⟩))) (xP (EY (aj 4))))) (bQ (jL (au (tJ _) (au (SS (aj 3) (SW (R:=fun C=>ot K C/\PySem.W.findIn K (.ref C) "most" = some none) Z.bU ⟨Z.eP,Z.lU⟩)) aA))) (aS 2)) kD))) (SO Z.bU Z.c6))
  (gY (aj 2)))) rfl h
def F3:ai->Dm Fl :=
 (ay (aG (cL ah) (hName 1))
 (ay (dZ (nA (af (fC (.int 1)) (af (aD gW (fC (.int 2)) (aN cM (af (xS qB (ag 0) (kO (fC (.int 1))) (kO (fC (.int 2)))) ah))) ah))) (hName 2) (cw (jE "list" aR (ag 1) (af (aN Dq (af (aN DZ (af (ag 0) (af (ag 2) ah))) ah)) ah))))
 (ay (dZ (i6 (ag 1)) (lQ 4 (cJ (hName 3) (cJ (hName 4) (cJ (hName 5) (cJ (hName 6) mr))))) (dZ (i6 (ag 6)) (hName 7) (ay (aG (bS (af (fC (.str "told")) (af (ag 4) ah))) (hName 8))
 (ay (fK (aC (aD sg (ag 5) (oM (ag 7) (fC (.int 60))))) (aG (bS (af (fC (.str "refused")) (af (oM (ag 7) (fC (.int 60))) ah))) (hName 8)) aW)
 (fK (aC (aD (kU true) (aN jM (af (aN Aq (af (ag 3) (af (ag 7) ah))) ah)) (aN jM (af (ag 8) ah)))) (bI (fC (.bl false))) aW)))))
 (ay (aG (aD bP (ag 1) (fC (.int 0))) (lQ 4 (cJ (hName 3) (cJ (hName 4) (cJ (hName 5) (cJ (hName 6) mr))))))
 (bI (uy (aD sg (ag 5) (fC (.int 20))) (aD (kW false) (aN (fun as=>CZ qX (as ++ [.int 60])) (af (ag 3) ah)) (ag 4))))))))
def IK:List D->Dm D:=iR 9 F3
def F4:Stmt:=top 50
theorem qi:aE ["_law_script","_law_asked","_law_k","_law_floor_here","_law_due","_law_many","_law_mosts","_law_most","_law_wanted"] ["_law_script"] (aq F4):=⟨rfl,rfl,rfl,by w_fin,rfl,by w_fin,by w_fin⟩
theorem zm{f:Addr}{fd:FuncData}(D:Def K mg "law" F4 ["_law_script"] f fd)(T:Txt mg)  {dU:Addr}{dW:FuncData}(dX:Def K mg "_law_bounded" Dr ["_law_feed_here"] dU dW)(gn:aH P w K mg base bW 4 dU dW ["_law_feed_here"] (cy K 1 Dq)){dz:Addr}{dA:FuncData}(bj:qy K mg "chart_of" Ao ["floor","most"] [V.int 60] dz dA)(dB:aH P w K mg base (qN P w) 8 dz dA ["floor","most"] (yX K 2 qX)){iA:Addr}{iB:FuncData}(iC:Def K mg "_law_feed" D0 ["_law_script","_law_k"] iA iB)(j4:aH P w K mg base bW 1 iA iB ["_law_script","_law_k"] (cy K 2 DZ)){iD:Addr}{iE:FuncData}(iF:Def K mg "_law_told" D1 ["_law_floor_here","_law_most"] iD iE)(j5:aH P w K mg base bW 9 iD iE ["_law_floor_here","_law_most"] (cy K 2 Aq)):aH P w K mg base bW 10 f fd ["_law_script"] (cy K 1 IK):=by
 refine D.F.ok qi (fun _ _ _ _ h=>h.1) (fun c A o s H v Q E hr h=>?_);have hu:=hr.units
 refine ⟨_,(@bg _ _ _ _ _ (@b9 (i:=1) _ _ _ _ _ _ qi.nd rfl (by w_up) (@kc _ _ _ _ az) (by rfl) (by w_up))
  (@bg _ _ _ _ _ (@l9 _ _ _ _ _ _ _ _ PassesOwn.never rfl (NC rfl T.aP (@ao _ _ _ _ _ aT (@ao _ _ _ _ _ (cW oi aT (iL ke (by rfl) T.bL kf (@ao _ _ _ _ _ (Et GN (pv 0) (A8 aT) (A8 aT)) az (by rfl)))) az (by rfl)) (by rfl))) (eU (i:=2) qi.nd rfl (by w_up)) (@bz _ _ _ (o9 (m9 PySem.F.plainAttrs_list PySem.F.slot_list_append PySem.F.type_list_append ph (pv 1) (@ao _ _ _ _ _ (e8 gn dX hr (by decide) rfl (@ao _ _ _ _ _ (e8 j4 iC hr (by decide) rfl (@ao _ _ _ _ _ (pv 0) (@ao _ _ _ _ _ (pv 2) az (by rfl)) (by rfl))) az (by rfl))) az (by rfl))))) (by intro _;rfl))
  (@bg _ _ _ _ _ (@l9 _ _ _ _ _ _ _ _ PassesOwn.never rfl (AY (pv 1)) (uZ (n:=4) rfl (mE (eU (i:=3) qi.nd rfl (by w_up)) (mE (eU (i:=4) qi.nd rfl (by w_up)) (mE (eU (i:=5) qi.nd rfl (by w_up)) (mE (eU (i:=6) qi.nd rfl (by w_up)) uY))))) (@bz _ _ _ (@l9 _ _ _ _ _ _ _ _ PassesOwn.never rfl (AY (pv 6)) (eU (i:=7) qi.nd rfl (by w_up)) (@bg _ _ _ _ _ (@b9 (i:=8) _ _ _ _ _ _ qi.nd rfl (by w_up) (@iU _ _ _ _ _ (@ao _ _ _ _ _ qL (@ao _ _ _ _ _ (pv 4) az (by rfl)) (by rfl))) (by rfl) (by w_up))
  (@bg _ _ _ _ _ (@jS _ _ _ _ _ _ _ _ (gO u9 (pv 5) (K3 (pv 7) (Gv aT)) (aK _)) (@bz _ _ _ (@b9 (i:=8) _ _ _ _ _ _ qi.nd rfl (by w_up) (@iU _ _ _ _ _ (@ao _ _ _ _ _ qL (@ao _ _ _ _ _ (K3 (pv 7) (Gv aT)) az (by rfl)) (by rfl))) (by rfl) (by w_up))) kC)
  (@bz _ _ _ (@jS _ _ _ _ _ _ _ _ (gO Er (iL (Kk hr) (by rfl) T.sJ J9 (@ao _ _ _ _ _ (e8 j5 iF hr (by decide) rfl (@ao _ _ _ _ _ (pv 3) (@ao _ _ _ _ _ (pv 7) az (by rfl)) (by rfl))) az (by rfl))) (iL (Kk hr) (by rfl) T.sJ J9 (@ao _ _ _ _ _ (pv 8) az (by rfl))) (aK _)) (@bz _ _ _ (@gS _ _ _ _ uU)) kC)))) (by intro _;rfl))) (by intro _;rfl))
  (@bg _ _ _ _ _ (u3 (@cb _ _ _ _ _ _ _ kN (pv 1) aT (fun _ _=>rfl)) (uZ (n:=4) rfl (mE (eU (i:=3) qi.nd rfl (by w_up)) (mE (eU (i:=4) qi.nd rfl (by w_up)) (mE (eU (i:=5) qi.nd rfl (by w_up)) (mE (eU (i:=6) qi.nd rfl (by w_up)) uY))))))
  (@bz _ _ _ (@gS _ _ _ _ (AL (GD u9 (pv 5) aT (aK _)) (Gv (GD (xm hu) (P6 dB (hr.mono (by decide)) rfl bj.m bj.F.kp bj.bd y8 (@ao _ _ _ _ _ (pv 3) az (by rfl))) (pv 4) (aK _)))))))))),?_⟩
 exact jN (b:=F3) (bq (bQ (kh aA) (aS 1))
  (bq (mv (Q9 (au (aU _) (au (aI oE (aU _) (cg kl (au (EZ Ii (aj 0) (Cd (aU _)) (Cd (aU _))) aA))) aA))) (aS 2) (pC (mq pB (aj 1) (au (eZ (F:=Dq) (au (eZ (F:=DZ) (au (aj 0) (au (aj 2) aA)) jP) aA) n9) aA))))
  (bq (mv (Cp (aj 1)) (vT (mO (aS 3) (mO (aS 4) (mO (aS 5) (mO (aS 6) vS))))) (mv (Cp (aj 6)) (aS 7) (bq (bQ (jL (au (tJ _) (au (aj 4) aA))) (aS 8))
  (bq (km (gG (aI vR (aj 5) (MA (aj 7) (aU _)))) (bQ (jL (au (tJ _) (au (MA (aj 7) (aU _)) aA))) (aS 8)) kD)
  (km (gG (aI E3 (cg LI (au (eZ (F:=Aq) (au (aj 3) (au (aj 7) aA)) jP) aA)) (cg LI (au (aj 8) aA)))) (gY (vL _)) kD)))))
  (bq (bQ (aI iZ (aj 1) (aU _)) (vT (mO (aS 3) (mO (aS 4) (mO (aS 5) (mO (aS 6) vS))))))
  (gY (xQ (aI vR (aj 5) (aU _)) (aI (E4 false) (S5 (m:=1) (F:=qX) (uL:=[.int 60]) (au (aj 3) aA) n9 rfl (fun _ _=>.cons (.int _) (.nil))) (aj 4)))))))) rfl h
end
theorem Ar{st:Store}{f:Nat}{n:Int}(hf:bT st f)(h0:0<n)(h1:n<1073741824):Wp (oN [.ref f,.int n] st) fun d st'=>∃k:Int,d=.int k/\0<=k/\k<n/\bT st' f/\Ex [f] st st':=by
 obtain ⟨o,m,e,o0,m0,m1⟩:=hf;have hfl:=eB e;refine jv ?_;show Ws (Fh [some (.ref f),some (.int n),none,none] st) _ _ _ _;unfold Fh;refine aX (ju ?_)
 set_option simprocs false in simp only [bJ,bC e,kq e]
 refine ⟨fun ho=>?_,fun ho=>?_⟩
 ·refine aX (b8 ?_)
  set_option simprocs false in simp only [bJ,bC e]
  refine ⟨h0,aX (tN ?_)⟩
  set_option simprocs false in simp only [bJ,bC e,kq e,(show kZ [D.int o,D.int m].length 0=some 0 from CN)]
  refine ⟨⟨h0,h1⟩,gQ ?_⟩
  w_how
  refine ⟨WB _ (by omega),WG _ h0,⟨o / n,m,?_,Int.ediv_nonneg o0 (by omega),m0,m1⟩,Ex.refl.put (by simp)⟩;rw [VG hfl]
 ·refine ko (aX (b8 ?_))
  set_option simprocs false in simp only [bJ,bC e]
  refine ⟨by omega,by omega,aX (tN ?_)⟩
  set_option simprocs false in simp only [bJ,bC e,kq e,(show kZ [D.int o,D.int m].length 1=some 1 from CO)]
  refine ⟨by omega,by omega,gQ ?_⟩;have e2:(st.set f (.lst [.int o,.int ((m*48271 % 2147483647*40692+30103) % 2147483399+1)]))[f]?=some (.lst [.int o,.int ((m*48271 % 2147483647*40692+30103) % 2147483399+1)]):=VG hfl
  set_option simprocs false in simp only [bJ,bC e2]
  refine ⟨by omega,by omega,h0,WB _ (by omega),WG _ h0,⟨_,_,e2,o0,by omega,by omega⟩,Ex.refl.put (by simp)⟩
theorem Ug{st:Store}{a:Nat}{ns:List Int}{k:Nat}(hs:items st a=some (ns.map D.int))(hk:k<=100):Wp (DZ [.ref a,.int (k:Int)] st) fun d st'=>d=.ref st.length/\bT st' st.length/\Ex [] st st':=by
 refine jv ?_;show Ws (FZ [some (.ref a),some (.int (k:Int)),none,none] st) _ _ _ _;unfold FZ;refine aX (b8 ?_)
 w_how
 refine ⟨by omega,aX (uB (N:=fun δ st1=>st1=st/\∃c:Int,δ=[some (.ref a),some (.int (k:Int)),some (.int c),none]) (ju ?_) ?_)⟩
 ·set_option simprocs false in simp only [bJ,hs]
  refine ⟨fun h=>b8 ?_,fun h=>ju ?_⟩
  ·have h:=of_decide_eq_true h
   rw [Vz] at h
   set_option simprocs false in simp only [bJ,hs]
   refine ⟨.int (ns[k]'(by omega)),zH (by rw [VP,VB];rfl),_,rfl⟩
  ·set_option simprocs false in simp only [bJ,hs]
   refine ⟨fun h=>b8 ?_,fun h=>ko ⟨rfl,_,rfl⟩⟩;have h:=of_decide_eq_true h;obtain ⟨v,hv,hm⟩:=xn (xs:=ns.map D.int) (i:=(k:Int) % ((ns.map D.int).length:Int)) (WB _ (by omega)) (WG _ h);obtain ⟨c,_,rfl⟩:=VO.mp hm
   set_option simprocs false in simp only [bJ,hs]
   refine ⟨h,_,hv,?_⟩
   w_how
   exact ⟨by omega,by omega,by omega,_,rfl⟩
 ·rintro δ st1 ⟨rfl,c,rfl⟩
  refine aX (b8 ?_)
  w_how
  refine aX (uB (N:=fun δ st2=>st2=st1/\∃o:Int,0<=o/\δ=[some (.ref a),some (.int (k:Int)),some (.int c),some (.int o)]) (ju ?_) ?_)
  ·w_how
   refine ⟨by decide,fun h=>b8 ?_,fun h=>ko ⟨rfl,0,by decide,rfl⟩⟩;have h:=of_decide_eq_true h
   w_how
   exact ⟨c,Int.le_trans (by decide) h,rfl⟩
  ·rintro δ st2 ⟨rfl,o,o0,rfl⟩
   refine gQ ?_
   w_how
   have h1:0<=c % 2147483629:=WB _ (by decide);have h2:c % 2147483629<2147483629:=WG _ (by decide);refine ⟨by omega,by omega,by omega,by omega,by omega,by rfl,⟨_,_,g8,o0,?_,?_⟩,Ex.cV _⟩
   ·have:=WB ((c % 2147483629*48271+40692*(k:Int)) ^ (5:Int).toNat) (show (2147483629:Int)≠0 by decide)
    omega
   ·have:=WG ((c % 2147483629*48271+40692*(k:Int)) ^ (5:Int).toNat) (show (0:Int)<2147483629 by decide)
    omega
theorem ML{st:Store}{f:Nat}{n:Nat}(hf:bT st f)(hn:n<=100):Wp (zf [.ref f,.int (n:Int)] st) fun d st'=>∃xs:List Int,d=.tup (xs.map D.int)/\ae.Tn n xs/\bT st' f/\Ex [f] st st':=by
 have hfl:=hf.lt;refine jv ?_;show Ws (Fi [some (.ref f),some (.int (n:Int)),none,none] st) _ _ _ _;unfold Fi;refine aX (b8 ?_)
 w_how
 have e1:((n:Int)-0).toNat=n:=by omega
 rw [e1,qD];refine ⟨by unfold qC;rw [VS,decide_eq_true_eq];exact ⟨by omega,jO (by omega)⟩,aX (b8 ?_)⟩
 w_how
 refine ⟨rfl,aX (Ab (fun m δ st2=>∃L xs:List Int,m=L.length/\δ=[some (.ref f),some (.int (n:Int)),some (.ref (st ++ [O.gR 0 (n:Int)]).length),some (.tup (xs.map D.int))]/\st2[(st ++ [O.gR 0 (n:Int)]).length]?=some (.lst (L.map D.int))/\(xs ++ L).Perm (ae.upto n)/\bT st2 f/\Ex [f] st st2) n (Ww hn (by decide)) ⟨ae.upto n,[],(ae.ow n).symm,rfl,g8,W8 _,hf.keep ((Ex.cV _).app _),(Ex.cV _).app _⟩ ?_)⟩;have hl:(st ++ [O.gR 0 (n:Int)]).length≠f:=by rw [VE];omega
 have hls:st.length<=(st ++ [O.gR 0 (n:Int)]).length:=by rw [VE];omega
 generalize (st ++ [O.gR 0 (n:Int)]).length=l at hl hls ⊢;rintro m δ st2 ⟨L,xs,rfl,rfl,hL,pm,hf2,k2⟩;have hlen:(xs ++ L).length=n:=by rw [pm.length_eq,ae.ow]
 rw [VE] at hlen;refine cB ?_;intro gf hQ
 set_option simprocs false in simp only [bJ,L7 (L:=L) (M:=[]) (st:=st2 ++ [O.lst []]) (bC (jF hL)) vY]
 refine ⟨rfl,hQ _ _ ⟨fun h=>?_,fun h=>?_⟩⟩
 ·have hne:L≠[]:=by simpa using h
  have hpos:0<L.length:=List.length_pos_iff.mpr hne;have F5:(st2 ++ [O.lst []])[l]?=some (.lst (L.map D.int)):=jF hL;have f3:bT (st2 ++ [O.lst []]) f:=hf2.keep (Ex.cV _);have k3:Ex [f] st (st2 ++ [O.lst []]):=k2.app _;generalize (st2 ++ [O.lst []])=st3 at F5 f3 k3 ⊢;refine b8 ?_;refine cB ?_;intro gf hQ
  set_option simprocs false in simp only [bJ,bC F5]
  refine ⟨mS (by rw [bC F5];rfl),?_⟩;refine bB (Ar (n:=((L.map D.int).length:Int)) f3 (by rw [Vz];omega) (by rw [Vz];omega)) ?_;rintro d nP ⟨k,rfl,k0,k1,f4,k4⟩;rw [Vz] at k1;have MN:=k4.keep _ _ F5 (by simpa using hl);have nh:k.toNat<L.length:=by omega
  set_option simprocs false in simp only [bJ,kq MN]
  have hk':((k.toNat:Nat):Int)=k:=V2 k0;refine ⟨by omega,k.toNat,?_,D.int L[k.toNat],by rw [VP,VB nh];rfl,rfl,jO ?_,hQ _ _ ⟨(L.eraseIdx k.toNat).length,?_,L.eraseIdx k.toNat,xs ++ [L[k.toNat]],rfl,?_,?_,?_,?_,?_⟩⟩
  ·rw [<- hk',VR]
   exact (GL (zM (by rw [Vz];exact nh))).1
  ·simp only [Vz,V6,Xi];omega
  ·rw [List.length_eraseIdx,if_pos nh];omega
  ·rw [VW];rfl
  ·rw [VG (eB MN),Sj]
  ·refine List.Perm.trans ?_ pm
   rw [W3];exact List.Perm.append_left xs (Sk nh)
  ·exact f4.ne hl
  ·exact (k3.trans k4).loc hls
 ·have he:L=[]:=by simpa using h
  subst he;refine gQ ?_;kspl_open hQ;exact hQ _ _ ⟨xs,rfl,by simpa [ae.Tn] using pm,hf2.keep (Ex.cV _),k2.app _⟩
theorem Uh{st:Store}{xs ys:List Int}{n:Nat}(tx:ae.Tn n xs)(ty:ae.Tn n ys)(n0:0<n)(hn:n<=100):Wp (uN [bY xs ys] st) fun d st'=>∃(g:Nat) (F:List Int),d=.ref g/\items st' g=some (F.map D.int)/\(∀x,x∈F↔ae.iS xs ys x)/\F.length<=n/\ae.Od xs ys F/\Ex [] st st':=by
 have hlx:=tx.length;have As:=ty.length;refine jv ?_;show Ws (Fm [some (bY xs ys),none,none,none,none] st) _ _ _ _;unfold Fm;refine aX (b8 ?_);kspl_open hQ;refine ⟨rfl,hQ _ _ (aX (n5 (aB 0 (n+1)) (fun i δ st2=>∃(v2 v3 v4:Option D) (F:List Int),δ=[some (bY xs ys),some (.ref st.length),v2,v3,v4]/\st2[st.length]?=some (.lst (F.map D.int))/\ae.Fo xs ys F/\(ae.Cl xs ys F\/i+1<=F.length)/\Ex [] st st2) ?_ ?_ ?_ ?_))⟩
 ·unfold bY
  kspl_open hQ;have e0:((1:Int)+((xs.map D.int).length:Int)).toNat=n+1:=by rw [Vz];omega
  refine ⟨by rw [Vz];omega,hQ _ _ ⟨by rw [e0],none,none,none,[0],rfl,g8,ae.Fo.one xs ys,.inr (VC _),Ex.cV _⟩⟩
 ·rw [iN];omega
 ·rintro i d δ st2 hd ⟨v2,v3,v4,F,rfl,Au,hF,hcl,k2⟩
  kspl_open hQ
  refine hQ _ _ (n5 [.tup (xs.map D.int),.tup (ys.map D.int)] (fun m δ st3=>∃ (v3 v4:Option D) (G:List Int),δ=[some (bY xs ys),some (.ref st.length),some d,v3,v4]/\st3[st.length]?=some (.lst (G.map D.int))/\ae.Fo xs ys G /\
    (m=0->G=F)/\(m=1->F <+: G/\∀x∈F,ae.app xs x∈G)/\(2<=m->∃F1,F <+: F1/\F1 <+: G/\(∀x∈F,ae.app xs x∈F1)/\∀x∈F1,ae.app ys x∈G)/\Ex [] st st3) ?_ (by simp) ?_ ?_)
  ·unfold bY
   kspl_open hQ;exact hQ _ _ ⟨rfl,v3,v4,F,rfl,Au,hF,fun _=>rfl,fun z=>by omega,fun z=>by omega,k2⟩
  ·rintro m z δ st3 hm ⟨v3,v4,G,rfl,D2,hG,m0,m1,_,k3⟩
   have hm2:m<2:=eB hm;obtain ⟨zs,rfl,hz,em⟩:∃(zs:List Int),z=.tup (zs.map D.int)/\(zs=xs\/zs=ys)/\((m=0/\zs=xs)\/(m=1/\zs=ys)):=by
    rcases (show m=0\/m=1 by omega) with rfl|rfl
    ·exact ⟨xs,by simpa using hm.symm,.inl rfl,.inl ⟨rfl,rfl⟩⟩
    ·exact ⟨ys,by simpa using hm.symm,.inr rfl,.inr ⟨rfl,rfl⟩⟩
   have tz:ae.Tn n zs:=by rcases hz with rfl|rfl;exact tx;exact ty
   have MO:=tz.length;have go:∀x,ae.iS xs ys x->ae.iS xs ys (ae.app zs x):=fun x h=>by rcases hz with rfl|rfl;exact h.r;exact h.u
   kspl_open hQ;refine hQ _ _ (E9 (G.map D.int) st3.length (fun j δ nP=>∃(v4:Option D) (G':List Int),δ=[some (bY xs ys),some (.ref st.length),some d,some (.tup (zs.map D.int)),v4]/\nP[st.length]?=some (.lst (G'.map D.int))/\nP[st3.length]?=some (.lst (G.map D.int))/\ae.Fo xs ys G'/\G <+: G'/\(∀i',i' < j->∀x,G[i']?=some x->ae.app zs x∈G')/\Ex [] st nP) ?_ ?_ ?_ ?_ ?_)
   ·refine cB ?_
    intro gf hQ
    set_option simprocs false in simp only [bJ,bC D2]
    exact hQ _ _ ⟨rfl,v4,G,rfl,jF D2,g8,hG,Xb _,fun i' h=>absurd h (Wn _),k3.app _⟩
   ·rw [Vz]
    have:=hG.len tx ty n0;omega
   ·rintro j δ nP ⟨_,_,_,_,h,_⟩
    exact bC h
   ·rintro j Vm δ nP hj0 ⟨v4,G',rfl,zo,Av,zp,pG,hd',k4⟩
    obtain ⟨y,hj,rfl⟩:=CP hj0;have hjl:=eB hj;have hR:=hG.mt _ (VI hj);obtain ⟨y0,y1⟩:=hR.bound tx ty n0;have at':=qE (xs:=zs) y0 (by rw [MO];exact y1);have hnext:∀F6:List Int,G' <+: F6->ae.app zs y∈F6->∀i',i' < j+1->∀x,G[i']?=some x->ae.app zs x∈F6:=fun F6 p h i' hi' x hx=>by
     by_cases e:i'=j
     ·subst e
      rw [hj] at hx;cases hx;exact h
     ·exact p.subset (hd' i' (by omega) x hx)
    kspl_open hQ;refine hQ _ _ (ju ?_);refine cB ?_;intro gM bR
    set_option simprocs false in simp only [bJ,at',Fb (st:=nP) (c:=.ref st.length) (ns:=G') (bC zo)]
    refine bR _ _ ⟨fun hcn=>?_,fun hcn=>?_⟩
    ·have hnm:ae.app zs y ∉ G':=fun z=>by rw [WH.mpr z] at hcn;cases hcn
     have MP:ae.Fo xs ys (G' ++ [ae.app zs y]):=by
      refine ⟨⟨WI _ zp.z,?_,fun x hx=>?_⟩,zp.od.snoc (pG.subset (VI hj)) (hz.imp (fun e=>by rw [e]) fun e=>by rw [e])⟩
      ·rw [List.nodup_append]
       refine ⟨zp.nd,by simp,fun x hx y' hy e=>hnm ?_⟩;have e2:y'=ae.app zs y:=by simpa using hy
       rw [<- e2,<- e];exact hx
      ·rcases V9.mp hx with h|h
       ·exact zp.mt x h
       ·have e2:x=ae.app zs y:=by simpa using h
        rw [e2];exact go _ hR
     have hlen2:=MP.len tx ty n0;rw [VE] at hlen2;refine pE ?_;refine cB ?_;intro D3 sO
     set_option simprocs false in simp only [bJ,at',kq zo]
     refine ⟨mS (by rw [bC zo];rfl),jO (by rw [Vz];simp at hlen2;omega),sO _ _ ⟨_,G' ++ [ae.app zs y],rfl,?_,?_,MP,pG.trans (List.prefix_append _ _),hnext _ (List.prefix_append _ _) (by simp),k4.loc (VC _)⟩⟩
     ·rw [VG (eB zo),VW];rfl
     ·rw [VF (by have:=eB D2;omega)];exact Av
    ·have hcn:G'.contains (ae.app zs y)=true:=by simpa using hcn
     exact ko ⟨_,G',rfl,zo,Av,zp,pG,hnext G' (Xb _) (WH.mp hcn),k4⟩
   ·rintro δ nP ⟨v4,G',rfl,zo,Av,zp,pG,hd',k4⟩
    rw [Vz] at hd';have hall:∀x∈G,ae.app zs x∈G':=fun x hx=>by
     obtain ⟨i',hi',e⟩:=WK hx;exact hd' i' hi' x (by rw [VB hi',e])
    refine ⟨_,_,G',rfl,zo,zp,fun z=>by omega,fun z=>?_,fun z=>?_,k4⟩
    ·rcases em with ⟨rfl,rfl⟩|⟨rfl,_⟩
     ·have:=m0 rfl
      subst this;exact ⟨pG,hall⟩
     ·omega
    ·rcases em with ⟨rfl,_⟩|⟨rfl,rfl⟩
     ·omega
     ·obtain ⟨p1,c1⟩:=m1 rfl
      exact ⟨G,p1,pG,c1,hall⟩
  ·rintro δ st3 ⟨v3,v4,G,rfl,D2,hG,_,_,m2,k3⟩
   obtain ⟨F1,p1,p2,c1,c2⟩:=m2 (VC 2);exact ⟨_,_,_,G,rfl,D2,hG,ae.round hF.toFd hG.toFd p1 p2 c1 c2 hcl,k3⟩
 ·rintro δ st2 ⟨v2,v3,v4,F,rfl,Au,hF,hcl,k2⟩
  rw [iN] at hcl;have hl:=hF.len tx ty n0;have hc:ae.Cl xs ys F:=hcl.resolve_right (by omega);refine gQ ?_;kspl_open hQ;exact hQ _ _ ⟨_,F,rfl,bC Au,fun x=>⟨hF.mt x,fun h=>hc.all hF.z h⟩,hl,hF.od,k2⟩
theorem Ui{st:Store}{xs ys:List Int}{n:Nat}(tx:ae.Tn n xs)(ty:ae.Tn n ys)(n0:0<n)(hn:n<=100):Wp (uN [bY xs ys] st) fun d st'=>∃(g:Nat) (F:List Int),d=.ref g/\items st' g=some (F.map D.int)/\(∀x,x∈F↔ae.iS xs ys x)/\F.length<=n/\Ex [] st st' :=
 bB (Uh tx ty n0 hn) fun d st' ⟨g,F,h1,h2,h3,h4,_,h5⟩=>⟨g,F,h1,h2,h3,h4,h5⟩
theorem MQ{st:Store}{δ:ai}{X Y:List Int}{n:Nat}{Q:D->Store->Prop}(tX:ae.Tn n X)(tY:ae.Tn n Y)(n0:0<n)(hn:n<=100)(h1:δ[1]?=some (some (.int (n:Int))))(h6:δ[6]?=some (some (bY X Y)))
  (q:∀(L:List Int) (st':Store),L.length<=n->L.Nodup->(∀x,x∈L↔(0<=x/\x<(n:Int)/\¬ae.iS X Y x))->Ex [] st st'->Q (.ref st'.length) (st' ++ [.lst (L.map D.int)])) :
  Wp (d5 (cq (af (ag 1) ah)) 1 [6] (hName 0) (aC (aD (qR true) (ag 0) (aN uN (af (ag 1) ah)))) (ag 0) δ st) Q:=by
 have Uj:δ.getD 6 none=some (bY X Y):=by rw [VU,h6];rfl
 refine LU (aB 0 n) (fun j zs δ' nD=>∃(v:Option D) (L:List Int),δ'=[v,some (bY X Y)]/\zs=L.map D.int/\L.length<=j/\L.Nodup/\(∀x,x∈L↔(0<=x/\x<(j:Int)/\¬ae.iS X Y x))/\Ex [] st nD) ?_ (by rw [iN];omega) ?_ ?_ ?_
 ·refine cB ?_
  intro gf hQ
  set_option simprocs false in simp only [bJ,h1]
  refine ⟨by omega,hQ _ _ ⟨fun i ys δ st hi _=>?_,none,[],?_,rfl,VC _,List.nodup_nil,fun x=>⟨(fun h=>nomatch h),fun h=>by omega⟩,Ex.refl⟩⟩
  ·rw [VR]
   show (if i<=(aB 0 n).length then some (aB 0 n)[i]? else none)=_;rw [if_pos hi]
  ·unfold oH
   simp only [V0,Wm,Uj];rfl
 ·rintro j zs δ' nD ⟨v,L,_,rfl,hl,_⟩
  rw [Vz];exact hl
 ·rintro j d zs δ' nD hd ⟨v,L,rfl,rfl,l6,nd,hL,k8⟩
  have hjl:=eB hd;rw [iN] at hjl;rw [ya hjl] at hd;cases hd;rw [WV];kspl_open hQ;refine hQ _ _ ?_;kspl_open bR;refine bB (Ui (st:=nD) tX tY n0 hn) ?_;rintro d pD ⟨g,F,rfl,hg,hF,Vn,k9⟩;rw [Fb (c:=.ref g) (ns:=F) hg];refine ⟨_,rfl,bR _ _ ⟨fun hc=>?_,fun hc=>?_⟩⟩
  ·have hR:¬ae.iS X Y (j:Int):=fun h=>by rw [WH.mpr ((hF _).mpr h)] at hc;cases hc
   kspl_open sO;refine sO _ _ ⟨_,L ++ [(j:Int)],rfl,by rw [VW];rfl,by rw [VE];simp;omega,?_,fun x=>?_,k8.trans k9⟩
   ·rw [List.nodup_append]
    refine ⟨nd,by simp,fun x hx y hy e=>?_⟩;have e2:y=(j:Int):=by simpa using hy
    have:=((hL x).mp hx).2.1;omega
   ·rw [V9,hL x]
    constructor
    ·rintro (⟨a1,a2,a3⟩|h)
     ·exact ⟨a1,by omega,a3⟩
     ·have e2:x=(j:Int):=by simpa using h
      rw [e2];exact ⟨by omega,by omega,hR⟩
    ·rintro ⟨a1,a2,a3⟩
     rcases Int.lt_or_le x (j:Int) with h|h
     ·exact .inl ⟨a1,h,a3⟩
     ·exact .inr (by simp;omega)
  ·have hc:F.contains (j:Int)=true:=by simpa using hc
   have hR:=(hF _).mp (WH.mp hc);refine ⟨_,L,rfl,rfl,by omega,nd,fun x=>?_,k8.trans k9⟩;rw [hL x];constructor
   ·rintro ⟨a1,a2,a3⟩;exact ⟨a1,by omega,a3⟩
   ·rintro ⟨a1,a2,a3⟩
    refine ⟨a1,?_,a3⟩;rcases Int.lt_or_le x (j:Int) with h|h
    ·exact h
    ·exact absurd hR (by rw [show (j:Int)=x by omega];exact a3)
 ·rintro zs δ' nD ⟨v,L,rfl,rfl,l6,nd,hL,k8⟩
  rw [iN] at l6 hL;exact q L nD l6 nd hL k8
theorem Uk{st:Store}{f n:Nat}(hf:bT st f)(n1:1<=n)(Ul:n<=20):Wp (Dd [.ref f,.int (n:Int)] st) fun d st'=>∃xs ys:List Int,d=bY xs ys/\mw n xs ys/\bT st' f/\Ex [f] st st':=by
 have hfl:=hf.lt;refine jv ?_;show Ws (Fn [some (.ref f),some (.int (n:Int)),none,none,none,none,none,none,none] st) _ _ _ _;unfold Fn;refine aX (b8 ?_);kspl_open hQ;refine bB (Ar (n:=6) hf (by decide) (by decide)) ?_;rintro d st1 ⟨form,rfl,g0,g6,f1,k1⟩;refine hQ _ _ (aX (LS ?_));clear hQ;kspl_open hQ;refine bB (ML (n:=n) f1 (by omega)) ?_;rintro d st2 ⟨X,rfl,tX,f2,k2⟩
 w_how
 refine bB (ML (n:=n) (f2.keep (Ex.cV [.lst (X.map D.int)])) (by omega)) ?_;rintro d st3 ⟨Y,rfl,tY,f3,k3⟩
 w_how
 refine hQ _ _ ⟨_,_,rfl,?_⟩;clear hQ;have oO:st3[st2.length]?=some (.lst (X.map D.int)):=k3.keep _ _ g8 (by have:=f2.lt;simp;omega);have two:nC st (st3 ++ [.lst (Y.map D.int)]) f st2.length st3.length n X Y:=⟨jF oO,g8,by have:=eB oO;omega,(k1.trans k2).len,((k1.trans k2).trans ((Ex.cV _).trans k3)).len,tX,tY,f3.keep (Ex.cV _),(((k1.trans k2).app _).trans k3).app _⟩;show Ws _ _ _ _ _;generalize (st3 ++ [O.lst (Y.map D.int)])=nP at two ⊢;generalize st2.length=r at two ⊢;generalize st3.length=u at two ⊢;clear oO tX tY f3 k3 f2 k2 f1 k1;refine aX (uB (N:=fun δ mF=>∃(r u:Nat) (X Y:List Int),δ=[some (.ref f),some (.int (n:Int)),some (.int form),some (.ref r),some (.ref u),none,none,none,none]/\nC st mF f r u n X Y) (ju ?_) ?_)
 ·kspl_open hQ
  refine hQ _ _ ⟨fun _=>b8 ?_,fun _=>ko ⟨r,u,X,Y,rfl,two⟩⟩;kspl_open bR;rw [<- L8];refine ⟨uD (by omega),rfl,jO (by rw [iN];simp;omega),bR _ _ ⟨_,u,_,Y,rfl,(two.keep (((Ex.cV _).app _).app _)).yO (ae.K7 (show n<21 by omega) (by omega))⟩⟩
 rintro δ mF ⟨r,u,X,Y,rfl,two⟩;refine aX (uB (N:=fun δ mF=>∃(r u:Nat) (X Y:List Int),δ=[some (.ref f),some (.int (n:Int)),some (.int form),some (.ref r),some (.ref u),none,none,none,none]/\nC st mF f r u n X Y) (ju ?_) ?_)
 ·kspl_open hQ
  refine hQ _ _ ⟨fun _=>LS ?_,fun _=>ko ⟨r,u,X,Y,rfl,two⟩⟩;kspl_open bR;rw [<- L8,show ((n:Int)-0).toNat=n by omega,qD];refine ⟨uD (by omega),uD (by omega),rfl,jO (by rw [iN];simp;omega),bR _ _ ⟨_,_,rfl,_,_,_,_,rfl,(((two.keep (Ex.cV [.gR 0 (n:Int)])).yO (Z:=ae.upto n) (W8 _)).keep (((Ex.cV _).app _).app _)).yP (ae.K7 (show n<21 by omega) (by omega))⟩⟩
 rintro δ Im ⟨r,u,X,Y,rfl,two⟩;refine aX (uB (N:=fun δ mF=>∃(r u:Nat) (v5:Option D) (X Y:List Int),δ=[some (.ref f),some (.int (n:Int)),some (.int form),some (.ref r),some (.ref u),v5,none,none,none]/\nC st mF f r u n X Y) (ju ?_) ?_)
 ·kspl_open hQ
  refine hQ _ _ ⟨fun _=>aX (b8 ?_),fun _=>ko ⟨r,u,none,X,Y,rfl,two⟩⟩;kspl_open bR;refine bB (Ar (n:=(n:Int)) two.fd (by omega) (by omega)) ?_;rintro d qu ⟨w,rfl,w0,w1,f7,k7⟩;obtain ⟨wd,rfl⟩:∃wd:Nat,w=(wd:Int)-1:=⟨(w+1).toNat,by omega⟩;have t7:nC st qu f r u n X Y:=⟨k7.keep _ _ two.hr (by have:=two.r0;simp;omega),k7.keep _ _ two.hu (by have:=two.u0;simp;omega),two.ne,two.r0,two.u0,two.tX,two.tY,f7,two.ex.trans k7⟩
  w_how
  rw [show (1:Int)+((wd:Int)-1)=(wd:Int) by omega];refine bR _ _ (aX (b8 ?_));clear bR hQ;kspl_open bR;rw [<- yQ];refine ⟨uD (by omega),rfl,jO (by rw [iN];simp;omega),uD (by omega),jO (by rw [VE,iN,iN];simp;omega),bR _ _ (aX (b8 ?_))⟩;clear bR;have t8:=(t7.keep ((((((Ex.cV [.gR 1 (wd:Int)]).app [.lst (aB 1 ((wd:Int)-1).toNat)]).app [.lst [.int 0]]).app [.lst (aB 1 ((wd:Int)-1).toNat ++ [.int 0])]).app [.gR (wd:Int) (n:Int)]).app [.lst (aB (wd:Int) ((n:Int)-(wd:Int)).toNat)])).yO (ae.Qp (w:=wd) (show n<21 by omega) (by omega) (by omega));generalize Um:(qu ++ _ ++ _ ++ _ ++ _ ++ _ ++ _ ++ _:Store)=nD at t8 ⊢;generalize List.length _=r8 at t8 ⊢;kspl_open bR;refine ⟨rfl,uD (by omega),jO (by simp [iN];omega),uD (by omega),jO (by simp [iN];omega),rfl,jO (by simp [iN];omega),bR _ _ (ju ?_)⟩;clear bR;generalize Uo:(nD ++ _ ++ _ ++ _ ++ _ ++ _ ++ _ ++ _ ++ _ ++ _:Store)=F7;have tE:nC st F7 f r8 u n (ae.rX wd n) Y:=by rw [<- Uo];exact t8.keep (((((((((Ex.cV _).app _).app _).app _).app _).app _).app _).app _).app _)
  kspl_open hQ;refine hQ _ _ ⟨fun hw=>?_,fun hw=>?_⟩
  ·refine b8 ?_
   kspl_open bR;rw [show ((n:Int)-0).toNat=n by omega,qD];exact ⟨uD (by omega),bR _ _ ⟨r8,_,_,_,_,rfl,(tE.keep ((Ex.cV _).app _)).yP (W8 _)⟩⟩
  ·have hne:wd≠n:=fun z=>by simp [z] at hw
   have tF:=tE.yP (ae.Qq (w:=wd) (show n<21 by omega) (by omega) (by omega));rw [yR (by omega) (by omega)] at tF;exact ko ⟨r8,_,_,_,_,rfl,tF⟩
 rintro δ qu ⟨r,u,v5,X,Y,rfl,two⟩;have n0:0<n:=by omega
 refine aX (b8 ?_);refine cB ?_;intro gf hQ
 set_option simprocs false in simp only [bJ,bC two.hr,bC two.hu]
 refine ⟨rfl,hQ _ _ (aX (b8 (MQ (X:=X) (Y:=Y) two.tX two.tY n0 (by omega) rfl rfl ?_)))⟩;clear hQ;intro L nD l6 nd hL k8;have t8:=(two.keep k8).keep (Ex.cV [.lst (L.map D.int)]);refine aX (Ab (fun mm δ pD=>∃(pa:Nat) (X L:List Int) (v8:Option D),mm=L.length/\δ=[some (.ref f),some (.int (n:Int)),some (.int form),some (.ref r),some (.ref u),v5,some (bY X Y),some (.ref pa),v8]/\nC st pD f r u n X Y/\items pD pa=some (L.map D.int)/\L.length<=n/\L.Nodup/\(∀x,x∈L↔(0<=x/\x<(n:Int)/\¬ae.iS X Y x))) L.length (Ww l6 (Ww Ul (by decide))) ⟨_,X,L,none,rfl,rfl,t8,vY,l6,nd,hL⟩ ?_);rintro mm δ pD ⟨pa,X,L,v8,rfl,rfl,two,hpa,l6,nd,hL⟩;have Vo:=two.tX.length;have zq:items (pD ++ [O.lst []]) pa=some (L.map D.int):=by
  unfold items at hpa ⊢;cases e:pD[pa]? with
  |none=>rw [e] at hpa;cases hpa
  |some o=>rw [jF e];rw [e] at hpa;exact hpa
 refine cB ?_;intro gf hQ
 set_option simprocs false in simp only [bJ,L7 (L:=L) (M:=[]) (st:=pD ++ [O.lst []]) zq vY]
 refine ⟨rfl,hQ _ _ ⟨fun h=>?_,fun h=>?_⟩⟩
 ·have hne:L≠[]:=by simpa using h
  clear hQ;obtain ⟨m,L1,rfl⟩:∃m L1,L=m :: L1:=by cases L with|nil=>exact absurd rfl hne|cons m L1=>exact ⟨m,L1,rfl⟩
  obtain ⟨m0,m1,mR⟩:=(hL m).mp VN;have t2:=two.keep (Ex.cV [O.lst []]);generalize (pD ++ [O.lst []])=F7 at zq t2 ⊢;refine aX (b8 ?_);refine cB ?_;intro gf hQ
  set_option simprocs false in simp only [bJ,zq,V0]
  refine hQ _ _ (aX (tN ?_));clear hQ;refine cB ?_;intro gf hQ
  set_option simprocs false in simp only [bJ,bC t2.hr,qE (xs:=X) m0 (by omega),qE (xs:=X) (i:=0) (by decide) (by omega)]
  refine ⟨rfl,hQ _ _ ?_⟩;clear hQ;have i0:kZ (X.map D.int).length 0=some 0:=zM (j:=0) (by rw [Vz];omega);have im:kZ ((X.map D.int).set 0 (.int (ae.app X m))).length m=some m.toNat:=by
   rw [Wc];have:=zM (n:=(X.map D.int).length) (j:=m.toNat) (by rw [Vz];omega)
   rwa [V2 m0] at this
  have oO:(F7.set r (.lst ((X.map D.int).set 0 (.int (ae.app X m)))))[r]?=some (.lst ((X.map D.int).set 0 (.int (ae.app X m)))):=VG (eB t2.hr);have eS:((X.map D.int).set 0 (.int (ae.app X m))).set m.toNat (.int (ae.app X 0))=(ae.md X m.toNat).map D.int:=by
   unfold ae.md;rw [V2 m0,List.map_set,List.map_set]
  refine cB ?_;intro gf hQ
  set_option simprocs false in simp only [bJ,kq t2.hr,kq oO,i0,im,eS]
  refine ⟨rfl,hQ _ _ (aX (b8 ?_))⟩;clear hQ;have tS:=ae.xC t2.tX (m:=m.toNat) (by omega);have hmet:=ae.Qk t2.tX t2.tY (m:=m.toNat) (by omega) (by rw [V2 m0];exact mR);rw [V2 m0] at hmet;rw [List.set_set];have t3:=t2.put (Z:=ae.md X m.toNat) tS hfl;generalize F7.set r _=st3 at t3 ⊢;refine cB ?_;intro gf hQ
  set_option simprocs false in simp only [bJ,bC t3.hr,bC t3.hu]
  refine ⟨rfl,hQ _ _ (b8 (MQ (X:=ae.md X m.toNat) (Y:=Y) t3.tX t3.tY n0 (by omega) rfl rfl ?_))⟩;intro L' nP IL MR hL' k4;refine ⟨_,?_,nP.length,ae.md X m.toNat,L',_,rfl,rfl,(t3.keep k4).keep (Ex.cV _),vY,IL,MR,hL'⟩;refine ae.less (m:=m) MR (fun x hx=>?_) VN (fun h=>((hL' m).mp h).2.2 hmet.1);obtain ⟨a1,a2,a3⟩:=(hL' x).mp hx;exact (hL x).mpr ⟨a1,a2,fun h=>a3 (hmet.2 x h)⟩
 ·have he:L=[]:=by simpa using h
  subst he;refine gQ ?_;kspl_open bR;have t2:=two.keep (Ex.cV [O.lst []]);refine bR _ _ ⟨X,Y,rfl,⟨t2.tX,t2.tY,fun x x0 x1=>?_⟩,t2.fd,t2.ex⟩;exact Classical.byContradiction fun h=>nomatch (hL x).mpr ⟨x0,x1,h⟩
theorem IP{st:Store}{xs:List Int}{n:Nat}(tn:ae.Tn n xs)(hn:n<=100):Wp (sN [.tup (xs.map D.int)] st) fun d st'=>d=.tup ((ae.inv xs).map D.int)/\Ex [] st st':=by
 have hlen:=tn.length;refine jv ?_;show Ws (Fy [some (.tup (xs.map D.int)),none,none,none] st) _ _ _ _;unfold Fy;refine aX (b8 ?_);kspl_open hQ;have e0:(((xs.map D.int).length:Int)).toNat=n:=by rw [Vz];omega
 have ez:(List.replicate n [D.int 0]).flatten=(List.replicate n (0:Int)).map D.int:=by
  induction n with
  |zero=>rfl
  |succ n ih=>simp [Wq]
 rw [e0,ez];refine ⟨rfl,by rw [Vz];omega,jO (by simp;omega),hQ _ _ (aX (n5 (kP (xs.map D.int)) (fun k δ st2=>∃(v2 v3:Option D) (bs:List Int),δ=[some (.tup (xs.map D.int)),some (.ref (st ++ [O.lst [D.int 0]]).length),v2,v3]/\st2[(st ++ [O.lst [D.int 0]]).length]?=some (.lst (bs.map D.int))/\bs.length=n/\(∀j,j<k->∀x,xs[j]?=some x->bs[x.toNat]?=some (j:Int))/\Ex [] st st2) ?_ ?_ ?_ ?_))⟩
 ·kspl_open hQ
  exact hQ _ _ ⟨rfl,none,none,_,rfl,g8,by simp,fun j hj=>absurd hj (Wn _),(Ex.cV _).app _⟩
 ·rw [Cq,Vz];omega
 ·have D4:st.length<=(st ++ [O.lst [D.int 0]]).length:=by simp
  generalize (st ++ [O.lst [D.int 0]]).length=B at D4 ⊢;rintro k d δ st2 hd ⟨v2,v3,bs,rfl,hB,uO,uP,k2⟩;obtain ⟨d',hd',rfl⟩:=Il hd;obtain ⟨x,hx,rfl⟩:=CP hd';obtain ⟨x0,x1⟩:=tn.bound (VI hx);have nh:=eB hx;kspl_open hQ;refine ⟨rfl,hQ _ _ (tN ?_)⟩;have hix:kZ (bs.map D.int).length x=some x.toNat:=by
   have:=zM (n:=(bs.map D.int).length) (j:=x.toNat) (by rw [Vz];omega)
   rwa [V2 x0] at this
  have es:(bs.map D.int).set x.toNat (.int (k:Int))=(bs.set x.toNat (k:Int)).map D.int:=by rw [List.map_set]
  kspl_open bR;refine bR _ _ ?_;refine cB ?_;intro D3 sO
  set_option simprocs false in simp only [bJ,kq hB,hix,es]
  refine sO _ _ ⟨_,_,bs.set x.toNat (k:Int),rfl,VG (eB hB),by rw [Wc];exact uO,fun j hj y hy=>?_,k2.loc D4⟩
  by_cases hjk:j=k
  ·subst hjk
   rw [hx] at hy;cases hy;rw [VG (by rw [uO];omega)]
  ·obtain ⟨y0,y1⟩:=tn.bound (VI hy)
   rw [VF (fun z=>?_)]
   ·exact uP j (by omega) y hy
   ·obtain ⟨h1,e1⟩:=VA.mp hx
    obtain ⟨h2,e2⟩:=VA.mp hy;exact hjk ((List.getElem_inj tn.nodup).mp (show xs[j]=xs[k] by omega))
 ·rintro δ st2 ⟨v2,v3,bs,rfl,hB,uO,uP,k2⟩
  rw [Cq,Vz] at uP;have eb:bs=ae.inv xs:=by
   apply List.ext_getElem?;intro i
   by_cases hi:i<n
   ·have hm:=tn.mem (i:=(i:Int)) (by omega) (by omega)
    have hil:=List.idxOf_lt_length_of_mem hm;have:=uP (xs.idxOf (i:Int)) hil (i:Int) (by rw [VB hil];exact congrArg some (List.getElem_idxOf hil));rw [VR] at this;rw [this];have ea:=ae.oy (xs:=ae.inv xs) (i:=(i:Int)) (by omega) (by rw [ae.EJ];omega);rw [VR,ae.EK (by omega) (by omega)] at ea;exact ea.symm
   ·rw [W7 (by omega),W7 (by rw [ae.EJ];omega)]
  subst eb;refine gQ ?_;refine cB ?_;intro gf hQ
  set_option simprocs false in simp only [bJ,bC hB]
  exact hQ _ _ ⟨rfl,k2⟩
theorem D5{st:Store}{xs ys:List Int}(hb:∀x∈xs,0<=x/\x<(ys.length:Int))(hn:xs.length<=100):Wp (qh [.tup (xs.map D.int),.tup (ys.map D.int)] st) fun d st'=>d=.tup ((ae.aQ xs ys).map D.int)/\Ex [] st st':=by
 refine jv ?_;show Ws (FA [some (.tup (xs.map D.int)),some (.tup (ys.map D.int))] st) _ _ _ _;unfold FA;refine gQ ?_;kspl_open hQ;refine tO (xs.map D.int) (fun d=>.int (ae.app ys (inD d))) ?_ (by rw [Vz];omega) ?_ ?_
 ·kspl_open bR
  exact bR _ _ ⟨uE _ _,Ex.refl⟩
 ·intro d hd st1 k1
  obtain ⟨x,hx,rfl⟩:=yS hd;obtain ⟨x0,x1⟩:=hb x hx;refine cB ?_;intro gM bR
  set_option simprocs false in simp only [bJ,V0,Wm,Wi,Wj,qE (xs:=ys) x0 x1]
  exact bR _ _ ⟨rfl,Ex.refl⟩
 ·intro st' k'
  rw [CQ (f:=ae.app ys) fun x hx=>rfl]
  w_how
  exact hQ _ _ ⟨rfl,k'.app _⟩
theorem Up{st:Store}{xs ys p:List Int}{n:Nat}(tx:ae.Tn n xs)(ty:ae.Tn n ys)(tp:ae.Tn n p)(hn:n<=100):Wp (Ds [bY xs ys,.tup (p.map D.int)] st) fun d st'=>d=bY (ae.anew xs p) (ae.anew ys p)/\Ex [] st st':=by
 have hlx:=tx.length;have As:=ty.length;have MS:=tp.length;have ti:=tp.av;have hli:=ti.length;refine jv ?_;show Ws (FC [some (bY xs ys),some (.tup (p.map D.int)),none,none,none] st) _ _ _ _;unfold FC bY;refine aX (b8 ?_);kspl_open hQ;refine bB (IP tp hn) ?_;rintro d st1 ⟨rfl,k1⟩;refine hQ _ _ (aX (b8 ?_));clear hQ;kspl_open hQ;refine bB (D5 (xs:=ae.inv p) (ys:=xs) (fun x hx=>by rw [hlx];exact ti.bound hx) (by omega)) ?_;rintro d st2 ⟨rfl,k2⟩;refine bB (D5 (xs:=ae.aQ (ae.inv p) xs) (ys:=p) (fun x hx=>by rw [MS];exact (ti.aQ tx).bound hx) (by rw [ae.BN];omega)) ?_;rintro d st3 ⟨rfl,k3⟩;refine hQ _ _ (aX (b8 ?_));clear hQ;kspl_open hQ;refine bB (D5 (xs:=ae.inv p) (ys:=ys) (fun x hx=>by rw [As];exact ti.bound hx) (by omega)) ?_;rintro d nP ⟨rfl,k4⟩;refine bB (D5 (xs:=ae.aQ (ae.inv p) ys) (ys:=p) (fun x hx=>by rw [MS];exact (ti.aQ ty).bound hx) (by rw [ae.BN];omega)) ?_;rintro d mF ⟨rfl,k5⟩;refine hQ _ _ (gQ ?_);clear hQ;kspl_open hQ;exact ⟨rfl,hQ _ _ ⟨rfl,(((k1.trans k2).trans k3).trans k4).trans k5⟩⟩
theorem MT{F:List Int}{x:Int}:(!F.contains x)=true->ae.cz F x=F ++ [x]:=fun h=>by
 unfold ae.cz;rw [if_neg fun z=>by rw [WH.mpr z] at h;cases h]
theorem MU{F:List Int}{x:Int}:(!F.contains x)=false->ae.cz F x=F:=fun h=>by
 unfold ae.cz;rw [if_pos (WH.mp (by simpa using h))]
theorem Uq{st:Store}{xs ys:List Int}{n:Nat}{s:Int}(tx:ae.Tn n xs)(ty:ae.Tn n ys)(hn:n<=100)(s0:0<=s)(s1:s<(n:Int)):Wp (Du [bY xs ys,.int s] st) fun d st'=>d=.tup ((ae.bf xs ys s n).map D.int)/\Ex [] st st':=by
 have hlx:=tx.length;have As:=ty.length;refine jv ?_;show Ws (FE [some (bY xs ys),some (.int s),none,none,none,none] st) _ _ _ _;unfold FE;refine aX (b8 ?_);kspl_open hQ;refine ⟨rfl,hQ _ _ (aX (b8 ?_))⟩;clear hQ;kspl_open hQ;refine hQ _ _ (aX (Ab (fun m δ st2=>∃(k:Nat) (v4 v5:Option D),m=n-k/\δ=[some (bY xs ys),some (.int s),some (.ref st.length),some (.int (k:Int)),v4,v5]/\st2[st.length]?=some (.lst ((ae.bf xs ys s k).map D.int))/\k<=(ae.bf xs ys s k).length/\Ex [] st st2) n (Ww hn (by decide)) ⟨0,none,none,by omega,rfl,g8,Wd _,Ex.cV _⟩ ?_));clear hQ;rintro m δ st2 ⟨k,v4,v5,rfl,rfl,hl,hk,k2⟩;have uO:=ae.BO tx ty s0 s1 k;refine cB ?_;intro gf hQ
 set_option simprocs false in simp only [bJ,bC hl]
 refine hQ _ _ ⟨fun hlt=>?_,fun hlt=>?_⟩
 ·clear hQ
  have hlt:=of_decide_eq_true hlt;rw [Vz] at hlt;have nh:k<(ae.bf xs ys s k).length:=by omega
  obtain ⟨x,hx⟩:∃x,(ae.bf xs ys s k)[k]?=some x:=⟨_,VB nh⟩;obtain ⟨x0,x1⟩:=ae.qz tx ty s0 s1 k x (VI hx);have e1:ae.bf xs ys s (k+1)=ae.visit xs ys (ae.bf xs ys s k) x:=by
   show (match (ae.bf xs ys s k)[k]? with|some x=>ae.visit xs ys (ae.bf xs ys s k) x|none=>ae.bf xs ys s k)=_;rw [hx]
  have hb1:=ae.BO tx ty s0 s1 (k+1);rw [e1] at hb1;have hp1:=(ae.vD (ae.cz (ae.bf xs ys s k) (ae.app xs x)) (ae.app ys x)).length_le;have hp0:=(ae.vD (ae.bf xs ys s k) (ae.app xs x)).length_le;change _<=(ae.visit xs ys (ae.bf xs ys s k) x).length at hp1;refine aX (n5 [.tup (xs.map D.int),.tup (ys.map D.int)] (fun m δ st3=>∃(v4 v5:Option D) (G:List Int),δ=[some (bY xs ys),some (.int s),some (.ref st.length),some (.int (k:Int)),v4,v5]/\st3[st.length]?=some (.lst (G.map D.int))/\(m=0->G=ae.bf xs ys s k)/\(m=1->G=ae.cz (ae.bf xs ys s k) (ae.app xs x))/\(m=2->G=ae.visit xs ys (ae.bf xs ys s k) x)/\Ex [] st st3) ?_ (by simp) ?_ ?_)
  ·unfold bY
   kspl_open hQ;exact hQ _ _ ⟨rfl,v4,v5,_,rfl,hl,fun _=>rfl,fun z=>by omega,fun z=>by omega,k2⟩
  ·rintro m z δ st3 hm ⟨v4,v5,G,rfl,hl3,g0,g1,_,k3⟩
   have hm2:m<2:=eB hm;obtain ⟨zs,rfl,tz,em⟩:∃(zs:List Int),z=.tup (zs.map D.int)/\ae.Tn n zs/\((m=0/\zs=xs)\/(m=1/\zs=ys)):=by
    rcases (show m=0\/m=1 by omega) with rfl|rfl
    ·exact ⟨xs,by simpa using hm.symm,tx,.inl ⟨rfl,rfl⟩⟩
    ·exact ⟨ys,by simpa using hm.symm,ty,.inr ⟨rfl,rfl⟩⟩
   have hG:G.length<=100/\G[k]?=some x:=by
    rcases em with ⟨rfl,_⟩|⟨rfl,_⟩
    ·rw [g0 rfl];exact ⟨by omega,hx⟩
    ·rw [g1 rfl]
     refine ⟨by omega,?_⟩;obtain ⟨t,e⟩:=ae.vD (ae.bf xs ys s k) (ae.app xs x);rw [<- e,VM nh];exact hx
   have D6:∀G',G'=ae.cz G (ae.app zs x)->(m+1=0->G'=ae.bf xs ys s k)/\(m+1=1->G'=ae.cz (ae.bf xs ys s k) (ae.app xs x))/\(m+1=2->G'=ae.visit xs ys (ae.bf xs ys s k) x):=fun G' e=>by
    rcases em with ⟨rfl,rfl⟩|⟨rfl,rfl⟩
    ·exact ⟨fun z=>by omega,fun _=>by rw [e,g0 rfl],fun z=>by omega⟩
    ·exact ⟨fun z=>by omega,fun z=>by omega,fun _=>by rw [e,g1 rfl];rfl⟩
   have hat:eo (G.map D.int) (k:Int)=some (.int x):=zH (by rw [VP,hG.2];rfl);kspl_open hQ;refine hQ _ _ (aX (b8 ?_));clear hQ;refine cB ?_;intro gf hQ
   set_option simprocs false in simp only [bJ,bC hl3,hat,qE (xs:=zs) x0 (by rw [tz.length];exact x1)]
   refine hQ _ _ (ju ?_);clear hQ;refine cB ?_;intro gf hQ
   set_option simprocs false in simp only [bJ,Fb (st:=st3) (c:=.ref st.length) (ns:=G) (bC hl3)]
   refine hQ _ _ ⟨fun hc=>pE ?_,fun hc=>ko ?_⟩
   ·obtain ⟨n0,n1,n2⟩:=D6 (G ++ [ae.app zs x]) (MT hc).symm
    refine cB ?_;intro gM bR
    set_option simprocs false in simp only [bJ,kq hl3]
    refine ⟨mS (by rw [bC hl3];rfl),jO (by rw [Vz];omega),bR _ _ ⟨_,_,G ++ [ae.app zs x],rfl,?_,n0,n1,n2,k3.loc (VC _)⟩⟩;rw [VG (eB hl3),VW];rfl
   ·obtain ⟨n0,n1,n2⟩:=D6 G (MU hc).symm
    exact ⟨_,_,G,rfl,hl3,n0,n1,n2,k3⟩
  ·rintro δ st3 ⟨v4,v5,G,rfl,hl3,_,_,g2,k3⟩
   have g2:=g2 rfl;subst g2;refine b8 ?_;kspl_open hQ;refine hQ _ _ ⟨n-(k+1),by omega,k+1,v4,v5,rfl,by simp,by rw [e1];exact hl3,by rw [e1];omega,k3⟩
 ·have hlt:=of_decide_eq_false hlt
  rw [Vz] at hlt;have hle:(ae.bf xs ys s k).length<=k:=by omega
  have e:ae.bf xs ys s n=ae.bf xs ys s k:=by
   have:=ae.EL hle (n-k)
   rwa [show k+(n-k)=n by omega] at this
  refine gQ ?_;refine cB ?_;intro gM bR
  set_option simprocs false in simp only [bJ,bC hl]
  rw [<- e];exact bR _ _ ⟨rfl,k2⟩
theorem Ur{st:Store}{xs:List Int}{n:Nat}{i:Int}(tn:ae.Tn n xs)(hn:n<=100)(i0:0<=i)(i1:i<(n:Int)):Wp (DA [.tup (xs.map D.int),.int i] st) fun d st'=>∃r:List Int,d=.tup (r.map D.int)/\ae.gU xs i r/\Ex [] st st':=by
 have hlen:=tn.length;refine jv ?_;show Ws (FI [some (.tup (xs.map D.int)),some (.int i),none,none] st) _ _ _ _;unfold FI;refine aX (b8 ?_);kspl_open hQ;refine ⟨rfl,hQ _ _ (aX (b8 ?_))⟩;clear hQ;refine cB ?_;intro gf hQ
 set_option simprocs false in simp only [bJ,qE (xs:=xs) i0 (by omega)]
 refine hQ _ _ (aX (Ab (fun m δ st2=>∃k:Nat,m=n-(k+1)/\δ=[some (.tup (xs.map D.int)),some (.int i),some (.ref st.length),some (.int (ae.aZ xs i (k+1)))]/\st2[st.length]?=some (.lst ((ae.row xs i k).map D.int))/\ae.NB xs i k/\Ex [] st st2) (n-1) (Ww (show n-1<=100 by omega) (by decide)) ⟨0,rfl,rfl,g8,fun j h1 h2=>by omega,Ex.cV _⟩ ?_));clear hQ;rintro m δ st2 ⟨k,rfl,rfl,hL,nb,k2⟩;have hrl:=tn.jV i0 i1 nb;kspl_open hQ;refine hQ _ _ ⟨fun hb=>?_,fun hb=>?_⟩
 ·have hb:ae.aZ xs i (k+1)≠i:=by simpa using hb
  have D7:ae.NB xs i (k+1):=fun j h1 h2=>by
   by_cases hj:j<=k
   ·exact nb j h1 hj
   ·have:j=k+1:=by omega
    rw [this];exact hb
  have hle:=tn.jV i0 i1 D7;have hit:=tn.aZ i0 i1 (k+1);refine aX (pE ?_);refine cB ?_;intro gM bR
  set_option simprocs false in simp only [bJ,kq hL]
  refine ⟨mS (by rw [bC hL];rfl),jO (by rw [Vz,ae.tD];omega),bR _ _ (b8 ?_)⟩;clear bR;refine cB ?_;intro gM bR
  set_option simprocs false in simp only [bJ,qE (xs:=xs) hit.1 (by omega)]
  refine bR _ _ ⟨n-(k+1+1),by omega,k+1,rfl,rfl,?_,D7,k2.loc (VC _)⟩;rw [VG (eB hL),ae.K5,VW];rfl
 ·have hb:ae.aZ xs i (k+1)=i:=by simpa using hb
  refine gQ ?_;refine cB ?_;intro gM bR
  set_option simprocs false in simp only [bJ,bC hL]
  exact bR _ _ ⟨_,rfl,⟨k,rfl,nb,hb⟩,k2⟩
theorem Us{st:Store}{xs:List Int}{n:Nat}(tn:ae.Tn n xs)(hn:n<=100):Wp (DC [.tup (xs.map D.int)] st) fun d st'=>∃rs:List (List Int),d=Si rs/\ae.vC xs (ae.upto n) rs/\(∀r∈rs,r.length<=n/\∀x∈r,0<=x/\x<(n:Int))/\rs.length<=n/\Ex [] st st':=by
 have hlen:=tn.length;refine jv ?_;show Ws (FK [some (.tup (xs.map D.int)),none,none,none,none,none] st) _ _ _ _;unfold FK;refine aX (b8 ?_);kspl_open hQ;refine ⟨rfl,hQ _ _ (aX (b8 ?_))⟩;clear hQ;kspl_open hQ;have eS:(st ++ [O.lst []]).length=st.length+1:=by simp
 rw [eS]
 refine hQ _ _ (aX (n5 (aB 0 n) (fun k δ st2=>∃ (v3 v4 v5:Option D) (rs:List (List Int)) (kvs:List (Key×D)),δ=[some (.tup (xs.map D.int)),some (.ref st.length),some (.ref (st.length + 1)),v3,v4,v5]/\st2[st.length]?=some (.lst (rs.map fun r=>.tup (r.map D.int)))/\st2[st.length + 1]?=some (.dct kvs) /\
   (∀rest,ae.vC xs (ae.from' n k (fun x=>(dj kvs (Sum.inl x:Key)).isSome)) rest->ae.vC xs (ae.upto n) (rs ++ rest))/\(∀r∈rs,r.length<=n/\∀x∈r,0<=x/\x<(n:Int))/\rs.length<=k/\kvs.length<=k*n/\Ex [] st st2) ?_ (by rw [iN];omega) ?_ ?_))
 ·clear hQ
  kspl_open hQ;rw [Vz,hlen];refine ⟨by omega,hQ _ _ ⟨by rw [VR],none,none,none,[],[],rfl,jF g8,by rw [<- eS];exact g8,fun rest hrest=>?_,(fun r hr=>nomatch hr),VC _,Wd _,(Ex.cV _).app _⟩⟩;have e:ae.from' n 0 (fun x=>(dj ([]:List (Key×D)) (Sum.inl x:Key)).isSome)=ae.upto n:=ae.Qf n;rw [e] at hrest;exact hrest
 ·rintro k d δ st2 hd ⟨v3,v4,v5,rs,kvs,rfl,F8,F9,wm,hb,hrl,nh,k2⟩
  have hk:=eB hd;rw [iN] at hk;rw [ya hk,WV] at hd;cases hd;have hkn:k*n<=10000:=V3 (Nat.mul_le_mul (show k<=100 by omega) hn) (by decide);clear hQ;kspl_open hQ;refine hQ _ _ (ju ?_);clear hQ;refine cB ?_;intro gf hQ
  set_option simprocs false in simp only [bJ,Mc F9,Md]
  have hfs:=ae.Qd hk (fun x=>(dj kvs (Sum.inl x:Key)).isSome);refine hQ _ _ ⟨fun hs=>?_,fun hs=>?_⟩
  ·have IQ:(dj kvs (Sum.inl (k:Int):Key)).isSome=false:=by simpa using hs
   simp only [IQ,Wr,if_false] at hfs;clear hQ;refine aX (b8 ?_);kspl_open hQ;refine bB (Ur tn hn (i:=(k:Int)) (by omega) (by omega)) ?_;rintro d st3 ⟨r,rfl,mU,k3⟩;refine hQ _ _ (aX (pE ?_));clear hQ;have IU:=k3.keep _ _ F8 (by simp);have Ut:=k3.keep _ _ F9 (by simp);have IV:=mU.len tn (by omega) (by omega);have hrb:=mU.bound tn (by omega) (by omega);refine cB ?_;intro gf hQ
   set_option simprocs false in simp only [bJ,kq IU]
   refine ⟨mS (by rw [bC IU];rfl),jO (by rw [Vz];omega),hQ _ _ ?_⟩;clear hQ
   refine n5 (r.map D.int) (fun j δ mF=>∃ (v5:Option D) (kvs':List (Key×D)),δ=[some (.tup (xs.map D.int)),some (.ref st.length),some (.ref (st.length + 1)),some (.int (k:Int)),some (.tup (r.map D.int)),v5]/\mF[st.length]?=some (.lst ((rs ++ [r]).map fun r=>.tup (r.map D.int)))/\mF[st.length + 1]?=some (.dct kvs') /\
     (∀x:Int,(dj kvs' (Sum.inl x:Key)).isSome=((dj kvs (Sum.inl x:Key)).isSome || (r.take j).contains x))/\kvs'.length<=kvs.length+j/\Ex [] st mF) ?_ (by rw [Vz];omega) ?_ ?_
   ·kspl_open hQ
    refine hQ _ _ ⟨rfl,v5,kvs,rfl,?_,?_,fun x=>by simp,by omega,(k2.trans k3).loc (VC _)⟩
    ·rw [VG (eB IU),VW];rfl
    ·rw [VF (by omega)];exact Ut
   ·rintro j y δ mF hj ⟨v5,kvs',rfl,IW,Ga,Gb,MV,k5⟩
    obtain ⟨x,hx,rfl⟩:=CP hj;obtain ⟨hjl,ex⟩:=VA.mp hx;subst ex;kspl_open hQ;refine hQ _ _ (RH ?_);clear hQ;kspl_open hQ;refine hQ _ _ ?_;kspl_open bR;refine bR _ _ ?_;kspl_open sO;refine sO _ _ ⟨_,kvs',_,rfl,Mc Ga,Md _,jO (by omega),_,_,rfl,?_,VG (eB Ga),fun x=>?_,?_,k5.loc (by omega)⟩
    ·rw [VF (by omega)];exact IW
    ·rw [Ss,Sw hjl]
     by_cases hx:x=r[j]
     ·subst hx;simp
     ·rw [if_neg (by intro z;exact hx (Sum.inl.inj z)),Gb x]
      have:(x == r[j])=false:=beq_eq_false_iff_ne.mpr hx;rw [this,Bool.or_false]
    ·have:=Sv kvs' (Sum.inl r[j]:Key) (.bl true);omega
   ·rintro δ mF ⟨v5,kvs',rfl,IW,Ga,Gb,MV,k5⟩
    rw [Vz] at MV Gb;refine ⟨_,_,_,rs ++ [r],kvs',rfl,IW,Ga,fun rest hrest=>?_,fun r' hr'=>?_,by rw [VE];simp;omega,by rw [Nat.succ_mul];omega,k5⟩
    ·have e:(fun x=>(dj kvs' (Sum.inl x:Key)).isSome)=fun x=>((dj kvs (Sum.inl x:Key)).isSome || r.contains x):=by
      funext x;rw [Gb x,WX]
     rw [e,<- ae.Qe] at hrest;rw [W3];refine wm _ ?_;rw [hfs];refine .cons mU ?_;have e2:ae.out ((k:Int) :: ae.from' n (k+1) (fun x=>(dj kvs (Sum.inl x:Key)).isSome)) r=ae.out (ae.from' n (k+1) (fun x=>(dj kvs (Sum.inl x:Key)).isSome)) r:=by
      unfold ae.out;rw [List.filter_cons,if_neg (by simp [mU.mem])]
     rw [e2];exact hrest
    ·rcases V9.mp hr' with h|h
     ·exact hb r' h
     ·have:r'=r:=by simpa using h
      subst this;exact ⟨IV,hrb⟩
  ·have IQ:(dj kvs (Sum.inl (k:Int):Key)).isSome=true:=by simpa using hs
   simp only [IQ,if_true] at hfs;exact ko ⟨_,_,_,rs,kvs,rfl,F8,F9,fun rest hrest=>wm rest (by rw [hfs];exact hrest),hb,by omega,by rw [Nat.succ_mul];omega,k2⟩
 ·rintro δ st2 ⟨v3,v4,v5,rs,kvs,rfl,F8,F9,wm,hb,hrl,nh,k2⟩
  rw [iN] at wm hrl;refine gQ ?_;clear hQ;refine cB ?_;intro gf hQ
  set_option simprocs false in simp only [bJ,bC F8]
  refine hQ _ _ ⟨rs,rfl,?_,hb,hrl,k2⟩;have:=wm [] (by rw [ae.Qc];exact .nil)
  rwa [Wl] at this
theorem Uu{rs:List (List Int)}{m:Nat}{d:D}(h:(rs.map fun r=>D.tup (r.map D.int))[m]?=some d):∃r,rs[m]?=some r/\d=.tup (r.map D.int):=by
 rw [VP] at h;obtain ⟨r,h1,h2⟩:=V7.mp h;exact ⟨r,h1,h2.symm⟩
theorem MW{xs:List Int}{i:Int}{m:Nat}{j:Int}(h0:0<=j)(h1:j<((m+1:Nat):Int)):eo ((ae.row xs i m).map D.int) j=some (.int (ae.aZ xs i j.toNat)):=by
 have e:((ae.row xs i m).map D.int)[j.toNat]?=some (.int (ae.aZ xs i j.toNat)):=by
  unfold ae.row;rw [V8,VP,List.getElem?_range (by omega)];rfl
 have:=zH e
 rwa [V2 h0] at this
theorem MX{bs:List Int}{m v x:Int}(h0:0<=m)(h1:m<(bs.length:Int))(x0:0<=x):ae.app (bs.set m.toNat v) x=if x=m then v else ae.app bs x:=by
 have:=ae.HC (xs:=bs) (m:=m.toNat) (v:=v) (x:=x) (by omega) x0;rw [V2 h0] at this;exact this
theorem Uv{st:Store}{xs:List Int}{n:Nat}{k:Int}(tn:ae.Tn n xs)(hn:n<=100):Wp (DF [.tup (xs.map D.int),.int k] st) fun d st'=>d=.tup ((ae.ck xs k).map D.int)/\Ex [] st st':=by
 have hlen:=tn.length;refine jv ?_;show Ws (FL [some (.tup (xs.map D.int)),some (.int k),none,none,none,none] st) _ _ _ _;unfold FL;refine aX (b8 ?_);kspl_open hQ;have e0:(((xs.map D.int).length:Int)).toNat=n:=by rw [Vz];omega
 have ez:(List.replicate n [D.int 0]).flatten=(List.replicate n (0:Int)).map D.int:=by
  clear hlen tn hn e0
  induction n with
  |zero=>rfl
  |succ n ih=>simp [Wq]
 rw [e0,ez];have D4:st.length<=(st ++ [O.lst [D.int 0]]).length:=by simp
 refine ⟨rfl,by rw [Vz];omega,jO (by simp;omega),hQ _ _ ?_⟩;clear hQ;have IX:(st ++ [O.lst [D.int 0]] ++ [O.lst ((List.replicate n (0:Int)).map D.int)])[(st ++ [O.lst [D.int 0]]).length]?=some (.lst ((List.replicate n (0:Int)).map D.int)):=g8;have kB:Ex [] st (st ++ [O.lst [D.int 0]] ++ [O.lst ((List.replicate n (0:Int)).map D.int)]):=(Ex.cV _).app _;generalize (st ++ [O.lst [D.int 0]] ++ [O.lst ((List.replicate n (0:Int)).map D.int)])=Uw at IX kB ⊢;generalize (st ++ [O.lst [D.int 0]]).length=B at D4 IX ⊢;show Ws _ _ _ _ _;obtain ⟨d,st2,e2,rs,rfl,wm,hrb,hrl,k2⟩:=Us (st:=Uw) tn hn;refine aX (n5 (rs.map fun r=>.tup (r.map D.int)) (fun m δ st3=>∃(v3 v4 v5:Option D) (bs:List Int),δ=[some (.tup (xs.map D.int)),some (.int k),some (.ref B),v3,v4,v5]/\st3[B]?=some (.lst (bs.map D.int))/\bs.length=n/\(∀j,j<m->∀r,rs[j]?=some r->∀x∈r,ae.app bs x=ae.pw xs k x)/\Ex [] st st3) ?_ (by rw [Vz];omega) ?_ ?_)
 ·kspl_open hQ
  refine ⟨_,_,e2,?_⟩;exact ⟨_,rfl,hQ _ _ ⟨rfl,none,none,none,_,rfl,k2.keep _ _ IX (by simp),by simp,fun j hj=>absurd hj (Wn _),kB.trans k2⟩⟩
 ·rintro m d δ st3 hm ⟨v3,v4,v5,bs,rfl,IY,uO,uP,k3⟩
  obtain ⟨r,hr,rfl⟩:=Uu hm;obtain ⟨i,hi,mU⟩:=wm.all.1 r (VI hr);obtain ⟨i0,i1⟩:=ae.lb.mp hi;obtain ⟨M,rfl,nb,bk⟩:=mU.ex;have hM:=tn.jV i0 i1 nb;kspl_open hQ;refine hQ _ _ (n5 (kP ((ae.row xs i M).map D.int)) (fun t δ nP=>∃(v4 v5:Option D) (cs:List Int),δ=[some (.tup (xs.map D.int)),some (.int k),some (.ref B),some (.tup ((ae.row xs i M).map D.int)),v4,v5]/\nP[B]?=some (.lst (cs.map D.int))/\cs.length=n/\(∀x:Int,0<=x->x<(n:Int)->ae.app bs x=ae.pw xs k x->ae.app cs x=ae.pw xs k x)/\(∀j,j<t->ae.app cs (ae.aZ xs i j)=ae.pw xs k (ae.aZ xs i j))/\Ex [] st nP) ?_ ?_ ?_ ?_)
  ·clear hQ
   kspl_open hQ;exact hQ _ _ ⟨rfl,v4,v5,bs,rfl,IY,uO,fun _ _ _ h=>h,fun j hj=>absurd hj (Wn _),k3⟩
  ·rw [Cq,Vz,ae.tD];omega
  ·rintro t d δ nP hd ⟨v4,v5,cs,rfl,Gd,hcl,hcs,hct,k4⟩
   obtain ⟨d',hd',rfl⟩:=Il hd;obtain ⟨y,hy,rfl⟩:=CP hd';have MY:=eB hy;rw [ae.tD] at MY;have ey:y=ae.aZ xs i t:=by
    unfold ae.row at hy;rw [VP,List.getElem?_range MY] at hy;exact (VJ hy).symm
   subst ey;obtain ⟨x0,x1⟩:=tn.aZ i0 i1 t;have hL:(0:Int)<((M+1:Nat):Int):=by omega
   have m0:=WB ((t:Int)+k) (Int.ne_of_gt hL);have m1:=WG ((t:Int)+k) hL;have eL:((((ae.row xs i M).map D.int).length:Nat):Int)=((M+1:Nat):Int):=by rw [Vz,ae.tD]
   have hix:kZ (cs.map D.int).length (ae.aZ xs i t)=some (ae.aZ xs i t).toNat:=by
    have:=zM (n:=(cs.map D.int).length) (j:=(ae.aZ xs i t).toNat) (by rw [Vz];omega)
    rwa [V2 x0] at this
   have es:∀v:Int,(cs.map D.int).set (ae.aZ xs i t).toNat (.int v)=(cs.set (ae.aZ xs i t).toNat v).map D.int:=fun v=>by rw [List.map_set]
   clear hQ;kspl_open hQ;refine ⟨rfl,hQ _ _ (tN ?_)⟩;clear hQ;refine cB ?_;intro gf hQ
   set_option simprocs false in simp only [bJ,eL,MW m0 m1]
   refine ⟨hL,hQ _ _ ?_⟩;clear hQ;refine cB ?_;intro gf hQ
   set_option simprocs false in simp only [bJ,kq Gd,hix,es]
   have hat:=tn.xE x0 x1 (tn.xB i0 i1 nb bk t k);refine hQ _ _ ⟨_,_,_,rfl,VG (eB Gd),by rw [Wc];exact hcl,fun x h0 h1 h=>?_,fun j hj=>?_,k4.loc D4⟩
   ·rw [MX x0 (by omega) h0]
    split
    ·next e=>rw [e];exact hat
    ·exact hcs x h0 h1 h
   ·obtain ⟨y0,y1⟩:=tn.aZ i0 i1 j
    rw [MX x0 (by omega) y0];split
    ·next e=>rw [e];exact hat
    ·next e =>
     by_cases Ux:j=t
     ·rw [Ux] at e;exact absurd rfl e
     ·exact hct j (by omega)
  ·rintro δ nP ⟨v4,v5,cs,rfl,Gd,hcl,hcs,hct,k4⟩
   rw [Cq,Vz,ae.tD] at hct;refine ⟨_,_,_,cs,rfl,Gd,hcl,fun j hj r hr2 x hx=>?_,k4⟩
   by_cases Uy:j=m
   ·subst Uy
    rw [hr] at hr2;cases hr2;obtain ⟨jj,Vp,rfl⟩:=ae.EI.mp hx;exact hct jj (by omega)
   ·obtain ⟨b0,b1⟩:=(hrb r (VI hr2)).2 x hx
    exact hcs x b0 b1 (uP j (by omega) r hr2 x hx)
 ·rintro δ st3 ⟨v3,v4,v5,bs,rfl,IY,uO,uP,k3⟩
  rw [Vz] at uP;have e:bs=ae.ck xs k:=by
   refine ae.pZ (n:=n) uO (by rw [ae.BR];exact hlen) fun s s0 s1=>?_;rw [ae.pA s0 (by omega)];obtain ⟨r,hr',hx⟩:=wm.all.2 s (ae.lb.mpr ⟨s0,s1⟩);obtain ⟨j,hj,ej⟩:=WK hr';exact uP j hj r (by rw [VB hj,ej]) s hx
  subst e;refine gQ ?_;refine cB ?_;intro gf hQ
  set_option simprocs false in simp only [bJ,bC IY]
  exact hQ _ _ ⟨rfl,k3⟩
theorem Uz{st:Store}{xs ys:List Int}{n:Nat}{k:Int}(tx:ae.Tn n xs)(ty:ae.Tn n ys)(hn:n<=100):Wp (DI [bY xs ys,.int k] st) fun d st'=>d=bY xs (ae.shr xs ys k)/\Ex [] st st':=by
 refine jv ?_;show Ws (FN [some (bY xs ys),some (.int k)] st) _ _ _ _;unfold FN bY;refine gQ ?_;have tp:=tx.ck (-k);kspl_open hQ;refine bB (Uv (k:=-k) tx hn) ?_;rintro d st1 ⟨rfl,k1⟩;refine bB (D5 (xs:=ae.ck xs (-k)) (ys:=ys) (fun x hx=>by rw [ty.length];exact tp.bound hx) (by rw [tp.length];exact hn)) ?_;rintro d st2 ⟨rfl,k2⟩;exact ⟨rfl,hQ _ _ ⟨rfl,k1.trans k2⟩⟩
theorem UA{st:Store}{xs ys:List Int}{n:Nat}(tx:ae.Tn n xs)(ty:ae.Tn n ys)(hn:n<=100):Wp (DK [bY xs ys] st) fun d st'=>d=bY (ae.inv ys) xs/\Ex [] st st':=by
 refine jv ?_;show Ws (FO [some (bY xs ys)] st) _ _ _ _;unfold FO bY;refine gQ ?_;kspl_open hQ;refine bB (IP ty hn) ?_;rintro d st1 ⟨rfl,k1⟩;exact ⟨rfl,hQ _ _ ⟨rfl,k1⟩⟩
theorem MZ{st:Store}{Q:D->Store->Prop}{xs:List Int}{v:Int}(h:v∈xs):Wp (i5 (.tup (xs.map D.int)) [.int v] st) Q↔Q (.int (xs.idxOf v:Int)) st:=by
 rw [LY];constructor
 ·rintro ⟨ns,j,h1,h2,q⟩
  rw [L0] at h1;cases h1;rw [Ma h] at h2;cases h2;exact q
 ·intro q
  exact ⟨xs,_,L0 xs,Ma h,q⟩
theorem M0{xs:List Int}{i:Int}{m:Nat}:eo ((ae.row xs i m).map D.int) (-1)=some (.int (ae.aZ xs i m)):=by
 have hl:((ae.row xs i m).map D.int).length=m+1:=by rw [Vz,ae.tD]
 unfold eo kZ;rw [if_neg (by decide),hl,if_pos (by omega),Wv,show ((-1:Int)+((m+1:Nat):Int)).toNat=m by omega];unfold ae.row;rw [V8,VP,List.getElem?_range (by omega)];rfl
theorem UB{st:Store}{xs:List Int}{n:Nat}{s k:Int}(tn:ae.Tn n xs)(hn:n<=100)(s0:0<=s)(s1:s<(n:Int)):Wp (Di [.tup (xs.map D.int),.int s,.int k] st) fun d st'=>d=.int (ae.pw xs k s)/\Ex [] st st':=by
 have hlen:=tn.length;refine jv ?_;show Ws (Ft [some (.tup (xs.map D.int)),some (.int s),some (.int k),none] st) _ _ _ _;unfold Ft;refine aX (uB (N:=fun δ st1=>∃(zs:List Int) (j:Nat),δ=[some (.tup (zs.map D.int)),some (.int s),some (.int (j:Int)),none]/\ae.Tn n zs/\ae.aZ zs s j=ae.pw xs k s/\Ex [] st st1) (ju ?_) ?_)
 ·kspl_open hQ
  refine hQ _ _ ⟨fun h=>?_,fun h=>ko ⟨xs,k.toNat,?_,tn,?_,Ex.refl⟩⟩
  ·have h:=of_decide_eq_true h
   clear hQ;refine aX (b8 ?_);kspl_open hQ;refine tO (aB 0 n) (fun d=>.int (xs.idxOf (inD d):Int)) ?_ (by rw [iN];omega) ?_ ?_
   ·kspl_open bR
    rw [Vz,hlen];exact ⟨by omega,bR _ _ ⟨by rw [VR];exact uE _ _,Ex.refl⟩⟩
   ·intro d hd qu k7
    rw [qD] at hd;obtain ⟨x,hx,rfl⟩:=yS hd;obtain ⟨x0,x1⟩:=ae.lb.mp hx;refine cB ?_;intro gM bR
    set_option simprocs false in simp only [bJ,V0,Wm,Wi,Wj,LX,MZ (tn.mem x0 x1)]
    exact bR _ _ ⟨rfl,Ex.refl⟩
   ·intro qu k7
    have e:(aB 0 n).map (fun d=>D.int (xs.idxOf (inD d):Int))=(ae.inv xs).map D.int:=by
     rw [qD,CQ (f:=fun x=>(xs.idxOf x:Int)) fun x hx=>rfl];unfold ae.inv;rw [hlen]
    rw [e]
    w_how
    refine hQ _ _ (b8 ?_);clear hQ;kspl_open hQ;refine hQ _ _ ⟨ae.inv xs,(-k).toNat,?_,tn.av,?_,k7.app _⟩
    ·rw [show (0:Int)-k=(((-k).toNat:Nat):Int) by omega];rfl
    ·unfold ae.pw;rw [if_neg (by omega)]
  ·have h:=of_decide_eq_false h
   rw [V2 (by omega)]
  ·have h:=of_decide_eq_false h
   unfold ae.pw;rw [if_pos (by omega)]
 rintro δ st1 ⟨zs,j,rfl,tz,ej,k1⟩;have MO:=tz.length;refine aX (b8 ?_);kspl_open hQ;refine ⟨rfl,hQ _ _ (aX (Ab (fun m δ st2=>∃k:Nat,m=n-(k+1)/\δ=[some (.tup (zs.map D.int)),some (.int s),some (.int (j:Int)),some (.ref st1.length)]/\st2[st1.length]?=some (.lst ((ae.row zs s k).map D.int))/\ae.NB zs s k/\Ex [] st1 st2) (n-1) (Ww (show n-1<=100 by omega) (by decide)) ⟨0,rfl,rfl,g8,fun j h1 h2=>by omega,Ex.cV _⟩ ?_))⟩;clear hQ;rintro m δ st2 ⟨k',rfl,rfl,hL,nb,k2⟩;have hrl:=tz.jV s0 s1 nb;obtain ⟨y0,y1⟩:=tz.aZ s0 s1 k';refine cB ?_;intro gf hQ
 set_option simprocs false in simp only [bJ,bC hL,M0,qE (xs:=zs) y0 (by omega)]
 refine hQ _ _ ⟨fun hb=>?_,fun hb=>?_⟩
 ·have hb:ae.aZ zs s (k' + 1)≠s:=by show ae.app zs (ae.aZ zs s k')≠s;simpa using hb
  have D7:ae.NB zs s (k' + 1):=fun j h1 h2=>by
   by_cases hj:j<=k'
   ·exact nb j h1 hj
   ·have:j=k' + 1:=by omega
    rw [this];exact hb
  have hle:=tz.jV s0 s1 D7;refine pE ?_;refine cB ?_;intro gM bR
  set_option simprocs false in simp only [bJ,bC hL,M0,qE (xs:=zs) y0 (by omega),kq hL]
  refine ⟨mS (by rw [bC hL];rfl),jO (by rw [Vz,ae.tD];omega),bR _ _ ⟨n-(k' + 1+1),by omega,k' + 1,rfl,rfl,?_,D7,k2.loc (VC _)⟩⟩;rw [VG (eB hL),ae.K5,VW];rfl
 ·have hb:ae.aZ zs s (k' + 1)=s:=by show ae.app zs (ae.aZ zs s k')=s;simpa using hb
  refine gQ ?_;have hpos:(0:Int)<((k' + 1:Nat):Int):=by omega
  have eL:((((ae.row zs s k').map D.int).length:Nat):Int)=((k' + 1:Nat):Int):=by rw [Vz,ae.tD]
  refine cB ?_;intro gM bR
  set_option simprocs false in simp only [bJ,bC hL,eL,MW (WB (j:Int) (Int.ne_of_gt hpos)) (WG (j:Int) hpos)]
  refine ⟨hpos,bR _ _ ⟨?_,k1.trans k2⟩⟩;rw [<- ej,show ((j:Int) % ((k' + 1:Nat):Int)).toNat=j % (k' + 1) by omega,ae.K9 hb]
theorem UC{st:Store}{xs ys:List Int}{n:Nat}{k:Int}(tx:ae.Tn n xs)(ty:ae.Tn n ys)(hn:n<=100):Wp (wg [bY xs ys,.tup [.str "s",.int k]] st) fun d st'=>d=bY xs (ae.shr xs ys k)/\Ex [] st st':=by
 have hlx:=tx.length;have As:=ty.length;refine jv ?_;show Ws (Ag [some (bY xs ys),some (.tup [.str "s",.int k]),none,none,none] st) _ _ _ _;unfold Ag bY;refine aX (tN ?_);kspl_open hQ;refine hQ _ _ ?_;clear hQ;kspl_open hQ;refine ⟨rfl,hQ _ _ (aX (ju ?_))⟩;clear hQ;kspl_open hQ;refine hQ _ _ ⟨fun _=>gQ ?_,fun h=>absurd h (by simp)⟩;clear hQ;kspl_open hQ;refine tO (aB 0 n) (fun d=>.int (ae.app ys (ae.pw xs (-k) (inD d)))) ?_ (by rw [iN];omega) ?_ ?_
 ·kspl_open bR
  rw [Vz,As];exact ⟨by omega,bR _ _ ⟨by rw [VR];exact uE _ _,Ex.refl⟩⟩
 ·intro d hd qu k7
  rw [qD] at hd;obtain ⟨x,hx,rfl⟩:=yS hd;obtain ⟨x0,x1⟩:=ae.lb.mp hx;obtain ⟨p0,p1⟩:=tx.pw x0 x1 (-k);refine cB ?_;intro gM bR
  set_option simprocs false in simp only [bJ,V0,Wm,Wi,Wj]
  refine bB (UB (k:=0-k) tx hn x0 x1) ?_;rintro d nD ⟨rfl,k8⟩;rw [show (0:Int)-k=-k by omega]
  set_option simprocs false in simp only [bJ,qE (xs:=ys) p0 (by omega)]
  exact bR _ _ ⟨rfl,k8⟩
 ·intro qu k7
  have e:(aB 0 n).map (fun d=>D.int (ae.app ys (ae.pw xs (-k) (inD d))))=(ae.shr xs ys k).map D.int:=by
   rw [qD,CQ (f:=fun x=>ae.app ys (ae.pw xs (-k) x)) fun x hx=>rfl];unfold ae.shr ae.aQ ae.ck;rw [hlx,V8,V8,V8];rfl
  rw [e]
  w_how
  exact ⟨rfl,hQ _ _ ⟨rfl,k7.app _⟩⟩
def oa(xs ys:List Int):Nat->List Int×List Int
 |0=>(xs,ys)
 |j+1=>(ae.inv (oa xs ys j).2,(oa xs ys j).1)
theorem D8{n:Nat}{xs ys:List Int}(tx:ae.Tn n xs)(ty:ae.Tn n ys):∀j,ae.Tn n (oa xs ys j).1/\ae.Tn n (oa xs ys j).2
 |0=>⟨tx,ty⟩
 |j+1=>⟨(D8 tx ty j).2.av,(D8 tx ty j).1⟩
theorem UD{st:Store}{xs ys:List Int}{n j:Nat}(tx:ae.Tn n xs)(ty:ae.Tn n ys)(hn:n<=100)(hj:j<4):Wp (wg [bY xs ys,.tup [.str "t",.int (j:Int)]] st) fun d st'=>d=bY (oa xs ys j).1 (oa xs ys j).2/\Ex [] st st':=by
 refine jv ?_;show Ws (Ag [some (bY xs ys),some (.tup [.str "t",.int (j:Int)]),none,none,none] st) _ _ _ _;unfold Ag bY;refine aX (tN ?_);kspl_open hQ;refine hQ _ _ ?_;clear hQ;kspl_open hQ;refine ⟨rfl,hQ _ _ (aX (ju ?_))⟩;clear hQ;kspl_open hQ;refine hQ _ _ ⟨fun h=>absurd h (by decide),fun _=>ko (aX (n5 (aB 0 j) (fun i δ st2=>∃v4:Option D,δ=[some (.tup [.tup (xs.map D.int),.tup (ys.map D.int)]),some (.tup [.str "t",.int (j:Int)]),some (.tup ((oa xs ys i).1.map D.int)),some (.tup ((oa xs ys i).2.map D.int)),v4]/\Ex [] st st2) ?_ (by rw [iN];omega) ?_ ?_))⟩
 ·clear hQ
  kspl_open hQ;rw [show (j:Int) % 4=(j:Int) by omega];exact ⟨by omega,by omega,hQ _ _ ⟨by rw [VR],none,rfl,Ex.refl⟩⟩
 ·rintro i d δ st2 hd ⟨v4,rfl,k2⟩
  obtain ⟨ta,tb⟩:=D8 tx ty i;show Wp _ _;have hlb:=tb.length;generalize hzs:(oa xs ys i).2=zs at tb hlb ⊢;clear hQ;kspl_open hQ;refine hQ _ _ (tN ?_);clear hQ;kspl_open hQ;refine tO (aB 0 n) (fun d=>.int (zs.idxOf (inD d):Int)) ?_ (by rw [iN];omega) ?_ ?_
  ·kspl_open bR
   rw [Vz,hlb];exact ⟨by omega,bR _ _ ⟨by rw [VR];exact uE _ _,Ex.refl⟩⟩
  ·intro d hd qu k7
   rw [qD] at hd;obtain ⟨x,hx,rfl⟩:=yS hd;obtain ⟨x0,x1⟩:=ae.lb.mp hx;refine cB ?_;intro gM bR
   set_option simprocs false in simp only [bJ,V0,Wm,Wi,Wj,LX,MZ (tb.mem x0 x1)]
   exact bR _ _ ⟨rfl,Ex.refl⟩
  ·intro qu k7
   have e:(aB 0 n).map (fun d=>D.int (zs.idxOf (inD d):Int))=(ae.inv zs).map D.int:=by
    rw [qD,CQ (f:=fun x=>(zs.idxOf x:Int)) fun x hx=>rfl];unfold ae.inv;rw [hlb]
   rw [e]
   w_how
   refine ⟨rfl,hQ _ _ ?_⟩;clear hQ;kspl_open hQ;refine ⟨rfl,hQ _ _ ⟨some d,?_,(k2.trans k7).app _⟩⟩;rw [show (oa xs ys (i+1)).1=ae.inv (oa xs ys i).2 from rfl,show (oa xs ys (i+1)).2=(oa xs ys i).1 from rfl,hzs]
 ·rintro δ st2 ⟨v4,rfl,k2⟩
  rw [iN];refine gQ ?_;clear hQ;kspl_open hQ;exact ⟨rfl,hQ _ _ ⟨rfl,k2⟩⟩
def IZ(s:g9):Prop:=s.1=false->1<=s.2/\s.2<=3
def jg(p:List Int×List Int)(s:g9):List Int×List Int:=if s.1=true then (p.1,ae.shr p.1 p.2 s.2) else oa p.1 p.2 s.2.toNat
def lX(p:List Int×List Int)(w:List g9):List Int×List Int:=w.foldl jg p
theorem UE{n:Nat}{p:List Int×List Int}(h:ae.Tn n p.1/\ae.Tn n p.2)(s:g9):ae.Tn n (jg p s).1/\ae.Tn n (jg p s).2:=by
 unfold jg;split
 ·exact ⟨h.1,h.1.shr h.2 _⟩
 ·exact D8 h.1 h.2 _
theorem M1{n:Nat}:∀{p:List Int×List Int},ae.Tn n p.1/\ae.Tn n p.2->∀w:List g9,ae.Tn n (lX p w).1/\ae.Tn n (lX p w).2
 |_,h,[]=>h
 |_,h,s :: w=>M1 (UE h s) w
theorem UG(p:List Int×List Int)(v w:List g9):lX p (v ++ w)=lX (lX p v) w:=by unfold lX;rw [Wz]
theorem UH(p:List Int×List Int)(w:List g9)(s:g9):lX p (w ++ [s])=jg (lX p w) s:=by rw [UG];rfl
def a9(p:List Int×List Int):D:=bY p.1 p.2
theorem UI{st:Store}{p:List Int×List Int}{n:Nat}{s:g9}(h:ae.Tn n p.1/\ae.Tn n p.2)(hn:n<=100)(hs:IZ s):Wp (wg [a9 p,b5 s] st) fun d st'=>d=a9 (jg p s)/\Ex [] st st':=by
 obtain ⟨b,k⟩:=s;cases b with
 |true=>exact UC (k:=k) h.1 h.2 hn
 |false =>
  obtain ⟨k1,k3⟩:=hs rfl;obtain ⟨j,rfl⟩:∃j:Nat,k=(j:Int):=⟨k.toNat,by simp only at k1;omega⟩;have:=UD (st:=st) (j:=j) h.1 h.2 hn (by simp only at k3;omega);refine bB this ?_;rintro d st1 ⟨rfl,k1⟩;refine ⟨?_,k1⟩;unfold a9 jg;rw [if_neg (show ¬(false=true) from VD),VR]
theorem UJ{st:Store}{p:List Int×List Int}{n:Nat}{s:g9}(h:ae.Tn n p.1/\ae.Tn n p.2)(hn:n<=100)(hs:IZ s):Wp (DM [a9 p,b5 s] st) fun d st'=>d=a9 (jg p s)/\Ex [] st st':=by
 obtain ⟨b,k⟩:=s;refine jv ?_;show Ws (FP [some (a9 p),some (b5 (b,k)),none,none] st) _ _ _ _;unfold FP b5;cases b with
 |true =>
  refine aX (ju ?_);kspl_open hQ;refine hQ _ _ ⟨fun _=>gQ ?_,fun z=>absurd z (by decide)⟩;clear hQ;kspl_open hQ;refine bB (Uz (k:=k) h.1 h.2 hn) ?_;rintro d st1 ⟨rfl,k1⟩;exact hQ _ _ ⟨rfl,k1⟩
 |false =>
  obtain ⟨k1,k3⟩:=hs rfl;obtain ⟨j,rfl⟩:∃j:Nat,k=(j:Int):=⟨k.toNat,by simp only at k1;omega⟩;refine aX (ju ?_);kspl_open hQ;refine hQ _ _ ⟨fun z=>absurd z (by decide),fun _=>ko (aX (b8 ?_))⟩;clear hQ;kspl_open hQ;refine hQ _ _ (aX (n5 (aB 0 j) (fun i δ st2=>∃v3:Option D,δ=[some (a9 p),some (b5 (false,(j:Int))),some (bY (oa p.1 p.2 i).1 (oa p.1 p.2 i).2),v3]/\Ex [] st st2) ?_ (by rw [iN];simp only at k3;omega) ?_ ?_))
  ·clear hQ
   kspl_open hQ;exact ⟨by simp only at k3;omega,hQ _ _ ⟨by rw [VR],none,rfl,Ex.refl⟩⟩
  ·rintro i d δ st2 hd ⟨v3,rfl,k2⟩
   obtain ⟨ta,tb⟩:=D8 h.1 h.2 i;clear hQ;kspl_open hQ;refine hQ _ _ (b8 ?_);clear hQ;kspl_open hQ;refine bB (UA ta tb hn) ?_;rintro d' st3 ⟨rfl,k3⟩;exact hQ _ _ ⟨some d,rfl,k2.trans k3⟩
  ·rintro δ st2 ⟨v3,rfl,k2⟩
   rw [iN];refine gQ ?_;clear hQ;kspl_open hQ;refine hQ _ _ ⟨?_,k2⟩;unfold a9 jg;rw [if_neg (show ¬(false=true) from VD),VR]
theorem UK{st:Store}{p:List Int×List Int}{n:Nat}{w:List g9}(h:ae.Tn n p.1/\ae.Tn n p.2)(hn:n<=100)(hw:∀s∈w,IZ s)(hl:w.length<=1000):Wp (DO [a9 p,.tup (w.map b5)] st) fun d st'=>d=a9 (lX p w)/\Ex [] st st':=by
 refine jv ?_;show Ws (FR [some (a9 p),some (.tup (w.map b5)),none,none] st) _ _ _ _;unfold FR;refine aX (b8 ?_);kspl_open hQ;refine hQ _ _ (aX (n5 (w.map b5) (fun i δ st2=>∃v2:Option D,δ=[some (a9 p),some (.tup (w.map b5)),some (a9 (lX p (w.take i))),v2]/\Ex [] st st2) ?_ (by rw [Vz];omega) ?_ ?_))
 ·clear hQ
  kspl_open hQ;exact hQ _ _ ⟨rfl,none,rfl,Ex.refl⟩
 ·rintro i d δ st2 hd ⟨v2,rfl,k2⟩
  rw [VP] at hd;obtain ⟨s,hs,rfl⟩:=V7.mp hd;obtain ⟨hil,es⟩:=VA.mp hs;clear hQ;kspl_open hQ;refine hQ _ _ (b8 ?_);clear hQ;kspl_open hQ;refine bB (UJ (M1 h _) hn (hw s (VI hs))) ?_;rintro d st3 ⟨rfl,k3⟩;refine hQ _ _ ⟨some (b5 s),?_,k2.trans k3⟩;rw [Wf hil,UH,es];rfl
 ·rintro δ st2 ⟨v2,rfl,k2⟩
  rw [Vz,WX];refine gQ ?_;clear hQ;kspl_open hQ;exact hQ _ _ ⟨rfl,k2⟩
theorem UL{st:Store}{a b:g9}:Wp (DQ [b5 a,b5 b] st) fun d st'=>d=.tup ((ae.cc a b).map b5)/\Ex [] st st':=by
 obtain ⟨ab,ak⟩:=a;obtain ⟨bb,bk⟩:=b;refine jv ?_;show Ws (FU [some (.tup [.str (if ab then "s" else "t"),.int ak]),some (.tup [.str (if bb then "s" else "t"),.int bk]),none] st) _ _ _ _;unfold FU;have hj:ae.cc (ab,ak) (bb,bk)=if ae.gD (ab,ak) (bb,bk)=0 then [] else [(ab,ae.gD (ab,ak) (bb,bk))]:=rfl
 refine aX (b8 ?_);kspl_open hQ;refine hQ _ _ ?_;clear hQ;show Ws _ _ _ _ _;refine aX (uB (N:=fun δ st1=>st1=st/\δ=[some (.tup [.str (if ab then "s" else "t"),.int ak]),some (.tup [.str (if bb then "s" else "t"),.int bk]),some (.int (ae.gD (ab,ak) (bb,bk)))]) (ju ?_) ?_)
 ·kspl_open hQ
  refine hQ _ _ ⟨fun h=>b8 ?_,fun h=>ko ⟨rfl,?_⟩⟩
  ·cases ab with
   |true=>exact absurd h (by decide)
   |false =>
    clear hQ;kspl_open hQ;exact ⟨by decide,hQ _ _ ⟨rfl,rfl⟩⟩
  ·cases ab with
   |true=>rfl
   |false=>exact absurd h (by decide)
 ·rintro δ st1 ⟨rfl,rfl⟩
  refine aX (ju ?_);kspl_open hQ;refine hQ _ _ ⟨fun h=>gQ ?_,fun h=>ko (gQ ?_)⟩
  ·have h:=of_decide_eq_true h
   clear hQ;kspl_open hQ;refine ⟨rfl,hQ _ _ ⟨?_,Ex.refl⟩⟩;rw [hj,if_pos h];rfl
  ·have h:=of_decide_eq_false h
   clear hQ;kspl_open hQ;refine ⟨rfl,rfl,hQ _ _ ⟨?_,Ex.refl⟩⟩;rw [hj,if_neg h];rfl
theorem Ja{xs:List D}{x:D}:eo (xs ++ [x]) (-1)=some x:=by
 unfold eo kZ;rw [VE,if_neg (by decide),if_pos (by simp;omega)];simp only [Wv];have e:((-1:Int)+((xs.length+[x].length:Nat):Int)).toNat=xs.length:=by simp only [WO];omega
 rw [e];simp
theorem UM{xs:List D}{x:D}:cutD (xs ++ [x]) none (some (-1))=xs:=by
 have e1:HT.cx (xs ++ [x]).length 0 none=0:=rfl;have e2:HT.cx (xs ++ [x]).length (xs ++ [x]).length (some (-1))=xs.length:=by
  unfold HT.cx;simp only;rw [if_pos (by decide),VE,WO];omega
 unfold cutD;rw [e1,e2,List.drop_zero,Nat.sub_zero];simp
theorem UN(a b:Bool):(((if a=true then ("s" : Str) else "t")=(if b=true then ("s" : Str) else "t")))↔a=b:=by
 cases a<;>cases b<;>decide
theorem UO{st:Store}{w:List g9}(hl:w.length<=1000):Wp (DS [.tup (w.map b5)] st) fun d st'=>d=.tup ((ae.jr w).reverse.map b5)/\Ex [] st st':=by
 refine jv ?_;show Ws (FV [some (.tup (w.map b5)),none,none] st) _ _ _ _;unfold FV;refine aX (b8 ?_);kspl_open hQ;refine ⟨rfl,hQ _ _ ?_⟩;clear hQ;show Ws _ _ _ _ _;refine aX (n5 (w.map b5) (fun i δ st2=>∃v:Option D,δ=[some (.tup (w.map b5)),some (.tup ((ae.jr (w.take i)).reverse.map b5)),v]/\Ex [] st st2) ?_ (by rw [Vz];omega) ?_ ?_)
 ·kspl_open hQ
  exact hQ _ _ ⟨rfl,none,rfl,Ex.refl⟩
 ·rintro i d δ st2 hd ⟨v2,rfl,k2⟩
  rw [VP] at hd;obtain ⟨s,hs,rfl⟩:=V7.mp hd;obtain ⟨hil,es⟩:=VA.mp hs;have ep:ae.jr (w.take (i+1))=ae.bK (ae.jr (w.take i)) s:=by rw [Wf hil,ae.HG,es];rfl
  have hpl:(ae.jr (w.take i)).length<=1000:=by have:=ae.HI (w.take i);rw [WD] at this;omega
  rw [ep];clear ep;generalize ae.jr (w.take i)=l at hpl ⊢;kspl_open hQ;refine hQ _ _ (ju ?_);clear hQ;kspl_open hQ;cases l with
  |nil =>
   refine hQ _ _ ⟨fun h=>absurd h (by decide),fun _=>b8 ?_⟩;clear hQ;kspl_open hQ;exact ⟨rfl,rfl,hQ _ _ ⟨some (b5 s),rfl,k2⟩⟩
  |cons t r =>
   have eg:(t :: r).reverse.map b5=r.reverse.map b5 ++ [b5 t]:=by simp
   rw [eg];have el:decide ((0:Int)<((r.reverse.map b5 ++ [b5 t]).length:Nat))=true:=decide_eq_true (by simp);have es1:b5 t=.tup [.str (if t.1 then "s" else "t"),.int t.2]:=rfl;have Ge:b5 s=.tup [.str (if s.1 then "s" else "t"),.int s.2]:=rfl;have elt:(if t.1=true then ("s" : Str) else "t")=(if s.1=true then ("s" : Str) else "t")↔t.1=s.1:=UN _ _
   set_option simprocs false in simp only [bJ,Ja,es1,Ge]
   rw [if_pos (by simp)];refine hQ _ _ ⟨fun h=>b8 ?_,fun h=>b8 ?_⟩
   ·have h:=elt.mp (of_decide_eq_true h)
    clear hQ;kspl_open hQ;rw [eg,UM]
    set_option simprocs false in simp only [bJ,Ja]
    refine bB UL ?_;rintro d st3 ⟨rfl,k3⟩
    w_how
    refine ⟨jO ?_,hQ _ _ ⟨some (b5 s),?_,k2.trans k3⟩⟩
    ·have:(ae.cc t s).length<=1:=by unfold ae.cc;split<;>simp
     simp only [Vz,List.length_reverse];simp only [V6] at hpl;omega
    ·have ej:(ae.cc t s).reverse=ae.cc t s:=by unfold ae.cc;split<;>rfl
     rw [ae.tH,if_pos h,List.reverse_append,VW,ej];rfl
   ·have h:=fun e=>of_decide_eq_false h (elt.mpr e)
    clear hQ;kspl_open hQ;refine ⟨rfl,jO ?_,hQ _ _ ⟨some (b5 s),?_,k2⟩⟩
    ·simp only [Vz,List.length_reverse,WO]
     omega
    ·have e2:(s :: t :: r).reverse.map b5=(t :: r).reverse.map b5 ++ [b5 s]:=by simp
     rw [ae.tH,if_neg h,e2];rfl
 ·rintro δ st2 ⟨v2,rfl,k2⟩
  rw [Vz,WX];refine gQ ?_;kspl_open hQ;exact hQ _ _ ⟨rfl,k2⟩
theorem UP{st:Store}{v w:List g9}(hl:v.length+w.length<=1000):Wp (DW [.tup (v.map b5),.tup (w.map b5)] st) fun d st'=>d=.tup ((ae.jr (v ++ w)).reverse.map b5)/\Ex [] st st':=by
 refine jv ?_;show Ws (FW [some (.tup (v.map b5)),some (.tup (w.map b5))] st) _ _ _ _;unfold FW;refine gQ ?_;kspl_open hQ;refine ⟨jO (by simp only [Vz];omega),?_⟩;rw [<- VW];refine bB (UO (by rw [VE];exact hl)) ?_;rintro d st3 ⟨rfl,k3⟩;exact hQ _ _ ⟨rfl,k3⟩
theorem UQ{st:Store}{xs ys:List Int}{n:Nat}{s:Int}(fl:mw n xs ys)(hn:n<=100)(s0:0<=s)(s1:s<(n:Int)):Wp (Dw [bY xs ys,.int s] st) fun d st'=>d=.tup ((ae.inv (ae.bf xs ys s n)).map D.int)/\Ex [] st st':=by
 obtain ⟨tx,ty,all⟩:=fl;refine jv ?_;show Ws (FF [some (bY xs ys),some (.int s)] st) _ _ _ _;unfold FF;refine gQ ?_;kspl_open hQ;refine bB (Uq tx ty hn s0 s1) ?_;rintro d st1 ⟨rfl,k1⟩;refine bB (IP (ae.EM tx ty s0 s1 all) hn) ?_;rintro d st2 ⟨rfl,k2⟩;exact hQ _ _ ⟨rfl,k1.trans k2⟩
def zt(xs ys:List Int)(s:Int)(n:Nat):D:=bY (ae.num xs (ae.bf xs ys s n)) (ae.num ys (ae.bf xs ys s n))
theorem UR{st:Store}{xs ys:List Int}{n:Nat}{s:Int}(fl:mw n xs ys)(hn:n<=100)(s0:0<=s)(s1:s<(n:Int)):Wp (Dy [bY xs ys,.int s] st) fun d st'=>d=zt xs ys s n/\Ex [] st st':=by
 have US:=fl;obtain ⟨tx,ty,all⟩:=fl;have tb:=ae.EM tx ty s0 s1 all;refine jv ?_;show Ws (FG [some (bY xs ys),some (.int s)] st) _ _ _ _;unfold FG;refine gQ ?_;kspl_open hQ;refine bB (UQ US hn s0 s1) ?_;rintro d st1 ⟨rfl,k1⟩;refine bB (Up tx ty tb.av hn) ?_;rintro d st2 ⟨rfl,k2⟩;rw [ae.EN tx tb,ae.EN ty tb];exact hQ _ _ ⟨rfl,k1.trans k2⟩
theorem UT{st:Store}{xs ys:List Int}{n:Nat}{s:Int}(fl:mw n xs ys)(hn:n<=100)(s0:0<=s)(s1:s<(n:Int)):Wp (Df [bY xs ys,.int s] st) fun d st'=>d=zt xs ys s n/\Ex [] st st':=by
 obtain ⟨tx,ty,all⟩:=fl;have hlx:=tx.length;have As:=ty.length;refine jv ?_;show Ws (Fp [some (bY xs ys),some (.int s),none,none,none] st) _ _ _ _;unfold Fp;refine aX (b8 ?_);kspl_open hQ;refine ⟨rfl,hQ _ _ (aX (E9 ((ae.upto n).map D.int) (st.length+2) (fun k δ st2=>∃(v3 v4:Option D),δ=[some (bY xs ys),some (.int s),some (.ref st.length),v3,v4]/\st2[st.length]?=some (.lst ((ae.bf xs ys s k).map D.int))/\st2[st.length+2]?=some (.lst ((ae.upto n).map D.int))/\Ex [] st st2) ?_ ?_ ?_ ?_ ?_))⟩
 ·clear hQ
  unfold bY;kspl_open hQ;rw [Vz,hlx,show ((n:Int)-0).toNat=n by omega,qD];have e:(st ++ [O.lst [D.int s]] ++ [O.gR 0 (n:Int)]).length=st.length+2:=by simp
  rw [e];exact ⟨uD (by omega),hQ _ _ ⟨rfl,none,none,rfl,jF (jF g8),by rw [<- e];exact g8,((Ex.cV _).app _).app _⟩⟩
 ·rw [Vz,ae.ow];omega
 ·rintro k δ st2 ⟨_,_,_,_,h,_⟩
  exact bC h
 ·rintro k d δ st2 hd ⟨v3,v4,rfl,hl,hr,k2⟩
  obtain ⟨x',hx',rfl⟩:=CP hd;have hkn:=eB hx';rw [ae.ow] at hkn;rw [ae.BL hkn] at hx';cases hx';have uO:=ae.BO tx ty s0 s1 k;have hb1:=ae.BO tx ty s0 s1 (k+1);clear hQ;kspl_open hQ;refine hQ _ _ ?_;clear hQ
  by_cases nh:k<(ae.bf xs ys s k).length
  ·obtain ⟨x,hx⟩:∃x,(ae.bf xs ys s k)[k]?=some x:=⟨_,VB nh⟩
   obtain ⟨x0,x1⟩:=ae.qz tx ty s0 s1 k x (VI hx);have e1:ae.bf xs ys s (k+1)=ae.visit xs ys (ae.bf xs ys s k) x:=by
    show (match (ae.bf xs ys s k)[k]? with|some x=>ae.visit xs ys (ae.bf xs ys s k) x|none=>ae.bf xs ys s k)=_;rw [hx]
   rw [e1] at hb1 ⊢;have hp1:=(ae.vD (ae.cz (ae.bf xs ys s k) (ae.app xs x)) (ae.app ys x)).length_le;have hp0:=(ae.vD (ae.bf xs ys s k) (ae.app xs x)).length_le;change _<=(ae.visit xs ys (ae.bf xs ys s k) x).length at hp1;refine n5 [.tup (xs.map D.int),.tup (ys.map D.int)] (fun m δ st3=>∃(v4:Option D) (G:List Int),δ=[some (bY xs ys),some (.int s),some (.ref st.length),some (.int (k:Int)),v4]/\st3[st.length]?=some (.lst (G.map D.int))/\st3[st.length+2]?=some (.lst ((ae.upto n).map D.int))/\(m=0->G=ae.bf xs ys s k)/\(m=1->G=ae.cz (ae.bf xs ys s k) (ae.app xs x))/\(m=2->G=ae.visit xs ys (ae.bf xs ys s k) x)/\Ex [] st st3) ?_ (by simp) ?_ ?_
   ·unfold bY
    kspl_open hQ;exact hQ _ _ ⟨rfl,v4,_,rfl,hl,hr,fun _=>rfl,fun z=>by omega,fun z=>by omega,k2⟩
   ·rintro m z δ st3 hm ⟨v4,G,rfl,hl3,oO,g0,g1,_,k3⟩
    have hm2:m<2:=eB hm;obtain ⟨zs,rfl,tz,em⟩:∃(zs:List Int),z=.tup (zs.map D.int)/\ae.Tn n zs/\((m=0/\zs=xs)\/(m=1/\zs=ys)):=by
     rcases (show m=0\/m=1 by omega) with rfl|rfl
     ·exact ⟨xs,by simpa using hm.symm,tx,.inl ⟨rfl,rfl⟩⟩
     ·exact ⟨ys,by simpa using hm.symm,ty,.inr ⟨rfl,rfl⟩⟩
    have hG:G.length<=100/\G[k]?=some x/\k<G.length:=by
     rcases em with ⟨rfl,_⟩|⟨rfl,_⟩
     ·rw [g0 rfl];exact ⟨by omega,hx,nh⟩
     ·rw [g1 rfl]
      refine ⟨by omega,?_,by omega⟩;obtain ⟨t,e⟩:=ae.vD (ae.bf xs ys s k) (ae.app xs x);rw [<- e,VM nh];exact hx
    have D6:∀G',G'=ae.cz G (ae.app zs x)->(m+1=0->G'=ae.bf xs ys s k)/\(m+1=1->G'=ae.cz (ae.bf xs ys s k) (ae.app xs x))/\(m+1=2->G'=ae.visit xs ys (ae.bf xs ys s k) x):=fun G' e=>by
     rcases em with ⟨rfl,rfl⟩|⟨rfl,rfl⟩
     ·exact ⟨fun z=>by omega,fun _=>by rw [e,g0 rfl],fun z=>by omega⟩
     ·exact ⟨fun z=>by omega,fun z=>by omega,fun _=>by rw [e,g1 rfl];rfl⟩
    have hat:eo (G.map D.int) (k:Int)=some (.int x):=zH (by rw [VP,hG.2.1];rfl);have hdt:decide ((k:Int)<((G.map D.int).length:Int))=true:=decide_eq_true (by rw [Vz];omega);kspl_open hQ;refine hQ _ _ (ju ?_);clear hQ;refine cB ?_;intro gf hQ
    set_option simprocs false in simp only [bJ,bC hl3,hdt,hat,qE (xs:=zs) x0 (by rw [tz.length];exact x1),Fb (st:=st3) (c:=.ref st.length) (ns:=G) (bC hl3)]
    refine hQ _ _ ⟨fun hc=>pE ?_,fun hc=>ko ?_⟩
    ·obtain ⟨n0,n1,n2⟩:=D6 (G ++ [ae.app zs x]) (MT hc).symm
     refine cB ?_;intro gM bR
     set_option simprocs false in simp only [bJ,bC hl3,hat,qE (xs:=zs) x0 (by rw [tz.length];exact x1),kq hl3]
     refine ⟨mS (by rw [bC hl3];rfl),jO (by rw [Vz];omega),bR _ _ ⟨_,G ++ [ae.app zs x],rfl,?_,?_,n0,n1,n2,k3.loc (VC _)⟩⟩
     ·rw [VG (eB hl3),VW];rfl
     ·rw [VF (by omega)];exact oO
    ·obtain ⟨n0,n1,n2⟩:=D6 G (MU hc).symm
     exact ⟨_,G,rfl,hl3,oO,n0,n1,n2,k3⟩
   ·rintro δ st3 ⟨v4,G,rfl,hl3,oO,_,_,g2,k3⟩
    have g2:=g2 rfl;subst g2;exact ⟨_,_,rfl,hl3,oO,k3⟩
  ·have e1:ae.bf xs ys s (k+1)=ae.bf xs ys s k:=ae.EL (k:=k) (by omega) 1
   rw [e1];have hdf:decide ((k:Int)<(((ae.bf xs ys s k).map D.int).length:Int))=false:=decide_eq_false (by rw [Vz];omega);refine n5 [.tup (xs.map D.int),.tup (ys.map D.int)] (fun m δ st3=>∃(v4:Option D),δ=[some (bY xs ys),some (.int s),some (.ref st.length),some (.int (k:Int)),v4]/\st3=st2) ?_ (by simp) ?_ ?_
   ·unfold bY
    kspl_open hQ;exact hQ _ _ ⟨rfl,v4,rfl,rfl⟩
   ·rintro m z δ st3 hm ⟨v4,rfl,rfl⟩
    kspl_open hQ;refine hQ _ _ (ju ?_);clear hQ;refine cB ?_;intro gf hQ
    set_option simprocs false in simp only [bJ,bC hl,hdf]
    exact hQ _ _ ⟨fun h=>absurd h (by decide),fun _=>ko ⟨_,rfl,rfl⟩⟩
   ·rintro δ st3 ⟨v4,rfl,rfl⟩
    exact ⟨_,_,rfl,hl,hr,k2⟩
 ·rintro δ st2 ⟨v3,v4,rfl,hl,hr,k2⟩
  rw [Vz,ae.ow] at hl;have tb:=ae.EM tx ty s0 s1 all;have hlb:=tb.length;generalize D9:ae.bf xs ys s n=sq at hl tb hlb ⊢;clear hQ;unfold bY;refine gQ ?_;kspl_open hQ;refine tO [.tup (xs.map D.int),.tup (ys.map D.int)] (fun d=>match d with|.tup ds=>.tup ((ae.num (ds.map inD) sq).map D.int)|_=>.non) ?_ (by simp) ?_ ?_
  ·kspl_open bR
   exact bR _ _ ⟨uE _ _,Ex.refl⟩
  ·intro d hd st3 k3
   obtain ⟨zs,rfl,tz⟩:∃zs:List Int,d=.tup (zs.map D.int)/\ae.Tn n zs:=by
    rcases VZ.mp hd with rfl|hd
    ·exact ⟨xs,rfl,tx⟩
    ·exact ⟨ys,VY.mp hd,ty⟩
   have hl3:=k3.keep _ _ hl (by simp);refine cB ?_;intro gM bR
   set_option simprocs false in simp only [bJ,V0,Wm,Wi,Wj]
   refine tO (sq.map D.int) (fun d=>.int (sq.idxOf (ae.app zs (inD d)):Int)) ?_ (by rw [Vz];omega) ?_ ?_
   ·kspl_open sO
    exact ⟨_,bC hl3,sO _ _ ⟨Sq (bC hl3),Ex.refl⟩⟩
   ·intro d hd nP k4
    obtain ⟨x,hx,rfl⟩:=yS hd;obtain ⟨x0,x1⟩:=tb.bound hx;obtain ⟨a0,a1⟩:=tz.app x0 x1;have Av:=k4.keep _ _ hl3 (by simp);refine cB ?_;intro D3 sO
    set_option simprocs false in simp only [bJ,V0,Wm,Wi,Wj,qE (xs:=zs) x0 (by rw [tz.length];exact x1),RV (bC Av) (tb.mem a0 a1) (by omega) (fun i hi=>by have:=tb.bound hi;omega)]
    exact ⟨mS (by rw [bC Av];rfl),sO _ _ ⟨rfl,Ex.refl⟩⟩
   ·intro nP k4
    rw [CQ (f:=fun x=>(sq.idxOf (ae.app zs x):Int)) fun x hx=>rfl]
    w_how
    refine bR _ _ ⟨?_,k4.app _⟩;show D.tup _=D.tup ((ae.num ((zs.map D.int).map inD) sq).map D.int);rw [Mb];rfl
  ·intro st3 k3
   w_how
   refine hQ _ _ ⟨?_,(k2.trans k3).app _⟩;simp only [V0,Wm,Mb];unfold zt;rw [D9];rfl
theorem UU{n:Nat}{xs ys:List Int}(fl:mw n xs ys):ae.Wh n (xs,ys):=⟨⟨fl.1,fl.2.1⟩,fl.2.2⟩
theorem Gf{n:Nat}{p:ae.aV}(w:ae.Wh n p):mw n p.1 p.2:=⟨w.v.1,w.v.2,w.all⟩
theorem M3(p:ae.aV)(n:Nat):(aB 0 n).map (fun d=>bY (ae.qO p n (inD d)).1 (ae.qO p n (inD d)).2)=((ae.upto n).map (ae.qO p n)).map fun q=>bY q.1 q.2:=by
 rw [qD,V8,V8];rfl
theorem M4{st:Store}{xs ys:List Int}{n:Nat}(fl:mw n xs ys)(n0:0<n)(hn:n<=20):Wp (wj [bY xs ys] st) fun d st'=>d=bY (ae.cT n (xs,ys)).1 (ae.cT n (xs,ys)).2/\Ex [] st st':=by
 have hlx:=fl.1.length;refine jv ?_;show Ws (FH [some (bY xs ys)] st) _ _ _ _;unfold FH;refine gQ ?_;kspl_open hQ;refine tO (aB 0 n) (fun d=>bY (ae.qO (xs,ys) n (inD d)).1 (ae.qO (xs,ys) n (inD d)).2) ?_ (by rw [iN];omega) ?_ ?_
 ·unfold bY
  kspl_open bR;rw [Vz,hlx];exact ⟨by omega,bR _ _ ⟨by rw [VR];exact uE _ _,Ex.refl⟩⟩
 ·intro d hd st2 k2
  rw [qD] at hd;obtain ⟨x,hx,rfl⟩:=yS hd;obtain ⟨x0,x1⟩:=ae.lb.mp hx;refine cB ?_;intro gM bR
  set_option simprocs false in simp only [bJ,V0,Wm,Wi,Wj]
  refine bB (UR fl (by omega) x0 x1) ?_;rintro d st3 ⟨rfl,k3⟩;exact bR _ _ ⟨rfl,k3⟩
 ·intro st' k'
  rw [M3,Mr (kq g8) (by rw [Vz,ae.ow];exact n0)];exact hQ _ _ ⟨rfl,k'.app _⟩
theorem M5{st:Store}{xs ys:List Int}{n:Nat}(fl:mw n xs ys)(n0:0<n)(hn:n<=20):Wp (wc [bY xs ys] st) fun d st'=>d=bY (ae.cT n (xs,ys)).1 (ae.cT n (xs,ys)).2/\Ex [] st st':=by
 have hlx:=fl.1.length;refine jv ?_;show Ws (Fs [some (bY xs ys)] st) _ _ _ _;unfold Fs;refine gQ ?_;kspl_open hQ;refine tO (aB 0 n) (fun d=>bY (ae.qO (xs,ys) n (inD d)).1 (ae.qO (xs,ys) n (inD d)).2) ?_ (by rw [iN];omega) ?_ ?_
 ·unfold bY
  kspl_open bR;rw [Vz,hlx];exact ⟨by omega,bR _ _ ⟨by rw [VR];exact uE _ _,Ex.refl⟩⟩
 ·intro d hd st2 k2
  rw [qD] at hd;obtain ⟨x,hx,rfl⟩:=yS hd;obtain ⟨x0,x1⟩:=ae.lb.mp hx;refine cB ?_;intro gM bR
  set_option simprocs false in simp only [bJ,V0,Wm,Wi,Wj]
  refine bB (UT fl (by omega) x0 x1) ?_;rintro d st3 ⟨rfl,k3⟩;exact bR _ _ ⟨rfl,k3⟩
 ·intro st' k'
  rw [M3,Mr (kq g8) (by rw [Vz,ae.ow];exact n0)];exact hQ _ _ ⟨rfl,k'.app _⟩
theorem BK{n:Nat}{f:Int->Int}{x:Int}(x0:0<=x)(x1:x<(n:Int)):ae.app ((ae.upto n).map f) x=f x:=by
 unfold ae.app;rw [VU,VP,ae.BL (by omega)];show f ((x.toNat:Nat):Int)=f x;rw [V2 x0]
open Classical in
theorem UW{st:Store}{Q:D->Store->Prop}{neg:Bool}{n a b:Nat}{ds es:List D}(ha:items st a=some ds)(hb:items st b=some es)(h1:∀d∈ds,pU n d)(h2:∀d∈es,pU n d)(hn:n<=14):Wp (kW neg (.ref a) (.ref b) st) Q↔Q (.bl (if neg then !decide (ds=es) else decide (ds=es))) st:=by
 have p1:∀(i:Nat) (l:List D),items st i=some l->(∀d∈l,pU n d)->fH st 20 (.ref i)=some (.list (l.map (cu n))):=fun i l h hl=>by
  simp only [fH,h];rw [CT (g:=cu n) fun x hx=>sG n x (hl x hx) 19 (by omega) st];rfl
 have e:PyData.eqv (.list (ds.map (cu n))) (.list (es.map (cu n)))=decide (ds=es):=by
  rw [Iv];have:=IA (Ad n) ds es h1 h2;cases h:PyData.eqvAll (ds.map (cu n)) (es.map (cu n)) with
  |true=>exact (decide_eq_true (this.mp h)).symm
  |false=>exact (decide_eq_false fun z=>by rw [this.mpr z] at h;cases h).symm
 have ly:∀l:List D,(∀d∈l,pU n d)->PyData.canLay0 (.list (l.map (cu n)))=true/\PyData.depth (.list (l.map (cu n)))<=n+1:=fun l hl=>by
  refine ⟨?_,?_⟩
  ·show PyData.canLayAll0 (l.map (cu n))=true
   exact Iy fun x hx=>by
    obtain ⟨d,hd,rfl⟩:=VO.mp hx;exact (qU n d (hl d hd)).1
  ·show PyData.depthAll (l.map (cu n))+1<=n+1
   have:=Iz (n:=n) (l:=l.map (cu n)) fun x hx=>by
    obtain ⟨d,hd,rfl⟩:=VO.mp hx;exact (qU n d (hl d hd)).2
   omega
 rw [Ip];constructor
 ·rintro ⟨p,q,e1,e2,_,h⟩
  rw [p1 a ds ha h1] at e1;rw [p1 b es hb h2] at e2;cases e1;cases e2;rw [e] at h;exact h
 ·intro h
  refine ⟨_,_,p1 a ds ha h1,p1 b es hb h2,⟨(ly ds h1).1,(ly es h2).1,?_⟩,?_⟩
  ·have:=(ly ds h1).2
   omega
  ·rw [e];exact h
theorem M6{R:List g9}{b:Bool}{k:Int}(pa:ae.iQ (b,k))(h:∀(t:g9) (r:List g9),R=t :: r->t.1≠b):ae.bK R (b,k)=(if (if b=true then k else k % 4)=0 then R else (b,if b=true then k else k % 4) :: R):=by
 have e:(if b=true then k else k % 4)=k:=by
  cases b with
  |true=>rfl
  |false =>
   have:=pa.1 rfl;simp only at this;rw [if_neg VD];omega
 rw [e,if_neg pa.2];exact ae.HF fun t ht=>by
  cases R with
  |nil=>cases ht
  |cons x r=>cases ht;exact fun z=>h _ _ rfl z.symm
theorem Jb{st s2:Store}{w0:D}{b:Bool}{k':Int}{R' X:List g9}{N B C:ai->Store->Prop}{R:D->Store->Prop}(h2:s2[st.length]?=some (.lst (R'.reverse.map b5)))(k2:Ex [] st s2)(hl:R'.length<=1000)(ep:X=(if (if b=true then k' else k' % 4)=0 then R' else (b,if b=true then k' else k' % 4) :: R'))
  (hN:∀(v3:Option D) (s:Store),s[st.length]?=some (.lst (X.reverse.map b5))->Ex [] st s->N [some w0,some (.ref st.length),some (.str (if b then "s" else "t")),v3] s) :
  Ws (ay (fK (aC (aD (kU false) (ag 2) (fC (.str "t")))) (aG (aD iY (ag 3) (fC (.int 4))) (hName 3)) aW) (fK (aC (aD (kU true) (ag 3) (fC (.int 0)))) (cw (jE "list" aR (ag 1) (af (bS (af (ag 2) (af (ag 3) ah))) ah))) aW) [some w0,some (.ref st.length),some (.str (if b then "s" else "t")),some (.int k')] s2) N B C R:=by
 have fin:∀kk:Int,kk=(if b=true then k' else k' % 4)->Ws (fK (aC (aD (kU true) (ag 3) (fC (.int 0)))) (cw (jE "list" aR (ag 1) (af (bS (af (ag 2) (af (ag 3) ah))) ah))) aW [some w0,some (.ref st.length),some (.str (if b then "s" else "t")),some (.int kk)] s2) N B C R:=fun kk hk=>by
  rw [<- hk] at ep;refine ju ?_;kspl_open hQ
  by_cases z:kk=0
  ·refine hQ _ _ ⟨fun y=>absurd z (by simpa using y),fun _=>ko (hN _ _ ?_ k2)⟩
   rw [ep,if_pos z];exact h2
  ·refine hQ _ _ ⟨fun _=>pE ?_,fun y=>absurd y (by simp [z])⟩
   clear hQ;refine cB ?_;intro gf hQ
   set_option simprocs false in simp only [bJ,kq h2]
   refine ⟨mS (by rw [bC h2];rfl),rfl,jO (by rw [Vz,List.length_reverse];omega),hQ _ _ (hN _ _ ?_ (k2.loc (VC _)))⟩;rw [VG (eB h2),ep,if_neg z,W4,VW];rfl
 refine aX (ju ?_);cases b with
 |true =>
  kspl_open hQ;exact hQ _ _ ⟨fun z=>absurd z (by decide),fun _=>ko (fin k' rfl)⟩
 |false =>
  kspl_open hQ;refine hQ _ _ ⟨fun _=>b8 ?_,fun z=>absurd z (by decide)⟩;clear hQ;kspl_open hQ;exact ⟨by decide,hQ _ _ (fin (k' % 4) rfl)⟩
theorem UX{st:Store}{w:List g9}(hw:∀s∈w,ae.iQ s)(hl:w.length<=1000):Wp (Ai [.tup (w.map b5)] st) fun d st'=>d=.tup ((ae.jr w).reverse.map b5)/\Ex [] st st':=by
 refine jv ?_;show Ws (Fv [some (.tup (w.map b5)),none,none,none] st) _ _ _ _;unfold Fv;refine aX (b8 ?_);kspl_open hQ;refine ⟨rfl,hQ _ _ ?_⟩;clear hQ;show Ws _ _ _ _ _;refine aX (n5 (w.map b5) (fun i δ s=>∃v2 v3:Option D,δ=[some (.tup (w.map b5)),some (.ref st.length),v2,v3]/\s[st.length]?=some (.lst ((ae.jr (w.take i)).reverse.map b5))/\Ex [] st s) ?_ (by rw [Vz];omega) ?_ ?_)
 ·kspl_open hQ
  exact hQ _ _ ⟨rfl,none,none,rfl,g8,Ex.cV _⟩
 ·rintro i d δ s hd ⟨v2,v3,rfl,hs,kx⟩
  rw [VP] at hd;obtain ⟨a,ha,rfl⟩:=V7.mp hd;obtain ⟨hi,ea⟩:=VA.mp ha;have pa:=hw a (VI ha);have et:ae.jr (w.take (i+1))=ae.bK (ae.jr (w.take i)) a:=by
   rw [Wf hi,ae.HG,ea];rfl
  have hlen:=ae.HI (w.take i);rw [WD] at hlen;have pl:ae.Pl (ae.jr (w.take i)):=ae.xF fun s hs=>hw s (List.mem_of_mem_take hs);rw [et];generalize ae.jr (w.take i)=R at hs hlen pl ⊢;obtain ⟨b,k⟩:=a;have es1:b5 (b,k)=.tup [.str (if b then "s" else "t"),.int k]:=rfl;rw [es1];kspl_open hQ;refine ⟨rfl,hQ _ _ (aX (ju ?_))⟩;clear hQ;refine cB ?_;intro gf hQ
  set_option simprocs false in simp only [bJ,bC hs]
  refine ⟨rfl,?_⟩;have UY:∀d∈R.reverse.map b5,pU 1 d:=fun d hd=>by
   obtain ⟨x,_,rfl⟩:=VO.mp hd;exact CU 0 x
  rw [UW (n:=1) (ds:=R.reverse.map b5) (es:=[]) (bC (jF hs)) vY UY (fun d hd=>nomatch hd) (by decide)];have hs1:=jF (m:=[O.lst []]) hs;have Gg:Ex [] st (s ++ [O.lst []]):=kx.app _;generalize s ++ [O.lst []]=s1 at hs1 Gg ⊢;have Ea:∀(t:g9) (r:List g9),R=t :: r->R.reverse.map b5=r.reverse.map b5 ++ [b5 t]:=fun t r e=>by rw [e,W4,VW];rfl
  cases R with
  |nil =>
   refine ⟨false,by simp,?_⟩;rw [if_neg (by decide)];refine hQ _ _ ⟨fun z=>absurd z (by decide),fun _=>ko ?_⟩;refine Jb (X:=ae.bK [] (b,k)) hs1 Gg (by simp) ?_ fun v3 s h1 h2=>⟨_,_,rfl,h1,h2⟩;exact M6 (R:=[]) pa (by simp)
  |cons t r =>
   have e1:=Ea t r rfl;refine ⟨true,by simp,?_⟩;rw [if_pos rfl,bC hs1,e1];refine ⟨_,rfl,b5 t,Ja,?_⟩;obtain ⟨bt,kt⟩:=t;have Ge:b5 (bt,kt)=.tup [.str (if bt then "s" else "t"),.int kt]:=rfl;rw [Ge]
   w_how
   have eD:decide ((if bt=true then ("s" : Str) else "t")=if b=true then ("s" : Str) else "t")=decide (bt=b):=by cases bt<;>cases b<;>decide
   rw [eD]
   by_cases hb:bt=b
   ·subst hb
    refine hQ _ _ ⟨fun _=>b8 ?_,fun z=>absurd z (by simp)⟩;clear hQ;rw [e1] at hs1;refine cB ?_;intro gf hQ
    set_option simprocs false in simp only [bJ,yW]
    refine ⟨mS (by rw [bC hs1];rfl),?_⟩;rw [zb (kq hs1),Ge]
    w_how
    refine hQ _ _ ?_;have hs2:(s1.set st.length (.lst (r.reverse.map b5)))[st.length]?=some (.lst (r.reverse.map b5)):=VG (eB hs1);refine Jb (X:=ae.bK ((bt,kt) :: r) (bt,k)) hs2 (Gg.loc (VC _)) (by rw [V6] at hlen;omega) ?_ fun v3 s h1 h2=>⟨_,_,rfl,h1,h2⟩;rw [ae.tH,if_pos rfl];unfold ae.cc ae.gD;cases bt<;>simp<;>split<;>rfl
   ·refine hQ _ _ ⟨fun z=>absurd (of_decide_eq_true z) hb,fun _=>ko ?_⟩
    refine Jb (X:=ae.bK ((bt,kt) :: r) (b,k)) hs1 Gg (by omega) ?_ fun v3 s h1 h2=>⟨_,_,rfl,h1,h2⟩;exact M6 (R:=(bt,kt) :: r) pa (fun t r e=>by cases e;exact hb)
 ·rintro δ s ⟨v2,v3,rfl,hs,kx⟩
  rw [Vz,WX] at hs;refine gQ ?_;refine cB ?_;intro gf hQ
  set_option simprocs false in simp only [bJ,bC hs]
  exact hQ _ _ ⟨rfl,kx⟩
theorem M7(p:List Int×List Int)(s:g9):jg p s=ae.stM p s:=by
 have hq:∀j,oa p.1 p.2 j=ae.nZ j p:=fun j=>by
  induction j with
  |zero=>rfl
  |succ j ih=>show _=_;unfold oa ae.nZ;rw [ih];rfl
 unfold jg ae.stM;split
 ·rfl
 ·exact hq _
theorem Jc{p q:ae.aV}(h:a9 p=a9 q):p=q:=by
 have h:D.tup [.tup (p.1.map D.int),.tup (p.2.map D.int)]=D.tup [.tup (q.1.map D.int),.tup (q.2.map D.int)]:=h;injection h with h;injection h with h1 h2;injection h2 with h2 _;have inj:∀{x y:List Int},D.tup (x.map D.int)=D.tup (y.map D.int)->x=y:=fun {x y} e=>by
  injection e with e;have:=congrArg (List.map inD) e;rw [V8,V8] at this;exact (Xe x).symm.trans (this.trans (Xe y))
 exact Prod.ext (inj h1) (inj h2)
theorem qY{α:Type}{fs:List α}{g:α->D}{k:Nat}{p:α}(h:fs[k]?=some p):eo (fs.map g) (k:Int)=some (g p):=by
 have hk:k<fs.length:=(VA.mp h).1;unfold eo;rw [zM (by rw [Vz];exact hk)];show (fs.map g)[k]?=_;rw [VP,h];rfl
theorem M8{fs:List ae.aV}{F:ae.aV}{j:Nat}(nd:fs.Nodup)(hj:fs[j]?=some F):∀i e,i<j->(fs.map a9)[i]?=some e->e≠a9 F:=fun i e hij he z=>by
 rw [VP] at he;obtain ⟨q,hq,rfl⟩:=V7.mp he;have:=Jc z;subst this;obtain ⟨g1,g2⟩:=VA.mp hq;obtain ⟨g3,g4⟩:=VA.mp hj;exact WS.mp nd i j g1 g3 hij (by rw [g2,g4])
theorem dh{α:Type}{l:List α}{k:Nat}{d:α}(h:k<l.length):l[k]?=some (l.getD k d):=by rw [VU,VB h];rfl
def wD(w:List g9):D:=.tup (w.map b5)
theorem M9{s:Store}{a b c r n k:Nat}{p:ae.aV}{fs:List ae.aV}{ws:List (List g9)}{rs:List Nat}{L:List Int}{s1:g9}{v0 v1 v7:Option D}{N B C:ai->Store->Prop}{R:D->Store->Prop}
  (n0:0<n) (hn:n<=20) (hs:s1=(true,1)\/s1=(false,1)) (ab:a≠b) (ac:a≠c) (bc:b≠c) (ar:a≠r) (br:b≠r) (cr:c≠r)
  (ha:s[a]?=some (.lst (fs.map a9))) (hb:s[b]?=some (.lst (ws.map wD))) (hc:s[c]?=some (.lst (rs.map D.ref))) (hr:s[r]?=some (.lst (L.map D.int))) (hrk:rs[k]?=some r)
  (g:ae.GR n p fs ws) (vp:ae.Vf n p) (hk:k<fs.length) (few:fs.length<=100) (hL:L.length<=5)
  (hN:∀(v:Option D) (s':Store),s'[a]?=some (.lst ((ae.aO n fs ws k s1).1.map a9))->s'[b]?=some (.lst ((ae.aO n fs ws k s1).2.1.map wD))->s'[c]?=some (.lst (rs.map D.ref))->s'[r]?=some (.lst ((L ++ [((ae.aO n fs ws k s1).2.2:Int)]).map D.int))->Ex [a,b,r] s s'->N [v0,v1,some (.ref a),some (.ref b),some (.ref c),some (.int (k:Int)),some (b5 s1),v] s') :
  Ws ((ay (aG (aN wc (af (aN wg (af (aD bP (ag 2) (ag 5)) (af (ag 6) ah))) ah)) (hName 7))
 (ay (fK (aC (aD (oJ true) (ag 7) (ag 2))) (ay (cw (jE "list" aR (ag 2) (af (ag 7) ah)))
 (cw (jE "list" aR (ag 3) (af (aN Ai (af (aD kj (aD bP (ag 3) (ag 5)) (bS (af (ag 6) ah))) ah)) ah)))) aW)
 (cw (jE "list" aR (aD bP (ag 4) (ag 5)) (af (jE "list" dD (ag 2) (af (ag 7) ah)) ah))))) [v0,v1,some (.ref a),some (.ref b),some (.ref c),some (.int (k:Int)),some (b5 s1),v7] s) N B C R:=by
 have ek:=dh (d:=(([],[]):ae.aV)) hk;have hkw:k<ws.length:=by rw [g.wl];exact hk
 have ew:=dh (d:=([]:List g9)) hkw;have ps:ae.iQ s1:=by rcases hs with rfl|rfl<;>exact ⟨fun _=>by decide,by decide⟩
 have gN:=ae.tP n0 g vp hk hs;have lN:(ae.aO n fs ws k s1).1.length<=101:=by have:=gN.2.2.2.1;omega
 generalize hq:fs.getD k ([],[])=q at ek;generalize hw:ws.getD k []=w at ew;obtain ⟨wq,oq⟩:=g.own q (VI ek);obtain ⟨pw,lw,nw,-⟩:=g.wd k w ew;have hat:eo (fs.map a9) (k:Int)=some (a9 q):=qY ek;have Jd:eo (rs.map D.ref) (k:Int)=some (.ref r):=qY hrk;refine aX (b8 ?_);refine cB ?_;intro gf hQ
 set_option simprocs false in simp only [bJ,bC ha,hat]
 refine bB (UI (p:=q) (s:=s1) ⟨wq.v.1,wq.v.2⟩ (by omega) ps.1) ?_;rintro d t1 ⟨rfl,k1⟩;rw [M7];have C1:=wq.st n0 s1;have eS:a9 (ae.stM q s1)=bY (ae.stM q s1).1 (ae.stM q s1).2:=rfl;rw [eS];refine bB (M5 (Gf C1) n0 hn) ?_;rintro d t2 ⟨rfl,k2⟩;have eF:bY (ae.cT n ((ae.stM q s1).1,(ae.stM q s1).2)).1 (ae.cT n ((ae.stM q s1).1,(ae.stM q s1).2)).2=a9 (ae.cT n (ae.stM q s1)):=rfl;rw [eF];have sP:=k1.trans k2;have ha2:=sP.keep _ _ ha (by simp);have hb2:=sP.keep _ _ hb (by simp);have hc2:=sP.keep _ _ hc (by simp);have hr2:=sP.keep _ _ hr (by simp);have pf:∀q:ae.aV,pU 2 (a9 q):=fun q=>vZ 0 _ _;have rest:∀ {s3:Store},s3[a]?=some (.lst ((ae.aO n fs ws k s1).1.map a9))->s3[b]?=some (.lst ((ae.aO n fs ws k s1).2.1.map wD))->s3[c]?=some (.lst (rs.map D.ref))->s3[r]?=some (.lst (L.map D.int))->Ex [a,b,r] s s3->(ae.aO n fs ws k s1).1[(ae.aO n fs ws k s1).2.2]?=some (ae.cT n (ae.stM q s1)) ->
   Ws ((cw (jE "list" aR (aD bP (ag 4) (ag 5)) (af (jE "list" dD (ag 2) (af (ag 7) ah)) ah))) [v0,v1,some (.ref a),some (.ref b),some (.ref c),some (.int (k:Int)),some (b5 s1),some (a9 (ae.cT n (ae.stM q s1)))] s3) N B C R:=by
  intro s3 pK pL hc3 oO k3 hj;refine pE ?_;refine cB ?_;intro gM bR
  set_option simprocs false in simp only [bJ,bC hc3,Jd]
  refine ⟨mS (by rw [bC oO];rfl),mS (by rw [bC pK];rfl),?_⟩;rw [Mx (n:=2) (j:=(ae.aO n fs ws k s1).2.2) (pf _) (bC pK) (fun e he=>by obtain ⟨q,_,rfl⟩:=VO.mp he;exact pf q) (by decide) (by rw [Vz];omega) (by rw [VP,hj];rfl) (M8 gN.1.nd hj)]
  set_option simprocs false in simp only [bJ,kq oO]
  refine ⟨jO (by rw [Vz];omega),bR _ _ (hN _ _ ?_ ?_ ?_ ?_ ?_)⟩
  ·rw [VF (Ne.symm ar)];exact pK
  ·rw [VF (Ne.symm br)];exact pL
  ·rw [VF (Ne.symm cr)];exact hc3
  ·rw [VG (eB oO),VW];rfl
  ·exact k3.put (by simp)
 have hj:(ae.aO n fs ws k s1).1[(ae.aO n fs ws k s1).2.2]?=some (ae.cT n (ae.stM q s1)):=by
  obtain ⟨q',h1,h2⟩:=gN.2.2.2.2;rw [ek] at h1;cases h1;exact h2
 refine hQ _ _ (aX (ju ?_));clear hQ;kspl_open hQ;have D9:cH t2 (.ref a)=some (fs.map a9):=bC ha2;rw [Ml (n:=2) (es:=fs.map a9) (pf _) D9 (fun e he=>by obtain ⟨q,_,rfl⟩:=VO.mp he;exact pf q) (by decide)]
 by_cases hm:ae.cT n (ae.stM q s1)∈fs
 ·have hm':a9 (ae.cT n (ae.stM q s1))∈fs.map a9:=VO.mpr ⟨_,hm,rfl⟩
  have eR:ae.aO n fs ws k s1=(fs,ws,fs.idxOf (ae.cT n (ae.stM q s1))):=by unfold ae.aO;rw [hq,if_pos hm]
  refine ⟨false,by simp [hm'],hQ _ _ ⟨fun z=>(nomatch z),fun _=>ko (rest ?_ ?_ hc2 hr2 sP.any hj)⟩⟩
  ·rw [eR];exact ha2
  ·rw [eR];exact hb2
 ·have hm':a9 (ae.cT n (ae.stM q s1)) ∉ fs.map a9:=fun z=>by
   obtain ⟨q',h1,h2⟩:=VO.mp z;exact hm (Jc h2 ▸ h1)
  have eR:ae.aO n fs ws k s1=(fs ++ [ae.cT n (ae.stM q s1)],ws ++ [(ae.jr (w ++ [s1])).reverse],fs.length):=by unfold ae.aO;rw [hq,hw,if_neg hm]
  refine ⟨true,by simp [hm'],hQ _ _ ⟨fun _=>?_,fun z=>(nomatch z)⟩⟩;clear hQ;refine aX (pE ?_);refine cB ?_;intro gf hQ
  set_option simprocs false in simp only [bJ,kq ha2]
  refine ⟨mS (by rw [bC ha2];rfl),jO (by rw [Vz];omega),hQ _ _ (pE ?_)⟩;clear hQ;have em:fs.map a9 ++ [a9 (ae.cT n (ae.stM q s1))]=(ae.aO n fs ws k s1).1.map a9:=by rw [eR,VW];rfl
  rw [em];have pK:(t2.set a (.lst ((ae.aO n fs ws k s1).1.map a9)))[a]?=some (.lst ((ae.aO n fs ws k s1).1.map a9)):=VG (eB ha2);have pL:(t2.set a (.lst ((ae.aO n fs ws k s1).1.map a9)))[b]?=some (.lst (ws.map wD)):=by rw [VF ab];exact hb2
  have hc3:(t2.set a (.lst ((ae.aO n fs ws k s1).1.map a9)))[c]?=some (.lst (rs.map D.ref)):=by rw [VF ac];exact hc2
  have oO:(t2.set a (.lst ((ae.aO n fs ws k s1).1.map a9)))[r]?=some (.lst (L.map D.int)):=by rw [VF ar];exact hr2
  have k3:Ex [a,b,r] s (t2.set a (.lst ((ae.aO n fs ws k s1).1.map a9))):=(sP.any).put (by simp);generalize t2.set a (.lst ((ae.aO n fs ws k s1).1.map a9))=s3 at pK pL hc3 oO k3 ⊢;have zu:eo (ws.map wD) (k:Int)=some (wD w):=qY ew;refine cB ?_;intro gf hQ
  set_option simprocs false in simp only [bJ,bC pL,zu]
  refine ⟨mS (by rw [bC pL];rfl),rfl,?_⟩;have e1:w.map b5 ++ [b5 s1]=(w ++ [s1]).map b5:=by rw [VW];rfl
  unfold wD
  w_how
  rw [e1];refine ⟨jO (by rw [Vz];show _+1<=_;omega),?_⟩;have ck:∀x∈w ++ [s1],ae.iQ x:=fun x hx=>by
   rcases V9.mp hx with h|h
   ·exact ae.Pl.pr pw x (WW.mpr h)
   ·rw [VY.mp h];exact ps
  refine bB (UX (w:=w ++ [s1]) ck (by rw [VE];show _+1<=_;omega)) ?_;rintro d s4 ⟨rfl,k4⟩;have Eb:=k4.keep _ _ pK (by simp);have zv:=k4.keep _ _ pL (by simp);have hc4:=k4.keep _ _ hc3 (by simp);have UZ:=k4.keep _ _ oO (by simp)
  set_option simprocs false in simp only [bJ,kq zv]
  refine ⟨jO (by rw [Vz,g.wl];omega),hQ _ _ (rest ?_ ?_ ?_ ?_ ((k3.trans k4.any).put (by simp)) hj)⟩
  ·rw [VF (Ne.symm ab)];exact Eb
  ·rw [VG (eB zv),eR,VW];rfl
  ·rw [VF bc];exact hc4
  ·rw [VF br];exact UZ
def sQ(p:ae.aV)(w:List g9)(l:Nat×Nat):D:=.tup [a9 p,wD w,.int (l.1:Int),.int (l.2:Int)]
def n8(c:ae.CS)(N:Nat):D:=.tup ((List.range N).map fun k=>sQ (c.1.getD k ([],[])) (c.2.1.getD k []) (c.2.2.getD k (0,0)))
structure uQ(st s:Store)(ia ib ic:Nat)(fs:List ae.aV)(ws:List (List g9))(ls:List (Nat×Nat))(rs:List Nat):Prop where
 a:s[ia]?=some (.lst (fs.map a9))
 b:s[ib]?=some (.lst (ws.map wD))
 c:s[ic]?=some (.lst (rs.map D.ref))
 l:ls.length<=rs.length
 r:∀(k r:Nat) (l:Nat×Nat),rs[k]?=some r->ls[k]?=some l->s[r]?=some (.lst [.int (l.1:Int),.int (l.2:Int)])
 h:∀r∈rs,ic<r/\r<s.length
 e:Ex [] st s
theorem Ec{x y:D}:eo [x,y] 0=some x:=rfl
theorem Ed{x y:D}:eo [x,y] 1=some y:=rfl
theorem U0{st:Store}{p:ae.aV}{n most:Nat}(w0:ae.Wh n p)(n0:0<n)(hn:n<=20)(m1:1<=most)(sR:most<=60):Wp (Dn [a9 p,.int (most:Int)] st) fun d st'=>Ex [] st st'/\((∃N,N<=most/\ae.Full n p (ae.ch n p N) N/\(∀j,j<N->j<(ae.ch n p j).1.length)/\d=n8 (ae.ch n p N) N)\/(d=.non/\∃i,(∀j,j<i->j<(ae.ch n p j).1.length)/\most<(ae.ch n p i).1.length)):=by
 refine jv ?_;show Ws (Fw [some (a9 p),some (.int (most:Int)),none,none,none,none,none,none] st) _ _ _ _;unfold Fw;refine aX (b8 ?_);kspl_open hQ;refine bB (M5 (Gf w0) n0 hn) ?_;rintro d s1 ⟨rfl,k1⟩;refine ⟨rfl,hQ _ _ (aX (b8 ?_))⟩;clear hQ;kspl_open hQ;refine ⟨rfl,rfl,hQ _ _ (aX (b8 ?_))⟩;clear hQ;kspl_open hQ;refine ⟨rfl,hQ _ _ ?_⟩;clear hQ;have eF:bY (ae.cT n (p.1,p.2)).1 (ae.cT n (p.1,p.2)).2=a9 (ae.cT n p):=rfl;rw [eF];obtain ⟨a,b,c,s2,ea,eb,ec,es,ab,bc,la,I0⟩:∃(a b c:Nat) (s2:Store),s1.length=a/\(s1 ++ [O.lst [a9 (ae.cT n p)]]).length=b/\(s1 ++ [O.lst [a9 (ae.cT n p)]] ++ [O.lst [D.tup []]]).length=c/\s1 ++ [O.lst [a9 (ae.cT n p)]] ++ [O.lst [D.tup []]] ++ [O.lst []]=s2/\a<b/\b<c/\st.length<=a/\uQ st s2 a b c (ae.ch n p 0).1 (ae.ch n p 0).2.1 (ae.ch n p 0).2.2 [] :=
  ⟨_,_,_,_,rfl,rfl,rfl,rfl,by simp,by simp,k1.len,jF (jF g8),jF g8,g8,VC _,(fun k r l h=>nomatch h),(fun r h=>nomatch h),((k1.app _).app _).app _⟩
 rw [ea,eb,ec,es];refine aX (n5 (aB 0 most) (fun i δ s=>∃(v5 v6 v7:Option D) (j:Nat) (rs:List Nat),δ=[some (a9 p),some (.int (most:Int)),some (.ref a),some (.ref b),some (.ref c),v5,v6,v7]/\j<=i/\(∀j',j' < j->j' < (ae.ch n p j').1.length)/\(ae.ch n p j).1.length<=most/\(j=i\/(ae.ch n p j).1.length=j)/\rs.length=j/\uQ st s a b c (ae.ch n p j).1 (ae.ch n p j).2.1 (ae.ch n p j).2.2 rs) ?_ (by rw [iN];omega) ?_ ?_)
 ·kspl_open hQ
  refine ⟨by omega,hQ _ _ ⟨by rw [VR],none,none,none,0,[],rfl,VC _,(fun j' h=>nomatch h),(show 1<=most from m1),.inl rfl,rfl,I0⟩⟩
 ·rintro i d δ s hd ⟨v5,v6,v7,j,rs,rfl,hj,pr,few,jo,hrs,I⟩
  have hi:i<most:=by have:=eB hd;rw [iN] at this;exact this
  rw [ya hi,WV] at hd;cases hd;have g:=ae.C2 n0 w0 j pr;kspl_open hQ;refine hQ _ _ (ju ?_);clear hQ;refine cB ?_;intro gf hQ
  set_option simprocs false in simp only [bJ,bC I.a]
  rw [Vz];refine hQ _ _ ⟨fun z=>?_,fun z=>ko ?_⟩
  ·have z:i<(ae.ch n p j).1.length:=by have:=of_decide_eq_true z;omega
   have ej:j=i:=by rcases jo with h|h<;>omega
   subst ej;clear hQ;have l6:=g.ll;have U1:=g.le;refine aX (pE ?_);kspl_open hQ;have Ic:=jF (m:=[O.lst []]) I.c;refine ⟨mS (by rw [bC I.c];rfl),rfl,_,kq Ic,jO (by rw [Vz];omega),hQ _ _ ?_⟩;clear hQ;have er:rs.map D.ref ++ [D.ref s.length]=(rs ++ [s.length]).map D.ref:=by rw [VW];rfl
   rw [er];have lc:=eB I.c;have I1:uQ st ((s ++ [O.lst []]).set c (.lst ((rs ++ [s.length]).map D.ref))) a b c (ae.ch n p j).1 (ae.ch n p j).2.1 (ae.ch n p j).2.2 (rs ++ [s.length]):=by
    refine ⟨?_,?_,VG (eB Ic),by rw [VE];have:=I.l;omega,fun k r l h1 h2=>?_,fun r hr=>?_,?_⟩
    ·rw [VF (by omega)];exact jF I.a
    ·rw [VF (by omega)];exact jF I.b
    ·have hk:k<rs.length:=by have:=(VA.mp h2).1;omega
     rw [VM hk] at h1;have hc:=I.h r (VI h1);rw [VF (by omega)];exact jF (I.r k r l h1 h2)
    ·rw [Wc,VE]
     rcases V9.mp hr with h|h
     ·have:=I.h r h;exact ⟨this.1,Nat.lt_succ_of_lt this.2⟩
     ·rw [VY.mp h];exact ⟨lc,Wu _⟩
    ·exact (I.e.app _).loc (by omega)
   have hr1:((s ++ [O.lst []]).set c (.lst ((rs ++ [s.length]).map D.ref)))[s.length]?=some (.lst (([]:List Int).map D.int)):=by
    rw [VF (by omega)];exact g8
   have hrk:(rs ++ [s.length])[j]?=some s.length:=by rw [VX (by omega),hrs,WJ];rfl
   have old:∀r∈rs,r≠s.length:=fun r h=>by have:=I.h r h;omega
   have U2:c<s.length:=lc;generalize (s ++ [O.lst []]).set c (.lst ((rs ++ [s.length]).map D.ref))=s3 at I1 hr1;generalize s.length=r at I1 hr1 hrk old U2;have r1:=ae.tP (s:=(true,1)) n0 g.r w0.v (k:=j) z (.inl rfl);have r2:=ae.tP (s:=(false,1)) n0 r1.1 w0.v (k:=j) (by have:=r1.2.2.1;omega) (.inr rfl);have eS:ae.jX n (ae.ch n p j)=ae.aO n (ae.ch n p j).1 (ae.ch n p j).2.1 j (true,1):=by unfold ae.jX;rw [l6]
   have eT:ae.i9 n (ae.ch n p j)=ae.aO n (ae.aO n (ae.ch n p j).1 (ae.ch n p j).2.1 j (true,1)).1 (ae.aO n (ae.ch n p j).1 (ae.ch n p j).2.1 j (true,1)).2.1 j (false,1):=by unfold ae.i9;rw [eS,l6]
   have mk:∀{fs fs':List ae.aV} {ws Ac:List (List g9)} {s s':Store},uQ st s a b c fs ws (ae.ch n p j).2.2 (rs ++ [r])->s'[a]?=some (.lst (fs'.map a9))->s'[b]?=some (.lst (Ac.map wD))->s'[c]?=some (.lst ((rs ++ [r]).map D.ref))->Ex [a,b,r] s s'->uQ st s' a b c fs' Ac (ae.ch n p j).2.2 (rs ++ [r]):=by
    intro fs fs' ws Ac s s' J h1 h2 h3 k;refine ⟨h1,h2,h3,J.l,fun i r' l e1 e2=>?_,fun r' hr=>?_,⟨V3 J.e.len k.len,fun i o e n=>k.keep i o (J.e.keep i o e n) (by have:=eB e;simp;omega)⟩⟩
    ·have hk:i<rs.length:=by have:=(VA.mp e2).1;omega
     have zO:=e1;rw [VM hk] at zO;have hm:=VI zO;have hc:=J.h r' (VI e1);have:=old r' hm;exact k.keep _ _ (J.r i r' l e1 e2) (by simp;omega)
    ·have hc:=J.h r' hr
     exact ⟨hc.1,V5 hc.2 k.len⟩
   refine aX (n5 [b5 (true,1),b5 (false,1)] (fun m δ s=>∃(v6 v7:Option D),δ=[some (a9 p),some (.int (most:Int)),some (.ref a),some (.ref b),some (.ref c),some (.int (j:Int)),v6,v7]/\((m=0/\uQ st s a b c (ae.ch n p j).1 (ae.ch n p j).2.1 (ae.ch n p j).2.2 (rs ++ [r])/\s[r]?=some (.lst (([]:List Int).map D.int)))\/(m=1/\uQ st s a b c (ae.jX n (ae.ch n p j)).1 (ae.jX n (ae.ch n p j)).2.1 (ae.ch n p j).2.2 (rs ++ [r])/\s[r]?=some (.lst (([((ae.jX n (ae.ch n p j)).2.2:Int)]:List Int).map D.int)))\/(m=2/\uQ st s a b c (ae.i9 n (ae.ch n p j)).1 (ae.i9 n (ae.ch n p j)).2.1 (ae.ch n p j).2.2 (rs ++ [r])/\s[r]?=some (.lst (([((ae.jX n (ae.ch n p j)).2.2:Int),((ae.i9 n (ae.ch n p j)).2.2:Int)]:List Int).map D.int))))) ?_ (by decide) ?_ ?_)
   ·kspl_open hQ
    exact ⟨rfl,rfl,rfl,hQ _ _ ⟨rfl,v6,v7,rfl,.inl ⟨rfl,I1,hr1⟩⟩⟩
   ·rintro m d δ s5 hd ⟨v6,v7,rfl,hm⟩
    kspl_open hQ;refine hQ _ _ ?_;clear hQ;rcases hm with ⟨rfl,J,hr⟩|⟨rfl,J,hr⟩|⟨rfl,J,hr⟩
    ·cases (show some (b5 (true,1))=some d from hd)
     refine M9 (s1:=(true,1)) n0 hn (.inl rfl) (by omega) (by omega) (by omega) (by omega) (by omega) (by omega) J.a J.b J.c hr hrk g.r w0.v z (by omega) (by simp) fun v s' h1 h2 h3 h4 h5=>?_;refine ⟨_,v,rfl,.inr (.inl ⟨rfl,?_,?_⟩)⟩
     ·rw [eS];exact mk J h1 h2 h3 h5
     ·rw [eS];exact h4
    ·cases (show some (b5 (false,1))=some d from hd)
     rw [eS] at J hr;refine M9 (s1:=(false,1)) n0 hn (.inr rfl) (by omega) (by omega) (by omega) (by omega) (by omega) (by omega) J.a J.b J.c hr hrk r1.1 w0.v (by have:=r1.2.2.1;omega) (by have:=r1.2.2.2.1;omega) (by simp) fun v s' h1 h2 h3 h4 h5=>?_;refine ⟨_,v,rfl,.inr (.inr ⟨rfl,?_,?_⟩)⟩
     ·rw [eT];exact mk J h1 h2 h3 h5
     ·rw [eT,eS];exact h4
    ·cases (show none=some d from hd)
   ·rintro δ s5 ⟨v6,v7,rfl,⟨h,_⟩|⟨h,_⟩|⟨_,J,hr⟩⟩
    ·cases h
    ·cases h
    have Na:∀j',j' < j+1->j' < (ae.ch n p j').1.length:=fun j' h=>by
     rcases Nat.lt_or_ge j' j with h'|h'
     ·exact pr j' h'
     ·have:j'=j:=by omega
      subst this;exact z
    have J2:uQ st s5 a b c (ae.ch n p (j+1)).1 (ae.ch n p (j+1)).2.1 (ae.ch n p (j+1)).2.2 (rs ++ [r]):=by
     refine ⟨J.a,J.b,J.c,?_,fun k r' l e1 e2=>?_,J.h,J.e⟩
     ·show ((ae.ch n p j).2.2 ++ [_]).length<=_
      rw [VE,VE,l6,hrs];exact VC _
     ·have e2:((ae.ch n p j).2.2 ++ [((ae.jX n (ae.ch n p j)).2.2,(ae.i9 n (ae.ch n p j)).2.2)])[k]?=some l:=e2
      by_cases hk:k<(ae.ch n p j).2.2.length
      ·rw [VM hk] at e2
       exact J.r k r' l e1 e2
      ·have hk2:k=j:=by
        have:=(VA.mp e2).1;rw [VE] at this;have:k<(ae.ch n p j).2.2.length+1:=this;omega
       subst hk2;rw [VX (by omega),l6,WJ] at e2;cases (show some _=some l from e2);rw [hrk] at e1;cases e1;exact hr
    refine ju ?_;refine cB ?_;intro gf hQ
    set_option simprocs false in simp only [bJ,bC J2.a]
    rw [Vz];refine hQ _ _ ⟨fun y=>gQ ?_,fun y=>ko ⟨_,_,_,j+1,_,rfl,VC _,Na,?_,.inl rfl,?_,J2⟩⟩
    ·clear hQ
     kspl_open hQ;exact hQ _ _ ⟨J2.e,.inr ⟨rfl,j+1,Na,by have:=of_decide_eq_true y;omega⟩⟩
    ·have:=of_decide_eq_false y;omega
    ·rw [VE,hrs];rfl
  ·have z:¬i<(ae.ch n p j).1.length:=by have:=of_decide_eq_false z;omega
   have:=g.le;exact ⟨_,_,_,j,rs,rfl,by omega,pr,few,by omega,hrs,I⟩
 ·rintro δ s ⟨v5,v6,v7,j,rs,rfl,hj,pr,few,jo,hrs,I⟩
  rw [iN] at hj jo;have g:=ae.C2 n0 w0 j pr;have U1:=g.le;have Je:(ae.ch n p j).1.length=j:=by rcases jo with h|h<;>omega
  have wo:ae.Full n p (ae.ch n p j) j:={ toGC:=g,fl:=Je };refine gQ ?_;kspl_open hQ;generalize hC:ae.ch n p j=C at I g Je wo;refine tO (aB 0 j) (fun d=>sQ (C.1.getD (inD d).toNat ([],[])) (C.2.1.getD (inD d).toNat []) (C.2.2.getD (inD d).toNat (0,0))) ?_ (by rw [iN];omega) ?_ ?_
  ·refine cB ?_
   intro gM bR
   set_option simprocs false in simp only [bJ,bC I.a]
   rw [Vz,Je];exact ⟨by omega,bR _ _ ⟨by rw [VR];exact uE _ _,Ex.refl⟩⟩
  ·intro d hd s5 k5
   obtain ⟨i,hi⟩:=Xa hd;have hil:=eB hi;rw [iN] at hil;rw [ya hil,WV] at hi;cases hi;have hwl:=g.r.wl;have l6:=g.ll;have ef:=dh (d:=(([],[]):ae.aV)) (show i<C.1.length by omega);have ew:=dh (d:=([]:List g9)) (show i<C.2.1.length by omega);have el:=dh (d:=((0,0):Nat×Nat)) (show i<C.2.2.length by omega);have er:=dh (d:=0) (show i<rs.length by omega);have hR:=k5.keep _ _ (I.r i _ _ er el) (by simp);have a1:eo (C.1.map a9) (i:Int)=some (a9 (C.1.getD i ([],[]))):=qY ef;have a2:eo (C.2.1.map wD) (i:Int)=some (wD (C.2.1.getD i [])):=qY ew;have a3:eo (rs.map D.ref) (i:Int)=some (.ref (rs.getD i 0)):=qY er;have Jf:=k5.keep _ _ I.a (by simp);have Jg:=k5.keep _ _ I.b (by simp);have hc5:=k5.keep _ _ I.c (by simp);generalize rs.getD i 0=r at hR a3;refine cB ?_;intro gM bR
   set_option simprocs false in simp only [bJ,V0,Wm,Wi,Wj,bC Jf,bC Jg,bC hc5,a1,a2,a3,bC hR,Ec,Ed]
   exact ⟨rfl,bR _ _ ⟨rfl,Ex.refl⟩⟩
  ·intro s5 k5
   refine ⟨_,vY,hQ _ _ ⟨(I.e.trans k5).app _,.inl ⟨j,by omega,by rw [hC];exact wo,pr,?_⟩⟩⟩;rw [hC];unfold n8
   congr 1
   unfold aB;rw [V8];refine Wg fun i _=>?_;show sQ _ _ _=_;simp only [Function.comp,inD,WV,VR]
theorem wt{n:Nat}{p:ae.aV}(n0:0<n)(w:ae.Wh n p):∀(N j:Nat),(∀i,i<N->i<(ae.ch n p i).1.length)->j<=N->(ae.ch n p j).1.length<=(ae.ch n p N).1.length
 |0,j,_,hj=>by
  have:j=0:=by omega
  subst this;exact VC _
 |N+1,j,pr,hj=>by
  by_cases e:j=N+1
  ·subst e;exact VC _
  ·have h1:=wt n0 w N j (fun i hi=>pr i (by omega)) (by omega)
   have g:=ae.C2 n0 w N fun i hi=>pr i (by omega);have hN:=pr N (by omega);have l6:=g.ll;have r1:=ae.tP (s:=(true,1)) n0 g.r w.v (k:=(ae.ch n p N).2.2.length) (by omega) (.inl rfl);have r2:=ae.tP (s:=(false,1)) n0 r1.1 w.v (k:=(ae.ch n p N).2.2.length) (by have:=r1.2.2.1;omega) (.inr rfl);have a:=r1.2.2.1;have b:=r2.2.2.1;have:(ae.ch n p N).1.length<=(ae.ch n p (N+1)).1.length:=V3 a b;omega
theorem Nb{st:Store}{a b n k:Nat}{p:ae.aV}{fs:List ae.aV}{ws:List (List g9)}{s1:g9}(n0:0<n)(hn:n<=20)(hs:s1=(true,1)\/s1=(false,1))(ab:a≠b)(ha:st[a]?=some (.lst (fs.map a9)))(hb:st[b]?=some (.lst (ws.map wD)))(g:ae.GR n p fs ws)(vp:ae.Vf n p)(hk:k<fs.length)(few:fs.length<=100):
  Wp (zj [.ref a,.ref b,.int (k:Int),b5 s1] st) fun d st'=>d=.int ((ae.aO n fs ws k s1).2.2:Int)/\st'[a]?=some (.lst ((ae.aO n fs ws k s1).1.map a9))/\st'[b]?=some (.lst ((ae.aO n fs ws k s1).2.1.map wD))/\Ex [a,b] st st':=by
 refine jv ?_;show Ws (FX [some (.ref a),some (.ref b),some (.int (k:Int)),some (b5 s1),none] st) _ _ _ _;unfold FX;have ek:=dh (d:=(([],[]):ae.aV)) hk;have hkw:k<ws.length:=by rw [g.wl];exact hk
 have ew:=dh (d:=([]:List g9)) hkw;have ps:ae.iQ s1:=by rcases hs with rfl|rfl<;>exact ⟨fun _=>by decide,by decide⟩
 have gN:=ae.tP n0 g vp hk hs;have lN:(ae.aO n fs ws k s1).1.length<=101:=by have:=gN.2.2.2.1;omega
 generalize hq:fs.getD k ([],[])=q at ek;generalize hw:ws.getD k []=w at ew;obtain ⟨wq,oq⟩:=g.own q (VI ek);obtain ⟨pw,lw,nw,-⟩:=g.wd k w ew;have hat:eo (fs.map a9) (k:Int)=some (a9 q):=qY ek;refine aX (b8 ?_);refine cB ?_;intro gf hQ
 set_option simprocs false in simp only [bJ,bC ha,hat]
 refine ⟨rfl,?_⟩;have hw1:(D.tup [b5 s1])=.tup ([s1].map b5):=rfl;rw [hw1];refine bB (UK (p:=q) (w:=[s1]) ⟨wq.v.1,wq.v.2⟩ (by omega) (fun x hx=>by rw [VY.mp hx];exact ps.1) (show 1<=1000 by decide)) ?_;rintro d t1 ⟨rfl,k1⟩;have e1:lX q [s1]=ae.stM q s1:=M7 q s1;rw [e1];have C1:=wq.st n0 s1;have eS:a9 (ae.stM q s1)=bY (ae.stM q s1).1 (ae.stM q s1).2:=rfl;rw [eS];refine bB (M4 (Gf C1) n0 hn) ?_;rintro d t2 ⟨rfl,k2⟩;have eF:bY (ae.cT n ((ae.stM q s1).1,(ae.stM q s1).2)).1 (ae.cT n ((ae.stM q s1).1,(ae.stM q s1).2)).2=a9 (ae.cT n (ae.stM q s1)):=rfl;rw [eF];have sP:=k1.trans k2;have ha2:=sP.keep _ _ ha (by simp);have hb2:=sP.keep _ _ hb (by simp);have pf:∀q:ae.aV,pU 2 (a9 q):=fun q=>vZ 0 _ _;have hj:(ae.aO n fs ws k s1).1[(ae.aO n fs ws k s1).2.2]?=some (ae.cT n (ae.stM q s1)):=by
  obtain ⟨q',h1,h2⟩:=gN.2.2.2.2;rw [ek] at h1;cases h1;exact h2
 have rest:∀ {s3:Store},s3[a]?=some (.lst ((ae.aO n fs ws k s1).1.map a9))->s3[b]?=some (.lst ((ae.aO n fs ws k s1).2.1.map wD))->Ex [a,b] st s3 ->
   Ws ((bI (jE "list" dD (ag 0) (af (ag 4) ah))) [some (.ref a),some (.ref b),some (.int (k:Int)),some (b5 s1),some (a9 (ae.cT n (ae.stM q s1)))] s3) (fun _ st1=>D.non=D.int ((ae.aO n fs ws k s1).2.2:Int)/\st1[a]?=some (.lst ((ae.aO n fs ws k s1).1.map a9))/\st1[b]?=some (.lst ((ae.aO n fs ws k s1).2.1.map wD))/\Ex [a,b] st st1) (fun _ _=>False) (fun _ _=>False) (fun d st1=>d=D.int ((ae.aO n fs ws k s1).2.2:Int)/\st1[a]?=some (.lst ((ae.aO n fs ws k s1).1.map a9))/\st1[b]?=some (.lst ((ae.aO n fs ws k s1).2.1.map wD))/\Ex [a,b] st st1):=by
  intro s3 pK pL k3;refine gQ ?_;kspl_open bR;refine ⟨mS (by rw [bC pK];rfl),?_⟩;rw [Mx (n:=2) (j:=(ae.aO n fs ws k s1).2.2) (pf _) (bC pK) (fun e he=>by obtain ⟨q,_,rfl⟩:=VO.mp he;exact pf q) (by decide) (by rw [Vz];omega) (by rw [VP,hj];rfl) (M8 gN.1.nd hj)];exact bR _ _ ⟨rfl,pK,pL,k3⟩
 refine hQ _ _ (aX (ju ?_));clear hQ;kspl_open hQ;have D9:cH t2 (.ref a)=some (fs.map a9):=bC ha2;rw [Ml (n:=2) (es:=fs.map a9) (pf _) D9 (fun e he=>by obtain ⟨q,_,rfl⟩:=VO.mp he;exact pf q) (by decide)]
 by_cases hm:ae.cT n (ae.stM q s1)∈fs
 ·have hm':a9 (ae.cT n (ae.stM q s1))∈fs.map a9:=VO.mpr ⟨_,hm,rfl⟩
  have eR:ae.aO n fs ws k s1=(fs,ws,fs.idxOf (ae.cT n (ae.stM q s1))):=by unfold ae.aO;rw [hq,if_pos hm]
  refine ⟨false,by simp [hm'],hQ _ _ ⟨fun z=>(nomatch z),fun _=>ko (rest ?_ ?_ sP.any)⟩⟩
  ·rw [eR];exact ha2
  ·rw [eR];exact hb2
 ·have hm':a9 (ae.cT n (ae.stM q s1)) ∉ fs.map a9:=fun z=>by
   obtain ⟨q',h1,h2⟩:=VO.mp z;exact hm (Jc h2 ▸ h1)
  have eR:ae.aO n fs ws k s1=(fs ++ [ae.cT n (ae.stM q s1)],ws ++ [(ae.jr (w ++ [s1])).reverse],fs.length):=by unfold ae.aO;rw [hq,hw,if_neg hm]
  refine ⟨true,by simp [hm'],hQ _ _ ⟨fun _=>?_,fun z=>(nomatch z)⟩⟩;clear hQ;refine aX (pE ?_);refine cB ?_;intro gf hQ
  set_option simprocs false in simp only [bJ,kq ha2]
  refine ⟨mS (by rw [bC ha2];rfl),jO (by rw [Vz];omega),hQ _ _ (pE ?_)⟩;clear hQ;have em:fs.map a9 ++ [a9 (ae.cT n (ae.stM q s1))]=(ae.aO n fs ws k s1).1.map a9:=by rw [eR,VW];rfl
  rw [em];have pK:(t2.set a (.lst ((ae.aO n fs ws k s1).1.map a9)))[a]?=some (.lst ((ae.aO n fs ws k s1).1.map a9)):=VG (eB ha2);have pL:(t2.set a (.lst ((ae.aO n fs ws k s1).1.map a9)))[b]?=some (.lst (ws.map wD)):=by rw [VF ab];exact hb2
  have k3:Ex [a,b] st (t2.set a (.lst ((ae.aO n fs ws k s1).1.map a9))):=(sP.any).put (by simp);generalize t2.set a (.lst ((ae.aO n fs ws k s1).1.map a9))=s3 at pK pL k3 ⊢;have zu:eo (ws.map wD) (k:Int)=some (.tup (w.map b5)):=qY (g:=wD) ew;refine cB ?_;intro gf hQ
  set_option simprocs false in simp only [bJ,bC pL,zu]
  refine ⟨mS (by rw [bC pL];rfl),rfl,?_⟩;rw [hw1];refine bB (UP (v:=w) (w:=[s1]) (by show _+1<=_;omega)) ?_;rintro d s4 ⟨rfl,k4⟩;have Eb:=k4.keep _ _ pK (by simp);have zv:=k4.keep _ _ pL (by simp)
  set_option simprocs false in simp only [bJ,kq zv]
  refine ⟨jO (by rw [Vz,g.wl];omega),hQ _ _ (rest ?_ ?_ ((k3.trans k4.any).put (by simp)))⟩
  ·rw [VF (Ne.symm ab)];exact Eb
  ·rw [VG (eB zv),eR,VW];rfl
def zw(l:Nat×Nat):D:=.tup [.int (l.1:Int),.int (l.2:Int)]
theorem U3{st:Store}{p:ae.aV}{n most:Nat}(w0:ae.Wh n p)(n0:0<n)(hn:n<=20)(m1:1<=most)(sR:most<=60):Wp (qX [a9 p,.int (most:Int)] st) fun d st'=>Ex [] st st'/\((∃N,N<=most/\ae.Full n p (ae.ch n p N) N/\(∀j,j<N->j<(ae.ch n p j).1.length)/\d=n8 (ae.ch n p N) N)\/∃(i e:Nat),(∀j,j<i->j<(ae.ch n p j).1.length)/\most<(ae.ch n p i).1.length/\d=.ref e/\st'[e]?=some (.exc "TooMany" [("most",.int (most:Int))])):=by
 refine jv ?_;show Ws (FY [some (a9 p),some (.int (most:Int)),none,none,none,none,none,none] st) _ _ _ _;unfold FY;refine aX (uJ (b8 ?_));kspl_open hQ;refine bB (M4 (Gf w0) n0 hn) ?_;rintro d s1 ⟨rfl,k1⟩;refine ⟨rfl,hQ _ _ (aX (uJ (b8 ?_)))⟩;clear hQ;kspl_open hQ;refine ⟨rfl,rfl,hQ _ _ (aX (uJ (b8 ?_)))⟩;clear hQ;kspl_open hQ;refine ⟨rfl,hQ _ _ ?_⟩;clear hQ;have eF:bY (ae.cT n (p.1,p.2)).1 (ae.cT n (p.1,p.2)).2=a9 (ae.cT n p):=rfl;rw [eF];obtain ⟨a,b,c,s2,ea,eb,ec,es,ab,bc,la,ha,hb,hc,kx⟩:∃(a b c:Nat) (s2:Store),s1.length=a/\(s1 ++ [O.lst [a9 (ae.cT n p)]]).length=b/\(s1 ++ [O.lst [a9 (ae.cT n p)]] ++ [O.lst [D.tup []]]).length=c/\s1 ++ [O.lst [a9 (ae.cT n p)]] ++ [O.lst [D.tup []]] ++ [O.lst []]=s2/\a<b/\b<c/\st.length<=a/\s2[a]?=some (.lst ((ae.ch n p 0).1.map a9))/\s2[b]?=some (.lst ((ae.ch n p 0).2.1.map wD))/\s2[c]?=some (.lst ((ae.ch n p 0).2.2.map zw))/\Ex [] st s2 :=
  ⟨_,_,_,_,rfl,rfl,rfl,rfl,by simp,by simp,k1.len,jF (jF g8),jF g8,g8,((k1.app _).app _).app _⟩
 rw [ea,eb,ec,es];refine aX (Ab (fun m δ s=>∃(v5 v6 v7:Option D) (j:Nat),δ=[some (a9 p),some (.int (most:Int)),some (.ref a),some (.ref b),some (.ref c),v5,v6,v7]/\m+j=61/\j<=most/\(∀i,i<j->i<(ae.ch n p i).1.length)/\s[a]?=some (.lst ((ae.ch n p j).1.map a9))/\s[b]?=some (.lst ((ae.ch n p j).2.1.map wD))/\s[c]?=some (.lst ((ae.ch n p j).2.2.map zw))/\Ex [] st s) 61 (by decide) ⟨none,none,none,0,rfl,rfl,Wd _,(fun i hi=>absurd hi (Wn i)),ha,hb,hc,kx⟩ ?_);rintro m δ s ⟨v5,v6,v7,j,rfl,hm,jm,pr,ha,hb,hc,k⟩;have g:=ae.C2 n0 w0 j pr;have l6:=g.ll;have Vq:=g.le;refine cB ?_;intro gf hQ
 set_option simprocs false in simp only [bJ,bC ha,bC hc]
 rw [Vz,Vz,l6];refine hQ _ _ ⟨fun z=>aX (ju ?_),fun z=>uJ (gQ ?_)⟩
 ·have z:j<(ae.ch n p j).1.length:=by have:=of_decide_eq_true z;omega
  clear hQ;refine cB ?_;intro gf hQ
  set_option simprocs false in simp only [bJ,bC ha]
  rw [Vz];refine hQ _ _ ⟨fun y=>SU ?_,fun y=>uJ (ko (aX (uJ (b8 ?_))))⟩
  ·have y:most<(ae.ch n p j).1.length:=by have:=of_decide_eq_true y;omega
   clear hQ;kspl_open hQ;exact hQ _ _ ⟨k.app _,.inr ⟨j,_,pr,y,rfl,g8⟩⟩
  ·have y:(ae.ch n p j).1.length<=most:=by have:=of_decide_eq_false y;omega
   clear hQ;refine cB ?_;intro gf hQ
   set_option simprocs false in simp only [bJ,bC hc]
   rw [Vz,l6];refine hQ _ _ (aX (uJ (b8 ?_)));clear hQ;kspl_open hQ;have es1:D.tup [D.str (Str.ofString "s"),D.int 1]=b5 (true,1):=rfl;have U4:D.tup [D.str (Str.ofString "t"),D.int 1]=b5 (false,1):=rfl;rw [es1];have r1:=ae.tP (s:=(true,1)) n0 g.r w0.v (k:=j) z (.inl rfl);have r2:=ae.tP (s:=(false,1)) n0 r1.1 w0.v (k:=j) (by have:=r1.2.2.1;omega) (.inr rfl);refine bB (Nb (s1:=(true,1)) (k:=j) n0 hn (.inl rfl) (by omega) ha hb g.r w0.v z (by omega)) ?_;rintro d s3 ⟨rfl,pK,pL,k3⟩;have hc3:=k3.keep _ _ hc (by simp;omega);refine hQ _ _ (aX (uJ (b8 ?_)));clear hQ;kspl_open hQ;rw [U4];refine bB (Nb (s1:=(false,1)) (k:=j) n0 hn (.inr rfl) (by omega) pK pL r1.1 w0.v (by have:=r1.2.2.1;omega) (by have:=r1.2.2.2.1;omega)) ?_;rintro d s4 ⟨rfl,Eb,zv,k4⟩;have hc4:=k4.keep _ _ hc3 (by simp;omega);refine hQ _ _ (uJ (pE ?_));clear hQ;refine cB ?_;intro gf hQ
   set_option simprocs false in simp only [bJ,kq hc4]
   have eS:ae.jX n (ae.ch n p j)=ae.aO n (ae.ch n p j).1 (ae.ch n p j).2.1 j (true,1):=by unfold ae.jX;rw [l6]
   have eT:ae.i9 n (ae.ch n p j)=ae.aO n (ae.aO n (ae.ch n p j).1 (ae.ch n p j).2.1 j (true,1)).1 (ae.aO n (ae.ch n p j).1 (ae.ch n p j).2.1 j (true,1)).2.1 j (false,1):=by unfold ae.i9;rw [eS,l6]
   have kd:∀{x y:Store},Ex [] st x->Ex [a,b] x y->Ex [] st y:=fun {x y} h g=>⟨V3 h.len g.len,fun i o e n=>g.keep i o (h.keep i o e n) (by have:=eB e;simp;omega)⟩;have k5:Ex [] st s4:=kd (kd k k3) k4;refine ⟨mS (by rw [bC hc4];rfl),rfl,jO (by rw [Vz];omega),hQ _ _ ⟨m-1,by omega,_,_,_,j+1,rfl,by omega,by omega,fun i hi=>?_,?_,?_,?_,k5.loc (by omega)⟩⟩
   ·rcases Nat.lt_or_ge i j with h|h
    ·exact pr i h
    ·have:i=j:=by omega
     subst this;exact z
   ·rw [VF (by omega)]
    show _=some (O.lst ((ae.i9 n (ae.ch n p j)).1.map a9));rw [eT];exact Eb
   ·rw [VF (by omega)]
    show _=some (O.lst ((ae.i9 n (ae.ch n p j)).2.1.map wD));rw [eT];exact zv
   ·rw [VG (eB hc4)]
    show _=some (O.lst (((ae.ch n p j).2.2 ++ [((ae.jX n (ae.ch n p j)).2.2,(ae.i9 n (ae.ch n p j)).2.2)]).map zw));rw [VW,eT,eS];rfl
 ·have z:¬j<(ae.ch n p j).1.length:=by have:=of_decide_eq_false z;omega
  have hfl:(ae.ch n p j).1.length=j:=by omega
  have F:ae.Full n p (ae.ch n p j) j:={ toGC:=g,fl:=hfl };clear hQ;kspl_open hQ;generalize hC:ae.ch n p j=C at ha hb hc g hfl l6;refine tO (aB 0 j) (fun d=>sQ (C.1.getD (inD d).toNat ([],[])) (C.2.1.getD (inD d).toNat []) (C.2.2.getD (inD d).toNat (0,0))) ?_ (by rw [iN];omega) ?_ ?_
  ·refine cB ?_
   intro gM bR
   set_option simprocs false in simp only [bJ,bC ha]
   rw [Vz,hfl];exact ⟨by omega,bR _ _ ⟨by rw [VR];exact uE _ _,Ex.refl⟩⟩
  ·intro d hd s5 k5
   obtain ⟨i,hi⟩:=Xa hd;have hil:=eB hi;rw [iN] at hil;rw [ya hil,WV] at hi;cases hi;have hwl:=g.r.wl;have ef:=dh (d:=(([],[]):ae.aV)) (show i<C.1.length by omega);have ew:=dh (d:=([]:List g9)) (show i<C.2.1.length by omega);have el:=dh (d:=((0,0):Nat×Nat)) (show i<C.2.2.length by omega);have a1:eo (C.1.map a9) (i:Int)=some (a9 (C.1.getD i ([],[]))):=qY ef;have a2:eo (C.2.1.map wD) (i:Int)=some (wD (C.2.1.getD i [])):=qY ew;have a3:eo (C.2.2.map zw) (i:Int)=some (zw (C.2.2.getD i (0,0))):=qY el;have g0:∀{l:Nat×Nat} {s:Store} {Q:D->Store->Prop},Wp (bA (zw l) (.int 0) s) Q↔Q (.int (l.1:Int)) s:=bh;have g1:∀{l:Nat×Nat} {s:Store} {Q:D->Store->Prop},Wp (bA (zw l) (.int 1) s) Q↔Q (.int (l.2:Int)) s:=bh;have Jf:=k5.keep _ _ ha (by simp);have Jg:=k5.keep _ _ hb (by simp);have hc5:=k5.keep _ _ hc (by simp);refine cB ?_;intro gM bR
   set_option simprocs false in simp only [bJ,V0,Wm,Wi,Wj,bC Jf,bC Jg,bC hc5,a1,a2,a3,g0,g1]
   exact ⟨rfl,bR _ _ ⟨rfl,Ex.refl⟩⟩
  ·intro s5 k5
   refine ⟨_,vY,hQ _ _ ⟨rfl,(k.trans k5).app _,.inl ⟨j,jm,F,pr,?_⟩⟩⟩;rw [hC];unfold n8
   congr 1
   unfold aB;rw [V8];refine Wg fun i _=>?_;show sQ _ _ _=_;simp only [Function.comp,inD,WV,VR]
def qI(n:Nat)(p:ae.aV)(N m:Nat):Prop:=N<=m/\ae.Full n p (ae.ch n p N) N/\∀j,j<N->j<(ae.ch n p j).1.length
def wu(n:Nat)(p:ae.aV)(m:Nat):Prop:=∃i,(∀j,j<i->j<(ae.ch n p j).1.length)/\m<(ae.ch n p i).1.length
theorem Nc{n N N' m m':Nat}{p:ae.aV}(a:qI n p N m)(b:qI n p N' m'):N=N':=by
 have key:∀{N N' m m':Nat},qI n p N m->qI n p N' m'->¬N<N':=fun {N N' m m'} a b h=>by
  have:=b.2.2 N h;have:=a.2.1.fl;omega
 have h1:=key a b;have h2:=key b a;omega
theorem Jh{n N m m':Nat}{p:ae.aV}(n0:0<n)(w:ae.Wh n p)(a:qI n p N m)(b:wu n p m'):m' < N:=by
 obtain ⟨i,pr,hi⟩:=b;have U5:i<=N:=by
  rcases Nat.lt_or_ge N i with h|h
  ·have:=pr N h
   have:=a.2.1.fl;omega
  ·exact h
 have:=wt n0 w N i a.2.2 U5;have:=a.2.1.fl;omega
theorem sS{n m:Nat}{p:ae.aV}{st:Store}(w0:ae.Wh n p)(n0:0<n)(hn:n<=20)(m1:1<=m)(sR:m<=60):Wp (qX [a9 p,.int (m:Int)] st) fun d st'=>Ex [] st st'/\((aM d st'=false/\∃N,qI n p N m/\d=n8 (ae.ch n p N) N)\/(aM d st'=true/\wu n p m/\∃e,d=.ref e/\st'[e]?=some (.exc "TooMany" [("most",.int (m:Int))]))):=by
 refine bB (U3 w0 n0 hn m1 sR) ?_;rintro d s1 ⟨k1,⟨N,h1,h2,h3,rfl⟩|⟨i,e,h1,h2,rfl,h3⟩⟩
 ·exact ⟨k1,.inl ⟨rfl,N,⟨h1,h2,h3⟩,rfl⟩⟩
 ·exact ⟨k1,.inr ⟨by simp [aM,h3],⟨i,h1,h2⟩,e,rfl,h3⟩⟩
def jQ:D->Option Nat
 |.non=>some 60
 |.int k=>if 1<=k/\k<=60 then some k.toNat else none
 |_=>none
theorem U6{n m:Nat}{p:ae.aV}{dm:D}{st:Store}(w0:ae.Wh n p)(n0:0<n)(hn:n<=20)(hm:jQ dm=some m):Wp (Aq [a9 p,dm] st) fun d st'=>Ex [] st st'/\((∃N,qI n p N m/\d=.tup [.str "told",n8 (ae.ch n p N) N])\/(wu n p m/\d=.tup [.str "refused",.int (m:Int)])):=by
 refine jv ?_;show Ws (F0 [some (a9 p),some dm,none,none,none] st) _ _ _ _;unfold F0;refine aX (b8 ?_);kspl_open hQ;refine hQ _ _ (aX (y6 (ju ?_)));clear hQ;have m1:1<=m/\m<=60:=by
  cases dm<;>simp only [jQ] at hm<;>first|(cases hm;decide)|(split at hm<;>cases hm<;>omega)|cases hm
 have hand:∀ (s1:Store) (e:Nat) (v1:Option D),Ex [] st s1->wu n p m->s1[e]?=some (.exc "TooMany" [("most",.int (m:Int))]) ->
   Ws ((ay (aG (fC (.str "other")) (hName 2))
 (ay (aG (mx (my "TooMany" false) (ag 3)) (hName 4))
 (fK (mh (aC (mx (my "TooMany" true) (ag 3))) (mh (aC (mx (my "TooMany" true) (ag 3))) (se (aC (ag 4))))) (aG (bS (af (fC (.str "refused")) (af (oK (nE "TooMany") "most" (ag 3)) ah))) (hName 2)) aW))) [some (a9 p),v1,some .non,some (.ref e),none] s1) (fun δ2 s2=>Ws (bI (ag 2) (δ2.set 3 none) s2) (fun _ st1=>Ex [] st st1/\((∃N,qI n p N m/\D.non=.tup [.str "told",n8 (ae.ch n p N) N])\/(wu n p m/\D.non=.tup [.str "refused",.int (m:Int)]))) (fun _ _=>False) (fun _ _=>False) (fun d st'=>Ex [] st st'/\((∃N,qI n p N m/\d=.tup [.str "told",n8 (ae.ch n p N) N])\/(wu n p m/\d=.tup [.str "refused",.int (m:Int)])))) (fun _ _=>False) (fun _ _=>False) (fun d st'=>Ex [] st st'/\((∃N,qI n p N m/\d=.tup [.str "told",n8 (ae.ch n p N) N])\/(wu n p m/\d=.tup [.str "refused",.int (m:Int)]))):=by
  intro s1 e v1 k1 hg he;refine aX (b8 ?_);kspl_open hQ;refine hQ _ _ (aX (b8 ?_));clear hQ;refine cB ?_;intro gf hQ
  set_option simprocs false in simp only [bJ,Mv]
  refine y4 he (hQ _ _ (ju ?_));clear hQ;refine cB ?_;intro gf hQ
  set_option simprocs false in simp only [bJ,Mv]
  refine y4 he ⟨_,rfl,?_⟩;simp only [if_true];refine y4 he ⟨_,rfl,?_⟩;simp only [if_true];refine hQ _ _ ⟨fun _=>b8 ?_,fun z=>(nomatch z)⟩;clear hQ;kspl_open hQ;refine SV ?_
  w_how
  refine CY he rfl ⟨rfl,hQ _ _ (gQ ?_)⟩;clear hQ;kspl_open hQ;exact hQ _ _ ⟨k1,.inr ⟨hg,rfl⟩⟩
 kspl_open hQ;cases dm with
 |non =>
  cases hm;rw [Mf];refine ⟨_,rfl,hQ _ _ ⟨fun _=>?_,fun z=>(nomatch z)⟩⟩;clear hQ;refine MB ?_;refine ⟨_,_,rfl,?_⟩;refine bB (sS w0 n0 hn m1.1 m1.2) ?_;rintro d s1 ⟨k1,⟨hr,N,hW,rfl⟩|⟨hr,hg,e,rfl,he⟩⟩
  ·refine ⟨fun z=>?_,fun _=>?_⟩
   ·rw [hr] at z;cases z
   ·refine gQ ?_
    kspl_open bR;exact bR _ _ ⟨k1,.inl ⟨N,hW,rfl⟩⟩
  ·refine ⟨fun _=>⟨fun z=>?_,fun _=>⟨?_,hand s1 e _ k1 hg he⟩⟩,fun z=>?_⟩
   ·rw [hr] at z;cases z
   ·simp [catches,he,nE]
   ·rw [hr] at z;cases z
 |int k =>
  have hk:(m:Int)=k:=by
   simp only [jQ] at hm;split at hm
   ·cases hm;omega
   ·cases hm
  subst hk;rw [Sz];refine ⟨_,rfl,hQ _ _ ⟨fun z=>(nomatch z),fun _=>?_⟩⟩;clear hQ;refine MB ?_;refine ⟨_,_,rfl,?_⟩;refine bB (sS w0 n0 hn m1.1 m1.2) ?_;rintro d s1 ⟨k1,⟨hr,N,hW,rfl⟩|⟨hr,hg,e,rfl,he⟩⟩
  ·refine ⟨fun z=>?_,fun _=>?_⟩
   ·rw [hr] at z;cases z
   ·refine gQ ?_
    kspl_open bR;exact bR _ _ ⟨k1,.inl ⟨N,hW,rfl⟩⟩
  ·refine ⟨fun _=>⟨fun z=>?_,fun _=>⟨?_,hand s1 e _ k1 hg he⟩⟩,fun z=>?_⟩
   ·rw [hr] at z;cases z
   ·simp [catches,he,nE]
   ·rw [hr] at z;cases z
 |bl _=>cases hm
 |str _=>cases hm
 |tup _=>cases hm
 |ref _=>cases hm
 |ty _=>cases hm
theorem Ee{i:Int}(h:i.natAbs<4294967296):C3 i:=by
 unfold C3
 by_cases z:i.natAbs=0
 ·rw [z];decide
 ·exact (Nat.log2_lt z).mpr (Nat.lt_trans h (by set_option exponentiation.threshold 3000 in decide))
theorem wx{s:g9}(h:s.2.natAbs<=100):pH 2 (b5 s)/\L2.wD (cu 2 (b5 s))<=3849:=by
 have rs:∀b:Bool,pH 1 (.str (if b=true then "s" else "t"))/\L2.wD (cu 1 (.str (if b=true then "s" else "t")))<=1921:=fun b=>by
  cases b
  ·exact ⟨⟨by w_fin,by w_fin⟩,by w_fin⟩
  ·exact ⟨⟨by w_fin,by w_fin⟩,by w_fin⟩
 have gi:C3 s.2:=Ee (by omega);refine ⟨fun d hd=>?_,?_⟩
 ·simp only [VZ,WE,or_false] at hd
  rcases hd with rfl|rfl
  ·exact (rs s.1).1
  ·exact gi
 ·refine V3 (C4 (b:=1921) (n:=1) (ds:=[.str (if s.1=true then "s" else "t"),.int s.2]) fun d hd=>?_) (by show 2*(1921+2)+3<=_;decide)
  simp only [VZ,WE,or_false] at hd;rcases hd with rfl|rfl
  ·exact (rs s.1).2
  ·rw [MH];exact VC _
theorem Nd{n:Nat}{xs:List Int}(tx:ae.Tn n xs)(hn:n<=6):pH 2 (.tup (xs.map D.int))/\L2.wD (cu 2 (.tup (xs.map D.int)))<=11541:=by
 refine ⟨fun d hd=>?_,?_⟩
 ·obtain ⟨i,hi,rfl⟩:=VO.mp hd
  have:=tx.bound hi;exact Ee (by omega)
 ·have:=C4 (n:=1) (b:=1921) (ds:=xs.map D.int) fun d hd=>by
   obtain ⟨i,hi,rfl⟩:=VO.mp hd;rw [MH];exact VC _
  rw [Vz,tx.length] at this;have h:n*(1921+2)<=6*(1921+2):=Nat.mul_le_mul_right _ hn;exact V3 this (by omega)
theorem zx{n:Nat}{q:ae.aV}{w:List g9}{l:Nat×Nat}(v:ae.Vf n q)(hn:n<=6)(hw:∀s∈w,s.2.natAbs<=100)(wl:w.length<=60)(l1:l.1<100)(l2:l.2<100):pH 4 (sQ q w l)/\L2.wD (cu 4 (sQ q w l))<=258010:=by
 have f1:=Nd v.1 hn;have f2:=Nd v.2 hn;have rf:pH 3 (a9 q)/\L2.wD (cu 3 (a9 q))<=23089:=by
  refine ⟨fun d hd=>?_,?_⟩
  ·simp only [VZ,WE,or_false] at hd
   rcases hd with rfl|rfl
   ·exact f1.1
   ·exact f2.1
  ·refine V3 (C4 (b:=11541) (n:=2) (ds:=[.tup (q.1.map D.int),.tup (q.2.map D.int)]) fun d hd=>?_) (by show 2*(11541+2)+3<=_;decide)
   simp only [VZ,WE,or_false] at hd;rcases hd with rfl|rfl
   ·exact f1.2
   ·exact f2.2
 have rw':pH 3 (wD w)/\L2.wD (cu 3 (wD w))<=231063:=by
  refine ⟨fun d hd=>?_,?_⟩
  ·obtain ⟨s,hs,rfl⟩:=VO.mp hd
   exact (wx (hw s hs)).1
  ·have:=C4 (n:=2) (b:=3849) (ds:=w.map b5) fun d hd=>by
    obtain ⟨s,hs,rfl⟩:=VO.mp hd;exact (wx (hw s hs)).2
   rw [Vz] at this;have h:w.length*(3849+2)<=60*(3849+2):=Nat.mul_le_mul_right _ wl;exact V3 this (by omega)
 refine ⟨fun d hd=>?_,?_⟩
 ·simp only [VZ,WE,or_false] at hd
  rcases hd with rfl|rfl|rfl|rfl
  ·exact rf.1
  ·exact rw'.1
  ·exact Ee (by omega)
  ·exact Ee (by omega)
 ·have e:cu 4 (sQ q w l)=.tuple [cu 3 (a9 q),cu 3 (wD w),.int (l.1:Int),.int (l.2:Int)]:=rfl
  rw [e];simp only [L2.wD,ma];have a:=rf.2;have b:=rw'.2;omega
theorem Ji{N:Nat}(h:N<=60):N*(258010+2)+3<=15480723:=by omega
theorem Nf{n N m:Nat}{p:ae.aV}(hn:n<=6)(h:qI n p N m)(sR:m<=60):pH 5 (n8 (ae.ch n p N) N)/\L2.wD (cu 5 (n8 (ae.ch n p N) N))<=15480723:=by
 obtain ⟨hN,F,_⟩:=h;generalize ae.ch n p N=C at F;have row:∀k,k<N->pH 4 (sQ (C.1.getD k ([],[])) (C.2.1.getD k []) (C.2.2.getD k (0,0)))/\L2.wD (cu 4 (sQ (C.1.getD k ([],[])) (C.2.1.getD k []) (C.2.2.getD k (0,0))))<=258010:=fun k hk=>by
  have ef:=dh (d:=(([],[]):ae.aV)) (show k<C.1.length by rw [F.fl];exact hk);have ew:=dh (d:=([]:List g9)) (show k<C.2.1.length by rw [F.r.wl,F.fl];exact hk);have el:=dh (d:=((0,0):Nat×Nat)) (show k<C.2.2.length by rw [F.ll];exact hk);obtain ⟨_,lw,nw,_⟩:=F.r.wd k _ ew;obtain ⟨_,_,h1,h2⟩:=F.ld k _ el;have l1:=(VA.mp h1).1;have l2:=(VA.mp h2).1;rw [F.fl] at l1 l2;exact zx (F.r.own _ (VI ef)).1.v hn (fun s hs=>by have:=nw s hs;omega) (by omega) (by omega) (by omega)
 refine ⟨fun d hd=>?_,?_⟩
 ·obtain ⟨k,hk,rfl⟩:=VO.mp hd
  exact (row k (WL.mp hk)).1
 ·have:=C4 (n:=4) (b:=258010) (ds:=(List.range N).map fun k=>sQ (C.1.getD k ([],[])) (C.2.1.getD k []) (C.2.2.getD k (0,0))) fun d hd=>by
   obtain ⟨k,hk,rfl⟩:=VO.mp hd;exact (row k (WL.mp hk)).2
  rw [Vz,List.length_range] at this;exact V3 this (Ji (by omega))
theorem U7{n N m:Nat}{p:ae.aV}(hn:n<=6)(h:qI n p N m)(sR:m<=60):pH 6 (.tup [.str "told",n8 (ae.ch n p N) N])/\L2.wD (cu 6 (.tup [.str "told",n8 (ae.ch n p N) N]))<=16777216:=by
 have c:=Nf hn h sR;refine ⟨fun d hd=>?_,?_⟩
 ·simp only [VZ,WE,or_false] at hd
  rcases hd with rfl|rfl
  ·exact ⟨by w_fin,by w_fin⟩
  ·exact c.1
 ·have e:cu 6 (.tup [.str "told",n8 (ae.ch n p N) N])=.tuple [.str "told",cu 5 (n8 (ae.ch n p N) N)]:=rfl
  rw [e];simp only [L2.wD,ma];have a:=c.2;have b:(reprText (Str.ofString "told")).length<=10:=by w_fin
  omega
theorem Ng{m:Nat}(sR:m<=60):pH 6 (.tup [.str "refused",.int (m:Int)])/\L2.wD (cu 6 (.tup [.str "refused",.int (m:Int)]))<=16777216:=by
 refine ⟨fun d hd=>?_,?_⟩
 ·simp only [VZ,WE,or_false] at hd
  rcases hd with rfl|rfl
  ·exact ⟨by w_fin,by w_fin⟩
  ·exact Ee (by omega)
 ·have e:cu 6 (.tup [.str "refused",.int (m:Int)])=.tuple [.str "refused",.int (m:Int)]:=rfl
  rw [e];simp only [L2.wD,ma];have b:(reprText (Str.ofString "refused")).length<=20:=by w_fin
  omega
def Due(n:Nat)(p:ae.aV)(dd:D)(many:Nat):Prop:=(∃N,qI n p N 60/\dd=n8 (ae.ch n p N) N/\many=N)\/(wu n p 60/\dd=.non/\many=61)
theorem U8{st:Store}{f:Nat}(hf:bT st f):Wp (Dq [.ref f] st) fun d st'=>∃(n:Nat) (p:ae.aV) (dd:D) (many r:Nat) (ms:List D),d=.tup [a9 p,dd,.int (many:Int),.ref r]/\ae.Wh n p/\0<n/\n<=6/\Due n p dd many/\st'[r]?=some (.lst ms)/\(∀x∈ms,∃m,jQ x=some m)/\ms.length<=4/\st.length<=r/\Ex [f] st st':=by
 refine jv ?_;show Ws (Fx [some (.ref f),none,none,none,none,none] st) _ _ _ _;unfold Fx;refine aX (b8 ?_);kspl_open hQ;refine bB (Ar (n:=5) hf (by decide) (by decide)) ?_;rintro d t1 ⟨k1,rfl,Vr,Vs,f1,e1⟩
 w_how
 refine ⟨rfl,?_⟩;have f2:bT (t1 ++ [O.lst [D.int (1+k1),D.int 6]]) f:=f1.keep (Ex.cV _);have i2:(t1 ++ [O.lst [D.int (1+k1),D.int 6]])[t1.length]?=some (.lst [D.int (1+k1),D.int 6]):=g8;have e2:Ex [f] st (t1 ++ [O.lst [D.int (1+k1),D.int 6]]):=e1.app _;have lf:=f1.lt;have hne:t1.length≠f:=by omega
 generalize t1 ++ [O.lst [D.int (1+k1),D.int 6]]=t2 at f2 i2 e2 ⊢;generalize t1.length=r at i2 hne ⊢;refine bB (Ar (n:=8) f2 (by decide) (by decide)) ?_;rintro d t3 ⟨k2,rfl,Vt,Vu,f3,e3⟩;have i3:items t3 r=some [D.int (1+k1),D.int 6]:=bC (e3.keep _ _ i2 (by simp;exact hne))
 set_option simprocs false in simp only [bJ,i3]
 obtain ⟨n,x,hx,ex,n0,n6⟩:∃(n:Nat) (x:D),eo [D.int (1+k1),D.int 6] (k2 / 7)=some x/\x=.int (n:Int)/\0<n/\n<=6:=by
  rcases (show k2 / 7=0\/k2 / 7=1 by omega) with h|h
  ·rw [h];exact ⟨(1+k1).toNat,_,rfl,by rw [V2 (by omega)],by omega,by omega⟩
  ·rw [h];exact ⟨6,_,rfl,rfl,by decide,by decide⟩
 refine ⟨by decide,x,hx,hQ _ _ (aX (b8 ?_))⟩;rw [ex];clear hx ex hQ;kspl_open hQ;refine bB (Uk (n:=n) f3 (by omega) (by omega)) ?_;rintro d t4 ⟨xs,ys,rfl,fl,f4,e4⟩;have w4:=UU fl;refine hQ _ _ (aX (b8 ?_));clear hQ;kspl_open hQ;rw [show (D.int 60)=.int ((60:Nat):Int) from rfl];refine bB (U0 (p:=(xs,ys)) (most:=60) w4 n0 (by omega) (by decide) (by decide)) ?_;rintro d t5 ⟨e5,hc⟩;have f5:=f4.keep e5;have U9:Ex [f] st t5:=((e2.trans e3).trans e4).trans e5.any;refine hQ _ _ (aX (b8 ?_));clear hQ;kspl_open hQ;refine hQ _ _ ?_;clear hQ;have ep:bY xs ys=a9 (xs,ys):=rfl;rw [ep];generalize ((xs,ys):ae.aV)=p at w4 hc ⊢;refine aX (uB (N:=fun δ s=>∃many:Nat,δ=[some (.ref f),some (.int (n:Int)),some (a9 p),some d,some (.int (many:Int)),none]/\many<=61/\Due n p d many/\s=t5) (ju ?_) ?_)
 ·kspl_open hQ
  rcases hc with ⟨N,h1,h2,h3,rfl⟩|⟨rfl,i,h1,h2⟩
  ·obtain ⟨ds,Va⟩:∃ds,n8 (ae.ch n p N) N=.tup ds:=⟨_,rfl⟩
   rw [Va,SA];refine ⟨_,rfl,hQ _ _ ⟨fun _=>b8 ?_,fun z=>(nomatch z)⟩⟩;clear hQ;kspl_open hQ;refine ⟨_,rfl,?_⟩;rw [Vz,List.length_range];exact hQ _ _ ⟨N,rfl,by omega,.inl ⟨N,⟨h1,h2,h3⟩,rfl,rfl⟩,rfl⟩
  ·rw [Mf]
   exact ⟨_,rfl,hQ _ _ ⟨fun z=>(nomatch z),fun _=>ko ⟨61,rfl,by omega,.inr ⟨⟨i,h1,h2⟩,rfl,rfl⟩,rfl⟩⟩⟩
 rintro δ s ⟨many,rfl,Vv,due,rfl⟩;have many1:1<=many:=by
  rcases due with ⟨N,hW,_,rfl⟩|⟨_,_,rfl⟩
  ·have:=hW.2.1.fl
   have:=(VA.mp hW.2.1.r.hd).1;omega
  ·decide
 refine aX (b8 ?_);kspl_open hQ;refine bB (Ar (n:=60) f5 (by decide) (by decide)) ?_;rintro d t6 ⟨k6,rfl,Vw,Vx,f6,e6⟩
 w_how
 refine ⟨rfl,hQ _ _ (gQ ?_)⟩;clear hQ;obtain ⟨r6,t7,er,et,l7,e7⟩:∃(r6:Nat) (t7:Store),t6.length=r6/\t6 ++ [O.lst [D.non,D.int (if (many:Int)<60 then (many:Int) else 60),D.int (if (many:Int)-1 > 1 then (many:Int)-1 else 1),D.int (1+k6)]]=t7/\t7[r6]?=some (.lst [D.non,D.int (if (many:Int)<60 then (many:Int) else 60),D.int (if (many:Int)-1 > 1 then (many:Int)-1 else 1),D.int (1+k6)])/\Ex [f] st t7:=⟨_,_,rfl,rfl,g8,(U9.trans e6).app _⟩;rw [er,et];have good:∀x∈[D.non,D.int (if (many:Int)<60 then (many:Int) else 60),D.int (if (many:Int)-1 > 1 then (many:Int)-1 else 1),D.int (1+k6)],∃m,jQ x=some m:=by
  have gi:∀k:Int,1<=k->k<=60->∃m,jQ (.int k)=some m:=fun k h1 h2=>⟨k.toNat,by show (if 1<=k/\k<=60 then some k.toNat else none)=_;rw [if_pos ⟨h1,h2⟩]⟩;intro x hx;simp only [VZ,WE,or_false] at hx;rcases hx with rfl|rfl|rfl|rfl
  ·exact ⟨60,rfl⟩
  ·refine gi _ ?_ ?_<;>split<;>omega
  ·refine gi _ ?_ ?_<;>split<;>omega
  ·exact gi _ (by omega) (by omega)
 generalize [D.non,D.int (if (many:Int)<60 then (many:Int) else 60),D.int (if (many:Int)-1 > 1 then (many:Int)-1 else 1),D.int (1+k6)]=L at l7 good;kspl_open hQ;obtain ⟨c,hc,c0⟩:∃c:Nat,eo [D.int 4,D.int 3] (if decide (20<(many:Int))=true then 1 else 0)=some (.int (c:Int))/\c<=4:=by
  split
  ·exact ⟨3,rfl,by decide⟩
  ·exact ⟨4,rfl,by decide⟩
 refine ⟨rfl,_,hc,_,rfl,L,bC (jF l7),rfl,hQ _ _ ⟨n,p,d,many,_,_,rfl,w4,n0,n6,due,g8,fun x hx=>good x (Sl hx),?_,?_,(e7.app _).app _⟩⟩
 ·rw [L9,WD];omega
 ·have:=(e7.app [O.lst [D.int 4,D.int 3]]).len
  exact this
theorem Vb{s:Store}{n m many:Nat}{p:ae.aV}{dd x:D}{v0 v1 v2 v6 v8:Option D}{Nx B Co:ai->Store->Prop}{R:D->Store->Prop}(w0:ae.Wh n p)(n0:0<n)(n6:n<=6)(due:Due n p dd many)(hm:jQ x=some m)
  (hN:∀(s':Store) (v8:Option D),Ex [] s s'->Nx [v0,v1,v2,some (a9 p),some dd,some (.int (many:Int)),v6,some x,v8] s') :
  Ws ((ay (aG (bS (af (fC (.str "told")) (af (ag 4) ah))) (hName 8))
 (ay (fK (aC (aD sg (ag 5) (oM (ag 7) (fC (.int 60))))) (aG (bS (af (fC (.str "refused")) (af (oM (ag 7) (fC (.int 60))) ah))) (hName 8)) aW)
 (fK (aC (aD (kU true) (aN jM (af (aN Aq (af (ag 3) (af (ag 7) ah))) ah)) (aN jM (af (ag 8) ah)))) (bI (fC (.bl false))) aW))) [v0,v1,v2,some (a9 p),some dd,some (.int (many:Int)),v6,some x,v8] s) Nx B Co R:=by
 have sR:1<=m/\m<=60:=by
  cases x<;>simp only [jQ] at hm<;>first|(cases hm;decide)|(split at hm<;>cases hm<;>omega)|cases hm
 have Nh:∀{s:Store} {v8:Option D} {Q:D->Store->Prop},Q (.int (m:Int)) s->Wp (oM (ag 7) (fC (.int 60)) [v0,v1,v2,some (a9 p),some dd,some (.int (many:Int)),v6,some x,v8] s) Q:=fun {s v8 Q} q=>by
  refine zd ⟨x,s,rfl,?_⟩;cases x<;>simp only [jQ] at hm<;>first|(cases hm;exact .inl ⟨rfl,⟨_,_,rfl,q⟩⟩)|cases hm|skip
  next k =>
   split at hm
   ·cases hm
    refine .inr ⟨k,rfl,by omega,?_⟩;rw [V2 (by omega)] at q;exact q
   ·cases hm
 refine aX (b8 ?_);kspl_open hQ;refine ⟨rfl,hQ _ _ ?_⟩;clear hQ;refine aX (uB (N:=fun δ s'=>s'=s/\∃dw,δ=[v0,v1,v2,some (a9 p),some dd,some (.int (many:Int)),v6,some x,some dw]/\((many<=m/\dw=.tup [.str "told",dd])\/(m<many/\dw=.tup [.str "refused",.int (m:Int)]))) (ju ?_) ?_)
 ·kspl_open hQ
  refine Nh ?_
  w_how
  refine hQ _ _ ⟨fun z=>b8 ?_,fun z=>ko ⟨rfl,_,rfl,.inl ⟨?_,rfl⟩⟩⟩
  ·have z:=of_decide_eq_true z
   clear hQ;kspl_open hQ;refine Nh ⟨rfl,hQ _ _ ⟨rfl,_,rfl,.inr ⟨by omega,rfl⟩⟩⟩
  ·have:=of_decide_eq_false z
   omega
 rintro δ s' ⟨rfl,dw,rfl,Jj⟩;refine ju ?_;kspl_open hQ;refine bB (U6 w0 n0 (by omega) hm) ?_;rintro d s1 ⟨k1,hd⟩;have key:d=dw/\pH 6 d/\L2.wD (cu 6 d)<=16777216:=by
  rcases due with ⟨N,hW,rfl,rfl⟩|⟨hg,rfl,rfl⟩
  ·rcases hd with ⟨N',hW',rfl⟩|⟨hg,rfl⟩
   ·have e:=Nc hW' hW
    subst e;rcases Jj with ⟨_,rfl⟩|⟨h,_⟩
    ·exact ⟨rfl,U7 n6 hW' sR.2⟩
    ·have:=hW'.1;omega
   ·have:=Jh n0 w0 hW hg
    rcases Jj with ⟨h,_⟩|⟨_,rfl⟩
    ·omega
    ·exact ⟨rfl,Ng sR.2⟩
  ·rcases hd with ⟨N',hW',rfl⟩|⟨_,rfl⟩
   ·have:=Jh n0 w0 hW' hg
    have:=hW'.1;omega
   ·rcases Jj with ⟨h,_⟩|⟨_,rfl⟩
    ·omega
    ·exact ⟨rfl,Ng sR.2⟩
 obtain ⟨rfl,h1,h2⟩:=key;rw [MG h1 (by decide) h2,MG h1 (by decide) h2]
 w_how
 exact hQ _ _ ⟨fun z=>absurd z (by simp),fun _=>ko (hN _ _ k1)⟩
structure Bn where
 n:Nat
 p:ae.aV
 dd:D
 many:Nat
 r:Nat
 ms:List D
def zy(e:Bn):D:=.tup [a9 e.p,e.dd,.int (e.many:Int),.ref e.r]
structure sT(s:Store)(g:Nat)(e:Bn):Prop where
 w:ae.Wh e.n e.p
 n0:0<e.n
 n6:e.n<=6
 due:Due e.n e.p e.dd e.many
 l:s[e.r]?=some (.lst e.ms)
 ms:∀x∈e.ms,∃m,jQ x=some m
 few:e.ms.length<=4
 gr:g<e.r
theorem sT.keep{s s':Store}{g:Nat}{e:Bn}(h:sT s g e)(k:Ex [] s s'):sT s' g e:=⟨h.w,h.n0,h.n6,h.due,k.keep _ _ h.l (by simp),h.ms,h.few,h.gr⟩
theorem Jk(ns:List Int):∃m:Nat,(2:Int)+((cutD (ns.map D.int) (some 1) (some 2)).length:Int)=(m:Int)+1/\1<=m/\m<=10:=by
 have h:(cutD (ns.map D.int) (some 1) (some 2)).length<=1:=by
  unfold cutD;rw [WD,List.length_drop];have a:HT.cx (ns.map D.int).length 0 (some 1)=min 1 (ns.map D.int).length:=HT.GG _ _ 1;have b:HT.cx (ns.map D.int).length (ns.map D.int).length (some 2)=min 2 (ns.map D.int).length:=HT.GG _ _ 2;rw [a,b];omega
 exact ⟨(cutD (ns.map D.int) (some 1) (some 2)).length+1,by omega,by omega,by omega⟩
theorem sU(ns:List Int)(hns:ns.length<=63):Wp (IK [.ref 0] [.oB (ns.map D.int)]) fun d _=>d=.bl true:=by
 refine jv ?_;show Ws (F3 [some (.ref 0),none,none,none,none,none,none,none,none] [.oB (ns.map D.int)]) _ _ _ _;unfold F3;have Gh:([O.oB (ns.map D.int)]:Store)[0]?=some (.oB (ns.map D.int)):=rfl;generalize ([O.oB (ns.map D.int)]:Store)=kn at Gh;refine aX (b8 ?_);kspl_open hQ;refine ⟨rfl,hQ _ _ ?_⟩;clear hQ;obtain ⟨g,s0,eg,es,hg,h01,g0⟩:∃(g:Nat) (s0:Store),kn.length=g/\kn ++ [O.lst []]=s0/\s0[g]?=some (.lst (([]:List Bn).map zy))/\s0[0]?=some (.oB (ns.map D.int))/\0<g:=⟨_,_,rfl,rfl,g8,jF Gh,eB Gh⟩;rw [eg,es];clear eg es Gh;obtain ⟨m,hm,m1,Vc⟩:=Jk ns;refine aX (n5 (aB 1 m) (fun i δ s=>∃(v2:Option D) (es:List Bn),δ=[some (.ref 0),some (.ref g),v2,none,none,none,none,none,none]/\s[0]?=some (.oB (ns.map D.int))/\s[g]?=some (.lst (es.map zy))/\es.length=i/\∀e∈es,sT s g e) ?_ (by rw [iN];omega) ?_ ?_)
 ·refine cB ?_
  intro gf hQ
  set_option simprocs false in simp only [bJ,LW h01]
  rw [hm];exact ⟨1,(m:Int)+1,⟨rfl,rfl⟩,⟨⟨by decide,by decide⟩,by omega,by omega⟩,hQ _ _ ⟨by rw [show ((m:Int)+1-1).toNat=m by omega],_,[],rfl,jF h01,jF hg,rfl,(fun e he=>nomatch he)⟩⟩
 ·rintro i d δ s hd ⟨v2,es,rfl,h0,hg,le,hes⟩
  have hil:=eB hd;rw [iN] at hil;rw [ya hil] at hd;cases hd;kspl_open hQ;refine hQ _ _ (pE ?_);clear hQ;kspl_open hQ;refine ⟨mS (by rw [bC hg];rfl),?_⟩;rw [show (1:Int)+(i:Int)=((1+i:Nat):Int) by omega];refine bB (Ug (a:=0) (ns:=ns) (k:=1+i) (LW h0) (by omega)) ?_;rintro d s1 ⟨rfl,f1,k1⟩;have h01:=k1.keep _ _ h0 (by simp);have Ef:=k1.keep _ _ hg (by simp);have hgf:g<s.length:=eB hg;have Vd:=f1.lt;have frs:∀e∈es,e.r≠s.length:=fun e he=>by have:=eB (hes e he).l;omega
  generalize s.length=f at f1 hgf Vd frs;refine bB (U8 f1) ?_;rintro d s2 ⟨n,p,dd,many,r,ms,rfl,w0,n0,n6,due,lr,hms,few,Vy,k2⟩;have h02:=k2.keep _ _ h01 (by simp;omega);have Au:=k2.keep _ _ Ef (by simp;omega)
  set_option simprocs false in simp only [bJ,kq Au]
  refine ⟨jO (by rw [Vz];omega),hQ _ _ ⟨_,es ++ [⟨n,p,dd,many,r,ms⟩],rfl,?_,?_,by rw [VE,le];rfl,fun e he=>?_⟩⟩
  ·rw [VF (by omega)];exact h02
  ·rw [VG (eB Au),VW];rfl
  ·rcases V9.mp he with h|h
   ·have o:=hes e h
    have l2:=k2.keep _ _ (k1.keep _ _ o.l (by simp)) (by simp;exact frs e h);exact ⟨o.w,o.n0,o.n6,o.due,by rw [VF (by have:=o.gr;omega)];exact l2,o.ms,o.few,o.gr⟩
   ·rw [VY.mp h]
    exact ⟨w0,n0,n6,due,by rw [VF (show g≠r by omega)];exact lr,hms,few,by show g<r;omega⟩
 ·rintro δ s ⟨v2,es,rfl,h0,hg,le,hes⟩
  rw [iN] at le;refine aX (E9 (es.map zy) g (fun i δ s'=>∃(v3 v4 v5 v6 v7 v8:Option D),δ=[some (.ref 0),some (.ref g),v2,v3,v4,v5,v6,v7,v8]/\s'[g]?=some (.lst (es.map zy))/\∀e∈es,sT s' g e) ?_ (by rw [Vz];omega) ?_ ?_ ?_)
  ·kspl_open hQ
   exact ⟨_,bC hg,hQ _ _ ⟨rfl,_,_,_,_,_,_,rfl,hg,hes⟩⟩
  ·rintro i δ s' ⟨v3,v4,v5,v6,v7,v8,rfl,h,_⟩
   exact bC h
  ·rintro i d δ s1 hd ⟨v3,v4,v5,v6,v7,v8,rfl,Ef,uR⟩
   obtain ⟨e,he,rfl⟩:=VO.mp (VI hd);have o:=uR e he;unfold zy;kspl_open hQ;refine ⟨rfl,hQ _ _ ?_⟩;clear hQ;refine E9 e.ms e.r (fun i δ s'=>∃(v7 v8:Option D),δ=[some (.ref 0),some (.ref g),v2,some (a9 e.p),some e.dd,some (.int (e.many:Int)),some (.ref e.r),v7,v8]/\s'[e.r]?=some (.lst e.ms)/\Ex [] s1 s') ?_ (by have:=o.few;omega) ?_ ?_ ?_
   ·kspl_open hQ
    exact ⟨_,bC o.l,hQ _ _ ⟨rfl,_,_,rfl,o.l,Ex.refl⟩⟩
   ·rintro i δ s' ⟨v7,v8,rfl,h,_⟩
    exact bC h
   ·rintro i x δ s2 hx ⟨v7,v8,rfl,l2,k2⟩
    obtain ⟨m,hm⟩:=o.ms x (VI hx);kspl_open hQ;exact hQ _ _ (Vb o.w o.n0 o.n6 o.due hm fun s' v8 k'=>⟨_,_,rfl,k'.keep _ _ l2 (by simp),k2.trans k'⟩)
   ·rintro δ s2 ⟨v7,v8,rfl,l2,k2⟩
    exact ⟨_,_,_,_,_,_,rfl,k2.keep _ _ Ef (by simp),fun e he=>(uR e he).keep k2⟩
  ·rintro δ s1 ⟨v3,v4,v5,v6,v7,v8,rfl,Ef,uR⟩
   cases es with
   |nil=>simp at le;omega
   |cons e es =>
    have o:=uR e VN;refine aX (tN ?_);refine cB ?_;intro gf hQ
    set_option simprocs false in simp only [bJ,bC Ef]
    refine ⟨_,qY (g:=zy) (k:=0) (p:=e) rfl,hQ _ _ ?_⟩;clear hQ;unfold zy;kspl_open hQ;refine ⟨rfl,hQ _ _ (gQ ?_)⟩;clear hQ;refine cB ?_;intro gf hQ
    set_option simprocs false in simp only [bJ,LR]
    by_cases Ni:(20:Int)<(e.many:Int)
    ·simp only [gt_iff_lt,Ni,decide_true,if_true]
     exact hQ _ _ rfl
    ·simp only [gt_iff_lt,Ni,decide_false,Wr,if_false]
     show Wp (CZ qX [a9 e.p,.int ((60:Nat):Int)] s1) _;rw [y9];refine bB (sS o.w o.n0 (by have:=o.n6;omega) (m:=60) (by decide) (by decide)) ?_;rintro d s2 ⟨k2,⟨hr,N,hW,rfl⟩|⟨hr,hg,e',rfl,he⟩⟩
     ·refine ⟨hr,?_⟩
      rcases o.due with ⟨N',hW',Nj,sW⟩|⟨hg,_,sW⟩
      ·have e1:=Nc hW hW'
       subst e1;rw [Nj];have pu:=IH _ _ (Nf o.n6 hW (by decide)).1;rw [yU (n:=5) pu pu (by decide)];exact hQ _ _ (by simp)
      ·omega
     ·rcases o.due with ⟨N',hW',Nj,sW⟩|⟨_,_,sW⟩
      ·have:=Jh o.n0 o.w hW' hg
       omega
      ·omega
theorem zz{P:Program}{w:World}{K:Zfr}{mg:Str->Option Value}{base:Heap}(T:Txt mg){ax aJ bD b6 cR bE bF b7 cI:Addr}(Z:XF K mg ax aJ bD b6 cR bE bF b7 cI){lW:V}(kA:sZ K mg "QUARTER" lW (.tup [(.str "t"),(.int 1)])){pJ:V}(nO:sZ K mg "SHEAR" pJ (.tup [(.str "s"),(.int 1)])){bN:Addr}{bO:FuncData}(aY:Def K mg "_law_take" ze ["_law_feed_here","_law_many"] bN bO){dE:Addr}{dF:FuncData}(cN:Def K mg "_law_turning" C8 ["_law_feed_here","_law_n"] dE dF){jw:Addr}{jx:FuncData}(gK:Def K mg "_law_met" C9 ["_law_floor_here"] jw jx){fQ:Addr}{fR:FuncData}(fS:Def K mg "_law_floor" De ["_law_feed_here","_law_n"] fQ fR){c7:Addr}{c9:FuncData}(dc:Def K mg "_law_numbered" Dg ["_law_floor_here","_law_s"] c7 c9){hV:Addr}{h7:FuncData}(ft:Def K mg "_law_form" Dh ["_law_floor_here"] hV h7){eC:Addr}{eE:FuncData}(eG:Def K mg "_law_behind" Dj ["_law_turning_here","_law_s","_law_k"] eC eE){dH:Addr}{dJ:FuncData}(dM:Def K mg "_law_stepped" Dk ["_law_floor_here","_law_step"] dH dJ){fN:Addr}{fO:FuncData}(fP:Def K mg "_law_plain" Dl ["_law_word"] fN fO){fT:Addr}{fU:FuncData}(fV:Def K mg "_law_chart" Dp ["_law_floor_here","_law_most"] fT fU){dU:Addr}{dW:FuncData}(dX:Def K mg "_law_bounded" Dr ["_law_feed_here"] dU dW){a6:Addr}{a7:FuncData}(a8:Def K mg "turned_back" zi ["turning"] a6 a7){du:Addr}{dv:FuncData}(cm:Def K mg "followed" Ak ["one","other"] du dv){eI:Addr}{eJ:FuncData}(eK:Def K mg "called_anew" Dt ["floor","p"] eI eJ){dN:Addr}{dO:FuncData}(dP:Def K mg "squares_from" Dv ["floor","s"] dN dO){cO:Addr}{cP:FuncData}(cQ:Def K mg "numbering_from" Dx ["floor","s"] cO cP){de:Addr}{df:FuncData}(dg:Def K mg "numbered_from" Dz ["floor","s"] de df){fw:Addr}{fz:FuncData}(fA:Def K mg "form_of" Am ["floor"] fw fz){ie:Addr}{ig:FuncData}(iq:Def K mg "ring_from" DB ["turning","first"] ie ig){jz:Addr}{jA:FuncData}(jB:Def K mg "rings_of" DE ["turning"] jz jA){nI:Addr}{nJ:FuncData}(nK:Def K mg "often" DG ["turning","k"] nI nJ){ku:Addr}{ky:FuncData}(kz:Def K mg "sheared" DJ ["floor","k"] ku ky){iu:Addr}{iw:FuncData}(iy:Def K mg "quartered" DL ["floor"] iu iw){eM:Addr}{eN:FuncData}(eO:Def K mg "led_by_step" DN ["floor","step"] eM eN){lu:Addr}{lx:FuncData}(lz:Def K mg "led_by" DP ["floor","word"] lu lx){lj:Addr}{lp:FuncData}(lq:Def K mg "joined" DR ["one","other"] lj lp){fW:Addr}{fX:FuncData}(fY:Def K mg "made_plain" DT ["word"] fW fX){dQ:Addr}{dR:FuncData}(dS:Def K mg "put_together" DX ["one","other"] dQ dR){fZ:Addr}{f9:FuncData}(d6:Def K mg "row_led_to" DY ["forms","words","place","step"] fZ f9){dz:Addr}{dA:FuncData}(bj:qy K mg "chart_of" Ao ["floor","most"] [V.int 60] dz dA){iA:Addr}{iB:FuncData}(iC:Def K mg "_law_feed" D0 ["_law_script","_law_k"] iA iB){iD:Addr}{iE:FuncData}(iF:Def K mg "_law_told" D1 ["_law_floor_here","_law_most"] iD iE){Eg:Addr}{Eh:FuncData}(Jl:Def K mg "law" F4 ["_law_script"] Eg Eh):aH P w K mg base bW 10 Eg Eh ["_law_script"] (cy K 1 IK):=by
 obtain ⟨dI,I,BI⟩:=Z.I;have GI:=Td (P:=P) (w:=w) (mg:=mg) (base:=base) I;have bp:=Te (P:=P) (w:=w) (base:=base) aY T;have dG:=Tf (P:=P) (w:=w) (base:=base) cN T  aY bp;have jy:=Tg (P:=P) (w:=w) (base:=base) gK T;have jd:=Ti (P:=P) (w:=w) (base:=base) fS T  aY bp cN dG gK jy;have fq:=Tj (P:=P) (w:=w) (base:=base) dc T;have h8:=Tp (P:=P) (w:=w) (base:=base) ft T  dc fq;have hU:=Tq (P:=P) (w:=w) (base:=base) eG T;have gh:=Tr (P:=P) (w:=w) (base:=base) dM T  eG hU;have jc:=Ts (P:=P) (w:=w) (base:=base) fP T;have je:=Tt (P:=P) (w:=w) (base:=base) fV T  ft h8 dM gh fP jc;have gn:=Tv (P:=P) (w:=w) (base:=base) dX T  fS jd fV je aY bp;have bu:=Tw (P:=P) (w:=w) (base:=base) a8 T;have cG:=Tz (P:=P) (w:=w) (base:=base) cm T;have h9:=TB (P:=P) (w:=w) (base:=base) eK T  a8 bu cm cG;have gj:=TC (P:=P) (w:=w) (base:=base) dP T;have d7:=TH (P:=P) (w:=w) (base:=base) cQ T  a8 bu dP gj;have fu:=TK (P:=P) (w:=w) (base:=base) dg T  eK h9 cQ d7;have gL:=TM (P:=P) (w:=w) (base:=base) fA T  dg fu;have jZ:=TN (P:=P) (w:=w) (base:=base) iq T;have kJ:=TQ (P:=P) (w:=w) (base:=base) jB T  iq jZ;have pI:=TR (P:=P) (w:=w) (base:=base) nK T  jB kJ;have lV:=TV (P:=P) (w:=w) (base:=base) kz T  cm cG nK pI;have j3:=TY (P:=P) (w:=w) (base:=base) iy T  a8 bu;have iz:=T5 (P:=P) (w:=w) (base:=base) eO T  kz lV iy j3;have nM:=T6 (P:=P) (w:=w) (base:=base) lz T  eO iz;have nL:=T7 (P:=P) (w:=w) (base:=base) lq T;have jf:=T8 (P:=P) (w:=w) (base:=base) fY T  lq nL;have gk:=Ua (P:=P) (w:=w) (base:=base) dS T  fY jf;have gb:=Ub (P:=P) (w:=w) (base:=base) d6 T  fA gL lz nM dS gk;have dB:=Uc (P:=P) (w:=w) (base:=base) bj T kA nO Z GI BI fA gL d6 gb;have j4:=Ud (P:=P) (w:=w) (base:=base) iC T;have j5:=Ue (P:=P) (w:=w) (base:=base) iF T  Z bj dB;have Jm:=zm (P:=P) (w:=w) (base:=base) Jl T  dX gn bj dB iC j4 iF j5;exact Jm
end My
open PySem PySem.W PyProof.Rows L2
namespace PySem.W.Fast
theorem tw3267311208199861503:True:=⟨⟩
theorem tw11366687407577452016:True:=⟨⟩
theorem tw9552784701907049423:True:=⟨⟩
theorem tw10573478725834496223:True:=⟨⟩
theorem tw12827290476170895201:True:=⟨⟩
theorem tw9912508361646029118:True:=⟨⟩
theorem tw10801102035470845039:True:=⟨⟩
theorem tw8938322895710607407:True:=⟨⟩
theorem tw1603060812064207720:True:=⟨⟩
theorem tw15104209442204937162:True:=⟨⟩
theorem tw13990471839678090295:True:=⟨⟩
theorem tw10581841058121279876:True:=⟨⟩
theorem tw13524881553631114760:True:=⟨⟩
theorem tw10158337041437235707:True:=⟨⟩
theorem tw3405731111119655301:True:=⟨⟩
theorem tw11384563900920969417:True:=⟨⟩
theorem tw6200162038428458311:True:=⟨⟩
theorem tw2288371819733763821:True:=⟨⟩
theorem tw4329620252535119176:True:=⟨⟩
theorem tw17711175882716944899:True:=⟨⟩
theorem tw5258400006111759523:True:=⟨⟩
theorem tw14470596053263082498:True:=⟨⟩
theorem tw11533475585751295066:True:=⟨⟩
theorem tw4155075982451859266:True:=⟨⟩
theorem tw4791183452066623648:True:=⟨⟩
theorem tw12784628765129469484:True:=⟨⟩
theorem tw8545019000755331849:True:=⟨⟩
theorem tw17512859284873790665:True:=⟨⟩
theorem tw11378705969254352911:True:=⟨⟩
theorem tw3523962971064411553:True:=⟨⟩
theorem tw1832934575976789047:True:=⟨⟩
theorem tw11057096788770200743:True:=⟨⟩
theorem tw16216901551615348678:True:=⟨⟩
theorem tw15776236103218763749:True:=⟨⟩
theorem tw323283142229661827:True:=⟨⟩
theorem tw18193740512340576166:True:=⟨⟩
theorem tw12688488410023827597:True:=⟨⟩
theorem tw2738348255883101465:True:=⟨⟩
theorem tw6745761069942281796:True:=⟨⟩
theorem tw15992340158067434239:True:=⟨⟩
theorem tw14371932001938447876:True:=⟨⟩
theorem tw16052628617974236981:True:=⟨⟩
theorem tw11754802021290554490:True:=⟨⟩
theorem tw13777050324693270781:True:=⟨⟩
theorem tw18436832305727958686:True:=⟨⟩
theorem tw1761219279595686714:True:=⟨⟩
theorem tw10335890717091368082:True:=⟨⟩
theorem tw14430825644895540718:True:=⟨⟩
theorem tw3429204363505389479:True:=⟨⟩
theorem tw12020406527765957679:True:=⟨⟩
theorem tw3025797638693468906:True:=⟨⟩
theorem tw7426312150970327992:True:=⟨⟩
theorem tw14866170211542921167:True:=⟨⟩
theorem tw8751876770706184906:True:=⟨⟩
theorem tw912202482836021513:True:=⟨⟩
theorem tw18246507938706691810:True:=⟨⟩
theorem tw6165534532797060099:True:=⟨⟩
theorem tw12933367768910090611:True:=⟨⟩
theorem tw9256114114503007749:True:=⟨⟩
theorem tw11050343143861670592:True:=⟨⟩
theorem tw6820368341262196685:True:=⟨⟩
theorem tw12036249934407425461:True:=⟨⟩
theorem tw7455952543952130289:True:=⟨⟩
theorem tw9924449008604890916:True:=⟨⟩
theorem tw2095944190042903118:True:=⟨⟩
theorem tw6834944162047150525:True:=⟨⟩
theorem tw2602724049695043097:True:=⟨⟩
theorem tw3585147077501443580:True:=⟨⟩
theorem tw14434078282817655735:True:=⟨⟩
theorem tw5283669131073778273:True:=⟨⟩
theorem tw10282707219830658105:True:=⟨⟩
theorem tw2824228903279447342:True:=⟨⟩
theorem tw2900934727572634567:True:=⟨⟩
theorem tw13929498765656574729:True:=⟨⟩
theorem tw1271760155186061371:True:=⟨⟩
theorem tw4993341972381235721:True:=⟨⟩
end PySem.W.Fast
set_option maxRecDepth 100000 in
set_option maxHeartbeats 0 in
theorem PySem.Challenge.cw_shearfloor_k27_charts_told_holds : PySem.Challenge.rw_shearfloor_k27_charts_told.Holds := by
 w_on;o_law;k_head;(case hw=>w_witness2)
 k_fill
 refine L2.Ot (l:=PySem.Challenge.rw_shearfloor_k27_charts_told) (n:=63) (k:=10) (x:="_law_script") (CX:=bW) (sp:=L4.vU) rfl (by decide) rfl ⟨rfl,by decide,by decide,rfl⟩ (fun w h Y=>PySem.W.kIn_of Y) ?F ?S ?C
 case F =>
  intro w mg fa h KX G hmg;have T:My.Txt mg:=by
   refine' ⟨rH KX G ?z0,rH KX G ?z1,rH KX G ?z2,rH KX G ?z3,rH KX G ?z4,rH KX G ?z5,rH KX G ?z6,rH KX G ?z7,rH KX G ?z8,rH KX G ?z9,rH KX G ?Ve⟩
   (case z0=>k_is);(case z1=>k_is);(case z2=>k_is);(case z3=>k_is);(case z4=>k_is);(case z5=>k_is);(case z6=>k_is);(case z7=>k_is);(case z8=>k_is);(case z9=>k_is);(case Ve=>k_is)
  have Z:∃ax aJ bD b6 cR bE bF b7 cI,My.XF (L2.KOf KX) mg ax aJ bD b6 cR bE bF b7 cI:=by
   dsimp only [L2.KOf];refine' ⟨_,_,_,_,_,_,_,_,_,My.C7 KX G ?bU ?c4 ?gH ?ja ?kr ?gI ?gJ ?jb ?nH ?c5 ?c6 ?fe ?ff ?fg ?fj ?fm ?lS ?lU ?k0 ?k1 ?k2 ⟨?oP,?oQ,?oR,?oS,?oU,?oV,?oW,?oX⟩ ⟨?nQ,?nR,?nS⟩ (PX (fun _ _ _ _ _ _=>My.mz fun _ _=>rfl) ?il ?ic ?ik)⟩
   (case bU=>k_is);(case c4=>k_is);(case gH=>k_is);(case ja=>k_is);(case kr=>k_is);(case gI=>k_is);(case gJ=>k_is);(case jb=>k_is);(case nH=>k_is)
   (case il=>k_is);(case ic=>k_is);(case ik=>k_is)
   (case c5=>first|rfl|k_is|kernel_rfl);(case c6=>first|rfl|k_is|kernel_rfl);(case fe=>first|rfl|k_is|kernel_rfl);(case ff=>first|rfl|k_is|kernel_rfl);(case fg=>first|rfl|k_is|kernel_rfl);(case fj=>first|rfl|k_is|kernel_rfl);(case fm=>first|rfl|k_is|kernel_rfl);(case lS=>first|rfl|k_is|kernel_rfl);(case lU=>first|rfl|k_is|kernel_rfl);(case k0=>first|rfl|k_is|kernel_rfl);(case k1=>first|rfl|k_is|kernel_rfl);(case k2=>first|rfl|k_is|kernel_rfl);(case oP=>first|rfl|k_is|kernel_rfl);(case oQ=>first|rfl|k_is|kernel_rfl);(case oR=>first|rfl|k_is|kernel_rfl);(case oS=>first|rfl|k_is|kernel_rfl);(case oU=>first|rfl|k_is|kernel_rfl);(case oV=>first|rfl|k_is|kernel_rfl);(case oW=>first|rfl|k_is|kernel_rfl);(case oX=>first|rfl|k_is|kernel_rfl);(case nQ=>first|rfl|k_is|kernel_rfl);(case nR=>first|rfl|k_is|kernel_rfl);(case nS=>first|rfl|k_is|kernel_rfl)
  obtain ⟨_,_,_,_,_,_,_,_,_,Z⟩:=Z;have kK:∃v,L4.sZ (L2.KOf KX) mg "QUARTER" v (.tup [(.str "t"),(.int 1)]):=by
   dsimp only [L2.KOf];refine' L4.Mi (vs:=[V.str "t",V.int 1]) KX G ?a ?l ?o ?z ?v ?d
   (case a=>k_is);(case l=>k_is);(case o=>rfl);(case z=>decide);(case v=>exact (.cons ⟨_,rfl⟩ (.cons ⟨_,rfl⟩ .nil)));(case d=>exact fun ρ H=>(.cons (.str _) (.cons (.int _) .nil)))
  obtain ⟨_,kK⟩:=kK;have nU:∃v,L4.sZ (L2.KOf KX) mg "SHEAR" v (.tup [(.str "s"),(.int 1)]):=by
   dsimp only [L2.KOf];refine' L4.Mi (vs:=[V.str "s",V.int 1]) KX G ?a ?l ?o ?z ?v ?d
   (case a=>k_is);(case l=>k_is);(case o=>rfl);(case z=>decide);(case v=>exact (.cons ⟨_,rfl⟩ (.cons ⟨_,rfl⟩ .nil)));(case d=>exact fun ρ H=>(.cons (.str _) (.cons (.int _) .nil)))
  obtain ⟨_,nU⟩:=nU;have jh:∃f fd,Def (L2.KOf KX) mg "_law_take" My.ze ["_law_feed_here","_law_many"] f fd:=by
   dsimp only [L2.KOf];refine' jK KX G (fun _ _ _ _ _ _=>My.mz fun _ _=>rfl) ?a ?l ?c ?k
   (case a=>k_is);(case l=>k_is);(case c=>k_is);(case k=>k_is)
  obtain ⟨_,_,jh⟩:=jh;have fB:∃f fd,Def (L2.KOf KX) mg "_law_turning" My.C8 ["_law_feed_here","_law_n"] f fd:=by
   dsimp only [L2.KOf];refine' jK KX G (fun _ _ _ _ _ _=>My.mz fun _ _=>rfl) ?a ?l ?c ?k
   (case a=>k_is);(case l=>k_is);(case c=>k_is);(case k=>k_is)
  obtain ⟨_,_,fB⟩:=fB;have j6:∃f fd,Def (L2.KOf KX) mg "_law_met" My.C9 ["_law_floor_here"] f fd:=by
   dsimp only [L2.KOf];refine' jK KX G (fun _ _ _ _ _ _=>My.tQ fun _=>rfl) ?a ?l ?c ?k
   (case a=>k_is);(case l=>k_is);(case c=>k_is);(case k=>k_is)
  obtain ⟨_,_,j6⟩:=j6;have iG:∃f fd,Def (L2.KOf KX) mg "_law_floor" My.De ["_law_feed_here","_law_n"] f fd:=by
   dsimp only [L2.KOf];refine' jK KX G (fun _ _ _ _ _ _=>My.mz fun _ _=>rfl) ?a ?l ?c ?k
   (case a=>k_is);(case l=>k_is);(case c=>k_is);(case k=>k_is)
  obtain ⟨_,_,iG⟩:=iG;have d8:∃f fd,Def (L2.KOf KX) mg "_law_numbered" My.Dg ["_law_floor_here","_law_s"] f fd:=by
   dsimp only [L2.KOf];refine' jK KX G (fun _ _ _ _ _ _=>My.mz fun _ _=>rfl) ?a ?l ?c ?k
   (case a=>k_is);(case l=>k_is);(case c=>k_is);(case k=>k_is)
  obtain ⟨_,_,d8⟩:=d8;have ji:∃f fd,Def (L2.KOf KX) mg "_law_form" My.Dh ["_law_floor_here"] f fd:=by
   dsimp only [L2.KOf];refine' jK KX G (fun _ _ _ _ _ _=>My.tQ fun _=>rfl) ?a ?l ?c ?k
   (case a=>k_is);(case l=>k_is);(case c=>k_is);(case k=>k_is)
  obtain ⟨_,_,ji⟩:=ji;have gp:∃f fd,Def (L2.KOf KX) mg "_law_behind" My.Dj ["_law_turning_here","_law_s","_law_k"] f fd:=by
   dsimp only [L2.KOf];refine' jK KX G (fun _ _ _ _ _ _=>My.S9 fun _ _ _=>rfl) ?a ?l ?c ?k
   (case a=>k_is);(case l=>k_is);(case c=>k_is);(case k=>k_is)
  obtain ⟨_,_,gp⟩:=gp;have fD:∃f fd,Def (L2.KOf KX) mg "_law_stepped" My.Dk ["_law_floor_here","_law_step"] f fd:=by
   dsimp only [L2.KOf];refine' jK KX G (fun _ _ _ _ _ _=>My.mz fun _ _=>rfl) ?a ?l ?c ?k
   (case a=>k_is);(case l=>k_is);(case c=>k_is);(case k=>k_is)
  obtain ⟨_,_,fD⟩:=fD;have iH:∃f fd,Def (L2.KOf KX) mg "_law_plain" My.Dl ["_law_word"] f fd:=by
   dsimp only [L2.KOf];refine' jK KX G (fun _ _ _ _ _ _=>My.tQ fun _=>rfl) ?a ?l ?c ?k
   (case a=>k_is);(case l=>k_is);(case c=>k_is);(case k=>k_is)
  obtain ⟨_,_,iH⟩:=iH;have iI:∃f fd,Def (L2.KOf KX) mg "_law_chart" My.Dp ["_law_floor_here","_law_most"] f fd:=by
   dsimp only [L2.KOf];refine' jK KX G (fun _ _ _ _ _ _=>My.mz fun _ _=>rfl) ?a ?l ?c ?k
   (case a=>k_is);(case l=>k_is);(case c=>k_is);(case k=>k_is)
  obtain ⟨_,_,iI⟩:=iI;have fE:∃f fd,Def (L2.KOf KX) mg "_law_bounded" My.Dr ["_law_feed_here"] f fd:=by
   dsimp only [L2.KOf];refine' jK KX G (fun _ _ _ _ _ _=>My.tQ fun _=>rfl) ?a ?l ?c ?k
   (case a=>k_is);(case l=>k_is);(case c=>k_is);(case k=>k_is)
  obtain ⟨_,_,fE⟩:=fE;have gq:∃f fd,Def (L2.KOf KX) mg "turned_back" My.zi ["turning"] f fd:=by
   dsimp only [L2.KOf];refine' jK KX G (fun _ _ _ _ _ _=>My.tQ fun _=>rfl) ?a ?l ?c ?k
   (case a=>k_is);(case l=>k_is);(case c=>k_is);(case k=>k_is)
  obtain ⟨_,_,gq⟩:=gq;have j7:∃f fd,Def (L2.KOf KX) mg "followed" My.Ak ["one","other"] f fd:=by
   dsimp only [L2.KOf];refine' jK KX G (fun _ _ _ _ _ _=>My.mz fun _ _=>rfl) ?a ?l ?c ?k
   (case a=>k_is);(case l=>k_is);(case c=>k_is);(case k=>k_is)
  obtain ⟨_,_,j7⟩:=j7;have gu:∃f fd,Def (L2.KOf KX) mg "called_anew" My.Dt ["floor","p"] f fd:=by
   dsimp only [L2.KOf];refine' jK KX G (fun _ _ _ _ _ _=>My.mz fun _ _=>rfl) ?a ?l ?c ?k
   (case a=>k_is);(case l=>k_is);(case c=>k_is);(case k=>k_is)
  obtain ⟨_,_,gu⟩:=gu;have fF:∃f fd,Def (L2.KOf KX) mg "squares_from" My.Dv ["floor","s"] f fd:=by
   dsimp only [L2.KOf];refine' jK KX G (fun _ _ _ _ _ _=>My.mz fun _ _=>rfl) ?a ?l ?c ?k
   (case a=>k_is);(case l=>k_is);(case c=>k_is);(case k=>k_is)
  obtain ⟨_,_,fF⟩:=fF;have dC:∃f fd,Def (L2.KOf KX) mg "numbering_from" My.Dx ["floor","s"] f fd:=by
   dsimp only [L2.KOf];refine' jK KX G (fun _ _ _ _ _ _=>My.mz fun _ _=>rfl) ?a ?l ?c ?k
   (case a=>k_is);(case l=>k_is);(case c=>k_is);(case k=>k_is)
  obtain ⟨_,_,dC⟩:=dC;have d9:∃f fd,Def (L2.KOf KX) mg "numbered_from" My.Dz ["floor","s"] f fd:=by
   dsimp only [L2.KOf];refine' jK KX G (fun _ _ _ _ _ _=>My.mz fun _ _=>rfl) ?a ?l ?c ?k
   (case a=>k_is);(case l=>k_is);(case c=>k_is);(case k=>k_is)
  obtain ⟨_,_,d9⟩:=d9;have kL:∃f fd,Def (L2.KOf KX) mg "form_of" My.Am ["floor"] f fd:=by
   dsimp only [L2.KOf];refine' jK KX G (fun _ _ _ _ _ _=>My.tQ fun _=>rfl) ?a ?l ?c ?k
   (case a=>k_is);(case l=>k_is);(case c=>k_is);(case k=>k_is)
  obtain ⟨_,_,kL⟩:=kL;have jk:∃f fd,Def (L2.KOf KX) mg "ring_from" My.DB ["turning","first"] f fd:=by
   dsimp only [L2.KOf];refine' jK KX G (fun _ _ _ _ _ _=>My.mz fun _ _=>rfl) ?a ?l ?c ?k
   (case a=>k_is);(case l=>k_is);(case c=>k_is);(case k=>k_is)
  obtain ⟨_,_,jk⟩:=jk;have j8:∃f fd,Def (L2.KOf KX) mg "rings_of" My.DE ["turning"] f fd:=by
   dsimp only [L2.KOf];refine' jK KX G (fun _ _ _ _ _ _=>My.tQ fun _=>rfl) ?a ?l ?c ?k
   (case a=>k_is);(case l=>k_is);(case c=>k_is);(case k=>k_is)
  obtain ⟨_,_,j8⟩:=j8;have nV:∃f fd,Def (L2.KOf KX) mg "often" My.DG ["turning","k"] f fd:=by
   dsimp only [L2.KOf];refine' jK KX G (fun _ _ _ _ _ _=>My.mz fun _ _=>rfl) ?a ?l ?c ?k
   (case a=>k_is);(case l=>k_is);(case c=>k_is);(case k=>k_is)
  obtain ⟨_,_,nV⟩:=nV;have kM:∃f fd,Def (L2.KOf KX) mg "sheared" My.DJ ["floor","k"] f fd:=by
   dsimp only [L2.KOf];refine' jK KX G (fun _ _ _ _ _ _=>My.mz fun _ _=>rfl) ?a ?l ?c ?k
   (case a=>k_is);(case l=>k_is);(case c=>k_is);(case k=>k_is)
  obtain ⟨_,_,kM⟩:=kM;have jl:∃f fd,Def (L2.KOf KX) mg "quartered" My.DL ["floor"] f fd:=by
   dsimp only [L2.KOf];refine' jK KX G (fun _ _ _ _ _ _=>My.tQ fun _=>rfl) ?a ?l ?c ?k
   (case a=>k_is);(case l=>k_is);(case c=>k_is);(case k=>k_is)
  obtain ⟨_,_,jl⟩:=jl;have gw:∃f fd,Def (L2.KOf KX) mg "led_by_step" My.DN ["floor","step"] f fd:=by
   dsimp only [L2.KOf];refine' jK KX G (fun _ _ _ _ _ _=>My.mz fun _ _=>rfl) ?a ?l ?c ?k
   (case a=>k_is);(case l=>k_is);(case c=>k_is);(case k=>k_is)
  obtain ⟨_,_,gw⟩:=gw;have lY:∃f fd,Def (L2.KOf KX) mg "led_by" My.DP ["floor","word"] f fd:=by
   dsimp only [L2.KOf];refine' jK KX G (fun _ _ _ _ _ _=>My.mz fun _ _=>rfl) ?a ?l ?c ?k
   (case a=>k_is);(case l=>k_is);(case c=>k_is);(case k=>k_is)
  obtain ⟨_,_,lY⟩:=lY;have lZ:∃f fd,Def (L2.KOf KX) mg "joined" My.DR ["one","other"] f fd:=by
   dsimp only [L2.KOf];refine' jK KX G (fun _ _ _ _ _ _=>My.mz fun _ _=>rfl) ?a ?l ?c ?k
   (case a=>k_is);(case l=>k_is);(case c=>k_is);(case k=>k_is)
  obtain ⟨_,_,lZ⟩:=lZ;have iJ:∃f fd,Def (L2.KOf KX) mg "made_plain" My.DT ["word"] f fd:=by
   dsimp only [L2.KOf];refine' jK KX G (fun _ _ _ _ _ _=>My.tQ fun _=>rfl) ?a ?l ?c ?k
   (case a=>k_is);(case l=>k_is);(case c=>k_is);(case k=>k_is)
  obtain ⟨_,_,iJ⟩:=iJ;have fG:∃f fd,Def (L2.KOf KX) mg "put_together" My.DX ["one","other"] f fd:=by
   dsimp only [L2.KOf];refine' jK KX G (fun _ _ _ _ _ _=>My.mz fun _ _=>rfl) ?a ?l ?c ?k
   (case a=>k_is);(case l=>k_is);(case c=>k_is);(case k=>k_is)
  obtain ⟨_,_,fG⟩:=fG;have iK:∃f fd,Def (L2.KOf KX) mg "row_led_to" My.DY ["forms","words","place","step"] f fd:=by
   dsimp only [L2.KOf];refine' jK KX G (fun _ _ _ _ _ _=>My.Tb fun _ _ _ _=>rfl) ?a ?l ?c ?k
   (case a=>k_is);(case l=>k_is);(case c=>k_is);(case k=>k_is)
  obtain ⟨_,_,iK⟩:=iK;have j9:∃f fd,qy (L2.KOf KX) mg "chart_of" My.Ao ["floor","most"] [V.int 60] f fd:=by
   dsimp only [L2.KOf];refine' P4 (d:=1) KX G (by decide) (fun _ _ _ _ _ _ _ us ds hl hd=>match us,ds,hl,hd with|[_],[_],_,_=>⟨_,rfl,rfl⟩) (fun _ _ _ _ _ _ _ us ds hl hd=>match us,ds,hl,hd with|[_,_],[_],_,_=>⟨_,rfl,rfl⟩) ?a ?l ?lT ?e ?v ?c ?k
   (case a=>k_is);(case l=>k_is);(case lT=>k_is);(case e=>rfl);(case v=>exact .cons ⟨_,rfl⟩ (.nil));(case c=>k_is);(case k=>k_is)
  obtain ⟨_,_,j9⟩:=j9;have jn:∃f fd,Def (L2.KOf KX) mg "_law_feed" My.D0 ["_law_script","_law_k"] f fd:=by
   dsimp only [L2.KOf];refine' jK KX G (fun _ _ _ _ _ _=>My.mz fun _ _=>rfl) ?a ?l ?c ?k
   (case a=>k_is);(case l=>k_is);(case c=>k_is);(case k=>k_is)
  obtain ⟨_,_,jn⟩:=jn;have jq:∃f fd,Def (L2.KOf KX) mg "_law_told" My.D1 ["_law_floor_here","_law_most"] f fd:=by
   dsimp only [L2.KOf];refine' jK KX G (fun _ _ _ _ _ _=>My.mz fun _ _=>rfl) ?a ?l ?c ?k
   (case a=>k_is);(case l=>k_is);(case c=>k_is);(case k=>k_is)
  obtain ⟨_,_,jq⟩:=jq;have oY:∃f fd,Def (L2.KOf KX) mg "law" My.F4 ["_law_script"] f fd:=by
   dsimp only [L2.KOf];refine' jK KX G (fun _ _ _ _ _ _=>My.tQ fun _=>rfl) ?a ?l ?c ?k
   (case a=>k_is);(case l=>k_is);(case c=>k_is);(case k=>k_is)
  obtain ⟨_,_,oY⟩:=oY;have e0:=hmg.symm.trans oY.m;cases e0;exact ⟨_,oY.ub,fun base _ _=>L4.yb (My.zz T Z kK nU jh fB j6 iG d8 ji gp fD iH iI fE gq j7 gu fF dC d9 kL jk j8 nV kM jl gw lY lZ iJ fG iK j9 jn jq oY) fun ns hn=>let ⟨_,st,e,h⟩:=My.sU ns hn;⟨st,h ▸ e⟩⟩
 case S=>exact fun K H a ns hl hO hS=>⟨a,ns,rfl,hS.script hO,hl,fun _=>rfl⟩
 case C=>exact fun _ _ _ _ z=>z
