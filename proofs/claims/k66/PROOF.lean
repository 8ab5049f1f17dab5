import PyProof.Rows.All
import Wide.All
import OpenK.AllK
import Wide.FinOn
import Lean
import PyProof.EqAt
import PyProof.EqKinds
import PyProof.TupleCall
import PyProof.DictIter
import PyProof.EnumMake
import KE.KSortTup
import KE.KDictLaws
import KE.KDictSum
import PyProof.StrLawsTight
import KE.KIntText
import PyProof.MinMaxWalk
import PyProof.WalkInts
import KE.KIsAll
import PyProof.ExcInit
import PyProof.NsDelKeeps
import PyProof.ExcBaseAll.ValueError
import OpenK.KOwn
import PyProof.ExcAttrAll.ValueError
import PyProof.NoPylong
import PyProof.SumWalkG
import PySem.Challenge.RW_shearfloor_k66_whole_group_by_its_makers
set_option autoImplicit true
set_option Elab.async false
set_option linter.all false
set_option maxRecDepth 100000
set_option maxHeartbeats 4000000
set_option genSizeOf false
set_option bootstrap.genMatcherCode false
noncomputable section
section
local macro_rules|`(command|def $n:declId $s:optDeclSig $v:declVal)=>`(theorem $n:declId $(⟨Lean.mkNode ``Lean.Parser.Command.declSig #[s.raw[0],s.raw[1][0]]⟩):declSig $v:declVal)
local macro_rules|`(command|abbrev $n:declId $s:optDeclSig $v:declVal)=>`(noncomputable def $n:declId $s:optDeclSig $v:declVal)
local macro_rules|`(⋯)=>`(by lk)
local macro_rules|`(∅)=>`(by decide)
local macro_rules|`(tactic|lk)=>`(tactic|first|lia|omega)
abbrev Zaa:=@List.length_map
abbrev Zab:=@List.getElem?_eq_some_iff
abbrev Zac:=@List.getElem?_eq_getElem
abbrev Zad:=@Nat.le_refl
abbrev Zae:=@List.getD_eq_getElem?_getD
abbrev Zaf:=@List.length_append
abbrev Zag:=@List.getElem?_map
abbrev Zah:=@List.getElem?_set_self
abbrev Zai:=@List.mem_cons_self
abbrev Zaj:=@List.mem_of_getElem?
abbrev Zak:=@List.getElem?_set_ne
abbrev Zal:=@List.mem_cons_of_mem
abbrev Zam:=@Bool.false_ne_true
abbrev Zan:=@List.getElem?_append_left
abbrev Zao:=@Option.some.inj
abbrev Zap:=@Nat.le_trans
abbrev Zaq:=@List.size_toArray
abbrev Zar:=@List.map_append
abbrev Zas:=@PySem.Heap.get?_push_of_some
abbrev Zat:=@Int.toNat_natCast
abbrev Zau:=@List.getElem?_append_right
abbrev Zav:=@List.mem_singleton
abbrev Zaw:=@List.mem_map
abbrev Zax:=@List.mem_append
abbrev Zay:=@Option.map_eq_some_iff
abbrev Zaz:=@List.map_cons
abbrev ZaA:=@PySem.Heap.get?_push_size
abbrev ZaB:=@PySem.Heap.lt_size
abbrev ZaC:=@List.map_map
abbrev ZaD:=@Bool.and_eq_true
abbrev ZaE:=@List.length_cons
abbrev ZaF:=@List.mem_cons
abbrev ZaG:=@Int.toNat_of_nonneg
abbrev ZaH:=@Nat.lt_of_lt_of_le
abbrev ZaI:=@List.take_succ_eq_append_getElem
abbrev ZaJ:=@Nat.zero_le
abbrev ZaK:=@List.mem_append_right
abbrev ZaL:=@List.length_reverse
abbrev ZaM:=@List.take_length
abbrev ZaN:=@List.replicate_succ
abbrev ZaO:=@List.map_congr_left
abbrev ZaP:=@List.getElem?_eq_none
abbrev ZaQ:=@List.getElem?_eq_none_iff
abbrev ZaR:=@List.mem_reverse
abbrev ZaS:=@Nat.ne_of_lt
abbrev ZaT:=@List.map_nil
abbrev ZaU:=@List.find?_cons
abbrev ZaV:=@Nat.not_lt_zero
abbrev ZaW:=@Nat.sub_self
abbrev ZaX:=@List.getElem?_range
abbrev ZaY:=@List.getD_cons_succ
abbrev ZaZ:=@List.getD_cons_zero
abbrev Za0:=@Option.bind_eq_some_iff
abbrev Za1:=@List.any_cons
abbrev Za2:=@Int.natAbs_mul
abbrev Za3:=@Nat.lt_of_le_of_lt
abbrev Za4:=@List.pairwise_iff_getElem
abbrev Za5:=@List.eq_nil_of_length_eq_zero
abbrev Za6:=@List.foldl_append
abbrev Za7:=@List.take_succ
abbrev Za8:=@List.length_set
abbrev Za9:=@Bool.false_eq_true
abbrev Zba:=@Nat.lt_succ_self
abbrev Zbb:=@PySem.Heap.get?_update_other
abbrev Zbc:=@Int.emod_nonneg
abbrev Zbd:=@List.length_replicate
abbrev Zbe:=@List.length_singleton
abbrev Zbf:=@List.length_take
abbrev Zbg:=@Option.bind_some
abbrev Zbh:=@Int.neg_mul
abbrev Zbi:=@List.mem_append_left
abbrev Zbj:=@List.flatten_cons
abbrev Zbk:=@List.getElem_of_mem
abbrev Zbl:=@List.getElem_mem
abbrev Zbm:=@PySem.Heap.get?_update_self
abbrev Zbn:=@Int.natAbs_neg
abbrev Zbo:=@Int.emod_lt_of_pos
abbrev Zbp:=@List.contains_iff_mem
abbrev Zbq:=@List.append_nil
abbrev Zbr:=@List.nodup_cons
abbrev Zbw:=@List.getElem?_of_mem
abbrev Zbz:=@PySem.Heap.SameBut.update
abbrev ZbA:=@List.lookup_cons
abbrev ZbB:=@Nat.zero_add
abbrev ZbC:=@List.idxOf_lt_length_of_mem
abbrev ZbD:=@Int.zero_add
abbrev ZbE:=@Nat.lt_irrefl
abbrev ZbF:=@Int.mul_assoc
abbrev ZbG:=@List.append_assoc
abbrev ZbH:=@List.reverse_cons
abbrev ZbI:=@List.drop_eq_getElem_cons
abbrev ZbJ:=@Nat.mul_le_mul_right
abbrev ZbM:=@List.findIdx?_eq_some_iff_getElem
abbrev ZbN:=@PySem.Heap.size_push
abbrev ZbO:=@Option.isSome_iff_exists
abbrev ZbP:=@Nat.lt_or_ge
abbrev ZbQ:=@Int.mul_comm
abbrev ZbR:=@List.all_eq_true
abbrev ZbS:=@List.getElem?_replicate
abbrev ZbT:=@Bool.eq_iff_iff
abbrev ZbZ:=@List.prefix_append
abbrev Zb0:=@Nat.le_succ
abbrev Zb1:=@List.map_id
abbrev Zb2:=@List.ext_getElem?
abbrev Zb3:=@List.length_range
abbrev Zb4:=@List.mem_range
abbrev Zb9:=@Array.getElem?_toList
abbrev Zca:=@List.Perm.refl
abbrev Zcb:=@List.any_eq_true
abbrev Zcc:=@List.mem_erase_of_ne
abbrev Zcd:=@List.prefix_refl
abbrev Zce:=@List.reverse_reverse
abbrev Zcf:=@Array.length_toList
abbrev Zcg:=@List.mem_filter
abbrev Zch:=@Nat.succ_mul
abbrev Zci:=@Nat.mul_comm
abbrev Zcj:=@Nat.mul_le_mul
abbrev Zck:=@Nat.le_mul_of_pos_right
abbrev Zcl:=@List.nodup_append
abbrev Zcm:=@List.drop_of_length_le
abbrev Zcn:=@Nat.le_of_not_lt
abbrev Zcq:=@Nat.le_add_right
abbrev Zcr:=@List.getElem_map
abbrev Zcs:=@List.not_mem_nil
abbrev Zct:=@Nat.le_of_ble_eq_true
abbrev Zcv:=@Nat.le_of_lt
abbrev Zcw:=@List.length_nil
abbrev Zcx:=@Nat.lt_trans
abbrev Zcy:=@Nat.pow_le_pow_right
abbrev Zcz:=@List.perm_cons_erase
abbrev ZcA:=@Bool.or_eq_true
abbrev ZcB:=@List.filterMap_cons
abbrev ZcC:=@List.drop_zero
abbrev ZcD:=@List.getElem_range
abbrev ZcE:=@List.getElem_idxOf
abbrev ZcF:=@Nat.mul_assoc
abbrev ZcG:=@Bool.xor_self
@[reducible]def Zfr:=PySem.W.Frag
namespace L2
open PySem PySem.Spec PyProof.Rows
@[reducible]def Key:=Sum Int Str
abbrev pJ:Key->Value->Bool
 |.inl k,v=>Value.isInt k v
 |.inr x,v=>Value.isStrOf x v
abbrev Lo(w:World):Key->Int
 |.inl k=>hashInt k
 |.inr x=>hashStr w x
def wG:∀{k:Key} {v:Value},pJ k v=true->(∃i t,k=Sum.inl i/\v=Value.int i t)\/(∃x t,k=Sum.inr x/\v=Value.str x t)
 |.inl i,v,h=>by
  obtain⟨t,e⟩:=Value.isInt_shape (k:=i) (v:=v) h;exact .inl ⟨i,t,rfl,e⟩
 |.inr x,v,h=>by
  obtain⟨t,e⟩:=Value.isStrOf_shape (x:=x) (v:=v) h;exact .inr ⟨x,t,rfl,e⟩
def Vp(i:Int)(t:Tok):pJ (.inl i) (.int i t)=true:=by simp[pJ,Value.isInt]
def Vq(x:Str)(t:Tok):pJ (.inr x) (.str x t)=true:=by simp[pJ,Value.isStrOf]
def zf(a b:Int):decide ((Sum.inl a:Key)=Sum.inl b)=(a == b):=by by_cases e:a=b;subst e;simp;have h:¬(Sum.inl a:Key)=Sum.inl b:=λq=>e (Sum.inl.inj q);rw[decide_eq_false h];exact(beq_eq_false_iff_ne.mpr e).symm
def zg(a b:Str):decide ((Sum.inr a:Key)=Sum.inr b)=decide (a=b):=by by_cases e:a=b;subst e;simp;have h:¬(Sum.inr a:Key)=Sum.inr b:=λq=>e (Sum.inr.inj q);rw[decide_eq_false h,decide_eq_false e]
def zh(a:Int)(b:Str):decide ((Sum.inl a:Key)=Sum.inr b)=false:=decide_eq_false (λq=>nomatch q)
def zi(a:Str)(b:Int):decide ((Sum.inr a:Key)=Sum.inl b)=false:=decide_eq_false (λq=>nomatch q)
abbrev ck(prog:Program)(w:World):PySem.KeyKind prog w Key where
 is:=pJ
 hash:=Lo w
 inj:=λv a b ha hb=>by
  rcases wG ha with⟨i,t,rfl,rfl⟩|⟨x,t,rfl,rfl⟩
  rcases wG hb with⟨j,u,rfl,e⟩|⟨y,u,rfl,e⟩
  injection e with e1 _;rw[e1];exact nomatch e;rcases wG hb with⟨j,u,rfl,e⟩|⟨y,u,rfl,e⟩
  exact nomatch e;injection e with e1 _;rw[e1]
 byValue:=λk v h=>by
  rcases wG h with⟨i,t,rfl,rfl⟩|⟨x,t,rfl,rfl⟩<;>rfl
 pyHash:=λhv h=>by
  rcases wG hv with⟨i,t,rfl,rfl⟩|⟨x,t,rfl,rfl⟩
  exact wpAny_pyHash_int h;exact wpAny_pyHash_str h
 eqBool:=λhu hv h=>by
  rcases wG hu with⟨i,t,rfl,rfl⟩|⟨x,t,rfl,rfl⟩
  rcases wG hv with⟨j,u,rfl,rfl⟩|⟨y,u,rfl,rfl⟩
  rw[zf]at h;exact wpAny_eqBool_int h;rw[zh]at h;exact SeqAt.EqAt.int_str i t y u _ _ _ _ h;rcases wG hv with⟨j,u,rfl,rfl⟩|⟨y,u,rfl,rfl⟩
  rw[zi]at h;exact SeqAt.EqAt.str_int x t j u _ _ _ _ h;rw[zg]at h;exact wpAny_eqBool_str h
 «strs»:=λk x t v h=>by
  rcases wG h with⟨i,u,rfl,e⟩|⟨y,u,rfl,e⟩
  exact nomatch e;injection e with e1 _;subst e1;cases v<;>rfl
def Vr(prog:Program)(w:World)(i:Int)(t:Tok):(ck prog w).is (.inl i) (.int i t)=true:=Vp i t
def Vs(prog:Program)(w:World)(x:Str)(t:Tok):(ck prog w).is (.inr x) (.str x t)=true:=Vq x t
inductive V where
 |non|bl (b:Bool)|int (i:Int)|str (x:Str)|uB (b:Array UInt8)|Lp (b:UInt64)|ref (a:Addr)|ty (n:String)
 deriving DecidableEq
abbrev RelV:V->Value->Prop
 |.non,u=>u=Value.none
 |.bl b,u=>u=Value.bool b
 |.int i,u=>∃t,u=Value.int i t
 |.str x,u=>∃t,u=Value.str x t
 |.uB b,u=>∃t,u=Value.bytes b t
 |.Lp b,u=>∃t,u=Value.float b t
 |.ref a,u=>u=Value.ref a
 |.ty n,u=>u=Value.type n
@[reducible]def Vals:List V->List Value->Prop:=Paired RelV
def Vals.length{xs:List V}{us:List Value}(r:Vals xs us):xs.length=us.length:=Paired.length r
def Vals.get:∀{xs:List V} {us:List Value} {i:Nat} {x:V},Vals xs us->xs[i]?=some x->∃u,us[i]?=some u/\RelV x u
 |_,_,_,_,.nil,e=>by simp at e
 |_,_,0,_,.cons r _,e=>by simp at e;subst e;exact⟨_,rfl,r⟩
 |_,_,i+1,x,.cons _ t,e=>by
  obtain⟨u,h1,h2⟩:=Vals.get (i:=i) (x:=x) t (by simpa using e);exact⟨u,by simpa using h1,h2⟩
def Vals.set(r:RelV x u):∀{xs:List V} {us:List Value} (i:Nat),Vals xs us->Vals (xs.set i x) (us.set i u)
 |_,_,_,.nil=>.nil
 |_,_,0,.cons _ t=>.cons r t
 |_,_,i+1,.cons q t=>.cons q (Vals.set r i t)
def Vals.append:∀{xs ys:List V} {us ws:List Value},Vals xs us->Vals ys ws->Vals (xs ++ ys) (us ++ ws)
 |_,_,_,_,.nil,s=>s
 |_,_,_,_,.cons r t,s=>.cons r (Vals.append t s)
def Vals.take:∀{xs:List V} {us:List Value} (n:Nat),Vals xs us->Vals (xs.take n) (us.take n)
 |_,_,0,_=>.nil
 |_,_,_+1,.nil=>.nil
 |_,_,n+1,.cons r t=>.cons r (Vals.take n t)
def Vals.drop:∀{xs:List V} {us:List Value} (n:Nat),Vals xs us->Vals (xs.drop n) (us.drop n)
 |_,_,0,r=>r
 |_,_,_+1,.nil=>.nil
 |_,_,n+1,.cons _ t=>Vals.drop n t
abbrev pB:Option V->Option Value->Prop
 |some v,some u=>RelV v u
 |none,none=>True
 |_,_=>False
abbrev KV{κ:Type}:List (κ×V)->List (κ×Value)->Prop:=Paired λ(p:κ×V) (q:κ×Value)=>p.1=q.1/\RelV p.2 q.2
abbrev kV:Key->V
 |.inl i=>.int i
 |.inr x=>.str x
set_option genInjectivity false in
inductive HO where
 /-- a list -/
 |lst (xs:List V)
 /-- a tuple (never changes) -/
 |tup (xs:List V)
 /-- a dict whose keys are ints and texts;one whose keys are tuples of ints and texts (the empty one is both) -/
 |dK (kvs:List (Key×V))|dT (kvs:List (List Key×V))
 /-- a set of ints: its members,its size -/
 |set (S:Int->Bool) (n:Nat)
 /-- an instance of the class at C,its dict at dx,its attributes -/
 |ins (C dx:Addr) (fs:List (Str×V))
 /-- the dict of the instance at x -/
 |own (x:Addr)
 /-- the dict of an exception -/
 |xd (fs:List (Str×V))
 /-- a bound method,f of x -/
 |met (f x:Addr)
 /-- a range object lo,lo+1,.. below hi -/
 |lL (lo hi:Int)
 /-- a thing that is known to the object (the script;a dict while a loop walks it): read,never written while it is so -/
 |pY (o:Obj) (u:HO)
 /-- a code Df table -/
 |zj (ps:Array Value)
 /-- any other thing,by what is true of its one object (a def of OU own: Vt a S n:=HO.ext λh=>..) -/
 |ext (φ:Heap->Prop)
@[reducible]def Hp:=Addr->Option HO
abbrev upd(H:Hp)(a:Addr)(o:HO):Hp:=λb=>if b=a then some o else H b
def qL:upd H a o a=some o:=by unfold upd;rw[if_pos rfl]
def jI(h:b≠a):upd H a o b=H b:=by unfold upd;rw[if_neg h]
def Lq{H:Hp}{a b:Addr}{o u:HO}(h:H a=some o)(h':H b=some u)(d:o≠u):a≠b:=by intro e;subst e;rw[h]at h';exact d (Zao h')
def Cn{H:Hp}{a b:Addr}{o:HO}(h:H a=some o)(h':H b=none):a≠b:=by intro e;subst e;rw[h]at h';cases h'
abbrev pZ(h:Heap)(a:Addr)(its:Array Value):Prop:=∃o,h.get? a=some o/\o.cls=.type "tuple" /\ o.dict=none/\∃n,o.data=.seq its n
def pZ.tup(x:pZ h a its):IsTup h a its:=let ⟨o,e,c,_,n,d⟩:=x;⟨o,e,c,n,d⟩
def pZ.new(h:Heap)(its:Array Value):pZ (h.push { cls:=.type "tuple",data:=.seq its }) h.objs.size its:=⟨_,ZaA _ rfl,rfl,rfl,_,rfl⟩
section
variable (P:Program)(w:World)
abbrev cI(H:Hp)(h:Heap)(a:Addr):HO->Prop
 |.lst xs=>xs.length<=sizeLine/\∃(its:List Value) (n:Nat),Vals xs its/\h.get? a=some { cls:=.type "list",data:=.seq its.toArray n }
 |.tup xs=>xs.length<=sizeLine/\∃its:List Value,Vals xs its/\pZ h a its.toArray
 |.dK kvs=>kvs.length<=sizeLine/\(a == sysModules)=false/\∃vs,KV kvs vs/\h.DictOf (ck P w) a vs
 | .dT kvs=>kvs.length<=sizeLine/\(a == sysModules)=false/\∃ xs:List (List Key×Addr×Value),
   Paired (λ(p:List Key×V) (q:List Key×Addr×Value)=>p.1=q.1/\H q.2.1=some (.tup (p.1.map kV))/\RelV p.2 q.2.2) kvs xs /\
   ∃o es ep,h.get? a=some o/\o.ExactDict/\o.data=.dict es ep/\es.toList=xs.map (entryOfKey (tupleKind (ck P w)))/\(xs.map (·.1)).Nodup
 |.set S n=>h.SetOf (intKind P w) a S n
 | .ins C dx fs=>H dx=some (.own a)/\fs.length<=1000/\dx≠a/\h.get? a=some (PySem.W.instObj C dx) /\
   ∃mA,h.Ns1 dx mA/\(∀f,pB (fs.lookup f) (mA f))/\PySem.Within mA (fs.map (·.1))
 |.own _=>∃o,h.get? a=some o
 |.xd fs=>∃mA,h.Ns1 a mA/\∀f,pB (fs.lookup f) (mA f)
 |.lL lo hi=>∃t u v,h.get? a=some { cls:=.type "range",data:=.fields #[.int lo t,.int hi u,.int 1 v] }
 |.pY o u=>h.get? a=some o/\cI H h a u
 |.zj ps=>h.get? a=some { cls:=.none,data:=.fields ps }
 |.met f x=>h.get? a=some (PySem.W.methodObj (.ref f) (.ref x))
 |.ext φ=>φ h/\(∃o,h.get? a=some o)/\∀h1 h2:Heap,φ h1->(∀o,h1.get? a=some o->h2.get? a=some o)->φ h2
abbrev nh(H:Hp)(h:Heap):Prop:=∀a o,H a=some o->cI P w H h a o
end
section
variable {P:Program}{w:World}{H H':Hp}{h h':Heap}{a:Addr}{o:HO}
def cI.lt(x:cI P w H h a o):a<h.objs.size:=by
 cases o with
 |lst xs=>obtain⟨_,_,_,_,e⟩:=x;exact ZaB e
 |tup xs=>obtain⟨_,_,_,_,e,_⟩:=x;exact ZaB e
 |dK kvs=>obtain⟨_,_,_,_,o,_,_,e,_⟩:=x;exact ZaB e
 |dT kvs=>obtain⟨_,_,_,_,o,_,_,e,_⟩:=x;exact ZaB e
 |set S n=>obtain⟨o,_,_,_,e,_⟩:=x;exact ZaB e
 |ins C dx fs=>obtain⟨_,_,_,e,_⟩:=x;exact ZaB e
 |own y=>obtain⟨_,e⟩:=x;exact ZaB e
 |xd fs=>obtain⟨_,⟨_,_,_,e,_⟩,_⟩:=x;exact ZaB e
 |lL lo hi=>obtain⟨_,_,_,e⟩:=x;exact ZaB e
 |pY ob u=>obtain⟨e,_⟩:=x;exact ZaB e
 |zj ps=>exact ZaB (show h.get? a=some _ from x)
 |met f y=>exact ZaB (show h.get? a=some _ from x)
 |ext φ=>obtain⟨_,⟨_,e⟩,_⟩:=x;exact ZaB e
def Paired.zk{α β:Type}{F G:α->β->Prop}:∀{l₁:List α} {l₂:List β},Paired F l₁ l₂->(∀a b,F a b->G a b)->Paired G l₁ l₂
 |_,_,.nil,_=>.nil
 |_,_,.cons r t,f=>.cons (f _ _ r) (Paired.zk t f)
def cI.stay(x:cI P w H h a o)(k:∀b u,(b=a\/H b=some (.own a))->h.get? b=some u->h'.get? b=some u)
  (ho:∀b,H b=some (.own a)->H' b=some (.own a)) (ht:∀b xs,H b=some (.tup xs)->H' b=some (.tup xs)):cI P w H' h' a o:=by
 induction o with
 |lst xs=>obtain⟨z,its,n,r,e⟩:=x;exact⟨z,its,n,r,k _ _ (.inl rfl) e⟩
 |tup xs=>obtain⟨z,its,r,ob,e,c⟩:=x;exact⟨z,its,r,ob,k _ _ (.inl rfl) e,c⟩
 |dK kvs=>obtain⟨z,y,vs,r,ob,es,ep,e,c⟩:=x;exact⟨z,y,vs,r,ob,es,ep,k _ _ (.inl rfl) e,c⟩
 |dT kvs =>
  obtain⟨z,y,xs,r,ob,es,ep,e,c⟩:=x;exact⟨z,y,xs,Paired.zk r λp q z=>⟨z.1,ht _ _ z.2.1,z.2.2⟩,ob,es,ep,k _ _ (.inl rfl) e,c⟩
 |set S n=>obtain⟨ob,es,ep,t,e,c⟩:=x;exact⟨ob,es,ep,t,k _ _ (.inl rfl) e,c⟩
 |ins C dx fs =>
  obtain⟨d,z,ne,e,mA,⟨od,es,ep,e2,c⟩,r⟩:=x;exact⟨ho _ d,z,ne,k _ _ (.inl rfl) e,mA,⟨od,es,ep,k _ _ (.inr d) e2,c⟩,r⟩
 |own y=>obtain⟨ob,e⟩:=x;exact⟨ob,k _ _ (.inl rfl) e⟩
 |xd fs=>obtain⟨mA,⟨od,es,ep,e,c⟩,r⟩:=x;exact⟨mA,⟨od,es,ep,k _ _ (.inl rfl) e,c⟩,r⟩
 |lL lo hi=>obtain⟨t,u,v,e⟩:=x;exact⟨t,u,v,k _ _ (.inl rfl) e⟩
 |pY ob u ih=>obtain⟨e,q⟩:=x;exact⟨k _ _ (.inl rfl) e,ih q⟩
 |zj ps =>
  have e:h.get? a=some { cls:=.none,data:=.fields ps }:=x;show h'.get? a=some { cls:=.none,data:=.fields ps };exact k a _ (.inl rfl) e
 |met f y =>
  have e:h.get? a=some (PySem.W.methodObj (.ref f) (.ref y)):=x;show h'.get? a=some (PySem.W.methodObj (.ref f) (.ref y));exact k a _ (.inl rfl) e
 |ext φ=>obtain⟨p,⟨o,e⟩,st⟩:=x;exact⟨st _ _ p λo q=>k _ _ (.inl rfl) q,⟨o,k _ _ (.inl rfl) e⟩,st⟩
def nh.lt(x:nh P w H h)(e:H a=some o):a<h.objs.size:=(x a o e).lt
def nh.fresh(x:nh P w H h)(e:h.objs.size<=a):H a=none:=by
 cases q:H a with
 |none=>rfl
 |some u=>exact absurd (ZaH (x.lt q) e) (ZbE _)
def nh.kept(x:nh P w H h)(k:∀b u,h.get? b=some u->h'.get? b=some u):nh P w H h':=λa o e =>
 (x a o e).stay (λb u _ q=>k b u q) (λ_ q=>q) λ_ _ q=>q
def nh.laid(x:nh P w H h)(k:∀b u,h.get? b=some u->h'.get? b=some u)(hp:h.objs.size<=a)(new:cI P w (upd H a o) h' a o):nh P w (upd H a o) h':=λb u e=>by
 have hn:=x.fresh hp;by_cases hb:b=a;subst hb;rw[qL]at e;cases e;exact new;rw[jI hb]at e;exact(x b u e).stay (λc v _ q=>k c v q) (λc q=>by rw[jI (Cn q hn)];exact q) λc xs q=>by rw[jI (Cn q hn)];exact q
end
abbrev Rd(H:Hp)(a:Addr)(u:HO):Prop:=H a=some u\/∃o,H a=some (.pY o u)
def Rd.ok(r:Rd H a u)(x:nh P w H h):cI P w H h a u:=by
 rcases r with r|⟨o,r⟩
 exact x a u r;obtain⟨_,q⟩:=x a _ r;exact q
abbrev Dg:Option HO->Prop
 |some (.lst _)=>True
 |some (.dK _)=>True
 |some (.dT _)=>True
 |some (.set _ _)=>True
 |some (.ins _ _ _)=>True
 |some (.ext _)=>True
 |_=>False
section
variable {P:Program}{w:World}{H:Hp}{h h':Heap}{x e:Addr}{o':HO}
def nh.write(ok:nh P w H h)(mu:Dg (H x))(he:e=x\/H e=some (.own x))(k:∀b u,b≠e->h.get? b=some u->h'.get? b=some u)(Cp:∃u,h'.get? e=some u)
  (new:cI P w (upd H x o') h' x o'):nh P w (upd H x o') h':=λb u q=>by
 have Dh:∀c y,H c=some (.own y)->c≠x:=λc y r z=>by subst z;rw[r]at mu;exact mu
 have Lr:∀c xs,H c=some (.tup xs)->c≠x:=λc xs r z=>by subst z;rw[r]at mu;exact mu
 by_cases hb:b=x;subst hb;rw[qL]at q;cases q;exact new;rw[jI hb]at q;by_cases zm:b=e;have q':H b=some (.own x):=by
  rcases he with z|z
  exact absurd (zm.trans z) hb;rw[zm];exact z
 rw[q]at q';cases q';obtain⟨v,hv⟩:=Cp;exact⟨v,by rw[zm];exact hv⟩;refine(ok b u q).stay (λc v hc r=>k c v ?_ r) (λc r=>by rw[jI (Dh c b r)];exact r) λc xs r=>by rw[jI (Lr c xs r)];exact r
 rcases hc with rfl|hc
 exact zm;rintro rfl;rcases he with z|z
 exact Dh c b hc z;rw[hc]at z;cases z;exact hb rfl
end
structure Un(fs ex:List Addr)(H H':Hp)(h h':Heap):Prop where
 keep:∀b o,h.get? b=some o->H b=none->b ∉ fs->b ∉ ex->h'.get? b=some o
 slot:∀b o,h.get? b=some o->H b=none->b∈fs->b ∉ ex->∃sl,h'.get? b=some { o with slots:=sl }
 free:∀b o,h.get? b=some o->H b=none->b ∉ ex->H' b=none
 there:∀b o,h.get? b=some o->b ∉ ex->∃o',h'.get? b=some o'
 tups:∀b xs,H b=some (.tup xs)->H' b=some (.tup xs)
 p4:∀b o u,H b=some (.pY o u)->H' b=some (.pY o u)
 qM:∀b ps,H b=some (.zj ps)->∃more,H' b=some (.zj (ps ++ more))
section
variable {fs fs' ex ex':List Addr}{H H1 H2:Hp}{h h1 h2 h':Heap}{a x e:Addr}{o:HO}
def Un.any(u:Un fs ex H H1 h h1)(q:h.get? b=some ob)(n:H b=none)(hx:b ∉ ex):∃sl,h1.get? b=some { ob with slots:=sl }:=by by_cases hb:b∈fs;exact u.slot b ob q n hb hx;exact⟨ob.slots,u.keep b ob q n hb hx⟩
def Un.kept(k:∀b u,h.get? b=some u->h'.get? b=some u):Un fs ex H H h h' :=
 ⟨λb ob q _ _ _=>k b ob q,λb ob q _ _ _=>⟨ob.slots,k b ob q⟩,λ_ _ _ n _=>n,λb ob q _=>⟨ob,k b ob q⟩,λ_ _ q=>q,λ_ _ _ q=>q,λ_ ps q=>⟨#[],by rw[q];simp⟩⟩
def Un.refl:Un fs ex H H h h:=Un.kept λ_ _ q=>q
def Un.laid(k:∀b u,h.get? b=some u->h'.get? b=some u)(hp:h.objs.size<=a)(hn:H a=none):Un fs ex H (upd H a o) h h' where
 keep:=λb u q _ _ _=>k b u q
 slot:=λb u q _ _ _=>⟨u.slots,k b u q⟩
 free:=λb u q n _=>by rw[jI (ZaS (ZaH (ZaB q) hp))];exact n
 there:=λb u q _=>⟨u,k b u q⟩
 tups:=λb xs q=>by rw[jI (Cn q hn)];exact q
 p4:=λb u xs q=>by rw[jI (Cn q hn)];exact q
 qM:=λb ps q=>⟨#[],by rw[jI (Cn q hn),q];simp⟩
def Un.write(mu:Dg (H x))(he:e=x\/H e=some (.own x))(k:∀b u,b≠e->h.get? b=some u->h'.get? b=some u)(Cp:∃u,h'.get? e=some u):Un fs ex H (upd H x o) h h':=by
 have hx:∀b,H b=none->b≠x:=λb n z=>by subst z;rw[n]at mu;exact mu
 have hb:∀b,H b=none->b≠e:=λb n z=>by
  subst z;rcases he with r|r
  exact hx b n r;rw[n]at r;cases r
 have hm:∀b u,H b=some u->¬Dg (some u)->b≠x:=λb u q nm z=>by subst z;rw[q]at mu;exact nm mu
 refine⟨λb u q n _ _=>k b u (hb b n) q,λb u q n _ _=>⟨u.slots,k b u (hb b n) q⟩,λb u q n _=>by rw[jI (hx b n)];exact n,λb u q _=>?_,
  λb xs q=>by rw[jI (hm b _ q λz=>z)];exact q,λb u xs q=>by rw[jI (hm b _ q λz=>z)];exact q,λb ps q=>⟨#[],by rw[jI (hm b _ q λz=>z),q];simp⟩⟩
 by_cases zm:b=e;subst zm;exact Cp;exact⟨u,k b u zm q⟩
end
abbrev IJ(h:Heap)(H:Hp):List Addr:=(List.range h.objs.size).filter λa=>(H a).isSome
abbrev p5(h:Heap)(H:Hp):Heap:=PySem.W.hideAll h (IJ h H)
def Vu(h:Heap)(H:Hp):(p5 h H).objs.size=h.objs.size:=PySem.W.hideAll_size _ _
def Vv(e:h.get? b=some o)(n:H b=none):(p5 h H).get? b=some o :=
 PySem.W.hideAll_get _ e λhm=>by
  have q:(H b).isSome=true:=(Zcg.mp hm).2;rw[n]at q;simp at q
def Vw(e:(p5 h H).get? b=some o):h.get? b=some o/\H b=none:=by
 have e':h.get? b=some o:=PySem.W.of_hideAll (IJ h H) e;refine⟨e',?_⟩;cases q:H b with
 |none=>rfl
 |some x =>
  have hm:b∈IJ h H:=Zcg.mpr ⟨Zb4.mpr (ZaB e'),by simp[q]⟩;have z:(p5 h H).get? b=none:=PySem.W.hideAll_none (IJ h H) hm;rw[z]at e;cases e
abbrev wH(g h:Heap)(L:Addr):List (Addr×Obj):=(List.range h.objs.size).filterMap λa=>if a=L\/(g.get? a).isSome=true then none else(h.get? a).map λo=>(a,o)
abbrev rest(g h:Heap)(L d:Addr):List (Addr×Obj):=(wH g h L).filter λp=>decide (p.1≠d)
structure Mod(K:Zfr)(mg:Str->Option Value)(base:Heap):Prop where
 Ls:K.In base
 glob:base.Ns mainGlobals mg
 blt:∃mb,base.Ns builtinsNs mb/\∀x:Str,x≠"__name__" -> mb x=bootBuiltins x
 nolimit:base.NoLimit
set_option genInjectivity false in
structure Cx where
 prog:Program
 w:World
 K:Zfr
 mg:Str->Option Value
 base:Heap
 A:Around
 N:List Str
 s₀:Shared
 H₀:Hp
 env:Env
 outer:List Env
 stack:List Env
 ex:List Addr
 fn:Str->Bool
 calm:Bool
 pn:List (Addr×Obj)
 xe:Value->Shared->Prop
abbrev frs(l:List Env):List Addr:=l.filterMap (·.frame)
@[reducible]def Cx.fs(X:Cx):List Addr:=frs X.outer
abbrev Lu(sc:Scope)(x:Str):Prop:=sc.names.lookup x=some .local\/sc.names.lookup x=some .cell\/sc.names.lookup x=some .free
abbrev Loc(sc:Scope)(x:Str):Prop:=sc.names.lookup x=some .local\/sc.names.lookup x=some .cell
abbrev Look(env:Env)(h:Heap)(m:Str->Option Value)(x:Str)(u:Value):Prop :=
 (env.kindOf x=some .local/\m x=some u)\/((env.kindOf x=some .cell\/env.kindOf x=some .free)/\∃c,env.cells.lookup x=some c/\h.IsCell c (some u))
structure Cx.Ok(X:Cx):Prop where
 mod:Mod X.K X.mg X.base
 kind:X.env.scope.kind=.function
 glob:X.env.globals=mainGlobals
 blt:X.env.builtins=builtinsNs
 above:X.s₀.heap.objs.size<=X.env.locals
 inj:∀x y c,X.env.cells.lookup x=some c->X.env.cells.lookup y=some c->x=y
 has:∀x,(X.env.kindOf x=some .cell\/X.env.kindOf x=some .free)->∃c,X.env.cells.lookup x=some c
 Di:∀x c,X.fn x=true->X.env.cells.lookup x=some c->X.s₀.heap.objs.size<=c
 hd:X.calm=true->X.A.handled=none
 frames:X.A.frames=some X.stack
 stk:X.stack=X.outer\/(X.stack=X.env :: X.outer/\X.env.frame=some X.env.locals)
 OV:∀b∈X.ex,b≠X.env.locals/\∀x c,X.env.cells.lookup x=some c->c≠b
 bs:∀b o,X.base.get? b=some o->X.s₀.heap.get? b=some o/\X.H₀ b=none
 xK:X.base.objs.size<=X.s₀.heap.objs.size
 uC:∀b o,X.base.get? b=some o->b ∉ X.ex
 wI:∀b∈X.ex,b ∉ X.fs
 oQ:X.s₀.heap.FunFrames X.base X.outer
 Cq:∀b∈X.fs,X.H₀ b=none
structure Inv(X:Cx)(pins:List (Addr×Obj))(σ:List (Option V))(H:Hp)(s:Shared):Prop where
 ok:X.Ok
 os:s.os=X.s₀.os
 bare:AllBare s.gens
 base:Un X.fs X.ex X.H₀ H X.s₀.heap s.heap
 loc:∃m,s.heap.Ns X.env.locals m/\∀(i:Nat) (x:Str) (v:V),X.N[i]?=some x->σ[i]?=some (some v)->Lu X.env.scope x->∃u,RelV v u/\Look X.env s.heap m x u
 cell:∀x c,X.env.cells.lookup x=some c->∃v,s.heap.IsCell c v
 free:H X.env.locals=none
 mC:∀x c,X.env.cells.lookup x=some c->H c=none
 pin:∀p∈X.pn ++ pins,s.heap.get? p.1=some p.2/\H p.1=none/\p.1≠X.env.locals/\p.1 ∉ X.fs/\∀v,p.2.data≠.cell v
 hok:nh X.prog X.w H s.heap
 len:σ.length=X.N.length
section
variable {X:Cx}{pins:List (Addr×Obj)}{σ:List (Option V)}{H H':Hp}{s:Shared}{h':Heap}
def Cx.Ok.Lv(ok:X.Ok)(e:X.base.get? b=some o):b ∉ X.fs:=λhb=>by
 have:=(ok.oQ.mem hb).1;rw[e]at this;cases this
def Inv.bs(I:Inv X pins σ H s):∀b o,X.base.get? b=some o->s.heap.get? b=some o/\H b=none:=λb o e =>
 ⟨I.base.keep b o (I.ok.bs b o e).1 (I.ok.bs b o e).2 (I.ok.Lv e) (I.ok.uC b o e),I.base.free b o (I.ok.bs b o e).1 (I.ok.bs b o e).2 (I.ok.uC b o e)⟩
def Inv.bk(I:Inv X pins σ H s):∀b o,X.base.get? b=some o->s.heap.get? b=some o:=λb o e=>(I.bs b o e).1
def Inv.mod(I:Inv X pins σ H s):Mod X.K X.mg X.base:=I.ok.mod
def Inv.IK(I:Inv X pins σ H s):X.K.In s.heap:=I.ok.mod.Ls.keeps I.bk
def Inv.lt(I:Inv X pins σ H s):X.env.locals<s.heap.objs.size:=let ⟨_,hn,_⟩:=I.loc;hn.lt
def Inv.sz(I:Inv X pins σ H s):X.s₀.heap.objs.size<=s.heap.objs.size:=Zap I.ok.above (Zcv I.lt)
def Inv.Dj(I:Inv X pins σ H s){a:Addr}(h:s.heap.objs.size<=a):a ∉ X.fs:=λhb=>by
 obtain⟨_,o,ho,_⟩:=I.ok.oQ.mem hb;exact absurd (ZaH (ZaB ho) (Zap I.sz h)) (ZbE _)
def Inv.zo(I:Inv X pins σ H s):∀x c,X.env.cells.lookup x=some c->c≠X.env.locals:=λx c e z=>by
 obtain⟨v,o,ho,hd⟩:=I.cell x c e;obtain⟨m,⟨o',es,ep,ho',hd',_⟩,_⟩:=I.loc;rw[z,ho']at ho;cases ho;rw[hd']at hd;cases hd
def Inv.oQ(I:Inv X pins σ H s):s.heap.FunFrames X.base X.outer:=by
 have all:∀(l:List Env),(∀b∈frs l,b∈X.fs)->X.s₀.heap.FunFrames X.base l->s.heap.FunFrames X.base l:=by
  intro l
  induction l with
  |nil=>intro _ _;trivial
  |cons env r ih =>
   intro hs hl;obtain⟨hk,⟨L,o,hf,hn,ho,hd⟩,hr⟩:=hl;have hL:L∈X.fs:=hs L (by unfold frs;rw[ZcB,hf];exact Zai);obtain⟨sl,e⟩:=I.base.slot L o ho (I.ok.Cq L hL) hL λz=>I.ok.wI L z hL;exact⟨hk,⟨L,_,hf,hn,e,hd⟩,ih (λb hb=>hs b (by unfold frs;rw[ZcB,hf];exact Zal _ hb)) hr⟩
 exact all X.outer (λ_ hb=>hb) I.ok.oQ
def Inv.stack(I:Inv X pins σ H s):s.heap.FunFrames X.base X.stack:=by
 rcases I.ok.stk with e|⟨e,hf⟩
 rw[e];exact I.oQ;rw[e];obtain⟨m,hn,_⟩:=I.loc;refine .cons (by rw[I.ok.kind];decide) hf hn ?_ I.oQ;exact Heap.get?_none_of_le (Zap I.ok.xK I.ok.above)
def Inv.oR(I:Inv X pins σ H s):∀b∈frs X.stack,b∈X.env.locals :: X.fs:=λb hb=>by
 rcases I.ok.stk with e|⟨e,hf⟩
 rw[e]at hb;exact Zal _ hb;rw[e]at hb;unfold frs at hb;rw[ZcB,hf]at hb;exact hb
def Inv.su(I:Inv X pins σ H s):∀b∈frs X.stack,H b=none:=λb hb=>by
 rcases ZaF.mp (I.oR b hb)with e|hb
 rw[e];exact I.free;obtain⟨_,o,ho,_⟩:=I.ok.oQ.mem hb;exact I.base.free b o ho (I.ok.Cq b hb) λz=>I.ok.wI b z hb
def Inv.step{g':Array GenState}{t':Nat}{d':Drawn}{ch:List Addr}(I:Inv X pins σ H s)
  (hch:∀b∈ch,(b∈X.ex\/X.s₀.heap.objs.size<=b)/\b≠X.env.locals/\(∀x c,X.env.cells.lookup x=some c->c≠b)/\∀p∈X.pn ++ pins,p.1≠b)
  (keep:∀b o,b≠X.env.locals->b ∉ X.fs->b ∉ ch->s.heap.get? b=some o->H b=none->h'.get? b=some o)
  (slot:∀b o,b≠X.env.locals->b∈X.fs->b ∉ ch->s.heap.get? b=some o->H b=none->∃sl,h'.get? b=some { o with slots:=sl }) (free:∀b o,b ∉ ch->s.heap.get? b=some o->H b=none->H' b=none)
  (there:∀b o,b ∉ ch->s.heap.get? b=some o->∃o',h'.get? b=some o')
  (tups:∀b xs,H b=some (.tup xs)->H' b=some (.tup xs)) (p4:∀b o u,H b=some (.pY o u)->H' b=some (.pY o u)) (qM:∀b ps,H b=some (.zj ps)->∃more,H' b=some (.zj (ps ++ more)))
  (ns:∀m,s.heap.Ns X.env.locals m->h'.Ns X.env.locals m) (hok:nh X.prog X.w H' h') (hg:AllBare g') :
  Inv X pins σ H' { s with heap:=h',gens:=g',drawn:=d',toks:=t' }:=by
 have zp:∀b o,X.s₀.heap.get? b=some o->b≠X.env.locals:=λb o e=>ZaS (ZaH (ZaB e) I.ok.above);have IL:∀b o,X.s₀.heap.get? b=some o->b ∉ X.ex->b ∉ ch:=λb o e hx hb=>by
  rcases(hch b hb).1 with z|z
  exact hx z;exact absurd (ZaH (ZaB e) z) (ZbE _)
 have cellK:∀x c,X.env.cells.lookup x=some c->∀v,s.heap.IsCell c v->h'.IsCell c v:=λx c e v ⟨o,ho,hd⟩=>by
  have Dk:c ∉ ch:=λz=>(hch c z).2.2.1 x c e rfl;by_cases hc:c∈X.fs;obtain⟨sl,q⟩:=slot c o (I.zo x c e) hc Dk ho (I.mC x c e);exact⟨_,q,hd⟩;exact⟨o,keep c o (I.zo x c e) hc Dk ho (I.mC x c e),hd⟩
 refine⟨I.ok,I.os,hg,⟨λb o e n hb hx=>?_,λb o e n hb hx=>?_,λb o e n hx=>?_,λb o e hx=>?_,λb xs e=>tups b xs (I.base.tups b xs e),λb o xs e=>p4 b o xs (I.base.p4 b o xs e),λb ps e=>?_⟩,?_,λx c e=>?_,?_,λx c e=>?_,λp hp=>?_,hok,I.len⟩;exact keep b o (zp b o e) hb (IL b o e hx) (I.base.keep b o e n hb hx) (I.base.free b o e n hx);obtain⟨sl,e1⟩:=I.base.slot b o e n hb hx;obtain⟨Vx,e2⟩:=slot b _ (zp b o e) hb (IL b o e hx) e1 (I.base.free b o e n hx);exact⟨Vx,e2⟩;obtain⟨o',e1⟩:=I.base.there b o e hx;exact free b o' (IL b o e hx) e1 (I.base.free b o e n hx);obtain⟨o',e1⟩:=I.base.there b o e hx;exact there b o' (IL b o e hx) e1;obtain⟨m1,e1⟩:=I.base.qM b ps e;obtain⟨m2,e2⟩:=qM b _ e1;exact⟨m1 ++ m2,by rw[e2,Array.append_assoc]⟩;obtain⟨m,hn,hl⟩:=I.loc;refine⟨m,ns m hn,λi x v e1 e2 e3=>?_⟩;obtain⟨u,r,l⟩:=hl i x v e1 e2 e3;refine⟨u,r,?_⟩;rcases l with l|⟨k,c,e,z⟩
 exact .inl l;exact .inr ⟨k,c,e,cellK x c e _ z⟩;obtain⟨v,z⟩:=I.cell x c e;exact⟨v,cellK x c e v z⟩;obtain⟨m,⟨o,_,_,ho,_⟩,_⟩:=I.loc;exact free _ o (λz=>(hch _ z).2.1 rfl) ho I.free;obtain⟨v,o,ho,hd⟩:=I.cell x c e;exact free c o (λz=>(hch c z).2.2.1 x c e rfl) ho (I.mC x c e);obtain⟨e,n,ne,nf,d⟩:=I.pin p hp;have Dk:p.1 ∉ ch:=λz=>(hch p.1 z).2.2.2 p hp rfl;exact⟨keep p.1 p.2 ne nf Dk e n,free p.1 p.2 Dk e n,ne,nf,d⟩
def Inv.un(I:Inv X pins σ H s)(u:Un X.fs [] H H' s.heap h')(hok:nh X.prog X.w H' h'):Inv X pins σ H' { s with heap:=h',toks:=t' }:=by
 obtain⟨m,⟨o,es,ep,ho,r⟩,_⟩:=id I.loc;obtain⟨sl,hL⟩:=u.any ho I.free (by simp)
 exact I.step (g':=s.gens) (d':=s.drawn) (ch:=[]) (λ_ z=>nomatch z) (λb o _ hb _ e n=>u.keep b o e n hb (by simp)) (λb o _ hb _ e n=>u.slot b o e n hb (by simp)) (λb o _ e n=>u.free b o e n (by simp)) (λb o _ e=>u.there b o e (by simp)) u.tups u.p4 u.qM (λm' hm=>by
  obtain⟨o',es',Lw,ho',r'⟩:=hm;rw[ho]at ho';cases ho'
  exact⟨_,es',Lw,hL,r'⟩) hok I.bare
def Inv.call(I:Inv X pins σ H s)(u:Un (frs X.stack) ch H H' s.heap h')(hok:nh X.prog X.w H' h')(hg:AllBare g')
  (hch:∀b∈ch,(b∈X.ex\/X.s₀.heap.objs.size<=b)/\b≠X.env.locals/\(∀x c,X.env.cells.lookup x=some c->c≠b)/\∀p∈X.pn ++ pins,p.1≠b) :
  Inv X pins σ H' { s with heap:=h',gens:=g',drawn:=d',toks:=t' }:=by
 obtain⟨m,⟨o,es,ep,ho,r⟩,_⟩:=id I.loc;obtain⟨sl,hL⟩:=u.any ho I.free λz=>(hch _ z).2.1 rfl
 exact I.step (ch:=ch) hch (λb o hL hb hc e n=>u.keep b o e n (λz=>(ZaF.mp (I.oR b z)).elim hL hb) hc) (λb o _ _ hc e n=>u.any e n hc) (λb o hc e n=>u.free b o e n hc) (λb o hc e=>u.there b o e hc) u.tups u.p4 u.qM (λm' hm=>by
  obtain⟨o',es',Lw,ho',r'⟩:=hm;rw[ho]at ho';cases ho'
  exact⟨_,es',Lw,hL,r'⟩) hok hg
def Inv.turned(I:Inv X pins σ H s)(k:∀b o,b≠it->s.heap.get? b=some o->h'.get? b=some o)(hn:H it=none)(hL:it≠X.env.locals)
  (h1:it∈X.ex\/X.s₀.heap.objs.size<=it) (h2:∀x c,X.env.cells.lookup x=some c->c≠it) (h3:∀p∈X.pn ++ pins,p.1≠it):Inv X pins σ H { s with heap:=h',toks:=t' }:=by
 have Dl:∀b u,H b=some u->b≠it:=λb u e z=>by rw[z,hn]at e;cases e
 refine I.step (g':=s.gens) (d':=s.drawn) (ch:=[it]) (λb hb=>?_) (λb o _ _ hc e _=>k b o (λz=>hc (by simp[z])) e) (λb o _ _ hc e _=>⟨o.slots,k b o (λz=>hc (by simp[z])) e⟩) (λ_ _ _ _ n=>n)
  (λb o hc e=>⟨o,k b o (λz=>hc (by simp[z])) e⟩) (λ_ _ e=>e) (λ_ _ _ e=>e) (λb ps e=>⟨#[],by rw[e];simp⟩) (λm hm=>?_) (λb u e=>?_) I.bare
 have e:b=it:=by simpa using hb
 subst e;exact⟨h1,hL,h2,h3⟩;obtain⟨o,es,ep,ho,r⟩:=hm;exact⟨o,es,ep,k _ o (Ne.symm hL) ho,r⟩;refine(I.hok b u e).stay (λc v hc q=>k c v ?_ q) (λ_ q=>q) λ_ _ q=>q;rcases hc with z|z
 rw[z];exact Dl b u e;exact Dl c _ z
def Inv.tok(I:Inv X pins σ H s)(t:Nat):Inv X pins σ H { s with toks:=t }:=I.un (h':=s.heap) (t':=t) Un.refl I.hok
def Inv.kept(I:Inv X pins σ H s)(k:∀b u,s.heap.get? b=some u->h'.get? b=some u):Inv X pins σ H { s with heap:=h',toks:=t' }:=I.un (Un.kept k) (I.hok.kept k)
def Inv.laid{a:Addr}{o:HO}{t':Nat}(I:Inv X pins σ H s)(k:∀b u,s.heap.get? b=some u->h'.get? b=some u)(hp:s.heap.objs.size<=a)(new:cI X.prog X.w (upd H a o) h' a o):
  Inv X pins σ (upd H a o) { s with heap:=h',toks:=t' }:=I.un (Un.laid k hp (I.hok.fresh hp)) (I.hok.laid k hp new)
def Inv.write(I:Inv X pins σ H s)(mu:Dg (H x))(he:e=x\/H e=some (.own x))(k:∀b u,b≠e->s.heap.get? b=some u->h'.get? b=some u)(Cp:∃u,h'.get? e=some u)
  (new:cI X.prog X.w (upd H x o) h' x o):Inv X pins σ (upd H x o) { s with heap:=h',toks:=t' }:=I.un (Un.write mu he k Cp) (I.hok.write mu he k Cp new)
def Inv.oz(I:Inv X pins σ H s)(h:∀p∈xM,s.heap.get? p.1=some p.2/\H p.1=none/\p.1≠X.env.locals/\p.1 ∉ X.fs/\∀v,p.2.data≠.cell v):Inv X xM σ H s :=
 ⟨I.ok,I.os,I.bare,I.base,I.loc,I.cell,I.free,I.mC,λp hp=>(Zax.mp hp).elim (λz=>I.pin p (Zbi _ z)) (h p),I.hok,I.len⟩
def OW{N:List Str}(hN:N.Nodup){i j:Nat}{x:Str}(a:N[i]?=some x)(b:N[j]?=some x):i=j:=by obtain⟨h1,e1⟩:=Zab.mp a;obtain⟨h2,e2⟩:=Zab.mp b;exact(List.getElem_inj hN).mp (e1.trans e2.symm)
def OX(I:Inv X pins σ H s)(hN:X.N.Nodup)(hi:X.N[i]?=some x)(hx:Loc X.env.scope x)(r:RelV v u)
  (h:∀s',Inv X pins (σ.set i (some v)) H s'->(∃a,Heap.SameBut a s.heap s'.heap/\(a=X.env.locals\/X.env.cells.lookup x=some a))->Q () s') (hf:X.fn x=true\/X.env.scope.names.lookup x=some .local:=by first|exact .inl rfl|exact .inr rfl|assumption):wpAny M A (storeName X.env x u) Q E s:=by
 obtain⟨m,hn,hl⟩:=id I.loc;have hcls:(X.env.scope.kind == .class || (X.env.scope.kind == .module && X.env.locals != X.env.globals))=false:=by rw[I.ok.kind];rfl
 have hiσ:i<σ.length:=by rw[I.len];exact(Zab.mp hi).1
 have zo:=I.zo;have tracked:∀{a:Addr} {h':Heap},(∃o,s.heap.get? a=some o/\H a=none)->Heap.SameBut a s.heap h'->nh X.prog X.w H h':=λ{a h'} ha hs b ob e=>by
  obtain⟨_,_,hfree⟩:=ha;refine(I.hok b ob e).stay (λc w' hc q=>(hs.2 c ?_).trans q) (λ_ q=>q) λ_ _ q=>q;rintro rfl;rcases hc with rfl|hc
  rw[hfree]at e;cases e;rw[hfree]at hc;cases hc
 rcases hx with hk|hk
 refine wpAny_storeName_local hk hn (λh' hn' hs=>?_) hcls;obtain⟨oL,_,_,Vy,_⟩:=id hn;refine h _ ⟨I.ok,I.os,I.bare,⟨λb o e n hb hx=>?_,λb o e n hb hx=>?_,I.base.free,λb o e hx=>?_,I.base.tups,I.base.p4,I.base.qM⟩,⟨_,hn',λj y v' e1 e2 e3=>?_⟩,λy c e=>?_,I.free,I.mC,λp hp=>?_,tracked ⟨oL,Vy,I.free⟩ hs,by simpa using I.len⟩ ⟨_,hs,.inl rfl⟩;exact(hs.2 b (ZaS (ZaH (ZaB e) I.ok.above))).trans (I.base.keep b o e n hb hx);obtain⟨sl,e1⟩:=I.base.slot b o e n hb hx;exact⟨sl,(hs.2 b (ZaS (ZaH (ZaB e) I.ok.above))).trans e1⟩;obtain⟨o',e1⟩:=I.base.there b o e hx;exact⟨o',(hs.2 b (ZaS (ZaH (ZaB e) I.ok.above))).trans e1⟩;by_cases hj:j=i;subst hj;rw[hi]at e1;cases e1;rw[Zah hiσ]at e2;cases e2;exact⟨u,r,.inl ⟨hk,by simp⟩⟩;rw[Zak (Ne.symm hj)]at e2;obtain⟨u',r',q⟩:=hl j y v' e1 e2 e3;refine⟨u',r',?_⟩;rcases q with⟨k,e⟩|⟨k,c,e,z⟩
 refine .inl ⟨k,?_⟩
 have:y≠x:=λe=>hj (OW hN e1 (e ▸ hi));simp[this,e]
 exact .inr ⟨k,c,e,z.sameBut hs (zo y c e)⟩;obtain⟨w',z⟩:=I.cell y c e;exact⟨w',z.sameBut hs (zo y c e)⟩;obtain⟨e,n,ne,nf,d⟩:=I.pin p hp;exact⟨(hs.2 p.1 ne).trans e,n,ne,nf,d⟩;have hfn:X.fn x=true:=by
  rcases hf with z|z
  exact z;rw[z]at hk;cases hk
 obtain⟨c,hc⟩:=I.ok.has x (.inl hk);obtain⟨w',z⟩:=I.cell x c hc;refine wpAny_storeName_cell I.ok.kind hk hc z (λh' hc' hs=>?_);obtain⟨oc,hoc,Lx⟩:=id z;refine h { s with heap:=h' } ⟨I.ok,I.os,I.bare,⟨λb o e n hb hx=>?_,λb o e n hb hx=>?_,I.base.free,λb o e hx=>?_,I.base.tups,I.base.p4,I.base.qM⟩,⟨m,hn.sameBut hs (Ne.symm (zo x c hc)),λj y v' e1 e2 e3=>?_⟩,λy c' e=>?_,I.free,I.mC,λp hp=>?_,tracked ⟨oc,hoc,I.mC x c hc⟩ hs,by simpa using I.len⟩ ⟨c,hs,.inr hc⟩;exact(hs.2 b (ZaS (ZaH (ZaB e) (I.ok.Di x c hfn hc)))).trans (I.base.keep b o e n hb hx);obtain⟨sl,e1⟩:=I.base.slot b o e n hb hx;exact⟨sl,(hs.2 b (ZaS (ZaH (ZaB e) (I.ok.Di x c hfn hc)))).trans e1⟩;obtain⟨o',e1⟩:=I.base.there b o e hx;exact⟨o',(hs.2 b (ZaS (ZaH (ZaB e) (I.ok.Di x c hfn hc)))).trans e1⟩;by_cases hj:j=i;subst hj;rw[hi]at e1;cases e1;rw[Zah hiσ]at e2;cases e2;exact⟨u,r,.inr ⟨.inl hk,c,hc,hc'⟩⟩;rw[Zak (Ne.symm hj)]at e2;obtain⟨u',r',q⟩:=hl j y v' e1 e2 e3;refine⟨u',r',?_⟩;rcases q with q|⟨k,c',e,z'⟩
 exact .inl q;refine .inr ⟨k,c',e,z'.sameBut hs ?_⟩;rintro rfl;exact hj (OW hN e1 (I.ok.inj _ _ _ e hc ▸ hi));by_cases hcc:c'=c;subst hcc;exact⟨_,hc'⟩;obtain⟨w2,z2⟩:=I.cell y c' e;exact⟨w2,z2.sameBut hs hcc⟩;obtain⟨e,n,ne,nf,d⟩:=I.pin p hp;refine⟨(hs.2 p.1 ?_).trans e,n,ne,nf,d⟩;intro q;rw[q,hoc]at e;have q':oc=p.2:=Zao e;exact d w' (by rw[<- q'];exact Lx)
def IP(I:Inv X pins σ H s)(hN:X.N.Nodup)(hi:X.N[i]?=some x)(hx:Loc X.env.scope x)(r:RelV v u)
  (h:∀s',Inv X pins (σ.set i (some v)) H s'->Q () s') (hf:X.fn x=true\/X.env.scope.names.lookup x=some .local:=by first|exact .inl rfl|exact .inr rfl|assumption):wpAny M A (storeName X.env x u) Q E s :=
 OX I hN hi hx r (λs' I' _=>h s' I') hf
def Inv.Dn(I:Inv X pins σ H s)(ho:s'.os=s.os)(u:Un (frs X.stack) ch H H' s.heap s'.heap)(hok:nh X.prog X.w H' s'.heap)(hg:AllBare s'.gens)
  (hch:∀b∈ch,(b∈X.ex\/X.s₀.heap.objs.size<=b)/\b≠X.env.locals/\(∀x c,X.env.cells.lookup x=some c->c≠b)/\∀p∈X.pn ++ pins,p.1≠b):Inv X pins σ H' s':=by
 obtain⟨h',g',d',t',o'⟩:=s';have e:o'=s.os:=ho;subst e;exact I.call (g':=g') (t':=t') (d':=d') u hok hg hch
end
@[reducible]def XK:=Value->Option Addr->Hp->Prop
@[reducible]def St:=List (Option V)
@[reducible]def VK:=V->Hp->Prop
@[reducible]def TE:=St->Hp->VK->Prop
@[reducible]def TT:=St->Hp->(Bool->Hp->Prop)->Prop
@[reducible]def TA:=St->Hp->(List V->Hp->Prop)->Prop
set_option genInjectivity false in
structure Ends where
 nx:St->Hp->Prop
 rt:VK
 bk:St->Hp->Prop:=λ_ _=>False
 ct:St->Hp->Prop:=λ_ _=>False
@[reducible]def TS:=Ends->St->Hp->Prop
abbrev EP(X:Cx)(pins:List (Addr×Obj))(σ:St)(Q:VK)(u:Value)(s':Shared):Prop:=∃v H',Inv X pins σ H' s'/\RelV v u/\Q v H'
abbrev TP(X:Cx)(pins:List (Addr×Obj))(σ:St)(Q:Bool->Hp->Prop)(b:Bool)(s':Shared):Prop:=∃H',Inv X pins σ H' s'/\Q b H'
abbrev AP(X:Cx)(pins:List (Addr×Obj))(σ:St)(Q:List V->Hp->Prop)(us:List Value)(s':Shared):Prop:=∃vs H',Inv X pins σ H' s'/\Vals vs us/\Q vs H'
abbrev SP(X:Cx)(pins:List (Addr×Obj))(D:Ends)(f:Flow)(s':Shared):Prop :=
 match f with
 |.next=>∃σ' H',Inv X pins σ' H' s'/\D.nx σ' H'
 |.brk=>∃σ' H',Inv X pins σ' H' s'/\D.bk σ' H'
 |.cont=>∃σ' H',Inv X pins σ' H' s'/\D.ct σ' H'
 |.ret u=>∃v σ' H',Inv X pins σ' H' s'/\RelV v u/\D.rt v H'
abbrev PE(X:Cx)(e:Expr)(t:TE):Prop :=
 ∀(pins:List (Addr×Obj)) (s:Shared) (σ:St) (H:Hp) (Q:VK),Inv X pins σ H s->t σ H Q->wpAny (model X.prog X.w) X.A (eval e X.env) (EP X pins σ Q) X.xe s
abbrev PT(X:Cx)(e:Expr)(t:TT):Prop :=
 ∀(pins:List (Addr×Obj)) (s:Shared) (σ:St) (H:Hp) (Q:Bool->Hp->Prop),Inv X pins σ H s->t σ H Q->wpAny (model X.prog X.w) X.A (isTrue e X.env (eval e X.env)) (TP X pins σ Q) X.xe s
abbrev PW(X:Cx)(e:Expr)(t:TT):Prop :=
 ∀(whole:Sem Value) (pins:List (Addr×Obj)) (s:Shared) (σ:St) (H:Hp) (Q:Bool->Hp->Prop),Inv X pins σ H s->t σ H Q->wpAny (model X.prog X.w) X.A (isTrue e X.env whole) (TP X pins σ Q) X.xe s
def PW.pt(h:PW X e t):PT X e t:=h _
abbrev PA(X:Cx)(es:List Expr)(t:TA):Prop :=
 ∀(pos:Pos) (pins:List (Addr×Obj)) (s:Shared) (σ:St) (H:Hp) (Q:List V->Hp->Prop),Inv X pins σ H s->t σ H Q->wpAny (model X.prog X.w) X.A (spliced (backTo pos (starEach es X.env))) (AP X pins σ Q) X.xe s
abbrev PS(X:Cx)(st:Stmt)(t:TS):Prop :=
 ∀(pins:List (Addr×Obj)) (s:Shared) (σ:St) (H:Hp) (D:Ends),Inv X pins σ H s->t D σ H->wpAny (model X.prog X.w) X.A (exec st X.env) (SP X pins D) X.xe s
abbrev sv(X:Cx)(st:List Stmt)(t:TS):Prop :=
 ∀(pins:List (Addr×Obj)) (s:Shared) (σ:St) (H:Hp) (D:Ends),Inv X pins σ H s->t D σ H->wpAny (model X.prog X.w) X.A (execs st X.env) (SP X pins D) X.xe s
def cg{α:Type}{t:Sem α}{Q Q':α->Shared->Prop}{M:Model}{A:Around}{E:Value->Shared->Prop}{s:Shared}(h:wpAny M A t Q E s)(hQ:∀a s,Q a s->Q' a s):wpAny M A t Q' E s:=wpAny_mono h hQ λ_ _ x=>x
section
variable {X:Cx}
abbrev uD(i:Nat):TE:=λσ H Q=>∃v,σ[i]?=some (some v)/\Q v H
abbrev tC(v:V):TE:=λ_ H Q=>Q v H
def zq{i:Nat}{x:Str}{pos:Pos}(hN:X.N[i]?=some x)(hv:Lu X.env.scope x)(hd:(x == ("__debug__" : Str))=false:=by decide)(hcd:(x == ("__classdict__" : Str))=false:=by decide):PE X (.Name x pos) (uD i):=by
 intro pins s σ H Q I h;obtain⟨v,e,h⟩:=h;obtain⟨m,hn,hl⟩:=I.loc;obtain⟨u,r,l⟩:=hl i x v hN e hv;have fin:EP X pins σ Q u s:=⟨v,H,I,r,h⟩;rcases l with⟨hk,hm⟩|⟨hk,c,hc,hcell⟩
 exact wpAny_Name (wpAny_loadName_local I.ok.kind hk hn hm fin) hd;rcases hk with hk|hk
 exact wpAny_Name (wpAny_loadName_cell I.ok.kind hk hc hcell fin) hd;exact wpAny_Name (wpAny_loadName_free I.ok.kind hk hc hcell fin hcd) hd
def aG{i j pos}:PE X (.Constant (.int i) j pos) (tC (.int i)):=λ_ _ _ H _ I h=>wpAny_Constant_int ⟨.int i,H,I.tok _,⟨_,rfl⟩,h⟩
def zt{b j pos}:PE X (.Constant (.bool b) j pos) (tC (.bl b)):=λ_ _ _ H _ I h=>Constant_bool ⟨.bl b,H,I,rfl,h⟩
def Ly{j pos}:PE X (.Constant .none j pos) (tC .non):=λ_ _ _ H _ I h=>Constant_none ⟨.non,H,I,rfl,h⟩
def rA{x j pos}:PE X (.Constant (.str x) j pos) (tC (.str x)):=λ_ _ _ H _ I h=>Calls.Constant_str ⟨.str x,H,I.tok _,⟨_,rfl⟩,h⟩
abbrev Gl(X:Cx)(x:Str):Prop:=X.env.kindOf x=some .globalImplicit
def OY{E:Value->Shared->Prop}{pins:List (Addr×Obj)}{s:Shared}{σ:St}{H:Hp}{x:Str}{u:Value}{pos:Pos}{Q:Value->Shared->Prop}(I:Inv X pins σ H s)(hg:Gl X x)(hm:X.mg x=some u)(h:Q u s)
  (hd:(x == ("__debug__" : Str))=false:=by decide):wpAny (model X.prog X.w) X.A (eval (.Name x pos) X.env) Q E s :=
 Calls.Name_function_global I.ok.kind hg (Calls.loadGlobal_global (by rw[I.ok.glob];exact I.mod.glob.keeps I.bk) hm h) hd
def Cr{E:Value->Shared->Prop}{pins:List (Addr×Obj)}{s:Shared}{σ:St}{H:Hp}{x:Str}{u:Value}{pos:Pos}{Q:Value->Shared->Prop}(I:Inv X pins σ H s)(hg:Gl X x)(hm:X.mg x=none)(hv:bootBuiltins x=some u)(h:Q u s)
  (hn:x≠"__name__" := by decide) (hd:(x == ("__debug__" : Str))=false:=by decide):wpAny (model X.prog X.w) X.A (eval (.Name x pos) X.env) Q E s:=by
 obtain⟨mb,h1,h2⟩:=I.mod.blt;exact Calls.Name_function_global I.ok.kind hg (Calls.loadGlobal_builtin (by rw[I.ok.glob];exact I.mod.glob.keeps I.bk) hm (by rw[I.ok.blt];exact h1.keeps I.bk) ((h2 x hn).trans hv) h) hd
def Vz(hg:Gl X x)(hm:X.mg x=some u)(r:RelV v u)(hd:(x == ("__debug__" : Str))=false:=by decide):PE X (.Name x pos) (tC v) :=
 λ_ _ _ H _ I h=>OY I hg hm ⟨v,H,I,r,h⟩ hd
variable {a b:Expr}{ta tb:TE}{pos:Pos}
abbrev PC(X:Cx)(op:CmpOp)(a b:Expr)(t:TE):Prop :=
 ∀(pins:List (Addr×Obj)) (s:Shared) (σ:St) (H:Hp) (Q:VK),Inv X pins σ H s->t σ H Q ->
  wpAny (model X.prog X.w) X.A (eval a X.env) (λv s₁=>wpAny (model X.prog X.w) X.A (eval b X.env) (λu s₂=>wpAny (model X.prog X.w) X.A (compareOp op v u) (EP X pins σ Q) X.xe s₂) X.xe s₁) X.xe s
def uF(b:Expr)(h:op≠.In)(h2:op≠.NotIn):behindInMarks op b=false:=by
 have e1:(op == CmpOp.In)=false:=by cases op<;>first|rfl|exact absurd rfl h
 have e2:(op == CmpOp.NotIn)=false:=by cases op<;>first|rfl|exact absurd rfl h2
 cases b<;>simp[behindInMarks,e1,e2]
abbrev tB(t:TE):TT:=λσ H Q=>t σ H λx H1=>∃c,x=.bl c/\Q c H1
def OZ(h:PC X op a b t)(h1:behindInMarks op b=false:=by first|exact uF _ ∅ ∅|rfl):PT X (.Compare a [op] [b] pos) (tB t):=by intro pins s σ H Q I hw;refine wpAny_isTrue_Compare1 (cg (h pins s σ H _ I hw) λv s1 h1=>cg h1 λu s2 h2=>cg h2 λc s3 ⟨x,H1,I1,r1,q1⟩=>?_) h1;obtain⟨d,rfl,q⟩:=q1;cases r1;exact wpAny_truthy_bool ⟨H1,I1,q⟩
def zu(h:PE X e t)(he:∀whole,isTrue e X.env whole=(do let v <- whole;standAt e.pos;holding [v] (truthy v)):=by intro _;rfl):PT X e (tB t):=by intro pins s σ H Q I hw;refine isTrue_plain (cg (h pins s σ H _ I hw) λv s1 ⟨x,H1,I1,r1,q1⟩=>?_) (he _);obtain⟨d,rfl,q⟩:=q1;cases r1;exact wpAny_truthy_bool ⟨H1,I1,q⟩
variable {tA IQ:TT}{rest:List Expr}
abbrev Dp(t u:TT):TT:=λσ H Q=>t σ H λc H1=>if c=true then u σ H1 Q else Q false H1
abbrev O0(t u:TT):TT:=λσ H Q=>t σ H λc H1=>if c=true then Q true H1 else u σ H1 Q
abbrev Dq(t:TT):TT:=λσ H Q=>t σ H λc H1=>Q (!c) H1
def Lz(ha:PT X a tA):PW X (.BoolOp .And [a] pos) tA:=by
 intro wh pins s σ H Q I h;refine isTrue_and (cg (ha pins s σ H Q I h) λc s1 e=>?_);cases c with
 |true=>exact isTrue_and_nil e
 |false=>exact e
def LA(ha:PT X a tA):PW X (.BoolOp .Or [a] pos) tA:=by
 intro wh pins s σ H Q I h;refine isTrue_or (cg (ha pins s σ H Q I h) λc s1 e=>?_);cases c with
 |false=>exact isTrue_or_nil e
 |true=>exact e
def LB(ha:PT X a tA)(hb:PW X (.BoolOp .And (b :: rest) pos) IQ):PW X (.BoolOp .And (a :: b :: rest) pos) (Dp tA IQ):=by
 intro wh pins s σ H Q I h;refine isTrue_and (cg (ha pins s σ H _ I h) λc s1 ⟨H1,I1,q1⟩=>?_);cases c with
 |true=>exact hb wh pins s1 σ H1 Q I1 q1
 |false=>exact⟨H1,I1,q1⟩
def LC(ha:PT X a tA)(hb:PW X (.BoolOp .Or (b :: rest) pos) IQ):PW X (.BoolOp .Or (a :: b :: rest) pos) (O0 tA IQ):=by
 intro wh pins s σ H Q I h;refine isTrue_or (cg (ha pins s σ H _ I h) λc s1 ⟨H1,I1,q1⟩=>?_);cases c with
 |true=>exact⟨H1,I1,q1⟩
 |false=>exact hb wh pins s1 σ H1 Q I1 q1
def zv(ha:PT X a tA):PT X (.UnaryOp .Not a pos) (Dq tA):=by intro pins s σ H Q I h;exact isTrue_not (ha pins s σ H (λc H1=>Q (!c) H1) I h)
abbrev xN(ta tb:TE):TE:=λσ H Q=>ta σ H λx H1=>∃c,x=.bl c/\if c=true then tb σ H1 Q else Q (.bl false) H1
def zw{op}(h:PE X a t):PE X (.BoolOp op [a] pos) t:=λpins s σ H Q I hw=>BoolOp_one (h pins s σ H Q I hw)
def zx(ha:PE X a ta)(hb:PE X (.BoolOp .And (b :: rest) pos) tb):PE X (.BoolOp .And (a :: b :: rest) pos) (xN ta tb):=by
 intro pins s σ H Q I h;refine BoolOp_and (cg (ha pins s σ H _ I h) λv s1 ⟨x,H1,I1,r1,q1⟩=>?_);obtain⟨c,rfl,q1⟩:=q1;cases r1;refine wpAny_truthy_bool ?_;cases c with
 |true=>exact hb pins s1 σ H1 Q I1 q1
 |false=>exact⟨.bl false,H1,I1,rfl,q1⟩
abbrev O1(t:TT)(ta tb:TE):TE:=λσ H Q=>t σ H λc H1=>if c=true then ta σ H1 Q else tb σ H1 Q
def O2(hc:PT X c tA)(ha:PE X a ta)(hb:PE X b tb):PE X (.IfExp c a b pos) (O1 tA ta tb):=by
 intro pins s σ H Q I h;refine wpAny_IfExp (cg (hc pins s σ H _ I h) λd s1 ⟨H1,I1,q1⟩=>?_);cases d with
 |true=>exact ha pins s1 σ H1 Q I1 q1
 |false=>exact hb pins s1 σ H1 Q I1 q1
end
abbrev jW(K:Zfr)(H:Hp)(a:Addr)(xs:List V):Prop :=
 Rd H a (.lst xs) \/
  ∃(o:Obj) (its:Array Value) (n:Nat),K.lookup a=some o/\o.cls=.type "list" /\ o.dict=none/\o.data=.seq its n/\its.size<=sizeLine/\Vals xs its.toList
abbrev gg(K:Zfr)(H:Hp)(a:Addr)(xs:List V):Prop :=
 Rd H a (.tup xs) \/
  ∃(o:Obj) (its:Array Value) (n:Nat),K.lookup a=some o/\o.cls=.type "tuple" /\ o.dict=none/\o.data=.seq its n/\its.size<=sizeLine/\Vals xs its.toList
abbrev LD:Value->Option V
 |.none=>some .non
 |.bool b=>some (.bl b)
 |.int i _=>some (.int i)
 |.str x _=>some (.str x)
 |.bytes b _=>some (.uB b)
 |.float b _=>some (.Lp b)
 |.ref a=>some (.ref a)
 |.type n=>some (.ty n)
 |_=>none
def RelV.abs(r:RelV x u):LD u=some x:=by
 cases x with
 |non=>cases r;rfl
 |bl _=>cases r;rfl
 |int _=>obtain⟨t,rfl⟩:=r;rfl
 |str _=>obtain⟨t,rfl⟩:=r;rfl
 |uB _=>obtain⟨t,rfl⟩:=r;rfl
 |Lp _=>obtain⟨t,rfl⟩:=r;rfl
 |ref _=>cases r;rfl
 |ty _=>cases r;rfl
def RelV.inj{x y:V}{u:Value}(r:RelV x u)(q:RelV y u):x=y:=Zao (r.abs.symm.trans q.abs)
def Vals.inj:∀{xs ys:List V} {us:List Value},Vals xs us->Vals ys us->xs=ys
 |_,_,_,.nil,.nil=>rfl
 |_,_,_,.cons r t,.cons r' t'=>by rw[r.inj r',Vals.inj t t']
section
variable {X:Cx}{pins:List (Addr×Obj)}{σ:St}{H:Hp}{s:Shared}{a:Addr}{xs ys:List V}
def gg.of{K:Zfr}(h:H a=some (.tup xs)):gg K H a xs:=.inl (.inl h)
def Inv.list(I:Inv X pins σ H s)(h:jW X.K H a xs):∃its:List Value,Vals xs its/\PlainL s.heap a its.toArray/\xs.length<=sizeLine:=by
 rcases h with h|⟨o,its,n,hk,hc,hd,hs,hz,r⟩
 obtain⟨z,its,n,r,e⟩:=h.ok I.hok;exact⟨its,r,⟨_,n,e,rfl,rfl,rfl⟩,z⟩;refine⟨its.toList,r,⟨o,n,I.IK a o hk,hc,hd,by simpa using hs⟩,?_⟩;have e:=r.length;simp only[Zcf]at e;lk
def Inv.rN(I:Inv X pins σ H s)(h:gg X.K H a xs):∃its:List Value,Vals xs its/\pZ s.heap a its.toArray/\xs.length<=sizeLine:=by
 rcases h with h|⟨o,its,n,hk,hc,hd0,hs,hz,r⟩
 obtain⟨z,its,r,p⟩:=h.ok I.hok;exact⟨its,r,p,z⟩;refine⟨its.toList,r,⟨o,I.IK a o hk,hc,hd0,n,by simpa using hs⟩,?_⟩;have e:=r.length;simp only[Zcf]at e;lk
def Inv.tuple(I:Inv X pins σ H s)(h:gg X.K H a xs):∃its:List Value,Vals xs its/\IsTup s.heap a its.toArray/\xs.length<=sizeLine :=
 let ⟨its,r,p,z⟩:=I.rN h
 ⟨its,r,p.tup,z⟩
def Inv.qN(I:Inv X pins σ H s)(h:jW X.K H a xs)(h':jW X.K H a ys):xs=ys:=by
 obtain⟨its,r,⟨o,n,e,_,_,d⟩,_⟩:=I.list h;obtain⟨its',r',⟨o',n',e',_,_,d'⟩,_⟩:=I.list h';rw[e]at e';cases e';rw[d]at d';injection d' with d1 _;have:its=its':=by simpa using congrArg Array.toList d1
 subst this;exact r.inj r'
def Inv.jJ(I:Inv X pins σ H s)(h:gg X.K H a xs)(h':gg X.K H a ys):xs=ys:=by
 obtain⟨its,r,⟨o,e,_,n,d⟩,_⟩:=I.tuple h;obtain⟨its',r',⟨o',e',_,n',d'⟩,_⟩:=I.tuple h';rw[e]at e';cases e';rw[d]at d';injection d' with d1 _;have:its=its':=by simpa using congrArg Array.toList d1
 subst this;exact r.inj r'
end
@[reducible]def Cx.wish(X:Cx)(E:Value->Shared->Prop):Cx:={ X with xe:=E }
@[reducible]def Cx.oA(X:Cx):Cx:=X.wish λ_ _=>False
def Cx.Ok.wish{X:Cx}(ok:X.Ok)(E:Value->Shared->Prop):(X.wish E).Ok :=
 ⟨ok.mod,ok.kind,ok.glob,ok.blt,ok.above,ok.inj,ok.has,ok.Di,ok.hd,ok.frames,ok.stk,ok.OV,ok.bs,ok.xK,ok.uC,ok.wI,ok.oQ,ok.Cq⟩
def Cx.Ok.kW{X:Cx}{E:Value->Shared->Prop}(ok:(X.wish E).Ok):X.Ok :=
 ⟨ok.mod,ok.kind,ok.glob,ok.blt,ok.above,ok.inj,ok.has,ok.Di,ok.hd,ok.frames,ok.stk,ok.OV,ok.bs,ok.xK,ok.uC,ok.wI,ok.oQ,ok.Cq⟩
section
variable {X:Cx}{pins:List (Addr×Obj)}{σ:St}{H:Hp}{s:Shared}{E:Value->Shared->Prop}
def Inv.wish(I:Inv X pins σ H s)(E:Value->Shared->Prop):Inv (X.wish E) pins σ H s:=⟨I.ok.wish E,I.os,I.bare,I.base,I.loc,I.cell,I.free,I.mC,I.pin,I.hok,I.len⟩
def Inv.kW(I:Inv (X.wish E) pins σ H s):Inv X pins σ H s:=⟨I.ok.kW,I.os,I.bare,I.base,I.loc,I.cell,I.free,I.mC,I.pin,I.hok,I.len⟩
def SP.kW(h:SP (X.wish E) pins D f s'):SP X pins D f s':=by
 cases f with
 |next=>obtain⟨σ',H',I,q⟩:=h;exact⟨σ',H',I.kW,q⟩
 |brk=>obtain⟨σ',H',I,q⟩:=h;exact⟨σ',H',I.kW,q⟩
 |cont=>obtain⟨σ',H',I,q⟩:=h;exact⟨σ',H',I.kW,q⟩
 |ret u=>obtain⟨v,σ',H',I,r,q⟩:=h;exact⟨v,σ',H',I.kW,r,q⟩
def sv.oA{st:List Stmt}{t:TS}(h:sv X.oA st t):sv X st t:=λpins s σ H D I hw =>
 wpAny_mono (h pins s σ H D (I.wish _) hw) (λ_ _ q=>q.kW) λ_ _ z=>False.elim z
end
section
variable {X:Cx}{st:Stmt}{rest:List Stmt}{t u:TS}{e:Expr}{te:TE}{pos:Pos}
abbrev xO:TS:=λD σ H=>D.nx σ H
abbrev Dr(t u:TS):TS:=λD σ H=>t { D with nx:=u D } σ H
def kQ:sv X [] xO:=λ_ _ σ H _ I h=>wpAny_execs_nil ⟨σ,H,I,h⟩
def VA(h1:PS X st t)(h2:sv X rest u):sv X (st :: rest) (Dr t u):=by
 intro pins s σ H D I h;refine wpAny_execs_cons (cg (h1 pins s σ H { D with nx:=u D } I h) λf s1 q=>?_);cases f with
 |next =>
  obtain⟨σ',H',I',q⟩:=q;exact h2 pins s1 σ' H' D I' q
 |ret v=>exact q
 |brk=>exact q
 |cont=>exact q
def VB(h1:PS X st t):sv X [st] t:=by
 intro pins s σ H D I h;refine wpAny_execs_cons (cg (h1 pins s σ H D I h) λf s1 q=>?_);cases f with
 |next=>exact wpAny_execs_nil q
 |ret v=>exact q
 |brk=>exact q
 |cont=>exact q
def Inv.quiet{pins:List (Addr×Obj)}{σ:St}{H:Hp}{s:Shared}(I:Inv X pins σ H s):interactive X.env=false:=by simp[interactive,I.ok.kind]
abbrev xP(te:TE):TS:=λD σ H=>te σ H λ_ H1=>D.nx σ H1
def pC(he:PE X e te)(hs:swapsWith e none pos.line X.env=pure false:=by rfl):PS X (.Expr e pos) (xP te):=by intro pins s σ H D I h;exact wpAny_Expr_any (cg (he pins s σ H _ I h) λv s1 ⟨x,H1,I1,r1,q1⟩=>⟨σ,H1,I1,q1⟩) I.quiet hs
abbrev Ds(te:TE):TS:=λD σ H=>te σ H D.rt
def cN(he:PE X e te):PS X (.Return (some e) pos) (Ds te):=by intro pins s σ H D I h;exact wpAny_Return_some (cg (he pins s σ H _ I h) λv s1 ⟨x,H1,I1,r1,q1⟩=>⟨x,σ,H1,I1,r1,q1⟩)
abbrev Dt(c:TT)(t u:TS):TS:=λD σ H=>c σ H λb H1=>if b=true then t D σ H1 else u D σ H1
def Du{c:Expr}{a b:List Stmt}{tc:TT}(hc:PT X c tc)(ha:sv X a t)(hb:sv X b u):PS X (.If c a b pos) (Dt tc t u):=by
 intro pins s σ H D I h;refine wpAny_If (cg (hc pins s σ H _ I h) λd s1 ⟨H1,I1,q1⟩=>?_);cases d with
 |true=>exact ha pins s1 σ H1 D I1 q1
 |false=>exact hb pins s1 σ H1 D I1 q1
abbrev uG:TS:=λ_ _ _=>False
def O3:PS X st uG:=λ_ _ _ _ _ _ h=>h.elim
end
@[reducible]def TG:=V->St->Hp->(St->Hp->Prop)->Prop
@[reducible]def uH:=List V->St->Hp->(St->Hp->Prop)->Prop
abbrev PG(X:Cx)(target:Expr)(t:TG):Prop :=
 ∀(pins:List (Addr×Obj)) (s:Shared) (σ:St) (H:Hp) (v:V) (u:Value) (Q:St->Hp->Prop),Inv X pins σ H s->RelV v u->t v σ H Q ->
  wpAny (model X.prog X.w) X.A (assign target X.env u) (λ_ s'=>∃σ' H',Inv X pins σ' H' s'/\Q σ' H') X.xe s
abbrev Dw(X:Cx)(ts:List Expr)(t:uH):Prop :=
 ∀(pins:List (Addr×Obj)) (s:Shared) (σ:St) (H:Hp) (vs:List V) (us:List Value) (Q:St->Hp->Prop),Inv X pins σ H s->Vals vs us->t vs σ H Q ->
  wpAny (model X.prog X.w) X.A (assignInOrder ((assignEach ts X.env).map (·.2)) us) (λ_ s'=>∃σ' H',Inv X pins σ' H' s'/\Q σ' H') X.xe s
@[reducible]def zy:=V->V->V->Hp->(Hp->Prop)->Prop
abbrev Dx(X:Cx)(t:zy):Prop :=
 ∀(pins:List (Addr×Obj)) (s:Shared) (σ:St) (H:Hp) (o i v:V) (ov iv u:Value) (Q:Hp->Prop),Inv X pins σ H s->RelV o ov->RelV i iv->RelV v u->t o i v H Q ->
  wpAny (model X.prog X.w) X.A (setItem ov iv u) (λ_ s'=>∃H',Inv X pins σ H' s'/\Q H') X.xe s
section
variable {X:Cx}{pos:Pos}
abbrev qO(i:Nat):TG:=λv σ H Q=>Q (σ.set i (some v)) H
def cm(hN:X.N.Nodup)(hi:X.N[i]?=some x)(hx:Loc X.env.scope x)(hf:X.fn x=true\/X.env.scope.names.lookup x=some .local:=by first|exact .inl rfl|exact .inr rfl|assumption):PG X (.Name x pos) (qO i):=by intro pins s σ H v u Q I r h;exact wpAny_assign_Name (IP I hN hi hx r (λs' I'=>⟨_,H,I',h⟩) hf)
abbrev Dy:uH:=λvs σ H Q=>vs=[]/\Q σ H
abbrev xQ(t:TG)(u:uH):uH:=λvs σ H Q=>∃v r,vs=v :: r/\t v σ H λσ' H'=>u r σ' H' Q
def qE:Dw X [] Dy:=by intro pins s σ H vs us Q I r h;obtain⟨e,h⟩:=h;subst e;cases r;exact assignInOrder_nil ⟨σ,H,I,h⟩
def jt(h1:PG X e t)(h2:Dw X es u)
  (hs:(assignEach (e :: es) X.env).map (·.2)=assign e X.env :: (assignEach es X.env).map (·.2):=by rfl):Dw X (e :: es) (xQ t u):=by
 intro pins s σ H vs us Q I r h;obtain⟨v,vr,e1,h⟩:=h;subst e1;cases r with
 |cons r rr =>
  rw[hs];refine assignInOrder_cons (cg (h1 pins s σ H _ _ _ I r h) λ_ s1 ⟨σ1,H1,I1,q1⟩=>?_);exact h2 pins s1 σ1 H1 _ _ Q I1 rr q1
abbrev zz(K:Zfr)(n:Nat)(t:uH):TG:=λv σ H Q=>∃a xs,v=.ref a/\gg K H a xs/\xs.length=n/\t xs σ H Q
def qP{es:List Expr}{k:Nat}{t:uH}{n:Nat}(hc:X.calm=true)(h:Dw X es t)
  (hn:(assignEach es X.env).length=n:=by rfl) (hst:(assignEach es X.env).findIdx? (·.1)=none:=by rfl):PG X (.Tuple es k pos) (zz X.K n t):=by
 intro pins s σ H v u Q I r hw;obtain⟨a,xs,e1,hq,hl,hw⟩:=hw;subst e1;cases r;obtain⟨its,rv,ht,hz⟩:=I.tuple hq;refine assign_Tuple_tuple (I.ok.hd hc) ht (by simp[hn,<- hl,rv.length]) hst λh' hx=>?_;have I1:Inv X pins σ H { s with heap:=h' }:=I.kept (t':=s.toks) λb o e=>hx b o (ZaS (ZaB e)) e;exact h pins _ σ H xs _ Q I1 (by simpa using rv) hw
abbrev ni(to ti:TE)(t:zy):TG:=λv σ H Q=>to σ H λo H1=>ti σ H1 λi H2=>t o i v H2 λH3=>Q σ H3
def Cs(ho:PE X o to)(hi:PE X i ti)(hs:Dx X t)
  (ha:∀v,assign (.Subscript o i pos) X.env v=(do
   let ov <- holding [v] (eval o X.env)
   let iv <- holding [v,ov] (eval i X.env)
   standAt pos
   holding [v,ov,iv] (setItem ov iv v)
   release [v,ov,iv] []):=by intro _;rfl):PG X (.Subscript o i pos) (ni to ti t):=by
 intro pins s σ H v u Q I r h;rw[ha];refine wpAny_bind (wpAny_holding (cg (ho pins s σ H _ I h) λov s1 ⟨x,H1,I1,r1,q1⟩=>?_));refine wpAny_bind (wpAny_holding (cg (hi pins s1 σ H1 _ I1 q1) λiv s2 ⟨y,H2,I2,r2,q2⟩=>?_));refine wpAny_bind (wpAny_standAt (wpAny_bind (wpAny_holding (cg (hs pins s2 σ H2 x y v ov iv u _ I2 r1 r2 r q2) λ_ s3 ⟨H3,I3,q3⟩=>?_))));exact wpAny_release ⟨σ,H3,I3,q3⟩
abbrev wJ(te:TE)(g:TG):TS:=λD σ H=>te σ H λx H1=>g x σ H1 D.nx
def vX(he:PE X e te)(hg:PG X tg g)(hs:swapsWithSole [tg] e pos.line X.env=pure false:=by rfl)(hw:swappedStores [tg] e X.env=pure none:=by rfl)
  (h1:(assignEach [tg] X.env).map (·.2)=[assign tg X.env]:=by rfl):PS X (.Assign [tg] e pos) (wJ te g):=by
 intro pins s σ H D I h;refine wpAny_Assign_stores (cg (he pins s σ H _ I h) λv s1 ⟨x,H1,I1,r1,q1⟩=>?_) hs hw;rw[h1];exact cg (hg pins s1 σ H1 x v _ I1 r1 q1) λ_ s2 q=>q
def zA{i:Nat}{x:Str}{e:Expr}{te:TE}{pos':Pos}(hN:X.N.Nodup)(hi:X.N[i]?=some x)(hx:Loc X.env.scope x)(he:PE X e te)(hs:swapsWith e (some (.Name x pos')) pos.line X.env=pure false:=by rfl)(hf:X.fn x=true\/X.env.scope.names.lookup x=some .local:=by first | exact .inl rfl | exact .inr rfl | assumption):
  PS X (.Assign [.Name x pos'] e pos) (wJ te (qO i)):=by
 intro pins s σ H D I h;refine wpAny_Assign_Name (cg (he pins s σ H _ I h) λv s1 ⟨y,H1,I1,r1,q1⟩=>?_) hs;exact IP I1 hN hi hx r1 (λs2 I2=>⟨_,H1,I2,q1⟩) hf
abbrev Dz(i j:Nat)(ta:TA):TS:=λD σ H=>ta σ H λvs H1=>∃v w,vs=[v,w]/\D.nx ((σ.set i (some v)).set j (some w)) H1
def O4{kt k2 LF}(hc:X.calm=true)(hN:X.N.Nodup)(hi:X.N[i]?=some x)(hj:X.N[j]?=some y)(hij:i≠j)
  (hx:X.env.scope.names.lookup x=some .local) (hy:X.env.scope.names.lookup y=some .local) (ha:PA X [a,b] ta)
  (hw:swappedStores [.Tuple [.Name x px,.Name y py] kt pt] (.Tuple [a,b] k2 LF) X.env=pure (some [x,y]))
  (hs:swapsWithSole [.Tuple [.Name x px,.Name y py] kt pt] (.Tuple [a,b] k2 LF) pos.line X.env=pure false:=by rfl) :
  PS X (.Assign [.Tuple [.Name x px,.Name y py] kt pt] (.Tuple [a,b] k2 LF) pos) (Dz i j ta):=by
 intro pins s σ H D I h;rw[exec_Assign_arm];refine wpAny_bind (wpAny_standAt ?_);rw[hs];refine wpAny_bind (wpAny_pure ?_);rw[if_neg ∅];refine wpAny_bind (Tuple_ (cg (ha _ pins s σ H _ I h) λus s1 ⟨vs,H1,I1,r1,q1⟩=>?_));obtain⟨v,w,e1,q1⟩:=q1;subst e1;obtain⟨u1,u2,rfl,rv,rw'⟩:∃u1 u2,us=[u1,u2]/\RelV v u1/\RelV w u2:=by
  cases r1 with
  |cons p q =>
   cases q with
   |cons p' q' =>
    cases q';exact⟨_,_,rfl,p,p'⟩
 refine wpAny_newObj_type ?_ (by show 2<=sizeLine;decide);have I2:Inv X pins σ H1 { s1 with heap:=s1.heap.push { cls:=.type "tuple",data:=.seq [u1,u2].toArray } }:=I1.kept (t':=s1.toks) λb o e=>Zas _ e;rw[hw];refine wpAny_bind (wpAny_pure ?_);show wpAny (model X.prog X.w) X.A (do rule "assign.swapped-stores";let items <- unpackItems (.ref s1.heap.objs.size) 2 none;assignInOrder [λv=>bindName X.env y v,λv=>bindName X.env x v] items.reverse;pure Flow.next) _ _ _;refine wpAny_bind (wpAny_rule (wpAny_bind (unpackItems_tuple (items:=#[u1,u2]) (I.ok.hd hc) (IsTup.new s1.heap _) λh' hx'=>?_)));have I3:=I2.kept (h':=h') (t':=s1.toks) λb o e=>hx' b o (ZaS (ZaB e)) e;show wpAny _ _ (assignInOrder [λv=>bindName X.env y v,λv=>bindName X.env x v] [u2,u1] >>= λ_=>pure Flow.next) _ _ _;refine wpAny_bind (assignInOrder_cons (wpAny_bindName (IP I3 hN hj (.inl hy) rw' (λs2 I4=>?_) (.inr hy))));refine assignInOrder_cons (wpAny_bindName (IP I4 hN hi (.inl hx) rv (λs3 I5=>assignInOrder_nil (wpAny_pure ?_)) (.inr hx)));rw[List.set_comm _ _ (Ne.symm hij)]at I5;exact⟨_,H1,I5,q1⟩
end
section
variable {X:Cx}{pos:Pos}
abbrev uI(c:TT)(tb:TS):TS:=λD σ H=>∃W:Nat->St->Hp->Prop,(∃m,W m σ H)/\∀m σ H,W m σ H ->
 c σ H λb H1=>if b=true then∃N:St->Hp->Prop,(∀σ' H',N σ' H'->∃m',m' < m/\W m' σ' H')/\tb { D with nx:=N,ct:=N,bk:=D.nx } σ H1 else D.nx σ H1
def wK(hp:PassesOwn (model X.prog X.w) X.A X.env X.xe)(hc:PT X c tc)(hb:sv X body tb):PS X (.While c body [] pos) (uI tc tb):=by
 intro pins s σ H D I h;obtain⟨W,⟨m0,w0⟩,turn⟩:=h;refine wpAny_While (codeAny_whileLoop (λn s'=>∃σ' H',Inv X pins σ' H' s'/\W n σ' H') ?_ m0 ⟨σ,H,I,w0⟩);rintro n s1 ⟨σ1,H1,I1,w1⟩;refine wpAny_passesOwn hp (cg (hc pins s1 σ1 H1 _ I1 (turn n σ1 H1 w1)) λb s2 ⟨H2,I2,q2⟩=>?_);cases b with
 |true =>
  obtain⟨N,hN,q2⟩:=q2;rw[if_pos rfl];refine wpAny_passesOwn hp (cg (hb pins s2 σ1 H2 _ I2 q2) λf s3 q3=>?_);cases f with
  |next =>
   obtain⟨σ3,H3,I3,n3⟩:=q3;obtain⟨m',hm,w3⟩:=hN σ3 H3 n3;exact⟨m',hm,σ3,H3,I3,w3⟩
  |cont =>
   obtain⟨σ3,H3,I3,n3⟩:=q3;obtain⟨m',hm,w3⟩:=hN σ3 H3 n3;exact⟨m',hm,σ3,H3,I3,w3⟩
  |brk=>exact q3
  |ret v=>exact q3
 |false =>
  rw[if_neg Zam];exact wpAny_execs_nil ⟨σ1,H2,I2,q2⟩
end
set_option genInjectivity false in
structure It where
 go:Nat->Hp->Prop
 wL:Nat->Hp->V->Hp->Prop
 stop:Nat->Hp->Prop
abbrev nP(X:Cx)(pins:List (Addr×Obj))(H:Hp)(b:Addr):Prop :=
 H b=none/\b≠X.env.locals/\b ∉ X.fs/\(b∈X.ex\/X.s₀.heap.objs.size<=b)/\(∀x c,X.env.cells.lookup x=some c->c≠b)/\∀p∈X.pn ++ pins,p.1≠b
def Inv.rO{X:Cx}{pins:List (Addr×Obj)}{σ:St}{H H':Hp}{s:Shared}{b:Addr}(I:Inv X pins σ H s)(hb:s.heap.objs.size<=b)(hn:H' b=none):nP X pins H' b:=by refine⟨hn,Nat.ne_of_gt (ZaH I.lt hb),I.Dj hb,.inr (Zap I.sz hb),λx c e z=>?_,λp hp z=>?_⟩;obtain⟨v,q⟩:=I.cell x c e;exact absurd (ZaH q.lt (by rw[z];exact hb)) (ZbE _);exact absurd (ZaH (ZaB (I.pin p hp).1) (by rw[z];exact hb)) (ZbE _)
structure Turn(P:Program)(w:World)(K:Zfr)(tg:Expr)(J:It)(fp:List Addr)(it:Addr)(tn:Nat->Heap->Prop):Prop where
 mem:it∈fp
 obj:∀i h,tn i h->∀b∈fp,∃o,h.get? b=some o/\∀v,o.data≠.cell v
 keep:∀i h h',tn i h->(∀b∈fp,∀o,h.get? b=some o->h'.get? b=some o)->tn i h'
 item:∀(X:Cx),X.prog=P->X.w=w->X.K=K->X.calm=true->∀(i:Nat) (pins:List (Addr×Obj)) (s:Shared) (σ:St) (H:Hp) (E:Value->Shared->Prop),Inv X pins σ H s->(∀b∈fp,nP X pins H b)->tn i s.heap->J.go i H ->
  wpAny (model P w) X.A (pyNext (.ref it)) (λr s1=>∃u,r=some u /\
   wpAny (model P w) X.A (letOwnedTupleGo tg (.ref it) u) (λ_ s2=>∃x H',Inv X pins σ H' s2/\RelV x u/\J.wL i H x H'/\tn (i+1) s2.heap/\∀b∈fp,H' b=none) E s1) E s
 done:∀(X:Cx),X.prog=P->X.w=w->X.K=K->X.calm=true->∀(i:Nat) (pins:List (Addr×Obj)) (s:Shared) (σ:St) (H:Hp) (E:Value->Shared->Prop),Inv X pins σ H s->(∀b∈fp,nP X pins H b)->tn i s.heap->J.stop i H ->
  wpAny (model P w) X.A (pyNext (.ref it)) (λr s1=>r=none/\Inv X pins σ H s1) E s
 self:∀(A:Around) (i:Nat) (s:Shared) (Q:Value->Shared->Prop) (E:Value->Shared->Prop),tn i s.heap->Q (.ref it) s->wpAny (model P w) A (pyIter (.ref it)) Q E s
@[reducible]def TI:=St->Hp->(It->Hp->Prop)->Prop
abbrev LG(X:Cx)(pins:List (Addr×Obj))(σ:St)(tg:Expr)(R:It->Hp->Prop)(itv:Value)(s2:Shared):Prop :=
 ∃(it:Addr) (fp:List Addr) (tn:Nat->Heap->Prop) (J:It) (H':Hp),itv=.ref it/\Inv X pins σ H' s2/\Turn X.prog X.w X.K tg J fp it tn/\tn 0 s2.heap/\(∀b∈fp,nP X pins H' b)/\R J H'
abbrev PI(X:Cx)(tg iter:Expr)(wi:TI):Prop :=
 ∀(pins:List (Addr×Obj)) (s:Shared) (σ:St) (H:Hp) (R:It->Hp->Prop),Inv X pins σ H s->wi σ H R ->
  wpAny (model X.prog X.w) X.A (eval iter X.env) (λv s1=>wpAny (model X.prog X.w) X.A (pyIter v) (LG X pins σ tg R) X.xe s1) X.xe s
def IU(ho:s.heap.get? it=some o)(hc:o.cls=.type n)(hd:o.data=.fields vs)
  (hn:["enumerate","zip","dict_itemiterator","dict_reverseitemiterator","odict_iterator","itertools.zip_longest","itertools.pairwise"].contains n=false) (hQ:Q () s):wpAny M A (letOwnedTupleGo tg (.ref it) u) Q E s:=by
 unfold letOwnedTupleGo;cases tg<;>first
  |exact wpAny_pure hQ
  | (cases u <;> first
    |exact wpAny_pure hQ
    | (refine wpAny_bind (wpAny_load ho ?_)
       rw[hc,hd];show wpAny M A (if(["enumerate","zip","dict_itemiterator","dict_reverseitemiterator","odict_iterator","itertools.zip_longest","itertools.pairwise"].contains n && vs[0]? == some (rawInt _))=true then _ else _) Q E s;rw[if_neg (by intro h;rw[hn,Bool.false_and]at h;cases h)]
       exact wpAny_pure hQ))
abbrev O5(K:Zfr)(a:Addr):It :=
 ⟨λi H=>∃xs x,jW K H a xs/\xs[i]?=some x,λi H x H'=>H'=H/\∀xs,jW K H a xs->xs[i]?=some x,λi H=>∃xs,jW K H a xs/\xs.length<=i⟩
abbrev O6(K:Zfr)(a:Addr):It :=
 ⟨λi H=>∃xs x,gg K H a xs/\xs[i]?=some x,λi H x H'=>H'=H/\∀xs,gg K H a xs->xs[i]?=some x,λi H=>∃xs,gg K H a xs/\xs.length<=i⟩
abbrev DA(lo:Int)(n:Nat):It:=⟨λi _=>i<n,λi H x H'=>H'=H/\x=.int (lo+i),λi _=>n<=i⟩
def VC{P:Program}{w:World}{K:Zfr}{tg:Expr}(a it:Addr):Turn P w K tg (O5 K a) [it] it (λi h=>h.IsListIter it a i) where
 mem:=by simp
 obj:=λi h st b hb=>by
  have e:b=it:=by simpa using hb
  subst e;obtain⟨o,e,c,d⟩:=st;exact⟨o,e,λv z=>by rw[d]at z;cases z⟩
 keep:=λi h h' st k=>st.at λo e=>k it (by simp) o e
 item:=by
  intro X hP hw hK hc i pins s σ H E I hf st hg;subst hP hw hK;obtain⟨xs,x,hq,hx⟩:=hg;obtain⟨its,rv,p,hz⟩:=I.list hq;obtain⟨u,hu,ru⟩:=rv.get hx;obtain⟨f0,f1,f2,f3,f4,f5⟩:=hf it (by simp);refine wpAny_pyNext_list_item st p.isList (x:=u) (by simpa using hu) λh' st' sb=>?_;have I1:Inv X pins σ H { s with heap:=h' }:=I.turned (t':=s.toks) (λb o hb e=>(sb.2 b hb).trans e) f0 f1 f3 f4 f5;obtain⟨o,e,c,d⟩:=id st';exact⟨u,rfl,IU (s:={ s with heap:=h' }) e c d ∅ ⟨x,H,I1,ru,⟨rfl,λys hy=>by rw[I.qN hy hq];exact hx⟩,st',λb hb=>(hf b hb).1⟩⟩
 done:=by
  intro X hP hw hK hc i pins s σ H E I hf st hg;subst hP hw hK;obtain⟨xs,hq,hx⟩:=hg;obtain⟨its,rv,p,hz⟩:=I.list hq;obtain⟨f0,f1,f2,f3,f4,f5⟩:=hf it (by simp);have hl:=rv.length;exact wpAny_pyNext_list_end (I.ok.hd hc) st p.isList (by simp;lk) λh' eb=>⟨rfl,I.turned (t':=s.toks) (λb o hb e=>eb b o hb e) f0 f1 f3 f4 f5⟩
 self:=λ_ _ _ _ _ st h=>wpAny_pyIter_listiter st h
def VD{P:Program}{w:World}{K:Zfr}{tg:Expr}(a it:Addr):Turn P w K tg (O6 K a) [it] it (λi h=>h.IsTupleIter it a i) where
 mem:=by simp
 obj:=λi h st b hb=>by
  have e:b=it:=by simpa using hb
  subst e;obtain⟨o,e,c,d⟩:=st;exact⟨o,e,λv z=>by rw[d]at z;cases z⟩
 keep:=λi h h' st k=>st.at λo e=>k it (by simp) o e
 item:=by
  intro X hP hw hK hc i pins s σ H E I hf st hg;subst hP hw hK;obtain⟨xs,x,hq,hx⟩:=hg;obtain⟨its,rv,p,hz⟩:=I.tuple hq;obtain⟨u,hu,ru⟩:=rv.get hx;obtain⟨f0,f1,f2,f3,f4,f5⟩:=hf it (by simp);refine wpAny_pyNext_tuple_item st (show s.heap.IsTuple a its.toArray from p) (x:=u) (by simpa using hu) λh' st' sb=>?_;have I1:Inv X pins σ H { s with heap:=h' }:=I.turned (t':=s.toks) (λb o hb e=>(sb.2 b hb).trans e) f0 f1 f3 f4 f5;obtain⟨o,e,c,d⟩:=id st';exact⟨u,rfl,IU (s:={ s with heap:=h' }) e c d ∅ ⟨x,H,I1,ru,⟨rfl,λys hy=>by rw[I.jJ hy hq];exact hx⟩,st',λb hb=>(hf b hb).1⟩⟩
 done:=by
  intro X hP hw hK hc i pins s σ H E I hf st hg;subst hP hw hK;obtain⟨xs,hq,hx⟩:=hg;obtain⟨its,rv,p,hz⟩:=I.tuple hq;obtain⟨f0,f1,f2,f3,f4,f5⟩:=hf it (by simp);have hl:=rv.length;exact wpAny_pyNext_tuple_end (I.ok.hd hc) st (show s.heap.IsTuple a its.toArray from p) (by simp;lk) λh' eb=>⟨rfl,I.turned (t':=s.toks) (λb o hb e=>eb b o hb e) f0 f1 f3 f4 f5⟩
 self:=λ_ _ _ _ _ st h=>wpAny_pyIter_tupleiter st h
def VE{P:Program}{w:World}{K:Zfr}{tg:Expr}(it:Addr)(lo:Int)(n:Nat):Turn P w K tg (DA lo n) [it] it (λi h=>IsRangeIter h it (lo+(i:Nat)*1) ((n:Int)-(i:Nat)) 1) where
 mem:=by simp
 obj:=λi h st b hb=>by
  have e:b=it:=by simpa using hb
  subst e
  exact⟨_,st,λv z=>by
   have z':Data.fields _=Data.cell v:=z
   cases z'⟩
 keep:=λi h h' st k=>k it (by simp) _ st
 item:=by
  intro X hP hw hK hc i pins s σ H E I hf st hg;subst hP hw hK;obtain⟨f0,f1,f2,f3,f4,f5⟩:=hf it (by simp);have W:=Walks.range (prog:=X.prog) (w:=X.w) (I.ok.hd hc) it lo 1 n;refine W.item i s _ _ hg st λv h' tk hv st' kk=>?_;obtain⟨t,rfl⟩:=hv;have I1:Inv X pins σ H { s with heap:=h',toks:=tk }:=I.turned (λb o hb e=>kk b o (by simpa using hb) e) f0 f1 f3 f4 f5;refine⟨_,rfl,IU (s:={ s with heap:=h',toks:=tk }) (n:="range_iterator") st' rfl rfl ∅ ⟨.int (lo+i),H,I1,⟨t,?_⟩,⟨rfl,rfl⟩,st',λb hb=>(hf b hb).1⟩⟩;rw[Int.mul_one]
 done:=by
  intro X hP hw hK hc i pins s σ H E I hf st hg;subst hP hw hK;obtain⟨f0,f1,f2,f3,f4,f5⟩:=hf it (by simp);exact wpAny_pyNext_range_end (I.ok.hd hc) st (by have:n<=i:=hg;lk) λh' eb=>⟨rfl,I.turned (t':=s.toks) (λb o hb e=>eb b o hb e) f0 f1 f3 f4 f5⟩
 self:=λ_ _ _ _ _ st h=>wpAny_pyIter_rangeiter st h
section
variable {X:Cx}{tg:Expr}
abbrev uJ(K:Zfr)(tl:TE):TI:=λσ H R=>tl σ H λx H1=>∃a,x=.ref a/\(∃xs,jW K H1 a xs)/\R (O5 K a) H1
abbrev DB(K:Zfr)(tl:TE):TI:=λσ H R=>tl σ H λx H1=>∃a,x=.ref a/\(∃xs,gg K H1 a xs)/\R (O6 K a) H1
def Ct(hl:PE X l tl):PI X tg l (uJ X.K tl):=by
 intro pins s σ H R I h;refine cg (hl pins s σ H _ I h) λv s1 ⟨x,H1,I1,r1,q1⟩=>?_;obtain⟨a,e,⟨xs,hq⟩,q⟩:=q1;subst e;cases r1;obtain⟨its,rv,p,hz⟩:=I1.list hq;refine wpAny_pyIter_list p.isList ?_;refine⟨s1.heap.objs.size,[s1.heap.objs.size],_,_,H1,rfl,I1.kept (t':=s1.toks) λb o e=>Zas _ e,VC a _,⟨_,ZaA _ rfl,rfl,rfl⟩,λb hb=>?_,q⟩;have e:b=s1.heap.objs.size:=by simpa using hb
 subst e;exact I1.rO (Zad _) (I1.hok.fresh (Zad _))
def oS(hl:PE X l tl):PI X tg l (DB X.K tl):=by
 intro pins s σ H R I h;refine cg (hl pins s σ H _ I h) λv s1 ⟨x,H1,I1,r1,q1⟩=>?_;obtain⟨a,e,⟨xs,hq⟩,q⟩:=q1;subst e;cases r1;obtain⟨its,rv,p,hz⟩:=I1.tuple hq;refine wpAny_pyIter_tuple (show s1.heap.IsTuple a its.toArray from p) ?_;refine⟨s1.heap.objs.size,[s1.heap.objs.size],_,_,H1,rfl,I1.kept (t':=s1.toks) λb o e=>Zas _ e,VD a _,⟨_,ZaA _ rfl,rfl,rfl⟩,λb hb=>?_,q⟩;have e:b=s1.heap.objs.size:=by simpa using hb
 subst e;exact I1.rO (Zad _) (I1.hok.fresh (Zad _))
def O7{pins:List (Addr×Obj)}{σ:St}{H:Hp}{s:Shared}{R:It->Hp->Prop}{E:Value->Shared->Prop}{lo hi:Int}{t u v:Tok}{tk:Nat}(I:Inv X pins σ H s)(h1:-(2 ^ 62)<=lo)(h2:lo<2 ^ 62)(h3:-(2 ^ 62)<=hi)(h4:hi<2 ^ 62)
  (q:R (DA lo (hi-lo).toNat) H):wpAny (model X.prog X.w) X.A (pyIter (.ref s.heap.objs.size)) (LG X pins σ tg R) E { s with heap:=s.heap.push { cls:=.type "range",data:=.fields #[.int lo t,.int hi u,.int 1 v] },toks:=tk }:=by
 refine wpAny_pyIter_range (IsRange.new ..) (small_one h1 h2 h3 h4) ?_;have I1:Inv X pins σ H { s with heap:=s.heap.push { cls:=.type "range",data:=.fields #[.int lo t,.int hi u,.int 1 v] },toks:=tk }:=I.kept λb o e=>Zas _ e
 refine⟨(s.heap.push { cls:=.type "range",data:=.fields #[.int lo t,.int hi u,.int 1 v] }).objs.size,[(s.heap.push { cls:=.type "range",data:=.fields #[.int lo t,.int hi u,.int 1 v] }).objs.size],_,_,H,rfl,
  I1.kept (t':=tk) λb o e=>Zas _ e,VE _ lo (hi-lo).toNat,?_,λb hb=>?_,q⟩
 have e1:lo+((0:Nat):Int)*1=lo:=by simp
 have e2:(((hi-lo).toNat:Nat):Int)-((0:Nat):Int)=Builtin.Range.rangeSize lo hi 1:=by rw[rangeSize_one];split<;>lk
 show IsRangeIter _ _ (lo+((0:Nat):Int)*1) ((((hi-lo).toNat:Nat):Int)-((0:Nat):Int)) 1;rw[e1,e2];exact ZaA _ rfl;have e:b=(s.heap.push { cls:=.type "range",data:=.fields #[.int lo t,.int hi u,.int 1 v] }).objs.size:=by simpa using hb
 subst e;exact I1.rO (Zad _) (I1.hok.fresh (Zad _))
abbrev xR(ta:TA):TI:=λσ H R=>ta σ H λvs H1=>∃j:Int,vs=[.int j]/\-(2 ^ 62)<=j/\j<2 ^ 62/\R (DA 0 j.toNat) H1
abbrev xS(ta:TA):TI:=λσ H R=>ta σ H λvs H1=>∃i j:Int,vs=[.int i,.int j]/\(-(2 ^ 62)<=i/\i<2 ^ 62/\-(2 ^ 62)<=j/\j<2 ^ 62)/\R (DA i (j-i).toNat) H1
def rB(hg:Gl X "range")(hm:X.mg "range" = none)(ha:PA X [a] ta)(hs:starEach [a] X.env=[(false,eval a X.env)]:=by rfl):PI X tg (.Call (.Name "range" p) [a] [] pos) (xR ta):=by
 intro pins s σ H R I h;refine Call_ (Cr I hg hm boot_range (PyProof.Rows.callWith_type1 (cg (ha pos pins s σ H _ I h) λus s1 ⟨vs,H1,I1,r1,q1⟩=>?_) hs rfl));obtain⟨j,e,q1,q2,q⟩:=q1;subst e;cases r1 with
 |cons r rr =>
  cases rr;obtain⟨t,rfl⟩:=r;exact call_range_1 (O7 I1 ⋯ ⋯ q1 q2 (by simpa using q))
def VF{a b:Expr}{ta:TA}{p pos:Pos}(hg:Gl X "range")(hm:X.mg "range" = none)(ha:PA X [a,b] ta)(hs:starEach [a,b] X.env=[(false,eval a X.env),(false,eval b X.env)]:=by rfl)(hs2:starEach [b] X.env=[(false,eval b X.env)]:=by rfl):
  PI X tg (.Call (.Name "range" p) [a,b] [] pos) (xS ta):=by
 intro pins s σ H R I h;refine Call_ (Cr I hg hm boot_range (PyProof.Rows.callWith_type1 (cg (ha pos pins s σ H _ I h) λus s1 ⟨vs,H1,I1,r1,q1⟩=>?_) (by rw[hs,hs2]) (by rw[hs2];rfl)));obtain⟨i,j,e,⟨q1,q2,q3,q4⟩,q⟩:=q1;subst e;cases r1 with
 |cons r rr =>
  cases rr with
  |cons r' rr =>
   cases rr;obtain⟨t,rfl⟩:=r;obtain⟨t',rfl⟩:=r';exact call_range_2 (O7 I1 q1 q2 q3 q4 q)
abbrev DC(wi:TI)(g:TG)(tb:TS):TS:=λD σ H=>wi σ H λJ H1=>∃W:Nat->Nat->St->Hp->Prop,(∃m,W 0 m σ H1)/\∀i m σ H,W i m σ H ->
 (J.stop i H/\D.nx σ H)\/(J.go i H/\∃N:St->Hp->Prop,(∀σ' H',N σ' H'->∃m',m' < m/\W (i+1) m' σ' H')/\∀x H',J.wL i H x H'->g x σ H' λσ2 H2=>tb { D with nx:=N,ct:=N,bk:=D.nx } σ2 H2)
abbrev oT(fp:List Addr)(h:Heap):List (Addr×Obj):=fp.filterMap λb=>(h.get? b).map λo=>(b,o)
def IW(hb:b∈fp)(e:h.get? b=some o):(b,o)∈oT fp h:=List.mem_filterMap.mpr ⟨b,hb,by rw[e];rfl⟩
def VG(hp:p∈oT fp h):p.1∈fp/\h.get? p.1=some p.2:=by
 obtain⟨b,hb,e⟩:=List.mem_filterMap.mp hp;cases q:h.get? b with
 |none=>rw[q]at e;cases e
 |some o =>
  rw[q]at e;have e':(b,o)=p:=Zao e;subst e';exact⟨hb,q⟩
def Inv.pinned{pins:List (Addr×Obj)}{σ:St}{H:Hp}{s:Shared}{fp:List Addr}(I:Inv X pins σ H s)(hf:∀b∈fp,nP X pins H b)(ho:∀b∈fp,∃o,s.heap.get? b=some o/\∀v,o.data≠.cell v):Inv X (pins ++ oT fp s.heap) σ H s :=
 I.oz λp hp=>(Zax.mp hp).elim (λz=>I.pin p (ZaK _ z)) λz=>by
  obtain⟨hb,e⟩:=VG z;obtain⟨f0,f1,f2,_⟩:=hf p.1 hb;obtain⟨o,e',d⟩:=ho p.1 hb;rw[e]at e';cases e';exact⟨e,f0,f1,f2,d⟩
def Inv.nt{pins pl:List (Addr×Obj)}{σ:St}{H:Hp}{s:Shared}(I:Inv X (pins ++ pl) σ H s):Inv X pins σ H s:=I.oz λp hp=>I.pin p (ZaK _ (Zbi _ hp))
def zB{iter:Expr}{body:List Stmt}{wi:TI}{g:TG}{tb:TS}{pos:Pos}(hp:PassesOwn (model X.prog X.w) X.A X.env X.xe)(hc:X.calm=true)(hi:PI X tg iter wi)(hg:PG X tg g)(hb:sv X body tb)
  (hs:∀x,foldedSetIterable iter X.env x=pure x:=by intro _;rfl):PS X (.For tg iter body [] pos) (DC wi g tb):=by
 intro pins s σ H D I h;refine wpAny_For (cg (hi pins s σ H _ I h) λv s1 h1=>cg h1 λitv s2 h2=>?_) hs;obtain⟨it,fp,tn,J,H2,e,I2,T,st2,f2,W,⟨m0,w0⟩,turn⟩:=h2;subst e;have stat:∀{H':Hp},(∀b∈fp,H' b=none)->∀b∈fp,nP X pins H' b:=λhn b hb=>⟨hn b hb,(f2 b hb).2⟩;refine codeAny_forLoop_any (λn s'=>∃i σ' H',Inv X pins σ' H' s'/\tn i s'.heap/\(∀b∈fp,H' b=none)/\W i n σ' H') ?_ m0 ⟨0,σ,H2,I2,st2,λb hb=>(f2 b hb).1,w0⟩;rintro n s3 ⟨i,σ3,H3,I3,st3,O8,w3⟩;rcases turn i n σ3 H3 w3 with⟨stop,qn⟩|⟨go,N,hN,step⟩
 ·refine wpAny_passesOwn hp (cg (T.done X rfl rfl rfl hc i pins s3 σ3 H3 X.xe I3 (stat O8) st3 stop) λr s4 ⟨hr,I4⟩=>?_)
  subst hr;exact wpAny_execs_nil ⟨σ3,H3,I4,qn⟩
 ·refine wpAny_passesOwn hp (cg (T.item X rfl rfl rfl hc i pins s3 σ3 H3 X.xe I3 (stat O8) st3 go) λr s4 ⟨u,hr,h4⟩=>?_)
  subst hr;refine wpAny_passesOwn hp (cg h4 λ_ s5 ⟨x,H5,I5,r5,y5,pK,IX⟩=>?_);have VH:=I5.pinned (stat IX) (T.obj _ _ pK);refine wpAny_passesOwn hp (cg (hg _ s5 σ3 H5 x u _ VH r5 (step x H5 y5)) λ_ s6 ⟨σ6,H6,I6,q6⟩=>?_);refine wpAny_passesOwn hp (cg (hb _ s6 σ6 H6 _ I6 q6) λf s7 q7=>?_);have again:∀{σ7:St} {H7:Hp},Inv X (pins ++ oT fp s5.heap) σ7 H7 s7->N σ7 H7->∃m,m<n/\∃i σ' H',Inv X pins σ' H' s7/\tn i s7.heap/\(∀b∈fp,H' b=none)/\W i m σ' H':=λ{σ7 H7} I7 n7=>by
   obtain⟨m',hm,w7⟩:=hN σ7 H7 n7;refine⟨m',hm,i+1,σ7,H7,I7.nt,T.keep _ _ _ pK λb hb o e=>(I7.pin (b,o) (ZaK _ (ZaK _ (IW hb e)))).1,λb hb=>?_,w7⟩;obtain⟨o,e,d⟩:=T.obj _ _ pK b hb;exact(I7.pin (b,o) (ZaK _ (ZaK _ (IW hb e)))).2.1
  cases f with
  |next=>obtain⟨σ7,H7,I7,n7⟩:=q7;exact again I7 n7
  |cont=>obtain⟨σ7,H7,I7,n7⟩:=q7;exact again I7 n7
  |brk=>obtain⟨σ7,H7,I7,q7⟩:=q7;exact⟨σ7,H7,I7.nt,q7⟩
  |ret v=>obtain⟨x7,σ7,H7,I7,r7,q7⟩:=q7;exact⟨x7,σ7,H7,I7.nt,r7,q7⟩
end
@[reducible]def R2:=V->V->Hp->VK->Prop
abbrev mH(X:Cx)(f:Value->Value->Sem Value)(r:R2):Prop :=
 ∀(pins:List (Addr×Obj)) (s:Shared) (σ:St) (H:Hp) (x y:V) (v u:Value) (Q:VK),Inv X pins σ H s->RelV x v->RelV y u->r x y H Q ->
  wpAny (model X.prog X.w) X.A (f v u) (EP X pins σ Q) X.xe s
abbrev LH(X:Cx)(f:Value->Sem Value)(r:V->Hp->VK->Prop):Prop :=
 ∀(pins:List (Addr×Obj)) (s:Shared) (σ:St) (H:Hp) (x:V) (v:Value) (Q:VK),Inv X pins σ H s->RelV x v->r x H Q ->
  wpAny (model X.prog X.w) X.A (f v) (EP X pins σ Q) X.xe s
abbrev gh(X:Cx)(f:Value)(r:List V->Hp->VK->Prop):Prop :=
 ∀(pins:List (Addr×Obj)) (s:Shared) (σ:St) (H:Hp) (xs:List V) (us:List Value) (Q:VK),Inv X pins σ H s->Vals xs us->r xs H Q ->
  wpAny (model X.prog X.w) X.A (call f us) (EP X pins σ Q) X.xe s
abbrev DE(r:R2)(ta tb:TE):TE:=λσ H Q=>ta σ H λx H1=>tb σ H1 λy H2=>r x y H2 Q
abbrev O9(r:V->Hp->VK->Prop)(ta:TE):TE:=λσ H Q=>ta σ H λx H1=>r x H1 Q
abbrev rI(C:Int->Int->Prop)(g:Int->Int->V):R2:=λx y H Q=>∃i j,x=.int i/\y=.int j/\C i j/\Q (g i j) H
abbrev tD(g:Int->Int->V):R2:=λx y H Q=>∃i j,x=.int i/\y=.int j/\Q (g i j) H
abbrev rU(g:Int->V):V->Hp->VK->Prop:=λx H Q=>∃i,x=.int i/\Q (g i) H
section
variable {X:Cx}{a b c:Expr}{ta tb tc:TE}{pos:Pos}
def zC(ha:PE X a ta)(hb:PE X b tb){pins:List (Addr×Obj)}{s:Shared}{σ:St}{H:Hp}{R:V->V->Hp->Prop}(I:Inv X pins σ H s)
  (h:ta σ H λx H1=>tb σ H1 λy H2=>R x y H2) {Q:Value->Shared->Prop} {f:Value->Value->Sem Value}
  (hf:∀v u s2 x y H2,Inv X pins σ H2 s2->RelV x v->RelV y u->R x y H2->wpAny (model X.prog X.w) X.A (f v u) Q X.xe s2) :
  wpAny (model X.prog X.w) X.A (eval a X.env) (λv s₁=>wpAny (model X.prog X.w) X.A (eval b X.env) (λu s₂=>wpAny (model X.prog X.w) X.A (f v u) Q X.xe s₂) X.xe s₁) X.xe s:=by
 refine cg (ha pins s σ H _ I h) λv s1 ⟨x,H1,I1,r1,q1⟩=>?_;refine cg (hb pins s1 σ H1 _ I1 q1) λu s2 ⟨y,H2,I2,r2,q2⟩=>?_;exact hf v u s2 x y H2 I2 r1 r2 q2
def bq(ho:mH X (binaryOp op) r)(ha:PE X a ta)(hb:PE X b tb):PE X (.BinOp a op b pos) (DE r ta tb):=by intro pins s σ H Q I h;exact wpAny_BinOp (zC ha hb I h λv u s2 x y H2 I2 rx ry q=>ho pins s2 σ H2 x y v u Q I2 rx ry q)
def uh(ho:LH X (unaryOp op) r)(ha:PE X a ta):PE X (.UnaryOp op a pos) (O9 r ta):=by intro pins s σ H Q I h;exact UnaryOp_ (cg (ha pins s σ H _ I h) λv s1 ⟨x,H1,I1,r1,q1⟩=>ho pins s1 σ H1 x v Q I1 r1 q1)
def Cu{f:Value->Value->Sem Value}{C:Int->Int->Prop}{g:Int->Int->Int}
  (rule:∀(i j:Int) (t u:Tok) (s:Shared) (Q:Value->Shared->Prop) (E:Value->Shared->Prop),C i j->Q (.int (g i j) s.toks) { s with toks:=s.toks+1 }->wpAny (model X.prog X.w) X.A (f (.int i t) (.int j u)) Q E s) :
  mH X f (rI C λi j=>.int (g i j)):=by
 intro pins s σ H x y v u Q I rx ry h;obtain⟨i,j,rfl,rfl,hc,q⟩:=h;obtain⟨t,rfl⟩:=rx;obtain⟨t',rfl⟩:=ry;exact rule i j t t' s _ _ hc ⟨.int (g i j),H,I.tok _,⟨_,rfl⟩,q⟩
def DF{f:Value->Value->Sem Value}{g:Int->Int->Int}
  (rule:∀(i j:Int) (t u:Tok) (s:Shared) (Q:Value->Shared->Prop) (E:Value->Shared->Prop),Q (.int (g i j) s.toks) { s with toks:=s.toks+1 }->wpAny (model X.prog X.w) X.A (f (.int i t) (.int j u)) Q E s) :
  mH X f (tD λi j=>.int (g i j)):=by
 intro pins s σ H x y v u Q I rx ry h;obtain⟨i,j,rfl,rfl,q⟩:=h;obtain⟨t,rfl⟩:=rx;obtain⟨t',rfl⟩:=ry;exact rule i j t t' s _ _ ⟨.int (g i j),H,I.tok _,⟨_,rfl⟩,q⟩
def zD{f:Value->Value->Sem Value}{g:Int->Int->Bool}
  (rule:∀(i j:Int) (t u:Tok) (s:Shared) (Q:Value->Shared->Prop) (E:Value->Shared->Prop),Q (.bool (g i j)) s->wpAny (model X.prog X.w) X.A (f (.int i t) (.int j u)) Q E s) :
  mH X f (tD λi j=>.bl (g i j)):=by
 intro pins s σ H x y v u Q I rx ry h;obtain⟨i,j,rfl,rfl,q⟩:=h;obtain⟨t,rfl⟩:=rx;obtain⟨t',rfl⟩:=ry;exact rule i j t t' s _ _ ⟨.bl (g i j),H,I,rfl,q⟩
abbrev DG(i j:Int):Prop:=0<j/\j<1073741824
abbrev DH(i j:Int):Prop:=0<=j/\j<=1000000/\i.natAbs<2 ^ 64
abbrev uK(i j:Int):Prop:=(-(2 ^ 64)<i/\i<2 ^ 64)\/(-(2 ^ 64)<j/\j<2 ^ 64)
def uK.ok(h:uK i j):IntMulOk i j:=by
 rcases h with⟨h1,h2⟩|⟨h1,h2⟩
 exact .of_left (intBits_le_64 h1 h2);exact .of_right (intBits_le_64 h1 h2)
def mI:mH X (binaryOp .Add) (tD λi j=>.int (i+j)):=DF λ_ _ _ _ _ _ _ q=>add_int q
def xT:mH X (binaryOp .Sub) (tD λi j=>.int (i-j)):=DF λ_ _ _ _ _ _ _ q=>sub_int q
def vY:mH X (binaryOp .Mult) (rI uK λi j=>.int (i*j)):=Cu λ_ _ _ _ _ _ _ hc q=>mul_int q hc.ok
def LI:mH X (binaryOp .FloorDiv) (rI DG λi j=>.int (i / j)):=Cu λi j _ _ _ _ _ hc q=>by
 have h1:(0:Int)<j:=hc.1;have h2:j<1073741824:=hc.2;exact floordiv_int ⋯ (by rw[Int.fdiv_eq_ediv_of_nonneg i ⋯];exact q) (.inl (PyProof.noPylong_small ⋯))
def tF:mH X (binaryOp .Mod) (rI (λ_ j=>0<j) λi j=>.int (i % j)):=Cu λi j _ _ _ _ _ hc q=>by
 have h1:(0:Int)<j:=hc;exact mod_int' ⋯ (by rw[Int.fmod_eq_emod_of_nonneg i ⋯];exact q)
def Pa:mH X (binaryOp .Pow) (rI DH λi j=>.int (i ^ j.toNat)):=Cu λ_ _ _ _ _ _ _ hc q=>pow_int_small hc.1 hc.2.1 hc.2.2 q
def VI{f:Value->Sem Value}{g:Int->Int}
  (rule:∀(i:Int) (t:Tok) (s:Shared) (Q:Value->Shared->Prop) (E:Value->Shared->Prop),Q (.int (g i) s.toks) { s with toks:=s.toks+1 }->wpAny (model X.prog X.w) X.A (f (.int i t)) Q E s) :
  LH X f (rU λi=>.int (g i)):=by
 intro pins s σ H x v Q I rx h;obtain⟨i,rfl,q⟩:=h;obtain⟨t,rfl⟩:=rx;exact rule i t s _ _ ⟨.int (g i),H,I.tok _,⟨_,rfl⟩,q⟩
def ui:LH X (unaryOp .USub) (rU λi=>.int (-i)):=VI λ_ _ _ _ _ q=>neg_int q
end
abbrev rP:V->V->Bool
 |.non,.non=>true|.non,.int _=>true|.int _,.non=>true|.non,.bl _=>true|.bl _,.non=>true|.non,.str _=>true|.str _,.non=>true
 |.int _,.int _=>true|.bl _,.bl _=>true|.str _,.str _=>true|.uB _,.uB _=>true
 |.int _,.str _=>true|.str _,.int _=>true|.bl _,.str _=>true|.str _,.bl _=>true
 |_,_=>false
abbrev Pb:R2:=λx y H Q=>rP x y=true/\Q (.bl (decide (x=y))) H
abbrev Pc:R2:=λx y H Q=>rP x y=true/\Q (.bl (!decide (x=y))) H
def Pd:decide (V.int i=V.int j)=(i == j):=by rw[ZbT];simp
def Pe:decide (V.bl i=V.bl j)=(i == j):=by rw[ZbT];simp
def Pf:decide (V.str i=V.str j)=(i == j):=by rw[ZbT];simp
def Pg:decide (V.uB i=V.uB j)=(i.toList == j.toList):=by rw[ZbT];cases i;cases j;simp
section
variable {X:Cx}{a b c:Expr}{ta tb tc:TE}{pos:Pos}
def mD{pins:List (Addr×Obj)}{σ:St}{H:Hp}{s:Shared}{Q:VK}{k k':Bool}(I:Inv X pins σ H s)(q:Q (.bl k) H)(e:k=k'):EP X pins σ Q (.bool k') s:=by subst e;exact⟨.bl k,H,I,rfl,q⟩
def oU:mH X (compareOp .Eq) Pb:=by
 intro pins s σ H x y v u Q I rx ry h;obtain⟨hs,q⟩:=h;cases x with
 |non =>
  cases rx;cases y with
  |non=>cases ry;exact PySem.EqNone.eq_none_none (mD I q (by simp))
  |bl j=>cases ry;exact PySem.EqNone.eq_none_bool (mD I q (by simp))
  |int j=>obtain⟨t',rfl⟩:=ry;exact PySem.EqNone.eq_none_int (mD I q (by simp))
  |str j=>obtain⟨t',rfl⟩:=ry;exact PySem.EqNone.eq_none_str (mD I q (by simp))
  |_=>exact absurd (show false=true from hs) Zam
 |bl i =>
  cases rx;cases y with
  |non=>cases ry;exact PySem.EqNone.eq_bool_none (mD I q (by simp))
  |bl j=>cases ry;exact eq_bool (mD I q Pe)
  |str j=>obtain⟨t',rfl⟩:=ry;exact PySem.EqMixed.eq_bool_str (mD I q (by simp))
  |_=>exact absurd (show false=true from hs) Zam
 |int i =>
  obtain⟨t,rfl⟩:=rx;cases y with
  |non=>cases ry;exact PySem.EqNone.eq_int_none (mD I q (by simp))
  |int j=>obtain⟨t',rfl⟩:=ry;exact eq_int (mD I q Pd)
  |str j=>obtain⟨t',rfl⟩:=ry;exact PySem.EqMixed.eq_int_str (mD I q (by simp))
  |_=>exact absurd (show false=true from hs) Zam
 |str i =>
  obtain⟨t,rfl⟩:=rx;cases y with
  |non=>cases ry;exact PySem.EqNone.eq_str_none (mD I q (by simp))
  |bl j=>cases ry;exact PySem.EqMixed.eq_str_bool (mD I q (by simp))
  |int j=>obtain⟨t',rfl⟩:=ry;exact PySem.EqMixed.eq_str_int (mD I q (by simp))
  |str j=>obtain⟨t',rfl⟩:=ry;exact eq_str (mD I q Pf)
  |_=>exact absurd (show false=true from hs) Zam
 |uB i =>
  obtain⟨t,rfl⟩:=rx;cases y with
  |uB j=>obtain⟨t',rfl⟩:=ry;exact PySem.W.eq_bytes (mD I q Pg)
  |_=>exact absurd (show false=true from hs) Zam
 |_=>cases y<;>exact absurd (show false=true from hs) Zam
def DI:mH X (compareOp .NotEq) Pc:=by
 intro pins s σ H x y v u Q I rx ry h;obtain⟨hs,q⟩:=h;cases x with
 |non =>
  cases rx;cases y with
  |non=>cases ry;exact PySem.EqNone.ne_none_none (mD I q (by simp))
  |bl j=>cases ry;exact PySem.EqNone.ne_none_bool (mD I q (by simp))
  |int j=>obtain⟨t',rfl⟩:=ry;exact PySem.EqNone.ne_none_int (mD I q (by simp))
  |str j=>obtain⟨t',rfl⟩:=ry;exact PySem.EqNone.ne_none_str (mD I q (by simp))
  |_=>exact absurd (show false=true from hs) Zam
 |bl i =>
  cases rx;cases y with
  |non=>cases ry;exact PySem.EqNone.ne_bool_none (mD I q (by simp))
  |bl j=>cases ry;exact ne_bool (mD I q (congrArg not Pe))
  |str j=>obtain⟨t',rfl⟩:=ry;exact PySem.EqMixed.ne_bool_str (mD I q (by simp))
  |_=>exact absurd (show false=true from hs) Zam
 |int i =>
  obtain⟨t,rfl⟩:=rx;cases y with
  |non=>cases ry;exact PySem.EqNone.ne_int_none (mD I q (by simp))
  |int j=>obtain⟨t',rfl⟩:=ry;exact ne_int (mD I q (congrArg not Pd))
  |str j=>obtain⟨t',rfl⟩:=ry;exact PySem.EqMixed.ne_int_str (mD I q (by simp))
  |_=>exact absurd (show false=true from hs) Zam
 |str i =>
  obtain⟨t,rfl⟩:=rx;cases y with
  |non=>cases ry;exact PySem.EqNone.ne_str_none (mD I q (by simp))
  |bl j=>cases ry;exact PySem.EqMixed.ne_str_bool (mD I q (by simp))
  |int j=>obtain⟨t',rfl⟩:=ry;exact PySem.EqMixed.ne_str_int (mD I q (by simp))
  |str j=>obtain⟨t',rfl⟩:=ry;exact ne_str (mD I q (congrArg not Pf))
  |_=>exact absurd (show false=true from hs) Zam
 |uB i =>
  obtain⟨t,rfl⟩:=rx;cases y with
  |uB j=>obtain⟨t',rfl⟩:=ry;exact PySem.W.ne_bytes (mD I q (congrArg not Pg))
  |_=>exact absurd (show false=true from hs) Zam
 |_=>cases y<;>exact absurd (show false=true from hs) Zam
def zE:mH X (compareOp .Lt) (tD λi j=>.bl (decide (i<j))):=zD λ_ _ _ _ _ _ _ q=>lt_int q
def xU:mH X (compareOp .Gt) (tD λi j=>.bl (decide (j<i))):=zD λ_ _ _ _ _ _ _ q=>gt_int q
def DJ:mH X (compareOp .GtE) (tD λi j=>.bl (decide (j<=i))):=zD λ_ _ _ _ _ _ _ q=>ge_int q
def zF:mH X (compareOp .Is) (λx y H Q=>y=.non/\Q (.bl (decide (x=.non))) H):=by
 intro pins s σ H x y v u Q I rx ry h;obtain⟨rfl,q⟩:=h;cases ry;refine is_none_gen (mD I q ?_);cases x<;>first
  |(cases rx;rfl)
  |(obtain⟨t,rfl⟩:=rx;rfl)
def aH(b:Expr)(h:op≠.In:=by decide)(h2:op≠.NotIn:=by decide):behindInMarks op b=false:=by
 have e1:(op == CmpOp.In)=false:=by cases op<;>first|rfl|exact absurd rfl h
 have e2:(op == CmpOp.NotIn)=false:=by cases op<;>first|rfl|exact absurd rfl h2
 cases b<;>simp[behindInMarks,e1,e2]
def DK(ho:mH X (compareOp op) r)(ha:PE X a ta)(hb:PE X b tb)(hm:behindInMarks op b=false):PE X (.Compare a [op] [b] pos) (DE r ta tb):=by intro pins s σ H Q I h;exact wpAny_Compare1 (zC ha hb I h λv u s2 x y H2 I2 rx ry q=>ho pins s2 σ H2 x y v u Q I2 rx ry q) hm
abbrev xV(t:TE):TT:=λσ H Q=>t σ H λx H'=>∃k,x=.bl k/\Q k H'
def eI(ho:mH X (compareOp op) r)(ha:PE X a ta)(hb:PE X b tb)(hm:behindInMarks op b=false):PT X (.Compare a [op] [b] pos) (xV (DE r ta tb)):=by
 intro pins s σ H Q I h
 refine wpAny_isTrue_Compare1 (cg (ha pins s σ H _ I h) λv s1 ⟨x,H1,I1,r1,q1⟩=>cg (hb pins s1 σ H1 _ I1 q1) λu s2 ⟨y,H2,I2,r2,q2⟩ =>
  cg (ho pins s2 σ H2 x y v u _ I2 r1 r2 q2) λc s3 ⟨z,H3,I3,r3,k,e,q3⟩=>?_) hm
 subst e;cases r3;exact wpAny_truthy_bool ⟨H3,I3,q3⟩
def nQ:(sizeLine:Nat)<2 ^ 63:=by rw[sizeLine_eq];decide
def vals1(r:Vals [x] us):∃u,us=[u]/\RelV x u:=by
 cases r with
 |cons r1 r2=>cases r2;exact⟨_,rfl,r1⟩
def vals2(r:Vals [x,y] us):∃u w',us=[u,w']/\RelV x u/\RelV y w':=by
 cases r with
 |cons r1 r2 =>
  cases r2 with
  |cons r3 r4=>cases r4;exact⟨_,_,rfl,r1,r3⟩
def Ph:gh X (.builtin "abs") (λxs H Q=>∃i,xs=[.int i]/\Q (.int (if i<0 then -i else i)) H):=by intro pins s σ H xs us Q I r h;obtain⟨i,rfl,q⟩:=h;obtain⟨u,rfl,t,rfl⟩:=vals1 r;exact call_abs_int λu tk=>⟨.int (if i<0 then -i else i),H,I.tok _,⟨_,rfl⟩,q⟩
def Pj(hc:X.calm=true):gh X (.builtin "max") (λxs H Q=>∃i j,xs=[.int i,.int j]/\Q (.int (if j > i then j else i)) H):=by intro pins s σ H xs us Q I r h;obtain⟨i,j,rfl,q⟩:=h;obtain⟨u,w',rfl,⟨t,rfl⟩,⟨t',rfl⟩⟩:=vals2 r;refine max_two_ints (I.ok.hd hc) λh' tk k=>⟨_,H,I.kept k,?_,q⟩;by_cases hj:j > i;rw[if_pos hj,if_pos hj];exact⟨_,rfl⟩;rw[if_neg hj,if_neg hj];exact⟨_,rfl⟩
def VJ(hc:X.calm=true):gh X (.builtin "min") (λxs H Q=>∃i j,xs=[.int i,.int j]/\Q (.int (if j<i then j else i)) H):=by intro pins s σ H xs us Q I r h;obtain⟨i,j,rfl,q⟩:=h;obtain⟨u,w',rfl,⟨t,rfl⟩,⟨t',rfl⟩⟩:=vals2 r;refine min_two_ints (I.ok.hd hc) λh' tk k=>⟨_,H,I.kept k,?_,q⟩;by_cases hj:j<i;rw[if_pos hj,if_pos hj];exact⟨_,rfl⟩;rw[if_neg hj,if_neg hj];exact⟨_,rfl⟩
def Pk:gh X (.type "int") (λxs H Q=>(∃i,xs=[.int i]/\Q (.int i) H)\/∃k,xs=[.bl k]/\Q (.int (if k then 1 else 0)) H):=by
 intro pins s σ H xs us Q I r h;rcases h with⟨i,rfl,q⟩|⟨k,rfl,q⟩
 obtain⟨u,rfl,t,rfl⟩:=vals1 r;exact call_int_int ⟨.int i,H,I,⟨_,rfl⟩,q⟩;obtain⟨u,rfl,r1⟩:=vals1 r;cases r1;exact call_int_bool ⟨.int (if k then 1 else 0),H,I.tok _,⟨_,rfl⟩,q⟩
end
def pB.some_of(r:pB (some v) o):∃u,o=some u/\RelV v u:=by
 cases o with
 |none=>exact(show False from r).elim
 |some u=>exact⟨u,rfl,r⟩
structure p6(K:Zfr)(C:Addr)(f:Str)(v:V)(u:Value):Prop where
 at_:PySem.W.findIn K (.ref C) f=some (some u)
 rel:RelV v u
 get:PySem.W.specialIn K u "__get__" = some none
 cp:PySem.W.copiedNames.contains f=false
structure iL(k:Nat)(A:Around):Prop where
 hd:A.handled=none
 dp:A.depth+3*k+5<recursionLimit
 un:A.units+16*k+200<cLine
 gd:A.guards=some []
def iL.mono(r:iL k A)(h:j<=k):iL j A:=⟨r.hd,by have:=r.dp;lk,by have:=r.un;lk,r.gd⟩
def iL.deeper(r:iL (k+1) A)(env:Env):iL k (A.deeper env) :=
 ⟨r.hd,by have:=r.dp;show A.depth+1+3*k+5<_;lk,by have:=r.un;show A.units+3+16*k+200<_;lk,r.gd⟩
def iL.depth(r:iL k A):A.depth<recursionLimit:=by have:=r.dp;lk
def iL.units(r:iL k A):A.units+64<cLine:=by have:=r.un;lk
abbrev DL:TA:=λ_ H Q=>Q [] H
abbrev xW(ta:TE)(tr:TA):TA:=λσ H Q=>ta σ H λx H1=>tr σ H1 λxs H2=>Q (x :: xs) H2
section
variable {X:Cx}{e:Expr}{es:List Expr}{te:TE}{t:TA}{pos:Pos}
def au:PA X [] DL:=λ_ _ _ _ H Q I h=>Calls.spliced_nil ⟨[],H,I,.nil,h⟩
def VL(ha:PE X e te)(hr:PA X es t)(hs:starEach (e :: es) X.env=(false,eval e X.env) :: starEach es X.env:=by rfl):PA X (e :: es) (xW te t):=by intro pos pins s σ H Q I h;rw[hs];show wpAny _ _ (spliced ((false,eval e X.env) :: backTo pos (starEach es X.env))) _ _ s;refine Calls.spliced_cons (cg (ha pins s σ H _ I h) λu s1 ⟨x,H1,I1,r1,q1⟩=>?_);exact cg (hr pos pins s1 σ H1 _ I1 q1) λus s2 ⟨xs,H2,I2,r2,q2⟩=>⟨x :: xs,H2,I2,.cons r1 r2,q2⟩
abbrev uL(t:TA):TE:=λσ H Q=>t σ H λxs H1=>xs.length<=sizeLine/\∀p,H1 p=none->Q (.ref p) (upd H1 p (.tup xs))
abbrev DM(t:TA):TE:=λσ H Q=>t σ H λxs H1=>xs.length<=sizeLine/\∀p,H1 p=none->Q (.ref p) (upd H1 p (.lst xs))
def dN{x1}(h:PA X es t):PE X (.Tuple es x1 pos) (uL t):=by intro pins s σ H Q I hq;refine wpAny_Tuple_spliced (cg (h pos pins s σ H _ I hq) λus s1 ⟨xs,H1,I1,r,z,q⟩=>⟨by rw[<- r.length];exact z,?_⟩);have hf:H1 s1.heap.objs.size=none:=I1.hok.fresh (Zad _);refine⟨.ref s1.heap.objs.size,upd H1 s1.heap.objs.size (.tup xs),I1.laid (t':=s1.toks) (λb u e=>Zas _ e) (Zad _) ?_,rfl,q _ hf⟩;exact⟨z,us,r,⟨_,ZaA _ rfl,rfl,rfl,_,rfl⟩⟩
def kR(h:PA X es t):PE X (.List es pos) (DM t):=by intro pins s σ H Q I hq;refine wpAny_List_spliced (cg (h pos pins s σ H _ I hq) λus s1 ⟨xs,H1,I1,r,z,q⟩=>⟨by rw[<- r.length];exact z,?_⟩);have hf:H1 s1.heap.objs.size=none:=I1.hok.fresh (Zad _);refine⟨.ref s1.heap.objs.size,upd H1 s1.heap.objs.size (.lst xs),I1.laid (t':=s1.toks) (λb u e=>Zas _ e) (Zad _) ?_,rfl,q _ hf⟩;exact⟨z,us,0,r,ZaA _ rfl⟩
end
@[reducible]def Sp:=List V->Hp->VK->XK->Prop
@[reducible]def sx:=List Env->Hp->Shared->XK->Value->Shared->Prop
structure wM(P:Program)(w:World)(K:Zfr)(mg:Str->Option Value)(base:Heap)(A:Around)(outer:List Env)(s:Shared)(H:Hp):Prop where
 frames:A.frames=some outer
 mod:Mod K mg base
 bs:∀b o,base.get? b=some o->s.heap.get? b=some o/\H b=none
 xK:base.objs.size<=s.heap.objs.size
 oQ:s.heap.FunFrames base outer
 Cq:∀b∈frs outer,H b=none
 hok:nh P w H s.heap
 bare:AllBare s.gens
abbrev CE(outer:List Env)(P:Program)(w:World)(H:Hp)(s:Shared)(Q:VK)(u:Value)(s':Shared):Prop :=
 ∃v H',s'.os=s.os/\AllBare s'.gens/\Un (frs outer) [] H H' s.heap s'.heap/\nh P w H' s'.heap/\RelV v u/\Q v H'
abbrev CR(CX:sx)(outer:List Env)(P:Program)(w:World)(H:Hp)(s:Shared)(Q:VK)(E:XK)(r:Result)(s':Shared):Prop :=
 match r with
 |.ok (.ret u)=>CE outer P w H s Q u s'
 |.ok _=>False
 |.error e=>CX outer H s E e s'
structure aC(P:Program)(w:World)(K:Zfr)(mg:Str->Option Value)(base:Heap)(CX:sx)(k:Nat)(f:Addr)(fd:FuncData)(ps:List Str)(sp:Sp):Prop where
 len:∀vs H Q E,sp vs H Q E->vs.length=ps.length
 run:∀(A:Around) (outer:List Env) (s:Shared) (H:Hp) (args:Args) (us:List Value) (vs:List V) (Q:VK) (E:XK),iL k A->wM P w K mg base A outer s H->BindsTo s fd args (ps.zip us)->Vals vs us->sp vs H Q E ->
  codeAny (model P w) A (.call (.ref f) args) (CR CX outer P w H s Q E) s
def aC.imp{P:Program}{w:World}{K:Zfr}{mg:Str->Option Value}{base:Heap}{CX:sx}{k:Nat}{f:Addr}{fd:FuncData}{ps:List Str}{sp Pm:Sp}(F:aC P w K mg base CX k f fd ps sp)
  (h:∀vs H Q E,Pm vs H Q E->sp vs H Q E):aC P w K mg base CX k f fd ps Pm :=
 ⟨λvs H Q E q=>F.len vs H Q E (h _ _ _ _ q),λA outer s H args us vs Q E hr he hb hv hs=>F.run A outer s H args us vs Q E hr he hb hv (h _ _ _ _ hs)⟩
section
variable {X:Cx}{pins:List (Addr×Obj)}{σ:St}{H:Hp}{s s':Shared}
def Inv.LJ(I:Inv X pins σ H s):wM X.prog X.w X.K X.mg X.base X.A X.stack s H :=
 ⟨I.ok.frames,I.ok.mod,I.bs,Zap I.ok.xK I.sz,I.stack,I.su,I.hok,I.bare⟩
def Inv.after(I:Inv X pins σ H s)(h:CE X.stack X.prog X.w H s Q u s'):EP X pins σ Q u s':=by obtain⟨v,H',os,bare,un,hok,r,q⟩:=h;obtain⟨hh,g,d,t,os'⟩:=s';obtain rfl:os'=s.os:=os;exact⟨v,H',I.call (h':=hh) (g':=g) (d':=d) (t':=t) (ch:=[]) un hok bare (λb z=>absurd z (by simp)),r,q⟩
end
abbrev qQ(sp:Sp)(pL:List V)(E:XK)(t:TA):TE:=λσ H Q=>t σ H λvs H1=>sp (vs ++ pL) H1 Q E
abbrev Binds(K:Zfr)(fd:FuncData)(ps:List Str)(ds:List Value):Prop :=
 ∀(s:Shared) (us:List Value),K.In s.heap->(us ++ ds).length=ps.length->BindsTo s fd ⟨us,[]⟩ (ps.zip (us ++ ds))
def Binds.all{K:Zfr}{fd:FuncData}{ps:List Str}(h:∀us:List Value,us.length=ps.length->bindArgs fd ⟨us,[]⟩=pure (ps.zip us)):Binds K fd ps []:=λs us _ hl=>by
 rw[Zbq]at hl ⊢;exact .of_eq (h us hl)
abbrev Passes(CX:sx)(X:Cx)(E:XK):Prop:=∀(pins:List (Addr×Obj)) (σ:St) (H:Hp) (s:Shared) (e:Value) (s':Shared),Inv X pins σ H s->CX X.stack H s E e s'->X.xe e s'
section
variable {X:Cx}{CX:sx}{k:Nat}{f C:Addr}{fd:FuncData}{ps:List Str}{sp:Sp}{pL:List V}{ds:List Value}{E:XK}{x m:Str}{p pos apos:Pos}{e o:Expr}{es:List Expr}{ta:TE}{t:TA}
def zG{pins:List (Addr×Obj)}{σ:St}{H:Hp}{s:Shared}{Q:VK}{us:List Value}{vs:List V}(F:aC X.prog X.w X.K X.mg X.base CX k f fd ps sp)(hr:iL k X.A)(hb:Binds X.K fd ps ds)(hd:Vals pL ds)(hx:Passes CX X E)
  (I:Inv X pins σ H s) (r:Vals vs us) (h:sp (vs ++ pL) H Q E):wpAny (model X.prog X.w) X.A (call (.ref f) us) (EP X pins σ Q) X.xe s:=by
 have r2:Vals (vs ++ pL) (us ++ ds):=r.append hd;have hl:(us ++ ds).length=ps.length:=by rw[<- r2.length];exact F.len _ _ _ _ h
 refine wpAny_call (codeAny_mono (F.run X.A X.stack s H ⟨us,[]⟩ (us ++ ds) (vs ++ pL) Q E hr I.LJ (hb s us I.IK hl) r2 h) λr s' hq=>?_);cases r with
 |error e=>exact hx pins σ H s e s' I hq
 |ok fl =>
  cases fl with
  |ret u=>exact I.after hq
  |next=>exact False.elim hq
  |brk=>exact False.elim hq
  |cont=>exact False.elim hq
def Pn(F:aC X.prog X.w X.K X.mg X.base CX k f fd ps sp)(hr:iL k X.A)(hg:Gl X x)(hm:X.mg x=some (.ref f))(hk:PySem.W.keepIn X.K (.ref f)=true)(hb:Binds X.K fd ps ds)(hd:Vals pL ds)(hx:Passes CX X E)
  (ha:PA X (e :: es) t) (hdb:(x == ("__debug__" : Str))=false:=by decide) (he:starEach (e :: es) X.env=(false,eval e X.env) :: starEach es X.env:=by rfl) (hpl:(backTo pos (starEach es X.env)).any (·.1)=false:=by rfl) :
  PE X (.Call (.Name x p) (e :: es) [] pos) (qQ sp pL E t):=by
 intro pins s σ H Q I h;refine wpAny_Call_Name_kw (OY I hg hm ?_ hdb);refine PySem.W.callWith_K (h₀:=X.base) I.ok.mod.Ls hk (cg (ha pos pins s σ H _ I h) λus s1 ⟨vs,H1,I1,r,q⟩=>⟨I1.IK,?_⟩) he hpl;exact zG F hr hb hd hx I1 r q
structure Mk(K:Zfr)(C f:Addr):Prop where
 makes:PySem.W.makesIn K C=true
 init:PySem.W.findIn K (.ref C) "__init__" = some (some (.ref f))
 fn:PySem.W.isFn K (.ref f)=true
 kp:PySem.W.keepIn K (.ref C)=true
end
structure ax(N P:List Str)(sc:Scope):Prop where
 kind:sc.kind=.function
 co:sc.isCoroutine=false
 gen:sc.isGenerator=false
 nd:N.Nodup
 pre:N.take P.length=P
 par:∀x∈P,sc.names.lookup x=some .local\/sc.names.lookup x=some .cell
 zH:∀y∈sc.names,y.2≠.free
def Po{kindOf:Str->Option NameKind}{x:Str}:∀{binds:List (Str×Value)} {m:Str->Option Value},(∀v,(x,v) ∉ binds)->bindL kindOf binds m x=m x
 |[],_,_=>rfl
 |(n,v) :: r,m,h=>by
  unfold bindL;rw[Po λw hw=>h w (Zal _ hw)];split
  have:x≠n:=by rintro rfl;exact h v Zai
  simp[this];rfl
def Pp{kindOf:Str->Option NameKind}{x:Str}:∀{binds:List (Str×Value)} {m:Str->Option Value},(∀v,(x,v) ∉ binds)->bindC kindOf binds m x=m x
 |[],_,_=>rfl
 |(n,v) :: r,m,h=>by
  unfold bindC;rw[Pp λw hw=>h w (Zal _ hw)];split;rfl
  have:x≠n:=by rintro rfl;exact h v Zai
  simp[this]
def Pq{kindOf:Str->Option NameKind}{x:Str}{v:Value}:∀{P:List Str} {vs:List Value} {i:Nat} {m:Str->Option Value},P.Nodup->P[i]?=some x->vs[i]?=some v->kindOf x=some .local ->
  bindL kindOf (P.zip vs) m x=some v
 |[],_,_,_,_,h,_,_=>by simp at h
 |_ :: _,[],_,_,_,_,h,_=>by simp at h
 |p :: P,w :: vs,0,m,nd,h1,h2,hk=>by
  simp at h1 h2;subst h1;subst h2;show bindL kindOf ((p,w) :: P.zip vs) m p=_;unfold bindL;rw[Po λv hv=>(Zbr.mp nd).1 (List.of_mem_zip hv).1,if_pos hk];simp
 |p :: P,w :: vs,i+1,m,nd,h1,h2,hk=>by
  show bindL kindOf ((p,w) :: P.zip vs) m x=_;unfold bindL;exact Pq (i:=i) (Zbr.mp nd).2 (by simpa using h1) (by simpa using h2) hk
def Pr{kindOf:Str->Option NameKind}{x:Str}{v:Value}:∀{P:List Str} {vs:List Value} {i:Nat} {m:Str->Option Value},P.Nodup->P[i]?=some x->vs[i]?=some v->kindOf x≠some .local ->
  bindC kindOf (P.zip vs) m x=some v
 |[],_,_,_,_,h,_,_=>by simp at h
 |_ :: _,[],_,_,_,_,h,_=>by simp at h
 |p :: P,w :: vs,0,m,nd,h1,h2,hk=>by
  simp at h1 h2;subst h1;subst h2;show bindC kindOf ((p,w) :: P.zip vs) m p=_;unfold bindC;rw[Pp λv hv=>(Zbr.mp nd).1 (List.of_mem_zip hv).1,if_neg hk];simp
 |p :: P,w :: vs,i+1,m,nd,h1,h2,hk=>by
  show bindC kindOf ((p,w) :: P.zip vs) m x=_;unfold bindC;exact Pr (i:=i) (Zbr.mp nd).2 (by simpa using h1) (by simpa using h2) hk
abbrev start(N:List Str)(vs:List V):St:=vs.map some ++ List.replicate (N.length-vs.length) none
abbrev fV(CX:sx)(P:Program)(w:World)(K:Zfr)(mg:Str->Option Value)(base:Heap)(N:List Str)(qual:Str)(scope:Scope)(f:Addr)(cd:Value)(A:Around)(outer:List Env)(s:Shared)(H:Hp)(E:XK):Cx where
 prog:=P
 w:=w
 K:=K
 mg:=mg
 base:=base
 A:=A.deeper (envOfC qual scope s.heap.objs.size f cd)
 N:=N
 s₀:=s
 H₀:=H
 env:=envOfC qual scope s.heap.objs.size f cd
 outer:=outer
 stack:=envOfC qual scope s.heap.objs.size f cd :: outer
 ex:=[]
 calm:=true
 fn:=λ_=>true
 pn:=[]
 xe:=λe s'=>wpAny (model P w) (A.deeper (envOfC qual scope s.heap.objs.size f cd)) («leaving» (envOfC qual scope s.heap.objs.size f cd) e) (λ_ s''=>CX outer H s E e s'') (λe' s''=>CX outer H s E e' s'') s'
def Pt{sc:Scope}{n:Nat}{x:Str}(h:sc.names.lookup x=some .cell):∃c,(cellsFrom n sc.names []).lookup x=some c:=by have q:=PySem.W.cellsFrom_some sc.names n [] (.inl h);exact ZbO.mp q
def VM{CX:sx}{P:Program}{w:World}{K:Zfr}{mg:Str->Option Value}{base:Heap}{N ps:List Str}{qual:Str}{scope:Scope}{f:Addr}{cd:Value}{A:Around}{outer:List Env}{s s1:Shared}{H:Hp}{E:XK}{us:List Value}{vs:List V}
  (S:ax N ps scope) (hd:A.handled=none) (e0:wM P w K mg base A outer s H) (hl:vs.length=ps.length) (r:Vals vs us)
  (x:InCallC s s.heap.objs.size (bindL (envOfC qual scope s.heap.objs.size f cd).kindOf (ps.zip us) λ_=>none) (cellsFrom (s.heap.objs.size+1) scope.names []) (bindC (envOfC qual scope s.heap.objs.size f cd).kindOf (ps.zip us) λ_=>none) s1) :
  Inv (fV CX P w K mg base N qual scope f cd A outer s H E) [] (start N vs) H s1:=by
 have hpl:ps.length<=N.length:=by have:=congrArg List.length S.pre;rw[Zbf]at this;lk
 obtain⟨h1,tk,rfl,hk⟩:=x.done;have DN:∀b:Addr,b ∉ (fV CX P w K mg base N qual scope f cd A outer s H E).ex:=λb z=>absurd (show b∈([]:List Addr)from z) (by simp)
 refine⟨⟨e0.mod,S.kind,rfl,rfl,Zad _,λy z c h1 h2=>?_,λy hy=>?_,λy c _ h=>?_,λ_=>hd,Around.frames_deeper e0.frames,.inr ⟨rfl,rfl⟩,λb z=>absurd z (DN b),e0.bs,e0.xK,λb _ _=>DN b,λb z=>absurd z (DN b),e0.oQ,e0.Cq⟩,
  rfl,e0.bare,Un.kept hk,⟨_,x.toInCall.ns,λi y v h1 h2 h3=>?_⟩,λy c h=>⟨_,x.cell y c h⟩,e0.hok.fresh (Zad _),λy c h=>?_,λp hp=>absurd (show p∈([]:List (Addr×Obj))from hp) (by simp),e0.hok.kept hk,?_⟩
 exact name_of_addr x.apart (PySem.mem_of_lookup h1) (PySem.mem_of_lookup h2);have hy:scope.names.lookup y=some .cell\/scope.names.lookup y=some .free:=hy;rcases hy with hy|hy
 exact Pt hy;exact absurd rfl (S.zH _ (PySem.mem_of_lookup hy));exact Zcv (x.above y c (PySem.mem_of_lookup h));have hi:i < vs.length:=by
  unfold start at h2;by_cases hi:i<vs.length;exact hi;rw[Zau (by simpa using hi)]at h2;rw[ZbS]at h2;split at h2<;>cases h2
 have ha:vs[i]?=some v:=by
  unfold start at h2;rw[Zan (by simpa using hi),Zag]at h2;cases e:vs[i]? with
  |none=>rw[e]at h2;cases h2
  |some a=>rw[e]at h2;cases h2;rfl
 obtain⟨u,hu,rv⟩:=r.get ha;have hp:ps[i]?=some y:=by
  rw[<- S.pre,List.getElem?_take_of_lt ⋯];exact h1
 have Pu:ps.Nodup:=by rw[<- S.pre];exact S.nd.sublist (List.take_sublist _ _)
 refine⟨u,rv,?_⟩;rcases S.par y (Zaj hp)with k|k
 exact .inl ⟨k,Pq Pu hp hu k⟩;obtain⟨c,e⟩:=Pt (n:=s.heap.objs.size+1) k;refine .inr ⟨.inl k,c,e,?_⟩;have q:=x.cell y c e;rw[Pr Pu hp hu (by show scope.names.lookup y≠_;rw[k];decide)]at q;exact q;exact e0.hok.fresh (Zcv (x.above y c (PySem.mem_of_lookup h)));unfold start;show _=N.length;rw[Zaf,Zaa,Zbd];lk
def xX{CX:sx}{P:Program}{w:World}{K:Zfr}{mg:Str->Option Value}{base:Heap}{k:Nat}{f:Addr}{name qual:Str}{params:Arguments}{body:List Stmt}{scope:Scope}{dV kV doc pm cdv ct oc:Value}{an od:Option Addr}
  {osl:Array (Option Value)} {N ps:List Str} {sp:Sp} (lk:K.lookup f=some ⟨oc,od,.func (PySem.W.fnOf name qual params body scope dV kV doc pm an cdv ct),osl⟩) (hcd:PySem.W.codeIn K cdv qual=true) (S:ax N ps scope)
  (len:∀vs H Q E,sp vs H Q E->vs.length=ps.length)
  (hbody:∀(A:Around) (outer:List Env) (s:Shared) (H:Hp) (vs:List V) (Q:VK) (E:XK),iL k (A.deeper (envOfC qual scope s.heap.objs.size f cdv))->sp vs H Q E ->
   ∃t,sv (fV CX P w K mg base N qual scope f cdv A outer s H E) body t/\t { nx:=λ_ H'=>Q .non H',rt:=Q } (start N vs) H) :
  aC P w K mg base CX (k+1) f (PySem.W.fnOf name qual params body scope dV kV doc pm an cdv ct) ps sp:=by
 refine⟨len,λA outer s H args us vs Q E hr e0 hb r uj=>?_⟩;have hl:=len _ _ _ _ uj;have KX:K.In s.heap:=e0.mod.Ls.keeps λb o e=>(e0.bs b o e).1;have lim:s.heap.NoLimit:=e0.mod.nolimit.keeps λb o e=>(e0.bs b o e).1;have hkind:∀y∈ps.zip us,scope.names.lookup y.1=some .local\/(scope.names.lookup y.1=some .cell/\((cellsFrom (s.heap.objs.size+1) scope.names []).lookup y.1).isSome=true):=λ⟨n,v⟩ hy=>by
  rcases S.par n (List.of_mem_zip hy).1 with q|q
  ·exact .inl q
  ·exact .inr ⟨q,PySem.W.cellsFrom_some _ _ _ (.inl q)⟩
 refine codeAny_call_function hr.depth (KX _ _ lk) rfl S.co S.gen rfl (PySem.W.codeRec_of KX hcd) (hb _ _ _ _ ?_);refine wpAny_newFunctionEnv_cells S.kind hkind λenv he s1 x=>?_;subst he;refine⟨lim.keeps x.toInCall.keep,codeAny_func ?_⟩;obtain⟨t,ht,hq⟩:=hbody A outer s H vs Q E (hr.deeper _) uj;have I:Inv (fV CX P w K mg base N qual scope f cdv A outer s H E) [] (start N vs) H s1:=VM S hr.hd e0 hl r x;refine wpAny_mono (ht [] s1 (start N vs) H _ I hq) (λfl s' hs=>?_) λe s' hs=>hs;have fin:∀{σ':St} {H':Hp} {v:V} {u:Value},Inv (fV CX P w K mg base N qual scope f cdv A outer s H E) [] σ' H' s'->RelV v u->Q v H'->CE outer P w H s Q u s' :=
  λ{σ' H' v u} J rv q=>⟨v,H',J.os,J.bare,J.base,J.hok,rv,q⟩
 cases fl with
 |ret u =>
  obtain⟨v,σ',H',J,rv,q⟩:=hs;exact fin J rv q
 |next =>
  obtain⟨σ',H',J,q⟩:=hs;exact fin (v:=V.non) (u:=Value.none) J rfl q
 |brk =>
  obtain⟨_,_,_,q⟩:=hs;exact False.elim q
 |cont =>
  obtain⟨_,_,_,q⟩:=hs;exact False.elim q
section
variable {X:Cx}{x:Str}{p pos:Pos}{e:Expr}{es:List Expr}{t:TA}{id T:String}{r:List V->Hp->VK->Prop}
abbrev LK(r:List V->Hp->VK->Prop)(t:TA):TE:=λσ H Q=>t σ H λvs H1=>r vs H1 Q
def jF(hc:gh X (.builtin id) r)(hg:Gl X x)(hm:X.mg x=none)(hv:bootBuiltins x=some (.builtin id))(ha:PA X (e :: es) t)(hn:x≠"__name__" := by decide)(hdb:(x == ("__debug__" : Str))=false:=by decide)
  (he:starEach (e :: es) X.env=(false,eval e X.env) :: starEach es X.env:=by rfl) (hpl:(backTo pos (starEach es X.env)).any (·.1)=false:=by rfl):PE X (.Call (.Name x p) (e :: es) [] pos) (LK r t):=by
 intro pins s σ H Q I h;refine wpAny_Call_Name_kw (Cr I hg hm hv ?_ hn hdb);exact PyProof.Rows.callWith_builtin1 (cg (ha pos pins s σ H _ I h) λus s1 ⟨vs,H1,I1,r1,q1⟩=>hc pins s1 σ H1 vs us Q I1 r1 q1) he hpl
def gj(hc:gh X (.type T) r)(hg:Gl X x)(hm:X.mg x=none)(hv:bootBuiltins x=some (.type T))(ha:PA X (e :: es) t)(hn:x≠"__name__" := by decide)(hdb:(x == ("__debug__" : Str))=false:=by decide)
  (he:starEach (e :: es) X.env=(false,eval e X.env) :: starEach es X.env:=by rfl) (hpl:(backTo pos (starEach es X.env)).any (·.1)=false:=by rfl):PE X (.Call (.Name x p) (e :: es) [] pos) (LK r t):=by
 intro pins s σ H Q I h;refine wpAny_Call_Name_kw (Cr I hg hm hv ?_ hn hdb);exact PyProof.Rows.callWith_type1 (cg (ha pos pins s σ H _ I h) λus s1 ⟨vs,H1,I1,r1,q1⟩=>hc pins s1 σ H1 vs us Q I1 r1 q1) he hpl
end
end L2
namespace HT
open PySem PyProof.Rows
def VN(A:Around)(s:Shared)(a:Int)(t:Tok)(c:Int)(u:Tok):∃e,SeqAt.EqAt A s (.int a t) (.int c u) e/\(e=true↔a=c) :=
 ⟨(a == c),SeqAt.EqAt.int_int a t c u,by simp⟩
section
variable {prog:Program}{w:World}{A:Around}{E:Value->Shared->Prop}{s:Shared}
def VO(ht:IsTup s.heap t vs.toArray)(hb:IsTup s.heap b ws.toArray)(hv:vs≠[])
  (h1:ws=[]->Q (.ref t) s) (h2:ws≠[]->Q (.ref s.heap.objs.size) { s with heap:=s.heap.push { cls:=.type "tuple",data:=.seq (vs ++ ws).toArray } })
  (hsz:vs.length+ws.length<=sizeLine):wpAny (model prog w) A (binaryOp .Add (.ref t) (.ref b)) Q E s:=by
 obtain⟨⟨cls,dd,data,sl⟩,ho,hc,n,hd⟩:=id ht;obtain⟨⟨LL,dd2,data2,sl2⟩,ho2,hc2,n2,hd2⟩:=id hb;simp only at hc hd hc2 hd2;subst hc hd hc2 hd2;have e:vs.toArray ++ ws.toArray=(vs ++ ws).toArray:=by simp
 by_cases hw:ws=[];exact concat_meets ⟨_,ho,rfl⟩ ⟨_,ho2,rfl⟩ noFill_tuple_add seq_tuple_add PySem.F.slot_tuple_add PySem.F.entry_tuple_add (PySem.F.args_tuple_add_2 _ _)
  (tuple_addW1 t b vs.toArray ws.toArray n n2 dd dd2 sl sl2 (by simpa using hv) (by simp[hw])) ⟨ho,ho2,h1 hw⟩
 refine concat_meets ⟨_,ho,rfl⟩ ⟨_,ho2,rfl⟩ noFill_tuple_add seq_tuple_add PySem.F.slot_tuple_add PySem.F.entry_tuple_add (PySem.F.args_tuple_add_2 _ _)
  (tuple_addW2 t b vs.toArray ws.toArray n n2 dd dd2 sl sl2 (by simpa using hv) (by simpa using hw) (by rw[Zaq,Zaq];exact hsz)) ⟨ho,ho2,?_⟩
 rw[e];exact h2 hw
abbrev cO(n d:Nat):Option Int->Nat
 |none=>d
 |some v=>if v<0 then(v+(n:Int)).toNat else min v.toNat n
def VP(n d:Nat):cO n d none=d:=rfl
def VQ(n d k:Nat):cO n d (some (k:Int))=min k n:=by show(if(k:Int)<0 then((k:Int)+(n:Int)).toNat else min (k:Int).toNat n)=min k n;rw[if_neg ⋯,Zat]
def zI(n d:Nat)(hd:d<=n)(o:Option Int):cO n d o<=n:=by
 cases o with
 |none=>exact hd
 |some v =>
  show(if v<0 then(v+(n:Int)).toNat else min v.toNat n)<=n;by_cases hv:v<0;rw[if_pos hv];lk;rw[if_neg hv];exact Nat.min_le_right _ _
def Pw(v:Int)(n d:Nat):(if v<0 then max (v+(n:Int)) 0 else min v (n:Int))=((cO n d (some v):Nat):Int):=by show(if v<0 then max (v+(n:Int)) 0 else min v (n:Int))=(((if v<0 then(v+(n:Int)).toNat else min v.toNat n):Nat):Int);by_cases hv:v<0;simp only[if_pos hv];lk;simp only[if_neg hv];lk
def VR(lo hi:Option Int)(n:Nat):Builtin.Slice.sliceAdjust lo hi 1 (n:Int)=(((cO n 0 lo:Nat):Int),((cO n n hi:Nat):Int)):=by
 have h1:¬((1:Int)<0):=by lk
 unfold Builtin.Slice.sliceAdjust;simp only[h1,if_false];refine Prod.ext ?_ ?_;cases lo with
 |none=>rfl
 |some v=>exact Pw v n 0
 cases hi with
 |none=>rfl
 |some v=>exact Pw v n n
def VS(i j:Nat):Builtin.Slice.slicePlaces (i:Int) (j:Int) 1=j-i:=by
 unfold Builtin.Slice.slicePlaces;have h1:(1:Int) > 0:=by lk
 simp only[h1,if_true,Int.ediv_one];split<;>lk
def Px(p:IsPart v o)(h:Q o s):wpAny (model prog w) A (Builtin.Slice.slicePartIndex v) Q E s:=by
 cases p with
 |none=>exact slicePart_none h
 |int i t=>exact slicePart_int h
def Py{sl:Addr}{vl vu:Value}{lo hi:Option Int}{n:Nat}{Q:Int×Int×Nat->Shared->Prop}(hs:s.heap.IsSliceOf sl vl vu .none)(pl:IsPart vl lo)(pu:IsPart vu hi)
  (h:Q (((cO n 0 lo:Nat):Int),1,cO n n hi-cO n 0 lo) s):wpAny (model prog w) A (Builtin.Slice.sliceApplied (.ref sl) (pure (n:Int))) Q E s:=by
 obtain⟨os,hos,hcs,hds⟩:=id hs;unfold Builtin.Slice.sliceApplied Builtin.Slice.sliceFields;refine wpAny_bind (wpAny_bind (wpAny_field hos hds (x:=vl) rfl (wpAny_bind (wpAny_field hos hds (x:=vu) rfl (wpAny_bind (wpAny_field hos hds (x:=.none) rfl (wpAny_pure ?_)))))));refine wpAny_bind (slicePart_none ?_);show wpAny _ _ (if((1:Int) == 0)=true then _ else _) _ _ s;rw[if_neg ∅];refine wpAny_bind (Px pl (wpAny_bind (Px pu (wpAny_bind (wpAny_pure ?_)))));show wpAny _ _ (match Builtin.Slice.sliceAdjust lo hi 1 (n:Int)with|(lo,hi)=>pure (lo,(1:Int),Builtin.Slice.slicePlaces lo hi 1)) _ _ s;rw[VR lo hi n];show wpAny _ _ (pure (((cO n 0 lo:Nat):Int),(1:Int),Builtin.Slice.slicePlaces ((cO n 0 lo:Nat):Int) ((cO n n hi:Nat):Int) 1)) _ _ s;rw[VS];exact wpAny_pure h
def VT(xs:Array Value)(i k:Nat):((List.range k).filterMap λ(m:Nat)=>xs[((i:Int)+(m:Int)*1).toNat]?).toArray=((xs.toList.drop i).take k).toArray:=by
 have e:(λ(m:Nat)=>xs[((i:Int)+(m:Int)*1).toNat]?)=λm=>xs[i+m]?:=by
  funext m
  have:((i:Int)+(m:Int)*1).toNat=i+m:=by lk
  rw[this]
 rw[e];have:=pick_run xs i k;rw[List.filterMap_map]at this;have e2:((λx=>xs[x]?) ∘ λx=>i+x)=λm=>xs[i+m]?:=rfl;rw[e2]at this;rw[this]
def VU{t sl:Addr}{items:Array Value}{vl vu:Value}{lo hi:Option Int}{Q:Value->Shared->Prop}(ht:IsTup s.heap t items)(hs:s.heap.IsSliceOf sl vl vu .none)(pl:IsPart vl lo)(pu:IsPart vu hi)
  (hw:¬(cO items.size 0 lo=0/\cO items.size items.size hi=items.size))
  (h:Q (.ref s.heap.objs.size) { s with heap:=s.heap.push { cls:=.type "tuple",data:=.seq ((items.toList.drop (cO items.size 0 lo)).take (cO items.size items.size hi-cO items.size 0 lo)).toArray } })
  (hsz:items.size<=sizeLine):wpAny (model prog w) A (getItem (.ref t) (.ref sl)) Q E s:=by
 have sy:sizeOk (.seq ((items.toList.drop (cO items.size 0 lo)).take (cO items.size items.size hi-cO items.size 0 lo)).toArray):=by
  show((items.toList.drop (cO items.size 0 lo)).take (cO items.size items.size hi-cO items.size 0 lo)).toArray.size<=sizeLine;rw[Zaq,Zbf,List.length_drop,Zcf];lk
 have hj:cO items.size items.size hi<=items.size:=zI _ _ (Zad _) hi;obtain⟨os,hos,hcs,hds⟩:=id hs;have LM:s.TypeIs (.ref sl) "slice" := ⟨os,hos,hcs⟩;unfold getItem
 try with_reducible refine wpAny_holding ?_
 first|refine wpAny_bind (wpAny_pure ?_)|skip
 refine wpAny_bind (wpAny_sequenceKey ht.typeIs ∅ ?_)
 refine wpAny_bind (wpAny_callSpecial?_slot (name:=Str.ofString "__getitem__") ht.typeIs PyProof.Rows.slot_tuple_getitem
  (wpAny_call_entry PyProof.Rows.slot_tuple_getitem ht.typeIs entry_tuple_getitem ?_ (args_tuple_getitem _ _)))
 show wpAny _ _ (Builtin.Tuple.tupleItemsOf (.ref t) >>= _) _ _ s;refine wpAny_bind (tupleItemsOf_ ht ?_);refine wpAny_bind (wpAny_typeOf LM ?_);rw[if_pos ∅];refine wpAny_bind (Py hs pl pu ?_);have hno:¬((((cO items.size 0 lo:Nat):Int) == 0 && (1:Int) == 1 && (cO items.size items.size hi-cO items.size 0 lo) == items.size)=true):=by
  intro q;rw[ZaD,ZaD]at q;have q1:((cO items.size 0 lo:Nat):Int)=0:=eq_of_beq q.1.1;have q2:cO items.size items.size hi-cO items.size 0 lo=items.size:=eq_of_beq q.2;exact hw ⟨by lk,by lk⟩
 show wpAny _ _ (if(((cO items.size 0 lo:Nat):Int) == 0 && (1:Int) == 1 && (cO items.size items.size hi-cO items.size 0 lo) == items.size)=true then _ else _) _ _ s;rw[if_neg hno,VT]
 first
  |exact wpAny_bind (m:=Builtin.Tuple.tupleExact _) (wpAny_newObj_type (wpAny_pure ⟨_,rfl,wpAny_pure h⟩) sy)
  |exact wpAny_bind (m:=Builtin.Tuple.tupleExact _) (wpAny_newObj_type (wpAny_bind (wpAny_pure (wpAny_pure ⟨_,rfl,wpAny_pure h⟩))) sy)
  |exact wpAny_bind (wpAny_bind (m:=Builtin.Tuple.tupleExact _) (wpAny_newObj_type (wpAny_pure (wpAny_pure ⟨_,rfl,wpAny_pure h⟩)) sy))
  |exact wpAny_bind (wpAny_bind (m:=Builtin.Tuple.tupleExact _) (wpAny_newObj_type (wpAny_pure ⟨_,rfl,wpAny_pure h⟩) sy))
end
end HT
namespace L2
open PySem PySem.Spec PyProof.Rows
@[reducible]def TO:=St->Hp->(Option Int->Hp->Prop)->Prop
abbrev PO(X:Cx)(e:Option Expr)(t:TO):Prop :=
 ∀(pins:List (Addr×Obj)) (s:Shared) (σ:St) (H:Hp) (Q:Option Int->Hp->Prop),Inv X pins σ H s->t σ H Q ->
  wpAny (model X.prog X.w) X.A (evalPart e X.env) (λu s'=>∃o H',Inv X pins σ H' s'/\IsPart u o/\Q o H') X.xe s
abbrev sA:TO:=λ_ H Q=>Q none H
abbrev xY(t:TE):TO:=λσ H Q=>t σ H λx H1=>∃i,x=.int i/\Q (some i) H1
def LN:∀{us:List Value},Vals (ns.map V.int) us->IntsAre us ns:=by
 induction ns with
 |nil=>intro us r;rw[ZaT]at r;cases r;exact .nil
 |cons n ns ih =>
  intro us r;rw[Zaz]at r;cases r with
  |cons r1 r2 =>
   obtain⟨t,e⟩:=r1;subst e;exact .cons n t (ih r2)
section
variable {X:Cx}{e:Expr}{te:TE}{lo hi:Option Expr}{tl th:TO}{pos p2:Pos}
def Pz:PO X none sA:=by intro pins s σ H Q I h;rw[evalPart_none];exact wpAny_pure ⟨none,H,I,.none,h⟩
def PB(h:PE X e te):PO X (some e) (xY te):=by intro pins s σ H Q I hw;rw[evalPart_some];refine cg (h pins s σ H _ I hw) λu s1 ⟨x,H1,I1,r1,q1⟩=>?_;obtain⟨i,rfl,q⟩:=q1;obtain⟨t,rfl⟩:=r1;exact⟨some i,H1,I1,.int i t,q⟩
abbrev IY(X:Cx)(r:V->Option Int->Option Int->Hp->VK->Prop):Prop :=
 ∀(pins:List (Addr×Obj)) (s:Shared) (σ:St) (H:Hp) (x:V) (v vl vu:Value) (lo hi:Option Int) (sl:Addr) (Q:VK),Inv X pins σ H s->RelV x v->s.heap.IsSliceOf sl vl vu .none->IsPart vl lo->IsPart vu hi->r x lo hi H Q ->
  ∃T id,typeLookup (.type T) "__getitem__" = pure (some (.builtin id))/\s.TypeIs v T/\wpAny (model X.prog X.w) X.A (getItem v (.ref sl)) (EP X pins σ Q) X.xe s
abbrev PD(r:V->Option Int->Option Int->Hp->VK->Prop)(te:TE)(tl th:TO):TE:=λσ H Q=>te σ H λx H1=>tl σ H1 λl H2=>th σ H2 λu H3=>r x l u H3 Q
def PH(hr:IY X r)(he:PE X e te)(hl:PO X lo tl)(hu:PO X hi th):PE X (.Subscript e (.Slice lo hi none p2) pos) (PD r te tl th):=by intro pins s σ H Q I h;refine Subscript_ (cg (he pins s σ H _ I h) λv s1 ⟨x,H1,I1,r1,q1⟩=>?_);refine wpAny_Slice (cg (hl pins s1 σ H1 _ I1 q1) λvl s2 ⟨l,H2,I2,pl,q2⟩=>cg (hu pins s2 σ H2 _ I2 q2) λvu s3 ⟨u,H3,I3,pu,q3⟩=>?_);rw[evalPart_none];refine wpAny_pure ?_;have I4:Inv X pins σ H3 { s3 with heap:=s3.heap.push { cls:=.type "slice",data:=.fields #[vl,vu,.none] } }:=I3.kept (t':=s3.toks) λb ob q=>Zas _ q;obtain⟨T,id,hT,ht,hg⟩:=hr pins { s3 with heap:=s3.heap.push { cls:=.type "slice",data:=.fields #[vl,vu,.none] } } σ H3 x v vl vu l u s3.heap.objs.size Q I4 r1 (Heap.IsSliceOf.new ..) pl pu q3;show wpAny (model X.prog X.w) X.A (subscriptTail e (.Slice lo hi none p2) v (.ref s3.heap.objs.size)) (EP X pins σ Q) X.xe { s3 with heap:=s3.heap.push { cls:=.type "slice",data:=.fields #[vl,vu,.none] } };exact tail_any (ops:=[.ref s3.heap.objs.size,v]) ht hT hg (by with_unfolding_all rfl)
abbrev oV(xs:List V)(lo hi:Option Int):List V:=(xs.drop (HT.cO xs.length 0 lo)).take (HT.cO xs.length xs.length hi-HT.cO xs.length 0 lo)
def PJ(xs:List V)(lo hi:Option Int):(oV xs lo hi).length<=xs.length:=by unfold oV;rw[Zbf,List.length_drop];lk
abbrev LO(K:Zfr):V->Option Int->Option Int->Hp->VK->Prop:=λx lo hi H Q=>∃a xs,x=.ref a/\gg K H a xs /\
 ¬(HT.cO xs.length 0 lo=0/\HT.cO xs.length xs.length hi=xs.length)/\∀p,H p=none->Q (.ref p) (upd H p (.tup (oV xs lo hi)))
def zJ:IY X (LO X.K):=by
 intro pins s σ H x v vl vu lo hi sl Q I rx hs pl pu h;obtain⟨a,xs,rfl,hx,hw,q⟩:=h;cases rx;obtain⟨its,r,ht,hz⟩:=I.tuple hx;have hlen:its.toArray.size=xs.length:=by rw[Zaq];exact r.length.symm
 refine⟨"tuple",_,PyProof.Rows.slot_tuple_getitem.lookup,ht.typeIs,?_⟩;refine HT.VU ht hs pl pu (by rw[hlen];exact hw) ?_ (by rw[hlen];exact hz);rw[hlen];refine⟨.ref s.heap.objs.size,_,I.laid (t':=s.toks) (o:=.tup (oV xs lo hi)) (λb ob q=>Zas _ q) (Zad _) ?_,rfl,q _ (I.hok.fresh (Zad _))⟩;exact⟨Zap (PJ xs lo hi) hz,_,(r.drop (HT.cO xs.length 0 lo)).take (HT.cO xs.length xs.length hi-HT.cO xs.length 0 lo),pZ.new _ _⟩
abbrev DO(K:Zfr):R2:=λx y H Q=>∃a b xs ys,x=.ref a/\y=.ref b/\gg K H a xs/\gg K H b ys/\xs≠[]/\xs.length+ys.length<=sizeLine /\
 (ys=[]->Q (.ref a) H)/\(ys≠[]->∀p,H p=none->Q (.ref p) (upd H p (.tup (xs ++ ys))))
def Vals.oB(r:Vals xs us):us=[]↔xs=[]:=by
 cases r with
 |nil=>simp
 |cons _ _=>simp
def VW:mH X (binaryOp .Add) (DO X.K):=by intro pins s σ H x y v u Q I rx ry h;obtain⟨a,b,xs,ys,rfl,rfl,ha,hb,hx,hz,q1,q2⟩:=h;cases rx;cases ry;obtain⟨its,r1,p1,_⟩:=I.tuple ha;obtain⟨its2,r2,p2,_⟩:=I.tuple hb;refine HT.VO p1 p2 (λz=>hx (r1.oB.mp z)) (λz=>⟨.ref a,H,I,rfl,q1 (r2.oB.mp z)⟩) (λz=>?_) (by rw[<- r1.length,<- r2.length];exact hz);refine⟨.ref s.heap.objs.size,_,I.laid (t':=s.toks) (o:=.tup (xs ++ ys)) (λb ob q=>Zas _ q) (Zad _) ?_,rfl,q2 (λw=>z (r2.oB.mpr w)) _ (I.hok.fresh (Zad _))⟩;exact⟨by rw[Zaf];exact hz,_,r1.append r2,pZ.new _ _⟩
end
abbrev oe(n:Nat)(i:Int):Option Nat:=if 0<=i then(if i<n then some i.toNat else none)else if -(n:Int)<=i then some (i+n).toNat else none
abbrev dM{α:Type}(xs:List α)(i:Int):Option α:=(oe xs.length i).bind λj=>xs[j]?
def LP(h:oe n i=some j):seqIndex? i n=some j/\j<n/\-(n:Int)<=i/\i<n:=by unfold oe at h;by_cases h0:0<=i;rw[if_pos h0]at h;by_cases h1:i<n;rw[if_pos h1]at h;have e:i.toNat=j:=Zao h;exact⟨by rw[seqIndex_of h0 h1,e],by lk,by lk,h1⟩;rw[if_neg h1]at h;cases h;rw[if_neg h0]at h;by_cases h1:-(n:Int)<=i;rw[if_pos h1]at h;have e:(i+n).toNat=j:=Zao h;exact⟨by rw[seqIndex_neg ⋯ h1,e],by lk,h1,by lk⟩;rw[if_neg h1]at h;cases h
def PK{α:Type}{xs:List α}{i:Int}{v:α}(h:dM xs i=some v):∃j,seqIndex? i xs.length=some j/\xs[j]?=some v/\j<xs.length/\-(xs.length:Int)<=i/\i<xs.length:=by
 unfold dM at h;cases e:oe xs.length i with
 |none=>rw[e]at h;cases h
 |some j =>
  rw[e]at h;obtain⟨h1,h2,h3,h4⟩:=LP e;exact⟨j,h1,h,h2,h3,h4⟩
def Cv{α:Type}{xs:List α}{j:Nat}{v:α}(h:xs[j]?=some v):dM xs (j:Int)=some v:=by
 have hj:j<xs.length:=(Zab.mp h).1;have e:oe xs.length (j:Int)=some j:=by
  unfold oe;rw[if_pos ⋯,if_pos ⋯];simp
 unfold dM;rw[e];exact h
abbrev wN(b:Expr):Prop:=∀o i,subscripted b false o i=operate [o,i] (getItem o i)
abbrev DP(X:Cx)(r:R2):Prop :=
 ∀(value slice:Expr) (pins:List (Addr×Obj)) (s:Shared) (σ:St) (H:Hp) (x y:V) (v u:Value) (Q:VK),Inv X pins σ H s->RelV x v->RelV y u->r x y H Q ->
  subscripted slice false v u=operate [v,u] (getItem v u)->wpAny (model X.prog X.w) X.A (subscriptTail value slice v u) (EP X pins σ Q) X.xe s
abbrev xZ(X:Cx)(id:String)(r:V->List V->Hp->VK->Prop):Prop :=
 ∀(pins:List (Addr×Obj)) (s:Shared) (σ:St) (H:Hp) (x:V) (xs:List V) (v:Value) (us:List Value) (Q:VK),Inv X pins σ H s->RelV x v->Vals xs us->r x xs H Q ->
  wpAny (model X.prog X.w) X.A (call (.builtin id) (v :: us)) (EP X pins σ Q) X.xe s
section
variable {X:Cx}{a b:Expr}{ta tb:TE}{pos:Pos}
def DQ{r:R2}(hr:DP X r)(ha:PE X a ta)(hb:PE X b tb)(hs:wN b):PE X (.Subscript a b pos) (DE r ta tb):=by intro pins s σ H Q I h;exact Subscript_ (zC ha hb I h λv u s2 x y H2 I2 rx ry q=>hr a b pins s2 σ H2 x y v u Q I2 rx ry q (hs _ _))
abbrev zK(K:Zfr):R2:=λx y H Q=>∃p xs i v,x=.ref p/\y=.int i/\jW K H p xs/\dM xs i=some v/\Q v H
abbrev zL(K:Zfr):R2:=λx y H Q=>∃p xs i v,x=.ref p/\y=.int i/\gg K H p xs/\dM xs i=some v/\Q v H
def og:DP X (zK X.K):=by
 intro value slice pins s σ H x y v u Q I rx ry h hs;obtain⟨p,xs,i,z,rfl,rfl,hq,he,q⟩:=h;cases rx;obtain⟨t,rfl⟩:=ry;obtain⟨its,r,pl,hz⟩:=I.list hq;obtain⟨j,h1,h2,h3,h4,h5⟩:=PK he;obtain⟨w,ew,rw'⟩:=r.get h2;have hl:=r.length;have hn:=nQ;have fin:EP X pins σ Q w s:=⟨z,H,I,rw',q⟩;by_cases h0:0<=i;have hj:i.toNat=j:=by
  rw[seqIndex_of h0 h5]at h1;exact Zao h1
 exact item_listR pl.isList h0 ⋯ (by rw[hj];simpa using ew) fin hs;have hj:(i + (its.toArray.size:Int)).toNat=j:=by
  rw[seqIndex_neg ⋯ h4]at h1;rw[Zaq,<- hl];exact Zao h1
 exact subscriptTail_builtinR (x:=w) pl.isList.typeIs slot_list_getitem.lookup
  (wpAny_getItem_list_neg (Q:=λr s'=>r=w/\EP X pins σ Q r s') pl.isList ⋯ (by rw[Zaq]<;>lk) ⋯ (by rw[hj];simpa using ew) ⟨rfl,fin⟩) hs
def bA:DP X (zL X.K):=by
 intro value slice pins s σ H x y v u Q I rx ry h hs;obtain⟨p,xs,i,z,rfl,rfl,hq,he,q⟩:=h;cases rx;obtain⟨t,rfl⟩:=ry;obtain⟨its,r,pl,hz⟩:=I.tuple hq;obtain⟨j,h1,h2,h3,h4,h5⟩:=PK he;obtain⟨w,ew,rw'⟩:=r.get h2;have hl:=r.length;have hn:=nQ;have fin:EP X pins σ Q w s:=⟨z,H,I,rw',q⟩;exact subscriptTail_builtinR (x:=w) pl.typeIs slot_tuple_getitem.lookup
  (getItem_tuple (j:=j) (Q:=λr s'=>r=w/\EP X pins σ Q r s') pl ⋯ ⋯ (by rw[Zaq,<- hl];exact h1) (by simpa using ew) ⟨rfl,fin⟩) hs
def VX(its:List Value)(n j:Nat)(u:Value):Obj.mapSeq (·.setIfInBounds j u) { cls:=.type "list",data:=.seq its.toArray n }={ cls:=.type "list",data:=.seq (its.set j u).toArray n }:=by simp[Obj.mapSeq]
def Inv.lst{pins:List (Addr×Obj)}{σ:St}{H:Hp}{s:Shared}{p:Addr}{xs:List V}(I:Inv X pins σ H s)(h:H p=some (.lst xs)):
  ∃(its:List Value) (n:Nat),Vals xs its/\s.heap.get? p=some { cls:=.type "list",data:=.seq its.toArray n }/\xs.length<=sizeLine:=by
 obtain⟨z,its,n,r,e⟩:=I.hok p _ h;exact⟨its,n,r,e,z⟩
def Inv.zM{pins:List (Addr×Obj)}{σ:St}{H:Hp}{s:Shared}{p:Addr}{xs ys:List V}{its its':List Value}{n n':Nat}{f:Obj->Obj}(I:Inv X pins σ H s)(h:H p=some (.lst xs))
  (ho:s.heap.get? p=some { cls:=.type "list",data:=.seq its.toArray n }) (hf:f { cls:=.type "list",data:=.seq its.toArray n }={ cls:=.type "list",data:=.seq its'.toArray n' }) (r:Vals ys its') (hz:ys.length<=sizeLine) (t:Nat) :
  Inv X pins σ (upd H p (.lst ys)) { s with heap:=s.heap.update p f,toks:=t }:=by
 have e:(s.heap.update p f).get? p=some { cls:=.type "list",data:=.seq its'.toArray n' }:=by
  rw[Zbm f ho (by rw[hf]<;>rfl),hf]
 refine I.write (x:=p) (e:=p) (by rw[h];trivial) (.inl rfl) (λb u hb q=>(Zbb _ _ (Ne.symm hb)).trans q) ⟨_,e⟩ ?_;exact⟨hz,its',n',r,e⟩
abbrev x4:V->V->V->Hp->(Hp->Prop)->Prop:=λo i v H Q=>∃p xs k j,o=.ref p/\i=.int k/\H p=some (.lst xs)/\oe xs.length k=some j/\Q (upd H p (.lst (xs.set j v)))
def Cw:Dx X x4:=by
 intro pins s σ H o i v ov iv u Q I ro ri rv h;obtain⟨p,xs,k,j,rfl,rfl,hp,hj,q⟩:=h;cases ro;obtain⟨t,rfl⟩:=ri;obtain⟨its,n,r,ho,hz⟩:=I.lst hp;obtain⟨h1,h2,h3,h4⟩:=LP hj;have hl:=r.length;have hn:=nQ;have I':Inv X pins σ (upd H p (.lst (xs.set j v))) { s with heap:=s.heap.update p (Obj.mapSeq (·.setIfInBounds j u)) } :=
  I.zM hp ho (VX its n j u) (r.set rv j) (by rw[Za8];exact hz) s.toks
 by_cases h0:0<=k;have hk:k.toNat=j:=by
  rw[seqIndex_of h0 h4]at h1;exact Zao h1
 exact PySem.W.ki_setAt ho h0 ⋯ (by rw[Zaq,<- hl];exact h4) (by rw[hk];exact⟨_,I',q⟩);have hk:(k + (its.toArray.size:Int)).toNat=j:=by
  rw[seqIndex_neg ⋯ h3]at h1;rw[Zaq,<- hl];exact Zao h1
 exact PySem.W.ki_setBack ho ⋯ (by rw[Zaq,<- hl];exact h3) ⋯ (by rw[hk];exact⟨_,I',q⟩)
def VY(lo hi:Option Int)(n:Nat):(sliceBounds lo hi none n).1=((HT.cO n 0 lo:Nat):Int)/\(sliceBounds lo hi none n).2.1=((HT.cO n n hi:Nat):Int)/\(sliceBounds lo hi none n).2.2=1:=by
 refine⟨?_,?_,rfl⟩;cases lo with
 |none=>simp[sliceBounds,HT.cO]
 |some i =>
  simp only[sliceBounds,HT.cO,Option.getD_none,show(1:Int) > 0 by decide,if_true];by_cases h:i<0;simp only[h,if_true]<;>lk;simp only[h,if_false]<;>lk
 cases hi with
 |none=>simp[sliceBounds,HT.cO]
 |some i =>
  simp only[sliceBounds,HT.cO,Option.getD_none,show(1:Int) > 0 by decide,if_true];by_cases h:i<0;simp only[h,if_true]<;>lk;simp only[h,if_false]<;>lk
def VZ(its:List Value)(lo hi:Option Int):slicePick its.toArray lo hi none=((its.drop (HT.cO its.length 0 lo)).take (HT.cO its.length its.length hi-HT.cO its.length 0 lo)).toArray:=by obtain⟨h1,h2,h3⟩:=VY lo hi its.toArray.size;unfold slicePick;rw[h1,h2,h3];simp only[sliceRange_one,pick_run,Zaq]<;>rfl
abbrev DR(K:Zfr):V->Option Int->Option Int->Hp->VK->Prop:=λx lo hi H Q=>∃a xs,x=.ref a/\jW K H a xs/\∀p,H p=none->Q (.ref p) (upd H p (.lst (oV xs lo hi)))
def V0:IY X (DR X.K):=by intro pins s σ H x v vl vu lo hi sl Q I rx hs pl pu h;obtain⟨a,xs,rfl,hx,q⟩:=h;cases rx;obtain⟨its,r,ht,hz⟩:=I.list hx;have hlen:=r.length;refine⟨"list",_,slot_list_getitem.lookup,ht.isList.typeIs,?_⟩;refine wpAny_getItem_list_slice ht.isList hs pl pu .none (by simp) ?_ (by rw[Zaq]<;>lk);rw[VZ,<- hlen];refine⟨.ref s.heap.objs.size,_,I.laid (t':=s.toks) (o:=.lst (oV xs lo hi)) (λb ob q=>Zas _ q) (Zad _) ?_,rfl,q _ (I.hok.fresh (Zad _))⟩;exact⟨Zap (PJ xs lo hi) hz,_,0,(r.drop (HT.cO xs.length 0 lo)).take (HT.cO xs.length xs.length hi-HT.cO xs.length 0 lo),ZaA _ rfl⟩
abbrev mE:V->Bool
 |.non=>true
 |.bl _=>true
 |.int _=>true
 |.str _=>true
 |_=>false
abbrev x5:V->V->Bool
 |.non,.non=>true
 |.bl a,.bl b=>a == b
 |.bl a,.int b=>(if a then 1 else 0) == b
 |.int a,.bl b=>a == (if b then 1 else 0)
 |.int a,.int b=>a == b
 |.str a,.str b=>a == b
 |_,_=>false
def zN(ry:RelV y u)(rx:RelV x v)(fy:mE y=true)(fx:mE x=true):SeqAt.EqAt A s u v (x5 y x):=by
 cases y with
 |non =>
  cases ry;cases x with
  |non=>cases rx;exact SeqAt.EqAt.same _
  |bl b=>cases rx;exact SeqAt.EqAt.none_bool b
  |int b=>obtain⟨t,rfl⟩:=rx;exact SeqAt.EqAt.none_int b t
  |str b=>obtain⟨t,rfl⟩:=rx;exact SeqAt.EqAt.none_str b t
  |_=>exact absurd (show false=true from fx) Zam
 |bl a =>
  cases ry;cases x with
  |non=>cases rx;exact SeqAt.EqAt.bool_none a
  |bl b=>cases rx;exact SeqAt.EqAt.bool_bool a b
  |int b=>obtain⟨t,rfl⟩:=rx;exact SeqAt.EqAt.bool_int a b t
  |str b=>obtain⟨t,rfl⟩:=rx;exact SeqAt.EqAt.bool_str a b t
  |_=>exact absurd (show false=true from fx) Zam
 |int a =>
  obtain⟨t',rfl⟩:=ry;cases x with
  |non=>cases rx;exact SeqAt.EqAt.int_none a t'
  |bl b=>cases rx;exact SeqAt.EqAt.int_bool a t' b
  |int b=>obtain⟨t,rfl⟩:=rx;exact SeqAt.EqAt.int_int a t' b t
  |str b=>obtain⟨t,rfl⟩:=rx;exact SeqAt.EqAt.int_str a t' b t
  |_=>exact absurd (show false=true from fx) Zam
 |str a =>
  obtain⟨t',rfl⟩:=ry;cases x with
  |non=>cases rx;exact SeqAt.EqAt.str_none a t'
  |bl b=>cases rx;exact SeqAt.EqAt.str_bool a t' b
  |int b=>obtain⟨t,rfl⟩:=rx;exact SeqAt.EqAt.str_int a t' b t
  |str b=>obtain⟨t,rfl⟩:=rx;exact SeqAt.EqAt.str_str a t' b t
  |_=>exact absurd (show false=true from fx) Zam
 |_=>exact absurd (show false=true from fy) Zam
abbrev wO(x:V)(u:Value):Bool:=match u with
 |.none=>x5 .non x
 |.bool b=>x5 (.bl b) x
 |.int i _=>x5 (.int i) x
 |.str z _=>x5 (.str z) x
 |_=>false
def PL(r:RelV y u)(f:mE y=true):wO x u=x5 y x:=by
 cases y with
 |non=>cases r;rfl
 |bl b=>cases r;rfl
 |int i=>obtain⟨t,rfl⟩:=r;rfl
 |str z=>obtain⟨t,rfl⟩:=r;rfl
 |_=>exact absurd (show false=true from f) Zam
def LQ:∀{xs:List V} {us:List Value},Vals xs us->xs.all mE=true->us.any (wO x)=xs.any λy=>x5 y x
 |_,_,.nil,_=>rfl
 |y :: xs,u :: us,.cons r t,f=>by
  rw[List.all_cons,ZaD]at f;rw[Za1,Za1,PL r f.1,LQ t f.2]
def LR(rx:RelV x v)(fx:mE x=true):∀{xs:List V} {us:List Value},Vals xs us->xs.all mE=true->∀u∈us,SeqAt.EqAt A s u v (wO x u)
 |_,_,.nil,_=>λu hu=>by cases hu
 |y :: xs,u :: us,.cons r t,f=>λu' hu=>by
  rw[List.all_cons,ZaD]at f;rcases ZaF.mp hu with rfl|hu
  rw[PL r f.1];exact zN r rx f.1 fx;exact LR rx fx t f.2 u' hu
abbrev x6(x:V)(xs:List V):Bool:=xs.any λy=>x5 y x
abbrev LS(K:Zfr)(neg:Bool):R2:=λx y H Q=>∃p xs,y=.ref p/\(jW K H p xs\/gg K H p xs)/\mE x=true/\xs.all mE=true/\Q (.bl (if neg then !x6 x xs else x6 x xs)) H
def IZ:mH X (compareOp .NotIn) (LS X.K true):=by
 intro pins s σ H x y v u Q I rx ry h;obtain⟨p,xs,rfl,hq,fx,fs,q⟩:=h;cases ry;rcases hq with hq|hq
 obtain⟨its,r,pl,hz⟩:=I.list hq;refine SeqAt.notIn_listAt (wO x) pl.isList (λw hw=>LR rx fx r fs w (by simpa using hw)) ⟨.bl _,H,I,rfl,?_⟩;rw[show its.toArray.any (wO x)=its.any (wO x) by simp,LQ r fs];exact q;obtain⟨its,r,pl,hz⟩:=I.tuple hq;refine SeqAt.notIn_tupleAt (wO x) pl (λw hw=>LR rx fx r fs w (by simpa using hw)) ⟨.bl _,H,I,rfl,?_⟩;rw[show its.toArray.any (wO x)=its.any (wO x) by simp,LQ r fs];exact q
def mF:gh X (.builtin "len") (λxs H Q=>∃p ys,xs=[.ref p]/\(jW X.K H p ys\/gg X.K H p ys)/\Q (.int ys.length) H):=by
 intro pins s σ H xs us Q I r h;obtain⟨p,ys,rfl,hq,q⟩:=h;obtain⟨u,rfl,rx⟩:=vals1 r;cases rx;have hn:=nQ;rcases hq with hq|hq
 obtain⟨its,r',pl,hz⟩:=I.list hq;have hlen:=r'.length;exact Calls.call_len_list pl.isList (by simp only[Zaq]<;>lk) ⟨.int ys.length,H,I.tok _,⟨s.toks+1,by rw[Zaq,hlen]⟩,q⟩;obtain⟨its,r',pl,hz⟩:=I.tuple hq;have hlen:=r'.length;exact len_tuple pl (by simp only[Zaq]<;>lk) ⟨.int ys.length,H,I.tok _,⟨s.toks+1,by rw[Zaq,hlen]⟩,q⟩
def LU:gh X (.type "list") (λxs H Q=>∃p ys,xs=[.ref p]/\(jW X.K H p ys\/gg X.K H p ys)/\∀l,H l=none->Q (.ref l) (upd H l (.lst ys))):=by
 intro pins s σ H xs us Q I r h;obtain⟨p,ys,rfl,hq,q⟩:=h;obtain⟨u,rfl,rx⟩:=vals1 r;cases rx;have fin:∀ (its:List Value),Vals ys its->ys.length<=sizeLine->∀ (h':Heap) (c':Nat),(∀ b o',s.heap.get? b=some o'->h'.get? b=some o') ->
   h'.get? s.heap.objs.size=some { cls:=.type "list",dict:=none,data:=.seq its.toArray c',slots:=#[] }->EP X pins σ Q (.ref s.heap.objs.size) { s with heap:=h' }:=λits r' hz h' c' kp e =>
  ⟨.ref s.heap.objs.size,_,I.laid (t':=s.toks) kp (Zad _) (show cI X.prog X.w _ h' _ (.lst ys)from⟨hz,its,c',r',e⟩),rfl,q _ (I.hok.fresh (Zad _))⟩
 rcases hq with hq|hq
 obtain⟨its,r',pl,hz⟩:=I.list hq;have hlen:=r'.length;obtain⟨o,ho,hc,n,hd⟩:=pl.isList;exact call_list_seq p (.inl rfl) ho hc hd (λh' c' kp e=>fin its r' hz h' c' kp e) (by simp only[Zaq]<;>lk);obtain⟨its,r',pl,hz⟩:=I.tuple hq;have hlen:=r'.length;obtain⟨o,ho,hc,n,hd⟩:=pl;exact call_list_seq p (.inr rfl) ho hc hd (λh' c' kp e=>fin its r' hz h' c' kp e) (by simp only[Zaq]<;>lk)
def oC:gh X (.type "tuple") (λxs H Q=>∃p ys,xs=[.ref p]/\((jW X.K H p ys/\∀l,H l=none->Q (.ref l) (upd H l (.tup ys)))\/(gg X.K H p ys/\Q (.ref p) H))):=by
 intro pins s σ H xs us Q I r h;obtain⟨p,ys,rfl,h⟩:=h;obtain⟨u,rfl,rx⟩:=vals1 r;cases rx;rcases h with⟨hq,q⟩|⟨hq,q⟩
 obtain⟨its,r',pl,hz⟩:=I.list hq;have hlen:=r'.length;refine call_tuple_list pl.isList (λh' kp=>?_) (by simp only[Zaq]<;>lk);have I1:Inv X pins σ H { s with heap:=h' }:=I.kept (t':=s.toks) kp;have I2:Inv X pins σ (upd H h'.objs.size (.tup ys)) { s with heap:=h'.push { cls:=.type "tuple",data:=.seq its.toArray } } :=
  I1.laid (t':=s.toks) (λb o e=>Zas _ e) (Zad _) (show cI X.prog X.w _ _ _ (.tup ys)from⟨hz,its,r',pZ.new _ _⟩)
 exact⟨.ref h'.objs.size,_,I2,rfl,q _ (I1.hok.fresh (Zad _))⟩;obtain⟨its,r',pl,hz⟩:=I.tuple hq;exact call_tuple_same pl ⟨.ref p,H,I,rfl,q⟩
abbrev Ja(K:Zfr)(T:String)(x:V)(H:Hp):Prop:=match x with
 |.str _=>T="str"
 |.int _=>T="int"
 | .ref p=>(T="list" /\ ∃ xs,jW K H p xs)\/(T="tuple" /\ ∃ xs,gg K H p xs) \/
   (T="dict" /\ ((∃kvs,H p=some (.dK kvs))\/∃kvs,H p=some (.dT kvs)))\/(T="set" /\ ∃S n,H p=some (.set S n))
 |_=>False
def PN{pins:List (Addr×Obj)}{σ:St}{H:Hp}{s:Shared}{T:String}{x:V}{v:Value}(I:Inv X pins σ H s)(r:RelV x v)(ty:Ja X.K T x H):
  s.TypeIs v T/\∀a,v=.ref a->∃ob,s.heap.get? a=some ob/\ob.dict=none:=by
 cases x with
 |str z =>
  obtain⟨t,rfl⟩:=r;cases(show T="str" from ty);exact⟨typeIs_str s z t,λ_ e=>nomatch e⟩
 |int i =>
  obtain⟨t,rfl⟩:=r;cases(show T="int" from ty);exact⟨typeIs_int s i t,λ_ e=>nomatch e⟩
 |ref p =>
  cases r;rcases ty with⟨rfl,xs,hq⟩|⟨rfl,xs,hq⟩|⟨rfl,hk⟩|⟨rfl,S,n,hk⟩
  obtain⟨its,_,pl,_⟩:=I.list hq;refine⟨pl.isList.typeIs,λa e=>?_⟩;cases e;obtain⟨o,n,e,c,hd,_⟩:=pl;exact⟨o,e,hd⟩;obtain⟨its,_,⟨o,e,c,d,_⟩,_⟩:=I.rN hq;refine⟨⟨o,e,c⟩,λa e2=>?_⟩;cases e2;exact⟨o,e,d⟩;have z:∃ o,s.heap.get? p=some o/\o.ExactDict:=by
   rcases hk with⟨kvs,hk⟩|⟨kvs,hk⟩
   obtain⟨_,_,_,_,o,_,_,e,ex,_⟩:=I.hok p _ hk;exact⟨o,e,ex⟩;obtain⟨_,_,_,_,o,_,_,e,ex,_⟩:=I.hok p _ hk;exact⟨o,e,ex⟩
  obtain⟨o,e,ex⟩:=z;refine⟨⟨o,e,ex.1⟩,λa e2=>?_⟩;cases e2;exact⟨o,e,ex.2.1⟩;obtain⟨o,_,_,_,e,ex,_⟩:=I.hok p _ hk;refine⟨⟨o,e,ex.1⟩,λa e2=>?_⟩;cases e2;exact⟨o,e,ex.2.1⟩
 |_=>exact False.elim ty
abbrev DS(K:Zfr)(T:String)(r:V->List V->Hp->VK->Prop)(to:TE):TE:=λσ H Q=>to σ H λx H1=>Ja K T x H1/\r x [] H1 Q
abbrev LV(K:Zfr)(T:String)(r:V->List V->Hp->VK->Prop)(to:TE)(t:TA):TE:=λσ H Q=>to σ H λx H1=>Ja K T x H1/\t σ H1 λxs H2=>r x xs H2 Q
variable {o e:Expr}{es:List Expr}{to:TE}{t:TA}{name:Str}{apos cpos:Pos}{T id:String}{r:V->List V->Hp->VK->Prop}
def PQ(pa:PlainAttrs T)(slot:Slot T name id)(hty:typeOf (.builtin id)=pure (.type "method_descriptor"))(hm:xZ X id r)(ho:PE X o to)
  (hbase:attributeBase o name X.env (eval o X.env)=eval o X.env:=by rfl) (hline:(apos.endLine == cpos.line)=true:=by rfl):PE X (.Call (.Attribute o name apos) [] [] cpos) (DS X.K T r to):=by
 intro pins s σ H Q I h;refine wpAny_Call_method0_late hbase hline (cg (ho pins s σ H _ I h) λv s1 ⟨x,H1,I1,r1,ty,q1⟩=>?_);obtain⟨h1,h2⟩:=PN I1 r1 ty;exact⟨T,id,pa,slot,hty,h1,h2,Calls.callWith_builtin rfl (PySem.evalArgs_none (hm pins s1 σ H1 x [] v [] Q I1 r1 .nil q1))⟩
def oD(pa:PlainAttrs T)(slot:Slot T name id)(hty:typeOf (.builtin id)=pure (.type "method_descriptor"))(hm:xZ X id r)(ho:PE X o to)(ha:PA X (e :: es) t)
  (hbase:attributeBase o name X.env (eval o X.env)=eval o X.env:=by rfl)
  (hfew:((backTo cpos (starEach (e :: es) X.env)).all (λx=>!x.1) && (backToKw cpos (keywordEach [] X.env)).all (λx=>x.1.isSome)
   && decide ((e :: es).length+([]:List Keyword).length+(if([]:List Keyword).isEmpty then 0 else 1)<30))=true:=by rfl)
  (hline:(apos.endLine == cpos.line)=true:=by rfl) (hs:starEach (e :: es) X.env=(false,eval e X.env) :: starEach es X.env:=by rfl) (hplain:(backTo cpos (starEach es X.env)).any (·.1)=false:=by rfl) :
  PE X (.Call (.Attribute o name apos) (e :: es) [] cpos) (LV X.K T r to t):=by
 intro pins s σ H Q I h;refine wpAny_Call_method_late hbase hfew hline rfl (cg (ho pins s σ H _ I h) λv s1 ⟨x,H1,I1,r1,ty,q1⟩=>?_);obtain⟨h1,h2⟩:=PN I1 r1 ty;refine⟨T,id,pa,slot,hty,h1,h2,?_⟩;have hA:=ha cpos pins s1 σ H1 _ I1 q1;rw[hs]at hA ⊢;refine Calls.callWith_builtin (by show(false || (backTo cpos (starEach es X.env)).any (·.1))=false;rw[hplain]<;>rfl) (Calls.evalArgs_plain ?_);exact cg hA λus s2 ⟨vs,H2,I2,r2,q2⟩=>hm pins s2 σ H2 x vs v us Q I2 r1 r2 q2
end
abbrev Jb(X:Cx)(id:String)(r:V->List V->Hp->VK->Prop):Prop :=
 ∀(pins:List (Addr×Obj)) (s:Shared) (σ:St) (H:Hp) (x:V) (xs:List V) (v:Value) (us:List Value) (Q:VK),Inv X pins σ H s->RelV x v->Vals xs us->r x xs H Q ->
  wpAny (model X.prog X.w) X.A (call (.builtin id) (v :: us)) (EP X pins σ Q) X.xe s
def Vals.one:∀{x:V} {us:List Value},Vals [x] us->∃u,us=[u]/\RelV x u
 |_,_,.cons r .nil=>⟨_,rfl,r⟩
def Vals.zero:∀{us:List Value},Vals [] us->us=[]
 |_,.nil=>rfl
def Vals.dropLast(h:Vals xs us):Vals xs.dropLast us.dropLast:=by
 induction h with
 |nil=>exact .nil
 |cons r t ih =>
  cases t with
  |nil=>exact .nil
  |cons q t'=>exact .cons r ih
def Vals.eraseIdx:∀{xs:List V} {us:List Value} (i:Nat),Vals xs us->Vals (xs.eraseIdx i) (us.eraseIdx i)
 |_,_,_,.nil=>.nil
 |_,_,0,.cons _ t=>t
 |_,_,i+1,.cons r t=>.cons r (Vals.eraseIdx i t)
def Vals.rep(h:Vals xs us):∀k:Nat,Vals (List.replicate k xs).flatten (List.replicate k us).flatten
 |0=>.nil
 |k+1=>by
  rw[ZaN,ZaN,Zbj,Zbj];exact Vals.append h (Vals.rep h k)
def V1{α:Type}(l:List α):l.eraseIdx (l.length-1)=l.dropLast:=by
 induction l with
 |nil=>rfl
 |cons a r ih =>
  cases r with
  |nil=>rfl
  |cons b r =>
   have e:(a :: b :: r).length-1=((b :: r).length-1)+1:=by
    have h1:(a :: b :: r).length=r.length+2:=rfl;have h2:(b :: r).length=r.length+1:=rfl;lk
   rw[e,List.eraseIdx_cons_succ,ih]
   all_goals rfl
def PR{α:Type}:∀(l:List α) (i:Nat),(l.eraseIdx i).length<=l.length
 |[],_=>Zad _
 |_ :: _,0=>Zb0 _
 |_ :: r,i+1=>Nat.succ_le_succ (PR r i)
def PU(its:List Value):∀(k:Nat) (acc:List Value),
  List.foldl (λx1 x2=>x1 ++ x2) acc.toArray (List.replicate k its.toArray)=(acc ++ (List.replicate k its).flatten).toArray
 |0,acc=>by simp
 |k+1,acc=>by
  have e:acc.toArray ++ its.toArray=(acc ++ its).toArray:=by simp
  have e2:(acc ++ its) ++ (List.replicate k its).flatten=acc ++ (List.replicate (k+1) its).flatten:=by
   rw[ZaN,Zbj,ZbG]
  rw[<- e2,<- PU its k (acc ++ its),<- e,ZaN,List.foldl_cons]
section
variable {X:Cx}{pins:List (Addr×Obj)}{σ:St}{H:Hp}{s:Shared}{l b:Addr}{xs ys zs:List V}
def Inv.wQ{its its':List Value}{n:Nat}{f:Array Value->Array Value}{t':Nat}(I:Inv X pins σ H s)(hH:H l=some (.lst xs))
  (e:s.heap.get? l=some { cls:=.type "list",data:=.seq its.toArray n }) (hf:f its.toArray=its'.toArray) (hv:Vals ys its') (hz:ys.length<=sizeLine) :
  Inv X pins σ (upd H l (.lst ys)) { s with heap:=s.heap.update l (Obj.mapSeq f),toks:=t' }:=by
 have q:=PySem.IsL.update e f;rw[hf]at q;refine I.write (x:=l) (e:=l) (by rw[hH];exact trivial) (.inl rfl) (λb' u hb hu=>(Zbb s.heap (Obj.mapSeq f) (Ne.symm hb)).trans hu) ⟨_,q⟩ ?_;exact⟨hz,its',_,hv,q⟩
def Inv.DT(I:Inv X pins σ H s)(hv:Vals ys its)(hz:ys.length<=sizeLine):
  Inv X pins σ (upd H s.heap.objs.size (.lst ys)) { s with heap:=s.heap.push { cls:=.type "list",data:=.seq its.toArray },toks:=t' } :=
 I.laid (λ_ _ q=>Zas _ q) (Zad _) ⟨hz,its,0,hv,ZaA _ rfl⟩
def Inv.fresh(I:Inv X pins σ H s):H s.heap.objs.size=none:=I.hok.fresh (Zad _)
def Inv.qS(I:Inv X pins σ H s)(hH:H l=some (.lst xs)):xs.length<=sizeLine/\∃(its:List Value) (n:Nat),Vals xs its/\xs.length=its.length/\s.heap.get? l=some { cls:=.type "list",data:=.seq its.toArray n }:=by obtain⟨z,its,n,r,e⟩:=I.hok l _ hH;exact⟨z,its,n,r,r.length,e⟩
def qT(h:n<=sizeLine):Builtin.List.listTooLong n=false:=by unfold Builtin.List.listTooLong;exact decide_eq_false ⋯
end
section
variable {X:Cx}
abbrev sC:V->List V->Hp->VK->Prop:=λx vs H Q=>∃l xs y,x=.ref l/\vs=[y]/\H l=some (.lst xs)/\xs.length<sizeLine/\Q .non (upd H l (.lst (xs ++ [y])))
def p7:Jb X "list.append" sC:=by intro pins s σ H x vs v us Q I rx rv h;obtain⟨l,xs,y,rfl,rfl,hH,hz,q⟩:=h;cases rx;obtain⟨u,rfl,ru⟩:=rv.one;obtain⟨z,its,n,r,hl,e⟩:=I.qS hH;refine call_meets F.slot_list_append ⟨_,e,rfl⟩ F.entry_list_append (F.args_list_append_2 _ _) (PySem.list_append l its.toArray n u (by rw[Zaq];lk)) ⟨e,?_⟩;refine⟨.non,_,I.wQ (its':=its ++ [u]) hH e (by simp) (r.append (.cons ru .nil)) ?_,rfl,q⟩;rw[Zaf,Zbe];lk
abbrev sD:V->List V->Hp->VK->Prop:=λx vs H Q=>∃l b xs zs,x=.ref l/\vs=[.ref b]/\H l=some (.lst xs)/\H b=some (.lst zs)/\xs.length+zs.length<=sizeLine/\Q .non (upd H l (.lst (xs ++ zs)))
def V2:Jb X "list.extend" sD:=by
 intro pins s σ H x vs v us Q I rx rv h;obtain⟨l,b,xs,zs,rfl,rfl,hH,hB,hz,q⟩:=h;cases rx;obtain⟨u,rfl,ru⟩:=rv.one;cases ru;obtain⟨z,its,n,r,hl,e⟩:=I.qS hH;obtain⟨z2,its2,n2,r2,hl2,e2⟩:=I.qS hB;have hsz:its.toArray.size+its2.toArray.size<=sizeLine:=by rw[Zaq,Zaq];lk
 have uM:¬(!its.toArray.isEmpty && Builtin.List.listTooLong (its.toArray.size+its2.toArray.size))=true:=by
  rw[qT hsz,Bool.and_false];exact Zam
 refine call_meets F.slot_list_extend ⟨_,e,rfl⟩ F.entry_list_extend (F.args_list_extend_2 _ _)
  (AutoSeq1.list_extend_list_list_0 l its.toArray n b its2.toArray n2 uM (by rw[Zaq];lk) ⋯) ⟨e,e2,?_⟩
 refine⟨.non,_,I.wQ (its':=its ++ its2) hH e (by simp) (r.append r2) ?_,rfl,q⟩;rw[Zaf];lk
abbrev DV:V->List V->Hp->VK->Prop:=λx vs H Q=>∃l xs y,x=.ref l/\vs=[]/\H l=some (.lst xs)/\xs[xs.length-1]?=some y/\Q y (upd H l (.lst xs.dropLast))
def PV:Jb X "list.pop" DV:=by
 intro pins s σ H x vs v us Q I rx rv h;obtain⟨l,xs,y,rfl,rfl,hH,hy,q⟩:=h;cases rx;have V3:=rv.zero;subst V3;obtain⟨z,its,n,r,hl,e⟩:=I.qS hH;obtain⟨u,hu,ru⟩:=r.get hy;have hy':its.toArray[its.toArray.size-1]?=some u:=by
  show its.toArray[its.length-1]?=some u;rw[<- Zb9,<- hl];exact hu
 refine call_meets F.slot_list_pop ⟨_,e,rfl⟩ F.entry_list_pop (F.args_list_pop_1 _) (MeetsSeq.list_pop_last l its.toArray n u hy' (by rw[Zaq];lk)) ⟨e,?_⟩;refine⟨y,_,I.wQ (its':=its.dropLast) hH e ?_ r.dropLast ?_,ru,q⟩;show its.toArray.eraseIdxIfInBounds (its.toArray.size-1)=its.dropLast.toArray;rw[Zaq,List.eraseIdxIfInBounds_toArray,V1];rw[List.length_dropLast];lk
abbrev uN:V->List V->Hp->VK->Prop:=λx vs H Q=>∃l xs i k y,x=.ref l/\vs=[.int i]/\H l=some (.lst xs)/\-(2 ^ 63)<=i/\i<2 ^ 63/\seqIndex? i xs.length=some k/\xs[k]?=some y/\Q y (upd H l (.lst (xs.eraseIdx k)))
def V4:Jb X "list.pop" uN:=by
 intro pins s σ H x vs v us Q I rx rv h;obtain⟨l,xs,i,k,y,rfl,rfl,hH,h1,h2,hk,hy,q⟩:=h;cases rx;obtain⟨u,rfl,ru⟩:=rv.one;obtain⟨t,rfl⟩:=ru;obtain⟨z,its,n,r,hl,e⟩:=I.qS hH;obtain⟨w,hw,rw'⟩:=r.get hy;refine call_meets F.slot_list_pop ⟨_,e,rfl⟩ F.entry_list_pop (F.args_list_pop_2 _ _)
  (MeetsSeq.list_pop_at l its.toArray n i t k w (fitsIndex_both h1 h2) (by rw[Zaq,<- hl];exact hk) (by rw[<- Zb9];exact hw) (by rw[Zaq];lk)) ⟨e,?_⟩
 refine⟨y,_,I.wQ (its':=its.eraseIdx k) hH e ?_ (r.eraseIdx k) ?_,rw',q⟩;show its.toArray.eraseIdxIfInBounds k=(its.eraseIdx k).toArray;rw[List.eraseIdxIfInBounds_toArray]
 have:=PR xs k
 lk
abbrev DW:R2:=λx y H Q=>∃l b xs zs,x=.ref l/\y=.ref b/\H l=some (.lst xs)/\H b=some (.lst zs)/\xs.length+zs.length<=sizeLine/\∀p,H p=none->Q (.ref p) (upd H p (.lst (xs ++ zs)))
def zO:mH X (binaryOp .Add) DW:=by
 intro pins s σ H x y v u Q I rx ry h;obtain⟨l,b,xs,zs,rfl,rfl,hH,hB,hz,q⟩:=h;cases rx;cases ry;obtain⟨z,its,n,r,hl,e⟩:=I.qS hH;obtain⟨z2,its2,n2,r2,hl2,e2⟩:=I.qS hB;refine PySem.P.add_list e e2 ?_ (by rw[Zaq,Zaq];lk);have ea:its.toArray ++ its2.toArray=(its ++ its2).toArray:=by simp
 rw[ea];exact⟨.ref _,_,I.DT (t':=s.toks) (r.append r2) (by rw[Zaf];lk),rfl,q _ I.fresh⟩
abbrev DX:R2:=λx y H Q=>∃l k xs,x=.ref l/\y=.int k/\H l=some (.lst xs)/\-(2 ^ 63)<=k/\k<2 ^ 63/\xs.length*k.toNat<=sizeLine /\
 ∀p,H p=none->Q (.ref p) (upd H p (.lst (List.replicate k.toNat xs).flatten))
def V5{α:Type}(xs:List α)(k:Nat):(List.replicate k xs).flatten.length=k*xs.length:=by
 induction k with
 |zero=>simp
 |succ k ih=>rw[ZaN,Zbj,Zaf,ih,Zch,Nat.add_comm]
def LW:mH X (binaryOp .Mult) DX:=by
 intro pins s σ H x y v u Q I rx ry h;obtain⟨l,k,xs,rfl,rfl,hH,h1,h2,hz,q⟩:=h;cases rx;obtain⟨t,rfl⟩:=ry;obtain⟨z,its,n,r,hl,e⟩:=I.qS hH;have hlen:its.toArray.size*k.toNat<=sizeLine:=by rw[Zaq,<- hl];exact hz
 have hcap:¬its.toArray.size*k.toNat > (2 ^ 63-1) / 8:=by
  have:(sizeLine:Nat)<=(2 ^ 63-1) / 8:=by decide
  lk
 have hfit:¬(!Builtin.List.listFitsIndex k)=true:=by
  rw[fitsIndex_both h1 h2];exact Zam
 have uM:¬Builtin.List.listTooLong (its.toArray.size*k.toNat)=true:=by
  rw[qT hlen];exact Zam
 have hnew:List.foldl (λx1 x2=>x1 ++ x2) #[] (List.replicate (if its.toArray.isEmpty=true then 0 else k.toNat) its.toArray)=(List.replicate k.toNat its).flatten.toArray:=by
  have f0:∀m:Nat,List.foldl (λx1 x2=>x1 ++ x2) #[] (List.replicate m its.toArray)=(List.replicate m its).flatten.toArray:=λm=>by
   have:=PU its m [];rw[List.nil_append]at this;exact this
  rw[f0];cases its with
  |nil=>simp
  |cons a r'=>rw[if_neg (by simp)]
 refine wpAny_binaryOp_repeat_ref (T:="list") (U:="int") ∅ ⟨_,e,rfl⟩ (λs'=>typeIs_int s' k t) noFill_list_mul F.fills_int_mul F.slot_int_rmul repeat_list F.slot_int_index.lookup
  (call_meets F.slot_int_rmul (typeIs_int s k t) F.entry_int_rmul (F.args_int_rmul_2 _ _) (int___rmul___int_list k t l its.toArray n)
   ⟨e,rfl,⟨_,e,rfl⟩,call_meets F.slot_list_mul ⟨_,e,rfl⟩ F.entry_list_mul (F.args_list_mul_2 _ _) (AutoListH.list___mul___list_int_3 l its.toArray n k t hfit hcap uM) ⟨e,?_⟩⟩)
 rw[hnew];exact⟨.ref _,_,I.DT (t':=s.toks) (r.rep k.toNat) (by rw[V5,Zci];exact hz),rfl,q _ I.fresh⟩
end
section
variable {κ:Type}[DecidableEq κ]
abbrev jK(kvs:List (κ×V))(k:κ):Option V:=(kvs.find? λkv=>decide (kv.1=k)).map (·.2)
abbrev putK(kvs:List (κ×V))(k:κ)(v:V):List (κ×V) :=
 if(kvs.any λkv=>decide (kv.1=k))=true then kvs.map (λkv=>if kv.1=k then(kv.1,v)else kv)else kvs ++ [(k,v)]
def LX{p:κ×V}{r:List (κ×V)}{k:κ}(e:p.1=k):jK (p :: r) k=some p.2:=by simp[jK,ZaU,e]
def LY{p:κ×V}{r:List (κ×V)}{k:κ}(e:¬p.1=k):jK (p :: r) k=jK r k:=by simp[jK,ZaU,e]
def PX(k:κ):∀kvs:List (κ×V),(kvs.any λkv=>decide (kv.1=k))=(jK kvs k).isSome
 |[]=>rfl
 |p :: r=>by
  rw[Za1];by_cases e:p.1=k;simp only[LX e,decide_eq_true e,Bool.true_or,Option.isSome_some];rw[LY e,decide_eq_false e,Bool.false_or];exact PX k r
def LZ(kvs:List (κ×V))(k:κ)(v:V):(putK kvs k v).length<=kvs.length+1:=by unfold putK;split;rw[Zaa];lk;rw[Zaf,ZaE,Zcw];lk
def pB.jL(r:pB o u):o.isSome=u.isSome:=by
 cases o with
 |none=>cases u with
  |none=>rfl
  |some _=>exact(show False from r).elim
 |some _=>cases u with
  |none=>exact(show False from r).elim
  |some _=>rfl
def KV.val(r:KV kvs vs)(k:κ):pB (jK kvs k) (valueAt vs k):=by
 unfold KV at r
 induction r with
 |nil=>exact True.intro
 |@cons p q ps qs h t ih =>
  obtain⟨h1,h2⟩:=h;by_cases e:p.1=k;have e':q.1=k:=h1.symm.trans e;have b:valueAt (q :: qs) k=some q.2:=by simp[valueAt,ZaU,e']
  rw[LX e,b];exact h2;have e':¬q.1=k:=λz=>e (h1.trans z);have b:valueAt (q :: qs) k=valueAt qs k:=by simp[valueAt,ZaU,e']
  rw[LY e,b];exact ih
def KV.any(r:KV kvs vs)(k:κ):(kvs.any λkv=>decide (kv.1=k))=vs.any λkv=>decide (kv.1=k):=by
 unfold KV at r
 induction r with
 |nil=>rfl
 |cons h t ih=>rw[Za1,Za1,ih,h.1]
def KV.repl(r:KV kvs vs)(k:κ)(ry:RelV y u):
  KV (kvs.map λkv=>if kv.1=k then(kv.1,y)else kv) (vs.map λkv=>if kv.1=k then(kv.1,u)else kv):=by
 unfold KV at r ⊢
 induction r with
 |nil=>exact .nil
 |@cons p q ps qs h t ih =>
  rw[Zaz,Zaz];refine .cons ?_ ih;obtain⟨h1,h2⟩:=h;by_cases e:p.1=k;rw[if_pos e,if_pos (h1.symm.trans e)];exact⟨h1,ry⟩;rw[if_neg e,if_neg (λz=>e (h1.trans z))];exact⟨h1,h2⟩
def KV.put(r:KV kvs vs)(k:κ)(ry:RelV y u):KV (putK kvs k y) (stored vs k u):=by unfold putK stored;rw[r.any k];by_cases e:(vs.any λkv=>decide (kv.1=k))=true;rw[if_pos e,if_pos e];exact r.repl k ry;rw[if_neg e,if_neg e];exact Paired.snoc r ⟨rfl,ry⟩
def KV.length{kvs:List (κ×V)}{vs:List (κ×Value)}(r:KV kvs vs):kvs.length=vs.length:=Paired.length r
end
def Cy(r:RelV (kV k) u):(ck P w).is k u=true:=by
 cases k with
 |inl i=>obtain⟨t,e⟩:=(show∃t,u=Value.int i t from r);subst e;exact Vr P w i t
 |inr x=>obtain⟨t,e⟩:=(show∃t,u=Value.str x t from r);subst e;exact Vs P w x t
def PY:∀{ks:List Key} {us:List Value},Vals (ks.map kV) us->ItemsAre (ck P w) ks us
 |[],_,r=>by rw[ZaT]at r;cases r;exact .nil
 |k :: ks,_,r=>by
  rw[Zaz]at r;cases r with
  |cons h t=>exact .cons (Cy h) (PY t)
@[reducible]def KT(H:Hp):List (List Key×V)->List (List Key×Addr×Value)->Prop:=Paired λp q=>p.1=q.1/\H q.2.1=some (.tup (p.1.map kV))/\RelV p.2 q.2.2
def KT.val(r:KT H kvs xs)(k:List Key):pB (jK kvs k) ((atKey xs k).map (·.2)):=by
 induction r with
 |nil=>exact True.intro
 |@cons p q ps qs h t ih =>
  obtain⟨h1,_,h2⟩:=h;by_cases e:p.1=k;have e':q.1=k:=h1.symm.trans e;have b:atKey (q :: qs) k=some q.2:=by simp[atKey,ZaU,e']
  rw[LX e,b];exact h2;have e':¬q.1=k:=λz=>e (h1.trans z);have b:atKey (q :: qs) k=atKey qs k:=by simp[atKey,ZaU,e']
  rw[LY e,b];exact ih
def KT.repl(r:KT H kvs xs)(k:List Key)(ry:RelV y u):
  KT H (kvs.map λkv=>if kv.1=k then(kv.1,y)else kv) (xs.map (putAt k u)):=by
 induction r with
 |nil=>exact .nil
 |@cons p q ps qs h t ih =>
  rw[Zaz,Zaz];refine .cons ?_ ih;obtain⟨h1,h2,h3⟩:=h;unfold putAt;by_cases e:p.1=k;rw[if_pos e,if_pos (h1.symm.trans e)];exact⟨h1,h2,ry⟩;rw[if_neg e,if_neg (λz=>e (h1.trans z))];exact⟨h1,h2,h3⟩
def KT.put(r:KT H kvs xs)(k:List Key)(hb:H b=some (.tup (k.map kV)))(ry:RelV y u):
  KT H (putK kvs k y) (storedH xs k b u):=by
 have e:(kvs.any λkv=>decide (kv.1=k))=(atKey xs k).isSome:=by
  rw[PX,(r.val k).jL,Option.isSome_map]
 unfold putK storedH;rw[e];by_cases q:(atKey xs k).isSome=true;rw[if_pos q,if_pos q];exact r.repl k ry;rw[if_neg q,if_neg q];exact Paired.snoc r ⟨rfl,hb,ry⟩
def KT.keeps(r:KT H kvs xs)(ht:∀b ys,H b=some (.tup ys)->H' b=some (.tup ys)):KT H' kvs xs :=
 Paired.zk r λ_ _ z=>⟨z.1,ht _ _ z.2.1,z.2.2⟩
section
variable {P:Program}{w:World}{H:Hp}{h:Heap}{a:Addr}
def x8(ok:nh P w H h)(e:Rd H a u):cI P w H h a u:=e.ok ok
def DY(ok:nh P w H h)(e:Rd H a (.dK kvs)):kvs.length<=sizeLine/\(a == sysModules)=false/\∃vs,KV kvs vs/\h.DictOf (ck P w) a vs :=
 show cI P w H h a (.dK kvs)from x8 ok e
def x9(ok:nh P w H h)(e:H a=some (.dK kvs)):kvs.length<=sizeLine/\(a == sysModules)=false/\∃vs,KV kvs vs/\h.DictOf (ck P w) a vs:=DY ok (.inl e)
def uO(ok:nh P w H h)(e:H a=some (.tup (ks.map kV))):(tupleKind (ck P w)).is h ks a:=by obtain⟨_,its,r,o,h1,h2,_,n,h3⟩:=(show cI P w H h a (.tup (ks.map kV))from ok a _ e);exact⟨o,its.toArray,n,h1,h2,h3,by simpa using PY r⟩
def DZ(ok:nh P w H h)(e:Rd H a (.dT kvs)):kvs.length<=sizeLine/\(a == sysModules)=false /\
  ∃xs,KT H kvs xs/\h.DictOfH (tupleKind (ck P w)) a xs:=by
 obtain⟨z,y,xs,r,o,es,ep,h1,h2,h3,h4,h5⟩:=(show cI P w H h a (.dT kvs)from x8 ok e);refine⟨z,y,xs,r,o,es,ep,h1,h2,h3,h4,λx hx=>?_,h5⟩;have all:∀{l:List (List Key×V)} {m:List (List Key×Addr×Value)},KT H l m->∀x∈m,(tupleKind (ck P w)).is h x.1 x.2.1:=by
  intro l m q
  induction q with
  |nil=>intro x hx;exact nomatch hx
  |@cons p q ps qs hq t ih =>
   intro x hx;rcases ZaF.mp hx with e|hx
   subst e;exact uO ok (by rw[<- hq.1];exact hq.2.1);exact ih x hx
 exact all r x hx
def D0(ok:nh P w H h)(e:H a=some (.dT kvs)):kvs.length<=sizeLine/\(a == sysModules)=false /\
  ∃xs,KT H kvs xs/\h.DictOfH (tupleKind (ck P w)) a xs:=DZ ok (.inl e)
end
abbrev mJ(H:Hp)(a:Addr)(y:V)(r:Option V):Prop :=
 (∃kvs k,Rd H a (.dK kvs)/\y=kV k/\r=jK kvs k)\/∃kvs k b,Rd H a (.dT kvs)/\y=.ref b/\H b=some (.tup (k.map kV))/\r=jK kvs k
abbrev qU(H:Hp)(a:Addr)(y v:V)(H':Hp):Prop :=
 (∃kvs k,H a=some (.dK kvs)/\y=kV k/\kvs.length<sizeLine/\H'=upd H a (.dK (putK kvs k v))) \/
 ∃kvs k b,H a=some (.dT kvs)/\y=.ref b/\H b=some (.tup (k.map kV))/\kvs.length<sizeLine/\H'=upd H a (.dT (putK kvs k v))
def mJ.k{H:Hp}{a:Addr}{kvs:List (Key×V)}{k:Key}(e:H a=some (.dK kvs)):mJ H a (kV k) (jK kvs k):=.inl ⟨kvs,k,.inl e,rfl,rfl⟩
def mJ.t{H:Hp}{a b:Addr}{kvs:List (List Key×V)}{k:List Key}(e:H a=some (.dT kvs))(eb:H b=some (.tup (k.map kV))):mJ H a (.ref b) (jK kvs k):=.inr ⟨kvs,k,b,.inl e,rfl,eb,rfl⟩
def qU.k{H:Hp}{a:Addr}{kvs:List (Key×V)}{k:Key}{v:V}(e:H a=some (.dK kvs))(hl:kvs.length<sizeLine):qU H a (kV k) v (upd H a (.dK (putK kvs k v))):=.inl ⟨kvs,k,e,rfl,hl,rfl⟩
def qU.t{H:Hp}{a b:Addr}{kvs:List (List Key×V)}{k:List Key}{v:V}(e:H a=some (.dT kvs))(eb:H b=some (.tup (k.map kV)))(hl:kvs.length<sizeLine):
  qU H a (.ref b) v (upd H a (.dT (putK kvs k v))):=.inr ⟨kvs,k,b,e,rfl,eb,hl,rfl⟩
section
variable {X:Cx}{pins:List (Addr×Obj)}{σ:St}{H:Hp}{s:Shared}{a:Addr}{y v:V}{u r:Value}{o:Option V}{A:Around}{E:Value->Shared->Prop}
def Inv.big(I:Inv X pins σ H s):sysModules<s.heap.objs.size:=by have h:mainGlobals<s.heap.objs.size:=(I.mod.glob.keeps I.bk).lt;exact Zcx ∅ h
def V6(hu:A.units+1<cLine)(I:Inv X pins σ H s)(g:mJ H a y (some v))(ry:RelV y u)(h:∀w' s',Inv X pins σ H s'->RelV v w'->Q w' s'):
  wpAny (model X.prog X.w) A (getItem (.ref a) u) Q E s:=by
 rcases g with⟨kvs,k,e,ey,l⟩|⟨kvs,k,b,e,ey,eb,l⟩
 subst ey;obtain⟨z,hd,vs,rel,dd⟩:=DY I.hok e;obtain⟨w',hw,rw'⟩:=pB.some_of (v:=v) (o:=valueAt vs k) (by rw[l];exact rel.val k);exact wpAny_getItem_of (Cy ry) dd.mapOf hw (h w' _ (I.tok _) rw');subst ey;cases(show u=Value.ref b from ry);obtain⟨z,hd,xs,rel,dd⟩:=DZ I.hok e;obtain⟨w',hw,rw'⟩:=pB.some_of (v:=v) (o:=(atKey xs k).map (·.2)) (by rw[l];exact rel.val k);obtain⟨p,hp,hp2⟩:=Zay.mp hw;refine wpAny_getItem_heap (tupleKind_room_in1 hu) (uO I.hok eb) dd hp ?_;rw[hp2];exact h w' _ (I.tok _) rw'
def L0(hu:A.units+1<cLine)(I:Inv X pins σ H s)(g:mJ H a y o)(ry:RelV y u)(h:∀s',Inv X pins σ H s'->Q (.bool o.isSome) s'):
  wpAny (model X.prog X.w) A (compareOp .In u (.ref a)) Q E s:=by
 rcases g with⟨kvs,k,e,ey,l⟩|⟨kvs,k,b,e,ey,eb,l⟩
 subst ey;obtain⟨z,hd,vs,rel,dd⟩:=DY I.hok e;refine wpAny_in_of (Cy ry) hd dd.mapOf ?_;rw[<- (rel.val k).jL,<- l];exact h _ (I.tok _);subst ey;cases(show u=Value.ref b from ry);obtain⟨z,hd,xs,rel,dd⟩:=DZ I.hok e;refine wpAny_in_heap (tupleKind_room_in1 hu) (uO I.hok eb) hd dd ?_;have q:=(rel.val k).jL;rw[Option.isSome_map]at q;rw[<- q,<- l];exact h _ (I.tok _)
def V7(hu:A.units+1<cLine)(I:Inv X pins σ H s)(g:mJ H a y o)(ry:RelV y u)(h:∀s',Inv X pins σ H s'->Q (.bool (!o.isSome)) s'):
  wpAny (model X.prog X.w) A (compareOp .NotIn u (.ref a)) Q E s:=by
 rcases g with⟨kvs,k,e,ey,l⟩|⟨kvs,k,b,e,ey,eb,l⟩
 subst ey;obtain⟨z,hd,vs,rel,dd⟩:=DY I.hok e;refine wpAny_notIn_of (Cy ry) hd dd.mapOf ?_;rw[<- (rel.val k).jL,<- l];exact h _ (I.tok _);subst ey;cases(show u=Value.ref b from ry);obtain⟨z,hd,xs,rel,dd⟩:=DZ I.hok e;refine wpAny_notIn_heap (tupleKind_room_in1 hu) (uO I.hok eb) hd dd ?_;have q:=(rel.val k).jL;rw[Option.isSome_map]at q;rw[<- q,<- l];exact h _ (I.tok _)
def L3(I:Inv X pins σ H s)(mu:Dg (H a))(hs:Heap.SameBut a s.heap h')(he:∃q,h'.get? a=some q)(new:cI X.prog X.w (upd H a ob) h' a ob):
  Inv X pins σ (upd H a ob) { s with heap:=h',toks:=t' } :=
 I.write (x:=a) (e:=a) mu (.inl rfl) (λb q hb z=>(hs.2 b hb).trans z) he new
def PZ(z:kvs.length<=sizeLine)(hd:(a == sysModules)=false)(rel:KV kvs vs)(dd:h'.DictOf (ck P w) a vs):
  cI P w H' h' a (.dK kvs):=⟨z,hd,vs,rel,dd⟩
def V8(hu:A.units+1<cLine)(I:Inv X pins σ H s)(g:qU H a y v H')(ry:RelV y u)(rv:RelV v r)(h:∀s',Inv X pins σ H' s'->Q () s'):
  wpAny (model X.prog X.w) A (setItem (.ref a) u r) Q E s:=by
 rcases g with⟨kvs,k,e,ey,l,eH⟩|⟨kvs,k,b,e,ey,eb,l,eH⟩
 subst ey eH;obtain⟨z,hd,vs,rel,dd⟩:=x9 I.hok e;have hz:vs.length<=sizeLine:=by rw[<- rel.length];exact z
 have hl:(putK kvs k v).length<=sizeLine:=by have:=LZ kvs k v;lk
 refine wpAny_setItem_pairs (hsz:=hz) (Cy ry) dd λh' zP hs=>h _ ?_;have he:∃q,h'.get? a=some q:=let ⟨q,_,_,hq,_⟩:=zP;⟨q,hq⟩
 exact L3 I (by rw[e];exact True.intro) hs he (PZ hl hd (rel.put k rv) zP);subst ey eH;cases(show u=Value.ref b from ry);obtain⟨z,hd,xs,rel,dd⟩:=D0 I.hok e;have hz:xs.length<=sizeLine:=by rw[<- Paired.length rel];exact z
 have hl:(putK kvs k v).length<=sizeLine:=by have:=LZ kvs k v;lk
 refine wpAny_setItem_heap (hsz:=hz) (tupleKind_room_in1 hu) (uO I.hok eb) dd λh' zP hs=>h _ ?_;obtain⟨q,es,ep,hq,h2,h3,h4,_,h5⟩:=zP;refine L3 I (by rw[e];exact True.intro) hs ⟨q,hq⟩ ⟨hl,hd,_,(rel.put k eb rv).keeps λc ys ec=>?_,q,es,ep,hq,h2,h3,h4,h5⟩;rw[jI (Lq ec e (λz=>nomatch z))];exact ec
end
abbrev D1(i:Expr):Prop:=∀ov iv,subscripted i false ov iv=operate [ov,iv] (getItem ov iv)
def V9{prog:Program}{w:World}{A:Around}{E:Value->Shared->Prop}{s:Shared}{env:Env}{value slice:Expr}{pos:Pos}{T id:String}{Q:Value->Shared->Prop}
  (hl:typeLookup (.type T) "__getitem__" = pure (some (.builtin id))) (hs:D1 slice)
  (h:wpAny (model prog w) A (eval value env) (λo s₁=>wpAny (model prog w) A (eval slice env) (λi s₂=>s₂.TypeIs o T/\wpAny (model prog w) A (getItem o i) Q E s₂) E s₁) E s) :
  wpAny (model prog w) A (eval (.Subscript value slice pos) env) Q E s:=by
 refine Subscript_ (wpAny_mono h (λo s₁ h₁=>wpAny_mono h₁ (λi s₂ h₂=>?_) λ_ _ x=>x) λ_ _ x=>x);obtain⟨hT,h₂⟩:=h₂;unfold subscriptTail;refine wpAny_bind ?_;rw[getitemInPython_of_ne hT.not_modules];refine wpAny_bind (wpAny_specialOf hT hl ?_);have fin:wpAny (model prog w) A (subscripted slice false o i) (λr s₃=>wpAny (model prog w) A (letTemporaryGo value o r >>= λ_=>pure r) Q E s₃) E s₂:=by
  rw[hs o i];exact wpAny_operating (wpAny_mono h₂ (λr s₃ h₃=>wpAny_bind (wpAny_letTemporaryGo (wpAny_pure h₃))) λ_ _ x=>x)
 first
  |exact wpAny_pure (wpAny_bind fin)
  |exact wpAny_bind (wpAny_pure (wpAny_bind fin))
  |exact wpAny_bind fin
def Wa{X:Cx}{pins:List (Addr×Obj)}{σ:St}{H:Hp}{s:Shared}{a:Addr}{y:V}{o:Option V}(I:Inv X pins σ H s)(g:mJ H a y o):s.TypeIs (.ref a) "dict" := by
 rcases g with⟨kvs,k,e,_,_⟩|⟨kvs,k,b,e,_,_,_⟩
 obtain⟨_,_,vs,_,dd⟩:=DY I.hok e;exact dd.typeIs;obtain⟨_,_,xs,_,dd⟩:=DZ I.hok e;exact dd.typeIs
abbrev uP(td ty:TE):TE:=λσ H Q=>td σ H λx H1=>ty σ H1 λy H2=>∃a v,x=.ref a/\mJ H2 a y (some v)/\Q v H2
abbrev D2(ty td:TE):TE:=λσ H Q=>ty σ H λy H1=>td σ H1 λx H2=>∃a o,x=.ref a/\mJ H2 a y o/\Q (.bl o.isSome) H2
abbrev sE(ty td:TE):TE:=λσ H Q=>ty σ H λy H1=>td σ H1 λx H2=>∃a o,x=.ref a/\mJ H2 a y o/\Q (.bl (!o.isSome)) H2
abbrev uQ(td ty tv:TE):TS:=λD σ H=>tv σ H λv H1=>td σ H1 λx H2=>ty σ H2 λy H3=>∃a H4,x=.ref a/\qU H3 a y v H4/\D.nx σ H4
section
variable {X:Cx}{o i e value:Expr}{pos pos' tpos:Pos}{td ty tv:TE}
def P0(hu:X.A.units+1<cLine)(ho:PE X o td)(hi:PE X i ty)(hs:D1 i):PE X (.Subscript o i pos) (uP td ty):=by intro pins s σ H Q I h;refine V9 PySem.F.slot_dict_getitem.lookup hs (cg (ho pins s σ H _ I h) λu s1 ⟨x,H1,I1,rx,q1⟩=>cg (hi pins s1 σ H1 _ I1 q1) λiv s2 ⟨y,H2,I2,ry,a,v,ex,g,q2⟩=>?_);subst ex;obtain rfl:u=Value.ref a:=rx;exact⟨Wa I2 g,V6 hu I2 g ry λw' s3 I3 rw'=>⟨v,H2,I3,rw',q2⟩⟩
def zQ(hu:X.A.units+1<cLine)(hi:PE X i ty)(ho:PE X o td):PC X .In i o (D2 ty td):=by intro pins s σ H Q I h;refine cg (hi pins s σ H _ I h) λiv s1 ⟨y,H1,I1,ry,q1⟩=>cg (ho pins s1 σ H1 _ I1 q1) λu s2 ⟨x,H2,I2,rx,a,ov,ex,g,q2⟩=>?_;subst ex;obtain rfl:u=Value.ref a:=rx;exact L0 hu I2 g ry λs3 I3=>⟨.bl ov.isSome,H2,I3,rfl,q2⟩
def Wb(hu:X.A.units+1<cLine)(hi:PE X i ty)(ho:PE X o td):PC X .NotIn i o (sE ty td):=by intro pins s σ H Q I h;refine cg (hi pins s σ H _ I h) λiv s1 ⟨y,H1,I1,ry,q1⟩=>cg (ho pins s1 σ H1 _ I1 q1) λu s2 ⟨x,H2,I2,rx,a,ov,ex,g,q2⟩=>?_;subst ex;obtain rfl:u=Value.ref a:=rx;exact V7 hu I2 g ry λs3 I3=>⟨.bl (!ov.isSome),H2,I3,rfl,q2⟩
def P1(hu:X.A.units+1<cLine)(ho:PE X o td)(hi:PE X i ty)(hv:PE X value tv)(hs:swapsWith value (some (.Subscript o i pos')) pos.line X.env=pure false):
  PS X (.Assign [.Subscript o i pos'] value pos) (uQ td ty tv):=by
 intro pins s σ H D I h;refine wpAny_Assign_Subscript (cg (hv pins s σ H _ I h) λr s1 ⟨v,H1,I1,rv,q1⟩=>cg (ho pins s1 σ H1 _ I1 q1) λu s2 ⟨x,H2,I2,rx,q2⟩=>cg (hi pins s2 σ H2 _ I2 q2) λiv s3 ⟨y,H3,I3,ry,a,H4,ex,g,q3⟩=>?_) hs;subst ex;obtain rfl:u=Value.ref a:=rx;exact V8 hu I3 g ry rv λs4 I4=>⟨σ,H4,I4,q3⟩
end
def P4(h:Heap)(hb:sysModules<h.objs.size):cI P w H (h.push { cls:=.type "dict",data:=.dict #[] }) h.objs.size (.dK []) :=
 ⟨ZaJ _,beq_eq_false_iff_ne.mpr (Ne.symm (ZaS hb)),[],.nil,Heap.DictOf.new h⟩
def Wc(h:Heap)(hb:sysModules<h.objs.size):cI P w H (h.push { cls:=.type "dict",data:=.dict #[] }) h.objs.size (.dT []) :=
 ⟨ZaJ _,beq_eq_false_iff_ne.mpr (Ne.symm (ZaS hb)),[],.nil,_,#[],0,ZaA _ rfl,⟨rfl,rfl,rfl⟩,rfl,rfl,List.nodup_nil⟩
abbrev uR:TE:=λ_ H Q=>∀p,H p=none->Q (.ref p) (upd H p (.dK []))
abbrev uS:TE:=λ_ H Q=>∀p,H p=none->Q (.ref p) (upd H p (.dT []))
section
variable {X:Cx}{pos:Pos}
def Wd:PE X (.Dict [] [] pos) uR:=λpins s σ H Q I h =>
 wpAny_Dict_empty ⟨.ref s.heap.objs.size,_,I.laid (a:=s.heap.objs.size) (o:=.dK []) (t':=s.toks) (λ_ _ q=>Zas _ q) (Zad _) (P4 s.heap I.big),rfl,h _ (I.hok.fresh (Zad _))⟩
def Wf:PE X (.Dict [] [] pos) uS:=λpins s σ H Q I h =>
 wpAny_Dict_empty ⟨.ref s.heap.objs.size,_,I.laid (a:=s.heap.objs.size) (o:=.dT []) (t':=s.toks) (λ_ _ q=>Zas _ q) (Zad _) (Wc s.heap I.big),rfl,h _ (I.hok.fresh (Zad _))⟩
end
abbrev p8:List (TE×TE)->St->Hp->(List (V×V)->Hp->Prop)->Prop
 |[],_,H,Q=>Q [] H
 |(tk,tv) :: r,σ,H,Q=>tk σ H λx H1=>tv σ H1 λy H2=>p8 r σ H2 λps H3=>Q ((x,y) :: ps) H3
@[reducible]def VV:List (V×V)->List (Value×Value)->Prop:=Paired λp q=>RelV p.1 q.1/\RelV p.2 q.2
abbrev Jc(X:Cx)(pos:Pos)(keys:List (Option Expr))(values:List Expr)(qV:List (TE×TE)):Prop :=
 ∀(pins:List (Addr×Obj)) (s:Shared) (σ:St) (H:Hp) (Q:List (V×V)->Hp->Prop),Inv X pins σ H s->p8 qV σ H Q ->
  wpAny (model X.prog X.w) X.A (evalPairs (pairTrees keys values X.env pos)) (λvs s'=>∃ps H',Inv X pins σ H' s'/\VV ps vs/\Q ps H') X.xe s
def Wg:Jc X pos [] [] []:=λpins s σ H Q I h=>pairTrees_nil_walk ⟨[],H,I,.nil,h⟩
def P5{X:Cx}{pos:Pos}{k v:Expr}{ks:List (Option Expr)}{vs:List Expr}{tk tv:TE}{qV:List (TE×TE)}(hk:PE X k tk)(hv:PE X v tv)(hr:Jc X pos ks vs qV):
  Jc X pos (some k :: ks) (v :: vs) ((tk,tv) :: qV):=λpins s σ H Q I h =>
 pairTrees_cons_walk (cg (hk pins s σ H _ I h) λu s1 ⟨x,H1,I1,rx,q1⟩=>cg (hv pins s1 σ H1 _ I1 q1) λw2 s2 ⟨y,H2,I2,ry,q2⟩ =>
  cg (hr pins s2 σ H2 _ I2 q2) λws s3 ⟨ps,H3,I3,rel,q3⟩=>⟨(x,y) :: ps,H3,I3,.cons ⟨rx,ry⟩ rel,q3⟩)
abbrev nR(kvs more:List (Key×V)):List (Key×V):=more.foldl (λacc kv=>putK acc kv.1 kv.2) kvs
def KV.merge:∀{more:List (Key×V)} {rs:List (Key×Value)} {kvs:List (Key×V)} {vs:List (Key×Value)},KV more rs->KV kvs vs->KV (nR kvs more) (merged vs rs):=by
 intro more rs kvs vs r;unfold KV at r
 induction r generalizing kvs vs with
 |nil=>intro q;exact q
 |@cons p q ps qs h t ih =>
  intro r0;have e:KV (putK kvs p.1 p.2) (stored vs q.1 q.2):=by
   have:=r0.put p.1 h.2;rw[<- h.1];exact this
  exact ih e
def P6:∀(more kvs:List (Key×V)),(nR kvs more).length<=kvs.length+more.length
 |[],kvs=>by show kvs.length<=kvs.length+0;lk
 |p :: r,kvs=>by
  have h1:=P6 r (putK kvs p.1 p.2);have h2:=LZ kvs p.1 p.2;show(nR (putK kvs p.1 p.2) r).length<=_;rw[ZaE];lk
def P7:∀{kvs:List (Key×V)} {ws:List (Value×Value)},VV (kvs.map λkv=>(kV kv.1,kv.2)) ws->∃rs,Carries (ck P w) ws rs/\KV kvs rs
 |[],_,r=>by rw[ZaT]at r;cases r;exact⟨[],True.intro,.nil⟩
 |p :: kvs,_,r=>by
  rw[Zaz]at r;cases r with
  |@cons a b as bs h t =>
   obtain⟨rs,c,q⟩:=P7 (P:=P) (w:=w) t;obtain⟨b1,b2⟩:=b;exact⟨(p.1,b2) :: rs,⟨Cy h.1,rfl,c⟩,.cons ⟨rfl,h.2⟩ q⟩
abbrev ya(qV:List (TE×TE)):TE:=λσ H Q=>∀p,H p=none->p8 qV σ (upd H p (.dK [])) λps H2=>H2 p=some (.dK [])/\∃kvs:List (Key×V),ps=kvs.map (λkv=>(kV kv.1,kv.2))/\kvs.length<=15/\Q (.ref p) (upd H2 p (.dK (nR [] kvs)))
def Wi{X:Cx}{pos:Pos}{keys:List (Option Expr)}{values:List Expr}{qV:List (TE×TE)}(h:Jc X pos keys values qV)(hall:keys.all (·.isSome)=true)(hl:keys.length=values.length)(h0:keys≠[])
  (Wj:keys.length<=15):PE X (.Dict keys values pos) (ya qV):=by
 intro pins s σ H Q I q;have hn:=I.hok.fresh (Zad s.heap.objs.size);have I1:=I.laid (a:=s.heap.objs.size) (o:=.dK []) (h':=s.heap.push { cls:=.type "dict",data:=.dict #[] }) (t':=s.toks) (λ_ _ q=>Zas _ q) (Zad _) (P4 s.heap I.big);refine wpAny_Dict_walk (knd:=ck X.prog X.w) hall hl h0 Wj (cg (h pins _ σ _ _ I1 (q _ hn)) λws s2 ⟨ps,H2,I2,rel,e,kvs,ep,lk,q2⟩=>?_);subst ep;obtain⟨rs,c,rk⟩:=P7 (P:=X.prog) (w:=X.w) rel;obtain⟨z,hd,vs0,r0,dd⟩:=x9 I2.hok e;cases r0;refine⟨rs,c,dd,λh' zP hs=>⟨.ref s.heap.objs.size,_,?_,rfl,q2⟩⟩;have hz:(nR [] kvs).length<=sizeLine:=by
  have h1:=P6 kvs [];rw[Zcw]at h1;rw[sizeLine_eq];lk
 have he:∃q,h'.get? s.heap.objs.size=some q:=let ⟨q,_,_,hq,_⟩:=zP;⟨q,hq⟩
 exact L3 I2 (by rw[e];exact True.intro) hs he (PZ hz hd (rk.merge .nil) zP)
end L2
namespace P8
open PySem PySem.W PySem.Calls PyProof.Rows
def Wk:∀(ns:List Int) (vs:List Value),WellAll P h vs (ns.map WData.int)->IntsAre vs ns:=by
 intro ns
 induction ns with
 |nil =>
  intro vs w;rw[ZaT]at w;cases w;exact .nil
 |cons n ns ih =>
  intro vs w;rw[Zaz]at w;cases w with
  |cons a b =>
   cases a;exact .cons _ _ (ih _ b)
def Wl{l:OpenLaw}{n:Nat}(hn:l.most=some n){P:Params}{h:Heap}{args:List WData}{vals:List Value}
  (hpre:l.row.toRowW.claim.pre args=true) (hwl:WellAll P h vals args) :
  ∃a vs ns,vals=[Value.ref a]/\args=[WData.list (ns.map WData.int)]/\h.get? a=some { cls:=.type "list",data:=.seq vs.toArray }/\IntsAre vs ns/\ns.length<=n:=by
 have hsh:WShape.hasAll [] args [.list .int]=true:=(pre_splitW hpre).1;have hc:l.pre.holds [] { args:=args }=true:=(pre_splitW hpre).2;obtain⟨d,r,rfl,h1,h2⟩:=hasAllW_cons hsh;obtain rfl:=hasAllW_nil h2;obtain⟨xs,rfl,h3⟩:=hasW_list h1;obtain⟨ns,rfl⟩:=items_int h3;have hlen:ns.length<=n:=by
  unfold OpenLaw.pre at hc;have h4:(WTm.not (.lt (.lit (.int (n:Int))) (.len (.arg 0)))).holds [] { args:=[.list (ns.map .int)] }=true:=by
   have h4:=(holds_andW hc).1;rw[hn]at h4;exact h4
  have h5:=condW_of h4 (w_not (w_lt w_lit (w_len_list (w_arg rfl))));rw[Zaa]at h5;refine Zcn λq=>?_;have q':(n:Int)<((ns.length:Nat):Int):=by lk
  first
   |(rw[decide_eq_true q']at h5;exact absurd h5 ∅)
   |(simp at h5;lk)
 cases hwl with
 |cons w1 w2 =>
  cases w2;cases w1 with
  |list ho hall=>exact⟨_,_,ns,rfl,rfl,ho,Wk ns _ hall,hlen⟩
def Wm(l:OpenLaw)(args:List WData):l.row.toRowW.claim.post args (.bool true) args=true :=
 postW_of (r:=l.row.toRowW) (X:=(true == true))
  (show WShape.has [] (.bool true) .bool=true by first|rfl|decide|simp[WShape.has,WShape.arms,WShape.armsAll])
  (show(WTm.eq .res (.lit (.bool true))).value [] { args:=args,res:=some (.bool true),after:=args }=some (.bool (true == true))from w_eq_bool (w_res rfl) w_lit) rfl
def Wn{l:OpenLaw}{n:Nat}{q:Program}{loose:List Str}{XP:(Str->Option Value)->Heap->Prop}{YP:World->Heap->Prop}{d:DefRec}
  (hn:l.most=some n) (hdf:d.params.defaults=[])
  (call:∀(w:World) (s₀ s₁:Shared) (mg mb:Str->Option Value) (fa:Addr) (o:Obj) (pm cd doc:Value) (a:Addr) (vs:List Value) (ns:List Int),
   Ground q loose [] XP w s₀ mg mb s₁.heap->YP w s₁.heap ->
   s₁.heap.get? fa=some o->o.data=.func (docDef d.name d.params d.body d.scope pm cd doc)->s₁.heap.CodeRec cd d.name->mg d.name=some (.ref fa) ->
   s₁.heap.get? a=some { cls:=.type "list",data:=.seq vs.toArray }->IntsAre vs ns->ns.length<=n->s₁.gens=#[] ->
   codeAny (model l.prog w) callerA (.call (.ref fa) ⟨[.ref a],[]⟩) (λr s'=>r=.ok (.ret (.bool true))/\OldK s₁.heap s'.heap/\s'.os=s₁.os/\AllBare s'.gens) s₁) :
  WalkO q loose XP YP l.row.toRowW d [] (λf vs=>PySem.call f vs):=by
 intro w s₀ s₁ mg mb G Y fa o pm cd doc dV kV ho hd hcd hD hmg hg args vals as hpre hlay hrd hwl hlo;obtain rfl:dV=.none:=Dflts.none hD hdf;obtain rfl:kV=.none:=Dflts.noKw hD;obtain⟨a,vs,ns,rfl,rfl,hobj,hints,hlen⟩:=Wl hn hpre hwl;refine enter_call (codeAny_mono (call w s₀ s₁ mg mb fa o pm cd doc a vs ns G Y ho (fd_plain hd) hcd hmg hobj hints hlen hg) λr s' hq=>?_);obtain⟨rfl,h2,h3,h4⟩:=hq;exact⟨.inl ⟨.bool true,.bool true,[],rfl,λ_=>rfl,.bool true,Wm l _,λ_=>⟨List.Pairwise.nil,λ_ hm=>(nomatch hm)⟩⟩,h2,h3,h4⟩
end P8
namespace L2
open PySem PySem.Spec PyProof.Rows
def P9:∀{vs:List Value} {ns:List Int},IntsAre vs ns->Vals (ns.map V.int) vs
 |_,_,.nil=>.nil
 |_,_,.cons n t h=>.cons ⟨t,rfl⟩ (P9 h)
abbrev Only(H:Hp):Prop:=∀b,H b=none\/∃o xs,H b=some (.pY o (.lst xs))
def Wo{P:Program}{w:World}{K:Zfr}{mg mb:Str->Option Value}{CX:sx}{k:Nat}{fa a:Addr}{fd:FuncData}{x:Str}{sp:Sp}{s₁:Shared}{vs:List Value}{ns:List Int}
  (KX:K.In s₁.heap) (hns:s₁.heap.Ns mainGlobals mg) (hb:s₁.heap.Ns builtinsNs mb) (Wq:∀x:Str,x≠"__name__" -> mb x=bootBuiltins x) (hlim:s₁.heap.NoLimit) (hg:s₁.gens=#[])
  (ha:s₁.heap.get? a=some { cls:=.type "list",data:=.seq vs.toArray }) (hi:IntsAre vs ns) (hl:ns.length<=sizeLine) (hr:iL k callerA)
  (F:∀base:Heap,K.In base->base.Ns mainGlobals mg->aC P w K mg base CX k fa fd [x] sp) (hbind:∀(s:Shared) (u:Value),BindsTo s fd ⟨[u],[]⟩ [(x,u)])
  (uj:∀H:Hp,Only H->jW K H a (ns.map V.int)->sp [.ref a] H (λv _=>v=.bl true) λ_ _ _=>False)
  (D3:∀H e s',CX [] H s₁ (λ_ _ _=>False) e s'->False) :
  codeAny (model P w) callerA (.call (.ref fa) ⟨[.ref a],[]⟩) (λr s'=>r=.ok (.ret (.bool true))/\OldK s₁.heap s'.heap/\s'.os=s₁.os/\AllBare s'.gens) s₁:=by
 have rv:=P9 hi;have L5:=hi.length;have core:∀ H:Hp,Only H->jW K H a (ns.map V.int)->nh P w H s₁.heap->(∀ b,H b≠none->b=a)->(H a≠none->K.lookup a=none) ->
   codeAny (model P w) callerA (.call (.ref fa) ⟨[.ref a],[]⟩) (λr s'=>r=.ok (.ret (.bool true))/\OldK s₁.heap s'.heap/\s'.os=s₁.os/\AllBare s'.gens) s₁:=by
  intro H hO hS hok hA hK;have sF:∀{b:Addr} {o:Obj},s₁.heap.get? b=some o->H b=none->(p5 s₁.heap H).get? b=some o:=λe n=>Vv e n;have DN:∀{b:Addr} {o:Obj} {es:Array DictEntry} {ep:Nat},s₁.heap.get? b=some o->o.data=.dict es ep->H b=none:=λ{b o es ep} e d=>by
   cases q:H b with
   |none=>rfl
   |some u =>
    have e':b=a:=hA b (by rw[q];simp);subst e';rw[ha]at e;cases e;have d':Data.seq vs.toArray _=Data.dict es ep:=d;cases d'
  have Jd:∀{b:Addr} {m:Str->Option Value},s₁.heap.Ns b m->(p5 s₁.heap H).Ns b m:=λ{b m} ⟨o,es,ep,e,d,r⟩=>⟨o,es,ep,sF e (DN e d),d,r⟩
  have Qa:K.In (p5 s₁.heap H):=λb o e=>sF (KX b o e) (by
   cases q:H b with
   |none=>rfl
   |some u =>
    have e':b=a:=hA b (by rw[q];simp);subst e'
    rw[hK (by rw[q];simp)]at e;cases e)
  have hM:Mod K mg (p5 s₁.heap H):=⟨Qa,Jd hns,⟨mb,Jd hb,Wq⟩,let ⟨mc,h1,h2⟩:=hlim;⟨mc,Jd h1,h2⟩⟩;have e0:wM P w K mg (p5 s₁.heap H) callerA [] s₁ H:=⟨rfl,hM,λb o e=>Vw e,Nat.le_of_eq (Vu _ _),trivial,λb hb=>absurd (show b∈([]:List Addr)from hb) (by simp),hok,.of_eq hg⟩;refine codeAny_mono ((F _ Qa (Jd hns)).run callerA [] s₁ H ⟨[.ref a],[]⟩ [.ref a] [.ref a] _ _ hr e0 (hbind s₁ (.ref a)) (.cons rfl .nil) (uj H hO hS)) λr s' h=>?_;cases r with
  |error e=>exact(D3 H e s' h).elim
  |ok fl =>
   cases fl with
   |next=>exact False.elim h
   |brk=>exact False.elim h
   |cont=>exact False.elim h
   |ret u =>
    obtain⟨v,H',os,bare,un,L6,r',q⟩:=h;have q':v=.bl true:=q;subst q';obtain rfl:u=Value.bool true:=r';refine⟨rfl,OldK.of_keep λb o e=>?_,os,bare⟩;cases q:H b with
    |none=>exact un.keep b o e q (by intro z;exact absurd (show b∈([]:List Addr)from z) (by simp)) (by simp)
    |some u =>
     rcases hO b with z|⟨ob,xs,z⟩
     ·rw[q]at z;cases z
     ·have z2:=un.p4 b ob _ z
      obtain⟨e1,_⟩:=hok b _ z;obtain⟨e2,_⟩:=L6 b _ z2;rw[e]at e1;cases e1;exact e2
 cases hk:K.lookup a with
 |some o =>
  have e:=KX a o hk;rw[ha]at e;cases e;refine core (λ_=>none) (λ_=>.inl rfl) (.inr ⟨_,vs.toArray,_,hk,rfl,rfl,rfl,by rw[Zaq,L5];exact hl,by simpa using rv⟩) (λb u z=>by have z':(none:Option HO)=some u:=z;cases z') (λb z=>absurd rfl z) λz=>absurd rfl z
 |none =>
  refine core (λb=>if b=a then some (.pY { cls:=.type "list",data:=.seq vs.toArray } (.lst (ns.map V.int)))else none) (λb=>?_) (.inl (.inr ⟨{ cls:=.type "list",data:=.seq vs.toArray },if_pos rfl⟩)) (λb u z=>?_) (λb z=>?_) λ_=>hk
  ·by_cases hb:b=a
   ·exact .inr ⟨_,_,if_pos hb⟩
   ·exact .inl (if_neg hb)
  ·by_cases hb:b=a
   ·have z':=(if_pos hb).symm.trans z
    cases z';subst hb;exact⟨ha,by rw[Zaa];exact hl,vs,_,rv,ha⟩
   ·have z':=(if_neg hb).symm.trans z
    cases z'
  ·by_cases hb:b=a
   ·exact hb
   ·exact absurd (if_neg hb) z
@[reducible]def KOf{K:Zfr}{h:Heap}(_:K.In h):Zfr:=K
def Wr{l:PySem.W.OpenLaw}{n k:Nat}{q:Program}{loose:List Str}{XP:(Str->Option Value)->Heap->Prop}{YP:World->Heap->Prop}{d:DefRec}{K:Params->Zfr}{CX:World->sx}{sp:World->Sp}{x:Str}
  (hn:l.most=some n) (hn2:n<=sizeLine) (hdf:d.params.defaults=[]) (hr:iL k callerA)
  (hY:∀(w:World) (h:Heap),YP w h->(K w.params).In h)
  (F:∀(w:World) (mg:Str->Option Value) (fa:Addr) (h:Heap),(K w.params).In h->h.Ns mainGlobals mg->mg d.name=some (.ref fa) ->
   ∃fd:FuncData,(∀(s:Shared) (u:Value),BindsTo s fd ⟨[u],[]⟩ [(x,u)]) /\
    ∀base:Heap,(K w.params).In base->base.Ns mainGlobals mg->aC l.prog w (K w.params) mg base (CX w) k fa fd [x] (sp w))
  (uj:∀(w:World) (H:Hp) (a:Addr) (ns:List Int),ns.length<=n->Only H->jW (K w.params) H a (ns.map V.int)->sp w [.ref a] H (λv _=>v=.bl true) λ_ _ _=>False)
  (D3:∀(w:World) (H:Hp) (s:Shared) (e:Value) (s':Shared),CX w [] H s (λ_ _ _=>False) e s'->False) :
  PySem.W.WalkO q loose XP YP l.row.toRowW d [] (λf vs=>PySem.call f vs):=by
 refine P8.Wn hn hdf λw s₀ s₁ mg mb fa o pm cd doc a vs ns G Y ho hd hcd hmg hobj hints hlen hg=>?_;have KX:=hY w _ Y;obtain⟨fd,hb,hF⟩:=F w mg fa _ KX G.T.g hmg;exact Wo KX G.T.g G.T.b G.T.builtins G.T.nolimit hg hobj hints (Zap hlen hn2) hr hF hb (λH hO hS=>uj w H a ns hlen hO hS) λH e s'=>D3 w H s₁ e s'
def Wt{l:PySem.W.OpenLaw}{n k:Nat}{q:Program}{loose:List Str}{XP:(Str->Option Value)->Heap->Prop}{YP:World->Heap->Prop}{d:DefRec}{K:Params->Zfr}{CX:sx}{sp:Zfr->Sp}{x:Str}
  (hn:l.most=some n) (hn2:n<=sizeLine) (hdf:d.params.defaults=[]) (hr:iL k callerA)
  (hY:∀(w:World) (h:Heap),YP w h->(K w.params).In h)
  (F:∀(w:World) (mg:Str->Option Value) (fa:Addr) (h:Heap),(K w.params).In h->h.Ns mainGlobals mg->mg d.name=some (.ref fa) ->
   ∃fd:FuncData,(∀(s:Shared) (u:Value),BindsTo s fd ⟨[u],[]⟩ [(x,u)]) /\
    ∀base:Heap,(K w.params).In base->base.Ns mainGlobals mg->aC l.prog w (K w.params) mg base CX k fa fd [x] (sp (K w.params)))
  (uj:∀(K:Zfr) (H:Hp) (a:Addr) (ns:List Int),ns.length<=n->Only H->jW K H a (ns.map V.int)->sp K [.ref a] H (λv _=>v=.bl true) λ_ _ _=>False)
  (D3:∀(H:Hp) (s:Shared) (e:Value) (s':Shared),CX [] H s (λ_ _ _=>False) e s'->False) :
  PySem.W.WalkO q loose XP YP l.row.toRowW d [] (λf vs=>PySem.call f vs) :=
 Wr (K:=K) (CX:=λ_=>CX) (sp:=λw=>sp (K w.params)) hn hn2 hdf hr hY F (λw H a ns h1 h2 h3=>uj (K w.params) H a ns h1 h2 h3) λ_ H s e s'=>D3 H s e s'
abbrev gk(s:Stmt):Arguments:=match s with
 |.FunctionDef _ a _ _ _ _ _ _ _ _=>a
 |_=>{ posonlyargs:=[],args:=[],vararg:=none,kwonlyargs:=[],kw_defaults:=[],kwarg:=none,defaults:=[] }
abbrev dO(s:Stmt):List Stmt:=match s with
 |.FunctionDef _ _ b _ _ _ _ _ _ _=>b
 |_=>[]
abbrev aj(s:Stmt):Scope:=match s with
 |.FunctionDef _ _ _ _ _ _ sc _ _ _=>sc
 |_=>{ kind:=.function,names:=[],isGenerator:=false,isCoroutine:=false }
@[reducible]def a6:sx:=λ_ _ _ _ _ _=>False
@[reducible]def E0:XK:=λ_ _ _=>False
def yb:Passes a6 X E0:=λ_ _ _ _ _ _ _ h=>h.elim
structure Je(K:Zfr)(x qual:Str)(st:Stmt)(f:Addr)(fd:FuncData):Prop where
 ex:∃(oc:Value) (od:Option Addr) (kV doc pm:Value) (an:Option Addr) (cdv ct:Value) (osl:Array (Option Value)),
  fd=PySem.W.fnOf x qual (gk st) (dO st) (aj st) .none kV doc pm an cdv ct/\K.lookup f=some ⟨oc,od,.func fd,osl⟩/\PySem.W.codeIn K cdv qual=true
 kp:PySem.W.keepIn K (.ref f)=true
section
variable {P:Program}{w:World}{K:Zfr}{mg:Str->Option Value}{base:Heap}
def Je.ok{x qual:Str}{st:Stmt}{f:Addr}{fd:FuncData}{N ps:List Str}{k:Nat}{sp:Sp}(F:Je K x qual st f fd)(S:ax N ps (aj st))(len:∀vs H Q E,sp vs H Q E->vs.length=ps.length)
  (hbody:∀(cdv:Value) (A:Around) (outer:List Env) (s:Shared) (H:Hp) (vs:List V) (Q:VK) (E:XK),iL k (A.deeper (envOfC qual (aj st) s.heap.objs.size f cdv))->sp vs H Q E ->
   ∃t,sv (fV a6 P w K mg base N qual (aj st) f cdv A outer s H E).oA (dO st) t/\t { nx:=λ_ H'=>Q .non H',rt:=Q } (start N vs) H):aC P w K mg base a6 (k+1) f fd ps sp:=by
 obtain⟨oc,od,kV,doc,pm,an,cdv,ct,osl,rfl,lk,hcd⟩:=F.ex;refine xX lk hcd S len λA outer s H vs Q E hr uj=>?_;obtain⟨t,h,q⟩:=hbody cdv A outer s H vs Q E hr uj;exact⟨t,h.oA,q⟩
def zR{x qual:Str}{st:Stmt}{f:Addr}{oc:Value}{od an:Option Addr}{osl:Array (Option Value)}{kV doc pm cdv ct:Value}(l:K.lookup f=some ⟨oc,od,.func (PySem.W.fnOf x qual (gk st) (dO st) (aj st) .none kV doc pm an cdv ct),osl⟩)
  (c:PySem.W.codeIn K cdv qual=true) (k:PySem.W.keepIn K (.ref f)=true):Je K x qual st f (PySem.W.fnOf x qual (gk st) (dO st) (aj st) .none kV doc pm an cdv ct):=⟨⟨oc,od,kV,doc,pm,an,cdv,ct,osl,rfl,l,c⟩,k⟩
end
def L7(hr:iL k A):A.units+1<cLine:=Za3 (Nat.add_le_add_left (by decide:1<=64) _) hr.units
section
variable {X:Cx}
def pv(i:Nat){x:Str}{pos:Pos}(hN:X.N[i]?=some x:=by rfl)(hv:Lu X.env.scope x:=by first | exact Or.inl rfl | exact Or.inr (Or.inl rfl) | exact Or.inr (Or.inr rfl))(hd:(x == ("__debug__" : Str))=false:=by decide)
  (hcd:(x == ("__classdict__" : Str))=false:=by decide):PE X (.Name x pos) (uD i):=zq hN hv hd hcd
end
def rQ{A B:Prop}(h:B):if false=true then A else B:=by rw[if_neg Zam];exact h
def rR{A B:Prop}(h:A):if true=true then A else B:=by rw[if_pos rfl];exact h
abbrev gq(H H':Hp):Prop:=∀b o,H b=some o->H' b=some o
def gq.refl(H:Hp):gq H H:=λ_ _ h=>h
def mG:bootBuiltins "len" = some (.builtin "len"):=by decide +kernel
def Qb:bootBuiltins "int" = some (.type "int"):=by decide +kernel
def tG:bootBuiltins "list" = some (.type "list"):=by decide +kernel
def oE:bootBuiltins "tuple" = some (.type "tuple"):=by decide +kernel
def vZ:bootBuiltins "range" = some (.type "range"):=by decide +kernel
def L8:bootBuiltins "max" = some (.builtin "max"):=by decide +kernel
def L9:bootBuiltins "min" = some (.builtin "min"):=by decide +kernel
def Wu:bootBuiltins "reversed" = some (.type "reversed"):=by decide +kernel
structure Kp(ch:List Addr)(H H':Hp):Prop where
 keep:∀b o,H b=some o->b ∉ ch->H' b=some o
 tup:∀b xs,H b=some (.tup xs)->H' b=some (.tup xs)
 pY:∀b o u,H b=some (.pY o u)->H' b=some (.pY o u)
section
variable {ch:List Addr}{H H1 H2:Hp}{a l p:Addr}{o:HO}{xs ys:List V}{K:Zfr}
def Kp.refl:Kp ch H H:=⟨λ_ _ h _=>h,λ_ _ h=>h,λ_ _ _ h=>h⟩
def Kp.of_same(h:gq H H1):Kp ch H H1:=⟨λb o e _=>h b o e,λb xs e=>h b _ e,λb o u e=>h b _ e⟩
def Kp.put(h:Kp ch H H1)(ha:a∈ch)(e:H1 a=some (.lst xs)):Kp ch H (upd H1 a o) :=
 ⟨λb u q n=>by rw[jI (λz=>n (by rw[z];exact ha))];exact h.keep b u q n,
   λb u q=>by
  have r:=h.tup b u q;rw[jI (Lq r e (by intro z;cases z))];exact r,
   λb u v q=>by
  have r:=h.pY b u v q
  rw[jI (Lq r e (by intro z;cases z))];exact r⟩
def Kp.Ma(h:Kp ch H H1)(q:gg K H a xs):gg K H1 a xs:=by
 rcases q with(q|⟨o,q⟩)|q
 exact .inl (.inl (h.tup a xs q));exact .inl (.inr ⟨o,h.pY a o _ q⟩);exact .inr q
abbrev D4(K:Zfr)(H:Hp)(a:Addr)(xs:List V):Prop :=
 (∃o,H a=some (.pY o (.lst xs))) \/
  ∃(o:Obj) (its:Array Value) (n:Nat),K.lookup a=some o/\o.cls=.type "list" /\ o.dict=none/\o.data=.seq its n/\its.size<=sizeLine/\Vals xs its.toList
def D4.sq(h:D4 K H a xs):jW K H a xs:=h.elim (λ⟨o,e⟩=>.inl (.inr ⟨o,e⟩)) .inr
def jW.script(hO:Only H)(q:jW K H a xs):D4 K H a xs:=by
 rcases q with(q|⟨o,q⟩)|q
 rcases hO a with e|⟨o,ys,e⟩
 rw[e]at q;cases q;rw[e]at q;cases q;exact .inl ⟨o,q⟩;exact .inr q
def gq.up(h:H p=none):gq H (upd H p o):=λb u e=>by rw[jI (Cn e h)];exact e
end
abbrev rS(K:Zfr)(H:Hp)(xs:List V)(Q:VK):Prop:=∀p H',gg K H' p xs->gq H H'->Q (.ref p) H'
section
variable {X:Cx}
def rS.new{K:Zfr}{H:Hp}{xs:List V}{Q:VK}(h:rS K H xs Q):∀p,H p=none->Q (.ref p) (upd H p (.tup xs)):=λp hp=>h p _ (gg.of qL) (gq.up hp)
def rS.it{K:Zfr}{H:Hp}{xs:List V}{Q:VK}{a:Addr}(h:rS K H xs Q)(q:gg K H a xs):Q (.ref a) H:=h a H q (gq.refl H)
abbrev uT(K:Zfr):R2:=λx y H Q=>∃a b xs ys,x=.ref a/\y=.ref b/\gg K H a xs/\gg K H b ys/\xs.length+ys.length<=sizeLine/\rS K H (xs ++ ys) Q
def wa:mH X (binaryOp .Add) (uT X.K):=by
 intro pins s σ H x y v u Q I rx ry h;obtain⟨a,b,xs,ys,rfl,rfl,ha,hb,hz,q⟩:=h;by_cases hx:xs=[];subst hx;cases rx;cases ry;obtain⟨its,r1,p1,_⟩:=I.tuple ha;obtain⟨its2,r2,p2,_⟩:=I.tuple hb;have e:its=[]:=r1.oB.mpr rfl;subst e;obtain⟨⟨cls,dd,data,sl⟩,ho,hc,n,hd⟩:=id p1;obtain⟨⟨LL,dd2,data2,sl2⟩,ho2,hc2,n2,hd2⟩:=id p2;simp only at hc hd hc2 hd2;subst hc hd hc2 hd2;exact concat_meets ⟨_,ho,rfl⟩ ⟨_,ho2,rfl⟩ noFill_tuple_add seq_tuple_add PySem.F.slot_tuple_add PySem.F.entry_tuple_add (PySem.F.args_tuple_add_2 _ _)
  (tuple_addW0 a b #[] its2.toArray n n2 dd dd2 sl sl2 (by simp)) ⟨ho,ho2,⟨.ref b,H,I,rfl,q.it (by simpa using hb)⟩⟩
 exact VW pins s σ H _ _ v u Q I rx ry ⟨a,b,xs,ys,rfl,rfl,ha,hb,hx,hz,λe=>q.it (by subst e;simpa using ha),λ_=>q.new⟩
def Wv{prog:Program}{w:World}{A:Around}{E:Value->Shared->Prop}{s:Shared}{t sl:Addr}{items:Array Value}{vl vu:Value}{lo hi:Option Int}{Q:Value->Shared->Prop}(ht:IsTup s.heap t items)(hs:s.heap.IsSliceOf sl vl vu .none)(pl:IsPart vl lo)(pu:IsPart vu hi)
  (hw:HT.cO items.size 0 lo=0/\HT.cO items.size items.size hi=items.size) (h:Q (.ref t) s):wpAny (model prog w) A (getItem (.ref t) (.ref sl)) Q E s:=by
 obtain⟨os,hos,hcs,hds⟩:=id hs;have LM:s.TypeIs (.ref sl) "slice" := ⟨os,hos,hcs⟩;unfold getItem
 try with_reducible refine wpAny_holding ?_
 first|refine wpAny_bind (wpAny_pure ?_)|skip
 refine wpAny_bind (wpAny_sequenceKey ht.typeIs ∅ ?_)
 refine wpAny_bind (wpAny_callSpecial?_slot (name:=Str.ofString "__getitem__") ht.typeIs PyProof.Rows.slot_tuple_getitem
  (wpAny_call_entry PyProof.Rows.slot_tuple_getitem ht.typeIs entry_tuple_getitem ?_ (args_tuple_getitem _ _)))
 show wpAny _ _ (Builtin.Tuple.tupleItemsOf (.ref t) >>= _) _ _ s;refine wpAny_bind (tupleItemsOf_ ht ?_);refine wpAny_bind (wpAny_typeOf LM ?_);rw[if_pos ∅];refine wpAny_bind (HT.Py hs pl pu ?_);have hyes:((((HT.cO items.size 0 lo:Nat):Int) == 0 && (1:Int) == 1 && (HT.cO items.size items.size hi-HT.cO items.size 0 lo) == items.size)=true):=by
  rw[hw.1,hw.2];simp
 show wpAny _ _ (if(((HT.cO items.size 0 lo:Nat):Int) == 0 && (1:Int) == 1 && (HT.cO items.size items.size hi-HT.cO items.size 0 lo) == items.size)=true then _ else _) _ _ s;rw[if_pos hyes];obtain⟨o,ho,hc,n,hd⟩:=id ht;unfold Builtin.Tuple.tupleIsExact
 first
  |exact wpAny_bind (wpAny_bind (wpAny_typeOf (T:="tuple") ⟨o,ho,hc⟩ (wpAny_pure (wpAny_bind (wpAny_rule (wpAny_pure ⟨_,rfl,wpAny_pure h⟩))))))
  |exact wpAny_bind (wpAny_bind (wpAny_typeOf (T:="tuple") ⟨o,ho,hc⟩ (wpAny_pure (wpAny_bind (wpAny_rule (wpAny_bind (wpAny_pure ⟨_,rfl,wpAny_pure h⟩)))))))
  |trace_state
abbrev yc(K:Zfr):V->Option Int->Option Int->Hp->VK->Prop:=λx lo hi H Q=>∃a xs,x=.ref a/\gg K H a xs/\rS K H (oV xs lo hi) Q
def Ww{xs:List V}{lo hi:Option Int}(h:HT.cO xs.length 0 lo=0/\HT.cO xs.length xs.length hi=xs.length):oV xs lo hi=xs:=by unfold oV;rw[h.1,h.2];simp
def xdg:IY X (yc X.K):=by
 intro pins s σ H x v vl vu lo hi sl Q I rx hs pl pu h;obtain⟨a,xs,rfl,hx,q⟩:=h;by_cases hw:HT.cO xs.length 0 lo=0/\HT.cO xs.length xs.length hi=xs.length;cases rx;obtain⟨its,r,ht,hz⟩:=I.tuple hx;have hlen:its.toArray.size=xs.length:=by rw[Zaq];exact r.length.symm
 refine⟨"tuple",_,PyProof.Rows.slot_tuple_getitem.lookup,ht.typeIs,?_⟩;exact Wv ht hs pl pu (by rw[hlen];exact hw) ⟨.ref a,H,I,rfl,q.it (by rw[Ww hw];exact hx)⟩;exact zJ pins s σ H _ v vl vu lo hi sl Q I rx hs pl pu ⟨a,xs,rfl,hx,hw,q.new⟩
abbrev g7(lo:Int)(n:Nat):List V:=(List.range n).map λ(k:Nat)=>V.int (lo+k)
def Wx(lo:Int)(n:Nat):(g7 lo n).length=n:=by simp[g7]
def Jf:gh X (.type "range") (λxs H Q=>∃j:Int,xs=[.int j]/\∀p,H p=none->Q (.ref p) (upd H p (.lL 0 j))):=by intro pins s σ H xs us Q I r h;obtain⟨j,rfl,q⟩:=h;obtain⟨u,rfl,t,rfl⟩:=vals1 r;refine call_range_1 ⟨.ref s.heap.objs.size,_,I.laid (o:=.lL 0 j) (λb o e=>Zas _ e) (Zad _) ?_,rfl,q _ (I.hok.fresh (Zad _))⟩;exact⟨_,_,_,ZaA _ rfl⟩
def Cz:gh X (.type "range") (λxs H Q=>∃i j:Int,xs=[.int i,.int j]/\∀p,H p=none->Q (.ref p) (upd H p (.lL i j))):=by intro pins s σ H xs us Q I r h;obtain⟨i,j,rfl,q⟩:=h;obtain⟨u,u',rfl,⟨t,rfl⟩,t',rfl⟩:=vals2 r;refine call_range_2 ⟨.ref s.heap.objs.size,_,I.laid (o:=.lL i j) (λb o e=>Zas _ e) (Zad _) ?_,rfl,q _ (I.hok.fresh (Zad _))⟩;exact⟨_,_,_,ZaA _ rfl⟩
def Qc:∀(n:Nat) (lo:Int) (us:List Value),us.length=n->(∀(j:Nat) (v:Value),us[j]?=some v->∃t,v=.int (lo+j*1) t)->Vals (g7 lo n) us
 |0,lo,[],_,_=>.nil
 |0,lo,_ :: _,h,_=>by simp at h
 |n+1,lo,[],h,_=>by simp at h
 |n+1,lo,u :: us,h,hv=>by
  have e:g7 lo (n+1)=V.int lo :: g7 (lo+1) n:=by
   unfold g7;rw[List.range_succ_eq_map,Zaz,ZaC]
   congr 1
   simp;apply ZaO;intro i _;simp only[Function.comp]
   congr 1
   push_cast
   lk
  rw[e];obtain⟨t,ht⟩:=hv 0 u rfl;refine .cons ⟨t,by rw[ht];simp⟩ (Qc n (lo+1) us (by simpa using h) λj v hj=>?_);obtain⟨t',ht'⟩:=hv (j+1) v hj;refine⟨t',ht'.trans ?_⟩
  congr 1
  lk
def wb(hc:X.calm=true):gh X (.type "list") (λxs H Q=>∃p lo hi,xs=[.ref p]/\H p=some (.lL lo hi)/\(-(2 ^ 62)<=lo/\lo<2 ^ 62/\-(2 ^ 62)<=hi/\hi<2 ^ 62)/\(hi-lo).toNat<=2 ^ 24 /\
  ∀l,H l=none->Q (.ref l) (upd H l (.lst (g7 lo (hi-lo).toNat)))):=by
 intro pins s σ H xs us Q I r h;obtain⟨p,lo,hi,rfl,hp,⟨b1,b2,b3,b4⟩,hz,q⟩:=h;obtain⟨u,rfl,ru⟩:=vals1 r;cases ru;obtain⟨t,t',t'',e⟩:=(show cI X.prog X.w H s.heap p (.lL lo hi)from I.hok p _ hp);refine call_list_range (a:=lo) (b:=hi) (c:=1) (n:=(hi-lo).toNat) (I.ok.hd hc) (show IsRange s.heap p lo hi 1 t t' t'' from e) (small_one b1 b2 b3 b4) (by rw[rangeSize_one];split<;>lk) hz λh' tk acc c kp hD hI=>?_;refine⟨.ref s.heap.objs.size,_,I.laid (t':=tk) (o:=.lst (g7 lo (hi-lo).toNat)) kp (Zad _) ?_,rfl,q _ (I.hok.fresh (Zad _))⟩;refine⟨by rw[Wx];exact Zap hz ∅,acc.toList,c,Qc _ _ _ (by rw[Zcf];exact hI.1) λj v hj=>hI.2 j v (by rw[<- hj,Zb9]),by simpa using hD⟩
end
mutual
inductive Rep(K:Zfr)(H:Hp):V->PyData->Prop
 |non:Rep K H .non .none
 |bl (b:Bool):Rep K H (.bl b) (.bool b)
 |int (i:Int):Rep K H (.int i) (.int i)
 |str (x:Str):Rep K H (.str x) (.str x)
 |tup {a:Addr} {xs:List V} {ds:List PyData}:gg K H a xs->g8 K H xs ds->Rep K H (.ref a) (.tuple ds)
 |lst {a:Addr} {xs:List V} {ds:List PyData}:jW K H a xs->g8 K H xs ds->Rep K H (.ref a) (.list ds)
inductive g8(K:Zfr)(H:Hp):List V->List PyData->Prop
 |nil:g8 K H [] []
 |cons {v:V} {vs:List V} {d:PyData} {ds:List PyData}:Rep K H v d->g8 K H vs ds->g8 K H (v :: vs) (d :: ds)
end
section
variable {X:Cx}{pins:List (Addr×Obj)}{σ:St}{H:Hp}{s:Shared}
mutual
theorem Rep.reads(I:Inv X pins σ H s):∀{v:V} {d:PyData} {u:Value},Rep X.K H v d->RelV v u->∃as,Reads s.heap u d as
 |_,_,_,.non,r=>by cases r;exact⟨_,.none⟩
 |_,_,_,.bl b,r=>by cases r;exact⟨_,.bool b⟩
 |_,_,_,.int i,r=>by obtain⟨t,rfl⟩:=r;exact⟨_,.int i t⟩
 |_,_,_,.str x,r=>by obtain⟨t,rfl⟩:=r;exact⟨_,.str x t⟩
 |_,_,_,.tup q rs,r=>by
  cases r;obtain⟨its,rv,⟨o,e,c,n,hd⟩,_⟩:=I.tuple q;obtain⟨as,ra⟩:=g8.reads I rs rv;exact⟨_,.tuple e c hd (by simpa using ra)⟩
 |_,_,_,.lst q rs,r=>by
  cases r;obtain⟨its,rv,pl,_⟩:=I.list q;obtain⟨o,e,c,n,hd⟩:=pl.isList;obtain⟨as,ra⟩:=g8.reads I rs rv;exact⟨_,.list e c hd (by simpa using ra)⟩
theorem g8.reads(I:Inv X pins σ H s):∀{vs:List V} {ds:List PyData} {us:List Value},g8 X.K H vs ds->Vals vs us->∃as,ReadsAll s.heap us ds as
 |_,_,_,.nil,r=>by cases r;exact⟨_,.nil⟩
 |_,_,_,.cons h t,r=>by
  cases r with
  |cons r1 r2 =>
   obtain⟨as,h1⟩:=Rep.reads I h r1;obtain⟨bs,h2⟩:=g8.reads I t r2;exact⟨_,.cons h1 h2⟩
end
abbrev zS(K:Zfr)(neg:Bool):R2:=λx y H Q=>∃d e,Rep K H x d/\Rep K H y e/\PyData.canLay0 d=true/\PyData.canLay0 e=true/\min d.depth e.depth<=60/\Q (.bl (if neg then !PyData.eqv d e else PyData.eqv d e)) H
def zT(hu:X.A.units+64<cLine):mH X (compareOp .Eq) (zS X.K false):=by intro pins s σ H x y v u Q I rx ry h;obtain⟨d,e,hd,he,c1,c2,dp,q⟩:=h;obtain⟨as,ra⟩:=hd.reads I rx;obtain⟨bs,rb⟩:=he.reads I ry;exact SeqAt.eqOverData X.prog X.w X.A X.xe s v u d e as bs _ ra rb c1 c2 ⋯ ⟨.bl _,H,I,rfl,q⟩
def zU(hu:X.A.units+64<cLine):mH X (compareOp .NotEq) (zS X.K true):=by intro pins s σ H x y v u Q I rx ry h;obtain⟨d,e,hd,he,c1,c2,dp,q⟩:=h;obtain⟨as,ra⟩:=hd.reads I rx;obtain⟨bs,rb⟩:=he.reads I ry;exact SeqAt.neOverData X.prog X.w X.A X.xe s v u d e as bs _ ra rb c1 c2 ⋯ ⟨.bl _,H,I,rfl,q⟩
end
section
variable {K:Zfr}{H:Hp}
abbrev c6(ns:List Int):List PyData:=ns.map PyData.int
def zV:∀(ns:List Int),PyData.canLayAll0 (c6 ns)=true
 |[]=>rfl
 |n :: r=>by show(true && PyData.canLayAll0 (c6 r))=true;rw[zV r];rfl
def CA:∀(ns:List Int),PyData.depthAll (c6 ns)=0
 |[]=>rfl
 |n :: r=>by show max 0 (PyData.depthAll (c6 r))=0;rw[CA r];rfl
def D5:∀(ns ms:List Int),PyData.eqvAll (c6 ns) (c6 ms)=decide (ns=ms)
 |[],[]=>rfl
 |[],_ :: _=>rfl
 |_ :: _,[]=>rfl
 |n :: ns,m :: ms=>by
  show((n == m) && PyData.eqvAll (c6 ns) (c6 ms))=decide (n :: ns=m :: ms);rw[D5 ns ms];by_cases h:n=m;subst h;simp;simp[h]
end
end L2
namespace L2
open PySem PySem.Spec PyProof.Rows
structure Def(K:Zfr)(mg:Str->Option Value)(x:Str)(st:Stmt)(ps:List Str)(f:Addr)(fd:FuncData):Prop where
 F:Je K x x st f fd
 be:∀us:List Value,us.length=ps.length->bindArgs fd ⟨us,[]⟩=pure (ps.zip us)
 m:mg x=some (.ref f)
def Def.b{K:Zfr}{mg:Str->Option Value}{x:Str}{st:Stmt}{ps:List Str}{f:Addr}{fd:FuncData}(D:Def K mg x st ps f fd):Binds K fd ps []:=.all D.be
def eC{K:Zfr}{h:Heap}{mg:Str->Option Value}(X:K.In h)(G:h.Ns mainGlobals mg){x:Str}{st:Stmt}{ps:List Str}{f:Addr}{oc:Value}{od an:Option Addr}{osl:Array (Option Value)}{kV doc pm cdv ct:Value}
  (hb:∀(kV doc pm:Value) (an:Option Addr) (cdv ct:Value) (us:List Value),us.length=ps.length->bindArgs (PySem.W.fnOf x x (gk st) (dO st) (aj st) .none kV doc pm an cdv ct) ⟨us,[]⟩=pure (ps.zip us))
  (a:PySem.W.nsIn K mainGlobals x=some (some (.ref f))) (l:K.lookup f=some ⟨oc,od,.func (PySem.W.fnOf x x (gk st) (dO st) (aj st) .none kV doc pm an cdv ct),osl⟩)
  (c:PySem.W.codeIn K cdv x=true) (k:PySem.W.keepIn K (.ref f)=true):∃f fd,Def K mg x st ps f fd :=
 ⟨f,_,zR l c k,hb kV doc pm an cdv ct,PySem.W.mg_of X G a⟩
def Def.wR{K:Zfr}{mg:Str->Option Value}{x p:Str}{st:Stmt}{f:Addr}{fd:FuncData}(D:Def K mg x st [p] f fd)(s:Shared)(u:Value):BindsTo s fd ⟨[u],[]⟩ [(p,u)]:=.of_eq (D.be [u] rfl)
def uU{K:Zfr}{h:Heap}{mg:Str->Option Value}(X:K.In h)(G:h.Ns mainGlobals mg){x:Str}(z:PySem.W.nsIn K mainGlobals x=some none):mg x=none:=PySem.W.mg_none_of X G z
def CB(h:j<n):oe n (j:Int)=some j:=by unfold oe;rw[if_pos ⋯,if_pos ⋯];simp
def zW{α:Type}{xs:List α}{i:Int}(h0:0<=i)(h1:i<xs.length):∃v,dM xs i=some v/\v∈xs:=by
 have hi:i.toNat<xs.length:=by lk
 refine⟨xs[i.toNat],?_,Zbl hi⟩;have:=Cv (xs:=xs) (j:=i.toNat) (v:=xs[i.toNat]) (by simp[hi])
 rwa [ZaG h0]at this
def dT{c:Prop}[Decidable c](h:decide c=true):c:=of_decide_eq_true h
abbrev uV(H:Hp)(f:Addr):Prop:=∃o m:Int,H f=some (.lst [.int o,.int m])/\0<=o/\0<=m/\m<4294967296
abbrev Ev(f:Addr)(H0:Hp)(σ:St)(t:TE)(R:V->Hp->Prop):Prop :=
 ∀H Q,uV H f->Kp [f] H0 H->(∀v H',R v H'->uV H' f->Kp [f] H0 H'->Kp [f] H H'->Q v H')->t σ H Q
section
variable {K:Zfr}{f:Addr}{H0:Hp}{σ:St}{i:Nat}{t u ta tb:TE}{R R':V->Hp->Prop}{P P' P2:Int->Prop}{L M:Nat}
def tH(h:σ[i]?=some (some v))(hr:∀H,Kp [f] H0 H->R v H):Ev f H0 σ (uD i) R:=λH Q hf k q=>⟨v,h,q v H (hr H k) hf k Kp.refl⟩
end
def D6:∀(names:List (Str×NameKind)) (n:Nat) (acc:List (Str×Addr)),cellsFrom n names acc=cellsFrom n names [] ++ acc
 |[],_,_=>rfl
 |(x,k) :: r,n,acc=>by
  show(if k == .cell then cellsFrom (n+1) r ((x,n) :: acc)else cellsFrom n r acc)=(if k == .cell then cellsFrom (n+1) r [(x,n)]else cellsFrom n r []) ++ acc;by_cases hk:(k == NameKind.cell)=true;rw[if_pos hk,if_pos hk,D6 r (n+1) ((x,n) :: acc),D6 r (n+1) [(x,n)],ZbG];rfl;rw[if_neg hk,if_neg hk];exact D6 r n acc
def Mb:∀(names:List (Str×NameKind)) (n:Nat),(x,c)∈cellsFrom n names []->(x,NameKind.cell)∈names/\n<=c
 |[],_,h=>nomatch h
 |(y,k) :: r,n,h=>by
  have h':(x,c)∈(if k == .cell then cellsFrom (n+1) r [(y,n)]else cellsFrom n r []):=h;by_cases hk:(k == NameKind.cell)=true;rw[if_pos hk,D6]at h';rcases Zax.mp h' with h'|h'
  obtain⟨h1,h2⟩:=Mb r (n+1) h';exact⟨Zal _ h1,by lk⟩;have e:(x,c)=(y,n):=by simpa using h'
  cases e;have e2:k=NameKind.cell:=by simpa using hk
  subst e2;exact⟨Zai,Zad _⟩;rw[if_neg hk]at h';obtain⟨h1,h2⟩:=Mb r n h';exact⟨Zal _ h1,h2⟩
def Mc(f:Str×NameKind->List (Str×Addr)->Sem (ForInStep (List (Str×Addr))))
  (hf:∀name kind cs,f (name,kind) cs=if kind == .free then(do let c <- cellOf env name;pure (.yield ((name,c) :: cs)))else pure (.yield cs)) :
  ∀(names:List (Str×NameKind)) (acc:List (Str×Addr)),(∀y∈names,y.2=NameKind.free->∃c,env.cells.lookup y.1=some c) ->
   ∃cl,(forIn names acc f:Sem (List (Str×Addr)))=pure cl/\(∀n c,(n,c)∈cl->(n,c)∈acc\/(env.cells.lookup n=some c/\(n,NameKind.free)∈names))/\(∀p∈acc,p∈cl)/\∀n,(n,NameKind.free)∈names->∃c,(n,c)∈cl
 |[],acc,_=>⟨acc,by rw[List.forIn_nil],λn c h=>.inl h,λp h=>h,λn h=>nomatch h⟩
 |(x,k) :: r,acc,h=>by
  have hr:∀y∈r,y.2=NameKind.free->∃c,env.cells.lookup y.1=some c:=λy hy=>h y (Zal _ hy);by_cases hk:k=NameKind.free;subst hk;obtain⟨c,hc⟩:=h (x,.free) Zai rfl;have e:cellOf env x=pure c:=by unfold cellOf;rw[hc]
  obtain⟨cl,e1,h1,h2,h3⟩:=Mc f hf r ((x,c) :: acc) hr;refine⟨cl,?_,λn d hd=>?_,λp hp=>h2 p (Zal _ hp),λn hn=>?_⟩;rw[List.forIn_cons,hf,if_pos (by rfl),e];exact e1;rcases h1 n d hd with q|⟨q,q'⟩
  rcases ZaF.mp q with q|q
  cases q;exact .inr ⟨hc,Zai⟩;exact .inl q;exact .inr ⟨q,Zal _ q'⟩;rcases ZaF.mp hn with q|q
  cases q;exact⟨c,h2 _ Zai⟩;exact h3 n q;obtain⟨cl,e1,h1,h2,h3⟩:=Mc f hf r acc hr;have hb:¬((k == NameKind.free)=true):=by simpa using hk
  refine⟨cl,?_,λn d hd=>?_,h2,λn hn=>?_⟩;rw[List.forIn_cons,hf,if_neg hb];exact e1;rcases h1 n d hd with q|⟨q,q'⟩
  exact .inl q;exact .inr ⟨q,Zal _ q'⟩;rcases ZaF.mp hn with q|q
  cases q;exact absurd rfl hk;exact h3 n q
def Qd(h:∀y∈scope.names,y.2=NameKind.free->∃c,env.cells.lookup y.1=some c):
  ∃cl,closureFor scope env=pure cl/\(∀n c,(n,c)∈cl->env.cells.lookup n=some c/\(n,NameKind.free)∈scope.names)/\∀n,(n,NameKind.free)∈scope.names->∃c,(n,c)∈cl:=by
 have key:∀ (f:Str×NameKind->List (Str×Addr)->Sem (ForInStep (List (Str×Addr)))),(∀ name kind cs,f (name,kind) cs=if kind == .free then(do let c <- cellOf env name;pure (.yield ((name,c) :: cs)))else pure (.yield cs)) ->
   ∃cl,((forIn scope.names [] f:Sem (List (Str×Addr))) >>= λr=>pure r)=pure cl/\(∀n c,(n,c)∈cl->env.cells.lookup n=some c/\(n,NameKind.free)∈scope.names)/\∀n,(n,NameKind.free)∈scope.names->∃c,(n,c)∈cl:=λf hf=>by
  obtain⟨cl,e,h1,_,h3⟩:=Mc f hf scope.names [] h;refine⟨cl,?_,λn c hc=>(h1 n c hc).elim (λz=>nomatch z) id,h3⟩;rw[e];rfl
 simp only[closureFor];exact key _ λname kind cs=>by cases hk:kind == NameKind.free<;>simp[hk]
def ltN{a b:Addr}(h:a<b):@LT.lt Nat _ a b:=h
def zp{a b:Addr}(h:@LT.lt Nat _ a b):a≠b:=ZaS h
def Qe{a b:Addr}(h:@LT.lt Nat _ b a):a≠b:=Nat.ne_of_gt h
def Wy
  (h:∀h',h'.Ns s.heap.objs.size (λ_=>none)->(∀b o,s.heap.get? b=some o->h'.get? b=some o)->CellsOk h' (s.heap.objs.size+1) (cellsFrom (s.heap.objs.size+1) scope.names []) ->
   Q { scope:=scope,locals:=s.heap.objs.size,globals:=g,cells:=cellsFrom (s.heap.objs.size+1) scope.names cl,qual:=q,func:=none,code:=env.code,frame:=env.frame,builtins:=env.builtins } { s with heap:=h' }) :
  wpAny M A (newFunctionEnv scope g cl [] q none .none (some env)) Q E s:=by
 simp only[newFunctionEnv,Option.isSome_some,if_true];refine wpAny_bind (wpAny_alloc ?_);refine wpAny_bind (wpAny_layCells _ (λname kind cells=>by cases hkc:kind == NameKind.cell<;>simp[hkc]) _ _ _ _ ?_);have ok:=cellsFrom_ok scope.names (s.heap.push { cls:=.type "dict",data:=.dict #[] }) (s.heap.objs.size+1) [] ⟨λ_ _ hm=>(nomatch hm),List.Pairwise.nil⟩ (by rw[ZbN];exact Zad _);rw[ZbN]at ok;rw[show({ s with heap:=s.heap.push { cls:=.type "dict",data:=.dict #[] } }:Shared).heap.objs.size=s.heap.objs.size+1 from ZbN ..];refine wpAny_bind ?_;rw[List.forIn_nil];refine wpAny_pure (wpAny_pure ?_);exact h _ ((Heap.Ns.new s.heap (.type "dict")).keeps (pushCells_keeps _ _)) (λb o e=>pushCells_keeps _ _ b o (Zas _ e)) ok
abbrev aM(X:Cx)(N:List Str)(scope:Scope)(cells:List (Str×Addr))(C:Addr)(fp:List Addr)(s:Shared)(H:Hp):Cx where
 prog:=X.prog
 w:=X.w
 K:=X.K
 mg:=X.mg
 base:=X.base
 A:=X.A
 N:=N
 s₀:=s
 H₀:=H
 env:=compEnvC scope cells C X.env
 outer:=X.stack
 stack:=X.stack
 ex:=fp
 fn:=λx=>decide (scope.names.lookup x=some .cell)
 calm:=X.calm
 pn:=[]
 xe:=λ_ _=>False
abbrev uW(scope sc:Scope):Scope :=
 { scope with names:=scope.names.map λ(n,k)=>if(k == .free && sc.kind == .function && sc.names.lookup n == some .cell)then(n,.cell)else(n,k) }
structure uX(sc scope:Scope)(own fr:List Str):Prop where
 kind:scope.kind=.function
 nd:(own ++ fr).Nodup
 CC:(scope.names.map (·.1)).Nodup
 free:∀y∈scope.names,y.2=.free->sc.names.lookup y.1=some .cell\/sc.names.lookup y.1=some .free
 Md:∀x∈fr,scope.names.lookup x=some .free
structure g9(X:Cx)(scope:Scope)(own fr:List Str)(js:List Nat):Prop where
 c:uX X.env.scope scope own fr
 ix:js.map (λj=>X.N[j]?)=fr.map some
def g9.kind(S:g9 X scope own fr js):scope.kind=.function:=S.c.kind
def g9.CC(S:g9 X scope own fr js):(scope.names.map (·.1)).Nodup:=S.c.CC
def g9.Md(S:g9 X scope own fr js):∀x∈fr,scope.names.lookup x=some .free:=S.c.Md
def g9.free(S:g9 X scope own fr js):∀y∈scope.names,y.2=.free->X.env.kindOf y.1=some .cell\/X.env.kindOf y.1=some .free:=S.c.free
def D7{α:Type}:∀{l:List (Str×α)} {n:Str} {c:α},(l.map (·.1)).Nodup->(n,c)∈l->l.lookup n=some c
 |(k,v) :: r,n,c,nd,h=>by
  obtain⟨h1,h2⟩:=Zbr.mp nd;rw[ZbA];rcases ZaF.mp h with e|h
  cases e;simp
  have:(n == k)=false:=beq_eq_false_iff_ne.mpr λe=>h1 (by rw[<- e];exact Zaw.mpr ⟨(n,c),h,rfl⟩)
  rw[this];exact D7 h2 h
def Qf(scope:Scope)(env:Env)(x:Str):(relabel scope env).names.lookup x=none/\scope.names.lookup x=none \/
  ∃k,scope.names.lookup x=some k/\(relabel scope env).names.lookup x=some (if(k == .free && env.scope.kind == .function && env.kindOf x == some .cell)then .cell else k):=by
 have key:∀ names:List (Str×NameKind),(names.map λ(n,k)=>if(k == NameKind.free && env.scope.kind == .function && env.kindOf n == some .cell)then(n,NameKind.cell)else(n,k)).lookup x=none/\names.lookup x=none \/
   ∃k,names.lookup x=some k/\(names.map λ(n,k)=>if(k == NameKind.free && env.scope.kind == .function && env.kindOf n == some .cell)then(n,NameKind.cell)else(n,k)).lookup x=some (if(k == .free && env.scope.kind == .function && env.kindOf x == some .cell)then .cell else k):=by
  intro names
  induction names with
  |nil=>exact .inl ⟨rfl,rfl⟩
  |cons p r ih =>
   obtain⟨n,k⟩:=p;rw[Zaz];cases hx:x == n with
   |true =>
    have e:x=n:=by simpa using hx
    subst e;refine .inr ⟨k,by simp[ZbA],?_⟩;by_cases hc:(k == NameKind.free && env.scope.kind == .function && env.kindOf x == some .cell)=true;simp only[if_pos hc];simp[ZbA];simp only[if_neg hc];simp[ZbA]
   |false =>
    have e1:∀q:NameKind,(((n,q) :: (r.map λ(n,k)=>if(k == NameKind.free && env.scope.kind == .function && env.kindOf n == some .cell)then(n,NameKind.cell)else(n,k))).lookup x)=((r.map λ(n,k)=>if(k == NameKind.free && env.scope.kind == .function && env.kindOf n == some .cell)then(n,NameKind.cell)else(n,k)).lookup x):=λq=>by rw[ZbA,hx]
    have e2:((n,k) :: r).lookup x=r.lookup x:=by rw[ZbA,hx]
    rw[e2];by_cases hc:(k == NameKind.free && env.scope.kind == .function && env.kindOf n == some .cell)=true;simp only[if_pos hc];rw[e1];exact ih;simp only[if_neg hc];rw[e1];exact ih
 exact key scope.names
abbrev kX(n:Nat)(js:List Nat)(σ:St):St:=List.replicate n none ++ js.map λj=>σ.getD j none
def Inv.D8{X:Cx}{pins:List (Addr×Obj)}{σ:St}{H:Hp}{s:Shared}{a:Addr}{o:HO}(I:Inv X pins σ H s)(f:nP X pins H a)(new:cI X.prog X.w (upd H a o) s.heap a o):Inv X pins σ (upd H a o) s:=by
 obtain⟨f0,f1,f2,f3,f4,f5⟩:=f;have ne:∀b u,H b=some u->b≠a:=λb u e z=>by rw[z,f0]at e;cases e
 refine I.step (h':=s.heap) (H':=upd H a o) (g':=s.gens) (d':=s.drawn) (t':=s.toks) (ch:=[a]) (λb hb=>?_) (λb u _ _ _ e _=>e) (λb u _ _ _ e _=>⟨u.slots,e⟩) (λb u hb e n=>?_) (λb u _ e=>⟨u,e⟩)
  (λb xs e=>by rw[jI (ne b _ e)];exact e) (λb u xs e=>by rw[jI (ne b _ e)];exact e) (λb ps e=>⟨#[],by rw[jI (ne b _ e),e];simp⟩) (λm hm=>hm) (λb u e=>?_) I.bare
 have e:b=a:=by simpa using hb
 subst e;exact⟨f3,f1,f4,f5⟩;rw[jI (λz=>hb (by simp[z]))];exact n;by_cases hb:b=a;subst hb;rw[qL]at e;cases e;exact new;rw[jI hb]at e;exact(I.hok b u e).stay (λc v _ q=>q) (λc q=>by rw[jI (ne c _ q)];exact q) λc xs q=>by rw[jI (ne c _ q)];exact q
abbrev PF(X:Cx)(ifs:List Expr)(t:TT):Prop :=
 ∀(pins:List (Addr×Obj)) (s:Shared) (σ:St) (H:Hp) (Q:Bool->Hp->Prop),Inv X pins σ H s->t σ H Q ->
  wpAny (model X.prog X.w) X.A (forIn ifs true λc r=>if r=true then do let ok <- isTrue c X.env (eval c X.env);pure (ForInStep.yield ok)else pure (ForInStep.yield r)) (TP X pins σ Q) X.xe s
def rC:PF X [] (λ_ H Q=>Q true H):=λ_ _ _ H _ I h=>wpAny_tests_nil ⟨H,I,h⟩
def Qg(h:PT X c t):PF X [c] t:=λpins s σ H Q I hw=>wpAny_tests_one (h pins s σ H Q I hw)
def Wz(I:Nat->Shared->Prop)
  (turn:∀n s,I n s->wpAny (model prog w) A (pyNext it) (λr s₁=>match r with
   |none=>R (.ok .next) s₁
   | some v=>wpAny (model prog w) A (letOwnedTupleGo target it v) (λ_ s₁'=>wpAny (model prog w) A (assign target env v) (λ_ s₂ =>
     wpAny (model prog w) A (forIn ifs true λc r=>if r=true then do let ok <- isTrue c env (eval c env);pure (ForInStep.yield ok)else pure (ForInStep.yield r)) (λok s₃ =>
      if ok=true then wpAny (model prog w) A (eval elt env) (λx s₄ =>
       wpAny (model prog w) A (call (.builtin "list.append") [acc,x]) (λ_ s₅=>∃m,m<n/\I m s₅) (λ_ _=>False) s₄) (λ_ _=>False) s₃
      else∃m,m<n/\I m s₃) (λ_ _=>False) s₂) (λ_ _=>False) s₁') (λ_ _=>False) s₁) (λ_ _=>False) s)
  (n:Nat) (h:I n s) :
  codeAny (model prog w) A (.compLoop (.ListComp elt [⟨target,iter,ifs,0⟩] scope pos) 0 it acc env) R s:=by
 refine codeAny_loop rfl I (λn s hI=>?_) n h;show wpAny _ A ((compTurn (.ListComp elt [⟨target,iter,ifs,0⟩] scope pos) 0 it acc env).onRaise (λx=>do noteFrame x env;theTreesLotGoes x)) _ _ s;refine wpAny_noted ?_;rw[compTurn_list];refine wpAny_bind (wpAny_standAt (wpAny_bind (wpAny_mono (turn n s hI) (λr s₁ h₁=>?_) λ_ _ h'=>h'.elim)));cases r with
 |none=>exact wpAny_pure h₁
 |some v =>
  refine wpAny_bind (wpAny_mono h₁ (λ_ s₁' h₁'=>?_) λ_ _ h'=>h'.elim);refine wpAny_bind (wpAny_mono h₁' (λ_ s₂ h₂=>wpAny_bind (wpAny_mono h₂ (λok s₃ h₃=>?_) λ_ _ h'=>h'.elim)) λ_ _ h'=>h'.elim);cases ok with
  |false=>exact wpAny_pure ⟨rfl,h₃⟩
  |true =>
   exact wpAny_bind (wpAny_bind (wpAny_mono h₃ (λx s₄ h₄=>wpAny_bind (wpAny_mono h₄ (λ_ s₅ h₅=>wpAny_pure (wpAny_pure ⟨rfl,h₅⟩)) λ_ _ h'=>h'.elim)) λ_ _ h'=>h'.elim))
abbrev zX(J:It)(n:Nat)(js:List Nat)(g:TG)(tc:TT)(te:TE)(σ:St)(H1:Hp)(Q:VK):Prop :=
 ∃W:Nat->Nat->List V->St->Hp->Prop,(∃m,W 0 m [] (kX n js σ) H1)/\∀i m ys σ' H',W i m ys σ' H' ->
  ys.length<sizeLine/\((J.stop i H'/\∀p,H' p=none->Q (.ref p) (upd H' p (.lst ys))) \/
   (J.go i H'/\∀x H2,J.wL i H' x H2->g x σ' H2 λσ2 H3=>tc σ2 H3 λb H4=>if b=true then te σ2 H4 λy H5=>∃m',m' < m/\W (i+1) m' (ys ++ [y]) σ2 H5 else∃m',m' < m/\W (i+1) m' ys σ2 H4))
abbrev uY(wi:TI)(n:Nat)(js:List Nat)(g:TG)(tc:TT)(te:TE):TE:=λσ H Q=>wi σ H λJ H1=>zX J n js g tc te σ H1 Q
section
variable {X:Cx}{pins:List (Addr×Obj)}{σ:St}{tg iter elt:Expr}{ifs:List Expr}{scope:Scope}{pos:Pos}{own fr:List Str}{js:List Nat}{g:TG}{tc:TT}{te:TE}{wi:TI}
def Qh{H2:Hp}{s2:Shared}{it:Addr}{fp:List Addr}{tn:Nat->Heap->Prop}{J:It}{Q:VK}{E:Value->Shared->Prop}{cl:List (Str×Addr)}{RR:Value->Addr->Result->Shared->Prop}
  (hc:X.calm=true) (S:g9 X scope own fr js) (hg:∀cells C fp s H,PG (aM X (own ++ fr) scope cells C fp s H) tg g) (hf:∀cells C fp s H,PF (aM X (own ++ fr) scope cells C fp s H) ifs tc) (he:∀cells C fp s H,PE (aM X (own ++ fr) scope cells C fp s H) elt te)
  (I2:Inv X pins σ H2 s2) (T:Turn X.prog X.w X.K tg J fp it tn) (st2:tn 0 s2.heap) (f2:∀b∈fp,nP X pins H2 b)
  (rT:∀n c,(n,c)∈cl->X.env.cells.lookup n=some c/\(n,NameKind.free)∈scope.names) (uZ:∀n,(n,NameKind.free)∈scope.names->∃c,(n,c)∈cl)
  (W:Nat->Nat->List V->St->Hp->Prop) (m0:Nat) (w0:W 0 m0 [] (kX own.length js σ) H2)
  (turn:∀i m ys σ' H',W i m ys σ' H'->ys.length<sizeLine/\((J.stop i H'/\∀p,H' p=none->Q (.ref p) (upd H' p (.lst ys))) \/
   (J.go i H'/\∀x H2,J.wL i H' x H2->g x σ' H2 λσ2 H3=>tc σ2 H3 λb H4=>if b=true then te σ2 H4 λy H5=>∃m',m' < m/\W (i+1) m' (ys ++ [y]) σ2 H5 else∃m',m' < m/\W (i+1) m' ys σ2 H4)))
  (fin:∀(acc C:Addr) (H':Hp) (s':Shared) (v:V),v=.ref acc->Inv X pins σ H' s'->nP X pins H' C->(∃m,s'.heap.Ns C m)->Q v H'->RR (.ref acc) C (.ok .next) s') :
  wpAny (model X.prog X.w) X.A (newList []) (λacc s3=>wpAny (model X.prog X.w) X.A (newFunctionEnv scope X.env.globals cl [] X.env.qual none .none (some X.env)) (λcenv s4 =>
   codeAny (model X.prog X.w) X.A (.compStart (.ListComp elt [⟨tg,iter,ifs,0⟩] scope pos) 0 (.ref it) acc { cenv with scope:=relabel scope X.env }) (RR acc cenv.locals) s4) E s3) E s2:=by
 refine wpAny_newObj_type ?_;refine Wy λh4 hns Qi p9=>?_;have hA:s2.heap.objs.size<(s2.heap.push { cls:=.type "list",data:=.seq ([]:List Value).toArray }).objs.size:=by rw[ZbN];exact Zba _
 generalize hC:(s2.heap.push { cls:=.type "list",data:=.seq ([]:List Value).toArray }).objs.size=C at hns p9 hA ⊢;generalize hac:s2.heap.objs.size=acc at hA ⊢;have Me:acc≠C:=ZaS hA;have old:∀b o,s2.heap.get? b=some o->h4.get? b=some o:=λb o e=>Qi b o (Zas _ e);have hacc:h4.get? acc=some { cls:=.type "list",data:=.seq ([]:List Value).toArray }:=Qi _ _ (by rw[<- hac];exact ZaA _ rfl);have Mf:∀x c,(x,c)∈cellsFrom (C+1) scope.names []->h4.IsCell c none/\C+1<=c/\scope.names.lookup x=some .cell:=λx c h=>⟨(p9.empty x c h).1,(p9.empty x c h).2,D7 S.CC (Mb _ _ h).1⟩;have lk:∀x c,(cellsFrom (C+1) scope.names cl).lookup x=some c->(h4.IsCell c none/\C+1<=c/\(x,c)∈cellsFrom (C+1) scope.names [])\/(X.env.cells.lookup x=some c/\scope.names.lookup x=some .free):=λx c h=>by
  rw[D6]at h;rcases Zax.mp (PySem.mem_of_lookup h)with q|q
  exact .inl ⟨(Mf x c q).1,(Mf x c q).2.1,q⟩;exact .inr ⟨(rT x c q).1,D7 S.CC (rT x c q).2⟩
 have Mg:∀x c,X.env.cells.lookup x=some c->c<s2.heap.objs.size:=λx c h=>by
  obtain⟨v,z⟩:=I2.cell x c h;exact z.lt
 have sG:∀x c,(cellsFrom (C+1) scope.names cl).lookup x=some c->c≠C/\c≠acc/\H2 c=none/\∀b∈fp,c≠b:=λx c h=>by
  rcases lk x c h with⟨_,h1,_⟩|⟨h1,_⟩
  refine⟨Qe ⋯,Qe ⋯,I2.hok.fresh ⋯,λb hb z=>?_⟩;obtain⟨o,e,_⟩:=T.obj 0 _ st2 b hb;have:=ltN (ZaB e);rw[<- z]at this;lk
  have:=ltN (Mg x c h1)
  exact⟨zp ⋯,zp ⋯,I2.mC x c h1,λb hb=>(f2 b hb).2.2.2.2.1 x c h1⟩
 have D9:∀x,scope.names.lookup x=some .free->∃c,X.env.cells.lookup x=some c/\(cellsFrom (C+1) scope.names cl).lookup x=some c:=λx h=>by
  obtain⟨c,Qj⟩:=uZ x (PySem.mem_of_lookup h);have hc1:=(rT x c Qj).1;have hs:((cellsFrom (C+1) scope.names cl).lookup x).isSome=true:=by
   refine PySem.W.cellsFrom_some scope.names (C+1) cl (.inr ?_);cases q:cl.lookup x with
   |some d=>rfl
   |none =>
    exfalso;have:∀{l:List (Str×Addr)},(x,c)∈l->l.lookup x≠none:=by
     intro l
     induction l with
     |nil=>intro h;exact nomatch h
     |cons p r ih =>
      intro h z;obtain⟨k,v⟩:=p;rw[ZbA]at z;cases hb:x == k with
      |true=>rw[hb]at z;cases z
      |false =>
       rw[hb]at z;rcases ZaF.mp h with e|h
       cases e;simp at hb;exact ih h z
    exact this Qj q
  obtain⟨d,hd⟩:=ZbO.mp hs;rcases lk x d hd with⟨_,_,h2⟩|⟨h1,_⟩
  have:=(Mf x d h2).2.2
  rw[h]at this;cases this;rw[hc1]at h1;cases h1;exact⟨c,hc1,hd⟩
 have Jg:∀b∈fp,b≠C/\b≠acc:=λb hb=>by
  obtain⟨o,e,_⟩:=T.obj 0 _ st2 b hb;have:=ltN (ZaB e);exact⟨zp ⋯,zp ⋯⟩
 have WA:(relabel scope X.env).kind=.function:=S.kind;have ok:(aM X (own ++ fr) scope (cellsFrom (C+1) scope.names cl) C fp s2 H2).Ok:=by
  refine⟨I2.ok.mod,WA,I2.ok.glob,I2.ok.blt,?_,λx y c h1 h2=>?_,λx hx=>?_,λx c hx h=>?_,I2.ok.hd,I2.ok.frames,.inl rfl,λb hb=>⟨(Jg b hb).1,λx c h=>(sG x c h).2.2.2 b hb⟩,I2.bs,Zap I2.ok.xK I2.sz,λb o e hb=>?_,λb hb z=>?_,I2.stack,I2.su⟩;show s2.heap.objs.size<=C;lk;rcases lk x c h1 with⟨_,q1,q2⟩|⟨q1,_⟩
  rcases lk y c h2 with⟨_,r1,r2⟩|⟨r1,_⟩
  exact name_of_addr p9.apart q2 r2
  have:=ltN (Mg y c r1);lk
  rcases lk y c h2 with⟨_,r1,r2⟩|⟨r1,_⟩
  have:=ltN (Mg x c q1);lk
  exact I2.ok.inj x y c q1 r1;have hx':(relabel scope X.env).names.lookup x=some .cell\/(relabel scope X.env).names.lookup x=some .free:=hx;rcases Qf scope X.env x with⟨e,_⟩|⟨k,e1,e2⟩
  rcases hx' with z|z<;>(rw[e]at z;cases z)
  by_cases hk:k=.free;subst hk;obtain⟨c,_,h⟩:=D9 x e1;exact⟨c,h⟩;have hk':k=.cell:=by
   have hb:(k == NameKind.free)=false:=beq_eq_false_iff_ne.mpr hk;rw[hb]at e2;simp only[Bool.false_and,Za9,if_false]at e2;rcases hx' with z|z
   rw[e2]at z;exact Zao z;rw[e2]at z;exact absurd (Zao z) hk
  subst hk';exact ZbO.mp (PySem.W.cellsFrom_some scope.names (C+1) cl (.inl e1));have hx':scope.names.lookup x=some .cell:=of_decide_eq_true hx;show s2.heap.objs.size<=c;rcases lk x c h with⟨_,q,_⟩|⟨_,q⟩
  lk;rw[hx']at q;cases q;rcases(f2 b hb).2.2.2.1 with z|z
  exact I2.ok.uC b o e z;have h1:@LT.lt Nat _ b X.base.objs.size:=ZaB e;have h2:=I2.ok.xK;lk;rcases ZaF.mp (I2.oR b z)with e|e
  exact(f2 b hb).2.1 e;exact(f2 b hb).2.2.1 e
 have I4:Inv (aM X (own ++ fr) scope (cellsFrom (C+1) scope.names cl) C fp s2 H2) [(acc,{ cls:=.type "list",data:=.seq ([]:List Value).toArray })] (kX own.length js σ) H2 { s2 with heap:=h4 }:=by
  refine⟨ok,rfl,I2.bare,Un.kept old,⟨_,hns,λi x v e1 e2 e3=>?_⟩,λx c h=>?_,I2.hok.fresh (by show s2.heap.objs.size<=C;lk),λx c h=>(sG x c h).2.2.1,λp hp=>?_,I2.hok.kept old,?_⟩;have wc:(own ++ fr)[i]?=some x:=e1;unfold kX at e2;by_cases hi:i<own.length;rw[Zan (by simpa using hi),ZbS]at e2;split at e2<;>cases e2;rw[Zau (by simpa using hi),Zbd,Zag]at e2;rw[Zau ⋯]at wc;cases hj:js[i-own.length]? with
  |none=>rw[hj]at e2;cases e2
  |some j =>
   rw[hj]at e2;have Ea:σ.getD j none=some v:=Zao e2;have hN:X.N[j]?=some x:=by
    have q:=congrArg (λl=>l[i-own.length]?) S.ix;simp only[Zag,hj,wc,Option.map_some]at q;exact Zao q
   have hσ:σ[j]?=some (some v):=by
    rw[Zae]at Ea;cases q:σ[j]? with
    |none=>rw[q]at Ea;cases Ea
    |some o=>rw[q]at Ea;exact congrArg some Ea
   have hfr:scope.names.lookup x=some .free:=S.Md x (Zaj wc);have hk:=S.free _ (PySem.mem_of_lookup hfr) rfl;obtain⟨m,_,hl⟩:=I2.loc;obtain⟨u,ru,lo⟩:=hl j x v hN hσ (by rcases hk with k|k;exact .inr (.inl k);exact .inr (.inr k));refine⟨u,ru,.inr ⟨?_,?_⟩⟩;rcases Qf scope X.env x with⟨_,e⟩|⟨k,q1,q2⟩
   rw[hfr]at e;cases e;rw[hfr]at q1;cases q1;have WB:(compEnvC scope (cellsFrom (C+1) scope.names cl) C X.env).kindOf x=some (if(NameKind.free == .free && X.env.scope.kind == .function && X.env.kindOf x == some .cell)=true then .cell else .free):=q2;rw[show(aM X (own ++ fr) scope (cellsFrom (C+1) scope.names cl) C fp s2 H2).env.kindOf x=_ from WB];split;exact .inl rfl;exact .inr rfl;rcases lo with⟨k,_⟩|⟨_,c,hc1,hc2⟩
   rcases hk with k'|k'<;>(rw[k]at k';cases k')
   obtain⟨d,hd1,hd2⟩:=D9 x hfr;rw[hc1]at hd1;cases hd1;exact⟨c,hd2,hc2.keeps old⟩
  rcases lk x c h with⟨q,_,_⟩|⟨q,_⟩
  exact⟨_,q⟩;obtain⟨v,z⟩:=I2.cell x c q;exact⟨v,z.keeps old⟩;have e:p=(acc,{ cls:=.type "list",data:=.seq ([]:List Value).toArray }):=by simpa[aM]using hp
  subst e;refine⟨hacc,I2.hok.fresh ⋯,Me,λz=>?_,λv z=>nomatch z⟩;rcases ZaF.mp (I2.oR acc z)with e|e
  have:=ltN I2.lt
  rw[<- e]at this;lk;exact I2.Dj ⋯ e;show(kX own.length js σ).length=(own ++ fr).length;have q:=congrArg List.length S.ix;simp only[Zaa]at q;unfold kX;rw[Zaf,Zbd,Zaa,Zaf,q]
 have Mh:∀{H':Hp} {ob:Obj},(∀b∈fp,H' b=none)->∀b∈fp,nP (aM X (own ++ fr) scope (cellsFrom (C+1) scope.names cl) C fp s2 H2) [(acc,ob)] H' b:=λ{H' ob} hn b hb =>
  ⟨hn b hb,(Jg b hb).1,λz=>by
   rcases ZaF.mp (I2.oR b z)with e|e
   exact(f2 b hb).2.1 e;exact(f2 b hb).2.2.1 e,.inl hb,λx c h=>(sG x c h).2.2.2 b hb,λp hp=>by
   have e:p=(acc,ob):=by simpa[aM]using hp
   subst e
   exactλz=>(Jg b hb).2 z.symm⟩
 have loop:codeAny (model X.prog X.w) X.A (.compLoop (.ListComp elt [⟨tg,iter,ifs,0⟩] scope pos) 0 (.ref it) (.ref acc) (compEnvC scope (cellsFrom (C+1) scope.names cl) C X.env)) (RR (.ref acc) C) { s2 with heap:=h4 }:=by
  refine Wz (λm s'=>∃(i:Nat) (ys:List V) (its:List Value) (n:Nat) (σ':St) (H':Hp),Inv (aM X (own ++ fr) scope (cellsFrom (C+1) scope.names cl) C fp s2 H2) [(acc,{ cls:=.type "list",data:=.seq its.toArray n })] σ' H' s'/\Vals ys its/\tn i s'.heap/\(∀b∈fp,H' b=none)/\W i m ys σ' H') ?_ m0
   ⟨0,[],[],0,_,H2,I4,.nil,T.keep _ _ _ st2 λb _ o e=>old b o e,λb hb=>(f2 b hb).1,w0⟩
  rintro n s5 ⟨i,ys,its,en,σ5,H5,I5,rv,pK,IX,w5⟩;obtain⟨hz,alt⟩:=turn i n ys σ5 H5 w5;rcases alt with⟨stop,qn⟩|⟨go,step⟩
  refine cg (T.done (aM X (own ++ fr) scope (cellsFrom (C+1) scope.names cl) C fp s2 H2) rfl rfl rfl hc i _ s5 σ5 H5 _ I5 (Mh IX) pK stop) λr s6 ⟨hr,I6⟩=>?_;subst hr;show RR (.ref acc) C (.ok .next) s6;have u:Un (frs X.stack) fp H2 H5 s2.heap s6.heap:=I6.base;have J6:Inv X pins σ H5 s6:=I2.Dn I6.os u I6.hok I6.bare λb hb=>⟨(f2 b hb).2.2.2.1,(f2 b hb).2.1,(f2 b hb).2.2.2.2.1,(f2 b hb).2.2.2.2.2⟩;have pacc:=I6.pin (acc,_) (ZaK _ Zai);have Mi:nP X pins H5 acc:=I2.rO ⋯ pacc.2.1;have fC:nP X pins H5 C:=I2.rO ⋯ I6.free;have K6:Inv X pins σ (upd H5 acc (.lst ys)) s6:=J6.D8 Mi ⟨Zcv hz,its,en,rv,pacc.1⟩;obtain⟨m,hm,_⟩:=I6.loc;exact fin acc C _ s6 (.ref acc) rfl K6 ⟨by rw[jI Me.symm];exact fC.1,fC.2⟩ ⟨m,hm⟩ (qn acc pacc.2.1);refine cg (T.item (aM X (own ++ fr) scope (cellsFrom (C+1) scope.names cl) C fp s2 H2) rfl rfl rfl hc i _ s5 σ5 H5 _ I5 (Mh IX) pK go) λr s6 ⟨u,hr,h6⟩=>?_;subst hr;refine cg h6 λ_ s7 ⟨x,H7,I7,r7,y7,uk,WC⟩=>?_;have WD:=I7.pinned (Mh WC) (T.obj _ _ uk);refine cg (hg _ _ _ _ _ _ s7 σ5 H7 x u _ WD r7 (step x H7 y7)) λ_ s8 ⟨σ8,H8,I8,q8⟩=>?_;refine cg (hf _ _ _ _ _ _ s8 σ8 H8 _ I8 q8) λb s9 ⟨H9,I9,q9⟩=>?_;have Jh:∀{s':Shared} {σ':St} {H':Hp},Inv (aM X (own ++ fr) scope (cellsFrom (C+1) scope.names cl) C fp s2 H2) ([(acc,{ cls:=.type "list",data:=.seq its.toArray en })] ++ oT fp s7.heap) σ' H' s'->tn (i+1) s'.heap/\∀b∈fp,H' b=none:=λ{s' σ' H'} I' =>
   ⟨T.keep _ _ _ uk λb hb o e=>(I'.pin (b,o) (ZaK _ (ZaK _ (IW hb e)))).1,λb hb=>by
    obtain⟨o,e,d⟩:=T.obj _ _ uk b hb
    exact(I'.pin (b,o) (ZaK _ (ZaK _ (IW hb e)))).2.1⟩
  cases b with
  |false =>
   obtain⟨m',hm,w9⟩:=q9;exact⟨m',hm,i+1,ys,its,en,σ8,H9,I9.nt,rv,(Jh I9).1,(Jh I9).2,w9⟩
  |true =>
   refine cg (he _ _ _ _ _ _ s9 σ8 H9 _ I9 q9) λy Mj ⟨yv,Ml,Ji,WE,m',hm,WG⟩=>?_;have pacc:=Ji.pin (acc,_) (ZaK _ (Zbi _ Zai));have hlen:=rv.length;refine wpAny_list_append_plain (items:=its.toArray) ⟨en,pacc.1⟩ (λh11 ⟨Qk,Mm⟩ Eb=>?_) (by simp only[Zaq];lk);have cA:∀x c,(cellsFrom (C+1) scope.names cl).lookup x=some c->c≠acc:=λx c h=>(sG x c h).2.1;have Ia:Inv (aM X (own ++ fr) scope (cellsFrom (C+1) scope.names cl) C fp s2 H2) [] σ8 Ml Mj:=Ji.oz λp hp=>nomatch hp;have Ib:Inv (aM X (own ++ fr) scope (cellsFrom (C+1) scope.names cl) C fp s2 H2) [] σ8 Ml { Mj with heap:=h11 }:=Ia.turned (it:=acc) (t':=Mj.toks) (λb o hb e=>(Eb.2 b hb).trans e) pacc.2.1 Me (.inr (by show s2.heap.objs.size<=acc;lk)) cA λp hp=>nomatch (show p∈([]:List (Addr×Obj))from by simpa[aM]using hp);refine⟨m',hm,i+1,ys ++ [yv],its ++ [y],Qk,σ8,Ml,Ib.oz λp hp=>?_,rv.append (.cons WE .nil),T.keep _ _ _ (Jh Ji).1 λb hb o e=>(Eb.2 b (Jg b hb).2).trans e,(Jh Ji).2,WG⟩;have e:p=(acc,{ cls:=.type "list",data:=.seq (its ++ [y]).toArray Qk }):=by simpa using hp
   subst e;exact⟨by simpa using Mm,pacc.2.1,pacc.2.2.1,pacc.2.2.2.1,λv z=>nomatch z⟩
 exact codeAny_compStart_list loop (T.self X.A 0 _ _ _ (T.keep _ _ _ st2 λb _ o e=>old b o e) loop)
def rD(hc:X.calm=true)(S:g9 X scope own fr js)(hi:PI X tg iter wi)(hg:∀cells C fp s H,PG (aM X (own ++ fr) scope cells C fp s H) tg g)(hf:∀cells C fp s H,PF (aM X (own ++ fr) scope cells C fp s H) ifs tc)(he:∀cells C fp s H,PE (aM X (own ++ fr) scope cells C fp s H) elt te)
  (hs:∀x,foldedSetIterable iter X.env x=pure x:=by intro _;rfl):PE X (.ListComp elt [⟨tg,iter,ifs,0⟩] scope pos) (uY wi own.length js g tc te):=by
 intro pins s σ H Q I h;obtain⟨cl,hcl,rT,uZ⟩:=Qd (scope:=scope) (env:=X.env) λy hy hk=>I.ok.has y.1 (S.free y hy hk);rw[eval_ListComp];refine wpAny_comprehension_free (use:=none) rfl hs hcl S.kind (λy hy hk=>by rw[<- hk];exact D7 S.CC hy) (cg (hi pins s σ H _ I h) λv s1 h1=>cg h1 λitv s2 h2=>?_);obtain⟨it,fp,tn,J,H2,e,I2,T,st2,f2,W,⟨m0,w0⟩,turn⟩:=h2;subst e;refine Qh (RR:=λacc C=>compPost (model X.prog X.w) X.A X.xe none (EP X pins σ Q) acc C) hc S hg hf he I2 T st2 f2 rT uZ W m0 w0 turn ?_;intro acc C H' s' v hv I' fC ⟨m,hm⟩ q;subst hv;obtain⟨f0,f1,WH,f3,f4,f5⟩:=fC;exact⟨m,hm,λh'' zY=>⟨.ref acc,H',I'.turned (it:=C) (t':=s'.toks) (λb o hb e=>(zY.2 b hb).trans e) f0 f1 f3 f4 f5,rfl,q⟩⟩
def Ql{i:Nat}{x:Str}{pos' spos:Pos}(hc:X.calm=true)(hN:X.N.Nodup)(hx:X.N[i]?=some x)(hl:X.env.scope.names.lookup x=some .local)(S:g9 X scope own fr js)(hi:PI X tg iter wi)(hg:∀cells C fp s H,PG (aM X (own ++ fr) scope cells C fp s H) tg g)(hf:∀cells C fp s H,PF (aM X (own ++ fr) scope cells C fp s H) ifs tc)(he:∀cells C fp s H,PE (aM X (own ++ fr) scope cells C fp s H) elt te)
  (hsw:swapsWith (.ListComp elt [⟨tg,iter,ifs,0⟩] scope pos) (some (.Name x pos')) spos.line X.env=pure true:=by rfl)
  (hs:∀x,foldedSetIterable iter X.env x=pure x:=by intro _;rfl):PS X (.Assign [.Name x pos'] (.ListComp elt [⟨tg,iter,ifs,0⟩] scope pos) spos) (wJ (uY wi own.length js g tc te) (qO i)):=by
 intro pins s σ H D I h;obtain⟨cl,hcl,rT,uZ⟩:=Qd (scope:=scope) (env:=X.env) λy hy hk=>I.ok.has y.1 (S.free y hy hk);rw[exec_Assign_Name_used _ _ _ _ hsw];refine wpAny_bind (wpAny_standAt (wpAny_bind ?_));show wpAny _ X.A (do let _ <- comprehension (.ListComp elt [⟨tg,iter,ifs,0⟩] scope pos) scope X.env _ (newList []) false (eval iter X.env) (some (assign (.Name x pos') X.env))) _ _ s
 refine wpAny_bind (wpAny_mono (wpAny_comprehension_free (use:=some (assign (.Name x pos') X.env)) (Q:=λ_ s'=>SP X pins D .next s') rfl hs hcl S.kind (λy hy hk=>by rw[<- hk];exact D7 S.CC hy)
  (cg (hi pins s σ H _ I h) λv s1 h1=>cg h1 λitv s2 h2=>?_)) (λ_ s' hq=>wpAny_pure (wpAny_pure hq)) λ_ _ e=>e)
 obtain⟨it,fp,tn,J,H2,e,I2,T,st2,f2,W,⟨m0,w0⟩,turn⟩:=h2;subst e;refine Qh (Q:=λv H'=>qO i v σ H' D.nx) (RR:=λacc C=>compPost (model X.prog X.w) X.A X.xe (some (assign (.Name x pos') X.env)) (λ_ s'=>SP X pins D .next s') acc C) hc S hg hf he I2 T st2 f2 rT uZ W m0 w0 turn ?_;intro acc C H' s' v hv I' fC ⟨m,hm⟩ q;subst hv;obtain⟨f0,f1,WH,f3,f4,f5⟩:=fC;show wpAny _ X.A (assign (.Name x pos') X.env (.ref acc)) _ _ _;refine wpAny_assign_Name (OX I' hN hx (.inl hl) (show RelV (.ref acc) (.ref acc)from rfl) (λs'' WI ⟨a,hs1,ha⟩=>?_) (.inr hl));have haC:a≠C:=by
  rcases ha with e|e
  rw[e];exact f1.symm;exact f4 _ _ e
 exact⟨m,hm.sameBut hs1 haC.symm,λh'' zY=>⟨_,H',WI.turned (it:=C) (t':=s''.toks) (λb o hb e=>(zY.2 b hb).trans e) f0 f1 f3 f4 f5,q⟩⟩
end
mutual
noncomputable def wD:PyData->Nat
 |.none=>4
 |.bool _=>5
 |.int _=>1921
 |.str x=>(reprText x).length
 |.list _=>0
 |.tuple xs=>Ec xs+3
 |.dict _=>0
noncomputable def Ec:List PyData->Nat
 |[]=>0
 |x :: xs=>wD x+2+Ec xs
end
abbrev mK(ns:List Int):PyData:=.tuple (c6 ns)
def Mp:∀(rs:List (List Int)),PyData.canLayAll0 (rs.map mK)=true
 |[]=>rfl
 |r :: rs=>by
  show(PyData.canLayAll0 (c6 r) && PyData.canLayAll0 (rs.map mK))=true;rw[zV,Mp rs];rfl
def Qm:∀(rs:List (List Int)),PyData.depthAll (rs.map mK)<=1
 |[]=>ZaJ _
 |r :: rs=>by
  show max (PyData.depthAll (c6 r)+1) (PyData.depthAll (rs.map mK))<=1;have:=Qm rs;rw[CA];lk
abbrev Mq(i:Int):Prop:=-1000000000000000000<=i/\i<=1000000000000000000
end L2
namespace L2
open PySem PySem.Spec PyProof.Rows
section
variable {X:Cx}{K:Zfr}
def um(hK:X.K=K):DP X (zK K):=by subst hK;exact og
def yd(hK:X.K=K):DP X (zL K):=by subst hK;exact bA
def Qn(hK:X.K=K):mH X (compareOp .NotIn) (LS K true):=by subst hK;exact IZ
def WJ(hK:X.K=K):gh X (.type "tuple") (λxs H Q=>∃p ys,xs=[V.ref p]/\((jW K H p ys/\∀l,H l=none->Q (.ref l) (upd H l (.tup ys)))\/(gg K H p ys/\Q (.ref p) H))):=by subst hK;exact oC
def WK(hK:X.K=K)(hl:PE X l tl):PI X tg l (uJ K tl):=by subst hK;exact Ct hl
end
section
variable {prog:Program}{w:World}{A:Around}{E:Value->Shared->Prop}{s:Shared}
def WL(hj:s.heap.IsTupleIter j t i)(ht:s.heap.IsTuple t ys)(hy:ys[i]?=some y)
  (hQ:∀h',h'.IsTupleIter j t (i+1)->Heap.SameBut j s.heap h'->Q y { s with heap:=h' }):wpAny (model prog w) A (Builtin.SmallTypes.nextOf (.ref j)) Q E s:=by
 obtain⟨r,hr,rc,rd⟩:=id hj;obtain⟨q,hq,_,nq,dq⟩:=ht;unfold Builtin.SmallTypes.nextOf;refine wpAny_bind (wpAny_callSpecial?_slot (name:=Str.ofString "__next__") hj.typeIs F.slot_tuple_iterator_next (wpAny_call_entry F.slot_tuple_iterator_next hj.typeIs F.entry_tuple_iterator_next ?_ (F.args_tuple_iterator_next_1 _)));show wpAny _ _ (PySem.field (.ref j) 0 >>= _) _ _ s;refine wpAny_bind (wpAny_field hr rd (x:=.ref t) rfl ?_);show wpAny _ _ (if(Value.ref t == Value.none)=true then _ else _) _ _ s;rw[if_neg (λz:(Value.ref t == Value.none)=true=>Zam z)];show wpAny _ _ (PySem.field (.ref j) 1 >>= _) _ _ s;refine wpAny_bind (wpAny_field hr rd (x:=.int i 0) rfl ?_);show wpAny _ _ (seqItems? (.ref t) >>= _) _ _ s;refine wpAny_bind (wpAny_seqItems hq dq ?_);simp only[Zat,hy];refine wpAny_bind (wpAny_setField hr rd (by simp) (wpAny_pure ⟨y,rfl,wpAny_pure (hQ _ ⟨_,Zbm _ hr (Obj.isFreed_of_fields (Obj.data_mapFields rd _)),(Obj.cls_mapFields ..).trans rc,by rw[Obj.data_mapFields rd];simp[rawInt]⟩ (Zbz ..))⟩))
def WM(hh:A.handled=none)(hj:s.heap.IsTupleIter j t i)(ht:s.heap.IsTuple t ys)(hy:ys[i]?=none)
  (hE:∀h' e,Heap.ExtBut j s.heap h'->(∃o,h'.get? e=some o/\o.cls=.type "StopIteration")->E (.ref e) { s with heap:=h' }):wpAny (model prog w) A (Builtin.SmallTypes.nextOf (.ref j)) Q E s:=by
 obtain⟨r,hr,rc,rd⟩:=id hj;obtain⟨q,hq,_,nq,dq⟩:=ht;unfold Builtin.SmallTypes.nextOf;refine wpAny_bind (wpAny_callSpecial?_slot (name:=Str.ofString "__next__") hj.typeIs F.slot_tuple_iterator_next (wpAny_call_entry F.slot_tuple_iterator_next hj.typeIs F.entry_tuple_iterator_next ?_ (F.args_tuple_iterator_next_1 _)));show wpAny _ _ (PySem.field (.ref j) 0 >>= _) _ _ s;refine wpAny_bind (wpAny_field hr rd (x:=.ref t) rfl ?_);show wpAny _ _ (if(Value.ref t == Value.none)=true then _ else _) _ _ s;rw[if_neg (λz:(Value.ref t == Value.none)=true=>Zam z)];show wpAny _ _ (PySem.field (.ref j) 1 >>= _) _ _ s;refine wpAny_bind (wpAny_field hr rd (x:=.int i 0) rfl ?_);show wpAny _ _ (seqItems? (.ref t) >>= _) _ _ s;refine wpAny_bind (wpAny_seqItems hq dq ?_);simp only[Zat,hy];refine wpAny_bind (wpAny_rule (wpAny_bind (wpAny_setField hr rd (by simp) ?_)));show wpAny _ _ (newExc (.type "StopIteration") [] >>= _) _ _ _;refine wpAny_bind ?_;simp only[newExc,newTuple];refine wpAny_bind (wpAny_newObj_type ?_ (by size_fits));refine wpAny_bind (m:=firstArgMember _ _) (wpAny_of_eq (a:=Value.none) (by first|rfl|(simp only[firstArgMember];rfl)) ?_);refine wpAny_newObj_type ?_ (by size_fits);simp only[raiseNew];refine wpAny_bind (wpAny_handled ?_);first|rw[show A.in1.handled=none from hh]|rw[hh]
 exact wpAny_bind (wpAny_pure (wpAny_throw (hE _ _ (((Zbz ..).extBut.push _).push _) ⟨_,ZaA _ rfl,rfl⟩)))
end
def u3(hh:A.handled=none)(j t:Addr)(hne:t≠j)(ys:Array Value):
  Draws prog w A j [j,t] ys.size (λi v=>ys[i]?=some v) (λi h=>h.IsTupleIter j t i/\h.IsTuple t ys) where
 live:=λ_ _ st=>let ⟨o,ho,_⟩:=st.1;⟨o,ho⟩
 frame:=λ_ _ _ st k=>⟨st.1.at λo e=>k j (by simp) o e,let ⟨o,e,r⟩:=st.2;⟨o,k t (by simp) o e,r⟩⟩
 item:=λi s Q E hi st hQ=>WL st.1 st.2 (y:=ys[i]) (by simp[hi]) λh' a b=>hQ _ h' s.toks (by simp[hi]) ⟨a,st.2.extBut b.extBut hne⟩ b
 done:=λs Q E st hE=>WM hh st.1 st.2 (by simp) hE
def WN(l:Addr)(items:Array Value)(n:Nat)(dct:Option Addr)(sl:Array (Option Value)):
  Meets (Builtin.«enumerate.__new__» ⟨[.type "enumerate",.ref l],[]⟩) (λ_ R s=>s.heap.get? l=some { cls:=.type "tuple",dict:=dct,data:=.seq items n,slots:=sl } /\
   R (.ok (.ret (.ref (s.heap.push { cls:=.type "tuple_iterator",data:=.fields #[.ref l,.int 0 0] }).objs.size)))
    { s with heap:=(s.heap.push { cls:=.type "tuple_iterator",data:=.fields #[.ref l,.int 0 0] }).push { cls:=.type "enumerate",data:=.fields #[.none,.bool false,.ref s.heap.objs.size,rawInt 0,.none,.none] } }) :=
 .of_wp λprog w A R s h=>by
  obtain⟨hp,g,d,tk,os⟩:=s;obtain⟨hl,h⟩:=h;have hsub:=sub_enumerate;have hL:Heap.IsTuple (Shared.heap ⟨hp,g,d,tk,os⟩) l items:=⟨_,hl,rfl,n,rfl⟩
  wp_walk using AutoSeq1.wpAny_loadPart' hl
  refine wpAny_stack_any λst=>wpAny_pure ?_;split
  ·rename_i c _ _ _ _ _
   cases(c == Value.type "enumerate")<;>(wp_walk using AutoSeq1.wpAny_loadPart' hl,wpAny_pyIter_tuple hL;exact⟨_,rfl,h⟩)
  ·wp_walk using AutoSeq1.wpAny_loadPart' hl,wpAny_pyIter_tuple hL
   exact⟨_,rfl,h⟩
section
variable {prog:Program}{w:World}{A:Around}{E:Value->Shared->Prop}{s:Shared}
def WO(ht:s.heap.IsTuple l ys)
  (h:∀h',IsEnum h' (s.heap.objs.size+1) s.heap.objs.size 0 .none->h'.IsTupleIter s.heap.objs.size l 0->h'.objs.size=s.heap.objs.size+2 ->
   (∀b o,s.heap.get? b=some o->h'.get? b=some o)->Q (.ref (s.heap.objs.size+1)) { s with heap:=h' }):wpAny (model prog w) A (call (.type "enumerate") [.ref l]) Q E s:=by
 obtain⟨⟨c,dct,dt,sl⟩,hl,hc,n,hd⟩:=ht;cases(show c=.type "tuple" from hc);cases(show dt=.seq ys n from hd);refine callType_new F.called_enumerate ∅ (F.typeCall_enumerate_1 _) (F.newCall_enumerate_1 _) (λobj=>F.args_object_init_2 obj _) F.entry_enumerate_new (WN l ys n dct sl) ⟨hl,?_⟩;have z:(s.heap.push { cls:=.type "tuple_iterator",data:=.fields #[.ref l,.int 0 0] }).objs.size=s.heap.objs.size+1:=ZbN ..;show _/\_;rw[z];have en:IsEnum ((s.heap.push { cls:=.type "tuple_iterator",data:=.fields #[.ref l,.int 0 0] }).push { cls:=.type "enumerate",data:=.fields #[.none,.bool false,.ref s.heap.objs.size,rawInt 0,.none,.none] }) (s.heap.objs.size+1) s.heap.objs.size 0 .none:=by
  have g:=ZaA (s.heap.push { cls:=.type "tuple_iterator",data:=.fields #[.ref l,.int 0 0] }) (o:={ cls:=.type "enumerate",data:=.fields #[.none,.bool false,.ref s.heap.objs.size,rawInt 0,.none,.none] }) rfl;rw[z]at g;exact g
 exact⟨⟨_,en,rfl⟩,h _ en ⟨_,Zas _ (ZaA _ rfl),rfl,rfl⟩ (by rw[ZbN,z]) λb o e=>Zas _ (Zas _ e)⟩
end
section
variable {X:Cx}{pins:List (Addr×Obj)}{σ:St}{H:Hp}{s:Shared}{h':Heap}
def Inv.wU{t':Nat}{ch:List Addr}(I:Inv X pins σ H s)(k:∀b o,b ∉ ch->s.heap.get? b=some o->h'.get? b=some o)(f:∀b∈ch,nP X pins H b):Inv X pins σ H { s with heap:=h',toks:=t' }:=by
 have Dl:∀b u,H b=some u->b ∉ ch:=λb u e z=>by rw[(f b z).1]at e;cases e
 refine I.step (g':=s.gens) (d':=s.drawn) (ch:=ch) (λb hb=>⟨(f b hb).2.2.2.1,(f b hb).2.1,(f b hb).2.2.2.2.1,(f b hb).2.2.2.2.2⟩) (λb o _ _ hc e _=>k b o hc e) (λb o _ _ hc e _=>⟨o.slots,k b o hc e⟩) (λ_ _ _ _ n=>n)
  (λb o hc e=>⟨o,k b o hc e⟩) (λ_ _ e=>e) (λ_ _ _ e=>e) (λb ps e=>⟨#[],by rw[e];simp⟩) (λm hm=>?_) (λb u e=>?_) I.bare
 obtain⟨o,es,ep,ho,r⟩:=hm;exact⟨o,es,ep,k _ o (λz=>(f _ z).2.1 rfl) ho,r⟩;refine(I.hok b u e).stay (λc v hc q=>k c v ?_ q) (λ_ q=>q) λ_ _ q=>q;rcases hc with z|z
 rw[z];exact Dl b u e;exact Dl c _ z
end
abbrev Qo(K:Zfr)(a:Addr):It :=
 ⟨λi H=>∃xs x,gg K H a xs/\xs[i]?=some x,λi H x H'=>∃p y,x=.ref p/\H p=none/\H'=upd H p (.tup [.int i,y])/\∀xs,gg K H a xs->xs[i]?=some y,λi H=>∃xs,gg K H a xs/\xs.length=i⟩
def WQ{P:Program}{w:World}{K:Zfr}{es:List Expr}{x1}{pos:Pos}(a e it:Addr)(hne:e≠it):
  Turn P w K (.Tuple es x1 pos) (Qo K a) [e,it] e (λi h=>(∃old,IsEnum h e it i old)/\h.IsTupleIter it a i) where
 mem:=by simp
 obj:=λi h st b hb=>by
  obtain⟨⟨old,he⟩,o,e2,c,d⟩:=st;rcases ZaF.mp hb with rfl|hb
  exact⟨_,he,λv z=>by
   have z':Data.fields _=Data.cell v:=z
   cases z'⟩
  have q:b=it:=by simpa using hb
  subst q;exact⟨o,e2,λv z=>by rw[d]at z;cases z⟩
 keep:=λi h h' st k=>⟨let ⟨old,he⟩:=st.1;⟨old,k e (by simp) _ he⟩,st.2.at λo q=>k it (by simp) o q⟩
 item:=by
  intro X hP hw hK hc i pins s σ H E I hf st hg;subst hP hw hK;obtain⟨xs,x,hq,hx⟩:=hg;obtain⟨its,rv,p,hz⟩:=I.tuple hq;obtain⟨u,hu,ru⟩:=rv.get hx;obtain⟨⟨old,he⟩,hit⟩:=st;have ht:s.heap.IsTuple a its.toArray:=p;have Mr:a≠it:=λz=>by
   obtain⟨o,e1,c1,_⟩:=hit;obtain⟨o2,e2,c2,_⟩:=ht;rw[z,e1]at e2;cases e2;exact absurd (c1.symm.trans c2) (by simp)
  have WR:e≠a:=λz=>by
   obtain⟨o2,e2,c2,_⟩:=ht;rw[<- z,he]at e2;cases e2;exact absurd c2 (by simp)
  have hl:=rv.length;have hi:i<its.toArray.size:=by
   have:=Zab.mp hu;obtain⟨q,_⟩:=this
   simpa using q
  refine wpAny_pyNext_enum_itemD (u3 (A:=X.A.in1) (I.ok.hd hc) it a Mr its.toArray) he ⟨hit,ht⟩ hi hne (by simp[hne,WR]) λy h1 tk hy ho hst hT hsz kk=>?_;have ey:y=u:=by
   have:its.toArray[i]?=some u:=by simpa using hu
   exact Zao (hy.symm.trans this)
  subst ey;refine⟨_,rfl,wpAny_letOwnedTupleGo_enum ho λh2 WS sb=>?_⟩;have hel:@LT.lt Nat _ e s.heap.objs.size:=ZaB he;have hil:@LT.lt Nat _ it s.heap.objs.size:=by obtain⟨o,e1,_⟩:=hit;exact ZaB e1
  have Ed:H s.heap.objs.size=none:=I.hok.fresh (Zad _);have sb':Heap.SameBut e h1 h2:=sb;have I1:Inv X pins σ (upd H s.heap.objs.size (.tup [.int i,x])) { s with heap:=s.heap.push { cls:=.type "tuple",data:=.seq #[.int i tk,y] },toks:=s.toks } :=
   I.laid (λb u e=>Zas _ e) (Zad _) ⟨(by decide:2<=sizeLine),[.int i tk,y],.cons ⟨tk,rfl⟩ (.cons ru .nil),⟨_,ZaA _ rfl,rfl,rfl,_,rfl⟩⟩
  have nn:∀b∈[e,it],@LT.lt Nat _ b s.heap.objs.size:=λb hb=>by
   rcases ZaF.mp hb with rfl|hb
   exact hel;have q:b=it:=by simpa using hb
   rw[q];exact hil
  have hn:∀b∈[e,it],upd H s.heap.objs.size (.tup [.int i,x]) b=none:=λb hb=>by
   unfold upd;rw[if_neg (ZaS (nn b hb))];exact(hf b hb).1
  have I2:Inv X pins σ (upd H s.heap.objs.size (.tup [.int i,x])) { s with heap:=h2,toks:=tk+1 }:=by
   refine Inv.wU (s:={ s with heap:=s.heap.push { cls:=.type "tuple",data:=.seq #[.int i tk,y] },toks:=s.toks }) (h':=h2) I1 (ch:=[e,it]) (t':=tk+1) (λb o hb q=>?_) λb hb=>⟨hn b hb,(hf b hb).2⟩;have nb:b≠e/\b≠it:=by simpa using hb
   refine(sb'.2 b nb.1).trans ?_;rcases Heap.get?_push_cases q with⟨rfl,rfl⟩|q
   exact hT;exact kk b o nb.1 nb.2 q
  refine⟨.ref s.heap.objs.size,_,I2,rfl,⟨_,x,rfl,Ed,rfl,λys wV=>by rw[I.jJ wV hq];exact hx⟩,⟨⟨y,?_⟩,?_⟩,hn⟩
  have:((i+1:Nat):Int)=(i:Int)+1:=by lk
  rw[this];exact WS;exact hst.1.extBut sb'.extBut (Ne.symm hne)
 done:=by
  intro X hP hw hK hc i pins s σ H E I hf st hg;subst hP hw hK;obtain⟨xs,hq,hx⟩:=hg;obtain⟨its,rv,p,hz⟩:=I.tuple hq;obtain⟨⟨old,he⟩,hit⟩:=st;have ht:s.heap.IsTuple a its.toArray:=p;have Mr:a≠it:=λz=>by
   obtain⟨o,e1,c1,_⟩:=hit;obtain⟨o2,e2,c2,_⟩:=ht;rw[z,e1]at e2;cases e2;exact absurd (c1.symm.trans c2) (by simp)
  have hl:=rv.length;have ei:its.toArray.size=i:=by simp;lk
  refine wpAny_pyNext_enum_endD (u3 (A:=X.A.in1) (I.ok.hd hc) it a Mr its.toArray) he (by rw[ei];exact⟨hit,ht⟩) λh1 eb=>⟨rfl,?_⟩;obtain⟨f0,f1,f2,f3,f4,f5⟩:=hf it (by simp);exact I.turned (t':=s.toks) (λb o hb q=>eb b o hb q) f0 f1 f3 f4 f5
 self:=λ_ _ _ _ _ st h=>let ⟨_,he⟩:=st.1;wpAny_pyIter_enum he h
abbrev ye(K:Zfr)(ta:TA):TI:=λσ H R=>ta σ H λvs H1=>∃a,vs=[.ref a]/\(∃xs,gg K H1 a xs)/\R (Qo K a) H1
def Jj{x1}(hg:Gl X "enumerate")(hm:X.mg "enumerate" = none)(ha:PA X [l] ta)(hs:starEach [l] X.env=[(false,eval l X.env)]:=by rfl):
  PI X (.Tuple es x1 p0) (.Call (.Name "enumerate" p) [l] [] pos) (ye X.K ta):=by
 intro pins s σ H R I h;refine Call_ (Cr I hg hm boot_enumerate (PyProof.Rows.callWith_type1 (cg (ha pos pins s σ H _ I h) λus s1 ⟨vs,H1,I1,r1,q1⟩=>?_) hs rfl));obtain⟨a,e,⟨xs,hq⟩,q⟩:=q1;subst e;cases r1 with
 |cons r rr =>
  cases rr;cases r;obtain⟨its,rv,p,hz⟩:=I1.tuple hq;refine WO (show s1.heap.IsTuple a its.toArray from p) λh1 he hi hsz kk=>?_;refine wpAny_pyIter_enum he ?_;refine⟨s1.heap.objs.size+1,[s1.heap.objs.size+1,s1.heap.objs.size],_,_,H1,rfl,I1.kept (t':=s1.toks) kk,WQ a _ _ (Nat.succ_ne_self _),⟨⟨_,he⟩,hi⟩,λb hb=>?_,q⟩;have hb':@LE.le Nat _ s1.heap.objs.size b:=by
   rcases ZaF.mp hb with rfl|hb
   exact Zb0 _;have e:b=s1.heap.objs.size:=by simpa using hb
   rw[e];exact Zad _
  exact I1.rO hb' (I1.hok.fresh hb')
section
open Sem (wp)
open PySem.AutoSeq1 (wpAny_loadPart')
open PySem.MeetsSeq PySem.MeetsSeq2 PySem.MeetsSeq3
def IntsAre.get{vs:List Value}{ns:List Int}(h:IntsAre vs ns):∀{i:Nat} {n:Int},ns[i]?=some n->∃t,vs[i]?=some (.int n t):=by
 induction h with
 |nil=>intro i n e;simp at e
 |cons a t h ih =>
  intro i n e;cases i with
  |zero=>exact⟨t,by simpa using e⟩
  |succ i=>simpa using ih (by simpa using e)
def u5(l:Addr)(items:Array Value)(n:Nat)(dd:Option Addr)(sl:Array (Option Value))(ns:List Int)(hi:IntsAre items.toList ns)(v:Int)(t:Tok)(j:Nat)(hj:ns[j]?=some v)(hb:∀i,i<j->ns[i]?≠some v):
  Meets (Builtin.«tuple.index» ⟨[.ref l,.int v t],[]⟩)
   (λ_ R s=>s.heap.get? l=some { cls:=.type "tuple",dict:=dd,data:=.seq items n,slots:=sl }/\R (.ok (.ret (.int (j:Int) s.toks))) { s with toks:=s.toks+1 }) :=
 .of_wp λprog w A R s h=>by
  obtain⟨hp,g,d,tk,os⟩:=s;obtain⟨hl,h⟩:=h;have z1:items.size=ns.length:=by rw[<- hi.length];simp
  have hjl:j<ns.length:=(Zab.mp hj).1
  wp_walk using wpAny_loadPart' hl
  have key:wpAny (model prog w) A.in1 (forIn (m:=Sem) [:min items.size items.size] ((none,()):Option Fin×Unit) (λ(i:Nat) _ =>
    match items[i]? with
    |some y=>do
     let b <- eqBool y (Value.int v t)
     if b=true then do
      let r <- retInt (i:Int)
      pure (ForInStep.done (some r,()))
     else pure (ForInStep.yield (none,()))
    |_=>pure (ForInStep.yield (none,()))))
   (λa s'=>a.1=some (.done (.ret (.int (j:Int) tk)))/\s'=⟨hp,g,d,tk+1,os⟩) (λe s'=>R (Except.error e) s') ⟨hp,g,d,tk,os⟩:=by
   rw[Std.Legacy.Range.forIn_eq_forIn_range'];have ez:([:min items.size items.size]:Std.Legacy.Range).size=ns.length:=by
    simp[Std.Legacy.Range.size,z1]
   rw[ez];refine wpAny_forIn_list _ (λrest b s'=>b.1=none/\s'=⟨hp,g,d,tk,os⟩/\∃k,k<=j/\rest=List.range' k (ns.length-k) 1) _ ?_ ?_ _ _ ⟨rfl,rfl,0,ZaJ _,by simp⟩;rintro x rest b s' ⟨hb',rfl,k,hk,e⟩;have el:ns.length-k=(ns.length-(k+1))+1:=by lk
   rw[el,List.range'_succ]at e;injection e with e1 e2;subst e1;have qa:x<ns.length:=by lk
   obtain⟨t',ht'⟩:=IntsAre.get hi (Zac qa);have WT:items[x]?=some (.int ns[x] t'):=by rw[<- ht',Zb9]
   simp only[WT];obtain⟨e,he,hiff⟩:=HT.VN A.in1 ⟨hp,g,d,tk,os⟩ ns[x] t' v t;refine wpAny_bind (he prog w _ _ ?_);cases e with
   |true =>
    have ev:ns[x]=v:=hiff.mp rfl;have WU:x=j:=by
     rcases ZbP x j with h'|h'
     exact absurd (by rw[Zac qa,ev]) (hb x h');lk
    subst WU
    wp_walk
    first|exact⟨rfl,rfl⟩|trivial
   |false =>
    have ev:ns[x]≠v:=λq=>absurd (hiff.mpr q) Zam;have:x≠j:=λz=>ev (by subst z;rw[Zac qa]at hj;exact Zao hj)
    wp_walk
    exact⟨rfl,rfl,x+1,by lk,e2⟩
   rintro b s' ⟨hb',rfl,k,hk,e⟩
   have:(List.range' k (ns.length-k) 1).length=0:=by rw[<- e];rfl
   rw[List.length_range']at this;lk
  refine wpAny_mono key (λa s' ha=>?_) (λ_ _ z=>z);obtain⟨ha,rfl⟩:=ha;obtain⟨a1,a2⟩:=a;cases(show a1=_ from ha);exact wpAny_pure ⟨_,rfl,h⟩
end
section
variable {X:Cx}{K:Zfr}
abbrev rV(K:Zfr):V->List V->Hp->VK->Prop:=λx vs H Q=>∃(a:Addr) (ns:List Int) (v:Int) (j:Nat),x=.ref a/\vs=[.int v]/\gg K H a (ns.map V.int)/\ns[j]?=some v/\(∀i,i<j->ns[i]?≠some v)/\Q (.int (j:Int)) H
def WV:xZ X "tuple.index" (rV X.K):=by intro pins s σ H x xs v us Q I rx rv h;obtain⟨a,ns,y,j,rfl,rfl,hq,hj,hb,q⟩:=h;cases rx;obtain⟨u,rfl,t,rfl⟩:=vals1 rv;obtain⟨its,r,⟨⟨c,dd,dt,sl⟩,e,hc,hd,n,hdt⟩,hz⟩:=I.rN hq;cases(show c=.type "tuple" from hc);cases(show dt=.seq its.toArray n from hdt);refine call_meets F.slot_tuple_index ⟨_,e,rfl⟩ F.entry_tuple_index (F.args_tuple_index_2 _ _) (u5 a its.toArray n dd sl ns (by simpa using LN r) y t j hj hb) ⟨e,?_⟩;exact⟨.int j,H,I.tok _,⟨_,rfl⟩,q⟩
def Qp(hK:X.K=K):xZ X "tuple.index" (rV K):=by subst hK;exact WV
def Ms{o e:Expr}{es:List Expr}{to:TE}{t:TA}{name:Str}{apos cpos:Pos}{T id:String}{r:V->List V->Hp->VK->Prop}(hK:X.K=K)(pa:PlainAttrs T)(slot:Slot T name id)(hty:typeOf (.builtin id)=pure (.type "method_descriptor"))(hm:xZ X id r)(ho:PE X o to)(ha:PA X (e :: es) t)
  (hbase:attributeBase o name X.env (eval o X.env)=eval o X.env:=by rfl)
  (hfew:((backTo cpos (starEach (e :: es) X.env)).all (λx=>!x.1) && (backToKw cpos (keywordEach [] X.env)).all (λx=>x.1.isSome)
   && decide ((e :: es).length+([]:List Keyword).length+(if([]:List Keyword).isEmpty then 0 else 1)<30))=true:=by rfl)
  (hline:(apos.endLine == cpos.line)=true:=by rfl) (hs:starEach (e :: es) X.env=(false,eval e X.env) :: starEach es X.env:=by rfl) (hplain:(backTo cpos (starEach es X.env)).any (·.1)=false:=by rfl) :
  PE X (.Call (.Attribute o name apos) (e :: es) [] cpos) (LV K T r to t):=by subst hK;exact oD pa slot hty hm ho ha hbase hfew hline hs hplain
def Qq{es:List Expr}{k:Nat}{t:uH}{n:Nat}{pos:Pos}(hK:X.K=K)(hc:X.calm=true)(h:Dw X es t)
  (hn:(assignEach es X.env).length=n:=by rfl) (hst:(assignEach es X.env).findIdx? (·.1)=none:=by rfl):PG X (.Tuple es k pos) (zz K n t):=by subst hK;exact qP hc h hn hst
end
open Builtin.Str
section
variable {X:Cx}{K:Zfr}
def Qr:bootBuiltins "abs" = some (.builtin "abs"):=by decide +kernel
def Qs:bootBuiltins "sum" = some (.builtin "sum"):=by decide +kernel
end
end L2
namespace L2
open PySem PySem.Spec PyProof.Rows
open Builtin.Str
set_option genInjectivity false in
inductive ZS where
 |tup (a:Addr)|lst (a:Addr)|str (x:Str)
abbrev ZS.has(K:Zfr)(H:Hp)(i:Nat)(v:V):ZS->Prop
 |.tup a=>∃xs,gg K H a xs/\xs[i]?=some v
 |.lst a=>∃xs,jW K H a xs/\xs[i]?=some v
 |.str x=>∃c,x.cps[i]?=some c/\v=.str ⟨#[c]⟩
abbrev ZS.fin(K:Zfr)(H:Hp)(i:Nat):ZS->Prop
 |.tup a=>∃xs,gg K H a xs/\xs.length=i
 |.lst a=>∃xs,jW K H a xs/\xs.length=i
 |.str x=>x.cps.size=i
def ZS.wW{X:Cx}{pins:List (Addr×Obj)}{σ:St}{H:Hp}{s:Shared}{src:ZS}{i:Nat}{x y:V}(I:Inv X pins σ H s)(a:src.has X.K H i x)(b:src.has X.K H i y):y=x:=by
 cases src with
 |tup p =>
  obtain⟨xs,h1,e1⟩:=a;obtain⟨ys,h2,e2⟩:=b;rw[I.jJ h2 h1]at e2;rw[e1]at e2;exact(Zao e2).symm
 |lst p =>
  obtain⟨xs,h1,e1⟩:=a;obtain⟨ys,h2,e2⟩:=b;rw[I.qN h2 h1]at e2;rw[e1]at e2;exact(Zao e2).symm
 |str z =>
  obtain⟨c,h1,rfl⟩:=a;obtain⟨d,h2,rfl⟩:=b;rw[h1]at h2;cases h2;rfl
abbrev ZS.val(K:Zfr)(H:Hp)(x:V):ZS->Prop
 |.tup a=>x=.ref a/\∃xs,gg K H a xs
 |.lst a=>x=.ref a/\∃xs,jW K H a xs
 |.str z=>x=.str z
end L2
namespace L2
open PySem PySem.Spec PyProof.Rows
section
variable {X:Cx}{K:Zfr}
abbrev eD(us:List Value)(ds:List PyData)(dx:PyData)(u:Value):Bool:=@decide (∃(i:Nat) (d:PyData),us[i]?=some u/\ds[i]?=some d/\PyData.eqv d dx=true) (Classical.propDecidable _)
def g8.get:∀{H:Hp} {vs:List V} {ds:List PyData},g8 K H vs ds->∀{i:Nat} {v:V},vs[i]?=some v->∃d,ds[i]?=some d/\Rep K H v d
 |_,_,_,.nil,i,v,e=>by simp at e
 |_,_,_,.cons (d:=d) a b,0,v,e=>⟨d,by simp,by have:_=v:=Zao (by simpa using e);rw[<- this];exact a⟩
 |_,_,_,.cons a b,i+1,v,e=>by
  obtain⟨d,e1,r⟩:=g8.get b (i:=i) (by simpa using e);exact⟨d,by simpa using e1,r⟩
def g8.wX:∀{H:Hp} {vs:List V} {ds:List PyData},g8 K H vs ds->vs.length=ds.length
 |_,_,_,.nil=>rfl
 |_,_,_,.cons _ r=>by rw[ZaE,ZaE,g8.wX r]
def Vals.Ee{xs:List V}{us:List Value}(r:Vals xs us){i:Nat}{u:Value}(h:us[i]?=some u):∃v,xs[i]?=some v/\RelV v u:=by have hi:=(Zab.mp h).1;have hl:=r.length;obtain⟨u',hu,ru⟩:=r.get (i:=i) (x:=xs[i]'⋯) (Zac _);rw[h]at hu;cases hu;exact⟨_,Zac _,ru⟩
open Classical in
def Mt{pins:List (Addr×Obj)}{σ:St}{H:Hp}{s:Shared}{xs:List V}{us:List Value}{ds:List PyData}{x:V}{v:Value}{dx:PyData}(hu:X.A.units+64<cLine)(I:Inv X pins σ H s)(r:Vals xs us)(hr:g8 X.K H xs ds)(rx:RelV x v)(hx:Rep X.K H x dx)(c1:∀d∈ds,d.canLay0=true)(c2:dx.canLay0=true)(c3:dx.depth<=60):
  ∀u∈us,SeqAt.EqAt X.A.in1 s u v (eD us ds dx u):=by
 intro u hm;obtain⟨bs,rb⟩:=hx.reads I rx;have key:∀(i:Nat) (d:PyData),us[i]?=some u->ds[i]?=some d->SeqAt.EqAt X.A.in1 s u v (PyData.eqv d dx):=λi d h1 h2=>by
  obtain⟨y,hy,ry⟩:=r.Ee h1;obtain⟨d',hd',rd⟩:=hr.get hy;rw[h2]at hd';cases hd';obtain⟨as,ra⟩:=rd.reads I ry;intro prog w E Q q;refine SeqAt.eqBoolOverData prog w X.A.in1 E s u v d dx as bs Q ra rb (c1 _ (Zaj h2)) c2 ?_ q;have:X.A.in1.units<=X.A.units+2:=by
   first|exact Zcq _ _|(show X.A.units<=_;lk)|(show X.A.units+1<=_;lk)
  lk
 obtain⟨i,hi⟩:=Zbw hm;have hl1:=r.length;have hl2:=hr.wX;have hil:=(Zab.mp hi).1;unfold eD;by_cases h:∃(i:Nat) (d:PyData),us[i]?=some u/\ds[i]?=some d/\PyData.eqv d dx=true;rw[decide_eq_true h];obtain⟨j,d,h1,h2,h3⟩:=h;have:=key j d h1 h2
 rwa [h3]at this
 rw[decide_eq_false h];have h2:ds[i]?=some (ds[i]'⋯):=Zac _;have k:=key i _ hi h2;cases hb:PyData.eqv (ds[i]'⋯) dx with
 |true=>exact absurd ⟨i,_,hi,h2,hb⟩ h
 |false=>rwa [hb]at k
open Classical in
def zZ{xs:List V}{us:List Value}{ds:List PyData}{dx:PyData}(h1:us.length=ds.length):us.any (eD us ds dx)=ds.any λd=>PyData.eqv d dx:=by rw[ZbT,Zcb,Zcb];constructor;rintro⟨u,hu,h⟩;unfold eD at h;obtain⟨i,d,_,h2,h3⟩:=of_decide_eq_true h;exact⟨d,Zaj h2,h3⟩;rintro⟨d,hd,h⟩;obtain⟨i,hi⟩:=Zbw hd;have hil:=(Zab.mp hi).1;refine⟨us[i]'⋯,Zbl _,?_⟩;unfold eD;exact decide_eq_true ⟨i,d,Zac _,hi,h⟩
abbrev Ef(K:Zfr)(neg:Bool):R2:=λx y H Q=>∃p xs ds dx,y=.ref p/\(jW K H p xs\/gg K H p xs)/\g8 K H xs ds/\Rep K H x dx/\(∀d∈ds,PyData.canLay0 d=true)/\PyData.canLay0 dx=true/\PyData.depth dx<=60/\Q (.bl (if neg then !ds.any (λd=>PyData.eqv d dx)else ds.any λd=>PyData.eqv d dx)) H
def Qu(hu:X.A.units+64<cLine):mH X (compareOp .NotIn) (Ef X.K true):=by
 intro pins s σ H x y v u Q I rx ry h;obtain⟨p,xs,ds,dx,rfl,hq,hr,hx,c1,c2,c3,q⟩:=h;cases ry;have e2:∀{its:List Value},Vals xs its->its.toArray.any (eD its ds dx)=ds.any λd=>PyData.eqv d dx:=λ{its} r=>by
  rw[show its.toArray.any (eD its ds dx)=its.any (eD its ds dx) by simp];exact zZ (xs:=xs) (by rw[<- r.length];exact hr.wX)
 rcases hq with hq|hq
 obtain⟨its,r,pl,hz⟩:=I.list hq;refine SeqAt.notIn_listAt (eD its ds dx) pl.isList (λw hw=>Mt hu I r hr rx hx c1 c2 c3 w (by simpa using hw)) ⟨.bl _,H,I,rfl,?_⟩;rw[e2 r];exact q;obtain⟨its,r,pl,hz⟩:=I.tuple hq;refine SeqAt.notIn_tupleAt (eD its ds dx) pl (λw hw=>Mt hu I r hr rx hx c1 c2 c3 w (by simpa using hw)) ⟨.bl _,H,I,rfl,?_⟩;rw[e2 r];exact q
end
open Builtin.Str
def Eg:Slot "reversed" "__next__" "reversed.__next__" :=
 .of (owner:="reversed") (n:="__next__") (by rw[typeLookup_type,builtinLookup_eq_fast];kernel_rfl) (by decide +kernel) (by decide +kernel) (by decide +kernel)
  (by first|exact .inl (by decide +kernel)|exact .inr (by decide +kernel)) (by rw[isSubtype_type];kernel_rfl)
def Qv:Slot "reversed" "__iter__" "reversed.__iter__" :=
 .of (owner:="reversed") (n:="__iter__") (by rw[typeLookup_type,builtinLookup_eq_fast];kernel_rfl) (by decide +kernel) (by decide +kernel) (by decide +kernel)
  (by first|exact .inl (by decide +kernel)|exact .inr (by decide +kernel)) (by rw[isSubtype_type];kernel_rfl)
def Qw:entryFor table "reversed.__next__" = some Builtin.«reversed.__next__»:=entryFor_of_tree (by kernel_rfl)
def Qx(a:Value):argsOk "reversed.__next__" ⟨[a],[]⟩:=by unfold argsOk;kernel_rfl
def WW:entryFor table "reversed.__iter__" = some Builtin.«dict_keyiterator.__iter__» :=
 entryFor_alias (id':="dict_keyiterator.__iter__") (by kernel_rfl) (by first|rfl|decide +kernel) (by decide +kernel) (by kernel_rfl)
def WX(a:Value):argsOk "reversed.__iter__" ⟨[a],[]⟩:=by unfold argsOk;kernel_rfl
def WY:typeLookup (.type "tuple") "__reversed__" = pure none:=by rw[typeLookup_type,builtinLookup_eq_fast];kernel_rfl
def WZ:typeLookup (.type "str") "__reversed__" = pure none:=by rw[typeLookup_type,builtinLookup_eq_fast];kernel_rfl
abbrev nS(h:Heap)(a:Addr)(v:Value)(i:Int):Prop:=∃o,h.get? a=some o/\o.cls=.type "reversed" /\ o.data=.fields #[v,rawInt i]
def nS.at(x:nS h a v i)(e:∀o,h.get? a=some o->h'.get? a=some o):nS h' a v i:=let ⟨o,ho,r⟩:=x;⟨o,e _ ho,r⟩
section
variable {prog:Program}{w:World}{A:Around}{E:Value->Shared->Prop}{s:Shared}
def nS.typeIs(x:nS s.heap a v i):s.TypeIs (.ref a) "reversed" := let ⟨o,ho,hc,_⟩:=x;⟨o,ho,hc⟩
def Qy(hit:nS s.heap it v i)(h:Q (.ref it) s):wpAny (model prog w) A (pyIter (.ref it)) Q E s:=by refine wpAny_pyIter_slot hit.typeIs Qv (wpAny_call_entry Qv hit.typeIs WW ?_ (WX _));show wpAny _ _ (ret (.ref it)) _ _ s;exact wpAny_pure ⟨_,rfl,"reversed",_,hit.typeIs,Eg.lookup,h⟩
def W0{it:Addr}{T gid:String}{v:Value}{y:Value->Prop}{i:Nat}{Q:Option Value->Shared->Prop}(hit:nS s.heap it v (i:Int))(hT:s.TypeIs v T)(hg:typeLookup (.type T) "__getitem__" = pure (some (.builtin gid)))
  (hget:∀(A':Around) (E':Value->Shared->Prop) (Q':Value->Shared->Prop) (tk:Tok) (n:Nat),(∀z k,y z->Q' z { s with toks:=k })->wpAny (model prog w) A' (getItem v (.int i tk)) Q' E' { s with toks:=n })
  (hQ:∀x h' k,y x->nS h' it v ((i:Int)-1)->Heap.SameBut it s.heap h'->Q (some x) { s with heap:=h',toks:=k }):wpAny (model prog w) A (pyNext (.ref it)) Q E s:=by
 obtain⟨o,ho,hc,hd⟩:=id hit;unfold pyNext
 refine wpAny_bind (wpAny_attempt (wpAny_callSpecial?_slot (name:=Str.ofString "__next__") hit.typeIs Eg
  (wpAny_call_entry Eg hit.typeIs Qw ?_ (Qx _))))
 unfold Builtin.«reversed.__next__»;refine wpAny_bind (wpAny_of_eq (a:=(Value.ref it,[])) rfl ?_)
 try dsimp only
 refine wpAny_bind (wpAny_field ho hd (x:=v) rfl ?_);refine wpAny_bind (wpAny_field ho hd (x:=rawInt (i:Int)) rfl ?_);show wpAny _ _ (if(i:Int)<0 then _ else _) _ _ s;rw[if_neg ⋯];refine wpAny_bind (wpAny_specialOf hT hg ?_)
 try dsimp only
 rw[if_neg (by simp)];refine wpAny_bind (wpAny_mkInt ?_);refine wpAny_bind (wpAny_attempt (hget _ _ _ _ _ λx k hx=>?_));show wpAny _ _ (field (.ref it) 1 >>= _) _ _ _;refine wpAny_bind (wpAny_field ho hd (x:=rawInt (i:Int)) rfl ?_);refine wpAny_bind (wpAny_setField ho hd (by simp) ?_)
 first
 |refine wpAny_pure ⟨x,rfl,wpAny_pure (hQ _ _ _ hx ?_ (Zbz ..))⟩
 |refine wpAny_pure ⟨x,rfl,wpAny_bind (wpAny_pure (wpAny_pure (hQ _ _ _ hx ?_ (Zbz ..))))⟩
 exact⟨_,Zbm _ ho (Obj.isFreed_of_fields (Obj.data_mapFields hd _)),(Obj.cls_mapFields ..).trans hc,by rw[Obj.data_mapFields hd];simp[rawInt]⟩
def W2(hh:A.handled=none)(hit:nS s.heap it v i)(hi:i<0)
  (hQ:∀h',Heap.ExtBut it s.heap h'->Q none { s with heap:=h' }):wpAny (model prog w) A (pyNext (.ref it)) Q E s:=by
 obtain⟨o,ho,hc,hd⟩:=id hit;unfold pyNext
 refine wpAny_bind (wpAny_attempt (wpAny_callSpecial?_slot (name:=Str.ofString "__next__") hit.typeIs Eg
  (wpAny_call_entry Eg hit.typeIs Qw ?_ (Qx _))))
 unfold Builtin.«reversed.__next__»;refine wpAny_bind (wpAny_of_eq (a:=(Value.ref it,[])) rfl ?_)
 try dsimp only
 refine wpAny_bind (wpAny_field ho hd (x:=v) rfl ?_);refine wpAny_bind (wpAny_field ho hd (x:=rawInt i) rfl ?_);show wpAny _ _ (if i<0 then _ else _) _ _ s;rw[if_pos hi];refine wpAny_bind (wpAny_rule ?_);refine wpAny_bind ?_;show wpAny _ _ (setField (.ref it) 1 (rawInt (-1)) >>= λ_=>setField (.ref it) 0 .none) _ _ _;refine wpAny_bind (wpAny_setField ho hd (by simp) ?_);have W3:=Zbm (Obj.mapFields λx=>x.setIfInBounds 1 (rawInt (-1))) ho (Obj.isFreed_of_fields (Obj.data_mapFields hd _));have hd1:=Obj.data_mapFields hd (λx=>x.setIfInBounds 1 (rawInt (-1)));refine wpAny_setField W3 hd1 (by simp) ?_
 first
 |show wpAny _ _ (newExc (.type "StopIteration") [] >>= _) _ _ _
 |(refine wpAny_bind ?_;show wpAny _ _ (newExc (.type "StopIteration") [] >>= _) _ _ _)
 refine wpAny_bind ?_;simp only[newExc,newTuple];refine wpAny_bind (wpAny_newObj_type ?_ (by size_fits));refine wpAny_bind (m:=firstArgMember _ _) (wpAny_of_eq (a:=Value.none) (by first|rfl|(simp only[firstArgMember];rfl)) ?_);refine wpAny_newObj_type ?_ (by size_fits);simp only[raiseNew];refine wpAny_bind (wpAny_handled ?_)
 first|rw[show A.in1.handled=none from hh]|rw[hh]
 refine wpAny_bind (wpAny_pure (wpAny_throw ?_));refine wpAny_bind (wpAny_isInstance (T:="StopIteration") (b:=true) ⟨_,ZaA _ rfl,rfl⟩ isSubtype_stop ?_);refine wpAny_pure (hQ _ ?_);have x2:Heap.ExtBut it s.heap ((s.heap.update it (Obj.mapFields λx=>x.setIfInBounds 1 (rawInt (-1)))).update it (Obj.mapFields λx=>x.setIfInBounds 0 .none)):=λc o hc e=>(Zbz ..).extBut c o hc ((Zbz ..).extBut c o hc e);exact(x2.push _).push _
end
abbrev Qz(K:Zfr)(src:ZS)(n:Nat):It:=⟨λi H=>i<n/\∃v,src.has K H (n-1-i) v,λi H x H'=>H'=H/\∀v,src.has K H (n-1-i) v->v=x,λi _=>i=n⟩
def ZS.got{X:Cx}{pins:List (Addr×Obj)}{σ:St}{H:Hp}{s:Shared}{src:ZS}{u:Value}{x:V}{i:Nat}{v:V}(I:Inv X pins σ H s)(r:RelV x u)(hv:src.val X.K H x)(nl:∀a,src≠.lst a)(hs:∀z,src=.str z->z.length<=sizeLine)(h:src.has X.K H i v):
  ∃(T gid:String) (y:Value->Prop),s.TypeIs u T/\typeLookup (.type T) "__getitem__" = pure (some (.builtin gid))/\(∀z,y z->RelV v z) /\
   ∀(A':Around) (E':Value->Shared->Prop) (Q':Value->Shared->Prop) (tk:Tok) (n:Nat),(∀z k,y z->Q' z { s with toks:=k })->wpAny (model X.prog X.w) A' (getItem u (.int i tk)) Q' E' { s with toks:=n }:=by
 have hn:=nQ;cases src with
 |lst a=>exact absurd rfl (nl a)
 |tup a =>
  obtain⟨rfl,xs,hq⟩:=hv;obtain⟨xs',hq',hx⟩:=h;rw[I.jJ hq' hq]at hx;cases r;obtain⟨its,rv,pl,hz⟩:=I.tuple hq;obtain⟨w,ew,rw'⟩:=rv.get hx;have hl:=rv.length;have hi:=(Zab.mp hx).1;refine⟨"tuple",_,λz=>z=w,pl.typeIs,slot_tuple_getitem.lookup,λz e=>e ▸ rw',λA' E' Q' tk n hq'=>?_⟩;exact getItem_tuple (s:={ s with toks:=n }) (j:=i) pl ⋯ ⋯ (by rw[Zaq];exact seqIndex_of ⋯ ⋯) (by simpa using ew) (hq' w n rfl)
 |str z =>
  cases hv;obtain⟨c,hx,rfl⟩:=h;obtain⟨t,rfl⟩:=r;have hi:=(Array.getElem?_eq_some_iff.mp hx).1;have hl:z.length=z.cps.size:=rfl;have hzl:=hs z rfl;refine⟨"str",_,λy=>∃t,y=.str ⟨#[c]⟩ t,typeIs_str s z t,slot_str_getitem.lookup,λy hy=>hy,λA' E' Q' tk n hq'=>?_⟩
  refine getItem_str (s:={ s with toks:=n }) (c:=c) (by
   have e1:decide ((i:Int) < -(2 ^ 63:Int))=false:=decide_eq_false ⋯;have e2:decide ((i:Int) >= 2 ^ 63)=false:=decide_eq_false ⋯
   rw[e1,e2,Bool.or_false]) (by rw[seqIndex_of ⋯ ⋯];simpa using hx) (hq' _ _ ⟨_,rfl⟩)
def W4{P:Program}{w:World}{K:Zfr}{tg:Expr}(src:ZS)(u:Value)(n:Nat)(it:Addr)(nl:∀a,src≠.lst a)(hs:∀z,src=.str z->z.length<=sizeLine)(x:V)(rx:RelV x u)(hsv:∀(H:Hp) (v:V) (i:Nat),src.has K H i v->src.val K H x):
  Turn P w K tg (Qz K src n) [it] it (λi h=>nS h it u ((n:Int)-1-(i:Nat))) where
 mem:=by simp
 obj:=λi h st b hb=>by
  have e:b=it:=by simpa using hb
  subst e;obtain⟨o,e,c,d⟩:=st;exact⟨o,e,λv z=>by rw[d]at z;cases z⟩
 keep:=λi h h' st k=>st.at λo e=>k it (by simp) o e
 item:=by
  intro X hP hw hK hc i pins s σ H E I hf st hg;subst hP hw hK;obtain⟨hin,v,hv⟩:=hg;obtain⟨f0,f1,f2,f3,f4,f5⟩:=hf it (by simp);obtain⟨T,gid,y,hT,hl,hy,hget⟩:=ZS.got I rx (hsv H v _ hv) nl hs hv;have st':nS s.heap it u ((n-1-i:Nat):Int):=by
   have e:((n-1-i:Nat):Int)=(n:Int)-1-(i:Nat):=by lk
   rw[e];exact st
  refine W0 st' hT hl hget λz h' tk hz hr sb=>?_;have I1:Inv X pins σ H { s with heap:=h',toks:=tk }:=I.turned (λb o hb e=>(sb.2 b hb).trans e) f0 f1 f3 f4 f5;have hr':nS h' it u ((n:Int)-1-((i+1:Nat):Int)):=by
   have e:(n:Int)-1-((i+1:Nat):Int)=((n-1-i:Nat):Int)-1:=by lk
   rw[e];exact hr
  obtain⟨o,e,c,d⟩:=id hr;exact⟨z,rfl,IU (s:={ s with heap:=h',toks:=tk }) e c d ∅ ⟨v,H,I1,hy z hz,⟨rfl,λv' hv'=>ZS.wW I hv hv'⟩,hr',λb hb=>(hf b hb).1⟩⟩
 done:=by
  intro X hP hw hK hc i pins s σ H E I hf st hg;subst hP hw hK;have hg:i=n:=hg;subst hg;obtain⟨f0,f1,f2,f3,f4,f5⟩:=hf it (by simp);exact W2 (I.ok.hd hc) st ⋯ λh' eb=>⟨rfl,I.turned (t':=s.toks) (λb o hb e=>eb b o hb e) f0 f1 f3 f4 f5⟩
 self:=λ_ _ _ _ _ st h=>Qy st h
def W5:Slot "reversed" "__init__" "object.__init__" :=
 .of (owner:="object") (n:="__init__") (by rw[typeLookup_type,builtinLookup_eq_fast];kernel_rfl) (by decide +kernel) (by decide +kernel) (by decide +kernel)
  (by first|exact .inl (by decide +kernel)|exact .inr (by decide +kernel)) (by rw[isSubtype_type];kernel_rfl)
def QA:TypeCalled "reversed" "reversed.__new__" "object.__init__" :=
 ⟨by decide +kernel,by decide +kernel,⟨_,_,F.mro_reversed⟩,F.made_reversed,by decide +kernel,by rw[isSubtype_type];kernel_rfl,W5⟩
def QB{u:Value}{T gid:String}{n:Nat}(h0:typeLookup (.type T) "__reversed__" = pure none)(h1:typeLookup (.type T) "__getitem__" = pure (some (.builtin gid)))(hsub:isSubtype (.type T) (.type "dict")=pure false)
  (Mu:["tuple.__getitem__","str.__getitem__","bytes.__getitem__","bytearray.__getitem__","memoryview.__getitem__","numpy.ndarray.__getitem__","sqlite3.Row.__getitem__"].contains gid=true) :
  Meets (Builtin.«reversed.__new__» ⟨[.type "reversed",u],[]⟩) (λ_ R s=>s.TypeIs u T /\
   (∀(prog:Program) (w:World) (A':Around) (E':Value->Shared->Prop) (Q':Value->Shared->Prop),(∀t k,Q' (.int n t) { s with toks:=k })->wpAny (model prog w) A' (call (.builtin "len") [u]) Q' E' s) /\
   ∀k,R (.ok (.ret (.ref s.heap.objs.size))) { s with heap:=s.heap.push { cls:=.type "reversed",data:=.fields #[u,rawInt ((n:Int)-1)] },toks:=k }) :=
 .of_wp λprog w A R s h=>by
 obtain⟨hT,hlen,h⟩:=h;unfold Builtin.«reversed.__new__»;refine wpAny_bind (wpAny_of_eq (newClass_reversed _) ?_)
 try dsimp only
 refine wpAny_bind (wpAny_of_eq (a:=()) (by first|rfl|kernel_rfl) ?_);refine wpAny_bind (wpAny_of_eq (a:=()) (by first|rfl|kernel_rfl) ?_)
 try dsimp only
 refine wpAny_bind (wpAny_specialOf hT h0 ?_)
 try dsimp only
 refine wpAny_bind ?_;show wpAny _ _ (isInstance u (.type "dict") >>= _) _ _ _;refine wpAny_bind (wpAny_isInstance (b:=false) hT hsub ?_);rw[if_neg Zam];refine wpAny_bind (wpAny_specialOf hT h1 ?_);show wpAny _ _ (if["tuple.__getitem__","str.__getitem__","bytes.__getitem__","bytearray.__getitem__","memoryview.__getitem__","numpy.ndarray.__getitem__","sqlite3.Row.__getitem__"].contains gid=true then _ else _) _ _ _;rw[if_pos Mu];refine wpAny_pure ?_;rw[if_neg (by simp)];refine wpAny_bind (hlen _ _ _ _ _ λt k=>?_);refine wpAny_bind (wpAny_of_eq (a:=some (n:Int)) rfl ?_)
 try dsimp only
 refine wpAny_bind ?_;show wpAny _ _ (newObj (.type "reversed") (.fields #[u,rawInt ((n:Int)-1)])) _ _ _;refine wpAny_newObj_type ?_;exact wpAny_pure ⟨_,rfl,h k⟩
def W6:isSubtype (.type "tuple") (.type "dict")=pure false:=by rw[isSubtype_type];kernel_rfl
def W7:isSubtype (.type "str") (.type "dict")=pure false:=by rw[isSubtype_type];kernel_rfl
abbrev Eh(K:Zfr)(ta:TA):TI:=λσ H R=>ta σ H λvs H1=>∃(x:V) (src:ZS) (n:Nat),vs=[x]/\src.val K H1 x/\src.fin K H1 n/\(∀a,src≠.lst a)/\(∀z,src=.str z->z.length<=sizeLine)/\R (Qz K src n) H1
def Aa(hg:Gl X "reversed")(hm:X.mg "reversed" = none)(ha:PA X [l] ta)(hs:starEach [l] X.env=[(false,eval l X.env)]:=by rfl):
  PI X tg (.Call (.Name "reversed" p) [l] [] pos) (Eh X.K ta):=by
 intro pins s σ H R I h;refine Call_ (Cr I hg hm Wu (PyProof.Rows.callWith_type1 (cg (ha pos pins s σ H _ I h) λus s1 ⟨vs,H1,I1,r1,q1⟩=>?_) hs rfl));obtain⟨x,src,n,e,hv,hn,nl,hz,q⟩:=q1;subst e;obtain⟨u,rfl,r⟩:=vals1 r1;have l63:=nQ;have hsv:∀(H:Hp) (v:V) (i:Nat),src.has X.K H i v->src.val X.K H x:=λH v i hh=>by
  cases src with
  |tup a=>obtain⟨xs,h1,_⟩:=hh;exact⟨hv.1,xs,h1⟩
  |lst a=>exact absurd rfl (nl a)
  |str z=>exact hv
 have fin:∀k,wpAny (model X.prog X.w) X.A (pyIter (.ref s1.heap.objs.size)) (LG X pins σ tg R) X.xe { s1 with heap:=s1.heap.push { cls:=.type "reversed",data:=.fields #[u,rawInt ((n:Int)-1)] },toks:=k }:=λk=>by
  have g:nS (s1.heap.push { cls:=.type "reversed",data:=.fields #[u,rawInt ((n:Int)-1)] }) s1.heap.objs.size u ((n:Int)-1-(0:Nat)):=⟨_,ZaA _ rfl,rfl,by simp⟩;refine Qy g ?_;refine⟨s1.heap.objs.size,[s1.heap.objs.size],_,_,H1,rfl,I1.kept (t':=k) λb o e=>Zas _ e,W4 src u n _ nl hz x r hsv,g,λb hb=>?_,q⟩;have e:b=s1.heap.objs.size:=by simpa using hb
  subst e;exact I1.rO (Zad _) (I1.hok.fresh (Zad _))
 cases src with
 |lst a=>exact absurd rfl (nl a)
 |tup a =>
  obtain⟨rfl,xs,hq⟩:=id hv;obtain⟨xs',hq',hx⟩:=hn;have hx:xs.length=n:=by rw[<- I1.jJ hq' hq];exact hx
  cases r;obtain⟨its,rv,pl,hz'⟩:=I1.tuple hq;have hl:=rv.length;refine callType_new QA ∅ (F.typeCall_reversed_1 _) (F.newCall_reversed_1 _) (λobj=>F.args_object_init_2 obj _) F.entry_reversed_new (QB (n:=n) WY slot_tuple_getitem.lookup W6 ∅) ⟨pl.typeIs,λprog w A' E' Q' hq=>?_,λk=>⟨⟨_,ZaA _ rfl,rfl⟩,fin k⟩⟩;have e:its.toArray.size=n:=by rw[Zaq];lk
  refine len_tuple pl (by rw[e];lk) ?_;rw[e];exact hq _ _
 |str z =>
  cases hv;have hn:z.length=n:=hn;have:=hz z rfl;obtain⟨t,rfl⟩:=r;refine callType_new QA ∅ (F.typeCall_reversed_1 _) (F.newCall_reversed_1 _) (λobj=>F.args_object_init_2 obj _) F.entry_reversed_new (QB (n:=n) WZ slot_str_getitem.lookup W7 ∅) ⟨typeIs_str _ z t,λprog w A' E' Q' hq=>?_,λk=>⟨⟨_,ZaA _ rfl,rfl⟩,fin k⟩⟩;refine len_str ⋯ ?_;rw[hn];exact hq _ _
end L2
namespace L2
open PySem PySem.Spec PyProof.Rows
open Builtin
end L2
namespace L2
open PySem PySem.Spec PyProof.Rows
set_option genInjectivity false in
inductive TV where
 |int (i:Int)|str (x:Str)
abbrev mL(D:List (Str×TV))(k:Str):Option TV:=match D with
 |[]=>none
 |(x,v) :: r=>if k=x then some v else mL r k
abbrev DU(a:Addr)(xs:List (List Int×Addr×Value)):HO:=.ext λh=>(a == sysModules)=false/\xs.length<=sizeLine/\∃o es ep,h.get? a=some o/\o.ExactDict/\o.data=.dict es ep /\
 (∃(P:Program) (w:World),es.toList=xs.map (entryOfKey (tupleKind (intKind P w))))/\(xs.map (·.1)).Nodup
end L2
namespace L2
open PySem PySem.Spec PyProof.Rows PySem.SeqAt PySem.MeetsSeq
abbrev qb(A:Around)(s:Shared)(y x:Value)(r:Bool):Prop:=∀(prog:Program) (w:World) (E Q:Value->Shared->Prop),Q (.bool r) s->wpAny (model prog w) A (richCompare .Lt y x) Q E s
abbrev c9(e lt:Nat->Bool)(fin:Bool):List Nat->Bool
 |[]=>fin
 |i :: r=>if e i then c9 e lt fin r else lt i
def W8(l m:Addr)(a b:Array Value)(n1 n2:Nat)(d1 d2:Option Addr)(s1 s2:Array (Option Value))(e lt:Nat->Bool):
  Meets (Builtin.«tuple.__lt__» ⟨[.ref l,.ref m],[]⟩) (λA R s=>s.heap.get? l=some { cls:=.type "tuple",dict:=d1,data:=.seq a n1,slots:=s1 }/\s.heap.get? m=some { cls:=.type "tuple",dict:=d2,data:=.seq b n2,slots:=s2 } /\
    (∀j (h1:j<a.size) (h2:j<b.size),EqAt A.in1 s a[j] b[j] (e j))/\(∀j (h1:j<a.size) (h2:j<b.size),e j=false->qb A.in1 s a[j] b[j] (lt j))/\R (.ok (.ret (.bool (c9 e lt (decide (a.size<b.size)) (List.range (min a.size b.size)))))) s) :=
 .of_wp λprog w A R s h=>by
  obtain⟨hp,g,d,tk,os⟩:=s;obtain⟨hl,hm,he,hlt,h⟩:=h;have f2:=AutoSeq1.sub_tuple_tuple;have hZ:(a.toList.zip b.toList).length=min a.size b.size:=by simp
  wp_walk using wpAny_loadPart' hl,wpAny_loadPart' hm,wpAny_forIn_list _ (λrest q s'=>q.1=none/\s'=⟨hp,g,d,tk,os⟩/\∃i,rest=(a.toList.zip b.toList).drop i/\R (.ok (.ret (.bool (c9 e lt (decide (a.size<b.size)) ((List.range (min a.size b.size)).drop i))))) ⟨hp,g,d,tk,os⟩) _
  case turn =>
   rintro⟨y,x⟩ rest q s' ⟨hq,rfl,i,hz,hR⟩;have hil:i<(a.toList.zip b.toList).length:=by
    rcases ZbP i (a.toList.zip b.toList).length with k|k
    ·exact k
    ·rw[Zcm k]at hz;cases hz
   have hmn:i<min a.size b.size:=hZ ▸ hil;have g1:i<a.size:=by lk
   have g2:i<b.size:=by lk
   rw[ZbI hil]at hz;injection hz with hyx hrest;have hy:y=a[i]:=by simpa using congrArg Prod.fst hyx
   have hx:x=b[i]:=by simpa using congrArg Prod.snd hyx
   subst hy hx;have hd:(List.range (min a.size b.size)).drop i=i :: (List.range (min a.size b.size)).drop (i+1):=by simp[ZbI,hmn]
   rw[hd,c9]at hR;refine wpAny_bind (he i g1 g2 prog w _ _ ?_);cases hei:e i with
   |true =>
    rw[hei]at hR
    wp_walk
    exact⟨rfl,rfl,i+1,hrest,hR⟩
   |false =>
    rw[hei]at hR;refine wpAny_bind (wpAny_rule (wpAny_bind (hlt i g1 g2 hei prog w _ _ ?_)))
    wp_walk
    exact⟨_,rfl,hR⟩
  case fin =>
   rintro⟨q1,q2⟩ s' ⟨hq,rfl,i,hz,hR⟩;simp only at hq;subst hq;have hge:min a.size b.size<=i:=by
    rcases ZbP i (a.toList.zip b.toList).length with k|k
    ·rw[ZbI k]at hz;cases hz
    ·exact hZ ▸ k
   rw[Zcm (by simpa using hge),c9]at hR
   wp_walk
   exact⟨_,rfl,by simpa[Builtin.Tuple.tupleCompareSizes]using hR⟩
  case h =>
   exact⟨rfl,rfl,0,rfl,by simpa using h⟩
def qb.tuples(hl:s.heap.IsTuple l a)(hm:s.heap.IsTuple m b)(hu:A.units<cLine)
  (he:∀j (h1:j<a.size) (h2:j<b.size),EqAt A.in1 s a[j] b[j] (e j)) (hlt:∀j (h1:j<a.size) (h2:j<b.size),e j=false->qb A.in1 s a[j] b[j] (lt j)) :
  qb A s (.ref l) (.ref m) (c9 e lt (decide (a.size<b.size)) (List.range (min a.size b.size))):=λprog w E Q h=>by
 obtain⟨⟨c1,d1,t1,s1⟩,o1,k1,n1,j1⟩:=hl;obtain⟨⟨c2,d2,t2,s2⟩,o2,k2,n2,j2⟩:=hm;simp only at k1 j1 k2 j2;subst k1 j1 k2 j2;exact richCompare_meets_room (op:=.Lt) ⟨_,o1,rfl⟩ ⟨_,o2,rfl⟩ F.slot_tuple_lt F.entry_tuple_lt (F.args_tuple_lt_2 _ _) (W8 l m a b n1 n2 d1 d2 s1 s2 e lt)
  ⟨o1,o2,he,hlt,show Value.bool (c9 e lt (decide (a.size<b.size)) (List.range (min a.size b.size)))≠Value.notImplemented/\Q (.bool (c9 e lt (decide (a.size<b.size)) (List.range (min a.size b.size)))) s from⟨(λx=>nomatch x),h⟩⟩ hu
mutual
noncomputable def CD:PyData->PyData->Bool
 |.int a,.int b=>decide (a<b)
 |.tuple xs,.tuple ys=>oW xs ys
 |_,_=>false
noncomputable def oW:List PyData->List PyData->Bool
 |[],[]=>false
 |[],_ :: _=>true
 |_ :: _,[]=>false
 |x :: xs,y :: ys=>if PyData.eqv x y then oW xs ys else CD x y
end
mutual
noncomputable def u6:PyData->PyData->Bool
 |.int _,.int _=>true
 |.tuple xs,.tuple ys=>qc xs ys
 |_,_=>false
noncomputable def qc:List PyData->List PyData->Bool
 |[],_=>true
 |_ :: _,[]=>true
 |x :: xs,y :: ys=>u6 x y && qc xs ys
end
def QC(e lt:Nat->Bool)(fin:Bool)(f:Nat->Nat):∀l:List Nat,c9 e lt fin (l.map f)=c9 (λi=>e (f i)) (λi=>lt (f i)) fin l
 |[]=>rfl
 |i :: r=>by
  show(if e (f i)then c9 e lt fin (r.map f)else lt (f i))=if e (f i)then _ else lt (f i)
  rw[QC e lt fin f r]
abbrev rW(xs ys:List PyData)(j:Nat):Bool:=CD (xs.getD j .none) (ys.getD j .none)
def QD:∀xs ys:List PyData,c9 (pairEq xs ys) (rW xs ys) (decide (xs.length<ys.length)) (List.range (min xs.length ys.length))=oW xs ys
 |[],[]=>rfl
 |[],_ :: _=>by simp[c9,oW]
 |_ :: _,[]=>by simp[c9,oW]
 |x :: xs,y :: ys=>by
  have ih:=QD xs ys;have e1:min (x :: xs).length (y :: ys).length=min xs.length ys.length+1:=by simp only[ZaE];lk
  have e2:decide ((x :: xs).length<(y :: ys).length)=decide (xs.length<ys.length):=by simp
  rw[e1,e2,List.range_succ_eq_map,c9,QC];show(if PyData.eqv x y then c9 (pairEq xs ys) (rW xs ys) (decide (xs.length<ys.length)) (List.range (min xs.length ys.length))else CD x y)=_;rw[ih,oW]
mutual
theorem QE:∀(da db:PyData) (A:Around) (s:Shared) (a b:Value) (as bs:List Addr),Reads s.heap a da as->Reads s.heap b db bs->u6 da db=true->da.canLay0=true->db.canLay0=true->A.units+min da.depth db.depth<cLine->qb A s a b (CD da db)
 |.int x,.int y,A,s,_,_,_,_,ra,rb,_,_,_,_=>by
  cases ra with
  |int _ t =>
   cases rb with
   |int _ u=>exactλprog w E Q h=>richCompare_gives (op:=.Lt) (typeIs_int s _ t) (typeIs_int s _ u) F.slot_int_lt F.entry_int_lt (F.args_int_lt_2 _ _) (gives_int_lt _ _ t u) (λx=>nomatch x) h
 |.tuple xs,.tuple ys,A,s,_,_,_,_,ra,rb,ok,ha,hb,hu=>by
  cases ra with
  |@tuple l o vs n _ as1 h1 h2 h3 h4 =>
   cases rb with
   |@tuple l' o' vs' n' _ bs1 k1 k2 k3 k4 =>
    have t1:s.heap.IsTuple l vs:=⟨_,h1,h2,_,h3⟩;have t2:s.heap.IsTuple l' vs':=⟨_,k1,k2,_,k3⟩;have n1:vs.size=xs.length:=by simpa using ReadsAll.length _ _ _ h4
    have n2:vs'.size=ys.length:=by simpa using ReadsAll.length _ _ _ k4
    show qb A s (.ref l) (.ref l') (oW xs ys);rw[<- QD xs ys,<- n1,<- n2];refine qb.tuples t1 t2 (room_here hu) (λj j1 j2=>?_) (λj j1 j2 _=>?_);have z:=eqAt_readsAll xs ys A.in1 s vs.toList vs'.toList _ _ h4 k4 ha hb (room_in hu) j (by simpa using j1) (by simpa using j2);simpa using z;have z:=QF xs ys A.in1 s vs.toList vs'.toList _ _ h4 k4 ok ha hb (room_in hu) j (by simpa using j1) (by simpa using j2);simpa using z
 |.int _,.none,_,_,_,_,_,_,_,_,ok,_,_,_=>nomatch ok
 |.int _,.bool _,_,_,_,_,_,_,_,_,ok,_,_,_=>nomatch ok
 |.int _,.str _,_,_,_,_,_,_,_,_,ok,_,_,_=>nomatch ok
 |.int _,.list _,_,_,_,_,_,_,_,_,ok,_,_,_=>nomatch ok
 |.int _,.tuple _,_,_,_,_,_,_,_,_,ok,_,_,_=>nomatch ok
 |.int _,.dict _,_,_,_,_,_,_,_,_,ok,_,_,_=>nomatch ok
 |.tuple _,.none,_,_,_,_,_,_,_,_,ok,_,_,_=>nomatch ok
 |.tuple _,.bool _,_,_,_,_,_,_,_,_,ok,_,_,_=>nomatch ok
 |.tuple _,.int _,_,_,_,_,_,_,_,_,ok,_,_,_=>nomatch ok
 |.tuple _,.str _,_,_,_,_,_,_,_,_,ok,_,_,_=>nomatch ok
 |.tuple _,.list _,_,_,_,_,_,_,_,_,ok,_,_,_=>nomatch ok
 |.tuple _,.dict _,_,_,_,_,_,_,_,_,ok,_,_,_=>nomatch ok
 |.none,_,_,_,_,_,_,_,_,_,ok,_,_,_=>by simp[u6]at ok
 |.bool _,_,_,_,_,_,_,_,_,_,ok,_,_,_=>by simp[u6]at ok
 |.str _,_,_,_,_,_,_,_,_,_,ok,_,_,_=>by simp[u6]at ok
 |.list _,_,_,_,_,_,_,_,_,_,ok,_,_,_=>by simp[u6]at ok
 |.dict _,_,_,_,_,_,_,_,_,_,ok,_,_,_=>by simp[u6]at ok
theorem QF:∀(xs ys:List PyData) (A:Around) (s:Shared) (vs ws:List Value) (as bs:List Addr),ReadsAll s.heap vs xs as->ReadsAll s.heap ws ys bs->qc xs ys=true->PyData.canLayAll0 xs=true->PyData.canLayAll0 ys=true->A.units+min (PyData.depthAll xs) (PyData.depthAll ys)<cLine->∀j (h1:j<vs.length) (h2:j<ws.length),qb A s vs[j] ws[j] (rW xs ys j)
 |[],_,_,_,_,_,_,_,ra,_,_,_,_,_,j,h1,_=>by cases ra;exact absurd h1 (ZaV _)
 |_ :: _,[],_,_,_,_,_,_,_,rb,_,_,_,_,j,_,h2=>by cases rb;exact absurd h2 (ZaV _)
 |x :: xs,y :: ys,A,s,_,_,_,_,ra,rb,ok,ha,hb,hu,j,h1,h2=>by
  have a':x.canLay0=true/\PyData.canLayAll0 xs=true:=by simpa[PyData.canLayAll0]using ha
  have b':y.canLay0=true/\PyData.canLayAll0 ys=true:=by simpa[PyData.canLayAll0]using hb
  have o':u6 x y=true/\qc xs ys=true:=by simpa[qc]using ok
  cases ra with
  |cons r rs =>
   cases rb with
   |cons r' rs' =>
    cases j with
    |zero=>exact QE x y A s _ _ _ _ r r' o'.1 a'.1 b'.1 (room_head hu)
    |succ j=>exact QF xs ys A s _ _ _ _ rs rs' o'.2 a'.2 b'.2 (room_tail hu) j (Nat.lt_of_succ_lt_succ h1) (Nat.lt_of_succ_lt_succ h2)
end
section
variable {prog:Program}{w:World}{A:Around}{R:Result->Shared->Prop}{I:Addr}{fp wr:List Addr}{n:Nat}{P:Nat->Value->Prop}{St:Nat->Heap->Prop}
abbrev kY(a b:Heap):Prop:=∀x o,a.get? x=some o->b.get? x=some o
abbrev Ab(A:Around)(h0:Heap)(P:Nat->Value->Prop)(bt:Nat->Nat->Bool):Prop:=∀i j vi vj (s:Shared),kY h0 s.heap->P i vi->P j vj->qb A s vi vj (bt i j)
def Jk:(toString "min" ++ toString ".loop" : String)="min.loop" := by decide
def Mv(W:Walks prog w A.in1 I fp wr n P St)(bt:Nat->Nat->Bool)(hcmp:Ab A.in1 h0 P bt)(S:Addr)(hSf:S ∉ fp)(Ac:h0.get? S=none)(hw0:∀b∈wr,h0.get? b=none):
  ∀(k j:Nat) (s:Shared) (vb:Value) (c:Nat),n-(j+1)=k->j+1<=n->St (j+1) s.heap->P (argBest bt j) vb->kY h0 s.heap->s.heap.get? S=some { cls:=.type "list",dict:=none,data:=.seq #[vb,vb] c,slots:=#[] } ->
  (∀v h' tk,P (argBest bt (n-1)) v->kY h0 h'->R (.ok (.ret v)) { s with heap:=h',toks:=tk })->codeAny (model prog w) A (.builtin "min.loop" ⟨[.ref I,.none,.ref S],[]⟩) R s
 |0,j,s,vb,c,hk,hj,hst,Jl,hK,hS,hR=>by
  have Ei:S ∉ wr:=λz=>hSf (W.sub S z);have hin:n=j+1:=by lk
  subst hin;refine codeAny_builtin F.entry_min_loop ?_;rw[Around.under_plainId F.plain_min_loop (A:=A) _];show wpAny (model prog w) A.in1 (seqItems? (.ref S) >>= _) _ _ _;refine wpAny_bind (wpAny_seqItems hS rfl ?_);show wpAny (model prog w) A.in1 (tryCatch (pyNext (.ref I)) _ >>= _) _ _ _;refine wpAny_bind (wpAny_tryCatch (W.done s _ _ hst λh' tk hk'=>?_));have hS':=hk' S _ Ei hS;show wpAny (model prog w) A.in1 (updateSeq S (λ_=>#[]) >>= _) _ _ _;refine wpAny_bind (wpAny_updateSeq hS' rfl (wpAny_bind (wpAny_letGo (wpAny_pure (hR vb _ tk Jl λb o e=>?_)))));have hb1:b ∉ wr:=λz=>by rw[hw0 b z]at e;cases e
  have hb2:S≠b:=λz=>by rw[<- z,Ac]at e;cases e
  exact(Zbb _ _ hb2).trans (hk' b o hb1 (hK b o e))
 |k+1,j,s,vb,c,hk,hj,hst,Jl,hK,hS,hR=>by
  have Ei:S ∉ wr:=λz=>hSf (W.sub S z);have hlt:j+1<n:=by lk
  refine codeAny_builtin F.entry_min_loop ?_;rw[Around.under_plainId F.plain_min_loop (A:=A) _];show wpAny (model prog w) A.in1 (seqItems? (.ref S) >>= _) _ _ _;refine wpAny_bind (wpAny_seqItems hS rfl ?_);show wpAny (model prog w) A.in1 (tryCatch (pyNext (.ref I)) _ >>= _) _ _ _;refine wpAny_bind (wpAny_tryCatch (W.item (j+1) s _ _ hlt hst λv h' tk hP wY hk'=>?_));have hS':=hk' S _ Ei hS;have Ej:kY h0 h':=λb o e=>hk' b o (λz=>by rw[hw0 b z]at e;cases e) (hK b o e);show wpAny (model prog w) A.in1 (tryCatch (holding [v,v] (richCompare .Lt v vb >>= _)) _ >>= _) _ _ _;refine wpAny_bind (wpAny_tryCatch (wpAny_holding (wpAny_bind (hcmp (j+1) (argBest bt j) v vb _ Ej hP Jl prog w _ _ ?_))));refine wpAny_bind (wpAny_holding (wpAny_truthy_bool (wpAny_bind (wpAny_letGo (wpAny_pure ?_)))));cases hb:bt (j+1) (argBest bt j)with
  |true =>
   simp only[if_true];refine wpAny_bind (wpAny_updateSeq hS' rfl (wpAny_bind (wpAny_letGo ?_)));rw[Jk];have Mw:kY h0 (h'.update S (Obj.mapSeq λ_=>#[v,v])):=λb o e=>(Zbb _ _ (λz=>by rw[<- z,Ac]at e;cases e)).trans (Ej b o e);refine wpAny_pure ⟨plainId_quiet F.plain_min_loop _,Mv W bt hcmp S hSf Ac hw0 k (j+1) _ v _ ⋯ hlt (W.frame _ _ _ wY λb Mx o e=>?_) (by simp only[argBest,hb,if_true];exact hP) Mw (Zbm _ hS' rfl) λv' h'' u7 Ek u9=>hR v' h'' u7 Ek u9⟩;exact(Zbb _ _ (λz:S=b=>hSf (z ▸ Mx))).trans e
  |false =>
   simp only[Za9,if_false];refine wpAny_bind (wpAny_letGo ?_);rw[Jk];exact wpAny_pure ⟨plainId_quiet F.plain_min_loop _,Mv W bt hcmp S hSf Ac hw0 k (j+1) _ vb c ⋯ hlt wY (by simp only[argBest,hb,Za9,if_false];exact Jl) Ej hS' λv' h'' u7 Ek u9=>hR v' h'' u7 Ek u9⟩
def W9(W:Walks prog w A.in1 I fp wr n P St)(bt:Nat->Nat->Bool)(hcmp:Ab A.in1 h0 P bt)(S:Addr)(hSf:S ∉ fp)(Ac:h0.get? S=none)(hw0:∀b∈wr,h0.get? b=none)(hn:0<n)(hst:St 0 s.heap)(hK:kY h0 s.heap)
  (hS:s.heap.get? S=some { cls:=.type "list",dict:=none,data:=.seq #[] c,slots:=#[] }) (hR:∀v h' tk,P (argBest bt (n-1)) v->kY h0 h'->R (.ok (.ret v)) { s with heap:=h',toks:=tk }) :
  codeAny (model prog w) A (.builtin "min.loop" ⟨[.ref I,.none,.ref S],[]⟩) R s:=by
 have Ei:S ∉ wr:=λz=>hSf (W.sub S z);refine codeAny_builtin F.entry_min_loop ?_;rw[Around.under_plainId F.plain_min_loop (A:=A) _];show wpAny (model prog w) A.in1 (seqItems? (.ref S) >>= _) _ _ _;refine wpAny_bind (wpAny_seqItems hS rfl ?_);show wpAny (model prog w) A.in1 (tryCatch (pyNext (.ref I)) _ >>= _) _ _ _;refine wpAny_bind (wpAny_tryCatch (W.item 0 s _ _ hn hst λv h' tk hP wY hk'=>?_));have hS':=hk' S _ Ei hS;have Ej:kY h0 h':=λb o e=>hk' b o (λz=>by rw[hw0 b z]at e;cases e) (hK b o e);show wpAny (model prog w) A.in1 (updateSeq S (λ_=>#[v,v]) >>= _) _ _ _;refine wpAny_bind (wpAny_updateSeq hS' rfl ?_);rw[Jk];have Mw:kY h0 (h'.update S (Obj.mapSeq λ_=>#[v,v])):=λb o e=>(Zbb _ _ (λz=>by rw[<- z,Ac]at e;cases e)).trans (Ej b o e);refine wpAny_pure ⟨plainId_quiet F.plain_min_loop _,Mv W bt hcmp S hSf Ac hw0 _ 0 _ v _ rfl hn (W.frame _ _ _ wY λb Mx o e=>?_) hP Mw (Zbm _ hS' rfl) λv' h'' u7 Ek u9=>hR v' h'' u7 Ek u9⟩;exact(Zbb _ _ (λz:S=b=>hSf (z ▸ Mx))).trans e
end
section
variable {prog:Program}{w:World}{A:Around}{E:Value->Shared->Prop}{s:Shared}
def Xa(hh:A.handled=none)(hl:s.heap.IsList p its)(hn:0<its.size)(hcmp:Ab A.in1 s.heap (λi v=>its[i]?=some v) bt)
  (hQ:∀v h' tk,its[argBest bt (its.size-1)]?=some v->kY s.heap h'->Q v { s with heap:=h',toks:=tk }):wpAny (model prog w) A (call (.builtin "min") [.ref p]) Q E s:=by
 have hlt:p<s.heap.objs.size:=by obtain⟨_,e,_⟩:=hl;exact ZaB e
 have e0:s.heap.get? s.heap.objs.size=none:=by
  cases q:s.heap.get? s.heap.objs.size with
  |none=>rfl
  |some o=>exact absurd (ZaB q) (ZbE _)
 have e1:s.heap.get? (s.heap.objs.size+1)=none:=by
  cases q:s.heap.get? (s.heap.objs.size+1)with
  |none=>rfl
  |some o=>exact absurd (ZaB q) (Nat.not_lt_of_le (Zb0 _))
 refine call_function_tree F.kind_min F.plain_min F.entry_min (F.args_min1 _) ?_;show wpAny (model prog w) A.in1 (Builtin.Builtins.bindParams "min" ["key","default"] 0 ⟨[],[]⟩ >>= _) _ _ _;refine wpAny_bind (wpAny_of_eq (show Builtin.Builtins.bindParams "min" ["key","default"] 0 ⟨[],[]⟩=pure [none,none]from rfl) (wpAny_bind (wpAny_pure ?_)));refine wpAny_bind (wpAny_pyIter_list hl (wpAny_bind (wpAny_newObj_type ?_)));have hsz:(s.heap.push { cls:=.type "list_iterator",data:=.fields #[.ref p,.int 0 0] }).objs.size=s.heap.objs.size+1:=ZbN ..;have hne:p≠s.heap.objs.size:=ZaS hlt;rw[Jk];have k1:kY s.heap ((s.heap.push { cls:=.type "list_iterator",data:=.fields #[.ref p,.int 0 0] }).push { cls:=.type "list",data:=.seq #[] }):=λb o e=>Zas _ (Zas _ e);refine wpAny_pure ⟨plainId_quiet F.plain_min_loop _,?_⟩;show codeAny (model prog w) A (.builtin "min.loop" ⟨[.ref s.heap.objs.size,.none,.ref (s.heap.push { cls:=.type "list_iterator",data:=.fields #[.ref p,.int 0 0] }).objs.size],[]⟩) _ _;rw[hsz];refine W9 (c:=0) (Walks.list (A:=A.in1) hh s.heap.objs.size p hne its) bt hcmp (s.heap.objs.size+1) (λz=>?_) e1 (λb hb=>?_) hn ?_ k1 ?_ λv h' tk hv hk=>hQ v h' tk hv hk;rcases ZaF.mp z with z|z
 exact absurd z (Nat.succ_ne_self _)
 have:s.heap.objs.size+1=p:=Zav.mp z
 exact absurd hlt (by rw[<- this];exact Nat.not_lt_of_le (Zb0 _));rw[Zav.mp hb];exact e0;exact⟨⟨_,Zas _ (ZaA _ rfl),rfl,rfl⟩,(hl.push _).push _⟩;rw[<- hsz];exact ZaA _ rfl
end
def Mz:∀{us:List Value} {ds:List PyData} {as:List Addr} {i:Nat} {v:Value},ReadsAll h us ds as->us[i]?=some v->∃as',Reads h v (ds.getD i .none) as'/\ds.getD i .none∈ds
 |_,_,_,_,_,.nil,e=>by simp at e
 |_,_,_,0,_,.cons r _,e=>by simp at e;subst e;exact⟨_,r,Zai⟩
 |_,_,_,i+1,v,.cons _ rs,e=>by
  obtain⟨as',r,m⟩:=Mz (i:=i) (v:=v) rs (by simpa using e);exact⟨as',r,Zal _ m⟩
section
variable {X:Cx}
abbrev wZ(ds:List PyData)(i j:Nat):Bool:=CD (ds.getD i .none) (ds.getD j .none)
abbrev pM(ds:List PyData):Nat:=argBest (wZ ds) (ds.length-1)
abbrev yf(K:Zfr):List V->Hp->VK->Prop:=λxs H Q=>∃(p:Addr) (vs:List V) (ds:List PyData),xs=[.ref p]/\jW K H p vs/\g8 K H vs ds/\0<ds.length/\(∀a∈ds,∀b∈ds,u6 a b=true)/\(∀a∈ds,a.canLay0=true/\a.depth<=50)/\∃v,vs[pM ds]?=some v/\Q v H
def QG(hc:X.calm=true)(hu:X.A.units+64<cLine):gh X (.builtin "min") (yf X.K):=by
 intro pins s σ H xs us Q I r h;obtain⟨p,vs,ds,rfl,hq,hr,hn,hok,hlay,v0,hv0,q⟩:=h;obtain⟨u,rfl,ru⟩:=vals1 r;cases ru;obtain⟨its,rv,pl,_⟩:=I.list hq;obtain⟨as,ra⟩:=g8.reads I hr rv;have hlen:its.length=ds.length:=ReadsAll.length _ _ _ ra;refine Xa (bt:=wZ ds) (I.ok.hd hc) pl.isList (by rw[Zaq];lk) (λi j vi vj s' hK hi hj=>?_) λv h' tk hv hk=>?_;have hi':its[i]?=some vi:=by simpa using hi
 have hj':its[j]?=some vj:=by simpa using hj
 obtain⟨a1,r1,m1⟩:=Mz ra hi';obtain⟨a2,r2,m2⟩:=Mz ra hj';have b1:=(hlay _ m1).2;have b2:=(hlay _ m2).2;exact QE _ _ _ s' _ _ _ _ (Reads.keeps hK r1) (Reads.keeps hK r2) (hok _ m1 _ m2) (hlay _ m1).1 (hlay _ m2).1 (by show X.A.units+1+_<cLine;lk);have hv':its[pM ds]?=some v:=by
  have e:its.toArray.size-1=ds.length-1:=by rw[Zaq,hlen]
  rw[e]at hv;unfold pM;simpa using hv
 obtain⟨u,QH,ru⟩:=Vals.get rv hv0;rw[hv']at QH;cases QH;exact⟨v0,H,I.kept hk,ru,q⟩
end
end L2
namespace L2
open PySem PySem.Spec PyProof.Rows PySem.W
section
variable {lt:Nat->Nat->Bool}{n0:Nat}{cmp:Nat->Nat->(Bool->Shared->Prop)->Shared->Prop}{s:Shared}
structure Ord(lt:Nat->Nat->Bool):Prop where
 tr:∀a b c,lt b a=false->lt c b=false->lt c a=false
 as:∀a b,lt a b=true->lt b a=false
abbrev P(p:Array Nat)(i:Nat):Nat:=p.getD i 0
variable (o:Ord lt)(hn:0<n0)(hc:∀i j (C:Bool->Shared->Prop),i<n0->j<n0->C (lt i j) s->cmp i j C s)
include o hn hc
end
end L2
namespace L2
open PySem PySem.Spec PyProof.Rows
end L2
namespace L2
open PySem PySem.Spec PyProof.Rows PySem.W
end L2
namespace L2
open PySem PySem.Spec PyProof.Rows
section
variable {X:Cx}{K:Zfr}
def QI(hc:X.calm=true):gh X (.builtin "sum") (λxs H Q=>∃(p:Addr) (ns:List Int),xs=[.ref p]/\jW X.K H p (ns.map V.int)/\Q (.int ns.sum) H):=by
 intro pins s σ H xs us Q I r h;obtain⟨p,ns,rfl,hq,q⟩:=h;obtain⟨u,rfl,ru⟩:=vals1 r;cases ru;obtain⟨its,rv,pl,_⟩:=I.list hq;have hi:IntsAre its ns:=LN rv;obtain⟨xs,hx⟩:=hi.allInts.items;have hl':s.heap.IsList p (intItems xs):=hx ▸ pl.isList;refine sum_intListG (I.ok.hd hc) hl' λh' tk t' hk=>?_;have e1:ns=xs.toList.map (·.1):=by
  rw[<- nums_intItems,<- hx];exact(show numsOf its.toArray.toList=ns from hi.numsOf).symm
 have e2:preSum (numAt xs) xs.size=ns.sum:=by
  rw[preSum_eq,List.take_of_length_le (by simp),e1]
 rw[e2];exact⟨.int _,H,I.kept hk,⟨_,rfl⟩,q⟩
end
open Builtin
end L2
namespace L2
open PySem PySem.Spec PyProof.Rows
section
variable {X:Cx}{K:Zfr}
def MA:∀{ns:List Int} {us:List Value} {i:Nat} {v:Value},Vals (ns.map V.int) us->us[i]?=some v->∃n t,ns[i]?=some n/\v=.int n t
 |[],_,i,v,r,h=>by cases r;simp at h
 |b :: bs,_,0,v,r,h=>by
  cases r with
  |cons r1 r2 =>
   obtain⟨t,rfl⟩:=r1;simp at h;exact⟨b,t,rfl,h.symm⟩
 |b :: bs,_,i+1,v,r,h=>by
  cases r with
  |cons r1 r2 =>
   obtain⟨c,t,e1,e2⟩:=MA (i:=i) r2 (by simpa using h);exact⟨c,t,by simpa using e1,e2⟩
abbrev pz(ns:List Int)(i j:Nat):Bool:=decide (ns.getD i 0 > ns.getD j 0)
def Xb(hc:X.calm=true):gh X (.builtin "max") (λxs H Q=>∃(p:Addr) (ns:List Int),xs=[.ref p]/\jW X.K H p (ns.map V.int)/\0<ns.length/\∀m,ns[argBest (pz ns) (ns.length-1)]?=some m->Q (.int m) H):=by
 intro pins s σ H xs us Q I r h;obtain⟨p,ns,rfl,hq,hn,q⟩:=h;obtain⟨u,rfl,ru⟩:=vals1 r;cases ru;obtain⟨its,rv,pl,_⟩:=I.list hq;have hl:=pl.isList;have hlt:p<s.heap.objs.size:=by obtain⟨_,e,_⟩:=hl;exact ZaB e
 have hlen:=rv.length;rw[Zaa]at hlen;have hh:X.A.in1.handled=none:=I.ok.hd hc;refine call_max_walk (wpAny_pyIter_list hl ?_);refine⟨s.heap.objs.size,[s.heap.objs.size,p],[s.heap.objs.size],its.toArray.size,_,_,pz ns,rfl,Walks.list (A:=X.A.in1) hh _ p (ZaS hlt) its.toArray,⟨⟨_,ZaA _ rfl,rfl,rfl⟩,hl.push _⟩,?_,by rw[Zaq];lk,CmpOf.ints_gt (λi=>ns.getD i 0) ?_,λv h' tk hP hk=>?_⟩;intro b hb;have hz:(s.heap.push { cls:=.type "list_iterator",data:=.fields #[.ref p,.int 0 0] }).objs.size=s.heap.objs.size+1:=size_push' _ _;show b<(s.heap.push { cls:=.type "list_iterator",data:=.fields #[.ref p,.int 0 0] }).objs.size;rw[hz];rcases ZaF.mp hb with rfl|hb
 exact Zba _;rw[Zav.mp hb];exact Nat.lt_succ_of_lt hlt;intro i v hP;obtain⟨n,t,e1,e2⟩:=MA rv (by simpa using hP);exact⟨t,by rw[e2,Zae,e1];rfl⟩;obtain⟨n,t,e1,e2⟩:=MA rv (by simpa using hP);rw[e2];rw[<- hlen]at e1;exact⟨.int _,H,I.kept (PyProof.Rows.LSm.kept_iter hk),⟨_,rfl⟩,q n e1⟩
end
end L2
namespace L2
open PySem PySem.Spec PyProof.Rows PySem.W
end L2
namespace L2
open PySem PySem.Spec PyProof.Rows
abbrev Xc:Option Addr->Value
 |none=>.none
 |some T=>.ref T
abbrev XO(a C:Addr)(dx tr:Option Addr):HO:=.ext λh=>∃o vs,h.get? a=some o/\o.cls=.ref C/\o.dict=dx/\o.data=.fields vs/\vs[1]?=some (Xc tr)
end L2
namespace L2
open PySem PySem.Spec PyProof.Rows PySem.W
end L2
namespace L2
open PySem PySem.Spec PyProof.Rows
section
variable {X:Cx}{K:Zfr}
abbrev sH(K:Zfr):V->List V->Hp->VK->Prop:=λx vs H Q=>∃(a:Addr) (ys:List V) (ds:List PyData) (y:V) (dy:PyData) (j:Nat),x=.ref a/\vs=[y]/\jW K H a ys/\g8 K H ys ds/\Rep K H y dy/\(∀d∈ds,PyData.canLay0 d=true)/\PyData.canLay0 dy=true/\PyData.depth dy<=60 /\
 ds.length<=1000/\(∃d,ds[j]?=some d/\PyData.eqv d dy=true)/\(∀i d,i<j->ds[i]?=some d->PyData.eqv d dy=false)/\Q (.int (j:Int)) H
def QJ(hu:X.A.units+64<cLine):xZ X "list.index" (sH X.K):=by
 intro pins s σ H x xs v us Q I rx rv h;obtain⟨a,ys,ds,y,dy,j,rfl,rfl,hq,hr,hy,c1,c2,c3,hl,hit,hno,q⟩:=h;cases rx;obtain⟨u,rfl,ru⟩:=vals1 rv;obtain⟨its,r,pl,hz⟩:=I.list hq;obtain⟨⟨c,dd,dt,sl⟩,e,hc,n,hdt⟩:=pl.isList;cases(show c=.type "list" from hc);cases(show dt=.seq its.toArray n from hdt);have hlen:its.length=ds.length:=by rw[<- r.length];exact hr.wX
 obtain⟨d0,hd0,Xe⟩:=hit;have hjl:j<ds.length:=(Zab.mp hd0).1;have rd:∀(i:Nat) (w:Value) (d:PyData),its[i]?=some w->ds[i]?=some d->∃as,Reads s.heap w d as:=λi w d h1 h2=>by
  obtain⟨z,hz',rz⟩:=r.Ee h1;obtain⟨d',hd',rp⟩:=hr.get hz';rw[h2]at hd';cases hd';exact rp.reads I rz
 refine call_meets F.slot_list_index ⟨_,e,rfl⟩ F.entry_list_index (F.args_list_index_2 _ _) (PySem.SeqAt.list_indexAt a its.toArray n dd sl u (eD its ds dy) j (by simp;lk) ⋯ ?_ λm hm Xf=>?_) ⟨e,λz hz=>?_,⟨.int _,H,I.tok _,⟨_,rfl⟩,q⟩⟩;unfold eD;refine @decide_eq_true _ (Classical.propDecidable _) ⟨j,d0,?_,hd0,Xe⟩;simp[show j<its.length by lk];unfold eD;refine @decide_eq_false _ (Classical.propDecidable _) ?_;rintro⟨i,d,h1,h2,h3⟩;have hm2:m<its.length:=by simpa using hm
 have Xg:its[m]?=some (its.toArray[m]):=by simp[hm2]
 obtain⟨dm,QK⟩:∃dm,ds[m]?=some dm:=⟨ds[m]'⋯,Zac _⟩;obtain⟨as,ra⟩:=rd i _ d h1 h2;obtain⟨bs,rb⟩:=rd m _ dm Xg QK;have ed:d=dm:=(Reads.unique ra _ _ rb).1;rw[ed,hno m dm Xf QK]at h3;cases h3;exact Mt hu I r hr ru hy c1 c2 (by first|exact c3|(intro d hd;lk)) z (by simpa using hz)
end
section
variable {X:Cx}
abbrev yg(i j:Int):Prop:=j≠0/\j.natAbs.log2<9000
def Xh:mH X (binaryOp .FloorDiv) (rI yg λi j=>.int (i.fdiv j)):=Cu λ_ j _ _ _ _ _ hc q=>floordiv_int hc.1 q (.inl (PyProof.noPylong_of_log2 hc.2))
end
open Builtin
abbrev P2(k:Nat):Nat:=2 ^ k
def MB(a b:Nat):P2 a*P2 b=P2 (a+b):=(Nat.pow_add 2 a b).symm
def wg(h:a<=b):P2 a<=P2 b:=Zcy ∅ h
def Ad(a:Nat):0<P2 a:=Nat.two_pow_pos a
def Ae(a n:Nat):P2 a ^ n=P2 (a*n):=(Nat.pow_mul 2 a n).symm
def va(a:Nat):P2 (a+1)=2*P2 a:=by unfold P2;rw[Nat.pow_succ,Zci]
def QL(a:Nat):a<P2 a:=Nat.lt_two_pow_self
abbrev sI(i j:Int):Prop:=uK i j\/(Builtin.Int.intBits i<=60000000/\Builtin.Int.intBits j<=60000000)
def yh(h:i.natAbs<P2 k)(hk:k<=60000000):Builtin.Int.intBits i<=60000000:=Zap (PyProof.Rows.intBits_le h) hk
def sI.ok(h:sI i j):IntMulOk i j:=by
 rcases h with h|⟨h1,h2⟩
 exact h.ok;exact PyProof.Rows.mulOk_of_bits (m:=60000000) (n:=60000000) h1 h2 ∅
section
variable {X:Cx}
def pA:mH X (binaryOp .Mult) (rI sI λi j=>.int (i*j)):=Cu λ_ _ _ _ _ _ _ hc q=>mul_int q hc.ok
end
end L2
namespace L2
open PySem PySem.Spec PySem.W PyProof.Rows
structure Af(K:Zfr)(x qual:Str)(st:Stmt)(f:Addr)(fd:FuncData):Prop where
 ex:∃(oc:Value) (od:Option Addr) (dV kV doc pm:Value) (an:Option Addr) (cdv ct:Value) (osl:Array (Option Value)),
  fd=PySem.W.fnOf x qual (gk st) (dO st) (aj st) dV kV doc pm an cdv ct/\K.lookup f=some ⟨oc,od,.func fd,osl⟩/\PySem.W.codeIn K cdv qual=true
 kp:PySem.W.keepIn K (.ref f)=true
def Af.ok{P:Program}{w:World}{K:Zfr}{mg:Str->Option Value}{base:Heap}{x qual:Str}{st:Stmt}{f:Addr}{fd:FuncData}{N ps:List Str}{k:Nat}{sp:Sp}(F:Af K x qual st f fd)(S:ax N ps (aj st))(len:∀vs H Q E,sp vs H Q E->vs.length=ps.length)
  (hbody:∀(cdv:Value) (A:Around) (outer:List Env) (s:Shared) (H:Hp) (vs:List V) (Q:VK) (E:XK),iL k (A.deeper (envOfC qual (aj st) s.heap.objs.size f cdv))->sp vs H Q E ->
   ∃t,sv (fV a6 P w K mg base N qual (aj st) f cdv A outer s H E).oA (dO st) t/\t { nx:=λ_ H'=>Q .non H',rt:=Q } (start N vs) H):aC P w K mg base a6 (k+1) f fd ps sp:=by
 obtain⟨oc,od,dV,kV,doc,pm,an,cdv,ct,osl,rfl,lk,hcd⟩:=F.ex;refine xX lk hcd S len λA outer s H vs Q E hr uj=>?_;obtain⟨t,h,q⟩:=hbody cdv A outer s H vs Q E hr uj;exact⟨t,h.oA,q⟩
structure vd(K:Zfr)(mg:Str->Option Value)(x:Str)(st:Stmt)(ps:List Str)(pL:List V)(f:Addr)(fd:FuncData):Prop where
 F:Af K x x st f fd
 b:Binds K fd ps []
 bd:∃ds,Vals pL ds/\Binds K fd ps ds
 m:mg x=some (.ref f)
abbrev ve(x:Str)(st:Stmt)(ps:List Str)(d m:Nat):Prop :=
 ∀(T:Addr) (kV doc pm:Value) (an:Option Addr) (cdv ct:Value) (us ds:List Value),us.length=m->ds.length=d ->
  ∃k:Option (Array Value)->Sem (List (Str×Value)),bindArgs (PySem.W.fnOf x x (gk st) (dO st) (aj st) (.ref T) kV doc pm an cdv ct) ⟨us,[]⟩=seqItems? (.ref T) >>= k/\k (some ds.toArray)=pure (ps.zip (us ++ ds.drop (m+d-ps.length)))
def Xi{K:Zfr}{h:Heap}{mg:Str->Option Value}(X:K.In h)(G:h.Ns mainGlobals mg){x:Str}{st:Stmt}{ps:List Str}{pL:List V}{f T:Addr}{oc Xj:Value}{od an od':Option Addr}{osl MC:Array (Option Value)}{kV doc pm cdv ct:Value}{its:Array Value}{n d:Nat}
  (hl:d<=ps.length) (hb:ve x st ps d (ps.length-d)) (hb2:ve x st ps d ps.length)
  (a:PySem.W.nsIn K mainGlobals x=some (some (.ref f))) (l:K.lookup f=some ⟨oc,od,.func (PySem.W.fnOf x x (gk st) (dO st) (aj st) (.ref T) kV doc pm an cdv ct),osl⟩)
  (lT:K.lookup T=some ⟨Xj,od',.seq its n,MC⟩) (ei:its.toList.length=d) (hv:Vals pL its.toList)
  (c:PySem.W.codeIn K cdv x=true) (k:PySem.W.keepIn K (.ref f)=true):∃f fd,vd K mg x st ps pL f fd:=by
 have key:∀m (s:Shared) (us:List Value),ve x st ps d m->K.In s.heap->us.length=m->BindsTo s (PySem.W.fnOf x x (gk st) (dO st) (aj st) (.ref T) kV doc pm an cdv ct) ⟨us,[]⟩ (ps.zip (us ++ its.toList.drop (m+d-ps.length))):=λm s us h KX hu=>by
  obtain⟨kk,h1,h2⟩:=h T kV doc pm an cdv ct us its.toList hu ei;exact BindsTo.of_defaults rfl (KX _ _ lT) rfl h1 (by rw[Array.toArray_toList]at h2;exact h2)
 refine⟨f,_,⟨⟨oc,od,.ref T,kV,doc,pm,an,cdv,ct,osl,rfl,l,c⟩,k⟩,λs us KX hu=>?_,⟨its.toList,hv,λs us KX hu=>?_⟩,PySem.W.mg_of X G a⟩;rw[Zbq]at hu ⊢
 have:=key ps.length s us hb2 KX hu;rw[show ps.length+d-ps.length=its.toList.length by lk,List.drop_length,Zbq]at this;exact this
 rw[Zaf]at hu
 have:=key (ps.length-d) s us hb KX ⋯;rw[show ps.length-d+d-ps.length=0 by lk,ZcC]at this;exact this
section
variable {X:Cx}{CX:sx}{k:Nat}{f:Addr}{fd:FuncData}{ps:List Str}{sp:Sp}{x:Str}{pL:List V}{E:XK}{e:Expr}{es:List Expr}{t:TA}{p pos:Pos}
def Xk(F:aC X.prog X.w X.K X.mg X.base CX k f fd ps sp)(hr:iL k X.A)(hg:Gl X x)(hm:X.mg x=some (.ref f))(hk:PySem.W.keepIn X.K (.ref f)=true)(hb:∃ds,Vals pL ds/\Binds X.K fd ps ds)(hx:Passes CX X E)
  (ha:PA X (e :: es) t) (hdb:(x == ("__debug__" : Str))=false:=by decide) (he:starEach (e :: es) X.env=(false,eval e X.env) :: starEach es X.env:=by rfl) (hpl:(backTo pos (starEach es X.env)).any (·.1)=false:=by rfl) :
  PE X (.Call (.Name x p) (e :: es) [] pos) (qQ sp pL E t):=by
 obtain⟨ds,hd,hb⟩:=hb;exact Pn F hr hg hm hk hb hd hx ha hdb he hpl
end
end L2
namespace L2
open PySem PySem.Spec PyProof.Rows
end L2
namespace ae
abbrev upto(n:Nat):List Int:=(List.range n).map λ(k:Nat)=>(k:Int)
def qW(n:Nat):(upto n).length=n:=by simp[upto]
def oG:x∈upto n↔0<=x/\x<(n:Int):=by simp only[upto,Zaw,Zb4];constructor;rintro⟨k,hk,rfl⟩;lk;rintro⟨h1,h2⟩;exact⟨x.toNat,by lk,by lk⟩
def Xl(n:Nat):(upto n).Pairwise (· < ·):=by unfold upto;rw[List.pairwise_map];exact(List.pairwise_lt_range).imp λh=>by lk
def QM(n:Nat):(upto n).Nodup:=(Xl n).imp λh=>by lk
def Jm:∀{xs ys:List Int},xs.Nodup->(∀x∈xs,x∈ys)->ys.length<=xs.length->xs.Perm ys
 |[],ys,_,_,h=>by
  have:ys=[]:=Za5 (by simpa using h);subst this;exact Zca _
 |x :: xs,ys,hn,hs,hl=>by
  obtain⟨h1,h2⟩:=Zbr.mp hn;have hx:x∈ys:=hs x Zai;have hp:=Zcz hx;have hlen:(ys.erase x).length+1=ys.length:=by have:=hp.length_eq;simpa using this.symm
  refine List.Perm.trans (List.Perm.cons x (Jm (ys:=ys.erase x) h2 (λy hy=>?_) ?_)) hp.symm;have hne:y≠x:=λe=>h1 (e ▸ hy);exact(Zcc hne).mpr (hs y (Zal _ hy));simp at hl;lk
def Jn{xs:List Int}(hn:xs.Nodup)(hb:∀x∈xs,0<=x/\x<(xs.length:Int)):xs.Perm (upto xs.length):=Jm hn (λx hx=>oG.mpr (hb x hx)) (by rw[qW];exact Zad _)
end ae
namespace ae
abbrev app(xs:List Int)(i:Int):Int:=xs.getD i.toNat 0
abbrev bw(xs:List Int)(i:Int):Nat->Int
 |0=>i
 |j+1=>app xs (bw xs i j)
abbrev Tn(n:Nat)(xs:List Int):Prop:=xs.Perm (upto n)
def Tn.length{n:Nat}{xs:List Int}(h:Tn n xs):xs.length=n:=by rw[h.length_eq,qW]
def Tn.nodup(h:Tn n xs):xs.Nodup:=h.nodup_iff.mpr (QM n)
def Tn.bound(h:Tn n xs)(hx:x∈xs):0<=x/\x<(n:Int):=oG.mp (h.subset hx)
def qX(h0:0<=i)(h1:i<(xs.length:Int)):xs[i.toNat]?=some (app xs i):=by
 have:i.toNat<xs.length:=by lk
 unfold app;rw[Zae,Zac this];rfl
def Xm(h0:0<=i)(h1:i<(xs.length:Int)):app xs i∈xs:=Zaj (qX h0 h1)
def Tn.app(h:Tn n xs)(h0:0<=i)(h1:i<(n:Int)):0<=app xs i/\app xs i<(n:Int):=h.bound (Xm h0 (by rw[h.length];exact h1))
def Tn.inj{n:Nat}{xs:List Int}(h:Tn n xs){i j:Int}(i0:0<=i)(i1:i<(n:Int))(j0:0<=j)(j1:j<(n:Int))(e:ae.app xs i=ae.app xs j):i=j:=by have hl:=h.length;have a:=qX i0 (by rw[hl];exact i1);have b:=qX j0 (by rw[hl];exact j1);rw[e]at a;obtain⟨ha,ea⟩:=Zab.mp a;obtain⟨hb,eb⟩:=Zab.mp b;have:=(List.getElem_inj h.nodup).mp (ea.trans eb.symm);lk
def Tn.bw(h:Tn n xs)(h0:0<=i)(h1:i<(n:Int)):∀j,0<=bw xs i j/\bw xs i j<(n:Int)
 |0=>⟨h0,h1⟩
 |j+1=>h.app (h.bw h0 h1 j).1 (h.bw h0 h1 j).2
def Tn.back(h:Tn n xs)(h0:0<=i)(h1:i<(n:Int)):∀(a d:Nat),ae.bw xs i a=ae.bw xs i (a+d)->ae.bw xs i d=i
 |0,d,e=>by rw[ZbB]at e;exact e.symm
 |a+1,d,e=>by
  have e':ae.app xs (ae.bw xs i a)=ae.app xs (ae.bw xs i (a+d)):=by
   have:a+1+d=(a+d)+1:=by lk
   rw[this]at e;exact e
  exact h.back h0 h1 a d (h.inj (h.bw h0 h1 a).1 (h.bw h0 h1 a).2 (h.bw h0 h1 _).1 (h.bw h0 h1 _).2 e')
def CF:∀{xs ys:List Int},xs.Nodup->(∀x∈xs,x∈ys)->xs.length<=ys.length
 |[],_,_,_=>ZaJ _
 |x :: xs,ys,hn,hs=>by
  obtain⟨h1,h2⟩:=Zbr.mp hn;have hx:x∈ys:=hs x Zai;have hp:=Zcz hx;have hlen:(ys.erase x).length+1=ys.length:=by have:=hp.length_eq;simpa using this.symm
  have:=CF (ys:=ys.erase x) h2 λy hy=>(Zcc (a:=y) (b:=x) (λe=>h1 (by rw[<- e];exact hy))).mpr (hs y (Zal _ hy));simp only[ZaE];lk
abbrev row(xs:List Int)(i:Int)(m:Nat):List Int:=(List.range (m+1)).map (bw xs i)
def QN(xs:List Int)(i:Int)(m:Nat):row xs i (m+1)=row xs i m ++ [bw xs i (m+1)]:=by unfold row;rw[List.range_succ,Zar];rfl
def wj(xs:List Int)(i:Int)(m:Nat):(row xs i m).length=m+1:=by simp[row]
def Jo:x∈row xs i m↔∃j,j<=m/\bw xs i j=x:=by unfold row;rw[Zaw];constructor;rintro⟨j,hj,e⟩;exact⟨j,by have:=Zb4.mp hj;lk,e⟩;rintro⟨j,hj,e⟩;exact⟨j,Zb4.mpr ⋯,e⟩
abbrev NB(xs:List Int)(i:Int)(m:Nat):Prop:=∀j,1<=j->j<=m->bw xs i j≠i
def Tn.mM(h:Tn n xs)(h0:0<=i)(h1:i<(n:Int))(nb:NB xs i m):m+1<=n:=by
 have hn:(row xs i m).Nodup:=by
  unfold row List.Nodup;rw[List.pairwise_map];refine List.Pairwise.imp_of_mem (R:=λa b=>a<b) ?_ List.pairwise_lt_range;intro a b ha hb hab e;have ha':=Zb4.mp ha;have hb':=Zb4.mp hb;obtain⟨d,rfl⟩:∃d,b=a+d:=⟨b-a,by lk⟩;exact nb d ⋯ ⋯ (h.back h0 h1 a d e)
 have:=CF hn (ys:=upto n) λx hx=>by
  obtain⟨j,_,rfl⟩:=Jo.mp hx;exact oG.mpr (h.bw h0 h1 j)
 rw[wj,qW]at this;exact this
structure jY(xs:List Int)(i:Int)(r:List Int):Prop where
 ex:∃m,r=row xs i m/\NB xs i m/\bw xs i (m+1)=i
def jY.mem(a:jY xs i r):i∈r:=by obtain⟨m,e1,_,_⟩:=a.ex;rw[e1];exact Jo.mpr ⟨0,ZaJ _,rfl⟩
def jY.len(h:Tn n xs)(h0:0<=i)(h1:i<(n:Int))(a:jY xs i r):r.length<=n:=by obtain⟨m,e1,nb,_⟩:=a.ex;rw[e1,wj];exact h.mM h0 h1 nb
def jY.bound(h:Tn n xs)(h0:0<=i)(h1:i<(n:Int))(a:jY xs i r):∀x∈r,0<=x/\x<(n:Int):=by obtain⟨m,e1,nb,_⟩:=a.ex;subst e1;intro x hx;obtain⟨j,_,rfl⟩:=Jo.mp hx;exact h.bw h0 h1 j
abbrev out(left r:List Int):List Int:=left.filter λk=>!r.contains k
inductive yi(xs:List Int):List Int->List (List Int)->Prop
 |nil:yi xs [] []
 |cons {i:Int} {left r:List Int} {rs:List (List Int)}:jY xs i r->yi xs (out (i :: left) r) rs->yi xs (i :: left) (r :: rs)
abbrev from'(n k:Nat)(seen:Int->Bool):List Int:=(((List.range n).drop k).map λ(j:Nat)=>(j:Int)).filter λx=>!seen x
def Xn(n:Nat)(seen:Int->Bool):from' n n seen=[]:=by unfold from';rw[Zcm (by simp)];rfl
def Xo(h:k<n)(seen:Int->Bool):from' n k seen=if seen (k:Int)then from' n (k+1) seen else(k:Int) :: from' n (k+1) seen:=by unfold from';rw[ZbI (by simpa using h),Zaz,List.filter_cons];simp only[ZcD];cases hs:seen (k:Int)<;>simp
def Xp:out (from' n k seen) r=from' n k (λx=>seen x || r.contains x):=by
 unfold out from';rw[List.filter_filter]
 congr 1
 funext x
 show(!r.contains x && !seen x)=!(seen x || r.contains x);cases seen x<;>cases r.contains x<;>rfl
def Xq(n:Nat):from' n 0 (λ_=>false)=upto n:=by unfold from' upto;rw[ZcC];simp
abbrev sJ(n:Nat):List Int:=((List.range (n-1)).map λ(k:Nat)=>(1:Int)+k) ++ [0]
def Xr:∀n,n<21->0<n->(sJ n).isPerm (upto n)=true:=by decide
def QO(h:n<21)(h0:0<n):Tn n (sJ n):=List.isPerm_iff.mp (Xr n h h0)
end ae
namespace ae
def El(h:xs.length=n):(upto n).map (app xs)=xs:=by apply List.ext_getElem;rw[Zaa,qW,h];intro i h1 h2;have e:=qX (xs:=xs) (i:=(i:Int)) ⋯ ⋯;simp only[Zat]at e;rw[Zac h2]at e;rw[Zcr];unfold upto;simp only[Zcr,ZcD];exact(Zao e).symm
abbrev inv(xs:List Int):List Int:=(upto xs.length).map λi=>(xs.idxOf i:Int)
def Em(xs:List Int):(inv xs).length=xs.length:=by unfold inv;rw[Zaa,qW]
def En(h:i<n):(upto n)[i]?=some (i:Int):=by unfold upto;rw[Zag,ZaX h];rfl
def Jp(h0:0<=i)(h1:i<(xs.length:Int)):app (inv xs) i=(xs.idxOf i:Int):=by have e:=qX (xs:=inv xs) h0 (by rw[Em];exact h1);unfold inv at e;rw[Zag,En ⋯]at e;have:=Zao e;rw[<- inv]at this;rw[<- this,ZaG h0]
def Tn.mem(h:Tn n xs)(h0:0<=i)(h1:i<(n:Int)):i∈xs:=h.symm.subset (oG.mpr ⟨h0,h1⟩)
def Tn.idx(h:Tn n xs)(h0:0<=i)(h1:i<(n:Int)):xs.idxOf i<n:=by rw[<- h.length];exact ZbC (h.mem h0 h1)
def Tn.cJ(h:Tn n xs)(h0:0<=i)(h1:i<(n:Int)):ae.app xs (ae.app (inv xs) i)=i:=by rw[Jp h0 (by rw[h.length];exact h1)];have hl:=h.idx h0 h1;have e:=qX (xs:=xs) (i:=(xs.idxOf i:Int)) ⋯ (by rw[h.length];lk);rw[Zat,Zac (by rw[h.length];exact hl)]at e;rw[<- Zao e];exact ZcE _
def Tn.ou(h:Tn n xs)(h0:0<=i)(h1:i<(n:Int)):0<=ae.app (inv xs) i/\ae.app (inv xs) i<(n:Int):=by rw[Jp h0 (by rw[h.length];exact h1)];have:=h.idx h0 h1;lk
def Tn.hJ(h:Tn n xs)(h0:0<=i)(h1:i<(n:Int)):ae.app (inv xs) (ae.app xs i)=i:=by obtain⟨a0,a1⟩:=h.app h0 h1;obtain⟨b0,b1⟩:=h.ou a0 a1;exact h.inj b0 b1 h0 h1 (h.cJ a0 a1)
def Tn.aA(h:Tn n xs):Tn n (inv xs):=by
 have hl:=h.length;unfold Tn;have e:(inv xs).length=n:=by rw[Em,hl]
 have:=Jn (xs:=inv xs) ?_ ?_
 rw[e]at this;exact this;unfold List.Nodup;rw[Za4];intro i j hi hj hij z;have a:=qX (xs:=inv xs) (i:=(i:Int)) ⋯ ⋯;have b:=qX (xs:=inv xs) (i:=(j:Int)) ⋯ ⋯;rw[Zat,Zac hi]at a;rw[Zat,Zac hj]at b;have a:=Zao a;have b:=Zao b;have c:=h.cJ (i:=(i:Int)) ⋯ ⋯;have d:=h.cJ (i:=(j:Int)) ⋯ ⋯;rw[<- a]at c;rw[<- b,<- z]at d;have:=c.symm.trans d;lk;intro x hx;unfold inv at hx;obtain⟨i,hi,rfl⟩:=Zaw.mp hx;have:=oG.mp hi;rw[hl]at this;have:=h.idx this.1 this.2;rw[e];lk
def wk(xs:List Int)(i:Int)(j:Nat):∀d,bw xs (bw xs i j) d=bw xs i (j+d)
 |0=>rfl
 |d+1=>by show app xs (bw xs (bw xs i j) d)=app xs (bw xs i (j+d));rw[wk xs i j d]
def QP(h:bw xs i L=i)(a:Nat):bw xs i (a+L)=bw xs i a:=by rw[Nat.add_comm,<- wk xs i L a,h]
def Eo(h:bw xs i L=i):∀(q r:Nat),bw xs i (r+L*q)=bw xs i r
 |0,r=>rfl
 |q+1,r=>by rw[Nat.mul_succ,<- Nat.add_assoc,QP h];exact Eo h q r
def QQ(h:bw xs i L=i)(a:Nat):bw xs i (a % L)=bw xs i a:=by have:=Eo h (a / L) (a % L);rw[Nat.mod_add_div]at this;exact this.symm
abbrev QR(xs:List Int)(k i v:Int):Prop:=∃m,NB xs i m/\bw xs i (m+1)=i/\v=bw xs i (k % ((m+1:Nat):Int)).toNat
def Tn.Ag(h:Tn n xs)(h0:0<=i)(h1:i<(n:Int))(nb:NB xs i m)(bk:ae.bw xs i (m+1)=i)(j:Nat)(k:Int):
  QR xs k (ae.bw xs i j) (ae.bw xs i (((j:Int)+k) % ((m+1:Nat):Int)).toNat):=by
 refine⟨m,λd d1 d2 e=>?_,?_,?_⟩;rw[wk]at e;exact nb d d1 d2 (h.back h0 h1 j d e.symm);rw[wk,QP bk];rw[wk];rw[<- QQ bk (j+(k % ((m+1:Nat):Int)).toNat)]
 congr 1
 have hL:(0:Int)<((m+1:Nat):Int):=by lk
 have k0:=Zbc k (Int.ne_of_gt hL);have e:(((j+(k % ((m+1:Nat):Int)).toNat) % (m+1):Nat):Int)=((j:Int)+k) % ((m+1:Nat):Int):=by
  rw[Int.natCast_emod,Int.natCast_add,ZaG k0,Int.add_emod_emod]
 rw[<- e,Zat]
def yi.all:∀{left:List Int} {rs:List (List Int)},yi xs left rs->(∀r∈rs,∃i∈left,jY xs i r)/\∀x∈left,∃r∈rs,x∈r:=by
 intro left rs a
 induction a with
 |nil=>exact⟨λr hr=>(nomatch hr),λx hx=>(nomatch hx)⟩
 |cons h1 _ ih =>
  refine⟨λr hr=>?_,λx hx=>?_⟩
  ·rcases ZaF.mp hr with rfl|hr
   ·exact⟨_,Zai,h1⟩
   ·obtain⟨i,hi,r'⟩:=ih.1 r hr
    exact⟨i,(Zcg.mp hi).1,r'⟩
  ·rename_i i left r rs _
   by_cases hc:x∈r
   ·exact⟨r,Zai,hc⟩
   ·obtain⟨r',hr',hx'⟩:=ih.2 x (Zcg.mpr ⟨hx,by simp[hc]⟩)
    exact⟨r',Zal _ hr',hx'⟩
def Xs(h:Tn n xs):xs.map (app (inv xs))=upto n:=by
 have e:((upto n).map (app xs)).map (app (inv xs))=upto n:=by
  rw[ZaC]
  conv=>rhs;rw[<- Zb1 (upto n)]
  apply ZaO;intro x hx;obtain⟨a,b⟩:=oG.mp hx;exact h.hJ a b
 rw[El h.length]at e;exact e
def Xt(h:Tn n xs):(inv xs).map (app xs)=upto n:=by
 have e:((upto n).map (app (inv xs))).map (app xs)=upto n:=by
  rw[ZaC]
  conv=>rhs;rw[<- Zb1 (upto n)]
  apply ZaO;intro x hx;obtain⟨a,b⟩:=oG.mp hx;exact h.cJ a b
 rw[El (h.aA).length]at e;exact e
end ae
namespace ae
inductive kS(xs ys:List Int):Int->Prop
 |zero:kS xs ys 0
 |r {x:Int}:kS xs ys x->kS xs ys (app xs x)
 |u {x:Int}:kS xs ys x->kS xs ys (app ys x)
def kS.bound(hx:Tn n xs)(hy:Tn n ys)(h0:0<n)(h:kS xs ys x):0<=x/\x<(n:Int):=by
 induction h with
 |zero=>lk
 |r _ ih=>exact hx.app ih.1 ih.2
 |u _ ih=>exact hy.app ih.1 ih.2
def kS.bw(h:kS xs ys x):∀k,kS xs ys (ae.bw xs x k)
 |0=>h
 |k+1=>.r (h.bw k)
abbrev pD(xs:List Int)(m:Nat):List Int:=(xs.set 0 (app xs m)).set m (app xs 0)
def Xu(xs:List Int)(m:Nat):(pD xs m).length=xs.length:=by simp[pD]
def MD{xs:List Int}{m:Nat}{v x:Int}(hm:m<xs.length)(h0:0<=x):app (xs.set m v) x=if x=(m:Int)then v else app xs x:=by unfold app;rw[Zae,Zae];by_cases hx:x=(m:Int);rw[if_pos hx,hx,Zat,Zah hm];rfl;rw[if_neg hx,Zak ⋯]
def CG(hm:m<xs.length)(h0:0<=x):app (pD xs m) x=if x=(m:Int)then app xs 0 else if x=0 then app xs m else app xs x:=by unfold pD;rw[MD (by simpa using hm) h0,MD ⋯ h0];rfl
def Ah(h:Tn n xs)(hm:m<n):Tn n (pD xs m):=by
 have hl:=h.length;have e:(pD xs m).length=n:=by rw[Xu,hl]
 have:=Jn (xs:=pD xs m) ?_ ?_
 unfold Tn;rw[e]at this;exact this;unfold List.Nodup;rw[Za4];intro i j hi hj hij z;have a:=qX (xs:=pD xs m) (i:=(i:Int)) ⋯ ⋯;have b:=qX (xs:=pD xs m) (i:=(j:Int)) ⋯ ⋯;rw[Zat,Zac hi]at a;rw[Zat,Zac hj]at b;have a:=Zao a;have b:=Zao b;rw[CG ⋯ ⋯]at a b;rw[a,b]at z;have inj:∀p q:Int,0<=p->p<(n:Int)->0<=q->q<(n:Int)->app xs p=app xs q->p=q:=λp q p0 p1 q0 q1=>h.inj p0 p1 q0 q1;split at z<;>split at z<;>(try split at z)<;>(try split at z)<;>(first|lk|(have:=inj _ _ ⋯ ⋯ ⋯ ⋯ z;lk));intro x hx;obtain⟨i,hi,rfl⟩:=Zbk hx;have a:=qX (xs:=pD xs m) (i:=(i:Int)) ⋯ ⋯;rw[Zat,Zac hi]at a;rw[Zao a,CG ⋯ ⋯,e];split;exact h.app ⋯ ⋯;split;exact h.app ⋯ ⋯;exact h.app ⋯ ⋯
def Tn.w6(h:Tn n xs)(h0:0<=i)(h1:i<(n:Int)):∃m,NB xs i m/\ae.bw xs i (m+1)=i:=by
 by_cases hb:∃m,m<n/\ae.bw xs i (m+1)=i
 -- the least
 have key:∀b:Nat,(∃m,m<b/\ae.bw xs i (m+1)=i)->∃m,NB xs i m/\ae.bw xs i (m+1)=i:=by
  intro b
  induction b with
  |zero=>rintro⟨m,hm,_⟩;lk
  |succ b ih =>
   rintro⟨m,hm,e⟩;by_cases hc:∃m,m<b/\ae.bw xs i (m+1)=i;exact ih hc;refine⟨m,λj j1 j2 z=>hc ⟨j-1,by lk,?_⟩,e⟩
   have:j-1+1=j:=by lk
   rw[this];exact z
 exact key n hb;have nb:NB xs i n:=λj j1 j2 z=>by
  refine hb ⟨j-1,by lk,?_⟩;have:j-1+1=j:=by lk
  rw[this];exact z
 have:=h.mM h0 h1 nb;lk
def Xv(hx:Tn n xs)(hy:Tn n ys)(hm:m<n)(nm:¬kS xs ys (m:Int)):kS (pD xs m) ys (m:Int)/\∀x,kS xs ys x->kS (pD xs m) ys x:=by
 have hl:=hx.length;have m0:m≠0:=λz=>nm (by rw[z];exact .zero);obtain⟨M,nb,bk⟩:=hx.w6 (i:=(m:Int)) ⋯ ⋯;have Xw:∀j,ae.bw xs (m:Int) j≠0:=by
  intro j z;have h':kS xs ys (ae.bw xs (ae.bw xs (m:Int) j) ((M+1)*j)):=by rw[z];exact kS.zero.bw _
  rw[wk]at h';have e2:ae.bw xs (m:Int) ((M+1)*(j+1))=(m:Int):=by
   have:=Eo bk (j+1) 0;rw[ZbB]at this;exact this
  have h3:=h'.bw ((M+1)*(j+1)-(j+(M+1)*j));rw[wk]at h3;have e3:j+(M+1)*j+((M+1)*(j+1)-(j+(M+1)*j))=if j+(M+1)*j<=(M+1)*(j+1)then(M+1)*(j+1)else j+(M+1)*j:=by split<;>lk
  rw[e3]at h3;by_cases hc:j+(M+1)*j<=(M+1)*(j+1)
  ·rw[if_pos hc,e2]at h3
   exact nm h3
  ·-- round as often as needed
   have h4:=h'.bw ((M+1)*(2*j+2)-(j+(M+1)*j));rw[wk]at h4;have hbig:j+(M+1)*j<=(M+1)*(2*j+2):=by
    have a1:(M+1)*(2*j+2)=(M+1)*j+((M+1)*j+(M+1)*2):=by rw[<- Nat.mul_add,<- Nat.mul_add];congr 1;lk
    have a2:j<=(M+1)*j:=Nat.le_mul_of_pos_left j ⋯;lk
   have e5:j+(M+1)*j+((M+1)*(2*j+2)-(j+(M+1)*j))=(M+1)*(2*j+2):=by lk
   rw[e5]at h4;have:=Eo bk (2*j+2) 0;rw[ZbB]at this;rw[this]at h4;exact nm h4
 have ring:∀j,j<=M->kS (pD xs m) ys (ae.bw xs (m:Int) (j+1)):=by
  intro j
  induction j with
  |zero =>
   intro _;have h1:kS (pD xs m) ys (ae.app (pD xs m) 0):=.r .zero;rw[CG ⋯ ⋯,if_neg ⋯,if_pos rfl]at h1;exact h1
  |succ j ih =>
   intro hj;have h1:=(ih ⋯).r;have b:=hx.bw (i:=(m:Int)) ⋯ ⋯ (j+1);rw[CG ⋯ b.1,if_neg (nb (j+1) ⋯ ⋯),if_neg (Xw (j+1))]at h1;exact h1
 have QS:kS (pD xs m) ys (m:Int):=by have:=ring M (Zad _);rwa [bk]at this
 refine⟨QS,λx h=>?_⟩;have hpos:0<n:=by lk
 induction h with
 |zero=>exact .zero
 |r hx' ih =>
  rename_i x
  have b:=hx'.bound hx hy hpos;by_cases h0:x=0
  ·have h1:=QS.r
   rw[CG ⋯ ⋯,if_pos rfl]at h1;rw[h0];exact h1
  ·have Xx:x≠(m:Int):=λz=>nm (by rw[<- z];exact hx')
   have h1:=ih.r;rw[CG ⋯ b.1,if_neg Xx,if_neg h0]at h1;exact h1
 |u _ ih=>exact ih.u
abbrev Cl(xs ys F:List Int):Prop:=∀x∈F,app xs x∈F/\app ys x∈F
def Cl.all(h:Cl xs ys F)(h0:(0:Int)∈F)(r:kS xs ys x):x∈F:=by
 induction r with
 |zero=>exact h0
 |r _ ih=>exact(h _ ih).1
 |u _ ih=>exact(h _ ih).2
structure Fd(xs ys:List Int)(F:List Int):Prop where
 z:(0:Int)∈F
 nd:F.Nodup
 mt:∀x∈F,kS xs ys x
def Fd.len(h:Fd xs ys F)(hx:Tn n xs)(hy:Tn n ys)(h0:0<n):F.length<=n:=by have:=CF h.nd (ys:=upto n) λx hx'=>oG.mpr ((h.mt x hx').bound hx hy h0);rw[qW]at this;exact this
def Fd.one(xs ys:List Int):Fd xs ys [0]:=⟨by simp,by simp,λx hx=>(show x=0 by simpa using hx) ▸ .zero⟩
def round(d:Fd xs ys F)(d2:Fd xs ys F2)(p1:F <+: F1)(p2:F1 <+: F2)(c1:∀x∈F,app xs x∈F1)(c2:∀x∈F1,app ys x∈F2)(h:Cl xs ys F\/t+1<=F.length):Cl xs ys F2\/t+1+1<=F2.length:=by
 have p:=p1.trans p2;by_cases hc:Cl xs ys F;refine .inl λx hx=>?_;have hF:=hc.all d.z (d2.mt x hx);exact⟨p.subset (hc x hF).1,p.subset (hc x hF).2⟩;have hl:=h.resolve_left hc;by_cases he:F2.length<=F.length;refine absurd ?_ hc;have e2:F2=F:=(p.eq_of_length (by have:=p.length_le;lk)).symm;have e1:F1=F:=by
  have a:=p1.length_le;have b:=p2.length_le;exact(p1.eq_of_length ⋯).symm
 intro x hx;refine⟨?_,?_⟩
 have:=c1 x hx;rwa [e1]at this
 have:=c2 x (by rw[e1];exact hx);rwa [e2]at this
 exact .inr ⋯
abbrev xa(w n:Nat):List Int:=((List.range (w-1)).map λ(k:Nat)=>(1:Int)+k) ++ [0] ++ ((List.range (n-w)).map λ(k:Nat)=>(w:Int)+k)
abbrev xb(w n:Nat):List Int:=[(w:Int)] ++ ((List.range (w-1)).map λ(k:Nat)=>(1:Int)+k) ++ ((List.range (n-(w+1))).map λ(k:Nat)=>((w:Int)+1)+k) ++ [0]
def Xy:∀n,n<21->∀w,w<n+1->0<w->(xa w n).isPerm (upto n)=true:=by decide +kernel
def Xz:∀n,n<21->∀w,w<n->0<w->(xb w n).isPerm (upto n)=true:=by decide +kernel
def XA(h:n<21)(h1:w<=n)(h0:0<w):Tn n (xa w n):=List.isPerm_iff.mp (Xy n h w ⋯ h0)
def XB(h:n<21)(h1:w<n)(h0:0<w):Tn n (xb w n):=List.isPerm_iff.mp (Xz n h w h1 h0)
def less{L L':List Int}{m:Int}(nd:L'.Nodup)(hs:∀x∈L',x∈L)(hm:m∈L)(hm':m ∉ L'):L'.length<L.length:=by
 have hp:=Zcz hm;have hlen:(L.erase m).length+1=L.length:=by have:=hp.length_eq;simpa using this.symm
 have:=CF (ys:=L.erase m) nd λx hx=>(Zcc (λe=>hm' (by rw[<- e];exact hx))).mpr (hs x hx);lk
end ae
namespace ae
abbrev a5(xs ys:List Int):List Int:=xs.map (app ys)
def Ep(xs ys:List Int):(a5 xs ys).length=xs.length:=by simp[a5]
def sL{n:Nat}{xs ys:List Int}(hx:xs.length=n)(hy:ys.length=n)(h:∀s:Int,0<=s->s<(n:Int)->app xs s=app ys s):xs=ys:=by rw[<- El hx,<- El hy];apply ZaO;intro s hs;obtain⟨h0,h1⟩:=oG.mp hs;exact h s h0 h1
def qF(h0:0<=s)(h1:s<(xs.length:Int)):app (a5 xs ys) s=app ys (app xs s):=by have e:=qX (xs:=a5 xs ys) h0 (by rw[Ep];exact h1);unfold a5 at e;rw[Zag,qX h0 h1]at e;exact(Zao e).symm
def Tn.vf{n:Nat}{xs:List Int}(hl:xs.length=n)(hb:∀s:Int,0<=s->s<(n:Int)->0<=ae.app xs s/\ae.app xs s<(n:Int))(hi:∀s t:Int,0<=s->s<(n:Int)->0<=t->t<(n:Int)->ae.app xs s=ae.app xs t->s=t):Tn n xs:=by
 have el:∀(i:Nat) (h:i<xs.length),xs[i]=ae.app xs (i:Int):=λi h=>by
  have a:=qX (xs:=xs) (i:=(i:Int)) ⋯ ⋯;rw[Zat,Zac h]at a;exact Zao a
 have:=Jn (xs:=xs) ?_ ?_
 unfold Tn;rw[hl]at this;exact this;unfold List.Nodup;rw[Za4];intro i j h1 h2 hij z;rw[el i h1,el j h2]at z;have:=hi i j ⋯ ⋯ ⋯ ⋯ z;lk;intro x hx;obtain⟨i,h,rfl⟩:=Zbk hx;rw[el i h,hl];exact hb i ⋯ ⋯
def Tn.a5(hx:Tn n xs)(hy:Tn n ys):Tn n (a5 xs ys):=by have hl:=hx.length;refine Tn.vf (by rw[Ep];exact hl) (λs h0 h1=>?_) λs t s0 s1 t0 t1 e=>?_;rw[qF h0 ⋯];obtain⟨a,b⟩:=hx.app h0 h1;exact hy.app a b;rw[qF s0 ⋯,qF t0 ⋯]at e;obtain⟨a,b⟩:=hx.app s0 s1;obtain⟨c,d⟩:=hx.app t0 t1;exact hx.inj s0 s1 t0 t1 (hy.inj a b c d e)
def Tn.xc(hx:Tn n xs)(hy:Tn n ys)(h0:0<=s)(h1:s<(n:Int)):ae.app (inv (ae.a5 xs ys)) s=ae.app (inv xs) (ae.app (inv ys) s):=by have hf:=hx.a5 hy;obtain⟨a0,a1⟩:=hy.ou h0 h1;obtain⟨b0,b1⟩:=hx.ou a0 a1;obtain⟨c0,c1⟩:=hf.ou h0 h1;refine hf.inj c0 c1 b0 b1 ?_;rw[hf.cJ h0 h1,qF b0 (by rw[hx.length];exact b1),hx.cJ a0 a1,hy.cJ h0 h1]
abbrev anew(xs p:List Int):List Int:=a5 (a5 (inv p) xs) p
def Tn.anew(hx:Tn n xs)(hp:Tn n p):Tn n (anew xs p):=(hp.aA.a5 hx).a5 hp
def Tn.jM(hx:Tn n xs)(hp:Tn n p)(h0:0<=s)(h1:s<(n:Int)):ae.app (ae.anew xs p) s=ae.app p (ae.app xs (ae.app (inv p) s)):=by have hl:=hp.aA.length;unfold ae.anew;rw[qF h0 (by rw[Ep,hl];exact h1),qF h0 (by rw[hl];exact h1)]
def Tn.nu(hx:Tn n xs)(hp:Tn n p)(h0:0<=s)(h1:s<(n:Int)):ae.app (ae.anew xs p) (ae.app p s)=ae.app p (ae.app xs s):=by obtain⟨a,b⟩:=hp.app h0 h1;rw[hx.jM hp a b,hp.hJ h0 h1]
def Tn.nT(hx:Tn n xs)(hp:Tn n p)(hq:Tn n q):ae.anew (ae.anew xs p) q=ae.anew xs (ae.a5 p q):=by have hf:=hp.a5 hq;refine sL (n:=n) ((hx.anew hp).anew hq).length (hx.anew hf).length λs h0 h1=>?_;obtain⟨a0,a1⟩:=hq.ou h0 h1;obtain⟨b0,b1⟩:=hp.ou a0 a1;obtain⟨c0,c1⟩:=hx.app b0 b1;rw[(hx.anew hp).jM hq h0 h1,hx.jM hp a0 a1,hx.jM hf h0 h1,hp.xc hq h0 h1,qF c0 (by rw[hp.length];exact c1)]
def Tn.nU(hx:Tn n xs)(hp:Tn n p):ae.anew (ae.anew xs p) (inv p)=xs:=by
 refine sL (n:=n) ((hx.anew hp).anew hp.aA).length hx.length λs h0 h1=>?_;obtain⟨a0,a1⟩:=hp.aA.ou h0 h1;have e:ae.app (inv (inv p)) s=ae.app p s:=by
  obtain⟨b0,b1⟩:=hp.app h0 h1;refine hp.aA.inj a0 a1 b0 b1 ?_;rw[hp.aA.cJ h0 h1,hp.hJ h0 h1]
 obtain⟨b0,b1⟩:=hp.app h0 h1;obtain⟨c0,c1⟩:=hx.app h0 h1;rw[(hx.anew hp).jM hp.aA h0 h1,e,hx.nu hp h0 h1,hp.hJ c0 c1]
end ae
namespace ae
abbrev cP(F:List Int)(x:Int):List Int:=if x∈F then F else F ++ [x]
def yj(F:List Int)(x:Int):F <+: cP F x:=by unfold cP;split;exact Zcd _;exact ZbZ _ _
def sM:y∈cP F x↔y∈F\/y=x:=by
 unfold cP;split
 ·next h=>exact⟨.inl,λz=>z.elim id λe=>e ▸ h⟩
 ·rw[Zax,Zav]
def QT(h:F.Nodup):(cP F x).Nodup:=by
 unfold cP;split
 ·exact h
 ·next hx =>
  rw[Zcl];exact⟨h,by simp,λa ha b hb e=>hx (by rw[Zav]at hb;rw[<- hb,<- e];exact ha)⟩
abbrev visit(xs ys F:List Int)(x:Int):List Int:=cP (cP F (app xs x)) (app ys x)
abbrev bf(xs ys:List Int)(s:Int):Nat->List Int
 |0=>[s]
 |k+1=>match (bf xs ys s k)[k]? with
  |some x=>visit xs ys (bf xs ys s k) x
  |none=>bf xs ys s k
def XC(xs ys:List Int)(s:Int)(k:Nat):bf xs ys s k <+: bf xs ys s (k+1):=by show _ <+: (match (bf xs ys s k)[k]? with|some x=>visit xs ys (bf xs ys s k) x|none=>bf xs ys s k);split;exact(yj _ _).trans (yj _ _);exact Zcd _
def Ai(xs ys:List Int)(s:Int)(k:Nat):∀d,bf xs ys s k <+: bf xs ys s (k+d)
 |0=>Zcd _
 |d+1=>(Ai xs ys s k d).trans (XC xs ys s (k+d))
def Aj(xs ys:List Int)(s:Int):∀k,(bf xs ys s k).Nodup
 |0=>by show[s].Nodup;simp
 |k+1=>by
  show(match (bf xs ys s k)[k]? with|some x=>visit xs ys (bf xs ys s k) x|none=>bf xs ys s k).Nodup;split;exact QT (QT (Aj xs ys s k));exact Aj xs ys s k
def Jq(h:(bf xs ys s k).length<=k):∀d,bf xs ys s (k+d)=bf xs ys s k
 |0=>rfl
 |d+1=>by
  have e:=Jq h d;show(match (bf xs ys s (k+d))[k+d]? with|some x=>visit xs ys (bf xs ys s (k+d)) x|none=>bf xs ys s (k+d))=_;rw[e,ZaP ⋯]
section
variable {n:Nat}{xs ys:List Int}{s:Int}
def tI(hx:Tn n xs)(hy:Tn n ys)(s0:0<=s)(s1:s<(n:Int)):∀k,∀x∈bf xs ys s k,0<=x/\x<(n:Int)
 |0,x,h=>by rw[Zav.mp (show x∈[s]from h)];exact⟨s0,s1⟩
 |k+1,x,h=>by
  have ih:=tI hx hy s0 s1 k;have h':x∈(match (bf xs ys s k)[k]? with|some y=>visit xs ys (bf xs ys s k) y|none=>bf xs ys s k):=h;split at h'
  ·next y hy' =>
   obtain⟨y0,y1⟩:=ih y (Zaj hy');rcases sM.mp h' with h'|rfl
   ·rcases sM.mp h' with h'|rfl
    ·exact ih x h'
    ·exact hx.app y0 y1
   ·exact hy.app y0 y1
  ·exact ih x h'
def Er(hx:Tn n xs)(hy:Tn n ys)(s0:0<=s)(s1:s<(n:Int))(k:Nat):(bf xs ys s k).length<=n:=by have:=CF (Aj xs ys s k) (ys:=upto n) λx h=>oG.mpr (tI hx hy s0 s1 k x h);rw[qW]at this;exact this
def Es(hik:i<=k)(h:(bf xs ys s k)[i]?=some x):(bf xs ys s i)[i]?=some x:=by obtain⟨d,rfl⟩:∃d,k=i+d:=⟨k-i,by lk⟩;by_cases hl:(bf xs ys s i).length<=i;rw[Jq hl d]at h;exact h;obtain⟨t,e⟩:=Ai xs ys s i d;rw[<- e,Zan ⋯]at h;exact h
def ME(hx:Tn n xs)(hy:Tn n ys)(s0:0<=s)(s1:s<(n:Int)):Cl xs ys (bf xs ys s n):=by
 intro x hm;obtain⟨i,hi,e⟩:=Zbk hm;have hl:=Er hx hy s0 s1 n;have hi':(bf xs ys s i)[i]?=some x:=Es (k:=n) ⋯ (by rw[Zac hi,e]);have hs:visit xs ys (bf xs ys s i) x <+: bf xs ys s n:=by
  have:=Ai xs ys s (i+1) (n-(i+1));rw[show i+1+(n-(i+1))=n by lk]at this;have e2:bf xs ys s (i+1)=visit xs ys (bf xs ys s i) x:=by
   show(match (bf xs ys s i)[i]? with|some x=>visit xs ys (bf xs ys s i) x|none=>bf xs ys s i)=_;rw[hi']
  rw[<- e2];exact this
 refine⟨hs.subset ?_,hs.subset ?_⟩;exact sM.mpr (.inl (sM.mpr (.inr rfl)));exact sM.mpr (.inr rfl)
def Et{zs F:List Int}(hz:Tn n zs)(nd:F.Nodup)(hb:∀x∈F,0<=x/\x<(n:Int))(hc:∀x∈F,app zs x∈F){y:Int}(y0:0<=y)(y1:y<(n:Int))(h:app zs y∈F):y∈F:=by
 have XD:(F.map (app zs)).Nodup:=by
  unfold List.Nodup;rw[List.pairwise_map];refine List.Pairwise.imp_of_mem (λ{a b} ha hb' hab e=>?_) nd;obtain⟨a0,a1⟩:=hb a ha;obtain⟨b0,b1⟩:=hb b hb';exact hab (hz.inj a0 a1 b0 b1 e)
 have pm:(F.map (app zs)).Perm F:=Jm XD (λx hx=>by obtain⟨z,hz',rfl⟩:=Zaw.mp hx;exact hc z hz') (by simp);obtain⟨z,CH,e⟩:=Zaw.mp (pm.symm.subset h);obtain⟨z0,z1⟩:=hb z CH;rw[<- hz.inj z0 z1 y0 y1 e];exact CH
def QU(hx:Tn n xs)(hy:Tn n ys)(s0:0<=s)(s1:s<(n:Int))(all:∀x:Int,0<=x->x<(n:Int)->kS xs ys x)(x0:0<=x)(x1:x<(n:Int)):x∈bf xs ys s n:=by
 have cl:=ME hx hy s0 s1;have nd:=Aj xs ys s n;have bd:=tI hx hy s0 s1 n;have hs:s∈bf xs ys s n:=by
  have:=Ai xs ys s 0 n;rw[ZbB]at this;exact this.subset (show s∈[s] by simp)
 have hpos:0<n:=by lk
 have zero:∀y,kS xs ys y->y∈bf xs ys s n->(0:Int)∈bf xs ys s n:=by
  intro y hr
  induction hr with
  |zero=>exact id
  |r h ih =>
   intro hm;obtain⟨a,b⟩:=h.bound hx hy hpos;exact ih (Et hx nd bd (λx hx'=>(cl x hx').1) a b hm)
  |u h ih =>
   intro hm;obtain⟨a,b⟩:=h.bound hx hy hpos;exact ih (Et hy nd bd (λx hx'=>(cl x hx').2) a b hm)
 exact cl.all (zero s (all s s0 s1) hs) (all x x0 x1)
def Jr(hx:Tn n xs)(hy:Tn n ys)(s0:0<=s)(s1:s<(n:Int))(all:∀x:Int,0<=x->x<(n:Int)->kS xs ys x):Tn n (bf xs ys s n) :=
 Jm (Aj xs ys s n) (λx h=>oG.mpr (tI hx hy s0 s1 n x h)) (by
  have:=CF (QM n) (ys:=bf xs ys s n) λx h=>by obtain⟨a,b⟩:=oG.mp h;exact QU hx hy s0 s1 all a b
  exact this)
def QV(hp:Tn n p)(hb:∀x∈F,0<=x/\x<(n:Int))(x0:0<=x)(x1:x<(n:Int)):cP (F.map (app p)) (app p x)=(cP F x).map (app p):=by
 unfold cP
 have e:app p x∈F.map (app p)↔x∈F:=⟨λh=>by
  obtain⟨y,hy,e⟩:=Zaw.mp h;obtain⟨y0,y1⟩:=hb y hy
  rw[<- hp.inj y0 y1 x0 x1 e];exact hy,λh=>Zaw.mpr ⟨x,h,rfl⟩⟩
 by_cases h:x∈F;rw[if_pos h,if_pos (e.mpr h)];rw[if_neg h,if_neg λz=>h (e.mp z),Zar];rfl
def MF(hx:Tn n xs)(hy:Tn n ys)(hp:Tn n p)(s0:0<=s)(s1:s<(n:Int)):∀k,bf (anew xs p) (anew ys p) (app p s) k=(bf xs ys s k).map (app p)
 |0=>rfl
 |k+1=>by
  have ih:=MF hx hy hp s0 s1 k;show(match (bf (anew xs p) (anew ys p) (app p s) k)[k]? with|some x=>visit (anew xs p) (anew ys p) (bf (anew xs p) (anew ys p) (app p s) k) x|none=>bf (anew xs p) (anew ys p) (app p s) k)=(match (bf xs ys s k)[k]? with|some x=>visit xs ys (bf xs ys s k) x|none=>bf xs ys s k).map (app p);rw[ih,Zag];cases h:(bf xs ys s k)[k]? with
  |none=>rfl
  |some x =>
   obtain⟨x0,x1⟩:=tI hx hy s0 s1 k x (Zaj h);obtain⟨a0,a1⟩:=hx.app x0 x1;obtain⟨b0,b1⟩:=hy.app x0 x1;show visit (anew xs p) (anew ys p) ((bf xs ys s k).map (app p)) (app p x)=(visit xs ys (bf xs ys s k) x).map (app p);unfold visit;rw[hx.nu hp x0 x1,hy.nu hp x0 x1,QV hp (tI hx hy s0 s1 k) a0 a1,QV hp (λz hz=>?_) b0 b1];rcases sM.mp hz with hz|rfl
   exact tI hx hy s0 s1 k z hz;exact⟨a0,a1⟩
end
abbrev num(zs sq:List Int):List Int:=sq.map λo=>(sq.idxOf (app zs o):Int)
def Tn.inv_inv(hp:Tn n p):inv (inv p)=p:=by refine sL (n:=n) hp.aA.aA.length hp.length λs h0 h1=>?_;obtain⟨a0,a1⟩:=hp.aA.ou h0 h1;obtain⟨b0,b1⟩:=hp.app h0 h1;refine hp.aA.inj a0 a1 b0 b1 ?_;rw[hp.aA.cJ h0 h1,hp.hJ h0 h1]
def yk(hz:Tn n zs)(hs:Tn n sq):anew zs (inv sq)=num zs sq:=by unfold anew num a5;rw[hs.inv_inv,ZaC];apply ZaO;intro o ho;obtain⟨o0,o1⟩:=hs.bound ho;obtain⟨a0,a1⟩:=hz.app o0 o1;exact Jp a0 (by rw[hs.length];exact a1)
def QW(hp:Tn n p):∀{sq:List Int},(∀x∈sq,0<=x/\x<(n:Int))->∀{y:Int},0<=y->y<(n:Int)->(sq.map (app p)).idxOf (app p y)=sq.idxOf y
 |[],_,_,_,_=>rfl
 |a :: r,hb,y,y0,y1=>by
  obtain⟨a0,a1⟩:=hb a Zai;rw[Zaz,List.idxOf_cons,List.idxOf_cons,QW hp (λx hx=>hb x (Zal _ hx)) y0 y1];by_cases e:a=y;rw[e];simp;have e2:app p a≠app p y:=λz=>e (hp.inj a0 a1 y0 y1 z);rw[show(a == y)=false by simpa using e,show(app p a == app p y)=false by simpa using e2]
def QX(hz:Tn n zs)(hp:Tn n p)(hb:∀x∈sq,0<=x/\x<(n:Int)):num (anew zs p) (sq.map (app p))=num zs sq:=by unfold num;rw[ZaC];apply ZaO;intro o ho;obtain⟨o0,o1⟩:=hb o ho;obtain⟨a0,a1⟩:=hz.app o0 o1;show((sq.map (app p)).idxOf (app (anew zs p) (app p o)):Int)=_;rw[hz.nu hp o0 o1,QW hp hb a0 a1]
end ae
namespace ae
abbrev pw(xs:List Int)(k i:Int):Int:=if 0<=k then bw xs i k.toNat else bw (inv xs) i (-k).toNat
section
variable {n:Nat}{xs:List Int}{i:Int}
def Tn.qd(h:Tn n xs)(i0:0<=i)(i1:i<(n:Int)):∀(k m:Nat),ae.bw (inv xs) (ae.bw xs i m) k=if k<=m then ae.bw xs i (m-k)else ae.bw (inv xs) i (k-m)
 |0,m=>by rw[if_pos (ZaJ _),Nat.sub_zero];rfl
 |k+1,m=>by
  show ae.app (inv xs) (ae.bw (inv xs) (ae.bw xs i m) k)=_;rw[h.qd i0 i1 k m];by_cases hk:k<=m;rw[if_pos hk];by_cases hk1:k+1<=m;rw[if_pos hk1];obtain⟨d,hd⟩:∃d,m-k=d+1:=⟨m-k-1,by lk⟩;rw[hd,show m-(k+1)=d by lk];obtain⟨a,b⟩:=h.bw i0 i1 d;exact h.hJ a b;rw[if_neg hk1,show m-k=0 by lk,show k+1-m=1 by lk];rfl;rw[if_neg hk,if_neg ⋯,show k+1-m=(k-m)+1 by lk];rfl
def Tn.vg(h:Tn n xs)(i0:0<=i)(i1:i<(n:Int))(k m:Nat):ae.bw xs (ae.bw (inv xs) i m) k=if k<=m then ae.bw (inv xs) i (m-k)else ae.bw xs i (k-m):=by have:=h.aA.qd i0 i1 k m;rw[h.inv_inv]at this;exact this
def Tn.pw(h:Tn n xs)(i0:0<=i)(i1:i<(n:Int))(k:Int):0<=ae.pw xs k i/\ae.pw xs k i<(n:Int):=by unfold ae.pw;split;exact h.bw i0 i1 _;exact h.aA.bw i0 i1 _
def Tn.pw_add(h:Tn n xs)(i0:0<=i)(i1:i<(n:Int))(a b:Int):ae.pw xs a (ae.pw xs b i)=ae.pw xs (a+b) i:=by
 by_cases ha:0<=a<;>by_cases hb:0<=b;unfold ae.pw;rw[if_pos ha,if_pos hb,if_pos ⋯,wk]
 congr 1
 lk;have e1:ae.pw xs b i=ae.bw (inv xs) i (-b).toNat:=by unfold ae.pw;rw[if_neg hb]
 have e2:∀j,ae.pw xs a j=ae.bw xs j a.toNat:=λj=>by unfold ae.pw;rw[if_pos ha]
 rw[e1,e2,h.vg i0 i1];unfold ae.pw;split;split;rw[show(-b).toNat-a.toNat=0 by lk,show(a+b).toNat=0 by lk];rfl
 congr 1;lk
 rw[if_pos ⋯];congr 1;lk;have e1:ae.pw xs b i=ae.bw xs i b.toNat:=by unfold ae.pw;rw[if_pos hb]
 have e2:∀j,ae.pw xs a j=ae.bw (inv xs) j (-a).toNat:=λj=>by unfold ae.pw;rw[if_neg ha]
 rw[e1,e2,h.qd i0 i1];unfold ae.pw;split;rw[if_pos ⋯];congr 1;lk;rw[if_neg ⋯];congr 1;lk;unfold ae.pw;rw[if_neg ha,if_neg hb,if_neg ⋯,wk]
 congr 1
 lk
def Tn.pw_per(h:Tn n xs)(i0:0<=i)(i1:i<(n:Int))(hL:ae.bw xs i L=i)(q:Int):ae.pw xs ((L:Int)*q) i=i:=by
 have pos:∀m:Nat,ae.pw xs ((L:Int)*(m:Int)) i=i:=λm=>by
  unfold ae.pw;rw[if_pos (Int.mul_nonneg ⋯ ⋯),show((L:Int)*(m:Int)).toNat=0+L*m by rw[<- Int.natCast_mul,Zat];lk,Eo hL];rfl
 by_cases hq:0<=q;obtain⟨m,rfl⟩:∃m:Nat,q=(m:Int):=⟨q.toNat,by lk⟩;exact pos m;obtain⟨m,rfl⟩:∃m:Nat,q=-(m:Int):=⟨(-q).toNat,by lk⟩
 have:=h.pw_add i0 i1 ((L:Int) * -(m:Int)) ((L:Int)*(m:Int));rw[pos m]at this;rw[this,Int.mul_neg,Int.add_left_neg];rfl
def Tn.Ak(h:Tn n xs)(i0:0<=i)(i1:i<(n:Int))(o:QR xs k i v):v=ae.pw xs k i:=by
 obtain⟨m,_,bk,rfl⟩:=o;have m0:=Zbc k (show((m+1:Nat):Int)≠0 by lk);have e:ae.bw xs i (k % ((m+1:Nat):Int)).toNat=ae.pw xs (k % ((m+1:Nat):Int)) i:=by unfold ae.pw;rw[if_pos m0]
 rw[e];have e2:=h.pw_add i0 i1 (k % ((m+1:Nat):Int)) (((m+1:Nat):Int)*(k / ((m+1:Nat):Int)));rw[h.pw_per i0 i1 bk,Int.emod_add_mul_ediv]at e2;exact e2
end
abbrev cB(xs:List Int)(k:Int):List Int:=(upto xs.length).map (pw xs k)
def Eu(xs:List Int)(k:Int):(cB xs k).length=xs.length:=by simp[cB,qW]
def rX(s0:0<=s)(s1:s<(xs.length:Int)):app (cB xs k) s=pw xs k s:=by have e:=qX (xs:=cB xs k) s0 (by rw[Eu];exact s1);unfold cB at e;rw[Zag,En ⋯]at e;have:=Zao e;rw[ZaG s0]at this;exact this.symm
def Tn.cB(h:Tn n xs)(k:Int):Tn n (cB xs k):=by have hl:=h.length;refine Tn.vf (by rw[Eu];exact hl) (λs s0 s1=>by rw[rX s0 ⋯];exact h.pw s0 s1 k) λs t s0 s1 t0 t1 e=>?_;rw[rX s0 ⋯,rX t0 ⋯]at e;have e2:=congrArg (ae.pw xs (-k)) e;rw[h.pw_add s0 s1,h.pw_add t0 t1,Int.add_left_neg]at e2;exact e2
abbrev shr(xs ys:List Int)(k:Int):List Int:=a5 (cB xs (-k)) ys
def Tn.shr(hx:Tn n xs)(hy:Tn n ys)(k:Int):Tn n (shr xs ys k):=(hx.cB (-k)).a5 hy
def Tn.oH(hx:Tn n xs)(s0:0<=s)(s1:s<(n:Int)):ae.app (ae.shr xs ys k) s=ae.app ys (ae.pw xs (-k) s):=by have hl:=hx.length;unfold ae.shr;rw[qF s0 (by rw[Eu,hl];exact s1),rX s0 (by rw[hl];exact s1)]
def Tn.xf(hx:Tn n xs)(hy:Tn n ys)(a b:Int):ae.shr xs (ae.shr xs ys a) b=ae.shr xs ys (a+b):=by refine sL (n:=n) (hx.shr (hx.shr hy a) b).length (hx.shr hy (a+b)).length λs s0 s1=>?_;obtain⟨p0,p1⟩:=hx.pw s0 s1 (-b);rw[hx.oH s0 s1,hx.oH p0 p1,hx.oH s0 s1,hx.pw_add s0 s1,show -a + -b=-(a+b) by lk]
def Tn.vh(hx:Tn n xs)(hy:Tn n ys):ae.shr xs ys 0=ys:=by refine sL (n:=n) (hx.shr hy 0).length hy.length λs s0 s1=>?_;rw[hx.oH s0 s1];rfl
end ae
namespace ae
abbrev yl(f:Int->Int->Bool)(a:Int):List Int->Bool
 |[]=>false
 |b :: r=>(f a b).xor (yl f a r)
abbrev pairs(f:Int->Int->Bool):List Int->Bool
 |[]=>false
 |a :: r=>(yl f a r).xor (pairs f r)
abbrev tb(l:Int->Nat)(p:Int->Int)(a b:Int):Bool:=if l a=l b\/l (p a)=l (p b)then false else(decide (l a<l b)).xor (decide (l (p a)<l (p b)))
end ae
namespace ae
end ae
namespace ae
@[reducible]def Sp:=Bool×Int
abbrev bM(s:Sp):Prop:=(s.1=false->1<=s.2/\s.2<=3)/\s.2≠0
abbrev gu(a b:Sp):Int:=if a.1 then a.2+b.2 else(a.2+b.2) % 4
abbrev cj(a b:Sp):List Sp:=if gu a b=0 then[]else[(a.1,gu a b)]
abbrev bB:List Sp->Sp->List Sp
 |[],s=>[s]
 |t :: r,s=>if t.1=s.1 then cj t s ++ r else s :: t :: r
def vk(t:Sp)(r:List Sp)(s:Sp):bB (t :: r) s=if t.1=s.1 then cj t s ++ r else s :: t :: r:=rfl
abbrev gY(w:List Sp):List Sp:=w.foldl bB []
abbrev m8(s:Sp):Sp:=(s.1,if s.1 then -s.2 else 4-s.2)
abbrev eV(w:List Sp):List Sp:=(w.map m8).reverse
abbrev Pl:List Sp->Prop
 |[]=>True
 |a :: r=>bM a/\(∀b,r.head?=some b->a.1≠b.1)/\Pl r
def Pl.pr:∀{l:List Sp},Pl l->∀s∈l,bM s
 |a :: r,h,s,hs=>by
  rcases ZaF.mp hs with rfl|hs
  exact h.1;exact Pl.pr h.2.2 s hs
def QY(ha:bM a)(e:a.1=b.1):(gu a b=0/\cj a b=[])\/(bM (a.1,gu a b)/\cj a b=[(a.1,gu a b)]):=by unfold cj;by_cases h:gu a b=0;exact .inl ⟨h,by rw[if_pos h]⟩;refine .inr ⟨⟨λhf=>?_,h⟩,by rw[if_neg h]⟩;simp only at hf;unfold gu at h ⊢;simp only[hf,Za9,if_false]at h ⊢;lk
def Pl.push(h:Pl l)(hs:bM s):Pl (bB l s):=by
 cases l with
 |nil=>exact⟨hs,λb h=>(nomatch h),trivial⟩
 |cons t r =>
  rw[vk];split
  ·next e =>
   rcases QY h.1 e with⟨_,ej⟩|⟨hp,ej⟩
   ·rw[ej];exact h.2.2
   ·rw[ej];exact⟨hp,h.2.1,h.2.2⟩
  ·next e =>
   refine⟨hs,λb hb=>?_,h⟩;cases hb;exactλe'=>e e'.symm
def Pl.fold{w:List Sp}:∀{l:List Sp},Pl l->(∀s∈w,bM s)->Pl (w.foldl bB l):=by
 induction w with
 |nil=>exactλh _=>h
 |cons s w ih=>exactλh hw=>ih (h.push (hw s (Zai))) λs' h'=>hw s' (Zal _ h')
def QZ(hw:∀s∈w,bM s):Pl (gY w):=Pl.fold (l:=[]) trivial hw
def MG(h:∀b,l.head?=some b->s.1≠b.1):bB l s=s :: l:=by
 cases l with
 |nil=>rfl
 |cons t r=>rw[vk,if_neg λe=>h t rfl e.symm]
def Pl.nV:∀{l:List Sp},Pl l->gY l.reverse=l
 |[],_=>rfl
 |a :: r,h=>by
  unfold gY;rw[ZbH,Za6];show bB (gY r.reverse) a=_;rw[Pl.nV h.2.2,MG h.2.1]
def Js(u v:List Sp):gY (u ++ v)=v.foldl bB (gY u):=by unfold gY;rw[Za6]
def Ew(h:bM s):bM (m8 s):=by
 obtain⟨b,k⟩:=s;cases b with
 |true=>exact⟨nofun,λe=>h.2 (by have:-k=0:=e;show k=0;lk)⟩
 |false =>
  obtain⟨h1,h2⟩:=h.1 rfl;simp only at h1 h2;exact⟨λ_=>by show 1<=4-k/\4-k<=3;lk,by show 4-k≠0;lk⟩
def XE(hp:Pl p)(hs:bM s):bB (bB p s) (m8 s)=p:=by
 have e0:cj s (m8 s)=[]:=by
  unfold cj gu m8;cases hb:s.1<;>simp<;>lk
 cases p with
 |nil =>
  show(if s.1=(m8 s).1 then cj s (m8 s) ++ []else _)=_;rw[if_pos (show s.1=(m8 s).1 from rfl),e0];rfl
 |cons t r =>
  by_cases e:t.1=s.1;have e1:bB (t :: r) s=cj t s ++ r:=by rw[vk,if_pos e]
  rw[e1];obtain⟨tb,tk⟩:=t;obtain⟨sb,sk⟩:=s;simp only at e;subst e;have ht:=hp.1;rcases QY (b:=(tb,sk)) hp.1 rfl with⟨h0,ej⟩|⟨Al,ej⟩
  rw[ej,List.nil_append];have eb:m8 (tb,sk)=(tb,tk):=by
   unfold m8;unfold gu at h0;cases tb with
   |true=>simp only[if_true]at h0 ⊢;congr 1;lk
   |false =>
    have h1:=ht.1 rfl;have h2:=hs.1 rfl;simp only[Za9,if_false]at h0 h1 h2 ⊢
    congr 1;lk
  rw[eb];exact MG hp.2.1;rw[ej];show(if tb=(m8 (tb,sk)).1 then cj (tb,gu (tb,tk) (tb,sk)) (m8 (tb,sk)) ++ r else _)=_;rw[if_pos (show tb=(m8 (tb,sk)).1 from rfl)];have eb:gu (tb,gu (tb,tk) (tb,sk)) (m8 (tb,sk))=tk:=by
   unfold gu m8;cases tb with
   |true=>simp only[if_true];lk
   |false =>
    have h1:=ht.1 rfl;have h2:=hs.1 rfl;simp only[Za9,if_false]at h1 h2 ⊢;lk
  unfold cj;rw[eb,if_neg ht.2];rfl;have e1:bB (t :: r) s=s :: t :: r:=by rw[vk,if_neg e]
  rw[e1];show(if s.1=(m8 s).1 then cj s (m8 s) ++ (t :: r)else _)=_;rw[if_pos (show s.1=(m8 s).1 from rfl),e0];rfl
def XF:∀{p:List Sp},Pl p->(∀s∈w,bM s)->(w ++ eV w).foldl bB p=p:=by
 induction w with
 |nil=>exactλ_ _=>rfl
 |cons s w ih =>
  intro p hp hw;have e:(s :: w) ++ eV (s :: w)=s :: ((w ++ eV w) ++ [m8 s]):=by unfold eV;simp
  rw[e];show((w ++ eV w) ++ [m8 s]).foldl bB (bB p s)=p;have hs:=hw s (Zai);rw[Za6,ih (hp.push hs) λs' h'=>hw s' (Zal _ h')];exact XE hp hs
def XG(hw:∀s∈w,bM s):gY (w ++ eV w)=[]:=XF (p:=[]) trivial hw
def Q0(h:∀x∈l,x.2.natAbs<=M)(hs:s.2.natAbs<=B)(hp:bM s)(hl:Pl l):∀x∈bB l s,x.2.natAbs<=M+B:=by
 intro x hx;cases l with
 |nil=>rcases Zav.mp hx with rfl;lk
 |cons t r =>
  rw[vk]at hx;have ht:=h t (Zai);split at hx
  ·next e0 =>
   rcases Zax.mp hx with hx|hx
   ·unfold cj at hx
    split at hx
    ·exact(nomatch hx)
    ·rcases Zav.mp hx with rfl
     show(gu t s).natAbs<=_;unfold gu;split
     ·lk
     ·next hb =>
      have:=hl.1.1 (by simpa using hb);have h2:=hp.1 (by rw[<- e0];simpa using hb);lk
   ·have:=h x (Zal _ hx);lk
  ·rcases ZaF.mp hx with rfl|hx
   ·lk
   ·have:=h x hx;lk
def XH{B:Nat}{w:List Sp}:∀{l:List Sp} {M:Nat},(∀x∈l,x.2.natAbs<=M)->Pl l->(∀s∈w,bM s/\s.2.natAbs<=B)->∀x∈w.foldl bB l,x.2.natAbs<=M+w.length*B:=by
 induction w with
 |nil=>intro l M h _ _ x hx;have:=h x hx;lk
 |cons s w ih =>
  intro l M h hl hw x hx;have hs:=hw s (Zai);have:=ih (Q0 h hs.2 hs.1 hl) (hl.push hs.1) (λs' h'=>hw s' (Zal _ h')) x hx;rw[ZaE,Zch];lk
def Am(hw:∀s∈w,bM s/\s.2.natAbs<=B):∀x∈gY w,x.2.natAbs<=w.length*B:=λx hx=>by
 have:=XH (l:=[]) (M:=0) nofun trivial hw x hx;lk
def XI(l:List Sp)(s:Sp):(bB l s).length<=l.length+1:=by
 cases l with
 |nil=>exact Zad _
 |cons t r =>
  rw[vk];split;unfold cj;split<;>simp<;>lk;simp
def XJ{w:List Sp}:∀{l:List Sp},(w.foldl bB l).length<=l.length+w.length:=by
 induction w with
 |nil=>exact Zad _
 |cons s w ih =>
  intro l;have:=ih (l:=bB l s);have h2:=XI l s;rw[ZaE];exact Zap this ⋯
def Jt(w:List Sp):(gY w).length<=w.length:=by have:=XJ (w:=w) (l:=[]);simpa[gY]using this
structure T4 where (a b c d:Int)
abbrev T4.one:T4:=⟨1,0,0,1⟩
abbrev T4.qt:T4:=⟨0,-1,1,0⟩
abbrev T4.mul(x y:T4):T4:=⟨x.a*y.a+x.b*y.c,x.a*y.b+x.b*y.d,x.c*y.a+x.d*y.c,x.c*y.b+x.d*y.d⟩
abbrev T4.nW(x:T4):T4:=⟨x.d,-x.b,-x.c,x.a⟩
def T4.ext'{x y:T4}(h1:x.a=y.a)(h2:x.b=y.b)(h3:x.c=y.c)(h4:x.d=y.d):x=y:=by cases x;cases y;simp only at h1 h2 h3 h4;subst h1 h2 h3 h4;rfl
def T4.assoc(x y z:T4):(x.mul y).mul z=x.mul (y.mul z):=by apply T4.ext'<;>simp only[T4.mul,Int.add_mul,Int.mul_add,ZbF]<;>lk
def T4.one_mul(x:T4):T4.one.mul x=x:=by apply T4.ext'<;>simp[T4.mul,T4.one]
def T4.mul_one(x:T4):x.mul T4.one=x:=by apply T4.ext'<;>simp[T4.mul,T4.one]
def T4.qe(x y:T4):(x.mul y).nW=y.nW.mul x.nW:=by apply T4.ext'<;>simp only[T4.mul,T4.nW,Zbh,Int.mul_neg,Int.neg_neg,ZbQ]<;>lk
abbrev qp:Nat->T4
 |0=>T4.one
 |n+1=>T4.qt.mul (qp n)
abbrev gw(s:Sp):T4:=if s.1 then⟨1,s.2,0,1⟩else qp s.2.toNat
abbrev nX(T:T4)(w:List Sp):T4:=w.foldl (λT s=>(gw s).mul T) T
abbrev av(w:List Sp):T4:=nX T4.one w
def XM(w:List Sp):∀T:T4,nX T w=(av w).mul T:=by
 induction w with
 |nil=>exactλT=>(T4.one_mul T).symm
 |cons s w ih =>
  intro T;show nX ((gw s).mul T) w=(nX ((gw s).mul T4.one) w).mul T;rw[ih,ih,T4.mul_one,T4.assoc]
def qY(u v:List Sp):av (u ++ v)=(av v).mul (av u):=by show nX T4.one (u ++ v)=_;unfold nX;rw[Za6];exact XM v _
def tJ(u:List Sp)(s:Sp):av (u ++ [s])=(gw s).mul (av u):=by show nX T4.one (u ++ [s])=_;unfold nX;rw[Za6];rfl
def t3{k:Int}(h:1<=k/\k<=3):k=1\/k=2\/k=3:=by lk
def XQ(ht:bM t)(hs:bM s)(e:t.1=s.1):av (cj t s)=(gw s).mul (gw t):=by
 obtain⟨tb,tk⟩:=t;obtain⟨sb,sk⟩:=s;simp only at e;subst e;cases tb with
 |true =>
  have e2:(gw (true,sk)).mul (gw (true,tk))=⟨1,tk+sk,0,1⟩:=by apply T4.ext'<;>simp[T4.mul,gw]<;>lk
  rw[e2];unfold cj gu;simp only[if_true];split
  ·next h=>rw[h];rfl
  ·rw[show av [(true,tk+sk)]=(gw (true,tk+sk)).mul T4.one from rfl,T4.mul_one];rfl
 |false =>
  have h1:=ht.1 rfl;have h2:=hs.1 rfl;simp only at h1 h2;rcases t3 h1 with rfl|rfl|rfl<;>rcases t3 h2 with rfl|rfl|rfl<;>rfl
def XR(hl:Pl l)(hs:bM s):av (bB l s).reverse=(gw s).mul (av l.reverse):=by
 cases l with
 |nil=>exact tJ [] s
 |cons t r =>
  rw[vk];split
  ·next e =>
   rw[List.reverse_append,qY,ZbH,tJ,<- T4.assoc]
   congr 1
   rw[<- XQ hl.1 hs e];unfold cj;split<;>rfl
  ·rw[ZbH,tJ]
def XS:∀{l:List Sp},Pl l->(∀s∈w,bM s)->av (w.foldl bB l).reverse=nX (av l.reverse) w:=by
 induction w with
 |nil=>exactλ_ _=>rfl
 |cons s w ih =>
  intro l hl hw;have hs:=hw s (Zai);show av (w.foldl bB (bB l s)).reverse=nX ((gw s).mul (av l.reverse)) w;rw[ih (hl.push hs) λs' h'=>hw s' (Zal _ h'),XR hl hs]
def Ju(hw:∀s∈w,bM s):av (gY w).reverse=av w:=XS (l:=[]) trivial hw
def An(h:bM s):gw (m8 s)=(gw s).nW:=by
 obtain⟨b,k⟩:=s;cases b with
 |true=>apply T4.ext'<;>simp[T4.nW,gw,m8]
 |false =>
  have h1:=h.1 rfl;simp only at h1;rcases t3 h1 with rfl|rfl|rfl<;>rfl
def Ao(hw:∀s∈w,bM s):av (eV w)=(av w).nW:=by
 induction w with
 |nil=>rfl
 |cons s w ih =>
  have e:eV (s :: w)=eV w ++ [m8 s]:=by unfold eV;simp
  have e2:av (s :: w)=(av w).mul (gw s):=by
   rw[show s :: w=[s] ++ w from rfl,qY]
   congr 1
   exact(tJ [] s).trans (T4.mul_one _)
  rw[e,tJ,ih λs' h'=>hw s' (Zal _ h'),An (hw s (Zai)),e2,T4.qe]
abbrev T4.le(x:T4)(M:Nat):Prop:=x.a.natAbs<=M/\x.b.natAbs<=M/\x.c.natAbs<=M/\x.d.natAbs<=M
def Jv{a c k:Int}{M B:Nat}(ha:a.natAbs<=M)(hc:c.natAbs<=M)(hk:k.natAbs<=B):(a+k*c).natAbs<=(B+1)*M:=by
 have h1:(k*c).natAbs<=B*M:=by rw[Za2];exact Zcj hk hc
 rw[Zch];lk
def ym(h:T.le M)(hp:bM s)(hs:s.2.natAbs<=B):((gw s).mul T).le ((B+1)*M):=by
 obtain⟨b,k⟩:=s;obtain⟨ha,hb,hc,hd⟩:=h;have hM:M<=(B+1)*M:=by rw[Zch];lk
 cases b with
 |true =>
  refine⟨?_,?_,?_,?_⟩<;>simp only[T4.mul,gw,if_true,Int.one_mul,Int.zero_mul,ZbD];exact Jv ha hc hs;exact Jv hb hd hs;lk;lk
 |false =>
  have h1:=hp.1 rfl;simp only at h1;rcases t3 h1 with rfl|rfl|rfl<;>refine⟨?_,?_,?_,?_⟩<;>simp[T4.mul,gw,qp,T4.qt,T4.one]<;>lk
def Ap:∀{T:T4} {M:Nat},T.le M->(∀s∈w,bM s/\s.2.natAbs<=B)->(nX T w).le ((B+1) ^ w.length*M):=by
 induction w with
 |nil=>intro T M h _;simpa[nX]using h
 |cons s w ih =>
  intro T M h hw;have hs:=hw s (Zai);have:=ih (ym h hs.1 hs.2) λs' h'=>hw s' (Zal _ h');rw[ZaE,Nat.pow_succ,ZcF];exact this
def XT(hw:∀s∈w,bM s/\s.2.natAbs<=B)(hn:w.length<=n):(av w).le ((B+1) ^ n):=by
 have h:=Ap (T:=T4.one) (M:=1) ⟨by decide,by decide,by decide,by decide⟩ hw;have h2:(B+1) ^ w.length*1<=(B+1) ^ n:=by rw[Nat.mul_one];exact Zcy ⋯ hn
 exact⟨Zap h.1 h2,Zap h.2.1 h2,Zap h.2.2.1 h2,Zap h.2.2.2 h2⟩
end ae
namespace ae
abbrev rE:List Int->List Int->Bool
 |[],[]=>false
 |[],_ :: _=>true
 |_ :: _,[]=>false
 |x :: xs,y :: ys=>if x=y then rE xs ys else decide (x<y)
def Jw:∀xs:List Int,rE xs xs=false
 |[]=>rfl
 |x :: xs=>by unfold rE;rw[if_pos rfl];exact Jw xs
def MH:∀{xs ys zs:List Int},rE xs ys=true->rE ys zs=true->rE xs zs=true
 |[],[],_,h,_=>by cases h
 |[],_ :: _,[],_,h=>by cases h
 |[],_ :: _,_ :: _,_,_=>rfl
 |_ :: _,[],_,h,_=>by cases h
 |_ :: _,_ :: _,[],_,h=>by cases h
 |x :: xs,y :: ys,z :: zs,h1,h2=>by
  unfold rE at h1 h2 ⊢;by_cases a:x=y;rw[if_pos a]at h1;by_cases b:y=z;rw[if_pos b]at h2;rw[if_pos (a.trans b)];exact MH h1 h2;rw[if_neg b]at h2;rw[if_neg (λe=>b (a.symm.trans e))];rw[a];exact h2;rw[if_neg a]at h1;have h1:=of_decide_eq_true h1;by_cases b:y=z;rw[<- b,if_neg a];exact decide_eq_true h1;rw[if_neg b]at h2;have h2:=of_decide_eq_true h2;rw[if_neg ⋯];exact decide_eq_true ⋯
def MI:∀{xs ys:List Int},rE xs ys=false->rE ys xs=false->xs=ys
 |[],[],_,_=>rfl
 |[],_ :: _,h,_=>by cases h
 |_ :: _,[],_,h=>by cases h
 |x :: xs,y :: ys,h1,h2=>by
  unfold rE at h1 h2;by_cases a:x=y;subst a;rw[if_pos rfl]at h1 h2;rw[MI h1 h2];rw[if_neg a]at h1;rw[if_neg (Ne.symm a)]at h2;have h1:=of_decide_eq_false h1;have h2:=of_decide_eq_false h2;lk
@[reducible]def aJ:=List Int×List Int
abbrev oX(p q:aJ):Bool:=if p.1=q.1 then rE p.2 q.2 else rE p.1 q.1
def Q5(p:aJ):oX p p=false:=by unfold oX;rw[if_pos rfl];exact Jw _
def XU(h1:oX p q=true)(h2:oX q r=true):oX p r=true:=by unfold oX at h1 h2 ⊢;by_cases a:p.1=q.1;rw[if_pos a]at h1;by_cases b:q.1=r.1;rw[if_pos b]at h2;rw[if_pos (a.trans b)];exact MH h1 h2;rw[if_neg b]at h2;rw[if_neg (λe=>b (a.symm.trans e)),a];exact h2;rw[if_neg a]at h1;by_cases b:q.1=r.1;rw[<- b,if_neg a];exact h1;rw[if_neg b]at h2;have h:=MH h1 h2;rw[if_neg (λe=>by rw[e,Jw]at h;cases h)];exact h
def XW(h1:oX p q=false)(h2:oX q p=false):p=q:=by unfold oX at h1 h2;by_cases a:p.1=q.1;rw[if_pos a]at h1;rw[if_pos a.symm]at h2;exact Prod.ext a (MI h1 h2);rw[if_neg a]at h1;rw[if_neg (Ne.symm a)]at h2;exact absurd (MI h1 h2) a
abbrev oY:List aJ->aJ
 |[]=>([],[])
 |p :: l=>l.foldl (λb q=>if oX q b then q else b) p
abbrev Lst(l:List aJ)(p:aJ):Prop:=p∈l/\∀q∈l,oX q p=false
def Lst.unique(a:Lst l p)(b:Lst m q)(h:∀x,x∈l↔x∈m):p=q:=XW (b.2 p ((h p).mp a.1)) (a.2 q ((h q).mpr b.1))
def Lst.step(h:Lst l b):Lst (l ++ [q]) (if oX q b then q else b):=by
 split
 ·next hq =>
  refine⟨ZaK _ (List.mem_singleton_self _),λx hx=>?_⟩;rcases Zax.mp hx with hx|hx
  ·cases XX:oX x q with
   |false=>rfl
   |true=>have:=XU XX hq;rw[h.2 x hx]at this;cases this
  ·rw[Zav.mp hx];exact Q5 q
 ·next hq =>
  refine⟨Zbi _ h.1,λx hx=>?_⟩;rcases Zax.mp hx with hx|hx
  ·exact h.2 x hx
  ·rw[Zav.mp hx];simpa using hq
def Lst.fold:∀(l pre:List aJ) (b:aJ),Lst pre b->Lst (pre ++ l) (l.foldl (λb q=>if oX q b then q else b) b)
 |[],pre,b,h=>by rw[Zbq];exact h
 |q :: l,pre,b,h=>by
  have:=Lst.fold l (pre ++ [q]) _ (h.step (q:=q));rw[ZbG]at this;exact this
def MJ(h:l≠[]):Lst l (oY l):=by
 cases l with
 |nil=>exact absurd rfl h
 |cons p l=>exact Lst.fold l [p] p ⟨List.mem_singleton_self _,λq hq=>by rw[Zav.mp hq];exact Q5 p⟩
def XY(h:∀x,x∈l↔x∈m)(hl:l≠[]):oY l=oY m:=by
 have hm:m≠[]:=λe=>by
  obtain⟨x,hx⟩:=List.exists_mem_of_ne_nil l hl;have:=(h x).mp hx;rw[e]at this;cases this
 exact(MJ hl).unique (MJ hm) h
end ae
namespace ae
def yn(n:Nat):Tn n (upto n):=Zca _
def Jx{n:Nat}{s:Int}(s0:0<=s)(s1:s<(n:Int)):app (upto n) s=s:=by unfold app;rw[Zae,En ⋯,Option.getD_some];lk
section
variable {n:Nat}{a b c g x y:List Int}
def sN(ha:Tn n a)(hb:Tn n b)(hc:Tn n c):a5 (a5 a b) c=a5 a (a5 b c):=by refine sL (n:=n) ((ha.a5 hb).a5 hc).length (ha.a5 (hb.a5 hc)).length λs s0 s1=>?_;obtain⟨p0,p1⟩:=ha.app s0 s1;rw[qF s0 (by rw[(ha.a5 hb).length];exact s1),qF s0 (by rw[ha.length];exact s1),qF s0 (by rw[ha.length];exact s1),qF p0 (by rw[hb.length];exact p1)]
def Ey(ha:Tn n a):a5 a (inv a)=upto n:=Xs ha
def MK(ha:Tn n a):a5 (inv a) a=upto n:=Xt ha
def Aq(ha:Tn n a):a5 a (upto n)=a:=by refine sL (n:=n) (ha.a5 (yn n)).length ha.length λs s0 s1=>?_;obtain⟨p0,p1⟩:=ha.app s0 s1;rw[qF s0 (by rw[ha.length];exact s1),Jx p0 p1]
def Jy(ha:Tn n a):a5 (upto n) a=a:=by refine sL (n:=n) ((yn n).a5 ha).length ha.length λs s0 s1=>?_;rw[qF s0 (by rw[(yn n).length];exact s1),Jx s0 s1]
def Jz(ha:Tn n a)(hb:Tn n b)(h:a5 a b=upto n):inv a=b:=by
 have e:a5 (inv a) (a5 a b)=b:=by rw[<- sN ha.aA ha hb,MK ha,Jy hb]
 rw[h,Aq ha.aA]at e;exact e
def yo(ha:Tn n a)(hb:Tn n b):inv (a5 a b)=a5 (inv b) (inv a):=by refine Jz (ha.a5 hb) (hb.aA.a5 ha.aA) ?_;rw[sN ha hb (hb.aA.a5 ha.aA),<- sN hb hb.aA ha.aA,Ey hb,Jy ha.aA,Ey ha]
def Q6(ha:Tn n a)(hb:Tn n b):a5 (a5 a b) (inv b)=a:=by rw[sN ha hb hb.aA,Ey hb,Aq ha]
def ML(ha:Tn n a)(hb:Tn n b):a5 (a5 a (inv b)) b=a:=by rw[sN ha hb.aA hb,MK hb,Aq ha]
def XZ(ha:Tn n a)(hb:Tn n b):a5 a (a5 (inv a) b)=b:=by rw[<- sN ha ha.aA hb,Ey ha,Jy hb]
def Ez(hx:Tn n x)(i j:Int):a5 (cB x i) (cB x j)=cB x (i+j):=by refine sL (n:=n) ((hx.cB i).a5 (hx.cB j)).length (hx.cB (i+j)).length λs s0 s1=>?_;obtain⟨p0,p1⟩:=hx.pw s0 s1 i;have hl:=hx.length;rw[qF s0 (by rw[Eu,hl];exact s1),rX s0 (by rw[hl];exact s1),rX p0 (by rw[hl];exact p1),rX s0 (by rw[hl];exact s1),hx.pw_add s0 s1,Int.add_comm j i]
def MN(hx:Tn n x):cB x 0=upto n:=by refine sL (n:=n) (hx.cB 0).length (yn n).length λs s0 s1=>?_;rw[rX s0 (by rw[hx.length];exact s1),Jx s0 s1];rfl
def EA(hx:Tn n x):cB x 1=x:=by refine sL (n:=n) (hx.cB 1).length hx.length λs s0 s1=>?_;rw[rX s0 (by rw[hx.length];exact s1)];rfl
def MO(hx:Tn n x)(k:Int):inv (cB x k)=cB x (-k):=Jz (hx.cB k) (hx.cB (-k)) (by rw[Ez hx,Int.add_right_neg,MN hx])
def MP(hx:Tn n x):cB x (-1)=inv x:=by rw[<- MO hx,EA hx]
def Q7(hx:Tn n x)(k:Int):cB (inv x) k=cB x (-k):=by refine sL (n:=n) (hx.aA.cB k).length (hx.cB (-k)).length λs s0 s1=>?_;rw[rX s0 (by rw[hx.aA.length];exact s1),rX s0 (by rw[hx.length];exact s1)];unfold pw;by_cases h:0<=k;rw[if_pos h];by_cases h0:k=0;subst h0;rfl;rw[if_neg ⋯,show -(-k)=k by lk];rw[if_neg h,if_pos ⋯,hx.inv_inv]
def Q8(ha:Tn n a)(hb:Tn n b)(hg:Tn n g):a5 (anew a g) (anew b g)=anew (a5 a b) g:=by unfold anew;have hi:=hg.aA;rw[sN (hi.a5 ha) hg ((hi.a5 hb).a5 hg),sN hi hb hg,XZ hg (hb.a5 hg),sN hi ha (hb.a5 hg),<- sN ha hb hg,<- sN hi (ha.a5 hb) hg]
def X0(hg:Tn n g):anew (upto n) g=upto n:=by unfold anew;rw[Aq hg.aA,MK hg]
def Q9(ha:Tn n a)(hg:Tn n g):inv (anew a g)=anew (inv a) g:=Jz (ha.anew hg) (ha.aA.anew hg) (by rw[Q8 ha ha.aA hg,Ey ha,X0 hg])
def MQ(hx:Tn n x)(hg:Tn n g)(i0:0<=i)(i1:i<(n:Int)):∀k,bw (anew x g) (app g i) k=app g (bw x i k)
 |0=>rfl
 |k+1=>by
  obtain⟨p0,p1⟩:=hx.bw i0 i1 k;show app (anew x g) (bw (anew x g) (app g i) k)=app g (app x (bw x i k));rw[MQ hx hg i0 i1 k,hx.nu hg p0 p1]
def X1(hx:Tn n x)(hg:Tn n g)(i0:0<=i)(i1:i<(n:Int))(k:Int):pw (anew x g) k (app g i)=app g (pw x k i):=by unfold pw;split;exact MQ hx hg i0 i1 _;rw[Q9 hx hg];exact MQ hx.aA hg i0 i1 _
def X2(hx:Tn n x)(hg:Tn n g)(k:Int):cB (anew x g) k=anew (cB x k) g:=by refine sL (n:=n) ((hx.anew hg).cB k).length ((hx.cB k).anew hg).length λs s0 s1=>?_;obtain⟨p0,p1⟩:=hg.ou s0 s1;rw[rX s0 (by rw[(hx.anew hg).length];exact s1),(hx.cB k).jM hg s0 s1,rX p0 (by rw[hx.length];exact p1),<- X1 hx hg p0 p1,hg.cJ s0 s1]
end
abbrev Vf(n:Nat)(p:aJ):Prop:=Tn n p.1/\Tn n p.2
abbrev bC(n:Nat)(p q:aJ):Prop:=∃g,Tn n g/\q=(anew p.1 g,anew p.2 g)
abbrev Sh(k:Int)(p:aJ):aJ:=(p.1,shr p.1 p.2 k)
abbrev Qt(p:aJ):aJ:=(inv p.2,p.1)
section
variable {n:Nat}{p q r:aJ}
def Vf.sh(h:Vf n p)(k:Int):Vf n (Sh k p):=⟨h.1,h.1.shr h.2 k⟩
def Vf.qt(h:Vf n p):Vf n (Qt p):=⟨h.2.aA,h.1⟩
def bC.refl(h:Vf n p):bC n p p:=⟨upto n,yn n,by
 have e:∀a:List Int,Tn n a->anew a (upto n)=a:=λa ha=>by
  unfold anew;rw[Jz (yn n) (yn n) (Aq (yn n)),Jy ha,Aq ha]
 rw[e _ h.1,e _ h.2]⟩
def bC.symm(h:Vf n p)(a:bC n p q):bC n q p:=by obtain⟨g,hg,rfl⟩:=a;exact⟨inv g,hg.aA,by show p=(anew (anew p.1 g) (inv g),anew (anew p.2 g) (inv g));rw[h.1.nU hg,h.2.nU hg]⟩
def bC.trans(h:Vf n p)(a:bC n p q)(b:bC n q r):bC n p r:=by obtain⟨g,hg,rfl⟩:=a;obtain⟨f,hf,rfl⟩:=b;exact⟨a5 g f,hg.a5 hf,by show(anew (anew p.1 g) f,anew (anew p.2 g) f)=_;rw[h.1.nT hg hf,h.2.nT hg hf]⟩
def bC.sh(h:Vf n p)(a:bC n p q)(k:Int):bC n (Sh k p) (Sh k q):=by obtain⟨g,hg,rfl⟩:=a;refine⟨g,hg,?_⟩;show(anew p.1 g,a5 (cB (anew p.1 g) (-k)) (anew p.2 g))=(anew p.1 g,anew (a5 (cB p.1 (-k)) p.2) g);rw[X2 h.1 hg,Q8 (h.1.cB _) h.2 hg]
def bC.qt(h:Vf n p)(a:bC n p q):bC n (Qt p) (Qt q):=by obtain⟨g,hg,rfl⟩:=a;refine⟨g,hg,?_⟩;show(inv (anew p.2 g),anew p.1 g)=(anew (inv p.2) g,anew p.1 g);rw[Q9 h.2 hg]
def Ar(h:Vf n p)(j k:Int):Sh k (Sh j p)=Sh (j+k) p:=by show(p.1,shr p.1 (shr p.1 p.2 j) k)=(p.1,shr p.1 p.2 (j+k));rw[h.1.xf h.2]
def tK(h:Vf n p):Sh 0 p=p:=by show(p.1,shr p.1 p.2 0)=p;rw[h.1.vh h.2]
abbrev Q2(p:aJ):aJ:=(inv p.1,inv p.2)
def EB(p:aJ):Qt (Qt p)=Q2 p:=rfl
def MR(h:Vf n p):Q2 (Q2 p)=p:=by show(inv (inv p.1),inv (inv p.2))=p;rw[h.1.inv_inv,h.2.inv_inv]
def Vf.q2(h:Vf n p):Vf n (Q2 p):=⟨h.1.aA,h.2.aA⟩
def bC.q2(h:Vf n p)(a:bC n p q):bC n (Q2 p) (Q2 q):=bC.qt h.qt (bC.qt h a)
def yp(h:Vf n p)(k:Int):bC n (Q2 (Sh k p)) (Sh k (Q2 p)):=by
 have hx:=h.1;have hy:=h.2;refine⟨cB p.1 (-k),hx.cB _,?_⟩;show(inv p.1,a5 (cB (inv p.1) (-k)) (inv p.2))=(anew (inv p.1) (cB p.1 (-k)),anew (inv (a5 (cB p.1 (-k)) p.2)) (cB p.1 (-k)));have e1:anew (inv p.1) (cB p.1 (-k))=inv p.1:=by
  unfold anew;rw[MO hx,<- MP hx,Ez hx,Ez hx]
  congr 1;lk
 have e2:anew (inv (a5 (cB p.1 (-k)) p.2)) (cB p.1 (-k))=a5 (cB (inv p.1) (-k)) (inv p.2):=by
  unfold anew;rw[yo (hx.cB _) hy,Q7 hx,MO hx,sN (hx.cB _) (hy.aA.a5 (hx.cB _)) (hx.cB _),sN hy.aA (hx.cB _) (hx.cB _),Ez hx,show - -k + -k=0 by lk,MN hx,Aq hy.aA]
 rw[e1,e2]
def EC(h:Vf n p):bC n (Qt (Sh 1 (Qt p))) (Sh (-1) (Qt (Sh (-1) p))):=by
 have hx:=h.1;have hy:=h.2;have l:Qt (Sh 1 (Qt p))=(a5 (inv p.1) (inv p.2),inv p.2):=by
  show(inv (a5 (cB (inv p.2) (-1)) p.1),inv p.2)=_;rw[Q7 hy,show -(-1:Int)=1 by lk,EA hy,yo hy hx]
 have r:Sh (-1) (Qt (Sh (-1) p))=(a5 (inv p.2) (inv p.1),inv p.2):=by
  show(inv (a5 (cB p.1 (-(-1))) p.2),a5 (cB (inv (a5 (cB p.1 (-(-1))) p.2)) (-(-1))) p.1)=_;have hf:=hx.a5 hy;rw[show -(-1:Int)=1 by lk,EA hx,EA hf.aA,yo hx hy,ML hy.aA hx]
 refine⟨p.2,hy,?_⟩;rw[l,r];show(a5 (inv p.2) (inv p.1),inv p.2)=(a5 (a5 (inv p.2) (a5 (inv p.1) (inv p.2))) p.2,a5 (a5 (inv p.2) (inv p.2)) p.2);rw[<- sN hy.aA hx.aA hy.aA,ML (hy.aA.a5 hx.aA) hy,ML hy.aA hy]
def As(h:Vf n p):bC n (Qt (Sh (-1) (Qt p))) (Q2 (Sh 1 (Qt (Sh 1 p)))):=by
 have hx:=h.1;have hy:=h.2;have hu:=hx.aA.a5 hy;have l:Qt (Sh (-1) (Qt p))=(a5 (inv p.1) p.2,inv p.2):=by
  show(inv (a5 (cB (inv p.2) (-(-1))) p.1),inv p.2)=_;rw[show -(-1:Int)=1 by lk,EA hy.aA,yo hy.aA hx,hy.inv_inv]
 have r:Q2 (Sh 1 (Qt (Sh 1 p)))=(a5 (inv p.1) p.2,a5 (inv p.1) (a5 (inv p.2) p.1)):=by
  show(inv (inv (a5 (cB p.1 (-1)) p.2)),inv (a5 (cB (inv (a5 (cB p.1 (-1)) p.2)) (-1)) p.1))=_;rw[MP hx,MP hu.aA,hu.inv_inv,yo hu hx,yo hx.aA hy,hx.inv_inv]
 refine⟨a5 (inv p.2) p.1,hy.aA.a5 hx,?_⟩;rw[l,r];show(a5 (inv p.1) p.2,a5 (inv p.1) (a5 (inv p.2) p.1))=(a5 (a5 (inv (a5 (inv p.2) p.1)) (a5 (inv p.1) p.2)) (a5 (inv p.2) p.1),a5 (a5 (inv (a5 (inv p.2) p.1)) (inv p.2)) (a5 (inv p.2) p.1));have eg:inv (a5 (inv p.2) p.1)=a5 (inv p.1) p.2:=by rw[yo hy.aA hx,hy.inv_inv]
 have X3:a5 (inv p.2) p.1=inv (a5 (inv p.1) p.2):=by rw[yo hx.aA hy,hx.inv_inv]
 rw[eg];have e1:a5 (a5 (a5 (inv p.1) p.2) (a5 (inv p.1) p.2)) (a5 (inv p.2) p.1)=a5 (inv p.1) p.2:=by rw[X3,Q6 hu hu]
 have e2:a5 (a5 (a5 (inv p.1) p.2) (inv p.2)) (a5 (inv p.2) p.1)=a5 (inv p.1) (a5 (inv p.2) p.1):=by rw[Q6 hx.aA hy]
 rw[e1,e2]
end
abbrev act:Int->List Int->aJ->aJ
 |k,[],p=>Sh k p
 |k,j :: ks,p=>act j ks (Qt (Sh k p))
abbrev tS(k:Int):T4:=⟨1,k,0,1⟩
abbrev jX(k:Int):T4:=⟨0,-1,1,k⟩
abbrev jN:Int->List Int->T4
 |k,[]=>tS k
 |k,j :: ks=>(jN j ks).mul (jX k)
abbrev mz(e:Bool)(M:T4):T4:=if e then⟨-M.a,-M.b,-M.c,-M.d⟩else M
abbrev qG(e:Bool)(p:aJ):aJ:=if e then Q2 p else p
def ED(e f:Bool)(M:T4):mz e (mz f M)=mz (e.xor f) M:=by cases e<;>cases f<;>simp[mz]
def EE(e:Bool)(M N:T4):(mz e M).mul N=mz e (M.mul N):=by cases e;rfl;unfold mz T4.mul;simp only[if_true];congr 1<;>grind
section
variable {n:Nat}{p q r:aJ}
def Vf.act:∀{ks:List Int} {k:Int} {p:aJ},Vf n p->Vf n (ae.act k ks p)
 |[],k,p,h=>h.sh k
 |j :: ks,k,p,h=>Vf.act (ks:=ks) (h.sh k).qt
def bC.act:∀{ks:List Int} {k:Int} {p q:aJ},Vf n p->bC n p q->bC n (ae.act k ks p) (ae.act k ks q)
 |[],k,p,q,h,a=>bC.sh h a k
 |j :: ks,k,p,q,h,a=>bC.act (ks:=ks) (h.sh k).qt (bC.qt (h.sh k) (bC.sh h a k))
def bC.qG(h:Vf n p)(a:bC n p q)(e:Bool):bC n (ae.qG e p) (ae.qG e q):=by cases e;exact a;exact bC.q2 h a
def JA(h:Vf n p)(e f:Bool):qG e (qG f p)=qG (e.xor f) p:=by cases e<;>cases f;rfl;rfl;rfl;exact MR h
def EF:∀{ks:List Int} {k:Int} {p:aJ},Vf n p->bC n (act k ks (Q2 p)) (Q2 (act k ks p))
 |[],k,p,h=>bC.symm (h.sh k).q2 (yp h k)
 |j :: ks,k,p,h=>by
  have h1:bC n (Qt (Sh k (Q2 p))) (Qt (Q2 (Sh k p))):=bC.qt (h.q2.sh k) (bC.symm (h.sh k).q2 (yp h k));have h2:=bC.act (ks:=ks) (k:=j) ((h.q2.sh k).qt) h1;have h3:=EF (ks:=ks) (k:=j) (h.sh k).qt;exact bC.trans (Vf.act (ks:=j :: ks) (k:=k) h.q2) h2 h3
def JB(h:Vf n p):act k ks (Sh j p)=act (j+k) ks p:=by
 cases ks with
 |nil=>exact Ar h j k
 |cons i ks=>show act i ks (Qt (Sh k (Sh j p)))=act i ks (Qt (Sh (j+k) p));rw[Ar h]
def Ra(h:Vf n p):act k ks (Qt p)=act 0 (k :: ks) p:=by show _=act k ks (Qt (Sh 0 p));rw[tK h]
def X4(hj:j=0\/j=1\/j=-1):∃(k':Int) (ks':List Int) (f:Bool),ks'.length<ks.length+2/\jN a (j :: b :: ks)=mz f (jN k' ks')/\∀{n:Nat} {p:aJ},Vf n p->bC n (act a (j :: b :: ks) p) (qG f (act k' ks' p)):=by
 rcases hj with rfl|rfl|rfl
 refine⟨a+b,ks,true,by lk,?_,λ{n p} h=>?_⟩;cases ks with
 |nil=>simp[jN,mz,T4.mul,tS,jX];lk
 |cons i ks =>
  show(((jN i ks).mul (jX b)).mul (jX 0)).mul (jX a)=mz true ((jN i ks).mul (jX (a+b)));rw[T4.assoc,T4.assoc];have:(jX b).mul ((jX 0).mul (jX a))=mz true (jX (a+b)):=by simp[mz,T4.mul,jX];lk
  rw[this];unfold mz T4.mul;simp only[if_true];congr 1<;>grind
 show bC n (act b ks (Qt (Sh 0 (Qt (Sh a p))))) (Q2 (act (a+b) ks p));rw[tK (h.sh a).qt,EB,<- JB h];exact EF (h.sh a);refine⟨a-1,(b-1) :: ks,false,by simp,?_,λ{n p} h=>?_⟩;cases ks with
 |nil=>simp[jN,mz,T4.mul,tS,jX];refine⟨?_,?_⟩<;>grind
 |cons i ks =>
  show(((jN i ks).mul (jX b)).mul (jX 1)).mul (jX a)=((jN i ks).mul (jX (b-1))).mul (jX (a-1));rw[T4.assoc,T4.assoc,T4.assoc];have:(jX b).mul ((jX 1).mul (jX a))=(jX (b-1)).mul (jX (a-1)):=by simp[T4.mul,jX];refine⟨?_,?_,?_⟩<;>grind
  rw[this]
 show bC n (act b ks (Qt (Sh 1 (Qt (Sh a p))))) (act (b-1) ks (Qt (Sh (a-1) p)));have h1:=bC.act (ks:=ks) (k:=b) ((h.sh a).qt.sh 1).qt (EC (h.sh a));rw[JB ((h.sh a).sh (-1)).qt,Ar h,show -1+b=b-1 by lk,show a + -1=a-1 by lk]at h1;exact h1;refine⟨a+1,(b+1) :: ks,true,by simp,?_,λ{n p} h=>?_⟩;cases ks with
 |nil=>simp[jN,mz,T4.mul,tS,jX];refine⟨?_,?_⟩<;>grind
 |cons i ks =>
  show(((jN i ks).mul (jX b)).mul (jX (-1))).mul (jX a)=mz true (((jN i ks).mul (jX (b+1))).mul (jX (a+1)));rw[T4.assoc,T4.assoc,T4.assoc];have:(jX b).mul ((jX (-1)).mul (jX a))=mz true ((jX (b+1)).mul (jX (a+1))):=by simp[mz,T4.mul,jX];refine⟨?_,?_,?_⟩<;>grind
  rw[this];unfold mz T4.mul;simp only[if_true];congr 1<;>grind
 show bC n (act b ks (Qt (Sh (-1) (Qt (Sh a p))))) (Q2 (act (b+1) ks (Qt (Sh (a+1) p))));have h1:=bC.act (ks:=ks) (k:=b) ((h.sh a).qt.sh (-1)).qt (As (h.sh a));have h2:=EF (ks:=ks) (k:=b) (((h.sh a).sh 1).qt.sh 1);rw[JB ((h.sh a).sh 1).qt,Ar h,show 1+b=b+1 by lk]at h2;have h3:=bC.trans (Vf.act (ks:=ks) (k:=b) ((h.sh a).qt.sh (-1)).qt) h1 (by rw[Ar h]at *;exact h2);exact h3
abbrev big:List Int->Prop
 |[]=>True
 |[_]=>True
 |j :: b :: ks=>(2<=j\/j<=-2)/\big (b :: ks)
def Rb:∀(ks:List Int) (k:Int),big ks\/∃(k':Int) (ks':List Int) (f:Bool),ks'.length<ks.length/\jN k ks=mz f (jN k' ks')/\∀{n:Nat} {p:aJ},Vf n p->bC n (act k ks p) (qG f (act k' ks' p))
 |[],_=>.inl trivial
 |[_],_=>.inl trivial
 |j :: b :: ks,k=>by
  by_cases hj:j=0\/j=1\/j=-1;obtain⟨k',ks',f,hl,hm,ha⟩:=X4 (a:=k) (b:=b) (ks:=ks) hj;exact .inr ⟨k',ks',f,by simpa using hl,hm,ha⟩;rcases Rb (b :: ks) j with h|⟨k',ks',f,hl,hm,ha⟩
  exact .inl ⟨by lk,h⟩;refine .inr ⟨k,k' :: ks',f,by simpa using hl,?_,λ{n p} h=>?_⟩;show(jN j (b :: ks)).mul (jX k)=mz f ((jN k' ks').mul (jX k));rw[hm,EE];exact ha (h.sh k).qt
def Rc:∀(ks:List Int) (k:Int),big ks->(ks=[]\/2<=k\/k<=-2)->(jN k ks).c.natAbs<(jN k ks).d.natAbs
 |[],k,_,_=>by show(0:Int).natAbs<(1:Int).natAbs;decide
 |j :: ks,k,h,hk=>by
  have hk:2<=k\/k<=-2:=by rcases hk with hk|hk;cases hk;exact hk
  have hj:ks=[]\/2<=j\/j<=-2:=by
   cases ks with
   |nil=>exact .inl rfl
   |cons b ks=>exact .inr h.1
  have hb:big ks:=by
   cases ks with
   |nil=>trivial
   |cons b ks=>exact h.2
  have ih:=Rc ks j hb hj;show((jN j ks).c*0+(jN j ks).d*1).natAbs<((jN j ks).c * -1+(jN j ks).d*k).natAbs;generalize (jN j ks).c=c at ih;generalize (jN j ks).d=d at ih;rw[Int.mul_zero,ZbD,Int.mul_one];have e:(d*k).natAbs=d.natAbs*k.natAbs:=Za2 d k;have e2:d.natAbs*2<=d.natAbs*k.natAbs:=Nat.mul_le_mul_left _ ⋯;lk
def EG(h:big ks)(hn:ks≠[]):(jN k ks).c≠0:=by
 cases ks with
 |nil=>exact absurd rfl hn
 |cons j ks =>
  have hj:ks=[]\/2<=j\/j<=-2:=by
   cases ks with
   |nil=>exact .inl rfl
   |cons b ks=>exact .inr h.1
  have hb:big ks:=by
   cases ks with
   |nil=>trivial
   |cons b ks=>exact h.2
  have ih:=Rc ks j hb hj;show(jN j ks).c*0+(jN j ks).d*1≠0;lk
def MS:∀(m:Nat) (ks:List Int) (k:Int),ks.length<=m->∀(e:Bool),jN k ks=mz e T4.one->∀{n:Nat} {p:aJ},Vf n p->bC n (act k ks p) (qG e p):=by
 intro m
 induction m with
 |zero =>
  intro ks k hl e hm n p h;have:ks=[]:=Za5 ⋯;subst this;have hm:(⟨1,k,0,1⟩:T4)=mz e T4.one:=hm;cases e with
  |false =>
   have hk:k=0:=congrArg T4.b hm;subst hk;show bC n (Sh 0 p) p;rw[tK h];exact bC.refl h
  |true=>exact absurd (congrArg T4.a hm) (show ¬(1:Int)=-1 by decide)
 |succ m ih =>
  intro ks k hl e hm n p h;by_cases hn:ks=[];subst hn;exact ih [] k (ZaJ _) e hm h;rcases Rb ks k with hb|⟨k',ks',f,hl',hm',ha⟩
  have:=EG (k:=k) hb hn
  rw[hm]at this;exact absurd (by cases e<;>rfl) this;have hm2:jN k' ks'=mz (f.xor e) T4.one:=by
   have:mz f (jN k ks)=jN k' ks':=by rw[hm',ED,ZcG];rfl
   rw[<- this,hm,ED]
  have h1:=ih ks' k' ⋯ (f.xor e) hm2 h;have h2:=bC.trans h.act (ha h) (bC.qG h.act h1 f);rw[JA h,<- Bool.xor_assoc,ZcG,Bool.false_xor]at h2;exact h2
end
abbrev pN:Nat->aJ->aJ
 |0,p=>p
 |j+1,p=>Qt (pN j p)
abbrev stM(p:aJ)(s:Sp):aJ:=if s.1=true then Sh s.2 p else pN s.2.toNat p
abbrev df(p:aJ)(w:List Sp):aJ:=w.foldl stM p
section
variable {n:Nat}{p q:aJ}
def Vf.pN(h:Vf n p):∀j,Vf n (ae.pN j p)
 |0=>h
 |j+1=>(Vf.pN h j).qt
def Vf.st(h:Vf n p)(s:Sp):Vf n (stM p s):=by unfold stM;split;exact h.sh _;exact h.pN _
def Vf.ld:∀{w:List Sp} {p:aJ},Vf n p->Vf n (df p w)
 |[],_,h=>h
 |s :: w,p,h=>Vf.ld (w:=w) (h.st s)
def bC.pN(h:Vf n p)(a:bC n p q):∀j,bC n (ae.pN j p) (ae.pN j q)
 |0=>a
 |j+1=>bC.qt (h.pN j) (bC.pN h a j)
def bC.st(h:Vf n p)(a:bC n p q)(s:Sp):bC n (stM p s) (stM q s):=by unfold stM;split;exact bC.sh h a _;exact bC.pN h a _
def bC.ld:∀{w:List Sp} {p q:aJ},Vf n p->bC n p q->bC n (df p w) (df q w)
 |[],_,_,_,a=>a
 |s :: w,p,q,h,a=>bC.ld (w:=w) (h.st s) (bC.st h a s)
def Au(p:aJ)(u v:List Sp):df p (u ++ v)=df (df p u) v:=by unfold df;rw[Za6]
end
def MT(s:Sp)(w:List Sp):av (s :: w)=(av w).mul (gw s):=by have:=qY [s] w;rw[show av [s]=(gw s).mul T4.one from rfl,T4.mul_one]at this;exact this
def Rf(e:Bool)(M N:T4):M.mul (mz e N)=mz e (M.mul N):=by cases e;rfl;unfold mz T4.mul;simp only[if_true];congr 1<;>grind
def Av(ks:List Int)(j k:Int):(jN k ks).mul (tS j)=jN (j+k) ks:=by
 cases ks with
 |nil=>simp[jN,T4.mul,tS]
 |cons i ks =>
  show((jN i ks).mul (jX k)).mul (tS j)=(jN i ks).mul (jX (j+k));rw[T4.assoc]
  congr 1
  simp[T4.mul,jX,tS]
def Aw(ks:List Int)(k:Int):(jN k ks).mul T4.qt=jN 0 (k :: ks):=rfl
def Rg:∀{w:List Sp},(∀s∈w,bM s)->∃(k:Int) (ks:List Int) (f:Bool),av w=mz f (jN k ks)/\∀{n:Nat} {p:aJ},Vf n p->bC n (df p w) (qG f (act k ks p))
 |[],_=>⟨0,[],false,rfl,λ{n p} h=>by show bC n p (Sh 0 p);rw[tK h];exact bC.refl h⟩
 |s :: w,hw=>by
  obtain⟨k,ks,f,hm,ha⟩:=Rg (w:=w) λx hx=>hw x (Zal _ hx);have hs:=hw s Zai;obtain⟨b,j⟩:=s;rw[MT,hm];cases b with
  |true =>
   refine⟨j+k,ks,f,?_,λ{n p} h=>?_⟩;rw[EE];congr 1;exact Av ks j k
   have:=ha (h.sh j)
   rw[JB h]at this;exact this
  |false =>
   have c:j=1\/j=2\/j=3:=t3 (hs.1 rfl);rcases c with rfl|rfl|rfl
   refine⟨0,k :: ks,f,?_,λ{n p} h=>?_⟩;rw[EE];congr 1
   have:=ha h.qt
   rw[Ra h]at this;exact this;refine⟨k,ks,!f,?_,λ{n p} h=>?_⟩;rw[EE,show gw (false,2)=mz true T4.one from rfl,Rf,T4.mul_one,ED];cases f<;>rfl;have h1:=ha h.q2;have h2:=bC.trans (Vf.ld (w:=w) h.q2) h1 (bC.qG (Vf.act h.q2) (EF h) f);have e:qG f (Q2 (act k ks p))=qG (!f) (act k ks p):=by
    have:=JA (p:=act k ks p) h.act f true;rw[Bool.xor_true]at this;exact this
   rw[e]at h2;exact h2;refine⟨0,k :: ks,!f,?_,λ{n p} h=>?_⟩;have e3:gw (false,3)=mz true T4.qt:=rfl;rw[EE,e3,Rf,ED,Aw];cases f<;>rfl;have h1:=ha (p:=Q2 (Qt p)) h.qt.q2;have h2:=bC.trans (Vf.ld (w:=w) h.qt.q2) h1 (bC.qG (Vf.act h.qt.q2) (EF h.qt) f);have e:qG f (Q2 (act k ks (Qt p)))=qG (!f) (act 0 (k :: ks) p):=by
    have:=JA (p:=act k ks (Qt p)) h.qt.act f true;rw[Bool.xor_true]at this;rw[<- Ra h];exact this
   rw[e]at h2;exact h2
def Rh(hw:∀s∈w,bM s)(h1:av w=T4.one)(h:Vf n p):bC n (df p w) p:=by
 obtain⟨k,ks,f,hm,ha⟩:=Rg hw;have e:jN k ks=mz f T4.one:=by
  have:mz f (av w)=jN k ks:=by rw[hm,ED,ZcG];rfl
  rw[<- this,h1]
 have h2:=MS ks.length ks k (Zad _) f e h;have h3:=bC.trans (Vf.ld h) (ha h) (bC.qG h.act h2 f);rw[JA h,ZcG]at h3;exact h3
def xg(hw:∀s∈w,bM s):∀s∈eV w,bM s:=λs hs=>by
 unfold eV at hs;obtain⟨t,ht,rfl⟩:=Zaw.mp (ZaR.mp hs);exact Ew (hw t ht)
def Ri(hw:∀s∈w,bM s):av (w ++ eV w)=T4.one:=by
 have hp:∀s∈w ++ eV w,bM s:=λs hs=>by
  rcases Zax.mp hs with hs|hs
  exact hw s hs;exact xg hw s hs
 rw[<- Ju hp,XG hw];rfl
def xh(hw:∀s∈w,bM s):(av w).a*(av w).d-(av w).b*(av w).c=1:=by have:=Ri hw;rw[qY,Ao hw]at this;have h:=congrArg T4.a this;have h:(av w).d*(av w).a + -(av w).b*(av w).c=1:=h;rw[ZbQ (av w).d,Zbh]at h;lk
def CI{M:T4}(h:M.a*M.d-M.b*M.c=1):M.mul M.nW=T4.one/\M.nW.mul M=T4.one:=by constructor<;>(apply T4.ext'<;>simp[T4.mul,T4.nW,T4.one]<;>grind)
def MU(hu:∀s∈u,bM s)(hw:∀s∈w,bM s)(e:av u=av w)(h:Vf n p):bC n (df p u) (df p w):=by
 have hb:=xg hw
 have h1:bC n (df p (u ++ eV w)) p:=Rh (λs hs=>by
  rcases Zax.mp hs with hs|hs
  exact hu s hs
  exact hb s hs) (by rw[qY,e,<- qY];exact Ri hw) h
 rw[Au]at h1;have h2:=bC.ld (w:=w) (Vf.ld (Vf.ld h)) h1;rw[<- Au]at h2
 have h3:bC n (df (df p u) (eV w ++ w)) (df p u):=Rh (λs hs=>by
  rcases Zax.mp hs with hs|hs
  exact hb s hs
  exact hw s hs) (by rw[qY,Ao hw];exact(CI (xh hw)).1) (Vf.ld h)
 exact bC.trans (Vf.ld h) (bC.symm (Vf.ld (Vf.ld h)) h3) h2
abbrev rY(p:aJ)(n:Nat)(s:Int):aJ:=(num p.1 (bf p.1 p.2 s n),num p.2 (bf p.1 p.2 s n))
abbrev aU(n:Nat)(p:aJ):aJ:=oY ((upto n).map (rY p n))
def yq(n0:0<n)(h:Vf n p)(a:bC n p q):aU n p=aU n q:=by
 obtain⟨g,hg,rfl⟩:=a;have key:∀s:Int,0<=s->s<(n:Int)->rY (anew p.1 g,anew p.2 g) n (app g s)=rY p n s:=λs s0 s1=>by
  show(num (anew p.1 g) (bf (anew p.1 g) (anew p.2 g) (app g s) n),num (anew p.2 g) (bf (anew p.1 g) (anew p.2 g) (app g s) n))=_;have hb:=tI h.1 h.2 s0 s1 n;rw[MF h.1 h.2 hg s0 s1 n,QX h.1 hg hb,QX h.2 hg hb];rfl
 refine XY (λx=>?_) (λe=>?_);constructor;intro hx;obtain⟨s,hs,rfl⟩:=Zaw.mp hx;obtain⟨s0,s1⟩:=oG.mp hs;exact Zaw.mpr ⟨app g s,oG.mpr (hg.app s0 s1),key s s0 s1⟩;intro hx;obtain⟨t,ht,rfl⟩:=Zaw.mp hx;obtain⟨t0,t1⟩:=oG.mp ht;obtain⟨p0,p1⟩:=hg.ou t0 t1;refine Zaw.mpr ⟨app (inv g) t,oG.mpr ⟨p0,p1⟩,?_⟩;have:=key (app (inv g) t) p0 p1;rw[hg.cJ t0 t1]at this;exact this.symm
 have:=congrArg List.length e
 rw[Zaa,qW]at this;simp at this;lk
end ae
namespace ae
section
variable {n:Nat}{p q:aJ}{g h:List Int}{s t:Int}
structure Wh(n:Nat)(p:aJ):Prop where
 v:Vf n p
 all:∀x:Int,0<=x->x<(n:Int)->kS p.1 p.2 x
def Wh.bf(w:Wh n p)(s0:0<=s)(s1:s<(n:Int)):Tn n (bf p.1 p.2 s n):=Jr w.v.1 w.v.2 s0 s1 w.all
def Rj(xs ys:List Int)(s:Int)(n:Nat):app (bf xs ys s n) 0=s:=by have:=Ai xs ys s 0 n;rw[ZbB]at this;obtain⟨t,e⟩:=this;rw[<- e];rfl
abbrev gF(p q:aJ)(n:Nat)(s t:Int):List Int:=a5 (inv (bf p.1 p.2 s n)) (bf q.1 q.2 t n)
abbrev Cg(n:Nat)(p q:aJ)(g:List Int):Prop:=Tn n g/\q=(anew p.1 g,anew p.2 g)
def EH(wp:Wh n p)(wq:Wh n q)(s0:0<=s)(s1:s<(n:Int))(t0:0<=t)(t1:t<(n:Int))(e:rY p n s=rY q n t):Cg n p q (gF p q n s t)/\app (gF p q n s t) s=t:=by
 have tb:=wp.bf s0 s1;have tc:=wq.bf t0 t1;have n0:0<n:=by lk
 refine⟨⟨tb.aA.a5 tc,?_⟩,?_⟩;unfold rY at e;have e1:=congrArg Prod.fst e;have e2:=congrArg Prod.snd e;simp only at e1 e2;rw[<- yk wp.v.1 tb,<- yk wq.v.1 tc]at e1;rw[<- yk wp.v.2 tb,<- yk wq.v.2 tc]at e2;have go:∀{a b:List Int},Tn n a->Tn n b->anew a (inv (bf p.1 p.2 s n))=anew b (inv (bf q.1 q.2 t n))->b=anew a (gF p q n s t):=λ{a b} ta tb' e=>by
  unfold gF;rw[<- Tn.nT ta tb.aA tc,e];have:=Tn.nU tb' tc.aA;rw[tc.inv_inv]at this;exact this.symm
 exact Prod.ext (go wp.v.1 wq.v.1 e1) (go wp.v.2 wq.v.2 e2);unfold gF;rw[qF s0 (by rw[Em,tb.length];exact s1)];have:app (inv (bf p.1 p.2 s n)) s=0:=by
  have:=tb.hJ (i:=0) ∅ ⋯;rw[Rj]at this;exact this
 rw[this,Rj]
def JC(xs ys:List Int):∀k,∀y∈bf xs ys 0 k,kS xs ys y
 |0,y,hy=>by rw[Zav.mp (show y∈[(0:Int)]from hy)];exact .zero
 |k+1,y,hy=>by
  have hy':y∈(match (bf xs ys 0 k)[k]? with|some x=>visit xs ys (bf xs ys 0 k) x|none=>bf xs ys 0 k):=hy;split at hy'
  ·next z hz =>
   have yr:=JC xs ys k z (Zaj hz);rcases sM.mp hy' with hy'|rfl
   ·rcases sM.mp hy' with hy'|rfl
    ·exact JC xs ys k y hy'
    ·exact yr.r
   ·exact yr.u
  ·exact JC xs ys k y hy'
def yt(w:Wh n p)(v:Vf n q)(n0:0<n)(h:∀F:List Int,F.Nodup->(∀x∈F,0<=x/\x<(n:Int))->Cl q.1 q.2 F->Cl p.1 p.2 F):Wh n q:=by refine⟨v,λx x0 x1=>JC q.1 q.2 n x ?_⟩;have c:=h (bf q.1 q.2 0 n) (Aj _ _ _ _) (tI v.1 v.2 ∅ ⋯ n) (ME v.1 v.2 ∅ ⋯);refine c.all ?_ (w.all x x0 x1);have:=Ai q.1 q.2 0 0 n;rw[ZbB]at this;exact this.subset (show(0:Int)∈[(0:Int)] by simp)
def Rm{zs F:List Int}(hz:Tn n zs)(nd:F.Nodup)(hb:∀x∈F,0<=x/\x<(n:Int))(hc:∀x∈F,app zs x∈F):∀x∈F,app (inv zs) x∈F:=λx hx=>by
 obtain⟨x0,x1⟩:=hb x hx;obtain⟨a0,a1⟩:=hz.ou x0 x1;exact Et hz nd hb hc a0 a1 (by rw[hz.cJ x0 x1];exact hx)
def MV{zs F:List Int}(hc:∀x∈F,app zs x∈F){x:Int}(hx:x∈F):∀k,bw zs x k∈F
 |0=>hx
 |k+1=>hc _ (MV hc hx k)
def EI{zs F:List Int}(hz:Tn n zs)(nd:F.Nodup)(hb:∀x∈F,0<=x/\x<(n:Int))(hc:∀x∈F,app zs x∈F)(k:Int){x:Int}(hx:x∈F):pw zs k x∈F:=by unfold pw;split;exact MV hc hx _;exact MV (Rm hz nd hb hc) hx _
def Wh.sh(w:Wh n p)(n0:0<n)(k:Int):Wh n (Sh k p):=by
 refine yt w (w.v.sh k) n0 λF nd hb hc x hx=>⟨(hc x hx).1,?_⟩;obtain⟨x0,x1⟩:=hb x hx;have h1:∀x∈F,app p.1 x∈F:=λx hx=>(hc x hx).1;have hy:=EI w.v.1 nd hb h1 k hx;have:=(hc _ hy).2;obtain⟨y0,y1⟩:=hb _ hy;have e:app (Sh k p).2 (pw p.1 k x)=app p.2 x:=by
  show app (shr p.1 p.2 k) (pw p.1 k x)=_;unfold shr;have hlen:(cB p.1 (-k)).length=n:=(w.v.1.cB (-k)).length;rw[qF y0 (by rw[hlen];exact y1)]
  congr 1
  have e3:=Ez w.v.1 k (-k);rw[Int.add_right_neg,MN w.v.1]at e3;have e4:app (a5 (cB p.1 k) (cB p.1 (-k))) x=app (upto n) x:=by rw[e3]
  rw[Jx x0 x1,qF x0 (by rw[(w.v.1.cB k).length];exact x1)]at e4;have e5:app (cB p.1 k) x=pw p.1 k x:=rX x0 (by rw[w.v.1.length];exact x1);rw[e5]at e4;exact e4
 rw[e]at this;exact this
def Wh.qt(w:Wh n p)(n0:0<n):Wh n (Qt p):=by refine yt w w.v.qt n0 λF nd hb hc x hx=>⟨(hc x hx).2,?_⟩;have:=Rm w.v.2.aA nd hb (λx hx=>(hc x hx).1) x hx;rw[w.v.2.inv_inv]at this;exact this
abbrev Od(xs ys F:List Int):Prop:=F[0]?=some 0/\∀(k:Nat) (y:Int),F[k+1]?=some y->∃(j:Nat) (x:Int),j<=k/\F[j]?=some x/\(y=app xs x\/y=app ys x)
def Od.one(xs ys:List Int):Od xs ys [0]:=⟨rfl,λk y h=>by cases h⟩
def Od.snoc(h:Od xs ys F)(hx:x∈F)(hy:y=app xs x\/y=app ys x):Od xs ys (F ++ [y]):=by
 have hl:0<F.length:=List.length_pos_of_mem hx;refine⟨by rw[Zan hl];exact h.1,λk z hz=>?_⟩;by_cases hk:k+1<F.length;rw[Zan hk]at hz;obtain⟨j,x',hj,hx',e⟩:=h.2 k z hz;exact⟨j,x',hj,by rw[Zan ⋯];exact hx',e⟩;rw[Zau ⋯]at hz;have hz:z=y:=by
  cases h3:k+1-F.length with
  |zero=>rw[h3]at hz;cases hz;rfl
  |succ m=>rw[h3]at hz;cases hz
 obtain⟨j,hj,e⟩:=Zbk hx;have qa:k+1=F.length\/F.length<k+1:=by lk
 refine⟨j,x,by lk,by rw[Zan hj,Zac hj,e],by rw[hz];exact hy⟩
structure Fo(xs ys F:List Int):Prop extends Fd xs ys F where
 od:Od xs ys F
def Fo.one(xs ys:List Int):Fo xs ys [0]:=⟨Fd.one xs ys,Od.one xs ys⟩
end
end ae
namespace ae
section
variable {n:Nat}{xs ys r r' r2:List Int}{i j x y:Int}
abbrev Sm(xs ys r:List Int):Prop:=∀s∈r,app ys (app xs s)=app xs (app ys s)
instance:Decidable (Sm xs ys r):=inferInstanceAs (Decidable (∀s∈r,app ys (app xs s)=app xs (app ys s)))
end
end ae
namespace ae
section
variable {n:Nat}{p q:aJ}{g:List Int}
def Wh.pN(w:Wh n p)(n0:0<n):∀j,Wh n (ae.pN j p)
 |0=>w
 |j+1=>(w.pN n0 j).qt n0
def Wh.st(w:Wh n p)(n0:0<n)(s:Sp):Wh n (stM p s):=by unfold stM;split;exact w.sh n0 _;exact w.pN n0 _
def Wh.ld(n0:0<n):∀{w:List Sp} {p:aJ},Wh n p->Wh n (df p w)
 |[],_,h=>h
 |s :: w,_,h=>Wh.ld n0 (w:=w) (h.st n0 s)
end
end ae
namespace ae
end ae
namespace ae
abbrev nr(x y:Int):Int:=(2*x+y).fdiv (2*y)
def X5(a b:Int)(hb:b≠0):(0<b->0<=a-b*a.fdiv b/\a-b*a.fdiv b<b)/\(b<0->b<a-b*a.fdiv b/\a-b*a.fdiv b<=0):=by
 have h1:=Int.mul_ediv_add_emod a b;have h2:=Zbc a hb;have h3:=Int.emod_lt a hb;rw[Int.fdiv_eq_ediv];constructor;intro h;rw[if_pos (.inl ⋯),Int.sub_zero];have:b.natAbs=b.toNat:=by lk
 constructor<;>lk;intro h;by_cases hd:b ∣ a;rw[if_pos (.inr hd),Int.sub_zero]
 have:a % b=0:=Int.emod_eq_zero_of_dvd hd;constructor<;>lk
 rw[if_neg (by rintro(z|z);lk;exact hd z),Int.mul_sub];have hne:a % b≠0:=λz=>hd (Int.dvd_of_emod_eq_zero z);constructor<;>lk
def JD(hy:y≠0):2*(x-nr x y*y).natAbs<=y.natAbs:=by
 obtain⟨h1,h2⟩:=X5 (2*x+y) (2*y) ⋯;have e:2*x+y-2*y*(2*x+y).fdiv (2*y)=2*(x-nr x y*y)+y:=by
  unfold nr;rw[Int.mul_sub,ZbQ ((2*x+y).fdiv (2*y)) y,ZbF];lk
 rw[e]at h1 h2;rcases(show 0<y\/y<0 by lk)with h|h
 have:=h1 ⋯;lk
 have:=h2 ⋯;lk
def Ro(hy:y≠0):(nr x y).natAbs<=x.natAbs+1:=by
 have h:=JD (x:=x) hy;have h1:(nr x y*y).natAbs<=x.natAbs+(x-nr x y*y).natAbs:=by lk
 rw[Za2]at h1;have hy1:1<=y.natAbs:=by lk
 by_cases hq:(nr x y).natAbs<=x.natAbs+1;exact hq;exfalso;have h2:(x.natAbs+2)*y.natAbs<=(nr x y).natAbs*y.natAbs:=ZbJ _ ⋯;have h3:(x.natAbs+2)*y.natAbs=x.natAbs*y.natAbs+2*y.natAbs:=Nat.add_mul _ _ _;have h4:x.natAbs<=x.natAbs*y.natAbs:=Zck _ hy1;lk
abbrev rF(k:Int):List Sp:=if k=0 then[]else[(true,k)]
def EJ:∀s∈rF k,bM s/\s.2=k:=λs hs=>by
 unfold rF at hs;split at hs
 ·cases hs
 ·next h =>
  rw[Zav.mp hs];exact⟨⟨(λz=>by cases z),h⟩,rfl⟩
def MW(k:Int):av (rF k)=⟨1,k,0,1⟩:=by
 unfold rF;split
 ·next h=>rw[h];rfl
 ·show(gw (true,k)).mul T4.one=_
  rw[T4.mul_one];rfl
def EK(k:Int):(rF k).length<=1:=by unfold rF;split<;>simp
abbrev rG(x y:Int):List Sp:=rF (-(nr x y)) ++ [(false,1)]
def JE(x y:Int):av (rG x y)=⟨0,-1,1,-(nr x y)⟩:=by unfold rG;rw[tJ,MW];apply T4.ext'<;>simp[T4.mul,gw,qp,T4.qt,T4.one]
def Rq(hy:y≠0):∀s∈rG x y,bM s/\s.2.natAbs<=x.natAbs+1:=λs hs=>by
 have h:=Ro (x:=x) hy;rcases Zax.mp hs with hs|hs
 obtain⟨h1,h2⟩:=EJ s hs;exact⟨h1,by rw[h2];lk⟩;rw[Zav.mp hs];exact⟨⟨λ_=>⟨by decide,by decide⟩,by decide⟩,by show 1<=_;lk⟩
def MX(x y:Int):(rG x y).length<=2:=by unfold rG;rw[Zaf];have:=EK (-(nr x y));simp;lk
structure Dv(M:Nat)(x y:Int)(g:List Sp)(u v:Int)(r:Nat):Prop where
 pr:∀s∈g,bM s/\s.2.natAbs<=M+1
 ln:g.length<=2*r
 ua:u=(av g).a*x+(av g).b*y
 vc:v=(av g).c*x+(av g).d*y
 ub:u.natAbs<=M
 vb:v.natAbs*2 ^ r<=M
def Dv.zero(hx:x.natAbs<=M)(hy:y.natAbs<=M):Dv M x y [] x y 0 :=
 ⟨(λs hs=>nomatch hs),Zad _,by show x=1*x+0*y;lk,by show y=0*x+1*y;lk,hx,by lk⟩
def Dv.step(h:Dv M x y g u v r)(hv:v≠0):Dv M x y (g ++ rG u v) (-v) (u-nr u v*v) (r+1):=by
 have hl:=JD (x:=u) hv;have hlen:=MX u v;have h2:1<=2 ^ r:=Nat.one_le_two_pow;have vM:v.natAbs<=M:=Zap (Zck _ h2) h.vb;have e:av (g ++ rG u v)=⟨-(av g).c,-(av g).d,(av g).a-nr u v*(av g).c,(av g).b-nr u v*(av g).d⟩:=by
  rw[qY,JE];apply T4.ext'<;>simp[T4.mul,Zbh]<;>lk
 refine⟨λs hs=>?_,by rw[Zaf];have:=h.ln;lk,?_,?_,by lk,?_⟩;rcases Zax.mp hs with hs|hs
 exact h.pr s hs;obtain⟨h1,h3⟩:=Rq hv s hs;exact⟨h1,by have:=h.ub;lk⟩;rw[e];show -v=-(av g).c*x + -(av g).d*y;rw[h.vc,Zbh,Zbh];lk;rw[e];show u-nr u v*v=((av g).a-nr u v*(av g).c)*x+((av g).b-nr u v*(av g).d)*y;generalize hq:nr u v=q;rw[h.ua,h.vc,Int.sub_mul,Int.sub_mul,Int.mul_add,ZbF,ZbF];lk
 have:=h.vb
 have h3:(u-nr u v*v).natAbs*2 ^ (r+1)=2*(u-nr u v*v).natAbs*2 ^ r:=by rw[Nat.pow_succ,Zci (2 ^ r) 2,<- ZcF,Zci _ 2]
 rw[h3];exact Zap (ZbJ _ hl) this
def Dv.few(h:Dv M x y g u v r)(hv:v≠0)(hM:M<2 ^ k):r<k:=by have h1:2 ^ r<=M:=Zap (Nat.le_mul_of_pos_left _ ⋯) h.vb;exact(Nat.pow_lt_pow_iff_right ∅).mp (Za3 h1 hM)
abbrev oZ(A:T4):List Sp:=if A.a=1 then rF A.b else(false,2) :: rF (-A.b)
def Rr(h:a*d=1):(a=1/\d=1)\/(a=-1/\d=-1):=by
 have h1:=congrArg Int.natAbs h;rw[Za2]at h1;have h2:a.natAbs=1:=Nat.eq_one_of_dvd_one ⟨_,h1.symm⟩;rcases(show a=1\/a=-1 by lk)with rfl|rfl
 exact .inl ⟨rfl,by lk⟩;exact .inr ⟨rfl,by lk⟩
def X6(hc:A.c=0)(hd:A.a*A.d-A.b*A.c=1):av (oZ A)=A:=by
 have h1:A.a*A.d=1:=by rw[hc,Int.mul_zero]at hd;lk
 unfold oZ;rcases Rr h1 with⟨e1,e2⟩|⟨e1,e2⟩
 rw[if_pos e1,MW];exact T4.ext' e1.symm rfl hc.symm e2.symm;rw[if_neg (by rw[e1];decide),MT,MW];apply T4.ext';simp[T4.mul,gw,qp,T4.qt,T4.one,e1];simp[T4.mul,gw,qp,T4.qt,T4.one];simp[T4.mul,gw,qp,T4.qt,T4.one,hc];simp[T4.mul,gw,qp,T4.qt,T4.one,e2]
def MY(A:T4):∀s∈oZ A,bM s:=λs hs=>by
 unfold oZ at hs;split at hs;exact(EJ s hs).1;rcases ZaF.mp hs with rfl|hs
 exact⟨λ_=>⟨by decide,by decide⟩,by decide⟩;exact(EJ s hs).1
def Rv(A:T4):(oZ A).length<=2:=by
 unfold oZ;split
 have:=EK A.b;lk
 have:=EK (-A.b);simp;lk
def Rw(A B:T4):(A.mul B).a*(A.mul B).d-(A.mul B).b*(A.mul B).c=(A.a*A.d-A.b*A.c)*(B.a*B.d-B.b*B.c):=by
 simp only[T4.mul]
 grind
def X7(hd:T.a*T.d-T.b*T.c=1)(hg:∀s∈g,bM s)(h0:(av g).c*T.a+(av g).d*T.c=0):av (gY (oZ ((av g).mul T) ++ eV g)).reverse=T/\∀s∈(gY (oZ ((av g).mul T) ++ eV g)).reverse,bM s:=by
 have X8:((av g).mul T).a*((av g).mul T).d-((av g).mul T).b*((av g).mul T).c=1:=by rw[Rw,xh hg,hd];rfl
 have X9:((av g).mul T).c=0:=h0;have pr:∀s∈oZ ((av g).mul T) ++ eV g,bM s:=λs hs=>by
  rcases Zax.mp hs with hs|hs
  exact MY _ s hs;exact xg hg s hs
 refine⟨?_,λs hs=>(QZ pr).pr s (ZaR.mp hs)⟩;rw[Ju pr,qY,X6 X9 X8,Ao hg,<- T4.assoc,(CI (xh hg)).2,T4.one_mul]
end ae
namespace ae
def Rx(hv:v≠0)(h:2*v.natAbs<=u.natAbs):2<=(nr u v).natAbs:=by
 have h1:=JD (x:=u) hv;generalize nr u v=q at *;by_cases c:2<=q.natAbs;exact c;have hq:q=-1\/q=0\/q=1:=by lk
 rcases hq with rfl|rfl|rfl<;>lk
def EL(ha:A<=max 1 C)(h2:2*C<=Y)(t:Y<=A+W):C<=max 1 W:=by lk
def grow(ha:a.natAbs<=max 1 c.natAbs)(hq:2<=q.natAbs):(-c).natAbs<=max 1 (a-q*c).natAbs:=by
 rw[Zbn];refine EL ha (ZbJ _ hq) ?_;rw[<- Za2];have e:q*c=a-(a-q*c):=by lk
 exact Zap (Nat.le_of_eq (congrArg Int.natAbs e)) (Int.natAbs_sub_le _ _)
structure Bv(g:List Sp)(u v:Int)(r:Nat):Prop where
 b0:r=0->(av g).c=0/\(av g).d=1
 b1:1<=r->2*v.natAbs<=u.natAbs
 ba:(av g).a.natAbs<=max 1 (av g).c.natAbs
 bb:(av g).b.natAbs<=max 1 (av g).d.natAbs
 dt:(av g).a*(av g).d-(av g).b*(av g).c=1
def Bv.zero(x y:Int):Bv [] x y 0:=⟨λ_=>⟨rfl,rfl⟩,λh=>by lk,by decide,by decide,by decide⟩
def Ya(h:a*d-b*c=1):-c*(b-q*d) - -d*(a-q*c)=1:=by
 rw[Int.mul_sub,Int.mul_sub,Zbh,Zbh,Zbh,Zbh,ZbQ c b,ZbQ d a];have:c*(q*d)=d*(q*c):=by rw[<- ZbF,<- ZbF,ZbQ c q,ZbQ d q,ZbF,ZbF,ZbQ c d]
 lk
def Bv.step(h:Bv g u v r)(hv:v≠0):Bv (g ++ rG u v) (-v) (u-nr u v*v) (r+1):=by
 have e:av (g ++ rG u v)=⟨-(av g).c,-(av g).d,(av g).a-nr u v*(av g).c,(av g).b-nr u v*(av g).d⟩:=by
  rw[qY,JE];apply T4.ext'<;>simp[T4.mul,Zbh]<;>lk
 have hl:=JD (x:=u) hv;refine⟨λz=>by lk,λ_=>by lk,?_,?_,?_⟩;rw[e];show(-(av g).c).natAbs<=max 1 ((av g).a-nr u v*(av g).c).natAbs;by_cases hr:r=0;rw[(h.b0 hr).1];simp;exact grow h.ba (Rx hv (h.b1 ⋯));rw[e];show(-(av g).d).natAbs<=max 1 ((av g).b-nr u v*(av g).d).natAbs;by_cases hr:r=0;rw[(h.b0 hr).2];simp;lk;exact grow h.bb (Rx hv (h.b1 ⋯));rw[e];exact Ya h.dt
end ae
namespace ae
end ae
namespace ae
section
variable {n:Nat}{p q:aJ}
def Yb(vp:Vf n p)(vq:Vf n q)(k:Int)(a:bC n (Sh k p) (Sh k q)):bC n p q:=by have h:=bC.sh (vp.sh k) a (-k);rw[Ar vp,Ar vq,Int.add_right_neg,tK vp,tK vq]at h;exact h
def Yc(vp:Vf n p)(vq:Vf n q)(a:bC n (Qt p) (Qt q)):bC n p q:=by have h:=bC.qt vp.qt.qt.qt (bC.qt vp.qt.qt (bC.qt vp.qt a));have ep:Qt (Qt (Qt (Qt p)))=p:=MR vp;have eq:Qt (Qt (Qt (Qt q)))=q:=MR vq;rw[ep,eq]at h;exact h
def Ry{fs:List aJ}{c:List Int}(f:aJ->aJ)(nd:fs.Nodup)(hl:c.length=fs.length)
  (hc:∀(k:Nat) (p:aJ),fs[k]?=some p->∃j:Nat,c[k]?=some (j:Int)/\fs[j]?=some (f p))
  (hf:∀p∈fs,∀q∈fs,f p=f q->p=q):Tn fs.length c:=by
 have key:∀(k:Nat) (x:Int),c[k]?=some x->∃(p:aJ) (j:Nat),fs[k]?=some p/\x=(j:Int)/\fs[j]?=some (f p):=λk x hx=>by
  have hk:k<fs.length:=by
   have:=(Zab.mp hx).1;lk
  have e:fs[k]?=some fs[k]:=Zac hk;obtain⟨j,h1,h2⟩:=hc k _ e;rw[hx]at h1;exact⟨_,j,e,Zao h1,h2⟩
 have nc:c.Nodup:=by
  refine Za4.mpr λi j hi' hj hij e0=>?_;obtain⟨x,hx⟩:∃x,c[j]?=some x:=⟨c[j],Zac hj⟩;have e:c[i]?=some x:=by rw[Zac hi',e0,<- Zac hj];exact hx
  obtain⟨p,a,p1,rfl,p2⟩:=key i x e;obtain⟨q,b,q1,eb,q2⟩:=key j _ hx;have:a=b:=by lk
  subst this;rw[p2]at q2;have e2:=hf p (Zaj p1) q (Zaj q1) (Zao q2);subst e2;obtain⟨g1,g2⟩:=Zab.mp p1;obtain⟨g3,g4⟩:=Zab.mp q1;exact Za4.mp nd i j g1 g3 hij (by rw[g2,g4])
 have hb:∀x∈c,0<=x/\x<(c.length:Int):=λx hx=>by
  obtain⟨k,hk⟩:=Zbw hx;obtain⟨p,j,_,rfl,h2⟩:=key k x hk;have:=(Zab.mp h2).1;lk
 have:=Jn nc hb;rw[hl]at this;exact this
def MZ(p:aJ)(n0:0<n):∃s:Int,0<=s/\s<(n:Int)/\aU n p=rY p n s:=by
 have h:=(MJ (l:=(upto n).map (rY p n)) (λe=>by
  have:=congrArg List.length e;rw[Zaa,qW]at this;simp at this
  lk)).1
 obtain⟨s,hs,e⟩:=Zaw.mp h;obtain⟨s0,s1⟩:=oG.mp hs;exact⟨s,s0,s1,e.symm⟩
def Rz(wp:Wh n p)(wq:Wh n q)(n0:0<n)(e:aU n p=aU n q):bC n p q:=by obtain⟨s,s0,s1,es⟩:=MZ p n0;obtain⟨t,t0,t1,et⟩:=MZ q n0;rw[es,et]at e;obtain⟨tg,eq⟩:=(EH wp wq s0 s1 t0 t1 e).1;exact⟨_,tg,eq⟩
def Ax(n0:0<n)(k:Int)(wp:Wh n p)(wq:Wh n q)(op:aU n p=p)(oq:aU n q=q)(e:aU n (Sh k p)=aU n (Sh k q)):p=q:=by have a:=Yb wp.v wq.v k (Rz (wp.sh n0 k) (wq.sh n0 k) n0 e);rw[<- op,<- oq];exact yq n0 wp.v a
def Ay(n0:0<n)(wp:Wh n p)(wq:Wh n q)(op:aU n p=p)(oq:aU n q=q)(e:aU n (Qt p)=aU n (Qt q)):p=q:=by have a:=Yc wp.v wq.v (Rz (wp.qt n0) (wq.qt n0) n0 e);rw[<- op,<- oq];exact yq n0 wp.v a
end
end ae
namespace L4
open PySem PySem.Spec L2
inductive D where
 |non|bl (b:Bool)|int (i:Int)|str (x:Str)|ty (n:String)|tup (ds:List D)|ref (i:Nat)
instance:Inhabited D:=⟨.non⟩
inductive O where
 |lst (ds:List D)|pO (ds:List D)|dct (kvs:List (Key×D))|JF (kvs:List (List Int×D))|qH (kvs:List (List Key×D))|exc (c:Str) (fs:List (Str×D))|any|lL (lo hi:Int)
@[reducible]def Store:=List O
@[reducible]def ai:=List (Option D)
@[reducible]def Dm(α:Type):=Store->Option (α×Store)
inductive Fl where
 |nx (δ:ai)|bk (δ:ai)|ct (δ:ai)|rt (d:D)
mutual
inductive Rp(K:Zfr)(ρ:List Addr)(H:Hp):V->D->Prop
 |non:Rp K ρ H .non .non
 |bl (b:Bool):Rp K ρ H (.bl b) (.bl b)
 |int (i:Int):Rp K ρ H (.int i) (.int i)
 |str (x:Str):Rp K ρ H (.str x) (.str x)
 |ty (n:String):Rp K ρ H (.ty n) (.ty n)
 |ref {a:Addr} {i:Nat}:ρ[i]?=some a->Rp K ρ H (.ref a) (.ref i)
 |tup {a:Addr} {vs:List V} {ds:List D}:gg K H a vs->cC K ρ H vs ds->Rp K ρ H (.ref a) (.tup ds)
inductive cC(K:Zfr)(ρ:List Addr)(H:Hp):List V->List D->Prop
 |nil:cC K ρ H [] []
 |cons {v:V} {vs:List V} {d:D} {ds:List D}:Rp K ρ H v d->cC K ρ H vs ds->cC K ρ H (v :: vs) (d :: ds)
end
structure Mn(K:Zfr)(ρ:List Addr)(H:Hp)(ρ':List Addr)(H':Hp):Prop where
 r:∀(i:Nat) (a:Addr),ρ[i]?=some a->ρ'[i]?=some a
 t:∀a vs,gg K H a vs->gg K H' a vs
 f:∀a o u,H a=some (.pY o u)->H' a=some (.pY o u)
 x:∀a ws,H a=some (.xd ws)->H' a=some (.xd ws)
section
variable {K:Zfr}{ρ ρ' ρ2:List Addr}{H H' H2:Hp}
def Mn.refl:Mn K ρ H ρ H:=⟨λ_ _ h=>h,λ_ _ h=>h,λ_ _ _ h=>h,λ_ _ h=>h⟩
def Mn.trans(m:Mn K ρ H ρ' H')(n:Mn K ρ' H' ρ2 H2):Mn K ρ H ρ2 H2:=⟨λi a h=>n.r i a (m.r i a h),λa vs h=>n.t a vs (m.t a vs h),λa o u h=>n.f a o u (m.f a o u h),λa ws h=>n.x a ws (m.x a ws h)⟩
mutual
theorem Rp.mn(m:Mn K ρ H ρ' H'):∀{v:V} {d:D},Rp K ρ H v d->Rp K ρ' H' v d
 |_,_,.non=>.non
 |_,_,.bl b=>.bl b
 |_,_,.int i=>.int i
 |_,_,.str x=>.str x
 |_,_,.ty n=>.ty n
 |_,_,.ref e=>.ref (m.r _ _ e)
 |_,_,.tup q r=>.tup (m.t _ _ q) (cC.mn m r)
theorem cC.mn(m:Mn K ρ H ρ' H'):∀{vs:List V} {ds:List D},cC K ρ H vs ds->cC K ρ' H' vs ds
 |_,_,.nil=>.nil
 |_,_,.cons a b=>.cons (Rp.mn m a) (cC.mn m b)
end
def cC.length:∀{vs:List V} {ds:List D},cC K ρ H vs ds->vs.length=ds.length
 |_,_,.nil=>rfl
 |_,_,.cons _ r=>by rw[ZaE,ZaE,r.length]
def cC.got:∀{vs:List V} {ds:List D},cC K ρ H vs ds->∀{i:Nat} {d:D},ds[i]?=some d->∃v,vs[i]?=some v/\Rp K ρ H v d
 |_,_,.nil,i,v,e=>by simp at e
 |_,_,.cons (v:=v) a b,0,d,e=>⟨v,by simp,by have:_=d:=Zao (by simpa using e);rw[<- this];exact a⟩
 |_,_,.cons a b,i+1,d,e=>by
  obtain⟨v,e1,r⟩:=cC.got b (i:=i) (by simpa using e);exact⟨v,by simpa using e1,r⟩
def cC.append:∀{vs:List V} {ds:List D} {ws:List V} {es:List D},cC K ρ H vs ds->cC K ρ H ws es->cC K ρ H (vs ++ ws) (ds ++ es)
 |_,_,_,_,.nil,s=>s
 |_,_,_,_,.cons a b,s=>.cons a (cC.append b s)
def cC.one(r:Rp K ρ H v d):cC K ρ H [v] [d]:=.cons r .nil
def cC.take:∀{vs:List V} {ds:List D} (n:Nat),cC K ρ H vs ds->cC K ρ H (vs.take n) (ds.take n)
 |_,_,0,_=>.nil
 |_,_,_+1,.nil=>.nil
 |_,_,n+1,.cons r t=>.cons r (cC.take n t)
def cC.drop:∀{vs:List V} {ds:List D} (n:Nat),cC K ρ H vs ds->cC K ρ H (vs.drop n) (ds.drop n)
 |_,_,0,r=>r
 |_,_,_+1,.nil=>.nil
 |_,_,n+1,.cons _ t=>cC.drop n t
def cC.set(r:Rp K ρ H v d):∀{vs:List V} {ds:List D} (i:Nat),cC K ρ H vs ds->cC K ρ H (vs.set i v) (ds.set i d)
 |_,_,_,.nil=>.nil
 |_,_,0,.cons _ t=>.cons r t
 |_,_,i+1,.cons q t=>.cons q (cC.set r i t)
def cC.erase:∀{vs:List V} {ds:List D} (i:Nat),cC K ρ H vs ds->cC K ρ H (vs.eraseIdx i) (ds.eraseIdx i)
 |_,_,_,.nil=>.nil
 |_,_,0,.cons _ t=>t
 |_,_,i+1,.cons q t=>.cons q (cC.erase i t)
def cC.flat(r:cC K ρ H vs ds):∀n:Nat,cC K ρ H (List.replicate n vs).flatten (List.replicate n ds).flatten
 |0=>.nil
 |n+1=>by rw[ZaN,ZaN,Zbj,Zbj];exact r.append (r.flat n)
def cC.ints:∀(ns:List Int),cC K ρ H (ns.map V.int) (ns.map D.int)
 |[]=>.nil
 |n :: r=>.cons (.int n) (cC.ints r)
end
abbrev Rs(K:Zfr)(ρ:List Addr)(H:Hp)(σ:St)(δ:ai):Prop:=σ.length=δ.length/\∀(i:Nat) (d:D),δ[i]?=some (some d)->∃v,σ[i]?=some (some v)/\Rp K ρ H v d
abbrev Rk(K:Zfr)(ρ:List Addr)(H:Hp):List (Key×V)->List (Key×D)->Prop:=Paired λp q=>p.1=q.1/\Rp K ρ H p.2 q.2
abbrev Ru(K:Zfr)(ρ:List Addr)(H:Hp):List (List Int×D)->List (List Int×Addr×Value)->Prop:=Paired λq x=>q.1=x.1/\gg K H x.2.1 (x.1.map V.int)/\∃v,RelV v x.2.2/\Rp K ρ H v q.2
abbrev Rt(K:Zfr)(ρ:List Addr)(H:Hp):List (List Key×V)->List (List Key×D)->Prop:=Paired λp q=>p.1=q.1/\Rp K ρ H p.2 q.2
abbrev Xd(K:Zfr)(ρ:List Addr)(H:Hp):Option Addr->List (Str×D)->Prop
 |none,fs=>fs=[]
 |some d,fs=>∃ws,H d=some (.xd ws)/\∀f e,fs.lookup f=some e->∃v,ws.lookup f=some v/\Rp K ρ H v e
abbrev yu(K:Zfr)(ρ:List Addr)(H:Hp)(a:Addr):O->Prop
 |.lst ds=>∃vs,H a=some (.lst vs)/\cC K ρ H vs ds
 |.pO ds=>∃vs,D4 K H a vs/\cC K ρ H vs ds
 |.dct kvs=>∃ws,H a=some (.dK ws)/\Rk K ρ H ws kvs
 |.JF kvs=>∃xs,H a=some (DU a xs)/\Ru K ρ H kvs xs
 |.qH kvs=>∃ws,H a=some (.dT ws)/\Rt K ρ H ws kvs
 |.exc c fs=>∃C dx tr,PySem.W.nsIn K mainGlobals c=some (some (.ref C))/\H a=some (XO a C dx tr)/\Xd K ρ H dx fs
 |.any=>True
 |.lL lo hi=>H a=some (.lL lo hi)
abbrev O.mut:O->Bool
 |.pO _=>false
 |.any=>false
 |_=>true
structure Rl(K:Zfr)(ρ:List Addr)(H:Hp)(st:Store):Prop where
 len:ρ.length=st.length
 nd:∀(i j:Nat) (a:Addr) (o o':O),ρ[i]?=some a->ρ[j]?=some a->st[i]?=some o->st[j]?=some o'->o.mut=true->o'.mut=true->i=j
 obj:∀(i:Nat) (a:Addr) (o:O),ρ[i]?=some a->st[i]?=some o->yu K ρ H a o
section
variable {K:Zfr}{ρ ρ' ρ2:List Addr}{H H' H2:Hp}{st st':Store}{a p:Addr}{i:Nat}{o o':O}{ho:HO}{σ:St}{δ:ai}
def Rs.mn(h:Rs K ρ H σ δ)(m:Mn K ρ H ρ' H'):Rs K ρ' H' σ δ:=⟨h.1,λi d e=>let ⟨v,e1,r⟩:=h.2 i d e;⟨v,e1,r.mn m⟩⟩
def Rk.mn(m:Mn K ρ H ρ' H')(h:Rk K ρ H ws kvs):Rk K ρ' H' ws kvs:=by
 induction h with
 |nil=>exact .nil
 |cons a _ ih=>exact .cons ⟨a.1,a.2.mn m⟩ ih
def Ru.mn(m:Mn K ρ H ρ' H')(h:Ru K ρ H kvs xs):Ru K ρ' H' kvs xs:=by
 induction h with
 |nil=>exact .nil
 |cons a _ ih=>obtain⟨a1,a2,v,a3,a4⟩:=a;exact .cons ⟨a1,m.t _ _ a2,v,a3,a4.mn m⟩ ih
def Rt.mn(m:Mn K ρ H ρ' H')(h:Rt K ρ H ws kvs):Rt K ρ' H' ws kvs:=by
 induction h with
 |nil=>exact .nil
 |cons a _ ih=>exact .cons ⟨a.1,a.2.mn m⟩ ih
def Xd.mn(m:Mn K ρ H ρ' H')(h:Xd K ρ H dx fs):Xd K ρ' H' dx fs:=by
 cases dx with
 |none=>exact h
 |some d=>obtain⟨ws,e,q⟩:=h;exact⟨ws,m.x _ _ e,λf e' z=>let ⟨v,z1,z2⟩:=q f e' z;⟨v,z1,z2.mn m⟩⟩
def yu.keep(m:Mn K ρ H ρ' H')(h:∀u,H a=some u->H' a=some u)(r:yu K ρ H a o):yu K ρ' H' a o:=by
 cases o with
 |lst ds=>obtain⟨vs,e,q⟩:=r;exact⟨vs,h _ e,q.mn m⟩
 |pO ds =>
  obtain⟨vs,e,q⟩:=r;refine⟨vs,?_,q.mn m⟩;rcases e with⟨u,e⟩|e
  exact .inl ⟨u,h _ e⟩;exact .inr e
 |dct kvs=>obtain⟨ws,e,q⟩:=r;exact⟨ws,h _ e,q.mn m⟩
 |JF kvs=>obtain⟨ws,e,q⟩:=r;exact⟨ws,h _ e,q.mn m⟩
 |qH kvs=>obtain⟨ws,e,q⟩:=r;exact⟨ws,h _ e,q.mn m⟩
 |exc c fs=>obtain⟨C,dx,tr,n,e,q⟩:=r;exact⟨C,dx,tr,n,h _ e,q.mn m⟩
 |any=>trivial
 |lL lo hi=>exact h _ r
def Mn.same(s:gq H H'):Mn K ρ H ρ H':=⟨λ_ _ h=>h,λ_ _ h=>(Kp.of_same (ch:=[]) s).Ma h,λ_ _ _ h=>s _ _ h,λ_ _ h=>s _ _ h⟩
def Rl.same(l:Rl K ρ H st)(s:gq H H'):Rl K ρ H' st:=⟨l.len,l.nd,λi a o h1 h2=>(l.obj i a o h1 h2).keep (Mn.same s) λu e=>s _ _ e⟩
def Rl.at(l:Rl K ρ H st)(h1:ρ[i]?=some a)(h2:st[i]?=some o)(hm:o.mut=true):∃u,H a=some u/\∀x y,u≠.pY x y:=by
 have r:=l.obj i a o h1 h2;cases o with
 |lst ds=>obtain⟨vs,e,_⟩:=r;exact⟨_,e,λx y z=>nomatch z⟩
 |pO ds=>cases hm
 |dct kvs=>obtain⟨ws,e,_⟩:=r;exact⟨_,e,λx y z=>nomatch z⟩
 |JF kvs=>obtain⟨ws,e,_⟩:=r;exact⟨_,e,λx y z=>by cases z⟩
 |qH kvs=>obtain⟨ws,e,_⟩:=r;exact⟨_,e,λx y z=>nomatch z⟩
 |exc c fs=>obtain⟨C,dx,tr,_,e,_⟩:=r;exact⟨_,e,λx y z=>by cases z⟩
 |any=>cases hm
 |lL lo hi=>exact⟨_,r,λx y z=>nomatch z⟩
def Mn.new(hp:H p=none):Mn K ρ H (ρ ++ [p]) (upd H p ho):=⟨λi a h=>by
  obtain⟨hi,_⟩:=Zab.mp h
  rw[Zan hi];exact h,λ_ _ h=>(Kp.of_same (ch:=[]) (gq.up hp)).Ma h,λ_ _ _ h=>gq.up hp _ _ h,λ_ _ h=>gq.up hp _ _ h⟩
def Rl.new(l:Rl K ρ H st)(hp:H p=none)(mk:yu K (ρ ++ [p]) (upd H p ho) p o):Rl K (ρ ++ [p]) (upd H p ho) (st ++ [o]):=by
 have m:Mn K ρ H (ρ ++ [p]) (upd H p ho):=Mn.new hp;have split:∀(i:Nat) (a:Addr) (o':O),(ρ ++ [p])[i]?=some a->(st ++ [o])[i]?=some o'->(ρ[i]?=some a/\st[i]?=some o')\/(i=ρ.length/\a=p/\o'=o):=λi a o' h1 h2=>by
  by_cases hi:i<ρ.length;rw[Zan hi]at h1;rw[Zan (by rw[<- l.len];exact hi)]at h2;exact .inl ⟨h1,h2⟩;obtain⟨hb,_⟩:=Zab.mp h1;rw[Zaf,Zbe]at hb;have e:i=ρ.length:=by lk
  subst e;rw[Zau (Zad _),ZaW]at h1;rw[l.len,Zau (Zad _),ZaW]at h2;exact .inr ⟨rfl,(Zao h1).symm,(Zao h2).symm⟩
 refine⟨by rw[Zaf,Zaf,l.len];rfl,λi j a u u' h1 h2 h3 h4 m1 m2=>?_,λi a u h1 h2=>?_⟩;rcases split i a u h1 h3 with⟨g1,g2⟩|⟨rfl,rfl,rfl⟩<;>rcases split j _ u' h2 h4 with⟨k1,k2⟩|⟨k1,k2,k3⟩
 exact l.nd i j a u u' g1 k1 g2 k2 m1 m2;subst k2;obtain⟨w,e,_⟩:=l.at g1 g2 m1;rw[e]at hp;cases hp;obtain⟨w,e,_⟩:=l.at k1 k2 m2;rw[e]at hp;cases hp;exact k1.symm;rcases split i a u h1 h2 with⟨g1,g2⟩|⟨rfl,rfl,rfl⟩
 exact(l.obj i a u g1 g2).keep m λw e=>gq.up hp _ _ e;exact mk
def Rl.put(l:Rl K ρ H st)(hi:ρ[i]?=some a)(hs:st[i]?=some o)(hm:o.mut=true)(hm':o'.mut=true)(m:Mn K ρ H ρ (upd H a ho))(r:yu K ρ (upd H a ho) a o'):Rl K ρ (upd H a ho) (st.set i o'):=by
 obtain⟨w,ew,nf⟩:=l.at hi hs hm;have Yd:i<st.length:=(Zab.mp hs).1;have old:∀(j:Nat) (u:O),(st.set i o')[j]?=some u->(j=i/\u=o')\/(j≠i/\st[j]?=some u):=λj u h=>by
  by_cases hj:i=j;subst hj;rw[Zah Yd]at h;exact .inl ⟨rfl,(Zao h).symm⟩;rw[Zak hj]at h;exact .inr ⟨λz=>hj z.symm,h⟩
 refine⟨by rw[Za8];exact l.len,λj k b u u' h1 h2 h3 h4 m1 m2=>?_,λj b u h1 h2=>?_⟩;rcases old j u h3 with⟨rfl,rfl⟩|⟨nj,g3⟩<;>rcases old k u' h4 with⟨rfl,rfl⟩|⟨nk,g4⟩
 rfl;exact l.nd _ _ b o u' h1 h2 hs g4 hm m2;exact l.nd _ _ b u o h1 h2 g3 hs m1 hm;exact l.nd _ _ b u u' h1 h2 g3 g4 m1 m2;rcases old j u h2 with⟨rfl,rfl⟩|⟨nj,g2⟩
 rw[hi]at h1;cases h1;exact r;by_cases hb:b=a;subst hb;cases u with
 |pO ds =>
  obtain⟨vs,e,q⟩:=l.obj j b _ h1 g2;refine⟨vs,?_,q.mn m⟩;rcases e with⟨x,e⟩|e
  rw[ew]at e;cases e;exact absurd rfl (nf _ _);exact .inr e
 |lst ds=>exact absurd (l.nd j i b _ o h1 hi g2 hs rfl hm) nj
 |JF ds=>exact absurd (l.nd j i b _ o h1 hi g2 hs rfl hm) nj
 |qH ds=>exact absurd (l.nd j i b _ o h1 hi g2 hs rfl hm) nj
 |exc c fs=>exact absurd (l.nd j i b _ o h1 hi g2 hs rfl hm) nj
 |dct ds=>exact absurd (l.nd j i b _ o h1 hi g2 hs rfl hm) nj
 |any=>trivial
 |lL lo up=>exact absurd (l.nd j i b _ o h1 hi g2 hs rfl hm) nj
 exact(l.obj j b u h1 g2).keep m λw e=>by rw[jI hb];exact e
def Mn.put(e:H a=some (.lst xs)):Mn K ρ H ρ (upd H a ho):=⟨λ_ _ h=>h,λb vs h=>(Kp.put (ch:=[a]) (o:=ho) Kp.refl (by simp) e).Ma h,λb o u h=>by rw[jI (λz=>by rw[z,e]at h;cases h)];exact h,λb ws h=>by rw[jI (λz=>by rw[z,e]at h;cases h)];exact h⟩
def Mn.putD(e:H a=some (.dK ws)):Mn K ρ H ρ (upd H a ho):=⟨λ_ _ h=>h,λb vs q=>by
 have ne:∀u,H b=some u->(∀w,u≠.dK w)->b≠a:=λu hu n z=>by rw[z,e]at hu;cases hu;exact n _ rfl
 rcases q with(q|⟨o,q⟩)|q
 exact .inl (.inl (by rw[jI (ne _ q λw z=>nomatch z)];exact q));exact .inl (.inr ⟨o,by rw[jI (ne _ q λw z=>nomatch z)];exact q⟩)
 exact .inr q,λb o u h=>by rw[jI (λz=>by rw[z,e]at h;cases h)];exact h,λb ws h=>by rw[jI (λz=>by rw[z,e]at h;cases h)];exact h⟩
def Mn.ow(e:H a=some (.dT ws)):Mn K ρ H ρ (upd H a ho):=⟨λ_ _ h=>h,λb vs q=>by
 have ne:∀u,H b=some u->(∀w,u≠.dT w)->b≠a:=λu hu n z=>by rw[z,e]at hu;cases hu;exact n _ rfl
 rcases q with(q|⟨o,q⟩)|q
 exact .inl (.inl (by rw[jI (ne _ q λw z=>nomatch z)];exact q));exact .inl (.inr ⟨o,by rw[jI (ne _ q λw z=>nomatch z)];exact q⟩)
 exact .inr q,λb o u h=>by rw[jI (λz=>by rw[z,e]at h;cases h)];exact h,λb ws h=>by rw[jI (λz=>by rw[z,e]at h;cases h)];exact h⟩
def Rl.newL(l:Rl K ρ H st)(hp:H p=none)(r:cC K ρ H vs ds):Rl K (ρ ++ [p]) (upd H p (.lst vs)) (st ++ [.lst ds]):=l.new hp ⟨vs,qL,r.mn (Mn.new hp)⟩
def Rl.newD(l:Rl K ρ H st)(hp:H p=none)(r:Rk K ρ H vs ds):Rl K (ρ ++ [p]) (upd H p (.dK vs)) (st ++ [.dct ds]):=l.new hp ⟨vs,qL,r.mn (Mn.new hp)⟩
def newR(l:Rl K ρ H st)(v:D:=.ref st.length):(ρ ++ [p])[st.length]?=some p:=by rw[<- l.len,Zau (Zad _),ZaW];rfl
def Rl.putL(l:Rl K ρ H st)(hi:ρ[i]?=some a)(hs:st[i]?=some (.lst xs))(r:cC K ρ H vs ds):Rl K ρ (upd H a (.lst vs)) (st.set i (.lst ds))/\Mn K ρ H ρ (upd H a (.lst vs)):=by obtain⟨ws,e,_⟩:=l.obj i a _ hi hs;have m:Mn K ρ H ρ (upd H a (.lst vs)):=Mn.put e;exact⟨l.put hi hs rfl rfl m ⟨vs,qL,r.mn m⟩,m⟩
def Rl.vm(l:Rl K ρ H st)(hi:ρ[i]?=some a)(hs:st[i]?=some (.dct xs))(r:Rk K ρ H vs ds):Rl K ρ (upd H a (.dK vs)) (st.set i (.dct ds))/\Mn K ρ H ρ (upd H a (.dK vs)):=by obtain⟨ws,e,_⟩:=l.obj i a _ hi hs;have m:Mn K ρ H ρ (upd H a (.dK vs)):=Mn.putD e;exact⟨l.put hi hs rfl rfl m ⟨vs,qL,r.mn m⟩,m⟩
abbrev items(st:Store)(i:Nat):Option (List D):=match st[i]? with
 |some (.lst ds)=>some ds
 |some (.pO ds)=>some ds
 |_=>none
def Rl.items(l:Rl K ρ H st)(hi:ρ[i]?=some a)(h:items st i=some ds):∃vs,jW K H a vs/\cC K ρ H vs ds:=by
 unfold L4.items at h;split at h
 ·next ds' hs=>cases h;obtain⟨vs,e,r⟩:=l.obj i a _ hi hs;exact⟨vs,.inl (.inl e),r⟩
 ·next ds' hs=>cases h;obtain⟨vs,e,r⟩:=l.obj i a _ hi hs;exact⟨vs,e.sq,r⟩
 ·cases h
end
abbrev So(K:Zfr){α β:Type}(R:List Addr->Hp->α->β->Prop)(t:St->Hp->(α->Hp->Prop)->Prop)(f:ai->Dm β):Prop :=
 ∀(ρ:List Addr) (σ:St) (H:Hp) (δ:ai) (st:Store) (b:β) (st':Store) (Q:α->Hp->Prop),Rl K ρ H st->Rs K ρ H σ δ->f δ st=some (b,st') ->
  (∀a H' ρ',Mn K ρ H ρ' H'->Rl K ρ' H' st'->R ρ' H' a b->Q a H')->t σ H Q
@[reducible]def dI(K:Zfr)(t:TE)(f:ai->Dm D):Prop:=So K (Rp K) t f
@[reducible]def rZ(K:Zfr)(t:TT)(f:ai->Dm Bool):Prop:=So K (λ_ _=>Eq) t f
@[reducible]def qZ(K:Zfr)(t:TA)(f:ai->Dm (List D)):Prop:=So K (cC K) t f
@[reducible]def JG(K:Zfr)(t:TO)(f:ai->Dm (Option Int)):Prop:=So K (λ_ _=>Eq) t f
abbrev M0(K:Zfr)(r:V->Hp->VK->Prop)(g:D->Dm D):Prop :=
 ∀(ρ:List Addr) (H:Hp) (st:Store) (x:V) (a:D) (b:D) (st':Store) (Q:VK),Rl K ρ H st->Rp K ρ H x a->g a st=some (b,st')->(∀v H' ρ',Mn K ρ H ρ' H'->Rl K ρ' H' st'->Rp K ρ' H' v b->Q v H')->r x H Q
abbrev oh(K:Zfr)(r:R2)(g:D->D->Dm D):Prop :=
 ∀(ρ:List Addr) (H:Hp) (st:Store) (x y:V) (a c:D) (b:D) (st':Store) (Q:VK),Rl K ρ H st->Rp K ρ H x a->Rp K ρ H y c->g a c st=some (b,st')->(∀v H' ρ',Mn K ρ H ρ' H'->Rl K ρ' H' st'->Rp K ρ' H' v b->Q v H')->r x y H Q
abbrev sO(K:Zfr)(r:List V->Hp->VK->Prop)(g:List D->Dm D):Prop :=
 ∀(ρ:List Addr) (H:Hp) (st:Store) (xs:List V) (as:List D) (b:D) (st':Store) (Q:VK),Rl K ρ H st->cC K ρ H xs as->g as st=some (b,st')->(∀v H' ρ',Mn K ρ H ρ' H'->Rl K ρ' H' st'->Rp K ρ' H' v b->Q v H')->r xs H Q
abbrev xi(K:Zfr)(T:String)(r:V->List V->Hp->VK->Prop)(g:D->List D->Dm D):Prop :=
 ∀(ρ:List Addr) (H:Hp) (st:Store) (x:V) (xs:List V) (a:D) (as:List D) (b:D) (st':Store) (Q:VK),Rl K ρ H st->Rp K ρ H x a->cC K ρ H xs as->g a as st=some (b,st')->(∀v H' ρ',Mn K ρ H ρ' H'->Rl K ρ' H' st'->Rp K ρ' H' v b->Q v H')->r x xs H Q
abbrev bnd{α β:Type}(m:Option (α×Store))(k:α->Dm β):Option (β×Store):=match m with
 |some (a,st)=>k a st
 |none=>none
def cQ{α β:Type}{m:Option (α×Store)}{k:α->Dm β}{r:β×Store}(h:bnd m k=some r):∃a st,m=some (a,st)/\k a st=some r:=by
 cases m with
 |none=>cases h
 |some p=>exact⟨p.1,p.2,rfl,h⟩
section
variable {K:Zfr}
abbrev ag(i:Nat):ai->Dm D:=λδ st=>match δ[i]? with
 |some (some d)=>some (d,st)
 |_=>none
def bG(i:Nat):dI K (uD i) (ag i):=by
 intro ρ σ H δ st b st' Q l rs e q;unfold ag at e;split at e
 ·next d hd=>cases e;obtain⟨v,ev,r⟩:=rs.2 i _ hd;exact⟨v,ev,q v H ρ .refl l r⟩
 ·cases e
abbrev fC(d:D):ai->Dm D:=λ_ st=>some (d,st)
def vn(h:∀ρ H,Rp K ρ H v d):dI K (tC v) (fC d):=by intro ρ σ H δ st b st' Q l rs e q;cases e;exact q v H ρ .refl l (h ρ H)
def kT(i:Int):dI K (tC (.int i)) (fC (.int i)):=vn λ_ _=>.int i
def yw(b:Bool):dI K (tC (.bl b)) (fC (.bl b)):=vn λ_ _=>.bl b
def JH(x:Str):dI K (tC (.str x)) (fC (.str x)):=vn λ_ _=>.str x
def RA:dI K (tC .non) (fC .non):=vn λ_ _=>.non
abbrev ao(g:D->D->Dm D)(fa fb:ai->Dm D):ai->Dm D:=λδ st=>bnd (fa δ st) λa st1=>bnd (fb δ st1) λb st2=>g a b st2
def jG(hr:oh K r g)(ha:dI K ta fa)(hb:dI K tb fb):dI K (DE r ta tb) (ao g fa fb):=by intro ρ σ H δ st b st' Q l rs e q;obtain⟨a,st1,e1,e⟩:=cQ e;obtain⟨c,st2,e2,e⟩:=cQ e;refine ha ρ σ H δ st a st1 _ l rs e1 λx H1 ρ1 m1 l1 r1=>hb ρ1 σ H1 δ st1 c st2 _ l1 (rs.mn m1) e2 λy H2 ρ2 m2 l2 r2=>?_;exact hr ρ2 H2 st2 x y a c b st' Q l2 (r1.mn m2) r2 e λv H3 ρ3 m3 l3 r3=>q v H3 ρ3 ((m1.trans m2).trans m3) l3 r3
abbrev r6(g:D->Dm D)(fa:ai->Dm D):ai->Dm D:=λδ st=>bnd (fa δ st) λa st1=>g a st1
def M1(hr:M0 K r g)(ha:dI K ta fa):dI K (O9 r ta) (r6 g fa):=by intro ρ σ H δ st b st' Q l rs e q;obtain⟨a,st1,e1,e⟩:=cQ e;exact ha ρ σ H δ st a st1 _ l rs e1 λx H1 ρ1 m1 l1 r1=>hr ρ1 H1 st1 x a b st' Q l1 r1 e λv H3 ρ3 m3 l3 r3=>q v H3 ρ3 (m1.trans m3) l3 r3
abbrev ah:ai->Dm (List D):=λ_ st=>some ([],st)
abbrev af(fa:ai->Dm D)(fr:ai->Dm (List D)):ai->Dm (List D):=λδ st=>bnd (fa δ st) λa st1=>bnd (fr δ st1) λr st2=>some (a :: r,st2)
def c5:qZ K DL ah:=by intro ρ σ H δ st b st' Q l rs e q;cases e;exact q [] H ρ .refl l .nil
def bD(ha:dI K ta fa)(hr:qZ K tr fr):qZ K (xW ta tr) (af fa fr):=by intro ρ σ H δ st b st' Q l rs e q;obtain⟨a,st1,e1,e⟩:=cQ e;obtain⟨c,st2,e2,e⟩:=cQ e;cases e;exact ha ρ σ H δ st a st1 _ l rs e1 λx H1 ρ1 m1 l1 r1=>hr ρ1 σ H1 δ st1 c _ _ l1 (rs.mn m1) e2 λy H2 ρ2 m2 l2 r2=>q _ H2 ρ2 (m1.trans m2) l2 (.cons (r1.mn m2) r2)
abbrev lim(n:Nat):Bool:=Nat.ble n 100000
def xj(h:lim n=true):n<=sizeLine:=Zap (Zct h) ∅
def JI(h:lim n=true):n<sizeLine:=Za3 (Zct h) ∅
abbrev aX(fa:ai->Dm (List D)):ai->Dm D:=λδ st=>bnd (fa δ st) λas st1=>if lim as.length=true then some (.tup as,st1)else none
def uo(ha:qZ K ta fa):dI K (uL ta) (aX fa):=by
 intro ρ σ H δ st b st' Q l rs e q;obtain⟨as,st1,e1,e⟩:=cQ e;split at e
 ·next hl =>
  cases e;refine ha ρ σ H δ st as _ _ l rs e1 λxs H1 ρ1 m1 l1 r1=>⟨by rw[r1.length];exact xj hl,λp hp=>?_⟩;have m2:Mn K ρ1 H1 ρ1 (upd H1 p (.tup xs)):=Mn.same (gq.up hp);exact q _ _ ρ1 (m1.trans m2) (l1.same (gq.up hp)) (.tup (gg.of qL) (r1.mn m2))
 ·cases e
abbrev b6(fa:ai->Dm (List D)):ai->Dm D:=λδ st=>bnd (fa δ st) λas st1=>if lim as.length=true then some (.ref st1.length,st1 ++ [.lst as])else none
def wo(ha:qZ K ta fa):dI K (DM ta) (b6 fa):=by
 intro ρ σ H δ st b st' Q l rs e q;obtain⟨as,st1,e1,e⟩:=cQ e;split at e
 ·next hl =>
  cases e;refine ha ρ σ H δ st as _ _ l rs e1 λxs H1 ρ1 m1 l1 r1=>⟨by rw[r1.length];exact xj hl,λp hp=>?_⟩;exact q _ _ _ (m1.trans (Mn.new hp)) (l1.newL hp r1) (.ref (newR l1))
 ·cases e
abbrev az(fa:ai->Dm D):ai->Dm Bool:=λδ st=>bnd (fa δ st) λa st1=>match a with
 |.bl b=>some (b,st1)
 |_=>none
def qf(ha:dI K ta fa):rZ K (xV ta) (az fa):=by intro ρ σ H δ st b st' Q l rs e q;obtain⟨a,st1,e1,e⟩:=cQ e;cases a<;>simp at e;obtain⟨rfl,rfl⟩:=e;refine ha ρ σ H δ st _ _ _ l rs e1 λx H1 ρ1 m1 l1 r1=>?_;cases r1;exact⟨_,rfl,q _ H1 ρ1 m1 l1 rfl⟩
def yx(ha:dI K ta fa):rZ K (tB ta) (az fa):=qf ha
abbrev xk(fa:ai->Dm Bool):ai->Dm Bool:=λδ st=>bnd (fa δ st) λa st1=>some (!a,st1)
def RB(ha:rZ K ta fa):rZ K (Dq ta) (xk fa):=by intro ρ σ H δ st b st' Q l rs e q;obtain⟨a,st1,e1,e⟩:=cQ e;cases e;exact ha ρ σ H δ st _ _ _ l rs e1 λx H1 ρ1 m1 l1 r1=>q _ H1 ρ1 m1 l1 (by rw[r1])
abbrev tL(fa fb:ai->Dm Bool):ai->Dm Bool:=λδ st=>bnd (fa δ st) λa st1=>if a=true then fb δ st1 else some (false,st1)
abbrev wt(fa fb:ai->Dm Bool):ai->Dm Bool:=λδ st=>bnd (fa δ st) λa st1=>if a=true then some (true,st1)else fb δ st1
def M3(ha:rZ K ta fa)(hb:rZ K tb fb):rZ K (Dp ta tb) (tL fa fb):=by
 intro ρ σ H δ st b st' Q l rs e q;obtain⟨a,st1,e1,e⟩:=cQ e;refine ha ρ σ H δ st _ _ _ l rs e1 λx H1 ρ1 m1 l1 r1=>?_;subst r1;cases x with
 |true =>
  refine rR ?_;rw[if_pos rfl]at e;exact hb ρ1 σ H1 δ st1 b st' _ l1 (rs.mn m1) e λy H2 ρ2 m2 l2 r2=>q y H2 ρ2 (m1.trans m2) l2 r2
 |false =>
  refine rQ ?_;rw[if_neg Zam]at e;cases e;exact q _ H1 ρ1 m1 l1 rfl
def M4(ha:rZ K ta fa)(hb:rZ K tb fb):rZ K (O0 ta tb) (wt fa fb):=by
 intro ρ σ H δ st b st' Q l rs e q;obtain⟨a,st1,e1,e⟩:=cQ e;refine ha ρ σ H δ st _ _ _ l rs e1 λx H1 ρ1 m1 l1 r1=>?_;subst r1;cases x with
 |false =>
  refine rQ ?_;rw[if_neg Zam]at e;exact hb ρ1 σ H1 δ st1 b st' _ l1 (rs.mn m1) e λy H2 ρ2 m2 l2 r2=>q y H2 ρ2 (m1.trans m2) l2 r2
 |true =>
  refine rR ?_;rw[if_pos rfl]at e;cases e;exact q _ H1 ρ1 m1 l1 rfl
abbrev sP(fa fb:ai->Dm D):ai->Dm D:=λδ st=>bnd (az fa δ st) λa st1=>if a=true then fb δ st1 else some (.bl false,st1)
abbrev EM(fa fb:ai->Dm D):ai->Dm D:=λδ st=>bnd (az fa δ st) λa st1=>if a=true then some (.bl true,st1)else fb δ st1
abbrev yy(fa:ai->Dm D):ai->Dm D:=λδ st=>bnd (az fa δ st) λa st1=>some (.bl (!a),st1)
def Ye(h:az fa δ st=some (b,st1)):fa δ st=some (.bl b,st1):=by obtain⟨a,st2,e1,e⟩:=cQ h;cases a<;>simp at e;obtain⟨rfl,rfl⟩:=e;exact e1
def RC(ha:dI K ta fa)(hb:dI K tb fb):dI K (xN ta tb) (sP fa fb):=by
 intro ρ σ H δ st b st' Q l rs e q;obtain⟨a,st1,e1,e⟩:=cQ e;refine ha ρ σ H δ st _ _ _ l rs (Ye e1) λx H1 ρ1 m1 l1 r1=>?_;cases r1;refine⟨a,rfl,?_⟩;cases a with
 |true =>
  refine rR ?_;rw[if_pos rfl]at e;exact hb ρ1 σ H1 δ st1 b st' _ l1 (rs.mn m1) e λy H2 ρ2 m2 l2 r2=>q y H2 ρ2 (m1.trans m2) l2 r2
 |false =>
  refine rQ ?_;rw[if_neg Zam]at e;cases e;exact q _ H1 ρ1 m1 l1 (.bl _)
abbrev dg{β:Type}(c:ai->Dm Bool)(fa fb:ai->Dm β):ai->Dm β:=λδ st=>bnd (c δ st) λa st1=>if a=true then fa δ st1 else fb δ st1
def yz(hc:rZ K tc c)(ha:dI K ta fa)(hb:dI K tb fb):dI K (O1 tc ta tb) (dg c fa fb):=by
 intro ρ σ H δ st b st' Q l rs e q;obtain⟨a,st1,e1,e⟩:=cQ e;refine hc ρ σ H δ st _ _ _ l rs e1 λx H1 ρ1 m1 l1 r1=>?_;subst r1;cases x with
 |true =>
  refine rR ?_;rw[if_pos rfl]at e;exact ha ρ1 σ H1 δ st1 b st' _ l1 (rs.mn m1) e λy H2 ρ2 m2 l2 r2=>q y H2 ρ2 (m1.trans m2) l2 r2
 |false =>
  refine rQ ?_;rw[if_neg Zam]at e;exact hb ρ1 σ H1 δ st1 b st' _ l1 (rs.mn m1) e λy H2 ρ2 m2 l2 r2=>q y H2 ρ2 (m1.trans m2) l2 r2
abbrev ny:ai->Dm (Option Int):=λ_ st=>some (none,st)
abbrev pP(fa:ai->Dm D):ai->Dm (Option Int):=λδ st=>bnd (fa δ st) λa st1=>match a with
 |.int i=>some (some i,st1)
 |_=>none
def RD:JG K sA ny:=by intro ρ σ H δ st b st' Q l rs e q;cases e;exact q _ H ρ .refl l rfl
def RE(ha:dI K ta fa):JG K (xY ta) (pP fa):=by intro ρ σ H δ st b st' Q l rs e q;obtain⟨a,st1,e1,e⟩:=cQ e;cases a<;>simp at e;obtain⟨rfl,rfl⟩:=e;refine ha ρ σ H δ st _ _ _ l rs e1 λx H1 ρ1 m1 l1 r1=>?_;cases r1;exact⟨_,rfl,q _ H1 ρ1 m1 l1 rfl⟩
abbrev Az(K:Zfr)(r:V->Option Int->Option Int->Hp->VK->Prop)(g:D->Option Int->Option Int->Dm D):Prop :=
 ∀lo hi,M0 K (λx=>r x lo hi) (λa=>g a lo hi)
abbrev CJ(g:D->Option Int->Option Int->Dm D)(fa:ai->Dm D)(fl fh:ai->Dm (Option Int)):ai->Dm D:=λδ st=>bnd (fa δ st) λa st1=>bnd (fl δ st1) λlo st2=>bnd (fh δ st2) λhi st3=>g a lo hi st3
def yA(hr:Az K r g)(ha:dI K ta fa)(hl:JG K tl fl)(hh:JG K th fh):dI K (PD r ta tl th) (CJ g fa fl fh):=by intro ρ σ H δ st b st' Q l rs e q;obtain⟨a,st1,e1,e⟩:=cQ e;obtain⟨lo,st2,e2,e⟩:=cQ e;obtain⟨hi,st3,e3,e⟩:=cQ e;refine ha ρ σ H δ st a st1 _ l rs e1 λx H1 ρ1 m1 l1 r1=>hl ρ1 σ H1 δ st1 lo st2 _ l1 (rs.mn m1) e2 λy H2 ρ2 m2 l2 r2=>hh ρ2 σ H2 δ st2 hi st3 _ l2 (rs.mn (m1.trans m2)) e3 λz H3 ρ3 m3 l3 r3=>?_;subst r2 r3;exact hr y z ρ3 H3 st3 x a b st' Q l3 (r1.mn (m2.trans m3)) e λv H4 ρ4 m4 l4 r4=>q v H4 ρ4 (((m1.trans m2).trans m3).trans m4) l4 r4
abbrev aD(g:List D->Dm D)(fa:ai->Dm (List D)):ai->Dm D:=λδ st=>bnd (fa δ st) λas st1=>g as st1
def qg(hr:sO K r g)(ha:qZ K ta fa):dI K (LK r ta) (aD g fa):=by intro ρ σ H δ st b st' Q l rs e q;obtain⟨as,st1,e1,e⟩:=cQ e;exact ha ρ σ H δ st as st1 _ l rs e1 λx H1 ρ1 m1 l1 r1=>hr ρ1 H1 st1 x as b st' Q l1 r1 e λv H3 ρ3 m3 l3 r3=>q v H3 ρ3 (m1.trans m3) l3 r3
abbrev a8(K:Zfr)(n:Nat)(F:List D->Dm D):Sp:=λvs H Q _=>vs.length=n/\∃(ρ:List Addr) (st:Store) (ds:List D) (b:D) (st':Store),Rl K ρ H st/\cC K ρ H vs ds/\F ds st=some (b,st') /\
 ∀v H' ρ',Mn K ρ H ρ' H'->Rl K ρ' H' st'->Rp K ρ' H' v b->Q v H'
def oy(ha:qZ K ta fa)(hn:∀δ st as st',fa δ st=some (as,st')->as.length=n):dI K (qQ (a8 K n F) [] E ta) (aD F fa):=by intro ρ σ H δ st b st' Q l rs e q;obtain⟨as,st1,e1,e⟩:=cQ e;refine ha ρ σ H δ st as st1 _ l rs e1 λvs H1 ρ1 m1 l1 r1=>⟨?_,ρ1,st1,as,b,st',l1,?_,e,λv H3 ρ3 m3 l3 r3=>q v H3 ρ3 (m1.trans m3) l3 r3⟩;rw[Zbq,r1.length];exact hn _ _ _ _ e1;rw[Zbq];exact r1
def RF(h:ah δ st=some (as,st')):as.length=0:=by cases h;rfl
def EN(hr:∀δ st as st',fr δ st=some (as,st')->as.length=n):∀δ st as st',af fa fr δ st=some (as,st')->as.length=n+1:=λδ st as st' h=>by
 obtain⟨a,st1,e1,e⟩:=cQ h;obtain⟨c,st2,e2,e⟩:=cQ e;cases e;rw[ZaE,hr _ _ _ _ e2]
end
end L4
namespace L4
open PySem PySem.Spec L2
section
variable {K:Zfr}
abbrev yB(h:Int->Int->D):D->D->Dm D
 |.int i,.int j,st=>some (h i j,st)
 |_,_,_=>none
def EO(hh:∀i j ρ H,Rp K ρ H (gv i j) (h i j)):oh K (tD gv) (yB h):=by intro ρ H st x y a c b st' Q l rx ry e q;unfold yB at e;split at e;cases e;cases rx;cases ry;exact⟨_,_,rfl,rfl,q _ H ρ .refl l (hh _ _ ρ H)⟩;cases e
abbrev xl(c:Int->Int->Bool)(h:Int->Int->D):D->D->Dm D
 |.int i,.int j,st=>if c i j=true then some (h i j,st)else none
 |_,_,_=>none
def CK(hc:∀i j,c i j=true->C i j)(hh:∀i j ρ H,Rp K ρ H (gv i j) (h i j)):oh K (rI C gv) (xl c h):=by
 intro ρ H st x y a d b st' Q l rx ry e q;unfold xl at e;split at e
 ·split at e
  ·next hcc=>cases e;cases rx;cases ry;exact⟨_,_,rfl,rfl,hc _ _ hcc,q _ H ρ .refl l (hh _ _ ρ H)⟩
  ·cases e
 ·cases e
abbrev cu:D->D->Dm D:=yB λi j=>.int (i+j)
abbrev ni:D->D->Dm D:=yB λi j=>.int (i-j)
abbrev nY:D->D->Dm D:=xl (λi j=>decide (-18446744073709551616<i/\i<18446744073709551616) || decide (-18446744073709551616<j/\j<18446744073709551616)) λi j=>.int (i*j)
abbrev pQ:D->D->Dm D:=xl (λi j=>decide (0<j/\j<1073741824)) λi j=>.int (i / j)
abbrev kZ:D->D->Dm D:=xl (λi j=>decide (0<j)) λi j=>.int (i % j)
abbrev vo:D->D->Dm D:=xl (λi j=>decide (0<=j/\j<=1000000/\i.natAbs<18446744073709551616)) λi j=>.int (i ^ j.toNat)
abbrev xm:D->D->Dm D:=yB λi j=>.bl (decide (i<j))
abbrev Yf:D->D->Dm D:=yB λi j=>.bl (decide (i<=j))
abbrev sQ:D->D->Dm D:=yB λi j=>.bl (decide (j<i))
abbrev M5:D->D->Dm D:=yB λi j=>.bl (decide (j<=i))
def JJ:oh K (tD λi j=>.int (i+j)) cu:=EO λ_ _ _ _=>.int _
def M6:oh K (tD λi j=>.int (i-j)) ni:=EO λ_ _ _ _=>.int _
def RG:oh K (rI uK λi j=>.int (i*j)) nY:=CK (λi j h=>by
 rw[ZcA,decide_eq_true_eq,decide_eq_true_eq]at h
 exact h) λ_ _ _ _=>.int _
def RH:oh K (rI DG λi j=>.int (i / j)) pQ:=CK (λi j h=>of_decide_eq_true (p:=0<j/\j<1073741824) h) λ_ _ _ _=>.int _
def M7:oh K (rI (λ_ j=>0<j) λi j=>.int (i % j)) kZ:=CK (λi j h=>of_decide_eq_true h) λ_ _ _ _=>.int _
def RI:oh K (rI DH λi j=>.int (i ^ j.toNat)) vo:=CK (λi j h=>by have h:=of_decide_eq_true (p:=0<=j/\j<=1000000/\i.natAbs<18446744073709551616) h;exact⟨h.1,h.2.1,by lk⟩) λ_ _ _ _=>.int _
def M8:oh K (tD λi j=>.bl (decide (i<j))) xm:=EO λ_ _ _ _=>.bl _
def ER:oh K (tD λi j=>.bl (decide (j<i))) sQ:=EO λ_ _ _ _=>.bl _
def yC:oh K (tD λi j=>.bl (decide (j<=i))) M5:=EO λ_ _ _ _=>.bl _
abbrev mB:D->Dm D
 |.int i,st=>some (.int (-i),st)
 |_,_=>none
def M9:M0 K (rU λi=>.int (-i)) mB:=by intro ρ H st x a b st' Q l rx e q;unfold mB at e;split at e;cases e;cases rx;exact⟨_,rfl,q _ H ρ .refl l (.int _)⟩;cases e
abbrev sV:D->Option V
 |.non=>some .non
 |.bl b=>some (.bl b)
 |.int i=>some (.int i)
 |.str x=>some (.str x)
 |_=>none
def CL(r:Rp K ρ H x a)(h:sV a=some v):x=v:=by cases r<;>first|(cases h;rfl)|cases h
abbrev iM(neg:Bool):D->D->Dm D:=λa b st=>match sV a,sV b with
 |some x,some y=>if rP x y=true then some (.bl (if neg then !decide (x=y)else decide (x=y)),st)else none
 |_,_=>none
def CM:oh K Pb (iM false):=by
 intro ρ H st x y a c b st' Q l rx ry e q;unfold iM at e;split at e
 ·next u v h1 h2 =>
  split at e
  ·next hs=>cases e;cases CL rx h1;cases CL ry h2;exact⟨hs,q _ H ρ .refl l (.bl _)⟩
  ·cases e
 ·cases e
def JK:oh K Pc (iM true):=by
 intro ρ H st x y a c b st' Q l rx ry e q;unfold iM at e;split at e
 ·next u v h1 h2 =>
  split at e
  ·next hs=>cases e;cases CL rx h1;cases CL ry h2;exact⟨hs,q _ H ρ .refl l (.bl _)⟩
  ·cases e
 ·cases e
abbrev b8{α β:Type}(f:α->Option β):List α->Option (List β)
 |[]=>some []
 |a :: r=>match f a,b8 f r with
  |some b,some s=>some (b :: s)
  |_,_=>none
def ES{α β:Type}{f:α->Option β}{a:α}{r:List α}{s:List β}(h:b8 f (a :: r)=some s):∃b t,f a=some b/\b8 f r=some t/\s=b :: t:=by
 unfold b8 at h;split at h
 ·next b t h1 h2=>cases h;exact⟨b,t,h1,h2,rfl⟩
 ·cases h
def yD{α β γ:Type}{f:α->Option β}{g:γ->α}{k:γ->β}(h:∀c,f (g c)=some (k c)):∀l:List γ,b8 f (l.map g)=some (l.map k)
 |[]=>rfl
 |c :: r=>by
  show b8 f (g c :: r.map g)=_;unfold b8;rw[h c,yD h r];rfl
abbrev gZ(st:Store):Nat->D->Option PyData
 |0,_=>none
 |_+1,.non=>some .none
 |_+1,.bl b=>some (.bool b)
 |_+1,.int i=>some (.int i)
 |_+1,.str x=>some (.str x)
 |_+1,.ty _=>none
 |n+1,.tup ds=>(b8 (gZ st n) ds).map PyData.tuple
 |n+1,.ref i=>match items st i with
  |some ds=>(b8 (gZ st n) ds).map PyData.list
  |none=>none
def CN(l:Rl K ρ H st):∀(n:Nat) {v:V} {d:D} {p:PyData},Rp K ρ H v d->gZ st n d=some p->Rep K H v p
 |0,_,_,_,_,h=>by simp[gZ]at h
 |n+1,v,d,p,r,h=>by
  have all:∀{vs:List V} {ds:List D} {ps:List PyData},cC K ρ H vs ds->b8 (gZ st n) ds=some ps->g8 K H vs ps:=by
   intro vs ds ps rr
   induction vs generalizing ds ps with
   |nil=>intro hm;cases rr;cases hm;exact .nil
   |cons w ws ih =>
    intro hm;cases rr with
    |cons ra rb =>
     obtain⟨b,t,h1,h2,rfl⟩:=ES hm;exact .cons (CN l n ra h1) (ih rb h2)
  cases r with
  |non=>simp[gZ]at h;subst h;exact .non
  |bl b=>simp[gZ]at h;subst h;exact .bl b
  |int i=>simp[gZ]at h;subst h;exact .int i
  |str x=>simp[gZ]at h;subst h;exact .str x
  |ty n=>simp[gZ]at h
  |ref hi =>
   simp only[gZ]at h;split at h
   ·next ds hd =>
    obtain⟨ps,h1,rfl⟩:=Zay.mp h;obtain⟨vs,e,rr⟩:=l.items hi hd;exact .lst e (all rr h1)
   ·cases h
  |tup q rr =>
   simp only[gZ]at h;obtain⟨ps,h1,rfl⟩:=Zay.mp h;exact .tup q (all rr h1)
abbrev eJ(neg:Bool):D->D->Dm D:=λa b st=>match gZ st 20 a,gZ st 20 b with
 |some p,some q=>if(PyData.canLay0 p && PyData.canLay0 q && decide (min p.depth q.depth<=60))=true then some (.bl (if neg then !PyData.eqv p q else PyData.eqv p q),st)else none
 |_,_=>none
def AA(neg:Bool):oh K (zS K neg) (eJ neg):=by
 intro ρ H st x y a c b st' Q l rx ry e q;unfold eJ at e;split at e
 ·next u v h1 h2 =>
  split at e
  ·next hs =>
   cases e;rw[ZaD,ZaD,decide_eq_true_eq]at hs;exact⟨u,v,CN l 20 rx h1,CN l 20 ry h2,hs.1.1,hs.1.2,hs.2,q _ H ρ .refl l (.bl _)⟩
  ·cases e
 ·cases e
def at_of(r:cC K ρ H vs ds)(h:dM ds i=some d):∃v,dM vs i=some v/\Rp K ρ H v d:=by
 unfold dM at h ⊢;rw[r.length];cases hx:oe ds.length i with
 |none=>rw[hx]at h;cases h
 |some j =>
  rw[hx]at h;exact r.got h
abbrev ay:D->D->Dm D
 |.tup ds,.int i,st=>match dM ds i with
  |some d=>some (d,st)
  |none=>none
 |_,_,_=>none
def r9:oh K (zL K) ay:=by
 intro ρ H st x y a c b st' Q l rx ry e q;unfold ay at e;split at e
 ·split at e
  ·next d hd =>
   cases e;cases ry;cases rx with
   |tup s r =>
    obtain⟨v,hv,rv⟩:=at_of r hd;exact⟨_,_,_,v,rfl,rfl,s,hv,q v H ρ .refl l rv⟩
  ·cases e
 ·cases e
abbrev bO:D->D->Dm D
 |.ref r,.int i,st=>match items st r with
  |some ds=>match dM ds i with
   |some d=>some (d,st)
   |none=>none
  |none=>none
 |_,_,_=>none
def xn:oh K (zK K) bO:=by
 intro ρ H st x y a c b st' Q l rx ry e q;unfold bO at e;split at e
 ·split at e
  ·next ds hi =>
   split at e
   ·next d hd =>
    cases e;cases ry;cases rx with
    |ref hr =>
     obtain⟨vs,s,r⟩:=l.items hr hi;obtain⟨v,hv,rv⟩:=at_of r hd;exact⟨_,_,_,v,rfl,rfl,s,hv,q v H ρ .refl l rv⟩
   ·cases e
  ·cases e
 ·cases e
abbrev AB:D->D->Dm D
 | .str z,.int i,st=>if lim z.length=true then match dM z.cps.toList i with
   |some c=>some (.str ⟨#[c]⟩,st)
   |none=>none
  else none
 |_,_,_=>none
abbrev cutD(xs:List D)(lo hi:Option Int):List D:=(xs.drop (HT.cO xs.length 0 lo)).take (HT.cO xs.length xs.length hi-HT.cO xs.length 0 lo)
def cC.cut(r:cC K ρ H vs ds)(lo hi:Option Int):cC K ρ H (oV vs lo hi) (cutD ds lo hi):=by unfold oV cutD;rw[r.length];exact(r.drop _).take _
abbrev AE:D->Option Int->Option Int->Dm D
 |.tup ds,lo,hi,st=>some (.tup (cutD ds lo hi),st)
 |_,_,_,_=>none
def got(l:Rl K ρ H st)(r:cC K ρ H vs ds)(q:∀v H' ρ',Mn K ρ H ρ' H'->Rl K ρ' H' st->Rp K ρ' H' v (.tup ds)->Q v H'):rS K H vs Q :=
 λp H' s e=>q _ H' ρ (Mn.same e) (l.same e) (.tup s (r.mn (Mn.same e)))
def RJ:Az K (yc K) AE:=by
 intro lo hi ρ H st x a b st' Q l rx e q;cases a with
 |tup ds =>
  cases e;cases rx with
  |tup s r=>exact⟨_,_,rfl,s,got l (r.cut lo hi) q⟩
 |_=>cases e
abbrev vt:D->Option Int->Option Int->Dm D
 |.ref r,lo,hi,st=>match items st r with
  |some ds=>some (.ref st.length,st ++ [.lst (cutD ds lo hi)])
  |none=>none
 |_,_,_,_=>none
def RK:Az K (DR K) vt:=by
 intro lo hi ρ H st x a b st' Q l rx e q;cases a with
 |ref i =>
  simp only[vt]at e;split at e
  ·next ds hd =>
   cases e;cases rx with
   |ref hr =>
    obtain⟨vs,s,r⟩:=l.items hr hd;exact⟨_,_,rfl,s,λp hp=>q _ _ _ (Mn.new hp) (l.newL hp (r.cut lo hi)) (.ref (newR l))⟩
  ·cases e
 |_=>cases e
abbrev iN:D->D->Dm D
 |.tup a,.tup b,st=>if lim (a.length+b.length)=true then some (.tup (a ++ b),st)else none
 |_,_,_=>none
def RL:oh K (uT K) iN:=by
 intro ρ H st x y a c b st' Q l rx ry e q;unfold iN at e;split at e
 ·split at e
  ·next hl =>
   cases e;cases rx with
   |tup s r =>
    cases ry with
    |tup s' r'=>exact⟨_,_,_,_,rfl,rfl,s,s',by rw[r.length,r'.length];exact xj hl,got l (r.append r') q⟩
  ·cases e
 ·cases e
abbrev own(st:Store)(i:Nat):Option (List D):=match st[i]? with
 |some (.lst ds)=>some ds
 |_=>none
def sd(h:own st i=some ds):st[i]?=some (.lst ds):=by
 unfold own at h;split at h
 ·next ds' hs=>cases h;exact hs
 ·cases h
abbrev o3:D->D->Dm D
 |.ref i,.ref j,st=>match own st i,own st j with
  |some a,some b=>if lim (a.length+b.length)=true then some (.ref st.length,st ++ [.lst (a ++ b)])else none
  |_,_=>none
 |_,_,_=>none
def RM:oh K DW o3:=by
 intro ρ H st x y a c b st' Q l rx ry e q;unfold o3 at e;split at e
 ·split at e
  ·next a b h1 h2 =>
   split at e
   ·next hl =>
    cases e;cases rx with
    |ref hi =>
     cases ry with
     |ref hj =>
      obtain⟨vs,e1,r1⟩:=l.obj _ _ _ hi (sd h1);obtain⟨ws,e2,r2⟩:=l.obj _ _ _ hj (sd h2);exact⟨_,_,_,_,rfl,rfl,e1,e2,by rw[r1.length,r2.length];exact xj hl,λp hp=>q _ _ _ (Mn.new hp) (l.newL hp (r1.append r2)) (.ref (newR l))⟩
   ·cases e
  ·cases e
 ·cases e
abbrev tM:D->D->Dm D
 |.ref i,.int k,st=>match own st i with
  |some a=>if(decide (-9223372036854775808<=k/\k<9223372036854775808) && lim (a.length*k.toNat))=true then some (.ref st.length,st ++ [.lst (List.replicate k.toNat a).flatten])else none
  |_=>none
 |_,_,_=>none
def RN:∀{ws vs:List V} {ds:List D},cC K ρ H ws ds->b8 sV ds=some vs->ws=vs
 |_,_,_,.nil,h=>by cases h;rfl
 |_,_,_,.cons a b,h=>by
  obtain⟨x,t,h1,h2,rfl⟩:=ES h;rw[CL a h1,RN b h2]
def RO(h:sV a=some v):mE v=true:=by cases a<;>first|(cases h;rfl)|cases h
def RP:∀{ds:List D} {vs:List V},b8 sV ds=some vs->vs.all mE=true
 |[],_,h=>by cases h;rfl
 |d :: r,_,h=>by
  obtain⟨x,t,h1,h2,rfl⟩:=ES h;rw[List.all_cons,RO h1,RP h2];rfl
abbrev cR(st:Store):D->Option (List D)
 |.tup ds=>some ds
 |.ref i=>items st i
 |_=>none
def JL(l:Rl K ρ H st)(r:Rp K ρ H x a)(h:cR st a=some ds):∃p vs,x=.ref p/\(jW K H p vs\/gg K H p vs)/\cC K ρ H vs ds:=by
 cases r<;>first|(cases h;done)|skip
 ·next hi=>obtain⟨vs,s,r⟩:=l.items hi h;exact⟨_,vs,rfl,.inl s,r⟩
 ·next s r=>cases h;exact⟨_,_,rfl,.inr s,r⟩
abbrev uq(neg:Bool):D->D->Dm D:=λa c st=>match sV a,(cR st c).bind (b8 sV)with
 |some x,some vs=>some (.bl (if neg then !x6 x vs else x6 x vs),st)
 |_,_=>none
def yE(neg:Bool):oh K (LS K neg) (uq neg):=by
 intro ρ H st x y a c b st' Q l rx ry e q;unfold uq at e;split at e
 ·next u vs h1 h2 =>
  cases e;obtain⟨ds,h3,h4⟩:=Za0.mp h2;obtain⟨p,ws,rfl,s,r⟩:=JL l ry h3;cases CL rx h1;cases RN r h4;exact⟨p,_,rfl,s,RO h1,RP h4,q _ H ρ .refl l (.bl _)⟩
 ·cases e
def cC.one'(r:cC K ρ H vs [d]):∃v,vs=[v]/\Rp K ρ H v d:=by cases r with|cons a b=>cases b;exact⟨_,rfl,a⟩
def cC.two'(r:cC K ρ H vs [d,e]):∃v w,vs=[v,w]/\Rp K ρ H v d/\Rp K ρ H w e:=by
 cases r with
 |cons a b=>obtain⟨w,rfl,r⟩:=b.one';exact⟨_,_,rfl,a,r⟩
abbrev cK:List D->Dm D
 |[a],st=>match cR st a with
  |some ds=>some (.int ds.length,st)
  |none=>none
 |_,_=>none
def vw:sO K (λxs H Q=>∃p ys,xs=[.ref p]/\(jW K H p ys\/gg K H p ys)/\Q (.int ys.length) H) cK:=by
 intro ρ H st xs as b st' Q l rx e q;unfold cK at e;split at e
 ·split at e
  ·next ds hd =>
   cases e;obtain⟨v,rfl,r⟩:=rx.one';obtain⟨p,vs,rfl,s,r⟩:=JL l r hd;exact⟨p,vs,rfl,s,q _ H ρ .refl l (by rw[r.length];exact .int _)⟩
  ·cases e
 ·cases e
abbrev pR:List D->Dm D
 |[a],st=>match cR st a with
  |some ds=>some (.ref st.length,st ++ [.lst ds])
  |none=>none
 |_,_=>none
def RQ:sO K (λxs H Q=>∃p ys,xs=[.ref p]/\(jW K H p ys\/gg K H p ys)/\∀l,H l=none->Q (.ref l) (upd H l (.lst ys))) pR:=by
 intro ρ H st xs as b st' Q l rx e q;unfold pR at e;split at e
 ·split at e
  ·next ds hd =>
   cases e;obtain⟨v,rfl,r⟩:=rx.one';obtain⟨p,vs,rfl,s,r⟩:=JL l r hd;exact⟨p,vs,rfl,s,λp hp=>q _ _ _ (Mn.new hp) (l.newL hp r) (.ref (newR l))⟩
  ·cases e
 ·cases e
abbrev bp:List D->Dm D
 |[a],st=>match cR st a with
  |some ds=>some (.tup ds,st)
  |none=>none
 |_,_=>none
def ET:sO K (λxs H Q=>∃p ys,xs=[.ref p]/\((jW K H p ys/\∀l,H l=none->Q (.ref l) (upd H l (.tup ys)))\/(gg K H p ys/\Q (.ref p) H))) bp:=by
 intro ρ H st xs as b st' Q l rx e q;unfold bp at e;split at e
 ·split at e
  ·next ds hd =>
   cases e;obtain⟨v,rfl,r⟩:=rx.one';obtain⟨p,vs,rfl,s,r'⟩:=JL l r hd;refine⟨p,vs,rfl,?_⟩;rcases s with s|s
   ·exact .inl ⟨s,(got l r' q).new⟩
   ·exact .inr ⟨s,(got l r' q).it s⟩
  ·cases e
 ·cases e
abbrev q5:List D->Dm D
 |[.int i,.int j],st=>some (.int (if j > i then j else i),st)
 |_,_=>none
abbrev sR:List D->Dm D
 |[.int i,.int j],st=>some (.int (if j<i then j else i),st)
 |_,_=>none
def Na:sO K (λxs H Q=>∃i j,xs=[.int i,.int j]/\Q (.int (if j > i then j else i)) H) q5:=by intro ρ H st xs as b st' Q l rx e q;unfold q5 at e;split at e;cases e;obtain⟨v,w,rfl,r1,r2⟩:=rx.two';cases r1;cases r2;exact⟨_,_,rfl,q _ H ρ .refl l (.int _)⟩;cases e
def Yg:sO K (λxs H Q=>∃i j,xs=[.int i,.int j]/\Q (.int (if j<i then j else i)) H) sR:=by intro ρ H st xs as b st' Q l rx e q;unfold sR at e;split at e;cases e;obtain⟨v,w,rfl,r1,r2⟩:=rx.two';cases r1;cases r2;exact⟨_,_,rfl,q _ H ρ .refl l (.int _)⟩;cases e
abbrev pS:List D->Dm D
 |[.int i],st=>some (.int i,st)
 |[.bl k],st=>some (.int (if k then 1 else 0),st)
 |_,_=>none
def RS:sO K (λxs H Q=>(∃i,xs=[.int i]/\Q (.int i) H)\/∃k,xs=[.bl k]/\Q (.int (if k then 1 else 0)) H) pS:=by intro ρ H st xs as b st' Q l rx e q;unfold pS at e;split at e;cases e;obtain⟨v,rfl,r⟩:=rx.one';cases r;exact .inl ⟨_,rfl,q _ H ρ .refl l (.int _)⟩;cases e;obtain⟨v,rfl,r⟩:=rx.one';cases r;exact .inr ⟨_,rfl,q _ H ρ .refl l (.int _)⟩;cases e
abbrev iO:List D->Dm D
 |[.int j],st=>some (.ref st.length,st ++ [.lL 0 j])
 |_,_=>none
abbrev eW:List D->Dm D
 |[.int i,.int j],st=>some (.ref st.length,st ++ [.lL i j])
 |_,_=>none
def RT:sO K (λxs H Q=>∃j:Int,xs=[.int j]/\∀p,H p=none->Q (.ref p) (upd H p (.lL 0 j))) iO:=by intro ρ H st xs as b st' Q l rx e q;unfold iO at e;split at e;cases e;obtain⟨v,rfl,r⟩:=rx.one';cases r;exact⟨_,rfl,λp hp=>q _ _ _ (Mn.new hp) (l.new hp (show yu K _ _ p (.lL _ _)from qL)) (.ref (newR l))⟩;cases e
def RU:sO K (λxs H Q=>∃i j:Int,xs=[.int i,.int j]/\∀p,H p=none->Q (.ref p) (upd H p (.lL i j))) eW:=by intro ρ H st xs as b st' Q l rx e q;unfold eW at e;split at e;cases e;obtain⟨v,w,rfl,r1,r2⟩:=rx.two';cases r1;cases r2;exact⟨_,_,rfl,λp hp=>q _ _ _ (Mn.new hp) (l.new hp (show yu K _ _ p (.lL _ _)from qL)) (.ref (newR l))⟩;cases e
abbrev aE(lo:Int)(n:Nat):List D:=(List.range n).map λ(k:Nat)=>D.int (lo+k)
def Yh(lo:Int)(n:Nat):cC K ρ H (g7 lo n) (aE lo n):=by
 unfold g7 aE
 induction (List.range n)with
 |nil=>exact .nil
 |cons a r ih=>exact .cons (.int _) ih
abbrev rH(lo hi:Int):Bool:=decide (-4611686018427387904<=lo/\lo<4611686018427387904/\-4611686018427387904<=hi/\hi<4611686018427387904) && lim (hi-lo).toNat
def RV(h:rH lo hi=true):(-(2 ^ 62)<=lo/\lo<2 ^ 62/\-(2 ^ 62)<=hi/\hi<2 ^ 62)/\(hi-lo).toNat<=2 ^ 24:=by unfold rH at h;rw[ZaD,decide_eq_true_eq]at h;exact⟨by lk,Zap (Zct h.2) ∅⟩
abbrev kL(st:Store):D->Option (Int×Int)
 |.ref i=>match st[i]? with
  |some (.lL lo hi)=>some (lo,hi)
  |_=>none
 |_=>none
def AF(l:Rl K ρ H st)(r:Rp K ρ H x a)(h:kL st a=some (lo,hi)):∃p,x=.ref p/\H p=some (.lL lo hi):=by
 cases r<;>first|(cases h;done)|skip
 ·next hi' =>
  simp only[kL]at h;split at h
  ·next lo' Yi hs=>cases h;exact⟨_,rfl,l.obj _ _ _ hi' hs⟩
  ·cases h
abbrev dc:List D->Dm D
 |[a],st=>match kL st a with
  |some (lo,hi)=>if rH lo hi=true then some (.ref st.length,st ++ [.lst (aE lo (hi-lo).toNat)])else none
  |none=>none
 |_,_=>none
def RW:sO K (λxs H Q=>∃p lo hi,xs=[.ref p]/\H p=some (.lL lo hi)/\(-(2 ^ 62)<=lo/\lo<2 ^ 62/\-(2 ^ 62)<=hi/\hi<2 ^ 62)/\(hi-lo).toNat<=2 ^ 24 /\
  ∀l,H l=none->Q (.ref l) (upd H l (.lst (g7 lo (hi-lo).toNat)))) dc:=by
 intro ρ H st xs as b st' Q l rx e q;unfold dc at e;split at e
 ·split at e
  ·next lo hi hd =>
   split at e
   ·next ok =>
    cases e;obtain⟨v,rfl,r⟩:=rx.one';obtain⟨p,rfl,s⟩:=AF l r hd;exact⟨p,lo,hi,rfl,s,(RV ok).1,(RV ok).2,λp hp=>q _ _ _ (Mn.new hp) (l.newL hp (Yh lo _)) (.ref (newR l))⟩
   ·cases e
  ·cases e
 ·cases e
abbrev xo:List D->Dm D
 |[a],st=>match kL st a with
  |some (lo,hi)=>if rH lo hi=true then some (.tup (aE lo (hi-lo).toNat),st)else none
  |none=>none
 |_,_=>none
abbrev iV:D->Option Int
 |.int i=>some i
 |_=>none
def EU:∀{ws:List V} {ds:List D} {ns:List Int},cC K ρ H ws ds->b8 iV ds=some ns->ws=ns.map V.int
 |_,_,_,.nil,h=>by cases h;rfl
 |_,_,_,.cons a b,h=>by
  obtain⟨x,t,h1,h2,rfl⟩:=ES h;rw[EU b h2];cases a<;>first|(cases h1;rfl)|cases h1
abbrev bV:D->Option Bool
 |.bl i=>some i
 |_=>none
abbrev AG:List D->Dm D
 |[.ref i],st=>match (items st i).bind (b8 bV)with
  |some bs=>some (.bl (bs.all id),st)
  |none=>none
 |_,_=>none
abbrev wx(T:String)(st:Store):D->Bool
 |.str _=>T == "str"
 |.tup _=>T == "tuple"
 |.ref i=>T == "list" && (items st i).isSome
 |_=>false
def RX(l:Rl K ρ H st)(r:Rp K ρ H x a)(h:wx T st a=true):Ja K T x H:=by
 cases r<;>first|(cases h;done)|skip
 ·exact eq_of_beq h
 ·next hi =>
  simp only[wx,ZaD]at h;obtain⟨ds,hd⟩:=ZbO.mp h.2;obtain⟨vs,s,_⟩:=l.items hi hd;exact .inl ⟨eq_of_beq h.1,vs,s⟩
 ·next s r=>exact .inr (.inl ⟨eq_of_beq h,_,s⟩)
abbrev ju(T:String)(g:D->List D->Dm D)(fo:ai->Dm D)(fa:ai->Dm (List D)):ai->Dm D:=λδ st=>bnd (fo δ st) λo st1=>if wx T st1 o=true then bnd (fa δ st1) λas st2=>g o as st2 else none
def CO(hr:xi K T r g)(ho:dI K to fo)(ha:qZ K ta fa):dI K (LV K T r to ta) (ju T g fo fa):=by
 intro ρ σ H δ st b st' Q l rs e q;obtain⟨o,st1,e1,e⟩:=cQ e;split at e
 ·next ht =>
  obtain⟨as,st2,e2,e⟩:=cQ e;refine ho ρ σ H δ st o st1 _ l rs e1 λx H1 ρ1 m1 l1 r1=>⟨RX l1 r1 ht,ha ρ1 σ H1 δ st1 as st2 _ l1 (rs.mn m1) e2 λxs H2 ρ2 m2 l2 r2=>?_⟩;exact hr ρ2 H2 st2 x xs o as b st' Q l2 (r1.mn m2) r2 e λv H3 ρ3 m3 l3 r3=>q v H3 ρ3 ((m1.trans m2).trans m3) l3 r3
 ·cases e
abbrev aI:D->List D->Dm D
 |.ref i,[y],st=>match own st i with
  |some xs=>if lim xs.length=true then some (.non,st.set i (.lst (xs ++ [y])))else none
  |none=>none
 |_,_,_=>none
def CP:xi K "list" sC aI:=by
 intro ρ H st x xs a as b st' Q l rx tN e q;unfold aI at e;split at e
 ·split at e
  ·next ys hy =>
   split at e
   ·next hl =>
    cases e;obtain⟨v,rfl,r⟩:=tN.one';cases rx with
    |ref hi =>
     obtain⟨vs,e1,r1⟩:=l.obj _ _ _ hi (sd hy);obtain⟨l2,m2⟩:=l.putL hi (sd hy) (r1.append (.one r));exact⟨_,vs,v,rfl,rfl,e1,by rw[r1.length];exact JI hl,q _ _ ρ m2 l2 .non⟩
   ·cases e
  ·cases e
 ·cases e
abbrev lM:D->List D->Dm D
 |.ref i,[.ref j],st=>match own st i,own st j with
  |some xs,some ys=>if lim (xs.length+ys.length)=true then some (.non,st.set i (.lst (xs ++ ys)))else none
  |_,_=>none
 |_,_,_=>none
def RY:xi K "list" sD lM:=by
 intro ρ H st x xs a as b st' Q l rx tN e q;unfold lM at e;split at e
 ·split at e
  ·next xs' ys hx hy =>
   split at e
   ·next hl =>
    cases e;obtain⟨v,rfl,r⟩:=tN.one';cases rx with
    |ref hi =>
     cases r with
     |ref hj =>
      obtain⟨vs,e1,r1⟩:=l.obj _ _ _ hi (sd hx);obtain⟨ws,e2,r2⟩:=l.obj _ _ _ hj (sd hy);obtain⟨l2,m2⟩:=l.putL hi (sd hx) (r1.append r2);exact⟨_,_,vs,ws,rfl,rfl,e1,e2,by rw[r1.length,r2.length];exact xj hl,q _ _ ρ m2 l2 .non⟩
   ·cases e
  ·cases e
 ·cases e
abbrev nZ:D->List D->Dm D
 |.ref i,[.int k],st=>match own st i with
  | some xs=>if decide (-9223372036854775808<=k/\k < 9223372036854775808)=true then match seqIndex? k xs.length with
    |some j=>match xs[j]? with
     |some y=>some (y,st.set i (.lst (xs.eraseIdx j)))
     |none=>none
    |none=>none
   else none
  |none=>none
 |_,_,_=>none
def RZ:xi K "list" uN nZ:=by
 intro ρ H st x xs a as b st' Q l rx tN e q;unfold nZ at e;split at e
 ·split at e
  ·next ys hy =>
   split at e
   ·next hk =>
    split at e
    ·next j hj =>
     split at e
     ·next y hy' =>
      cases e;obtain⟨v,rfl,r⟩:=tN.one';cases r;cases rx with
      |ref hi =>
       obtain⟨vs,e1,r1⟩:=l.obj _ _ _ hi (sd hy);obtain⟨w,hw,rw'⟩:=r1.got hy';obtain⟨l2,m2⟩:=l.putL hi (sd hy) (r1.erase j);have hk:=of_decide_eq_true hk;exact⟨_,vs,_,j,w,rfl,rfl,e1,by lk,by lk,by rw[r1.length];exact hj,hw,q _ _ ρ m2 l2 (rw'.mn m2)⟩
     ·cases e
    ·cases e
   ·cases e
  ·cases e
 ·cases e
abbrev lb:D->List D->Dm D
 |.tup ds,[.int v],st=>match b8 iV ds with
  |some ns=>match ns.findIdx? (λi=>decide (i=v))with
   |some j=>some (.int (j:Int),st)
   |none=>none
  |none=>none
 |_,_,_=>none
def R0:xi K "tuple" (rV K) lb:=by
 intro ρ H st x xs a as b st' Q l rx tN e q;unfold lb at e;split at e
 ·split at e
  ·next ns hn =>
   split at e
   ·next j hj =>
    cases e;obtain⟨v,rfl,r⟩:=tN.one';cases r;cases rx with
    |tup s r =>
     cases EU r hn;obtain⟨h1,h2,h3⟩:=ZbM.mp hj;refine⟨_,ns,_,j,rfl,rfl,s,?_,λi hi z=>?_,q _ H ρ .refl l (.int _)⟩
     ·rw[Zac h1];exact congrArg some (of_decide_eq_true h2)
     ·have:=h3 i hi
      obtain⟨hl,ez⟩:=Zab.mp z;rw[ez]at this;simp at this
   ·cases e
  ·cases e
 ·cases e
abbrev lO:D->List D->Dm D
 |.ref i,[.int v],st=>match (items st i).bind (b8 iV)with
  |some ns=>if v∈ns/\ns.length<=1000/\∀i∈ns,-1000000000000000000<=i/\i<=1000000000000000000 then some (.int (ns.idxOf v:Int),st)else none
  |none=>none
 |_,_,_=>none
abbrev EV(st:Store):D->Option String
 |.non=>some "NoneType"
 |.bl _=>some "bool"
 |.int _=>some "int"
 |.str _=>some "str"
 |.tup _=>some "tuple"
 |.ref i=>match st[i]? with
  |some (.lst _)=>some "list"
  |some (.dct _)=>some "dict"
  |_=>none
 |.ty _=>none
abbrev qh:List D->Dm D
 |[a,.ty c],st=>match EV st a with
  |some T=>if T=c then some (.bl true,st)else none
  |none=>none
 |_,_=>none
end
section
variable {K:Zfr}
def R1:oh K DX tM:=by
 intro ρ H st x y a c b st' Q l rx ry e q;unfold tM at e;split at e
 ·split at e
  ·next ds hd =>
   split at e
   ·next ok =>
    cases e;rw[ZaD,decide_eq_true_eq]at ok;cases ry;cases rx with
    |ref hi =>
     obtain⟨vs,e1,r1⟩:=l.obj _ _ _ hi (sd hd);exact⟨_,_,vs,rfl,rfl,e1,by lk,by lk,by rw[r1.length];exact xj ok.2,λp hp=>q _ _ _ (Mn.new hp) (l.newL hp (r1.flat _)) (.ref (newR l))⟩
   ·cases e
  ·cases e
 ·cases e
def Rs.set(h:Rs K ρ H σ δ)(r:Rp K ρ H v d):Rs K ρ H (σ.set i (some v)) (δ.set i (some d)):=by
 refine⟨by rw[Za8,Za8];exact h.1,λj e hj=>?_⟩;by_cases hij:i=j;subst hij;have hl:i<δ.length:=by
  have:=(Zab.mp hj).1
  rwa [Za8]at this
 rw[Zah hl]at hj;cases hj;exact⟨v,by rw[Zah (by rw[h.1];exact hl)],r⟩;rw[Zak hij]at hj;obtain⟨w,hw,rw'⟩:=h.2 j e hj;exact⟨w,by rw[Zak hij];exact hw,rw'⟩
abbrev AH(K:Zfr)(g:TG)(f:D->ai->Dm ai):Prop :=
 ∀(ρ:List Addr) (σ:St) (H:Hp) (δ:ai) (st:Store) (v:V) (d:D) (δ':ai) (st':Store) (Q:St->Hp->Prop),Rl K ρ H st->Rs K ρ H σ δ->Rp K ρ H v d->f d δ st=some (δ',st') ->
  (∀σ' H' ρ',Mn K ρ H ρ' H'->Rl K ρ' H' st'->Rs K ρ' H' σ' δ'->Q σ' H')->g v σ H Q
abbrev xq(K:Zfr)(g:uH)(f:List D->ai->Dm ai):Prop :=
 ∀(ρ:List Addr) (σ:St) (H:Hp) (δ:ai) (st:Store) (v:List V) (d:List D) (δ':ai) (st':Store) (Q:St->Hp->Prop),Rl K ρ H st->Rs K ρ H σ δ->cC K ρ H v d->f d δ st=some (δ',st') ->
  (∀σ' H' ρ',Mn K ρ H ρ' H'->Rl K ρ' H' st'->Rs K ρ' H' σ' δ'->Q σ' H')->g v σ H Q
abbrev hName(i:Nat):D->ai->Dm ai:=λd δ st=>some (δ.set i (some d),st)
def jO(i:Nat):AH K (qO i) (hName i):=by intro ρ σ H δ st v d δ' st' Q l rs r e q;cases e;exact q _ H ρ .refl l (rs.set r)
abbrev gx:List D->ai->Dm ai
 |[],δ,st=>some (δ,st)
 |_,_,_=>none
abbrev aO(f:D->ai->Dm ai)(g:List D->ai->Dm ai):List D->ai->Dm ai
 |d :: ds,δ,st=>bnd (f d δ st) λδ1 st1=>g ds δ1 st1
 |_,_,_=>none
def AI:xq K Dy gx:=by
 intro ρ σ H δ st v d δ' st' Q l rs r e q;cases r with
 |nil=>cases e;exact⟨rfl,q _ H ρ .refl l rs⟩
 |cons a b=>cases e
def ur(hf:AH K t f)(hg:xq K u g):xq K (xQ t u) (aO f g):=by
 intro ρ σ H δ st v d δ' st' Q l rs r e q;cases r with
 |nil=>cases e
 |cons a b =>
  obtain⟨δ1,st1,e1,e⟩:=cQ e;exact⟨_,_,rfl,hf ρ σ H δ st _ _ δ1 st1 _ l rs a e1 λσ1 H1 ρ1 m1 l1 r1=>hg ρ1 σ1 H1 δ1 st1 _ _ δ' st' Q l1 r1 (b.mn m1) e λσ2 H2 ρ2 m2 l2 r2=>q σ2 H2 ρ2 (m1.trans m2) l2 r2⟩
abbrev fW(n:Nat)(f:List D->ai->Dm ai):D->ai->Dm ai
 |.tup ds,δ,st=>if ds.length=n then f ds δ st else none
 |_,_,_=>none
def AJ(hf:xq K t f):AH K (zz K n t) (fW n f):=by
 intro ρ σ H δ st v d δ' st' Q l rs r e q;cases r<;>first|(cases e;done)|skip
 ·next s r =>
  simp only[fW]at e;split at e
  ·next hl=>exact⟨_,_,rfl,s,by rw[r.length];exact hl,hf ρ σ H δ st _ _ δ' st' Q l rs r e q⟩
  ·cases e
abbrev hSub(fo fi:ai->Dm D):D->ai->Dm ai:=λd δ st=>bnd (fo δ st) λo st1=>bnd (fi δ st1) λi st2=>match o,i with
 |.ref r,.int k=>match own st2 r with
  |some xs=>match oe xs.length k with
   |some j=>some (δ,st2.set r (.lst (xs.set j d)))
   |none=>none
  |none=>none
 |_,_=>none
def R3(ho:dI K to fo)(hi:dI K ti fi):AH K (L2.ni to ti x4) (hSub fo fi):=by
 intro ρ σ H δ st v d δ' st' Q l rs r e q;obtain⟨o,st1,e1,e⟩:=cQ e;obtain⟨i,st2,e2,e⟩:=cQ e;refine ho ρ σ H δ st o st1 _ l rs e1 λx H1 ρ1 m1 l1 r1=>hi ρ1 σ H1 δ st1 i st2 _ l1 (rs.mn m1) e2 λy H2 ρ2 m2 l2 r2=>?_;split at e
 ·split at e
  ·next xs hx =>
   split at e
   ·next j hj =>
    cases e;cases r2;cases r1 with
    |ref hr =>
     have hr2:=m2.r _ _ hr;obtain⟨vs,e3,r3⟩:=l2.obj _ _ _ hr2 (sd hx);obtain⟨l3,m3⟩:=l2.putL hr2 (sd hx) (r3.set (r.mn (m1.trans m2)) j);exact⟨_,vs,_,j,rfl,rfl,e3,by rw[r3.length];exact hj,q σ _ ρ2 ((m1.trans m2).trans m3) l3 (rs.mn ((m1.trans m2).trans m3))⟩
   ·cases e
  ·cases e
 ·cases e
abbrev Go(K:Zfr)(ρ:List Addr)(H:Hp)(st':Store)(E:Ends):Fl->Prop
 |.nx δ=>∀σ' H' ρ',Mn K ρ H ρ' H'->Rl K ρ' H' st'->Rs K ρ' H' σ' δ->E.nx σ' H'
 |.bk δ=>∀σ' H' ρ',Mn K ρ H ρ' H'->Rl K ρ' H' st'->Rs K ρ' H' σ' δ->E.bk σ' H'
 |.ct δ=>∀σ' H' ρ',Mn K ρ H ρ' H'->Rl K ρ' H' st'->Rs K ρ' H' σ' δ->E.ct σ' H'
 |.rt d=>∀v H' ρ',Mn K ρ H ρ' H'->Rl K ρ' H' st'->Rp K ρ' H' v d->E.rt v H'
def Go.mn(g:Go K ρ H st' E fl)(m:Mn K ρ H ρ1 H1):Go K ρ1 H1 st' E fl:=by cases fl<;>exactλv H' ρ' m' l r=>g v H' ρ' (m.trans m') l r
abbrev qi(K:Zfr)(t:TS)(f:ai->Dm Fl):Prop :=
 ∀(ρ:List Addr) (σ:St) (H:Hp) (δ:ai) (st:Store) (fl:Fl) (st':Store) (E:Ends),Rl K ρ H st->Rs K ρ H σ δ->f δ st=some (fl,st')->Go K ρ H st' E fl->t E σ H
abbrev aK:ai->Dm Fl:=λδ st=>some (.nx δ,st)
def vz:qi K xO aK:=by intro ρ σ H δ st fl st' E l rs e g;cases e;exact g σ H ρ .refl l rs
abbrev aq(f g:ai->Dm Fl):ai->Dm Fl:=λδ st=>bnd (f δ st) λfl st1=>match fl with
 |.nx δ1=>g δ1 st1
 |x=>some (x,st1)
def kU(hf:qi K t f)(hg:qi K u g):qi K (Dr t u) (aq f g):=by
 intro ρ σ H δ st fl st' E l rs e q;obtain⟨x,st1,e1,e⟩:=cQ e;refine hf ρ σ H δ st x st1 _ l rs e1 ?_;cases x with
 |nx δ1=>exactλσ1 H1 ρ1 m1 l1 r1=>hg ρ1 σ1 H1 δ1 st1 fl st' E l1 r1 e (q.mn m1)
 |bk δ1=>cases e;exact q
 |ct δ1=>cases e;exact q
 |rt d=>cases e;exact q
def uu(hc:rZ K c fc)(hf:qi K t f)(hg:qi K u g):qi K (Dt c t u) (dg fc f g):=by
 intro ρ σ H δ st fl st' E l rs e q;obtain⟨a,st1,e1,e⟩:=cQ e;refine hc ρ σ H δ st _ _ _ l rs e1 λx H1 ρ1 m1 l1 r1=>?_;subst r1;cases x with
 |true =>
  refine rR ?_;rw[if_pos rfl]at e;exact hf ρ1 σ H1 δ st1 fl st' E l1 (rs.mn m1) e (q.mn m1)
 |false =>
  refine rQ ?_;rw[if_neg Zam]at e;exact hg ρ1 σ H1 δ st1 fl st' E l1 (rs.mn m1) e (q.mn m1)
abbrev bu(f:ai->Dm D):ai->Dm Fl:=λδ st=>bnd (f δ st) λ_ st1=>some (.nx δ,st1)
def AK(hf:dI K t f):qi K (xP t) (bu f):=by intro ρ σ H δ st fl st' E l rs e q;obtain⟨a,st1,e1,e⟩:=cQ e;cases e;exact hf ρ σ H δ st a _ _ l rs e1 λx H1 ρ1 m1 l1 r1=>q σ H1 ρ1 m1 l1 (rs.mn m1)
abbrev aN(f:ai->Dm D):ai->Dm Fl:=λδ st=>bnd (f δ st) λd st1=>some (.rt d,st1)
def tO(hf:dI K t f):qi K (Ds t) (aN f):=by intro ρ σ H δ st fl st' E l rs e q;obtain⟨a,st1,e1,e⟩:=cQ e;cases e;exact hf ρ σ H δ st a _ _ l rs e1 λx H1 ρ1 m1 l1 r1=>q x H1 ρ1 m1 l1 r1
abbrev aB(f:ai->Dm D)(h:D->ai->Dm ai):ai->Dm Fl:=λδ st=>bnd (f δ st) λd st1=>bnd (h d δ st1) λδ1 st2=>some (.nx δ1,st2)
def oi(hf:dI K t f)(hh:AH K g h):qi K (wJ t g) (aB f h):=by intro ρ σ H δ st fl st' E l rs e q;obtain⟨a,st1,e1,e⟩:=cQ e;obtain⟨δ1,st2,e2,e⟩:=cQ e;cases e;exact hf ρ σ H δ st a st1 _ l rs e1 λx H1 ρ1 m1 l1 r1=>hh ρ1 σ H1 δ st1 x a δ1 _ _ l1 (rs.mn m1) r1 e2 λσ2 H2 ρ2 m2 l2 r2=>q σ2 H2 ρ2 (m1.trans m2) l2 r2
abbrev vA(i j:Nat)(fa:ai->Dm (List D)):ai->Dm Fl:=λδ st=>bnd (fa δ st) λas st1=>match as with
 |[a,b]=>some (.nx ((δ.set i (some a)).set j (some b)),st1)
 |_=>none
def R4(ha:qZ K t fa):qi K (Dz i j t) (vA i j fa):=by intro ρ σ H δ st fl st' E l rs e q;obtain⟨as,st1,e1,e⟩:=cQ e;split at e;cases e;refine ha ρ σ H δ st _ _ _ l rs e1 λx H1 ρ1 m1 l1 r1=>?_;obtain⟨v,w,rfl,r,r'⟩:=r1.two';exact⟨v,w,rfl,q _ H1 ρ1 m1 l1 (((rs.mn m1).set r).set r')⟩;cases e
abbrev hV(c:ai->Dm Bool)(b:ai->Dm Fl):Nat->ai->Dm Fl
 |0,_,_=>none
 | n + 1,δ,st=>bnd (c δ st) λt st1=>if t=true then bnd (b δ st1) λfl st2=>match fl with
   |.nx δ2=>hV c b n δ2 st2
   |.ct δ2=>hV c b n δ2 st2
   |.bk δ2=>some (.nx δ2,st2)
   |.rt d=>some (.rt d,st2)
  else some (.nx δ,st1)
abbrev fuel:Nat:=1000000
abbrev fX(c:ai->Dm Bool)(b:ai->Dm Fl):ai->Dm Fl:=hV c b fuel
def JM(hc:rZ K tc c)(hb:qi K tb b):qi K (uI tc tb) (fX c b):=by
 intro ρ σ H δ st fl st' E l rs e q;refine⟨λm σ1 H1=>∃ρ1 δ1 st1,Mn K ρ H ρ1 H1/\Rl K ρ1 H1 st1/\Rs K ρ1 H1 σ1 δ1/\hV c b m δ1 st1=some (fl,st'),⟨fuel,ρ,δ,st,.refl,l,rs,e⟩,?_⟩;rintro m σ1 H1 ⟨ρ1,δ1,st1,m1,l1,yF,e1⟩;cases m with
 |zero=>cases e1
 |succ m =>
  obtain⟨t,st2,e2,e1⟩:=cQ e1;refine hc ρ1 σ1 H1 δ1 st1 _ _ _ l1 yF e2 λx H2 ρ2 m2 l2 r2=>?_;subst r2;cases x with
  |true =>
   refine rR ?_;rw[if_pos rfl]at e1;obtain⟨f2,st3,e3,e1⟩:=cQ e1;refine⟨λσ3 H3=>∃m',m' < m+1/\∃ρ1 δ1 st1,Mn K ρ H ρ1 H3/\Rl K ρ1 H3 st1/\Rs K ρ1 H3 σ3 δ1/\hV c b m' δ1 st1=some (fl,st'),λ_ _ h=>h,hb ρ2 σ1 H2 δ1 st2 f2 st3 _ l2 (yF.mn m2) e3 ?_⟩;cases f2 with
   |nx δ3=>exactλσ3 H3 ρ3 m3 l3 r3=>⟨m,Zba m,ρ3,δ3,st3,(m1.trans m2).trans m3,l3,r3,e1⟩
   |ct δ3=>exactλσ3 H3 ρ3 m3 l3 r3=>⟨m,Zba m,ρ3,δ3,st3,(m1.trans m2).trans m3,l3,r3,e1⟩
   |bk δ3=>cases e1;exact q.mn (m1.trans m2)
   |rt d=>cases e1;exact q.mn (m1.trans m2)
  |false =>
   refine rQ ?_;rw[if_neg Zam]at e1;cases e1;exact q.mn (m1.trans m2) σ1 H2 ρ2 .refl l2 (yF.mn m2)
inductive Src where
 |fix (ds:List D)|live (i:Nat)|Yj (i:Nat)|zl (i:Nat) (es:List D)|zr (ds:List D) (i:Nat)
abbrev Src.at:Src->Nat->Store->Option (Option D)
 |.fix ds,i,_=>if i<=ds.length then some ds[i]? else none
 |.live r,i,st=>(items st r).map λds=>ds[i]?
 |.Yj r,i,st=>(items st r).bind λds=>if i<=ds.length then some (ds.mapIdx λi d=>D.tup [.int (i:Int),d])[i]? else none
 |.zl r es,i,st=>(items st r).bind λds=>if i<=(List.zipWith (λa b=>D.tup [a,b]) ds es).length then some (List.zipWith (λa b=>D.tup [a,b]) ds es)[i]? else none
 |.zr ds r,i,st=>(items st r).bind λes=>if i<=(List.zipWith (λa b=>D.tup [a,b]) ds es).length then some (List.zipWith (λa b=>D.tup [a,b]) ds es)[i]? else none
def yG(h:Src.at (.fix ds) i st=some o):i<=ds.length/\ds[i]?=o:=by
 simp only[Src.at]at h;split at h
 ·next hl=>exact⟨hl,Zao h⟩
 ·cases h
abbrev EW(K:Zfr)(ρ:List Addr)(H:Hp)(J:It)(S:Src):Prop :=
 ∀(ρ2:List Addr) (H2:Hp) (st2:Store) (i:Nat),Mn K ρ H ρ2 H2->Rl K ρ2 H2 st2 ->
  (S.at i st2=some none->J.stop i H2)/\∀d,S.at i st2=some (some d)->J.go i H2/\∀x H3,J.wL i H2 x H3->Mn K ρ2 H2 ρ2 H3/\Rl K ρ2 H3 st2/\Rp K ρ2 H3 x d
@[reducible]def vB(K:Zfr)(t:TI)(f:ai->Dm Src):Prop:=So K (EW K) t f
abbrev fY(S:Src)(g:D->ai->Dm ai)(b:ai->Dm Fl):Nat->Nat->ai->Dm Fl
 |0,_,_,_=>none
 |n+1,i,δ,st=>match S.at i st with
  |none=>none
  |some none=>some (.nx δ,st)
  |some (some d)=>bnd (g d δ st) λδ1 st1=>bnd (b δ1 st1) λfl st2=>match fl with
   |.nx δ2=>fY S g b n (i+1) δ2 st2
   |.ct δ2=>fY S g b n (i+1) δ2 st2
   |.bk δ2=>some (.nx δ2,st2)
   |.rt d=>some (.rt d,st2)
abbrev b9(fi:ai->Dm Src)(g:D->ai->Dm ai)(b:ai->Dm Fl):ai->Dm Fl:=λδ st=>bnd (fi δ st) λS st1=>fY S g b fuel 0 δ st1
def xr(hi:vB K wi fi)(hg:AH K tg g)(hb:qi K tb b):qi K (DC wi tg tb) (b9 fi g b):=by
 intro ρ σ H δ st fl st' E l rs e q;obtain⟨S,lP,e0,e⟩:=cQ e;refine hi ρ σ H δ st S lP _ l rs e0 λJ H0 ρ0 m0 l0 ok=>?_;refine⟨λi m σ1 H1=>∃ρ1 δ1 st1,Mn K ρ0 H0 ρ1 H1/\Rl K ρ1 H1 st1/\Rs K ρ1 H1 σ1 δ1/\fY S g b m i δ1 st1=some (fl,st'),⟨fuel,ρ0,δ,lP,.refl,l0,rs.mn m0,e⟩,?_⟩;rintro i m σ1 H1 ⟨ρ1,δ1,st1,m1,l1,yF,e1⟩;cases m with
 |zero=>cases e1
 |succ m =>
  obtain⟨hstop,hgo⟩:=ok ρ1 H1 st1 i m1 l1;unfold fY at e1;split at e1
  ·cases e1
  ·next hs=>cases e1;exact .inl ⟨hstop hs,q.mn (m0.trans m1) σ1 H1 ρ1 .refl l1 yF⟩
  ·next d hs =>
   obtain⟨δ2,st2,e2,e1⟩:=cQ e1;obtain⟨f3,st3,e3,e1⟩:=cQ e1;obtain⟨go,wL⟩:=hgo d hs;refine .inr ⟨go,λσ3 H3=>∃m',m' < m+1/\∃ρ1 δ1 st1,Mn K ρ0 H0 ρ1 H3/\Rl K ρ1 H3 st1/\Rs K ρ1 H3 σ3 δ1/\fY S g b m' (i+1) δ1 st1=some (fl,st'),λ_ _ h=>h,λx H2 hy=>?_⟩;obtain⟨m2,l2,r2⟩:=wL x H2 hy;refine hg ρ1 σ1 H2 δ1 st1 x d δ2 st2 _ l2 (yF.mn m2) r2 e2 λσ4 H4 ρ4 m4 l4 r4=>hb ρ4 σ4 H4 δ2 st2 f3 st3 _ l4 r4 e3 ?_;have m5:=((m1.trans m2).trans m4);cases f3 with
   |nx δ3=>exactλσ5 H5 ρ5 m6 l5 r5=>⟨m,Zba m,ρ5,δ3,st3,m5.trans m6,l5,r5,e1⟩
   |ct δ3=>exactλσ5 H5 ρ5 m6 l5 r5=>⟨m,Zba m,ρ5,δ3,st3,m5.trans m6,l5,r5,e1⟩
   |bk δ3=>cases e1;exact q.mn (m0.trans m5)
   |rt d=>cases e1;exact q.mn (m0.trans m5)
abbrev bP(fa:ai->Dm D):ai->Dm Src:=λδ st=>bnd (fa δ st) λa st1=>match a with
 |.tup ds=>some (.fix ds,st1)
 |_=>none
def CQ(ha:dI K t fa):vB K (DB K t) (bP fa):=by
 intro ρ σ H δ st S st' Q l rs e q;obtain⟨a,st1,e1,e⟩:=cQ e;cases a<;>simp at e;obtain⟨rfl,rfl⟩:=e;refine ha ρ σ H δ st _ _ _ l rs e1 λx H1 ρ1 m1 l1 r1=>?_;cases r1 with
 |tup s r =>
  refine⟨_,rfl,⟨_,s⟩,q _ H1 ρ1 m1 l1 λρ2 H2 st2 i m2 l2=>⟨λh=>?_,λd h=>?_⟩⟩;exact⟨_,m2.t _ _ s,by rw[r.length];exact ZaQ.mp (yG h).2⟩;obtain⟨v,hv,rv⟩:=r.got (yG h).2;refine⟨⟨_,v,m2.t _ _ s,hv⟩,λx H3 y=>?_⟩;obtain⟨rfl,hx⟩:=y;have:=hx _ (m2.t _ _ s);rw[hv]at this;cases this;exact⟨.refl,l2,rv.mn m2⟩
abbrev cS(fa:ai->Dm D):ai->Dm Src:=λδ st=>bnd (fa δ st) λa st1=>match a with
 |.ref i=>match items st1 i with
  |some _=>some (.live i,st1)
  |none=>none
 |_=>none
def Nb(ha:dI K t fa):vB K (uJ K t) (cS fa):=by
 intro ρ σ H δ st S st' Q l rs e q;obtain⟨a,st1,e1,e⟩:=cQ e;split at e
 ·next k =>
  split at e
  ·next ds hd =>
   cases e;refine ha ρ σ H δ st _ _ _ l rs e1 λx H1 ρ1 m1 l1 r1=>?_;cases r1 with
   |ref hi =>
    obtain⟨vs,s,r⟩:=l1.items hi hd;refine⟨_,rfl,⟨_,s⟩,q _ H1 ρ1 m1 l1 λρ2 H2 st2 i m2 l2=>⟨λh=>?_,λd h=>?_⟩⟩
    ·obtain⟨Yk,hd2,h⟩:=Zay.mp h
     obtain⟨R5,s2,r2⟩:=l2.items (m2.r _ _ hi) hd2;exact⟨R5,s2,by rw[r2.length];exact ZaQ.mp h⟩
    ·obtain⟨Yk,hd2,h⟩:=Zay.mp h
     obtain⟨R5,s2,r2⟩:=l2.items (m2.r _ _ hi) hd2;obtain⟨v,hv,rv⟩:=r2.got h;refine⟨⟨_,v,s2,hv⟩,λx H3 y=>?_⟩;obtain⟨rfl,hx⟩:=y;have:=hx _ s2;rw[hv]at this;cases this;exact⟨.refl,l2,rv⟩
  ·cases e
 ·cases e
abbrev bW(fa:ai->Dm (List D)):ai->Dm Src:=λδ st=>bnd (fa δ st) λas st1=>match as with
 |[.int j]=>if decide (-4611686018427387904<=j/\j<4611686018427387904)=true then some (.fix (aE 0 j.toNat),st1)else none
 |_=>none
abbrev qj(fa:ai->Dm (List D)):ai->Dm Src:=λδ st=>bnd (fa δ st) λas st1=>match as with
 |[.int i,.int j]=>if decide ((-4611686018427387904<=i/\i<4611686018427387904)/\-4611686018427387904<=j/\j<4611686018427387904)=true then some (.fix (aE i (j-i).toNat),st1)else none
 |_=>none
def jH(lo:Int)(n:Nat):(aE lo n).length=n:=by simp[aE]
def yH(h:k<n):(aE lo n)[k]?=some (.int (lo+k)):=by simp[aE,h]
def R6(lo:Int)(n:Nat):EW K ρ H (DA lo n) (.fix (aE lo n)):=by
 intro ρ2 H2 st2 i m2 l2;refine⟨λh=>?_,λd h=>?_⟩
 have:=ZaQ.mp (yG h).2
 rw[jH]at this;exact this;have h:=(yG h).2;have hl:=(Zab.mp h).1;rw[jH]at hl;rw[yH hl]at h;cases h;refine⟨hl,λx H3 y=>?_⟩;obtain⟨rfl,rfl⟩:=y;exact⟨.refl,l2,.int _⟩
def EX(ha:qZ K t fa):vB K (xR t) (bW fa):=by
 intro ρ σ H δ st S st' Q l rs e q;obtain⟨as,st1,e1,e⟩:=cQ e;split at e
 ·split at e
  ·next ok =>
   cases e;have ok:=of_decide_eq_true ok;refine ha ρ σ H δ st _ _ _ l rs e1 λx H1 ρ1 m1 l1 r1=>?_;obtain⟨v,rfl,r⟩:=r1.one';cases r;exact⟨_,rfl,by lk,by lk,q _ H1 ρ1 m1 l1 (R6 0 _)⟩
  ·cases e
 ·cases e
def Yl(ha:qZ K t fa):vB K (xS t) (qj fa):=by
 intro ρ σ H δ st S st' Q l rs e q;obtain⟨as,st1,e1,e⟩:=cQ e;split at e
 ·split at e
  ·next ok =>
   cases e;have ok:=of_decide_eq_true ok;refine ha ρ σ H δ st _ _ _ l rs e1 λx H1 ρ1 m1 l1 r1=>?_;obtain⟨v,w,rfl,r,r'⟩:=r1.two';cases r;cases r';exact⟨_,_,rfl,by lk,q _ H1 ρ1 m1 l1 (R6 _ _)⟩
  ·cases e
 ·cases e
abbrev gi(ds:List D):List D:=ds.mapIdx λi d=>.tup [.int (i:Int),d]
def EY(ds:List D):(gi ds).length=ds.length:=by simp[gi]
def Nc{ds:List D}{i:Nat}{x:D}(h:(gi ds)[i]?=some x):∃d,ds[i]?=some d/\x=.tup [.int (i:Int),d]:=by unfold gi at h;rw[List.getElem?_mapIdx]at h;obtain⟨d,h1,h2⟩:=Zay.mp h;exact⟨d,h1,h2.symm⟩
abbrev mN(fa:ai->Dm (List D)):ai->Dm Src:=λδ st=>bnd (fa δ st) λas st1=>match as with
 |[.tup ds]=>some (.fix (gi ds),st1)
 |_=>none
def Nd(ha:qZ K t fa):vB K (ye K t) (mN fa):=by
 intro ρ σ H δ st S st' Q l rs e q;obtain⟨as,st1,e1,e⟩:=cQ e;split at e;cases e;refine ha ρ σ H δ st _ _ _ l rs e1 λx H1 ρ1 m1 l1 r1=>?_;obtain⟨v,rfl,r⟩:=r1.one';cases r with
 |tup s r =>
  refine⟨_,rfl,⟨_,s⟩,q _ H1 ρ1 m1 l1 λρ2 H2 st2 i m2 l2=>⟨λh=>?_,λd h=>?_⟩⟩;obtain⟨h1,h2⟩:=yG h;have h2:=ZaQ.mp h2;rw[EY]at h1 h2;exact⟨_,m2.t _ _ s,by rw[r.length];lk⟩;obtain⟨h1,h2⟩:=yG h;obtain⟨d',hd',rfl⟩:=Nc h2;obtain⟨v,hv,rv⟩:=r.got hd';refine⟨⟨_,v,m2.t _ _ s,hv⟩,λx H3 y=>?_⟩;obtain⟨p,z,rfl,hp,rfl,hx⟩:=y;have:=hx _ (m2.t _ _ s);rw[hv]at this;cases this;have m3:Mn K ρ2 H2 ρ2 (upd H2 p (.tup [.int (i:Int),v])):=Mn.same (gq.up hp);exact⟨m3,l2.same (gq.up hp),.tup (gg.of qL) (.cons (.int _) (.one ((rv.mn m2).mn m3)))⟩
 cases e
abbrev jZ(S:Src)(g:D->ai->Dm ai)(tc:ai->Dm Bool)(te:ai->Dm D):Nat->Nat->List D->ai->Dm (List D)
 |0,_,_,_,_=>none
 |n+1,i,ys,δ,st=>if lim ys.length=true then match S.at i st with
  |none=>none
  |some none=>some (ys,st)
  |some (some d)=>bnd (g d δ st) λδ1 st1=>bnd (tc δ1 st1) λt st2=>if t=true then bnd (te δ1 st2) λy st3=>jZ S g tc te n (i+1) (ys ++ [y]) δ1 st3 else jZ S g tc te n (i+1) ys δ1 st2
  else none
abbrev rf(n:Nat)(js:List Nat)(δ:ai):ai:=List.replicate n none ++ js.map λj=>δ.getD j none
abbrev bQ(fi:ai->Dm Src)(n:Nat)(js:List Nat)(g:D->ai->Dm ai)(tc:ai->Dm Bool)(te:ai->Dm D):ai->Dm D:=λδ st=>bnd (fi δ st) λS st1=>bnd (jZ S g tc te fuel 0 [] (rf n js δ) st1) λys st2=>some (.ref st2.length,st2 ++ [.lst ys])
def Rs.comp(h:Rs K ρ H σ δ)(n:Nat)(js:List Nat):Rs K ρ H (kX n js σ) (rf n js δ):=by
 unfold kX rf;refine⟨by simp,λi d hd=>?_⟩;by_cases hi:i<n;rw[Zan (by simpa using hi),ZbS,if_pos hi]at hd;cases hd;rw[Zau (by simpa using Zcn hi),Zag]at hd;rw[Zau (by simpa using Zcn hi),Zag];simp only[Zbd]at hd ⊢;cases hj:js[i-n]? with
 |none=>rw[hj]at hd;cases hd
 |some j =>
  rw[hj]at hd;have hd:δ.getD j none=some d:=Zao hd;rw[Zae]at hd;have hd':δ[j]?=some (some d):=by
   cases hx:δ[j]? with
   |none=>rw[hx]at hd;cases hd
   |some y=>rw[hx]at hd;exact congrArg some hd
  obtain⟨v,hv,r⟩:=h.2 j d hd';exact⟨v,by show some (σ.getD j none)=_;rw[Zae,hv];rfl,r⟩
def EZ(hi:vB K wi fi)(hg:AH K tg g)(hc:rZ K tc c)(hf:dI K te f):dI K (uY wi n js tg tc te) (bQ fi n js g c f):=by
 intro ρ σ H δ st b st' Q l rs e q;obtain⟨S,lP,e0,e⟩:=cQ e;obtain⟨zs,qI,e9,e⟩:=cQ e;cases e;refine hi ρ σ H δ st S lP _ l rs e0 λJ H0 ρ0 m0 l0 ok=>?_;refine⟨λi m ys σ1 H1=>∃ρ1 δ1 st1 ws,Mn K ρ0 H0 ρ1 H1/\Rl K ρ1 H1 st1/\Rs K ρ1 H1 σ1 δ1/\cC K ρ1 H1 ys ws/\jZ S g c f m i ws δ1 st1=some (zs,qI),⟨fuel,ρ0,_,lP,[],.refl,l0,(rs.mn m0).comp n js,.nil,e9⟩,?_⟩;rintro i m ys σ1 H1 ⟨ρ1,δ1,st1,ws,m1,l1,yF,JN,e1⟩;cases m with
 |zero=>cases e1
 |succ m =>
  obtain⟨hstop,hgo⟩:=ok ρ1 H1 st1 i m1 l1;unfold jZ at e1;split at e1
  ·next hl =>
   refine⟨by rw[JN.length];exact JI hl,?_⟩;split at e1
   ·cases e1
   ·next hs =>
    cases e1;exact .inl ⟨hstop hs,λp hp=>q _ _ _ ((m0.trans m1).trans (Mn.new hp)) (l1.newL hp JN) (.ref (newR l1))⟩
   ·next d hs =>
    obtain⟨δ2,st2,e2,e1⟩:=cQ e1;obtain⟨t,st3,e3,e1⟩:=cQ e1;obtain⟨go,wL⟩:=hgo d hs;refine .inr ⟨go,λx H2 hy=>?_⟩;obtain⟨m2,l2,r2⟩:=wL x H2 hy;refine hg ρ1 σ1 H2 δ1 st1 x d δ2 st2 _ l2 (yF.mn m2) r2 e2 λσ4 H4 ρ4 m4 l4 r4=>hc ρ4 σ4 H4 δ2 st2 t st3 _ l4 r4 e3 λt' H5 ρ5 m5 l5 r5=>?_;subst r5;have m6:=(((m1.trans m2).trans m4).trans m5);cases t' with
    |true =>
     refine rR ?_;rw[if_pos rfl]at e1;obtain⟨y,Nf,e6,e1⟩:=cQ e1;exact hf ρ5 σ4 H5 δ2 st3 y Nf _ l5 (r4.mn m5) e6 λv H7 ρ7 m7 l7 r7=>⟨m,Zba m,ρ7,δ2,Nf,ws ++ [y],m6.trans m7,l7,r4.mn (m5.trans m7),(JN.mn (((m2.trans m4).trans m5).trans m7)).append (.one r7),e1⟩
    |false =>
     refine rQ ?_;rw[if_neg Zam]at e1;exact⟨m,Zba m,ρ5,δ2,st3,ws,m6,l5,r4.mn m5,JN.mn ((m2.trans m4).trans m5),e1⟩
  ·cases e1
abbrev bR:ai->Dm Bool:=λ_ st=>some (true,st)
abbrev dE(n:Nat)(b:ai->Dm Fl):List D->Dm D:=λds st=>bnd (b (ds.map some ++ List.replicate (n-ds.length) none) st) λfl st1=>match fl with
 |.rt d=>some (d,st1)
 |.nx _=>some (.non,st1)
 |_=>none
def Rs.start(r:cC K ρ H vs ds)(N:List Str):Rs K ρ H (start N vs) (ds.map some ++ List.replicate (N.length-ds.length) none):=by
 unfold L2.start;rw[r.length];refine⟨by simp[r.length],λi d hd=>?_⟩;by_cases hi:i<ds.length;rw[Zan (by simpa using hi),Zag]at hd;rw[Zan (by rw[Zaa,r.length];exact hi),Zag];cases hx:ds[i]? with
 |none=>rw[hx]at hd;cases hd
 |some y =>
  rw[hx]at hd;cases hd;obtain⟨v,hv,rv⟩:=r.got hx;exact⟨v,by rw[hv];rfl,rv⟩
 rw[Zau (by simpa using Zcn hi),ZbS]at hd;split at hd<;>cases hd
def eB(hb:qi K t b)(hn:N.length=n)(h:a8 K k (dE n b) vs H Q E):t { nx:=λ_ H'=>Q .non H',rt:=Q } (start N vs) H:=by
 obtain⟨hk,ρ,st,ds,d,st',l,r,e,q⟩:=h;subst hn;obtain⟨fl,st1,e1,e⟩:=cQ e;refine hb ρ _ H _ st fl st1 _ l (Rs.start r N) e1 ?_;cases fl with
 |rt v=>cases e;exact q
 |nx δ=>cases e;exactλσ' H' ρ' m l' r'=>q .non H' ρ' m l' .non
 |bk δ=>cases e
 |ct δ=>cases e
end
section
variable {X:Cx}{K:Zfr}
def Ym{N:List Str}{vC:Scope}{cells:List (Str×Addr)}{C:Addr}{fp:List Addr}{s:Shared}{H:Hp}{vD:Scope}{own fr:List Str}(h:uX (uW vC X.env.scope) vD own fr):uX (aM X N vC cells C fp s H).env.scope vD own fr:=h
def E1:rZ K (λ_ H Q=>Q true H) bR:=by intro ρ σ H δ st b st' Q l rs e q;cases e;exact q _ H ρ .refl l rfl
end
abbrev yI(K:Zfr):Sp:=λvs H Q _=>∃(a:Addr) (ns:List Int),vs=[.ref a]/\D4 K H a (ns.map V.int)/\ns.length<=63/\∀H',Q (.bl true) H'
def AL{P:Program}{w:World}{K:Zfr}{mg:Str->Option Value}{base:Heap}{k:Nat}{f:Addr}{fd:FuncData}{ps:List Str}{F:List D->Dm D}(G:aC P w K mg base a6 k f fd ps (a8 K 1 F))
  (h:∀ns:List Int,ns.length<=63->∃st',F [.ref 0] [.pO (ns.map D.int)]=some (.bl true,st')):aC P w K mg base a6 k f fd ps (yI K):=by
 refine G.imp λvs H Q E hs=>?_;obtain⟨a,ns,rfl,hS,hn,q⟩:=hs;obtain⟨st',e⟩:=h ns hn;have one:∀i (b:Addr),([a]:List Addr)[i]?=some b->i=0/\b=a:=λi b h=>by
  cases i with
  |zero=>exact⟨rfl,(Zao h).symm⟩
  |succ i=>simp at h
 refine⟨rfl,[a],[.pO (ns.map D.int)],[.ref 0],.bl true,st',⟨rfl,λi j b o o' h1 h2 _ _ _ _=>by rw[(one i b h1).1,(one j b h2).1],λi b o h1 h2=>?_⟩,.one (.ref rfl),e,λv H' ρ' m l r=>by cases r;exact q H'⟩;obtain⟨rfl,rfl⟩:=one i b h1;cases(Zao h2);exact⟨ns.map V.int,hS,cC.ints ns⟩
abbrev Wp{α:Type}(m:Option (α×Store))(Q:α->Store->Prop):Prop:=∃a st,m=some (a,st)/\Q a st
section
variable {α β:Type}{Q Q':α->Store->Prop}{st:Store}{δ:ai}
def aL(h:Wp m Q)(hq:∀a st,Q a st->Q' a st):Wp m Q':=let ⟨a,st,e,q⟩:=h;⟨a,st,e,hq a st q⟩
def aY:Wp (some (a,st)) Q↔Q a st:=⟨λ⟨_,_,e,q⟩=>by cases e;exact q,λq=>⟨a,st,rfl,q⟩⟩
def hW:Wp (none:Option (α×Store)) Q↔False:=⟨λ⟨_,_,e,_⟩=>(by cases e),False.elim⟩
def cT{R:β->Store->Prop}{m:Option (α×Store)}{k:α->Dm β}:Wp (bnd m k) R↔Wp m λa st1=>Wp (k a st1) R:=by
 cases m with
 |none=>exact⟨λ⟨_,_,e,_⟩=>(by cases e),λ⟨_,_,e,_⟩=>(by cases e)⟩
 |some p=>exact⟨λh=>⟨p.1,p.2,rfl,h⟩,λ⟨a,s,e,h⟩=>by cases e;exact h⟩
def pT{c:Prop}[Decidable c]:Wp (if c then m else n) Q↔if c then Wp m Q else Wp n Q:=by split<;>exact Iff.rfl
end
section
variable {st:Store}{δ:ai}{Q:D->Store->Prop}
def AO{i:Nat}:Wp (ag i δ st) Q↔∃d,δ[i]?=some (some d)/\Q d st:=by
 unfold ag;split
 ·next d hd=>rw[aY];exact⟨λh=>⟨d,hd,h⟩,λ⟨e,he,h⟩=>by rw[hd]at he;cases he;exact h⟩
 ·next h=>rw[hW];exact⟨False.elim,λ⟨e,he,_⟩=>h e he⟩
def Ng{d:D}:Wp (fC d δ st) Q↔Q d st:=aY
def Nh{g:D->D->Dm D}{fa fb:ai->Dm D}:Wp (ao g fa fb δ st) Q↔Wp (fa δ st) λa st1=>Wp (fb δ st1) λb st2=>Wp (g a b st2) Q:=by unfold ao;rw[cT];simp only[cT]
def E2{g:D->Dm D}{fa:ai->Dm D}:Wp (r6 g fa δ st) Q↔Wp (fa δ st) λa st1=>Wp (g a st1) Q:=cT
def CT{g:List D->Dm D}{fa:ai->Dm (List D)}:Wp (aD g fa δ st) Q↔Wp (fa δ st) λa st1=>Wp (g a st1) Q:=cT
def Ni{R:List D->Store->Prop}:Wp (ah δ st) R↔R [] st:=aY
def uv{R:List D->Store->Prop}{fa:ai->Dm D}{fr:ai->Dm (List D)}:Wp (af fa fr δ st) R↔Wp (fa δ st) λa st1=>Wp (fr δ st1) λr st2=>R (a :: r) st2:=by unfold af;rw[cT];simp only[cT,aY]
def R7{fa:ai->Dm (List D)}:Wp (aX fa δ st) Q↔Wp (fa δ st) λas st1=>lim as.length=true/\Q (.tup as) st1:=by unfold aX;rw[cT];simp only[pT,aY,hW];constructor<;>exactλh=>aL h λa s h=>by first|(split at h;exact⟨by assumption,h⟩;exact h.elim)|(rw[if_pos h.1];exact h.2)
def R8{fa:ai->Dm (List D)}:Wp (b6 fa δ st) Q↔Wp (fa δ st) λas st1=>lim as.length=true/\Q (.ref st1.length) (st1 ++ [.lst as]):=by unfold b6;rw[cT];simp only[pT,aY,hW];constructor<;>exactλh=>aL h λa s h=>by first|(split at h;exact⟨by assumption,h⟩;exact h.elim)|(rw[if_pos h.1];exact h.2)
def Nj{R:Bool->Store->Prop}{fa:ai->Dm D}:Wp (az fa δ st) R↔Wp (fa δ st) λa st1=>∃b,a=.bl b/\R b st1:=by unfold az;rw[cT];constructor<;>refineλh=>aL h λa s h=>?_;cases a<;>simp only[aY,hW]at h;exact⟨_,rfl,h⟩;obtain⟨b,rfl,h⟩:=h;exact aY.mpr h
def AQ{R:Bool->Store->Prop}{fa:ai->Dm Bool}:Wp (xk fa δ st) R↔Wp (fa δ st) λa st1=>R (!a) st1:=by unfold xk;rw[cT];simp only[aY]
def AR{R:Bool->Store->Prop}{fa fb:ai->Dm Bool}:Wp (tL fa fb δ st) R↔Wp (fa δ st) λa st1=>if a=true then Wp (fb δ st1) R else R false st1:=by unfold tL;rw[cT];simp only[pT,aY]
def yJ{R:Bool->Store->Prop}{fa fb:ai->Dm Bool}:Wp (wt fa fb δ st) R↔Wp (fa δ st) λa st1=>if a=true then R true st1 else Wp (fb δ st1) R:=by unfold wt;rw[cT];simp only[pT,aY]
def yK{α:Type}{R:α->Store->Prop}{c:ai->Dm Bool}{fa fb:ai->Dm α}:Wp (dg c fa fb δ st) R↔Wp (c δ st) λa st1=>if a=true then Wp (fa δ st1) R else Wp (fb δ st1) R:=by unfold dg;rw[cT];simp only[pT]
def Yn{fa fb:ai->Dm D}:Wp (sP fa fb δ st) Q↔Wp (az fa δ st) λa st1=>if a=true then Wp (fb δ st1) Q else Q (.bl false) st1:=by unfold sP;rw[cT];simp only[pT,aY]
def AU{fa fb:ai->Dm D}:Wp (EM fa fb δ st) Q↔Wp (az fa δ st) λa st1=>if a=true then Q (.bl true) st1 else Wp (fb δ st1) Q:=by unfold EM;rw[cT];simp only[pT,aY]
def Yo{fa:ai->Dm D}:Wp (yy fa δ st) Q↔Wp (az fa δ st) λa st1=>Q (.bl (!a)) st1:=by unfold yy;rw[cT];simp only[aY]
def R9{R:Option Int->Store->Prop}:Wp (ny δ st) R↔R none st:=aY
def Sb{R:Option Int->Store->Prop}{fa:ai->Dm D}:Wp (pP fa δ st) R↔Wp (fa δ st) λa st1=>∃i,a=.int i/\R (some i) st1:=by unfold pP;rw[cT];constructor<;>refineλh=>aL h λa s h=>?_;cases a<;>simp only[aY,hW]at h;exact⟨_,rfl,h⟩;obtain⟨b,rfl,h⟩:=h;exact aY.mpr h
def yL{g:D->Option Int->Option Int->Dm D}{fa:ai->Dm D}{fl fh:ai->Dm (Option Int)}:Wp (CJ g fa fl fh δ st) Q↔Wp (fa δ st) λa st1=>Wp (fl δ st1) λlo st2=>Wp (fh δ st2) λhi st3=>Wp (g a lo hi st3) Q:=by unfold CJ;rw[cT];simp only[cT]
def yM{T:String}{g:D->List D->Dm D}{fo:ai->Dm D}{fa:ai->Dm (List D)}:Wp (ju T g fo fa δ st) Q↔Wp (fo δ st) λo st1=>wx T st1 o=true/\Wp (fa δ st1) λas st2=>Wp (g o as st2) Q:=by unfold ju;rw[cT];simp only[pT,cT,hW];constructor<;>exactλh=>aL h λa s h=>by first|(split at h;exact⟨by assumption,h⟩;exact h.elim)|(rw[if_pos h.1];exact h.2)
variable {i j:Int}{ds es:List D}{k:Nat}
def AV:Wp (cu (.int i) (.int j) st) Q↔Q (.int (i+j)) st:=aY
def Sd:Wp (ni (.int i) (.int j) st) Q↔Q (.int (i-j)) st:=aY
def E3:Wp (xm (.int i) (.int j) st) Q↔Q (.bl (decide (i<j))) st:=aY
def E4:Wp (Yf (.int i) (.int j) st) Q↔Q (.bl (decide (i<=j))) st:=aY
def E5:Wp (sQ (.int i) (.int j) st) Q↔Q (.bl (decide (j<i))) st:=aY
def E6:Wp (M5 (.int i) (.int j) st) Q↔Q (.bl (decide (j<=i))) st:=aY
def AW:Wp (mB (.int i) st) Q↔Q (.int (-i)) st:=aY
def CU:Wp (xl c h (.int i) (.int j) st) Q↔c i j=true/\Q (h i j) st:=by
 show Wp (if c i j=true then some (h i j,st)else none) Q↔_;rw[pT,aY,hW];split
 ·next h=>exact⟨λq=>⟨h,q⟩,λq=>q.2⟩
 ·next h=>exact⟨False.elim,λq=>h q.1⟩
def AX:Wp (nY (.int i) (.int j) st) Q↔((-18446744073709551616<i/\i<18446744073709551616)\/(-18446744073709551616<j/\j<18446744073709551616))/\Q (.int (i*j)) st:=by unfold nY;rw[CU,ZcA,decide_eq_true_eq,decide_eq_true_eq]
def Yp:Wp (pQ (.int i) (.int j) st) Q↔(0<j/\j<1073741824)/\Q (.int (i / j)) st:=by unfold pQ;rw[CU,decide_eq_true_eq]
def AY:Wp (kZ (.int i) (.int j) st) Q↔0<j/\Q (.int (i % j)) st:=by unfold kZ;rw[CU,decide_eq_true_eq]
def AZ:Wp (vo (.int i) (.int j) st) Q↔(0<=j/\j<=1000000/\i.natAbs<18446744073709551616)/\Q (.int (i ^ j.toNat)) st:=by unfold vo;rw[CU,decide_eq_true_eq]
def A0{neg:Bool}:Wp (iM neg (.int i) (.int j) st) Q↔Q (.bl (if neg then !decide (i=j)else decide (i=j))) st:=by
 have e:decide (V.int i=V.int j)=decide (i=j):=by
  by_cases h:i=j;subst h;simp;simp[h]
 show Wp (if rP (V.int i) (V.int j)=true then some (D.bl (if neg then !decide (V.int i=V.int j)else decide (V.int i=V.int j)),st)else none) Q↔_;rw[if_pos (show rP _ _=true from rfl),aY,e]
def A1{neg:Bool}{x y:Str}:Wp (iM neg (.str x) (.str y) st) Q↔Q (.bl (if neg then !decide (x=y)else decide (x=y))) st:=by
 have e:decide (V.str x=V.str y)=decide (x=y):=by
  by_cases h:x=y;subst h;simp;simp[h]
 show Wp (if rP (V.str x) (V.str y)=true then some (D.bl (if neg then !decide (V.str x=V.str y)else decide (V.str x=V.str y)),st)else none) Q↔_;rw[if_pos (show rP _ _=true from rfl),aY,e]
def Nk:Wp (ay (.tup ds) (.int i) st) Q↔∃d,dM ds i=some d/\Q d st:=by
 show Wp (match dM ds i with|some d=>some (d,st)|none=>none) Q↔_;cases dM ds i with
 |none=>rw[hW];exact⟨False.elim,λ⟨_,e,_⟩=>by cases e⟩
 |some d=>rw[aY];exact⟨λq=>⟨d,rfl,q⟩,λ⟨_,e,q⟩=>by cases e;exact q⟩
def A2:Wp (bO (.ref k) (.int i) st) Q↔∃ds d,items st k=some ds/\dM ds i=some d/\Q d st:=by
 show Wp (match items st k with|some ds=>(match dM ds i with|some d=>some (d,st)|none=>none)|none=>none) Q↔_;cases items st k with
 |none=>rw[hW];exact⟨False.elim,λ⟨_,_,e,_⟩=>by cases e⟩
 |some ds =>
  show Wp (match dM ds i with|some d=>some (d,st)|none=>none) Q↔_;cases h:dM ds i with
  |none=>rw[hW];exact⟨False.elim,λ⟨_,_,e,e',_⟩=>by cases e;rw[h]at e';cases e'⟩
  |some d=>rw[aY];exact⟨λq=>⟨ds,d,rfl,h,q⟩,λ⟨_,_,e,e',q⟩=>by cases e;rw[h]at e';cases e';exact q⟩
def A3{lo hi:Option Int}:Wp (AE (.tup ds) lo hi st) Q↔Q (.tup (cutD ds lo hi)) st:=aY
def Se{lo hi:Option Int}:Wp (vt (.ref k) lo hi st) Q↔∃ds,items st k=some ds/\Q (.ref st.length) (st ++ [.lst (cutD ds lo hi)]):=by
 show Wp (match items st k with|some ds=>some (D.ref st.length,st ++ [O.lst (cutD ds lo hi)])|none=>none) Q↔_;cases items st k with
 |none=>rw[hW];exact⟨False.elim,λ⟨_,e,_⟩=>by cases e⟩
 |some ds=>rw[aY];exact⟨λq=>⟨ds,rfl,q⟩,λ⟨_,e,q⟩=>by cases e;exact q⟩
def Yq:Wp (iN (.tup ds) (.tup es) st) Q↔lim (ds.length+es.length)=true/\Q (.tup (ds ++ es)) st:=by
 show Wp (if lim (ds.length+es.length)=true then some (D.tup (ds ++ es),st)else none) Q↔_;rw[pT,aY,hW];split
 ·next h=>exact⟨λq=>⟨h,q⟩,λq=>q.2⟩
 ·next h=>exact⟨False.elim,λq=>h q.1⟩
def Sf{a b:Nat}:Wp (o3 (.ref a) (.ref b) st) Q↔∃xs ys,own st a=some xs/\own st b=some ys/\lim (xs.length+ys.length)=true/\Q (.ref st.length) (st ++ [.lst (xs ++ ys)]):=by
 show Wp (match own st a,own st b with|some xs,some ys=>if lim (xs.length+ys.length)=true then some (D.ref st.length,st ++ [O.lst (xs ++ ys)])else none|_,_=>none) Q↔_;cases ha:own st a<;>cases hb:own st b
 ·simp only[hW];exact⟨False.elim,λ⟨_,_,e,_⟩=>by cases e⟩
 ·simp only[hW];exact⟨False.elim,λ⟨_,_,e,_⟩=>by cases e⟩
 ·simp only[hW];exact⟨False.elim,λ⟨_,_,_,e,_⟩=>by cases e⟩
 ·next xs ys =>
  show Wp (if lim (xs.length+ys.length)=true then some (D.ref st.length,st ++ [O.lst (xs ++ ys)])else none) Q↔_;rw[pT,aY,hW];split
  ·next h=>exact⟨λq=>⟨_,_,rfl,rfl,h,q⟩,λ⟨_,_,e,e',_,q⟩=>by cases e;cases e';exact q⟩
  ·next h=>exact⟨False.elim,λ⟨_,_,e,e',q,_⟩=>by cases e;cases e';exact h q⟩
def A4{a:D}:Wp (cK [a] st) Q↔∃ds,cR st a=some ds/\Q (.int ds.length) st:=by
 show Wp (match cR st a with|some ds=>some (D.int ds.length,st)|none=>none) Q↔_;cases cR st a with
 |none=>rw[hW];exact⟨False.elim,λ⟨_,e,_⟩=>by cases e⟩
 |some ds=>rw[aY];exact⟨λq=>⟨ds,rfl,q⟩,λ⟨_,e,q⟩=>by cases e;exact q⟩
def Yr{a:D}:Wp (pR [a] st) Q↔∃ds,cR st a=some ds/\Q (.ref st.length) (st ++ [.lst ds]):=by
 show Wp (match cR st a with|some ds=>some (D.ref st.length,st ++ [O.lst ds])|none=>none) Q↔_;cases cR st a with
 |none=>rw[hW];exact⟨False.elim,λ⟨_,e,_⟩=>by cases e⟩
 |some ds=>rw[aY];exact⟨λq=>⟨ds,rfl,q⟩,λ⟨_,e,q⟩=>by cases e;exact q⟩
def Ys{a:D}:Wp (bp [a] st) Q↔∃ds,cR st a=some ds/\Q (.tup ds) st:=by
 show Wp (match cR st a with|some ds=>some (D.tup ds,st)|none=>none) Q↔_;cases cR st a with
 |none=>rw[hW];exact⟨False.elim,λ⟨_,e,_⟩=>by cases e⟩
 |some ds=>rw[aY];exact⟨λq=>⟨ds,rfl,q⟩,λ⟨_,e,q⟩=>by cases e;exact q⟩
def Yt:Wp (q5 [.int i,.int j] st) Q↔Q (.int (if j > i then j else i)) st:=aY
def Yu:Wp (sR [.int i,.int j] st) Q↔Q (.int (if j<i then j else i)) st:=aY
def Yv:Wp (pS [.int i] st) Q↔Q (.int i) st:=aY
def Yw{b:Bool}:Wp (pS [.bl b] st) Q↔Q (.int (if b then 1 else 0)) st:=aY
def Yx:Wp (iO [.int j] st) Q↔Q (.ref st.length) (st ++ [.lL 0 j]):=aY
def Yy:Wp (eW [.int i,.int j] st) Q↔Q (.ref st.length) (st ++ [.lL i j]):=aY
def Yz{y:D}:Wp (aI (.ref k) [y] st) Q↔∃xs,own st k=some xs/\lim xs.length=true/\Q .non (st.set k (.lst (xs ++ [y]))):=by
 show Wp (match own st k with|some xs=>if lim xs.length=true then some (D.non,st.set k (O.lst (xs ++ [y])))else none|none=>none) Q↔_;cases own st k with
 |none=>rw[hW];exact⟨False.elim,λ⟨_,e,_⟩=>by cases e⟩
 |some xs =>
  show Wp (if lim xs.length=true then some (D.non,st.set k (O.lst (xs ++ [y])))else none) Q↔_;rw[pT,aY,hW];split
  ·next h=>exact⟨λq=>⟨_,rfl,h,q⟩,λ⟨_,e,_,q⟩=>by cases e;exact q⟩
  ·next h=>exact⟨False.elim,λ⟨_,e,q,_⟩=>by cases e;exact h q⟩
end
abbrev Ws(m:Option (Fl×Store))(N B C:ai->Store->Prop)(R:D->Store->Prop):Prop:=Wp m λfl st=>match fl with
 |.nx δ=>N δ st
 |.bk δ=>B δ st
 |.ct δ=>C δ st
 |.rt d=>R d st
section
variable {st:Store}{δ:ai}{N B C:ai->Store->Prop}{R:D->Store->Prop}{f g:ai->Dm Fl}{e:ai->Dm D}
def A5(h:Ws m N B C R)(hn:∀δ st,N δ st->N' δ st):Ws m N' B C R:=aL h λfl st q=>by
 cases fl with
 |nx δ=>exact hn δ st q
 |bk δ=>exact q
 |ct δ=>exact q
 |rt d=>exact q
def aQ(h:Ws (f δ st) (λδ1 st1=>Ws (g δ1 st1) N B C R) B C R):Ws (aq f g δ st) N B C R:=by
 unfold Ws aq;rw[cT];refine aL h λfl st1 q=>?_;cases fl with
 |nx δ1=>exact q
 |bk δ1=>exact aY.mpr q
 |ct δ1=>exact aY.mpr q
 |rt d=>exact aY.mpr q
def kM(h:N δ st):Ws (aK δ st) N B C R:=aY.mpr h
def uw(h:Wp (e δ st) λd st1=>Wp (t d δ st1) N):Ws (aB e t δ st) N B C R:=by unfold Ws aB;rw[cT];refine aL h λd st1 q=>?_;rw[cT];exact aL q λδ1 st2 q=>aY.mpr q
def bx(h:Wp (e δ st) λd st1=>N (δ.set i (some d)) st1):Ws (aB e (hName i) δ st) N B C R:=uw (aL h λd st1 q=>aY.mpr q)
def pE(h:Wp (e δ st) λ_ st1=>N δ st1):Ws (bu e δ st) N B C R:=by unfold Ws bu;rw[cT];exact aL h λd st1 q=>aY.mpr q
def c7(h:Wp (e δ st) R):Ws (aN e δ st) N B C R:=by unfold Ws aN;rw[cT];exact aL h λd st1 q=>aY.mpr q
def iP(h:Wp (c δ st) λb st1=>(b=true->Ws (f δ st1) N B C R)/\(b=false->Ws (g δ st1) N B C R)):Ws (dg c f g δ st) N B C R:=by
 unfold Ws;rw[yK];refine aL h λb st1 q=>?_;cases b with
 |true=>rw[if_pos rfl];exact q.1 rfl
 |false=>rw[if_neg Zam];exact q.2 rfl
def Sg(h:Wp (fa δ st) λas st1=>∃a b,as=[a,b]/\N ((δ.set i (some a)).set j (some b)) st1):Ws (vA i j fa δ st) N B C R:=by unfold Ws vA;rw[cT];refine aL h λas st1 q=>?_;obtain⟨a,b,rfl,q⟩:=q;exact aY.mpr q
def sS(h:Ws (b (ds.map some ++ List.replicate (n-ds.length) none) st) (λ_ st1=>R .non st1) (λ_ _=>False) (λ_ _=>False) R):Wp (dE n b ds st) R:=by
 unfold dE;rw[cT];refine aL h λfl st1 q=>?_;cases fl with
 |nx δ1=>exact aY.mpr q
 |bk δ1=>exact q.elim
 |ct δ1=>exact q.elim
 |rt d=>exact aY.mpr q
def xt(W:Nat->ai->Store->Prop)(m:Nat)(hm:m<fuel)(h0:W m δ st)
  (step:∀m δ st,W m δ st->Wp (c δ st) λt st1=>(t=true->Ws (b δ st1) (λδ2 st2=>∃m',m' < m/\W m' δ2 st2) N (λδ2 st2=>∃m',m' < m/\W m' δ2 st2) R)/\(t=false->N δ st1)):Ws (fX c b δ st) N B C R:=by
 have key:∀(k m:Nat) (δ:ai) (st:Store),m<k->W m δ st->Ws (hV c b k δ st) N B C R:=by
  intro k
  induction k with
  |zero=>intro m δ st h;exact absurd h (ZaV _)
  |succ k ih =>
   intro m δ st hk hw;unfold Ws hV;rw[cT];refine aL (step m δ st hw) λt st1 q=>?_;cases t with
   |false=>rw[if_neg Zam];exact aY.mpr (q.2 rfl)
   |true =>
    rw[if_pos rfl,cT];refine aL (q.1 rfl) λfl st2 q=>?_;cases fl with
    |nx δ2=>obtain⟨m',hm',w⟩:=q;exact ih m' δ2 st2 ⋯ w
    |ct δ2=>obtain⟨m',hm',w⟩:=q;exact ih m' δ2 st2 ⋯ w
    |bk δ2=>exact aY.mpr q
    |rt d=>exact aY.mpr q
 exact key fuel m δ st hm h0
def m9(ds:List D)(Pv:Nat->ai->Store->Prop)(hi:Wp (fi δ st) λS st1=>S=.fix ds/\Pv 0 δ st1)(hl:ds.length<100000)
  (step:∀i d δ st,ds[i]?=some d->Pv i δ st->Wp (t d δ st) λδ1 st1=>Ws (b δ1 st1) (Pv (i+1)) N (Pv (i+1)) R) (fin:∀δ st,Pv ds.length δ st->N δ st):Ws (b9 fi t b δ st) N B C R:=by
 unfold Ws b9;rw[cT];refine aL hi λS lP q=>?_;obtain⟨rfl,h0⟩:=q;have key:∀(k i:Nat) (δ:ai) (st:Store),i<=ds.length->ds.length-i<k->Pv i δ st->Ws (fY (.fix ds) t b k i δ st) N B C R:=by
  intro k
  induction k with
  |zero=>intro i δ st _ h;exact absurd h (ZaV _)
  |succ k ih =>
   intro i δ st hi hk hw;unfold Ws fY;have e:Src.at (.fix ds) i st=some ds[i]?:=by show(if i<=ds.length then some ds[i]? else none)=_;rw[if_pos hi]
   rw[e];cases hd:ds[i]? with
   |none =>
    have:=ZaQ.mp hd;have e:i=ds.length:=by lk
    exact aY.mpr (fin δ st (e ▸ hw))
   |some d =>
    have hlt:=(Zab.mp hd).1;show Wp (bnd _ _) _;rw[cT];refine aL (step i d δ st hd hw) λδ1 st1 q=>?_;rw[cT];refine aL q λfl st2 q=>?_;cases fl with
    |nx δ2=>exact ih (i+1) δ2 st2 ⋯ ⋯ q
    |ct δ2=>exact ih (i+1) δ2 st2 ⋯ ⋯ q
    |bk δ2=>exact aY.mpr q
    |rt d=>exact aY.mpr q
 exact key fuel 0 δ lP (ZaJ _) (Zcx ⋯ (show 100000<fuel by decide)) h0
def Nl(ds:List D)(r:Nat)(Pv:Nat->ai->Store->Prop)(hi:Wp (fi δ st) λS st1=>S=.live r/\Pv 0 δ st1)(hl:ds.length<100000)(hk:∀i δ st,Pv i δ st->items st r=some ds)
  (step:∀i d δ st,ds[i]?=some d->Pv i δ st->Wp (t d δ st) λδ1 st1=>Ws (b δ1 st1) (Pv (i+1)) N (Pv (i+1)) R) (fin:∀δ st,Pv ds.length δ st->N δ st):Ws (b9 fi t b δ st) N B C R:=by
 unfold Ws b9;rw[cT];refine aL hi λS lP q=>?_;obtain⟨rfl,h0⟩:=q;have key:∀(k i:Nat) (δ:ai) (st:Store),i<=ds.length->ds.length-i<k->Pv i δ st->Ws (fY (.live r) t b k i δ st) N B C R:=by
  intro k
  induction k with
  |zero=>intro i δ st _ h;exact absurd h (ZaV _)
  |succ k ih =>
   intro i δ st hi hk' hw;unfold Ws fY;have e:Src.at (.live r) i st=some ds[i]?:=by show(items st r).map _=_;rw[hk i δ st hw];rfl
   rw[e];cases hd:ds[i]? with
   |none =>
    have:=ZaQ.mp hd;have e:i=ds.length:=by lk
    exact aY.mpr (fin δ st (e ▸ hw))
   |some d =>
    have hlt:=(Zab.mp hd).1;show Wp (bnd _ _) _;rw[cT];refine aL (step i d δ st hd hw) λδ1 st1 q=>?_;rw[cT];refine aL q λfl st2 q=>?_;cases fl with
    |nx δ2=>exact ih (i+1) δ2 st2 ⋯ ⋯ q
    |ct δ2=>exact ih (i+1) δ2 st2 ⋯ ⋯ q
    |bk δ2=>exact aY.mpr q
    |rt d=>exact aY.mpr q
 exact key fuel 0 δ lP (ZaJ _) (Zcx ⋯ (show 100000<fuel by decide)) h0
def E7{fi:ai->Dm Src}{n:Nat}{js:List Nat}{t:D->ai->Dm ai}{c:ai->Dm Bool}{f:ai->Dm D}{Q:D->Store->Prop}(ds:List D)(Pv:Nat->List D->ai->Store->Prop)
  (hi:Wp (fi δ st) λS st1=>(∀i ys δ st,i<=ds.length->Pv i ys δ st->S.at i st=some ds[i]?)/\Pv 0 [] (rf n js δ) st1) (hl:ds.length<100000) (hy:∀i ys δ st,Pv i ys δ st->ys.length<=i)
  (step:∀i d ys δ st,ds[i]?=some d->Pv i ys δ st->Wp (t d δ st) λδ1 st1=>Wp (c δ1 st1) λb st2=>(b=true->Wp (f δ1 st2) λy st3=>Pv (i+1) (ys ++ [y]) δ1 st3)/\(b=false->Pv (i+1) ys δ1 st2))
  (fin:∀ys δ st,Pv ds.length ys δ st->Q (.ref st.length) (st ++ [.lst ys])):Wp (bQ fi n js t c f δ st) Q:=by
 unfold bQ;rw[cT];refine aL hi λS lP q=>?_;obtain⟨hS,h0⟩:=q;have key:∀(k i:Nat) (ys:List D) (δ:ai) (st:Store),i<=ds.length->ds.length-i<k->Pv i ys δ st->Wp (jZ S t c f k i ys δ st) λzs qI=>∃δ9,Pv ds.length zs δ9 qI:=by
  intro k
  induction k with
  |zero=>intro i ys δ st _ h;exact absurd h (ZaV _)
  |succ k ih =>
   intro i ys δ st hi hk' hw;unfold jZ;have hlim:lim ys.length=true:=Nat.ble_eq_true_of_le (by have:=hy i ys δ st hw;lk);rw[if_pos hlim,hS i ys δ st hi hw];cases hd:ds[i]? with
   |none =>
    have:=ZaQ.mp hd;have e:i=ds.length:=by lk
    exact aY.mpr ⟨δ,e ▸ hw⟩
   |some d =>
    have hlt:=(Zab.mp hd).1;show Wp (bnd _ _) _;rw[cT];refine aL (step i d ys δ st hd hw) λδ1 st1 q=>?_;rw[cT];refine aL q λb st2 q=>?_;cases b with
    |true =>
     rw[if_pos rfl,cT];exact aL (q.1 rfl) λy st3 q=>ih (i+1) _ δ1 st3 ⋯ ⋯ q
    |false =>
     rw[if_neg Zam];exact ih (i+1) ys δ1 st2 ⋯ ⋯ (q.2 rfl)
 rw[cT];exact aL (key fuel 0 [] _ lP (ZaJ _) (Zcx ⋯ (show 100000<fuel by decide)) h0) λzs qI ⟨δ9,q⟩=>aY.mpr (fin zs δ9 qI q)
end
abbrev keyOf:D->Option Key
 |.int i=>some (.inl i)
 |.str x=>some (.inr x)
 |_=>none
abbrev lh(st:Store):D->Option (List (Key×D))
 |.ref i=>match st[i]? with
  |some (.dct kvs)=>some kvs
  |_=>none
 |_=>none
abbrev eG(kvs:List (Key×D))(k:Key):Option D:=(kvs.find? λkv=>decide (kv.1=k)).map (·.2)
abbrev putD(kvs:List (Key×D))(k:Key)(v:D):List (Key×D) :=
 if(kvs.any λkv=>decide (kv.1=k))=true then kvs.map (λkv=>if kv.1=k then(kv.1,v)else kv)else kvs ++ [(k,v)]
section
variable {K:Zfr}{ρ:List Addr}{H:Hp}{st:Store}
def uO(r:Rp K ρ H x y)(h:keyOf y=some k):x=kV k:=by cases r<;>first|(cases h;rfl)|cases h
def Nm(l:Rl K ρ H st)(r:Rp K ρ H x a)(h:lh st a=some kvs):∃p i ws,x=.ref p/\a=.ref i/\ρ[i]?=some p/\st[i]?=some (.dct kvs)/\H p=some (.dK ws)/\Rk K ρ H ws kvs:=by
 cases r<;>first|(cases h;done)|skip
 next hi =>
  simp only[lh]at h;split at h
  ·next kvs' hs =>
   cases h;obtain⟨ws,e,r⟩:=l.obj _ _ _ hi hs;exact⟨_,_,ws,rfl,rfl,hi,hs,e,r⟩
  ·cases h
def Rk.val(r:Rk K ρ H ws kvs)(k:Key):(∀d,eG kvs k=some d->∃v,jK ws k=some v/\Rp K ρ H v d)/\(jK ws k).isSome=(eG kvs k).isSome:=by
 induction r with
 |nil=>exact⟨λd h=>(by cases h),rfl⟩
 |@cons p q ps qs h t ih =>
  obtain⟨h1,h2⟩:=h;unfold eG jK at ih ⊢;rw[ZaU,ZaU];by_cases e:p.1=k;rw[decide_eq_true e,decide_eq_true (h1 ▸ e)];exact⟨λd hd=>by cases hd;exact⟨_,rfl,h2⟩,rfl⟩;rw[decide_eq_false e,decide_eq_false (h1 ▸ e)];exact ih
def Rk.app(r:Rk K ρ H ws kvs)(r':Rk K ρ H xu kvs'):Rk K ρ H (ws ++ xu) (kvs ++ kvs'):=by
 induction r with
 |nil=>exact r'
 |cons h _ ih=>exact .cons h ih
def Rk.put(r:Rk K ρ H ws kvs)(k:Key)(rv:Rp K ρ H v d):Rk K ρ H (putK ws k v) (putD kvs k d):=by
 have hany:(ws.any λkv=>decide (kv.1=k))=(kvs.any λkv=>decide (kv.1=k)):=by
  induction r with
  |nil=>rfl
  |cons h _ ih=>rw[Za1,Za1,ih,h.1]
 have hmap:Rk K ρ H (ws.map λkv=>if kv.1=k then(kv.1,v)else kv) (kvs.map λkv=>if kv.1=k then(kv.1,d)else kv):=by
  clear hany
  induction r with
  |nil=>exact .nil
  |@cons p q ps qs h _ ih =>
   refine .cons ?_ ih;dsimp only;by_cases e:p.1=k;rw[if_pos e,if_pos (h.1 ▸ e)];exact⟨h.1,rv⟩;rw[if_neg e,if_neg (h.1 ▸ e)];exact h
 unfold putK putD;rw[hany];split;exact hmap;exact r.app (.cons ⟨rfl,rv⟩ .nil)
def Rk.length{ws:List (Key×V)}{kvs:List (Key×D)}(r:Rk K ρ H ws kvs):ws.length=kvs.length:=by
 induction r with
 |nil=>rfl
 |cons _ _ ih=>rw[ZaE,ZaE,ih]
end
section
variable {K:Zfr}
abbrev vE:ai->Dm D:=λ_ st=>some (.ref st.length,st ++ [.dct []])
def Si:dI K uR vE:=by intro ρ σ H δ st b st' Q l rs e q;cases e;exactλp hp=>q _ _ _ (Mn.new hp) (l.newD hp .nil) (.ref (newR l))
abbrev nz(fd fy:ai->Dm D):ai->Dm D:=λδ st=>bnd (fd δ st) λx st1=>bnd (fy δ st1) λy st2=>match lh st2 x,keyOf y with
 |some kvs,some k=>match eG kvs k with
  |some v=>some (v,st2)
  |none=>none
 |_,_=>none
def Sj(hd:dI K td fd)(hy:dI K ty fy):dI K (uP td ty) (nz fd fy):=by
 intro ρ σ H δ st b st' Q l rs e q;obtain⟨x,st1,e1,e⟩:=cQ e;obtain⟨y,st2,e2,e⟩:=cQ e;refine hd ρ σ H δ st x st1 _ l rs e1 λvx H1 ρ1 m1 l1 r1=>hy ρ1 σ H1 δ st1 y st2 _ l1 (rs.mn m1) e2 λvy H2 ρ2 m2 l2 r2=>?_;split at e
 ·next kvs k hx hk =>
  split at e
  ·next v hv =>
   cases e;obtain⟨p,i,ws,rfl,rfl,hi,hs,hp,rk⟩:=Nm l2 (r1.mn m2) hx;obtain⟨w,hw,rw'⟩:=(rk.val k).1 _ hv;refine⟨p,w,rfl,?_,q w H2 ρ2 (m1.trans m2) l2 rw'⟩;rw[<- hw,uO r2 hk];exact mJ.k hp
  ·cases e
 ·cases e
abbrev xv(neg:Bool)(fy fd:ai->Dm D):ai->Dm D:=λδ st=>bnd (fy δ st) λy st1=>bnd (fd δ st1) λx st2=>match lh st2 x,keyOf y with
 |some kvs,some k=>some (.bl (if neg then !(eG kvs k).isSome else(eG kvs k).isSome),st2)
 |_,_=>none
def Sk(hy:dI K ty fy)(hd:dI K td fd):dI K (sE ty td) (xv true fy fd):=by
 intro ρ σ H δ st b st' Q l rs e q;obtain⟨y,st1,e1,e⟩:=cQ e;obtain⟨x,st2,e2,e⟩:=cQ e;refine hy ρ σ H δ st y st1 _ l rs e1 λvy H1 ρ1 m1 l1 r1=>hd ρ1 σ H1 δ st1 x st2 _ l1 (rs.mn m1) e2 λvx H2 ρ2 m2 l2 r2=>?_;split at e
 ·next kvs k hx hk =>
  cases e;obtain⟨p,i,ws,rfl,rfl,hi,hs,hp,rk⟩:=Nm l2 r2 hx;refine⟨p,jK ws k,rfl,by rw[uO r1 hk];exact mJ.k hp,q _ H2 ρ2 (m1.trans m2) l2 ?_⟩;rw[(rk.val k).2];exact .bl _
 ·cases e
abbrev sU(fd fy fv:ai->Dm D):ai->Dm Fl:=λδ st=>bnd (fv δ st) λv st1=>bnd (fd δ st1) λx st2=>bnd (fy δ st2) λy st3=>match x,lh st3 x,keyOf y with
 |.ref i,some kvs,some k=>if lim kvs.length=true then some (.nx δ,st3.set i (.dct (putD kvs k v)))else none
 |_,_,_=>none
def Sl(hd:dI K td fd)(hy:dI K ty fy)(hv:dI K tv fv):qi K (uQ td ty tv) (sU fd fy fv):=by
 intro ρ σ H δ st fl st' E l rs e q;obtain⟨v,st1,e1,e⟩:=cQ e;obtain⟨x,st2,e2,e⟩:=cQ e;obtain⟨y,st3,e3,e⟩:=cQ e;refine hv ρ σ H δ st v st1 _ l rs e1 λvv H1 ρ1 m1 l1 r1=>hd ρ1 σ H1 δ st1 x st2 _ l1 (rs.mn m1) e2 λvx H2 ρ2 m2 l2 r2=>hy ρ2 σ H2 δ st2 y st3 _ l2 (rs.mn (m1.trans m2)) e3 λvy H3 ρ3 m3 l3 r3=>?_;obtain⟨i,rfl⟩:∃i,x=.ref i:=by
  cases x<;>first|exact⟨_,rfl⟩|(simp at e;done)|cases e
 cases hx:lh st3 (.ref i)with
 |none=>rw[hx]at e;cases e
 |some kvs =>
 cases hk:keyOf y with
 |none=>rw[hx,hk]at e;cases e
 |some k =>
  rw[hx,hk]at e;simp only at e;split at e
  ·next hl =>
   cases e;obtain⟨p,j,ws,rfl,ej,hi,hs,hp,rk⟩:=Nm l3 (r2.mn m3) hx;cases ej;obtain⟨l4,m4⟩:=l3.vm hi hs (rk.put k (r1.mn (m2.trans m3)));have mm:=((m1.trans m2).trans m3).trans m4;refine⟨p,_,rfl,?_,q σ _ ρ3 mm l4 (rs.mn mm)⟩;rw[uO r3 hk];exact qU.k hp (by rw[rk.length];exact JI hl)
  ·cases e
abbrev vF:ai->Dm (List (D×D)):=λ_ st=>some ([],st)
abbrev o4(fk fv:ai->Dm D)(fr:ai->Dm (List (D×D))):ai->Dm (List (D×D)):=λδ st=>bnd (fk δ st) λk st1=>bnd (fv δ st1) λv st2=>bnd (fr δ st2) λr st3=>some ((k,v) :: r,st3)
abbrev Sn(K:Zfr)(ρ:List Addr)(H:Hp):List (V×V)->List (D×D)->Prop:=Paired λp q=>Rp K ρ H p.1 q.1/\Rp K ρ H p.2 q.2
abbrev JO(K:Zfr)(qV:List (TE×TE))(f:ai->Dm (List (D×D))):Prop:=So K (Sn K) (p8 qV) f
def Sq:JO K [] vF:=by intro ρ σ H δ st b st' Q l rs e q;cases e;exact q [] H ρ .refl l .nil
def Sr(hk:dI K tk fk)(hv:dI K tv fv)(hr:JO K qV fr):JO K ((tk,tv) :: qV) (o4 fk fv fr):=by
 intro ρ σ H δ st b st' Q l rs e q;obtain⟨k,st1,e1,e⟩:=cQ e;obtain⟨v,st2,e2,e⟩:=cQ e;obtain⟨r,st3,e3,e⟩:=cQ e;cases e;exact hk ρ σ H δ st k st1 _ l rs e1 λx H1 ρ1 m1 l1 r1=>hv ρ1 σ H1 δ st1 v st2 _ l1 (rs.mn m1) e2 λy H2 ρ2 m2 l2 r2=>hr ρ2 σ H2 δ st2 r _ _ l2 (rs.mn (m1.trans m2)) e3 λps H3 ρ3 m3 l3 r3 =>
  q _ H3 ρ3 ((m1.trans m2).trans m3) l3 (.cons ⟨r1.mn (m2.trans m3),r2.mn m3⟩ r3)
abbrev keysOf:List (D×D)->Option (List (Key×D))
 |[]=>some []
 |(k,v) :: r=>match keyOf k,keysOf r with
  |some k',some r'=>some ((k',v) :: r')
  |_,_=>none
def YA(r:Sn K ρ H ps qs):∀{kvs:List (Key×D)},keysOf qs=some kvs->∃ws:List (Key×V),ps=ws.map (λkv=>(kV kv.1,kv.2))/\Rk K ρ H ws kvs:=by
 induction r with
 |nil=>intro kvs h;cases h;exact⟨[],rfl,.nil⟩
 |@cons p q ps qs h _ ih =>
  intro kvs hk;obtain⟨q1,q2⟩:=q;obtain⟨p1,p2⟩:=p;simp only[keysOf]at hk;split at hk
  ·next k' r' h1 h2 =>
   cases hk;obtain⟨ws,rfl,rw'⟩:=ih h2;refine⟨(k',p2) :: ws,?_,.cons ⟨rfl,h.2⟩ rw'⟩;rw[Zaz,<- uO h.1 h1]
  ·cases hk
abbrev o5(kvs more:List (Key×D)):List (Key×D):=more.foldl (λacc kv=>putD acc kv.1 kv.2) kvs
def Rk.merge(r:Rk K ρ H more more'):∀{ws:List (Key×V)} {kvs:List (Key×D)},Rk K ρ H ws kvs->Rk K ρ H (nR ws more) (o5 kvs more'):=by
 induction r with
 |nil=>intro ws kvs h;exact h
 |@cons p q _ _ h _ ih =>
  intro ws kvs r0;have:=r0.put p.1 h.2;rw[show putD kvs p.1 q.2=putD kvs q.1 q.2 by rw[h.1]]at this;exact ih this
abbrev sW(fp:ai->Dm (List (D×D))):ai->Dm D:=λδ st=>bnd (fp δ (st ++ [.dct []])) λps st2=>match st2[st.length]?,keysOf ps with
 |some (.dct []),some kvs=>if kvs.length<=15 then some (.ref st.length,st2.set st.length (.dct (o5 [] kvs)))else none
 |_,_=>none
def Ss(hp:JO K qV fp):dI K (ya qV) (sW fp):=by
 intro ρ σ H δ st b st' Q l rs e q;obtain⟨ps,st2,e1,e⟩:=cQ e;intro p Sv;have m0:Mn K ρ H (ρ ++ [p]) (upd H p (.dK [])):=Mn.new Sv;have l0:Rl K (ρ ++ [p]) (upd H p (.dK [])) (st ++ [.dct []]):=l.newD Sv .nil;refine hp (ρ ++ [p]) σ _ δ _ ps st2 _ l0 (rs.mn m0) e1 λvs H2 ρ2 m2 l2 r2=>?_;split at e
 ·next kvs hs hk =>
  split at e
  ·next hl =>
   cases e;have hi:=m2.r _ _ (newR (p:=p) l);obtain⟨ws,e3,r3⟩:=l2.obj _ _ _ hi hs;cases r3;obtain⟨kws,rfl,rk⟩:=YA r2 hk;obtain⟨l4,m4⟩:=l2.vm hi hs (rk.merge .nil);exact⟨e3,kws,rfl,by rw[rk.length];exact hl,q _ _ ρ2 ((m0.trans m2).trans m4) l4 (.ref (m4.r _ _ hi))⟩
  ·cases e
 ·cases e
end
section
variable {st:Store}{δ:ai}{Q:D->Store->Prop}
def YB:Wp (vE δ st) Q↔Q (.ref st.length) (st ++ [.dct []]):=aY
def YC{fd fy:ai->Dm D}:Wp (nz fd fy δ st) Q↔Wp (fd δ st) λx st1=>Wp (fy δ st1) λy st2=>∃kvs k v,lh st2 x=some kvs/\keyOf y=some k/\eG kvs k=some v/\Q v st2:=by
 unfold nz;rw[cT];simp only[cT];constructor<;>refineλh=>aL h λx s h=>aL h λy s2 h=>?_
 ·split at h
  ·next kvs k h1 h2 =>
   split at h
   ·next v h3=>exact⟨kvs,k,v,by assumption,by assumption,h3,aY.mp h⟩
   ·exact(hW.mp h).elim
  ·exact(hW.mp h).elim
 ·obtain⟨kvs,k,v,h1,h2,h3,h⟩:=h
  rw[h1,h2];simp only[h3];exact aY.mpr h
def A6{neg:Bool}{fd fy:ai->Dm D}:Wp (xv neg fy fd δ st) Q↔Wp (fy δ st) λy st1=>Wp (fd δ st1) λx st2=>∃kvs k,lh st2 x=some kvs/\keyOf y=some k/\Q (.bl (if neg then !(eG kvs k).isSome else(eG kvs k).isSome)) st2:=by
 unfold xv;rw[cT];simp only[cT];constructor<;>refineλh=>aL h λx s h=>aL h λy s2 h=>?_
 ·split at h
  ·next kvs k h1 h2=>exact⟨kvs,k,by assumption,by assumption,aY.mp h⟩
  ·exact(hW.mp h).elim
 ·obtain⟨kvs,k,h1,h2,h⟩:=h
  rw[h1,h2];exact aY.mpr h
def YD{R:List (D×D)->Store->Prop}:Wp (vF δ st) R↔R [] st:=aY
def YE{fk fv:ai->Dm D}{fr:ai->Dm (List (D×D))}{R:List (D×D)->Store->Prop}:Wp (o4 fk fv fr δ st) R↔Wp (fk δ st) λk st1=>Wp (fv δ st1) λv st2=>Wp (fr δ st2) λr st3=>R ((k,v) :: r) st3:=by unfold o4;rw[cT];simp only[cT,aY]
def YF{fp:ai->Dm (List (D×D))}:Wp (sW fp δ st) Q↔Wp (fp δ (st ++ [.dct []])) λps st2=>st2[st.length]?=some (.dct [])/\∃kvs,keysOf ps=some kvs/\kvs.length<=15/\Q (.ref st.length) (st2.set st.length (.dct (o5 [] kvs))):=by
 unfold sW;rw[cT];constructor<;>refineλh=>aL h λps s h=>?_
 ·split at h
  ·next kvs h1 h2 =>
   rw[pT,aY,hW]at h;split at h
   ·next hl=>exact⟨by assumption,kvs,by assumption,hl,h⟩
   ·exact h.elim
  ·exact(hW.mp h).elim
 ·obtain⟨h1,kvs,h2,h3,h⟩:=h
  rw[h1,h2];simp only[if_pos h3];exact aY.mpr h
def YG(h:Wp (fv δ st) λv st1=>Wp (fd δ st1) λx st2=>Wp (fy δ st2) λy st3=>∃i kvs k,x=.ref i/\lh st3 x=some kvs/\keyOf y=some k/\lim kvs.length=true/\N δ (st3.set i (.dct (putD kvs k v)))):Ws (sU fd fy fv δ st) N B C R:=by unfold Ws sU;rw[cT];refine aL h λv st1 h=>?_;rw[cT];refine aL h λx st2 h=>?_;rw[cT];refine aL h λy st3 h=>?_;obtain⟨i,kvs,k,rfl,h1,h2,h3,h⟩:=h;rw[h1,h2];simp only[h3];exact aY.mpr h
end
structure Ex(c:List Nat)(st st':Store):Prop where
 len:st.length<=st'.length
 keep:∀(i:Nat) (o:O),st[i]?=some o->i ∉ c->st'[i]?=some o
section
variable {c c':List Nat}{st st1 st2:Store}{i:Nat}{o:O}{ds:List D}
def Ex.refl:Ex c st st:=⟨Zad _,λ_ _ h _=>h⟩
def Ex.trans(a:Ex c st st1)(b:Ex c st1 st2):Ex c st st2:=⟨Zap a.len b.len,λi o h n=>b.keep i o (a.keep i o h n) n⟩
def Ex.mono(a:Ex c st st1)(h:∀x∈c,x∈c'):Ex c' st st1:=⟨a.len,λi o e n=>a.keep i o e λz=>n (h i z)⟩
def Ex.any(a:Ex [] st st1):Ex c st st1:=a.mono λx h=>nomatch h
def dh{α:Type}{l:List α}{i:Nat}{o:α}(h:l[i]?=some o):i<l.length:=(Zab.mp h).1
def kN{l m:List O}(h:l[i]?=some o):(l ++ m)[i]?=some o:=by rw[Zan (dh h)];exact h
def h9:(l ++ [o])[l.length]?=some o:=by rw[Zau (Zad _),ZaW];rfl
def Ex.app(a:Ex c st st1)(m:List O):Ex c st (st1 ++ m):=⟨by rw[Zaf];exact Zap a.len (Zcq _ _),λi o h n=>kN (a.keep i o h n)⟩
def Ex.cL(m:List O):Ex c st (st ++ m):=Ex.refl.app m
def Ex.put(a:Ex c st st1)(h:i∈c):Ex c st (st1.set i o):=⟨by rw[Za8];exact a.len,λj u e n=>by rw[Zak (λz=>n (by rw[<- z];exact h))];exact a.keep j u e n⟩
def Ex.loc(a:Ex c st st1)(h:st.length<=i):Ex c st (st1.set i o):=⟨by rw[Za8];exact a.len,λj u e n=>by rw[Zak (by have:=dh e;lk)];exact a.keep j u e n⟩
def bz(h:st[i]?=some (.lst ds)):items st i=some ds:=by unfold items;rw[h]
def Nn(h:st[i]?=some (.pO ds)):items st i=some ds:=by unfold items;rw[h]
def kP(h:st[i]?=some (.lst ds)):own st i=some ds:=by unfold own;rw[h]
def vG:items (st ++ [.lst ds]) st.length=some ds:=bz h9
def YH:own (st ++ [.lst ds]) st.length=some ds:=kP h9
def YI{o':O}:items (st ++ [.lst ds] ++ [o']) st.length=some ds:=bz (kN h9)
def YJ{o':O}:own (st ++ [.lst ds] ++ [o']) st.length=some ds:=kP (kN h9)
def YK{o' o2:O}:items (st ++ [.lst ds] ++ [o'] ++ [o2]) st.length=some ds:=bz (kN (kN h9))
def YL{o' o2:O}:own (st ++ [.lst ds] ++ [o'] ++ [o2]) st.length=some ds:=kP (kN (kN h9))
def YM{lo hi:Int}:kL (st ++ [.lL lo hi]) (.ref st.length)=some (lo,hi):=by simp only[kL,h9]
def YN:cR st (.tup ds)=some ds:=rfl
def YO:cR st (.ref i)=items st i:=rfl
def oj(h:(items st i).isSome=true):wx "list" st (.ref i)=true:=by simp only[wx,h];rfl
def Sw:wx "tuple" st (.tup ds)=true:=by simp only[wx];rfl
def kO(h:n<=100000):lim n=true:=Nat.ble_eq_true_of_le h
def YQ:(l ++ [o]).set l.length u=l ++ [u]:=by rw[List.set_append_right _ _ (Zad _),ZaW];rfl
end
section
variable {st:Store}{Q:D->Store->Prop}{i j:Int}{k:Nat}{ds es:List D}
def YR{a:D}:Wp (dc [a] st) Q↔∃p,kL st a=some p/\rH p.1 p.2=true/\Q (.ref st.length) (st ++ [.lst (aE p.1 (p.2-p.1).toNat)]):=by
 show Wp (match kL st a with|some (lo,hi)=>if rH lo hi=true then some (D.ref st.length,st ++ [O.lst (aE lo (hi-lo).toNat)])else none|none=>none) Q↔_;cases kL st a with
 |none=>rw[hW];exact⟨False.elim,λ⟨_,e,_⟩=>by cases e⟩
 |some p =>
  obtain⟨lo,hi⟩:=p;show Wp (if rH lo hi=true then some (D.ref st.length,st ++ [O.lst (aE lo (hi-lo).toNat)])else none) Q↔_;rw[pT,aY,hW];split
  ·next h=>exact⟨λq=>⟨_,rfl,h,q⟩,λ⟨_,e,_,q⟩=>by cases e;exact q⟩
  ·next h=>exact⟨False.elim,λ⟨_,e,q,_⟩=>by cases e;exact h q⟩
def YS{a:D}:Wp (xo [a] st) Q↔∃p,kL st a=some p/\rH p.1 p.2=true/\Q (.tup (aE p.1 (p.2-p.1).toNat)) st:=by
 show Wp (match kL st a with|some (lo,hi)=>if rH lo hi=true then some (D.tup (aE lo (hi-lo).toNat),st)else none|none=>none) Q↔_;cases kL st a with
 |none=>rw[hW];exact⟨False.elim,λ⟨_,e,_⟩=>by cases e⟩
 |some p =>
  obtain⟨lo,hi⟩:=p;show Wp (if rH lo hi=true then some (D.tup (aE lo (hi-lo).toNat),st)else none) Q↔_;rw[pT,aY,hW];split
  ·next h=>exact⟨λq=>⟨_,rfl,h,q⟩,λ⟨_,e,_,q⟩=>by cases e;exact q⟩
  ·next h=>exact⟨False.elim,λ⟨_,e,q,_⟩=>by cases e;exact h q⟩
def A7:Wp (tM (.ref k) (.int j) st) Q↔∃xs,own st k=some xs/\(-9223372036854775808<=j/\j<9223372036854775808)/\lim (xs.length*j.toNat)=true/\Q (.ref st.length) (st ++ [.lst (List.replicate j.toNat xs).flatten]):=by
 show Wp (match own st k with|some a=>if(decide (-9223372036854775808<=j/\j<9223372036854775808) && lim (a.length*j.toNat))=true then some (D.ref st.length,st ++ [O.lst (List.replicate j.toNat a).flatten])else none|_=>none) Q↔_;cases own st k with
 |none=>simp only[hW];exact⟨False.elim,λ⟨_,e,_⟩=>by cases e⟩
 |some xs =>
  show Wp (if(decide (-9223372036854775808<=j/\j<9223372036854775808) && lim (xs.length*j.toNat))=true then some (D.ref st.length,st ++ [O.lst (List.replicate j.toNat xs).flatten])else none) Q↔_;rw[pT,aY,hW];split
  ·next h=>rw[ZaD,decide_eq_true_eq]at h;exact⟨λq=>⟨_,rfl,h.1,h.2,q⟩,λ⟨_,e,_,_,q⟩=>by cases e;exact q⟩
  ·next h=>rw[ZaD,decide_eq_true_eq]at h;exact⟨False.elim,λ⟨_,e,q,q',_⟩=>by cases e;exact h ⟨q,q'⟩⟩
def YT:Wp (nZ (.ref k) [.int i] st) Q↔∃xs j y,own st k=some xs/\(-9223372036854775808<=i/\i<9223372036854775808)/\seqIndex? i xs.length=some j/\xs[j]?=some y/\Q y (st.set k (.lst (xs.eraseIdx j))):=by
 constructor
 ·rintro⟨a,s,e,q⟩
  simp only[nZ]at e;split at e
  ·next xs hx =>
   split at e
   ·next hk =>
    split at e
    ·next j hj =>
     split at e
     ·next y hy=>cases e;exact⟨xs,j,_,hx,of_decide_eq_true hk,hj,hy,q⟩
     ·cases e
    ·cases e
   ·cases e
  ·cases e
 ·rintro⟨xs,j,y,hx,hk,hj,hy,q⟩
  refine⟨_,_,?_,q⟩;simp only[nZ,hx,hj,hy,decide_eq_true hk];rfl
def YU{b:Nat}:Wp (lM (.ref k) [.ref b] st) Q↔∃xs ys,own st k=some xs/\own st b=some ys/\lim (xs.length+ys.length)=true/\Q .non (st.set k (.lst (xs ++ ys))):=by
 constructor
 ·rintro⟨a,s,e,q⟩
  simp only[lM]at e;split at e
  ·next xs ys hx hy =>
   split at e
   ·next hl=>cases e;exact⟨xs,ys,hx,hy,hl,q⟩
   ·cases e
  ·cases e
 ·rintro⟨xs,ys,hx,hy,hl,q⟩
  refine⟨_,_,?_,q⟩;simp only[lM,hx,hy,hl];rfl
def Sx{v:Int}:Wp (lb (.tup ds) [.int v] st) Q↔∃ns j,b8 iV ds=some ns/\ns.findIdx? (λi=>decide (i=v))=some j/\Q (.int (j:Int)) st:=by
 constructor
 ·rintro⟨a,s,e,q⟩
  simp only[lb]at e;split at e
  ·next ns hn =>
   split at e
   ·next j hj=>cases e;exact⟨ns,j,hn,hj,q⟩
   ·cases e
  ·cases e
 ·rintro⟨ns,j,hn,hj,q⟩
  refine⟨_,_,?_,q⟩;simp only[lb,hn,hj]
def YV{v:Int}{ns:List Int}(h:items st k=some (ns.map D.int))(hv:v∈ns)(hl:ns.length<=1000)(hb:∀i∈ns,-1000000000000000000<=i/\i<=1000000000000000000):Wp (lO (.ref k) [.int v] st) Q↔Q (.int (ns.idxOf v:Int)) st:=by
 have e:b8 iV (ns.map D.int)=some ns:=by
  have:=yD (f:=iV) (g:=D.int) (k:=id) (λ_=>rfl) ns;rw[this,Zb1]
 have e2:lO (.ref k) [.int v] st=some (.int (ns.idxOf v:Int),st):=by
  simp only[lO,h,Zbg,e];rw[if_pos ⟨hv,hl,hb⟩]
 rw[e2,aY]
def A8:Wp (AG [.ref k] st) Q↔∃ds bs,items st k=some ds/\b8 bV ds=some bs/\Q (.bl (bs.all id)) st:=by
 constructor
 ·rintro⟨a,s,e,q⟩
  simp only[AG]at e;split at e
  ·next bs hb =>
   cases e;obtain⟨ds,h1,h2⟩:=Za0.mp hb;exact⟨ds,bs,h1,h2,q⟩
  ·cases e
 ·rintro⟨ds,bs,h1,h2,q⟩
  refine⟨_,_,?_,q⟩;simp only[AG,h1,Zbg,h2]
def E8:Wp (uq neg a c st) Q↔∃x ds vs,sV a=some x/\cR st c=some ds/\b8 sV ds=some vs/\Q (.bl (if neg then !x6 x vs else x6 x vs)) st:=by
 constructor
 ·rintro⟨b,s,e,q⟩
  simp only[uq]at e;split at e
  ·next x vs h1 h2 =>
   cases e;obtain⟨ds,h3,h4⟩:=Za0.mp h2;exact⟨x,ds,vs,h1,h3,h4,q⟩
  ·cases e
 ·rintro⟨x,ds,vs,h1,h2,h3,q⟩
  refine⟨_,_,?_,q⟩;simp only[uq,h1,h2,Zbg,h3]
def Sy(ns:List Int):b8 sV (ns.map D.int)=some (ns.map V.int):=yD (f:=sV) (g:=D.int) (k:=V.int) (λ_=>rfl) ns
def JP(ns:List Int):b8 iV (ns.map D.int)=some ns:=by have:=yD (f:=iV) (g:=D.int) (k:=id) (λ_=>rfl) ns;rw[this,Zb1]
def JQ:Wp (eJ neg a b st) Q↔∃p q,gZ st 20 a=some p/\gZ st 20 b=some q/\(PyData.canLay0 p=true/\PyData.canLay0 q=true/\min p.depth q.depth<=60)/\Q (.bl (if neg then !PyData.eqv p q else PyData.eqv p q)) st:=by
 constructor
 ·rintro⟨c,s,e,q⟩
  simp only[eJ]at e;split at e
  ·next x y h1 h2 =>
   split at e
   ·next hs =>
    cases e;rw[ZaD,ZaD,decide_eq_true_eq]at hs;exact⟨x,y,h1,h2,⟨hs.1.1,hs.1.2,hs.2⟩,q⟩
   ·cases e
  ·cases e
 ·rintro⟨x,y,h1,h2,⟨h3,h4,h5⟩,q⟩
  refine⟨_,_,?_,q⟩;simp only[eJ,h1,h2,h3,h4,decide_eq_true h5];rfl
def A9{z:Str}:Wp (AB (.str z) (.int i) st) Q↔∃c,lim z.length=true/\dM z.cps.toList i=some c/\Q (.str ⟨#[c]⟩) st:=by
 constructor
 ·rintro⟨c,s,e,q⟩
  simp only[AB]at e;split at e
  ·next h1 =>
   split at e
   ·next c hc=>cases e;exact⟨c,h1,hc,q⟩
   ·cases e
  ·cases e
 ·rintro⟨c,h1,h2,q⟩
  refine⟨_,_,?_,q⟩;simp only[AB,h1,h2];rfl
def YW{δ:ai}{fa:ai->Dm (List D)}{R:Src->Store->Prop}:Wp (bW fa δ st) R↔Wp (fa δ st) λas st1=>∃j,as=[.int j]/\(-4611686018427387904<=j/\j<4611686018427387904)/\R (.fix (aE 0 j.toNat)) st1:=by
 unfold bW;rw[cT];constructor<;>refineλh=>aL h λas s h=>?_
 ·split at h
  ·next j =>
   rw[pT,aY,hW]at h;split at h
   ·next hk=>exact⟨j,rfl,of_decide_eq_true hk,h⟩
   ·exact h.elim
  ·exact(hW.mp h).elim
 ·obtain⟨j,rfl,h1,h⟩:=h
  simp only[decide_eq_true h1,if_true];exact aY.mpr h
def YX{δ:ai}{fa:ai->Dm (List D)}{R:Src->Store->Prop}:Wp (qj fa δ st) R↔Wp (fa δ st) λas st1=>∃i j,as=[.int i,.int j]/\((-4611686018427387904<=i/\i<4611686018427387904)/\-4611686018427387904<=j/\j<4611686018427387904)/\R (.fix (aE i (j-i).toNat)) st1:=by
 unfold qj;rw[cT];constructor<;>refineλh=>aL h λas s h=>?_
 ·split at h
  ·next i j =>
   rw[pT,aY,hW]at h;split at h
   ·next hk=>exact⟨i,j,rfl,of_decide_eq_true hk,h⟩
   ·exact h.elim
  ·exact(hW.mp h).elim
 ·obtain⟨i,j,rfl,h1,h⟩:=h
  simp only[decide_eq_true h1,if_true];exact aY.mpr h
def Np{δ:ai}{fa:ai->Dm D}{R:Src->Store->Prop}:Wp (bP fa δ st) R↔Wp (fa δ st) λa st1=>∃ds,a=.tup ds/\R (.fix ds) st1:=by unfold bP;rw[cT];constructor<;>refineλh=>aL h λa s h=>?_;cases a<;>simp only[aY,hW]at h;exact⟨_,rfl,h⟩;obtain⟨j,rfl,h⟩:=h;exact aY.mpr h
def Nq{δ:ai}{fa:ai->Dm D}{R:Src->Store->Prop}:Wp (cS fa δ st) R↔Wp (fa δ st) λa st1=>∃i ds,a=.ref i/\items st1 i=some ds/\R (.live i) st1:=by
 unfold cS;rw[cT];constructor<;>refineλh=>aL h λa s h=>?_
 ·split at h
  ·split at h
   ·next i ds hd=>exact⟨_,ds,rfl,hd,aY.mp h⟩
   ·exact(hW.mp h).elim
  ·exact(hW.mp h).elim
 ·obtain⟨i,ds,rfl,hd,h⟩:=h
  simp only[hd];exact aY.mpr h
def YY{δ:ai}{fa:ai->Dm (List D)}{R:Src->Store->Prop}:Wp (mN fa δ st) R↔Wp (fa δ st) λas st1=>∃ds,as=[.tup ds]/\R (.fix (gi ds)) st1:=by unfold mN;rw[cT];constructor<;>refineλh=>aL h λas s h=>?_;split at h;exact⟨_,rfl,aY.mp h⟩;exact(hW.mp h).elim;obtain⟨ds,rfl,h⟩:=h;exact aY.mpr h
def CV{i:Nat}{d:D}{δ:ai}{R:ai->Store->Prop}:Wp (hName i d δ st) R↔R (δ.set i (some d)) st:=aY
def Sz{δ:ai}{R:ai->Store->Prop}:Wp (gx [] δ st) R↔R δ st:=aY
def Nr{f:D->ai->Dm ai}{g:List D->ai->Dm ai}{d:D}{ds:List D}{δ:ai}{R:ai->Store->Prop}:Wp (aO f g (d :: ds) δ st) R↔Wp (f d δ st) λδ1 st1=>Wp (g ds δ1 st1) R:=cT
def SA{n:Nat}{f:List D->ai->Dm ai}{ds:List D}{δ:ai}{R:ai->Store->Prop}:Wp (fW n f (.tup ds) δ st) R↔ds.length=n/\Wp (f ds δ st) R:=by
 show Wp (if ds.length=n then f ds δ st else none) R↔_;rw[pT,hW];split
 ·next h=>exact⟨λq=>⟨h,q⟩,λq=>q.2⟩
 ·next h=>exact⟨False.elim,λq=>h q.1⟩
def YZ{fo fi:ai->Dm D}{d:D}{δ:ai}{R:ai->Store->Prop}:Wp (hSub fo fi d δ st) R↔Wp (fo δ st) λo st1=>Wp (fi δ st1) λi st2=>∃r k xs j,o=.ref r/\i=.int k/\own st2 r=some xs/\oe xs.length k=some j/\R δ (st2.set r (.lst (xs.set j d))):=by
 unfold hSub;rw[cT];simp only[cT];constructor<;>refineλh=>aL h λo s h=>aL h λi s2 h=>?_
 ·split at h
  ·split at h
   ·next xs hx =>
    split at h
    ·next j hj=>exact⟨_,_,xs,j,rfl,rfl,hx,hj,aY.mp h⟩
    ·exact(hW.mp h).elim
   ·exact(hW.mp h).elim
  ·exact(hW.mp h).elim
 ·obtain⟨r,k,xs,j,rfl,rfl,hx,hj,h⟩:=h
  simp only[hx,hj];exact aY.mpr h
def Y0{a:D}{c:String}:Wp (qh [a,.ty c] st) Q↔EV st a=some c/\Q (.bl true) st:=by
 constructor
 ·rintro⟨b,s,e,q⟩
  simp only[qh]at e;split at e
  ·next T hT =>
   split at e
   ·next h=>cases e;subst h;exact⟨hT,q⟩
   ·cases e
  ·cases e
 ·rintro⟨h,q⟩
  refine⟨_,_,?_,q⟩;simp only[qh,h,if_true]
def E9{δ:ai}{R:Bool->Store->Prop}:Wp (bR δ st) R↔R true st:=aY
end
def SD{α:Type}(x:α)(xs:List α):dM (x :: xs) 0=some x:=by unfold dM oe;rw[if_pos ∅,if_pos (by simp only[ZaE];lk)];rfl
def JR{α:Type}(x y:α)(xs:List α):dM (x :: y :: xs) 1=some y:=by unfold dM oe;rw[if_pos ∅,if_pos (by simp only[ZaE];lk)];rfl
def Ba{α:Type}{a:α}{l:List α}:(a :: l)[0]?=some a:=List.getElem?_cons_zero
def Bb{α:Type}{a:α}{l:List α}{i:Nat}:(a :: l)[i+1]?=l[i]?:=List.getElem?_cons_succ
def Bc{α:Type}{a b:α}{l:List α}:(a :: l).set 0 b=b :: l:=List.set_cons_zero
def Bd{α:Type}{a b:α}{l:List α}{i:Nat}:(a :: l).set (i+1) b=a :: l.set i b:=List.set_cons_succ
def Be{α:Type}(a b:α):(some a=some b)=(a=b):=Option.some.injEq a b
def Fb{α:Type}{p:α->Prop}{a':α}:(∃a,a'=a/\p a)↔p a':=exists_eq_left'
def Nt{α:Type}{p:α->Prop}{a':α}:(∃a,a=a'/\p a)↔p a':=exists_eq_left
def Fc{α:Type}{p:α->Prop}{b:Prop}:(∃x,b/\p x)↔b/\∃x,p x:=exists_and_left
def Fe(a b:Int):(D.int a=D.int b)=(a=b):=D.int.injEq a b
def Nu(a b:Bool):(D.bl a=D.bl b)=(a=b):=D.bl.injEq a b
def Ff(a b:Str):(D.str a=D.str b)=(a=b):=D.str.injEq a b
def Fg(a b:List D):(D.tup a=D.tup b)=(a=b):=D.tup.injEq a b
def Fh(a b:Nat):(D.ref a=D.ref b)=(a=b):=D.ref.injEq a b
def Bf{α:Type}(a:α)(l:List α)(b:α)(m:List α):(a :: l=b :: m)=(a=b/\l=m):=List.cons.injEq a l b m
def Bg{α β:Type}(a:α)(b:β)(c:α)(d:β):((a,b)=(c,d))=(a=c/\b=d):=Prod.mk.injEq a b c d
def Bh(p:Prop):(p/\True)=p:=and_true p
def Bi(p:Prop):(True/\p)=p:=true_and p
def Bj:(!true)=false:=rfl
def Bk:(!false)=true:=rfl
def Nv:(false=true)=False:=by simp
def Fi{α:Type}{h:Decidable False}(t e:α):@ite α False h t e=e:=if_false t e
def Fj{α:Type}{h:Decidable True}(t e:α):@ite α True h t e=t:=if_true t e
abbrev bg:=And.intro @AO (And.intro @Ng (And.intro @Nh (And.intro @E2 (And.intro @CT (And.intro @Ni (And.intro @uv (And.intro @R7 (And.intro @R8 (And.intro @Nj (And.intro @AQ (And.intro @AR (And.intro @yJ (And.intro @yK (And.intro @Yn (And.intro @AU (And.intro @Yo (And.intro @R9 (And.intro @Sb (And.intro @yL (And.intro @yM (And.intro @AV (And.intro @Sd (And.intro @E3 (And.intro @E4 (And.intro @E5 (And.intro @E6 (And.intro @AW (And.intro @AX (And.intro @Yp (And.intro @AY (And.intro @AZ (And.intro @A0 (And.intro @A1 (And.intro @Nk (And.intro @A2 (And.intro @A3 (And.intro @Se (And.intro @Yq (And.intro @Sf (And.intro @A4 (And.intro @Yr (And.intro @Ys (And.intro @Yt (And.intro @Yu (And.intro @Yv (And.intro @Yw (And.intro @Yx (And.intro @Yy (And.intro @Yz (And.intro @YB (And.intro @YC (And.intro @A6 (And.intro @YD (And.intro @YE (And.intro @YF (And.intro @vG (And.intro @YH (And.intro @YI (And.intro @YJ (And.intro @YK (And.intro @YL (And.intro @YM (And.intro @YN (And.intro @YO (And.intro @YR (And.intro @YS (And.intro @A7 (And.intro @YT (And.intro @YU (And.intro @Sx (And.intro @A8 (And.intro @A9 (And.intro @YW (And.intro @YX (And.intro @Np (And.intro @Nq (And.intro @YY (And.intro @CV (And.intro @Sz (And.intro @Nr (And.intro @SA (And.intro @YZ (And.intro @Y0 (And.intro @E9 (And.intro @SD (And.intro @JR (And.intro @Ba (And.intro @Bb (And.intro @Bc (And.intro @Bd (And.intro @Be (And.intro @Fb (And.intro @Nt (And.intro @Fc (And.intro @Fe (And.intro @Nu (And.intro @Ff (And.intro @Fg (And.intro @Fh (And.intro @Bf (And.intro @Bg (And.intro @Bh (And.intro @Bi (And.intro @Bj (And.intro @Bk (And.intro @Nv (And.intro @Fi (@Fj))))))))))))))))))))))))))))))))))))))))))))))))))))))))))))))))))))))))))))))))))))))))))))))))))))))))))))
def bE{α:Type}{m:Option (α×Store)}{Q:α->Store->Prop}(h:∀Q':α->Store->Prop,(∀a st,Q a st->Q' a st)->Wp m Q'):Wp m Q:=h Q λ_ _ h=>h
section
variable {X:Cx}{K:Zfr}
def SE:∀{ns:List Int},(∀i∈ns,Mq i)->PyData.weightAll (c6 ns)<=65*ns.length
 |[],_=>by show PyData.weightAll []<=0;simp only[PyData.weightAll];exact Zad _
 |n :: r,h=>by
  have ih:=SE (ns:=r) λi hi=>h i (Zal _ hi);have hn:=h n Zai;have hw:(PyData.int n).weight<=64:=by
   simp only[PyData.weight];split;lk
   have:n.natAbs<2 ^ 63:=by unfold Mq at hn;lk
   have h2:n.natAbs.log2<63:=by
    by_cases h0:n.natAbs=0;rw[h0];decide;exact(Nat.log2_lt h0).mpr this
   lk
  show PyData.weightAll (PyData.int n :: c6 r)<=65*(r.length+1);simp only[PyData.weightAll];lk
abbrev qk(K:Zfr):V->List V->Hp->VK->Prop:=λx vs H Q=>∃(a:Addr) (ns:List Int) (v:Int),x=.ref a/\vs=[.int v]/\jW K H a (ns.map V.int)/\v∈ns/\ns.length<=1000/\(∀i∈ns,Mq i)/\Q (.int (ns.idxOf v:Int)) H
def Y1:xZ X "list.index" (qk X.K):=by
 intro pins s σ H x xs v us Q I rx rv h;obtain⟨a,ns,y,rfl,rfl,hq,hm,hl,hb,q⟩:=h;cases rx;obtain⟨u,rfl,t,rfl⟩:=vals1 rv;obtain⟨its,r,pl,hz⟩:=I.list hq
 exact PyProof.Rows.index_list_ints (vs:=its) pl.isList (LN r) (by
  have hw:=SE hb;have c1:(PyData.list (List.map PyData.int ns)).canLay0=true:=zV ns;have c2:(PyData.list (List.map PyData.int ns)).depth<=64:=by show PyData.depthAll (c6 ns)+1<=64;rw[CA];lk
  have c3:(PyData.list (List.map PyData.int ns)).weight<=2 ^ 20:=by simp only[PyData.weight];exact Zap hw ⋯
  show(_ && _ && _)=true
  rw[c1,decide_eq_true c2,decide_eq_true c3];rfl) hm ⟨.int _,H,I.tok _,⟨_,rfl⟩,q⟩
def Y2(hK:X.K=K):xZ X "list.index" (qk K):=by subst hK;exact Y1
def SF:xi K "list" (qk K) lO:=by
 intro ρ H st x xs a as b st' Q l rx tN e q;unfold lO at e;split at e
 ·split at e
  ·next ns hn =>
   split at e
   ·next hm =>
    cases e;obtain⟨v,rfl,r⟩:=tN.one';cases r;cases rx with
    |ref hi =>
     obtain⟨ds,h1,h2⟩:=Za0.mp hn;obtain⟨vs,s,r⟩:=l.items hi h1;cases EU r h2;exact⟨_,ns,_,rfl,rfl,s,hm.1,hm.2.1,hm.2.2,q _ H ρ .refl l (.int _)⟩
   ·cases e
  ·cases e
 ·cases e
end
section
variable {st:Store}{Q:D->Store->Prop}
def SG(n:Nat)(L:List Int):b8 (gZ st (n+1)) (L.map D.int)=some (c6 L):=yD (f:=gZ st (n+1)) (g:=D.int) (k:=PyData.int) (λ_=>by simp only[gZ]) L
def Nw(a b:List PyData):PyData.eqv (.list a) (.list b)=PyData.eqvAll a b:=by simp only[PyData.eqv]
def JS(a b:List PyData):PyData.eqv (.tuple a) (.tuple b)=PyData.eqvAll a b:=by simp only[PyData.eqv]
def SH{neg:Bool}{a b:Nat}{L M:List Int}(ha:items st a=some (L.map D.int))(hb:items st b=some (M.map D.int)):Wp (eJ neg (.ref a) (.ref b) st) Q↔Q (.bl (if neg then !decide (L=M)else decide (L=M))) st:=by
 have p1:∀(i:Nat) (N:List Int),items st i=some (N.map D.int)->gZ st 20 (.ref i)=some (.list (c6 N)):=λi N h=>by
  simp only[gZ,h];rw[SG];rfl
 have dp:∀N:List Int,PyData.depth (.list (c6 N))<=1:=λN=>by show PyData.depthAll (c6 N)+1<=1;rw[CA];lk
 rw[JQ];constructor;rintro⟨p,q,h1,h2,_,h⟩;rw[p1 a L ha]at h1;rw[p1 b M hb]at h2;cases h1;cases h2;rw[Nw,D5]at h;exact h;intro h;refine⟨_,_,p1 a L ha,p1 b M hb,⟨zV L,zV M,by have:=dp L;lk⟩,?_⟩;rw[Nw,D5];exact h
abbrev Fm(rs:List (List Int)):D:=.tup (rs.map λr=>.tup (r.map D.int))
def Ny(rs:List (List Int)):gZ st 20 (Fm rs)=some (.tuple (rs.map mK)):=by unfold Fm;simp only[gZ];rw[yD (f:=gZ st 19) (g:=λr:List Int=>D.tup (r.map D.int)) (k:=mK) (λr=>by simp only[gZ];rw[SG];rfl) rs];rfl
def Nz:∀(rs ss:List (List Int)),PyData.eqvAll (rs.map mK) (ss.map mK)=decide (rs=ss)
 |[],[]=>rfl
 |[],_ :: _=>rfl
 |_ :: _,[]=>rfl
 |r :: rs,s :: ss=>by
  show(PyData.eqv (mK r) (mK s) && PyData.eqvAll (rs.map mK) (ss.map mK))=decide (r :: rs=s :: ss);rw[Nz rs ss];unfold mK;rw[JS,D5];by_cases h:r=s;subst h;simp;simp[h]
def Y3:Wp (eJ neg (Fm rs) (Fm ss) st) Q↔Q (.bl (if neg then !decide (rs=ss)else decide (rs=ss))) st:=by
 have dp:∀rs:List (List Int),PyData.depth (.tuple (rs.map mK))<=2:=λN=>by show PyData.depthAll (N.map mK)+1<=2;have:=Qm N;lk
 rw[JQ];constructor;rintro⟨p,q,h1,h2,_,h⟩;rw[Ny]at h1 h2;cases h1;cases h2;rw[JS,Nz]at h;exact h;intro h;refine⟨_,_,Ny rs,Ny ss,⟨Mp rs,Mp ss,by have:=dp rs;lk⟩,?_⟩;rw[JS,Nz];exact h
end
abbrev bS(st:Store)(f:Nat):Prop:=∃o m:Int,st[f]?=some (.lst [.int o,.int m])/\0<=o/\0<=m/\m<4294967296
def Fn:oe 2 0=some 0:=by decide
def Fp:oe 2 1=some 1:=by decide
def tP(n:Nat):aE 0 n=(ae.upto n).map D.int:=by unfold aE ae.upto;rw[ZaC];apply ZaO;intro i _;simp
def Y4(L:List Int)(j:Nat):(L.map D.int).eraseIdx j=(L.eraseIdx j).map D.int:=by
 induction L generalizing j with
 |nil=>rfl
 |cons a r ih =>
  cases j with
  |zero=>rfl
  |succ j=>show D.int a :: (r.map D.int).eraseIdx j=_;rw[ih];rfl
def Y5{L:List Int}{j:Nat}(h:j<L.length):(L[j] :: L.eraseIdx j).Perm L:=by
 induction L generalizing j with
 |nil=>exact absurd h (ZaV _)
 |cons a r ih =>
  cases j with
  |zero=>exact Zca _
  |succ j =>
   have:=ih (j:=j) (by simpa using h);exact(List.Perm.swap _ _ _).trans (this.cons a)
def bS.keep(h:bS st f)(e:Ex [] st st'):bS st' f:=by obtain⟨o,m,e1,r⟩:=h;exact⟨o,m,e.keep _ _ e1 (by simp),r⟩
def bS.ne(h:bS st f)(hi:i≠f):bS (st.set i o) f:=by obtain⟨x,m,e1,r⟩:=h;exact⟨x,m,by rw[Zak hi];exact e1,r⟩
def bS.lt{st:Store}{f:Nat}(h:bS st f):f<st.length:=let ⟨_,_,e,_⟩:=h;dh e
def rg{xs:List Int}{i:Int}(h0:0<=i)(h1:i<(xs.length:Int)):dM (xs.map D.int) i=some (.int (ae.app xs i)):=by
 have e:(xs.map D.int)[i.toNat]?=some (.int (ae.app xs i)):=by rw[Zag,ae.qX h0 h1];rfl
 have:=Cv e
 rwa [ZaG h0]at this
def Fq{xs:List Int}{i:Nat}{d:D}(h:(xs.map D.int)[i]?=some d):∃x,xs[i]?=some x/\d=.int x:=by rw[Zag]at h;obtain⟨x,h1,h2⟩:=Zay.mp h;exact⟨x,h1,h2.symm⟩
def NA(x:Int):∀(ns:List Int),x6 (.int x) (ns.map V.int)=ns.contains x
 |[]=>rfl
 |n :: r=>by
  have e:=NA x r;unfold x6 at e ⊢;rw[Zaz,Za1,e,List.contains_cons]
  congr 1
  show(n == x)=(x == n);exact Bool.beq_comm
def JT{st:Store}{Q:D->Store->Prop}{neg:Bool}{x:Int}{c:D}{ns:List Int}(hc:cR st c=some (ns.map D.int)):Wp (uq neg (.int x) c st) Q↔Q (.bl (if neg then !ns.contains x else ns.contains x)) st:=by rw[E8];constructor;rintro⟨v,ds,vs,h1,h2,h3,h⟩;cases h1;rw[hc]at h2;cases h2;rw[Sy]at h3;cases h3;rw[NA]at h;exact h;intro h;refine⟨_,_,_,rfl,hc,Sy ns,?_⟩;rw[NA];exact h
abbrev bN(xs ys:List Int):D:=.tup [.tup (xs.map D.int),.tup (ys.map D.int)]
structure rJ(lP st:Store)(f r u:Nat)(n:Nat)(X Y:List Int):Prop where
 hr:st[r]?=some (.lst (X.map D.int))
 hu:st[u]?=some (.lst (Y.map D.int))
 ne:r≠u
 r0:lP.length<=r
 u0:lP.length<=u
 tX:ae.Tn n X
 tY:ae.Tn n Y
 fd:bS st f
 ex:Ex [f] lP st
section
variable {lP st st':Store}{f r u n:Nat}{X Y Z:List Int}{o:O}
def rJ.keep(h:rJ lP st f r u n X Y)(e:Ex [] st st'):rJ lP st' f r u n X Y:=⟨e.keep _ _ h.hr (by simp),e.keep _ _ h.hu (by simp),h.ne,h.r0,h.u0,h.tX,h.tY,h.fd.keep e,h.ex.trans e.any⟩
def rJ.put(h:rJ lP st f r u n X Y)(t:ae.Tn n Z)(hf:f<lP.length):rJ lP (st.set r (.lst (Z.map D.int))) f r u n Z Y:=⟨Zah (dh h.hr),by rw[Zak h.ne];exact h.hu,h.ne,h.r0,h.u0,t,h.tY,h.fd.ne (by have:=h.r0;lk),h.ex.loc h.r0⟩
end
def SI(n:Nat):(ae.sJ n).map D.int=aE 1 ((n:Int)-1).toNat ++ [.int 0]:=by unfold ae.sJ aE;rw[Zar,ZaC,show((n:Int)-1).toNat=n-1 by lk];rfl
def xw(h:0<=lo/\lo<=10000/\0<=hi/\hi<=10000):rH lo hi=true:=by unfold rH;rw[ZaD,decide_eq_true_eq];exact⟨by lk,kO ⋯⟩
def Bl(w n:Nat):(ae.xa w n).map D.int=aE 1 ((w:Int)-1).toNat ++ [.int 0] ++ aE (w:Int) ((n:Int)-(w:Int)).toNat:=by unfold ae.xa aE;rw[Zar,Zar,ZaC,ZaC,show((w:Int)-1).toNat=w-1 by lk,show((n:Int)-(w:Int)).toNat=n-w by lk];rfl
def Y6(xs:List D)(j:Nat):cutD xs none (some (j:Int))=xs.take j:=by unfold cutD;rw[HT.VP,HT.VQ,ZcC,Nat.sub_zero,List.take_eq_take_iff];lk
def Bm(h0:0<w)(h:w<n):(ae.xb w n).map D.int=cutD ([D.int (w:Int)] ++ aE 1 ((w:Int)-1).toNat ++ aE ((w:Int)+1) ((n:Int)-((w:Int)+1)).toNat ++ [.int 0]) none (some (n:Int)):=by rw[Y6,List.take_of_length_le (by simp[jH];lk)];unfold ae.xb aE;rw[Zar,Zar,Zar,ZaC,ZaC,show((w:Int)-1).toNat=w-1 by lk,show((n:Int)-((w:Int)+1)).toNat=n-(w+1) by lk];rfl
abbrev o6(n:Nat)(xs ys:List Int):Prop:=ae.Tn n xs/\ae.Tn n ys/\∀x:Int,0<=x->x<(n:Int)->ae.kS xs ys x
def SJ{xs:List Int}{v:Int}(h:v∈xs):xs.findIdx? (λi=>decide (i=v))=some (xs.idxOf v):=by
 induction xs with
 |nil=>exact nomatch h
 |cons a r ih =>
  rw[List.findIdx?_cons];by_cases e:a=v;subst e;simp;have hm:v∈r:=by
   rcases ZaF.mp h with h|h
   exact absurd h.symm e;exact h
  rw[decide_eq_false e,ih hm,List.idxOf_cons,show(a == v)=false by simpa using e];rfl
abbrev pV(S:Src)(ds:List D)(st:Store):Prop:=∀(i:Nat) (st2:Store),i<=ds.length->Ex [] st st2->S.at i st2=some ds[i]?
def Y7(h:items st r=some ds)(e:Ex [] st st'):items st' r=some ds:=by
 unfold items at h ⊢;cases hx:st[r]? with
 |none=>rw[hx]at h;cases h
 |some o=>rw[e.keep _ _ hx (by simp)];rw[hx]at h;exact h
def se(ds:List D)(st:Store):pV (.fix ds) ds st:=λi st2 hi _=>by
 show(if i<=ds.length then some ds[i]? else none)=_;rw[if_pos hi]
def NC(h:items st r=some ds):pV (.live r) ds st:=λi st2 hi e=>by
 show(items st2 r).map _=_;rw[Y7 h e];rfl
def vH(ds:List D)(h:D->D)(hi:Wp (fi δ st) λS st1=>pV S ds st1/\Ex [] st st1)(hl:ds.length<100000)
  (step:∀d∈ds,∀st1,Ex [] st st1->Wp (f (some d :: js.map λj=>δ.getD j none) st1) λy st2=>y=h d/\Ex [] st1 st2) (fin:∀st',Ex [] st st'->Q (.ref st'.length) (st' ++ [.lst (ds.map h)])):Wp (bQ fi 1 js (hName 0) bR f δ st) Q:=by
 obtain⟨S,st1,e1,hS,k1⟩:=hi;refine E7 ds (λi ys δ' iI=>(∃v,δ'=v :: js.map λj=>δ.getD j none)/\ys=(ds.take i).map h/\Ex [] st1 iI) ⟨S,st1,e1,λi ys δ' iI hi' hp=>hS i iI hi' hp.2.2,⟨none,rfl⟩,rfl,Ex.refl⟩ hl ?_ ?_ ?_;rintro i ys δ' iI ⟨_,rfl,_⟩;rw[Zaa,Zbf];lk;rintro i d ys δ' iI hd ⟨⟨v,rfl⟩,rfl,k8⟩;rw[CV];show Wp (bR _ _) _;rw[E9];refine⟨λ_=>?_,λh=>absurd h ∅⟩;refine aL (step d (Zaj hd) iI (k1.trans k8)) ?_;rintro y qI ⟨rfl,k9⟩;refine⟨⟨some d,rfl⟩,?_,k8.trans k9⟩;obtain⟨hlt,e⟩:=Zab.mp hd;rw[ZaI hlt,Zar,e];rfl;rintro ys δ' iI ⟨_,rfl,k8⟩;rw[ZaM];exact fin iI (k1.trans k8)
def Bn{xs:List Int}{d:D}(h:d∈xs.map D.int):∃x∈xs,d=.int x:=by obtain⟨x,hx,rfl⟩:=Zaw.mp h;exact⟨x,hx,rfl⟩
def Fs{xs:List Int}{f:Int->Int}{h:D->D}(e:∀x∈xs,h (.int x)=.int (f x)):(xs.map D.int).map h=(xs.map f).map D.int:=by rw[ZaC,ZaC];exact ZaO λx hx=>e x hx
abbrev inD:D->Int
 |.int i=>i
 |_=>0
section
variable {st:Store}{Q:D->Store->Prop}
def SK:Wp (eJ neg (bN xs ys) (bN zs ws) st) Q↔Q (.bl (if neg then !decide ([xs,ys]=[zs,ws])else decide ([xs,ys]=[zs,ws]))) st:=Y3 (rs:=[xs,ys]) (ss:=[zs,ws])
end
def SM(zs:List Int):(zs.map D.int).map inD=zs:=by rw[ZaC];exact Zb1 zs
def _root_.ae.xx(fl:o6 n xs ys)(tp:ae.Tn n p)(n0:0<n):o6 n (ae.anew xs p) (ae.anew ys p):=by
 obtain⟨tx,ty,all⟩:=fl;have tX:=tx.anew tp;have tY:=ty.anew tp;refine⟨tX,tY,λx x0 x1=>?_⟩;obtain⟨a0,a1⟩:=tp.app (i:=0) ∅ ⋯;have hb:∀y:Int,0<=y->y<(n:Int)->y∈ae.bf (ae.anew xs p) (ae.anew ys p) (ae.app p 0) n:=λy y0 y1=>by
  rw[ae.MF tx ty tp ∅ ⋯ n];obtain⟨b0,b1⟩:=tp.ou y0 y1;exact Zaw.mpr ⟨ae.app (ae.inv p) y,ae.QU tx ty ∅ ⋯ all b0 b1,tp.cJ y0 y1⟩
 have hF:=ae.ME tX tY (s:=0) ∅ ⋯;have nd:=ae.Aj (ae.anew xs p) (ae.anew ys p) 0 n;have bd:=ae.tI tX tY (s:=0) ∅ ⋯ n;have Y8:∀k,∀y∈ae.bf (ae.anew xs p) (ae.anew ys p) 0 k,ae.kS (ae.anew xs p) (ae.anew ys p) y:=by
  intro k
  induction k with
  |zero=>intro y hy;rw[Zav.mp (show y∈[(0:Int)]from hy)];exact .zero
  |succ k ih =>
   intro y hy;have hy':y∈(match (ae.bf (ae.anew xs p) (ae.anew ys p) 0 k)[k]? with|some x=>ae.visit (ae.anew xs p) (ae.anew ys p) (ae.bf (ae.anew xs p) (ae.anew ys p) 0 k) x|none=>ae.bf (ae.anew xs p) (ae.anew ys p) 0 k):=hy;split at hy'
   ·next z hz =>
    have yr:=ih z (Zaj hz);rcases ae.sM.mp hy' with hy'|rfl
    ·rcases ae.sM.mp hy' with hy'|rfl
     ·exact ih y hy'
     ·exact yr.r
    ·exact yr.u
   ·exact ih y hy'
 refine Y8 n x ?_;have z0:(0:Int)∈ae.bf (ae.anew xs p) (ae.anew ys p) 0 n:=by
  have:=ae.Ai (ae.anew xs p) (ae.anew ys p) 0 0 n;rw[ZbB]at this;exact this.subset (show(0:Int)∈[(0:Int)] by simp)
 have back:∀k,(∃y∈ae.bf (ae.anew xs p) (ae.anew ys p) (ae.app p 0) k,y∈ae.bf (ae.anew xs p) (ae.anew ys p) 0 n)->ae.app p 0∈ae.bf (ae.anew xs p) (ae.anew ys p) 0 n:=by
  intro k
  induction k with
  |zero =>
   rintro⟨y,hy,wV⟩;rw[Zav.mp (show y∈[ae.app p 0]from hy)]at wV;exact wV
  |succ k ih =>
   rintro⟨y,hy,wV⟩;have hy':y∈(match (ae.bf (ae.anew xs p) (ae.anew ys p) (ae.app p 0) k)[k]? with|some x=>ae.visit (ae.anew xs p) (ae.anew ys p) (ae.bf (ae.anew xs p) (ae.anew ys p) (ae.app p 0) k) x|none=>ae.bf (ae.anew xs p) (ae.anew ys p) (ae.app p 0) k):=hy;split at hy'
   ·next z hz =>
    have CH:=Zaj hz;obtain⟨c0,c1⟩:=ae.tI tX tY a0 a1 k z CH;rcases ae.sM.mp hy' with hy'|rfl
    ·rcases ae.sM.mp hy' with hy'|rfl
     ·exact ih ⟨y,hy',wV⟩
     ·exact ih ⟨z,CH,ae.Et tX nd bd (λx hx=>(hF x hx).1) c0 c1 wV⟩
    ·exact ih ⟨z,CH,ae.Et tY nd bd (λx hx=>(hF x hx).2) c0 c1 wV⟩
   ·exact ih ⟨y,hy',wV⟩
 have hp0:=back n ⟨0,hb 0 ∅ ⋯,z0⟩;have fwd:∀k,∀y∈ae.bf (ae.anew xs p) (ae.anew ys p) (ae.app p 0) k,y∈ae.bf (ae.anew xs p) (ae.anew ys p) 0 n:=by
  intro k
  induction k with
  |zero=>intro y hy;rw[Zav.mp (show y∈[ae.app p 0]from hy)];exact hp0
  |succ k ih =>
   intro y hy;have hy':y∈(match (ae.bf (ae.anew xs p) (ae.anew ys p) (ae.app p 0) k)[k]? with|some x=>ae.visit (ae.anew xs p) (ae.anew ys p) (ae.bf (ae.anew xs p) (ae.anew ys p) (ae.app p 0) k) x|none=>ae.bf (ae.anew xs p) (ae.anew ys p) (ae.app p 0) k):=hy;split at hy'
   ·next z hz =>
    have yr:=ih z (Zaj hz);rcases ae.sM.mp hy' with hy'|rfl
    ·rcases ae.sM.mp hy' with hy'|rfl
     ·exact ih y hy'
     ·exact(hF z yr).1
    ·exact(hF z yr).2
   ·exact ih y hy'
 exact fwd n x (hb x x0 x1)
def Bo(p:Key×D)(r:List (Key×D))(k:Key):eG (p :: r) k=if p.1=k then some p.2 else eG r k:=by unfold eG;rw[ZaU];by_cases e:p.1=k;rw[decide_eq_true e,if_pos e];rfl;rw[decide_eq_false e,if_neg e]
def Y9(kvs:List (Key×D))(k j:Key)(y:D):eG (putD kvs k y) j=if j=k then some y else eG kvs j:=by
 unfold putD;by_cases a:(kvs.any λkv=>decide (kv.1=k))=true;rw[if_pos a]
 induction kvs with
 |nil=>simp at a
 |cons p r ih =>
  rw[Zaz,Bo,Bo];by_cases e:p.1=k;rw[if_pos e];by_cases ej:j=k;rw[if_pos ej,if_pos (show(p.1,y).1=j from e.trans ej.symm)];rw[if_neg ej,if_neg (show ¬(p.1,y).1=j fromλz=>ej (z.symm.trans e)),if_neg (λz=>ej (z.symm.trans e))]
  have:∀l:List (Key×D),eG (l.map λkv=>if kv.1=k then(kv.1,y)else kv) j=eG l j:=by
   intro l
   induction l with
   |nil=>rfl
   |cons q l ihl =>
    rw[Zaz,Bo,Bo,ihl];by_cases eq:q.1=k;rw[if_pos eq,if_neg (show ¬(q.1,y).1=j fromλz=>ej (z.symm.trans eq)),if_neg (λz=>ej (z.symm.trans eq))];rw[if_neg eq]
  exact this r;rw[if_neg e];have a':(r.any λkv=>decide (kv.1=k))=true:=by
   rw[Za1,decide_eq_false e,Bool.false_or]at a;exact a
  rw[ih a'];by_cases ej:j=k;rw[if_pos ej,if_neg (λz=>e (z.trans ej)),if_pos ej];rw[if_neg ej,if_neg ej]
 rw[if_neg a]
 induction kvs with
 |nil =>
  show eG [(k,y)] j=_;rw[Bo];by_cases ej:j=k;rw[if_pos ej.symm,if_pos ej];rw[if_neg (λz=>ej z.symm),if_neg ej]
 |cons p r ih =>
  have a':¬(r.any λkv=>decide (kv.1=k))=true:=λz=>a (by rw[Za1,z,Bool.or_true]);have ep:p.1≠k:=λz=>a (by rw[Za1,decide_eq_true z,Bool.true_or]);rw[List.cons_append,Bo,ih a',Bo];by_cases ej:j=k;rw[if_pos ej,if_pos ej,if_neg (λz=>ep (z.trans ej))];rw[if_neg ej,if_neg ej]
def Za(kvs:List (Key×D))(k:Key)(v:D):(putD kvs k v).length<=kvs.length+1:=by unfold putD;split;rw[Zaa];lk;rw[Zaf,ZaE,Zcw];lk
def JU(h:st[i]?=some (.dct kvs)):lh st (.ref i)=some kvs:=by simp only[lh,h]
def SN(i:Int):keyOf (.int i)=some (.inl i):=rfl
def Zb{r:List Int}{j:Nat}(h:j<r.length)(x:Int):(r.take (j+1)).contains x=((r.take j).contains x || x == r[j]):=by
 rw[ZaI h,List.contains_append]
 congr 1
 show([r[j]]:List Int).contains x=(x == r[j]);rw[List.contains_cons,List.contains_nil,Bool.or_false]
@[reducible]def b7:=Bool×Int
abbrev aZ(s:b7):D:=.tup [.str (if s.1 then "s" else "t"),.int s.2]
section
variable {K:Zfr}
abbrev tQ(neg:Bool):D->D->Dm D
 |.bl a,.bl b,st=>some (.bl (if neg then !decide (a=b)else decide (a=b)),st)
 |_,_,_=>none
abbrev Ft(neg:Bool):R2:=λx y H Q=>∃a b,x=.bl a/\y=.bl b/\Q (.bl (if neg then !decide (a=b)else decide (a=b))) H
def Bp(neg:Bool):oh K (Ft neg) (tQ neg):=by intro ρ H st x y a c b st' Q l rx ry e q;unfold tQ at e;split at e;cases e;cases rx;cases ry;exact⟨_,_,rfl,rfl,q _ H ρ .refl l (.bl _)⟩;cases e
abbrev vI(neg:Bool):D->D->Dm D
 |a,.non,st=>some (.bl (match a with|.non=>!neg|_=>neg),st)
 |_,_,_=>none
abbrev yN(neg:Bool):R2:=λx y H Q=>y=.non/\Q (.bl (if neg then !decide (x=.non)else decide (x=.non))) H
def SO(neg:Bool):oh K (yN neg) (vI neg):=by intro ρ H st x y a c b st' Q l rx ry e q;unfold vI at e;split at e;cases e;cases ry;refine⟨rfl,?_⟩;have k:=q _ H ρ .refl l (.bl _);cases rx<;>cases neg<;>exact k;cases e
abbrev sf:List D->Dm D
 |[.int i],st=>some (.int (if i<0 then -i else i),st)
 |_,_=>none
def ND:sO K (λxs H Q=>∃i,xs=[V.int i]/\Q (.int (if i<0 then -i else i)) H) sf:=by intro ρ H st xs as b st' Q l rx e q;unfold sf at e;split at e;cases e;obtain⟨v,rfl,r⟩:=rx.one';cases r;exact⟨_,rfl,q _ H ρ .refl l (.int _)⟩;cases e
end
section
variable {X:Cx}
def Zc:mH X (compareOp .IsNot) (Ft true):=by intro pins s σ H x y v u Q I rx ry h;obtain⟨a,b,rfl,rfl,q⟩:=h;cases rx;cases ry;exact PyProof.Rows.isnot_bool (mD I q (by cases a<;>cases b<;>rfl))
def Zd:mH X (compareOp .Is) (yN false):=zF
end
def at2{α:Type}(x y z:α)(xs:List α):dM (x :: y :: z :: xs) 2=some z:=by unfold dM oe;rw[if_pos ∅,if_pos (by simp only[ZaE];lk)];rfl
def SQ{α:Type}(x y z u:α)(xs:List α):dM (x :: y :: z :: u :: xs) 3=some u:=by unfold dM oe;rw[if_pos ∅,if_pos (by simp only[ZaE];lk)];rfl
section
variable {st:Store}{Q:D->Store->Prop}
def Bq:Wp (tQ neg (.bl a) (.bl b) st) Q↔Q (.bl (if neg then !decide (a=b)else decide (a=b))) st:=aY
def Ze:Wp (vI neg .non .non st) Q↔Q (.bl (!neg)) st:=aY
def Zf:Wp (vI neg (.tup i) .non st) Q↔Q (.bl neg) st:=aY
def SR:Wp (sf [.int i] st) Q↔Q (.int (if i<0 then -i else i)) st:=aY
end
def Zg(ds:List D)(P:Nat->D->Prop)(I:Store->Prop)
  (hi:Wp (fi δ st) λS st1=>(∀i st2,i<=ds.length->I st2->S.at i st2=some ds[i]?)/\I st1) (hl:ds.length<100000)
  (step:∀i d,ds[i]?=some d->∀st1,I st1->Wp (f (some d :: js.map λj=>δ.getD j none) st1) λy st2=>P i y/\I st2)
  (fin:∀ys st',I st'->ys.length=ds.length->(∀i y,ys[i]?=some y->P i y)->Q (.ref st'.length) (st' ++ [.lst ys])):Wp (bQ fi 1 js (hName 0) bR f δ st) Q:=by
 obtain⟨S,st1,e1,hS,k1⟩:=hi;refine E7 ds (λi ys δ' iI=>(∃v,δ'=v :: js.map λj=>δ.getD j none)/\ys.length=i/\(∀i y,ys[i]?=some y->P i y)/\I iI) ⟨S,st1,e1,λi ys δ' iI hi' hp=>hS i iI hi' hp.2.2.2,⟨none,rfl⟩,rfl,(λi y h=>by simp at h),k1⟩ hl ?_ ?_ ?_;rintro i ys δ' iI ⟨_,h,_⟩;lk;rintro i d ys δ' iI hd ⟨⟨v,rfl⟩,hlen,hP,k8⟩;rw[CV];show Wp (bR _ _) _;rw[E9];refine⟨λ_=>?_,λh=>absurd h ∅⟩;refine aL (step i d hd iI k8) ?_;rintro y qI ⟨hp,k9⟩;refine⟨⟨some d,rfl⟩,by rw[Zaf,hlen];rfl,λj z hz=>?_,k9⟩;by_cases hj:j<ys.length;rw[Zan hj]at hz;exact hP j z hz;have hb:=dh hz;rw[Zaf,Zbe]at hb;have e:j=ys.length:=by lk
 subst e;rw[Zau (Zad _),ZaW]at hz;cases hz;rw[hlen];exact hp;rintro ys δ' iI ⟨_,hlen,hP,k8⟩;exact fin ys iI k8 hlen hP
def Zh(ds:List D)(P:Nat->D->Store->Prop)(mono:∀i y s s',P i y s->Ex [] s s'->P i y s')
  (hi:Wp (fi δ st) λS st1=>pV S ds st1/\Ex [] st st1) (hl:ds.length<100000)
  (step:∀i d,ds[i]?=some d->∀st1,Ex [] st st1->Wp (f (some d :: js.map λj=>δ.getD j none) st1) λy st2=>P i y st2/\Ex [] st1 st2)
  (fin:∀ys st',Ex [] st st'->ys.length=ds.length->(∀i y,ys[i]?=some y->P i y st')->Q (.ref st'.length) (st' ++ [.lst ys])):Wp (bQ fi 1 js (hName 0) bR f δ st) Q:=by
 obtain⟨S,st1,e1,hS,k1⟩:=hi;refine E7 ds (λi ys δ' iI=>(∃v,δ'=v :: js.map λj=>δ.getD j none)/\ys.length=i/\(∀i y,ys[i]?=some y->P i y iI)/\Ex [] st1 iI) ⟨S,st1,e1,λi ys δ' iI hi' hp=>hS i iI hi' hp.2.2.2,⟨none,rfl⟩,rfl,(λi y h=>by simp at h),Ex.refl⟩ hl ?_ ?_ ?_;rintro i ys δ' iI ⟨_,h,_⟩;lk;rintro i d ys δ' iI hd ⟨⟨v,rfl⟩,hlen,hP,k8⟩;rw[CV];show Wp (bR _ _) _;rw[E9];refine⟨λ_=>?_,λh=>absurd h ∅⟩;refine aL (step i d hd iI (k1.trans k8)) ?_;rintro y qI ⟨hp,k9⟩;refine⟨⟨some d,rfl⟩,by rw[Zaf,hlen];rfl,λj z hz=>?_,k8.trans k9⟩;by_cases hj:j<ys.length;rw[Zan hj]at hz;exact mono _ _ _ _ (hP j z hz) k9;have hb:=dh hz;rw[Zaf,Zbe]at hb;have e:j=ys.length:=by lk
 subst e;rw[Zau (Zad _),ZaW]at hz;cases hz;rw[hlen];exact hp;rintro ys δ' iI ⟨_,hlen,hP,k8⟩;exact fin ys iI (k1.trans k8) hlen hP
def Ex.drop(a:Ex [] st st1)(b:Ex [f] st1 st2)(h:st.length<=f):Ex [] st st2:=⟨Zap a.len b.len,λi o e n=>b.keep i o (a.keep i o e n) (by have:=dh e;simp;lk)⟩
abbrev eX(x:Str):List D:=x.cps.toList.map λc=>.str ⟨#[c]⟩
structure p6(K:Zfr)(mg:Str->Option Value)(x:Str)(v:V)(d:D):Prop where
 ex:∃u,mg x=some u/\RelV v u
 rp:∀(ρ:List Addr) (H:Hp),Rp K ρ H v d
def Br(C:p6 K mg x v d)(hg:Gl X x)(hX:X.mg=mg)(hd:(x == ("__debug__" : Str))=false):PE X (.Name x pos) (tC v):=by obtain⟨u,h,r⟩:=C.ex;subst hX;exact Vz hg h r hd
def Bs(C:p6 K mg x v d):dI K (tC v) (fC d):=vn C.rp
def JV{K:Zfr}{h:Heap}{mg:Str->Option Value}(X:K.In h)(G:h.Ns mainGlobals mg){x:Str}{a:Addr}{od:Option Addr}{its:Array Value}{n:Nat}{sl:Array (Option Value)}{vs:List V}{ds:List D}(e:PySem.W.nsIn K mainGlobals x=some (some (.ref a)))(l:K.lookup a=some ⟨.type "tuple",od,.seq its n,sl⟩)
  (ho:od=none) (hz:its.size<=sizeLine) (hv:Vals vs its.toList) (hd:∀(ρ:List Addr) (H:Hp),cC K ρ H vs ds):∃v,p6 K mg x v (.tup ds) :=
 ⟨.ref a,⟨_,PySem.W.mg_of X G e,rfl⟩,λρ H=>.tup (.inr ⟨_,its,n,l,rfl,ho,rfl,hz,hv⟩) (hd ρ H)⟩
def SS(ps:List (D×D))(h:D×D->D)(hi:Wp (fi δ st) λS st1=>pV S (ps.map λp=>.tup [p.1,p.2]) st1/\Ex [] st st1)(hl:ps.length<100000)
  (step:∀p∈ps,∀st1,Ex [] st st1->Wp (f (some p.1 :: some p.2 :: js.map λj=>δ.getD j none) st1) λy st2=>y=h p/\Ex [] st1 st2) (fin:∀st',Ex [] st st'->Q (.ref st'.length) (st' ++ [.lst (ps.map h)])):Wp (bQ fi 2 js (fW 2 (aO (hName 0) (aO (hName 1) gx))) bR f δ st) Q:=by
 obtain⟨S,st1,e1,hS,k1⟩:=hi;refine E7 (ps.map λp=>.tup [p.1,p.2]) (λi ys δ' iI=>(∃v w,δ'=v :: w :: js.map λj=>δ.getD j none)/\ys=(ps.take i).map h/\Ex [] st1 iI) ⟨S,st1,e1,λi ys δ' iI hi' hp=>hS i iI hi' hp.2.2,⟨none,none,rfl⟩,rfl,Ex.refl⟩ (by rw[Zaa];exact hl) ?_ ?_ ?_;rintro i ys δ' iI ⟨_,rfl,_⟩;rw[Zaa,Zbf];lk;rintro i d ys δ' iI hd ⟨⟨v,w,rfl⟩,rfl,k8⟩;rw[Zag]at hd;obtain⟨p,hp,rfl⟩:=Zay.mp hd;rw[SA];refine⟨rfl,?_⟩;rw[Nr,CV,Nr,CV,Sz];show Wp (bR _ _) _;rw[E9];refine⟨λ_=>?_,λh=>absurd h ∅⟩;refine aL (step p (Zaj hp) iI (k1.trans k8)) ?_;rintro y qI ⟨rfl,k9⟩;refine⟨⟨some p.1,some p.2,rfl⟩,?_,k8.trans k9⟩;obtain⟨hlt,e⟩:=Zab.mp hp;rw[ZaI hlt,Zar,e];rfl;rintro ys δ' iI ⟨_,rfl,k8⟩;rw[Zaa,ZaM];exact fin iI (k1.trans k8)
abbrev pU:Nat->D->Prop
 |_,.int _=>True
 |_,.str x=>PyData.canLay0 (.str x)=true
 |_,.non=>True
 |n+1,.tup ds=>∀d∈ds,pU n d
 |_,_=>False
abbrev jP:Nat->D->PyData
 |_,.int i=>.int i
 |_,.str x=>.str x
 |n+1,.tup ds=>.tuple (ds.map (jP n))
 |_,_=>.none
def Fu{α β:Type}{f:α->Option β}{g:α->β}:∀{l:List α},(∀x∈l,f x=some (g x))->b8 f l=some (l.map g)
 |[],_=>rfl
 |a :: r,h=>by
  have h1:=h a Zai;have h2:=Fu (f:=f) (g:=g) (l:=r) λx hx=>h x (Zal _ hx);simp only[b8,h1,h2,Zaz]
def wy:∀(n:Nat) (d:D),pU n d->∀(m:Nat),n<m->∀st,gZ st m d=some (jP n d)
 |n,.int i,_,m+1,_,st=>by cases n<;>rfl
 |n,.str x,_,m+1,_,st=>by cases n<;>rfl
 |n,.non,_,m+1,_,st=>by cases n<;>rfl
 |n,.bl b,h,_,_,_=>by cases n<;>exact h.elim
 |n,.ty b,h,_,_,_=>by cases n<;>exact h.elim
 |n,.ref b,h,_,_,_=>by cases n<;>exact h.elim
 |0,.tup ds,h,_,_,_=>h.elim
 |n+1,.tup ds,h,m+1,hm,st=>by
  simp only[gZ];rw[Fu (g:=jP n) λx hx=>wy n x (h x hx) m ⋯ st];rfl
def NF:∀{l:List PyData},(∀x∈l,x.canLay0=true)->PyData.canLayAll0 l=true
 |[],_=>rfl
 |a :: r,h=>by
  simp only[PyData.canLayAll0,h a Zai,NF λx hx=>h x (Zal _ hx),Bool.and_self]
def NG:∀{l:List PyData},(∀x∈l,x.depth<=n)->PyData.depthAll l<=n
 |[],_=>ZaJ _
 |a :: r,h=>by
  have h1:=h a Zai;have h2:=NG λx hx=>h x (Zal _ hx);simp only[PyData.depthAll];lk
def vJ:∀(n:Nat) (d:D),pU n d->(jP n d).canLay0=true/\(jP n d).depth<=n
 |n,.int i,_=>by cases n<;>exact⟨rfl,ZaJ _⟩
 |n,.str x,h=>by cases n<;>exact⟨h,ZaJ _⟩
 |n,.non,_=>by cases n<;>exact⟨rfl,ZaJ _⟩
 |n,.bl b,h=>by cases n<;>exact h.elim
 |n,.ty b,h=>by cases n<;>exact h.elim
 |n,.ref b,h=>by cases n<;>exact h.elim
 |0,.tup ds,h=>h.elim
 |n+1,.tup ds,h=>by
  refine⟨?_,?_⟩;show PyData.canLayAll0 (ds.map (jP n))=true;exact NF λx hx=>by
   obtain⟨d,hd,rfl⟩:=Zaw.mp hx;exact(vJ n d (h d hd)).1
  show PyData.depthAll (ds.map (jP n))+1<=n+1
  have:=NG (n:=n) (l:=ds.map (jP n)) λx hx=>by
   obtain⟨d,hd,rfl⟩:=Zaw.mp hx;exact(vJ n d (h d hd)).2
  lk
def NH(ih:∀a b:D,pU n a->pU n b->(PyData.eqv (jP n a) (jP n b)=true↔a=b)):∀(l m:List D),(∀x∈l,pU n x)->(∀x∈m,pU n x)->(PyData.eqvAll (l.map (jP n)) (m.map (jP n))=true↔l=m)
 |[],[],_,_=>by simp[PyData.eqvAll]
 |[],_ :: _,_,_=>by simp[PyData.eqvAll]
 |_ :: _,[],_,_=>by simp[PyData.eqvAll]
 |a :: l,b :: m,h1,h2=>by
  have e1:=ih a b (h1 a Zai) (h2 b Zai);have e2:=NH ih l m (λx hx=>h1 x (Zal _ hx)) λx hx=>h2 x (Zal _ hx);simp only[Zaz,PyData.eqvAll,ZaD,e1,e2,List.cons.injEq]
def CW:∀(n:Nat) (a b:D),pU n a->pU n b->(PyData.eqv (jP n a) (jP n b)=true↔a=b):=by
 intro n
 induction n with
 |zero =>
  intro a b ha hb;cases a<;>first|exact ha.elim|skip
  all_goals (cases b<;>first|exact hb.elim|simp[jP,PyData.eqv])
 |succ n ih =>
  intro a b ha hb;cases a<;>first|exact ha.elim|skip
  all_goals (cases b<;>first|exact hb.elim|skip)
  all_goals first
   |(simp[jP,PyData.eqv];done)
   |skip
  next l m =>
   have:=NH ih l m ha hb;show PyData.eqv (.tuple (l.map (jP n))) (.tuple (m.map (jP n)))=true↔_;rw[JS,this];constructor
   ·rintro rfl;rfl
   ·intro h;exact D.tup.inj h
open Classical in
def SU(ha:pU n a)(hb:pU n b)(hn:n<=15):Wp (eJ neg a b st) Q↔Q (.bl (if neg then !decide (a=b)else decide (a=b))) st:=by
 have e:PyData.eqv (jP n a) (jP n b)=decide (a=b):=by
  have:=CW n a b ha hb;cases h:PyData.eqv (jP n a) (jP n b)with
  |true=>exact(decide_eq_true (this.mp h)).symm
  |false=>exact(decide_eq_false λz=>by rw[this.mpr z]at h;cases h).symm
 rw[JQ];constructor;rintro⟨p,q,h1,h2,_,h⟩;rw[wy n a ha 20 ⋯]at h1;rw[wy n b hb 20 ⋯]at h2;cases h1;cases h2;rw[e]at h;exact h;intro h;refine⟨_,_,wy n a ha 20 ⋯ st,wy n b hb 20 ⋯ st,⟨(vJ n a ha).1,(vJ n b hb).1,?_⟩,?_⟩
 have:=(vJ n a ha).2
 lk;rw[e];exact h
def NI(n:Nat)(L:List Int):pU (n+1) (.tup (L.map D.int)):=λd hd=>by
 obtain⟨x,_,rfl⟩:=Zaw.mp hd;cases n<;>trivial
def yO(n:Nat)(s:b7):pU (n+1) (aZ s):=λd hd=>by
 have hd:d=.str (if s.1 then "s" else "t")\/d=.int s.2:=by simpa[aZ]using hd
 rcases hd with rfl|rfl
 have h:PyData.canLay0 (.str (if s.1=true then "s" else "t" : Str))=true:=by cases s.1<;>decide +kernel
 cases n<;>exact h;cases n<;>trivial
def NJ(n:Nat)(xs ys:List Int):pU (n+2) (bN xs ys):=λd hd=>by
 have hd:d=.tup (xs.map D.int)\/d=.tup (ys.map D.int):=by simpa[bN]using hd
 rcases hd with rfl|rfl
 exact NI n xs;exact NI n ys
abbrev rh(neg:Bool):D->D->Dm D:=λa c st=>match gZ st 20 a,(cR st c).bind (b8 (gZ st 19))with
 |some dx,some ds=>if dx.canLay0 && ds.all PyData.canLay0 && decide (dx.depth<=60)then some (.bl (if neg then !ds.any (λd=>PyData.eqv d dx)else ds.any λd=>PyData.eqv d dx),st)else none
 |_,_=>none
section
variable {K:Zfr}
def JW(l:Rl K ρ H st)(n:Nat):∀{vs:List V} {ds:List D} {ps:List PyData},cC K ρ H vs ds->b8 (gZ st n) ds=some ps->g8 K H vs ps
 |_,_,_,.nil,h=>by cases h;exact .nil
 |_,_,_,.cons a b,h=>by
  obtain⟨x,t,h1,h2,rfl⟩:=ES h;exact .cons (CN l n a h1) (JW l n b h2)
def SV(neg:Bool):oh K (Ef K neg) (rh neg):=by
 intro ρ H st x y a c b st' Q l rx ry e q;unfold rh at e;split at e
 ·next dx ds h1 h2 =>
  split at e
  ·next ok =>
   cases e;rw[ZaD,ZaD,decide_eq_true_eq,ZbR]at ok;obtain⟨es,h3,h4⟩:=Za0.mp h2;obtain⟨p,xs,rfl,hq,rr⟩:∃p xs,y=.ref p/\(jW K H p xs\/gg K H p xs)/\cC K ρ H xs es:=by
    cases ry with
    |non=>cases h3
    |bl _=>cases h3
    |int _=>cases h3
    |str _=>cases h3
    |ty _=>cases h3
    |ref hi=>obtain⟨vs,s,r⟩:=l.items hi h3;exact⟨_,vs,rfl,.inl s,r⟩
    |tup s r=>cases h3;exact⟨_,_,rfl,.inr s,r⟩
   exact⟨p,xs,ds,dx,rfl,hq,JW l 19 rr h4,CN l 20 rx h1,ok.1.2,ok.1.1,ok.2,q _ H ρ .refl l (.bl _)⟩
  ·cases e
 ·cases e
end
open Classical in
def SW(ha:pU n a)(hc:cR st c=some es)(he:∀e∈es,pU n e)(hn:n<=15):Wp (rh neg a c st) Q↔Q (.bl (if neg then !decide (a∈es)else decide (a∈es))) st:=by
 have h1:=wy n a ha 20 ⋯ st;have h2:b8 (gZ st 19) es=some (es.map (jP n)):=Fu λx hx=>wy n x (he x hx) 19 ⋯ st;have ea:(es.map (jP n)).any (λd=>PyData.eqv d (jP n a))=decide (a∈es):=by
  rw[ZbT,Zcb,decide_eq_true_eq];constructor;rintro⟨d,hd,h⟩;obtain⟨x,hx,rfl⟩:=Zaw.mp hd;rw[<- (CW n x a (he x hx) ha).mp h];exact hx;intro h;exact⟨_,Zaw.mpr ⟨a,h,rfl⟩,(CW n a a ha ha).mpr rfl⟩
 have l1:=vJ n a ha;have l2:(es.map (jP n)).all PyData.canLay0=true:=by
  rw[ZbR];intro d hd;obtain⟨x,hx,rfl⟩:=Zaw.mp hd;exact(vJ n x (he x hx)).1
 have e:rh neg a c st=some (.bl (if neg then !decide (a∈es)else decide (a∈es)),st):=by
  unfold rh;simp only[h1,hc,Zbg,h2,ea,l1.1,l2,Bool.true_and,decide_eq_true_eq];rw[if_pos ⋯]
 rw[e,aY]
abbrev JX:D->Option (List D)
 |.tup ds=>some ds
 |.str x=>if x.length<=sizeLine then some (eX x)else none
 |_=>none
abbrev sX(fa:ai->Dm (List D)):ai->Dm Src:=λδ st=>bnd (fa δ st) λas st1=>match as with
 |[a]=>match JX a with
  |some ds=>some (.fix ds.reverse,st1)
  |none=>none
 |_=>none
section
variable {K:Zfr}
def Fv(r:Rp K ρ H x a)(h:JX a=some ds):∃src:ZS,src.val K H x/\(∀a,src≠.lst a)/\(∀z,src=.str z->z.length<=sizeLine)/\∀(ρ2:List Addr) (H2:Hp),Mn K ρ H ρ2 H2->∀i,(∀d,ds[i]?=some d->∃v,src.has K H2 i v/\Rp K ρ2 H2 v d)/\(i=ds.length->src.fin K H2 i):=by
 cases r with
 |non=>cases h
 |bl b=>cases h
 |int i=>cases h
 |ty n=>cases h
 |ref e=>cases h
 |str x =>
  unfold JX at h;simp only at h;split at h
  ·next hx =>
   cases h;refine⟨.str x,rfl,nofun,λz e=>by cases e;exact hx,λρ2 H2 m i=>⟨λd hd=>?_,λe=>?_⟩⟩
   ·unfold eX at hd
    rw[Zag]at hd;obtain⟨c,hc,rfl⟩:=Zay.mp hd;have hc':x.cps[i]?=some c:=by simpa using hc
    exact⟨_,⟨c,hc',rfl⟩,.str _⟩
   ·show x.cps.size=i
    rw[e];simp[eX]
  ·cases h
 |tup s r =>
  cases h;refine⟨.tup _,⟨rfl,_,s⟩,nofun,nofun,λρ2 H2 m i=>⟨λd hd=>?_,λe=>?_⟩⟩
  ·obtain⟨v,hv,rv⟩:=r.got hd
   exact⟨v,⟨_,m.t _ _ s,hv⟩,rv.mn m⟩
  ·exact⟨_,m.t _ _ s,by rw[r.length];exact e.symm⟩
def SX(ha:qZ K t fa):vB K (Eh K t) (sX fa):=by
 intro ρ σ H δ st S st' Q l rs e q;obtain⟨as,st1,e1,e⟩:=cQ e;split at e
 ·next a =>
  split at e
  ·next ds h1 =>
   cases e;refine ha ρ σ H δ st _ _ _ l rs e1 λxs H1 ρ1 m1 l1 r1=>?_;obtain⟨x,rfl,rx⟩:=r1.one';obtain⟨s1,v1,nl,hz,g1⟩:=Fv rx h1;refine⟨x,s1,ds.length,rfl,v1,(g1 ρ1 H1 Mn.refl ds.length).2 rfl,nl,hz,q _ H1 ρ1 m1 l1 λρ2 H2 st2 i m2 l2=>⟨λh=>?_,λd h=>?_⟩⟩
   ·obtain⟨hl,hn⟩:=yG h
    have:=ZaQ.mp hn;simp only[ZaL]at this hl;exact(show i=ds.length by lk)
   ·have hd:=(yG h).2
    have hi:i<ds.length:=by simpa using(Zab.mp hd).1
    rw[List.getElem?_reverse hi]at hd;obtain⟨v,hv,rv⟩:=(g1 ρ2 H2 m2 _).1 d hd;refine⟨⟨hi,v,hv⟩,λz H3 hz=>?_⟩;obtain⟨rfl,k1⟩:=hz;cases k1 _ hv;exact⟨Mn.refl,l2,rv⟩
  ·cases e
 ·cases e
end
section
variable {st:Store}
def Zi:Wp (sX fa δ st) R↔Wp (fa δ st) λas st1=>∃a ds,as=[a]/\JX a=some ds/\R (.fix ds.reverse) st1:=by
 unfold sX;rw[cT];constructor<;>refineλh=>aL h λas s h=>?_
 ·split at h
  ·next a =>
   split at h
   ·next ds h1=>exact⟨a,ds,rfl,h1,aY.mp h⟩
   ·exact(hW.mp h).elim
  ·exact(hW.mp h).elim
 ·obtain⟨a,ds,rfl,h1,h⟩:=h
  simp only[h1];exact aY.mpr h
end
section
variable {δ:ai}{st:Store}{N B C:ai->Store->Prop}{R:D->Store->Prop}
def Zj(ds:List D)(Pv:Nat->ai->Store->Prop)(hi:Wp (fi δ st) λS st1=>(∀i δ st,i<=ds.length->Pv i δ st->S.at i st=some ds[i]?)/\Pv 0 δ st1)(hl:ds.length<100000)
  (step:∀i d δ st,ds[i]?=some d->Pv i δ st->Wp (t d δ st) λδ1 st1=>Ws (b δ1 st1) (Pv (i+1)) N (Pv (i+1)) R) (fin:∀δ st,Pv ds.length δ st->N δ st):Ws (b9 fi t b δ st) N B C R:=by
 unfold Ws b9;rw[cT];refine aL hi λS lP q=>?_;obtain⟨hS,h0⟩:=q;have key:∀(k i:Nat) (δ:ai) (st:Store),i<=ds.length->ds.length-i<k->Pv i δ st->Ws (fY S t b k i δ st) N B C R:=by
  intro k
  induction k with
  |zero=>intro i δ st _ h;exact absurd h (ZaV _)
  |succ k ih =>
   intro i δ st hi hk' hw;unfold Ws fY;rw[hS i δ st hi hw];cases hd:ds[i]? with
   |none =>
    have:=ZaQ.mp hd;have e:i=ds.length:=by lk
    exact aY.mpr (fin δ st (e ▸ hw))
   |some d =>
    have hlt:=(Zab.mp hd).1;show Wp (bnd _ _) _;rw[cT];refine aL (step i d δ st hd hw) λδ1 st1 q=>?_;rw[cT];refine aL q λfl st2 q=>?_;cases fl with
    |nx δ2=>exact ih (i+1) δ2 st2 ⋯ ⋯ q
    |ct δ2=>exact ih (i+1) δ2 st2 ⋯ ⋯ q
    |bk δ2=>exact aY.mpr q
    |rt d=>exact aY.mpr q
 exact key fuel 0 δ lP (ZaJ _) (Zcx ⋯ (show 100000<fuel by decide)) h0
end
abbrev sY(ps:List PyData):Bool:=decide (0<ps.length) && ps.all (λa=>ps.all λb=>u6 a b) && ps.all λa=>a.canLay0 && decide (a.depth<=50)
abbrev om:List D->Dm D
 |[.ref r],st=>match own st r with
  |some ds=>match b8 (gZ st 20) ds with
   |some ps=>if sY ps=true then(match ds[pM ps]? with|some d=>some (d,st)|none=>none)else none
   |none=>none
  |none=>none
 |_,_=>none
section
variable {K:Zfr}
def SY:sO K (yf K) om:=by
 intro ρ H st xs as b st' Q l rx e q;unfold om at e;split at e
 ·next r lP =>
  split at e
  ·next ds hd =>
   split at e
   ·next ps hp =>
    split at e
    ·next hok =>
     split at e
     ·next d hd0 =>
      cases e;obtain⟨v,rfl,r⟩:=rx.one';cases r with
      |ref hi =>
       obtain⟨vs,hs,rr⟩:=l.items hi (bz (sd hd));obtain⟨v,hv,rv⟩:=rr.got hd0;simp only[sY,ZaD,decide_eq_true_eq,ZbR]at hok;exact⟨_,vs,ps,rfl,hs,JW l 20 rr hp,hok.1.1,hok.1.2,hok.2,v,hv,q v H ρ .refl l rv⟩
     ·cases e
    ·cases e
   ·cases e
  ·cases e
 ·cases e
end
def Zk(h:own st r=some ds)(hp:b8 (gZ st 20) ds=some ps)(hok:sY ps=true)(hd:ds[pM ps]?=some d):Wp (om [.ref r] st) Q↔Q d st:=by
 have e:om [.ref r] st=some (d,st):=by simp only[om,h,hp,hok,hd,if_true]
 rw[e,aY]
abbrev tupI(xs:List Int):PyData:=.tuple (xs.map PyData.int)
abbrev mO(p:ae.aJ):PyData:=.tuple [tupI p.1,tupI p.2]
def NK:∀xs ys:List Int,oW (xs.map PyData.int) (ys.map PyData.int)=ae.rE xs ys
 |[],[]=>rfl
 |[],_ :: _=>rfl
 |_ :: _,[]=>rfl
 |x :: xs,y :: ys=>by
  show(if(x == y)=true then oW (xs.map PyData.int) (ys.map PyData.int)else decide (x<y))=if x=y then ae.rE xs ys else decide (x<y)
  rw[NK xs ys];by_cases h:x=y;rw[if_pos h,if_pos (by simp[h])];rw[if_neg h,if_neg (by simp[h])]
def S0(xs ys:List Int):PyData.eqv (tupI xs) (tupI ys)=decide (xs=ys):=D5 xs ys
def Zl(p q:ae.aJ):CD (mO p) (mO q)=ae.oX p q:=by
 show(if PyData.eqv (tupI p.1) (tupI q.1)=true then(if PyData.eqv (tupI p.2) (tupI q.2)=true then false else oW (p.2.map PyData.int) (q.2.map PyData.int))else oW (p.1.map PyData.int) (q.1.map PyData.int))=if p.1=q.1 then ae.rE p.2 q.2 else ae.rE p.1 q.1
 rw[S0,S0,NK,NK];by_cases a:p.1=q.1;rw[if_pos a,if_pos (decide_eq_true a)];by_cases b:p.2=q.2;rw[if_pos (decide_eq_true b),b,ae.Jw];rw[if_neg (by simp[b])];rw[if_neg a,if_neg (by simp[a])]
def NL:∀xs ys:List Int,qc (xs.map PyData.int) (ys.map PyData.int)=true
 |[],_=>rfl
 |_ :: _,[]=>rfl
 |x :: xs,y :: ys=>by show(true && qc (xs.map PyData.int) (ys.map PyData.int))=true;rw[NL xs ys];rfl
def Zm(p q:ae.aJ):u6 (mO p) (mO q)=true:=by show(qc (p.1.map PyData.int) (q.1.map PyData.int) && (qc (p.2.map PyData.int) (q.2.map PyData.int) && true))=true;rw[NL,NL];rfl
def Zn(p:ae.aJ):(mO p).canLay0=true/\(mO p).depth<=50:=by refine⟨?_,?_⟩;show(PyData.canLayAll0 (c6 p.1) && (PyData.canLayAll0 (c6 p.2) && true))=true;rw[zV,zV];rfl;show max (PyData.depthAll (c6 p.1)+1) (max (PyData.depthAll (c6 p.2)+1) 0)+1<=50;rw[CA,CA];decide
def S1(l:List ae.aJ):∀k,k<l.length->l[argBest (λi j=>ae.oX (l.getD i ([],[])) (l.getD j ([],[]))) k]?=some (ae.oY (l.take (k+1)))
 |0,h=>by
  cases l with
  |nil=>simp at h
  |cons p l=>rfl
 |k+1,h=>by
  have ih:=S1 l k ⋯;generalize hb:argBest (λi j=>ae.oX (l.getD i ([],[])) (l.getD j ([],[]))) k=b at ih;have e1:l.getD b ([],[])=ae.oY (l.take (k+1)):=by rw[Zae,ih];rfl
  have e2:ae.oY (l.take (k+1+1))=if ae.oX (l.getD (k+1) ([],[])) (ae.oY (l.take (k+1)))then l.getD (k+1) ([],[])else ae.oY (l.take (k+1)):=by
   have et:l.take (k+1+1)=l.take (k+1) ++ [l.getD (k+1) ([],[])]:=by
    rw[ZaI h,Zae,Zac h];rfl
   rw[et];cases l with
   |nil=>simp at h
   |cons p l =>
    show((l.take k ++ [_]).foldl _ p)=_;rw[Za6];rfl
  show l[if(ae.oX (l.getD (k+1) ([],[])) (l.getD (argBest _ k) ([],[])))=true then k+1 else argBest _ k]?=_;rw[hb,e1,e2];split;rw[Zae,Zac h];rfl;exact ih
def Zo(st:Store)(p:ae.aJ):gZ st 20 (bN p.1 p.2)=some (mO p):=by
 have h:∀(m:Nat) (xs:List Int),b8 (gZ st (m+1)) (xs.map D.int)=some (xs.map PyData.int):=λm xs=>by
  have:=yD (f:=gZ st (m+1)) (g:=D.int) (k:=PyData.int) (λ_=>rfl) xs;exact this
 show(b8 (gZ st 19) [D.tup (p.1.map D.int),D.tup (p.2.map D.int)]).map PyData.tuple=_;have e1:gZ st 19 (D.tup (p.1.map D.int))=some (tupI p.1):=by show(b8 (gZ st 18) (p.1.map D.int)).map PyData.tuple=_;rw[h];rfl
 have e2:gZ st 19 (D.tup (p.2.map D.int))=some (tupI p.2):=by show(b8 (gZ st 18) (p.2.map D.int)).map PyData.tuple=_;rw[h];rfl
 simp only[b8,e1,e2];rfl
def S2(h:own st r=some (l.map λp=>bN p.1 p.2))(hn:0<l.length):Wp (om [.ref r] st) Q↔Q (bN (ae.oY l).1 (ae.oY l).2) st:=by
 have hp:b8 (gZ st 20) (l.map λp=>bN p.1 p.2)=some (l.map mO):=yD (f:=gZ st 20) (g:=λp:ae.aJ=>bN p.1 p.2) (k:=mO) (λp=>Zo st p) l;refine Zk h hp ?_ ?_;simp only[sY,ZaD,decide_eq_true_eq,ZbR,Zaa];refine⟨⟨hn,λa ha b hb=>?_⟩,λa ha=>?_⟩;obtain⟨p,_,rfl⟩:=Zaw.mp ha;obtain⟨q,_,rfl⟩:=Zaw.mp hb;exact Zm p q;obtain⟨p,_,rfl⟩:=Zaw.mp ha;exact Zn p;have hb:=S1 l (l.length-1) ⋯;rw[show l.length-1+1=l.length by lk,ZaM]at hb;have e:∀k,k<l.length->argBest (wZ (l.map mO)) k=argBest (λi j=>ae.oX (l.getD i ([],[])) (l.getD j ([],[]))) k/\argBest (λi j=>ae.oX (l.getD i ([],[])) (l.getD j ([],[]))) k<l.length:=by
  intro k
  induction k with
  |zero=>intro hk;exact⟨rfl,hk⟩
  |succ k ih =>
   intro hk;obtain⟨e1,e2⟩:=ih ⋯;have eb:wZ (l.map mO) (k+1) (argBest (wZ (l.map mO)) k)=ae.oX (l.getD (k+1) ([],[])) (l.getD (argBest (λi j=>ae.oX (l.getD i ([],[])) (l.getD j ([],[]))) k) ([],[])):=by
    rw[e1];unfold wZ;rw[Zae,Zae,Zag,Zag,Zac hk,Zac e2,Zae,Zae,Zac hk,Zac e2];exact Zl _ _
   refine⟨?_,?_⟩;show(if wZ (l.map mO) (k+1) (argBest (wZ (l.map mO)) k)=true then k+1 else argBest (wZ (l.map mO)) k)=if _=true then k+1 else _
   rw[eb,e1];show(if _=true then k+1 else _)<l.length;split;exact hk;exact e2
 unfold pM;rw[Zaa,(e (l.length-1) ⋯).1,Zag,hb];rfl
section
variable {K:Zfr}
abbrev tR(T:String)(g:D->List D->Dm D)(fo:ai->Dm D):ai->Dm D:=λδ st=>bnd (fo δ st) λo st1=>if wx T st1 o=true then g o [] st1 else none
def S3(hr:xi K T r g)(ho:dI K to fo):dI K (DS K T r to) (tR T g fo):=by
 intro ρ σ H δ st b st' Q l rs e q;obtain⟨o,st1,e1,e⟩:=cQ e;split at e
 ·next ht =>
  refine ho ρ σ H δ st o st1 _ l rs e1 λx H1 ρ1 m1 l1 r1=>⟨RX l1 r1 ht,?_⟩;exact hr ρ1 H1 st1 x [] o [] b st' Q l1 r1 .nil e λv H3 ρ3 m3 l3 r3=>q v H3 ρ3 (m1.trans m3) l3 r3
 ·cases e
end
section
variable {st:Store}{Q:D->Store->Prop}{i:Nat}
def Fw{α:Type}{m:Option (α×Store)}{R R':α->Store->Prop}(h:∀a s,R a s↔R' a s):Wp m R↔Wp m R':=by have e:R=R':=funext λa=>funext λs=>propext (h a s);rw[e]
def S4:Wp (tR T g fo δ st) Q↔Wp (fo δ st) λo st1=>wx T st1 o=true/\Wp (g o [] st1) Q:=by
 unfold tR;rw[cT];refine Fw λo st1=>?_;rw[pT,hW];split
 ·next h=>exact⟨λq=>⟨h,q⟩,λq=>q.2⟩
 ·next h=>exact⟨False.elim,λq=>h q.1⟩
end
section
variable {K:Zfr}
abbrev sg:ai->Dm Fl:=λ_ _=>none
def NM:qi K uG sg:=by intro ρ σ H δ st fl st' E l rs e q;cases e
end
section
variable {K:Zfr}
abbrev ql:List D->Dm D
 |[.ref i],st=>match (items st i).bind (b8 iV)with
  |some ns=>some (.int ns.sum,st)
  |none=>none
 |_,_=>none
def NN:sO K (λxs H Q=>∃(p:Addr) (ns:List Int),xs=[.ref p]/\jW K H p (ns.map V.int)/\Q (.int ns.sum) H) ql:=by
 intro ρ H st xs as b st' Q l rx e q;unfold ql at e;split at e
 ·split at e
  ·next ns hd =>
   cases e;obtain⟨v,rfl,r⟩:=rx.one';obtain⟨ds,h3,h4⟩:=Za0.mp hd;cases r with
   |ref hi =>
    obtain⟨vs,s,r⟩:=l.items hi h3;cases EU r h4;exact⟨_,ns,rfl,s,q _ H ρ .refl l (.int _)⟩
  ·cases e
 ·cases e
end
def S5{st:Store}{Q:D->Store->Prop}{k:Nat}{ns:List Int}(h:items st k=some (ns.map D.int)):Wp (ql [.ref k] st) Q↔Q (.int ns.sum) st:=by
 have e:ql [.ref k] st=some (.int ns.sum,st):=by
  simp only[ql,h,Zbg,JP]
 rw[e,aY]
section
variable {K:Zfr}
def NP(d:D)(k:Nat):(List.replicate k [d]).flatten=List.replicate k d:=by
 induction k with
 |zero=>rfl
 |succ k ih=>rw[ZaN,Zbj,ih,ZaN];rfl
end
section
variable {K:Zfr}
abbrev S6:List D->Dm D
 |[.str x],st=>match PySem.intText? x with
  |some n=>if x.length<=640 then some (.int n,st)else none
  |none=>none
 |_,_=>none
abbrev oo:List D->Dm D
 |[.ref i],st=>match (items st i).bind (b8 iV)with
  |some ns=>match ns[argBest (pz ns) (ns.length-1)]? with
   |some m=>some (.int m,st)
   |none=>none
  |none=>none
 |_,_=>none
def Zp:sO K (λxs H Q=>∃(p:Addr) (ns:List Int),xs=[.ref p]/\jW K H p (ns.map V.int)/\0<ns.length/\∀m,ns[argBest (pz ns) (ns.length-1)]?=some m->Q (.int m) H) oo:=by
 intro ρ H st xs as b st' Q l rx e q;unfold oo at e;split at e
 ·split at e
  ·next ns hd =>
   split at e
   ·next m hm =>
    cases e;obtain⟨v,rfl,r⟩:=rx.one';obtain⟨ds,h3,h4⟩:=Za0.mp hd;cases r with
    |ref hi =>
     obtain⟨vs,s,r⟩:=l.items hi h3;cases EU r h4;refine⟨_,ns,rfl,s,?_,λm' hm'=>?_⟩
     ·have:=(Zab.mp hm).1
      lk
     ·rw[hm]at hm'
      cases hm';exact q _ H ρ .refl l (.int _)
   ·cases e
  ·cases e
 ·cases e
end
section
variable {st:Store}{Q:D->Store->Prop}
def S7(ns:List Int):∀k,k<ns.length->argBest (pz ns) k<=k/\∀i,i<=k->ns.getD i 0<=ns.getD (argBest (pz ns) k) 0
 |0,h=>⟨Zad _,λi hi=>by rw[show i=0 by lk];exact Int.le_refl _⟩
 |k+1,h=>by
  obtain⟨h1,h2⟩:=S7 ns k ⋯;show(if pz ns (k+1) (argBest (pz ns) k)=true then k+1 else argBest (pz ns) k)<=k+1/\∀i,i<=k+1->ns.getD i 0<=ns.getD (if pz ns (k+1) (argBest (pz ns) k)=true then k+1 else argBest (pz ns) k) 0;by_cases hc:ns.getD (k+1) 0 > ns.getD (argBest (pz ns) k) 0;rw[if_pos (show pz ns (k+1) (argBest (pz ns) k)=true from decide_eq_true hc)];refine⟨Zad _,λi hi=>?_⟩;by_cases hik:i<=k
  have:=h2 i hik;lk
  rw[show i=k+1 by lk];exact Int.le_refl _;rw[if_neg (show ¬pz ns (k+1) (argBest (pz ns) k)=true fromλz=>hc (of_decide_eq_true z))];refine⟨by lk,λi hi=>?_⟩;by_cases hik:i<=k;exact h2 i hik;rw[show i=k+1 by lk];lk
def Zq(h:items st r=some (ns.map D.int))(hn:ns≠[]):∃m:Int,m∈ns/\(∀y∈ns,y<=m)/\∀Q:D->Store->Prop,Wp (oo [.ref r] st) Q↔Q (.int m) st:=by
 have hl:0<ns.length:=List.length_pos_iff.mpr hn;obtain⟨h1,h2⟩:=S7 ns (ns.length-1) ⋯;have hlt:argBest (pz ns) (ns.length-1)<ns.length:=by lk
 have e0:ns.getD (argBest (pz ns) (ns.length-1)) 0=ns[argBest (pz ns) (ns.length-1)]:=by rw[Zae,Zac hlt];rfl
 refine⟨ns[argBest (pz ns) (ns.length-1)],Zbl _,λy hy=>?_,λQ=>?_⟩;obtain⟨i,hi,rfl⟩:=Zbk hy
 have:=h2 i ⋯;rw[e0,Zae (i:=i),Zac hi]at this;exact this
 have e:oo [.ref r] st=some (.int ns[argBest (pz ns) (ns.length - 1)],st):=by
  simp only[oo,h,Zbg,JP,Zac hlt]
 rw[e,aY]
end
section
variable {K:Zfr}
abbrev qm:D->D->Dm D:=xl (λi j=>decide (j≠0/\j.natAbs.log2<9000)) λi j=>.int (i.fdiv j)
def S8:oh K (rI yg λi j=>.int (i.fdiv j)) qm:=CK (λi j h=>of_decide_eq_true (p:=j≠0/\j.natAbs.log2<9000) h) λ_ _ _ _=>.int _
end
section
variable {st:Store}{Q:D->Store->Prop}
def Zr:Wp (qm (.int i) (.int j) st) Q↔(j≠0/\j.natAbs.log2<9000)/\Q (.int (i.fdiv j)) st:=by unfold qm;rw[CU,decide_eq_true_eq]
end
abbrev cn(i j:Int):Bool:=(decide (-18446744073709551616<i/\i<18446744073709551616) || decide (-18446744073709551616<j/\j<18446744073709551616)) || (decide (Builtin.Int.intBits i<=60000000) && decide (Builtin.Int.intBits j<=60000000))
abbrev cx:D->D->Dm D:=xl cn λi j=>.int (i*j)
section
variable {K:Zfr}
def S9:oh K (rI sI λi j=>.int (i*j)) cx:=CK (λi j h=>by
 unfold cn at h;rw[ZcA,ZcA,ZaD,decide_eq_true_eq,decide_eq_true_eq,decide_eq_true_eq,decide_eq_true_eq]at h
 exact h) λ_ _ _ _=>.int _
end
section
variable {st:Store}{Q:D->Store->Prop}
def JY:Wp (cx (.int i) (.int j) st) Q↔cn i j=true/\Q (.int (i*j)) st:=by unfold cx;rw[CU]
def Zs(h:i.natAbs<18446744073709551616):cn i j=true:=by unfold cn;rw[decide_eq_true (show -18446744073709551616<i/\i<18446744073709551616 by lk)];rfl
def NQ(hk:k<=60000000)(h:i.natAbs<P2 k)(h2:j.natAbs<P2 k):cn i j=true:=by replace h:=yh h hk;replace h2:=yh h2 hk;unfold cn;rw[decide_eq_true h,decide_eq_true h2];simp
end
abbrev eY:D->List D->Dm D
 |.ref k,[a],st=>match gZ st 20 a,(items st k).bind (b8 (gZ st 19))with
  |some dx,some ds=>match ds.findIdx? λd=>PyData.eqv d dx with
   |some j=>if dx.canLay0 && ds.all PyData.canLay0 && decide (dx.depth<=60) && decide (ds.length<=1000)then some (.int (j:Int),st)else none
   |none=>none
  |_,_=>none
 |_,_,_=>none
section
variable {K:Zfr}
def Ta:xi K "list" (sH K) eY:=by
 intro ρ H st x xs a as b st' Q l rx tN e q;unfold eY at e;split at e
 ·split at e
  ·next dx ds h1 h2 =>
   split at e
   ·next j hj =>
    split at e
    ·next ok =>
     cases e;rw[ZaD,ZaD,ZaD,decide_eq_true_eq,decide_eq_true_eq,ZbR]at ok;obtain⟨es,h3,h4⟩:=Za0.mp h2;obtain⟨y,rfl,r⟩:=tN.one';cases rx with
     |ref hi =>
      obtain⟨vs,s,rr⟩:=l.items hi h3;obtain⟨hjl,hj1,hj2⟩:=ZbM.mp hj
      exact⟨_,vs,ds,y,dx,j,rfl,rfl,s,JW l 19 rr h4,CN l 20 r h1,ok.1.1.2,ok.1.1.1,ok.1.2,ok.2,⟨_,Zac hjl,hj1⟩,λi d hij hd=>by
       obtain⟨hil,rfl⟩:=Zab.mp hd
       simpa using hj2 i hij,q _ H ρ .refl l (.int _)⟩
    ·cases e
   ·cases e
  ·cases e
 ·cases e
end
def Tb{st:Store}{Q:D->Store->Prop}{n k j:Nat}{a:D}{es:List D}(ha:pU n a)(hc:items st k=some es)(he:∀e∈es,pU n e)(hn:n<=15)(hl:es.length<=1000)(hj:es[j]?=some a)(hno:∀i e,i<j->es[i]?=some e->e≠a):Wp (eY (.ref k) [a] st) Q↔Q (.int (j:Int)) st:=by
 have h1:=wy n a ha 20 ⋯ st;have h2:b8 (gZ st 19) es=some (es.map (jP n)):=Fu λx hx=>wy n x (he x hx) 19 ⋯ st;obtain⟨hjl,Zt⟩:=Zab.mp hj;have hf:(es.map (jP n)).findIdx? (λd=>PyData.eqv d (jP n a))=some j:=by
  refine ZbM.mpr ⟨by simpa using hjl,?_,λi hij=>?_⟩;rw[Zcr,Zt];exact(CW n a a ha ha).mpr rfl;have hil:i<es.length:=by lk
  rw[Zcr];have hm:es[i]∈es:=Zbl hil;intro h;exact hno i es[i] hij (Zac hil) ((CW n es[i] a (he _ hm) ha).mp h)
 have l1:=vJ n a ha;have l2:(es.map (jP n)).all PyData.canLay0=true:=by
  rw[ZbR];intro d hd;obtain⟨x,hx,rfl⟩:=Zaw.mp hd;exact(vJ n x (he x hx)).1
 have e:eY (.ref k) [a] st=some (.int (j:Int),st):=by
  unfold eY;simp only[h1,hc,Zbg,h2,hf,l1.1,l2,Bool.true_and,Zaa,decide_eq_true_eq,ZaD];rw[if_pos ⟨by lk,hl⟩]
 rw[e,aY]
abbrev tU:D->List D->Dm D
 |.ref i,[],st=>match own st i with
  |some xs=>match xs[xs.length-1]? with
   |some y=>some (y,st.set i (.lst xs.dropLast))
   |none=>none
  |none=>none
 |_,_,_=>none
section
variable {K:Zfr}
def Tc:xi K "list" DV tU:=by
 intro ρ H st x xs a as b st' Q l rx tN e q;unfold tU at e;split at e
 ·split at e
  ·next ys hy =>
   split at e
   ·next y hl =>
    cases e;cases tN;cases rx with
    |ref hi =>
     obtain⟨vs,e1,r1⟩:=l.obj _ _ _ hi (sd hy);obtain⟨v,hv,rv⟩:=r1.got hl;have hlen:=r1.length;have r2:cC K ρ H vs.dropLast ys.dropLast:=by
      rw[List.dropLast_eq_take,List.dropLast_eq_take,hlen];exact r1.take _
     obtain⟨l2,m2⟩:=l.putL hi (sd hy) r2;exact⟨_,vs,v,rfl,rfl,e1,by rw[hlen];exact hv,q _ _ ρ m2 l2 (rv.mn m2)⟩
   ·cases e
  ·cases e
 ·cases e
end
section
variable {st:Store}{Q:D->Store->Prop}{i:Nat}
def Td(h:own st i=some (xs ++ [y])):Wp (tU (.ref i) [] st) Q↔Q y (st.set i (.lst xs)):=by
 have e:(xs ++ [y])[(xs ++ [y]).length-1]?=some y:=by simp
 have e2:(xs ++ [y]).dropLast=xs:=by simp
 show Wp (match own st i with|some xs=>(match xs[xs.length-1]? with|some y=>some (y,st.set i (O.lst xs.dropLast))|none=>none)|none=>none) Q↔_;rw[h];dsimp only;rw[e,e2];exact aY
end
end L4
namespace ae
@[reducible]def CS:=List aJ×List (List Sp)×List (Nat×Nat)
abbrev aR(n:Nat)(fs:List aJ)(ws:List (List Sp))(k:Nat)(s:Sp):List aJ×List (List Sp)×Nat :=
 if aU n (stM (fs.getD k ([],[])) s)∈fs then(fs,ws,fs.idxOf (aU n (stM (fs.getD k ([],[])) s)))else(fs ++ [aU n (stM (fs.getD k ([],[])) s)],ws ++ [(gY (ws.getD k [] ++ [s])).reverse],fs.length)
abbrev bT(n:Nat)(c:CS):List aJ×List (List Sp)×Nat:=aR n c.1 c.2.1 c.2.2.length (true,1)
abbrev dJ(n:Nat)(c:CS):List aJ×List (List Sp)×Nat:=aR n (bT n c).1 (bT n c).2.1 c.2.2.length (false,1)
abbrev NR(n:Nat)(c:CS):CS:=((dJ n c).1,(dJ n c).2.1,c.2.2 ++ [((bT n c).2.2,(dJ n c).2.2)])
abbrev ch(n:Nat)(p:aJ):Nat->CS
 |0=>([aU n p],[[]],[])
 |i+1=>NR n (ch n p i)
structure GR(n:Nat)(p:aJ)(fs:List aJ)(ws:List (List Sp)):Prop where
 nd:fs.Nodup
 own:∀q∈fs,Wh n q/\aU n q=q
 wl:ws.length=fs.length
 hd:fs[0]?=some (aU n p)
 wd:∀(k:Nat) (w:List Sp),ws[k]?=some w->Pl w.reverse/\w.length<=k/\(∀s∈w,s.2.natAbs<=k+3)/\∃q,fs[k]?=some q/\bC n (df p w) q
abbrev Zu(n:Nat)(fs:List aJ)(ls:List (Nat×Nat)):Prop:=∀(k:Nat) (l:Nat×Nat),ls[k]?=some l->∃p,fs[k]?=some p/\fs[l.1]?=some (aU n (stM p (true,1)))/\fs[l.2]?=some (aU n (stM p (false,1)))
structure GC(n:Nat)(p:aJ)(c:CS)(i:Nat):Prop where
 r:GR n p c.1 c.2.1
 ll:c.2.2.length=i
 le:i<=c.1.length
 ld:Zu n c.1 c.2.2
section
variable {n:Nat}{p:aJ}
def GR.few(g:GR n p fs ws):0<fs.length:=(Zab.mp g.hd).1
def JZ(w:Wh n p)(n0:0<n):Wh n (aU n p)/\aU n (aU n p)=aU n p/\bC n p (aU n p):=by
 obtain⟨s,s0,s1,e⟩:=MZ p n0;have tb:=w.bf s0 s1;have a:bC n p (aU n p):=⟨inv (bf p.1 p.2 s n),tb.aA,by rw[e,yk w.v.1 tb,yk w.v.2 tb];rfl⟩;have wq:Wh n (aU n p):=by
  obtain⟨g,tg,eq⟩:=a;have:=xx (xs:=p.1) (ys:=p.2) ⟨w.v.1,w.v.2,w.all⟩ tg n0;rw[eq];exact⟨⟨this.1,this.2.1⟩,this.2.2⟩
 exact⟨wq,(yq n0 w.v a).symm,a⟩
def Zv{fs:List aJ}{q:aJ}(h:q∈fs):fs[fs.idxOf q]?=some q:=by have hl:=ZbC h;rw[Zac hl,ZcE]
def Zw{w:List Sp}{k:Nat}{s:Sp}(hp:Pl w.reverse)(hn:∀a∈w,a.2.natAbs<=k+3)(hs:s=(true,1)\/s=(false,1)):Pl (gY (w ++ [s]))/\∀a∈(gY (w ++ [s])),a.2.natAbs<=k+1+3:=by
 have ps:bM s:=by rcases hs with rfl|rfl<;>exact⟨λ_=>by decide,by decide⟩
 have ew:gY w=w.reverse:=by
  have:=Pl.nV hp
  rwa [Zce]at this
 have e:gY (w ++ [s])=bB w.reverse s:=by
  rw[Js,ew];rfl
 rw[e];refine⟨hp.push ps,λa ha=>?_⟩;have s1:s.2.natAbs<=1:=by rcases hs with rfl|rfl<;>decide
 exact Q0 (M:=k+3) (B:=1) (λx hx=>hn x (ZaR.mp hx)) s1 ps hp a ha
def tV{fs:List aJ}{ws:List (List Sp)}{k:Nat}{s:Sp}(n0:0<n)(g:GR n p fs ws)(vp:Vf n p)(hk:k<fs.length)(hs:s=(true,1)\/s=(false,1)):
  GR n p (aR n fs ws k s).1 (aR n fs ws k s).2.1/\(∀(i:Nat) (q:aJ),fs[i]?=some q->(aR n fs ws k s).1[i]?=some q)/\fs.length<=(aR n fs ws k s).1.length/\(aR n fs ws k s).1.length<=fs.length+1/\∃q,fs[k]?=some q/\(aR n fs ws k s).1[(aR n fs ws k s).2.2]?=some (aU n (stM q s)):=by
 have ek:fs[k]?=some (fs.getD k ([],[])):=by rw[Zae,Zac hk];rfl
 generalize hq:fs.getD k ([],[])=q at ek;obtain⟨wq,oq⟩:=g.own q (Zaj ek);have Fx:=wq.st n0 s;obtain⟨wF,oF,aF⟩:=JZ Fx n0;unfold aR;rw[hq];by_cases hm:aU n (stM q s)∈fs;rw[if_pos hm];exact⟨g,λ_ _ h=>h,Zad _,Zb0 _,q,ek,Zv hm⟩;rw[if_neg hm];have Zx:k<ws.length:=by rw[g.wl];exact hk
 have ew:ws[k]?=some (ws.getD k []):=by rw[Zae,Zac Zx];rfl
 generalize ws.getD k []=w at ew;obtain⟨pw,lw,nw,q',eq',aw⟩:=g.wd k w ew;rw[ek]at eq';cases eq';obtain⟨pl,nl⟩:=Zw (k:=k) pw nw hs;refine⟨⟨Zcl.mpr ⟨g.nd,by simp,λx hx y hy e=>hm (by rw[<- Zav.mp hy,<- e];exact hx)⟩,λq' hq'=>?_,by rw[Zaf,Zaf,g.wl];rfl,by rw[Zan g.few];exact g.hd,λi v hv=>?_⟩,λi q' h=>by rw[Zan (Zab.mp h).1];exact h,by rw[Zaf];lk,by rw[Zaf];exact Zad _,q,ek,?_⟩;rcases Zax.mp hq' with h|h
 exact g.own q' h;rw[Zav.mp h];exact⟨wF,oF⟩;by_cases hi:i<ws.length;rw[Zan hi]at hv;obtain⟨a1,a2,a3,q',b1,b2⟩:=g.wd i v hv;exact⟨a1,a2,a3,q',by rw[Zan (Zab.mp b1).1];exact b1,b2⟩;have hi2:i=ws.length:=by
  have:=(Zab.mp hv).1;rw[Zaf]at this;have:i<ws.length+1:=this;lk
 subst hi2;rw[Zau (Zad _),ZaW]at hv;cases(show some _=some v from hv);refine⟨by rw[Zce];exact pl,?_,λa ha=>?_,aU n (stM q s),?_,?_⟩;rw[ZaL]
 have:=Jt (w ++ [s]);rw[Zaf]at this;have:(gY (w ++ [s])).length<=w.length+1:=this;lk
 have:=nl a (ZaR.mp ha)
 lk;rw[g.wl,Zau (Zad _),ZaW];rfl;have cB:∀ a∈w ++ [s],bM a:=λa ha=>by
  rcases Zax.mp ha with h|h
  exact Pl.pr pw a (ZaR.mpr h);rw[Zav.mp h];rcases hs with rfl|rfl<;>exact⟨λ_=>by decide,by decide⟩
 have e1:av (gY (w ++ [s])).reverse=av (w ++ [s]):=Ju cB;have pp:∀a∈(gY (w ++ [s])).reverse,bM a:=λa ha=>Pl.pr pl a (ZaR.mp ha);have a1:=MU pp cB e1 vp;have a2:bC n (df p (w ++ [s])) (stM q s):=by
  rw[Au];exact bC.st vp.ld aw s
 exact bC.trans vp.ld (bC.trans vp.ld a1 a2) aF;rw[Zau (Zad _),ZaW];rfl
def xy(n0:0<n)(w:Wh n p):∀i:Nat,(∀j,j<i->j<(ch n p j).1.length)->GC n p (ch n p i) i
 |0,_=>by
  obtain⟨wF,oF,aF⟩:=JZ w n0
  exact⟨⟨by show[aU n p].Nodup;simp,λq hq=>by rw[Zav.mp hq];exact⟨wF,oF⟩,rfl,rfl,λk v hv=>by
   cases k with
   |zero =>
    cases(show some []=some v from hv);exact⟨trivial,Zad _,(λs hs=>nomatch hs),_,rfl,aF⟩
   |succ k=>cases(show none=some v from hv)⟩,rfl,ZaJ _,λk l hl=>nomatch hl⟩
 |i+1,h=>by
  have g:=xy n0 w i λj hj=>h j ⋯;have hi:=h i ⋯;have o7:=g.ll;have vp:=w.v;have r1:=tV (s:=(true,1)) n0 g.r vp (k:=(ch n p i).2.2.length) ⋯ (.inl rfl);have r2:=tV (s:=(false,1)) n0 r1.1 vp (k:=(ch n p i).2.2.length) (by have:=r1.2.2.1;lk) (.inr rfl);refine⟨r2.1,by show((ch n p i).2.2 ++ [_]).length=i+1;rw[Zaf,o7];rfl,?_,λk l hl=>?_⟩;have a:=r1.2.2.1;have b:=r2.2.2.1;show i+1<=(dJ n (ch n p i)).1.length;unfold dJ bT;lk;have hl:((ch n p i).2.2 ++ [((bT n (ch n p i)).2.2,(dJ n (ch n p i)).2.2)])[k]?=some l:=hl;by_cases hk:k<(ch n p i).2.2.length;rw[Zan hk]at hl;obtain⟨q,b1,b2,b3⟩:=g.ld k l hl;exact⟨q,r2.2.1 _ _ (r1.2.1 _ _ b1),r2.2.1 _ _ (r1.2.1 _ _ b2),r2.2.1 _ _ (r1.2.1 _ _ b3)⟩;have hk2:k=(ch n p i).2.2.length:=by
   have:=(Zab.mp hl).1;rw[Zaf]at this;have:k<(ch n p i).2.2.length+1:=this;lk
  subst hk2;rw[Zau (Zad _),ZaW]at hl;cases(show some _=some l from hl);obtain⟨q1,c1,c2⟩:=r1.2.2.2.2;obtain⟨q2,d1,d2⟩:=r2.2.2.2.2;have:q2=q1:=by
   have:=r1.2.1 _ _ c1;rw[d1]at this;exact Zao this
  subst this;exact⟨q2,r2.2.1 _ _ d1,r2.2.1 _ _ c2,d2⟩
structure Full(n:Nat)(p:aJ)(c:CS)(N:Nat):Prop extends GC n p c N where
 fl:c.1.length=N
end
end ae
namespace ae
abbrev Tl:Nat->List (List Int)
 |1=>[[0]]
 |2=>[[0,1],[1,0]]
 |3=>[[0,1,2],[0,2,1],[1,0,2],[1,2,0],[2,0,1],[2,1,0]]
 |_=>[]
def Bt:∀a∈([0,1]:List Int),∀b∈([0,1]:List Int),[a,b].Nodup->[a,b]∈Tl 2:=by decide +kernel
def Zy:∀a∈([0,1,2]:List Int),∀b∈([0,1,2]:List Int),∀c∈([0,1,2]:List Int),[a,b,c].Nodup->[a,b,c]∈Tl 3:=by decide +kernel
def Te(n0:0<n)(n3:n<=3)(t:Tn n xs):xs∈Tl n:=by
 have hl:=t.length;have hb:∀x∈xs,x∈upto n:=λx hx=>t.subset hx;have nd:=t.nodup;clear t
 match n,n0,n3,xs,hl with
 |1,_,_,[x],_ =>
  have h1:=hb x Zai;rw[Zav.mp (show x∈[0]from h1)];exact Zai
 |2,_,_,[x,y],_=>exact Bt x (hb x Zai) y (hb y (.tail _ Zai)) nd
 |3,_,_,[x,y,z],_=>exact Zy x (hb x Zai) y (hb y (.tail _ Zai)) z (hb z (.tail _ (.tail _ Zai))) nd
abbrev Ul(n:Nat):List aJ:=((Tl n).flatMap λx=>(Tl n).map λy=>(x,y)).filter λq=>decide (aU n q=q)
def Bu(n0:0<n)(n3:n<=3)(w:Wh n q)(h:aU n q=q):q∈Ul n:=by unfold Ul;refine Zcg.mpr ⟨List.mem_flatMap.mpr ⟨q.1,Te n0 n3 w.v.1,Zaw.mpr ⟨q.2,Te n0 n3 w.v.2,rfl⟩⟩,by rw[h];exact decide_eq_true rfl⟩
def Tf:∀{m l:List aJ},m.Nodup->(∀x∈m,x∈l)->m.length<=l.length
 |[],_,_,_=>ZaJ _
 |a :: m,l,nd,hs=>by
  have Tg:=Zbr.mp nd;have ha:=hs a Zai;have:=Tf (m:=m) (l:=l.erase a) Tg.2 λy hy=>by
   have Zz:y≠a:=λz=>Tg.1 (z ▸ hy);exact(Zcc Zz).mpr (hs y (Zal _ hy))
  rw[List.length_erase_of_mem ha]at this;have hp:0<l.length:=List.length_pos_of_mem ha;simp;lk
def NS:(Ul 1).length<=30/\(Ul 2).length<=30/\(Ul 3).length<=30:=by decide +kernel
def ZA{n:Nat}(n0:0<n)(n3:n<=3){fs:List aJ}(nd:fs.Nodup)(own:∀q∈fs,Wh n q/\aU n q=q):fs.length<=30:=by
 have h:=Tf (l:=Ul n) nd λq hq=>Bu n0 n3 (own q hq).1 (own q hq).2;rcases(show n=1\/n=2\/n=3 by lk)with rfl|rfl|rfl
 exact Zap h NS.1;exact Zap h NS.2.1;exact Zap h NS.2.2
end ae
namespace ae
end ae
namespace ae
@[reducible]def jv:=Nat×Sp×Nat
abbrev iJ(x:Nat×List jv)(t:jv):Nat×List jv:=if t.2.2=x.1 then(x.1+1,x.2)else(x.1,x.2 ++ [t])
abbrev iK(C:CS)(i:Nat):Nat×Nat:=C.2.2.getD i (0,0)
abbrev bj(C:CS):Nat->Nat×List jv
 |0=>(1,[])
 |i+1=>iJ (iJ (bj C i) (i,(true,1),(iK C i).1)) (i,(false,1),(iK C i).2)
abbrev J0(C:CS)(i:Nat):Nat->Nat×List jv
 |0=>bj C i
 |1=>iJ (bj C i) (i,(true,1),(iK C i).1)
 |_=>bj C (i+1)
abbrev ux(C:CS)(t:jv):List Sp:=C.2.1.getD t.1 [] ++ [t.2.1] ++ eV (C.2.1.getD t.2.2 [])
abbrev xA(N:Nat)(t:jv):Prop:=t.1<N/\(t.2.1=(true,1)\/t.2.1=(false,1))/\t.2.2<N
def J1(h:∀s∈x.2,xA N s)(ht:xA N t):(∀s∈(iJ x t).2,xA N s)/\(iJ x t).2.length<=x.2.length+1:=by
 unfold iJ;split;exact⟨h,Zb0 _⟩;refine⟨λs hs=>?_,by rw[Zaf];exact Zad _⟩;rcases Zax.mp hs with h'|h'
 exact h s h';rw[Zav.mp h'];exact ht
def Fy(F:Full n p C N)(hi:i<N):(iK C i).1<N/\(iK C i).2<N:=by
 have hl:i<C.2.2.length:=by rw[F.ll];exact hi
 have e:C.2.2[i]?=some (iK C i):=by unfold iK;rw[Zae,Zac hl];rfl
 obtain⟨q,_,h1,h2⟩:=F.ld i _ e;exact⟨by rw[<- F.fl];exact(Zab.mp h1).1,by rw[<- F.fl];exact(Zab.mp h2).1⟩
def Bw(F:Full n p C N):∀i,i<=N->(∀s∈(bj C i).2,xA N s)/\(bj C i).2.length<=2*i
 |0,_=>⟨(λs hs=>nomatch hs),Zad _⟩
 |i+1,hi=>by
  obtain⟨h1,h2⟩:=Bw F i ⋯;obtain⟨l1,l2⟩:=Fy F (i:=i) ⋯;have a:=J1 (t:=(i,(true,1),(iK C i).1)) h1 ⟨by show i<N;lk,.inl rfl,l1⟩;have b:=J1 (t:=(i,(false,1),(iK C i).2)) a.1 ⟨by show i<N;lk,.inr rfl,l2⟩;refine⟨b.1,?_⟩;have:=a.2;have:=b.2;show(iJ (iJ (bj C i) _) _).2.length<=_;lk
def Bx(F:Full n p C N)(hk:k<N):(∀s∈C.2.1.getD k [],bM s/\s.2.natAbs<=N+3)/\(C.2.1.getD k []).length<=N:=by
 have hl:k<C.2.1.length:=by rw[F.r.wl,F.fl];exact hk
 have e:C.2.1[k]?=some (C.2.1.getD k []):=by rw[Zae,Zac hl];rfl
 obtain⟨pw,lw,nw,_⟩:=F.r.wd k _ e;exact⟨λs hs=>⟨Pl.pr pw s (ZaR.mpr hs),by have:=nw s hs;lk⟩,by lk⟩
def Ti(h:bM s)(hb:s.2.natAbs<=B)(h3:3<=B):(m8 s).2.natAbs<=B:=by
 unfold m8;cases hs:s.1 with
 |true=>simp only[if_true];rw[Zbn];exact hb
 |false =>
  have:=h.1 hs;simp only[Za9,if_false];lk
def Tj(F:Full n p C N)(h:xA N t):(∀s∈ux C t,bM s/\s.2.natAbs<=N+3)/\(ux C t).length<=2*N+1:=by
 obtain⟨h1,h2,h3⟩:=h;obtain⟨a1,a2⟩:=Bx F h1;obtain⟨b1,b2⟩:=Bx F h3;refine⟨λs hs=>?_,?_⟩;unfold ux at hs;rcases Zax.mp hs with hs|hs
 rcases Zax.mp hs with hs|hs
 exact a1 s hs;rw[Zav.mp hs];rcases h2 with e|e<;>rw[e]
 exact⟨⟨λz=>(nomatch z),by decide⟩,by show 1<=_;lk⟩;exact⟨⟨λ_=>⟨by decide,by decide⟩,by decide⟩,by show 1<=_;lk⟩;have pb:=xg (λs hs=>(b1 s hs).1) s hs;unfold eV at hs;obtain⟨x,hx,rfl⟩:=Zaw.mp (ZaR.mp hs);exact⟨pb,Ti (b1 x hx).1 (b1 x hx).2 ⋯⟩;unfold ux eV;rw[Zaf,Zaf,ZaL,Zaa];show _+1+_<=_;lk
end ae
namespace ae
abbrev sT(c:CS):List Int:=c.2.2.map λl=>(l.1:Int)
abbrev tT(c:CS):List Int:=c.2.2.map λl=>(l.2:Int)
section
variable {n:Nat}{p:aJ}{c:CS}{N:Nat}
def Full.Fz(h:Full n p c N){k:Nat}{q:aJ}(hq:c.1[k]?=some q):∃l:Nat×Nat,c.2.2[k]?=some l/\c.1[l.1]?=some (aU n (Sh 1 q))/\c.1[l.2]?=some (aU n (Qt q)):=by
 have hk:k<c.2.2.length:=by rw[h.ll,<- h.fl];exact(Zab.mp hq).1
 obtain⟨q',b1,b2,b3⟩:=h.ld k _ (Zac hk);rw[hq]at b1;cases b1;exact⟨_,Zac hk,b2,b3⟩
def Full.J3(n0:0<n)(h:Full n p c N):Tn N (sT c):=by
 have:=Ry (fs:=c.1) (c:=sT c) (λq=>aU n (Sh 1 q)) h.r.nd (by unfold sT;rw[Zaa,h.ll,h.fl]) (λk q hq=>by
  obtain⟨l,h1,h2,_⟩:=h.Fz hq
  exact⟨l.1,by unfold sT;rw[Zag,h1];rfl,h2⟩) (λa ha b hb e=>Ax n0 1 (h.r.own a ha).1 (h.r.own b hb).1 (h.r.own a ha).2 (h.r.own b hb).2 e)
 rw[h.fl]at this;exact this
def Full.ZC(n0:0<n)(h:Full n p c N):Tn N (tT c):=by
 have:=Ry (fs:=c.1) (c:=tT c) (λq=>aU n (Qt q)) h.r.nd (by unfold tT;rw[Zaa,h.ll,h.fl]) (λk q hq=>by
  obtain⟨l,h1,_,h2⟩:=h.Fz hq
  exact⟨l.2,by unfold tT;rw[Zag,h1];rfl,h2⟩) (λa ha b hb e=>Ay n0 (h.r.own a ha).1 (h.r.own b hb).1 (h.r.own a ha).2 (h.r.own b hb).2 e)
 rw[h.fl]at this;exact this
def FA(n0:0<n)(w:Wh n q)(s:Sp):aU n (stM (aU n q) s)=aU n (stM q s):=(yq n0 (w.st n0 s).v (bC.st w.v (JZ w n0).2.2 s)).symm
def J4(n0:0<n)(w:Wh n q)(u:List Sp):aU n (df (aU n q) u)=aU n (df q u):=(yq n0 (w.ld n0 (w:=u)).v (bC.ld w.v (JZ w n0).2.2)).symm
end
end ae
namespace ae
abbrev cst(w:List Sp):Nat:=(w.map λs=>s.2.natAbs).sum
def J5(w:List Sp):cst w.reverse=cst w:=by unfold cst;rw[List.map_reverse,List.sum_reverse]
def tW(s:Sp)(w:List Sp):cst (s :: w)=s.2.natAbs+cst w:=by unfold cst;rw[Zaz,List.sum_cons]
def To(hl:Pl l)(hp:bM s):cst (bB l s)<=cst l+s.2.natAbs:=by
 cases l with
 |nil=>show cst [s]<=_;rw[tW];unfold cst;simp
 |cons t r =>
  rw[vk];split
  ·next e0 =>
   unfold cj;split
   ·show cst r<=_
    rw[tW];lk
   ·show cst ((t.1,gu t s) :: r)<=_
    rw[tW,tW];have:(gu t s).natAbs<=t.2.natAbs+s.2.natAbs:=by
     unfold gu;split
     ·lk
     ·next hb =>
      have:=hl.1.1 (by simpa using hb);have h2:=hp.1 (by rw[<- e0];simpa using hb);lk
    show(gu t s).natAbs+_<=_;lk
  ·rw[tW];lk
section
variable {n:Nat}{p:aJ}
def Tp{fs:List aJ}{ws:List (List Sp)}{k:Nat}{s:Sp}(g:GR n p fs ws)(hk:k<fs.length)(hs:s=(true,1)\/s=(false,1))(h:∀(j:Nat) (w:List Sp),ws[j]?=some w->cst w<=j):∀(j:Nat) (w:List Sp),(aR n fs ws k s).2.1[j]?=some w->cst w<=j:=by
 intro j w hw;unfold aR at hw;split at hw;exact h j w hw;have hkw:k<ws.length:=by rw[g.wl];exact hk
 rcases ZbP j ws.length with hj|hj
 rw[Zan hj]at hw;exact h j w hw;rw[Zau hj]at hw;obtain⟨h1,h2⟩:=Zab.mp hw;have hj0:j-ws.length=0:=by simpa using h1
 have e:(gY (ws.getD k [] ++ [s])).reverse=w:=by
  rw[<- h2];simp[hj0]
 have hg:ws[k]?=some (ws.getD k []):=by rw[Zae,Zac hkw];rfl
 obtain⟨hp,_⟩:=g.wd k _ hg;have ps:bM s:=by rcases hs with rfl|rfl<;>exact⟨λ_=>by decide,by decide⟩
 have s1:s.2.natAbs=1:=by rcases hs with rfl|rfl<;>rfl
 have ew:gY (ws.getD k [])=(ws.getD k []).reverse:=by
  have:=Pl.nV hp
  rwa [Zce]at this
 have e2:gY (ws.getD k [] ++ [s])=bB (ws.getD k []).reverse s:=by rw[Js,ew];rfl
 have h3:=To hp ps;have h4:=h k _ hg;rw[<- e,J5,e2];rw[J5]at h3;lk
def Tq(n0:0<n)(w:Wh n p):∀i:Nat,(∀j,j<i->j<(ch n p j).1.length)->∀(k:Nat) (u:List Sp),(ch n p i).2.1[k]?=some u->cst u<=k
 |0,_,k,u,hu=>by
  have hu:([[]]:List (List Sp))[k]?=some u:=hu;cases k with
  |zero=>cases hu;exact ZaJ _
  |succ k=>simp at hu
 |i+1,hp,k,u,hu=>by
  have g:=xy n0 w i λj hj=>hp j ⋯;have ih:=Tq n0 w i λj hj=>hp j ⋯;have hi:i<(ch n p i).1.length:=hp i ⋯;have hl:(ch n p i).2.2.length=i:=g.ll;have h1:=tV (k:=(ch n p i).2.2.length) (s:=(true,1)) n0 g.r w.v (by rw[hl];exact hi) (.inl rfl);have c1:=Tp (k:=(ch n p i).2.2.length) (s:=(true,1)) g.r (by rw[hl];exact hi) (.inl rfl) ih;have c2:=Tp (k:=(ch n p i).2.2.length) (s:=(false,1)) h1.1 (by have:=h1.2.2.1;lk) (.inr rfl) c1;exact c2 k u hu
end
def Tr{A B:T4}{M N:Nat}(ha:A.le M)(hb:B.le N):(A.mul B).le (2*(M*N)):=by
 have key:∀{a b c d:Int},a.natAbs<=M->b.natAbs<=N->c.natAbs<=M->d.natAbs<=N->(a*b+c*d).natAbs<=2*(M*N):=λ{a b c d} h1 h2 h3 h4=>by
  have e1:(a*b).natAbs<=M*N:=by rw[Za2];exact Zcj h1 h2
  have e2:(c*d).natAbs<=M*N:=by rw[Za2];exact Zcj h3 h4
  have:=Int.natAbs_add_le (a*b) (c*d);lk
 obtain⟨a1,a2,a3,a4⟩:=ha;obtain⟨b1,b2,b3,b4⟩:=hb;exact⟨key a1 b1 a2 b3,key a1 b2 a2 b4,key a3 b1 a4 b3,key a3 b2 a4 b4⟩
def Ts:∀x:Nat,1<=x->2*x<=2 ^ x
 |1,_=>by decide
 |x+2,_=>by
  have:=Ts (x+1) ⋯;rw[Nat.pow_succ];lk
def Tt:∀j:Nat,(qp j).le 1
 |0=>⟨by decide,by decide,by decide,by decide⟩
 |j+1=>by
  obtain⟨h1,h2,h3,h4⟩:=Tt j;show(T4.mul T4.qt (qp j)).le 1;refine⟨?_,?_,?_,?_⟩;show(0*(qp j).a + -1*(qp j).c).natAbs<=1;lk;show(0*(qp j).b + -1*(qp j).d).natAbs<=1;lk;show(1*(qp j).a+0*(qp j).c).natAbs<=1;lk;show(1*(qp j).b+0*(qp j).d).natAbs<=1;lk
def Tv:∀{w:List Sp},(∀s∈w,bM s)->(av w).le (2 ^ cst w)
 |[],_=>⟨by decide,by decide,by decide,by decide⟩
 |s :: w,hw=>by
  have ih:=Tv (w:=w) λt ht=>hw t (Zal _ ht);have hs:=hw s Zai;have hs1:1<=s.2.natAbs:=by have:=hs.2;lk
  have e:av (s :: w)=(av w).mul (gw s):=by
   have:=qY [s] w;rw[show[s] ++ w=s :: w from rfl]at this;rw[this]
   congr 1
   show(gw s).mul T4.one=gw s;exact T4.mul_one _
  have hle:(gw s).le s.2.natAbs:=by
   unfold gw;split;exact⟨hs1,Zad _,ZaJ _,hs1⟩;obtain⟨h1,h2,h3,h4⟩:=Tt s.2.toNat;exact⟨by lk,by lk,by lk,by lk⟩
  rw[e,tW];have:=Tr ih hle;have h2:2*(2 ^ cst w*s.2.natAbs)<=2 ^ (s.2.natAbs+cst w):=by
   rw[Nat.pow_add,Zci (2 ^ s.2.natAbs),<- ZcF,Zci 2,ZcF];exact Nat.mul_le_mul_left _ (Ts _ hs1)
  exact⟨Zap this.1 h2,Zap this.2.1 h2,Zap this.2.2.1 h2,Zap this.2.2.2 h2⟩
end ae
namespace ae
abbrev nA(C:CS)(i:Nat)(b:Bool):Nat:=if b then(iK C i).1 else(iK C i).2
abbrev o8(C:CS)(i:Nat):List Sp:=C.2.1.getD i []
section
variable {n:Nat}{p:aJ}
def J7(fs:List aJ)(ws:List (List Sp))(k:Nat)(s:Sp):ws <+: (aR n fs ws k s).2.1:=by unfold aR;split;exact List.prefix_rfl;exact ZbZ _ _
def NT(n:Nat)(p:aJ)(i:Nat):(ch n p i).2.1 <+: (ch n p (i+1)).2.1/\(ch n p i).2.2 <+: (ch n p (i+1)).2.2 :=
 ⟨(J7 _ _ _ _).trans (J7 _ _ _ _),ZbZ _ _⟩
def CY(n:Nat)(p:aJ)(i:Nat):∀d,(ch n p i).2.1 <+: (ch n p (i+d)).2.1/\(ch n p i).2.2 <+: (ch n p (i+d)).2.2
 |0=>⟨List.prefix_rfl,List.prefix_rfl⟩
 |d+1=>⟨(CY n p i d).1.trans (NT n p (i+d)).1,(CY n p i d).2.trans (NT n p (i+d)).2⟩
def By{α:Type}{l m:List α}(h:l <+: m){i:Nat}{x:α}(e:l[i]?=some x):m[i]?=some x:=by obtain⟨t,rfl⟩:=h;rw[Zan (Zab.mp e).1];exact e
def FC(hw:ws.length=fs.length):
  ((aR n fs ws k s).2.2=fs.length/\(aR n fs ws k s).1.length=fs.length+1/\(aR n fs ws k s).2.1[fs.length]?=some (gY (ws.getD k [] ++ [s])).reverse)\/((aR n fs ws k s).2.2<fs.length/\(aR n fs ws k s).1.length=fs.length):=by
 unfold aR;split
 ·next h=>exact .inr ⟨ZbC h,rfl⟩
 ·refine .inl ⟨rfl,by rw[Zaf];rfl,?_⟩
  rw[<- hw,Zau (Zad _),ZaW];rfl
def NU(n0:0<n)(w:Wh n p)(F:Full n p (ch n p N) N)(pr:∀j,j<N->j<(ch n p j).1.length):∀i,i<=N->(bj (ch n p N) i).1=(ch n p i).1.length
 |0,_=>rfl
 |i+1,hi=>by
  have ih:=NU n0 w F pr i ⋯;have g:=xy n0 w i λj hj=>pr j ⋯;have hl:=g.ll;have el:iK (ch n p N) i=((bT n (ch n p i)).2.2,(dJ n (ch n p i)).2.2):=by
   have e1:(ch n p (i+1)).2.2[i]?=some ((bT n (ch n p i)).2.2,(dJ n (ch n p i)).2.2):=by
    show((ch n p i).2.2 ++ [_])[i]?=_;rw[Zau ⋯,hl,ZaW];rfl
   have e2:=By (CY n p (i+1) (N-(i+1))).2 e1;rw[show i+1+(N-(i+1))=N by lk]at e2;unfold iK;rw[Zae,e2];rfl
  have gS:=tV (k:=(ch n p i).2.2.length) (s:=(true,1)) n0 g.r w.v (by rw[hl];exact pr i ⋯) (.inl rfl);have s1:((bT n (ch n p i)).2.2=(ch n p i).1.length/\(bT n (ch n p i)).1.length=(ch n p i).1.length+1)\/((bT n (ch n p i)).2.2<(ch n p i).1.length/\(bT n (ch n p i)).1.length=(ch n p i).1.length):=(FC (n:=n) (fs:=(ch n p i).1) (k:=(ch n p i).2.2.length) (s:=(true,1)) g.r.wl).imp (λh=>⟨h.1,h.2.1⟩) id;have s2:((dJ n (ch n p i)).2.2=(bT n (ch n p i)).1.length/\(dJ n (ch n p i)).1.length=(bT n (ch n p i)).1.length+1)\/((dJ n (ch n p i)).2.2<(bT n (ch n p i)).1.length/\(dJ n (ch n p i)).1.length=(bT n (ch n p i)).1.length):=(FC (n:=n) (fs:=(bT n (ch n p i)).1) (k:=(ch n p i).2.2.length) (s:=(false,1)) gS.1.wl).imp (λh=>⟨h.1,h.2.1⟩) id;show(iJ (iJ (bj (ch n p N) i) (i,(true,1),(iK (ch n p N) i).1)) (i,(false,1),(iK (ch n p N) i).2)).1=((dJ n (ch n p i)).1).length;have hS:(iJ (bj (ch n p N) i) (i,(true,1),(iK (ch n p N) i).1)).1=(bT n (ch n p i)).1.length:=by
   unfold iJ;dsimp only;rw[ih,el];dsimp only;rcases s1 with⟨a1,a2⟩|⟨a1,a2⟩
   rw[if_pos a1,a2];rw[if_neg ⋯,a2]
  generalize iJ (bj (ch n p N) i) (i,(true,1),(iK (ch n p N) i).1)=x at hS;unfold iJ;dsimp only;rw[hS,el];dsimp only;rcases s2 with⟨b1,b2⟩|⟨b1,b2⟩
  rw[if_pos b1,b2];rw[if_neg ⋯,b2]
def Bz(g:(ch n p i).2.2.length=i)(hi:i<N):iK (ch n p N) i=((bT n (ch n p i)).2.2,(dJ n (ch n p i)).2.2):=by
 have e1:(ch n p (i+1)).2.2[i]?=some ((bT n (ch n p i)).2.2,(dJ n (ch n p i)).2.2):=by
  show((ch n p i).2.2 ++ [_])[i]?=_;rw[Zau ⋯,g,ZaW];rfl
 have e2:=By (CY n p (i+1) (N-(i+1))).2 e1;rw[show i+1+(N-(i+1))=N by lk]at e2;unfold iK;rw[Zae,e2];rfl
abbrev ZD(C:CS)(N:Nat)(t:jv):Prop:=t.1<N/\t.2.1.2=1/\t.2.2=nA C t.1 t.2.1.1
def Tw(h:s∈(iJ x t).2):s∈x.2\/s=t:=by
 unfold iJ at h;split at h;exact .inl h;rcases Zax.mp h with h|h
 exact .inl h;exact .inr (Zav.mp h)
def NV(h:s∈x.2):s∈(iJ x t).2:=by unfold iJ;split;exact h;exact Zbi _ h
def NW(C:CS)(N:Nat):∀i,i<=N->∀t∈(bj C i).2,ZD C N t
 |0,_,t,h=>nomatch h
 |i+1,hi,t,h=>by
  rcases Tw h with h|rfl
  rcases Tw h with h|rfl
  exact NW C N i ⋯ t h;exact⟨hi,rfl,rfl⟩;exact⟨hi,rfl,rfl⟩
def Tx(C:CS)(h:t∈(bj C i).2):∀d,t∈(bj C (i+d)).2
 |0=>h
 |d+1=>NV (NV (Tx C h d))
def ZE(n0:0<n)(w:Wh n p)(F:Full n p (ch n p N) N)(pr:∀j,j<N->j<(ch n p j).1.length)(hi:i<N)(b:Bool)(h:(i,(b,1),nA (ch n p N) i b) ∉ (bj (ch n p N) N).2):av (o8 (ch n p N) (nA (ch n p N) i b))=av (o8 (ch n p N) i ++ [(b,1)]):=by
 have g:=xy n0 w i λj hj=>pr j ⋯;have hl:=g.ll;have el:=Bz (n:=n) (p:=p) hl hi;have hc:=NU n0 w F pr i ⋯;have gS:=tV (k:=(ch n p i).2.2.length) (s:=(true,1)) n0 g.r w.v (by rw[hl];exact pr i ⋯) (.inl rfl);have word:∀{k:Nat} {u:List Sp},(ch n p (i+1)).2.1[k]?=some u->o8 (ch n p N) k=u:=λ{k u} e=>by
  have e2:=By (CY n p (i+1) (N-(i+1))).1 e;rw[show i+1+(N-(i+1))=N by lk]at e2;unfold o8;rw[Zae,e2];rfl
 have ZF:i<(ch n p i).2.1.length:=by rw[g.r.wl];exact pr i hi
 have ei:(ch n p i).2.1[i]?=some ((ch n p i).2.1.getD i []):=by rw[Zae,Zac ZF];rfl
 have wi:o8 (ch n p N) i=(ch n p i).2.1.getD i []:=word (By (NT n p i).1 ei);obtain⟨pw,_⟩:=g.r.wd i _ ei;have tp:∀s:Sp,s=(true,1)\/s=(false,1)->av (gY ((ch n p i).2.1.getD i [] ++ [s])).reverse=av ((ch n p i).2.1.getD i [] ++ [s]):=λs hs=>Ju λa ha=>by
  rcases Zax.mp ha with h|h
  exact Pl.pr pw a (ZaR.mpr h);rw[Zav.mp h];rcases hs with rfl|rfl<;>exact⟨λ_=>by decide,by decide⟩
 have up:∀{t:jv},t∈(bj (ch n p N) (i+1)).2->t∈(bj (ch n p N) N).2:=λ{t} ht=>by
  have:=Tx (ch n p N) ht (N-(i+1))
  rwa [show i+1+(N-(i+1))=N by lk]at this
 rw[wi];cases b with
 |true =>
  have et:nA (ch n p N) i true=(bT n (ch n p i)).2.2:=by show(iK (ch n p N) i).1=_;rw[el]
  rcases FC (n:=n) (fs:=(ch n p i).1) (k:=(ch n p i).2.2.length) (s:=(true,1)) g.r.wl with⟨a1,a2,a3⟩|⟨a1,a2⟩
  have a1:(bT n (ch n p i)).2.2=(ch n p i).1.length:=a1;have e3:(ch n p (i+1)).2.1[(ch n p i).1.length]?=some (gY ((ch n p i).2.1.getD (ch n p i).2.2.length [] ++ [(true,1)])).reverse:=By (J7 (n:=n) (bT n (ch n p i)).1 (bT n (ch n p i)).2.1 (ch n p i).2.2.length (false,1)) a3;rw[hl]at e3;rw[et,a1,word e3];exact tp _ (.inl rfl);refine absurd (up ?_) h;refine NV ?_;unfold iJ;have a1:(bT n (ch n p i)).2.2<(ch n p i).1.length:=a1;rw[hc,if_neg (by show ¬(iK (ch n p N) i).1=_;rw[el];show ¬(bT n (ch n p i)).2.2=_;lk)];exact ZaK _ (by simp[nA])
 |false =>
  have et:nA (ch n p N) i false=(dJ n (ch n p i)).2.2:=by show(iK (ch n p N) i).2=_;rw[el]
  have hS:(iJ (bj (ch n p N) i) (i,(true,1),(iK (ch n p N) i).1)).1=(bT n (ch n p i)).1.length:=by
   unfold iJ;dsimp only;rw[hc,el];dsimp only;rcases FC (n:=n) (fs:=(ch n p i).1) (k:=(ch n p i).2.2.length) (s:=(true,1)) g.r.wl with⟨a1,a2,_⟩|⟨a1,a2⟩
   have a1:(bT n (ch n p i)).2.2=(ch n p i).1.length:=a1;rw[if_pos a1];exact a2.symm;have a1:(bT n (ch n p i)).2.2<(ch n p i).1.length:=a1;rw[if_neg ⋯];exact a2.symm
  have ej:((bT n (ch n p i)).2.1).getD i []=(ch n p i).2.1.getD i []:=by
   have:=By (J7 (n:=n) (ch n p i).1 (ch n p i).2.1 (ch n p i).2.2.length (true,1)) ei;show(aR n _ _ _ _).2.1.getD i []=_;rw[Zae,this];rfl
  rcases FC (n:=n) (fs:=(bT n (ch n p i)).1) (k:=(ch n p i).2.2.length) (s:=(false,1)) gS.1.wl with⟨a1,a2,a3⟩|⟨a1,a2⟩
  have a1:(dJ n (ch n p i)).2.2=(bT n (ch n p i)).1.length:=a1;have e3:(ch n p (i+1)).2.1[(bT n (ch n p i)).1.length]?=some (gY ((bT n (ch n p i)).2.1.getD (ch n p i).2.2.length [] ++ [(false,1)])).reverse:=a3;rw[hl,ej]at e3;rw[et,a1,word e3];exact tp _ (.inr rfl);refine absurd (up ?_) h;have a1:(dJ n (ch n p i)).2.2<(bT n (ch n p i)).1.length:=a1;show _∈(iJ (iJ (bj (ch n p N) i) (i,(true,1),(iK (ch n p N) i).1)) (i,(false,1),(iK (ch n p N) i).2)).2;generalize iJ (bj (ch n p N) i) (i,(true,1),(iK (ch n p N) i).1)=x at hS;unfold iJ;rw[hS,if_neg (by show ¬(iK (ch n p N) i).2=_;rw[el];show ¬(dJ n (ch n p i)).2.2=_;lk)];exact ZaK _ (by simp[nA])
end
def J8(u v:List Sp):cst (u ++ v)=cst u+cst v:=by unfold cst;rw[Zar,List.sum_append]
abbrev sZ(s:Sp):Sp:=(s.1,if 0<s.2 then 1 else -1)
abbrev nO(w:List Sp):List Sp:=(w.map λs=>List.replicate s.2.natAbs (sZ s)).flatten
def Tz(w:List Sp)(s:Sp):nO (w ++ [s])=nO w ++ List.replicate s.2.natAbs (sZ s):=by unfold nO;rw[Zar,List.flatten_append];simp
def yP(e:Int):∀m:Nat,av (List.replicate m ((true,e):Sp))=⟨1,m*e,0,1⟩
 |0=>by apply T4.ext'<;>simp[av,nX,T4.one]
 |m+1=>by
  rw[List.replicate_succ',tJ,yP e m];apply T4.ext'<;>simp[T4.mul,gw,Int.add_mul]
def yQ:∀m:Nat,av (List.replicate m ((false,1):Sp))=qp m
 |0=>rfl
 |m+1=>by
  rw[List.replicate_succ',tJ,yQ m];show(qp 1).mul (qp m)=T4.qt.mul (qp m);rw[show qp 1=T4.qt from T4.mul_one _]
def BA(h:bM s):av (List.replicate s.2.natAbs (sZ s))=gw s:=by
 obtain⟨b,k⟩:=s;have hk:k≠0:=h.2;cases b with
 |true =>
  unfold sZ;rw[yP];apply T4.ext'<;>simp[gw];split<;>lk
 |false =>
  have h1:=h.1 rfl;simp only at h1;have e:sZ (false,k)=(false,1):=by unfold sZ;rw[if_pos (by show 0<k;lk)]
  rw[e,yQ];show qp k.natAbs=qp k.toNat
  congr 1
  lk
def ZG(hw:∀s∈w,bM s):av (nO w)=av w:=by
 induction w with
 |nil=>rfl
 |cons s w ih =>
  have e:nO (s :: w)=List.replicate s.2.natAbs (sZ s) ++ nO w:=by unfold nO;simp
  rw[e,qY,ih λt ht=>hw t (Zal _ ht),BA (hw s Zai),MT]
abbrev FD(s:Sp):Prop:=s.2=1\/(s.1=true/\s.2=-1)
def TB(hw:∀s∈w,bM s):∀s∈nO w,FD s:=λs hs=>by
 unfold nO at hs;obtain⟨l,hl,hs⟩:=List.mem_flatten.mp hs;obtain⟨x,hx,rfl⟩:=Zaw.mp hl;rw[(List.mem_replicate.mp hs).2];have h:=hw x hx;unfold sZ FD;dsimp only;by_cases h0:0<x.2;rw[if_pos h0];exact .inl rfl;rw[if_neg h0];refine .inr ⟨?_,rfl⟩;cases hb:x.1 with
 |true=>rfl
 |false=>have:=h.1 hb;lk
def NX(w:List Sp):(nO w).length=cst w:=by
 unfold nO cst;rw[List.length_flatten,ZaC]
 congr 1
 refine ZaO λs _=>?_;show(List.replicate _ _).length=_;rw[Zbd]
abbrev tf(C:CS)(t:jv):T4:=av (ux C t)
abbrev tZ(C:CS)(P:List jv)(q:Nat×Int):T4:=if q.2<0 then(tf C (P.getD q.1 (0,(true,1),0))).nW else tf C (P.getD q.1 (0,(true,1),0))
abbrev qo(C:CS)(P:List jv)(l:List (Nat×Int)):T4:=l.foldl (λT q=>(tZ C P q).mul T) T4.one
def FE(C:CS)(P:List jv)(l:List (Nat×Int))(q:Nat×Int):qo C P (l ++ [q])=(tZ C P q).mul (qo C P l):=by unfold qo;rw[Za6];rfl
abbrev pF(C:CS)(i:Nat):T4:=av (o8 C i)
section
variable {n N:Nat}{p:aJ}{C:CS}
def FF(F:Full n p C N)(hi:i<N):∀s∈o8 C i,bM s:=λs hs=>((Bx F hi).1 s hs).1
def TC(F:Full n p C N)(hi:i<N):(pF C i).mul (pF C i).nW=T4.one/\(pF C i).nW.mul (pF C i)=T4.one:=CI (xh (FF F hi))
def TF(F:Full n p C N)(hi:i<N)(hj:nA C i b<N):tf C (i,(b,1),nA C i b)=(pF C (nA C i b)).nW.mul ((gw (b,1)).mul (pF C i)):=by show av (o8 C i ++ [(b,1)] ++ eV (o8 C (nA C i b)))=_;rw[qY,tJ,Ao (FF F hj)];rfl
def FG(F:Full n p C N)(hi:i<N)(b:Bool):nA C i b<N:=by unfold nA;cases b;exact(Fy F hi).2;exact(Fy F hi).1
def BB(F:Full n p C N)(hi:i<N)(b:Bool)(X:T4):(pF C (nA C i b)).mul ((tf C (i,(b,1),nA C i b)).mul X)=(gw (b,1)).mul ((pF C i).mul X):=by have hj:=FG F hi b;rw[TF F hi hj,T4.assoc,<- T4.assoc,(TC F hj).1,T4.one_mul,T4.assoc]
def ZH(x:T4):x.nW.nW=x:=by apply T4.ext'<;>simp[T4.nW]
def BD(F:Full n p C N)(hi:i<N)(b:Bool)(X:T4):(pF C i).mul ((tf C (i,(b,1),nA C i b)).nW.mul X)=(gw (b,1)).nW.mul ((pF C (nA C i b)).mul X):=by have hj:=FG F hi b;rw[TF F hi hj,T4.qe,T4.qe,ZH,T4.assoc,T4.assoc,<- T4.assoc (pF C i),(TC F hi).1,T4.one_mul]
end
abbrev vK:=Nat->Bool->Option Nat
abbrev tj(C:CS)(nm:vK)(bk:Nat->Nat)(x:Nat×List (Nat×Int))(s:Sp):Nat×List (Nat×Int) :=
 if s.2=-1 then(bk x.1,match nm (bk x.1) s.1 with|some m=>x.2 ++ [(m,-1)]|none=>x.2)
 else(nA C x.1 s.1,match nm x.1 s.1 with|some m=>x.2 ++ [(m,1)]|none=>x.2)
structure FH(C:CS)(N:Nat)(nm:vK):Prop where
 yes:∀i b m,nm i b=some m->∃t,(bj C N).2[m]?=some t/\t.1=i/\t.2.1.1=b
 no:∀i b,nm i b=none->∀t∈(bj C N).2,¬(t.1=i/\t.2.1.1=b)
def BE(n0:0<n)(w:Wh n p)(F:Full n p (ch n p N) N)(pr:∀j,j<N->j<(ch n p j).1.length)(K:FH (ch n p N) N nm)(hb:∀i,i<N->bk i<N/\nA (ch n p N) (bk i) true=i)(hx:x.1<N)(hs:FD s)(hq:∀q∈x.2,q.1<(bj (ch n p N) N).2.length/\(q.2=1\/q.2=-1))(e:(pF (ch n p N) x.1).mul (qo (ch n p N) (bj (ch n p N) N).2 x.2)=av u):
  (tj (ch n p N) nm bk x s).1<N/\(∀q∈(tj (ch n p N) nm bk x s).2,q.1<(bj (ch n p N) N).2.length/\(q.2=1\/q.2=-1))/\(pF (ch n p N) (tj (ch n p N) nm bk x s).1).mul (qo (ch n p N) (bj (ch n p N) N).2 (tj (ch n p N) nm bk x s).2)=av (u ++ [s]):=by
 have J9:∀{i m:Nat} {b:Bool},nm i b=some m->m<(bj (ch n p N) N).2.length/\(bj (ch n p N) N).2.getD m (0,(true,1),0)=(i,(b,1),nA (ch n p N) i b):=λ{i m b} h=>by
  obtain⟨t,h1,rfl,rfl⟩:=K.yes _ _ _ h;refine⟨(Zab.mp h1).1,?_⟩;rw[Zae,h1];obtain⟨_,h3,h4⟩:=NW (ch n p N) N N (Zad _) t (Zaj h1);obtain⟨i,⟨b,k⟩,r⟩:=t;simp only at h3 h4 ⊢;rw[h3,h4];rfl
 have TH:∀{i:Nat} {b:Bool},i<N->nm i b=none->pF (ch n p N) (nA (ch n p N) i b)=(gw (b,1)).mul (pF (ch n p N) i):=λ{i b} hi h=>by
  have:=ZE n0 w F pr hi b λz=>K.no i b h _ z ⟨rfl,rfl⟩;unfold pF;rw[this,tJ]
 rw[tJ,<- e];unfold tj;by_cases h1:s.2=-1;obtain⟨b,k⟩:=s;simp only at h1;subst h1;obtain rfl:b=true:=by
  rcases hs with h|⟨h,_⟩
  exact absurd (show(-1:Int)=1 from h) ∅;exact h
 rw[if_pos rfl];obtain⟨b1,b2⟩:=hb x.1 hx;have eS:(gw ((true,1):Sp)).nW=gw (true,-1):=by apply T4.ext'<;>simp[T4.nW,gw]
 refine⟨b1,?_,?_⟩;dsimp only;cases hn:nm (bk x.1) true with
 |none=>exact hq
 |some m =>
  intro q hq';rcases Zax.mp hq' with h|h
  exact hq q h;rw[Zav.mp h];exact⟨(J9 hn).1,.inr rfl⟩
 dsimp only;cases hn:nm (bk x.1) true with
 |none =>
  have:=TH b1 hn;rw[b2]at this;rw[<- eS,this,<- T4.assoc,<- T4.assoc];rw[show(gw ((true,1):Sp)).nW.mul (gw (true,1))=T4.one by apply T4.ext'<;>simp[T4.mul,T4.nW,gw,T4.one],T4.one_mul]
 |some m =>
  dsimp only;rw[FE,<- eS];have:=BD F b1 true (qo (ch n p N) (bj (ch n p N) N).2 x.2);rw[b2]at this;unfold tZ;rw[if_pos (show(-1:Int)<0 by decide),(J9 hn).2,b2];exact this
 have h2:s.2=1:=by
  rcases hs with h|⟨_,h⟩
  exact h;exact absurd h h1
 obtain⟨b,k⟩:=s;simp only at h2 h1;subst h2;rw[if_neg h1];refine⟨FG F hx b,?_,?_⟩;dsimp only;cases hn:nm x.1 b with
 |none=>exact hq
 |some m =>
  intro q hq';rcases Zax.mp hq' with h|h
  exact hq q h;rw[Zav.mp h];exact⟨(J9 hn).1,.inl rfl⟩
 dsimp only;cases hn:nm x.1 b with
 |none=>rw[TH hx hn,T4.assoc]
 |some m =>
  dsimp only;rw[FE];unfold tZ;rw[if_neg (show ¬(1:Int)<0 by decide),(J9 hn).2];exact BB F hx b _
section
variable {n N:Nat}{p:aJ}{C:CS}
def Ka(n0:0<n)(w:Wh n p)(hu:∀s∈u,bM s)(hv:∀s∈v,bM s)(e:av u=av v):aU n (df p u)=aU n (df p v):=yq n0 (w.ld n0 (w:=u)).v (MU hu hv e w.v)
def NY(n0:0<n)(w:Wh n p)(F:Full n p C N)(hi:i<N):∃q,C.1[i]?=some q/\aU n (df p (o8 C i))=q:=by
 have hl:i<C.2.1.length:=by rw[F.r.wl,F.fl];exact hi
 have e:C.2.1[i]?=some (o8 C i):=by unfold o8;rw[Zae,Zac hl];rfl
 obtain⟨_,_,_,q,hq,a⟩:=F.r.wd i _ e;exact⟨q,hq,(yq n0 (w.ld n0 (w:=o8 C i)).v a).trans (F.r.own q (Zaj hq)).2⟩
def NZ(n0:0<n)(w:Wh n p)(h:aU n (df p u)=aU n p):aU n (df p (u ++ v))=aU n (df p v):=by rw[Au,<- J4 n0 (w.ld n0 (w:=u)) v,h,J4 n0 w v]
def ZI(n0:0<n)(w:Wh n p)(hu:∀s∈u,bM s)(h:aU n (df p u)=aU n p):aU n (df p (eV u))=aU n p:=by
 have e:aU n (df p (u ++ eV u))=aU n (df p []):=Ka n0 w (λs hs=>by
  rcases Zax.mp hs with h|h
  exact hu s h
  exact xg hu s h) (λs hs=>nomatch hs) (by rw[qY,Ao hu,(CI (xh hu)).2];rfl)
 rw[NZ n0 w h]at e;exact e
def yR(F:Full n p C N)(ht:t∈(bj C N).2):∀s∈ux C t,bM s:=λs hs=>((Tj F ((Bw F N (Zad _)).1 t ht)).1 s hs).1
def ZJ(n0:0<n)(w:Wh n p)(F:Full n p C N)(ht:t∈(bj C N).2):aU n (df p (ux C t))=aU n p:=by
 obtain⟨h1,h2,h3⟩:=NW C N N (Zad _) t ht;obtain⟨i,⟨b,k⟩,r⟩:=t;simp only at h1 h2 h3;subst h2 h3;have hj:=FG F h1 b;obtain⟨q,hq,eq⟩:=NY n0 w F h1;obtain⟨q',hq',eq'⟩:=NY n0 w F hj;have wi:=w.ld n0 (w:=o8 C i);have hl:i<C.2.2.length:=by rw[F.ll];exact h1
 have el:C.2.2[i]?=some (iK C i):=by unfold iK;rw[Zae,Zac hl];rfl
 obtain⟨q2,e1,e2,e3⟩:=F.ld i _ el;rw[hq]at e1;cases e1;have st:aU n (df p (o8 C i ++ [(b,1)]))=aU n (df p (o8 C (nA C i b))):=by
  rw[eq',Au];show aU n (stM (df p (o8 C i)) (b,1))=q';rw[<- FA n0 wi,eq];cases b with
  |true=>have:C.1[(iK C i).1]?=some q':=hq';rw[e2]at this;exact Zao this
  |false=>have:C.1[(iK C i).2]?=some q':=hq';rw[e3]at this;exact Zao this
 have pj:=FF F hj;show aU n (df p (o8 C i ++ [(b,1)] ++ eV (o8 C (nA C i b))))=_;rw[Au,<- J4 n0 (w.ld n0 (w:=o8 C i ++ [(b,1)])),st,J4 n0 (w.ld n0 (w:=o8 C (nA C i b))),<- Au]
 exact Ka n0 w (v:=[]) (λs hs=>by
  rcases Zax.mp hs with h|h
  exact pj s h
  exact xg pj s h) (λs hs=>nomatch hs) (by rw[qY,Ao pj,(CI (xh pj)).2];rfl)
def TJ(n0:0<n)(w:Wh n p)(F:Full n p C N):∀(m:List (Nat×Int)),(∀q∈m,q.1<(bj C N).2.length)->∃u:List Sp,(∀s∈u,bM s)/\av u=qo C (bj C N).2 m.reverse/\aU n (df p u)=aU n p
 |[],_=>⟨[],(λs hs=>nomatch hs),rfl,rfl⟩
 |q :: m,h=>by
  obtain⟨u,hu,eu,hm⟩:=TJ n0 w F m λx hx=>h x (Zal _ hx);have hq:=h q Zai;rw[ZbH];generalize m.reverse=l at eu ⊢;have ht:(bj C N).2.getD q.1 (0,(true,1),0)∈(bj C N).2:=by
   rw[Zae,Zac hq];exact Zbl hq
  have hp:=yR F ht;have hh:=ZJ n0 w F ht;have app:∀{v:List Sp},(∀s∈v,bM s)->aU n (df p v)=aU n p->av v=tZ C (bj C N).2 q->∃u:List Sp,(∀s∈u,bM s)/\av u=qo C (bj C N).2 (l ++ [q])/\aU n (df p u)=aU n p:=λ{v} h1 h2 h3=>⟨u ++ v,λs hs=>(Zax.mp hs).elim (hu s) (h1 s),by rw[qY,h3,eu,FE],by rw[NZ n0 w hm,h2]⟩;by_cases hs:q.2<0;exact app (xg hp) (ZI n0 w hp hh) (by unfold tZ;rw[if_pos hs,Ao hp];rfl);exact app hp hh (by unfold tZ;rw[if_neg hs];rfl)
def TK(n0:0<n)(w:Wh n p)(F:Full n p C N)(h:∀q∈l,q.1<(bj C N).2.length):∃u:List Sp,(∀s∈u,bM s)/\av u=qo C (bj C N).2 l/\aU n (df p u)=aU n p:=by
 have:=TJ n0 w F l.reverse λq hq=>h q (ZaR.mp hq)
 rwa [Zce]at this
def ZK(n0:0<n)(w:Wh n p)(F:Full n p C N)(hr:r<N)(hl:∀q∈l,q.1<(bj C N).2.length)(hv:∀s∈v,bM s)(e:(pF C r).mul (qo C (bj C N).2 l)=av v):r=0↔aU n (df p v)=aU n p:=by obtain⟨u,hu,eu,hm⟩:=TK n0 w F hl;have pr:=FF F hr;have e1:aU n (df p v)=aU n (df p (u ++ o8 C r)):=Ka n0 w hv (λs hs=>(Zax.mp hs).elim (hu s) (pr s)) (by rw[qY,eu,<- e];rfl);obtain⟨q,hq,eq⟩:=NY n0 w F hr;rw[NZ n0 w hm,eq]at e1;rw[e1];constructor;rintro rfl;rw[F.r.hd]at hq;exact(Zao hq).symm;rintro rfl;obtain⟨g1,g2⟩:=Zab.mp hq;obtain⟨g3,g4⟩:=Zab.mp F.r.hd;refine Classical.byContradiction λz=>?_;exact Za4.mp F.r.nd 0 r g3 g1 ⋯ (by rw[g2,g4])
def TL(n:Nat)(p:aJ):pF (ch n p N) 0=T4.one:=by have e:=By (CY n p 0 N).1 (i:=0) (x:=[]) rfl;rw[ZbB]at e;unfold pF o8;rw[Zae,e];rfl
end
abbrev t6(P:List jv):Nat->vK
 |0=>λ_ _=>none
 |m+1=>λi b=>if(P.getD m (0,(true,1),0)).1=i/\(P.getD m (0,(true,1),0)).2.1.1=b then some m else t6 P m i b
def TM(P:List jv):∀k,k<=P.length->∀i b m,t6 P k i b=some m->∃t,P[m]?=some t/\t.1=i/\t.2.1.1=b
 |0,_,i,b,m,h=>by cases h
 |k+1,hk,i,b,m,h=>by
  unfold t6 at h;split at h
  ·next e =>
   cases h;exact⟨_,by rw[Zae,Zac ⋯];rfl,e⟩
  ·exact TM P k ⋯ i b m h
def TN(P:List jv):∀k,k<=P.length->∀i b,t6 P k i b=none->∀j t,j<k->P[j]?=some t->¬(t.1=i/\t.2.1.1=b)
 |0,_,i,b,_,j,t,hj,_=>absurd hj (ZaV _)
 |k+1,hk,i,b,h,j,t,hj,ht=>by
  unfold t6 at h;split at h
  ·cases h
  ·next e =>
   by_cases hjk:j=k
   ·subst hjk
    rw[Zae,ht]at e;exact e
   ·exact TN P k ⋯ i b h j t ⋯ ht
def BF(C:CS)(N:Nat):FH C N (t6 (bj C N).2 (bj C N).2.length):=⟨λi b m h=>TM _ _ (Zad _) i b m h,λi b h t ht=>by
 obtain⟨j,hj⟩:=Zbw ht
 exact TN _ _ (Zad _) i b h j t (Zab.mp hj).1 hj⟩
def TQ:∀{w l:List Sp},Pl l->(∀s∈w,bM s)->cst (w.foldl bB l)<=cst l+cst w
 |[],l,_,_=>by show cst l<=_;unfold cst;simp
 |s :: w,l,hl,hw=>by
  have hs:=hw s Zai;have h1:=To hl hs;have h2:=TQ (hl.push hs) λt ht=>hw t (Zal _ ht);rw[tW];show cst (w.foldl bB (bB l s))<=_;lk
def ZL(hw:∀s∈w,bM s):cst (gY w)<=cst w:=by have:=TQ (l:=[]) trivial hw;rw[show cst []=0 from rfl,ZbB]at this;exact this
def TR:∀{w:List Sp},(∀s∈w,s.2.natAbs<=B)->cst w<=w.length*B
 |[],_=>ZaJ _
 |s :: w,h=>by
  rw[tW,ZaE,Nat.add_mul,Nat.one_mul];have:=TR (w:=w) λt ht=>h t (Zal _ ht);have:=h s Zai;lk
def BG{U T:T4}{u:Int}{r:Nat}(hT:T.le 1000)(hd:T.a*T.d-T.b*T.c=1)(hU:U.a*U.d-U.b*U.c=1)(h0:U.c*T.a+U.d*T.c=0)(ba:U.a.natAbs<=max 1 U.c.natAbs)(bb:U.b.natAbs<=max 1 U.d.natAbs):(U.mul T).b.natAbs<=1001:=by
 obtain⟨h1,h2,h3,h4⟩:=hT;have hA:(U.mul T).a*(U.mul T).d=1:=by
  have:=Rw U T;rw[hU,hd]at this;have hc:(U.mul T).c=0:=h0;rw[hc,Int.mul_zero,Int.sub_zero]at this;exact this
 have e:=congrArg (λX=>T4.mul U.nW X) (rfl:U.mul T=U.mul T);have e1:U.nW.mul (U.mul T)=T:=by rw[<- T4.assoc,(CI hU).2,T4.one_mul]
 have hc:(U.mul T).c=0:=h0;generalize U.mul T=A at hA e1 hc ⊢;have eb:U.d*A.b + -U.b*A.d=T.b:=congrArg T4.b e1;have ed:-U.c*A.b+U.a*A.d=T.d:=congrArg T4.d e1;have hd1:A.d.natAbs=1:=by
  rcases Rr hA with⟨_,h⟩|⟨_,h⟩<;>rw[h]<;>rfl
 have nb:(U.b*A.d).natAbs=U.b.natAbs:=by rw[Za2,hd1,Nat.mul_one]
 have na:(U.a*A.d).natAbs=U.a.natAbs:=by rw[Za2,hd1,Nat.mul_one]
 by_cases z:U.d=0;rw[z,Int.mul_zero,Int.zero_sub]at hU;have hc1:U.c.natAbs=1:=by
  have:(U.b*U.c).natAbs=1:=by lk
  rw[Za2]at this;exact Nat.eq_one_of_mul_eq_one_left this
 have e2:(U.c*A.b).natAbs=A.b.natAbs:=by rw[Za2,hc1,Nat.one_mul]
 rw[Zbh]at ed;lk;have hd0:1<=U.d.natAbs:=by lk
 have e2:(U.d*A.b).natAbs=U.d.natAbs*A.b.natAbs:=Za2 _ _;rw[Zbh]at eb;have h5:U.d.natAbs*A.b.natAbs<=1000+U.d.natAbs:=by lk
 refine Nat.le_of_mul_le_mul_left (Zap h5 ?_) hd0;have:U.d.natAbs*1001=U.d.natAbs*1000+U.d.natAbs:=by lk
 rw[this];have:1000<=U.d.natAbs*1000:=by lk
 lk
def ZM(hT:T.le 1000)(hd:T.a*T.d-T.b*T.c=1)(hg:∀s∈g,bM s)(hb:∀s∈g,s.2.natAbs<=1001)(h0:(av g).c*T.a+(av g).d*T.c=0)(bv:Bv g u 0 r):cst (gY (oZ ((av g).mul T) ++ eV g))<=1003+g.length*1001:=by
 have h1:=BG (u:=u) (r:=r) hT hd (xh hg) h0 bv.ba bv.bb;have h2:cst (eV g)<=g.length*1001:=by
  have:=TR (B:=1001) (w:=eV g) λs hs=>by
   unfold eV at hs;obtain⟨x,hx,rfl⟩:=Zaw.mp (ZaR.mp hs);exact Ti (hg x hx) (hb x hx) ∅
  rwa [show(eV g).length=g.length by unfold eV;rw[ZaL,Zaa]]at this
 have h3:cst (oZ ((av g).mul T))<=1003:=by
  generalize (av g).mul T=A at h1;have sh:∀k:Int,cst (rF k)<=k.natAbs:=λk=>by
   unfold rF;split;exact ZaJ _;rw[tW];exact Zad _
  unfold oZ;split
  have:=sh A.b;lk
  rw[tW]
  have:=sh (-A.b);rw[Zbn]at this;show 2+cst (rF (-A.b))<=_;lk
 refine Zap (ZL λs hs=>?_) ?_;rcases Zax.mp hs with h|h
 exact MY _ s h;exact xg hg s h;rw[J8];lk
def BH(hw:∀s∈w,bM s):cst (eV w)<=3*cst w:=by
 unfold eV;rw[J5]
 induction w with
 |nil=>exact ZaJ _
 |cons s w ih =>
  rw[Zaz,tW,tW];have:=ih λt ht=>hw t (Zal _ ht);have hs:=hw s Zai;have h1:(m8 s).2.natAbs<=3*s.2.natAbs:=by
   unfold m8;cases hb:s.1 with
   |true=>simp only[if_true];rw[Zbn];lk
   |false =>
    have:=hs.1 hb;simp only[Za9,if_false];lk
  lk
end ae
namespace L4
open PySem PySem.Spec L2
section
variable {K:Zfr}
def ZN(ha:qZ K ta fa)(hn:∀δ st as st',fa δ st=some (as,st')->as.length=m)(hm:m+pL.length=n)(hd:∀ρ H,cC K ρ H pL Kb):dI K (qQ (a8 K n F) pL E ta) (aD (λas=>F (as ++ Kb)) fa):=by intro ρ σ H δ st b st' Q l rs e q;obtain⟨as,st1,e1,e⟩:=cQ e;refine ha ρ σ H δ st as st1 _ l rs e1 λvs H1 ρ1 m1 l1 r1=>⟨?_,ρ1,st1,as ++ Kb,b,st',l1,?_,e,λv H3 ρ3 m3 l3 r3=>q v H3 ρ3 (m1.trans m3) l3 r3⟩;rw[Zaf,r1.length,hn _ _ _ _ e1];exact hm;exact r1.append (hd _ _)
end
end L4
namespace L4
open PySem PySem.Spec PyProof.Rows L2
end L4
namespace L2
open PySem PySem.Spec PyProof.Rows
abbrev yS(t t':TI):TI:=λσ H R=>t σ H R\/t' σ H R
def BI(h:PI X tg l t)(h':PI X tg l t'):PI X tg l (yS t t'):=λpins s σ H R I q=>q.elim (h pins s σ H R I) (h' pins s σ H R I)
end L2
namespace L4
open PySem PySem.Spec L2
abbrev o9(f f':ai->Dm Src):ai->Dm Src:=λδ st=>match f δ st with
 |some r=>some r
 |none=>f' δ st
def TU(h:vB K t f)(h':vB K t' f'):vB K (yS t t') (o9 f f'):=by
 intro ρ σ H δ st b st' Q l rs e q;unfold o9 at e;split at e
 ·next r hr=>exact .inl (h ρ σ H δ st b st' Q l rs (hr.trans e) q)
 ·exact .inr (h' ρ σ H δ st b st' Q l rs e q)
def ZO(h:δ[j]?=some (some (.ref k)))(hd:items st k=some ds)(q:R (.live k) st):Wp (o9 (cS (ag j)) (bP (ag j)) δ st) R:=by
 have a:Wp (cS (ag j) δ st) λS s=>S=.live k/\s=st:=by
  rw[Nq,AO];exact⟨_,h,_,_,rfl,hd,rfl,rfl⟩
 obtain⟨S,s,e,rfl,rfl⟩:=a;refine⟨_,_,?_,q⟩;unfold o9;rw[e]
def ZP(h:δ[j]?=some (some (.tup ds)))(q:R (.fix ds) st):Wp (o9 (cS (ag j)) (bP (ag j)) δ st) R:=by
 have a:Wp (bP (ag j) δ st) λS s=>S=.fix ds/\s=st:=by
  rw[Np,AO];exact⟨_,h,_,rfl,rfl,rfl⟩
 obtain⟨S,s,e,rfl,rfl⟩:=a;refine⟨_,_,?_,q⟩;have n:cS (ag j) δ s=none:=by
  unfold cS ag;rw[h];rfl
 unfold o9;rw[n];exact e
abbrev vL:List D->Option (List Key)
 |[]=>some []
 |d :: r=>match keyOf d,vL r with
  |some k,some l=>some (k :: l)
  |_,_=>none
abbrev lj(st:Store):D->Option (List (List Key×D))
 |.ref i=>match st[i]? with
  |some (.qH kvs)=>some kvs
  |_=>none
 |_=>none
abbrev mL(kvs:List (List Key×D))(k:List Key):Option D:=(kvs.find? λkv=>decide (kv.1=k)).map (·.2)
abbrev ow(kvs:List (List Key×D))(k:List Key)(v:D):List (List Key×D) :=
 if(kvs.any λkv=>decide (kv.1=k))=true then kvs.map (λkv=>if kv.1=k then(kv.1,v)else kv)else kvs ++ [(k,v)]
def N2(h:st[i]?=some (.qH kvs)):lj st (.ref i)=some kvs:=by simp only[lj,h]
section
variable {K:Zfr}{ρ:List Addr}{H:Hp}{st:Store}
def N3(r:cC K ρ H vs ds):∀{k:List Key},vL ds=some k->vs=k.map kV:=by
 induction ds generalizing vs with
 |nil=>intro k h;cases r;cases h;rfl
 |cons d ds ih =>
  intro k h;cases r with
  |cons r1 r2 =>
   rw[vL]at h;cases hd:keyOf d with
   |none=>rw[hd]at h;cases h
   |some y =>
    cases hk:vL ds with
    |none=>rw[hd,hk]at h;cases h
    |some l =>
     rw[hd,hk]at h;cases h;rw[uO r1 hd,ih r2 hk];rfl
def N4(l:Rl K ρ H st)(r:Rp K ρ H x a)(h:lj st a=some kvs):∃p i ws,x=.ref p/\a=.ref i/\ρ[i]?=some p/\st[i]?=some (.qH kvs)/\H p=some (.dT ws)/\Rt K ρ H ws kvs:=by
 cases r<;>first|(cases h;done)|skip
 next hi =>
  simp only[lj]at h;split at h
  ·next kvs' hs =>
   cases h;obtain⟨ws,e,r⟩:=l.obj _ _ _ hi hs;exact⟨_,_,ws,rfl,rfl,hi,hs,e,r⟩
  ·cases h
def Rt.val(r:Rt K ρ H ws kvs)(k:List Key):(∀d,mL kvs k=some d->∃v,jK ws k=some v/\Rp K ρ H v d)/\(jK ws k).isSome=(mL kvs k).isSome:=by
 induction r with
 |nil=>exact⟨λd h=>(by cases h),rfl⟩
 |@cons p q ps qs h t ih =>
  unfold mL jK at ih ⊢;rw[ZaU,ZaU];by_cases e:p.1=k;rw[decide_eq_true e,decide_eq_true (h.1 ▸ e)];exact⟨λd hd=>by cases hd;exact⟨_,rfl,h.2⟩,rfl⟩;rw[decide_eq_false e,decide_eq_false (h.1 ▸ e)];exact ih
def Rt.any(r:Rt K ρ H ws kvs)(k:List Key):(ws.any λkv=>decide (kv.1=k))=kvs.any λkv=>decide (kv.1=k):=by
 induction r with
 |nil=>rfl
 |cons h _ ih=>rw[Za1,Za1,ih,h.1]
def Rt.app(r:Rt K ρ H ws kvs)(r':Rt K ρ H xu kvs'):Rt K ρ H (ws ++ xu) (kvs ++ kvs'):=by
 induction r with
 |nil=>exact r'
 |cons h _ ih=>exact .cons h ih
def Rt.put(r:Rt K ρ H ws kvs)(k:List Key)(rv:Rp K ρ H v d):Rt K ρ H (putK ws k v) (ow kvs k d):=by
 have hany:=r.any k;have hmap:Rt K ρ H (ws.map λkv=>if kv.1=k then(kv.1,v)else kv) (kvs.map λkv=>if kv.1=k then(kv.1,d)else kv):=by
  clear hany
  induction r with
  |nil=>exact .nil
  |@cons p q ps qs h _ ih =>
   refine .cons ?_ ih;dsimp only;by_cases e:p.1=k;rw[if_pos e,if_pos (h.1 ▸ e)];exact⟨h.1,rv⟩;rw[if_neg e,if_neg (h.1 ▸ e)];exact h
 unfold putK ow;rw[hany];split;exact hmap;exact r.app (.cons ⟨rfl,rv⟩ .nil)
def Rt.length{ws:List (List Key×V)}{kvs:List (List Key×D)}(r:Rt K ρ H ws kvs):ws.length=kvs.length:=by
 induction r with
 |nil=>rfl
 |cons _ _ ih=>rw[ZaE,ZaE,ih]
end
section
variable {K:Zfr}
abbrev vN:ai->Dm D:=λ_ st=>some (.ref st.length,st ++ [.qH []])
def TX:dI K uS vN:=by intro ρ σ H δ st b st' Q l rs e q;cases e;exactλp hp=>q _ _ _ (Mn.new hp) (l.new hp ⟨[],qL,.nil⟩) (.ref (newR l))
abbrev pd(fd:ai->Dm D)(fa:ai->Dm (List D)):ai->Dm D:=λδ st=>bnd (fd δ st) λx st1=>bnd (fa δ st1) λas st2=>match lj st2 x,vL as with
 |some kvs,some k=>if lim as.length=true then(mL kvs k).map λv=>(v,st2)else none
 |_,_=>none
def TY(hd:dI K td fd)(ha:qZ K ta fa):dI K (uP td (uL ta)) (pd fd fa):=by
 intro ρ σ H δ st b st' Q l rs e q;obtain⟨x,st1,e1,e⟩:=cQ e;obtain⟨as,st2,e2,e⟩:=cQ e;refine hd ρ σ H δ st x st1 _ l rs e1 λvx H1 ρ1 m1 l1 r1=>ha ρ1 σ H1 δ st1 as st2 _ l1 (rs.mn m1) e2 λvs H2 ρ2 m2 l2 r2=>?_;split at e
 ·next kvs k hx hk =>
  split at e
  ·next hl =>
   obtain⟨v,hv,ev⟩:=Zay.mp e;cases ev;obtain⟨p,i,ws,rfl,rfl,hi,hs,hp,rk⟩:=N4 l2 (r1.mn m2) hx;obtain⟨v',hv',rv⟩:=(rk.val k).1 _ hv;refine⟨by rw[r2.length];exact xj hl,λc hc=>?_⟩;have ne:p≠c:=λz=>by rw[z,hc]at hp;cases hp
   have m3:Mn K ρ2 H2 ρ2 (upd H2 c (.tup vs)):=Mn.same (gq.up hc);exact⟨p,v',rfl,by rw[<- hv'];exact mJ.t (by rw[jI ne];exact hp) (by rw[qL,N3 r2 hk]),q v' _ ρ2 ((m1.trans m2).trans m3) (l2.same (gq.up hc)) (rv.mn m3)⟩
  ·cases e
 ·cases e
abbrev si(fa:ai->Dm (List D))(j:Nat):ai->Dm D:=λδ st=>bnd (fa δ st) λas st1=>bnd (ag j δ st1) λx st2=>match lj st2 x,vL as with
 |some kvs,some k=>if lim as.length=true then some (.bl (mL kvs k).isSome,st2)else none
 |_,_=>none
def T1(ha:qZ K ta fa):dI K (D2 (uL ta) (uD j)) (si fa j):=by
 intro ρ σ H δ st b st' Q l rs e q;obtain⟨as,st1,e1,e⟩:=cQ e;obtain⟨x,st2,e2,e⟩:=cQ e;refine ha ρ σ H δ st as st1 _ l rs e1 λvs H1 ρ1 m1 l1 r1=>?_;unfold ag at e2;split at e2
 ·next d hd =>
  cases e2;obtain⟨vx,ev,rx⟩:=(rs.mn m1).2 j _ hd;split at e
  ·next kvs k hx hk =>
   split at e
   ·next hl =>
    cases e;obtain⟨p,i,ws,rfl,rfl,hi,hs,hp,rk⟩:=N4 l1 rx hx;refine⟨by rw[r1.length];exact xj hl,λc hc=>⟨_,ev,p,jK ws k,rfl,?_,?_⟩⟩
    ·have ne:p≠c:=λz=>by rw[z,hc]at hp;cases hp
     exact mJ.t (by rw[jI ne];exact hp) (by rw[qL,N3 r1 hk])
    ·rw[(rk.val k).2]
     exact q _ _ ρ1 (m1.trans (Mn.same (gq.up hc))) (l1.same (gq.up hc)) (.bl _)
   ·cases e
  ·cases e
 ·cases e2
abbrev tm(fd:ai->Dm D)(fa:ai->Dm (List D))(fv:ai->Dm D):ai->Dm Fl:=λδ st=>bnd (fv δ st) λv st1=>bnd (fd δ st1) λx st2=>bnd (fa δ st2) λas st3=>match x,lj st3 x,vL as with
 |.ref i,some kvs,some k=>if lim as.length=true/\lim kvs.length=true then some (.nx δ,st3.set i (.qH (ow kvs k v)))else none
 |_,_,_=>none
def T2(hd:dI K td fd)(ha:qZ K ta fa)(hv:dI K tv fv):qi K (uQ td (uL ta) tv) (tm fd fa fv):=by
 intro ρ σ H δ st fl st' E l rs e q;obtain⟨v,st1,e1,e⟩:=cQ e;obtain⟨x,st2,e2,e⟩:=cQ e;obtain⟨as,st3,e3,e⟩:=cQ e;refine hv ρ σ H δ st v st1 _ l rs e1 λvv H1 ρ1 m1 l1 r1=>hd ρ1 σ H1 δ st1 x st2 _ l1 (rs.mn m1) e2 λvx H2 ρ2 m2 l2 r2=>ha ρ2 σ H2 δ st2 as st3 _ l2 (rs.mn (m1.trans m2)) e3 λvs H3 ρ3 m3 l3 r3=>?_;obtain⟨i,rfl⟩:∃i,x=.ref i:=by
  cases x<;>first|exact⟨_,rfl⟩|(simp at e;done)|cases e
 cases hx:lj st3 (.ref i)with
 |none=>rw[hx]at e;cases e
 |some kvs =>
 cases hk:vL as with
 |none=>rw[hx,hk]at e;cases e
 |some k =>
  rw[hx,hk]at e;simp only at e;split at e
  ·next hl =>
   cases e;obtain⟨p,j,ws,rfl,ej,hi,hs,hp,rk⟩:=N4 l3 (r2.mn m3) hx;cases ej;refine⟨by rw[r3.length];exact xj hl.1,λc hc=>?_⟩;have ne:p≠c:=λz=>by rw[z,hc]at hp;cases hp
   have mc:Mn K ρ3 H3 ρ3 (upd H3 c (.tup vs)):=Mn.same (gq.up hc);have T3:upd H3 c (.tup vs) p=some (.dT ws):=by rw[jI ne];exact hp
   have lc:Rl K ρ3 (upd H3 c (.tup vs)) st3:=l3.same (gq.up hc);have m4:Mn K ρ3 (upd H3 c (.tup vs)) ρ3 (upd (upd H3 c (.tup vs)) p (.dT (putK ws k vv))):=Mn.ow T3;have l4:=lc.put (o':=.qH (ow kvs k v)) (ho:=.dT (putK ws k vv)) hi hs rfl rfl m4 ⟨_,qL,((rk.mn mc).put k (r1.mn ((m2.trans m3).trans mc))).mn m4⟩;have mm:=(((m1.trans m2).trans m3).trans mc).trans m4;exact⟨p,_,rfl,qU.t T3 (by rw[qL,N3 r3 hk]) (by rw[rk.length];exact JI hl.2),q σ _ ρ3 mm l4 (rs.mn mm)⟩
  ·cases e
end
section
variable {st:Store}{δ:ai}{Q:D->Store->Prop}
def zdt:Wp (vN δ st) Q↔Q (.ref st.length) (st ++ [.qH []]):=aY
def ZQ(h:Wp (fd δ st) λx st1=>Wp (fa δ st1) λas st2=>∃kvs k v,lj st2 x=some kvs/\vL as=some k/\lim as.length=true/\mL kvs k=some v/\Q v st2):Wp (pd fd fa δ st) Q:=by unfold pd;rw[cT];refine aL h λx s h=>?_;rw[cT];refine aL h λas s2 h=>?_;obtain⟨kvs,k,v,h1,h2,h3,h4,q⟩:=h;rw[h1,h2];dsimp only;rw[if_pos h3,h4];exact aY.mpr q
def BJ(h:Wp (fa δ st) λas st1=>Wp (ag j δ st1) λx st2=>∃kvs k,lj st2 x=some kvs/\vL as=some k/\lim as.length=true/\Q (.bl (mL kvs k).isSome) st2):Wp (si fa j δ st) Q:=by unfold si;rw[cT];refine aL h λas s h=>?_;rw[cT];refine aL h λx s2 h=>?_;obtain⟨kvs,k,h1,h2,h3,q⟩:=h;rw[h1,h2];dsimp only;rw[if_pos h3];exact aY.mpr q
def ZR(h:Wp (fv δ st) λv st1=>Wp (fd δ st1) λx st2=>Wp (fa δ st2) λas st3=>∃i kvs k,x=.ref i/\lj st3 x=some kvs/\vL as=some k/\lim as.length=true/\lim kvs.length=true/\N δ (st3.set i (.qH (ow kvs k v)))):Ws (tm fd fa fv δ st) N B C R:=by unfold Ws tm;rw[cT];refine aL h λv st1 h=>?_;rw[cT];refine aL h λx st2 h=>?_;rw[cT];refine aL h λas st3 h=>?_;obtain⟨i,kvs,k,rfl,h1,h2,h3,h4,h⟩:=h;rw[h1,h2];simp only[h3,h4];exact aY.mpr h
end
def ZT(kvs:List (List Key×D))(k k':List Key)(v:D):mL (ow kvs k v) k'=if k=k' then some v else mL kvs k':=by
 unfold ow;split
 ·next h =>
  induction kvs with
  |nil=>cases h
  |cons x r ih =>
   unfold mL at ih ⊢;rw[Zaz,ZaU,ZaU];by_cases e:x.1=k
   ·rw[if_pos e]
    by_cases e2:k=k'
    ·rw[if_pos e2]
     have:decide ((x.1,v).1=k')=true:=decide_eq_true (e.trans e2);rw[this];rfl
    ·rw[if_neg e2]
     have a:decide ((x.1,v).1=k')=false:=decide_eq_false λz=>e2 (e.symm.trans z);have b:decide (x.1=k')=false:=decide_eq_false λz=>e2 (e.symm.trans z);rw[a];by_cases hr:(r.any λkv=>decide (kv.1=k))=true
     ·have:=ih hr;rw[if_neg e2]at this;exact this
     ·have er:(r.map λkv=>if kv.1=k then(kv.1,v)else kv)=r:=by
       refine(ZaO λy hy=>?_).trans (Zb1 r);rw[if_neg λz=>hr (Zcb.mpr ⟨y,hy,decide_eq_true z⟩)];rfl
      rw[er]
   ·rw[if_neg e]
    have hr:(r.any λkv=>decide (kv.1=k))=true:=by
     rw[Za1,decide_eq_false e,Bool.false_or]at h;exact h
    by_cases e3:x.1=k'
    ·rw[decide_eq_true e3,if_neg λz=>e (e3.trans z.symm)]
    ·rw[decide_eq_false e3]
     exact ih hr
 ·next h =>
  have no:∀y∈kvs,¬y.1=k:=λy hy z=>h (Zcb.mpr ⟨y,hy,decide_eq_true z⟩);unfold mL;rw[List.find?_append];by_cases e:k=k'
  ·subst e
   have:kvs.find? (λkv=>decide (kv.1=k))=none:=List.find?_eq_none.mpr λy hy=>by simpa using no y hy
   rw[this,if_pos rfl];show Option.map _ (Option.or none (List.find? _ [(k,v)]))=_;simp
  ·rw[if_neg e]
   have:List.find? (λkv:List Key×D=>decide (kv.1=k')) [(k,v)]=none:=by simp[e]
   rw[this,Option.or_none]
def ZU(kvs:List (List Key×D))(k:List Key)(v:D):(ow kvs k v).length<=kvs.length+1:=by unfold ow;split;rw[Zaa];lk;rw[Zaf];exact Zad _
end L4
namespace My
local macro_rules|`(tactic| w_up)=>`(tactic| first|exact .inl rfl|exact .inr rfl|assumption)
local macro_rules|`(tactic| w_fin)=>`(tactic| decide +kernel)
local macro_rules|`(tactic|walk)=>`(tactic|exact ⟨rfl,rfl,rfl,by w_fin,rfl,by w_fin,by w_fin⟩)
local macro_rules|`(tactic| k_lt $h)=>`(tactic| (refine L4.bE ?_;intro _ $h;set_option simprocs false in simp only[L4.bg]))
local macro_rules|`(tactic|exists $l,*)=>`(tactic|set_option simprocs false in simp only[L4.bg,$[$l:term],*])
local macro_rules|`(tactic| w_how)=>`(tactic| set_option simprocs false in simp only[L4.bg])
open PySem L2 L4
local macro_rules|`($a<|$b)=>`(@VL _ _ _ _ _ $a $b (by rfl))
local macro_rules|`($a<|>$b)=>`(@VA _ _ _ _ _ $a $b)
local macro_rules|`($a<*$b<*$c)=>`(@DQ _ _ _ _ _ _ _ $a $b $c (λ_ _=>rfl))
local macro_rules|`(~~~$a)=>`(@VB _ _ _ $a)
local macro_rules|`($a<*>$b<*>$c)=>`(@Du _ _ _ _ _ _ _ _ $a $b $c)
local macro_rules|`($a&&&$b&&&$c)=>`(@zB _ _ _ _ _ _ _ _ PassesOwn.never rfl $a $b $c (by intro _;rfl))
local macro_rules|`($a>>=$b>>=$c)=>`(@zA (i:=$a) _ _ _ _ _ _ (ax.nd $b) rfl (by w_up) $c (by rfl) (by w_up))
def ZV:∀δ st as st',ah δ st=some (as,st')->as.length=0:=λ_ _ _ _ h=>RF h
def yT:∀δ st as st',af f1 ah δ st=some (as,st')->as.length=1:=EN ZV
def rK:∀δ st as st',af f2 (af f1 ah) δ st=some (as,st')->as.length=2:=EN yT
def ZW:∀δ st as st',af f3 (af f2 (af f1 ah)) δ st=some (as,st')->as.length=3:=EN rK
def T5:∀δ st as st',af f4 (af f3 (af f2 (af f1 ah))) δ st=some (as,st')->as.length=4:=EN ZW
def bF{X:Cx}{k k':Nat}{f:Addr}{fd:FuncData}{ps:List Str}{sp:Sp}{x:Str}{st:Stmt}{e:Expr}{es:List Expr}{t:TA}{p pos:Pos}(F:aC X.prog X.w X.K X.mg X.base a6 k f fd ps sp)(D:Def X.K X.mg x st ps f fd)(hr:iL k' X.A)(hk:k<=k')(hg:Gl X x)(ha:PA X (e :: es) t)(hdb:(x == ("__debug__" : Str))=false:=by decide)(he:starEach (e :: es) X.env=(false,eval e X.env) :: starEach es X.env:=by rfl)(hpl:(backTo pos (starEach es X.env)).any (·.1)=false:=by rfl):PE X (.Call (.Name x p) (e :: es) [] pos) (qQ sp [] E0 t):=Pn F (hr.mono hk) hg D.m D.F.kp D.b .nil yb ha hdb he hpl
def wz{n:Nat}{us:List Value}(h:us.length=n+1):∃a t,us=a :: t/\t.length=n:=by cases us with|nil=>cases h|cons a t=>exact⟨a,t,rfl,Nat.succ.inj h⟩
def ot(k:∀x0,bindArgs fd ⟨[x0],[]⟩=pure [(p0,x0)])(us:List Value)(h:us.length=1):bindArgs fd ⟨us,[]⟩=pure ([p0].zip us):=by obtain⟨x0,t0,rfl,g1⟩:=wz h;cases Za5 g1;exact k x0
def nB(k:∀x0 x1,bindArgs fd ⟨[x0,x1],[]⟩=pure [(p0,x0),(p1,x1)])(us:List Value)(h:us.length=2):bindArgs fd ⟨us,[]⟩=pure ([p0,p1].zip us):=by obtain⟨x0,t0,rfl,g1⟩:=wz h;obtain⟨x1,t1,rfl,g2⟩:=wz g1;cases Za5 g2;exact k x0 x1
def ZX(k:∀x0 x1 x2,bindArgs fd ⟨[x0,x1,x2],[]⟩=pure [(p0,x0),(p1,x1),(p2,x2)])(us:List Value)(h:us.length=3):bindArgs fd ⟨us,[]⟩=pure ([p0,p1,p2].zip us):=by obtain⟨x0,t0,rfl,g1⟩:=wz h;obtain⟨x1,t1,rfl,g2⟩:=wz g1;obtain⟨x2,t2,rfl,g3⟩:=wz g2;cases Za5 g3;exact k x0 x1 x2
def ZY(k:∀x0 x1 x2 x3,bindArgs fd ⟨[x0,x1,x2,x3],[]⟩=pure [(p0,x0),(p1,x1),(p2,x2),(p3,x3)])(us:List Value)(h:us.length=4):bindArgs fd ⟨us,[]⟩=pure ([p0,p1,p2,p3].zip us):=by obtain⟨x0,t0,rfl,g1⟩:=wz h;obtain⟨x1,t1,rfl,g2⟩:=wz g1;obtain⟨x2,t2,rfl,g3⟩:=wz g2;obtain⟨x3,t3,rfl,g4⟩:=wz g3;cases Za5 g4;exact k x0 x1 x2 x3
local macro_rules|`(tactic| o_norm)=>`(tactic| repeat' (first|with_reducible (first|apply kU|apply uu|apply qf|apply jG|apply ER|apply xn|apply bG|apply kT|apply oi|apply M7|apply jO|apply RH|apply R3|apply tO|apply vz|apply RG|apply JJ|apply qg|apply RW|apply bD|apply RT|apply c5|apply uo|apply JM|apply AA|apply wo|apply RL|apply CO|apply RZ|apply oy|apply vw|apply xr|apply EX|apply r9|apply CQ|apply Nb|apply RQ|apply yE|apply AK|apply CP|apply R4|apply CM|apply RM|apply RU|apply yA|apply RK|apply RD|apply RE|apply ET|apply EZ|apply AJ|apply ur|apply AI|apply M3|apply M8|apply E1|apply SF|apply SY|apply R0|apply M6|apply JK|apply M1|apply M9|apply JH|apply SV|apply Ta|apply RA|apply SO|apply R1|apply Nd|apply Si|apply yx|apply Sk|apply Sl|apply yw|apply RJ|apply S9|apply SX|apply NN|apply Na|apply RS|apply yC|apply RI|apply TU|apply S8|apply RC|apply RB|apply NM|apply TX|apply T2|apply yz|apply RY|apply ND|apply Ss|apply Sr|apply Sq|apply T1|apply TY|apply Sj|exactλ_ _ _ _ h=>RF h|apply EN)|exact kT _|exact bG _|first|apply kU|apply uu|apply qf|apply jG|apply ER|apply xn|apply bG|apply kT|apply oi|apply M7|apply jO|apply RH|apply R3|apply tO|apply vz|apply RG|apply JJ|apply qg|apply RW|apply bD|apply RT|apply c5|apply uo|apply JM|apply AA|apply wo|apply RL|apply CO|apply RZ|apply oy|apply vw|apply xr|apply EX|apply r9|apply CQ|apply Nb|apply RQ|apply yE|apply AK|apply CP|apply R4|apply CM|apply RM|apply RU|apply yA|apply RK|apply RD|apply RE|apply ET|apply EZ|apply AJ|apply ur|apply AI|apply M3|apply M8|apply E1|apply SF|apply SY|apply R0|apply M6|apply JK|apply M1|apply M9|apply JH|apply SV|apply Ta|apply RA|apply SO|apply R1|apply Nd|apply Si|apply yx|apply Sk|apply Sl|apply yw|apply RJ|apply S9|apply SX|apply NN|apply Na|apply RS|apply yC|apply RI|apply TU|apply S8|apply RC|apply RB|apply NM|apply TX|apply T2|apply yz|apply RY|apply ND|apply Ss|apply Sr|apply Sq|apply T1|apply TY|apply Sj))
set_option hygiene false
local macro_rules|`($a|||$b|||$c:ident)=>`(by refine D.F.ok $a (λ_ _ _ _ h=>h.1) (λc A o s H v Q E hr h=>?_);have hu:=hr.units;refine⟨_,$b,?_⟩;exact eB (b:=$c) (by delta $c;o_norm) rfl h)
set_option hygiene true
local macro_rules|`(tactic|k_in)=>`(tactic|exact ⟨⟨rfl,by w_fin,by w_fin,by dsimp only[fV,aM,Cx.oA,Cx.wish,PyProof.Rows.envOfC,compEnvC,relabel,Env.kindOf];decide +kernel,by w_fin⟩,rfl⟩)
local macro_rules|`(#[$n])=>`(fC (.int $n))
local macro_rules|`(tactic|k_lt2 $h)=>`(tactic|(clear $h;k_lt $h))
local macro_rules|`(tactic|exists _,$h:ident,$l,*)=>`(tactic|(refine L4.bE ?_;intro _ $h;exists $l,*))
abbrev top(i:Nat):Stmt:=PySem.Challenge.pw_shearfloor_k66_whole_group_by_its_makers.main.body.getD i (.Pass ⟨0,0,0,0⟩)
@[reducible]def IV:=Nat->ai->Store->Prop
@[reducible]def IN:=ai->Store->Prop
def ie(h:let q:=R;Ws (b (ds.map some ++ List.replicate (n-ds.length) none) st) (λ_ st1=>q .non st1) (λ_ _=>False) (λ_ _=>False) q):Wp (dE n b ds st) R:=sS h
structure Txt(mg:Str->Option Value):Prop where
 yU:mg "abs" = none
 iQ:mg "enumerate" = none
 yV:mg "int" = none
 bH:mg "len" = none
 eK:mg "list" = none
 vO:mg "max" = none
 vP:mg "min" = none
 aV:mg "range" = none
 sj:mg "reversed" = none
 yW:mg "sum" = none
 a7:mg "tuple" = none
section
variable {P:Program}{w:World}{K:Zfr}{mg:Str->Option Value}{base:Heap}{f:Addr}{fd:FuncData}
abbrev FI:ai->Dm Fl :=
 (aq (dg (az (ao sQ (ao bO (ag 0) #[0]) #[0])) (aq (aB (ao kZ (ao bO (ag 0) #[0]) (ag 1)) (hName 2))
 (aq (aB (ao pQ (ao bO (ag 0) #[0]) (ag 1)) (hSub (ag 0) #[0]))
 (aN (ag 2)))) aK)
 (aq (aB (ao kZ (ao nY (ao bO (ag 0) #[1]) #[48271]) #[2147483647]) (hName 3))
 (aq (aB (ao cu (ao kZ (ao cu (ao nY (ag 3) #[40692]) #[30103]) #[2147483399]) #[1]) (hSub (ag 0) #[1]))
 (aN (ao kZ (ao pQ (ao cu (ao nY (ag 3) #[2147483647]) (ao bO (ag 0) #[1])) #[8191]) (ag 1))))))
abbrev qJ:List D->Dm D:=dE 4 FI
abbrev FJ:Stmt:=top 58
def N5:ax ["_law_feed_here","_law_many","_law_digit","_law_one"] ["_law_feed_here","_law_many"] (aj FJ):=by walk
abbrev Gx1:=λ(n:Str)(s:Stmt)(p:List Str)K mg=>Def K mg n s p
abbrev Gx2:=λ(p:List Str)(N n:Nat)F P w K mg base f d=>aC P w K mg base a6 N f d p (a8 K n F)
abbrev D10:=Gx1 "_law_take" FJ ["_law_feed_here","_law_many"]
abbrev G10:=Gx2 ["_law_feed_here","_law_many"] 1 2 qJ
def ZZ(D:D10 K mg f fd)(T:Txt mg):G10 P w K mg base f fd:=N5|||((eI xU (og<*pv 0<*aG) aG (aH _)<*>((2>>=N5>>=bq tF (og<*pv 0<*aG) (pv 1))<|>vX (bq LI (og<*pv 0<*aG) (pv 1)) (Cs (pv 0) aG Cw)<|>(~~~(@cN _ _ _ _ (pv 2))))<*>kQ)<|>(3>>=N5>>=bq tF (bq vY (og<*pv 0<*aG) aG) aG)<|>vX (bq mI (bq tF (bq mI (bq vY (pv 3) aG) aG) aG) aG) (Cs (pv 0) aG Cw)<|>(~~~(@cN _ _ _ _ (bq tF (bq LI (bq mI (bq vY (pv 3) aG) (og<*pv 0<*aG)) aG) (pv 1)))))|||FI
variable {j3:Addr}{j4:FuncData}(aP:D10 K mg j3 j4)(aS:G10 P w K mg base j3 j4)
abbrev FK:ai->Dm Fl :=
 (aq (aB (aD dc (af (aD iO (af (ag 1) ah)) ah)) (hName 2))
 (aq (aB (aX ah) (hName 3))
 (aq (fX (az (ao (eJ true) (ag 2) (b6 ah))) (aB (ao iN (ag 3) (aX (af (ju "list" nZ (ag 2) (af (aD qJ (af (ag 0) (af (aD cK (af (ag 2) ah)) ah))) ah)) ah))) (hName 3)))
 (aN (ag 3)))))
abbrev FL:List D->Dm D:=dE 4 FK
abbrev FN:Stmt:=top 59
def Kc:ax ["_law_feed_here","_law_n","_law_left","_law_found"] ["_law_feed_here","_law_n"] (aj FN):=by walk
abbrev D11:=Gx1 "_law_turning" FN ["_law_feed_here","_law_n"]
abbrev G11:=Gx2 ["_law_feed_here","_law_n"] 2 2 FL
include aP aS in
def Z0(D:D11 K mg f fd)(T:Txt mg):G11 P w K mg base f fd:=Kc|||((2>>=Kc>>=gj (wb rfl) (by rfl) T.eK tG (gj Jf (by rfl) T.aV vZ (pv 1<|au)<|au))<|>(3>>=Kc>>=(@dN _ _ _ _ _ au))<|>wK PassesOwn.never (eI (zU hu) (pv 2) (@kR _ _ _ _ au) (aH _)) (~~~(3>>=Kc>>=bq wa (pv 3) (@dN _ _ _ _ _ (oD PySem.F.plainAttrs_list PySem.F.slot_list_pop PySem.F.type_list_pop V4 (pv 2) (bF aS aP hr ∅ rfl (pv 0<|jF mF (by rfl) T.bH mG (pv 2<|au)<|au)<|au)<|au))))<|>(~~~(@cN _ _ _ _ (pv 3))))|||FK
variable {eZ:Addr}{fe:FuncData}(cD:D11 K mg eZ fe)(dj:G11 P w K mg base eZ fe)
abbrev FO:ai->Dm Fl :=
 (aq (aB (b6 (af #[0] ah)) (hName 1))
 (aq (b9 (bW (af (ao cu #[1] (aD cK (af (ao ay (ag 0) #[0]) ah))) ah)) (hName 2) (b9 (bP (ag 0)) (hName 3) (b9 (cS (aD pR (af (ag 1) ah))) (hName 4) (dg (az (ao (uq true) (ao ay (ag 3) (ag 4)) (ag 1))) (bu (ju "list" aI (ag 1) (af (ao ay (ag 3) (ag 4)) ah))) aK))))
 (aN (ag 1))))
abbrev BK:List D->Dm D:=dE 5 FO
abbrev FP:Stmt:=top 60
def FQ:ax ["_law_floor_here","_law_found","_law_turn","_law_turning_here","_law_one"] ["_law_floor_here"] (aj FP):=by walk
abbrev D12:=Gx1 "_law_met" FP ["_law_floor_here"]
abbrev G12:=Gx2 ["_law_floor_here"] 1 1 BK
def Z1(D:D12 K mg f fd)(T:Txt mg):G12 P w K mg base f fd:=FQ|||((1>>=FQ>>=(@kR _ _ _ _ (aG<|au)))<|>(rB rfl T.aV (bq mI aG (jF mF (by rfl) T.bH mG ((bA<*pv 0<*aG)<|au))<|au)&&&(cm (i:=2) FQ.nd rfl (by w_up))&&&(~~~(oS (pv 0)&&&(cm (i:=3) FQ.nd rfl (by w_up))&&&(~~~(Ct (gj LU (by rfl) T.eK tG (pv 1<|au))&&&(cm (i:=4) FQ.nd rfl (by w_up))&&&(~~~(eI IZ (bA<*pv 3<*pv 4) (pv 1) (by with_unfolding_all rfl)<*>(~~~pC (oD PySem.F.plainAttrs_list PySem.F.slot_list_append PySem.F.type_list_append p7 (pv 1) ((bA<*pv 3<*pv 4)<|au)))<*>kQ)))))))<|>(~~~(@cN _ _ _ _ (pv 1))))|||FO
variable {lQ:Addr}{lR:FuncData}(g5:D12 K mg lQ lR)(jQ:G12 P w K mg base lQ lR)
abbrev FR:ai->Dm Fl :=
 (aq (aB (aD qJ (af (ag 0) (af #[6] ah))) (hName 2))
 (aq (vA 3 4 (af (aD pR (af (aD FL (af (ag 0) (af (ag 1) ah))) ah)) (af (aD pR (af (aD FL (af (ag 0) (af (ag 1) ah))) ah)) ah)))
 (aq (dg (az (ao (iM false) (ag 2) #[0])) (aB (ao o3 (aD dc (af (aD eW (af #[1] (af (ag 1) ah))) ah)) (b6 (af #[0] ah))) (hName 3)) aK)
 (aq (dg (az (ao (iM false) (ag 2) #[1])) (vA 3 4 (af (aD dc (af (aD iO (af (ag 1) ah)) ah)) (af (ao o3 (aD dc (af (aD eW (af #[1] (af (ag 1) ah))) ah)) (b6 (af #[0] ah))) ah))) aK)
 (aq (dg (az (ao (iM false) (ag 2) #[2])) (aq (aB (ao cu #[1] (aD qJ (af (ag 0) (af (ag 1) ah)))) (hName 5))
 (aq (aB (ao o3 (ao o3 (aD dc (af (aD eW (af #[1] (af (ag 5) ah))) ah)) (b6 (af #[0] ah))) (aD dc (af (aD eW (af (ag 5) (af (ag 1) ah))) ah))) (hName 3))
 (aq (aB (CJ vt (ao o3 (ao o3 (ao o3 (b6 (af (ag 5) ah)) (aD dc (af (aD eW (af #[1] (af (ag 5) ah))) ah))) (aD dc (af (aD eW (af (ao cu (ag 5) #[1]) (af (ag 1) ah))) ah))) (b6 (af #[0] ah))) ny (pP (ag 1))) (hName 4))
 (dg (az (ao (iM false) (ag 5) (ag 1))) (aB (aD dc (af (aD iO (af (ag 1) ah)) ah)) (hName 4)) aK)))) aK)
 (aq (aB (aX (af (aD bp (af (ag 3) ah)) (af (aD bp (af (ag 4) ah)) ah))) (hName 6))
 (aq (aB (bQ (bW (af (ag 1) ah)) 1 [6] (hName 0) (az (ao (uq true) (ag 0) (aD BK (af (ag 1) ah)))) (ag 0)) (hName 7))
 (aq (fX (az (ao (eJ true) (ag 7) (b6 ah))) (aq (aB (ao bO (ag 7) #[0]) (hName 8))
 (aq (aB (aX (af (ao bO (ag 3) (ag 8)) (af (ao bO (ag 3) #[0]) ah))) (fW 2 (aO (hSub (ag 3) #[0]) (aO (hSub (ag 3) (ag 8)) gx))))
 (aq (aB (aX (af (aD bp (af (ag 3) ah)) (af (aD bp (af (ag 4) ah)) ah))) (hName 6))
 (aB (bQ (bW (af (ag 1) ah)) 1 [6] (hName 0) (az (ao (uq true) (ag 0) (aD BK (af (ag 1) ah)))) (ag 0)) (hName 7))))))
 (aN (ag 6))))))))))
abbrev FT:List D->Dm D:=dE 9 FR
abbrev FU:Stmt:=top 61
def tq:ax ["_law_feed_here","_law_n","_law_form_here","_law_right","_law_up","_law_wide","_law_found","_law_apart","_law_m"] ["_law_feed_here","_law_n"] (aj FU):=by walk
abbrev D13:=Gx1 "_law_floor" FU ["_law_feed_here","_law_n"]
abbrev G13:=Gx2 ["_law_feed_here","_law_n"] 3 2 FT
include aP aS cD dj g5 jQ in
def Z2(D:D13 K mg f fd)(T:Txt mg):G13 P w K mg base f fd:=tq|||((2>>=tq>>=bF aS aP hr ∅ rfl (pv 0<|aG<|au))<|>(O4 (i:=3) (j:=4) rfl tq.nd rfl rfl ∅ rfl rfl (gj LU (by rfl) T.eK tG (bF dj cD hr ∅ rfl (pv 0<|pv 1<|au)<|au)<|gj LU (by rfl) T.eK tG (bF dj cD hr ∅ rfl (pv 0<|pv 1<|au)<|au)<|au) rfl)<|>(eI oU (pv 2) aG (aH _)<*>(~~~(3>>=tq>>=bq zO (gj (wb rfl) (by rfl) T.eK tG (gj Cz (by rfl) T.aV vZ (aG<|pv 1<|au)<|au)) (@kR _ _ _ _ (aG<|au))))<*>kQ)<|>(eI oU (pv 2) aG (aH _)<*>(~~~(O4 (i:=3) (j:=4) rfl tq.nd rfl rfl ∅ rfl rfl (gj (wb rfl) (by rfl) T.eK tG (gj Jf (by rfl) T.aV vZ (pv 1<|au)<|au)<|bq zO (gj (wb rfl) (by rfl) T.eK tG (gj Cz (by rfl) T.aV vZ (aG<|pv 1<|au)<|au)) (@kR _ _ _ _ (aG<|au))<|au) rfl))<*>kQ)<|>(eI oU (pv 2) aG (aH _)<*>((5>>=tq>>=bq mI aG (bF aS aP hr ∅ rfl (pv 0<|pv 1<|au)))<|>(3>>=tq>>=bq zO (bq zO (gj (wb rfl) (by rfl) T.eK tG (gj Cz (by rfl) T.aV vZ (aG<|pv 5<|au)<|au)) (@kR _ _ _ _ (aG<|au))) (gj (wb rfl) (by rfl) T.eK tG (gj Cz (by rfl) T.aV vZ (pv 5<|pv 1<|au)<|au)))<|>(4>>=tq>>=PH V0 (bq zO (bq zO (bq zO (@kR _ _ _ _ (pv 5<|au)) (gj (wb rfl) (by rfl) T.eK tG (gj Cz (by rfl) T.aV vZ (aG<|pv 5<|au)<|au))) (gj (wb rfl) (by rfl) T.eK tG (gj Cz (by rfl) T.aV vZ (bq mI (pv 5) aG<|pv 1<|au)<|au))) (@kR _ _ _ _ (aG<|au))) Pz (PB (pv 1)))<|>(~~~(eI oU (pv 5) (pv 1) (aH _)<*>(~~~(4>>=tq>>=gj (wb rfl) (by rfl) T.eK tG (gj Jf (by rfl) T.aV vZ (pv 1<|au)<|au)))<*>kQ)))<*>kQ)<|>(6>>=tq>>=(@dN _ _ _ _ _ (gj oC (by rfl) T.a7 oE (pv 3<|au)<|gj oC (by rfl) T.a7 oE (pv 4<|au)<|au)))<|>(Ql (i:=7) (own:=["_law_s"]) (fr:=["_law_found"]) (js:=[6]) rfl tq.nd rfl rfl (by k_in) (rB rfl T.aV (pv 1<|au)) (λ_ _ _ _ _=>(cm (i:=0) (show((["_law_s"]:List Str) ++ (["_law_found"]:List Str)).Nodup by w_fin) rfl (by w_up))) (λ_ _ _ _ _=>(Qg (eI (Qn (K:=K) rfl) (pv 0) (bF jQ g5 hr ∅ rfl (pv 1<|au)) (by with_unfolding_all rfl)))) (λ_ _ _ _ _=>(pv 0)))<|>wK PassesOwn.never (eI (zU hu) (pv 7) (@kR _ _ _ _ au) (aH _)) ((8>>=tq>>=(og<*pv 7<*aG))<|>vX (@dN _ _ _ _ _ ((og<*pv 3<*pv 8)<|(og<*pv 3<*aG)<|au)) (qP (n:=2) rfl (jt (Cs (pv 3) aG Cw) (jt (Cs (pv 3) (pv 8) Cw) qE)))<|>(6>>=tq>>=(@dN _ _ _ _ _ (gj oC (by rfl) T.a7 oE (pv 3<|au)<|gj oC (by rfl) T.a7 oE (pv 4<|au)<|au)))<|>(~~~(Ql (i:=7) (own:=["_law_s"]) (fr:=["_law_found"]) (js:=[6]) rfl tq.nd rfl rfl (by k_in) (rB rfl T.aV (pv 1<|au)) (λ_ _ _ _ _=>(cm (i:=0) (show((["_law_s"]:List Str) ++ (["_law_found"]:List Str)).Nodup by w_fin) rfl (by w_up))) (λ_ _ _ _ _=>(Qg (eI (Qn (K:=K) rfl) (pv 0) (bF jQ g5 hr ∅ rfl (pv 1<|au)) (by with_unfolding_all rfl)))) (λ_ _ _ _ _=>(pv 0)))))<|>(~~~(@cN _ _ _ _ (pv 6))))|||FR
variable {iR:Addr}{iS:FuncData}(dF:D13 K mg iR iS)(fL:G13 P w K mg base iR iS)
abbrev FV:ai->Dm Fl :=
 (aq (aB (b6 (af (ag 1) ah)) (hName 2))
 (aq (b9 (cS (aD dc (af (aD iO (af (aD cK (af (ao ay (ag 0) #[0]) ah)) ah)) ah))) (hName 3) (b9 (bP (ag 0)) (hName 4) (dg (tL (az (ao xm (ag 3) (aD cK (af (ag 2) ah)))) (az (ao (uq true) (ao ay (ag 4) (ao bO (ag 2) (ag 3))) (ag 2)))) (bu (ju "list" aI (ag 2) (af (ao ay (ag 4) (ao bO (ag 2) (ag 3))) ah))) aK)))
 (aN (aD bp (af (bQ (bP (ag 0)) 1 [2] (hName 0) bR (aD bp (af (bQ (cS (ag 1)) 1 [0,1] (hName 0) bR (ju "list" lO (ag 2) (af (ao ay (ag 1) (ag 0)) ah))) ah))) ah)))))
abbrev Kd:List D->Dm D:=dE 5 FV
abbrev FW:Stmt:=top 65
def Ke:ax ["_law_floor_here","_law_s","_law_called","_law_one","_law_turning_here"] ["_law_floor_here","_law_s"] (aj FW):=by walk
abbrev D14:=Gx1 "_law_numbered" FW ["_law_floor_here","_law_s"]
abbrev G14:=Gx2 ["_law_floor_here","_law_s"] 1 2 Kd
def Z3(D:D14 K mg f fd)(T:Txt mg):G14 P w K mg base f fd:=Ke|||((2>>=Ke>>=(@kR _ _ _ _ (pv 1<|au)))<|>(Ct (gj (wb rfl) (by rfl) T.eK tG (gj Jf (by rfl) T.aV vZ (jF mF (by rfl) T.bH mG ((bA<*pv 0<*aG)<|au)<|au)<|au))&&&(cm (i:=3) Ke.nd rfl (by w_up))&&&(~~~(oS (pv 0)&&&(cm (i:=4) Ke.nd rfl (by w_up))&&&(~~~(PW.pt (LB (eI zE (pv 3) (jF mF (by rfl) T.bH mG (pv 2<|au)) (aH _)) (Lz (eI IZ (bA<*pv 4<*(og<*pv 2<*pv 3)) (pv 2) (by with_unfolding_all rfl))))<*>(~~~pC (oD PySem.F.plainAttrs_list PySem.F.slot_list_append PySem.F.type_list_append p7 (pv 2) ((bA<*pv 4<*(og<*pv 2<*pv 3))<|au)))<*>kQ)))))<|>(~~~(@cN _ _ _ _ (gj oC (by rfl) T.a7 oE (rD (own:=["_law_turning_here"]) (fr:=["_law_called"]) (js:=[2]) rfl (by k_in) (oS (pv 0)) (λ_ _ _ _ _=>(cm (i:=0) (show((["_law_turning_here"]:List Str) ++ (["_law_called"]:List Str)).Nodup by w_fin) rfl (by w_up))) (λ_ _ _ _ _=>rC) (λ_ _ _ _ _=>(gj (WJ (K:=K) rfl) (by rfl) T.a7 oE (rD (own:=["_law_one"]) (fr:=["_law_turning_here","_law_called"]) (js:=[0,1]) rfl ⟨Ym ⟨rfl,by w_fin,by w_fin,by dsimp only[fV,Cx.oA,Cx.wish,PyProof.Rows.envOfC];decide +kernel,by w_fin⟩,rfl⟩ (WK (K:=K) rfl (pv 1)) (λ_ _ _ _ _=>(cm (i:=0) (show((["_law_one"]:List Str) ++ (["_law_turning_here","_law_called"]:List Str)).Nodup by w_fin) rfl (by w_up))) (λ_ _ _ _ _=>rC) (λ_ _ _ _ _=>(Ms (K:=K) rfl PySem.F.plainAttrs_list PySem.F.slot_list_index PySem.F.type_list_index (Y2 (K:=K) rfl) (pv 2) ((yd (K:=K) rfl<*pv 1<*pv 0)<|au)))<|au)))<|au)))))|||FV
variable {dP:Addr}{dQ:FuncData}(cU:D14 K mg dP dQ)(dR:G14 P w K mg base dP dQ)
abbrev FX:ai->Dm Fl :=
 (aN (aD om (af (bQ (bW (af (aD cK (af (ao ay (ag 0) #[0]) ah)) ah)) 1 [0] (hName 0) bR (aD Kd (af (ag 1) (af (ag 0) ah)))) ah)))
abbrev vQ:List D->Dm D:=dE 1 FX
abbrev FY:Stmt:=top 66
def Z4:ax ["_law_floor_here"] ["_law_floor_here"] (aj FY):=by walk
abbrev D15:=Gx1 "_law_form" FY ["_law_floor_here"]
abbrev G15:=Gx2 ["_law_floor_here"] 2 1 vQ
include cU dR in
def Z5(D:D15 K mg f fd)(T:Txt mg):G15 P w K mg base f fd:=Z4|||(~~~(@cN _ _ _ _ (jF (QG rfl hu) (by rfl) T.vP L9 (rD (own:=["_law_s"]) (fr:=["_law_floor_here"]) (js:=[0]) rfl (by k_in) (rB rfl T.aV (jF mF (by rfl) T.bH mG ((bA<*pv 0<*aG)<|au)<|au)) (λ_ _ _ _ _=>(cm (i:=0) (show((["_law_s"]:List Str) ++ (["_law_floor_here"]:List Str)).Nodup by w_fin) rfl (by w_up))) (λ_ _ _ _ _=>rC) (λ_ _ _ _ _=>(bF dR cU hr ∅ rfl (pv 1<|pv 0<|au)))<|au))))|||FX
variable {j5:Addr}{j6:FuncData}(cq:D15 K mg j5 j6)(cV:G15 P w K mg base j5 j6)
abbrev FZ:ai->Dm Fl :=
 (aq (dg (az (ao xm (ag 2) #[0])) (aq (aB (aD bp (af (bQ (bW (af (aD cK (af (ag 0) ah)) ah)) 1 [0] (hName 0) bR (ju "tuple" lb (ag 1) (af (ag 0) ah))) ah)) (hName 0))
 (aB (ao ni #[0] (ag 2)) (hName 2))) aK)
 (aq (aB (b6 (af (ag 1) ah)) (hName 3))
 (aq (fX (az (ao (iM true) (ao ay (ag 0) (ao bO (ag 3) (r6 mB #[1]))) (ag 1))) (bu (ju "list" aI (ag 3) (af (ao ay (ag 0) (ao bO (ag 3) (r6 mB #[1]))) ah))))
 (aN (ao bO (ag 3) (ao kZ (ag 2) (aD cK (af (ag 3) ah))))))))
abbrev Kf:List D->Dm D:=dE 4 FZ
abbrev F0:Stmt:=top 62
def Kg:ax ["_law_turning_here","_law_s","_law_k","_law_ring"] ["_law_turning_here","_law_s","_law_k"] (aj F0):=by walk
abbrev D16:=Gx1 "_law_behind" F0 ["_law_turning_here","_law_s","_law_k"]
abbrev G16:=Gx2 ["_law_turning_here","_law_s","_law_k"] 1 3 Kf
def Z6(D:D16 K mg f fd)(T:Txt mg):G16 P w K mg base f fd:=Kg|||((eI zE (pv 2) aG (aH _)<*>((0>>=Kg>>=gj oC (by rfl) T.a7 oE (rD (own:=["_law_one"]) (fr:=["_law_turning_here"]) (js:=[0]) rfl (by k_in) (rB rfl T.aV (jF mF (by rfl) T.bH mG (pv 0<|au)<|au)) (λ_ _ _ _ _=>(cm (i:=0) (show((["_law_one"]:List Str) ++ (["_law_turning_here"]:List Str)).Nodup by w_fin) rfl (by w_up))) (λ_ _ _ _ _=>rC) (λ_ _ _ _ _=>(Ms (K:=K) rfl PySem.F.plainAttrs_tuple PySem.F.slot_tuple_index PySem.F.type_tuple_index (Qp (K:=K) rfl) (pv 1) (pv 0<|au)))<|au))<|>(~~~(2>>=Kg>>=bq xT aG (pv 2))))<*>kQ)<|>(3>>=Kg>>=(@kR _ _ _ _ (pv 1<|au)))<|>wK PassesOwn.never (eI DI (bA<*pv 0<*(og<*pv 3<*uh ui aG)) (pv 1) (aH _)) (~~~pC (oD PySem.F.plainAttrs_list PySem.F.slot_list_append PySem.F.type_list_append p7 (pv 3) ((bA<*pv 0<*(og<*pv 3<*uh ui aG))<|au)))<|>(~~~(@cN _ _ _ _ (og<*pv 3<*bq tF (pv 2) (jF mF (by rfl) T.bH mG (pv 3<|au))))))|||FZ
variable {gy:Addr}{gA:FuncData}(dS:D16 K mg gy gA)(gB:G16 P w K mg base gy gA)
abbrev BL:ai->Dm Fl :=
 (aq (aB (ag 0) (fW 2 (aO (hName 2) (aO (hName 3) gx))))
 (aq (dg (az (ao (iM false) (ao ay (ag 1) #[0]) (fC (.str "s")))) (aN (aX (af (ag 2) (af (aD bp (af (bQ (bW (af (aD cK (af (ag 3) ah)) ah)) 1 [1,2,3] (hName 0) bR (ao ay (ag 3) (aD Kf (af (ag 2) (af (ag 0) (af (ao ni #[0] (ao ay (ag 1) #[1])) ah)))))) ah)) ah)))) aK)
 (aq (b9 (bW (af (ao kZ (ao ay (ag 1) #[1]) #[4]) ah)) (hName 4) (aB (aX (af (aD bp (af (bQ (bW (af (aD cK (af (ag 3) ah)) ah)) 1 [3] (hName 0) bR (ju "tuple" lb (ag 1) (af (ag 0) ah))) ah)) (af (ag 2) ah))) (fW 2 (aO (hName 2) (aO (hName 3) gx)))))
 (aN (aX (af (ag 2) (af (ag 3) ah)))))))
abbrev yX:List D->Dm D:=dE 5 BL
abbrev F3:Stmt:=top 63
def CZ:ax ["_law_floor_here","_law_step","_law_right","_law_up","_law_turn"] ["_law_floor_here","_law_step"] (aj F3):=by walk
abbrev D17:=Gx1 "_law_stepped" F3 ["_law_floor_here","_law_step"]
abbrev G17:=Gx2 ["_law_floor_here","_law_step"] 2 2 yX
include dS gB in
def Z7(D:D17 K mg f fd)(T:Txt mg):G17 P w K mg base f fd:=CZ|||(vX (pv 0) (qP (n:=2) rfl (jt (cm (i:=2) CZ.nd rfl (by w_up)) (jt (cm (i:=3) CZ.nd rfl (by w_up)) qE)))<|>(eI oU (bA<*pv 1<*aG) rA (aH _)<*>(~~~(@cN _ _ _ _ (@dN _ _ _ _ _ (pv 2<|gj oC (by rfl) T.a7 oE (rD (own:=["_law_s"]) (fr:=["_law_step","_law_right","_law_up"]) (js:=[1,2,3]) rfl (by k_in) (rB rfl T.aV (jF mF (by rfl) T.bH mG (pv 3<|au)<|au)) (λ_ _ _ _ _=>(cm (i:=0) (show((["_law_s"]:List Str) ++ (["_law_step","_law_right","_law_up"]:List Str)).Nodup by w_fin) rfl (by w_up))) (λ_ _ _ _ _=>rC) (λ_ _ _ _ _=>(yd (K:=K) rfl<*pv 3<*bF gB dS hr ∅ rfl (pv 2<|pv 0<|bq xT aG (yd (K:=K) rfl<*pv 1<*aG)<|au)))<|au)<|au))))<*>kQ)<|>(rB rfl T.aV (bq tF (bA<*pv 1<*aG) aG<|au)&&&(cm (i:=4) CZ.nd rfl (by w_up))&&&(~~~vX (@dN _ _ _ _ _ (gj oC (by rfl) T.a7 oE (rD (own:=["_law_s"]) (fr:=["_law_up"]) (js:=[3]) rfl (by k_in) (rB rfl T.aV (jF mF (by rfl) T.bH mG (pv 3<|au)<|au)) (λ_ _ _ _ _=>(cm (i:=0) (show((["_law_s"]:List Str) ++ (["_law_up"]:List Str)).Nodup by w_fin) rfl (by w_up))) (λ_ _ _ _ _=>rC) (λ_ _ _ _ _=>(Ms (K:=K) rfl PySem.F.plainAttrs_tuple PySem.F.slot_tuple_index PySem.F.type_tuple_index (Qp (K:=K) rfl) (pv 1) (pv 0<|au)))<|au)<|pv 2<|au)) (qP (n:=2) rfl (jt (cm (i:=2) CZ.nd rfl (by w_up)) (jt (cm (i:=3) CZ.nd rfl (by w_up)) qE)))))<|>(~~~(@cN _ _ _ _ (@dN _ _ _ _ _ (pv 2<|pv 3<|au)))))|||BL
variable {ff:Addr}{fg:FuncData}(bI:D17 K mg ff fg)(bX:G17 P w K mg base ff fg)
abbrev Kh:ai->Dm Fl :=
 (aq (aB (b6 ah) (hName 1))
 (aq (b9 (bP (ag 0)) (fW 2 (aO (hName 2) (aO (hName 3) gx))) (aq (dg (tL (az (ao (eJ true) (ag 1) (b6 ah))) (az (ao (iM false) (ao ay (ao bO (ag 1) (r6 mB #[1])) #[0]) (ag 2)))) (aB (ao cu (ao ay (tR "list" tU (ag 1)) #[1]) (ag 3)) (hName 3)) aK)
 (aq (dg (az (ao (iM false) (ag 2) (fC (.str "t")))) (aB (ao kZ (ag 3) #[4]) (hName 3)) aK)
 (dg (az (ao (iM true) (ag 3) #[0])) (bu (ju "list" aI (ag 1) (af (aX (af (ag 2) (af (ag 3) ah))) ah))) aK))))
 (aN (aD bp (af (ag 1) ah)))))
abbrev F4:List D->Dm D:=dE 4 Kh
abbrev F5:Stmt:=top 69
def C0:ax ["_law_word","_law_found","_law_letter","_law_k"] ["_law_word"] (aj F5):=by walk
abbrev D18:=Gx1 "_law_plain" F5 ["_law_word"]
abbrev G18:=Gx2 ["_law_word"] 1 1 F4
def Z8(D:D18 K mg f fd)(T:Txt mg):G18 P w K mg base f fd:=by
 refine D.F.ok C0 (λ_ _ _ _ h=>h.1) (λc A o s H v Q E hr h=>?_);have hu:=hr.units;refine⟨_,((1>>=C0>>=(@kR _ _ _ _ au))<|>(oS (pv 0)&&&qP (n:=2) rfl (jt (cm (i:=2) C0.nd rfl (by w_up)) (jt (cm (i:=3) C0.nd rfl (by w_up)) qE))&&&((PW.pt (LB (eI (zU hu) (pv 1) (@kR _ _ _ _ au) (aH _)) (Lz (eI oU (bA<*(og<*pv 1<*uh ui aG)<*aG) (pv 2) (aH _))))<*>(~~~(3>>=C0>>=bq mI (bA<*PQ PySem.F.plainAttrs_list PySem.F.slot_list_pop PySem.F.type_list_pop PV (pv 1)<*aG) (pv 3)))<*>kQ)<|>(eI oU (pv 2) rA (aH _)<*>(~~~(3>>=C0>>=bq tF (pv 3) aG))<*>kQ)<|>(~~~(eI DI (pv 3) aG (aH _)<*>(~~~pC (oD PySem.F.plainAttrs_list PySem.F.slot_list_append PySem.F.type_list_append p7 (pv 1) ((@dN _ _ _ _ _ (pv 2<|pv 3<|au))<|au)))<*>kQ))))<|>(~~~(@cN _ _ _ _ (gj oC (by rfl) T.a7 oE (pv 1<|au))))),?_⟩
 exact eB (b:=Kh) (kU (oi (wo c5) (jO 1))
  (kU (xr (CQ (bG 0)) (AJ (ur (jO 2) (ur (jO 3) AI))) (kU (uu (M3 (qf (jG (AA true) (bG 1) (wo c5))) (qf (jG CM (jG r9 (jG xn (bG 1) (M1 M9 (kT _))) (kT _)) (bG 2)))) (oi (jG JJ (jG r9 (S3 Tc (bG 1)) (kT _)) (bG 3)) (jO 3)) vz)
  (kU (uu (qf (jG CM (bG 2) (JH _))) (oi (jG M7 (bG 3) (kT _)) (jO 3)) vz)
  (uu (qf (jG JK (bG 3) (kT _))) (AK (CO CP (bG 1) (bD (uo (bD (bG 2) (bD (bG 3) c5))) c5))) vz))))
  (tO (qg ET (bD (bG 1) c5))))) rfl h
variable {iT:Addr}{iU:FuncData}(fM:D18 K mg iT iU)(iW:G18 P w K mg base iT iU)
abbrev F6:ai->Dm Fl :=
 (aq (aB (b6 (af (aD vQ (af (ag 0) ah)) ah)) (hName 2))
 (aq (aB (b6 (af (aX ah) ah)) (hName 3))
 (aq (aB (b6 ah) (hName 4))
 (aq (b9 (bW (af (ag 1) ah)) (hName 5) (dg (az (ao xm (ag 5) (aD cK (af (ag 2) ah)))) (aq (bu (ju "list" aI (ag 4) (af (b6 ah) ah)))
 (aq (b9 (bP (aX (af (aX (af (fC (.str "s")) (af #[1] ah))) (af (aX (af (fC (.str "t")) (af #[1] ah))) ah)))) (hName 6) (aq (aB (aD vQ (af (aD yX (af (ao bO (ag 2) (ag 5)) (af (ag 6) ah))) ah)) (hName 7))
 (aq (dg (az (ao (rh true) (ag 7) (ag 2))) (aq (bu (ju "list" aI (ag 2) (af (ag 7) ah)))
 (bu (ju "list" aI (ag 3) (af (aD F4 (af (ao iN (ao bO (ag 3) (ag 5)) (aX (af (ag 6) ah))) ah)) ah)))) aK)
 (bu (ju "list" aI (ao bO (ag 4) (ag 5)) (af (ju "list" eY (ag 2) (af (ag 7) ah)) ah))))))
 (dg (az (ao sQ (aD cK (af (ag 2) ah)) (ag 1))) (aN (fC .non)) aK))) aK))
 (aN (aD bp (af (bQ (bW (af (aD cK (af (ag 2) ah)) ah)) 1 [2,3,4] (hName 0) bR (aX (af (ao bO (ag 1) (ag 0)) (af (ao bO (ag 2) (ag 0)) (af (ao bO (ao bO (ag 3) (ag 0)) #[0]) (af (ao bO (ao bO (ag 3) (ag 0)) #[1]) ah)))))) ah)))))))
abbrev F7:List D->Dm D:=dE 8 F6
abbrev F8:Stmt:=top 70
def BM:ax ["_law_floor_here","_law_most","_law_forms","_law_words","_law_links","_law_at","_law_step","_law_fresh"] ["_law_floor_here","_law_most"] (aj F8):=by walk
abbrev D19:=Gx1 "_law_chart" F8 ["_law_floor_here","_law_most"]
abbrev G19:=Gx2 ["_law_floor_here","_law_most"] 3 2 F7
include cq cV bI bX fM iW in
def Z9(D:D19 K mg f fd)(T:Txt mg):G19 P w K mg base f fd:=BM|||((2>>=BM>>=(@kR _ _ _ _ (bF cV cq hr ∅ rfl (pv 0<|au)<|au)))<|>(3>>=BM>>=(@kR _ _ _ _ ((@dN _ _ _ _ _ au)<|au)))<|>(4>>=BM>>=(@kR _ _ _ _ au))<|>(rB rfl T.aV (pv 1<|au)&&&(cm (i:=5) BM.nd rfl (by w_up))&&&(~~~(eI zE (pv 5) (jF mF (by rfl) T.bH mG (pv 2<|au)) (aH _)<*>(pC (oD PySem.F.plainAttrs_list PySem.F.slot_list_append PySem.F.type_list_append p7 (pv 4) ((@kR _ _ _ _ au)<|au))<|>(oS (@dN _ _ _ _ _ ((@dN _ _ _ _ _ (rA<|aG<|au))<|(@dN _ _ _ _ _ (rA<|aG<|au))<|au))&&&(cm (i:=6) BM.nd rfl (by w_up))&&&((7>>=BM>>=bF cV cq hr ∅ rfl (bF bX bI hr ∅ rfl ((og<*pv 2<*pv 5)<|pv 6<|au)<|au))<|>(eI (Qu hu) (pv 7) (pv 2) (by with_unfolding_all rfl)<*>(pC (oD PySem.F.plainAttrs_list PySem.F.slot_list_append PySem.F.type_list_append p7 (pv 2) (pv 7<|au))<|>(~~~pC (oD PySem.F.plainAttrs_list PySem.F.slot_list_append PySem.F.type_list_append p7 (pv 3) (bF iW fM hr ∅ rfl (bq wa (og<*pv 3<*pv 5) (@dN _ _ _ _ _ (pv 6<|au))<|au)<|au))))<*>kQ)<|>(~~~pC (oD PySem.F.plainAttrs_list PySem.F.slot_list_append PySem.F.type_list_append p7 (og<*pv 4<*pv 5) (oD PySem.F.plainAttrs_list PySem.F.slot_list_index PySem.F.type_list_index (QJ hu) (pv 2) (pv 7<|au)<|au)))))<|>(~~~(eI xU (jF mF (by rfl) T.bH mG (pv 2<|au)) (pv 1) (aH _)<*>(~~~(@cN _ _ _ _ Ly))<*>kQ)))<*>kQ)))<|>(~~~(@cN _ _ _ _ (gj oC (by rfl) T.a7 oE (rD (own:=["_law_at"]) (fr:=["_law_forms","_law_words","_law_links"]) (js:=[2,3,4]) rfl (by k_in) (rB rfl T.aV (jF mF (by rfl) T.bH mG (pv 2<|au)<|au)) (λ_ _ _ _ _=>(cm (i:=0) (show((["_law_at"]:List Str) ++ (["_law_forms","_law_words","_law_links"]:List Str)).Nodup by w_fin) rfl (by w_up))) (λ_ _ _ _ _=>rC) (λ_ _ _ _ _=>(@dN _ _ _ _ _ ((um (K:=K) rfl<*pv 1<*pv 0)<|(um (K:=K) rfl<*pv 2<*pv 0)<|(um (K:=K) rfl<*(um (K:=K) rfl<*pv 3<*pv 0)<*aG)<|(um (K:=K) rfl<*(um (K:=K) rfl<*pv 3<*pv 0)<*aG)<|au)))<|au)))))|||F6
variable {iX:Addr}{iY:FuncData}(dG:D19 K mg iX iY)(fN:G19 P w K mg base iX iY)
abbrev F9:ai->Dm Fl :=
 (aq (aB (aD FT (af (ag 0) (af (ao bO (b6 (af (ao cu #[1] (aD qJ (af (ag 0) (af #[5] ah)))) (af #[6] ah))) (ao pQ (aD qJ (af (ag 0) (af #[8] ah))) #[7])) ah))) (hName 2))
 (aq (aB (aD F7 (af (ag 2) (af (ag 1) ah))) (hName 3))
 (aq (fX (az (ao (vI false) (ag 3) (fC .non))) (aq (aB (aD FT (af (ag 0) (af (ao cu #[1] (aD qJ (af (ag 0) (af #[3] ah)))) ah))) (hName 2))
 (aB (aD F7 (af (ag 2) (af (ag 1) ah))) (hName 3))))
 (aN (aX (af (ag 2) (af (ag 3) ah)))))))
abbrev C1:List D->Dm D:=dE 4 F9
abbrev Ga:Stmt:=top 71
def Gb:ax ["_law_feed_here","_law_most","_law_floor_here","_law_chart_here"] ["_law_feed_here","_law_most"] (aj Ga):=by walk
abbrev D20:=Gx1 "_law_own" Ga ["_law_feed_here","_law_most"]
abbrev G20:=Gx2 ["_law_feed_here","_law_most"] 4 2 C1
include aP aS dF fL dG fN in
def zb5(D:D20 K mg f fd)(T:Txt mg):G20 P w K mg base f fd:=Gb|||((2>>=Gb>>=bF fL dF hr ∅ rfl (pv 0<|(og<*(@kR _ _ _ _ (bq mI aG (bF aS aP hr ∅ rfl (pv 0<|aG<|au))<|aG<|au))<*bq LI (bF aS aP hr ∅ rfl (pv 0<|aG<|au)) aG)<|au))<|>(3>>=Gb>>=bF fN dG hr ∅ rfl (pv 2<|pv 1<|au))<|>wK PassesOwn.never (eI Zd (pv 3) Ly (aH _)) ((2>>=Gb>>=bF fL dF hr ∅ rfl (pv 0<|bq mI aG (bF aS aP hr ∅ rfl (pv 0<|aG<|au))<|au))<|>(~~~(3>>=Gb>>=bF fN dG hr ∅ rfl (pv 2<|pv 1<|au))))<|>(~~~(@cN _ _ _ _ (@dN _ _ _ _ _ (pv 2<|pv 3<|au)))))|||F9
variable {lS:Addr}{lU:FuncData}(jR:D20 K mg lS lU)(lV:G20 P w K mg base lS lU)
abbrev Gd:ai->Dm Fl :=
 (aq (aB (ao tM (b6 (af #[0] ah)) (aD cK (af (ag 0) ah))) (hName 1))
 (aq (b9 (mN (af (ag 0) ah)) (fW 2 (aO (hName 2) (aO (hName 3) gx))) (aB (ag 2) (hSub (ag 1) (ag 3))))
 (aN (aD bp (af (ag 1) ah)))))
abbrev BN:List D->Dm D:=dE 4 Gd
abbrev Ge:Stmt:=top 6
def Ki:ax ["turning","back","number","led"] ["turning"] (aj Ge):=by walk
abbrev D21:=Gx1 "turned_back" Ge ["turning"]
abbrev G21:=Gx2 ["turning"] 1 1 BN
def zbx(D:D21 K mg f fd)(T:Txt mg):G21 P w K mg base f fd:=Ki|||((1>>=Ki>>=bq LW (@kR _ _ _ _ (aG<|au)) (jF mF (by rfl) T.bH mG (pv 0<|au)))<|>(Jj rfl T.iQ (pv 0<|au)&&&qP (n:=2) rfl (jt (cm (i:=2) Ki.nd rfl (by w_up)) (jt (cm (i:=3) Ki.nd rfl (by w_up)) qE))&&&(~~~vX (pv 2) (Cs (pv 1) (pv 3) Cw)))<|>(~~~(@cN _ _ _ _ (gj oC (by rfl) T.a7 oE (pv 1<|au)))))|||Gd
variable {gC:Addr}{gD:FuncData}(aT:D21 K mg gC gD)(aW:G21 P w K mg base gC gD)
abbrev Gf:ai->Dm Fl :=
 (aN (aD bp (af (bQ (bP (ag 0)) 1 [1] (hName 0) bR (ao ay (ag 1) (ag 0))) ah)))
abbrev yZ:List D->Dm D:=dE 2 Gf
abbrev Gg:Stmt:=top 5
def yb5:ax ["one","other"] ["one","other"] (aj Gg):=by walk
abbrev D22:=Gx1 "followed" Gg ["one","other"]
abbrev G22:=Gx2 ["one","other"] 1 2 yZ
def Zb5(D:D22 K mg f fd)(T:Txt mg):G22 P w K mg base f fd:=yb5|||(~~~(@cN _ _ _ _ (gj oC (by rfl) T.a7 oE (rD (own:=["number"]) (fr:=["other"]) (js:=[1]) rfl (by k_in) (oS (pv 0)) (λ_ _ _ _ _=>(cm (i:=0) (show((["number"]:List Str) ++ (["other"]:List Str)).Nodup by w_fin) rfl (by w_up))) (λ_ _ _ _ _=>rC) (λ_ _ _ _ _=>(yd (K:=K) rfl<*pv 1<*pv 0))<|au))))|||Gf
variable {lW:Addr}{lX:FuncData}(cb:D22 K mg lW lX)(cE:G22 P w K mg base lW lX)
abbrev Gh:ai->Dm Fl :=
 (aq (aB (aD BN (af (ag 1) ah)) (hName 2))
 (aq (aB (aD yZ (af (aD yZ (af (ag 2) (af (ao ay (ag 0) #[0]) ah))) (af (ag 1) ah))) (hName 3))
 (aq (aB (aD yZ (af (aD yZ (af (ag 2) (af (ao ay (ag 0) #[1]) ah))) (af (ag 1) ah))) (hName 4))
 (aN (aX (af (ag 3) (af (ag 4) ah)))))))
abbrev Kj:List D->Dm D:=dE 5 Gh
abbrev Gi:Stmt:=top 13
def Kk:ax ["floor","p","back","right","up"] ["floor","p"] (aj Gi):=by walk
abbrev D23:=Gx1 "called_anew" Gi ["floor","p"]
abbrev G23:=Gx2 ["floor","p"] 2 2 Kj
include aT aW cb cE in
def ybx(D:D23 K mg f fd)(T:Txt mg):G23 P w K mg base f fd:=Kk|||((2>>=Kk>>=bF aW aT hr ∅ rfl (pv 1<|au))<|>(3>>=Kk>>=bF cE cb hr ∅ rfl (bF cE cb hr ∅ rfl (pv 2<|(bA<*pv 0<*aG)<|au)<|pv 1<|au))<|>(4>>=Kk>>=bF cE cb hr ∅ rfl (bF cE cb hr ∅ rfl (pv 2<|(bA<*pv 0<*aG)<|au)<|pv 1<|au))<|>(~~~(@cN _ _ _ _ (@dN _ _ _ _ _ (pv 3<|pv 4<|au)))))|||Gh
variable {gE:Addr}{gG:FuncData}(dU:D23 K mg gE gG)(gH:G23 P w K mg base gE gG)
abbrev Gj:ai->Dm Fl :=
 (aq (aB (b6 (af (ag 1) ah)) (hName 2))
 (aq (aB #[0] (hName 3))
 (aq (fX (az (ao xm (ag 3) (aD cK (af (ag 2) ah)))) (aq (b9 (bP (ag 0)) (hName 4) (aq (aB (ao ay (ag 4) (ao bO (ag 2) (ag 3))) (hName 5))
 (dg (az (ao (uq true) (ag 5) (ag 2))) (bu (ju "list" aI (ag 2) (af (ag 5) ah))) aK)))
 (aB (ao cu (ag 3) #[1]) (hName 3))))
 (aN (aD bp (af (ag 2) ah))))))
abbrev Kl:List D->Dm D:=dE 6 Gj
abbrev Gk:Stmt:=top 11
def C2:ax ["floor","s","squares","place","turning","reached"] ["floor","s"] (aj Gk):=by walk
abbrev D24:=Gx1 "squares_from" Gk ["floor","s"]
abbrev G24:=Gx2 ["floor","s"] 1 2 Kl
def Zbs(D:D24 K mg f fd)(T:Txt mg):G24 P w K mg base f fd:=C2|||((2>>=C2>>=(@kR _ _ _ _ (pv 1<|au)))<|>(3>>=C2>>=aG)<|>wK PassesOwn.never (eI zE (pv 3) (jF mF (by rfl) T.bH mG (pv 2<|au)) (aH _)) ((oS (pv 0)&&&(cm (i:=4) C2.nd rfl (by w_up))&&&((5>>=C2>>=(bA<*pv 4<*(og<*pv 2<*pv 3)))<|>(~~~(eI IZ (pv 5) (pv 2) (by with_unfolding_all rfl)<*>(~~~pC (oD PySem.F.plainAttrs_list PySem.F.slot_list_append PySem.F.type_list_append p7 (pv 2) (pv 5<|au)))<*>kQ))))<|>(~~~(3>>=C2>>=bq mI (pv 3) aG)))<|>(~~~(@cN _ _ _ _ (gj oC (by rfl) T.a7 oE (pv 2<|au)))))|||Gj
variable {fj:Addr}{fm:FuncData}(dk:D24 K mg fj fm)(fq:G24 P w K mg base fj fm)
abbrev Gm:ai->Dm Fl :=
 (aN (aD BN (af (aD Kl (af (ag 0) (af (ag 1) ah))) ah)))
abbrev Km:List D->Dm D:=dE 2 Gm
abbrev Gn:Stmt:=top 14
def zbh:ax ["floor","s"] ["floor","s"] (aj Gn):=by walk
abbrev D25:=Gx1 "numbering_from" Gn ["floor","s"]
abbrev G25:=Gx2 ["floor","s"] 2 2 Km
include aT aW dk fq in
def ybh(D:D25 K mg f fd)(T:Txt mg):G25 P w K mg base f fd:=zbh|||(~~~(@cN _ _ _ _ (bF aW aT hr ∅ rfl (bF fq dk hr ∅ rfl (pv 0<|pv 1<|au)<|au))))|||Gm
variable {dz:Addr}{dA:FuncData}(cy:D25 K mg dz dA)(dB:G25 P w K mg base dz dA)
abbrev Gp:ai->Dm Fl :=
 (aN (aD Kj (af (ag 0) (af (aD Km (af (ag 0) (af (ag 1) ah))) ah))))
abbrev Kn:List D->Dm D:=dE 2 Gp
abbrev Gq:Stmt:=top 15
def xbj:ax ["floor","s"] ["floor","s"] (aj Gq):=by walk
abbrev D26:=Gx1 "numbered_from" Gq ["floor","s"]
abbrev G26:=Gx2 ["floor","s"] 3 2 Kn
include dU gH cy dB in
def Xbj(D:D26 K mg f fd)(T:Txt mg):G26 P w K mg base f fd:=xbj|||(~~~(@cN _ _ _ _ (bF gH dU hr ∅ rfl (pv 0<|bF dB cy hr ∅ rfl (pv 0<|pv 1<|au)<|au))))|||Gp
variable {dW:Addr}{dX:FuncData}(cW:D26 K mg dW dX)(dY:G26 P w K mg base dW dX)
abbrev Gr:ai->Dm Fl :=
 (aN (aD om (af (bQ (bW (af (aD cK (af (ao ay (ag 0) #[0]) ah)) ah)) 1 [0] (hName 0) bR (aD Kn (af (ag 1) (af (ag 0) ah)))) ah)))
abbrev y2:List D->Dm D:=dE 1 Gr
abbrev Gs:Stmt:=top 16
def zco:ax ["floor"] ["floor"] (aj Gs):=by walk
abbrev D27:=Gx1 "form_of" Gs ["floor"]
abbrev G27:=Gx2 ["floor"] 4 1 y2
include cW dY in
def yco(D:D27 K mg f fd)(T:Txt mg):G27 P w K mg base f fd:=zco|||(~~~(@cN _ _ _ _ (jF (QG rfl hu) (by rfl) T.vP L9 (rD (own:=["s"]) (fr:=["floor"]) (js:=[0]) rfl (by k_in) (rB rfl T.aV (jF mF (by rfl) T.bH mG ((bA<*pv 0<*aG)<|au)<|au)) (λ_ _ _ _ _=>(cm (i:=0) (show((["s"]:List Str) ++ (["floor"]:List Str)).Nodup by w_fin) rfl (by w_up))) (λ_ _ _ _ _=>rC) (λ_ _ _ _ _=>(bF dY cW hr ∅ rfl (pv 1<|pv 0<|au)))<|au))))|||Gr
variable {nC:Addr}{nD:FuncData}(bU:D27 K mg nC nD)(cc:G27 P w K mg base nC nD)
abbrev Gu:ai->Dm Fl :=
 (aq (aB (b6 (af (ag 1) ah)) (hName 2))
 (aq (aB (ao ay (ag 0) (ag 1)) (hName 3))
 (aq (fX (az (ao (iM true) (ag 3) (ag 1))) (aq (bu (ju "list" aI (ag 2) (af (ag 3) ah)))
 (aB (ao ay (ag 0) (ag 3)) (hName 3))))
 (aN (aD bp (af (ag 2) ah))))))
abbrev Ko:List D->Dm D:=dE 4 Gu
abbrev Gv:Stmt:=top 8
def Kq:ax ["turning","first","ring","reached"] ["turning","first"] (aj Gv):=by walk
abbrev D28:=Gx1 "ring_from" Gv ["turning","first"]
abbrev G28:=Gx2 ["turning","first"] 1 2 Ko
def ybU(D:D28 K mg f fd)(T:Txt mg):G28 P w K mg base f fd:=Kq|||((2>>=Kq>>=(@kR _ _ _ _ (pv 1<|au)))<|>(3>>=Kq>>=(bA<*pv 0<*pv 1))<|>wK PassesOwn.never (eI DI (pv 3) (pv 1) (aH _)) (pC (oD PySem.F.plainAttrs_list PySem.F.slot_list_append PySem.F.type_list_append p7 (pv 2) (pv 3<|au))<|>(~~~(3>>=Kq>>=(bA<*pv 0<*pv 3))))<|>(~~~(@cN _ _ _ _ (gj oC (by rfl) T.a7 oE (pv 2<|au)))))|||Gu
variable {j7:Addr}{j8:FuncData}(ig:D28 K mg j7 j8)(j9:G28 P w K mg base j7 j8)
abbrev Gw:ai->Dm Fl :=
 (aq (aB (b6 ah) (hName 1))
 (aq (aB vE (hName 2))
 (aq (b9 (bW (af (aD cK (af (ag 0) ah)) ah)) (hName 3) (dg (az (xv true (ag 3) (ag 2))) (aq (aB (aD Ko (af (ag 0) (af (ag 3) ah))) (hName 4))
 (aq (bu (ju "list" aI (ag 1) (af (ag 4) ah)))
 (b9 (bP (ag 4)) (hName 5) (sU (ag 2) (ag 5) (fC (.bl true)))))) aK))
 (aN (aD bp (af (ag 1) ah))))))
abbrev Kr:List D->Dm D:=dE 6 Gw
abbrev Gx:Stmt:=top 9
def C3:ax ["turning","rings","seen","first","ring","number"] ["turning"] (aj Gx):=by walk
abbrev D29:=Gx1 "rings_of" Gx ["turning"]
abbrev G29:=Gx2 ["turning"] 2 1 Kr
include ig j9 in
def Yb5(D:D29 K mg f fd)(T:Txt mg):G29 P w K mg base f fd:=by refine D.F.ok C3 (λ_ _ _ _ h=>h.1) (λc A o s H v Q E hr h=>?_);have hu1:=L7 hr;refine⟨_,((1>>=C3>>=(@kR _ _ _ _ au))<|>(2>>=C3>>=Wd)<|>(rB rfl T.aV (jF mF (by rfl) T.bH mG (pv 0<|au)<|au)&&&(cm (i:=3) C3.nd rfl (by w_up))&&&(~~~(OZ (Wb hu1 (pv 3) (pv 2))<*>((4>>=C3>>=bF j9 ig hr ∅ rfl (pv 0<|pv 3<|au))<|>pC (oD PySem.F.plainAttrs_list PySem.F.slot_list_append PySem.F.type_list_append p7 (pv 1) (pv 4<|au))<|>(~~~(oS (pv 4)&&&(cm (i:=5) C3.nd rfl (by w_up))&&&(~~~P1 hu1 (pv 2) (pv 5) zt rfl))))<*>kQ)))<|>(~~~(@cN _ _ _ _ (gj oC (by rfl) T.a7 oE (pv 1<|au))))),?_⟩;exact eB (b:=Gw) (by delta Gw;o_norm) rfl h
variable {lY:Addr}{lZ:FuncData}(jS:D29 K mg lY lZ)(l6:G29 P w K mg base lY lZ)
abbrev Gy:ai->Dm Fl :=
 (aq (aB (ao tM (b6 (af #[0] ah)) (aD cK (af (ag 0) ah))) (hName 2))
 (aq (b9 (bP (aD Kr (af (ag 0) ah))) (hName 3) (b9 (mN (af (ag 3) ah)) (fW 2 (aO (hName 4) (aO (hName 5) gx))) (aB (ao ay (ag 3) (ao kZ (ao cu (ag 4) (ag 1)) (aD cK (af (ag 3) ah)))) (hSub (ag 2) (ag 5)))))
 (aN (aD bp (af (ag 2) ah)))))
abbrev Ks:List D->Dm D:=dE 6 Gy
abbrev Gz:Stmt:=top 7
def GA:ax ["turning","k","led","ring","place","number"] ["turning","k"] (aj Gz):=by walk
abbrev D30:=Gx1 "often" Gz ["turning","k"]
abbrev G30:=Gx2 ["turning","k"] 3 2 Ks
include jS l6 in
def xcY(D:D30 K mg f fd)(T:Txt mg):G30 P w K mg base f fd:=GA|||((2>>=GA>>=bq LW (@kR _ _ _ _ (aG<|au)) (jF mF (by rfl) T.bH mG (pv 0<|au)))<|>(oS (bF l6 jS hr ∅ rfl (pv 0<|au))&&&(cm (i:=3) GA.nd rfl (by w_up))&&&(~~~(Jj rfl T.iQ (pv 3<|au)&&&qP (n:=2) rfl (jt (cm (i:=4) GA.nd rfl (by w_up)) (jt (cm (i:=5) GA.nd rfl (by w_up)) qE))&&&(~~~vX (bA<*pv 3<*bq tF (bq mI (pv 4) (pv 1)) (jF mF (by rfl) T.bH mG (pv 3<|au))) (Cs (pv 2) (pv 5) Cw)))))<|>(~~~(@cN _ _ _ _ (gj oC (by rfl) T.a7 oE (pv 2<|au)))))|||Gy
variable {qq:Addr}{qr:FuncData}(pe:D30 K mg qq qr)(qu:G30 P w K mg base qq qr)
abbrev GB:ai->Dm Fl :=
 (aN (aX (af (ao ay (ag 0) #[0]) (af (aD yZ (af (aD Ks (af (ao ay (ag 0) #[0]) (af (r6 mB (ag 1)) ah))) (af (ao ay (ag 0) #[1]) ah))) ah))))
abbrev Kt:List D->Dm D:=dE 2 GB
abbrev GD:Stmt:=top 38
def Zco:ax ["floor","k"] ["floor","k"] (aj GD):=by walk
abbrev D31:=Gx1 "sheared" GD ["floor","k"]
abbrev G31:=Gx2 ["floor","k"] 4 2 Kt
include cb cE pe qu in
def Yco(D:D31 K mg f fd)(T:Txt mg):G31 P w K mg base f fd:=Zco|||(~~~(@cN _ _ _ _ (@dN _ _ _ _ _ ((bA<*pv 0<*aG)<|bF cE cb hr ∅ rfl (bF qu pe hr ∅ rfl ((bA<*pv 0<*aG)<|uh ui (pv 1)<|au)<|(bA<*pv 0<*aG)<|au)<|au))))|||GB
variable {nE:Addr}{nF:FuncData}(lq:D31 K mg nE nF)(nG:G31 P w K mg base nE nF)
abbrev GF:ai->Dm Fl :=
 (aN (aX (af (aD BN (af (ao ay (ag 0) #[1]) ah)) (af (ao ay (ag 0) #[0]) ah))))
abbrev Ku:List D->Dm D:=dE 1 GF
abbrev GG:Stmt:=top 39
def ZbU:ax ["floor"] ["floor"] (aj GG):=by walk
abbrev D32:=Gx1 "quartered" GG ["floor"]
abbrev G32:=Gx2 ["floor"] 2 1 Ku
include aT aW in
def YbU(D:D32 K mg f fd)(T:Txt mg):G32 P w K mg base f fd:=ZbU|||(~~~(@cN _ _ _ _ (@dN _ _ _ _ _ (bF aW aT hr ∅ rfl ((bA<*pv 0<*aG)<|au)<|(bA<*pv 0<*aG)<|au))))|||GF
variable {ka:Addr}{kb:FuncData}(ik:D32 K mg ka kb)(kc:G32 P w K mg base ka kb)
abbrev GH:ai->Dm Fl :=
 (aq (dg (az (ao (iM false) (ao ay (ag 1) #[0]) (fC (.str "s")))) (aN (aD Kt (af (ag 0) (af (ao ay (ag 1) #[1]) ah)))) aK)
 (aq (aB (ag 0) (hName 2))
 (aq (b9 (bW (af (ao ay (ag 1) #[1]) ah)) (hName 3) (aB (aD Ku (af (ag 2) ah)) (hName 2)))
 (aN (ag 2)))))
abbrev Kv:List D->Dm D:=dE 4 GH
abbrev GI:Stmt:=top 41
def Kw:ax ["floor","step","led","turn"] ["floor","step"] (aj GI):=by walk
abbrev D33:=Gx1 "led_by_step" GI ["floor","step"]
abbrev G33:=Gx2 ["floor","step"] 5 2 Kv
include lq nG ik kc in
def Zbx(D:D33 K mg f fd)(T:Txt mg):G33 P w K mg base f fd:=Kw|||((eI oU (bA<*pv 1<*aG) rA (aH _)<*>(~~~(@cN _ _ _ _ (bF nG lq hr ∅ rfl (pv 0<|(bA<*pv 1<*aG)<|au))))<*>kQ)<|>(2>>=Kw>>=pv 0)<|>(rB rfl T.aV ((bA<*pv 1<*aG)<|au)&&&(cm (i:=3) Kw.nd rfl (by w_up))&&&(~~~(2>>=Kw>>=bF kc ik hr ∅ rfl (pv 2<|au))))<|>(~~~(@cN _ _ _ _ (pv 2))))|||GH
variable {gI:Addr}{gJ:FuncData}(dZ:D33 K mg gI gJ)(gK:G33 P w K mg base gI gJ)
abbrev GJ:ai->Dm Fl :=
 (aq (aB (ag 0) (hName 2))
 (aq (b9 (bP (ag 1)) (hName 3) (aB (aD Kv (af (ag 2) (af (ag 3) ah))) (hName 2)))
 (aN (ag 2))))
abbrev GK:List D->Dm D:=dE 4 GJ
abbrev GL:Stmt:=top 40
def Kx:ax ["floor","word","led","step"] ["floor","word"] (aj GL):=by walk
abbrev D34:=Gx1 "led_by" GL ["floor","word"]
abbrev G34:=Gx2 ["floor","word"] 6 2 GK
include dZ gK in
def zcL(D:D34 K mg f fd)(T:Txt mg):G34 P w K mg base f fd:=Kx|||((2>>=Kx>>=pv 0)<|>(oS (pv 1)&&&(cm (i:=3) Kx.nd rfl (by w_up))&&&(~~~(2>>=Kx>>=bF gK dZ hr ∅ rfl (pv 2<|pv 3<|au))))<|>(~~~(@cN _ _ _ _ (pv 2))))|||GJ
variable {oI:Addr}{oJ:FuncData}(iZ:D34 K mg oI oJ)(ke:G34 P w K mg base oI oJ)
abbrev GN:ai->Dm Fl :=
 (aq (aB (ao cu (ao ay (ag 0) #[1]) (ao ay (ag 1) #[1])) (hName 2))
 (aq (dg (az (ao (iM false) (ao ay (ag 0) #[0]) (fC (.str "t")))) (aB (ao kZ (ag 2) #[4]) (hName 2)) aK)
 (aq (dg (az (ao (iM false) (ag 2) #[0])) (aN (aX ah)) aK)
 (aN (aX (af (aX (af (ao ay (ag 0) #[0]) (af (ag 2) ah))) ah))))))
abbrev Ky:List D->Dm D:=dE 3 GN
abbrev GO:Stmt:=top 26
def N6:ax ["one","other","number"] ["one","other"] (aj GO):=by walk
abbrev D35:=Gx1 "joined" GO ["one","other"]
abbrev G35:=Gx2 ["one","other"] 1 2 Ky
def ycL(D:D35 K mg f fd)(T:Txt mg):G35 P w K mg base f fd:=N6|||((2>>=N6>>=bq mI (bA<*pv 0<*aG) (bA<*pv 1<*aG))<|>(eI oU (bA<*pv 0<*aG) rA (aH _)<*>(~~~(2>>=N6>>=bq tF (pv 2) aG))<*>kQ)<|>(eI oU (pv 2) aG (aH _)<*>(~~~(@cN _ _ _ _ (@dN _ _ _ _ _ au)))<*>kQ)<|>(~~~(@cN _ _ _ _ (@dN _ _ _ _ _ ((@dN _ _ _ _ _ ((bA<*pv 0<*aG)<|pv 2<|au))<|au)))))|||GN
variable {oK:Addr}{oM:FuncData}(nH:D35 K mg oK oM)(oN:G35 P w K mg base oK oM)
abbrev GP:ai->Dm Fl :=
 (aq (aB (aX ah) (hName 1))
 (aq (b9 (bP (ag 0)) (hName 2) (dg (tL (az (ao sQ (aD cK (af (ag 1) ah)) #[0])) (az (ao (iM false) (ao ay (ao ay (ag 1) (r6 mB #[1])) #[0]) (ao ay (ag 2) #[0])))) (aB (ao iN (CJ AE (ag 1) ny (pP (r6 mB #[1]))) (aD Ky (af (ao ay (ag 1) (r6 mB #[1])) (af (ag 2) ah)))) (hName 1)) (aB (ao iN (ag 1) (aX (af (ag 2) ah))) (hName 1))))
 (aN (ag 1))))
abbrev Kz:List D->Dm D:=dE 3 GP
abbrev GQ:Stmt:=top 27
def GS:ax ["word","plain","step"] ["word"] (aj GQ):=by walk
abbrev D36:=Gx1 "made_plain" GQ ["word"]
abbrev G36:=Gx2 ["word"] 2 1 Kz
include nH oN in
def XbJ(D:D36 K mg f fd)(T:Txt mg):G36 P w K mg base f fd:=GS|||((1>>=GS>>=(@dN _ _ _ _ _ au))<|>(oS (pv 0)&&&(cm (i:=2) GS.nd rfl (by w_up))&&&(~~~(PW.pt (LB (eI xU (jF mF (by rfl) T.bH mG (pv 1<|au)) aG (aH _)) (Lz (eI oU (bA<*(bA<*pv 1<*uh ui aG)<*aG) (bA<*pv 2<*aG) (aH _))))<*>(~~~(1>>=GS>>=bq wa (PH xdg (pv 1) Pz (PB (uh ui aG))) (bF oN nH hr ∅ rfl ((bA<*pv 1<*uh ui aG)<|pv 2<|au))))<*>(~~~(1>>=GS>>=bq wa (pv 1) (@dN _ _ _ _ _ (pv 2<|au)))))))<|>(~~~(@cN _ _ _ _ (pv 1))))|||GP
variable {i5:Addr}{i6:FuncData}(fO:D36 K mg i5 i6)(i7:G36 P w K mg base i5 i6)
abbrev GU:ai->Dm Fl :=
 (aN (aD Kz (af (ao iN (ag 0) (ag 1)) ah)))
abbrev GV:List D->Dm D:=dE 2 GU
abbrev GW:Stmt:=top 28
def zbt:ax ["one","other"] ["one","other"] (aj GW):=by walk
abbrev D37:=Gx1 "put_together" GW ["one","other"]
abbrev G37:=Gx2 ["one","other"] 3 2 GV
include fO i7 in
def ybt(D:D37 K mg f fd)(T:Txt mg):G37 P w K mg base f fd:=zbt|||(~~~(@cN _ _ _ _ (bF i7 fO hr ∅ rfl (bq wa (pv 0) (pv 1)<|au))))|||GU
variable {ft:Addr}{fu:FuncData}(bJ:D37 K mg ft fu)(bY:G37 P w K mg base ft fu)
abbrev GX:ai->Dm Fl :=
 (aq (aB (aD y2 (af (aD GK (af (ao bO (ag 0) (ag 2)) (af (aX (af (ag 3) ah)) ah))) ah)) (hName 4))
 (aq (dg (az (ao (rh true) (ag 4) (ag 0))) (aq (bu (ju "list" aI (ag 0) (af (ag 4) ah)))
 (bu (ju "list" aI (ag 1) (af (aD GV (af (ao bO (ag 1) (ag 2)) (af (aX (af (ag 3) ah)) ah))) ah)))) aK)
 (aN (ju "list" eY (ag 0) (af (ag 4) ah)))))
abbrev BO:List D->Dm D:=dE 5 GX
abbrev GY:Stmt:=top 47
def T6:ax ["forms","words","place","step","form"] ["forms","words","place","step"] (aj GY):=by walk
abbrev D38:=Gx1 "row_led_to" GY ["forms","words","place","step"]
abbrev G38:=Gx2 ["forms","words","place","step"] 7 4 BO
include bU cc iZ ke bJ bY in
def zbK(D:D38 K mg f fd)(T:Txt mg):G38 P w K mg base f fd:=T6|||((4>>=T6>>=bF cc bU hr ∅ rfl (bF ke iZ hr ∅ rfl ((og<*pv 0<*pv 2)<|(@dN _ _ _ _ _ (pv 3<|au))<|au)<|au))<|>(eI (Qu hu) (pv 4) (pv 0) (by with_unfolding_all rfl)<*>(pC (oD PySem.F.plainAttrs_list PySem.F.slot_list_append PySem.F.type_list_append p7 (pv 0) (pv 4<|au))<|>(~~~pC (oD PySem.F.plainAttrs_list PySem.F.slot_list_append PySem.F.type_list_append p7 (pv 1) (bF bY bJ hr ∅ rfl ((og<*pv 1<*pv 2)<|(@dN _ _ _ _ _ (pv 3<|au))<|au)<|au))))<*>kQ)<|>(~~~(@cN _ _ _ _ (oD PySem.F.plainAttrs_list PySem.F.slot_list_index PySem.F.type_list_index (QJ hu) (pv 0) (pv 4<|au)))))|||GX
variable {i9:Addr}{ja:FuncData}(dH:D38 K mg i9 ja)(fP:G38 P w K mg base i9 ja)
abbrev KA:ai->Dm Fl :=
 (aq (aB (b6 (af (aD y2 (af (ag 0) ah)) ah)) (hName 2))
 (aq (aB (b6 (af (aX ah) ah)) (hName 3))
 (aq (aB (b6 ah) (hName 4))
 (aq (fX (az (ao xm (aD cK (af (ag 4) ah)) (aD cK (af (ag 2) ah)))) (aq (dg (az (ao sQ (aD cK (af (ag 2) ah)) (ag 1))) sg aK)
 (aq (aB (aD cK (af (ag 4) ah)) (hName 5))
 (aq (aB (aD BO (af (ag 2) (af (ag 3) (af (ag 5) (af (fC (.tup [(.str "s"),(.int 1)])) ah))))) (hName 6))
 (aq (aB (aD BO (af (ag 2) (af (ag 3) (af (ag 5) (af (fC (.tup [(.str "t"),(.int 1)])) ah))))) (hName 7))
 (bu (ju "list" aI (ag 4) (af (aX (af (ag 6) (af (ag 7) ah))) ah))))))))
 (aN (aD bp (af (bQ (bW (af (aD cK (af (ag 2) ah)) ah)) 1 [2,3,4] (hName 0) bR (aX (af (ao bO (ag 1) (ag 0)) (af (ao bO (ag 2) (ag 0)) (af (ao ay (ao bO (ag 3) (ag 0)) #[0]) (af (ao ay (ao bO (ag 3) (ag 0)) #[1]) ah)))))) ah)))))))
abbrev C4:List D->Dm D:=dE 8 KA
abbrev GZ:Stmt:=top 46
def BP:ax ["floor","most","forms","words","leads","place","s","t"] ["floor","most"] (aj GZ):=by walk
include bU cc dH fP in
def xb5(D:vd K mg "chart_of" GZ ["floor","most"] [V.int 60] f fd)(T:Txt mg)(bh:p6 K mg "QUARTER_charts" cz (.tup [(.str "t"),(.int 1)]))(lr:p6 K mg "SHEAR" pg (.tup [(.str "s"),(.int 1)])):aC P w K mg base a6 8 f fd ["floor","most"] (a8 K 2 C4):=by
 refine D.F.ok BP (λ_ _ _ _ h=>h.1) (λc A o s H v Q E hr h=>?_);refine⟨_,((2>>=BP>>=(@kR _ _ _ _ (bF cc bU hr ∅ rfl (pv 0<|au)<|au)))<|>(3>>=BP>>=(@kR _ _ _ _ ((@dN _ _ _ _ _ au)<|au)))<|>(4>>=BP>>=(@kR _ _ _ _ au))<|>wK PassesOwn.never (eI zE (jF mF (by rfl) T.bH mG (pv 4<|au)) (jF mF (by rfl) T.bH mG (pv 2<|au)) (aH _)) ((eI xU (jF mF (by rfl) T.bH mG (pv 2<|au)) (pv 1) (aH _)<*>(~~~O3)<*>kQ)<|>(5>>=BP>>=jF mF (by rfl) T.bH mG (pv 4<|au))<|>(6>>=BP>>=bF fP dH hr ∅ rfl (pv 2<|pv 3<|pv 5<|Br lr rfl rfl ∅<|au))<|>(7>>=BP>>=bF fP dH hr ∅ rfl (pv 2<|pv 3<|pv 5<|Br bh rfl rfl ∅<|au))<|>(~~~pC (oD PySem.F.plainAttrs_list PySem.F.slot_list_append PySem.F.type_list_append p7 (pv 4) ((@dN _ _ _ _ _ (pv 6<|pv 7<|au))<|au))))<|>(~~~(@cN _ _ _ _ (gj oC (by rfl) T.a7 oE (rD (own:=["k"]) (fr:=["forms","words","leads"]) (js:=[2,3,4]) rfl (by k_in) (rB rfl T.aV (jF mF (by rfl) T.bH mG (pv 2<|au)<|au)) (λ_ _ _ _ _=>(cm (i:=0) (show((["k"]:List Str) ++ (["forms","words","leads"]:List Str)).Nodup by w_fin) rfl (by w_up))) (λ_ _ _ _ _=>rC) (λ_ _ _ _ _=>(@dN _ _ _ _ _ ((um (K:=K) rfl<*pv 1<*pv 0)<|(um (K:=K) rfl<*pv 2<*pv 0)<|(yd (K:=K) rfl<*(um (K:=K) rfl<*pv 3<*pv 0)<*aG)<|(yd (K:=K) rfl<*(um (K:=K) rfl<*pv 3<*pv 0)<*aG)<|au)))<|au))))),?_⟩
 exact eB (b:=KA) (kU (oi (wo (bD (oy (F:=y2) (bD (bG 0) c5) yT) c5)) (jO 2))
  (kU (oi (wo (bD (uo c5) c5)) (jO 3))
  (kU (oi (wo c5) (jO 4))
  (kU (JM (qf (jG M8 (qg vw (bD (bG 4) c5)) (qg vw (bD (bG 2) c5)))) (kU (uu (qf (jG ER (qg vw (bD (bG 2) c5)) (bG 1))) NM vz)
  (kU (oi (qg vw (bD (bG 4) c5)) (jO 5))
  (kU (oi (oy (F:=BO) (bD (bG 2) (bD (bG 3) (bD (bG 5) (bD (Bs lr) c5)))) T5) (jO 6))
  (kU (oi (oy (F:=BO) (bD (bG 2) (bD (bG 3) (bD (bG 5) (bD (Bs bh) c5)))) T5) (jO 7))
  (AK (CO CP (bG 4) (bD (uo (bD (bG 6) (bD (bG 7) c5))) c5))))))))
  (tO (qg ET (bD (EZ (EX (bD (qg vw (bD (bG 2) c5)) c5)) (jO 0) E1 (uo (bD (jG xn (bG 1) (bG 0)) (bD (jG xn (bG 2) (bG 0)) (bD (jG r9 (jG xn (bG 3) (bG 0)) (kT _)) (bD (jG r9 (jG xn (bG 3) (bG 0)) (kT _)) c5)))))) c5))))))) rfl h
variable {l8:Addr}{l9:FuncData}(eM:vd K mg "chart_of" GZ ["floor","most"] [V.int 60] l8 l9)(ma:aC P w K mg base a6 8 l8 l9 ["floor","most"] (a8 K 2 C4))
abbrev KC:ai->Dm Fl :=
 (aq (aB (b6 ah) (hName 1))
 (aq (aB #[1] (hName 2))
 (aq (b9 (mN (af (ag 0) ah)) (fW 2 (aO (hName 3) (aO (hName 4) gx))) (b9 (bP (aX (af (aX (af (fC (.tup [(.str "s"),(.int 1)])) (af (ao ay (ag 4) #[2]) ah))) (af (aX (af (fC (.tup [(.str "t"),(.int 1)])) (af (ao ay (ag 4) #[3]) ah))) ah)))) (fW 2 (aO (hName 5) (aO (hName 6) gx))) (dg (az (ao (iM false) (ag 6) (ag 2))) (aB (ao cu (ag 2) #[1]) (hName 2)) (bu (ju "list" aI (ag 1) (af (aX (af (ag 3) (af (ag 5) (af (ag 6) ah)))) ah))))))
 (aN (aD bp (af (ag 1) ah))))))
abbrev G0:List D->Dm D:=dE 7 KC
abbrev G1:Stmt:=top 51
def y3:ax ["chart","places","rows_so_far","number","row","step","reached"] ["chart"] (aj G1):=by walk
abbrev D39:=Gx1 "maker_places" G1 ["chart"]
abbrev G39:=Gx2 ["chart"] 1 1 G0
def Zbt(D:D39 K mg f fd)(T:Txt mg)(bh:p6 K mg "QUARTER_charts" cz (.tup [(.str "t"),(.int 1)]))(lr:p6 K mg "SHEAR" pg (.tup [(.str "s"),(.int 1)])):G39 P w K mg base f fd:=by
 refine D.F.ok y3 (λ_ _ _ _ h=>h.1) (λc A o s H v Q E hr h=>?_);refine⟨_,((1>>=y3>>=(@kR _ _ _ _ au))<|>(2>>=y3>>=aG)<|>(Jj rfl T.iQ (pv 0<|au)&&&qP (n:=2) rfl (jt (cm (i:=3) y3.nd rfl (by w_up)) (jt (cm (i:=4) y3.nd rfl (by w_up)) qE))&&&(~~~(oS (@dN _ _ _ _ _ ((@dN _ _ _ _ _ (Br lr rfl rfl ∅<|(bA<*pv 4<*aG)<|au))<|(@dN _ _ _ _ _ (Br bh rfl rfl ∅<|(bA<*pv 4<*aG)<|au))<|au))&&&qP (n:=2) rfl (jt (cm (i:=5) y3.nd rfl (by w_up)) (jt (cm (i:=6) y3.nd rfl (by w_up)) qE))&&&(~~~(eI oU (pv 6) (pv 2) (aH _)<*>(~~~(2>>=y3>>=bq mI (pv 2) aG))<*>(~~~pC (oD PySem.F.plainAttrs_list PySem.F.slot_list_append PySem.F.type_list_append p7 (pv 1) ((@dN _ _ _ _ _ (pv 3<|pv 5<|pv 6<|au))<|au))))))))<|>(~~~(@cN _ _ _ _ (gj oC (by rfl) T.a7 oE (pv 1<|au))))),?_⟩
 exact eB (b:=KC) (kU (oi (wo c5) (jO 1))
  (kU (oi (kT _) (jO 2))
  (kU (xr (Nd (bD (bG 0) c5)) (AJ (ur (jO 3) (ur (jO 4) AI))) (xr (CQ (uo (bD (uo (bD (Bs lr) (bD (jG r9 (bG 4) (kT _)) c5))) (bD (uo (bD (Bs bh) (bD (jG r9 (bG 4) (kT _)) c5))) c5)))) (AJ (ur (jO 5) (ur (jO 6) AI))) (uu (qf (jG CM (bG 6) (bG 2))) (oi (jG JJ (bG 2) (kT _)) (jO 2)) (AK (CO CP (bG 1) (bD (uo (bD (bG 3) (bD (bG 5) (bD (bG 6) c5)))) c5))))))
  (tO (qg ET (bD (bG 1) c5)))))) rfl h
variable {fw:Addr}{fz:FuncData}(bK:D39 K mg fw fz)(bZ:G39 P w K mg base fw fz)
abbrev G2:ai->Dm Fl :=
 (aN (aX (af (ao cu (ao cx (ao ay (ag 0) #[0]) (ao ay (ag 1) #[0])) (ao cx (ao ay (ag 0) #[1]) (ao ay (ag 1) #[2]))) (af (ao cu (ao cx (ao ay (ag 0) #[0]) (ao ay (ag 1) #[1])) (ao cx (ao ay (ag 0) #[1]) (ao ay (ag 1) #[3]))) (af (ao cu (ao cx (ao ay (ag 0) #[2]) (ao ay (ag 1) #[0])) (ao cx (ao ay (ag 0) #[3]) (ao ay (ag 1) #[2]))) (af (ao cu (ao cx (ao ay (ag 0) #[2]) (ao ay (ag 1) #[1])) (ao cx (ao ay (ag 0) #[3]) (ao ay (ag 1) #[3]))) ah))))))
abbrev y4:List D->Dm D:=dE 2 G2
abbrev G3:Stmt:=top 19
def XcY:ax ["one","other"] ["one","other"] (aj G3):=by walk
abbrev D40:=Gx1 "times" G3 ["one","other"]
abbrev G40:=Gx2 ["one","other"] 1 2 y4
def zcZ(D:D40 K mg f fd)(T:Txt mg):G40 P w K mg base f fd:=XcY|||(~~~(@cN _ _ _ _ (@dN _ _ _ _ _ (bq mI (bq pA (bA<*pv 0<*aG) (bA<*pv 1<*aG)) (bq pA (bA<*pv 0<*aG) (bA<*pv 1<*aG))<|bq mI (bq pA (bA<*pv 0<*aG) (bA<*pv 1<*aG)) (bq pA (bA<*pv 0<*aG) (bA<*pv 1<*aG))<|bq mI (bq pA (bA<*pv 0<*aG) (bA<*pv 1<*aG)) (bq pA (bA<*pv 0<*aG) (bA<*pv 1<*aG))<|bq mI (bq pA (bA<*pv 0<*aG) (bA<*pv 1<*aG)) (bq pA (bA<*pv 0<*aG) (bA<*pv 1<*aG))<|au))))|||G2
variable {qv:Addr}{qw:FuncData}(il:D40 K mg qv qw)(jw:G40 P w K mg base qv qw)
abbrev KD:ai->Dm Fl :=
 (aq (dg (az (ao (iM false) (ao ay (ag 0) #[0]) (fC (.str "s")))) (aN (aX (af #[1] (af (ao ay (ag 0) #[1]) (af #[0] (af #[1] ah)))))) aK)
 (aq (aB (fC (.tup [(.int 1),(.int 0),(.int 0),(.int 1)])) (hName 1))
 (aq (b9 (bW (af (ao ay (ag 0) #[1]) ah)) (hName 2) (aB (aD y4 (af (fC (.tup [(.int 0),(.int (-1)),(.int 1),(.int 0)])) (af (ag 1) ah))) (hName 1)))
 (aN (ag 1)))))
abbrev G4:List D->Dm D:=dE 3 KD
abbrev G5:Stmt:=top 24
def KG:ax ["step","table","turn"] ["step"] (aj G5):=by walk
abbrev D41:=Gx1 "step_table" G5 ["step"]
abbrev G41:=Gx2 ["step"] 2 1 G4
include il jw in
def ybK(D:D41 K mg f fd)(T:Txt mg)(d4:p6 K mg "QUARTER_words" ip (.tup [(.int 0),(.int (-1)),(.int 1),(.int 0)]))(fQ:p6 K mg "UNMOVED" lu (.tup [(.int 1),(.int 0),(.int 0),(.int 1)])):G41 P w K mg base f fd:=by
 refine D.F.ok KG (λ_ _ _ _ h=>h.1) (λc A o s H v Q E hr h=>?_);refine⟨_,((eI oU (bA<*pv 0<*aG) rA (aH _)<*>(~~~(@cN _ _ _ _ (@dN _ _ _ _ _ (aG<|(bA<*pv 0<*aG)<|aG<|aG<|au))))<*>kQ)<|>(1>>=KG>>=Br fQ rfl rfl ∅)<|>(rB rfl T.aV ((bA<*pv 0<*aG)<|au)&&&(cm (i:=2) KG.nd rfl (by w_up))&&&(~~~(1>>=KG>>=bF jw il hr ∅ rfl (Br d4 rfl rfl ∅<|pv 1<|au))))<|>(~~~(@cN _ _ _ _ (pv 1)))),?_⟩
 exact eB (b:=KD) (kU (uu (qf (jG CM (jG r9 (bG 0) (kT _)) (JH _))) (tO (uo (bD (kT _) (bD (jG r9 (bG 0) (kT _)) (bD (kT _) (bD (kT _) c5)))))) vz)
  (kU (oi (Bs fQ) (jO 1))
  (kU (xr (EX (bD (jG r9 (bG 0) (kT _)) c5)) (jO 2) (oi (oy (F:=y4) (bD (Bs d4) (bD (bG 1) c5)) rK) (jO 1)))
  (tO (bG 1))))) rfl h
variable {jb:Addr}{jc:FuncData}(fR:D41 K mg jb jc)(jd:G41 P w K mg base jb jc)
abbrev C5:ai->Dm Fl :=
 (aq (aB (fC (.tup [(.int 1),(.int 0),(.int 0),(.int 1)])) (hName 1))
 (aq (b9 (bP (ag 0)) (hName 2) (aB (aD y4 (af (aD G4 (af (ag 2) ah)) (af (ag 1) ah))) (hName 1)))
 (aN (ag 1))))
abbrev BQ:List D->Dm D:=dE 3 C5
abbrev G6:Stmt:=top 25
def KH:ax ["word","table","step"] ["word"] (aj G6):=by walk
abbrev D42:=Gx1 "table_of" G6 ["word"]
abbrev G42:=Gx2 ["word"] 3 1 BQ
include il jw fR jd in
def Xb5(D:D42 K mg f fd)(T:Txt mg)(fQ:p6 K mg "UNMOVED" lu (.tup [(.int 1),(.int 0),(.int 0),(.int 1)])):G42 P w K mg base f fd:=by
 refine D.F.ok KH (λ_ _ _ _ h=>h.1) (λc A o s H v Q E hr h=>?_);refine⟨_,((1>>=KH>>=Br fQ rfl rfl ∅)<|>(oS (pv 0)&&&(cm (i:=2) KH.nd rfl (by w_up))&&&(~~~(1>>=KH>>=bF jw il hr ∅ rfl (bF jd fR hr ∅ rfl (pv 2<|au)<|pv 1<|au))))<|>(~~~(@cN _ _ _ _ (pv 1)))),?_⟩
 exact eB (b:=C5) (kU (oi (Bs fQ) (jO 1))
  (kU (xr (CQ (bG 0)) (jO 2) (oi (oy (F:=y4) (bD (oy (F:=G4) (bD (bG 2) c5) yT) (bD (bG 1) c5)) rK) (jO 1)))
  (tO (bG 1)))) rfl h
variable {md:Addr}{mf:FuncData}(cf:D42 K mg md mf)(cF:G42 P w K mg base md mf)
abbrev G7:ai->Dm Fl :=
 (aq (dg (az (ao (iM false) (ao ay (ag 0) #[0]) (fC (.str "s")))) (aN (aX (af (fC (.str "s")) (af (r6 mB (ao ay (ag 0) #[1])) ah)))) aK)
 (aN (aX (af (fC (.str "t")) (af (ao ni #[4] (ao ay (ag 0) #[1])) ah)))))
abbrev KI:List D->Dm D:=dE 1 G7
abbrev G8:Stmt:=top 29
def xbU:ax ["step"] ["step"] (aj G8):=by walk
abbrev D43:=Gx1 "back_step" G8 ["step"]
abbrev G43:=Gx2 ["step"] 1 1 KI
def XbU(D:D43 K mg f fd)(T:Txt mg):G43 P w K mg base f fd:=xbU|||((eI oU (bA<*pv 0<*aG) rA (aH _)<*>(~~~(@cN _ _ _ _ (@dN _ _ _ _ _ (rA<|uh ui (bA<*pv 0<*aG)<|au))))<*>kQ)<|>(~~~(@cN _ _ _ _ (@dN _ _ _ _ _ (rA<|bq xT aG (bA<*pv 0<*aG)<|au)))))|||G7
variable {kf:Addr}{kg:FuncData}(iq:D43 K mg kf kg)(kh:G43 P w K mg base kf kg)
abbrev G9:ai->Dm Fl :=
 (aN (aD bp (af (bQ (sX (af (ag 0) ah)) 1 [] (hName 0) bR (aD KI (af (ag 0) ah))) ah)))
abbrev Ha:List D->Dm D:=dE 1 G9
abbrev Hb:Stmt:=top 30
def zbV:ax ["word"] ["word"] (aj Hb):=by walk
abbrev D44:=Gx1 "back_word" Hb ["word"]
abbrev G44:=Gx2 ["word"] 2 1 Ha
include iq kh in
def ybV(D:D44 K mg f fd)(T:Txt mg):G44 P w K mg base f fd:=zbV|||(~~~(@cN _ _ _ _ (gj oC (by rfl) T.a7 oE (rD (own:=["step"]) (fr:=[]) (js:=[]) rfl (by k_in) (Aa rfl T.sj (pv 0<|au)) (λ_ _ _ _ _=>(cm (i:=0) (show((["step"]:List Str) ++ ([]:List Str)).Nodup by w_fin) rfl (by w_up))) (λ_ _ _ _ _=>rC) (λ_ _ _ _ _=>(bF kh iq hr ∅ rfl (pv 0<|au)))<|au))))|||G9
variable {ki:Addr}{kj:FuncData}(cX:D44 K mg ki kj)(dC:G44 P w K mg base ki kj)
abbrev Hc:ai->Dm Fl :=
 (aq (aB (b6 ah) (hName 1))
 (aq (b9 (bP (aD G0 (af (ag 0) ah))) (fW 3 (aO (hName 2) (aO (hName 3) (aO (hName 4) gx)))) (bu (ju "list" aI (ag 1) (af (aD BQ (af (ao iN (ao iN (ao ay (ao ay (ag 0) (ag 2)) #[1]) (aX (af (ag 3) ah))) (aD Ha (af (ao ay (ao ay (ag 0) (ag 4)) #[1]) ah))) ah)) ah))))
 (aN (aD bp (af (ag 1) ah)))))
abbrev Hd:List D->Dm D:=dE 5 Hc
abbrev He:Stmt:=top 52
def Hf:ax ["chart","makers","number","step","reached"] ["chart"] (aj He):=by walk
abbrev D45:=Gx1 "makers_of" He ["chart"]
abbrev G45:=Gx2 ["chart"] 4 1 Hd
include bK bZ cf cF cX dC in
def ZbV(D:D45 K mg f fd)(T:Txt mg):G45 P w K mg base f fd:=Hf|||((1>>=Hf>>=(@kR _ _ _ _ au))<|>(oS (bF bZ bK hr ∅ rfl (pv 0<|au))&&&qP (n:=3) rfl (jt (cm (i:=2) Hf.nd rfl (by w_up)) (jt (cm (i:=3) Hf.nd rfl (by w_up)) (jt (cm (i:=4) Hf.nd rfl (by w_up)) qE)))&&&(~~~pC (oD PySem.F.plainAttrs_list PySem.F.slot_list_append PySem.F.type_list_append p7 (pv 1) (bF cF cf hr ∅ rfl (bq wa (bq wa (bA<*(bA<*pv 0<*pv 2)<*aG) (@dN _ _ _ _ _ (pv 3<|au))) (bF dC cX hr ∅ rfl ((bA<*(bA<*pv 0<*pv 4)<*aG)<|au))<|au)<|au))))<|>(~~~(@cN _ _ _ _ (gj oC (by rfl) T.a7 oE (pv 1<|au)))))|||Hc
variable {kl:Addr}{km:FuncData}(iu:D45 K mg kl km)(kn:G45 P w K mg base kl km)
abbrev Hg:ai->Dm Fl :=
 (aN (aD ql (af (bQ (bP (ag 0)) 2 [] (fW 2 (aO (hName 0) (aO (hName 1) gx))) bR (ao bO (b6 (af (aD q5 (af (ag 1) (af (ao ni #[0] (ag 1)) ah))) (af #[1] ah))) (aD pS (af (ao (iM false) (ag 0) (fC (.str "t"))) ah)))) ah)))
abbrev BR:List D->Dm D:=dE 1 Hg
abbrev Hh:Stmt:=top 74
def Xbt:ax ["_law_word"] ["_law_word"] (aj Hh):=by walk
abbrev D46:=Gx1 "_law_singles" Hh ["_law_word"]
abbrev G46:=Gx2 ["_law_word"] 1 1 BR
def zbu(D:D46 K mg f fd)(T:Txt mg):G46 P w K mg base f fd:=Xbt|||(~~~(@cN _ _ _ _ (jF (QI rfl) (by rfl) T.yW Qs (rD (own:=["_law_letter","_law_k"]) (fr:=[]) (js:=[]) rfl (by k_in) (oS (pv 0)) (λ_ _ _ _ _=>(Qq (K:=K) (n:=2) rfl rfl (jt (cm (i:=0) (show((["_law_letter","_law_k"]:List Str) ++ ([]:List Str)).Nodup by w_fin) rfl (by w_up)) (jt (cm (i:=1) (show((["_law_letter","_law_k"]:List Str) ++ ([]:List Str)).Nodup by w_fin) rfl (by w_up)) qE)))) (λ_ _ _ _ _=>rC) (λ_ _ _ _ _=>(um (K:=K) rfl<*(@kR _ _ _ _ (jF (Pj rfl) (by rfl) T.vO L8 (pv 1<|bq xT aG (pv 1)<|au)<|aG<|au))<*gj Pk (by rfl) T.yV Qb (DK oU (pv 0) rA (aH _)<|au)))<|au))))|||Hg
variable {fA:Addr}{fB:FuncData}(cG:D46 K mg fA fB)(dn:G46 P w K mg base fA fB)
abbrev Hi:ai->Dm Fl :=
 (aq (aB (b6 ah) (hName 1))
 (aq (aB #[1] (hName 2))
 (aq (b9 (bP (ag 0)) (fW 4 (aO (hName 3) (aO (hName 4) (aO (hName 5) (aO (hName 6) gx))))) (b9 (bP (aX (af (ag 5) (af (ag 6) ah)))) (hName 7) (dg (az (ao (iM false) (ag 7) (ag 2))) (aB (ao cu (ag 2) #[1]) (hName 2)) (bu (ju "list" aI (ag 1) (af (ao cu (ao cu #[1] (aD BR (af (ag 4) ah))) (aD BR (af (ao ay (ao ay (ag 0) (ag 7)) #[1]) ah))) ah))))))
 (aN (ag 1)))))
abbrev Hj:List D->Dm D:=dE 8 Hi
abbrev Hk:Stmt:=top 75
def xB:ax ["_law_chart_here","_law_found","_law_behind_here","_law_floor_here","_law_word","_law_s","_law_t","_law_goal"] ["_law_chart_here"] (aj Hk):=by walk
abbrev D47:=Gx1 "_law_long" Hk ["_law_chart_here"]
abbrev G47:=Gx2 ["_law_chart_here"] 2 1 Hj
include cG dn in
def YbV(D:D47 K mg f fd)(T:Txt mg):G47 P w K mg base f fd:=xB|||((1>>=xB>>=(@kR _ _ _ _ au))<|>(2>>=xB>>=aG)<|>(oS (pv 0)&&&qP (n:=4) rfl (jt (cm (i:=3) xB.nd rfl (by w_up)) (jt (cm (i:=4) xB.nd rfl (by w_up)) (jt (cm (i:=5) xB.nd rfl (by w_up)) (jt (cm (i:=6) xB.nd rfl (by w_up)) qE))))&&&(~~~(oS (@dN _ _ _ _ _ (pv 5<|pv 6<|au))&&&(cm (i:=7) xB.nd rfl (by w_up))&&&(~~~(eI oU (pv 7) (pv 2) (aH _)<*>(~~~(2>>=xB>>=bq mI (pv 2) aG))<*>(~~~pC (oD PySem.F.plainAttrs_list PySem.F.slot_list_append PySem.F.type_list_append p7 (pv 1) (bq mI (bq mI aG (bF dn cG hr ∅ rfl (pv 4<|au))) (bF dn cG hr ∅ rfl ((bA<*(bA<*pv 0<*pv 7)<*aG)<|au))<|au))))))))<|>(~~~(@cN _ _ _ _ (pv 1))))|||Hi
variable {ko:Addr}{kq:FuncData}(iw:D47 K mg ko kq)(kr:G47 P w K mg base ko kq)
abbrev Hl:ai->Dm Fl :=
 (aq (aB (ao cu (ao nY #[7901] (ag 1)) #[24697]) (hName 2))
 (aq (dg (az (ao xm (ag 1) (aD cK (af (ag 0) ah)))) (aB (ao bO (ag 0) (ag 1)) (hName 2)) (dg (az (ao sQ (aD cK (af (ag 0) ah)) #[0])) (aB (ao cu (ao nY (ao kZ (ao bO (ag 0) (ao kZ (ag 1) (aD cK (af (ag 0) ah)))) #[2147483629]) #[31]) (ao nY #[7901] (ag 1))) (hName 2)) aK))
 (aq (aB #[0] (hName 3))
 (aq (dg (az (ao M5 (ag 2) (ao vo #[10] #[18]))) (aB (ag 2) (hName 3)) aK)
 (aN (b6 (af (ag 3) (af (ao cu (ao kZ (ao vo (ao cu (ao nY (ao kZ (ag 2) #[2147483629]) #[48271]) (ao nY #[40692] (ag 1))) #[5]) #[2147483629]) #[1]) ah))))))))
abbrev xC:List D->Dm D:=dE 4 Hl
abbrev Hm:Stmt:=top 57
def C6:ax ["_law_script","_law_k","_law_cell","_law_own_here"] ["_law_script","_law_k"] (aj Hm):=by walk
abbrev D48:=Gx1 "_law_feed" Hm ["_law_script","_law_k"]
abbrev G48:=Gx2 ["_law_script","_law_k"] 1 2 xC
def xbV(D:D48 K mg f fd)(T:Txt mg):G48 P w K mg base f fd:=C6|||((2>>=C6>>=bq mI (bq vY aG (pv 1)) aG)<|>(eI zE (pv 1) (jF mF (by rfl) T.bH mG (pv 0<|au)) (aH _)<*>(~~~(2>>=C6>>=(og<*pv 0<*pv 1)))<*>(~~~(eI xU (jF mF (by rfl) T.bH mG (pv 0<|au)) aG (aH _)<*>(~~~(2>>=C6>>=bq mI (bq vY (bq tF (og<*pv 0<*bq tF (pv 1) (jF mF (by rfl) T.bH mG (pv 0<|au))) aG) aG) (bq vY aG (pv 1))))<*>kQ)))<|>(3>>=C6>>=aG)<|>(eI DJ (pv 2) (bq Pa aG aG) (aH _)<*>(~~~(3>>=C6>>=pv 2))<*>kQ)<|>(~~~(@cN _ _ _ _ (@kR _ _ _ _ (pv 3<|bq mI (bq tF (bq Pa (bq mI (bq vY (bq tF (pv 2) aG) aG) (bq vY aG (pv 1))) aG) aG) aG<|au)))))|||Hl
variable {ku:Addr}{ky:FuncData}(eN:D48 K mg ku ky)(iy:G48 P w K mg base ku ky)
abbrev Hn:ai->Dm Fl :=
 (aq (aB (ag 0) (fW 4 (aO (hName 2) (aO (hName 3) (aO (hName 4) (aO (hName 5) gx))))))
 (aq (aB (ag 1) (fW 4 (aO (hName 6) (aO (hName 7) (aO (hName 8) (aO (hName 9) gx))))))
 (aN (aX (af (ao cu (ao cx (ag 2) (ag 6)) (ao cx (ag 3) (ag 8))) (af (ao cu (ao cx (ag 2) (ag 7)) (ao cx (ag 3) (ag 9))) (af (ao cu (ao cx (ag 4) (ag 6)) (ao cx (ag 5) (ag 8))) (af (ao cu (ao cx (ag 4) (ag 7)) (ao cx (ag 5) (ag 9))) ah))))))))
abbrev KJ:List D->Dm D:=dE 10 Hn
abbrev Ho:Stmt:=top 67
def xD:ax ["_law_one","_law_other","_law_a","_law_b","_law_c","_law_d","_law_e","_law_f","_law_g","_law_h"] ["_law_one","_law_other"] (aj Ho):=by walk
abbrev D49:=Gx1 "_law_times" Ho ["_law_one","_law_other"]
abbrev G49:=Gx2 ["_law_one","_law_other"] 1 2 KJ
def ZbK(D:D49 K mg f fd)(T:Txt mg):G49 P w K mg base f fd:=xD|||(vX (pv 0) (qP (n:=4) rfl (jt (cm (i:=2) xD.nd rfl (by w_up)) (jt (cm (i:=3) xD.nd rfl (by w_up)) (jt (cm (i:=4) xD.nd rfl (by w_up)) (jt (cm (i:=5) xD.nd rfl (by w_up)) qE)))))<|>vX (pv 1) (qP (n:=4) rfl (jt (cm (i:=6) xD.nd rfl (by w_up)) (jt (cm (i:=7) xD.nd rfl (by w_up)) (jt (cm (i:=8) xD.nd rfl (by w_up)) (jt (cm (i:=9) xD.nd rfl (by w_up)) qE)))))<|>(~~~(@cN _ _ _ _ (@dN _ _ _ _ _ (bq mI (bq pA (pv 2) (pv 6)) (bq pA (pv 3) (pv 8))<|bq mI (bq pA (pv 2) (pv 7)) (bq pA (pv 3) (pv 9))<|bq mI (bq pA (pv 4) (pv 6)) (bq pA (pv 5) (pv 8))<|bq mI (bq pA (pv 4) (pv 7)) (bq pA (pv 5) (pv 9))<|au)))))|||Hn
variable {je:Addr}{jf:FuncData}(fS:D49 K mg je jf)(jg:G49 P w K mg base je jf)
abbrev Hq:ai->Dm Fl :=
 (aN (aX (af (ao ay (ag 0) #[3]) (af (ao ni #[0] (ao ay (ag 0) #[1])) (af (ao ni #[0] (ao ay (ag 0) #[2])) (af (ao ay (ag 0) #[0]) ah))))))
abbrev KL:List D->Dm D:=dE 1 Hq
abbrev Hr:Stmt:=top 72
def Ybx:ax ["_law_table_here"] ["_law_table_here"] (aj Hr):=by walk
abbrev D50:=Gx1 "_law_undone" Hr ["_law_table_here"]
abbrev G50:=Gx2 ["_law_table_here"] 1 1 KL
def xbx(D:D50 K mg f fd)(T:Txt mg):G50 P w K mg base f fd:=Ybx|||(~~~(@cN _ _ _ _ (@dN _ _ _ _ _ ((bA<*pv 0<*aG)<|bq xT aG (bA<*pv 0<*aG)<|bq xT aG (bA<*pv 0<*aG)<|(bA<*pv 0<*aG)<|au))))|||Hq
variable {gL:Addr}{gM:FuncData}(d5:D50 K mg gL gM)(gO:G50 P w K mg base gL gM)
abbrev Hs:ai->Dm Fl :=
 (aq (aB (aX (af #[1] (af #[0] (af #[0] (af #[1] ah))))) (hName 2))
 (aq (b9 (o9 (cS (ag 1)) (bP (ag 1))) (fW 2 (aO (hName 3) (aO (hName 4) gx))) (aB (aD KJ (af (ao bO (b6 (af (ao ay (ag 0) (ag 3)) (af (aD KL (af (ao ay (ag 0) (ag 3)) ah)) ah))) (aD pS (af (ao xm (ag 4) #[0]) ah))) (af (ag 2) ah))) (hName 2)))
 (aN (ag 2))))
abbrev uc:List D->Dm D:=dE 5 Hs
abbrev Ht:Stmt:=top 73
def Hu:ax ["_law_makers","_law_pairs","_law_come_here","_law_number","_law_sign"] ["_law_makers","_law_pairs"] (aj Ht):=by walk
abbrev D51:=Gx1 "_law_come" Ht ["_law_makers","_law_pairs"]
abbrev G51:=Gx2 ["_law_makers","_law_pairs"] 2 2 uc
include fS jg d5 gO in
def XbV(D:D51 K mg f fd)(T:Txt mg):G51 P w K mg base f fd:=Hu|||((2>>=Hu>>=(@dN _ _ _ _ _ (aG<|aG<|aG<|aG<|au)))<|>(BI (Ct (pv 1)) (oS (pv 1))&&&qP (n:=2) rfl (jt (cm (i:=3) Hu.nd rfl (by w_up)) (jt (cm (i:=4) Hu.nd rfl (by w_up)) qE))&&&(~~~(2>>=Hu>>=bF jg fS hr ∅ rfl ((og<*(@kR _ _ _ _ ((bA<*pv 0<*pv 3)<|bF gO d5 hr ∅ rfl ((bA<*pv 0<*pv 3)<|au)<|au))<*gj Pk (by rfl) T.yV Qb (DK zE (pv 4) aG (aH _)<|au))<|pv 2<|au))))<|>(~~~(@cN _ _ _ _ (pv 2))))|||Hs
variable {kz:Addr}{kA:FuncData}(dD:D51 K mg kz kA)(eO:G51 P w K mg base kz kA)
abbrev Hv:ai->Dm Fl :=
 (aN (aX (af (ao cu (ao cx (ao ay (ag 0) #[0]) (ao ay (ag 1) #[0])) (ao cx (ao ay (ag 0) #[1]) (ao ay (ag 1) #[1]))) (af (ao cu (ao cx (ao ay (ag 0) #[2]) (ao ay (ag 1) #[0])) (ao cx (ao ay (ag 0) #[3]) (ao ay (ag 1) #[1]))) ah))))
abbrev KN:List D->Dm D:=dE 2 Hv
abbrev Hw:Stmt:=top 20
def zb6:ax ["table","pair"] ["table","pair"] (aj Hw):=by walk
abbrev D52:=Gx1 "led_pair" Hw ["table","pair"]
abbrev G52:=Gx2 ["table","pair"] 1 2 KN
def yb6(D:D52 K mg f fd)(T:Txt mg):G52 P w K mg base f fd:=zb6|||(~~~(@cN _ _ _ _ (@dN _ _ _ _ _ (bq mI (bq pA (bA<*pv 0<*aG) (bA<*pv 1<*aG)) (bq pA (bA<*pv 0<*aG) (bA<*pv 1<*aG))<|bq mI (bq pA (bA<*pv 0<*aG) (bA<*pv 1<*aG)) (bq pA (bA<*pv 0<*aG) (bA<*pv 1<*aG))<|au))))|||Hv
variable {mh:Addr}{mj:FuncData}(jT:D52 K mg mh mj)(ml:G52 P w K mg base mh mj)
abbrev Hx:ai->Dm Fl :=
 (aq (dg (az (ao (iM false) (ag 0) #[0])) (aN (aX ah)) aK)
 (aN (aX (af (aX (af (fC (.str "s")) (af (ag 0) ah))) ah))))
abbrev C7:List D->Dm D:=dE 1 Hx
abbrev Hy:Stmt:=top 35
def ZcL:ax ["k"] ["k"] (aj Hy):=by walk
abbrev D53:=Gx1 "shears" Hy ["k"]
abbrev G53:=Gx2 ["k"] 1 1 C7
def YcL(D:D53 K mg f fd)(T:Txt mg):G53 P w K mg base f fd:=ZcL|||((eI oU (pv 0) aG (aH _)<*>(~~~(@cN _ _ _ _ (@dN _ _ _ _ _ au)))<*>kQ)<|>(~~~(@cN _ _ _ _ (@dN _ _ _ _ _ ((@dN _ _ _ _ _ (rA<|pv 0<|au))<|au)))))|||Hx
variable {oO:Addr}{oP:FuncData}(gP:D53 K mg oO oP)(jh:G53 P w K mg base oO oP)
abbrev Hz:ai->Dm Fl :=
 (aN (ao qm (ao cu (ao nY #[2] (ag 0)) (ag 1)) (ao nY #[2] (ag 1))))
abbrev KO:List D->Dm D:=dE 2 Hz
abbrev HA:Stmt:=top 34
def xco:ax ["number","divisor"] ["number","divisor"] (aj HA):=by walk
abbrev D54:=Gx1 "nearest" HA ["number","divisor"]
abbrev G54:=Gx2 ["number","divisor"] 1 2 KO
def Xco(D:D54 K mg f fd)(T:Txt mg):G54 P w K mg base f fd:=xco|||(~~~(@cN _ _ _ _ (bq Xh (bq mI (bq vY aG (pv 0)) (pv 1)) (bq vY aG (pv 1)))))|||Hz
variable {nI:Addr}{nJ:FuncData}(lz:D54 K mg nI nJ)(nK:G54 P w K mg base nI nJ)
abbrev HB:ai->Dm Fl :=
 (aq (aB (aX ah) (hName 1))
 (aq (aB (ag 0) (hName 2))
 (aq (fX (az (ao (iM true) (ao ay (ag 2) #[1]) #[0])) (aq (aB (ao iN (aD C7 (af (r6 mB (aD KO (af (ao ay (ag 2) #[0]) (af (ao ay (ag 2) #[1]) ah)))) ah)) (aX (af (aX (af (fC (.str "t")) (af #[1] ah))) ah))) (hName 3))
 (aq (aB (aD KN (af (aD BQ (af (ag 3) ah)) (af (ag 2) ah))) (hName 2))
 (aB (ao iN (ag 1) (ag 3)) (hName 1)))))
 (aN (ag 1)))))
abbrev KP:List D->Dm D:=dE 4 HB
abbrev HC:Stmt:=top 33
def C8:ax ["pair","gone","left","steps"] ["pair"] (aj HC):=by walk
abbrev D55:=Gx1 "level_steps" HC ["pair"]
abbrev G55:=Gx2 ["pair"] 4 1 KP
include cf cF jT ml gP jh lz nK in
def Xbx(D:D55 K mg f fd)(T:Txt mg):G55 P w K mg base f fd:=C8|||((1>>=C8>>=(@dN _ _ _ _ _ au))<|>(2>>=C8>>=pv 0)<|>wK PassesOwn.never (eI DI (bA<*pv 2<*aG) aG (aH _)) ((3>>=C8>>=bq wa (bF jh gP hr ∅ rfl (uh ui (bF nK lz hr ∅ rfl ((bA<*pv 2<*aG)<|(bA<*pv 2<*aG)<|au))<|au)) (@dN _ _ _ _ _ ((@dN _ _ _ _ _ (rA<|aG<|au))<|au)))<|>(2>>=C8>>=bF ml jT hr ∅ rfl (bF cF cf hr ∅ rfl (pv 3<|au)<|pv 2<|au))<|>(~~~(1>>=C8>>=bq wa (pv 1) (pv 3))))<|>(~~~(@cN _ _ _ _ (pv 1))))|||HB
variable {gQ:Addr}{gR:FuncData}(d8:D55 K mg gQ gR)(gT:G55 P w K mg base gQ gR)
abbrev HD:ai->Dm Fl :=
 (aN (sP (ao (iM false) (aD cK (af (ag 0) ah)) #[4]) (ao (iM false) (ao ni (ao cx (ao ay (ag 0) #[0]) (ao ay (ag 0) #[3])) (ao cx (ao ay (ag 0) #[1]) (ao ay (ag 0) #[2]))) #[1])))
abbrev KQ:List D->Dm D:=dE 1 HD
abbrev HE:Stmt:=top 18
def Zb6:ax ["thing"] ["thing"] (aj HE):=by walk
abbrev D56:=Gx1 "is_table" HE ["thing"]
abbrev G56:=Gx2 ["thing"] 1 1 KQ
def Yb6(D:D56 K mg f fd)(T:Txt mg):G56 P w K mg base f fd:=Zb6|||(~~~(@cN _ _ _ _ (zx (DK oU (jF mF (by rfl) T.bH mG (pv 0<|au)) aG (aH _)) (zw (DK oU (bq xT (bq pA (bA<*pv 0<*aG) (bA<*pv 0<*aG)) (bq pA (bA<*pv 0<*aG) (bA<*pv 0<*aG))) aG (aH _))))))|||HD
variable {mq:Addr}{mr:FuncData}(jU:D56 K mg mq mr)(mv:G56 P w K mg base mq mr)
abbrev HF:ai->Dm Fl :=
 (aq (dg (az (ao (iM false) (ao ay (ag 0) #[0]) #[1])) (aN (aD C7 (af (ao ay (ag 0) #[1]) ah))) aK)
 (aN (ao iN (aX (af (aX (af (fC (.str "t")) (af #[2] ah))) ah)) (aD C7 (af (r6 mB (ao ay (ag 0) #[1])) ah)))))
abbrev KR:List D->Dm D:=dE 1 HF
abbrev HG:Stmt:=top 36
def YbK:ax ["table"] ["table"] (aj HG):=by walk
abbrev D57:=Gx1 "level_word" HG ["table"]
abbrev G57:=Gx2 ["table"] 2 1 KR
include gP jh in
def xbK(D:D57 K mg f fd)(T:Txt mg):G57 P w K mg base f fd:=YbK|||((eI oU (bA<*pv 0<*aG) aG (aH _)<*>(~~~(@cN _ _ _ _ (bF jh gP hr ∅ rfl ((bA<*pv 0<*aG)<|au))))<*>kQ)<|>(~~~(@cN _ _ _ _ (bq wa (@dN _ _ _ _ _ ((@dN _ _ _ _ _ (rA<|aG<|au))<|au)) (bF jh gP hr ∅ rfl (uh ui (bA<*pv 0<*aG)<|au))))))|||HF
variable {ji:Addr}{jk:FuncData}(fT:D57 K mg ji jk)(jl:G57 P w K mg base ji jk)
abbrev HI:ai->Dm Fl :=
 (aq (dg (xk (az (aD KQ (af (ag 0) ah)))) sg aK)
 (aq (aB (aD KP (af (aX (af (ao ay (ag 0) #[0]) (af (ao ay (ag 0) #[2]) ah))) ah)) (hName 1))
 (aN (aD GV (af (aD KR (af (aD y4 (af (aD BQ (af (ag 1) ah)) (af (ag 0) ah))) ah)) (af (aD Ha (af (ag 1) ah)) ah))))))
abbrev uy:List D->Dm D:=dE 2 HI
abbrev HJ:Stmt:=top 32
def T7:ax ["table","gone"] ["table"] (aj HJ):=by walk
abbrev D58:=Gx1 "word_of" HJ ["table"]
abbrev G58:=Gx2 ["table"] 5 1 uy
include bJ bY il jw cf cF cX dC d8 gT jU mv fT jl in
def zcp(D:D58 K mg f fd)(T:Txt mg):G58 P w K mg base f fd:=T7|||((zv (zu (bF mv jU hr ∅ rfl (pv 0<|au)))<*>(~~~O3)<*>kQ)<|>(1>>=T7>>=bF gT d8 hr ∅ rfl ((@dN _ _ _ _ _ ((bA<*pv 0<*aG)<|(bA<*pv 0<*aG)<|au))<|au))<|>(~~~(@cN _ _ _ _ (bF bY bJ hr ∅ rfl (bF jl fT hr ∅ rfl (bF jw il hr ∅ rfl (bF cF cf hr ∅ rfl (pv 1<|au)<|pv 0<|au)<|au)<|bF dC cX hr ∅ rfl (pv 1<|au)<|au)))))|||HI
variable {nL:Addr}{nM:FuncData}(cY:D58 K mg nL nM)(dr:G58 P w K mg base nL nM)
abbrev HK:ai->Dm Fl :=
 (aN (aD y2 (af (aD GK (af (ag 0) (af (aD uy (af (ag 1) ah)) ah))) ah)))
abbrev xE:List D->Dm D:=dE 2 HK
abbrev HL:Stmt:=top 42
def ybu:ax ["floor","table"] ["floor","table"] (aj HL):=by walk
abbrev D59:=Gx1 "led_by_table" HL ["floor","table"]
abbrev G59:=Gx2 ["floor","table"] 7 2 xE
include bU cc iZ ke cY dr in
def Zbu(D:D59 K mg f fd)(T:Txt mg):G59 P w K mg base f fd:=ybu|||(~~~(@cN _ _ _ _ (bF cc bU hr ∅ rfl (bF ke iZ hr ∅ rfl (pv 0<|bF dr cY hr ∅ rfl (pv 1<|au)<|au)<|au))))|||HK
variable {fD:Addr}{fE:FuncData}(bL:D59 K mg fD fE)(b5:G59 P w K mg base fD fE)
abbrev HM:ai->Dm Fl :=
 (aN (ao (eJ false) (aD xE (af (ag 0) (af (ag 1) ah))) (aD y2 (af (ag 0) ah))))
abbrev BS:List D->Dm D:=dE 2 HM
abbrev HN:Stmt:=top 50
def zby:ax ["floor","table"] ["floor","table"] (aj HN):=by walk
abbrev D60:=Gx1 "is_of_group" HN ["floor","table"]
abbrev G60:=Gx2 ["floor","table"] 8 2 BS
include bU cc bL b5 in
def yby(D:D60 K mg f fd)(T:Txt mg):G60 P w K mg base f fd:=zby|||(~~~(@cN _ _ _ _ (DK (zT hu) (bF b5 bL hr ∅ rfl (pv 0<|pv 1<|au)) (bF cc bU hr ∅ rfl (pv 0<|au)) (aH _))))|||HM
variable {gU:Addr}{gW:FuncData}(d9:D60 K mg gU gW)(gX:G60 P w K mg base gU gW)
abbrev HP:ai->Dm Fl :=
 (aN (aX (af (aD bp (af (bQ (bP (ag 0)) 1 [] (hName 0) bR (ao ay (ag 0) #[2])) ah)) (af (aD bp (af (bQ (bP (ag 0)) 1 [] (hName 0) bR (ao ay (ag 0) #[3])) ah)) ah))))
abbrev KS:List D->Dm D:=dE 1 HP
abbrev HQ:Stmt:=top 48
def Ybu:ax ["chart"] ["chart"] (aj HQ):=by walk
abbrev D61:=Gx1 "row_turnings" HQ ["chart"]
abbrev G61:=Gx2 ["chart"] 1 1 KS
def xbu(D:D61 K mg f fd)(T:Txt mg):G61 P w K mg base f fd:=Ybu|||(~~~(@cN _ _ _ _ (@dN _ _ _ _ _ (gj oC (by rfl) T.a7 oE (rD (own:=["row"]) (fr:=[]) (js:=[]) rfl (by k_in) (oS (pv 0)) (λ_ _ _ _ _=>(cm (i:=0) (show((["row"]:List Str) ++ ([]:List Str)).Nodup by w_fin) rfl (by w_up))) (λ_ _ _ _ _=>rC) (λ_ _ _ _ _=>(yd (K:=K) rfl<*pv 0<*aG))<|au)<|gj oC (by rfl) T.a7 oE (rD (own:=["row"]) (fr:=[]) (js:=[]) rfl (by k_in) (oS (pv 0)) (λ_ _ _ _ _=>(cm (i:=0) (show((["row"]:List Str) ++ ([]:List Str)).Nodup by w_fin) rfl (by w_up))) (λ_ _ _ _ _=>rC) (λ_ _ _ _ _=>(yd (K:=K) rfl<*pv 0<*aG))<|au)<|au))))|||HP
variable {fF:Addr}{fG:FuncData}(du:D61 K mg fF fG)(fH:G61 P w K mg base fF fG)
abbrev HR:ai->Dm Fl :=
 (aq (aB vN (hName 1))
 (aq (b9 (mN (af (aD G0 (af (ag 0) ah)) ah)) (fW 2 (aO (hName 2) (aO (hName 3) gx))) (tm (ag 1) (af (ao ay (ag 3) #[0]) (af (ao ay (ao ay (ag 3) #[1]) #[0]) ah)) (ag 2)))
 (aN (ag 1))))
abbrev KU:List D->Dm D:=dE 4 HR
abbrev HS:Stmt:=top 54
def KW:ax ["chart","numbers","maker","place"] ["chart"] (aj HS):=by walk
abbrev D62:=Gx1 "maker_numbers" HS ["chart"]
abbrev G62:=Gx2 ["chart"] 2 1 KU
include bK bZ in
def zbk(D:D62 K mg f fd)(T:Txt mg):G62 P w K mg base f fd:=by refine D.F.ok KW (λ_ _ _ _ h=>h.1) (λc A o s H v Q E hr h=>?_);have hu1:=L7 hr;refine⟨_,((1>>=KW>>=Wf)<|>(Jj rfl T.iQ (bF bZ bK hr ∅ rfl (pv 0<|au)<|au)&&&qP (n:=2) rfl (jt (cm (i:=2) KW.nd rfl (by w_up)) (jt (cm (i:=3) KW.nd rfl (by w_up)) qE))&&&(~~~P1 hu1 (pv 1) (@dN _ _ _ _ _ ((bA<*pv 3<*aG)<|(bA<*(bA<*pv 3<*aG)<*aG)<|au)) (pv 2) rfl))<|>(~~~(@cN _ _ _ _ (pv 1)))),?_⟩;exact eB (b:=HR) (by delta HR;o_norm) rfl h
variable {eh:Addr}{eo:FuncData}(cZ:D62 K mg eh eo)(eA:G62 P w K mg base eh eo)
abbrev HU:ai->Dm Fl :=
 (aq (aB (b6 ah) (hName 1))
 (aq (b9 (bP (ag 0)) (hName 2) (aq (aB (dg (az (ao sQ (ao ay (ag 2) #[1]) #[0])) #[1] (r6 mB #[1])) (hName 3))
 (bu (ju "list" lM (ag 1) (af (ao tM (b6 (af (aX (af (ao ay (ag 2) #[0]) (af (ag 3) ah))) ah)) (aD sf (af (ao ay (ag 2) #[1]) ah))) ah)))))
 (aN (ag 1))))
abbrev HV:List D->Dm D:=dE 4 HU
abbrev HW:Stmt:=top 55
def KY:ax ["word","singles","step","way"] ["word"] (aj HW):=by walk
abbrev D63:=Gx1 "single_steps" HW ["word"]
abbrev G63:=Gx2 ["word"] 1 1 HV
def Xbu(D:D63 K mg f fd)(T:Txt mg):G63 P w K mg base f fd:=KY|||((1>>=KY>>=(@kR _ _ _ _ au))<|>(oS (pv 0)&&&(cm (i:=2) KY.nd rfl (by w_up))&&&((3>>=KY>>=O2 (eI xU (bA<*pv 2<*aG) aG (aH _)) aG (uh ui aG))<|>(~~~pC (oD PySem.F.plainAttrs_list PySem.F.slot_list_extend PySem.F.type_list_extend V2 (pv 1) (bq LW (@kR _ _ _ _ ((@dN _ _ _ _ _ ((bA<*pv 2<*aG)<|pv 3<|au))<|au)) (jF Ph (by rfl) T.yU Qr ((bA<*pv 2<*aG)<|au))<|au)))))<|>(~~~(@cN _ _ _ _ (pv 1))))|||HU
variable {fI:Addr}{fJ:FuncData}(dw:D63 K mg fI fJ)(fK:G63 P w K mg base fI fJ)
abbrev HX:ai->Dm Fl :=
 (aq (aB (aD KS (af (ag 0) ah)) (hName 2))
 (aq (aB (sW (o4 (fC (.str "s")) (ao ay (ag 2) #[0]) (o4 (fC (.str "t")) (ao ay (ag 2) #[1]) vF))) (hName 3))
 (aq (aB (aD BN (af (ao ay (ag 2) #[0]) ah)) (hName 4))
 (aq (aB (aD KU (af (ag 0) ah)) (hName 5))
 (aq (aB (b6 ah) (hName 6))
 (aq (aB #[0] (hName 7))
 (aq (b9 (cS (aD HV (af (aD uy (af (ag 1) ah)) ah))) (fW 2 (aO (hName 8) (aO (hName 9) gx))) (aq (dg (az (ao (iM false) (ag 9) (r6 mB #[1]))) (aB (ao ay (ag 4) (ag 7)) (hName 7)) aK)
 (aq (dg (az (si (af (ag 7) (af (ag 8) ah)) 5)) (bu (ju "list" aI (ag 6) (af (aX (af (pd (ag 5) (af (ag 7) (af (ag 8) ah))) (af (ag 9) ah))) ah))) aK)
 (dg (az (ao (iM false) (ag 9) #[1])) (aB (ao ay (nz (ag 3) (ag 8)) (ag 7)) (hName 7)) aK))))
 (aN (dg (az (ao (iM false) (ag 7) #[0])) (aD bp (af (ag 6) ah)) (fC .non))))))))))
abbrev BU:List D->Dm D:=dE 10 HX
abbrev HY:Stmt:=top 53
def vR:ax ["chart","table","turnings","ahead","back","numbers","pairs","row","letter","way"] ["chart","table"] (aj HY):=by walk
abbrev D64:=Gx1 "written_by" HY ["chart","table"]
abbrev G64:=Gx2 ["chart","table"] 6 2 BU
include aT aW cY dr du fH cZ eA dw fK in
def XbK(D:D64 K mg f fd)(T:Txt mg):G64 P w K mg base f fd:=by refine D.F.ok vR (λ_ _ _ _ h=>h.1) (λc A o s H v Q E hr h=>?_);have hu1:=L7 hr;refine⟨_,((2>>=vR>>=bF fH du hr ∅ rfl (pv 0<|au))<|>(3>>=vR>>=(@Wi _ _ _ _ _ (@P5 _ _ _ _ _ _ _ _ _ rA (bA<*pv 2<*aG) (@P5 _ _ _ _ _ _ _ _ _ rA (bA<*pv 2<*aG) Wg)) rfl rfl ∅ ∅))<|>(4>>=vR>>=bF aW aT hr ∅ rfl ((bA<*pv 2<*aG)<|au))<|>(5>>=vR>>=bF eA cZ hr ∅ rfl (pv 0<|au))<|>(6>>=vR>>=(@kR _ _ _ _ au))<|>(7>>=vR>>=aG)<|>(Ct (bF fK dw hr ∅ rfl (bF dr cY hr ∅ rfl (pv 1<|au)<|au))&&&qP (n:=2) rfl (jt (cm (i:=8) vR.nd rfl (by w_up)) (jt (cm (i:=9) vR.nd rfl (by w_up)) qE))&&&((eI oU (pv 9) (uh ui aG) (aH _)<*>(~~~(7>>=vR>>=(bA<*pv 4<*pv 7)))<*>kQ)<|>(OZ (zQ hu1 (@dN _ _ _ _ _ (pv 7<|pv 8<|au)) (pv 5))<*>(~~~pC (oD PySem.F.plainAttrs_list PySem.F.slot_list_append PySem.F.type_list_append p7 (pv 6) ((@dN _ _ _ _ _ (P0 hu1 (pv 5) (@dN _ _ _ _ _ (pv 7<|pv 8<|au)) (λ_ _=>rfl)<|pv 9<|au))<|au)))<*>kQ)<|>(~~~(eI oU (pv 9) aG (aH _)<*>(~~~(7>>=vR>>=(bA<*P0 hu1 (pv 3) (pv 8) (λ_ _=>rfl)<*pv 7)))<*>kQ))))<|>(~~~(@cN _ _ _ _ (O2 (eI oU (pv 7) aG (aH _)) (gj oC (by rfl) T.a7 oE (pv 6<|au)) Ly)))),?_⟩;exact eB (b:=HX) (by delta HX;o_norm) rfl h
variable {jm:Addr}{jn:FuncData}(fU:D64 K mg jm jn)(jq:G64 P w K mg base jm jn)
abbrev HZ:ai->Dm Fl :=
 (aq (b9 (bP (ag 1)) (hName 2) (aB (aD yX (af (ag 0) (af (ag 2) ah))) (hName 0)))
 (aN (ag 0)))
abbrev BV:List D->Dm D:=dE 3 HZ
abbrev Ie:Stmt:=top 64
def N7:ax ["_law_floor_here","_law_word","_law_step"] ["_law_floor_here","_law_word"] (aj Ie):=by walk
abbrev D65:=Gx1 "_law_led" Ie ["_law_floor_here","_law_word"]
abbrev G65:=Gx2 ["_law_floor_here","_law_word"] 3 2 BV
include bI bX in
def xb6(D:D65 K mg f fd)(T:Txt mg):G65 P w K mg base f fd:=N7|||((oS (pv 1)&&&(cm (i:=2) N7.nd rfl (by w_up))&&&(~~~(0>>=N7>>=bF bX bI hr ∅ rfl (pv 0<|pv 2<|au))))<|>(~~~(@cN _ _ _ _ (pv 0))))|||HZ
variable {mw:Addr}{mx:FuncData}(jV:D65 K mg mw mx)(my:G65 P w K mg base mw mx)
abbrev KZ:ai->Dm Fl :=
 (aq (aB (aD C1 (af (aD xC (af (ag 0) (af #[1] ah))) (af #[30] ah))) (fW 2 (aO (hName 1) (aO (hName 2) gx))))
 (aq (aB (aD (λas=>C4 (as ++ [.int 60])) (af (ag 1) ah)) (hName 3))
 (aq (aB (aD Hd (af (ag 3) ah)) (hName 4))
 (aq (aB (aD Hj (af (ag 2) ah)) (hName 5))
 (aq (dg (wt (az (ao (eJ true) (ag 3) (ag 2))) (az (ao (iM true) (aD cK (af (ag 4) ah)) (aD cK (af (ag 5) ah))))) (aN (fC (.bl false))) aK)
 (aq (b9 (qj (af #[2] (af (aD q5 (af #[5] (af (aD sR (af #[9] (af (aD cK (af (ag 0) ah)) ah))) ah))) ah))) (hName 6) (aq (aB (aD xC (af (ag 0) (af (ag 6) ah))) (hName 7))
 (aq (aB (b6 ah) (hName 8))
 (aq (b9 (bW (af (aD qJ (af (ag 7) (af #[3] ah))) ah)) (hName 9) (bu (ju "list" aI (ag 8) (af (aX (af (aD qJ (af (ag 7) (af (aD cK (af (ag 4) ah)) ah))) (af (ao bO (b6 (af #[1] (af (ao ni #[0] #[1]) ah))) (aD qJ (af (ag 7) (af #[2] ah)))) ah))) ah))))
 (aq (aB (aD uc (af (ag 4) (af (ag 8) ah))) (hName 10))
 (aq (fX (wt (az (ao sQ (aD oo (af (bQ (bP (ag 10)) 1 [] (hName 0) bR (aD sf (af (ag 0) ah))) ah)) #[1000])) (az (ao sQ (aD ql (af (bQ (cS (ag 8)) 2 [5] (fW 2 (aO (hName 0) (aO (hName 1) gx))) bR (ao bO (ag 2) (ag 0))) ah)) #[60]))) (aq (bu (tR "list" tU (ag 8)))
 (aB (aD uc (af (ag 4) (af (ag 8) ah))) (hName 10))))
 (aq (dg (wt (az (ao (tQ true) (aD BS (af (ag 1) (af (ag 10) ah))) (fC (.bl true)))) (az (ao (eJ true) (aD xE (af (ag 1) (af (ag 10) ah))) (ao ay (ao ay (ag 2) #[0]) #[0])))) (aN (fC (.bl false))) aK)
 (aq (dg (az (ao (eJ true) (aD uc (af (ag 4) (af (aD BU (af (ag 3) (af (ag 10) ah))) ah))) (ag 10))) (aN (fC (.bl false))) aK)
 (dg (az (ao (eJ true) (aD vQ (af (aD BV (af (ag 1) (af (aD uy (af (ag 10) ah)) ah))) ah)) (ao ay (ao ay (ag 2) #[0]) #[0]))) (aN (fC (.bl false))) aK)))))))))
 (aN (fC (.bl true)))))))))
abbrev N8:List D->Dm D:=dE 11 KZ
abbrev K0:Stmt:=top 76
def uz:ax ["_law_script","_law_floor_here","_law_chart_here","_law_told","_law_makers","_law_steps","_law_k","_law_feed_here","_law_pairs","_law_turn","_law_table_here"] ["_law_script"] (aj K0):=by walk
abbrev D66:=Gx1 "law" K0 ["_law_script"]
abbrev G66:=Gx2 ["_law_script"] 9 1 N8
include aP aS cq cV jR lV eM ma iu kn iw kr eN iy dD eO cY dr bL b5 d9 gX fU jq jV my in
def BW(D:D66 K mg f fd)(T:Txt mg):G66 P w K mg base f fd:=by
 refine D.F.ok uz (λ_ _ _ _ h=>h.1) (λc A o s H v Q E hr h=>?_);have hu:=hr.units;refine⟨_,(vX (bF lV jR hr ∅ rfl (bF iy eN hr ∅ rfl (pv 0<|aG<|au)<|aG<|au)) (qP (n:=2) rfl (jt (cm (i:=1) uz.nd rfl (by w_up)) (jt (cm (i:=2) uz.nd rfl (by w_up)) qE)))<|>(3>>=uz>>=Xk ma (hr.mono ∅) rfl eM.m eM.F.kp eM.bd yb (pv 1<|au))<|>(4>>=uz>>=bF kn iu hr ∅ rfl (pv 3<|au))<|>(5>>=uz>>=bF kr iw hr ∅ rfl (pv 2<|au))<|>(PW.pt (LC (eI (zU hu) (pv 3) (pv 2) (aH _)) (LA (eI DI (jF mF (by rfl) T.bH mG (pv 4<|au)) (jF mF (by rfl) T.bH mG (pv 5<|au)) (aH _))))<*>(~~~(@cN _ _ _ _ zt))<*>kQ)<|>(VF rfl T.aV (aG<|jF (Pj rfl) (by rfl) T.vO L8 (aG<|jF (VJ rfl) (by rfl) T.vP L9 (aG<|jF mF (by rfl) T.bH mG (pv 0<|au)<|au)<|au)<|au)&&&(cm (i:=6) uz.nd rfl (by w_up))&&&((7>>=uz>>=bF iy eN hr ∅ rfl (pv 0<|pv 6<|au))<|>(8>>=uz>>=(@kR _ _ _ _ au))<|>(rB rfl T.aV (bF aS aP hr ∅ rfl (pv 7<|aG<|au)<|au)&&&(cm (i:=9) uz.nd rfl (by w_up))&&&(~~~pC (oD PySem.F.plainAttrs_list PySem.F.slot_list_append PySem.F.type_list_append p7 (pv 8) ((@dN _ _ _ _ _ (bF aS aP hr ∅ rfl (pv 7<|jF mF (by rfl) T.bH mG (pv 4<|au)<|au)<|(og<*(@kR _ _ _ _ (aG<|bq xT aG aG<|au))<*bF aS aP hr ∅ rfl (pv 7<|aG<|au))<|au))<|au))))<|>(10>>=uz>>=bF eO dD hr ∅ rfl (pv 4<|pv 8<|au))<|>wK PassesOwn.never (PW.pt (LC (eI xU (jF (Xb rfl) (by rfl) T.vO L8 (rD (own:=["_law_one"]) (fr:=[]) (js:=[]) rfl (by k_in) (oS (pv 10)) (λ_ _ _ _ _=>(cm (i:=0) (show((["_law_one"]:List Str) ++ ([]:List Str)).Nodup by w_fin) rfl (by w_up))) (λ_ _ _ _ _=>rC) (λ_ _ _ _ _=>(jF Ph (by rfl) T.yU Qr (pv 0<|au)))<|au)) aG (aH _)) (LA (eI xU (jF (QI rfl) (by rfl) T.yW Qs (rD (own:=["_law_number","_law_sign"]) (fr:=["_law_steps"]) (js:=[5]) rfl (by k_in) (Ct (pv 8)) (λ_ _ _ _ _=>(Qq (K:=K) (n:=2) rfl rfl (jt (cm (i:=0) (show((["_law_number","_law_sign"]:List Str) ++ (["_law_steps"]:List Str)).Nodup by w_fin) rfl (by w_up)) (jt (cm (i:=1) (show((["_law_number","_law_sign"]:List Str) ++ (["_law_steps"]:List Str)).Nodup by w_fin) rfl (by w_up)) qE)))) (λ_ _ _ _ _=>rC) (λ_ _ _ _ _=>(um (K:=K) rfl<*pv 2<*pv 0))<|au)) aG (aH _))))) (pC (PQ PySem.F.plainAttrs_list PySem.F.slot_list_pop PySem.F.type_list_pop PV (pv 8))<|>(~~~(10>>=uz>>=bF eO dD hr ∅ rfl (pv 4<|pv 8<|au))))<|>(PW.pt (LC (eI Zc (bF gX d9 hr ∅ rfl (pv 1<|pv 10<|au)) zt (aH _)) (LA (eI (zU hu) (bF b5 bL hr ∅ rfl (pv 1<|pv 10<|au)) (bA<*(bA<*pv 2<*aG)<*aG) (aH _))))<*>(~~~(@cN _ _ _ _ zt))<*>kQ)<|>(eI (zU hu) (bF eO dD hr ∅ rfl (pv 4<|bF jq fU hr ∅ rfl (pv 3<|pv 10<|au)<|au)) (pv 10) (aH _)<*>(~~~(@cN _ _ _ _ zt))<*>kQ)<|>(~~~(eI (zU hu) (bF cV cq hr ∅ rfl (bF my jV hr ∅ rfl (pv 1<|bF dr cY hr ∅ rfl (pv 10<|au)<|au)<|au)) (bA<*(bA<*pv 2<*aG)<*aG) (aH _)<*>(~~~(@cN _ _ _ _ zt))<*>kQ))))<|>(~~~(@cN _ _ _ _ zt))),?_⟩
 exact eB (b:=KZ) (kU (oi (oy (F:=C1) (bD (oy (F:=xC) (bD (bG 0) (bD (kT _) c5)) rK) (bD (kT _) c5)) rK) (AJ (ur (jO 1) (ur (jO 2) AI))))
  (kU (oi (ZN (m:=1) (F:=C4) (Kb:=[.int 60]) (bD (bG 1) c5) yT rfl (λ_ _=>.cons (.int _) (.nil))) (jO 3))
  (kU (oi (oy (F:=Hd) (bD (bG 3) c5) yT) (jO 4))
  (kU (oi (oy (F:=Hj) (bD (bG 2) c5) yT) (jO 5))
  (kU (uu (M4 (qf (jG (AA true) (bG 3) (bG 2))) (qf (jG JK (qg vw (bD (bG 4) c5)) (qg vw (bD (bG 5) c5))))) (tO (yw _)) vz)
  (kU (xr (Yl (bD (kT _) (bD (qg Na (bD (kT _) (bD (qg Yg (bD (kT _) (bD (qg vw (bD (bG 0) c5)) c5))) c5))) c5))) (jO 6) (kU (oi (oy (F:=xC) (bD (bG 0) (bD (bG 6) c5)) rK) (jO 7))
  (kU (oi (wo c5) (jO 8))
  (kU (xr (EX (bD (oy (F:=qJ) (bD (bG 7) (bD (kT _) c5)) rK) c5)) (jO 9) (AK (CO CP (bG 8) (bD (uo (bD (oy (F:=qJ) (bD (bG 7) (bD (qg vw (bD (bG 4) c5)) c5)) rK) (bD (jG xn (wo (bD (kT _) (bD (jG M6 (kT _) (kT _)) c5))) (oy (F:=qJ) (bD (bG 7) (bD (kT _) c5)) rK)) c5))) c5))))
  (kU (oi (oy (F:=uc) (bD (bG 4) (bD (bG 8) c5)) rK) (jO 10))
  (kU (JM (M4 (qf (jG ER (qg Zp (bD (EZ (CQ (bG 10)) (jO 0) E1 (qg ND (bD (bG 0) c5))) c5)) (kT _))) (qf (jG ER (qg NN (bD (EZ (Nb (bG 8)) (AJ (ur (jO 0) (ur (jO 1) AI))) E1 (jG xn (bG 2) (bG 0))) c5)) (kT _)))) (kU (AK (S3 Tc (bG 8)))
  (oi (oy (F:=uc) (bD (bG 4) (bD (bG 8) c5)) rK) (jO 10))))
  (kU (uu (M4 (qf (jG (Bp true) (oy (F:=BS) (bD (bG 1) (bD (bG 10) c5)) rK) (yw _))) (qf (jG (AA true) (oy (F:=xE) (bD (bG 1) (bD (bG 10) c5)) rK) (jG r9 (jG r9 (bG 2) (kT _)) (kT _))))) (tO (yw _)) vz)
  (kU (uu (qf (jG (AA true) (oy (F:=uc) (bD (bG 4) (bD (oy (F:=BU) (bD (bG 3) (bD (bG 10) c5)) rK) c5)) rK) (bG 10))) (tO (yw _)) vz)
  (uu (qf (jG (AA true) (oy (F:=vQ) (bD (oy (F:=BV) (bD (bG 1) (bD (oy (F:=uy) (bD (bG 10) c5) yT) c5)) rK) c5) yT) (jG r9 (jG r9 (bG 2) (kT _)) (kT _)))) (tO (yw _)) vz)))))))))
  (tO (yw _)))))))) rfl h
end
def xF(hf:bS st f)(h0:0<n)(h1:n<1073741824):Wp (qJ [.ref f,.int n] st) λd st'=>∃k:Int,d=.int k/\0<=k/\k<n/\bS st' f/\Ex [f] st st':=by obtain⟨o,m,e,o0,m0,m1⟩:=hf;have hfl:=dh e;refine sS ?_;show Ws (FI [some (.ref f),some (.int n),none,none] st) _ _ _ _;unfold FI;refine aQ (iP ?_);exists bz e,kP e;refine⟨λho=>?_,λho=>?_⟩;refine aQ (bx ?_);exists bz e;refine⟨h0,aQ (uw ?_)⟩;exists bz e,kP e,(show oe [D.int o,D.int m].length 0=some 0 from Fn);refine⟨⟨h0,h1⟩,c7 ?_⟩;w_how;refine⟨Zbc _ ⋯,Zbo _ h0,⟨o / n,m,?_,Int.ediv_nonneg o0 ⋯,m0,m1⟩,Ex.refl.put (by simp)⟩;rw[Zah hfl];refine kM (aQ (bx ?_));exists bz e;refine⟨by lk,by lk,aQ (uw ?_)⟩;exists bz e,kP e,(show oe [D.int o,D.int m].length 1=some 1 from Fp);refine⟨by lk,by lk,c7 ?_⟩;have e2:(st.set f (.lst [.int o,.int ((m*48271 % 2147483647*40692+30103) % 2147483399+1)]))[f]?=some (.lst [.int o,.int ((m*48271 % 2147483647*40692+30103) % 2147483399+1)]):=Zah hfl;exists bz e2;refine⟨by lk,by lk,h0,Zbc _ ⋯,Zbo _ h0,⟨_,_,e2,o0,by lk,by lk⟩,Ex.refl.put (by simp)⟩
def T8{st:Store}{a:Nat}{ns:List Int}{k:Nat}(hs:items st a=some (ns.map D.int))(hk:k<=100):Wp (xC [.ref a,.int (k:Int)] st) λd st'=>d=.ref st.length/\bS st' st.length/\Ex [] st st':=by
 refine sS ?_;show Ws (Hl [some (.ref a),some (.int (k:Int)),none,none] st) _ _ _ _;unfold Hl;refine aQ (bx ?_);w_how;refine⟨by lk,aQ (A5 (N:=λδ st1=>st1=st/\∃c:Int,δ=[some (.ref a),some (.int (k:Int)),some (.int c),none]) (iP ?_) ?_)⟩;exists hs;refine⟨λh=>bx ?_,λh=>iP ?_⟩;have h:=of_decide_eq_true h;rw[Zaa]at h;exists hs;refine⟨.int (ns[k]'⋯),Cv (by rw[Zag,Zac];rfl),_,rfl⟩;exists hs;refine⟨λh=>bx ?_,λh=>kM ⟨rfl,_,rfl⟩⟩;have h:=of_decide_eq_true h;obtain⟨v,hv,hm⟩:=zW (xs:=ns.map D.int) (i:=(k:Int) % ((ns.map D.int).length:Int)) (Zbc _ ⋯) (Zbo _ h);obtain⟨c,_,rfl⟩:=Zaw.mp hm;exists hs;refine⟨h,_,hv,?_⟩;w_how;exact⟨by lk,by lk,by lk,_,rfl⟩;rintro δ st1 ⟨rfl,c,rfl⟩;refine aQ (bx ?_);w_how;refine aQ (A5 (N:=λδ st2=>st2=st1/\∃o:Int,0<=o/\δ=[some (.ref a),some (.int (k:Int)),some (.int c),some (.int o)]) (iP ?_) ?_);w_how;refine⟨by decide,λh=>bx ?_,λh=>kM ⟨rfl,0,by decide,rfl⟩⟩;have h:=of_decide_eq_true h;w_how;exact⟨c,Int.le_trans ∅ h,rfl⟩;rintro δ st2 ⟨rfl,o,o0,rfl⟩;refine c7 ?_;w_how;have h1:0<=c % 2147483629:=Zbc _ ∅;have h2:c % 2147483629<2147483629:=Zbo _ ∅;refine⟨by lk,by lk,by lk,by lk,by lk,by rfl,⟨_,_,h9,o0,?_,?_⟩,Ex.cL _⟩
 have:=Zbc ((c % 2147483629*48271+40692*(k:Int)) ^ (5:Int).toNat) (show(2147483629:Int)≠0 by decide)
 lk
 have:=Zbo ((c % 2147483629*48271+40692*(k:Int)) ^ (5:Int).toNat) (show(0:Int)<2147483629 by decide)
 lk
def T9{st:Store}{f:Nat}{n:Nat}(hf:bS st f)(hn:n<=100):Wp (FL [.ref f,.int (n:Int)] st) λd st'=>∃xs:List Int,d=.tup (xs.map D.int)/\ae.Tn n xs/\bS st' f/\Ex [f] st st':=by
 have hfl:=hf.lt;refine ie ?_;intro qR;show Ws (FK [some (.ref f),some (.int (n:Int)),none,none] st) _ _ _ _;unfold FK;refine aQ (bx ?_);w_how;have e1:((n:Int)-0).toNat=n:=by lk
 rw[e1,tP];refine⟨by unfold rH;rw[ZaD,decide_eq_true_eq];exact⟨by lk,kO ⋯⟩,aQ (bx ?_)⟩;w_how;refine⟨rfl,aQ (xt (λm δ st2=>∃L xs:List Int,m=L.length/\δ=[some (.ref f),some (.int (n:Int)),some (.ref (st ++ [O.lL 0 (n:Int)]).length),some (.tup (xs.map D.int))]/\st2[(st ++ [O.lL 0 (n:Int)]).length]?=some (.lst (L.map D.int))/\(xs ++ L).Perm (ae.upto n)/\bS st2 f/\Ex [f] st st2) n (Za3 hn ∅) ⟨ae.upto n,[],(ae.qW n).symm,rfl,h9,Zca _,hf.keep ((Ex.cL _).app _),(Ex.cL _).app _⟩ ?_)⟩;have hl:(st ++ [O.lL 0 (n:Int)]).length≠f:=by rw[Zaf];lk
 have hls:st.length<=(st ++ [O.lL 0 (n:Int)]).length:=by rw[Zaf];lk
 generalize (st ++ [O.lL 0 (n:Int)]).length=l at hl hls ⊢;rintro m δ st2 ⟨L,xs,rfl,rfl,hL,pm,hf2,k2⟩;have hlen:(xs ++ L).length=n:=by rw[pm.length_eq,ae.qW]
 rw[Zaf]at hlen;exists _,Z,SH (L:=L) (M:=[]) (st:=st2 ++ [O.lst []]) (bz (kN hL)) vG;refine⟨rfl,Z _ _ ⟨λh=>?_,λh=>?_⟩⟩;have hne:L≠[]:=by simpa using h
 have hpos:0<L.length:=List.length_pos_iff.mpr hne;have K1:(st2 ++ [O.lst []])[l]?=some (.lst (L.map D.int)):=kN hL;have f3:bS (st2 ++ [O.lst []]) f:=hf2.keep (Ex.cL _);have k3:Ex [f] st (st2 ++ [O.lst []]):=k2.app _;generalize (st2 ++ [O.lst []])=st3 at K1 f3 k3 ⊢;refine bx ?_;exists _,Z,bz K1;refine⟨oj (by rw[bz K1];rfl),?_⟩;refine aL (xF (n:=((L.map D.int).length:Int)) f3 (by rw[Zaa];lk) (by rw[Zaa];lk)) ?_;rintro d pH ⟨k,rfl,k0,k1,f4,k4⟩;rw[Zaa]at k1;have Ua:=k4.keep _ _ K1 (by simpa using hl);have qa:k.toNat<L.length:=by lk
 exists kP Ua;have hk':((k.toNat:Nat):Int)=k:=ZaG k0;refine⟨by lk,k.toNat,?_,D.int L[k.toNat],by rw[Zag,Zac qa];rfl,rfl,kO ?_,Z _ _ ⟨(L.eraseIdx k.toNat).length,?_,L.eraseIdx k.toNat,xs ++ [L[k.toNat]],rfl,?_,?_,?_,?_,?_⟩⟩;rw[<- hk',Zat];exact(LP (CB (by rw[Zaa];exact qa))).1;simp only[Zaa,ZaE,Zcw];lk;rw[List.length_eraseIdx,if_pos qa];lk;rw[Zar];rfl;rw[Zah (dh Ua),Y4];refine List.Perm.trans ?_ pm;rw[ZbG];exact List.Perm.append_left xs (Y5 qa);exact f4.ne hl;exact(k3.trans k4).loc hls;have he:L=[]:=by simpa using h
 subst he;refine c7 ?_;k_lt Z;exact Z _ _ ⟨xs,rfl,by simpa[ae.Tn]using pm,hf2.keep (Ex.cL _),k2.app _⟩
def xdt(tx:ae.Tn n xs)(ty:ae.Tn n ys)(n0:0<n)(hn:n<=100):Wp (BK [bN xs ys] st) λd st'=>∃(g:Nat) (F:List Int),d=.ref g/\items st' g=some (F.map D.int)/\(∀x,x∈F↔ae.kS xs ys x)/\F.length<=n/\ae.Od xs ys F/\Ex [] st st':=by
 have hlx:=tx.length;have C9:=ty.length;refine ie ?_;intro qR;show Ws (FO [some (bN xs ys),none,none,none,none] st) _ _ _ _;unfold FO;refine aQ (bx ?_);k_lt Z
 let lA:IV:=λi δ st2=>∃(v2 v3 v4:Option D) (F:List Int),δ=[some (bN xs ys),some (.ref st.length),v2,v3,v4]/\st2[st.length]?=some (.lst (F.map D.int))/\ae.Fo xs ys F/\(ae.Cl xs ys F\/i+1<=F.length)/\Ex [] st st2
 refine⟨rfl,Z _ _ (aQ (m9 (aE 0 (n+1)) lA ?_ ?_ ?_ ?_))⟩;unfold bN;k_lt Z;have e0:((1:Int)+((xs.map D.int).length:Int)).toNat=n+1:=by rw[Zaa];lk
 refine⟨by rw[Zaa];lk,Z _ _ ⟨by rw[e0],none,none,none,[0],rfl,h9,ae.Fo.one xs ys,.inr (Zad _),Ex.cL _⟩⟩;rw[jH];lk;rintro i d δ st2 hd ⟨v2,v3,v4,F,rfl,vS,hF,hcl,k2⟩;k_lt Z
 refine Z _ _ (m9 [.tup (xs.map D.int),.tup (ys.map D.int)] (λm δ st3=>∃ (v3 v4:Option D) (G:List Int),δ=[some (bN xs ys),some (.ref st.length),some d,v3,v4]/\st3[st.length]?=some (.lst (G.map D.int))/\ae.Fo xs ys G /\
   (m=0->G=F)/\(m=1->F <+: G/\∀x∈F,ae.app xs x∈G)/\(2<=m->∃F1,F <+: F1/\F1 <+: G/\(∀x∈F,ae.app xs x∈F1)/\∀x∈F1,ae.app ys x∈G)/\Ex [] st st3) ?_ (by simp) ?_ ?_)
 unfold bN;k_lt Z;exact Z _ _ ⟨rfl,v3,v4,F,rfl,vS,hF,λ_=>rfl,λz=>by lk,λz=>by lk,k2⟩;rintro m z δ st3 hm ⟨v3,v4,G,rfl,vT,hG,m0,m1,_,k3⟩;have hm2:m<2:=dh hm;obtain⟨zs,rfl,hz,em⟩:∃(zs:List Int),z=.tup (zs.map D.int)/\(zs=xs\/zs=ys)/\((m=0/\zs=xs)\/(m=1/\zs=ys)):=by
  rcases(show m=0\/m=1 by lk)with rfl|rfl
  exact⟨xs,by simpa using hm.symm,.inl rfl,.inl ⟨rfl,rfl⟩⟩;exact⟨ys,by simpa using hm.symm,.inr rfl,.inr ⟨rfl,rfl⟩⟩
 have tz:ae.Tn n zs:=by rcases hz with rfl|rfl;exact tx;exact ty
 have Ub:=tz.length;have go:∀x,ae.kS xs ys x->ae.kS xs ys (ae.app zs x):=λx h=>by rcases hz with rfl|rfl;exact h.r;exact h.u
 k_lt Z
 let BX:IV:=λj δ pH=>∃(v4:Option D) (G':List Int),δ=[some (bN xs ys),some (.ref st.length),some d,some (.tup (zs.map D.int)),v4]/\pH[st.length]?=some (.lst (G'.map D.int))/\pH[st3.length]?=some (.lst (G.map D.int))/\ae.Fo xs ys G'/\G <+: G'/\(∀i',i' < j->∀x,G[i']?=some x->ae.app zs x∈G')/\Ex [] st pH
 refine Z _ _ (Nl (G.map D.int) st3.length BX ?_ ?_ ?_ ?_ ?_);exists _,Z,bz vT;exact Z _ _ ⟨rfl,v4,G,rfl,kN vT,h9,hG,Zcd _,λi' h=>absurd h (ZaV _),k3.app _⟩;rw[Zaa]
 have:=hG.len tx ty n0;lk
 rintro j δ pH ⟨_,_,_,_,h,_⟩;exact bz h;rintro j y0' δ pH hj0 ⟨v4,G',rfl,BZ,Dc,B0,pG,hd',k4⟩;obtain⟨y,hj,rfl⟩:=Fq hj0;have hjl:=dh hj;have hR:=hG.mt _ (Zaj hj);obtain⟨y0,y1⟩:=hR.bound tx ty n0;have at':=rg (xs:=zs) y0 (by rw[Ub];exact y1);have hnext:∀K2:List Int,G' <+: K2->ae.app zs y∈K2->∀i',i' < j+1->∀x,G[i']?=some x->ae.app zs x∈K2:=λK2 p h i' hi' x hx=>by
  by_cases e:i'=j;subst e;rw[hj]at hx;cases hx;exact h;exact p.subset (hd' i' ⋯ x hx)
 k_lt Z;refine Z _ _ (iP ?_);exists _,cH,at',JT (st:=pH) (c:=.ref st.length) (ns:=G') (bz BZ);refine cH _ _ ⟨λhcn=>?_,λhcn=>?_⟩;have hnm:ae.app zs y ∉ G':=λz=>by rw[Zbp.mpr z]at hcn;cases hcn
 have Uc:ae.Fo xs ys (G' ++ [ae.app zs y]):=by
  refine⟨⟨Zbi _ B0.z,?_,λx hx=>?_⟩,B0.od.snoc (pG.subset (Zaj hj)) (hz.imp (λe=>by rw[e]) λe=>by rw[e])⟩;rw[Zcl];refine⟨B0.nd,by simp,λx hx y' hy e=>hnm ?_⟩;have e2:y'=ae.app zs y:=by simpa using hy
  rw[<- e2,<- e];exact hx;rcases Zax.mp hx with h|h
  exact B0.mt x h;have e2:x=ae.app zs y:=by simpa using h
  rw[e2];exact go _ hR
 have hlen2:=Uc.len tx ty n0;rw[Zaf]at hlen2;refine pE ?_;exists _,vU,at',kP BZ;refine⟨oj (by rw[bz BZ];rfl),kO (by rw[Zaa];simp at hlen2;lk),vU _ _ ⟨_,G' ++ [ae.app zs y],rfl,?_,?_,Uc,pG.trans (ZbZ _ _),hnext _ (ZbZ _ _) (by simp),k4.loc (Zad _)⟩⟩;rw[Zah (dh BZ),Zar];rfl;rw[Zak (by have:=dh vT;lk)];exact Dc;have hcn:G'.contains (ae.app zs y)=true:=by simpa using hcn
 exact kM ⟨_,G',rfl,BZ,Dc,B0,pG,hnext G' (Zcd _) (Zbp.mp hcn),k4⟩;rintro δ pH ⟨v4,G',rfl,BZ,Dc,B0,pG,hd',k4⟩;rw[Zaa]at hd';have hall:∀x∈G,ae.app zs x∈G':=λx hx=>by
  obtain⟨i',hi',e⟩:=Zbk hx;exact hd' i' hi' x (by rw[Zac hi',e])
 refine⟨_,_,G',rfl,BZ,B0,λz=>by lk,λz=>?_,λz=>?_,k4⟩;rcases em with⟨rfl,rfl⟩|⟨rfl,_⟩
 have:=m0 rfl
 subst this;exact⟨pG,hall⟩;lk;rcases em with⟨rfl,_⟩|⟨rfl,rfl⟩
 lk;obtain⟨p1,c1⟩:=m1 rfl;exact⟨G,p1,pG,c1,hall⟩;rintro δ st3 ⟨v3,v4,G,rfl,vT,hG,_,_,m2,k3⟩;obtain⟨F1,p1,p2,c1,c2⟩:=m2 (Zad 2);exact⟨_,_,_,G,rfl,vT,hG,ae.round hF.toFd hG.toFd p1 p2 c1 c2 hcl,k3⟩;rintro δ st2 ⟨v2,v3,v4,F,rfl,vS,hF,hcl,k2⟩;rw[jH]at hcl;have hl:=hF.len tx ty n0;have hc:ae.Cl xs ys F:=hcl.resolve_right ⋯;refine c7 ?_;k_lt Z;exact Z _ _ ⟨_,F,rfl,bz vS,λx=>⟨hF.mt x,λh=>hc.all hF.z h⟩,hl,hF.od,k2⟩
def YcZ(tx:ae.Tn n xs)(ty:ae.Tn n ys)(n0:0<n)(hn:n<=100):Wp (BK [bN xs ys] st) λd st'=>∃(g:Nat) (F:List Int),d=.ref g/\items st' g=some (F.map D.int)/\(∀x,x∈F↔ae.kS xs ys x)/\F.length<=n/\Ex [] st st' :=
 aL (xdt tx ty n0 hn) λd st' ⟨g,F,h1,h2,h3,h4,_,h5⟩=>⟨g,F,h1,h2,h3,h4,h5⟩
def Ud(tX:ae.Tn n X)(tY:ae.Tn n Y)(n0:0<n)(hn:n<=100)(h1:δ[1]?=some (some (.int (n:Int))))(h6:δ[6]?=some (some (bN X Y)))
  (q:∀(L:List Int) (st':Store),L.length<=n->L.Nodup->(∀x,x∈L↔(0<=x/\x<(n:Int)/\¬ae.kS X Y x))->Ex [] st st'->Q (.ref st'.length) (st' ++ [.lst (L.map D.int)])) :
  Wp (bQ (bW (af (ag 1) ah)) 1 [6] (hName 0) (az (ao (uq true) (ag 0) (aD BK (af (ag 1) ah)))) (ag 0) δ st) Q:=by
 have h6':δ.getD 6 none=some (bN X Y):=by rw[Zae,h6];rfl
 refine E7 (aE 0 n) (λj zs δ' iI=>∃(v:Option D) (L:List Int),δ'=[v,some (bN X Y)]/\zs=L.map D.int/\L.length<=j/\L.Nodup/\(∀x,x∈L↔(0<=x/\x<(j:Int)/\¬ae.kS X Y x))/\Ex [] st iI) ?_ (by rw[jH];lk) ?_ ?_ ?_;exists _,Z,h1;refine⟨by lk,Z _ _ ⟨λi ys δ st hi _=>?_,none,[],?_,rfl,Zad _,List.nodup_nil,λx=>⟨(λh=>nomatch h),λh=>by lk⟩,Ex.refl⟩⟩;rw[Zat];show(if i<=(aE 0 n).length then some (aE 0 n)[i]? else none)=_;rw[if_pos hi];unfold rf;simp only[Zaz,ZaT,h6'];rfl;rintro j zs δ' iI ⟨v,L,_,rfl,hl,_⟩;rw[Zaa];exact hl;rintro j d zs δ' iI hd ⟨v,L,rfl,rfl,o7,nd,hL,k8⟩;have hjl:=dh hd;rw[jH]at hjl;rw[yH hjl]at hd;cases hd;rw[ZbD];k_lt Z;refine Z _ _ ?_;k_lt cH;refine aL (YcZ (st:=iI) tX tY n0 hn) ?_;rintro d qI ⟨g,F,rfl,hg,hF,hFl,k9⟩;rw[JT (c:=.ref g) (ns:=F) hg];refine⟨_,rfl,cH _ _ ⟨λhc=>?_,λhc=>?_⟩⟩;have hR:¬ae.kS X Y (j:Int):=λh=>by rw[Zbp.mpr ((hF _).mpr h)]at hc;cases hc
 k_lt vU;refine vU _ _ ⟨_,L ++ [(j:Int)],rfl,by rw[Zar];rfl,by rw[Zaf];simp;lk,?_,λx=>?_,k8.trans k9⟩;rw[Zcl];refine⟨nd,by simp,λx hx y hy e=>?_⟩;have e2:y=(j:Int):=by simpa using hy
 have:=((hL x).mp hx).2.1;lk
 rw[Zax,hL x];constructor;rintro(⟨a1,a2,a3⟩|h);exact⟨a1,by lk,a3⟩;have e2:x=(j:Int):=by simpa using h
 rw[e2];exact⟨by lk,by lk,hR⟩;rintro⟨a1,a2,a3⟩;rcases Int.lt_or_le x (j:Int)with h|h
 exact .inl ⟨a1,h,a3⟩;exact .inr (by simp;lk);have hc:F.contains (j:Int)=true:=by simpa using hc
 have hR:=(hF _).mp (Zbp.mp hc);refine⟨_,L,rfl,rfl,by lk,nd,λx=>?_,k8.trans k9⟩;rw[hL x];constructor;rintro⟨a1,a2,a3⟩;exact⟨a1,by lk,a3⟩;rintro⟨a1,a2,a3⟩;refine⟨a1,?_,a3⟩;rcases Int.lt_or_le x (j:Int)with h|h
 exact h;exact absurd hR (by rw[show(j:Int)=x by lk];exact a3);rintro zs δ' iI ⟨v,L,rfl,rfl,o7,nd,hL,k8⟩;rw[jH]at o7 hL;exact q L iI o7 nd hL k8
abbrev Ev(f:ai->Dm D)(δ:ai)(d:D):Prop:=∀st,f δ st=some (d,st)
abbrev Mk(f:ai->Dm D)(δ:ai)(xs:List D):Prop:=∀st,∃r st',f δ st=some (.ref r,st')/\Ex [] st st'/\st.length<=r/\st'[r]?=some (.lst xs)
section
variable {δ:ai}{f g fa fb:ai->Dm D}{xs ys:List D}{d:D}{i j:Int}{st:Store}
def tH(h:δ[k]?=some (some d)):Ev (ag k) δ d:=λst=>by unfold ag;rw[h]
def qx:Ev (fC d) δ d:=λ_=>rfl
def B1(a:Ev fa δ (.int i))(b:Ev fb δ (.int j)):Ev (ao cu fa fb) δ (.int (i+j)):=λst=>by unfold ao;rw[a];show bnd (fb δ st) _=_;rw[b];rfl
def Ev.wp(a:Ev f δ d)(q:Q d st):Wp (f δ st) Q:=⟨d,st,a st,q⟩
def Mk.wp(a:Mk f δ xs)(q:∀r st',Ex [] st st'->st.length<=r->st'[r]?=some (.lst xs)->Q (.ref r) st'):Wp (f δ st) Q :=
 let ⟨r,s,e,h1,h2,h3⟩:=a st;⟨_,s,e,q r s h1 h2 h3⟩
def K3(h:∀st,Wp (f δ st) λd s=>∃r,d=.ref r/\Ex [] st s/\st.length<=r/\s[r]?=some (.lst xs)):Mk f δ xs:=λst =>
 let ⟨_,s,e,r,e2,q⟩:=h st;⟨r,s,e2 ▸ e,q⟩
def Ue(h:∀st,Wp (aD gr fr δ st) λd s=>d=.ref st.length/\s=st ++ [.lL i j])(ok:rH i j=true):Mk (aD dc (af (aD gr fr) ah)) δ (aE i (j-i).toNat):=K3 λst=>by
 rw[CT,uv];refine aL (h st) ?_;rintro d s ⟨rfl,rfl⟩;w_how;exact⟨ok,(Ex.cL _).app _,by rw[Zaf];exact Zcq _ _,h9⟩
def Dd(a:Ev fa δ (.int i))(b:Ev fb δ (.int j))(ok:rH i j=true):Mk (aD dc (af (aD eW (af fa (af fb ah))) ah)) δ (aE i (j-i).toNat):=by refine Ue (λst=>?_) ok;rw[CT,uv];refine a.wp ?_;rw[uv];refine b.wp ?_;w_how
def Ug(b:Ev fb δ (.int j))(ok:rH 0 j=true):Mk (aD dc (af (aD iO (af fb ah)) ah)) δ (aE 0 (j-0).toNat):=by refine Ue (λst=>?_) ok;rw[CT,uv];refine b.wp ?_;w_how
def Ih(a:Ev fa δ d):Mk (b6 (af fa ah)) δ [d]:=K3 λst=>by
 rw[R8,uv];refine a.wp ?_;w_how;exact⟨rfl,Ex.cL _,Zad _,h9⟩
def B2(a:Mk f δ xs)(b:Mk g δ ys)(l:xs.length+ys.length<=100000):Mk (ao o3 f g) δ (xs ++ ys):=K3 λst=>by
 rw[Nh];refine a.wp λr s e h hr=>b.wp λr2 s2 e2 h2 hr2=>Sf.mpr ⟨xs,ys,kP (e2.keep _ _ hr (by simp)),kP hr2,kO l,_,rfl,(e.trans e2).app _,Zap e.len e2.len,h9⟩
def Ii(a:Mk f δ xs)(b:Ev fb δ (.int j)):Mk (CJ vt f ny (pP fb)) δ (cutD xs none (some j)):=K3 λst=>by
 rw[yL];refine a.wp λr s e h hr=>?_;rw[R9,Sb];refine b.wp ⟨_,rfl,Se.mpr ⟨xs,bz hr,_,rfl,e.app _,e.len,h9⟩⟩
end
def B3(h:rJ lP st f r u n X Y)(e:Ex [] st st')(hl:st.length<=r')(hr:st'[r']?=some (.lst (Z.map D.int)))(t:ae.Tn n Z):rJ lP st' f r' u n Z Y:=⟨hr,e.keep _ _ h.hu (by simp),λz=>ZbE _ (ZaH (dh h.hu) (z ▸ hl)),Zap h.ex.len hl,h.u0,t,h.tY,h.fd.keep e,h.ex.trans e.any⟩
def B4(h:rJ lP st f r u n X Y)(e:Ex [] st st')(hl:st.length<=u')(hr:st'[u']?=some (.lst (Z.map D.int)))(t:ae.Tn n Z):rJ lP st' f r u' n X Z:=⟨e.keep _ _ h.hr (by simp),hr,λz=>ZbE _ (ZaH (dh h.hr) (z ▸ hl)),h.r0,Zap h.ex.len hl,h.tX,t,h.fd.keep e,h.ex.trans e.any⟩
def Uh{st:Store}{f n:Nat}(hf:bS st f)(n1:1<=n)(n20:n<=20):Wp (FT [.ref f,.int (n:Int)] st) λd st'=>∃xs ys:List Int,d=bN xs ys/\o6 n xs ys/\bS st' f/\Ex [f] st st':=by
 have hfl:=hf.lt;refine ie ?_;intro qR;show Ws (FR [some (.ref f),some (.int (n:Int)),none,none,none,none,none,none,none] st) _ _ _ _;unfold FR;refine aQ (bx ?_);k_lt Z;refine aL (xF (n:=6) hf ∅ ∅) ?_;rintro d st1 ⟨form,rfl,g0,g6,f1,k1⟩;refine Z _ _ (aQ (Sg ?_));k_lt2 Z;refine aL (T9 (n:=n) f1 ⋯) ?_;rintro d st2 ⟨X,rfl,tX,f2,k2⟩;w_how;refine aL (T9 (n:=n) (f2.keep (Ex.cL [.lst (X.map D.int)])) ⋯) ?_;rintro d st3 ⟨Y,rfl,tY,f3,k3⟩;w_how;refine Z _ _ ⟨_,_,rfl,?_⟩;clear Z;have rj:st3[st2.length]?=some (.lst (X.map D.int)):=k3.keep _ _ h9 (by have:=f2.lt;simp;lk);have two:rJ st (st3 ++ [.lst (Y.map D.int)]) f st2.length st3.length n X Y:=⟨kN rj,h9,by have:=dh rj;lk,(k1.trans k2).len,((k1.trans k2).trans ((Ex.cL _).trans k3)).len,tX,tY,f3.keep (Ex.cL _),(((k1.trans k2).app _).trans k3).app _⟩;show Ws _ _ _ _ _;generalize (st3 ++ [O.lst (Y.map D.int)])=pH at two ⊢;generalize st2.length=r at two ⊢;generalize st3.length=u at two ⊢;clear rj tX tY f3 k3 f2 k2 f1 k1
 let lA:IN:=λδ pK=>∃(r u:Nat) (X Y:List Int),δ=[some (.ref f),some (.int (n:Int)),some (.int form),some (.ref r),some (.ref u),none,none,none,none]/\rJ st pK f r u n X Y
 refine aQ (A5 (N:=lA) (iP ?_) ?_);k_lt Z;refine Z _ _ ⟨λ_=>bx ?_,λ_=>kM ⟨r,u,X,Y,rfl,two⟩⟩;have m:=B2 (Dd (δ:=[some (.ref f),some (.int (n:Int)),some (.int form),some (.ref r),some (.ref u),none,none,none,none]) (qx (d:=.int 1)) (tH (k:=1) rfl) (xw ⋯)) (Ih (qx (d:=.int 0))) (by rw[jH];simp;lk);rw[<- SI]at m;exact m.wp λr' s' e hl hr=>⟨r',u,_,Y,rfl,B3 two e hl hr (ae.QO (show n<21 by lk) ⋯)⟩;rintro δ pK ⟨r,u,X,Y,rfl,two⟩
 let BX:IN:=λδ pK=>∃(r u:Nat) (X Y:List Int),δ=[some (.ref f),some (.int (n:Int)),some (.int form),some (.ref r),some (.ref u),none,none,none,none]/\rJ st pK f r u n X Y
 refine aQ (A5 (N:=BX) (iP ?_) ?_);k_lt Z;refine Z _ _ ⟨λ_=>Sg ?_,λ_=>kM ⟨r,u,X,Y,rfl,two⟩⟩;have m:=B2 (Dd (δ:=[some (.ref f),some (.int (n:Int)),some (.int form),some (.ref r),some (.ref u),none,none,none,none]) (qx (d:=.int 1)) (tH (k:=1) rfl) (xw ⋯)) (Ih (qx (d:=.int 0))) (by rw[jH];simp;lk);rw[<- SI]at m;have m2:=Ug (δ:=[some (.ref f),some (.int (n:Int)),some (.int form),some (.ref r),some (.ref u),none,none,none,none]) (tH (k:=1) rfl) (xw ⋯);rw[show((n:Int)-0).toNat=n by lk,tP]at m2;rw[uv];refine m2.wp λr' s' e hl hr=>?_;rw[uv];refine m.wp λu' s2 e2 hl2 hr2=>?_;rw[Ni];exact⟨_,_,rfl,r',u',_,_,rfl,B4 (B3 two e hl hr (Zca _)) e2 hl2 hr2 (ae.QO (show n<21 by lk) ⋯)⟩;rintro δ Nf ⟨r,u,X,Y,rfl,two⟩
 let pv2:IN:=λδ pK=>∃(r u:Nat) (v5:Option D) (X Y:List Int),δ=[some (.ref f),some (.int (n:Int)),some (.int form),some (.ref r),some (.ref u),v5,none,none,none]/\rJ st pK f r u n X Y
 refine aQ (A5 (N:=pv2) (iP ?_) ?_);k_lt Z;refine Z _ _ ⟨λ_=>aQ (bx ?_),λ_=>kM ⟨r,u,none,X,Y,rfl,two⟩⟩;k_lt cH;refine aL (xF (n:=(n:Int)) two.fd ⋯ ⋯) ?_;rintro d uk ⟨w,rfl,w0,w1,f7,k7⟩;obtain⟨wd,rfl⟩:∃wd:Nat,w=(wd:Int)-1:=⟨(w+1).toNat,by lk⟩;have t7:rJ st uk f r u n X Y:=⟨k7.keep _ _ two.hr (by have:=two.r0;simp;lk),k7.keep _ _ two.hu (by have:=two.u0;simp;lk),two.ne,two.r0,two.u0,two.tX,two.tY,f7,two.ex.trans k7⟩;w_how;rw[show(1:Int)+((wd:Int)-1)=(wd:Int) by lk];refine cH _ _ (aQ (bx ?_));clear cH Z;have m:=B2 (B2 (Dd (δ:=[some (.ref f),some (.int (n:Int)),some (.int form),some (.ref r),some (.ref u),some (.int (wd:Int)),none,none,none]) (qx (d:=.int 1)) (tH (k:=5) rfl) (xw ⋯)) (Ih (qx (d:=.int 0))) (by rw[jH];simp;lk)) (Dd (tH (k:=5) rfl) (tH (k:=1) rfl) (xw ⋯)) (by rw[Zaf,jH,jH];simp;lk);rw[<- Bl]at m;refine m.wp λr8 iI e8 Ui Uj=>aQ (bx ?_);have t8:=B3 t7 e8 Ui Uj (ae.XA (w:=wd) (show n<21 by lk) ⋯ ⋯);clear m e8 Ui Uj;have m:=Ii (B2 (B2 (B2 (Ih (tH (δ:=[some (.ref f),some (.int (n:Int)),some (.int form),some (.ref r8),some (.ref u),some (.int (wd:Int)),none,none,none]) (k:=5) rfl)) (Dd (qx (d:=.int 1)) (tH (k:=5) rfl) (xw ⋯)) (by simp[jH];lk)) (Dd (B1 (tH (k:=5) rfl) (qx (d:=.int 1))) (tH (k:=1) rfl) (xw ⋯)) (by simp[jH];lk)) (Ih (qx (d:=.int 0))) (by simp[jH];lk)) (tH (k:=1) rfl);refine m.wp λuE N9 eE hlE Uk=>iP ?_;clear m;have tE:=t8.keep eE;k_lt Z;refine Z _ _ ⟨λhw=>?_,λhw=>?_⟩;refine bx ?_;have m2:=Ug (δ:=[some (.ref f),some (.int (n:Int)),some (.int form),some (.ref r8),some (.ref uE),some (.int (wd:Int)),none,none,none]) (tH (k:=1) rfl) (xw ⋯);rw[show((n:Int)-0).toNat=n by lk,tP]at m2;exact m2.wp λu' s' e hl hr=>⟨r8,u',_,_,_,rfl,B4 tE e hl hr (Zca _)⟩;have hne:wd≠n:=λz=>by simp[z]at hw
 rw[<- Bm ⋯ ⋯]at Uk;exact kM ⟨r8,uE,_,_,_,rfl,B4 t8 eE hlE Uk (ae.XB (w:=wd) (show n<21 by lk) ⋯ ⋯)⟩;rintro δ uk ⟨r,u,v5,X,Y,rfl,two⟩;have n0:0<n:=by lk
 refine aQ (bx ?_);exists _,Z,bz two.hr,bz two.hu;refine⟨rfl,Z _ _ (aQ (bx (Ud (X:=X) (Y:=Y) two.tX two.tY n0 ⋯ rfl rfl ?_)))⟩;clear Z;intro L iI o7 nd hL k8;have t8:=(two.keep k8).keep (Ex.cL [.lst (L.map D.int)])
 let pv3:IV:=λmm δ qI=>∃(pa:Nat) (X L:List Int) (v8:Option D),mm=L.length/\δ=[some (.ref f),some (.int (n:Int)),some (.int form),some (.ref r),some (.ref u),v5,some (bN X Y),some (.ref pa),v8]/\rJ st qI f r u n X Y/\items qI pa=some (L.map D.int)/\L.length<=n/\L.Nodup/\(∀x,x∈L↔(0<=x/\x<(n:Int)/\¬ae.kS X Y x))
 refine aQ (xt pv3 L.length (Za3 o7 (Za3 n20 ∅)) ⟨_,X,L,none,rfl,rfl,t8,vG,o7,nd,hL⟩ ?_);rintro mm δ qI ⟨pa,X,L,v8,rfl,rfl,two,hpa,o7,nd,hL⟩;have hlX:=two.tX.length;have B5:items (qI ++ [O.lst []]) pa=some (L.map D.int):=by
  unfold items at hpa ⊢;cases e:qI[pa]? with
  |none=>rw[e]at hpa;cases hpa
  |some o=>rw[kN e];rw[e]at hpa;exact hpa
 exists _,Z,SH (L:=L) (M:=[]) (st:=qI ++ [O.lst []]) B5 vG;refine⟨rfl,Z _ _ ⟨λh=>?_,λh=>?_⟩⟩;have hne:L≠[]:=by simpa using h
 clear Z;obtain⟨m,L1,rfl⟩:∃m L1,L=m :: L1:=by cases L with|nil=>exact absurd rfl hne|cons m L1=>exact⟨m,L1,rfl⟩
 obtain⟨m0,m1,mR⟩:=(hL m).mp Zai;have t2:=two.keep (Ex.cL [O.lst []]);generalize (qI ++ [O.lst []])=N9 at B5 t2 ⊢;refine aQ (bx ?_);exists _,Z,B5,Zaz;refine Z _ _ (aQ (uw ?_));clear Z;exists _,Z,bz t2.hr,rg (xs:=X) m0 ⋯,rg (xs:=X) (i:=0) ∅ ⋯;refine⟨rfl,Z _ _ ?_⟩;clear Z;have i0:oe (X.map D.int).length 0=some 0:=CB (j:=0) (by rw[Zaa];lk);have im:oe ((X.map D.int).set 0 (.int (ae.app X m))).length m=some m.toNat:=by
  rw[Za8];have:=CB (n:=(X.map D.int).length) (j:=m.toNat) (by rw[Zaa];lk)
  rwa [ZaG m0]at this
 have rj:(N9.set r (.lst ((X.map D.int).set 0 (.int (ae.app X m)))))[r]?=some (.lst ((X.map D.int).set 0 (.int (ae.app X m)))):=Zah (dh t2.hr);have eS:((X.map D.int).set 0 (.int (ae.app X m))).set m.toNat (.int (ae.app X 0))=(ae.pD X m.toNat).map D.int:=by
  unfold ae.pD;rw[ZaG m0,List.map_set,List.map_set]
 exists _,Z,kP t2.hr,kP rj,i0,im,eS;refine⟨rfl,Z _ _ (aQ (bx ?_))⟩;clear Z;have tS:=ae.Ah t2.tX (m:=m.toNat) ⋯;have hmet:=ae.Xv t2.tX t2.tY (m:=m.toNat) ⋯ (by rw[ZaG m0];exact mR);rw[ZaG m0]at hmet;rw[List.set_set];have t3:=t2.put (Z:=ae.pD X m.toNat) tS hfl;generalize N9.set r _=st3 at t3 ⊢;exists _,Z,bz t3.hr,bz t3.hu;refine⟨rfl,Z _ _ (bx (Ud (X:=ae.pD X m.toNat) (Y:=Y) t3.tX t3.tY n0 ⋯ rfl rfl ?_))⟩;intro L' pH Oa Um hL' k4;refine⟨_,?_,pH.length,ae.pD X m.toNat,L',_,rfl,rfl,(t3.keep k4).keep (Ex.cL _),vG,Oa,Um,hL'⟩;refine ae.less (m:=m) Um (λx hx=>?_) Zai (λh=>((hL' m).mp h).2.2 hmet.1);obtain⟨a1,a2,a3⟩:=(hL' x).mp hx;exact(hL x).mpr ⟨a1,a2,λh=>a3 (hmet.2 x h)⟩;have he:L=[]:=by simpa using h
 subst he;refine c7 ?_;k_lt cH;have t2:=two.keep (Ex.cL [O.lst []]);refine cH _ _ ⟨X,Y,rfl,⟨t2.tX,t2.tY,λx x0 x1=>?_⟩,t2.fd,t2.ex⟩;exact Classical.byContradiction λh=>nomatch (hL x).mpr ⟨x0,x1,h⟩
def K4(tn:ae.Tn n xs)(hn:n<=100):Wp (BN [.tup (xs.map D.int)] st) λd st'=>d=.tup ((ae.inv xs).map D.int)/\Ex [] st st':=by
 have hlen:=tn.length;refine ie ?_;intro qR;show Ws (Gd [some (.tup (xs.map D.int)),none,none,none] st) _ _ _ _;unfold Gd;refine aQ (bx ?_);k_lt Z;have e0:(((xs.map D.int).length:Int)).toNat=n:=by rw[Zaa];lk
 have ez:(List.replicate n [D.int 0]).flatten=(List.replicate n (0:Int)).map D.int:=by
  induction n with
  |zero=>rfl
  |succ n ih=>simp[ZaN]
 rw[e0,ez];refine⟨rfl,by rw[Zaa];lk,kO (by simp;lk),Z _ _ (aQ (m9 (gi (xs.map D.int)) (λk δ st2=>∃(v2 v3:Option D) (bs:List Int),δ=[some (.tup (xs.map D.int)),some (.ref (st ++ [O.lst [D.int 0]]).length),v2,v3]/\st2[(st ++ [O.lst [D.int 0]]).length]?=some (.lst (bs.map D.int))/\bs.length=n/\(∀j,j<k->∀x,xs[j]?=some x->bs[x.toNat]?=some (j:Int))/\Ex [] st st2) ?_ ?_ ?_ ?_))⟩;k_lt Z;exact Z _ _ ⟨rfl,none,none,_,rfl,h9,by simp,λj hj=>absurd hj (ZaV _),(Ex.cL _).app _⟩;rw[EY,Zaa];lk;have Ij:st.length<=(st ++ [O.lst [D.int 0]]).length:=by simp
 generalize (st ++ [O.lst [D.int 0]]).length=B at Ij ⊢;rintro k d δ st2 hd ⟨v2,v3,bs,rfl,hB,wA,xG,k2⟩;obtain⟨d',hd',rfl⟩:=Nc hd;obtain⟨x,hx,rfl⟩:=Fq hd';obtain⟨x0,x1⟩:=tn.bound (Zaj hx);have qa:=dh hx;k_lt Z;refine⟨rfl,Z _ _ (uw ?_)⟩;have hix:oe (bs.map D.int).length x=some x.toNat:=by
  have:=CB (n:=(bs.map D.int).length) (j:=x.toNat) (by rw[Zaa];lk)
  rwa [ZaG x0]at this
 have es:(bs.map D.int).set x.toNat (.int (k:Int))=(bs.set x.toNat (k:Int)).map D.int:=by rw[List.map_set]
 k_lt cH;refine cH _ _ ?_;exists _,vU,kP hB,hix,es;refine vU _ _ ⟨_,_,bs.set x.toNat (k:Int),rfl,Zah (dh hB),by rw[Za8];exact wA,λj hj y hy=>?_,k2.loc Ij⟩;by_cases hjk:j=k;subst hjk;rw[hx]at hy;cases hy;rw[Zah (by rw[wA];lk)];obtain⟨y0,y1⟩:=tn.bound (Zaj hy);rw[Zak (λz=>?_)];exact xG j ⋯ y hy;obtain⟨h1,e1⟩:=Zab.mp hx;obtain⟨h2,e2⟩:=Zab.mp hy;exact hjk ((List.getElem_inj tn.nodup).mp (show xs[j]=xs[k] by lk));rintro δ st2 ⟨v2,v3,bs,rfl,hB,wA,xG,k2⟩;rw[EY,Zaa]at xG;have eb:bs=ae.inv xs:=by
  apply Zb2;intro i;by_cases hi:i<n;have hm:=tn.mem (i:=(i:Int)) ⋯ ⋯;have hil:=ZbC hm;have:=xG (xs.idxOf (i:Int)) hil (i:Int) (by rw[Zac hil];exact congrArg some (ZcE hil));rw[Zat]at this;rw[this];have ea:=ae.qX (xs:=ae.inv xs) (i:=(i:Int)) ⋯ (by rw[ae.Em];lk);rw[Zat,ae.Jp ⋯ ⋯]at ea;exact ea.symm;rw[ZaP ⋯,ZaP (by rw[ae.Em];lk)]
 subst eb;refine c7 ?_;exists _,Z,bz hB;exact Z _ _ ⟨rfl,k2⟩
def Ik(hb:∀x∈xs,0<=x/\x<(ys.length:Int))(hn:xs.length<=100):Wp (yZ [.tup (xs.map D.int),.tup (ys.map D.int)] st) λd st'=>d=.tup ((ae.a5 xs ys).map D.int)/\Ex [] st st':=by refine ie ?_;intro qR;show Ws (Gf [some (.tup (xs.map D.int)),some (.tup (ys.map D.int))] st) _ _ _ _;unfold Gf;refine c7 ?_;k_lt Z;refine vH (xs.map D.int) (λd=>.int (ae.app ys (inD d))) ?_ (by rw[Zaa];lk) ?_ ?_;k_lt cH;exact cH _ _ ⟨se _ _,Ex.refl⟩;intro d hd st1 k1;obtain⟨x,hx,rfl⟩:=Bn hd;obtain⟨x0,x1⟩:=hb x hx;exists _,cH,Zaz,ZaT,ZaY,ZaZ,rg (xs:=ys) x0 x1;exact cH _ _ ⟨rfl,Ex.refl⟩;intro st' k';rw[Fs (f:=ae.app ys) λx hx=>rfl];w_how;exact Z _ _ ⟨rfl,k'.app _⟩
def Xb6(tx:ae.Tn n xs)(ty:ae.Tn n ys)(tp:ae.Tn n p)(hn:n<=100):Wp (Kj [bN xs ys,.tup (p.map D.int)] st) λd st'=>d=bN (ae.anew xs p) (ae.anew ys p)/\Ex [] st st':=by have hlx:=tx.length;have C9:=ty.length;have K5:=tp.length;have ti:=tp.aA;have hli:=ti.length;refine ie ?_;intro qR;show Ws (Gh [some (bN xs ys),some (.tup (p.map D.int)),none,none,none] st) _ _ _ _;unfold Gh bN;refine aQ (bx ?_);k_lt Z;refine aL (K4 tp hn) ?_;rintro d st1 ⟨rfl,k1⟩;refine Z _ _ (aQ (bx ?_));k_lt2 Z;refine aL (Ik (xs:=ae.inv p) (ys:=xs) (λx hx=>by rw[hlx];exact ti.bound hx) ⋯) ?_;rintro d st2 ⟨rfl,k2⟩;refine aL (Ik (xs:=ae.a5 (ae.inv p) xs) (ys:=p) (λx hx=>by rw[K5];exact(ti.a5 tx).bound hx) (by rw[ae.Ep];lk)) ?_;rintro d st3 ⟨rfl,k3⟩;refine Z _ _ (aQ (bx ?_));k_lt2 Z;refine aL (Ik (xs:=ae.inv p) (ys:=ys) (λx hx=>by rw[C9];exact ti.bound hx) ⋯) ?_;rintro d pH ⟨rfl,k4⟩;refine aL (Ik (xs:=ae.a5 (ae.inv p) ys) (ys:=p) (λx hx=>by rw[K5];exact(ti.a5 ty).bound hx) (by rw[ae.Ep];lk)) ?_;rintro d pK ⟨rfl,k5⟩;refine Z _ _ (c7 ?_);k_lt2 Z;exact⟨rfl,Z _ _ ⟨rfl,(((k1.trans k2).trans k3).trans k4).trans k5⟩⟩
def Uo:(!F.contains x)=true->ae.cP F x=F ++ [x]:=λh=>by
 unfold ae.cP;rw[if_neg λz=>by rw[Zbp.mpr z]at h;cases h]
def Up:(!F.contains x)=false->ae.cP F x=F:=λh=>by
 unfold ae.cP;rw[if_pos (Zbp.mp (by simpa using h))]
def ZbW(tx:ae.Tn n xs)(ty:ae.Tn n ys)(hn:n<=100)(s0:0<=s)(s1:s<(n:Int)):Wp (Kl [bN xs ys,.int s] st) λd st'=>d=.tup ((ae.bf xs ys s n).map D.int)/\Ex [] st st':=by
 have hlx:=tx.length;have C9:=ty.length;refine ie ?_;intro qR;show Ws (Gj [some (bN xs ys),some (.int s),none,none,none,none] st) _ _ _ _;unfold Gj;refine aQ (bx ?_);k_lt Z;refine⟨rfl,Z _ _ (aQ (bx ?_))⟩;k_lt2 Z
 let lA:IV:=λm δ st2=>∃(k:Nat) (v4 v5:Option D),m=n-k/\δ=[some (bN xs ys),some (.int s),some (.ref st.length),some (.int (k:Int)),v4,v5]/\st2[st.length]?=some (.lst ((ae.bf xs ys s k).map D.int))/\k<=(ae.bf xs ys s k).length/\Ex [] st st2
 refine Z _ _ (aQ (xt lA n (Za3 hn ∅) ⟨0,none,none,by lk,rfl,h9,ZaJ _,Ex.cL _⟩ ?_));clear Z;rintro m δ st2 ⟨k,v4,v5,rfl,rfl,hl,hk,k2⟩;have wA:=ae.Er tx ty s0 s1 k;exists _,Z,bz hl;refine Z _ _ ⟨λhlt=>?_,λhlt=>?_⟩;clear Z;have hlt:=of_decide_eq_true hlt;rw[Zaa]at hlt;have qa:k<(ae.bf xs ys s k).length:=by lk
 obtain⟨x,hx⟩:∃x,(ae.bf xs ys s k)[k]?=some x:=⟨_,Zac qa⟩;obtain⟨x0,x1⟩:=ae.tI tx ty s0 s1 k x (Zaj hx);have e1:ae.bf xs ys s (k+1)=ae.visit xs ys (ae.bf xs ys s k) x:=by
  show(match (ae.bf xs ys s k)[k]? with|some x=>ae.visit xs ys (ae.bf xs ys s k) x|none=>ae.bf xs ys s k)=_;rw[hx]
 have hb1:=ae.Er tx ty s0 s1 (k+1);rw[e1]at hb1;have hp1:=(ae.yj (ae.cP (ae.bf xs ys s k) (ae.app xs x)) (ae.app ys x)).length_le;have hp0:=(ae.yj (ae.bf xs ys s k) (ae.app xs x)).length_le;change _<=(ae.visit xs ys (ae.bf xs ys s k) x).length at hp1;refine aQ (m9 [.tup (xs.map D.int),.tup (ys.map D.int)] (λm δ st3=>∃(v4 v5:Option D) (G:List Int),δ=[some (bN xs ys),some (.int s),some (.ref st.length),some (.int (k:Int)),v4,v5]/\st3[st.length]?=some (.lst (G.map D.int))/\(m=0->G=ae.bf xs ys s k)/\(m=1->G=ae.cP (ae.bf xs ys s k) (ae.app xs x))/\(m=2->G=ae.visit xs ys (ae.bf xs ys s k) x)/\Ex [] st st3) ?_ (by simp) ?_ ?_);unfold bN;k_lt Z;exact Z _ _ ⟨rfl,v4,v5,_,rfl,hl,λ_=>rfl,λz=>by lk,λz=>by lk,k2⟩;rintro m z δ st3 hm ⟨v4,v5,G,rfl,hl3,g0,g1,_,k3⟩;have hm2:m<2:=dh hm;obtain⟨zs,rfl,tz,em⟩:∃(zs:List Int),z=.tup (zs.map D.int)/\ae.Tn n zs/\((m=0/\zs=xs)\/(m=1/\zs=ys)):=by
  rcases(show m=0\/m=1 by lk)with rfl|rfl
  exact⟨xs,by simpa using hm.symm,tx,.inl ⟨rfl,rfl⟩⟩;exact⟨ys,by simpa using hm.symm,ty,.inr ⟨rfl,rfl⟩⟩
 have hG:G.length<=100/\G[k]?=some x:=by
  rcases em with⟨rfl,_⟩|⟨rfl,_⟩
  rw[g0 rfl];exact⟨by lk,hx⟩;rw[g1 rfl];refine⟨by lk,?_⟩;obtain⟨t,e⟩:=ae.yj (ae.bf xs ys s k) (ae.app xs x);rw[<- e,Zan qa];exact hx
 have Il:∀G',G'=ae.cP G (ae.app zs x)->(m+1=0->G'=ae.bf xs ys s k)/\(m+1=1->G'=ae.cP (ae.bf xs ys s k) (ae.app xs x))/\(m+1=2->G'=ae.visit xs ys (ae.bf xs ys s k) x):=λG' e=>by
  rcases em with⟨rfl,rfl⟩|⟨rfl,rfl⟩
  exact⟨λz=>by lk,λ_=>by rw[e,g0 rfl],λz=>by lk⟩;exact⟨λz=>by lk,λz=>by lk,λ_=>by rw[e,g1 rfl];rfl⟩
 have hat:dM (G.map D.int) (k:Int)=some (.int x):=Cv (by rw[Zag,hG.2];rfl);k_lt Z;refine Z _ _ (aQ (bx ?_));clear Z;exists _,Z,bz hl3,hat,rg (xs:=zs) x0 (by rw[tz.length];exact x1);refine Z _ _ (iP ?_);clear Z;exists _,Z,JT (st:=st3) (c:=.ref st.length) (ns:=G) (bz hl3);refine Z _ _ ⟨λhc=>pE ?_,λhc=>kM ?_⟩;obtain⟨n0,n1,n2⟩:=Il (G ++ [ae.app zs x]) (Uo hc).symm;exists _,cH,kP hl3;refine⟨oj (by rw[bz hl3];rfl),kO (by rw[Zaa];lk),cH _ _ ⟨_,_,G ++ [ae.app zs x],rfl,?_,n0,n1,n2,k3.loc (Zad _)⟩⟩;rw[Zah (dh hl3),Zar];rfl;obtain⟨n0,n1,n2⟩:=Il G (Up hc).symm;exact⟨_,_,G,rfl,hl3,n0,n1,n2,k3⟩;rintro δ st3 ⟨v4,v5,G,rfl,hl3,_,_,g2,k3⟩;have g2:=g2 rfl;subst g2;refine bx ?_;k_lt Z;refine Z _ _ ⟨n-(k+1),by lk,k+1,v4,v5,rfl,by simp,by rw[e1];exact hl3,by rw[e1];lk,k3⟩;have hlt:=of_decide_eq_false hlt;rw[Zaa]at hlt;have hle:(ae.bf xs ys s k).length<=k:=by lk
 have e:ae.bf xs ys s n=ae.bf xs ys s k:=by
  have:=ae.Jq hle (n-k)
  rwa [show k+(n-k)=n by lk]at this
 refine c7 ?_;exists _,cH,bz hl;rw[<- e];exact cH _ _ ⟨rfl,k2⟩
def ycM(tn:ae.Tn n xs)(hn:n<=100)(i0:0<=i)(i1:i<(n:Int)):Wp (Ko [.tup (xs.map D.int),.int i] st) λd st'=>∃r:List Int,d=.tup (r.map D.int)/\ae.jY xs i r/\Ex [] st st':=by
 have hlen:=tn.length;refine ie ?_;intro qR;show Ws (Gu [some (.tup (xs.map D.int)),some (.int i),none,none] st) _ _ _ _;unfold Gu;refine aQ (bx ?_);k_lt Z;refine⟨rfl,Z _ _ (aQ (bx ?_))⟩;clear Z;exists _,Z,rg (xs:=xs) i0 ⋯
 let lA:IV:=λm δ st2=>∃k:Nat,m=n-(k+1)/\δ=[some (.tup (xs.map D.int)),some (.int i),some (.ref st.length),some (.int (ae.bw xs i (k+1)))]/\st2[st.length]?=some (.lst ((ae.row xs i k).map D.int))/\ae.NB xs i k/\Ex [] st st2
 refine Z _ _ (aQ (xt lA (n-1) (Za3 (show n-1<=100 by lk) ∅) ⟨0,rfl,rfl,h9,λj h1 h2=>by lk,Ex.cL _⟩ ?_));clear Z;rintro m δ st2 ⟨k,rfl,rfl,hL,nb,k2⟩;have hrl:=tn.mM i0 i1 nb;k_lt Z;refine Z _ _ ⟨λhb=>?_,λhb=>?_⟩;have hb:ae.bw xs i (k+1)≠i:=by simpa using hb
 have Im:ae.NB xs i (k+1):=λj h1 h2=>by
  by_cases hj:j<=k;exact nb j h1 hj
  have:j=k+1:=by lk
  rw[this];exact hb
 have hle:=tn.mM i0 i1 Im;have hit:=tn.bw i0 i1 (k+1);refine aQ (pE ?_);exists _,cH,kP hL;refine⟨oj (by rw[bz hL];rfl),kO (by rw[Zaa,ae.wj];lk),cH _ _ (bx ?_)⟩;clear cH;exists _,cH,rg (xs:=xs) hit.1 ⋯;refine cH _ _ ⟨n-(k+1+1),by lk,k+1,rfl,rfl,?_,Im,k2.loc (Zad _)⟩;rw[Zah (dh hL),ae.QN,Zar];rfl;have hb:ae.bw xs i (k+1)=i:=by simpa using hb
 refine c7 ?_;exists _,cH,bz hL;exact cH _ _ ⟨_,rfl,⟨k,rfl,nb,hb⟩,k2⟩
def ycp(tn:ae.Tn n xs)(hn:n<=100):Wp (Kr [.tup (xs.map D.int)] st) λd st'=>∃rs:List (List Int),d=Fm rs/\ae.yi xs (ae.upto n) rs/\(∀r∈rs,r.length<=n/\∀x∈r,0<=x/\x<(n:Int))/\rs.length<=n/\Ex [] st st':=by
 have hlen:=tn.length;refine ie ?_;intro qR;show Ws (Gw [some (.tup (xs.map D.int)),none,none,none,none,none] st) _ _ _ _;unfold Gw;refine aQ (bx ?_);k_lt Z;refine⟨rfl,Z _ _ (aQ (bx ?_))⟩;k_lt2 Z;have eS:(st ++ [O.lst []]).length=st.length+1:=by simp
 rw[eS]
 refine Z _ _ (aQ (m9 (aE 0 n) (λk δ st2=>∃ (v3 v4 v5:Option D) (rs:List (List Int)) (kvs:List (Key×D)),δ=[some (.tup (xs.map D.int)),some (.ref st.length),some (.ref (st.length + 1)),v3,v4,v5]/\st2[st.length]?=some (.lst (rs.map λr=>.tup (r.map D.int)))/\st2[st.length + 1]?=some (.dct kvs) /\
   (∀rest,ae.yi xs (ae.from' n k (λx=>(eG kvs (Sum.inl x:Key)).isSome)) rest->ae.yi xs (ae.upto n) (rs ++ rest))/\(∀r∈rs,r.length<=n/\∀x∈r,0<=x/\x<(n:Int))/\rs.length<=k/\kvs.length<=k*n/\Ex [] st st2) ?_ (by rw[jH];lk) ?_ ?_))
 k_lt2 Z;rw[Zaa,hlen];refine⟨by lk,Z _ _ ⟨by rw[Zat],none,none,none,[],[],rfl,kN h9,by rw[<- eS];exact h9,λrest hrest=>?_,(λr hr=>nomatch hr),Zad _,ZaJ _,(Ex.cL _).app _⟩⟩;have e:ae.from' n 0 (λx=>(eG ([]:List (Key×D)) (Sum.inl x:Key)).isSome)=ae.upto n:=ae.Xq n;rw[e]at hrest;exact hrest;rintro k d δ st2 hd ⟨v3,v4,v5,rs,kvs,rfl,K7,K8,y6,hb,hrl,qa,k2⟩;have hk:=dh hd;rw[jH]at hk;rw[yH hk,ZbD]at hd;cases hd;have hkn:k*n<=10000:=Zap (Zcj (show k<=100 by lk) hn) ∅;k_lt2 Z;refine Z _ _ (iP ?_);clear Z;exists _,Z,JU K8,SN;have hfs:=ae.Xo hk (λx=>(eG kvs (Sum.inl x:Key)).isSome);refine Z _ _ ⟨λhs=>?_,λhs=>?_⟩;have Ob:(eG kvs (Sum.inl (k:Int):Key)).isSome=false:=by simpa using hs
 simp only[Ob,Za9,if_false]at hfs;clear Z;refine aQ (bx ?_);k_lt Z;refine aL (ycM tn hn (i:=(k:Int)) ⋯ ⋯) ?_;rintro d st3 ⟨r,rfl,pW,k3⟩;refine Z _ _ (aQ (pE ?_));clear Z;have Oc:=k3.keep _ _ K7 (by simp);have hS3:=k3.keep _ _ K8 (by simp);have Oe:=pW.len tn ⋯ ⋯;have hrb:=pW.bound tn ⋯ ⋯;exists _,Z,kP Oc;refine⟨oj (by rw[bz Oc];rfl),kO (by rw[Zaa];lk),Z _ _ ?_⟩;clear Z
 refine m9 (r.map D.int) (λj δ pK=>∃ (v5:Option D) (kvs':List (Key×D)),δ=[some (.tup (xs.map D.int)),some (.ref st.length),some (.ref (st.length + 1)),some (.int (k:Int)),some (.tup (r.map D.int)),v5]/\pK[st.length]?=some (.lst ((rs ++ [r]).map λr=>.tup (r.map D.int)))/\pK[st.length + 1]?=some (.dct kvs') /\
   (∀x:Int,(eG kvs' (Sum.inl x:Key)).isSome=((eG kvs (Sum.inl x:Key)).isSome || (r.take j).contains x))/\kvs'.length<=kvs.length+j/\Ex [] st pK) ?_ (by rw[Zaa];lk) ?_ ?_
 k_lt Z;refine Z _ _ ⟨rfl,v5,kvs,rfl,?_,?_,λx=>by simp,by lk,(k2.trans k3).loc (Zad _)⟩;rw[Zah (dh Oc),Zar];rfl;rw[Zak ⋯];exact hS3;rintro j y δ pK hj ⟨v5,kvs',rfl,Og,K9,La,Uq,k5⟩;obtain⟨x,hx,rfl⟩:=Fq hj;obtain⟨hjl,ex⟩:=Zab.mp hx;subst ex;k_lt Z;refine Z _ _ (YG ?_);k_lt2 Z;refine Z _ _ ?_;k_lt cH;refine cH _ _ ?_;k_lt vU;refine vU _ _ ⟨_,kvs',_,rfl,JU K9,SN _,kO ⋯,_,_,rfl,?_,Zah (dh K9),λx=>?_,?_,k5.loc ⋯⟩;rw[Zak ⋯];exact Og;rw[Y9,Zb hjl];by_cases hx:x=r[j];subst hx;simp;rw[if_neg (by intro z;exact hx (Sum.inl.inj z)),La x]
 have:(x == r[j])=false:=beq_eq_false_iff_ne.mpr hx;rw[this,Bool.or_false]
 have:=Za kvs' (Sum.inl r[j]:Key) (.bl true);lk
 rintro δ pK ⟨v5,kvs',rfl,Og,K9,La,Uq,k5⟩;rw[Zaa]at Uq La;refine⟨_,_,_,rs ++ [r],kvs',rfl,Og,K9,λrest hrest=>?_,λr' hr'=>?_,by rw[Zaf];simp;lk,by rw[Zch];lk,k5⟩;have e:(λx=>(eG kvs' (Sum.inl x:Key)).isSome)=λx=>((eG kvs (Sum.inl x:Key)).isSome || r.contains x):=by
  funext x;rw[La x,ZaM]
 rw[e,<- ae.Xp]at hrest;rw[ZbG];refine y6 _ ?_;rw[hfs];refine .cons pW ?_;have e2:ae.out ((k:Int) :: ae.from' n (k+1) (λx=>(eG kvs (Sum.inl x:Key)).isSome)) r=ae.out (ae.from' n (k+1) (λx=>(eG kvs (Sum.inl x:Key)).isSome)) r:=by
  unfold ae.out;rw[List.filter_cons,if_neg (by simp[pW.mem])]
 rw[e2];exact hrest;rcases Zax.mp hr' with h|h
 exact hb r' h
 have:r'=r:=by simpa using h
 subst this;exact⟨Oe,hrb⟩;have Ob:(eG kvs (Sum.inl (k:Int):Key)).isSome=true:=by simpa using hs
 simp only[Ob,if_true]at hfs;exact kM ⟨_,_,_,rs,kvs,rfl,K7,K8,λrest hrest=>y6 rest (by rw[hfs];exact hrest),hb,by lk,by rw[Zch];lk,k2⟩;rintro δ st2 ⟨v3,v4,v5,rs,kvs,rfl,K7,K8,y6,hb,hrl,qa,k2⟩;rw[jH]at y6 hrl;refine c7 ?_;clear Z;exists _,Z,bz K7;refine Z _ _ ⟨rs,rfl,?_,hb,hrl,k2⟩;have:=y6 [] (by rw[ae.Xn];exact .nil)
 rwa [Zbq]at this
def Xdt{rs:List (List Int)}{m:Nat}{d:D}(h:(rs.map λr=>D.tup (r.map D.int))[m]?=some d):∃r,rs[m]?=some r/\d=.tup (r.map D.int):=by rw[Zag]at h;obtain⟨r,h1,h2⟩:=Zay.mp h;exact⟨r,h1,h2.symm⟩
def Ur(h0:0<=j)(h1:j<((m+1:Nat):Int)):dM ((ae.row xs i m).map D.int) j=some (.int (ae.bw xs i j.toNat)):=by
 have e:((ae.row xs i m).map D.int)[j.toNat]?=some (.int (ae.bw xs i j.toNat)):=by
  unfold ae.row;rw[ZaC,Zag,ZaX ⋯];rfl
 have:=Cv e
 rwa [ZaG h0]at this
def Us(h0:0<=m)(h1:m<(bs.length:Int))(x0:0<=x):ae.app (bs.set m.toNat v) x=if x=m then v else ae.app bs x:=by have:=ae.MD (xs:=bs) (m:=m.toNat) (v:=v) (x:=x) ⋯ x0;rw[ZaG h0]at this;exact this
def Zcp(tn:ae.Tn n xs)(hn:n<=100):Wp (Ks [.tup (xs.map D.int),.int k] st) λd st'=>d=.tup ((ae.cB xs k).map D.int)/\Ex [] st st':=by
 have hlen:=tn.length;refine ie ?_;intro qR;show Ws (Gy [some (.tup (xs.map D.int)),some (.int k),none,none,none,none] st) _ _ _ _;unfold Gy;refine aQ (bx ?_);k_lt Z;have e0:(((xs.map D.int).length:Int)).toNat=n:=by rw[Zaa];lk
 have ez:(List.replicate n [D.int 0]).flatten=(List.replicate n (0:Int)).map D.int:=by
  clear hlen tn hn e0
  induction n with
  |zero=>rfl
  |succ n ih=>simp[ZaN]
 rw[e0,ez];have Ij:st.length<=(st ++ [O.lst [D.int 0]]).length:=by simp
 refine⟨rfl,by rw[Zaa];lk,kO (by simp;lk),Z _ _ ?_⟩;clear Z;have Oh:(st ++ [O.lst [D.int 0]] ++ [O.lst ((List.replicate n (0:Int)).map D.int)])[(st ++ [O.lst [D.int 0]]).length]?=some (.lst ((List.replicate n (0:Int)).map D.int)):=h9;have kB:Ex [] st (st ++ [O.lst [D.int 0]] ++ [O.lst ((List.replicate n (0:Int)).map D.int)]):=(Ex.cL _).app _;generalize (st ++ [O.lst [D.int 0]] ++ [O.lst ((List.replicate n (0:Int)).map D.int)])=stB at Oh kB ⊢;generalize (st ++ [O.lst [D.int 0]]).length=B at Ij Oh ⊢;show Ws _ _ _ _ _;obtain⟨d,st2,e2,rs,rfl,y6,hrb,hrl,k2⟩:=ycp (st:=stB) tn hn
 let lA:IV:=λm δ st3=>∃(v3 v4 v5:Option D) (bs:List Int),δ=[some (.tup (xs.map D.int)),some (.int k),some (.ref B),v3,v4,v5]/\st3[B]?=some (.lst (bs.map D.int))/\bs.length=n/\(∀j,j<m->∀r,rs[j]?=some r->∀x∈r,ae.app bs x=ae.pw xs k x)/\Ex [] st st3
 refine aQ (m9 (rs.map λr=>.tup (r.map D.int)) lA ?_ (by rw[Zaa];lk) ?_ ?_)
 ·k_lt Z
  refine⟨_,_,e2,?_⟩;exact⟨_,rfl,Z _ _ ⟨rfl,none,none,none,_,rfl,k2.keep _ _ Oh (by simp),by simp,λj hj=>absurd hj (ZaV _),kB.trans k2⟩⟩
 ·rintro m d δ st3 hm ⟨v3,v4,v5,bs,rfl,Oi,wA,xG,k3⟩
  obtain⟨r,hr,rfl⟩:=Xdt hm;obtain⟨i,hi,pW⟩:=y6.all.1 r (Zaj hr);obtain⟨i0,i1⟩:=ae.oG.mp hi;obtain⟨M,rfl,nb,bk⟩:=pW.ex;have hM:=tn.mM i0 i1 nb;k_lt Z
  let BX:IV:=λt δ pH=>∃(v4 v5:Option D) (cs:List Int),δ=[some (.tup (xs.map D.int)),some (.int k),some (.ref B),some (.tup ((ae.row xs i M).map D.int)),v4,v5]/\pH[B]?=some (.lst (cs.map D.int))/\cs.length=n/\(∀x:Int,0<=x->x<(n:Int)->ae.app bs x=ae.pw xs k x->ae.app cs x=ae.pw xs k x)/\(∀j,j<t->ae.app cs (ae.bw xs i j)=ae.pw xs k (ae.bw xs i j))/\Ex [] st pH
  refine Z _ _ (m9 (gi ((ae.row xs i M).map D.int)) BX ?_ ?_ ?_ ?_)
  ·clear Z
   k_lt Z;exact Z _ _ ⟨rfl,v4,v5,bs,rfl,Oi,wA,λ_ _ _ h=>h,λj hj=>absurd hj (ZaV _),k3⟩
  ·rw[EY,Zaa,ae.wj];lk
  ·rintro t d δ pH hd ⟨v4,v5,cs,rfl,Lb,hcl,hcs,hct,k4⟩
   obtain⟨d',hd',rfl⟩:=Nc hd;obtain⟨y,hy,rfl⟩:=Fq hd';have Ut:=dh hy;rw[ae.wj]at Ut;have ey:y=ae.bw xs i t:=by
    unfold ae.row at hy;rw[Zag,ZaX Ut]at hy;exact(Zao hy).symm
   subst ey;obtain⟨x0,x1⟩:=tn.bw i0 i1 t;have hL:(0:Int)<((M+1:Nat):Int):=by lk
   have m0:=Zbc ((t:Int)+k) (Int.ne_of_gt hL);have m1:=Zbo ((t:Int)+k) hL;have eL:((((ae.row xs i M).map D.int).length:Nat):Int)=((M+1:Nat):Int):=by rw[Zaa,ae.wj]
   have hix:oe (cs.map D.int).length (ae.bw xs i t)=some (ae.bw xs i t).toNat:=by
    have:=CB (n:=(cs.map D.int).length) (j:=(ae.bw xs i t).toNat) (by rw[Zaa];lk)
    rwa [ZaG x0]at this
   have es:∀v:Int,(cs.map D.int).set (ae.bw xs i t).toNat (.int v)=(cs.set (ae.bw xs i t).toNat v).map D.int:=λv=>by rw[List.map_set]
   k_lt2 Z;refine⟨rfl,Z _ _ (uw ?_)⟩;clear Z;exists _,Z,eL,Ur m0 m1;refine⟨hL,Z _ _ ?_⟩;clear Z;exists _,Z,kP Lb,hix,es;have hat:=tn.Ak x0 x1 (tn.Ag i0 i1 nb bk t k);refine Z _ _ ⟨_,_,_,rfl,Zah (dh Lb),by rw[Za8];exact hcl,λx h0 h1 h=>?_,λj hj=>?_,k4.loc Ij⟩
   ·rw[Us x0 ⋯ h0]
    split
    ·next e=>rw[e];exact hat
    ·exact hcs x h0 h1 h
   ·obtain⟨y0,y1⟩:=tn.bw i0 i1 j
    rw[Us x0 ⋯ y0];split
    ·next e=>rw[e];exact hat
    ·next e =>
     by_cases hjt:j=t
     ·rw[hjt]at e;exact absurd rfl e
     ·exact hct j ⋯
  ·rintro δ pH ⟨v4,v5,cs,rfl,Lb,hcl,hcs,hct,k4⟩
   rw[EY,Zaa,ae.wj]at hct;refine⟨_,_,_,cs,rfl,Lb,hcl,λj hj r hr2 x hx=>?_,k4⟩;by_cases hjm:j=m
   ·subst hjm
    rw[hr]at hr2;cases hr2;obtain⟨jj,hjj,rfl⟩:=ae.Jo.mp hx;exact hct jj ⋯
   ·obtain⟨b0,b1⟩:=(hrb r (Zaj hr2)).2 x hx
    exact hcs x b0 b1 (xG j ⋯ r hr2 x hx)
 ·rintro δ st3 ⟨v3,v4,v5,bs,rfl,Oi,wA,xG,k3⟩
  rw[Zaa]at xG;have e:bs=ae.cB xs k:=by
   refine ae.sL (n:=n) wA (by rw[ae.Eu];exact hlen) λs s0 s1=>?_;rw[ae.rX s0 ⋯];obtain⟨r,hr',hx⟩:=y6.all.2 s (ae.oG.mpr ⟨s0,s1⟩);obtain⟨j,hj,ej⟩:=Zbk hr';exact xG j hj r (by rw[Zac hj,ej]) s hx
  subst e;refine c7 ?_;exists _,Z,bz Oi;exact Z _ _ ⟨rfl,k3⟩
def YbW(tx:ae.Tn n xs)(ty:ae.Tn n ys)(hn:n<=100):Wp (Kt [bN xs ys,.int k] st) λd st'=>d=bN xs (ae.shr xs ys k)/\Ex [] st st':=by refine ie ?_;intro qR;show Ws (GB [some (bN xs ys),some (.int k)] st) _ _ _ _;unfold GB bN;refine c7 ?_;have tp:=tx.cB (-k);k_lt Z;refine aL (Zcp (k:=-k) tx hn) ?_;rintro d st1 ⟨rfl,k1⟩;refine aL (Ik (xs:=ae.cB xs (-k)) (ys:=ys) (λx hx=>by rw[ty.length];exact tp.bound hx) (by rw[tp.length];exact hn)) ?_;rintro d st2 ⟨rfl,k2⟩;exact⟨rfl,Z _ _ ⟨rfl,k1.trans k2⟩⟩
def Zby(tx:ae.Tn n xs)(ty:ae.Tn n ys)(hn:n<=100):Wp (Ku [bN xs ys] st) λd st'=>d=bN (ae.inv ys) xs/\Ex [] st st':=by refine ie ?_;intro qR;show Ws (GF [some (bN xs ys)] st) _ _ _ _;unfold GF bN;refine c7 ?_;k_lt Z;refine aL (K4 ty hn) ?_;rintro d st1 ⟨rfl,k1⟩;exact⟨rfl,Z _ _ ⟨rfl,k1⟩⟩
def Uu{st:Store}{Q:D->Store->Prop}{xs:List Int}{v:Int}(h:v∈xs):Wp (lb (.tup (xs.map D.int)) [.int v] st) Q↔Q (.int (xs.idxOf v:Int)) st:=by rw[Sx];constructor;rintro⟨ns,j,h1,h2,q⟩;rw[JP]at h1;cases h1;rw[SJ h]at h2;cases h2;exact q;intro q;exact⟨xs,_,JP xs,SJ h,q⟩
def Uv:dM ((ae.row xs i m).map D.int) (-1)=some (.int (ae.bw xs i m)):=by
 have hl:((ae.row xs i m).map D.int).length=m+1:=by rw[Zaa,ae.wj]
 unfold dM oe;rw[if_neg ∅,hl,if_pos ⋯,Zbg,show((-1:Int)+((m+1:Nat):Int)).toNat=m by lk];unfold ae.row;rw[ZaC,Zag,ZaX ⋯];rfl
def zb7(tn:ae.Tn n xs)(hn:n<=100)(s0:0<=s)(s1:s<(n:Int)):Wp (Kf [.tup (xs.map D.int),.int s,.int k] st) λd st'=>d=.int (ae.pw xs k s)/\Ex [] st st':=by
 have hlen:=tn.length;refine ie ?_;intro qR;show Ws (FZ [some (.tup (xs.map D.int)),some (.int s),some (.int k),none] st) _ _ _ _;unfold FZ
 let lA:IN:=λδ st1=>∃(zs:List Int) (j:Nat),δ=[some (.tup (zs.map D.int)),some (.int s),some (.int (j:Int)),none]/\ae.Tn n zs/\ae.bw zs s j=ae.pw xs k s/\Ex [] st st1
 refine aQ (A5 (N:=lA) (iP ?_) ?_);k_lt Z;refine Z _ _ ⟨λh=>?_,λh=>kM ⟨xs,k.toNat,?_,tn,?_,Ex.refl⟩⟩;have h:=of_decide_eq_true h;clear Z;refine aQ (bx ?_);k_lt Z;refine vH (aE 0 n) (λd=>.int (xs.idxOf (inD d):Int)) ?_ (by rw[jH];lk) ?_ ?_;k_lt cH;rw[Zaa,hlen];exact⟨by lk,cH _ _ ⟨by rw[Zat];exact se _ _,Ex.refl⟩⟩;intro d hd uk k7;rw[tP]at hd;obtain⟨x,hx,rfl⟩:=Bn hd;obtain⟨x0,x1⟩:=ae.oG.mp hx;exists _,cH,Zaz,ZaT,ZaY,ZaZ,Sw,Uu (tn.mem x0 x1);exact cH _ _ ⟨rfl,Ex.refl⟩;intro uk k7;have e:(aE 0 n).map (λd=>D.int (xs.idxOf (inD d):Int))=(ae.inv xs).map D.int:=by
  rw[tP,Fs (f:=λx=>(xs.idxOf x:Int)) λx hx=>rfl];unfold ae.inv;rw[hlen]
 rw[e];w_how;refine Z _ _ (bx ?_);k_lt2 Z;refine Z _ _ ⟨ae.inv xs,(-k).toNat,?_,tn.aA,?_,k7.app _⟩;rw[show(0:Int)-k=(((-k).toNat:Nat):Int) by lk];rfl;unfold ae.pw;rw[if_neg ⋯];have h:=of_decide_eq_false h;rw[ZaG ⋯];have h:=of_decide_eq_false h;unfold ae.pw;rw[if_pos ⋯];rintro δ st1 ⟨zs,j,rfl,tz,ej,k1⟩;have Ub:=tz.length;refine aQ (bx ?_);k_lt Z
 let BX:IV:=λm δ st2=>∃k:Nat,m=n-(k+1)/\δ=[some (.tup (zs.map D.int)),some (.int s),some (.int (j:Int)),some (.ref st1.length)]/\st2[st1.length]?=some (.lst ((ae.row zs s k).map D.int))/\ae.NB zs s k/\Ex [] st1 st2
 refine⟨rfl,Z _ _ (aQ (xt BX (n-1) (Za3 (show n-1<=100 by lk) ∅) ⟨0,rfl,rfl,h9,λj h1 h2=>by lk,Ex.cL _⟩ ?_))⟩;clear Z;rintro m δ st2 ⟨k',rfl,rfl,hL,nb,k2⟩;have hrl:=tz.mM s0 s1 nb;obtain⟨y0,y1⟩:=tz.bw s0 s1 k';exists _,Z,bz hL,Uv,rg (xs:=zs) y0 ⋯;refine Z _ _ ⟨λhb=>?_,λhb=>?_⟩;have hb:ae.bw zs s (k' + 1)≠s:=by show ae.app zs (ae.bw zs s k')≠s;simpa using hb
 have Im:ae.NB zs s (k' + 1):=λj h1 h2=>by
  by_cases hj:j<=k';exact nb j h1 hj
  have:j=k' + 1:=by lk
  rw[this];exact hb
 have hle:=tz.mM s0 s1 Im;refine pE ?_;exists _,cH,bz hL,Uv,rg (xs:=zs) y0 ⋯,kP hL;refine⟨oj (by rw[bz hL];rfl),kO (by rw[Zaa,ae.wj];lk),cH _ _ ⟨n-(k' + 1+1),by lk,k' + 1,rfl,rfl,?_,Im,k2.loc (Zad _)⟩⟩;rw[Zah (dh hL),ae.QN,Zar];rfl;have hb:ae.bw zs s (k' + 1)=s:=by show ae.app zs (ae.bw zs s k')=s;simpa using hb
 refine c7 ?_;have hpos:(0:Int)<((k' + 1:Nat):Int):=by lk
 have eL:((((ae.row zs s k').map D.int).length:Nat):Int)=((k' + 1:Nat):Int):=by rw[Zaa,ae.wj]
 exists _,cH,bz hL,eL,Ur (Zbc (j:Int) (Int.ne_of_gt hpos)) (Zbo (j:Int) hpos);refine⟨hpos,cH _ _ ⟨?_,k1.trans k2⟩⟩;rw[<- ej,show((j:Int) % ((k' + 1:Nat):Int)).toNat=j % (k' + 1) by lk,ae.QQ hb]
def Ycp(tx:ae.Tn n xs)(ty:ae.Tn n ys)(hn:n<=100):Wp (yX [bN xs ys,.tup [.str "s",.int k]] st) λd st'=>d=bN xs (ae.shr xs ys k)/\Ex [] st st':=by
 have hlx:=tx.length;have C9:=ty.length;refine ie ?_;intro qR;show Ws (BL [some (bN xs ys),some (.tup [.str "s",.int k]),none,none,none] st) _ _ _ _;unfold BL bN;refine aQ (uw ?_);k_lt Z;refine Z _ _ ?_;k_lt2 Z;refine⟨rfl,Z _ _ (aQ (iP ?_))⟩;k_lt2 Z;refine Z _ _ ⟨λ_=>c7 ?_,λh=>absurd h (by simp)⟩;k_lt2 Z;refine vH (aE 0 n) (λd=>.int (ae.app ys (ae.pw xs (-k) (inD d)))) ?_ (by rw[jH];lk) ?_ ?_;k_lt cH;rw[Zaa,C9];exact⟨by lk,cH _ _ ⟨by rw[Zat];exact se _ _,Ex.refl⟩⟩;intro d hd uk k7;rw[tP]at hd;obtain⟨x,hx,rfl⟩:=Bn hd;obtain⟨x0,x1⟩:=ae.oG.mp hx;obtain⟨p0,p1⟩:=tx.pw x0 x1 (-k);exists _,cH,Zaz,ZaT,ZaY,ZaZ;refine aL (zb7 (k:=0-k) tx hn x0 x1) ?_;rintro d iI ⟨rfl,k8⟩;rw[show(0:Int)-k=-k by lk];exists rg (xs:=ys) p0 ⋯;exact cH _ _ ⟨rfl,k8⟩;intro uk k7;have e:(aE 0 n).map (λd=>D.int (ae.app ys (ae.pw xs (-k) (inD d))))=(ae.shr xs ys k).map D.int:=by
  rw[tP,Fs (f:=λx=>ae.app ys (ae.pw xs (-k) x)) λx hx=>rfl];unfold ae.shr ae.a5 ae.cB;rw[hlx,ZaC,ZaC,ZaC];rfl
 rw[e];w_how;exact⟨rfl,Z _ _ ⟨rfl,k7.app _⟩⟩
abbrev pI(xs ys:List Int):Nat->List Int×List Int
 |0=>(xs,ys)
 |j+1=>(ae.inv (pI xs ys j).2,(pI xs ys j).1)
def Io(tx:ae.Tn n xs)(ty:ae.Tn n ys):∀j,ae.Tn n (pI xs ys j).1/\ae.Tn n (pI xs ys j).2
 |0=>⟨tx,ty⟩
 |j+1=>⟨(Io tx ty j).2.aA,(Io tx ty j).1⟩
def xcp{st:Store}{xs ys:List Int}{n j:Nat}(tx:ae.Tn n xs)(ty:ae.Tn n ys)(hn:n<=100)(hj:j<4):Wp (yX [bN xs ys,.tup [.str "t",.int (j:Int)]] st) λd st'=>d=bN (pI xs ys j).1 (pI xs ys j).2/\Ex [] st st':=by
 refine ie ?_;intro qR;show Ws (BL [some (bN xs ys),some (.tup [.str "t",.int (j:Int)]),none,none,none] st) _ _ _ _;unfold BL bN;refine aQ (uw ?_);k_lt Z;refine Z _ _ ?_;k_lt2 Z;refine⟨rfl,Z _ _ (aQ (iP ?_))⟩;k_lt2 Z
 let lA:IV:=λi δ st2=>∃v4:Option D,δ=[some (.tup [.tup (xs.map D.int),.tup (ys.map D.int)]),some (.tup [.str "t",.int (j:Int)]),some (.tup ((pI xs ys i).1.map D.int)),some (.tup ((pI xs ys i).2.map D.int)),v4]/\Ex [] st st2
 refine Z _ _ ⟨λh=>absurd h ∅,λ_=>kM (aQ (m9 (aE 0 j) lA ?_ (by rw[jH];lk) ?_ ?_))⟩;k_lt2 Z;rw[show(j:Int) % 4=(j:Int) by lk];exact⟨by lk,by lk,Z _ _ ⟨by rw[Zat],none,rfl,Ex.refl⟩⟩;rintro i d δ st2 hd ⟨v4,rfl,k2⟩;obtain⟨ta,tb⟩:=Io tx ty i;show Wp _ _;have hlb:=tb.length;generalize hzs:(pI xs ys i).2=zs at tb hlb ⊢;k_lt2 Z;refine Z _ _ (uw ?_);k_lt2 Z;refine vH (aE 0 n) (λd=>.int (zs.idxOf (inD d):Int)) ?_ (by rw[jH];lk) ?_ ?_;k_lt cH;rw[Zaa,hlb];exact⟨by lk,cH _ _ ⟨by rw[Zat];exact se _ _,Ex.refl⟩⟩;intro d hd uk k7;rw[tP]at hd;obtain⟨x,hx,rfl⟩:=Bn hd;obtain⟨x0,x1⟩:=ae.oG.mp hx;exists _,cH,Zaz,ZaT,ZaY,ZaZ,Sw,Uu (tb.mem x0 x1);exact cH _ _ ⟨rfl,Ex.refl⟩;intro uk k7;have e:(aE 0 n).map (λd=>D.int (zs.idxOf (inD d):Int))=(ae.inv zs).map D.int:=by
  rw[tP,Fs (f:=λx=>(zs.idxOf x:Int)) λx hx=>rfl];unfold ae.inv;rw[hlb]
 rw[e];w_how;refine⟨rfl,Z _ _ ?_⟩;k_lt2 Z;refine⟨rfl,Z _ _ ⟨some d,?_,(k2.trans k7).app _⟩⟩;rw[show(pI xs ys (i+1)).1=ae.inv (pI xs ys i).2 from rfl,show(pI xs ys (i+1)).2=(pI xs ys i).1 from rfl,hzs];rintro δ st2 ⟨v4,rfl,k2⟩;rw[jH];refine c7 ?_;k_lt2 Z;exact⟨rfl,Z _ _ ⟨rfl,k2⟩⟩
abbrev Ip(s:b7):Prop:=s.1=false->1<=s.2/\s.2<=3
abbrev jr(p:List Int×List Int)(s:b7):List Int×List Int:=if s.1=true then(p.1,ae.shr p.1 p.2 s.2)else pI p.1 p.2 s.2.toNat
abbrev mP(p:List Int×List Int)(w:List b7):List Int×List Int:=w.foldl jr p
def XcZ(h:ae.Tn n p.1/\ae.Tn n p.2)(s:b7):ae.Tn n (jr p s).1/\ae.Tn n (jr p s).2:=by unfold jr;split;exact⟨h.1,h.1.shr h.2 _⟩;exact Io h.1 h.2 _
def Oj:∀{p:List Int×List Int},ae.Tn n p.1/\ae.Tn n p.2->∀w:List b7,ae.Tn n (mP p w).1/\ae.Tn n (mP p w).2
 |_,h,[]=>h
 |_,h,s :: w=>Oj (XcZ h s) w
def zc0(p:List Int×List Int)(v w:List b7):mP p (v ++ w)=mP (mP p v) w:=by unfold mP;rw[Za6]
def Uw(p:List Int×List Int)(w:List b7)(s:b7):mP p (w ++ [s])=jr (mP p w) s:=by rw[zc0];rfl
abbrev a9(p:List Int×List Int):D:=bN p.1 p.2
def Ux(h:ae.Tn n p.1/\ae.Tn n p.2)(hn:n<=100)(hs:Ip s):Wp (yX [a9 p,aZ s] st) λd st'=>d=a9 (jr p s)/\Ex [] st st':=by
 obtain⟨b,k⟩:=s;cases b with
 |true=>exact Ycp (k:=k) h.1 h.2 hn
 |false =>
  obtain⟨k1,k3⟩:=hs rfl;obtain⟨j,rfl⟩:∃j:Nat,k=(j:Int):=⟨k.toNat,by simp only at k1;lk⟩;have:=xcp (st:=st) (j:=j) h.1 h.2 hn (by simp only at k3;lk);refine aL this ?_;rintro d st1 ⟨rfl,k1⟩;refine⟨?_,k1⟩;unfold a9 jr;rw[if_neg (show ¬(false=true)from Zam),Zat]
def Zb7(h:ae.Tn n p.1/\ae.Tn n p.2)(hn:n<=100)(hw:∀s∈w,Ip s)(hl:w.length<=1000):Wp (BV [a9 p,.tup (w.map aZ)] st) λd st'=>d=a9 (mP p w)/\Ex [] st st':=by refine sS ?_;show Ws (HZ [some (a9 p),some (.tup (w.map aZ)),none] st) _ _ _ _;unfold HZ;refine aQ (m9 (w.map aZ) (λi δ st2=>∃v2:Option D,δ=[some (a9 (mP p (w.take i))),some (.tup (w.map aZ)),v2]/\Ex [] st st2) ?_ (by rw[Zaa];lk) ?_ ?_);k_lt Z;exact Z _ _ ⟨rfl,none,rfl,Ex.refl⟩;rintro i d δ st2 hd ⟨v2,rfl,k2⟩;rw[Zag]at hd;obtain⟨s,hs,rfl⟩:=Zay.mp hd;obtain⟨hil,es⟩:=Zab.mp hs;k_lt Z;refine Z _ _ (bx ?_);k_lt2 Z;refine aL (Ux (Oj h _) hn (hw s (Zaj hs))) ?_;rintro d st3 ⟨rfl,k3⟩;refine Z _ _ ⟨some (aZ s),?_,k2.trans k3⟩;rw[ZaI hil,Uw,es];rfl;rintro δ st2 ⟨v2,rfl,k2⟩;rw[Zaa,ZaM];refine c7 ?_;k_lt Z;exact Z _ _ ⟨rfl,k2⟩
def ybX(h:ae.Tn n p.1/\ae.Tn n p.2)(hn:n<=100)(hs:Ip s):Wp (Kv [a9 p,aZ s] st) λd st'=>d=a9 (jr p s)/\Ex [] st st':=by
 obtain⟨b,k⟩:=s;refine ie ?_;intro qR;show Ws (GH [some (a9 p),some (aZ (b,k)),none,none] st) _ _ _ _;unfold GH aZ;cases b with
 |true =>
  refine aQ (iP ?_);k_lt Z;refine Z _ _ ⟨λ_=>c7 ?_,λz=>absurd z ∅⟩;k_lt2 Z;refine aL (YbW (k:=k) h.1 h.2 hn) ?_;rintro d st1 ⟨rfl,k1⟩;exact Z _ _ ⟨rfl,k1⟩
 |false =>
  obtain⟨k1,k3⟩:=hs rfl;obtain⟨j,rfl⟩:∃j:Nat,k=(j:Int):=⟨k.toNat,by simp only at k1;lk⟩;refine aQ (iP ?_);k_lt Z;refine Z _ _ ⟨λz=>absurd z ∅,λ_=>kM (aQ (bx ?_))⟩;k_lt2 Z
  let lA:IV:=λi δ st2=>∃v3:Option D,δ=[some (a9 p),some (aZ (false,(j:Int))),some (bN (pI p.1 p.2 i).1 (pI p.1 p.2 i).2),v3]/\Ex [] st st2
  refine Z _ _ (aQ (m9 (aE 0 j) lA ?_ (by rw[jH];simp only at k3;lk) ?_ ?_));k_lt2 Z;exact⟨by simp only at k3;lk,Z _ _ ⟨by rw[Zat],none,rfl,Ex.refl⟩⟩;rintro i d δ st2 hd ⟨v3,rfl,k2⟩;obtain⟨ta,tb⟩:=Io h.1 h.2 i;k_lt2 Z;refine Z _ _ (bx ?_);k_lt2 Z;refine aL (Zby ta tb hn) ?_;rintro d' st3 ⟨rfl,k3⟩;exact Z _ _ ⟨some d,rfl,k2.trans k3⟩;rintro δ st2 ⟨v3,rfl,k2⟩;rw[jH];refine c7 ?_;k_lt2 Z;refine Z _ _ ⟨?_,k2⟩;unfold a9 jr;rw[if_neg (show ¬(false=true)from Zam),Zat]
def Uy(h:ae.Tn n p.1/\ae.Tn n p.2)(hn:n<=100)(hw:∀s∈w,Ip s)(hl:w.length<=1000):Wp (GK [a9 p,.tup (w.map aZ)] st) λd st'=>d=a9 (mP p w)/\Ex [] st st':=by
 refine ie ?_;intro qR;show Ws (GJ [some (a9 p),some (.tup (w.map aZ)),none,none] st) _ _ _ _;unfold GJ;refine aQ (bx ?_);k_lt Z
 let lA:IV:=λi δ st2=>∃v2:Option D,δ=[some (a9 p),some (.tup (w.map aZ)),some (a9 (mP p (w.take i))),v2]/\Ex [] st st2
 refine Z _ _ (aQ (m9 (w.map aZ) lA ?_ (by rw[Zaa];lk) ?_ ?_));k_lt2 Z;exact Z _ _ ⟨rfl,none,rfl,Ex.refl⟩;rintro i d δ st2 hd ⟨v2,rfl,k2⟩;rw[Zag]at hd;obtain⟨s,hs,rfl⟩:=Zay.mp hd;obtain⟨hil,es⟩:=Zab.mp hs;k_lt2 Z;refine Z _ _ (bx ?_);k_lt2 Z;refine aL (ybX (Oj h _) hn (hw s (Zaj hs))) ?_;rintro d st3 ⟨rfl,k3⟩;refine Z _ _ ⟨some (aZ s),?_,k2.trans k3⟩;rw[ZaI hil,Uw,es];rfl;rintro δ st2 ⟨v2,rfl,k2⟩;rw[Zaa,ZaM];refine c7 ?_;k_lt2 Z;exact Z _ _ ⟨rfl,k2⟩
abbrev di(T:ae.T4):D:=.tup [.int T.a,.int T.b,.int T.c,.int T.d]
abbrev Lc(A B:ae.T4):Prop:=∀x∈[A.a,A.b,A.c,A.d],∀y∈[B.a,B.b,B.c,B.d],cn x y=true
def y8(h:A.le 18446744073709551615):Lc A B:=λx hx y _=>by
 refine Zs ?_;obtain⟨h1,h2,h3,h4⟩:=h;simp only[ZaF,Zcs,or_false]at hx;rcases hx with rfl|rfl|rfl|rfl<;>lk
def Ol(hk:k<=60000000)(hM:M<P2 k)(h:A.le M)(h':B.le M):Lc A B:=λx hx y hy=>by
 obtain⟨h1,h2,h3,h4⟩:=h;obtain⟨g1,g2,g3,g4⟩:=h';simp only[ZaF,Zcs,or_false]at hx hy;refine NQ hk ?_ ?_;rcases hx with rfl|rfl|rfl|rfl<;>lk
 rcases hy with rfl|rfl|rfl|rfl<;>lk
def Ld(h:Lc A B):Wp (y4 [di A,di B] st) λd st'=>d=di (A.mul B)/\Ex [] st st':=by refine ie ?_;intro qR;show Ws (G2 [some (di A),some (di B)] st) _ _ _ _;unfold G2 di;refine c7 ?_;have hh:∀x y:Int,x∈[A.a,A.b,A.c,A.d]->y∈[B.a,B.b,B.c,B.d]->cn x y=true:=λx y hx hy=>h x hx y hy;have a1:∀y∈[B.a,B.b,B.c,B.d],cn A.a y=true:=h _ (by simp);have a2:∀y∈[B.a,B.b,B.c,B.d],cn A.b y=true:=h _ (by simp);have a3:∀y∈[B.a,B.b,B.c,B.d],cn A.c y=true:=h _ (by simp);have a4:∀y∈[B.a,B.b,B.c,B.d],cn A.d y=true:=h _ (by simp);exists _,Z,JY,at2,SQ;exact⟨a1 _ (by simp),a2 _ (by simp),a1 _ (by simp),a2 _ (by simp),a3 _ (by simp),a4 _ (by simp),a3 _ (by simp),a4 _ (by simp),rfl,Z _ _ ⟨rfl,Ex.refl⟩⟩
def Uz{st:Store}{s:b7}(h:ae.bM s):Wp (G4 [aZ s] st) λd st'=>d=di (ae.gw s)/\Ex [] st st':=by
 obtain⟨b,k⟩:=s;refine ie ?_;intro qR;show Ws (KD [some (aZ (b,k)),none,none] st) _ _ _ _;unfold KD aZ;cases b with
 |true =>
  refine aQ (iP ?_);k_lt Z;refine Z _ _ ⟨λ_=>c7 ?_,λh=>absurd h ∅⟩;k_lt2 Z;exact⟨rfl,Z _ _ ⟨rfl,Ex.refl⟩⟩
 |false =>
  obtain⟨k1,k3⟩:=h.1 rfl;simp only at k1 k3;obtain⟨j,rfl⟩:∃j:Nat,k=(j:Int):=⟨k.toNat,by lk⟩;refine aQ (iP ?_);k_lt Z;refine Z _ _ ⟨λh=>absurd h ∅,λ_=>kM (aQ (bx ?_))⟩;k_lt2 Z;refine Z _ _ ?_;clear Z;show Ws _ _ _ _ _
  let lA:IV:=λi δ st2=>∃v:Option D,δ=[some (.tup [.str "t",.int (j:Int)]),some (di (ae.qp i)),v]/\Ex [] st st2
  refine aQ (m9 (aE 0 j) lA ?_ (by rw[jH];lk) ?_ ?_);k_lt Z;exact⟨by lk,Z _ _ ⟨by rw[Zat],none,rfl,Ex.refl⟩⟩;rintro i d δ st2 hd ⟨v,rfl,k2⟩;k_lt Z;refine Z _ _ (bx ?_);k_lt2 Z;refine aL (Ld (A:=ae.T4.qt) (B:=ae.qp i) (y8 ⟨by decide,by decide,by decide,by decide⟩)) ?_;rintro d st3 ⟨rfl,k3⟩;exact Z _ _ ⟨_,rfl,k2.trans k3⟩;rintro δ st2 ⟨v,rfl,k2⟩;rw[jH];refine c7 ?_;k_lt Z;refine Z _ _ ⟨?_,k2⟩;show di (ae.qp j)=di (ae.qp (j:Int).toNat);rw[Zat]
def UA{s:b7}{B:Nat}(h:ae.bM s)(hs:s.2.natAbs<=B):(ae.gw s).le (B+1):=by
 have:=ae.ym (T:=ae.T4.one) (s:=s) (M:=1) (B:=B) ⟨by decide,by decide,by decide,by decide⟩ h hs
 rwa [ae.T4.mul_one,Nat.mul_one]at this
def wB{T:ae.T4}{M N:Nat}(h:T.le M)(hn:M<=N):T.le N:=⟨Zap h.1 hn,Zap h.2.1 hn,Zap h.2.2.1 hn,Zap h.2.2.2 hn⟩
def ZbX{st:Store}{w:List b7}(hw:∀s∈w,ae.bM s/\s.2.natAbs<=4611686018427387904)(hl:w.length<=1000):Wp (BQ [.tup (w.map aZ)] st) λd st'=>d=di (ae.av w)/\Ex [] st st':=by
 refine ie ?_;intro qR;show Ws (C5 [some (.tup (w.map aZ)),none,none] st) _ _ _ _;unfold C5;refine aQ (bx ?_);k_lt Z;refine Z _ _ ?_;clear Z;show Ws _ _ _ _ _
 let lA:IV:=λi δ st2=>∃v:Option D,δ=[some (.tup (w.map aZ)),some (di (ae.av (w.take i))),v]/\Ex [] st st2
 refine aQ (m9 (w.map aZ) lA ?_ (by rw[Zaa];lk) ?_ ?_);k_lt Z;exact Z _ _ ⟨rfl,none,rfl,Ex.refl⟩;rintro i d δ st2 hd ⟨v2,rfl,k2⟩;rw[Zag]at hd;obtain⟨s,hs,rfl⟩:=Zay.mp hd;obtain⟨hil,es⟩:=Zab.mp hs;have hsw:=hw s (Zaj hs);k_lt Z;refine Z _ _ (bx ?_);k_lt2 Z;refine aL (Uz hsw.1) ?_;rintro d st3 ⟨rfl,k3⟩;refine aL (Ld (y8 (wB (UA hsw.1 hsw.2) ∅))) ?_;rintro d pH ⟨rfl,k4⟩;refine Z _ _ ⟨some (aZ s),?_,(k2.trans k3).trans k4⟩;rw[ZaI hil,ae.tJ,es];rfl;rintro δ st2 ⟨v2,rfl,k2⟩;rw[Zaa,ZaM];refine c7 ?_;k_lt Z;exact Z _ _ ⟨rfl,k2⟩
def Om{w:List b7}{b n:Nat}(hw:∀s∈w,ae.bM s/\s.2.natAbs+1<=P2 b)(hn:w.length<=n):(ae.av w).le (P2 (b*n)):=by
 have:=ae.XT (B:=P2 b-1) (n:=n) (w:=w) (λs hs=>⟨(hw s hs).1,by have:=(hw s hs).2;lk⟩) hn
 rwa [show P2 b-1+1=P2 b by have:=Ad b;lk,Ae]at this
def UB{st:Store}{w:List b7}{b:Nat}(hb:b<=50000)(hw:∀s∈w,ae.bM s/\s.2.natAbs+1<=P2 b)(hl:w.length<=1000):Wp (BQ [.tup (w.map aZ)] st) λd st'=>d=di (ae.av w)/\Ex [] st st':=by
 refine ie ?_;intro qR;show Ws (C5 [some (.tup (w.map aZ)),none,none] st) _ _ _ _;unfold C5;refine aQ (bx ?_);k_lt Z;refine Z _ _ ?_;clear Z;show Ws _ _ _ _ _
 let lA:IV:=λi δ st2=>∃v:Option D,δ=[some (.tup (w.map aZ)),some (di (ae.av (w.take i))),v]/\Ex [] st st2
 refine aQ (m9 (w.map aZ) lA ?_ (by rw[Zaa];lk) ?_ ?_);k_lt Z;exact Z _ _ ⟨rfl,none,rfl,Ex.refl⟩;rintro i d δ st2 hd ⟨v2,rfl,k2⟩;rw[Zag]at hd;obtain⟨s,hs,rfl⟩:=Zay.mp hd;obtain⟨hil,es⟩:=Zab.mp hs;have hsw:=hw s (Zaj hs);k_lt Z;refine Z _ _ (bx ?_);k_lt2 Z;refine aL (Uz hsw.1) ?_;rintro d st3 ⟨rfl,k3⟩;refine aL (Ld (Ol (M:=P2 (b*1000)) (k:=b*1000+1) ⋯ (by rw[va];have:=Ad (b*1000);lk) (wB (UA (B:=P2 b-1) hsw.1 ⋯) (by have:=Ad b;have:=wg (show b<=b*1000 by lk);lk)) (Om (λs hs=>hw s (List.mem_of_mem_take hs)) (by rw[Zbf];lk)))) ?_;rintro d pH ⟨rfl,k4⟩;refine Z _ _ ⟨some (aZ s),?_,(k2.trans k3).trans k4⟩;rw[ZaI hil,ae.tJ,es];rfl;rintro δ st2 ⟨v2,rfl,k2⟩;rw[Zaa,ZaM];refine c7 ?_;k_lt Z;exact Z _ _ ⟨rfl,k2⟩
def xb7:Wp (Ky [aZ a,aZ b] st) λd st'=>d=.tup ((ae.cj a b).map aZ)/\Ex [] st st':=by
 obtain⟨ab,ak⟩:=a;obtain⟨bb,bk⟩:=b;refine ie ?_;intro qR;show Ws (GN [some (.tup [.str (if ab then "s" else "t"),.int ak]),some (.tup [.str (if bb then "s" else "t"),.int bk]),none] st) _ _ _ _;unfold GN;have hj:ae.cj (ab,ak) (bb,bk)=if ae.gu (ab,ak) (bb,bk)=0 then[]else[(ab,ae.gu (ab,ak) (bb,bk))]:=rfl
 refine aQ (bx ?_);k_lt Z;refine Z _ _ ?_;clear Z;show Ws _ _ _ _ _
 let lA:IN:=λδ st1=>st1=st/\δ=[some (.tup [.str (if ab then "s" else "t"),.int ak]),some (.tup [.str (if bb then "s" else "t"),.int bk]),some (.int (ae.gu (ab,ak) (bb,bk)))]
 refine aQ (A5 (N:=lA) (iP ?_) ?_);k_lt Z;refine Z _ _ ⟨λh=>bx ?_,λh=>kM ⟨rfl,?_⟩⟩;cases ab with
 |true=>exact absurd h ∅
 |false =>
  k_lt2 Z;exact⟨by decide,Z _ _ ⟨rfl,rfl⟩⟩
 cases ab with
 |true=>rfl
 |false=>exact absurd h ∅
 rintro δ st1 ⟨rfl,rfl⟩;refine aQ (iP ?_);k_lt Z;refine Z _ _ ⟨λh=>c7 ?_,λh=>kM (c7 ?_)⟩;have h:=of_decide_eq_true h;k_lt2 Z;refine⟨rfl,Z _ _ ⟨?_,Ex.refl⟩⟩;rw[hj,if_pos h];rfl;have h:=of_decide_eq_false h;k_lt2 Z;refine⟨rfl,rfl,Z _ _ ⟨?_,Ex.refl⟩⟩;rw[hj,if_neg h];rfl
def Oo{xs:List D}{x:D}:dM (xs ++ [x]) (-1)=some x:=by
 unfold dM oe;rw[Zaf,if_neg ∅,if_pos (by simp;lk)];simp only[Zbg];have e:((-1:Int)+((xs.length+[x].length:Nat):Int)).toNat=xs.length:=by simp only[Zbe];lk
 rw[e];simp
def yc0:cutD (xs ++ [x]) none (some (-1))=xs:=by
 have e1:HT.cO (xs ++ [x]).length 0 none=0:=rfl;have e2:HT.cO (xs ++ [x]).length (xs ++ [x]).length (some (-1))=xs.length:=by
  unfold HT.cO;simp only;rw[if_pos ∅,Zaf,Zbe];lk
 unfold cutD;rw[e1,e2,ZcC,Nat.sub_zero];simp
def xcM(a b:Bool):(((if a=true then("s" : Str)else "t")=(if b=true then("s" : Str)else "t")))↔a=b:=by cases a<;>cases b<;>decide
def Yby{st:Store}{w:List b7}(hl:w.length<=1000):Wp (Kz [.tup (w.map aZ)] st) λd st'=>d=.tup ((ae.gY w).reverse.map aZ)/\Ex [] st st':=by
 refine ie ?_;intro qR;show Ws (GP [some (.tup (w.map aZ)),none,none] st) _ _ _ _;unfold GP;refine aQ (bx ?_);k_lt Z;refine⟨rfl,Z _ _ ?_⟩;clear Z;show Ws _ _ _ _ _;refine aQ (m9 (w.map aZ) (λi δ st2=>∃v:Option D,δ=[some (.tup (w.map aZ)),some (.tup ((ae.gY (w.take i)).reverse.map aZ)),v]/\Ex [] st st2) ?_ (by rw[Zaa];lk) ?_ ?_);k_lt Z;exact Z _ _ ⟨rfl,none,rfl,Ex.refl⟩;rintro i d δ st2 hd ⟨v2,rfl,k2⟩;rw[Zag]at hd;obtain⟨s,hs,rfl⟩:=Zay.mp hd;obtain⟨hil,es⟩:=Zab.mp hs;have ep:ae.gY (w.take (i+1))=ae.bB (ae.gY (w.take i)) s:=by rw[ZaI hil,ae.Js,es];rfl
 have hpl:(ae.gY (w.take i)).length<=1000:=by have:=ae.Jt (w.take i);rw[Zbf]at this;lk
 rw[ep];clear ep;generalize ae.gY (w.take i)=l at hpl ⊢;k_lt Z;refine Z _ _ (iP ?_);k_lt2 Z;cases l with
 |nil =>
  refine Z _ _ ⟨λh=>absurd h ∅,λ_=>bx ?_⟩;k_lt2 Z;exact⟨rfl,rfl,Z _ _ ⟨some (aZ s),rfl,k2⟩⟩
 |cons t r =>
  have eg:(t :: r).reverse.map aZ=r.reverse.map aZ ++ [aZ t]:=by simp
  rw[eg];have el:decide ((0:Int)<((r.reverse.map aZ ++ [aZ t]).length:Nat))=true:=decide_eq_true (by simp);have es1:aZ t=.tup [.str (if t.1 then "s" else "t"),.int t.2]:=rfl;have Le:aZ s=.tup [.str (if s.1 then "s" else "t"),.int s.2]:=rfl;have elt:(if t.1=true then("s" : Str)else "t")=(if s.1=true then("s" : Str)else "t")↔t.1=s.1:=xcM _ _;exists Oo,es1,Le;rw[if_pos (by simp)];refine Z _ _ ⟨λh=>bx ?_,λh=>bx ?_⟩;have h:=elt.mp (of_decide_eq_true h);k_lt2 Z;rw[eg,yc0];exists Oo;refine aL xb7 ?_;rintro d st3 ⟨rfl,k3⟩;w_how;refine⟨kO ?_,Z _ _ ⟨some (aZ s),?_,k2.trans k3⟩⟩
  have:(ae.cj t s).length<=1:=by unfold ae.cj;split<;>simp
  simp only[Zaa,ZaL];simp only[ZaE]at hpl;lk;have ej:(ae.cj t s).reverse=ae.cj t s:=by unfold ae.cj;split<;>rfl
  rw[ae.vk,if_pos h,List.reverse_append,Zar,ej];rfl;have h:=λe=>of_decide_eq_false h (elt.mpr e);k_lt2 Z;refine⟨rfl,kO ?_,Z _ _ ⟨some (aZ s),?_,k2⟩⟩;simp only[Zaa,ZaL,Zbe];lk;have e2:(s :: t :: r).reverse.map aZ=(t :: r).reverse.map aZ ++ [aZ s]:=by simp
  rw[ae.vk,if_neg h,e2];rfl
 rintro δ st2 ⟨v2,rfl,k2⟩;rw[Zaa,ZaM];refine c7 ?_;k_lt Z;exact Z _ _ ⟨rfl,k2⟩
def UC{st:Store}{v w:List b7}(hl:v.length+w.length<=1000):Wp (GV [.tup (v.map aZ),.tup (w.map aZ)] st) λd st'=>d=.tup ((ae.gY (v ++ w)).reverse.map aZ)/\Ex [] st st':=by refine ie ?_;intro qR;show Ws (GU [some (.tup (v.map aZ)),some (.tup (w.map aZ))] st) _ _ _ _;unfold GU;refine c7 ?_;k_lt Z;refine⟨kO (by simp only[Zaa];lk),?_⟩;rw[<- Zar];refine aL (Yby (by rw[Zaf];exact hl)) ?_;rintro d st3 ⟨rfl,k3⟩;exact Z _ _ ⟨rfl,k3⟩
def ybL:Wp (KI [aZ s] st) λd st'=>d=aZ (ae.m8 s)/\Ex [] st st':=by
 obtain⟨b,k⟩:=s;refine ie ?_;intro qR;show Ws (G7 [some (.tup [.str (if b then "s" else "t"),.int k])] st) _ _ _ _;unfold G7;refine aQ (iP ?_);cases b with
 |true =>
  k_lt Z;refine Z _ _ ⟨λ_=>c7 ?_,λh=>absurd h ∅⟩;k_lt2 Z;exact⟨rfl,Z _ _ ⟨rfl,Ex.refl⟩⟩
 |false =>
  k_lt Z;refine Z _ _ ⟨λh=>absurd h ∅,λ_=>kM (c7 ?_)⟩;k_lt2 Z;exact⟨rfl,Z _ _ ⟨rfl,Ex.refl⟩⟩
def UD{st:Store}{w:List b7}(hl:w.length<=1000):Wp (Ha [.tup (w.map aZ)] st) λd st'=>d=.tup ((ae.eV w).map aZ)/\Ex [] st st':=by
 refine ie ?_;intro qR;show Ws (G9 [some (.tup (w.map aZ))] st) _ _ _ _;unfold G9;refine c7 ?_;k_lt Z;refine Zg (w.reverse.map aZ) (λi y=>∃s,w.reverse[i]?=some s/\y=aZ (ae.m8 s)) (Ex [] st) ?_ (by rw[Zaa,ZaL];lk) ?_ ?_;exists _,cH,Zi;refine⟨_,rfl,cH _ _ ⟨λi st2 hi _=>?_,Ex.refl⟩⟩;rw[<- List.map_reverse];exact se _ st2 i st2 hi Ex.refl;intro i d hd st1 k1;rw[Zag]at hd;obtain⟨s,hs,rfl⟩:=Zay.mp hd;k_lt cH;refine aL ybL ?_;rintro d st3 ⟨rfl,k3⟩;exact cH _ _ ⟨⟨s,hs,rfl⟩,k1.trans k3⟩;intro ys st' k' hy h;w_how;refine Z _ _ ⟨?_,k'.app _⟩
 congr 1
 refine Zb2 λi=>?_;rw[Zaa,ZaL]at hy;have eb:ae.eV w=w.reverse.map ae.m8:=by unfold ae.eV;rw[List.map_reverse]
 rw[eb,Zag,Zag];rcases ZbP i ys.length with hi|hi
 obtain⟨s,hs,e⟩:=h i ys[i] (Zac hi);rw[hs,Zac hi,e];rfl;rw[ZaP hi,ZaP (by rw[ZaL];lk)];rfl
def ZbL(h:Lc A B):Wp (KJ [di A,di B] st) λd st'=>d=di (A.mul B)/\Ex [] st st':=by refine ie ?_;intro qR;show Ws (Hn [some (di A),some (di B),none,none,none,none,none,none,none,none] st) _ _ _ _;unfold Hn di;have a1:∀y∈[B.a,B.b,B.c,B.d],cn A.a y=true:=h _ (by simp);have a2:∀y∈[B.a,B.b,B.c,B.d],cn A.b y=true:=h _ (by simp);have a3:∀y∈[B.a,B.b,B.c,B.d],cn A.c y=true:=h _ (by simp);have a4:∀y∈[B.a,B.b,B.c,B.d],cn A.d y=true:=h _ (by simp);refine aQ (uw ?_);k_lt Z;refine Z _ _ ?_;k_lt2 Z;refine⟨rfl,Z _ _ (aQ (uw ?_))⟩;k_lt2 Z;refine Z _ _ ?_;k_lt2 Z;refine⟨rfl,Z _ _ (c7 ?_)⟩;clear Z;exists _,Z,JY;exact⟨a1 _ (by simp),a2 _ (by simp),a1 _ (by simp),a2 _ (by simp),a3 _ (by simp),a4 _ (by simp),a3 _ (by simp),a4 _ (by simp),rfl,Z _ _ ⟨rfl,Ex.refl⟩⟩
def YbX(hy:y≠0)(hb:y.natAbs<P2 100):Wp (KO [.int x,.int y] st) λd st'=>d=.int (ae.nr x y)/\Ex [] st st':=by
 have hl:(2*y).natAbs.log2<9000:=by
  have h1:(2*y).natAbs<2 ^ 101:=by
   have e:P2 101=2*P2 100:=va 100;show _<P2 101;lk
  have:=(Nat.log2_lt (n:=(2*y).natAbs) (k:=101) ⋯).mpr h1;lk
 refine ie ?_;intro qR;show Ws (Hz [some (.int x),some (.int y)] st) _ _ _ _;unfold Hz;refine c7 ?_;exists _,Z,Zr;exact⟨.inl ∅,.inl ∅,⟨by lk,hl⟩,Z _ _ ⟨rfl,Ex.refl⟩⟩
def Oq:Wp (C7 [.int k] st) λd st'=>d=.tup ((ae.rF k).map aZ)/\Ex [] st st':=by refine ie ?_;intro qR;show Ws (Hx [some (.int k)] st) _ _ _ _;unfold Hx;refine aQ (iP ?_);k_lt Z;refine Z _ _ ⟨λh=>c7 ?_,λh=>kM (c7 ?_)⟩;have h:k=0:=of_decide_eq_true h;k_lt2 Z;refine⟨rfl,Z _ _ ⟨?_,Ex.refl⟩⟩;unfold ae.rF;rw[if_pos h];rfl;have h:¬k=0:=of_decide_eq_false h;k_lt2 Z;refine⟨rfl,rfl,Z _ _ ⟨?_,Ex.refl⟩⟩;unfold ae.rF;rw[if_neg h];rfl
def xbX(hT:T.le (P2 102))(hx:x.natAbs<=P2 102)(hy:y.natAbs<=P2 102):Wp (KN [di T,.tup [.int x,.int y]] st) λd st'=>d=.tup [.int (T.a*x+T.b*y),.int (T.c*x+T.d*y)]/\Ex [] st st':=by
 have ok:∀i j:Int,i.natAbs<=P2 102->j.natAbs<=P2 102->cn i j=true:=λi j hi hj=>by
  have e:P2 103=2*P2 102:=va 102;have:=Ad 102;exact NQ (k:=103) ∅ ⋯ ⋯
 obtain⟨h1,h2,h3,h4⟩:=hT;refine ie ?_;intro qR;show Ws (Hv [some (di T),some (.tup [.int x,.int y])] st) _ _ _ _;unfold Hv di;refine c7 ?_;exists _,Z,JY,at2,SQ;exact⟨ok _ _ h1 hx,ok _ _ h2 hy,ok _ _ h3 hx,ok _ _ h4 hy,rfl,Z _ _ ⟨rfl,Ex.refl⟩⟩
def B6:Wp (ay (.tup [.int x,.int y]) (.int 0) st) Q↔Q (.int x) st:=aY
def UE:Wp (ay (.tup [.int x,.int y]) (.int 1) st) Q↔Q (.int y) st:=aY
def sm(hM:M<2 ^ k)(hk:k<=100):M<P2 100/\P2 101=2*P2 100/\P2 102=2*P2 101/\100<P2 100:=⟨ZaH hM (Zcy (n:=2) ∅ hk),va 100,va 101,QL 100⟩
abbrev ud:Nat->Int->Int->List b7
 |0,_,_=>[]
 |f+1,u,v=>if v=0 then[]else ae.rG u v ++ ud f (-v) (u-ae.nr u v*v)
def ydu(hv:v≠0)(hr:r<=k)(e:ud (k+1) x y=g ++ ud (k+1-r) u v):ud (k+1) x y=g ++ ae.rG u v ++ ud (k+1-(r+1)) (-v) (u-ae.nr u v*v):=by rw[e,show k+1-r=(k+1-(r+1))+1 by lk,ud,if_neg hv,ZbG]
def B7(hv:v=0)(hr:r<=k)(e:ud (k+1) x y=g ++ ud (k+1-r) u v):g=ud (k+1) x y:=by rw[e,show k+1-r=(k+1-(r+1))+1 by lk,ud,if_pos hv,Zbq]
def Zbv(hM:M<2 ^ k)(hk:k<=100)(hx:x.natAbs<=M)(hy:y.natAbs<=M):Wp (KP [.tup [.int x,.int y]] st) λd st'=>∃g:List b7,d=.tup (g.map aZ)/\(∀s∈g,ae.bM s/\s.2.natAbs<=M+1)/\g.length<=2*k/\(ae.av g).c*x+(ae.av g).d*y=0/\(∃(u:Int) (r:Nat),ae.Bv g u 0 r)/\g=ud (k+1) x y/\Ex [] st st':=by
 refine ie ?_;intro qR;show Ws (HB [some (.tup [.int x,.int y]),none,none,none] st) _ _ _ _;unfold HB;refine aQ (bx ?_);refine bE ?_;intro cM Z;w_how;refine⟨rfl,?_⟩;refine Z _ _ (aQ (bx ?_));clear Z;refine bE ?_;intro cM Z;w_how
 let lA:IV:=λm δ s=>∃(g:List b7) (u v:Int) (r:Nat) (v3:Option D),m=k+1-r/\r<=k/\δ=[some (.tup [.int x,.int y]),some (.tup (g.map aZ)),some (.tup [.int u,.int v]),v3]/\ae.Dv M x y g u v r/\ae.Bv g u v r/\ud (k+1) x y=g ++ ud (k+1-r) u v/\Ex [] st s
 refine Z _ _ (aQ (xt lA (k+1) (by show k+1<1000000;lk) ⟨[],x,y,0,none,rfl,ZaJ _,rfl,ae.Dv.zero hx hy,ae.Bv.zero x y,rfl,Ex.refl⟩ ?_));clear Z;rintro m δ s ⟨g,u,v,r,v3,rfl,hr,rfl,dv,bv,el,k1⟩;have hub:=dv.ub;obtain⟨Ot,UG,UH,UI⟩:=sm hM hk;have hvb:v.natAbs<=M:=Zap (Zck _ (Nat.one_le_two_pow)) dv.vb;exists _,Z,UE;refine Z _ _ ⟨λhc=>?_,λhc=>?_⟩;have hv:v≠0:=by simpa using hc
 have few:=dv.few (k:=k) hv hM;have dv':=dv.step hv;refine aQ (bx ?_);clear Z;exists _,Z,B6,UE;refine aL (YbX hv ⋯) ?_;rintro d s1 ⟨rfl,k2⟩;w_how;refine aL (Oq) ?_;rintro d s2 ⟨rfl,k3⟩;w_how;have hsl:=ae.EK (-(ae.nr u v));refine⟨rfl,rfl,kO (by rw[Zaa];show _+1<=_;lk),?_⟩;have e1:((ae.rF (-(ae.nr u v))).map aZ ++ [D.tup [D.str "t",D.int 1]])=(ae.rG u v).map aZ:=by
  unfold ae.rG;rw[Zar];rfl
 rw[e1];have Al:=ae.Rq (x:=u) hv;refine Z _ _ (aQ (bx ?_));clear Z;refine bE ?_;intro cM Z;w_how;refine aL (UB (b:=102) (w:=ae.rG u v) ∅ (λs hs=>⟨(Al s hs).1,by have:=(Al s hs).2;lk⟩) (by have:=ae.MX u v;lk)) ?_;rintro d s3 ⟨rfl,k4⟩;have hnr:=ae.Ro (x:=u) hv;refine aL (xbX (T:=ae.av (ae.rG u v)) (x:=u) (y:=v) (by rw[ae.JE];exact⟨by show(0:Int).natAbs<=_;lk,by show(-1:Int).natAbs<=_;lk,by show(1:Int).natAbs<=_;lk,by show(-(ae.nr u v)).natAbs<=_;lk⟩) ⋯ ⋯) ?_;rintro d s4 ⟨rfl,k5⟩;rw[ae.JE];have e2:∀q:Int,D.tup [.int ((0:Int)*u + -1*v),.int (1*u + -q*v)]=.tup [.int (-v),.int (u-q*v)]:=λq=>by
  have a1:(0:Int)*u + -1*v=-v:=by lk
  have a2:1*u + -q*v=u-q*v:=by rw[Zbh];lk
  rw[a1,a2]
 show cM (D.tup [.int ((0:Int)*u + -1*v),.int (1*u + -(ae.nr u v)*v)]) s4;rw[e2];refine Z _ _ (bx ?_);clear Z;refine bE ?_;intro cM Z;w_how;have y9:=dv.ln;have hdl:=ae.MX u v;refine⟨kO (by rw[Zaa,Zaa];lk),Z _ _ ⟨k+1-(r+1),by lk,g ++ ae.rG u v,_,_,r+1,_,rfl,by lk,by rw[Zar];rfl,dv',bv.step hv,ydu hv hr el,(((k1.trans k2).trans k3).trans k4).trans k5⟩⟩;have hv:v=0:=by simpa using hc
 refine c7 ?_;clear Z;refine bE ?_;intro cM Z;w_how;exact Z _ _ ⟨g,rfl,dv.pr,by have:=dv.ln;lk,by rw[<- dv.vc];exact hv,⟨u,r,hv ▸ bv⟩,B7 hv hr el,k1⟩
def Ou:Wp (ay (di T) (.int 0) st) Q↔Q (.int T.a) st:=aY
def Ov:Wp (ay (di T) (.int 1) st) Q↔Q (.int T.b) st:=aY
def UJ:Wp (ay (di T) (.int 2) st) Q↔Q (.int T.c) st:=aY
def B8:Wp (ay (di T) (.int 3) st) Q↔Q (.int T.d) st:=aY
def XbX(hl:T.le (P2 100)):Wp (KQ [di T] st) λd st'=>d=.bl (decide (T.a*T.d-T.b*T.c=1))/\Ex [] st st':=by
 have ok:∀i j:Int,i.natAbs<=P2 100->j.natAbs<=P2 100->cn i j=true:=λi j hi hj=>by
  have e:P2 101=2*P2 100:=va 100;have:=Ad 100;exact NQ (k:=101) ∅ ⋯ ⋯
 refine ie ?_;intro qR;show Ws (HD [some (di T)] st) _ _ _ _;unfold HD;refine c7 ?_;have hs:cR st (di T)=some [.int T.a,.int T.b,.int T.c,.int T.d]:=rfl;exists _,Z,hs,JY,Ou,Ov,UJ,B8;obtain⟨h1,h2,h3,h4⟩:=hl;rw[if_pos (show decide ((([D.int T.a,D.int T.b,D.int T.c,D.int T.d]:List D).length:Int)=4)=true from rfl)];exact⟨ok _ _ h1 h4,ok _ _ h2 h3,Z _ _ ⟨rfl,Ex.refl⟩⟩
def xby:Wp (KR [di A] st) λd st'=>d=.tup ((ae.oZ A).map aZ)/\Ex [] st st':=by
 refine ie ?_;intro qR;show Ws (HF [some (di A)] st) _ _ _ _;unfold HF;refine aQ (iP ?_);exists _,Z,Ou;refine Z _ _ ⟨λh=>c7 ?_,λh=>kM (c7 ?_)⟩;have h:A.a=1:=of_decide_eq_true h;clear Z;exists _,Z,Ov;refine aL (Oq) ?_;rintro d s1 ⟨rfl,k1⟩;refine Z _ _ ⟨?_,k1⟩;unfold ae.oZ;rw[if_pos h];have h:¬A.a=1:=of_decide_eq_false h;clear Z;exists _,Z,Ov;refine⟨rfl,rfl,?_⟩;refine aL (Oq) ?_;rintro d s1 ⟨rfl,k1⟩;w_how
 have:=ae.EK (-A.b);refine⟨kO (by rw[Zaa];show 1+_<=_;lk),Z _ _ ⟨?_,k1⟩⟩;unfold ae.oZ;rw[if_neg h];rfl
def Xb7{T:ae.T4}{g:List b7}{M k:Nat}(hM:M<2 ^ k)(hk:k<=100)(hl:T.le M)(hg:∀s∈g,ae.bM s/\s.2.natAbs<=M+1)(y9:g.length<=2*k):∀s∈ae.gY (ae.oZ ((ae.av g).mul T) ++ ae.eV g),s.2.natAbs+1<=P2 20400:=by
 obtain⟨Ot,UG,UH,UI⟩:=sm hM hk;have h61:M+2<=P2 101:=by lk
 have hgt:=Om (w:=g) (b:=101) (n:=200) (λs hs=>⟨(hg s hs).1,by have:=(hg s hs).2;lk⟩) ⋯;have Iq:∀x y:Int,x.natAbs<=P2 (101*200)->y.natAbs<=M->(x*y).natAbs<=P2 20301:=λx y hx hy=>by
  rw[Za2];refine Zap (Zcj hx (Zap hy (Zap (Zcq M 2) h61))) ?_;rw[MB];exact wg ∅
 have hA:((ae.av g).mul T).b.natAbs<=P2 20302:=by
  have e:((ae.av g).mul T).b=(ae.av g).a*T.b+(ae.av g).b*T.d:=rfl;have h1:=Iq _ _ hgt.1 hl.2.1;have h2:=Iq _ _ hgt.2.1 hl.2.2.2;have h3:P2 20302=2*P2 20301:=va 20301;rw[e];lk
 have Ow:P2 101<=P2 20302:=wg ∅;have h7:20302<P2 20302:=QL 20302;generalize hB:P2 20302=B at hA Ow h7;have hv:∀s∈ae.oZ ((ae.av g).mul T),ae.bM s/\s.2.natAbs<=B:=λs hs=>by
  refine⟨ae.MY _ s hs,?_⟩;unfold ae.oZ at hs;split at hs;rw[(ae.EJ s hs).2];exact hA;rcases ZaF.mp hs with rfl|hs
  show(2:Int).natAbs<=B;lk;rw[(ae.EJ s hs).2,Zbn];exact hA
 have hb:∀s∈ae.eV g,ae.bM s/\s.2.natAbs<=B:=λs hs=>by
  refine⟨ae.xg (λs hs=>(hg s hs).1) s hs,?_⟩;unfold ae.eV at hs;obtain⟨t,ht,rfl⟩:=Zaw.mp (ZaR.mp hs);obtain⟨h1,h2⟩:=hg t ht;obtain⟨b,k⟩:=t;cases b with
  |true=>show(-k).natAbs<=B;simp only at h2;lk
  |false=>have:=h1.1 rfl;simp only at this;show(4-k).natAbs<=B;lk
 intro s hs
 have hq:=ae.Am (B:=B) (w:=ae.oZ ((ae.av g).mul T) ++ ae.eV g) (λs hs=>by
  rcases Zax.mp hs with h|h
  exact hv s h
  exact hb s h) s hs
 have hlen:(ae.oZ ((ae.av g).mul T) ++ ae.eV g).length<=256:=by
  rw[Zaf];have h1:=ae.Rv ((ae.av g).mul T);have h2:(ae.eV g).length=g.length:=by unfold ae.eV;rw[ZaL,Zaa]
  lk
 have h3:s.2.natAbs<=256*B:=Zap hq (ZbJ _ hlen);have h4:P2 20310=256*B:=by
  have:=MB 8 20302;rw[hB]at this;rw[show(20310:Nat)=8+20302 from rfl,<- this];rfl
 have h5:P2 20311=2*P2 20310:=va 20310;have h6:P2 20311<=P2 20400:=wg ∅;lk
def UK(hM:M<2 ^ k)(hk:k<=100)(hl:T.le M)(hd:T.a*T.d-T.b*T.c=1):Wp (uy [di T] st) λd st'=>∃w:List b7,d=.tup (w.map aZ)/\(∀s∈w,ae.bM s/\s.2.natAbs+1<=P2 20400)/\w.length<=2*k+2/\ae.av w=T/\(∃(g:List b7) (u:Int) (r:Nat),w=(ae.gY (ae.oZ ((ae.av g).mul T) ++ ae.eV g)).reverse/\(∀s∈g,ae.bM s/\s.2.natAbs<=M+1)/\g.length<=2*k/\(ae.av g).c*T.a+(ae.av g).d*T.c=0/\ae.Bv g u 0 r)/\Ex [] st st':=by
 refine sS ?_;show Ws (HI [some (di T),none] st) _ _ _ _;unfold HI;refine aQ (iP ?_);k_lt Z;obtain⟨Ot,UG,UH,UI⟩:=sm hM hk;refine aL (XbX (wB hl ⋯)) ?_;rintro d s1 ⟨rfl,k1⟩;refine⟨_,rfl,?_⟩;refine Z _ _ ⟨λh=>absurd h (by simp[hd]),λ_=>kM (aQ (bx ?_))⟩;clear Z;exists _,Z,Ou,UJ;refine⟨rfl,?_⟩;refine aL (Zbv hM hk hl.1 hl.2.2.1) ?_;rintro d s2 ⟨g,rfl,hg,y9,h0,⟨u,r,bv⟩,_,k2⟩;refine Z _ _ (c7 ?_);k_lt2 Z;have hgp:∀s∈g,ae.bM s:=λs hs=>(hg s hs).1;have UL:∀s∈g,ae.bM s/\s.2.natAbs+1<=P2 101:=λs hs=>⟨(hg s hs).1,by have:=(hg s hs).2;lk⟩;refine aL (UB (b:=101) (w:=g) ∅ UL ⋯) ?_;rintro d s3 ⟨rfl,k3⟩;have hgt:=Om (n:=200) UL ⋯;refine aL (Ld (Ol (k:=101*200+1) (M:=P2 (101*200)) ∅ (by have:=Ad (101*200);have:=va (101*200);lk) hgt (wB hl (Zap (Zcv Ot) (wg ∅))))) ?_;rintro d s4 ⟨rfl,k4⟩;refine aL (xby) ?_;rintro d s5 ⟨rfl,k5⟩;refine aL (UD (w:=g) ⋯) ?_;rintro d s6 ⟨rfl,k6⟩;have o7:=ae.Rv ((ae.av g).mul T);have wA:(ae.eV g).length=g.length:=by unfold ae.eV;rw[ZaL,Zaa]
 refine aL (UC (v:=ae.oZ ((ae.av g).mul T)) (w:=ae.eV g) ⋯) ?_;rintro d s7 ⟨rfl,k7⟩;obtain⟨e1,e2⟩:=ae.X7 hd hgp h0;refine Z _ _ ⟨_,rfl,λs hs=>⟨e2 s hs,Xb7 hM hk hl hg y9 s (ZaR.mp hs)⟩,?_,e1,⟨g,u,r,rfl,hg,y9,h0,bv⟩,(((((k1.trans k2).trans k3).trans k4).trans k5).trans k6).trans k7⟩;rw[ZaL];have:=ae.Jt (ae.oZ ((ae.av g).mul T) ++ ae.eV g);rw[Zaf]at this;lk
def zb8(hM:M<2 ^ k)(hk:k<=100)(hl:T.le M)(hd:T.a*T.d-T.b*T.c=1):Wp (uy [di T] st) λd st'=>∃w:List b7,d=.tup (w.map aZ)/\(∀s∈w,ae.bM s/\s.2.natAbs+1<=P2 20400)/\w.length<=2*k+2/\ae.av w=T/\Ex [] st st' :=
 aL (UK hM hk hl hd) λd s1 ⟨w,h1,h2,h3,h4,_,h5⟩=>⟨w,h1,h2,h3,h4,h5⟩
def Xby(fl:o6 n xs ys)(hn:n<=100)(s0:0<=s)(s1:s<(n:Int)):Wp (Km [bN xs ys,.int s] st) λd st'=>d=.tup ((ae.inv (ae.bf xs ys s n)).map D.int)/\Ex [] st st':=by obtain⟨tx,ty,all⟩:=fl;refine ie ?_;intro qR;show Ws (Gm [some (bN xs ys),some (.int s)] st) _ _ _ _;unfold Gm;refine c7 ?_;k_lt Z;refine aL (ZbW tx ty hn s0 s1) ?_;rintro d st1 ⟨rfl,k1⟩;refine aL (K4 (ae.Jr tx ty s0 s1 all) hn) ?_;rintro d st2 ⟨rfl,k2⟩;exact Z _ _ ⟨rfl,k1.trans k2⟩
abbrev B9(xs ys:List Int)(s:Int)(n:Nat):D:=bN (ae.num xs (ae.bf xs ys s n)) (ae.num ys (ae.bf xs ys s n))
def YbL(fl:o6 n xs ys)(hn:n<=100)(s0:0<=s)(s1:s<(n:Int)):Wp (Kn [bN xs ys,.int s] st) λd st'=>d=B9 xs ys s n/\Ex [] st st':=by have fl':=fl;obtain⟨tx,ty,all⟩:=fl;have tb:=ae.Jr tx ty s0 s1 all;refine ie ?_;intro qR;show Ws (Gp [some (bN xs ys),some (.int s)] st) _ _ _ _;unfold Gp;refine c7 ?_;k_lt Z;refine aL (Xby fl' hn s0 s1) ?_;rintro d st1 ⟨rfl,k1⟩;refine aL (Xb6 tx ty tb.aA hn) ?_;rintro d st2 ⟨rfl,k2⟩;rw[ae.yk tx tb,ae.yk ty tb];exact Z _ _ ⟨rfl,k1.trans k2⟩
def yb8(fl:o6 n xs ys)(hn:n<=100)(s0:0<=s)(s1:s<(n:Int)):Wp (Kd [bN xs ys,.int s] st) λd st'=>d=B9 xs ys s n/\Ex [] st st':=by
 obtain⟨tx,ty,all⟩:=fl;have hlx:=tx.length;have C9:=ty.length;refine ie ?_;intro qR;show Ws (FV [some (bN xs ys),some (.int s),none,none,none] st) _ _ _ _;unfold FV;refine aQ (bx ?_);k_lt Z;refine⟨rfl,Z _ _ (aQ (Nl ((ae.upto n).map D.int) (st.length+2) (λk δ st2=>∃(v3 v4:Option D),δ=[some (bN xs ys),some (.int s),some (.ref st.length),v3,v4]/\st2[st.length]?=some (.lst ((ae.bf xs ys s k).map D.int))/\st2[st.length+2]?=some (.lst ((ae.upto n).map D.int))/\Ex [] st st2) ?_ ?_ ?_ ?_ ?_))⟩;clear Z;unfold bN;k_lt Z;rw[Zaa,hlx,show((n:Int)-0).toNat=n by lk,tP];have e:(st ++ [O.lst [D.int s]] ++ [O.lL 0 (n:Int)]).length=st.length+2:=by simp
 rw[e];exact⟨xw ⋯,Z _ _ ⟨rfl,none,none,rfl,kN (kN h9),by rw[<- e];exact h9,((Ex.cL _).app _).app _⟩⟩;rw[Zaa,ae.qW];lk;rintro k δ st2 ⟨_,_,_,_,h,_⟩;exact bz h;rintro k d δ st2 hd ⟨v3,v4,rfl,hl,hr,k2⟩;obtain⟨x',hx',rfl⟩:=Fq hd;have hkn:=dh hx';rw[ae.qW]at hkn;rw[ae.En hkn]at hx';cases hx';have wA:=ae.Er tx ty s0 s1 k;have hb1:=ae.Er tx ty s0 s1 (k+1);k_lt2 Z;refine Z _ _ ?_;clear Z;by_cases qa:k<(ae.bf xs ys s k).length;obtain⟨x,hx⟩:∃x,(ae.bf xs ys s k)[k]?=some x:=⟨_,Zac qa⟩;obtain⟨x0,x1⟩:=ae.tI tx ty s0 s1 k x (Zaj hx);have e1:ae.bf xs ys s (k+1)=ae.visit xs ys (ae.bf xs ys s k) x:=by
  show(match (ae.bf xs ys s k)[k]? with|some x=>ae.visit xs ys (ae.bf xs ys s k) x|none=>ae.bf xs ys s k)=_;rw[hx]
 rw[e1]at hb1 ⊢;have hp1:=(ae.yj (ae.cP (ae.bf xs ys s k) (ae.app xs x)) (ae.app ys x)).length_le;have hp0:=(ae.yj (ae.bf xs ys s k) (ae.app xs x)).length_le;change _<=(ae.visit xs ys (ae.bf xs ys s k) x).length at hp1;refine m9 [.tup (xs.map D.int),.tup (ys.map D.int)] (λm δ st3=>∃(v4:Option D) (G:List Int),δ=[some (bN xs ys),some (.int s),some (.ref st.length),some (.int (k:Int)),v4]/\st3[st.length]?=some (.lst (G.map D.int))/\st3[st.length+2]?=some (.lst ((ae.upto n).map D.int))/\(m=0->G=ae.bf xs ys s k)/\(m=1->G=ae.cP (ae.bf xs ys s k) (ae.app xs x))/\(m=2->G=ae.visit xs ys (ae.bf xs ys s k) x)/\Ex [] st st3) ?_ (by simp) ?_ ?_;unfold bN;k_lt Z;exact Z _ _ ⟨rfl,v4,_,rfl,hl,hr,λ_=>rfl,λz=>by lk,λz=>by lk,k2⟩;rintro m z δ st3 hm ⟨v4,G,rfl,hl3,rj,g0,g1,_,k3⟩;have hm2:m<2:=dh hm;obtain⟨zs,rfl,tz,em⟩:∃(zs:List Int),z=.tup (zs.map D.int)/\ae.Tn n zs/\((m=0/\zs=xs)\/(m=1/\zs=ys)):=by
  rcases(show m=0\/m=1 by lk)with rfl|rfl
  exact⟨xs,by simpa using hm.symm,tx,.inl ⟨rfl,rfl⟩⟩;exact⟨ys,by simpa using hm.symm,ty,.inr ⟨rfl,rfl⟩⟩
 have hG:G.length<=100/\G[k]?=some x/\k<G.length:=by
  rcases em with⟨rfl,_⟩|⟨rfl,_⟩
  rw[g0 rfl];exact⟨by lk,hx,qa⟩;rw[g1 rfl];refine⟨by lk,?_,by lk⟩;obtain⟨t,e⟩:=ae.yj (ae.bf xs ys s k) (ae.app xs x);rw[<- e,Zan qa];exact hx
 have Il:∀G',G'=ae.cP G (ae.app zs x)->(m+1=0->G'=ae.bf xs ys s k)/\(m+1=1->G'=ae.cP (ae.bf xs ys s k) (ae.app xs x))/\(m+1=2->G'=ae.visit xs ys (ae.bf xs ys s k) x):=λG' e=>by
  rcases em with⟨rfl,rfl⟩|⟨rfl,rfl⟩
  exact⟨λz=>by lk,λ_=>by rw[e,g0 rfl],λz=>by lk⟩;exact⟨λz=>by lk,λz=>by lk,λ_=>by rw[e,g1 rfl];rfl⟩
 have hat:dM (G.map D.int) (k:Int)=some (.int x):=Cv (by rw[Zag,hG.2.1];rfl);have hdt:decide ((k:Int)<((G.map D.int).length:Int))=true:=decide_eq_true (by rw[Zaa];lk);k_lt Z;refine Z _ _ (iP ?_);clear Z;exists _,Z,bz hl3,hdt,hat,rg (xs:=zs) x0 (by rw[tz.length];exact x1),JT (st:=st3) (c:=.ref st.length) (ns:=G) (bz hl3);refine Z _ _ ⟨λhc=>pE ?_,λhc=>kM ?_⟩;obtain⟨n0,n1,n2⟩:=Il (G ++ [ae.app zs x]) (Uo hc).symm;exists _,cH,bz hl3,hat,rg (xs:=zs) x0 (by rw[tz.length];exact x1),kP hl3;refine⟨oj (by rw[bz hl3];rfl),kO (by rw[Zaa];lk),cH _ _ ⟨_,G ++ [ae.app zs x],rfl,?_,?_,n0,n1,n2,k3.loc (Zad _)⟩⟩;rw[Zah (dh hl3),Zar];rfl;rw[Zak ⋯];exact rj;obtain⟨n0,n1,n2⟩:=Il G (Up hc).symm;exact⟨_,G,rfl,hl3,rj,n0,n1,n2,k3⟩;rintro δ st3 ⟨v4,G,rfl,hl3,rj,_,_,g2,k3⟩;have g2:=g2 rfl;subst g2;exact⟨_,_,rfl,hl3,rj,k3⟩;have e1:ae.bf xs ys s (k+1)=ae.bf xs ys s k:=ae.Jq (k:=k) ⋯ 1;rw[e1];have hdf:decide ((k:Int)<(((ae.bf xs ys s k).map D.int).length:Int))=false:=decide_eq_false (by rw[Zaa];lk);refine m9 [.tup (xs.map D.int),.tup (ys.map D.int)] (λm δ st3=>∃(v4:Option D),δ=[some (bN xs ys),some (.int s),some (.ref st.length),some (.int (k:Int)),v4]/\st3=st2) ?_ (by simp) ?_ ?_;unfold bN;k_lt Z;exact Z _ _ ⟨rfl,v4,rfl,rfl⟩;rintro m z δ st3 hm ⟨v4,rfl,rfl⟩;k_lt Z;refine Z _ _ (iP ?_);clear Z;exists _,Z,bz hl,hdf;exact Z _ _ ⟨λh=>absurd h ∅,λ_=>kM ⟨_,rfl,rfl⟩⟩;rintro δ st3 ⟨v4,rfl,rfl⟩;exact⟨_,_,rfl,hl,hr,k2⟩;rintro δ st2 ⟨v3,v4,rfl,hl,hr,k2⟩;rw[Zaa,ae.qW]at hl;have tb:=ae.Jr tx ty s0 s1 all;have hlb:=tb.length;generalize Ir:ae.bf xs ys s n=sq at hl tb hlb ⊢;clear Z;unfold bN;refine c7 ?_;k_lt Z;refine vH [.tup (xs.map D.int),.tup (ys.map D.int)] (λd=>match d with|.tup ds=>.tup ((ae.num (ds.map inD) sq).map D.int)|_=>.non) ?_ (by simp) ?_ ?_;k_lt cH;exact cH _ _ ⟨se _ _,Ex.refl⟩;intro d hd st3 k3;obtain⟨zs,rfl,tz⟩:∃zs:List Int,d=.tup (zs.map D.int)/\ae.Tn n zs:=by
  rcases ZaF.mp hd with rfl|hd
  exact⟨xs,rfl,tx⟩;exact⟨ys,Zav.mp hd,ty⟩
 have hl3:=k3.keep _ _ hl (by simp);exists _,cH,Zaz,ZaT,ZaY,ZaZ;refine vH (sq.map D.int) (λd=>.int (sq.idxOf (ae.app zs (inD d)):Int)) ?_ (by rw[Zaa];lk) ?_ ?_;k_lt vU;exact⟨_,bz hl3,vU _ _ ⟨NC (bz hl3),Ex.refl⟩⟩;intro d hd pH k4;obtain⟨x,hx,rfl⟩:=Bn hd;obtain⟨x0,x1⟩:=tb.bound hx;obtain⟨a0,a1⟩:=tz.app x0 x1;have Dc:=k4.keep _ _ hl3 (by simp);exists _,vU,Zaz,ZaT,ZaY,ZaZ,rg (xs:=zs) x0 (by rw[tz.length];exact x1),YV (bz Dc) (tb.mem a0 a1) ⋯ (λi hi=>by have:=tb.bound hi;lk);exact⟨oj (by rw[bz Dc];rfl),vU _ _ ⟨rfl,Ex.refl⟩⟩;intro pH k4;rw[Fs (f:=λx=>(sq.idxOf (ae.app zs x):Int)) λx hx=>rfl];w_how;refine cH _ _ ⟨?_,k4.app _⟩;show D.tup _=D.tup ((ae.num ((zs.map D.int).map inD) sq).map D.int);rw[SM];rfl;intro st3 k3;w_how;refine Z _ _ ⟨?_,(k2.trans k3).app _⟩;simp only[Zaz,ZaT,SM];unfold B9;rw[Ir];rfl
def Ox(fl:o6 n xs ys):ae.Wh n (xs,ys):=⟨⟨fl.1,fl.2.1⟩,fl.2.2⟩
def xH(w:ae.Wh n p):o6 n p.1 p.2:=⟨w.v.1,w.v.2,w.all⟩
def UM(p:ae.aJ)(n:Nat):(aE 0 n).map (λd=>bN (ae.rY p n (inD d)).1 (ae.rY p n (inD d)).2)=((ae.upto n).map (ae.rY p n)).map λq=>bN q.1 q.2:=by rw[tP,ZaC,ZaC];rfl
def Lf(fl:o6 n xs ys)(n0:0<n)(hn:n<=20):Wp (y2 [bN xs ys] st) λd st'=>d=bN (ae.aU n (xs,ys)).1 (ae.aU n (xs,ys)).2/\Ex [] st st':=by have hlx:=fl.1.length;refine ie ?_;intro qR;show Ws (Gr [some (bN xs ys)] st) _ _ _ _;unfold Gr;refine c7 ?_;k_lt Z;refine vH (aE 0 n) (λd=>bN (ae.rY (xs,ys) n (inD d)).1 (ae.rY (xs,ys) n (inD d)).2) ?_ (by rw[jH];lk) ?_ ?_;unfold bN;k_lt cH;rw[Zaa,hlx];exact⟨by lk,cH _ _ ⟨by rw[Zat];exact se _ _,Ex.refl⟩⟩;intro d hd st2 k2;rw[tP]at hd;obtain⟨x,hx,rfl⟩:=Bn hd;obtain⟨x0,x1⟩:=ae.oG.mp hx;exists _,cH,Zaz,ZaT,ZaY,ZaZ;refine aL (YbL fl ⋯ x0 x1) ?_;rintro d st3 ⟨rfl,k3⟩;exact cH _ _ ⟨rfl,k3⟩;intro st' k';rw[UM,S2 (kP h9) (by rw[Zaa,ae.qW];exact n0)];exact Z _ _ ⟨rfl,k'.app _⟩
def Oy(fl:o6 n xs ys)(n0:0<n)(hn:n<=20):Wp (vQ [bN xs ys] st) λd st'=>d=bN (ae.aU n (xs,ys)).1 (ae.aU n (xs,ys)).2/\Ex [] st st':=by have hlx:=fl.1.length;refine ie ?_;intro qR;show Ws (FX [some (bN xs ys)] st) _ _ _ _;unfold FX;refine c7 ?_;k_lt Z;refine vH (aE 0 n) (λd=>bN (ae.rY (xs,ys) n (inD d)).1 (ae.rY (xs,ys) n (inD d)).2) ?_ (by rw[jH];lk) ?_ ?_;unfold bN;k_lt cH;rw[Zaa,hlx];exact⟨by lk,cH _ _ ⟨by rw[Zat];exact se _ _,Ex.refl⟩⟩;intro d hd st2 k2;rw[tP]at hd;obtain⟨x,hx,rfl⟩:=Bn hd;obtain⟨x0,x1⟩:=ae.oG.mp hx;exists _,cH,Zaz,ZaT,ZaY,ZaZ;refine aL (yb8 fl ⋯ x0 x1) ?_;rintro d st3 ⟨rfl,k3⟩;exact cH _ _ ⟨rfl,k3⟩;intro st' k';rw[UM,S2 (kP h9) (by rw[Zaa,ae.qW];exact n0)];exact Z _ _ ⟨rfl,k'.app _⟩
def El{n:Nat}{f:Int->Int}{x:Int}(x0:0<=x)(x1:x<(n:Int)):ae.app ((ae.upto n).map f) x=f x:=by unfold ae.app;rw[Zae,Zag,ae.En ⋯];show f ((x.toNat:Nat):Int)=f x;rw[ZaG x0]
def Zdu(w:List b7):(ae.eV w).length=w.length:=by unfold ae.eV;rw[ZaL,Zaa]
def Ydu{w:List b7}(h:∀s∈w,ae.bM s):∀s∈w,Ip s:=λs hs=>(h s hs).1
def UN:∀(w:List b7) (p:List Int×List Int),mP p w=ae.df p w:=by
 have hq:∀(p:List Int×List Int) (j:Nat),pI p.1 p.2 j=ae.pN j p:=λp j=>by
  induction j with
  |zero=>rfl
  |succ j ih=>show(ae.inv (pI p.1 p.2 j).2,(pI p.1 p.2 j).1)=ae.Qt (ae.pN j p);rw[ih];rfl
 have hs:∀(p:List Int×List Int) (s:b7),jr p s=ae.stM p s:=λp s=>by
  unfold jr ae.stM;rw[hq];rfl
 intro w
 induction w with
 |nil=>intro p;rfl
 |cons s w ih =>
  intro p;show mP (jr p s) w=ae.df (ae.stM p s) w;rw[hs,ih]
open Classical in
def xdu(ha:items st a=some ds)(hb:items st b=some es)(h1:∀d∈ds,pU n d)(h2:∀d∈es,pU n d)(hn:n<=14):Wp (eJ neg (.ref a) (.ref b) st) Q↔Q (.bl (if neg then !decide (ds=es)else decide (ds=es))) st:=by
 have p1:∀(i:Nat) (l:List D),items st i=some l->(∀d∈l,pU n d)->gZ st 20 (.ref i)=some (.list (l.map (jP n))):=λi l h hl=>by
  simp only[gZ,h];rw[Fu (g:=jP n) λx hx=>wy n x (hl x hx) 19 ⋯ st];rfl
 have e:PyData.eqv (.list (ds.map (jP n))) (.list (es.map (jP n)))=decide (ds=es):=by
  rw[Nw];have:=NH (CW n) ds es h1 h2;cases h:PyData.eqvAll (ds.map (jP n)) (es.map (jP n))with
  |true=>exact(decide_eq_true (this.mp h)).symm
  |false=>exact(decide_eq_false λz=>by rw[this.mpr z]at h;cases h).symm
 have ly:∀l:List D,(∀d∈l,pU n d)->PyData.canLay0 (.list (l.map (jP n)))=true/\PyData.depth (.list (l.map (jP n)))<=n+1:=λl hl=>by
  refine⟨?_,?_⟩;show PyData.canLayAll0 (l.map (jP n))=true;exact NF λx hx=>by
   obtain⟨d,hd,rfl⟩:=Zaw.mp hx;exact(vJ n d (hl d hd)).1
  show PyData.depthAll (l.map (jP n))+1<=n+1
  have:=NG (n:=n) (l:=l.map (jP n)) λx hx=>by
   obtain⟨d,hd,rfl⟩:=Zaw.mp hx;exact(vJ n d (hl d hd)).2
  lk
 rw[JQ];constructor;rintro⟨p,q,e1,e2,_,h⟩;rw[p1 a ds ha h1]at e1;rw[p1 b es hb h2]at e2;cases e1;cases e2;rw[e]at h;exact h;intro h;refine⟨_,_,p1 a ds ha h1,p1 b es hb h2,⟨(ly ds h1).1,(ly es h2).1,?_⟩,?_⟩
 have:=(ly ds h1).2
 lk;rw[e];exact h
def UO(pa:ae.bM (b,k))(h:∀(t:b7) (r:List b7),R=t :: r->t.1≠b):ae.bB R (b,k)=(if(if b=true then k else k % 4)=0 then R else(b,if b=true then k else k % 4) :: R):=by
 have e:(if b=true then k else k % 4)=k:=by
  cases b with
  |true=>rfl
  |false =>
   have:=pa.1 rfl;simp only at this;rw[if_neg Zam];lk
 rw[e,if_neg pa.2];exact ae.MG λt ht=>by
  cases R with
  |nil=>cases ht
  |cons x r=>cases ht;exactλz=>h _ _ rfl z.symm
def Oz{st s2:Store}{w0:D}{b:Bool}{k':Int}{R' X:List b7}{N B C:ai->Store->Prop}{R:D->Store->Prop}(h2:s2[st.length]?=some (.lst (R'.reverse.map aZ)))(k2:Ex [] st s2)(hl:R'.length<=1000)(ep:X=(if(if b=true then k' else k' % 4)=0 then R' else(b,if b=true then k' else k' % 4) :: R'))
  (hN:∀(v3:Option D) (s:Store),s[st.length]?=some (.lst (X.reverse.map aZ))->Ex [] st s->N [some w0,some (.ref st.length),some (.str (if b then "s" else "t")),v3] s) :
  Ws (aq (dg (az (ao (iM false) (ag 2) (fC (.str "t")))) (aB (ao kZ (ag 3) #[4]) (hName 3)) aK) (dg (az (ao (iM true) (ag 3) #[0])) (bu (ju "list" aI (ag 1) (af (aX (af (ag 2) (af (ag 3) ah))) ah))) aK) [some w0,some (.ref st.length),some (.str (if b then "s" else "t")),some (.int k')] s2) N B C R:=by
 have fin:∀kk:Int,kk=(if b=true then k' else k' % 4)->Ws (dg (az (ao (iM true) (ag 3) #[0])) (bu (ju "list" aI (ag 1) (af (aX (af (ag 2) (af (ag 3) ah))) ah))) aK [some w0,some (.ref st.length),some (.str (if b then "s" else "t")),some (.int kk)] s2) N B C R:=λkk hk=>by
  rw[<- hk]at ep;refine iP ?_;k_lt Z;by_cases z:kk=0;refine Z _ _ ⟨λy=>absurd z (by simpa using y),λ_=>kM (hN _ _ ?_ k2)⟩;rw[ep,if_pos z];exact h2;refine Z _ _ ⟨λ_=>pE ?_,λy=>absurd y (by simp[z])⟩;clear Z;exists _,Z,kP h2;refine⟨oj (by rw[bz h2];rfl),rfl,kO (by rw[Zaa,ZaL];lk),Z _ _ (hN _ _ ?_ (k2.loc (Zad _)))⟩;rw[Zah (dh h2),ep,if_neg z,ZbH,Zar];rfl
 refine aQ (iP ?_);cases b with
 |true =>
  k_lt Z;exact Z _ _ ⟨λz=>absurd z ∅,λ_=>kM (fin k' rfl)⟩
 |false =>
  k_lt Z;refine Z _ _ ⟨λ_=>bx ?_,λz=>absurd z ∅⟩;k_lt2 Z;exact⟨by decide,Z _ _ (fin (k' % 4) rfl)⟩
def Zb8{st:Store}{w:List b7}(hw:∀s∈w,ae.bM s)(hl:w.length<=1000):Wp (F4 [.tup (w.map aZ)] st) λd st'=>d=.tup ((ae.gY w).reverse.map aZ)/\Ex [] st st':=by
 refine ie ?_;intro qR;show Ws (Kh [some (.tup (w.map aZ)),none,none,none] st) _ _ _ _;unfold Kh;refine aQ (bx ?_);k_lt Z;refine⟨rfl,Z _ _ ?_⟩;clear Z;show Ws _ _ _ _ _;refine aQ (m9 (w.map aZ) (λi δ s=>∃v2 v3:Option D,δ=[some (.tup (w.map aZ)),some (.ref st.length),v2,v3]/\s[st.length]?=some (.lst ((ae.gY (w.take i)).reverse.map aZ))/\Ex [] st s) ?_ (by rw[Zaa];lk) ?_ ?_);k_lt Z;exact Z _ _ ⟨rfl,none,none,rfl,h9,Ex.cL _⟩;rintro i d δ s hd ⟨v2,v3,rfl,hs,kx⟩;rw[Zag]at hd;obtain⟨a,ha,rfl⟩:=Zay.mp hd;obtain⟨hi,ea⟩:=Zab.mp ha;have pa:=hw a (Zaj ha);have et:ae.gY (w.take (i+1))=ae.bB (ae.gY (w.take i)) a:=by
  rw[ZaI hi,ae.Js,ea];rfl
 have hlen:=ae.Jt (w.take i);rw[Zbf]at hlen;have pl:ae.Pl (ae.gY (w.take i)):=ae.QZ λs hs=>hw s (List.mem_of_mem_take hs);rw[et];generalize ae.gY (w.take i)=R at hs hlen pl ⊢;obtain⟨b,k⟩:=a;have es1:aZ (b,k)=.tup [.str (if b then "s" else "t"),.int k]:=rfl;rw[es1];k_lt Z;refine⟨rfl,Z _ _ (aQ (iP ?_))⟩;clear Z;exists _,Z,bz hs;refine⟨rfl,?_⟩;have pus:∀d∈R.reverse.map aZ,pU 1 d:=λd hd=>by
  obtain⟨x,_,rfl⟩:=Zaw.mp hd;exact yO 0 x
 rw[xdu (n:=1) (ds:=R.reverse.map aZ) (es:=[]) (bz (kN hs)) vG pus (λd hd=>nomatch hd) ∅];have hs1:=kN (m:=[O.lst []]) hs;have Lg:Ex [] st (s ++ [O.lst []]):=kx.app _;generalize s ++ [O.lst []]=s1 at hs1 Lg ⊢;have Iu:∀(t:b7) (r:List b7),R=t :: r->R.reverse.map aZ=r.reverse.map aZ ++ [aZ t]:=λt r e=>by rw[e,ZbH,Zar];rfl
 cases R with
 |nil =>
  refine⟨false,by simp,?_⟩;rw[if_neg ∅];refine Z _ _ ⟨λz=>absurd z ∅,λ_=>kM ?_⟩;refine Oz (X:=ae.bB [] (b,k)) hs1 Lg (by simp) ?_ λv3 s h1 h2=>⟨_,_,rfl,h1,h2⟩;exact UO (R:=[]) pa (by simp)
 |cons t r =>
  have e1:=Iu t r rfl;refine⟨true,by simp,?_⟩;rw[if_pos rfl,bz hs1,e1];refine⟨_,rfl,aZ t,Oo,?_⟩;obtain⟨bt,kt⟩:=t;have Le:aZ (bt,kt)=.tup [.str (if bt then "s" else "t"),.int kt]:=rfl;rw[Le];w_how;have eD:decide ((if bt=true then("s" : Str)else "t")=if b=true then("s" : Str)else "t")=decide (bt=b):=by cases bt<;>cases b<;>decide
  rw[eD];by_cases hb:bt=b;subst hb;refine Z _ _ ⟨λ_=>bx ?_,λz=>absurd z (by simp)⟩;clear Z;rw[e1]at hs1;exists _,Z,S4;refine⟨oj (by rw[bz hs1];rfl),?_⟩;rw[Td (kP hs1),Le];w_how;refine Z _ _ ?_;have hs2:(s1.set st.length (.lst (r.reverse.map aZ)))[st.length]?=some (.lst (r.reverse.map aZ)):=Zah (dh hs1);refine Oz (X:=ae.bB ((bt,kt) :: r) (bt,k)) hs2 (Lg.loc (Zad _)) (by rw[ZaE]at hlen;lk) ?_ λv3 s h1 h2=>⟨_,_,rfl,h1,h2⟩;rw[ae.vk,if_pos rfl];unfold ae.cj ae.gu;cases bt<;>simp<;>split<;>rfl;refine Z _ _ ⟨λz=>absurd (of_decide_eq_true z) hb,λ_=>kM ?_⟩;refine Oz (X:=ae.bB ((bt,kt) :: r) (b,k)) hs1 Lg ⋯ ?_ λv3 s h1 h2=>⟨_,_,rfl,h1,h2⟩;exact UO (R:=(bt,kt) :: r) pa (λt r e=>by cases e;exact hb)
 rintro δ s ⟨v2,v3,rfl,hs,kx⟩;rw[Zaa,ZaM]at hs;refine c7 ?_;exists _,Z,bz hs;exact Z _ _ ⟨rfl,kx⟩
def UP{st:Store}{xs ys:List Int}{n:Nat}{w:List b7}(fl:o6 n xs ys)(n0:0<n)(hn:n<=20){M k:Nat}(hM:M<2 ^ k)(hk:k<=100)(hw:∀s∈w,ae.bM s)(hl:(ae.av w).le M):Wp (xE [bN xs ys,di (ae.av w)] st) λd st'=>d=bN (ae.aU n (ae.df (xs,ys) w)).1 (ae.aU n (ae.df (xs,ys) w)).2/\Ex [] st st':=by have wh:=Ox fl;refine ie ?_;intro qR;show Ws (HK [some (bN xs ys),some (di (ae.av w))] st) _ _ _ _;unfold HK;refine c7 ?_;k_lt Z;refine aL (zb8 hM hk hl (ae.xh hw)) ?_;rintro d st1 ⟨u,rfl,hu0,hul,eu,k1⟩;have hu:∀s∈u,ae.bM s:=λs hs=>(hu0 s hs).1;refine aL (Uy (p:=(xs,ys)) ⟨fl.1,fl.2.1⟩ ⋯ (Ydu hu) ⋯) ?_;rintro d st2 ⟨rfl,k2⟩;rw[UN];have wu:=wh.ld n0 (w:=u);refine aL (Lf (xs:=(ae.df (xs,ys) u).1) (ys:=(ae.df (xs,ys) u).2) (xH wu) n0 hn) ?_;rintro d st3 ⟨rfl,k3⟩;refine Z _ _ ⟨?_,(k1.trans k2).trans k3⟩;have e:ae.aU n (ae.df (xs,ys) u)=ae.aU n (ae.df (xs,ys) w):=ae.yq n0 wu.v (ae.MU hu hw eu wh.v);show bN (ae.aU n (ae.df (xs,ys) u)).1 (ae.aU n (ae.df (xs,ys) u)).2=_;rw[e]
def UQ(p:List Int×List Int)(s:b7):jr p s=ae.stM p s:=by
 have hq:∀j,pI p.1 p.2 j=ae.pN j p:=λj=>by
  induction j with
  |zero=>rfl
  |succ j ih=>show _=_;unfold pI ae.pN;rw[ih];rfl
 unfold jr ae.stM;split;rfl;exact hq _
def OA{p q:ae.aJ}(h:a9 p=a9 q):p=q:=by
 have h:D.tup [.tup (p.1.map D.int),.tup (p.2.map D.int)]=D.tup [.tup (q.1.map D.int),.tup (q.2.map D.int)]:=h;injection h with h;injection h with h1 h2;injection h2 with h2 _;have inj:∀{x y:List Int},D.tup (x.map D.int)=D.tup (y.map D.int)->x=y:=λ{x y} e=>by
  injection e with e;have:=congrArg (List.map inD) e;rw[ZaC,ZaC]at this;exact(Zb1 x).symm.trans (this.trans (Zb1 y))
 exact Prod.ext (inj h1) (inj h2)
def rL{α:Type}{fs:List α}{g:α->D}{k:Nat}{p:α}(h:fs[k]?=some p):dM (fs.map g) (k:Int)=some (g p):=by have hk:k<fs.length:=(Zab.mp h).1;unfold dM;rw[CB (by rw[Zaa];exact hk)];show(fs.map g)[k]?=_;rw[Zag,h];rfl
def UR{fs:List ae.aJ}{F:ae.aJ}{j:Nat}(nd:fs.Nodup)(hj:fs[j]?=some F):∀i e,i<j->(fs.map a9)[i]?=some e->e≠a9 F:=λi e hij he z=>by
 rw[Zag]at he;obtain⟨q,hq,rfl⟩:=Zay.mp he;have:=OA z;subst this;obtain⟨g1,g2⟩:=Zab.mp hq;obtain⟨g3,g4⟩:=Zab.mp hj;exact Za4.mp nd i j g1 g3 hij (by rw[g2,g4])
def de{α:Type}{l:List α}{k:Nat}{d:α}(h:k<l.length):l[k]?=some (l.getD k d):=by rw[Zae,Zac h];rfl
abbrev wD(w:List b7):D:=.tup (w.map aZ)
def US{s:Store}{a b c r n k:Nat}{p:ae.aJ}{fs:List ae.aJ}{ws:List (List b7)}{rs:List Nat}{L:List Int}{s1:b7}{v0 v1 v7:Option D}{N B C:ai->Store->Prop}{R:D->Store->Prop}
  (n0:0<n) (hn:n<=20) (hs:s1=(true,1)\/s1=(false,1)) (ab:a≠b) (ac:a≠c) (bc:b≠c) (ar:a≠r) (br:b≠r) (cr:c≠r)
  (ha:s[a]?=some (.lst (fs.map a9))) (hb:s[b]?=some (.lst (ws.map wD))) (hc:s[c]?=some (.lst (rs.map D.ref))) (hr:s[r]?=some (.lst (L.map D.int))) (hrk:rs[k]?=some r)
  (g:ae.GR n p fs ws) (vp:ae.Vf n p) (hk:k<fs.length) (few:fs.length<=100) (hL:L.length<=5)
  (hN:∀(v:Option D) (s':Store),s'[a]?=some (.lst ((ae.aR n fs ws k s1).1.map a9))->s'[b]?=some (.lst ((ae.aR n fs ws k s1).2.1.map wD))->s'[c]?=some (.lst (rs.map D.ref))->s'[r]?=some (.lst ((L ++ [((ae.aR n fs ws k s1).2.2:Int)]).map D.int))->Ex [a,b,r] s s'->N [v0,v1,some (.ref a),some (.ref b),some (.ref c),some (.int (k:Int)),some (aZ s1),v] s') :
  Ws ((aq (aB (aD vQ (af (aD yX (af (ao bO (ag 2) (ag 5)) (af (ag 6) ah))) ah)) (hName 7))
 (aq (dg (az (ao (rh true) (ag 7) (ag 2))) (aq (bu (ju "list" aI (ag 2) (af (ag 7) ah)))
 (bu (ju "list" aI (ag 3) (af (aD F4 (af (ao iN (ao bO (ag 3) (ag 5)) (aX (af (ag 6) ah))) ah)) ah)))) aK)
 (bu (ju "list" aI (ao bO (ag 4) (ag 5)) (af (ju "list" eY (ag 2) (af (ag 7) ah)) ah))))) [v0,v1,some (.ref a),some (.ref b),some (.ref c),some (.int (k:Int)),some (aZ s1),v7] s) N B C R:=by
 have ek:=de (d:=(([],[]):ae.aJ)) hk;have hkw:k<ws.length:=by rw[g.wl];exact hk
 have ew:=de (d:=([]:List b7)) hkw;have ps:ae.bM s1:=by rcases hs with rfl|rfl<;>exact⟨λ_=>by decide,by decide⟩
 have gN:=ae.tV n0 g vp hk hs;have lN:(ae.aR n fs ws k s1).1.length<=101:=by have:=gN.2.2.2.1;lk
 generalize hq:fs.getD k ([],[])=q at ek;generalize hw:ws.getD k []=w at ew;obtain⟨wq,oq⟩:=g.own q (Zaj ek);obtain⟨pw,lw,nw,-⟩:=g.wd k w ew;have hat:dM (fs.map a9) (k:Int)=some (a9 q):=rL ek;have OB:dM (rs.map D.ref) (k:Int)=some (.ref r):=rL hrk;refine aQ (bx ?_);exists _,Z,bz ha,hat;refine aL (Ux (p:=q) (s:=s1) ⟨wq.v.1,wq.v.2⟩ ⋯ ps.1) ?_;rintro d t1 ⟨rfl,k1⟩;rw[UQ];have Fx:=wq.st n0 s1;have eS:a9 (ae.stM q s1)=bN (ae.stM q s1).1 (ae.stM q s1).2:=rfl;rw[eS];refine aL (Oy (xH Fx) n0 hn) ?_;rintro d t2 ⟨rfl,k2⟩;have eF:bN (ae.aU n ((ae.stM q s1).1,(ae.stM q s1).2)).1 (ae.aU n ((ae.stM q s1).1,(ae.stM q s1).2)).2=a9 (ae.aU n (ae.stM q s1)):=rfl;rw[eF];have vV:=k1.trans k2;have ha2:=vV.keep _ _ ha (by simp);have hb2:=vV.keep _ _ hb (by simp);have hc2:=vV.keep _ _ hc (by simp);have hr2:=vV.keep _ _ hr (by simp);have pf:∀q:ae.aJ,pU 2 (a9 q):=λq=>NJ 0 _ _;have rest:∀ {s3:Store},s3[a]?=some (.lst ((ae.aR n fs ws k s1).1.map a9))->s3[b]?=some (.lst ((ae.aR n fs ws k s1).2.1.map wD))->s3[c]?=some (.lst (rs.map D.ref))->s3[r]?=some (.lst (L.map D.int))->Ex [a,b,r] s s3->(ae.aR n fs ws k s1).1[(ae.aR n fs ws k s1).2.2]?=some (ae.aU n (ae.stM q s1)) ->
   Ws ((bu (ju "list" aI (ao bO (ag 4) (ag 5)) (af (ju "list" eY (ag 2) (af (ag 7) ah)) ah))) [v0,v1,some (.ref a),some (.ref b),some (.ref c),some (.int (k:Int)),some (aZ s1),some (a9 (ae.aU n (ae.stM q s1)))] s3) N B C R:=by
  intro s3 qK sr hc3 rj k3 hj;refine pE ?_;exists _,cH,bz hc3,OB;refine⟨oj (by rw[bz rj];rfl),oj (by rw[bz qK];rfl),?_⟩;rw[Tb (n:=2) (j:=(ae.aR n fs ws k s1).2.2) (pf _) (bz qK) (λe he=>by obtain⟨q,_,rfl⟩:=Zaw.mp he;exact pf q) ∅ (by rw[Zaa];lk) (by rw[Zag,hj];rfl) (UR gN.1.nd hj)];exists kP rj;refine⟨kO (by rw[Zaa];lk),cH _ _ (hN _ _ ?_ ?_ ?_ ?_ ?_)⟩;rw[Zak (Ne.symm ar)];exact qK;rw[Zak (Ne.symm br)];exact sr;rw[Zak (Ne.symm cr)];exact hc3;rw[Zah (dh rj),Zar];rfl;exact k3.put (by simp)
 have hj:(ae.aR n fs ws k s1).1[(ae.aR n fs ws k s1).2.2]?=some (ae.aU n (ae.stM q s1)):=by
  obtain⟨q',h1,h2⟩:=gN.2.2.2.2;rw[ek]at h1;cases h1;exact h2
 refine Z _ _ (aQ (iP ?_));k_lt2 Z;have Ir:cR t2 (.ref a)=some (fs.map a9):=bz ha2;rw[SW (n:=2) (es:=fs.map a9) (pf _) Ir (λe he=>by obtain⟨q,_,rfl⟩:=Zaw.mp he;exact pf q) ∅];by_cases hm:ae.aU n (ae.stM q s1)∈fs;have hm':a9 (ae.aU n (ae.stM q s1))∈fs.map a9:=Zaw.mpr ⟨_,hm,rfl⟩;have eR:ae.aR n fs ws k s1=(fs,ws,fs.idxOf (ae.aU n (ae.stM q s1))):=by unfold ae.aR;rw[hq,if_pos hm]
 refine⟨false,by simp[hm'],Z _ _ ⟨λz=>(nomatch z),λ_=>kM (rest ?_ ?_ hc2 hr2 vV.any hj)⟩⟩;rw[eR];exact ha2;rw[eR];exact hb2;have hm':a9 (ae.aU n (ae.stM q s1)) ∉ fs.map a9:=λz=>by
  obtain⟨q',h1,h2⟩:=Zaw.mp z;exact hm (OA h2 ▸ h1)
 have eR:ae.aR n fs ws k s1=(fs ++ [ae.aU n (ae.stM q s1)],ws ++ [(ae.gY (w ++ [s1])).reverse],fs.length):=by unfold ae.aR;rw[hq,hw,if_neg hm]
 refine⟨true,by simp[hm'],Z _ _ ⟨λ_=>?_,λz=>(nomatch z)⟩⟩;clear Z;refine aQ (pE ?_);exists _,Z,kP ha2;refine⟨oj (by rw[bz ha2];rfl),kO (by rw[Zaa];lk),Z _ _ (pE ?_)⟩;clear Z;have em:fs.map a9 ++ [a9 (ae.aU n (ae.stM q s1))]=(ae.aR n fs ws k s1).1.map a9:=by rw[eR,Zar];rfl
 rw[em];have qK:(t2.set a (.lst ((ae.aR n fs ws k s1).1.map a9)))[a]?=some (.lst ((ae.aR n fs ws k s1).1.map a9)):=Zah (dh ha2);have sr:(t2.set a (.lst ((ae.aR n fs ws k s1).1.map a9)))[b]?=some (.lst (ws.map wD)):=by rw[Zak ab];exact hb2
 have hc3:(t2.set a (.lst ((ae.aR n fs ws k s1).1.map a9)))[c]?=some (.lst (rs.map D.ref)):=by rw[Zak ac];exact hc2
 have rj:(t2.set a (.lst ((ae.aR n fs ws k s1).1.map a9)))[r]?=some (.lst (L.map D.int)):=by rw[Zak ar];exact hr2
 have k3:Ex [a,b,r] s (t2.set a (.lst ((ae.aR n fs ws k s1).1.map a9))):=(vV.any).put (by simp);generalize t2.set a (.lst ((ae.aR n fs ws k s1).1.map a9))=s3 at qK sr hc3 rj k3 ⊢;have Ca:dM (ws.map wD) (k:Int)=some (wD w):=rL ew;exists _,Z,bz sr,Ca;refine⟨oj (by rw[bz sr];rfl),rfl,?_⟩;have e1:w.map aZ ++ [aZ s1]=(w ++ [s1]).map aZ:=by rw[Zar];rfl
 unfold wD;w_how;rw[e1];refine⟨kO (by rw[Zaa];show _+1<=_;lk),?_⟩;have cB:∀x∈w ++ [s1],ae.bM x:=λx hx=>by
  rcases Zax.mp hx with h|h
  exact ae.Pl.pr pw x (ZaR.mpr h);rw[Zav.mp h];exact ps
 refine aL (Zb8 (w:=w ++ [s1]) cB (by rw[Zaf];show _+1<=_;lk)) ?_;rintro d s4 ⟨rfl,k4⟩;have Iv:=k4.keep _ _ qK (by simp);have Cb:=k4.keep _ _ sr (by simp);have hc4:=k4.keep _ _ hc3 (by simp);have hr4:=k4.keep _ _ rj (by simp);exists kP Cb;refine⟨kO (by rw[Zaa,g.wl];lk),Z _ _ (rest ?_ ?_ ?_ ?_ ((k3.trans k4.any).put (by simp)) hj)⟩;rw[Zak (Ne.symm ab)];exact Iv;rw[Zah (dh Cb),eR,Zar];rfl;rw[Zak bc];exact hc4;rw[Zak br];exact hr4
abbrev qy(p:ae.aJ)(w:List b7)(l:Nat×Nat):D:=.tup [a9 p,wD w,.int (l.1:Int),.int (l.2:Int)]
abbrev eX(c:ae.CS)(N:Nat):D:=.tup ((List.range N).map λk=>qy (c.1.getD k ([],[])) (c.2.1.getD k []) (c.2.2.getD k (0,0)))
structure xI(st s:Store)(ia ib ic:Nat)(fs:List ae.aJ)(ws:List (List b7))(ls:List (Nat×Nat))(rs:List Nat):Prop where
 a:s[ia]?=some (.lst (fs.map a9))
 b:s[ib]?=some (.lst (ws.map wD))
 c:s[ic]?=some (.lst (rs.map D.ref))
 l:ls.length<=rs.length
 r:∀(k r:Nat) (l:Nat×Nat),rs[k]?=some r->ls[k]?=some l->s[r]?=some (.lst [.int (l.1:Int),.int (l.2:Int)])
 h:∀r∈rs,ic<r/\r<s.length
 e:Ex [] st s
def Iw{x y:D}:dM [x,y] 0=some x:=rfl
def Iy{x y:D}:dM [x,y] 1=some y:=rfl
def UT{st:Store}{p:ae.aJ}{n most:Nat}(w0:ae.Wh n p)(n0:0<n)(hn:n<=20)(m1:1<=most)(Lh:most<=60):Wp (F7 [a9 p,.int (most:Int)] st) λd st'=>Ex [] st st'/\((∃N,N<=most/\ae.Full n p (ae.ch n p N) N/\(∀j,j<N->j<(ae.ch n p j).1.length)/\d=eX (ae.ch n p N) N)\/(d=.non/\∃i,(∀j,j<i->j<(ae.ch n p j).1.length)/\most<(ae.ch n p i).1.length)):=by
 refine ie ?_;intro qR;show Ws (F6 [some (a9 p),some (.int (most:Int)),none,none,none,none,none,none] st) _ _ _ _;unfold F6;refine aQ (bx ?_);k_lt Z;refine aL (Oy (xH w0) n0 hn) ?_;rintro d s1 ⟨rfl,k1⟩;refine⟨rfl,Z _ _ (aQ (bx ?_))⟩;k_lt2 Z;refine⟨rfl,rfl,Z _ _ (aQ (bx ?_))⟩;k_lt2 Z;refine⟨rfl,Z _ _ ?_⟩;clear Z;have eF:bN (ae.aU n (p.1,p.2)).1 (ae.aU n (p.1,p.2)).2=a9 (ae.aU n p):=rfl;rw[eF];obtain⟨a,b,c,s2,ea,eb,ec,es,ab,bc,la,I0⟩:∃(a b c:Nat) (s2:Store),s1.length=a/\(s1 ++ [O.lst [a9 (ae.aU n p)]]).length=b/\(s1 ++ [O.lst [a9 (ae.aU n p)]] ++ [O.lst [D.tup []]]).length=c/\s1 ++ [O.lst [a9 (ae.aU n p)]] ++ [O.lst [D.tup []]] ++ [O.lst []]=s2/\a<b/\b<c/\st.length<=a/\xI st s2 a b c (ae.ch n p 0).1 (ae.ch n p 0).2.1 (ae.ch n p 0).2.2 [] :=
  ⟨_,_,_,_,rfl,rfl,rfl,rfl,by simp,by simp,k1.len,kN (kN h9),kN h9,h9,Zad _,(λk r l h=>nomatch h),(λr h=>nomatch h),((k1.app _).app _).app _⟩
 rw[ea,eb,ec,es]
 let lA:IV:=λi δ s=>∃(v5 v6 v7:Option D) (j:Nat) (rs:List Nat),δ=[some (a9 p),some (.int (most:Int)),some (.ref a),some (.ref b),some (.ref c),v5,v6,v7]/\j<=i/\(∀j',j' < j->j' < (ae.ch n p j').1.length)/\(ae.ch n p j).1.length<=most/\(j=i\/(ae.ch n p j).1.length=j)/\rs.length=j/\xI st s a b c (ae.ch n p j).1 (ae.ch n p j).2.1 (ae.ch n p j).2.2 rs
 refine aQ (m9 (aE 0 most) lA ?_ (by rw[jH];lk) ?_ ?_);k_lt Z;refine⟨by lk,Z _ _ ⟨by rw[Zat],none,none,none,0,[],rfl,Zad _,(λj' h=>nomatch h),(show 1<=most from m1),.inl rfl,rfl,I0⟩⟩;rintro i d δ s hd ⟨v5,v6,v7,j,rs,rfl,hj,pr,few,jo,hrs,I⟩;have hi:i<most:=by have:=dh hd;rw[jH]at this;exact this
 rw[yH hi,ZbD]at hd;cases hd;have g:=ae.xy n0 w0 j pr;k_lt Z;refine Z _ _ (iP ?_);clear Z;exists _,Z,bz I.a;rw[Zaa];refine Z _ _ ⟨λz=>?_,λz=>kM ?_⟩;have z:i<(ae.ch n p j).1.length:=by have:=of_decide_eq_true z;lk
 have ej:j=i:=by rcases jo with h|h<;>lk
 subst ej;clear Z;have o7:=g.ll;have y9:=g.le;refine aQ (pE ?_);k_lt Z;have Ic:=kN (m:=[O.lst []]) I.c;refine⟨oj (by rw[bz I.c];rfl),rfl,_,kP Ic,kO (by rw[Zaa];lk),Z _ _ ?_⟩;clear Z;have er:rs.map D.ref ++ [D.ref s.length]=(rs ++ [s.length]).map D.ref:=by rw[Zar];rfl
 rw[er];have lc:=dh I.c;have I1:xI st ((s ++ [O.lst []]).set c (.lst ((rs ++ [s.length]).map D.ref))) a b c (ae.ch n p j).1 (ae.ch n p j).2.1 (ae.ch n p j).2.2 (rs ++ [s.length]):=by
  refine⟨?_,?_,Zah (dh Ic),by rw[Zaf];have:=I.l;lk,λk r l h1 h2=>?_,λr hr=>?_,?_⟩;rw[Zak ⋯];exact kN I.a;rw[Zak ⋯];exact kN I.b;have hk:k<rs.length:=by have:=(Zab.mp h2).1;lk
  rw[Zan hk]at h1;have hc:=I.h r (Zaj h1);rw[Zak ⋯];exact kN (I.r k r l h1 h2);rw[Za8,Zaf];rcases Zax.mp hr with h|h
  have:=I.h r h;exact⟨this.1,Nat.lt_succ_of_lt this.2⟩
  rw[Zav.mp h];exact⟨lc,Zba _⟩;exact(I.e.app _).loc ⋯
 have hr1:((s ++ [O.lst []]).set c (.lst ((rs ++ [s.length]).map D.ref)))[s.length]?=some (.lst (([]:List Int).map D.int)):=by
  rw[Zak ⋯];exact h9
 have hrk:(rs ++ [s.length])[j]?=some s.length:=by rw[Zau ⋯,hrs,ZaW];rfl
 have old:∀r∈rs,r≠s.length:=λr h=>by have:=I.h r h;lk
 have lsr:c<s.length:=lc;generalize (s ++ [O.lst []]).set c (.lst ((rs ++ [s.length]).map D.ref))=s3 at I1 hr1;generalize s.length=r at I1 hr1 hrk old lsr;have r1:=ae.tV (s:=(true,1)) n0 g.r w0.v (k:=j) z (.inl rfl);have r2:=ae.tV (s:=(false,1)) n0 r1.1 w0.v (k:=j) (by have:=r1.2.2.1;lk) (.inr rfl);have eS:ae.bT n (ae.ch n p j)=ae.aR n (ae.ch n p j).1 (ae.ch n p j).2.1 j (true,1):=by unfold ae.bT;rw[o7]
 have eT:ae.dJ n (ae.ch n p j)=ae.aR n (ae.aR n (ae.ch n p j).1 (ae.ch n p j).2.1 j (true,1)).1 (ae.aR n (ae.ch n p j).1 (ae.ch n p j).2.1 j (true,1)).2.1 j (false,1):=by unfold ae.dJ;rw[eS,o7]
 have mk:∀{fs fs':List ae.aJ} {ws xu:List (List b7)} {s s':Store},xI st s a b c fs ws (ae.ch n p j).2.2 (rs ++ [r])->s'[a]?=some (.lst (fs'.map a9))->s'[b]?=some (.lst (xu.map wD))->s'[c]?=some (.lst ((rs ++ [r]).map D.ref))->Ex [a,b,r] s s'->xI st s' a b c fs' xu (ae.ch n p j).2.2 (rs ++ [r]):=by
  intro fs fs' ws xu s s' J h1 h2 h3 k;refine⟨h1,h2,h3,J.l,λi r' l e1 e2=>?_,λr' hr=>?_,⟨Zap J.e.len k.len,λi o e n=>k.keep i o (J.e.keep i o e n) (by have:=dh e;simp;lk)⟩⟩;have hk:i<rs.length:=by have:=(Zab.mp e2).1;lk
  have wc:=e1;rw[Zan hk]at wc;have hm:=Zaj wc;have hc:=J.h r' (Zaj e1);have:=old r' hm;exact k.keep _ _ (J.r i r' l e1 e2) (by simp;lk);have hc:=J.h r' hr;exact⟨hc.1,ZaH hc.2 k.len⟩
 refine aQ (m9 [aZ (true,1),aZ (false,1)] (λm δ s=>∃(v6 v7:Option D),δ=[some (a9 p),some (.int (most:Int)),some (.ref a),some (.ref b),some (.ref c),some (.int (j:Int)),v6,v7]/\((m=0/\xI st s a b c (ae.ch n p j).1 (ae.ch n p j).2.1 (ae.ch n p j).2.2 (rs ++ [r])/\s[r]?=some (.lst (([]:List Int).map D.int)))\/(m=1/\xI st s a b c (ae.bT n (ae.ch n p j)).1 (ae.bT n (ae.ch n p j)).2.1 (ae.ch n p j).2.2 (rs ++ [r])/\s[r]?=some (.lst (([((ae.bT n (ae.ch n p j)).2.2:Int)]:List Int).map D.int)))\/(m=2/\xI st s a b c (ae.dJ n (ae.ch n p j)).1 (ae.dJ n (ae.ch n p j)).2.1 (ae.ch n p j).2.2 (rs ++ [r])/\s[r]?=some (.lst (([((ae.bT n (ae.ch n p j)).2.2:Int),((ae.dJ n (ae.ch n p j)).2.2:Int)]:List Int).map D.int))))) ?_ ∅ ?_ ?_);k_lt Z;exact⟨rfl,rfl,rfl,Z _ _ ⟨rfl,v6,v7,rfl,.inl ⟨rfl,I1,hr1⟩⟩⟩;rintro m d δ s5 hd ⟨v6,v7,rfl,hm⟩;k_lt Z;refine Z _ _ ?_;clear Z;rcases hm with⟨rfl,J,hr⟩|⟨rfl,J,hr⟩|⟨rfl,J,hr⟩
 cases(show some (aZ (true,1))=some d from hd);refine US (s1:=(true,1)) n0 hn (.inl rfl) ⋯ ⋯ ⋯ ⋯ ⋯ ⋯ J.a J.b J.c hr hrk g.r w0.v z ⋯ (by simp) λv s' h1 h2 h3 h4 h5=>?_;refine⟨_,v,rfl,.inr (.inl ⟨rfl,?_,?_⟩)⟩;rw[eS];exact mk J h1 h2 h3 h5;rw[eS];exact h4;cases(show some (aZ (false,1))=some d from hd);rw[eS]at J hr;refine US (s1:=(false,1)) n0 hn (.inr rfl) ⋯ ⋯ ⋯ ⋯ ⋯ ⋯ J.a J.b J.c hr hrk r1.1 w0.v (by have:=r1.2.2.1;lk) (by have:=r1.2.2.2.1;lk) (by simp) λv s' h1 h2 h3 h4 h5=>?_;refine⟨_,v,rfl,.inr (.inr ⟨rfl,?_,?_⟩)⟩;rw[eT];exact mk J h1 h2 h3 h5;rw[eT,eS];exact h4;cases(show none=some d from hd);rintro δ s5 ⟨v6,v7,rfl,⟨h,_⟩|⟨h,_⟩|⟨_,J,hr⟩⟩;cases h;cases h;have UU:∀j',j' < j+1->j' < (ae.ch n p j').1.length:=λj' h=>by
  rcases ZbP j' j with h'|h'
  exact pr j' h'
  have:j'=j:=by lk
  subst this;exact z
 have J2:xI st s5 a b c (ae.ch n p (j+1)).1 (ae.ch n p (j+1)).2.1 (ae.ch n p (j+1)).2.2 (rs ++ [r]):=by
  refine⟨J.a,J.b,J.c,?_,λk r' l e1 e2=>?_,J.h,J.e⟩;show((ae.ch n p j).2.2 ++ [_]).length<=_;rw[Zaf,Zaf,o7,hrs];exact Zad _;have e2:((ae.ch n p j).2.2 ++ [((ae.bT n (ae.ch n p j)).2.2,(ae.dJ n (ae.ch n p j)).2.2)])[k]?=some l:=e2;by_cases hk:k<(ae.ch n p j).2.2.length;rw[Zan hk]at e2;exact J.r k r' l e1 e2;have hk2:k=j:=by
   have:=(Zab.mp e2).1;rw[Zaf]at this;have:k<(ae.ch n p j).2.2.length+1:=this;lk
  subst hk2;rw[Zau ⋯,o7,ZaW]at e2;cases(show some _=some l from e2);rw[hrk]at e1;cases e1;exact hr
 refine iP ?_;exists _,Z,bz J2.a;rw[Zaa];refine Z _ _ ⟨λy=>c7 ?_,λy=>kM ⟨_,_,_,j+1,_,rfl,Zad _,UU,?_,.inl rfl,?_,J2⟩⟩;k_lt2 Z;exact Z _ _ ⟨J2.e,.inr ⟨rfl,j+1,UU,by have:=of_decide_eq_true y;lk⟩⟩
 have:=of_decide_eq_false y;lk
 rw[Zaf,hrs];rfl;have z:¬i<(ae.ch n p j).1.length:=by have:=of_decide_eq_false z;lk
 have:=g.le;exact⟨_,_,_,j,rs,rfl,by lk,pr,few,by lk,hrs,I⟩
 rintro δ s ⟨v5,v6,v7,j,rs,rfl,hj,pr,few,jo,hrs,I⟩;rw[jH]at hj jo;have g:=ae.xy n0 w0 j pr;have y9:=g.le;have OC:(ae.ch n p j).1.length=j:=by rcases jo with h|h<;>lk
 have za:ae.Full n p (ae.ch n p j) j:={ toGC:=g,fl:=OC };refine c7 ?_;k_lt Z;generalize hC:ae.ch n p j=C at I g OC za;refine vH (aE 0 j) (λd=>qy (C.1.getD (inD d).toNat ([],[])) (C.2.1.getD (inD d).toNat []) (C.2.2.getD (inD d).toNat (0,0))) ?_ (by rw[jH];lk) ?_ ?_;exists _,cH,bz I.a;rw[Zaa,OC];exact⟨by lk,cH _ _ ⟨by rw[Zat];exact se _ _,Ex.refl⟩⟩;intro d hd s5 k5;obtain⟨i,hi⟩:=Zbw hd;have hil:=dh hi;rw[jH]at hil;rw[yH hil,ZbD]at hi;cases hi;have hwl:=g.r.wl;have o7:=g.ll;have ef:=de (d:=(([],[]):ae.aJ)) (show i<C.1.length by lk);have ew:=de (d:=([]:List b7)) (show i<C.2.1.length by lk);have el:=de (d:=((0,0):Nat×Nat)) (show i<C.2.2.length by lk);have er:=de (d:=0) (show i<rs.length by lk);have hR:=k5.keep _ _ (I.r i _ _ er el) (by simp);have a1:dM (C.1.map a9) (i:Int)=some (a9 (C.1.getD i ([],[]))):=rL ef;have a2:dM (C.2.1.map wD) (i:Int)=some (wD (C.2.1.getD i [])):=rL ew;have a3:dM (rs.map D.ref) (i:Int)=some (.ref (rs.getD i 0)):=rL er;have Iz:=k5.keep _ _ I.a (by simp);have OD:=k5.keep _ _ I.b (by simp);have hc5:=k5.keep _ _ I.c (by simp);generalize rs.getD i 0=r at hR a3;exists _,cH,Zaz,ZaT,ZaY,ZaZ,bz Iz,bz OD,bz hc5,a1,a2,a3,bz hR,Iw,Iy;exact⟨rfl,cH _ _ ⟨rfl,Ex.refl⟩⟩;intro s5 k5;refine⟨_,vG,Z _ _ ⟨(I.e.trans k5).app _,.inl ⟨j,by lk,by rw[hC];exact za,pr,?_⟩⟩⟩;rw[hC];unfold eX
 congr 1
 unfold aE;rw[ZaC];refine ZaO λi _=>?_;show qy _ _ _=_;simp only[Function.comp,inD,ZbD,Zat]
def zb(n0:0<n)(w:ae.Wh n p):∀(N j:Nat),(∀i,i<N->i<(ae.ch n p i).1.length)->j<=N->(ae.ch n p j).1.length<=(ae.ch n p N).1.length
 |0,j,_,hj=>by
  have:j=0:=by lk
  subst this;exact Zad _
 |N+1,j,pr,hj=>by
  by_cases e:j=N+1;subst e;exact Zad _;have h1:=zb n0 w N j (λi hi=>pr i ⋯) ⋯;have g:=ae.xy n0 w N λi hi=>pr i ⋯;have hN:=pr N ⋯;have o7:=g.ll;have r1:=ae.tV (s:=(true,1)) n0 g.r w.v (k:=(ae.ch n p N).2.2.length) ⋯ (.inl rfl);have r2:=ae.tV (s:=(false,1)) n0 r1.1 w.v (k:=(ae.ch n p N).2.2.length) (by have:=r1.2.2.1;lk) (.inr rfl);have a:=r1.2.2.1;have b:=r2.2.2.1;have:(ae.ch n p N).1.length<=(ae.ch n p (N+1)).1.length:=Zap a b;lk
def UW{st:Store}{a b n k:Nat}{p:ae.aJ}{fs:List ae.aJ}{ws:List (List b7)}{s1:b7}(n0:0<n)(hn:n<=20)(hs:s1=(true,1)\/s1=(false,1))(ab:a≠b)(ha:st[a]?=some (.lst (fs.map a9)))(hb:st[b]?=some (.lst (ws.map wD)))(g:ae.GR n p fs ws)(vp:ae.Vf n p)(hk:k<fs.length)(few:fs.length<=100):
  Wp (BO [.ref a,.ref b,.int (k:Int),aZ s1] st) λd st'=>d=.int ((ae.aR n fs ws k s1).2.2:Int)/\st'[a]?=some (.lst ((ae.aR n fs ws k s1).1.map a9))/\st'[b]?=some (.lst ((ae.aR n fs ws k s1).2.1.map wD))/\Ex [a,b] st st':=by
 refine ie ?_;intro qR;show Ws (GX [some (.ref a),some (.ref b),some (.int (k:Int)),some (aZ s1),none] st) _ _ _ _;unfold GX;have ek:=de (d:=(([],[]):ae.aJ)) hk;have hkw:k<ws.length:=by rw[g.wl];exact hk
 have ew:=de (d:=([]:List b7)) hkw;have ps:ae.bM s1:=by rcases hs with rfl|rfl<;>exact⟨λ_=>by decide,by decide⟩
 have gN:=ae.tV n0 g vp hk hs;have lN:(ae.aR n fs ws k s1).1.length<=101:=by have:=gN.2.2.2.1;lk
 generalize hq:fs.getD k ([],[])=q at ek;generalize hw:ws.getD k []=w at ew;obtain⟨wq,oq⟩:=g.own q (Zaj ek);obtain⟨pw,lw,nw,-⟩:=g.wd k w ew;have hat:dM (fs.map a9) (k:Int)=some (a9 q):=rL ek;refine aQ (bx ?_);exists _,Z,bz ha,hat;refine⟨rfl,?_⟩;have hw1:(D.tup [aZ s1])=.tup ([s1].map aZ):=rfl;rw[hw1];refine aL (Uy (p:=q) (w:=[s1]) ⟨wq.v.1,wq.v.2⟩ ⋯ (λx hx=>by rw[Zav.mp hx];exact ps.1) (show 1<=1000 by decide)) ?_;rintro d t1 ⟨rfl,k1⟩;have e1:mP q [s1]=ae.stM q s1:=UQ q s1;rw[e1];have Fx:=wq.st n0 s1;have eS:a9 (ae.stM q s1)=bN (ae.stM q s1).1 (ae.stM q s1).2:=rfl;rw[eS];refine aL (Lf (xH Fx) n0 hn) ?_;rintro d t2 ⟨rfl,k2⟩;have eF:bN (ae.aU n ((ae.stM q s1).1,(ae.stM q s1).2)).1 (ae.aU n ((ae.stM q s1).1,(ae.stM q s1).2)).2=a9 (ae.aU n (ae.stM q s1)):=rfl;rw[eF];have vV:=k1.trans k2;have ha2:=vV.keep _ _ ha (by simp);have hb2:=vV.keep _ _ hb (by simp);have pf:∀q:ae.aJ,pU 2 (a9 q):=λq=>NJ 0 _ _;have hj:(ae.aR n fs ws k s1).1[(ae.aR n fs ws k s1).2.2]?=some (ae.aU n (ae.stM q s1)):=by
  obtain⟨q',h1,h2⟩:=gN.2.2.2.2;rw[ek]at h1;cases h1;exact h2
 have rest:∀ {s3:Store},s3[a]?=some (.lst ((ae.aR n fs ws k s1).1.map a9))->s3[b]?=some (.lst ((ae.aR n fs ws k s1).2.1.map wD))->Ex [a,b] st s3 ->
   Ws ((aN (ju "list" eY (ag 0) (af (ag 4) ah))) [some (.ref a),some (.ref b),some (.int (k:Int)),some (aZ s1),some (a9 (ae.aU n (ae.stM q s1)))] s3) (λ_ st1=>D.non=D.int ((ae.aR n fs ws k s1).2.2:Int)/\st1[a]?=some (.lst ((ae.aR n fs ws k s1).1.map a9))/\st1[b]?=some (.lst ((ae.aR n fs ws k s1).2.1.map wD))/\Ex [a,b] st st1) (λ_ _=>False) (λ_ _=>False) (λd st1=>d=D.int ((ae.aR n fs ws k s1).2.2:Int)/\st1[a]?=some (.lst ((ae.aR n fs ws k s1).1.map a9))/\st1[b]?=some (.lst ((ae.aR n fs ws k s1).2.1.map wD))/\Ex [a,b] st st1):=by
  intro s3 qK sr k3;refine c7 ?_;k_lt cH;refine⟨oj (by rw[bz qK];rfl),?_⟩;rw[Tb (n:=2) (j:=(ae.aR n fs ws k s1).2.2) (pf _) (bz qK) (λe he=>by obtain⟨q,_,rfl⟩:=Zaw.mp he;exact pf q) ∅ (by rw[Zaa];lk) (by rw[Zag,hj];rfl) (UR gN.1.nd hj)];exact cH _ _ ⟨rfl,qK,sr,k3⟩
 refine Z _ _ (aQ (iP ?_));k_lt2 Z;have Ir:cR t2 (.ref a)=some (fs.map a9):=bz ha2;rw[SW (n:=2) (es:=fs.map a9) (pf _) Ir (λe he=>by obtain⟨q,_,rfl⟩:=Zaw.mp he;exact pf q) ∅];by_cases hm:ae.aU n (ae.stM q s1)∈fs;have hm':a9 (ae.aU n (ae.stM q s1))∈fs.map a9:=Zaw.mpr ⟨_,hm,rfl⟩;have eR:ae.aR n fs ws k s1=(fs,ws,fs.idxOf (ae.aU n (ae.stM q s1))):=by unfold ae.aR;rw[hq,if_pos hm]
 refine⟨false,by simp[hm'],Z _ _ ⟨λz=>(nomatch z),λ_=>kM (rest ?_ ?_ vV.any)⟩⟩;rw[eR];exact ha2;rw[eR];exact hb2;have hm':a9 (ae.aU n (ae.stM q s1)) ∉ fs.map a9:=λz=>by
  obtain⟨q',h1,h2⟩:=Zaw.mp z;exact hm (OA h2 ▸ h1)
 have eR:ae.aR n fs ws k s1=(fs ++ [ae.aU n (ae.stM q s1)],ws ++ [(ae.gY (w ++ [s1])).reverse],fs.length):=by unfold ae.aR;rw[hq,hw,if_neg hm]
 refine⟨true,by simp[hm'],Z _ _ ⟨λ_=>?_,λz=>(nomatch z)⟩⟩;clear Z;refine aQ (pE ?_);exists _,Z,kP ha2;refine⟨oj (by rw[bz ha2];rfl),kO (by rw[Zaa];lk),Z _ _ (pE ?_)⟩;clear Z;have em:fs.map a9 ++ [a9 (ae.aU n (ae.stM q s1))]=(ae.aR n fs ws k s1).1.map a9:=by rw[eR,Zar];rfl
 rw[em];have qK:(t2.set a (.lst ((ae.aR n fs ws k s1).1.map a9)))[a]?=some (.lst ((ae.aR n fs ws k s1).1.map a9)):=Zah (dh ha2);have sr:(t2.set a (.lst ((ae.aR n fs ws k s1).1.map a9)))[b]?=some (.lst (ws.map wD)):=by rw[Zak ab];exact hb2
 have k3:Ex [a,b] st (t2.set a (.lst ((ae.aR n fs ws k s1).1.map a9))):=(vV.any).put (by simp);generalize t2.set a (.lst ((ae.aR n fs ws k s1).1.map a9))=s3 at qK sr k3 ⊢;have Ca:dM (ws.map wD) (k:Int)=some (.tup (w.map aZ)):=rL (g:=wD) ew;exists _,Z,bz sr,Ca;refine⟨oj (by rw[bz sr];rfl),rfl,?_⟩;rw[hw1];refine aL (UC (v:=w) (w:=[s1]) (by show _+1<=_;lk)) ?_;rintro d s4 ⟨rfl,k4⟩;have Iv:=k4.keep _ _ qK (by simp);have Cb:=k4.keep _ _ sr (by simp);exists kP Cb;refine⟨kO (by rw[Zaa,g.wl];lk),Z _ _ (rest ?_ ?_ ((k3.trans k4.any).put (by simp)))⟩;rw[Zak (Ne.symm ab)];exact Iv;rw[Zah (dh Cb),eR,Zar];rfl
abbrev Cc(l:Nat×Nat):D:=.tup [.int (l.1:Int),.int (l.2:Int)]
def ybY(w0:ae.Wh n p)(n0:0<n)(hn:n<=20)(F:ae.Full n p (ae.ch n p N) N)(pr:∀j,j<N->j<(ae.ch n p j).1.length)(hN:N<=most)(Lh:most<=60):Wp (C4 [a9 p,.int (most:Int)] st) λd st'=>d=eX (ae.ch n p N) N/\Ex [] st st':=by
 refine ie ?_;intro qR;show Ws (KA [some (a9 p),some (.int (most:Int)),none,none,none,none,none,none] st) _ _ _ _;unfold KA;refine aQ (bx ?_);k_lt Z;refine aL (Lf (xH w0) n0 hn) ?_;rintro d s1 ⟨rfl,k1⟩;refine⟨rfl,Z _ _ (aQ (bx ?_))⟩;k_lt2 Z;refine⟨rfl,rfl,Z _ _ (aQ (bx ?_))⟩;k_lt2 Z;refine⟨rfl,Z _ _ ?_⟩;clear Z;have eF:bN (ae.aU n (p.1,p.2)).1 (ae.aU n (p.1,p.2)).2=a9 (ae.aU n p):=rfl;rw[eF];obtain⟨a,b,c,s2,ea,eb,ec,es,ab,bc,la,ha,hb,hc,kx⟩:∃(a b c:Nat) (s2:Store),s1.length=a/\(s1 ++ [O.lst [a9 (ae.aU n p)]]).length=b/\(s1 ++ [O.lst [a9 (ae.aU n p)]] ++ [O.lst [D.tup []]]).length=c/\s1 ++ [O.lst [a9 (ae.aU n p)]] ++ [O.lst [D.tup []]] ++ [O.lst []]=s2/\a<b/\b<c/\st.length<=a/\s2[a]?=some (.lst ((ae.ch n p 0).1.map a9))/\s2[b]?=some (.lst ((ae.ch n p 0).2.1.map wD))/\s2[c]?=some (.lst ((ae.ch n p 0).2.2.map Cc))/\Ex [] st s2 :=
  ⟨_,_,_,_,rfl,rfl,rfl,rfl,by simp,by simp,k1.len,kN (kN h9),kN h9,h9,((k1.app _).app _).app _⟩
 rw[ea,eb,ec,es]
 let lA:IV:=λm δ s=>∃(v5 v6 v7:Option D) (j:Nat),δ=[some (a9 p),some (.int (most:Int)),some (.ref a),some (.ref b),some (.ref c),v5,v6,v7]/\m+j=N/\s[a]?=some (.lst ((ae.ch n p j).1.map a9))/\s[b]?=some (.lst ((ae.ch n p j).2.1.map wD))/\s[c]?=some (.lst ((ae.ch n p j).2.2.map Cc))/\Ex [] st s
 refine aQ (xt lA N (by show N<1000000;lk) ⟨none,none,none,0,rfl,rfl,ha,hb,hc,kx⟩ ?_);rintro m δ s ⟨v5,v6,v7,j,rfl,hm,ha,hb,hc,k⟩;have g:=ae.xy n0 w0 j λi hi=>pr i ⋯;have o7:=g.ll;have up:=zb n0 w0 N j pr ⋯;have hfl:=F.fl;exists _,Z,bz ha,bz hc;rw[Zaa,Zaa,o7];refine Z _ _ ⟨λz=>aQ (iP ?_),λz=>c7 ?_⟩;have z:j<(ae.ch n p j).1.length:=by have:=of_decide_eq_true z;lk
 clear Z;exists _,Z,bz ha;rw[Zaa];refine Z _ _ ⟨λy=>?_,λy=>kM (aQ (bx ?_))⟩
 have:=of_decide_eq_true y
 lk;clear Z;have hjN:j<N:=by
  rcases ZbP j N with h|h
  exact h
  have:j=N:=by lk
  subst this;lk
 exists _,Z,bz hc;rw[Zaa,o7];refine Z _ _ (aQ (bx ?_));k_lt2 Z;have es1:D.tup [D.str (Str.ofString "s"),D.int 1]=aZ (true,1):=rfl;have et1:D.tup [D.str (Str.ofString "t"),D.int 1]=aZ (false,1):=rfl;rw[es1];have r1:=ae.tV (s:=(true,1)) n0 g.r w0.v (k:=j) z (.inl rfl);have r2:=ae.tV (s:=(false,1)) n0 r1.1 w0.v (k:=j) (by have:=r1.2.2.1;lk) (.inr rfl);refine aL (UW (s1:=(true,1)) (k:=j) n0 hn (.inl rfl) ⋯ ha hb g.r w0.v z ⋯) ?_;rintro d s3 ⟨rfl,qK,sr,k3⟩;have hc3:=k3.keep _ _ hc (by simp;lk);refine Z _ _ (aQ (bx ?_));k_lt2 Z;rw[et1];refine aL (UW (s1:=(false,1)) (k:=j) n0 hn (.inr rfl) ⋯ qK sr r1.1 w0.v (by have:=r1.2.2.1;lk) (by have:=r1.2.2.2.1;lk)) ?_;rintro d s4 ⟨rfl,Iv,Cb,k4⟩;have hc4:=k4.keep _ _ hc3 (by simp;lk);refine Z _ _ (pE ?_);clear Z;exists _,Z,kP hc4;have eS:ae.bT n (ae.ch n p j)=ae.aR n (ae.ch n p j).1 (ae.ch n p j).2.1 j (true,1):=by unfold ae.bT;rw[o7]
 have eT:ae.dJ n (ae.ch n p j)=ae.aR n (ae.aR n (ae.ch n p j).1 (ae.ch n p j).2.1 j (true,1)).1 (ae.aR n (ae.ch n p j).1 (ae.ch n p j).2.1 j (true,1)).2.1 j (false,1):=by unfold ae.dJ;rw[eS,o7]
 have kd:∀{x y:Store},Ex [] st x->Ex [a,b] x y->Ex [] st y:=λ{x y} h g=>⟨Zap h.len g.len,λi o e n=>g.keep i o (h.keep i o e n) (by have:=dh e;simp;lk)⟩;have k5:Ex [] st s4:=kd (kd k k3) k4;refine⟨oj (by rw[bz hc4];rfl),rfl,kO (by rw[Zaa];lk),Z _ _ ⟨m-1,by lk,_,_,_,j+1,rfl,by lk,?_,?_,?_,k5.loc ⋯⟩⟩;rw[Zak ⋯];show _=some (O.lst ((ae.dJ n (ae.ch n p j)).1.map a9));rw[eT];exact Iv;rw[Zak ⋯];show _=some (O.lst ((ae.dJ n (ae.ch n p j)).2.1.map wD));rw[eT];exact Cb;rw[Zah (dh hc4)];show _=some (O.lst (((ae.ch n p j).2.2 ++ [((ae.bT n (ae.ch n p j)).2.2,(ae.dJ n (ae.ch n p j)).2.2)]).map Cc));rw[Zar,eT,eS];rfl;have z:¬j<(ae.ch n p j).1.length:=by have:=of_decide_eq_false z;lk
 have ej:j=N:=by
  rcases ZbP j N with h|h
  exact absurd (pr j h) z;lk
 subst ej;k_lt2 Z;generalize hC:ae.ch n p j=C at ha hb hc g F hfl o7;refine vH (aE 0 j) (λd=>qy (C.1.getD (inD d).toNat ([],[])) (C.2.1.getD (inD d).toNat []) (C.2.2.getD (inD d).toNat (0,0))) ?_ (by rw[jH];lk) ?_ ?_;exists _,cH,bz ha;rw[Zaa,hfl];exact⟨by lk,cH _ _ ⟨by rw[Zat];exact se _ _,Ex.refl⟩⟩;intro d hd s5 k5;obtain⟨i,hi⟩:=Zbw hd;have hil:=dh hi;rw[jH]at hil;rw[yH hil,ZbD]at hi;cases hi;have hwl:=g.r.wl;have ef:=de (d:=(([],[]):ae.aJ)) (show i<C.1.length by lk);have ew:=de (d:=([]:List b7)) (show i<C.2.1.length by lk);have el:=de (d:=((0,0):Nat×Nat)) (show i<C.2.2.length by lk);have a1:dM (C.1.map a9) (i:Int)=some (a9 (C.1.getD i ([],[]))):=rL ef;have a2:dM (C.2.1.map wD) (i:Int)=some (wD (C.2.1.getD i [])):=rL ew;have a3:dM (C.2.2.map Cc) (i:Int)=some (Cc (C.2.2.getD i (0,0))):=rL el;have g0:∀{l:Nat×Nat} {s:Store} {Q:D->Store->Prop},Wp (ay (Cc l) (.int 0) s) Q↔Q (.int (l.1:Int)) s:=aY;have g1:∀{l:Nat×Nat} {s:Store} {Q:D->Store->Prop},Wp (ay (Cc l) (.int 1) s) Q↔Q (.int (l.2:Int)) s:=aY;have Iz:=k5.keep _ _ ha (by simp);have OD:=k5.keep _ _ hb (by simp);have hc5:=k5.keep _ _ hc (by simp);exists _,cH,Zaz,ZaT,ZaY,ZaZ,bz Iz,bz OD,bz hc5,a1,a2,a3,g0,g1;exact⟨rfl,cH _ _ ⟨rfl,Ex.refl⟩⟩;intro s5 k5;refine⟨_,vG,Z _ _ ⟨?_,(k.trans k5).app _⟩⟩;rw[hC];unfold eX
 congr 1
 unfold aE;rw[ZaC];refine ZaO λi _=>?_;show qy _ _ _=_;simp only[Function.comp,inD,ZbD,Zat]
def Xdu(c:ae.CS)(N:Nat):∃ds,eX c N=.tup ds:=⟨_,rfl⟩
def xb8{st:Store}{f most:Nat}(hf:bS st f)(m30:30<=most)(Lh:most<=60):Wp (C1 [.ref f,.int (most:Int)] st) λd st'=>∃(n:Nat) (p:ae.aJ) (N:Nat),d=.tup [a9 p,eX (ae.ch n p N) N]/\ae.Wh n p/\0<n/\n<=6/\ae.Full n p (ae.ch n p N) N/\(∀j,j<N->j<(ae.ch n p j).1.length)/\N<=most/\bS st' f/\Ex [f] st st':=by
 refine ie ?_;intro qR;show Ws (F9 [some (.ref f),some (.int (most:Int)),none,none] st) _ _ _ _;unfold F9;refine aQ (bx ?_);k_lt Z;refine aL (xF (n:=5) hf ∅ ∅) ?_;rintro d t1 ⟨k1,rfl,k10,k11,f1,e1⟩;w_how;refine⟨rfl,?_⟩;have f2:bS (t1 ++ [O.lst [D.int (1+k1),D.int 6]]) f:=f1.keep (Ex.cL _);have i2:(t1 ++ [O.lst [D.int (1+k1),D.int 6]])[t1.length]?=some (.lst [D.int (1+k1),D.int 6]):=h9;have e2:Ex [f] st (t1 ++ [O.lst [D.int (1+k1),D.int 6]]):=e1.app _;have lf:=f1.lt;have hne:t1.length≠f:=by lk
 generalize t1 ++ [O.lst [D.int (1+k1),D.int 6]]=t2 at f2 i2 e2 ⊢;generalize t1.length=r at i2 hne ⊢;refine aL (xF (n:=8) f2 ∅ ∅) ?_;rintro d t3 ⟨k2,rfl,k20,k21,f3,e3⟩;have i3:items t3 r=some [D.int (1+k1),D.int 6]:=bz (e3.keep _ _ i2 (by simp;exact hne));exists i3;obtain⟨n,x,hx,ex,n0,n6⟩:∃(n:Nat) (x:D),dM [D.int (1+k1),D.int 6] (k2 / 7)=some x/\x=.int (n:Int)/\0<n/\n<=6:=by
  rcases(show k2 / 7=0\/k2 / 7=1 by lk)with h|h
  rw[h];exact⟨(1+k1).toNat,_,rfl,by rw[ZaG ⋯],by lk,by lk⟩;rw[h];exact⟨6,_,rfl,rfl,by decide,by decide⟩
 refine⟨by decide,x,hx,?_⟩;rw[ex];clear hx ex;refine aL (Uh (n:=n) f3 ⋯ ⋯) ?_;rintro d t4 ⟨xs,ys,rfl,fl,f4,e4⟩;refine Z _ _ (aQ (bx ?_));k_lt2 Z;have w4:=Ox fl;have e14:Ex [f] st t4:=(e2.trans e3).trans e4;refine aL (UT (p:=(xs,ys)) (most:=most) w4 n0 ⋯ ⋯ Lh) ?_;rintro d t5 ⟨e5,hc⟩;have f5:=f4.keep e5;refine Z _ _ ?_;clear Z;show Ws _ _ _ _ _
 let lA:IV:=λm δ s=>∃(n:Nat) (p:ae.aJ) (d:D),δ=[some (.ref f),some (.int (most:Int)),some (a9 p),some d]/\ae.Wh n p/\0<n/\n<=6/\((∃N,N<=most/\ae.Full n p (ae.ch n p N) N/\(∀j,j<N->j<(ae.ch n p j).1.length)/\d=eX (ae.ch n p N) N)\/(d=.non/\m=1))/\bS s f/\Ex [f] st s
 refine aQ (xt lA 1 ∅ ?_ ?_);refine⟨n,(xs,ys),d,rfl,w4,n0,n6,?_,f5,e14.trans e5.any⟩;rcases hc with h|h
 exact .inl h;exact .inr ⟨h.1,rfl⟩;rintro m δ s ⟨n,p,d,rfl,w4,n0,n6,hd,f6,e6⟩;rcases hd with⟨N,OE,hF,Al,rfl⟩|⟨rfl,rfl⟩
 obtain⟨ds,UX⟩:=Xdu (ae.ch n p N) N;rw[UX];exists _,Z,Zf;refine Z _ _ ⟨λz=>(nomatch z),λ_=>c7 ?_⟩;k_lt2 Z;exact⟨rfl,Z _ _ ⟨n,p,N,by rw[UX],w4,n0,n6,hF,Al,OE,f6,e6⟩⟩;exists _,Z,Ze;refine Z _ _ ⟨λ_=>aQ (bx ?_),λz=>(nomatch z)⟩;k_lt2 Z;refine aL (xF (n:=3) f6 ∅ ∅) ?_;rintro d t7 ⟨k3,rfl,k30,k31,f7,e7⟩;w_how;obtain⟨n',hn'⟩:∃n':Nat,(1:Int)+k3=(n':Int):=⟨(1+k3).toNat,by lk⟩;rw[hn'];refine aL (Uh (n:=n') f7 ⋯ ⋯) ?_;rintro d t8 ⟨xs,ys,rfl,fl,f8,e8⟩;refine Z _ _ (bx ?_);k_lt2 Z;have w8:=Ox fl;refine aL (UT (p:=(xs,ys)) (most:=most) w8 (show 0<n' by lk) ⋯ ⋯ Lh) ?_;rintro d t9 ⟨e9,hc⟩;rcases hc with⟨N,OE,hF,Al,rfl⟩|⟨rfl,i,pr,hi⟩
 exact Z _ _ ⟨0,by decide,n',(xs,ys),_,rfl,w8,by lk,by lk,.inl ⟨N,OE,hF,Al,rfl⟩,f8.keep e9,((e6.trans e7).trans e8).trans e9.any⟩;have g:=ae.xy ⋯ w8 i pr
 have:=ae.ZA (n:=n') ⋯ ⋯ g.r.nd g.r.own;lk
def zc{p q:ae.aJ}:[p.1,p.2]=[q.1,q.2]↔p=q:=⟨λz=>by injection z with z1 z2;injection z2 with z2 _;exact Prod.ext z1 z2,λz=>by rw[z]⟩
def Xcp{st:Store}{p:ae.aJ}{n:Nat}{w:List b7}(w0:ae.Wh n p)(n0:0<n)(hn:n<=20)(hw:∀s∈w,ae.bM s)(hl:(ae.av w).le 1000000):Wp (BS [a9 p,di (ae.av w)] st) λd st'=>d=.bl (decide (ae.aU n (ae.df p w)=ae.aU n p))/\Ex [] st st':=by refine ie ?_;intro qR;show Ws (HM [some (a9 p),some (di (ae.av w))] st) _ _ _ _;unfold HM;refine c7 ?_;k_lt Z;refine aL (UP (xs:=p.1) (ys:=p.2) (w:=w) (xH w0) n0 hn (M:=1000000) (k:=20) ∅ ∅ hw hl) ?_;rintro d t1 ⟨rfl,k1⟩;refine aL (Lf (xs:=p.1) (ys:=p.2) (xH w0) n0 hn) ?_;rintro d t2 ⟨rfl,k2⟩;rw[SK];refine Z _ _ ⟨?_,k1.trans k2⟩;rw[if_neg ∅];rw[show(((p.1,p.2):ae.aJ))=p from rfl];rw[decide_eq_decide.mpr (zc (p:=ae.aU n (ae.df p w)) (q:=ae.aU n p))]
abbrev uf(C:ae.CS)(t:ae.jv):D:=di (ae.av (ae.ux C t))
def Li(hg:g<N):Wp (ay (eX C N) (.int (g:Int)) st) Q↔Q (qy (C.1.getD g ([],[])) (C.2.1.getD g []) (C.2.2.getD g (0,0))) st:=by have e:dM ((List.range N).map λk=>qy (C.1.getD k ([],[])) (C.2.1.getD k []) (C.2.2.getD k (0,0))) (g:Int)=some (qy (C.1.getD g ([],[])) (C.2.1.getD g []) (C.2.2.getD g (0,0))):=rL (g:=λk=>qy (C.1.getD k ([],[])) (C.2.1.getD k []) (C.2.2.getD k (0,0))) (ZaX hg);unfold eX;rw[Nk,e];exact⟨λ⟨d,h1,h2⟩=>by cases h1;exact h2,λh=>⟨_,rfl,h⟩⟩
def OG:Wp (ay (qy p w l) (.int 1) st) Q↔Q (wD w) st:=aY
def OH(F:ae.Full n p C N)(hi:i<=N)(hN:N<=60):(ae.bj C i).2.length<=120:=by have:=(ae.Bw F i hi).2;lk
abbrev ug(t:ae.jv):D:=.tup [.int (t.1:Int),aZ t.2.1,.int (t.2.2:Int)]
def UY{a N:Nat}(hx:x.2.length<=130)(ha:s[a]?=some (.lst (x.2.map ug)))
  (Cd:∀(s':Store),s'[a]?=some (.lst ((ae.iJ x t).2.map ug))->Ex [a] s s'->Nx [some c,some (.ref a),some (.int ((ae.iJ x t).1:Int)),some (.int (t.1:Int)),v4,some (aZ t.2.1),some (.int (t.2.2:Int))] s') :
  Ws ((dg (az (ao (iM false) (ag 6) (ag 2))) (aB (ao cu (ag 2) #[1]) (hName 2)) (bu (ju "list" aI (ag 1) (af (aX (af (ag 3) (af (ag 5) (af (ag 6) ah)))) ah)))) [some c,some (.ref a),some (.int (x.1:Int)),some (.int (t.1:Int)),v4,some (aZ t.2.1),some (.int (t.2.2:Int))] s) Nx B Co R:=by
 refine iP ?_;k_lt Z;by_cases e:t.2.2=x.1;refine Z _ _ ⟨λ_=>bx ?_,λz=>absurd z (by simp[e])⟩;k_lt2 Z;refine Z _ _ ?_;have em:ae.iJ x t=(x.1+1,x.2):=by unfold ae.iJ;rw[if_pos e]
 rw[em]at Cd;exact Cd s ha Ex.refl;refine Z _ _ ⟨λz=>absurd (of_decide_eq_true z) (λz=>e ⋯),λ_=>pE ?_⟩;clear Z;have em:ae.iJ x t=(x.1,x.2 ++ [t]):=by unfold ae.iJ;rw[if_neg e]
 rw[em]at Cd;exists _,Z,kP ha;refine⟨oj (by rw[bz ha];rfl),rfl,kO (by rw[Zaa];lk),Z _ _ (Cd _ ?_ (Ex.refl.put (by simp)))⟩;rw[Zah (dh ha),Zar];rfl
def UZ:Wp (ay (qy p w l) (.int 2) st) Q↔Q (.int (l.1:Int)) st:=aY
def U0:Wp (ay (qy p w l) (.int 3) st) Q↔Q (.int (l.2:Int)) st:=aY
def U1{ds:List D}{i:Nat}{d:D}(h:ds[i]?=some d):(gi ds)[i]?=some (.tup [.int (i:Int),d]):=by unfold gi;simp[Zag,List.getElem?_zipIdx,h]
def U2(F:ae.Full n p C N)(hN:N<=60):Wp (G0 [eX C N] st) λd st'=>d=.tup ((ae.bj C N).2.map ug)/\Ex [] st st':=by
 refine sS ?_;show Ws (KC [some (eX C N),none,none,none,none,none,none] st) _ _ _ _;unfold KC;refine aQ (bx ?_);k_lt Z;refine⟨rfl,Z _ _ (aQ (bx ?_))⟩;k_lt2 Z;refine Z _ _ ?_;clear Z;obtain⟨a,s0,ea,es,ha,kx⟩:∃(a:Nat) (s0:Store),st.length=a/\st ++ [O.lst []]=s0/\s0[a]?=some (.lst ((ae.bj C 0).2.map ug))/\Ex [] st s0:=⟨_,_,rfl,rfl,h9,Ex.cL _⟩;rw[ea,es];have eL:(gi ((List.range N).map λk=>qy (C.1.getD k ([],[])) (C.2.1.getD k []) (C.2.2.getD k (0,0)))).length=N:=by unfold gi;simp
 refine aQ (m9 (gi ((List.range N).map λk=>qy (C.1.getD k ([],[])) (C.2.1.getD k []) (C.2.2.getD k (0,0)))) (λi δ s=>∃(v3 v4 v5 v6:Option D),δ=[some (eX C N),some (.ref a),some (.int ((ae.bj C i).1:Int)),v3,v4,v5,v6]/\s[a]?=some (.lst ((ae.bj C i).2.map ug))/\Ex [] st s) ?_ ⋯ ?_ ?_);k_lt Z;exact⟨_,rfl,Z _ _ ⟨rfl,_,_,_,_,rfl,ha,kx⟩⟩;rintro i d δ s hd ⟨v3,v4,v5,v6,rfl,ha,k⟩;have hi:i<N:=by have:=dh hd;lk
 rw[U1 (d:=qy (C.1.getD i ([],[])) (C.2.1.getD i []) (C.2.2.getD i (0,0))) (by rw[Zag,ZaX hi];rfl)]at hd;cases hd;have l1:=ae.Fy F hi;have m1:=ae.Bw F i ⋯;have m2:=ae.J1 m1.1 (show ae.xA N (i,(true,1),(ae.iK C i).1)from⟨hi,.inl rfl,l1.1⟩);k_lt Z;refine⟨rfl,Z _ _ ?_⟩;clear Z;refine m9 [.tup [aZ (true,1),.int ((ae.iK C i).1:Int)],.tup [aZ (false,1),.int ((ae.iK C i).2:Int)]] (λj δ s=>∃(v5 v6:Option D),δ=[some (eX C N),some (.ref a),some (.int ((ae.J0 C i j).1:Int)),some (.int (i:Int)),some (qy (C.1.getD i ([],[])) (C.2.1.getD i []) (C.2.2.getD i (0,0))),v5,v6]/\s[a]?=some (.lst ((ae.J0 C i j).2.map ug))/\Ex [] st s) ?_ (show 2<100000 by decide) ?_ ?_;exists _,Z,UZ,U0;exact⟨rfl,rfl,rfl,Z _ _ ⟨rfl,_,_,rfl,ha,k⟩⟩;rintro j d δ s' hd ⟨v5,v6,rfl,ha',k'⟩;rcases j with _|_|j
 cases hd;k_lt Z;refine⟨rfl,Z _ _ ?_⟩;exact UY (N:=N) (x:=ae.bj C i) (t:=(i,(true,1),(ae.iK C i).1)) ⋯ ha' λs2 ha2 k2=>⟨_,_,rfl,ha2,k'.drop k2 ⋯⟩;cases hd;k_lt Z;refine⟨rfl,Z _ _ ?_⟩;exact UY (N:=N) (x:=ae.iJ (ae.bj C i) (i,(true,1),(ae.iK C i).1)) (t:=(i,(false,1),(ae.iK C i).2)) (by have:=m2.2;lk) ha' λs2 ha2 k2=>⟨_,_,rfl,ha2,k'.drop k2 ⋯⟩;exact absurd hd (by simp);rintro δ s' ⟨v5,v6,rfl,ha',k'⟩;exact⟨_,_,_,_,rfl,ha',k'⟩;rintro δ s ⟨v3,v4,v5,v6,rfl,ha,k⟩;rw[eL]at ha;refine c7 ?_;k_lt Z;exact⟨_,bz ha,Z _ _ ⟨rfl,k⟩⟩
def zb9(F:ae.Full n p C N)(hN:N<=60):Wp (Hd [eX C N] st) λd st'=>d=.tup ((ae.bj C N).2.map (uf C))/\Ex [] st st':=by
 refine sS ?_;show Ws (Hc [some (eX C N),none,none,none,none] st) _ _ _ _;unfold Hc;refine aQ (bx ?_);k_lt Z;refine⟨rfl,Z _ _ ?_⟩;clear Z;obtain⟨a,s0,ea,es,ha,kx⟩:∃(a:Nat) (s0:Store),st.length=a/\st ++ [O.lst []]=s0/\s0[a]?=some (.lst ([]:List D))/\Ex [] st s0:=⟨_,_,rfl,rfl,h9,Ex.cL _⟩;rw[ea,es];have mk:=ae.Bw F N (Zad _);have hL:=OH F (Zad N) hN;generalize hM:(ae.bj C N).2=L at mk hL ⊢;refine aQ (m9 (L.map ug) (λi δ s=>∃(v2 v3 v4:Option D),δ=[some (eX C N),some (.ref a),v2,v3,v4]/\s[a]?=some (.lst ((L.take i).map (uf C)))/\Ex [] st s) ?_ (by rw[Zaa];lk) ?_ ?_);k_lt Z;refine aL (U2 (st:=s0) F hN) ?_;rintro d s1 ⟨rfl,k1⟩;rw[hM];exact⟨_,rfl,Z _ _ ⟨rfl,_,_,_,rfl,k1.keep _ _ ha (by simp),kx.trans k1⟩⟩;rintro i d δ s hd ⟨v2,v3,v4,rfl,ha,k⟩;have hi:i<L.length:=by have:=dh hd;rw[Zaa]at this;exact this
 rw[Zag,Zac hi]at hd;have ht:=mk.1 _ (Zbl hi);have et:L.take (i+1)=L.take i ++ [L[i]]:=by rw[Za7,Zac hi];rfl
 generalize L[i]=t at hd ht et;cases hd;obtain⟨hw,lw⟩:=ae.Tj F ht;obtain⟨r1,r2⟩:=ae.Bx F ht.1;obtain⟨r3,r4⟩:=ae.Bx F ht.2.2;unfold ug;k_lt Z;refine⟨rfl,Z _ _ (pE ?_)⟩;k_lt2 Z;refine⟨oj (by rw[bz ha];rfl),?_⟩;rw[Li ht.1,OG];unfold wD;w_how;rw[show(C.2.1.getD t.1 []).map aZ ++ [aZ t.2.1]=(C.2.1.getD t.1 [] ++ [t.2.1]).map aZ by rw[Zar];rfl];refine⟨rfl,kO (by rw[Zaa];show _+1<=_;lk),?_⟩;rw[Li ht.2.2,OG];unfold wD;refine aL (UD (w:=C.2.1.getD t.2.2 []) ⋯) ?_;rintro d s2 ⟨rfl,k2⟩;w_how;rw[<- Zar];have hm:C.2.1.getD t.1 [] ++ [t.2.1] ++ ae.eV (C.2.1.getD t.2.2 [])=ae.ux C t:=rfl;rw[hm];refine⟨kO (by rw[Zaa,Zaa];have:=Zdu (C.2.1.getD t.2.2 []);rw[Zaf];show _+1+_<=_;lk),?_⟩;refine aL (ZbX (w:=ae.ux C t) (λs hs=>⟨(hw s hs).1,by have:=(hw s hs).2;lk⟩) ⋯) ?_;rintro d s3 ⟨rfl,k3⟩;have qK:=(k2.trans k3).keep _ _ ha (by simp);refine⟨_,kP qK,kO (by rw[Zaa,Zbf];lk),Z _ _ ⟨_,_,_,rfl,?_,(k.trans (k2.trans k3)).loc ⋯⟩⟩;rw[Zah (dh qK),et,Zar];rfl;rintro δ s ⟨v2,v3,v4,rfl,ha,k⟩;rw[Zaa,ZaM]at ha;refine c7 ?_;k_lt Z;exact⟨_,bz ha,Z _ _ ⟨rfl,k⟩⟩
def U3:Wp (ay (bN xs ys) (.int 0) st) Q↔Q (.tup (xs.map D.int)) st:=aY
def zdv:Wp (ay (bN xs ys) (.int 1) st) Q↔Q (.tup (ys.map D.int)) st:=aY
abbrev Lj(c:ae.CS)(k:Nat):D:=qy (c.1.getD k ([],[])) (c.2.1.getD k []) (c.2.2.getD k (0,0))
def U4(c:ae.CS)(N:Nat):eX c N=.tup ((List.range N).map (Lj c)):=rfl
def Zc0(h:c.2.2.length=N):(List.range N).map (λk=>((c.2.2.getD k (0,0)).1:Int))=ae.sT c:=by unfold ae.sT;refine Zb2 λk=>?_;rw[Zag,Zag];by_cases hk:k<N;rw[ZaX hk,Zac (by lk:k<c.2.2.length)];show some ((c.2.2.getD k (0,0)).1:Int)=_;rw[Zae,Zac (by lk:k<c.2.2.length)];rfl;rw[ZaP (by simp;lk),ZaP ⋯];rfl
def Yc0(h:c.2.2.length=N):(List.range N).map (λk=>((c.2.2.getD k (0,0)).2:Int))=ae.tT c:=by unfold ae.tT;refine Zb2 λk=>?_;rw[Zag,Zag];by_cases hk:k<N;rw[ZaX hk,Zac (by lk:k<c.2.2.length)];show some ((c.2.2.getD k (0,0)).2:Int)=_;rw[Zae,Zac (by lk:k<c.2.2.length)];rfl;rw[ZaP (by simp;lk),ZaP ⋯];rfl
def U5(hi:Wp (fi δ st) λS st1=>pV S ((List.range N).map (Lj c)) st1/\Ex [] st st1)(hN:N<=60)(hf:∀(k:Nat) (s:Store) (R:D->Store->Prop),R (.int (f k)) s->Wp (ay (Lj c k) (.int j) s) R)(Z:∀s,Ex [] st s->Q (.ref s.length) (s ++ [.lst (((List.range N).map f).map D.int)])):Wp (bQ fi 1 [] (hName 0) bR (ao ay (ag 0) (fC (.int j))) δ st) Q:=by
 refine Zh ((List.range N).map (Lj c)) (λi y _=>y=.int (f i)) (λ_ _ _ _ h _=>h) hi (by rw[Zaa,Zb3];lk) ?_ ?_;intro i d hd s1 k1;rw[Zag]at hd;obtain⟨k,hk,rfl⟩:=Zay.mp hd;have hik:k=i:=by
  have:=(Zab.mp hk);obtain⟨h1,h2⟩:=this;rw[ZcD]at h2;exact h2.symm
 subst hik;k_lt cH;exact hf _ _ _ (cH _ _ ⟨rfl,Ex.refl⟩);intro ys s1 k1 hl hy;have e:ys=((List.range N).map f).map D.int:=by
  refine Zb2 λi=>?_;rw[Zaa,Zb3]at hl;by_cases hi':i<N;rw[Zag,Zag,ZaX hi',Zac ⋯,hy i _ (Zac (by lk:i<ys.length))];rfl;rw[ZaP ⋯,ZaP (by simp;lk)]
 rw[e];exact Z _ k1
def ZbY(F:ae.Full n p c N)(hN:N<=60):Wp (KS [eX c N] st) λd st'=>d=bN (ae.sT c) (ae.tT c)/\Ex [] st st':=by refine ie ?_;intro qR;show Ws (HP [some (eX c N)] st) _ _ _ _;unfold HP;refine c7 ?_;k_lt Z;refine U5 (c:=c) (N:=N) (f:=λk=>((c.2.2.getD k (0,0)).1:Int)) ?_ hN (λk s R h=>UZ.mpr h) λs1 k1=>?_;k_lt hP;exact⟨_,U4 c N,hP _ _ ⟨se _ _,Ex.refl⟩⟩;rw[Zc0 F.ll];w_how;refine U5 (c:=c) (N:=N) (f:=λk=>((c.2.2.getD k (0,0)).2:Int)) ?_ hN (λk s R h=>U0.mpr h) λs2 k2=>?_;k_lt hP;exact⟨_,U4 c N,hP _ _ ⟨se _ _,Ex.refl⟩⟩;rw[Yc0 F.ll];w_how;exact⟨rfl,Z _ _ ⟨rfl,(k1.trans (Ex.cL _)).trans (k2.trans (Ex.cL _))⟩⟩
abbrev qz(b:Bool):Str:=if b=true then "s" else "t"
def ydv(h:qz a=qz b):a=b:=by cases a<;>cases b<;>first|rfl|exact absurd h ∅
abbrev wC(i:Nat)(b:Bool):List Key:=[.inl (i:Int),.inr (qz b)]
def Zdv(h:wC i a=wC j b):i=j/\a=b:=by unfold wC at h;injection h with h1 h2;injection h1 with h1;injection h2 with h2 _;injection h2 with h2;exact⟨by lk,ydv h2⟩
abbrev De(P:List ae.jv)(m:Nat)(kvs:List (List Key×D)):Prop:=kvs.length<=m/\∀i b,mL kvs (wC i b)=(ae.t6 P m i b).map λm=>.int (m:Int)
def De.put{P:List ae.jv}{m:Nat}{kvs:List (List Key×D)}{t:ae.jv}(h:De P m kvs)(ht:P[m]?=some t):De P (m+1) (ow kvs (wC t.1 t.2.1.1) (.int (m:Int))):=by
 refine⟨by have:=ZU kvs (wC t.1 t.2.1.1) (.int (m:Int));have:=h.1;lk,λi b=>?_⟩;rw[ZT];have e:P.getD m (0,(true,1),0)=t:=by rw[Zae,ht];rfl
 unfold ae.t6;rw[e];by_cases c:t.1=i/\t.2.1.1=b;rw[if_pos c,if_pos (by rw[c.1,c.2])];rfl;rw[if_neg c,if_neg λz=>c (Zdv z),h.2]
def IA:Wp (ay (ug t) (.int 0) st) Q↔Q (.int (t.1:Int)) st:=aY
def Ce:Wp (ay (ug t) (.int 1) st) Q↔Q (aZ t.2.1) st:=aY
def U6:Wp (ay (aZ s) (.int 0) st) Q↔Q (.str (qz s.1)) st:=aY
def U7:Wp (ay (aZ s) (.int 1) st) Q↔Q (.int s.2) st:=aY
def YbY(F:ae.Full n p C N)(hN:N<=60):Wp (KU [eX C N] st) λd st'=>∃g kvs,d=.ref g/\st.length<=g/\st'[g]?=some (.qH kvs)/\De (ae.bj C N).2 (ae.bj C N).2.length kvs/\Ex [] st st':=by
 have hP:=OH F (Zad N) hN;refine sS ?_;show Ws (HR [some (eX C N),none,none,none] st) _ _ _ _;unfold HR;refine aQ (bx ?_);exists _,Z,zdt;refine Z _ _ ?_;clear Z;obtain⟨g,s0,eg,es,hg,kx,lg⟩:∃(g:Nat) (s0:Store),st.length=g/\st ++ [O.qH []]=s0/\s0[g]?=some (.qH [])/\Ex [] st s0/\st.length<=g:=⟨_,_,rfl,rfl,h9,Ex.cL _,Zad _⟩;rw[eg,es];clear eg es;have eL:(gi ((ae.bj C N).2.map ug)).length=(ae.bj C N).2.length:=by unfold gi;simp
 refine aQ (m9 (gi ((ae.bj C N).2.map ug)) (λm δ s=>∃(v2 v3:Option D) (kvs:List (List Key×D)),δ=[some (eX C N),some (.ref g),v2,v3]/\s[g]?=some (.qH kvs)/\De (ae.bj C N).2 m kvs/\Ex [] st s) ?_ ⋯ ?_ ?_);k_lt Z;refine aL (U2 F hN) ?_;rintro d s1 ⟨rfl,k1⟩;exact⟨_,rfl,Z _ _ ⟨rfl,_,_,[],rfl,k1.keep _ _ hg (by simp),⟨Zad _,λi b=>rfl⟩,kx.trans k1⟩⟩;rintro m d δ s hd ⟨v2,v3,kvs,rfl,hs,hn,kk⟩;have hm:m<(ae.bj C N).2.length:=by have:=dh hd;lk
 obtain⟨t,ht⟩:∃t,(ae.bj C N).2[m]?=some t:=⟨_,Zac hm⟩;rw[U1 (d:=ug t) (by rw[Zag,ht];rfl)]at hd;cases hd;k_lt Z;refine⟨rfl,Z _ _ (ZR ?_)⟩;clear Z;exists IA,Ce,U6;refine⟨kvs,N2 hs,wC t.1 t.2.1.1,rfl,rfl,kO (by have:=hn.1;lk),?_⟩;exact⟨_,_,⟨rfl,rfl⟩,_,Zah (dh hs),hn.put ht,kk.loc lg⟩;rintro δ s ⟨v2,v3,kvs,rfl,hs,hn,kk⟩;rw[eL]at hn;refine c7 ?_;k_lt Z;exact Z _ _ ⟨g,kvs,rfl,by lk,hs,hn,kk⟩
def NP{α:Type}(x:α):∀m:Nat,(List.replicate m [x]).flatten=List.replicate m x
 |0=>rfl
 |m+1=>by rw[ZaN,ZaN,Zbj,NP x m];rfl
def xbY{st:Store}{w:List b7}(hl:w.length<=1000)(hc:ae.cst w<=50000):Wp (HV [wD w] st) λd st'=>∃g,d=.ref g/\st.length<=g/\st'[g]?=some (.lst ((ae.nO w).map aZ))/\Ex [] st st':=by
 refine sS ?_;show Ws (HU [some (wD w),none,none,none] st) _ _ _ _;unfold HU;refine aQ (bx ?_);k_lt Z;refine⟨rfl,Z _ _ ?_⟩;clear Z;obtain⟨g,s0,eg,es,hg,kx,lg⟩:∃(g:Nat) (s0:Store),st.length=g/\st ++ [O.lst []]=s0/\s0[g]?=some (.lst ((ae.nO (w.take 0)).map aZ))/\Ex [] st s0/\st.length<=g:=⟨_,_,rfl,rfl,h9,Ex.cL _,Zad _⟩;rw[eg,es];clear eg es;refine aQ (m9 (w.map aZ) (λi δ s=>∃v2 v3:Option D,δ=[some (wD w),some (.ref g),v2,v3]/\s[g]?=some (.lst ((ae.nO (w.take i)).map aZ))/\Ex [] st s) ?_ (by rw[Zaa];lk) ?_ ?_);k_lt Z;exact⟨_,rfl,Z _ _ ⟨rfl,_,_,rfl,hg,kx⟩⟩;rintro i d δ s hd ⟨v2,v3,rfl,hs,kk⟩;rw[Zag]at hd;obtain⟨a,ha,rfl⟩:=Zay.mp hd;have hil:=(Zab.mp ha).1;have et:w.take (i+1)=w.take i ++ [a]:=by rw[Za7,ha];rfl
 have hcs:ae.cst (w.take (i+1))<=50000:=by
  refine Zap ?_ hc;have:=ae.J8 (w.take (i+1)) (w.drop (i+1));rw[List.take_append_drop]at this;lk
 have e0:(ae.nO (w.take i)).length+a.2.natAbs<=50000:=by
  have:=ae.NX (w.take (i+1));rw[et,ae.Tz,Zaf,Zbd,<- et]at this;lk
 have ab:(if a.2<0 then -a.2 else a.2)=(a.2.natAbs:Int):=by split<;>lk
 k_lt Z;refine Z _ _ (aQ (bx ?_));clear Z;have fin:∀q:D->Store->Prop,q (.int (ae.sZ a).2) s->(if decide ((0:Int)<a.2)=true then q (D.int 1) s else q (D.int (-1)) s):=by
  intro q;unfold ae.sZ;by_cases z:0<a.2<;>simp[z]
 exists _,Z,U7;refine fin _ (Z _ _ (pE ?_));clear Z fin;exists _,Z,U6,U7,SR;refine⟨oj (by rw[bz hs];rfl),?_⟩;rw[ab,Zat];have ef:(List.replicate a.2.natAbs [D.tup [D.str (qz a.1),D.int (ae.sZ a).2]]).flatten=(List.replicate a.2.natAbs (ae.sZ a)).map aZ:=by
  rw[List.map_replicate];exact NP _ _
 rw[ef];have hs2:=kN (m:=[O.lst ((List.replicate a.2.natAbs (ae.sZ a)).map aZ)]) (kN (m:=[O.lst [D.tup [D.str (qz a.1),D.int (ae.sZ a).2]]]) hs);refine⟨rfl,rfl,⟨by lk,by lk⟩,kO (by simp;lk),_,kP hs2,kO (by rw[Zaa,Zaa,Zbd];lk),Z _ _ ⟨_,_,rfl,?_,((kk.app _).app _).loc lg⟩⟩;rw[Zah (dh hs2),et,ae.Tz,Zar];rintro δ s ⟨v2,v3,rfl,hs,kk⟩;rw[Zaa,ZaM]at hs;refine c7 ?_;k_lt Z;exact Z _ _ ⟨g,rfl,by lk,hs,kk⟩
abbrev pX(C:ae.CS)(N:Nat)(l:List b7):Nat×List (Nat×Int):=l.foldl (ae.tj C (ae.t6 (ae.bj C N).2 (ae.bj C N).2.length) λi=>(ae.app (ae.inv (ae.sT C)) (i:Int)).toNat) (0,[])
def Lk(C:ae.CS)(N:Nat)(l:List b7)(s:b7):pX C N (l ++ [s])=ae.tj C (ae.t6 (ae.bj C N).2 (ae.bj C N).2.length) (λi=>(ae.app (ae.inv (ae.sT C)) (i:Int)).toNat) (pX C N l) s:=by unfold pX;rw[Za6];rfl
abbrev qA(q:Nat×Int):D:=.tup [.int (q.1:Int),.int q.2]
def IB(F:ae.Full n p C N)(hi:i<N):ae.app (ae.sT C) (i:Int)=(ae.nA C i true:Int):=by
 have hl:i<C.2.2.length:=by rw[F.ll];exact hi
 have e:=de (d:=((0,0):Nat×Nat)) hl;have h2:=rg (xs:=ae.sT C) (i:=(i:Int)) ⋯ (by unfold ae.sT;rw[Zaa];lk);have h3:dM ((ae.sT C).map D.int) (i:Int)=some (D.int ((C.2.2.getD i (0,0)).1:Int)):=by
  unfold ae.sT;rw[ZaC];exact rL (g:=D.int ∘ λl:Nat×Nat=>(l.1:Int)) e
 rw[h3]at h2;injection h2 with h2;injection h2 with h2;exact h2.symm
def OI(F:ae.Full n p C N)(hi:i<N):ae.app (ae.tT C) (i:Int)=(ae.nA C i false:Int):=by
 have hl:i<C.2.2.length:=by rw[F.ll];exact hi
 have e:=de (d:=((0,0):Nat×Nat)) hl;have h2:=rg (xs:=ae.tT C) (i:=(i:Int)) ⋯ (by unfold ae.tT;rw[Zaa];lk);have h3:dM ((ae.tT C).map D.int) (i:Int)=some (D.int ((C.2.2.getD i (0,0)).2:Int)):=by
  unfold ae.tT;rw[ZaC];exact rL (g:=D.int ∘ λl:Nat×Nat=>(l.2:Int)) e
 rw[h3]at h2;injection h2 with h2;injection h2 with h2;exact h2.symm
def OJ(n0:0<n)(F:ae.Full n p C N)(hi:i<N):(ae.app (ae.inv (ae.sT C)) (i:Int)).toNat<N/\ae.nA C (ae.app (ae.inv (ae.sT C)) (i:Int)).toNat true=i/\0<=ae.app (ae.inv (ae.sT C)) (i:Int):=by
 have ts:=F.J3 n0;have ti:=ts.aA;obtain⟨b0,b1⟩:=ti.app (i:=(i:Int)) ⋯ ⋯;have hb:(ae.app (ae.inv (ae.sT C)) (i:Int)).toNat<N:=by lk
 refine⟨hb,?_,b0⟩;have e:=IB F hb;rw[ZaG b0]at e;have:ae.app (ae.sT C) (ae.app (ae.inv (ae.sT C)) (i:Int))=(i:Int):=ts.cJ ⋯ ⋯;lk
def xdv{C:ae.CS}{nm:ae.vK}{bk:Nat->Nat}{x:Nat×List (Nat×Int)}{s:b7}:(ae.tj C nm bk x s).2.length<=x.2.length+1:=by unfold ae.tj;split;dsimp only;split;rw[Zaf];exact Zad _;exact Zb0 _;dsimp only;split;rw[Zaf];exact Zad _;exact Zb0 _
def OL(C:ae.CS)(N:Nat)(l:List b7):∀i,(pX C N (l.take i)).2.length<=i
 |0=>ZaJ _
 |i+1=>by
  have ih:=OL C N l i;cases h:l[i]? with
  |none =>
   have e:l.take (i+1)=l.take i:=by rw[Za7,h];simp
   rw[e];lk
  |some a =>
   have e:l.take (i+1)=l.take i ++ [a]:=by rw[Za7,h];rfl
   rw[e,Lk];have:=xdv (C:=C) (nm:=ae.t6 (ae.bj C N).2 (ae.bj C N).2.length) (bk:=λi=>(ae.app (ae.inv (ae.sT C)) (i:Int)).toNat) (x:=pX C N (l.take i)) (s:=a);lk
def U8(n0:0<n)(F:ae.Full n p C N)(N0:0<N)(l:List b7):∀i,(pX C N (l.take i)).1<N
 |0=>N0
 |i+1=>by
  have ih:=U8 n0 F N0 l i;cases h:l[i]? with
  |none =>
   have e:l.take (i+1)=l.take i:=by rw[Za7,h];simp
   rw[e];exact ih
  |some a =>
   have e:l.take (i+1)=l.take i ++ [a]:=by rw[Za7,h];rfl
   rw[e,Lk];unfold ae.tj;split;exact(OJ n0 F ih).1;exact ae.FG F ih a.1
def U9(tx:ae.Tn n xs)(x0:0<=x)(x1:x<(n:Int))(h:Q (.int (ae.app xs x)) st):Wp (ay (.tup (xs.map D.int)) (.int x) st) Q:=by rw[Nk];exact⟨_,rg x0 (by rw[tx.length];exact x1),h⟩
structure rM where (C:ae.CS)(N:Nat)(dT:D)(l:List b7)(st:Store)(ga gn gp gl:Nat)(kvs:List (List Key×D))
abbrev rM.dl(e:rM)(r:Nat)(v8 v9:Option D):ai:=[some (eX e.C e.N),some e.dT,some (bN (ae.sT e.C) (ae.tT e.C)),some (.ref e.ga),some (.tup ((ae.inv (ae.sT e.C)).map D.int)),some (.ref e.gn),some (.ref e.gp),some (.int (r:Int)),v8,v9]
structure xJ(e:rM)(x:List (Nat×Int))(s:Store):Prop where
 a:s[e.ga]?=some (.dct [(.inr "s",.tup ((ae.sT e.C).map D.int)),(.inr "t",.tup ((ae.tT e.C).map D.int))])
 n:s[e.gn]?=some (.qH e.kvs)
 p:s[e.gp]?=some (.lst (x.map qA))
 l:s[e.gl]?=some (.lst (e.l.map aZ))
 k:Ex [] e.st s
abbrev Cf(e:rM)(x:Nat×List (Nat×Int))(δ:ai)(s:Store):Prop:=∃v8 v9,δ=e.dl x.1 v8 v9/\xJ e x.2 s
structure Ll(e:rM):Prop where
 hN:e.N<=60
 nm:De (ae.bj e.C e.N).2 (ae.bj e.C e.N).2.length e.kvs
 d1:e.gp≠e.ga
 d2:e.gp≠e.gn
 d3:e.gp≠e.gl
 lp:e.st.length<=e.gp
def xJ.put(o:Ll e)(h:xJ e x s):xJ e y (s.set e.gp (.lst (y.map qA))) :=
 ⟨by rw[Zak o.d1];exact h.a,by rw[Zak o.d2];exact h.n,Zah (dh h.p),by rw[Zak o.d3];exact h.l,h.k.loc o.lp⟩
def Xdv{e:rM}{n:Nat}{p:ae.aJ}{r1:Nat}{x2:Nat×List (Nat×Int)}{a:b7}{s:Store}{B:ai->Store->Prop}{R:D->Store->Prop}(n0:0<n)(F:ae.Full n p e.C e.N)(hr1:r1<e.N)(e1:a.2=1->x2.1=ae.nA e.C r1 a.1)(wc:a.2≠1->x2.1=r1)(h:xJ e x2.2 s):
  Ws ((dg (az (ao (iM false) (ag 9) #[1])) (aB (ao ay (nz (ag 3) (ag 8)) (ag 7)) (hName 7)) aK) (e.dl r1 (some (.str (qz a.1))) (some (.int a.2))) s) (Cf e x2) B (Cf e x2) R:=by
 have ts:=F.J3 n0;have tt:=F.ZC n0;unfold rM.dl;refine iP ?_;k_lt Z;refine Z _ _ ⟨λz=>bx ?_,λz=>kM ?_⟩;have z:a.2=1:=by simpa using z
 clear Z;have e1:=e1 z;have fin:Wp (ao ay (nz (ag 3) (ag 8)) (ag 7) (e.dl r1 (some (.str (qz a.1))) (some (.int a.2))) s) λd s1=>d=.int (x2.1:Int)/\s1=s:=by
  unfold rM.dl;rw[e1];cases hb:a.1 with
  |true =>
   exists JU h.a;refine⟨.inr "s",rfl,_,rfl,U9 ts ⋯ ⋯ ?_⟩;exact⟨by rw[IB F hr1],rfl⟩
  |false =>
   exists JU h.a;refine⟨.inr "t",rfl,_,rfl,U9 tt ⋯ ⋯ ?_⟩;exact⟨by rw[OI F hr1],rfl⟩
 refine aL fin ?_;rintro d s1 ⟨rfl,rfl⟩;exact⟨_,_,rfl,h⟩;have z:a.2≠1:=by simpa using z
 exact⟨_,_,by rw[wc z];rfl,h⟩
def Va{e:rM}{n:Nat}{p:ae.aJ}{r1:Nat}{x:List (Nat×Int)}{x2:Nat×List (Nat×Int)}{a:b7}{s:Store}{B:ai->Store->Prop}{R:D->Store->Prop}(n0:0<n)(F:ae.Full n p e.C e.N)(o:Ll e)(hr1:r1<e.N)(lx:x.length<=50000)(e2:x2.2=(match ae.t6 (ae.bj e.C e.N).2 (ae.bj e.C e.N).2.length r1 a.1 with|some m=>x ++ [(m,a.2)]|none=>x))(e1:a.2=1->x2.1=ae.nA e.C r1 a.1)(wc:a.2≠1->x2.1=r1)(h:xJ e x s):
  Ws ((aq (dg (az (si (af (ag 7) (af (ag 8) ah)) 5)) (bu (ju "list" aI (ag 6) (af (aX (af (pd (ag 5) (af (ag 7) (af (ag 8) ah))) (af (ag 9) ah))) ah))) aK)
 (dg (az (ao (iM false) (ag 9) #[1])) (aB (ao ay (nz (ag 3) (ag 8)) (ag 7)) (hName 7)) aK)) (e.dl r1 (some (.str (qz a.1))) (some (.int a.2))) s) (Cf e x2) B (Cf e x2) R:=by
 have hv:=o.nm.2 r1 a.1;have go:∀(s2:Store),xJ e x2.2 s2->Ws ((dg (az (ao (iM false) (ag 9) #[1])) (aB (ao ay (nz (ag 3) (ag 8)) (ag 7)) (hName 7)) aK) (e.dl r1 (some (.str (qz a.1))) (some (.int a.2))) s2) (Cf e x2) B (Cf e x2) R:=λs2 h2=>Xdv n0 F hr1 e1 wc h2;refine aQ (iP ?_);refine bE ?_;intro cM Z;have t:Wp (si (af (ag 7) (af (ag 8) ah)) 5 (e.dl r1 (some (.str (qz a.1))) (some (.int a.2))) s) λd s1=>d=.bl (mL e.kvs (wC r1 a.1)).isSome/\s1=s:=by
  refine BJ ?_;unfold rM.dl;w_how;exact⟨_,N2 h.n,wC r1 a.1,rfl,rfl,rfl⟩
 rw[Nj];refine aL t ?_;rintro d s1 ⟨rfl,rfl⟩;refine⟨_,rfl,Z _ _ ?_⟩;clear Z t;cases hm:ae.t6 (ae.bj e.C e.N).2 (ae.bj e.C e.N).2.length r1 a.1 with
 |none =>
  rw[hm]at hv e2;rw[hv];refine⟨λz=>(nomatch z),λ_=>kM (go _ ?_)⟩;rw[e2];exact h
 |some m =>
  rw[hm]at hv e2;rw[hv];refine⟨λ_=>pE ?_,λz=>(nomatch z)⟩;have t:Wp (pd (ag 5) (af (ag 7) (af (ag 8) ah)) (e.dl r1 (some (.str (qz a.1))) (some (.int a.2))) s1) λd s2=>d=.int (m:Int)/\s2=s1:=by
   refine ZQ ?_;unfold rM.dl;w_how;exact⟨_,N2 h.n,wC r1 a.1,rfl,rfl,_,hv,rfl⟩
  refine bE ?_;intro cM Z;rw[yM];refine AO.mpr ⟨_,rfl,oj (by rw[bz h.p];rfl),?_⟩;rw[uv,R7,uv];refine aL t ?_;rintro d s2 ⟨rfl,rfl⟩;unfold rM.dl;exists kP h.p;refine⟨rfl,kO (by rw[Zaa];lk),Z _ _ (go _ ?_)⟩;have:=h.put o (y:=x ++ [(m,a.2)]);rw[Zar]at this;rw[e2];exact this
def Ci(n0:0<n)(F:ae.Full n p e.C e.N)(o:Ll e)(hl:e.l.length<=50000)(hs:∀s∈e.l,ae.FD s)(hi:Wp (fi (e.dl 0 none none) s0) λS s1=>S=.live e.gl/\xJ e [] s1)
  (fin:∀s v8 v9,xJ e (pX e.C e.N e.l).2 s->Nx (e.dl (pX e.C e.N e.l).1 v8 v9) s) :
  Ws (b9 fi (fW 2 (aO (hName 8) (aO (hName 9) gx))) (aq (dg (az (ao (iM false) (ag 9) (r6 mB #[1]))) (aB (ao ay (ag 4) (ag 7)) (hName 7)) aK)
 (aq (dg (az (si (af (ag 7) (af (ag 8) ah)) 5)) (bu (ju "list" aI (ag 6) (af (aX (af (pd (ag 5) (af (ag 7) (af (ag 8) ah))) (af (ag 9) ah))) ah))) aK)
 (dg (az (ao (iM false) (ag 9) #[1])) (aB (ao ay (nz (ag 3) (ag 8)) (ag 7)) (hName 7)) aK))) (e.dl 0 none none) s0) Nx B Co R:=by
 have N1:0<e.N:=by have:=F.r.few;rw[F.fl]at this;exact this
 have ti:=(F.J3 n0).aA;refine Nl (e.l.map aZ) e.gl (λi δ s=>Cf e (pX e.C e.N (e.l.take i)) δ s) ?_ (by rw[Zaa];lk) ?_ ?_ ?_;refine aL hi ?_;rintro S s1 ⟨rfl,h⟩;exact⟨rfl,_,_,rfl,h⟩;rintro i δ s ⟨v8,v9,rfl,h⟩;exact bz h.l;rintro i d δ s hd ⟨v8,v9,rfl,h⟩;rw[Zag]at hd;obtain⟨a,ha,rfl⟩:=Zay.mp hd;have hil:=(Zab.mp ha).1;have et:e.l.take (i+1)=e.l.take i ++ [a]:=by rw[Za7,ha];rfl
 have hr:=U8 n0 F N1 e.l i;have K5:=OL e.C e.N e.l i;have sa:=hs a (Zaj ha);rw[et,Lk];generalize pX e.C e.N (e.l.take i)=x at hr K5 h ⊢;have Vb:=OJ n0 F hr;unfold rM.dl aZ;k_lt Z;refine⟨rfl,Z _ _ (aQ (iP ?_))⟩;k_lt2 Z;refine Z _ _ ⟨λz=>bx ?_,λz=>kM ?_⟩;have z:a.2=-1:=by simpa using z
 clear Z;w_how;refine⟨_,rg (i:=(x.1:Int)) ⋯ (by rw[ti.length];lk),?_⟩;rw[<- ZaG Vb.2.2];refine Va (a:=a) (x:=x.2) n0 F o Vb.1 ⋯ ?_ ?_ ?_ h;unfold ae.tj;rw[if_pos z,z]<;>rfl;intro z1;lk;intro _;unfold ae.tj;rw[if_pos z];have z:a.2≠-1:=by simpa using z
 have z1:a.2=1:=by
  rcases sa with h|⟨_,h⟩
  exact h;exact absurd h z
 refine Va (a:=a) (x:=x.2) n0 F o hr ⋯ ?_ ?_ ?_ h;unfold ae.tj;rw[if_neg z,z1]<;>rfl;intro _;unfold ae.tj;rw[if_neg z];intro z2;exact absurd z1 z2;rintro δ s ⟨v8,v9,rfl,h⟩;rw[Zaa,ZaM]at h ⊢;exact fin s v8 v9 h
def tu(hT:T.le 1000)(hd:T.a*T.d-T.b*T.c=1):Wp (uy [di T] st) λd st'=>∃w:List b7,d=wD w/\(∀s∈w,ae.bM s)/\w.length<=1000/\ae.av w=T/\ae.cst w<=50000/\Ex [] st st':=by refine aL (UK (M:=1000) (k:=10) ∅ ∅ hT hd) ?_;rintro d s1 ⟨w,rfl,hw,lw,tw,⟨g,u,r,ew,hg,y9,h0,bv⟩,k1⟩;refine⟨w,rfl,λs hs=>(hw s hs).1,by lk,tw,?_,k1⟩;have:=ae.ZM hT hd (λs hs=>(hg s hs).1) (λs hs=>(hg s hs).2) h0 bv;rw[ew,ae.J5];have h2:g.length*1001<=20*1001:=ZbJ _ y9;lk
def XbY(n0:0<n)(F:ae.Full n p (ae.ch n p N) N)(hN:N<=60)(hT:T.le 1000)(hd:T.a*T.d-T.b*T.c=1):Wp (BU [eX (ae.ch n p N) N,di T] st) λd st'=>∃w:List b7,(∀s∈w,ae.bM s)/\ae.av w=T/\ae.cst w<=50000/\d=(if(pX (ae.ch n p N) N (ae.nO w)).1=0 then .tup ((pX (ae.ch n p N) N (ae.nO w)).2.map qA)else .non)/\Ex [] st st':=by
 have ts:=F.J3 n0;generalize hC:ae.ch n p N=C at F ts;refine sS ?_;show Ws (HX [some (eX C N),some (di T),none,none,none,none,none,none,none,none] st) _ _ _ _;unfold HX;refine aQ (bx ?_);k_lt Z;refine aL (ZbY F hN) ?_;rintro d s1 ⟨rfl,k1⟩;refine Z _ _ (aQ (bx ?_));clear Z;exists _,Z,U3,zdv;refine⟨h9,_,rfl,(show 2<=15 by decide),?_⟩;rw[YQ];have em:∀x y:D,o5 [] ([(Sum.inr "s",x),(Sum.inr "t",y)]:List (Key×D))=([(Sum.inr "s",x),(Sum.inr "t",y)]:List (Key×D)):=λx y=>by
  unfold o5;rfl
 refine Z _ _ (aQ (bx ?_));clear Z;rw[em];obtain⟨ga,s2,ea,es,ha,k2,la⟩:∃(ga:Nat) (s2:Store),s1.length=ga/\s1 ++ [O.dct [(Sum.inr "s",D.tup ((ae.sT C).map D.int)),(Sum.inr "t",D.tup ((ae.tT C).map D.int))]]=s2/\s2[ga]?=some (.dct [(Sum.inr "s",D.tup ((ae.sT C).map D.int)),(Sum.inr "t",D.tup ((ae.tT C).map D.int))])/\Ex [] st s2/\st.length<=ga:=⟨_,_,rfl,rfl,h9,k1.app _,k1.len⟩;rw[ea,es];clear ea es em;exists _,Z,U3;refine aL (K4 ts ⋯) ?_;rintro d s3 ⟨rfl,k3⟩;refine Z _ _ (aQ (bx ?_));k_lt2 Z;refine aL (YbY F hN) ?_;rintro d s4 ⟨gn,kvs,rfl,lgn,hn,nm,k4⟩;refine Z _ _ (aQ (bx ?_));k_lt2 Z;refine⟨rfl,Z _ _ (aQ (bx ?_))⟩;clear Z;have lga:ga<s4.length:=dh (k4.keep _ _ (k3.keep _ _ ha (by simp)) (by simp));have acz:gn<s4.length:=dh hn;obtain⟨gp,s5,ep,es,hp,hn5,Iz,k5,lp,gpl⟩:∃(gp:Nat) (s5:Store),s4.length=gp/\s4 ++ [O.lst []]=s5/\s5[gp]?=some (.lst (([]:List (Nat×Int)).map qA))/\s5[gn]?=some (.qH kvs)/\s5[ga]?=some (.dct [(Sum.inr "s",D.tup ((ae.sT C).map D.int)),(Sum.inr "t",D.tup ((ae.tT C).map D.int))])/\Ex [] st s5/\st.length<=gp/\gp<s5.length:=⟨_,_,rfl,rfl,h9,kN hn,kN (k4.keep _ _ (k3.keep _ _ ha (by simp)) (by simp)),((k2.trans k3).trans k4).app _,((k2.trans k3).trans k4).len,by rw[Zaf];exact Zba _⟩;rw[ep,es];have ng:gp≠ga/\gp≠gn:=by lk
 clear ep es;k_lt Z;refine Z _ _ (aQ ?_);clear Z;have hfi:Wp (cS (aD HV (af (aD uy (af (ag 1) ah)) ah)) [some (eX C N),some (di T),some (bN (ae.sT C) (ae.tT C)),some (.ref ga),some (.tup ((ae.inv (ae.sT C)).map D.int)),some (.ref gn),some (.ref gp),some (.int 0),none,none] s5) λS s1=>∃(w:List b7) (gl:Nat),S=.live gl/\s1[gl]?=some (.lst ((ae.nO w).map aZ))/\s5.length<=gl/\(∀s∈w,ae.bM s)/\ae.av w=T/\ae.cst w<=50000/\Ex [] s5 s1:=by
  k_lt Z;refine aL (tu hT hd) ?_;rintro d s6 ⟨w,rfl,pw,lw,tw,cw,k6⟩;refine aL (xbY lw cw) ?_;rintro d s7 ⟨gl,rfl,Vc,hl,k7⟩;exact⟨_,rfl,_,bz hl,Z _ _ ⟨w,gl,rfl,hl,Zap k6.len Vc,pw,tw,cw,k6.trans k7⟩⟩
 obtain⟨S,s6,e6,w,gl,rfl,hl,Vc,pw,tw,cw,k6⟩:=hfi;have o:Ll ⟨C,N,di T,ae.nO w,st,ga,gn,gp,gl,kvs⟩:=⟨hN,nm,ng.1,ng.2,by show gp≠gl;lk,lp⟩;refine Ci (e:=⟨C,N,di T,ae.nO w,st,ga,gn,gp,gl,kvs⟩) n0 F o (by show(ae.nO w).length<=50000;rw[ae.NX];exact cw) (ae.TB pw) ⟨_,s6,e6,rfl,k6.keep _ _ Iz (by simp),k6.keep _ _ hn5 (by simp),k6.keep _ _ hp (by simp),hl,k5.trans k6⟩ ?_;intro s v8 v9 hs;refine c7 ?_;unfold rM.dl;k_lt Z;by_cases z:(pX C N (ae.nO w)).1=0;rw[if_pos (by rw[z];rfl)];refine⟨_,bz hs.p,Z _ _ ⟨w,pw,tw,cw,?_,hs.k⟩⟩;rw[if_pos z];rw[if_neg (by simp;lk)];refine Z _ _ ⟨w,pw,tw,cw,?_,hs.k⟩;rw[if_neg z]
def zbz:Wp (KL [di T] st) λd st'=>d=di T.nW/\Ex [] st st':=by refine sS ?_;show Ws (Hq [some (di T)] st) _ _ _ _;unfold Hq di;refine c7 ?_;k_lt Z;refine⟨_,rfl,_,rfl,Sd.mpr ⟨rfl,Z _ _ ⟨?_,Ex.refl⟩⟩⟩;show D.tup [D.int T.d,D.int (0-T.b),D.int (0-T.c),D.int T.a]=D.tup [D.int T.d,D.int (-T.b),D.int (-T.c),D.int T.a];rw[Int.zero_sub,Int.zero_sub]
def mk_le(n0:0<n)(w:ae.Wh n p)(F:ae.Full n p C N)(hC:C=ae.ch n p N)(pr:∀j,j<N->j<(ae.ch n p j).1.length)(hN:N<=60)(ht:t∈(ae.bj C N).2):(ae.tf C t).le (P2 240):=by
 obtain⟨h1,h2,h3⟩:=(ae.Bw F N (Zad _)).1 t ht;have hp:=ae.yR F ht;have cw:∀k,k<N->ae.cst (C.2.1.getD k [])<=59:=λk hk=>by
  have hl:k<C.2.1.length:=by rw[F.r.wl,F.fl];exact hk
  have e:=de (d:=([]:List b7)) hl;have:=ae.Tq n0 w N pr k (C.2.1.getD k []) (by rw[<- hC];exact e);lk
 have hb:∀{v:List b7},(∀s∈v,ae.bM s)->ae.cst (ae.eV v)<=3*ae.cst v:=λ{v} hv=>ae.BH hv;have c1:=cw t.1 h1;have c2:=cw t.2.2 h3;have c3:=hb (ae.FF F h3);have c4:ae.cst (ae.ux C t)<=240:=by
  unfold ae.ux;rw[ae.J8,ae.J8,ae.tW];have e1:t.2.1.2.natAbs=1:=by rcases h2 with e|e<;>rw[e]<;>rfl
  have c3:ae.cst (ae.eV (C.2.1.getD t.2.2 []))<=3*ae.cst (C.2.1.getD t.2.2 []):=c3;have e0:ae.cst ([]:List b7)=0:=rfl;lk
 exact wB (ae.Tv hp) (wg c4)
def zd{C:ae.CS}{P:List ae.jv}{l:List (Nat×Int)}(hb:∀t∈P,(ae.tf C t).le (P2 240))(hl:∀q∈l,q.1<P.length):∀i,(ae.qo C P (l.take i)).le (P2 (242*i))
 |0=>⟨Zad _,ZaJ _,ZaJ _,Zad _⟩
 |i+1=>by
  have ih:=zd hb hl i;cases h:l[i]? with
  |none =>
   have e:l.take (i+1)=l.take i:=by rw[Za7,h];simp
   rw[e];exact wB ih (wg ⋯)
  |some q =>
   have e:l.take (i+1)=l.take i ++ [q]:=by rw[Za7,h];rfl
   rw[e,ae.FE];have hq:=hl q (Zaj h);have ht:P.getD q.1 (0,(true,1),0)∈P:=by
    rw[Zae,Zac hq];exact Zbl hq
   have h1:(ae.tZ C P q).le (P2 240):=by
    unfold ae.tZ;split;obtain⟨a,b,c,d⟩:=hb _ ht;exact⟨d,by show(-_:Int).natAbs<=_;rw[Zbn];exact b,by show(-_:Int).natAbs<=_;rw[Zbn];exact c,a⟩;exact hb _ ht
   have:=ae.Tr h1 ih;rw[MB,<- va]at this;exact wB this (wg ⋯)
def OM{st:Store}{C:ae.CS}{P:List ae.jv}{l:List (Nat×Int)}{dp:D}(hb:∀t∈P,(ae.tf C t).le (P2 240))(hl:∀q∈l,q.1<P.length/\(q.2=1\/q.2=-1))(hn:l.length<=50000)(hp:dp=.tup (l.map qA)\/∃k:Nat,dp=.ref k/\items st k=some (l.map qA)):Wp (uc [.tup (P.map (uf C)),dp] st) λd st'=>d=di (ae.qo C P l)/\Ex [] st st':=by
 refine sS ?_;show Ws (Hs [some (.tup (P.map (uf C))),some dp,none,none,none] st) _ _ _ _;unfold Hs;refine aQ (bx ?_);k_lt Z;refine⟨rfl,Z _ _ ?_⟩;clear Z;refine aQ (Zj (l.map qA) (λi δ s=>∃v3 v4:Option D,δ=[some (.tup (P.map (uf C))),some dp,some (di (ae.qo C P (l.take i))),v3,v4]/\Ex [] st s) ?_ (by rw[Zaa];lk) ?_ ?_);rcases hp with rfl|⟨k,rfl,hk⟩
 exact ZP (j:=1) rfl ⟨λi δ s hi ⟨_,_,_,ex⟩=>se _ st i s hi ex,_,_,rfl,Ex.refl⟩;exact ZO (j:=1) rfl hk ⟨λi δ s hi ⟨_,_,_,ex⟩=>NC hk i s hi ex,_,_,rfl,Ex.refl⟩;rintro i d δ s hd ⟨v3,v4,rfl,kk⟩;rw[Zag]at hd;obtain⟨q,hq,rfl⟩:=Zay.mp hd;have hil:=(Zab.mp hq).1;have et:l.take (i+1)=l.take i ++ [q]:=by rw[Za7,hq];rfl
 have cl1:=zd hb (λq hq=>(hl q hq).1) (l:=l) i;obtain⟨q1,q2⟩:=hl q (Zaj hq);have ht:P.getD q.1 (0,(true,1),0)∈P:=by
  rw[Zae,Zac q1];exact Zbl q1
 have eP:P[q.1]?=some (P.getD q.1 (0,(true,1),0)):=de q1;have mt:=hb _ ht;have JR:dM (P.map (uf C)) (q.1:Int)=some (di (ae.tf C (P.getD q.1 (0,(true,1),0)))):=rL eP;unfold qA;k_lt Z;refine⟨rfl,Z _ _ (bx ?_)⟩;clear Z;exists _,Z,JR;refine aL (zbz) ?_;rintro d s2 ⟨rfl,k2⟩;have ex:dM [di (ae.tf C (P.getD q.1 (0,(true,1),0))),di (ae.tf C (P.getD q.1 (0,(true,1),0))).nW] (if decide (q.2<0)=true then 1 else 0)=some (di (ae.tZ C P q)):=by
  unfold ae.tZ;by_cases z:q.2<0;rw[if_pos (decide_eq_true z),if_pos z];rfl;rw[if_neg (by simpa using z),if_neg z];rfl
 have h1:(ae.tZ C P q).le (P2 240):=by
  unfold ae.tZ;split;obtain⟨a,b,c,d⟩:=mt;exact⟨d,by show(-_:Int).natAbs<=_;rw[Zbn];exact b,by show(-_:Int).natAbs<=_;rw[Zbn];exact c,a⟩;exact mt
 refine⟨rfl,_,ex,?_⟩;refine aL (ZbL (Ol (k:=242*i+240+1) (M:=P2 (242*i+240)) ⋯ (by have:=Ad (242*i+240);have:=va (242*i+240);lk) (wB h1 (wg ⋯)) (wB cl1 (wg ⋯)))) ?_;rintro d s3 ⟨rfl,k3⟩;rw[<- ae.FE,<- et];exact Z _ _ ⟨_,_,rfl,(kk.trans (k2.trans (Ex.cL _))).trans k3⟩;rintro δ s ⟨v3,v4,rfl,kk⟩;rw[Zaa,ZaM];refine c7 ?_;k_lt Z;exact Z _ _ ⟨rfl,kk⟩
abbrev IC(w:List b7):Nat:=(w.map λs=>if s.1=true then s.2.natAbs else 1).sum
def Vd:∀l:List Nat,(l.map λn:Nat=>(n:Int)).sum=((l.sum:Nat):Int)
 |[]=>rfl
 |n :: l=>by rw[Zaz,List.sum_cons,Vd l,List.sum_cons];lk
def Ve{st:Store}{w:List b7}(hw:∀s∈w,ae.bM s)(hl:w.length<=1000)(hb:∀s∈w,s.2.natAbs<=100000):Wp (BR [wD w] st) λd st'=>d=.int (IC w:Int)/\Ex [] st st':=by
 refine sS ?_;show Ws (Hg [some (wD w)] st) _ _ _ _;unfold Hg;refine c7 ?_;refine bE ?_;intro cM Z;rw[CT,uv];have et:∀b:Bool,decide (qz b=("t" : Str))=!b:=λb=>by cases b<;>decide
 have em:w.map aZ=(w.map λs=>((D.str (qz s.1),D.int s.2):D×D)).map λp=>.tup [p.1,p.2]:=by rw[ZaC];rfl
 refine SS (w.map λs=>((D.str (qz s.1),D.int s.2):D×D)) (λp=>match p with|(.str x,.int k)=>D.int (if x="t" then 1 else(k.natAbs:Int))|_=>.non) ?_ (by rw[Zaa];lk) ?_ ?_;k_lt hP;exact⟨_,rfl,hP _ _ ⟨by rw[<- em];exact se _ _,Ex.refl⟩⟩;intro q hq s1 k1;obtain⟨s,hs,rfl⟩:=Zaw.mp hq;have hb1:=hb s hs;k_lt hP;have ea:(if 0-s.2 > s.2 then 0-s.2 else s.2)=(s.2.natAbs:Int):=by split<;>lk
 rw[ea];refine⟨rfl,D.int (if qz s.1=("t" : Str)then 1 else(s.2.natAbs:Int)),?_,hP _ _ ⟨rfl,Ex.cL _⟩⟩;by_cases z:qz s.1=("t" : Str);rw[if_pos (decide_eq_true z),if_pos z];rfl;rw[if_neg (by simpa using z),if_neg z];rfl;intro s1 k1;have e2:((w.map λs=>((D.str (qz s.1),D.int s.2):D×D)).map λp=>match p with|(.str x,.int k)=>D.int (if x="t" then 1 else(k.natAbs:Int))|_=>.non)=((w.map λs=>if s.1=true then s.2.natAbs else 1).map λn:Nat=>(n:Int)).map D.int:=by
  rw[ZaC,ZaC,ZaC];refine ZaO λs _=>?_;show D.int (if qz s.1=("t" : Str)then 1 else(s.2.natAbs:Int))=D.int (((if s.1=true then s.2.natAbs else 1):Nat):Int);have:=et s.1;cases hb:s.1 with
  |true=>rw[if_neg ∅];rfl
  |false=>rw[if_pos ∅];rfl
 rw[e2];w_how;rw[S5 vG,Vd];exact Z _ _ ⟨rfl,k1.app _⟩
abbrev rm(C:ae.CS)(t:ae.jv):Nat:=1+IC (C.2.1.getD t.1 [])+IC (C.2.1.getD t.2.2 [])
def Vg{n N a i:Nat}(F:ae.Full n p C N)(hN:N<=60)(ht:ae.xA N t)(hx:x.2.length<=130)(ha:s[a]?=some (.lst (x.2.map λt=>.int (rm C t:Int))))
  (Cd:∀(s':Store),s'[a]?=some (.lst ((ae.iJ x t).2.map λt=>.int (rm C t:Int)))->Ex [a] s s'->Nx [some (eX C N),some (.ref a),some (.int ((ae.iJ x t).1:Int)),v3,some (wD (C.2.1.getD t.1 [])),v5,v6,some (.int (t.2.2:Int))] s') :
  Ws ((dg (az (ao (iM false) (ag 7) (ag 2))) (aB (ao cu (ag 2) #[1]) (hName 2)) (bu (ju "list" aI (ag 1) (af (ao cu (ao cu #[1] (aD BR (af (ag 4) ah))) (aD BR (af (ao ay (ao ay (ag 0) (ag 7)) #[1]) ah))) ah)))) [some (eX C N),some (.ref a),some (.int (x.1:Int)),v3,some (wD (C.2.1.getD t.1 [])),v5,v6,some (.int (t.2.2:Int))] s) Nx B Co R:=by
 obtain⟨h1,h2,h3⟩:=ht;obtain⟨a1,a2⟩:=ae.Bx F h1;obtain⟨b1,b2⟩:=ae.Bx F h3;refine iP ?_;k_lt Z;refine Z _ _ ⟨λz=>bx ?_,λz=>pE ?_⟩;have z0:((t.2.2:Nat):Int)=(x.1:Int):=by simpa using z
 have z:t.2.2=x.1:=by lk
 clear Z;w_how;have e:(ae.iJ x t)=(x.1+1,x.2):=by unfold ae.iJ;rw[if_pos z]
 have:=Cd s (by rw[e];exact ha) Ex.refl;rw[e]at this;exact this
 have z:¬t.2.2=x.1:=λe=>by rw[e]at z;simp at z
 k_lt2 Z;refine⟨oj (by rw[bz ha];rfl),?_⟩;refine aL (Ve (w:=C.2.1.getD t.1 []) (λs hs=>(a1 s hs).1) ⋯ (λs hs=>by have:=(a1 s hs).2;lk)) ?_;rintro d s1 ⟨rfl,k1⟩;w_how;rw[Li h3,OG];refine aL (Ve (w:=C.2.1.getD t.2.2 []) (λs hs=>(b1 s hs).1) ⋯ (λs hs=>by have:=(b1 s hs).2;lk)) ?_;rintro d s2 ⟨rfl,k2⟩;have ha2:=(k1.trans k2).keep _ _ ha (by simp);exists kP ha2;have e:(ae.iJ x t)=(x.1,x.2 ++ [t]):=by unfold ae.iJ;rw[if_neg z]
 refine⟨kO (by rw[Zaa];lk),Z _ _ ?_⟩;have e3:(1:Int)+(IC (C.2.1.getD t.1 []):Int)+(IC (C.2.1.getD t.2.2 []):Int)=(rm C t:Int):=by unfold rm;lk
 rw[e3];have:=Cd (s2.set a (.lst (x.2.map (λt=>.int (rm C t:Int)) ++ [.int (rm C t:Int)]))) (by rw[e,Zah (dh ha2),Zar];rfl) ((k1.trans k2).any.put (by simp));rw[e]at this;exact this
def zcO(F:ae.Full n p C N)(hN:N<=60):Wp (Hj [eX C N] st) λd st'=>∃a,d=.ref a/\st.length<=a/\st'[a]?=some (.lst ((ae.bj C N).2.map λt=>.int (rm C t:Int)))/\Ex [] st st':=by
 refine sS ?_;show Ws (Hi [some (eX C N),none,none,none,none,none,none,none] st) _ _ _ _;unfold Hi;refine aQ (bx ?_);k_lt Z;refine⟨rfl,Z _ _ (aQ (bx ?_))⟩;k_lt2 Z;refine Z _ _ ?_;clear Z;obtain⟨a,s0,ea,es,ha,kx⟩:∃(a:Nat) (s0:Store),st.length=a/\st ++ [O.lst []]=s0/\s0[a]?=some (.lst ((ae.bj C 0).2.map λt=>.int (rm C t:Int)))/\Ex [] st s0:=⟨_,_,rfl,rfl,h9,Ex.cL _⟩;rw[ea,es];refine aQ (m9 ((List.range N).map λk=>qy (C.1.getD k ([],[])) (C.2.1.getD k []) (C.2.2.getD k (0,0))) (λi δ s=>∃(v3 v4 v5 v6 v7:Option D),δ=[some (eX C N),some (.ref a),some (.int ((ae.bj C i).1:Int)),v3,v4,v5,v6,v7]/\s[a]?=some (.lst ((ae.bj C i).2.map λt=>.int (rm C t:Int)))/\Ex [] st s) ?_ (by rw[Zaa,Zb3];lk) ?_ ?_);k_lt Z;exact⟨_,rfl,Z _ _ ⟨rfl,_,_,_,_,_,rfl,ha,kx⟩⟩;rintro i d δ s hd ⟨v3,v4,v5,v6,v7,rfl,ha,k⟩;have hi:i<N:=by have:=dh hd;rw[Zaa,Zb3]at this;exact this
 rw[Zag,ZaX hi]at hd;cases hd;dsimp only;have l1:=ae.Fy F hi;have m1:=ae.Bw F i ⋯;have t1:ae.xA N (i,(true,1),(ae.iK C i).1):=⟨hi,.inl rfl,l1.1⟩;have t2:ae.xA N (i,(false,1),(ae.iK C i).2):=⟨hi,.inr rfl,l1.2⟩;have m2:=ae.J1 m1.1 t1;unfold qy;k_lt Z;refine⟨rfl,Z _ _ ?_⟩;clear Z;refine m9 [.int ((ae.iK C i).1:Int),.int ((ae.iK C i).2:Int)] (λj δ s=>∃(v7:Option D),δ=[some (eX C N),some (.ref a),some (.int ((ae.J0 C i j).1:Int)),some (a9 (C.1.getD i ([],[]))),some (wD (C.2.1.getD i [])),some (.int ((ae.iK C i).1:Int)),some (.int ((ae.iK C i).2:Int)),v7]/\s[a]?=some (.lst ((ae.J0 C i j).2.map λt=>.int (rm C t:Int)))/\Ex [] st s) ?_ (show 2<100000 by decide) ?_ ?_;k_lt Z;exact⟨rfl,Z _ _ ⟨rfl,_,rfl,ha,k⟩⟩;rintro j d δ s' hd ⟨v7,rfl,ha',k'⟩;rcases j with _|_|j
 cases hd;k_lt Z;refine Z _ _ ?_;exact Vg (i:=i) (x:=ae.bj C i) (t:=(i,(true,1),(ae.iK C i).1)) F hN t1 ⋯ ha' λs2 ha2 k2=>⟨_,rfl,ha2,k'.drop k2 ⋯⟩;cases hd;k_lt Z;refine Z _ _ ?_;exact Vg (i:=i) (x:=ae.iJ (ae.bj C i) (i,(true,1),(ae.iK C i).1)) (t:=(i,(false,1),(ae.iK C i).2)) F hN t2 (by have:=m2.2;lk) ha' λs2 ha2 k2=>⟨_,rfl,ha2,k'.drop k2 ⋯⟩;exact absurd hd (by simp);rintro δ s' ⟨v7,rfl,ha',k'⟩;exact⟨_,_,_,_,_,rfl,ha',k'⟩;rintro δ s ⟨v3,v4,v5,v6,v7,rfl,ha,k⟩;rw[Zaa,Zb3]at ha;refine c7 ?_;k_lt Z;exact Z _ _ ⟨a,rfl,by lk,ha,k⟩
def Vh{N:Nat}(C:ae.CS):∀i,(ae.bj C i).1+(ae.bj C i).2.length=2*i+1
 |0=>rfl
 |i+1=>by
  have ih:=Vh (N:=N) C i;have st:∀(x:Nat×List ae.jv) (t:ae.jv),(ae.iJ x t).1+(ae.iJ x t).2.length=x.1+x.2.length+1:=λx t=>by
   unfold ae.iJ;split;show x.1+1+x.2.length=_;lk;show x.1+(x.2 ++ [t]).length=_;rw[Zaf];show x.1+(x.2.length+1)=_;lk
  show(ae.iJ (ae.iJ (ae.bj C i) _) _).1+(ae.iJ (ae.iJ (ae.bj C i) _) _).2.length=_;rw[st,st];lk
def Vi{n N:Nat}{p:ae.aJ}(n0:0<n)(w:ae.Wh n p)(F:ae.Full n p (ae.ch n p N) N)(pr:∀j,j<N->j<(ae.ch n p j).1.length){l:List b7}(hs:∀s∈l,ae.FD s):∀i,(pX (ae.ch n p N) N (l.take i)).1<N/\(∀q∈(pX (ae.ch n p N) N (l.take i)).2,q.1<(ae.bj (ae.ch n p N) N).2.length/\(q.2=1\/q.2=-1))/\(ae.pF (ae.ch n p N) (pX (ae.ch n p N) N (l.take i)).1).mul (ae.qo (ae.ch n p N) (ae.bj (ae.ch n p N) N).2 (pX (ae.ch n p N) N (l.take i)).2)=ae.av (l.take i)
 |0=>by
  have N1:0<N:=by have:=F.r.few;rw[F.fl]at this;exact this
  refine⟨N1,(λq hq=>nomatch hq),?_⟩;show(ae.pF (ae.ch n p N) 0).mul ae.T4.one=ae.T4.one;rw[ae.TL];rfl
 |i+1=>by
  obtain⟨h1,h2,h3⟩:=Vi n0 w F pr hs i;cases h:l[i]? with
  |none =>
   have e:l.take (i+1)=l.take i:=by rw[Za7,h];simp
   rw[e];exact⟨h1,h2,h3⟩
  |some a =>
   have e:l.take (i+1)=l.take i ++ [a]:=by rw[Za7,h];rfl
   rw[e,Lk];exact ae.BE n0 w F pr (ae.BF _ _) (λi hi=>let b:=OJ n0 F hi;⟨b.1,b.2.1⟩) h1 (hs a (Zaj h)) h2 h3
def zdw{n N:Nat}{p:ae.aJ}(n0:0<n)(w0:ae.Wh n p)(F:ae.Full n p (ae.ch n p N) N)(pr:∀j,j<N->j<(ae.ch n p j).1.length){w u:List b7}(hw:∀s∈w,ae.bM s)(hu:∀s∈u,ae.bM s)(e:ae.av w=ae.av u)(h:ae.aU n (ae.df p u)=ae.aU n p):(pX (ae.ch n p N) N (ae.nO w)).1=0/\(∀q∈(pX (ae.ch n p N) N (ae.nO w)).2,q.1<(ae.bj (ae.ch n p N) N).2.length/\(q.2=1\/q.2=-1))/\ae.qo (ae.ch n p N) (ae.bj (ae.ch n p N) N).2 (pX (ae.ch n p N) N (ae.nO w)).2=ae.av u:=by have hs:=ae.TB hw;obtain⟨h1,h2,h3⟩:=Vi n0 w0 F pr hs (ae.nO w).length;rw[ZaM]at h1 h2 h3;rw[ae.ZG hw,e]at h3;have hr:=(ae.ZK n0 w0 F h1 (λq hq=>(h2 q hq).1) hu h3).mpr h;rw[hr,ae.TL,ae.T4.one_mul]at h3;exact⟨hr,h2,h3⟩
abbrev IE:D->D
 |.int k=>.int (k.natAbs:Int)
 |_=>.non
def ydw{s:Store}{δ:ai}{gp gs:Nat}{T:ae.T4}{l:List (Nat×Int)}{ss:List Int}(h10:δ[10]?=some (some (di T)))(h8:δ[8]?=some (some (.ref gp)))(h5:δ[5]?=some (some (.ref gs)))(hp:s[gp]?=some (.lst (l.map qA)))(hs:s[gs]?=some (.lst (ss.map D.int)))(hl:∀q∈l,q.1<ss.length)(hn:l.length<=100)(hT:l=[]->T=ae.T4.one):
  Wp (wt (az (ao sQ (aD oo (af (bQ (bP (ag 10)) 1 [] (hName 0) bR (aD sf (af (ag 0) ah))) ah)) #[1000])) (az (ao sQ (aD ql (af (bQ (cS (ag 8)) 2 [5] (fW 2 (aO (hName 0) (aO (hName 1) gx))) bR (ao bO (ag 2) (ag 0))) ah)) #[60])) δ s) λb s'=>(b=false->T.le 1000)/\(l=[]->b=false)/\Ex [] s s':=by
 refine bE ?_;intro cM Z;rw[yJ,Nj,Nh,CT,uv];refine vH [.int T.a,.int T.b,.int T.c,.int T.d] IE ?_ (by simp) ?_ ?_;rw[Np,AO];exact⟨_,h10,_,rfl,se _ _,Ex.refl⟩;intro d hd s1 k1;obtain⟨k,rfl⟩:∃k:Int,d=.int k:=by
  simp only[ZaF,Zcs,or_false]at hd;rcases hd with rfl|rfl|rfl|rfl<;>exact⟨_,rfl⟩
 exists _,hP,SR;refine hP _ _ ⟨?_,Ex.refl⟩;show D.int _=D.int _
 congr 1
 split<;>lk;intro s1 k1;have em:List.map IE [D.int T.a,D.int T.b,D.int T.c,D.int T.d]=[(T.a.natAbs:Int),(T.b.natAbs:Int),(T.c.natAbs:Int),(T.d.natAbs:Int)].map D.int:=rfl;rw[em];have hp1:=kN (m:=[O.lst ([(T.a.natAbs:Int),(T.b.natAbs:Int),(T.c.natAbs:Int),(T.d.natAbs:Int)].map D.int)]) (k1.keep _ _ hp (by simp));have hs1:=kN (m:=[O.lst ([(T.a.natAbs:Int),(T.b.natAbs:Int),(T.c.natAbs:Int),(T.d.natAbs:Int)].map D.int)]) (k1.keep _ _ hs (by simp));have hi1:items (s1 ++ [O.lst ([(T.a.natAbs:Int),(T.b.natAbs:Int),(T.c.natAbs:Int),(T.d.natAbs:Int)].map D.int)]) s1.length=some ([(T.a.natAbs:Int),(T.b.natAbs:Int),(T.c.natAbs:Int),(T.d.natAbs:Int)].map D.int):=vG;have k2:Ex [] s (s1 ++ [O.lst ([(T.a.natAbs:Int),(T.b.natAbs:Int),(T.c.natAbs:Int),(T.d.natAbs:Int)].map D.int)]):=k1.app _;generalize s1 ++ [O.lst ([(T.a.natAbs:Int),(T.b.natAbs:Int),(T.c.natAbs:Int),(T.d.natAbs:Int)].map D.int)]=s2 at hp1 hs1 hi1 k2 ⊢;obtain⟨m,hm,Lm,wm⟩:=Zq hi1 (by simp);rw[Ni,wm];w_how;have Jv:m<=1000->T.le 1000:=λh=>⟨by have:=Lm (T.a.natAbs:Int) (by simp);lk,by have:=Lm (T.b.natAbs:Int) (by simp);lk,by have:=Lm (T.c.natAbs:Int) (by simp);lk,by have:=Lm (T.d.natAbs:Int) (by simp);lk⟩;have OO:l=[]->m<=1000:=λh=>by
  rw[hT h]at hm;simp[ae.T4.one]at hm;lk
 by_cases z:(1000:Int)<m;rw[if_pos (decide_eq_true z)];exact Z _ _ ⟨λh=>(nomatch h),λh=>absurd (OO h) ⋯,k2⟩;rw[if_neg (by simpa using z)];have eq1:l.map qA=(l.map λq=>((D.int (q.1:Int),D.int q.2):D×D)).map λp=>.tup [p.1,p.2]:=by rw[ZaC];rfl
 refine SS (l.map λq=>((D.int (q.1:Int),D.int q.2):D×D)) (λp=>match p.1 with|.int i=>.int (ss.getD i.toNat 0)|_=>.non) ?_ (by rw[Zaa];lk) ?_ ?_;rw[Nq,AO];exact⟨_,h8,_,_,rfl,bz hp1,by rw[<- eq1];exact NC (bz hp1),Ex.refl⟩;intro q hq s3 k3;obtain⟨x,hx,rfl⟩:=Zaw.mp hq;have hxl:=hl x hx;have hs3:=k3.keep _ _ hs1 (by simp);have h5':δ.getD 5 none=some (.ref gs):=by rw[Zae,h5];rfl
 have ha:dM (ss.map D.int) (x.1:Int)=some (.int (ss.getD x.1 0)):=rL (g:=D.int) (de hxl);exists _,hP,Zaz,ZaT,h5',bz hs3,ha;exact hP _ _ ⟨rfl,Ex.refl⟩;intro s3 k3;have e2:((l.map λq=>((D.int (q.1:Int),D.int q.2):D×D)).map λp=>match p.1 with|.int i=>D.int (ss.getD i.toNat 0)|_=>.non)=(l.map λq=>ss.getD q.1 0).map D.int:=by
  rw[ZaC,ZaC];rfl
 rw[e2,S5 vG];w_how;refine Z _ _ ⟨λ_=>Jv ⋯,λh=>?_,k2.trans (k3.trans (Ex.cL _))⟩;rw[h];rfl
def ze(C:ae.CS)(N:Nat):pU 5 (eX C N):=λd hd=>by
 obtain⟨k,_,rfl⟩:=Zaw.mp hd;show∀d∈[a9 (C.1.getD k ([],[])),wD (C.2.1.getD k []),D.int ((C.2.2.getD k (0,0)).1:Int),D.int ((C.2.2.getD k (0,0)).2:Int)],pU 3 d;intro d hd;simp only[ZaF,Zcs,or_false]at hd;rcases hd with rfl|rfl|rfl|rfl
 exact NJ 1 _ _;exactλd hd=>by obtain⟨x,_,rfl⟩:=Zaw.mp hd;exact yO 1 x
 exact True.intro;exact True.intro
def Vj{st:Store}{Q:D->Store->Prop}{neg:Bool}{p q:ae.aJ}:Wp (eJ neg (a9 p) (a9 q) st) Q↔Q (.bl (if neg then !decide (p=q)else decide (p=q))) st:=by show Wp (eJ neg (bN p.1 p.2) (bN q.1 q.2) st) Q↔_;rw[SK,decide_eq_decide.mpr (zc (p:=p) (q:=q))]
def IF(q:Q (.bl false) st):Wp (eJ true (di T) (di T) st) Q:=by have pu:pU 1 (di T):=NI 0 [T.a,T.b,T.c,T.d];refine(SU (n:=1) pu pu ∅).mpr ?_;rw[if_pos rfl,@decide_eq_true _ (_) (rfl:di T=di T)];exact q
def Cj(n0:0<n)(n6:n<=6)(w0:ae.Wh n p)(F:ae.Full n p (ae.ch n p N) N)(pr:∀j,j<N->j<(ae.ch n p j).1.length)(hN:N<=30)(hl:∀q∈l,q.1<(ae.bj (ae.ch n p N) N).2.length)(hT:(ae.qo (ae.ch n p N) (ae.bj (ae.ch n p N) N).2 l).le 1000)
  (fin:∀s',Ex [] s s'->Nx [some d0,some (a9 p),some (eX (ae.ch n p N) N),some (eX (ae.ch n p N) N),some (.tup ((ae.bj (ae.ch n p N) N).2.map (uf (ae.ch n p N)))),some (.ref gs),some d6,some d7,some (.ref gp),v9,some (di (ae.qo (ae.ch n p N) (ae.bj (ae.ch n p N) N).2 l))] s') :
  Ws ((aq (dg (wt (az (ao (tQ true) (aD BS (af (ag 1) (af (ag 10) ah))) (fC (.bl true)))) (az (ao (eJ true) (aD xE (af (ag 1) (af (ag 10) ah))) (ao ay (ao ay (ag 2) #[0]) #[0])))) (aN (fC (.bl false))) aK)
 (aq (dg (az (ao (eJ true) (aD uc (af (ag 4) (af (aD BU (af (ag 3) (af (ag 10) ah))) ah))) (ag 10))) (aN (fC (.bl false))) aK)
 (dg (az (ao (eJ true) (aD vQ (af (aD BV (af (ag 1) (af (aD uy (af (ag 10) ah)) ah))) ah)) (ao ay (ao ay (ag 2) #[0]) #[0]))) (aN (fC (.bl false))) aK)))
   [some d0,some (a9 p),some (eX (ae.ch n p N) N),some (eX (ae.ch n p N) N),some (.tup ((ae.bj (ae.ch n p N) N).2.map (uf (ae.ch n p N)))),some (.ref gs),some d6,some d7,some (.ref gp),v9,some (di (ae.qo (ae.ch n p N) (ae.bj (ae.ch n p N) N).2 l))] s) Nx B Co R:=by
 obtain⟨u,hu,eu,hm⟩:=ae.TK n0 w0 F hl;have N1:0<N:=by have:=F.r.few;rw[F.fl]at this;exact this
 rw[<- eu]at hT fin ⊢;have hd:=ae.xh hu;have e0:(ae.ch n p N).1.getD 0 ([],[])=ae.aU n p:=by rw[Zae,F.r.hd];rfl
 have IG:∀{st:Store} {Q:D->Store->Prop},Q (a9 (ae.aU n p)) st->Wp (ay (eX (ae.ch n p N) N) (.int 0) st) λa st1=>Wp (ay a (.int 0) st1) Q:=λ{st Q} q=>by
  have:=(Li (st:=st) (C:=ae.ch n p N) (N:=N) (g:=0) N1 (Q:=λa st1=>Wp (ay a (.int 0) st1) Q)).mpr ?_
  exact this;rw[e0];exact aY.mpr q
 refine aQ (iP ?_);k_lt Z;refine aL (Xcp (w:=u) w0 n0 ⋯ hu (wB hT ∅)) ?_;rintro d s1 ⟨rfl,k1⟩;rw[decide_eq_true hm,Bq];refine⟨_,rfl,?_⟩;rw[if_neg ∅];show Wp (xE [bN p.1 p.2,di (ae.av u)] s1) _;refine aL (UP (w:=u) (xH w0) n0 ⋯ (M:=1000) (k:=10) ∅ ∅ hu hT) ?_;rintro d s2 ⟨rfl,k2⟩;have ef:bN (ae.aU n (ae.df (p.1,p.2) u)).1 (ae.aU n (ae.df (p.1,p.2) u)).2=a9 (ae.aU n p):=by show a9 (ae.aU n (ae.df p u))=_;rw[hm]
 rw[ef];refine IG ?_;rw[Vj];refine⟨_,rfl,Z _ _ ⟨λz=>by simp at z,λ_=>kM (aQ (iP ?_))⟩⟩;k_lt2 Z;refine aL (XbY n0 F ⋯ hT hd) ?_;rintro d s3 ⟨w,pw,tw,cw,rfl,k3⟩;obtain⟨r0,rq,rc⟩:=zdw n0 w0 F pr pw hu tw hm;have rl:=OL (ae.ch n p N) N (ae.nO w) (ae.nO w).length;rw[ZaM,ae.NX]at rl;rw[if_pos r0];have mb:∀t∈(ae.bj (ae.ch n p N) N).2,(ae.tf (ae.ch n p N) t).le (P2 240):=λt ht=>mk_le n0 w0 F rfl pr ⋯ ht;refine aL (OM mb rq ⋯ (.inl rfl)) ?_;rintro d s4 ⟨rfl,k4⟩;rw[rc];refine IF ⟨_,rfl,Z _ _ ⟨λz=>(nomatch z),λ_=>kM (iP ?_)⟩⟩;k_lt2 Z;refine aL (tu hT hd) ?_;rintro d s5 ⟨v,rfl,pv,lv,tv,cv,k5⟩;refine aL (Zb7 (p:=p) (w:=v) ⟨w0.v.1,w0.v.2⟩ ⋯ (λs hs=>(pv s hs).1) lv) ?_;rintro d s6 ⟨rfl,k6⟩;rw[UN];have wv:=w0.ld n0 (w:=v);show Wp (vQ [bN (ae.df p v).1 (ae.df p v).2] s6) _;refine aL (Oy (xH wv) n0 ⋯) ?_;rintro d s7 ⟨rfl,k7⟩;have ev:ae.aU n (ae.df p v)=ae.aU n p:=(ae.Ka n0 w0 pv hu tv).trans hm;have ef:bN (ae.aU n ((ae.df p v).1,(ae.df p v).2)).1 (ae.aU n ((ae.df p v).1,(ae.df p v).2)).2=a9 (ae.aU n p):=by show a9 (ae.aU n (ae.df p v))=_;rw[ev]
 rw[ef];refine IG ?_;rw[Vj];refine⟨_,rfl,Z _ _ ⟨λz=>by simp at z,λ_=>kM (fin _ ?_)⟩⟩;exact(((((k1.trans k2).trans k3).trans k4).trans k5).trans k6).trans k7
def Zdw{s:Store}{ns:List Int}{n N gs i m:Nat}{p:ae.aJ}{v7 v8 v9 v10:Option D}{B Co Nx:ai->Store->Prop}{R:D->Store->Prop}(n0:0<n)(n6:n<=6)(w0:ae.Wh n p)(F:ae.Full n p (ae.ch n p N) N)(pr:∀j,j<N->j<(ae.ch n p j).1.length)(hN:N<=30)(hP0:0<(ae.bj (ae.ch n p N) N).2.length)(hi:i<m)(hm:m<=8)(hP:(ae.bj (ae.ch n p N) N).2.length<=120)(mb:∀t∈(ae.bj (ae.ch n p N) N).2,(ae.tf (ae.ch n p N) t).le (P2 240))(Vk:0<gs)(h0:s[0]?=some (.pO (ns.map D.int)))(hg:s[gs]?=some (.lst (((ae.bj (ae.ch n p N) N).2.map λt=>(rm (ae.ch n p N) t:Int)).map D.int)))
  (fin:∀δ s,(∃(v6 v7 v8 v9 v10:Option D),δ=[some (.ref 0),some (a9 p),some (eX (ae.ch n p N) N),some (eX (ae.ch n p N) N),some (.tup ((ae.bj (ae.ch n p N) N).2.map (uf (ae.ch n p N)))),some (.ref gs),v6,v7,v8,v9,v10]/\s[0]?=some (.pO (ns.map D.int))/\s[gs]?=some (.lst (((ae.bj (ae.ch n p N) N).2.map λt=>(rm (ae.ch n p N) t:Int)).map D.int)))->Nx δ s) :
  Ws ((aq (aB (aD xC (af (ag 0) (af (ag 6) ah))) (hName 7))
 (aq (aB (b6 ah) (hName 8))
 (aq (b9 (bW (af (aD qJ (af (ag 7) (af #[3] ah))) ah)) (hName 9) (bu (ju "list" aI (ag 8) (af (aX (af (aD qJ (af (ag 7) (af (aD cK (af (ag 4) ah)) ah))) (af (ao bO (b6 (af #[1] (af (ao ni #[0] #[1]) ah))) (aD qJ (af (ag 7) (af #[2] ah)))) ah))) ah))))
 (aq (aB (aD uc (af (ag 4) (af (ag 8) ah))) (hName 10))
 (aq (fX (wt (az (ao sQ (aD oo (af (bQ (bP (ag 10)) 1 [] (hName 0) bR (aD sf (af (ag 0) ah))) ah)) #[1000])) (az (ao sQ (aD ql (af (bQ (cS (ag 8)) 2 [5] (fW 2 (aO (hName 0) (aO (hName 1) gx))) bR (ao bO (ag 2) (ag 0))) ah)) #[60]))) (aq (bu (tR "list" tU (ag 8)))
 (aB (aD uc (af (ag 4) (af (ag 8) ah))) (hName 10))))
 (aq (dg (wt (az (ao (tQ true) (aD BS (af (ag 1) (af (ag 10) ah))) (fC (.bl true)))) (az (ao (eJ true) (aD xE (af (ag 1) (af (ag 10) ah))) (ao ay (ao ay (ag 2) #[0]) #[0])))) (aN (fC (.bl false))) aK)
 (aq (dg (az (ao (eJ true) (aD uc (af (ag 4) (af (aD BU (af (ag 3) (af (ag 10) ah))) ah))) (ag 10))) (aN (fC (.bl false))) aK)
 (dg (az (ao (eJ true) (aD vQ (af (aD BV (af (ag 1) (af (aD uy (af (ag 10) ah)) ah))) ah)) (ao ay (ao ay (ag 2) #[0]) #[0]))) (aN (fC (.bl false))) aK)))))))) [some (.ref 0),some (a9 p),some (eX (ae.ch n p N) N),some (eX (ae.ch n p N) N),some (.tup ((ae.bj (ae.ch n p N) N).2.map (uf (ae.ch n p N)))),some (.ref gs),some (.int (2+(i:Int))),v7,v8,v9,v10] s) Nx B Co R:=by
 refine aQ (bx ?_);k_lt Z;rw[show(2:Int)+(i:Int)=((2+i:Nat):Int) by lk];refine aL (T8 (a:=0) (ns:=ns) (k:=2+i) (Nn h0) ⋯) ?_;rintro d t1 ⟨rfl,f1,e1⟩;have h01:=e1.keep _ _ h0 (by simp);have uA:=e1.keep _ _ hg (by simp);have Ed:gs<s.length:=dh hg;generalize s.length=f at f1 Ed;have hf1:f<t1.length:=f1.lt;refine Z _ _ (aQ (bx ?_));k_lt2 Z;refine⟨rfl,Z _ _ ?_⟩;clear Z;have h02:=kN (m:=[O.lst []]) h01;have vS:=kN (m:=[O.lst []]) uA;have hp2:(t1 ++ [O.lst []])[t1.length]?=some (.lst []):=h9;have f2:=f1.keep (Ex.cL [O.lst []]);generalize t1 ++ [O.lst []]=t2 at h02 vS hp2 f2 ⊢;generalize t1.length=gp at hp2 hf1 ⊢;obtain⟨_,t3,e3,k,rfl,k0,k3,f3,x3⟩:=xF (n:=3) f2 ∅ ∅;have Ck:=x3.keep _ _ h02 (by simp;lk);have vT:=x3.keep _ _ vS (by simp;lk);have hp3:=x3.keep _ _ hp2 (by simp;lk);refine aQ (m9 (aE 0 k.toNat) (λj δ s=>∃(v9:Option D) (l:List (Nat×Int)),δ=[some (.ref 0),some (a9 p),some (eX (ae.ch n p N) N),some (eX (ae.ch n p N) N),some (.tup ((ae.bj (ae.ch n p N) N).2.map (uf (ae.ch n p N)))),some (.ref gs),some (.int ((2+i:Nat):Int)),some (.ref f),some (.ref gp),v9,v10]/\s[0]?=some (.pO (ns.map D.int))/\s[gs]?=some (.lst (((ae.bj (ae.ch n p N) N).2.map λt=>(rm (ae.ch n p N) t:Int)).map D.int))/\s[gp]?=some (.lst (l.map qA))/\l.length=j/\(∀q∈l,q.1<(ae.bj (ae.ch n p N) N).2.length/\(q.2=1\/q.2=-1))/\bS s f) ?_ (by rw[jH];lk) ?_ ?_);k_lt Z;refine⟨_,_,e3,?_⟩;exact⟨k,rfl,⟨by lk,by lk⟩,Z _ _ ⟨rfl,_,[],rfl,Ck,vT,hp3,rfl,λq hq=>(nomatch hq),f3⟩⟩;clear f1 e1 h01 uA h02 vS hp2 f2 e3 x3 Ck vT hp3 f3 h0 hg;rintro j d δ s ho ⟨v9,l,rfl,h0,hg,hp,el,hl,fs⟩;have hj:=dh ho;rw[jH]at hj;rw[yH hj]at ho;cases ho;k_lt Z;refine Z _ _ (pE ?_);k_lt2 Z;refine⟨oj (by rw[bz hp];rfl),?_⟩;rw[Zaa];refine aL (xF (n:=((ae.bj (ae.ch n p N) N).2.length:Int)) fs ⋯ ⋯) ?_;rintro d s1 ⟨a,rfl,a0,a1,Vl,x1⟩;have h01:=kN (m:=[O.lst [.int 1,.int (-1)]]) (x1.keep _ _ h0 (by simp;lk));have uA:=kN (m:=[O.lst [.int 1,.int (-1)]]) (x1.keep _ _ hg (by simp;lk));have hp1:=kN (m:=[O.lst [.int 1,.int (-1)]]) (x1.keep _ _ hp (by simp;lk));have i1:(s1 ++ [O.lst [.int 1,.int (-1)]])[s1.length]?=some (.lst [.int 1,.int (-1)]):=h9;have Vm:=Vl.keep (Ex.cL [O.lst [.int 1,.int (-1)]]);have hne:s1.length≠f:=by have:=Vl.lt;lk
 have es:((0:Int)-1)=-1:=rfl;rw[es];generalize s1 ++ [O.lst [.int 1,.int (-1)]]=s2 at h01 uA hp1 i1 Vm ⊢;generalize s1.length=r1 at i1 hne ⊢;refine⟨rfl,?_⟩;refine aL (xF (n:=2) Vm ∅ ∅) ?_;rintro d s3 ⟨b,rfl,b0,b2,fs3,x3⟩;have Ck:=x3.keep _ _ h01 (by simp;lk);have vT:=x3.keep _ _ uA (by simp;lk);have hp3:=x3.keep _ _ hp1 (by simp;lk);have i3:=bz (x3.keep _ _ i1 (by simp;exact hne));obtain⟨c,hc,hc1⟩:∃c:Int,dM [D.int 1,D.int (-1)] b=some (.int c)/\(c=1\/c=-1):=by
  rcases(show b=0\/b=1 by lk)with e|e
  rw[e];exact⟨1,SD _ _,.inl rfl⟩;rw[e];exact⟨-1,JR _ _ _,.inr rfl⟩
 exists i3,hc;refine⟨rfl,_,kP hp3,?_⟩;obtain⟨a,rfl⟩:∃a':Nat,a=(a':Int):=⟨a.toNat,by lk⟩;have ep:(l.map qA ++ [D.tup [.int (a:Int),.int c]])=(l ++ [(a,c)]).map qA:=by rw[Zar];rfl
 rw[ep];refine⟨kO (by rw[Zaa];lk),Z _ _ ⟨_,l ++ [(a,c)],rfl,?_,?_,Zah (dh hp3),by rw[Zaf,el];rfl,λq hq=>?_,fs3.ne ⋯⟩⟩;rw[Zak ⋯];exact Ck;rw[Zak ⋯];exact vT;rcases Zax.mp hq with h|h
 exact hl q h;rw[Zav.mp h];exact⟨by show a<_;lk,hc1⟩;clear f1 e1 h01 uA h02 vS hp2 f2 e3 x3 Ck vT hp3 f3 h0 hg;rintro δ s ⟨v9,l,rfl,h0,hg,hp,el,hl,fs⟩;rw[jH]at el;refine aQ (bx ?_);k_lt Z;refine aL (OM mb hl ⋯ (.inr ⟨gp,rfl,bz hp⟩)) ?_;rintro d s1 ⟨rfl,k1⟩;have h01:=k1.keep _ _ h0 (by simp);have uA:=k1.keep _ _ hg (by simp);have hp1:=k1.keep _ _ hp (by simp);refine Z _ _ ?_;clear Z;refine aQ (xt (λm δ s=>∃l:List (Nat×Int),l.length=m/\m<=100/\δ=[some (.ref 0),some (a9 p),some (eX (ae.ch n p N) N),some (eX (ae.ch n p N) N),some (.tup ((ae.bj (ae.ch n p N) N).2.map (uf (ae.ch n p N)))),some (.ref gs),some (.int ((2+i:Nat):Int)),some (.ref f),some (.ref gp),v9,some (di (ae.qo (ae.ch n p N) (ae.bj (ae.ch n p N) N).2 l))]/\s[0]?=some (.pO (ns.map D.int))/\s[gs]?=some (.lst (((ae.bj (ae.ch n p N) N).2.map λt=>(rm (ae.ch n p N) t:Int)).map D.int))/\s[gp]?=some (.lst (l.map qA))/\(∀q∈l,q.1<(ae.bj (ae.ch n p N) N).2.length/\(q.2=1\/q.2=-1))) l.length (Za3 (show l.length<=100 by lk) ∅) ⟨l,rfl,by lk,rfl,h01,uA,hp1,hl⟩ ?_);clear h0 hg hp h01 uA hp1 hl k1 fs el;rintro m δ s ⟨l,el,hm,rfl,h0,hg,hp,hl⟩;refine aL (ydw (ss:=((ae.bj (ae.ch n p N) N).2.map λt=>(rm (ae.ch n p N) t:Int))) rfl rfl rfl hp hg (λq hq=>by rw[Zaa];exact(hl q hq).1) ⋯ (λe=>by rw[e];rfl)) ?_;rintro t s1 ⟨c1,c2,k1⟩;have h01:=k1.keep _ _ h0 (by simp);have uA:=k1.keep _ _ hg (by simp);have hp1:=k1.keep _ _ hp (by simp);refine⟨λht=>?_,λht=>?_⟩;rcases List.eq_nil_or_concat l with e|⟨l',q,e⟩
 rw[c2 e]at ht;cases ht;rw[e,List.concat_eq_append]at hl hp1 el;rw[Zaf]at el;change l'.length+1=m at el;rw[Zar]at hp1;refine aQ (pE ?_);rw[S4,AO];refine⟨_,rfl,oj (by rw[bz hp1];rfl),?_⟩;refine(Td (kP hp1)).mpr ?_;have h02:(s1.set gp (.lst (l'.map qA)))[0]?=some (.pO (ns.map D.int)):=by rw[Zak ⋯];exact h01
 have vS:(s1.set gp (.lst (l'.map qA)))[gs]?=some (.lst (((ae.bj (ae.ch n p N) N).2.map λt=>(rm (ae.ch n p N) t:Int)).map D.int)):=by rw[Zak ⋯];exact uA
 have hp2:(s1.set gp (.lst (l'.map qA)))[gp]?=some (.lst (l'.map qA)):=Zah (dh hp1);generalize s1.set gp (.lst (l'.map qA))=s2 at h02 vS hp2 ⊢;have hl':∀q∈l',q.1<(ae.bj (ae.ch n p N) N).2.length/\(q.2=1\/q.2=-1):=λq hq=>hl q (Zbi _ hq);refine bx ?_;k_lt Z;refine aL (OM mb hl' ⋯ (.inr ⟨gp,rfl,bz hp2⟩)) ?_;rintro d s3 ⟨rfl,k3⟩;exact Z _ _ ⟨l'.length,by lk,l',rfl,by lk,rfl,k3.keep _ _ h02 (by simp),k3.keep _ _ vS (by simp),k3.keep _ _ hp2 (by simp),hl'⟩;exact Cj n0 n6 w0 F pr hN (λq hq=>(hl q hq).1) (c1 ht) λs' k=>fin _ _ ⟨_,_,_,_,_,rfl,k.keep _ _ h01 (by simp),k.keep _ _ uA (by simp)⟩
def vW(ns:List Int)(hns:ns.length<=63):Wp (N8 [.ref 0] [.pO (ns.map D.int)]) λd _=>d=.bl true:=by
 refine ie ?_;intro qR;show Ws (KZ [some (.ref 0),none,none,none,none,none,none,none,none,none,none] [.pO (ns.map D.int)]) _ _ _ _;unfold KZ;have Ln:([O.pO (ns.map D.int)]:Store)[0]?=some (.pO (ns.map D.int)):=rfl;generalize ([O.pO (ns.map D.int)]:Store)=lP at Ln;obtain⟨m,hm,OQ⟩:∃m:Nat,(if(if(ns.length:Int)<9 then(ns.length:Int)else 9) > 5 then(if(ns.length:Int)<9 then(ns.length:Int)else 9)else 5)=(m:Int)+2/\m<=8:=by
  refine⟨((if(if(ns.length:Int)<9 then(ns.length:Int)else 9) > 5 then(if(ns.length:Int)<9 then(ns.length:Int)else 9)else 5)-2).toNat,?_,?_⟩<;>split<;>split<;>lk
 refine aQ (uw ?_);k_lt Z;show Wp (xC [.ref 0,.int ((1:Nat):Int)] lP) _;refine aL (T8 (a:=0) (ns:=ns) (k:=1) (Nn Ln) ⋯) ?_;rintro d s1 ⟨rfl,f1,k1⟩;have h01:=k1.keep _ _ Ln (by simp);have Ed:0<lP.length:=dh Ln;generalize lP.length=f at f1 Ed;show Wp (C1 [.ref f,.int ((30:Nat):Int)] s1) _;refine aL (xb8 (most:=30) f1 ∅ ∅) ?_;rintro d s2 ⟨n,p,N,rfl,w0,n0,n6,F,pr,hN,f2,k2⟩;have h02:=k2.keep _ _ h01 (by simp;lk);refine Z _ _ ?_;k_lt2 Z;refine⟨rfl,Z _ _ (aQ (bx ?_))⟩;k_lt2 Z;show Wp (C4 [a9 p,.int ((60:Nat):Int)] s2) _;refine aL (ybY (most:=60) w0 n0 ⋯ F pr ⋯ ∅) ?_;rintro d s3 ⟨rfl,k3⟩;have Ck:=k3.keep _ _ h02 (by simp);refine Z _ _ (aQ (bx ?_));k_lt2 Z;refine aL (zb9 F ⋯) ?_;rintro d s4 ⟨rfl,k4⟩;have Vn:=k4.keep _ _ Ck (by simp);refine Z _ _ (aQ (bx ?_));k_lt2 Z;refine aL (zcO F ⋯) ?_;rintro d s5 ⟨gs,rfl,lgs,hgs,k5⟩;have Vo:=k5.keep _ _ Vn (by simp);have Vk:0<gs:=by have:=dh Vn;lk
 refine Z _ _ (aQ (iP ?_));clear Z;have OR:=Vh (N:=N) (ae.ch n p N) N;rw[ae.NU n0 w0 F pr N (Zad _),F.fl]at OR;have hP:=OH F (Zad N) ⋯;have mb:∀t∈(ae.bj (ae.ch n p N) N).2,(ae.tf (ae.ch n p N) t).le (P2 240):=λt ht=>mk_le n0 w0 F rfl pr ⋯ ht;exists _,Z,bz hgs;refine(SU (n:=5) (ze _ _) (ze _ _) ∅).mpr ⟨_,rfl,?_⟩;rw[if_pos rfl,@decide_eq_true _ (_) (rfl:eX (ae.ch n p N) N=eX (ae.ch n p N) N),if_neg ∅];refine⟨_,bz hgs,?_⟩;rw[Zaa,Zaa];refine Z _ _ ⟨λz=>by simp at z,λ_=>kM ?_⟩;clear Z
 let lA:IV:=λi δ s=>∃(v6 v7 v8 v9 v10:Option D),δ=[some (.ref 0),some (a9 p),some (eX (ae.ch n p N) N),some (eX (ae.ch n p N) N),some (.tup ((ae.bj (ae.ch n p N) N).2.map (uf (ae.ch n p N)))),some (.ref gs),v6,v7,v8,v9,v10]/\s[0]?=some (.pO (ns.map D.int))/\s[gs]?=some (.lst (((ae.bj (ae.ch n p N) N).2.map λt=>(rm (ae.ch n p N) t:Int)).map D.int))
 refine aQ (m9 (aE 2 m) lA ?_ (by rw[jH];lk) ?_ ?_);exists _,Z,Nn Vo;rw[Zaa,hm];exact⟨2,(m:Int)+2,⟨rfl,rfl⟩,⟨⟨by decide,by decide⟩,by lk,by lk⟩,Z _ _ ⟨by rw[show((m:Int)+2-2).toNat=m by lk],_,_,_,_,_,rfl,Vo,by rw[ZaC];exact hgs⟩⟩;rintro i d δ s hd ⟨v6,v7,v8,v9,v10,rfl,h0,hg⟩;have hi:=dh hd;rw[jH]at hi;rw[yH hi]at hd;cases hd;k_lt Z;refine Z _ _ (Zdw n0 n6 w0 F pr hN ⋯ hi OQ hP mb Vk h0 hg λδ' s' h=>h);rintro δ s ⟨v6,v7,v8,v9,v10,rfl,h0,hg⟩;refine c7 ?_;k_lt Z;exact Z _ _ rfl
def Cm{P:Program}{w:World}{K:Zfr}{mg:Str->Option Value}{base:Heap}(T:Txt mg){cz:V}(bh:p6 K mg "QUARTER_charts" cz (.tup [(.str "t"),(.int 1)])){ip:V}(d4:p6 K mg "QUARTER_words" ip (.tup [(.int 0),(.int (-1)),(.int 1),(.int 0)])){pg:V}(lr:p6 K mg "SHEAR" pg (.tup [(.str "s"),(.int 1)])){lu:V}(fQ:p6 K mg "UNMOVED" lu (.tup [(.int 1),(.int 0),(.int 0),(.int 1)])){j3:Addr}{j4:FuncData}(aP:D10 K mg j3 j4){eZ:Addr}{fe:FuncData}(cD:D11 K mg eZ fe){lQ:Addr}{lR:FuncData}(g5:D12 K mg lQ lR){iR:Addr}{iS:FuncData}(dF:D13 K mg iR iS){dP:Addr}{dQ:FuncData}(cU:D14 K mg dP dQ){j5:Addr}{j6:FuncData}(cq:D15 K mg j5 j6){gy:Addr}{gA:FuncData}(dS:D16 K mg gy gA){ff:Addr}{fg:FuncData}(bI:D17 K mg ff fg){iT:Addr}{iU:FuncData}(fM:D18 K mg iT iU){iX:Addr}{iY:FuncData}(dG:D19 K mg iX iY){lS:Addr}{lU:FuncData}(jR:D20 K mg lS lU){gC:Addr}{gD:FuncData}(aT:D21 K mg gC gD){lW:Addr}{lX:FuncData}(cb:D22 K mg lW lX){gE:Addr}{gG:FuncData}(dU:D23 K mg gE gG){fj:Addr}{fm:FuncData}(dk:D24 K mg fj fm){dz:Addr}{dA:FuncData}(cy:D25 K mg dz dA){dW:Addr}{dX:FuncData}(cW:D26 K mg dW dX){nC:Addr}{nD:FuncData}(bU:D27 K mg nC nD){j7:Addr}{j8:FuncData}(ig:D28 K mg j7 j8){lY:Addr}{lZ:FuncData}(jS:D29 K mg lY lZ){qq:Addr}{qr:FuncData}(pe:D30 K mg qq qr){nE:Addr}{nF:FuncData}(lq:D31 K mg nE nF){ka:Addr}{kb:FuncData}(ik:D32 K mg ka kb){gI:Addr}{gJ:FuncData}(dZ:D33 K mg gI gJ){oI:Addr}{oJ:FuncData}(iZ:D34 K mg oI oJ){oK:Addr}{oM:FuncData}(nH:D35 K mg oK oM){i5:Addr}{i6:FuncData}(fO:D36 K mg i5 i6){ft:Addr}{fu:FuncData}(bJ:D37 K mg ft fu){i9:Addr}{ja:FuncData}(dH:D38 K mg i9 ja){l8:Addr}{l9:FuncData}(eM:vd K mg "chart_of" GZ ["floor","most"] [V.int 60] l8 l9){fw:Addr}{fz:FuncData}(bK:D39 K mg fw fz){qv:Addr}{qw:FuncData}(il:D40 K mg qv qw){jb:Addr}{jc:FuncData}(fR:D41 K mg jb jc){md:Addr}{mf:FuncData}(cf:D42 K mg md mf){kf:Addr}{kg:FuncData}(iq:D43 K mg kf kg){ki:Addr}{kj:FuncData}(cX:D44 K mg ki kj){kl:Addr}{km:FuncData}(iu:D45 K mg kl km){fA:Addr}{fB:FuncData}(cG:D46 K mg fA fB){ko:Addr}{kq:FuncData}(iw:D47 K mg ko kq){ku:Addr}{ky:FuncData}(eN:D48 K mg ku ky){je:Addr}{jf:FuncData}(fS:D49 K mg je jf){gL:Addr}{gM:FuncData}(d5:D50 K mg gL gM){kz:Addr}{kA:FuncData}(dD:D51 K mg kz kA){mh:Addr}{mj:FuncData}(jT:D52 K mg mh mj){oO:Addr}{oP:FuncData}(gP:D53 K mg oO oP){nI:Addr}{nJ:FuncData}(lz:D54 K mg nI nJ){gQ:Addr}{gR:FuncData}(d8:D55 K mg gQ gR){mq:Addr}{mr:FuncData}(jU:D56 K mg mq mr){ji:Addr}{jk:FuncData}(fT:D57 K mg ji jk){nL:Addr}{nM:FuncData}(cY:D58 K mg nL nM){fD:Addr}{fE:FuncData}(bL:D59 K mg fD fE){gU:Addr}{gW:FuncData}(d9:D60 K mg gU gW){fF:Addr}{fG:FuncData}(du:D61 K mg fF fG){eh:Addr}{eo:FuncData}(cZ:D62 K mg eh eo){fI:Addr}{fJ:FuncData}(dw:D63 K mg fI fJ){jm:Addr}{jn:FuncData}(fU:D64 K mg jm jn){mw:Addr}{mx:FuncData}(jV:D65 K mg mw mx){IH:Addr}{II:FuncData}(OS:D66 K mg IH II):G66 P w K mg base IH II:=by have aS:=ZZ (P:=P) (w:=w) (base:=base) aP T;have dj:=Z0 (P:=P) (w:=w) (base:=base) aP aS cD T;have jQ:=Z1 (P:=P) (w:=w) (base:=base) g5 T;have fL:=Z2 (P:=P) (w:=w) (base:=base) aP aS cD dj g5 jQ dF T;have dR:=Z3 (P:=P) (w:=w) (base:=base) cU T;have cV:=Z5 (P:=P) (w:=w) (base:=base) cU dR cq T;have gB:=Z6 (P:=P) (w:=w) (base:=base) dS T;have bX:=Z7 (P:=P) (w:=w) (base:=base) dS gB bI T;have iW:=Z8 (P:=P) (w:=w) (base:=base) fM T;have fN:=Z9 (P:=P) (w:=w) (base:=base) cq cV bI bX fM iW dG T;have lV:=zb5 (P:=P) (w:=w) (base:=base) aP aS dF fL dG fN jR T;have aW:=zbx (P:=P) (w:=w) (base:=base) aT T;have cE:=Zb5 (P:=P) (w:=w) (base:=base) cb T;have gH:=ybx (P:=P) (w:=w) (base:=base) aT aW cb cE dU T;have fq:=Zbs (P:=P) (w:=w) (base:=base) dk T;have dB:=ybh (P:=P) (w:=w) (base:=base) aT aW dk fq cy T;have dY:=Xbj (P:=P) (w:=w) (base:=base) dU gH cy dB cW T;have cc:=yco (P:=P) (w:=w) (base:=base) cW dY bU T;have j9:=ybU (P:=P) (w:=w) (base:=base) ig T;have l6:=Yb5 (P:=P) (w:=w) (base:=base) ig j9 jS T;have qu:=xcY (P:=P) (w:=w) (base:=base) jS l6 pe T;have nG:=Yco (P:=P) (w:=w) (base:=base) cb cE pe qu lq T;have kc:=YbU (P:=P) (w:=w) (base:=base) aT aW ik T;have gK:=Zbx (P:=P) (w:=w) (base:=base) lq nG ik kc dZ T;have ke:=zcL (P:=P) (w:=w) (base:=base) dZ gK iZ T;have oN:=ycL (P:=P) (w:=w) (base:=base) nH T;have i7:=XbJ (P:=P) (w:=w) (base:=base) nH oN fO T;have bY:=ybt (P:=P) (w:=w) (base:=base) fO i7 bJ T;have fP:=zbK (P:=P) (w:=w) (base:=base) bU cc iZ ke bJ bY dH T;have ma:=xb5 (P:=P) (w:=w) (base:=base) bU cc dH fP eM T bh lr;have bZ:=Zbt (P:=P) (w:=w) (base:=base) bK T bh lr;have jw:=zcZ (P:=P) (w:=w) (base:=base) il T;have jd:=ybK (P:=P) (w:=w) (base:=base) il jw fR T d4 fQ;have cF:=Xb5 (P:=P) (w:=w) (base:=base) il jw fR jd cf T fQ;have kh:=XbU (P:=P) (w:=w) (base:=base) iq T;have dC:=ybV (P:=P) (w:=w) (base:=base) iq kh cX T;have kn:=ZbV (P:=P) (w:=w) (base:=base) bK bZ cf cF cX dC iu T;have dn:=zbu (P:=P) (w:=w) (base:=base) cG T;have kr:=YbV (P:=P) (w:=w) (base:=base) cG dn iw T;have iy:=xbV (P:=P) (w:=w) (base:=base) eN T;have jg:=ZbK (P:=P) (w:=w) (base:=base) fS T;have gO:=xbx (P:=P) (w:=w) (base:=base) d5 T;have eO:=XbV (P:=P) (w:=w) (base:=base) fS jg d5 gO dD T;have ml:=yb6 (P:=P) (w:=w) (base:=base) jT T;have jh:=YcL (P:=P) (w:=w) (base:=base) gP T;have nK:=Xco (P:=P) (w:=w) (base:=base) lz T;have gT:=Xbx (P:=P) (w:=w) (base:=base) cf cF jT ml gP jh lz nK d8 T;have mv:=Yb6 (P:=P) (w:=w) (base:=base) jU T;have jl:=xbK (P:=P) (w:=w) (base:=base) gP jh fT T;have dr:=zcp (P:=P) (w:=w) (base:=base) bJ bY il jw cf cF cX dC d8 gT jU mv fT jl cY T;have b5:=Zbu (P:=P) (w:=w) (base:=base) bU cc iZ ke cY dr bL T;have gX:=yby (P:=P) (w:=w) (base:=base) bU cc bL b5 d9 T;have fH:=xbu (P:=P) (w:=w) (base:=base) du T;have eA:=zbk (P:=P) (w:=w) (base:=base) bK bZ cZ T;have fK:=Xbu (P:=P) (w:=w) (base:=base) dw T;have jq:=XbK (P:=P) (w:=w) (base:=base) aT aW cY dr du fH cZ eA dw fK fU T;have my:=xb6 (P:=P) (w:=w) (base:=base) bI bX jV T;have OT:=BW (P:=P) (w:=w) (base:=base) aP aS cq cV jR lV eM ma iu kn iw kr eN iy dD eO cY dr bL b5 d9 gX fU jq jV my OS T;exact OT
end My
open PySem PySem.W PyProof.Rows L2
namespace PySem.W.Fast
abbrev tw11880650400291409807:=0
abbrev tw7974022926478605216:=0
abbrev tw13962878619267443619:=0
abbrev tw17720650214067142635:=0
abbrev tw13344396211938959593:=0
abbrev tw18295529606298511506:=0
abbrev tw6971586472494100735:=0
abbrev tw16620327113757531107:=0
abbrev tw15382749851672333197:=0
abbrev tw742951211068106913:=0
abbrev tw10364035898415901519:=0
abbrev tw11236070540628156784:=0
abbrev tw4775722612737743464:=0
abbrev tw2521604383462046557:=0
abbrev tw12264612754425706384:=0
abbrev tw4631219989576006384:=0
abbrev tw15571712830599108075:=0
abbrev tw3635232680321257422:=0
abbrev tw3644304073415431062:=0
abbrev tw6321467220186102442:=0
abbrev tw8682402137454884291:=0
abbrev tw12300151726252080604:=0
abbrev tw16470325600114509206:=0
abbrev tw7638147587794132751:=0
abbrev tw6169132557358854650:=0
abbrev tw14789393885743510358:=0
abbrev tw3862616983909055256:=0
abbrev tw12748583213606256055:=0
abbrev tw9435263995374632099:=0
abbrev tw824687998012132905:=0
abbrev tw11242961845060264670:=0
abbrev tw11962301904607590690:=0
abbrev tw7893234120347649354:=0
abbrev tw15134556868507463642:=0
abbrev tw9554262766234726189:=0
abbrev tw17420925299725767062:=0
abbrev tw1694034577509886337:=0
abbrev tw15695402307128584699:=0
abbrev tw12046256485590874567:=0
abbrev tw15382875088842220268:=0
abbrev tw85074231980443262:=0
abbrev tw14966559034464783195:=0
abbrev tw647328923036887291:=0
abbrev tw4431873474764760922:=0
abbrev tw1171489344385752744:=0
abbrev tw1368336247730029301:=0
abbrev tw16903413231480764700:=0
abbrev tw12989481705263449480:=0
abbrev tw1739458980606659769:=0
abbrev tw9545724952057480102:=0
abbrev tw12150503079416830424:=0
abbrev tw10617506549302337405:=0
abbrev tw5855474571951405047:=0
abbrev tw14293034082052701768:=0
abbrev tw7023622924760580933:=0
abbrev tw16881913315850686665:=0
abbrev tw13722441067252471317:=0
abbrev tw8909192375540987751:=0
abbrev tw8198561102793848774:=0
abbrev tw3374439919446394824:=0
abbrev tw11612767021984447827:=0
abbrev tw2020519727207543512:=0
abbrev tw13814818979650317693:=0
abbrev tw7722961899065400113:=0
abbrev tw10687762948560419543:=0
abbrev tw6541803252759012568:=0
abbrev tw17031941861950063264:=0
abbrev tw9150826292009891248:=0
abbrev tw16250054011390719003:=0
abbrev tw14434927667797500798:=0
abbrev tw6023178094167700602:=0
abbrev tw11031884638452368220:=0
abbrev tw6876424868649367453:=0
abbrev tw14605862331156638805:=0
abbrev tw12094980904036545628:=0
abbrev tw16720175840052248297:=0
abbrev tw13333893989709570050:=0
abbrev tw13429216830269520783:=0
abbrev tw2076212928778891967:=0
abbrev tw5019998033614776863:=0
abbrev tw9276208895112470892:=0
abbrev tw7354737712290843622:=0
abbrev tw11995681486695714344:=0
abbrev tw12375990353566997389:=0
abbrev tw14317525119156679830:=0
abbrev tw12821858606101555550:=0
abbrev tw17730602111186481310:=0
abbrev tw2683361788891251694:=0
abbrev tw109360762230811713:=0
abbrev tw14344553226506293550:=0
abbrev tw15944552833847747536:=0
abbrev tw12663631173255332538:=0
abbrev tw12110194032880850198:=0
abbrev tw2024121620879215277:=0
abbrev tw6773025245091872880:=0
abbrev tw7873971829816186449:=0
abbrev tw9051084513738906464:=0
abbrev tw17014319483892656678:=0
abbrev tw2134335633375046520:=0
abbrev tw3678067257342223759:=0
abbrev tw9571421484792831372:=0
abbrev tw16785496233238452592:=0
abbrev tw6266526488931710198:=0
abbrev tw9337505370563681793:=0
abbrev tw15033142702830060528:=0
abbrev tw1031534839087005635:=0
abbrev tw16499634399955953098:=0
abbrev tw16810451077064588581:=0
abbrev tw16029413013723878005:=0
abbrev tw9555961906118892034:=0
abbrev tw13028533055953568644:=0
abbrev tw6764600306076050930:=0
abbrev tw8660842015836971991:=0
abbrev tw789484560400447278:=0
abbrev tw9107488563419526660:=0
abbrev tw14618791680222595629:=0
abbrev tw5024629692061387139:=0
abbrev tw580074906341661612:=0
abbrev tw13880030634439396520:=0
abbrev tw9587926511252660189:=0
abbrev tw17962695840817152604:=0
abbrev tw202618900254715498:=0
abbrev tw4342751817886247426:=0
abbrev tw1707685627064522357:=0
abbrev tw15010040580501728617:=0
abbrev tw2579567157340940548:=0
abbrev tw10171850665522307545:=0
abbrev tw9153848390699524029:=0
abbrev tw10332967578296013290:=0
abbrev tw3132172353448702848:=0
abbrev tw13147225552653728994:=0
abbrev tw528330021002967129:=0
abbrev tw15812620187386887579:=0
abbrev tw2684503834662506972:=0
abbrev tw6890837081093947977:=0
abbrev tw1808756016211640695:=0
abbrev tw9584994271020833592:=0
abbrev tw7471638073131941212:=0
abbrev tw13602300973177375931:=0
abbrev tw4570706193199120476:=0
abbrev tw12077771293866295941:=0
abbrev tw17252718119254034502:=0
abbrev tw17286222754017216888:=0
abbrev tw15379753914790534499:=0
abbrev tw1323584709050606821:=0
abbrev tw12380998148109664216:=0
abbrev tw9994021138504426767:=0
abbrev tw9062434775257260005:=0
abbrev tw7330267959289579355:=0
abbrev tw3290109157755720735:=0
abbrev tw10429858814300796028:=0
abbrev tw10487276986637218107:=0
abbrev tw2614725238324151174:=0
abbrev tw15438475177888626451:=0
abbrev tw9268488190334623362:=0
abbrev tw14036184491717162483:=0
abbrev tw5475279466536382751:=0
abbrev tw15053763882425085760:=0
abbrev tw501384763767256868:=0
abbrev tw537715575881094252:=0
abbrev tw16362111497324857816:=0
abbrev tw628493668726910009:=0
abbrev tw11853741958152260211:=0
abbrev tw17381803970548124646:=0
abbrev tw2461189757767997329:=0
abbrev tw9529063734853361986:=0
abbrev tw16111767499632997743:=0
abbrev tw2342454704343792384:=0
abbrev tw3976224851172130415:=0
abbrev tw11240119323664692933:=0
abbrev tw1161524083726382062:=0
abbrev tw8629270979136921931:=0
abbrev tw4523318787280618239:=0
abbrev tw17928777429449228250:=0
abbrev tw6441658998277768419:=0
abbrev tw3158881458508494386:=0
abbrev tw15354638803283425945:=0
abbrev tw9450340021081365515:=0
abbrev tw8382884474550542656:=0
abbrev tw13231050666230011984:=0
abbrev tw8695115816272399318:=0
abbrev tw14064722739104575614:=0
abbrev tw14553800602074806655:=0
abbrev tw12145501048771134522:=0
abbrev tw7639081779950634949:=0
abbrev tw13769583498397443853:=0
abbrev tw8336418085030711790:=0
abbrev tw5760940958553509331:=0
abbrev tw5404354211499967424:=0
abbrev tw10140333018738492118:=0
abbrev tw8932404359258228221:=0
abbrev tw16250059237301549736:=0
abbrev tw1360517062491738056:=0
abbrev tw6579403110000750719:=0
abbrev tw3895721172358618573:=0
abbrev tw18339260398749089714:=0
abbrev tw17552833863251664304:=0
abbrev tw2917138798753213152:=0
abbrev tw16621753769745497085:=0
abbrev tw12348005646498498391:=0
abbrev tw1698278761056411073:=0
abbrev tw12853816206669393333:=0
abbrev tw10131919920706048509:=0
abbrev tw5492596612399956092:=0
abbrev tw727675400455517197:=0
abbrev tw6353749073565643313:=0
abbrev tw13365971010495135138:=0
abbrev tw16226927265437752617:=0
abbrev tw14297989666462357346:=0
abbrev tw2505601231786416495:=0
abbrev tw7370634647373924121:=0
abbrev tw13072791161356060002:=0
abbrev tw3064439485820786793:=0
abbrev tw12168288336603442925:=0
abbrev tw14531540199517559546:=0
abbrev tw16023195119877475432:=0
abbrev tw11901348339249423501:=0
abbrev tw18233964223498978525:=0
abbrev tw14211213875806971996:=0
abbrev tw17330120901893384635:=0
abbrev tw12545956237430382246:=0
abbrev tw17420211082445293014:=0
abbrev tw16030976806494954291:=0
abbrev tw15387309863323842787:=0
abbrev tw8837727253090425001:=0
abbrev tw8709192755603974479:=0
abbrev tw9770025634931249246:=0
abbrev tw12099516475951065723:=0
abbrev tw16606426027699364479:=0
abbrev tw2364248212398595599:=0
abbrev tw12124557543704720393:=0
abbrev tw9594333428017913978:=0
abbrev tw3066727374260896694:=0
abbrev tw15846554570784675481:=0
abbrev tw8635784261705132933:=0
abbrev tw194709926321265309:=0
abbrev tw4677547762138856051:=0
abbrev tw746486274120540330:=0
abbrev tw15374250189654407955:=0
abbrev tw1741150380746304509:=0
abbrev tw10234949116322144452:=0
abbrev tw2708960342991893202:=0
abbrev tw8582847915159854986:=0
abbrev tw2712043414420036950:=0
abbrev tw8700201230360592784:=0
abbrev tw13459816730833860433:=0
abbrev tw11728350947063128904:=0
abbrev tw8525985785161193622:=0
abbrev tw17970014488068810063:=0
abbrev tw2432217436670901805:=0
abbrev tw8828282940950896009:=0
abbrev tw18256274218175047236:=0
abbrev tw4401067029357100118:=0
abbrev tw207924502048858016:=0
abbrev tw8025542819930533345:=0
end PySem.W.Fast
end
open PySem PySem.W PyProof.Rows L2
local macro_rules|`(tactic|x_fa $a $b $c)=>`(tactic|(dsimp only [L2.KOf];refine' eC $a $b (fun _ _ _ _ _ _=>$c (by intros;rfl)) ?a ?l ?c ?k;(case a=>k_is);(case l=>k_is);(case c=>k_is);(case k=>k_is)))
set_option maxRecDepth 100000 in
set_option maxHeartbeats 0 in
theorem PySem.Challenge.cw_shearfloor_k66_whole_group_by_its_makers_holds : PySem.Challenge.rw_shearfloor_k66_whole_group_by_its_makers.Holds := by
 w_on;o_law;k_head;(case hw=>w_witness2)
 k_fill
 refine L2.Wt (l:=PySem.Challenge.rw_shearfloor_k66_whole_group_by_its_makers) (n:=63) (k:=9) (x:="_law_script") (CX:=a6) (sp:=L4.yI) rfl (by decide) rfl ⟨rfl,by decide,by decide,rfl⟩ (fun w h Y=>PySem.W.kIn_of Y) ?F ?S ?C
 case F =>
  intro w mg fa h KX G hmg;have T:My.Txt mg:=by
   refine' ⟨uU KX G ?z0,uU KX G ?z1,uU KX G ?z2,uU KX G ?z3,uU KX G ?z4,uU KX G ?z5,uU KX G ?z6,uU KX G ?z7,uU KX G ?z8,uU KX G ?z9,uU KX G ?z10⟩
   (case z0=>k_is);(case z1=>k_is);(case z2=>k_is);(case z3=>k_is);(case z4=>k_is);(case z5=>k_is);(case z6=>k_is);(case z7=>k_is);(case z8=>k_is);(case z9=>k_is);(case z10=>k_is)
  have eQ:∃v,L4.p6 (L2.KOf KX) mg "QUARTER_charts" v (.tup [(.str "t"),(.int 1)]):=by
   dsimp only [L2.KOf];refine' L4.JV (vs:=[V.str "t",V.int 1]) KX G ?a ?l ?o ?z ?v ?d
   (case a=>k_is);(case l=>k_is);(case o=>rfl);(case z=>decide);(case v=>exact (.cons ⟨_,rfl⟩ (.cons ⟨_,rfl⟩ .nil)));(case d=>exact fun ρ H=>(.cons (.str _) (.cons (.int _) .nil)))
  obtain ⟨_,eQ⟩:=eQ;have fZ:∃v,L4.p6 (L2.KOf KX) mg "QUARTER_words" v (.tup [(.int 0),(.int (-1)),(.int 1),(.int 0)]):=by
   dsimp only [L2.KOf];refine' L4.JV (vs:=[V.int 0,V.int (-1),V.int 1,V.int 0]) KX G ?a ?l ?o ?z ?v ?d
   (case a=>k_is);(case l=>k_is);(case o=>rfl);(case z=>decide);(case v=>exact (.cons ⟨_,rfl⟩ (.cons ⟨_,rfl⟩ (.cons ⟨_,rfl⟩ (.cons ⟨_,rfl⟩ .nil)))));(case d=>exact fun ρ H=>(.cons (.int _) (.cons (.int _) (.cons (.int _) (.cons (.int _) .nil)))))
  obtain ⟨_,fZ⟩:=fZ;have qB:∃v,L4.p6 (L2.KOf KX) mg "SHEAR" v (.tup [(.str "s"),(.int 1)]):=by
   dsimp only [L2.KOf];refine' L4.JV (vs:=[V.str "s",V.int 1]) KX G ?a ?l ?o ?z ?v ?d
   (case a=>k_is);(case l=>k_is);(case o=>rfl);(case z=>decide);(case v=>exact (.cons ⟨_,rfl⟩ (.cons ⟨_,rfl⟩ .nil)));(case d=>exact fun ρ H=>(.cons (.str _) (.cons (.int _) .nil)))
  obtain ⟨_,qB⟩:=qB;have n4:∃v,L4.p6 (L2.KOf KX) mg "UNMOVED" v (.tup [(.int 1),(.int 0),(.int 0),(.int 1)]):=by
   dsimp only [L2.KOf];refine' L4.JV (vs:=[V.int 1,V.int 0,V.int 0,V.int 1]) KX G ?a ?l ?o ?z ?v ?d
   (case a=>k_is);(case l=>k_is);(case o=>rfl);(case z=>decide);(case v=>exact (.cons ⟨_,rfl⟩ (.cons ⟨_,rfl⟩ (.cons ⟨_,rfl⟩ (.cons ⟨_,rfl⟩ .nil)))));(case d=>exact fun ρ H=>(.cons (.int _) (.cons (.int _) (.cons (.int _) (.cons (.int _) .nil)))))
  obtain ⟨_,n4⟩:=n4;obtain⟨_,_,lB⟩:∃f fd,My.D10 (L2.KOf KX) mg f fd:=by x_fa KX G My.nB
  obtain⟨_,_,iz⟩:∃f fd,My.D11 (L2.KOf KX) mg f fd:=by x_fa KX G My.nB
  obtain⟨_,_,mQ⟩:∃f fd,My.D12 (L2.KOf KX) mg f fd:=by x_fa KX G My.ot
  obtain⟨_,_,kC⟩:∃f fd,My.D13 (L2.KOf KX) mg f fd:=by x_fa KX G My.nB
  obtain⟨_,_,f9⟩:∃f fd,My.D14 (L2.KOf KX) mg f fd:=by x_fa KX G My.nB
  obtain⟨_,_,lC⟩:∃f fd,My.D15 (L2.KOf KX) mg f fd:=by x_fa KX G My.ot
  obtain⟨_,_,jy⟩:∃f fd,My.D16 (L2.KOf KX) mg f fd:=by x_fa KX G My.ZX
  obtain⟨_,_,iA⟩:∃f fd,My.D17 (L2.KOf KX) mg f fd:=by x_fa KX G My.nB
  obtain⟨_,_,kD⟩:∃f fd,My.D18 (L2.KOf KX) mg f fd:=by x_fa KX G My.ot
  obtain⟨_,_,kE⟩:∃f fd,My.D19 (L2.KOf KX) mg f fd:=by x_fa KX G My.nB
  obtain⟨_,_,mS⟩:∃f fd,My.D20 (L2.KOf KX) mg f fd:=by x_fa KX G My.nB
  obtain⟨_,_,jz⟩:∃f fd,My.D21 (L2.KOf KX) mg f fd:=by x_fa KX G My.ot
  obtain⟨_,_,mT⟩:∃f fd,My.D22 (L2.KOf KX) mg f fd:=by x_fa KX G My.nB
  obtain⟨_,_,jA⟩:∃f fd,My.D23 (L2.KOf KX) mg f fd:=by x_fa KX G My.nB
  obtain⟨_,_,iB⟩:∃f fd,My.D24 (L2.KOf KX) mg f fd:=by x_fa KX G My.nB
  obtain⟨_,_,eU⟩:∃f fd,My.D25 (L2.KOf KX) mg f fd:=by x_fa KX G My.nB
  obtain⟨_,_,gb⟩:∃f fd,My.D26 (L2.KOf KX) mg f fd:=by x_fa KX G My.nB
  obtain⟨_,_,n5⟩:∃f fd,My.D27 (L2.KOf KX) mg f fd:=by x_fa KX G My.ot
  obtain⟨_,_,lD⟩:∃f fd,My.D28 (L2.KOf KX) mg f fd:=by x_fa KX G My.nB
  obtain⟨_,_,mU⟩:∃f fd,My.D29 (L2.KOf KX) mg f fd:=by x_fa KX G My.ot
  obtain⟨_,_,qC⟩:∃f fd,My.D30 (L2.KOf KX) mg f fd:=by x_fa KX G My.nB
  obtain⟨_,_,n8⟩:∃f fd,My.D31 (L2.KOf KX) mg f fd:=by x_fa KX G My.nB
  obtain⟨_,_,lE⟩:∃f fd,My.D32 (L2.KOf KX) mg f fd:=by x_fa KX G My.ot
  obtain⟨_,_,jB⟩:∃f fd,My.D33 (L2.KOf KX) mg f fd:=by x_fa KX G My.nB
  obtain⟨_,_,ph⟩:∃f fd,My.D34 (L2.KOf KX) mg f fd:=by x_fa KX G My.nB
  obtain⟨_,_,pk⟩:∃f fd,My.D35 (L2.KOf KX) mg f fd:=by x_fa KX G My.nB
  obtain⟨_,_,kF⟩:∃f fd,My.D36 (L2.KOf KX) mg f fd:=by x_fa KX G My.ot
  obtain⟨_,_,iC⟩:∃f fd,My.D37 (L2.KOf KX) mg f fd:=by x_fa KX G My.nB
  obtain⟨_,_,kG⟩:∃f fd,My.D38 (L2.KOf KX) mg f fd:=by x_fa KX G My.ZY
  have mV:∃f fd,vd (L2.KOf KX) mg "chart_of" My.GZ ["floor","most"] [V.int 60] f fd:=by
   dsimp only [L2.KOf];refine' Xi (d:=1) KX G (by decide) (fun _ _ _ _ _ _ _ us ds hl hd=>match us,ds,hl,hd with|[_],[_],_,_=>⟨_,rfl,rfl⟩) (fun _ _ _ _ _ _ _ us ds hl hd=>match us,ds,hl,hd with|[_,_],[_],_,_=>⟨_,rfl,rfl⟩) ?a ?l ?lT ?e ?v ?c ?k
   (case a=>k_is);(case l=>k_is);(case lT=>k_is);(case e=>rfl);(case v=>exact .cons ⟨_,rfl⟩ (.nil));(case c=>k_is);(case k=>k_is)
  obtain ⟨_,_,mV⟩:=mV;obtain⟨_,_,iD⟩:∃f fd,My.D39 (L2.KOf KX) mg f fd:=by x_fa KX G My.ot
  obtain⟨_,_,qD⟩:∃f fd,My.D40 (L2.KOf KX) mg f fd:=by x_fa KX G My.nB
  obtain⟨_,_,kH⟩:∃f fd,My.D41 (L2.KOf KX) mg f fd:=by x_fa KX G My.ot
  obtain⟨_,_,mW⟩:∃f fd,My.D42 (L2.KOf KX) mg f fd:=by x_fa KX G My.ot
  obtain⟨_,_,lF⟩:∃f fd,My.D43 (L2.KOf KX) mg f fd:=by x_fa KX G My.ot
  obtain⟨_,_,lG⟩:∃f fd,My.D44 (L2.KOf KX) mg f fd:=by x_fa KX G My.ot
  obtain⟨_,_,lH⟩:∃f fd,My.D45 (L2.KOf KX) mg f fd:=by x_fa KX G My.ot
  obtain⟨_,_,iE⟩:∃f fd,My.D46 (L2.KOf KX) mg f fd:=by x_fa KX G My.ot
  obtain⟨_,_,lI⟩:∃f fd,My.D47 (L2.KOf KX) mg f fd:=by x_fa KX G My.ot
  obtain⟨_,_,lJ⟩:∃f fd,My.D48 (L2.KOf KX) mg f fd:=by x_fa KX G My.nB
  obtain⟨_,_,kI⟩:∃f fd,My.D49 (L2.KOf KX) mg f fd:=by x_fa KX G My.nB
  obtain⟨_,_,jC⟩:∃f fd,My.D50 (L2.KOf KX) mg f fd:=by x_fa KX G My.ot
  obtain⟨_,_,lK⟩:∃f fd,My.D51 (L2.KOf KX) mg f fd:=by x_fa KX G My.nB
  obtain⟨_,_,mX⟩:∃f fd,My.D52 (L2.KOf KX) mg f fd:=by x_fa KX G My.nB
  obtain⟨_,_,pq⟩:∃f fd,My.D53 (L2.KOf KX) mg f fd:=by x_fa KX G My.ot
  obtain⟨_,_,n9⟩:∃f fd,My.D54 (L2.KOf KX) mg f fd:=by x_fa KX G My.nB
  obtain⟨_,_,jD⟩:∃f fd,My.D55 (L2.KOf KX) mg f fd:=by x_fa KX G My.ot
  obtain⟨_,_,mY⟩:∃f fd,My.D56 (L2.KOf KX) mg f fd:=by x_fa KX G My.ot
  obtain⟨_,_,kJ⟩:∃f fd,My.D57 (L2.KOf KX) mg f fd:=by x_fa KX G My.ot
  obtain⟨_,_,oa⟩:∃f fd,My.D58 (L2.KOf KX) mg f fd:=by x_fa KX G My.ot
  obtain⟨_,_,iF⟩:∃f fd,My.D59 (L2.KOf KX) mg f fd:=by x_fa KX G My.nB
  obtain⟨_,_,jE⟩:∃f fd,My.D60 (L2.KOf KX) mg f fd:=by x_fa KX G My.nB
  obtain⟨_,_,iG⟩:∃f fd,My.D61 (L2.KOf KX) mg f fd:=by x_fa KX G My.ot
  obtain⟨_,_,gf⟩:∃f fd,My.D62 (L2.KOf KX) mg f fd:=by x_fa KX G My.ot
  obtain⟨_,_,iH⟩:∃f fd,My.D63 (L2.KOf KX) mg f fd:=by x_fa KX G My.ot
  obtain⟨_,_,kK⟩:∃f fd,My.D64 (L2.KOf KX) mg f fd:=by x_fa KX G My.nB
  obtain⟨_,_,mZ⟩:∃f fd,My.D65 (L2.KOf KX) mg f fd:=by x_fa KX G My.nB
  obtain⟨_,_,rn⟩:∃f fd,My.D66 (L2.KOf KX) mg f fd:=by x_fa KX G My.ot
  have e0:=hmg.symm.trans rn.m;cases e0;exact ⟨_,rn.wR,fun base _ _=>L4.AL (My.Cm T eQ fZ qB n4 lB iz mQ kC f9 lC jy iA kD kE mS jz mT jA iB eU gb n5 lD mU qC n8 lE jB ph pk kF iC kG mV iD qD kH mW lF lG lH iE lI lJ kI jC lK mX pq n9 jD mY kJ oa iF jE iG gf iH kK mZ rn) fun ns hn=>let ⟨_,st,e,h⟩:=My.vW ns hn;⟨st,h ▸ e⟩⟩
 case S=>exact fun K H a ns hl hO hS=>⟨a,ns,rfl,hS.script hO,hl,fun _=>rfl⟩
 case C=>exact fun _ _ _ _ z=>z
