import PyProof.Rows.All
import Wide.All
import OpenK.AllK
import Wide.FinOn
import Lean
import PyProof.EqAt
import PyProof.EqKinds
import PyProof.TupleCall
import PyProof.DictIter
import PyProof.EnumMake
import KE.KSortTup
import KE.KDictLaws
import KE.KDictSum
import KE.KIsAll
import PyProof.ExcInit
import PyProof.NsDelKeeps
import PyProof.ExcBaseAll.ValueError
import OpenK.KOwn
import PyProof.ExcAttrAll.ValueError
import PyProof.Rows.Range3
import PyProof.StrLawsTight
import KE.KIntText
import PyProof.MinMaxWalk
import PyProof.WalkInts
import PySem.Challenge.RW_shearfloor_k67_whole_carried_crossings
set_option Elab.async false
set_option linter.all false
set_option compiler.extract_closed false
set_option maxRecDepth 100000
set_option maxHeartbeats 4000000
set_option genSizeOf false
set_option bootstrap.genMatcherCode false
noncomputable section
section
local macro_rules|`(command|def $n:declId $s:optDeclSig $v:declVal)=>`(theorem $n:declId $(⟨Lean.mkNode ``Lean.Parser.Command.declSig #[s.raw[0],s.raw[1][0]]⟩):declSig $v:declVal)
local macro_rules|`(command|abbrev $n:declId $s:optDeclSig $v:declVal)=>`(noncomputable def $n:declId $s:optDeclSig $v:declVal)
local macro_rules|`(⋯)=>`(by lk)
local macro_rules|`(∅)=>`(by decide)
local macro_rules|`(tactic|lk)=>`(tactic|first|lia|omega)
abbrev Zaa:=@List.length_map
abbrev Zab:=@Nat.le_refl
abbrev Zac:=@PySem.Heap.get?_push_of_some
abbrev Zad:=@List.getElem?_eq_some_iff
abbrev Zae:=@Int.toNat_natCast
abbrev Zaf:=@List.mem_cons_self
abbrev Zag:=@List.getElem?_set_self
abbrev Zah:=@List.mem_cons_of_mem
abbrev Zai:=@Option.some.inj
abbrev Zaj:=@List.getElem?_map
abbrev Zak:=@List.length_append
abbrev Zal:=@Bool.false_ne_true
abbrev Zam:=@List.getElem?_eq_getElem
abbrev Zan:=@PySem.Heap.get?_push_size
abbrev Zao:=@List.getElem?_set_ne
abbrev Zap:=@List.size_toArray
abbrev Zaq:=@PySem.Heap.lt_size
abbrev Zar:=@List.mem_cons
abbrev Zas:=@List.mem_of_getElem?
abbrev Zat:=@Int.toNat_of_nonneg
abbrev Zau:=@List.getD_eq_getElem?_getD
abbrev Zav:=@List.map_cons
abbrev Zaw:=@Nat.le_trans
abbrev Zax:=@Option.map_eq_some_iff
abbrev Zay:=@List.map_append
abbrev Zaz:=@List.length_cons
abbrev ZaA:=@List.map_map
abbrev ZaB:=@List.getElem?_append_right
abbrev ZaC:=@List.length_singleton
abbrev ZaD:=@List.take_succ_eq_append_getElem
abbrev ZaE:=@List.mem_append
abbrev ZaF:=@Nat.lt_of_lt_of_le
abbrev ZaG:=@List.length_replicate
abbrev ZaH:=@List.getElem?_append_left
abbrev ZaI:=@List.getElem?_eq_none_iff
abbrev ZaJ:=@Bool.and_eq_true
abbrev ZaK:=@List.replicate_succ
abbrev ZaL:=@List.getElem?_eq_none
abbrev ZaM:=@List.mem_singleton
abbrev ZaN:=@List.mem_append_right
abbrev ZaO:=@List.length_reverse
abbrev ZaP:=@List.mem_map
abbrev ZaQ:=@List.flatten_cons
abbrev ZaR:=@List.foldl_append
abbrev ZaS:=@Int.le_refl
abbrev ZaT:=@List.map_congr_left
abbrev ZaU:=@List.length_set
abbrev ZaV:=@List.flatMap_cons
abbrev ZaW:=@List.not_mem_nil
abbrev ZaX:=@Nat.ne_of_lt
abbrev ZaY:=@List.eq_nil_of_length_eq_zero
abbrev ZaZ:=@Nat.zero_le
abbrev Za0:=@List.mem_range
abbrev Za1:=@Nat.lt_of_le_of_lt
abbrev Za2:=@List.length_take
abbrev Za3:=@List.map_nil
abbrev Za4:=@Int.natAbs_neg
abbrev Za5:=@List.mem_filter
abbrev Za6:=@List.append_nil
abbrev Za7:=@Nat.not_lt_zero
abbrev Za8:=@List.take_length
abbrev Za9:=@Int.zero_add
abbrev Zba:=@PySem.Heap.size_push
abbrev Zbb:=@List.reverse_cons
abbrev Zbc:=@List.getD_cons_succ
abbrev Zbd:=@List.getD_cons_zero
abbrev Zbe:=@Option.isSome_iff_exists
abbrev Zbf:=@List.any_cons
abbrev Zbg:=@List.getElem?_replicate
abbrev Zbh:=@List.find?_cons
abbrev Zbi:=@Int.emod_nonneg
abbrev Zbj:=@Nat.mul_le_mul_left
abbrev Zbk:=@Option.bind_some
abbrev Zbl:=@List.Perm.refl
abbrev Zbm:=@List.contains_iff_mem
abbrev Zbo:=@Int.neg_mul
abbrev Zbp:=@List.nodup_cons
abbrev Zbq:=@Nat.mul_le_mul_right
abbrev Zbr:=@List.replicate_succ'
abbrev Zbs:=@Nat.sub_self
abbrev Zbt:=@List.append_assoc
abbrev Zbu:=@Option.bind_eq_some_iff
abbrev Zbv:=@PySem.Heap.SameBut.update
abbrev Zbw:=@List.getElem?_range
abbrev Zbz:=@List.getElem_of_mem
abbrev ZbB:=@List.flatMap_append
abbrev ZbC:=@List.lookup_cons
abbrev ZbD:=@Nat.lt_succ_self
abbrev ZbE:=@Int.natAbs_mul
abbrev ZbF:=@Int.emod_lt_of_pos
abbrev ZbG:=@List.map_set
abbrev ZbH:=@Bool.or_eq_true
abbrev ZbI:=@List.sum_cons
abbrev ZbJ:=@List.ext_getElem?
abbrev ZbK:=@List.length_range
abbrev ZbL:=@List.mem_append_left
abbrev ZbN:=@List.mem_of_mem_take
abbrev ZbO:=@Nat.le_add_right
abbrev ZbP:=@Nat.lt_irrefl
abbrev ZbQ:=@List.length_nil
abbrev ZbR:=@Bool.false_eq_true
abbrev ZbS:=@List.mem_replicate
abbrev ZbT:=@List.nodup_append
abbrev ZbU:=@PySem.Heap.get?_update_self
abbrev ZbV:=@Nat.succ_mul
abbrev ZbW:=@Nat.lt_trans
abbrev Zb0:=@List.getElem_mem
abbrev Zb1:=@List.prefix_refl
abbrev Zb2:=@List.mem_reverse
abbrev Zb3:=@List.map_reverse
abbrev Zb4:=@List.getElem?_of_mem
abbrev Zb5:=@Array.getElem?_eq_some_iff
abbrev Zb6:=@Prod.mk.injEq
abbrev Zb7:=@Array.length_toList
abbrev Zb8:=@List.replicate_zero
abbrev Zca:=@List.pairwise_iff_getElem
abbrev Zcc:=@Nat.le_max_left
abbrev Zcd:=@List.Pairwise.imp_of_mem
abbrev Zce:=@Nat.mul_le_mul
abbrev Zcf:=@Nat.le_mul_of_pos_right
abbrev Zcg:=@List.pairwise_map
abbrev Zch:=@Int.natAbs_add_le
abbrev Zci:=@List.pairwise_lt_range
abbrev Zcj:=@List.take_of_length_le
abbrev Zck:=@Nat.mul_one
abbrev Zcl:=@List.length_drop
abbrev Zcm:=@Nat.le_of_not_lt
abbrev Zcn:=@List.filter_cons
abbrev Zco:=@List.getElem_map
abbrev Zcp:=@Nat.le_max_right
abbrev Zcq:=@Array.getElem?_toList
abbrev Zcs:=@List.Pairwise.sublist
abbrev Zct:=@Nat.le_of_ble_eq_true
abbrev Zcu:=@Nat.le_of_lt
abbrev Zcv:=@Bool.eq_iff_iff
abbrev Zcw:=@List.nil_append
abbrev Zcx:=@Nat.mul_comm
abbrev Zcy:=@List.forIn_cons
abbrev ZcA:=@List.perm_cons_erase
abbrev ZcB:=@List.mem_erase_of_ne
abbrev ZcC:=@Nat.zero_add
abbrev ZcD:=@Nat.mod_lt
abbrev ZcE:=@List.mem_of_mem_drop
abbrev ZcF:=@List.filterMap_cons
abbrev ZcG:=@List.filter_sublist
abbrev ZcH:=@List.reverse_append
abbrev ZcI:=@List.forIn_nil
abbrev ZcJ:=@Nat.mul_add
abbrev ZcK:=@Int.one_mul
abbrev ZcN:=@List.prefix_append
abbrev ZcO:=@Bool.or_false
abbrev ZcP:=@Int.mul_assoc
@[reducible]def Zfr:=PySem.W.Frag
namespace L2
open PySem PySem.Spec PyProof.Rows
@[reducible]def Key:=Sum Int Str
abbrev p7:Key->Value->Bool
 |.inl k,v=>Value.isInt k v
 |.inr x,v=>Value.isStrOf x v
abbrev L0(w:World):Key->Int
 |.inl k=>hashInt k
 |.inr x=>hashStr w x
def wb:∀{k:Key} {v:Value},p7 k v=true->(∃i t,k=Sum.inl i/\v=Value.int i t)\/(∃x t,k=Sum.inr x/\v=Value.str x t)
 |.inl i,v,h=>by
  obtain⟨t,e⟩:=Value.isInt_shape (k:=i) (v:=v) h;exact .inl ⟨i,t,rfl,e⟩
 |.inr x,v,h=>by
  obtain⟨t,e⟩:=Value.isStrOf_shape (x:=x) (v:=v) h;exact .inr ⟨x,t,rfl,e⟩
def Vv(i:Int)(t:Tok):p7 (.inl i) (.int i t)=true:=by simp[p7,Value.isInt]
def Vw(x:Str)(t:Tok):p7 (.inr x) (.str x t)=true:=by simp[p7,Value.isStrOf]
def zh(a b:Int):decide ((Sum.inl a:Key)=Sum.inl b)=(a == b):=by by_cases e:a=b;subst e;simp;have h:¬(Sum.inl a:Key)=Sum.inl b:=λq=>e (Sum.inl.inj q);rw[decide_eq_false h];exact(beq_eq_false_iff_ne.mpr e).symm
def zi(a b:Str):decide ((Sum.inr a:Key)=Sum.inr b)=decide (a=b):=by by_cases e:a=b;subst e;simp;have h:¬(Sum.inr a:Key)=Sum.inr b:=λq=>e (Sum.inr.inj q);rw[decide_eq_false h,decide_eq_false e]
def zj(a:Int)(b:Str):decide ((Sum.inl a:Key)=Sum.inr b)=false:=decide_eq_false (λq=>nomatch q)
def zk(a:Str)(b:Int):decide ((Sum.inr a:Key)=Sum.inl b)=false:=decide_eq_false (λq=>nomatch q)
abbrev cO(prog:Program)(w:World):PySem.KeyKind prog w Key where
 is:=p7
 hash:=L0 w
 inj:=λv a b ha hb=>by
  rcases wb ha with⟨i,t,rfl,rfl⟩|⟨x,t,rfl,rfl⟩
  rcases wb hb with⟨j,u,rfl,e⟩|⟨y,u,rfl,e⟩
  injection e with e1 _;rw[e1];exact nomatch e;rcases wb hb with⟨j,u,rfl,e⟩|⟨y,u,rfl,e⟩
  exact nomatch e;injection e with e1 _;rw[e1]
 byValue:=λk v h=>by
  rcases wb h with⟨i,t,rfl,rfl⟩|⟨x,t,rfl,rfl⟩<;>rfl
 pyHash:=λhv h=>by
  rcases wb hv with⟨i,t,rfl,rfl⟩|⟨x,t,rfl,rfl⟩
  exact wpAny_pyHash_int h;exact wpAny_pyHash_str h
 eqBool:=λhu hv h=>by
  rcases wb hu with⟨i,t,rfl,rfl⟩|⟨x,t,rfl,rfl⟩
  rcases wb hv with⟨j,u,rfl,rfl⟩|⟨y,u,rfl,rfl⟩
  rw[zh]at h;exact wpAny_eqBool_int h;rw[zj]at h;exact SeqAt.EqAt.int_str i t y u _ _ _ _ h;rcases wb hv with⟨j,u,rfl,rfl⟩|⟨y,u,rfl,rfl⟩
  rw[zk]at h;exact SeqAt.EqAt.str_int x t j u _ _ _ _ h;rw[zi]at h;exact wpAny_eqBool_str h
 «strs»:=λk x t v h=>by
  rcases wb h with⟨i,u,rfl,e⟩|⟨y,u,rfl,e⟩
  exact nomatch e;injection e with e1 _;subst e1;cases v<;>rfl
def Vx(prog:Program)(w:World)(i:Int)(t:Tok):(cO prog w).is (.inl i) (.int i t)=true:=Vv i t
def Vy(prog:Program)(w:World)(x:Str)(t:Tok):(cO prog w).is (.inr x) (.str x t)=true:=Vw x t
inductive V where
 |non|bl (b:Bool)|int (i:Int)|str (x:Str)|uE (b:Array UInt8)|L3 (b:UInt64)|ref (a:Addr)|ty (n:String)
 deriving DecidableEq
abbrev RelV:V->Value->Prop
 |.non,u=>u=Value.none
 |.bl b,u=>u=Value.bool b
 |.int i,u=>∃t,u=Value.int i t
 |.str x,u=>∃t,u=Value.str x t
 |.uE b,u=>∃t,u=Value.bytes b t
 |.L3 b,u=>∃t,u=Value.float b t
 |.ref a,u=>u=Value.ref a
 |.ty n,u=>u=Value.type n
@[reducible]def Vals:List V->List Value->Prop:=Paired RelV
def Vals.length{xs:List V}{us:List Value}(r:Vals xs us):xs.length=us.length:=Paired.length r
def Vals.get:∀{xs:List V} {us:List Value} {i:Nat} {x:V},Vals xs us->xs[i]?=some x->∃u,us[i]?=some u/\RelV x u
 |_,_,_,_,.nil,e=>by simp at e
 |_,_,0,_,.cons r _,e=>by simp at e;subst e;exact⟨_,rfl,r⟩
 |_,_,i+1,x,.cons _ t,e=>by
  obtain⟨u,h1,h2⟩:=Vals.get (i:=i) (x:=x) t (by simpa using e);exact⟨u,by simpa using h1,h2⟩
def Vals.set{x:V}{u:Value}(r:RelV x u):∀{xs:List V} {us:List Value} (i:Nat),Vals xs us->Vals (xs.set i x) (us.set i u)
 |_,_,_,.nil=>.nil
 |_,_,0,.cons _ t=>.cons r t
 |_,_,i+1,.cons q t=>.cons q (Vals.set r i t)
def Vals.append:∀{xs ys:List V} {us ws:List Value},Vals xs us->Vals ys ws->Vals (xs ++ ys) (us ++ ws)
 |_,_,_,_,.nil,s=>s
 |_,_,_,_,.cons r t,s=>.cons r (Vals.append t s)
def Vals.take:∀{xs:List V} {us:List Value} (n:Nat),Vals xs us->Vals (xs.take n) (us.take n)
 |_,_,0,_=>.nil
 |_,_,_+1,.nil=>.nil
 |_,_,n+1,.cons r t=>.cons r (Vals.take n t)
def Vals.drop:∀{xs:List V} {us:List Value} (n:Nat),Vals xs us->Vals (xs.drop n) (us.drop n)
 |_,_,0,r=>r
 |_,_,_+1,.nil=>.nil
 |_,_,n+1,.cons _ t=>Vals.drop n t
abbrev pV:Option V->Option Value->Prop
 |some v,some u=>RelV v u
 |none,none=>True
 |_,_=>False
abbrev KV{F:Type}:List (F×V)->List (F×Value)->Prop:=Paired λ(p:F×V) (q:F×Value)=>p.1=q.1/\RelV p.2 q.2
abbrev kV:Key->V
 |.inl i=>.int i
 |.inr x=>.str x
set_option genInjectivity false in
inductive HO where
 /-- a list -/
 |lst (xs:List V)
 /-- a tuple (never changes) -/
 |tup (xs:List V)
 /-- a dict whose keys are ints and texts;one whose keys are tuples of ints and texts (the empty one is both) -/
 |dK (kvs:List (Key×V))|dT (kvs:List (List Key×V))
 /-- a set of ints: its members,its size -/
 |set (S:Int->Bool) (n:Nat)
 /-- an instance of the class at C,its dict at dx,its attributes -/
 |ins (C dx:Addr) (fs:List (Str×V))
 /-- the dict of the instance at x -/
 |own (x:Addr)
 /-- the dict of an exception -/
 |xd (fs:List (Str×V))
 /-- a bound method,f of x -/
 |met (f x:Addr)
 /-- a range object lo,lo+1,.. below hi -/
 |lu (lo hi:Int)
 /-- a thing that is known to the object (the script;a dict while a loop walks it): read,never written while it is so -/
 |qi (o:Obj) (u:HO)
 /-- a code Dx table -/
 |zm (ps:Array Value)
 /-- any other thing,by what is true of its one object (a def of Py own: Vz a S n:=HO.ext λh=>..) -/
 |ext (U:Heap->Prop)
@[reducible]def Hp:=Addr->Option HO
abbrev upd(H:Hp)(a:Addr)(o:HO):Hp:=λb=>if b=a then some o else H b
def rY{H:Hp}{a:Addr}{o:HO}:upd H a o a=some o:=by unfold upd;rw[if_pos rfl]
def lR{H:Hp}{a b:Addr}{o:HO}(h:b≠a):upd H a o b=H b:=by unfold upd;rw[if_neg h]
def L5{H:Hp}{a b:Addr}{o u:HO}(h:H a=some o)(h':H b=some u)(d:o≠u):a≠b:=by intro e;subst e;rw[h]at h';exact d (Zai h')
def Cp{H:Hp}{a b:Addr}{o:HO}(h:H a=some o)(h':H b=none):a≠b:=by intro e;subst e;rw[h]at h';cases h'
abbrev qj(h:Heap)(a:Addr)(its:Array Value):Prop:=∃o,h.get? a=some o/\o.cls=.type "tuple" /\ o.dict=none/\∃n,o.data=.seq its n
def qj.tup{h:Heap}{a:Addr}{its:Array Value}(x:qj h a its):IsTup h a its:=let ⟨o,e,c,_,n,d⟩:=x;⟨o,e,c,n,d⟩
def qj.new(h:Heap)(its:Array Value):qj (h.push { cls:=.type "tuple",data:=.seq its }) h.objs.size its:=⟨_,Zan _ rfl,rfl,rfl,_,rfl⟩
section
variable (P:Program)(w:World)
abbrev dy(H:Hp)(h:Heap)(a:Addr):HO->Prop
 |.lst xs=>xs.length<=sizeLine/\∃(its:List Value) (n:Nat),Vals xs its/\h.get? a=some { cls:=.type "list",data:=.seq its.toArray n }
 |.tup xs=>xs.length<=sizeLine/\∃its:List Value,Vals xs its/\qj h a its.toArray
 |.dK kvs=>kvs.length<=sizeLine/\(a == sysModules)=false/\∃vs,KV kvs vs/\h.DictOf (cO P w) a vs
 | .dT kvs=>kvs.length<=sizeLine/\(a == sysModules)=false/\∃ xs:List (List Key×Addr×Value),
   Paired (λ(p:List Key×V) (q:List Key×Addr×Value)=>p.1=q.1/\H q.2.1=some (.tup (p.1.map kV))/\RelV p.2 q.2.2) kvs xs /\
   ∃o es ep,h.get? a=some o/\o.ExactDict/\o.data=.dict es ep/\es.toList=xs.map (entryOfKey (tupleKind (cO P w)))/\(xs.map (·.1)).Nodup
 |.set S n=>h.SetOf (intKind P w) a S n
 | .ins C dx fs=>H dx=some (.own a)/\fs.length<=1000/\dx≠a/\h.get? a=some (PySem.W.instObj C dx) /\
   ∃mA,h.Ns1 dx mA/\(∀f,pV (fs.lookup f) (mA f))/\PySem.Within mA (fs.map (·.1))
 |.own _=>∃o,h.get? a=some o
 |.xd fs=>∃mA,h.Ns1 a mA/\∀f,pV (fs.lookup f) (mA f)
 |.lu lo hi=>∃t u v,h.get? a=some { cls:=.type "range",data:=.fields #[.int lo t,.int hi u,.int 1 v] }
 |.qi o u=>h.get? a=some o/\dy H h a u
 |.zm ps=>h.get? a=some { cls:=.none,data:=.fields ps }
 |.met f x=>h.get? a=some (PySem.W.methodObj (.ref f) (.ref x))
 |.ext U=>U h/\(∃o,h.get? a=some o)/\∀h1 h2:Heap,U h1->(∀o,h1.get? a=some o->h2.get? a=some o)->U h2
abbrev nz(H:Hp)(h:Heap):Prop:=∀a o,H a=some o->dy P w H h a o
end
section
variable {P:Program}{w:World}{H H':Hp}{h h':Heap}{a:Addr}{o:HO}
def dy.lt(x:dy P w H h a o):a<h.objs.size:=by
 cases o with
 |lst xs=>obtain⟨_,_,_,_,e⟩:=x;exact Zaq e
 |tup xs=>obtain⟨_,_,_,_,e,_⟩:=x;exact Zaq e
 |dK kvs=>obtain⟨_,_,_,_,o,_,_,e,_⟩:=x;exact Zaq e
 |dT kvs=>obtain⟨_,_,_,_,o,_,_,e,_⟩:=x;exact Zaq e
 |set S n=>obtain⟨o,_,_,_,e,_⟩:=x;exact Zaq e
 |ins C dx fs=>obtain⟨_,_,_,e,_⟩:=x;exact Zaq e
 |own y=>obtain⟨_,e⟩:=x;exact Zaq e
 |xd fs=>obtain⟨_,⟨_,_,_,e,_⟩,_⟩:=x;exact Zaq e
 |lu lo hi=>obtain⟨_,_,_,e⟩:=x;exact Zaq e
 |qi ob u=>obtain⟨e,_⟩:=x;exact Zaq e
 |zm ps=>exact Zaq (show h.get? a=some _ from x)
 |met f y=>exact Zaq (show h.get? a=some _ from x)
 |ext U=>obtain⟨_,⟨_,e⟩,_⟩:=x;exact Zaq e
def Paired.zo{J M:Type}{F G:J->M->Prop}:∀{l₁:List J} {l₂:List M},Paired F l₁ l₂->(∀a b,F a b->G a b)->Paired G l₁ l₂
 |_,_,.nil,_=>.nil
 |_,_,.cons r t,f=>.cons (f _ _ r) (Paired.zo t f)
def dy.stay(x:dy P w H h a o)(k:∀b u,(b=a\/H b=some (.own a))->h.get? b=some u->h'.get? b=some u)
  (ho:∀b,H b=some (.own a)->H' b=some (.own a)) (ht:∀b xs,H b=some (.tup xs)->H' b=some (.tup xs)):dy P w H' h' a o:=by
 induction o with
 |lst xs=>obtain⟨z,its,n,r,e⟩:=x;exact⟨z,its,n,r,k _ _ (.inl rfl) e⟩
 |tup xs=>obtain⟨z,its,r,ob,e,c⟩:=x;exact⟨z,its,r,ob,k _ _ (.inl rfl) e,c⟩
 |dK kvs=>obtain⟨z,y,vs,r,ob,es,ep,e,c⟩:=x;exact⟨z,y,vs,r,ob,es,ep,k _ _ (.inl rfl) e,c⟩
 |dT kvs =>
  obtain⟨z,y,xs,r,ob,es,ep,e,c⟩:=x;exact⟨z,y,xs,Paired.zo r λp q z=>⟨z.1,ht _ _ z.2.1,z.2.2⟩,ob,es,ep,k _ _ (.inl rfl) e,c⟩
 |set S n=>obtain⟨ob,es,ep,t,e,c⟩:=x;exact⟨ob,es,ep,t,k _ _ (.inl rfl) e,c⟩
 |ins C dx fs =>
  obtain⟨d,z,ne,e,mA,⟨od,es,ep,e2,c⟩,r⟩:=x;exact⟨ho _ d,z,ne,k _ _ (.inl rfl) e,mA,⟨od,es,ep,k _ _ (.inr d) e2,c⟩,r⟩
 |own y=>obtain⟨ob,e⟩:=x;exact⟨ob,k _ _ (.inl rfl) e⟩
 |xd fs=>obtain⟨mA,⟨od,es,ep,e,c⟩,r⟩:=x;exact⟨mA,⟨od,es,ep,k _ _ (.inl rfl) e,c⟩,r⟩
 |lu lo hi=>obtain⟨t,u,v,e⟩:=x;exact⟨t,u,v,k _ _ (.inl rfl) e⟩
 |qi ob u ih=>obtain⟨e,q⟩:=x;exact⟨k _ _ (.inl rfl) e,ih q⟩
 |zm ps =>
  have e:h.get? a=some { cls:=.none,data:=.fields ps }:=x;show h'.get? a=some { cls:=.none,data:=.fields ps };exact k a _ (.inl rfl) e
 |met f y =>
  have e:h.get? a=some (PySem.W.methodObj (.ref f) (.ref y)):=x;show h'.get? a=some (PySem.W.methodObj (.ref f) (.ref y));exact k a _ (.inl rfl) e
 |ext U=>obtain⟨p,⟨o,e⟩,st⟩:=x;exact⟨st _ _ p λo q=>k _ _ (.inl rfl) q,⟨o,k _ _ (.inl rfl) e⟩,st⟩
def nz.lt(x:nz P w H h)(e:H a=some o):a<h.objs.size:=(x a o e).lt
def nz.fresh(x:nz P w H h)(e:h.objs.size<=a):H a=none:=by
 cases q:H a with
 |none=>rfl
 |some u=>exact absurd (ZaF (x.lt q) e) (ZbP _)
def nz.kept(x:nz P w H h)(k:∀b u,h.get? b=some u->h'.get? b=some u):nz P w H h':=λa o e =>
 (x a o e).stay (λb u _ q=>k b u q) (λ_ q=>q) λ_ _ q=>q
def nz.laid(x:nz P w H h)(k:∀b u,h.get? b=some u->h'.get? b=some u)(hp:h.objs.size<=a)(new:dy P w (upd H a o) h' a o):nz P w (upd H a o) h':=λb u e=>by
 have hn:=x.fresh hp;by_cases hb:b=a;subst hb;rw[rY]at e;cases e;exact new;rw[lR hb]at e;exact(x b u e).stay (λc v _ q=>k c v q) (λc q=>by rw[lR (Cp q hn)];exact q) λc xs q=>by rw[lR (Cp q hn)];exact q
end
abbrev Rd(H:Hp)(a:Addr)(u:HO):Prop:=H a=some u\/∃o,H a=some (.qi o u)
def Rd.ok{P:Program}{w:World}{H:Hp}{h:Heap}{a:Addr}{u:HO}(r:Rd H a u)(x:nz P w H h):dy P w H h a u:=by
 rcases r with r|⟨o,r⟩
 exact x a u r;obtain⟨_,q⟩:=x a _ r;exact q
abbrev Dy:Option HO->Prop
 |some (.lst _)=>True
 |some (.dK _)=>True
 |some (.dT _)=>True
 |some (.set _ _)=>True
 |some (.ins _ _ _)=>True
 |some (.ext _)=>True
 |_=>False
section
variable {P:Program}{w:World}{H:Hp}{h h':Heap}{x e:Addr}{o':HO}
def nz.write(ok:nz P w H h)(mu:Dy (H x))(he:e=x\/H e=some (.own x))(k:∀b u,b≠e->h.get? b=some u->h'.get? b=some u)(Cq:∃u,h'.get? e=some u)
  (new:dy P w (upd H x o') h' x o'):nz P w (upd H x o') h':=λb u q=>by
 have Dz:∀c y,H c=some (.own y)->c≠x:=λc y r z=>by subst z;rw[r]at mu;exact mu
 have L6:∀c xs,H c=some (.tup xs)->c≠x:=λc xs r z=>by subst z;rw[r]at mu;exact mu
 by_cases hb:b=x;subst hb;rw[rY]at q;cases q;exact new;rw[lR hb]at q;by_cases wc:b=e;have q':H b=some (.own x):=by
  rcases he with z|z
  exact absurd (wc.trans z) hb;rw[wc];exact z
 rw[q]at q';cases q';obtain⟨v,hv⟩:=Cq;exact⟨v,by rw[wc];exact hv⟩;refine(ok b u q).stay (λc v hc r=>k c v ?_ r) (λc r=>by rw[lR (Dz c b r)];exact r) λc xs r=>by rw[lR (L6 c xs r)];exact r
 rcases hc with rfl|hc
 exact wc;rintro rfl;rcases he with z|z
 exact Dz c b hc z;rw[hc]at z;cases z;exact hb rfl
end
structure Un(fs ex:List Addr)(H H':Hp)(h h':Heap):Prop where
 keep:∀b o,h.get? b=some o->H b=none->b ∉ fs->b ∉ ex->h'.get? b=some o
 slot:∀b o,h.get? b=some o->H b=none->b∈fs->b ∉ ex->∃sl,h'.get? b=some { o with slots:=sl }
 free:∀b o,h.get? b=some o->H b=none->b ∉ ex->H' b=none
 there:∀b o,h.get? b=some o->b ∉ ex->∃o',h'.get? b=some o'
 tups:∀b xs,H b=some (.tup xs)->H' b=some (.tup xs)
 qk:∀b o u,H b=some (.qi o u)->H' b=some (.qi o u)
 rf:∀b ps,H b=some (.zm ps)->∃more,H' b=some (.zm (ps ++ more))
section
variable {fs fs' ex ex':List Addr}{H H1 H2:Hp}{h h1 h2 h':Heap}{a x e:Addr}{o:HO}
def Un.any(u:Un fs ex H H1 h h1){b:Addr}{ob:Obj}(q:h.get? b=some ob)(n:H b=none)(hx:b ∉ ex):∃sl,h1.get? b=some { ob with slots:=sl }:=by by_cases hb:b∈fs;exact u.slot b ob q n hb hx;exact⟨ob.slots,u.keep b ob q n hb hx⟩
def Un.kept(k:∀b u,h.get? b=some u->h'.get? b=some u):Un fs ex H H h h' :=
 ⟨λb ob q _ _ _=>k b ob q,λb ob q _ _ _=>⟨ob.slots,k b ob q⟩,λ_ _ _ n _=>n,λb ob q _=>⟨ob,k b ob q⟩,λ_ _ q=>q,λ_ _ _ q=>q,λ_ ps q=>⟨#[],by rw[q];simp⟩⟩
def Un.refl:Un fs ex H H h h:=Un.kept λ_ _ q=>q
def Un.laid(k:∀b u,h.get? b=some u->h'.get? b=some u)(hp:h.objs.size<=a)(hn:H a=none):Un fs ex H (upd H a o) h h' where
 keep:=λb u q _ _ _=>k b u q
 slot:=λb u q _ _ _=>⟨u.slots,k b u q⟩
 free:=λb u q n _=>by rw[lR (ZaX (ZaF (Zaq q) hp))];exact n
 there:=λb u q _=>⟨u,k b u q⟩
 tups:=λb xs q=>by rw[lR (Cp q hn)];exact q
 qk:=λb u xs q=>by rw[lR (Cp q hn)];exact q
 rf:=λb ps q=>⟨#[],by rw[lR (Cp q hn),q];simp⟩
def Un.write(mu:Dy (H x))(he:e=x\/H e=some (.own x))(k:∀b u,b≠e->h.get? b=some u->h'.get? b=some u)(Cq:∃u,h'.get? e=some u):Un fs ex H (upd H x o) h h':=by
 have hx:∀b,H b=none->b≠x:=λb n z=>by subst z;rw[n]at mu;exact mu
 have hb:∀b,H b=none->b≠e:=λb n z=>by
  subst z;rcases he with r|r
  exact hx b n r;rw[n]at r;cases r
 have hm:∀b u,H b=some u->¬Dy (some u)->b≠x:=λb u q nm z=>by subst z;rw[q]at mu;exact nm mu
 refine⟨λb u q n _ _=>k b u (hb b n) q,λb u q n _ _=>⟨u.slots,k b u (hb b n) q⟩,λb u q n _=>by rw[lR (hx b n)];exact n,λb u q _=>?_,
  λb xs q=>by rw[lR (hm b _ q λz=>z)];exact q,λb u xs q=>by rw[lR (hm b _ q λz=>z)];exact q,λb ps q=>⟨#[],by rw[lR (hm b _ q λz=>z),q];simp⟩⟩
 by_cases wc:b=e;subst wc;exact Cq;exact⟨u,k b u wc q⟩
end
abbrev Js(h:Heap)(H:Hp):List Addr:=(List.range h.objs.size).filter λa=>(H a).isSome
abbrev ql(h:Heap)(H:Hp):Heap:=PySem.W.hideAll h (Js h H)
def VA(h:Heap)(H:Hp):(ql h H).objs.size=h.objs.size:=PySem.W.hideAll_size _ _
def VB{h:Heap}{H:Hp}{b:Addr}{o:Obj}(e:h.get? b=some o)(n:H b=none):(ql h H).get? b=some o :=
 PySem.W.hideAll_get _ e λhm=>by
  have q:(H b).isSome=true:=(Za5.mp hm).2;rw[n]at q;simp at q
def VC{h:Heap}{H:Hp}{b:Addr}{o:Obj}(e:(ql h H).get? b=some o):h.get? b=some o/\H b=none:=by
 have e':h.get? b=some o:=PySem.W.of_hideAll (Js h H) e;refine⟨e',?_⟩;cases q:H b with
 |none=>rfl
 |some x =>
  have hm:b∈Js h H:=Za5.mpr ⟨Za0.mpr (Zaq e'),by simp[q]⟩;have z:(ql h H).get? b=none:=PySem.W.hideAll_none (Js h H) hm;rw[z]at e;cases e
abbrev wg(g h:Heap)(L:Addr):List (Addr×Obj):=(List.range h.objs.size).filterMap λa=>if a=L\/(g.get? a).isSome=true then none else(h.get? a).map λo=>(a,o)
abbrev rest(g h:Heap)(L d:Addr):List (Addr×Obj):=(wg g h L).filter λp=>decide (p.1≠d)
structure Mod(K:Zfr)(mg:Str->Option Value)(base:Heap):Prop where
 DA:K.In base
 glob:base.Ns mainGlobals mg
 blt:∃mb,base.Ns builtinsNs mb/\∀x:Str,x≠"__name__" -> mb x=bootBuiltins x
 nolimit:base.NoLimit
set_option genInjectivity false in
structure Cx where
 prog:Program
 w:World
 K:Zfr
 mg:Str->Option Value
 base:Heap
 A:Around
 N:List Str
 s₀:Shared
 H₀:Hp
 env:Env
 outer:List Env
 stack:List Env
 ex:List Addr
 fn:Str->Bool
 calm:Bool
 pn:List (Addr×Obj)
 xe:Value->Shared->Prop
abbrev frs(l:List Env):List Addr:=l.filterMap (·.frame)
@[reducible]def Cx.fs(X:Cx):List Addr:=frs X.outer
abbrev L7(sc:Scope)(x:Str):Prop:=sc.names.lookup x=some .local\/sc.names.lookup x=some .cell\/sc.names.lookup x=some .free
abbrev Loc(sc:Scope)(x:Str):Prop:=sc.names.lookup x=some .local\/sc.names.lookup x=some .cell
abbrev Look(env:Env)(h:Heap)(m:Str->Option Value)(x:Str)(u:Value):Prop :=
 (env.kindOf x=some .local/\m x=some u)\/((env.kindOf x=some .cell\/env.kindOf x=some .free)/\∃c,env.cells.lookup x=some c/\h.IsCell c (some u))
structure Cx.Ok(X:Cx):Prop where
 mod:Mod X.K X.mg X.base
 kind:X.env.scope.kind=.function
 glob:X.env.globals=mainGlobals
 blt:X.env.builtins=builtinsNs
 above:X.s₀.heap.objs.size<=X.env.locals
 inj:∀x y c,X.env.cells.lookup x=some c->X.env.cells.lookup y=some c->x=y
 has:∀x,(X.env.kindOf x=some .cell\/X.env.kindOf x=some .free)->∃c,X.env.cells.lookup x=some c
 DC:∀x c,X.fn x=true->X.env.cells.lookup x=some c->X.s₀.heap.objs.size<=c
 hd:X.calm=true->X.A.handled=none
 frames:X.A.frames=some X.stack
 stk:X.stack=X.outer\/(X.stack=X.env :: X.outer/\X.env.frame=some X.env.locals)
 Pz:∀b∈X.ex,b≠X.env.locals/\∀x c,X.env.cells.lookup x=some c->c≠b
 bs:∀b o,X.base.get? b=some o->X.s₀.heap.get? b=some o/\X.H₀ b=none
 vK:X.base.objs.size<=X.s₀.heap.objs.size
 rZ:∀b o,X.base.get? b=some o->b ∉ X.ex
 wj:∀b∈X.ex,b ∉ X.fs
 o5:X.s₀.heap.FunFrames X.base X.outer
 Cr:∀b∈X.fs,X.H₀ b=none
structure Inv(X:Cx)(pins:List (Addr×Obj))(G:List (Option V))(H:Hp)(s:Shared):Prop where
 ok:X.Ok
 os:s.os=X.s₀.os
 bare:AllBare s.gens
 base:Un X.fs X.ex X.H₀ H X.s₀.heap s.heap
 loc:∃m,s.heap.Ns X.env.locals m/\∀(i:Nat) (x:Str) (v:V),X.N[i]?=some x->G[i]?=some (some v)->L7 X.env.scope x->∃u,RelV v u/\Look X.env s.heap m x u
 cell:∀x c,X.env.cells.lookup x=some c->∃v,s.heap.IsCell c v
 free:H X.env.locals=none
 mF:∀x c,X.env.cells.lookup x=some c->H c=none
 pin:∀p∈X.pn ++ pins,s.heap.get? p.1=some p.2/\H p.1=none/\p.1≠X.env.locals/\p.1 ∉ X.fs/\∀v,p.2.data≠.cell v
 hok:nz X.prog X.w H s.heap
 len:G.length=X.N.length
section
variable {X:Cx}{pins:List (Addr×Obj)}{G:List (Option V)}{H H':Hp}{s:Shared}{h':Heap}
def Cx.Ok.L8(ok:X.Ok){b:Addr}{o:Obj}(e:X.base.get? b=some o):b ∉ X.fs:=λhb=>by
 have:=(ok.o5.mem hb).1;rw[e]at this;cases this
def Inv.bs(I:Inv X pins G H s):∀b o,X.base.get? b=some o->s.heap.get? b=some o/\H b=none:=λb o e =>
 ⟨I.base.keep b o (I.ok.bs b o e).1 (I.ok.bs b o e).2 (I.ok.L8 e) (I.ok.rZ b o e),I.base.free b o (I.ok.bs b o e).1 (I.ok.bs b o e).2 (I.ok.rZ b o e)⟩
def Inv.bk(I:Inv X pins G H s):∀b o,X.base.get? b=some o->s.heap.get? b=some o:=λb o e=>(I.bs b o e).1
def Inv.mod(I:Inv X pins G H s):Mod X.K X.mg X.base:=I.ok.mod
def Inv.DE(I:Inv X pins G H s):X.K.In s.heap:=I.ok.mod.DA.keeps I.bk
def Inv.lt(I:Inv X pins G H s):X.env.locals<s.heap.objs.size:=let ⟨_,hn,_⟩:=I.loc;hn.lt
def Inv.sz(I:Inv X pins G H s):X.s₀.heap.objs.size<=s.heap.objs.size:=Zaw I.ok.above (Zcu I.lt)
def Inv.DF(I:Inv X pins G H s){a:Addr}(h:s.heap.objs.size<=a):a ∉ X.fs:=λhb=>by
 obtain⟨_,o,ho,_⟩:=I.ok.o5.mem hb;exact absurd (ZaF (Zaq ho) (Zaw I.sz h)) (ZbP _)
def Inv.zp(I:Inv X pins G H s):∀x c,X.env.cells.lookup x=some c->c≠X.env.locals:=λx c e z=>by
 obtain⟨v,o,ho,hd⟩:=I.cell x c e;obtain⟨m,⟨o',es,ep,ho',hd',_⟩,_⟩:=I.loc;rw[z,ho']at ho;cases ho;rw[hd']at hd;cases hd
def Inv.o5(I:Inv X pins G H s):s.heap.FunFrames X.base X.outer:=by
 have all:∀(l:List Env),(∀b∈frs l,b∈X.fs)->X.s₀.heap.FunFrames X.base l->s.heap.FunFrames X.base l:=by
  intro l
  induction l with
  |nil=>intro _ _;trivial
  |cons env r ih =>
   intro hs hl;obtain⟨hk,⟨L,o,hf,hn,ho,hd⟩,hr⟩:=hl;have hL:L∈X.fs:=hs L (by unfold frs;rw[ZcF,hf];exact Zaf);obtain⟨sl,e⟩:=I.base.slot L o ho (I.ok.Cr L hL) hL λz=>I.ok.wj L z hL;exact⟨hk,⟨L,_,hf,hn,e,hd⟩,ih (λb hb=>hs b (by unfold frs;rw[ZcF,hf];exact Zah _ hb)) hr⟩
 exact all X.outer (λ_ hb=>hb) I.ok.o5
def Inv.stack(I:Inv X pins G H s):s.heap.FunFrames X.base X.stack:=by
 rcases I.ok.stk with e|⟨e,hf⟩
 rw[e];exact I.o5;rw[e];obtain⟨m,hn,_⟩:=I.loc;refine .cons (by rw[I.ok.kind];decide) hf hn ?_ I.o5;exact Heap.get?_none_of_le (Zaw I.ok.vK I.ok.above)
def Inv.o6(I:Inv X pins G H s):∀b∈frs X.stack,b∈X.env.locals :: X.fs:=λb hb=>by
 rcases I.ok.stk with e|⟨e,hf⟩
 rw[e]at hb;exact Zah _ hb;rw[e]at hb;unfold frs at hb;rw[ZcF,hf]at hb;exact hb
def Inv.sJ(I:Inv X pins G H s):∀b∈frs X.stack,H b=none:=λb hb=>by
 rcases Zar.mp (I.o6 b hb)with e|hb
 rw[e];exact I.free;obtain⟨_,o,ho,_⟩:=I.ok.o5.mem hb;exact I.base.free b o ho (I.ok.Cr b hb) λz=>I.ok.wj b z hb
def Inv.step{g':Array GenState}{t':Nat}{d':Drawn}{ch:List Addr}(I:Inv X pins G H s)
  (hch:∀b∈ch,(b∈X.ex\/X.s₀.heap.objs.size<=b)/\b≠X.env.locals/\(∀x c,X.env.cells.lookup x=some c->c≠b)/\∀p∈X.pn ++ pins,p.1≠b)
  (keep:∀b o,b≠X.env.locals->b ∉ X.fs->b ∉ ch->s.heap.get? b=some o->H b=none->h'.get? b=some o)
  (slot:∀b o,b≠X.env.locals->b∈X.fs->b ∉ ch->s.heap.get? b=some o->H b=none->∃sl,h'.get? b=some { o with slots:=sl }) (free:∀b o,b ∉ ch->s.heap.get? b=some o->H b=none->H' b=none)
  (there:∀b o,b ∉ ch->s.heap.get? b=some o->∃o',h'.get? b=some o')
  (tups:∀b xs,H b=some (.tup xs)->H' b=some (.tup xs)) (qk:∀b o u,H b=some (.qi o u)->H' b=some (.qi o u)) (rf:∀b ps,H b=some (.zm ps)->∃more,H' b=some (.zm (ps ++ more)))
  (ns:∀m,s.heap.Ns X.env.locals m->h'.Ns X.env.locals m) (hok:nz X.prog X.w H' h') (hg:AllBare g') :
  Inv X pins G H' { s with heap:=h',gens:=g',drawn:=d',toks:=t' }:=by
 have zq:∀b o,X.s₀.heap.get? b=some o->b≠X.env.locals:=λb o e=>ZaX (ZaF (Zaq e) I.ok.above);have Jt:∀b o,X.s₀.heap.get? b=some o->b ∉ X.ex->b ∉ ch:=λb o e hx hb=>by
  rcases(hch b hb).1 with z|z
  exact hx z;exact absurd (ZaF (Zaq e) z) (ZbP _)
 have cellK:∀x c,X.env.cells.lookup x=some c->∀v,s.heap.IsCell c v->h'.IsCell c v:=λx c e v ⟨o,ho,hd⟩=>by
  have DG:c ∉ ch:=λz=>(hch c z).2.2.1 x c e rfl;by_cases hc:c∈X.fs;obtain⟨sl,q⟩:=slot c o (I.zp x c e) hc DG ho (I.mF x c e);exact⟨_,q,hd⟩;exact⟨o,keep c o (I.zp x c e) hc DG ho (I.mF x c e),hd⟩
 refine⟨I.ok,I.os,hg,⟨λb o e n hb hx=>?_,λb o e n hb hx=>?_,λb o e n hx=>?_,λb o e hx=>?_,λb xs e=>tups b xs (I.base.tups b xs e),λb o xs e=>qk b o xs (I.base.qk b o xs e),λb ps e=>?_⟩,?_,λx c e=>?_,?_,λx c e=>?_,λp hp=>?_,hok,I.len⟩;exact keep b o (zq b o e) hb (Jt b o e hx) (I.base.keep b o e n hb hx) (I.base.free b o e n hx);obtain⟨sl,e1⟩:=I.base.slot b o e n hb hx;obtain⟨VD,e2⟩:=slot b _ (zq b o e) hb (Jt b o e hx) e1 (I.base.free b o e n hx);exact⟨VD,e2⟩;obtain⟨o',e1⟩:=I.base.there b o e hx;exact free b o' (Jt b o e hx) e1 (I.base.free b o e n hx);obtain⟨o',e1⟩:=I.base.there b o e hx;exact there b o' (Jt b o e hx) e1;obtain⟨m1,e1⟩:=I.base.rf b ps e;obtain⟨m2,e2⟩:=rf b _ e1;exact⟨m1 ++ m2,by rw[e2,Array.append_assoc]⟩;obtain⟨m,hn,hl⟩:=I.loc;refine⟨m,ns m hn,λi x v e1 e2 e3=>?_⟩;obtain⟨u,r,l⟩:=hl i x v e1 e2 e3;refine⟨u,r,?_⟩;rcases l with l|⟨k,c,e,z⟩
 exact .inl l;exact .inr ⟨k,c,e,cellK x c e _ z⟩;obtain⟨v,z⟩:=I.cell x c e;exact⟨v,cellK x c e v z⟩;obtain⟨m,⟨o,_,_,ho,_⟩,_⟩:=I.loc;exact free _ o (λz=>(hch _ z).2.1 rfl) ho I.free;obtain⟨v,o,ho,hd⟩:=I.cell x c e;exact free c o (λz=>(hch c z).2.2.1 x c e rfl) ho (I.mF x c e);obtain⟨e,n,ne,nf,d⟩:=I.pin p hp;have DG:p.1 ∉ ch:=λz=>(hch p.1 z).2.2.2 p hp rfl;exact⟨keep p.1 p.2 ne nf DG e n,free p.1 p.2 DG e n,ne,nf,d⟩
def Inv.un{t':Nat}(I:Inv X pins G H s)(u:Un X.fs [] H H' s.heap h')(hok:nz X.prog X.w H' h'):Inv X pins G H' { s with heap:=h',toks:=t' }:=by
 obtain⟨m,⟨o,es,ep,ho,r⟩,_⟩:=id I.loc;obtain⟨sl,hL⟩:=u.any ho I.free (by simp)
 exact I.step (g':=s.gens) (d':=s.drawn) (ch:=[]) (λ_ z=>nomatch z) (λb o _ hb _ e n=>u.keep b o e n hb (by simp)) (λb o _ hb _ e n=>u.slot b o e n hb (by simp)) (λb o _ e n=>u.free b o e n (by simp)) (λb o _ e=>u.there b o e (by simp)) u.tups u.qk u.rf (λm' hm=>by
  obtain⟨o',es',L9,ho',r'⟩:=hm;rw[ho]at ho';cases ho'
  exact⟨_,es',L9,hL,r'⟩) hok I.bare
def Inv.call{g':Array GenState}{t':Nat}{d':Drawn}{ch:List Addr}(I:Inv X pins G H s)(u:Un (frs X.stack) ch H H' s.heap h')(hok:nz X.prog X.w H' h')(hg:AllBare g')
  (hch:∀b∈ch,(b∈X.ex\/X.s₀.heap.objs.size<=b)/\b≠X.env.locals/\(∀x c,X.env.cells.lookup x=some c->c≠b)/\∀p∈X.pn ++ pins,p.1≠b) :
  Inv X pins G H' { s with heap:=h',gens:=g',drawn:=d',toks:=t' }:=by
 obtain⟨m,⟨o,es,ep,ho,r⟩,_⟩:=id I.loc;obtain⟨sl,hL⟩:=u.any ho I.free λz=>(hch _ z).2.1 rfl
 exact I.step (ch:=ch) hch (λb o hL hb hc e n=>u.keep b o e n (λz=>(Zar.mp (I.o6 b z)).elim hL hb) hc) (λb o _ _ hc e n=>u.any e n hc) (λb o hc e n=>u.free b o e n hc) (λb o hc e=>u.there b o e hc) u.tups u.qk u.rf (λm' hm=>by
  obtain⟨o',es',L9,ho',r'⟩:=hm;rw[ho]at ho';cases ho'
  exact⟨_,es',L9,hL,r'⟩) hok hg
def Inv.turned{t':Nat}{it:Addr}(I:Inv X pins G H s)(k:∀b o,b≠it->s.heap.get? b=some o->h'.get? b=some o)(hn:H it=none)(hL:it≠X.env.locals)
  (h1:it∈X.ex\/X.s₀.heap.objs.size<=it) (h2:∀x c,X.env.cells.lookup x=some c->c≠it) (h3:∀p∈X.pn ++ pins,p.1≠it):Inv X pins G H { s with heap:=h',toks:=t' }:=by
 have DH:∀b u,H b=some u->b≠it:=λb u e z=>by rw[z,hn]at e;cases e
 refine I.step (g':=s.gens) (d':=s.drawn) (ch:=[it]) (λb hb=>?_) (λb o _ _ hc e _=>k b o (λz=>hc (by simp[z])) e) (λb o _ _ hc e _=>⟨o.slots,k b o (λz=>hc (by simp[z])) e⟩) (λ_ _ _ _ n=>n)
  (λb o hc e=>⟨o,k b o (λz=>hc (by simp[z])) e⟩) (λ_ _ e=>e) (λ_ _ _ e=>e) (λb ps e=>⟨#[],by rw[e];simp⟩) (λm hm=>?_) (λb u e=>?_) I.bare
 have e:b=it:=by simpa using hb
 subst e;exact⟨h1,hL,h2,h3⟩;obtain⟨o,es,ep,ho,r⟩:=hm;exact⟨o,es,ep,k _ o (Ne.symm hL) ho,r⟩;refine(I.hok b u e).stay (λc v hc q=>k c v ?_ q) (λ_ q=>q) λ_ _ q=>q;rcases hc with z|z
 rw[z];exact DH b u e;exact DH c _ z
def Inv.tok(I:Inv X pins G H s)(t:Nat):Inv X pins G H { s with toks:=t }:=I.un (h':=s.heap) (t':=t) Un.refl I.hok
def Inv.kept{t':Nat}(I:Inv X pins G H s)(k:∀b u,s.heap.get? b=some u->h'.get? b=some u):Inv X pins G H { s with heap:=h',toks:=t' }:=I.un (Un.kept k) (I.hok.kept k)
def Inv.laid{a:Addr}{o:HO}{t':Nat}(I:Inv X pins G H s)(k:∀b u,s.heap.get? b=some u->h'.get? b=some u)(hp:s.heap.objs.size<=a)(new:dy X.prog X.w (upd H a o) h' a o):
  Inv X pins G (upd H a o) { s with heap:=h',toks:=t' }:=I.un (Un.laid k hp (I.hok.fresh hp)) (I.hok.laid k hp new)
def Inv.write{x e:Addr}{o:HO}{t':Nat}(I:Inv X pins G H s)(mu:Dy (H x))(he:e=x\/H e=some (.own x))(k:∀b u,b≠e->s.heap.get? b=some u->h'.get? b=some u)(Cq:∃u,h'.get? e=some u)
  (new:dy X.prog X.w (upd H x o) h' x o):Inv X pins G (upd H x o) { s with heap:=h',toks:=t' }:=I.un (Un.write mu he k Cq) (I.hok.write mu he k Cq new)
def Inv.oJ{xF:List (Addr×Obj)}(I:Inv X pins G H s)(h:∀p∈xF,s.heap.get? p.1=some p.2/\H p.1=none/\p.1≠X.env.locals/\p.1 ∉ X.fs/\∀v,p.2.data≠.cell v):Inv X xF G H s :=
 ⟨I.ok,I.os,I.bare,I.base,I.loc,I.cell,I.free,I.mF,λp hp=>(ZaE.mp hp).elim (λz=>I.pin p (ZbL _ z)) (h p),I.hok,I.len⟩
def PB{N:List Str}(hN:N.Nodup){i j:Nat}{x:Str}(a:N[i]?=some x)(b:N[j]?=some x):i=j:=by obtain⟨h1,e1⟩:=Zad.mp a;obtain⟨h2,e2⟩:=Zad.mp b;exact(List.getElem_inj hN).mp (e1.trans e2.symm)
def PD{M:Model}{A:Around}{E:Value->Shared->Prop}{i:Nat}{x:Str}{v:V}{u:Value}{Q:Unit->Shared->Prop}(I:Inv X pins G H s)(hN:X.N.Nodup)(hi:X.N[i]?=some x)(hx:Loc X.env.scope x)(r:RelV v u)
  (h:∀s',Inv X pins (G.set i (some v)) H s'->(∃a,Heap.SameBut a s.heap s'.heap/\(a=X.env.locals\/X.env.cells.lookup x=some a))->Q () s') (hf:X.fn x=true\/X.env.scope.names.lookup x=some .local:=by first|exact .inl rfl|exact .inr rfl|assumption):wpAny M A (storeName X.env x u) Q E s:=by
 obtain⟨m,hn,hl⟩:=id I.loc;have hcls:(X.env.scope.kind == .class || (X.env.scope.kind == .module && X.env.locals != X.env.globals))=false:=by rw[I.ok.kind];rfl
 have hiσ:i<G.length:=by rw[I.len];exact(Zad.mp hi).1
 have zp:=I.zp;have tracked:∀{a:Addr} {h':Heap},(∃o,s.heap.get? a=some o/\H a=none)->Heap.SameBut a s.heap h'->nz X.prog X.w H h':=λ{a h'} ha hs b ob e=>by
  obtain⟨_,_,hfree⟩:=ha;refine(I.hok b ob e).stay (λc w' hc q=>(hs.2 c ?_).trans q) (λ_ q=>q) λ_ _ q=>q;rintro rfl;rcases hc with rfl|hc
  rw[hfree]at e;cases e;rw[hfree]at hc;cases hc
 rcases hx with hk|hk
 refine wpAny_storeName_local hk hn (λh' hn' hs=>?_) hcls;obtain⟨oL,_,_,VE,_⟩:=id hn;refine h _ ⟨I.ok,I.os,I.bare,⟨λb o e n hb hx=>?_,λb o e n hb hx=>?_,I.base.free,λb o e hx=>?_,I.base.tups,I.base.qk,I.base.rf⟩,⟨_,hn',λj y v' e1 e2 e3=>?_⟩,λy c e=>?_,I.free,I.mF,λp hp=>?_,tracked ⟨oL,VE,I.free⟩ hs,by simpa using I.len⟩ ⟨_,hs,.inl rfl⟩;exact(hs.2 b (ZaX (ZaF (Zaq e) I.ok.above))).trans (I.base.keep b o e n hb hx);obtain⟨sl,e1⟩:=I.base.slot b o e n hb hx;exact⟨sl,(hs.2 b (ZaX (ZaF (Zaq e) I.ok.above))).trans e1⟩;obtain⟨o',e1⟩:=I.base.there b o e hx;exact⟨o',(hs.2 b (ZaX (ZaF (Zaq e) I.ok.above))).trans e1⟩;by_cases hj:j=i;subst hj;rw[hi]at e1;cases e1;rw[Zag hiσ]at e2;cases e2;exact⟨u,r,.inl ⟨hk,by simp⟩⟩;rw[Zao (Ne.symm hj)]at e2;obtain⟨u',r',q⟩:=hl j y v' e1 e2 e3;refine⟨u',r',?_⟩;rcases q with⟨k,e⟩|⟨k,c,e,z⟩
 refine .inl ⟨k,?_⟩
 have:y≠x:=λe=>hj (PB hN e1 (e ▸ hi));simp[this,e]
 exact .inr ⟨k,c,e,z.sameBut hs (zp y c e)⟩;obtain⟨w',z⟩:=I.cell y c e;exact⟨w',z.sameBut hs (zp y c e)⟩;obtain⟨e,n,ne,nf,d⟩:=I.pin p hp;exact⟨(hs.2 p.1 ne).trans e,n,ne,nf,d⟩;have hfn:X.fn x=true:=by
  rcases hf with z|z
  exact z;rw[z]at hk;cases hk
 obtain⟨c,hc⟩:=I.ok.has x (.inl hk);obtain⟨w',z⟩:=I.cell x c hc;refine wpAny_storeName_cell I.ok.kind hk hc z (λh' hc' hs=>?_);obtain⟨oc,hoc,Ma⟩:=id z;refine h { s with heap:=h' } ⟨I.ok,I.os,I.bare,⟨λb o e n hb hx=>?_,λb o e n hb hx=>?_,I.base.free,λb o e hx=>?_,I.base.tups,I.base.qk,I.base.rf⟩,⟨m,hn.sameBut hs (Ne.symm (zp x c hc)),λj y v' e1 e2 e3=>?_⟩,λy c' e=>?_,I.free,I.mF,λp hp=>?_,tracked ⟨oc,hoc,I.mF x c hc⟩ hs,by simpa using I.len⟩ ⟨c,hs,.inr hc⟩;exact(hs.2 b (ZaX (ZaF (Zaq e) (I.ok.DC x c hfn hc)))).trans (I.base.keep b o e n hb hx);obtain⟨sl,e1⟩:=I.base.slot b o e n hb hx;exact⟨sl,(hs.2 b (ZaX (ZaF (Zaq e) (I.ok.DC x c hfn hc)))).trans e1⟩;obtain⟨o',e1⟩:=I.base.there b o e hx;exact⟨o',(hs.2 b (ZaX (ZaF (Zaq e) (I.ok.DC x c hfn hc)))).trans e1⟩;by_cases hj:j=i;subst hj;rw[hi]at e1;cases e1;rw[Zag hiσ]at e2;cases e2;exact⟨u,r,.inr ⟨.inl hk,c,hc,hc'⟩⟩;rw[Zao (Ne.symm hj)]at e2;obtain⟨u',r',q⟩:=hl j y v' e1 e2 e3;refine⟨u',r',?_⟩;rcases q with q|⟨k,c',e,z'⟩
 exact .inl q;refine .inr ⟨k,c',e,z'.sameBut hs ?_⟩;rintro rfl;exact hj (PB hN e1 (I.ok.inj _ _ _ e hc ▸ hi));by_cases hcc:c'=c;subst hcc;exact⟨_,hc'⟩;obtain⟨w2,z2⟩:=I.cell y c' e;exact⟨w2,z2.sameBut hs hcc⟩;obtain⟨e,n,ne,nf,d⟩:=I.pin p hp;refine⟨(hs.2 p.1 ?_).trans e,n,ne,nf,d⟩;intro q;rw[q,hoc]at e;have q':oc=p.2:=Zai e;exact d w' (by rw[<- q'];exact Ma)
def Ju{M:Model}{A:Around}{E:Value->Shared->Prop}{i:Nat}{x:Str}{v:V}{u:Value}{Q:Unit->Shared->Prop}(I:Inv X pins G H s)(hN:X.N.Nodup)(hi:X.N[i]?=some x)(hx:Loc X.env.scope x)(r:RelV v u)
  (h:∀s',Inv X pins (G.set i (some v)) H s'->Q () s') (hf:X.fn x=true\/X.env.scope.names.lookup x=some .local:=by first|exact .inl rfl|exact .inr rfl|assumption):wpAny M A (storeName X.env x u) Q E s :=
 PD I hN hi hx r (λs' I' _=>h s' I') hf
def Inv.DI{s':Shared}{ch:List Addr}(I:Inv X pins G H s)(ho:s'.os=s.os)(u:Un (frs X.stack) ch H H' s.heap s'.heap)(hok:nz X.prog X.w H' s'.heap)(hg:AllBare s'.gens)
  (hch:∀b∈ch,(b∈X.ex\/X.s₀.heap.objs.size<=b)/\b≠X.env.locals/\(∀x c,X.env.cells.lookup x=some c->c≠b)/\∀p∈X.pn ++ pins,p.1≠b):Inv X pins G H' s':=by
 obtain⟨h',g',d',t',o'⟩:=s';have e:o'=s.os:=ho;subst e;exact I.call (g':=g') (t':=t') (d':=d') u hok hg hch
end
@[reducible]def XK:=Value->Option Addr->Hp->Prop
@[reducible]def St:=List (Option V)
@[reducible]def VK:=V->Hp->Prop
@[reducible]def TE:=St->Hp->VK->Prop
@[reducible]def TT:=St->Hp->(Bool->Hp->Prop)->Prop
@[reducible]def TA:=St->Hp->(List V->Hp->Prop)->Prop
set_option genInjectivity false in
structure Ends where
 nx:St->Hp->Prop
 rt:VK
 bk:St->Hp->Prop:=λ_ _=>False
 ct:St->Hp->Prop:=λ_ _=>False
@[reducible]def TS:=Ends->St->Hp->Prop
abbrev EP(X:Cx)(pins:List (Addr×Obj))(G:St)(Q:VK)(u:Value)(s':Shared):Prop:=∃v H',Inv X pins G H' s'/\RelV v u/\Q v H'
abbrev TP(X:Cx)(pins:List (Addr×Obj))(G:St)(Q:Bool->Hp->Prop)(b:Bool)(s':Shared):Prop:=∃H',Inv X pins G H' s'/\Q b H'
abbrev AP(X:Cx)(pins:List (Addr×Obj))(G:St)(Q:List V->Hp->Prop)(us:List Value)(s':Shared):Prop:=∃vs H',Inv X pins G H' s'/\Vals vs us/\Q vs H'
abbrev SP(X:Cx)(pins:List (Addr×Obj))(D:Ends)(f:Flow)(s':Shared):Prop :=
 match f with
 |.next=>∃G' H',Inv X pins G' H' s'/\D.nx G' H'
 |.brk=>∃G' H',Inv X pins G' H' s'/\D.bk G' H'
 |.cont=>∃G' H',Inv X pins G' H' s'/\D.ct G' H'
 |.ret u=>∃v G' H',Inv X pins G' H' s'/\RelV v u/\D.rt v H'
abbrev PE(X:Cx)(e:Expr)(t:TE):Prop :=
 ∀(pins:List (Addr×Obj)) (s:Shared) (G:St) (H:Hp) (Q:VK),Inv X pins G H s->t G H Q->wpAny (model X.prog X.w) X.A (eval e X.env) (EP X pins G Q) X.xe s
abbrev PT(X:Cx)(e:Expr)(t:TT):Prop :=
 ∀(pins:List (Addr×Obj)) (s:Shared) (G:St) (H:Hp) (Q:Bool->Hp->Prop),Inv X pins G H s->t G H Q->wpAny (model X.prog X.w) X.A (isTrue e X.env (eval e X.env)) (TP X pins G Q) X.xe s
abbrev PW(X:Cx)(e:Expr)(t:TT):Prop :=
 ∀(whole:Sem Value) (pins:List (Addr×Obj)) (s:Shared) (G:St) (H:Hp) (Q:Bool->Hp->Prop),Inv X pins G H s->t G H Q->wpAny (model X.prog X.w) X.A (isTrue e X.env whole) (TP X pins G Q) X.xe s
def PW.pt{X:Cx}{e:Expr}{t:TT}(h:PW X e t):PT X e t:=h _
abbrev PA(X:Cx)(es:List Expr)(t:TA):Prop :=
 ∀(pos:Pos) (pins:List (Addr×Obj)) (s:Shared) (G:St) (H:Hp) (Q:List V->Hp->Prop),Inv X pins G H s->t G H Q->wpAny (model X.prog X.w) X.A (spliced (backTo pos (starEach es X.env))) (AP X pins G Q) X.xe s
abbrev PS(X:Cx)(st:Stmt)(t:TS):Prop :=
 ∀(pins:List (Addr×Obj)) (s:Shared) (G:St) (H:Hp) (D:Ends),Inv X pins G H s->t D G H->wpAny (model X.prog X.w) X.A (exec st X.env) (SP X pins D) X.xe s
abbrev tN(X:Cx)(st:List Stmt)(t:TS):Prop :=
 ∀(pins:List (Addr×Obj)) (s:Shared) (G:St) (H:Hp) (D:Ends),Inv X pins G H s->t D G H->wpAny (model X.prog X.w) X.A (execs st X.env) (SP X pins D) X.xe s
def cI{J:Type}{t:Sem J}{Q Q':J->Shared->Prop}{M:Model}{A:Around}{E:Value->Shared->Prop}{s:Shared}(h:wpAny M A t Q E s)(hQ:∀a s,Q a s->Q' a s):wpAny M A t Q' E s:=wpAny_mono h hQ λ_ _ x=>x
section
variable {X:Cx}
abbrev zt(i:Nat):TE:=λG H Q=>∃v,G[i]?=some (some v)/\Q v H
abbrev tC(v:V):TE:=λ_ H Q=>Q v H
def zu{i:Nat}{x:Str}{pos:Pos}(hN:X.N[i]?=some x)(hv:L7 X.env.scope x)(hd:(x == ("__debug__" : Str))=false:=by decide)(hcd:(x == ("__classdict__" : Str))=false:=by decide):PE X (.Name x pos) (zt i):=by
 intro pins s G H Q I h;obtain⟨v,e,h⟩:=h;obtain⟨m,hn,hl⟩:=I.loc;obtain⟨u,r,l⟩:=hl i x v hN e hv;have fin:EP X pins G Q u s:=⟨v,H,I,r,h⟩;rcases l with⟨hk,hm⟩|⟨hk,c,hc,hcell⟩
 exact wpAny_Name (wpAny_loadName_local I.ok.kind hk hn hm fin) hd;rcases hk with hk|hk
 exact wpAny_Name (wpAny_loadName_cell I.ok.kind hk hc hcell fin) hd;exact wpAny_Name (wpAny_loadName_free I.ok.kind hk hc hcell fin hcd) hd
def aE{i j pos}:PE X (.Constant (.int i) j pos) (tC (.int i)):=λ_ _ _ H _ I h=>wpAny_Constant_int ⟨.int i,H,I.tok _,⟨_,rfl⟩,h⟩
def r9{b j pos}:PE X (.Constant (.bool b) j pos) (tC (.bl b)):=λ_ _ _ H _ I h=>Constant_bool ⟨.bl b,H,I,rfl,h⟩
def fO{x j pos}:PE X (.Constant (.str x) j pos) (tC (.str x)):=λ_ _ _ H _ I h=>Calls.Constant_str ⟨.str x,H,I.tok _,⟨_,rfl⟩,h⟩
abbrev Gl(X:Cx)(x:Str):Prop:=X.env.kindOf x=some .globalImplicit
def PH{E:Value->Shared->Prop}{pins:List (Addr×Obj)}{s:Shared}{G:St}{H:Hp}{x:Str}{u:Value}{pos:Pos}{Q:Value->Shared->Prop}(I:Inv X pins G H s)(hg:Gl X x)(hm:X.mg x=some u)(h:Q u s)
  (hd:(x == ("__debug__" : Str))=false:=by decide):wpAny (model X.prog X.w) X.A (eval (.Name x pos) X.env) Q E s :=
 Calls.Name_function_global I.ok.kind hg (Calls.loadGlobal_global (by rw[I.ok.glob];exact I.mod.glob.keeps I.bk) hm h) hd
def xG{E:Value->Shared->Prop}{pins:List (Addr×Obj)}{s:Shared}{G:St}{H:Hp}{x:Str}{u:Value}{pos:Pos}{Q:Value->Shared->Prop}(I:Inv X pins G H s)(hg:Gl X x)(hm:X.mg x=none)(hv:bootBuiltins x=some u)(h:Q u s)
  (hn:x≠"__name__" := by decide) (hd:(x == ("__debug__" : Str))=false:=by decide):wpAny (model X.prog X.w) X.A (eval (.Name x pos) X.env) Q E s:=by
 obtain⟨mb,h1,h2⟩:=I.mod.blt;exact Calls.Name_function_global I.ok.kind hg (Calls.loadGlobal_builtin (by rw[I.ok.glob];exact I.mod.glob.keeps I.bk) hm (by rw[I.ok.blt];exact h1.keeps I.bk) ((h2 x hn).trans hv) h) hd
def PJ{x:Str}{v:V}{u:Value}{pos:Pos}(hg:Gl X x)(hm:X.mg x=some u)(r:RelV v u)(hd:(x == ("__debug__" : Str))=false:=by decide):PE X (.Name x pos) (tC v) :=
 λ_ _ _ H _ I h=>PH I hg hm ⟨v,H,I,r,h⟩ hd
variable {a b:Expr}{ta tb:TE}{pos:Pos}
abbrev PC(X:Cx)(op:CmpOp)(a b:Expr)(t:TE):Prop :=
 ∀(pins:List (Addr×Obj)) (s:Shared) (G:St) (H:Hp) (Q:VK),Inv X pins G H s->t G H Q ->
  wpAny (model X.prog X.w) X.A (eval a X.env) (λv s₁=>wpAny (model X.prog X.w) X.A (eval b X.env) (λu s₂=>wpAny (model X.prog X.w) X.A (compareOp op v u) (EP X pins G Q) X.xe s₂) X.xe s₁) X.xe s
def uF(b:Expr){op:CmpOp}(h:op≠.In)(h2:op≠.NotIn):behindInMarks op b=false:=by
 have e1:(op == CmpOp.In)=false:=by cases op<;>first|rfl|exact absurd rfl h
 have e2:(op == CmpOp.NotIn)=false:=by cases op<;>first|rfl|exact absurd rfl h2
 cases b<;>simp[behindInMarks,e1,e2]
abbrev tB(t:TE):TT:=λG H Q=>t G H λx H1=>∃c,x=.bl c/\Q c H1
def PK{op:CmpOp}{t:TE}(h:PC X op a b t)(h1:behindInMarks op b=false:=by first|exact uF _ ∅ ∅|rfl):PT X (.Compare a [op] [b] pos) (tB t):=by intro pins s G H Q I hw;refine wpAny_isTrue_Compare1 (cI (h pins s G H _ I hw) λv s1 h1=>cI h1 λu s2 h2=>cI h2 λc s3 ⟨x,H1,I1,r1,q1⟩=>?_) h1;obtain⟨d,rfl,q⟩:=q1;cases r1;exact wpAny_truthy_bool ⟨H1,I1,q⟩
def Mb{e:Expr}{t:TE}(h:PE X e t)(he:∀whole,isTrue e X.env whole=(do let v <- whole;standAt e.pos;holding [v] (truthy v)):=by intro _;rfl):PT X e (tB t):=by intro pins s G H Q I hw;refine isTrue_plain (cI (h pins s G H _ I hw) λv s1 ⟨x,H1,I1,r1,q1⟩=>?_) (he _);obtain⟨d,rfl,q⟩:=q1;cases r1;exact wpAny_truthy_bool ⟨H1,I1,q⟩
variable {tA Jv:TT}{rest:List Expr}
abbrev DJ(t u:TT):TT:=λG H Q=>t G H λc H1=>if c=true then u G H1 Q else Q false H1
abbrev PL(t u:TT):TT:=λG H Q=>t G H λc H1=>if c=true then Q true H1 else u G H1 Q
abbrev DK(t:TT):TT:=λG H Q=>t G H λc H1=>Q (!c) H1
def Jw(ha:PT X a tA):PW X (.BoolOp .And [a] pos) tA:=by
 intro wh pins s G H Q I h;refine isTrue_and (cI (ha pins s G H Q I h) λc s1 e=>?_);cases c with
 |true=>exact isTrue_and_nil e
 |false=>exact e
def Mc(ha:PT X a tA):PW X (.BoolOp .Or [a] pos) tA:=by
 intro wh pins s G H Q I h;refine isTrue_or (cI (ha pins s G H Q I h) λc s1 e=>?_);cases c with
 |false=>exact isTrue_or_nil e
 |true=>exact e
def Jx(ha:PT X a tA)(hb:PW X (.BoolOp .And (b :: rest) pos) Jv):PW X (.BoolOp .And (a :: b :: rest) pos) (DJ tA Jv):=by
 intro wh pins s G H Q I h;refine isTrue_and (cI (ha pins s G H _ I h) λc s1 ⟨H1,I1,q1⟩=>?_);cases c with
 |true=>exact hb wh pins s1 G H1 Q I1 q1
 |false=>exact⟨H1,I1,q1⟩
def Md(ha:PT X a tA)(hb:PW X (.BoolOp .Or (b :: rest) pos) Jv):PW X (.BoolOp .Or (a :: b :: rest) pos) (PL tA Jv):=by
 intro wh pins s G H Q I h;refine isTrue_or (cI (ha pins s G H _ I h) λc s1 ⟨H1,I1,q1⟩=>?_);cases c with
 |true=>exact⟨H1,I1,q1⟩
 |false=>exact hb wh pins s1 G H1 Q I1 q1
def Me(ha:PT X a tA):PT X (.UnaryOp .Not a pos) (DK tA):=by intro pins s G H Q I h;exact isTrue_not (ha pins s G H (λc H1=>Q (!c) H1) I h)
abbrev xH(ta tb:TE):TE:=λG H Q=>ta G H λx H1=>∃c,x=.bl c/\if c=true then tb G H1 Q else Q (.bl false) H1
def zv{op}{t:TE}(h:PE X a t):PE X (.BoolOp op [a] pos) t:=λpins s G H Q I hw=>BoolOp_one (h pins s G H Q I hw)
def zw(ha:PE X a ta)(hb:PE X (.BoolOp .And (b :: rest) pos) tb):PE X (.BoolOp .And (a :: b :: rest) pos) (xH ta tb):=by
 intro pins s G H Q I h;refine BoolOp_and (cI (ha pins s G H _ I h) λv s1 ⟨x,H1,I1,r1,q1⟩=>?_);obtain⟨c,rfl,q1⟩:=q1;cases r1;refine wpAny_truthy_bool ?_;cases c with
 |true=>exact hb pins s1 G H1 Q I1 q1
 |false=>exact⟨.bl false,H1,I1,rfl,q1⟩
end
abbrev kR(K:Zfr)(H:Hp)(a:Addr)(xs:List V):Prop :=
 Rd H a (.lst xs) \/
  ∃(o:Obj) (its:Array Value) (n:Nat),K.lookup a=some o/\o.cls=.type "list" /\ o.dict=none/\o.data=.seq its n/\its.size<=sizeLine/\Vals xs its.toList
abbrev gS(K:Zfr)(H:Hp)(a:Addr)(xs:List V):Prop :=
 Rd H a (.tup xs) \/
  ∃(o:Obj) (its:Array Value) (n:Nat),K.lookup a=some o/\o.cls=.type "tuple" /\ o.dict=none/\o.data=.seq its n/\its.size<=sizeLine/\Vals xs its.toList
abbrev Mf:Value->Option V
 |.none=>some .non
 |.bool b=>some (.bl b)
 |.int i _=>some (.int i)
 |.str x _=>some (.str x)
 |.bytes b _=>some (.uE b)
 |.float b _=>some (.L3 b)
 |.ref a=>some (.ref a)
 |.type n=>some (.ty n)
 |_=>none
def RelV.abs{x:V}{u:Value}(r:RelV x u):Mf u=some x:=by
 cases x with
 |non=>cases r;rfl
 |bl _=>cases r;rfl
 |int _=>obtain⟨t,rfl⟩:=r;rfl
 |str _=>obtain⟨t,rfl⟩:=r;rfl
 |uE _=>obtain⟨t,rfl⟩:=r;rfl
 |L3 _=>obtain⟨t,rfl⟩:=r;rfl
 |ref _=>cases r;rfl
 |ty _=>cases r;rfl
def RelV.inj{x y:V}{u:Value}(r:RelV x u)(q:RelV y u):x=y:=Zai (r.abs.symm.trans q.abs)
def Vals.inj:∀{xs ys:List V} {us:List Value},Vals xs us->Vals ys us->xs=ys
 |_,_,_,.nil,.nil=>rfl
 |_,_,_,.cons r t,.cons r' t'=>by rw[r.inj r',Vals.inj t t']
section
variable {X:Cx}{pins:List (Addr×Obj)}{G:St}{H:Hp}{s:Shared}{a:Addr}{xs ys:List V}
def gS.of{K:Zfr}(h:H a=some (.tup xs)):gS K H a xs:=.inl (.inl h)
def Inv.list(I:Inv X pins G H s)(h:kR X.K H a xs):∃its:List Value,Vals xs its/\PlainL s.heap a its.toArray/\xs.length<=sizeLine:=by
 rcases h with h|⟨o,its,n,hk,hc,hd,hs,hz,r⟩
 obtain⟨z,its,n,r,e⟩:=h.ok I.hok;exact⟨its,r,⟨_,n,e,rfl,rfl,rfl⟩,z⟩;refine⟨its.toList,r,⟨o,n,I.DE a o hk,hc,hd,by simpa using hs⟩,?_⟩;have e:=r.length;simp only[Zb7]at e;lk
def Inv.sa(I:Inv X pins G H s)(h:gS X.K H a xs):∃its:List Value,Vals xs its/\qj s.heap a its.toArray/\xs.length<=sizeLine:=by
 rcases h with h|⟨o,its,n,hk,hc,hd0,hs,hz,r⟩
 obtain⟨z,its,r,p⟩:=h.ok I.hok;exact⟨its,r,p,z⟩;refine⟨its.toList,r,⟨o,I.DE a o hk,hc,hd0,n,by simpa using hs⟩,?_⟩;have e:=r.length;simp only[Zb7]at e;lk
def Inv.tuple(I:Inv X pins G H s)(h:gS X.K H a xs):∃its:List Value,Vals xs its/\IsTup s.heap a its.toArray/\xs.length<=sizeLine :=
 let ⟨its,r,p,z⟩:=I.sa h
 ⟨its,r,p.tup,z⟩
def Inv.o7(I:Inv X pins G H s)(h:kR X.K H a xs)(h':kR X.K H a ys):xs=ys:=by
 obtain⟨its,r,⟨o,n,e,_,_,d⟩,_⟩:=I.list h;obtain⟨its',r',⟨o',n',e',_,_,d'⟩,_⟩:=I.list h';rw[e]at e';cases e';rw[d]at d';injection d' with d1 _;have:its=its':=by simpa using congrArg Array.toList d1
 subst this;exact r.inj r'
def Inv.jP(I:Inv X pins G H s)(h:gS X.K H a xs)(h':gS X.K H a ys):xs=ys:=by
 obtain⟨its,r,⟨o,e,_,n,d⟩,_⟩:=I.tuple h;obtain⟨its',r',⟨o',e',_,n',d'⟩,_⟩:=I.tuple h';rw[e]at e';cases e';rw[d]at d';injection d' with d1 _;have:its=its':=by simpa using congrArg Array.toList d1
 subst this;exact r.inj r'
end
@[reducible]def Cx.wish(X:Cx)(E:Value->Shared->Prop):Cx:={ X with xe:=E }
@[reducible]def Cx.qU(X:Cx):Cx:=X.wish λ_ _=>False
def Cx.Ok.wish{X:Cx}(ok:X.Ok)(E:Value->Shared->Prop):(X.wish E).Ok :=
 ⟨ok.mod,ok.kind,ok.glob,ok.blt,ok.above,ok.inj,ok.has,ok.DC,ok.hd,ok.frames,ok.stk,ok.Pz,ok.bs,ok.vK,ok.rZ,ok.wj,ok.o5,ok.Cr⟩
def Cx.Ok.lx{X:Cx}{E:Value->Shared->Prop}(ok:(X.wish E).Ok):X.Ok :=
 ⟨ok.mod,ok.kind,ok.glob,ok.blt,ok.above,ok.inj,ok.has,ok.DC,ok.hd,ok.frames,ok.stk,ok.Pz,ok.bs,ok.vK,ok.rZ,ok.wj,ok.o5,ok.Cr⟩
section
variable {X:Cx}{pins:List (Addr×Obj)}{G:St}{H:Hp}{s:Shared}{E:Value->Shared->Prop}
def Inv.wish(I:Inv X pins G H s)(E:Value->Shared->Prop):Inv (X.wish E) pins G H s:=⟨I.ok.wish E,I.os,I.bare,I.base,I.loc,I.cell,I.free,I.mF,I.pin,I.hok,I.len⟩
def Inv.lx(I:Inv (X.wish E) pins G H s):Inv X pins G H s:=⟨I.ok.lx,I.os,I.bare,I.base,I.loc,I.cell,I.free,I.mF,I.pin,I.hok,I.len⟩
def SP.lx{D:Ends}{f:Flow}{s':Shared}(h:SP (X.wish E) pins D f s'):SP X pins D f s':=by
 cases f with
 |next=>obtain⟨G',H',I,q⟩:=h;exact⟨G',H',I.lx,q⟩
 |brk=>obtain⟨G',H',I,q⟩:=h;exact⟨G',H',I.lx,q⟩
 |cont=>obtain⟨G',H',I,q⟩:=h;exact⟨G',H',I.lx,q⟩
 |ret u=>obtain⟨v,G',H',I,r,q⟩:=h;exact⟨v,G',H',I.lx,r,q⟩
def tN.qU{st:List Stmt}{t:TS}(h:tN X.qU st t):tN X st t:=λpins s G H D I hw =>
 wpAny_mono (h pins s G H D (I.wish _) hw) (λ_ _ q=>q.lx) λ_ _ z=>False.elim z
end
section
variable {X:Cx}{st:Stmt}{rest:List Stmt}{t u:TS}{e:Expr}{te:TE}{pos:Pos}
abbrev xI:TS:=λD G H=>D.nx G H
abbrev DL(t u:TS):TS:=λD G H=>t { D with nx:=u D } G H
def la:tN X [] xI:=λ_ _ G H _ I h=>wpAny_execs_nil ⟨G,H,I,h⟩
def Cs(h1:PS X st t)(h2:tN X rest u):tN X (st :: rest) (DL t u):=by
 intro pins s G H D I h;refine wpAny_execs_cons (cI (h1 pins s G H { D with nx:=u D } I h) λf s1 q=>?_);cases f with
 |next =>
  obtain⟨G',H',I',q⟩:=q;exact h2 pins s1 G' H' D I' q
 |ret v=>exact q
 |brk=>exact q
 |cont=>exact q
def Jy(h1:PS X st t):tN X [st] t:=by
 intro pins s G H D I h;refine wpAny_execs_cons (cI (h1 pins s G H D I h) λf s1 q=>?_);cases f with
 |next=>exact wpAny_execs_nil q
 |ret v=>exact q
 |brk=>exact q
 |cont=>exact q
def Inv.quiet{pins:List (Addr×Obj)}{G:St}{H:Hp}{s:Shared}(I:Inv X pins G H s):interactive X.env=false:=by simp[interactive,I.ok.kind]
abbrev xJ(te:TE):TS:=λD G H=>te G H λ_ H1=>D.nx G H1
def zx(he:PE X e te)(hs:swapsWith e none pos.line X.env=pure false:=by rfl):PS X (.Expr e pos) (xJ te):=by intro pins s G H D I h;exact wpAny_Expr_any (cI (he pins s G H _ I h) λv s1 ⟨x,H1,I1,r1,q1⟩=>⟨G,H1,I1,q1⟩) I.quiet hs
abbrev DM(te:TE):TS:=λD G H=>te G H D.rt
def cD(he:PE X e te):PS X (.Return (some e) pos) (DM te):=by intro pins s G H D I h;exact wpAny_Return_some (cI (he pins s G H _ I h) λv s1 ⟨x,H1,I1,r1,q1⟩=>⟨x,G,H1,I1,r1,q1⟩)
abbrev DN(c:TT)(t u:TS):TS:=λD G H=>c G H λb H1=>if b=true then t D G H1 else u D G H1
def xK{c:Expr}{a b:List Stmt}{tc:TT}(hc:PT X c tc)(ha:tN X a t)(hb:tN X b u):PS X (.If c a b pos) (DN tc t u):=by
 intro pins s G H D I h;refine wpAny_If (cI (hc pins s G H _ I h) λd s1 ⟨H1,I1,q1⟩=>?_);cases d with
 |true=>exact ha pins s1 G H1 D I1 q1
 |false=>exact hb pins s1 G H1 D I1 q1
abbrev uG:TS:=λ_ _ _=>False
def VF:PS X st uG:=λ_ _ _ _ _ _ h=>h.elim
end
@[reducible]def TG:=V->St->Hp->(St->Hp->Prop)->Prop
@[reducible]def uH:=List V->St->Hp->(St->Hp->Prop)->Prop
abbrev PG(X:Cx)(target:Expr)(t:TG):Prop :=
 ∀(pins:List (Addr×Obj)) (s:Shared) (G:St) (H:Hp) (v:V) (u:Value) (Q:St->Hp->Prop),Inv X pins G H s->RelV v u->t v G H Q ->
  wpAny (model X.prog X.w) X.A (assign target X.env u) (λ_ s'=>∃G' H',Inv X pins G' H' s'/\Q G' H') X.xe s
abbrev DO(X:Cx)(ts:List Expr)(t:uH):Prop :=
 ∀(pins:List (Addr×Obj)) (s:Shared) (G:St) (H:Hp) (vs:List V) (us:List Value) (Q:St->Hp->Prop),Inv X pins G H s->Vals vs us->t vs G H Q ->
  wpAny (model X.prog X.w) X.A (assignInOrder ((assignEach ts X.env).map (·.2)) us) (λ_ s'=>∃G' H',Inv X pins G' H' s'/\Q G' H') X.xe s
@[reducible]def zy:=V->V->V->Hp->(Hp->Prop)->Prop
abbrev DP(X:Cx)(t:zy):Prop :=
 ∀(pins:List (Addr×Obj)) (s:Shared) (G:St) (H:Hp) (o i v:V) (ov iv u:Value) (Q:Hp->Prop),Inv X pins G H s->RelV o ov->RelV i iv->RelV v u->t o i v H Q ->
  wpAny (model X.prog X.w) X.A (setItem ov iv u) (λ_ s'=>∃H',Inv X pins G H' s'/\Q H') X.xe s
section
variable {X:Cx}{pos:Pos}
abbrev rg(i:Nat):TG:=λv G H Q=>Q (G.set i (some v)) H
def fm{i:Nat}{x:Str}(hN:X.N.Nodup)(hi:X.N[i]?=some x)(hx:Loc X.env.scope x)(hf:X.fn x=true\/X.env.scope.names.lookup x=some .local:=by first|exact .inl rfl|exact .inr rfl|assumption):PG X (.Name x pos) (rg i):=by intro pins s G H v u Q I r h;exact wpAny_assign_Name (Ju I hN hi hx r (λs' I'=>⟨_,H,I',h⟩) hf)
abbrev DQ:uH:=λvs G H Q=>vs=[]/\Q G H
abbrev xM(t:TG)(u:uH):uH:=λvs G H Q=>∃v r,vs=v :: r/\t v G H λG' H'=>u r G' H' Q
def xN:DO X [] DQ:=by intro pins s G H vs us Q I r h;obtain⟨e,h⟩:=h;subst e;cases r;exact assignInOrder_nil ⟨G,H,I,h⟩
def rO{e:Expr}{es:List Expr}{t:TG}{u:uH}(h1:PG X e t)(h2:DO X es u)
  (hs:(assignEach (e :: es) X.env).map (·.2)=assign e X.env :: (assignEach es X.env).map (·.2):=by rfl):DO X (e :: es) (xM t u):=by
 intro pins s G H vs us Q I r h;obtain⟨v,vr,e1,h⟩:=h;subst e1;cases r with
 |cons r rr =>
  rw[hs];refine assignInOrder_cons (cI (h1 pins s G H _ _ _ I r h) λ_ s1 ⟨G1,H1,I1,q1⟩=>?_);exact h2 pins s1 G1 H1 _ _ Q I1 rr q1
abbrev zz(K:Zfr)(n:Nat)(t:uH):TG:=λv G H Q=>∃a xs,v=.ref a/\gS K H a xs/\xs.length=n/\t xs G H Q
def xO{es:List Expr}{k:Nat}{t:uH}{n:Nat}(hc:X.calm=true)(h:DO X es t)
  (hn:(assignEach es X.env).length=n:=by rfl) (hst:(assignEach es X.env).findIdx? (·.1)=none:=by rfl):PG X (.Tuple es k pos) (zz X.K n t):=by
 intro pins s G H v u Q I r hw;obtain⟨a,xs,e1,hq,hl,hw⟩:=hw;subst e1;cases r;obtain⟨its,rv,ht,hz⟩:=I.tuple hq;refine assign_Tuple_tuple (I.ok.hd hc) ht (by simp[hn,<- hl,rv.length]) hst λh' hx=>?_;have I1:Inv X pins G H { s with heap:=h' }:=I.kept (t':=s.toks) λb o e=>hx b o (ZaX (Zaq e)) e;exact h pins _ G H xs _ Q I1 (by simpa using rv) hw
abbrev mw(to ti:TE)(t:zy):TG:=λv G H Q=>to G H λo H1=>ti G H1 λi H2=>t o i v H2 λH3=>Q G H3
def rP{o i:Expr}{to ti:TE}{t:zy}(ho:PE X o to)(hi:PE X i ti)(hs:DP X t)
  (ha:∀v,assign (.Subscript o i pos) X.env v=(do
   let ov <- holding [v] (eval o X.env)
   let iv <- holding [v,ov] (eval i X.env)
   standAt pos
   holding [v,ov,iv] (setItem ov iv v)
   release [v,ov,iv] []):=by intro _;rfl):PG X (.Subscript o i pos) (mw to ti t):=by
 intro pins s G H v u Q I r h;rw[ha];refine wpAny_bind (wpAny_holding (cI (ho pins s G H _ I h) λov s1 ⟨x,H1,I1,r1,q1⟩=>?_));refine wpAny_bind (wpAny_holding (cI (hi pins s1 G H1 _ I1 q1) λiv s2 ⟨y,H2,I2,r2,q2⟩=>?_));refine wpAny_bind (wpAny_standAt (wpAny_bind (wpAny_holding (cI (hs pins s2 G H2 x y v ov iv u _ I2 r1 r2 r q2) λ_ s3 ⟨H3,I3,q3⟩=>?_))));exact wpAny_release ⟨G,H3,I3,q3⟩
abbrev wk(te:TE)(g:TG):TS:=λD G H=>te G H λx H1=>g x G H1 D.nx
def sd{tg e:Expr}{te:TE}{g:TG}(he:PE X e te)(hg:PG X tg g)(hs:swapsWithSole [tg] e pos.line X.env=pure false:=by rfl)(hw:swappedStores [tg] e X.env=pure none:=by rfl)
  (h1:(assignEach [tg] X.env).map (·.2)=[assign tg X.env]:=by rfl):PS X (.Assign [tg] e pos) (wk te g):=by
 intro pins s G H D I h;refine wpAny_Assign_stores (cI (he pins s G H _ I h) λv s1 ⟨x,H1,I1,r1,q1⟩=>?_) hs hw;rw[h1];exact cI (hg pins s1 G H1 x v _ I1 r1 q1) λ_ s2 q=>q
def Jz{i:Nat}{x:Str}{e:Expr}{te:TE}{pos':Pos}(hN:X.N.Nodup)(hi:X.N[i]?=some x)(hx:Loc X.env.scope x)(he:PE X e te)(hs:swapsWith e (some (.Name x pos')) pos.line X.env=pure false:=by rfl)(hf:X.fn x=true\/X.env.scope.names.lookup x=some .local:=by first | exact .inl rfl | exact .inr rfl | assumption):
  PS X (.Assign [.Name x pos'] e pos) (wk te (rg i)):=by
 intro pins s G H D I h;refine wpAny_Assign_Name (cI (he pins s G H _ I h) λv s1 ⟨y,H1,I1,r1,q1⟩=>?_) hs;exact Ju I1 hN hi hx r1 (λs2 I2=>⟨_,H1,I2,q1⟩) hf
abbrev DR(i j:Nat)(ta:TA):TS:=λD G H=>ta G H λvs H1=>∃v w,vs=[v,w]/\D.nx ((G.set i (some v)).set j (some w)) H1
def DS{i j:Nat}{x y:Str}{a b:Expr}{ta:TA}{px py pt:Pos}{kt k2 Mg}(hc:X.calm=true)(hN:X.N.Nodup)(hi:X.N[i]?=some x)(hj:X.N[j]?=some y)(hij:i≠j)
  (hx:X.env.scope.names.lookup x=some .local) (hy:X.env.scope.names.lookup y=some .local) (ha:PA X [a,b] ta)
  (hw:swappedStores [.Tuple [.Name x px,.Name y py] kt pt] (.Tuple [a,b] k2 Mg) X.env=pure (some [x,y]))
  (hs:swapsWithSole [.Tuple [.Name x px,.Name y py] kt pt] (.Tuple [a,b] k2 Mg) pos.line X.env=pure false:=by rfl) :
  PS X (.Assign [.Tuple [.Name x px,.Name y py] kt pt] (.Tuple [a,b] k2 Mg) pos) (DR i j ta):=by
 intro pins s G H D I h;rw[exec_Assign_arm];refine wpAny_bind (wpAny_standAt ?_);rw[hs];refine wpAny_bind (wpAny_pure ?_);rw[if_neg ∅];refine wpAny_bind (Tuple_ (cI (ha _ pins s G H _ I h) λus s1 ⟨vs,H1,I1,r1,q1⟩=>?_));obtain⟨v,w,e1,q1⟩:=q1;subst e1;obtain⟨u1,u2,rfl,rv,rw'⟩:∃u1 u2,us=[u1,u2]/\RelV v u1/\RelV w u2:=by
  cases r1 with
  |cons p q =>
   cases q with
   |cons p' q' =>
    cases q';exact⟨_,_,rfl,p,p'⟩
 refine wpAny_newObj_type ?_ (by show 2<=sizeLine;decide);have I2:Inv X pins G H1 { s1 with heap:=s1.heap.push { cls:=.type "tuple",data:=.seq [u1,u2].toArray } }:=I1.kept (t':=s1.toks) λb o e=>Zac _ e;rw[hw];refine wpAny_bind (wpAny_pure ?_);show wpAny (model X.prog X.w) X.A (do rule "assign.swapped-stores";let items <- unpackItems (.ref s1.heap.objs.size) 2 none;assignInOrder [λv=>bindName X.env y v,λv=>bindName X.env x v] items.reverse;pure Flow.next) _ _ _;refine wpAny_bind (wpAny_rule (wpAny_bind (unpackItems_tuple (items:=#[u1,u2]) (I.ok.hd hc) (IsTup.new s1.heap _) λh' hx'=>?_)));have I3:=I2.kept (h':=h') (t':=s1.toks) λb o e=>hx' b o (ZaX (Zaq e)) e;show wpAny _ _ (assignInOrder [λv=>bindName X.env y v,λv=>bindName X.env x v] [u2,u1] >>= λ_=>pure Flow.next) _ _ _;refine wpAny_bind (assignInOrder_cons (wpAny_bindName (Ju I3 hN hj (.inl hy) rw' (λs2 I4=>?_) (.inr hy))));refine assignInOrder_cons (wpAny_bindName (Ju I4 hN hi (.inl hx) rv (λs3 I5=>assignInOrder_nil (wpAny_pure ?_)) (.inr hx)));rw[List.set_comm _ _ (Ne.symm hij)]at I5;exact⟨_,H1,I5,q1⟩
end
section
variable {X:Cx}{pos:Pos}
abbrev uI(c:TT)(tb:TS):TS:=λD G H=>∃W:Nat->St->Hp->Prop,(∃m,W m G H)/\∀m G H,W m G H ->
 c G H λb H1=>if b=true then∃N:St->Hp->Prop,(∀G' H',N G' H'->∃m',m' < m/\W m' G' H')/\tb { D with nx:=N,ct:=N,bk:=D.nx } G H1 else D.nx G H1
def zA{c:Expr}{body:List Stmt}{tc:TT}{tb:TS}(hp:PassesOwn (model X.prog X.w) X.A X.env X.xe)(hc:PT X c tc)(hb:tN X body tb):PS X (.While c body [] pos) (uI tc tb):=by
 intro pins s G H D I h;obtain⟨W,⟨m0,w0⟩,turn⟩:=h;refine wpAny_While (codeAny_whileLoop (λn s'=>∃G' H',Inv X pins G' H' s'/\W n G' H') ?_ m0 ⟨G,H,I,w0⟩);rintro n s1 ⟨G1,H1,I1,w1⟩;refine wpAny_passesOwn hp (cI (hc pins s1 G1 H1 _ I1 (turn n G1 H1 w1)) λb s2 ⟨H2,I2,q2⟩=>?_);cases b with
 |true =>
  obtain⟨N,hN,q2⟩:=q2;rw[if_pos rfl];refine wpAny_passesOwn hp (cI (hb pins s2 G1 H2 _ I2 q2) λf s3 q3=>?_);cases f with
  |next =>
   obtain⟨G3,H3,I3,n3⟩:=q3;obtain⟨m',hm,w3⟩:=hN G3 H3 n3;exact⟨m',hm,G3,H3,I3,w3⟩
  |cont =>
   obtain⟨G3,H3,I3,n3⟩:=q3;obtain⟨m',hm,w3⟩:=hN G3 H3 n3;exact⟨m',hm,G3,H3,I3,w3⟩
  |brk=>exact q3
  |ret v=>exact q3
 |false =>
  rw[if_neg Zal];exact wpAny_execs_nil ⟨G1,H2,I2,q2⟩
end
set_option genInjectivity false in
structure It where
 go:Nat->Hp->Prop
 wm:Nat->Hp->V->Hp->Prop
 stop:Nat->Hp->Prop
abbrev iC(X:Cx)(pins:List (Addr×Obj))(H:Hp)(b:Addr):Prop :=
 H b=none/\b≠X.env.locals/\b ∉ X.fs/\(b∈X.ex\/X.s₀.heap.objs.size<=b)/\(∀x c,X.env.cells.lookup x=some c->c≠b)/\∀p∈X.pn ++ pins,p.1≠b
def Inv.o8{X:Cx}{pins:List (Addr×Obj)}{G:St}{H H':Hp}{s:Shared}{b:Addr}(I:Inv X pins G H s)(hb:s.heap.objs.size<=b)(hn:H' b=none):iC X pins H' b:=by refine⟨hn,Nat.ne_of_gt (ZaF I.lt hb),I.DF hb,.inr (Zaw I.sz hb),λx c e z=>?_,λp hp z=>?_⟩;obtain⟨v,q⟩:=I.cell x c e;exact absurd (ZaF q.lt (by rw[z];exact hb)) (ZbP _);exact absurd (ZaF (Zaq (I.pin p hp).1) (by rw[z];exact hb)) (ZbP _)
structure Turn(P:Program)(w:World)(K:Zfr)(tg:Expr)(J:It)(fp:List Addr)(it:Addr)(tn:Nat->Heap->Prop):Prop where
 mem:it∈fp
 obj:∀i h,tn i h->∀b∈fp,∃o,h.get? b=some o/\∀v,o.data≠.cell v
 keep:∀i h h',tn i h->(∀b∈fp,∀o,h.get? b=some o->h'.get? b=some o)->tn i h'
 item:∀(X:Cx),X.prog=P->X.w=w->X.K=K->X.calm=true->∀(i:Nat) (pins:List (Addr×Obj)) (s:Shared) (G:St) (H:Hp) (E:Value->Shared->Prop),Inv X pins G H s->(∀b∈fp,iC X pins H b)->tn i s.heap->J.go i H ->
  wpAny (model P w) X.A (pyNext (.ref it)) (λr s1=>∃u,r=some u /\
   wpAny (model P w) X.A (letOwnedTupleGo tg (.ref it) u) (λ_ s2=>∃x H',Inv X pins G H' s2/\RelV x u/\J.wm i H x H'/\tn (i+1) s2.heap/\∀b∈fp,H' b=none) E s1) E s
 done:∀(X:Cx),X.prog=P->X.w=w->X.K=K->X.calm=true->∀(i:Nat) (pins:List (Addr×Obj)) (s:Shared) (G:St) (H:Hp) (E:Value->Shared->Prop),Inv X pins G H s->(∀b∈fp,iC X pins H b)->tn i s.heap->J.stop i H ->
  wpAny (model P w) X.A (pyNext (.ref it)) (λr s1=>r=none/\Inv X pins G H s1) E s
 self:∀(A:Around) (i:Nat) (s:Shared) (Q:Value->Shared->Prop) (E:Value->Shared->Prop),tn i s.heap->Q (.ref it) s->wpAny (model P w) A (pyIter (.ref it)) Q E s
@[reducible]def TI:=St->Hp->(It->Hp->Prop)->Prop
abbrev JA(X:Cx)(pins:List (Addr×Obj))(G:St)(tg:Expr)(R:It->Hp->Prop)(itv:Value)(s2:Shared):Prop :=
 ∃(it:Addr) (fp:List Addr) (tn:Nat->Heap->Prop) (J:It) (H':Hp),itv=.ref it/\Inv X pins G H' s2/\Turn X.prog X.w X.K tg J fp it tn/\tn 0 s2.heap/\(∀b∈fp,iC X pins H' b)/\R J H'
abbrev PI(X:Cx)(tg iter:Expr)(wi:TI):Prop :=
 ∀(pins:List (Addr×Obj)) (s:Shared) (G:St) (H:Hp) (R:It->Hp->Prop),Inv X pins G H s->wi G H R ->
  wpAny (model X.prog X.w) X.A (eval iter X.env) (λv s1=>wpAny (model X.prog X.w) X.A (pyIter v) (JA X pins G tg R) X.xe s1) X.xe s
def zB{M:Model}{A:Around}{E:Value->Shared->Prop}{s:Shared}{tg:Expr}{it:Addr}{u:Value}{o:Obj}{n:String}{vs:Array Value}{Q:Unit->Shared->Prop}(ho:s.heap.get? it=some o)(hc:o.cls=.type n)(hd:o.data=.fields vs)
  (hn:["enumerate","zip","dict_itemiterator","dict_reverseitemiterator","odict_iterator","itertools.zip_longest","itertools.pairwise"].contains n=false) (hQ:Q () s):wpAny M A (letOwnedTupleGo tg (.ref it) u) Q E s:=by
 unfold letOwnedTupleGo;cases tg<;>first
  |exact wpAny_pure hQ
  | (cases u <;> first
    |exact wpAny_pure hQ
    | (refine wpAny_bind (wpAny_load ho ?_)
       rw[hc,hd];show wpAny M A (if(["enumerate","zip","dict_itemiterator","dict_reverseitemiterator","odict_iterator","itertools.zip_longest","itertools.pairwise"].contains n && vs[0]? == some (rawInt _))=true then _ else _) Q E s;rw[if_neg (by intro h;rw[hn,Bool.false_and]at h;cases h)]
       exact wpAny_pure hQ))
abbrev PN(K:Zfr)(a:Addr):It :=
 ⟨λi H=>∃xs x,kR K H a xs/\xs[i]?=some x,λi H x H'=>H'=H/\∀xs,kR K H a xs->xs[i]?=some x,λi H=>∃xs,kR K H a xs/\xs.length<=i⟩
abbrev PQ(K:Zfr)(a:Addr):It :=
 ⟨λi H=>∃xs x,gS K H a xs/\xs[i]?=some x,λi H x H'=>H'=H/\∀xs,gS K H a xs->xs[i]?=some x,λi H=>∃xs,gS K H a xs/\xs.length<=i⟩
abbrev JB(lo:Int)(n:Nat):It:=⟨λi _=>i<n,λi H x H'=>H'=H/\x=.int (lo+i),λi _=>n<=i⟩
def VG{P:Program}{w:World}{K:Zfr}{tg:Expr}(a it:Addr):Turn P w K tg (PN K a) [it] it (λi h=>h.IsListIter it a i) where
 mem:=by simp
 obj:=λi h st b hb=>by
  have e:b=it:=by simpa using hb
  subst e;obtain⟨o,e,c,d⟩:=st;exact⟨o,e,λv z=>by rw[d]at z;cases z⟩
 keep:=λi h h' st k=>st.at λo e=>k it (by simp) o e
 item:=by
  intro X hP hw hK hc i pins s G H E I hf st hg;subst hP hw hK;obtain⟨xs,x,hq,hx⟩:=hg;obtain⟨its,rv,p,hz⟩:=I.list hq;obtain⟨u,hu,ru⟩:=rv.get hx;obtain⟨f0,f1,f2,f3,f4,f5⟩:=hf it (by simp);refine wpAny_pyNext_list_item st p.isList (x:=u) (by simpa using hu) λh' st' sb=>?_;have I1:Inv X pins G H { s with heap:=h' }:=I.turned (t':=s.toks) (λb o hb e=>(sb.2 b hb).trans e) f0 f1 f3 f4 f5;obtain⟨o,e,c,d⟩:=id st';exact⟨u,rfl,zB (s:={ s with heap:=h' }) e c d ∅ ⟨x,H,I1,ru,⟨rfl,λys hy=>by rw[I.o7 hy hq];exact hx⟩,st',λb hb=>(hf b hb).1⟩⟩
 done:=by
  intro X hP hw hK hc i pins s G H E I hf st hg;subst hP hw hK;obtain⟨xs,hq,hx⟩:=hg;obtain⟨its,rv,p,hz⟩:=I.list hq;obtain⟨f0,f1,f2,f3,f4,f5⟩:=hf it (by simp);have hl:=rv.length;exact wpAny_pyNext_list_end (I.ok.hd hc) st p.isList (by simp;lk) λh' eb=>⟨rfl,I.turned (t':=s.toks) (λb o hb e=>eb b o hb e) f0 f1 f3 f4 f5⟩
 self:=λ_ _ _ _ _ st h=>wpAny_pyIter_listiter st h
def VH{P:Program}{w:World}{K:Zfr}{tg:Expr}(a it:Addr):Turn P w K tg (PQ K a) [it] it (λi h=>h.IsTupleIter it a i) where
 mem:=by simp
 obj:=λi h st b hb=>by
  have e:b=it:=by simpa using hb
  subst e;obtain⟨o,e,c,d⟩:=st;exact⟨o,e,λv z=>by rw[d]at z;cases z⟩
 keep:=λi h h' st k=>st.at λo e=>k it (by simp) o e
 item:=by
  intro X hP hw hK hc i pins s G H E I hf st hg;subst hP hw hK;obtain⟨xs,x,hq,hx⟩:=hg;obtain⟨its,rv,p,hz⟩:=I.tuple hq;obtain⟨u,hu,ru⟩:=rv.get hx;obtain⟨f0,f1,f2,f3,f4,f5⟩:=hf it (by simp);refine wpAny_pyNext_tuple_item st (show s.heap.IsTuple a its.toArray from p) (x:=u) (by simpa using hu) λh' st' sb=>?_;have I1:Inv X pins G H { s with heap:=h' }:=I.turned (t':=s.toks) (λb o hb e=>(sb.2 b hb).trans e) f0 f1 f3 f4 f5;obtain⟨o,e,c,d⟩:=id st';exact⟨u,rfl,zB (s:={ s with heap:=h' }) e c d ∅ ⟨x,H,I1,ru,⟨rfl,λys hy=>by rw[I.jP hy hq];exact hx⟩,st',λb hb=>(hf b hb).1⟩⟩
 done:=by
  intro X hP hw hK hc i pins s G H E I hf st hg;subst hP hw hK;obtain⟨xs,hq,hx⟩:=hg;obtain⟨its,rv,p,hz⟩:=I.tuple hq;obtain⟨f0,f1,f2,f3,f4,f5⟩:=hf it (by simp);have hl:=rv.length;exact wpAny_pyNext_tuple_end (I.ok.hd hc) st (show s.heap.IsTuple a its.toArray from p) (by simp;lk) λh' eb=>⟨rfl,I.turned (t':=s.toks) (λb o hb e=>eb b o hb e) f0 f1 f3 f4 f5⟩
 self:=λ_ _ _ _ _ st h=>wpAny_pyIter_tupleiter st h
def VI{P:Program}{w:World}{K:Zfr}{tg:Expr}(it:Addr)(lo:Int)(n:Nat):Turn P w K tg (JB lo n) [it] it (λi h=>IsRangeIter h it (lo+(i:Nat)*1) ((n:Int)-(i:Nat)) 1) where
 mem:=by simp
 obj:=λi h st b hb=>by
  have e:b=it:=by simpa using hb
  subst e
  exact⟨_,st,λv z=>by
   have z':Data.fields _=Data.cell v:=z
   cases z'⟩
 keep:=λi h h' st k=>k it (by simp) _ st
 item:=by
  intro X hP hw hK hc i pins s G H E I hf st hg;subst hP hw hK;obtain⟨f0,f1,f2,f3,f4,f5⟩:=hf it (by simp);have W:=Walks.range (prog:=X.prog) (w:=X.w) (I.ok.hd hc) it lo 1 n;refine W.item i s _ _ hg st λv h' tk hv st' kk=>?_;obtain⟨t,rfl⟩:=hv;have I1:Inv X pins G H { s with heap:=h',toks:=tk }:=I.turned (λb o hb e=>kk b o (by simpa using hb) e) f0 f1 f3 f4 f5;refine⟨_,rfl,zB (s:={ s with heap:=h',toks:=tk }) (n:="range_iterator") st' rfl rfl ∅ ⟨.int (lo+i),H,I1,⟨t,?_⟩,⟨rfl,rfl⟩,st',λb hb=>(hf b hb).1⟩⟩;rw[Int.mul_one]
 done:=by
  intro X hP hw hK hc i pins s G H E I hf st hg;subst hP hw hK;obtain⟨f0,f1,f2,f3,f4,f5⟩:=hf it (by simp);exact wpAny_pyNext_range_end (I.ok.hd hc) st (by have:n<=i:=hg;lk) λh' eb=>⟨rfl,I.turned (t':=s.toks) (λb o hb e=>eb b o hb e) f0 f1 f3 f4 f5⟩
 self:=λ_ _ _ _ _ st h=>wpAny_pyIter_rangeiter st h
section
variable {X:Cx}{tg:Expr}
abbrev xP(K:Zfr)(tl:TE):TI:=λG H R=>tl G H λx H1=>∃a,x=.ref a/\(∃xs,kR K H1 a xs)/\R (PN K a) H1
abbrev DV(K:Zfr)(tl:TE):TI:=λG H R=>tl G H λx H1=>∃a,x=.ref a/\(∃xs,gS K H1 a xs)/\R (PQ K a) H1
def Mh{l:Expr}{tl:TE}(hl:PE X l tl):PI X tg l (xP X.K tl):=by
 intro pins s G H R I h;refine cI (hl pins s G H _ I h) λv s1 ⟨x,H1,I1,r1,q1⟩=>?_;obtain⟨a,e,⟨xs,hq⟩,q⟩:=q1;subst e;cases r1;obtain⟨its,rv,p,hz⟩:=I1.list hq;refine wpAny_pyIter_list p.isList ?_;refine⟨s1.heap.objs.size,[s1.heap.objs.size],_,_,H1,rfl,I1.kept (t':=s1.toks) λb o e=>Zac _ e,VG a _,⟨_,Zan _ rfl,rfl,rfl⟩,λb hb=>?_,q⟩;have e:b=s1.heap.objs.size:=by simpa using hb
 subst e;exact I1.o8 (Zab _) (I1.hok.fresh (Zab _))
def tO{l:Expr}{tl:TE}(hl:PE X l tl):PI X tg l (DV X.K tl):=by
 intro pins s G H R I h;refine cI (hl pins s G H _ I h) λv s1 ⟨x,H1,I1,r1,q1⟩=>?_;obtain⟨a,e,⟨xs,hq⟩,q⟩:=q1;subst e;cases r1;obtain⟨its,rv,p,hz⟩:=I1.tuple hq;refine wpAny_pyIter_tuple (show s1.heap.IsTuple a its.toArray from p) ?_;refine⟨s1.heap.objs.size,[s1.heap.objs.size],_,_,H1,rfl,I1.kept (t':=s1.toks) λb o e=>Zac _ e,VH a _,⟨_,Zan _ rfl,rfl,rfl⟩,λb hb=>?_,q⟩;have e:b=s1.heap.objs.size:=by simpa using hb
 subst e;exact I1.o8 (Zab _) (I1.hok.fresh (Zab _))
def VJ{pins:List (Addr×Obj)}{G:St}{H:Hp}{s:Shared}{R:It->Hp->Prop}{E:Value->Shared->Prop}{lo hi:Int}{t u v:Tok}{tk:Nat}(I:Inv X pins G H s)(h1:-(2 ^ 62)<=lo)(h2:lo<2 ^ 62)(h3:-(2 ^ 62)<=hi)(h4:hi<2 ^ 62)
  (q:R (JB lo (hi-lo).toNat) H):wpAny (model X.prog X.w) X.A (pyIter (.ref s.heap.objs.size)) (JA X pins G tg R) E { s with heap:=s.heap.push { cls:=.type "range",data:=.fields #[.int lo t,.int hi u,.int 1 v] },toks:=tk }:=by
 refine wpAny_pyIter_range (IsRange.new ..) (small_one h1 h2 h3 h4) ?_;have I1:Inv X pins G H { s with heap:=s.heap.push { cls:=.type "range",data:=.fields #[.int lo t,.int hi u,.int 1 v] },toks:=tk }:=I.kept λb o e=>Zac _ e
 refine⟨(s.heap.push { cls:=.type "range",data:=.fields #[.int lo t,.int hi u,.int 1 v] }).objs.size,[(s.heap.push { cls:=.type "range",data:=.fields #[.int lo t,.int hi u,.int 1 v] }).objs.size],_,_,H,rfl,
  I1.kept (t':=tk) λb o e=>Zac _ e,VI _ lo (hi-lo).toNat,?_,λb hb=>?_,q⟩
 have e1:lo+((0:Nat):Int)*1=lo:=by simp
 have e2:(((hi-lo).toNat:Nat):Int)-((0:Nat):Int)=Builtin.Range.rangeSize lo hi 1:=by rw[rangeSize_one];split<;>lk
 show IsRangeIter _ _ (lo+((0:Nat):Int)*1) ((((hi-lo).toNat:Nat):Int)-((0:Nat):Int)) 1;rw[e1,e2];exact Zan _ rfl;have e:b=(s.heap.push { cls:=.type "range",data:=.fields #[.int lo t,.int hi u,.int 1 v] }).objs.size:=by simpa using hb
 subst e;exact I1.o8 (Zab _) (I1.hok.fresh (Zab _))
abbrev xQ(ta:TA):TI:=λG H R=>ta G H λvs H1=>∃j:Int,vs=[.int j]/\-(2 ^ 62)<=j/\j<2 ^ 62/\R (JB 0 j.toNat) H1
def p8{a:Expr}{ta:TA}{p pos:Pos}(hg:Gl X "range")(hm:X.mg "range" = none)(ha:PA X [a] ta)(hs:starEach [a] X.env=[(false,eval a X.env)]:=by rfl):PI X tg (.Call (.Name "range" p) [a] [] pos) (xQ ta):=by
 intro pins s G H R I h;refine Call_ (xG I hg hm boot_range (PyProof.Rows.callWith_type1 (cI (ha pos pins s G H _ I h) λus s1 ⟨vs,H1,I1,r1,q1⟩=>?_) hs rfl));obtain⟨j,e,q1,q2,q⟩:=q1;subst e;cases r1 with
 |cons r rr =>
  cases rr;obtain⟨t,rfl⟩:=r;exact call_range_1 (VJ I1 ⋯ ⋯ q1 q2 (by simpa using q))
abbrev DW(wi:TI)(g:TG)(tb:TS):TS:=λD G H=>wi G H λJ H1=>∃W:Nat->Nat->St->Hp->Prop,(∃m,W 0 m G H1)/\∀i m G H,W i m G H ->
 (J.stop i H/\D.nx G H)\/(J.go i H/\∃N:St->Hp->Prop,(∀G' H',N G' H'->∃m',m' < m/\W (i+1) m' G' H')/\∀x H',J.wm i H x H'->g x G H' λG2 H2=>tb { D with nx:=N,ct:=N,bk:=D.nx } G2 H2)
abbrev o9(fp:List Addr)(h:Heap):List (Addr×Obj):=fp.filterMap λb=>(h.get? b).map λo=>(b,o)
def JC{fp:List Addr}{h:Heap}{b:Addr}{o:Obj}(hb:b∈fp)(e:h.get? b=some o):(b,o)∈o9 fp h:=List.mem_filterMap.mpr ⟨b,hb,by rw[e];rfl⟩
def VL{fp:List Addr}{h:Heap}{p:Addr×Obj}(hp:p∈o9 fp h):p.1∈fp/\h.get? p.1=some p.2:=by
 obtain⟨b,hb,e⟩:=List.mem_filterMap.mp hp;cases q:h.get? b with
 |none=>rw[q]at e;cases e
 |some o =>
  rw[q]at e;have e':(b,o)=p:=Zai e;subst e';exact⟨hb,q⟩
def Inv.pinned{pins:List (Addr×Obj)}{G:St}{H:Hp}{s:Shared}{fp:List Addr}(I:Inv X pins G H s)(hf:∀b∈fp,iC X pins H b)(ho:∀b∈fp,∃o,s.heap.get? b=some o/\∀v,o.data≠.cell v):Inv X (pins ++ o9 fp s.heap) G H s :=
 I.oJ λp hp=>(ZaE.mp hp).elim (λz=>I.pin p (ZaN _ z)) λz=>by
  obtain⟨hb,e⟩:=VL z;obtain⟨f0,f1,f2,_⟩:=hf p.1 hb;obtain⟨o,e',d⟩:=ho p.1 hb;rw[e]at e';cases e';exact⟨e,f0,f1,f2,d⟩
def Inv.nA{pins pl:List (Addr×Obj)}{G:St}{H:Hp}{s:Shared}(I:Inv X (pins ++ pl) G H s):Inv X pins G H s:=I.oJ λp hp=>I.pin p (ZaN _ (ZbL _ hp))
def PR{iter:Expr}{body:List Stmt}{wi:TI}{g:TG}{tb:TS}{pos:Pos}(hp:PassesOwn (model X.prog X.w) X.A X.env X.xe)(hc:X.calm=true)(hi:PI X tg iter wi)(hg:PG X tg g)(hb:tN X body tb)
  (hs:∀x,foldedSetIterable iter X.env x=pure x:=by intro _;rfl):PS X (.For tg iter body [] pos) (DW wi g tb):=by
 intro pins s G H D I h;refine wpAny_For (cI (hi pins s G H _ I h) λv s1 h1=>cI h1 λitv s2 h2=>?_) hs;obtain⟨it,fp,tn,J,H2,e,I2,T,st2,f2,W,⟨m0,w0⟩,turn⟩:=h2;subst e;have stat:∀{H':Hp},(∀b∈fp,H' b=none)->∀b∈fp,iC X pins H' b:=λhn b hb=>⟨hn b hb,(f2 b hb).2⟩;refine codeAny_forLoop_any (λn s'=>∃i G' H',Inv X pins G' H' s'/\tn i s'.heap/\(∀b∈fp,H' b=none)/\W i n G' H') ?_ m0 ⟨0,G,H2,I2,st2,λb hb=>(f2 b hb).1,w0⟩;rintro n s3 ⟨i,G3,H3,I3,st3,PU,w3⟩;rcases turn i n G3 H3 w3 with⟨stop,qn⟩|⟨go,N,hN,step⟩
 ·refine wpAny_passesOwn hp (cI (T.done X rfl rfl rfl hc i pins s3 G3 H3 X.xe I3 (stat PU) st3 stop) λr s4 ⟨hr,I4⟩=>?_)
  subst hr;exact wpAny_execs_nil ⟨G3,H3,I4,qn⟩
 ·refine wpAny_passesOwn hp (cI (T.item X rfl rfl rfl hc i pins s3 G3 H3 X.xe I3 (stat PU) st3 go) λr s4 ⟨u,hr,h4⟩=>?_)
  subst hr;refine wpAny_passesOwn hp (cI h4 λ_ s5 ⟨x,H5,I5,r5,y5,mG,JD⟩=>?_);have VM:=I5.pinned (stat JD) (T.obj _ _ mG);refine wpAny_passesOwn hp (cI (hg _ s5 G3 H5 x u _ VM r5 (step x H5 y5)) λ_ s6 ⟨G6,H6,I6,q6⟩=>?_);refine wpAny_passesOwn hp (cI (hb _ s6 G6 H6 _ I6 q6) λf s7 q7=>?_);have again:∀{G7:St} {H7:Hp},Inv X (pins ++ o9 fp s5.heap) G7 H7 s7->N G7 H7->∃m,m<n/\∃i G' H',Inv X pins G' H' s7/\tn i s7.heap/\(∀b∈fp,H' b=none)/\W i m G' H':=λ{G7 H7} I7 n7=>by
   obtain⟨m',hm,w7⟩:=hN G7 H7 n7;refine⟨m',hm,i+1,G7,H7,I7.nA,T.keep _ _ _ mG λb hb o e=>(I7.pin (b,o) (ZaN _ (ZaN _ (JC hb e)))).1,λb hb=>?_,w7⟩;obtain⟨o,e,d⟩:=T.obj _ _ mG b hb;exact(I7.pin (b,o) (ZaN _ (ZaN _ (JC hb e)))).2.1
  cases f with
  |next=>obtain⟨G7,H7,I7,n7⟩:=q7;exact again I7 n7
  |cont=>obtain⟨G7,H7,I7,n7⟩:=q7;exact again I7 n7
  |brk=>obtain⟨G7,H7,I7,q7⟩:=q7;exact⟨G7,H7,I7.nA,q7⟩
  |ret v=>obtain⟨x7,G7,H7,I7,r7,q7⟩:=q7;exact⟨x7,G7,H7,I7.nA,r7,q7⟩
end
@[reducible]def R2:=V->V->Hp->VK->Prop
abbrev mP(X:Cx)(f:Value->Value->Sem Value)(r:R2):Prop :=
 ∀(pins:List (Addr×Obj)) (s:Shared) (G:St) (H:Hp) (x y:V) (v u:Value) (Q:VK),Inv X pins G H s->RelV x v->RelV y u->r x y H Q ->
  wpAny (model X.prog X.w) X.A (f v u) (EP X pins G Q) X.xe s
abbrev Mi(X:Cx)(f:Value->Sem Value)(r:V->Hp->VK->Prop):Prop :=
 ∀(pins:List (Addr×Obj)) (s:Shared) (G:St) (H:Hp) (x:V) (v:Value) (Q:VK),Inv X pins G H s->RelV x v->r x H Q ->
  wpAny (model X.prog X.w) X.A (f v) (EP X pins G Q) X.xe s
abbrev ly(X:Cx)(f:Value)(r:List V->Hp->VK->Prop):Prop :=
 ∀(pins:List (Addr×Obj)) (s:Shared) (G:St) (H:Hp) (xs:List V) (us:List Value) (Q:VK),Inv X pins G H s->Vals xs us->r xs H Q ->
  wpAny (model X.prog X.w) X.A (call f us) (EP X pins G Q) X.xe s
abbrev DX(r:R2)(ta tb:TE):TE:=λG H Q=>ta G H λx H1=>tb G H1 λy H2=>r x y H2 Q
abbrev PV(r:V->Hp->VK->Prop)(ta:TE):TE:=λG H Q=>ta G H λx H1=>r x H1 Q
abbrev rI(C:Int->Int->Prop)(g:Int->Int->V):R2:=λx y H Q=>∃i j,x=.int i/\y=.int j/\C i j/\Q (g i j) H
abbrev tP(g:Int->Int->V):R2:=λx y H Q=>∃i j,x=.int i/\y=.int j/\Q (g i j) H
abbrev rU(g:Int->V):V->Hp->VK->Prop:=λx H Q=>∃i,x=.int i/\Q (g i) H
section
variable {X:Cx}{a b c:Expr}{ta tb tc:TE}{pos:Pos}
def zC(ha:PE X a ta)(hb:PE X b tb){pins:List (Addr×Obj)}{s:Shared}{G:St}{H:Hp}{R:V->V->Hp->Prop}(I:Inv X pins G H s)
  (h:ta G H λx H1=>tb G H1 λy H2=>R x y H2) {Q:Value->Shared->Prop} {f:Value->Value->Sem Value}
  (hf:∀v u s2 x y H2,Inv X pins G H2 s2->RelV x v->RelV y u->R x y H2->wpAny (model X.prog X.w) X.A (f v u) Q X.xe s2) :
  wpAny (model X.prog X.w) X.A (eval a X.env) (λv s₁=>wpAny (model X.prog X.w) X.A (eval b X.env) (λu s₂=>wpAny (model X.prog X.w) X.A (f v u) Q X.xe s₂) X.xe s₁) X.xe s:=by
 refine cI (ha pins s G H _ I h) λv s1 ⟨x,H1,I1,r1,q1⟩=>?_;refine cI (hb pins s1 G H1 _ I1 q1) λu s2 ⟨y,H2,I2,r2,q2⟩=>?_;exact hf v u s2 x y H2 I2 r1 r2 q2
def a8{op:Operator}{r:R2}(ho:mP X (binaryOp op) r)(ha:PE X a ta)(hb:PE X b tb):PE X (.BinOp a op b pos) (DX r ta tb):=by intro pins s G H Q I h;exact wpAny_BinOp (zC ha hb I h λv u s2 x y H2 I2 rx ry q=>ho pins s2 G H2 x y v u Q I2 rx ry q)
def qm{op:UnaryOp}{r:V->Hp->VK->Prop}(ho:Mi X (unaryOp op) r)(ha:PE X a ta):PE X (.UnaryOp op a pos) (PV r ta):=by intro pins s G H Q I h;exact UnaryOp_ (cI (ha pins s G H _ I h) λv s1 ⟨x,H1,I1,r1,q1⟩=>ho pins s1 G H1 x v Q I1 r1 q1)
def Ct{f:Value->Value->Sem Value}{C:Int->Int->Prop}{g:Int->Int->Int}
  (rule:∀(i j:Int) (t u:Tok) (s:Shared) (Q:Value->Shared->Prop) (E:Value->Shared->Prop),C i j->Q (.int (g i j) s.toks) { s with toks:=s.toks+1 }->wpAny (model X.prog X.w) X.A (f (.int i t) (.int j u)) Q E s) :
  mP X f (rI C λi j=>.int (g i j)):=by
 intro pins s G H x y v u Q I rx ry h;obtain⟨i,j,rfl,rfl,hc,q⟩:=h;obtain⟨t,rfl⟩:=rx;obtain⟨t',rfl⟩:=ry;exact rule i j t t' s _ _ hc ⟨.int (g i j),H,I.tok _,⟨_,rfl⟩,q⟩
def DY{f:Value->Value->Sem Value}{g:Int->Int->Int}
  (rule:∀(i j:Int) (t u:Tok) (s:Shared) (Q:Value->Shared->Prop) (E:Value->Shared->Prop),Q (.int (g i j) s.toks) { s with toks:=s.toks+1 }->wpAny (model X.prog X.w) X.A (f (.int i t) (.int j u)) Q E s) :
  mP X f (tP λi j=>.int (g i j)):=by
 intro pins s G H x y v u Q I rx ry h;obtain⟨i,j,rfl,rfl,q⟩:=h;obtain⟨t,rfl⟩:=rx;obtain⟨t',rfl⟩:=ry;exact rule i j t t' s _ _ ⟨.int (g i j),H,I.tok _,⟨_,rfl⟩,q⟩
def zD{f:Value->Value->Sem Value}{g:Int->Int->Bool}
  (rule:∀(i j:Int) (t u:Tok) (s:Shared) (Q:Value->Shared->Prop) (E:Value->Shared->Prop),Q (.bool (g i j)) s->wpAny (model X.prog X.w) X.A (f (.int i t) (.int j u)) Q E s) :
  mP X f (tP λi j=>.bl (g i j)):=by
 intro pins s G H x y v u Q I rx ry h;obtain⟨i,j,rfl,rfl,q⟩:=h;obtain⟨t,rfl⟩:=rx;obtain⟨t',rfl⟩:=ry;exact rule i j t t' s _ _ ⟨.bl (g i j),H,I,rfl,q⟩
abbrev DZ(i j:Int):Prop:=0<j/\j<1073741824
abbrev xR(i j:Int):Prop:=j≠0/\j.natAbs<1073741824
abbrev D0(i j:Int):Prop:=0<=j/\j<=1000000/\i.natAbs<2 ^ 64
abbrev uJ(i j:Int):Prop:=(-(2 ^ 64)<i/\i<2 ^ 64)\/(-(2 ^ 64)<j/\j<2 ^ 64)
def uJ.ok{i j:Int}(h:uJ i j):IntMulOk i j:=by
 rcases h with⟨h1,h2⟩|⟨h1,h2⟩
 exact .of_left (intBits_le_64 h1 h2);exact .of_right (intBits_le_64 h1 h2)
def jO:mP X (binaryOp .Add) (tP λi j=>.int (i+j)):=DY λ_ _ _ _ _ _ _ q=>add_int q
def uK:mP X (binaryOp .Sub) (tP λi j=>.int (i-j)):=DY λ_ _ _ _ _ _ _ q=>sub_int q
def qV:mP X (binaryOp .Mult) (rI uJ λi j=>.int (i*j)):=Ct λ_ _ _ _ _ _ _ hc q=>mul_int q hc.ok
def PX:mP X (binaryOp .FloorDiv) (rI DZ λi j=>.int (i / j)):=Ct λi j _ _ _ _ _ hc q=>by
 have h1:(0:Int)<j:=hc.1;have h2:j<1073741824:=hc.2;exact floordiv_int ⋯ (by rw[Int.fdiv_eq_ediv_of_nonneg i ⋯];exact q) (.inl (PyProof.noPylong_small ⋯))
def VN:mP X (binaryOp .FloorDiv) (rI xR λi j=>.int (i.fdiv j)):=Ct λ_ _ _ _ _ _ _ hc q=>floordiv_int hc.1 q (.inl (PyProof.noPylong_small hc.2))
def vL:mP X (binaryOp .Mod) (rI (λ_ j=>0<j) λi j=>.int (i % j)):=Ct λi j _ _ _ _ _ hc q=>by
 have h1:(0:Int)<j:=hc;exact mod_int' ⋯ (by rw[Int.fmod_eq_emod_of_nonneg i ⋯];exact q)
def PY:mP X (binaryOp .Pow) (rI D0 λi j=>.int (i ^ j.toNat)):=Ct λ_ _ _ _ _ _ _ hc q=>pow_int_small hc.1 hc.2.1 hc.2.2 q
def VO{f:Value->Sem Value}{g:Int->Int}
  (rule:∀(i:Int) (t:Tok) (s:Shared) (Q:Value->Shared->Prop) (E:Value->Shared->Prop),Q (.int (g i) s.toks) { s with toks:=s.toks+1 }->wpAny (model X.prog X.w) X.A (f (.int i t)) Q E s) :
  Mi X f (rU λi=>.int (g i)):=by
 intro pins s G H x v Q I rx h;obtain⟨i,rfl,q⟩:=h;obtain⟨t,rfl⟩:=rx;exact rule i t s _ _ ⟨.int (g i),H,I.tok _,⟨_,rfl⟩,q⟩
def qo:Mi X (unaryOp .USub) (rU λi=>.int (-i)):=VO λ_ _ _ _ _ q=>neg_int q
end
abbrev se:V->V->Bool
 |.non,.non=>true|.non,.int _=>true|.int _,.non=>true|.non,.bl _=>true|.bl _,.non=>true|.non,.str _=>true|.str _,.non=>true
 |.int _,.int _=>true|.bl _,.bl _=>true|.str _,.str _=>true|.uE _,.uE _=>true
 |.int _,.str _=>true|.str _,.int _=>true|.bl _,.str _=>true|.str _,.bl _=>true
 |_,_=>false
abbrev PZ:R2:=λx y H Q=>se x y=true/\Q (.bl (decide (x=y))) H
abbrev P0:R2:=λx y H Q=>se x y=true/\Q (.bl (!decide (x=y))) H
def P4{i j:Int}:decide (V.int i=V.int j)=(i == j):=by rw[Zcv];simp
def P5{i j:Bool}:decide (V.bl i=V.bl j)=(i == j):=by rw[Zcv];simp
def P6{i j:Str}:decide (V.str i=V.str j)=(i == j):=by rw[Zcv];simp
def P7{i j:Array UInt8}:decide (V.uE i=V.uE j)=(i.toList == j.toList):=by rw[Zcv];cases i;cases j;simp
section
variable {X:Cx}{a b c:Expr}{ta tb tc:TE}{pos:Pos}
def mH{pins:List (Addr×Obj)}{G:St}{H:Hp}{s:Shared}{Q:VK}{k k':Bool}(I:Inv X pins G H s)(q:Q (.bl k) H)(e:k=k'):EP X pins G Q (.bool k') s:=by subst e;exact⟨.bl k,H,I,rfl,q⟩
def nu:mP X (compareOp .Eq) PZ:=by
 intro pins s G H x y v u Q I rx ry h;obtain⟨hs,q⟩:=h;cases x with
 |non =>
  cases rx;cases y with
  |non=>cases ry;exact PySem.EqNone.eq_none_none (mH I q (by simp))
  |bl j=>cases ry;exact PySem.EqNone.eq_none_bool (mH I q (by simp))
  |int j=>obtain⟨t',rfl⟩:=ry;exact PySem.EqNone.eq_none_int (mH I q (by simp))
  |str j=>obtain⟨t',rfl⟩:=ry;exact PySem.EqNone.eq_none_str (mH I q (by simp))
  |_=>exact absurd (show false=true from hs) Zal
 |bl i =>
  cases rx;cases y with
  |non=>cases ry;exact PySem.EqNone.eq_bool_none (mH I q (by simp))
  |bl j=>cases ry;exact eq_bool (mH I q P5)
  |str j=>obtain⟨t',rfl⟩:=ry;exact PySem.EqMixed.eq_bool_str (mH I q (by simp))
  |_=>exact absurd (show false=true from hs) Zal
 |int i =>
  obtain⟨t,rfl⟩:=rx;cases y with
  |non=>cases ry;exact PySem.EqNone.eq_int_none (mH I q (by simp))
  |int j=>obtain⟨t',rfl⟩:=ry;exact eq_int (mH I q P4)
  |str j=>obtain⟨t',rfl⟩:=ry;exact PySem.EqMixed.eq_int_str (mH I q (by simp))
  |_=>exact absurd (show false=true from hs) Zal
 |str i =>
  obtain⟨t,rfl⟩:=rx;cases y with
  |non=>cases ry;exact PySem.EqNone.eq_str_none (mH I q (by simp))
  |bl j=>cases ry;exact PySem.EqMixed.eq_str_bool (mH I q (by simp))
  |int j=>obtain⟨t',rfl⟩:=ry;exact PySem.EqMixed.eq_str_int (mH I q (by simp))
  |str j=>obtain⟨t',rfl⟩:=ry;exact eq_str (mH I q P6)
  |_=>exact absurd (show false=true from hs) Zal
 |uE i =>
  obtain⟨t,rfl⟩:=rx;cases y with
  |uE j=>obtain⟨t',rfl⟩:=ry;exact PySem.W.eq_bytes (mH I q P7)
  |_=>exact absurd (show false=true from hs) Zal
 |_=>cases y<;>exact absurd (show false=true from hs) Zal
def vN:mP X (compareOp .NotEq) P0:=by
 intro pins s G H x y v u Q I rx ry h;obtain⟨hs,q⟩:=h;cases x with
 |non =>
  cases rx;cases y with
  |non=>cases ry;exact PySem.EqNone.ne_none_none (mH I q (by simp))
  |bl j=>cases ry;exact PySem.EqNone.ne_none_bool (mH I q (by simp))
  |int j=>obtain⟨t',rfl⟩:=ry;exact PySem.EqNone.ne_none_int (mH I q (by simp))
  |str j=>obtain⟨t',rfl⟩:=ry;exact PySem.EqNone.ne_none_str (mH I q (by simp))
  |_=>exact absurd (show false=true from hs) Zal
 |bl i =>
  cases rx;cases y with
  |non=>cases ry;exact PySem.EqNone.ne_bool_none (mH I q (by simp))
  |bl j=>cases ry;exact ne_bool (mH I q (congrArg not P5))
  |str j=>obtain⟨t',rfl⟩:=ry;exact PySem.EqMixed.ne_bool_str (mH I q (by simp))
  |_=>exact absurd (show false=true from hs) Zal
 |int i =>
  obtain⟨t,rfl⟩:=rx;cases y with
  |non=>cases ry;exact PySem.EqNone.ne_int_none (mH I q (by simp))
  |int j=>obtain⟨t',rfl⟩:=ry;exact ne_int (mH I q (congrArg not P4))
  |str j=>obtain⟨t',rfl⟩:=ry;exact PySem.EqMixed.ne_int_str (mH I q (by simp))
  |_=>exact absurd (show false=true from hs) Zal
 |str i =>
  obtain⟨t,rfl⟩:=rx;cases y with
  |non=>cases ry;exact PySem.EqNone.ne_str_none (mH I q (by simp))
  |bl j=>cases ry;exact PySem.EqMixed.ne_str_bool (mH I q (by simp))
  |int j=>obtain⟨t',rfl⟩:=ry;exact PySem.EqMixed.ne_str_int (mH I q (by simp))
  |str j=>obtain⟨t',rfl⟩:=ry;exact ne_str (mH I q (congrArg not P6))
  |_=>exact absurd (show false=true from hs) Zal
 |uE i =>
  obtain⟨t,rfl⟩:=rx;cases y with
  |uE j=>obtain⟨t',rfl⟩:=ry;exact PySem.W.ne_bytes (mH I q (congrArg not P7))
  |_=>exact absurd (show false=true from hs) Zal
 |_=>cases y<;>exact absurd (show false=true from hs) Zal
def Mj:mP X (compareOp .Lt) (tP λi j=>.bl (decide (i<j))):=zD λ_ _ _ _ _ _ _ q=>lt_int q
def Mk:mP X (compareOp .Gt) (tP λi j=>.bl (decide (j<i))):=zD λ_ _ _ _ _ _ _ q=>gt_int q
def D3:mP X (compareOp .GtE) (tP λi j=>.bl (decide (j<=i))):=zD λ_ _ _ _ _ _ _ q=>ge_int q
def P8:mP X (compareOp .In) (λx y H Q=>∃i j,x=.str i/\y=.str j/\Q (.bl (!(Builtin.Str.occurrences j i 0 j.length 1).isEmpty)) H):=by intro pins s G H x y v u Q I rx ry h;obtain⟨i,j,rfl,rfl,q⟩:=h;obtain⟨t,rfl⟩:=rx;obtain⟨t',rfl⟩:=ry;exact in_str (mH I q rfl)
def aH(b:Expr){op:CmpOp}(h:op≠.In:=by decide)(h2:op≠.NotIn:=by decide):behindInMarks op b=false:=by
 have e1:(op == CmpOp.In)=false:=by cases op<;>first|rfl|exact absurd rfl h
 have e2:(op == CmpOp.NotIn)=false:=by cases op<;>first|rfl|exact absurd rfl h2
 cases b<;>simp[behindInMarks,e1,e2]
def Cu{op:CmpOp}{r:R2}(ho:mP X (compareOp op) r)(ha:PE X a ta)(hb:PE X b tb)(hm:behindInMarks op b=false):PE X (.Compare a [op] [b] pos) (DX r ta tb):=by intro pins s G H Q I h;exact wpAny_Compare1 (zC ha hb I h λv u s2 x y H2 I2 rx ry q=>ho pins s2 G H2 x y v u Q I2 rx ry q) hm
abbrev xS(t:TE):TT:=λG H Q=>t G H λx H'=>∃k,x=.bl k/\Q k H'
def gH{op:CmpOp}{r:R2}(ho:mP X (compareOp op) r)(ha:PE X a ta)(hb:PE X b tb)(hm:behindInMarks op b=false):PT X (.Compare a [op] [b] pos) (xS (DX r ta tb)):=by
 intro pins s G H Q I h
 refine wpAny_isTrue_Compare1 (cI (ha pins s G H _ I h) λv s1 ⟨x,H1,I1,r1,q1⟩=>cI (hb pins s1 G H1 _ I1 q1) λu s2 ⟨y,H2,I2,r2,q2⟩ =>
  cI (ho pins s2 G H2 x y v u _ I2 r1 r2 q2) λc s3 ⟨z,H3,I3,r3,k,e,q3⟩=>?_) hm
 subst e;cases r3;exact wpAny_truthy_bool ⟨H3,I3,q3⟩
def mQ:(sizeLine:Nat)<2 ^ 63:=by rw[sizeLine_eq];decide
def xT:mP X (binaryOp .Add) (λx y H Q=>∃i j,x=.str i/\y=.str j/\i.length+j.length<=sizeLine/\Q (.str (i ++ j)) H):=by intro pins s G H x y v u Q I rx ry h;obtain⟨i,j,rfl,rfl,hz,q⟩:=h;obtain⟨t,rfl⟩:=rx;obtain⟨t',rfl⟩:=ry;exact add_str (λt' tk=>⟨.str (i ++ j),H,I.tok _,⟨_,rfl⟩,q⟩) hz
def vals1{x:V}{us:List Value}(r:Vals [x] us):∃u,us=[u]/\RelV x u:=by
 cases r with
 |cons r1 r2=>cases r2;exact⟨_,rfl,r1⟩
def vals2{x y:V}{us:List Value}(r:Vals [x,y] us):∃u w',us=[u,w']/\RelV x u/\RelV y w':=by
 cases r with
 |cons r1 r2 =>
  cases r2 with
  |cons r3 r4=>cases r4;exact⟨_,_,rfl,r1,r3⟩
def VP(hc:X.calm=true):ly X (.builtin "max") (λxs H Q=>∃i j,xs=[.int i,.int j]/\Q (.int (if j > i then j else i)) H):=by intro pins s G H xs us Q I r h;obtain⟨i,j,rfl,q⟩:=h;obtain⟨u,w',rfl,⟨t,rfl⟩,⟨t',rfl⟩⟩:=vals2 r;refine max_two_ints (I.ok.hd hc) λh' tk k=>⟨_,H,I.kept k,?_,q⟩;by_cases hj:j > i;rw[if_pos hj,if_pos hj];exact⟨_,rfl⟩;rw[if_neg hj,if_neg hj];exact⟨_,rfl⟩
def P9:ly X (.type "int") (λxs H Q=>(∃i,xs=[.int i]/\Q (.int i) H)\/∃k,xs=[.bl k]/\Q (.int (if k then 1 else 0)) H):=by
 intro pins s G H xs us Q I r h;rcases h with⟨i,rfl,q⟩|⟨k,rfl,q⟩
 obtain⟨u,rfl,t,rfl⟩:=vals1 r;exact call_int_int ⟨.int i,H,I,⟨_,rfl⟩,q⟩;obtain⟨u,rfl,r1⟩:=vals1 r;cases r1;exact call_int_bool ⟨.int (if k then 1 else 0),H,I.tok _,⟨_,rfl⟩,q⟩
end
def pV.some_of{v:V}{o:Option Value}(r:pV (some v) o):∃u,o=some u/\RelV v u:=by
 cases o with
 |none=>exact(show False from r).elim
 |some u=>exact⟨u,rfl,r⟩
structure uL(K:Zfr)(C:Addr)(f:Str)(v:V)(u:Value):Prop where
 at_:PySem.W.findIn K (.ref C) f=some (some u)
 rel:RelV v u
 get:PySem.W.specialIn K u "__get__" = some none
 cp:PySem.W.copiedNames.contains f=false
structure jQ(k:Nat)(A:Around):Prop where
 hd:A.handled=none
 dp:A.depth+3*k+5<recursionLimit
 un:A.units+16*k+200<cLine
 gd:A.guards=some []
def jQ.mono{j k:Nat}{A:Around}(r:jQ k A)(h:j<=k):jQ j A:=⟨r.hd,by have:=r.dp;lk,by have:=r.un;lk,r.gd⟩
def jQ.deeper{k:Nat}{A:Around}(r:jQ (k+1) A)(env:Env):jQ k (A.deeper env) :=
 ⟨r.hd,by have:=r.dp;show A.depth+1+3*k+5<_;lk,by have:=r.un;show A.units+3+16*k+200<_;lk,r.gd⟩
def jQ.depth{k:Nat}{A:Around}(r:jQ k A):A.depth<recursionLimit:=by have:=r.dp;lk
def jQ.units{k:Nat}{A:Around}(r:jQ k A):A.units+64<cLine:=by have:=r.un;lk
abbrev D4:TA:=λ_ H Q=>Q [] H
abbrev xU(ta:TE)(tr:TA):TA:=λG H Q=>ta G H λx H1=>tr G H1 λxs H2=>Q (x :: xs) H2
section
variable {X:Cx}{e:Expr}{es:List Expr}{te:TE}{t:TA}{pos:Pos}
def aw:PA X [] D4:=λ_ _ _ _ H Q I h=>Calls.spliced_nil ⟨[],H,I,.nil,h⟩
def wo(ha:PE X e te)(hr:PA X es t)(hs:starEach (e :: es) X.env=(false,eval e X.env) :: starEach es X.env:=by rfl):PA X (e :: es) (xU te t):=by intro pos pins s G H Q I h;rw[hs];show wpAny _ _ (spliced ((false,eval e X.env) :: backTo pos (starEach es X.env))) _ _ s;refine Calls.spliced_cons (cI (ha pins s G H _ I h) λu s1 ⟨x,H1,I1,r1,q1⟩=>?_);exact cI (hr pos pins s1 G H1 _ I1 q1) λus s2 ⟨xs,H2,I2,r2,q2⟩=>⟨x :: xs,H2,I2,.cons r1 r2,q2⟩
abbrev D5(t:TA):TE:=λG H Q=>t G H λxs H1=>xs.length<=sizeLine/\∀p,H1 p=none->Q (.ref p) (upd H1 p (.tup xs))
abbrev D6(t:TA):TE:=λG H Q=>t G H λxs H1=>xs.length<=sizeLine/\∀p,H1 p=none->Q (.ref p) (upd H1 p (.lst xs))
def lp{x1}(h:PA X es t):PE X (.Tuple es x1 pos) (D5 t):=by intro pins s G H Q I hq;refine wpAny_Tuple_spliced (cI (h pos pins s G H _ I hq) λus s1 ⟨xs,H1,I1,r,z,q⟩=>⟨by rw[<- r.length];exact z,?_⟩);have hf:H1 s1.heap.objs.size=none:=I1.hok.fresh (Zab _);refine⟨.ref s1.heap.objs.size,upd H1 s1.heap.objs.size (.tup xs),I1.laid (t':=s1.toks) (λb u e=>Zac _ e) (Zab _) ?_,rfl,q _ hf⟩;exact⟨z,us,r,⟨_,Zan _ rfl,rfl,rfl,_,rfl⟩⟩
def oB(h:PA X es t):PE X (.List es pos) (D6 t):=by intro pins s G H Q I hq;refine wpAny_List_spliced (cI (h pos pins s G H _ I hq) λus s1 ⟨xs,H1,I1,r,z,q⟩=>⟨by rw[<- r.length];exact z,?_⟩);have hf:H1 s1.heap.objs.size=none:=I1.hok.fresh (Zab _);refine⟨.ref s1.heap.objs.size,upd H1 s1.heap.objs.size (.lst xs),I1.laid (t':=s1.toks) (λb u e=>Zac _ e) (Zab _) ?_,rfl,q _ hf⟩;exact⟨z,us,0,r,Zan _ rfl⟩
end
@[reducible]def Sp:=List V->Hp->VK->XK->Prop
@[reducible]def sM:=List Env->Hp->Shared->XK->Value->Shared->Prop
structure wq(P:Program)(w:World)(K:Zfr)(mg:Str->Option Value)(base:Heap)(A:Around)(outer:List Env)(s:Shared)(H:Hp):Prop where
 frames:A.frames=some outer
 mod:Mod K mg base
 bs:∀b o,base.get? b=some o->s.heap.get? b=some o/\H b=none
 vK:base.objs.size<=s.heap.objs.size
 o5:s.heap.FunFrames base outer
 Cr:∀b∈frs outer,H b=none
 hok:nz P w H s.heap
 bare:AllBare s.gens
abbrev CE(outer:List Env)(P:Program)(w:World)(H:Hp)(s:Shared)(Q:VK)(u:Value)(s':Shared):Prop :=
 ∃v H',s'.os=s.os/\AllBare s'.gens/\Un (frs outer) [] H H' s.heap s'.heap/\nz P w H' s'.heap/\RelV v u/\Q v H'
abbrev CR(CX:sM)(outer:List Env)(P:Program)(w:World)(H:Hp)(s:Shared)(Q:VK)(E:XK)(r:Result)(s':Shared):Prop :=
 match r with
 |.ok (.ret u)=>CE outer P w H s Q u s'
 |.ok _=>False
 |.error e=>CX outer H s E e s'
structure aC(P:Program)(w:World)(K:Zfr)(mg:Str->Option Value)(base:Heap)(CX:sM)(k:Nat)(f:Addr)(fd:FuncData)(ps:List Str)(sp:Sp):Prop where
 len:∀vs H Q E,sp vs H Q E->vs.length=ps.length
 run:∀(A:Around) (outer:List Env) (s:Shared) (H:Hp) (args:Args) (us:List Value) (vs:List V) (Q:VK) (E:XK),jQ k A->wq P w K mg base A outer s H->BindsTo s fd args (ps.zip us)->Vals vs us->sp vs H Q E ->
  codeAny (model P w) A (.call (.ref f) args) (CR CX outer P w H s Q E) s
def aC.imp{P:Program}{w:World}{K:Zfr}{mg:Str->Option Value}{base:Heap}{CX:sM}{k:Nat}{f:Addr}{fd:FuncData}{ps:List Str}{sp Qa:Sp}(F:aC P w K mg base CX k f fd ps sp)
  (h:∀vs H Q E,Qa vs H Q E->sp vs H Q E):aC P w K mg base CX k f fd ps Qa :=
 ⟨λvs H Q E q=>F.len vs H Q E (h _ _ _ _ q),λA outer s H args us vs Q E hr he hb hv hs=>F.run A outer s H args us vs Q E hr he hb hv (h _ _ _ _ hs)⟩
section
variable {X:Cx}{pins:List (Addr×Obj)}{G:St}{H:Hp}{s s':Shared}
def Inv.Ml(I:Inv X pins G H s):wq X.prog X.w X.K X.mg X.base X.A X.stack s H :=
 ⟨I.ok.frames,I.ok.mod,I.bs,Zaw I.ok.vK I.sz,I.stack,I.sJ,I.hok,I.bare⟩
def Inv.after{Q:VK}{u:Value}(I:Inv X pins G H s)(h:CE X.stack X.prog X.w H s Q u s'):EP X pins G Q u s':=by obtain⟨v,H',os,bare,un,hok,r,q⟩:=h;obtain⟨hh,g,d,t,os'⟩:=s';obtain rfl:os'=s.os:=os;exact⟨v,H',I.call (h':=hh) (g':=g) (d':=d) (t':=t) (ch:=[]) un hok bare (λb z=>absurd z (by simp)),r,q⟩
end
abbrev uM(sp:Sp)(xV:List V)(E:XK)(t:TA):TE:=λG H Q=>t G H λvs H1=>sp (vs ++ xV) H1 Q E
abbrev Binds(K:Zfr)(fd:FuncData)(ps:List Str)(ds:List Value):Prop :=
 ∀(s:Shared) (us:List Value),K.In s.heap->(us ++ ds).length=ps.length->BindsTo s fd ⟨us,[]⟩ (ps.zip (us ++ ds))
def Binds.all{K:Zfr}{fd:FuncData}{ps:List Str}(h:∀us:List Value,us.length=ps.length->bindArgs fd ⟨us,[]⟩=pure (ps.zip us)):Binds K fd ps []:=λs us _ hl=>by
 rw[Za6]at hl ⊢;exact .of_eq (h us hl)
abbrev Passes(CX:sM)(X:Cx)(E:XK):Prop:=∀(pins:List (Addr×Obj)) (G:St) (H:Hp) (s:Shared) (e:Value) (s':Shared),Inv X pins G H s->CX X.stack H s E e s'->X.xe e s'
section
variable {X:Cx}{CX:sM}{k:Nat}{f C:Addr}{fd:FuncData}{ps:List Str}{sp:Sp}{xV:List V}{ds:List Value}{E:XK}{x m:Str}{p pos apos:Pos}{e o:Expr}{es:List Expr}{ta:TE}{t:TA}
def zE{pins:List (Addr×Obj)}{G:St}{H:Hp}{s:Shared}{Q:VK}{us:List Value}{vs:List V}(F:aC X.prog X.w X.K X.mg X.base CX k f fd ps sp)(hr:jQ k X.A)(hb:Binds X.K fd ps ds)(hd:Vals xV ds)(hx:Passes CX X E)
  (I:Inv X pins G H s) (r:Vals vs us) (h:sp (vs ++ xV) H Q E):wpAny (model X.prog X.w) X.A (call (.ref f) us) (EP X pins G Q) X.xe s:=by
 have r2:Vals (vs ++ xV) (us ++ ds):=r.append hd;have hl:(us ++ ds).length=ps.length:=by rw[<- r2.length];exact F.len _ _ _ _ h
 refine wpAny_call (codeAny_mono (F.run X.A X.stack s H ⟨us,[]⟩ (us ++ ds) (vs ++ xV) Q E hr I.Ml (hb s us I.DE hl) r2 h) λr s' hq=>?_);cases r with
 |error e=>exact hx pins G H s e s' I hq
 |ok fl =>
  cases fl with
  |ret u=>exact I.after hq
  |next=>exact False.elim hq
  |brk=>exact False.elim hq
  |cont=>exact False.elim hq
def Mm(F:aC X.prog X.w X.K X.mg X.base CX k f fd ps sp)(hr:jQ k X.A)(hg:Gl X x)(hm:X.mg x=some (.ref f))(hk:PySem.W.keepIn X.K (.ref f)=true)(hb:Binds X.K fd ps ds)(hd:Vals xV ds)(hx:Passes CX X E)
  (ha:PA X (e :: es) t) (hdb:(x == ("__debug__" : Str))=false:=by decide) (he:starEach (e :: es) X.env=(false,eval e X.env) :: starEach es X.env:=by rfl) (hpl:(backTo pos (starEach es X.env)).any (·.1)=false:=by rfl) :
  PE X (.Call (.Name x p) (e :: es) [] pos) (uM sp xV E t):=by
 intro pins s G H Q I h;refine wpAny_Call_Name_kw (PH I hg hm ?_ hdb);refine PySem.W.callWith_K (h₀:=X.base) I.ok.mod.DA hk (cI (ha pos pins s G H _ I h) λus s1 ⟨vs,H1,I1,r,q⟩=>⟨I1.DE,?_⟩) he hpl;exact zE F hr hb hd hx I1 r q
end
structure au(N P:List Str)(sc:Scope):Prop where
 kind:sc.kind=.function
 co:sc.isCoroutine=false
 gen:sc.isGenerator=false
 nd:N.Nodup
 pre:N.take P.length=P
 par:∀x∈P,sc.names.lookup x=some .local\/sc.names.lookup x=some .cell
 zF:∀y∈sc.names,y.2≠.free
def Qb{kindOf:Str->Option NameKind}{x:Str}:∀{binds:List (Str×Value)} {m:Str->Option Value},(∀v,(x,v) ∉ binds)->bindL kindOf binds m x=m x
 |[],_,_=>rfl
 |(n,v) :: r,m,h=>by
  unfold bindL;rw[Qb λw hw=>h w (Zah _ hw)];split
  have:x≠n:=by rintro rfl;exact h v Zaf
  simp[this];rfl
def Qc{kindOf:Str->Option NameKind}{x:Str}:∀{binds:List (Str×Value)} {m:Str->Option Value},(∀v,(x,v) ∉ binds)->bindC kindOf binds m x=m x
 |[],_,_=>rfl
 |(n,v) :: r,m,h=>by
  unfold bindC;rw[Qc λw hw=>h w (Zah _ hw)];split;rfl
  have:x≠n:=by rintro rfl;exact h v Zaf
  simp[this]
def Qd{kindOf:Str->Option NameKind}{x:Str}{v:Value}:∀{P:List Str} {vs:List Value} {i:Nat} {m:Str->Option Value},P.Nodup->P[i]?=some x->vs[i]?=some v->kindOf x=some .local ->
  bindL kindOf (P.zip vs) m x=some v
 |[],_,_,_,_,h,_,_=>by simp at h
 |_ :: _,[],_,_,_,_,h,_=>by simp at h
 |p :: P,w :: vs,0,m,nd,h1,h2,hk=>by
  simp at h1 h2;subst h1;subst h2;show bindL kindOf ((p,w) :: P.zip vs) m p=_;unfold bindL;rw[Qb λv hv=>(Zbp.mp nd).1 (List.of_mem_zip hv).1,if_pos hk];simp
 |p :: P,w :: vs,i+1,m,nd,h1,h2,hk=>by
  show bindL kindOf ((p,w) :: P.zip vs) m x=_;unfold bindL;exact Qd (i:=i) (Zbp.mp nd).2 (by simpa using h1) (by simpa using h2) hk
def Qe{kindOf:Str->Option NameKind}{x:Str}{v:Value}:∀{P:List Str} {vs:List Value} {i:Nat} {m:Str->Option Value},P.Nodup->P[i]?=some x->vs[i]?=some v->kindOf x≠some .local ->
  bindC kindOf (P.zip vs) m x=some v
 |[],_,_,_,_,h,_,_=>by simp at h
 |_ :: _,[],_,_,_,_,h,_=>by simp at h
 |p :: P,w :: vs,0,m,nd,h1,h2,hk=>by
  simp at h1 h2;subst h1;subst h2;show bindC kindOf ((p,w) :: P.zip vs) m p=_;unfold bindC;rw[Qc λv hv=>(Zbp.mp nd).1 (List.of_mem_zip hv).1,if_neg hk];simp
 |p :: P,w :: vs,i+1,m,nd,h1,h2,hk=>by
  show bindC kindOf ((p,w) :: P.zip vs) m x=_;unfold bindC;exact Qe (i:=i) (Zbp.mp nd).2 (by simpa using h1) (by simpa using h2) hk
abbrev start(N:List Str)(vs:List V):St:=vs.map some ++ List.replicate (N.length-vs.length) none
abbrev jR(CX:sM)(P:Program)(w:World)(K:Zfr)(mg:Str->Option Value)(base:Heap)(N:List Str)(qual:Str)(scope:Scope)(f:Addr)(cd:Value)(A:Around)(outer:List Env)(s:Shared)(H:Hp)(E:XK):Cx where
 prog:=P
 w:=w
 K:=K
 mg:=mg
 base:=base
 A:=A.deeper (envOfC qual scope s.heap.objs.size f cd)
 N:=N
 s₀:=s
 H₀:=H
 env:=envOfC qual scope s.heap.objs.size f cd
 outer:=outer
 stack:=envOfC qual scope s.heap.objs.size f cd :: outer
 ex:=[]
 calm:=true
 fn:=λ_=>true
 pn:=[]
 xe:=λe s'=>wpAny (model P w) (A.deeper (envOfC qual scope s.heap.objs.size f cd)) («leaving» (envOfC qual scope s.heap.objs.size f cd) e) (λ_ s''=>CX outer H s E e s'') (λe' s''=>CX outer H s E e' s'') s'
def Qf{sc:Scope}{n:Nat}{x:Str}(h:sc.names.lookup x=some .cell):∃c,(cellsFrom n sc.names []).lookup x=some c:=by have q:=PySem.W.cellsFrom_some sc.names n [] (.inl h);exact Zbe.mp q
def VQ{CX:sM}{P:Program}{w:World}{K:Zfr}{mg:Str->Option Value}{base:Heap}{N ps:List Str}{qual:Str}{scope:Scope}{f:Addr}{cd:Value}{A:Around}{outer:List Env}{s s1:Shared}{H:Hp}{E:XK}{us:List Value}{vs:List V}
  (S:au N ps scope) (hd:A.handled=none) (e0:wq P w K mg base A outer s H) (hl:vs.length=ps.length) (r:Vals vs us)
  (x:InCallC s s.heap.objs.size (bindL (envOfC qual scope s.heap.objs.size f cd).kindOf (ps.zip us) λ_=>none) (cellsFrom (s.heap.objs.size+1) scope.names []) (bindC (envOfC qual scope s.heap.objs.size f cd).kindOf (ps.zip us) λ_=>none) s1) :
  Inv (jR CX P w K mg base N qual scope f cd A outer s H E) [] (start N vs) H s1:=by
 have hpl:ps.length<=N.length:=by have:=congrArg List.length S.pre;rw[Za2]at this;lk
 obtain⟨h1,tk,rfl,hk⟩:=x.done;have D7:∀b:Addr,b ∉ (jR CX P w K mg base N qual scope f cd A outer s H E).ex:=λb z=>absurd (show b∈([]:List Addr)from z) (by simp)
 refine⟨⟨e0.mod,S.kind,rfl,rfl,Zab _,λy z c h1 h2=>?_,λy hy=>?_,λy c _ h=>?_,λ_=>hd,Around.frames_deeper e0.frames,.inr ⟨rfl,rfl⟩,λb z=>absurd z (D7 b),e0.bs,e0.vK,λb _ _=>D7 b,λb z=>absurd z (D7 b),e0.o5,e0.Cr⟩,
  rfl,e0.bare,Un.kept hk,⟨_,x.toInCall.ns,λi y v h1 h2 h3=>?_⟩,λy c h=>⟨_,x.cell y c h⟩,e0.hok.fresh (Zab _),λy c h=>?_,λp hp=>absurd (show p∈([]:List (Addr×Obj))from hp) (by simp),e0.hok.kept hk,?_⟩
 exact name_of_addr x.apart (PySem.mem_of_lookup h1) (PySem.mem_of_lookup h2);have hy:scope.names.lookup y=some .cell\/scope.names.lookup y=some .free:=hy;rcases hy with hy|hy
 exact Qf hy;exact absurd rfl (S.zF _ (PySem.mem_of_lookup hy));exact Zcu (x.above y c (PySem.mem_of_lookup h));have hi:i < vs.length:=by
  unfold start at h2;by_cases hi:i<vs.length;exact hi;rw[ZaB (by simpa using hi)]at h2;rw[Zbg]at h2;split at h2<;>cases h2
 have ha:vs[i]?=some v:=by
  unfold start at h2;rw[ZaH (by simpa using hi),Zaj]at h2;cases e:vs[i]? with
  |none=>rw[e]at h2;cases h2
  |some a=>rw[e]at h2;cases h2;rfl
 obtain⟨u,hu,rv⟩:=r.get ha;have hp:ps[i]?=some y:=by
  rw[<- S.pre,List.getElem?_take_of_lt ⋯];exact h1
 have Qg:ps.Nodup:=by rw[<- S.pre];exact S.nd.sublist (List.take_sublist _ _)
 refine⟨u,rv,?_⟩;rcases S.par y (Zas hp)with k|k
 exact .inl ⟨k,Qd Qg hp hu k⟩;obtain⟨c,e⟩:=Qf (n:=s.heap.objs.size+1) k;refine .inr ⟨.inl k,c,e,?_⟩;have q:=x.cell y c e;rw[Qe Qg hp hu (by show scope.names.lookup y≠_;rw[k];decide)]at q;exact q;exact e0.hok.fresh (Zcu (x.above y c (PySem.mem_of_lookup h)));unfold start;show _=N.length;rw[Zak,Zaa,ZaG];lk
def D8{CX:sM}{P:Program}{w:World}{K:Zfr}{mg:Str->Option Value}{base:Heap}{k:Nat}{f:Addr}{name qual:Str}{params:Arguments}{body:List Stmt}{scope:Scope}{dV kV doc pm cdv ct oc:Value}{an od:Option Addr}
  {osl:Array (Option Value)} {N ps:List Str} {sp:Sp} (lk:K.lookup f=some ⟨oc,od,.func (PySem.W.fnOf name qual params body scope dV kV doc pm an cdv ct),osl⟩) (hcd:PySem.W.codeIn K cdv qual=true) (S:au N ps scope)
  (len:∀vs H Q E,sp vs H Q E->vs.length=ps.length)
  (hbody:∀(A:Around) (outer:List Env) (s:Shared) (H:Hp) (vs:List V) (Q:VK) (E:XK),jQ k (A.deeper (envOfC qual scope s.heap.objs.size f cdv))->sp vs H Q E ->
   ∃t,tN (jR CX P w K mg base N qual scope f cdv A outer s H E) body t/\t { nx:=λ_ H'=>Q .non H',rt:=Q } (start N vs) H) :
  aC P w K mg base CX (k+1) f (PySem.W.fnOf name qual params body scope dV kV doc pm an cdv ct) ps sp:=by
 refine⟨len,λA outer s H args us vs Q E hr e0 hb r vO=>?_⟩;have hl:=len _ _ _ _ vO;have KX:K.In s.heap:=e0.mod.DA.keeps λb o e=>(e0.bs b o e).1;have lim:s.heap.NoLimit:=e0.mod.nolimit.keeps λb o e=>(e0.bs b o e).1;have hkind:∀y∈ps.zip us,scope.names.lookup y.1=some .local\/(scope.names.lookup y.1=some .cell/\((cellsFrom (s.heap.objs.size+1) scope.names []).lookup y.1).isSome=true):=λ⟨n,v⟩ hy=>by
  rcases S.par n (List.of_mem_zip hy).1 with q|q
  ·exact .inl q
  ·exact .inr ⟨q,PySem.W.cellsFrom_some _ _ _ (.inl q)⟩
 refine codeAny_call_function hr.depth (KX _ _ lk) rfl S.co S.gen rfl (PySem.W.codeRec_of KX hcd) (hb _ _ _ _ ?_);refine wpAny_newFunctionEnv_cells S.kind hkind λenv he s1 x=>?_;subst he;refine⟨lim.keeps x.toInCall.keep,codeAny_func ?_⟩;obtain⟨t,ht,hq⟩:=hbody A outer s H vs Q E (hr.deeper _) vO;have I:Inv (jR CX P w K mg base N qual scope f cdv A outer s H E) [] (start N vs) H s1:=VQ S hr.hd e0 hl r x;refine wpAny_mono (ht [] s1 (start N vs) H _ I hq) (λfl s' hs=>?_) λe s' hs=>hs;have fin:∀{G':St} {H':Hp} {v:V} {u:Value},Inv (jR CX P w K mg base N qual scope f cdv A outer s H E) [] G' H' s'->RelV v u->Q v H'->CE outer P w H s Q u s' :=
  λ{G' H' v u} J rv q=>⟨v,H',J.os,J.bare,J.base,J.hok,rv,q⟩
 cases fl with
 |ret u =>
  obtain⟨v,G',H',J,rv,q⟩:=hs;exact fin J rv q
 |next =>
  obtain⟨G',H',J,q⟩:=hs;exact fin (v:=V.non) (u:=Value.none) J rfl q
 |brk =>
  obtain⟨_,_,_,q⟩:=hs;exact False.elim q
 |cont =>
  obtain⟨_,_,_,q⟩:=hs;exact False.elim q
section
variable {X:Cx}{x:Str}{p pos:Pos}{e:Expr}{es:List Expr}{t:TA}{id T:String}{r:List V->Hp->VK->Prop}
abbrev Mp(r:List V->Hp->VK->Prop)(t:TA):TE:=λG H Q=>t G H λvs H1=>r vs H1 Q
def my(hc:ly X (.builtin id) r)(hg:Gl X x)(hm:X.mg x=none)(hv:bootBuiltins x=some (.builtin id))(ha:PA X (e :: es) t)(hn:x≠"__name__" := by decide)(hdb:(x == ("__debug__" : Str))=false:=by decide)
  (he:starEach (e :: es) X.env=(false,eval e X.env) :: starEach es X.env:=by rfl) (hpl:(backTo pos (starEach es X.env)).any (·.1)=false:=by rfl):PE X (.Call (.Name x p) (e :: es) [] pos) (Mp r t):=by
 intro pins s G H Q I h;refine wpAny_Call_Name_kw (xG I hg hm hv ?_ hn hdb);exact PyProof.Rows.callWith_builtin1 (cI (ha pos pins s G H _ I h) λus s1 ⟨vs,H1,I1,r1,q1⟩=>hc pins s1 G H1 vs us Q I1 r1 q1) he hpl
def ja(hc:ly X (.type T) r)(hg:Gl X x)(hm:X.mg x=none)(hv:bootBuiltins x=some (.type T))(ha:PA X (e :: es) t)(hn:x≠"__name__" := by decide)(hdb:(x == ("__debug__" : Str))=false:=by decide)
  (he:starEach (e :: es) X.env=(false,eval e X.env) :: starEach es X.env:=by rfl) (hpl:(backTo pos (starEach es X.env)).any (·.1)=false:=by rfl):PE X (.Call (.Name x p) (e :: es) [] pos) (Mp r t):=by
 intro pins s G H Q I h;refine wpAny_Call_Name_kw (xG I hg hm hv ?_ hn hdb);exact PyProof.Rows.callWith_type1 (cI (ha pos pins s G H _ I h) λus s1 ⟨vs,H1,I1,r1,q1⟩=>hc pins s1 G H1 vs us Q I1 r1 q1) he hpl
end
end L2
namespace HT
open PySem PyProof.Rows
def VR(A:Around)(s:Shared)(a:Int)(t:Tok)(c:Int)(u:Tok):∃e,SeqAt.EqAt A s (.int a t) (.int c u) e/\(e=true↔a=c) :=
 ⟨(a == c),SeqAt.EqAt.int_int a t c u,by simp⟩
section
variable {prog:Program}{w:World}{A:Around}{E:Value->Shared->Prop}{s:Shared}
def VS{t b:Addr}{vs ws:List Value}{Q:Value->Shared->Prop}(ht:IsTup s.heap t vs.toArray)(hb:IsTup s.heap b ws.toArray)(hv:vs≠[])
  (h1:ws=[]->Q (.ref t) s) (h2:ws≠[]->Q (.ref s.heap.objs.size) { s with heap:=s.heap.push { cls:=.type "tuple",data:=.seq (vs ++ ws).toArray } })
  (hsz:vs.length+ws.length<=sizeLine):wpAny (model prog w) A (binaryOp .Add (.ref t) (.ref b)) Q E s:=by
 obtain⟨⟨cls,dd,data,sl⟩,ho,hc,n,hd⟩:=id ht;obtain⟨⟨Mq,dd2,data2,sl2⟩,ho2,hc2,n2,hd2⟩:=id hb;simp only at hc hd hc2 hd2;subst hc hd hc2 hd2;have e:vs.toArray ++ ws.toArray=(vs ++ ws).toArray:=by simp
 by_cases hw:ws=[];exact concat_meets ⟨_,ho,rfl⟩ ⟨_,ho2,rfl⟩ noFill_tuple_add seq_tuple_add PySem.F.slot_tuple_add PySem.F.entry_tuple_add (PySem.F.args_tuple_add_2 _ _)
  (tuple_addW1 t b vs.toArray ws.toArray n n2 dd dd2 sl sl2 (by simpa using hv) (by simp[hw])) ⟨ho,ho2,h1 hw⟩
 refine concat_meets ⟨_,ho,rfl⟩ ⟨_,ho2,rfl⟩ noFill_tuple_add seq_tuple_add PySem.F.slot_tuple_add PySem.F.entry_tuple_add (PySem.F.args_tuple_add_2 _ _)
  (tuple_addW2 t b vs.toArray ws.toArray n n2 dd dd2 sl sl2 (by simpa using hv) (by simpa using hw) (by rw[Zap,Zap];exact hsz)) ⟨ho,ho2,?_⟩
 rw[e];exact h2 hw
abbrev dz(n d:Nat):Option Int->Nat
 |none=>d
 |some v=>if v<0 then(v+(n:Int)).toNat else min v.toNat n
def Qh(n d:Nat):dz n d none=d:=rfl
def Qi(n d k:Nat):dz n d (some (k:Int))=min k n:=by show(if(k:Int)<0 then((k:Int)+(n:Int)).toNat else min (k:Int).toNat n)=min k n;rw[if_neg ⋯,Zae]
def zG(n d:Nat)(hd:d<=n)(o:Option Int):dz n d o<=n:=by
 cases o with
 |none=>exact hd
 |some v =>
  show(if v<0 then(v+(n:Int)).toNat else min v.toNat n)<=n;by_cases hv:v<0;rw[if_pos hv];lk;rw[if_neg hv];exact Nat.min_le_right _ _
def Qj(v:Int)(n d:Nat):(if v<0 then max (v+(n:Int)) 0 else min v (n:Int))=((dz n d (some v):Nat):Int):=by show(if v<0 then max (v+(n:Int)) 0 else min v (n:Int))=(((if v<0 then(v+(n:Int)).toNat else min v.toNat n):Nat):Int);by_cases hv:v<0;simp only[if_pos hv];lk;simp only[if_neg hv];lk
def VT(lo hi:Option Int)(n:Nat):Builtin.Slice.sliceAdjust lo hi 1 (n:Int)=(((dz n 0 lo:Nat):Int),((dz n n hi:Nat):Int)):=by
 have h1:¬((1:Int)<0):=by lk
 unfold Builtin.Slice.sliceAdjust;simp only[h1,if_false];refine Prod.ext ?_ ?_;cases lo with
 |none=>rfl
 |some v=>exact Qj v n 0
 cases hi with
 |none=>rfl
 |some v=>exact Qj v n n
def VU(i j:Nat):Builtin.Slice.slicePlaces (i:Int) (j:Int) 1=j-i:=by
 unfold Builtin.Slice.slicePlaces;have h1:(1:Int) > 0:=by lk
 simp only[h1,if_true,Int.ediv_one];split<;>lk
def Qk{v:Value}{o:Option Int}{Q:Option Int->Shared->Prop}(p:IsPart v o)(h:Q o s):wpAny (model prog w) A (Builtin.Slice.slicePartIndex v) Q E s:=by
 cases p with
 |none=>exact slicePart_none h
 |int i t=>exact slicePart_int h
def Ql{sl:Addr}{vl vu:Value}{lo hi:Option Int}{n:Nat}{Q:Int×Int×Nat->Shared->Prop}(hs:s.heap.IsSliceOf sl vl vu .none)(pl:IsPart vl lo)(pu:IsPart vu hi)
  (h:Q (((dz n 0 lo:Nat):Int),1,dz n n hi-dz n 0 lo) s):wpAny (model prog w) A (Builtin.Slice.sliceApplied (.ref sl) (pure (n:Int))) Q E s:=by
 obtain⟨os,hos,hcs,hds⟩:=id hs;unfold Builtin.Slice.sliceApplied Builtin.Slice.sliceFields;refine wpAny_bind (wpAny_bind (wpAny_field hos hds (x:=vl) rfl (wpAny_bind (wpAny_field hos hds (x:=vu) rfl (wpAny_bind (wpAny_field hos hds (x:=.none) rfl (wpAny_pure ?_)))))));refine wpAny_bind (slicePart_none ?_);show wpAny _ _ (if((1:Int) == 0)=true then _ else _) _ _ s;rw[if_neg ∅];refine wpAny_bind (Qk pl (wpAny_bind (Qk pu (wpAny_bind (wpAny_pure ?_)))));show wpAny _ _ (match Builtin.Slice.sliceAdjust lo hi 1 (n:Int)with|(lo,hi)=>pure (lo,(1:Int),Builtin.Slice.slicePlaces lo hi 1)) _ _ s;rw[VT lo hi n];show wpAny _ _ (pure (((dz n 0 lo:Nat):Int),(1:Int),Builtin.Slice.slicePlaces ((dz n 0 lo:Nat):Int) ((dz n n hi:Nat):Int) 1)) _ _ s;rw[VU];exact wpAny_pure h
def VW(xs:Array Value)(i k:Nat):((List.range k).filterMap λ(m:Nat)=>xs[((i:Int)+(m:Int)*1).toNat]?).toArray=((xs.toList.drop i).take k).toArray:=by
 have e:(λ(m:Nat)=>xs[((i:Int)+(m:Int)*1).toNat]?)=λm=>xs[i+m]?:=by
  funext m
  have:((i:Int)+(m:Int)*1).toNat=i+m:=by lk
  rw[this]
 rw[e];have:=pick_run xs i k;rw[List.filterMap_map]at this;have e2:((λx=>xs[x]?) ∘ λx=>i+x)=λm=>xs[i+m]?:=rfl;rw[e2]at this;rw[this]
def VX{t sl:Addr}{items:Array Value}{vl vu:Value}{lo hi:Option Int}{Q:Value->Shared->Prop}(ht:IsTup s.heap t items)(hs:s.heap.IsSliceOf sl vl vu .none)(pl:IsPart vl lo)(pu:IsPart vu hi)
  (hw:¬(dz items.size 0 lo=0/\dz items.size items.size hi=items.size))
  (h:Q (.ref s.heap.objs.size) { s with heap:=s.heap.push { cls:=.type "tuple",data:=.seq ((items.toList.drop (dz items.size 0 lo)).take (dz items.size items.size hi-dz items.size 0 lo)).toArray } })
  (hsz:items.size<=sizeLine):wpAny (model prog w) A (getItem (.ref t) (.ref sl)) Q E s:=by
 have sN:sizeOk (.seq ((items.toList.drop (dz items.size 0 lo)).take (dz items.size items.size hi-dz items.size 0 lo)).toArray):=by
  show((items.toList.drop (dz items.size 0 lo)).take (dz items.size items.size hi-dz items.size 0 lo)).toArray.size<=sizeLine;rw[Zap,Za2,Zcl,Zb7];lk
 have hj:dz items.size items.size hi<=items.size:=zG _ _ (Zab _) hi;obtain⟨os,hos,hcs,hds⟩:=id hs;have Mr:s.TypeIs (.ref sl) "slice" := ⟨os,hos,hcs⟩;unfold getItem
 try with_reducible refine wpAny_holding ?_
 first|refine wpAny_bind (wpAny_pure ?_)|skip
 refine wpAny_bind (wpAny_sequenceKey ht.typeIs ∅ ?_)
 refine wpAny_bind (wpAny_callSpecial?_slot (name:=Str.ofString "__getitem__") ht.typeIs PyProof.Rows.slot_tuple_getitem
  (wpAny_call_entry PyProof.Rows.slot_tuple_getitem ht.typeIs entry_tuple_getitem ?_ (args_tuple_getitem _ _)))
 show wpAny _ _ (Builtin.Tuple.tupleItemsOf (.ref t) >>= _) _ _ s;refine wpAny_bind (tupleItemsOf_ ht ?_);refine wpAny_bind (wpAny_typeOf Mr ?_);rw[if_pos ∅];refine wpAny_bind (Ql hs pl pu ?_);have hno:¬((((dz items.size 0 lo:Nat):Int) == 0 && (1:Int) == 1 && (dz items.size items.size hi-dz items.size 0 lo) == items.size)=true):=by
  intro q;rw[ZaJ,ZaJ]at q;have q1:((dz items.size 0 lo:Nat):Int)=0:=eq_of_beq q.1.1;have q2:dz items.size items.size hi-dz items.size 0 lo=items.size:=eq_of_beq q.2;exact hw ⟨by lk,by lk⟩
 show wpAny _ _ (if(((dz items.size 0 lo:Nat):Int) == 0 && (1:Int) == 1 && (dz items.size items.size hi-dz items.size 0 lo) == items.size)=true then _ else _) _ _ s;rw[if_neg hno,VW]
 first
  |exact wpAny_bind (m:=Builtin.Tuple.tupleExact _) (wpAny_newObj_type (wpAny_pure ⟨_,rfl,wpAny_pure h⟩) sN)
  |exact wpAny_bind (m:=Builtin.Tuple.tupleExact _) (wpAny_newObj_type (wpAny_bind (wpAny_pure (wpAny_pure ⟨_,rfl,wpAny_pure h⟩))) sN)
  |exact wpAny_bind (wpAny_bind (m:=Builtin.Tuple.tupleExact _) (wpAny_newObj_type (wpAny_pure (wpAny_pure ⟨_,rfl,wpAny_pure h⟩)) sN))
  |exact wpAny_bind (wpAny_bind (m:=Builtin.Tuple.tupleExact _) (wpAny_newObj_type (wpAny_pure ⟨_,rfl,wpAny_pure h⟩) sN))
end
end HT
namespace L2
open PySem PySem.Spec PyProof.Rows
@[reducible]def TO:=St->Hp->(Option Int->Hp->Prop)->Prop
abbrev PO(X:Cx)(e:Option Expr)(t:TO):Prop :=
 ∀(pins:List (Addr×Obj)) (s:Shared) (G:St) (H:Hp) (Q:Option Int->Hp->Prop),Inv X pins G H s->t G H Q ->
  wpAny (model X.prog X.w) X.A (evalPart e X.env) (λu s'=>∃o H',Inv X pins G H' s'/\IsPart u o/\Q o H') X.xe s
abbrev sP:TO:=λ_ H Q=>Q none H
abbrev xW(t:TE):TO:=λG H Q=>t G H λx H1=>∃i,x=.int i/\Q (some i) H1
def VY{ns:List Int}:∀{us:List Value},Vals (ns.map V.int) us->IntsAre us ns:=by
 induction ns with
 |nil=>intro us r;rw[Za3]at r;cases r;exact .nil
 |cons n ns ih =>
  intro us r;rw[Zav]at r;cases r with
  |cons r1 r2 =>
   obtain⟨t,e⟩:=r1;subst e;exact .cons n t (ih r2)
section
variable {X:Cx}{e:Expr}{te:TE}{lo hi:Option Expr}{tl th:TO}{pos p2:Pos}
def wt:PO X none sP:=by intro pins s G H Q I h;rw[evalPart_none];exact wpAny_pure ⟨none,H,I,.none,h⟩
def wx(h:PE X e te):PO X (some e) (xW te):=by intro pins s G H Q I hw;rw[evalPart_some];refine cI (h pins s G H _ I hw) λu s1 ⟨x,H1,I1,r1,q1⟩=>?_;obtain⟨i,rfl,q⟩:=q1;obtain⟨t,rfl⟩:=r1;exact⟨some i,H1,I1,.int i t,q⟩
abbrev JE(X:Cx)(r:V->Option Int->Option Int->Hp->VK->Prop):Prop :=
 ∀(pins:List (Addr×Obj)) (s:Shared) (G:St) (H:Hp) (x:V) (v vl vu:Value) (lo hi:Option Int) (sl:Addr) (Q:VK),Inv X pins G H s->RelV x v->s.heap.IsSliceOf sl vl vu .none->IsPart vl lo->IsPart vu hi->r x lo hi H Q ->
  ∃T id,typeLookup (.type T) "__getitem__" = pure (some (.builtin id))/\s.TypeIs v T/\wpAny (model X.prog X.w) X.A (getItem v (.ref sl)) (EP X pins G Q) X.xe s
abbrev Qm(r:V->Option Int->Option Int->Hp->VK->Prop)(te:TE)(tl th:TO):TE:=λG H Q=>te G H λx H1=>tl G H1 λl H2=>th G H2 λu H3=>r x l u H3 Q
def wy{r:V->Option Int->Option Int->Hp->VK->Prop}(hr:JE X r)(he:PE X e te)(hl:PO X lo tl)(hu:PO X hi th):PE X (.Subscript e (.Slice lo hi none p2) pos) (Qm r te tl th):=by intro pins s G H Q I h;refine Subscript_ (cI (he pins s G H _ I h) λv s1 ⟨x,H1,I1,r1,q1⟩=>?_);refine wpAny_Slice (cI (hl pins s1 G H1 _ I1 q1) λvl s2 ⟨l,H2,I2,pl,q2⟩=>cI (hu pins s2 G H2 _ I2 q2) λvu s3 ⟨u,H3,I3,pu,q3⟩=>?_);rw[evalPart_none];refine wpAny_pure ?_;have I4:Inv X pins G H3 { s3 with heap:=s3.heap.push { cls:=.type "slice",data:=.fields #[vl,vu,.none] } }:=I3.kept (t':=s3.toks) λb ob q=>Zac _ q;obtain⟨T,id,hT,ht,hg⟩:=hr pins { s3 with heap:=s3.heap.push { cls:=.type "slice",data:=.fields #[vl,vu,.none] } } G H3 x v vl vu l u s3.heap.objs.size Q I4 r1 (Heap.IsSliceOf.new ..) pl pu q3;show wpAny (model X.prog X.w) X.A (subscriptTail e (.Slice lo hi none p2) v (.ref s3.heap.objs.size)) (EP X pins G Q) X.xe { s3 with heap:=s3.heap.push { cls:=.type "slice",data:=.fields #[vl,vu,.none] } };exact tail_any (ops:=[.ref s3.heap.objs.size,v]) ht hT hg (by with_unfolding_all rfl)
abbrev pb(xs:List V)(lo hi:Option Int):List V:=(xs.drop (HT.dz xs.length 0 lo)).take (HT.dz xs.length xs.length hi-HT.dz xs.length 0 lo)
def Qn(xs:List V)(lo hi:Option Int):(pb xs lo hi).length<=xs.length:=by unfold pb;rw[Za2,Zcl];lk
abbrev Ms(K:Zfr):V->Option Int->Option Int->Hp->VK->Prop:=λx lo hi H Q=>∃a xs,x=.ref a/\gS K H a xs /\
 ¬(HT.dz xs.length 0 lo=0/\HT.dz xs.length xs.length hi=xs.length)/\∀p,H p=none->Q (.ref p) (upd H p (.tup (pb xs lo hi)))
def zH:JE X (Ms X.K):=by
 intro pins s G H x v vl vu lo hi sl Q I rx hs pl pu h;obtain⟨a,xs,rfl,hx,hw,q⟩:=h;cases rx;obtain⟨its,r,ht,hz⟩:=I.tuple hx;have hlen:its.toArray.size=xs.length:=by rw[Zap];exact r.length.symm
 refine⟨"tuple",_,PyProof.Rows.slot_tuple_getitem.lookup,ht.typeIs,?_⟩;refine HT.VX ht hs pl pu (by rw[hlen];exact hw) ?_ (by rw[hlen];exact hz);rw[hlen];refine⟨.ref s.heap.objs.size,_,I.laid (t':=s.toks) (o:=.tup (pb xs lo hi)) (λb ob q=>Zac _ q) (Zab _) ?_,rfl,q _ (I.hok.fresh (Zab _))⟩;exact⟨Zaw (Qn xs lo hi) hz,_,(r.drop (HT.dz xs.length 0 lo)).take (HT.dz xs.length xs.length hi-HT.dz xs.length 0 lo),qj.new _ _⟩
abbrev D9(K:Zfr):R2:=λx y H Q=>∃a b xs ys,x=.ref a/\y=.ref b/\gS K H a xs/\gS K H b ys/\xs≠[]/\xs.length+ys.length<=sizeLine /\
 (ys=[]->Q (.ref a) H)/\(ys≠[]->∀p,H p=none->Q (.ref p) (upd H p (.tup (xs ++ ys))))
def Vals.oK{xs:List V}{us:List Value}(r:Vals xs us):us=[]↔xs=[]:=by
 cases r with
 |nil=>simp
 |cons _ _=>simp
def VZ:mP X (binaryOp .Add) (D9 X.K):=by intro pins s G H x y v u Q I rx ry h;obtain⟨a,b,xs,ys,rfl,rfl,ha,hb,hx,hz,q1,q2⟩:=h;cases rx;cases ry;obtain⟨its,r1,p1,_⟩:=I.tuple ha;obtain⟨its2,r2,p2,_⟩:=I.tuple hb;refine HT.VS p1 p2 (λz=>hx (r1.oK.mp z)) (λz=>⟨.ref a,H,I,rfl,q1 (r2.oK.mp z)⟩) (λz=>?_) (by rw[<- r1.length,<- r2.length];exact hz);refine⟨.ref s.heap.objs.size,_,I.laid (t':=s.toks) (o:=.tup (xs ++ ys)) (λb ob q=>Zac _ q) (Zab _) ?_,rfl,q2 (λw=>z (r2.oK.mpr w)) _ (I.hok.fresh (Zab _))⟩;exact⟨by rw[Zak];exact hz,_,r1.append r2,qj.new _ _⟩
end
abbrev lS(n:Nat)(i:Int):Option Nat:=if 0<=i then(if i<n then some i.toNat else none)else if -(n:Int)<=i then some (i+n).toNat else none
abbrev gT{J:Type}(xs:List J)(i:Int):Option J:=(lS xs.length i).bind λj=>xs[j]?
def Mt{n:Nat}{i:Int}{j:Nat}(h:lS n i=some j):seqIndex? i n=some j/\j<n/\-(n:Int)<=i/\i<n:=by unfold lS at h;by_cases h0:0<=i;rw[if_pos h0]at h;by_cases h1:i<n;rw[if_pos h1]at h;have e:i.toNat=j:=Zai h;exact⟨by rw[seqIndex_of h0 h1,e],by lk,by lk,h1⟩;rw[if_neg h1]at h;cases h;rw[if_neg h0]at h;by_cases h1:-(n:Int)<=i;rw[if_pos h1]at h;have e:(i+n).toNat=j:=Zai h;exact⟨by rw[seqIndex_neg ⋯ h1,e],by lk,h1,by lk⟩;rw[if_neg h1]at h;cases h
def Mu{J:Type}{xs:List J}{i:Int}{v:J}(h:gT xs i=some v):∃j,seqIndex? i xs.length=some j/\xs[j]?=some v/\j<xs.length/\-(xs.length:Int)<=i/\i<xs.length:=by
 unfold gT at h;cases e:lS xs.length i with
 |none=>rw[e]at h;cases h
 |some j =>
  rw[e]at h;obtain⟨h1,h2,h3,h4⟩:=Mt e;exact⟨j,h1,h,h2,h3,h4⟩
def Ea{J:Type}{xs:List J}{j:Nat}{v:J}(h:xs[j]?=some v):gT xs (j:Int)=some v:=by
 have hj:j<xs.length:=(Zad.mp h).1;have e:lS xs.length (j:Int)=some j:=by
  unfold lS;rw[if_pos ⋯,if_pos ⋯];simp
 unfold gT;rw[e];exact h
abbrev wA(b:Expr):Prop:=∀o i,subscripted b false o i=operate [o,i] (getItem o i)
abbrev Eb(X:Cx)(r:R2):Prop :=
 ∀(value slice:Expr) (pins:List (Addr×Obj)) (s:Shared) (G:St) (H:Hp) (x y:V) (v u:Value) (Q:VK),Inv X pins G H s->RelV x v->RelV y u->r x y H Q ->
  subscripted slice false v u=operate [v,u] (getItem v u)->wpAny (model X.prog X.w) X.A (subscriptTail value slice v u) (EP X pins G Q) X.xe s
abbrev Mv(X:Cx)(id:String)(r:V->List V->Hp->VK->Prop):Prop :=
 ∀(pins:List (Addr×Obj)) (s:Shared) (G:St) (H:Hp) (x:V) (xs:List V) (v:Value) (us:List Value) (Q:VK),Inv X pins G H s->RelV x v->Vals xs us->r x xs H Q ->
  wpAny (model X.prog X.w) X.A (call (.builtin id) (v :: us)) (EP X pins G Q) X.xe s
section
variable {X:Cx}{a b:Expr}{ta tb:TE}{pos:Pos}
def Ec{r:R2}(hr:Eb X r)(ha:PE X a ta)(hb:PE X b tb)(hs:wA b):PE X (.Subscript a b pos) (DX r ta tb):=by intro pins s G H Q I h;exact Subscript_ (zC ha hb I h λv u s2 x y H2 I2 rx ry q=>hr a b pins s2 G H2 x y v u Q I2 rx ry q (hs _ _))
abbrev Ed(K:Zfr):R2:=λx y H Q=>∃p xs i v,x=.ref p/\y=.int i/\kR K H p xs/\gT xs i=some v/\Q v H
abbrev zI(K:Zfr):R2:=λx y H Q=>∃p xs i v,x=.ref p/\y=.int i/\gS K H p xs/\gT xs i=some v/\Q v H
abbrev Ee:R2:=λx y H Q=>∃z i c,x=.str z/\y=.int i/\z.length<=sizeLine/\gT z.cps.toList i=some c/\Q (.str ⟨#[c]⟩) H
def pW:Eb X (Ed X.K):=by
 intro value slice pins s G H x y v u Q I rx ry h hs;obtain⟨p,xs,i,z,rfl,rfl,hq,he,q⟩:=h;cases rx;obtain⟨t,rfl⟩:=ry;obtain⟨its,r,pl,hz⟩:=I.list hq;obtain⟨j,h1,h2,h3,h4,h5⟩:=Mu he;obtain⟨w,ew,rw'⟩:=r.get h2;have hl:=r.length;have hn:=mQ;have fin:EP X pins G Q w s:=⟨z,H,I,rw',q⟩;by_cases h0:0<=i;have hj:i.toNat=j:=by
  rw[seqIndex_of h0 h5]at h1;exact Zai h1
 exact item_listR pl.isList h0 ⋯ (by rw[hj];simpa using ew) fin hs;have hj:(i + (its.toArray.size:Int)).toNat=j:=by
  rw[seqIndex_neg ⋯ h4]at h1;rw[Zap,<- hl];exact Zai h1
 exact subscriptTail_builtinR (x:=w) pl.isList.typeIs slot_list_getitem.lookup
  (wpAny_getItem_list_neg (Q:=λr s'=>r=w/\EP X pins G Q r s') pl.isList ⋯ (by rw[Zap]<;>lk) ⋯ (by rw[hj];simpa using ew) ⟨rfl,fin⟩) hs
def aY:Eb X (zI X.K):=by
 intro value slice pins s G H x y v u Q I rx ry h hs;obtain⟨p,xs,i,z,rfl,rfl,hq,he,q⟩:=h;cases rx;obtain⟨t,rfl⟩:=ry;obtain⟨its,r,pl,hz⟩:=I.tuple hq;obtain⟨j,h1,h2,h3,h4,h5⟩:=Mu he;obtain⟨w,ew,rw'⟩:=r.get h2;have hl:=r.length;have hn:=mQ;have fin:EP X pins G Q w s:=⟨z,H,I,rw',q⟩;exact subscriptTail_builtinR (x:=w) pl.typeIs slot_tuple_getitem.lookup
  (getItem_tuple (j:=j) (Q:=λr s'=>r=w/\EP X pins G Q r s') pl ⋯ ⋯ (by rw[Zap,<- hl];exact h1) (by simpa using ew) ⟨rfl,fin⟩) hs
def zJ:Eb X Ee:=by
 intro value slice pins s G H x y v u Q I rx ry h hs;obtain⟨z,i,c,rfl,rfl,hz,he,q⟩:=h;obtain⟨t,rfl⟩:=rx;obtain⟨t',rfl⟩:=ry;obtain⟨j,h1,h2,h3,h4,h5⟩:=Mu he;have hl:z.cps.toList.length=z.length:=by simp[Str.length]
 rw[hl]at h1 h4 h5;have hn:=mQ
 exact tail_any (typeIs_str s z t) slot_str_getitem.lookup (getItem_str (c:=c) (by
  have e1:decide (i < -(2 ^ 63:Int))=false:=decide_eq_false ⋯;have e2:decide (i >= 2 ^ 63)=false:=decide_eq_false ⋯
  rw[e1,e2,ZcO]) (by rw[h1];simpa using h2) ⟨.str ⟨#[c]⟩,H,I.tok _,⟨_,rfl⟩,q⟩) hs
def V0(its:List Value)(n j:Nat)(u:Value):Obj.mapSeq (·.setIfInBounds j u) { cls:=.type "list",data:=.seq its.toArray n }={ cls:=.type "list",data:=.seq (its.set j u).toArray n }:=by simp[Obj.mapSeq]
def Inv.lst{pins:List (Addr×Obj)}{G:St}{H:Hp}{s:Shared}{p:Addr}{xs:List V}(I:Inv X pins G H s)(h:H p=some (.lst xs)):
  ∃(its:List Value) (n:Nat),Vals xs its/\s.heap.get? p=some { cls:=.type "list",data:=.seq its.toArray n }/\xs.length<=sizeLine:=by
 obtain⟨z,its,n,r,e⟩:=I.hok p _ h;exact⟨its,n,r,e,z⟩
def Inv.zK{pins:List (Addr×Obj)}{G:St}{H:Hp}{s:Shared}{p:Addr}{xs ys:List V}{its its':List Value}{n n':Nat}{f:Obj->Obj}(I:Inv X pins G H s)(h:H p=some (.lst xs))
  (ho:s.heap.get? p=some { cls:=.type "list",data:=.seq its.toArray n }) (hf:f { cls:=.type "list",data:=.seq its.toArray n }={ cls:=.type "list",data:=.seq its'.toArray n' }) (r:Vals ys its') (hz:ys.length<=sizeLine) (t:Nat) :
  Inv X pins G (upd H p (.lst ys)) { s with heap:=s.heap.update p f,toks:=t }:=by
 have e:(s.heap.update p f).get? p=some { cls:=.type "list",data:=.seq its'.toArray n' }:=by
  rw[ZbU f ho (by rw[hf]<;>rfl),hf]
 refine I.write (x:=p) (e:=p) (by rw[h];trivial) (.inl rfl) (λb u hb q=>(Heap.get?_update_other _ _ (Ne.symm hb)).trans q) ⟨_,e⟩ ?_;exact⟨hz,its',n',r,e⟩
abbrev xX:V->V->V->Hp->(Hp->Prop)->Prop:=λo i v H Q=>∃p xs k j,o=.ref p/\i=.int k/\H p=some (.lst xs)/\lS xs.length k=some j/\Q (upd H p (.lst (xs.set j v)))
def rQ:DP X xX:=by
 intro pins s G H o i v ov iv u Q I ro ri rv h;obtain⟨p,xs,k,j,rfl,rfl,hp,hj,q⟩:=h;cases ro;obtain⟨t,rfl⟩:=ri;obtain⟨its,n,r,ho,hz⟩:=I.lst hp;obtain⟨h1,h2,h3,h4⟩:=Mt hj;have hl:=r.length;have hn:=mQ;have I':Inv X pins G (upd H p (.lst (xs.set j v))) { s with heap:=s.heap.update p (Obj.mapSeq (·.setIfInBounds j u)) } :=
  I.zK hp ho (V0 its n j u) (r.set rv j) (by rw[ZaU];exact hz) s.toks
 by_cases h0:0<=k;have hk:k.toNat=j:=by
  rw[seqIndex_of h0 h4]at h1;exact Zai h1
 exact PySem.W.ki_setAt ho h0 ⋯ (by rw[Zap,<- hl];exact h4) (by rw[hk];exact⟨_,I',q⟩);have hk:(k + (its.toArray.size:Int)).toNat=j:=by
  rw[seqIndex_neg ⋯ h3]at h1;rw[Zap,<- hl];exact Zai h1
 exact PySem.W.ki_setBack ho ⋯ (by rw[Zap,<- hl];exact h3) ⋯ (by rw[hk];exact⟨_,I',q⟩)
def V1(lo hi:Option Int)(n:Nat):(sliceBounds lo hi none n).1=((HT.dz n 0 lo:Nat):Int)/\(sliceBounds lo hi none n).2.1=((HT.dz n n hi:Nat):Int)/\(sliceBounds lo hi none n).2.2=1:=by
 refine⟨?_,?_,rfl⟩;cases lo with
 |none=>simp[sliceBounds,HT.dz]
 |some i =>
  simp only[sliceBounds,HT.dz,Option.getD_none,show(1:Int) > 0 by decide,if_true];by_cases h:i<0;simp only[h,if_true]<;>lk;simp only[h,if_false]<;>lk
 cases hi with
 |none=>simp[sliceBounds,HT.dz]
 |some i =>
  simp only[sliceBounds,HT.dz,Option.getD_none,show(1:Int) > 0 by decide,if_true];by_cases h:i<0;simp only[h,if_true]<;>lk;simp only[h,if_false]<;>lk
def V2(its:List Value)(lo hi:Option Int):slicePick its.toArray lo hi none=((its.drop (HT.dz its.length 0 lo)).take (HT.dz its.length its.length hi-HT.dz its.length 0 lo)).toArray:=by obtain⟨h1,h2,h3⟩:=V1 lo hi its.toArray.size;unfold slicePick;rw[h1,h2,h3];simp only[sliceRange_one,pick_run,Zap]<;>rfl
abbrev Ef(K:Zfr):V->Option Int->Option Int->Hp->VK->Prop:=λx lo hi H Q=>∃a xs,x=.ref a/\kR K H a xs/\∀p,H p=none->Q (.ref p) (upd H p (.lst (pb xs lo hi)))
def Qo:JE X (Ef X.K):=by intro pins s G H x v vl vu lo hi sl Q I rx hs pl pu h;obtain⟨a,xs,rfl,hx,q⟩:=h;cases rx;obtain⟨its,r,ht,hz⟩:=I.list hx;have hlen:=r.length;refine⟨"list",_,slot_list_getitem.lookup,ht.isList.typeIs,?_⟩;refine wpAny_getItem_list_slice ht.isList hs pl pu .none (by simp) ?_ (by rw[Zap]<;>lk);rw[V2,<- hlen];refine⟨.ref s.heap.objs.size,_,I.laid (t':=s.toks) (o:=.lst (pb xs lo hi)) (λb ob q=>Zac _ q) (Zab _) ?_,rfl,q _ (I.hok.fresh (Zab _))⟩;exact⟨Zaw (Qn xs lo hi) hz,_,0,(r.drop (HT.dz xs.length 0 lo)).take (HT.dz xs.length xs.length hi-HT.dz xs.length 0 lo),Zan _ rfl⟩
abbrev mI:V->Bool
 |.non=>true
 |.bl _=>true
 |.int _=>true
 |.str _=>true
 |_=>false
abbrev xY:V->V->Bool
 |.non,.non=>true
 |.bl a,.bl b=>a == b
 |.bl a,.int b=>(if a then 1 else 0) == b
 |.int a,.bl b=>a == (if b then 1 else 0)
 |.int a,.int b=>a == b
 |.str a,.str b=>a == b
 |_,_=>false
def zL{A:Around}{s:Shared}{y x:V}{u v:Value}(ry:RelV y u)(rx:RelV x v)(fy:mI y=true)(fx:mI x=true):SeqAt.EqAt A s u v (xY y x):=by
 cases y with
 |non =>
  cases ry;cases x with
  |non=>cases rx;exact SeqAt.EqAt.same _
  |bl b=>cases rx;exact SeqAt.EqAt.none_bool b
  |int b=>obtain⟨t,rfl⟩:=rx;exact SeqAt.EqAt.none_int b t
  |str b=>obtain⟨t,rfl⟩:=rx;exact SeqAt.EqAt.none_str b t
  |_=>exact absurd (show false=true from fx) Zal
 |bl a =>
  cases ry;cases x with
  |non=>cases rx;exact SeqAt.EqAt.bool_none a
  |bl b=>cases rx;exact SeqAt.EqAt.bool_bool a b
  |int b=>obtain⟨t,rfl⟩:=rx;exact SeqAt.EqAt.bool_int a b t
  |str b=>obtain⟨t,rfl⟩:=rx;exact SeqAt.EqAt.bool_str a b t
  |_=>exact absurd (show false=true from fx) Zal
 |int a =>
  obtain⟨t',rfl⟩:=ry;cases x with
  |non=>cases rx;exact SeqAt.EqAt.int_none a t'
  |bl b=>cases rx;exact SeqAt.EqAt.int_bool a t' b
  |int b=>obtain⟨t,rfl⟩:=rx;exact SeqAt.EqAt.int_int a t' b t
  |str b=>obtain⟨t,rfl⟩:=rx;exact SeqAt.EqAt.int_str a t' b t
  |_=>exact absurd (show false=true from fx) Zal
 |str a =>
  obtain⟨t',rfl⟩:=ry;cases x with
  |non=>cases rx;exact SeqAt.EqAt.str_none a t'
  |bl b=>cases rx;exact SeqAt.EqAt.str_bool a t' b
  |int b=>obtain⟨t,rfl⟩:=rx;exact SeqAt.EqAt.str_int a t' b t
  |str b=>obtain⟨t,rfl⟩:=rx;exact SeqAt.EqAt.str_str a t' b t
  |_=>exact absurd (show false=true from fx) Zal
 |_=>exact absurd (show false=true from fy) Zal
abbrev wB(x:V)(u:Value):Bool:=match u with
 |.none=>xY .non x
 |.bool b=>xY (.bl b) x
 |.int i _=>xY (.int i) x
 |.str z _=>xY (.str z) x
 |_=>false
def Qp{x y:V}{u:Value}(r:RelV y u)(f:mI y=true):wB x u=xY y x:=by
 cases y with
 |non=>cases r;rfl
 |bl b=>cases r;rfl
 |int i=>obtain⟨t,rfl⟩:=r;rfl
 |str z=>obtain⟨t,rfl⟩:=r;rfl
 |_=>exact absurd (show false=true from f) Zal
def Mw{x:V}:∀{xs:List V} {us:List Value},Vals xs us->xs.all mI=true->us.any (wB x)=xs.any λy=>xY y x
 |_,_,.nil,_=>rfl
 |y :: xs,u :: us,.cons r t,f=>by
  rw[List.all_cons,ZaJ]at f;rw[Zbf,Zbf,Qp r f.1,Mw t f.2]
def Mx{A:Around}{s:Shared}{x:V}{v:Value}(rx:RelV x v)(fx:mI x=true):∀{xs:List V} {us:List Value},Vals xs us->xs.all mI=true->∀u∈us,SeqAt.EqAt A s u v (wB x u)
 |_,_,.nil,_=>λu hu=>by cases hu
 |y :: xs,u :: us,.cons r t,f=>λu' hu=>by
  rw[List.all_cons,ZaJ]at f;rcases Zar.mp hu with rfl|hu
  rw[Qp r f.1];exact zL r rx f.1 fx;exact Mx rx fx t f.2 u' hu
abbrev xZ(x:V)(xs:List V):Bool:=xs.any λy=>xY y x
abbrev Mz(K:Zfr)(neg:Bool):R2:=λx y H Q=>∃p xs,y=.ref p/\(kR K H p xs\/gS K H p xs)/\mI x=true/\xs.all mI=true/\Q (.bl (if neg then !xZ x xs else xZ x xs)) H
def MA:mP X (compareOp .NotIn) (Mz X.K true):=by
 intro pins s G H x y v u Q I rx ry h;obtain⟨p,xs,rfl,hq,fx,fs,q⟩:=h;cases ry;rcases hq with hq|hq
 obtain⟨its,r,pl,hz⟩:=I.list hq;refine SeqAt.notIn_listAt (wB x) pl.isList (λw hw=>Mx rx fx r fs w (by simpa using hw)) ⟨.bl _,H,I,rfl,?_⟩;rw[show its.toArray.any (wB x)=its.any (wB x) by simp,Mw r fs];exact q;obtain⟨its,r,pl,hz⟩:=I.tuple hq;refine SeqAt.notIn_tupleAt (wB x) pl (λw hw=>Mx rx fx r fs w (by simpa using hw)) ⟨.bl _,H,I,rfl,?_⟩;rw[show its.toArray.any (wB x)=its.any (wB x) by simp,Mw r fs];exact q
def mS:ly X (.builtin "len") (λxs H Q=>∃p ys,xs=[.ref p]/\(kR X.K H p ys\/gS X.K H p ys)/\Q (.int ys.length) H):=by
 intro pins s G H xs us Q I r h;obtain⟨p,ys,rfl,hq,q⟩:=h;obtain⟨u,rfl,rx⟩:=vals1 r;cases rx;have hn:=mQ;rcases hq with hq|hq
 obtain⟨its,r',pl,hz⟩:=I.list hq;have hlen:=r'.length;exact Calls.call_len_list pl.isList (by simp only[Zap]<;>lk) ⟨.int ys.length,H,I.tok _,⟨s.toks+1,by rw[Zap,hlen]⟩,q⟩;obtain⟨its,r',pl,hz⟩:=I.tuple hq;have hlen:=r'.length;exact len_tuple pl (by simp only[Zap]<;>lk) ⟨.int ys.length,H,I.tok _,⟨s.toks+1,by rw[Zap,hlen]⟩,q⟩
def JF:ly X (.type "list") (λxs H Q=>∃p ys,xs=[.ref p]/\(kR X.K H p ys\/gS X.K H p ys)/\∀l,H l=none->Q (.ref l) (upd H l (.lst ys))):=by
 intro pins s G H xs us Q I r h;obtain⟨p,ys,rfl,hq,q⟩:=h;obtain⟨u,rfl,rx⟩:=vals1 r;cases rx;have fin:∀ (its:List Value),Vals ys its->ys.length<=sizeLine->∀ (h':Heap) (c':Nat),(∀ b o',s.heap.get? b=some o'->h'.get? b=some o') ->
   h'.get? s.heap.objs.size=some { cls:=.type "list",dict:=none,data:=.seq its.toArray c',slots:=#[] }->EP X pins G Q (.ref s.heap.objs.size) { s with heap:=h' }:=λits r' hz h' c' kp e =>
  ⟨.ref s.heap.objs.size,_,I.laid (t':=s.toks) kp (Zab _) (show dy X.prog X.w _ h' _ (.lst ys)from⟨hz,its,c',r',e⟩),rfl,q _ (I.hok.fresh (Zab _))⟩
 rcases hq with hq|hq
 obtain⟨its,r',pl,hz⟩:=I.list hq;have hlen:=r'.length;obtain⟨o,ho,hc,n,hd⟩:=pl.isList;exact call_list_seq p (.inl rfl) ho hc hd (λh' c' kp e=>fin its r' hz h' c' kp e) (by simp only[Zap]<;>lk);obtain⟨its,r',pl,hz⟩:=I.tuple hq;have hlen:=r'.length;obtain⟨o,ho,hc,n,hd⟩:=pl;exact call_list_seq p (.inr rfl) ho hc hd (λh' c' kp e=>fin its r' hz h' c' kp e) (by simp only[Zap]<;>lk)
def p9:ly X (.type "tuple") (λxs H Q=>∃p ys,xs=[.ref p]/\((kR X.K H p ys/\∀l,H l=none->Q (.ref l) (upd H l (.tup ys)))\/(gS X.K H p ys/\Q (.ref p) H))):=by
 intro pins s G H xs us Q I r h;obtain⟨p,ys,rfl,h⟩:=h;obtain⟨u,rfl,rx⟩:=vals1 r;cases rx;rcases h with⟨hq,q⟩|⟨hq,q⟩
 obtain⟨its,r',pl,hz⟩:=I.list hq;have hlen:=r'.length;refine call_tuple_list pl.isList (λh' kp=>?_) (by simp only[Zap]<;>lk);have I1:Inv X pins G H { s with heap:=h' }:=I.kept (t':=s.toks) kp;have I2:Inv X pins G (upd H h'.objs.size (.tup ys)) { s with heap:=h'.push { cls:=.type "tuple",data:=.seq its.toArray } } :=
  I1.laid (t':=s.toks) (λb o e=>Zac _ e) (Zab _) (show dy X.prog X.w _ _ _ (.tup ys)from⟨hz,its,r',qj.new _ _⟩)
 exact⟨.ref h'.objs.size,_,I2,rfl,q _ (I1.hok.fresh (Zab _))⟩;obtain⟨its,r',pl,hz⟩:=I.tuple hq;exact call_tuple_same pl ⟨.ref p,H,I,rfl,q⟩
abbrev MB(K:Zfr)(T:String)(x:V)(H:Hp):Prop:=match x with
 |.str _=>T="str"
 |.int _=>T="int"
 | .ref p=>(T="list" /\ ∃ xs,kR K H p xs)\/(T="tuple" /\ ∃ xs,gS K H p xs) \/
   (T="dict" /\ ((∃kvs,H p=some (.dK kvs))\/∃kvs,H p=some (.dT kvs)))\/(T="set" /\ ∃S n,H p=some (.set S n))
 |_=>False
def zM{pins:List (Addr×Obj)}{G:St}{H:Hp}{s:Shared}{T:String}{x:V}{v:Value}(I:Inv X pins G H s)(r:RelV x v)(ty:MB X.K T x H):
  s.TypeIs v T/\∀a,v=.ref a->∃ob,s.heap.get? a=some ob/\ob.dict=none:=by
 cases x with
 |str z =>
  obtain⟨t,rfl⟩:=r;cases(show T="str" from ty);exact⟨typeIs_str s z t,λ_ e=>nomatch e⟩
 |int i =>
  obtain⟨t,rfl⟩:=r;cases(show T="int" from ty);exact⟨typeIs_int s i t,λ_ e=>nomatch e⟩
 |ref p =>
  cases r;rcases ty with⟨rfl,xs,hq⟩|⟨rfl,xs,hq⟩|⟨rfl,hk⟩|⟨rfl,S,n,hk⟩
  obtain⟨its,_,pl,_⟩:=I.list hq;refine⟨pl.isList.typeIs,λa e=>?_⟩;cases e;obtain⟨o,n,e,c,hd,_⟩:=pl;exact⟨o,e,hd⟩;obtain⟨its,_,⟨o,e,c,d,_⟩,_⟩:=I.sa hq;refine⟨⟨o,e,c⟩,λa e2=>?_⟩;cases e2;exact⟨o,e,d⟩;have z:∃ o,s.heap.get? p=some o/\o.ExactDict:=by
   rcases hk with⟨kvs,hk⟩|⟨kvs,hk⟩
   obtain⟨_,_,_,_,o,_,_,e,ex,_⟩:=I.hok p _ hk;exact⟨o,e,ex⟩;obtain⟨_,_,_,_,o,_,_,e,ex,_⟩:=I.hok p _ hk;exact⟨o,e,ex⟩
  obtain⟨o,e,ex⟩:=z;refine⟨⟨o,e,ex.1⟩,λa e2=>?_⟩;cases e2;exact⟨o,e,ex.2.1⟩;obtain⟨o,_,_,_,e,ex,_⟩:=I.hok p _ hk;refine⟨⟨o,e,ex.1⟩,λa e2=>?_⟩;cases e2;exact⟨o,e,ex.2.1⟩
 |_=>exact False.elim ty
abbrev Qq(K:Zfr)(T:String)(r:V->List V->Hp->VK->Prop)(to:TE)(t:TA):TE:=λG H Q=>to G H λx H1=>MB K T x H1/\t G H1 λxs H2=>r x xs H2 Q
variable {o e:Expr}{es:List Expr}{to:TE}{t:TA}{name:Str}{apos cpos:Pos}{T id:String}{r:V->List V->Hp->VK->Prop}
def tQ(pa:PlainAttrs T)(slot:Slot T name id)(hty:typeOf (.builtin id)=pure (.type "method_descriptor"))(hm:Mv X id r)(ho:PE X o to)(ha:PA X (e :: es) t)
  (hbase:attributeBase o name X.env (eval o X.env)=eval o X.env:=by rfl)
  (hfew:((backTo cpos (starEach (e :: es) X.env)).all (λx=>!x.1) && (backToKw cpos (keywordEach [] X.env)).all (λx=>x.1.isSome)
   && decide ((e :: es).length+([]:List Keyword).length+(if([]:List Keyword).isEmpty then 0 else 1)<30))=true:=by rfl)
  (hline:(apos.endLine == cpos.line)=true:=by rfl) (hs:starEach (e :: es) X.env=(false,eval e X.env) :: starEach es X.env:=by rfl) (hplain:(backTo cpos (starEach es X.env)).any (·.1)=false:=by rfl) :
  PE X (.Call (.Attribute o name apos) (e :: es) [] cpos) (Qq X.K T r to t):=by
 intro pins s G H Q I h;refine wpAny_Call_method_late hbase hfew hline rfl (cI (ho pins s G H _ I h) λv s1 ⟨x,H1,I1,r1,ty,q1⟩=>?_);obtain⟨h1,h2⟩:=zM I1 r1 ty;refine⟨T,id,pa,slot,hty,h1,h2,?_⟩;have hA:=ha cpos pins s1 G H1 _ I1 q1;rw[hs]at hA ⊢;refine Calls.callWith_builtin (by show(false || (backTo cpos (starEach es X.env)).any (·.1))=false;rw[hplain]<;>rfl) (Calls.evalArgs_plain ?_);exact cI hA λus s2 ⟨vs,H2,I2,r2,q2⟩=>hm pins s2 G H2 x vs v us Q I2 r1 r2 q2
end
abbrev Qr(X:Cx)(id:String)(r:V->List V->Hp->VK->Prop):Prop :=
 ∀(pins:List (Addr×Obj)) (s:Shared) (G:St) (H:Hp) (x:V) (xs:List V) (v:Value) (us:List Value) (Q:VK),Inv X pins G H s->RelV x v->Vals xs us->r x xs H Q ->
  wpAny (model X.prog X.w) X.A (call (.builtin id) (v :: us)) (EP X pins G Q) X.xe s
def Vals.one:∀{x:V} {us:List Value},Vals [x] us->∃u,us=[u]/\RelV x u
 |_,_,.cons r .nil=>⟨_,rfl,r⟩
def Vals.eraseIdx:∀{xs:List V} {us:List Value} (i:Nat),Vals xs us->Vals (xs.eraseIdx i) (us.eraseIdx i)
 |_,_,_,.nil=>.nil
 |_,_,0,.cons _ t=>t
 |_,_,i+1,.cons r t=>.cons r (Vals.eraseIdx i t)
def Vals.rep{xs:List V}{us:List Value}(h:Vals xs us):∀k:Nat,Vals (List.replicate k xs).flatten (List.replicate k us).flatten
 |0=>.nil
 |k+1=>by
  rw[ZaK,ZaK,ZaQ,ZaQ];exact Vals.append h (Vals.rep h k)
def Qs{J:Type}:∀(l:List J) (i:Nat),(l.eraseIdx i).length<=l.length
 |[],_=>Zab _
 |_ :: _,0=>Nat.le_succ _
 |_ :: r,i+1=>Nat.succ_le_succ (Qs r i)
def Qu(its:List Value):∀(k:Nat) (acc:List Value),
  List.foldl (λx1 x2=>x1 ++ x2) acc.toArray (List.replicate k its.toArray)=(acc ++ (List.replicate k its).flatten).toArray
 |0,acc=>by simp
 |k+1,acc=>by
  have e:acc.toArray ++ its.toArray=(acc ++ its).toArray:=by simp
  have e2:(acc ++ its) ++ (List.replicate k its).flatten=acc ++ (List.replicate (k+1) its).flatten:=by
   rw[ZaK,ZaQ,Zbt]
  rw[<- e2,<- Qu its k (acc ++ its),<- e,ZaK,List.foldl_cons]
section
variable {X:Cx}{pins:List (Addr×Obj)}{G:St}{H:Hp}{s:Shared}{l b:Addr}{xs ys zs:List V}
def Inv.Eg{its its':List Value}{n:Nat}{f:Array Value->Array Value}{t':Nat}(I:Inv X pins G H s)(hH:H l=some (.lst xs))
  (e:s.heap.get? l=some { cls:=.type "list",data:=.seq its.toArray n }) (hf:f its.toArray=its'.toArray) (hv:Vals ys its') (hz:ys.length<=sizeLine) :
  Inv X pins G (upd H l (.lst ys)) { s with heap:=s.heap.update l (Obj.mapSeq f),toks:=t' }:=by
 have q:=PySem.IsL.update e f;rw[hf]at q;refine I.write (x:=l) (e:=l) (by rw[hH];exact trivial) (.inl rfl) (λb' u hb hu=>(Heap.get?_update_other s.heap (Obj.mapSeq f) (Ne.symm hb)).trans hu) ⟨_,q⟩ ?_;exact⟨hz,its',_,hv,q⟩
def Inv.Eh{its:List Value}{t':Nat}(I:Inv X pins G H s)(hv:Vals ys its)(hz:ys.length<=sizeLine):
  Inv X pins G (upd H s.heap.objs.size (.lst ys)) { s with heap:=s.heap.push { cls:=.type "list",data:=.seq its.toArray },toks:=t' } :=
 I.laid (λ_ _ q=>Zac _ q) (Zab _) ⟨hz,its,0,hv,Zan _ rfl⟩
def Inv.fresh(I:Inv X pins G H s):H s.heap.objs.size=none:=I.hok.fresh (Zab _)
def Inv.uN(I:Inv X pins G H s)(hH:H l=some (.lst xs)):xs.length<=sizeLine/\∃(its:List Value) (n:Nat),Vals xs its/\xs.length=its.length/\s.heap.get? l=some { cls:=.type "list",data:=.seq its.toArray n }:=by obtain⟨z,its,n,r,e⟩:=I.hok l _ hH;exact⟨z,its,n,r,r.length,e⟩
def uO{n:Nat}(h:n<=sizeLine):Builtin.List.listTooLong n=false:=by unfold Builtin.List.listTooLong;exact decide_eq_false ⋯
end
section
variable {X:Cx}
abbrev sQ:V->List V->Hp->VK->Prop:=λx vs H Q=>∃l xs y,x=.ref l/\vs=[y]/\H l=some (.lst xs)/\xs.length<sizeLine/\Q .non (upd H l (.lst (xs ++ [y])))
def zN:Qr X "list.append" sQ:=by intro pins s G H x vs v us Q I rx rv h;obtain⟨l,xs,y,rfl,rfl,hH,hz,q⟩:=h;cases rx;obtain⟨u,rfl,ru⟩:=rv.one;obtain⟨z,its,n,r,hl,e⟩:=I.uN hH;refine call_meets F.slot_list_append ⟨_,e,rfl⟩ F.entry_list_append (F.args_list_append_2 _ _) (PySem.list_append l its.toArray n u (by rw[Zap];lk)) ⟨e,?_⟩;refine⟨.non,_,I.Eg (its':=its ++ [u]) hH e (by simp) (r.append (.cons ru .nil)) ?_,rfl,q⟩;rw[Zak,ZaC];lk
abbrev uP:V->List V->Hp->VK->Prop:=λx vs H Q=>∃l xs i k y,x=.ref l/\vs=[.int i]/\H l=some (.lst xs)/\-(2 ^ 63)<=i/\i<2 ^ 63/\seqIndex? i xs.length=some k/\xs[k]?=some y/\Q y (upd H l (.lst (xs.eraseIdx k)))
def V3:Qr X "list.pop" uP:=by
 intro pins s G H x vs v us Q I rx rv h;obtain⟨l,xs,i,k,y,rfl,rfl,hH,h1,h2,hk,hy,q⟩:=h;cases rx;obtain⟨u,rfl,ru⟩:=rv.one;obtain⟨t,rfl⟩:=ru;obtain⟨z,its,n,r,hl,e⟩:=I.uN hH;obtain⟨w,hw,rw'⟩:=r.get hy;refine call_meets F.slot_list_pop ⟨_,e,rfl⟩ F.entry_list_pop (F.args_list_pop_2 _ _)
  (MeetsSeq.list_pop_at l its.toArray n i t k w (fitsIndex_both h1 h2) (by rw[Zap,<- hl];exact hk) (by rw[<- Zcq];exact hw) (by rw[Zap];lk)) ⟨e,?_⟩
 refine⟨y,_,I.Eg (its':=its.eraseIdx k) hH e ?_ (r.eraseIdx k) ?_,rw',q⟩;show its.toArray.eraseIdxIfInBounds k=(its.eraseIdx k).toArray;rw[List.eraseIdxIfInBounds_toArray]
 have:=Qs xs k
 lk
abbrev Ei:R2:=λx y H Q=>∃l b xs zs,x=.ref l/\y=.ref b/\H l=some (.lst xs)/\H b=some (.lst zs)/\xs.length+zs.length<=sizeLine/\∀p,H p=none->Q (.ref p) (upd H p (.lst (xs ++ zs)))
def vP:mP X (binaryOp .Add) Ei:=by
 intro pins s G H x y v u Q I rx ry h;obtain⟨l,b,xs,zs,rfl,rfl,hH,hB,hz,q⟩:=h;cases rx;cases ry;obtain⟨z,its,n,r,hl,e⟩:=I.uN hH;obtain⟨z2,its2,n2,r2,hl2,e2⟩:=I.uN hB;refine PySem.P.add_list e e2 ?_ (by rw[Zap,Zap];lk);have ea:its.toArray ++ its2.toArray=(its ++ its2).toArray:=by simp
 rw[ea];exact⟨.ref _,_,I.Eh (t':=s.toks) (r.append r2) (by rw[Zak];lk),rfl,q _ I.fresh⟩
abbrev Ej:R2:=λx y H Q=>∃l k xs,x=.ref l/\y=.int k/\H l=some (.lst xs)/\-(2 ^ 63)<=k/\k<2 ^ 63/\xs.length*k.toNat<=sizeLine /\
 ∀p,H p=none->Q (.ref p) (upd H p (.lst (List.replicate k.toNat xs).flatten))
def xdg{J:Type}(xs:List J)(k:Nat):(List.replicate k xs).flatten.length=k*xs.length:=by
 induction k with
 |zero=>simp
 |succ k ih=>rw[ZaK,ZaQ,Zak,ih,ZbV,Nat.add_comm]
def wC:mP X (binaryOp .Mult) Ej:=by
 intro pins s G H x y v u Q I rx ry h;obtain⟨l,k,xs,rfl,rfl,hH,h1,h2,hz,q⟩:=h;cases rx;obtain⟨t,rfl⟩:=ry;obtain⟨z,its,n,r,hl,e⟩:=I.uN hH;have hlen:its.toArray.size*k.toNat<=sizeLine:=by rw[Zap,<- hl];exact hz
 have hcap:¬its.toArray.size*k.toNat > (2 ^ 63-1) / 8:=by
  have:(sizeLine:Nat)<=(2 ^ 63-1) / 8:=by decide
  lk
 have hfit:¬(!Builtin.List.listFitsIndex k)=true:=by
  rw[fitsIndex_both h1 h2];exact Zal
 have Ek:¬Builtin.List.listTooLong (its.toArray.size*k.toNat)=true:=by
  rw[uO hlen];exact Zal
 have hnew:List.foldl (λx1 x2=>x1 ++ x2) #[] (List.replicate (if its.toArray.isEmpty=true then 0 else k.toNat) its.toArray)=(List.replicate k.toNat its).flatten.toArray:=by
  have f0:∀m:Nat,List.foldl (λx1 x2=>x1 ++ x2) #[] (List.replicate m its.toArray)=(List.replicate m its).flatten.toArray:=λm=>by
   have:=Qu its m [];rw[Zcw]at this;exact this
  rw[f0];cases its with
  |nil=>simp
  |cons a r'=>rw[if_neg (by simp)]
 refine wpAny_binaryOp_repeat_ref (T:="list") (U:="int") ∅ ⟨_,e,rfl⟩ (λs'=>typeIs_int s' k t) noFill_list_mul F.fills_int_mul F.slot_int_rmul repeat_list F.slot_int_index.lookup
  (call_meets F.slot_int_rmul (typeIs_int s k t) F.entry_int_rmul (F.args_int_rmul_2 _ _) (int___rmul___int_list k t l its.toArray n)
   ⟨e,rfl,⟨_,e,rfl⟩,call_meets F.slot_list_mul ⟨_,e,rfl⟩ F.entry_list_mul (F.args_list_mul_2 _ _) (AutoListH.list___mul___list_int_3 l its.toArray n k t hfit hcap Ek) ⟨e,?_⟩⟩)
 rw[hnew];exact⟨.ref _,_,I.Eh (t':=s.toks) (r.rep k.toNat) (by rw[xdg,Zcx];exact hz),rfl,q _ I.fresh⟩
end
section
variable {F:Type}[DecidableEq F]
abbrev mT(kvs:List (F×V))(k:F):Option V:=(kvs.find? λkv=>decide (kv.1=k)).map (·.2)
abbrev putK(kvs:List (F×V))(k:F)(v:V):List (F×V) :=
 if(kvs.any λkv=>decide (kv.1=k))=true then kvs.map (λkv=>if kv.1=k then(kv.1,v)else kv)else kvs ++ [(k,v)]
def MC{p:F×V}{r:List (F×V)}{k:F}(e:p.1=k):mT (p :: r) k=some p.2:=by simp[mT,Zbh,e]
def MD{p:F×V}{r:List (F×V)}{k:F}(e:¬p.1=k):mT (p :: r) k=mT r k:=by simp[mT,Zbh,e]
def Qv(k:F):∀kvs:List (F×V),(kvs.any λkv=>decide (kv.1=k))=(mT kvs k).isSome
 |[]=>rfl
 |p :: r=>by
  rw[Zbf];by_cases e:p.1=k;simp only[MC e,decide_eq_true e,Bool.true_or,Option.isSome_some];rw[MD e,decide_eq_false e,Bool.false_or];exact Qv k r
def ME(kvs:List (F×V))(k:F)(v:V):(putK kvs k v).length<=kvs.length+1:=by unfold putK;split;rw[Zaa];lk;rw[Zak,Zaz,ZbQ];lk
def pV.n4{o:Option V}{u:Option Value}(r:pV o u):o.isSome=u.isSome:=by
 cases o with
 |none=>cases u with
  |none=>rfl
  |some _=>exact(show False from r).elim
 |some _=>cases u with
  |none=>exact(show False from r).elim
  |some _=>rfl
def KV.val{kvs:List (F×V)}{vs:List (F×Value)}(r:KV kvs vs)(k:F):pV (mT kvs k) (valueAt vs k):=by
 unfold KV at r
 induction r with
 |nil=>exact True.intro
 |@cons p q ps qs h t ih =>
  obtain⟨h1,h2⟩:=h;by_cases e:p.1=k;have e':q.1=k:=h1.symm.trans e;have b:valueAt (q :: qs) k=some q.2:=by simp[valueAt,Zbh,e']
  rw[MC e,b];exact h2;have e':¬q.1=k:=λz=>e (h1.trans z);have b:valueAt (q :: qs) k=valueAt qs k:=by simp[valueAt,Zbh,e']
  rw[MD e,b];exact ih
def KV.any{kvs:List (F×V)}{vs:List (F×Value)}(r:KV kvs vs)(k:F):(kvs.any λkv=>decide (kv.1=k))=vs.any λkv=>decide (kv.1=k):=by
 unfold KV at r
 induction r with
 |nil=>rfl
 |cons h t ih=>rw[Zbf,Zbf,ih,h.1]
def KV.repl{kvs:List (F×V)}{vs:List (F×Value)}(r:KV kvs vs)(k:F){y:V}{u:Value}(ry:RelV y u):
  KV (kvs.map λkv=>if kv.1=k then(kv.1,y)else kv) (vs.map λkv=>if kv.1=k then(kv.1,u)else kv):=by
 unfold KV at r ⊢
 induction r with
 |nil=>exact .nil
 |@cons p q ps qs h t ih =>
  rw[Zav,Zav];refine .cons ?_ ih;obtain⟨h1,h2⟩:=h;by_cases e:p.1=k;rw[if_pos e,if_pos (h1.symm.trans e)];exact⟨h1,ry⟩;rw[if_neg e,if_neg (λz=>e (h1.trans z))];exact⟨h1,h2⟩
def KV.put{kvs:List (F×V)}{vs:List (F×Value)}(r:KV kvs vs)(k:F){y:V}{u:Value}(ry:RelV y u):KV (putK kvs k y) (stored vs k u):=by unfold putK stored;rw[r.any k];by_cases e:(vs.any λkv=>decide (kv.1=k))=true;rw[if_pos e,if_pos e];exact r.repl k ry;rw[if_neg e,if_neg e];exact Paired.snoc r ⟨rfl,ry⟩
def KV.length{kvs:List (F×V)}{vs:List (F×Value)}(r:KV kvs vs):kvs.length=vs.length:=Paired.length r
end
def El{P:Program}{w:World}{k:Key}{u:Value}(r:RelV (kV k) u):(cO P w).is k u=true:=by
 cases k with
 |inl i=>obtain⟨t,e⟩:=(show∃t,u=Value.int i t from r);subst e;exact Vx P w i t
 |inr x=>obtain⟨t,e⟩:=(show∃t,u=Value.str x t from r);subst e;exact Vy P w x t
def Qw{P:Program}{w:World}:∀{ks:List Key} {us:List Value},Vals (ks.map kV) us->ItemsAre (cO P w) ks us
 |[],_,r=>by rw[Za3]at r;cases r;exact .nil
 |k :: ks,_,r=>by
  rw[Zav]at r;cases r with
  |cons h t=>exact .cons (El h) (Qw t)
@[reducible]def KT(H:Hp):List (List Key×V)->List (List Key×Addr×Value)->Prop:=Paired λp q=>p.1=q.1/\H q.2.1=some (.tup (p.1.map kV))/\RelV p.2 q.2.2
def KT.val{H:Hp}{kvs:List (List Key×V)}{xs:List (List Key×Addr×Value)}(r:KT H kvs xs)(k:List Key):pV (mT kvs k) ((atKey xs k).map (·.2)):=by
 induction r with
 |nil=>exact True.intro
 |@cons p q ps qs h t ih =>
  obtain⟨h1,_,h2⟩:=h;by_cases e:p.1=k;have e':q.1=k:=h1.symm.trans e;have b:atKey (q :: qs) k=some q.2:=by simp[atKey,Zbh,e']
  rw[MC e,b];exact h2;have e':¬q.1=k:=λz=>e (h1.trans z);have b:atKey (q :: qs) k=atKey qs k:=by simp[atKey,Zbh,e']
  rw[MD e,b];exact ih
def KT.repl{H:Hp}{kvs:List (List Key×V)}{xs:List (List Key×Addr×Value)}(r:KT H kvs xs)(k:List Key){y:V}{u:Value}(ry:RelV y u):
  KT H (kvs.map λkv=>if kv.1=k then(kv.1,y)else kv) (xs.map (putAt k u)):=by
 induction r with
 |nil=>exact .nil
 |@cons p q ps qs h t ih =>
  rw[Zav,Zav];refine .cons ?_ ih;obtain⟨h1,h2,h3⟩:=h;unfold putAt;by_cases e:p.1=k;rw[if_pos e,if_pos (h1.symm.trans e)];exact⟨h1,h2,ry⟩;rw[if_neg e,if_neg (λz=>e (h1.trans z))];exact⟨h1,h2,h3⟩
def KT.put{H:Hp}{kvs:List (List Key×V)}{xs:List (List Key×Addr×Value)}(r:KT H kvs xs)(k:List Key){b:Addr}{y:V}{u:Value}(hb:H b=some (.tup (k.map kV)))(ry:RelV y u):
  KT H (putK kvs k y) (storedH xs k b u):=by
 have e:(kvs.any λkv=>decide (kv.1=k))=(atKey xs k).isSome:=by
  rw[Qv,(r.val k).n4,Option.isSome_map]
 unfold putK storedH;rw[e];by_cases q:(atKey xs k).isSome=true;rw[if_pos q,if_pos q];exact r.repl k ry;rw[if_neg q,if_neg q];exact Paired.snoc r ⟨rfl,hb,ry⟩
def KT.keeps{H H':Hp}{kvs:List (List Key×V)}{xs:List (List Key×Addr×Value)}(r:KT H kvs xs)(ht:∀b ys,H b=some (.tup ys)->H' b=some (.tup ys)):KT H' kvs xs :=
 Paired.zo r λ_ _ z=>⟨z.1,ht _ _ z.2.1,z.2.2⟩
section
variable {P:Program}{w:World}{H:Hp}{h:Heap}{a:Addr}
def x5{u:HO}(ok:nz P w H h)(e:Rd H a u):dy P w H h a u:=e.ok ok
def JG{kvs:List (Key×V)}(ok:nz P w H h)(e:Rd H a (.dK kvs)):kvs.length<=sizeLine/\(a == sysModules)=false/\∃vs,KV kvs vs/\h.DictOf (cO P w) a vs :=
 show dy P w H h a (.dK kvs)from x5 ok e
def x6{kvs:List (Key×V)}(ok:nz P w H h)(e:H a=some (.dK kvs)):kvs.length<=sizeLine/\(a == sysModules)=false/\∃vs,KV kvs vs/\h.DictOf (cO P w) a vs:=JG ok (.inl e)
def wD{ks:List Key}(ok:nz P w H h)(e:H a=some (.tup (ks.map kV))):(tupleKind (cO P w)).is h ks a:=by obtain⟨_,its,r,o,h1,h2,_,n,h3⟩:=(show dy P w H h a (.tup (ks.map kV))from ok a _ e);exact⟨o,its.toArray,n,h1,h2,h3,by simpa using Qw r⟩
def JH{kvs:List (List Key×V)}(ok:nz P w H h)(e:Rd H a (.dT kvs)):kvs.length<=sizeLine/\(a == sysModules)=false /\
  ∃xs,KT H kvs xs/\h.DictOfH (tupleKind (cO P w)) a xs:=by
 obtain⟨z,y,xs,r,o,es,ep,h1,h2,h3,h4,h5⟩:=(show dy P w H h a (.dT kvs)from x5 ok e);refine⟨z,y,xs,r,o,es,ep,h1,h2,h3,h4,λx hx=>?_,h5⟩;have all:∀{l:List (List Key×V)} {m:List (List Key×Addr×Value)},KT H l m->∀x∈m,(tupleKind (cO P w)).is h x.1 x.2.1:=by
  intro l m q
  induction q with
  |nil=>intro x hx;exact nomatch hx
  |@cons p q ps qs hq t ih =>
   intro x hx;rcases Zar.mp hx with e|hx
   subst e;exact wD ok (by rw[<- hq.1];exact hq.2.1);exact ih x hx
 exact all r x hx
def Em{kvs:List (List Key×V)}(ok:nz P w H h)(e:H a=some (.dT kvs)):kvs.length<=sizeLine/\(a == sysModules)=false /\
  ∃xs,KT H kvs xs/\h.DictOfH (tupleKind (cO P w)) a xs:=JH ok (.inl e)
end
abbrev qq(H:Hp)(a:Addr)(y:V)(r:Option V):Prop :=
 (∃kvs k,Rd H a (.dK kvs)/\y=kV k/\r=mT kvs k)\/∃kvs k b,Rd H a (.dT kvs)/\y=.ref b/\H b=some (.tup (k.map kV))/\r=mT kvs k
abbrev uQ(H:Hp)(a:Addr)(y v:V)(H':Hp):Prop :=
 (∃kvs k,H a=some (.dK kvs)/\y=kV k/\kvs.length<sizeLine/\H'=upd H a (.dK (putK kvs k v))) \/
 ∃kvs k b,H a=some (.dT kvs)/\y=.ref b/\H b=some (.tup (k.map kV))/\kvs.length<sizeLine/\H'=upd H a (.dT (putK kvs k v))
def qq.k{H:Hp}{a:Addr}{kvs:List (Key×V)}{k:Key}(e:H a=some (.dK kvs)):qq H a (kV k) (mT kvs k):=.inl ⟨kvs,k,.inl e,rfl,rfl⟩
def uQ.k{H:Hp}{a:Addr}{kvs:List (Key×V)}{k:Key}{v:V}(e:H a=some (.dK kvs))(hl:kvs.length<sizeLine):uQ H a (kV k) v (upd H a (.dK (putK kvs k v))):=.inl ⟨kvs,k,e,rfl,hl,rfl⟩
section
variable {X:Cx}{pins:List (Addr×Obj)}{G:St}{H:Hp}{s:Shared}{a:Addr}{y v:V}{u r:Value}{o:Option V}{A:Around}{E:Value->Shared->Prop}
def Inv.big(I:Inv X pins G H s):sysModules<s.heap.objs.size:=by have h:mainGlobals<s.heap.objs.size:=(I.mod.glob.keeps I.bk).lt;exact ZbW ∅ h
def V4{Q:Value->Shared->Prop}(hu:A.units+1<cLine)(I:Inv X pins G H s)(g:qq H a y (some v))(ry:RelV y u)(h:∀w' s',Inv X pins G H s'->RelV v w'->Q w' s'):
  wpAny (model X.prog X.w) A (getItem (.ref a) u) Q E s:=by
 rcases g with⟨kvs,k,e,ey,l⟩|⟨kvs,k,b,e,ey,eb,l⟩
 subst ey;obtain⟨z,hd,vs,rel,dd⟩:=JG I.hok e;obtain⟨w',hw,rw'⟩:=pV.some_of (v:=v) (o:=valueAt vs k) (by rw[l];exact rel.val k);exact wpAny_getItem_of (El ry) dd.mapOf hw (h w' _ (I.tok _) rw');subst ey;cases(show u=Value.ref b from ry);obtain⟨z,hd,xs,rel,dd⟩:=JH I.hok e;obtain⟨w',hw,rw'⟩:=pV.some_of (v:=v) (o:=(atKey xs k).map (·.2)) (by rw[l];exact rel.val k);obtain⟨p,hp,hp2⟩:=Zax.mp hw;refine wpAny_getItem_heap (tupleKind_room_in1 hu) (wD I.hok eb) dd hp ?_;rw[hp2];exact h w' _ (I.tok _) rw'
def V5{Q:Value->Shared->Prop}(hu:A.units+1<cLine)(I:Inv X pins G H s)(g:qq H a y o)(ry:RelV y u)(h:∀s',Inv X pins G H s'->Q (.bool (!o.isSome)) s'):
  wpAny (model X.prog X.w) A (compareOp .NotIn u (.ref a)) Q E s:=by
 rcases g with⟨kvs,k,e,ey,l⟩|⟨kvs,k,b,e,ey,eb,l⟩
 subst ey;obtain⟨z,hd,vs,rel,dd⟩:=JG I.hok e;refine wpAny_notIn_of (El ry) hd dd.mapOf ?_;rw[<- (rel.val k).n4,<- l];exact h _ (I.tok _);subst ey;cases(show u=Value.ref b from ry);obtain⟨z,hd,xs,rel,dd⟩:=JH I.hok e;refine wpAny_notIn_heap (tupleKind_room_in1 hu) (wD I.hok eb) hd dd ?_;have q:=(rel.val k).n4;rw[Option.isSome_map]at q;rw[<- q,<- l];exact h _ (I.tok _)
def MF{h':Heap}{t':Nat}{ob:HO}(I:Inv X pins G H s)(mu:Dy (H a))(hs:Heap.SameBut a s.heap h')(he:∃q,h'.get? a=some q)(new:dy X.prog X.w (upd H a ob) h' a ob):
  Inv X pins G (upd H a ob) { s with heap:=h',toks:=t' } :=
 I.write (x:=a) (e:=a) mu (.inl rfl) (λb q hb z=>(hs.2 b hb).trans z) he new
def Qx{P:Program}{w:World}{H':Hp}{h':Heap}{kvs:List (Key×V)}{vs:List (Key×Value)}(z:kvs.length<=sizeLine)(hd:(a == sysModules)=false)(rel:KV kvs vs)(dd:h'.DictOf (cO P w) a vs):
  dy P w H' h' a (.dK kvs):=⟨z,hd,vs,rel,dd⟩
def V6{H':Hp}{Q:Unit->Shared->Prop}(hu:A.units+1<cLine)(I:Inv X pins G H s)(g:uQ H a y v H')(ry:RelV y u)(rv:RelV v r)(h:∀s',Inv X pins G H' s'->Q () s'):
  wpAny (model X.prog X.w) A (setItem (.ref a) u r) Q E s:=by
 rcases g with⟨kvs,k,e,ey,l,eH⟩|⟨kvs,k,b,e,ey,eb,l,eH⟩
 subst ey eH;obtain⟨z,hd,vs,rel,dd⟩:=x6 I.hok e;have hz:vs.length<=sizeLine:=by rw[<- rel.length];exact z
 have hl:(putK kvs k v).length<=sizeLine:=by have:=ME kvs k v;lk
 refine wpAny_setItem_pairs (hsz:=hz) (El ry) dd λh' zO hs=>h _ ?_;have he:∃q,h'.get? a=some q:=let ⟨q,_,_,hq,_⟩:=zO;⟨q,hq⟩
 exact MF I (by rw[e];exact True.intro) hs he (Qx hl hd (rel.put k rv) zO);subst ey eH;cases(show u=Value.ref b from ry);obtain⟨z,hd,xs,rel,dd⟩:=Em I.hok e;have hz:xs.length<=sizeLine:=by rw[<- Paired.length rel];exact z
 have hl:(putK kvs k v).length<=sizeLine:=by have:=ME kvs k v;lk
 refine wpAny_setItem_heap (hsz:=hz) (tupleKind_room_in1 hu) (wD I.hok eb) dd λh' zO hs=>h _ ?_;obtain⟨q,es,ep,hq,h2,h3,h4,_,h5⟩:=zO;refine MF I (by rw[e];exact True.intro) hs ⟨q,hq⟩ ⟨hl,hd,_,(rel.put k eb rv).keeps λc ys ec=>?_,q,es,ep,hq,h2,h3,h4,h5⟩;rw[lR (L5 ec e (λz=>nomatch z))];exact ec
end
abbrev zP(i:Expr):Prop:=∀ov iv,subscripted i false ov iv=operate [ov,iv] (getItem ov iv)
def Qy{prog:Program}{w:World}{A:Around}{E:Value->Shared->Prop}{s:Shared}{env:Env}{value slice:Expr}{pos:Pos}{T id:String}{Q:Value->Shared->Prop}
  (hl:typeLookup (.type T) "__getitem__" = pure (some (.builtin id))) (hs:zP slice)
  (h:wpAny (model prog w) A (eval value env) (λo s₁=>wpAny (model prog w) A (eval slice env) (λi s₂=>s₂.TypeIs o T/\wpAny (model prog w) A (getItem o i) Q E s₂) E s₁) E s) :
  wpAny (model prog w) A (eval (.Subscript value slice pos) env) Q E s:=by
 refine Subscript_ (wpAny_mono h (λo s₁ h₁=>wpAny_mono h₁ (λi s₂ h₂=>?_) λ_ _ x=>x) λ_ _ x=>x);obtain⟨hT,h₂⟩:=h₂;unfold subscriptTail;refine wpAny_bind ?_;rw[getitemInPython_of_ne hT.not_modules];refine wpAny_bind (wpAny_specialOf hT hl ?_);have fin:wpAny (model prog w) A (subscripted slice false o i) (λr s₃=>wpAny (model prog w) A (letTemporaryGo value o r >>= λ_=>pure r) Q E s₃) E s₂:=by
  rw[hs o i];exact wpAny_operating (wpAny_mono h₂ (λr s₃ h₃=>wpAny_bind (wpAny_letTemporaryGo (wpAny_pure h₃))) λ_ _ x=>x)
 first
  |exact wpAny_pure (wpAny_bind fin)
  |exact wpAny_bind (wpAny_pure (wpAny_bind fin))
  |exact wpAny_bind fin
def V7{X:Cx}{pins:List (Addr×Obj)}{G:St}{H:Hp}{s:Shared}{a:Addr}{y:V}{o:Option V}(I:Inv X pins G H s)(g:qq H a y o):s.TypeIs (.ref a) "dict" := by
 rcases g with⟨kvs,k,e,_,_⟩|⟨kvs,k,b,e,_,_,_⟩
 obtain⟨_,_,vs,_,dd⟩:=JG I.hok e;exact dd.typeIs;obtain⟨_,_,xs,_,dd⟩:=JH I.hok e;exact dd.typeIs
abbrev x8(td ty:TE):TE:=λG H Q=>td G H λx H1=>ty G H1 λy H2=>∃a v,x=.ref a/\qq H2 a y (some v)/\Q v H2
abbrev sR(ty td:TE):TE:=λG H Q=>ty G H λy H1=>td G H1 λx H2=>∃a o,x=.ref a/\qq H2 a y o/\Q (.bl (!o.isSome)) H2
abbrev x9(td ty tv:TE):TS:=λD G H=>tv G H λv H1=>td G H1 λx H2=>ty G H2 λy H3=>∃a H4,x=.ref a/\uQ H3 a y v H4/\D.nx G H4
section
variable {X:Cx}{o i e value:Expr}{pos pos' tpos:Pos}{td ty tv:TE}
def um(hu:X.A.units+1<cLine)(ho:PE X o td)(hi:PE X i ty)(hs:zP i):PE X (.Subscript o i pos) (x8 td ty):=by intro pins s G H Q I h;refine Qy PySem.F.slot_dict_getitem.lookup hs (cI (ho pins s G H _ I h) λu s1 ⟨x,H1,I1,rx,q1⟩=>cI (hi pins s1 G H1 _ I1 q1) λiv s2 ⟨y,H2,I2,ry,a,v,ex,g,q2⟩=>?_);subst ex;obtain rfl:u=Value.ref a:=rx;exact⟨V7 I2 g,V4 hu I2 g ry λw' s3 I3 rw'=>⟨v,H2,I3,rw',q2⟩⟩
def Qz(hu:X.A.units+1<cLine)(hi:PE X i ty)(ho:PE X o td):PC X .NotIn i o (sR ty td):=by intro pins s G H Q I h;refine cI (hi pins s G H _ I h) λiv s1 ⟨y,H1,I1,ry,q1⟩=>cI (ho pins s1 G H1 _ I1 q1) λu s2 ⟨x,H2,I2,rx,a,ov,ex,g,q2⟩=>?_;subst ex;obtain rfl:u=Value.ref a:=rx;exact V5 hu I2 g ry λs3 I3=>⟨.bl (!ov.isSome),H2,I3,rfl,q2⟩
def QA(hu:X.A.units+1<cLine)(ho:PE X o td)(hi:PE X i ty)(hv:PE X value tv)(hs:swapsWith value (some (.Subscript o i pos')) pos.line X.env=pure false):
  PS X (.Assign [.Subscript o i pos'] value pos) (x9 td ty tv):=by
 intro pins s G H D I h;refine wpAny_Assign_Subscript (cI (hv pins s G H _ I h) λr s1 ⟨v,H1,I1,rv,q1⟩=>cI (ho pins s1 G H1 _ I1 q1) λu s2 ⟨x,H2,I2,rx,q2⟩=>cI (hi pins s2 G H2 _ I2 q2) λiv s3 ⟨y,H3,I3,ry,a,H4,ex,g,q3⟩=>?_) hs;subst ex;obtain rfl:u=Value.ref a:=rx;exact V6 hu I3 g ry rv λs4 I4=>⟨G,H4,I4,q3⟩
end
def QB{P:Program}{w:World}{H:Hp}(h:Heap)(hb:sysModules<h.objs.size):dy P w H (h.push { cls:=.type "dict",data:=.dict #[] }) h.objs.size (.dK []) :=
 ⟨ZaZ _,beq_eq_false_iff_ne.mpr (Ne.symm (ZaX hb)),[],.nil,Heap.DictOf.new h⟩
abbrev uR:TE:=λ_ H Q=>∀p,H p=none->Q (.ref p) (upd H p (.dK []))
section
variable {X:Cx}{pos:Pos}
def V8:PE X (.Dict [] [] pos) uR:=λpins s G H Q I h =>
 wpAny_Dict_empty ⟨.ref s.heap.objs.size,_,I.laid (a:=s.heap.objs.size) (o:=.dK []) (t':=s.toks) (λ_ _ q=>Zac _ q) (Zab _) (QB s.heap I.big),rfl,h _ (I.hok.fresh (Zab _))⟩
end
abbrev qr:List (TE×TE)->St->Hp->(List (V×V)->Hp->Prop)->Prop
 |[],_,H,Q=>Q [] H
 |(tk,tv) :: r,G,H,Q=>tk G H λx H1=>tv G H1 λy H2=>qr r G H2 λps H3=>Q ((x,y) :: ps) H3
@[reducible]def VV:List (V×V)->List (Value×Value)->Prop:=Paired λp q=>RelV p.1 q.1/\RelV p.2 q.2
abbrev JI(X:Cx)(pos:Pos)(keys:List (Option Expr))(values:List Expr)(rh:List (TE×TE)):Prop :=
 ∀(pins:List (Addr×Obj)) (s:Shared) (G:St) (H:Hp) (Q:List (V×V)->Hp->Prop),Inv X pins G H s->qr rh G H Q ->
  wpAny (model X.prog X.w) X.A (evalPairs (pairTrees keys values X.env pos)) (λvs s'=>∃ps H',Inv X pins G H' s'/\VV ps vs/\Q ps H') X.xe s
def MG{X:Cx}{pos:Pos}:JI X pos [] [] []:=λpins s G H Q I h=>pairTrees_nil_walk ⟨[],H,I,.nil,h⟩
def wF{X:Cx}{pos:Pos}{k v:Expr}{ks:List (Option Expr)}{vs:List Expr}{tk tv:TE}{rh:List (TE×TE)}(hk:PE X k tk)(hv:PE X v tv)(hr:JI X pos ks vs rh):
  JI X pos (some k :: ks) (v :: vs) ((tk,tv) :: rh):=λpins s G H Q I h =>
 pairTrees_cons_walk (cI (hk pins s G H _ I h) λu s1 ⟨x,H1,I1,rx,q1⟩=>cI (hv pins s1 G H1 _ I1 q1) λw2 s2 ⟨y,H2,I2,ry,q2⟩ =>
  cI (hr pins s2 G H2 _ I2 q2) λws s3 ⟨ps,H3,I3,rel,q3⟩=>⟨(x,y) :: ps,H3,I3,.cons ⟨rx,ry⟩ rel,q3⟩)
abbrev n5(kvs more:List (Key×V)):List (Key×V):=more.foldl (λacc kv=>putK acc kv.1 kv.2) kvs
def KV.merge:∀{more:List (Key×V)} {rs:List (Key×Value)} {kvs:List (Key×V)} {vs:List (Key×Value)},KV more rs->KV kvs vs->KV (n5 kvs more) (merged vs rs):=by
 intro more rs kvs vs r;unfold KV at r
 induction r generalizing kvs vs with
 |nil=>intro q;exact q
 |@cons p q ps qs h t ih =>
  intro r0;have e:KV (putK kvs p.1 p.2) (stored vs q.1 q.2):=by
   have:=r0.put p.1 h.2;rw[<- h.1];exact this
  exact ih e
def QC:∀(more kvs:List (Key×V)),(n5 kvs more).length<=kvs.length+more.length
 |[],kvs=>by show kvs.length<=kvs.length+0;lk
 |p :: r,kvs=>by
  have h1:=QC r (putK kvs p.1 p.2);have h2:=ME kvs p.1 p.2;show(n5 (putK kvs p.1 p.2) r).length<=_;rw[Zaz];lk
def QD{P:Program}{w:World}:∀{kvs:List (Key×V)} {ws:List (Value×Value)},VV (kvs.map λkv=>(kV kv.1,kv.2)) ws->∃rs,Carries (cO P w) ws rs/\KV kvs rs
 |[],_,r=>by rw[Za3]at r;cases r;exact⟨[],True.intro,.nil⟩
 |p :: kvs,_,r=>by
  rw[Zav]at r;cases r with
  |@cons a b as bs h t =>
   obtain⟨rs,c,q⟩:=QD (P:=P) (w:=w) t;obtain⟨b1,b2⟩:=b;exact⟨(p.1,b2) :: rs,⟨El h.1,rfl,c⟩,.cons ⟨rfl,h.2⟩ q⟩
abbrev ya(rh:List (TE×TE)):TE:=λG H Q=>∀p,H p=none->qr rh G (upd H p (.dK [])) λps H2=>H2 p=some (.dK [])/\∃kvs:List (Key×V),ps=kvs.map (λkv=>(kV kv.1,kv.2))/\kvs.length<=15/\Q (.ref p) (upd H2 p (.dK (n5 [] kvs)))
def MH{X:Cx}{pos:Pos}{keys:List (Option Expr)}{values:List Expr}{rh:List (TE×TE)}(h:JI X pos keys values rh)(hall:keys.all (·.isSome)=true)(hl:keys.length=values.length)(h0:keys≠[])
  (V9:keys.length<=15):PE X (.Dict keys values pos) (ya rh):=by
 intro pins s G H Q I q;have hn:=I.hok.fresh (Zab s.heap.objs.size);have I1:=I.laid (a:=s.heap.objs.size) (o:=.dK []) (h':=s.heap.push { cls:=.type "dict",data:=.dict #[] }) (t':=s.toks) (λ_ _ q=>Zac _ q) (Zab _) (QB s.heap I.big);refine wpAny_Dict_walk (knd:=cO X.prog X.w) hall hl h0 V9 (cI (h pins _ G _ _ I1 (q _ hn)) λws s2 ⟨ps,H2,I2,rel,e,kvs,ep,lk,q2⟩=>?_);subst ep;obtain⟨rs,c,rk⟩:=QD (P:=X.prog) (w:=X.w) rel;obtain⟨z,hd,vs0,r0,dd⟩:=x6 I2.hok e;cases r0;refine⟨rs,c,dd,λh' zO hs=>⟨.ref s.heap.objs.size,_,?_,rfl,q2⟩⟩;have hz:(n5 [] kvs).length<=sizeLine:=by
  have h1:=QC kvs [];rw[ZbQ]at h1;rw[sizeLine_eq];lk
 have he:∃q,h'.get? s.heap.objs.size=some q:=let ⟨q,_,_,hq,_⟩:=zO;⟨q,hq⟩
 exact MF I2 (by rw[e];exact True.intro) hs he (Qx hz hd (rk.merge .nil) zO)
end L2
namespace QE
open PySem PySem.W PySem.Calls PyProof.Rows
def Wa{P:Params}{h:Heap}:∀(ns:List Int) (vs:List Value),WellAll P h vs (ns.map WData.int)->IntsAre vs ns:=by
 intro ns
 induction ns with
 |nil =>
  intro vs w;rw[Za3]at w;cases w;exact .nil
 |cons n ns ih =>
  intro vs w;rw[Zav]at w;cases w with
  |cons a b =>
   cases a;exact .cons _ _ (ih _ b)
def Wb{l:OpenLaw}{n:Nat}(hn:l.most=some n){P:Params}{h:Heap}{args:List WData}{vals:List Value}
  (hpre:l.row.toRowW.claim.pre args=true) (hwl:WellAll P h vals args) :
  ∃a vs ns,vals=[Value.ref a]/\args=[WData.list (ns.map WData.int)]/\h.get? a=some { cls:=.type "list",data:=.seq vs.toArray }/\IntsAre vs ns/\ns.length<=n:=by
 have hsh:WShape.hasAll [] args [.list .int]=true:=(pre_splitW hpre).1;have hc:l.pre.holds [] { args:=args }=true:=(pre_splitW hpre).2;obtain⟨d,r,rfl,h1,h2⟩:=hasAllW_cons hsh;obtain rfl:=hasAllW_nil h2;obtain⟨xs,rfl,h3⟩:=hasW_list h1;obtain⟨ns,rfl⟩:=items_int h3;have hlen:ns.length<=n:=by
  unfold OpenLaw.pre at hc;have h4:(WTm.not (.lt (.lit (.int (n:Int))) (.len (.arg 0)))).holds [] { args:=[.list (ns.map .int)] }=true:=by
   have h4:=(holds_andW hc).1;rw[hn]at h4;exact h4
  have h5:=condW_of h4 (w_not (w_lt w_lit (w_len_list (w_arg rfl))));rw[Zaa]at h5;refine Zcm λq=>?_;have q':(n:Int)<((ns.length:Nat):Int):=by lk
  first
   |(rw[decide_eq_true q']at h5;exact absurd h5 ∅)
   |(simp at h5;lk)
 cases hwl with
 |cons w1 w2 =>
  cases w2;cases w1 with
  |list ho hall=>exact⟨_,_,ns,rfl,rfl,ho,Wa ns _ hall,hlen⟩
def Wc(l:OpenLaw)(args:List WData):l.row.toRowW.claim.post args (.bool true) args=true :=
 postW_of (r:=l.row.toRowW) (X:=(true == true))
  (show WShape.has [] (.bool true) .bool=true by first|rfl|decide|simp[WShape.has,WShape.arms,WShape.armsAll])
  (show(WTm.eq .res (.lit (.bool true))).value [] { args:=args,res:=some (.bool true),after:=args }=some (.bool (true == true))from w_eq_bool (w_res rfl) w_lit) rfl
def Wd{l:OpenLaw}{n:Nat}{q:Program}{loose:List Str}{XP:(Str->Option Value)->Heap->Prop}{YP:World->Heap->Prop}{d:DefRec}
  (hn:l.most=some n) (hdf:d.params.defaults=[])
  (call:∀(w:World) (s₀ s₁:Shared) (mg mb:Str->Option Value) (fa:Addr) (o:Obj) (pm cd doc:Value) (a:Addr) (vs:List Value) (ns:List Int),
   Ground q loose [] XP w s₀ mg mb s₁.heap->YP w s₁.heap ->
   s₁.heap.get? fa=some o->o.data=.func (docDef d.name d.params d.body d.scope pm cd doc)->s₁.heap.CodeRec cd d.name->mg d.name=some (.ref fa) ->
   s₁.heap.get? a=some { cls:=.type "list",data:=.seq vs.toArray }->IntsAre vs ns->ns.length<=n->s₁.gens=#[] ->
   codeAny (model l.prog w) callerA (.call (.ref fa) ⟨[.ref a],[]⟩) (λr s'=>r=.ok (.ret (.bool true))/\OldK s₁.heap s'.heap/\s'.os=s₁.os/\AllBare s'.gens) s₁) :
  WalkO q loose XP YP l.row.toRowW d [] (λf vs=>PySem.call f vs):=by
 intro w s₀ s₁ mg mb G Y fa o pm cd doc dV kV ho hd hcd hD hmg hg args vals as hpre hlay hrd hwl hlo;obtain rfl:dV=.none:=Dflts.none hD hdf;obtain rfl:kV=.none:=Dflts.noKw hD;obtain⟨a,vs,ns,rfl,rfl,hobj,hints,hlen⟩:=Wb hn hpre hwl;refine enter_call (codeAny_mono (call w s₀ s₁ mg mb fa o pm cd doc a vs ns G Y ho (fd_plain hd) hcd hmg hobj hints hlen hg) λr s' hq=>?_);obtain⟨rfl,h2,h3,h4⟩:=hq;exact⟨.inl ⟨.bool true,.bool true,[],rfl,λ_=>rfl,.bool true,Wc l _,λ_=>⟨List.Pairwise.nil,λ_ hm=>(nomatch hm)⟩⟩,h2,h3,h4⟩
end QE
namespace L2
open PySem PySem.Spec PyProof.Rows
def QF:∀{vs:List Value} {ns:List Int},IntsAre vs ns->Vals (ns.map V.int) vs
 |_,_,.nil=>.nil
 |_,_,.cons n t h=>.cons ⟨t,rfl⟩ (QF h)
abbrev Only(H:Hp):Prop:=∀b,H b=none\/∃o xs,H b=some (.qi o (.lst xs))
def Wf{P:Program}{w:World}{K:Zfr}{mg mb:Str->Option Value}{CX:sM}{k:Nat}{fa a:Addr}{fd:FuncData}{x:Str}{sp:Sp}{s₁:Shared}{vs:List Value}{ns:List Int}
  (KX:K.In s₁.heap) (hns:s₁.heap.Ns mainGlobals mg) (hb:s₁.heap.Ns builtinsNs mb) (Wg:∀x:Str,x≠"__name__" -> mb x=bootBuiltins x) (hlim:s₁.heap.NoLimit) (hg:s₁.gens=#[])
  (ha:s₁.heap.get? a=some { cls:=.type "list",data:=.seq vs.toArray }) (hi:IntsAre vs ns) (hl:ns.length<=sizeLine) (hr:jQ k callerA)
  (F:∀base:Heap,K.In base->base.Ns mainGlobals mg->aC P w K mg base CX k fa fd [x] sp) (hbind:∀(s:Shared) (u:Value),BindsTo s fd ⟨[u],[]⟩ [(x,u)])
  (vO:∀H:Hp,Only H->kR K H a (ns.map V.int)->sp [.ref a] H (λv _=>v=.bl true) λ_ _ _=>False)
  (En:∀H e s',CX [] H s₁ (λ_ _ _=>False) e s'->False) :
  codeAny (model P w) callerA (.call (.ref fa) ⟨[.ref a],[]⟩) (λr s'=>r=.ok (.ret (.bool true))/\OldK s₁.heap s'.heap/\s'.os=s₁.os/\AllBare s'.gens) s₁:=by
 have rv:=QF hi;have MI:=hi.length;have core:∀ H:Hp,Only H->kR K H a (ns.map V.int)->nz P w H s₁.heap->(∀ b,H b≠none->b=a)->(H a≠none->K.lookup a=none) ->
   codeAny (model P w) callerA (.call (.ref fa) ⟨[.ref a],[]⟩) (λr s'=>r=.ok (.ret (.bool true))/\OldK s₁.heap s'.heap/\s'.os=s₁.os/\AllBare s'.gens) s₁:=by
  intro H hO hS hok hA hK;have sS:∀{b:Addr} {o:Obj},s₁.heap.get? b=some o->H b=none->(ql s₁.heap H).get? b=some o:=λe n=>VB e n;have D7:∀{b:Addr} {o:Obj} {es:Array DictEntry} {ep:Nat},s₁.heap.get? b=some o->o.data=.dict es ep->H b=none:=λ{b o es ep} e d=>by
   cases q:H b with
   |none=>rfl
   |some u =>
    have e':b=a:=hA b (by rw[q];simp);subst e';rw[ha]at e;cases e;have d':Data.seq vs.toArray _=Data.dict es ep:=d;cases d'
  have JJ:∀{b:Addr} {m:Str->Option Value},s₁.heap.Ns b m->(ql s₁.heap H).Ns b m:=λ{b m} ⟨o,es,ep,e,d,r⟩=>⟨o,es,ep,sS e (D7 e d),d,r⟩
  have QG:K.In (ql s₁.heap H):=λb o e=>sS (KX b o e) (by
   cases q:H b with
   |none=>rfl
   |some u =>
    have e':b=a:=hA b (by rw[q];simp);subst e'
    rw[hK (by rw[q];simp)]at e;cases e)
  have hM:Mod K mg (ql s₁.heap H):=⟨QG,JJ hns,⟨mb,JJ hb,Wg⟩,let ⟨mc,h1,h2⟩:=hlim;⟨mc,JJ h1,h2⟩⟩;have e0:wq P w K mg (ql s₁.heap H) callerA [] s₁ H:=⟨rfl,hM,λb o e=>VC e,Nat.le_of_eq (VA _ _),trivial,λb hb=>absurd (show b∈([]:List Addr)from hb) (by simp),hok,.of_eq hg⟩;refine codeAny_mono ((F _ QG (JJ hns)).run callerA [] s₁ H ⟨[.ref a],[]⟩ [.ref a] [.ref a] _ _ hr e0 (hbind s₁ (.ref a)) (.cons rfl .nil) (vO H hO hS)) λr s' h=>?_;cases r with
  |error e=>exact(En H e s' h).elim
  |ok fl =>
   cases fl with
   |next=>exact False.elim h
   |brk=>exact False.elim h
   |cont=>exact False.elim h
   |ret u =>
    obtain⟨v,H',os,bare,un,MJ,r',q⟩:=h;have q':v=.bl true:=q;subst q';obtain rfl:u=Value.bool true:=r';refine⟨rfl,OldK.of_keep λb o e=>?_,os,bare⟩;cases q:H b with
    |none=>exact un.keep b o e q (by intro z;exact absurd (show b∈([]:List Addr)from z) (by simp)) (by simp)
    |some u =>
     rcases hO b with z|⟨ob,xs,z⟩
     ·rw[q]at z;cases z
     ·have z2:=un.qk b ob _ z
      obtain⟨e1,_⟩:=hok b _ z;obtain⟨e2,_⟩:=MJ b _ z2;rw[e]at e1;cases e1;exact e2
 cases hk:K.lookup a with
 |some o =>
  have e:=KX a o hk;rw[ha]at e;cases e;refine core (λ_=>none) (λ_=>.inl rfl) (.inr ⟨_,vs.toArray,_,hk,rfl,rfl,rfl,by rw[Zap,MI];exact hl,by simpa using rv⟩) (λb u z=>by have z':(none:Option HO)=some u:=z;cases z') (λb z=>absurd rfl z) λz=>absurd rfl z
 |none =>
  refine core (λb=>if b=a then some (.qi { cls:=.type "list",data:=.seq vs.toArray } (.lst (ns.map V.int)))else none) (λb=>?_) (.inl (.inr ⟨{ cls:=.type "list",data:=.seq vs.toArray },if_pos rfl⟩)) (λb u z=>?_) (λb z=>?_) λ_=>hk
  ·by_cases hb:b=a
   ·exact .inr ⟨_,_,if_pos hb⟩
   ·exact .inl (if_neg hb)
  ·by_cases hb:b=a
   ·have z':=(if_pos hb).symm.trans z
    cases z';subst hb;exact⟨ha,by rw[Zaa];exact hl,vs,_,rv,ha⟩
   ·have z':=(if_neg hb).symm.trans z
    cases z'
  ·by_cases hb:b=a
   ·exact hb
   ·exact absurd (if_neg hb) z
@[reducible]def KOf{K:Zfr}{h:Heap}(_:K.In h):Zfr:=K
def Wi{l:PySem.W.OpenLaw}{n k:Nat}{q:Program}{loose:List Str}{XP:(Str->Option Value)->Heap->Prop}{YP:World->Heap->Prop}{d:DefRec}{K:Params->Zfr}{CX:World->sM}{sp:World->Sp}{x:Str}
  (hn:l.most=some n) (hn2:n<=sizeLine) (hdf:d.params.defaults=[]) (hr:jQ k callerA)
  (hY:∀(w:World) (h:Heap),YP w h->(K w.params).In h)
  (F:∀(w:World) (mg:Str->Option Value) (fa:Addr) (h:Heap),(K w.params).In h->h.Ns mainGlobals mg->mg d.name=some (.ref fa) ->
   ∃fd:FuncData,(∀(s:Shared) (u:Value),BindsTo s fd ⟨[u],[]⟩ [(x,u)]) /\
    ∀base:Heap,(K w.params).In base->base.Ns mainGlobals mg->aC l.prog w (K w.params) mg base (CX w) k fa fd [x] (sp w))
  (vO:∀(w:World) (H:Hp) (a:Addr) (ns:List Int),ns.length<=n->Only H->kR (K w.params) H a (ns.map V.int)->sp w [.ref a] H (λv _=>v=.bl true) λ_ _ _=>False)
  (En:∀(w:World) (H:Hp) (s:Shared) (e:Value) (s':Shared),CX w [] H s (λ_ _ _=>False) e s'->False) :
  PySem.W.WalkO q loose XP YP l.row.toRowW d [] (λf vs=>PySem.call f vs):=by
 refine QE.Wd hn hdf λw s₀ s₁ mg mb fa o pm cd doc a vs ns G Y ho hd hcd hmg hobj hints hlen hg=>?_;have KX:=hY w _ Y;obtain⟨fd,hb,hF⟩:=F w mg fa _ KX G.T.g hmg;exact Wf KX G.T.g G.T.b G.T.builtins G.T.nolimit hg hobj hints (Zaw hlen hn2) hr hF hb (λH hO hS=>vO w H a ns hlen hO hS) λH e s'=>En w H s₁ e s'
def Wj{l:PySem.W.OpenLaw}{n k:Nat}{q:Program}{loose:List Str}{XP:(Str->Option Value)->Heap->Prop}{YP:World->Heap->Prop}{d:DefRec}{K:Params->Zfr}{CX:sM}{sp:Zfr->Sp}{x:Str}
  (hn:l.most=some n) (hn2:n<=sizeLine) (hdf:d.params.defaults=[]) (hr:jQ k callerA)
  (hY:∀(w:World) (h:Heap),YP w h->(K w.params).In h)
  (F:∀(w:World) (mg:Str->Option Value) (fa:Addr) (h:Heap),(K w.params).In h->h.Ns mainGlobals mg->mg d.name=some (.ref fa) ->
   ∃fd:FuncData,(∀(s:Shared) (u:Value),BindsTo s fd ⟨[u],[]⟩ [(x,u)]) /\
    ∀base:Heap,(K w.params).In base->base.Ns mainGlobals mg->aC l.prog w (K w.params) mg base CX k fa fd [x] (sp (K w.params)))
  (vO:∀(K:Zfr) (H:Hp) (a:Addr) (ns:List Int),ns.length<=n->Only H->kR K H a (ns.map V.int)->sp K [.ref a] H (λv _=>v=.bl true) λ_ _ _=>False)
  (En:∀(H:Hp) (s:Shared) (e:Value) (s':Shared),CX [] H s (λ_ _ _=>False) e s'->False) :
  PySem.W.WalkO q loose XP YP l.row.toRowW d [] (λf vs=>PySem.call f vs) :=
 Wi (K:=K) (CX:=λ_=>CX) (sp:=λw=>sp (K w.params)) hn hn2 hdf hr hY F (λw H a ns h1 h2 h3=>vO (K w.params) H a ns h1 h2 h3) λ_ H s e s'=>En H s e s'
abbrev nD(s:Stmt):Arguments:=match s with
 |.FunctionDef _ a _ _ _ _ _ _ _ _=>a
 |_=>{ posonlyargs:=[],args:=[],vararg:=none,kwonlyargs:=[],kw_defaults:=[],kwarg:=none,defaults:=[] }
abbrev lT(s:Stmt):List Stmt:=match s with
 |.FunctionDef _ _ b _ _ _ _ _ _ _=>b
 |_=>[]
abbrev aj(s:Stmt):Scope:=match s with
 |.FunctionDef _ _ _ _ _ _ sc _ _ _=>sc
 |_=>{ kind:=.function,names:=[],isGenerator:=false,isCoroutine:=false }
@[reducible]def bq:sM:=λ_ _ _ _ _ _=>False
@[reducible]def E0:XK:=λ_ _ _=>False
def uS{X:Cx}:Passes bq X E0:=λ_ _ _ _ _ _ _ h=>h.elim
structure JK(K:Zfr)(x qual:Str)(st:Stmt)(f:Addr)(fd:FuncData):Prop where
 ex:∃(oc:Value) (od:Option Addr) (kV doc pm:Value) (an:Option Addr) (cdv ct:Value) (osl:Array (Option Value)),
  fd=PySem.W.fnOf x qual (nD st) (lT st) (aj st) .none kV doc pm an cdv ct/\K.lookup f=some ⟨oc,od,.func fd,osl⟩/\PySem.W.codeIn K cdv qual=true
 kp:PySem.W.keepIn K (.ref f)=true
section
variable {P:Program}{w:World}{K:Zfr}{mg:Str->Option Value}{base:Heap}
def JK.ok{x qual:Str}{st:Stmt}{f:Addr}{fd:FuncData}{N ps:List Str}{k:Nat}{sp:Sp}(F:JK K x qual st f fd)(S:au N ps (aj st))(len:∀vs H Q E,sp vs H Q E->vs.length=ps.length)
  (hbody:∀(cdv:Value) (A:Around) (outer:List Env) (s:Shared) (H:Hp) (vs:List V) (Q:VK) (E:XK),jQ k (A.deeper (envOfC qual (aj st) s.heap.objs.size f cdv))->sp vs H Q E ->
   ∃t,tN (jR bq P w K mg base N qual (aj st) f cdv A outer s H E).qU (lT st) t/\t { nx:=λ_ H'=>Q .non H',rt:=Q } (start N vs) H):aC P w K mg base bq (k+1) f fd ps sp:=by
 obtain⟨oc,od,kV,doc,pm,an,cdv,ct,osl,rfl,lk,hcd⟩:=F.ex;refine D8 lk hcd S len λA outer s H vs Q E hr vO=>?_;obtain⟨t,h,q⟩:=hbody cdv A outer s H vs Q E hr vO;exact⟨t,h.qU,q⟩
def zQ{x qual:Str}{st:Stmt}{f:Addr}{oc:Value}{od an:Option Addr}{osl:Array (Option Value)}{kV doc pm cdv ct:Value}(l:K.lookup f=some ⟨oc,od,.func (PySem.W.fnOf x qual (nD st) (lT st) (aj st) .none kV doc pm an cdv ct),osl⟩)
  (c:PySem.W.codeIn K cdv qual=true) (k:PySem.W.keepIn K (.ref f)=true):JK K x qual st f (PySem.W.fnOf x qual (nD st) (lT st) (aj st) .none kV doc pm an cdv ct):=⟨⟨oc,od,kV,doc,pm,an,cdv,ct,osl,rfl,l,c⟩,k⟩
end
def yb{A:Around}{k:Nat}(hr:jQ k A):A.units+1<cLine:=Za1 (Nat.add_le_add_left (by decide:1<=64) _) hr.units
section
variable {X:Cx}
def pv(i:Nat){x:Str}{pos:Pos}(hN:X.N[i]?=some x:=by rfl)(hv:L7 X.env.scope x:=by first | exact Or.inl rfl | exact Or.inr (Or.inl rfl) | exact Or.inr (Or.inr rfl))(hd:(x == ("__debug__" : Str))=false:=by decide)
  (hcd:(x == ("__classdict__" : Str))=false:=by decide):PE X (.Name x pos) (zt i):=zu hN hv hd hcd
end
def tR{A B:Prop}(h:B):if false=true then A else B:=by rw[if_neg Zal];exact h
def tT{A B:Prop}(h:A):if true=true then A else B:=by rw[if_pos rfl];exact h
abbrev hV(H H':Hp):Prop:=∀b o,H b=some o->H' b=some o
def hV.refl(H:Hp):hV H H:=λ_ _ h=>h
def mU:bootBuiltins "len" = some (.builtin "len"):=by decide +kernel
def QH:bootBuiltins "int" = some (.type "int"):=by decide +kernel
def tU:bootBuiltins "list" = some (.type "list"):=by decide +kernel
def qa:bootBuiltins "tuple" = some (.type "tuple"):=by decide +kernel
def wG:bootBuiltins "range" = some (.type "range"):=by decide +kernel
def zR:bootBuiltins "max" = some (.builtin "max"):=by decide +kernel
def zS:bootBuiltins "all" = some (.builtin "all"):=by decide +kernel
def zT:bootBuiltins "zip" = some (.type "zip"):=by decide +kernel
def Wk:bootBuiltins "reversed" = some (.type "reversed"):=by decide +kernel
structure Kp(ch:List Addr)(H H':Hp):Prop where
 keep:∀b o,H b=some o->b ∉ ch->H' b=some o
 tup:∀b xs,H b=some (.tup xs)->H' b=some (.tup xs)
 qi:∀b o u,H b=some (.qi o u)->H' b=some (.qi o u)
section
variable {ch:List Addr}{H H1 H2:Hp}{a l p:Addr}{o:HO}{xs ys:List V}{K:Zfr}
def Kp.refl:Kp ch H H:=⟨λ_ _ h _=>h,λ_ _ h=>h,λ_ _ _ h=>h⟩
def Kp.of_same(h:hV H H1):Kp ch H H1:=⟨λb o e _=>h b o e,λb xs e=>h b _ e,λb o u e=>h b _ e⟩
def Kp.put(h:Kp ch H H1)(ha:a∈ch)(e:H1 a=some (.lst xs)):Kp ch H (upd H1 a o) :=
 ⟨λb u q n=>by rw[lR (λz=>n (by rw[z];exact ha))];exact h.keep b u q n,
   λb u q=>by
  have r:=h.tup b u q;rw[lR (L5 r e (by intro z;cases z))];exact r,
   λb u v q=>by
  have r:=h.qi b u v q
  rw[lR (L5 r e (by intro z;cases z))];exact r⟩
def Kp.MK(h:Kp ch H H1)(q:gS K H a xs):gS K H1 a xs:=by
 rcases q with(q|⟨o,q⟩)|q
 exact .inl (.inl (h.tup a xs q));exact .inl (.inr ⟨o,h.qi a o _ q⟩);exact .inr q
abbrev Eo(K:Zfr)(H:Hp)(a:Addr)(xs:List V):Prop :=
 (∃o,H a=some (.qi o (.lst xs))) \/
  ∃(o:Obj) (its:Array Value) (n:Nat),K.lookup a=some o/\o.cls=.type "list" /\ o.dict=none/\o.data=.seq its n/\its.size<=sizeLine/\Vals xs its.toList
def Eo.sq(h:Eo K H a xs):kR K H a xs:=h.elim (λ⟨o,e⟩=>.inl (.inr ⟨o,e⟩)) .inr
def kR.script(hO:Only H)(q:kR K H a xs):Eo K H a xs:=by
 rcases q with(q|⟨o,q⟩)|q
 rcases hO a with e|⟨o,ys,e⟩
 rw[e]at q;cases q;rw[e]at q;cases q;exact .inl ⟨o,q⟩;exact .inr q
def hV.up(h:H p=none):hV H (upd H p o):=λb u e=>by rw[lR (Cp e h)];exact e
end
abbrev sf(K:Zfr)(H:Hp)(xs:List V)(Q:VK):Prop:=∀p H',gS K H' p xs->hV H H'->Q (.ref p) H'
section
variable {X:Cx}
def sf.new{K:Zfr}{H:Hp}{xs:List V}{Q:VK}(h:sf K H xs Q):∀p,H p=none->Q (.ref p) (upd H p (.tup xs)):=λp hp=>h p _ (gS.of rY) (hV.up hp)
def sf.it{K:Zfr}{H:Hp}{xs:List V}{Q:VK}{a:Addr}(h:sf K H xs Q)(q:gS K H a xs):Q (.ref a) H:=h a H q (hV.refl H)
abbrev uT(K:Zfr):R2:=λx y H Q=>∃a b xs ys,x=.ref a/\y=.ref b/\gS K H a xs/\gS K H b ys/\xs.length+ys.length<=sizeLine/\sf K H (xs ++ ys) Q
def zU:mP X (binaryOp .Add) (uT X.K):=by
 intro pins s G H x y v u Q I rx ry h;obtain⟨a,b,xs,ys,rfl,rfl,ha,hb,hz,q⟩:=h;by_cases hx:xs=[];subst hx;cases rx;cases ry;obtain⟨its,r1,p1,_⟩:=I.tuple ha;obtain⟨its2,r2,p2,_⟩:=I.tuple hb;have e:its=[]:=r1.oK.mpr rfl;subst e;obtain⟨⟨cls,dd,data,sl⟩,ho,hc,n,hd⟩:=id p1;obtain⟨⟨Mq,dd2,data2,sl2⟩,ho2,hc2,n2,hd2⟩:=id p2;simp only at hc hd hc2 hd2;subst hc hd hc2 hd2;exact concat_meets ⟨_,ho,rfl⟩ ⟨_,ho2,rfl⟩ noFill_tuple_add seq_tuple_add PySem.F.slot_tuple_add PySem.F.entry_tuple_add (PySem.F.args_tuple_add_2 _ _)
  (tuple_addW0 a b #[] its2.toArray n n2 dd dd2 sl sl2 (by simp)) ⟨ho,ho2,⟨.ref b,H,I,rfl,q.it (by simpa using hb)⟩⟩
 exact VZ pins s G H _ _ v u Q I rx ry ⟨a,b,xs,ys,rfl,rfl,ha,hb,hx,hz,λe=>q.it (by subst e;simpa using ha),λ_=>q.new⟩
def Wl{prog:Program}{w:World}{A:Around}{E:Value->Shared->Prop}{s:Shared}{t sl:Addr}{items:Array Value}{vl vu:Value}{lo hi:Option Int}{Q:Value->Shared->Prop}(ht:IsTup s.heap t items)(hs:s.heap.IsSliceOf sl vl vu .none)(pl:IsPart vl lo)(pu:IsPart vu hi)
  (hw:HT.dz items.size 0 lo=0/\HT.dz items.size items.size hi=items.size) (h:Q (.ref t) s):wpAny (model prog w) A (getItem (.ref t) (.ref sl)) Q E s:=by
 obtain⟨os,hos,hcs,hds⟩:=id hs;have Mr:s.TypeIs (.ref sl) "slice" := ⟨os,hos,hcs⟩;unfold getItem
 try with_reducible refine wpAny_holding ?_
 first|refine wpAny_bind (wpAny_pure ?_)|skip
 refine wpAny_bind (wpAny_sequenceKey ht.typeIs ∅ ?_)
 refine wpAny_bind (wpAny_callSpecial?_slot (name:=Str.ofString "__getitem__") ht.typeIs PyProof.Rows.slot_tuple_getitem
  (wpAny_call_entry PyProof.Rows.slot_tuple_getitem ht.typeIs entry_tuple_getitem ?_ (args_tuple_getitem _ _)))
 show wpAny _ _ (Builtin.Tuple.tupleItemsOf (.ref t) >>= _) _ _ s;refine wpAny_bind (tupleItemsOf_ ht ?_);refine wpAny_bind (wpAny_typeOf Mr ?_);rw[if_pos ∅];refine wpAny_bind (HT.Ql hs pl pu ?_);have hyes:((((HT.dz items.size 0 lo:Nat):Int) == 0 && (1:Int) == 1 && (HT.dz items.size items.size hi-HT.dz items.size 0 lo) == items.size)=true):=by
  rw[hw.1,hw.2];simp
 show wpAny _ _ (if(((HT.dz items.size 0 lo:Nat):Int) == 0 && (1:Int) == 1 && (HT.dz items.size items.size hi-HT.dz items.size 0 lo) == items.size)=true then _ else _) _ _ s;rw[if_pos hyes];obtain⟨o,ho,hc,n,hd⟩:=id ht;unfold Builtin.Tuple.tupleIsExact
 first
  |exact wpAny_bind (wpAny_bind (wpAny_typeOf (T:="tuple") ⟨o,ho,hc⟩ (wpAny_pure (wpAny_bind (wpAny_rule (wpAny_pure ⟨_,rfl,wpAny_pure h⟩))))))
  |exact wpAny_bind (wpAny_bind (wpAny_typeOf (T:="tuple") ⟨o,ho,hc⟩ (wpAny_pure (wpAny_bind (wpAny_rule (wpAny_bind (wpAny_pure ⟨_,rfl,wpAny_pure h⟩)))))))
  |trace_state
abbrev yd(K:Zfr):V->Option Int->Option Int->Hp->VK->Prop:=λx lo hi H Q=>∃a xs,x=.ref a/\gS K H a xs/\sf K H (pb xs lo hi) Q
def Wm{xs:List V}{lo hi:Option Int}(h:HT.dz xs.length 0 lo=0/\HT.dz xs.length xs.length hi=xs.length):pb xs lo hi=xs:=by unfold pb;rw[h.1,h.2];simp
def zV:JE X (yd X.K):=by
 intro pins s G H x v vl vu lo hi sl Q I rx hs pl pu h;obtain⟨a,xs,rfl,hx,q⟩:=h;by_cases hw:HT.dz xs.length 0 lo=0/\HT.dz xs.length xs.length hi=xs.length;cases rx;obtain⟨its,r,ht,hz⟩:=I.tuple hx;have hlen:its.toArray.size=xs.length:=by rw[Zap];exact r.length.symm
 refine⟨"tuple",_,PyProof.Rows.slot_tuple_getitem.lookup,ht.typeIs,?_⟩;exact Wl ht hs pl pu (by rw[hlen];exact hw) ⟨.ref a,H,I,rfl,q.it (by rw[Wm hw];exact hx)⟩;exact zH pins s G H _ v vl vu lo hi sl Q I rx hs pl pu ⟨a,xs,rfl,hx,hw,q.new⟩
abbrev iD(lo:Int)(n:Nat):List V:=(List.range n).map λ(k:Nat)=>V.int (lo+k)
def Wn(lo:Int)(n:Nat):(iD lo n).length=n:=by simp[iD]
def ML:ly X (.type "range") (λxs H Q=>∃j:Int,xs=[.int j]/\∀p,H p=none->Q (.ref p) (upd H p (.lu 0 j))):=by intro pins s G H xs us Q I r h;obtain⟨j,rfl,q⟩:=h;obtain⟨u,rfl,t,rfl⟩:=vals1 r;refine call_range_1 ⟨.ref s.heap.objs.size,_,I.laid (o:=.lu 0 j) (λb o e=>Zac _ e) (Zab _) ?_,rfl,q _ (I.hok.fresh (Zab _))⟩;exact⟨_,_,_,Zan _ rfl⟩
def Cv:ly X (.type "range") (λxs H Q=>∃i j:Int,xs=[.int i,.int j]/\∀p,H p=none->Q (.ref p) (upd H p (.lu i j))):=by intro pins s G H xs us Q I r h;obtain⟨i,j,rfl,q⟩:=h;obtain⟨u,u',rfl,⟨t,rfl⟩,t',rfl⟩:=vals2 r;refine call_range_2 ⟨.ref s.heap.objs.size,_,I.laid (o:=.lu i j) (λb o e=>Zac _ e) (Zab _) ?_,rfl,q _ (I.hok.fresh (Zab _))⟩;exact⟨_,_,_,Zan _ rfl⟩
def QI:∀(n:Nat) (lo:Int) (us:List Value),us.length=n->(∀(j:Nat) (v:Value),us[j]?=some v->∃t,v=.int (lo+j*1) t)->Vals (iD lo n) us
 |0,lo,[],_,_=>.nil
 |0,lo,_ :: _,h,_=>by simp at h
 |n+1,lo,[],h,_=>by simp at h
 |n+1,lo,u :: us,h,hv=>by
  have e:iD lo (n+1)=V.int lo :: iD (lo+1) n:=by
   unfold iD;rw[List.range_succ_eq_map,Zav,ZaA]
   congr 1
   simp;apply ZaT;intro i _;simp only[Function.comp]
   congr 1
   push_cast
   lk
  rw[e];obtain⟨t,ht⟩:=hv 0 u rfl;refine .cons ⟨t,by rw[ht];simp⟩ (QI n (lo+1) us (by simpa using h) λj v hj=>?_);obtain⟨t',ht'⟩:=hv (j+1) v hj;refine⟨t',ht'.trans ?_⟩
  congr 1
  lk
def wH(hc:X.calm=true):ly X (.type "list") (λxs H Q=>∃p lo hi,xs=[.ref p]/\H p=some (.lu lo hi)/\(-(2 ^ 62)<=lo/\lo<2 ^ 62/\-(2 ^ 62)<=hi/\hi<2 ^ 62)/\(hi-lo).toNat<=2 ^ 24 /\
  ∀l,H l=none->Q (.ref l) (upd H l (.lst (iD lo (hi-lo).toNat)))):=by
 intro pins s G H xs us Q I r h;obtain⟨p,lo,hi,rfl,hp,⟨b1,b2,b3,b4⟩,hz,q⟩:=h;obtain⟨u,rfl,ru⟩:=vals1 r;cases ru;obtain⟨t,t',t'',e⟩:=(show dy X.prog X.w H s.heap p (.lu lo hi)from I.hok p _ hp);refine call_list_range (a:=lo) (b:=hi) (c:=1) (n:=(hi-lo).toNat) (I.ok.hd hc) (show IsRange s.heap p lo hi 1 t t' t'' from e) (small_one b1 b2 b3 b4) (by rw[rangeSize_one];split<;>lk) hz λh' tk acc c kp hD hI=>?_;refine⟨.ref s.heap.objs.size,_,I.laid (t':=tk) (o:=.lst (iD lo (hi-lo).toNat)) kp (Zab _) ?_,rfl,q _ (I.hok.fresh (Zab _))⟩;refine⟨by rw[Wn];exact Zaw hz ∅,acc.toList,c,QI _ _ _ (by rw[Zb7];exact hI.1) λj v hj=>hI.2 j v (by rw[<- hj,Zcq]),by simpa using hD⟩
end
mutual
inductive Rep(K:Zfr)(H:Hp):V->PyData->Prop
 |non:Rep K H .non .none
 |bl (b:Bool):Rep K H (.bl b) (.bool b)
 |int (i:Int):Rep K H (.int i) (.int i)
 |str (x:Str):Rep K H (.str x) (.str x)
 |tup {a:Addr} {xs:List V} {ds:List PyData}:gS K H a xs->pd K H xs ds->Rep K H (.ref a) (.tuple ds)
 |lst {a:Addr} {xs:List V} {ds:List PyData}:kR K H a xs->pd K H xs ds->Rep K H (.ref a) (.list ds)
inductive pd(K:Zfr)(H:Hp):List V->List PyData->Prop
 |nil:pd K H [] []
 |cons {v:V} {vs:List V} {d:PyData} {ds:List PyData}:Rep K H v d->pd K H vs ds->pd K H (v :: vs) (d :: ds)
end
section
variable {X:Cx}{pins:List (Addr×Obj)}{G:St}{H:Hp}{s:Shared}
mutual
theorem Rep.reads(I:Inv X pins G H s):∀{v:V} {d:PyData} {u:Value},Rep X.K H v d->RelV v u->∃as,Reads s.heap u d as
 |_,_,_,.non,r=>by cases r;exact⟨_,.none⟩
 |_,_,_,.bl b,r=>by cases r;exact⟨_,.bool b⟩
 |_,_,_,.int i,r=>by obtain⟨t,rfl⟩:=r;exact⟨_,.int i t⟩
 |_,_,_,.str x,r=>by obtain⟨t,rfl⟩:=r;exact⟨_,.str x t⟩
 |_,_,_,.tup q rs,r=>by
  cases r;obtain⟨its,rv,⟨o,e,c,n,hd⟩,_⟩:=I.tuple q;obtain⟨as,ra⟩:=pd.reads I rs rv;exact⟨_,.tuple e c hd (by simpa using ra)⟩
 |_,_,_,.lst q rs,r=>by
  cases r;obtain⟨its,rv,pl,_⟩:=I.list q;obtain⟨o,e,c,n,hd⟩:=pl.isList;obtain⟨as,ra⟩:=pd.reads I rs rv;exact⟨_,.list e c hd (by simpa using ra)⟩
theorem pd.reads(I:Inv X pins G H s):∀{vs:List V} {ds:List PyData} {us:List Value},pd X.K H vs ds->Vals vs us->∃as,ReadsAll s.heap us ds as
 |_,_,_,.nil,r=>by cases r;exact⟨_,.nil⟩
 |_,_,_,.cons h t,r=>by
  cases r with
  |cons r1 r2 =>
   obtain⟨as,h1⟩:=Rep.reads I h r1;obtain⟨bs,h2⟩:=pd.reads I t r2;exact⟨_,.cons h1 h2⟩
end
abbrev zW(K:Zfr)(neg:Bool):R2:=λx y H Q=>∃d e,Rep K H x d/\Rep K H y e/\PyData.canLay0 d=true/\PyData.canLay0 e=true/\min d.depth e.depth<=60/\Q (.bl (if neg then !PyData.eqv d e else PyData.eqv d e)) H
def zX(hu:X.A.units+64<cLine):mP X (compareOp .Eq) (zW X.K false):=by intro pins s G H x y v u Q I rx ry h;obtain⟨d,e,hd,he,c1,c2,dp,q⟩:=h;obtain⟨as,ra⟩:=hd.reads I rx;obtain⟨bs,rb⟩:=he.reads I ry;exact SeqAt.eqOverData X.prog X.w X.A X.xe s v u d e as bs _ ra rb c1 c2 ⋯ ⟨.bl _,H,I,rfl,q⟩
def MN(hu:X.A.units+64<cLine):mP X (compareOp .NotEq) (zW X.K true):=by intro pins s G H x y v u Q I rx ry h;obtain⟨d,e,hd,he,c1,c2,dp,q⟩:=h;obtain⟨as,ra⟩:=hd.reads I rx;obtain⟨bs,rb⟩:=he.reads I ry;exact SeqAt.neOverData X.prog X.w X.A X.xe s v u d e as bs _ ra rb c1 c2 ⋯ ⟨.bl _,H,I,rfl,q⟩
end
section
variable {K:Zfr}{H:Hp}
abbrev kS(ns:List Int):List PyData:=ns.map PyData.int
def MO:∀(ns:List Int),PyData.canLayAll0 (kS ns)=true
 |[]=>rfl
 |n :: r=>by show(true && PyData.canLayAll0 (kS r))=true;rw[MO r];rfl
def QJ:∀(ns:List Int),PyData.depthAll (kS ns)=0
 |[]=>rfl
 |n :: r=>by show max 0 (PyData.depthAll (kS r))=0;rw[QJ r];rfl
def MP:∀(ns ms:List Int),PyData.eqvAll (kS ns) (kS ms)=decide (ns=ms)
 |[],[]=>rfl
 |[],_ :: _=>rfl
 |_ :: _,[]=>rfl
 |n :: ns,m :: ms=>by
  show((n == m) && PyData.eqvAll (kS ns) (kS ms))=decide (n :: ns=m :: ms);rw[MP ns ms];by_cases h:n=m;subst h;simp;simp[h]
end
end L2
namespace L2
open PySem PySem.Spec PyProof.Rows
structure Def(K:Zfr)(mg:Str->Option Value)(x:Str)(st:Stmt)(ps:List Str)(f:Addr)(fd:FuncData):Prop where
 F:JK K x x st f fd
 be:∀us:List Value,us.length=ps.length->bindArgs fd ⟨us,[]⟩=pure (ps.zip us)
 m:mg x=some (.ref f)
def Def.b{K:Zfr}{mg:Str->Option Value}{x:Str}{st:Stmt}{ps:List Str}{f:Addr}{fd:FuncData}(D:Def K mg x st ps f fd):Binds K fd ps []:=.all D.be
def fq{K:Zfr}{h:Heap}{mg:Str->Option Value}(X:K.In h)(G:h.Ns mainGlobals mg){x:Str}{st:Stmt}{ps:List Str}{f:Addr}{oc:Value}{od an:Option Addr}{osl:Array (Option Value)}{kV doc pm cdv ct:Value}
  (hb:∀(kV doc pm:Value) (an:Option Addr) (cdv ct:Value) (us:List Value),us.length=ps.length->bindArgs (PySem.W.fnOf x x (nD st) (lT st) (aj st) .none kV doc pm an cdv ct) ⟨us,[]⟩=pure (ps.zip us))
  (a:PySem.W.nsIn K mainGlobals x=some (some (.ref f))) (l:K.lookup f=some ⟨oc,od,.func (PySem.W.fnOf x x (nD st) (lT st) (aj st) .none kV doc pm an cdv ct),osl⟩)
  (c:PySem.W.codeIn K cdv x=true) (k:PySem.W.keepIn K (.ref f)=true):∃f fd,Def K mg x st ps f fd :=
 ⟨f,_,zQ l c k,hb kV doc pm an cdv ct,PySem.W.mg_of X G a⟩
def Def.wI{K:Zfr}{mg:Str->Option Value}{x p:Str}{st:Stmt}{f:Addr}{fd:FuncData}(D:Def K mg x st [p] f fd)(s:Shared)(u:Value):BindsTo s fd ⟨[u],[]⟩ [(p,u)]:=.of_eq (D.be [u] rfl)
def vQ{K:Zfr}{h:Heap}{mg:Str->Option Value}(X:K.In h)(G:h.Ns mainGlobals mg){x:Str}(z:PySem.W.nsIn K mainGlobals x=some none):mg x=none:=PySem.W.mg_none_of X G z
def ye{n j:Nat}(h:j<n):lS n (j:Int)=some j:=by unfold lS;rw[if_pos ⋯,if_pos ⋯];simp
def zY{J:Type}{xs:List J}{i:Int}(h0:0<=i)(h1:i<xs.length):∃v,gT xs i=some v/\v∈xs:=by
 have hi:i.toNat<xs.length:=by lk
 refine⟨xs[i.toNat],?_,Zb0 hi⟩;have:=Ea (xs:=xs) (j:=i.toNat) (v:=xs[i.toNat]) (by simp[hi])
 rwa [Zat h0]at this
def dT{c:Prop}[Decidable c](h:decide c=true):c:=of_decide_eq_true h
def Ep:∀(names:List (Str×NameKind)) (n:Nat) (acc:List (Str×Addr)),cellsFrom n names acc=cellsFrom n names [] ++ acc
 |[],_,_=>rfl
 |(x,k) :: r,n,acc=>by
  show(if k == .cell then cellsFrom (n+1) r ((x,n) :: acc)else cellsFrom n r acc)=(if k == .cell then cellsFrom (n+1) r [(x,n)]else cellsFrom n r []) ++ acc;by_cases hk:(k == NameKind.cell)=true;rw[if_pos hk,if_pos hk,Ep r (n+1) ((x,n) :: acc),Ep r (n+1) [(x,n)],Zbt];rfl;rw[if_neg hk,if_neg hk];exact Ep r n acc
def MQ{x:Str}{c:Addr}:∀(names:List (Str×NameKind)) (n:Nat),(x,c)∈cellsFrom n names []->(x,NameKind.cell)∈names/\n<=c
 |[],_,h=>nomatch h
 |(y,k) :: r,n,h=>by
  have h':(x,c)∈(if k == .cell then cellsFrom (n+1) r [(y,n)]else cellsFrom n r []):=h;by_cases hk:(k == NameKind.cell)=true;rw[if_pos hk,Ep]at h';rcases ZaE.mp h' with h'|h'
  obtain⟨h1,h2⟩:=MQ r (n+1) h';exact⟨Zah _ h1,by lk⟩;have e:(x,c)=(y,n):=by simpa using h'
  cases e;have e2:k=NameKind.cell:=by simpa using hk
  subst e2;exact⟨Zaf,Zab _⟩;rw[if_neg hk]at h';obtain⟨h1,h2⟩:=MQ r n h';exact⟨Zah _ h1,h2⟩
def MR{env:Env}(f:Str×NameKind->List (Str×Addr)->Sem (ForInStep (List (Str×Addr))))
  (hf:∀name kind cs,f (name,kind) cs=if kind == .free then(do let c <- cellOf env name;pure (.yield ((name,c) :: cs)))else pure (.yield cs)) :
  ∀(names:List (Str×NameKind)) (acc:List (Str×Addr)),(∀y∈names,y.2=NameKind.free->∃c,env.cells.lookup y.1=some c) ->
   ∃cl,(forIn names acc f:Sem (List (Str×Addr)))=pure cl/\(∀n c,(n,c)∈cl->(n,c)∈acc\/(env.cells.lookup n=some c/\(n,NameKind.free)∈names))/\(∀p∈acc,p∈cl)/\∀n,(n,NameKind.free)∈names->∃c,(n,c)∈cl
 |[],acc,_=>⟨acc,by rw[ZcI],λn c h=>.inl h,λp h=>h,λn h=>nomatch h⟩
 |(x,k) :: r,acc,h=>by
  have hr:∀y∈r,y.2=NameKind.free->∃c,env.cells.lookup y.1=some c:=λy hy=>h y (Zah _ hy);by_cases hk:k=NameKind.free;subst hk;obtain⟨c,hc⟩:=h (x,.free) Zaf rfl;have e:cellOf env x=pure c:=by unfold cellOf;rw[hc]
  obtain⟨cl,e1,h1,h2,h3⟩:=MR f hf r ((x,c) :: acc) hr;refine⟨cl,?_,λn d hd=>?_,λp hp=>h2 p (Zah _ hp),λn hn=>?_⟩;rw[Zcy,hf,if_pos (by rfl),e];exact e1;rcases h1 n d hd with q|⟨q,q'⟩
  rcases Zar.mp q with q|q
  cases q;exact .inr ⟨hc,Zaf⟩;exact .inl q;exact .inr ⟨q,Zah _ q'⟩;rcases Zar.mp hn with q|q
  cases q;exact⟨c,h2 _ Zaf⟩;exact h3 n q;obtain⟨cl,e1,h1,h2,h3⟩:=MR f hf r acc hr;have hb:¬((k == NameKind.free)=true):=by simpa using hk
  refine⟨cl,?_,λn d hd=>?_,h2,λn hn=>?_⟩;rw[Zcy,hf,if_neg hb];exact e1;rcases h1 n d hd with q|⟨q,q'⟩
  exact .inl q;exact .inr ⟨q,Zah _ q'⟩;rcases Zar.mp hn with q|q
  cases q;exact absurd rfl hk;exact h3 n q
def QK{scope:Scope}{env:Env}(h:∀y∈scope.names,y.2=NameKind.free->∃c,env.cells.lookup y.1=some c):
  ∃cl,closureFor scope env=pure cl/\(∀n c,(n,c)∈cl->env.cells.lookup n=some c/\(n,NameKind.free)∈scope.names)/\∀n,(n,NameKind.free)∈scope.names->∃c,(n,c)∈cl:=by
 have key:∀ (f:Str×NameKind->List (Str×Addr)->Sem (ForInStep (List (Str×Addr)))),(∀ name kind cs,f (name,kind) cs=if kind == .free then(do let c <- cellOf env name;pure (.yield ((name,c) :: cs)))else pure (.yield cs)) ->
   ∃cl,((forIn scope.names [] f:Sem (List (Str×Addr))) >>= λr=>pure r)=pure cl/\(∀n c,(n,c)∈cl->env.cells.lookup n=some c/\(n,NameKind.free)∈scope.names)/\∀n,(n,NameKind.free)∈scope.names->∃c,(n,c)∈cl:=λf hf=>by
  obtain⟨cl,e,h1,_,h3⟩:=MR f hf scope.names [] h;refine⟨cl,?_,λn c hc=>(h1 n c hc).elim (λz=>nomatch z) id,h3⟩;rw[e];rfl
 simp only[closureFor];exact key _ λname kind cs=>by cases hk:kind == NameKind.free<;>simp[hk]
def ltN{a b:Addr}(h:a<b):@LT.lt Nat _ a b:=h
def zq{a b:Addr}(h:@LT.lt Nat _ a b):a≠b:=ZaX h
def QL{a b:Addr}(h:@LT.lt Nat _ b a):a≠b:=Nat.ne_of_gt h
def Wo{M:Model}{A:Around}{E:Value->Shared->Prop}{s:Shared}{scope:Scope}{g:Addr}{cl:List (Str×Addr)}{q:Str}{env:Env}{Q:Env->Shared->Prop}
  (h:∀h',h'.Ns s.heap.objs.size (λ_=>none)->(∀b o,s.heap.get? b=some o->h'.get? b=some o)->CellsOk h' (s.heap.objs.size+1) (cellsFrom (s.heap.objs.size+1) scope.names []) ->
   Q { scope:=scope,locals:=s.heap.objs.size,globals:=g,cells:=cellsFrom (s.heap.objs.size+1) scope.names cl,qual:=q,func:=none,code:=env.code,frame:=env.frame,builtins:=env.builtins } { s with heap:=h' }) :
  wpAny M A (newFunctionEnv scope g cl [] q none .none (some env)) Q E s:=by
 simp only[newFunctionEnv,Option.isSome_some,if_true];refine wpAny_bind (wpAny_alloc ?_);refine wpAny_bind (wpAny_layCells _ (λname kind cells=>by cases hkc:kind == NameKind.cell<;>simp[hkc]) _ _ _ _ ?_);have ok:=cellsFrom_ok scope.names (s.heap.push { cls:=.type "dict",data:=.dict #[] }) (s.heap.objs.size+1) [] ⟨λ_ _ hm=>(nomatch hm),List.Pairwise.nil⟩ (by rw[Zba];exact Zab _);rw[Zba]at ok;rw[show({ s with heap:=s.heap.push { cls:=.type "dict",data:=.dict #[] } }:Shared).heap.objs.size=s.heap.objs.size+1 from Zba ..];refine wpAny_bind ?_;rw[ZcI];refine wpAny_pure (wpAny_pure ?_);exact h _ ((Heap.Ns.new s.heap (.type "dict")).keeps (pushCells_keeps _ _)) (λb o e=>pushCells_keeps _ _ b o (Zac _ e)) ok
abbrev aX(X:Cx)(N:List Str)(scope:Scope)(cells:List (Str×Addr))(C:Addr)(fp:List Addr)(s:Shared)(H:Hp):Cx where
 prog:=X.prog
 w:=X.w
 K:=X.K
 mg:=X.mg
 base:=X.base
 A:=X.A
 N:=N
 s₀:=s
 H₀:=H
 env:=compEnvC scope cells C X.env
 outer:=X.stack
 stack:=X.stack
 ex:=fp
 fn:=λx=>decide (scope.names.lookup x=some .cell)
 calm:=X.calm
 pn:=[]
 xe:=λ_ _=>False
structure Er(sc scope:Scope)(own fr:List Str):Prop where
 kind:scope.kind=.function
 nd:(own ++ fr).Nodup
 Cw:(scope.names.map (·.1)).Nodup
 free:∀y∈scope.names,y.2=.free->sc.names.lookup y.1=some .cell\/sc.names.lookup y.1=some .free
 MS:∀x∈fr,scope.names.lookup x=some .free
structure iE(X:Cx)(scope:Scope)(own fr:List Str)(js:List Nat):Prop where
 c:Er X.env.scope scope own fr
 ix:js.map (λj=>X.N[j]?)=fr.map some
def iE.kind{X:Cx}{scope:Scope}{own fr:List Str}{js:List Nat}(S:iE X scope own fr js):scope.kind=.function:=S.c.kind
def iE.Cw{X:Cx}{scope:Scope}{own fr:List Str}{js:List Nat}(S:iE X scope own fr js):(scope.names.map (·.1)).Nodup:=S.c.Cw
def iE.MS{X:Cx}{scope:Scope}{own fr:List Str}{js:List Nat}(S:iE X scope own fr js):∀x∈fr,scope.names.lookup x=some .free:=S.c.MS
def iE.free{X:Cx}{scope:Scope}{own fr:List Str}{js:List Nat}(S:iE X scope own fr js):∀y∈scope.names,y.2=.free->X.env.kindOf y.1=some .cell\/X.env.kindOf y.1=some .free:=S.c.free
def Es{J:Type}:∀{l:List (Str×J)} {n:Str} {c:J},(l.map (·.1)).Nodup->(n,c)∈l->l.lookup n=some c
 |(k,v) :: r,n,c,nd,h=>by
  obtain⟨h1,h2⟩:=Zbp.mp nd;rw[ZbC];rcases Zar.mp h with e|h
  cases e;simp
  have:(n == k)=false:=beq_eq_false_iff_ne.mpr λe=>h1 (by rw[<- e];exact ZaP.mpr ⟨(n,c),h,rfl⟩)
  rw[this];exact Es h2 h
def QM(scope:Scope)(env:Env)(x:Str):(relabel scope env).names.lookup x=none/\scope.names.lookup x=none \/
  ∃k,scope.names.lookup x=some k/\(relabel scope env).names.lookup x=some (if(k == .free && env.scope.kind == .function && env.kindOf x == some .cell)then .cell else k):=by
 have key:∀ names:List (Str×NameKind),(names.map λ(n,k)=>if(k == NameKind.free && env.scope.kind == .function && env.kindOf n == some .cell)then(n,NameKind.cell)else(n,k)).lookup x=none/\names.lookup x=none \/
   ∃k,names.lookup x=some k/\(names.map λ(n,k)=>if(k == NameKind.free && env.scope.kind == .function && env.kindOf n == some .cell)then(n,NameKind.cell)else(n,k)).lookup x=some (if(k == .free && env.scope.kind == .function && env.kindOf x == some .cell)then .cell else k):=by
  intro names
  induction names with
  |nil=>exact .inl ⟨rfl,rfl⟩
  |cons p r ih =>
   obtain⟨n,k⟩:=p;rw[Zav];cases hx:x == n with
   |true =>
    have e:x=n:=by simpa using hx
    subst e;refine .inr ⟨k,by simp[ZbC],?_⟩;by_cases hc:(k == NameKind.free && env.scope.kind == .function && env.kindOf x == some .cell)=true;simp only[if_pos hc];simp[ZbC];simp only[if_neg hc];simp[ZbC]
   |false =>
    have e1:∀q:NameKind,(((n,q) :: (r.map λ(n,k)=>if(k == NameKind.free && env.scope.kind == .function && env.kindOf n == some .cell)then(n,NameKind.cell)else(n,k))).lookup x)=((r.map λ(n,k)=>if(k == NameKind.free && env.scope.kind == .function && env.kindOf n == some .cell)then(n,NameKind.cell)else(n,k)).lookup x):=λq=>by rw[ZbC,hx]
    have e2:((n,k) :: r).lookup x=r.lookup x:=by rw[ZbC,hx]
    rw[e2];by_cases hc:(k == NameKind.free && env.scope.kind == .function && env.kindOf n == some .cell)=true;simp only[if_pos hc];rw[e1];exact ih;simp only[if_neg hc];rw[e1];exact ih
 exact key scope.names
abbrev lz(n:Nat)(js:List Nat)(G:St):St:=List.replicate n none ++ js.map λj=>G.getD j none
def Inv.Et{X:Cx}{pins:List (Addr×Obj)}{G:St}{H:Hp}{s:Shared}{a:Addr}{o:HO}(I:Inv X pins G H s)(f:iC X pins H a)(new:dy X.prog X.w (upd H a o) s.heap a o):Inv X pins G (upd H a o) s:=by
 obtain⟨f0,f1,f2,f3,f4,f5⟩:=f;have ne:∀b u,H b=some u->b≠a:=λb u e z=>by rw[z,f0]at e;cases e
 refine I.step (h':=s.heap) (H':=upd H a o) (g':=s.gens) (d':=s.drawn) (t':=s.toks) (ch:=[a]) (λb hb=>?_) (λb u _ _ _ e _=>e) (λb u _ _ _ e _=>⟨u.slots,e⟩) (λb u hb e n=>?_) (λb u _ e=>⟨u,e⟩)
  (λb xs e=>by rw[lR (ne b _ e)];exact e) (λb u xs e=>by rw[lR (ne b _ e)];exact e) (λb ps e=>⟨#[],by rw[lR (ne b _ e),e];simp⟩) (λm hm=>hm) (λb u e=>?_) I.bare
 have e:b=a:=by simpa using hb
 subst e;exact⟨f3,f1,f4,f5⟩;rw[lR (λz=>hb (by simp[z]))];exact n;by_cases hb:b=a;subst hb;rw[rY]at e;cases e;exact new;rw[lR hb]at e;exact(I.hok b u e).stay (λc v _ q=>q) (λc q=>by rw[lR (ne c _ q)];exact q) λc xs q=>by rw[lR (ne c _ q)];exact q
abbrev PF(X:Cx)(ifs:List Expr)(t:TT):Prop :=
 ∀(pins:List (Addr×Obj)) (s:Shared) (G:St) (H:Hp) (Q:Bool->Hp->Prop),Inv X pins G H s->t G H Q ->
  wpAny (model X.prog X.w) X.A (forIn ifs true λc r=>if r=true then do let ok <- isTrue c X.env (eval c X.env);pure (ForInStep.yield ok)else pure (ForInStep.yield r)) (TP X pins G Q) X.xe s
def uo{X:Cx}:PF X [] (λ_ H Q=>Q true H):=λ_ _ _ H _ I h=>wpAny_tests_nil ⟨H,I,h⟩
def QN{X:Cx}{c:Expr}{t:TT}(h:PT X c t):PF X [c] t:=λpins s G H Q I hw=>wpAny_tests_one (h pins s G H Q I hw)
def Wq{prog:Program}{w:World}{A:Around}{R:Result->Shared->Prop}{s:Shared}{elt target iter:Expr}{ifs:List Expr}{scope:Scope}{pos:Pos}{it acc:Value}{env:Env}(I:Nat->Shared->Prop)
  (turn:∀n s,I n s->wpAny (model prog w) A (pyNext it) (λr s₁=>match r with
   |none=>R (.ok .next) s₁
   | some v=>wpAny (model prog w) A (letOwnedTupleGo target it v) (λ_ s₁'=>wpAny (model prog w) A (assign target env v) (λ_ s₂ =>
     wpAny (model prog w) A (forIn ifs true λc r=>if r=true then do let ok <- isTrue c env (eval c env);pure (ForInStep.yield ok)else pure (ForInStep.yield r)) (λok s₃ =>
      if ok=true then wpAny (model prog w) A (eval elt env) (λx s₄ =>
       wpAny (model prog w) A (call (.builtin "list.append") [acc,x]) (λ_ s₅=>∃m,m<n/\I m s₅) (λ_ _=>False) s₄) (λ_ _=>False) s₃
      else∃m,m<n/\I m s₃) (λ_ _=>False) s₂) (λ_ _=>False) s₁') (λ_ _=>False) s₁) (λ_ _=>False) s)
  (n:Nat) (h:I n s) :
  codeAny (model prog w) A (.compLoop (.ListComp elt [⟨target,iter,ifs,0⟩] scope pos) 0 it acc env) R s:=by
 refine codeAny_loop rfl I (λn s hI=>?_) n h;show wpAny _ A ((compTurn (.ListComp elt [⟨target,iter,ifs,0⟩] scope pos) 0 it acc env).onRaise (λx=>do noteFrame x env;theTreesLotGoes x)) _ _ s;refine wpAny_noted ?_;rw[compTurn_list];refine wpAny_bind (wpAny_standAt (wpAny_bind (wpAny_mono (turn n s hI) (λr s₁ h₁=>?_) λ_ _ h'=>h'.elim)));cases r with
 |none=>exact wpAny_pure h₁
 |some v =>
  refine wpAny_bind (wpAny_mono h₁ (λ_ s₁' h₁'=>?_) λ_ _ h'=>h'.elim);refine wpAny_bind (wpAny_mono h₁' (λ_ s₂ h₂=>wpAny_bind (wpAny_mono h₂ (λok s₃ h₃=>?_) λ_ _ h'=>h'.elim)) λ_ _ h'=>h'.elim);cases ok with
  |false=>exact wpAny_pure ⟨rfl,h₃⟩
  |true =>
   exact wpAny_bind (wpAny_bind (wpAny_mono h₃ (λx s₄ h₄=>wpAny_bind (wpAny_mono h₄ (λ_ s₅ h₅=>wpAny_pure (wpAny_pure ⟨rfl,h₅⟩)) λ_ _ h'=>h'.elim)) λ_ _ h'=>h'.elim))
abbrev zZ(J:It)(n:Nat)(js:List Nat)(g:TG)(tc:TT)(te:TE)(G:St)(H1:Hp)(Q:VK):Prop :=
 ∃W:Nat->Nat->List V->St->Hp->Prop,(∃m,W 0 m [] (lz n js G) H1)/\∀i m ys G' H',W i m ys G' H' ->
  ys.length<sizeLine/\((J.stop i H'/\∀p,H' p=none->Q (.ref p) (upd H' p (.lst ys))) \/
   (J.go i H'/\∀x H2,J.wm i H' x H2->g x G' H2 λG2 H3=>tc G2 H3 λb H4=>if b=true then te G2 H4 λy H5=>∃m',m' < m/\W (i+1) m' (ys ++ [y]) G2 H5 else∃m',m' < m/\W (i+1) m' ys G2 H4))
abbrev sT(wi:TI)(n:Nat)(js:List Nat)(g:TG)(tc:TT)(te:TE):TE:=λG H Q=>wi G H λJ H1=>zZ J n js g tc te G H1 Q
section
variable {X:Cx}{pins:List (Addr×Obj)}{G:St}{tg iter elt:Expr}{ifs:List Expr}{scope:Scope}{pos:Pos}{own fr:List Str}{js:List Nat}{g:TG}{tc:TT}{te:TE}{wi:TI}
def QO{H2:Hp}{s2:Shared}{it:Addr}{fp:List Addr}{tn:Nat->Heap->Prop}{J:It}{Q:VK}{E:Value->Shared->Prop}{cl:List (Str×Addr)}{RR:Value->Addr->Result->Shared->Prop}
  (hc:X.calm=true) (S:iE X scope own fr js) (hg:∀cells C fp s H,PG (aX X (own ++ fr) scope cells C fp s H) tg g) (hf:∀cells C fp s H,PF (aX X (own ++ fr) scope cells C fp s H) ifs tc) (he:∀cells C fp s H,PE (aX X (own ++ fr) scope cells C fp s H) elt te)
  (I2:Inv X pins G H2 s2) (T:Turn X.prog X.w X.K tg J fp it tn) (st2:tn 0 s2.heap) (f2:∀b∈fp,iC X pins H2 b)
  (si:∀n c,(n,c)∈cl->X.env.cells.lookup n=some c/\(n,NameKind.free)∈scope.names) (uU:∀n,(n,NameKind.free)∈scope.names->∃c,(n,c)∈cl)
  (W:Nat->Nat->List V->St->Hp->Prop) (m0:Nat) (w0:W 0 m0 [] (lz own.length js G) H2)
  (turn:∀i m ys G' H',W i m ys G' H'->ys.length<sizeLine/\((J.stop i H'/\∀p,H' p=none->Q (.ref p) (upd H' p (.lst ys))) \/
   (J.go i H'/\∀x H2,J.wm i H' x H2->g x G' H2 λG2 H3=>tc G2 H3 λb H4=>if b=true then te G2 H4 λy H5=>∃m',m' < m/\W (i+1) m' (ys ++ [y]) G2 H5 else∃m',m' < m/\W (i+1) m' ys G2 H4)))
  (fin:∀(acc C:Addr) (H':Hp) (s':Shared) (v:V),v=.ref acc->Inv X pins G H' s'->iC X pins H' C->(∃m,s'.heap.Ns C m)->Q v H'->RR (.ref acc) C (.ok .next) s') :
  wpAny (model X.prog X.w) X.A (newList []) (λacc s3=>wpAny (model X.prog X.w) X.A (newFunctionEnv scope X.env.globals cl [] X.env.qual none .none (some X.env)) (λcenv s4 =>
   codeAny (model X.prog X.w) X.A (.compStart (.ListComp elt [⟨tg,iter,ifs,0⟩] scope pos) 0 (.ref it) acc { cenv with scope:=relabel scope X.env }) (RR acc cenv.locals) s4) E s3) E s2:=by
 refine wpAny_newObj_type ?_;refine Wo λh4 hns QP qu=>?_;have hA:s2.heap.objs.size<(s2.heap.push { cls:=.type "list",data:=.seq ([]:List Value).toArray }).objs.size:=by rw[Zba];exact ZbD _
 generalize hC:(s2.heap.push { cls:=.type "list",data:=.seq ([]:List Value).toArray }).objs.size=C at hns qu hA ⊢;generalize hac:s2.heap.objs.size=acc at hA ⊢;have MT:acc≠C:=ZaX hA;have old:∀b o,s2.heap.get? b=some o->h4.get? b=some o:=λb o e=>QP b o (Zac _ e);have hacc:h4.get? acc=some { cls:=.type "list",data:=.seq ([]:List Value).toArray }:=QP _ _ (by rw[<- hac];exact Zan _ rfl);have MU:∀x c,(x,c)∈cellsFrom (C+1) scope.names []->h4.IsCell c none/\C+1<=c/\scope.names.lookup x=some .cell:=λx c h=>⟨(qu.empty x c h).1,(qu.empty x c h).2,Es S.Cw (MQ _ _ h).1⟩;have lk:∀x c,(cellsFrom (C+1) scope.names cl).lookup x=some c->(h4.IsCell c none/\C+1<=c/\(x,c)∈cellsFrom (C+1) scope.names [])\/(X.env.cells.lookup x=some c/\scope.names.lookup x=some .free):=λx c h=>by
  rw[Ep]at h;rcases ZaE.mp (PySem.mem_of_lookup h)with q|q
  exact .inl ⟨(MU x c q).1,(MU x c q).2.1,q⟩;exact .inr ⟨(si x c q).1,Es S.Cw (si x c q).2⟩
 have MV:∀x c,X.env.cells.lookup x=some c->c<s2.heap.objs.size:=λx c h=>by
  obtain⟨v,z⟩:=I2.cell x c h;exact z.lt
 have sU:∀x c,(cellsFrom (C+1) scope.names cl).lookup x=some c->c≠C/\c≠acc/\H2 c=none/\∀b∈fp,c≠b:=λx c h=>by
  rcases lk x c h with⟨_,h1,_⟩|⟨h1,_⟩
  refine⟨QL ⋯,QL ⋯,I2.hok.fresh ⋯,λb hb z=>?_⟩;obtain⟨o,e,_⟩:=T.obj 0 _ st2 b hb;have:=ltN (Zaq e);rw[<- z]at this;lk
  have:=ltN (MV x c h1)
  exact⟨zq ⋯,zq ⋯,I2.mF x c h1,λb hb=>(f2 b hb).2.2.2.2.1 x c h1⟩
 have Eu:∀x,scope.names.lookup x=some .free->∃c,X.env.cells.lookup x=some c/\(cellsFrom (C+1) scope.names cl).lookup x=some c:=λx h=>by
  obtain⟨c,jX⟩:=uU x (PySem.mem_of_lookup h);have hc1:=(si x c jX).1;have hs:((cellsFrom (C+1) scope.names cl).lookup x).isSome=true:=by
   refine PySem.W.cellsFrom_some scope.names (C+1) cl (.inr ?_);cases q:cl.lookup x with
   |some d=>rfl
   |none =>
    exfalso;have:∀{l:List (Str×Addr)},(x,c)∈l->l.lookup x≠none:=by
     intro l
     induction l with
     |nil=>intro h;exact nomatch h
     |cons p r ih =>
      intro h z;obtain⟨k,v⟩:=p;rw[ZbC]at z;cases hb:x == k with
      |true=>rw[hb]at z;cases z
      |false =>
       rw[hb]at z;rcases Zar.mp h with e|h
       cases e;simp at hb;exact ih h z
    exact this jX q
  obtain⟨d,hd⟩:=Zbe.mp hs;rcases lk x d hd with⟨_,_,h2⟩|⟨h1,_⟩
  have:=(MU x d h2).2.2
  rw[h]at this;cases this;rw[hc1]at h1;cases h1;exact⟨c,hc1,hd⟩
 have JL:∀b∈fp,b≠C/\b≠acc:=λb hb=>by
  obtain⟨o,e,_⟩:=T.obj 0 _ st2 b hb;have:=ltN (Zaq e);exact⟨zq ⋯,zq ⋯⟩
 have Wr:(relabel scope X.env).kind=.function:=S.kind;have ok:(aX X (own ++ fr) scope (cellsFrom (C+1) scope.names cl) C fp s2 H2).Ok:=by
  refine⟨I2.ok.mod,Wr,I2.ok.glob,I2.ok.blt,?_,λx y c h1 h2=>?_,λx hx=>?_,λx c hx h=>?_,I2.ok.hd,I2.ok.frames,.inl rfl,λb hb=>⟨(JL b hb).1,λx c h=>(sU x c h).2.2.2 b hb⟩,I2.bs,Zaw I2.ok.vK I2.sz,λb o e hb=>?_,λb hb z=>?_,I2.stack,I2.sJ⟩;show s2.heap.objs.size<=C;lk;rcases lk x c h1 with⟨_,q1,q2⟩|⟨q1,_⟩
  rcases lk y c h2 with⟨_,r1,r2⟩|⟨r1,_⟩
  exact name_of_addr qu.apart q2 r2
  have:=ltN (MV y c r1);lk
  rcases lk y c h2 with⟨_,r1,r2⟩|⟨r1,_⟩
  have:=ltN (MV x c q1);lk
  exact I2.ok.inj x y c q1 r1;have hx':(relabel scope X.env).names.lookup x=some .cell\/(relabel scope X.env).names.lookup x=some .free:=hx;rcases QM scope X.env x with⟨e,_⟩|⟨k,e1,e2⟩
  rcases hx' with z|z<;>(rw[e]at z;cases z)
  by_cases hk:k=.free;subst hk;obtain⟨c,_,h⟩:=Eu x e1;exact⟨c,h⟩;have hk':k=.cell:=by
   have hb:(k == NameKind.free)=false:=beq_eq_false_iff_ne.mpr hk;rw[hb]at e2;simp only[Bool.false_and,ZbR,if_false]at e2;rcases hx' with z|z
   rw[e2]at z;exact Zai z;rw[e2]at z;exact absurd (Zai z) hk
  subst hk';exact Zbe.mp (PySem.W.cellsFrom_some scope.names (C+1) cl (.inl e1));have hx':scope.names.lookup x=some .cell:=of_decide_eq_true hx;show s2.heap.objs.size<=c;rcases lk x c h with⟨_,q,_⟩|⟨_,q⟩
  lk;rw[hx']at q;cases q;rcases(f2 b hb).2.2.2.1 with z|z
  exact I2.ok.rZ b o e z;have h1:@LT.lt Nat _ b X.base.objs.size:=Zaq e;have h2:=I2.ok.vK;lk;rcases Zar.mp (I2.o6 b z)with e|e
  exact(f2 b hb).2.1 e;exact(f2 b hb).2.2.1 e
 have I4:Inv (aX X (own ++ fr) scope (cellsFrom (C+1) scope.names cl) C fp s2 H2) [(acc,{ cls:=.type "list",data:=.seq ([]:List Value).toArray })] (lz own.length js G) H2 { s2 with heap:=h4 }:=by
  refine⟨ok,rfl,I2.bare,Un.kept old,⟨_,hns,λi x v e1 e2 e3=>?_⟩,λx c h=>?_,I2.hok.fresh (by show s2.heap.objs.size<=C;lk),λx c h=>(sU x c h).2.2.1,λp hp=>?_,I2.hok.kept old,?_⟩;have JM:(own ++ fr)[i]?=some x:=e1;unfold lz at e2;by_cases hi:i<own.length;rw[ZaH (by simpa using hi),Zbg]at e2;split at e2<;>cases e2;rw[ZaB (by simpa using hi),ZaG,Zaj]at e2;rw[ZaB ⋯]at JM;cases hj:js[i-own.length]? with
  |none=>rw[hj]at e2;cases e2
  |some j =>
   rw[hj]at e2;have Ew:G.getD j none=some v:=Zai e2;have hN:X.N[j]?=some x:=by
    have q:=congrArg (λl=>l[i-own.length]?) S.ix;simp only[Zaj,hj,JM,Option.map_some]at q;exact Zai q
   have hσ:G[j]?=some (some v):=by
    rw[Zau]at Ew;cases q:G[j]? with
    |none=>rw[q]at Ew;cases Ew
    |some o=>rw[q]at Ew;exact congrArg some Ew
   have hfr:scope.names.lookup x=some .free:=S.MS x (Zas JM);have hk:=S.free _ (PySem.mem_of_lookup hfr) rfl;obtain⟨m,_,hl⟩:=I2.loc;obtain⟨u,ru,lo⟩:=hl j x v hN hσ (by rcases hk with k|k;exact .inr (.inl k);exact .inr (.inr k));refine⟨u,ru,.inr ⟨?_,?_⟩⟩;rcases QM scope X.env x with⟨_,e⟩|⟨k,q1,q2⟩
   rw[hfr]at e;cases e;rw[hfr]at q1;cases q1;have Wt:(compEnvC scope (cellsFrom (C+1) scope.names cl) C X.env).kindOf x=some (if(NameKind.free == .free && X.env.scope.kind == .function && X.env.kindOf x == some .cell)=true then .cell else .free):=q2;rw[show(aX X (own ++ fr) scope (cellsFrom (C+1) scope.names cl) C fp s2 H2).env.kindOf x=_ from Wt];split;exact .inl rfl;exact .inr rfl;rcases lo with⟨k,_⟩|⟨_,c,hc1,hc2⟩
   rcases hk with k'|k'<;>(rw[k]at k';cases k')
   obtain⟨d,hd1,hd2⟩:=Eu x hfr;rw[hc1]at hd1;cases hd1;exact⟨c,hd2,hc2.keeps old⟩
  rcases lk x c h with⟨q,_,_⟩|⟨q,_⟩
  exact⟨_,q⟩;obtain⟨v,z⟩:=I2.cell x c q;exact⟨v,z.keeps old⟩;have e:p=(acc,{ cls:=.type "list",data:=.seq ([]:List Value).toArray }):=by simpa[aX]using hp
  subst e;refine⟨hacc,I2.hok.fresh ⋯,MT,λz=>?_,λv z=>nomatch z⟩;rcases Zar.mp (I2.o6 acc z)with e|e
  have:=ltN I2.lt
  rw[<- e]at this;lk;exact I2.DF ⋯ e;show(lz own.length js G).length=(own ++ fr).length;have q:=congrArg List.length S.ix;simp only[Zaa]at q;unfold lz;rw[Zak,ZaG,Zaa,Zak,q]
 have MW:∀{H':Hp} {ob:Obj},(∀b∈fp,H' b=none)->∀b∈fp,iC (aX X (own ++ fr) scope (cellsFrom (C+1) scope.names cl) C fp s2 H2) [(acc,ob)] H' b:=λ{H' ob} hn b hb =>
  ⟨hn b hb,(JL b hb).1,λz=>by
   rcases Zar.mp (I2.o6 b z)with e|e
   exact(f2 b hb).2.1 e;exact(f2 b hb).2.2.1 e,.inl hb,λx c h=>(sU x c h).2.2.2 b hb,λp hp=>by
   have e:p=(acc,ob):=by simpa[aX]using hp
   subst e
   exactλz=>(JL b hb).2 z.symm⟩
 have loop:codeAny (model X.prog X.w) X.A (.compLoop (.ListComp elt [⟨tg,iter,ifs,0⟩] scope pos) 0 (.ref it) (.ref acc) (compEnvC scope (cellsFrom (C+1) scope.names cl) C X.env)) (RR (.ref acc) C) { s2 with heap:=h4 }:=by
  refine Wq (λm s'=>∃(i:Nat) (ys:List V) (its:List Value) (n:Nat) (G':St) (H':Hp),Inv (aX X (own ++ fr) scope (cellsFrom (C+1) scope.names cl) C fp s2 H2) [(acc,{ cls:=.type "list",data:=.seq its.toArray n })] G' H' s'/\Vals ys its/\tn i s'.heap/\(∀b∈fp,H' b=none)/\W i m ys G' H') ?_ m0
   ⟨0,[],[],0,_,H2,I4,.nil,T.keep _ _ _ st2 λb _ o e=>old b o e,λb hb=>(f2 b hb).1,w0⟩
  rintro n s5 ⟨i,ys,its,en,G5,H5,I5,rv,mG,JD,w5⟩;obtain⟨hz,alt⟩:=turn i n ys G5 H5 w5;rcases alt with⟨stop,qn⟩|⟨go,step⟩
  refine cI (T.done (aX X (own ++ fr) scope (cellsFrom (C+1) scope.names cl) C fp s2 H2) rfl rfl rfl hc i _ s5 G5 H5 _ I5 (MW JD) mG stop) λr s6 ⟨hr,I6⟩=>?_;subst hr;show RR (.ref acc) C (.ok .next) s6;have u:Un (frs X.stack) fp H2 H5 s2.heap s6.heap:=I6.base;have J6:Inv X pins G H5 s6:=I2.DI I6.os u I6.hok I6.bare λb hb=>⟨(f2 b hb).2.2.2.1,(f2 b hb).2.1,(f2 b hb).2.2.2.2.1,(f2 b hb).2.2.2.2.2⟩;have pacc:=I6.pin (acc,_) (ZaN _ Zaf);have MX:iC X pins H5 acc:=I2.o8 ⋯ pacc.2.1;have fC:iC X pins H5 C:=I2.o8 ⋯ I6.free;have K6:Inv X pins G (upd H5 acc (.lst ys)) s6:=J6.Et MX ⟨Zcu hz,its,en,rv,pacc.1⟩;obtain⟨m,hm,_⟩:=I6.loc;exact fin acc C _ s6 (.ref acc) rfl K6 ⟨by rw[lR MT.symm];exact fC.1,fC.2⟩ ⟨m,hm⟩ (qn acc pacc.2.1);refine cI (T.item (aX X (own ++ fr) scope (cellsFrom (C+1) scope.names cl) C fp s2 H2) rfl rfl rfl hc i _ s5 G5 H5 _ I5 (MW JD) mG go) λr s6 ⟨u,hr,h6⟩=>?_;subst hr;refine cI h6 λ_ s7 ⟨x,H7,I7,r7,y7,wJ,Wu⟩=>?_;have Wv:=I7.pinned (MW Wu) (T.obj _ _ wJ);refine cI (hg _ _ _ _ _ _ s7 G5 H7 x u _ Wv r7 (step x H7 y7)) λ_ s8 ⟨G8,H8,I8,q8⟩=>?_;refine cI (hf _ _ _ _ _ _ s8 G8 H8 _ I8 q8) λb s9 ⟨H9,I9,q9⟩=>?_;have JN:∀{s':Shared} {G':St} {H':Hp},Inv (aX X (own ++ fr) scope (cellsFrom (C+1) scope.names cl) C fp s2 H2) ([(acc,{ cls:=.type "list",data:=.seq its.toArray en })] ++ o9 fp s7.heap) G' H' s'->tn (i+1) s'.heap/\∀b∈fp,H' b=none:=λ{s' G' H'} I' =>
   ⟨T.keep _ _ _ wJ λb hb o e=>(I'.pin (b,o) (ZaN _ (ZaN _ (JC hb e)))).1,λb hb=>by
    obtain⟨o,e,d⟩:=T.obj _ _ wJ b hb
    exact(I'.pin (b,o) (ZaN _ (ZaN _ (JC hb e)))).2.1⟩
  cases b with
  |false =>
   obtain⟨m',hm,w9⟩:=q9;exact⟨m',hm,i+1,ys,its,en,G8,H9,I9.nA,rv,(JN I9).1,(JN I9).2,w9⟩
  |true =>
   refine cI (he _ _ _ _ _ _ s9 G8 H9 _ I9 q9) λy Ey ⟨yv,MY,JO,Ww,m',hm,MZ⟩=>?_;have pacc:=JO.pin (acc,_) (ZaN _ (ZbL _ Zaf));have hlen:=rv.length;refine wpAny_list_append_plain (items:=its.toArray) ⟨en,pacc.1⟩ (λh11 ⟨QQ,M0⟩ Ez=>?_) (by simp only[Zap];lk);have cA:∀x c,(cellsFrom (C+1) scope.names cl).lookup x=some c->c≠acc:=λx c h=>(sU x c h).2.1;have Ia:Inv (aX X (own ++ fr) scope (cellsFrom (C+1) scope.names cl) C fp s2 H2) [] G8 MY Ey:=JO.oJ λp hp=>nomatch hp;have Ib:Inv (aX X (own ++ fr) scope (cellsFrom (C+1) scope.names cl) C fp s2 H2) [] G8 MY { Ey with heap:=h11 }:=Ia.turned (it:=acc) (t':=Ey.toks) (λb o hb e=>(Ez.2 b hb).trans e) pacc.2.1 MT (.inr (by show s2.heap.objs.size<=acc;lk)) cA λp hp=>nomatch (show p∈([]:List (Addr×Obj))from by simpa[aX]using hp);refine⟨m',hm,i+1,ys ++ [yv],its ++ [y],QQ,G8,MY,Ib.oJ λp hp=>?_,rv.append (.cons Ww .nil),T.keep _ _ _ (JN JO).1 λb hb o e=>(Ez.2 b (JL b hb).2).trans e,(JN JO).2,MZ⟩;have e:p=(acc,{ cls:=.type "list",data:=.seq (its ++ [y]).toArray QQ }):=by simpa using hp
   subst e;exact⟨by simpa using M0,pacc.2.1,pacc.2.2.1,pacc.2.2.2.1,λv z=>nomatch z⟩
 exact codeAny_compStart_list loop (T.self X.A 0 _ _ _ (T.keep _ _ _ st2 λb _ o e=>old b o e) loop)
def uq(hc:X.calm=true)(S:iE X scope own fr js)(hi:PI X tg iter wi)(hg:∀cells C fp s H,PG (aX X (own ++ fr) scope cells C fp s H) tg g)(hf:∀cells C fp s H,PF (aX X (own ++ fr) scope cells C fp s H) ifs tc)(he:∀cells C fp s H,PE (aX X (own ++ fr) scope cells C fp s H) elt te)
  (hs:∀x,foldedSetIterable iter X.env x=pure x:=by intro _;rfl):PE X (.ListComp elt [⟨tg,iter,ifs,0⟩] scope pos) (sT wi own.length js g tc te):=by
 intro pins s G H Q I h;obtain⟨cl,hcl,si,uU⟩:=QK (scope:=scope) (env:=X.env) λy hy hk=>I.ok.has y.1 (S.free y hy hk);rw[eval_ListComp];refine wpAny_comprehension_free (use:=none) rfl hs hcl S.kind (λy hy hk=>by rw[<- hk];exact Es S.Cw hy) (cI (hi pins s G H _ I h) λv s1 h1=>cI h1 λitv s2 h2=>?_);obtain⟨it,fp,tn,J,H2,e,I2,T,st2,f2,W,⟨m0,w0⟩,turn⟩:=h2;subst e;refine QO (RR:=λacc C=>compPost (model X.prog X.w) X.A X.xe none (EP X pins G Q) acc C) hc S hg hf he I2 T st2 f2 si uU W m0 w0 turn ?_;intro acc C H' s' v hv I' fC ⟨m,hm⟩ q;subst hv;obtain⟨f0,f1,Wx,f3,f4,f5⟩:=fC;exact⟨m,hm,λh'' Aa=>⟨.ref acc,H',I'.turned (it:=C) (t':=s'.toks) (λb o hb e=>(Aa.2 b hb).trans e) f0 f1 f3 f4 f5,rfl,q⟩⟩
def QR{i:Nat}{x:Str}{pos' spos:Pos}(hc:X.calm=true)(hN:X.N.Nodup)(hx:X.N[i]?=some x)(hl:X.env.scope.names.lookup x=some .local)(S:iE X scope own fr js)(hi:PI X tg iter wi)(hg:∀cells C fp s H,PG (aX X (own ++ fr) scope cells C fp s H) tg g)(hf:∀cells C fp s H,PF (aX X (own ++ fr) scope cells C fp s H) ifs tc)(he:∀cells C fp s H,PE (aX X (own ++ fr) scope cells C fp s H) elt te)
  (hsw:swapsWith (.ListComp elt [⟨tg,iter,ifs,0⟩] scope pos) (some (.Name x pos')) spos.line X.env=pure true:=by rfl)
  (hs:∀x,foldedSetIterable iter X.env x=pure x:=by intro _;rfl):PS X (.Assign [.Name x pos'] (.ListComp elt [⟨tg,iter,ifs,0⟩] scope pos) spos) (wk (sT wi own.length js g tc te) (rg i)):=by
 intro pins s G H D I h;obtain⟨cl,hcl,si,uU⟩:=QK (scope:=scope) (env:=X.env) λy hy hk=>I.ok.has y.1 (S.free y hy hk);rw[exec_Assign_Name_used _ _ _ _ hsw];refine wpAny_bind (wpAny_standAt (wpAny_bind ?_));show wpAny _ X.A (do let _ <- comprehension (.ListComp elt [⟨tg,iter,ifs,0⟩] scope pos) scope X.env _ (newList []) false (eval iter X.env) (some (assign (.Name x pos') X.env))) _ _ s
 refine wpAny_bind (wpAny_mono (wpAny_comprehension_free (use:=some (assign (.Name x pos') X.env)) (Q:=λ_ s'=>SP X pins D .next s') rfl hs hcl S.kind (λy hy hk=>by rw[<- hk];exact Es S.Cw hy)
  (cI (hi pins s G H _ I h) λv s1 h1=>cI h1 λitv s2 h2=>?_)) (λ_ s' hq=>wpAny_pure (wpAny_pure hq)) λ_ _ e=>e)
 obtain⟨it,fp,tn,J,H2,e,I2,T,st2,f2,W,⟨m0,w0⟩,turn⟩:=h2;subst e;refine QO (Q:=λv H'=>rg i v G H' D.nx) (RR:=λacc C=>compPost (model X.prog X.w) X.A X.xe (some (assign (.Name x pos') X.env)) (λ_ s'=>SP X pins D .next s') acc C) hc S hg hf he I2 T st2 f2 si uU W m0 w0 turn ?_;intro acc C H' s' v hv I' fC ⟨m,hm⟩ q;subst hv;obtain⟨f0,f1,Wx,f3,f4,f5⟩:=fC;show wpAny _ X.A (assign (.Name x pos') X.env (.ref acc)) _ _ _;refine wpAny_assign_Name (PD I' hN hx (.inl hl) (show RelV (.ref acc) (.ref acc)from rfl) (λs'' Wy ⟨a,hs1,ha⟩=>?_) (.inr hl));have haC:a≠C:=by
  rcases ha with e|e
  rw[e];exact f1.symm;exact f4 _ _ e
 exact⟨m,hm.sameBut hs1 haC.symm,λh'' Aa=>⟨_,H',Wy.turned (it:=C) (t':=s''.toks) (λb o hb e=>(Aa.2 b hb).trans e) f0 f1 f3 f4 f5,q⟩⟩
end
section
variable {X:Cx}
def QS:∀{bs:List Bool} {us:List Value} {i:Nat} {v:Value},Vals (bs.map V.bl) us->us[i]?=some v->∃b,bs[i]?=some b/\v=.bool b
 |[],_,i,v,r,h=>by cases r;simp at h
 |b :: bs,_,0,v,r,h=>by
  cases r with
  |cons r1 r2 =>
   cases(show _=Value.bool b from r1);simp at h;exact⟨b,rfl,h.symm⟩
 |b :: bs,_,i+1,v,r,h=>by
  cases r with
  |cons r1 r2 =>
   obtain⟨c,e1,e2⟩:=QS (i:=i) r2 (by simpa using h);exact⟨c,by simpa using e1,e2⟩
def Wz(hc:X.calm=true):ly X (.builtin "all") (λxs H Q=>∃(p:Addr) (bs:List Bool),xs=[.ref p]/\kR X.K H p (bs.map V.bl)/\Q (.bl (bs.all id)) H):=by
 intro pins s G H xs us Q I r h;obtain⟨p,bs,rfl,hq,q⟩:=h;obtain⟨u,rfl,ru⟩:=vals1 r;cases ru;obtain⟨its,rv,pl,_⟩:=I.list hq;have hl:=pl.isList;have hlt:p<s.heap.objs.size:=by obtain⟨_,e,_⟩:=hl;exact Zaq e
 have hlen:=rv.length;rw[Zaa]at hlen;have hh:X.A.in1.handled=none:=I.ok.hd hc;refine call_all_walk (wpAny_pyIter_list hl ?_)
 refine⟨s.heap.objs.size,[s.heap.objs.size,p],[s.heap.objs.size],its.toArray.size,_,_,λi=>(bs[i]?).getD true,rfl,Walks.list (A:=X.A.in1) hh _ p (ZaX hlt) its.toArray,
  ⟨⟨_,Zan _ rfl,rfl,rfl⟩,hl.push _⟩,λi v s' Q' E' hP hQ=>?_,λh' tk hk=>?_⟩
 obtain⟨b,e,rfl⟩:=QS rv (by simpa using hP);simp only[e,Option.getD_some]at hQ;exact wpAny_truthy_bool hQ;have e:((List.range its.toArray.size).all λi=>(bs[i]?).getD true)=bs.all id:=by
  rw[Zap,<- hlen];exact PyProof.Rows.LSm.range_all bs
 rw[e];exact⟨.bl _,H,I.kept (PyProof.Rows.LSm.kept_iter hk),rfl,q⟩
end
abbrev total(rs:List (List Int)):Nat:=(rs.map List.length).sum
section
variable {X:Cx}{K:Zfr}
def WA(hK:X.K=K):Eb X (zI K):=by subst hK;exact aY
def QT(hK:X.K=K):mP X (compareOp .NotIn) (Mz K true):=by subst hK;exact MA
end
section
variable {prog:Program}{w:World}{A:Around}{E:Value->Shared->Prop}{s:Shared}
def WB{j t:Addr}{i:Nat}{ys:Array Value}{y:Value}{Q:Value->Shared->Prop}(hj:s.heap.IsTupleIter j t i)(ht:s.heap.IsTuple t ys)(hy:ys[i]?=some y)
  (hQ:∀h',h'.IsTupleIter j t (i+1)->Heap.SameBut j s.heap h'->Q y { s with heap:=h' }):wpAny (model prog w) A (Builtin.SmallTypes.nextOf (.ref j)) Q E s:=by
 obtain⟨r,hr,rc,rd⟩:=id hj;obtain⟨q,hq,_,nq,dq⟩:=ht;unfold Builtin.SmallTypes.nextOf;refine wpAny_bind (wpAny_callSpecial?_slot (name:=Str.ofString "__next__") hj.typeIs F.slot_tuple_iterator_next (wpAny_call_entry F.slot_tuple_iterator_next hj.typeIs F.entry_tuple_iterator_next ?_ (F.args_tuple_iterator_next_1 _)));show wpAny _ _ (PySem.field (.ref j) 0 >>= _) _ _ s;refine wpAny_bind (wpAny_field hr rd (x:=.ref t) rfl ?_);show wpAny _ _ (if(Value.ref t == Value.none)=true then _ else _) _ _ s;rw[if_neg (λz:(Value.ref t == Value.none)=true=>Zal z)];show wpAny _ _ (PySem.field (.ref j) 1 >>= _) _ _ s;refine wpAny_bind (wpAny_field hr rd (x:=.int i 0) rfl ?_);show wpAny _ _ (seqItems? (.ref t) >>= _) _ _ s;refine wpAny_bind (wpAny_seqItems hq dq ?_);simp only[Zae,hy];refine wpAny_bind (wpAny_setField hr rd (by simp) (wpAny_pure ⟨y,rfl,wpAny_pure (hQ _ ⟨_,ZbU _ hr (Obj.isFreed_of_fields (Obj.data_mapFields rd _)),(Obj.cls_mapFields ..).trans rc,by rw[Obj.data_mapFields rd];simp[rawInt]⟩ (Zbv ..))⟩))
def WC{j t:Addr}{i:Nat}{ys:Array Value}{Q:Value->Shared->Prop}(hh:A.handled=none)(hj:s.heap.IsTupleIter j t i)(ht:s.heap.IsTuple t ys)(hy:ys[i]?=none)
  (hE:∀h' e,Heap.ExtBut j s.heap h'->(∃o,h'.get? e=some o/\o.cls=.type "StopIteration")->E (.ref e) { s with heap:=h' }):wpAny (model prog w) A (Builtin.SmallTypes.nextOf (.ref j)) Q E s:=by
 obtain⟨r,hr,rc,rd⟩:=id hj;obtain⟨q,hq,_,nq,dq⟩:=ht;unfold Builtin.SmallTypes.nextOf;refine wpAny_bind (wpAny_callSpecial?_slot (name:=Str.ofString "__next__") hj.typeIs F.slot_tuple_iterator_next (wpAny_call_entry F.slot_tuple_iterator_next hj.typeIs F.entry_tuple_iterator_next ?_ (F.args_tuple_iterator_next_1 _)));show wpAny _ _ (PySem.field (.ref j) 0 >>= _) _ _ s;refine wpAny_bind (wpAny_field hr rd (x:=.ref t) rfl ?_);show wpAny _ _ (if(Value.ref t == Value.none)=true then _ else _) _ _ s;rw[if_neg (λz:(Value.ref t == Value.none)=true=>Zal z)];show wpAny _ _ (PySem.field (.ref j) 1 >>= _) _ _ s;refine wpAny_bind (wpAny_field hr rd (x:=.int i 0) rfl ?_);show wpAny _ _ (seqItems? (.ref t) >>= _) _ _ s;refine wpAny_bind (wpAny_seqItems hq dq ?_);simp only[Zae,hy];refine wpAny_bind (wpAny_rule (wpAny_bind (wpAny_setField hr rd (by simp) ?_)));show wpAny _ _ (newExc (.type "StopIteration") [] >>= _) _ _ _;refine wpAny_bind ?_;simp only[newExc,newTuple];refine wpAny_bind (wpAny_newObj_type ?_ (by size_fits));refine wpAny_bind (m:=firstArgMember _ _) (wpAny_of_eq (a:=Value.none) (by first|rfl|(simp only[firstArgMember];rfl)) ?_);refine wpAny_newObj_type ?_ (by size_fits);simp only[raiseNew];refine wpAny_bind (wpAny_handled ?_);first|rw[show A.in1.handled=none from hh]|rw[hh]
 exact wpAny_bind (wpAny_pure (wpAny_throw (hE _ _ (((Zbv ..).extBut.push _).push _) ⟨_,Zan _ rfl,rfl⟩)))
end
def qv{prog:Program}{w:World}{A:Around}(hh:A.handled=none)(j t:Addr)(hne:t≠j)(ys:Array Value):
  Draws prog w A j [j,t] ys.size (λi v=>ys[i]?=some v) (λi h=>h.IsTupleIter j t i/\h.IsTuple t ys) where
 live:=λ_ _ st=>let ⟨o,ho,_⟩:=st.1;⟨o,ho⟩
 frame:=λ_ _ _ st k=>⟨st.1.at λo e=>k j (by simp) o e,let ⟨o,e,r⟩:=st.2;⟨o,k t (by simp) o e,r⟩⟩
 item:=λi s Q E hi st hQ=>WB st.1 st.2 (y:=ys[i]) (by simp[hi]) λh' a b=>hQ _ h' s.toks (by simp[hi]) ⟨a,st.2.extBut b.extBut hne⟩ b
 done:=λs Q E st hE=>WC hh st.1 st.2 (by simp) hE
def WD(l:Addr)(items:Array Value)(n:Nat)(dct:Option Addr)(sl:Array (Option Value)):
  Meets (Builtin.«enumerate.__new__» ⟨[.type "enumerate",.ref l],[]⟩) (λ_ R s=>s.heap.get? l=some { cls:=.type "tuple",dict:=dct,data:=.seq items n,slots:=sl } /\
   R (.ok (.ret (.ref (s.heap.push { cls:=.type "tuple_iterator",data:=.fields #[.ref l,.int 0 0] }).objs.size)))
    { s with heap:=(s.heap.push { cls:=.type "tuple_iterator",data:=.fields #[.ref l,.int 0 0] }).push { cls:=.type "enumerate",data:=.fields #[.none,.bool false,.ref s.heap.objs.size,rawInt 0,.none,.none] } }) :=
 .of_wp λprog w A R s h=>by
  obtain⟨hp,g,d,tk,os⟩:=s;obtain⟨hl,h⟩:=h;have hsub:=sub_enumerate;have hL:Heap.IsTuple (Shared.heap ⟨hp,g,d,tk,os⟩) l items:=⟨_,hl,rfl,n,rfl⟩
  wp_walk using AutoSeq1.wpAny_loadPart' hl
  refine wpAny_stack_any λst=>wpAny_pure ?_;split
  ·rename_i c _ _ _ _ _
   cases(c == Value.type "enumerate")<;>(wp_walk using AutoSeq1.wpAny_loadPart' hl,wpAny_pyIter_tuple hL;exact⟨_,rfl,h⟩)
  ·wp_walk using AutoSeq1.wpAny_loadPart' hl,wpAny_pyIter_tuple hL
   exact⟨_,rfl,h⟩
section
variable {prog:Program}{w:World}{A:Around}{E:Value->Shared->Prop}{s:Shared}
def QU{l:Addr}{ys:Array Value}{Q:Value->Shared->Prop}(ht:s.heap.IsTuple l ys)
  (h:∀h',IsEnum h' (s.heap.objs.size+1) s.heap.objs.size 0 .none->h'.IsTupleIter s.heap.objs.size l 0->h'.objs.size=s.heap.objs.size+2 ->
   (∀b o,s.heap.get? b=some o->h'.get? b=some o)->Q (.ref (s.heap.objs.size+1)) { s with heap:=h' }):wpAny (model prog w) A (call (.type "enumerate") [.ref l]) Q E s:=by
 obtain⟨⟨c,dct,dt,sl⟩,hl,hc,n,hd⟩:=ht;cases(show c=.type "tuple" from hc);cases(show dt=.seq ys n from hd);refine callType_new F.called_enumerate ∅ (F.typeCall_enumerate_1 _) (F.newCall_enumerate_1 _) (λobj=>F.args_object_init_2 obj _) F.entry_enumerate_new (WD l ys n dct sl) ⟨hl,?_⟩;have z:(s.heap.push { cls:=.type "tuple_iterator",data:=.fields #[.ref l,.int 0 0] }).objs.size=s.heap.objs.size+1:=Zba ..;show _/\_;rw[z];have en:IsEnum ((s.heap.push { cls:=.type "tuple_iterator",data:=.fields #[.ref l,.int 0 0] }).push { cls:=.type "enumerate",data:=.fields #[.none,.bool false,.ref s.heap.objs.size,rawInt 0,.none,.none] }) (s.heap.objs.size+1) s.heap.objs.size 0 .none:=by
  have g:=Zan (s.heap.push { cls:=.type "tuple_iterator",data:=.fields #[.ref l,.int 0 0] }) (o:={ cls:=.type "enumerate",data:=.fields #[.none,.bool false,.ref s.heap.objs.size,rawInt 0,.none,.none] }) rfl;rw[z]at g;exact g
 exact⟨⟨_,en,rfl⟩,h _ en ⟨_,Zac _ (Zan _ rfl),rfl,rfl⟩ (by rw[Zba,z]) λb o e=>Zac _ (Zac _ e)⟩
end
section
variable {X:Cx}{pins:List (Addr×Obj)}{G:St}{H:Hp}{s:Shared}{h':Heap}
def Inv.oM{t':Nat}{ch:List Addr}(I:Inv X pins G H s)(k:∀b o,b ∉ ch->s.heap.get? b=some o->h'.get? b=some o)(f:∀b∈ch,iC X pins H b):Inv X pins G H { s with heap:=h',toks:=t' }:=by
 have DH:∀b u,H b=some u->b ∉ ch:=λb u e z=>by rw[(f b z).1]at e;cases e
 refine I.step (g':=s.gens) (d':=s.drawn) (ch:=ch) (λb hb=>⟨(f b hb).2.2.2.1,(f b hb).2.1,(f b hb).2.2.2.2.1,(f b hb).2.2.2.2.2⟩) (λb o _ _ hc e _=>k b o hc e) (λb o _ _ hc e _=>⟨o.slots,k b o hc e⟩) (λ_ _ _ _ n=>n)
  (λb o hc e=>⟨o,k b o hc e⟩) (λ_ _ e=>e) (λ_ _ _ e=>e) (λb ps e=>⟨#[],by rw[e];simp⟩) (λm hm=>?_) (λb u e=>?_) I.bare
 obtain⟨o,es,ep,ho,r⟩:=hm;exact⟨o,es,ep,k _ o (λz=>(f _ z).2.1 rfl) ho,r⟩;refine(I.hok b u e).stay (λc v hc q=>k c v ?_ q) (λ_ q=>q) λ_ _ q=>q;rcases hc with z|z
 rw[z];exact DH b u e;exact DH c _ z
end
abbrev M1(K:Zfr)(a:Addr):It :=
 ⟨λi H=>∃xs x,gS K H a xs/\xs[i]?=some x,λi H x H'=>∃p y,x=.ref p/\H p=none/\H'=upd H p (.tup [.int i,y])/\∀xs,gS K H a xs->xs[i]?=some y,λi H=>∃xs,gS K H a xs/\xs.length=i⟩
def QV{P:Program}{w:World}{K:Zfr}{es:List Expr}{x1}{pos:Pos}(a e it:Addr)(hne:e≠it):
  Turn P w K (.Tuple es x1 pos) (M1 K a) [e,it] e (λi h=>(∃old,IsEnum h e it i old)/\h.IsTupleIter it a i) where
 mem:=by simp
 obj:=λi h st b hb=>by
  obtain⟨⟨old,he⟩,o,e2,c,d⟩:=st;rcases Zar.mp hb with rfl|hb
  exact⟨_,he,λv z=>by
   have z':Data.fields _=Data.cell v:=z
   cases z'⟩
  have q:b=it:=by simpa using hb
  subst q;exact⟨o,e2,λv z=>by rw[d]at z;cases z⟩
 keep:=λi h h' st k=>⟨let ⟨old,he⟩:=st.1;⟨old,k e (by simp) _ he⟩,st.2.at λo q=>k it (by simp) o q⟩
 item:=by
  intro X hP hw hK hc i pins s G H E I hf st hg;subst hP hw hK;obtain⟨xs,x,hq,hx⟩:=hg;obtain⟨its,rv,p,hz⟩:=I.tuple hq;obtain⟨u,hu,ru⟩:=rv.get hx;obtain⟨⟨old,he⟩,hit⟩:=st;have ht:s.heap.IsTuple a its.toArray:=p;have Ab:a≠it:=λz=>by
   obtain⟨o,e1,c1,_⟩:=hit;obtain⟨o2,e2,c2,_⟩:=ht;rw[z,e1]at e2;cases e2;exact absurd (c1.symm.trans c2) (by simp)
  have M3:e≠a:=λz=>by
   obtain⟨o2,e2,c2,_⟩:=ht;rw[<- z,he]at e2;cases e2;exact absurd c2 (by simp)
  have hl:=rv.length;have hi:i<its.toArray.size:=by
   have:=Zad.mp hu;obtain⟨q,_⟩:=this
   simpa using q
  refine wpAny_pyNext_enum_itemD (qv (A:=X.A.in1) (I.ok.hd hc) it a Ab its.toArray) he ⟨hit,ht⟩ hi hne (by simp[hne,M3]) λy h1 tk hy ho hst hT hsz kk=>?_;have ey:y=u:=by
   have:its.toArray[i]?=some u:=by simpa using hu
   exact Zai (hy.symm.trans this)
  subst ey;refine⟨_,rfl,wpAny_letOwnedTupleGo_enum ho λh2 M4 sb=>?_⟩;have hel:@LT.lt Nat _ e s.heap.objs.size:=Zaq he;have hil:@LT.lt Nat _ it s.heap.objs.size:=by obtain⟨o,e1,_⟩:=hit;exact Zaq e1
  have EA:H s.heap.objs.size=none:=I.hok.fresh (Zab _);have sb':Heap.SameBut e h1 h2:=sb;have I1:Inv X pins G (upd H s.heap.objs.size (.tup [.int i,x])) { s with heap:=s.heap.push { cls:=.type "tuple",data:=.seq #[.int i tk,y] },toks:=s.toks } :=
   I.laid (λb u e=>Zac _ e) (Zab _) ⟨(by decide:2<=sizeLine),[.int i tk,y],.cons ⟨tk,rfl⟩ (.cons ru .nil),⟨_,Zan _ rfl,rfl,rfl,_,rfl⟩⟩
  have nn:∀b∈[e,it],@LT.lt Nat _ b s.heap.objs.size:=λb hb=>by
   rcases Zar.mp hb with rfl|hb
   exact hel;have q:b=it:=by simpa using hb
   rw[q];exact hil
  have hn:∀b∈[e,it],upd H s.heap.objs.size (.tup [.int i,x]) b=none:=λb hb=>by
   unfold upd;rw[if_neg (ZaX (nn b hb))];exact(hf b hb).1
  have I2:Inv X pins G (upd H s.heap.objs.size (.tup [.int i,x])) { s with heap:=h2,toks:=tk+1 }:=by
   refine Inv.oM (s:={ s with heap:=s.heap.push { cls:=.type "tuple",data:=.seq #[.int i tk,y] },toks:=s.toks }) (h':=h2) I1 (ch:=[e,it]) (t':=tk+1) (λb o hb q=>?_) λb hb=>⟨hn b hb,(hf b hb).2⟩;have nb:b≠e/\b≠it:=by simpa using hb
   refine(sb'.2 b nb.1).trans ?_;rcases Heap.get?_push_cases q with⟨rfl,rfl⟩|q
   exact hT;exact kk b o nb.1 nb.2 q
  refine⟨.ref s.heap.objs.size,_,I2,rfl,⟨_,x,rfl,EA,rfl,λys M5=>by rw[I.jP M5 hq];exact hx⟩,⟨⟨y,?_⟩,?_⟩,hn⟩
  have:((i+1:Nat):Int)=(i:Int)+1:=by lk
  rw[this];exact M4;exact hst.1.extBut sb'.extBut (Ne.symm hne)
 done:=by
  intro X hP hw hK hc i pins s G H E I hf st hg;subst hP hw hK;obtain⟨xs,hq,hx⟩:=hg;obtain⟨its,rv,p,hz⟩:=I.tuple hq;obtain⟨⟨old,he⟩,hit⟩:=st;have ht:s.heap.IsTuple a its.toArray:=p;have Ab:a≠it:=λz=>by
   obtain⟨o,e1,c1,_⟩:=hit;obtain⟨o2,e2,c2,_⟩:=ht;rw[z,e1]at e2;cases e2;exact absurd (c1.symm.trans c2) (by simp)
  have hl:=rv.length;have ei:its.toArray.size=i:=by simp;lk
  refine wpAny_pyNext_enum_endD (qv (A:=X.A.in1) (I.ok.hd hc) it a Ab its.toArray) he (by rw[ei];exact⟨hit,ht⟩) λh1 eb=>⟨rfl,?_⟩;obtain⟨f0,f1,f2,f3,f4,f5⟩:=hf it (by simp);exact I.turned (t':=s.toks) (λb o hb q=>eb b o hb q) f0 f1 f3 f4 f5
 self:=λ_ _ _ _ _ st h=>let ⟨_,he⟩:=st.1;wpAny_pyIter_enum he h
abbrev yf(K:Zfr)(ta:TA):TI:=λG H R=>ta G H λvs H1=>∃a,vs=[.ref a]/\(∃xs,gS K H1 a xs)/\R (M1 K a) H1
def M6{X:Cx}{es:List Expr}{x1}{p0:Pos}{l:Expr}{ta:TA}{p pos:Pos}(hg:Gl X "enumerate")(hm:X.mg "enumerate" = none)(ha:PA X [l] ta)(hs:starEach [l] X.env=[(false,eval l X.env)]:=by rfl):
  PI X (.Tuple es x1 p0) (.Call (.Name "enumerate" p) [l] [] pos) (yf X.K ta):=by
 intro pins s G H R I h;refine Call_ (xG I hg hm boot_enumerate (PyProof.Rows.callWith_type1 (cI (ha pos pins s G H _ I h) λus s1 ⟨vs,H1,I1,r1,q1⟩=>?_) hs rfl));obtain⟨a,e,⟨xs,hq⟩,q⟩:=q1;subst e;cases r1 with
 |cons r rr =>
  cases rr;cases r;obtain⟨its,rv,p,hz⟩:=I1.tuple hq;refine QU (show s1.heap.IsTuple a its.toArray from p) λh1 he hi hsz kk=>?_;refine wpAny_pyIter_enum he ?_;refine⟨s1.heap.objs.size+1,[s1.heap.objs.size+1,s1.heap.objs.size],_,_,H1,rfl,I1.kept (t':=s1.toks) kk,QV a _ _ (Nat.succ_ne_self _),⟨⟨_,he⟩,hi⟩,λb hb=>?_,q⟩;have hb':@LE.le Nat _ s1.heap.objs.size b:=by
   rcases Zar.mp hb with rfl|hb
   exact Nat.le_succ _;have e:b=s1.heap.objs.size:=by simpa using hb
   rw[e];exact Zab _
  exact I1.o8 hb' (I1.hok.fresh hb')
section
open Sem (wp)
open PySem.AutoSeq1 (wpAny_loadPart')
open PySem.MeetsSeq PySem.MeetsSeq2 PySem.MeetsSeq3
def IntsAre.get{vs:List Value}{ns:List Int}(h:IntsAre vs ns):∀{i:Nat} {n:Int},ns[i]?=some n->∃t,vs[i]?=some (.int n t):=by
 induction h with
 |nil=>intro i n e;simp at e
 |cons a t h ih =>
  intro i n e;cases i with
  |zero=>exact⟨t,by simpa using e⟩
  |succ i=>simpa using ih (by simpa using e)
def uV(l:Addr)(items:Array Value)(n:Nat)(dd:Option Addr)(sl:Array (Option Value))(ns:List Int)(hi:IntsAre items.toList ns)(v:Int)(t:Tok)(j:Nat)(hj:ns[j]?=some v)(hb:∀i,i<j->ns[i]?≠some v):
  Meets (Builtin.«tuple.index» ⟨[.ref l,.int v t],[]⟩)
   (λ_ R s=>s.heap.get? l=some { cls:=.type "tuple",dict:=dd,data:=.seq items n,slots:=sl }/\R (.ok (.ret (.int (j:Int) s.toks))) { s with toks:=s.toks+1 }) :=
 .of_wp λprog w A R s h=>by
  obtain⟨hp,g,d,tk,os⟩:=s;obtain⟨hl,h⟩:=h;have z1:items.size=ns.length:=by rw[<- hi.length];simp
  have hjl:j<ns.length:=(Zad.mp hj).1
  wp_walk using wpAny_loadPart' hl
  have key:wpAny (model prog w) A.in1 (forIn (m:=Sem) [:min items.size items.size] ((none,()):Option Fin×Unit) (λ(i:Nat) _ =>
    match items[i]? with
    |some y=>do
     let b <- eqBool y (Value.int v t)
     if b=true then do
      let r <- retInt (i:Int)
      pure (ForInStep.done (some r,()))
     else pure (ForInStep.yield (none,()))
    |_=>pure (ForInStep.yield (none,()))))
   (λa s'=>a.1=some (.done (.ret (.int (j:Int) tk)))/\s'=⟨hp,g,d,tk+1,os⟩) (λe s'=>R (Except.error e) s') ⟨hp,g,d,tk,os⟩:=by
   rw[Std.Legacy.Range.forIn_eq_forIn_range'];have ez:([:min items.size items.size]:Std.Legacy.Range).size=ns.length:=by
    simp[Std.Legacy.Range.size,z1]
   rw[ez];refine wpAny_forIn_list _ (λrest b s'=>b.1=none/\s'=⟨hp,g,d,tk,os⟩/\∃k,k<=j/\rest=List.range' k (ns.length-k) 1) _ ?_ ?_ _ _ ⟨rfl,rfl,0,ZaZ _,by simp⟩;rintro x rest b s' ⟨hb',rfl,k,hk,e⟩;have el:ns.length-k=(ns.length-(k+1))+1:=by lk
   rw[el,List.range'_succ]at e;injection e with e1 e2;subst e1;have sW:x<ns.length:=by lk
   obtain⟨t',ht'⟩:=IntsAre.get hi (Zam sW);have WE:items[x]?=some (.int ns[x] t'):=by rw[<- ht',Zcq]
   simp only[WE];obtain⟨e,he,hiff⟩:=HT.VR A.in1 ⟨hp,g,d,tk,os⟩ ns[x] t' v t;refine wpAny_bind (he prog w _ _ ?_);cases e with
   |true =>
    have ev:ns[x]=v:=hiff.mp rfl;have WG:x=j:=by
     rcases Nat.lt_or_ge x j with h'|h'
     exact absurd (by rw[Zam sW,ev]) (hb x h');lk
    subst WG
    wp_walk
    first|exact⟨rfl,rfl⟩|trivial
   |false =>
    have ev:ns[x]≠v:=λq=>absurd (hiff.mpr q) Zal;have:x≠j:=λz=>ev (by subst z;rw[Zam sW]at hj;exact Zai hj)
    wp_walk
    exact⟨rfl,rfl,x+1,by lk,e2⟩
   rintro b s' ⟨hb',rfl,k,hk,e⟩
   have:(List.range' k (ns.length-k) 1).length=0:=by rw[<- e];rfl
   rw[List.length_range']at this;lk
  refine wpAny_mono key (λa s' ha=>?_) (λ_ _ z=>z);obtain⟨ha,rfl⟩:=ha;obtain⟨a1,a2⟩:=a;cases(show a1=_ from ha);exact wpAny_pure ⟨_,rfl,h⟩
end
section
variable {X:Cx}{K:Zfr}
abbrev uW(K:Zfr):V->List V->Hp->VK->Prop:=λx vs H Q=>∃(a:Addr) (ns:List Int) (v:Int) (j:Nat),x=.ref a/\vs=[.int v]/\gS K H a (ns.map V.int)/\ns[j]?=some v/\(∀i,i<j->ns[i]?≠some v)/\Q (.int (j:Int)) H
def WH:Mv X "tuple.index" (uW X.K):=by intro pins s G H x xs v us Q I rx rv h;obtain⟨a,ns,y,j,rfl,rfl,hq,hj,hb,q⟩:=h;cases rx;obtain⟨u,rfl,t,rfl⟩:=vals1 rv;obtain⟨its,r,⟨⟨c,dd,dt,sl⟩,e,hc,hd,n,hdt⟩,hz⟩:=I.sa hq;cases(show c=.type "tuple" from hc);cases(show dt=.seq its.toArray n from hdt);refine call_meets F.slot_tuple_index ⟨_,e,rfl⟩ F.entry_tuple_index (F.args_tuple_index_2 _ _) (uV a its.toArray n dd sl ns (by simpa using VY r) y t j hj hb) ⟨e,?_⟩;exact⟨.int j,H,I.tok _,⟨_,rfl⟩,q⟩
def WI{es:List Expr}{k:Nat}{t:uH}{n:Nat}{pos:Pos}(hK:X.K=K)(hc:X.calm=true)(h:DO X es t)
  (hn:(assignEach es X.env).length=n:=by rfl) (hst:(assignEach es X.env).findIdx? (·.1)=none:=by rfl):PG X (.Tuple es k pos) (zz K n t):=by subst hK;exact xO hc h hn hst
end
open Builtin.Str
section
variable {X:Cx}{K:Zfr}
abbrev wK(x:Str)(k:Nat):Str:=⟨(List.replicate k x.cps.toList).flatten.toArray⟩
def QW:∀(l:List (Array Nat)) (a:Array Nat),l.foldl (· ++ ·) a=a ++ (l.map Array.toList).flatten.toArray
 |[],a=>by simp
 |x :: r,a=>by
  rw[List.foldl_cons,QW r,Array.append_assoc,Zav,ZaQ]
  congr 1
  apply Array.ext';simp
def WJ(x:Str)(n:Int):Txt.mul x n=wK x n.toNat:=by
 unfold Txt.mul wK;by_cases h1:n<1;rw[if_pos h1,show n.toNat=0 by lk];rfl;rw[if_neg h1];by_cases h2:(n == 1 || x.length == 0)=true;rw[if_pos h2];rw[ZbH]at h2;rcases h2 with h2|h2
 have e:n=1:=by simpa using h2
 subst e;simp;have e:x.cps=#[]:=by
  have:x.cps.size=0:=by simpa[Str.length]using h2
  exact Array.eq_empty_of_size_eq_zero this
 cases x with
 |mk c =>
  cases e;simp
 rw[if_neg h2,QW];simp
def JP:mP X (binaryOp .Mult) (λx y H Q=>∃z k,x=.str z/\y=.int k/\z.length<=100/\-1000000<=k/\k<=10000/\Q (.str (wK z k.toNat)) H):=by
 intro pins s G H x y v u Q I rx ry h;obtain⟨z,k,rfl,rfl,h1,h2,h3,q⟩:=h;obtain⟨t,rfl⟩:=rx;obtain⟨t',rfl⟩:=ry;refine SB.mul ⟨by simp;lk,λh4 _ h5=>?_,λh4 _=>?_⟩ λt2 k2=>?_
 have:(100:Int)<=(2 ^ 63 - 1:Int) / k:=by
  refine(Int.le_ediv_iff_mul_le ⋯).mpr ?_;lk
 lk
 have:z.length*k.toNat<=100*10000:=Zce h1 ⋯
 simp only[tooLong,decide_eq_false_iff_not];have e:sizeLine=16777216:=rfl;lk;rw[WJ];exact⟨.str _,H,I.tok _,⟨_,rfl⟩,q⟩
def QX:∀{xs:List Str} {us:List Value},Vals (xs.map V.str) us->∃l:List (Str×Tok),us=strValues l/\l.map (·.1)=xs
 |[],us,h=>by
  cases us with
  |nil=>exact⟨[],rfl,rfl⟩
  |cons a b=>cases h
 |x :: xs,us,h=>by
  cases us with
  |nil=>cases h
  |cons u us =>
   cases h with
   |cons r t =>
    obtain⟨l,e1,e2⟩:=QX t;obtain⟨tk,rfl⟩:=r;exact⟨(x,tk) :: l,by rw[e1];rfl,by rw[Zav,e2]⟩
abbrev rJoin(K:Zfr):V->List V->Hp->VK->Prop:=λx vs H Q=>∃(sep:Str) (a:Addr) (xs:List Str),x=.str sep/\vs=[.ref a]/\kR K H a (xs.map V.str)/\sep.length<=10/\(xs.map (·.length)).sum+xs.length*10<=12000000/\Q (.str (Str.join sep xs)) H
def JQ:Mv X "str.join" (rJoin X.K):=by
 intro pins s G H x xs v us Q I rx rv h;obtain⟨sep,a,ts,rfl,rfl,hq,h2,h3,q⟩:=h;obtain⟨t,rfl⟩:=rx;obtain⟨u,rfl,ru⟩:=vals1 rv;cases ru;obtain⟨its,r,pl,hz⟩:=I.list hq;obtain⟨l,rfl,e2⟩:=QX r;have hfit:tooLong ((l.map (·.1)).toArray.foldl (· + ·.length+sep.length) 0)=false:=by
  rw[e2];rw[StrLaws.joinTotal];have a1:ts.length*sep.length<=ts.length*10:=Zbj _ h2;have e:sizeLine=16777216:=rfl;unfold tooLong;exact decide_eq_false ⋯
 refine call_meets F.slot_str_join (typeIs_str s sep t) F.entry_str_join (F.args_str_join_2 _ _) (meets_str_join_list sep t a l hfit) ⟨pl.isList,?_⟩;have fin:∀tk k,EP X pins G Q (.str (Str.join sep ts) tk) { s with toks:=k }:=λtk k=>⟨.str _,H,I.tok _,⟨_,rfl⟩,q⟩;have hz2:(Str.join sep ts).length<=sizeLine:=by
  have hlen:=StrLaws.join_length_le sep ts;have a1:ts.length*sep.length<=ts.length*10:=Zbj _ h2;have e:sizeLine=16777216:=rfl;lk
 match l,e2 with
 |[],e2 =>
  cases e2;exact⟨hz2,fin _ _⟩
 |[p],e2 =>
  cases e2;exact fin p.2 s.toks
 |p :: p2 :: r,e2 =>
  show(glued sep ((p :: p2 :: r).map (·.1))).length<=sizeLine/\_;rw[StrLaws.glued_eq_join,e2];exact⟨hz2,fin _ _⟩
end
abbrev M7(x:Str):It:=⟨λi _=>i<x.cps.size,λi H y H'=>H'=H/\∃c,x.cps[i]?=some c/\y=.str ⟨#[c]⟩,λi _=>x.cps.size<=i⟩
def WK{P:Program}{w:World}{K:Zfr}{tg:Expr}(it:Addr)(x:Str)(t:Tok):Turn P w K tg (M7 x) [it] it (λi h=>h.IsStrIter it "str_ascii_iterator" x t i) where
 mem:=by simp
 obj:=λi h st b hb=>by
  have e:b=it:=by simpa using hb
  subst e;obtain⟨o,e,c,d⟩:=st;exact⟨o,e,λv z=>by rw[d]at z;cases z⟩
 keep:=λi h h' st k=>let ⟨o,ho,r⟩:=st;⟨o,k it (by simp) o ho,r⟩
 item:=by
  intro X hP hw hK hc i pins s G H E I hf st hg;subst hP hw hK;have hg:i<x.cps.size:=hg;obtain⟨f0,f1,f2,f3,f4,f5⟩:=hf it (by simp);refine wpAny_pyNext_ascii_item st (c:=x.cps[i]) (by simp[hg]) λh' st' sb=>?_;have I1:Inv X pins G H { s with heap:=h',toks:=s.toks+1 }:=I.turned (λb o hb e=>(sb.2 b hb).trans e) f0 f1 f3 f4 f5;obtain⟨o,e,c,d⟩:=id st';exact⟨_,rfl,zB (s:={ s with heap:=h',toks:=s.toks+1 }) e c d ∅ ⟨.str ⟨#[x.cps[i]]⟩,H,I1,⟨_,rfl⟩,⟨rfl,_,by simp[hg],rfl⟩,st',λb hb=>(hf b hb).1⟩⟩
 done:=by
  intro X hP hw hK hc i pins s G H E I hf st hg;subst hP hw hK;have hg:x.cps.size<=i:=hg;obtain⟨f0,f1,f2,f3,f4,f5⟩:=hf it (by simp);exact wpAny_pyNext_ascii_end (I.ok.hd hc) st (by simp[hg]) λh' eb=>⟨rfl,I.turned (t':=s.toks) (λb o hb e=>eb b o hb e) f0 f1 f3 f4 f5⟩
 self:=λ_ _ _ _ _ st h=>wpAny_pyIter_striter_ascii st h
def WL{P:Program}{w:World}{K:Zfr}{tg:Expr}(it:Addr)(x:Str)(t:Tok):Turn P w K tg (M7 x) [it] it (λi h=>h.IsStrIter it "str_iterator" x t i) where
 mem:=by simp
 obj:=λi h st b hb=>by
  have e:b=it:=by simpa using hb
  subst e;obtain⟨o,e,c,d⟩:=st;exact⟨o,e,λv z=>by rw[d]at z;cases z⟩
 keep:=λi h h' st k=>let ⟨o,ho,r⟩:=st;⟨o,k it (by simp) o ho,r⟩
 item:=by
  intro X hP hw hK hc i pins s G H E I hf st hg;subst hP hw hK;have hg:i<x.cps.size:=hg;obtain⟨f0,f1,f2,f3,f4,f5⟩:=hf it (by simp);refine wpAny_pyNext_wide_item st (c:=x.cps[i]) (by simp[hg]) λh' st' sb=>?_;have I1:Inv X pins G H { s with heap:=h',toks:=s.toks+1 }:=I.turned (λb o hb e=>(sb.2 b hb).trans e) f0 f1 f3 f4 f5;obtain⟨o,e,c,d⟩:=id st';exact⟨_,rfl,zB (s:={ s with heap:=h',toks:=s.toks+1 }) e c d ∅ ⟨.str ⟨#[x.cps[i]]⟩,H,I1,⟨_,rfl⟩,⟨rfl,_,by simp[hg],rfl⟩,st',λb hb=>(hf b hb).1⟩⟩
 done:=by
  intro X hP hw hK hc i pins s G H E I hf st hg;subst hP hw hK;have hg:x.cps.size<=i:=hg;obtain⟨f0,f1,f2,f3,f4,f5⟩:=hf it (by simp);exact wpAny_pyNext_wide_end (I.ok.hd hc) st (by simp[hg]) λh' eb=>⟨rfl,I.turned (t':=s.toks) (λb o hb e=>eb b o hb e) f0 f1 f3 f4 f5⟩
 self:=λ_ _ _ _ _ st h=>wpAny_pyIter_striter_wide st h
section
variable {X:Cx}{tg:Expr}
abbrev EB(tl:TE):TI:=λG H R=>tl G H λx H1=>∃z,x=.str z/\R (M7 z) H1
def Cy{l:Expr}{tl:TE}(hl:PE X l tl):PI X tg l (EB tl):=by
 intro pins s G H R I h;refine cI (hl pins s G H _ I h) λv s1 ⟨x,H1,I1,r1,q1⟩=>?_;obtain⟨z,e,q⟩:=q1;subst e;obtain⟨t,rfl⟩:=r1;have fp:∀b∈[s1.heap.objs.size],iC X pins H1 b:=λb hb=>by
  have e:b=s1.heap.objs.size:=by simpa using hb
  subst e;exact I1.o8 (Zab _) (I1.hok.fresh (Zab _))
 cases ha:z.cps.all (· < 128);refine wpAny_pyIter_wide ha ?_;exact⟨s1.heap.objs.size,[s1.heap.objs.size],_,_,H1,rfl,I1.kept (t':=s1.toks) λb o e=>Zac _ e,WL _ z t,⟨_,Zan _ rfl,rfl,rfl⟩,fp,q⟩;refine wpAny_pyIter_ascii ha ?_;exact⟨s1.heap.objs.size,[s1.heap.objs.size],_,_,H1,rfl,I1.kept (t':=s1.toks) λb o e=>Zac _ e,WK _ z t,⟨_,Zan _ rfl,rfl,rfl⟩,fp,q⟩
end
end L2
namespace L2
open PySem PySem.Spec PyProof.Rows
open Builtin.Str
section
variable {prog:Program}{w:World}{A:Around}{E:Value->Shared->Prop}{s:Shared}
structure n6(z TI TO i1 i2:Addr)(pO pe:List Addr):Prop where
 TIz:TI≠z
 TOz:TO≠z
 i1z:i1≠z
 i2z:i2≠z
 TITO:TI≠TO
 TOi1:TO≠i1
 TOi2:TO≠i2
 i12:i1≠i2
 m1:i1∈pO
 m2:i2∈pe
 z1:∀b∈pO,b≠z/\b≠TO/\b≠i2
 z2:∀b∈pe,b≠z/\b≠TO/\b≠i1
def WM{z TI TO i1 i2:Addr}{pO pe:List Addr}{n1 n2 k:Nat}{P1 P2:Nat->Value->Prop}{sj rR:Nat->Heap->Prop}{a b:Value}{Q:Value->Shared->Prop}(D:n6 z TI TO i1 i2 pO pe)
  (D1:Draws prog w A i1 pO n1 P1 sj) (D2:Draws prog w A i2 pe n2 P2 rR)
  (hz:IsZip s.heap z TI TO .none) (hTI:IsPair s.heap TI (.ref i1) (.ref i2)) (hTO:IsPair s.heap TO a b)
  (h1:sj k s.heap) (h2:rR k s.heap) (hk1:k<n1) (hk2:k<n2)
  (hQ:∀x y h' tk,P1 k x->P2 k y->IsZip h' z TI TO (rawInt s.heap.objs.size)->IsPair h' TO x y->sj (k+1) h'->rR (k+1) h'->IsPair h' s.heap.objs.size x y->h'.objs.size=s.heap.objs.size+1 ->
   (∀c o,c≠z->c≠TO->c≠i1->c≠i2->s.heap.get? c=some o->h'.get? c=some o)->Q (.ref s.heap.objs.size) { s with heap:=h',toks:=tk }) :
  wpAny (model prog w) A (Builtin.«zip.__next__» ⟨[.ref z],[]⟩) (λfin s'=>∃v,fin=.done (.ret v)/\Q v s') E s:=by
 show wpAny _ _ (field (.ref z) 2 >>= _) _ _ _;refine wpAny_bind (wpAny_field hz rfl (x:=.bool false) rfl ?_);show wpAny _ _ (field (.ref z) 3 >>= _) _ _ _;refine wpAny_bind (wpAny_field hz rfl (x:=.ref TI) rfl ?_);refine wpAny_bind (wpAny_seqItems hTI rfl ?_);show wpAny _ _ (Builtin.SmallTypes.ownedTupleIsFree (.ref z) >>= _) _ _ _;refine wpAny_bind ?_;unfold Builtin.SmallTypes.ownedTupleIsFree;refine wpAny_bind (wpAny_field hz rfl (x:=.none) rfl (wpAny_pure ?_));simp only[if_true];refine wpAny_bind (wpAny_rule ?_);refine wpAny_bind (wpAny_field hz rfl (x:=.ref TO) rfl ?_);refine wpAny_bind (wpAny_setField_rec hz (by simp) λh₁ hz₁ hs₁=>?_);replace hz₁:IsZip h₁ z TI TO .ellipsis:=hz₁;refine wpAny_bind ?_;simp only[List.zipIdx_cons,List.zipIdx_nil,Zcy,ZcI];refine wpAny_bind (wpAny_bind (wpAny_onRaise ?_));show wpAny _ _ (Builtin.SmallTypes.nextOf (.ref i1) >>= _) _ _ _;refine wpAny_bind (D1.item k { s with heap:=h₁ } _ _ hk1 (D1.frame _ _ _ h1 λc hc o e=>hs₁.extBut _ _ (D.z1 c hc).1 e) λx h₂ tk₂ hx h1₂ hs₂=>wpAny_pure ?_);replace hs₂:Heap.SameBut i1 h₁ h₂:=hs₂;have hTO₂:IsPair h₂ TO a b:=hs₂.extBut _ _ D.TOi1 (hs₁.extBut _ _ D.TOz hTO);refine wpAny_bind (wpAny_seqItems hTO₂ rfl ?_);refine wpAny_bind (wpAny_updateSeq_pair hTO₂ λh₃ hTO₃ hs₃=>?_);replace hs₃:Heap.SameBut TO h₂ h₃:=hs₃;replace hTO₃:IsPair h₃ TO x b:=hTO₃;refine wpAny_bind (wpAny_letGo (wpAny_pure ?_));refine wpAny_bind (wpAny_bind (wpAny_onRaise ?_));show wpAny _ _ (Builtin.SmallTypes.nextOf (.ref i2) >>= _) _ _ _;have h2₃:rR k h₃:=D2.frame _ _ _ h2 λc hc o e=>hs₃.extBut _ _ (D.z2 c hc).2.1 (hs₂.extBut _ _ (D.z2 c hc).2.2 (hs₁.extBut _ _ (D.z2 c hc).1 e));refine wpAny_bind (D2.item k { s with heap:=h₃,toks:=tk₂ } _ _ hk2 h2₃ λy h₄ tk₄ hy h2₄ hs₄=>wpAny_pure ?_);replace hs₄:Heap.SameBut i2 h₃ h₄:=hs₄;have hTO₄:IsPair h₄ TO x b:=hs₄.extBut _ _ D.TOi2 hTO₃;refine wpAny_bind (wpAny_seqItems hTO₄ rfl ?_);refine wpAny_bind (wpAny_updateSeq_pair hTO₄ λh₅ hTO₅ hs₅=>?_);replace hs₅:Heap.SameBut TO h₄ h₅:=hs₅;replace hTO₅:IsPair h₅ TO x y:=hTO₅;refine wpAny_bind (wpAny_letGo (wpAny_pure (wpAny_pure ?_)));refine wpAny_bind (wpAny_seqItems hTO₅ rfl ?_);refine wpAny_bind (wpAny_newTuple ?_);have hsz:h₅.objs.size=s.heap.objs.size:=by rw[hs₅.1,hs₄.1,hs₃.1,hs₂.1,hs₁.1]
 have hz₅:IsZip h₅ z TI TO .ellipsis:=hs₅.extBut _ _ D.TOz.symm (hs₄.extBut _ _ D.i2z.symm (hs₃.extBut _ _ D.TOz.symm (hs₂.extBut _ _ D.i1z.symm hz₁)));have hk₅:∀c o,c≠z->c≠TO->c≠i1->c≠i2->s.heap.get? c=some o->h₅.get? c=some o:=λc o c1 c2 c3 c4 e =>
  hs₅.extBut _ _ c2 (hs₄.extBut _ _ c4 (hs₃.extBut _ _ c2 (hs₂.extBut _ _ c3 (hs₁.extBut _ _ c1 e))))
 have h1₅:sj (k+1) h₅:=D1.frame _ _ _ h1₂ λc hc o e=>hs₅.extBut _ _ (D.z1 c hc).2.1 (hs₄.extBut _ _ (D.z1 c hc).2.2 (hs₃.extBut _ _ (D.z1 c hc).2.1 e));have h2₅:rR (k+1) h₅:=D2.frame _ _ _ h2₄ λc hc o e=>hs₅.extBut _ _ (D.z2 c hc).2.1 e;have EC:z<h₅.objs.size:=Zaq hz₅;show wpAny _ _ (Builtin.SmallTypes.ownedTupleHandOut (.ref z) (.ref h₅.objs.size) >>= _) _ _ _;refine wpAny_bind ?_;unfold Builtin.SmallTypes.ownedTupleHandOut;have hz₆:IsZip (h₅.push { cls:=.type "tuple",data:=.seq #[x,y] }) z TI TO .ellipsis:=Zac _ hz₅;refine wpAny_bind (wpAny_setField_rec hz₆ (by simp) λh₇ hz₇ hs₇=>?_);replace hz₇:IsZip h₇ z TI TO (rawInt h₅.objs.size):=hz₇;refine wpAny_setField_rec hz₇ (by simp) λh₈ hz₈ hs₈=>?_;replace hz₈:IsZip h₈ z TI TO (rawInt h₅.objs.size):=hz₈;replace hs₇:Heap.SameBut z (h₅.push { cls:=.type "tuple",data:=.seq #[x,y] }) h₇:=hs₇;replace hs₈:Heap.SameBut z h₇ h₈:=hs₈;have up:∀c o,c≠z->h₅.get? c=some o->h₈.get? c=some o:=λc o c1 e=>hs₈.extBut _ _ c1 (hs₇.extBut _ _ c1 (Zac _ e));have hT₈:IsPair h₈ h₅.objs.size x y:=hs₈.extBut _ _ (Nat.ne_of_gt EC) (hs₇.extBut _ _ (Nat.ne_of_gt EC) (Zan _ rfl));have QY:h₈.objs.size=h₅.objs.size+1:=by rw[hs₈.1,hs₇.1,Zba]
 rw[hsz]at hz₈ hT₈ QY;refine wpAny_pure ⟨_,rfl,?_⟩;show Q (.ref h₅.objs.size) _;rw[hsz];exact hQ x y h₈ tk₄ hx hy hz₈ (up _ _ D.TOz hTO₅) (D1.frame _ _ _ h1₅ λc hc o e=>up _ o (D.z1 c hc).1 e) (D2.frame _ _ _ h2₅ λc hc o e=>up _ o (D.z2 c hc).1 e) hT₈ QY λc o c1 c2 c3 c4 e=>up c o c1 (hk₅ c o c1 c2 c3 c4 e)
def WN{z TI TO i1 i2:Addr}{pO pe:List Addr}{n1 n2 k:Nat}{P1 P2:Nat->Value->Prop}{sj rR:Nat->Heap->Prop}{a b:Value}{Q:Fin->Shared->Prop}(D:n6 z TI TO i1 i2 pO pe)
  (D1:Draws prog w A i1 pO n1 P1 sj) (D2:Draws prog w A i2 pe n2 P2 rR)
  (hz:IsZip s.heap z TI TO .none) (hTI:IsPair s.heap TI (.ref i1) (.ref i2)) (hTO:IsPair s.heap TO a b)
  (h1:sj k s.heap) (h2:rR k s.heap) (hend:k=n1\/(k<n1/\k=n2))
  (hE:∀h' tk e,(∀c o,c≠z->c≠TO->c≠i1->c≠i2->s.heap.get? c=some o->h'.get? c=some o)->(∃o,h'.get? e=some o/\o.cls=.type "StopIteration")->E (.ref e) { s with heap:=h',toks:=tk }) :
  wpAny (model prog w) A (Builtin.«zip.__next__» ⟨[.ref z],[]⟩) Q E s:=by
 show wpAny _ _ (field (.ref z) 2 >>= _) _ _ _;refine wpAny_bind (wpAny_field hz rfl (x:=.bool false) rfl ?_);show wpAny _ _ (field (.ref z) 3 >>= _) _ _ _;refine wpAny_bind (wpAny_field hz rfl (x:=.ref TI) rfl ?_);refine wpAny_bind (wpAny_seqItems hTI rfl ?_);show wpAny _ _ (Builtin.SmallTypes.ownedTupleIsFree (.ref z) >>= _) _ _ _;refine wpAny_bind ?_;unfold Builtin.SmallTypes.ownedTupleIsFree;refine wpAny_bind (wpAny_field hz rfl (x:=.none) rfl (wpAny_pure ?_));simp only[if_true];refine wpAny_bind (wpAny_rule ?_);refine wpAny_bind (wpAny_field hz rfl (x:=.ref TO) rfl ?_);refine wpAny_bind (wpAny_setField_rec hz (by simp) λh₁ hz₁ hs₁=>?_);replace hz₁:IsZip h₁ z TI TO .ellipsis:=hz₁;refine wpAny_bind ?_;simp only[List.zipIdx_cons,List.zipIdx_nil,Zcy,ZcI];refine wpAny_bind (wpAny_bind (wpAny_onRaise ?_));show wpAny _ _ (Builtin.SmallTypes.nextOf (.ref i1) >>= _) _ _ _;have h1₁:sj k h₁:=D1.frame _ _ _ h1 λc hc o e=>hs₁.extBut _ _ (D.z1 c hc).1 e;rcases hend with rfl|⟨hk1,rfl⟩
 refine wpAny_bind (D1.done { s with heap:=h₁ } _ _ h1₁ λh₂ e hs₂ he=>?_);obtain⟨oe,Ac,hce⟩:=he;replace hs₂:Heap.ExtBut i1 h₁ h₂:=hs₂;have hz₂:IsZip h₂ z TI TO .ellipsis:=hs₂ _ _ D.i1z.symm hz₁;have M8:e≠z:=λx=>by subst x;rw[hz₂]at Ac;cases Ac;simp at hce
 refine wpAny_setField_rec hz₂ (by simp) λh₃ _ hs₃=>hE h₃ s.toks e (λc o c1 _ c3 _ x=>hs₃.extBut _ _ c1 (hs₂ _ _ c3 (hs₁.extBut _ _ c1 x))) ⟨oe,hs₃.extBut _ _ M8 Ac,hce⟩;refine wpAny_bind (D1.item k { s with heap:=h₁ } _ _ hk1 h1₁ λx h₂ tk₂ hx h1₂ hs₂=>wpAny_pure ?_);replace hs₂:Heap.SameBut i1 h₁ h₂:=hs₂;have hTO₂:IsPair h₂ TO a b:=hs₂.extBut _ _ D.TOi1 (hs₁.extBut _ _ D.TOz hTO);refine wpAny_bind (wpAny_seqItems hTO₂ rfl ?_);refine wpAny_bind (wpAny_updateSeq_pair hTO₂ λh₃ hTO₃ hs₃=>?_);replace hs₃:Heap.SameBut TO h₂ h₃:=hs₃;refine wpAny_bind (wpAny_letGo (wpAny_pure ?_));refine wpAny_bind (wpAny_bind (wpAny_onRaise ?_));show wpAny _ _ (Builtin.SmallTypes.nextOf (.ref i2) >>= _) _ _ _;have h2₃:rR k h₃:=D2.frame _ _ _ h2 λc hc o e=>hs₃.extBut _ _ (D.z2 c hc).2.1 (hs₂.extBut _ _ (D.z2 c hc).2.2 (hs₁.extBut _ _ (D.z2 c hc).1 e));refine wpAny_bind (D2.done { s with heap:=h₃,toks:=tk₂ } _ _ h2₃ λh₄ e hs₄ he=>?_);obtain⟨oe,Ac,hce⟩:=he;replace hs₄:Heap.ExtBut i2 h₃ h₄:=hs₄;have hz₄:IsZip h₄ z TI TO .ellipsis:=hs₄ _ _ D.i2z.symm (hs₃.extBut _ _ D.TOz.symm (hs₂.extBut _ _ D.i1z.symm hz₁));have M8:e≠z:=λx=>by subst x;rw[hz₄]at Ac;cases Ac;simp at hce
 refine wpAny_setField_rec hz₄ (by simp) λh₅ _ hs₅=>hE h₅ tk₂ e (λc o c1 c2 c3 c4 x=>hs₅.extBut _ _ c1 (hs₄ _ _ c4 (hs₃.extBut _ _ c2 (hs₂.extBut _ _ c3 (hs₁.extBut _ _ c1 x))))) ⟨oe,hs₅.extBut _ _ M8 Ac,hce⟩
def WO{z TI TO i1 i2:Addr}{pO pe:List Addr}{n1 n2 k:Nat}{P1 P2:Nat->Value->Prop}{sj rR:Nat->Heap->Prop}{a b:Value}{Q:Option Value->Shared->Prop}(D:n6 z TI TO i1 i2 pO pe)
  (D1:Draws prog w A.in1 i1 pO n1 P1 sj) (D2:Draws prog w A.in1 i2 pe n2 P2 rR)
  (hz:IsZip s.heap z TI TO .none) (hTI:IsPair s.heap TI (.ref i1) (.ref i2)) (hTO:IsPair s.heap TO a b)
  (h1:sj k s.heap) (h2:rR k s.heap) (hk1:k<n1) (hk2:k<n2)
  (hQ:∀x y h' tk,P1 k x->P2 k y->IsZip h' z TI TO (rawInt s.heap.objs.size)->IsPair h' TO x y->sj (k+1) h'->rR (k+1) h'->IsPair h' s.heap.objs.size x y->h'.objs.size=s.heap.objs.size+1 ->
   (∀c o,c≠z->c≠TO->c≠i1->c≠i2->s.heap.get? c=some o->h'.get? c=some o)->Q (some (.ref s.heap.objs.size)) { s with heap:=h',toks:=tk }) :
  wpAny (model prog w) A (pyNext (.ref z)) Q E s:=by
 have hT:s.TypeIs (.ref z) "zip" := ⟨_,hz,rfl⟩;unfold pyNext
 exact wpAny_bind (wpAny_attempt (wpAny_callSpecial?_slot (name:=Str.ofString "__next__") hT F.slot_zip_next
  (wpAny_call_entry F.slot_zip_next hT F.entry_zip_next
   (WM D D1 D2 hz hTI hTO h1 h2 hk1 hk2 λx y h' tk p1 p2 a1 a2 a3 a4 a5 a6 a7=>wpAny_pure (hQ x y h' tk p1 p2 a1 a2 a3 a4 a5 a6 a7)) (F.args_zip_next_1 _))))
def M9{z TI TO i1 i2:Addr}{pO pe:List Addr}{n1 n2 k:Nat}{P1 P2:Nat->Value->Prop}{sj rR:Nat->Heap->Prop}{a b:Value}{Q:Option Value->Shared->Prop}(D:n6 z TI TO i1 i2 pO pe)
  (D1:Draws prog w A.in1 i1 pO n1 P1 sj) (D2:Draws prog w A.in1 i2 pe n2 P2 rR)
  (hz:IsZip s.heap z TI TO .none) (hTI:IsPair s.heap TI (.ref i1) (.ref i2)) (hTO:IsPair s.heap TO a b)
  (h1:sj k s.heap) (h2:rR k s.heap) (hend:k=n1\/(k<n1/\k=n2))
  (hQ:∀h' tk,(∀c o,c≠z->c≠TO->c≠i1->c≠i2->s.heap.get? c=some o->h'.get? c=some o)->Q none { s with heap:=h',toks:=tk }):wpAny (model prog w) A (pyNext (.ref z)) Q E s:=by
 have hT:s.TypeIs (.ref z) "zip" := ⟨_,hz,rfl⟩;unfold pyNext
 refine wpAny_bind (wpAny_attempt (wpAny_callSpecial?_slot (name:=Str.ofString "__next__") hT F.slot_zip_next
  (wpAny_call_entry F.slot_zip_next hT F.entry_zip_next (WN D D1 D2 hz hTI hTO h1 h2 hend λh' tk e hk he=>?_) (F.args_zip_next_1 _))))
 obtain⟨o,ho,hc⟩:=he;refine wpAny_bind (wpAny_isInstance (T:="StopIteration") (b:=true) ⟨o,ho,hc⟩ isSubtype_stop ?_);exact wpAny_pure (hQ _ _ hk)
end
set_option genInjectivity false in
inductive ZS where
 |tup (a:Addr)|lst (a:Addr)|str (x:Str)
abbrev ZS.it(j:Addr)(i:Nat)(h:Heap):ZS->Prop
 |.tup a=>h.IsTupleIter j a i
 |.lst a=>h.IsListIter j a i
 |.str x=>∃t,h.IsStrIter j "str_ascii_iterator" x t i\/h.IsStrIter j "str_iterator" x t i
abbrev ZS.has(K:Zfr)(H:Hp)(i:Nat)(v:V):ZS->Prop
 |.tup a=>∃xs,gS K H a xs/\xs[i]?=some v
 |.lst a=>∃xs,kR K H a xs/\xs[i]?=some v
 |.str x=>∃c,x.cps[i]?=some c/\v=.str ⟨#[c]⟩
abbrev ZS.fin(K:Zfr)(H:Hp)(i:Nat):ZS->Prop
 |.tup a=>∃xs,gS K H a xs/\xs.length=i
 |.lst a=>∃xs,kR K H a xs/\xs.length=i
 |.str x=>x.cps.size=i
def ZS.it.at{j:Addr}{i:Nat}{h h':Heap}{src:ZS}(t:src.it j i h)(k:∀o,h.get? j=some o->h'.get? j=some o):src.it j i h':=by
 cases src with
 |tup a=>exact Heap.IsTupleIter.at t k
 |lst a=>exact Heap.IsListIter.at t k
 |str x =>
  obtain⟨tk,t⟩:=t;refine⟨tk,?_⟩;rcases t with⟨o,ho,r⟩|⟨o,ho,r⟩
  exact .inl ⟨o,k o ho,r⟩;exact .inr ⟨o,k o ho,r⟩
def ZS.it.obj{j:Addr}{i:Nat}{h:Heap}{src:ZS}(t:src.it j i h):∃o,h.get? j=some o/\(∀v,o.data≠.cell v)/\(∃n,o.cls=.type n/\n≠"tuple" /\ n≠"list" /\ n≠"zip"):=by
 cases src with
 |tup a=>obtain⟨o,e,c,d⟩:=t;exact⟨o,e,(λv z=>by rw[d]at z;cases z),_,c,by decide,by decide,by decide⟩
 |lst a=>obtain⟨o,e,c,d⟩:=t;exact⟨o,e,(λv z=>by rw[d]at z;cases z),_,c,by decide,by decide,by decide⟩
 |str x =>
  obtain⟨tk,t⟩:=t;rcases t with⟨o,e,c,d⟩|⟨o,e,c,d⟩
  exact⟨o,e,(λv z=>by rw[d]at z;cases z),_,c,by decide,by decide,by decide⟩;exact⟨o,e,(λv z=>by rw[d]at z;cases z),_,c,by decide,by decide,by decide⟩
structure ZS.Dr(P:Program)(w:World)(A:Around)(s:Shared)(j:Addr)(i:Nat)(src:ZS)(fp:List Addr)(n:Nat)(R:Value->Prop):Prop where
 ex:∃(Pv:Nat->Value->Prop) (St:Nat->Heap->Prop),Draws P w A j fp n Pv St/\St i s.heap/\(∀u,Pv i u->R u)/\∀h,St (i+1) h->src.it j (i+1) h
 mem:j∈fp
section
variable {X:Cx}{pins:List (Addr×Obj)}{G:St}{H:Hp}{s:Shared}
def Inv.qw{a b:Addr}{xs:List V}(I:Inv X pins G H s)(h:gS X.K H a xs)(f:iC X pins H b):a≠b:=by
 intro z;subst z;rcases h with(h|⟨o,h⟩)|⟨o,its,n,hk,_⟩
 rw[f.1]at h;cases h;rw[f.1]at h;cases h;have hb:=I.ok.mod.DA a o hk;rcases f.2.2.2.1 with he|he
 exact I.ok.rZ a o hb he
 have:=Zaq hb
 have:=I.ok.vK;exact absurd (ZaF (ZaF ‹a<X.base.objs.size› this) he) (ZbP _)
def Inv.qx{a b:Addr}{xs:List V}(I:Inv X pins G H s)(h:kR X.K H a xs)(f:iC X pins H b):a≠b:=by
 intro z;subst z;rcases h with(h|⟨o,h⟩)|⟨o,its,n,hk,_⟩
 rw[f.1]at h;cases h;rw[f.1]at h;cases h;have hb:=I.ok.mod.DA a o hk;rcases f.2.2.2.1 with he|he
 exact I.ok.rZ a o hb he
 have:=Zaq hb
 have:=I.ok.vK;exact absurd (ZaF (ZaF ‹a<X.base.objs.size› this) he) (ZbP _)
def ZS.drawn{j:Addr}{i:Nat}{src:ZS}{v:V}(I:Inv X pins G H s)(hc:X.calm=true)(t:src.it j i s.heap)(fj:iC X pins H j)(h:src.has X.K H i v):∃fp n,i<n/\ZS.Dr X.prog X.w X.A.in1 s j i src fp n (RelV v)/\∀b,iC X pins H b->b≠j->b ∉ fp:=by
 cases src with
 |tup a =>
  obtain⟨xs,hq,hx⟩:=h;obtain⟨its,rv,p,hz⟩:=I.tuple hq;obtain⟨u,hu,ru⟩:=rv.get hx;have ht:s.heap.IsTuple a its.toArray:=p;have hi:i<its.toArray.size:=by
   obtain⟨q,_⟩:=Zad.mp hu;simpa using q
  refine⟨[j,a],its.toArray.size,hi,⟨⟨_,_,qv (A:=X.A.in1) (I.ok.hd hc) j a (I.qw hq fj) its.toArray,⟨t,ht⟩,λu' h'=>?_,λh hst=>hst.1⟩,by simp⟩,λb fb hb=>?_⟩
  have:its.toArray[i]?=some u:=by simpa using hu
  rw[this]at h';cases h';exact ru
  have:=I.qw hq fb
  simp only[Zar,ZaW,or_false,not_or];exact⟨hb,λz=>this z.symm⟩
 |lst a =>
  obtain⟨xs,hq,hx⟩:=h;obtain⟨its,rv,p,hz⟩:=I.list hq;obtain⟨u,hu,ru⟩:=rv.get hx;have ht:s.heap.IsList a its.toArray:=p.isList;have hi:i<its.toArray.size:=by
   obtain⟨q,_⟩:=Zad.mp hu;simpa using q
  refine⟨[j,a],its.toArray.size,hi,⟨⟨_,_,Draws.list (A:=X.A.in1) (I.ok.hd hc) j a (I.qx hq fj) its.toArray,⟨t,ht⟩,λu' h'=>?_,λh hst=>hst.1⟩,by simp⟩,λb fb hb=>?_⟩
  have:its.toArray[i]?=some u:=by simpa using hu
  rw[this]at h';cases h';exact ru
  have:=I.qx hq fb
  simp only[Zar,ZaW,or_false,not_or];exact⟨hb,λz=>this z.symm⟩
 |str x =>
  obtain⟨c,hx,rfl⟩:=h;have hi:i<x.cps.size:=(Zb5.mp hx).1;obtain⟨tk,t⟩:=t;have hR:∀u,SignAt x i u->RelV (.str ⟨#[c]⟩) u:=λu hu=>by
   obtain⟨c',u',h1,rfl⟩:=hu;rw[hx]at h1;cases h1;exact⟨_,rfl⟩
  rcases t with t|t
  exact⟨[j],x.cps.size,hi,⟨⟨_,_,Draws.strAscii (A:=X.A.in1) (I.ok.hd hc) j x tk,t,hR,λh hst=>⟨tk,.inl hst⟩⟩,by simp⟩,λb fb hb=>by simpa using hb⟩;exact⟨[j],x.cps.size,hi,⟨⟨_,_,Draws.strWide (A:=X.A.in1) (I.ok.hd hc) j x tk,t,hR,λh hst=>⟨tk,.inr hst⟩⟩,by simp⟩,λb fb hb=>by simpa using hb⟩
def ZS.ended{j:Addr}{i:Nat}{src:ZS}(I:Inv X pins G H s)(hc:X.calm=true)(t:src.it j i s.heap)(fj:iC X pins H j)(h:src.fin X.K H i):∃fp,ZS.Dr X.prog X.w X.A.in1 s j i src fp i (λ_=>True)/\∀b,iC X pins H b->b≠j->b ∉ fp:=by
 cases src with
 |tup a =>
  obtain⟨xs,hq,hx⟩:=h;obtain⟨its,rv,p,hz⟩:=I.tuple hq;have ht:s.heap.IsTuple a its.toArray:=p;have hl:=rv.length;have ei:its.toArray.size=i:=by simp;lk
  subst ei;refine⟨[j,a],⟨⟨_,_,qv (A:=X.A.in1) (I.ok.hd hc) j a (I.qw hq fj) its.toArray,⟨t,ht⟩,λ_ _=>trivial,λh hst=>hst.1⟩,by simp⟩,λb fb hb=>?_⟩;have:=I.qw hq fb;simp only[Zar,ZaW,or_false,not_or];exact⟨hb,λz=>this z.symm⟩
 |lst a =>
  obtain⟨xs,hq,hx⟩:=h;obtain⟨its,rv,p,hz⟩:=I.list hq;have ht:s.heap.IsList a its.toArray:=p.isList;have hl:=rv.length;have ei:its.toArray.size=i:=by simp;lk
  subst ei;refine⟨[j,a],⟨⟨_,_,Draws.list (A:=X.A.in1) (I.ok.hd hc) j a (I.qx hq fj) its.toArray,⟨t,ht⟩,λ_ _=>trivial,λh hst=>hst.1⟩,by simp⟩,λb fb hb=>?_⟩;have:=I.qx hq fb;simp only[Zar,ZaW,or_false,not_or];exact⟨hb,λz=>this z.symm⟩
 |str x =>
  have h:x.cps.size=i:=h;subst h;obtain⟨tk,t⟩:=t;rcases t with t|t
  exact⟨[j],⟨⟨_,_,Draws.strAscii (A:=X.A.in1) (I.ok.hd hc) j x tk,t,λ_ _=>trivial,λh hst=>⟨tk,.inl hst⟩⟩,by simp⟩,λb fb hb=>by simpa using hb⟩;exact⟨[j],⟨⟨_,_,Draws.strWide (A:=X.A.in1) (I.ok.hd hc) j x tk,t,λ_ _=>trivial,λh hst=>⟨tk,.inr hst⟩⟩,by simp⟩,λb fb hb=>by simpa using hb⟩
end
abbrev Na(K:Zfr)(s1 s2:ZS):It :=
 ⟨λi H=>∃x y,s1.has K H i x/\s2.has K H i y,λi H v H'=>∃p x y,v=.ref p/\H p=none/\H'=upd H p (.tup [x,y])/\(∀z,s1.has K H i z->z=x)/\∀z,s2.has K H i z->z=y,λi H=>(s1.fin K H i/\(s2.fin K H i\/∃y,s2.has K H i y))\/((∃x,s1.has K H i x)/\s2.fin K H i)⟩
def ZS.qy{X:Cx}{pins:List (Addr×Obj)}{G:St}{H:Hp}{s:Shared}{src:ZS}{i:Nat}{x y:V}(I:Inv X pins G H s)(a:src.has X.K H i x)(b:src.has X.K H i y):y=x:=by
 cases src with
 |tup p =>
  obtain⟨xs,h1,e1⟩:=a;obtain⟨ys,h2,e2⟩:=b;rw[I.jP h2 h1]at e2;rw[e1]at e2;exact(Zai e2).symm
 |lst p =>
  obtain⟨xs,h1,e1⟩:=a;obtain⟨ys,h2,e2⟩:=b;rw[I.o7 h2 h1]at e2;rw[e1]at e2;exact(Zai e2).symm
 |str z =>
  obtain⟨c,h1,rfl⟩:=a;obtain⟨d,h2,rfl⟩:=b;rw[h1]at h2;cases h2;rfl
def WR{P:Program}{w:World}{K:Zfr}{es:List Expr}{x1}{pos:Pos}(s1 s2:ZS)(z TI TO i1 i2:Addr)(hd:TI≠z/\TO≠z/\i1≠z/\i2≠z/\TI≠TO/\TO≠i1/\TO≠i2/\i1≠i2/\TI≠i1/\TI≠i2):
  Turn P w K (.Tuple es x1 pos) (Na K s1 s2) [z,TI,TO,i1,i2] z (λi h=>IsZip h z TI TO .none/\IsPair h TI (.ref i1) (.ref i2)/\(∃a b,IsPair h TO a b)/\s1.it i1 i h/\s2.it i2 i h) where
 mem:=by simp
 obj:=λi h st b hb=>by
  obtain⟨hz,hTI,⟨a,c,hTO⟩,h1,h2⟩:=st;have cl:∀{o:Obj} {vs:Array Value},o.data=.fields vs->∀v,o.data≠.cell v:=λd v z=>by rw[d]at z;cases z
  have cs:∀{o:Obj} {vs:Array Value} {n:Nat},o.data=.seq vs n->∀v,o.data≠.cell v:=λd v z=>by rw[d]at z;cases z
  simp only[Zar,ZaW,or_false]at hb;rcases hb with rfl|rfl|rfl|rfl|rfl
  exact⟨_,hz,cl rfl⟩;exact⟨_,hTI,cs rfl⟩;exact⟨_,hTO,cs rfl⟩;obtain⟨o,e,n,_⟩:=h1.obj;exact⟨o,e,n⟩;obtain⟨o,e,n,_⟩:=h2.obj;exact⟨o,e,n⟩
 keep:=λi h h' st k=>⟨k z (by simp) _ st.1,k TI (by simp) _ st.2.1,let ⟨a,b,e⟩:=st.2.2.1;⟨a,b,k TO (by simp) _ e⟩,st.2.2.2.1.at λo q=>k i1 (by simp) o q,st.2.2.2.2.at λo q=>k i2 (by simp) o q⟩
 item:=by
  intro X hP hw hK hc i pins s G H E I hf st hg;subst hP hw hK;obtain⟨x,y,hx,hy⟩:=hg;obtain⟨hz,hTI,⟨a,b,hTO⟩,h1,h2⟩:=st;have fz:=hf z (by simp);have ED:=hf TO (by simp);have f1:=hf i1 (by simp);have f2:=hf i2 (by simp);obtain⟨pO,n1,k1,⟨⟨P1,S1,D1,st1,r1,WS⟩,yg⟩,oD⟩:=ZS.drawn I hc h1 f1 hx;obtain⟨pe,n2,k2,⟨⟨P2,S2,D2,st2,r2,WT⟩,wL⟩,n8⟩:=ZS.drawn I hc h2 f2 hy;obtain⟨d1,d2,d3,d4,d5,d6,d7,d8,d9,QZ⟩:=hd
  have ap:n6 z TI TO i1 i2 pO pe:=⟨d1,d2,d3,d4,d5,d6,d7,d8,yg,wL,
   λc jX=>⟨λe=>oD z fz (Ne.symm d3) (e ▸ jX),λe=>oD TO ED d6 (e ▸ jX),λe=>oD i2 f2 (Ne.symm d8) (e ▸ jX)⟩,
   λc jX=>⟨λe=>n8 z fz (Ne.symm d4) (e ▸ jX),λe=>n8 TO ED d7 (e ▸ jX),λe=>n8 i1 f1 d8 (e ▸ jX)⟩⟩
  refine WO ap D1 D2 hz hTI hTO st1 st2 k1 k2 λu v Q0 tk p1 p2 hz' Nb g1 g2 hT hsz kk=>?_;refine⟨_,rfl,wpAny_letOwnedTupleGo_zip hz' λh2' hz2 sb=>?_⟩;replace sb:Heap.SameBut z Q0 h2':=sb;have EA:H s.heap.objs.size=none:=I.hok.fresh (Zab _);have ru:=r1 u p1;have rv:=r2 v p2;have I1:Inv X pins G (upd H s.heap.objs.size (.tup [x,y])) { s with heap:=s.heap.push { cls:=.type "tuple",data:=.seq #[u,v] },toks:=s.toks } :=
   I.laid (λb u e=>Zac _ e) (Zab _) ⟨(by decide:2<=sizeLine),[u,v],.cons ru (.cons rv .nil),⟨_,Zan _ rfl,rfl,rfl,_,rfl⟩⟩
  have hlt:∀c∈[z,TI,TO,i1,i2],@LT.lt Nat _ c s.heap.objs.size:=λc jX=>by
   simp only[Zar,ZaW,or_false]at jX;rcases jX with rfl|rfl|rfl|rfl|rfl
   exact Zaq hz;exact Zaq hTI;exact Zaq hTO;obtain⟨o,e,_⟩:=h1.obj;exact Zaq e;obtain⟨o,e,_⟩:=h2.obj;exact Zaq e
  have hn:∀c∈[z,TI,TO,i1,i2],upd H s.heap.objs.size (.tup [x,y]) c=none:=λc jX=>by
   unfold upd;rw[if_neg (ZaX (hlt c jX))];exact(hf c jX).1
  have I2:Inv X pins G (upd H s.heap.objs.size (.tup [x,y])) { s with heap:=h2',toks:=tk }:=by
   refine Inv.oM (s:={ s with heap:=s.heap.push { cls:=.type "tuple",data:=.seq #[u,v] },toks:=s.toks }) (h':=h2') I1 (ch:=[z,TI,TO,i1,i2]) (t':=tk) (λc o jX q=>?_) λc jX=>⟨hn c jX,(hf c jX).2⟩;simp only[Zar,ZaW,or_false,not_or]at jX;obtain⟨Q5,n2',WU,WV,WW⟩:=jX;refine(sb.2 c Q5).trans ?_;rcases Heap.get?_push_cases q with⟨rfl,rfl⟩|q
   exact hT;exact kk c o Q5 WU WV WW q
  have up:∀c o,c≠z->Q0.get? c=some o->h2'.get? c=some o:=λc o n e=>(sb.2 c n).trans e;refine⟨.ref s.heap.objs.size,_,I2,rfl,⟨_,x,y,rfl,EA,rfl,λw hw=>ZS.qy I hx hw,λw hw=>ZS.qy I hy hw⟩,⟨hz2,?_,⟨u,v,up _ _ d2 Nb⟩,(WS _ g1).at λo q=>up _ o d3 q,(WT _ g2).at λo q=>up _ o d4 q⟩,hn⟩;exact up _ _ d1 (kk _ _ d1 d5 d9 QZ hTI)
 done:=by
  intro X hP hw hK hc i pins s G H E I hf st hg;subst hP hw hK;obtain⟨hz,hTI,⟨a,b,hTO⟩,h1,h2⟩:=st;have fz:=hf z (by simp);have ED:=hf TO (by simp);have f1:=hf i1 (by simp);have f2:=hf i2 (by simp);obtain⟨d1,d2,d3,d4,d5,d6,d7,d8,d9,QZ⟩:=hd;have fin:∀h' tk,(∀c o,c≠z->c≠TO->c≠i1->c≠i2->s.heap.get? c=some o->h'.get? c=some o)->Inv X pins G H { s with heap:=h',toks:=tk }:=λh' tk kk=>by
   refine Inv.oM I (ch:=[z,TO,i1,i2]) (t':=tk) (λc o jX q=>?_) λc jX=>hf c ?_;simp only[Zar,ZaW,or_false,not_or]at jX;exact kk c o jX.1 jX.2.1 jX.2.2.1 jX.2.2.2 q;simp only[Zar,ZaW,or_false]at jX ⊢;rcases jX with rfl|rfl|rfl|rfl<;>simp
  have Ad:∀{pO pe:List Addr},i1∈pO->i2∈pe->(∀b,iC X pins H b->b≠i1->b ∉ pO)->(∀b,iC X pins H b->b≠i2->b ∉ pe)->n6 z TI TO i1 i2 pO pe:=λyg wL oD n8=>⟨d1,d2,d3,d4,d5,d6,d7,d8,yg,wL,
   λc jX=>⟨λe=>oD z fz (Ne.symm d3) (e ▸ jX),λe=>oD TO ED d6 (e ▸ jX),λe=>oD i2 f2 (Ne.symm d8) (e ▸ jX)⟩,
   λc jX=>⟨λe=>n8 z fz (Ne.symm d4) (e ▸ jX),λe=>n8 TO ED d7 (e ▸ jX),λe=>n8 i1 f1 d8 (e ▸ jX)⟩⟩
  rcases hg with⟨hx,hy⟩|⟨⟨x,hx⟩,hy⟩
  obtain⟨pO,⟨⟨P1,S1,D1,st1,_,_⟩,yg⟩,oD⟩:=ZS.ended I hc h1 f1 hx;rcases hy with hy|⟨y,hy⟩
  obtain⟨pe,⟨⟨P2,S2,D2,st2,_,_⟩,wL⟩,n8⟩:=ZS.ended I hc h2 f2 hy;exact M9 (Ad yg wL oD n8) D1 D2 hz hTI hTO st1 st2 (.inl rfl) λh' tk kk=>⟨rfl,fin h' tk kk⟩;obtain⟨pe,n2,k2,⟨⟨P2,S2,D2,st2,_,_⟩,wL⟩,n8⟩:=ZS.drawn I hc h2 f2 hy;exact M9 (Ad yg wL oD n8) D1 D2 hz hTI hTO st1 st2 (.inl rfl) λh' tk kk=>⟨rfl,fin h' tk kk⟩;obtain⟨pO,n1,k1,⟨⟨P1,S1,D1,st1,_,_⟩,yg⟩,oD⟩:=ZS.drawn I hc h1 f1 hx;obtain⟨pe,⟨⟨P2,S2,D2,st2,_,_⟩,wL⟩,n8⟩:=ZS.ended I hc h2 f2 hy;exact M9 (Ad yg wL oD n8) D1 D2 hz hTI hTO st1 st2 (.inr ⟨k1,rfl⟩) λh' tk kk=>⟨rfl,fin h' tk kk⟩
 self:=λ_ _ _ _ _ st h=>wpAny_pyIter_zip st.1 h
abbrev ZS.val(K:Zfr)(H:Hp)(x:V):ZS->Prop
 |.tup a=>x=.ref a/\∃xs,gS K H a xs
 |.lst a=>x=.ref a/\∃xs,kR K H a xs
 |.str z=>x=.str z
def ZS.iter{X:Cx}{pins:List (Addr×Obj)}{G:St}{H:Hp}{s s':Shared}{src:ZS}{x:V}{u:Value}(I:Inv X pins G H s)(r:RelV x u)(hv:src.val X.K H x)(up:∀c o,s.heap.get? c=some o->s'.heap.get? c=some o):
  ∃o,src.it s'.heap.objs.size 0 (s'.heap.push o)/\∀(prog:Program) (w:World) (A:Around) (E:Value->Shared->Prop) (Q:Value->Shared->Prop),Q (.ref s'.heap.objs.size) { s' with heap:=s'.heap.push o }->wpAny (model prog w) A (pyIter u) Q E s':=by
 cases src with
 |tup a =>
  obtain⟨rfl,xs,hq⟩:=hv;cases r;obtain⟨its,rv,p,hz⟩:=I.tuple hq;obtain⟨o,e,c,n,d⟩:=(show s.heap.IsTuple a its.toArray from p);exact⟨_,⟨_,Zan _ rfl,rfl,rfl⟩,λprog w A E Q h=>wpAny_pyIter_tuple ⟨o,up _ _ e,c,n,d⟩ h⟩
 |lst a =>
  obtain⟨rfl,xs,hq⟩:=hv;cases r;obtain⟨its,rv,p,hz⟩:=I.list hq;obtain⟨o,e,c,n,d⟩:=p.isList;exact⟨_,⟨_,Zan _ rfl,rfl,rfl⟩,λprog w A E Q h=>wpAny_pyIter_list ⟨o,up _ _ e,c,n,d⟩ h⟩
 |str z =>
  cases hv;obtain⟨t,rfl⟩:=r;cases ha:z.cps.all (· < 128);exact⟨_,⟨t,.inr ⟨_,Zan _ rfl,rfl,rfl⟩⟩,λprog w A E Q h=>wpAny_pyIter_wide ha h⟩;exact⟨_,⟨t,.inl ⟨_,Zan _ rfl,rfl,rfl⟩⟩,λprog w A E Q h=>wpAny_pyIter_ascii ha h⟩
@[reducible]def EE(h:Heap)(o1 o2:Obj):Heap:=((h.push o1).push o2).push { cls:=.type "tuple",data:=.seq #[.ref h.objs.size,.ref (h.push o1).objs.size] }
@[reducible]def JR(h:Heap)(o1 o2:Obj):Heap:=(EE h o1 o2).push { cls:=.type "tuple",data:=.seq #[.none,.none] }
@[reducible]def Ae(h:Heap)(o1 o2:Obj):Heap:=(JR h o1 o2).push { cls:=.type "zip",data:=.fields #[.none,.bool false,.bool false,.ref ((h.push o1).push o2).objs.size,.ref (EE h o1 o2).objs.size] }
def WX(u1 u2:Value)(o1 o2:Obj):
  Meets (Builtin.«zip.__new__» ⟨[.type "zip",u1,u2],[]⟩) (λ_ R s =>
   (∀(prog:Program) (w:World) (A:Around) (E:Value->Shared->Prop) (Q:Value->Shared->Prop),Q (.ref s.heap.objs.size) { s with heap:=s.heap.push o1 }->wpAny (model prog w) A (pyIter u1) Q E s) /\
   (∀(prog:Program) (w:World) (A:Around) (E:Value->Shared->Prop) (Q:Value->Shared->Prop),Q (.ref (s.heap.push o1).objs.size) { s with heap:=(s.heap.push o1).push o2 }->wpAny (model prog w) A (pyIter u2) Q E { s with heap:=s.heap.push o1 }) /\
   R (.ok (.ret (.ref (JR s.heap o1 o2).objs.size))) { s with heap:=Ae s.heap o1 o2 }) :=
 .of_wp λprog w A R s h=>by
  obtain⟨hp,g,d,tk,os⟩:=s;obtain⟨h1,h2,h⟩:=h;have hsub:=sub_zip;have Af:∀{A:Around} {E:Value->Shared->Prop} {Q:Value->Shared->Prop},Q (.ref hp.objs.size) ⟨hp.push o1,g,d,tk,os⟩->wpAny (model prog w) A (pyIter u1) Q E ⟨hp,g,d,tk,os⟩:=λq=>h1 prog w _ _ _ q;have Ag:∀{A:Around} {E:Value->Shared->Prop} {Q:Value->Shared->Prop},Q (.ref (hp.push o1).objs.size) ⟨(hp.push o1).push o2,g,d,tk,os⟩->wpAny (model prog w) A (pyIter u2) Q E ⟨hp.push o1,g,d,tk,os⟩:=λq=>h2 prog w _ _ _ q
  wp_walk using Af,Ag
  exact⟨_,rfl,h⟩
abbrev EF(K:Zfr)(ta:TA):TI:=λG H R=>ta G H λvs H1=>∃(x y:V) (s1 s2:ZS),vs=[x,y]/\s1.val K H1 x/\s2.val K H1 y/\R (Na K s1 s2) H1
def Q6{X:Cx}{es:List Expr}{x1}{p0:Pos}{l l':Expr}{ta:TA}{p pos:Pos}(hg:Gl X "zip")(hm:X.mg "zip" = none)(ha:PA X [l,l'] ta)(hs:starEach [l,l'] X.env=[(false,eval l X.env),(false,eval l' X.env)]:=by rfl)(hs2:starEach [l'] X.env=[(false,eval l' X.env)]:=by rfl):
  PI X (.Tuple es x1 p0) (.Call (.Name "zip" p) [l,l'] [] pos) (EF X.K ta):=by
 intro pins s G H R I h;refine Call_ (xG I hg hm zT (PyProof.Rows.callWith_type1 (cI (ha pos pins s G H _ I h) λus s1 ⟨vs,H1,I1,r1,q1⟩=>?_) (by rw[hs,hs2]) (by rw[hs2];rfl)));obtain⟨x,y,z1,z2,e,hv1,hv2,q⟩:=q1;subst e;cases r1 with
 |cons ru rr =>
  cases rr with
  |cons rv rr =>
   cases rr;obtain⟨o1,t1,WY⟩:=ZS.iter (s':=s1) I1 ru hv1 λ_ _ e=>e;obtain⟨o2,t2,WZ⟩:=ZS.iter (s':={ s1 with heap:=s1.heap.push o1 }) I1 rv hv2 λ_ _ e=>Zac _ e;refine callType_new F.called_zip ∅ (F.typeCall_zip_2 _ _) (F.newCall_zip_2 _ _) (λobj=>F.args_object_init_3 obj _ _) F.entry_zip_new (WX _ _ o1 o2) ⟨WY,WZ,?_⟩;have w1:(s1.heap.push o1).objs.size=s1.heap.objs.size+1:=Zba ..;have w2:((s1.heap.push o1).push o2).objs.size=s1.heap.objs.size+2:=by rw[Zba,w1]
   have w3:(EE s1.heap o1 o2).objs.size=s1.heap.objs.size+3:=by rw[Zba,w2]
   have w4:(JR s1.heap o1 o2).objs.size=s1.heap.objs.size+4:=by rw[Zba,w3]
   have W0:∀c o,s1.heap.get? c=some o->(Ae s1.heap o1 o2).get? c=some o:=λc o e=>Zac _ (Zac _ (Zac _ (Zac _ (Zac _ e))));have g5:IsZip (Ae s1.heap o1 o2) (JR s1.heap o1 o2).objs.size ((s1.heap.push o1).push o2).objs.size (EE s1.heap o1 o2).objs.size .none:=Zan _ rfl;have g4:IsPair (Ae s1.heap o1 o2) (EE s1.heap o1 o2).objs.size .none .none:=Zac _ (Zan _ rfl);have g3:IsPair (Ae s1.heap o1 o2) ((s1.heap.push o1).push o2).objs.size (.ref s1.heap.objs.size) (.ref (s1.heap.push o1).objs.size):=Zac _ (Zac _ (Zan _ rfl));have g2:z2.it (s1.heap.push o1).objs.size 0 (Ae s1.heap o1 o2):=t2.at λo e=>Zac _ (Zac _ (Zac _ e));have g1:z1.it s1.heap.objs.size 0 (Ae s1.heap o1 o2):=t1.at λo e=>Zac _ (Zac _ (Zac _ (Zac _ e)));refine⟨⟨_,g5,rfl⟩,?_⟩;refine wpAny_pyIter_zip g5 ?_;rw[w1]at g2 g3;rw[w2]at g3 g5;rw[w3]at g4 g5;rw[w4]at g5;have tz:Turn X.prog X.w X.K (.Tuple es x1 p0) (Na X.K z1 z2) [s1.heap.objs.size+4,s1.heap.objs.size+2,s1.heap.objs.size+3,s1.heap.objs.size,s1.heap.objs.size+1] (s1.heap.objs.size+4) (λi h=>IsZip h (s1.heap.objs.size+4) (s1.heap.objs.size+2) (s1.heap.objs.size+3) .none/\IsPair h (s1.heap.objs.size+2) (.ref s1.heap.objs.size) (.ref (s1.heap.objs.size+1))/\(∃a b,IsPair h (s1.heap.objs.size+3) a b)/\z1.it s1.heap.objs.size i h/\z2.it (s1.heap.objs.size+1) i h):=by
    refine WR z1 z2 _ _ _ _ _ ?_;have ne:∀{m n:Nat},m≠n->∀{a:Nat},a+m≠a+n:=λh a z=>h (Nat.add_left_cancel z);exact⟨ne (m:=2) (n:=4) ∅,ne (m:=3) (n:=4) ∅,ne (m:=0) (n:=4) ∅,ne (m:=1) (n:=4) ∅,ne (m:=2) (n:=3) ∅,ne (m:=3) (n:=0) ∅,ne (m:=3) (n:=1) ∅,ne (m:=0) (n:=1) ∅,ne (m:=2) (n:=0) ∅,ne (m:=2) (n:=1) ∅⟩
   refine⟨_,_,_,_,H1,by rw[w4],I1.kept (t':=s1.toks) W0,tz,⟨g5,g3,⟨_,_,g4⟩,g1,g2⟩,λb hb=>?_,q⟩;have hb':@LE.le Nat _ s1.heap.objs.size b:=by
    simp only[Zar,ZaW,or_false]at hb;rcases hb with rfl|rfl|rfl|rfl|rfl
    exact ZbO _ _;exact ZbO _ _;exact ZbO _ _;exact Zab _;exact ZbO _ _
   exact I1.o8 hb' (I1.hok.fresh hb')
end L2
namespace L2
open PySem PySem.Spec PyProof.Rows
section
variable {X:Cx}{K:Zfr}
abbrev eD(us:List Value)(ds:List PyData)(dx:PyData)(u:Value):Bool:=@decide (∃(i:Nat) (d:PyData),us[i]?=some u/\ds[i]?=some d/\PyData.eqv d dx=true) (Classical.propDecidable _)
end
open Builtin.Str
def EG:Slot "reversed" "__next__" "reversed.__next__" :=
 .of (owner:="reversed") (n:="__next__") (by rw[typeLookup_type,builtinLookup_eq_fast];kernel_rfl) (by decide +kernel) (by decide +kernel) (by decide +kernel)
  (by first|exact .inl (by decide +kernel)|exact .inr (by decide +kernel)) (by rw[isSubtype_type];kernel_rfl)
def Q7:Slot "reversed" "__iter__" "reversed.__iter__" :=
 .of (owner:="reversed") (n:="__iter__") (by rw[typeLookup_type,builtinLookup_eq_fast];kernel_rfl) (by decide +kernel) (by decide +kernel) (by decide +kernel)
  (by first|exact .inl (by decide +kernel)|exact .inr (by decide +kernel)) (by rw[isSubtype_type];kernel_rfl)
def Q8:entryFor table "reversed.__next__" = some Builtin.«reversed.__next__»:=entryFor_of_tree (by kernel_rfl)
def Q9(a:Value):argsOk "reversed.__next__" ⟨[a],[]⟩:=by unfold argsOk;kernel_rfl
def W2:entryFor table "reversed.__iter__" = some Builtin.«dict_keyiterator.__iter__» :=
 entryFor_alias (id':="dict_keyiterator.__iter__") (by kernel_rfl) (by first|rfl|decide +kernel) (by decide +kernel) (by kernel_rfl)
def W3(a:Value):argsOk "reversed.__iter__" ⟨[a],[]⟩:=by unfold argsOk;kernel_rfl
def W4:typeLookup (.type "tuple") "__reversed__" = pure none:=by rw[typeLookup_type,builtinLookup_eq_fast];kernel_rfl
def W5:typeLookup (.type "str") "__reversed__" = pure none:=by rw[typeLookup_type,builtinLookup_eq_fast];kernel_rfl
abbrev n9(h:Heap)(a:Addr)(v:Value)(i:Int):Prop:=∃o,h.get? a=some o/\o.cls=.type "reversed" /\ o.data=.fields #[v,rawInt i]
def n9.at{h h':Heap}{a:Addr}{v:Value}{i:Int}(x:n9 h a v i)(e:∀o,h.get? a=some o->h'.get? a=some o):n9 h' a v i:=let ⟨o,ho,r⟩:=x;⟨o,e _ ho,r⟩
section
variable {prog:Program}{w:World}{A:Around}{E:Value->Shared->Prop}{s:Shared}
def n9.typeIs{a:Addr}{v:Value}{i:Int}(x:n9 s.heap a v i):s.TypeIs (.ref a) "reversed" := let ⟨o,ho,hc,_⟩:=x;⟨o,ho,hc⟩
def Ra{it:Addr}{v:Value}{i:Int}{Q:Value->Shared->Prop}(hit:n9 s.heap it v i)(h:Q (.ref it) s):wpAny (model prog w) A (pyIter (.ref it)) Q E s:=by refine wpAny_pyIter_slot hit.typeIs Q7 (wpAny_call_entry Q7 hit.typeIs W2 ?_ (W3 _));show wpAny _ _ (ret (.ref it)) _ _ s;exact wpAny_pure ⟨_,rfl,"reversed",_,hit.typeIs,EG.lookup,h⟩
def W6{it:Addr}{T gid:String}{v:Value}{y:Value->Prop}{i:Nat}{Q:Option Value->Shared->Prop}(hit:n9 s.heap it v (i:Int))(hT:s.TypeIs v T)(hg:typeLookup (.type T) "__getitem__" = pure (some (.builtin gid)))
  (hget:∀(A':Around) (E':Value->Shared->Prop) (Q':Value->Shared->Prop) (tk:Tok) (n:Nat),(∀z k,y z->Q' z { s with toks:=k })->wpAny (model prog w) A' (getItem v (.int i tk)) Q' E' { s with toks:=n })
  (hQ:∀x h' k,y x->n9 h' it v ((i:Int)-1)->Heap.SameBut it s.heap h'->Q (some x) { s with heap:=h',toks:=k }):wpAny (model prog w) A (pyNext (.ref it)) Q E s:=by
 obtain⟨o,ho,hc,hd⟩:=id hit;unfold pyNext
 refine wpAny_bind (wpAny_attempt (wpAny_callSpecial?_slot (name:=Str.ofString "__next__") hit.typeIs EG
  (wpAny_call_entry EG hit.typeIs Q8 ?_ (Q9 _))))
 unfold Builtin.«reversed.__next__»;refine wpAny_bind (wpAny_of_eq (a:=(Value.ref it,[])) rfl ?_)
 try dsimp only
 refine wpAny_bind (wpAny_field ho hd (x:=v) rfl ?_);refine wpAny_bind (wpAny_field ho hd (x:=rawInt (i:Int)) rfl ?_);show wpAny _ _ (if(i:Int)<0 then _ else _) _ _ s;rw[if_neg ⋯];refine wpAny_bind (wpAny_specialOf hT hg ?_)
 try dsimp only
 rw[if_neg (by simp)];refine wpAny_bind (wpAny_mkInt ?_);refine wpAny_bind (wpAny_attempt (hget _ _ _ _ _ λx k hx=>?_));show wpAny _ _ (field (.ref it) 1 >>= _) _ _ _;refine wpAny_bind (wpAny_field ho hd (x:=rawInt (i:Int)) rfl ?_);refine wpAny_bind (wpAny_setField ho hd (by simp) ?_)
 first
 |refine wpAny_pure ⟨x,rfl,wpAny_pure (hQ _ _ _ hx ?_ (Zbv ..))⟩
 |refine wpAny_pure ⟨x,rfl,wpAny_bind (wpAny_pure (wpAny_pure (hQ _ _ _ hx ?_ (Zbv ..))))⟩
 exact⟨_,ZbU _ ho (Obj.isFreed_of_fields (Obj.data_mapFields hd _)),(Obj.cls_mapFields ..).trans hc,by rw[Obj.data_mapFields hd];simp[rawInt]⟩
def W7{it:Addr}{v:Value}{i:Int}{Q:Option Value->Shared->Prop}(hh:A.handled=none)(hit:n9 s.heap it v i)(hi:i<0)
  (hQ:∀h',Heap.ExtBut it s.heap h'->Q none { s with heap:=h' }):wpAny (model prog w) A (pyNext (.ref it)) Q E s:=by
 obtain⟨o,ho,hc,hd⟩:=id hit;unfold pyNext
 refine wpAny_bind (wpAny_attempt (wpAny_callSpecial?_slot (name:=Str.ofString "__next__") hit.typeIs EG
  (wpAny_call_entry EG hit.typeIs Q8 ?_ (Q9 _))))
 unfold Builtin.«reversed.__next__»;refine wpAny_bind (wpAny_of_eq (a:=(Value.ref it,[])) rfl ?_)
 try dsimp only
 refine wpAny_bind (wpAny_field ho hd (x:=v) rfl ?_);refine wpAny_bind (wpAny_field ho hd (x:=rawInt i) rfl ?_);show wpAny _ _ (if i<0 then _ else _) _ _ s;rw[if_pos hi];refine wpAny_bind (wpAny_rule ?_);refine wpAny_bind ?_;show wpAny _ _ (setField (.ref it) 1 (rawInt (-1)) >>= λ_=>setField (.ref it) 0 .none) _ _ _;refine wpAny_bind (wpAny_setField ho hd (by simp) ?_);have W8:=ZbU (Obj.mapFields λx=>x.setIfInBounds 1 (rawInt (-1))) ho (Obj.isFreed_of_fields (Obj.data_mapFields hd _));have hd1:=Obj.data_mapFields hd (λx=>x.setIfInBounds 1 (rawInt (-1)));refine wpAny_setField W8 hd1 (by simp) ?_
 first
 |show wpAny _ _ (newExc (.type "StopIteration") [] >>= _) _ _ _
 |(refine wpAny_bind ?_;show wpAny _ _ (newExc (.type "StopIteration") [] >>= _) _ _ _)
 refine wpAny_bind ?_;simp only[newExc,newTuple];refine wpAny_bind (wpAny_newObj_type ?_ (by size_fits));refine wpAny_bind (m:=firstArgMember _ _) (wpAny_of_eq (a:=Value.none) (by first|rfl|(simp only[firstArgMember];rfl)) ?_);refine wpAny_newObj_type ?_ (by size_fits);simp only[raiseNew];refine wpAny_bind (wpAny_handled ?_)
 first|rw[show A.in1.handled=none from hh]|rw[hh]
 refine wpAny_bind (wpAny_pure (wpAny_throw ?_));refine wpAny_bind (wpAny_isInstance (T:="StopIteration") (b:=true) ⟨_,Zan _ rfl,rfl⟩ isSubtype_stop ?_);refine wpAny_pure (hQ _ ?_);have x2:Heap.ExtBut it s.heap ((s.heap.update it (Obj.mapFields λx=>x.setIfInBounds 1 (rawInt (-1)))).update it (Obj.mapFields λx=>x.setIfInBounds 0 .none)):=λc o hc e=>(Zbv ..).extBut c o hc ((Zbv ..).extBut c o hc e);exact(x2.push _).push _
end
abbrev Rb(K:Zfr)(src:ZS)(n:Nat):It:=⟨λi H=>i<n/\∃v,src.has K H (n-1-i) v,λi H x H'=>H'=H/\∀v,src.has K H (n-1-i) v->v=x,λi _=>i=n⟩
def ZS.got{X:Cx}{pins:List (Addr×Obj)}{G:St}{H:Hp}{s:Shared}{src:ZS}{u:Value}{x:V}{i:Nat}{v:V}(I:Inv X pins G H s)(r:RelV x u)(hv:src.val X.K H x)(nl:∀a,src≠.lst a)(hs:∀z,src=.str z->z.length<=sizeLine)(h:src.has X.K H i v):
  ∃(T gid:String) (y:Value->Prop),s.TypeIs u T/\typeLookup (.type T) "__getitem__" = pure (some (.builtin gid))/\(∀z,y z->RelV v z) /\
   ∀(A':Around) (E':Value->Shared->Prop) (Q':Value->Shared->Prop) (tk:Tok) (n:Nat),(∀z k,y z->Q' z { s with toks:=k })->wpAny (model X.prog X.w) A' (getItem u (.int i tk)) Q' E' { s with toks:=n }:=by
 have hn:=mQ;cases src with
 |lst a=>exact absurd rfl (nl a)
 |tup a =>
  obtain⟨rfl,xs,hq⟩:=hv;obtain⟨xs',hq',hx⟩:=h;rw[I.jP hq' hq]at hx;cases r;obtain⟨its,rv,pl,hz⟩:=I.tuple hq;obtain⟨w,ew,rw'⟩:=rv.get hx;have hl:=rv.length;have hi:=(Zad.mp hx).1;refine⟨"tuple",_,λz=>z=w,pl.typeIs,slot_tuple_getitem.lookup,λz e=>e ▸ rw',λA' E' Q' tk n hq'=>?_⟩;exact getItem_tuple (s:={ s with toks:=n }) (j:=i) pl ⋯ ⋯ (by rw[Zap];exact seqIndex_of ⋯ ⋯) (by simpa using ew) (hq' w n rfl)
 |str z =>
  cases hv;obtain⟨c,hx,rfl⟩:=h;obtain⟨t,rfl⟩:=r;have hi:=(Zb5.mp hx).1;have hl:z.length=z.cps.size:=rfl;have EH:=hs z rfl;refine⟨"str",_,λy=>∃t,y=.str ⟨#[c]⟩ t,typeIs_str s z t,slot_str_getitem.lookup,λy hy=>hy,λA' E' Q' tk n hq'=>?_⟩
  refine getItem_str (s:={ s with toks:=n }) (c:=c) (by
   have e1:decide ((i:Int) < -(2 ^ 63:Int))=false:=decide_eq_false ⋯;have e2:decide ((i:Int) >= 2 ^ 63)=false:=decide_eq_false ⋯
   rw[e1,e2,ZcO]) (by rw[seqIndex_of ⋯ ⋯];simpa using hx) (hq' _ _ ⟨_,rfl⟩)
def W9{P:Program}{w:World}{K:Zfr}{tg:Expr}(src:ZS)(u:Value)(n:Nat)(it:Addr)(nl:∀a,src≠.lst a)(hs:∀z,src=.str z->z.length<=sizeLine)(x:V)(rx:RelV x u)(hsv:∀(H:Hp) (v:V) (i:Nat),src.has K H i v->src.val K H x):
  Turn P w K tg (Rb K src n) [it] it (λi h=>n9 h it u ((n:Int)-1-(i:Nat))) where
 mem:=by simp
 obj:=λi h st b hb=>by
  have e:b=it:=by simpa using hb
  subst e;obtain⟨o,e,c,d⟩:=st;exact⟨o,e,λv z=>by rw[d]at z;cases z⟩
 keep:=λi h h' st k=>st.at λo e=>k it (by simp) o e
 item:=by
  intro X hP hw hK hc i pins s G H E I hf st hg;subst hP hw hK;obtain⟨hin,v,hv⟩:=hg;obtain⟨f0,f1,f2,f3,f4,f5⟩:=hf it (by simp);obtain⟨T,gid,y,hT,hl,hy,hget⟩:=ZS.got I rx (hsv H v _ hv) nl hs hv;have st':n9 s.heap it u ((n-1-i:Nat):Int):=by
   have e:((n-1-i:Nat):Int)=(n:Int)-1-(i:Nat):=by lk
   rw[e];exact st
  refine W6 st' hT hl hget λz h' tk hz hr sb=>?_;have I1:Inv X pins G H { s with heap:=h',toks:=tk }:=I.turned (λb o hb e=>(sb.2 b hb).trans e) f0 f1 f3 f4 f5;have hr':n9 h' it u ((n:Int)-1-((i+1:Nat):Int)):=by
   have e:(n:Int)-1-((i+1:Nat):Int)=((n-1-i:Nat):Int)-1:=by lk
   rw[e];exact hr
  obtain⟨o,e,c,d⟩:=id hr;exact⟨z,rfl,zB (s:={ s with heap:=h',toks:=tk }) e c d ∅ ⟨v,H,I1,hy z hz,⟨rfl,λv' hv'=>ZS.qy I hv hv'⟩,hr',λb hb=>(hf b hb).1⟩⟩
 done:=by
  intro X hP hw hK hc i pins s G H E I hf st hg;subst hP hw hK;have hg:i=n:=hg;subst hg;obtain⟨f0,f1,f2,f3,f4,f5⟩:=hf it (by simp);exact W7 (I.ok.hd hc) st ⋯ λh' eb=>⟨rfl,I.turned (t':=s.toks) (λb o hb e=>eb b o hb e) f0 f1 f3 f4 f5⟩
 self:=λ_ _ _ _ _ st h=>Ra st h
def Xa:Slot "reversed" "__init__" "object.__init__" :=
 .of (owner:="object") (n:="__init__") (by rw[typeLookup_type,builtinLookup_eq_fast];kernel_rfl) (by decide +kernel) (by decide +kernel) (by decide +kernel)
  (by first|exact .inl (by decide +kernel)|exact .inr (by decide +kernel)) (by rw[isSubtype_type];kernel_rfl)
def Rc:TypeCalled "reversed" "reversed.__new__" "object.__init__" :=
 ⟨by decide +kernel,by decide +kernel,⟨_,_,F.mro_reversed⟩,F.made_reversed,by decide +kernel,by rw[isSubtype_type];kernel_rfl,Xa⟩
def Rf{u:Value}{T gid:String}{n:Nat}(h0:typeLookup (.type T) "__reversed__" = pure none)(h1:typeLookup (.type T) "__getitem__" = pure (some (.builtin gid)))(hsub:isSubtype (.type T) (.type "dict")=pure false)
  (Nc:["tuple.__getitem__","str.__getitem__","bytes.__getitem__","bytearray.__getitem__","memoryview.__getitem__","numpy.ndarray.__getitem__","sqlite3.Row.__getitem__"].contains gid=true) :
  Meets (Builtin.«reversed.__new__» ⟨[.type "reversed",u],[]⟩) (λ_ R s=>s.TypeIs u T /\
   (∀(prog:Program) (w:World) (A':Around) (E':Value->Shared->Prop) (Q':Value->Shared->Prop),(∀t k,Q' (.int n t) { s with toks:=k })->wpAny (model prog w) A' (call (.builtin "len") [u]) Q' E' s) /\
   ∀k,R (.ok (.ret (.ref s.heap.objs.size))) { s with heap:=s.heap.push { cls:=.type "reversed",data:=.fields #[u,rawInt ((n:Int)-1)] },toks:=k }) :=
 .of_wp λprog w A R s h=>by
 obtain⟨hT,hlen,h⟩:=h;unfold Builtin.«reversed.__new__»;refine wpAny_bind (wpAny_of_eq (newClass_reversed _) ?_)
 try dsimp only
 refine wpAny_bind (wpAny_of_eq (a:=()) (by first|rfl|kernel_rfl) ?_);refine wpAny_bind (wpAny_of_eq (a:=()) (by first|rfl|kernel_rfl) ?_)
 try dsimp only
 refine wpAny_bind (wpAny_specialOf hT h0 ?_)
 try dsimp only
 refine wpAny_bind ?_;show wpAny _ _ (isInstance u (.type "dict") >>= _) _ _ _;refine wpAny_bind (wpAny_isInstance (b:=false) hT hsub ?_);rw[if_neg Zal];refine wpAny_bind (wpAny_specialOf hT h1 ?_);show wpAny _ _ (if["tuple.__getitem__","str.__getitem__","bytes.__getitem__","bytearray.__getitem__","memoryview.__getitem__","numpy.ndarray.__getitem__","sqlite3.Row.__getitem__"].contains gid=true then _ else _) _ _ _;rw[if_pos Nc];refine wpAny_pure ?_;rw[if_neg (by simp)];refine wpAny_bind (hlen _ _ _ _ _ λt k=>?_);refine wpAny_bind (wpAny_of_eq (a:=some (n:Int)) rfl ?_)
 try dsimp only
 refine wpAny_bind ?_;show wpAny _ _ (newObj (.type "reversed") (.fields #[u,rawInt ((n:Int)-1)])) _ _ _;refine wpAny_newObj_type ?_;exact wpAny_pure ⟨_,rfl,h k⟩
def Xb:isSubtype (.type "tuple") (.type "dict")=pure false:=by rw[isSubtype_type];kernel_rfl
def Xc:isSubtype (.type "str") (.type "dict")=pure false:=by rw[isSubtype_type];kernel_rfl
abbrev EI(K:Zfr)(ta:TA):TI:=λG H R=>ta G H λvs H1=>∃(x:V) (src:ZS) (n:Nat),vs=[x]/\src.val K H1 x/\src.fin K H1 n/\(∀a,src≠.lst a)/\(∀z,src=.str z->z.length<=sizeLine)/\R (Rb K src n) H1
def Nd{X:Cx}{tg l:Expr}{ta:TA}{p pos:Pos}(hg:Gl X "reversed")(hm:X.mg "reversed" = none)(ha:PA X [l] ta)(hs:starEach [l] X.env=[(false,eval l X.env)]:=by rfl):
  PI X tg (.Call (.Name "reversed" p) [l] [] pos) (EI X.K ta):=by
 intro pins s G H R I h;refine Call_ (xG I hg hm Wk (PyProof.Rows.callWith_type1 (cI (ha pos pins s G H _ I h) λus s1 ⟨vs,H1,I1,r1,q1⟩=>?_) hs rfl));obtain⟨x,src,n,e,hv,hn,nl,hz,q⟩:=q1;subst e;obtain⟨u,rfl,r⟩:=vals1 r1;have l63:=mQ;have hsv:∀(H:Hp) (v:V) (i:Nat),src.has X.K H i v->src.val X.K H x:=λH v i hh=>by
  cases src with
  |tup a=>obtain⟨xs,h1,_⟩:=hh;exact⟨hv.1,xs,h1⟩
  |lst a=>exact absurd rfl (nl a)
  |str z=>exact hv
 have fin:∀k,wpAny (model X.prog X.w) X.A (pyIter (.ref s1.heap.objs.size)) (JA X pins G tg R) X.xe { s1 with heap:=s1.heap.push { cls:=.type "reversed",data:=.fields #[u,rawInt ((n:Int)-1)] },toks:=k }:=λk=>by
  have g:n9 (s1.heap.push { cls:=.type "reversed",data:=.fields #[u,rawInt ((n:Int)-1)] }) s1.heap.objs.size u ((n:Int)-1-(0:Nat)):=⟨_,Zan _ rfl,rfl,by simp⟩;refine Ra g ?_;refine⟨s1.heap.objs.size,[s1.heap.objs.size],_,_,H1,rfl,I1.kept (t':=k) λb o e=>Zac _ e,W9 src u n _ nl hz x r hsv,g,λb hb=>?_,q⟩;have e:b=s1.heap.objs.size:=by simpa using hb
  subst e;exact I1.o8 (Zab _) (I1.hok.fresh (Zab _))
 cases src with
 |lst a=>exact absurd rfl (nl a)
 |tup a =>
  obtain⟨rfl,xs,hq⟩:=id hv;obtain⟨xs',hq',hx⟩:=hn;have hx:xs.length=n:=by rw[<- I1.jP hq' hq];exact hx
  cases r;obtain⟨its,rv,pl,hz'⟩:=I1.tuple hq;have hl:=rv.length;refine callType_new Rc ∅ (F.typeCall_reversed_1 _) (F.newCall_reversed_1 _) (λobj=>F.args_object_init_2 obj _) F.entry_reversed_new (Rf (n:=n) W4 slot_tuple_getitem.lookup Xb ∅) ⟨pl.typeIs,λprog w A' E' Q' hq=>?_,λk=>⟨⟨_,Zan _ rfl,rfl⟩,fin k⟩⟩;have e:its.toArray.size=n:=by rw[Zap];lk
  refine len_tuple pl (by rw[e];lk) ?_;rw[e];exact hq _ _
 |str z =>
  cases hv;have hn:z.length=n:=hn;have:=hz z rfl;obtain⟨t,rfl⟩:=r;refine callType_new Rc ∅ (F.typeCall_reversed_1 _) (F.newCall_reversed_1 _) (λobj=>F.args_object_init_2 obj _) F.entry_reversed_new (Rf (n:=n) W5 slot_str_getitem.lookup Xc ∅) ⟨typeIs_str _ z t,λprog w A' E' Q' hq=>?_,λk=>⟨⟨_,Zan _ rfl,rfl⟩,fin k⟩⟩;refine len_str ⋯ ?_;rw[hn];exact hq _ _
end L2
namespace L2
open PySem PySem.Spec PyProof.Rows
open Builtin
abbrev wM:Nat:=2 ^ 1000
abbrev sX(i j:Int):Prop:=uJ i j\/(i.natAbs<wM/\j.natAbs<wM)
def sX.ok{i j:Int}(h:sX i j):IntMulOk i j:=by
 rcases h with h|⟨h1,h2⟩
 exact h.ok;exact PyProof.Rows.mulOk_of_bits (m:=1000) (n:=1000) (PyProof.Rows.intBits_le h1) (PyProof.Rows.intBits_le h2) ∅
section
variable {X:Cx}
def sY:mP X (binaryOp .Mult) (rI sX λi j=>.int (i*j)):=Ct λ_ _ _ _ _ _ _ hc q=>mul_int q hc.ok
end
end L2
namespace L2
open PySem PySem.Spec PyProof.Rows
set_option genInjectivity false in
inductive TV where
 |int (i:Int)|str (x:Str)
abbrev TV.v:TV->V
 |.int i=>.int i
 |.str x=>.str x
abbrev TV.dat:TV->PyData
 |.int i=>.int i
 |.str x=>.str x
abbrev tV(D:List (Str×TV)):List (Str×KTD.Dat):=D.map λp=>(p.1,KTD.Dat.flat p.2.dat)
abbrev mz(D:List (Str×TV))(k:Str):Option TV:=match D with
 |[]=>none
 |(x,v) :: r=>if k=x then some v else mz r k
def Nf{k:Str}{v:TV}:∀{D:List (Str×TV)},mz D k=some v->KTD.datumAt k (tV D)=some (.flat v.dat)
 |(x,w) :: r,h=>by
  unfold mz at h;show KTD.datumAt k ((x,KTD.Dat.flat w.dat) :: tV r)=_;unfold KTD.datumAt;split at h
  ·next e=>cases h;simp[e]
  ·next e=>simp only[e];simpa[e]using Nf h
def Xf{v:TV}{u:Value}(h:PyProof.V.Flat u v.dat):RelV v.v u:=by
 cases v with
 |int i=>exact h.int_inv
 |str x=>exact h.str_inv
section
variable {prog:Program}{w:World}{A:Around}{E:Value->Shared->Prop}{s:Shared}
def Xg{a:Addr}{D:List (Str×TV)}{k:Str}{tk:Tok}{v:TV}{Q:Value->Shared->Prop}(T:KTD.TextTab s.heap a (tV D))(hv:mz D k=some v)(h:∀u n,RelV v.v u->Q u { s with toks:=n }):
  wpAny (model prog w) A (getItem (.ref a) (.str k tk)) Q E s:=by
 have H:KTD.Here s.heap s.heap a (tV D):=⟨T,λb o e=>e⟩;unfold getItem
 try with_reducible refine wpAny_holding ?_
 refine wpAny_bind (wpAny_sequenceKey H.typeIs ∅ ?_)
 refine wpAny_bind (wpAny_callSpecial?_slot (name:=Str.ofString "__getitem__") H.typeIs PySem.F.slot_dict_getitem
  (wpAny_call_entry PySem.F.slot_dict_getitem H.typeIs PySem.F.entry_dict_getitem ?_ (PySem.F.args_dict_getitem_2 _ _)))
 show wpAny _ _ (dictGet a (.str k tk) >>= _) _ _ s;refine wpAny_bind (KTD.dictGet_text H (λd u ha hu=>?_) λhn=>?_);rw[Nf hv]at ha;cases ha;exact wpAny_pure ⟨u,rfl,wpAny_pure (h u _ (Xf hu))⟩;rw[Nf hv]at hn;cases hn
end
structure pf(K:Zfr)(mg:Str->Option Value)(x:Str)(D:List (Str×TV)):Prop where
 ex:∃a,mg x=some (.ref a)/\KTD.tabLook (KTD.datLooks λb=>K.lookup b) (λb=>K.lookup b) a (tV D)=true
abbrev Ah(D:List (Str×TV))(ty:TE):TE:=λG H Q=>ty G H λy H1=>∃z v,y=.str z/\mz D z=some v/\Q v.v H1
def Ng{X:Cx}{K:Zfr}{mg:Str->Option Value}{x:Str}{D:List (Str×TV)}{i:Expr}{ty:TE}{p pos:Pos}(C:pf K mg x D)(hK:X.K=K)(hX:X.mg=mg)(hg:Gl X x)(hi:PE X i ty)(hs:zP i)(hd:(x == ("__debug__" : Str))=false:=by decide):
  PE X (.Subscript (.Name x p) i pos) (Ah D ty):=by
 subst hK hX;obtain⟨a,ha,hl⟩:=C.ex;intro pins s G H Q I h;refine Qy PySem.F.slot_dict_getitem.lookup hs (cI (PJ (v:=.ref a) hg ha rfl hd pins s G H (λx H1=>x=.ref a/\Ah D ty G H1 Q) I ⟨rfl,h⟩) λu s1 ⟨x,H1,I1,rx,ex,q1⟩=>cI (hi pins s1 G H1 _ I1 q1) λiv s2 ⟨y,H2,I2,ry,z,v,ey,lk,q2⟩=>?_);subst ex ey;obtain rfl:u=Value.ref a:=rx;obtain⟨t,rfl⟩:=ry;have T:=PySem.W.kt_text_in I2.DE hl;exact⟨KTD.Here.typeIs ⟨T,λb o e=>e⟩,Xg T lk λw' n rw'=>⟨v.v,H2,I2.tok _,rw',q2⟩⟩
def Nh{K:Zfr}{h:Heap}{mg:Str->Option Value}(X:K.In h)(G:h.Ns mainGlobals mg){x:Str}{a:Addr}{D:List (Str×TV)}(e:PySem.W.nsIn K mainGlobals x=some (some (.ref a)))(l:KTD.tabLook (KTD.datLooks λb=>K.lookup b) (λb=>K.lookup b) a (tV D)=true):pf K mg x D :=
 ⟨a,PySem.W.mg_of X G e,l⟩
abbrev EJ(K:Zfr)(a:Addr):It :=
 ⟨λi H=>∃xs x,kR K H a xs/\xs[i]?=some x,λi H x H'=>∃p y,x=.ref p/\H p=none/\H'=upd H p (.tup [.int i,y])/\∀xs,kR K H a xs->xs[i]?=some y,λi H=>∃xs,kR K H a xs/\xs.length=i⟩
def Xh{P:Program}{w:World}{K:Zfr}{es:List Expr}{x1}{pos:Pos}(a e it:Addr)(hne:e≠it):
  Turn P w K (.Tuple es x1 pos) (EJ K a) [e,it] e (λi h=>(∃old,IsEnum h e it i old)/\h.IsListIter it a i) where
 mem:=by simp
 obj:=λi h st b hb=>by
  obtain⟨⟨old,he⟩,o,e2,c,d⟩:=st;rcases Zar.mp hb with rfl|hb
  exact⟨_,he,λv z=>by
   have z':Data.fields _=Data.cell v:=z
   cases z'⟩
  have q:b=it:=by simpa using hb
  subst q;exact⟨o,e2,λv z=>by rw[d]at z;cases z⟩
 keep:=λi h h' st k=>⟨let ⟨old,he⟩:=st.1;⟨old,k e (by simp) _ he⟩,st.2.at λo q=>k it (by simp) o q⟩
 item:=by
  intro X hP hw hK hc i pins s G H E I hf st hg;subst hP hw hK;obtain⟨xs,x,hq,hx⟩:=hg;obtain⟨its,rv,p,hz⟩:=I.list hq;obtain⟨u,hu,ru⟩:=rv.get hx;obtain⟨⟨old,he⟩,hit⟩:=st;have ht:s.heap.IsList a its.toArray:=p.isList;have Ab:a≠it:=λz=>by
   obtain⟨o,e1,c1,_⟩:=hit;obtain⟨o2,e2,c2,_⟩:=ht;rw[z,e1]at e2;cases e2;exact absurd (c1.symm.trans c2) (by simp)
  have M3:e≠a:=λz=>by
   obtain⟨o2,e2,c2,_⟩:=ht;rw[<- z,he]at e2;cases e2;exact absurd c2 (by simp)
  have hl:=rv.length;have hi:i<its.toArray.size:=by
   have:=Zad.mp hu;obtain⟨q,_⟩:=this
   simpa using q
  refine wpAny_pyNext_enum_itemD (Draws.list (A:=X.A.in1) (I.ok.hd hc) it a Ab its.toArray) he ⟨hit,ht⟩ hi hne (by simp[hne,M3]) λy h1 tk hy ho hst hT hsz kk=>?_;have ey:y=u:=by
   have:its.toArray[i]?=some u:=by simpa using hu
   exact Zai (hy.symm.trans this)
  subst ey;refine⟨_,rfl,wpAny_letOwnedTupleGo_enum ho λh2 M4 sb=>?_⟩;have hel:@LT.lt Nat _ e s.heap.objs.size:=Zaq he;have hil:@LT.lt Nat _ it s.heap.objs.size:=by obtain⟨o,e1,_⟩:=hit;exact Zaq e1
  have EA:H s.heap.objs.size=none:=I.hok.fresh (Zab _);have sb':Heap.SameBut e h1 h2:=sb;have I1:Inv X pins G (upd H s.heap.objs.size (.tup [.int i,x])) { s with heap:=s.heap.push { cls:=.type "tuple",data:=.seq #[.int i tk,y] },toks:=s.toks } :=
   I.laid (λb u e=>Zac _ e) (Zab _) ⟨(by decide:2<=sizeLine),[.int i tk,y],.cons ⟨tk,rfl⟩ (.cons ru .nil),⟨_,Zan _ rfl,rfl,rfl,_,rfl⟩⟩
  have nn:∀b∈[e,it],@LT.lt Nat _ b s.heap.objs.size:=λb hb=>by
   rcases Zar.mp hb with rfl|hb
   exact hel;have q:b=it:=by simpa using hb
   rw[q];exact hil
  have hn:∀b∈[e,it],upd H s.heap.objs.size (.tup [.int i,x]) b=none:=λb hb=>by
   unfold upd;rw[if_neg (ZaX (nn b hb))];exact(hf b hb).1
  have I2:Inv X pins G (upd H s.heap.objs.size (.tup [.int i,x])) { s with heap:=h2,toks:=tk+1 }:=by
   refine Inv.oM (s:={ s with heap:=s.heap.push { cls:=.type "tuple",data:=.seq #[.int i tk,y] },toks:=s.toks }) (h':=h2) I1 (ch:=[e,it]) (t':=tk+1) (λb o hb q=>?_) λb hb=>⟨hn b hb,(hf b hb).2⟩;have nb:b≠e/\b≠it:=by simpa using hb
   refine(sb'.2 b nb.1).trans ?_;rcases Heap.get?_push_cases q with⟨rfl,rfl⟩|q
   exact hT;exact kk b o nb.1 nb.2 q
  refine⟨.ref s.heap.objs.size,_,I2,rfl,⟨_,x,rfl,EA,rfl,λys M5=>by rw[I.o7 M5 hq];exact hx⟩,⟨⟨y,?_⟩,?_⟩,hn⟩
  have:((i+1:Nat):Int)=(i:Int)+1:=by lk
  rw[this];exact M4;exact hst.1.extBut sb'.extBut (Ne.symm hne)
 done:=by
  intro X hP hw hK hc i pins s G H E I hf st hg;subst hP hw hK;obtain⟨xs,hq,hx⟩:=hg;obtain⟨its,rv,p,hz⟩:=I.list hq;obtain⟨⟨old,he⟩,hit⟩:=st;have ht:s.heap.IsList a its.toArray:=p.isList;have Ab:a≠it:=λz=>by
   obtain⟨o,e1,c1,_⟩:=hit;obtain⟨o2,e2,c2,_⟩:=ht;rw[z,e1]at e2;cases e2;exact absurd (c1.symm.trans c2) (by simp)
  have hl:=rv.length;have ei:its.toArray.size=i:=by simp;lk
  refine wpAny_pyNext_enum_endD (Draws.list (A:=X.A.in1) (I.ok.hd hc) it a Ab its.toArray) he (by rw[ei];exact⟨hit,ht⟩) λh1 eb=>⟨rfl,?_⟩;obtain⟨f0,f1,f2,f3,f4,f5⟩:=hf it (by simp);exact I.turned (t':=s.toks) (λb o hb q=>eb b o hb q) f0 f1 f3 f4 f5
 self:=λ_ _ _ _ _ st h=>let ⟨_,he⟩:=st.1;wpAny_pyIter_enum he h
abbrev uX(K:Zfr)(ta:TA):TI:=λG H R=>ta G H λvs H1=>∃a,vs=[.ref a]/\(((∃xs,gS K H1 a xs)/\R (M1 K a) H1)\/((∃xs,kR K H1 a xs)/\R (EJ K a) H1))
def Xi{X:Cx}{es:List Expr}{x1}{p0:Pos}{l:Expr}{ta:TA}{p pos:Pos}(hg:Gl X "enumerate")(hm:X.mg "enumerate" = none)(ha:PA X [l] ta)(hs:starEach [l] X.env=[(false,eval l X.env)]:=by rfl):
  PI X (.Tuple es x1 p0) (.Call (.Name "enumerate" p) [l] [] pos) (uX X.K ta):=by
 intro pins s G H R I h;refine Call_ (xG I hg hm boot_enumerate (PyProof.Rows.callWith_type1 (cI (ha pos pins s G H _ I h) λus s1 ⟨vs,H1,I1,r1,q1⟩=>?_) hs rfl));obtain⟨a,e,q⟩:=q1;subst e;cases r1 with
 |cons r rr =>
  cases rr;cases r;have fin:∀b∈[s1.heap.objs.size+1,s1.heap.objs.size],iC X pins H1 b:=λb hb=>by
   have hb':@LE.le Nat _ s1.heap.objs.size b:=by
    rcases Zar.mp hb with rfl|hb
    exact Nat.le_succ _;have e:b=s1.heap.objs.size:=by simpa using hb
    rw[e];exact Zab _
   exact I1.o8 hb' (I1.hok.fresh hb')
  rcases q with⟨⟨xs,hq⟩,q⟩|⟨⟨xs,hq⟩,q⟩
  obtain⟨its,rv,p,hz⟩:=I1.tuple hq;refine QU (show s1.heap.IsTuple a its.toArray from p) λh1 he hi hsz kk=>?_;refine wpAny_pyIter_enum he ?_;exact⟨s1.heap.objs.size+1,[s1.heap.objs.size+1,s1.heap.objs.size],_,_,H1,rfl,I1.kept (t':=s1.toks) kk,QV a _ _ (Nat.succ_ne_self _),⟨⟨_,he⟩,hi⟩,fin,q⟩;obtain⟨its,rv,p,hz⟩:=I1.list hq;refine PySem.call_enumerate_list p.isList λh1 he hi hsz kk=>?_;refine wpAny_pyIter_enum he ?_;exact⟨s1.heap.objs.size+1,[s1.heap.objs.size+1,s1.heap.objs.size],_,_,H1,rfl,I1.kept (t':=s1.toks) kk,Xh a _ _ (Nat.succ_ne_self _),⟨⟨_,he⟩,hi⟩,fin,q⟩
abbrev DU(a:Addr)(xs:List (List Int×Addr×Value)):HO:=.ext λh=>(a == sysModules)=false/\xs.length<=sizeLine/\∃o es ep,h.get? a=some o/\o.ExactDict/\o.data=.dict es ep /\
 (∃(P:Program) (w:World),es.toList=xs.map (entryOfKey (tupleKind (intKind P w))))/\(xs.map (·.1)).Nodup
end L2
namespace L2
open PySem PySem.Spec PyProof.Rows PySem.SeqAt PySem.MeetsSeq
end L2
namespace L2
open PySem PySem.Spec PyProof.Rows PySem.W
section
variable {lt:Nat->Nat->Bool}{n0:Nat}{cmp:Nat->Nat->(Bool->Shared->Prop)->Shared->Prop}{s:Shared}
structure Ord(lt:Nat->Nat->Bool):Prop where
 tr:∀a b c,lt b a=false->lt c b=false->lt c a=false
 as:∀a b,lt a b=true->lt b a=false
abbrev P(p:Array Nat)(i:Nat):Nat:=p.getD i 0
variable (o:Ord lt)(hn:0<n0)(hc:∀i j (C:Bool->Shared->Prop),i<n0->j<n0->C (lt i j) s->cmp i j C s)
include o hn hc
end
end L2
namespace L2
open PySem PySem.Spec PyProof.Rows
end L2
namespace L2
open PySem PySem.Spec PyProof.Rows PySem.W
end L2
namespace L2
open PySem PySem.Spec PyProof.Rows
abbrev Xj:Option Addr->Value
 |none=>.none
 |some T=>.ref T
@[reducible]def Tr:=Option Addr×Bool
abbrev XO(a C:Addr)(dx:Option Addr)(tr:Tr):HO:=.ext λh=>∃o vs,h.get? a=some o/\o.cls=.ref C/\o.dict=dx/\o.data=.fields vs/\vs[1]?=some (Xj tr.1)/\(tr.2=true->vs[2]?=some .none/\4<vs.size)
end L2
namespace L2
open PySem PySem.Spec PyProof.Rows PySem.W
end L2
namespace L2
open PySem PySem.Spec PyProof.Rows
def Rg(a b:Int):Builtin.Range.rangeSize a b (-1)=if b<a then a-b else 0:=by unfold Builtin.Range.rangeSize;rw[if_neg ∅];simp only[Int.neg_neg,Int.ediv_one];split<;>lk
def Xk{a b:Int}(ha:-(2 ^ 62)<=a)(ha':a<2 ^ 62)(hb:-(2 ^ 62)<=b)(hb':b<2 ^ 62):Builtin.Range.small a b (-1)=true:=by unfold Builtin.Range.small;rw[Rg];simp only[Builtin.Range.rangeFitsLong,ZaJ,ZbH,decide_eq_true_eq,beq_iff_eq,show ¬((-1:Int) > 0) by decide,if_false];split<;>lk
abbrev JS(lo:Int)(n:Nat):It:=⟨λi _=>i<n,λi H x H'=>H'=H/\x=.int (lo-i),λi _=>n<=i⟩
def Xl{P:Program}{w:World}{K:Zfr}{tg:Expr}(it:Addr)(lo:Int)(n:Nat):Turn P w K tg (JS lo n) [it] it (λi h=>IsRangeIter h it (lo+(i:Nat)*(-1)) ((n:Int)-(i:Nat)) (-1)) where
 mem:=by simp
 obj:=λi h st b hb=>by
  have e:b=it:=by simpa using hb
  subst e
  exact⟨_,st,λv z=>by
   have z':Data.fields _=Data.cell v:=z
   cases z'⟩
 keep:=λi h h' st k=>k it (by simp) _ st
 item:=by
  intro X hP hw hK hc i pins s G H E I hf st hg;subst hP hw hK;obtain⟨f0,f1,f2,f3,f4,f5⟩:=hf it (by simp);have W:=Walks.range (prog:=X.prog) (w:=X.w) (I.ok.hd hc) it lo (-1) n;refine W.item i s _ _ hg st λv h' tk hv st' kk=>?_;obtain⟨t,rfl⟩:=hv;have I1:Inv X pins G H { s with heap:=h',toks:=tk }:=I.turned (λb o hb e=>kk b o (by simpa using hb) e) f0 f1 f3 f4 f5;refine⟨_,rfl,zB (s:={ s with heap:=h',toks:=tk }) (n:="range_iterator") st' rfl rfl ∅ ⟨.int (lo-i),H,I1,⟨t,?_⟩,⟨rfl,rfl⟩,st',λb hb=>(hf b hb).1⟩⟩;rw[Int.mul_neg,Int.mul_one,<- Int.sub_eq_add_neg]
 done:=by
  intro X hP hw hK hc i pins s G H E I hf st hg;subst hP hw hK;obtain⟨f0,f1,f2,f3,f4,f5⟩:=hf it (by simp);exact wpAny_pyNext_range_end (I.ok.hd hc) st (by have:n<=i:=hg;lk) λh' eb=>⟨rfl,I.turned (t':=s.toks) (λb o hb e=>eb b o hb e) f0 f1 f3 f4 f5⟩
 self:=λ_ _ _ _ _ st h=>wpAny_pyIter_rangeiter st h
section
variable {X:Cx}{tg:Expr}
def Xm{pins:List (Addr×Obj)}{G:St}{H:Hp}{s:Shared}{R:It->Hp->Prop}{E:Value->Shared->Prop}{lo hi:Int}{t u v:Tok}{tk:Nat}(I:Inv X pins G H s)(h1:-(2 ^ 62)<=lo)(h2:lo<2 ^ 62)(h3:-(2 ^ 62)<=hi)(h4:hi<2 ^ 62)
  (q:R (JS lo (lo-hi).toNat) H):wpAny (model X.prog X.w) X.A (pyIter (.ref s.heap.objs.size)) (JA X pins G tg R) E { s with heap:=s.heap.push { cls:=.type "range",data:=.fields #[.int lo t,.int hi u,.int (-1) v] },toks:=tk }:=by
 refine wpAny_pyIter_range (IsRange.new ..) (Xk h1 h2 h3 h4) ?_;have I1:Inv X pins G H { s with heap:=s.heap.push { cls:=.type "range",data:=.fields #[.int lo t,.int hi u,.int (-1) v] },toks:=tk }:=I.kept λb o e=>Zac _ e
 refine⟨(s.heap.push { cls:=.type "range",data:=.fields #[.int lo t,.int hi u,.int (-1) v] }).objs.size,[(s.heap.push { cls:=.type "range",data:=.fields #[.int lo t,.int hi u,.int (-1) v] }).objs.size],_,_,H,rfl,
  I1.kept (t':=tk) λb o e=>Zac _ e,Xl _ lo (lo-hi).toNat,?_,λb hb=>?_,q⟩
 have e1:lo+((0:Nat):Int)*(-1)=lo:=by simp
 have e2:(((lo-hi).toNat:Nat):Int)-((0:Nat):Int)=Builtin.Range.rangeSize lo hi (-1):=by rw[Rg];split<;>lk
 show IsRangeIter _ _ (lo+((0:Nat):Int)*(-1)) ((((lo-hi).toNat:Nat):Int)-((0:Nat):Int)) (-1);rw[e1,e2];exact Zan _ rfl;have e:b=(s.heap.push { cls:=.type "range",data:=.fields #[.int lo t,.int hi u,.int (-1) v] }).objs.size:=by simpa using hb
 subst e;exact I1.o8 (Zab _) (I1.hok.fresh (Zab _))
abbrev yh(ta:TA):TI:=λG H R=>ta G H λvs H1=>∃i j:Int,vs=[.int i,.int j,.int (-1)]/\(-(2 ^ 62)<=i/\i<2 ^ 62/\-(2 ^ 62)<=j/\j<2 ^ 62)/\R (JS i (i-j).toNat) H1
def Xn{a b c:Expr}{ta:TA}{p pos:Pos}(hg:Gl X "range")(hm:X.mg "range" = none)(ha:PA X [a,b,c] ta)(hs:starEach [a,b,c] X.env=[(false,eval a X.env),(false,eval b X.env),(false,eval c X.env)]:=by rfl)(hs2:starEach [b,c] X.env=[(false,eval b X.env),(false,eval c X.env)]:=by rfl):
  PI X tg (.Call (.Name "range" p) [a,b,c] [] pos) (yh ta):=by
 intro pins s G H R I h;refine Call_ (xG I hg hm boot_range (PyProof.Rows.callWith_type1 (cI (ha pos pins s G H _ I h) λus s1 ⟨vs,H1,I1,r1,q1⟩=>?_) (by rw[hs,hs2]) (by rw[hs2];rfl)));obtain⟨i,j,e,⟨q1,q2,q3,q4⟩,q⟩:=q1;subst e;cases r1 with
 |cons r rr =>
  cases rr with
  |cons r' rr =>
   cases rr with
   |cons r'' rr =>
    cases rr;obtain⟨t,rfl⟩:=r;obtain⟨t',rfl⟩:=r';obtain⟨t'',rfl⟩:=r'';exact call_range_3 ∅ (Xm I1 q1 q2 q3 q4 q) (.inl (PyProof.noPylong_of_log2 (by decide +kernel)))
end
open Builtin
end L2
namespace L2
open PySem PySem.Spec PyProof.Rows
end L2
namespace ae
abbrev upto(n:Nat):List Int:=(List.range n).map λ(k:Nat)=>(k:Int)
def tW(n:Nat):(upto n).length=n:=by simp[upto]
def pP{n:Nat}{x:Int}:x∈upto n↔0<=x/\x<(n:Int):=by simp only[upto,ZaP,Za0];constructor;rintro⟨k,hk,rfl⟩;lk;rintro⟨h1,h2⟩;exact⟨x.toNat,by lk,by lk⟩
def Rh(n:Nat):(upto n).Pairwise (· < ·):=by unfold upto;rw[Zcg];exact(Zci).imp λh=>by lk
def Ni(n:Nat):(upto n).Nodup:=(Rh n).imp λh=>by lk
def Nj:∀{xs ys:List Int},xs.Nodup->(∀x∈xs,x∈ys)->ys.length<=xs.length->xs.Perm ys
 |[],ys,_,_,h=>by
  have:ys=[]:=ZaY (by simpa using h);subst this;exact Zbl _
 |x :: xs,ys,hn,hs,hl=>by
  obtain⟨h1,h2⟩:=Zbp.mp hn;have hx:x∈ys:=hs x Zaf;have hp:=ZcA hx;have hlen:(ys.erase x).length+1=ys.length:=by have:=hp.length_eq;simpa using this.symm
  refine List.Perm.trans (List.Perm.cons x (Nj (ys:=ys.erase x) h2 (λy hy=>?_) ?_)) hp.symm;have hne:y≠x:=λe=>h1 (e ▸ hy);exact(ZcB hne).mpr (hs y (Zah _ hy));simp at hl;lk
def EK{xs:List Int}(hn:xs.Nodup)(hb:∀x∈xs,0<=x/\x<(xs.length:Int)):xs.Perm (upto xs.length):=Nj hn (λx hx=>pP.mpr (hb x hx)) (by rw[tW];exact Zab _)
end ae
namespace ae
abbrev app(xs:List Int)(i:Int):Int:=xs.getD i.toNat 0
abbrev aJ(xs:List Int)(i:Int):Nat->Int
 |0=>i
 |j+1=>app xs (aJ xs i j)
abbrev Tn(n:Nat)(xs:List Int):Prop:=xs.Perm (upto n)
def Tn.length{n:Nat}{xs:List Int}(h:Tn n xs):xs.length=n:=by rw[h.length_eq,tW]
def Tn.nodup{n:Nat}{xs:List Int}(h:Tn n xs):xs.Nodup:=h.nodup_iff.mpr (Ni n)
def Tn.bound{n:Nat}{xs:List Int}(h:Tn n xs){x:Int}(hx:x∈xs):0<=x/\x<(n:Int):=pP.mp (h.subset hx)
def nE{xs:List Int}{i:Int}(h0:0<=i)(h1:i<(xs.length:Int)):xs[i.toNat]?=some (app xs i):=by
 have:i.toNat<xs.length:=by lk
 unfold app;rw[Zau,Zam this];rfl
def Xo{xs:List Int}{i:Int}(h0:0<=i)(h1:i<(xs.length:Int)):app xs i∈xs:=Zas (nE h0 h1)
def Tn.app{n:Nat}{xs:List Int}(h:Tn n xs){i:Int}(h0:0<=i)(h1:i<(n:Int)):0<=app xs i/\app xs i<(n:Int):=h.bound (Xo h0 (by rw[h.length];exact h1))
def Tn.inj{n:Nat}{xs:List Int}(h:Tn n xs){i j:Int}(i0:0<=i)(i1:i<(n:Int))(j0:0<=j)(j1:j<(n:Int))(e:ae.app xs i=ae.app xs j):i=j:=by have hl:=h.length;have a:=nE i0 (by rw[hl];exact i1);have b:=nE j0 (by rw[hl];exact j1);rw[e]at a;obtain⟨ha,ea⟩:=Zad.mp a;obtain⟨hb,eb⟩:=Zad.mp b;have:=(List.getElem_inj h.nodup).mp (ea.trans eb.symm);lk
def Tn.aJ{n:Nat}{xs:List Int}(h:Tn n xs){i:Int}(h0:0<=i)(h1:i<(n:Int)):∀j,0<=aJ xs i j/\aJ xs i j<(n:Int)
 |0=>⟨h0,h1⟩
 |j+1=>h.app (h.aJ h0 h1 j).1 (h.aJ h0 h1 j).2
def Tn.back{n:Nat}{xs:List Int}(h:Tn n xs){i:Int}(h0:0<=i)(h1:i<(n:Int)):∀(a d:Nat),ae.aJ xs i a=ae.aJ xs i (a+d)->ae.aJ xs i d=i
 |0,d,e=>by rw[ZcC]at e;exact e.symm
 |a+1,d,e=>by
  have e':ae.app xs (ae.aJ xs i a)=ae.app xs (ae.aJ xs i (a+d)):=by
   have:a+1+d=(a+d)+1:=by lk
   rw[this]at e;exact e
  exact h.back h0 h1 a d (h.inj (h.aJ h0 h1 a).1 (h.aJ h0 h1 a).2 (h.aJ h0 h1 _).1 (h.aJ h0 h1 _).2 e')
def EL:∀{xs ys:List Int},xs.Nodup->(∀x∈xs,x∈ys)->xs.length<=ys.length
 |[],_,_,_=>ZaZ _
 |x :: xs,ys,hn,hs=>by
  obtain⟨h1,h2⟩:=Zbp.mp hn;have hx:x∈ys:=hs x Zaf;have hp:=ZcA hx;have hlen:(ys.erase x).length+1=ys.length:=by have:=hp.length_eq;simpa using this.symm
  have:=EL (ys:=ys.erase x) h2 λy hy=>(ZcB (a:=y) (b:=x) (λe=>h1 (by rw[<- e];exact hy))).mpr (hs y (Zah _ hy));simp only[Zaz];lk
abbrev row(xs:List Int)(i:Int)(m:Nat):List Int:=(List.range (m+1)).map (aJ xs i)
def Xp(xs:List Int)(i:Int)(m:Nat):row xs i (m+1)=row xs i m ++ [aJ xs i (m+1)]:=by unfold row;rw[List.range_succ,Zay];rfl
def Aj(xs:List Int)(i:Int)(m:Nat):(row xs i m).length=m+1:=by simp[row]
def sZ{xs:List Int}{i:Int}{m:Nat}{x:Int}:x∈row xs i m↔∃j,j<=m/\aJ xs i j=x:=by unfold row;rw[ZaP];constructor;rintro⟨j,hj,e⟩;exact⟨j,by have:=Za0.mp hj;lk,e⟩;rintro⟨j,hj,e⟩;exact⟨j,Za0.mpr ⋯,e⟩
abbrev NB(xs:List Int)(i:Int)(m:Nat):Prop:=∀j,1<=j->j<=m->aJ xs i j≠i
def Tn.oa{n:Nat}{xs:List Int}(h:Tn n xs){i:Int}(h0:0<=i)(h1:i<(n:Int)){m:Nat}(nb:NB xs i m):m+1<=n:=by
 have hn:(row xs i m).Nodup:=by
  unfold row List.Nodup;rw[Zcg];refine Zcd (R:=λa b=>a<b) ?_ Zci;intro a b ha hb hab e;have ha':=Za0.mp ha;have hb':=Za0.mp hb;obtain⟨d,rfl⟩:∃d,b=a+d:=⟨b-a,by lk⟩;exact nb d ⋯ ⋯ (h.back h0 h1 a d e)
 have:=EL hn (ys:=upto n) λx hx=>by
  obtain⟨j,_,rfl⟩:=sZ.mp hx;exact pP.mpr (h.aJ h0 h1 j)
 rw[Aj,tW]at this;exact this
structure bM(xs:List Int)(i:Int)(r:List Int):Prop where
 ex:∃m,r=row xs i m/\NB xs i m/\aJ xs i (m+1)=i
def bM.unique{xs:List Int}{i:Int}{r r':List Int}(a:bM xs i r)(b:bM xs i r'):r=r':=by
 obtain⟨m,e1,n1,b1⟩:=a.ex;obtain⟨m',e2,n2,b2⟩:=b.ex;have:m=m':=by
  rcases Nat.lt_trichotomy m m' with h|h|h
  exact absurd b1 (n2 (m+1) ⋯ ⋯);exact h;exact absurd b2 (n1 (m' + 1) ⋯ ⋯)
 rw[e1,e2,this]
def bM.mem{xs:List Int}{i:Int}{r:List Int}(a:bM xs i r):i∈r:=by obtain⟨m,e1,_,_⟩:=a.ex;rw[e1];exact sZ.mpr ⟨0,ZaZ _,rfl⟩
def bM.len{n:Nat}{xs:List Int}(h:Tn n xs){i:Int}(h0:0<=i)(h1:i<(n:Int)){r:List Int}(a:bM xs i r):r.length<=n:=by obtain⟨m,e1,nb,_⟩:=a.ex;rw[e1,Aj];exact h.oa h0 h1 nb
def bM.bound{n:Nat}{xs:List Int}(h:Tn n xs){i:Int}(h0:0<=i)(h1:i<(n:Int)){r:List Int}(a:bM xs i r):∀x∈r,0<=x/\x<(n:Int):=by obtain⟨m,e1,nb,_⟩:=a.ex;subst e1;intro x hx;obtain⟨j,_,rfl⟩:=sZ.mp hx;exact h.aJ h0 h1 j
abbrev out(left r:List Int):List Int:=left.filter λk=>!r.contains k
inductive pg(xs:List Int):List Int->List (List Int)->Prop
 |nil:pg xs [] []
 |cons {i:Int} {left r:List Int} {rs:List (List Int)}:bM xs i r->pg xs (out (i :: left) r) rs->pg xs (i :: left) (r :: rs)
abbrev from'(n k:Nat)(seen:Int->Bool):List Int:=(((List.range n).drop k).map λ(j:Nat)=>(j:Int)).filter λx=>!seen x
def Xq(n:Nat)(seen:Int->Bool):from' n n seen=[]:=by unfold from';rw[List.drop_of_length_le (by simp)];rfl
def Xr{n k:Nat}(h:k<n)(seen:Int->Bool):from' n k seen=if seen (k:Int)then from' n (k+1) seen else(k:Int) :: from' n (k+1) seen:=by unfold from';rw[List.drop_eq_getElem_cons (by simpa using h),Zav,Zcn];simp only[List.getElem_range];cases hs:seen (k:Int)<;>simp
def Xs{n k:Nat}{seen:Int->Bool}{r:List Int}:out (from' n k seen) r=from' n k (λx=>seen x || r.contains x):=by
 unfold out from';rw[List.filter_filter]
 congr 1
 funext x
 show(!r.contains x && !seen x)=!(seen x || r.contains x);cases seen x<;>cases r.contains x<;>rfl
def Xt(n:Nat):from' n 0 (λ_=>false)=upto n:=by unfold from' upto;rw[List.drop_zero];simp
abbrev tf(n:Nat):List Int:=((List.range (n-1)).map λ(k:Nat)=>(1:Int)+k) ++ [0]
def Xu:∀n,n<21->0<n->(tf n).isPerm (upto n)=true:=by decide
def Ri{n:Nat}(h:n<21)(h0:0<n):Tn n (tf n):=List.isPerm_iff.mp (Xu n h h0)
end ae
namespace ae
def Nk{n:Nat}{xs:List Int}(h:xs.length=n):(upto n).map (app xs)=xs:=by apply List.ext_getElem;rw[Zaa,tW,h];intro i h1 h2;have e:=nE (xs:=xs) (i:=(i:Int)) ⋯ ⋯;simp only[Zae]at e;rw[Zam h2]at e;rw[Zco];unfold upto;simp only[Zco,List.getElem_range];exact(Zai e).symm
abbrev inv(xs:List Int):List Int:=(upto xs.length).map λi=>(xs.idxOf i:Int)
def EM(xs:List Int):(inv xs).length=xs.length:=by unfold inv;rw[Zaa,tW]
def Cz{n i:Nat}(h:i<n):(upto n)[i]?=some (i:Int):=by unfold upto;rw[Zaj,Zbw h];rfl
def EN{xs:List Int}{i:Int}(h0:0<=i)(h1:i<(xs.length:Int)):app (inv xs) i=(xs.idxOf i:Int):=by have e:=nE (xs:=inv xs) h0 (by rw[EM];exact h1);unfold inv at e;rw[Zaj,Cz ⋯]at e;have:=Zai e;rw[<- inv]at this;rw[<- this,Zat h0]
def Tn.mem{n:Nat}{xs:List Int}(h:Tn n xs){i:Int}(h0:0<=i)(h1:i<(n:Int)):i∈xs:=h.symm.subset (pP.mpr ⟨h0,h1⟩)
def Tn.idx{n:Nat}{xs:List Int}(h:Tn n xs){i:Int}(h0:0<=i)(h1:i<(n:Int)):xs.idxOf i<n:=by rw[<- h.length];exact List.idxOf_lt_length_of_mem (h.mem h0 h1)
def Tn.a9{n:Nat}{xs:List Int}(h:Tn n xs){i:Int}(h0:0<=i)(h1:i<(n:Int)):ae.app xs (ae.app (inv xs) i)=i:=by rw[EN h0 (by rw[h.length];exact h1)];have hl:=h.idx h0 h1;have e:=nE (xs:=xs) (i:=(xs.idxOf i:Int)) ⋯ (by rw[h.length];lk);rw[Zae,Zam (by rw[h.length];exact hl)]at e;rw[<- Zai e];exact List.getElem_idxOf _
def Tn.jY{n:Nat}{xs:List Int}(h:Tn n xs){i:Int}(h0:0<=i)(h1:i<(n:Int)):0<=ae.app (inv xs) i/\ae.app (inv xs) i<(n:Int):=by rw[EN h0 (by rw[h.length];exact h1)];have:=h.idx h0 h1;lk
def Tn.bg{n:Nat}{xs:List Int}(h:Tn n xs){i:Int}(h0:0<=i)(h1:i<(n:Int)):ae.app (inv xs) (ae.app xs i)=i:=by obtain⟨a0,a1⟩:=h.app h0 h1;obtain⟨b0,b1⟩:=h.jY a0 a1;exact h.inj b0 b1 h0 h1 (h.a9 a0 a1)
def Tn.bQ{n:Nat}{xs:List Int}(h:Tn n xs):Tn n (inv xs):=by
 have hl:=h.length;unfold Tn;have e:(inv xs).length=n:=by rw[EM,hl]
 have:=EK (xs:=inv xs) ?_ ?_
 rw[e]at this;exact this;unfold List.Nodup;rw[Zca];intro i j hi hj hij z;have a:=nE (xs:=inv xs) (i:=(i:Int)) ⋯ ⋯;have b:=nE (xs:=inv xs) (i:=(j:Int)) ⋯ ⋯;rw[Zae,Zam hi]at a;rw[Zae,Zam hj]at b;have a:=Zai a;have b:=Zai b;have c:=h.a9 (i:=(i:Int)) ⋯ ⋯;have d:=h.a9 (i:=(j:Int)) ⋯ ⋯;rw[<- a]at c;rw[<- b,<- z]at d;have:=c.symm.trans d;lk;intro x hx;unfold inv at hx;obtain⟨i,hi,rfl⟩:=ZaP.mp hx;have:=pP.mp hi;rw[hl]at this;have:=h.idx this.1 this.2;rw[e];lk
def uY(xs:List Int)(i:Int)(j:Nat):∀d,aJ xs (aJ xs i j) d=aJ xs i (j+d)
 |0=>rfl
 |d+1=>by show app xs (aJ xs (aJ xs i j) d)=app xs (aJ xs i (j+d));rw[uY xs i j d]
def Nl{xs:List Int}{i:Int}{L:Nat}(h:aJ xs i L=i)(a:Nat):aJ xs i (a+L)=aJ xs i a:=by rw[Nat.add_comm,<- uY xs i L a,h]
def EO{xs:List Int}{i:Int}{L:Nat}(h:aJ xs i L=i):∀(q r:Nat),aJ xs i (r+L*q)=aJ xs i r
 |0,r=>rfl
 |q+1,r=>by rw[Nat.mul_succ,<- Nat.add_assoc,Nl h];exact EO h q r
def Xv{xs:List Int}{i:Int}{L:Nat}(h:aJ xs i L=i)(a:Nat):aJ xs i (a % L)=aJ xs i a:=by have:=EO h (a / L) (a % L);rw[Nat.mod_add_div]at this;exact this.symm
abbrev Rj(xs:List Int)(k i v:Int):Prop:=∃m,NB xs i m/\aJ xs i (m+1)=i/\v=aJ xs i (k % ((m+1:Nat):Int)).toNat
def Tn.Ak{n:Nat}{xs:List Int}(h:Tn n xs){i:Int}(h0:0<=i)(h1:i<(n:Int)){m:Nat}(nb:NB xs i m)(bk:ae.aJ xs i (m+1)=i)(j:Nat)(k:Int):
  Rj xs k (ae.aJ xs i j) (ae.aJ xs i (((j:Int)+k) % ((m+1:Nat):Int)).toNat):=by
 refine⟨m,λd d1 d2 e=>?_,?_,?_⟩;rw[uY]at e;exact nb d d1 d2 (h.back h0 h1 j d e.symm);rw[uY,Nl bk];rw[uY];rw[<- Xv bk (j+(k % ((m+1:Nat):Int)).toNat)]
 congr 1
 have hL:(0:Int)<((m+1:Nat):Int):=by lk
 have k0:=Zbi k (Int.ne_of_gt hL);have e:(((j+(k % ((m+1:Nat):Int)).toNat) % (m+1):Nat):Int)=((j:Int)+k) % ((m+1:Nat):Int):=by
  rw[Int.natCast_emod,Int.natCast_add,Zat k0,Int.add_emod_emod]
 rw[<- e,Zae]
def pg.all{xs:List Int}:∀{left:List Int} {rs:List (List Int)},pg xs left rs->(∀r∈rs,∃i∈left,bM xs i r)/\∀x∈left,∃r∈rs,x∈r:=by
 intro left rs a
 induction a with
 |nil=>exact⟨λr hr=>(nomatch hr),λx hx=>(nomatch hx)⟩
 |cons h1 _ ih =>
  refine⟨λr hr=>?_,λx hx=>?_⟩
  ·rcases Zar.mp hr with rfl|hr
   ·exact⟨_,Zaf,h1⟩
   ·obtain⟨i,hi,r'⟩:=ih.1 r hr
    exact⟨i,(Za5.mp hi).1,r'⟩
  ·rename_i i left r rs _
   by_cases hc:x∈r
   ·exact⟨r,Zaf,hc⟩
   ·obtain⟨r',hr',hx'⟩:=ih.2 x (Za5.mpr ⟨hx,by simp[hc]⟩)
    exact⟨r',Zah _ hr',hx'⟩
end ae
namespace ae
inductive mC(xs ys:List Int):Int->Prop
 |zero:mC xs ys 0
 |r {x:Int}:mC xs ys x->mC xs ys (app xs x)
 |u {x:Int}:mC xs ys x->mC xs ys (app ys x)
def mC.bound{n:Nat}{xs ys:List Int}(hx:Tn n xs)(hy:Tn n ys)(h0:0<n){x:Int}(h:mC xs ys x):0<=x/\x<(n:Int):=by
 induction h with
 |zero=>lk
 |r _ ih=>exact hx.app ih.1 ih.2
 |u _ ih=>exact hy.app ih.1 ih.2
def mC.aJ{xs ys:List Int}{x:Int}(h:mC xs ys x):∀k,mC xs ys (ae.aJ xs x k)
 |0=>h
 |k+1=>.r (h.aJ k)
abbrev pX(xs:List Int)(m:Nat):List Int:=(xs.set 0 (app xs m)).set m (app xs 0)
def Xw(xs:List Int)(m:Nat):(pX xs m).length=xs.length:=by simp[pX]
def CA{xs:List Int}{m:Nat}{v x:Int}(hm:m<xs.length)(h0:0<=x):app (xs.set m v) x=if x=(m:Int)then v else app xs x:=by unfold app;rw[Zau,Zau];by_cases hx:x=(m:Int);rw[if_pos hx,hx,Zae,Zag hm];rfl;rw[if_neg hx,Zao ⋯]
def CB{xs:List Int}{m:Nat}(hm:m<xs.length){x:Int}(h0:0<=x):app (pX xs m) x=if x=(m:Int)then app xs 0 else if x=0 then app xs m else app xs x:=by unfold pX;rw[CA (by simpa using hm) h0,CA ⋯ h0];rfl
def Al{n:Nat}{xs:List Int}(h:Tn n xs){m:Nat}(hm:m<n):Tn n (pX xs m):=by
 have hl:=h.length;have e:(pX xs m).length=n:=by rw[Xw,hl]
 have:=EK (xs:=pX xs m) ?_ ?_
 unfold Tn;rw[e]at this;exact this;unfold List.Nodup;rw[Zca];intro i j hi hj hij z;have a:=nE (xs:=pX xs m) (i:=(i:Int)) ⋯ ⋯;have b:=nE (xs:=pX xs m) (i:=(j:Int)) ⋯ ⋯;rw[Zae,Zam hi]at a;rw[Zae,Zam hj]at b;have a:=Zai a;have b:=Zai b;rw[CB ⋯ ⋯]at a b;rw[a,b]at z;have inj:∀p q:Int,0<=p->p<(n:Int)->0<=q->q<(n:Int)->app xs p=app xs q->p=q:=λp q p0 p1 q0 q1=>h.inj p0 p1 q0 q1;split at z<;>split at z<;>(try split at z)<;>(try split at z)<;>(first|lk|(have:=inj _ _ ⋯ ⋯ ⋯ ⋯ z;lk));intro x hx;obtain⟨i,hi,rfl⟩:=Zbz hx;have a:=nE (xs:=pX xs m) (i:=(i:Int)) ⋯ ⋯;rw[Zae,Zam hi]at a;rw[Zai a,CB ⋯ ⋯,e];split;exact h.app ⋯ ⋯;split;exact h.app ⋯ ⋯;exact h.app ⋯ ⋯
def Tn.wN{n:Nat}{xs:List Int}(h:Tn n xs){i:Int}(h0:0<=i)(h1:i<(n:Int)):∃m,NB xs i m/\ae.aJ xs i (m+1)=i:=by
 by_cases hb:∃m,m<n/\ae.aJ xs i (m+1)=i
 -- the least
 have key:∀b:Nat,(∃m,m<b/\ae.aJ xs i (m+1)=i)->∃m,NB xs i m/\ae.aJ xs i (m+1)=i:=by
  intro b
  induction b with
  |zero=>rintro⟨m,hm,_⟩;lk
  |succ b ih =>
   rintro⟨m,hm,e⟩;by_cases hc:∃m,m<b/\ae.aJ xs i (m+1)=i;exact ih hc;refine⟨m,λj j1 j2 z=>hc ⟨j-1,by lk,?_⟩,e⟩
   have:j-1+1=j:=by lk
   rw[this];exact z
 exact key n hb;have nb:NB xs i n:=λj j1 j2 z=>by
  refine hb ⟨j-1,by lk,?_⟩;have:j-1+1=j:=by lk
  rw[this];exact z
 have:=h.oa h0 h1 nb;lk
def Xx{n:Nat}{xs ys:List Int}(hx:Tn n xs)(hy:Tn n ys){m:Nat}(hm:m<n)(nm:¬mC xs ys (m:Int)):mC (pX xs m) ys (m:Int)/\∀x,mC xs ys x->mC (pX xs m) ys x:=by
 have hl:=hx.length;have m0:m≠0:=λz=>nm (by rw[z];exact .zero);obtain⟨M,nb,bk⟩:=hx.wN (i:=(m:Int)) ⋯ ⋯;have Xy:∀j,ae.aJ xs (m:Int) j≠0:=by
  intro j z;have h':mC xs ys (ae.aJ xs (ae.aJ xs (m:Int) j) ((M+1)*j)):=by rw[z];exact mC.zero.aJ _
  rw[uY]at h';have e2:ae.aJ xs (m:Int) ((M+1)*(j+1))=(m:Int):=by
   have:=EO bk (j+1) 0;rw[ZcC]at this;exact this
  have h3:=h'.aJ ((M+1)*(j+1)-(j+(M+1)*j));rw[uY]at h3;have e3:j+(M+1)*j+((M+1)*(j+1)-(j+(M+1)*j))=if j+(M+1)*j<=(M+1)*(j+1)then(M+1)*(j+1)else j+(M+1)*j:=by split<;>lk
  rw[e3]at h3;by_cases hc:j+(M+1)*j<=(M+1)*(j+1)
  ·rw[if_pos hc,e2]at h3
   exact nm h3
  ·-- round as often as needed
   have h4:=h'.aJ ((M+1)*(2*j+2)-(j+(M+1)*j));rw[uY]at h4;have hbig:j+(M+1)*j<=(M+1)*(2*j+2):=by
    have a1:(M+1)*(2*j+2)=(M+1)*j+((M+1)*j+(M+1)*2):=by rw[<- ZcJ,<- ZcJ];congr 1;lk
    have a2:j<=(M+1)*j:=Nat.le_mul_of_pos_left j ⋯;lk
   have e5:j+(M+1)*j+((M+1)*(2*j+2)-(j+(M+1)*j))=(M+1)*(2*j+2):=by lk
   rw[e5]at h4;have:=EO bk (2*j+2) 0;rw[ZcC]at this;rw[this]at h4;exact nm h4
 have ring:∀j,j<=M->mC (pX xs m) ys (ae.aJ xs (m:Int) (j+1)):=by
  intro j
  induction j with
  |zero =>
   intro _;have h1:mC (pX xs m) ys (ae.app (pX xs m) 0):=.r .zero;rw[CB ⋯ ⋯,if_neg ⋯,if_pos rfl]at h1;exact h1
  |succ j ih =>
   intro hj;have h1:=(ih ⋯).r;have b:=hx.aJ (i:=(m:Int)) ⋯ ⋯ (j+1);rw[CB ⋯ b.1,if_neg (nb (j+1) ⋯ ⋯),if_neg (Xy (j+1))]at h1;exact h1
 have Rm:mC (pX xs m) ys (m:Int):=by have:=ring M (Zab _);rwa [bk]at this
 refine⟨Rm,λx h=>?_⟩;have hpos:0<n:=by lk
 induction h with
 |zero=>exact .zero
 |r hx' ih =>
  rename_i x
  have b:=hx'.bound hx hy hpos;by_cases h0:x=0
  ·have h1:=Rm.r
   rw[CB ⋯ ⋯,if_pos rfl]at h1;rw[h0];exact h1
  ·have Xz:x≠(m:Int):=λz=>nm (by rw[<- z];exact hx')
   have h1:=ih.r;rw[CB ⋯ b.1,if_neg Xz,if_neg h0]at h1;exact h1
 |u _ ih=>exact ih.u
abbrev Cl(xs ys F:List Int):Prop:=∀x∈F,app xs x∈F/\app ys x∈F
def Cl.all{xs ys F:List Int}(h:Cl xs ys F)(h0:(0:Int)∈F){x:Int}(r:mC xs ys x):x∈F:=by
 induction r with
 |zero=>exact h0
 |r _ ih=>exact(h _ ih).1
 |u _ ih=>exact(h _ ih).2
structure Fd(xs ys:List Int)(F:List Int):Prop where
 z:(0:Int)∈F
 nd:F.Nodup
 mt:∀x∈F,mC xs ys x
def Fd.len{n:Nat}{xs ys F:List Int}(h:Fd xs ys F)(hx:Tn n xs)(hy:Tn n ys)(h0:0<n):F.length<=n:=by have:=EL h.nd (ys:=upto n) λx hx'=>pP.mpr ((h.mt x hx').bound hx hy h0);rw[tW]at this;exact this
def Fd.one(xs ys:List Int):Fd xs ys [0]:=⟨by simp,by simp,λx hx=>(show x=0 by simpa using hx) ▸ .zero⟩
def round{xs ys F F1 F2:List Int}(d:Fd xs ys F)(d2:Fd xs ys F2)(p1:F <+: F1)(p2:F1 <+: F2)(c1:∀x∈F,app xs x∈F1)(c2:∀x∈F1,app ys x∈F2){t:Nat}(h:Cl xs ys F\/t+1<=F.length):Cl xs ys F2\/t+1+1<=F2.length:=by
 have p:=p1.trans p2;by_cases hc:Cl xs ys F;refine .inl λx hx=>?_;have hF:=hc.all d.z (d2.mt x hx);exact⟨p.subset (hc x hF).1,p.subset (hc x hF).2⟩;have hl:=h.resolve_left hc;by_cases he:F2.length<=F.length;refine absurd ?_ hc;have e2:F2=F:=(p.eq_of_length (by have:=p.length_le;lk)).symm;have e1:F1=F:=by
  have a:=p1.length_le;have b:=p2.length_le;exact(p1.eq_of_length ⋯).symm
 intro x hx;refine⟨?_,?_⟩
 have:=c1 x hx;rwa [e1]at this
 have:=c2 x (by rw[e1];exact hx);rwa [e2]at this
 exact .inr ⋯
abbrev uZ(w n:Nat):List Int:=((List.range (w-1)).map λ(k:Nat)=>(1:Int)+k) ++ [0] ++ ((List.range (n-w)).map λ(k:Nat)=>(w:Int)+k)
abbrev wO(w n:Nat):List Int:=[(w:Int)] ++ ((List.range (w-1)).map λ(k:Nat)=>(1:Int)+k) ++ ((List.range (n-(w+1))).map λ(k:Nat)=>((w:Int)+1)+k) ++ [0]
def XA:∀n,n<21->∀w,w<n+1->0<w->(uZ w n).isPerm (upto n)=true:=by decide +kernel
def XB:∀n,n<21->∀w,w<n->0<w->(wO w n).isPerm (upto n)=true:=by decide +kernel
def XC{w n:Nat}(h:n<21)(h1:w<=n)(h0:0<w):Tn n (uZ w n):=List.isPerm_iff.mp (XA n h w ⋯ h0)
def XD{w n:Nat}(h:n<21)(h1:w<n)(h0:0<w):Tn n (wO w n):=List.isPerm_iff.mp (XB n h w h1 h0)
def less{L L':List Int}{m:Int}(nd:L'.Nodup)(hs:∀x∈L',x∈L)(hm:m∈L)(hm':m ∉ L'):L'.length<L.length:=by
 have hp:=ZcA hm;have hlen:(L.erase m).length+1=L.length:=by have:=hp.length_eq;simpa using this.symm
 have:=EL (ys:=L.erase m) nd λx hx=>(ZcB (λe=>hm' (by rw[<- e];exact hx))).mpr (hs x hx);lk
end ae
namespace ae
abbrev nF(xs ys:List Int):List Int:=xs.map (app ys)
def ER(xs ys:List Int):(nF xs ys).length=xs.length:=by simp[nF]
def Am{n:Nat}{xs ys:List Int}(hx:xs.length=n)(hy:ys.length=n)(h:∀s:Int,0<=s->s<(n:Int)->app xs s=app ys s):xs=ys:=by rw[<- Nk hx,<- Nk hy];apply ZaT;intro s hs;obtain⟨h0,h1⟩:=pP.mp hs;exact h s h0 h1
def u3{xs ys:List Int}{s:Int}(h0:0<=s)(h1:s<(xs.length:Int)):app (nF xs ys) s=app ys (app xs s):=by have e:=nE (xs:=nF xs ys) h0 (by rw[ER];exact h1);unfold nF at e;rw[Zaj,nE h0 h1]at e;exact(Zai e).symm
def Tn.u5{n:Nat}{xs:List Int}(hl:xs.length=n)(hb:∀s:Int,0<=s->s<(n:Int)->0<=ae.app xs s/\ae.app xs s<(n:Int))(hi:∀s t:Int,0<=s->s<(n:Int)->0<=t->t<(n:Int)->ae.app xs s=ae.app xs t->s=t):Tn n xs:=by
 have el:∀(i:Nat) (h:i<xs.length),xs[i]=ae.app xs (i:Int):=λi h=>by
  have a:=nE (xs:=xs) (i:=(i:Int)) ⋯ ⋯;rw[Zae,Zam h]at a;exact Zai a
 have:=EK (xs:=xs) ?_ ?_
 unfold Tn;rw[hl]at this;exact this;unfold List.Nodup;rw[Zca];intro i j h1 h2 hij z;rw[el i h1,el j h2]at z;have:=hi i j ⋯ ⋯ ⋯ ⋯ z;lk;intro x hx;obtain⟨i,h,rfl⟩:=Zbz hx;rw[el i h,hl];exact hb i ⋯ ⋯
def Tn.nF{n:Nat}{xs ys:List Int}(hx:Tn n xs)(hy:Tn n ys):Tn n (nF xs ys):=by have hl:=hx.length;refine Tn.u5 (by rw[ER];exact hl) (λs h0 h1=>?_) λs t s0 s1 t0 t1 e=>?_;rw[u3 h0 ⋯];obtain⟨a,b⟩:=hx.app h0 h1;exact hy.app a b;rw[u3 s0 ⋯,u3 t0 ⋯]at e;obtain⟨a,b⟩:=hx.app s0 s1;obtain⟨c,d⟩:=hx.app t0 t1;exact hx.inj s0 s1 t0 t1 (hy.inj a b c d e)
end ae
namespace ae
abbrev dA(F:List Int)(x:Int):List Int:=if x∈F then F else F ++ [x]
def ES(F:List Int)(x:Int):F <+: dA F x:=by unfold dA;split;exact Zb1 _;exact ZcN _ _
def yj{F:List Int}{x y:Int}:y∈dA F x↔y∈F\/y=x:=by
 unfold dA;split
 ·next h=>exact⟨.inl,λz=>z.elim id λe=>e ▸ h⟩
 ·rw[ZaE,ZaM]
def Rn{F:List Int}{x:Int}(h:F.Nodup):(dA F x).Nodup:=by
 unfold dA;split
 ·exact h
 ·next hx =>
  rw[ZbT];exact⟨h,by simp,λa ha b hb e=>hx (by rw[ZaM]at hb;rw[<- hb,<- e];exact ha)⟩
abbrev visit(xs ys F:List Int)(x:Int):List Int:=dA (dA F (app xs x)) (app ys x)
abbrev bf(xs ys:List Int)(s:Int):Nat->List Int
 |0=>[s]
 |k+1=>match (bf xs ys s k)[k]? with
  |some x=>visit xs ys (bf xs ys s k) x
  |none=>bf xs ys s k
def XE(xs ys:List Int)(s:Int)(k:Nat):bf xs ys s k <+: bf xs ys s (k+1):=by show _ <+: (match (bf xs ys s k)[k]? with|some x=>visit xs ys (bf xs ys s k) x|none=>bf xs ys s k);split;exact(ES _ _).trans (ES _ _);exact Zb1 _
def CC(xs ys:List Int)(s:Int)(k:Nat):∀d,bf xs ys s k <+: bf xs ys s (k+d)
 |0=>Zb1 _
 |d+1=>(CC xs ys s k d).trans (XE xs ys s (k+d))
def ET(xs ys:List Int)(s:Int):∀k,(bf xs ys s k).Nodup
 |0=>by show[s].Nodup;simp
 |k+1=>by
  show(match (bf xs ys s k)[k]? with|some x=>visit xs ys (bf xs ys s k) x|none=>bf xs ys s k).Nodup;split;exact Rn (Rn (ET xs ys s k));exact ET xs ys s k
def JT{xs ys:List Int}{s:Int}{k:Nat}(h:(bf xs ys s k).length<=k):∀d,bf xs ys s (k+d)=bf xs ys s k
 |0=>rfl
 |d+1=>by
  have e:=JT h d;show(match (bf xs ys s (k+d))[k+d]? with|some x=>visit xs ys (bf xs ys s (k+d)) x|none=>bf xs ys s (k+d))=_;rw[e,ZaL ⋯]
section
variable {n:Nat}{xs ys:List Int}{s:Int}
def CD(hx:Tn n xs)(hy:Tn n ys)(s0:0<=s)(s1:s<(n:Int)):∀k,∀x∈bf xs ys s k,0<=x/\x<(n:Int)
 |0,x,h=>by rw[ZaM.mp (show x∈[s]from h)];exact⟨s0,s1⟩
 |k+1,x,h=>by
  have ih:=CD hx hy s0 s1 k;have h':x∈(match (bf xs ys s k)[k]? with|some y=>visit xs ys (bf xs ys s k) y|none=>bf xs ys s k):=h;split at h'
  ·next y hy' =>
   obtain⟨y0,y1⟩:=ih y (Zas hy');rcases yj.mp h' with h'|rfl
   ·rcases yj.mp h' with h'|rfl
    ·exact ih x h'
    ·exact hx.app y0 y1
   ·exact hy.app y0 y1
  ·exact ih x h'
def JU(hx:Tn n xs)(hy:Tn n ys)(s0:0<=s)(s1:s<(n:Int))(k:Nat):(bf xs ys s k).length<=n:=by have:=EL (ET xs ys s k) (ys:=upto n) λx h=>pP.mpr (CD hx hy s0 s1 k x h);rw[tW]at this;exact this
def yk{k i:Nat}(hik:i<=k){x:Int}(h:(bf xs ys s k)[i]?=some x):(bf xs ys s i)[i]?=some x:=by obtain⟨d,rfl⟩:∃d,k=i+d:=⟨k-i,by lk⟩;by_cases hl:(bf xs ys s i).length<=i;rw[JT hl d]at h;exact h;obtain⟨t,e⟩:=CC xs ys s i d;rw[<- e,ZaH ⋯]at h;exact h
def yl(hx:Tn n xs)(hy:Tn n ys)(s0:0<=s)(s1:s<(n:Int)):Cl xs ys (bf xs ys s n):=by
 intro x hm;obtain⟨i,hi,e⟩:=Zbz hm;have hl:=JU hx hy s0 s1 n;have hi':(bf xs ys s i)[i]?=some x:=yk (k:=n) ⋯ (by rw[Zam hi,e]);have hs:visit xs ys (bf xs ys s i) x <+: bf xs ys s n:=by
  have:=CC xs ys s (i+1) (n-(i+1));rw[show i+1+(n-(i+1))=n by lk]at this;have e2:bf xs ys s (i+1)=visit xs ys (bf xs ys s i) x:=by
   show(match (bf xs ys s i)[i]? with|some x=>visit xs ys (bf xs ys s i) x|none=>bf xs ys s i)=_;rw[hi']
  rw[<- e2];exact this
 refine⟨hs.subset ?_,hs.subset ?_⟩;exact yj.mpr (.inl (yj.mpr (.inr rfl)));exact yj.mpr (.inr rfl)
def Nn{zs F:List Int}(hz:Tn n zs)(nd:F.Nodup)(hb:∀x∈F,0<=x/\x<(n:Int))(hc:∀x∈F,app zs x∈F){y:Int}(y0:0<=y)(y1:y<(n:Int))(h:app zs y∈F):y∈F:=by
 have XF:(F.map (app zs)).Nodup:=by
  unfold List.Nodup;rw[Zcg];refine Zcd (λ{a b} ha hb' hab e=>?_) nd;obtain⟨a0,a1⟩:=hb a ha;obtain⟨b0,b1⟩:=hb b hb';exact hab (hz.inj a0 a1 b0 b1 e)
 have pm:(F.map (app zs)).Perm F:=Nj XF (λx hx=>by obtain⟨z,hz',rfl⟩:=ZaP.mp hx;exact hc z hz') (by simp);obtain⟨z,Ro,e⟩:=ZaP.mp (pm.symm.subset h);obtain⟨z0,z1⟩:=hb z Ro;rw[<- hz.inj z0 z1 y0 y1 e];exact Ro
def An(hx:Tn n xs)(hy:Tn n ys)(s0:0<=s)(s1:s<(n:Int))(all:∀x:Int,0<=x->x<(n:Int)->mC xs ys x){x:Int}(x0:0<=x)(x1:x<(n:Int)):x∈bf xs ys s n:=by
 have cl:=yl hx hy s0 s1;have nd:=ET xs ys s n;have bd:=CD hx hy s0 s1 n;have hs:s∈bf xs ys s n:=by
  have:=CC xs ys s 0 n;rw[ZcC]at this;exact this.subset (show s∈[s] by simp)
 have hpos:0<n:=by lk
 have zero:∀y,mC xs ys y->y∈bf xs ys s n->(0:Int)∈bf xs ys s n:=by
  intro y hr
  induction hr with
  |zero=>exact id
  |r h ih =>
   intro hm;obtain⟨a,b⟩:=h.bound hx hy hpos;exact ih (Nn hx nd bd (λx hx'=>(cl x hx').1) a b hm)
  |u h ih =>
   intro hm;obtain⟨a,b⟩:=h.bound hx hy hpos;exact ih (Nn hy nd bd (λx hx'=>(cl x hx').2) a b hm)
 exact cl.all (zero s (all s s0 s1) hs) (all x x0 x1)
end
abbrev num(zs sq:List Int):List Int:=sq.map λo=>(sq.idxOf (app zs o):Int)
def Tn.inv_inv{n:Nat}{p:List Int}(hp:Tn n p):inv (inv p)=p:=by refine Am (n:=n) hp.bQ.bQ.length hp.length λs h0 h1=>?_;obtain⟨a0,a1⟩:=hp.bQ.jY h0 h1;obtain⟨b0,b1⟩:=hp.app h0 h1;refine hp.bQ.inj a0 a1 b0 b1 ?_;rw[hp.bQ.a9 h0 h1,hp.bg h0 h1]
end ae
namespace ae
abbrev pw(xs:List Int)(k i:Int):Int:=if 0<=k then aJ xs i k.toNat else aJ (inv xs) i (-k).toNat
def Np(xs:List Int)(i:Int):∀m,aJ xs (app xs i) m=app xs (aJ xs i m)
 |0=>rfl
 |m+1=>by show app xs (aJ xs (app xs i) m)=_;rw[Np xs i m];rfl
section
variable {n:Nat}{xs:List Int}{i:Int}
def Tn.oN(h:Tn n xs)(i0:0<=i)(i1:i<(n:Int)):∀(k m:Nat),ae.aJ (inv xs) (ae.aJ xs i m) k=if k<=m then ae.aJ xs i (m-k)else ae.aJ (inv xs) i (k-m)
 |0,m=>by rw[if_pos (ZaZ _),Nat.sub_zero];rfl
 |k+1,m=>by
  show ae.app (inv xs) (ae.aJ (inv xs) (ae.aJ xs i m) k)=_;rw[h.oN i0 i1 k m];by_cases hk:k<=m;rw[if_pos hk];by_cases hk1:k+1<=m;rw[if_pos hk1];obtain⟨d,hd⟩:∃d,m-k=d+1:=⟨m-k-1,by lk⟩;rw[hd,show m-(k+1)=d by lk];obtain⟨a,b⟩:=h.aJ i0 i1 d;exact h.bg a b;rw[if_neg hk1,show m-k=0 by lk,show k+1-m=1 by lk];rfl;rw[if_neg hk,if_neg ⋯,show k+1-m=(k-m)+1 by lk];rfl
def Tn.rm(h:Tn n xs)(i0:0<=i)(i1:i<(n:Int))(k m:Nat):ae.aJ xs (ae.aJ (inv xs) i m) k=if k<=m then ae.aJ (inv xs) i (m-k)else ae.aJ xs i (k-m):=by have:=h.bQ.oN i0 i1 k m;rw[h.inv_inv]at this;exact this
def Tn.pw(h:Tn n xs)(i0:0<=i)(i1:i<(n:Int))(k:Int):0<=ae.pw xs k i/\ae.pw xs k i<(n:Int):=by unfold ae.pw;split;exact h.aJ i0 i1 _;exact h.bQ.aJ i0 i1 _
def Tn.pw_add(h:Tn n xs)(i0:0<=i)(i1:i<(n:Int))(a b:Int):ae.pw xs a (ae.pw xs b i)=ae.pw xs (a+b) i:=by
 by_cases ha:0<=a<;>by_cases hb:0<=b;unfold ae.pw;rw[if_pos ha,if_pos hb,if_pos ⋯,uY]
 congr 1
 lk;have e1:ae.pw xs b i=ae.aJ (inv xs) i (-b).toNat:=by unfold ae.pw;rw[if_neg hb]
 have e2:∀j,ae.pw xs a j=ae.aJ xs j a.toNat:=λj=>by unfold ae.pw;rw[if_pos ha]
 rw[e1,e2,h.rm i0 i1];unfold ae.pw;split;split;rw[show(-b).toNat-a.toNat=0 by lk,show(a+b).toNat=0 by lk];rfl
 congr 1;lk
 rw[if_pos ⋯];congr 1;lk;have e1:ae.pw xs b i=ae.aJ xs i b.toNat:=by unfold ae.pw;rw[if_pos hb]
 have e2:∀j,ae.pw xs a j=ae.aJ (inv xs) j (-a).toNat:=λj=>by unfold ae.pw;rw[if_neg ha]
 rw[e1,e2,h.oN i0 i1];unfold ae.pw;split;rw[if_pos ⋯];congr 1;lk;rw[if_neg ⋯];congr 1;lk;unfold ae.pw;rw[if_neg ha,if_neg hb,if_neg ⋯,uY]
 congr 1
 lk
def XG:pw xs 0 i=i:=rfl
def Tn.pw_per(h:Tn n xs)(i0:0<=i)(i1:i<(n:Int)){L:Nat}(hL:ae.aJ xs i L=i)(q:Int):ae.pw xs ((L:Int)*q) i=i:=by
 have pos:∀m:Nat,ae.pw xs ((L:Int)*(m:Int)) i=i:=λm=>by
  unfold ae.pw;rw[if_pos (Int.mul_nonneg ⋯ ⋯),show((L:Int)*(m:Int)).toNat=0+L*m by rw[<- Int.natCast_mul,Zae];lk,EO hL];rfl
 by_cases hq:0<=q;obtain⟨m,rfl⟩:∃m:Nat,q=(m:Int):=⟨q.toNat,by lk⟩;exact pos m;obtain⟨m,rfl⟩:∃m:Nat,q=-(m:Int):=⟨(-q).toNat,by lk⟩
 have:=h.pw_add i0 i1 ((L:Int) * -(m:Int)) ((L:Int)*(m:Int));rw[pos m]at this;rw[this,Int.mul_neg,Int.add_left_neg];rfl
def Tn.Ao(h:Tn n xs)(i0:0<=i)(i1:i<(n:Int)){k v:Int}(o:Rj xs k i v):v=ae.pw xs k i:=by
 obtain⟨m,_,bk,rfl⟩:=o;have m0:=Zbi k (show((m+1:Nat):Int)≠0 by lk);have e:ae.aJ xs i (k % ((m+1:Nat):Int)).toNat=ae.pw xs (k % ((m+1:Nat):Int)) i:=by unfold ae.pw;rw[if_pos m0]
 rw[e];have e2:=h.pw_add i0 i1 (k % ((m+1:Nat):Int)) (((m+1:Nat):Int)*(k / ((m+1:Nat):Int)));rw[h.pw_per i0 i1 bk,Int.emod_add_mul_ediv]at e2;exact e2
end
abbrev og(xs:List Int)(k:Int):List Int:=(upto xs.length).map (pw xs k)
def EU(xs:List Int)(k:Int):(og xs k).length=xs.length:=by simp[og,tW]
def vR{xs:List Int}{k s:Int}(s0:0<=s)(s1:s<(xs.length:Int)):app (og xs k) s=pw xs k s:=by have e:=nE (xs:=og xs k) s0 (by rw[EU];exact s1);unfold og at e;rw[Zaj,Cz ⋯]at e;have:=Zai e;rw[Zat s0]at this;exact this.symm
def Tn.og{n:Nat}{xs:List Int}(h:Tn n xs)(k:Int):Tn n (og xs k):=by have hl:=h.length;refine Tn.u5 (by rw[EU];exact hl) (λs s0 s1=>by rw[vR s0 ⋯];exact h.pw s0 s1 k) λs t s0 s1 t0 t1 e=>?_;rw[vR s0 ⋯,vR t0 ⋯]at e;have e2:=congrArg (ae.pw xs (-k)) e;rw[h.pw_add s0 s1,h.pw_add t0 t1,Int.add_left_neg]at e2;exact e2
abbrev shr(xs ys:List Int)(k:Int):List Int:=nF (og xs (-k)) ys
def Tn.shr{n:Nat}{xs ys:List Int}(hx:Tn n xs)(hy:Tn n ys)(k:Int):Tn n (shr xs ys k):=(hx.og (-k)).nF hy
def Tn.lU{n:Nat}{xs ys:List Int}(hx:Tn n xs){k s:Int}(s0:0<=s)(s1:s<(n:Int)):ae.app (ae.shr xs ys k) s=ae.app ys (ae.pw xs (-k) s):=by have hl:=hx.length;unfold ae.shr;rw[u3 s0 (by rw[EU,hl];exact s1),vR s0 (by rw[hl];exact s1)]
def Tn.wQ{n:Nat}{xs ys:List Int}(hx:Tn n xs)(hy:Tn n ys)(a b:Int):ae.shr xs (ae.shr xs ys a) b=ae.shr xs ys (a+b):=by refine Am (n:=n) (hx.shr (hx.shr hy a) b).length (hx.shr hy (a+b)).length λs s0 s1=>?_;obtain⟨p0,p1⟩:=hx.pw s0 s1 (-b);rw[hx.lU s0 s1,hx.lU p0 p1,hx.lU s0 s1,hx.pw_add s0 s1,show -a + -b=-(a+b) by lk]
def Tn.u6{n:Nat}{xs ys:List Int}(hx:Tn n xs)(hy:Tn n ys):ae.shr xs ys 0=ys:=by refine Am (n:=n) (hx.shr hy 0).length hy.length λs s0 s1=>?_;rw[hx.lU s0 s1];rfl
end ae
namespace ae
abbrev tb(l:Int->Nat)(p:Int->Int)(a b:Int):Bool:=if l a=l b\/l (p a)=l (p b)then false else(decide (l a<l b)).xor (decide (l (p a)<l (p b)))
section
variable {n:Nat}{L:List Int}{l:Int->Nat}
abbrev mD(xs ys:List Int):List Int:=nF (nF xs ys) (nF (inv xs) (inv ys))
def Tn.mD{xs ys:List Int}(hx:Tn n xs)(hy:Tn n ys):Tn n (mD xs ys):=(hx.nF hy).nF (hx.bQ.nF hy.bQ)
end
end ae
namespace ae
def bM.step{xs r:List Int}{i:Int}(h:bM xs i r){a:Int}(ha:a∈r):app xs a∈r:=by obtain⟨m,e,_,bk⟩:=h.ex;subst e;obtain⟨j,hj,rfl⟩:=sZ.mp ha;by_cases q:j=m;subst q;exact sZ.mpr ⟨0,ZaZ _,bk.symm⟩;exact sZ.mpr ⟨j+1,by lk,rfl⟩
def bM.nodup{n:Nat}{xs r:List Int}{i:Int}(h:Tn n xs)(h0:0<=i)(h1:i<(n:Int))(a:bM xs i r):r.Nodup:=by obtain⟨m,e,nb,_⟩:=a.ex;subst e;unfold row List.Nodup;rw[Zcg];refine Zcd (R:=λa b=>a<b) ?_ Zci;intro a b ha hb hab e;have hb':=Za0.mp hb;obtain⟨d,rfl⟩:∃d,b=a+d:=⟨b-a,by lk⟩;exact nb d ⋯ ⋯ (h.back h0 h1 a d e)
def bM.u7{n:Nat}{xs r:List Int}{i:Int}(h:Tn n xs)(h0:0<=i)(h1:i<(n:Int))(a:bM xs i r){x:Int}(x0:0<=x)(x1:x<(n:Int))(hx:app xs x∈r):x∈r:=by
 obtain⟨m,e,nb,bk⟩:=a.ex;subst e;obtain⟨j,hj,e⟩:=sZ.mp hx;cases j with
 |zero =>
  have e':app xs (aJ xs i m)=app xs x:=bk.trans e;have:=h.inj (h.aJ h0 h1 m).1 (h.aJ h0 h1 m).2 x0 x1 e';exact sZ.mpr ⟨m,Zab _,this⟩
 |succ j =>
  have e':app xs (aJ xs i j)=app xs x:=e;have:=h.inj (h.aJ h0 h1 j).1 (h.aJ h0 h1 j).2 x0 x1 e';exact sZ.mpr ⟨j,by lk,this⟩
def pg.perm{n:Nat}{xs:List Int}(h:Tn n xs):∀{left:List Int} {rs:List (List Int)},pg xs left rs->left.Nodup->(∀x∈left,(0<=x/\x<(n:Int))/\app xs x∈left)->rs.flatten.Perm left:=by
 intro left rs a
 induction a with
 |nil=>intro _ _;exact Zbl _
 |cons h1 _ ih =>
  rename_i i left r rs _
  intro nd cl;obtain⟨i0,i1⟩:=(cl i Zaf).1;have sub:∀x∈r,x∈i :: left:=by
   obtain⟨m,e,_,_⟩:=h1.ex;subst e;have:∀j,aJ xs i j∈i :: left:=λj=>by
    induction j with
    |zero=>exact Zaf
    |succ j ih=>exact(cl _ ih).2
   intro x hx;obtain⟨j,_,rfl⟩:=sZ.mp hx;exact this j
  have p:=ih (Zcs ZcG nd) (λx hx=>by
   obtain⟨Nq,Nr⟩:=Za5.mp hx;have nr:x ∉ r:=by simpa using Nr
   obtain⟨b,c⟩:=cl x Nq
   exact⟨b,Za5.mpr ⟨c,by simpa usingλz=>nr (h1.u7 h i0 i1 b.1 b.2 z)⟩⟩)
  rw[ZaQ];refine(List.Perm.append_left r p).trans ?_;refine(List.perm_ext_iff_of_nodup ?_ nd).mpr ?_
  ·refine ZbT.mpr ⟨h1.nodup h i0 i1,Zcs ZcG nd,?_⟩
   intro a ha b hb e;subst e;have:=(Za5.mp hb).2;simp[ha]at this
  ·intro x
   rw[ZaE];constructor
   ·rintro(q|q)
    ·exact sub x q
    ·exact(Za5.mp q).1
   ·intro q
    by_cases c:x∈r
    ·exact .inl c
    ·exact .inr (Za5.mpr ⟨q,by simp[c]⟩)
def pg.EK{n:Nat}{xs:List Int}(h:Tn n xs){rs:List (List Int)}(a:pg xs (upto n) rs):rs.flatten.Perm (upto n) :=
 a.perm h (Ni n) λx hx=>⟨pP.mp hx,pP.mpr (h.app (pP.mp hx).1 (pP.mp hx).2)⟩
end ae
namespace ae
@[reducible]def Sp:=Bool×Int
abbrev eV(s:Sp):Prop:=(s.1=false->1<=s.2/\s.2<=3)/\s.2≠0
abbrev jZ(a b:Sp):Int:=if a.1 then a.2+b.2 else(a.2+b.2) % 4
abbrev b6(a b:Sp):List Sp:=if jZ a b=0 then[]else[(a.1,jZ a b)]
abbrev dB:List Sp->Sp->List Sp
 |[],s=>[s]
 |t :: r,s=>if t.1=s.1 then b6 t s ++ r else s :: t :: r
def wR(t:Sp)(r:List Sp)(s:Sp):dB (t :: r) s=if t.1=s.1 then b6 t s ++ r else s :: t :: r:=rfl
abbrev oO(w:List Sp):List Sp:=w.foldl dB []
abbrev lb(s:Sp):Sp:=(s.1,if s.1 then -s.2 else 4-s.2)
abbrev g9(w:List Sp):List Sp:=(w.map lb).reverse
abbrev Pl:List Sp->Prop
 |[]=>True
 |a :: r=>eV a/\(∀b,r.head?=some b->a.1≠b.1)/\Pl r
def Pl.pr:∀{l:List Sp},Pl l->∀s∈l,eV s
 |a :: r,h,s,hs=>by
  rcases Zar.mp hs with rfl|hs
  exact h.1;exact Pl.pr h.2.2 s hs
def Rq{a b:Sp}(ha:eV a)(e:a.1=b.1):(jZ a b=0/\b6 a b=[])\/(eV (a.1,jZ a b)/\b6 a b=[(a.1,jZ a b)]):=by unfold b6;by_cases h:jZ a b=0;exact .inl ⟨h,by rw[if_pos h]⟩;refine .inr ⟨⟨λhf=>?_,h⟩,by rw[if_neg h]⟩;simp only at hf;unfold jZ at h ⊢;simp only[hf,ZbR,if_false]at h ⊢;lk
def Pl.push{l:List Sp}{s:Sp}(h:Pl l)(hs:eV s):Pl (dB l s):=by
 cases l with
 |nil=>exact⟨hs,λb h=>(nomatch h),trivial⟩
 |cons t r =>
  rw[wR];split
  ·next e =>
   rcases Rq h.1 e with⟨_,ej⟩|⟨hp,ej⟩
   ·rw[ej];exact h.2.2
   ·rw[ej];exact⟨hp,h.2.1,h.2.2⟩
  ·next e =>
   refine⟨hs,λb hb=>?_,h⟩;cases hb;exactλe'=>e e'.symm
def Pl.fold{w:List Sp}:∀{l:List Sp},Pl l->(∀s∈w,eV s)->Pl (w.foldl dB l):=by
 induction w with
 |nil=>exactλh _=>h
 |cons s w ih=>exactλh hw=>ih (h.push (hw s (Zaf))) λs' h'=>hw s' (Zah _ h')
def Rr{w:List Sp}(hw:∀s∈w,eV s):Pl (oO w):=Pl.fold (l:=[]) trivial hw
def XH{l:List Sp}{s:Sp}(h:∀b,l.head?=some b->s.1≠b.1):dB l s=s :: l:=by
 cases l with
 |nil=>rfl
 |cons t r=>rw[wR,if_neg λe=>h t rfl e.symm]
def XI(u v:List Sp):oO (u ++ v)=v.foldl dB (oO u):=by unfold oO;rw[ZaR]
def EV{s:Sp}(h:eV s):eV (lb s):=by
 obtain⟨b,k⟩:=s;cases b with
 |true=>exact⟨nofun,λe=>h.2 (by have:-k=0:=e;show k=0;lk)⟩
 |false =>
  obtain⟨h1,h2⟩:=h.1 rfl;simp only at h1 h2;exact⟨λ_=>by show 1<=4-k/\4-k<=3;lk,by show 4-k≠0;lk⟩
def XJ{p:List Sp}{s:Sp}(hp:Pl p)(hs:eV s):dB (dB p s) (lb s)=p:=by
 have e0:b6 s (lb s)=[]:=by
  unfold b6 jZ lb;cases hb:s.1<;>simp<;>lk
 cases p with
 |nil =>
  show(if s.1=(lb s).1 then b6 s (lb s) ++ []else _)=_;rw[if_pos (show s.1=(lb s).1 from rfl),e0];rfl
 |cons t r =>
  by_cases e:t.1=s.1;have e1:dB (t :: r) s=b6 t s ++ r:=by rw[wR,if_pos e]
  rw[e1];obtain⟨tb,tk⟩:=t;obtain⟨sb,sk⟩:=s;simp only at e;subst e;have ht:=hp.1;rcases Rq (b:=(tb,sk)) hp.1 rfl with⟨h0,ej⟩|⟨Nt,ej⟩
  rw[ej,Zcw];have eb:lb (tb,sk)=(tb,tk):=by
   unfold lb;unfold jZ at h0;cases tb with
   |true=>simp only[if_true]at h0 ⊢;congr 1;lk
   |false =>
    have h1:=ht.1 rfl;have h2:=hs.1 rfl;simp only[ZbR,if_false]at h0 h1 h2 ⊢
    congr 1;lk
  rw[eb];exact XH hp.2.1;rw[ej];show(if tb=(lb (tb,sk)).1 then b6 (tb,jZ (tb,tk) (tb,sk)) (lb (tb,sk)) ++ r else _)=_;rw[if_pos (show tb=(lb (tb,sk)).1 from rfl)];have eb:jZ (tb,jZ (tb,tk) (tb,sk)) (lb (tb,sk))=tk:=by
   unfold jZ lb;cases tb with
   |true=>simp only[if_true];lk
   |false =>
    have h1:=ht.1 rfl;have h2:=hs.1 rfl;simp only[ZbR,if_false]at h1 h2 ⊢;lk
  unfold b6;rw[eb,if_neg ht.2];rfl;have e1:dB (t :: r) s=s :: t :: r:=by rw[wR,if_neg e]
  rw[e1];show(if s.1=(lb s).1 then b6 s (lb s) ++ (t :: r)else _)=_;rw[if_pos (show s.1=(lb s).1 from rfl),e0];rfl
def XM{w:List Sp}:∀{p:List Sp},Pl p->(∀s∈w,eV s)->(w ++ g9 w).foldl dB p=p:=by
 induction w with
 |nil=>exactλ_ _=>rfl
 |cons s w ih =>
  intro p hp hw;have e:(s :: w) ++ g9 (s :: w)=s :: ((w ++ g9 w) ++ [lb s]):=by unfold g9;simp
  rw[e];show((w ++ g9 w) ++ [lb s]).foldl dB (dB p s)=p;have hs:=hw s (Zaf);rw[ZaR,ih (hp.push hs) λs' h'=>hw s' (Zah _ h')];exact XJ hp hs
def XQ{w:List Sp}(hw:∀s∈w,eV s):oO (w ++ g9 w)=[]:=XM (p:=[]) trivial hw
def XR(l:List Sp)(s:Sp):(dB l s).length<=l.length+1:=by
 cases l with
 |nil=>exact Zab _
 |cons t r =>
  rw[wR];split;unfold b6;split<;>simp<;>lk;simp
def XS{w:List Sp}:∀{l:List Sp},(w.foldl dB l).length<=l.length+w.length:=by
 induction w with
 |nil=>exact Zab _
 |cons s w ih =>
  intro l;have:=ih (l:=dB l s);have h2:=XR l s;rw[Zaz];exact Zaw this ⋯
def Rv(w:List Sp):(oO w).length<=w.length:=by have:=XS (w:=w) (l:=[]);simpa[oO]using this
structure T4 where (a b c d:Int)
abbrev T4.one:T4:=⟨1,0,0,1⟩
abbrev T4.qt:T4:=⟨0,-1,1,0⟩
abbrev T4.mul(x y:T4):T4:=⟨x.a*y.a+x.b*y.c,x.a*y.b+x.b*y.d,x.c*y.a+x.d*y.c,x.c*y.b+x.d*y.d⟩
abbrev T4.ur(x:T4):T4:=⟨x.d,-x.b,-x.c,x.a⟩
def T4.ext'{x y:T4}(h1:x.a=y.a)(h2:x.b=y.b)(h3:x.c=y.c)(h4:x.d=y.d):x=y:=by cases x;cases y;simp only at h1 h2 h3 h4;subst h1 h2 h3 h4;rfl
def T4.assoc(x y z:T4):(x.mul y).mul z=x.mul (y.mul z):=by apply T4.ext'<;>simp only[T4.mul,Int.add_mul,Int.mul_add,ZcP]<;>lk
def T4.one_mul(x:T4):T4.one.mul x=x:=by apply T4.ext'<;>simp[T4.mul,T4.one]
def T4.mul_one(x:T4):x.mul T4.one=x:=by apply T4.ext'<;>simp[T4.mul,T4.one]
def T4.wU(x y:T4):(x.mul y).ur=y.ur.mul x.ur:=by apply T4.ext'<;>simp only[T4.mul,T4.ur,Zbo,Int.mul_neg,Int.neg_neg,Int.mul_comm]<;>lk
abbrev qp:Nat->T4
 |0=>T4.one
 |n+1=>T4.qt.mul (qp n)
abbrev lq(s:Sp):T4:=if s.1 then⟨1,s.2,0,1⟩else qp s.2.toNat
abbrev oE(T:T4)(w:List Sp):T4:=w.foldl (λT s=>(lq s).mul T) T
abbrev aN(w:List Sp):T4:=oE T4.one w
def XT(w:List Sp):∀T:T4,oE T w=(aN w).mul T:=by
 induction w with
 |nil=>exactλT=>(T4.one_mul T).symm
 |cons s w ih =>
  intro T;show oE ((lq s).mul T) w=(oE ((lq s).mul T4.one) w).mul T;rw[ih,ih,T4.mul_one,T4.assoc]
def Ap(u v:List Sp):aN (u ++ v)=(aN v).mul (aN u):=by show oE T4.one (u ++ v)=_;unfold oE;rw[ZaR];exact XT v _
def Aq(u:List Sp)(s:Sp):aN (u ++ [s])=(lq s).mul (aN u):=by show oE T4.one (u ++ [s])=_;unfold oE;rw[ZaR];rfl
def t3{k:Int}(h:1<=k/\k<=3):k=1\/k=2\/k=3:=by lk
def XU{t s:Sp}(ht:eV t)(hs:eV s)(e:t.1=s.1):aN (b6 t s)=(lq s).mul (lq t):=by
 obtain⟨tb,tk⟩:=t;obtain⟨sb,sk⟩:=s;simp only at e;subst e;cases tb with
 |true =>
  have e2:(lq (true,sk)).mul (lq (true,tk))=⟨1,tk+sk,0,1⟩:=by apply T4.ext'<;>simp[T4.mul,lq]<;>lk
  rw[e2];unfold b6 jZ;simp only[if_true];split
  ·next h=>rw[h];rfl
  ·rw[show aN [(true,tk+sk)]=(lq (true,tk+sk)).mul T4.one from rfl,T4.mul_one];rfl
 |false =>
  have h1:=ht.1 rfl;have h2:=hs.1 rfl;simp only at h1 h2;rcases t3 h1 with rfl|rfl|rfl<;>rcases t3 h2 with rfl|rfl|rfl<;>rfl
def XW{l:List Sp}{s:Sp}(hl:Pl l)(hs:eV s):aN (dB l s).reverse=(lq s).mul (aN l.reverse):=by
 cases l with
 |nil=>exact Aq [] s
 |cons t r =>
  rw[wR];split
  ·next e =>
   rw[ZcH,Ap,Zbb,Aq,<- T4.assoc]
   congr 1
   rw[<- XU hl.1 hs e];unfold b6;split<;>rfl
  ·rw[Zbb,Aq]
def XX{w:List Sp}:∀{l:List Sp},Pl l->(∀s∈w,eV s)->aN (w.foldl dB l).reverse=oE (aN l.reverse) w:=by
 induction w with
 |nil=>exactλ_ _=>rfl
 |cons s w ih =>
  intro l hl hw;have hs:=hw s (Zaf);show aN (w.foldl dB (dB l s)).reverse=oE ((lq s).mul (aN l.reverse)) w;rw[ih (hl.push hs) λs' h'=>hw s' (Zah _ h'),XW hl hs]
def Rx{w:List Sp}(hw:∀s∈w,eV s):aN (oO w).reverse=aN w:=XX (l:=[]) trivial hw
def Ar{s:Sp}(h:eV s):lq (lb s)=(lq s).ur:=by
 obtain⟨b,k⟩:=s;cases b with
 |true=>apply T4.ext'<;>simp[T4.ur,lq,lb]
 |false =>
  have h1:=h.1 rfl;simp only at h1;rcases t3 h1 with rfl|rfl|rfl<;>rfl
def Ry{w:List Sp}(hw:∀s∈w,eV s):aN (g9 w)=(aN w).ur:=by
 induction w with
 |nil=>rfl
 |cons s w ih =>
  have e:g9 (s :: w)=g9 w ++ [lb s]:=by unfold g9;simp
  have e2:aN (s :: w)=(aN w).mul (lq s):=by
   rw[show s :: w=[s] ++ w from rfl,Ap]
   congr 1
   exact(Aq [] s).trans (T4.mul_one _)
  rw[e,Aq,ih λs' h'=>hw s' (Zah _ h'),Ar (hw s (Zaf)),e2,T4.wU]
abbrev T4.le(x:T4)(M:Nat):Prop:=x.a.natAbs<=M/\x.b.natAbs<=M/\x.c.natAbs<=M/\x.d.natAbs<=M
def Rz{a c k:Int}{M B:Nat}(ha:a.natAbs<=M)(hc:c.natAbs<=M)(hk:k.natAbs<=B):(a+k*c).natAbs<=(B+1)*M:=by
 have h1:(k*c).natAbs<=B*M:=by rw[ZbE];exact Zce hk hc
 rw[ZbV];lk
def EW{T:T4}{s:Sp}{M B:Nat}(h:T.le M)(hp:eV s)(hs:s.2.natAbs<=B):((lq s).mul T).le ((B+1)*M):=by
 obtain⟨b,k⟩:=s;obtain⟨ha,hb,hc,hd⟩:=h;have hM:M<=(B+1)*M:=by rw[ZbV];lk
 cases b with
 |true =>
  refine⟨?_,?_,?_,?_⟩<;>simp only[T4.mul,lq,if_true,ZcK,Int.zero_mul,Za9];exact Rz ha hc hs;exact Rz hb hd hs;lk;lk
 |false =>
  have h1:=hp.1 rfl;simp only at h1;rcases t3 h1 with rfl|rfl|rfl<;>refine⟨?_,?_,?_,?_⟩<;>simp[T4.mul,lq,qp,T4.qt,T4.one]<;>lk
end ae
namespace ae
@[reducible]def cU:=List Int×List Int
end ae
namespace ae
def XY(n:Nat):Tn n (upto n):=Zbl _
def RA{n:Nat}{s:Int}(s0:0<=s)(s1:s<(n:Int)):app (upto n) s=s:=by unfold app;rw[Zau,Cz ⋯,Option.getD_some];lk
section
variable {n:Nat}{a b c g x y:List Int}
def XZ(hx:Tn n x)(i j:Int):nF (og x i) (og x j)=og x (i+j):=by refine Am (n:=n) ((hx.og i).nF (hx.og j)).length (hx.og (i+j)).length λs s0 s1=>?_;obtain⟨p0,p1⟩:=hx.pw s0 s1 i;have hl:=hx.length;rw[u3 s0 (by rw[EU,hl];exact s1),vR s0 (by rw[hl];exact s1),vR p0 (by rw[hl];exact p1),vR s0 (by rw[hl];exact s1),hx.pw_add s0 s1,Int.add_comm j i]
def EX(hx:Tn n x):og x 0=upto n:=by refine Am (n:=n) (hx.og 0).length (XY n).length λs s0 s1=>?_;rw[vR s0 (by rw[hx.length];exact s1),RA s0 s1];rfl
end
abbrev Vf(n:Nat)(p:cU):Prop:=Tn n p.1/\Tn n p.2
abbrev Sh(k:Int)(p:cU):cU:=(p.1,shr p.1 p.2 k)
abbrev Qt(p:cU):cU:=(inv p.2,p.1)
section
variable {n:Nat}{p q r:cU}
def Vf.sh(h:Vf n p)(k:Int):Vf n (Sh k p):=⟨h.1,h.1.shr h.2 k⟩
def Vf.qt(h:Vf n p):Vf n (Qt p):=⟨h.2.bQ,h.1⟩
def JV(h:Vf n p)(j k:Int):Sh k (Sh j p)=Sh (j+k) p:=by show(p.1,shr p.1 (shr p.1 p.2 j) k)=(p.1,shr p.1 p.2 (j+k));rw[h.1.wQ h.2]
def wV(h:Vf n p):Sh 0 p=p:=by show(p.1,shr p.1 p.2 0)=p;rw[h.1.u6 h.2]
abbrev Q2(p:cU):cU:=(inv p.1,inv p.2)
def EY(h:Vf n p):Q2 (Q2 p)=p:=by show(inv (inv p.1),inv (inv p.2))=p;rw[h.1.inv_inv,h.2.inv_inv]
end
abbrev tS(k:Int):T4:=⟨1,k,0,1⟩
section
variable {n:Nat}{p q r:cU}
abbrev big:List Int->Prop
 |[]=>True
 |[_]=>True
 |j :: b :: ks=>(2<=j\/j<=-2)/\big (b :: ks)
end
abbrev tj:Nat->cU->cU
 |0,p=>p
 |j+1,p=>Qt (tj j p)
abbrev stM(p:cU)(s:Sp):cU:=if s.1=true then Sh s.2 p else tj s.2.toNat p
abbrev b7(p:cU)(w:List Sp):cU:=w.foldl stM p
section
variable {n:Nat}{p q:cU}
def Vf.tj(h:Vf n p):∀j,Vf n (ae.tj j p)
 |0=>h
 |j+1=>(Vf.tj h j).qt
def Vf.st(h:Vf n p)(s:Sp):Vf n (stM p s):=by unfold stM;split;exact h.sh _;exact h.tj _
def Vf.ld:∀{w:List Sp} {p:cU},Vf n p->Vf n (b7 p w)
 |[],_,h=>h
 |s :: w,p,h=>Vf.ld (w:=w) (h.st s)
def ym(p:cU)(u v:List Sp):b7 p (u ++ v)=b7 (b7 p u) v:=by unfold b7;rw[ZaR]
end
def X0(s:Sp)(w:List Sp):aN (s :: w)=(aN w).mul (lq s):=by have:=Ap [s] w;rw[show aN [s]=(lq s).mul T4.one from rfl,T4.mul_one]at this;exact this
def JW{w:List Sp}(hw:∀s∈w,eV s):∀s∈g9 w,eV s:=λs hs=>by
 unfold g9 at hs;obtain⟨t,ht,rfl⟩:=ZaP.mp (Zb2.mp hs);exact EV (hw t ht)
def As{w:List Sp}(hw:∀s∈w,eV s):aN (w ++ g9 w)=T4.one:=by
 have hp:∀s∈w ++ g9 w,eV s:=λs hs=>by
  rcases ZaE.mp hs with hs|hs
  exact hw s hs;exact JW hw s hs
 rw[<- Rx hp,XQ hw];rfl
def JX{w:List Sp}(hw:∀s∈w,eV s):(aN w).a*(aN w).d-(aN w).b*(aN w).c=1:=by have:=As hw;rw[Ap,Ry hw]at this;have h:=congrArg T4.a this;have h:(aN w).d*(aN w).a + -(aN w).b*(aN w).c=1:=h;rw[Int.mul_comm (aN w).d,Zbo]at h;lk
def RB{M:T4}(h:M.a*M.d-M.b*M.c=1):M.mul M.ur=T4.one/\M.ur.mul M=T4.one:=by constructor<;>(apply T4.ext'<;>simp[T4.mul,T4.ur,T4.one]<;>grind)
end ae
namespace ae
section
variable {n:Nat}{p q:cU}{g h:List Int}{s t:Int}
structure Wh(n:Nat)(p:cU):Prop where
 v:Vf n p
 all:∀x:Int,0<=x->x<(n:Int)->mC p.1 p.2 x
def JY(xs ys:List Int):∀k,∀y∈bf xs ys 0 k,mC xs ys y
 |0,y,hy=>by rw[ZaM.mp (show y∈[(0:Int)]from hy)];exact .zero
 |k+1,y,hy=>by
  have hy':y∈(match (bf xs ys 0 k)[k]? with|some x=>visit xs ys (bf xs ys 0 k) x|none=>bf xs ys 0 k):=hy;split at hy'
  ·next z hz =>
   have RC:=JY xs ys k z (Zas hz);rcases yj.mp hy' with hy'|rfl
   ·rcases yj.mp hy' with hy'|rfl
    ·exact JY xs ys k y hy'
    ·exact RC.r
   ·exact RC.u
  ·exact JY xs ys k y hy'
def yn(w:Wh n p)(v:Vf n q)(n0:0<n)(h:∀F:List Int,F.Nodup->(∀x∈F,0<=x/\x<(n:Int))->Cl q.1 q.2 F->Cl p.1 p.2 F):Wh n q:=by refine⟨v,λx x0 x1=>JY q.1 q.2 n x ?_⟩;have c:=h (bf q.1 q.2 0 n) (ET _ _ _ _) (CD v.1 v.2 ∅ ⋯ n) (yl v.1 v.2 ∅ ⋯);refine c.all ?_ (w.all x x0 x1);have:=CC q.1 q.2 0 0 n;rw[ZcC]at this;exact this.subset (show(0:Int)∈[(0:Int)] by simp)
def RD{zs F:List Int}(hz:Tn n zs)(nd:F.Nodup)(hb:∀x∈F,0<=x/\x<(n:Int))(hc:∀x∈F,app zs x∈F):∀x∈F,app (inv zs) x∈F:=λx hx=>by
 obtain⟨x0,x1⟩:=hb x hx;obtain⟨a0,a1⟩:=hz.jY x0 x1;exact Nn hz nd hb hc a0 a1 (by rw[hz.a9 x0 x1];exact hx)
def Nu{zs F:List Int}(hc:∀x∈F,app zs x∈F){x:Int}(hx:x∈F):∀k,aJ zs x k∈F
 |0=>hx
 |k+1=>hc _ (Nu hc hx k)
def EZ{zs F:List Int}(hz:Tn n zs)(nd:F.Nodup)(hb:∀x∈F,0<=x/\x<(n:Int))(hc:∀x∈F,app zs x∈F)(k:Int){x:Int}(hx:x∈F):pw zs k x∈F:=by unfold pw;split;exact Nu hc hx _;exact Nu (RD hz nd hb hc) hx _
def Wh.sh(w:Wh n p)(n0:0<n)(k:Int):Wh n (Sh k p):=by
 refine yn w (w.v.sh k) n0 λF nd hb hc x hx=>⟨(hc x hx).1,?_⟩;obtain⟨x0,x1⟩:=hb x hx;have h1:∀x∈F,app p.1 x∈F:=λx hx=>(hc x hx).1;have hy:=EZ w.v.1 nd hb h1 k hx;have:=(hc _ hy).2;obtain⟨y0,y1⟩:=hb _ hy;have e:app (Sh k p).2 (pw p.1 k x)=app p.2 x:=by
  show app (shr p.1 p.2 k) (pw p.1 k x)=_;unfold shr;have hlen:(og p.1 (-k)).length=n:=(w.v.1.og (-k)).length;rw[u3 y0 (by rw[hlen];exact y1)]
  congr 1
  have e3:=XZ w.v.1 k (-k);rw[Int.add_right_neg,EX w.v.1]at e3;have e4:app (nF (og p.1 k) (og p.1 (-k))) x=app (upto n) x:=by rw[e3]
  rw[RA x0 x1,u3 x0 (by rw[(w.v.1.og k).length];exact x1)]at e4;have e5:app (og p.1 k) x=pw p.1 k x:=vR x0 (by rw[w.v.1.length];exact x1);rw[e5]at e4;exact e4
 rw[e]at this;exact this
def Wh.qt(w:Wh n p)(n0:0<n):Wh n (Qt p):=by refine yn w w.v.qt n0 λF nd hb hc x hx=>⟨(hc x hx).2,?_⟩;have:=RD w.v.2.bQ nd hb (λx hx=>(hc x hx).1) x hx;rw[w.v.2.inv_inv]at this;exact this
end
end ae
namespace ae
section
variable {n:Nat}{xs ys r r' r2:List Int}{i j x y:Int}
def bM.go(h:bM xs i r)(hx:x∈r)(hy:y∈r):∃k,y=aJ xs x k:=by obtain⟨m,e,_,bk⟩:=h.ex;subst e;obtain⟨a,ha,rfl⟩:=sZ.mp hx;obtain⟨b,hb,rfl⟩:=sZ.mp hy;refine⟨b+(m+1)-a,?_⟩;rw[uY,show a+(b+(m+1)-a)=b+(m+1) by lk];exact(Nl bk b).symm
def bM.qz(h:bM xs i r)(hx:x∈r):∀k,aJ xs x k∈r
 |0=>hx
 |k+1=>h.step (h.qz hx k)
def RE(h:bM xs i r)(h':bM xs j r')(hx:x∈r)(hx':x∈r')(hy:y∈r):y∈r':=by obtain⟨k,rfl⟩:=h.go hx hy;exact h'.qz hx' k
abbrev Rw(n:Nat)(xs r:List Int):Prop:=∃i:Int,(0<=i/\i<(n:Int))/\bM xs i r/\∀x∈r,i<=x
def Rw.eq(a:Rw n xs r)(b:Rw n xs r')(hx:x∈r)(hx':x∈r'):r=r':=by
 obtain⟨i,bi,ri,li⟩:=a;obtain⟨j,bj,rj,lj⟩:=b;have h1:=lj i (RE ri rj hx hx' ri.mem);have h2:=li j (RE rj ri hx' hx rj.mem);have:i=j:=by lk
 subst this;exact ri.unique rj
def Rw.bound(tx:Tn n xs)(a:Rw n xs r):∀x∈r,0<=x/\x<(n:Int):=by obtain⟨i,bi,ri,li⟩:=a;exact ri.bound tx bi.1 bi.2
def Rw.len(tx:Tn n xs)(a:Rw n xs r):r.length<=n:=by obtain⟨i,bi,ri,li⟩:=a;exact ri.len tx bi.1 bi.2
def Rw.one(a:Rw n xs r):∃x,x∈r:=let ⟨i,_,ri,_⟩:=a;⟨i,ri.mem⟩
def pg.rw'(tx:Tn n xs):∀{left:List Int} {rs:List (List Int)},pg xs left rs->left.Pairwise (· < ·)->(∀x∈left,(0<=x/\x<(n:Int))/\app xs x∈left)->∀r∈rs,Rw n xs r:=by
 intro left rs a
 induction a with
 |nil=>intro _ _ r hr;cases hr
 |cons h1 _ ih =>
  rename_i i left r rs _
  intro nd cl q hq;obtain⟨i0,i1⟩:=(cl i Zaf).1;have sub:∀x∈r,x∈i :: left:=by
   obtain⟨m,e,_,_⟩:=h1.ex;subst e;have:∀j,aJ xs i j∈i :: left:=λj=>by
    induction j with
    |zero=>exact Zaf
    |succ j ih=>exact(cl _ ih).2
   intro x hx;obtain⟨j,_,rfl⟩:=sZ.mp hx;exact this j
  rcases Zar.mp hq with rfl|hq
  ·refine⟨i,⟨i0,i1⟩,h1,λx hx=>?_⟩
   rcases Zar.mp (sub x hx)with rfl|h
   ·lk
   ·have:=(List.pairwise_cons.mp nd).1 x h;lk
  ·refine ih (Zcs ZcG nd) (λx hx=>?_) q hq
   obtain⟨Nq,Nr⟩:=Za5.mp hx;have nr:x ∉ r:=by simpa using Nr
   obtain⟨b,c⟩:=cl x Nq;exact⟨b,Za5.mpr ⟨c,by simpa usingλz=>nr (h1.u7 tx i0 i1 b.1 b.2 z)⟩⟩
def pg.rw(tx:Tn n xs){rs:List (List Int)}(g:pg xs (upto n) rs):∀r∈rs,Rw n xs r :=
 g.rw' tx (Rh n) λx hx=>⟨pP.mp hx,pP.mpr (tx.app (pP.mp hx).1 (pP.mp hx).2)⟩
def pg.has{rs:List (List Int)}(g:pg xs (upto n) rs)(x0:0<=x)(x1:x<(n:Int)):∃r∈rs,x∈r:=g.all.2 x (pP.mpr ⟨x0,x1⟩)
def X1{rs:List (List Int)}(h:rs.flatten.Nodup)(ne:∀r∈rs,r≠[]):rs.Nodup:=by
 induction rs with
 |nil=>exact List.nodup_nil
 |cons r rs ih =>
  rw[ZaQ]at h;obtain⟨_,h2,h3⟩:=ZbT.mp h;refine Zbp.mpr ⟨λhm=>?_,ih h2 λq hq=>ne q (Zah _ hq)⟩;obtain⟨x,hx⟩:=List.exists_mem_of_ne_nil r (ne r Zaf);exact h3 x hx x (List.mem_flatten.mpr ⟨r,hm,hx⟩) rfl
def pg.nodup(tx:Tn n xs){rs:List (List Int)}(g:pg xs (upto n) rs):rs.Nodup:=by refine X1 ((g.EK tx).nodup_iff.mpr (Ni n)) λr hr e=>?_;obtain⟨x,hx⟩:=(g.rw tx r hr).one;rw[e]at hx;cases hx
abbrev Sm(xs ys r:List Int):Prop:=∀s∈r,app ys (app xs s)=app xs (app ys s)
instance:Decidable (Sm xs ys r):=inferInstanceAs (Decidable (∀s∈r,app ys (app xs s)=app xs (app ys s)))
end
end ae
namespace ae
section
variable {n:Nat}{c g:List Int}{rs rs':List (List Int)}
abbrev rn(p:cU):List Int:=mD p.1 p.2
end
section
variable {n:Nat}{p q:cU}{g:List Int}
def Wh.tj(w:Wh n p)(n0:0<n):∀j,Wh n (ae.tj j p)
 |0=>w
 |j+1=>(w.tj n0 j).qt n0
def Wh.st(w:Wh n p)(n0:0<n)(s:Sp):Wh n (stM p s):=by unfold stM;split;exact w.sh n0 _;exact w.tj n0 _
def Wh.ld(n0:0<n):∀{w:List Sp} {p:cU},Wh n p->Wh n (b7 p w)
 |[],_,h=>h
 |s :: w,_,h=>Wh.ld n0 (w:=w) (h.st n0 s)
end
end ae
namespace ae
abbrev nr(x y:Int):Int:=(2*x+y).fdiv (2*y)
def X2(a b:Int)(hb:b≠0):(0<b->0<=a-b*a.fdiv b/\a-b*a.fdiv b<b)/\(b<0->b<a-b*a.fdiv b/\a-b*a.fdiv b<=0):=by
 have h1:=Int.mul_ediv_add_emod a b;have h2:=Zbi a hb;have h3:=Int.emod_lt a hb;rw[Int.fdiv_eq_ediv];constructor;intro h;rw[if_pos (.inl ⋯),Int.sub_zero];have:b.natAbs=b.toNat:=by lk
 constructor<;>lk;intro h;by_cases hd:b ∣ a;rw[if_pos (.inr hd),Int.sub_zero]
 have:a % b=0:=Int.emod_eq_zero_of_dvd hd;constructor<;>lk
 rw[if_neg (by rintro(z|z);lk;exact hd z),Int.mul_sub];have hne:a % b≠0:=λz=>hd (Int.dvd_of_emod_eq_zero z);constructor<;>lk
def yo{x y:Int}(hy:y≠0):2*(x-nr x y*y).natAbs<=y.natAbs:=by
 obtain⟨h1,h2⟩:=X2 (2*x+y) (2*y) ⋯;have e:2*x+y-2*y*(2*x+y).fdiv (2*y)=2*(x-nr x y*y)+y:=by
  unfold nr;rw[Int.mul_sub,Int.mul_comm ((2*x+y).fdiv (2*y)) y,ZcP];lk
 rw[e]at h1 h2;rcases(show 0<y\/y<0 by lk)with h|h
 have:=h1 ⋯;lk
 have:=h2 ⋯;lk
def Au{x y:Int}(hy:y≠0):(nr x y).natAbs<=x.natAbs+1:=by
 have h:=yo (x:=x) hy;have h1:(nr x y*y).natAbs<=x.natAbs+(x-nr x y*y).natAbs:=by lk
 rw[ZbE]at h1;have hy1:1<=y.natAbs:=by lk
 by_cases hq:(nr x y).natAbs<=x.natAbs+1;exact hq;exfalso;have h2:(x.natAbs+2)*y.natAbs<=(nr x y).natAbs*y.natAbs:=Zbq _ ⋯;have h3:(x.natAbs+2)*y.natAbs=x.natAbs*y.natAbs+2*y.natAbs:=Nat.add_mul _ _ _;have h4:x.natAbs<=x.natAbs*y.natAbs:=Zcf _ hy1;lk
abbrev rq(k:Int):List Sp:=if k=0 then[]else[(true,k)]
def Nv{k:Int}:∀s∈rq k,eV s/\s.2=k:=λs hs=>by
 unfold rq at hs;split at hs
 ·cases hs
 ·next h =>
  rw[ZaM.mp hs];exact⟨⟨(λz=>by cases z),h⟩,rfl⟩
def Nw(k:Int):aN (rq k)=⟨1,k,0,1⟩:=by
 unfold rq;split
 ·next h=>rw[h];rfl
 ·show(lq (true,k)).mul T4.one=_
  rw[T4.mul_one];rfl
def E1(k:Int):(rq k).length<=1:=by unfold rq;split<;>simp
abbrev qW(x y:Int):List Sp:=rq (-(nr x y)) ++ [(false,1)]
def Nx(x y:Int):aN (qW x y)=⟨0,-1,1,-(nr x y)⟩:=by unfold qW;rw[Aq,Nw];apply T4.ext'<;>simp[T4.mul,lq,qp,T4.qt,T4.one]
def RF{x y:Int}(hy:y≠0):∀s∈qW x y,eV s/\s.2.natAbs<=x.natAbs+1:=λs hs=>by
 have h:=Au (x:=x) hy;rcases ZaE.mp hs with hs|hs
 obtain⟨h1,h2⟩:=Nv s hs;exact⟨h1,by rw[h2];lk⟩;rw[ZaM.mp hs];exact⟨⟨λ_=>⟨by decide,by decide⟩,by decide⟩,by show 1<=_;lk⟩
def Ny(x y:Int):(qW x y).length<=2:=by unfold qW;rw[Zak];have:=E1 (-(nr x y));simp;lk
structure Dv(M:Nat)(x y:Int)(g:List Sp)(u v:Int)(r:Nat):Prop where
 pr:∀s∈g,eV s/\s.2.natAbs<=M+1
 ln:g.length<=2*r
 ua:u=(aN g).a*x+(aN g).b*y
 vc:v=(aN g).c*x+(aN g).d*y
 ub:u.natAbs<=M
 vb:v.natAbs*2 ^ r<=M
def Dv.zero{M:Nat}{x y:Int}(hx:x.natAbs<=M)(hy:y.natAbs<=M):Dv M x y [] x y 0 :=
 ⟨(λs hs=>nomatch hs),Zab _,by show x=1*x+0*y;lk,by show y=0*x+1*y;lk,hx,by lk⟩
def Dv.step{M r:Nat}{x y u v:Int}{g:List Sp}(h:Dv M x y g u v r)(hv:v≠0):Dv M x y (g ++ qW u v) (-v) (u-nr u v*v) (r+1):=by
 have hl:=yo (x:=u) hv;have hlen:=Ny u v;have h2:1<=2 ^ r:=Nat.one_le_two_pow;have vM:v.natAbs<=M:=Zaw (Zcf _ h2) h.vb;have e:aN (g ++ qW u v)=⟨-(aN g).c,-(aN g).d,(aN g).a-nr u v*(aN g).c,(aN g).b-nr u v*(aN g).d⟩:=by
  rw[Ap,Nx];apply T4.ext'<;>simp[T4.mul,Zbo]<;>lk
 refine⟨λs hs=>?_,by rw[Zak];have:=h.ln;lk,?_,?_,by lk,?_⟩;rcases ZaE.mp hs with hs|hs
 exact h.pr s hs;obtain⟨h1,h3⟩:=RF hv s hs;exact⟨h1,by have:=h.ub;lk⟩;rw[e];show -v=-(aN g).c*x + -(aN g).d*y;rw[h.vc,Zbo,Zbo];lk;rw[e];show u-nr u v*v=((aN g).a-nr u v*(aN g).c)*x+((aN g).b-nr u v*(aN g).d)*y;generalize hq:nr u v=q;rw[h.ua,h.vc,Int.sub_mul,Int.sub_mul,Int.mul_add,ZcP,ZcP];lk
 have:=h.vb
 have h3:(u-nr u v*v).natAbs*2 ^ (r+1)=2*(u-nr u v*v).natAbs*2 ^ r:=by rw[Nat.pow_succ,Zcx (2 ^ r) 2,<- Nat.mul_assoc,Zcx _ 2]
 rw[h3];exact Zaw (Zbq _ hl) this
def Dv.few{M r k:Nat}{x y u v:Int}{g:List Sp}(h:Dv M x y g u v r)(hv:v≠0)(hM:M<2 ^ k):r<k:=by have h1:2 ^ r<=M:=Zaw (Nat.le_mul_of_pos_left _ ⋯) h.vb;exact(Nat.pow_lt_pow_iff_right ∅).mp (Za1 h1 hM)
abbrev qA(A:T4):List Sp:=if A.a=1 then rq A.b else(false,2) :: rq (-A.b)
def RG{a d:Int}(h:a*d=1):(a=1/\d=1)\/(a=-1/\d=-1):=by
 have h1:=congrArg Int.natAbs h;rw[ZbE]at h1;have h2:a.natAbs=1:=Nat.eq_one_of_dvd_one ⟨_,h1.symm⟩;rcases(show a=1\/a=-1 by lk)with rfl|rfl
 exact .inl ⟨rfl,by lk⟩;exact .inr ⟨rfl,by lk⟩
def X3{A:T4}(hc:A.c=0)(hd:A.a*A.d-A.b*A.c=1):aN (qA A)=A:=by
 have h1:A.a*A.d=1:=by rw[hc,Int.mul_zero]at hd;lk
 unfold qA;rcases RG h1 with⟨e1,e2⟩|⟨e1,e2⟩
 rw[if_pos e1,Nw];exact T4.ext' e1.symm rfl hc.symm e2.symm;rw[if_neg (by rw[e1];decide),X0,Nw];apply T4.ext';simp[T4.mul,lq,qp,T4.qt,T4.one,e1];simp[T4.mul,lq,qp,T4.qt,T4.one];simp[T4.mul,lq,qp,T4.qt,T4.one,hc];simp[T4.mul,lq,qp,T4.qt,T4.one,e2]
def RH(A:T4):∀s∈qA A,eV s:=λs hs=>by
 unfold qA at hs;split at hs;exact(Nv s hs).1;rcases Zar.mp hs with rfl|hs
 exact⟨λ_=>⟨by decide,by decide⟩,by decide⟩;exact(Nv s hs).1
def X4(A:T4):(qA A).length<=2:=by
 unfold qA;split
 have:=E1 A.b;lk
 have:=E1 (-A.b);simp;lk
def RI(A B:T4):(A.mul B).a*(A.mul B).d-(A.mul B).b*(A.mul B).c=(A.a*A.d-A.b*A.c)*(B.a*B.d-B.b*B.c):=by
 simp only[T4.mul]
 grind
def X5{T:T4}{g:List Sp}(hd:T.a*T.d-T.b*T.c=1)(hg:∀s∈g,eV s)(h0:(aN g).c*T.a+(aN g).d*T.c=0):aN (oO (qA ((aN g).mul T) ++ g9 g)).reverse=T/\∀s∈(oO (qA ((aN g).mul T) ++ g9 g)).reverse,eV s:=by
 have E2:((aN g).mul T).a*((aN g).mul T).d-((aN g).mul T).b*((aN g).mul T).c=1:=by rw[RI,JX hg,hd];rfl
 have JZ:((aN g).mul T).c=0:=h0;have pr:∀s∈qA ((aN g).mul T) ++ g9 g,eV s:=λs hs=>by
  rcases ZaE.mp hs with hs|hs
  exact RH _ s hs;exact JW hg s hs
 refine⟨?_,λs hs=>(Rr pr).pr s (Zb2.mp hs)⟩;rw[Rx pr,Ap,X3 JZ E2,Ry hg,<- T4.assoc,(RB (JX hg)).2,T4.one_mul]
end ae
namespace ae
@[reducible]def Se:=(Int->Int)×(Int->Int)
abbrev oP(n:Nat)(s t:Se):Prop:=∀u:Int,0<=u->u<(n:Int)->s.1 u=t.1 u/\s.2 u=t.2 u
def oP.refl{n:Nat}(s:Se):oP n s s:=λ_ _ _=>⟨rfl,rfl⟩
def oP.trans{n:Nat}{s t u:Se}(a:oP n s t)(b:oP n t u):oP n s u:=λv h0 h1=>⟨(a v h0 h1).1.trans (b v h0 h1).1,(a v h0 h1).2.trans (b v h0 h1).2⟩
abbrev J0(x:List Int)(s:Se):Se:=(λt=>s.1 t-s.2 (app x t),λt=>s.2 (app x t))
abbrev J1(x:List Int)(s:Se):Se:=(λt=>s.1 t+s.2 t,λt=>s.2 (app (inv x) t))
abbrev uu(y:List Int)(s:Se):Se:=(λt=>s.2 (app (inv y) t),λt=>-s.1 t)
abbrev rS(p:cU)(st:Sp)(s:Se):Se:=if st.1=true then(if 0<st.2 then J0 p.1 s else J1 p.1 s)else uu p.2 s
abbrev cS:cU->List Sp->Se->Se
 |_,[],s=>s
 |p,st :: w,s=>rS p st (cS (stM p st) w s)
abbrev br(st:Sp):List Sp:=List.replicate st.2.natAbs (st.1,if st.2<0 then -1 else 1)
section
variable {n:Nat}{p:cU}
def X6(h:Vf n p)(st:Sp){s t:Se}(e:oP n s t):oP n (rS p st s) (rS p st t):=by intro u h0 h1;have ex:=h.1.app h0 h1;have ei:=h.1.jY h0 h1;have ey:=h.2.jY h0 h1;unfold rS;split;split;show s.1 u-s.2 (app p.1 u)=t.1 u-t.2 (app p.1 u)/\s.2 (app p.1 u)=t.2 (app p.1 u);rw[(e u h0 h1).1,(e _ ex.1 ex.2).2];exact⟨rfl,rfl⟩;show s.1 u+s.2 u=t.1 u+t.2 u/\s.2 (app (inv p.1) u)=t.2 (app (inv p.1) u);rw[(e u h0 h1).1,(e u h0 h1).2,(e _ ei.1 ei.2).2];exact⟨rfl,rfl⟩;show s.2 (app (inv p.2) u)=t.2 (app (inv p.2) u)/\-s.1 u=-t.1 u;rw[(e u h0 h1).1,(e _ ey.1 ey.2).2];exact⟨rfl,rfl⟩
def Nz:∀{w:List Sp} {p:cU},Vf n p->∀{s t:Se},oP n s t->oP n (cS p w s) (cS p w t)
 |[],_,_,_,_,e=>e
 |st :: w,p,h,_,_,e=>X6 h st (Nz (h.st st) e)
def wW:∀(a b:List Sp) (p:cU) (s:Se),cS p (a ++ b) s=cS p a (cS (b7 p a) b s)
 |[],_,_,_=>rfl
 |st :: a,b,p,s=>by
  show rS p st (cS (stM p st) (a ++ b) s)=rS p st (cS (stM p st) a (cS (b7 (stM p st) a) b s));rw[wW]
def NA(st:Sp):∀(k:Nat) (p:cU),b7 p (List.replicate (k+1) st)=stM (b7 p (List.replicate k st)) st:=by intro k p;rw[Zbr,ym];rfl
def RJ(h:Vf n p):∀k:Nat,b7 p (List.replicate k (true,1))=Sh (k:Int) p
 |0=>(wV h).symm
 |k+1=>by
  rw[NA,RJ h k];show Sh 1 (Sh (k:Int) p)=_;rw[JV h];rfl
def RK(h:Vf n p):∀k:Nat,b7 p (List.replicate k (true,-1))=Sh (-(k:Int)) p
 |0=>(wV h).symm
 |k+1=>by
  rw[NA,RK h k];show Sh (-1) (Sh (-(k:Int)) p)=_;rw[JV h]
  congr 1
  lk
def NC:∀k:Nat,b7 p (List.replicate k (false,1))=tj k p
 |0=>rfl
 |k+1=>by
  rw[NA,NC k];rfl
def ND{k:Nat}:br (true,(k:Int))=List.replicate k (true,1):=by unfold br;rw[if_neg (by simp),Int.natAbs_natCast]
def NF{k:Nat}(hk:0<k):br (true,-(k:Int))=List.replicate k (true,-1):=by unfold br;rw[if_pos (by show -(k:Int)<0;lk),show(-(k:Int)).natAbs=k by lk]
def NG{k:Nat}:br (false,(k:Int))=List.replicate k (false,1):=by unfold br;rw[if_neg (by simp),Int.natAbs_natCast]
def RL(st:Sp)(h:st.1=false->1<=st.2/\st.2<=3):(∃k:Nat,st=(true,(k:Int))/\br st=List.replicate k (true,1))\/(∃k:Nat,0<k/\st=(true,-(k:Int))/\br st=List.replicate k (true,-1))\/∃k:Nat,1<=k/\k<=3/\st=(false,(k:Int))/\br st=List.replicate k (false,1):=by
 obtain⟨b,z⟩:=st;cases b with
 |true =>
  rcases Int.lt_or_le z 0 with hz|hz
  obtain⟨k,hk⟩:∃k:Nat,z=-(k:Int):=⟨z.natAbs,by lk⟩;subst hk;exact .inr (.inl ⟨k,by lk,rfl,NF ⋯⟩);obtain⟨k,hk⟩:∃k:Nat,z=(k:Int):=⟨z.toNat,by lk⟩;subst hk;exact .inl ⟨k,rfl,ND⟩
 |false =>
  have:=h rfl;simp only at this;obtain⟨k,hk⟩:∃k:Nat,z=(k:Int):=⟨z.toNat,by lk⟩;subst hk;exact .inr (.inr ⟨k,by lk,by lk,rfl,NG⟩)
def RM(h:Vf n p){st:Sp}(hs:st.1=false->1<=st.2/\st.2<=3):b7 p (br st)=stM p st:=by
 rcases RL st hs with⟨k,rfl,e⟩|⟨k,hk,rfl,e⟩|⟨k,h1,h3,rfl,e⟩
 rw[e,RJ h];rfl;rw[e,RK h];rfl;rw[e,NC];show _=tj ((k:Int)).toNat p;rw[Zae]
def RN(hw:∀w:List Sp,True):∀{w:List Sp} {p:cU},Vf n p->(∀s∈w,s.1=false->1<=s.2/\s.2<=3)->b7 p (w.flatMap br)=b7 p w
 |[],_,_,_=>rfl
 |st :: w,p,h,hs=>by
  rw[ZaV,ym,RM h (hs st Zaf)];exact RN hw (h.st st) λs m=>hs s (Zah _ m)
def pm(h:Vf n p)(s:Se):oP n (J0 p.1 (J1 p.1 s)) s:=λu h0 h1=>by
 have e:=h.1.bg h0 h1;show(s.1 u+s.2 u)-s.2 (app (inv p.1) (app p.1 u))=s.1 u/\s.2 (app (inv p.1) (app p.1 u))=s.2 u;rw[e];exact⟨by lk,rfl⟩
def mp(h:Vf n p)(s:Se):oP n (J1 p.1 (J0 p.1 s)) s:=λu h0 h1=>by
 have e:=h.1.a9 h0 h1;show(s.1 u-s.2 (app p.1 u))+s.2 (app p.1 u)=s.1 u/\s.2 (app p.1 (app (inv p.1) u))=s.2 u;rw[e];exact⟨by lk,rfl⟩
def q4(h:Vf n p)(s:Se):oP n (cS p (List.replicate 4 (false,1)) s) s:=λu h0 h1=>by
 have ii:inv (inv p.1)=p.1:=h.1.inv_inv;have e1:=h.1.bg h0 h1;have e2:=h.2.jY h0 h1;have e3:=h.2.a9 h0 h1;have e4:=h.1.a9 h0 h1;have e5:=h.1.app h0 h1;have jj:inv (inv p.2)=p.2:=h.2.inv_inv;show _/\_;have key:cS p (List.replicate 4 (false,1)) s=uu p.2 (uu p.1 (uu (inv p.2) (uu (inv p.1) s))):=by
  show rS p (false,1) (rS (Qt p) (false,1) (rS (Qt (Qt p)) (false,1) (rS (Qt (Qt (Qt p))) (false,1) s)))=_;rfl
 rw[key];show - -(s.1 (app (inv (inv p.2)) (app (inv p.2) u)))=s.1 u/\-(-(s.2 (app (inv (inv p.1)) (app (inv p.1) u))))=s.2 u;rw[ii,jj,e3,e4];exact⟨by lk,by lk⟩
def NH(st bk:Sp)(P:cU->Prop)(hP:∀p,P p->Vf n p)(hst:∀p,P p->P (stM p st))(hb:∀p,P p->stM (stM p st) bk=p)(he:∀p,P p->∀s,oP n (rS p st (rS (stM p st) bk s)) s):
  ∀(k:Nat) (p:cU),P p->∀s,oP n (cS p (List.replicate k st ++ List.replicate k bk) s) s/\b7 p (List.replicate k st ++ List.replicate k bk)=p
 |0,p,_,s=>⟨oP.refl _,rfl⟩
 |k+1,p,hp,s=>by
  have e:List.replicate (k+1) st ++ List.replicate (k+1) bk=[st] ++ ((List.replicate k st ++ List.replicate k bk) ++ [bk]):=by
   rw[ZaK,Zbr (n:=k) (a:=bk)];simp
  have ih:=NH st bk P hP hst hb he k (stM p st) (hst p hp);refine⟨?_,?_⟩;rw[e,wW,wW];have i1:=ih (cS (b7 (b7 p [st]) (List.replicate k st ++ List.replicate k bk)) [bk] s);rw[show b7 p [st]=stM p st from rfl];rw[show b7 p [st]=stM p st from rfl]at i1;have i2:oP n (cS p [st] (cS (stM p st) (List.replicate k st ++ List.replicate k bk) (cS (b7 (stM p st) (List.replicate k st ++ List.replicate k bk)) [bk] s))) (cS p [st] (cS (b7 (stM p st) (List.replicate k st ++ List.replicate k bk)) [bk] s)):=Nz (hP p hp) i1.1;refine i2.trans ?_;rw[i1.2];exact he p hp s;rw[e,ym,ym];show stM (b7 (stM p st) (List.replicate k st ++ List.replicate k bk)) bk=p;rw[(ih s).2];exact hb p hp
def X7(h:Vf n p){st:Sp}(hs:eV st)(s:Se):oP n (cS p (br st ++ br (lb st)) s) s/\b7 p (br st ++ br (lb st))=p:=by
 have sp:∀p:cU,Vf n p->stM (stM p (true,1)) (true,-1)=p:=λp h=>by
  show Sh (-1) (Sh 1 p)=p;rw[JV h];exact wV h
 have sm:∀p:cU,Vf n p->stM (stM p (true,-1)) (true,1)=p:=λp h=>by
  show Sh 1 (Sh (-1) p)=p;rw[JV h];exact wV h
 rcases RL st hs.1 with⟨k,rfl,e⟩|⟨k,hk,rfl,e⟩|⟨k,h1,h3,rfl,e⟩
 have hk:0<k:=by have:=hs.2;simp only at this;lk
 have eb:lb (true,(k:Int))=(true,-(k:Int)):=rfl;rw[e,eb,NF hk];exact NH (true,1) (true,-1) (Vf n) (λ_ h=>h) (λ_ h=>h.st _) sp (λp h s=>pm h s) k p h s;have eb:lb (true,-(k:Int))=(true,(k:Int)):=by show(true,- -(k:Int))=_;rw[Int.neg_neg]
 rw[e,eb,ND];exact NH (true,-1) (true,1) (Vf n) (λ_ h=>h) (λ_ h=>h.st _) sm (λp h s=>mp h s) k p h s;have eb:lb (false,(k:Int))=(false,((4 - k:Nat):Int)):=by
  show(false,4-(k:Int))=_
  congr 1
  lk
 rw[e,eb,NG,List.replicate_append_replicate,show k+(4-k)=4 by lk];refine⟨q4 h s,?_⟩;rw[NC];show Q2 (Q2 p)=p;exact EY h
def NI:∀{w:List Sp} {p:cU},Vf n p->(∀s∈w,eV s)->∀s:Se,oP n (cS p ((w ++ g9 w).flatMap br) s) s/\b7 p ((w ++ g9 w).flatMap br)=p
 |[],_,_,_,s=>⟨oP.refl _,rfl⟩
 |st :: w,p,h,hw,s=>by
  have e:(st :: w ++ g9 (st :: w)).flatMap br=br st ++ ((w ++ g9 w).flatMap br ++ br (lb st)):=by
   unfold g9;simp[ZbB]
  have hs:=hw st Zaf;have v1:Vf n (b7 p (br st)):=h.ld;have ih:=NI (w:=w) v1 λs m=>hw s (Zah _ m);have sb:=X7 h hs;rw[e];refine⟨?_,?_⟩;rw[wW,wW];have i1:=ih (cS (b7 (b7 p (br st)) ((w ++ g9 w).flatMap br)) (br (lb st)) s);refine(Nz h i1.1).trans ?_;rw[i1.2,<- wW];exact(sb s).1;rw[ym,ym,(ih s).2,<- ym];exact(sb s).2
abbrev Sg:Nat->(Nat->Int)->Int
 |0,_=>0
 |k+1,h=>Sg k h+h k
def RO:∀(k:Nat) (p:cU) (s:Se),cS p (List.replicate k (true,1)) s=(λt=>s.1 t-Sg k (λj=>s.2 (aJ p.1 t (j+1))),λt=>s.2 (aJ p.1 t k))
 |0,p,s=>by
  show s=_;refine Prod.ext (funext λt=>?_) (funext λt=>rfl);show s.1 t=s.1 t-0;lk
 |k+1,p,s=>by
  show J0 p.1 (cS (Sh 1 p) (List.replicate k (true,1)) s)=_;rw[RO k (Sh 1 p) s];have e:∀t,aJ p.1 (app p.1 t) k=aJ p.1 t (k+1):=λt=>Np p.1 t k;refine Prod.ext (funext λt=>?_) (funext λt=>?_);show s.1 t-Sg k (λj=>s.2 (aJ p.1 t (j+1)))-s.2 (aJ p.1 (app p.1 t) k)=s.1 t-(Sg k (λj=>s.2 (aJ p.1 t (j+1)))+s.2 (aJ p.1 t (k+1)));rw[e];lk;show s.2 (aJ p.1 (app p.1 t) k)=_;rw[e]
def RP:∀(k:Nat) (p:cU) (s:Se),cS p (List.replicate k (true,-1)) s=(λt=>s.1 t+Sg k (λj=>s.2 (aJ (inv p.1) t j)),λt=>s.2 (aJ (inv p.1) t k))
 |0,p,s=>by
  show s=_;refine Prod.ext (funext λt=>?_) (funext λt=>rfl);show s.1 t=s.1 t+0;lk
 |k+1,p,s=>by
  show J1 p.1 (cS (Sh (-1) p) (List.replicate k (true,-1)) s)=_;rw[RP k (Sh (-1) p) s];have e:∀t,aJ (inv p.1) (app (inv p.1) t) k=aJ (inv p.1) t (k+1):=λt=>Np (inv p.1) t k;refine Prod.ext (funext λt=>?_) (funext λt=>?_);show s.1 t+Sg k (λj=>s.2 (aJ (inv p.1) t j))+s.2 (aJ (inv p.1) t k)=s.1 t+(Sg k (λj=>s.2 (aJ (inv p.1) t j))+s.2 (aJ (inv p.1) t k));lk;show s.2 (aJ (inv p.1) (app (inv p.1) t) k)=_;rw[e]
def NJ{k:Nat}{a b:Nat->Int}(h:∀i,i<k->a i=b i):Sg k a=Sg k b:=by
 induction k with
 |zero=>rfl
 |succ k ih=>show Sg k a+a k=Sg k b+b k;rw[ih λi hi=>h i ⋯,h k ⋯]
def Av(k:Nat)(a b:Nat->Int):Sg k (λi=>a i+b i)=Sg k a+Sg k b:=by
 induction k with
 |zero=>rfl
 |succ k ih=>show Sg k _+(a k+b k)=(Sg k a+a k)+(Sg k b+b k);rw[ih];lk
def J2(k:Nat):Sg k (λ_=>0)=0:=by
 induction k with
 |zero=>rfl
 |succ k ih=>show Sg k _+0=0;rw[ih];rfl
def RQ(a b:Nat)(h:Nat->Nat->Int):Sg a (λi=>Sg b (h i))=Sg b (λj=>Sg a (λi=>h i j)):=by
 induction a with
 |zero=>show 0=Sg b (λ_=>0);rw[J2]
 |succ a ih =>
  show Sg a (λi=>Sg b (h i))+Sg b (h a)=Sg b (λj=>Sg a (λi=>h i j)+h a j);rw[ih,Av]
def Aw{n:Nat}{c:Nat->Prop}[DecidablePred c]{a:Nat->Int}{m:Nat}(hm:m<n)(h1:c m)(h2:∀i,i<n->c i->i=m):Sg n (λi=>if c i then a i else 0)=a m:=by
 induction n with
 |zero=>lk
 |succ n ih =>
  show Sg n _+(if c n then a n else 0)=a m;by_cases e:m=n;subst e;rw[if_pos h1];have:Sg m (λi=>if c i then a i else 0)=Sg m (λ_=>0):=NJ λi hi=>if_neg λci=>by have:=h2 i ⋯ ci;lk
  rw[this,J2];lk;rw[if_neg λcn=>e (h2 n ⋯ cn).symm,ih ⋯ λi hi=>h2 i ⋯];lk
def RS{f g:Int->Int}{u:Int}(h0:0<=u)(h1:u<(n:Int))(G:Int->Int)(gB:0<=g u/\g u<(n:Int))(fg:f (g u)=u)(gf:∀t:Int,0<=t->t<(n:Int)->f t=u->t=g u):Sg n (λs=>if f (s:Int)=u then G (s:Int)else 0)=G (g u):=by
 have:=Aw (n:=n) (c:=λs:Nat=>f (s:Int)=u) (a:=λs:Nat=>G (s:Int)) (m:=(g u).toNat) ⋯ (by rw[Zat gB.1];exact fg) (λi hi ci=>by
  have:=gf (i:Int) ⋯ ⋯ ci
  lk)
 rw[Zat gB.1]at this;exact this
def u9{x:List Int}(h:Tn n x){u:Int}(h0:0<=u)(h1:u<(n:Int)):∀k,0<=aJ x u k/\aJ x u k<(n:Int)
 |0=>⟨h0,h1⟩
 |k+1=>by
  obtain⟨a,b⟩:=u9 h h0 h1 k;exact h.app a b
def CF{x:List Int}(h:Tn n x){u:Int}(h0:0<=u)(h1:u<(n:Int))(k:Nat):aJ (inv x) (aJ x u k) k=u:=by rw[h.oN h0 h1,if_pos (Zab _),Zbs];rfl
def J3{x:List Int}(h:Tn n x){u:Int}(h0:0<=u)(h1:u<(n:Int))(k:Nat):aJ x (aJ (inv x) u k) k=u:=by rw[h.rm h0 h1,if_pos (Zab _),Zbs];rfl
end
end ae
namespace L4
open PySem PySem.Spec L2
inductive D where
 |non|bl (b:Bool)|int (i:Int)|str (x:Str)|ty (n:String)|tup (ds:List D)|ref (i:Nat)
instance:Inhabited D:=⟨.non⟩
inductive O where
 |lst (ds:List D)|rT (ds:List D)|dct (kvs:List (Key×D))|J4 (kvs:List (List Int×D))|J5 (kvs:List (List Key×D))|exc (c:Str) (fs:List (Str×D))|any|lu (lo hi:Int)
@[reducible]def Store:=List O
@[reducible]def ai:=List (Option D)
@[reducible]def Dm(J:Type):=Store->Option (J×Store)
inductive Fl where
 |nx (δ:ai)|bk (δ:ai)|ct (δ:ai)|rt (d:D)
mutual
inductive Rp(K:Zfr)(I:List Addr)(H:Hp):V->D->Prop
 |non:Rp K I H .non .non
 |bl (b:Bool):Rp K I H (.bl b) (.bl b)
 |int (i:Int):Rp K I H (.int i) (.int i)
 |str (x:Str):Rp K I H (.str x) (.str x)
 |ty (n:String):Rp K I H (.ty n) (.ty n)
 |ref {a:Addr} {i:Nat}:I[i]?=some a->Rp K I H (.ref a) (.ref i)
 |tup {a:Addr} {vs:List V} {ds:List D}:gS K H a vs->du K I H vs ds->Rp K I H (.ref a) (.tup ds)
inductive du(K:Zfr)(I:List Addr)(H:Hp):List V->List D->Prop
 |nil:du K I H [] []
 |cons {v:V} {vs:List V} {d:D} {ds:List D}:Rp K I H v d->du K I H vs ds->du K I H (v :: vs) (d :: ds)
end
structure Mn(K:Zfr)(I:List Addr)(H:Hp)(I':List Addr)(H':Hp):Prop where
 r:∀(i:Nat) (a:Addr),I[i]?=some a->I'[i]?=some a
 t:∀a vs,gS K H a vs->gS K H' a vs
 f:∀a o u,H a=some (.qi o u)->H' a=some (.qi o u)
 x:∀a ws,H a=some (.xd ws)->H' a=some (.xd ws)
section
variable {K:Zfr}{I I' I2:List Addr}{H H' H2:Hp}
def Mn.refl:Mn K I H I H:=⟨λ_ _ h=>h,λ_ _ h=>h,λ_ _ _ h=>h,λ_ _ h=>h⟩
def Mn.trans(m:Mn K I H I' H')(n:Mn K I' H' I2 H2):Mn K I H I2 H2:=⟨λi a h=>n.r i a (m.r i a h),λa vs h=>n.t a vs (m.t a vs h),λa o u h=>n.f a o u (m.f a o u h),λa ws h=>n.x a ws (m.x a ws h)⟩
mutual
theorem Rp.mn(m:Mn K I H I' H'):∀{v:V} {d:D},Rp K I H v d->Rp K I' H' v d
 |_,_,.non=>.non
 |_,_,.bl b=>.bl b
 |_,_,.int i=>.int i
 |_,_,.str x=>.str x
 |_,_,.ty n=>.ty n
 |_,_,.ref e=>.ref (m.r _ _ e)
 |_,_,.tup q r=>.tup (m.t _ _ q) (du.mn m r)
theorem du.mn(m:Mn K I H I' H'):∀{vs:List V} {ds:List D},du K I H vs ds->du K I' H' vs ds
 |_,_,.nil=>.nil
 |_,_,.cons a b=>.cons (Rp.mn m a) (du.mn m b)
end
def du.length:∀{vs:List V} {ds:List D},du K I H vs ds->vs.length=ds.length
 |_,_,.nil=>rfl
 |_,_,.cons _ r=>by rw[Zaz,Zaz,r.length]
def du.got:∀{vs:List V} {ds:List D},du K I H vs ds->∀{i:Nat} {d:D},ds[i]?=some d->∃v,vs[i]?=some v/\Rp K I H v d
 |_,_,.nil,i,v,e=>by simp at e
 |_,_,.cons (v:=v) a b,0,d,e=>⟨v,by simp,by have:_=d:=Zai (by simpa using e);rw[<- this];exact a⟩
 |_,_,.cons a b,i+1,d,e=>by
  obtain⟨v,e1,r⟩:=du.got b (i:=i) (by simpa using e);exact⟨v,by simpa using e1,r⟩
def du.append:∀{vs:List V} {ds:List D} {ws:List V} {es:List D},du K I H vs ds->du K I H ws es->du K I H (vs ++ ws) (ds ++ es)
 |_,_,_,_,.nil,s=>s
 |_,_,_,_,.cons a b,s=>.cons a (du.append b s)
def du.one{v:V}{d:D}(r:Rp K I H v d):du K I H [v] [d]:=.cons r .nil
def du.take:∀{vs:List V} {ds:List D} (n:Nat),du K I H vs ds->du K I H (vs.take n) (ds.take n)
 |_,_,0,_=>.nil
 |_,_,_+1,.nil=>.nil
 |_,_,n+1,.cons r t=>.cons r (du.take n t)
def du.drop:∀{vs:List V} {ds:List D} (n:Nat),du K I H vs ds->du K I H (vs.drop n) (ds.drop n)
 |_,_,0,r=>r
 |_,_,_+1,.nil=>.nil
 |_,_,n+1,.cons _ t=>du.drop n t
def du.set{v:V}{d:D}(r:Rp K I H v d):∀{vs:List V} {ds:List D} (i:Nat),du K I H vs ds->du K I H (vs.set i v) (ds.set i d)
 |_,_,_,.nil=>.nil
 |_,_,0,.cons _ t=>.cons r t
 |_,_,i+1,.cons q t=>.cons q (du.set r i t)
def du.erase:∀{vs:List V} {ds:List D} (i:Nat),du K I H vs ds->du K I H (vs.eraseIdx i) (ds.eraseIdx i)
 |_,_,_,.nil=>.nil
 |_,_,0,.cons _ t=>t
 |_,_,i+1,.cons q t=>.cons q (du.erase i t)
def du.flat{vs:List V}{ds:List D}(r:du K I H vs ds):∀n:Nat,du K I H (List.replicate n vs).flatten (List.replicate n ds).flatten
 |0=>.nil
 |n+1=>by rw[ZaK,ZaK,ZaQ,ZaQ];exact r.append (r.flat n)
def du.ints:∀(ns:List Int),du K I H (ns.map V.int) (ns.map D.int)
 |[]=>.nil
 |n :: r=>.cons (.int n) (du.ints r)
end
abbrev Rs(K:Zfr)(I:List Addr)(H:Hp)(G:St)(δ:ai):Prop:=G.length=δ.length/\∀(i:Nat) (d:D),δ[i]?=some (some d)->∃v,G[i]?=some (some v)/\Rp K I H v d
abbrev Rk(K:Zfr)(I:List Addr)(H:Hp):List (Key×V)->List (Key×D)->Prop:=Paired λp q=>p.1=q.1/\Rp K I H p.2 q.2
abbrev Ru(K:Zfr)(I:List Addr)(H:Hp):List (List Int×D)->List (List Int×Addr×Value)->Prop:=Paired λq x=>q.1=x.1/\gS K H x.2.1 (x.1.map V.int)/\∃v,RelV v x.2.2/\Rp K I H v q.2
abbrev Rt(K:Zfr)(I:List Addr)(H:Hp):List (List Key×V)->List (List Key×D)->Prop:=Paired λp q=>p.1=q.1/\Rp K I H p.2 q.2
abbrev Xd(K:Zfr)(I:List Addr)(H:Hp):Option Addr->List (Str×D)->Prop
 |none,fs=>fs=[]
 |some d,fs=>∃ws,H d=some (.xd ws)/\∀f e,fs.lookup f=some e->∃v,ws.lookup f=some v/\Rp K I H v e
abbrev nC(fs:List (Str×D)):Bool:=decide ((fs.map Prod.fst).Nodup)
abbrev Xe(K:Zfr)(I:List Addr)(H:Hp)(dx:Option Addr)(tr:Tr)(fs:List (Str×D)):Prop:=Xd K I H dx fs/\(nC fs=true->tr.2=true)
abbrev yp(K:Zfr)(I:List Addr)(H:Hp)(a:Addr):O->Prop
 |.lst ds=>∃vs,H a=some (.lst vs)/\du K I H vs ds
 |.rT ds=>∃vs,Eo K H a vs/\du K I H vs ds
 |.dct kvs=>∃ws,H a=some (.dK ws)/\Rk K I H ws kvs
 |.J4 kvs=>∃xs,H a=some (DU a xs)/\Ru K I H kvs xs
 |.J5 kvs=>∃ws,H a=some (.dT ws)/\Rt K I H ws kvs
 |.exc c fs=>∃C dx tr,PySem.W.nsIn K mainGlobals c=some (some (.ref C))/\H a=some (XO a C dx tr)/\Xe K I H dx tr fs
 |.any=>True
 |.lu lo hi=>H a=some (.lu lo hi)
abbrev O.mut:O->Bool
 |.rT _=>false
 |.any=>false
 |_=>true
structure Rl(K:Zfr)(I:List Addr)(H:Hp)(st:Store):Prop where
 len:I.length=st.length
 nd:∀(i j:Nat) (a:Addr) (o o':O),I[i]?=some a->I[j]?=some a->st[i]?=some o->st[j]?=some o'->o.mut=true->o'.mut=true->i=j
 obj:∀(i:Nat) (a:Addr) (o:O),I[i]?=some a->st[i]?=some o->yp K I H a o
section
variable {K:Zfr}{I I' I2:List Addr}{H H' H2:Hp}{st st':Store}{a p:Addr}{i:Nat}{o o':O}{ho:HO}{G:St}{δ:ai}
def Rs.mn(h:Rs K I H G δ)(m:Mn K I H I' H'):Rs K I' H' G δ:=⟨h.1,λi d e=>let ⟨v,e1,r⟩:=h.2 i d e;⟨v,e1,r.mn m⟩⟩
def Rk.mn(m:Mn K I H I' H'){ws:List (Key×V)}{kvs:List (Key×D)}(h:Rk K I H ws kvs):Rk K I' H' ws kvs:=by
 induction h with
 |nil=>exact .nil
 |cons a _ ih=>exact .cons ⟨a.1,a.2.mn m⟩ ih
def Ru.mn(m:Mn K I H I' H'){kvs:List (List Int×D)}{xs:List (List Int×Addr×Value)}(h:Ru K I H kvs xs):Ru K I' H' kvs xs:=by
 induction h with
 |nil=>exact .nil
 |cons a _ ih=>obtain⟨a1,a2,v,a3,a4⟩:=a;exact .cons ⟨a1,m.t _ _ a2,v,a3,a4.mn m⟩ ih
def Rt.mn(m:Mn K I H I' H'){ws:List (List Key×V)}{kvs:List (List Key×D)}(h:Rt K I H ws kvs):Rt K I' H' ws kvs:=by
 induction h with
 |nil=>exact .nil
 |cons a _ ih=>exact .cons ⟨a.1,a.2.mn m⟩ ih
def Xd.mn(m:Mn K I H I' H'){dx:Option Addr}{fs:List (Str×D)}(h:Xd K I H dx fs):Xd K I' H' dx fs:=by
 cases dx with
 |none=>exact h
 |some d=>obtain⟨ws,e,q⟩:=h;exact⟨ws,m.x _ _ e,λf e' z=>let ⟨v,z1,z2⟩:=q f e' z;⟨v,z1,z2.mn m⟩⟩
def Xe.mn(m:Mn K I H I' H'){dx:Option Addr}{tr:Tr}{fs:List (Str×D)}(h:Xe K I H dx tr fs):Xe K I' H' dx tr fs:=⟨h.1.mn m,h.2⟩
def yp.keep(m:Mn K I H I' H')(h:∀u,H a=some u->H' a=some u)(r:yp K I H a o):yp K I' H' a o:=by
 cases o with
 |lst ds=>obtain⟨vs,e,q⟩:=r;exact⟨vs,h _ e,q.mn m⟩
 |rT ds =>
  obtain⟨vs,e,q⟩:=r;refine⟨vs,?_,q.mn m⟩;rcases e with⟨u,e⟩|e
  exact .inl ⟨u,h _ e⟩;exact .inr e
 |dct kvs=>obtain⟨ws,e,q⟩:=r;exact⟨ws,h _ e,q.mn m⟩
 |J4 kvs=>obtain⟨ws,e,q⟩:=r;exact⟨ws,h _ e,q.mn m⟩
 |J5 kvs=>obtain⟨ws,e,q⟩:=r;exact⟨ws,h _ e,q.mn m⟩
 |exc c fs=>obtain⟨C,dx,tr,n,e,q⟩:=r;exact⟨C,dx,tr,n,h _ e,q.mn m⟩
 |any=>trivial
 |lu lo hi=>exact h _ r
def Mn.same(s:hV H H'):Mn K I H I H':=⟨λ_ _ h=>h,λ_ _ h=>(Kp.of_same (ch:=[]) s).MK h,λ_ _ _ h=>s _ _ h,λ_ _ h=>s _ _ h⟩
def Rl.same(l:Rl K I H st)(s:hV H H'):Rl K I H' st:=⟨l.len,l.nd,λi a o h1 h2=>(l.obj i a o h1 h2).keep (Mn.same s) λu e=>s _ _ e⟩
def Rl.at(l:Rl K I H st)(h1:I[i]?=some a)(h2:st[i]?=some o)(hm:o.mut=true):∃u,H a=some u/\∀x y,u≠.qi x y:=by
 have r:=l.obj i a o h1 h2;cases o with
 |lst ds=>obtain⟨vs,e,_⟩:=r;exact⟨_,e,λx y z=>nomatch z⟩
 |rT ds=>cases hm
 |dct kvs=>obtain⟨ws,e,_⟩:=r;exact⟨_,e,λx y z=>nomatch z⟩
 |J4 kvs=>obtain⟨ws,e,_⟩:=r;exact⟨_,e,λx y z=>by cases z⟩
 |J5 kvs=>obtain⟨ws,e,_⟩:=r;exact⟨_,e,λx y z=>nomatch z⟩
 |exc c fs=>obtain⟨C,dx,tr,_,e,_⟩:=r;exact⟨_,e,λx y z=>by cases z⟩
 |any=>cases hm
 |lu lo hi=>exact⟨_,r,λx y z=>nomatch z⟩
def Mn.new(hp:H p=none):Mn K I H (I ++ [p]) (upd H p ho):=⟨λi a h=>by
  obtain⟨hi,_⟩:=Zad.mp h
  rw[ZaH hi];exact h,λ_ _ h=>(Kp.of_same (ch:=[]) (hV.up hp)).MK h,λ_ _ _ h=>hV.up hp _ _ h,λ_ _ h=>hV.up hp _ _ h⟩
def Rl.new(l:Rl K I H st)(hp:H p=none)(mk:yp K (I ++ [p]) (upd H p ho) p o):Rl K (I ++ [p]) (upd H p ho) (st ++ [o]):=by
 have m:Mn K I H (I ++ [p]) (upd H p ho):=Mn.new hp;have split:∀(i:Nat) (a:Addr) (o':O),(I ++ [p])[i]?=some a->(st ++ [o])[i]?=some o'->(I[i]?=some a/\st[i]?=some o')\/(i=I.length/\a=p/\o'=o):=λi a o' h1 h2=>by
  by_cases hi:i<I.length;rw[ZaH hi]at h1;rw[ZaH (by rw[<- l.len];exact hi)]at h2;exact .inl ⟨h1,h2⟩;obtain⟨hb,_⟩:=Zad.mp h1;rw[Zak,ZaC]at hb;have e:i=I.length:=by lk
  subst e;rw[ZaB (Zab _),Zbs]at h1;rw[l.len,ZaB (Zab _),Zbs]at h2;exact .inr ⟨rfl,(Zai h1).symm,(Zai h2).symm⟩
 refine⟨by rw[Zak,Zak,l.len];rfl,λi j a u u' h1 h2 h3 h4 m1 m2=>?_,λi a u h1 h2=>?_⟩;rcases split i a u h1 h3 with⟨g1,g2⟩|⟨rfl,rfl,rfl⟩<;>rcases split j _ u' h2 h4 with⟨k1,k2⟩|⟨k1,k2,k3⟩
 exact l.nd i j a u u' g1 k1 g2 k2 m1 m2;subst k2;obtain⟨w,e,_⟩:=l.at g1 g2 m1;rw[e]at hp;cases hp;obtain⟨w,e,_⟩:=l.at k1 k2 m2;rw[e]at hp;cases hp;exact k1.symm;rcases split i a u h1 h2 with⟨g1,g2⟩|⟨rfl,rfl,rfl⟩
 exact(l.obj i a u g1 g2).keep m λw e=>hV.up hp _ _ e;exact mk
def Rl.put(l:Rl K I H st)(hi:I[i]?=some a)(hs:st[i]?=some o)(hm:o.mut=true)(hm':o'.mut=true)(m:Mn K I H I (upd H a ho))(r:yp K I (upd H a ho) a o'):Rl K I (upd H a ho) (st.set i o'):=by
 obtain⟨w,ew,nf⟩:=l.at hi hs hm;have X8:i<st.length:=(Zad.mp hs).1;have old:∀(j:Nat) (u:O),(st.set i o')[j]?=some u->(j=i/\u=o')\/(j≠i/\st[j]?=some u):=λj u h=>by
  by_cases hj:i=j;subst hj;rw[Zag X8]at h;exact .inl ⟨rfl,(Zai h).symm⟩;rw[Zao hj]at h;exact .inr ⟨λz=>hj z.symm,h⟩
 refine⟨by rw[ZaU];exact l.len,λj k b u u' h1 h2 h3 h4 m1 m2=>?_,λj b u h1 h2=>?_⟩;rcases old j u h3 with⟨rfl,rfl⟩|⟨nj,g3⟩<;>rcases old k u' h4 with⟨rfl,rfl⟩|⟨nk,g4⟩
 rfl;exact l.nd _ _ b o u' h1 h2 hs g4 hm m2;exact l.nd _ _ b u o h1 h2 g3 hs m1 hm;exact l.nd _ _ b u u' h1 h2 g3 g4 m1 m2;rcases old j u h2 with⟨rfl,rfl⟩|⟨nj,g2⟩
 rw[hi]at h1;cases h1;exact r;by_cases hb:b=a;subst hb;cases u with
 |rT ds =>
  obtain⟨vs,e,q⟩:=l.obj j b _ h1 g2;refine⟨vs,?_,q.mn m⟩;rcases e with⟨x,e⟩|e
  rw[ew]at e;cases e;exact absurd rfl (nf _ _);exact .inr e
 |lst ds=>exact absurd (l.nd j i b _ o h1 hi g2 hs rfl hm) nj
 |J4 ds=>exact absurd (l.nd j i b _ o h1 hi g2 hs rfl hm) nj
 |J5 ds=>exact absurd (l.nd j i b _ o h1 hi g2 hs rfl hm) nj
 |exc c fs=>exact absurd (l.nd j i b _ o h1 hi g2 hs rfl hm) nj
 |dct ds=>exact absurd (l.nd j i b _ o h1 hi g2 hs rfl hm) nj
 |any=>trivial
 |lu lo up=>exact absurd (l.nd j i b _ o h1 hi g2 hs rfl hm) nj
 exact(l.obj j b u h1 g2).keep m λw e=>by rw[lR hb];exact e
def Mn.put{xs:List V}(e:H a=some (.lst xs)):Mn K I H I (upd H a ho):=⟨λ_ _ h=>h,λb vs h=>(Kp.put (ch:=[a]) (o:=ho) Kp.refl (by simp) e).MK h,λb o u h=>by rw[lR (λz=>by rw[z,e]at h;cases h)];exact h,λb ws h=>by rw[lR (λz=>by rw[z,e]at h;cases h)];exact h⟩
def Mn.putD{ws:List (Key×V)}(e:H a=some (.dK ws)):Mn K I H I (upd H a ho):=⟨λ_ _ h=>h,λb vs q=>by
 have ne:∀u,H b=some u->(∀w,u≠.dK w)->b≠a:=λu hu n z=>by rw[z,e]at hu;cases hu;exact n _ rfl
 rcases q with(q|⟨o,q⟩)|q
 exact .inl (.inl (by rw[lR (ne _ q λw z=>nomatch z)];exact q));exact .inl (.inr ⟨o,by rw[lR (ne _ q λw z=>nomatch z)];exact q⟩)
 exact .inr q,λb o u h=>by rw[lR (λz=>by rw[z,e]at h;cases h)];exact h,λb ws h=>by rw[lR (λz=>by rw[z,e]at h;cases h)];exact h⟩
def Rl.newL{vs:List V}{ds:List D}(l:Rl K I H st)(hp:H p=none)(r:du K I H vs ds):Rl K (I ++ [p]) (upd H p (.lst vs)) (st ++ [.lst ds]):=l.new hp ⟨vs,rY,r.mn (Mn.new hp)⟩
def Rl.newD{vs:List (Key×V)}{ds:List (Key×D)}(l:Rl K I H st)(hp:H p=none)(r:Rk K I H vs ds):Rl K (I ++ [p]) (upd H p (.dK vs)) (st ++ [.dct ds]):=l.new hp ⟨vs,rY,r.mn (Mn.new hp)⟩
def newR(l:Rl K I H st)(v:D:=.ref st.length):(I ++ [p])[st.length]?=some p:=by rw[<- l.len,ZaB (Zab _),Zbs];rfl
def Rl.putL{vs:List V}{ds xs:List D}(l:Rl K I H st)(hi:I[i]?=some a)(hs:st[i]?=some (.lst xs))(r:du K I H vs ds):Rl K I (upd H a (.lst vs)) (st.set i (.lst ds))/\Mn K I H I (upd H a (.lst vs)):=by obtain⟨ws,e,_⟩:=l.obj i a _ hi hs;have m:Mn K I H I (upd H a (.lst vs)):=Mn.put e;exact⟨l.put hi hs rfl rfl m ⟨vs,rY,r.mn m⟩,m⟩
def Rl.vd{vs:List (Key×V)}{ds xs:List (Key×D)}(l:Rl K I H st)(hi:I[i]?=some a)(hs:st[i]?=some (.dct xs))(r:Rk K I H vs ds):Rl K I (upd H a (.dK vs)) (st.set i (.dct ds))/\Mn K I H I (upd H a (.dK vs)):=by obtain⟨ws,e,_⟩:=l.obj i a _ hi hs;have m:Mn K I H I (upd H a (.dK vs)):=Mn.putD e;exact⟨l.put hi hs rfl rfl m ⟨vs,rY,r.mn m⟩,m⟩
abbrev items(st:Store)(i:Nat):Option (List D):=match st[i]? with
 |some (.lst ds)=>some ds
 |some (.rT ds)=>some ds
 |_=>none
def Rl.items{ds:List D}(l:Rl K I H st)(hi:I[i]?=some a)(h:items st i=some ds):∃vs,kR K H a vs/\du K I H vs ds:=by
 unfold L4.items at h;split at h
 ·next ds' hs=>cases h;obtain⟨vs,e,r⟩:=l.obj i a _ hi hs;exact⟨vs,.inl (.inl e),r⟩
 ·next ds' hs=>cases h;obtain⟨vs,e,r⟩:=l.obj i a _ hi hs;exact⟨vs,e.sq,r⟩
 ·cases h
end
abbrev So(K:Zfr){J M:Type}(R:List Addr->Hp->J->M->Prop)(t:St->Hp->(J->Hp->Prop)->Prop)(f:ai->Dm M):Prop :=
 ∀(I:List Addr) (G:St) (H:Hp) (δ:ai) (st:Store) (b:M) (st':Store) (Q:J->Hp->Prop),Rl K I H st->Rs K I H G δ->f δ st=some (b,st') ->
  (∀a H' I',Mn K I H I' H'->Rl K I' H' st'->R I' H' a b->Q a H')->t G H Q
@[reducible]def gU(K:Zfr)(t:TE)(f:ai->Dm D):Prop:=So K (Rp K) t f
@[reducible]def sr(K:Zfr)(t:TT)(f:ai->Dm Bool):Prop:=So K (λ_ _=>Eq) t f
@[reducible]def su(K:Zfr)(t:TA)(f:ai->Dm (List D)):Prop:=So K (du K) t f
@[reducible]def J7(K:Zfr)(t:TO)(f:ai->Dm (Option Int)):Prop:=So K (λ_ _=>Eq) t f
abbrev NK(K:Zfr)(r:V->Hp->VK->Prop)(g:D->Dm D):Prop :=
 ∀(I:List Addr) (H:Hp) (st:Store) (x:V) (a:D) (b:D) (st':Store) (Q:VK),Rl K I H st->Rp K I H x a->g a st=some (b,st')->(∀v H' I',Mn K I H I' H'->Rl K I' H' st'->Rp K I' H' v b->Q v H')->r x H Q
abbrev nZ(K:Zfr)(r:R2)(g:D->D->Dm D):Prop :=
 ∀(I:List Addr) (H:Hp) (st:Store) (x y:V) (a c:D) (b:D) (st':Store) (Q:VK),Rl K I H st->Rp K I H x a->Rp K I H y c->g a c st=some (b,st')->(∀v H' I',Mn K I H I' H'->Rl K I' H' st'->Rp K I' H' v b->Q v H')->r x y H Q
abbrev vS(K:Zfr)(r:List V->Hp->VK->Prop)(g:List D->Dm D):Prop :=
 ∀(I:List Addr) (H:Hp) (st:Store) (xs:List V) (as:List D) (b:D) (st':Store) (Q:VK),Rl K I H st->du K I H xs as->g as st=some (b,st')->(∀v H' I',Mn K I H I' H'->Rl K I' H' st'->Rp K I' H' v b->Q v H')->r xs H Q
abbrev E3(K:Zfr)(T:String)(r:V->List V->Hp->VK->Prop)(g:D->List D->Dm D):Prop :=
 ∀(I:List Addr) (H:Hp) (st:Store) (x:V) (xs:List V) (a:D) (as:List D) (b:D) (st':Store) (Q:VK),Rl K I H st->Rp K I H x a->du K I H xs as->g a as st=some (b,st')->(∀v H' I',Mn K I H I' H'->Rl K I' H' st'->Rp K I' H' v b->Q v H')->r x xs H Q
abbrev bnd{J M:Type}(m:Option (J×Store))(k:J->Dm M):Option (M×Store):=match m with
 |some (a,st)=>k a st
 |none=>none
def dP{J M:Type}{m:Option (J×Store)}{k:J->Dm M}{r:M×Store}(h:bnd m k=some r):∃a st,m=some (a,st)/\k a st=some r:=by
 cases m with
 |none=>cases h
 |some p=>exact⟨p.1,p.2,rfl,h⟩
section
variable {K:Zfr}
abbrev ag(i:Nat):ai->Dm D:=λδ st=>match δ[i]? with
 |some (some d)=>some (d,st)
 |_=>none
def aG(i:Nat):gU K (zt i) (ag i):=by
 intro I G H δ st b st' Q l rs e q;unfold ag at e;split at e
 ·next d hd=>cases e;obtain⟨v,ev,r⟩:=rs.2 i _ hd;exact⟨v,ev,q v H I .refl l r⟩
 ·cases e
abbrev fC(d:D):ai->Dm D:=λ_ st=>some (d,st)
def wX{v:V}{d:D}(h:∀I H,Rp K I H v d):gU K (tC v) (fC d):=by intro I G H δ st b st' Q l rs e q;cases e;exact q v H I .refl l (h I H)
def cJ(i:Int):gU K (tC (.int i)) (fC (.int i)):=wX λ_ _=>.int i
def ve(b:Bool):gU K (tC (.bl b)) (fC (.bl b)):=wX λ_ _=>.bl b
def mV(x:Str):gU K (tC (.str x)) (fC (.str x)):=wX λ_ _=>.str x
abbrev ao(g:D->D->Dm D)(fa fb:ai->Dm D):ai->Dm D:=λδ st=>bnd (fa δ st) λa st1=>bnd (fb δ st1) λb st2=>g a b st2
def bF{r:R2}{g:D->D->Dm D}{ta tb:TE}{fa fb:ai->Dm D}(hr:nZ K r g)(ha:gU K ta fa)(hb:gU K tb fb):gU K (DX r ta tb) (ao g fa fb):=by intro I G H δ st b st' Q l rs e q;obtain⟨a,st1,e1,e⟩:=dP e;obtain⟨c,st2,e2,e⟩:=dP e;refine ha I G H δ st a st1 _ l rs e1 λx H1 I1 m1 l1 r1=>hb I1 G H1 δ st1 c st2 _ l1 (rs.mn m1) e2 λy H2 I2 m2 l2 r2=>?_;exact hr I2 H2 st2 x y a c b st' Q l2 (r1.mn m2) r2 e λv H3 I3 m3 l3 r3=>q v H3 I3 ((m1.trans m2).trans m3) l3 r3
abbrev pY(g:D->Dm D)(fa:ai->Dm D):ai->Dm D:=λδ st=>bnd (fa δ st) λa st1=>g a st1
def qB{r:V->Hp->VK->Prop}{g:D->Dm D}{ta:TE}{fa:ai->Dm D}(hr:NK K r g)(ha:gU K ta fa):gU K (PV r ta) (pY g fa):=by intro I G H δ st b st' Q l rs e q;obtain⟨a,st1,e1,e⟩:=dP e;exact ha I G H δ st a st1 _ l rs e1 λx H1 I1 m1 l1 r1=>hr I1 H1 st1 x a b st' Q l1 r1 e λv H3 I3 m3 l3 r3=>q v H3 I3 (m1.trans m3) l3 r3
abbrev ah:ai->Dm (List D):=λ_ st=>some ([],st)
abbrev af(fa:ai->Dm D)(fr:ai->Dm (List D)):ai->Dm (List D):=λδ st=>bnd (fa δ st) λa st1=>bnd (fr δ st1) λr st2=>some (a :: r,st2)
def bZ:su K D4 ah:=by intro I G H δ st b st' Q l rs e q;cases e;exact q [] H I .refl l .nil
def aU{ta:TE}{tr:TA}{fa:ai->Dm D}{fr:ai->Dm (List D)}(ha:gU K ta fa)(hr:su K tr fr):su K (xU ta tr) (af fa fr):=by intro I G H δ st b st' Q l rs e q;obtain⟨a,st1,e1,e⟩:=dP e;obtain⟨c,st2,e2,e⟩:=dP e;cases e;exact ha I G H δ st a st1 _ l rs e1 λx H1 I1 m1 l1 r1=>hr I1 G H1 δ st1 c _ _ l1 (rs.mn m1) e2 λy H2 I2 m2 l2 r2=>q _ H2 I2 (m1.trans m2) l2 (.cons (r1.mn m2) r2)
abbrev lim(n:Nat):Bool:=Nat.ble n 100000
def Ax{n:Nat}(h:lim n=true):n<=sizeLine:=Zaw (Zct h) ∅
def NL{n:Nat}(h:lim n=true):n<sizeLine:=Za1 (Zct h) ∅
abbrev cP(fa:ai->Dm (List D)):ai->Dm D:=λδ st=>bnd (fa δ st) λas st1=>if lim as.length=true then some (.tup as,st1)else none
def qb{ta:TA}{fa:ai->Dm (List D)}(ha:su K ta fa):gU K (D5 ta) (cP fa):=by
 intro I G H δ st b st' Q l rs e q;obtain⟨as,st1,e1,e⟩:=dP e;split at e
 ·next hl =>
  cases e;refine ha I G H δ st as _ _ l rs e1 λxs H1 I1 m1 l1 r1=>⟨by rw[r1.length];exact Ax hl,λp hp=>?_⟩;have m2:Mn K I1 H1 I1 (upd H1 p (.tup xs)):=Mn.same (hV.up hp);exact q _ _ I1 (m1.trans m2) (l1.same (hV.up hp)) (.tup (gS.of rY) (r1.mn m2))
 ·cases e
abbrev ft(fa:ai->Dm (List D)):ai->Dm D:=λδ st=>bnd (fa δ st) λas st1=>if lim as.length=true then some (.ref st1.length,st1 ++ [.lst as])else none
def CG{ta:TA}{fa:ai->Dm (List D)}(ha:su K ta fa):gU K (D6 ta) (ft fa):=by
 intro I G H δ st b st' Q l rs e q;obtain⟨as,st1,e1,e⟩:=dP e;split at e
 ·next hl =>
  cases e;refine ha I G H δ st as _ _ l rs e1 λxs H1 I1 m1 l1 r1=>⟨by rw[r1.length];exact Ax hl,λp hp=>?_⟩;exact q _ _ _ (m1.trans (Mn.new hp)) (l1.newL hp r1) (.ref (newR l1))
 ·cases e
abbrev aI(fa:ai->Dm D):ai->Dm Bool:=λδ st=>bnd (fa δ st) λa st1=>match a with
 |.bl b=>some (b,st1)
 |_=>none
def oF{ta:TE}{fa:ai->Dm D}(ha:gU K ta fa):sr K (xS ta) (aI fa):=by intro I G H δ st b st' Q l rs e q;obtain⟨a,st1,e1,e⟩:=dP e;cases a<;>simp at e;obtain⟨rfl,rfl⟩:=e;refine ha I G H δ st _ _ _ l rs e1 λx H1 I1 m1 l1 r1=>?_;cases r1;exact⟨_,rfl,q _ H1 I1 m1 l1 rfl⟩
def yq{ta:TE}{fa:ai->Dm D}(ha:gU K ta fa):sr K (tB ta) (aI fa):=oF ha
abbrev tZ(fa:ai->Dm Bool):ai->Dm Bool:=λδ st=>bnd (fa δ st) λa st1=>some (!a,st1)
def RT{ta:TT}{fa:ai->Dm Bool}(ha:sr K ta fa):sr K (DK ta) (tZ fa):=by intro I G H δ st b st' Q l rs e q;obtain⟨a,st1,e1,e⟩:=dP e;cases e;exact ha I G H δ st _ _ _ l rs e1 λx H1 I1 m1 l1 r1=>q _ H1 I1 m1 l1 (by rw[r1])
abbrev sv(fa fb:ai->Dm Bool):ai->Dm Bool:=λδ st=>bnd (fa δ st) λa st1=>if a=true then fb δ st1 else some (false,st1)
abbrev CH(fa fb:ai->Dm Bool):ai->Dm Bool:=λδ st=>bnd (fa δ st) λa st1=>if a=true then some (true,st1)else fb δ st1
def J8{ta tb:TT}{fa fb:ai->Dm Bool}(ha:sr K ta fa)(hb:sr K tb fb):sr K (DJ ta tb) (sv fa fb):=by
 intro I G H δ st b st' Q l rs e q;obtain⟨a,st1,e1,e⟩:=dP e;refine ha I G H δ st _ _ _ l rs e1 λx H1 I1 m1 l1 r1=>?_;subst r1;cases x with
 |true =>
  refine tT ?_;rw[if_pos rfl]at e;exact hb I1 G H1 δ st1 b st' _ l1 (rs.mn m1) e λy H2 I2 m2 l2 r2=>q y H2 I2 (m1.trans m2) l2 r2
 |false =>
  refine tR ?_;rw[if_neg Zal]at e;cases e;exact q _ H1 I1 m1 l1 rfl
def J9{ta tb:TT}{fa fb:ai->Dm Bool}(ha:sr K ta fa)(hb:sr K tb fb):sr K (PL ta tb) (CH fa fb):=by
 intro I G H δ st b st' Q l rs e q;obtain⟨a,st1,e1,e⟩:=dP e;refine ha I G H δ st _ _ _ l rs e1 λx H1 I1 m1 l1 r1=>?_;subst r1;cases x with
 |false =>
  refine tR ?_;rw[if_neg Zal]at e;exact hb I1 G H1 δ st1 b st' _ l1 (rs.mn m1) e λy H2 I2 m2 l2 r2=>q y H2 I2 (m1.trans m2) l2 r2
 |true =>
  refine tT ?_;rw[if_pos rfl]at e;cases e;exact q _ H1 I1 m1 l1 rfl
abbrev tm(fa fb:ai->Dm D):ai->Dm D:=λδ st=>bnd (aI fa δ st) λa st1=>if a=true then fb δ st1 else some (.bl false,st1)
abbrev E4(fa fb:ai->Dm D):ai->Dm D:=λδ st=>bnd (aI fa δ st) λa st1=>if a=true then some (.bl true,st1)else fb δ st1
abbrev yr(fa:ai->Dm D):ai->Dm D:=λδ st=>bnd (aI fa δ st) λa st1=>some (.bl (!a),st1)
def X9{fa:ai->Dm D}{δ:ai}{st st1:Store}{b:Bool}(h:aI fa δ st=some (b,st1)):fa δ st=some (.bl b,st1):=by obtain⟨a,st2,e1,e⟩:=dP h;cases a<;>simp at e;obtain⟨rfl,rfl⟩:=e;exact e1
def RU{ta tb:TE}{fa fb:ai->Dm D}(ha:gU K ta fa)(hb:gU K tb fb):gU K (xH ta tb) (tm fa fb):=by
 intro I G H δ st b st' Q l rs e q;obtain⟨a,st1,e1,e⟩:=dP e;refine ha I G H δ st _ _ _ l rs (X9 e1) λx H1 I1 m1 l1 r1=>?_;cases r1;refine⟨a,rfl,?_⟩;cases a with
 |true =>
  refine tT ?_;rw[if_pos rfl]at e;exact hb I1 G H1 δ st1 b st' _ l1 (rs.mn m1) e λy H2 I2 m2 l2 r2=>q y H2 I2 (m1.trans m2) l2 r2
 |false =>
  refine tR ?_;rw[if_neg Zal]at e;cases e;exact q _ H1 I1 m1 l1 (.bl _)
abbrev iF{M:Type}(c:ai->Dm Bool)(fa fb:ai->Dm M):ai->Dm M:=λδ st=>bnd (c δ st) λa st1=>if a=true then fa δ st1 else fb δ st1
abbrev fu:ai->Dm (Option Int):=λ_ st=>some (none,st)
abbrev kT(fa:ai->Dm D):ai->Dm (Option Int):=λδ st=>bnd (fa δ st) λa st1=>match a with
 |.int i=>some (some i,st1)
 |_=>none
def wY:J7 K sP fu:=by intro I G H δ st b st' Q l rs e q;cases e;exact q _ H I .refl l rfl
def wZ{ta:TE}{fa:ai->Dm D}(ha:gU K ta fa):J7 K (xW ta) (kT fa):=by intro I G H δ st b st' Q l rs e q;obtain⟨a,st1,e1,e⟩:=dP e;cases a<;>simp at e;obtain⟨rfl,rfl⟩:=e;refine ha I G H δ st _ _ _ l rs e1 λx H1 I1 m1 l1 r1=>?_;cases r1;exact⟨_,rfl,q _ H1 I1 m1 l1 rfl⟩
abbrev Ay(K:Zfr)(r:V->Option Int->Option Int->Hp->VK->Prop)(g:D->Option Int->Option Int->Dm D):Prop :=
 ∀lo hi,NK K (λx=>r x lo hi) (λa=>g a lo hi)
abbrev uv(g:D->Option Int->Option Int->Dm D)(fa:ai->Dm D)(fl fh:ai->Dm (Option Int)):ai->Dm D:=λδ st=>bnd (fa δ st) λa st1=>bnd (fl δ st1) λlo st2=>bnd (fh δ st2) λhi st3=>g a lo hi st3
def w6{r:V->Option Int->Option Int->Hp->VK->Prop}{g:D->Option Int->Option Int->Dm D}{ta:TE}{tl th:TO}{fa:ai->Dm D}{fl fh:ai->Dm (Option Int)}(hr:Ay K r g)(ha:gU K ta fa)(hl:J7 K tl fl)(hh:J7 K th fh):gU K (Qm r ta tl th) (uv g fa fl fh):=by intro I G H δ st b st' Q l rs e q;obtain⟨a,st1,e1,e⟩:=dP e;obtain⟨lo,st2,e2,e⟩:=dP e;obtain⟨hi,st3,e3,e⟩:=dP e;refine ha I G H δ st a st1 _ l rs e1 λx H1 I1 m1 l1 r1=>hl I1 G H1 δ st1 lo st2 _ l1 (rs.mn m1) e2 λy H2 I2 m2 l2 r2=>hh I2 G H2 δ st2 hi st3 _ l2 (rs.mn (m1.trans m2)) e3 λz H3 I3 m3 l3 r3=>?_;subst r2 r3;exact hr y z I3 H3 st3 x a b st' Q l3 (r1.mn (m2.trans m3)) e λv H4 I4 m4 l4 r4=>q v H4 I4 (((m1.trans m2).trans m3).trans m4) l4 r4
abbrev aK(g:List D->Dm D)(fa:ai->Dm (List D)):ai->Dm D:=λδ st=>bnd (fa δ st) λas st1=>g as st1
def sx{r:List V->Hp->VK->Prop}{g:List D->Dm D}{ta:TA}{fa:ai->Dm (List D)}(hr:vS K r g)(ha:su K ta fa):gU K (Mp r ta) (aK g fa):=by intro I G H δ st b st' Q l rs e q;obtain⟨as,st1,e1,e⟩:=dP e;exact ha I G H δ st as st1 _ l rs e1 λx H1 I1 m1 l1 r1=>hr I1 H1 st1 x as b st' Q l1 r1 e λv H3 I3 m3 l3 r3=>q v H3 I3 (m1.trans m3) l3 r3
abbrev bw(K:Zfr)(n:Nat)(F:List D->Dm D):Sp:=λvs H Q _=>vs.length=n/\∃(I:List Addr) (st:Store) (ds:List D) (b:D) (st':Store),Rl K I H st/\du K I H vs ds/\F ds st=some (b,st') /\
 ∀v H' I',Mn K I H I' H'->Rl K I' H' st'->Rp K I' H' v b->Q v H'
def i6{n:Nat}{F:List D->Dm D}{ta:TA}{fa:ai->Dm (List D)}{E:XK}(ha:su K ta fa)(hn:∀δ st as st',fa δ st=some (as,st')->as.length=n):gU K (uM (bw K n F) [] E ta) (aK F fa):=by intro I G H δ st b st' Q l rs e q;obtain⟨as,st1,e1,e⟩:=dP e;refine ha I G H δ st as st1 _ l rs e1 λvs H1 I1 m1 l1 r1=>⟨?_,I1,st1,as,b,st',l1,?_,e,λv H3 I3 m3 l3 r3=>q v H3 I3 (m1.trans m3) l3 r3⟩;rw[Za6,r1.length];exact hn _ _ _ _ e1;rw[Za6];exact r1
def RV{δ:ai}{st st':Store}{as:List D}(h:ah δ st=some (as,st')):as.length=0:=by cases h;rfl
def E5{fa:ai->Dm D}{fr:ai->Dm (List D)}{n:Nat}(hr:∀δ st as st',fr δ st=some (as,st')->as.length=n):∀δ st as st',af fa fr δ st=some (as,st')->as.length=n+1:=λδ st as st' h=>by
 obtain⟨a,st1,e1,e⟩:=dP h;obtain⟨c,st2,e2,e⟩:=dP e;cases e;rw[Zaz,hr _ _ _ _ e2]
end
end L4
namespace L4
open PySem PySem.Spec L2
section
variable {K:Zfr}
abbrev yt(h:Int->Int->D):D->D->Dm D
 |.int i,.int j,st=>some (h i j,st)
 |_,_,_=>none
def E6{gv:Int->Int->V}{h:Int->Int->D}(hh:∀i j I H,Rp K I H (gv i j) (h i j)):nZ K (tP gv) (yt h):=by intro I H st x y a c b st' Q l rx ry e q;unfold yt at e;split at e;cases e;cases rx;cases ry;exact⟨_,_,rfl,rfl,q _ H I .refl l (hh _ _ I H)⟩;cases e
abbrev w8(c:Int->Int->Bool)(h:Int->Int->D):D->D->Dm D
 |.int i,.int j,st=>if c i j=true then some (h i j,st)else none
 |_,_,_=>none
def CI{C:Int->Int->Prop}{c:Int->Int->Bool}{gv:Int->Int->V}{h:Int->Int->D}(hc:∀i j,c i j=true->C i j)(hh:∀i j I H,Rp K I H (gv i j) (h i j)):nZ K (rI C gv) (w8 c h):=by
 intro I H st x y a d b st' Q l rx ry e q;unfold w8 at e;split at e
 ·split at e
  ·next hcc=>cases e;cases rx;cases ry;exact⟨_,_,rfl,rfl,hc _ _ hcc,q _ H I .refl l (hh _ _ I H)⟩
  ·cases e
 ·cases e
abbrev b8:D->D->Dm D:=yt λi j=>.int (i+j)
abbrev mw:D->D->Dm D:=yt λi j=>.int (i-j)
abbrev jH:D->D->Dm D:=w8 (λi j=>decide (-18446744073709551616<i/\i<18446744073709551616) || decide (-18446744073709551616<j/\j<18446744073709551616)) λi j=>.int (i*j)
abbrev rz:D->D->Dm D:=w8 (λi j=>decide (0<j/\j<1073741824)) λi j=>.int (i / j)
abbrev oh:D->D->Dm D:=w8 (λi j=>decide (0<j)) λi j=>.int (i % j)
abbrev vg:D->D->Dm D:=w8 (λi j=>decide (0<=j/\j<=1000000/\i.natAbs<18446744073709551616)) λi j=>.int (i ^ j.toNat)
abbrev E7:D->D->Dm D:=yt λi j=>.bl (decide (i<j))
abbrev Ya:D->D->Dm D:=yt λi j=>.bl (decide (i<=j))
abbrev E8:D->D->Dm D:=yt λi j=>.bl (decide (j<i))
abbrev NM:D->D->Dm D:=yt λi j=>.bl (decide (j<=i))
def yu:nZ K (tP λi j=>.int (i+j)) b8:=E6 λ_ _ _ _=>.int _
def CJ:nZ K (tP λi j=>.int (i-j)) mw:=E6 λ_ _ _ _=>.int _
def Ka:nZ K (rI uJ λi j=>.int (i*j)) jH:=CI (λi j h=>by
 rw[ZbH,decide_eq_true_eq,decide_eq_true_eq]at h
 exact h) λ_ _ _ _=>.int _
def RW:nZ K (rI DZ λi j=>.int (i / j)) rz:=CI (λi j h=>of_decide_eq_true (p:=0<j/\j<1073741824) h) λ_ _ _ _=>.int _
def RX:nZ K (rI (λ_ j=>0<j) λi j=>.int (i % j)) oh:=CI (λi j h=>of_decide_eq_true h) λ_ _ _ _=>.int _
def RY:nZ K (rI D0 λi j=>.int (i ^ j.toNat)) vg:=CI (λi j h=>by have h:=of_decide_eq_true (p:=0<=j/\j<=1000000/\i.natAbs<18446744073709551616) h;exact⟨h.1,h.2.1,by lk⟩) λ_ _ _ _=>.int _
def yw:nZ K (tP λi j=>.bl (decide (i<j))) E7:=E6 λ_ _ _ _=>.bl _
def NN:nZ K (tP λi j=>.bl (decide (j<i))) E8:=E6 λ_ _ _ _=>.bl _
def yx:nZ K (tP λi j=>.bl (decide (j<=i))) NM:=E6 λ_ _ _ _=>.bl _
abbrev i7:D->Dm D
 |.int i,st=>some (.int (-i),st)
 |_,_=>none
def qC:NK K (rU λi=>.int (-i)) i7:=by intro I H st x a b st' Q l rx e q;unfold i7 at e;split at e;cases e;cases rx;exact⟨_,rfl,q _ H I .refl l (.int _)⟩;cases e
abbrev sV:D->Option V
 |.non=>some .non
 |.bl b=>some (.bl b)
 |.int i=>some (.int i)
 |.str x=>some (.str x)
 |_=>none
def CK{I:List Addr}{H:Hp}{x v:V}{a:D}(r:Rp K I H x a)(h:sV a=some v):x=v:=by cases r<;>first|(cases h;rfl)|cases h
abbrev iG(neg:Bool):D->D->Dm D:=λa b st=>match sV a,sV b with
 |some x,some y=>if se x y=true then some (.bl (if neg then !decide (x=y)else decide (x=y)),st)else none
 |_,_=>none
def t5:nZ K PZ (iG false):=by
 intro I H st x y a c b st' Q l rx ry e q;unfold iG at e;split at e
 ·next u v h1 h2 =>
  split at e
  ·next hs=>cases e;cases CK rx h1;cases CK ry h2;exact⟨hs,q _ H I .refl l (.bl _)⟩
  ·cases e
 ·cases e
def xa:nZ K P0 (iG true):=by
 intro I H st x y a c b st' Q l rx ry e q;unfold iG at e;split at e
 ·next u v h1 h2 =>
  split at e
  ·next hs=>cases e;cases CK rx h1;cases CK ry h2;exact⟨hs,q _ H I .refl l (.bl _)⟩
  ·cases e
 ·cases e
abbrev fw{J M:Type}(f:J->Option M):List J->Option (List M)
 |[]=>some []
 |a :: r=>match f a,fw f r with
  |some b,some s=>some (b :: s)
  |_,_=>none
def CL{J M:Type}{f:J->Option M}{a:J}{r:List J}{s:List M}(h:fw f (a :: r)=some s):∃b t,f a=some b/\fw f r=some t/\s=b :: t:=by
 unfold fw at h;split at h
 ·next b t h1 h2=>cases h;exact⟨b,t,h1,h2,rfl⟩
 ·cases h
def CM{J M γ:Type}{f:J->Option M}{g:γ->J}{k:γ->M}(h:∀c,f (g c)=some (k c)):∀l:List γ,fw f (l.map g)=some (l.map k)
 |[]=>rfl
 |c :: r=>by
  show fw f (g c :: r.map g)=_;unfold fw;rw[h c,CM h r];rfl
abbrev ph(st:Store):Nat->D->Option PyData
 |0,_=>none
 |_+1,.non=>some .none
 |_+1,.bl b=>some (.bool b)
 |_+1,.int i=>some (.int i)
 |_+1,.str x=>some (.str x)
 |_+1,.ty _=>none
 |n+1,.tup ds=>(fw (ph st n) ds).map PyData.tuple
 |n+1,.ref i=>match items st i with
  |some ds=>(fw (ph st n) ds).map PyData.list
  |none=>none
def NP{I:List Addr}{H:Hp}{st:Store}(l:Rl K I H st):∀(n:Nat) {v:V} {d:D} {p:PyData},Rp K I H v d->ph st n d=some p->Rep K H v p
 |0,_,_,_,_,h=>by simp[ph]at h
 |n+1,v,d,p,r,h=>by
  have all:∀{vs:List V} {ds:List D} {ps:List PyData},du K I H vs ds->fw (ph st n) ds=some ps->pd K H vs ps:=by
   intro vs ds ps rr
   induction vs generalizing ds ps with
   |nil=>intro hm;cases rr;cases hm;exact .nil
   |cons w ws ih =>
    intro hm;cases rr with
    |cons ra rb =>
     obtain⟨b,t,h1,h2,rfl⟩:=CL hm;exact .cons (NP l n ra h1) (ih rb h2)
  cases r with
  |non=>simp[ph]at h;subst h;exact .non
  |bl b=>simp[ph]at h;subst h;exact .bl b
  |int i=>simp[ph]at h;subst h;exact .int i
  |str x=>simp[ph]at h;subst h;exact .str x
  |ty n=>simp[ph]at h
  |ref hi =>
   simp only[ph]at h;split at h
   ·next ds hd =>
    obtain⟨ps,h1,rfl⟩:=Zax.mp h;obtain⟨vs,e,rr⟩:=l.items hi hd;exact .lst e (all rr h1)
   ·cases h
  |tup q rr =>
   simp only[ph]at h;obtain⟨ps,h1,rfl⟩:=Zax.mp h;exact .tup q (all rr h1)
abbrev oG(neg:Bool):D->D->Dm D:=λa b st=>match ph st 20 a,ph st 20 b with
 |some p,some q=>if(PyData.canLay0 p && PyData.canLay0 q && decide (min p.depth q.depth<=60))=true then some (.bl (if neg then !PyData.eqv p q else PyData.eqv p q),st)else none
 |_,_=>none
def Kb(neg:Bool):nZ K (zW K neg) (oG neg):=by
 intro I H st x y a c b st' Q l rx ry e q;unfold oG at e;split at e
 ·next u v h1 h2 =>
  split at e
  ·next hs =>
   cases e;rw[ZaJ,ZaJ,decide_eq_true_eq]at hs;exact⟨u,v,NP l 20 rx h1,NP l 20 ry h2,hs.1.1,hs.1.2,hs.2,q _ H I .refl l (.bl _)⟩
  ·cases e
 ·cases e
def at_of{I:List Addr}{H:Hp}{vs:List V}{ds:List D}{i:Int}{d:D}(r:du K I H vs ds)(h:gT ds i=some d):∃v,gT vs i=some v/\Rp K I H v d:=by
 unfold gT at h ⊢;rw[r.length];cases hx:lS ds.length i with
 |none=>rw[hx]at h;cases h
 |some j =>
  rw[hx]at h;exact r.got h
abbrev av:D->D->Dm D
 |.tup ds,.int i,st=>match gT ds i with
  |some d=>some (d,st)
  |none=>none
 |_,_,_=>none
def fQ:nZ K (zI K) av:=by
 intro I H st x y a c b st' Q l rx ry e q;unfold av at e;split at e
 ·split at e
  ·next d hd =>
   cases e;cases ry;cases rx with
   |tup s r =>
    obtain⟨v,hv,rv⟩:=at_of r hd;exact⟨_,_,_,v,rfl,rfl,s,hv,q v H I .refl l rv⟩
  ·cases e
 ·cases e
abbrev hZ:D->D->Dm D
 |.ref r,.int i,st=>match items st r with
  |some ds=>match gT ds i with
   |some d=>some (d,st)
   |none=>none
  |none=>none
 |_,_,_=>none
def CN:nZ K (Ed K) hZ:=by
 intro I H st x y a c b st' Q l rx ry e q;unfold hZ at e;split at e
 ·split at e
  ·next ds hi =>
   split at e
   ·next d hd =>
    cases e;cases ry;cases rx with
    |ref hr =>
     obtain⟨vs,s,r⟩:=l.items hr hi;obtain⟨v,hv,rv⟩:=at_of r hd;exact⟨_,_,_,v,rfl,rfl,s,hv,q v H I .refl l rv⟩
   ·cases e
  ·cases e
 ·cases e
abbrev t6:D->D->Dm D
 | .str z,.int i,st=>if lim z.length=true then match gT z.cps.toList i with
   |some c=>some (.str ⟨#[c]⟩,st)
   |none=>none
  else none
 |_,_,_=>none
def RZ:nZ K Ee t6:=by
 intro I H st x y a c b st' Q l rx ry e q;unfold t6 at e;split at e
 ·split at e
  ·next hl =>
   split at e
   ·next d hd =>
    cases e;cases ry;cases rx;exact⟨_,_,d,rfl,rfl,Ax hl,hd,q _ H I .refl l (.str _)⟩
   ·cases e
  ·cases e
 ·cases e
abbrev cutD(xs:List D)(lo hi:Option Int):List D:=(xs.drop (HT.dz xs.length 0 lo)).take (HT.dz xs.length xs.length hi-HT.dz xs.length 0 lo)
def du.cut{I:List Addr}{H:Hp}{vs:List V}{ds:List D}(r:du K I H vs ds)(lo hi:Option Int):du K I H (pb vs lo hi) (cutD ds lo hi):=by unfold pb cutD;rw[r.length];exact(r.drop _).take _
abbrev qD:D->Option Int->Option Int->Dm D
 |.tup ds,lo,hi,st=>some (.tup (cutD ds lo hi),st)
 |_,_,_,_=>none
def got{I:List Addr}{H:Hp}{st:Store}{vs:List V}{ds:List D}{Q:VK}(l:Rl K I H st)(r:du K I H vs ds)(q:∀v H' I',Mn K I H I' H'->Rl K I' H' st->Rp K I' H' v (.tup ds)->Q v H'):sf K H vs Q :=
 λp H' s e=>q _ H' I (Mn.same e) (l.same e) (.tup s (r.mn (Mn.same e)))
def Az:Ay K (yd K) qD:=by
 intro lo hi I H st x a b st' Q l rx e q;cases a with
 |tup ds =>
  cases e;cases rx with
  |tup s r=>exact⟨_,_,rfl,s,got l (r.cut lo hi) q⟩
 |_=>cases e
abbrev vh:D->Option Int->Option Int->Dm D
 |.ref r,lo,hi,st=>match items st r with
  |some ds=>some (.ref st.length,st ++ [.lst (cutD ds lo hi)])
  |none=>none
 |_,_,_,_=>none
def R0:Ay K (Ef K) vh:=by
 intro lo hi I H st x a b st' Q l rx e q;cases a with
 |ref i =>
  simp only[vh]at e;split at e
  ·next ds hd =>
   cases e;cases rx with
   |ref hr =>
    obtain⟨vs,s,r⟩:=l.items hr hd;exact⟨_,_,rfl,s,λp hp=>q _ _ _ (Mn.new hp) (l.newL hp (r.cut lo hi)) (.ref (newR l))⟩
  ·cases e
 |_=>cases e
abbrev mJ:D->D->Dm D
 |.tup a,.tup b,st=>if lim (a.length+b.length)=true then some (.tup (a ++ b),st)else none
 |_,_,_=>none
def AA:nZ K (uT K) mJ:=by
 intro I H st x y a c b st' Q l rx ry e q;unfold mJ at e;split at e
 ·split at e
  ·next hl =>
   cases e;cases rx with
   |tup s r =>
    cases ry with
    |tup s' r'=>exact⟨_,_,_,_,rfl,rfl,s,s',by rw[r.length,r'.length];exact Ax hl,got l (r.append r') q⟩
  ·cases e
 ·cases e
abbrev own(st:Store)(i:Nat):Option (List D):=match st[i]? with
 |some (.lst ds)=>some ds
 |_=>none
def xb{st:Store}{i:Nat}{ds:List D}(h:own st i=some ds):st[i]?=some (.lst ds):=by
 unfold own at h;split at h
 ·next ds' hs=>cases h;exact hs
 ·cases h
abbrev oi:D->D->Dm D
 |.ref i,.ref j,st=>match own st i,own st j with
  |some a,some b=>if lim (a.length+b.length)=true then some (.ref st.length,st ++ [.lst (a ++ b)])else none
  |_,_=>none
 |_,_,_=>none
def Kc:nZ K Ei oi:=by
 intro I H st x y a c b st' Q l rx ry e q;unfold oi at e;split at e
 ·split at e
  ·next a b h1 h2 =>
   split at e
   ·next hl =>
    cases e;cases rx with
    |ref hi =>
     cases ry with
     |ref hj =>
      obtain⟨vs,e1,r1⟩:=l.obj _ _ _ hi (xb h1);obtain⟨ws,e2,r2⟩:=l.obj _ _ _ hj (xb h2);exact⟨_,_,_,_,rfl,rfl,e1,e2,by rw[r1.length,r2.length];exact Ax hl,λp hp=>q _ _ _ (Mn.new hp) (l.newL hp (r1.append r2)) (.ref (newR l))⟩
   ·cases e
  ·cases e
 ·cases e
abbrev oH:D->D->Dm D
 |.ref i,.int k,st=>match own st i with
  |some a=>if(decide (-9223372036854775808<=k/\k<9223372036854775808) && lim (a.length*k.toNat))=true then some (.ref st.length,st ++ [.lst (List.replicate k.toNat a).flatten])else none
  |_=>none
 |_,_,_=>none
def R1{I:List Addr}{H:Hp}:∀{ws vs:List V} {ds:List D},du K I H ws ds->fw sV ds=some vs->ws=vs
 |_,_,_,.nil,h=>by cases h;rfl
 |_,_,_,.cons a b,h=>by
  obtain⟨x,t,h1,h2,rfl⟩:=CL h;rw[CK a h1,R1 b h2]
def R3{a:D}{v:V}(h:sV a=some v):mI v=true:=by cases a<;>first|(cases h;rfl)|cases h
def R4:∀{ds:List D} {vs:List V},fw sV ds=some vs->vs.all mI=true
 |[],_,h=>by cases h;rfl
 |d :: r,_,h=>by
  obtain⟨x,t,h1,h2,rfl⟩:=CL h;rw[List.all_cons,R3 h1,R4 h2];rfl
abbrev fA(st:Store):D->Option (List D)
 |.tup ds=>some ds
 |.ref i=>items st i
 |_=>none
def Kd{I:List Addr}{H:Hp}{st:Store}{x:V}{a:D}{ds:List D}(l:Rl K I H st)(r:Rp K I H x a)(h:fA st a=some ds):∃p vs,x=.ref p/\(kR K H p vs\/gS K H p vs)/\du K I H vs ds:=by
 cases r<;>first|(cases h;done)|skip
 ·next hi=>obtain⟨vs,s,r⟩:=l.items hi h;exact⟨_,vs,rfl,.inl s,r⟩
 ·next s r=>cases h;exact⟨_,_,rfl,.inr s,r⟩
abbrev vi(neg:Bool):D->D->Dm D:=λa c st=>match sV a,(fA st c).bind (fw sV)with
 |some x,some vs=>some (.bl (if neg then !xZ x vs else xZ x vs),st)
 |_,_=>none
def yy(neg:Bool):nZ K (Mz K neg) (vi neg):=by
 intro I H st x y a c b st' Q l rx ry e q;unfold vi at e;split at e
 ·next u vs h1 h2 =>
  cases e;obtain⟨ds,h3,h4⟩:=Zbu.mp h2;obtain⟨p,ws,rfl,s,r⟩:=Kd l ry h3;cases CK rx h1;cases R1 r h4;exact⟨p,_,rfl,s,R3 h1,R4 h4,q _ H I .refl l (.bl _)⟩
 ·cases e
def du.one'{I:List Addr}{H:Hp}{vs:List V}{d:D}(r:du K I H vs [d]):∃v,vs=[v]/\Rp K I H v d:=by cases r with|cons a b=>cases b;exact⟨_,rfl,a⟩
def du.two'{I:List Addr}{H:Hp}{vs:List V}{d e:D}(r:du K I H vs [d,e]):∃v w,vs=[v,w]/\Rp K I H v d/\Rp K I H w e:=by
 cases r with
 |cons a b=>obtain⟨w,rfl,r⟩:=b.one';exact⟨_,_,rfl,a,r⟩
abbrev dM:List D->Dm D
 |[a],st=>match fA st a with
  |some ds=>some (.int ds.length,st)
  |none=>none
 |_,_=>none
def xc:vS K (λxs H Q=>∃p ys,xs=[.ref p]/\(kR K H p ys\/gS K H p ys)/\Q (.int ys.length) H) dM:=by
 intro I H st xs as b st' Q l rx e q;unfold dM at e;split at e
 ·split at e
  ·next ds hd =>
   cases e;obtain⟨v,rfl,r⟩:=rx.one';obtain⟨p,vs,rfl,s,r⟩:=Kd l r hd;exact⟨p,vs,rfl,s,q _ H I .refl l (by rw[r.length];exact .int _)⟩
  ·cases e
 ·cases e
abbrev pj:List D->Dm D
 |[a],st=>match fA st a with
  |some ds=>some (.ref st.length,st ++ [.lst ds])
  |none=>none
 |_,_=>none
def NQ:vS K (λxs H Q=>∃p ys,xs=[.ref p]/\(kR K H p ys\/gS K H p ys)/\∀l,H l=none->Q (.ref l) (upd H l (.lst ys))) pj:=by
 intro I H st xs as b st' Q l rx e q;unfold pj at e;split at e
 ·split at e
  ·next ds hd =>
   cases e;obtain⟨v,rfl,r⟩:=rx.one';obtain⟨p,vs,rfl,s,r⟩:=Kd l r hd;exact⟨p,vs,rfl,s,λp hp=>q _ _ _ (Mn.new hp) (l.newL hp r) (.ref (newR l))⟩
  ·cases e
 ·cases e
abbrev bU:List D->Dm D
 |[a],st=>match fA st a with
  |some ds=>some (.tup ds,st)
  |none=>none
 |_,_=>none
def AB:vS K (λxs H Q=>∃p ys,xs=[.ref p]/\((kR K H p ys/\∀l,H l=none->Q (.ref l) (upd H l (.tup ys)))\/(gS K H p ys/\Q (.ref p) H))) bU:=by
 intro I H st xs as b st' Q l rx e q;unfold bU at e;split at e
 ·split at e
  ·next ds hd =>
   cases e;obtain⟨v,rfl,r⟩:=rx.one';obtain⟨p,vs,rfl,s,r'⟩:=Kd l r hd;refine⟨p,vs,rfl,?_⟩;rcases s with s|s
   ·exact .inl ⟨s,(got l r' q).new⟩
   ·exact .inr ⟨s,(got l r' q).it s⟩
  ·cases e
 ·cases e
abbrev tq:List D->Dm D
 |[.int i,.int j],st=>some (.int (if j > i then j else i),st)
 |_,_=>none
abbrev E9:List D->Dm D
 |[.int i,.int j],st=>some (.int (if j<i then j else i),st)
 |_,_=>none
def R5:vS K (λxs H Q=>∃i j,xs=[.int i,.int j]/\Q (.int (if j > i then j else i)) H) tq:=by intro I H st xs as b st' Q l rx e q;unfold tq at e;split at e;cases e;obtain⟨v,w,rfl,r1,r2⟩:=rx.two';cases r1;cases r2;exact⟨_,_,rfl,q _ H I .refl l (.int _)⟩;cases e
abbrev qc:List D->Dm D
 |[.int i],st=>some (.int i,st)
 |[.bl k],st=>some (.int (if k then 1 else 0),st)
 |_,_=>none
def R6:vS K (λxs H Q=>(∃i,xs=[.int i]/\Q (.int i) H)\/∃k,xs=[.bl k]/\Q (.int (if k then 1 else 0)) H) qc:=by intro I H st xs as b st' Q l rx e q;unfold qc at e;split at e;cases e;obtain⟨v,rfl,r⟩:=rx.one';cases r;exact .inl ⟨_,rfl,q _ H I .refl l (.int _)⟩;cases e;obtain⟨v,rfl,r⟩:=rx.one';cases r;exact .inr ⟨_,rfl,q _ H I .refl l (.int _)⟩;cases e
abbrev lV:List D->Dm D
 |[.int j],st=>some (.ref st.length,st ++ [.lu 0 j])
 |_,_=>none
abbrev h7:List D->Dm D
 |[.int i,.int j],st=>some (.ref st.length,st ++ [.lu i j])
 |_,_=>none
def R7:vS K (λxs H Q=>∃j:Int,xs=[.int j]/\∀p,H p=none->Q (.ref p) (upd H p (.lu 0 j))) lV:=by intro I H st xs as b st' Q l rx e q;unfold lV at e;split at e;cases e;obtain⟨v,rfl,r⟩:=rx.one';cases r;exact⟨_,rfl,λp hp=>q _ _ _ (Mn.new hp) (l.new hp (show yp K _ _ p (.lu _ _)from rY)) (.ref (newR l))⟩;cases e
def R8:vS K (λxs H Q=>∃i j:Int,xs=[.int i,.int j]/\∀p,H p=none->Q (.ref p) (upd H p (.lu i j))) h7:=by intro I H st xs as b st' Q l rx e q;unfold h7 at e;split at e;cases e;obtain⟨v,w,rfl,r1,r2⟩:=rx.two';cases r1;cases r2;exact⟨_,_,rfl,λp hp=>q _ _ _ (Mn.new hp) (l.new hp (show yp K _ _ p (.lu _ _)from rY)) (.ref (newR l))⟩;cases e
abbrev aF(lo:Int)(n:Nat):List D:=(List.range n).map λ(k:Nat)=>D.int (lo+k)
def Yb{I:List Addr}{H:Hp}(lo:Int)(n:Nat):du K I H (iD lo n) (aF lo n):=by
 unfold iD aF
 induction (List.range n)with
 |nil=>exact .nil
 |cons a r ih=>exact .cons (.int _) ih
abbrev t9(lo hi:Int):Bool:=decide (-4611686018427387904<=lo/\lo<4611686018427387904/\-4611686018427387904<=hi/\hi<4611686018427387904) && lim (hi-lo).toNat
def R9{lo hi:Int}(h:t9 lo hi=true):(-(2 ^ 62)<=lo/\lo<2 ^ 62/\-(2 ^ 62)<=hi/\hi<2 ^ 62)/\(hi-lo).toNat<=2 ^ 24:=by unfold t9 at h;rw[ZaJ,decide_eq_true_eq]at h;exact⟨by lk,Zaw (Zct h.2) ∅⟩
abbrev kU(st:Store):D->Option (Int×Int)
 |.ref i=>match st[i]? with
  |some (.lu lo hi)=>some (lo,hi)
  |_=>none
 |_=>none
def AE{I:List Addr}{H:Hp}{st:Store}{x:V}{a:D}{lo hi:Int}(l:Rl K I H st)(r:Rp K I H x a)(h:kU st a=some (lo,hi)):∃p,x=.ref p/\H p=some (.lu lo hi):=by
 cases r<;>first|(cases h;done)|skip
 ·next hi' =>
  simp only[kU]at h;split at h
  ·next lo' Yc hs=>cases h;exact⟨_,rfl,l.obj _ _ _ hi' hs⟩
  ·cases h
abbrev gW:List D->Dm D
 |[a],st=>match kU st a with
  |some (lo,hi)=>if t9 lo hi=true then some (.ref st.length,st ++ [.lst (aF lo (hi-lo).toNat)])else none
  |none=>none
 |_,_=>none
def Sb:vS K (λxs H Q=>∃p lo hi,xs=[.ref p]/\H p=some (.lu lo hi)/\(-(2 ^ 62)<=lo/\lo<2 ^ 62/\-(2 ^ 62)<=hi/\hi<2 ^ 62)/\(hi-lo).toNat<=2 ^ 24 /\
  ∀l,H l=none->Q (.ref l) (upd H l (.lst (iD lo (hi-lo).toNat)))) gW:=by
 intro I H st xs as b st' Q l rx e q;unfold gW at e;split at e
 ·split at e
  ·next lo hi hd =>
   split at e
   ·next ok =>
    cases e;obtain⟨v,rfl,r⟩:=rx.one';obtain⟨p,rfl,s⟩:=AE l r hd;exact⟨p,lo,hi,rfl,s,(R9 ok).1,(R9 ok).2,λp hp=>q _ _ _ (Mn.new hp) (l.newL hp (Yb lo _)) (.ref (newR l))⟩
   ·cases e
  ·cases e
 ·cases e
abbrev xf:List D->Dm D
 |[a],st=>match kU st a with
  |some (lo,hi)=>if t9 lo hi=true then some (.tup (aF lo (hi-lo).toNat),st)else none
  |none=>none
 |_,_=>none
abbrev iV:D->Option Int
 |.int i=>some i
 |_=>none
def Sd{I:List Addr}{H:Hp}:∀{ws:List V} {ds:List D} {ns:List Int},du K I H ws ds->fw iV ds=some ns->ws=ns.map V.int
 |_,_,_,.nil,h=>by cases h;rfl
 |_,_,_,.cons a b,h=>by
  obtain⟨x,t,h1,h2,rfl⟩:=CL h;rw[Sd b h2];cases a<;>first|(cases h1;rfl)|cases h1
abbrev bV:D->Option Bool
 |.bl i=>some i
 |_=>none
def Sf{I:List Addr}{H:Hp}:∀{ws:List V} {ds:List D} {ns:List Bool},du K I H ws ds->fw bV ds=some ns->ws=ns.map V.bl
 |_,_,_,.nil,h=>by cases h;rfl
 |_,_,_,.cons a b,h=>by
  obtain⟨x,t,h1,h2,rfl⟩:=CL h;rw[Sf b h2];cases a<;>first|(cases h1;rfl)|cases h1
abbrev uc:List D->Dm D
 |[.ref i],st=>match (items st i).bind (fw bV)with
  |some bs=>some (.bl (bs.all id),st)
  |none=>none
 |_,_=>none
def Si:vS K (λxs H Q=>∃(p:Addr) (bs:List Bool),xs=[.ref p]/\kR K H p (bs.map V.bl)/\Q (.bl (bs.all id)) H) uc:=by
 intro I H st xs as b st' Q l rx e q;unfold uc at e;split at e
 ·split at e
  ·next bs hd =>
   cases e;obtain⟨v,rfl,r⟩:=rx.one';obtain⟨ds,h3,h4⟩:=Zbu.mp hd;cases r with
   |ref hi =>
    obtain⟨vs,s,r⟩:=l.items hi h3;cases Sf r h4;exact⟨_,bs,rfl,s,q _ H I .refl l (.bl _)⟩
  ·cases e
 ·cases e
abbrev yz(T:String)(st:Store):D->Bool
 |.str _=>T == "str"
 |.tup _=>T == "tuple"
 |.ref i=>T == "list" && (items st i).isSome
 |_=>false
def AF{I:List Addr}{H:Hp}{st:Store}{x:V}{a:D}{T:String}(l:Rl K I H st)(r:Rp K I H x a)(h:yz T st a=true):MB K T x H:=by
 cases r<;>first|(cases h;done)|skip
 ·exact eq_of_beq h
 ·next hi =>
  simp only[yz,ZaJ]at h;obtain⟨ds,hd⟩:=Zbe.mp h.2;obtain⟨vs,s,_⟩:=l.items hi hd;exact .inl ⟨eq_of_beq h.1,vs,s⟩
 ·next s r=>exact .inr (.inl ⟨eq_of_beq h,_,s⟩)
abbrev rV(T:String)(g:D->List D->Dm D)(fo:ai->Dm D)(fa:ai->Dm (List D)):ai->Dm D:=λδ st=>bnd (fo δ st) λo st1=>if yz T st1 o=true then bnd (fa δ st1) λas st2=>g o as st2 else none
def Ke{T:String}{r:V->List V->Hp->VK->Prop}{g:D->List D->Dm D}{to:TE}{ta:TA}{fo:ai->Dm D}{fa:ai->Dm (List D)}(hr:E3 K T r g)(ho:gU K to fo)(ha:su K ta fa):gU K (Qq K T r to ta) (rV T g fo fa):=by
 intro I G H δ st b st' Q l rs e q;obtain⟨o,st1,e1,e⟩:=dP e;split at e
 ·next ht =>
  obtain⟨as,st2,e2,e⟩:=dP e;refine ho I G H δ st o st1 _ l rs e1 λx H1 I1 m1 l1 r1=>⟨AF l1 r1 ht,ha I1 G H1 δ st1 as st2 _ l1 (rs.mn m1) e2 λxs H2 I2 m2 l2 r2=>?_⟩;exact hr I2 H2 st2 x xs o as b st' Q l2 (r1.mn m2) r2 e λv H3 I3 m3 l3 r3=>q v H3 I3 ((m1.trans m2).trans m3) l3 r3
 ·cases e
abbrev gg:D->List D->Dm D
 |.ref i,[y],st=>match own st i with
  |some xs=>if lim xs.length=true then some (.non,st.set i (.lst (xs ++ [y])))else none
  |none=>none
 |_,_,_=>none
def NR:E3 K "list" sQ gg:=by
 intro I H st x xs a as b st' Q l rx AG e q;unfold gg at e;split at e
 ·split at e
  ·next ys hy =>
   split at e
   ·next hl =>
    cases e;obtain⟨v,rfl,r⟩:=AG.one';cases rx with
    |ref hi =>
     obtain⟨vs,e1,r1⟩:=l.obj _ _ _ hi (xb hy);obtain⟨l2,m2⟩:=l.putL hi (xb hy) (r1.append (.one r));exact⟨_,vs,v,rfl,rfl,e1,by rw[r1.length];exact NL hl,q _ _ I m2 l2 .non⟩
   ·cases e
  ·cases e
 ·cases e
abbrev qE:D->List D->Dm D
 |.ref i,[.ref j],st=>match own st i,own st j with
  |some xs,some ys=>if lim (xs.length+ys.length)=true then some (.non,st.set i (.lst (xs ++ ys)))else none
  |_,_=>none
 |_,_,_=>none
abbrev oj:D->List D->Dm D
 |.ref i,[.int k],st=>match own st i with
  | some xs=>if decide (-9223372036854775808<=k/\k < 9223372036854775808)=true then match seqIndex? k xs.length with
    |some j=>match xs[j]? with
     |some y=>some (y,st.set i (.lst (xs.eraseIdx j)))
     |none=>none
    |none=>none
   else none
  |none=>none
 |_,_,_=>none
def Sj:E3 K "list" uP oj:=by
 intro I H st x xs a as b st' Q l rx AG e q;unfold oj at e;split at e
 ·split at e
  ·next ys hy =>
   split at e
   ·next hk =>
    split at e
    ·next j hj =>
     split at e
     ·next y hy' =>
      cases e;obtain⟨v,rfl,r⟩:=AG.one';cases r;cases rx with
      |ref hi =>
       obtain⟨vs,e1,r1⟩:=l.obj _ _ _ hi (xb hy);obtain⟨w,hw,rw'⟩:=r1.got hy';obtain⟨l2,m2⟩:=l.putL hi (xb hy) (r1.erase j);have hk:=of_decide_eq_true hk;exact⟨_,vs,_,j,w,rfl,rfl,e1,by lk,by lk,by rw[r1.length];exact hj,hw,q _ _ I m2 l2 (rw'.mn m2)⟩
     ·cases e
    ·cases e
   ·cases e
  ·cases e
 ·cases e
abbrev mW:D->List D->Dm D
 |.tup ds,[.int v],st=>match fw iV ds with
  |some ns=>match ns.findIdx? (λi=>decide (i=v))with
   |some j=>some (.int (j:Int),st)
   |none=>none
  |none=>none
 |_,_,_=>none
def Sk:E3 K "tuple" (uW K) mW:=by
 intro I H st x xs a as b st' Q l rx AG e q;unfold mW at e;split at e
 ·split at e
  ·next ns hn =>
   split at e
   ·next j hj =>
    cases e;obtain⟨v,rfl,r⟩:=AG.one';cases r;cases rx with
    |tup s r =>
     cases Sd r hn;obtain⟨h1,h2,h3⟩:=List.findIdx?_eq_some_iff_getElem.mp hj;refine⟨_,ns,_,j,rfl,rfl,s,?_,λi hi z=>?_,q _ H I .refl l (.int _)⟩
     ·rw[Zam h1];exact congrArg some (of_decide_eq_true h2)
     ·have:=h3 i hi
      obtain⟨hl,ez⟩:=Zad.mp z;rw[ez]at this;simp at this
   ·cases e
  ·cases e
 ·cases e
abbrev Fb(st:Store):D->Option String
 |.non=>some "NoneType"
 |.bl _=>some "bool"
 |.int _=>some "int"
 |.str _=>some "str"
 |.tup _=>some "tuple"
 |.ref i=>match st[i]? with
  |some (.lst _)=>some "list"
  |some (.dct _)=>some "dict"
  |_=>none
 |.ty _=>none
abbrev qF:List D->Dm D
 |[a,.ty c],st=>match Fb st a with
  |some T=>if T=c then some (.bl true,st)else none
  |none=>none
 |_,_=>none
end
section
variable {K:Zfr}
def Fc:nZ K Ej oH:=by
 intro I H st x y a c b st' Q l rx ry e q;unfold oH at e;split at e
 ·split at e
  ·next ds hd =>
   split at e
   ·next ok =>
    cases e;rw[ZaJ,decide_eq_true_eq]at ok;cases ry;cases rx with
    |ref hi =>
     obtain⟨vs,e1,r1⟩:=l.obj _ _ _ hi (xb hd);exact⟨_,_,vs,rfl,rfl,e1,by lk,by lk,by rw[r1.length];exact Ax ok.2,λp hp=>q _ _ _ (Mn.new hp) (l.newL hp (r1.flat _)) (.ref (newR l))⟩
   ·cases e
  ·cases e
 ·cases e
def Rs.set{I:List Addr}{H:Hp}{G:St}{δ:ai}{v:V}{d:D}{i:Nat}(h:Rs K I H G δ)(r:Rp K I H v d):Rs K I H (G.set i (some v)) (δ.set i (some d)):=by
 refine⟨by rw[ZaU,ZaU];exact h.1,λj e hj=>?_⟩;by_cases hij:i=j;subst hij;have hl:i<δ.length:=by
  have:=(Zad.mp hj).1
  rwa [ZaU]at this
 rw[Zag hl]at hj;cases hj;exact⟨v,by rw[Zag (by rw[h.1];exact hl)],r⟩;rw[Zao hij]at hj;obtain⟨w,hw,rw'⟩:=h.2 j e hj;exact⟨w,by rw[Zao hij];exact hw,rw'⟩
abbrev yA(K:Zfr)(g:TG)(f:D->ai->Dm ai):Prop :=
 ∀(I:List Addr) (G:St) (H:Hp) (δ:ai) (st:Store) (v:V) (d:D) (δ':ai) (st':Store) (Q:St->Hp->Prop),Rl K I H st->Rs K I H G δ->Rp K I H v d->f d δ st=some (δ',st') ->
  (∀G' H' I',Mn K I H I' H'->Rl K I' H' st'->Rs K I' H' G' δ'->Q G' H')->g v G H Q
abbrev xg(K:Zfr)(g:uH)(f:List D->ai->Dm ai):Prop :=
 ∀(I:List Addr) (G:St) (H:Hp) (δ:ai) (st:Store) (v:List V) (d:List D) (δ':ai) (st':Store) (Q:St->Hp->Prop),Rl K I H st->Rs K I H G δ->du K I H v d->f d δ st=some (δ',st') ->
  (∀G' H' I',Mn K I H I' H'->Rl K I' H' st'->Rs K I' H' G' δ'->Q G' H')->g v G H Q
abbrev hName(i:Nat):D->ai->Dm ai:=λd δ st=>some (δ.set i (some d),st)
def e8(i:Nat):yA K (rg i) (hName i):=by intro I G H δ st v d δ' st' Q l rs r e q;cases e;exact q _ H I .refl l (rs.set r)
abbrev pk:List D->ai->Dm ai
 |[],δ,st=>some (δ,st)
 |_,_,_=>none
abbrev eW(f:D->ai->Dm ai)(g:List D->ai->Dm ai):List D->ai->Dm ai
 |d :: ds,δ,st=>bnd (f d δ st) λδ1 st1=>g ds δ1 st1
 |_,_,_=>none
def Kf:xg K DQ pk:=by
 intro I G H δ st v d δ' st' Q l rs r e q;cases r with
 |nil=>cases e;exact⟨rfl,q _ H I .refl l rs⟩
 |cons a b=>cases e
def CO{t:TG}{u:uH}{f:D->ai->Dm ai}{g:List D->ai->Dm ai}(hf:yA K t f)(hg:xg K u g):xg K (xM t u) (eW f g):=by
 intro I G H δ st v d δ' st' Q l rs r e q;cases r with
 |nil=>cases e
 |cons a b =>
  obtain⟨δ1,st1,e1,e⟩:=dP e;exact⟨_,_,rfl,hf I G H δ st _ _ δ1 st1 _ l rs a e1 λG1 H1 I1 m1 l1 r1=>hg I1 G1 H1 δ1 st1 _ _ δ' st' Q l1 r1 (b.mn m1) e λG2 H2 I2 m2 l2 r2=>q G2 H2 I2 (m1.trans m2) l2 r2⟩
abbrev om(n:Nat)(f:List D->ai->Dm ai):D->ai->Dm ai
 |.tup ds,δ,st=>if ds.length=n then f ds δ st else none
 |_,_,_=>none
def Kg{n:Nat}{t:uH}{f:List D->ai->Dm ai}(hf:xg K t f):yA K (zz K n t) (om n f):=by
 intro I G H δ st v d δ' st' Q l rs r e q;cases r<;>first|(cases e;done)|skip
 ·next s r =>
  simp only[om]at e;split at e
  ·next hl=>exact⟨_,_,rfl,s,by rw[r.length];exact hl,hf I G H δ st _ _ δ' st' Q l rs r e q⟩
  ·cases e
abbrev hSub(fo fi:ai->Dm D):D->ai->Dm ai:=λd δ st=>bnd (fo δ st) λo st1=>bnd (fi δ st1) λi st2=>match o,i with
 |.ref r,.int k=>match own st2 r with
  |some xs=>match lS xs.length k with
   |some j=>some (δ,st2.set r (.lst (xs.set j d)))
   |none=>none
  |none=>none
 |_,_=>none
def AH{to ti:TE}{fo fi:ai->Dm D}(ho:gU K to fo)(hi:gU K ti fi):yA K (L2.mw to ti xX) (hSub fo fi):=by
 intro I G H δ st v d δ' st' Q l rs r e q;obtain⟨o,st1,e1,e⟩:=dP e;obtain⟨i,st2,e2,e⟩:=dP e;refine ho I G H δ st o st1 _ l rs e1 λx H1 I1 m1 l1 r1=>hi I1 G H1 δ st1 i st2 _ l1 (rs.mn m1) e2 λy H2 I2 m2 l2 r2=>?_;split at e
 ·split at e
  ·next xs hx =>
   split at e
   ·next j hj =>
    cases e;cases r2;cases r1 with
    |ref hr =>
     have hr2:=m2.r _ _ hr;obtain⟨vs,e3,r3⟩:=l2.obj _ _ _ hr2 (xb hx);obtain⟨l3,m3⟩:=l2.putL hr2 (xb hx) (r3.set (r.mn (m1.trans m2)) j);exact⟨_,vs,_,j,rfl,rfl,e3,by rw[r3.length];exact hj,q G _ I2 ((m1.trans m2).trans m3) l3 (rs.mn ((m1.trans m2).trans m3))⟩
   ·cases e
  ·cases e
 ·cases e
abbrev Go(K:Zfr)(I:List Addr)(H:Hp)(st':Store)(E:Ends):Fl->Prop
 |.nx δ=>∀G' H' I',Mn K I H I' H'->Rl K I' H' st'->Rs K I' H' G' δ->E.nx G' H'
 |.bk δ=>∀G' H' I',Mn K I H I' H'->Rl K I' H' st'->Rs K I' H' G' δ->E.bk G' H'
 |.ct δ=>∀G' H' I',Mn K I H I' H'->Rl K I' H' st'->Rs K I' H' G' δ->E.ct G' H'
 |.rt d=>∀v H' I',Mn K I H I' H'->Rl K I' H' st'->Rp K I' H' v d->E.rt v H'
def Go.mn{I I1:List Addr}{H H1:Hp}{st':Store}{E:Ends}{fl:Fl}(g:Go K I H st' E fl)(m:Mn K I H I1 H1):Go K I1 H1 st' E fl:=by cases fl<;>exactλv H' I' m' l r=>g v H' I' (m.trans m') l r
abbrev qX(K:Zfr)(t:TS)(f:ai->Dm Fl):Prop :=
 ∀(I:List Addr) (G:St) (H:Hp) (δ:ai) (st:Store) (fl:Fl) (st':Store) (E:Ends),Rl K I H st->Rs K I H G δ->f δ st=some (fl,st')->Go K I H st' E fl->t E G H
abbrev bx:ai->Dm Fl:=λδ st=>some (.nx δ,st)
def sy:qX K xI bx:=by intro I G H δ st fl st' E l rs e g;cases e;exact g G H I .refl l rs
abbrev aq(f g:ai->Dm Fl):ai->Dm Fl:=λδ st=>bnd (f δ st) λfl st1=>match fl with
 |.nx δ1=>g δ1 st1
 |x=>some (x,st1)
def fe{t u:TS}{f g:ai->Dm Fl}(hf:qX K t f)(hg:qX K u g):qX K (DL t u) (aq f g):=by
 intro I G H δ st fl st' E l rs e q;obtain⟨x,st1,e1,e⟩:=dP e;refine hf I G H δ st x st1 _ l rs e1 ?_;cases x with
 |nx δ1=>exactλG1 H1 I1 m1 l1 r1=>hg I1 G1 H1 δ1 st1 fl st' E l1 r1 e (q.mn m1)
 |bk δ1=>cases e;exact q
 |ct δ1=>cases e;exact q
 |rt d=>cases e;exact q
def rC{c:TT}{t u:TS}{fc:ai->Dm Bool}{f g:ai->Dm Fl}(hc:sr K c fc)(hf:qX K t f)(hg:qX K u g):qX K (DN c t u) (iF fc f g):=by
 intro I G H δ st fl st' E l rs e q;obtain⟨a,st1,e1,e⟩:=dP e;refine hc I G H δ st _ _ _ l rs e1 λx H1 I1 m1 l1 r1=>?_;subst r1;cases x with
 |true =>
  refine tT ?_;rw[if_pos rfl]at e;exact hf I1 G H1 δ st1 fl st' E l1 (rs.mn m1) e (q.mn m1)
 |false =>
  refine tR ?_;rw[if_neg Zal]at e;exact hg I1 G H1 δ st1 fl st' E l1 (rs.mn m1) e (q.mn m1)
abbrev mK(f:ai->Dm D):ai->Dm Fl:=λδ st=>bnd (f δ st) λ_ st1=>some (.nx δ,st1)
def NS{t:TE}{f:ai->Dm D}(hf:gU K t f):qX K (xJ t) (mK f):=by intro I G H δ st fl st' E l rs e q;obtain⟨a,st1,e1,e⟩:=dP e;cases e;exact hf I G H δ st a _ _ l rs e1 λx H1 I1 m1 l1 r1=>q G H1 I1 m1 l1 (rs.mn m1)
abbrev aQ(f:ai->Dm D):ai->Dm Fl:=λδ st=>bnd (f δ st) λd st1=>some (.rt d,st1)
def nG{t:TE}{f:ai->Dm D}(hf:gU K t f):qX K (DM t) (aQ f):=by intro I G H δ st fl st' E l rs e q;obtain⟨a,st1,e1,e⟩:=dP e;cases e;exact hf I G H δ st a _ _ l rs e1 λx H1 I1 m1 l1 r1=>q x H1 I1 m1 l1 r1
abbrev ay(f:ai->Dm D)(h:D->ai->Dm ai):ai->Dm Fl:=λδ st=>bnd (f δ st) λd st1=>bnd (h d δ st1) λδ1 st2=>some (.nx δ1,st2)
def iA{t:TE}{g:TG}{f:ai->Dm D}{h:D->ai->Dm ai}(hf:gU K t f)(hh:yA K g h):qX K (wk t g) (ay f h):=by intro I G H δ st fl st' E l rs e q;obtain⟨a,st1,e1,e⟩:=dP e;obtain⟨δ1,st2,e2,e⟩:=dP e;cases e;exact hf I G H δ st a st1 _ l rs e1 λx H1 I1 m1 l1 r1=>hh I1 G H1 δ st1 x a δ1 _ _ l1 (rs.mn m1) r1 e2 λG2 H2 I2 m2 l2 r2=>q G2 H2 I2 (m1.trans m2) l2 r2
abbrev rD(i j:Nat)(fa:ai->Dm (List D)):ai->Dm Fl:=λδ st=>bnd (fa δ st) λas st1=>match as with
 |[a,b]=>some (.nx ((δ.set i (some a)).set j (some b)),st1)
 |_=>none
def NT{i j:Nat}{t:TA}{fa:ai->Dm (List D)}(ha:su K t fa):qX K (DR i j t) (rD i j fa):=by intro I G H δ st fl st' E l rs e q;obtain⟨as,st1,e1,e⟩:=dP e;split at e;cases e;refine ha I G H δ st _ _ _ l rs e1 λx H1 I1 m1 l1 r1=>?_;obtain⟨v,w,rfl,r,r'⟩:=r1.two';exact⟨v,w,rfl,q _ H1 I1 m1 l1 (((rs.mn m1).set r).set r')⟩;cases e
abbrev iH(c:ai->Dm Bool)(b:ai->Dm Fl):Nat->ai->Dm Fl
 |0,_,_=>none
 | n + 1,δ,st=>bnd (c δ st) λt st1=>if t=true then bnd (b δ st1) λfl st2=>match fl with
   |.nx δ2=>iH c b n δ2 st2
   |.ct δ2=>iH c b n δ2 st2
   |.bk δ2=>some (.nx δ2,st2)
   |.rt d=>some (.rt d,st2)
  else some (.nx δ,st1)
abbrev fuel:Nat:=1000000
abbrev j3(c:ai->Dm Bool)(b:ai->Dm Fl):ai->Dm Fl:=iH c b fuel
def NU{tc:TT}{tb:TS}{c:ai->Dm Bool}{b:ai->Dm Fl}(hc:sr K tc c)(hb:qX K tb b):qX K (uI tc tb) (j3 c b):=by
 intro I G H δ st fl st' E l rs e q;refine⟨λm G1 H1=>∃I1 δ1 st1,Mn K I H I1 H1/\Rl K I1 H1 st1/\Rs K I1 H1 G1 δ1/\iH c b m δ1 st1=some (fl,st'),⟨fuel,I,δ,st,.refl,l,rs,e⟩,?_⟩;rintro m G1 H1 ⟨I1,δ1,st1,m1,l1,yC,e1⟩;cases m with
 |zero=>cases e1
 |succ m =>
  obtain⟨t,st2,e2,e1⟩:=dP e1;refine hc I1 G1 H1 δ1 st1 _ _ _ l1 yC e2 λx H2 I2 m2 l2 r2=>?_;subst r2;cases x with
  |true =>
   refine tT ?_;rw[if_pos rfl]at e1;obtain⟨f2,st3,e3,e1⟩:=dP e1;refine⟨λG3 H3=>∃m',m' < m+1/\∃I1 δ1 st1,Mn K I H I1 H3/\Rl K I1 H3 st1/\Rs K I1 H3 G3 δ1/\iH c b m' δ1 st1=some (fl,st'),λ_ _ h=>h,hb I2 G1 H2 δ1 st2 f2 st3 _ l2 (yC.mn m2) e3 ?_⟩;cases f2 with
   |nx δ3=>exactλG3 H3 I3 m3 l3 r3=>⟨m,ZbD m,I3,δ3,st3,(m1.trans m2).trans m3,l3,r3,e1⟩
   |ct δ3=>exactλG3 H3 I3 m3 l3 r3=>⟨m,ZbD m,I3,δ3,st3,(m1.trans m2).trans m3,l3,r3,e1⟩
   |bk δ3=>cases e1;exact q.mn (m1.trans m2)
   |rt d=>cases e1;exact q.mn (m1.trans m2)
  |false =>
   refine tR ?_;rw[if_neg Zal]at e1;cases e1;exact q.mn (m1.trans m2) G1 H2 I2 .refl l2 (yC.mn m2)
inductive Src where
 |fix (ds:List D)|live (i:Nat)|Fe (i:Nat)|zl (i:Nat) (es:List D)|zr (ds:List D) (i:Nat)|fn (f:Nat->Store->Option (Option D))
abbrev Src.at:Src->Nat->Store->Option (Option D)
 |.fix ds,i,_=>if i<=ds.length then some ds[i]? else none
 |.live r,i,st=>(items st r).map λds=>ds[i]?
 |.Fe r,i,st=>(items st r).bind λds=>if i<=ds.length then some (ds.mapIdx λi d=>D.tup [.int (i:Int),d])[i]? else none
 |.zl r es,i,st=>(items st r).bind λds=>if i<=(List.zipWith (λa b=>D.tup [a,b]) ds es).length then some (List.zipWith (λa b=>D.tup [a,b]) ds es)[i]? else none
 |.zr ds r,i,st=>(items st r).bind λes=>if i<=(List.zipWith (λa b=>D.tup [a,b]) ds es).length then some (List.zipWith (λa b=>D.tup [a,b]) ds es)[i]? else none
 |.fn f,i,st=>f i st
def rW{ds:List D}{i:Nat}{st:Store}{o:Option D}(h:Src.at (.fix ds) i st=some o):i<=ds.length/\ds[i]?=o:=by
 simp only[Src.at]at h;split at h
 ·next hl=>exact⟨hl,Zai h⟩
 ·cases h
abbrev xh(K:Zfr)(I:List Addr)(H:Hp)(J:It)(S:Src):Prop :=
 ∀(I2:List Addr) (H2:Hp) (st2:Store) (i:Nat),Mn K I H I2 H2->Rl K I2 H2 st2 ->
  (S.at i st2=some none->J.stop i H2)/\∀d,S.at i st2=some (some d)->J.go i H2/\∀x H3,J.wm i H2 x H3->Mn K I2 H2 I2 H3/\Rl K I2 H3 st2/\Rp K I2 H3 x d
@[reducible]def vj(K:Zfr)(t:TI)(f:ai->Dm Src):Prop:=So K (xh K) t f
abbrev gX(S:Src)(g:D->ai->Dm ai)(b:ai->Dm Fl):Nat->Nat->ai->Dm Fl
 |0,_,_,_=>none
 |n+1,i,δ,st=>match S.at i st with
  |none=>none
  |some none=>some (.nx δ,st)
  |some (some d)=>bnd (g d δ st) λδ1 st1=>bnd (b δ1 st1) λfl st2=>match fl with
   |.nx δ2=>gX S g b n (i+1) δ2 st2
   |.ct δ2=>gX S g b n (i+1) δ2 st2
   |.bk δ2=>some (.nx δ2,st2)
   |.rt d=>some (.rt d,st2)
abbrev bY(fi:ai->Dm Src)(g:D->ai->Dm ai)(b:ai->Dm Fl):ai->Dm Fl:=λδ st=>bnd (fi δ st) λS st1=>gX S g b fuel 0 δ st1
def sD{wi:TI}{tg:TG}{tb:TS}{fi:ai->Dm Src}{g:D->ai->Dm ai}{b:ai->Dm Fl}(hi:vj K wi fi)(hg:yA K tg g)(hb:qX K tb b):qX K (DW wi tg tb) (bY fi g b):=by
 intro I G H δ st fl st' E l rs e q;obtain⟨S,mL,e0,e⟩:=dP e;refine hi I G H δ st S mL _ l rs e0 λJ H0 I0 m0 l0 ok=>?_;refine⟨λi m G1 H1=>∃I1 δ1 st1,Mn K I0 H0 I1 H1/\Rl K I1 H1 st1/\Rs K I1 H1 G1 δ1/\gX S g b m i δ1 st1=some (fl,st'),⟨fuel,I0,δ,mL,.refl,l0,rs.mn m0,e⟩,?_⟩;rintro i m G1 H1 ⟨I1,δ1,st1,m1,l1,yC,e1⟩;cases m with
 |zero=>cases e1
 |succ m =>
  obtain⟨hstop,hgo⟩:=ok I1 H1 st1 i m1 l1;unfold gX at e1;split at e1
  ·cases e1
  ·next hs=>cases e1;exact .inl ⟨hstop hs,q.mn (m0.trans m1) G1 H1 I1 .refl l1 yC⟩
  ·next d hs =>
   obtain⟨δ2,st2,e2,e1⟩:=dP e1;obtain⟨f3,st3,e3,e1⟩:=dP e1;obtain⟨go,wm⟩:=hgo d hs;refine .inr ⟨go,λG3 H3=>∃m',m' < m+1/\∃I1 δ1 st1,Mn K I0 H0 I1 H3/\Rl K I1 H3 st1/\Rs K I1 H3 G3 δ1/\gX S g b m' (i+1) δ1 st1=some (fl,st'),λ_ _ h=>h,λx H2 hy=>?_⟩;obtain⟨m2,l2,r2⟩:=wm x H2 hy;refine hg I1 G1 H2 δ1 st1 x d δ2 st2 _ l2 (yC.mn m2) r2 e2 λG4 H4 I4 m4 l4 r4=>hb I4 G4 H4 δ2 st2 f3 st3 _ l4 r4 e3 ?_;have m5:=((m1.trans m2).trans m4);cases f3 with
   |nx δ3=>exactλG5 H5 I5 m6 l5 r5=>⟨m,ZbD m,I5,δ3,st3,m5.trans m6,l5,r5,e1⟩
   |ct δ3=>exactλG5 H5 I5 m6 l5 r5=>⟨m,ZbD m,I5,δ3,st3,m5.trans m6,l5,r5,e1⟩
   |bk δ3=>cases e1;exact q.mn (m0.trans m5)
   |rt d=>cases e1;exact q.mn (m0.trans m5)
abbrev hJ(fa:ai->Dm D):ai->Dm Src:=λδ st=>bnd (fa δ st) λa st1=>match a with
 |.tup ds=>some (.fix ds,st1)
 |_=>none
def CP{t:TE}{fa:ai->Dm D}(ha:gU K t fa):vj K (DV K t) (hJ fa):=by
 intro I G H δ st S st' Q l rs e q;obtain⟨a,st1,e1,e⟩:=dP e;cases a<;>simp at e;obtain⟨rfl,rfl⟩:=e;refine ha I G H δ st _ _ _ l rs e1 λx H1 I1 m1 l1 r1=>?_;cases r1 with
 |tup s r =>
  refine⟨_,rfl,⟨_,s⟩,q _ H1 I1 m1 l1 λI2 H2 st2 i m2 l2=>⟨λh=>?_,λd h=>?_⟩⟩;exact⟨_,m2.t _ _ s,by rw[r.length];exact ZaI.mp (rW h).2⟩;obtain⟨v,hv,rv⟩:=r.got (rW h).2;refine⟨⟨_,v,m2.t _ _ s,hv⟩,λx H3 y=>?_⟩;obtain⟨rfl,hx⟩:=y;have:=hx _ (m2.t _ _ s);rw[hv]at this;cases this;exact⟨.refl,l2,rv.mn m2⟩
abbrev oo(fa:ai->Dm D):ai->Dm Src:=λδ st=>bnd (fa δ st) λa st1=>match a with
 |.ref i=>match items st1 i with
  |some _=>some (.live i,st1)
  |none=>none
 |_=>none
def Sl{t:TE}{fa:ai->Dm D}(ha:gU K t fa):vj K (xP K t) (oo fa):=by
 intro I G H δ st S st' Q l rs e q;obtain⟨a,st1,e1,e⟩:=dP e;split at e
 ·next k =>
  split at e
  ·next ds hd =>
   cases e;refine ha I G H δ st _ _ _ l rs e1 λx H1 I1 m1 l1 r1=>?_;cases r1 with
   |ref hi =>
    obtain⟨vs,s,r⟩:=l1.items hi hd;refine⟨_,rfl,⟨_,s⟩,q _ H1 I1 m1 l1 λI2 H2 st2 i m2 l2=>⟨λh=>?_,λd h=>?_⟩⟩
    ·obtain⟨NV,hd2,h⟩:=Zax.mp h
     obtain⟨Ff,s2,r2⟩:=l2.items (m2.r _ _ hi) hd2;exact⟨Ff,s2,by rw[r2.length];exact ZaI.mp h⟩
    ·obtain⟨NV,hd2,h⟩:=Zax.mp h
     obtain⟨Ff,s2,r2⟩:=l2.items (m2.r _ _ hi) hd2;obtain⟨v,hv,rv⟩:=r2.got h;refine⟨⟨_,v,s2,hv⟩,λx H3 y=>?_⟩;obtain⟨rfl,hx⟩:=y;have:=hx _ s2;rw[hv]at this;cases this;exact⟨.refl,l2,rv⟩
  ·cases e
 ·cases e
abbrev bR(fa:ai->Dm (List D)):ai->Dm Src:=λδ st=>bnd (fa δ st) λas st1=>match as with
 |[.int j]=>if decide (-4611686018427387904<=j/\j<4611686018427387904)=true then some (.fix (aF 0 j.toNat),st1)else none
 |_=>none
abbrev vk(fa:ai->Dm (List D)):ai->Dm Src:=λδ st=>bnd (fa δ st) λas st1=>match as with
 |[.int i,.int j]=>if decide ((-4611686018427387904<=i/\i<4611686018427387904)/\-4611686018427387904<=j/\j<4611686018427387904)=true then some (.fix (aF i (j-i).toNat),st1)else none
 |_=>none
def gh(lo:Int)(n:Nat):(aF lo n).length=n:=by simp[aF]
def vT{lo:Int}{n k:Nat}(h:k<n):(aF lo n)[k]?=some (.int (lo+k)):=by simp[aF,h]
def AI{I:List Addr}{H:Hp}(lo:Int)(n:Nat):xh K I H (JB lo n) (.fix (aF lo n)):=by
 intro I2 H2 st2 i m2 l2;refine⟨λh=>?_,λd h=>?_⟩
 have:=ZaI.mp (rW h).2
 rw[gh]at this;exact this;have h:=(rW h).2;have hl:=(Zad.mp h).1;rw[gh]at hl;rw[vT hl]at h;cases h;refine⟨hl,λx H3 y=>?_⟩;obtain⟨rfl,rfl⟩:=y;exact⟨.refl,l2,.int _⟩
def xj{t:TA}{fa:ai->Dm (List D)}(ha:su K t fa):vj K (xQ t) (bR fa):=by
 intro I G H δ st S st' Q l rs e q;obtain⟨as,st1,e1,e⟩:=dP e;split at e
 ·split at e
  ·next ok =>
   cases e;have ok:=of_decide_eq_true ok;refine ha I G H δ st _ _ _ l rs e1 λx H1 I1 m1 l1 r1=>?_;obtain⟨v,rfl,r⟩:=r1.one';cases r;exact⟨_,rfl,by lk,by lk,q _ H1 I1 m1 l1 (AI 0 _)⟩
  ·cases e
 ·cases e
abbrev iI(ds:List D):List D:=ds.mapIdx λi d=>.tup [.int (i:Int),d]
def uw(ds:List D):(iI ds).length=ds.length:=by simp[iI]
def AJ{ds:List D}{i:Nat}{x:D}(h:(iI ds)[i]?=some x):∃d,ds[i]?=some d/\x=.tup [.int (i:Int),d]:=by unfold iI at h;rw[List.getElem?_mapIdx]at h;obtain⟨d,h1,h2⟩:=Zax.mp h;exact⟨d,h1,h2.symm⟩
abbrev oq(fa:ai->Dm (List D)):ai->Dm Src:=λδ st=>bnd (fa δ st) λas st1=>match as with
 |[.tup ds]=>some (.fix (iI ds),st1)
 |_=>none
def Sn{t:TA}{fa:ai->Dm (List D)}(ha:su K t fa):vj K (yf K t) (oq fa):=by
 intro I G H δ st S st' Q l rs e q;obtain⟨as,st1,e1,e⟩:=dP e;split at e;cases e;refine ha I G H δ st _ _ _ l rs e1 λx H1 I1 m1 l1 r1=>?_;obtain⟨v,rfl,r⟩:=r1.one';cases r with
 |tup s r =>
  refine⟨_,rfl,⟨_,s⟩,q _ H1 I1 m1 l1 λI2 H2 st2 i m2 l2=>⟨λh=>?_,λd h=>?_⟩⟩;obtain⟨h1,h2⟩:=rW h;have h2:=ZaI.mp h2;rw[uw]at h1 h2;exact⟨_,m2.t _ _ s,by rw[r.length];lk⟩;obtain⟨h1,h2⟩:=rW h;obtain⟨d',hd',rfl⟩:=AJ h2;obtain⟨v,hv,rv⟩:=r.got hd';refine⟨⟨_,v,m2.t _ _ s,hv⟩,λx H3 y=>?_⟩;obtain⟨p,z,rfl,hp,rfl,hx⟩:=y;have:=hx _ (m2.t _ _ s);rw[hv]at this;cases this;have m3:Mn K I2 H2 I2 (upd H2 p (.tup [.int (i:Int),v])):=Mn.same (hV.up hp);exact⟨m3,l2.same (hV.up hp),.tup (gS.of rY) (.cons (.int _) (.one ((rv.mn m2).mn m3)))⟩
 cases e
abbrev j4(S:Src)(g:D->ai->Dm ai)(tc:ai->Dm Bool)(te:ai->Dm D):Nat->Nat->List D->ai->Dm (List D)
 |0,_,_,_,_=>none
 |n+1,i,ys,δ,st=>if lim ys.length=true then match S.at i st with
  |none=>none
  |some none=>some (ys,st)
  |some (some d)=>bnd (g d δ st) λδ1 st1=>bnd (tc δ1 st1) λt st2=>if t=true then bnd (te δ1 st2) λy st3=>j4 S g tc te n (i+1) (ys ++ [y]) δ1 st3 else j4 S g tc te n (i+1) ys δ1 st2
  else none
abbrev rE(n:Nat)(js:List Nat)(δ:ai):ai:=List.replicate n none ++ js.map λj=>δ.getD j none
abbrev dC(fi:ai->Dm Src)(n:Nat)(js:List Nat)(g:D->ai->Dm ai)(tc:ai->Dm Bool)(te:ai->Dm D):ai->Dm D:=λδ st=>bnd (fi δ st) λS st1=>bnd (j4 S g tc te fuel 0 [] (rE n js δ) st1) λys st2=>some (.ref st2.length,st2 ++ [.lst ys])
def Rs.comp{I:List Addr}{H:Hp}{G:St}{δ:ai}(h:Rs K I H G δ)(n:Nat)(js:List Nat):Rs K I H (lz n js G) (rE n js δ):=by
 unfold lz rE;refine⟨by simp,λi d hd=>?_⟩;by_cases hi:i<n;rw[ZaH (by simpa using hi),Zbg,if_pos hi]at hd;cases hd;rw[ZaB (by simpa using Zcm hi),Zaj]at hd;rw[ZaB (by simpa using Zcm hi),Zaj];simp only[ZaG]at hd ⊢;cases hj:js[i-n]? with
 |none=>rw[hj]at hd;cases hd
 |some j =>
  rw[hj]at hd;have hd:δ.getD j none=some d:=Zai hd;rw[Zau]at hd;have hd':δ[j]?=some (some d):=by
   cases hx:δ[j]? with
   |none=>rw[hx]at hd;cases hd
   |some y=>rw[hx]at hd;exact congrArg some hd
  obtain⟨v,hv,r⟩:=h.2 j d hd';exact⟨v,by show some (G.getD j none)=_;rw[Zau,hv];rfl,r⟩
def Yd{wi:TI}{tg:TG}{tc:TT}{te:TE}{fi:ai->Dm Src}{n:Nat}{js:List Nat}{g:D->ai->Dm ai}{c:ai->Dm Bool}{f:ai->Dm D}{I:List Addr}{G:St}{H:Hp}{δ:ai}{st:Store}{b:D}{st':Store}{Q:VK}(hi:∀S mL R,fi δ st=some (S,mL)->(∀J H' I',Mn K I H I' H'->Rl K I' H' mL->xh K I' H' J S->R J H')->wi G H R)(hg:yA K tg g)(hc:sr K tc c)(hf:gU K te f)(rs:Rs K I H G δ)(e:dC fi n js g c f δ st=some (b,st'))(q:∀a H' I',Mn K I H I' H'->Rl K I' H' st'->Rp K I' H' a b->Q a H'):sT wi n js tg tc te G H Q:=by
 obtain⟨S,mL,e0,e⟩:=dP e;obtain⟨zs,rF,e9,e⟩:=dP e;cases e;refine hi S mL _ e0 λJ H0 I0 m0 l0 ok=>?_;refine⟨λi m ys G1 H1=>∃I1 δ1 st1 ws,Mn K I0 H0 I1 H1/\Rl K I1 H1 st1/\Rs K I1 H1 G1 δ1/\du K I1 H1 ys ws/\j4 S g c f m i ws δ1 st1=some (zs,rF),⟨fuel,I0,_,mL,[],.refl,l0,(rs.mn m0).comp n js,.nil,e9⟩,?_⟩;rintro i m ys G1 H1 ⟨I1,δ1,st1,ws,m1,l1,yC,Kh,e1⟩;cases m with
 |zero=>cases e1
 |succ m =>
  obtain⟨hstop,hgo⟩:=ok I1 H1 st1 i m1 l1;unfold j4 at e1;split at e1
  ·next hl =>
   refine⟨by rw[Kh.length];exact NL hl,?_⟩;split at e1
   ·cases e1
   ·next hs =>
    cases e1;exact .inl ⟨hstop hs,λp hp=>q _ _ _ ((m0.trans m1).trans (Mn.new hp)) (l1.newL hp Kh) (.ref (newR l1))⟩
   ·next d hs =>
    obtain⟨δ2,st2,e2,e1⟩:=dP e1;obtain⟨t,st3,e3,e1⟩:=dP e1;obtain⟨go,wm⟩:=hgo d hs;refine .inr ⟨go,λx H2 hy=>?_⟩;obtain⟨m2,l2,r2⟩:=wm x H2 hy;refine hg I1 G1 H2 δ1 st1 x d δ2 st2 _ l2 (yC.mn m2) r2 e2 λG4 H4 I4 m4 l4 r4=>hc I4 G4 H4 δ2 st2 t st3 _ l4 r4 e3 λt' H5 I5 m5 l5 r5=>?_;subst r5;have m6:=(((m1.trans m2).trans m4).trans m5);cases t' with
    |true =>
     refine tT ?_;rw[if_pos rfl]at e1;obtain⟨y,NW,e6,e1⟩:=dP e1;exact hf I5 G4 H5 δ2 st3 y NW _ l5 (r4.mn m5) e6 λv H7 I7 m7 l7 r7=>⟨m,ZbD m,I7,δ2,NW,ws ++ [y],m6.trans m7,l7,r4.mn (m5.trans m7),(Kh.mn (((m2.trans m4).trans m5).trans m7)).append (.one r7),e1⟩
    |false =>
     refine tR ?_;rw[if_neg Zal]at e1;exact⟨m,ZbD m,I5,δ2,st3,ws,m6,l5,r4.mn m5,Kh.mn ((m2.trans m4).trans m5),e1⟩
  ·cases e1
def Fg{wi:TI}{tg:TG}{tc:TT}{te:TE}{fi:ai->Dm Src}{n:Nat}{js:List Nat}{g:D->ai->Dm ai}{c:ai->Dm Bool}{f:ai->Dm D}(hi:vj K wi fi)(hg:yA K tg g)(hc:sr K tc c)(hf:gU K te f):gU K (sT wi n js tg tc te) (dC fi n js g c f) :=
 λI G H δ st _ _ _ l rs e q=>Yd (λS mL R e0 r=>hi I G H δ st S mL R l rs e0 r) hg hc hf rs e q
abbrev dQ:ai->Dm Bool:=λ_ st=>some (true,st)
abbrev eF(n:Nat)(b:ai->Dm Fl):List D->Dm D:=λds st=>bnd (b (ds.map some ++ List.replicate (n-ds.length) none) st) λfl st1=>match fl with
 |.rt d=>some (d,st1)
 |.nx _=>some (.non,st1)
 |_=>none
def Rs.start{I:List Addr}{H:Hp}{vs:List V}{ds:List D}(r:du K I H vs ds)(N:List Str):Rs K I H (start N vs) (ds.map some ++ List.replicate (N.length-ds.length) none):=by
 unfold L2.start;rw[r.length];refine⟨by simp[r.length],λi d hd=>?_⟩;by_cases hi:i<ds.length;rw[ZaH (by simpa using hi),Zaj]at hd;rw[ZaH (by rw[Zaa,r.length];exact hi),Zaj];cases hx:ds[i]? with
 |none=>rw[hx]at hd;cases hd
 |some y =>
  rw[hx]at hd;cases hd;obtain⟨v,hv,rv⟩:=r.got hx;exact⟨v,by rw[hv];rfl,rv⟩
 rw[ZaB (by simpa using Zcm hi),Zbg]at hd;split at hd<;>cases hd
def fB{N:List Str}{k n:Nat}{t:TS}{b:ai->Dm Fl}{vs:List V}{H:Hp}{Q:VK}{E:XK}(hb:qX K t b)(hn:N.length=n)(h:bw K k (eF n b) vs H Q E):t { nx:=λ_ H'=>Q .non H',rt:=Q } (start N vs) H:=by
 obtain⟨hk,I,st,ds,d,st',l,r,e,q⟩:=h;subst hn;obtain⟨fl,st1,e1,e⟩:=dP e;refine hb I _ H _ st fl st1 _ l (Rs.start r N) e1 ?_;cases fl with
 |rt v=>cases e;exact q
 |nx δ=>cases e;exactλG' H' I' m l' r'=>q .non H' I' m l' .non
 |bk δ=>cases e
 |ct δ=>cases e
end
section
variable {X:Cx}{K:Zfr}
def Fh:sr K (λ_ H Q=>Q true H) dQ:=by intro I G H δ st b st' Q l rs e q;cases e;exact q _ H I .refl l rfl
end
abbrev yD(K:Zfr):Sp:=λvs H Q _=>∃(a:Addr) (ns:List Int),vs=[.ref a]/\Eo K H a (ns.map V.int)/\ns.length<=63/\∀H',Q (.bl true) H'
def AK{P:Program}{w:World}{K:Zfr}{mg:Str->Option Value}{base:Heap}{k:Nat}{f:Addr}{fd:FuncData}{ps:List Str}{F:List D->Dm D}(G:aC P w K mg base bq k f fd ps (bw K 1 F))
  (h:∀ns:List Int,ns.length<=63->∃st',F [.ref 0] [.rT (ns.map D.int)]=some (.bl true,st')):aC P w K mg base bq k f fd ps (yD K):=by
 refine G.imp λvs H Q E hs=>?_;obtain⟨a,ns,rfl,hS,hn,q⟩:=hs;obtain⟨st',e⟩:=h ns hn;have one:∀i (b:Addr),([a]:List Addr)[i]?=some b->i=0/\b=a:=λi b h=>by
  cases i with
  |zero=>exact⟨rfl,(Zai h).symm⟩
  |succ i=>simp at h
 refine⟨rfl,[a],[.rT (ns.map D.int)],[.ref 0],.bl true,st',⟨rfl,λi j b o o' h1 h2 _ _ _ _=>by rw[(one i b h1).1,(one j b h2).1],λi b o h1 h2=>?_⟩,.one (.ref rfl),e,λv H' I' m l r=>by cases r;exact q H'⟩;obtain⟨rfl,rfl⟩:=one i b h1;cases(Zai h2);exact⟨ns.map V.int,hS,du.ints ns⟩
abbrev Wp{J:Type}(m:Option (J×Store))(Q:J->Store->Prop):Prop:=∃a st,m=some (a,st)/\Q a st
section
variable {J M:Type}{Q Q':J->Store->Prop}{st:Store}{δ:ai}
def aR{m:Option (J×Store)}(h:Wp m Q)(hq:∀a st,Q a st->Q' a st):Wp m Q':=let ⟨a,st,e,q⟩:=h;⟨a,st,e,hq a st q⟩
def bz{a:J}:Wp (some (a,st)) Q↔Q a st:=⟨λ⟨_,_,e,q⟩=>by cases e;exact q,λq=>⟨a,st,rfl,q⟩⟩
def fR:Wp (none:Option (J×Store)) Q↔False:=⟨λ⟨_,_,e,_⟩=>(by cases e),False.elim⟩
def dO{R:M->Store->Prop}{m:Option (J×Store)}{k:J->Dm M}:Wp (bnd m k) R↔Wp m λa st1=>Wp (k a st1) R:=by
 cases m with
 |none=>exact⟨λ⟨_,_,e,_⟩=>(by cases e),λ⟨_,_,e,_⟩=>(by cases e)⟩
 |some p=>exact⟨λh=>⟨p.1,p.2,rfl,h⟩,λ⟨a,s,e,h⟩=>by cases e;exact h⟩
def pq{c:Prop}[Decidable c]{m n:Option (J×Store)}:Wp (if c then m else n) Q↔if c then Wp m Q else Wp n Q:=by split<;>exact Iff.rfl
end
section
variable {st:Store}{δ:ai}{Q:D->Store->Prop}
def AL{i:Nat}:Wp (ag i δ st) Q↔∃d,δ[i]?=some (some d)/\Q d st:=by
 unfold ag;split
 ·next d hd=>rw[bz];exact⟨λh=>⟨d,hd,h⟩,λ⟨e,he,h⟩=>by rw[hd]at he;cases he;exact h⟩
 ·next h=>rw[fR];exact⟨False.elim,λ⟨e,he,_⟩=>h e he⟩
def NX{d:D}:Wp (fC d δ st) Q↔Q d st:=bz
def Fi{g:D->D->Dm D}{fa fb:ai->Dm D}:Wp (ao g fa fb δ st) Q↔Wp (fa δ st) λa st1=>Wp (fb δ st1) λb st2=>Wp (g a b st2) Q:=by unfold ao;rw[dO];simp only[dO]
def Fj{g:D->Dm D}{fa:ai->Dm D}:Wp (pY g fa δ st) Q↔Wp (fa δ st) λa st1=>Wp (g a st1) Q:=dO
def Fm{g:List D->Dm D}{fa:ai->Dm (List D)}:Wp (aK g fa δ st) Q↔Wp (fa δ st) λa st1=>Wp (g a st1) Q:=dO
def AO{R:List D->Store->Prop}:Wp (ah δ st) R↔R [] st:=bz
def Ye{R:List D->Store->Prop}{fa:ai->Dm D}{fr:ai->Dm (List D)}:Wp (af fa fr δ st) R↔Wp (fa δ st) λa st1=>Wp (fr δ st1) λr st2=>R (a :: r) st2:=by unfold af;rw[dO];simp only[dO,bz]
def AQ{fa:ai->Dm (List D)}:Wp (cP fa δ st) Q↔Wp (fa δ st) λas st1=>lim as.length=true/\Q (.tup as) st1:=by unfold cP;rw[dO];simp only[pq,bz,fR];constructor<;>exactλh=>aR h λa s h=>by first|(split at h;exact⟨by assumption,h⟩;exact h.elim)|(rw[if_pos h.1];exact h.2)
def AR{fa:ai->Dm (List D)}:Wp (ft fa δ st) Q↔Wp (fa δ st) λas st1=>lim as.length=true/\Q (.ref st1.length) (st1 ++ [.lst as]):=by unfold ft;rw[dO];simp only[pq,bz,fR];constructor<;>exactλh=>aR h λa s h=>by first|(split at h;exact⟨by assumption,h⟩;exact h.elim)|(rw[if_pos h.1];exact h.2)
def Yf{R:Bool->Store->Prop}{fa:ai->Dm D}:Wp (aI fa δ st) R↔Wp (fa δ st) λa st1=>∃b,a=.bl b/\R b st1:=by unfold aI;rw[dO];constructor<;>refineλh=>aR h λa s h=>?_;cases a<;>simp only[bz,fR]at h;exact⟨_,rfl,h⟩;obtain⟨b,rfl,h⟩:=h;exact bz.mpr h
def AU{R:Bool->Store->Prop}{fa:ai->Dm Bool}:Wp (tZ fa δ st) R↔Wp (fa δ st) λa st1=>R (!a) st1:=by unfold tZ;rw[dO];simp only[bz]
def AV{R:Bool->Store->Prop}{fa fb:ai->Dm Bool}:Wp (sv fa fb δ st) R↔Wp (fa δ st) λa st1=>if a=true then Wp (fb δ st1) R else R false st1:=by unfold sv;rw[dO];simp only[pq,bz]
def Fn{R:Bool->Store->Prop}{fa fb:ai->Dm Bool}:Wp (CH fa fb δ st) R↔Wp (fa δ st) λa st1=>if a=true then R true st1 else Wp (fb δ st1) R:=by unfold CH;rw[dO];simp only[pq,bz]
def yE{J:Type}{R:J->Store->Prop}{c:ai->Dm Bool}{fa fb:ai->Dm J}:Wp (iF c fa fb δ st) R↔Wp (c δ st) λa st1=>if a=true then Wp (fa δ st1) R else Wp (fb δ st1) R:=by unfold iF;rw[dO];simp only[pq]
def Yg{fa fb:ai->Dm D}:Wp (tm fa fb δ st) Q↔Wp (aI fa δ st) λa st1=>if a=true then Wp (fb δ st1) Q else Q (.bl false) st1:=by unfold tm;rw[dO];simp only[pq,bz]
def AW{fa fb:ai->Dm D}:Wp (E4 fa fb δ st) Q↔Wp (aI fa δ st) λa st1=>if a=true then Q (.bl true) st1 else Wp (fb δ st1) Q:=by unfold E4;rw[dO];simp only[pq,bz]
def Yh{fa:ai->Dm D}:Wp (yr fa δ st) Q↔Wp (aI fa δ st) λa st1=>Q (.bl (!a)) st1:=by unfold yr;rw[dO];simp only[bz]
def Yj{R:Option Int->Store->Prop}:Wp (fu δ st) R↔R none st:=bz
def Yk{R:Option Int->Store->Prop}{fa:ai->Dm D}:Wp (kT fa δ st) R↔Wp (fa δ st) λa st1=>∃i,a=.int i/\R (some i) st1:=by unfold kT;rw[dO];constructor<;>refineλh=>aR h λa s h=>?_;cases a<;>simp only[bz,fR]at h;exact⟨_,rfl,h⟩;obtain⟨b,rfl,h⟩:=h;exact bz.mpr h
def Fo{g:D->Option Int->Option Int->Dm D}{fa:ai->Dm D}{fl fh:ai->Dm (Option Int)}:Wp (uv g fa fl fh δ st) Q↔Wp (fa δ st) λa st1=>Wp (fl δ st1) λlo st2=>Wp (fh δ st2) λhi st3=>Wp (g a lo hi st3) Q:=by unfold uv;rw[dO];simp only[dO]
def Fp{T:String}{g:D->List D->Dm D}{fo:ai->Dm D}{fa:ai->Dm (List D)}:Wp (rV T g fo fa δ st) Q↔Wp (fo δ st) λo st1=>yz T st1 o=true/\Wp (fa δ st1) λas st2=>Wp (g o as st2) Q:=by unfold rV;rw[dO];simp only[pq,dO,fR];constructor<;>exactλh=>aR h λa s h=>by first|(split at h;exact⟨by assumption,h⟩;exact h.elim)|(rw[if_pos h.1];exact h.2)
variable {i j:Int}{ds es:List D}{k:Nat}
def AX:Wp (b8 (.int i) (.int j) st) Q↔Q (.int (i+j)) st:=bz
def AY:Wp (mw (.int i) (.int j) st) Q↔Q (.int (i-j)) st:=bz
def Fq:Wp (E7 (.int i) (.int j) st) Q↔Q (.bl (decide (i<j))) st:=bz
def Fs:Wp (Ya (.int i) (.int j) st) Q↔Q (.bl (decide (i<=j))) st:=bz
def Ft:Wp (E8 (.int i) (.int j) st) Q↔Q (.bl (decide (j<i))) st:=bz
def Fu:Wp (NM (.int i) (.int j) st) Q↔Q (.bl (decide (j<=i))) st:=bz
def AZ:Wp (i7 (.int i) st) Q↔Q (.int (-i)) st:=bz
def CQ{c:Int->Int->Bool}{h:Int->Int->D}:Wp (w8 c h (.int i) (.int j) st) Q↔c i j=true/\Q (h i j) st:=by
 show Wp (if c i j=true then some (h i j,st)else none) Q↔_;rw[pq,bz,fR];split
 ·next h=>exact⟨λq=>⟨h,q⟩,λq=>q.2⟩
 ·next h=>exact⟨False.elim,λq=>h q.1⟩
def A0:Wp (jH (.int i) (.int j) st) Q↔((-18446744073709551616<i/\i<18446744073709551616)\/(-18446744073709551616<j/\j<18446744073709551616))/\Q (.int (i*j)) st:=by unfold jH;rw[CQ,ZbH,decide_eq_true_eq,decide_eq_true_eq]
def Yl:Wp (rz (.int i) (.int j) st) Q↔(0<j/\j<1073741824)/\Q (.int (i / j)) st:=by unfold rz;rw[CQ,decide_eq_true_eq]
def A1:Wp (oh (.int i) (.int j) st) Q↔0<j/\Q (.int (i % j)) st:=by unfold oh;rw[CQ,decide_eq_true_eq]
def A2:Wp (vg (.int i) (.int j) st) Q↔(0<=j/\j<=1000000/\i.natAbs<18446744073709551616)/\Q (.int (i ^ j.toNat)) st:=by unfold vg;rw[CQ,decide_eq_true_eq]
def A3{neg:Bool}:Wp (iG neg (.int i) (.int j) st) Q↔Q (.bl (if neg then !decide (i=j)else decide (i=j))) st:=by
 have e:decide (V.int i=V.int j)=decide (i=j):=by
  by_cases h:i=j;subst h;simp;simp[h]
 show Wp (if se (V.int i) (V.int j)=true then some (D.bl (if neg then !decide (V.int i=V.int j)else decide (V.int i=V.int j)),st)else none) Q↔_;rw[if_pos (show se _ _=true from rfl),bz,e]
def ux{neg:Bool}{x y:Str}:Wp (iG neg (.str x) (.str y) st) Q↔Q (.bl (if neg then !decide (x=y)else decide (x=y))) st:=by
 have e:decide (V.str x=V.str y)=decide (x=y):=by
  by_cases h:x=y;subst h;simp;simp[h]
 show Wp (if se (V.str x) (V.str y)=true then some (D.bl (if neg then !decide (V.str x=V.str y)else decide (V.str x=V.str y)),st)else none) Q↔_;rw[if_pos (show se _ _=true from rfl),bz,e]
def Sq:Wp (av (.tup ds) (.int i) st) Q↔∃d,gT ds i=some d/\Q d st:=by
 show Wp (match gT ds i with|some d=>some (d,st)|none=>none) Q↔_;cases gT ds i with
 |none=>rw[fR];exact⟨False.elim,λ⟨_,e,_⟩=>by cases e⟩
 |some d=>rw[bz];exact⟨λq=>⟨d,rfl,q⟩,λ⟨_,e,q⟩=>by cases e;exact q⟩
def A4:Wp (hZ (.ref k) (.int i) st) Q↔∃ds d,items st k=some ds/\gT ds i=some d/\Q d st:=by
 show Wp (match items st k with|some ds=>(match gT ds i with|some d=>some (d,st)|none=>none)|none=>none) Q↔_;cases items st k with
 |none=>rw[fR];exact⟨False.elim,λ⟨_,_,e,_⟩=>by cases e⟩
 |some ds =>
  show Wp (match gT ds i with|some d=>some (d,st)|none=>none) Q↔_;cases h:gT ds i with
  |none=>rw[fR];exact⟨False.elim,λ⟨_,_,e,e',_⟩=>by cases e;rw[h]at e';cases e'⟩
  |some d=>rw[bz];exact⟨λq=>⟨ds,d,rfl,h,q⟩,λ⟨_,_,e,e',q⟩=>by cases e;rw[h]at e';cases e';exact q⟩
def A5{lo hi:Option Int}:Wp (qD (.tup ds) lo hi st) Q↔Q (.tup (cutD ds lo hi)) st:=bz
def A6{lo hi:Option Int}:Wp (vh (.ref k) lo hi st) Q↔∃ds,items st k=some ds/\Q (.ref st.length) (st ++ [.lst (cutD ds lo hi)]):=by
 show Wp (match items st k with|some ds=>some (D.ref st.length,st ++ [O.lst (cutD ds lo hi)])|none=>none) Q↔_;cases items st k with
 |none=>rw[fR];exact⟨False.elim,λ⟨_,e,_⟩=>by cases e⟩
 |some ds=>rw[bz];exact⟨λq=>⟨ds,rfl,q⟩,λ⟨_,e,q⟩=>by cases e;exact q⟩
def Ym:Wp (mJ (.tup ds) (.tup es) st) Q↔lim (ds.length+es.length)=true/\Q (.tup (ds ++ es)) st:=by
 show Wp (if lim (ds.length+es.length)=true then some (D.tup (ds ++ es),st)else none) Q↔_;rw[pq,bz,fR];split
 ·next h=>exact⟨λq=>⟨h,q⟩,λq=>q.2⟩
 ·next h=>exact⟨False.elim,λq=>h q.1⟩
def A7{a b:Nat}:Wp (oi (.ref a) (.ref b) st) Q↔∃xs ys,own st a=some xs/\own st b=some ys/\lim (xs.length+ys.length)=true/\Q (.ref st.length) (st ++ [.lst (xs ++ ys)]):=by
 show Wp (match own st a,own st b with|some xs,some ys=>if lim (xs.length+ys.length)=true then some (D.ref st.length,st ++ [O.lst (xs ++ ys)])else none|_,_=>none) Q↔_;cases ha:own st a<;>cases hb:own st b
 ·simp only[fR];exact⟨False.elim,λ⟨_,_,e,_⟩=>by cases e⟩
 ·simp only[fR];exact⟨False.elim,λ⟨_,_,e,_⟩=>by cases e⟩
 ·simp only[fR];exact⟨False.elim,λ⟨_,_,_,e,_⟩=>by cases e⟩
 ·next xs ys =>
  show Wp (if lim (xs.length+ys.length)=true then some (D.ref st.length,st ++ [O.lst (xs ++ ys)])else none) Q↔_;rw[pq,bz,fR];split
  ·next h=>exact⟨λq=>⟨_,_,rfl,rfl,h,q⟩,λ⟨_,_,e,e',_,q⟩=>by cases e;cases e';exact q⟩
  ·next h=>exact⟨False.elim,λ⟨_,_,e,e',q,_⟩=>by cases e;cases e';exact h q⟩
def A8{a:D}:Wp (dM [a] st) Q↔∃ds,fA st a=some ds/\Q (.int ds.length) st:=by
 show Wp (match fA st a with|some ds=>some (D.int ds.length,st)|none=>none) Q↔_;cases fA st a with
 |none=>rw[fR];exact⟨False.elim,λ⟨_,e,_⟩=>by cases e⟩
 |some ds=>rw[bz];exact⟨λq=>⟨ds,rfl,q⟩,λ⟨_,e,q⟩=>by cases e;exact q⟩
def Yn{a:D}:Wp (pj [a] st) Q↔∃ds,fA st a=some ds/\Q (.ref st.length) (st ++ [.lst ds]):=by
 show Wp (match fA st a with|some ds=>some (D.ref st.length,st ++ [O.lst ds])|none=>none) Q↔_;cases fA st a with
 |none=>rw[fR];exact⟨False.elim,λ⟨_,e,_⟩=>by cases e⟩
 |some ds=>rw[bz];exact⟨λq=>⟨ds,rfl,q⟩,λ⟨_,e,q⟩=>by cases e;exact q⟩
def Yo{a:D}:Wp (bU [a] st) Q↔∃ds,fA st a=some ds/\Q (.tup ds) st:=by
 show Wp (match fA st a with|some ds=>some (D.tup ds,st)|none=>none) Q↔_;cases fA st a with
 |none=>rw[fR];exact⟨False.elim,λ⟨_,e,_⟩=>by cases e⟩
 |some ds=>rw[bz];exact⟨λq=>⟨ds,rfl,q⟩,λ⟨_,e,q⟩=>by cases e;exact q⟩
def Yp:Wp (tq [.int i,.int j] st) Q↔Q (.int (if j > i then j else i)) st:=bz
def Yq:Wp (E9 [.int i,.int j] st) Q↔Q (.int (if j<i then j else i)) st:=bz
def Yr:Wp (qc [.int i] st) Q↔Q (.int i) st:=bz
def Ys{b:Bool}:Wp (qc [.bl b] st) Q↔Q (.int (if b then 1 else 0)) st:=bz
def Yt:Wp (lV [.int j] st) Q↔Q (.ref st.length) (st ++ [.lu 0 j]):=bz
def Yu:Wp (h7 [.int i,.int j] st) Q↔Q (.ref st.length) (st ++ [.lu i j]):=bz
def Yv{y:D}:Wp (gg (.ref k) [y] st) Q↔∃xs,own st k=some xs/\lim xs.length=true/\Q .non (st.set k (.lst (xs ++ [y]))):=by
 show Wp (match own st k with|some xs=>if lim xs.length=true then some (D.non,st.set k (O.lst (xs ++ [y])))else none|none=>none) Q↔_;cases own st k with
 |none=>rw[fR];exact⟨False.elim,λ⟨_,e,_⟩=>by cases e⟩
 |some xs =>
  show Wp (if lim xs.length=true then some (D.non,st.set k (O.lst (xs ++ [y])))else none) Q↔_;rw[pq,bz,fR];split
  ·next h=>exact⟨λq=>⟨_,rfl,h,q⟩,λ⟨_,e,_,q⟩=>by cases e;exact q⟩
  ·next h=>exact⟨False.elim,λ⟨_,e,q,_⟩=>by cases e;exact h q⟩
end
abbrev Ws(m:Option (Fl×Store))(N B C:ai->Store->Prop)(R:D->Store->Prop):Prop:=Wp m λfl st=>match fl with
 |.nx δ=>N δ st
 |.bk δ=>B δ st
 |.ct δ=>C δ st
 |.rt d=>R d st
section
variable {st:Store}{δ:ai}{N B C:ai->Store->Prop}{R:D->Store->Prop}{f g:ai->Dm Fl}{e:ai->Dm D}
def vU{m:Option (Fl×Store)}{N':ai->Store->Prop}(h:Ws m N B C R)(hn:∀δ st,N δ st->N' δ st):Ws m N' B C R:=aR h λfl st q=>by
 cases fl with
 |nx δ=>exact hn δ st q
 |bk δ=>exact q
 |ct δ=>exact q
 |rt d=>exact q
def aO(h:Ws (f δ st) (λδ1 st1=>Ws (g δ1 st1) N B C R) B C R):Ws (aq f g δ st) N B C R:=by
 unfold Ws aq;rw[dO];refine aR h λfl st1 q=>?_;cases fl with
 |nx δ1=>exact q
 |bk δ1=>exact bz.mpr q
 |ct δ1=>exact bz.mpr q
 |rt d=>exact bz.mpr q
def jb(h:N δ st):Ws (bx δ st) N B C R:=bz.mpr h
def rX{t:D->ai->Dm ai}(h:Wp (e δ st) λd st1=>Wp (t d δ st1) N):Ws (ay e t δ st) N B C R:=by unfold Ws ay;rw[dO];refine aR h λd st1 q=>?_;rw[dO];exact aR q λδ1 st2 q=>bz.mpr q
def bt{i:Nat}(h:Wp (e δ st) λd st1=>N (δ.set i (some d)) st1):Ws (ay e (hName i) δ st) N B C R:=rX (aR h λd st1 q=>bz.mpr q)
def A9(h:Wp (e δ st) λ_ st1=>N δ st1):Ws (mK e δ st) N B C R:=by unfold Ws mK;rw[dO];exact aR h λd st1 q=>bz.mpr q
def cZ(h:Wp (e δ st) R):Ws (aQ e δ st) N B C R:=by unfold Ws aQ;rw[dO];exact aR h λd st1 q=>bz.mpr q
def gi{c:ai->Dm Bool}(h:Wp (c δ st) λb st1=>(b=true->Ws (f δ st1) N B C R)/\(b=false->Ws (g δ st1) N B C R)):Ws (iF c f g δ st) N B C R:=by
 unfold Ws;rw[yE];refine aR h λb st1 q=>?_;cases b with
 |true=>rw[if_pos rfl];exact q.1 rfl
 |false=>rw[if_neg Zal];exact q.2 rfl
def Fv{i j:Nat}{fa:ai->Dm (List D)}(h:Wp (fa δ st) λas st1=>∃a b,as=[a,b]/\N ((δ.set i (some a)).set j (some b)) st1):Ws (rD i j fa δ st) N B C R:=by unfold Ws rD;rw[dO];refine aR h λas st1 q=>?_;obtain⟨a,b,rfl,q⟩:=q;exact bz.mpr q
def mM{n:Nat}{b:ai->Dm Fl}{ds:List D}(h:Ws (b (ds.map some ++ List.replicate (n-ds.length) none) st) (λ_ st1=>R .non st1) (λ_ _=>False) (λ_ _=>False) R):Wp (eF n b ds st) R:=by
 unfold eF;rw[dO];refine aR h λfl st1 q=>?_;cases fl with
 |nx δ1=>exact bz.mpr q
 |bk δ1=>exact q.elim
 |ct δ1=>exact q.elim
 |rt d=>exact bz.mpr q
def Ba{c:ai->Dm Bool}{b:ai->Dm Fl}(W:Nat->ai->Store->Prop)(m:Nat)(hm:m<fuel)(h0:W m δ st)
  (step:∀m δ st,W m δ st->Wp (c δ st) λt st1=>(t=true->Ws (b δ st1) (λδ2 st2=>∃m',m' < m/\W m' δ2 st2) N (λδ2 st2=>∃m',m' < m/\W m' δ2 st2) R)/\(t=false->N δ st1)):Ws (j3 c b δ st) N B C R:=by
 have key:∀(k m:Nat) (δ:ai) (st:Store),m<k->W m δ st->Ws (iH c b k δ st) N B C R:=by
  intro k
  induction k with
  |zero=>intro m δ st h;exact absurd h (Za7 _)
  |succ k ih =>
   intro m δ st hk hw;unfold Ws iH;rw[dO];refine aR (step m δ st hw) λt st1 q=>?_;cases t with
   |false=>rw[if_neg Zal];exact bz.mpr (q.2 rfl)
   |true =>
    rw[if_pos rfl,dO];refine aR (q.1 rfl) λfl st2 q=>?_;cases fl with
    |nx δ2=>obtain⟨m',hm',w⟩:=q;exact ih m' δ2 st2 ⋯ w
    |ct δ2=>obtain⟨m',hm',w⟩:=q;exact ih m' δ2 st2 ⋯ w
    |bk δ2=>exact bz.mpr q
    |rt d=>exact bz.mpr q
 exact key fuel m δ st hm h0
def lA{fi:ai->Dm Src}{t:D->ai->Dm ai}{b:ai->Dm Fl}(ds:List D)(Pv:Nat->ai->Store->Prop)(hi:Wp (fi δ st) λS st1=>S=.fix ds/\Pv 0 δ st1)(hl:ds.length<100000)
  (step:∀i d δ st,ds[i]?=some d->Pv i δ st->Wp (t d δ st) λδ1 st1=>Ws (b δ1 st1) (Pv (i+1)) N (Pv (i+1)) R) (fin:∀δ st,Pv ds.length δ st->N δ st):Ws (bY fi t b δ st) N B C R:=by
 unfold Ws bY;rw[dO];refine aR hi λS mL q=>?_;obtain⟨rfl,h0⟩:=q;have key:∀(k i:Nat) (δ:ai) (st:Store),i<=ds.length->ds.length-i<k->Pv i δ st->Ws (gX (.fix ds) t b k i δ st) N B C R:=by
  intro k
  induction k with
  |zero=>intro i δ st _ h;exact absurd h (Za7 _)
  |succ k ih =>
   intro i δ st hi hk hw;unfold Ws gX;have e:Src.at (.fix ds) i st=some ds[i]?:=by show(if i<=ds.length then some ds[i]? else none)=_;rw[if_pos hi]
   rw[e];cases hd:ds[i]? with
   |none =>
    have:=ZaI.mp hd;have e:i=ds.length:=by lk
    exact bz.mpr (fin δ st (e ▸ hw))
   |some d =>
    have hlt:=(Zad.mp hd).1;show Wp (bnd _ _) _;rw[dO];refine aR (step i d δ st hd hw) λδ1 st1 q=>?_;rw[dO];refine aR q λfl st2 q=>?_;cases fl with
    |nx δ2=>exact ih (i+1) δ2 st2 ⋯ ⋯ q
    |ct δ2=>exact ih (i+1) δ2 st2 ⋯ ⋯ q
    |bk δ2=>exact bz.mpr q
    |rt d=>exact bz.mpr q
 exact key fuel 0 δ mL (ZaZ _) (ZbW ⋯ (show 100000<fuel by decide)) h0
def Sr{fi:ai->Dm Src}{t:D->ai->Dm ai}{b:ai->Dm Fl}(ds:List D)(r:Nat)(Pv:Nat->ai->Store->Prop)(hi:Wp (fi δ st) λS st1=>S=.live r/\Pv 0 δ st1)(hl:ds.length<100000)(hk:∀i δ st,Pv i δ st->items st r=some ds)
  (step:∀i d δ st,ds[i]?=some d->Pv i δ st->Wp (t d δ st) λδ1 st1=>Ws (b δ1 st1) (Pv (i+1)) N (Pv (i+1)) R) (fin:∀δ st,Pv ds.length δ st->N δ st):Ws (bY fi t b δ st) N B C R:=by
 unfold Ws bY;rw[dO];refine aR hi λS mL q=>?_;obtain⟨rfl,h0⟩:=q;have key:∀(k i:Nat) (δ:ai) (st:Store),i<=ds.length->ds.length-i<k->Pv i δ st->Ws (gX (.live r) t b k i δ st) N B C R:=by
  intro k
  induction k with
  |zero=>intro i δ st _ h;exact absurd h (Za7 _)
  |succ k ih =>
   intro i δ st hi hk' hw;unfold Ws gX;have e:Src.at (.live r) i st=some ds[i]?:=by show(items st r).map _=_;rw[hk i δ st hw];rfl
   rw[e];cases hd:ds[i]? with
   |none =>
    have:=ZaI.mp hd;have e:i=ds.length:=by lk
    exact bz.mpr (fin δ st (e ▸ hw))
   |some d =>
    have hlt:=(Zad.mp hd).1;show Wp (bnd _ _) _;rw[dO];refine aR (step i d δ st hd hw) λδ1 st1 q=>?_;rw[dO];refine aR q λfl st2 q=>?_;cases fl with
    |nx δ2=>exact ih (i+1) δ2 st2 ⋯ ⋯ q
    |ct δ2=>exact ih (i+1) δ2 st2 ⋯ ⋯ q
    |bk δ2=>exact bz.mpr q
    |rt d=>exact bz.mpr q
 exact key fuel 0 δ mL (ZaZ _) (ZbW ⋯ (show 100000<fuel by decide)) h0
def Ki{fi:ai->Dm Src}{n:Nat}{js:List Nat}{t:D->ai->Dm ai}{c:ai->Dm Bool}{f:ai->Dm D}{Q:D->Store->Prop}(ds:List D)(Pv:Nat->List D->ai->Store->Prop)
  (hi:Wp (fi δ st) λS st1=>(∀i ys δ st,i<=ds.length->Pv i ys δ st->S.at i st=some ds[i]?)/\Pv 0 [] (rE n js δ) st1) (hl:ds.length<100000) (hy:∀i ys δ st,Pv i ys δ st->ys.length<=i)
  (step:∀i d ys δ st,ds[i]?=some d->Pv i ys δ st->Wp (t d δ st) λδ1 st1=>Wp (c δ1 st1) λb st2=>(b=true->Wp (f δ1 st2) λy st3=>Pv (i+1) (ys ++ [y]) δ1 st3)/\(b=false->Pv (i+1) ys δ1 st2))
  (fin:∀ys δ st,Pv ds.length ys δ st->Q (.ref st.length) (st ++ [.lst ys])):Wp (dC fi n js t c f δ st) Q:=by
 unfold dC;rw[dO];refine aR hi λS mL q=>?_;obtain⟨hS,h0⟩:=q;have key:∀(k i:Nat) (ys:List D) (δ:ai) (st:Store),i<=ds.length->ds.length-i<k->Pv i ys δ st->Wp (j4 S t c f k i ys δ st) λzs rF=>∃δ9,Pv ds.length zs δ9 rF:=by
  intro k
  induction k with
  |zero=>intro i ys δ st _ h;exact absurd h (Za7 _)
  |succ k ih =>
   intro i ys δ st hi hk' hw;unfold j4;have hlim:lim ys.length=true:=Nat.ble_eq_true_of_le (by have:=hy i ys δ st hw;lk);rw[if_pos hlim,hS i ys δ st hi hw];cases hd:ds[i]? with
   |none =>
    have:=ZaI.mp hd;have e:i=ds.length:=by lk
    exact bz.mpr ⟨δ,e ▸ hw⟩
   |some d =>
    have hlt:=(Zad.mp hd).1;show Wp (bnd _ _) _;rw[dO];refine aR (step i d ys δ st hd hw) λδ1 st1 q=>?_;rw[dO];refine aR q λb st2 q=>?_;cases b with
    |true =>
     rw[if_pos rfl,dO];exact aR (q.1 rfl) λy st3 q=>ih (i+1) _ δ1 st3 ⋯ ⋯ q
    |false =>
     rw[if_neg Zal];exact ih (i+1) ys δ1 st2 ⋯ ⋯ (q.2 rfl)
 rw[dO];exact aR (key fuel 0 [] _ mL (ZaZ _) (ZbW ⋯ (show 100000<fuel by decide)) h0) λzs rF ⟨δ9,q⟩=>bz.mpr (fin zs δ9 rF q)
end
abbrev keyOf:D->Option Key
 |.int i=>some (.inl i)
 |.str x=>some (.inr x)
 |_=>none
abbrev kW(st:Store):D->Option (List (Key×D))
 |.ref i=>match st[i]? with
  |some (.dct kvs)=>some kvs
  |_=>none
 |_=>none
abbrev cK(kvs:List (Key×D))(k:Key):Option D:=(kvs.find? λkv=>decide (kv.1=k)).map (·.2)
abbrev putD(kvs:List (Key×D))(k:Key)(v:D):List (Key×D) :=
 if(kvs.any λkv=>decide (kv.1=k))=true then kvs.map (λkv=>if kv.1=k then(kv.1,v)else kv)else kvs ++ [(k,v)]
section
variable {K:Zfr}{I:List Addr}{H:Hp}{st:Store}
def wD{x:V}{y:D}{k:Key}(r:Rp K I H x y)(h:keyOf y=some k):x=kV k:=by cases r<;>first|(cases h;rfl)|cases h
def NY{x:V}{a:D}{kvs:List (Key×D)}(l:Rl K I H st)(r:Rp K I H x a)(h:kW st a=some kvs):∃p i ws,x=.ref p/\a=.ref i/\I[i]?=some p/\st[i]?=some (.dct kvs)/\H p=some (.dK ws)/\Rk K I H ws kvs:=by
 cases r<;>first|(cases h;done)|skip
 next hi =>
  simp only[kW]at h;split at h
  ·next kvs' hs =>
   cases h;obtain⟨ws,e,r⟩:=l.obj _ _ _ hi hs;exact⟨_,_,ws,rfl,rfl,hi,hs,e,r⟩
  ·cases h
def Rk.val{ws:List (Key×V)}{kvs:List (Key×D)}(r:Rk K I H ws kvs)(k:Key):(∀d,cK kvs k=some d->∃v,mT ws k=some v/\Rp K I H v d)/\(mT ws k).isSome=(cK kvs k).isSome:=by
 induction r with
 |nil=>exact⟨λd h=>(by cases h),rfl⟩
 |@cons p q ps qs h t ih =>
  obtain⟨h1,h2⟩:=h;unfold cK mT at ih ⊢;rw[Zbh,Zbh];by_cases e:p.1=k;rw[decide_eq_true e,decide_eq_true (h1 ▸ e)];exact⟨λd hd=>by cases hd;exact⟨_,rfl,h2⟩,rfl⟩;rw[decide_eq_false e,decide_eq_false (h1 ▸ e)];exact ih
def Rk.app{ws Ss:List (Key×V)}{kvs kvs':List (Key×D)}(r:Rk K I H ws kvs)(r':Rk K I H Ss kvs'):Rk K I H (ws ++ Ss) (kvs ++ kvs'):=by
 induction r with
 |nil=>exact r'
 |cons h _ ih=>exact .cons h ih
def Rk.put{ws:List (Key×V)}{kvs:List (Key×D)}{v:V}{d:D}(r:Rk K I H ws kvs)(k:Key)(rv:Rp K I H v d):Rk K I H (putK ws k v) (putD kvs k d):=by
 have hany:(ws.any λkv=>decide (kv.1=k))=(kvs.any λkv=>decide (kv.1=k)):=by
  induction r with
  |nil=>rfl
  |cons h _ ih=>rw[Zbf,Zbf,ih,h.1]
 have hmap:Rk K I H (ws.map λkv=>if kv.1=k then(kv.1,v)else kv) (kvs.map λkv=>if kv.1=k then(kv.1,d)else kv):=by
  clear hany
  induction r with
  |nil=>exact .nil
  |@cons p q ps qs h _ ih =>
   refine .cons ?_ ih;dsimp only;by_cases e:p.1=k;rw[if_pos e,if_pos (h.1 ▸ e)];exact⟨h.1,rv⟩;rw[if_neg e,if_neg (h.1 ▸ e)];exact h
 unfold putK putD;rw[hany];split;exact hmap;exact r.app (.cons ⟨rfl,rv⟩ .nil)
def Rk.length{ws:List (Key×V)}{kvs:List (Key×D)}(r:Rk K I H ws kvs):ws.length=kvs.length:=by
 induction r with
 |nil=>rfl
 |cons _ _ ih=>rw[Zaz,Zaz,ih]
end
section
variable {K:Zfr}
abbrev vm:ai->Dm D:=λ_ st=>some (.ref st.length,st ++ [.dct []])
def Sv:gU K uR vm:=by intro I G H δ st b st' Q l rs e q;cases e;exactλp hp=>q _ _ _ (Mn.new hp) (l.newD hp .nil) (.ref (newR l))
abbrev iJ(fd fy:ai->Dm D):ai->Dm D:=λδ st=>bnd (fd δ st) λx st1=>bnd (fy δ st1) λy st2=>match kW st2 x,keyOf y with
 |some kvs,some k=>match cK kvs k with
  |some v=>some (v,st2)
  |none=>none
 |_,_=>none
def xk{td ty:TE}{fd fy:ai->Dm D}(hd:gU K td fd)(hy:gU K ty fy):gU K (x8 td ty) (iJ fd fy):=by
 intro I G H δ st b st' Q l rs e q;obtain⟨x,st1,e1,e⟩:=dP e;obtain⟨y,st2,e2,e⟩:=dP e;refine hd I G H δ st x st1 _ l rs e1 λvx H1 I1 m1 l1 r1=>hy I1 G H1 δ st1 y st2 _ l1 (rs.mn m1) e2 λvy H2 I2 m2 l2 r2=>?_;split at e
 ·next kvs k hx hk =>
  split at e
  ·next v hv =>
   cases e;obtain⟨p,i,ws,rfl,rfl,hi,hs,hp,rk⟩:=NY l2 (r1.mn m2) hx;obtain⟨w,hw,rw'⟩:=(rk.val k).1 _ hv;refine⟨p,w,rfl,?_,q w H2 I2 (m1.trans m2) l2 rw'⟩;rw[<- hw,wD r2 hk];exact qq.k hp
  ·cases e
 ·cases e
abbrev vo(neg:Bool)(fy fd:ai->Dm D):ai->Dm D:=λδ st=>bnd (fy δ st) λy st1=>bnd (fd δ st1) λx st2=>match kW st2 x,keyOf y with
 |some kvs,some k=>some (.bl (if neg then !(cK kvs k).isSome else(cK kvs k).isSome),st2)
 |_,_=>none
def Sw{td ty:TE}{fd fy:ai->Dm D}(hy:gU K ty fy)(hd:gU K td fd):gU K (sR ty td) (vo true fy fd):=by
 intro I G H δ st b st' Q l rs e q;obtain⟨y,st1,e1,e⟩:=dP e;obtain⟨x,st2,e2,e⟩:=dP e;refine hy I G H δ st y st1 _ l rs e1 λvy H1 I1 m1 l1 r1=>hd I1 G H1 δ st1 x st2 _ l1 (rs.mn m1) e2 λvx H2 I2 m2 l2 r2=>?_;split at e
 ·next kvs k hx hk =>
  cases e;obtain⟨p,i,ws,rfl,rfl,hi,hs,hp,rk⟩:=NY l2 r2 hx;refine⟨p,mT ws k,rfl,by rw[wD r1 hk];exact qq.k hp,q _ H2 I2 (m1.trans m2) l2 ?_⟩;rw[(rk.val k).2];exact .bl _
 ·cases e
abbrev rG(fd fy fv:ai->Dm D):ai->Dm Fl:=λδ st=>bnd (fv δ st) λv st1=>bnd (fd δ st1) λx st2=>bnd (fy δ st2) λy st3=>match x,kW st3 x,keyOf y with
 |.ref i,some kvs,some k=>if lim kvs.length=true then some (.nx δ,st3.set i (.dct (putD kvs k v)))else none
 |_,_,_=>none
def Sx{td ty tv:TE}{fd fy fv:ai->Dm D}(hd:gU K td fd)(hy:gU K ty fy)(hv:gU K tv fv):qX K (x9 td ty tv) (rG fd fy fv):=by
 intro I G H δ st fl st' E l rs e q;obtain⟨v,st1,e1,e⟩:=dP e;obtain⟨x,st2,e2,e⟩:=dP e;obtain⟨y,st3,e3,e⟩:=dP e;refine hv I G H δ st v st1 _ l rs e1 λvv H1 I1 m1 l1 r1=>hd I1 G H1 δ st1 x st2 _ l1 (rs.mn m1) e2 λvx H2 I2 m2 l2 r2=>hy I2 G H2 δ st2 y st3 _ l2 (rs.mn (m1.trans m2)) e3 λvy H3 I3 m3 l3 r3=>?_;obtain⟨i,rfl⟩:∃i,x=.ref i:=by
  cases x<;>first|exact⟨_,rfl⟩|(simp at e;done)|cases e
 cases hx:kW st3 (.ref i)with
 |none=>rw[hx]at e;cases e
 |some kvs =>
 cases hk:keyOf y with
 |none=>rw[hx,hk]at e;cases e
 |some k =>
  rw[hx,hk]at e;simp only at e;split at e
  ·next hl =>
   cases e;obtain⟨p,j,ws,rfl,ej,hi,hs,hp,rk⟩:=NY l3 (r2.mn m3) hx;cases ej;obtain⟨l4,m4⟩:=l3.vd hi hs (rk.put k (r1.mn (m2.trans m3)));have mm:=((m1.trans m2).trans m3).trans m4;refine⟨p,_,rfl,?_,q G _ I3 mm l4 (rs.mn mm)⟩;rw[wD r3 hk];exact uQ.k hp (by rw[rk.length];exact NL hl)
  ·cases e
abbrev rH:ai->Dm (List (D×D)):=λ_ st=>some ([],st)
abbrev gY(fk fv:ai->Dm D)(fr:ai->Dm (List (D×D))):ai->Dm (List (D×D)):=λδ st=>bnd (fk δ st) λk st1=>bnd (fv δ st1) λv st2=>bnd (fr δ st2) λr st3=>some ((k,v) :: r,st3)
abbrev Sy(K:Zfr)(I:List Addr)(H:Hp):List (V×V)->List (D×D)->Prop:=Paired λp q=>Rp K I H p.1 q.1/\Rp K I H p.2 q.2
abbrev Kj(K:Zfr)(rh:List (TE×TE))(f:ai->Dm (List (D×D))):Prop:=So K (Sy K) (qr rh) f
def NZ:Kj K [] rH:=by intro I G H δ st b st' Q l rs e q;cases e;exact q [] H I .refl l .nil
def CS{tk tv:TE}{rh:List (TE×TE)}{fk fv:ai->Dm D}{fr:ai->Dm (List (D×D))}(hk:gU K tk fk)(hv:gU K tv fv)(hr:Kj K rh fr):Kj K ((tk,tv) :: rh) (gY fk fv fr):=by
 intro I G H δ st b st' Q l rs e q;obtain⟨k,st1,e1,e⟩:=dP e;obtain⟨v,st2,e2,e⟩:=dP e;obtain⟨r,st3,e3,e⟩:=dP e;cases e;exact hk I G H δ st k st1 _ l rs e1 λx H1 I1 m1 l1 r1=>hv I1 G H1 δ st1 v st2 _ l1 (rs.mn m1) e2 λy H2 I2 m2 l2 r2=>hr I2 G H2 δ st2 r _ _ l2 (rs.mn (m1.trans m2)) e3 λps H3 I3 m3 l3 r3 =>
  q _ H3 I3 ((m1.trans m2).trans m3) l3 (.cons ⟨r1.mn (m2.trans m3),r2.mn m3⟩ r3)
abbrev keysOf:List (D×D)->Option (List (Key×D))
 |[]=>some []
 |(k,v) :: r=>match keyOf k,keysOf r with
  |some k',some r'=>some ((k',v) :: r')
  |_,_=>none
def Yw{I:List Addr}{H:Hp}{ps:List (V×V)}{qs:List (D×D)}(r:Sy K I H ps qs):∀{kvs:List (Key×D)},keysOf qs=some kvs->∃ws:List (Key×V),ps=ws.map (λkv=>(kV kv.1,kv.2))/\Rk K I H ws kvs:=by
 induction r with
 |nil=>intro kvs h;cases h;exact⟨[],rfl,.nil⟩
 |@cons p q ps qs h _ ih =>
  intro kvs hk;obtain⟨q1,q2⟩:=q;obtain⟨p1,p2⟩:=p;simp only[keysOf]at hk;split at hk
  ·next k' r' h1 h2 =>
   cases hk;obtain⟨ws,rfl,rw'⟩:=ih h2;refine⟨(k',p2) :: ws,?_,.cons ⟨rfl,h.2⟩ rw'⟩;rw[Zav,<- wD h.1 h1]
  ·cases hk
abbrev pz(kvs more:List (Key×D)):List (Key×D):=more.foldl (λacc kv=>putD acc kv.1 kv.2) kvs
def Rk.merge{I:List Addr}{H:Hp}{more:List (Key×V)}{more':List (Key×D)}(r:Rk K I H more more'):∀{ws:List (Key×V)} {kvs:List (Key×D)},Rk K I H ws kvs->Rk K I H (n5 ws more) (pz kvs more'):=by
 induction r with
 |nil=>intro ws kvs h;exact h
 |@cons p q _ _ h _ ih =>
  intro ws kvs r0;have:=r0.put p.1 h.2;rw[show putD kvs p.1 q.2=putD kvs q.1 q.2 by rw[h.1]]at this;exact ih this
abbrev qd(fp:ai->Dm (List (D×D))):ai->Dm D:=λδ st=>bnd (fp δ (st ++ [.dct []])) λps st2=>match st2[st.length]?,keysOf ps with
 |some (.dct []),some kvs=>if kvs.length<=15 then some (.ref st.length,st2.set st.length (.dct (pz [] kvs)))else none
 |_,_=>none
def N0{rh:List (TE×TE)}{fp:ai->Dm (List (D×D))}(hp:Kj K rh fp):gU K (ya rh) (qd fp):=by
 intro I G H δ st b st' Q l rs e q;obtain⟨ps,st2,e1,e⟩:=dP e;intro p Sz;have m0:Mn K I H (I ++ [p]) (upd H p (.dK [])):=Mn.new Sz;have l0:Rl K (I ++ [p]) (upd H p (.dK [])) (st ++ [.dct []]):=l.newD Sz .nil;refine hp (I ++ [p]) G _ δ _ ps st2 _ l0 (rs.mn m0) e1 λvs H2 I2 m2 l2 r2=>?_;split at e
 ·next kvs hs hk =>
  split at e
  ·next hl =>
   cases e;have hi:=m2.r _ _ (newR (p:=p) l);obtain⟨ws,e3,r3⟩:=l2.obj _ _ _ hi hs;cases r3;obtain⟨kws,rfl,rk⟩:=Yw r2 hk;obtain⟨l4,m4⟩:=l2.vd hi hs (rk.merge .nil);exact⟨e3,kws,rfl,by rw[rk.length];exact hl,q _ _ I2 ((m0.trans m2).trans m4) l4 (.ref (m4.r _ _ hi))⟩
  ·cases e
 ·cases e
end
section
variable {st:Store}{δ:ai}{Q:D->Store->Prop}
def Yx:Wp (vm δ st) Q↔Q (.ref st.length) (st ++ [.dct []]):=bz
def Yy{fd fy:ai->Dm D}:Wp (iJ fd fy δ st) Q↔Wp (fd δ st) λx st1=>Wp (fy δ st1) λy st2=>∃kvs k v,kW st2 x=some kvs/\keyOf y=some k/\cK kvs k=some v/\Q v st2:=by
 unfold iJ;rw[dO];simp only[dO];constructor<;>refineλh=>aR h λx s h=>aR h λy s2 h=>?_
 ·split at h
  ·next kvs k h1 h2 =>
   split at h
   ·next v h3=>exact⟨kvs,k,v,by assumption,by assumption,h3,bz.mp h⟩
   ·exact(fR.mp h).elim
  ·exact(fR.mp h).elim
 ·obtain⟨kvs,k,v,h1,h2,h3,h⟩:=h
  rw[h1,h2];simp only[h3];exact bz.mpr h
def Bb{neg:Bool}{fd fy:ai->Dm D}:Wp (vo neg fy fd δ st) Q↔Wp (fy δ st) λy st1=>Wp (fd δ st1) λx st2=>∃kvs k,kW st2 x=some kvs/\keyOf y=some k/\Q (.bl (if neg then !(cK kvs k).isSome else(cK kvs k).isSome)) st2:=by
 unfold vo;rw[dO];simp only[dO];constructor<;>refineλh=>aR h λx s h=>aR h λy s2 h=>?_
 ·split at h
  ·next kvs k h1 h2=>exact⟨kvs,k,by assumption,by assumption,bz.mp h⟩
  ·exact(fR.mp h).elim
 ·obtain⟨kvs,k,h1,h2,h⟩:=h
  rw[h1,h2];exact bz.mpr h
def Yz{R:List (D×D)->Store->Prop}:Wp (rH δ st) R↔R [] st:=bz
def YA{fk fv:ai->Dm D}{fr:ai->Dm (List (D×D))}{R:List (D×D)->Store->Prop}:Wp (gY fk fv fr δ st) R↔Wp (fk δ st) λk st1=>Wp (fv δ st1) λv st2=>Wp (fr δ st2) λr st3=>R ((k,v) :: r) st3:=by unfold gY;rw[dO];simp only[dO,bz]
def YB{fp:ai->Dm (List (D×D))}:Wp (qd fp δ st) Q↔Wp (fp δ (st ++ [.dct []])) λps st2=>st2[st.length]?=some (.dct [])/\∃kvs,keysOf ps=some kvs/\kvs.length<=15/\Q (.ref st.length) (st2.set st.length (.dct (pz [] kvs))):=by
 unfold qd;rw[dO];constructor<;>refineλh=>aR h λps s h=>?_
 ·split at h
  ·next kvs h1 h2 =>
   rw[pq,bz,fR]at h;split at h
   ·next hl=>exact⟨by assumption,kvs,by assumption,hl,h⟩
   ·exact h.elim
  ·exact(fR.mp h).elim
 ·obtain⟨h1,kvs,h2,h3,h⟩:=h
  rw[h1,h2];simp only[if_pos h3];exact bz.mpr h
def SA{fd fy fv:ai->Dm D}{N B C:ai->Store->Prop}{R:D->Store->Prop}(h:Wp (fv δ st) λv st1=>Wp (fd δ st1) λx st2=>Wp (fy δ st2) λy st3=>∃i kvs k,x=.ref i/\kW st3 x=some kvs/\keyOf y=some k/\lim kvs.length=true/\N δ (st3.set i (.dct (putD kvs k v)))):Ws (rG fd fy fv δ st) N B C R:=by unfold Ws rG;rw[dO];refine aR h λv st1 h=>?_;rw[dO];refine aR h λx st2 h=>?_;rw[dO];refine aR h λy st3 h=>?_;obtain⟨i,kvs,k,rfl,h1,h2,h3,h⟩:=h;rw[h1,h2];simp only[h3];exact bz.mpr h
end
structure Ex(c:List Nat)(st st':Store):Prop where
 len:st.length<=st'.length
 keep:∀(i:Nat) (o:O),st[i]?=some o->i ∉ c->st'[i]?=some o
section
variable {c c':List Nat}{st st1 st2:Store}{i:Nat}{o:O}{ds:List D}
def Ex.refl:Ex c st st:=⟨Zab _,λ_ _ h _=>h⟩
def Ex.trans(a:Ex c st st1)(b:Ex c st1 st2):Ex c st st2:=⟨Zaw a.len b.len,λi o h n=>b.keep i o (a.keep i o h n) n⟩
def Ex.mono(a:Ex c st st1)(h:∀x∈c,x∈c'):Ex c' st st1:=⟨a.len,λi o e n=>a.keep i o e λz=>n (h i z)⟩
def Ex.any(a:Ex [] st st1):Ex c st st1:=a.mono λx h=>nomatch h
def eY{J:Type}{l:List J}{i:Nat}{o:J}(h:l[i]?=some o):i<l.length:=(Zad.mp h).1
def nH{l m:List O}(h:l[i]?=some o):(l ++ m)[i]?=some o:=by rw[ZaH (eY h)];exact h
def jW{l:List O}:(l ++ [o])[l.length]?=some o:=by rw[ZaB (Zab _),Zbs];rfl
def Ex.app(a:Ex c st st1)(m:List O):Ex c st (st1 ++ m):=⟨by rw[Zak];exact Zaw a.len (ZbO _ _),λi o h n=>nH (a.keep i o h n)⟩
def Ex.cE(m:List O):Ex c st (st ++ m):=Ex.refl.app m
def Ex.put(a:Ex c st st1)(h:i∈c):Ex c st (st1.set i o):=⟨by rw[ZaU];exact a.len,λj u e n=>by rw[Zao (λz=>n (by rw[<- z];exact h))];exact a.keep j u e n⟩
def Ex.loc(a:Ex c st st1)(h:st.length<=i):Ex c st (st1.set i o):=⟨by rw[ZaU];exact a.len,λj u e n=>by rw[Zao (by have:=eY e;lk)];exact a.keep j u e n⟩
def fS(h:st[i]?=some (.lst ds)):items st i=some ds:=by unfold items;rw[h]
def SD(h:st[i]?=some (.rT ds)):items st i=some ds:=by unfold items;rw[h]
def mX(h:st[i]?=some (.lst ds)):own st i=some ds:=by unfold own;rw[h]
def vV:items (st ++ [.lst ds]) st.length=some ds:=fS jW
def Kk:own (st ++ [.lst ds]) st.length=some ds:=mX jW
def YC{o':O}:items (st ++ [.lst ds] ++ [o']) st.length=some ds:=fS (nH jW)
def YD{o':O}:own (st ++ [.lst ds] ++ [o']) st.length=some ds:=mX (nH jW)
def YE{o' o2:O}:items (st ++ [.lst ds] ++ [o'] ++ [o2]) st.length=some ds:=fS (nH (nH jW))
def YF{o' o2:O}:own (st ++ [.lst ds] ++ [o'] ++ [o2]) st.length=some ds:=mX (nH (nH jW))
def YG{lo hi:Int}:kU (st ++ [.lu lo hi]) (.ref st.length)=some (lo,hi):=by simp only[kU,jW]
def YH:fA st (.tup ds)=some ds:=rfl
def YI:fA st (.ref i)=items st i:=rfl
def yF(h:(items st i).isSome=true):yz "list" st (.ref i)=true:=by simp only[yz,h];rfl
def SE:yz "tuple" st (.tup ds)=true:=by simp only[yz];rfl
def i9{n:Nat}(h:n<=100000):lim n=true:=Nat.ble_eq_true_of_le h
def SF{l:List O}{u:O}:(l ++ [o]).set l.length u=l ++ [u]:=by rw[List.set_append_right _ _ (Zab _),Zbs];rfl
end
section
variable {st:Store}{Q:D->Store->Prop}{i j:Int}{k:Nat}{ds es:List D}
def YJ{a:D}:Wp (gW [a] st) Q↔∃p,kU st a=some p/\t9 p.1 p.2=true/\Q (.ref st.length) (st ++ [.lst (aF p.1 (p.2-p.1).toNat)]):=by
 show Wp (match kU st a with|some (lo,hi)=>if t9 lo hi=true then some (D.ref st.length,st ++ [O.lst (aF lo (hi-lo).toNat)])else none|none=>none) Q↔_;cases kU st a with
 |none=>rw[fR];exact⟨False.elim,λ⟨_,e,_⟩=>by cases e⟩
 |some p =>
  obtain⟨lo,hi⟩:=p;show Wp (if t9 lo hi=true then some (D.ref st.length,st ++ [O.lst (aF lo (hi-lo).toNat)])else none) Q↔_;rw[pq,bz,fR];split
  ·next h=>exact⟨λq=>⟨_,rfl,h,q⟩,λ⟨_,e,_,q⟩=>by cases e;exact q⟩
  ·next h=>exact⟨False.elim,λ⟨_,e,q,_⟩=>by cases e;exact h q⟩
def YK{a:D}:Wp (xf [a] st) Q↔∃p,kU st a=some p/\t9 p.1 p.2=true/\Q (.tup (aF p.1 (p.2-p.1).toNat)) st:=by
 show Wp (match kU st a with|some (lo,hi)=>if t9 lo hi=true then some (D.tup (aF lo (hi-lo).toNat),st)else none|none=>none) Q↔_;cases kU st a with
 |none=>rw[fR];exact⟨False.elim,λ⟨_,e,_⟩=>by cases e⟩
 |some p =>
  obtain⟨lo,hi⟩:=p;show Wp (if t9 lo hi=true then some (D.tup (aF lo (hi-lo).toNat),st)else none) Q↔_;rw[pq,bz,fR];split
  ·next h=>exact⟨λq=>⟨_,rfl,h,q⟩,λ⟨_,e,_,q⟩=>by cases e;exact q⟩
  ·next h=>exact⟨False.elim,λ⟨_,e,q,_⟩=>by cases e;exact h q⟩
def Bc:Wp (oH (.ref k) (.int j) st) Q↔∃xs,own st k=some xs/\(-9223372036854775808<=j/\j<9223372036854775808)/\lim (xs.length*j.toNat)=true/\Q (.ref st.length) (st ++ [.lst (List.replicate j.toNat xs).flatten]):=by
 show Wp (match own st k with|some a=>if(decide (-9223372036854775808<=j/\j<9223372036854775808) && lim (a.length*j.toNat))=true then some (D.ref st.length,st ++ [O.lst (List.replicate j.toNat a).flatten])else none|_=>none) Q↔_;cases own st k with
 |none=>simp only[fR];exact⟨False.elim,λ⟨_,e,_⟩=>by cases e⟩
 |some xs =>
  show Wp (if(decide (-9223372036854775808<=j/\j<9223372036854775808) && lim (xs.length*j.toNat))=true then some (D.ref st.length,st ++ [O.lst (List.replicate j.toNat xs).flatten])else none) Q↔_;rw[pq,bz,fR];split
  ·next h=>rw[ZaJ,decide_eq_true_eq]at h;exact⟨λq=>⟨_,rfl,h.1,h.2,q⟩,λ⟨_,e,_,_,q⟩=>by cases e;exact q⟩
  ·next h=>rw[ZaJ,decide_eq_true_eq]at h;exact⟨False.elim,λ⟨_,e,q,q',_⟩=>by cases e;exact h ⟨q,q'⟩⟩
def YL:Wp (oj (.ref k) [.int i] st) Q↔∃xs j y,own st k=some xs/\(-9223372036854775808<=i/\i<9223372036854775808)/\seqIndex? i xs.length=some j/\xs[j]?=some y/\Q y (st.set k (.lst (xs.eraseIdx j))):=by
 constructor
 ·rintro⟨a,s,e,q⟩
  simp only[oj]at e;split at e
  ·next xs hx =>
   split at e
   ·next hk =>
    split at e
    ·next j hj =>
     split at e
     ·next y hy=>cases e;exact⟨xs,j,_,hx,of_decide_eq_true hk,hj,hy,q⟩
     ·cases e
    ·cases e
   ·cases e
  ·cases e
 ·rintro⟨xs,j,y,hx,hk,hj,hy,q⟩
  refine⟨_,_,?_,q⟩;simp only[oj,hx,hj,hy,decide_eq_true hk];rfl
def YM{b:Nat}:Wp (qE (.ref k) [.ref b] st) Q↔∃xs ys,own st k=some xs/\own st b=some ys/\lim (xs.length+ys.length)=true/\Q .non (st.set k (.lst (xs ++ ys))):=by
 constructor
 ·rintro⟨a,s,e,q⟩
  simp only[qE]at e;split at e
  ·next xs ys hx hy =>
   split at e
   ·next hl=>cases e;exact⟨xs,ys,hx,hy,hl,q⟩
   ·cases e
  ·cases e
 ·rintro⟨xs,ys,hx,hy,hl,q⟩
  refine⟨_,_,?_,q⟩;simp only[qE,hx,hy,hl];rfl
def SG{v:Int}:Wp (mW (.tup ds) [.int v] st) Q↔∃ns j,fw iV ds=some ns/\ns.findIdx? (λi=>decide (i=v))=some j/\Q (.int (j:Int)) st:=by
 constructor
 ·rintro⟨a,s,e,q⟩
  simp only[mW]at e;split at e
  ·next ns hn =>
   split at e
   ·next j hj=>cases e;exact⟨ns,j,hn,hj,q⟩
   ·cases e
  ·cases e
 ·rintro⟨ns,j,hn,hj,q⟩
  refine⟨_,_,?_,q⟩;simp only[mW,hn,hj]
def Bd:Wp (uc [.ref k] st) Q↔∃ds bs,items st k=some ds/\fw bV ds=some bs/\Q (.bl (bs.all id)) st:=by
 constructor
 ·rintro⟨a,s,e,q⟩
  simp only[uc]at e;split at e
  ·next bs hb =>
   cases e;obtain⟨ds,h1,h2⟩:=Zbu.mp hb;exact⟨ds,bs,h1,h2,q⟩
  ·cases e
 ·rintro⟨ds,bs,h1,h2,q⟩
  refine⟨_,_,?_,q⟩;simp only[uc,h1,Zbk,h2]
def Fw{neg:Bool}{a c:D}:Wp (vi neg a c st) Q↔∃x ds vs,sV a=some x/\fA st c=some ds/\fw sV ds=some vs/\Q (.bl (if neg then !xZ x vs else xZ x vs)) st:=by
 constructor
 ·rintro⟨b,s,e,q⟩
  simp only[vi]at e;split at e
  ·next x vs h1 h2 =>
   cases e;obtain⟨ds,h3,h4⟩:=Zbu.mp h2;exact⟨x,ds,vs,h1,h3,h4,q⟩
  ·cases e
 ·rintro⟨x,ds,vs,h1,h2,h3,q⟩
  refine⟨_,_,?_,q⟩;simp only[vi,h1,h2,Zbk,h3]
def SH(ns:List Int):fw sV (ns.map D.int)=some (ns.map V.int):=CM (f:=sV) (g:=D.int) (k:=V.int) (λ_=>rfl) ns
def SI(ns:List Int):fw iV (ns.map D.int)=some ns:=by have:=CM (f:=iV) (g:=D.int) (k:=id) (λ_=>rfl) ns;rw[this,List.map_id]
def SJ{neg:Bool}{a b:D}:Wp (oG neg a b st) Q↔∃p q,ph st 20 a=some p/\ph st 20 b=some q/\(PyData.canLay0 p=true/\PyData.canLay0 q=true/\min p.depth q.depth<=60)/\Q (.bl (if neg then !PyData.eqv p q else PyData.eqv p q)) st:=by
 constructor
 ·rintro⟨c,s,e,q⟩
  simp only[oG]at e;split at e
  ·next x y h1 h2 =>
   split at e
   ·next hs =>
    cases e;rw[ZaJ,ZaJ,decide_eq_true_eq]at hs;exact⟨x,y,h1,h2,⟨hs.1.1,hs.1.2,hs.2⟩,q⟩
   ·cases e
  ·cases e
 ·rintro⟨x,y,h1,h2,⟨h3,h4,h5⟩,q⟩
  refine⟨_,_,?_,q⟩;simp only[oG,h1,h2,h3,h4,decide_eq_true h5];rfl
def SK{z:Str}:Wp (t6 (.str z) (.int i) st) Q↔∃c,lim z.length=true/\gT z.cps.toList i=some c/\Q (.str ⟨#[c]⟩) st:=by
 constructor
 ·rintro⟨c,s,e,q⟩
  simp only[t6]at e;split at e
  ·next h1 =>
   split at e
   ·next c hc=>cases e;exact⟨c,h1,hc,q⟩
   ·cases e
  ·cases e
 ·rintro⟨c,h1,h2,q⟩
  refine⟨_,_,?_,q⟩;simp only[t6,h1,h2];rfl
def YN{δ:ai}{fa:ai->Dm (List D)}{R:Src->Store->Prop}:Wp (bR fa δ st) R↔Wp (fa δ st) λas st1=>∃j,as=[.int j]/\(-4611686018427387904<=j/\j<4611686018427387904)/\R (.fix (aF 0 j.toNat)) st1:=by
 unfold bR;rw[dO];constructor<;>refineλh=>aR h λas s h=>?_
 ·split at h
  ·next j =>
   rw[pq,bz,fR]at h;split at h
   ·next hk=>exact⟨j,rfl,of_decide_eq_true hk,h⟩
   ·exact h.elim
  ·exact(fR.mp h).elim
 ·obtain⟨j,rfl,h1,h⟩:=h
  simp only[decide_eq_true h1,if_true];exact bz.mpr h
def YO{δ:ai}{fa:ai->Dm (List D)}{R:Src->Store->Prop}:Wp (vk fa δ st) R↔Wp (fa δ st) λas st1=>∃i j,as=[.int i,.int j]/\((-4611686018427387904<=i/\i<4611686018427387904)/\-4611686018427387904<=j/\j<4611686018427387904)/\R (.fix (aF i (j-i).toNat)) st1:=by
 unfold vk;rw[dO];constructor<;>refineλh=>aR h λas s h=>?_
 ·split at h
  ·next i j =>
   rw[pq,bz,fR]at h;split at h
   ·next hk=>exact⟨i,j,rfl,of_decide_eq_true hk,h⟩
   ·exact h.elim
  ·exact(fR.mp h).elim
 ·obtain⟨i,j,rfl,h1,h⟩:=h
  simp only[decide_eq_true h1,if_true];exact bz.mpr h
def YQ{δ:ai}{fa:ai->Dm D}{R:Src->Store->Prop}:Wp (hJ fa δ st) R↔Wp (fa δ st) λa st1=>∃ds,a=.tup ds/\R (.fix ds) st1:=by unfold hJ;rw[dO];constructor<;>refineλh=>aR h λa s h=>?_;cases a<;>simp only[bz,fR]at h;exact⟨_,rfl,h⟩;obtain⟨j,rfl,h⟩:=h;exact bz.mpr h
def YR{δ:ai}{fa:ai->Dm D}{R:Src->Store->Prop}:Wp (oo fa δ st) R↔Wp (fa δ st) λa st1=>∃i ds,a=.ref i/\items st1 i=some ds/\R (.live i) st1:=by
 unfold oo;rw[dO];constructor<;>refineλh=>aR h λa s h=>?_
 ·split at h
  ·split at h
   ·next i ds hd=>exact⟨_,ds,rfl,hd,bz.mp h⟩
   ·exact(fR.mp h).elim
  ·exact(fR.mp h).elim
 ·obtain⟨i,ds,rfl,hd,h⟩:=h
  simp only[hd];exact bz.mpr h
def YS{δ:ai}{fa:ai->Dm (List D)}{R:Src->Store->Prop}:Wp (oq fa δ st) R↔Wp (fa δ st) λas st1=>∃ds,as=[.tup ds]/\R (.fix (iI ds)) st1:=by unfold oq;rw[dO];constructor<;>refineλh=>aR h λas s h=>?_;split at h;exact⟨_,rfl,bz.mp h⟩;exact(fR.mp h).elim;obtain⟨ds,rfl,h⟩:=h;exact bz.mpr h
def Fx{i:Nat}{d:D}{δ:ai}{R:ai->Store->Prop}:Wp (hName i d δ st) R↔R (δ.set i (some d)) st:=bz
def SM{δ:ai}{R:ai->Store->Prop}:Wp (pk [] δ st) R↔R δ st:=bz
def N1{f:D->ai->Dm ai}{g:List D->ai->Dm ai}{d:D}{ds:List D}{δ:ai}{R:ai->Store->Prop}:Wp (eW f g (d :: ds) δ st) R↔Wp (f d δ st) λδ1 st1=>Wp (g ds δ1 st1) R:=dO
def SN{n:Nat}{f:List D->ai->Dm ai}{ds:List D}{δ:ai}{R:ai->Store->Prop}:Wp (om n f (.tup ds) δ st) R↔ds.length=n/\Wp (f ds δ st) R:=by
 show Wp (if ds.length=n then f ds δ st else none) R↔_;rw[pq,fR];split
 ·next h=>exact⟨λq=>⟨h,q⟩,λq=>q.2⟩
 ·next h=>exact⟨False.elim,λq=>h q.1⟩
def YT{fo fi:ai->Dm D}{d:D}{δ:ai}{R:ai->Store->Prop}:Wp (hSub fo fi d δ st) R↔Wp (fo δ st) λo st1=>Wp (fi δ st1) λi st2=>∃r k xs j,o=.ref r/\i=.int k/\own st2 r=some xs/\lS xs.length k=some j/\R δ (st2.set r (.lst (xs.set j d))):=by
 unfold hSub;rw[dO];simp only[dO];constructor<;>refineλh=>aR h λo s h=>aR h λi s2 h=>?_
 ·split at h
  ·split at h
   ·next xs hx =>
    split at h
    ·next j hj=>exact⟨_,_,xs,j,rfl,rfl,hx,hj,bz.mp h⟩
    ·exact(fR.mp h).elim
   ·exact(fR.mp h).elim
  ·exact(fR.mp h).elim
 ·obtain⟨r,k,xs,j,rfl,rfl,hx,hj,h⟩:=h
  simp only[hx,hj];exact bz.mpr h
def YU{a:D}{c:String}:Wp (qF [a,.ty c] st) Q↔Fb st a=some c/\Q (.bl true) st:=by
 constructor
 ·rintro⟨b,s,e,q⟩
  simp only[qF]at e;split at e
  ·next T hT =>
   split at e
   ·next h=>cases e;subst h;exact⟨hT,q⟩
   ·cases e
  ·cases e
 ·rintro⟨h,q⟩
  refine⟨_,_,?_,q⟩;simp only[qF,h,if_true]
def Kl{δ:ai}{R:Bool->Store->Prop}:Wp (dQ δ st) R↔R true st:=bz
end
def Fy{J:Type}(x:J)(xs:List J):gT (x :: xs) 0=some x:=by unfold gT lS;rw[if_pos ∅,if_pos (by simp only[Zaz];lk)];rfl
def Fz{J:Type}(x y:J)(xs:List J):gT (x :: y :: xs) 1=some y:=by unfold gT lS;rw[if_pos ∅,if_pos (by simp only[Zaz];lk)];rfl
def Be{J:Type}{a:J}{l:List J}:(a :: l)[0]?=some a:=List.getElem?_cons_zero
def Bf{J:Type}{a:J}{l:List J}{i:Nat}:(a :: l)[i+1]?=l[i]?:=List.getElem?_cons_succ
def Bg{J:Type}{a b:J}{l:List J}:(a :: l).set 0 b=b :: l:=List.set_cons_zero
def Bh{J:Type}{a b:J}{l:List J}{i:Nat}:(a :: l).set (i+1) b=a :: l.set i b:=List.set_cons_succ
def Bj{J:Type}(a b:J):(some a=some b)=(a=b):=Option.some.injEq a b
def FA{J:Type}{p:J->Prop}{a':J}:(∃a,a'=a/\p a)↔p a':=exists_eq_left'
def N2{J:Type}{p:J->Prop}{a':J}:(∃a,a=a'/\p a)↔p a':=exists_eq_left
def FC{J:Type}{p:J->Prop}{b:Prop}:(∃x,b/\p x)↔b/\∃x,p x:=exists_and_left
def FD(a b:Int):(D.int a=D.int b)=(a=b):=D.int.injEq a b
def N3(a b:Bool):(D.bl a=D.bl b)=(a=b):=D.bl.injEq a b
def FE(a b:Str):(D.str a=D.str b)=(a=b):=D.str.injEq a b
def FF(a b:List D):(D.tup a=D.tup b)=(a=b):=D.tup.injEq a b
def FG(a b:Nat):(D.ref a=D.ref b)=(a=b):=D.ref.injEq a b
def Bk{J:Type}(a:J)(l:List J)(b:J)(m:List J):(a :: l=b :: m)=(a=b/\l=m):=List.cons.injEq a l b m
def Bl{J M:Type}(a:J)(b:M)(c:J)(d:M):((a,b)=(c,d))=(a=c/\b=d):=Zb6 a b c d
def Bm(p:Prop):(p/\True)=p:=and_true p
def Bn(p:Prop):(True/\p)=p:=true_and p
def Bo:(!true)=false:=rfl
def Bp:(!false)=true:=rfl
def N4:(false=true)=False:=by simp
def FH{J:Type}{h:Decidable False}(t e:J):@ite J False h t e=e:=if_false t e
def FI{J:Type}{h:Decidable True}(t e:J):@ite J True h t e=t:=if_true t e
abbrev aW:=And.intro @AL (And.intro @NX (And.intro @Fi (And.intro @Fj (And.intro @Fm (And.intro @AO (And.intro @Ye (And.intro @AQ (And.intro @AR (And.intro @Yf (And.intro @AU (And.intro @AV (And.intro @Fn (And.intro @yE (And.intro @Yg (And.intro @AW (And.intro @Yh (And.intro @Yj (And.intro @Yk (And.intro @Fo (And.intro @Fp (And.intro @AX (And.intro @AY (And.intro @Fq (And.intro @Fs (And.intro @Ft (And.intro @Fu (And.intro @AZ (And.intro @A0 (And.intro @Yl (And.intro @A1 (And.intro @A2 (And.intro @A3 (And.intro @ux (And.intro @Sq (And.intro @A4 (And.intro @A5 (And.intro @A6 (And.intro @Ym (And.intro @A7 (And.intro @A8 (And.intro @Yn (And.intro @Yo (And.intro @Yp (And.intro @Yq (And.intro @Yr (And.intro @Ys (And.intro @Yt (And.intro @Yu (And.intro @Yv (And.intro @Yx (And.intro @Yy (And.intro @Bb (And.intro @Yz (And.intro @YA (And.intro @YB (And.intro @vV (And.intro @Kk (And.intro @YC (And.intro @YD (And.intro @YE (And.intro @YF (And.intro @YG (And.intro @YH (And.intro @YI (And.intro @YJ (And.intro @YK (And.intro @Bc (And.intro @YL (And.intro @YM (And.intro @SG (And.intro @Bd (And.intro @SK (And.intro @YN (And.intro @YO (And.intro @YQ (And.intro @YR (And.intro @YS (And.intro @Fx (And.intro @SM (And.intro @N1 (And.intro @SN (And.intro @YT (And.intro @YU (And.intro @Kl (And.intro @Fy (And.intro @Fz (And.intro @Be (And.intro @Bf (And.intro @Bg (And.intro @Bh (And.intro @Bj (And.intro @FA (And.intro @N2 (And.intro @FC (And.intro @FD (And.intro @N3 (And.intro @FE (And.intro @FF (And.intro @FG (And.intro @Bk (And.intro @Bl (And.intro @Bm (And.intro @Bn (And.intro @Bo (And.intro @Bp (And.intro @N4 (And.intro @FH (@FI))))))))))))))))))))))))))))))))))))))))))))))))))))))))))))))))))))))))))))))))))))))))))))))))))))))))))))
def bA{J:Type}{m:Option (J×Store)}{Q:J->Store->Prop}(h:∀Q':J->Store->Prop,(∀a st,Q a st->Q' a st)->Wp m Q'):Wp m Q:=h Q λ_ _ h=>h
section
variable {st:Store}{Q:D->Store->Prop}
def YV(n:Nat)(L:List Int):fw (ph st (n+1)) (L.map D.int)=some (kS L):=CM (f:=ph st (n+1)) (g:=D.int) (k:=PyData.int) (λ_=>by simp only[ph]) L
def SO(a b:List PyData):PyData.eqv (.list a) (.list b)=PyData.eqvAll a b:=by simp only[PyData.eqv]
def YW(a b:List PyData):PyData.eqv (.tuple a) (.tuple b)=PyData.eqvAll a b:=by simp only[PyData.eqv]
def SQ{neg:Bool}{a b:Nat}{L M:List Int}(ha:items st a=some (L.map D.int))(hb:items st b=some (M.map D.int)):Wp (oG neg (.ref a) (.ref b) st) Q↔Q (.bl (if neg then !decide (L=M)else decide (L=M))) st:=by
 have p1:∀(i:Nat) (N:List Int),items st i=some (N.map D.int)->ph st 20 (.ref i)=some (.list (kS N)):=λi N h=>by
  simp only[ph,h];rw[YV];rfl
 have dp:∀N:List Int,PyData.depth (.list (kS N))<=1:=λN=>by show PyData.depthAll (kS N)+1<=1;rw[QJ];lk
 rw[SJ];constructor;rintro⟨p,q,h1,h2,_,h⟩;rw[p1 a L ha]at h1;rw[p1 b M hb]at h2;cases h1;cases h2;rw[SO,MP]at h;exact h;intro h;refine⟨_,_,p1 a L ha,p1 b M hb,⟨MO L,MO M,by have:=dp L;lk⟩,?_⟩;rw[SO,MP];exact h
abbrev N5(rs:List (List Int)):D:=.tup (rs.map λr=>.tup (r.map D.int))
end
abbrev aM(st:Store)(f:Nat):Prop:=∃o m:Int,st[f]?=some (.lst [.int o,.int m])/\0<=o/\0<=m/\m<4294967296
def FJ:lS 2 0=some 0:=by decide
def FK:lS 2 1=some 1:=by decide
def N6(n:Nat):aF 0 n=(ae.upto n).map D.int:=by unfold aF ae.upto;rw[ZaA];apply ZaT;intro i _;simp
def YX(L:List Int)(j:Nat):(L.map D.int).eraseIdx j=(L.eraseIdx j).map D.int:=by
 induction L generalizing j with
 |nil=>rfl
 |cons a r ih =>
  cases j with
  |zero=>rfl
  |succ j=>show D.int a :: (r.map D.int).eraseIdx j=_;rw[ih];rfl
def YY{L:List Int}{j:Nat}(h:j<L.length):(L[j] :: L.eraseIdx j).Perm L:=by
 induction L generalizing j with
 |nil=>exact absurd h (Za7 _)
 |cons a r ih =>
  cases j with
  |zero=>exact Zbl _
  |succ j =>
   have:=ih (j:=j) (by simpa using h);exact(List.Perm.swap _ _ _).trans (this.cons a)
def aM.keep{st st':Store}{f:Nat}(h:aM st f)(e:Ex [] st st'):aM st' f:=by obtain⟨o,m,e1,r⟩:=h;exact⟨o,m,e.keep _ _ e1 (by simp),r⟩
def aM.ne{st:Store}{f i:Nat}{o:O}(h:aM st f)(hi:i≠f):aM (st.set i o) f:=by obtain⟨x,m,e1,r⟩:=h;exact⟨x,m,by rw[Zao hi];exact e1,r⟩
def aM.lt{st:Store}{f:Nat}(h:aM st f):f<st.length:=let ⟨_,_,e,_⟩:=h;eY e
def mE{xs:List Int}{i:Int}(h0:0<=i)(h1:i<(xs.length:Int)):gT (xs.map D.int) i=some (.int (ae.app xs i)):=by
 have e:(xs.map D.int)[i.toNat]?=some (.int (ae.app xs i)):=by rw[Zaj,ae.nE h0 h1];rfl
 have:=Ea e
 rwa [Zat h0]at this
def CT{xs:List Int}{i:Nat}{d:D}(h:(xs.map D.int)[i]?=some d):∃x,xs[i]?=some x/\d=.int x:=by rw[Zaj]at h;obtain⟨x,h1,h2⟩:=Zax.mp h;exact⟨x,h1,h2.symm⟩
def N7(x:Int):∀(ns:List Int),xZ (.int x) (ns.map V.int)=ns.contains x
 |[]=>rfl
 |n :: r=>by
  have e:=N7 x r;unfold xZ at e ⊢;rw[Zav,Zbf,e,List.contains_cons]
  congr 1
  show(n == x)=(x == n);exact Bool.beq_comm
def N8{st:Store}{Q:D->Store->Prop}{neg:Bool}{x:Int}{c:D}{ns:List Int}(hc:fA st c=some (ns.map D.int)):Wp (vi neg (.int x) c st) Q↔Q (.bl (if neg then !ns.contains x else ns.contains x)) st:=by rw[Fw];constructor;rintro⟨v,ds,vs,h1,h2,h3,h⟩;cases h1;rw[hc]at h2;cases h2;rw[SH]at h3;cases h3;rw[N7]at h;exact h;intro h;refine⟨_,_,_,rfl,hc,SH ns,?_⟩;rw[N7];exact h
abbrev bJ(xs ys:List Int):D:=.tup [.tup (xs.map D.int),.tup (ys.map D.int)]
structure qG(mL st:Store)(f r u:Nat)(n:Nat)(X Y:List Int):Prop where
 hr:st[r]?=some (.lst (X.map D.int))
 hu:st[u]?=some (.lst (Y.map D.int))
 ne:r≠u
 r0:mL.length<=r
 u0:mL.length<=u
 tX:ae.Tn n X
 tY:ae.Tn n Y
 fd:aM st f
 ex:Ex [f] mL st
section
variable {mL st st':Store}{f r u n:Nat}{X Y Z:List Int}{o:O}
def qG.keep(h:qG mL st f r u n X Y)(e:Ex [] st st'):qG mL st' f r u n X Y:=⟨e.keep _ _ h.hr (by simp),e.keep _ _ h.hu (by simp),h.ne,h.r0,h.u0,h.tX,h.tY,h.fd.keep e,h.ex.trans e.any⟩
def qG.Bq(h:qG mL st f r u n X Y)(t:ae.Tn n Z):qG mL (st ++ [.lst (Z.map D.int)]) f st.length u n Z Y:=⟨jW,nH h.hu,by have:=eY h.hu;lk,h.ex.len,h.u0,t,h.tY,h.fd.keep (Ex.cE _),h.ex.app _⟩
def qG.Br(h:qG mL st f r u n X Y)(t:ae.Tn n Z):qG mL (st ++ [.lst (Z.map D.int)]) f r st.length n X Z:=⟨nH h.hr,jW,by have:=eY h.hr;lk,h.r0,h.ex.len,h.tX,t,h.fd.keep (Ex.cE _),h.ex.app _⟩
def qG.put(h:qG mL st f r u n X Y)(t:ae.Tn n Z)(hf:f<mL.length):qG mL (st.set r (.lst (Z.map D.int))) f r u n Z Y:=⟨Zag (eY h.hr),by rw[Zao h.ne];exact h.hu,h.ne,h.r0,h.u0,t,h.tY,h.fd.ne (by have:=h.r0;lk),h.ex.loc h.r0⟩
end
def SR(n:Nat):(ae.tf n).map D.int=aF 1 ((n:Int)-1).toNat ++ [.int 0]:=by unfold ae.tf aF;rw[Zay,ZaA,show((n:Int)-1).toNat=n-1 by lk];rfl
def yG{lo hi:Int}(h:0<=lo/\lo<=10000/\0<=hi/\hi<=10000):t9 lo hi=true:=by unfold t9;rw[ZaJ,decide_eq_true_eq];exact⟨by lk,i9 ⋯⟩
def Bs(w n:Nat):(ae.uZ w n).map D.int=aF 1 ((w:Int)-1).toNat ++ [.int 0] ++ aF (w:Int) ((n:Int)-(w:Int)).toNat:=by unfold ae.uZ aF;rw[Zay,Zay,ZaA,ZaA,show((w:Int)-1).toNat=w-1 by lk,show((n:Int)-(w:Int)).toNat=n-w by lk];rfl
def CU(xs:List D)(j:Nat):cutD xs none (some (j:Int))=xs.take j:=by unfold cutD;rw[HT.Qh,HT.Qi,List.drop_zero,Nat.sub_zero,List.take_eq_take_iff];lk
def YZ(xs:List D)(i:Nat):cutD xs (some (i:Int)) none=xs.drop i:=by unfold cutD;rw[HT.Qi,HT.Qh];by_cases h:i<=xs.length;rw[Nat.min_eq_left h,Zcj (by rw[Zcl];exact Zab _)];rw[Nat.min_eq_right ⋯,List.drop_eq_nil_of_le (Zab _),List.drop_eq_nil_of_le ⋯];simp
def Bt{w n:Nat}(h0:0<w)(h:w<n):(ae.wO w n).map D.int=cutD ([D.int (w:Int)] ++ aF 1 ((w:Int)-1).toNat ++ aF ((w:Int)+1) ((n:Int)-((w:Int)+1)).toNat ++ [.int 0]) none (some (n:Int)):=by rw[CU,Zcj (by simp[gh];lk)];unfold ae.wO aF;rw[Zay,Zay,Zay,ZaA,ZaA,show((w:Int)-1).toNat=w-1 by lk,show((n:Int)-((w:Int)+1)).toNat=n-(w+1) by lk];rfl
abbrev qH(n:Nat)(xs ys:List Int):Prop:=ae.Tn n xs/\ae.Tn n ys/\∀x:Int,0<=x->x<(n:Int)->ae.mC xs ys x
def SS{xs:List Int}{v:Int}(h:v∈xs):xs.findIdx? (λi=>decide (i=v))=some (xs.idxOf v):=by
 induction xs with
 |nil=>exact nomatch h
 |cons a r ih =>
  rw[List.findIdx?_cons];by_cases e:a=v;subst e;simp;have hm:v∈r:=by
   rcases Zar.mp h with h|h
   exact absurd h.symm e;exact h
  rw[decide_eq_false e,ih hm,List.idxOf_cons,show(a == v)=false by simpa using e];rfl
abbrev tu(S:Src)(ds:List D)(st:Store):Prop:=∀(i:Nat) (st2:Store),i<=ds.length->Ex [] st st2->S.at i st2=some ds[i]?
def Y0{st st':Store}{r:Nat}{ds:List D}(h:items st r=some ds)(e:Ex [] st st'):items st' r=some ds:=by
 unfold items at h ⊢;cases hx:st[r]? with
 |none=>rw[hx]at h;cases h
 |some o=>rw[e.keep _ _ hx (by simp)];rw[hx]at h;exact h
def vW(ds:List D)(st:Store):tu (.fix ds) ds st:=λi st2 hi _=>by
 show(if i<=ds.length then some ds[i]? else none)=_;rw[if_pos hi]
def Y1{ds:List D}{st:Store}{r:Nat}(h:items st r=some ds):tu (.live r) ds st:=λi st2 hi e=>by
 show(items st2 r).map _=_;rw[Y0 h e];rfl
def Bu{δ:ai}{st:Store}{fi:ai->Dm Src}{js:List Nat}{f:ai->Dm D}{Q:D->Store->Prop}(ds:List D)(h:D->D)(hi:Wp (fi δ st) λS st1=>tu S ds st1/\Ex [] st st1)(hl:ds.length<100000)
  (step:∀d∈ds,∀st1,Ex [] st st1->Wp (f (some d :: js.map λj=>δ.getD j none) st1) λy st2=>y=h d/\Ex [] st1 st2) (fin:∀st',Ex [] st st'->Q (.ref st'.length) (st' ++ [.lst (ds.map h)])):Wp (dC fi 1 js (hName 0) dQ f δ st) Q:=by
 obtain⟨S,st1,e1,hS,k1⟩:=hi;refine Ki ds (λi ys δ' lg=>(∃v,δ'=v :: js.map λj=>δ.getD j none)/\ys=(ds.take i).map h/\Ex [] st1 lg) ⟨S,st1,e1,λi ys δ' lg hi' hp=>hS i lg hi' hp.2.2,⟨none,rfl⟩,rfl,Ex.refl⟩ hl ?_ ?_ ?_;rintro i ys δ' lg ⟨_,rfl,_⟩;rw[Zaa,Za2];lk;rintro i d ys δ' lg hd ⟨⟨v,rfl⟩,rfl,k8⟩;rw[Fx];show Wp (dQ _ _) _;rw[Kl];refine⟨λ_=>?_,λh=>absurd h ∅⟩;refine aR (step d (Zas hd) lg (k1.trans k8)) ?_;rintro y rF ⟨rfl,k9⟩;refine⟨⟨some d,rfl⟩,?_,k8.trans k9⟩;obtain⟨hlt,e⟩:=Zad.mp hd;rw[ZaD hlt,Zay,e];rfl;rintro ys δ' lg ⟨_,rfl,k8⟩;rw[Za8];exact fin lg (k1.trans k8)
def SV{xs:List Int}{d:D}(h:d∈xs.map D.int):∃x∈xs,d=.int x:=by obtain⟨x,hx,rfl⟩:=ZaP.mp h;exact⟨x,hx,rfl⟩
def Y2{xs:List Int}{f:Int->Int}{h:D->D}(e:∀x∈xs,h (.int x)=.int (f x)):(xs.map D.int).map h=(xs.map f).map D.int:=by rw[ZaA,ZaA];exact ZaT λx hx=>e x hx
abbrev inD:D->Int
 |.int i=>i
 |_=>0
def yH(p:Key×D)(r:List (Key×D))(k:Key):cK (p :: r) k=if p.1=k then some p.2 else cK r k:=by unfold cK;rw[Zbh];by_cases e:p.1=k;rw[decide_eq_true e,if_pos e];rfl;rw[decide_eq_false e,if_neg e]
def SW(kvs:List (Key×D))(k j:Key)(y:D):cK (putD kvs k y) j=if j=k then some y else cK kvs j:=by
 unfold putD;by_cases a:(kvs.any λkv=>decide (kv.1=k))=true;rw[if_pos a]
 induction kvs with
 |nil=>simp at a
 |cons p r ih =>
  rw[Zav,yH,yH];by_cases e:p.1=k;rw[if_pos e];by_cases ej:j=k;rw[if_pos ej,if_pos (show(p.1,y).1=j from e.trans ej.symm)];rw[if_neg ej,if_neg (show ¬(p.1,y).1=j fromλz=>ej (z.symm.trans e)),if_neg (λz=>ej (z.symm.trans e))]
  have:∀l:List (Key×D),cK (l.map λkv=>if kv.1=k then(kv.1,y)else kv) j=cK l j:=by
   intro l
   induction l with
   |nil=>rfl
   |cons q l ihl =>
    rw[Zav,yH,yH,ihl];by_cases eq:q.1=k;rw[if_pos eq,if_neg (show ¬(q.1,y).1=j fromλz=>ej (z.symm.trans eq)),if_neg (λz=>ej (z.symm.trans eq))];rw[if_neg eq]
  exact this r;rw[if_neg e];have a':(r.any λkv=>decide (kv.1=k))=true:=by
   rw[Zbf,decide_eq_false e,Bool.false_or]at a;exact a
  rw[ih a'];by_cases ej:j=k;rw[if_pos ej,if_neg (λz=>e (z.trans ej)),if_pos ej];rw[if_neg ej,if_neg ej]
 rw[if_neg a]
 induction kvs with
 |nil =>
  show cK [(k,y)] j=_;rw[yH];by_cases ej:j=k;rw[if_pos ej.symm,if_pos ej];rw[if_neg (λz=>ej z.symm),if_neg ej]
 |cons p r ih =>
  have a':¬(r.any λkv=>decide (kv.1=k))=true:=λz=>a (by rw[Zbf,z,Bool.or_true]);have ep:p.1≠k:=λz=>a (by rw[Zbf,decide_eq_true z,Bool.true_or]);rw[List.cons_append,yH,ih a',yH];by_cases ej:j=k;rw[if_pos ej,if_pos ej,if_neg (λz=>ep (z.trans ej))];rw[if_neg ej,if_neg ej]
def SX(kvs:List (Key×D))(k:Key)(v:D):(putD kvs k v).length<=kvs.length+1:=by unfold putD;split;rw[Zaa];lk;rw[Zak,Zaz,ZbQ];lk
def sE{st:Store}{i:Nat}{kvs:List (Key×D)}(h:st[i]?=some (.dct kvs)):kW st (.ref i)=some kvs:=by simp only[kW,h]
def SY(i:Int):keyOf (.int i)=some (.inl i):=rfl
def Y3{r:List Int}{j:Nat}(h:j<r.length)(x:Int):(r.take (j+1)).contains x=((r.take j).contains x || x == r[j]):=by
 rw[ZaD h,List.contains_append]
 congr 1
 show([r[j]]:List Int).contains x=(x == r[j]);rw[List.contains_cons,List.contains_nil,ZcO]
@[reducible]def bK:=Bool×Int
abbrev bG(s:bK):D:=.tup [.str (if s.1 then "s" else "t"),.int s.2]
section
variable {K:Zfr}
abbrev vq(neg:Bool):D->D->Dm D
 |.bl a,.bl b,st=>some (.bl (if neg then !decide (a=b)else decide (a=b)),st)
 |_,_,_=>none
abbrev FL(neg:Bool):R2:=λx y H Q=>∃a b,x=.bl a/\y=.bl b/\Q (.bl (if neg then !decide (a=b)else decide (a=b))) H
def S0(neg:Bool):nZ K (FL neg) (vq neg):=by intro I H st x y a c b st' Q l rx ry e q;unfold vq at e;split at e;cases e;cases rx;cases ry;exact⟨_,_,rfl,rfl,q _ H I .refl l (.bl _)⟩;cases e
end
section
variable {X:Cx}
def S3:mP X (compareOp .IsNot) (FL true):=by intro pins s G H x y v u Q I rx ry h;obtain⟨a,b,rfl,rfl,q⟩:=h;cases rx;cases ry;exact PyProof.Rows.isnot_bool (mH I q (by cases a<;>cases b<;>rfl))
end
def at2{J:Type}(x y z:J)(xs:List J):gT (x :: y :: z :: xs) 2=some z:=by unfold gT lS;rw[if_pos ∅,if_pos (by simp only[Zaz];lk)];rfl
def S4{J:Type}(x y z u:J)(xs:List J):gT (x :: y :: z :: u :: xs) 3=some u:=by unfold gT lS;rw[if_pos ∅,if_pos (by simp only[Zaz];lk)];rfl
section
variable {st:Store}{Q:D->Store->Prop}
def S5{neg a b:Bool}:Wp (vq neg (.bl a) (.bl b) st) Q↔Q (.bl (if neg then !decide (a=b)else decide (a=b))) st:=bz
end
def N9{δ:ai}{st:Store}{fi:ai->Dm Src}{js:List Nat}{f:ai->Dm D}{Q:D->Store->Prop}(ds:List D)(P:Nat->D->Prop)(I:Store->Prop)
  (hi:Wp (fi δ st) λS st1=>(∀i st2,i<=ds.length->I st2->S.at i st2=some ds[i]?)/\I st1) (hl:ds.length<100000)
  (step:∀i d,ds[i]?=some d->∀st1,I st1->Wp (f (some d :: js.map λj=>δ.getD j none) st1) λy st2=>P i y/\I st2)
  (fin:∀ys st',I st'->ys.length=ds.length->(∀i y,ys[i]?=some y->P i y)->Q (.ref st'.length) (st' ++ [.lst ys])):Wp (dC fi 1 js (hName 0) dQ f δ st) Q:=by
 obtain⟨S,st1,e1,hS,k1⟩:=hi;refine Ki ds (λi ys δ' lg=>(∃v,δ'=v :: js.map λj=>δ.getD j none)/\ys.length=i/\(∀i y,ys[i]?=some y->P i y)/\I lg) ⟨S,st1,e1,λi ys δ' lg hi' hp=>hS i lg hi' hp.2.2.2,⟨none,rfl⟩,rfl,(λi y h=>by simp at h),k1⟩ hl ?_ ?_ ?_;rintro i ys δ' lg ⟨_,h,_⟩;lk;rintro i d ys δ' lg hd ⟨⟨v,rfl⟩,hlen,hP,k8⟩;rw[Fx];show Wp (dQ _ _) _;rw[Kl];refine⟨λ_=>?_,λh=>absurd h ∅⟩;refine aR (step i d hd lg k8) ?_;rintro y rF ⟨hp,k9⟩;refine⟨⟨some d,rfl⟩,by rw[Zak,hlen];rfl,λj z hz=>?_,k9⟩;by_cases hj:j<ys.length;rw[ZaH hj]at hz;exact hP j z hz;have hb:=eY hz;rw[Zak,ZaC]at hb;have e:j=ys.length:=by lk
 subst e;rw[ZaB (Zab _),Zbs]at hz;cases hz;rw[hlen];exact hp;rintro ys δ' lg ⟨_,hlen,hP,k8⟩;exact fin ys lg k8 hlen hP
def FN{a b:Bool}{R:Bool->Prop}(h:R (a || b)):if a=true then R true else R b:=by cases a<;>exact h
abbrev sO(L:List Nat):Str:=⟨L.toArray⟩
def S6(L:List Nat):(sO L).cps.toList=L:=by simp[sO]
def S7(L:List Nat):(sO L).length=L.length:=by simp[sO,Str.length]
def Oa(L M:List Nat):sO L ++ sO M=sO (L ++ M):=by show Str.append (sO L) (sO M)=_;simp[sO,Str.append]
def vt:∀(Ls:List (List Nat)),Str.join (sO []) (Ls.map sO)=sO Ls.flatten
 |[]=>rfl
 |[L]=>by
  show sO L=sO ([L].flatten);rw[ZaQ,List.flatten_nil,Za6]
 |L :: M :: r=>by
  have ih:=vt (M :: r);show sO L ++ sO [] ++ Str.join (sO []) ((M :: r).map sO)=_;rw[ih,Oa,Oa,Za6,ZaQ (l:=L)]
abbrev vw(x:Str)(k:Nat):Str:=sO (List.replicate k x.cps.toList).flatten
abbrev xl:D->Option Str
 |.str x=>some x
 |_=>none
def Y4(xs:List Str):fw xl (xs.map D.str)=some xs:=by have:=CM (f:=xl) (g:=D.str) (k:=id) (λ_=>rfl) xs;rw[this,List.map_id]
abbrev kX:D->D->Dm D
 |.str x,.str y,st=>if lim (x.length+y.length)=true then some (.str (x ++ y),st)else none
 |_,_,_=>none
abbrev vz(neg:Bool):D->D->Dm D
 |.str x,.str y,st=>some (.bl (if neg then !(!(Builtin.Str.occurrences y x 0 y.length 1).isEmpty)else !(Builtin.Str.occurrences y x 0 y.length 1).isEmpty),st)
 |_,_,_=>none
abbrev kY:D->List D->Dm D
 |.str sep,[.ref i],st=>match (items st i).bind (fw xl)with
  |some xs=>if sep.length<=10/\(xs.map (·.length)).sum+xs.length*10<=12000000 then some (.str (Str.join sep xs),st)else none
  |none=>none
 |_,_,_=>none
abbrev pA:D->D->Dm D
 |.str x,.int k,st=>if x.length<=100/\-1000000<=k/\k<=10000 then some (.str (vw x k.toNat),st)else none
 |_,_,_=>none
abbrev tw(x:Str):List D:=x.cps.toList.map λc=>.str ⟨#[c]⟩
abbrev mN(fa:ai->Dm D):ai->Dm Src:=λδ st=>bnd (fa δ st) λa st1=>match a with
 |.str x=>if x.length<=100000 then some (.fix (tw x),st1)else none
 |_=>none
section
variable {K:Zfr}
def S8{I:List Addr}{H:Hp}:∀{ws:List V} {ds:List D} {ns:List Str},du K I H ws ds->fw xl ds=some ns->ws=ns.map V.str
 |_,_,_,.nil,h=>by cases h;rfl
 |_,_,_,.cons a b,h=>by
  obtain⟨x,t,h1,h2,rfl⟩:=CL h;rw[S8 b h2];cases a<;>first|(cases h1;rfl)|cases h1
def Ob:E3 K "str" (rJoin K) kY:=by
 intro I H st x xs a as b st' Q l rx AG e q;unfold kY at e;split at e
 ·split at e
  ·next ts hd =>
   split at e
   ·next ok =>
    cases e;obtain⟨v,rfl,r⟩:=AG.one';obtain⟨ds,h3,h4⟩:=Zbu.mp hd;cases rx;cases r with
    |ref hi =>
     obtain⟨vs,s,r⟩:=l.items hi h3;cases S8 r h4;exact⟨_,_,_,rfl,rfl,s,ok.1,ok.2,q _ H I .refl l (.str _)⟩
   ·cases e
  ·cases e
 ·cases e
def Km:nZ K (λx y H Q=>∃z k,x=.str z/\y=.int k/\z.length<=100/\-1000000<=k/\k<=10000/\Q (.str (wK z k.toNat)) H) pA:=by
 intro I H st x y a c b st' Q l rx ry e q;unfold pA at e;split at e
 ·split at e
  ·next ok =>
   cases e;cases rx;cases ry;exact⟨_,_,rfl,rfl,ok.1,ok.2.1,ok.2.2,q _ H I .refl l (.str _)⟩
  ·cases e
 ·cases e
def yI:nZ K (λx y H Q=>∃i j,x=.str i/\y=.str j/\i.length+j.length<=sizeLine/\Q (.str (i ++ j)) H) kX:=by
 intro I H st x y a c b st' Q l rx ry e q;unfold kX at e;split at e
 ·split at e
  ·next ok =>
   cases e;cases rx;cases ry;exact⟨_,_,rfl,rfl,Ax ok,q _ H I .refl l (.str _)⟩
  ·cases e
 ·cases e
def S9(neg:Bool):nZ K (λx y H Q=>∃i j,x=.str i/\y=.str j/\Q (.bl (if neg then !(!(Builtin.Str.occurrences j i 0 j.length 1).isEmpty)else !(Builtin.Str.occurrences j i 0 j.length 1).isEmpty)) H) (vz neg):=by intro I H st x y a c b st' Q l rx ry e q;unfold vz at e;split at e;cases e;cases rx;cases ry;exact⟨_,_,rfl,rfl,q _ H I .refl l (.bl _)⟩;cases e
def FO{t:TE}{fa:ai->Dm D}(ha:gU K t fa):vj K (EB t) (mN fa):=by
 intro I G H δ st S st' Q l rs e q;obtain⟨a,st1,e1,e⟩:=dP e;split at e
 ·next x =>
  split at e
  ·next hl =>
   cases e;refine ha I G H δ st _ _ _ l rs e1 λy H1 I1 m1 l1 r1=>?_;cases r1;refine⟨_,rfl,q _ H1 I1 m1 l1 λI2 H2 st2 i m2 l2=>⟨λh=>?_,λd h=>?_⟩⟩
   ·have h2:=ZaI.mp (rW h).2
    show x.cps.size<=i;simpa[tw]using h2
   ·have h2:=(rW h).2
    unfold tw at h2;rw[Zaj]at h2;obtain⟨c,hc,e⟩:=Zax.mp h2;subst e;have hc':x.cps[i]?=some c:=by simpa using hc
    refine⟨?_,λy H3 hy=>?_⟩
    ·show i<x.cps.size
     exact(Zb5.mp hc').1
    ·obtain⟨rfl,c',hc2,rfl⟩:=hy
     rw[hc']at hc2;cases hc2;exact⟨.refl,l2,.str _⟩
  ·cases e
 ·cases e
end
section
variable {st:Store}{Q:D->Store->Prop}
def Ta{sep:Str}{k:Nat}{xs:List Str}(h:items st k=some (xs.map D.str))(hs:sep.length<=10)(hb:(xs.map (·.length)).sum+xs.length*10<=12000000):Wp (kY (.str sep) [.ref k] st) Q↔Q (.str (Str.join sep xs)) st:=by
 have e:kY (.str sep) [.ref k] st=some (.str (Str.join sep xs),st):=by
  simp only[kY,h,Zbk,Y4];rw[if_pos ⟨hs,hb⟩]
 rw[e,bz]
def Y5{sep:Str}{k:Nat}{xs:List Str}(h:items st k=some (xs.map D.str))(hl:xs.length<=100000)(hs:sep.length<=10)(hb:∀x∈xs,x.length<=100):Wp (kY (.str sep) [.ref k] st) Q↔Q (.str (Str.join sep xs)) st:=Ta h hs (by
 have a:=StrLaws.sumLen_le xs hb;have b:xs.length*100<=100000*100:=Zbq _ hl
 lk)
def Oc{x:Str}{k:Int}:Wp (pA (.str x) (.int k) st) Q↔(x.length<=100/\-1000000<=k/\k<=10000)/\Q (.str (vw x k.toNat)) st:=by
 show Wp (if x.length<=100/\-1000000<=k/\k<=10000 then some (D.str (vw x k.toNat),st)else none) Q↔_;rw[pq,bz,fR];split
 ·next h=>exact⟨λq=>⟨h,q⟩,λq=>q.2⟩
 ·next h=>exact⟨False.elim,λq=>h q.1⟩
def CV{δ:ai}{fa:ai->Dm D}{R:Src->Store->Prop}:Wp (mN fa δ st) R↔Wp (fa δ st) λa st1=>∃x,a=.str x/\x.length<=100000/\R (.fix (tw x)) st1:=by
 unfold mN;rw[dO];constructor<;>refineλh=>aR h λa s h=>?_
 ·cases a<;>simp only[fR]at h
  ·next x =>
   rw[pq,bz,fR]at h;split at h
   ·next hl=>exact⟨_,rfl,hl,h⟩
   ·exact h.elim
 ·obtain⟨j,rfl,hl,h⟩:=h
  simp only[if_pos hl];exact bz.mpr h
def FP{neg:Bool}{x y:Str}:Wp (vz neg (.str x) (.str y) st) Q↔Q (.bl (if neg then !(!(Builtin.Str.occurrences y x 0 y.length 1).isEmpty)else !(Builtin.Str.occurrences y x 0 y.length 1).isEmpty)) st:=bz
def Bv{x y:Str}:Wp (kX (.str x) (.str y) st) Q↔lim (x.length+y.length)=true/\Q (.str (x ++ y)) st:=by
 show Wp (if lim (x.length+y.length)=true then some (D.str (x ++ y),st)else none) Q↔_;rw[pq,bz,fR];split
 ·next h=>exact⟨λq=>⟨h,q⟩,λq=>q.2⟩
 ·next h=>exact⟨False.elim,λq=>h q.1⟩
end
abbrev FQ:D->Option (List D)
 |.tup ds=>some ds
 |.str x=>some (tw x)
 |_=>none
abbrev jS:List D->List D->List D
 |a :: r,b :: t=>.tup [a,b] :: jS r t
 |_,_=>[]
def Tb:∀{ds es:List D} {i:Nat} {d:D},(jS ds es)[i]?=some d->∃a b,ds[i]?=some a/\es[i]?=some b/\d=.tup [a,b]
 |a :: r,b :: t,0,d,h=>⟨a,b,rfl,rfl,(Zai h).symm⟩
 |a :: r,b :: t,i+1,d,h=>Tb (ds:=r) (es:=t) (i:=i) h
 |[],_,_,_,h=>by simp[jS]at h
 |_ :: _,[],_,_,h=>by simp[jS]at h
def Tc:∀{ds es:List D} {i:Nat},i<=(jS ds es).length->(jS ds es)[i]?=none->(i=ds.length/\i<=es.length)\/(i<ds.length/\i=es.length)
 |[],es,i,h,_=>by
  have:i=0:=by simpa[jS]using h
  subst this;exact .inl ⟨rfl,ZaZ _⟩
 |a :: r,[],i,h,_=>by
  have:i=0:=by simpa[jS]using h
  subst this;exact .inr ⟨Nat.succ_pos _,rfl⟩
 |a :: r,b :: t,0,_,h=>by simp[jS]at h
 |a :: r,b :: t,i+1,h,hn=>by
  have h1:i<=(jS r t).length:=by simp only[jS,Zaz]at h;lk
  have h2:(jS r t)[i]?=none:=by simpa[jS]using hn
  have:=Tc (ds:=r) (es:=t) h1 h2;simp only[Zaz];lk
abbrev rJ(fa:ai->Dm (List D)):ai->Dm Src:=λδ st=>bnd (fa δ st) λas st1=>match as with
 |[a,b]=>match FQ a,FQ b with
  |some ds,some es=>some (.fix (jS ds es),st1)
  |_,_=>none
 |_=>none
section
variable {K:Zfr}
def yJ{I:List Addr}{H:Hp}{x:V}{a:D}{ds:List D}(r:Rp K I H x a)(h:FQ a=some ds):∃src:ZS,src.val K H x/\∀(I2:List Addr) (H2:Hp),Mn K I H I2 H2->∀i,(∀d,ds[i]?=some d->∃v,src.has K H2 i v/\Rp K I2 H2 v d)/\(i=ds.length->src.fin K H2 i):=by
 cases r with
 |non=>cases h
 |bl b=>cases h
 |int i=>cases h
 |ty n=>cases h
 |ref e=>cases h
 |str x =>
  cases h;refine⟨.str x,rfl,λI2 H2 m i=>⟨λd hd=>?_,λe=>?_⟩⟩;unfold tw at hd;rw[Zaj]at hd;obtain⟨c,hc,rfl⟩:=Zax.mp hd;exact⟨_,⟨c,by simpa using hc,rfl⟩,.str _⟩;show x.cps.size=i;rw[e];simp[tw]
 |tup s r =>
  cases h;refine⟨.tup _,⟨rfl,_,s⟩,λI2 H2 m i=>⟨λd hd=>?_,λe=>?_⟩⟩;obtain⟨v,hv,rv⟩:=r.got hd;exact⟨v,⟨_,m.t _ _ s,hv⟩,rv.mn m⟩;exact⟨_,m.t _ _ s,by rw[r.length];exact e.symm⟩
def Td{t:TA}{fa:ai->Dm (List D)}(ha:su K t fa):vj K (EF K t) (rJ fa):=by
 intro I G H δ st S st' Q l rs e q;obtain⟨as,st1,e1,e⟩:=dP e;split at e
 ·next a b =>
  split at e
  ·next ds es h1 h2 =>
   cases e;refine ha I G H δ st _ _ _ l rs e1 λxs H1 I1 m1 l1 r1=>?_;obtain⟨x,y,rfl,rx,ry⟩:=r1.two';obtain⟨s1,v1,g1⟩:=yJ rx h1;obtain⟨s2,v2,g2⟩:=yJ ry h2;refine⟨x,y,s1,s2,rfl,v1,v2,q _ H1 I1 m1 l1 λI2 H2 st2 i m2 l2=>⟨λh=>?_,λd h=>?_⟩⟩
   ·obtain⟨hl,hn⟩:=rW h
    have Od:i<es.length->∃y,s2.has K H2 i y:=λhi=>by
     obtain⟨v,hv,_⟩:=(g2 I2 H2 m2 i).1 es[i] (Zam hi);exact⟨v,hv⟩
    rcases Tc hl hn with⟨e1,e2⟩|⟨e1,e2⟩
    ·refine .inl ⟨(g1 I2 H2 m2 i).2 e1,?_⟩
     rcases Nat.lt_or_ge i es.length with hi|hi
     ·exact .inr (Od hi)
     ·exact .inl ((g2 I2 H2 m2 i).2 ⋯)
    ·obtain⟨v,hv,_⟩:=(g1 I2 H2 m2 i).1 ds[i] (Zam e1)
     exact .inr ⟨⟨v,hv⟩,(g2 I2 H2 m2 i).2 e2⟩
   ·obtain⟨c,b,hc,hb,rfl⟩:=Tb (rW h).2
    obtain⟨v,hv,rv⟩:=(g1 I2 H2 m2 i).1 c hc;obtain⟨w,hw,rw'⟩:=(g2 I2 H2 m2 i).1 b hb;refine⟨⟨v,w,hv,hw⟩,λz H3 hz=>?_⟩;obtain⟨p,v',w',rfl,hp,rfl,k1,k2⟩:=hz;cases k1 _ hv;cases k2 _ hw;have m3:Mn K I2 H2 I2 (upd H2 p (.tup [v,w])):=Mn.same (hV.up hp);exact⟨m3,l2.same (hV.up hp),.tup (gS.of rY) (.cons (rv.mn m3) (.one (rw'.mn m3)))⟩
  ·cases e
 ·cases e
end
section
variable {st:Store}
def Te{δ:ai}{fa:ai->Dm (List D)}{R:Src->Store->Prop}:Wp (rJ fa δ st) R↔Wp (fa δ st) λas st1=>∃a b ds es,as=[a,b]/\FQ a=some ds/\FQ b=some es/\R (.fix (jS ds es)) st1:=by
 unfold rJ;rw[dO];constructor<;>refineλh=>aR h λas s h=>?_
 ·split at h
  ·next a b =>
   split at h
   ·next ds es h1 h2=>exact⟨a,b,ds,es,rfl,h1,h2,bz.mp h⟩
   ·exact(fR.mp h).elim
  ·exact(fR.mp h).elim
 ·obtain⟨a,b,ds,es,rfl,h1,h2,h⟩:=h
  simp only[h1,h2];exact bz.mpr h
end
def Y6{P:Program}{w:World}{K:Zfr}{mg:Str->Option Value}{base:Heap}{CX:sM}{k:Nat}{f:Addr}{fd:FuncData}{ps:List Str}{n:Nat}(hn:n=ps.length):aC P w K mg base CX k f fd ps (bw K n λ_ _=>none):=by refine⟨λ_ _ _ _ h=>h.1.trans hn,λA outer s H args us vs Q E _ _ _ _ h=>?_⟩;obtain⟨_,I,st,ds,b,st',_,_,e,_⟩:=h;cases e
structure uL(K:Zfr)(mg:Str->Option Value)(x:Str)(v:V)(d:D):Prop where
 ex:∃u,mg x=some u/\RelV v u
 rp:∀(I:List Addr) (H:Hp),Rp K I H v d
def Oe{X:Cx}{K:Zfr}{mg:Str->Option Value}{x:Str}{v:V}{d:D}{pos:Pos}(C:uL K mg x v d)(hg:Gl X x)(hX:X.mg=mg)(hd:(x == ("__debug__" : Str))=false):PE X (.Name x pos) (tC v):=by obtain⟨u,h,r⟩:=C.ex;subst hX;exact PJ hg h r hd
def Og{K:Zfr}{mg:Str->Option Value}{x:Str}{v:V}{d:D}(C:uL K mg x v d):gU K (tC v) (fC d):=wX C.rp
def Tf{K:Zfr}{h:Heap}{mg:Str->Option Value}(X:K.In h)(G:h.Ns mainGlobals mg){x:Str}{a:Addr}{od:Option Addr}{its:Array Value}{n:Nat}{sl:Array (Option Value)}{vs:List V}{ds:List D}(e:PySem.W.nsIn K mainGlobals x=some (some (.ref a)))(l:K.lookup a=some ⟨.type "tuple",od,.seq its n,sl⟩)
  (ho:od=none) (hz:its.size<=sizeLine) (hv:Vals vs its.toList) (hd:∀(I:List Addr) (H:Hp),du K I H vs ds):∃v,uL K mg x v (.tup ds) :=
 ⟨.ref a,⟨_,PySem.W.mg_of X G e,rfl⟩,λI H=>.tup (.inr ⟨_,its,n,l,rfl,ho,rfl,hz,hv⟩) (hd I H)⟩
def Y7{δ:ai}{st:Store}{fi:ai->Dm Src}{js:List Nat}{f:ai->Dm D}{Q:D->Store->Prop}(ps:List (D×D))(h:D×D->D)(hi:Wp (fi δ st) λS st1=>tu S (ps.map λp=>.tup [p.1,p.2]) st1/\Ex [] st st1)(hl:ps.length<100000)
  (step:∀p∈ps,∀st1,Ex [] st st1->Wp (f (some p.1 :: some p.2 :: js.map λj=>δ.getD j none) st1) λy st2=>y=h p/\Ex [] st1 st2) (fin:∀st',Ex [] st st'->Q (.ref st'.length) (st' ++ [.lst (ps.map h)])):Wp (dC fi 2 js (om 2 (eW (hName 0) (eW (hName 1) pk))) dQ f δ st) Q:=by
 obtain⟨S,st1,e1,hS,k1⟩:=hi;refine Ki (ps.map λp=>.tup [p.1,p.2]) (λi ys δ' lg=>(∃v w,δ'=v :: w :: js.map λj=>δ.getD j none)/\ys=(ps.take i).map h/\Ex [] st1 lg) ⟨S,st1,e1,λi ys δ' lg hi' hp=>hS i lg hi' hp.2.2,⟨none,none,rfl⟩,rfl,Ex.refl⟩ (by rw[Zaa];exact hl) ?_ ?_ ?_;rintro i ys δ' lg ⟨_,rfl,_⟩;rw[Zaa,Za2];lk;rintro i d ys δ' lg hd ⟨⟨v,w,rfl⟩,rfl,k8⟩;rw[Zaj]at hd;obtain⟨p,hp,rfl⟩:=Zax.mp hd;rw[SN];refine⟨rfl,?_⟩;rw[N1,Fx,N1,Fx,SM];show Wp (dQ _ _) _;rw[Kl];refine⟨λ_=>?_,λh=>absurd h ∅⟩;refine aR (step p (Zas hp) lg (k1.trans k8)) ?_;rintro y rF ⟨rfl,k9⟩;refine⟨⟨some p.1,some p.2,rfl⟩,?_,k8.trans k9⟩;obtain⟨hlt,e⟩:=Zad.mp hp;rw[ZaD hlt,Zay,e];rfl;rintro ys δ' lg ⟨_,rfl,k8⟩;rw[Zaa,Za8];exact fin lg (k1.trans k8)
abbrev pU:Nat->D->Prop
 |_,.int _=>True
 |_,.str x=>PyData.canLay0 (.str x)=true
 |_,.non=>True
 |n+1,.tup ds=>∀d∈ds,pU n d
 |_,_=>False
abbrev pQ:Nat->D->PyData
 |_,.int i=>.int i
 |_,.str x=>.str x
 |n+1,.tup ds=>.tuple (ds.map (pQ n))
 |_,_=>.none
def Tg{J M:Type}{f:J->Option M}{g:J->M}:∀{l:List J},(∀x∈l,f x=some (g x))->fw f l=some (l.map g)
 |[],_=>rfl
 |a :: r,h=>by
  have h1:=h a Zaf;have h2:=Tg (f:=f) (g:=g) (l:=r) λx hx=>h x (Zah _ hx);simp only[fw,h1,h2,Zav]
def FR:∀(n:Nat) (d:D),pU n d->∀(m:Nat),n<m->∀st,ph st m d=some (pQ n d)
 |n,.int i,_,m+1,_,st=>by cases n<;>rfl
 |n,.str x,_,m+1,_,st=>by cases n<;>rfl
 |n,.non,_,m+1,_,st=>by cases n<;>rfl
 |n,.bl b,h,_,_,_=>by cases n<;>exact h.elim
 |n,.ty b,h,_,_,_=>by cases n<;>exact h.elim
 |n,.ref b,h,_,_,_=>by cases n<;>exact h.elim
 |0,.tup ds,h,_,_,_=>h.elim
 |n+1,.tup ds,h,m+1,hm,st=>by
  simp only[ph];rw[Tg (g:=pQ n) λx hx=>FR n x (h x hx) m ⋯ st];rfl
def Ti:∀{l:List PyData},(∀x∈l,x.canLay0=true)->PyData.canLayAll0 l=true
 |[],_=>rfl
 |a :: r,h=>by
  simp only[PyData.canLayAll0,h a Zaf,Ti λx hx=>h x (Zah _ hx),Bool.and_self]
def Tj{n:Nat}:∀{l:List PyData},(∀x∈l,x.depth<=n)->PyData.depthAll l<=n
 |[],_=>ZaZ _
 |a :: r,h=>by
  have h1:=h a Zaf;have h2:=Tj λx hx=>h x (Zah _ hx);simp only[PyData.depthAll];lk
def FT:∀(n:Nat) (d:D),pU n d->(pQ n d).canLay0=true/\(pQ n d).depth<=n
 |n,.int i,_=>by cases n<;>exact⟨rfl,ZaZ _⟩
 |n,.str x,h=>by cases n<;>exact⟨h,ZaZ _⟩
 |n,.non,_=>by cases n<;>exact⟨rfl,ZaZ _⟩
 |n,.bl b,h=>by cases n<;>exact h.elim
 |n,.ty b,h=>by cases n<;>exact h.elim
 |n,.ref b,h=>by cases n<;>exact h.elim
 |0,.tup ds,h=>h.elim
 |n+1,.tup ds,h=>by
  refine⟨?_,?_⟩;show PyData.canLayAll0 (ds.map (pQ n))=true;exact Ti λx hx=>by
   obtain⟨d,hd,rfl⟩:=ZaP.mp hx;exact(FT n d (h d hd)).1
  show PyData.depthAll (ds.map (pQ n))+1<=n+1
  have:=Tj (n:=n) (l:=ds.map (pQ n)) λx hx=>by
   obtain⟨d,hd,rfl⟩:=ZaP.mp hx;exact(FT n d (h d hd)).2
  lk
def To{n:Nat}(ih:∀a b:D,pU n a->pU n b->(PyData.eqv (pQ n a) (pQ n b)=true↔a=b)):∀(l m:List D),(∀x∈l,pU n x)->(∀x∈m,pU n x)->(PyData.eqvAll (l.map (pQ n)) (m.map (pQ n))=true↔l=m)
 |[],[],_,_=>by simp[PyData.eqvAll]
 |[],_ :: _,_,_=>by simp[PyData.eqvAll]
 |_ :: _,[],_,_=>by simp[PyData.eqvAll]
 |a :: l,b :: m,h1,h2=>by
  have e1:=ih a b (h1 a Zaf) (h2 b Zaf);have e2:=To ih l m (λx hx=>h1 x (Zah _ hx)) λx hx=>h2 x (Zah _ hx);simp only[Zav,PyData.eqvAll,ZaJ,e1,e2,List.cons.injEq]
def FU:∀(n:Nat) (a b:D),pU n a->pU n b->(PyData.eqv (pQ n a) (pQ n b)=true↔a=b):=by
 intro n
 induction n with
 |zero =>
  intro a b ha hb;cases a<;>first|exact ha.elim|skip
  all_goals (cases b<;>first|exact hb.elim|simp[pQ,PyData.eqv])
 |succ n ih =>
  intro a b ha hb;cases a<;>first|exact ha.elim|skip
  all_goals (cases b<;>first|exact hb.elim|skip)
  all_goals first
   |(simp[pQ,PyData.eqv];done)
   |skip
  next l m =>
   have:=To ih l m ha hb;show PyData.eqv (.tuple (l.map (pQ n))) (.tuple (m.map (pQ n)))=true↔_;rw[YW,this];constructor
   ·rintro rfl;rfl
   ·intro h;exact D.tup.inj h
open Classical in
def Bw{st:Store}{Q:D->Store->Prop}{neg:Bool}{n:Nat}{a b:D}(ha:pU n a)(hb:pU n b)(hn:n<=15):Wp (oG neg a b st) Q↔Q (.bl (if neg then !decide (a=b)else decide (a=b))) st:=by
 have e:PyData.eqv (pQ n a) (pQ n b)=decide (a=b):=by
  have:=FU n a b ha hb;cases h:PyData.eqv (pQ n a) (pQ n b)with
  |true=>exact(decide_eq_true (this.mp h)).symm
  |false=>exact(decide_eq_false λz=>by rw[this.mpr z]at h;cases h).symm
 rw[SJ];constructor;rintro⟨p,q,h1,h2,_,h⟩;rw[FR n a ha 20 ⋯]at h1;rw[FR n b hb 20 ⋯]at h2;cases h1;cases h2;rw[e]at h;exact h;intro h;refine⟨_,_,FR n a ha 20 ⋯ st,FR n b hb 20 ⋯ st,⟨(FT n a ha).1,(FT n b hb).1,?_⟩,?_⟩
 have:=(FT n a ha).2
 lk;rw[e];exact h
abbrev FV:D->Option (List D)
 |.tup ds=>some ds
 |.str x=>if x.length<=sizeLine then some (tw x)else none
 |_=>none
abbrev qe(fa:ai->Dm (List D)):ai->Dm Src:=λδ st=>bnd (fa δ st) λas st1=>match as with
 |[a]=>match FV a with
  |some ds=>some (.fix ds.reverse,st1)
  |none=>none
 |_=>none
section
variable {K:Zfr}
def FW{I:List Addr}{H:Hp}{x:V}{a:D}{ds:List D}(r:Rp K I H x a)(h:FV a=some ds):∃src:ZS,src.val K H x/\(∀a,src≠.lst a)/\(∀z,src=.str z->z.length<=sizeLine)/\∀(I2:List Addr) (H2:Hp),Mn K I H I2 H2->∀i,(∀d,ds[i]?=some d->∃v,src.has K H2 i v/\Rp K I2 H2 v d)/\(i=ds.length->src.fin K H2 i):=by
 cases r with
 |non=>cases h
 |bl b=>cases h
 |int i=>cases h
 |ty n=>cases h
 |ref e=>cases h
 |str x =>
  unfold FV at h;simp only at h;split at h
  ·next hx =>
   cases h;refine⟨.str x,rfl,nofun,λz e=>by cases e;exact hx,λI2 H2 m i=>⟨λd hd=>?_,λe=>?_⟩⟩
   ·unfold tw at hd
    rw[Zaj]at hd;obtain⟨c,hc,rfl⟩:=Zax.mp hd;have hc':x.cps[i]?=some c:=by simpa using hc
    exact⟨_,⟨c,hc',rfl⟩,.str _⟩
   ·show x.cps.size=i
    rw[e];simp[tw]
  ·cases h
 |tup s r =>
  cases h;refine⟨.tup _,⟨rfl,_,s⟩,nofun,nofun,λI2 H2 m i=>⟨λd hd=>?_,λe=>?_⟩⟩
  ·obtain⟨v,hv,rv⟩:=r.got hd
   exact⟨v,⟨_,m.t _ _ s,hv⟩,rv.mn m⟩
  ·exact⟨_,m.t _ _ s,by rw[r.length];exact e.symm⟩
def Tp{t:TA}{fa:ai->Dm (List D)}(ha:su K t fa):vj K (EI K t) (qe fa):=by
 intro I G H δ st S st' Q l rs e q;obtain⟨as,st1,e1,e⟩:=dP e;split at e
 ·next a =>
  split at e
  ·next ds h1 =>
   cases e;refine ha I G H δ st _ _ _ l rs e1 λxs H1 I1 m1 l1 r1=>?_;obtain⟨x,rfl,rx⟩:=r1.one';obtain⟨s1,v1,nl,hz,g1⟩:=FW rx h1;refine⟨x,s1,ds.length,rfl,v1,(g1 I1 H1 Mn.refl ds.length).2 rfl,nl,hz,q _ H1 I1 m1 l1 λI2 H2 st2 i m2 l2=>⟨λh=>?_,λd h=>?_⟩⟩
   ·obtain⟨hl,hn⟩:=rW h
    have:=ZaI.mp hn;simp only[ZaO]at this hl;exact(show i=ds.length by lk)
   ·have hd:=(rW h).2
    have hi:i<ds.length:=by simpa using(Zad.mp hd).1
    rw[List.getElem?_reverse hi]at hd;obtain⟨v,hv,rv⟩:=(g1 I2 H2 m2 _).1 d hd;refine⟨⟨hi,v,hv⟩,λz H3 hz=>?_⟩;obtain⟨rfl,k1⟩:=hz;cases k1 _ hv;exact⟨Mn.refl,l2,rv⟩
  ·cases e
 ·cases e
end
section
variable {st:Store}
def Oh{δ:ai}{fa:ai->Dm (List D)}{R:Src->Store->Prop}:Wp (qe fa δ st) R↔Wp (fa δ st) λas st1=>∃a ds,as=[a]/\FV a=some ds/\R (.fix ds.reverse) st1:=by
 unfold qe;rw[dO];constructor<;>refineλh=>aR h λas s h=>?_
 ·split at h
  ·next a =>
   split at h
   ·next ds h1=>exact⟨a,ds,rfl,h1,bz.mp h⟩
   ·exact(fR.mp h).elim
  ·exact(fR.mp h).elim
 ·obtain⟨a,ds,rfl,h1,h⟩:=h
  simp only[h1];exact bz.mpr h
end
abbrev fD(i j:Int):Bool:=(decide (-18446744073709551616<i/\i<18446744073709551616) || decide (-18446744073709551616<j/\j<18446744073709551616)) || (decide (i.natAbs<wM) && decide (j.natAbs<wM))
abbrev gI:D->D->Dm D:=w8 fD λi j=>.int (i*j)
section
variable {K:Zfr}
def Tq:nZ K (rI sX λi j=>.int (i*j)) gI:=CI (λi j h=>by
 unfold fD at h;rw[ZbH,ZbH,ZaJ,decide_eq_true_eq,decide_eq_true_eq,decide_eq_true_eq,decide_eq_true_eq]at h
 exact h) λ_ _ _ _=>.int _
end
section
variable {st:Store}{Q:D->Store->Prop}
def Oi{i j:Int}:Wp (gI (.int i) (.int j) st) Q↔fD i j=true/\Q (.int (i*j)) st:=by unfold gI;rw[CQ]
def Oj{i j:Int}(h:i.natAbs<18446744073709551616):fD i j=true:=by unfold fD;rw[decide_eq_true (show -18446744073709551616<i/\i<18446744073709551616 by lk)];rfl
end
abbrev vX:TV->D
 |.int i=>.int i
 |.str x=>.str x
abbrev uf(T:List (Str×TV))(f:ai->Dm D):ai->Dm D:=λδ st=>bnd (f δ st) λy st1=>match y with
 |.str z=>match mz T z with
  |some v=>some (vX v,st1)
  |none=>none
 |_=>none
section
variable {K:Zfr}
def FX(I:List Addr)(H:Hp)(v:TV):Rp K I H v.v (vX v):=by
 cases v with
 |int i=>exact .int i
 |str x=>exact .str x
def Ts{T:List (Str×TV)}{t:TE}{f:ai->Dm D}(h:gU K t f):gU K (Ah T t) (uf T f):=by
 intro I G H δ st d st' Q l rs e q;obtain⟨y,st1,e1,e⟩:=dP e;refine h I G H δ st _ _ _ l rs e1 λx H1 I1 m1 l1 r1=>?_;split at e
 ·next z =>
  split at e
  ·next v hv =>
   cases e;cases r1;exact⟨z,v,rfl,hv,q _ H1 I1 m1 l1 (FX _ _ v)⟩
  ·cases e
 ·cases e
end
def Ol{T:List (Str×TV)}{f:ai->Dm D}{δ:ai}{st:Store}{R:D->Store->Prop}:Wp (uf T f δ st) R↔Wp (f δ st) λy st1=>∃z v,y=.str z/\mz T z=some v/\R (vX v) st1:=by
 unfold uf;rw[dO];constructor<;>refineλh=>aR h λy s h=>?_
 ·split at h
  ·next z =>
   split at h
   ·next v hv=>exact⟨z,v,rfl,hv,bz.mp h⟩
   ·exact(fR.mp h).elim
  ·exact(fR.mp h).elim
 ·obtain⟨z,v,rfl,hv,h⟩:=h
  simp only[hv];exact bz.mpr h
abbrev oQ(fa:ai->Dm (List D)):ai->Dm Src:=λδ st=>bnd (fa δ st) λas st1=>match as with
 |[.tup ds]=>some (.fix (iI ds),st1)
 |[.ref r]=>match items st1 r with
  |some _=>some (.Fe r,st1)
  |none=>none
 |_=>none
section
variable {K:Zfr}
def Tt{r i:Nat}{st:Store}{o:Option D}(h:Src.at (.Fe r) i st=some o):∃ds,items st r=some ds/\i<=ds.length/\(iI ds)[i]?=o:=by
 simp only[Src.at]at h;cases hi:items st r with
 |none=>rw[hi]at h;cases h
 |some ds =>
  rw[hi]at h;simp only[Zbk]at h;split at h
  ·next hl=>exact⟨ds,rfl,hl,Zai h⟩
  ·cases h
def Y8{t:TA}{fa:ai->Dm (List D)}(ha:su K t fa):vj K (uX K t) (oQ fa):=by
 intro I G H δ st S st' Q l rs e q;obtain⟨as,st1,e1,e⟩:=dP e;split at e
 ·cases e
  refine ha I G H δ st _ _ _ l rs e1 λx H1 I1 m1 l1 r1=>?_;obtain⟨v,rfl,r⟩:=r1.one';cases r with
  |tup s r =>
   refine⟨_,rfl,.inl ⟨⟨_,s⟩,q _ H1 I1 m1 l1 λI2 H2 st2 i m2 l2=>⟨λh=>?_,λd h=>?_⟩⟩⟩
   ·obtain⟨h1,h2⟩:=rW h
    have h2:=ZaI.mp h2;rw[uw]at h1 h2;exact⟨_,m2.t _ _ s,by rw[r.length];lk⟩
   ·obtain⟨h1,h2⟩:=rW h
    obtain⟨d',hd',rfl⟩:=AJ h2;obtain⟨v,hv,rv⟩:=r.got hd';refine⟨⟨_,v,m2.t _ _ s,hv⟩,λx H3 y=>?_⟩;obtain⟨p,z,rfl,hp,rfl,hx⟩:=y;have:=hx _ (m2.t _ _ s);rw[hv]at this;cases this;have m3:Mn K I2 H2 I2 (upd H2 p (.tup [.int (i:Int),v])):=Mn.same (hV.up hp);exact⟨m3,l2.same (hV.up hp),.tup (gS.of rY) (.cons (.int _) (.one ((rv.mn m2).mn m3)))⟩
 ·next k =>
  split at e
  ·next ds hd =>
   cases e;refine ha I G H δ st _ _ _ l rs e1 λx H1 I1 m1 l1 r1=>?_;obtain⟨v,rfl,r⟩:=r1.one';cases r with
   |ref hi =>
    obtain⟨vs,s,r⟩:=l1.items hi hd;refine⟨_,rfl,.inr ⟨⟨_,s⟩,q _ H1 I1 m1 l1 λI2 H2 st2 i m2 l2=>⟨λh=>?_,λd h=>?_⟩⟩⟩
    ·obtain⟨NV,hd2,h1,h⟩:=Tt h
     obtain⟨Ff,s2,r2⟩:=l2.items (m2.r _ _ hi) hd2;have h:=ZaI.mp h;rw[uw]at h;exact⟨Ff,s2,by rw[r2.length];lk⟩
    ·obtain⟨NV,hd2,h1,h⟩:=Tt h
     obtain⟨Ff,s2,r2⟩:=l2.items (m2.r _ _ hi) hd2;obtain⟨d',hd',rfl⟩:=AJ h;obtain⟨v,hv,rv⟩:=r2.got hd';refine⟨⟨_,v,s2,hv⟩,λx H3 y=>?_⟩;obtain⟨p,z,rfl,hp,rfl,hx⟩:=y;have:=hx _ s2;rw[hv]at this;cases this;have m3:Mn K I2 H2 I2 (upd H2 p (.tup [.int (i:Int),v])):=Mn.same (hV.up hp);exact⟨m3,l2.same (hV.up hp),.tup (gS.of rY) (.cons (.int _) (.one (rv.mn m3)))⟩
  ·cases e
 ·cases e
end
section
variable {δ:ai}{st:Store}{N B C:ai->Store->Prop}{R:D->Store->Prop}
def Y9{fi:ai->Dm Src}{t:D->ai->Dm ai}{b:ai->Dm Fl}(ds:List D)(Pv:Nat->ai->Store->Prop)(hi:Wp (fi δ st) λS st1=>(∀i δ st,i<=ds.length->Pv i δ st->S.at i st=some ds[i]?)/\Pv 0 δ st1)(hl:ds.length<100000)
  (step:∀i d δ st,ds[i]?=some d->Pv i δ st->Wp (t d δ st) λδ1 st1=>Ws (b δ1 st1) (Pv (i+1)) N (Pv (i+1)) R) (fin:∀δ st,Pv ds.length δ st->N δ st):Ws (bY fi t b δ st) N B C R:=by
 unfold Ws bY;rw[dO];refine aR hi λS mL q=>?_;obtain⟨hS,h0⟩:=q;have key:∀(k i:Nat) (δ:ai) (st:Store),i<=ds.length->ds.length-i<k->Pv i δ st->Ws (gX S t b k i δ st) N B C R:=by
  intro k
  induction k with
  |zero=>intro i δ st _ h;exact absurd h (Za7 _)
  |succ k ih =>
   intro i δ st hi hk' hw;unfold Ws gX;rw[hS i δ st hi hw];cases hd:ds[i]? with
   |none =>
    have:=ZaI.mp hd;have e:i=ds.length:=by lk
    exact bz.mpr (fin δ st (e ▸ hw))
   |some d =>
    have hlt:=(Zad.mp hd).1;show Wp (bnd _ _) _;rw[dO];refine aR (step i d δ st hd hw) λδ1 st1 q=>?_;rw[dO];refine aR q λfl st2 q=>?_;cases fl with
    |nx δ2=>exact ih (i+1) δ2 st2 ⋯ ⋯ q
    |ct δ2=>exact ih (i+1) δ2 st2 ⋯ ⋯ q
    |bk δ2=>exact bz.mpr q
    |rt d=>exact bz.mpr q
 exact key fuel 0 δ mL (ZaZ _) (ZbW ⋯ (show 100000<fuel by decide)) h0
def Bx{st:Store}{r i:Nat}{ds:List D}(h:items st r=some ds)(hi:i<=(iI ds).length):Src.at (.Fe r) i st=some (iI ds)[i]?:=by rw[uw]at hi;simp only[Src.at,h,Zbk];rw[if_pos hi];rfl
def By{st:Store}{i:Nat}{ds:List D}(hi:i<=ds.length):Src.at (.fix ds) i st=some ds[i]?:=by simp only[Src.at];rw[if_pos hi]
end
def Za{δ:ai}{st:Store}{fa:ai->Dm (List D)}{R:Src->Store->Prop}(h:Wp (fa δ st) λas st1=>(∃ds,as=[.tup ds]/\R (.fix (iI ds)) st1)\/∃r ds,as=[.ref r]/\items st1 r=some ds/\R (.Fe r) st1):Wp (oQ fa δ st) R:=by
 unfold oQ;rw[dO];refine aR h λas s h=>?_;rcases h with⟨ds,rfl,h⟩|⟨r,ds,rfl,hi,h⟩
 exact bz.mpr h;simp only[hi];exact bz.mpr h
abbrev j5(lo:Int)(n:Nat):List D:=(List.range n).map λ(k:Nat)=>D.int (lo-k)
def FY(lo:Int)(n:Nat):(j5 lo n).length=n:=by simp[j5]
def Tv{lo:Int}{n k:Nat}(h:k<n):(j5 lo n)[k]?=some (.int (lo-k)):=by simp[j5,h]
abbrev qI(fa:ai->Dm (List D)):ai->Dm Src:=λδ st=>bnd (fa δ st) λas st1=>match as with
 |[.int i,.int j,.int k]=>if decide (((-4611686018427387904<=i/\i<4611686018427387904)/\-4611686018427387904<=j/\j<4611686018427387904)/\k=-1)=true then some (.fix (j5 i (i-j).toNat),st1)else none
 |_=>none
section
variable {K:Zfr}
def Zb{I:List Addr}{H:Hp}(lo:Int)(n:Nat):xh K I H (JS lo n) (.fix (j5 lo n)):=by
 intro I2 H2 st2 i m2 l2;refine⟨λh=>?_,λd h=>?_⟩
 have:=ZaI.mp (rW h).2
 rw[FY]at this;exact this;have h:=(rW h).2;have hl:=(Zad.mp h).1;rw[FY]at hl;rw[Tv hl]at h;cases h;refine⟨hl,λx H3 y=>?_⟩;obtain⟨rfl,rfl⟩:=y;exact⟨.refl,l2,.int _⟩
def Zc{t:TA}{fa:ai->Dm (List D)}(ha:su K t fa):vj K (yh t) (qI fa):=by
 intro I G H δ st S st' Q l rs e q;obtain⟨as,st1,e1,e⟩:=dP e;split at e
 ·split at e
  ·next ok =>
   cases e;have ok:=of_decide_eq_true ok;refine ha I G H δ st _ _ _ l rs e1 λx H1 I1 m1 l1 r1=>?_;cases r1 with
   |cons r rr =>
    obtain⟨v,w,rfl,r',r''⟩:=rr.two';cases r;cases r';cases r'';obtain⟨ok1,rfl⟩:=ok;exact⟨_,_,rfl,by lk,q _ H1 I1 m1 l1 (Zb _ _)⟩
  ·cases e
 ·cases e
end
section
variable {st:Store}
def Zd{δ:ai}{fa:ai->Dm (List D)}{R:Src->Store->Prop}:Wp (qI fa δ st) R↔Wp (fa δ st) λas st1=>∃i j,as=[.int i,.int j,.int (-1)]/\((-4611686018427387904<=i/\i<4611686018427387904)/\-4611686018427387904<=j/\j<4611686018427387904)/\R (.fix (j5 i (i-j).toNat)) st1:=by
 unfold qI;rw[dO];constructor<;>refineλh=>aR h λas s h=>?_
 ·split at h
  ·next i j k =>
   rw[pq,bz,fR]at h;split at h
   ·next hk =>
    have hk:=of_decide_eq_true hk;obtain⟨h1,rfl⟩:=hk;exact⟨i,j,rfl,h1,h⟩
   ·exact h.elim
  ·exact(fR.mp h).elim
 ·obtain⟨i,j,rfl,h1,h⟩:=h
  show Wp (if decide (((-4611686018427387904<=i/\i<4611686018427387904)/\-4611686018427387904<=j/\j<4611686018427387904)/\(-1:Int)=-1)=true then some (Src.fix (j5 i (i-j).toNat),s)else none) R;rw[if_pos (decide_eq_true ⟨h1,rfl⟩)];exact bz.mpr h
end
section
variable {K:Zfr}
abbrev vA:ai->Dm Fl:=λ_ _=>none
def Tw:qX K uG vA:=by intro I G H δ st fl st' E l rs e q;cases e
end
def Tx{ds:List D}{d:D}(h:ds[ds.length-1]?=some d):gT ds (-1)=some d:=by have hl:=(Zad.mp h).1;unfold gT lS;rw[if_neg ∅,if_pos ⋯,Zbk,show((-1:Int)+(ds.length:Int)).toNat=ds.length-1 by lk];exact h
section
variable {K:Zfr}
abbrev qJ:D->D->Dm D:=w8 (λi j=>decide (j≠0/\j.natAbs<1073741824)) λi j=>.int (i.fdiv j)
def Tz:nZ K (rI xR λi j=>.int (i.fdiv j)) qJ:=CI (λi j h=>of_decide_eq_true (p:=j≠0/\j.natAbs<1073741824) h) λ_ _ _ _=>.int _
end
section
variable {st:Store}{Q:D->Store->Prop}
def Ze{i j:Int}:Wp (qJ (.int i) (.int j) st) Q↔(j≠0/\j.natAbs<1073741824)/\Q (.int (i.fdiv j)) st:=by unfold qJ;rw[CQ,decide_eq_true_eq]
end
end L4
namespace My
local macro_rules|`(tactic| w_up)=>`(tactic| first|exact .inl rfl|exact .inr rfl|assumption)
local macro_rules|`(tactic| w_fin)=>`(tactic| decide +kernel)
local macro_rules|`(tactic|walk)=>`(tactic|exact ⟨rfl,rfl,rfl,by w_fin,rfl,by w_fin,by w_fin⟩)
local macro_rules|`(tactic| k_lt $h)=>`(tactic| (refine L4.bA ?_;intro _ $h;set_option simprocs false in simp only[L4.aW]))
local macro_rules|`(tactic|exists $l,*)=>`(tactic|set_option simprocs false in simp only[L4.aW,$[$l:term],*])
local macro_rules|`(tactic| w_how)=>`(tactic| set_option simprocs false in simp only[L4.aW])
open PySem L2 L4
local macro_rules|`($a<|$b)=>`(@wo _ _ _ _ _ $a $b (by rfl))
local macro_rules|`($a<|>$b)=>`(@Cs _ _ _ _ _ $a $b)
local macro_rules|`($a<*$b<*$c)=>`(@Ec _ _ _ _ _ _ _ $a $b $c (λ_ _=>rfl))
local macro_rules|`(~~~$a)=>`(@Jy _ _ _ $a)
local macro_rules|`($a<*>$b<*>$c)=>`(@xK _ _ _ _ _ _ _ _ $a $b $c)
local macro_rules|`($a&&&$b&&&$c)=>`(@PR _ _ _ _ _ _ _ _ PassesOwn.never rfl $a $b $c (by intro _;rfl))
local macro_rules|`($a>>=$b>>=$c)=>`(@Jz (i:=$a) _ _ _ _ _ _ (au.nd $b) rfl (by w_up) $c (by rfl) (by w_up))
def Zf:∀δ st as st',ah δ st=some (as,st')->as.length=0:=λ_ _ _ _ h=>RV h
def vB{f1:ai->Dm D}:∀δ st as st',af f1 ah δ st=some (as,st')->as.length=1:=E5 Zf
def qY{f1 f2:ai->Dm D}:∀δ st as st',af f2 (af f1 ah) δ st=some (as,st')->as.length=2:=E5 vB
def vY{f1 f2 f3:ai->Dm D}:∀δ st as st',af f3 (af f2 (af f1 ah)) δ st=some (as,st')->as.length=3:=E5 qY
def Bz{f1 f2 f3 f4:ai->Dm D}:∀δ st as st',af f4 (af f3 (af f2 (af f1 ah))) δ st=some (as,st')->as.length=4:=E5 vY
def bD{X:Cx}{k k':Nat}{f:Addr}{fd:FuncData}{ps:List Str}{sp:Sp}{x:Str}{st:Stmt}{e:Expr}{es:List Expr}{t:TA}{p pos:Pos}(F:aC X.prog X.w X.K X.mg X.base bq k f fd ps sp)(D:Def X.K X.mg x st ps f fd)(hr:jQ k' X.A)(hk:k<=k')(hg:Gl X x)(ha:PA X (e :: es) t)(hdb:(x == ("__debug__" : Str))=false:=by decide)(he:starEach (e :: es) X.env=(false,eval e X.env) :: starEach es X.env:=by rfl)(hpl:(backTo pos (starEach es X.env)).any (·.1)=false:=by rfl):PE X (.Call (.Name x p) (e :: es) [] pos) (uM sp [] E0 t):=Mm F (hr.mono hk) hg D.m D.F.kp D.b .nil uS ha hdb he hpl
def sF{n:Nat}{us:List Value}(h:us.length=n+1):∃a t,us=a :: t/\t.length=n:=by cases us with|nil=>cases h|cons a t=>exact⟨a,t,rfl,Nat.succ.inj h⟩
def pZ{fd:FuncData}{p0:Str}(k:∀x0,bindArgs fd ⟨[x0],[]⟩=pure [(p0,x0)])(us:List Value)(h:us.length=1):bindArgs fd ⟨us,[]⟩=pure ([p0].zip us):=by obtain⟨x0,t0,rfl,g1⟩:=sF h;cases ZaY g1;exact k x0
def oR{fd:FuncData}{p0 p1:Str}(k:∀x0 x1,bindArgs fd ⟨[x0,x1],[]⟩=pure [(p0,x0),(p1,x1)])(us:List Value)(h:us.length=2):bindArgs fd ⟨us,[]⟩=pure ([p0,p1].zip us):=by obtain⟨x0,t0,rfl,g1⟩:=sF h;obtain⟨x1,t1,rfl,g2⟩:=sF g1;cases ZaY g2;exact k x0 x1
def uy{fd:FuncData}{p0 p1 p2:Str}(k:∀x0 x1 x2,bindArgs fd ⟨[x0,x1,x2],[]⟩=pure [(p0,x0),(p1,x1),(p2,x2)])(us:List Value)(h:us.length=3):bindArgs fd ⟨us,[]⟩=pure ([p0,p1,p2].zip us):=by obtain⟨x0,t0,rfl,g1⟩:=sF h;obtain⟨x1,t1,rfl,g2⟩:=sF g1;obtain⟨x2,t2,rfl,g3⟩:=sF g2;cases ZaY g3;exact k x0 x1 x2
def Zg{fd:FuncData}{p0 p1 p2 p3:Str}(k:∀x0 x1 x2 x3,bindArgs fd ⟨[x0,x1,x2,x3],[]⟩=pure [(p0,x0),(p1,x1),(p2,x2),(p3,x3)])(us:List Value)(h:us.length=4):bindArgs fd ⟨us,[]⟩=pure ([p0,p1,p2,p3].zip us):=by obtain⟨x0,t0,rfl,g1⟩:=sF h;obtain⟨x1,t1,rfl,g2⟩:=sF g1;obtain⟨x2,t2,rfl,g3⟩:=sF g2;obtain⟨x3,t3,rfl,g4⟩:=sF g3;cases ZaY g4;exact k x0 x1 x2 x3
def Zh{fd:FuncData}{p0 p1 p2 p3 p4:Str}(k:∀x0 x1 x2 x3 x4,bindArgs fd ⟨[x0,x1,x2,x3,x4],[]⟩=pure [(p0,x0),(p1,x1),(p2,x2),(p3,x3),(p4,x4)])(us:List Value)(h:us.length=5):bindArgs fd ⟨us,[]⟩=pure ([p0,p1,p2,p3,p4].zip us):=by obtain⟨x0,t0,rfl,g1⟩:=sF h;obtain⟨x1,t1,rfl,g2⟩:=sF g1;obtain⟨x2,t2,rfl,g3⟩:=sF g2;obtain⟨x3,t3,rfl,g4⟩:=sF g3;obtain⟨x4,t4,rfl,g5⟩:=sF g4;cases ZaY g5;exact k x0 x1 x2 x3 x4
local macro_rules|`(tactic| o_norm)=>do let f:=λs:String=>(s.splitOn " ").toArray.map λs=>Lean.mkIdent (.mkSimple s);let x:=f "fe iA bF yu Ka cJ aG e8 rC oF yw sx xc aU bZ CN NN RX sy yx RY nG CG RW AH Sb R7 qb NU Kb AA Ke Sj i6 sD xj fQ CP Sl NQ yy NS NR NT t5 Kc R8 w6 R0 wY wZ AB Fg Kg CO Kf Tq mV Tz RU CJ Tp Fh RT yq Tw xa Sv Sw Sx ve Fc Sn Ob RZ R6 S9 Sk J9 yI FO Td N0 CS NZ xk Ts Si R5";`(tactic| repeat' (first|with_reducible (first|(first $[|apply $x]*)|exactλ_ _ _ _ h=>RV h|apply E5)|exact cJ _|exact aG _|first|(first $[|apply $x]*)))
set_option hygiene false
local macro_rules|`($a|||$b|||$c:ident)=>`(by refine D.F.ok $a (λ_ _ _ _ h=>h.1) (λc A o s H v Q E hr h=>?_);have hu:=hr.units;refine⟨_,$b,?_⟩;exact fB (b:=$c) (by delta $c;o_norm) rfl h)
set_option hygiene true
local macro_rules|`(tactic|k_in)=>`(tactic|exact ⟨⟨rfl,by w_fin,by w_fin,by dsimp only[jR,aX,Cx.qU,Cx.wish,PyProof.Rows.envOfC,compEnvC,relabel,Env.kindOf];decide +kernel,by w_fin⟩,rfl⟩)
local macro_rules|`(tactic|k_lt2 $h)=>`(tactic|(clear $h;k_lt $h))
local macro_rules|`(tactic|exists _,$h:ident,$l,*)=>`(tactic|(refine L4.bA ?_;intro _ $h;exists $l,*))
abbrev top(i:Nat):Stmt:=PySem.Challenge.pw_shearfloor_k67_whole_carried_crossings.main.body.getD i (.Pass ⟨0,0,0,0⟩)
@[reducible]def IV:=Nat->ai->Store->Prop
@[reducible]def IN:=ai->Store->Prop
def nI{st:Store}{R:D->Store->Prop}{n:Nat}{b:ai->Dm Fl}{ds:List D}(h:let q:=R;Ws (b (ds.map some ++ List.replicate (n-ds.length) none) st) (λ_ st1=>q .non st1) (λ_ _=>False) (λ_ _=>False) q):Wp (eF n b ds st) R:=mM h
structure Txt(mg:Str->Option Value):Prop where
 FZ:mg "all" = none
 jc:mg "enumerate" = none
 yK:mg "int" = none
 bW:mg "len" = none
 fT:mg "list" = none
 F0:mg "max" = none
 aV:mg "range" = none
 mY:mg "reversed" = none
 bL:mg "tuple" = none
 yL:mg "zip" = none
section
variable {P:Program}{w:World}{K:Zfr}{mg:Str->Option Value}{base:Heap}{f:Addr}{fd:FuncData}
abbrev F3:ai->Dm Fl :=
 (aq (ay (ao b8 (ao jH (fC (.int 7901)) (ag 1)) (fC (.int 24697))) (hName 2))
 (aq (iF (aI (ao E7 (ag 1) (aK dM (af (ag 0) ah)))) (ay (ao hZ (ag 0) (ag 1)) (hName 2)) (iF (aI (ao E8 (aK dM (af (ag 0) ah)) (fC (.int 0)))) (ay (ao b8 (ao jH (ao oh (ao hZ (ag 0) (ao oh (ag 1) (aK dM (af (ag 0) ah)))) (fC (.int 2147483629))) (fC (.int 31))) (ao jH (fC (.int 7901)) (ag 1))) (hName 2)) bx))
 (aq (ay (fC (.int 0)) (hName 3))
 (aq (iF (aI (ao NM (ag 2) (ao vg (fC (.int 10)) (fC (.int 18))))) (ay (ag 2) (hName 3)) bx)
 (aQ (ft (af (ag 3) (af (ao b8 (ao oh (ao vg (ao b8 (ao jH (ao oh (ag 2) (fC (.int 2147483629))) (fC (.int 48271))) (ao jH (fC (.int 40692)) (ag 1))) (fC (.int 5))) (fC (.int 2147483629))) (fC (.int 1))) ah))))))))
abbrev Kn:List D->Dm D:=eF 4 F3
abbrev F4:Stmt:=top 63
def CW:au ["_law_script","_law_k","_law_cell","_law_own"] ["_law_script","_law_k"] (aj F4):=by walk
abbrev Gx1:=λ(n:Str)(s:Stmt)(p:List Str)K mg=>Def K mg n s p
abbrev Gx2:=λ(p:List Str)(N n:Nat)F P w K mg base f d=>aC P w K mg base bq N f d p (bw K n F)
abbrev D10:=Gx1 "_law_feed" F4 ["_law_script","_law_k"]
abbrev G10:=Gx2 ["_law_script","_law_k"] 1 2 Kn
def Zi(D:D10 K mg f fd)(T:Txt mg):G10 P w K mg base f fd:=CW|||((2>>=CW>>=a8 jO (a8 qV aE (pv 1)) aE)<|>(gH Mj (pv 1) (my mS (by rfl) T.bW mU (pv 0<|aw)) (aH _)<*>(~~~(2>>=CW>>=(pW<*pv 0<*pv 1)))<*>(~~~(gH Mk (my mS (by rfl) T.bW mU (pv 0<|aw)) aE (aH _)<*>(~~~(2>>=CW>>=a8 jO (a8 qV (a8 vL (pW<*pv 0<*a8 vL (pv 1) (my mS (by rfl) T.bW mU (pv 0<|aw))) aE) aE) (a8 qV aE (pv 1))))<*>la)))<|>(3>>=CW>>=aE)<|>(gH D3 (pv 2) (a8 PY aE aE) (aH _)<*>(~~~(3>>=CW>>=pv 2))<*>la)<|>(~~~(@cD _ _ _ _ (@oB _ _ _ _ (pv 3<|a8 jO (a8 vL (a8 PY (a8 jO (a8 qV (a8 vL (pv 2) aE) aE) (a8 qV aE (pv 1))) aE) aE) aE<|aw)))))|||F3
variable {j6:Addr}{j7:FuncData}(iK:D10 K mg j6 j7)(j8:G10 P w K mg base j6 j7)
abbrev F5:ai->Dm Fl :=
 (aq (iF (aI (ao E8 (ao hZ (ag 0) (fC (.int 0))) (fC (.int 0)))) (aq (ay (ao oh (ao hZ (ag 0) (fC (.int 0))) (ag 1)) (hName 2))
 (aq (ay (ao rz (ao hZ (ag 0) (fC (.int 0))) (ag 1)) (hSub (ag 0) (fC (.int 0))))
 (aQ (ag 2)))) bx)
 (aq (ay (ao oh (ao jH (ao hZ (ag 0) (fC (.int 1))) (fC (.int 48271))) (fC (.int 2147483647))) (hName 3))
 (aq (ay (ao b8 (ao oh (ao b8 (ao jH (ag 3) (fC (.int 40692))) (fC (.int 30103))) (fC (.int 2147483399))) (fC (.int 1))) (hSub (ag 0) (fC (.int 1))))
 (aQ (ao oh (ao rz (ao b8 (ao jH (ag 3) (fC (.int 2147483647))) (ao hZ (ag 0) (fC (.int 1)))) (fC (.int 8191))) (ag 1))))))
abbrev pR:List D->Dm D:=eF 4 F5
abbrev F6:Stmt:=top 64
def Om:au ["_law_feed_here","_law_many","_law_digit","_law_one"] ["_law_feed_here","_law_many"] (aj F6):=by walk
abbrev D11:=Gx1 "_law_take" F6 ["_law_feed_here","_law_many"]
abbrev G11:=Gx2 ["_law_feed_here","_law_many"] 1 2 pR
def Zj(D:D11 K mg f fd)(T:Txt mg):G11 P w K mg base f fd:=Om|||((gH Mk (pW<*pv 0<*aE) aE (aH _)<*>((2>>=Om>>=a8 vL (pW<*pv 0<*aE) (pv 1))<|>sd (a8 PX (pW<*pv 0<*aE) (pv 1)) (rP (pv 0) aE rQ)<|>(~~~(@cD _ _ _ _ (pv 2))))<*>la)<|>(3>>=Om>>=a8 vL (a8 qV (pW<*pv 0<*aE) aE) aE)<|>sd (a8 jO (a8 vL (a8 jO (a8 qV (pv 3) aE) aE) aE) aE) (rP (pv 0) aE rQ)<|>(~~~(@cD _ _ _ _ (a8 vL (a8 PX (a8 jO (a8 qV (pv 3) aE) (pW<*pv 0<*aE)) aE) (pv 1)))))|||F5
variable {j9:Addr}{ka:FuncData}(az:D11 K mg j9 ka)(aA:G11 P w K mg base j9 ka)
abbrev F7:ai->Dm Fl :=
 (aq (ay (aK gW (af (aK lV (af (ag 1) ah)) ah)) (hName 2))
 (aq (ay (cP ah) (hName 3))
 (aq (j3 (aI (ao (oG true) (ag 2) (ft ah))) (ay (ao mJ (ag 3) (cP (af (rV "list" oj (ag 2) (af (aK pR (af (ag 0) (af (aK dM (af (ag 2) ah)) ah))) ah)) ah))) (hName 3)))
 (aQ (ag 3)))))
abbrev F8:List D->Dm D:=eF 4 F7
abbrev F9:Stmt:=top 65
def Ko:au ["_law_feed_here","_law_n","_law_left","_law_found"] ["_law_feed_here","_law_n"] (aj F9):=by walk
abbrev D12:=Gx1 "_law_turning" F9 ["_law_feed_here","_law_n"]
abbrev G12:=Gx2 ["_law_feed_here","_law_n"] 2 2 F8
include az aA in
def Zk(D:D12 K mg f fd)(T:Txt mg):G12 P w K mg base f fd:=Ko|||((2>>=Ko>>=ja (wH rfl) (by rfl) T.fT tU (ja ML (by rfl) T.aV wG (pv 1<|aw)<|aw))<|>(3>>=Ko>>=(@lp _ _ _ _ _ aw))<|>zA PassesOwn.never (gH (MN hu) (pv 2) (@oB _ _ _ _ aw) (aH _)) (~~~(3>>=Ko>>=a8 zU (pv 3) (@lp _ _ _ _ _ (tQ PySem.F.plainAttrs_list PySem.F.slot_list_pop PySem.F.type_list_pop V3 (pv 2) (bD aA az hr ∅ rfl (pv 0<|my mS (by rfl) T.bW mU (pv 2<|aw)<|aw)<|aw)<|aw))))<|>(~~~(@cD _ _ _ _ (pv 3))))|||F7
variable {gj:Addr}{gk:FuncData}(cV:D12 K mg gj gk)(dR:G12 P w K mg base gj gk)
abbrev Ga:ai->Dm Fl :=
 (aq (ay (ft (af (fC (.int 0)) ah)) (hName 1))
 (aq (bY (bR (af (ao b8 (fC (.int 1)) (aK dM (af (ao av (ag 0) (fC (.int 0))) ah))) ah)) (hName 2) (bY (hJ (ag 0)) (hName 3) (bY (oo (aK pj (af (ag 1) ah))) (hName 4) (iF (aI (ao (vi true) (ao av (ag 3) (ag 4)) (ag 1))) (mK (rV "list" gg (ag 1) (af (ao av (ag 3) (ag 4)) ah))) bx))))
 (aQ (ag 1))))
abbrev CY:List D->Dm D:=eF 5 Ga
abbrev Gb:Stmt:=top 66
def Gd:au ["_law_floor_here","_law_found","_law_turn","_law_turning_here","_law_one"] ["_law_floor_here"] (aj Gb):=by walk
abbrev D13:=Gx1 "_law_met" Gb ["_law_floor_here"]
abbrev G13:=Gx2 ["_law_floor_here"] 1 1 CY
def Zl(D:D13 K mg f fd)(T:Txt mg):G13 P w K mg base f fd:=Gd|||((1>>=Gd>>=(@oB _ _ _ _ (aE<|aw)))<|>(p8 rfl T.aV (a8 jO aE (my mS (by rfl) T.bW mU ((aY<*pv 0<*aE)<|aw))<|aw)&&&(fm (i:=2) Gd.nd rfl (by w_up))&&&(~~~(tO (pv 0)&&&(fm (i:=3) Gd.nd rfl (by w_up))&&&(~~~(Mh (ja JF (by rfl) T.fT tU (pv 1<|aw))&&&(fm (i:=4) Gd.nd rfl (by w_up))&&&(~~~(gH MA (aY<*pv 3<*pv 4) (pv 1) (by with_unfolding_all rfl)<*>(~~~zx (tQ PySem.F.plainAttrs_list PySem.F.slot_list_append PySem.F.type_list_append zN (pv 1) ((aY<*pv 3<*pv 4)<|aw)))<*>la)))))))<|>(~~~(@cD _ _ _ _ (pv 1))))|||Ga
variable {lW:Addr}{lX:FuncData}(iB:D13 K mg lW lX)(jT:G13 P w K mg base lW lX)
abbrev Ge:ai->Dm Fl :=
 (aq (ay (aK pR (af (ag 0) (af (fC (.int 6)) ah))) (hName 2))
 (aq (rD 3 4 (af (aK pj (af (aK F8 (af (ag 0) (af (ag 1) ah))) ah)) (af (aK pj (af (aK F8 (af (ag 0) (af (ag 1) ah))) ah)) ah)))
 (aq (iF (aI (ao (iG false) (ag 2) (fC (.int 0)))) (ay (ao oi (aK gW (af (aK h7 (af (fC (.int 1)) (af (ag 1) ah))) ah)) (ft (af (fC (.int 0)) ah))) (hName 3)) bx)
 (aq (iF (aI (ao (iG false) (ag 2) (fC (.int 1)))) (rD 3 4 (af (aK gW (af (aK lV (af (ag 1) ah)) ah)) (af (ao oi (aK gW (af (aK h7 (af (fC (.int 1)) (af (ag 1) ah))) ah)) (ft (af (fC (.int 0)) ah))) ah))) bx)
 (aq (iF (aI (ao (iG false) (ag 2) (fC (.int 2)))) (aq (ay (ao b8 (fC (.int 1)) (aK pR (af (ag 0) (af (ag 1) ah)))) (hName 5))
 (aq (ay (ao oi (ao oi (aK gW (af (aK h7 (af (fC (.int 1)) (af (ag 5) ah))) ah)) (ft (af (fC (.int 0)) ah))) (aK gW (af (aK h7 (af (ag 5) (af (ag 1) ah))) ah))) (hName 3))
 (aq (ay (uv vh (ao oi (ao oi (ao oi (ft (af (ag 5) ah)) (aK gW (af (aK h7 (af (fC (.int 1)) (af (ag 5) ah))) ah))) (aK gW (af (aK h7 (af (ao b8 (ag 5) (fC (.int 1))) (af (ag 1) ah))) ah))) (ft (af (fC (.int 0)) ah))) fu (kT (ag 1))) (hName 4))
 (iF (aI (ao (iG false) (ag 5) (ag 1))) (ay (aK gW (af (aK lV (af (ag 1) ah)) ah)) (hName 4)) bx)))) bx)
 (aq (ay (cP (af (aK bU (af (ag 3) ah)) (af (aK bU (af (ag 4) ah)) ah))) (hName 6))
 (aq (ay (dC (bR (af (ag 1) ah)) 1 [6] (hName 0) (aI (ao (vi true) (ag 0) (aK CY (af (ag 1) ah)))) (ag 0)) (hName 7))
 (aq (j3 (aI (ao (oG true) (ag 7) (ft ah))) (aq (ay (ao hZ (ag 7) (fC (.int 0))) (hName 8))
 (aq (ay (cP (af (ao hZ (ag 3) (ag 8)) (af (ao hZ (ag 3) (fC (.int 0))) ah))) (om 2 (eW (hSub (ag 3) (fC (.int 0))) (eW (hSub (ag 3) (ag 8)) pk))))
 (aq (ay (cP (af (aK bU (af (ag 3) ah)) (af (aK bU (af (ag 4) ah)) ah))) (hName 6))
 (ay (dC (bR (af (ag 1) ah)) 1 [6] (hName 0) (aI (ao (vi true) (ag 0) (aK CY (af (ag 1) ah)))) (ag 0)) (hName 7))))))
 (aQ (ag 6))))))))))
abbrev Kq:List D->Dm D:=eF 9 Ge
abbrev Gg:Stmt:=top 67
def tD:au ["_law_feed_here","_law_n","_law_form","_law_right_here","_law_up","_law_wide","_law_found","_law_apart","_law_m"] ["_law_feed_here","_law_n"] (aj Gg):=by walk
abbrev D14:=Gx1 "_law_floor" Gg ["_law_feed_here","_law_n"]
abbrev G14:=Gx2 ["_law_feed_here","_law_n"] 3 2 Kq
include az aA cV dR iB jT in
def Zm(D:D14 K mg f fd)(T:Txt mg):G14 P w K mg base f fd:=tD|||((2>>=tD>>=bD aA az hr ∅ rfl (pv 0<|aE<|aw))<|>(DS (i:=3) (j:=4) rfl tD.nd rfl rfl ∅ rfl rfl (ja JF (by rfl) T.fT tU (bD dR cV hr ∅ rfl (pv 0<|pv 1<|aw)<|aw)<|ja JF (by rfl) T.fT tU (bD dR cV hr ∅ rfl (pv 0<|pv 1<|aw)<|aw)<|aw) rfl)<|>(gH nu (pv 2) aE (aH _)<*>(~~~(3>>=tD>>=a8 vP (ja (wH rfl) (by rfl) T.fT tU (ja Cv (by rfl) T.aV wG (aE<|pv 1<|aw)<|aw)) (@oB _ _ _ _ (aE<|aw))))<*>la)<|>(gH nu (pv 2) aE (aH _)<*>(~~~(DS (i:=3) (j:=4) rfl tD.nd rfl rfl ∅ rfl rfl (ja (wH rfl) (by rfl) T.fT tU (ja ML (by rfl) T.aV wG (pv 1<|aw)<|aw)<|a8 vP (ja (wH rfl) (by rfl) T.fT tU (ja Cv (by rfl) T.aV wG (aE<|pv 1<|aw)<|aw)) (@oB _ _ _ _ (aE<|aw))<|aw) rfl))<*>la)<|>(gH nu (pv 2) aE (aH _)<*>((5>>=tD>>=a8 jO aE (bD aA az hr ∅ rfl (pv 0<|pv 1<|aw)))<|>(3>>=tD>>=a8 vP (a8 vP (ja (wH rfl) (by rfl) T.fT tU (ja Cv (by rfl) T.aV wG (aE<|pv 5<|aw)<|aw)) (@oB _ _ _ _ (aE<|aw))) (ja (wH rfl) (by rfl) T.fT tU (ja Cv (by rfl) T.aV wG (pv 5<|pv 1<|aw)<|aw)))<|>(4>>=tD>>=wy Qo (a8 vP (a8 vP (a8 vP (@oB _ _ _ _ (pv 5<|aw)) (ja (wH rfl) (by rfl) T.fT tU (ja Cv (by rfl) T.aV wG (aE<|pv 5<|aw)<|aw))) (ja (wH rfl) (by rfl) T.fT tU (ja Cv (by rfl) T.aV wG (a8 jO (pv 5) aE<|pv 1<|aw)<|aw))) (@oB _ _ _ _ (aE<|aw))) wt (wx (pv 1)))<|>(~~~(gH nu (pv 5) (pv 1) (aH _)<*>(~~~(4>>=tD>>=ja (wH rfl) (by rfl) T.fT tU (ja ML (by rfl) T.aV wG (pv 1<|aw)<|aw)))<*>la)))<*>la)<|>(6>>=tD>>=(@lp _ _ _ _ _ (ja p9 (by rfl) T.bL qa (pv 3<|aw)<|ja p9 (by rfl) T.bL qa (pv 4<|aw)<|aw)))<|>(QR (i:=7) (own:=["_law_s"]) (fr:=["_law_found"]) (js:=[6]) rfl tD.nd rfl rfl (by k_in) (p8 rfl T.aV (pv 1<|aw)) (λ_ _ _ _ _=>(fm (i:=0) (show((["_law_s"]:List Str) ++ (["_law_found"]:List Str)).Nodup by w_fin) rfl (by w_up))) (λ_ _ _ _ _=>(QN (gH (QT (K:=K) rfl) (pv 0) (bD jT iB hr ∅ rfl (pv 1<|aw)) (by with_unfolding_all rfl)))) (λ_ _ _ _ _=>(pv 0)))<|>zA PassesOwn.never (gH (MN hu) (pv 7) (@oB _ _ _ _ aw) (aH _)) ((8>>=tD>>=(pW<*pv 7<*aE))<|>sd (@lp _ _ _ _ _ ((pW<*pv 3<*pv 8)<|(pW<*pv 3<*aE)<|aw)) (xO (n:=2) rfl (rO (rP (pv 3) aE rQ) (rO (rP (pv 3) (pv 8) rQ) xN)))<|>(6>>=tD>>=(@lp _ _ _ _ _ (ja p9 (by rfl) T.bL qa (pv 3<|aw)<|ja p9 (by rfl) T.bL qa (pv 4<|aw)<|aw)))<|>(~~~(QR (i:=7) (own:=["_law_s"]) (fr:=["_law_found"]) (js:=[6]) rfl tD.nd rfl rfl (by k_in) (p8 rfl T.aV (pv 1<|aw)) (λ_ _ _ _ _=>(fm (i:=0) (show((["_law_s"]:List Str) ++ (["_law_found"]:List Str)).Nodup by w_fin) rfl (by w_up))) (λ_ _ _ _ _=>(QN (gH (QT (K:=K) rfl) (pv 0) (bD jT iB hr ∅ rfl (pv 1<|aw)) (by with_unfolding_all rfl)))) (λ_ _ _ _ _=>(pv 0)))))<|>(~~~(@cD _ _ _ _ (pv 6))))|||Ge
variable {jd:Addr}{je:FuncData}(gJ:D14 K mg jd je)(jf:G14 P w K mg base jd je)
abbrev Gh:ai->Dm Fl :=
 (aQ (cP (af (ao b8 (ao gI (ao av (ag 0) (fC (.int 0))) (ao av (ag 1) (fC (.int 0)))) (ao gI (ao av (ag 0) (fC (.int 1))) (ao av (ag 1) (fC (.int 1))))) (af (ao b8 (ao gI (ao av (ag 0) (fC (.int 2))) (ao av (ag 1) (fC (.int 0)))) (ao gI (ao av (ag 0) (fC (.int 3))) (ao av (ag 1) (fC (.int 1))))) ah))))
abbrev Gi:List D->Dm D:=eF 2 Gh
abbrev Gj:Stmt:=top 16
def Zn:au ["table","pair"] ["table","pair"] (aj Gj):=by walk
abbrev D15:=Gx1 "led_pair" Gj ["table","pair"]
abbrev G15:=Gx2 ["table","pair"] 1 2 Gi
def Zo(D:D15 K mg f fd)(T:Txt mg):G15 P w K mg base f fd:=Zn|||(~~~(@cD _ _ _ _ (@lp _ _ _ _ _ (a8 jO (a8 sY (aY<*pv 0<*aE) (aY<*pv 1<*aE)) (a8 sY (aY<*pv 0<*aE) (aY<*pv 1<*aE))<|a8 jO (a8 sY (aY<*pv 0<*aE) (aY<*pv 1<*aE)) (a8 sY (aY<*pv 0<*aE) (aY<*pv 1<*aE))<|aw))))|||Gh
variable {lY:Addr}{lZ:FuncData}(jU:D15 K mg lY lZ)(l6:G15 P w K mg base lY lZ)
abbrev Gk:ai->Dm Fl :=
 (aq (iF (aI (ao (iG false) (ag 0) (fC (.int 0)))) (aQ (cP ah)) bx)
 (aQ (cP (af (cP (af (fC (.str "s")) (af (ag 0) ah))) ah))))
abbrev xm:List D->Dm D:=eF 1 Gk
abbrev Gm:Stmt:=top 31
def Zp:au ["k"] ["k"] (aj Gm):=by walk
abbrev D16:=Gx1 "shears" Gm ["k"]
abbrev G16:=Gx2 ["k"] 1 1 xm
def Zq(D:D16 K mg f fd)(T:Txt mg):G16 P w K mg base f fd:=Zp|||((gH nu (pv 0) aE (aH _)<*>(~~~(@cD _ _ _ _ (@lp _ _ _ _ _ aw)))<*>la)<|>(~~~(@cD _ _ _ _ (@lp _ _ _ _ _ ((@lp _ _ _ _ _ (fO<|pv 0<|aw))<|aw)))))|||Gk
variable {oS:Addr}{oT:FuncData}(h8:D16 K mg oS oT)(jg:G16 P w K mg base oS oT)
abbrev Gn:ai->Dm Fl :=
 (aQ (cP (af (ao b8 (ao gI (ao av (ag 0) (fC (.int 0))) (ao av (ag 1) (fC (.int 0)))) (ao gI (ao av (ag 0) (fC (.int 1))) (ao av (ag 1) (fC (.int 2))))) (af (ao b8 (ao gI (ao av (ag 0) (fC (.int 0))) (ao av (ag 1) (fC (.int 1)))) (ao gI (ao av (ag 0) (fC (.int 1))) (ao av (ag 1) (fC (.int 3))))) (af (ao b8 (ao gI (ao av (ag 0) (fC (.int 2))) (ao av (ag 1) (fC (.int 0)))) (ao gI (ao av (ag 0) (fC (.int 3))) (ao av (ag 1) (fC (.int 2))))) (af (ao b8 (ao gI (ao av (ag 0) (fC (.int 2))) (ao av (ag 1) (fC (.int 1)))) (ao gI (ao av (ag 0) (fC (.int 3))) (ao av (ag 1) (fC (.int 3))))) ah))))))
abbrev yM:List D->Dm D:=eF 2 Gn
abbrev Gp:Stmt:=top 15
def Zs:au ["one","other"] ["one","other"] (aj Gp):=by walk
abbrev D17:=Gx1 "times" Gp ["one","other"]
abbrev G17:=Gx2 ["one","other"] 1 2 yM
def Zt(D:D17 K mg f fd)(T:Txt mg):G17 P w K mg base f fd:=Zs|||(~~~(@cD _ _ _ _ (@lp _ _ _ _ _ (a8 jO (a8 sY (aY<*pv 0<*aE) (aY<*pv 1<*aE)) (a8 sY (aY<*pv 0<*aE) (aY<*pv 1<*aE))<|a8 jO (a8 sY (aY<*pv 0<*aE) (aY<*pv 1<*aE)) (a8 sY (aY<*pv 0<*aE) (aY<*pv 1<*aE))<|a8 jO (a8 sY (aY<*pv 0<*aE) (aY<*pv 1<*aE)) (a8 sY (aY<*pv 0<*aE) (aY<*pv 1<*aE))<|a8 jO (a8 sY (aY<*pv 0<*aE) (aY<*pv 1<*aE)) (a8 sY (aY<*pv 0<*aE) (aY<*pv 1<*aE))<|aw))))|||Gn
variable {qK:Addr}{qL:FuncData}(iL:D17 K mg qK qL)(jI:G17 P w K mg base qK qL)
abbrev Kr:ai->Dm Fl :=
 (aq (iF (aI (ao (iG false) (ao av (ag 0) (fC (.int 0))) (fC (.str "s")))) (aQ (cP (af (fC (.int 1)) (af (ao av (ag 0) (fC (.int 1))) (af (fC (.int 0)) (af (fC (.int 1)) ah)))))) bx)
 (aq (ay (fC (.tup [(.int 1),(.int 0),(.int 0),(.int 1)])) (hName 1))
 (aq (bY (bR (af (ao av (ag 0) (fC (.int 1))) ah)) (hName 2) (ay (aK yM (af (fC (.tup [(.int 0),(.int (-1)),(.int 1),(.int 0)])) (af (ag 1) ah))) (hName 1)))
 (aQ (ag 1)))))
abbrev Gq:List D->Dm D:=eF 3 Kr
abbrev Gr:Stmt:=top 20
def Ks:au ["step","table","turn"] ["step"] (aj Gr):=by walk
abbrev D18:=Gx1 "step_table" Gr ["step"]
abbrev G18:=Gx2 ["step"] 2 1 Gq
include iL jI in
def Zu(D:D18 K mg f fd)(T:Txt mg){pB:V}(nJ:uL K mg "QUARTER" pB (.tup [(.int 0),(.int (-1)),(.int 1),(.int 0)])){lB:V}(gK:uL K mg "UNMOVED" lB (.tup [(.int 1),(.int 0),(.int 0),(.int 1)])):G18 P w K mg base f fd:=by
 refine D.F.ok Ks (λ_ _ _ _ h=>h.1) (λc A o s H v Q E hr h=>?_);refine⟨_,((gH nu (aY<*pv 0<*aE) fO (aH _)<*>(~~~(@cD _ _ _ _ (@lp _ _ _ _ _ (aE<|(aY<*pv 0<*aE)<|aE<|aE<|aw))))<*>la)<|>(1>>=Ks>>=Oe gK rfl rfl ∅)<|>(p8 rfl T.aV ((aY<*pv 0<*aE)<|aw)&&&(fm (i:=2) Ks.nd rfl (by w_up))&&&(~~~(1>>=Ks>>=bD jI iL hr ∅ rfl (Oe nJ rfl rfl ∅<|pv 1<|aw))))<|>(~~~(@cD _ _ _ _ (pv 1)))),?_⟩
 exact fB (b:=Kr) (fe (rC (oF (bF t5 (bF fQ (aG 0) (cJ _)) (mV _))) (nG (qb (aU (cJ _) (aU (bF fQ (aG 0) (cJ _)) (aU (cJ _) (aU (cJ _) bZ)))))) sy)
  (fe (iA (Og gK) (e8 1))
  (fe (sD (xj (aU (bF fQ (aG 0) (cJ _)) bZ)) (e8 2) (iA (i6 (F:=yM) (aU (Og nJ) (aU (aG 1) bZ)) qY) (e8 1)))
  (nG (aG 1))))) rfl h
variable {jh:Addr}{ji:FuncData}(gL:D18 K mg jh ji)(jk:G18 P w K mg base jh ji)
abbrev Kt:ai->Dm Fl :=
 (aq (ay (fC (.tup [(.int 1),(.int 0),(.int 0),(.int 1)])) (hName 1))
 (aq (bY (hJ (ag 0)) (hName 2) (ay (aK yM (af (aK Gq (af (ag 2) ah)) (af (ag 1) ah))) (hName 1)))
 (aQ (ag 1))))
abbrev BA:List D->Dm D:=eF 3 Kt
abbrev Gs:Stmt:=top 21
def Ku:au ["word","table","step"] ["word"] (aj Gs):=by walk
abbrev D19:=Gx1 "table_of" Gs ["word"]
abbrev G19:=Gx2 ["word"] 3 1 BA
include iL jI gL jk in
def Zv(D:D19 K mg f fd)(T:Txt mg){lB:V}(gK:uL K mg "UNMOVED" lB (.tup [(.int 1),(.int 0),(.int 0),(.int 1)])):G19 P w K mg base f fd:=by
 refine D.F.ok Ku (λ_ _ _ _ h=>h.1) (λc A o s H v Q E hr h=>?_);refine⟨_,((1>>=Ku>>=Oe gK rfl rfl ∅)<|>(tO (pv 0)&&&(fm (i:=2) Ku.nd rfl (by w_up))&&&(~~~(1>>=Ku>>=bD jI iL hr ∅ rfl (bD jk gL hr ∅ rfl (pv 2<|aw)<|pv 1<|aw))))<|>(~~~(@cD _ _ _ _ (pv 1)))),?_⟩
 exact fB (b:=Kt) (fe (iA (Og gK) (e8 1))
  (fe (sD (CP (aG 0)) (e8 2) (iA (i6 (F:=yM) (aU (i6 (F:=Gq) (aU (aG 2) bZ) vB) (aU (aG 1) bZ)) qY) (e8 1)))
  (nG (aG 1)))) rfl h
variable {l8:Addr}{l9:FuncData}(cF:D19 K mg l8 l9)(cW:G19 P w K mg base l8 l9)
abbrev Gu:ai->Dm Fl :=
 (aQ (ao qJ (ao b8 (ao jH (fC (.int 2)) (ag 0)) (ag 1)) (ao jH (fC (.int 2)) (ag 1))))
abbrev Gv:List D->Dm D:=eF 2 Gu
abbrev Gw:Stmt:=top 30
def Zw:au ["number","divisor"] ["number","divisor"] (aj Gw):=by walk
abbrev D20:=Gx1 "nearest" Gw ["number","divisor"]
abbrev G20:=Gx2 ["number","divisor"] 1 2 Gv
def Zx(D:D20 K mg f fd)(T:Txt mg):G20 P w K mg base f fd:=Zw|||(~~~(@cD _ _ _ _ (a8 VN (a8 jO (a8 qV aE (pv 0)) (pv 1)) (a8 qV aE (pv 1)))))|||Gu
variable {nK:Addr}{nL:FuncData}(lC:D20 K mg nK nL)(nM:G20 P w K mg base nK nL)
abbrev Kv:ai->Dm Fl :=
 (aq (ay (cP ah) (hName 1))
 (aq (ay (ag 0) (hName 2))
 (aq (j3 (aI (ao (iG true) (ao av (ag 2) (fC (.int 1))) (fC (.int 0)))) (aq (ay (ao mJ (aK xm (af (pY i7 (aK Gv (af (ao av (ag 2) (fC (.int 0))) (af (ao av (ag 2) (fC (.int 1))) ah)))) ah)) (cP (af (cP (af (fC (.str "t")) (af (fC (.int 1)) ah))) ah))) (hName 3))
 (aq (ay (aK Gi (af (aK BA (af (ag 3) ah)) (af (ag 2) ah))) (hName 2))
 (ay (ao mJ (ag 1) (ag 3)) (hName 1)))))
 (aQ (ag 1)))))
abbrev Kw:List D->Dm D:=eF 4 Kv
abbrev Gx:Stmt:=top 29
def CZ:au ["pair","gone","left","steps"] ["pair"] (aj Gx):=by walk
abbrev D21:=Gx1 "level_steps" Gx ["pair"]
abbrev G21:=Gx2 ["pair"] 4 1 Kw
include jU l6 h8 jg cF cW lC nM in
def Zy(D:D21 K mg f fd)(T:Txt mg):G21 P w K mg base f fd:=by
 refine D.F.ok CZ (λ_ _ _ _ h=>h.1) (λc A o s H v Q E hr h=>?_);refine⟨_,((1>>=CZ>>=(@lp _ _ _ _ _ aw))<|>(2>>=CZ>>=pv 0)<|>zA PassesOwn.never (gH vN (aY<*pv 2<*aE) aE (aH _)) ((3>>=CZ>>=a8 zU (bD jg h8 hr ∅ rfl (qm qo (bD nM lC hr ∅ rfl ((aY<*pv 2<*aE)<|(aY<*pv 2<*aE)<|aw))<|aw)) (@lp _ _ _ _ _ ((@lp _ _ _ _ _ (fO<|aE<|aw))<|aw)))<|>(2>>=CZ>>=bD l6 jU hr ∅ rfl (bD cW cF hr ∅ rfl (pv 3<|aw)<|pv 2<|aw))<|>(~~~(1>>=CZ>>=a8 zU (pv 1) (pv 3))))<|>(~~~(@cD _ _ _ _ (pv 1)))),?_⟩
 exact fB (b:=Kv) (fe (iA (qb bZ) (e8 1))
  (fe (iA (aG 0) (e8 2))
  (fe (NU (oF (bF xa (bF fQ (aG 2) (cJ _)) (cJ _))) (fe (iA (bF AA (i6 (F:=xm) (aU (qB qC (i6 (F:=Gv) (aU (bF fQ (aG 2) (cJ _)) (aU (bF fQ (aG 2) (cJ _)) bZ)) qY)) bZ) vB) (qb (aU (qb (aU (mV _) (aU (cJ _) bZ))) bZ))) (e8 3))
  (fe (iA (i6 (F:=Gi) (aU (i6 (F:=BA) (aU (aG 3) bZ) vB) (aU (aG 2) bZ)) qY) (e8 2))
  (iA (bF AA (aG 1) (aG 3)) (e8 1)))))
  (nG (aG 1))))) rfl h
variable {h9:Addr}{ia:FuncData}(fE:D21 K mg h9 ia)(ib:G21 P w K mg base h9 ia)
abbrev Gy:ai->Dm Fl :=
 (aq (ay (ao b8 (ao av (ag 0) (fC (.int 1))) (ao av (ag 1) (fC (.int 1)))) (hName 2))
 (aq (iF (aI (ao (iG false) (ao av (ag 0) (fC (.int 0))) (fC (.str "t")))) (ay (ao oh (ag 2) (fC (.int 4))) (hName 2)) bx)
 (aq (iF (aI (ao (iG false) (ag 2) (fC (.int 0)))) (aQ (cP ah)) bx)
 (aQ (cP (af (cP (af (ao av (ag 0) (fC (.int 0))) (af (ag 2) ah))) ah))))))
abbrev Gz:List D->Dm D:=eF 3 Gy
abbrev GA:Stmt:=top 22
def Oo:au ["one","other","number"] ["one","other"] (aj GA):=by walk
abbrev D22:=Gx1 "joined" GA ["one","other"]
abbrev G22:=Gx2 ["one","other"] 1 2 Gz
def Zz(D:D22 K mg f fd)(T:Txt mg):G22 P w K mg base f fd:=Oo|||((2>>=Oo>>=a8 jO (aY<*pv 0<*aE) (aY<*pv 1<*aE))<|>(gH nu (aY<*pv 0<*aE) fO (aH _)<*>(~~~(2>>=Oo>>=a8 vL (pv 2) aE))<*>la)<|>(gH nu (pv 2) aE (aH _)<*>(~~~(@cD _ _ _ _ (@lp _ _ _ _ _ aw)))<*>la)<|>(~~~(@cD _ _ _ _ (@lp _ _ _ _ _ ((@lp _ _ _ _ _ ((aY<*pv 0<*aE)<|pv 2<|aw))<|aw)))))|||Gy
variable {oU:Addr}{oV:FuncData}(nO:D22 K mg oU oV)(oW:G22 P w K mg base oU oV)
abbrev Kx:ai->Dm Fl :=
 (aq (ay (cP ah) (hName 1))
 (aq (bY (hJ (ag 0)) (hName 2) (iF (sv (aI (ao E8 (aK dM (af (ag 1) ah)) (fC (.int 0)))) (aI (ao (iG false) (ao av (ao av (ag 1) (pY i7 (fC (.int 1)))) (fC (.int 0))) (ao av (ag 2) (fC (.int 0)))))) (ay (ao mJ (uv qD (ag 1) fu (kT (pY i7 (fC (.int 1))))) (aK Gz (af (ao av (ag 1) (pY i7 (fC (.int 1)))) (af (ag 2) ah)))) (hName 1)) (ay (ao mJ (ag 1) (cP (af (ag 2) ah))) (hName 1))))
 (aQ (ag 1))))
abbrev Ky:List D->Dm D:=eF 3 Kx
abbrev GB:Stmt:=top 23
def GC:au ["word","plain","step"] ["word"] (aj GB):=by walk
abbrev D23:=Gx1 "made_plain" GB ["word"]
abbrev G23:=Gx2 ["word"] 2 1 Ky
include nO oW in
def ZA(D:D23 K mg f fd)(T:Txt mg):G23 P w K mg base f fd:=by
 refine D.F.ok GC (λ_ _ _ _ h=>h.1) (λc A o s H v Q E hr h=>?_);refine⟨_,((1>>=GC>>=(@lp _ _ _ _ _ aw))<|>(tO (pv 0)&&&(fm (i:=2) GC.nd rfl (by w_up))&&&(~~~(PW.pt (Jx (gH Mk (my mS (by rfl) T.bW mU (pv 1<|aw)) aE (aH _)) (Jw (gH nu (aY<*(aY<*pv 1<*qm qo aE)<*aE) (aY<*pv 2<*aE) (aH _))))<*>(~~~(1>>=GC>>=a8 zU (wy zV (pv 1) wt (wx (qm qo aE))) (bD oW nO hr ∅ rfl ((aY<*pv 1<*qm qo aE)<|pv 2<|aw))))<*>(~~~(1>>=GC>>=a8 zU (pv 1) (@lp _ _ _ _ _ (pv 2<|aw)))))))<|>(~~~(@cD _ _ _ _ (pv 1)))),?_⟩
 exact fB (b:=Kx) (fe (iA (qb bZ) (e8 1))
  (fe (sD (CP (aG 0)) (e8 2) (rC (J8 (oF (bF NN (sx xc (aU (aG 1) bZ)) (cJ _))) (oF (bF t5 (bF fQ (bF fQ (aG 1) (qB qC (cJ _))) (cJ _)) (bF fQ (aG 2) (cJ _))))) (iA (bF AA (w6 Az (aG 1) wY (wZ (qB qC (cJ _)))) (i6 (F:=Gz) (aU (bF fQ (aG 1) (qB qC (cJ _))) (aU (aG 2) bZ)) qY)) (e8 1)) (iA (bF AA (aG 1) (qb (aU (aG 2) bZ))) (e8 1))))
  (nG (aG 1)))) rfl h
variable {jl:Addr}{jm:FuncData}(gM:D23 K mg jl jm)(jn:G23 P w K mg base jl jm)
abbrev GD:ai->Dm Fl :=
 (aQ (aK Ky (af (ao mJ (ag 0) (ag 1)) ah)))
abbrev Kz:List D->Dm D:=eF 2 GD
abbrev GF:Stmt:=top 24
def ZC:au ["one","other"] ["one","other"] (aj GF):=by walk
abbrev D24:=Gx1 "put_together" GF ["one","other"]
abbrev G24:=Gx2 ["one","other"] 3 2 Kz
include gM jn in
def ZD(D:D24 K mg f fd)(T:Txt mg):G24 P w K mg base f fd:=ZC|||(~~~(@cD _ _ _ _ (bD jn gM hr ∅ rfl (a8 zU (pv 0) (pv 1)<|aw))))|||GD
variable {gn:Addr}{gp:FuncData}(dS:D24 K mg gn gp)(gq:G24 P w K mg base gn gp)
abbrev GG:ai->Dm Fl :=
 (aQ (tm (ao (iG false) (aK dM (af (ag 0) ah)) (fC (.int 4))) (ao (iG false) (ao mw (ao gI (ao av (ag 0) (fC (.int 0))) (ao av (ag 0) (fC (.int 3)))) (ao gI (ao av (ag 0) (fC (.int 1))) (ao av (ag 0) (fC (.int 2))))) (fC (.int 1)))))
abbrev KA:List D->Dm D:=eF 1 GG
abbrev GH:Stmt:=top 14
def ZE:au ["thing"] ["thing"] (aj GH):=by walk
abbrev D25:=Gx1 "is_table" GH ["thing"]
abbrev G25:=Gx2 ["thing"] 1 1 KA
def ZF(D:D25 K mg f fd)(T:Txt mg):G25 P w K mg base f fd:=ZE|||(~~~(@cD _ _ _ _ (zw (Cu nu (my mS (by rfl) T.bW mU (pv 0<|aw)) aE (aH _)) (zv (Cu nu (a8 uK (a8 sY (aY<*pv 0<*aE) (aY<*pv 0<*aE)) (a8 sY (aY<*pv 0<*aE) (aY<*pv 0<*aE))) aE (aH _))))))|||GG
variable {ma:Addr}{md:FuncData}(jV:D25 K mg ma md)(mf:G25 P w K mg base ma md)
abbrev KC:ai->Dm Fl :=
 (aq (iF (aI (ao (iG false) (ao av (ag 0) (fC (.int 0))) (fC (.int 1)))) (aQ (aK xm (af (ao av (ag 0) (fC (.int 1))) ah))) bx)
 (aQ (ao mJ (cP (af (cP (af (fC (.str "t")) (af (fC (.int 2)) ah))) ah)) (aK xm (af (pY i7 (ao av (ag 0) (fC (.int 1)))) ah)))))
abbrev KD:List D->Dm D:=eF 1 KC
abbrev GI:Stmt:=top 32
def ZG:au ["table"] ["table"] (aj GI):=by walk
abbrev D26:=Gx1 "level_word" GI ["table"]
abbrev G26:=Gx2 ["table"] 2 1 KD
include h8 jg in
def ZH(D:D26 K mg f fd)(T:Txt mg):G26 P w K mg base f fd:=by
 refine D.F.ok ZG (λ_ _ _ _ h=>h.1) (λc A o s H v Q E hr h=>?_);refine⟨_,((gH nu (aY<*pv 0<*aE) aE (aH _)<*>(~~~(@cD _ _ _ _ (bD jg h8 hr ∅ rfl ((aY<*pv 0<*aE)<|aw))))<*>la)<|>(~~~(@cD _ _ _ _ (a8 zU (@lp _ _ _ _ _ ((@lp _ _ _ _ _ (fO<|aE<|aw))<|aw)) (bD jg h8 hr ∅ rfl (qm qo (aY<*pv 0<*aE)<|aw)))))),?_⟩
 exact fB (b:=KC) (fe (rC (oF (bF t5 (bF fQ (aG 0) (cJ _)) (cJ _))) (nG (i6 (F:=xm) (aU (bF fQ (aG 0) (cJ _)) bZ) vB)) sy)
  (nG (bF AA (qb (aU (qb (aU (mV _) (aU (cJ _) bZ))) bZ)) (i6 (F:=xm) (aU (qB qC (bF fQ (aG 0) (cJ _))) bZ) vB)))) rfl h
variable {jo:Addr}{jq:FuncData}(gN:D26 K mg jo jq)(jr:G26 P w K mg base jo jq)
abbrev KG:ai->Dm Fl :=
 (aq (iF (aI (ao (iG false) (ao av (ag 0) (fC (.int 0))) (fC (.str "s")))) (aQ (cP (af (fC (.str "s")) (af (pY i7 (ao av (ag 0) (fC (.int 1)))) ah)))) bx)
 (aQ (cP (af (fC (.str "t")) (af (ao mw (fC (.int 4)) (ao av (ag 0) (fC (.int 1)))) ah)))))
abbrev KH:List D->Dm D:=eF 1 KG
abbrev GJ:Stmt:=top 25
def ZI:au ["step"] ["step"] (aj GJ):=by walk
abbrev D27:=Gx1 "back_step" GJ ["step"]
abbrev G27:=Gx2 ["step"] 1 1 KH
def ZJ(D:D27 K mg f fd)(T:Txt mg):G27 P w K mg base f fd:=by
 refine D.F.ok ZI (λ_ _ _ _ h=>h.1) (λc A o s H v Q E hr h=>?_);refine⟨_,((gH nu (aY<*pv 0<*aE) fO (aH _)<*>(~~~(@cD _ _ _ _ (@lp _ _ _ _ _ (fO<|qm qo (aY<*pv 0<*aE)<|aw))))<*>la)<|>(~~~(@cD _ _ _ _ (@lp _ _ _ _ _ (fO<|a8 uK aE (aY<*pv 0<*aE)<|aw))))),?_⟩
 exact fB (b:=KG) (fe (rC (oF (bF t5 (bF fQ (aG 0) (cJ _)) (mV _))) (nG (qb (aU (mV _) (aU (qB qC (bF fQ (aG 0) (cJ _))) bZ)))) sy)
  (nG (qb (aU (mV _) (aU (bF CJ (cJ _) (bF fQ (aG 0) (cJ _))) bZ))))) rfl h
variable {kb:Addr}{kc:FuncData}(iM:D27 K mg kb kc)(kd:G27 P w K mg base kb kc)
abbrev GK:ai->Dm Fl :=
 (aQ (aK bU (af (dC (qe (af (ag 0) ah)) 1 [] (hName 0) dQ (aK KH (af (ag 0) ah))) ah)))
abbrev KI:List D->Dm D:=eF 1 GK
abbrev GL:Stmt:=top 26
def ZK:au ["word"] ["word"] (aj GL):=by walk
abbrev D28:=Gx1 "back_word" GL ["word"]
abbrev G28:=Gx2 ["word"] 2 1 KI
include iM kd in
def ZL(D:D28 K mg f fd)(T:Txt mg):G28 P w K mg base f fd:=ZK|||(~~~(@cD _ _ _ _ (ja p9 (by rfl) T.bL qa (uq (own:=["step"]) (fr:=[]) (js:=[]) rfl (by k_in) (Nd rfl T.mY (pv 0<|aw)) (λ_ _ _ _ _=>(fm (i:=0) (show((["step"]:List Str) ++ ([]:List Str)).Nodup by w_fin) rfl (by w_up))) (λ_ _ _ _ _=>uo) (λ_ _ _ _ _=>(bD kd iM hr ∅ rfl (pv 0<|aw)))<|aw))))|||GK
variable {ke:Addr}{kf:FuncData}(iN:D28 K mg ke kf)(kg:G28 P w K mg base ke kf)
abbrev GN:ai->Dm Fl :=
 (aq (iF (tZ (aI (aK KA (af (ag 0) ah)))) vA bx)
 (aq (ay (aK Kw (af (cP (af (ao av (ag 0) (fC (.int 0))) (af (ao av (ag 0) (fC (.int 2))) ah))) ah)) (hName 1))
 (aQ (aK Kz (af (aK KD (af (aK yM (af (aK BA (af (ag 1) ah)) (af (ag 0) ah))) ah)) (af (aK KI (af (ag 1) ah)) ah))))))
abbrev KJ:List D->Dm D:=eF 2 GN
abbrev GO:Stmt:=top 28
def TB:au ["table","gone"] ["table"] (aj GO):=by walk
abbrev D29:=Gx1 "word_of" GO ["table"]
abbrev G29:=Gx2 ["table"] 5 1 KJ
include iL jI cF cW fE ib dS gq jV mf gN jr iN kg in
def ZM(D:D29 K mg f fd)(T:Txt mg):G29 P w K mg base f fd:=TB|||((Me (Mb (bD mf jV hr ∅ rfl (pv 0<|aw)))<*>(~~~VF)<*>la)<|>(1>>=TB>>=bD ib fE hr ∅ rfl ((@lp _ _ _ _ _ ((aY<*pv 0<*aE)<|(aY<*pv 0<*aE)<|aw))<|aw))<|>(~~~(@cD _ _ _ _ (bD gq dS hr ∅ rfl (bD jr gN hr ∅ rfl (bD jI iL hr ∅ rfl (bD cW cF hr ∅ rfl (pv 1<|aw)<|pv 0<|aw)<|aw)<|bD kg iN hr ∅ rfl (pv 1<|aw)<|aw)))))|||GN
variable {nP:Addr}{nQ:FuncData}(lD:D29 K mg nP nQ)(nR:G29 P w K mg base nP nQ)
abbrev GP:ai->Dm Fl :=
 (aq (ay (ft ah) (hName 3))
 (aq (bY (bR (af (aK pR (af (ag 0) (af (ao b8 (ag 1) (fC (.int 1))) ah))) ah)) (hName 4) (iF (aI (ao (iG false) (aK pR (af (ag 0) (af (fC (.int 2)) ah))) (fC (.int 0)))) (mK (rV "list" gg (ag 3) (af (cP (af (fC (.str "t")) (af (ao b8 (fC (.int 1)) (aK pR (af (ag 0) (af (fC (.int 3)) ah)))) ah))) ah))) (aq (ay (ao b8 (fC (.int 1)) (aK pR (af (ag 0) (af (ag 2) ah)))) (hName 4))
 (mK (rV "list" gg (ag 3) (af (cP (af (fC (.str "s")) (af (ao hZ (ft (af (ag 4) (af (ao mw (fC (.int 0)) (ag 4)) ah))) (aK pR (af (ag 0) (af (fC (.int 2)) ah)))) ah))) ah))))))
 (aQ (aK bU (af (ag 3) ah)))))
abbrev GQ:List D->Dm D:=eF 5 GP
abbrev GR:Stmt:=top 68
def KL:au ["_law_feed_here","_law_most","_law_great","_law_found","_law_k"] ["_law_feed_here","_law_most","_law_great"] (aj GR):=by walk
abbrev D30:=Gx1 "_law_word" GR ["_law_feed_here","_law_most","_law_great"]
abbrev G30:=Gx2 ["_law_feed_here","_law_most","_law_great"] 2 3 GQ
include az aA in
def ZN(D:D30 K mg f fd)(T:Txt mg):G30 P w K mg base f fd:=KL|||((3>>=KL>>=(@oB _ _ _ _ aw))<|>(p8 rfl T.aV (bD aA az hr ∅ rfl (pv 0<|a8 jO (pv 1) aE<|aw)<|aw)&&&(fm (i:=4) KL.nd rfl (by w_up))&&&(~~~(gH nu (bD aA az hr ∅ rfl (pv 0<|aE<|aw)) aE (aH _)<*>(~~~zx (tQ PySem.F.plainAttrs_list PySem.F.slot_list_append PySem.F.type_list_append zN (pv 3) ((@lp _ _ _ _ _ (fO<|a8 jO aE (bD aA az hr ∅ rfl (pv 0<|aE<|aw))<|aw))<|aw)))<*>((4>>=KL>>=a8 jO aE (bD aA az hr ∅ rfl (pv 0<|pv 2<|aw)))<|>(~~~zx (tQ PySem.F.plainAttrs_list PySem.F.slot_list_append PySem.F.type_list_append zN (pv 3) ((@lp _ _ _ _ _ (fO<|(pW<*(@oB _ _ _ _ (pv 4<|a8 uK aE (pv 4)<|aw))<*bD aA az hr ∅ rfl (pv 0<|aE<|aw))<|aw))<|aw)))))))<|>(~~~(@cD _ _ _ _ (ja p9 (by rfl) T.bL qa (pv 3<|aw)))))|||GP
variable {kh:Addr}{ki:FuncData}(fU:D30 K mg kh ki)(iO:G30 P w K mg base kh ki)
abbrev GS:ai->Dm Fl :=
 (aQ (aK bU (af (dC (hJ (ag 0)) 1 [1] (hName 0) dQ (ao av (ag 1) (ag 0))) ah)))
abbrev yN:List D->Dm D:=eF 2 GS
abbrev GU:Stmt:=top 4
def ZO:au ["one","other"] ["one","other"] (aj GU):=by walk
abbrev D31:=Gx1 "followed" GU ["one","other"]
abbrev G31:=Gx2 ["one","other"] 1 2 yN
def ZP(D:D31 K mg f fd)(T:Txt mg):G31 P w K mg base f fd:=ZO|||(~~~(@cD _ _ _ _ (ja p9 (by rfl) T.bL qa (uq (own:=["number"]) (fr:=["other"]) (js:=[1]) rfl (by k_in) (tO (pv 0)) (λ_ _ _ _ _=>(fm (i:=0) (show((["number"]:List Str) ++ (["other"]:List Str)).Nodup by w_fin) rfl (by w_up))) (λ_ _ _ _ _=>uo) (λ_ _ _ _ _=>(WA (K:=K) rfl<*pv 1<*pv 0))<|aw))))|||GS
variable {mh:Addr}{mj:FuncData}(cX:D31 K mg mh mj)(dN:G31 P w K mg base mh mj)
abbrev GV:ai->Dm Fl :=
 (aq (ay (ft (af (ag 1) ah)) (hName 2))
 (aq (ay (ao av (ag 0) (ag 1)) (hName 3))
 (aq (j3 (aI (ao (iG true) (ag 3) (ag 1))) (aq (mK (rV "list" gg (ag 2) (af (ag 3) ah)))
 (ay (ao av (ag 0) (ag 3)) (hName 3))))
 (aQ (aK bU (af (ag 2) ah))))))
abbrev KN:List D->Dm D:=eF 4 GV
abbrev GW:Stmt:=top 7
def KO:au ["turning","first","ring","reached"] ["turning","first"] (aj GW):=by walk
abbrev D32:=Gx1 "ring_from" GW ["turning","first"]
abbrev G32:=Gx2 ["turning","first"] 1 2 KN
def ZQ(D:D32 K mg f fd)(T:Txt mg):G32 P w K mg base f fd:=KO|||((2>>=KO>>=(@oB _ _ _ _ (pv 1<|aw)))<|>(3>>=KO>>=(aY<*pv 0<*pv 1))<|>zA PassesOwn.never (gH vN (pv 3) (pv 1) (aH _)) (zx (tQ PySem.F.plainAttrs_list PySem.F.slot_list_append PySem.F.type_list_append zN (pv 2) (pv 3<|aw))<|>(~~~(3>>=KO>>=(aY<*pv 0<*pv 3))))<|>(~~~(@cD _ _ _ _ (ja p9 (by rfl) T.bL qa (pv 2<|aw)))))|||GV
variable {kj:Addr}{kl:FuncData}(iP:D32 K mg kj kl)(km:G32 P w K mg base kj kl)
abbrev GX:ai->Dm Fl :=
 (aq (ay (ft ah) (hName 1))
 (aq (ay vm (hName 2))
 (aq (bY (bR (af (aK dM (af (ag 0) ah)) ah)) (hName 3) (iF (aI (vo true (ag 3) (ag 2))) (aq (ay (aK KN (af (ag 0) (af (ag 3) ah))) (hName 4))
 (aq (mK (rV "list" gg (ag 1) (af (ag 4) ah)))
 (bY (hJ (ag 4)) (hName 5) (rG (ag 2) (ag 5) (fC (.bl true)))))) bx))
 (aQ (aK bU (af (ag 1) ah))))))
abbrev GY:List D->Dm D:=eF 6 GX
abbrev GZ:Stmt:=top 8
def C0:au ["turning","rings","seen","first","ring","number"] ["turning"] (aj GZ):=by walk
abbrev D33:=Gx1 "rings_of" GZ ["turning"]
abbrev G33:=Gx2 ["turning"] 2 1 GY
include iP km in
def ZR(D:D33 K mg f fd)(T:Txt mg):G33 P w K mg base f fd:=by refine D.F.ok C0 (λ_ _ _ _ h=>h.1) (λc A o s H v Q E hr h=>?_);have hu1:=yb hr;refine⟨_,((1>>=C0>>=(@oB _ _ _ _ aw))<|>(2>>=C0>>=V8)<|>(p8 rfl T.aV (my mS (by rfl) T.bW mU (pv 0<|aw)<|aw)&&&(fm (i:=3) C0.nd rfl (by w_up))&&&(~~~(PK (Qz hu1 (pv 3) (pv 2))<*>((4>>=C0>>=bD km iP hr ∅ rfl (pv 0<|pv 3<|aw))<|>zx (tQ PySem.F.plainAttrs_list PySem.F.slot_list_append PySem.F.type_list_append zN (pv 1) (pv 4<|aw))<|>(~~~(tO (pv 4)&&&(fm (i:=5) C0.nd rfl (by w_up))&&&(~~~QA hu1 (pv 2) (pv 5) r9 rfl))))<*>la)))<|>(~~~(@cD _ _ _ _ (ja p9 (by rfl) T.bL qa (pv 1<|aw))))),?_⟩;exact fB (b:=GX) (by delta GX;o_norm) rfl h
variable {ml:Addr}{mq:FuncData}(eZ:D33 K mg ml mq)(fV:G33 P w K mg base ml mq)
abbrev G0:ai->Dm Fl :=
 (aq (ay (ao oH (ft (af (fC (.int 0)) ah)) (aK dM (af (ag 0) ah))) (hName 2))
 (aq (bY (hJ (aK GY (af (ag 0) ah))) (hName 3) (bY (oq (af (ag 3) ah)) (om 2 (eW (hName 4) (eW (hName 5) pk))) (ay (ao av (ag 3) (ao oh (ao b8 (ag 4) (ag 1)) (aK dM (af (ag 3) ah)))) (hSub (ag 2) (ag 5)))))
 (aQ (aK bU (af (ag 2) ah)))))
abbrev G1:List D->Dm D:=eF 6 G0
abbrev G2:Stmt:=top 6
def G3:au ["turning","k","led","ring","place","number"] ["turning","k"] (aj G2):=by walk
abbrev D34:=Gx1 "often" G2 ["turning","k"]
abbrev G34:=Gx2 ["turning","k"] 3 2 G1
include eZ fV in
def ZT(D:D34 K mg f fd)(T:Txt mg):G34 P w K mg base f fd:=G3|||((2>>=G3>>=a8 wC (@oB _ _ _ _ (aE<|aw)) (my mS (by rfl) T.bW mU (pv 0<|aw)))<|>(tO (bD fV eZ hr ∅ rfl (pv 0<|aw))&&&(fm (i:=3) G3.nd rfl (by w_up))&&&(~~~(M6 rfl T.jc (pv 3<|aw)&&&xO (n:=2) rfl (rO (fm (i:=4) G3.nd rfl (by w_up)) (rO (fm (i:=5) G3.nd rfl (by w_up)) xN))&&&(~~~sd (aY<*pv 3<*a8 vL (a8 jO (pv 4) (pv 1)) (my mS (by rfl) T.bW mU (pv 3<|aw))) (rP (pv 2) (pv 5) rQ)))))<|>(~~~(@cD _ _ _ _ (ja p9 (by rfl) T.bL qa (pv 2<|aw)))))|||G0
variable {qM:Addr}{qN:FuncData}(pC:D34 K mg qM qN)(qO:G34 P w K mg base qM qN)
abbrev KP:ai->Dm Fl :=
 (aQ (cP (af (ao av (ag 0) (fC (.int 0))) (af (aK yN (af (aK G1 (af (ao av (ag 0) (fC (.int 0))) (af (pY i7 (ag 1)) ah))) (af (ao av (ag 0) (fC (.int 1))) ah))) ah))))
abbrev KQ:List D->Dm D:=eF 2 KP
abbrev G4:Stmt:=top 34
def ZU:au ["floor","k"] ["floor","k"] (aj G4):=by walk
abbrev D35:=Gx1 "sheared" G4 ["floor","k"]
abbrev G35:=Gx2 ["floor","k"] 4 2 KQ
include cX dN pC qO in
def ZV(D:D35 K mg f fd)(T:Txt mg):G35 P w K mg base f fd:=by refine D.F.ok ZU (λ_ _ _ _ h=>h.1) (λc A o s H v Q E hr h=>?_);refine⟨_,(~~~(@cD _ _ _ _ (@lp _ _ _ _ _ ((aY<*pv 0<*aE)<|bD dN cX hr ∅ rfl (bD qO pC hr ∅ rfl ((aY<*pv 0<*aE)<|qm qo (pv 1)<|aw)<|(aY<*pv 0<*aE)<|aw)<|aw)))),?_⟩;exact fB (b:=KP) (nG (qb (aU (bF fQ (aG 0) (cJ _)) (aU (i6 (F:=yN) (aU (i6 (F:=G1) (aU (bF fQ (aG 0) (cJ _)) (aU (qB qC (aG 1)) bZ)) qY) (aU (bF fQ (aG 0) (cJ _)) bZ)) qY) bZ)))) rfl h
variable {nS:Addr}{nT:FuncData}(lE:D35 K mg nS nT)(nU:G35 P w K mg base nS nT)
abbrev G5:ai->Dm Fl :=
 (aq (ay (ao oH (ft (af (fC (.int 0)) ah)) (aK dM (af (ag 0) ah))) (hName 1))
 (aq (bY (oq (af (ag 0) ah)) (om 2 (eW (hName 2) (eW (hName 3) pk))) (ay (ag 2) (hSub (ag 1) (ag 3))))
 (aQ (aK bU (af (ag 1) ah)))))
abbrev yO:List D->Dm D:=eF 4 G5
abbrev G6:Stmt:=top 5
def KR:au ["turning","back","number","led"] ["turning"] (aj G6):=by walk
abbrev D36:=Gx1 "turned_back" G6 ["turning"]
abbrev G36:=Gx2 ["turning"] 1 1 yO
def ZW(D:D36 K mg f fd)(T:Txt mg):G36 P w K mg base f fd:=KR|||((1>>=KR>>=a8 wC (@oB _ _ _ _ (aE<|aw)) (my mS (by rfl) T.bW mU (pv 0<|aw)))<|>(M6 rfl T.jc (pv 0<|aw)&&&xO (n:=2) rfl (rO (fm (i:=2) KR.nd rfl (by w_up)) (rO (fm (i:=3) KR.nd rfl (by w_up)) xN))&&&(~~~sd (pv 2) (rP (pv 1) (pv 3) rQ)))<|>(~~~(@cD _ _ _ _ (ja p9 (by rfl) T.bL qa (pv 1<|aw)))))|||G5
variable {ic:Addr}{ie:FuncData}(aZ:D36 K mg ic ie)(bh:G36 P w K mg base ic ie)
abbrev G7:ai->Dm Fl :=
 (aQ (cP (af (aK yO (af (ao av (ag 0) (fC (.int 1))) ah)) (af (ao av (ag 0) (fC (.int 0))) ah))))
abbrev BB:List D->Dm D:=eF 1 G7
abbrev C3:Stmt:=top 35
def ZX:au ["floor"] ["floor"] (aj C3):=by walk
abbrev D37:=Gx1 "quartered" C3 ["floor"]
abbrev G37:=Gx2 ["floor"] 2 1 BB
include aZ bh in
def ZY(D:D37 K mg f fd)(T:Txt mg):G37 P w K mg base f fd:=ZX|||(~~~(@cD _ _ _ _ (@lp _ _ _ _ _ (bD bh aZ hr ∅ rfl ((aY<*pv 0<*aE)<|aw)<|(aY<*pv 0<*aE)<|aw))))|||G7
variable {eG:Addr}{eJ:FuncData}(bH:D37 K mg eG eJ)(cq:G37 P w K mg base eG eJ)
abbrev G8:ai->Dm Fl :=
 (aq (iF (aI (ao (iG false) (ao av (ag 1) (fC (.int 0))) (fC (.str "s")))) (aQ (aK KQ (af (ag 0) (af (ao av (ag 1) (fC (.int 1))) ah)))) bx)
 (aq (ay (ag 0) (hName 2))
 (aq (bY (bR (af (ao av (ag 1) (fC (.int 1))) ah)) (hName 3) (ay (aK BB (af (ag 2) ah)) (hName 2)))
 (aQ (ag 2)))))
abbrev KS:List D->Dm D:=eF 4 G8
abbrev G9:Stmt:=top 37
def KU:au ["floor","step","led","turn"] ["floor","step"] (aj G9):=by walk
abbrev D38:=Gx1 "led_by_step" G9 ["floor","step"]
abbrev G38:=Gx2 ["floor","step"] 5 2 KS
include lE nU bH cq in
def ZZ(D:D38 K mg f fd)(T:Txt mg):G38 P w K mg base f fd:=KU|||((gH nu (aY<*pv 1<*aE) fO (aH _)<*>(~~~(@cD _ _ _ _ (bD nU lE hr ∅ rfl (pv 0<|(aY<*pv 1<*aE)<|aw))))<*>la)<|>(2>>=KU>>=pv 0)<|>(p8 rfl T.aV ((aY<*pv 1<*aE)<|aw)&&&(fm (i:=3) KU.nd rfl (by w_up))&&&(~~~(2>>=KU>>=bD cq bH hr ∅ rfl (pv 2<|aw))))<|>(~~~(@cD _ _ _ _ (pv 2))))|||G8
variable {ig:Addr}{ik:FuncData}(fF:D38 K mg ig ik)(il:G38 P w K mg base ig ik)
abbrev Ha:ai->Dm Fl :=
 (aq (ay (ag 0) (hName 2))
 (aq (bY (hJ (ag 1)) (hName 3) (ay (aK KS (af (ag 2) (af (ag 3) ah))) (hName 2)))
 (aQ (ag 2))))
abbrev vC:List D->Dm D:=eF 4 Ha
abbrev Hb:Stmt:=top 36
def KW:au ["floor","word","led","step"] ["floor","word"] (aj Hb):=by walk
abbrev D39:=Gx1 "led_by" Hb ["floor","word"]
abbrev G39:=Gx2 ["floor","word"] 6 2 vC
include fF il in
def Z0(D:D39 K mg f fd)(T:Txt mg):G39 P w K mg base f fd:=KW|||((2>>=KW>>=pv 0)<|>(tO (pv 1)&&&(fm (i:=3) KW.nd rfl (by w_up))&&&(~~~(2>>=KW>>=bD il fF hr ∅ rfl (pv 2<|pv 3<|aw))))<|>(~~~(@cD _ _ _ _ (pv 2))))|||Ha
variable {oX:Addr}{oY:FuncData}(dY:D39 K mg oX oY)(fG:G39 P w K mg base oX oY)
abbrev Hc:ai->Dm Fl :=
 (aQ (rV "str" kY (fC (.str "")) (af (dC (bR (af (aK pR (af (ag 0) (af (ao b8 (ag 1) (fC (.int 1))) ah))) ah)) 1 [0] (hName 0) dQ (ao t6 (fC (.str "rlud")) (aK pR (af (ag 1) (af (fC (.int 4)) ah))))) ah)))
abbrev KY:List D->Dm D:=eF 2 Hc
abbrev Hd:Stmt:=top 74
def Z1:au ["_law_feed_here","_law_most"] ["_law_feed_here","_law_most"] (aj Hd):=by walk
abbrev D40:=Gx1 "_law_steps" Hd ["_law_feed_here","_law_most"]
abbrev G40:=Gx2 ["_law_feed_here","_law_most"] 2 2 KY
include az aA in
def Z2(D:D40 K mg f fd)(T:Txt mg):G40 P w K mg base f fd:=Z1|||(~~~(@cD _ _ _ _ (tQ PySem.F.plainAttrs_str PySem.F.slot_str_join PySem.F.type_str_join JQ fO (uq (own:=["_law_k"]) (fr:=["_law_feed_here"]) (js:=[0]) rfl (by k_in) (p8 rfl T.aV (bD aA az hr ∅ rfl (pv 0<|a8 jO (pv 1) aE<|aw)<|aw)) (λ_ _ _ _ _=>(fm (i:=0) (show((["_law_k"]:List Str) ++ (["_law_feed_here"]:List Str)).Nodup by w_fin) rfl (by w_up))) (λ_ _ _ _ _=>uo) (λ_ _ _ _ _=>(zJ<*fO<*bD aA az hr ∅ rfl (pv 1<|aE<|aw)))<|aw))))|||Hc
variable {jt:Addr}{ju:FuncData}(gO:D40 K mg jt ju)(jv:G40 P w K mg base jt ju)
abbrev He:ai->Dm Fl :=
 (aq (ay (ao av (ag 0) (aK qc (af (ao (vz false) (ag 2) (fC (.str "ud"))) ah))) (hName 3))
 (aq (iF (aI (ao (vz false) (ag 2) (fC (.str "ru")))) (aQ (ao av (ag 3) (ag 1))) bx)
 (aQ (rV "tuple" mW (ag 3) (af (ag 1) ah)))))
abbrev Hf:List D->Dm D:=eF 4 He
abbrev Hg:Stmt:=top 69
def TC:au ["_law_floor_here","_law_s","_law_step","_law_turning_here"] ["_law_floor_here","_law_s","_law_step"] (aj Hg):=by walk
abbrev D41:=Gx1 "_law_beside" Hg ["_law_floor_here","_law_s","_law_step"]
abbrev G41:=Gx2 ["_law_floor_here","_law_s","_law_step"] 1 3 Hf
def Z3(D:D41 K mg f fd)(T:Txt mg):G41 P w K mg base f fd:=TC|||((3>>=TC>>=(aY<*pv 0<*ja P9 (by rfl) T.yK QH (Cu P8 (pv 2) fO (by with_unfolding_all rfl)<|aw)))<|>(gH P8 (pv 2) fO (by with_unfolding_all rfl)<*>(~~~(@cD _ _ _ _ (aY<*pv 3<*pv 1)))<*>la)<|>(~~~(@cD _ _ _ _ (tQ PySem.F.plainAttrs_tuple PySem.F.slot_tuple_index PySem.F.type_tuple_index WH (pv 3) (pv 1<|aw)))))|||He
variable {ip:Addr}{iq:FuncData}(fH:D41 K mg ip iq)(iu:G41 P w K mg base ip iq)
abbrev Hh:ai->Dm Fl :=
 (aq (ay (aK KY (af (ag 0) (af (fC (.int 7)) ah))) (hName 3))
 (aq (rD 4 5 (af (fC (.str "")) (af (ag 2) ah)))
 (aq (j3 (CH (aI (ao (iG false) (ag 4) (fC (.str "")))) (aI (ao (iG true) (ag 5) (ag 2)))) (aq (ay (ao kX (ag 4) (ag 3)) (hName 4))
 (aq (bY (mN (ag 3)) (hName 6) (ay (aK Hf (af (ag 1) (af (ag 5) (af (ag 6) ah)))) (hName 5)))
 (iF (aI (ao (iG false) (ag 3) (fC (.str "")))) (aQ (fC (.str ""))) bx))))
 (aQ (ag 4)))))
abbrev KZ:List D->Dm D:=eF 7 Hh
abbrev Hi:Stmt:=top 75
def C4:au ["_law_feed_here","_law_floor_here","_law_s","_law_steps_here","_law_found","_law_here","_law_step"] ["_law_feed_here","_law_floor_here","_law_s"] (aj Hi):=by walk
abbrev D42:=Gx1 "_law_closed_ride" Hi ["_law_feed_here","_law_floor_here","_law_s"]
abbrev G42:=Gx2 ["_law_feed_here","_law_floor_here","_law_s"] 3 3 KZ
include gO jv fH iu in
def Z4(D:D42 K mg f fd)(T:Txt mg):G42 P w K mg base f fd:=C4|||((3>>=C4>>=bD jv gO hr ∅ rfl (pv 0<|aE<|aw))<|>(DS (i:=4) (j:=5) rfl C4.nd rfl rfl ∅ rfl rfl (fO<|pv 2<|aw) rfl)<|>zA PassesOwn.never (PW.pt (Md (gH nu (pv 4) fO (aH _)) (Mc (gH vN (pv 5) (pv 2) (aH _))))) ((4>>=C4>>=a8 xT (pv 4) (pv 3))<|>(Cy (pv 3)&&&(fm (i:=6) C4.nd rfl (by w_up))&&&(~~~(5>>=C4>>=bD iu fH hr ∅ rfl (pv 1<|pv 5<|pv 6<|aw))))<|>(~~~(gH nu (pv 3) fO (aH _)<*>(~~~(@cD _ _ _ _ fO))<*>la)))<|>(~~~(@cD _ _ _ _ (pv 4))))|||Hh
variable {c5:Addr}{c6:FuncData}(b9:D42 K mg c5 c6)(c7:G42 P w K mg base c5 c6)
abbrev K0:ai->Dm Fl :=
 (aq (ay (aK dM (af (ao av (ag 0) (fC (.int 0))) ah)) (hName 2))
 (aq (ay (ao oH (ft (af (fC (.int 0)) ah)) (ao jH (fC (.int 2)) (ag 2))) (hName 3))
 (aq (bY (oQ (af (ag 1) ah)) (om 2 (eW (hName 4) (eW (hName 5) pk))) (bY (hJ (cP (af (cP (af (ag 4) (af (fC (.int 1)) ah))) (af (cP (af (ao b8 (ag 2) (ao av (ao av (ag 0) (fC (.int 0))) (ag 4))) (af (fC (.int 1)) ah))) (af (cP (af (ao av (ao av (ag 0) (fC (.int 1))) (ag 4)) (af (pY i7 (fC (.int 1))) ah))) (af (cP (af (ao b8 (ag 2) (ag 4)) (af (pY i7 (fC (.int 1))) ah))) ah)))))) (om 2 (eW (hName 6) (eW (hName 7) pk))) (ay (ao b8 (ao hZ (ag 3) (ag 6)) (ao jH (ag 7) (ag 5))) (hSub (ag 3) (ag 6)))))
 (aQ (aK bU (af (ag 3) ah))))))
abbrev BD:List D->Dm D:=eF 8 K0
abbrev Hj:Stmt:=top 70
def BE:au ["_law_floor_here","_law_weights","_law_many","_law_found","_law_s","_law_weight","_law_side","_law_sign"] ["_law_floor_here","_law_weights"] (aj Hj):=by walk
abbrev D43:=Gx1 "_law_rims" Hj ["_law_floor_here","_law_weights"]
abbrev G43:=Gx2 ["_law_floor_here","_law_weights"] 1 2 BD
def Z5(D:D43 K mg f fd)(T:Txt mg):G43 P w K mg base f fd:=by
 refine D.F.ok BE (λ_ _ _ _ h=>h.1) (λc A o s H v Q E hr h=>?_);refine⟨_,((2>>=BE>>=my mS (by rfl) T.bW mU ((aY<*pv 0<*aE)<|aw))<|>(3>>=BE>>=a8 wC (@oB _ _ _ _ (aE<|aw)) (a8 qV aE (pv 2)))<|>(Xi rfl T.jc (pv 1<|aw)&&&xO (n:=2) rfl (rO (fm (i:=4) BE.nd rfl (by w_up)) (rO (fm (i:=5) BE.nd rfl (by w_up)) xN))&&&(~~~(tO (@lp _ _ _ _ _ ((@lp _ _ _ _ _ (pv 4<|aE<|aw))<|(@lp _ _ _ _ _ (a8 jO (pv 2) (aY<*(aY<*pv 0<*aE)<*pv 4)<|aE<|aw))<|(@lp _ _ _ _ _ ((aY<*(aY<*pv 0<*aE)<*pv 4)<|qm qo aE<|aw))<|(@lp _ _ _ _ _ (a8 jO (pv 2) (pv 4)<|qm qo aE<|aw))<|aw))&&&xO (n:=2) rfl (rO (fm (i:=6) BE.nd rfl (by w_up)) (rO (fm (i:=7) BE.nd rfl (by w_up)) xN))&&&(~~~sd (a8 jO (pW<*pv 3<*pv 6) (a8 qV (pv 7) (pv 5))) (rP (pv 3) (pv 6) rQ)))))<|>(~~~(@cD _ _ _ _ (ja p9 (by rfl) T.bL qa (pv 3<|aw))))),?_⟩
 exact fB (b:=K0) (fe (iA (sx xc (aU (bF fQ (aG 0) (cJ _)) bZ)) (e8 2))
  (fe (iA (bF Fc (CG (aU (cJ _) bZ)) (bF Ka (cJ _) (aG 2))) (e8 3))
  (fe (sD (Y8 (aU (aG 1) bZ)) (Kg (CO (e8 4) (CO (e8 5) Kf))) (sD (CP (qb (aU (qb (aU (aG 4) (aU (cJ _) bZ))) (aU (qb (aU (bF yu (aG 2) (bF fQ (bF fQ (aG 0) (cJ _)) (aG 4))) (aU (cJ _) bZ))) (aU (qb (aU (bF fQ (bF fQ (aG 0) (cJ _)) (aG 4)) (aU (qB qC (cJ _)) bZ))) (aU (qb (aU (bF yu (aG 2) (aG 4)) (aU (qB qC (cJ _)) bZ))) bZ)))))) (Kg (CO (e8 6) (CO (e8 7) Kf))) (iA (bF yu (bF CN (aG 3) (aG 6)) (bF Ka (aG 7) (aG 5))) (AH (aG 3) (aG 6)))))
  (nG (sx AB (aU (aG 3) bZ)))))) rfl h
variable {kn:Addr}{ko:FuncData}(bX:D43 K mg kn ko)(cu:G43 P w K mg base kn ko)
abbrev Hk:ai->Dm Fl :=
 (aQ (aK bU (af (dC (rJ (af (ag 0) (af (ag 1) ah))) 2 [2] (om 2 (eW (hName 0) (eW (hName 1) pk))) dQ (ao b8 (ag 0) (ao jH (ag 2) (ag 1)))) ah)))
abbrev Hl:List D->Dm D:=eF 3 Hk
abbrev Hm:Stmt:=top 72
def Z6:au ["_law_one","_law_other","_law_weight"] ["_law_one","_law_other","_law_weight"] (aj Hm):=by walk
abbrev D44:=Gx1 "_law_sum" Hm ["_law_one","_law_other","_law_weight"]
abbrev G44:=Gx2 ["_law_one","_law_other","_law_weight"] 1 3 Hl
def Z7(D:D44 K mg f fd)(T:Txt mg):G44 P w K mg base f fd:=Z6|||(~~~(@cD _ _ _ _ (ja p9 (by rfl) T.bL qa (uq (own:=["_law_a","_law_b"]) (fr:=["_law_weight"]) (js:=[2]) rfl (by k_in) (Q6 rfl T.yL (pv 0<|pv 1<|aw)) (λ_ _ _ _ _=>(WI (K:=K) (n:=2) rfl rfl (rO (fm (i:=0) (show((["_law_a","_law_b"]:List Str) ++ (["_law_weight"]:List Str)).Nodup by w_fin) rfl (by w_up)) (rO (fm (i:=1) (show((["_law_a","_law_b"]:List Str) ++ (["_law_weight"]:List Str)).Nodup by w_fin) rfl (by w_up)) xN)))) (λ_ _ _ _ _=>uo) (λ_ _ _ _ _=>(a8 jO (pv 0) (a8 qV (pv 2) (pv 1))))<|aw))))|||Hk
variable {mr:Addr}{mv:FuncData}(e7:D44 K mg mr mv)(fW:G44 P w K mg base mr mv)
abbrev Hn:ai->Dm Fl :=
 (aq (ay (ft (af (ag 1) ah)) (hName 2))
 (aq (ay (fC (.int 0)) (hName 3))
 (aq (j3 (aI (ao E7 (ag 3) (aK dM (af (ag 2) ah)))) (aq (bY (hJ (ag 0)) (hName 4) (aq (ay (ao av (ag 4) (ao hZ (ag 2) (ag 3))) (hName 5))
 (iF (aI (ao (vi true) (ag 5) (ag 2))) (mK (rV "list" gg (ag 2) (af (ag 5) ah))) bx)))
 (ay (ao b8 (ag 3) (fC (.int 1))) (hName 3))))
 (aQ (aK bU (af (ag 2) ah))))))
abbrev K1:List D->Dm D:=eF 6 Hn
abbrev Ho:Stmt:=top 12
def C5:au ["floor","s","squares","place","turning","reached"] ["floor","s"] (aj Ho):=by walk
abbrev D45:=Gx1 "squares_from" Ho ["floor","s"]
abbrev G45:=Gx2 ["floor","s"] 1 2 K1
def Z8(D:D45 K mg f fd)(T:Txt mg):G45 P w K mg base f fd:=C5|||((2>>=C5>>=(@oB _ _ _ _ (pv 1<|aw)))<|>(3>>=C5>>=aE)<|>zA PassesOwn.never (gH Mj (pv 3) (my mS (by rfl) T.bW mU (pv 2<|aw)) (aH _)) ((tO (pv 0)&&&(fm (i:=4) C5.nd rfl (by w_up))&&&((5>>=C5>>=(aY<*pv 4<*(pW<*pv 2<*pv 3)))<|>(~~~(gH MA (pv 5) (pv 2) (by with_unfolding_all rfl)<*>(~~~zx (tQ PySem.F.plainAttrs_list PySem.F.slot_list_append PySem.F.type_list_append zN (pv 2) (pv 5<|aw)))<*>la))))<|>(~~~(3>>=C5>>=a8 jO (pv 3) aE)))<|>(~~~(@cD _ _ _ _ (ja p9 (by rfl) T.bL qa (pv 2<|aw)))))|||Hn
variable {gs:Addr}{gu:FuncData}(dU:D45 K mg gs gu)(gx:G45 P w K mg base gs gu)
abbrev Hq:ai->Dm Fl :=
 (aQ (qd (gY (fC (.str "r")) (ao av (ag 0) (fC (.int 0))) (gY (fC (.str "l")) (aK yO (af (ao av (ag 0) (fC (.int 0))) ah)) (gY (fC (.str "u")) (ao av (ag 0) (fC (.int 1))) (gY (fC (.str "d")) (aK yO (af (ao av (ag 0) (fC (.int 1))) ah)) rH))))))
abbrev xn:List D->Dm D:=eF 1 Hq
abbrev Hr:Stmt:=top 10
def Z9:au ["floor"] ["floor"] (aj Hr):=by walk
abbrev D46:=Gx1 "step_turnings" Hr ["floor"]
abbrev G46:=Gx2 ["floor"] 2 1 xn
include aZ bh in
def Xbq(D:D46 K mg f fd)(T:Txt mg):G46 P w K mg base f fd:=Z9|||(~~~(@cD _ _ _ _ (@MH _ _ _ _ _ (@wF _ _ _ _ _ _ _ _ _ fO (aY<*pv 0<*aE) (@wF _ _ _ _ _ _ _ _ _ fO (bD bh aZ hr ∅ rfl ((aY<*pv 0<*aE)<|aw)) (@wF _ _ _ _ _ _ _ _ _ fO (aY<*pv 0<*aE) (@wF _ _ _ _ _ _ _ _ _ fO (bD bh aZ hr ∅ rfl ((aY<*pv 0<*aE)<|aw)) MG)))) rfl rfl ∅ ∅)))|||Hq
variable {fI:Addr}{fJ:FuncData}(aP:D46 K mg fI fJ)(aT:G46 P w K mg base fI fJ)
abbrev Hs:ai->Dm Fl :=
 (aQ (ao av (iJ (aK xn (af (ag 0) ah)) (ag 2)) (ag 1)))
abbrev C6:List D->Dm D:=eF 3 Hs
abbrev Ht:Stmt:=top 11
def zbX:au ["floor","s","step"] ["floor","s","step"] (aj Ht):=by walk
abbrev D47:=Gx1 "neighbour" Ht ["floor","s","step"]
abbrev G47:=Gx2 ["floor","s","step"] 3 3 C6
include aP aT in
def ybX(D:D47 K mg f fd)(T:Txt mg):G47 P w K mg base f fd:=by refine D.F.ok zbX (λ_ _ _ _ h=>h.1) (λc A o s H v Q E hr h=>?_);have hu1:=yb hr;refine⟨_,(~~~(@cD _ _ _ _ (aY<*um hu1 (bD aT aP hr ∅ rfl (pv 0<|aw)) (pv 2) (λ_ _=>rfl)<*pv 1))),?_⟩;exact fB (b:=Hs) (by delta Hs;o_norm) rfl h
variable {kq:Addr}{kr:FuncData}(dD:D47 K mg kq kr)(eK:G47 P w K mg base kq kr)
abbrev Hu:ai->Dm Fl :=
 (aq (ay (qd (gY (fC (.int 0)) (fC (.str "")) rH)) (hName 1))
 (aq (bY (hJ (aK K1 (af (ag 0) (af (fC (.int 0)) ah)))) (hName 2) (bY (mN (fC (.str "ru"))) (hName 3) (aq (ay (aK C6 (af (ag 0) (af (ag 2) (af (ag 3) ah)))) (hName 4))
 (iF (aI (vo true (ag 4) (ag 1))) (rG (ag 1) (ag 4) (ao kX (iJ (ag 1) (ag 2)) (ag 3))) bx))))
 (aQ (ag 1))))
abbrev Hv:List D->Dm D:=eF 5 Hu
abbrev Hw:Stmt:=top 60
def Hx:au ["floor","rides","s","step","reached"] ["floor"] (aj Hw):=by walk
abbrev D48:=Gx1 "rides_to_squares" Hw ["floor"]
abbrev G48:=Gx2 ["floor"] 4 1 Hv
include dU gx dD eK in
def Ybe(D:D48 K mg f fd)(T:Txt mg):G48 P w K mg base f fd:=by refine D.F.ok Hx (λ_ _ _ _ h=>h.1) (λc A o s H v Q E hr h=>?_);have hu1:=yb hr;refine⟨_,((1>>=Hx>>=(@MH _ _ _ _ _ (@wF _ _ _ _ _ _ _ _ _ aE fO MG) rfl rfl ∅ ∅))<|>(tO (bD gx dU hr ∅ rfl (pv 0<|aE<|aw))&&&(fm (i:=2) Hx.nd rfl (by w_up))&&&(~~~(Cy fO&&&(fm (i:=3) Hx.nd rfl (by w_up))&&&((4>>=Hx>>=bD eK dD hr ∅ rfl (pv 0<|pv 2<|pv 3<|aw))<|>(~~~(PK (Qz hu1 (pv 4) (pv 1))<*>(~~~QA hu1 (pv 1) (pv 4) (a8 xT (um hu1 (pv 1) (pv 2) (λ_ _=>rfl)) (pv 3)) rfl)<*>la))))))<|>(~~~(@cD _ _ _ _ (pv 1)))),?_⟩;exact fB (b:=Hu) (by delta Hu;o_norm) rfl h
variable {c9:Addr}{da:FuncData}(cc:D48 K mg c9 da)(dc:G48 P w K mg base c9 da)
abbrev Hy:ai->Dm Fl :=
 (aQ (rV "str" kY (fC (.str "")) (af (dC (qe (af (ag 0) ah)) 1 [] (hName 0) dQ (uf [("r",.str "l"),("u",.str "d")] (ag 0))) ah)))
abbrev Hz:List D->Dm D:=eF 1 Hy
abbrev HA:Stmt:=top 61
def ZbX:au ["steps"] ["steps"] (aj HA):=by walk
abbrev D49:=Gx1 "gone_back" HA ["steps"]
abbrev G49:=Gx2 ["steps"] 1 1 Hz
def YbX(D:D49 K mg f fd)(T:Txt mg)(vD:pf K mg "BACK" [("r",.str "l"),("u",.str "d")]):G49 P w K mg base f fd:=ZbX|||(~~~(@cD _ _ _ _ (tQ PySem.F.plainAttrs_str PySem.F.slot_str_join PySem.F.type_str_join JQ fO (uq (own:=["step"]) (fr:=[]) (js:=[]) rfl (by k_in) (Nd rfl T.mY (pv 0<|aw)) (λ_ _ _ _ _=>(fm (i:=0) (show((["step"]:List Str) ++ ([]:List Str)).Nodup by w_fin) rfl (by w_up))) (λ_ _ _ _ _=>uo) (λ_ _ _ _ _=>(Ng vD rfl rfl rfl (pv 0) (λ_ _=>rfl)))<|aw))))|||Hy
variable {ku:Addr}{ky:FuncData}(iQ:D49 K mg ku ky)(kz:G49 P w K mg base ku ky)
abbrev K7:ai->Dm Fl :=
 (aq (ay (aK xn (af (ag 0) ah)) (hName 3))
 (aq (ay (ft (af (ag 1) ah)) (hName 4))
 (aq (bY (mN (ag 2)) (hName 5) (mK (rV "list" gg (ag 4) (af (ao av (iJ (ag 3) (ag 5)) (ao hZ (ag 4) (pY i7 (fC (.int 1))))) ah))))
 (aQ (aK bU (af (ag 4) ah))))))
abbrev yP:List D->Dm D:=eF 6 K7
abbrev HB:Stmt:=top 50
def K9:au ["floor","s","steps","turnings","squares","step"] ["floor","s","steps"] (aj HB):=by walk
abbrev D50:=Gx1 "ridden" HB ["floor","s","steps"]
abbrev G50:=Gx2 ["floor","s","steps"] 3 3 yP
include aP aT in
def zcL(D:D50 K mg f fd)(T:Txt mg):G50 P w K mg base f fd:=by
 refine D.F.ok K9 (λ_ _ _ _ h=>h.1) (λc A o s H v Q E hr h=>?_);have hu1:=yb hr;refine⟨_,((3>>=K9>>=bD aT aP hr ∅ rfl (pv 0<|aw))<|>(4>>=K9>>=(@oB _ _ _ _ (pv 1<|aw)))<|>(Cy (pv 2)&&&(fm (i:=5) K9.nd rfl (by w_up))&&&(~~~zx (tQ PySem.F.plainAttrs_list PySem.F.slot_list_append PySem.F.type_list_append zN (pv 4) ((aY<*um hu1 (pv 3) (pv 5) (λ_ _=>rfl)<*(pW<*pv 4<*qm qo aE))<|aw))))<|>(~~~(@cD _ _ _ _ (ja p9 (by rfl) T.bL qa (pv 4<|aw))))),?_⟩
 exact fB (b:=K7) (fe (iA (i6 (F:=xn) (aU (aG 0) bZ) vB) (e8 3))
  (fe (iA (CG (aU (aG 1) bZ)) (e8 4))
  (fe (sD (FO (aG 2)) (e8 5) (NS (Ke NR (aG 4) (aU (bF fQ (xk (aG 3) (aG 5)) (bF CN (aG 4) (qB qC (cJ _)))) bZ))))
  (nG (sx AB (aU (aG 4) bZ)))))) rfl h
variable {oZ:Addr}{o3:FuncData}(iw:D50 K mg oZ o3)(jw:G50 P w K mg base oZ o3)
abbrev HC:ai->Dm Fl :=
 (aq (iF (aI (ao (iG false) (ag 2) (fC (.str "r")))) (aQ (ao b8 (aK dM (af (ao av (ag 0) (fC (.int 0))) ah)) (ao av (ao av (ag 0) (fC (.int 0))) (ag 1)))) bx)
 (aq (iF (aI (ao (iG false) (ag 2) (fC (.str "l")))) (aQ (ao b8 (aK dM (af (ao av (ag 0) (fC (.int 0))) ah)) (ag 1))) bx)
 (aq (iF (aI (ao (iG false) (ag 2) (fC (.str "u")))) (aQ (ao av (ao av (ag 0) (fC (.int 1))) (ag 1))) bx)
 (aQ (ag 1)))))
abbrev La:List D->Dm D:=eF 3 HC
abbrev HD:Stmt:=top 53
def Zbx:au ["floor","s","step"] ["floor","s","step"] (aj HD):=by walk
abbrev D51:=Gx1 "side_crossed" HD ["floor","s","step"]
abbrev G51:=Gx2 ["floor","s","step"] 1 3 La
def Ybx(D:D51 K mg f fd)(T:Txt mg):G51 P w K mg base f fd:=Zbx|||((gH nu (pv 2) fO (aH _)<*>(~~~(@cD _ _ _ _ (a8 jO (my mS (by rfl) T.bW mU ((aY<*pv 0<*aE)<|aw)) (aY<*(aY<*pv 0<*aE)<*pv 1))))<*>la)<|>(gH nu (pv 2) fO (aH _)<*>(~~~(@cD _ _ _ _ (a8 jO (my mS (by rfl) T.bW mU ((aY<*pv 0<*aE)<|aw)) (pv 1))))<*>la)<|>(gH nu (pv 2) fO (aH _)<*>(~~~(@cD _ _ _ _ (aY<*(aY<*pv 0<*aE)<*pv 1)))<*>la)<|>(~~~(@cD _ _ _ _ (pv 1))))|||HC
variable {gy:Addr}{gA:FuncData}(dW:D51 K mg gy gA)(gC:G51 P w K mg base gy gA)
abbrev HE:ai->Dm Fl :=
 (aq (ay (fC (.int 0)) (hName 4))
 (aq (bY (rJ (af (aK yP (af (ag 0) (af (ag 1) (af (ag 2) ah)))) (af (ag 2) ah))) (om 2 (eW (hName 5) (eW (hName 6) pk))) (ay (ao b8 (ag 4) (ao jH (uf [("r",.int 1),("l",.int (-1)),("u",.int (-1)),("d",.int 1)] (ag 6)) (ao av (ag 3) (aK La (af (ag 0) (af (ag 5) (af (ag 6) ah))))))) (hName 4)))
 (aQ (ag 4))))
abbrev qZ:List D->Dm D:=eF 7 HE
abbrev HF:Stmt:=top 54
def HG:au ["floor","s","steps","seam","total","square","step"] ["floor","s","steps","seam"] (aj HF):=by walk
abbrev D52:=Gx1 "crossed" HF ["floor","s","steps","seam"]
abbrev G52:=Gx2 ["floor","s","steps","seam"] 4 4 qZ
include iw jw dW gC in
def Xcq(D:D52 K mg f fd)(T:Txt mg)(sG:pf K mg "SIGNS" [("r",.int 1),("l",.int (-1)),("u",.int (-1)),("d",.int 1)]):G52 P w K mg base f fd:=HG|||((4>>=HG>>=aE)<|>(Q6 rfl T.yL (bD jw iw hr ∅ rfl (pv 0<|pv 1<|pv 2<|aw)<|pv 2<|aw)&&&xO (n:=2) rfl (rO (fm (i:=5) HG.nd rfl (by w_up)) (rO (fm (i:=6) HG.nd rfl (by w_up)) xN))&&&(~~~(4>>=HG>>=a8 jO (pv 4) (a8 qV (Ng sG rfl rfl rfl (pv 6) (λ_ _=>rfl)) (aY<*pv 3<*bD gC dW hr ∅ rfl (pv 0<|pv 5<|pv 6<|aw))))))<|>(~~~(@cD _ _ _ _ (pv 4))))|||HE
variable {nV:Addr}{nW:FuncData}(cG:D52 K mg nV nW)(cQ:G52 P w K mg base nV nW)
abbrev Lb:ai->Dm Fl :=
 (aq (ay (aK Hv (af (ag 0) ah)) (hName 2))
 (aq (bY (bR (af (aK dM (af (ao av (ag 0) (fC (.int 0))) ah)) ah)) (hName 3) (bY (mN (fC (.str "ru"))) (hName 4) (aq (ay (ao kX (ao kX (iJ (ag 2) (ag 3)) (ag 4)) (aK Hz (af (iJ (ag 2) (aK C6 (af (ag 0) (af (ag 3) (af (ag 4) ah))))) ah))) (hName 5))
 (iF (aI (ao (iG true) (aK qZ (af (ag 0) (af (fC (.int 0)) (af (ag 5) (af (ag 1) ah))))) (fC (.int 0)))) (aQ (cP (af (fC (.str "ride")) (af (ag 5) ah)))) bx))))
 (aQ (cP (af (fC (.str "border")) (af (aK bU (af (dC (bR (af (aK dM (af (ao av (ag 0) (fC (.int 0))) ah)) ah)) 1 [0,1,2] (hName 0) dQ (pY i7 (aK qZ (af (ag 1) (af (fC (.int 0)) (af (iJ (ag 3) (ag 0)) (af (ag 2) ah))))))) ah)) ah))))))
abbrev xo:List D->Dm D:=eF 6 Lb
abbrev HI:Stmt:=top 59
def HJ:au ["floor","seam","rides","s","step","steps"] ["floor","seam"] (aj HI):=by walk
abbrev D53:=Gx1 "border_or_ride" HI ["floor","seam"]
abbrev G53:=Gx2 ["floor","seam"] 5 2 xo
include dD eK cc dc iQ kz cG cQ in
def Zbn(D:D53 K mg f fd)(T:Txt mg):G53 P w K mg base f fd:=by
 refine D.F.ok HJ (λ_ _ _ _ h=>h.1) (λc A o s H v Q E hr h=>?_);have hu1:=yb hr;refine⟨_,((2>>=HJ>>=bD dc cc hr ∅ rfl (pv 0<|aw))<|>(p8 rfl T.aV (my mS (by rfl) T.bW mU ((aY<*pv 0<*aE)<|aw)<|aw)&&&(fm (i:=3) HJ.nd rfl (by w_up))&&&(~~~(Cy fO&&&(fm (i:=4) HJ.nd rfl (by w_up))&&&((5>>=HJ>>=a8 xT (a8 xT (um hu1 (pv 2) (pv 3) (λ_ _=>rfl)) (pv 4)) (bD kz iQ hr ∅ rfl (um hu1 (pv 2) (bD eK dD hr ∅ rfl (pv 0<|pv 3<|pv 4<|aw)) (λ_ _=>rfl)<|aw)))<|>(~~~(gH vN (bD cQ cG hr ∅ rfl (pv 0<|aE<|pv 5<|pv 1<|aw)) aE (aH _)<*>(~~~(@cD _ _ _ _ (@lp _ _ _ _ _ (fO<|pv 5<|aw))))<*>la))))))<|>(~~~(@cD _ _ _ _ (@lp _ _ _ _ _ (fO<|ja p9 (by rfl) T.bL qa (uq (own:=["s"]) (fr:=["floor","seam","rides"]) (js:=[0,1,2]) rfl (by k_in) (p8 rfl T.aV (my mS (by rfl) T.bW mU ((aY<*pv 0<*aE)<|aw)<|aw)) (λ_ _ _ _ _=>(fm (i:=0) (show((["s"]:List Str) ++ (["floor","seam","rides"]:List Str)).Nodup by w_fin) rfl (by w_up))) (λ_ _ _ _ _=>uo) (λ_ _ _ _ _=>(qm qo (bD cQ cG hr ∅ rfl (pv 1<|aE<|um hu1 (pv 3) (pv 0) (λ_ _=>rfl)<|pv 2<|aw))))<|aw)<|aw))))),?_⟩
 exact fB (b:=Lb) (fe (iA (i6 (F:=Hv) (aU (aG 0) bZ) vB) (e8 2))
  (fe (sD (xj (aU (sx xc (aU (bF fQ (aG 0) (cJ _)) bZ)) bZ)) (e8 3) (sD (FO (mV _)) (e8 4) (fe (iA (bF yI (bF yI (xk (aG 2) (aG 3)) (aG 4)) (i6 (F:=Hz) (aU (xk (aG 2) (i6 (F:=C6) (aU (aG 0) (aU (aG 3) (aU (aG 4) bZ))) vY)) bZ) vB)) (e8 5))
  (rC (oF (bF xa (i6 (F:=qZ) (aU (aG 0) (aU (cJ _) (aU (aG 5) (aU (aG 1) bZ)))) Bz) (cJ _))) (nG (qb (aU (mV _) (aU (aG 5) bZ)))) sy))))
  (nG (qb (aU (mV _) (aU (sx AB (aU (Fg (xj (aU (sx xc (aU (bF fQ (aG 0) (cJ _)) bZ)) bZ)) (e8 0) Fh (qB qC (i6 (F:=qZ) (aU (aG 1) (aU (cJ _) (aU (xk (aG 3) (aG 0)) (aU (aG 2) bZ)))) Bz))) bZ)) bZ)))))) rfl h
variable {dZ:Addr}{ef:FuncData}(bp:D53 K mg dZ ef)(bE:G53 P w K mg base dZ ef)
abbrev HK:ai->Dm Fl :=
 (aq (ay (aK dM (af (ao av (ag 0) (fC (.int 0))) ah)) (hName 3))
 (aq (ay (ao oH (ft (af (fC (.int 0)) ah)) (ao jH (fC (.int 2)) (ag 3))) (hName 4))
 (aq (ay (ag 1) (hName 5))
 (aq (j3 (aI (ao (iG false) (ao hZ (ag 4) (ao b8 (ao jH (ag 3) (ag 2)) (ag 5))) (fC (.int 0)))) (aq (ay (fC (.int 1)) (hSub (ag 4) (ao b8 (ao jH (ag 3) (ag 2)) (ag 5))))
 (ay (ao av (ao av (ag 0) (ag 2)) (ag 5)) (hName 5))))
 (aQ (aK bU (af (ag 4) ah)))))))
abbrev Lc:List D->Dm D:=eF 6 HK
abbrev HL:Stmt:=top 71
def HM:au ["_law_floor_here","_law_s","_law_way","_law_many","_law_found","_law_here"] ["_law_floor_here","_law_s","_law_way"] (aj HL):=by walk
abbrev D54:=Gx1 "_law_along" HL ["_law_floor_here","_law_s","_law_way"]
abbrev G54:=Gx2 ["_law_floor_here","_law_s","_law_way"] 1 3 Lc
def XbL(D:D54 K mg f fd)(T:Txt mg):G54 P w K mg base f fd:=HM|||((3>>=HM>>=my mS (by rfl) T.bW mU ((aY<*pv 0<*aE)<|aw))<|>(4>>=HM>>=a8 wC (@oB _ _ _ _ (aE<|aw)) (a8 qV aE (pv 3)))<|>(5>>=HM>>=pv 1)<|>zA PassesOwn.never (gH nu (pW<*pv 4<*a8 jO (a8 qV (pv 3) (pv 2)) (pv 5)) aE (aH _)) (sd aE (rP (pv 4) (a8 jO (a8 qV (pv 3) (pv 2)) (pv 5)) rQ)<|>(~~~(5>>=HM>>=(aY<*(aY<*pv 0<*pv 2)<*pv 5))))<|>(~~~(@cD _ _ _ _ (ja p9 (by rfl) T.bL qa (pv 4<|aw)))))|||HK
variable {jy:Addr}{jz:FuncData}(gP:D54 K mg jy jz)(jA:G54 P w K mg base jy jz)
abbrev HN:ai->Dm Fl :=
 (aq (ay (aK dM (af (ao av (ag 1) (fC (.int 0))) ah)) (hName 2))
 (aq (ay (aK BD (af (ag 1) (af (dC (bR (af (ag 2) ah)) 1 [0] (hName 0) dQ (ao mw (aK pR (af (ag 1) (af (fC (.int 7)) ah))) (fC (.int 3)))) ah))) (hName 3))
 (aq (bY (bR (af (aK pR (af (ag 0) (af (fC (.int 4)) ah))) ah)) (hName 4) (aq (ay (aK pR (af (ag 0) (af (fC (.int 2)) ah))) (hName 5))
 (ay (aK Hl (af (ag 3) (af (aK Lc (af (ag 1) (af (aK pR (af (ag 0) (af (ag 2) ah))) (af (ag 5) ah)))) (af (ao mw (aK pR (af (ag 0) (af (fC (.int 5)) ah))) (fC (.int 2))) ah)))) (hName 3))))
 (aQ (ag 3)))))
abbrev Ld:List D->Dm D:=eF 6 HN
abbrev HP:Stmt:=top 73
def C7:au ["_law_feed_here","_law_floor_here","_law_many","_law_found","_law_turn","_law_way"] ["_law_feed_here","_law_floor_here"] (aj HP):=by walk
abbrev D55:=Gx1 "_law_closed_seam" HP ["_law_feed_here","_law_floor_here"]
abbrev G55:=Gx2 ["_law_feed_here","_law_floor_here"] 2 2 Ld
include az aA bX cu e7 fW gP jA in
def xbe(D:D55 K mg f fd)(T:Txt mg):G55 P w K mg base f fd:=C7|||((2>>=C7>>=my mS (by rfl) T.bW mU ((aY<*pv 1<*aE)<|aw))<|>(3>>=C7>>=bD cu bX hr ∅ rfl (pv 1<|uq (own:=["_law_k"]) (fr:=["_law_feed_here"]) (js:=[0]) rfl (by k_in) (p8 rfl T.aV (pv 2<|aw)) (λ_ _ _ _ _=>(fm (i:=0) (show((["_law_k"]:List Str) ++ (["_law_feed_here"]:List Str)).Nodup by w_fin) rfl (by w_up))) (λ_ _ _ _ _=>uo) (λ_ _ _ _ _=>(a8 uK (bD aA az hr ∅ rfl (pv 1<|aE<|aw)) aE))<|aw))<|>(p8 rfl T.aV (bD aA az hr ∅ rfl (pv 0<|aE<|aw)<|aw)&&&(fm (i:=4) C7.nd rfl (by w_up))&&&((5>>=C7>>=bD aA az hr ∅ rfl (pv 0<|aE<|aw))<|>(~~~(3>>=C7>>=bD fW e7 hr ∅ rfl (pv 3<|bD jA gP hr ∅ rfl (pv 1<|bD aA az hr ∅ rfl (pv 0<|pv 2<|aw)<|pv 5<|aw)<|a8 uK (bD aA az hr ∅ rfl (pv 0<|aE<|aw)) aE<|aw)))))<|>(~~~(@cD _ _ _ _ (pv 3))))|||HN
variable {de:Addr}{df:FuncData}(cf:D55 K mg de df)(dg:G55 P w K mg base de df)
abbrev Le:ai->Dm Fl :=
 (aq (ay (aK xn (af (ag 0) ah)) (hName 3))
 (aq (ay (aK dM (af (ao av (ag 0) (fC (.int 0))) ah)) (hName 4))
 (aq (ay (aK pj (af (uv qD (ag 2) fu (kT (ag 4))) ah)) (hName 5))
 (aq (ay (ao oH (ft (af (fC (.int 0)) ah)) (ag 4)) (hName 6))
 (aq (bY (bR (af (ag 4) ah)) (hName 7) (aq (ay (ao av (ag 2) (ao b8 (ag 4) (ag 7))) (hName 8))
 (aq (ay (ag 7) (hName 9))
 (aq (bY (bR (af (ag 1) ah)) (hName 10) (aq (ay (ao av (iJ (ag 3) (fC (.str "l"))) (ag 9)) (hName 9))
 (ay (ao mw (ao hZ (ag 5) (ag 9)) (ag 8)) (hSub (ag 5) (ag 9)))))
 (aq (bY (bR (af (pY i7 (ag 1)) ah)) (hName 10) (aq (ay (ao b8 (ao hZ (ag 5) (ag 9)) (ag 8)) (hSub (ag 5) (ag 9)))
 (ay (ao av (iJ (ag 3) (fC (.str "r"))) (ag 9)) (hName 9))))
 (ay (ag 8) (hSub (ag 6) (ag 9))))))))
 (aQ (aK bU (af (ao oi (ag 5) (ag 6)) ah))))))))
abbrev C8:List D->Dm D:=eF 11 Le
abbrev HQ:Stmt:=top 41
def uz:au ["floor","k","seam","turnings","count","lower","left","s","number","reached","shear"] ["floor","k","seam"] (aj HQ):=by walk
abbrev D56:=Gx1 "seam_over_shears" HQ ["floor","k","seam"]
abbrev G56:=Gx2 ["floor","k","seam"] 3 3 C8
include aP aT in
def Xbe(D:D56 K mg f fd)(T:Txt mg):G56 P w K mg base f fd:=by
 refine D.F.ok uz (λ_ _ _ _ h=>h.1) (λc A o s H v Q E hr h=>?_);have hu1:=yb hr;refine⟨_,((3>>=uz>>=bD aT aP hr ∅ rfl (pv 0<|aw))<|>(4>>=uz>>=my mS (by rfl) T.bW mU ((aY<*pv 0<*aE)<|aw))<|>(5>>=uz>>=ja JF (by rfl) T.fT tU (wy zV (pv 2) wt (wx (pv 4))<|aw))<|>(6>>=uz>>=a8 wC (@oB _ _ _ _ (aE<|aw)) (pv 4))<|>(p8 rfl T.aV (pv 4<|aw)&&&(fm (i:=7) uz.nd rfl (by w_up))&&&((8>>=uz>>=(aY<*pv 2<*a8 jO (pv 4) (pv 7)))<|>(9>>=uz>>=pv 7)<|>(p8 rfl T.aV (pv 1<|aw)&&&(fm (i:=10) uz.nd rfl (by w_up))&&&((9>>=uz>>=(aY<*um hu1 (pv 3) fO (λ_ _=>rfl)<*pv 9))<|>(~~~sd (a8 uK (pW<*pv 5<*pv 9) (pv 8)) (rP (pv 5) (pv 9) rQ))))<|>(p8 rfl T.aV (qm qo (pv 1)<|aw)&&&(fm (i:=10) uz.nd rfl (by w_up))&&&(sd (a8 jO (pW<*pv 5<*pv 9) (pv 8)) (rP (pv 5) (pv 9) rQ)<|>(~~~(9>>=uz>>=(aY<*um hu1 (pv 3) fO (λ_ _=>rfl)<*pv 9)))))<|>(~~~sd (pv 8) (rP (pv 6) (pv 9) rQ))))<|>(~~~(@cD _ _ _ _ (ja p9 (by rfl) T.bL qa (a8 vP (pv 5) (pv 6)<|aw))))),?_⟩
 exact fB (b:=Le) (fe (iA (i6 (F:=xn) (aU (aG 0) bZ) vB) (e8 3))
  (fe (iA (sx xc (aU (bF fQ (aG 0) (cJ _)) bZ)) (e8 4))
  (fe (iA (sx NQ (aU (w6 Az (aG 2) wY (wZ (aG 4))) bZ)) (e8 5))
  (fe (iA (bF Fc (CG (aU (cJ _) bZ)) (aG 4)) (e8 6))
  (fe (sD (xj (aU (aG 4) bZ)) (e8 7) (fe (iA (bF fQ (aG 2) (bF yu (aG 4) (aG 7))) (e8 8))
  (fe (iA (aG 7) (e8 9))
  (fe (sD (xj (aU (aG 1) bZ)) (e8 10) (fe (iA (bF fQ (xk (aG 3) (mV _)) (aG 9)) (e8 9))
  (iA (bF CJ (bF CN (aG 5) (aG 9)) (aG 8)) (AH (aG 5) (aG 9)))))
  (fe (sD (xj (aU (qB qC (aG 1)) bZ)) (e8 10) (fe (iA (bF yu (bF CN (aG 5) (aG 9)) (aG 8)) (AH (aG 5) (aG 9)))
  (iA (bF fQ (xk (aG 3) (mV _)) (aG 9)) (e8 9))))
  (iA (aG 8) (AH (aG 6) (aG 9))))))))
  (nG (sx AB (aU (bF Kc (aG 5) (aG 6)) bZ)))))))) rfl h
variable {dh:Addr}{di:FuncData}(cg:D56 K mg dh di)(dj:G56 P w K mg base dh di)
abbrev C9(RR:List D->Dm D):ai->Dm Fl :=
 (aq (iF (aI (ao (iG false) (ag 1) (fC (.int 0)))) (aQ (ag 2)) bx)
 (aq (ay (aK RR (af (aK BB (af (ag 0) ah)) (af (ao mw (ag 1) (fC (.int 1))) (af (ag 2) ah)))) (hName 3))
 (aq (ay (aK dM (af (ao av (ag 0) (fC (.int 0))) ah)) (hName 4))
 (aq (ay (ao oH (ft (af (fC (.int 0)) ah)) (ag 4)) (hName 5))
 (aq (bY (bR (af (ag 4) ah)) (hName 6) (ay (ao av (ag 3) (ao b8 (ag 4) (ag 6))) (hSub (ag 5) (ao av (ao av (ag 0) (fC (.int 1))) (ag 6)))))
 (aQ (aK bU (af (ao oi (ag 5) (dC (hJ (uv qD (ag 3) fu (kT (ag 4)))) 1 [] (hName 0) dQ (pY i7 (ag 0)))) ah))))))))
abbrev yQ:Nat->List D->Dm D
 |0=>λ_ _=>none
 |n+1=>eF 7 (C9 (yQ n))
abbrev Lf:List D->Dm D:=yQ 6
abbrev Dc:Stmt:=top 42
def HR:au ["floor","k","seam","later","count","lower","s"] ["floor","k","seam"] (aj Dc):=by walk
def TF{f:Addr}{fd:FuncData}(D:Def K mg "seam_over_quarters" Dc ["floor","k","seam"] f fd)(T:Txt mg)  {eG:Addr}{eJ:FuncData}(bH:D37 K mg eG eJ)(cq:G37 P w K mg base eG eJ):∀nn:Nat,aC P w K mg base bq (3+nn) f fd ["floor","k","seam"] (bw K 3 (yQ nn))
 |0=>Y6 rfl
 |nn+1=>by
  have HS:=TF D T  bH cq nn;refine D.F.ok HR (λ_ _ _ _ h=>h.1) (λc A o s H v Q E hr h=>?_)
  refine⟨_,(@Cs _ _ _ _ _ (@xK _ _ _ _ _ _ _ _ (gH nu (pv 1) aE (aH _)) (@Jy _ _ _ (@cD _ _ _ _ (pv 2))) la)
  (@Cs _ _ _ _ _ (@Jz (i:=3) _ _ _ _ _ _ HR.nd rfl (by w_up) (Mm HS (hr.mono (by first|exact Zab _|lk)) rfl D.m D.F.kp D.b .nil uS (@wo _ _ _ _ _ (Mm cq (hr.mono (Zaw ∅ (ZbO _ _))) rfl bH.m bH.F.kp bH.b .nil uS (@wo _ _ _ _ _ (pv 0) aw (by rfl))) (@wo _ _ _ _ _ (a8 uK (pv 1) aE) (@wo _ _ _ _ _ (pv 2) aw (by rfl)) (by rfl)) (by rfl))) (by rfl) (by w_up))
  (@Cs _ _ _ _ _ (@Jz (i:=4) _ _ _ _ _ _ HR.nd rfl (by w_up) (my mS (by rfl) T.bW mU (@wo _ _ _ _ _ (@Ec _ _ _ _ _ _ _ aY (pv 0) aE (λ_ _=>rfl)) aw (by rfl))) (by rfl) (by w_up))
  (@Cs _ _ _ _ _ (@Jz (i:=5) _ _ _ _ _ _ HR.nd rfl (by w_up) (a8 wC (@oB _ _ _ _ (@wo _ _ _ _ _ aE aw (by rfl))) (pv 4)) (by rfl) (by w_up))
  (@Cs _ _ _ _ _ (@PR _ _ _ _ _ _ _ _ PassesOwn.never rfl (p8 rfl T.aV (@wo _ _ _ _ _ (pv 4) aw (by rfl))) (fm (i:=6) HR.nd rfl (by w_up)) (@Jy _ _ _ (sd (@Ec _ _ _ _ _ _ _ aY (pv 3) (a8 jO (pv 4) (pv 6)) (λ_ _=>rfl)) (rP (pv 5) (@Ec _ _ _ _ _ _ _ aY (@Ec _ _ _ _ _ _ _ aY (pv 0) aE (λ_ _=>rfl)) (pv 6) (λ_ _=>rfl)) rQ))) (by intro _;rfl))
  (@Jy _ _ _ (@cD _ _ _ _ (ja p9 (by rfl) T.bL qa (@wo _ _ _ _ _ (a8 vP (pv 5) (uq (own:=["number"]) (fr:=[]) (js:=[]) rfl (by k_in) (tO (wy zV (pv 3) wt (wx (pv 4)))) (λ_ _ _ _ _=>(fm (i:=0) (show((["number"]:List Str) ++ ([]:List Str)).Nodup by w_fin) rfl (by w_up))) (λ_ _ _ _ _=>uo) (λ_ _ _ _ _=>(qm qo (pv 0))))) aw (by rfl)))))))))),?_⟩
  exact fB (b:=C9 (yQ nn)) (fe (rC (oF (bF t5 (aG 1) (cJ _))) (nG (aG 2)) sy)
  (fe (iA (i6 (F:=yQ nn) (aU (i6 (F:=BB) (aU (aG 0) bZ) vB) (aU (bF CJ (aG 1) (cJ _)) (aU (aG 2) bZ))) vY) (e8 3))
  (fe (iA (sx xc (aU (bF fQ (aG 0) (cJ _)) bZ)) (e8 4))
  (fe (iA (bF Fc (CG (aU (cJ _) bZ)) (aG 4)) (e8 5))
  (fe (sD (xj (aU (aG 4) bZ)) (e8 6) (iA (bF fQ (aG 3) (bF yu (aG 4) (aG 6))) (AH (aG 5) (bF fQ (bF fQ (aG 0) (cJ _)) (aG 6)))))
  (nG (sx AB (aU (bF Kc (aG 5) (Fg (CP (w6 Az (aG 3) wY (wZ (aG 4)))) (e8 0) Fh (qB qC (aG 0)))) bZ)))))))) rfl h
include bH cq in
def Xa7(D:Def K mg "seam_over_quarters" Dc ["floor","k","seam"] f fd)(T:Txt mg):aC P w K mg base bq 9 f fd ["floor","k","seam"] (bw K 3 Lf):=TF D T  bH cq 6
variable {cv:Addr}{cw:FuncData}(bO:Def K mg "seam_over_quarters" Dc ["floor","k","seam"] cv cw)(cx:aC P w K mg base bq 9 cv cw ["floor","k","seam"] (bw K 3 Lf))
abbrev Lg:ai->Dm Fl :=
 (aq (ay (ag 2) (hName 3))
 (aq (bY (qI (af (ao mw (aK dM (af (ag 1) ah)) (fC (.int 1))) (af (pY i7 (fC (.int 1))) (af (pY i7 (fC (.int 1))) ah)))) (hName 4) (aq (ay (aK vC (af (ag 0) (af (uv qD (ag 1) fu (kT (ag 4))) ah))) (hName 5))
 (iF (aI (ao (iG false) (ao av (ao av (ag 1) (ag 4)) (fC (.int 0))) (fC (.str "s")))) (ay (aK C8 (af (ag 5) (af (ao av (ao av (ag 1) (ag 4)) (fC (.int 1))) (af (ag 3) ah)))) (hName 3)) (ay (aK Lf (af (ag 5) (af (ao av (ao av (ag 1) (ag 4)) (fC (.int 1))) (af (ag 3) ah)))) (hName 3)))))
 (aQ (ag 3))))
abbrev vE:List D->Dm D:=eF 6 Lg
abbrev HU:Stmt:=top 40
def Dd:au ["floor","word","seam","carried","place","ahead"] ["floor","word","seam"] (aj HU):=by walk
abbrev D57:=Gx1 "seam_carried" HU ["floor","word","seam"]
abbrev G57:=Gx2 ["floor","word","seam"] 10 3 vE
include dY fG cg dj bO cx in
def xbx(D:D57 K mg f fd)(T:Txt mg):G57 P w K mg base f fd:=by
 refine D.F.ok Dd (λ_ _ _ _ h=>h.1) (λc A o s H v Q E hr h=>?_);refine⟨_,((3>>=Dd>>=pv 2)<|>(Xn rfl T.aV (a8 uK (my mS (by rfl) T.bW mU (pv 1<|aw)) aE<|qm qo aE<|qm qo aE<|aw)&&&(fm (i:=4) Dd.nd rfl (by w_up))&&&((5>>=Dd>>=bD fG dY hr ∅ rfl (pv 0<|wy zV (pv 1) wt (wx (pv 4))<|aw))<|>(~~~(gH nu (aY<*(aY<*pv 1<*pv 4)<*aE) fO (aH _)<*>(~~~(3>>=Dd>>=bD dj cg hr ∅ rfl (pv 5<|(aY<*(aY<*pv 1<*pv 4)<*aE)<|pv 3<|aw)))<*>(~~~(3>>=Dd>>=bD cx bO hr ∅ rfl (pv 5<|(aY<*(aY<*pv 1<*pv 4)<*aE)<|pv 3<|aw)))))))<|>(~~~(@cD _ _ _ _ (pv 3)))),?_⟩
 exact fB (b:=Lg) (fe (iA (aG 2) (e8 3))
  (fe (sD (Zc (aU (bF CJ (sx xc (aU (aG 1) bZ)) (cJ _)) (aU (qB qC (cJ _)) (aU (qB qC (cJ _)) bZ)))) (e8 4) (fe (iA (i6 (F:=vC) (aU (aG 0) (aU (w6 Az (aG 1) wY (wZ (aG 4))) bZ)) qY) (e8 5))
  (rC (oF (bF t5 (bF fQ (bF fQ (aG 1) (aG 4)) (cJ _)) (mV _))) (iA (i6 (F:=C8) (aU (aG 5) (aU (bF fQ (bF fQ (aG 1) (aG 4)) (cJ _)) (aU (aG 3) bZ))) vY) (e8 3)) (iA (i6 (F:=Lf) (aU (aG 5) (aU (bF fQ (bF fQ (aG 1) (aG 4)) (cJ _)) (aU (aG 3) bZ))) vY) (e8 3)))))
  (nG (aG 3)))) rfl h
variable {gD:Addr}{gE:FuncData}(bC:D57 K mg gD gE)(bI:G57 P w K mg base gD gE)
abbrev Lh:ai->Dm Fl :=
 (aq (ay (ao kX (ao pA (fC (.str "l")) (ag 0)) (ao pA (fC (.str "r")) (pY i7 (ag 0)))) (hName 2))
 (aq (ay (ao kX (ao pA (fC (.str "r")) (ag 0)) (ao pA (fC (.str "l")) (pY i7 (ag 0)))) (hName 3))
 (aq (ay (qd (gY (fC (.str "r")) (fC (.str "r")) (gY (fC (.str "l")) (fC (.str "l")) (gY (fC (.str "u")) (ao kX (ag 2) (fC (.str "u"))) (gY (fC (.str "d")) (ao kX (fC (.str "d")) (ag 3)) rH))))) (hName 4))
 (aQ (rV "str" kY (fC (.str "")) (af (dC (mN (ag 1)) 1 [4] (hName 0) dQ (iJ (ag 1) (ag 0))) ah))))))
abbrev Li:List D->Dm D:=eF 5 Lh
abbrev HV:Stmt:=top 44
def Lj:au ["k","steps","to_left","to_right","instead"] ["k","steps"] (aj HV):=by walk
abbrev D58:=Gx1 "ride_over_shears" HV ["k","steps"]
abbrev G58:=Gx2 ["k","steps"] 1 2 Li
def zbf(D:D58 K mg f fd)(T:Txt mg):G58 P w K mg base f fd:=by
 refine D.F.ok Lj (λ_ _ _ _ h=>h.1) (λc A o s H v Q E hr h=>?_);have hu1:=yb hr;refine⟨_,((2>>=Lj>>=a8 xT (a8 JP fO (pv 0)) (a8 JP fO (qm qo (pv 0))))<|>(3>>=Lj>>=a8 xT (a8 JP fO (pv 0)) (a8 JP fO (qm qo (pv 0))))<|>(4>>=Lj>>=(@MH _ _ _ _ _ (@wF _ _ _ _ _ _ _ _ _ fO fO (@wF _ _ _ _ _ _ _ _ _ fO fO (@wF _ _ _ _ _ _ _ _ _ fO (a8 xT (pv 2) fO) (@wF _ _ _ _ _ _ _ _ _ fO (a8 xT fO (pv 3)) MG)))) rfl rfl ∅ ∅))<|>(~~~(@cD _ _ _ _ (tQ PySem.F.plainAttrs_str PySem.F.slot_str_join PySem.F.type_str_join JQ fO (uq (own:=["step"]) (fr:=["instead"]) (js:=[4]) rfl (by k_in) (Cy (pv 1)) (λ_ _ _ _ _=>(fm (i:=0) (show((["step"]:List Str) ++ (["instead"]:List Str)).Nodup by w_fin) rfl (by w_up))) (λ_ _ _ _ _=>uo) (λ_ _ _ _ _=>(um hu1 (pv 1) (pv 0) (λ_ _=>rfl)))<|aw))))),?_⟩
 exact fB (b:=Lh) (fe (iA (bF yI (bF Km (mV _) (aG 0)) (bF Km (mV _) (qB qC (aG 0)))) (e8 2))
  (fe (iA (bF yI (bF Km (mV _) (aG 0)) (bF Km (mV _) (qB qC (aG 0)))) (e8 3))
  (fe (iA (N0 (CS (mV _) (mV _) (CS (mV _) (mV _) (CS (mV _) (bF yI (aG 2) (mV _)) (CS (mV _) (bF yI (mV _) (aG 3)) NZ))))) (e8 4))
  (nG (Ke Ob (mV _) (aU (Fg (FO (aG 1)) (e8 0) Fh (xk (aG 1) (aG 0))) bZ)))))) rfl h
variable {dk:Addr}{dm:FuncData}(cm:D58 K mg dk dm)(dn:G58 P w K mg base dk dm)
abbrev HW:ai->Dm Fl :=
 (aq (ay (ag 1) (hName 2))
 (aq (bY (bR (af (ag 0) ah)) (hName 3) (ay (rV "str" kY (fC (.str "")) (af (dC (mN (ag 2)) 1 [] (hName 0) dQ (uf [("r",.str "d"),("l",.str "u"),("u",.str "r"),("d",.str "l")] (ag 0))) ah)) (hName 2)))
 (aQ (ag 2))))
abbrev Lk:List D->Dm D:=eF 4 HW
abbrev HX:Stmt:=top 45
def Ll:au ["k","steps","carried","turn"] ["k","steps"] (aj HX):=by walk
abbrev D59:=Gx1 "ride_over_quarters" HX ["k","steps"]
abbrev G59:=Gx2 ["k","steps"] 1 2 Lk
def za8(D:D59 K mg f fd)(T:Txt mg)(jJ:pf K mg "OVER_QUARTER" [("r",.str "d"),("l",.str "u"),("u",.str "r"),("d",.str "l")]):G59 P w K mg base f fd:=Ll|||((2>>=Ll>>=pv 1)<|>(p8 rfl T.aV (pv 0<|aw)&&&(fm (i:=3) Ll.nd rfl (by w_up))&&&(~~~(2>>=Ll>>=tQ PySem.F.plainAttrs_str PySem.F.slot_str_join PySem.F.type_str_join JQ fO (uq (own:=["step"]) (fr:=[]) (js:=[]) rfl (by k_in) (Cy (pv 2)) (λ_ _ _ _ _=>(fm (i:=0) (show((["step"]:List Str) ++ ([]:List Str)).Nodup by w_fin) rfl (by w_up))) (λ_ _ _ _ _=>uo) (λ_ _ _ _ _=>(Ng jJ rfl rfl rfl (pv 0) (λ_ _=>rfl)))<|aw))))<|>(~~~(@cD _ _ _ _ (pv 2))))|||HW
variable {cy:Addr}{cz:FuncData}(bP:D59 K mg cy cz)(cC:G59 P w K mg base cy cz)
abbrev HY:ai->Dm Fl :=
 (aq (ay (ag 1) (hName 2))
 (aq (bY (qe (af (ag 0) ah)) (hName 3) (iF (aI (ao (iG false) (ao av (ag 3) (fC (.int 0))) (fC (.str "s")))) (ay (aK Li (af (ao av (ag 3) (fC (.int 1))) (af (ag 2) ah))) (hName 2)) (ay (aK Lk (af (ao av (ag 3) (fC (.int 1))) (af (ag 2) ah))) (hName 2))))
 (aQ (ag 2))))
abbrev BF:List D->Dm D:=eF 4 HY
abbrev HZ:Stmt:=top 43
def Ic:au ["word","steps","carried","step"] ["word","steps"] (aj HZ):=by walk
abbrev D60:=Gx1 "ride_carried" HZ ["word","steps"]
abbrev G60:=Gx2 ["word","steps"] 2 2 BF
include cm dn bP cC in
def Xbx(D:D60 K mg f fd)(T:Txt mg):G60 P w K mg base f fd:=Ic|||((2>>=Ic>>=pv 1)<|>(Nd rfl T.mY (pv 0<|aw)&&&(fm (i:=3) Ic.nd rfl (by w_up))&&&(~~~(gH nu (aY<*pv 3<*aE) fO (aH _)<*>(~~~(2>>=Ic>>=bD dn cm hr ∅ rfl ((aY<*pv 3<*aE)<|pv 2<|aw)))<*>(~~~(2>>=Ic>>=bD cC bP hr ∅ rfl ((aY<*pv 3<*aE)<|pv 2<|aw))))))<|>(~~~(@cD _ _ _ _ (pv 2))))|||HY
variable {gF:Addr}{gG:FuncData}(cY:D60 K mg gF gG)(dX:G60 P w K mg base gF gG)
abbrev Ie:ai->Dm Fl :=
 (aq (ay (ao av (ag 0) (fC (.int 0))) (hName 1))
 (aq (ay (ao av (ag 0) (fC (.int 1))) (hName 2))
 (aq (ay (aK yN (af (aK yO (af (ag 1) ah)) (af (aK yO (af (ag 2) ah)) ah))) (hName 3))
 (aQ (aK yN (af (aK yN (af (ag 1) (af (ag 2) ah))) (af (ag 3) ah)))))))
abbrev Lm:List D->Dm D:=eF 4 Ie
abbrev Ig:Stmt:=top 47
def Ln:au ["floor","right","up","back"] ["floor"] (aj Ig):=by walk
abbrev D61:=Gx1 "round_corners" Ig ["floor"]
abbrev G61:=Gx2 ["floor"] 2 1 Lm
include cX dN aZ bh in
def zbr(D:D61 K mg f fd)(T:Txt mg):G61 P w K mg base f fd:=Ln|||((1>>=Ln>>=(aY<*pv 0<*aE))<|>(2>>=Ln>>=(aY<*pv 0<*aE))<|>(3>>=Ln>>=bD dN cX hr ∅ rfl (bD bh aZ hr ∅ rfl (pv 1<|aw)<|bD bh aZ hr ∅ rfl (pv 2<|aw)<|aw))<|>(~~~(@cD _ _ _ _ (bD dN cX hr ∅ rfl (bD dN cX hr ∅ rfl (pv 1<|pv 2<|aw)<|pv 3<|aw)))))|||Ie
variable {fK:Addr}{fL:FuncData}(dE:D61 K mg fK fL)(fM:G61 P w K mg base fK fL)
abbrev Ih:ai->Dm Fl :=
 (aQ (aK GY (af (aK Lm (af (ag 0) ah)) ah)))
abbrev Lo:List D->Dm D:=eF 1 Ih
abbrev Ii:Stmt:=top 48
def zbM:au ["floor"] ["floor"] (aj Ii):=by walk
abbrev D62:=Gx1 "corners_of" Ii ["floor"]
abbrev G62:=Gx2 ["floor"] 3 1 Lo
include eZ fV dE fM in
def ybM(D:D62 K mg f fd)(T:Txt mg):G62 P w K mg base f fd:=zbM|||(~~~(@cD _ _ _ _ (bD fV eZ hr ∅ rfl (bD fM dE hr ∅ rfl (pv 0<|aw)<|aw))))|||Ih
variable {jB:Addr}{jC:FuncData}(gQ:D62 K mg jB jC)(jD:G62 P w K mg base jB jC)
abbrev Ij:ai->Dm Fl :=
 (aq (ay (ao oH (ft (af (fC (.int 0)) ah)) (aK dM (af (ao av (ag 0) (fC (.int 0))) ah))) (hName 1))
 (aq (bY (oq (af (aK Lo (af (ag 0) ah)) ah)) (om 2 (eW (hName 2) (eW (hName 3) pk))) (bY (hJ (ag 3)) (hName 4) (ay (ag 2) (hSub (ag 1) (ag 4)))))
 (aQ (aK bU (af (ag 1) ah)))))
abbrev Lp:List D->Dm D:=eF 5 Ij
abbrev Ik:Stmt:=top 55
def Il:au ["floor","numbers","number","ring","s"] ["floor"] (aj Ik):=by walk
abbrev D63:=Gx1 "corner_numbers" Ik ["floor"]
abbrev G63:=Gx2 ["floor"] 4 1 Lp
include gQ jD in
def Ybn(D:D63 K mg f fd)(T:Txt mg):G63 P w K mg base f fd:=Il|||((1>>=Il>>=a8 wC (@oB _ _ _ _ (aE<|aw)) (my mS (by rfl) T.bW mU ((aY<*pv 0<*aE)<|aw)))<|>(M6 rfl T.jc (bD jD gQ hr ∅ rfl (pv 0<|aw)<|aw)&&&xO (n:=2) rfl (rO (fm (i:=2) Il.nd rfl (by w_up)) (rO (fm (i:=3) Il.nd rfl (by w_up)) xN))&&&(~~~(tO (pv 3)&&&(fm (i:=4) Il.nd rfl (by w_up))&&&(~~~sd (pv 2) (rP (pv 1) (pv 4) rQ)))))<|>(~~~(@cD _ _ _ _ (ja p9 (by rfl) T.bL qa (pv 1<|aw)))))|||Ij
variable {eh:Addr}{ek:FuncData}(cR:D63 K mg eh ek)(eo:G63 P w K mg base eh ek)
abbrev Im:ai->Dm Fl :=
 (aq (ay (aK xn (af (ag 0) ah)) (hName 2))
 (aq (ay (aK Lp (af (ag 0) ah)) (hName 3))
 (aq (ay (ao oH (ft (af (fC (.int 0)) ah)) (aK dM (af (ao av (ag 0) (fC (.int 0))) ah))) (hName 4))
 (aq (bY (bR (af (aK dM (af (ao av (ag 0) (fC (.int 0))) ah)) ah)) (hName 5) (aq (ay (ao av (iJ (ag 2) (fC (.str "d"))) (ag 5)) (hName 6))
 (aq (ay (ao av (ag 3) (ao av (iJ (ag 2) (fC (.str "l"))) (ag 6))) (hName 7))
 (aq (ay (ao av (ag 3) (ag 6)) (hName 8))
 (aq (ay (ao av (ag 3) (ao av (iJ (ag 2) (fC (.str "l"))) (ag 5))) (hName 9))
 (aq (ay (ao mw (ao mw (ao hZ (ag 4) (ag 7)) (ao av (ag 1) (ag 5))) (ao av (ag 1) (ao b8 (aK dM (af (ao av (ag 0) (fC (.int 0))) ah)) (ag 5)))) (hSub (ag 4) (ag 7)))
 (aq (ay (ao b8 (ao hZ (ag 4) (ag 8)) (ao av (ag 1) (ag 5))) (hSub (ag 4) (ag 8)))
 (ay (ao b8 (ao hZ (ag 4) (ag 9)) (ao av (ag 1) (ao b8 (aK dM (af (ao av (ag 0) (fC (.int 0))) ah)) (ag 5)))) (hSub (ag 4) (ag 9))))))))))
 (aQ (aK uc (af (dC (oo (ag 4)) 1 [] (hName 0) dQ (ao (iG false) (ag 0) (fC (.int 0)))) ah)))))))
abbrev yR:List D->Dm D:=eF 10 Im
abbrev Io:Stmt:=top 56
def xq:au ["floor","seam","turnings","upper_right","left_over","s","lower","begin","lower_end","left_end"] ["floor","seam"] (aj Io):=by walk
abbrev D64:=Gx1 "is_closed" Io ["floor","seam"]
abbrev G64:=Gx2 ["floor","seam"] 5 2 yR
include aP aT cR eo in
def xbX(D:D64 K mg f fd)(T:Txt mg):G64 P w K mg base f fd:=by refine D.F.ok xq (λ_ _ _ _ h=>h.1) (λc A o s H v Q E hr h=>?_);have hu1:=yb hr;refine⟨_,((2>>=xq>>=bD aT aP hr ∅ rfl (pv 0<|aw))<|>(3>>=xq>>=bD eo cR hr ∅ rfl (pv 0<|aw))<|>(4>>=xq>>=a8 wC (@oB _ _ _ _ (aE<|aw)) (my mS (by rfl) T.bW mU ((aY<*pv 0<*aE)<|aw)))<|>(p8 rfl T.aV (my mS (by rfl) T.bW mU ((aY<*pv 0<*aE)<|aw)<|aw)&&&(fm (i:=5) xq.nd rfl (by w_up))&&&((6>>=xq>>=(aY<*um hu1 (pv 2) fO (λ_ _=>rfl)<*pv 5))<|>(7>>=xq>>=(aY<*pv 3<*(aY<*um hu1 (pv 2) fO (λ_ _=>rfl)<*pv 6)))<|>(8>>=xq>>=(aY<*pv 3<*pv 6))<|>(9>>=xq>>=(aY<*pv 3<*(aY<*um hu1 (pv 2) fO (λ_ _=>rfl)<*pv 5)))<|>sd (a8 uK (a8 uK (pW<*pv 4<*pv 7) (aY<*pv 1<*pv 5)) (aY<*pv 1<*a8 jO (my mS (by rfl) T.bW mU ((aY<*pv 0<*aE)<|aw)) (pv 5))) (rP (pv 4) (pv 7) rQ)<|>sd (a8 jO (pW<*pv 4<*pv 8) (aY<*pv 1<*pv 5)) (rP (pv 4) (pv 8) rQ)<|>(~~~sd (a8 jO (pW<*pv 4<*pv 9) (aY<*pv 1<*a8 jO (my mS (by rfl) T.bW mU ((aY<*pv 0<*aE)<|aw)) (pv 5))) (rP (pv 4) (pv 9) rQ))))<|>(~~~(@cD _ _ _ _ (my (Wz rfl) (by rfl) T.FZ zS (uq (own:=["number"]) (fr:=[]) (js:=[]) rfl (by k_in) (Mh (pv 4)) (λ_ _ _ _ _=>(fm (i:=0) (show((["number"]:List Str) ++ ([]:List Str)).Nodup by w_fin) rfl (by w_up))) (λ_ _ _ _ _=>uo) (λ_ _ _ _ _=>(Cu nu (pv 0) aE (aH _)))<|aw))))),?_⟩;exact fB (b:=Im) (by delta Im;o_norm) rfl h
variable {kD:Addr}{kE:FuncData}(fX:D64 K mg kD kE)(iR:G64 P w K mg base kD kE)
abbrev Lq:ai->Dm Fl :=
 (aq (ay (aK vC (af (ag 0) (af (ag 1) ah))) (hName 5))
 (aq (ay (aK vE (af (ag 0) (af (ag 1) (af (ag 2) ah)))) (hName 6))
 (aq (ay (aK BF (af (ag 1) (af (ag 4) ah))) (hName 7))
 (aq (iF (CH (aI (ao (vq true) (aK yR (af (ag 5) (af (ag 2) ah))) (fC (.bl true)))) (aI (ao (vq true) (aK yR (af (ag 0) (af (ag 6) ah))) (fC (.bl true))))) (aQ (fC (.bl false))) bx)
 (aq (iF (aI (ao (iG true) (ao av (aK yP (af (ag 0) (af (ag 3) (af (ag 7) ah)))) (pY i7 (fC (.int 1)))) (ag 3))) (aQ (fC (.bl false))) bx)
 (aq (iF (aI (ao (iG true) (aK qZ (af (ag 5) (af (ag 3) (af (ag 4) (af (ag 2) ah))))) (aK qZ (af (ag 0) (af (ag 3) (af (ag 7) (af (ag 6) ah))))))) (aQ (fC (.bl false))) bx)
 (aq (rD 8 9 (af (aK xo (af (ag 5) (af (ag 2) ah))) (af (aK xo (af (ag 0) (af (ag 6) ah))) ah)))
 (aq (iF (CH (aI (ao (iG true) (ao av (ag 8) (fC (.int 0))) (ao av (ag 9) (fC (.int 0))))) (sv (aI (ao (iG false) (ao av (ag 9) (fC (.int 0))) (fC (.str "border")))) (aI (ao (oG true) (aK BD (af (ag 0) (af (ao av (ag 9) (fC (.int 1))) ah))) (ag 6))))) (aQ (fC (.bl false))) bx)
 (aq (iF (sv (aI (ao (iG false) (ao av (ag 9) (fC (.int 0))) (fC (.str "ride")))) (aI (ao (iG false) (aK qZ (af (ag 0) (af (fC (.int 0)) (af (ao av (ag 9) (fC (.int 1))) (af (ag 6) ah))))) (fC (.int 0))))) (aQ (fC (.bl false))) bx)
 (aq (iF (sv (aI (ao (iG false) (ao av (ag 9) (fC (.int 0))) (fC (.str "ride")))) (aI (ao (iG true) (ao av (aK yP (af (ag 0) (af (fC (.int 0)) (af (ao av (ag 9) (fC (.int 1))) ah)))) (pY i7 (fC (.int 1)))) (fC (.int 0))))) (aQ (fC (.bl false))) bx)
 (aq (iF (aI (ao (iG false) (ao av (ag 8) (fC (.int 0))) (fC (.str "ride")))) (aq (ay (aK BF (af (ag 1) (af (ao av (ag 8) (fC (.int 1))) ah))) (hName 10))
 (iF (aI (ao (iG true) (aK qZ (af (ag 0) (af (fC (.int 0)) (af (ag 10) (af (ag 6) ah))))) (aK qZ (af (ag 5) (af (fC (.int 0)) (af (ao av (ag 8) (fC (.int 1))) (af (ag 2) ah))))))) (aQ (fC (.bl false))) bx)) bx)
 (aq (ay (aK vC (af (ag 0) (af (uv qD (ag 1) fu (kT (fC (.int 1)))) ah))) (hName 11))
 (aQ (ao (oG false) (aK vE (af (ag 0) (af (uv qD (ag 1) fu (kT (fC (.int 1)))) (af (aK vE (af (ag 11) (af (uv qD (ag 1) (kT (fC (.int 1))) fu) (af (ag 2) ah)))) ah)))) (ag 6)))))))))))))))
abbrev Lr:List D->Dm D:=eF 12 Lq
abbrev Ip:Stmt:=top 76
def BG:au ["_law_floor_here","_law_word_here","_law_seam","_law_s","_law_ride","_law_there","_law_here","_law_gone","_law_told","_law_back","_law_steps_here","_law_middle"] ["_law_floor_here","_law_word_here","_law_seam","_law_s","_law_ride"] (aj Ip):=by walk
abbrev D65:=Gx1 "_law_right" Ip ["_law_floor_here","_law_word_here","_law_seam","_law_s","_law_ride"]
abbrev G65:=Gx2 ["_law_floor_here","_law_word_here","_law_seam","_law_s","_law_ride"] 11 5 Lr
include dY fG bX cu iw jw cG cQ bp bE bC bI cY dX fX iR in
def ZbM(D:D65 K mg f fd)(T:Txt mg):G65 P w K mg base f fd:=by
 refine D.F.ok BG (λ_ _ _ _ h=>h.1) (λc A o s H v Q E hr h=>?_);have hu:=hr.units;refine⟨_,((5>>=BG>>=bD fG dY hr ∅ rfl (pv 0<|pv 1<|aw))<|>(6>>=BG>>=bD bI bC hr ∅ rfl (pv 0<|pv 1<|pv 2<|aw))<|>(7>>=BG>>=bD dX cY hr ∅ rfl (pv 1<|pv 4<|aw))<|>(PW.pt (Md (gH S3 (bD iR fX hr ∅ rfl (pv 5<|pv 2<|aw)) r9 (aH _)) (Mc (gH S3 (bD iR fX hr ∅ rfl (pv 0<|pv 6<|aw)) r9 (aH _))))<*>(~~~(@cD _ _ _ _ r9))<*>la)<|>(gH vN (aY<*bD jw iw hr ∅ rfl (pv 0<|pv 3<|pv 7<|aw)<*qm qo aE) (pv 3) (aH _)<*>(~~~(@cD _ _ _ _ r9))<*>la)<|>(gH vN (bD cQ cG hr ∅ rfl (pv 5<|pv 3<|pv 4<|pv 2<|aw)) (bD cQ cG hr ∅ rfl (pv 0<|pv 3<|pv 7<|pv 6<|aw)) (aH _)<*>(~~~(@cD _ _ _ _ r9))<*>la)<|>(DS (i:=8) (j:=9) rfl BG.nd rfl rfl ∅ rfl rfl (bD bE bp hr ∅ rfl (pv 5<|pv 2<|aw)<|bD bE bp hr ∅ rfl (pv 0<|pv 6<|aw)<|aw) rfl)<|>(PW.pt (Md (gH vN (aY<*pv 8<*aE) (aY<*pv 9<*aE) (aH _)) (Mc (PW.pt (Jx (gH nu (aY<*pv 9<*aE) fO (aH _)) (Jw (gH (MN hu) (bD cu bX hr ∅ rfl (pv 0<|(aY<*pv 9<*aE)<|aw)) (pv 6) (aH _)))))))<*>(~~~(@cD _ _ _ _ r9))<*>la)<|>(PW.pt (Jx (gH nu (aY<*pv 9<*aE) fO (aH _)) (Jw (gH nu (bD cQ cG hr ∅ rfl (pv 0<|aE<|(aY<*pv 9<*aE)<|pv 6<|aw)) aE (aH _))))<*>(~~~(@cD _ _ _ _ r9))<*>la)<|>(PW.pt (Jx (gH nu (aY<*pv 9<*aE) fO (aH _)) (Jw (gH vN (aY<*bD jw iw hr ∅ rfl (pv 0<|aE<|(aY<*pv 9<*aE)<|aw)<*qm qo aE) aE (aH _))))<*>(~~~(@cD _ _ _ _ r9))<*>la)<|>(gH nu (aY<*pv 8<*aE) fO (aH _)<*>((10>>=BG>>=bD dX cY hr ∅ rfl (pv 1<|(aY<*pv 8<*aE)<|aw))<|>(~~~(gH vN (bD cQ cG hr ∅ rfl (pv 0<|aE<|pv 10<|pv 6<|aw)) (bD cQ cG hr ∅ rfl (pv 5<|aE<|(aY<*pv 8<*aE)<|pv 2<|aw)) (aH _)<*>(~~~(@cD _ _ _ _ r9))<*>la)))<*>la)<|>(11>>=BG>>=bD fG dY hr ∅ rfl (pv 0<|wy zV (pv 1) wt (wx aE)<|aw))<|>(~~~(@cD _ _ _ _ (Cu (zX hu) (bD bI bC hr ∅ rfl (pv 0<|wy zV (pv 1) wt (wx aE)<|bD bI bC hr ∅ rfl (pv 11<|wy zV (pv 1) (wx aE) wt<|pv 2<|aw)<|aw)) (pv 6) (aH _))))),?_⟩
 exact fB (b:=Lq) (fe (iA (i6 (F:=vC) (aU (aG 0) (aU (aG 1) bZ)) qY) (e8 5))
  (fe (iA (i6 (F:=vE) (aU (aG 0) (aU (aG 1) (aU (aG 2) bZ))) vY) (e8 6))
  (fe (iA (i6 (F:=BF) (aU (aG 1) (aU (aG 4) bZ)) qY) (e8 7))
  (fe (rC (J9 (oF (bF (S0 true) (i6 (F:=yR) (aU (aG 5) (aU (aG 2) bZ)) qY) (ve _))) (oF (bF (S0 true) (i6 (F:=yR) (aU (aG 0) (aU (aG 6) bZ)) qY) (ve _)))) (nG (ve _)) sy)
  (fe (rC (oF (bF xa (bF fQ (i6 (F:=yP) (aU (aG 0) (aU (aG 3) (aU (aG 7) bZ))) vY) (qB qC (cJ _))) (aG 3))) (nG (ve _)) sy)
  (fe (rC (oF (bF xa (i6 (F:=qZ) (aU (aG 5) (aU (aG 3) (aU (aG 4) (aU (aG 2) bZ)))) Bz) (i6 (F:=qZ) (aU (aG 0) (aU (aG 3) (aU (aG 7) (aU (aG 6) bZ)))) Bz))) (nG (ve _)) sy)
  (fe (NT (aU (i6 (F:=xo) (aU (aG 5) (aU (aG 2) bZ)) qY) (aU (i6 (F:=xo) (aU (aG 0) (aU (aG 6) bZ)) qY) bZ)))
  (fe (rC (J9 (oF (bF xa (bF fQ (aG 8) (cJ _)) (bF fQ (aG 9) (cJ _)))) (J8 (oF (bF t5 (bF fQ (aG 9) (cJ _)) (mV _))) (oF (bF (Kb true) (i6 (F:=BD) (aU (aG 0) (aU (bF fQ (aG 9) (cJ _)) bZ)) qY) (aG 6))))) (nG (ve _)) sy)
  (fe (rC (J8 (oF (bF t5 (bF fQ (aG 9) (cJ _)) (mV _))) (oF (bF t5 (i6 (F:=qZ) (aU (aG 0) (aU (cJ _) (aU (bF fQ (aG 9) (cJ _)) (aU (aG 6) bZ)))) Bz) (cJ _)))) (nG (ve _)) sy)
  (fe (rC (J8 (oF (bF t5 (bF fQ (aG 9) (cJ _)) (mV _))) (oF (bF xa (bF fQ (i6 (F:=yP) (aU (aG 0) (aU (cJ _) (aU (bF fQ (aG 9) (cJ _)) bZ))) vY) (qB qC (cJ _))) (cJ _)))) (nG (ve _)) sy)
  (fe (rC (oF (bF t5 (bF fQ (aG 8) (cJ _)) (mV _))) (fe (iA (i6 (F:=BF) (aU (aG 1) (aU (bF fQ (aG 8) (cJ _)) bZ)) qY) (e8 10))
  (rC (oF (bF xa (i6 (F:=qZ) (aU (aG 0) (aU (cJ _) (aU (aG 10) (aU (aG 6) bZ)))) Bz) (i6 (F:=qZ) (aU (aG 5) (aU (cJ _) (aU (bF fQ (aG 8) (cJ _)) (aU (aG 2) bZ)))) Bz))) (nG (ve _)) sy)) sy)
  (fe (iA (i6 (F:=vC) (aU (aG 0) (aU (w6 Az (aG 1) wY (wZ (cJ _))) bZ)) qY) (e8 11))
  (nG (bF (Kb false) (i6 (F:=vE) (aU (aG 0) (aU (w6 Az (aG 1) wY (wZ (cJ _))) (aU (i6 (F:=vE) (aU (aG 11) (aU (w6 Az (aG 1) (wZ (cJ _)) wY) (aU (aG 2) bZ))) vY) bZ))) vY) (aG 6))))))))))))))) rfl h
variable {jE:Addr}{jF:FuncData}(gR:D65 K mg jE jF)(jG:G65 P w K mg base jE jF)
abbrev Iq:ai->Dm Fl :=
 (aq (ay (aK vC (af (ag 1) (af (ag 2) ah))) (hName 3))
 (aq (ay (aK pR (af (ag 0) (af (aK dM (af (ao av (ag 1) (fC (.int 0))) ah)) ah))) (hName 4))
 (aq (ay (aK KZ (af (ag 0) (af (ag 3) (af (ag 4) ah)))) (hName 5))
 (aq (ay (ao hZ (ft (af (fC (.int 3)) (af (fC (.int 300)) ah))) (aK pR (af (ag 0) (af (fC (.int 2)) ah)))) (hName 6))
 (aq (ay (aK BD (af (ag 3) (af (dC (bR (af (aK dM (af (ao av (ag 1) (fC (.int 0))) ah)) ah)) 1 [0,6] (hName 0) dQ (ao mw (aK pR (af (ag 1) (af (ao b8 (ao jH (fC (.int 2)) (ag 2)) (fC (.int 1))) ah))) (ag 2))) ah))) (hName 7))
 (aq (iF (aI (ao (iG true) (ao av (aK xo (af (ag 1) (af (aK vE (af (ag 1) (af (ag 2) (af (ag 7) ah)))) ah))) (fC (.int 0))) (fC (.str "border")))) (aQ (fC (.bl false))) bx)
 (aq (bY (hJ (cP (af (aK Hl (af (aK Ld (af (ag 0) (af (ag 3) ah))) (af (ag 7) (af (fC (.int 1)) ah)))) (af (ag 7) ah)))) (hName 8) (iF (tZ (aI (aK Lr (af (ag 1) (af (ag 2) (af (ag 8) (af (ag 4) (af (ag 5) ah)))))))) (aQ (fC (.bl false))) bx))
 (aQ (fC (.bl true))))))))))
abbrev Lu:List D->Dm D:=eF 9 Iq
abbrev Ir:Stmt:=top 77
def BH:au ["_law_feed_here","_law_floor_here","_law_word_here","_law_there","_law_s","_law_ride","_law_far","_law_border","_law_seam"] ["_law_feed_here","_law_floor_here","_law_word_here"] (aj Ir):=by walk
abbrev D66:=Gx1 "_law_all_right" Ir ["_law_feed_here","_law_floor_here","_law_word_here"]
abbrev G66:=Gx2 ["_law_feed_here","_law_floor_here","_law_word_here"] 12 3 Lu
include az aA dY fG b9 c7 bX cu e7 fW bp bE cf dg bC bI gR jG in
def xbn(D:D66 K mg f fd)(T:Txt mg):G66 P w K mg base f fd:=BH|||((3>>=BH>>=bD fG dY hr ∅ rfl (pv 1<|pv 2<|aw))<|>(4>>=BH>>=bD aA az hr ∅ rfl (pv 0<|my mS (by rfl) T.bW mU ((aY<*pv 1<*aE)<|aw)<|aw))<|>(5>>=BH>>=bD c7 b9 hr ∅ rfl (pv 0<|pv 3<|pv 4<|aw))<|>(6>>=BH>>=(pW<*(@oB _ _ _ _ (aE<|aE<|aw))<*bD aA az hr ∅ rfl (pv 0<|aE<|aw)))<|>(7>>=BH>>=bD cu bX hr ∅ rfl (pv 3<|uq (own:=["_law_j"]) (fr:=["_law_feed_here","_law_far"]) (js:=[0,6]) rfl (by k_in) (p8 rfl T.aV (my mS (by rfl) T.bW mU ((aY<*pv 1<*aE)<|aw)<|aw)) (λ_ _ _ _ _=>(fm (i:=0) (show((["_law_j"]:List Str) ++ (["_law_feed_here","_law_far"]:List Str)).Nodup by w_fin) rfl (by w_up))) (λ_ _ _ _ _=>uo) (λ_ _ _ _ _=>(a8 uK (bD aA az hr ∅ rfl (pv 1<|a8 jO (a8 qV aE (pv 2)) aE<|aw)) (pv 2)))<|aw))<|>(gH vN (aY<*bD bE bp hr ∅ rfl (pv 1<|bD bI bC hr ∅ rfl (pv 1<|pv 2<|pv 7<|aw)<|aw)<*aE) fO (aH _)<*>(~~~(@cD _ _ _ _ r9))<*>la)<|>(tO (@lp _ _ _ _ _ (bD fW e7 hr ∅ rfl (bD dg cf hr ∅ rfl (pv 0<|pv 3<|aw)<|pv 7<|aE<|aw)<|pv 7<|aw))&&&(fm (i:=8) BH.nd rfl (by w_up))&&&(~~~(Me (Mb (bD jG gR hr ∅ rfl (pv 1<|pv 2<|pv 8<|pv 4<|pv 5<|aw)))<*>(~~~(@cD _ _ _ _ r9))<*>la)))<|>(~~~(@cD _ _ _ _ r9)))|||Iq
variable {eA:Addr}{eB:FuncData}(cT:D66 K mg eA eB)(eE:G66 P w K mg base eA eB)
abbrev Iu:ai->Dm Fl :=
 (aq (bY (bR (af (aK tq (af (fC (.int 2)) (af (aK dM (af (uv vh (ag 0) fu (kT (fC (.int 6)))) ah)) ah))) ah)) (hName 1) (aq (ay (aK Kn (af (ag 0) (af (ag 1) ah))) (hName 2))
 (aq (rD 3 4 (af (aK GQ (af (ag 2) (af (fC (.int 4)) (af (fC (.int 3)) ah)))) (af (aK GQ (af (ag 2) (af (fC (.int 8)) (af (fC (.int 2)) ah)))) ah)))
 (aq (ay (aK Kq (af (ag 2) (af (ao b8 (fC (.int 1)) (aK pR (af (ag 2) (af (fC (.int 8)) ah)))) ah))) (hName 5))
 (aq (ay (aK KJ (af (aK BA (af (ag 4) ah)) ah)) (hName 6))
 (bY (oo (ao oi (ft (af (ag 3) ah)) (ao oH (ft (af (ag 6) ah)) (aK qc (af (ao E7 (aK dM (af (ag 6) ah)) (fC (.int 21))) ah))))) (hName 7) (iF (tZ (aI (aK Lu (af (ag 2) (af (ag 5) (af (ag 7) ah)))))) (aQ (fC (.bl false))) bx)))))))
 (aQ (fC (.bl true))))
abbrev Oq:List D->Dm D:=eF 8 Iu
abbrev Lv:Stmt:=top 78
def BI:au ["_law_script","_law_k","_law_feed_here","_law_word_here","_law_longer","_law_floor_here","_law_told","_law_some"] ["_law_script"] (aj Lv):=by walk
abbrev D67:=Gx1 "law" Lv ["_law_script"]
abbrev G67:=Gx2 ["_law_script"] 13 1 Oq
include iK j8 az aA gJ jf cF cW lD nR fU iO cT eE in
def BJ(D:D67 K mg f fd)(T:Txt mg):G67 P w K mg base f fd:=BI|||((p8 rfl T.aV (my (VP rfl) (by rfl) T.F0 zR (aE<|my mS (by rfl) T.bW mU (wy Qo (pv 0) wt (wx aE)<|aw)<|aw)<|aw)&&&(fm (i:=1) BI.nd rfl (by w_up))&&&((2>>=BI>>=bD j8 iK hr ∅ rfl (pv 0<|pv 1<|aw))<|>(DS (i:=3) (j:=4) rfl BI.nd rfl rfl ∅ rfl rfl (bD iO fU hr ∅ rfl (pv 2<|aE<|aE<|aw)<|bD iO fU hr ∅ rfl (pv 2<|aE<|aE<|aw)<|aw) rfl)<|>(5>>=BI>>=bD jf gJ hr ∅ rfl (pv 2<|a8 jO aE (bD aA az hr ∅ rfl (pv 2<|aE<|aw))<|aw))<|>(6>>=BI>>=bD nR lD hr ∅ rfl (bD cW cF hr ∅ rfl (pv 4<|aw)<|aw))<|>(~~~(Mh (a8 vP (@oB _ _ _ _ (pv 3<|aw)) (a8 wC (@oB _ _ _ _ (pv 6<|aw)) (ja P9 (by rfl) T.yK QH (Cu Mj (my mS (by rfl) T.bW mU (pv 6<|aw)) aE (aH _)<|aw))))&&&(fm (i:=7) BI.nd rfl (by w_up))&&&(~~~(Me (Mb (bD eE cT hr ∅ rfl (pv 2<|pv 5<|pv 7<|aw)))<*>(~~~(@cD _ _ _ _ r9))<*>la))))))<|>(~~~(@cD _ _ _ _ r9)))|||Iu
end
def qP{st:Store}{f:Nat}{n:Int}(hf:aM st f)(h0:0<n)(h1:n<1073741824):Wp (pR [.ref f,.int n] st) λd st'=>∃k:Int,d=.int k/\0<=k/\k<n/\aM st' f/\Ex [f] st st':=by obtain⟨o,m,e,o0,m0,m1⟩:=hf;have hfl:=eY e;refine mM ?_;show Ws (F5 [some (.ref f),some (.int n),none,none] st) _ _ _ _;unfold F5;refine aO (gi ?_);exists fS e,mX e;refine⟨λho=>?_,λho=>?_⟩;refine aO (bt ?_);exists fS e;refine⟨h0,aO (rX ?_)⟩;exists fS e,mX e,(show lS [D.int o,D.int m].length 0=some 0 from FJ);refine⟨⟨h0,h1⟩,cZ ?_⟩;w_how;refine⟨Zbi _ ⋯,ZbF _ h0,⟨o / n,m,?_,Int.ediv_nonneg o0 ⋯,m0,m1⟩,Ex.refl.put (by simp)⟩;rw[Zag hfl];refine jb (aO (bt ?_));exists fS e;refine⟨by lk,by lk,aO (rX ?_)⟩;exists fS e,mX e,(show lS [D.int o,D.int m].length 1=some 1 from FK);refine⟨by lk,by lk,cZ ?_⟩;have e2:(st.set f (.lst [.int o,.int ((m*48271 % 2147483647*40692+30103) % 2147483399+1)]))[f]?=some (.lst [.int o,.int ((m*48271 % 2147483647*40692+30103) % 2147483399+1)]):=Zag hfl;exists fS e2;refine⟨by lk,by lk,h0,Zbi _ ⋯,ZbF _ h0,⟨_,_,e2,o0,by lk,by lk⟩,Ex.refl.put (by simp)⟩
def ZcL{st:Store}{a:Nat}{ns:List Int}{k:Nat}(hs:items st a=some (ns.map D.int))(hk:k<=100):Wp (Kn [.ref a,.int (k:Int)] st) λd st'=>d=.ref st.length/\aM st' st.length/\Ex [] st st':=by
 refine mM ?_;show Ws (F3 [some (.ref a),some (.int (k:Int)),none,none] st) _ _ _ _;unfold F3;refine aO (bt ?_);w_how;refine⟨by lk,aO (vU (N:=λδ st1=>st1=st/\∃c:Int,δ=[some (.ref a),some (.int (k:Int)),some (.int c),none]) (gi ?_) ?_)⟩;exists hs;refine⟨λh=>bt ?_,λh=>gi ?_⟩;have h:=of_decide_eq_true h;rw[Zaa]at h;exists hs;refine⟨.int (ns[k]'⋯),Ea (by rw[Zaj,Zam];rfl),_,rfl⟩;exists hs;refine⟨λh=>bt ?_,λh=>jb ⟨rfl,_,rfl⟩⟩;have h:=of_decide_eq_true h;obtain⟨v,hv,hm⟩:=zY (xs:=ns.map D.int) (i:=(k:Int) % ((ns.map D.int).length:Int)) (Zbi _ ⋯) (ZbF _ h);obtain⟨c,_,rfl⟩:=ZaP.mp hm;exists hs;refine⟨h,_,hv,?_⟩;w_how;exact⟨by lk,by lk,by lk,_,rfl⟩;rintro δ st1 ⟨rfl,c,rfl⟩;refine aO (bt ?_);w_how;refine aO (vU (N:=λδ st2=>st2=st1/\∃o:Int,0<=o/\δ=[some (.ref a),some (.int (k:Int)),some (.int c),some (.int o)]) (gi ?_) ?_);w_how;refine⟨by decide,λh=>bt ?_,λh=>jb ⟨rfl,0,by decide,rfl⟩⟩;have h:=of_decide_eq_true h;w_how;exact⟨c,Int.le_trans ∅ h,rfl⟩;rintro δ st2 ⟨rfl,o,o0,rfl⟩;refine cZ ?_;w_how;have h1:0<=c % 2147483629:=Zbi _ ∅;have h2:c % 2147483629<2147483629:=ZbF _ ∅;refine⟨by lk,by lk,by lk,by lk,by lk,by rfl,⟨_,_,jW,o0,?_,?_⟩,Ex.cE _⟩
 have:=Zbi ((c % 2147483629*48271+40692*(k:Int)) ^ (5:Int).toNat) (show(2147483629:Int)≠0 by decide)
 lk
 have:=ZbF ((c % 2147483629*48271+40692*(k:Int)) ^ (5:Int).toNat) (show(0:Int)<2147483629 by decide)
 lk
def TH{st:Store}{f:Nat}{n:Nat}(hf:aM st f)(hn:n<=100):Wp (F8 [.ref f,.int (n:Int)] st) λd st'=>∃xs:List Int,d=.tup (xs.map D.int)/\ae.Tn n xs/\aM st' f/\Ex [f] st st':=by
 have hfl:=hf.lt;refine nI ?_;intro qR;show Ws (F7 [some (.ref f),some (.int (n:Int)),none,none] st) _ _ _ _;unfold F7;refine aO (bt ?_);w_how;have e1:((n:Int)-0).toNat=n:=by lk
 rw[e1,N6];refine⟨by unfold t9;rw[ZaJ,decide_eq_true_eq];exact⟨by lk,i9 ⋯⟩,aO (bt ?_)⟩;w_how;refine⟨rfl,aO (Ba (λm δ st2=>∃L xs:List Int,m=L.length/\δ=[some (.ref f),some (.int (n:Int)),some (.ref (st ++ [O.lu 0 (n:Int)]).length),some (.tup (xs.map D.int))]/\st2[(st ++ [O.lu 0 (n:Int)]).length]?=some (.lst (L.map D.int))/\(xs ++ L).Perm (ae.upto n)/\aM st2 f/\Ex [f] st st2) n (Za1 hn ∅) ⟨ae.upto n,[],(ae.tW n).symm,rfl,jW,Zbl _,hf.keep ((Ex.cE _).app _),(Ex.cE _).app _⟩ ?_)⟩;have hl:(st ++ [O.lu 0 (n:Int)]).length≠f:=by rw[Zak];lk
 have hls:st.length<=(st ++ [O.lu 0 (n:Int)]).length:=by rw[Zak];lk
 generalize (st ++ [O.lu 0 (n:Int)]).length=l at hl hls ⊢;rintro m δ st2 ⟨L,xs,rfl,rfl,hL,pm,hf2,k2⟩;have hlen:(xs ++ L).length=n:=by rw[pm.length_eq,ae.tW]
 rw[Zak]at hlen;exists _,Z,SQ (L:=L) (M:=[]) (st:=st2 ++ [O.lst []]) (fS (nH hL)) vV;refine⟨rfl,Z _ _ ⟨λh=>?_,λh=>?_⟩⟩;have hne:L≠[]:=by simpa using h
 have hpos:0<L.length:=List.length_pos_iff.mpr hne;have uA:(st2 ++ [O.lst []])[l]?=some (.lst (L.map D.int)):=nH hL;have f3:aM (st2 ++ [O.lst []]) f:=hf2.keep (Ex.cE _);have k3:Ex [f] st (st2 ++ [O.lst []]):=k2.app _;generalize (st2 ++ [O.lst []])=st3 at uA f3 k3 ⊢;refine bt ?_;exists _,Z,fS uA;refine⟨yF (by rw[fS uA];rfl),?_⟩;refine aR (qP (n:=((L.map D.int).length:Int)) f3 (by rw[Zaa];lk) (by rw[Zaa];lk)) ?_;rintro d pS ⟨k,rfl,k0,k1,f4,k4⟩;rw[Zaa]at k1;have TJ:=k4.keep _ _ uA (by simpa using hl);have sW:k.toNat<L.length:=by lk
 exists mX TJ;have hk':((k.toNat:Nat):Int)=k:=Zat k0;refine⟨by lk,k.toNat,?_,D.int L[k.toNat],by rw[Zaj,Zam sW];rfl,rfl,i9 ?_,Z _ _ ⟨(L.eraseIdx k.toNat).length,?_,L.eraseIdx k.toNat,xs ++ [L[k.toNat]],rfl,?_,?_,?_,?_,?_⟩⟩;rw[<- hk',Zae];exact(Mt (ye (by rw[Zaa];exact sW))).1;simp only[Zaa,Zaz,ZbQ];lk;rw[List.length_eraseIdx,if_pos sW];lk;rw[Zay];rfl;rw[Zag (eY TJ),YX];refine List.Perm.trans ?_ pm;rw[Zbt];exact List.Perm.append_left xs (YY sW);exact f4.ne hl;exact(k3.trans k4).loc hls;have he:L=[]:=by simpa using h
 subst he;refine cZ ?_;k_lt Z;exact Z _ _ ⟨xs,rfl,by simpa[ae.Tn]using pm,hf2.keep (Ex.cE _),k2.app _⟩
def Yc2{st:Store}{xs ys:List Int}{n:Nat}(tx:ae.Tn n xs)(ty:ae.Tn n ys)(n0:0<n)(hn:n<=100):Wp (CY [bJ xs ys] st) λd st'=>∃(g:Nat) (F:List Int),d=.ref g/\items st' g=some (F.map D.int)/\(∀x,x∈F↔ae.mC xs ys x)/\F.length<=n/\Ex [] st st':=by
 have hlx:=tx.length;have BK:=ty.length;refine mM ?_;show Ws (Ga [some (bJ xs ys),none,none,none,none] st) _ _ _ _;unfold Ga;refine aO (bt ?_);k_lt Z;refine⟨rfl,Z _ _ (aO (lA (aF 0 (n+1)) (λi δ st2=>∃(v2 v3 v4:Option D) (F:List Int),δ=[some (bJ xs ys),some (.ref st.length),v2,v3,v4]/\st2[st.length]?=some (.lst (F.map D.int))/\ae.Fd xs ys F/\(ae.Cl xs ys F\/i+1<=F.length)/\Ex [] st st2) ?_ ?_ ?_ ?_))⟩;unfold bJ;k_lt Z;have e0:((1:Int)+((xs.map D.int).length:Int)).toNat=n+1:=by rw[Zaa];lk
 refine⟨by rw[Zaa];lk,Z _ _ ⟨by rw[e0],none,none,none,[0],rfl,jW,ae.Fd.one xs ys,.inr (Zab _),Ex.cE _⟩⟩;rw[gh];lk;rintro i d δ st2 hd ⟨v2,v3,v4,F,rfl,Ot,hF,hcl,k2⟩;k_lt Z
 refine Z _ _ (lA [.tup (xs.map D.int),.tup (ys.map D.int)] (λm δ st3=>∃ (v3 v4:Option D) (G:List Int),δ=[some (bJ xs ys),some (.ref st.length),some d,v3,v4]/\st3[st.length]?=some (.lst (G.map D.int))/\ae.Fd xs ys G /\
   (m=0->G=F)/\(m=1->F <+: G/\∀x∈F,ae.app xs x∈G)/\(2<=m->∃F1,F <+: F1/\F1 <+: G/\(∀x∈F,ae.app xs x∈F1)/\∀x∈F1,ae.app ys x∈G)/\Ex [] st st3) ?_ (by simp) ?_ ?_)
 unfold bJ;k_lt Z;exact Z _ _ ⟨rfl,v3,v4,F,rfl,Ot,hF,λ_=>rfl,λz=>by lk,λz=>by lk,k2⟩;rintro m z δ st3 hm ⟨v3,v4,G,rfl,Iv,hG,m0,m1,_,k3⟩;have hm2:m<2:=eY hm;obtain⟨zs,rfl,hz,em⟩:∃(zs:List Int),z=.tup (zs.map D.int)/\(zs=xs\/zs=ys)/\((m=0/\zs=xs)\/(m=1/\zs=ys)):=by
  rcases(show m=0\/m=1 by lk)with rfl|rfl
  exact⟨xs,by simpa using hm.symm,.inl rfl,.inl ⟨rfl,rfl⟩⟩;exact⟨ys,by simpa using hm.symm,.inr rfl,.inr ⟨rfl,rfl⟩⟩
 have tz:ae.Tn n zs:=by rcases hz with rfl|rfl;exact tx;exact ty
 have TK:=tz.length;have go:∀x,ae.mC xs ys x->ae.mC xs ys (ae.app zs x):=λx h=>by rcases hz with rfl|rfl;exact h.r;exact h.u
 k_lt Z;refine Z _ _ (Sr (G.map D.int) st3.length (λj δ pS=>∃(v4:Option D) (G':List Int),δ=[some (bJ xs ys),some (.ref st.length),some d,some (.tup (zs.map D.int)),v4]/\pS[st.length]?=some (.lst (G'.map D.int))/\pS[st3.length]?=some (.lst (G.map D.int))/\ae.Fd xs ys G'/\G <+: G'/\(∀i',i' < j->∀x,G[i']?=some x->ae.app zs x∈G')/\Ex [] st pS) ?_ ?_ ?_ ?_ ?_);exists _,Z,fS Iv;exact Z _ _ ⟨rfl,v4,G,rfl,nH Iv,jW,hG,Zb1 _,λi' h=>absurd h (Za7 _),k3.app _⟩;rw[Zaa]
 have:=hG.len tx ty n0;lk
 rintro j δ pS ⟨_,_,_,_,h,_⟩;exact fS h;rintro j y0' δ pS hj0 ⟨v4,G',rfl,vF,xr,De,pG,hd',k4⟩;obtain⟨y,hj,rfl⟩:=CT hj0;have hjl:=eY hj;have hR:=hG.mt _ (Zas hj);obtain⟨y0,y1⟩:=hR.bound tx ty n0;have at':=mE (xs:=zs) y0 (by rw[TK];exact y1);have hnext:∀Lw:List Int,G' <+: Lw->ae.app zs y∈Lw->∀i',i' < j+1->∀x,G[i']?=some x->ae.app zs x∈Lw:=λLw p h i' hi' x hx=>by
  by_cases e:i'=j;subst e;rw[hj]at hx;cases hx;exact h;exact p.subset (hd' i' ⋯ x hx)
 k_lt Z;refine Z _ _ (gi ?_);exists _,cH,at',N8 (st:=pS) (c:=.ref st.length) (ns:=G') (fS vF);refine cH _ _ ⟨λhcn=>?_,λhcn=>?_⟩;have hnm:ae.app zs y ∉ G':=λz=>by rw[Zbm.mpr z]at hcn;cases hcn
 have TL:ae.Fd xs ys (G' ++ [ae.app zs y]):=by
  refine⟨ZbL _ De.z,?_,λx hx=>?_⟩;rw[ZbT];refine⟨De.nd,by simp,λx hx y' hy e=>hnm ?_⟩;have e2:y'=ae.app zs y:=by simpa using hy
  rw[<- e2,<- e];exact hx;rcases ZaE.mp hx with h|h
  exact De.mt x h;have e2:x=ae.app zs y:=by simpa using h
  rw[e2];exact go _ hR
 have hlen2:=TL.len tx ty n0;rw[Zak]at hlen2;refine A9 ?_;exists _,BL,at',mX vF;refine⟨yF (by rw[fS vF];rfl),i9 (by rw[Zaa];simp at hlen2;lk),BL _ _ ⟨_,G' ++ [ae.app zs y],rfl,?_,?_,TL,pG.trans (ZcN _ _),hnext _ (ZcN _ _) (by simp),k4.loc (Zab _)⟩⟩;rw[Zag (eY vF),Zay];rfl;rw[Zao (by have:=eY Iv;lk)];exact xr;have hcn:G'.contains (ae.app zs y)=true:=by simpa using hcn
 exact jb ⟨_,G',rfl,vF,xr,De,pG,hnext G' (Zb1 _) (Zbm.mp hcn),k4⟩;rintro δ pS ⟨v4,G',rfl,vF,xr,De,pG,hd',k4⟩;rw[Zaa]at hd';have hall:∀x∈G,ae.app zs x∈G':=λx hx=>by
  obtain⟨i',hi',e⟩:=Zbz hx;exact hd' i' hi' x (by rw[Zam hi',e])
 refine⟨_,_,G',rfl,vF,De,λz=>by lk,λz=>?_,λz=>?_,k4⟩;rcases em with⟨rfl,rfl⟩|⟨rfl,_⟩
 have:=m0 rfl
 subst this;exact⟨pG,hall⟩;lk;rcases em with⟨rfl,_⟩|⟨rfl,rfl⟩
 lk;obtain⟨p1,c1⟩:=m1 rfl;exact⟨G,p1,pG,c1,hall⟩;rintro δ st3 ⟨v3,v4,G,rfl,Iv,hG,_,_,m2,k3⟩;obtain⟨F1,p1,p2,c1,c2⟩:=m2 (Zab 2);exact⟨_,_,_,G,rfl,Iv,hG,ae.round hF hG p1 p2 c1 c2 hcl,k3⟩;rintro δ st2 ⟨v2,v3,v4,F,rfl,Ot,hF,hcl,k2⟩;rw[gh]at hcl;have hl:=hF.len tx ty n0;have hc:ae.Cl xs ys F:=hcl.resolve_right ⋯;refine cZ ?_;k_lt Z;exact Z _ _ ⟨_,F,rfl,fS Ot,λx=>⟨hF.mt x,λh=>hc.all hF.z h⟩,hl,k2⟩
def TM{st:Store}{δ:ai}{X Y:List Int}{n:Nat}{Q:D->Store->Prop}(tX:ae.Tn n X)(tY:ae.Tn n Y)(n0:0<n)(hn:n<=100)(h1:δ[1]?=some (some (.int (n:Int))))(h6:δ[6]?=some (some (bJ X Y)))
  (q:∀(L:List Int) (st':Store),L.length<=n->L.Nodup->(∀x,x∈L↔(0<=x/\x<(n:Int)/\¬ae.mC X Y x))->Ex [] st st'->Q (.ref st'.length) (st' ++ [.lst (L.map D.int)])) :
  Wp (dC (bR (af (ag 1) ah)) 1 [6] (hName 0) (aI (ao (vi true) (ag 0) (aK CY (af (ag 1) ah)))) (ag 0) δ st) Q:=by
 have h6':δ.getD 6 none=some (bJ X Y):=by rw[Zau,h6];rfl
 refine Ki (aF 0 n) (λj zs δ' lg=>∃(v:Option D) (L:List Int),δ'=[v,some (bJ X Y)]/\zs=L.map D.int/\L.length<=j/\L.Nodup/\(∀x,x∈L↔(0<=x/\x<(j:Int)/\¬ae.mC X Y x))/\Ex [] st lg) ?_ (by rw[gh];lk) ?_ ?_ ?_;exists _,Z,h1;refine⟨by lk,Z _ _ ⟨λi ys δ st hi _=>?_,none,[],?_,rfl,Zab _,List.nodup_nil,λx=>⟨(λh=>nomatch h),λh=>by lk⟩,Ex.refl⟩⟩;rw[Zae];show(if i<=(aF 0 n).length then some (aF 0 n)[i]? else none)=_;rw[if_pos hi];unfold rE;simp only[Zav,Za3,h6'];rfl;rintro j zs δ' lg ⟨v,L,_,rfl,hl,_⟩;rw[Zaa];exact hl;rintro j d zs δ' lg hd ⟨v,L,rfl,rfl,yS,nd,hL,k8⟩;have hjl:=eY hd;rw[gh]at hjl;rw[vT hjl]at hd;cases hd;rw[Za9];k_lt Z;refine Z _ _ ?_;k_lt cH;refine aR (Yc2 (st:=lg) tX tY n0 hn) ?_;rintro d rF ⟨g,F,rfl,hg,hF,hFl,k9⟩;rw[N8 (c:=.ref g) (ns:=F) hg];refine⟨_,rfl,cH _ _ ⟨λhc=>?_,λhc=>?_⟩⟩;have hR:¬ae.mC X Y (j:Int):=λh=>by rw[Zbm.mpr ((hF _).mpr h)]at hc;cases hc
 k_lt BL;refine BL _ _ ⟨_,L ++ [(j:Int)],rfl,by rw[Zay];rfl,by rw[Zak];simp;lk,?_,λx=>?_,k8.trans k9⟩;rw[ZbT];refine⟨nd,by simp,λx hx y hy e=>?_⟩;have e2:y=(j:Int):=by simpa using hy
 have:=((hL x).mp hx).2.1;lk
 rw[ZaE,hL x];constructor;rintro(⟨a1,a2,a3⟩|h);exact⟨a1,by lk,a3⟩;have e2:x=(j:Int):=by simpa using h
 rw[e2];exact⟨by lk,by lk,hR⟩;rintro⟨a1,a2,a3⟩;rcases Int.lt_or_le x (j:Int)with h|h
 exact .inl ⟨a1,h,a3⟩;exact .inr (by simp;lk);have hc:F.contains (j:Int)=true:=by simpa using hc
 have hR:=(hF _).mp (Zbm.mp hc);refine⟨_,L,rfl,rfl,by lk,nd,λx=>?_,k8.trans k9⟩;rw[hL x];constructor;rintro⟨a1,a2,a3⟩;exact⟨a1,by lk,a3⟩;rintro⟨a1,a2,a3⟩;refine⟨a1,?_,a3⟩;rcases Int.lt_or_le x (j:Int)with h|h
 exact h;exact absurd hR (by rw[show(j:Int)=x by lk];exact a3);rintro zs δ' lg ⟨v,L,rfl,rfl,yS,nd,hL,k8⟩;rw[gh]at yS hL;exact q L lg yS nd hL k8
def zcr{st:Store}{f n:Nat}(hf:aM st f)(n1:1<=n)(n20:n<=20):Wp (Kq [.ref f,.int (n:Int)] st) λd st'=>∃xs ys:List Int,d=bJ xs ys/\qH n xs ys/\aM st' f/\Ex [f] st st':=by
 have hfl:=hf.lt;refine nI ?_;intro qR;show Ws (Ge [some (.ref f),some (.int (n:Int)),none,none,none,none,none,none,none] st) _ _ _ _;unfold Ge;refine aO (bt ?_);k_lt Z;refine aR (qP (n:=6) hf ∅ ∅) ?_;rintro d st1 ⟨form,rfl,g0,g6,f1,k1⟩;refine Z _ _ (aO (Fv ?_));k_lt2 Z;refine aR (TH (n:=n) f1 ⋯) ?_;rintro d st2 ⟨X,rfl,tX,f2,k2⟩;w_how;refine aR (TH (n:=n) (f2.keep (Ex.cE [.lst (X.map D.int)])) ⋯) ?_;rintro d st3 ⟨Y,rfl,tY,f3,k3⟩;w_how;refine Z _ _ ⟨_,_,rfl,?_⟩;clear Z;have Iw:st3[st2.length]?=some (.lst (X.map D.int)):=k3.keep _ _ jW (by have:=f2.lt;simp;lk);have two:qG st (st3 ++ [.lst (Y.map D.int)]) f st2.length st3.length n X Y:=⟨nH Iw,jW,by have:=eY Iw;lk,(k1.trans k2).len,((k1.trans k2).trans ((Ex.cE _).trans k3)).len,tX,tY,f3.keep (Ex.cE _),(((k1.trans k2).app _).trans k3).app _⟩;show Ws _ _ _ _ _;generalize (st3 ++ [O.lst (Y.map D.int)])=pS at two ⊢;generalize st2.length=r at two ⊢;generalize st3.length=u at two ⊢;clear Iw tX tY f3 k3 f2 k2 f1 k1
 let pD:IN:=λδ mG=>∃(r u:Nat) (X Y:List Int),δ=[some (.ref f),some (.int (n:Int)),some (.int form),some (.ref r),some (.ref u),none,none,none,none]/\qG st mG f r u n X Y
 refine aO (vU (N:=pD) (gi ?_) ?_);k_lt Z;refine Z _ _ ⟨λ_=>bt ?_,λ_=>jb ⟨r,u,X,Y,rfl,two⟩⟩;k_lt cH;rw[<- SR];refine⟨yG ⋯,rfl,i9 (by rw[gh];simp;lk),cH _ _ ⟨_,u,_,Y,rfl,(two.keep (((Ex.cE _).app _).app _)).Bq (ae.Ri (show n<21 by lk) ⋯)⟩⟩;rintro δ mG ⟨r,u,X,Y,rfl,two⟩
 let Iy:IN:=λδ mG=>∃(r u:Nat) (X Y:List Int),δ=[some (.ref f),some (.int (n:Int)),some (.int form),some (.ref r),some (.ref u),none,none,none,none]/\qG st mG f r u n X Y
 refine aO (vU (N:=Iy) (gi ?_) ?_);k_lt Z;refine Z _ _ ⟨λ_=>Fv ?_,λ_=>jb ⟨r,u,X,Y,rfl,two⟩⟩;k_lt cH;rw[<- SR,show((n:Int)-0).toNat=n by lk,N6];refine⟨yG ⋯,yG ⋯,rfl,i9 (by rw[gh];simp;lk),cH _ _ ⟨_,_,rfl,_,_,_,_,rfl,(((two.keep (Ex.cE [.lu 0 (n:Int)])).Bq (Z:=ae.upto n) (Zbl _)).keep (((Ex.cE _).app _).app _)).Br (ae.Ri (show n<21 by lk) ⋯)⟩⟩;rintro δ NW ⟨r,u,X,Y,rfl,two⟩
 let pv2:IN:=λδ mG=>∃(r u:Nat) (v5:Option D) (X Y:List Int),δ=[some (.ref f),some (.int (n:Int)),some (.int form),some (.ref r),some (.ref u),v5,none,none,none]/\qG st mG f r u n X Y
 refine aO (vU (N:=pv2) (gi ?_) ?_);k_lt Z;refine Z _ _ ⟨λ_=>aO (bt ?_),λ_=>jb ⟨r,u,none,X,Y,rfl,two⟩⟩;k_lt cH;refine aR (qP (n:=(n:Int)) two.fd ⋯ ⋯) ?_;rintro d wJ ⟨w,rfl,w0,w1,f7,k7⟩;obtain⟨wd,rfl⟩:∃wd:Nat,w=(wd:Int)-1:=⟨(w+1).toNat,by lk⟩;have t7:qG st wJ f r u n X Y:=⟨k7.keep _ _ two.hr (by have:=two.r0;simp;lk),k7.keep _ _ two.hu (by have:=two.u0;simp;lk),two.ne,two.r0,two.u0,two.tX,two.tY,f7,two.ex.trans k7⟩;w_how;rw[show(1:Int)+((wd:Int)-1)=(wd:Int) by lk];refine cH _ _ (aO (bt ?_));clear cH Z;k_lt cH;rw[<- Bs];refine⟨yG ⋯,rfl,i9 (by rw[gh];simp;lk),yG ⋯,i9 (by rw[Zak,gh,gh];simp;lk),cH _ _ (aO (bt ?_))⟩;clear cH;have t8:=(t7.keep ((((((Ex.cE [.lu 1 (wd:Int)]).app [.lst (aF 1 ((wd:Int)-1).toNat)]).app [.lst [.int 0]]).app [.lst (aF 1 ((wd:Int)-1).toNat ++ [.int 0])]).app [.lu (wd:Int) (n:Int)]).app [.lst (aF (wd:Int) ((n:Int)-(wd:Int)).toNat)])).Bq (ae.XC (w:=wd) (show n<21 by lk) ⋯ ⋯);generalize aaI:(wJ ++ _ ++ _ ++ _ ++ _ ++ _ ++ _ ++ _:Store)=lg at t8 ⊢;generalize List.length _=r8 at t8 ⊢;k_lt cH;refine⟨rfl,yG ⋯,i9 (by simp[gh];lk),yG ⋯,i9 (by simp[gh];lk),rfl,i9 (by simp[gh];lk),cH _ _ (gi ?_)⟩;clear cH;generalize hsE:(lg ++ _ ++ _ ++ _ ++ _ ++ _ ++ _ ++ _ ++ _ ++ _:Store)=Lx;have tE:qG st Lx f r8 u n (ae.uZ wd n) Y:=by rw[<- hsE];exact t8.keep (((((((((Ex.cE _).app _).app _).app _).app _).app _).app _).app _).app _)
 k_lt Z;refine Z _ _ ⟨λhw=>?_,λhw=>?_⟩;refine bt ?_;k_lt cH;rw[show((n:Int)-0).toNat=n by lk,N6];exact⟨yG ⋯,cH _ _ ⟨r8,_,_,_,_,rfl,(tE.keep ((Ex.cE _).app _)).Br (Zbl _)⟩⟩;have hne:wd≠n:=λz=>by simp[z]at hw
 have tF:=tE.Br (ae.XD (w:=wd) (show n<21 by lk) ⋯ ⋯);rw[Bt ⋯ ⋯]at tF;exact jb ⟨r8,_,_,_,_,rfl,tF⟩;rintro δ wJ ⟨r,u,v5,X,Y,rfl,two⟩;have n0:0<n:=by lk
 refine aO (bt ?_);exists _,Z,fS two.hr,fS two.hu;refine⟨rfl,Z _ _ (aO (bt (TM (X:=X) (Y:=Y) two.tX two.tY n0 ⋯ rfl rfl ?_)))⟩;clear Z;intro L lg yS nd hL k8;have t8:=(two.keep k8).keep (Ex.cE [.lst (L.map D.int)])
 let pv3:IV:=λmm δ rF=>∃(pa:Nat) (X L:List Int) (v8:Option D),mm=L.length/\δ=[some (.ref f),some (.int (n:Int)),some (.int form),some (.ref r),some (.ref u),v5,some (bJ X Y),some (.ref pa),v8]/\qG st rF f r u n X Y/\items rF pa=some (L.map D.int)/\L.length<=n/\L.Nodup/\(∀x,x∈L↔(0<=x/\x<(n:Int)/\¬ae.mC X Y x))
 refine aO (Ba pv3 L.length (Za1 yS (Za1 n20 ∅)) ⟨_,X,L,none,rfl,rfl,t8,vV,yS,nd,hL⟩ ?_);rintro mm δ rF ⟨pa,X,L,v8,rfl,rfl,two,hpa,yS,nd,hL⟩;have hlX:=two.tX.length;have BM:items (rF ++ [O.lst []]) pa=some (L.map D.int):=by
  unfold items at hpa ⊢;cases e:rF[pa]? with
  |none=>rw[e]at hpa;cases hpa
  |some o=>rw[nH e];rw[e]at hpa;exact hpa
 exists _,Z,SQ (L:=L) (M:=[]) (st:=rF ++ [O.lst []]) BM vV;refine⟨rfl,Z _ _ ⟨λh=>?_,λh=>?_⟩⟩;have hne:L≠[]:=by simpa using h
 clear Z;obtain⟨m,L1,rfl⟩:∃m L1,L=m :: L1:=by cases L with|nil=>exact absurd rfl hne|cons m L1=>exact⟨m,L1,rfl⟩
 obtain⟨m0,m1,mR⟩:=(hL m).mp Zaf;have t2:=two.keep (Ex.cE [O.lst []]);generalize (rF ++ [O.lst []])=Lx at BM t2 ⊢;refine aO (bt ?_);exists _,Z,BM,Zav;refine Z _ _ (aO (rX ?_));clear Z;exists _,Z,fS t2.hr,mE (xs:=X) m0 ⋯,mE (xs:=X) (i:=0) ∅ ⋯;refine⟨rfl,Z _ _ ?_⟩;clear Z;have i0:lS (X.map D.int).length 0=some 0:=ye (j:=0) (by rw[Zaa];lk);have im:lS ((X.map D.int).set 0 (.int (ae.app X m))).length m=some m.toNat:=by
  rw[ZaU];have:=ye (n:=(X.map D.int).length) (j:=m.toNat) (by rw[Zaa];lk)
  rwa [Zat m0]at this
 have Iw:(Lx.set r (.lst ((X.map D.int).set 0 (.int (ae.app X m)))))[r]?=some (.lst ((X.map D.int).set 0 (.int (ae.app X m)))):=Zag (eY t2.hr);have eS:((X.map D.int).set 0 (.int (ae.app X m))).set m.toNat (.int (ae.app X 0))=(ae.pX X m.toNat).map D.int:=by
  unfold ae.pX;rw[Zat m0,ZbG,ZbG]
 exists _,Z,mX t2.hr,mX Iw,i0,im,eS;refine⟨rfl,Z _ _ (aO (bt ?_))⟩;clear Z;have tS:=ae.Al t2.tX (m:=m.toNat) ⋯;have hmet:=ae.Xx t2.tX t2.tY (m:=m.toNat) ⋯ (by rw[Zat m0];exact mR);rw[Zat m0]at hmet;rw[List.set_set];have t3:=t2.put (Z:=ae.pX X m.toNat) tS hfl;generalize Lx.set r _=st3 at t3 ⊢;exists _,Z,fS t3.hr,fS t3.hu;refine⟨rfl,Z _ _ (bt (TM (X:=ae.pX X m.toNat) (Y:=Y) t3.tX t3.tY n0 ⋯ rfl rfl ?_))⟩;intro L' pS Ov TN hL' k4;refine⟨_,?_,pS.length,ae.pX X m.toNat,L',_,rfl,rfl,(t3.keep k4).keep (Ex.cE _),vV,Ov,TN,hL'⟩;refine ae.less (m:=m) TN (λx hx=>?_) Zaf (λh=>((hL' m).mp h).2.2 hmet.1);obtain⟨a1,a2,a3⟩:=(hL' x).mp hx;exact(hL x).mpr ⟨a1,a2,λh=>a3 (hmet.2 x h)⟩;have he:L=[]:=by simpa using h
 subst he;refine cZ ?_;k_lt cH;have t2:=two.keep (Ex.cE [O.lst []]);refine cH _ _ ⟨X,Y,rfl,⟨t2.tX,t2.tY,λx x0 x1=>?_⟩,t2.fd,t2.ex⟩;exact Classical.byContradiction λh=>nomatch (hL x).mpr ⟨x0,x1,h⟩
def Iz{st:Store}{xs:List Int}{n:Nat}(tn:ae.Tn n xs)(hn:n<=100):Wp (yO [.tup (xs.map D.int)] st) λd st'=>d=.tup ((ae.inv xs).map D.int)/\Ex [] st st':=by
 have hlen:=tn.length;refine nI ?_;intro qR;show Ws (G5 [some (.tup (xs.map D.int)),none,none,none] st) _ _ _ _;unfold G5;refine aO (bt ?_);k_lt Z;have e0:(((xs.map D.int).length:Int)).toNat=n:=by rw[Zaa];lk
 have ez:(List.replicate n [D.int 0]).flatten=(List.replicate n (0:Int)).map D.int:=by
  induction n with
  |zero=>rfl
  |succ n ih=>simp[ZaK]
 rw[e0,ez];refine⟨rfl,by rw[Zaa];lk,i9 (by simp;lk),Z _ _ (aO (lA (iI (xs.map D.int)) (λk δ st2=>∃(v2 v3:Option D) (bs:List Int),δ=[some (.tup (xs.map D.int)),some (.ref (st ++ [O.lst [D.int 0]]).length),v2,v3]/\st2[(st ++ [O.lst [D.int 0]]).length]?=some (.lst (bs.map D.int))/\bs.length=n/\(∀j,j<k->∀x,xs[j]?=some x->bs[x.toNat]?=some (j:Int))/\Ex [] st st2) ?_ ?_ ?_ ?_))⟩;k_lt Z;exact Z _ _ ⟨rfl,none,none,_,rfl,jW,by simp,λj hj=>absurd hj (Za7 _),(Ex.cE _).app _⟩;rw[uw,Zaa];lk;have BN:st.length<=(st ++ [O.lst [D.int 0]]).length:=by simp
 generalize (st ++ [O.lst [D.int 0]]).length=B at BN ⊢;rintro k d δ st2 hd ⟨v2,v3,bs,rfl,hB,uB,vG,k2⟩;obtain⟨d',hd',rfl⟩:=AJ hd;obtain⟨x,hx,rfl⟩:=CT hd';obtain⟨x0,x1⟩:=tn.bound (Zas hx);have sW:=eY hx;k_lt Z;refine⟨rfl,Z _ _ (rX ?_)⟩;have hix:lS (bs.map D.int).length x=some x.toNat:=by
  have:=ye (n:=(bs.map D.int).length) (j:=x.toNat) (by rw[Zaa];lk)
  rwa [Zat x0]at this
 have es:(bs.map D.int).set x.toNat (.int (k:Int))=(bs.set x.toNat (k:Int)).map D.int:=by rw[ZbG]
 k_lt cH;refine cH _ _ ?_;exists _,BL,mX hB,hix,es;refine BL _ _ ⟨_,_,bs.set x.toNat (k:Int),rfl,Zag (eY hB),by rw[ZaU];exact uB,λj hj y hy=>?_,k2.loc BN⟩;by_cases hjk:j=k;subst hjk;rw[hx]at hy;cases hy;rw[Zag (by rw[uB];lk)];obtain⟨y0,y1⟩:=tn.bound (Zas hy);rw[Zao (λz=>?_)];exact vG j ⋯ y hy;obtain⟨h1,e1⟩:=Zad.mp hx;obtain⟨h2,e2⟩:=Zad.mp hy;exact hjk ((List.getElem_inj tn.nodup).mp (show xs[j]=xs[k] by lk));rintro δ st2 ⟨v2,v3,bs,rfl,hB,uB,vG,k2⟩;rw[uw,Zaa]at vG;have eb:bs=ae.inv xs:=by
  apply ZbJ;intro i;by_cases hi:i<n;have hm:=tn.mem (i:=(i:Int)) ⋯ ⋯;have hil:=List.idxOf_lt_length_of_mem hm;have:=vG (xs.idxOf (i:Int)) hil (i:Int) (by rw[Zam hil];exact congrArg some (List.getElem_idxOf hil));rw[Zae]at this;rw[this];have ea:=ae.nE (xs:=ae.inv xs) (i:=(i:Int)) ⋯ (by rw[ae.EM];lk);rw[Zae,ae.EN ⋯ ⋯]at ea;exact ea.symm;rw[ZaL ⋯,ZaL (by rw[ae.EM];lk)]
 subst eb;refine cZ ?_;exists _,Z,fS hB;exact Z _ _ ⟨rfl,k2⟩
def Ly{st:Store}{xs ys:List Int}(hb:∀x∈xs,0<=x/\x<(ys.length:Int))(hn:xs.length<=100):Wp (yN [.tup (xs.map D.int),.tup (ys.map D.int)] st) λd st'=>d=.tup ((ae.nF xs ys).map D.int)/\Ex [] st st':=by refine nI ?_;intro qR;show Ws (GS [some (.tup (xs.map D.int)),some (.tup (ys.map D.int))] st) _ _ _ _;unfold GS;refine cZ ?_;k_lt Z;refine Bu (xs.map D.int) (λd=>.int (ae.app ys (inD d))) ?_ (by rw[Zaa];lk) ?_ ?_;k_lt cH;exact cH _ _ ⟨vW _ _,Ex.refl⟩;intro d hd st1 k1;obtain⟨x,hx,rfl⟩:=SV hd;obtain⟨x0,x1⟩:=hb x hx;exists _,cH,Zav,Za3,Zbc,Zbd,mE (xs:=ys) x0 x1;exact cH _ _ ⟨rfl,Ex.refl⟩;intro st' k';rw[Y2 (f:=ae.app ys) λx hx=>rfl];w_how;exact Z _ _ ⟨rfl,k'.app _⟩
def YcL{st:Store}{xs:List Int}{n:Nat}{i:Int}(tn:ae.Tn n xs)(hn:n<=100)(i0:0<=i)(i1:i<(n:Int)):Wp (KN [.tup (xs.map D.int),.int i] st) λd st'=>∃r:List Int,d=.tup (r.map D.int)/\ae.bM xs i r/\Ex [] st st':=by
 have hlen:=tn.length;refine nI ?_;intro qR;show Ws (GV [some (.tup (xs.map D.int)),some (.int i),none,none] st) _ _ _ _;unfold GV;refine aO (bt ?_);k_lt Z;refine⟨rfl,Z _ _ (aO (bt ?_))⟩;clear Z;exists _,Z,mE (xs:=xs) i0 ⋯
 let pD:IV:=λm δ st2=>∃k:Nat,m=n-(k+1)/\δ=[some (.tup (xs.map D.int)),some (.int i),some (.ref st.length),some (.int (ae.aJ xs i (k+1)))]/\st2[st.length]?=some (.lst ((ae.row xs i k).map D.int))/\ae.NB xs i k/\Ex [] st st2
 refine Z _ _ (aO (Ba pD (n-1) (Za1 (show n-1<=100 by lk) ∅) ⟨0,rfl,rfl,jW,λj h1 h2=>by lk,Ex.cE _⟩ ?_));clear Z;rintro m δ st2 ⟨k,rfl,rfl,hL,nb,k2⟩;have hrl:=tn.oa i0 i1 nb;k_lt Z;refine Z _ _ ⟨λhb=>?_,λhb=>?_⟩;have hb:ae.aJ xs i (k+1)≠i:=by simpa using hb
 have IA:ae.NB xs i (k+1):=λj h1 h2=>by
  by_cases hj:j<=k;exact nb j h1 hj
  have:j=k+1:=by lk
  rw[this];exact hb
 have hle:=tn.oa i0 i1 IA;have hit:=tn.aJ i0 i1 (k+1);refine aO (A9 ?_);exists _,cH,mX hL;refine⟨yF (by rw[fS hL];rfl),i9 (by rw[Zaa,ae.Aj];lk),cH _ _ (bt ?_)⟩;clear cH;exists _,cH,mE (xs:=xs) hit.1 ⋯;refine cH _ _ ⟨n-(k+1+1),by lk,k+1,rfl,rfl,?_,IA,k2.loc (Zab _)⟩;rw[Zag (eY hL),ae.Xp,Zay];rfl;have hb:ae.aJ xs i (k+1)=i:=by simpa using hb
 refine cZ ?_;exists _,cH,fS hL;exact cH _ _ ⟨_,rfl,⟨k,rfl,nb,hb⟩,k2⟩
def TQ{st:Store}{xs:List Int}{n:Nat}(tn:ae.Tn n xs)(hn:n<=100):Wp (GY [.tup (xs.map D.int)] st) λd st'=>∃rs:List (List Int),d=N5 rs/\ae.pg xs (ae.upto n) rs/\(∀r∈rs,r.length<=n/\∀x∈r,0<=x/\x<(n:Int))/\rs.length<=n/\Ex [] st st':=by
 have hlen:=tn.length;refine nI ?_;intro qR;show Ws (GX [some (.tup (xs.map D.int)),none,none,none,none,none] st) _ _ _ _;unfold GX;refine aO (bt ?_);k_lt Z;refine⟨rfl,Z _ _ (aO (bt ?_))⟩;k_lt2 Z;have eS:(st ++ [O.lst []]).length=st.length+1:=by simp
 rw[eS]
 refine Z _ _ (aO (lA (aF 0 n) (λk δ st2=>∃ (v3 v4 v5:Option D) (rs:List (List Int)) (kvs:List (Key×D)),δ=[some (.tup (xs.map D.int)),some (.ref st.length),some (.ref (st.length + 1)),v3,v4,v5]/\st2[st.length]?=some (.lst (rs.map λr=>.tup (r.map D.int)))/\st2[st.length + 1]?=some (.dct kvs) /\
   (∀rest,ae.pg xs (ae.from' n k (λx=>(cK kvs (Sum.inl x:Key)).isSome)) rest->ae.pg xs (ae.upto n) (rs ++ rest))/\(∀r∈rs,r.length<=n/\∀x∈r,0<=x/\x<(n:Int))/\rs.length<=k/\kvs.length<=k*n/\Ex [] st st2) ?_ (by rw[gh];lk) ?_ ?_))
 k_lt2 Z;rw[Zaa,hlen];refine⟨by lk,Z _ _ ⟨by rw[Zae],none,none,none,[],[],rfl,nH jW,by rw[<- eS];exact jW,λrest hrest=>?_,(λr hr=>nomatch hr),Zab _,ZaZ _,(Ex.cE _).app _⟩⟩;have e:ae.from' n 0 (λx=>(cK ([]:List (Key×D)) (Sum.inl x:Key)).isSome)=ae.upto n:=ae.Xt n;rw[e]at hrest;exact hrest;rintro k d δ st2 hd ⟨v3,v4,v5,rs,kvs,rfl,Lz,LA,yT,hb,hrl,sW,k2⟩;have hk:=eY hd;rw[gh]at hk;rw[vT hk,Za9]at hd;cases hd;have hkn:k*n<=10000:=Zaw (Zce (show k<=100 by lk) hn) ∅;k_lt2 Z;refine Z _ _ (gi ?_);clear Z;exists _,Z,sE LA,SY;have hfs:=ae.Xr hk (λx=>(cK kvs (Sum.inl x:Key)).isSome);refine Z _ _ ⟨λhs=>?_,λhs=>?_⟩;have Ow:(cK kvs (Sum.inl (k:Int):Key)).isSome=false:=by simpa using hs
 simp only[Ow,ZbR,if_false]at hfs;clear Z;refine aO (bt ?_);k_lt Z;refine aR (YcL tn hn (i:=(k:Int)) ⋯ ⋯) ?_;rintro d st3 ⟨r,rfl,qf,k3⟩;refine Z _ _ (aO (A9 ?_));clear Z;have xt:=k3.keep _ _ Lz (by simp);have hS3:=k3.keep _ _ LA (by simp);have Ox:=qf.len tn ⋯ ⋯;have hrb:=qf.bound tn ⋯ ⋯;exists _,Z,mX xt;refine⟨yF (by rw[fS xt];rfl),i9 (by rw[Zaa];lk),Z _ _ ?_⟩;clear Z
 refine lA (r.map D.int) (λj δ mG=>∃ (v5:Option D) (kvs':List (Key×D)),δ=[some (.tup (xs.map D.int)),some (.ref st.length),some (.ref (st.length + 1)),some (.int (k:Int)),some (.tup (r.map D.int)),v5]/\mG[st.length]?=some (.lst ((rs ++ [r]).map λr=>.tup (r.map D.int)))/\mG[st.length + 1]?=some (.dct kvs') /\
   (∀x:Int,(cK kvs' (Sum.inl x:Key)).isSome=((cK kvs (Sum.inl x:Key)).isSome || (r.take j).contains x))/\kvs'.length<=kvs.length+j/\Ex [] st mG) ?_ (by rw[Zaa];lk) ?_ ?_
 k_lt Z;refine Z _ _ ⟨rfl,v5,kvs,rfl,?_,?_,λx=>by simp,by lk,(k2.trans k3).loc (Zab _)⟩;rw[Zag (eY xt),Zay];rfl;rw[Zao ⋯];exact hS3;rintro j y δ mG hj ⟨v5,kvs',rfl,Oy,LB,LC,IB,k5⟩;obtain⟨x,hx,rfl⟩:=CT hj;obtain⟨hjl,ex⟩:=Zad.mp hx;subst ex;k_lt Z;refine Z _ _ (SA ?_);k_lt2 Z;refine Z _ _ ?_;k_lt cH;refine cH _ _ ?_;k_lt BL;refine BL _ _ ⟨_,kvs',_,rfl,sE LB,SY _,i9 ⋯,_,_,rfl,?_,Zag (eY LB),λx=>?_,?_,k5.loc ⋯⟩;rw[Zao ⋯];exact Oy;rw[SW,Y3 hjl];by_cases hx:x=r[j];subst hx;simp;rw[if_neg (by intro z;exact hx (Sum.inl.inj z)),LC x]
 have:(x == r[j])=false:=beq_eq_false_iff_ne.mpr hx;rw[this,ZcO]
 have:=SX kvs' (Sum.inl r[j]:Key) (.bl true);lk
 rintro δ mG ⟨v5,kvs',rfl,Oy,LB,LC,IB,k5⟩;rw[Zaa]at IB LC;refine⟨_,_,_,rs ++ [r],kvs',rfl,Oy,LB,λrest hrest=>?_,λr' hr'=>?_,by rw[Zak];simp;lk,by rw[ZbV];lk,k5⟩;have e:(λx=>(cK kvs' (Sum.inl x:Key)).isSome)=λx=>((cK kvs (Sum.inl x:Key)).isSome || r.contains x):=by
  funext x;rw[LC x,Za8]
 rw[e,<- ae.Xs]at hrest;rw[Zbt];refine yT _ ?_;rw[hfs];refine .cons qf ?_;have e2:ae.out ((k:Int) :: ae.from' n (k+1) (λx=>(cK kvs (Sum.inl x:Key)).isSome)) r=ae.out (ae.from' n (k+1) (λx=>(cK kvs (Sum.inl x:Key)).isSome)) r:=by
  unfold ae.out;rw[Zcn,if_neg (by simp[qf.mem])]
 rw[e2];exact hrest;rcases ZaE.mp hr' with h|h
 exact hb r' h
 have:r'=r:=by simpa using h
 subst this;exact⟨Ox,hrb⟩;have Ow:(cK kvs (Sum.inl (k:Int):Key)).isSome=true:=by simpa using hs
 simp only[Ow,if_true]at hfs;exact jb ⟨_,_,_,rs,kvs,rfl,Lz,LA,λrest hrest=>yT rest (by rw[hfs];exact hrest),hb,by lk,by rw[ZbV];lk,k2⟩;rintro δ st2 ⟨v3,v4,v5,rs,kvs,rfl,Lz,LA,yT,hb,hrl,sW,k2⟩;rw[gh]at yT hrl;refine cZ ?_;clear Z;exists _,Z,fS Lz;refine Z _ _ ⟨rs,rfl,?_,hb,hrl,k2⟩;have:=yT [] (by rw[ae.Xq];exact .nil)
 rwa [Za6]at this
def zdp{rs:List (List Int)}{m:Nat}{d:D}(h:(rs.map λr=>D.tup (r.map D.int))[m]?=some d):∃r,rs[m]?=some r/\d=.tup (r.map D.int):=by rw[Zaj]at h;obtain⟨r,h1,h2⟩:=Zax.mp h;exact⟨r,h1,h2.symm⟩
def ydp{xs:List Int}{i:Int}{m:Nat}{j:Int}(h0:0<=j)(h1:j<((m+1:Nat):Int)):gT ((ae.row xs i m).map D.int) j=some (.int (ae.aJ xs i j.toNat)):=by
 have e:((ae.row xs i m).map D.int)[j.toNat]?=some (.int (ae.aJ xs i j.toNat)):=by
  unfold ae.row;rw[ZaA,Zaj,Zbw ⋯];rfl
 have:=Ea e
 rwa [Zat h0]at this
def TR{bs:List Int}{m v x:Int}(h0:0<=m)(h1:m<(bs.length:Int))(x0:0<=x):ae.app (bs.set m.toNat v) x=if x=m then v else ae.app bs x:=by have:=ae.CA (xs:=bs) (m:=m.toNat) (v:=v) (x:=x) ⋯ x0;rw[Zat h0]at this;exact this
def ycr{st:Store}{xs:List Int}{n:Nat}{k:Int}(tn:ae.Tn n xs)(hn:n<=100):Wp (G1 [.tup (xs.map D.int),.int k] st) λd st'=>d=.tup ((ae.og xs k).map D.int)/\Ex [] st st':=by
 have hlen:=tn.length;refine nI ?_;intro qR;show Ws (G0 [some (.tup (xs.map D.int)),some (.int k),none,none,none,none] st) _ _ _ _;unfold G0;refine aO (bt ?_);k_lt Z;have e0:(((xs.map D.int).length:Int)).toNat=n:=by rw[Zaa];lk
 have ez:(List.replicate n [D.int 0]).flatten=(List.replicate n (0:Int)).map D.int:=by
  clear hlen tn hn e0
  induction n with
  |zero=>rfl
  |succ n ih=>simp[ZaK]
 rw[e0,ez];have BN:st.length<=(st ++ [O.lst [D.int 0]]).length:=by simp
 refine⟨rfl,by rw[Zaa];lk,i9 (by simp;lk),Z _ _ ?_⟩;clear Z;have Oz:(st ++ [O.lst [D.int 0]] ++ [O.lst ((List.replicate n (0:Int)).map D.int)])[(st ++ [O.lst [D.int 0]]).length]?=some (.lst ((List.replicate n (0:Int)).map D.int)):=jW;have kB:Ex [] st (st ++ [O.lst [D.int 0]] ++ [O.lst ((List.replicate n (0:Int)).map D.int)]):=(Ex.cE _).app _;generalize (st ++ [O.lst [D.int 0]] ++ [O.lst ((List.replicate n (0:Int)).map D.int)])=stB at Oz kB ⊢;generalize (st ++ [O.lst [D.int 0]]).length=B at BN Oz ⊢;show Ws _ _ _ _ _;obtain⟨d,st2,e2,rs,rfl,yT,hrb,hrl,k2⟩:=TQ (st:=stB) tn hn
 let pD:IV:=λm δ st3=>∃(v3 v4 v5:Option D) (bs:List Int),δ=[some (.tup (xs.map D.int)),some (.int k),some (.ref B),v3,v4,v5]/\st3[B]?=some (.lst (bs.map D.int))/\bs.length=n/\(∀j,j<m->∀r,rs[j]?=some r->∀x∈r,ae.app bs x=ae.pw xs k x)/\Ex [] st st3
 refine aO (lA (rs.map λr=>.tup (r.map D.int)) pD ?_ (by rw[Zaa];lk) ?_ ?_)
 ·k_lt Z
  refine⟨_,_,e2,?_⟩;exact⟨_,rfl,Z _ _ ⟨rfl,none,none,none,_,rfl,k2.keep _ _ Oz (by simp),by simp,λj hj=>absurd hj (Za7 _),kB.trans k2⟩⟩
 ·rintro m d δ st3 hm ⟨v3,v4,v5,bs,rfl,OA,uB,vG,k3⟩
  obtain⟨r,hr,rfl⟩:=zdp hm;obtain⟨i,hi,qf⟩:=yT.all.1 r (Zas hr);obtain⟨i0,i1⟩:=ae.pP.mp hi;obtain⟨M,rfl,nb,bk⟩:=qf.ex;have hM:=tn.oa i0 i1 nb;k_lt Z
  let Iy:IV:=λt δ pS=>∃(v4 v5:Option D) (cs:List Int),δ=[some (.tup (xs.map D.int)),some (.int k),some (.ref B),some (.tup ((ae.row xs i M).map D.int)),v4,v5]/\pS[B]?=some (.lst (cs.map D.int))/\cs.length=n/\(∀x:Int,0<=x->x<(n:Int)->ae.app bs x=ae.pw xs k x->ae.app cs x=ae.pw xs k x)/\(∀j,j<t->ae.app cs (ae.aJ xs i j)=ae.pw xs k (ae.aJ xs i j))/\Ex [] st pS
  refine Z _ _ (lA (iI ((ae.row xs i M).map D.int)) Iy ?_ ?_ ?_ ?_)
  ·clear Z
   k_lt Z;exact Z _ _ ⟨rfl,v4,v5,bs,rfl,OA,uB,λ_ _ _ h=>h,λj hj=>absurd hj (Za7 _),k3⟩
  ·rw[uw,Zaa,ae.Aj];lk
  ·rintro t d δ pS hd ⟨v4,v5,cs,rfl,LD,hcl,hcs,hct,k4⟩
   obtain⟨d',hd',rfl⟩:=AJ hd;obtain⟨y,hy,rfl⟩:=CT hd';have TU:=eY hy;rw[ae.Aj]at TU;have ey:y=ae.aJ xs i t:=by
    unfold ae.row at hy;rw[Zaj,Zbw TU]at hy;exact(Zai hy).symm
   subst ey;obtain⟨x0,x1⟩:=tn.aJ i0 i1 t;have hL:(0:Int)<((M+1:Nat):Int):=by lk
   have m0:=Zbi ((t:Int)+k) (Int.ne_of_gt hL);have m1:=ZbF ((t:Int)+k) hL;have eL:((((ae.row xs i M).map D.int).length:Nat):Int)=((M+1:Nat):Int):=by rw[Zaa,ae.Aj]
   have hix:lS (cs.map D.int).length (ae.aJ xs i t)=some (ae.aJ xs i t).toNat:=by
    have:=ye (n:=(cs.map D.int).length) (j:=(ae.aJ xs i t).toNat) (by rw[Zaa];lk)
    rwa [Zat x0]at this
   have es:∀v:Int,(cs.map D.int).set (ae.aJ xs i t).toNat (.int v)=(cs.set (ae.aJ xs i t).toNat v).map D.int:=λv=>by rw[ZbG]
   k_lt2 Z;refine⟨rfl,Z _ _ (rX ?_)⟩;clear Z;exists _,Z,eL,ydp m0 m1;refine⟨hL,Z _ _ ?_⟩;clear Z;exists _,Z,mX LD,hix,es;have hat:=tn.Ao x0 x1 (tn.Ak i0 i1 nb bk t k);refine Z _ _ ⟨_,_,_,rfl,Zag (eY LD),by rw[ZaU];exact hcl,λx h0 h1 h=>?_,λj hj=>?_,k4.loc BN⟩
   ·rw[TR x0 ⋯ h0]
    split
    ·next e=>rw[e];exact hat
    ·exact hcs x h0 h1 h
   ·obtain⟨y0,y1⟩:=tn.aJ i0 i1 j
    rw[TR x0 ⋯ y0];split
    ·next e=>rw[e];exact hat
    ·next e =>
     by_cases hjt:j=t
     ·rw[hjt]at e;exact absurd rfl e
     ·exact hct j ⋯
  ·rintro δ pS ⟨v4,v5,cs,rfl,LD,hcl,hcs,hct,k4⟩
   rw[uw,Zaa,ae.Aj]at hct;refine⟨_,_,_,cs,rfl,LD,hcl,λj hj r hr2 x hx=>?_,k4⟩;by_cases hjm:j=m
   ·subst hjm
    rw[hr]at hr2;cases hr2;obtain⟨jj,hjj,rfl⟩:=ae.sZ.mp hx;exact hct jj ⋯
   ·obtain⟨b0,b1⟩:=(hrb r (Zas hr2)).2 x hx
    exact hcs x b0 b1 (vG j ⋯ r hr2 x hx)
 ·rintro δ st3 ⟨v3,v4,v5,bs,rfl,OA,uB,vG,k3⟩
  rw[Zaa]at vG;have e:bs=ae.og xs k:=by
   refine ae.Am (n:=n) uB (by rw[ae.EU];exact hlen) λs s0 s1=>?_;rw[ae.vR s0 ⋯];obtain⟨r,hr',hx⟩:=yT.all.2 s (ae.pP.mpr ⟨s0,s1⟩);obtain⟨j,hj,ej⟩:=Zbz hr';exact vG j hj r (by rw[Zam hj,ej]) s hx
  subst e;refine cZ ?_;exists _,Z,fS OA;exact Z _ _ ⟨rfl,k3⟩
def XbX{st:Store}{xs ys:List Int}{n:Nat}{k:Int}(tx:ae.Tn n xs)(ty:ae.Tn n ys)(hn:n<=100):Wp (KQ [bJ xs ys,.int k] st) λd st'=>d=bJ xs (ae.shr xs ys k)/\Ex [] st st':=by refine nI ?_;intro qR;show Ws (KP [some (bJ xs ys),some (.int k)] st) _ _ _ _;unfold KP bJ;refine cZ ?_;have tp:=tx.og (-k);k_lt Z;refine aR (ycr (k:=-k) tx hn) ?_;rintro d st1 ⟨rfl,k1⟩;refine aR (Ly (xs:=ae.og xs (-k)) (ys:=ys) (λx hx=>by rw[ty.length];exact tp.bound hx) (by rw[tp.length];exact hn)) ?_;rintro d st2 ⟨rfl,k2⟩;exact⟨rfl,Z _ _ ⟨rfl,k1.trans k2⟩⟩
def TX{st:Store}{xs ys:List Int}{n:Nat}(tx:ae.Tn n xs)(ty:ae.Tn n ys)(hn:n<=100):Wp (BB [bJ xs ys] st) λd st'=>d=bJ (ae.inv ys) xs/\Ex [] st st':=by refine nI ?_;intro qR;show Ws (G7 [some (bJ xs ys)] st) _ _ _ _;unfold G7 bJ;refine cZ ?_;k_lt Z;refine aR (Iz ty hn) ?_;rintro d st1 ⟨rfl,k1⟩;exact⟨rfl,Z _ _ ⟨rfl,k1⟩⟩
abbrev bu:Nat->Str
 |0=>"r"
 |1=>"u"
 |2=>"l"
 |_=>"d"
abbrev stepT(xs ys:List Int):Nat->List Int
 |0=>xs
 |1=>ys
 |2=>ae.inv xs
 |_=>ae.inv ys
abbrev bS(xs ys:List Int)(s:Int):Nat->Int
 |0=>ae.app xs s
 |1=>ae.app ys s
 |2=>ae.app (ae.inv xs) s
 |_=>ae.app (ae.inv ys) s
def yU(xs ys:List Int)(s:Int)(j:Nat):bS xs ys s j=ae.app (stepT xs ys j) s:=by unfold bS stepT;split<;>rfl
def BO{n:Nat}{xs ys:List Int}(tx:ae.Tn n xs)(ty:ae.Tn n ys)(j:Nat):ae.Tn n (stepT xs ys j):=by unfold stepT;split;exact tx;exact ty;exact tx.bQ;exact ty.bQ
abbrev dF(xs ys:List Int):List (Key×D):=[(.inr "r",.tup (xs.map D.int)),(.inr "l",.tup ((ae.inv xs).map D.int)),(.inr "u",.tup (ys.map D.int)),(.inr "d",.tup ((ae.inv ys).map D.int))]
def Df(xs ys:List Int){j:Nat}(hj:j<4):cK (dF xs ys) (.inr (bu j))=some (.tup ((stepT xs ys j).map D.int)):=by
 have c:j=0\/j=1\/j=2\/j=3:=by lk
 rcases c with rfl|rfl|rfl|rfl<;>rfl
def LF{st:Store}{xs ys:List Int}{n:Nat}(tx:ae.Tn n xs)(ty:ae.Tn n ys)(hn:n<=100):Wp (xn [bJ xs ys] st) λd st'=>d=.ref st.length/\st'[st.length]?=some (.dct (dF xs ys))/\Ex [] st st':=by refine mM ?_;show Ws (Hq [some (bJ xs ys)] st) _ _ _ _;unfold Hq bJ;refine cZ ?_;k_lt Z;refine aR (Iz (st:=st ++ [O.dct []]) tx hn) ?_;rintro d st1 ⟨rfl,k1⟩;refine aR (Iz (st:=st1) ty hn) ?_;rintro d st2 ⟨rfl,k2⟩;have h2:=(k1.trans k2).keep _ _ jW (by simp);refine⟨h2,dF xs ys,rfl,(show 4<=15 by decide),Z _ _ ⟨rfl,?_,?_⟩⟩;rw[Zag (eY h2)];rfl;exact(((Ex.cE _).trans k1).trans k2).loc (Zab _)
def OB{j:Nat}(hj:j<4):(!(Builtin.Str.occurrences "ud" (bu j) 0 (Str.length "ud") 1).isEmpty)=decide (j=1\/j=3):=by
 have c:j=0\/j=1\/j=2\/j=3:=by lk
 rcases c with rfl|rfl|rfl|rfl<;>decide +kernel
def xu{j:Nat}(hj:j<4):(!(Builtin.Str.occurrences "ru" (bu j) 0 (Str.length "ru") 1).isEmpty)=decide (j=0\/j=1):=by
 have c:j=0\/j=1\/j=2\/j=3:=by lk
 rcases c with rfl|rfl|rfl|rfl<;>decide +kernel
def TY{st:Store}{Q:D->Store->Prop}{xs:List Int}{v:Int}(h:v∈xs):Wp (mW (.tup (xs.map D.int)) [.int v] st) Q↔Q (.int (xs.idxOf v:Int)) st:=by rw[SG];constructor;rintro⟨ns,j,h1,h2,q⟩;rw[SI]at h1;cases h1;rw[SS h]at h2;cases h2;exact q;intro q;exact⟨xs,_,SI xs,SS h,q⟩
def Zb9{st:Store}{xs ys:List Int}{n:Nat}{s:Int}{j:Nat}(tx:ae.Tn n xs)(ty:ae.Tn n ys)(s0:0<=s)(s1:s<(n:Int))(hj:j<4):Wp (Hf [bJ xs ys,.int s,.str (bu j)] st) λd st'=>d=.int (bS xs ys s j)/\Ex [] st st':=by
 have hlx:=tx.length;have BK:=ty.length;refine mM ?_;show Ws (He [some (bJ xs ys),some (.int s),some (.str (bu j)),none] st) _ _ _ _;unfold He bJ;refine aO (bt ?_);exists _,Z,FP,OB hj;have c:j=0\/j=1\/j=2\/j=3:=by lk
 rcases c with rfl|rfl|rfl|rfl
 refine⟨_,Fy _ _,?_⟩;refine Z _ _ (aO (gi ?_));clear Z;exists _,Z,FP,xu (j:=0) ∅;refine Z _ _ ⟨λ_=>cZ ?_,λh=>absurd h ∅⟩;clear Z;exists _,Z,mE (xs:=xs) s0 ⋯;exact Z _ _ ⟨rfl,Ex.refl⟩;refine⟨_,Fz _ _ _,?_⟩;refine Z _ _ (aO (gi ?_));clear Z;exists _,Z,FP,xu (j:=1) ∅;refine Z _ _ ⟨λ_=>cZ ?_,λh=>absurd h ∅⟩;clear Z;exists _,Z,mE (xs:=ys) s0 ⋯;exact Z _ _ ⟨rfl,Ex.refl⟩;refine⟨_,Fy _ _,?_⟩;refine Z _ _ (aO (gi ?_));clear Z;exists _,Z,FP,xu (j:=2) ∅;refine Z _ _ ⟨λh=>absurd h ∅,λ_=>jb (cZ ?_)⟩;clear Z;exists _,Z,SE,TY (tx.mem s0 s1);exact Z _ _ ⟨by rw[<- ae.EN s0 ⋯];rfl,Ex.refl⟩;refine⟨_,Fz _ _ _,?_⟩;refine Z _ _ (aO (gi ?_));clear Z;exists _,Z,FP,xu (j:=3) ∅;refine Z _ _ ⟨λh=>absurd h ∅,λ_=>jb (cZ ?_)⟩;clear Z;exists _,Z,SE,TY (ty.mem s0 s1);exact Z _ _ ⟨by rw[<- ae.EN s0 ⋯];rfl,Ex.refl⟩
abbrev vZ(xs ys:List Int):Nat->List Int×List Int
 |0=>(xs,ys)
 |j+1=>(ae.inv (vZ xs ys j).2,(vZ xs ys j).1)
def LG{n:Nat}{xs ys:List Int}(tx:ae.Tn n xs)(ty:ae.Tn n ys):∀j,ae.Tn n (vZ xs ys j).1/\ae.Tn n (vZ xs ys j).2
 |0=>⟨tx,ty⟩
 |j+1=>⟨(LG tx ty j).2.bQ,(LG tx ty j).1⟩
abbrev tG(s:bK):Prop:=s.1=false->1<=s.2/\s.2<=3
abbrev mO(p:List Int×List Int)(s:bK):List Int×List Int:=if s.1=true then(p.1,ae.shr p.1 p.2 s.2)else vZ p.1 p.2 s.2.toNat
abbrev oI(p:List Int×List Int)(w:List bK):List Int×List Int:=w.foldl mO p
def xc2{n:Nat}{p:List Int×List Int}(h:ae.Tn n p.1/\ae.Tn n p.2)(s:bK):ae.Tn n (mO p s).1/\ae.Tn n (mO p s).2:=by unfold mO;split;exact⟨h.1,h.1.shr h.2 _⟩;exact LG h.1 h.2 _
def T1{n:Nat}:∀{p:List Int×List Int},ae.Tn n p.1/\ae.Tn n p.2->∀w:List bK,ae.Tn n (oI p w).1/\ae.Tn n (oI p w).2
 |_,h,[]=>h
 |_,h,s :: w=>T1 (xc2 h s) w
def Xc2(p:List Int×List Int)(v w:List bK):oI p (v ++ w)=oI (oI p v) w:=by unfold oI;rw[ZaR]
def XcL(p:List Int×List Int)(w:List bK)(s:bK):oI p (w ++ [s])=mO (oI p w) s:=by rw[Xc2];rfl
abbrev mZ(p:List Int×List Int):D:=bJ p.1 p.2
def ZbY{st:Store}{p:List Int×List Int}{n:Nat}{s:bK}(h:ae.Tn n p.1/\ae.Tn n p.2)(hn:n<=100)(hs:tG s):Wp (KS [mZ p,bG s] st) λd st'=>d=mZ (mO p s)/\Ex [] st st':=by
 obtain⟨b,k⟩:=s;refine nI ?_;intro qR;show Ws (G8 [some (mZ p),some (bG (b,k)),none,none] st) _ _ _ _;unfold G8 bG;cases b with
 |true =>
  refine aO (gi ?_);k_lt Z;refine Z _ _ ⟨λ_=>cZ ?_,λz=>absurd z ∅⟩;k_lt2 Z;refine aR (XbX (k:=k) h.1 h.2 hn) ?_;rintro d st1 ⟨rfl,k1⟩;exact Z _ _ ⟨rfl,k1⟩
 |false =>
  obtain⟨k1,k3⟩:=hs rfl;obtain⟨j,rfl⟩:∃j:Nat,k=(j:Int):=⟨k.toNat,by simp only at k1;lk⟩;refine aO (gi ?_);k_lt Z;refine Z _ _ ⟨λz=>absurd z ∅,λ_=>jb (aO (bt ?_))⟩;k_lt2 Z
  let pD:IV:=λi δ st2=>∃v3:Option D,δ=[some (mZ p),some (bG (false,(j:Int))),some (bJ (vZ p.1 p.2 i).1 (vZ p.1 p.2 i).2),v3]/\Ex [] st st2
  refine Z _ _ (aO (lA (aF 0 j) pD ?_ (by rw[gh];simp only at k3;lk) ?_ ?_));k_lt2 Z;exact⟨by simp only at k3;lk,Z _ _ ⟨by rw[Zae],none,rfl,Ex.refl⟩⟩;rintro i d δ st2 hd ⟨v3,rfl,k2⟩;obtain⟨ta,tb⟩:=LG h.1 h.2 i;k_lt2 Z;refine Z _ _ (bt ?_);k_lt2 Z;refine aR (TX ta tb hn) ?_;rintro d' st3 ⟨rfl,k3⟩;exact Z _ _ ⟨some d,rfl,k2.trans k3⟩;rintro δ st2 ⟨v3,rfl,k2⟩;rw[gh];refine cZ ?_;k_lt2 Z;refine Z _ _ ⟨?_,k2⟩;unfold mZ mO;rw[if_neg (show ¬(false=true)from Zal),Zae]
def T2{st:Store}{p:List Int×List Int}{n:Nat}{w:List bK}(h:ae.Tn n p.1/\ae.Tn n p.2)(hn:n<=100)(hw:∀s∈w,tG s)(hl:w.length<=1000):Wp (vC [mZ p,.tup (w.map bG)] st) λd st'=>d=mZ (oI p w)/\Ex [] st st':=by
 refine nI ?_;intro qR;show Ws (Ha [some (mZ p),some (.tup (w.map bG)),none,none] st) _ _ _ _;unfold Ha;refine aO (bt ?_);k_lt Z
 let pD:IV:=λi δ st2=>∃v2:Option D,δ=[some (mZ p),some (.tup (w.map bG)),some (mZ (oI p (w.take i))),v2]/\Ex [] st st2
 refine Z _ _ (aO (lA (w.map bG) pD ?_ (by rw[Zaa];lk) ?_ ?_));k_lt2 Z;exact Z _ _ ⟨rfl,none,rfl,Ex.refl⟩;rintro i d δ st2 hd ⟨v2,rfl,k2⟩;rw[Zaj]at hd;obtain⟨s,hs,rfl⟩:=Zax.mp hd;obtain⟨hil,es⟩:=Zad.mp hs;k_lt2 Z;refine Z _ _ (bt ?_);k_lt2 Z;refine aR (ZbY (T1 h _) hn (hw s (Zas hs))) ?_;rintro d st3 ⟨rfl,k3⟩;refine Z _ _ ⟨some (bG s),?_,k2.trans k3⟩;rw[ZaD hil,XcL,es];rfl;rintro δ st2 ⟨v2,rfl,k2⟩;rw[Zaa,Za8];refine cZ ?_;k_lt2 Z;exact Z _ _ ⟨rfl,k2⟩
abbrev xv(g:Int)(s:bK):Prop:=(s.1=false->1<=s.2/\s.2<=3)/\(s.1=true->(s.2.natAbs:Int)<=g)/\s.2≠0
def T3{st:Store}{f:Nat}{most great:Int}(hf:aM st f)(m0:0<=most)(m1:most<=100)(g0:1<=great)(g1:great<=1000):Wp (GQ [.ref f,.int most,.int great] st) λd st'=>∃w:List bK,d=.tup (w.map bG)/\(∀s∈w,xv great s)/\(w.length:Int)<=most/\aM st' f/\Ex [f] st st':=by
 have hfl:=hf.lt;refine nI ?_;intro qR;show Ws (GP [some (.ref f),some (.int most),some (.int great),none,none] st) _ _ _ _;unfold GP;refine aO (bt ?_);k_lt Z;refine⟨rfl,Z _ _ ?_⟩;clear Z;show Ws _ _ _ _ _;obtain⟨d,st1,e1,c,rfl,c0,c1,f1,k1⟩:=qP (st:=st ++ [O.lst []]) (n:=most+1) (hf.keep (Ex.cE _)) ⋯ ⋯;obtain⟨m,rfl⟩:∃m:Nat,c=(m:Int):=⟨c.toNat,by lk⟩;have hl1:st1[st.length]?=some (.lst []):=k1.keep _ _ jW (by simp;lk);have kx:Ex [f] st st1:=(Ex.cE _).trans k1
 let pD:IV:=λi δ st2=>∃(v4:Option D) (w:List bK),δ=[some (.ref f),some (.int most),some (.int great),some (.ref st.length),v4]/\st2[st.length]?=some (.lst (w.map bG))/\(∀s∈w,xv great s)/\w.length<=i/\aM st2 f/\Ex [f] st st2
 refine aO (lA (aF 0 m) pD ?_ (by rw[gh];lk) ?_ ?_);k_lt Z;refine⟨_,_,e1,?_⟩;exact⟨_,rfl,by lk,Z _ _ ⟨by rw[Zae],none,[],rfl,hl1,(λs hs=>nomatch hs),Zab _,f1,kx⟩⟩;rintro i d δ st2 hd ⟨v4,w,rfl,hl2,hw,hwl,f2,k2⟩;have hil:=eY hd;rw[gh]at hil;have put:∀(s:bK) (mG:Store),xv great s->aM mG f->mG[st.length]?=some (.lst (w.map bG))->Ex [f] st mG->∀v4:Option D,∃(v4':Option D) (w':List bK),[some (.ref f),some (.int most),some (.int great),some (.ref st.length),v4]=[some (.ref f),some (.int most),some (.int great),some (.ref st.length),v4']/\(mG.set st.length (.lst (w.map bG ++ [bG s])))[st.length]?=some (.lst (w'.map bG))/\(∀s∈w',xv great s)/\w'.length<=i+1/\aM (mG.set st.length (.lst (w.map bG ++ [bG s]))) f/\Ex [f] st (mG.set st.length (.lst (w.map bG ++ [bG s]))):=λs mG os f5 h5 k5 v4=>by
  refine⟨v4,w ++ [s],rfl,?_,λs' hs'=>?_,by rw[Zak];simp;lk,f5.ne ⋯,k5.loc (Zab _)⟩;rw[Zag (eY h5),Zay];rfl;rcases ZaE.mp hs' with h|h
  exact hw s' h;rw[ZaM.mp h];exact os
 k_lt Z;refine Z _ _ (gi ?_);k_lt2 Z;refine aR (qP (n:=2) f2 ∅ ∅) ?_;rintro d' st3 ⟨b,rfl,b0,b1,f3,k3⟩;have hl3:=k3.keep _ _ hl2 (by simp;lk);w_how;refine Z _ _ ⟨λ_=>A9 ?_,λ_=>aO (bt ?_)⟩;k_lt2 Z;refine⟨yF (by rw[fS hl3];rfl),?_⟩;refine aR (qP (n:=3) f3 ∅ ∅) ?_;rintro d' pS ⟨c,rfl,c0,c1,f4,k4⟩;have xr:=k4.keep _ _ hl3 (by simp;lk);exists mX xr;refine⟨rfl,i9 (by rw[Zaa];lk),Z _ _ ?_⟩;exact put (false,1+c) pS ⟨λ_=>⟨by show 1<=1+c;lk,by show 1+c<=3;lk⟩,λz=>Bool.noConfusion (show false=true from z),by show 1+c≠0;lk⟩ f4 xr ((k2.trans k3).trans k4) _;k_lt2 Z;refine aR (qP (n:=great) f3 ⋯ ⋯) ?_;rintro d' pS ⟨c,rfl,c0,c1,f4,k4⟩;have xr:=k4.keep _ _ hl3 (by simp;lk);w_how;refine Z _ _ (A9 ?_);k_lt2 Z;refine⟨yF (by rw[fS xr];rfl),rfl,?_⟩;refine aR (qP (n:=2) (f4.keep (Ex.cE [O.lst [D.int (1+c),D.int (0-(1+c))]])) ∅ ∅) ?_;rintro d' mG ⟨g,rfl,g0',g1',f5,k5⟩;have hi5:mG[pS.length]?=some (.lst [D.int (1+c),D.int (0-(1+c))]):=k5.keep _ _ jW (by have:=f4.lt;simp;lk);have IB:mG[st.length]?=some (.lst (w.map bG)):=k5.keep _ _ (nH xr) (by simp;lk);obtain⟨sg,hsg,s1,s2⟩:∃sg:Int,gT [D.int (1+c),D.int (0-(1+c))] g=some (.int sg)/\(sg.natAbs:Int)<=great/\sg≠0:=by
  rcases(show g=0\/g=1 by lk)with rfl|rfl
  exact⟨1+c,Fy _ _,by lk,by lk⟩;exact⟨0-(1+c),Fz _ _ _,by lk,by lk⟩
 exists fS hi5,hsg,mX IB;refine⟨rfl,i9 (by rw[Zaa];lk),Z _ _ ?_⟩;exact put (true,sg) mG ⟨λz=>Bool.noConfusion (show true=false from z),λ_=>s1,s2⟩ f5 IB (((k2.trans k3).trans k4).trans ((Ex.cE _).trans k5)) _;rintro δ st2 ⟨v4,w,rfl,hl2,hw,hwl,f2,k2⟩;rw[gh]at hwl;refine cZ ?_;exists _,Z,fS hl2;exact Z _ _ ⟨w,rfl,hw,by lk,f2,k2⟩
abbrev oC(T:ae.T4):D:=.tup [.int T.a,.int T.b,.int T.c,.int T.d]
abbrev OC(A B:ae.T4):Prop:=∀x∈[A.a,A.b,A.c,A.d],∀y∈[B.a,B.b,B.c,B.d],fD x y=true
def yV{A B:ae.T4}(h:A.le 18446744073709551615):OC A B:=λx hx y _=>by
 refine Oj ?_;obtain⟨h1,h2,h3,h4⟩:=h;simp only[Zar,ZaW,or_false]at hx;rcases hx with rfl|rfl|rfl|rfl<;>lk
def OD{st:Store}{A B:ae.T4}(h:OC A B):Wp (yM [oC A,oC B] st) λd st'=>d=oC (A.mul B)/\Ex [] st st':=by refine nI ?_;intro qR;show Ws (Gn [some (oC A),some (oC B)] st) _ _ _ _;unfold Gn oC;refine cZ ?_;have hh:∀x y:Int,x∈[A.a,A.b,A.c,A.d]->y∈[B.a,B.b,B.c,B.d]->fD x y=true:=λx y hx hy=>h x hx y hy;have a1:∀y∈[B.a,B.b,B.c,B.d],fD A.a y=true:=h _ (by simp);have a2:∀y∈[B.a,B.b,B.c,B.d],fD A.b y=true:=h _ (by simp);have a3:∀y∈[B.a,B.b,B.c,B.d],fD A.c y=true:=h _ (by simp);have a4:∀y∈[B.a,B.b,B.c,B.d],fD A.d y=true:=h _ (by simp);exists _,Z,Oi,at2,S4;exact⟨a1 _ (by simp),a2 _ (by simp),a1 _ (by simp),a2 _ (by simp),a3 _ (by simp),a4 _ (by simp),a3 _ (by simp),a4 _ (by simp),rfl,Z _ _ ⟨rfl,Ex.refl⟩⟩
def YbY{st:Store}{s:bK}(h:ae.eV s):Wp (Gq [bG s] st) λd st'=>d=oC (ae.lq s)/\Ex [] st st':=by
 obtain⟨b,k⟩:=s;refine nI ?_;intro qR;show Ws (Kr [some (bG (b,k)),none,none] st) _ _ _ _;unfold Kr bG;cases b with
 |true =>
  refine aO (gi ?_);k_lt Z;refine Z _ _ ⟨λ_=>cZ ?_,λh=>absurd h ∅⟩;k_lt2 Z;exact⟨rfl,Z _ _ ⟨rfl,Ex.refl⟩⟩
 |false =>
  obtain⟨k1,k3⟩:=h.1 rfl;simp only at k1 k3;obtain⟨j,rfl⟩:∃j:Nat,k=(j:Int):=⟨k.toNat,by lk⟩;refine aO (gi ?_);k_lt Z;refine Z _ _ ⟨λh=>absurd h ∅,λ_=>jb (aO (bt ?_))⟩;k_lt2 Z;refine Z _ _ ?_;clear Z;show Ws _ _ _ _ _
  let pD:IV:=λi δ st2=>∃v:Option D,δ=[some (.tup [.str "t",.int (j:Int)]),some (oC (ae.qp i)),v]/\Ex [] st st2
  refine aO (lA (aF 0 j) pD ?_ (by rw[gh];lk) ?_ ?_);k_lt Z;exact⟨by lk,Z _ _ ⟨by rw[Zae],none,rfl,Ex.refl⟩⟩;rintro i d δ st2 hd ⟨v,rfl,k2⟩;k_lt Z;refine Z _ _ (bt ?_);k_lt2 Z;refine aR (OD (A:=ae.T4.qt) (B:=ae.qp i) (yV ⟨by decide,by decide,by decide,by decide⟩)) ?_;rintro d st3 ⟨rfl,k3⟩;exact Z _ _ ⟨_,rfl,k2.trans k3⟩;rintro δ st2 ⟨v,rfl,k2⟩;rw[gh];refine cZ ?_;k_lt Z;refine Z _ _ ⟨?_,k2⟩;show oC (ae.qp j)=oC (ae.qp (j:Int).toNat);rw[Zae]
def BP{s:bK}{B:Nat}(h:ae.eV s)(hs:s.2.natAbs<=B):(ae.lq s).le (B+1):=by
 have:=ae.EW (T:=ae.T4.one) (s:=s) (M:=1) (B:=B) ⟨by decide,by decide,by decide,by decide⟩ h hs
 rwa [ae.T4.mul_one,Zck]at this
def LH{T:ae.T4}{M N:Nat}(h:T.le M)(hn:M<=N):T.le N:=⟨Zaw h.1 hn,Zaw h.2.1 hn,Zaw h.2.2.1 hn,Zaw h.2.2.2 hn⟩
def OE{st:Store}{w:List bK}(hw:∀s∈w,ae.eV s/\s.2.natAbs<=1099511627776)(hl:w.length<=1000):Wp (BA [.tup (w.map bG)] st) λd st'=>d=oC (ae.aN w)/\Ex [] st st':=by
 refine nI ?_;intro qR;show Ws (Kt [some (.tup (w.map bG)),none,none] st) _ _ _ _;unfold Kt;refine aO (bt ?_);k_lt Z;refine Z _ _ ?_;clear Z;show Ws _ _ _ _ _
 let pD:IV:=λi δ st2=>∃v:Option D,δ=[some (.tup (w.map bG)),some (oC (ae.aN (w.take i))),v]/\Ex [] st st2
 refine aO (lA (w.map bG) pD ?_ (by rw[Zaa];lk) ?_ ?_);k_lt Z;exact Z _ _ ⟨rfl,none,rfl,Ex.refl⟩;rintro i d δ st2 hd ⟨v2,rfl,k2⟩;rw[Zaj]at hd;obtain⟨s,hs,rfl⟩:=Zax.mp hd;obtain⟨hil,es⟩:=Zad.mp hs;have hsw:=hw s (Zas hs);k_lt Z;refine Z _ _ (bt ?_);k_lt2 Z;refine aR (YbY hsw.1) ?_;rintro d st3 ⟨rfl,k3⟩;refine aR (OD (yV (LH (BP hsw.1 hsw.2) ∅))) ?_;rintro d pS ⟨rfl,k4⟩;refine Z _ _ ⟨some (bG s),?_,(k2.trans k3).trans k4⟩;rw[ZaD hil,ae.Aq,es];rfl;rintro δ st2 ⟨v2,rfl,k2⟩;rw[Zaa,Za8];refine cZ ?_;k_lt Z;exact Z _ _ ⟨rfl,k2⟩
def Yb9{st:Store}{a b:bK}:Wp (Gz [bG a,bG b] st) λd st'=>d=.tup ((ae.b6 a b).map bG)/\Ex [] st st':=by
 obtain⟨ab,ak⟩:=a;obtain⟨bb,bk⟩:=b;refine nI ?_;intro qR;show Ws (Gy [some (.tup [.str (if ab then "s" else "t"),.int ak]),some (.tup [.str (if bb then "s" else "t"),.int bk]),none] st) _ _ _ _;unfold Gy;have hj:ae.b6 (ab,ak) (bb,bk)=if ae.jZ (ab,ak) (bb,bk)=0 then[]else[(ab,ae.jZ (ab,ak) (bb,bk))]:=rfl
 refine aO (bt ?_);k_lt Z;refine Z _ _ ?_;clear Z;show Ws _ _ _ _ _
 let pD:IN:=λδ st1=>st1=st/\δ=[some (.tup [.str (if ab then "s" else "t"),.int ak]),some (.tup [.str (if bb then "s" else "t"),.int bk]),some (.int (ae.jZ (ab,ak) (bb,bk)))]
 refine aO (vU (N:=pD) (gi ?_) ?_);k_lt Z;refine Z _ _ ⟨λh=>bt ?_,λh=>jb ⟨rfl,?_⟩⟩;cases ab with
 |true=>exact absurd h ∅
 |false =>
  k_lt2 Z;exact⟨by decide,Z _ _ ⟨rfl,rfl⟩⟩
 cases ab with
 |true=>rfl
 |false=>exact absurd h ∅
 rintro δ st1 ⟨rfl,rfl⟩;refine aO (gi ?_);k_lt Z;refine Z _ _ ⟨λh=>cZ ?_,λh=>jb (cZ ?_)⟩;have h:=of_decide_eq_true h;k_lt2 Z;refine⟨rfl,Z _ _ ⟨?_,Ex.refl⟩⟩;rw[hj,if_pos h];rfl;have h:=of_decide_eq_false h;k_lt2 Z;refine⟨rfl,rfl,Z _ _ ⟨?_,Ex.refl⟩⟩;rw[hj,if_neg h];rfl
def T5{xs:List D}{x:D}:gT (xs ++ [x]) (-1)=some x:=by
 unfold gT lS;rw[Zak,if_neg ∅,if_pos (by simp;lk)];simp only[Zbk];have e:((-1:Int)+((xs.length+[x].length:Nat):Int)).toNat=xs.length:=by simp only[ZaC];lk
 rw[e];simp
def zc3{xs:List D}{x:D}:cutD (xs ++ [x]) none (some (-1))=xs:=by
 have e1:HT.dz (xs ++ [x]).length 0 none=0:=rfl;have e2:HT.dz (xs ++ [x]).length (xs ++ [x]).length (some (-1))=xs.length:=by
  unfold HT.dz;simp only;rw[if_pos ∅,Zak,ZaC];lk
 unfold cutD;rw[e1,e2,List.drop_zero,Nat.sub_zero];simp
def ycM(a b:Bool):(((if a=true then("s" : Str)else "t")=(if b=true then("s" : Str)else "t")))↔a=b:=by cases a<;>cases b<;>decide
def ZbA{st:Store}{w:List bK}(hl:w.length<=1000):Wp (Ky [.tup (w.map bG)] st) λd st'=>d=.tup ((ae.oO w).reverse.map bG)/\Ex [] st st':=by
 refine nI ?_;intro qR;show Ws (Kx [some (.tup (w.map bG)),none,none] st) _ _ _ _;unfold Kx;refine aO (bt ?_);k_lt Z;refine⟨rfl,Z _ _ ?_⟩;clear Z;show Ws _ _ _ _ _;refine aO (lA (w.map bG) (λi δ st2=>∃v:Option D,δ=[some (.tup (w.map bG)),some (.tup ((ae.oO (w.take i)).reverse.map bG)),v]/\Ex [] st st2) ?_ (by rw[Zaa];lk) ?_ ?_);k_lt Z;exact Z _ _ ⟨rfl,none,rfl,Ex.refl⟩;rintro i d δ st2 hd ⟨v2,rfl,k2⟩;rw[Zaj]at hd;obtain⟨s,hs,rfl⟩:=Zax.mp hd;obtain⟨hil,es⟩:=Zad.mp hs;have ep:ae.oO (w.take (i+1))=ae.dB (ae.oO (w.take i)) s:=by rw[ZaD hil,ae.XI,es];rfl
 have hpl:(ae.oO (w.take i)).length<=1000:=by have:=ae.Rv (w.take i);rw[Za2]at this;lk
 rw[ep];clear ep;generalize ae.oO (w.take i)=l at hpl ⊢;k_lt Z;refine Z _ _ (gi ?_);k_lt2 Z;cases l with
 |nil =>
  refine Z _ _ ⟨λh=>absurd h ∅,λ_=>bt ?_⟩;k_lt2 Z;exact⟨rfl,rfl,Z _ _ ⟨some (bG s),rfl,k2⟩⟩
 |cons t r =>
  have eg:(t :: r).reverse.map bG=r.reverse.map bG ++ [bG t]:=by simp
  rw[eg];have el:decide ((0:Int)<((r.reverse.map bG ++ [bG t]).length:Nat))=true:=decide_eq_true (by simp);have es1:bG t=.tup [.str (if t.1 then "s" else "t"),.int t.2]:=rfl;have es2:bG s=.tup [.str (if s.1 then "s" else "t"),.int s.2]:=rfl;have elt:(if t.1=true then("s" : Str)else "t")=(if s.1=true then("s" : Str)else "t")↔t.1=s.1:=ycM _ _;exists T5,es1,es2;rw[if_pos (by simp)];refine Z _ _ ⟨λh=>bt ?_,λh=>bt ?_⟩;have h:=elt.mp (of_decide_eq_true h);k_lt2 Z;rw[eg,zc3];exists T5;refine aR Yb9 ?_;rintro d st3 ⟨rfl,k3⟩;w_how;refine⟨i9 ?_,Z _ _ ⟨some (bG s),?_,k2.trans k3⟩⟩
  have:(ae.b6 t s).length<=1:=by unfold ae.b6;split<;>simp
  simp only[Zaa,ZaO];simp only[Zaz]at hpl;lk;have ej:(ae.b6 t s).reverse=ae.b6 t s:=by unfold ae.b6;split<;>rfl
  rw[ae.wR,if_pos h,ZcH,Zay,ej];rfl;have h:=λe=>of_decide_eq_false h (elt.mpr e);k_lt2 Z;refine⟨rfl,i9 ?_,Z _ _ ⟨some (bG s),?_,k2⟩⟩;simp only[Zaa,ZaO,ZaC];lk;have e2:(s :: t :: r).reverse.map bG=(t :: r).reverse.map bG ++ [bG s]:=by simp
  rw[ae.wR,if_neg h,e2];rfl
 rintro δ st2 ⟨v2,rfl,k2⟩;rw[Zaa,Za8];refine cZ ?_;k_lt Z;exact Z _ _ ⟨rfl,k2⟩
def xb9{st:Store}{v w:List bK}(hl:v.length+w.length<=1000):Wp (Kz [.tup (v.map bG),.tup (w.map bG)] st) λd st'=>d=.tup ((ae.oO (v ++ w)).reverse.map bG)/\Ex [] st st':=by refine nI ?_;intro qR;show Ws (GD [some (.tup (v.map bG)),some (.tup (w.map bG))] st) _ _ _ _;unfold GD;refine cZ ?_;k_lt Z;refine⟨i9 (by simp only[Zaa];lk),?_⟩;rw[<- Zay];refine aR (ZbA (by rw[Zak];exact hl)) ?_;rintro d st3 ⟨rfl,k3⟩;exact Z _ _ ⟨rfl,k3⟩
def xbM{st:Store}{s:bK}:Wp (KH [bG s] st) λd st'=>d=bG (ae.lb s)/\Ex [] st st':=by
 obtain⟨b,k⟩:=s;refine nI ?_;intro qR;show Ws (KG [some (.tup [.str (if b then "s" else "t"),.int k])] st) _ _ _ _;unfold KG;refine aO (gi ?_);cases b with
 |true =>
  k_lt Z;refine Z _ _ ⟨λ_=>cZ ?_,λh=>absurd h ∅⟩;k_lt2 Z;exact⟨rfl,Z _ _ ⟨rfl,Ex.refl⟩⟩
 |false =>
  k_lt Z;refine Z _ _ ⟨λh=>absurd h ∅,λ_=>jb (cZ ?_)⟩;k_lt2 Z;exact⟨rfl,Z _ _ ⟨rfl,Ex.refl⟩⟩
def XbM{st:Store}{w:List bK}(hl:w.length<=1000):Wp (KI [.tup (w.map bG)] st) λd st'=>d=.tup ((ae.g9 w).map bG)/\Ex [] st st':=by
 refine nI ?_;intro qR;show Ws (GK [some (.tup (w.map bG))] st) _ _ _ _;unfold GK;refine cZ ?_;k_lt Z;refine N9 (w.reverse.map bG) (λi y=>∃s,w.reverse[i]?=some s/\y=bG (ae.lb s)) (Ex [] st) ?_ (by rw[Zaa,ZaO];lk) ?_ ?_;exists _,cH,Oh;refine⟨_,rfl,cH _ _ ⟨λi st2 hi _=>?_,Ex.refl⟩⟩;rw[<- Zb3];exact vW _ st2 i st2 hi Ex.refl;intro i d hd st1 k1;rw[Zaj]at hd;obtain⟨s,hs,rfl⟩:=Zax.mp hd;k_lt cH;refine aR xbM ?_;rintro d st3 ⟨rfl,k3⟩;exact cH _ _ ⟨⟨s,hs,rfl⟩,k1.trans k3⟩;intro ys st' k' hy h;w_how;refine Z _ _ ⟨?_,k'.app _⟩
 congr 1
 refine ZbJ λi=>?_;rw[Zaa,ZaO]at hy;have eb:ae.g9 w=w.reverse.map ae.lb:=by unfold ae.g9;rw[Zb3]
 rw[eb,Zaj,Zaj];rcases Nat.lt_or_ge i ys.length with hi|hi
 obtain⟨s,hs,e⟩:=h i ys[i] (Zam hi);rw[hs,Zam hi,e];rfl;rw[ZaL hi,ZaL (by rw[ZaO];lk)];rfl
abbrev tH:Nat->Int->Int->List bK
 |0,_,_=>[]
 |f+1,u,v=>if v=0 then[]else ae.qW u v ++ tH f (-v) (u-ae.nr u v*v)
def yc3(f:Nat)(u:Int):tH f u 0=[]:=by cases f<;>rfl
abbrev gv(a:bK)(c:Nat×Nat):Nat×Nat:=if a.1=true then(c.1+a.2.natAbs*c.2,c.2)else if a.2.toNat % 2=1 then(c.2,c.1)else c
abbrev gw(w:List bK)(c:Nat×Nat):Nat×Nat:=w.foldr gv c
def BQ(u v:List bK)(c:Nat×Nat):gw (u ++ v) c=gw u (gw v c):=List.foldr_append
abbrev xw(c e:Nat×Nat):Prop:=c.1<=e.1/\c.2<=e.2
def Zdp(a:bK){c e:Nat×Nat}(h:xw c e):xw (gv a c) (gv a e):=by unfold gv;by_cases z:a.1=true;rw[if_pos z,if_pos z];exact⟨Nat.add_le_add h.1 (Zbj _ h.2),h.2⟩;rw[if_neg z,if_neg z];split;exact⟨h.2,h.1⟩;exact h
def T6:∀(w:List bK) {c e:Nat×Nat},xw c e->xw (gw w c) (gw w e)
 |[],_,_,h=>h
 |a :: w,_,_,h=>Zdp a (T6 w h)
def IC{s:bK}(h:ae.eV s)(c:Nat×Nat):gv (ae.lb s) c=gv s c:=by
 obtain⟨b,k⟩:=s;cases b with
 |true=>show(c.1+(-k).natAbs*c.2,c.2)=(c.1+k.natAbs*c.2,c.2);rw[Za4]
 |false =>
  have hk:1<=k/\k<=3:=h.1 rfl;show(if(4-k).toNat % 2=1 then(c.2,c.1)else c)=(if k.toNat % 2=1 then(c.2,c.1)else c);rw[show(4-k).toNat % 2=k.toNat % 2 by lk]
def yW{g:List bK}(h:∀s∈g,ae.eV s)(c:Nat×Nat):gw (ae.g9 g) c=g.foldl (λc s=>gv s c) c:=by
 unfold gw ae.g9;rw[List.foldr_reverse,List.foldl_map]
 induction g generalizing c with
 |nil=>rfl
 |cons a g ih =>
  show g.foldl _ (gv (ae.lb a) c)=g.foldl _ (gv a c);rw[IC (h a Zaf),ih λs hs=>h s (Zah _ hs)]
def Ydp{a s:bK}(ha:ae.eV a)(hs:ae.eV s)(e:a.1=s.1)(c:Nat×Nat):xw (gw (ae.b6 a s) c) (gv a (gv s c)):=by
 obtain⟨b,k⟩:=a;obtain⟨b2,m⟩:=s;have e:b=b2:=e;subst e;cases b with
 |true =>
  have r:gv (true,k) (gv (true,m) c)=(c.1+m.natAbs*c.2+k.natAbs*c.2,c.2):=rfl;rw[r];unfold ae.b6;have es:ae.jZ (true,k) (true,m)=k+m:=rfl;rw[es];split;exact⟨by show c.1<=_;lk,Zab _⟩;refine⟨?_,Zab _⟩;show c.1+(k+m).natAbs*c.2<=c.1+m.natAbs*c.2+k.natAbs*c.2;have:(k+m).natAbs*c.2<=(k.natAbs+m.natAbs)*c.2:=Zbq _ (Zch k m);rw[Nat.add_mul]at this;lk
 |false =>
  have hk:1<=k/\k<=3:=ha.1 rfl;have hm:1<=m/\m<=3:=hs.1 rfl;unfold ae.b6;have es:ae.jZ (false,k) (false,m)=(k+m) % 4:=rfl;rw[es];have g1:∀(z:Int) (c:Nat×Nat),gv (false,z) c=if z.toNat % 2=1 then(c.2,c.1)else c:=λz c=>rfl
  have g2:gv (false,k) (gv (false,m) c)=if(k.toNat+m.toNat) % 2=1 then(c.2,c.1)else c:=by
   rw[g1,g1];by_cases p:k.toNat % 2=1<;>by_cases q:m.toNat % 2=1;rw[if_pos p,if_pos q,if_neg ⋯];rw[if_pos p,if_neg q,if_pos ⋯];rw[if_neg p,if_pos q,if_pos ⋯];rw[if_neg p,if_neg q,if_neg ⋯]
  rw[g2];split;rw[if_neg ⋯];exact⟨Zab _,Zab _⟩;show xw (gv (false,(k+m) % 4) c) _;rw[g1,show((k+m) % 4).toNat % 2=(k.toNat+m.toNat) % 2 by lk];exact⟨Zab _,Zab _⟩
def xdp{r:List bK}{s:bK}(hr:∀a∈r,ae.eV a)(hs:ae.eV s)(c:Nat×Nat):xw (gw (ae.dB r s).reverse c) (gw r.reverse (gv s c)):=by
 cases r with
 |nil=>exact⟨Zab _,Zab _⟩
 |cons a r =>
  rw[ae.wR];split
  ·next e =>
   have ej:(ae.b6 a s).reverse=ae.b6 a s:=by unfold ae.b6;split<;>rfl
   rw[ZcH,ej,BQ,Zbb,BQ];exact T6 _ (Ydp (hr a Zaf) hs e c)
  ·rw[Zbb,BQ]
   exact⟨Zab _,Zab _⟩
def IE{ws:List bK}(h:∀s∈ws,ae.eV s)(c:Nat×Nat):xw (gw (ae.oO ws).reverse c) (gw ws c):=by
 have key:∀(n:Nat) (ws:List bK),ws.length=n->(∀s∈ws,ae.eV s)->∀c,xw (gw (ae.oO ws).reverse c) (gw ws c):=λn=>by
  induction n with
  |zero=>intro ws hl _ c;rw[List.length_eq_zero_iff.mp hl];exact⟨Zab _,Zab _⟩
  |succ n ih =>
   intro ws hl h c;rcases List.eq_nil_or_concat ws with rfl|⟨u,s,rfl⟩
   cases hl;rw[List.concat_eq_append]at h hl ⊢;have hu:∀a∈u,ae.eV a:=λa ha=>h a (ZbL _ ha);have e:ae.oO (u ++ [s])=ae.dB (ae.oO u) s:=by unfold ae.oO;rw[ZaR];rfl
   rw[e,BQ];have p1:=xdp (λa ha=>(ae.Rr hu).pr a ha) (h s (by simp)) c;have p2:=ih u (by simp at hl;lk) hu (gv s c);exact⟨Zaw p1.1 p2.1,Zaw p1.2 p2.2⟩
 exact key _ ws rfl h c
abbrev mB(T:ae.T4):Nat:=if T.c=0 then(72+T.b.natAbs) / T.d.natAbs else if T.d=0 then(72+T.a.natAbs) / T.c.natAbs else min ((72+T.a.natAbs) / T.c.natAbs) ((72+T.b.natAbs) / T.d.natAbs)
abbrev xx(m:Nat)(c e:Nat×Nat):Bool:=decide (c.1+m*c.2+c.2<=443) && decide (e.1+m*e.2+e.2<=443)
abbrev go2:Nat->Int->Int->ae.T4->Nat×Nat->Nat×Nat->Bool
 |0,_,_,T,c,e=>xx (mB T) c e
 |f+1,u,v,T,c,e=>if v=0 then xx (mB T) c e else(λq:Int=>go2 f (-v) (u-q*v) ⟨-T.c,-T.d,T.a-q*T.c,T.b-q*T.d⟩ (c.2,c.1+q.natAbs*c.2) (e.2,e.1+q.natAbs*e.2)) (ae.nr u v)
abbrev uC(k:Nat):Bool:=(List.range 15).all λi=>(List.range 145).all λj=>go2 26 ((15*k+i:Nat)-72:Int) ((j:Int)-72) ae.T4.one (1,0) (0,1)
def ck0:uC 0=true:=by w_fin
def ck1:uC 1=true:=by w_fin
def ck2:uC 2=true:=by w_fin
def ck3:uC 3=true:=by w_fin
def ck4:uC 4=true:=by w_fin
def ck5:uC 5=true:=by w_fin
def ck6:uC 6=true:=by w_fin
def ck7:uC 7=true:=by w_fin
def ck8:uC 8=true:=by w_fin
def ck9:uC 9=true:=by w_fin
def BR{x y:Int}(hx:x.natAbs<=72)(hy:y.natAbs<=72):go2 26 x y ae.T4.one (1,0) (0,1)=true:=by
 have key:∀k:Nat,k<10->uC k=true:=λk hk=>by
  rcases(show k=0\/k=1\/k=2\/k=3\/k=4\/k=5\/k=6\/k=7\/k=8\/k=9 by lk)with rfl|rfl|rfl|rfl|rfl|rfl|rfl|rfl|rfl|rfl
  exact ck0;exact ck1;exact ck2;exact ck3;exact ck4;exact ck5;exact ck6;exact ck7;exact ck8;exact ck9
 have h:=key ((x+72).toNat / 15) ⋯;unfold uC at h;have h1:=List.all_eq_true.mp h ((x+72).toNat % 15) (Za0.mpr (ZcD _ ∅));have h2:=List.all_eq_true.mp h1 (y+72).toNat (Za0.mpr ⋯);rw[Nat.div_add_mod,show(((x+72).toNat:Nat)-72:Int)=x by lk,show(((y+72).toNat:Nat):Int)-72=y by lk]at h2;exact h2
def yX(u v:Int)(c:Nat×Nat):(ae.qW u v).foldl (λc s=>gv s c) c=(c.2,c.1+(ae.nr u v).natAbs*c.2):=by unfold ae.qW ae.rq;by_cases h:-(ae.nr u v)=0;rw[if_pos h];show(c.2,c.1)=_;rw[show ae.nr u v=0 by lk];simp;rw[if_neg h];show(c.2,c.1+(-(ae.nr u v)).natAbs*c.2)=_;rw[Za4]
def T7:∀(f:Nat) (u v:Int) (T:ae.T4) (c e:Nat×Nat),go2 f u v T c e=xx (mB ((ae.aN (tH f u v)).mul T)) ((tH f u v).foldl (λc s=>gv s c) c) ((tH f u v).foldl (λc s=>gv s c) e)
 |0,u,v,T,c,e=>by show xx (mB T) c e=xx (mB (ae.T4.one.mul T)) c e;rw[ae.T4.one_mul]
 |f+1,u,v,T,c,e=>by
  by_cases h:v=0;have e1:tH (f+1) u v=[]:=if_pos h;have e2:go2 (f+1) u v T c e=xx (mB T) c e:=if_pos h;rw[e1,e2];show xx (mB T) c e=xx (mB (ae.T4.one.mul T)) c e;rw[ae.T4.one_mul];have e1:tH (f+1) u v=ae.qW u v ++ tH f (-v) (u-ae.nr u v*v):=if_neg h;have e2:go2 (f+1) u v T c e=go2 f (-v) (u-ae.nr u v*v) ⟨-T.c,-T.d,T.a-ae.nr u v*T.c,T.b-ae.nr u v*T.d⟩ (c.2,c.1+(ae.nr u v).natAbs*c.2) (e.2,e.1+(ae.nr u v).natAbs*e.2):=if_neg h;have e3:(ae.aN (ae.qW u v)).mul T=⟨-T.c,-T.d,T.a-ae.nr u v*T.c,T.b-ae.nr u v*T.d⟩:=by
   rw[ae.Nx];apply ae.T4.ext'<;>simp only[ae.T4.mul,Zbo]<;>lk
  rw[e1,e2,T7 f,ae.Ap,ae.T4.assoc,e3,ZaR,ZaR,yX,yX]
def xbY{st:Store}{x y:Int}(hy:y≠0)(hb:y.natAbs<500000000):Wp (Gv [.int x,.int y] st) λd st'=>d=.int (ae.nr x y)/\Ex [] st st':=by refine nI ?_;intro qR;show Ws (Gu [some (.int x),some (.int y)] st) _ _ _ _;unfold Gu;refine cZ ?_;exists _,Z,Ze;exact⟨.inl ∅,.inl ∅,⟨by lk,by lk⟩,Z _ _ ⟨rfl,Ex.refl⟩⟩
def OG{st:Store}{k:Int}:Wp (xm [.int k] st) λd st'=>d=.tup ((ae.rq k).map bG)/\Ex [] st st':=by refine nI ?_;intro qR;show Ws (Gk [some (.int k)] st) _ _ _ _;unfold Gk;refine aO (gi ?_);k_lt Z;refine Z _ _ ⟨λh=>cZ ?_,λh=>jb (cZ ?_)⟩;have h:k=0:=of_decide_eq_true h;k_lt2 Z;refine⟨rfl,Z _ _ ⟨?_,Ex.refl⟩⟩;unfold ae.rq;rw[if_pos h];rfl;have h:¬k=0:=of_decide_eq_false h;k_lt2 Z;refine⟨rfl,rfl,Z _ _ ⟨?_,Ex.refl⟩⟩;unfold ae.rq;rw[if_neg h];rfl
def XbY{st:Store}{T:ae.T4}{x y:Int}(hx:x.natAbs<18446744073709551615)(hy:y.natAbs<18446744073709551615):Wp (Gi [oC T,.tup [.int x,.int y]] st) λd st'=>d=.tup [.int (T.a*x+T.b*y),.int (T.c*x+T.d*y)]/\Ex [] st st':=by
 have ok:∀i j:Int,j.natAbs<18446744073709551615->fD i j=true:=λi j hj=>by
  unfold fD;rw[decide_eq_true (show -18446744073709551616<j/\j<18446744073709551616 by lk)];simp
 refine nI ?_;intro qR;show Ws (Gh [some (oC T),some (.tup [.int x,.int y])] st) _ _ _ _;unfold Gh oC;refine cZ ?_;exists _,Z,Oi,at2,S4;exact⟨ok _ _ hx,ok _ _ hy,ok _ _ hx,ok _ _ hy,rfl,Z _ _ ⟨rfl,Ex.refl⟩⟩
def BS{st:Store}{Q:D->Store->Prop}{x y:Int}:Wp (av (.tup [.int x,.int y]) (.int 0) st) Q↔Q (.int x) st:=bz
def T8{st:Store}{Q:D->Store->Prop}{x y:Int}:Wp (av (.tup [.int x,.int y]) (.int 1) st) Q↔Q (.int y) st:=bz
def Zby{st:Store}{x y:Int}(hx:x.natAbs<=16777216)(hy:y.natAbs<=16777216):Wp (Kw [.tup [.int x,.int y]] st) λd st'=>∃g:List bK,d=.tup (g.map bG)/\g=tH 26 x y/\(∀s∈g,ae.eV s/\s.2.natAbs<=16777217)/\g.length<=52/\(ae.aN g).c*x+(ae.aN g).d*y=0/\Ex [] st st':=by
 refine nI ?_;intro qR;show Ws (Kv [some (.tup [.int x,.int y]),none,none,none] st) _ _ _ _;unfold Kv;refine aO (bt ?_);k_lt Z;refine⟨rfl,?_⟩;refine Z _ _ (aO (bt ?_));k_lt2 Z
 let pD:IV:=λm δ s=>∃(g:List bK) (u v:Int) (r:Nat) (v3:Option D),m=26-r/\r<=25/\g ++ tH (26-r) u v=tH 26 x y/\δ=[some (.tup [.int x,.int y]),some (.tup (g.map bG)),some (.tup [.int u,.int v]),v3]/\ae.Dv 16777216 x y g u v r/\Ex [] st s
 refine Z _ _ (aO (Ba pD 26 ∅ ⟨[],x,y,0,none,rfl,by decide,rfl,rfl,ae.Dv.zero hx hy,Ex.refl⟩ ?_));clear Z;rintro m δ s ⟨g,u,v,r,v3,rfl,hr,eg,rfl,dv,k1⟩;have hub:=dv.ub;have hvb:v.natAbs<=16777216:=Zaw (Zcf _ (Nat.one_le_two_pow)) dv.vb;exists _,Z,T8;refine Z _ _ ⟨λhc=>?_,λhc=>?_⟩;have hv:v≠0:=by simpa using hc
 have few:=dv.few (k:=25) hv ∅;have dv':=dv.step hv;refine aO (bt ?_);clear Z;exists _,Z,BS,T8;refine aR (xbY hv ⋯) ?_;rintro d s1 ⟨rfl,k2⟩;w_how;refine aR (OG) ?_;rintro d s2 ⟨rfl,k3⟩;w_how;have hsl:=ae.E1 (-(ae.nr u v));refine⟨rfl,rfl,i9 (by rw[Zaa];show _+1<=_;lk),?_⟩;have e1:((ae.rq (-(ae.nr u v))).map bG ++ [D.tup [D.str "t",D.int 1]])=(ae.qW u v).map bG:=by
  unfold ae.qW;rw[Zay];rfl
 rw[e1];have Nt:=ae.RF (x:=u) hv;refine Z _ _ (aO (bt ?_));clear Z;refine bA ?_;intro qDv;intro Z;w_how;refine aR (OE (w:=ae.qW u v) (λs hs=>⟨(Nt s hs).1,by have:=(Nt s hs).2;lk⟩) (by have:=ae.Ny u v;lk)) ?_;rintro d s3 ⟨rfl,k4⟩;refine aR (XbY (T:=ae.aN (ae.qW u v)) (x:=u) (y:=v) ⋯ ⋯) ?_;rintro d s4 ⟨rfl,k5⟩;rw[ae.Nx];have e2:∀q:Int,D.tup [.int ((0:Int)*u + -1*v),.int (1*u + -q*v)]=.tup [.int (-v),.int (u-q*v)]:=λq=>by
  have a1:(0:Int)*u + -1*v=-v:=by lk
  have a2:1*u + -q*v=u-q*v:=by rw[Zbo];lk
  rw[a1,a2]
 show qDv (D.tup [.int ((0:Int)*u + -1*v),.int (1*u + -(ae.nr u v)*v)]) s4;rw[e2];refine Z _ _ (bt ?_);k_lt2 Z;have hgl:=dv.ln;have hdl:=ae.Ny u v;have eg':g ++ ae.qW u v ++ tH (26-(r+1)) (-v) (u-ae.nr u v*v)=tH 26 x y:=by
  rw[<- eg,show 26-r=26-(r+1)+1 by lk,Zbt];show _=g ++ (if v=0 then[]else _);rw[if_neg hv]
 refine⟨i9 (by rw[Zaa,Zaa];lk),Z _ _ ⟨26-(r+1),by lk,g ++ ae.qW u v,_,_,r+1,_,rfl,by lk,eg',by rw[Zay];rfl,dv',(((k1.trans k2).trans k3).trans k4).trans k5⟩⟩;have hv:v=0:=by simpa using hc
 refine cZ ?_;k_lt2 Z;rw[hv,yc3,Za6]at eg;exact Z _ _ ⟨g,rfl,eg,dv.pr,by have:=dv.ln;lk,by rw[<- dv.vc];exact hv,k1⟩
def OH{st:Store}{Q:D->Store->Prop}{T:ae.T4}:Wp (av (oC T) (.int 0) st) Q↔Q (.int T.a) st:=bz
def OI{st:Store}{Q:D->Store->Prop}{T:ae.T4}:Wp (av (oC T) (.int 1) st) Q↔Q (.int T.b) st:=bz
def T9{st:Store}{Q:D->Store->Prop}{T:ae.T4}:Wp (av (oC T) (.int 2) st) Q↔Q (.int T.c) st:=bz
def BU{st:Store}{Q:D->Store->Prop}{T:ae.T4}:Wp (av (oC T) (.int 3) st) Q↔Q (.int T.d) st:=bz
def zbZ{st:Store}{T:ae.T4}(hl:T.le 16777216):Wp (KA [oC T] st) λd st'=>d=.bl (decide (T.a*T.d-T.b*T.c=1))/\Ex [] st st':=by refine nI ?_;intro qR;show Ws (GG [some (oC T)] st) _ _ _ _;unfold GG;refine cZ ?_;have hs:fA st (oC T)=some [.int T.a,.int T.b,.int T.c,.int T.d]:=rfl;exists _,Z,hs,Oi,OH,OI,T9,BU;obtain⟨h1,h2,h3,h4⟩:=hl;rw[if_pos (show decide ((([D.int T.a,D.int T.b,D.int T.c,D.int T.d]:List D).length:Int)=4)=true from rfl)];exact⟨Oj ⋯,Oj ⋯,Z _ _ ⟨rfl,Ex.refl⟩⟩
def YbA{st:Store}{A:ae.T4}:Wp (KD [oC A] st) λd st'=>d=.tup ((ae.qA A).map bG)/\Ex [] st st':=by
 refine nI ?_;intro qR;show Ws (KC [some (oC A)] st) _ _ _ _;unfold KC;refine aO (gi ?_);exists _,Z,OH;refine Z _ _ ⟨λh=>cZ ?_,λh=>jb (cZ ?_)⟩;have h:A.a=1:=of_decide_eq_true h;clear Z;exists _,Z,OI;refine aR (OG) ?_;rintro d s1 ⟨rfl,k1⟩;refine Z _ _ ⟨?_,k1⟩;unfold ae.qA;rw[if_pos h];have h:¬A.a=1:=of_decide_eq_false h;clear Z;exists _,Z,OI;refine⟨rfl,rfl,?_⟩;refine aR (OG) ?_;rintro d s1 ⟨rfl,k1⟩;w_how
 have:=ae.E1 (-A.b);refine⟨i9 (by rw[Zaa];show 1+_<=_;lk),Z _ _ ⟨?_,k1⟩⟩;unfold ae.qA;rw[if_neg h];rfl
def IF{A B:ae.T4}(h:B.le 18446744073709551615):OC A B:=λx _ y hy=>by
 obtain⟨h1,h2,h3,h4⟩:=h;have hb:y.natAbs<=18446744073709551615:=by
  simp only[Zar,ZaW,or_false]at hy;rcases hy with rfl|rfl|rfl|rfl<;>assumption
 unfold fD;rw[decide_eq_true (show -18446744073709551616<y/\y<18446744073709551616 by lk)];simp
def yZ(k:Int)(c:Nat×Nat):gw (ae.rq k) c=(c.1+k.natAbs*c.2,c.2):=by
 unfold ae.rq;split
 ·next h=>rw[h];show c=_;simp
 ·rfl
def IG{T L G:ae.T4}(hT:T.le 72)(e:T=G.ur.mul L)(hd:L.d.natAbs=1)(hG:¬(G.c=0/\G.d=0)):L.b.natAbs<=mB G:=by
 have eb:T.b=G.d*L.b + -G.b*L.d:=by rw[e];rfl
 have ed:T.d=-G.c*L.b+G.a*L.d:=by rw[e];rfl
 have ab:G.d.natAbs*L.b.natAbs<=72+G.b.natAbs:=by
  have h1:G.d*L.b=T.b+G.b*L.d:=by rw[eb,Zbo];lk
  have h2:=congrArg Int.natAbs h1;rw[ZbE]at h2;have h3:=Zch T.b (G.b*L.d);rw[ZbE,hd,Zck]at h3;have:=hT.2.1;lk
 have ad:G.c.natAbs*L.b.natAbs<=72+G.a.natAbs:=by
  have h1:G.c*L.b=G.a*L.d + -T.d:=by rw[ed,Zbo];lk
  have h2:=congrArg Int.natAbs h1;rw[ZbE]at h2;have h3:=Zch (G.a*L.d) (-T.d);rw[ZbE,hd,Zck,Za4]at h3;have:=hT.2.2.2;lk
 have dv:∀{z:Int} {m:Nat},z≠0->z.natAbs*L.b.natAbs<=m->L.b.natAbs<=m / z.natAbs:=λhz h=>(Nat.le_div_iff_mul_le ⋯).mpr (by rw[Zcx];exact h);unfold mB;by_cases hc:G.c=0;rw[if_pos hc];exact dv (λz=>hG ⟨hc,z⟩) ab;rw[if_neg hc];by_cases hz:G.d=0;rw[if_pos hz];exact dv hc ad;rw[if_neg hz];exact Nat.le_min.mpr ⟨dv hc ad,dv hz ab⟩
def XcM{T:ae.T4}(hT:T.le 72)(hd:T.a*T.d-T.b*T.c=1){g:List bK}(eg:g=tH 26 T.a T.c)(hg:∀s∈g,ae.eV s)(h0:(ae.aN g).c*T.a+(ae.aN g).d*T.c=0){c:Nat×Nat}(hc:c=(1,0)\/c=(0,1)):(gw (ae.oO (ae.qA ((ae.aN g).mul T) ++ ae.g9 g)).reverse c).1+(gw (ae.oO (ae.qA ((ae.aN g).mul T) ++ ae.g9 g)).reverse c).2<=443:=by
 have dG:=ae.JX hg;have E2:((ae.aN g).mul T).a*((ae.aN g).mul T).d-((ae.aN g).mul T).b*((ae.aN g).mul T).c=1:=by rw[ae.RI,dG,hd];rfl
 have JZ:((ae.aN g).mul T).c=0:=h0;have eT:T=(ae.aN g).ur.mul ((ae.aN g).mul T):=by rw[<- ae.T4.assoc,(ae.RB dG).2,ae.T4.one_mul]
 have pr:∀s∈ae.qA ((ae.aN g).mul T) ++ ae.g9 g,ae.eV s:=λs hs=>by
  rcases ZaE.mp hs with hs|hs
  exact ae.RH _ s hs;exact ae.JW hg s hs
 have p:=IE pr c;generalize hL:(ae.aN g).mul T=L at E2 JZ eT pr p ⊢;rw[JZ,Int.mul_zero,Int.sub_zero]at E2;have had:=ae.RG E2;have hm:=IG hT eT (by rcases had with h|h<;>rw[h.2]<;>rfl) (λz=>by rw[z.1,z.2]at dG;simp at dG);have ck:=BR hT.1 hT.2.2.1;rw[T7,<- eg,show(ae.aN g).mul ae.T4.one=ae.aN g from by apply ae.T4.ext'<;>simp[ae.T4.mul,ae.T4.one],<- yW hg,<- yW hg]at ck;unfold xx at ck;rw[ZaJ,decide_eq_true_eq,decide_eq_true_eq]at ck;have ck:(gw (ae.g9 g) c).1+mB (ae.aN g)*(gw (ae.g9 g) c).2+(gw (ae.g9 g) c).2<=443:=by
  rcases hc with rfl|rfl
  exact ck.1;exact ck.2
 have el:∀e:Nat×Nat,gw (ae.qA L) e=(e.1+L.b.natAbs*e.2,e.2):=λe=>by
  unfold ae.qA;split;exact yZ _ _;show gv (false,2) (gw (ae.rq (-L.b)) e)=_;rw[yZ,Za4];rfl
 rw[BQ,el]at p;obtain⟨p1,p2⟩:=p;have:L.b.natAbs*(gw (ae.g9 g) c).2<=mB (ae.aN g)*(gw (ae.g9 g) c).2:=Zbq _ hm;have p1:_<=(gw (ae.g9 g) c).1+L.b.natAbs*(gw (ae.g9 g) c).2:=p1;have p2:_<=(gw (ae.g9 g) c).2:=p2;lk
def Xb9{st:Store}{T:ae.T4}(hT:T.le 72)(hd:T.a*T.d-T.b*T.c=1):Wp (KJ [oC T] st) λd st'=>∃w:List bK,d=.tup (w.map bG)/\(∀s∈w,ae.eV s)/\w.length<=60/\(∀c,c=(1,0)\/c=(0,1)->(gw w c).1+(gw w c).2<=443)/\Ex [] st st':=by
 have hl:T.le 16777216:=LH hT ∅;refine nI ?_;intro qR;show Ws (GN [some (oC T),none] st) _ _ _ _;unfold GN;refine aO (gi ?_);k_lt Z;refine aR (zbZ hl) ?_;rintro d s1 ⟨rfl,k1⟩;refine⟨_,rfl,?_⟩;refine Z _ _ ⟨λh=>absurd h (by simp[hd]),λ_=>jb (aO (bt ?_))⟩;clear Z;exists _,Z,OH,T9;refine⟨rfl,?_⟩;refine aR (Zby hl.1 hl.2.2.1) ?_;rintro d s2 ⟨g,rfl,eg,hg,hgl,h0,k2⟩;refine Z _ _ (cZ ?_);k_lt2 Z;have Ua:∀s∈g,ae.eV s:=λs hs=>(hg s hs).1;refine aR (OE (w:=g) (λs hs=>⟨(hg s hs).1,by have:=(hg s hs).2;lk⟩) ⋯) ?_;rintro d s3 ⟨rfl,k3⟩;refine aR (OD (IF (LH hl ∅))) ?_;rintro d s4 ⟨rfl,k4⟩;refine aR (YbA) ?_;rintro d s5 ⟨rfl,k5⟩;refine aR (XbM (w:=g) ⋯) ?_;rintro d s6 ⟨rfl,k6⟩;have yS:=ae.X4 ((ae.aN g).mul T);have uB:(ae.g9 g).length=g.length:=by unfold ae.g9;rw[ZaO,Zaa]
 refine aR (xb9 (v:=ae.qA ((ae.aN g).mul T)) (w:=ae.g9 g) ⋯) ?_;rintro d s7 ⟨rfl,k7⟩;obtain⟨e1,e2⟩:=ae.X5 hd Ua h0;refine Z _ _ ⟨_,rfl,e2,?_,(λc hc=>XcM hT hd eg Ua h0 hc),(((((k1.trans k2).trans k3).trans k4).trans k5).trans k6).trans k7⟩;rw[ZaO];have:=ae.Rv (ae.qA ((ae.aN g).mul T) ++ ae.g9 g);rw[Zak]at this;lk
abbrev mx:Nat->Nat×Nat->Nat
 |0,c=>max c.1 c.2
 |k+1,c=>max (mx k c) (max (mx k (c.1+2*c.2,c.2)) (mx k (c.2,c.1)))
def LI:∀(k:Nat) (c:Nat×Nat),c.1<=mx k c/\c.2<=mx k c
 |0,c=>⟨Zcc _ _,Zcp _ _⟩
 |k+1,c=>⟨Zaw (LI k c).1 (Zcc _ _),Zaw (LI k c).2 (Zcc _ _)⟩
def IH:∀(w:List bK) (k:Nat) (c e:Nat×Nat) (T:ae.T4),(∀s∈w,xv 2 s)->w.length<=k->T.a.natAbs<=c.1->T.c.natAbs<=c.2->T.b.natAbs<=e.1->T.d.natAbs<=e.2->(ae.oE T w).le (max (mx k c) (mx k e))
 |[],k,c,e,T,_,_,h1,h2,h3,h4=>by
  have a:=LI k c;have b:=LI k e;show T.a.natAbs<=_/\T.b.natAbs<=_/\T.c.natAbs<=_/\T.d.natAbs<=_;lk
 |(b,m) :: w,0,c,e,T,_,hl,_,_,_,_=>by simp at hl
 |(b,m) :: w,k+1,c,e,T,hw,hl,h1,h2,h3,h4=>by
  have ho:=hw (b,m) Zaf;have hl':w.length<=k:=by simp at hl;lk
  have LJ:∀s∈w,xv 2 s:=λs hs=>hw s (Zah _ hs);have up:∀{x:ae.T4} {A B:Nat},x.le (max A B)->A<=mx (k+1) c->B<=mx (k+1) e->x.le (max (mx (k+1) c) (mx (k+1) e)):=λh a b=>LH h ⋯;have e1:∀c,mx k c<=mx (k+1) c:=λc=>Zcc _ _;have e2:∀c:Nat×Nat,mx k (c.1+2*c.2,c.2)<=mx (k+1) c:=λc=>Zaw (Zcc _ _) (Zcp _ _);have e3:∀c:Nat×Nat,mx k (c.2,c.1)<=mx (k+1) c:=λc=>Zaw (Zcp _ _) (Zcp _ _);show(ae.oE ((ae.lq (b,m)).mul T) w).le _;cases b with
  |true =>
   have hm:(m.natAbs:Int)<=2:=ho.2.1 rfl;have hm:m.natAbs<=2:=by lk
   have mul:∀{x y:Int} {X Y:Nat},x.natAbs<=X->y.natAbs<=Y->(1*x+m*y).natAbs<=X+2*Y/\(0*x+1*y).natAbs<=Y:=λ{x y X Y} hx hy=>by
    have h5:=Zch x (m*y);rw[ZbE]at h5;have h6:m.natAbs*y.natAbs<=2*Y:=Zce hm hy;rw[ZcK,ZcK,Int.zero_mul,Za9];lk
   have p:=mul h1 h2;have q:=mul h3 h4;exact up (IH w k (c.1+2*c.2,c.2) (e.1+2*e.2,e.2) _ LJ hl' p.1 p.2 q.1 q.2) (e2 c) (e2 e)
  |false =>
   have hm:1<=m/\m<=3:=ho.1 rfl;rcases(show m=1\/m=2\/m=3 by lk)with rfl|rfl|rfl
   have r:(ae.lq (false,1)).mul T=⟨-T.c,-T.d,T.a,T.b⟩:=by apply ae.T4.ext'<;>simp[ae.T4.mul,ae.lq,ae.qp,ae.T4.qt,ae.T4.one]
   rw[r];exact up (IH w k (c.2,c.1) (e.2,e.1) _ LJ hl' (by rw[Za4];exact h2) h1 (by rw[Za4];exact h4) h3) (e3 c) (e3 e);have r:(ae.lq (false,2)).mul T=⟨-T.a,-T.b,-T.c,-T.d⟩:=by apply ae.T4.ext'<;>simp[ae.T4.mul,ae.lq,ae.qp,ae.T4.qt,ae.T4.one]
   rw[r];exact up (IH w k c e _ LJ hl' (by rw[Za4];exact h1) (by rw[Za4];exact h2) (by rw[Za4];exact h3) (by rw[Za4];exact h4)) (e1 c) (e1 e);have r:(ae.lq (false,3)).mul T=⟨T.c,T.d,-T.a,-T.b⟩:=by apply ae.T4.ext'<;>simp[ae.T4.mul,ae.lq,ae.qp,ae.T4.qt,ae.T4.one]
   rw[r];exact up (IH w k (c.2,c.1) (e.2,e.1) _ LJ hl' h2 (by rw[Za4];exact h1) h4 (by rw[Za4];exact h3)) (e3 c) (e3 e)
def II:max (mx 8 (1,0)) (mx 8 (0,1))=72:=by w_fin
def IJ{w:List bK}(h:∀s∈w,xv 2 s)(hl:w.length<=8):(ae.aN w).le 72:=by have:=IH w 8 (1,0) (0,1) ae.T4.one h hl ∅ ∅ ∅ ∅;rw[II]at this;exact this
abbrev iT(j:Nat):Nat:=match j with
 |0=>114
 |1=>117
 |2=>108
 |_=>100
abbrev ax(js:List Nat):Str:=sO (js.map iT)
def Ub(j:Nat)(hj:j<4):(⟨#[iT j]⟩:Str)=bu j:=by
 have c:j=0\/j=1\/j=2\/j=3:=by lk
 rcases c with rfl|rfl|rfl|rfl<;>rfl
def Dg(js:List Nat)(h:∀j∈js,j<4):tw (ax js)=js.map λj=>.str (bu j):=by unfold tw ax;rw[S6,ZaA];exact ZaT λj hj=>congrArg D.str (Ub j (h j hj))
def tJ(js:List Nat):(ax js).length=js.length:=by unfold ax;rw[S7,Zaa]
def BV(a b:List Nat):ax a ++ ax b=ax (a ++ b):=by unfold ax;rw[Oa,Zay]
abbrev qg(xs ys:List Int)(s:Int):List Nat->List Int
 |[]=>[s]
 |j :: r=>s :: qg xs ys (bS xs ys s j) r
abbrev dH(xs ys:List Int)(s:Int):List Nat->Int
 |[]=>s
 |j :: r=>dH xs ys (bS xs ys s j) r
def tK(xs ys:List Int):∀(s:Int) (a b:List Nat),dH xs ys s (a ++ b)=dH xs ys (dH xs ys s a) b
 |_,[],_=>rfl
 |s,j :: a,b=>tK xs ys (bS xs ys s j) a b
def OJ(xs ys:List Int):∀(s:Int) (a:List Nat) (j:Nat),qg xs ys s (a ++ [j])=qg xs ys s a ++ [bS xs ys (dH xs ys s a) j]
 |_,[],_=>rfl
 |s,i :: a,j=>by
  show s :: qg xs ys (bS xs ys s i) (a ++ [j])=_;rw[OJ xs ys _ a j];rfl
def Uc(xs ys:List Int):∀(s:Int) (a:List Nat),(qg xs ys s a).length=a.length+1
 |_,[]=>rfl
 |s,j :: a=>by show(qg xs ys (bS xs ys s j) a).length+1=_;rw[Uc xs ys _ a];rfl
def Ud(xs ys:List Int):∀(s:Int) (a:List Nat),∃L,qg xs ys s a=L ++ [dH xs ys s a]/\L.length=a.length
 |s,[]=>⟨[],rfl,rfl⟩
 |s,j :: a=>by
  obtain⟨L,h,hl⟩:=Ud xs ys (bS xs ys s j) a;exact⟨s :: L,by show s :: qg xs ys (bS xs ys s j) a=_;rw[h];rfl,by rw[Zaz,hl];rfl⟩
def ug{n:Nat}{xs ys:List Int}{s:Int}{j:Nat}(tx:ae.Tn n xs)(ty:ae.Tn n ys)(s0:0<=s)(s1:s<(n:Int)):0<=bS xs ys s j/\bS xs ys s j<(n:Int):=by rw[yU];exact(BO tx ty j).app s0 s1
def Dh{n:Nat}{xs ys:List Int}(tx:ae.Tn n xs)(ty:ae.Tn n ys):∀{s:Int} (a:List Nat),0<=s->s<(n:Int)->0<=dH xs ys s a/\dH xs ys s a<(n:Int)
 |_,[],s0,s1=>⟨s0,s1⟩
 |s,j :: a,s0,s1=>Dh tx ty a (ug tx ty s0 s1).1 (ug tx ty s0 s1).2
def Tx{L:List D}{d:D}:gT (L ++ [d]) (-1)=some d:=by unfold gT lS;rw[if_neg ∅,if_pos (by rw[Zak,ZaC];lk)];simp only[Zbk];rw[show((-1:Int)+((L ++ [d]).length:Int)).toNat=L.length by rw[Zak,ZaC];lk,ZaB (Zab _),Zbs];rfl
def OL(xs ys:List Int)(s:Int)(a:List Nat):gT ((qg xs ys s a).map D.int) (-1)=some (.int (dH xs ys s a)):=by obtain⟨L,h,_⟩:=Ud xs ys s a;rw[h,Zay];exact Tx
def OM{st:Store}{xs ys:List Int}{n:Nat}{s:Int}{js:List Nat}(tx:ae.Tn n xs)(ty:ae.Tn n ys)(hn:n<=100)(s0:0<=s)(s1:s<(n:Int))(hj:∀j∈js,j<4)(hl:js.length<=50000):Wp (yP [bJ xs ys,.int s,.str (ax js)] st) λd st'=>d=.tup ((qg xs ys s js).map D.int)/\Ex [] st st':=by
 refine mM ?_;show Ws (K7 [some (bJ xs ys),some (.int s),some (.str (ax js)),none,none,none] st) _ _ _ _;unfold K7;refine aO (bt ?_);k_lt Z;refine aR (LF tx ty hn) ?_;rintro d st1 ⟨rfl,h1,k1⟩;have l1:=eY h1;refine Z _ _ (aO (bt ?_));k_lt2 Z;refine⟨rfl,Z _ _ (aO (lA (js.map λj=>.str (bu j)) (λi δ s2=>∃v5:Option D,δ=[some (bJ xs ys),some (.int s),some (.str (ax js)),some (.ref st.length),some (.ref st1.length),v5]/\s2[st.length]?=some (.dct (dF xs ys))/\s2[st1.length]?=some (.lst ((qg xs ys s (js.take i)).map D.int))/\Ex [] st s2) ?_ (by rw[Zaa];lk) ?_ ?_))⟩;clear Z;exists _,Z,CV;rw[Dg js hj,tJ];exact⟨by lk,Z _ _ ⟨rfl,none,rfl,nH h1,jW,k1.app _⟩⟩;clear Z;rintro i d δ s2 hd ⟨v5,rfl,hT,hL,k2⟩;obtain⟨hi,ej⟩:=Zad.mp hd;rw[Zaa]at hi;rw[Zco]at ej;subst ej;have sH:js[i]<4:=hj _ (Zb0 hi);obtain⟨w0,w1⟩:=Dh tx ty (js.take i) s0 s1;have ht:=(BO tx ty js[i]).length;have hlen:(qg xs ys s (js.take i)).length<=50001:=by rw[Uc,Za2];lk
 k_lt Z;refine Z _ _ (A9 ?_);k_lt2 Z;refine⟨yF (by rw[fS hL];rfl),dF xs ys,sE hT,_,rfl,_,Df xs ys sH,?_⟩;exists fS hL,OL,mE (xs:=stepT xs ys js[i]) w0 ⋯,mX hL;refine⟨i9 (by rw[Zaa];lk),Z _ _ ⟨_,rfl,?_,?_,k2.loc k1.len⟩⟩;rw[Zao ⋯];exact hT;rw[Zag (eY hL),ZaD hi,OJ,Zay,yU];rfl;clear Z;rintro δ s2 ⟨v5,rfl,hT,hL,k2⟩;rw[Zaa,Za8]at hL;refine cZ ?_;exists _,Z,fS hL;exact Z _ _ ⟨rfl,k2⟩
def Xdp{F:List Int}{x:Int}:(!F.contains x)=true->ae.dA F x=F ++ [x]:=λh=>by
 unfold ae.dA;rw[if_neg λz=>by rw[Zbm.mpr z]at h;cases h]
def Yc3{F:List Int}{x:Int}:(!F.contains x)=false->ae.dA F x=F:=λh=>by
 unfold ae.dA;rw[if_pos (Zbm.mp (by simpa using h))]
def ZbZ{st:Store}{xs ys:List Int}{n:Nat}{s:Int}(tx:ae.Tn n xs)(ty:ae.Tn n ys)(hn:n<=100)(s0:0<=s)(s1:s<(n:Int)):Wp (K1 [bJ xs ys,.int s] st) λd st'=>d=.tup ((ae.bf xs ys s n).map D.int)/\Ex [] st st':=by
 have hlx:=tx.length;have BK:=ty.length;refine nI ?_;intro qR;show Ws (Hn [some (bJ xs ys),some (.int s),none,none,none,none] st) _ _ _ _;unfold Hn;refine aO (bt ?_);k_lt Z;refine⟨rfl,Z _ _ (aO (bt ?_))⟩;k_lt2 Z
 let pD:IV:=λm δ st2=>∃(k:Nat) (v4 v5:Option D),m=n-k/\δ=[some (bJ xs ys),some (.int s),some (.ref st.length),some (.int (k:Int)),v4,v5]/\st2[st.length]?=some (.lst ((ae.bf xs ys s k).map D.int))/\k<=(ae.bf xs ys s k).length/\Ex [] st st2
 refine Z _ _ (aO (Ba pD n (Za1 hn ∅) ⟨0,none,none,by lk,rfl,jW,ZaZ _,Ex.cE _⟩ ?_));clear Z;rintro m δ st2 ⟨k,v4,v5,rfl,rfl,hl,hk,k2⟩;have uB:=ae.JU tx ty s0 s1 k;exists _,Z,fS hl;refine Z _ _ ⟨λhlt=>?_,λhlt=>?_⟩;clear Z;have hlt:=of_decide_eq_true hlt;rw[Zaa]at hlt;have sW:k<(ae.bf xs ys s k).length:=by lk
 obtain⟨x,hx⟩:∃x,(ae.bf xs ys s k)[k]?=some x:=⟨_,Zam sW⟩;obtain⟨x0,x1⟩:=ae.CD tx ty s0 s1 k x (Zas hx);have e1:ae.bf xs ys s (k+1)=ae.visit xs ys (ae.bf xs ys s k) x:=by
  show(match (ae.bf xs ys s k)[k]? with|some x=>ae.visit xs ys (ae.bf xs ys s k) x|none=>ae.bf xs ys s k)=_;rw[hx]
 have hb1:=ae.JU tx ty s0 s1 (k+1);rw[e1]at hb1;have hp1:=(ae.ES (ae.dA (ae.bf xs ys s k) (ae.app xs x)) (ae.app ys x)).length_le;have hp0:=(ae.ES (ae.bf xs ys s k) (ae.app xs x)).length_le;change _<=(ae.visit xs ys (ae.bf xs ys s k) x).length at hp1;refine aO (lA [.tup (xs.map D.int),.tup (ys.map D.int)] (λm δ st3=>∃(v4 v5:Option D) (G:List Int),δ=[some (bJ xs ys),some (.int s),some (.ref st.length),some (.int (k:Int)),v4,v5]/\st3[st.length]?=some (.lst (G.map D.int))/\(m=0->G=ae.bf xs ys s k)/\(m=1->G=ae.dA (ae.bf xs ys s k) (ae.app xs x))/\(m=2->G=ae.visit xs ys (ae.bf xs ys s k) x)/\Ex [] st st3) ?_ (by simp) ?_ ?_);unfold bJ;k_lt Z;exact Z _ _ ⟨rfl,v4,v5,_,rfl,hl,λ_=>rfl,λz=>by lk,λz=>by lk,k2⟩;rintro m z δ st3 hm ⟨v4,v5,G,rfl,hl3,g0,g1,_,k3⟩;have hm2:m<2:=eY hm;obtain⟨zs,rfl,tz,em⟩:∃(zs:List Int),z=.tup (zs.map D.int)/\ae.Tn n zs/\((m=0/\zs=xs)\/(m=1/\zs=ys)):=by
  rcases(show m=0\/m=1 by lk)with rfl|rfl
  exact⟨xs,by simpa using hm.symm,tx,.inl ⟨rfl,rfl⟩⟩;exact⟨ys,by simpa using hm.symm,ty,.inr ⟨rfl,rfl⟩⟩
 have hG:G.length<=100/\G[k]?=some x:=by
  rcases em with⟨rfl,_⟩|⟨rfl,_⟩
  rw[g0 rfl];exact⟨by lk,hx⟩;rw[g1 rfl];refine⟨by lk,?_⟩;obtain⟨t,e⟩:=ae.ES (ae.bf xs ys s k) (ae.app xs x);rw[<- e,ZaH sW];exact hx
 have Ue:∀G',G'=ae.dA G (ae.app zs x)->(m+1=0->G'=ae.bf xs ys s k)/\(m+1=1->G'=ae.dA (ae.bf xs ys s k) (ae.app xs x))/\(m+1=2->G'=ae.visit xs ys (ae.bf xs ys s k) x):=λG' e=>by
  rcases em with⟨rfl,rfl⟩|⟨rfl,rfl⟩
  exact⟨λz=>by lk,λ_=>by rw[e,g0 rfl],λz=>by lk⟩;exact⟨λz=>by lk,λz=>by lk,λ_=>by rw[e,g1 rfl];rfl⟩
 have hat:gT (G.map D.int) (k:Int)=some (.int x):=Ea (by rw[Zaj,hG.2];rfl);k_lt Z;refine Z _ _ (aO (bt ?_));clear Z;exists _,Z,fS hl3,hat,mE (xs:=zs) x0 (by rw[tz.length];exact x1);refine Z _ _ (gi ?_);clear Z;exists _,Z,N8 (st:=st3) (c:=.ref st.length) (ns:=G) (fS hl3);refine Z _ _ ⟨λhc=>A9 ?_,λhc=>jb ?_⟩;obtain⟨n0,n1,n2⟩:=Ue (G ++ [ae.app zs x]) (Xdp hc).symm;exists _,cH,mX hl3;refine⟨yF (by rw[fS hl3];rfl),i9 (by rw[Zaa];lk),cH _ _ ⟨_,_,G ++ [ae.app zs x],rfl,?_,n0,n1,n2,k3.loc (Zab _)⟩⟩;rw[Zag (eY hl3),Zay];rfl;obtain⟨n0,n1,n2⟩:=Ue G (Yc3 hc).symm;exact⟨_,_,G,rfl,hl3,n0,n1,n2,k3⟩;rintro δ st3 ⟨v4,v5,G,rfl,hl3,_,_,g2,k3⟩;have g2:=g2 rfl;subst g2;refine bt ?_;k_lt Z;refine Z _ _ ⟨n-(k+1),by lk,k+1,v4,v5,rfl,by simp,by rw[e1];exact hl3,by rw[e1];lk,k3⟩;have hlt:=of_decide_eq_false hlt;rw[Zaa]at hlt;have hle:(ae.bf xs ys s k).length<=k:=by lk
 have e:ae.bf xs ys s n=ae.bf xs ys s k:=by
  have:=ae.JT hle (n-k)
  rwa [show k+(n-k)=n by lk]at this
 refine cZ ?_;exists _,cH,fS hl;rw[<- e];exact cH _ _ ⟨rfl,k2⟩
def Ug{st:Store}{xs ys:List Int}{n:Nat}{s:Int}{j:Nat}(tx:ae.Tn n xs)(ty:ae.Tn n ys)(hn:n<=100)(s0:0<=s)(s1:s<(n:Int))(hj:j<4):Wp (C6 [bJ xs ys,.int s,.str (bu j)] st) λd st'=>d=.int (bS xs ys s j)/\Ex [] st st':=by have ht:=(BO tx ty j).length;refine mM ?_;show Ws (Hs [some (bJ xs ys),some (.int s),some (.str (bu j))] st) _ _ _ _;unfold Hs;refine cZ ?_;k_lt Z;refine aR (LF tx ty hn) ?_;rintro d st1 ⟨rfl,h1,k1⟩;refine⟨dF xs ys,by simp only[kW,h1],_,rfl,_,Df xs ys hj,?_⟩;exists mE (xs:=stepT xs ys j) s0 ⋯;rw[<- yU];exact Z _ _ ⟨rfl,k1⟩
abbrev fP(j:Nat):Nat:=(j+2) % 4
def Uh{n:Nat}{xs ys:List Int}{s:Int}{j:Nat}(tx:ae.Tn n xs)(ty:ae.Tn n ys)(s0:0<=s)(s1:s<(n:Int))(hj:j<4):bS xs ys (bS xs ys s j) (fP j)=s:=by
 have c:j=0\/j=1\/j=2\/j=3:=by lk
 rcases c with rfl|rfl|rfl|rfl
 exact tx.bg s0 s1;exact ty.bg s0 s1;exact tx.a9 s0 s1;exact ty.a9 s0 s1
def OO{n:Nat}{xs ys:List Int}(tx:ae.Tn n xs)(ty:ae.Tn n ys):∀(js:List Nat) {s:Int},0<=s->s<(n:Int)->(∀j∈js,j<4)->qg xs ys (dH xs ys s js) (js.reverse.map fP)=(qg xs ys s js).reverse/\dH xs ys (dH xs ys s js) (js.reverse.map fP)=s
 |[],s,_,_,_=>⟨rfl,rfl⟩
 |j :: js,s,s0,s1,hj=>by
  have hb:=ug (j:=j) tx ty s0 s1;have hj0:=hj j Zaf;obtain⟨h1,h2⟩:=OO tx ty js hb.1 hb.2 λi hi=>hj i (Zah _ hi);have e:((j :: js).reverse.map fP)=js.reverse.map fP ++ [fP j]:=by rw[Zbb,Zay];rfl
  rw[e];show qg xs ys (dH xs ys (bS xs ys s j) js) (js.reverse.map fP ++ [fP j])=(s :: qg xs ys (bS xs ys s j) js).reverse/\dH xs ys (dH xs ys (bS xs ys s j) js) (js.reverse.map fP ++ [fP j])=s;rw[OJ,tK,h1,h2,Zbb,Uh tx ty s0 s1 hj0];exact⟨rfl,by show bS xs ys (bS xs ys s j) (fP j)=s;exact Uh tx ty s0 s1 hj0⟩
def rlud{c:Int}(c0:0<=c)(c1:c<4):∃j:Nat,j<4/\gT (("rlud" : Str).cps.toList) c=some (iT j):=by
 have c:c=0\/c=1\/c=2\/c=3:=by lk
 rcases c with rfl|rfl|rfl|rfl
 exact⟨0,by decide,rfl⟩;exact⟨2,by decide,rfl⟩;exact⟨1,by decide,rfl⟩;exact⟨3,by decide,rfl⟩
def zdq{ys:List D}(h:∀(i:Nat) (y:D),ys[i]?=some y->∃j:Nat,j<4/\y=D.str (sO [iT j])):∃js:List Nat,(∀j∈js,j<4)/\ys=(js.map λj=>sO [iT j]).map D.str:=by
 induction ys with
 |nil=>exact⟨[],(λj hj=>nomatch hj),rfl⟩
 |cons y r ih =>
  obtain⟨j,hj,rfl⟩:=h 0 y (by simp);obtain⟨js,BW,e⟩:=ih λi z hz=>h (i+1) z (by simpa using hz);refine⟨j :: js,λx hx=>?_,by rw[e];rfl⟩;rcases Zar.mp hx with rfl|hx
  exact hj;exact BW x hx
def YcN(js:List Nat):Str.join (Str.ofString "") (js.map λj=>sO [iT j])=ax js:=by
 have e:(js.map λj=>sO [iT j])=(js.map λj=>[iT j]).map sO:=by rw[ZaA];rfl
 rw[e,show(Str.ofString "")=sO []from rfl,vt];unfold ax
 congr 1
 rw[<- List.flatMap_def];exact(List.map_eq_flatMap (f:=iT) (l:=js)).symm
def xcN(js:List Nat):∀x∈js.map (λj=>sO [iT j]),x.length<=100:=λx hx=>by
 obtain⟨j,_,rfl⟩:=ZaP.mp hx;rw[S7];exact(show 1<=100 by decide)
def Ui{st:Store}{Q:D->Store->Prop}{k:Nat}{js:List Nat}(h:items st k=some ((js.map λj=>sO [iT j]).map D.str))(hl:js.length<=50000):Wp (kY (.str (Str.ofString "")) [.ref k] st) Q↔Q (.str (ax js)) st:=by rw[Y5 h (by rw[Zaa];lk) ∅ (xcN js),YcN]
abbrev hU(xs ys:List Int)(n:Nat)(s:Int):Nat->Int
 |0=>(n:Int)+ae.app xs s
 |1=>ae.app ys s
 |2=>(n:Int)+s
 |_=>s
abbrev lh:Nat->Int
 |0=>1
 |1=>-1
 |2=>-1
 |_=>1
abbrev ny(xs ys:List Int)(n:Nat)(sm:List Int):Int->List Nat->Int
 |_,[]=>0
 |s,j :: r=>lh j*ae.app sm (hU xs ys n s j)+ny xs ys n sm (bS xs ys s j) r
def OQ(xs ys:List Int)(n:Nat)(sm:List Int):∀(s:Int) (a b:List Nat),ny xs ys n sm s (a ++ b)=ny xs ys n sm s a+ny xs ys n sm (dH xs ys s a) b
 |_,[],_=>by show _=0+_;rw[Za9];rfl
 |s,j :: a,b=>by
  show _+ny xs ys n sm (bS xs ys s j) (a ++ b)=_+_+ny xs ys n sm (dH xs ys (bS xs ys s j) a) b;rw[OQ xs ys n sm _ a b,Int.add_assoc]
def OR(xs ys:List Int)(n:Nat)(sm:List Int)(s:Int)(a:List Nat)(j:Nat):ny xs ys n sm s (a ++ [j])=ny xs ys n sm s a+lh j*ae.app sm (hU xs ys n (dH xs ys s a) j):=by rw[OQ];show _+(_+0)=_;rw[Int.add_zero]
def Zcr{n:Nat}{xs ys:List Int}(tx:ae.Tn n xs)(ty:ae.Tn n ys){s:Int}(s0:0<=s)(s1:s<(n:Int))(j:Nat):0<=hU xs ys n s j/\hU xs ys n s j<((2*n:Nat):Int):=by have a:=tx.app s0 s1;have b:=ty.app s0 s1;unfold hU;split<;>lk
def xc3{n:Nat}{xs ys:List Int}(tx:ae.Tn n xs)(ty:ae.Tn n ys){s:Int}(s0:0<=s)(s1:s<(n:Int)){j:Nat}(hj:j<4):hU xs ys n (bS xs ys s j) (fP j)=hU xs ys n s j/\lh (fP j)=- lh j:=by
 have c:j=0\/j=1\/j=2\/j=3:=by lk
 rcases c with rfl|rfl|rfl|rfl
 exact⟨rfl,rfl⟩;exact⟨rfl,rfl⟩;refine⟨?_,rfl⟩;show(n:Int)+ae.app xs (ae.app (ae.inv xs) s)=(n:Int)+s;rw[tx.a9 s0 s1];refine⟨?_,rfl⟩;show ae.app ys (ae.app (ae.inv ys) s)=s;rw[ty.a9 s0 s1]
def Uj{n:Nat}{xs ys sm:List Int}(tx:ae.Tn n xs)(ty:ae.Tn n ys):∀(js:List Nat) {s:Int},0<=s->s<(n:Int)->(∀j∈js,j<4)->ny xs ys n sm (dH xs ys s js) (js.reverse.map fP)=0-ny xs ys n sm s js
 |[],s,_,_,_=>rfl
 |j :: js,s,s0,s1,hj=>by
  have hb:=ug (j:=j) tx ty s0 s1;have hj0:=hj j Zaf;have ih:=Uj (sm:=sm) tx ty js hb.1 hb.2 λi hi=>hj i (Zah _ hi);have hw:=(OO tx ty js hb.1 hb.2 λi hi=>hj i (Zah _ hi)).2;have e:((j :: js).reverse.map fP)=js.reverse.map fP ++ [fP j]:=by rw[Zbb,Zay];rfl
  rw[e,OR];show ny xs ys n sm (dH xs ys (bS xs ys s j) js) _+lh (fP j)*ae.app sm (hU xs ys n (dH xs ys (dH xs ys (bS xs ys s j) js) (js.reverse.map fP)) (fP j))=0-(lh j*ae.app sm (hU xs ys n s j)+ny xs ys n sm (bS xs ys s j) js);obtain⟨o1,o2⟩:=xc3 tx ty s0 s1 hj0;rw[ih,hw,o1,o2,Zbo];lk
abbrev upd(L:List Int)(k v:Int):List Int:=L.set k.toNat (ae.app L k+v)
def vH(L:List Int)(k v:Int):(upd L k v).length=L.length:=by unfold upd;rw[ZaU]
def IK{L:List Int}{k v i:Int}(k0:0<=k)(k1:k<(L.length:Int))(i0:0<=i):ae.app (upd L k v) i=ae.app L i+if i=k then v else 0:=by unfold upd ae.app;rw[Zau,Zau,Zau];by_cases h:i=k;subst h;rw[if_pos rfl,Zag ⋯];rfl;rw[if_neg h,Zao ⋯,Int.add_zero]
def XcN{st:Store}{xs ys:List Int}{n:Nat}{s:Int}{j:Nat}(tx:ae.Tn n xs)(ty:ae.Tn n ys)(s0:0<=s)(s1:s<(n:Int))(hj:j<4):Wp (La [bJ xs ys,.int s,.str (bu j)] st) λd st'=>d=.int (hU xs ys n s j)/\Ex [] st st':=by
 have hlx:=tx.length;have BK:=ty.length;have c:j=0\/j=1\/j=2\/j=3:=by lk
 refine mM ?_;show Ws (HC [some (bJ xs ys),some (.int s),some (.str (bu j))] st) _ _ _ _;unfold HC bJ;rcases c with rfl|rfl|rfl|rfl
 refine aO (gi ?_);k_lt Z;refine Z _ _ ⟨λ_=>cZ ?_,λz=>absurd z ∅⟩;clear Z;exists _,Z,mE (xs:=xs) s0 ⋯;rw[Zaa,hlx];exact Z _ _ ⟨rfl,Ex.refl⟩;refine aO (gi ?_);k_lt Z;refine Z _ _ ⟨λz=>absurd z ∅,λ_=>jb (aO (gi ?_))⟩;k_lt2 Z;refine Z _ _ ⟨λz=>absurd z ∅,λ_=>jb (aO (gi ?_))⟩;k_lt2 Z;refine Z _ _ ⟨λ_=>cZ ?_,λz=>absurd z ∅⟩;clear Z;exists _,Z,mE (xs:=ys) s0 ⋯;exact Z _ _ ⟨rfl,Ex.refl⟩;refine aO (gi ?_);k_lt Z;refine Z _ _ ⟨λz=>absurd z ∅,λ_=>jb (aO (gi ?_))⟩;k_lt2 Z;refine Z _ _ ⟨λ_=>cZ ?_,λz=>absurd z ∅⟩;k_lt2 Z;rw[Zaa,hlx];exact Z _ _ ⟨rfl,Ex.refl⟩;refine aO (gi ?_);k_lt Z;refine Z _ _ ⟨λz=>absurd z ∅,λ_=>jb (aO (gi ?_))⟩;k_lt2 Z;refine Z _ _ ⟨λz=>absurd z ∅,λ_=>jb (aO (gi ?_))⟩;k_lt2 Z;refine Z _ _ ⟨λz=>absurd z ∅,λ_=>jb (cZ ?_)⟩;k_lt2 Z;exact Z _ _ ⟨rfl,Ex.refl⟩
abbrev OS:List (Str×TV):=[("r",.int 1),("l",.int (-1)),("u",.int (-1)),("d",.int 1)]
def Xc3{j:Nat}(hj:j<4):mz OS (bu j)=some (.int (lh j)):=by
 have c:j=0\/j=1\/j=2\/j=3:=by lk
 rcases c with rfl|rfl|rfl|rfl<;>rfl
def zcO(j:Nat):-18446744073709551616<lh j/\lh j<18446744073709551616:=by unfold lh;split<;>decide
def LK(xs ys:List Int):∀(s:Int) (js:List Nat),jS ((qg xs ys s js).map D.int) (js.map λj=>D.str (bu j))=(List.range js.length).map λi=>D.tup [.int (dH xs ys s (js.take i)),.str (bu (js.getD i 0))]
 |s,[]=>rfl
 |s,j :: js=>by
  show D.tup [.int s,.str (bu j)] :: jS ((qg xs ys (bS xs ys s j) js).map D.int) (js.map λj=>D.str (bu j))=_;rw[LK xs ys (bS xs ys s j) js,Zaz,List.range_succ_eq_map,Zav,ZaA];rfl
def OT{st:Store}{xs ys sm:List Int}{n:Nat}{s:Int}{js:List Nat}(tx:ae.Tn n xs)(ty:ae.Tn n ys)(hn:n<=100)(s0:0<=s)(s1:s<(n:Int))(hj:∀j∈js,j<4)(hl:js.length<=50000)(hm:sm.length=2*n):Wp (qZ [bJ xs ys,.int s,.str (ax js),.tup (sm.map D.int)] st) λd st'=>d=.int (ny xs ys n sm s js)/\Ex [] st st':=by
 refine mM ?_;show Ws (HE [some (bJ xs ys),some (.int s),some (.str (ax js)),some (.tup (sm.map D.int)),none,none,none] st) _ _ _ _;unfold HE;refine aO (bt ?_);k_lt Z;obtain⟨d0,st1,e0,rfl,k1⟩:=OM (st:=st) (js:=js) tx ty hn s0 s1 hj hl;refine Z _ _ (aO (lA (jS ((qg xs ys s js).map D.int) (js.map λj=>D.str (bu j))) (λi δ s2=>∃v5 v6:Option D,δ=[some (bJ xs ys),some (.int s),some (.str (ax js)),some (.tup (sm.map D.int)),some (.int (ny xs ys n sm s (js.take i))),v5,v6]/\Ex [] st s2) ?_ ?_ ?_ ?_));clear Z;exists _,Z,Te;refine⟨_,_,e0,?_⟩;refine⟨_,_,⟨rfl,rfl⟩,_,rfl,_,rfl,Z _ _ ⟨?_,none,none,rfl,k1⟩⟩;rw[Dg js hj];rw[LK,Zaa,ZbK];lk;clear Z;rintro i d δ s2 hd ⟨v5,v6,rfl,k2⟩;rw[LK]at hd;have hil:=eY hd;rw[Zaa,ZbK]at hil;rw[Zaj,Zbw hil]at hd;cases hd;show Wp (om 2 _ (D.tup [.int (dH xs ys s (js.take i)),.str (bu (js.getD i 0))]) _ _) _;have ej:js.getD i 0=js[i]:=by rw[Zau,Zam hil];rfl
 rw[ej];have sH:js[i]<4:=hj _ (Zb0 hil);obtain⟨w0,w1⟩:=Dh tx ty (js.take i) s0 s1;obtain⟨b0,b1⟩:=Zcr tx ty w0 w1 js[i];k_lt Z;refine⟨rfl,Z _ _ (bt ?_)⟩;clear Z;exists _,Z,Ol;refine⟨_,Xc3 sH,?_⟩;refine aR (XcN tx ty w0 w1 sH) ?_;rintro d s3 ⟨rfl,k3⟩;rw[show vX (.int (lh js[i]))=D.int (lh js[i])from rfl];exists mE (xs:=sm) b0 ⋯;exact⟨.inl (zcO _),Z _ _ ⟨_,_,by rw[ZaD hil,OR];rfl,k2.trans k3⟩⟩;clear Z;rintro δ s2 ⟨v5,v6,rfl,k2⟩;rw[LK,Zaa,ZbK,Za8];refine cZ ?_;k_lt Z;exact Z _ _ ⟨rfl,k2⟩
def OU{L:List Int}{k v:Int}:(L.map D.int).set k.toNat (.int (ae.app L k+v))=(upd L k v).map D.int:=by unfold upd;rw[ZbG]
def rep0(m:Nat):(List.replicate m [D.int 0]).flatten=(List.replicate m (0:Int)).map D.int:=by
 induction m with
 |zero=>rfl
 |succ m ih=>rw[ZaK,ZaQ,ih];rfl
def Uk:∀{zs:List D},(∀(i:Nat) (y:D),zs[i]?=some y->∃x:Int,y=.int x)->∃L:List Int,zs=L.map D.int
 |[],_=>⟨[],rfl⟩
 |z :: zs,h=>by
  obtain⟨x,rfl⟩:=h 0 z rfl;obtain⟨L,rfl⟩:=Uk (zs:=zs) λi y hy=>h (i+1) y (by simpa using hy);exact⟨x :: L,rfl⟩
def Ul:∀{a b:List Int},a.length=b.length->jS (a.map D.int) (b.map D.int)=(a.zip b).map λp=>D.tup [.int p.1,.int p.2]
 |[],[],_=>rfl
 |x :: a,y :: b,h=>by
  show D.tup [.int x,.int y] :: jS (a.map D.int) (b.map D.int)=_;rw[Ul (by simpa using h)];rfl
abbrev p5(xs ys:List Int)(F:List Int)(m:Nat)(f:Int->Option (List Nat)):Prop:=(∀x:Int,(f x).isSome=true↔x∈F)/\∀(x:Int) (js:List Nat),f x=some js->(∀j∈js,j<2)/\dH xs ys 0 js=x/\js.length<=m
abbrev fN(xs ys:List Int)(x:Int)(f:Int->Option (List Nat))(j:Nat):Int->Option (List Nat):=if(f (bS xs ys x j)).isSome=true then f elseλy=>if y=bS xs ys x j then(f x).map (· ++ [j])else f y
abbrev q5(xs ys:List Int):Nat->Int->Option (List Nat)
 |0=>λx=>if x=0 then some []else none
 |i+1=>match (ae.bf xs ys 0 i)[i]? with
  |some x=>[0,1].foldl (fN xs ys x) (q5 xs ys i)
  |none=>q5 xs ys i
abbrev Di(KV:List (Key×D))(f:Int->Option (List Nat)):Prop:=∀x:Int,cK KV (.inl x)=(f x).map λjs=>.str (ax js)
def p5.le{xs ys F:List Int}{m m':Nat}{f:Int->Option (List Nat)}(h:p5 xs ys F m f)(hm:m<=m'):p5 xs ys F m' f:=⟨h.1,λx v hv=>by
 obtain⟨b,c,d⟩:=h.2 x v hv
 exact⟨b,c,by lk⟩⟩
def Di.some{KV:List (Key×D)}{f:Int->Option (List Nat)}(h:Di KV f)(x:Int):(cK KV (.inl x)).isSome=(f x).isSome:=by rw[h x];cases f x<;>rfl
def Ycr{xs ys:List Int}{x:Int}{f:Int->Option (List Nat)}{j:Nat}{jx:List Nat}(hx:f x=some jx):fN xs ys x f j x=some jx:=by
 unfold fN;split
 ·exact hx
 ·next h =>
  show(if x=bS xs ys x j then(f x).map (· ++ [j])else f x)=some jx;split
  ·next e=>rw[<- e,hx]at h;exact absurd rfl h
  ·exact hx
def zc4{xs ys F:List Int}{m:Nat}{f:Int->Option (List Nat)}{x:Int}{jx:List Nat}{j:Nat}(h:p5 xs ys F (m+1) f)(hx:f x=some jx)(hj:j<2)(hl:jx.length<=m):p5 xs ys (ae.dA F (bS xs ys x j)) (m+1) (fN xs ys x f j):=by
 unfold fN;split
 ·next hs =>
  have:bS xs ys x j∈F:=(h.1 _).mp hs;unfold ae.dA;rw[if_pos this];exact h
 ·refine⟨λy=>?_,λy js hv=>?_⟩
  ·show(if y=bS xs ys x j then(f x).map (· ++ [j])else f y).isSome=true↔_
   rw[ae.yj];split
   ·next hy=>rw[hx];exact⟨λ_=>.inr hy,λ_=>rfl⟩
   ·next hy=>rw[h.1 y];exact⟨λz=>.inl z,λz=>z.elim id λz=>absurd z hy⟩
  ·have hv:(if y=bS xs ys x j then(f x).map (· ++ [j])else f y)=some js:=hv
   split at hv
   ·next hy =>
    rw[hx]at hv;obtain rfl:jx ++ [j]=js:=Zai hv;obtain⟨p,q,r⟩:=h.2 x jx hx;refine⟨λi hi=>?_,?_,by rw[Zak,ZaC];lk⟩
    ·rcases ZaE.mp hi with hi|hi
     ·exact p i hi
     ·rw[ZaM.mp hi];exact hj
    ·rw[tK,q,hy];rfl
   ·exact h.2 y js hv
def sI{j:Nat}(hj:j<4):D.str (bu j)=.str (ax [j]):=by rw[<- Ub j hj];rfl
def Um:tw (Str.ofString "ru")=[0,1].map λj=>D.str (bu j):=rfl
def Uo{st:Store}{xs ys:List Int}{n:Nat}(fl:qH n xs ys)(n1:1<=n)(hn:n<=8):Wp (Hv [bJ xs ys] st) λd st'=>∃(r:Nat) (KV:List (Key×D)),d=.ref r/\st'[r]?=some (.dct KV)/\Di KV (q5 xs ys (ae.bf xs ys 0 n).length)/\p5 xs ys (ae.bf xs ys 0 n) n (q5 xs ys (ae.bf xs ys 0 n).length)/\Ex [] st st':=by
 have tx:=fl.1;have ty:=fl.2.1;refine mM ?_;show Ws (Hu [some (bJ xs ys),none,none,none,none] st) _ _ _ _;unfold Hu;refine aO (bt ?_);k_lt Z;refine⟨jW,[(.inl 0,.str (ax []))],rfl,∅,?_⟩;rw[SF];have s0:(0:Int)<(n:Int):=by lk
 obtain⟨d0,st1,e0,rfl,k1⟩:=ZbZ (st:=st ++ [O.dct (pz [] [(Sum.inl 0,D.str (ax []))])]) (s:=0) tx ty ⋯ (ZaS _) s0;have uB:=ae.JU tx ty (ZaS 0) s0 n;have h0:p5 xs ys (ae.bf xs ys 0 0) 0 (q5 xs ys 0):=by
  refine⟨λx=>?_,λx v hv=>?_⟩
  ·show(if x=0 then some ([]:List Nat)else none).isSome=true↔x∈[(0:Int)]
   rw[ZaM];split
   ·next h=>exact⟨λ_=>h,λ_=>rfl⟩
   ·next h=>exact⟨λz=>absurd z ∅,λz=>absurd z h⟩
  ·have hv:(if x=0 then some ([]:List Nat)else none)=some v:=hv
   split at hv
   ·next h=>cases hv;exact⟨(λj hj=>nomatch hj),h.symm,Zab _⟩
   ·cases hv
 have h0R:Di (pz [] [(Sum.inl 0,D.str (ax []))]) (q5 xs ys 0):=λx=>by
  show cK [((Sum.inl 0:Key),D.str (ax []))] (.inl x)=(if x=0 then some ([]:List Nat)else none).map _;rw[yH];by_cases hx:x=0
  ·rw[if_pos (by rw[hx]),if_pos hx];rfl
  ·rw[if_neg (λz=>hx (Sum.inl.inj z).symm),if_neg hx];rfl
 refine Z _ _ (aO (lA ((ae.bf xs ys 0 n).map D.int) (λi δ s2=>∃(v2 v3 v4:Option D) (KV:List (Key×D)),δ=[some (bJ xs ys),some (.ref st.length),v2,v3,v4]/\s2[st.length]?=some (.dct KV)/\Di KV (q5 xs ys i)/\p5 xs ys (ae.bf xs ys 0 i) i (q5 xs ys i)/\KV.length<=1+2*i/\Ex [] st s2) ?_ (by rw[Zaa];lk) ?_ ?_))
 ·clear Z
  k_lt Z;refine⟨_,_,e0,?_⟩;exact⟨_,rfl,Z _ _ ⟨rfl,none,none,none,_,rfl,k1.keep _ _ jW (by simp),h0R,h0,by decide,(Ex.cE _).trans k1⟩⟩
 ·clear Z
  rintro i d δ s2 hd ⟨v2,v3,v4,KV,rfl,hK,hRR,hR,hKl,k2⟩;rw[Zaj]at hd;obtain⟨x,hx,rfl⟩:=Zax.mp hd;have hi:i<n:=ZaF (eY hx) uB;have hxi:=ae.yk (Zcu hi) hx;obtain⟨x0,x1⟩:=ae.CD tx ty (ZaS 0) s0 n x (Zas hx);have vG:ae.bf xs ys 0 (i+1)=ae.dA (ae.dA (ae.bf xs ys 0 i) (bS xs ys x 0)) (bS xs ys x 1):=by
   show(match (ae.bf xs ys 0 i)[i]? with|some o=>ae.visit xs ys (ae.bf xs ys 0 i) o|none=>ae.bf xs ys 0 i)=_;rw[hxi];rfl
  obtain⟨jx,hfx⟩:=Zbe.mp ((hR.1 x).mpr (Zas hxi));obtain⟨hjx,hwx,hlx⟩:=hR.2 x jx hfx;have hds:q5 xs ys (i+1)=[0,1].foldl (fN xs ys x) (q5 xs ys i):=by
   show(match (ae.bf xs ys 0 i)[i]? with|some x=>[0,1].foldl (fN xs ys x) (q5 xs ys i)|none=>q5 xs ys i)=_;rw[hxi]
  k_lt Z;refine Z _ _ (lA ([0,1].map λj=>D.str (bu j)) (λk δ s3=>∃(v3 v4:Option D) (KV:List (Key×D)),δ=[some (bJ xs ys),some (.ref st.length),some (.int x),v3,v4]/\s3[st.length]?=some (.dct KV)/\Di KV (([0,1].take k).foldl (fN xs ys x) (q5 xs ys i))/\p5 xs ys (([0,1].take k).foldl (λF j=>ae.dA F (bS xs ys x j)) (ae.bf xs ys 0 i)) (i+1) (([0,1].take k).foldl (fN xs ys x) (q5 xs ys i))/\(([0,1].take k).foldl (fN xs ys x) (q5 xs ys i)) x=some jx/\KV.length<=1+2*i+k/\Ex [] st s3) ?_ ∅ ?_ ?_)
  ·clear Z
   exists _,Z,CV;rw[Um];exact⟨by decide,Z _ _ ⟨rfl,_,_,KV,rfl,hK,hRR,hR.le ⋯,hfx,by lk,k2⟩⟩
  ·clear Z
   rintro k d δ s3 hd ⟨v3,v4,y2,rfl,Dj,rK,xt,Dk,hl3,k3⟩;have hk2:k<2:=eY hd;have OV:d=.str (bu k)/\[0,1].take (k+1)=[0,1].take k ++ [k]:=by
    have c:k=0\/k=1:=by lk
    rcases c with rfl|rfl
    ·cases hd;exact⟨rfl,rfl⟩
    ·cases hd;exact⟨rfl,rfl⟩
   obtain⟨rfl,hk⟩:=OV;rw[hk,ZaR,ZaR];generalize ([0,1].take k).foldl (λF j=>ae.dA F (bS xs ys x j)) (ae.bf xs ys 0 i)=F at xt ⊢;generalize ([0,1].take k).foldl (fN xs ys x) (q5 xs ys i)=g at rK xt Dk ⊢;have Up:p5 xs ys ([k].foldl (λF j=>ae.dA F (bS xs ys x j)) F) (i+1) ([k].foldl (fN xs ys x) g):=zc4 xt Dk hk2 hlx;have Uq:([k].foldl (fN xs ys x) g) x=some jx:=Ycr Dk;have hv3:cK y2 (.inl x)=some (.str (ax jx)):=by rw[rK x,Dk];rfl
   k_lt Z;refine Z _ _ (aO (bt ?_));k_lt2 Z;refine aR (Ug (j:=k) tx ty ⋯ x0 x1 ⋯) ?_;rintro d s4 ⟨rfl,k4⟩;have BX:=k4.keep _ _ Dj (by simp);refine Z _ _ (gi ?_);k_lt2 Z;refine⟨y2,sE BX,_,rfl,?_⟩;refine Z _ _ ⟨λh=>SA ?_,λh=>jb ?_⟩
   ·clear Z
    have hns:(g (bS xs ys x k)).isSome=false:=by rw[<- rK.some];simpa using h
    have vF:∀y:Int,([k].foldl (fN xs ys x) g) y=if y=bS xs ys x k then some (jx ++ [k])else g y:=λy=>by
     show fN xs ys x g k y=_;unfold fN;rw[if_neg (by rw[hns];decide),Dk];rfl
    k_lt Z;refine⟨y2,sE BX,_,rfl,_,hv3,?_⟩;rw[sI (show k<4 by lk)];exists Bv,BV,tJ;refine⟨i9 (by simp;lk),Z _ _ ?_⟩;w_how;refine⟨y2,sE BX,_,rfl,i9 ⋯,?_⟩;refine⟨_,_,⟨rfl,rfl⟩,_,Zag (eY BX),λy=>?_,Up,Uq,?_,(k3.trans k4).loc (Zab _)⟩
    ·rw[SW,vF]
     by_cases hy:y=bS xs ys x k
     ·rw[if_pos (by rw[hy]),if_pos hy];rfl
     ·rw[if_neg (λz=>hy (Sum.inl.inj z)),if_neg hy];exact rK y
    ·have:=SX y2 (.inl (bS xs ys x k)) (.str (ax (jx ++ [k])))
     lk
   ·have hns:(g (bS xs ys x k)).isSome=true:=by rw[<- rK.some];simpa using h
    have vF:[k].foldl (fN xs ys x) g=g:=by
     show fN xs ys x g k=_;unfold fN;rw[if_pos hns]
    refine⟨_,_,y2,rfl,BX,?_,Up,Uq,by lk,k3.trans k4⟩;rw[vF];exact rK
  ·clear Z
   rintro δ s3 ⟨v3,v4,y2,rfl,Dj,rK,xt,Dk,hl3,k3⟩;exact⟨_,_,_,y2,rfl,Dj,by rw[hds];exact rK,by rw[vG,hds];exact xt,by simp at hl3;lk,k3⟩
 ·clear Z
  rintro δ s2 ⟨v2,v3,v4,KV,rfl,hK,hRR,hR,hKl,k2⟩;rw[Zaa]at hR;have wc:ae.bf xs ys 0 (ae.bf xs ys 0 n).length=ae.bf xs ys 0 n:=by
   have hp:=ae.CC xs ys 0 (ae.bf xs ys 0 n).length (n-(ae.bf xs ys 0 n).length);rw[show(ae.bf xs ys 0 n).length+(n-(ae.bf xs ys 0 n).length)=n by lk]at hp;have:=ae.JT (xs:=xs) (ys:=ys) (s:=0) (k:=(ae.bf xs ys 0 n).length) hp.length_le (n-(ae.bf xs ys 0 n).length);rw[show(ae.bf xs ys 0 n).length+(n-(ae.bf xs ys 0 n).length)=n by lk]at this;exact this.symm
  rw[wc]at hR;rw[Zaa]at hRR;refine cZ ?_;k_lt Z;exact Z _ _ ⟨_,KV,rfl,hK,hRR,hR.le uB,k2⟩
abbrev xy:List (Str×TV):=[("r",.str "l"),("u",.str "d")]
def OW{j:Nat}(hj:j<2):mz xy (bu j)=some (.str (ax [fP j])):=by
 have c:j=0\/j=1:=by lk
 rcases c with rfl|rfl<;>rfl
def xA{js:List Nat}(h:∀j∈js,j<2):∀j∈js,j<4:=λj hj=>ZbW (h j hj) ∅
def BZ{js:List Nat}:∀j∈js.reverse.map fP,j<4:=λj hj=>by
 obtain⟨i,_,rfl⟩:=ZaP.mp hj;exact ZcD _ ∅
def xbN{st:Store}{js:List Nat}(hj:∀j∈js,j<2)(hl:js.length<=50000):Wp (Hz [.str (ax js)] st) λd st'=>d=.str (ax (js.reverse.map fP))/\Ex [] st st':=by
 refine mM ?_;show Ws (Hy [some (.str (ax js))] st) _ _ _ _;unfold Hy;refine cZ ?_;k_lt Z;refine⟨rfl,?_⟩;refine Bu (js.reverse.map λj=>.str (bu j)) (λd=>match d with|.str x=>(match mz xy x with|some y=>vX y|none=>.non)|_=>.non) ?_ (by rw[Zaa,ZaO];lk) ?_ ?_;exists _,cH,Oh;have e:FV (.str (ax js))=some (js.map λj=>D.str (bu j)):=by
  show(if(ax js).length<=sizeLine then some (tw (ax js))else none)=_;rw[tJ,if_pos (Zaw hl ∅),Dg js (xA hj)]
 refine⟨_,e,cH _ _ ⟨?_,Ex.refl⟩⟩;rw[<- Zb3];exact vW _ _;intro d hd s5 k5;obtain⟨j,hj',rfl⟩:=ZaP.mp hd;have sH:=hj j (Zb2.mp hj');exists _,cH,Ol;refine⟨_,OW sH,cH _ _ ⟨?_,Ex.refl⟩⟩;simp only[OW sH];intro s5 k5;have em:(js.reverse.map λj=>D.str (bu j)).map (λd=>match d with|.str x=>(match mz xy x with|some y=>vX y|none=>.non)|_=>.non)=((js.reverse.map fP).map λj=>sO [iT j]).map D.str:=by
  rw[ZaA,ZaA,ZaA];refine ZaT λj hj'=>?_;show(match mz xy (bu j)with|some y=>vX y|none=>.non)=D.str (sO [iT (fP j)]);rw[OW (hj j (Zb2.mp hj'))];rfl
 rw[em,Ui (js:=js.reverse.map fP) vV (by rw[Zaa,ZaO];lk)];exact Z _ _ ⟨rfl,k5.app _⟩
abbrev p6(xs ys:List Int)(n:Nat)(x:Int):List Nat:=((q5 xs ys (ae.bf xs ys 0 n).length) x).getD []
def y3{xs ys:List Int}{n:Nat}(fl:qH n xs ys)(n1:1<=n)(hn:n<=8){x:Int}(x0:0<=x)(x1:x<(n:Int)):q5 xs ys (ae.bf xs ys 0 n).length x=some (p6 xs ys n x)/\(∀j∈p6 xs ys n x,j<2)/\dH xs ys 0 (p6 xs ys n x)=x/\(p6 xs ys n x).length<=n:=by
 obtain⟨_,_,_,_,_,_,_,_,hR,_⟩:=Uo (st:=[]) fl n1 hn;have hx:x∈ae.bf xs ys 0 n:=ae.An fl.1 fl.2.1 (ZaS 0) ⋯ fl.2.2 x0 x1;obtain⟨js,BW⟩:=Zbe.mp ((hR.1 x).mpr hx);have e:p6 xs ys n x=js:=by unfold p6;rw[BW];rfl
 rw[e];exact⟨BW,hR.2 x js BW⟩
abbrev mD(xs ys:List Int)(n:Nat)(s:Int)(j:Nat):List Nat:=p6 xs ys n s ++ [j] ++ (p6 xs ys n (bS xs ys s j)).reverse.map fP
abbrev vI(xs ys:List Int)(n:Nat)(sm:List Int):List Int:=(List.range n).map λ(s:Nat)=>-(ny xs ys n sm 0 (p6 xs ys n (s:Int)))
abbrev bad(xs ys:List Int)(n:Nat)(sm:List Int)(k:Nat):Bool:=decide (ny xs ys n sm 0 (mD xs ys n ((k / 2:Nat):Int) (k % 2))≠0)
abbrev pE(xs ys:List Int)(n:Nat)(sm:List Int):D:=match (List.range (2*n)).find? (bad xs ys n sm)with
 |some k=>.tup [.str "ride",.str (ax (mD xs ys n ((k / 2:Nat):Int) (k % 2)))]
 |none=>.tup [.str "border",.tup ((vI xs ys n sm).map D.int)]
def LL{xs ys:List Int}{n:Nat}(fl:qH n xs ys)(n1:1<=n)(hn:n<=8){s:Int}(s0:0<=s)(s1:s<(n:Int)){j:Nat}(hj:j<2):(∀i∈mD xs ys n s j,i<4)/\dH xs ys 0 (mD xs ys n s j)=0/\(mD xs ys n s j).length<=17:=by
 obtain⟨_,a1,a2,a3⟩:=y3 fl n1 hn s0 s1;obtain⟨b0,b1⟩:=ug (j:=j) fl.1 fl.2.1 s0 s1;obtain⟨_,c1,c2,c3⟩:=y3 fl n1 hn b0 b1;have hz:(0:Int)<(n:Int):=by lk
 unfold mD;refine⟨λi hi=>?_,?_,?_⟩;rcases ZaE.mp hi with hi|hi
 rcases ZaE.mp hi with hi|hi
 exact ZbW (a1 i hi) ∅;rw[ZaM.mp hi];lk;exact BZ i hi;rw[tK,tK,a2];show dH xs ys (bS xs ys s j) _=0;have:=(OO fl.1 fl.2.1 (p6 xs ys n (bS xs ys s j)) (ZaS 0) hz (xA c1)).2;rw[c2]at this;exact this;rw[Zak,Zak,Zaa,ZaO,ZaC];lk
def Ur{xs ys sm:List Int}{n:Nat}(fl:qH n xs ys)(n1:1<=n)(hn:n<=8){s:Int}(s0:0<=s)(s1:s<(n:Int)){j:Nat}(hj:j<2):ny xs ys n sm 0 (mD xs ys n s j)=ny xs ys n sm 0 (p6 xs ys n s)+lh j*ae.app sm (hU xs ys n s j)-ny xs ys n sm 0 (p6 xs ys n (bS xs ys s j)):=by
 obtain⟨_,a1,a2,a3⟩:=y3 fl n1 hn s0 s1;obtain⟨b0,b1⟩:=ug (j:=j) fl.1 fl.2.1 s0 s1;obtain⟨_,c1,c2,c3⟩:=y3 fl n1 hn b0 b1;have hz:(0:Int)<(n:Int):=by lk
 have hb:=Uj (sm:=sm) fl.1 fl.2.1 (p6 xs ys n (bS xs ys s j)) (ZaS 0) hz (xA c1);rw[c2]at hb;unfold mD;rw[OQ,OR,tK,a2];show _+ny xs ys n sm (bS xs ys s j) _=_;rw[hb];lk
def OX{xs ys sm:List Int}{n:Nat}(h:∀k,k<2*n->bad xs ys n sm k=false):pE xs ys n sm=.tup [.str "border",.tup ((vI xs ys n sm).map D.int)]:=by
 unfold pE;have:(List.range (2*n)).find? (bad xs ys n sm)=none:=by
  rw[List.find?_eq_none];intro k hk;rw[h k (Za0.mp hk)];decide
 rw[this]
def yc4{xs ys sm:List Int}{n k:Nat}(hk:k<2*n)(hb:bad xs ys n sm k=true)(h:∀i,i<k->bad xs ys n sm i=false):pE xs ys n sm=.tup [.str "ride",.str (ax (mD xs ys n ((k / 2:Nat):Int) (k % 2)))]:=by
 unfold pE;have:(List.range (2*n)).find? (bad xs ys n sm)=some k:=by
  rw[List.find?_range_eq_some];exact⟨hb,Za0.mpr hk,λi hi=>by rw[h i hi];rfl⟩
 rw[this]
def Yca{st:Store}{xs ys sm:List Int}{n:Nat}(fl:qH n xs ys)(n1:1<=n)(hn:n<=8)(hm:sm.length=2*n):Wp (xo [bJ xs ys,.tup (sm.map D.int)] st) λd st'=>d=pE xs ys n sm/\Ex [] st st':=by
 have tx:=fl.1;have ty:=fl.2.1;have hlx:=tx.length;have hz:(0:Int)<(n:Int):=by lk
 refine mM ?_;show Ws (Lb [some (bJ xs ys),some (.tup (sm.map D.int)),none,none,none,none] st) _ _ _ _;unfold Lb;refine aO (bt ?_);k_lt Z;refine aR (Uo fl n1 hn) ?_;rintro d st1 ⟨r,KV,rfl,hK,hRR,hR,k1⟩;have hv:∀x:Int,0<=x->x<(n:Int)->cK KV (.inl x)=some (.str (ax (p6 xs ys n x))):=λx x0 x1=>by
  rw[hRR x,(y3 fl n1 hn x0 x1).1];rfl
 refine Z _ _ (aO (lA (aF 0 n) (λi δ s2=>∃v3 v4 v5:Option D,δ=[some (bJ xs ys),some (.tup (sm.map D.int)),some (.ref r),v3,v4,v5]/\(∀k,k<2*i->bad xs ys n sm k=false)/\Ex [] st1 s2) ?_ (by rw[gh];lk) ?_ ?_));clear Z;exists _,Z,show bJ xs ys=.tup [.tup (xs.map D.int),.tup (ys.map D.int)]from rfl;rw[Zaa,hlx];exact⟨by lk,Z _ _ ⟨by rw[Zae],none,none,none,rfl,λk hk=>absurd hk ⋯,Ex.refl⟩⟩;clear Z;rintro i d δ s2 hd ⟨v3,v4,v5,rfl,hb,k2⟩;have hil:=eY hd;rw[gh]at hil;rw[vT hil,Za9]at hd;cases hd;have i0:(0:Int)<=(i:Int):=by lk
 have i1:(i:Int)<(n:Int):=by lk
 obtain⟨_,a1,a2,a3⟩:=y3 fl n1 hn i0 i1;k_lt Z;refine Z _ _ (lA ([0,1].map λj=>D.str (bu j)) (λj δ s3=>∃v4 v5:Option D,δ=[some (bJ xs ys),some (.tup (sm.map D.int)),some (.ref r),some (.int (i:Int)),v4,v5]/\(∀k,k<2*i+j->bad xs ys n sm k=false)/\Ex [] st1 s3) ?_ ∅ ?_ ?_);clear Z;exists _,Z,CV;rw[Um];exact⟨by decide,Z _ _ ⟨rfl,_,_,rfl,hb,k2⟩⟩;clear Z;rintro j d δ s3 hd ⟨v4,v5,rfl,LM,k3⟩;have hj2:j<2:=eY hd;have OV:d=.str (bu j):=by
  have c:j=0\/j=1:=by lk
  rcases c with rfl|rfl
  cases hd;rfl;cases hd;rfl
 subst OV;obtain⟨b0,b1⟩:=ug (j:=j) tx ty i0 i1;obtain⟨_,c1,c2,c3⟩:=y3 fl n1 hn b0 b1;obtain⟨r1,r2,r3⟩:=LL fl n1 hn i0 i1 hj2;have hkk:(2*i+j) / 2=i/\(2*i+j) % 2=j:=by lk
 have Us:bad xs ys n sm (2*i+j)=decide (ny xs ys n sm 0 (mD xs ys n (i:Int) j)≠0):=by unfold bad;rw[hkk.1,hkk.2]
 have Dj:=k3.keep _ _ hK (by simp);k_lt Z;refine Z _ _ (aO (bt ?_));k_lt2 Z;refine⟨KV,sE Dj,_,rfl,_,hv _ i0 i1,?_⟩;rw[sI (show j<4 by lk)];exists Bv,BV,tJ;refine⟨i9 (by simp;lk),?_⟩;rw[<- sI (show j<4 by lk)];refine aR (Ug (j:=j) tx ty ⋯ i0 i1 ⋯) ?_;rintro d s4 ⟨rfl,k4⟩;have BX:=k4.keep _ _ Dj (by simp);refine⟨KV,sE BX,_,rfl,_,hv _ b0 b1,?_⟩;refine aR (xbN c1 ⋯) ?_;rintro d s5 ⟨rfl,k5⟩;exists Bv,BV,tJ;refine⟨i9 (by rw[Zak,Zaa,ZaO,ZaC];lk),?_⟩;rw[show p6 xs ys n (i:Int) ++ [j] ++ (p6 xs ys n (bS xs ys (i:Int) j)).reverse.map fP=mD xs ys n (i:Int) j from rfl];refine Z _ _ (gi ?_);k_lt2 Z;refine aR (OT (js:=mD xs ys n (i:Int) j) tx ty ⋯ (ZaS 0) hz r1 ⋯ hm) ?_;rintro d s6 ⟨rfl,k6⟩;w_how;refine Z _ _ ⟨λh=>cZ ?_,λh=>jb ?_⟩;clear Z;have hbt:bad xs ys n sm (2*i+j)=true:=by rw[Us];simpa using h
 have e:=yc4 ⋯ hbt LM;rw[hkk.1,hkk.2]at e;k_lt Z;exact⟨rfl,Z _ _ ⟨e.symm,k1.trans (((k3.trans k4).trans k5).trans k6)⟩⟩;refine⟨_,_,rfl,λk hk=>?_,((k3.trans k4).trans k5).trans k6⟩;by_cases hk':k<2*i+j;exact LM k hk'
 have:k=2*i+j:=by lk
 rw[this,Us];simpa using h;clear Z;rintro δ s3 ⟨v4,v5,rfl,LM,k3⟩;exact⟨_,_,_,rfl,λk hk=>LM k (by simp;lk),k3⟩;clear Z;rintro δ s2 ⟨v3,v4,v5,rfl,hb,k2⟩;rw[gh]at hb;have hK2:=k2.keep _ _ hK (by simp);refine cZ ?_;k_lt Z;refine Bu (aF 0 n) (λd=>match d with|.int s=>.int (-(ny xs ys n sm 0 (p6 xs ys n s)))|_=>.non) ?_ (by rw[gh];lk) ?_ ?_;exists _,cH,show bJ xs ys=.tup [.tup (xs.map D.int),.tup (ys.map D.int)]from rfl;rw[Zaa,hlx];exact⟨by lk,cH _ _ ⟨by rw[Zae];exact vW _ _,Ex.refl⟩⟩;intro d hd s5 k5;obtain⟨i,hi⟩:=Zb4 hd;have hil:=eY hi;rw[gh]at hil;rw[vT hil,Za9]at hi;cases hi;have i0:(0:Int)<=(i:Int):=by lk
 have i1:(i:Int)<(n:Int):=by lk
 obtain⟨_,a1,a2,a3⟩:=y3 fl n1 hn i0 i1;have hK5:=k5.keep _ _ hK2 (by simp);exists _,cH,Zav,Za3,Zbc,Zbd;refine⟨KV,sE hK5,_,rfl,_,hv _ i0 i1,?_⟩;refine aR (OT (js:=p6 xs ys n (i:Int)) tx ty ⋯ (ZaS 0) hz (xA a1) ⋯ hm) ?_;rintro d s6 ⟨rfl,k6⟩;w_how;exact cH _ _ ⟨rfl,k6⟩;intro s5 k5;have em:(aF 0 n).map (λd=>match d with|.int s=>.int (-(ny xs ys n sm 0 (p6 xs ys n s)))|_=>.non)=(vI xs ys n sm).map D.int:=by
  refine ZbJ λi=>?_;unfold vI;rw[Zaj,Zaj,Zaj];by_cases hi:i<n;rw[vT hi,Zbw hi,Za9];rfl;rw[ZaL (by rw[gh];lk),ZaL (by rw[ZbK];lk)];rfl
 rw[em];w_how;refine⟨rfl,Z _ _ ⟨(OX hb).symm,(k1.trans (k2.trans k5)).app _⟩⟩
abbrev uh(xs ys:List Int)(n:Nat)(L:List Int)(s v:Int):List Int:=upd (upd (upd (upd L s (1*v)) ((n:Int)+ae.app xs s) (1*v)) (ae.app ys s) (-1*v)) ((n:Int)+s) (-1*v)
abbrev iU(xs ys:List Int)(n:Nat)(w:List Int):Nat->List Int
 |0=>List.replicate (2*n) 0
 |i+1=>uh xs ys n (iU xs ys n w i) (i:Int) (ae.app w (i:Int))
def Zc4(xs ys:List Int)(n:Nat)(L:List Int)(s v:Int):(uh xs ys n L s v).length=L.length:=by unfold uh;rw[vH,vH,vH,vH]
def IL(xs ys:List Int)(n:Nat)(w:List Int):∀i,(iU xs ys n w i).length=2*n
 |0=>by unfold iU;rw[ZaG]
 |i+1=>by unfold iU;rw[Zc4,IL xs ys n w i]
def LN(m:Nat)(k:Int):ae.app (List.replicate m 0) k=0:=by unfold ae.app;rw[Zau,Zbg];split<;>rfl
def Ut{xs ys L:List Int}{n:Nat}(tx:ae.Tn n xs)(ty:ae.Tn n ys)(hl:L.length=2*n){s v k:Int}(s0:0<=s)(s1:s<(n:Int))(k0:0<=k):ae.app (uh xs ys n L s v) k=ae.app L k+(if k=s then v else 0)+(if k=(n:Int)+ae.app xs s then v else 0)+(if k=ae.app ys s then -v else 0)+(if k=(n:Int)+s then -v else 0):=by have hx:=tx.app s0 s1;have hy:=ty.app s0 s1;unfold uh;rw[IK ⋯ (by rw[vH,vH,vH,hl];lk) k0,IK ⋯ (by rw[vH,vH,hl];lk) k0,IK ⋯ (by rw[vH,hl];lk) k0,IK s0 (by rw[hl];lk) k0,ZcK,Zbo,ZcK]
def Uu{xs ys w:List Int}{n:Nat}(tx:ae.Tn n xs)(ty:ae.Tn n ys){k:Int}(k0:0<=k)(k1:k<(n:Int)):∀i:Nat,i<=n->ae.app (iU xs ys n w i) k=(if k<(i:Int)then ae.app w k else 0)-(if ae.app (ae.inv ys) k<(i:Int)then ae.app w (ae.app (ae.inv ys) k)else 0)
 |0,_=>by
  have:=ty.jY k0 k1;unfold iU;rw[LN,if_neg ⋯,if_neg ⋯];rfl
 |i+1,hi=>by
  have i0:(0:Int)<=(i:Int):=by lk
  have i1:(i:Int)<(n:Int):=by lk
  have hb:=ty.jY k0 k1;have hx:=tx.app i0 i1;have hk:k=ae.app ys (i:Int)↔ae.app (ae.inv ys) k=(i:Int):=⟨λh=>by rw[h];exact ty.bg i0 i1,λh=>by rw[<- h];exact(ty.a9 k0 k1).symm⟩;unfold iU;rw[Ut tx ty (IL xs ys n w i) i0 i1 k0,Uu tx ty k0 k1 i ⋯,if_neg (show ¬k=(n:Int)+ae.app xs (i:Int) by lk),if_neg (show ¬k=(n:Int)+(i:Int) by lk)];generalize ae.app (ae.inv ys) k=y at hb hk;have e1:(if k<((i+1:Nat):Int)then ae.app w k else 0)=(if k<(i:Int)then ae.app w k else 0)+(if k=(i:Int)then ae.app w (i:Int)else 0):=by
   by_cases h:k=(i:Int);rw[h,if_pos ⋯,if_neg ⋯,if_pos rfl];lk;rw[if_neg h];by_cases h2:k<(i:Int);rw[if_pos h2,if_pos ⋯];lk;rw[if_neg h2,if_neg ⋯];rfl
  have e2:(if y<((i+1:Nat):Int)then ae.app w y else 0)=(if y<(i:Int)then ae.app w y else 0)-(if k=ae.app ys (i:Int)then -ae.app w (i:Int)else 0):=by
   by_cases h:y=(i:Int);rw[if_pos (hk.mpr h),h,if_pos ⋯,if_neg ⋯];lk;rw[if_neg (λz=>h (hk.mp z))];by_cases h2:y<(i:Int);rw[if_pos h2,if_pos ⋯];lk;rw[if_neg h2,if_neg ⋯];rfl
  rw[e1,e2];lk
def Uv{xs ys w:List Int}{n:Nat}(tx:ae.Tn n xs)(ty:ae.Tn n ys){k:Int}(k0:0<=k)(k1:k<(n:Int)):∀i:Nat,i<=n->ae.app (iU xs ys n w i) ((n:Int)+k)=(if ae.app (ae.inv xs) k<(i:Int)then ae.app w (ae.app (ae.inv xs) k)else 0)-(if k<(i:Int)then ae.app w k else 0)
 |0,_=>by
  have:=tx.jY k0 k1;unfold iU;rw[LN,if_neg ⋯,if_neg ⋯];rfl
 |i+1,hi=>by
  have i0:(0:Int)<=(i:Int):=by lk
  have i1:(i:Int)<(n:Int):=by lk
  have hb:=tx.jY k0 k1;have hy:=ty.app i0 i1;have hk:(n:Int)+k=(n:Int)+ae.app xs (i:Int)↔ae.app (ae.inv xs) k=(i:Int):=⟨λh=>by rw[show k=ae.app xs (i:Int) by lk];exact tx.bg i0 i1,λh=>by rw[<- h,tx.a9 k0 k1]⟩;unfold iU;rw[Ut tx ty (IL xs ys n w i) i0 i1 ⋯,Uv tx ty k0 k1 i ⋯,if_neg (show ¬(n:Int)+k=(i:Int) by lk),if_neg (show ¬(n:Int)+k=ae.app ys (i:Int) by lk)];generalize ae.app (ae.inv xs) k=y at hb hk;have e1:(if k<((i+1:Nat):Int)then ae.app w k else 0)=(if k<(i:Int)then ae.app w k else 0)-(if(n:Int)+k=(n:Int)+(i:Int)then -ae.app w (i:Int)else 0):=by
   by_cases h:k=(i:Int);rw[h,if_pos ⋯,if_neg ⋯,if_pos rfl];lk;rw[if_neg (show ¬(n:Int)+k=(n:Int)+(i:Int) by lk)];by_cases h2:k<(i:Int);rw[if_pos h2,if_pos ⋯];lk;rw[if_neg h2,if_neg ⋯];rfl
  have e2:(if y<((i+1:Nat):Int)then ae.app w y else 0)=(if y<(i:Int)then ae.app w y else 0)+(if(n:Int)+k=(n:Int)+ae.app xs (i:Int)then ae.app w (i:Int)else 0):=by
   by_cases h:y=(i:Int);rw[if_pos (hk.mpr h),h,if_pos ⋯,if_neg ⋯];lk;rw[if_neg (λz=>h (hk.mp z))];by_cases h2:y<(i:Int);rw[if_pos h2,if_pos ⋯];lk;rw[if_neg h2,if_neg ⋯];rfl
  rw[e1,e2];lk
abbrev kF(xs ys:List Int)(n:Nat)(w:List Int):List Int:=iU xs ys n w n
def LO(xs ys:List Int)(n:Nat)(w:List Int):(kF xs ys n w).length=2*n:=IL xs ys n w n
def LP{xs ys w:List Int}{n:Nat}(tx:ae.Tn n xs)(ty:ae.Tn n ys){k:Int}(k0:0<=k)(k1:k<(n:Int)):ae.app (kF xs ys n w) k=ae.app w k-ae.app w (ae.app (ae.inv ys) k):=by have hb:=ty.jY k0 k1;unfold kF;rw[Uu tx ty k0 k1 n (Zab _),if_pos k1,if_pos hb.2]
def LQ{xs ys w:List Int}{n:Nat}(tx:ae.Tn n xs)(ty:ae.Tn n ys){k:Int}(k0:0<=k)(k1:k<(n:Int)):ae.app (kF xs ys n w) ((n:Int)+k)=ae.app w (ae.app (ae.inv xs) k)-ae.app w k:=by have hb:=tx.jY k0 k1;unfold kF;rw[Uv tx ty k0 k1 n (Zab _),if_pos k1,if_pos hb.2]
def xcO{xs ys w:List Int}{n:Nat}(tx:ae.Tn n xs)(ty:ae.Tn n ys){s:Int}(s0:0<=s)(s1:s<(n:Int)){j:Nat}(hj:j<4):lh j*ae.app (kF xs ys n w) (hU xs ys n s j)=ae.app w s-ae.app w (bS xs ys s j):=by
 have hx:=tx.app s0 s1;have hy:=ty.app s0 s1;have c:j=0\/j=1\/j=2\/j=3:=by lk
 rcases c with rfl|rfl|rfl|rfl
 show 1*ae.app (kF xs ys n w) ((n:Int)+ae.app xs s)=_;rw[LQ tx ty hx.1 hx.2,tx.bg s0 s1];show 1*(_-_)=_-ae.app w (ae.app xs s);lk;show -1*ae.app (kF xs ys n w) (ae.app ys s)=_;rw[LP tx ty hy.1 hy.2,ty.bg s0 s1];show -1*(_-_)=_-ae.app w (ae.app ys s);lk;show -1*ae.app (kF xs ys n w) ((n:Int)+s)=_;rw[LQ tx ty s0 s1];show -1*(_-_)=_-ae.app w (ae.app (ae.inv xs) s);lk;show 1*ae.app (kF xs ys n w) s=_;rw[LP tx ty s0 s1];show 1*(_-_)=_-ae.app w (ae.app (ae.inv ys) s);lk
def OY{xs ys w:List Int}{n:Nat}(tx:ae.Tn n xs)(ty:ae.Tn n ys):∀(js:List Nat) {s:Int},0<=s->s<(n:Int)->(∀j∈js,j<4)->ny xs ys n (kF xs ys n w) s js=ae.app w s-ae.app w (dH xs ys s js)
 |[],s,_,_,_=>by show(0:Int)=_-ae.app w s;lk
 |j :: js,s,s0,s1,hj=>by
  have hb:=ug (j:=j) tx ty s0 s1;show lh j*ae.app (kF xs ys n w) (hU xs ys n s j)+ny xs ys n (kF xs ys n w) (bS xs ys s j) js=_-ae.app w (dH xs ys (bS xs ys s j) js);rw[xcO tx ty s0 s1 (hj j Zaf),OY tx ty js hb.1 hb.2 λi hi=>hj i (Zah _ hi)];lk
def ydq(xs ys:List Int)(n:Nat)(sm:List Int):(vI xs ys n sm).length=n:=by unfold vI;rw[Zaa,ZbK]
def LR{xs ys sm:List Int}{n:Nat}{s:Int}(s0:0<=s)(s1:s<(n:Int)):ae.app (vI xs ys n sm) s=-(ny xs ys n sm 0 (p6 xs ys n s)):=by unfold vI ae.app;rw[Zau,Zaj,Zbw ⋯];show -(ny xs ys n sm 0 (p6 xs ys n ((s.toNat:Nat):Int)))=_;rw[Zat s0]
def Uw{xs ys sm:List Int}{n:Nat}(h:∀k,k<2*n->bad xs ys n sm k=false){s:Int}(s0:0<=s)(s1:s<(n:Int)){j:Nat}(hj:j<2):ny xs ys n sm 0 (mD xs ys n s j)=0:=by
 have:=h (2*s.toNat+j) ⋯;unfold bad at this;rw[show(2*s.toNat+j) / 2=s.toNat by lk,show(2*s.toNat+j) % 2=j by lk,Zat s0]at this
 simpa using this
def Ux{xs ys sm:List Int}{n:Nat}(fl:qH n xs ys)(n1:1<=n)(hn:n<=8)(hm:sm.length=2*n)(h:∀k,k<2*n->bad xs ys n sm k=false):kF xs ys n (vI xs ys n sm)=sm:=by
 have tx:=fl.1;have ty:=fl.2.1;refine ae.Am (LO _ _ _ _) hm λk k0 k1=>?_;by_cases hk:k<(n:Int);have hb:=ty.jY k0 hk;have e:=Uw h hb.1 hb.2 (j:=1) ∅;rw[Ur fl n1 hn hb.1 hb.2 ∅]at e;rw[LP tx ty k0 hk,LR k0 hk,LR hb.1 hb.2];have e1:bS xs ys (ae.app (ae.inv ys) k) 1=k:=ty.a9 k0 hk;have e2:hU xs ys n (ae.app (ae.inv ys) k) 1=k:=ty.a9 k0 hk;rw[e1,e2]at e;have e3:lh 1=-1:=rfl;rw[e3]at e;lk;obtain⟨m,rfl⟩:∃m:Int,k=(n:Int)+m:=⟨k-n,by lk⟩;have m0:0<=m:=by lk
 have m1:m<(n:Int):=by lk
 have hb:=tx.jY m0 m1;have e:=Uw h hb.1 hb.2 (j:=0) ∅;rw[Ur fl n1 hn hb.1 hb.2 ∅]at e;rw[LQ tx ty m0 m1,LR m0 m1,LR hb.1 hb.2];have e1:bS xs ys (ae.app (ae.inv xs) m) 0=m:=tx.a9 m0 m1;have e2:hU xs ys n (ae.app (ae.inv xs) m) 0=(n:Int)+m:=by show(n:Int)+ae.app xs _=_;rw[tx.a9 m0 m1]
 rw[e1,e2]at e;have e3:lh 0=1:=rfl;rw[e3]at e;lk
def Yc4{xs ys w:List Int}{n:Nat}(fl:qH n xs ys)(n1:1<=n)(hn:n<=8):∀k,k<2*n->bad xs ys n (kF xs ys n w) k=false:=λk hk=>by
 have s0:(0:Int)<=((k / 2:Nat):Int):=by lk
 have s1:((k / 2:Nat):Int)<(n:Int):=by lk
 have hz:(0:Int)<(n:Int):=by lk
 obtain⟨r1,r2,r3⟩:=LL fl n1 hn s0 s1 (ZcD k ∅);unfold bad;rw[OY fl.1 fl.2.1 _ (ZaS 0) hz r1,r2,Int.sub_self];decide
def Uy{st1:Store}{r:Nat}{L:List Int}{k v:Int}(h:st1[r]?=some (.lst (L.map D.int)))(k0:0<=k)(k1:k<(L.length:Int)):lS (L.map D.int).length k=some k.toNat:=by
 have:=ye (n:=(L.map D.int).length) (j:=k.toNat) (by rw[Zaa];lk)
 rwa [Zat k0]at this
abbrev Wis(st:Store)(d:D)(w:List Int):Prop:=d=.tup (w.map D.int)\/∃r,d=.ref r/\st[r]?=some (.lst (w.map D.int))
def OZ{st:Store}{xs ys w:List Int}{n:Nat}{dw:D}(tx:ae.Tn n xs)(ty:ae.Tn n ys)(hn:n<=100)(hw:w.length=n)(hd:Wis st dw w):Wp (BD [bJ xs ys,dw] st) λd st'=>d=.tup ((kF xs ys n w).map D.int)/\Ex [] st st':=by
 have hlx:=tx.length;refine mM ?_;show Ws (K0 [some (bJ xs ys),some dw,none,none,none,none,none,none] st) _ _ _ _;unfold K0;refine aO (bt ?_);exists _,Z,show bJ xs ys=.tup [.tup (xs.map D.int),.tup (ys.map D.int)]from rfl;rw[Zaa,hlx];refine Z _ _ (aO (bt ?_));k_lt2 Z;rw[show(2*(n:Int)).toNat=2*n by lk,rep0,show(st ++ [O.lst [D.int 0]]).length=st.length+1 by simp];have hg:(st ++ [O.lst [D.int 0]] ++ [O.lst ((List.replicate (2*n) (0:Int)).map D.int)])[st.length+1]?=some (.lst ((iU xs ys n w 0).map D.int)):=by
  rw[show st.length+1=(st ++ [O.lst [D.int 0]]).length by simp];exact jW
 refine⟨rfl,.inl ⟨by decide,by decide⟩,⟨by lk,by lk⟩,i9 (by rw[ZaC];lk),Z _ _ (aO (Y9 (iI (w.map D.int)) (λi δ s2=>∃v4 v5 v6 v7:Option D,δ=[some (bJ xs ys),some dw,some (.int (n:Int)),some (.ref (st.length+1)),v4,v5,v6,v7]/\s2[st.length+1]?=some (.lst ((iU xs ys n w i).map D.int))/\Ex [] st s2) ?_ (by rw[uw,Zaa];lk) ?_ ?_))⟩;clear Z;have kk:Ex [] st (st ++ [O.lst [D.int 0]] ++ [O.lst ((List.replicate (2*n) (0:Int)).map D.int)]):=(Ex.cE _).app _;refine Za ?_;k_lt Z;refine Z _ _ ?_;rcases hd with rfl|⟨r,rfl,hr⟩
 exact .inl ⟨_,rfl,λi δ s hi _=>By hi,none,none,none,none,rfl,hg,kk⟩;refine .inr ⟨r,w.map D.int,rfl,fS (kk.keep _ _ hr (by simp)),λi δ s hi hp=>?_,none,none,none,none,rfl,hg,kk⟩;obtain⟨_,_,_,_,_,_,hE⟩:=hp;exact Bx (fS (hE.keep _ _ hr (by simp))) hi;clear Z;rintro i d δ s2 hd' ⟨v4,v5,v6,v7,rfl,hL,k2⟩;obtain⟨d',hd2,rfl⟩:=AJ hd';obtain⟨x,hx,rfl⟩:=CT hd2;have hi:i<n:=by have:=eY hx;lk
 have i0:(0:Int)<=(i:Int):=by lk
 have i1:(i:Int)<(n:Int):=by lk
 have ex:ae.app w (i:Int)=x:=by
  unfold ae.app;rw[Zau,Zae,hx];rfl
 have hbx:=tx.app i0 i1;have hby:=ty.app i0 i1;have BK:=ty.length;k_lt Z;refine⟨rfl,Z _ _ ?_⟩;clear Z;have Uz:=IL xs ys n w i;generalize hR:iU xs ys n w i=R at hL Uz
 let ps:List (Int×Int):=[((i:Int),1),((n:Int)+ae.app xs (i:Int),1),(ae.app ys (i:Int),-1),((n:Int)+(i:Int),-1)]
 have hps:∀p∈ps,0<=p.1/\p.1<((2*n:Nat):Int)/\(p.2=1\/p.2=-1):=by
  intro p hp;simp only[ps,Zar,ZaW,or_false]at hp;rcases hp with rfl|rfl|rfl|rfl
  exact⟨i0,by lk,.inl rfl⟩;exact⟨by lk,by lk,.inl rfl⟩;exact⟨hby.1,by lk,.inr rfl⟩;exact⟨by lk,by lk,.inr rfl⟩
 refine lA (ps.map λp=>D.tup [.int p.1,.int p.2]) (λj δ s3=>∃v6 v7:Option D,δ=[some (bJ xs ys),some dw,some (.int (n:Int)),some (.ref (st.length+1)),some (.int (i:Int)),some (.int x),v6,v7]/\s3[st.length+1]?=some (.lst (((ps.take j).foldl (λL p=>upd L p.1 (p.2*x)) R).map D.int))/\Ex [] st s3) ?_ (show 4<100000 by decide) ?_ ?_;exists _,Z,show bJ xs ys=.tup [.tup (xs.map D.int),.tup (ys.map D.int)]from rfl,mE (xs:=xs) i0 ⋯,mE (xs:=ys) i0 ⋯;exact⟨rfl,rfl,rfl,rfl,rfl,Z _ _ ⟨rfl,_,_,rfl,hL,k2⟩⟩;rintro j d δ s3 UA ⟨v6,v7,rfl,uA,k3⟩;rw[Zaj]at UA;obtain⟨p,hp,rfl⟩:=Zax.mp UA;obtain⟨b0,b1,b2⟩:=hps p (Zas hp);have hjl:=eY hp;have et:ps.take (j+1)=ps.take j ++ [p]:=by
  rw[List.take_succ,hp];rfl
 have hTl:((ps.take j).foldl (λL p=>upd L p.1 (p.2*x)) R).length=2*n:=by
  have:∀(l:List (Int×Int)) (L:List Int),(l.foldl (λL p=>upd L p.1 (p.2*x)) L).length=L.length:=by
   intro l
   induction l with
   |nil=>intro L;rfl
   |cons q l ih=>intro L;rw[List.foldl_cons,ih,vH]
  rw[this,Uz]
 rw[et,ZaR];generalize (ps.take j).foldl (λL p=>upd L p.1 (p.2*x)) R=U at uA hTl ⊢;k_lt Z;refine⟨rfl,Z _ _ (rX ?_)⟩;clear Z;exists _,Z,fS uA,mE (xs:=U) b0 ⋯;refine⟨.inl ⋯,Z _ _ ?_⟩;clear Z;exists _,Z,mX uA;refine⟨_,Uy (v:=0) uA b0 ⋯,Z _ _ ⟨_,_,rfl,?_,k3.loc ⋯⟩⟩;rw[Zag (eY uA),OU];rfl;rintro δ s3 ⟨v6,v7,rfl,uA,k3⟩;refine⟨_,_,_,_,rfl,?_,k3⟩;rw[uA];show some (O.lst _)=some (O.lst ((uh xs ys n (iU xs ys n w i) (i:Int) (ae.app w (i:Int))).map D.int));rw[hR,ex];rfl;clear Z;rintro δ s2 ⟨v4,v5,v6,v7,rfl,hL,k2⟩;rw[uw,Zaa,hw]at hL;refine cZ ?_;exists _,Z,fS hL;exact Z _ _ ⟨rfl,k2⟩
abbrev y4(xs ys:List Int)(n:Nat)(js:List Nat):List Int:=js.foldl (λg j=>ae.nF g (stepT xs ys j)) (ae.upto n)
def O0{n:Nat}{xs ys:List Int}(tx:ae.Tn n xs)(ty:ae.Tn n ys):∀(js:List Nat) (g:List Int),ae.Tn n g->ae.Tn n (js.foldl (λg j=>ae.nF g (stepT xs ys j)) g)/\∀s:Int,0<=s->s<(n:Int)->ae.app (js.foldl (λg j=>ae.nF g (stepT xs ys j)) g) s=dH xs ys (ae.app g s) js
 |[],g,tg=>⟨tg,λs _ _=>rfl⟩
 |j :: js,g,tg=>by
  obtain⟨h1,h2⟩:=O0 tx ty js (ae.nF g (stepT xs ys j)) (tg.nF (BO tx ty j));refine⟨h1,λs s0 s1=>?_⟩;show ae.app (js.foldl (λg j=>ae.nF g (stepT xs ys j)) (ae.nF g (stepT xs ys j))) s=dH xs ys (bS xs ys (ae.app g s) j) js;rw[h2 s s0 s1,ae.u3 s0 (by rw[tg.length];exact s1),yU]
def UB{n:Nat}{xs ys:List Int}(tx:ae.Tn n xs)(ty:ae.Tn n ys)(js:List Nat):ae.Tn n (y4 xs ys n js):=(O0 tx ty js (ae.upto n) (Zbl _)).1
def Xca{n:Nat}{s:Int}(s0:0<=s)(s1:s<(n:Int)):ae.app (ae.upto n) s=s:=by unfold ae.app;rw[Zau,ae.Cz ⋯,Option.getD_some];lk
def Zdq{n:Nat}{xs ys:List Int}(tx:ae.Tn n xs)(ty:ae.Tn n ys)(js:List Nat){s:Int}(s0:0<=s)(s1:s<(n:Int)):ae.app (y4 xs ys n js) s=dH xs ys s js:=by have:=(O0 tx ty js (ae.upto n) (Zbl _)).2 s s0 s1;rw[Xca s0 s1]at this;exact this
abbrev rep(k:Nat)(js:List Nat):List Nat:=(List.replicate k js).flatten
def O1(k:Nat)(js:List Nat):rep (k+1) js=rep k js ++ js:=by unfold rep;rw[Zbr,List.flatten_append];simp
def UC(k:Nat)(js:List Nat):(rep k js).length=k*js.length:=by
 induction k with
 |zero=>simp[rep]
 |succ k ih=>rw[O1,Zak,ih,ZbV]
def Ydq{k:Nat}{js:List Nat}(h:∀j∈js,j<4):∀j∈rep k js,j<4:=λj hj=>by
 unfold rep at hj;obtain⟨l,hl,hj⟩:=List.mem_flatten.mp hj;rw[(ZbS.mp hl).2]at hj;exact h j hj
def UD{n:Nat}{xs ys:List Int}(tx:ae.Tn n xs)(ty:ae.Tn n ys)(js:List Nat){s:Int}(s0:0<=s)(s1:s<(n:Int)):∀k,dH xs ys s (rep k js)=ae.aJ (y4 xs ys n js) s k
 |0=>rfl
 |k+1=>by
  have hb:=(UB tx ty js).aJ s0 s1 k;rw[O1,tK,UD tx ty js s0 s1 k];show _=ae.app (y4 xs ys n js) (ae.aJ (y4 xs ys n js) s k);rw[Zdq tx ty js hb.1 hb.2]
def zcb{st:Store}{f:Nat}{most:Int}(hf:aM st f)(m0:0<=most)(m1:most<=60):Wp (KY [.ref f,.int most] st) λd st'=>∃js:List Nat,d=.str (ax js)/\(∀j∈js,j<4)/\(js.length:Int)<=most/\aM st' f/\Ex [f] st st':=by
 refine mM ?_;show Ws (Hc [some (.ref f),some (.int most)] st) _ _ _ _;unfold Hc;refine cZ ?_;k_lt Z;refine⟨rfl,?_⟩;obtain⟨d0,wJ,e0,ct,rfl,ct0,ct1,f7,k7'⟩:=qP (n:=most+1) hf ⋯ ⋯;refine N9 (aF 0 ct.toNat) (λ_ d=>∃j:Nat,j<4/\d=.str (sO [iT j])) (λs'=>aM s' f/\Ex [f] wJ s') ?_ (by rw[gh];lk) ?_ ?_;k_lt cH;refine⟨_,_,e0,?_⟩;exact⟨_,rfl,by lk,cH _ _ ⟨λi st2 hi h=>vW _ st2 i st2 hi Ex.refl,f7,Ex.refl⟩⟩;intro i' d hd' s' ⟨fs,ks⟩;exists _,cH,Zav,Za3,Zbc,Zbd;refine aR (qP (n:=4) fs ∅ ∅) ?_;rintro d s2' ⟨c',rfl,c0',c1',IP,IQ⟩;obtain⟨j,hj,ej⟩:=rlud c0' c1';exists SK,ej;exact⟨by decide,cH _ _ ⟨⟨j,hj,rfl⟩,IP,ks.trans IQ⟩⟩;intro zs lg ⟨f8,k8⟩ EH hz;rw[gh]at EH;obtain⟨js,BW,ez⟩:=zdq hz;have hjl:(js.length:Int)<=most:=by
  have:zs.length=js.length:=by rw[ez,Zaa,Zaa]
  lk
 rw[ez,Ui (js:=js) vV ⋯];exact Z _ _ ⟨js,rfl,BW,hjl,f8.keep (Ex.cE _),(k7'.trans k8).app _⟩
def xc4(js:List Nat):ax js=Str.ofString "" ↔ js=[]:=by
 constructor;intro h;cases js with
 |nil=>rfl
 |cons j r =>
  have:=congrArg Str.length h;rw[tJ,Zaz]at this;have h2:(Str.ofString "").length=0:=rfl;lk
 rintro rfl;rfl
def ycb{st:Store}{xs ys:List Int}{n f:Nat}{s:Int}(hf:aM st f)(tx:ae.Tn n xs)(ty:ae.Tn n ys)(hn:n<=8)(s0:0<=s)(s1:s<(n:Int)):Wp (KZ [.ref f,bJ xs ys,.int s] st) λd st'=>∃js:List Nat,d=.str (ax js)/\(∀j∈js,j<4)/\js.length<=56/\dH xs ys s js=s/\aM st' f/\Ex [f] st st':=by
 refine mM ?_;show Ws (Hh [some (.ref f),some (bJ xs ys),some (.int s),none,none,none,none] st) _ _ _ _;unfold Hh;refine aO (bt ?_);k_lt Z;refine aR (zcb (most:=7) hf ∅ ∅) ?_;rintro d st1 ⟨js,rfl,hj,hjl,f1,k1⟩;refine Z _ _ (aO (Fv ?_));k_lt2 Z;have hgt:=UB tx ty js;refine Z _ _ ⟨_,_,rfl,aO (Ba (λm δ s2=>∃(k:Nat) (v6:Option D),m=n-k/\k<=n/\δ=[some (.ref f),some (bJ xs ys),some (.int s),some (.str (ax js)),some (.str (ax (rep k js))),some (.int (dH xs ys s (rep k js))),v6]/\ae.NB (y4 xs ys n js) s (k-1)/\aM s2 f/\Ex [f] st s2) n (Za1 hn ∅) ⟨0,none,rfl,ZaZ _,rfl,λj h1 h2=>by lk,f1,k1⟩ ?_)⟩;clear Z;rintro m δ s2 ⟨k,v6,rfl,hkn,rfl,nb,f2,k2⟩;have hrl:(rep k js).length<=56:=by
  rw[UC];exact Zaw (Zce (Zaw hkn hn) (show js.length<=7 by lk)) ∅
 have hrm:=Ydq (k:=k) hj;obtain⟨w0,w1⟩:=Dh tx ty (rep k js) s0 s1;have hwr:=UD tx ty js s0 s1 k
 have hstep:∀B C:ai->Store->Prop,(ax (rep k js)=Str.ofString "" \/ dH xs ys s (rep k js)≠s)->Ws ((aq (ay (ao kX (ag 4) (ag 3)) (hName 4))
 (aq (bY (mN (ag 3)) (hName 6) (ay (aK Hf (af (ag 1) (af (ag 5) (af (ag 6) ah)))) (hName 5)))
 (iF (aI (ao (iG false) (ag 3) (fC (.str "")))) (aQ (fC (.str ""))) bx))) [some (.ref f),some (bJ xs ys),some (.int s),some (.str (ax js)),some (.str (ax (rep k js))),some (.int (dH xs ys s (rep k js))),v6] s2) (λδ s3=>∃m',m' < n-k/\∃(k:Nat) (v6:Option D),m'=n-k/\k<=n/\δ=[some (.ref f),some (bJ xs ys),some (.int s),some (.str (ax js)),some (.str (ax (rep k js))),some (.int (dH xs ys s (rep k js))),v6]/\ae.NB (y4 xs ys n js) s (k-1)/\aM s3 f/\Ex [f] st s3) B C (λd st'=>∃js:List Nat,d=.str (ax js)/\(∀j∈js,j<4)/\js.length<=56/\dH xs ys s js=s/\aM st' f/\Ex [f] st st'):=by
  intro B C hc;refine aO (bt ?_);exists _,Z,Bv,BV,tJ;refine⟨i9 ⋯,Z _ _ (aO (lA (js.map λj=>.str (bu j)) (λi δ s3=>∃v6:Option D,δ=[some (.ref f),some (bJ xs ys),some (.int s),some (.str (ax js)),some (.str (ax (rep k js ++ js))),some (.int (dH xs ys (dH xs ys s (rep k js)) (js.take i))),v6]/\aM s3 f/\Ex [f] st s3) ?_ (by rw[Zaa];lk) ?_ ?_))⟩;clear Z;exists _,Z,CV;rw[Dg js hj,tJ];exact⟨by lk,Z _ _ ⟨rfl,v6,rfl,f2,k2⟩⟩;clear Z;rintro i d δ s3 hd ⟨v6,rfl,f3,k3⟩;obtain⟨hi,ej⟩:=Zad.mp hd;rw[Zaa]at hi;rw[Zco]at ej;subst ej;have sH:js[i]<4:=hj _ (Zb0 hi);obtain⟨y0,y1⟩:=Dh tx ty (js.take i) w0 w1;k_lt Z;refine Z _ _ (bt ?_);k_lt2 Z;refine aR (Zb9 tx ty y0 y1 sH) ?_;rintro d s4 ⟨rfl,k4⟩;refine Z _ _ ⟨some (.str (bu js[i])),?_,f3.keep k4,k3.trans k4.any⟩;rw[ZaD hi,tK];rfl;clear Z;rintro δ s3 ⟨v6,rfl,f3,k3⟩;rw[Zaa,Za8,<- tK,<- O1];refine gi ?_;k_lt Z;refine Z _ _ ⟨λ_=>cZ ?_,λhne=>jb ?_⟩;k_lt2 Z;exact Z _ _ ⟨[],rfl,(λj hj=>nomatch hj),by simp,rfl,f3,k3⟩;have hne:js≠[]:=λh=>by
   rw[h]at hne;exact absurd hne ∅
  have IA:ae.NB (y4 xs ys n js) s k:=by
   rcases hc with hc|hc
   have hk0:k=0:=by
    rw[xc4]at hc;have hl:=UC k js;rw[hc]at hl;rcases Nat.mul_eq_zero.mp hl.symm with h|h
    exact h;exact absurd (ZaY h) hne
   rw[hk0];exactλj h1 h2=>by lk
   rw[hwr]at hc;intro j h1 h2;by_cases hjk:j<=k-1;exact nb j h1 hjk
   have:j=k:=by lk
   rw[this];exact hc
  have hle:=hgt.oa s0 s1 IA;exact⟨n-(k+1),by lk,k+1,v6,rfl,by lk,rfl,IA,f3,k3⟩
 refine bA ?_;intro qOr;intro Z;w_how;refine FN (R:=λb=>qOr b s2) (Z _ _ ⟨λh=>hstep _ _ ?_,λh=>?_⟩);rcases ZbH _ _ |>.mp h with h|h
 exact .inl (of_decide_eq_true h);exact .inr (by simpa using h);obtain⟨_,h2⟩:=Bool.or_eq_false_iff.mp h;refine cZ ?_;k_lt2 Z;exact Z _ _ ⟨rep k js,rfl,hrm,hrl,by simpa using h2,f2,k2⟩
def xcr{st:Store}{xs ys:List Int}{n:Nat}(tx:ae.Tn n xs)(ty:ae.Tn n ys)(hn:n<=100):Wp (Lm [bJ xs ys] st) λd st'=>d=.tup ((ae.mD xs ys).map D.int)/\Ex [] st st':=by have hlx:=tx.length;have BK:=ty.length;have ix:=tx.bQ;have iy:=ty.bQ;refine mM ?_;show Ws (Ie [some (bJ xs ys),none,none,none] st) _ _ _ _;unfold Ie bJ;refine aO (bt ?_);k_lt Z;refine Z _ _ (aO (bt ?_));k_lt2 Z;refine Z _ _ (aO (bt ?_));k_lt2 Z;refine aR (Iz tx hn) ?_;rintro d st1 ⟨rfl,k1⟩;refine aR (Iz ty hn) ?_;rintro d st2 ⟨rfl,k2⟩;refine aR (Ly (xs:=ae.inv xs) (ys:=ae.inv ys) (λx hx=>by rw[iy.length];exact ix.bound hx) (by rw[ix.length];lk)) ?_;rintro d st3 ⟨rfl,k3⟩;refine Z _ _ (cZ ?_);k_lt2 Z;refine aR (Ly (xs:=xs) (ys:=ys) (λx hx=>by rw[BK];exact tx.bound hx) ⋯) ?_;rintro d pS ⟨rfl,k4⟩;refine aR (Ly (xs:=ae.nF xs ys) (ys:=ae.nF (ae.inv xs) (ae.inv ys)) (λx hx=>by rw[ae.ER,ix.length];exact(tx.nF ty).bound hx) (by rw[ae.ER];lk)) ?_;rintro d mG ⟨rfl,k5⟩;exact Z _ _ ⟨rfl,(((k1.trans k2).trans k3).trans k4).trans k5⟩
def Dl{st:Store}{xs ys:List Int}{Q:D->Store->Prop}:Wp (av (bJ xs ys) (.int 0) st) Q↔Q (.tup (xs.map D.int)) st:=bz
def xbZ{st:Store}{xs ys:List Int}{n:Nat}(tx:ae.Tn n xs)(ty:ae.Tn n ys)(hn:n<=100):Wp (Lo [bJ xs ys] st) λd st'=>∃rs:List (List Int),d=N5 rs/\ae.pg (ae.mD xs ys) (ae.upto n) rs/\(∀r∈rs,r.length<=n/\∀x∈r,0<=x/\x<(n:Int))/\rs.length<=n/\Ex [] st st':=by refine mM ?_;show Ws (Ih [some (bJ xs ys)] st) _ _ _ _;unfold Ih;refine cZ ?_;k_lt Z;refine aR (xcr tx ty hn) ?_;rintro d st1 ⟨rfl,k1⟩;refine aR (TQ (tx.mD ty) hn) ?_;rintro d st2 ⟨rs,rfl,hr,hb,hl,k2⟩;exact Z _ _ ⟨rs,rfl,hr,hb,hl,k1.trans k2⟩
abbrev tI(l:List Int):D:=.tup (l.map D.int)
def ycP{st:Store}{xs ys:List Int}{n:Nat}(tx:ae.Tn n xs)(ty:ae.Tn n ys)(hn:n<=100):Wp (Lp [bJ xs ys] st) λd st'=>∃N:List Int,d=.tup (N.map D.int)/\N.length=n/\(∃rs:List (List Int),ae.pg (ae.mD xs ys) (ae.upto n) rs/\rs.length<=n/\∀(i:Nat) (r:List Int),rs[i]?=some r->∀x∈r,N[x.toNat]?=some (i:Int))/\Ex [] st st':=by
 have hlx:=tx.length;have tr:=tx.mD ty;refine mM ?_;show Ws (Ij [some (bJ xs ys),none,none,none,none] st) _ _ _ _;unfold Ij;refine aO (bt ?_);k_lt Z;refine⟨rfl,?_⟩;rw[Dl];have hO:own (st ++ [O.lst [D.int 0]]) st.length=some [D.int 0]:=Kk;have kO:Ex [] st (st ++ [O.lst [D.int 0]]):=Ex.cE _;generalize (st ++ [O.lst [D.int 0]])=s1 at hO kO ⊢;refine⟨xs.map D.int,rfl,_,hO,?_⟩;rw[Zaa,hlx,Zae,rep0];refine⟨by lk,i9 (by simp;lk),Z _ _ ?_⟩;clear Z;have hls:st.length<=s1.length:=kO.len;have O2:(s1 ++ [O.lst ((List.replicate n (0:Int)).map D.int)])[s1.length]?=some (.lst ((List.replicate n (0:Int)).map D.int)):=jW;have kN:Ex [] st (s1 ++ [O.lst ((List.replicate n (0:Int)).map D.int)]):=kO.app _;generalize (s1 ++ [O.lst ((List.replicate n (0:Int)).map D.int)])=s2 at O2 kN ⊢;generalize s1.length=rn at hls O2 ⊢;obtain⟨d0,s0,eC,rs,rfl,hr,hb,hl,k0⟩:=xbZ (st:=s2) tx ty hn;have rw':=hr.rw tr;have hnd:=hr.nodup tr;have e0:N5 rs=D.tup (rs.map tI):=rfl;have hN1:=k0.keep _ _ O2 (by simp);refine aO (lA (iI (rs.map tI)) (λk δ s=>∃(v2 v3 v4:Option D) (N:List Int),δ=[some (bJ xs ys),some (.ref rn),v2,v3,v4]/\s[rn]?=some (.lst (N.map D.int))/\N.length=n/\(∀(i:Nat) (r:List Int),i<k->rs[i]?=some r->∀x∈r,N[x.toNat]?=some (i:Int))/\Ex [] st s) ?_ (by rw[uw,Zaa];lk) ?_ ?_);k_lt Z;exact⟨_,s0,eC,rs.map tI,rfl,Z _ _ ⟨rfl,_,_,_,List.replicate n 0,rfl,hN1,by simp,λi r h=>by lk,kN.trans k0⟩⟩;rintro k d δ s hd ⟨v2,v3,v4,N,rfl,hs,tL,hin,ks⟩;obtain⟨d',hd',rfl⟩:=AJ hd;obtain⟨r,hrk,rfl⟩:∃r,rs[k]?=some r/\d'=tI r:=by
  rw[Zaj]at hd';obtain⟨l,h1,h2⟩:=Zax.mp hd';exact⟨l,h1,h2.symm⟩
 have ar:=rw' r (Zas hrk);have UE:=ar.bound tr;have rln:=ar.len tr;unfold tI;k_lt Z;refine⟨rfl,Z _ _ (lA (r.map D.int) (λj δ s=>∃(v4:Option D) (N:List Int),δ=[some (bJ xs ys),some (.ref rn),some (.int (k:Int)),some (.tup (r.map D.int)),v4]/\s[rn]?=some (.lst (N.map D.int))/\N.length=n/\(∀(i:Nat) (r:List Int),i<k->rs[i]?=some r->∀x∈r,N[x.toNat]?=some (i:Int))/\(∀(i:Nat) (x:Int),i<j->r[i]?=some x->N[x.toNat]?=some (k:Int))/\Ex [] st s) ?_ (by rw[Zaa];lk) ?_ ?_)⟩;k_lt2 Z;exact Z _ _ ⟨rfl,_,N,rfl,hs,tL,hin,λi x h=>by lk,ks⟩;rintro j d δ s hd ⟨v4,N,rfl,hs,tL,hin,hjn,ks⟩;obtain⟨x,hx,rfl⟩:=CT hd;have B1:=Zas hx;obtain⟨x0,x1⟩:=UE x B1;have hix:lS (N.map D.int).length x=some x.toNat:=by
  have:=ye (n:=(N.map D.int).length) (j:=x.toNat) (by rw[Zaa];lk)
  rwa [Zat x0]at this
 have es:(N.map D.int).set x.toNat (.int (k:Int))=(N.set x.toNat (k:Int)).map D.int:=by rw[ZbG]
 k_lt2 Z;refine Z _ _ (rX ?_);k_lt2 Z;refine Z _ _ ?_;clear Z;exists _,Z,mX hs,hix,es;refine Z _ _ ⟨_,N.set x.toNat (k:Int),rfl,Zag (eY hs),by rw[ZaU];exact tL,λi r' hi hr' y hy=>?_,λi y hi hy=>?_,ks.loc hls⟩;have UG:=rw' r' (Zas hr');obtain⟨y0,y1⟩:=UG.bound tr y hy;rw[Zao (λz=>?_)];exact hin i r' hi hr' y hy;have e:x=y:=by lk
 subst e;have e2:=ar.eq UG B1 hy;have:=(List.getElem?_inj (eY hr') hnd).mp (hr'.trans (by rw[hrk,e2]));lk;obtain⟨y0,y1⟩:=UE y (Zas hy);by_cases e:x=y;subst e;rw[Zag ⋯];rw[Zao ⋯];refine hjn i y ?_ hy;by_cases hij:i=j;subst hij;rw[hx]at hy;cases hy;exact absurd rfl e;lk;rintro δ s ⟨v4,N,rfl,hs,tL,hin,hjn,ks⟩;refine⟨_,_,_,N,rfl,hs,tL,λi r' hi hr' y hy=>?_,ks⟩;by_cases e:i=k;subst e;rw[hrk]at hr';cases hr';obtain⟨j,hj⟩:=Zb4 hy;exact hjn j y (by rw[Zaa];exact eY hj) hj;exact hin i r' ⋯ hr' y hy;rintro δ s ⟨v2,v3,v4,N,rfl,hs,tL,hin,ks⟩;rw[uw,Zaa]at hin;refine cZ ?_;exists _,Z,fS hs;exact Z _ _ ⟨N,rfl,tL,⟨rs,hr,hl,λi r h=>hin i r (eY h) h⟩,ks⟩
abbrev tot(f:Int->Int)(C:List (Int×Int))(c:Int):Int:=(C.map λp=>if f p.1=c then p.2 else 0).sum
def UH(f:Int->Int)(C C':List (Int×Int))(c:Int):tot f (C ++ C') c=tot f C c+tot f C' c:=by unfold tot;rw[Zay,List.sum_append]
abbrev lo(f:Int->Int)(C:List (Int×Int))(n:Nat):List Int:=(List.range n).map λ(c:Nat)=>tot f C (c:Int)
def y6(f:Int->Int)(C:List (Int×Int))(n:Nat):(lo f C n).length=n:=by unfold lo;rw[Zaa,ZbK]
def IU{f:Int->Int}{C:List (Int×Int)}{n i:Nat}(h:i<(lo f C n).length):(lo f C n)[i]=tot f C (i:Int):=by simp[lo]
def B2{f:Int->Int}{C:List (Int×Int)}{n:Nat}{c:Int}(c0:0<=c)(c1:c<(n:Int)):ae.app (lo f C n) c=tot f C c:=by
 have h:=ae.nE (xs:=lo f C n) (i:=c) c0 (by rw[y6];exact c1);have hl:c.toNat<(lo f C n).length:=by rw[y6];lk
 rw[Zam hl,IU,Zat c0]at h;exact(Zai h).symm
def LS{f:Int->Int}{C:List (Int×Int)}{n:Nat}{q v:Int}(q0:0<=f q)(q1:f q<(n:Int)):upd (lo f C n) (f q) v=lo f (C ++ [(q,v)]) n:=by unfold upd;rw[B2 q0 q1];refine List.ext_getElem (by rw[ZaU,y6,y6]) λi h1 h2=>?_;rw[List.getElem_set,IU,IU,UH];by_cases e:f q=(i:Int);rw[if_pos ⋯,e];unfold tot;simp[e];rw[if_neg ⋯];unfold tot;simp[e]
abbrev pF(xs ys:List Int)(s:Int):Int:=bS xs ys (bS xs ys s 3) 2
abbrev y8(xs ys sm:List Int)(n:Nat)(s:Int):List (Int×Int):=[(pF xs ys s,-(ae.app sm s)),(pF xs ys s,-(ae.app sm ((n:Int)+s))),(bS xs ys s 3,ae.app sm s),(bS xs ys s 2,ae.app sm ((n:Int)+s))]
abbrev pT(xs ys sm:List Int)(n:Nat):Nat->List (Int×Int)
 |0=>[]
 |k+1=>pT xs ys sm n k ++ y8 xs ys sm n (k:Int)
def xdq(f:Int->Int)(n:Nat):lo f [] n=List.replicate n 0:=by refine List.ext_getElem (by rw[y6,ZaG]) λi h1 h2=>?_;rw[IU,List.getElem_replicate];rfl
def Xdq{L:List Int}{k a b:Int}(k0:0<=k)(k1:k<(L.length:Int)):(L.map D.int).set k.toNat (.int (ae.app L k-a-b))=(upd (upd L k (-a)) k (-b)).map D.int:=by have h:=IK (L:=L) (k:=k) (v:=-a) (i:=k) k0 k1 k0;rw[if_pos rfl]at h;rw[show D.int (ae.app L k-a-b)=D.int (ae.app (upd L k (-a)) k + -b) by rw[h];first|rfl|(congr 1;lk)];unfold upd;rw[ZbG,ZbG,List.set_set]
def YbO{st:Store}{xs ys sm:List Int}{n:Nat}(tx:ae.Tn n xs)(ty:ae.Tn n ys)(hn:n<=100)(hm:sm.length=2*n):Wp (yR [bJ xs ys,.tup (sm.map D.int)] st) λd st'=>∃(N:List Int) (rs:List (List Int)),N.length=n/\ae.pg (ae.mD xs ys) (ae.upto n) rs/\(∀(i:Nat) (r:List Int),rs[i]?=some r->∀x∈r,N[x.toNat]?=some (i:Int))/\d=.bl ((lo (ae.app N) (pT xs ys sm n n) n).all λx=>decide (x=0))/\Ex [] st st':=by
 have hlx:=tx.length;have tr:=tx.mD ty;refine mM ?_;show Ws (Im [some (bJ xs ys),some (.tup (sm.map D.int)),none,none,none,none,none,none,none,none] st) _ _ _ _;unfold Im;refine aO (bt ?_);k_lt Z;refine aR (LF tx ty hn) ?_;rintro d s1 ⟨rfl,h1,k1⟩;refine Z _ _ (aO (bt ?_));k_lt2 Z;refine aR (ycP tx ty hn) ?_;rintro d s2 ⟨N,rfl,tL,⟨rs,hr,hrl,hN⟩,k2⟩;have bN:∀x:Int,0<=x->x<(n:Int)->0<=ae.app N x/\ae.app N x<(n:Int):=λx x0 x1=>by
  obtain⟨r,hr1,B1⟩:=hr.has x0 x1;obtain⟨i,hi⟩:=Zb4 hr1;have h1:=ae.nE (xs:=N) (i:=x) x0 ⋯;rw[hN i r hi x B1]at h1;have:=eY hi;have:=Zai h1;lk
 refine Z _ _ (aO (bt ?_));k_lt2 Z;refine⟨rfl,?_⟩;rw[Dl];have hO:own (s2 ++ [O.lst [D.int 0]]) s2.length=some [D.int 0]:=Kk;have kO:Ex [] st (s2 ++ [O.lst [D.int 0]]):=(k1.trans k2).app _;have O3:(s2 ++ [O.lst [D.int 0]])[st.length]?=some (.dct (dF xs ys)):=nH (k2.keep _ _ h1 (by simp));generalize (s2 ++ [O.lst [D.int 0]])=s3 at hO kO O3 ⊢;refine⟨xs.map D.int,rfl,_,hO,?_⟩;rw[Zaa,hlx,Zae,rep0];refine⟨by lk,i9 (by simp;lk),Z _ _ ?_⟩;clear Z;have hls:st.length<=s3.length:=kO.len;have IW:(s3 ++ [O.lst ((List.replicate n (0:Int)).map D.int)])[s3.length]?=some (.lst ((List.replicate n (0:Int)).map D.int)):=jW;have kL:Ex [] st (s3 ++ [O.lst ((List.replicate n (0:Int)).map D.int)]):=kO.app _;have hT:(s3 ++ [O.lst ((List.replicate n (0:Int)).map D.int)])[st.length]?=some (.dct (dF xs ys)):=nH O3;have hlt:=eY O3;generalize (s3 ++ [O.lst ((List.replicate n (0:Int)).map D.int)])=s4 at IW kL hT ⊢;generalize s3.length=rl at hls IW hlt ⊢;refine aO (lA (aF 0 n) (λk δ s=>∃(v5 v6 v7 v8 v9:Option D),δ=[some (bJ xs ys),some (.tup (sm.map D.int)),some (.ref st.length),some (.tup (N.map D.int)),some (.ref rl),v5,v6,v7,v8,v9]/\s[st.length]?=some (.dct (dF xs ys))/\s[rl]?=some (.lst ((lo (ae.app N) (pT xs ys sm n k) n).map D.int))/\Ex [] st s) ?_ (by rw[gh];lk) ?_ ?_);exists _,Z,Dl;rw[Zaa,hlx];exact⟨by lk,Z _ _ ⟨by rw[Zae],_,_,_,_,_,rfl,hT,by rw[show pT xs ys sm n 0=[]from rfl,xdq];exact IW,kL⟩⟩;rintro k d δ s hd ⟨v5,v6,v7,v8,v9,rfl,hT,hL,ks⟩;have hk:=eY hd;rw[gh]at hk;rw[vT hk,Za9]at hd;cases hd;have k0:(0:Int)<=(k:Int):=by lk
 have k1:(k:Int)<(n:Int):=by lk
 obtain⟨d0,d1⟩:=ug (j:=3) tx ty k0 k1;obtain⟨l0,l1⟩:=ug (j:=2) tx ty k0 k1;obtain⟨b0,b1⟩:=ug (j:=2) tx ty d0 d1;have eD:cK (dF xs ys) (.inr (Str.ofString "d"))=some (.tup ((stepT xs ys 3).map D.int)):=Df xs ys (j:=3) ∅;have eL:cK (dF xs ys) (.inr (Str.ofString "l"))=some (.tup ((stepT xs ys 2).map D.int)):=Df xs ys (j:=2) ∅;have aD:gT ((stepT xs ys 3).map D.int) (k:Int)=some (.int (bS xs ys k 3)):=by rw[yU];exact mE k0 (by rw[(BO tx ty 3).length];exact k1)
 have aL:gT ((stepT xs ys 2).map D.int) (k:Int)=some (.int (bS xs ys k 2)):=by rw[yU];exact mE k0 (by rw[(BO tx ty 2).length];exact k1)
 have aB:gT ((stepT xs ys 2).map D.int) (bS xs ys k 3)=some (.int (pF xs ys k)):=by unfold pF;rw[yU xs ys (bS xs ys k 3) 2];exact mE d0 (by rw[(BO tx ty 2).length];exact d1)
 k_lt Z;refine Z _ _ (aO (bt ?_));k_lt2 Z;refine⟨dF xs ys,sE hT,_,rfl,_,eD,?_⟩;exists aD;refine Z _ _ (aO (bt ?_));k_lt2 Z;refine⟨dF xs ys,sE hT,_,rfl,_,eL,?_⟩;exists aB,mE (xs:=N) (i:=pF xs ys k) b0 (by rw[tL];exact b1);refine Z _ _ (aO (bt ?_));clear Z;exists _,Z,mE (xs:=N) d0 (by rw[tL];exact d1);refine Z _ _ (aO (bt ?_));k_lt2 Z;refine⟨dF xs ys,sE hT,_,rfl,_,eL,?_⟩;exists aL,mE (xs:=N) l0 (by rw[tL];exact l1);obtain⟨IX,IY⟩:=bN (pF xs ys k) b0 b1;obtain⟨O4,O5⟩:=bN _ d0 d1;obtain⟨O6,O7⟩:=bN _ l0 l1;have ll:=y6 (ae.app N) (pT xs ys sm n k) n;have aS:=mE (xs:=sm) (i:=(k:Int)) k0 ⋯;have O8:=mE (xs:=sm) (i:=(n:Int)+(k:Int)) ⋯ ⋯;refine Z _ _ (aO (rX ?_));clear Z;have nN:∀C:List (Int×Int),(lo (ae.app N) C n).length=n:=λC=>y6 _ C n;have ix:∀(C:List (Int×Int)) (i:Int),0<=i->i<(n:Int)->lS ((lo (ae.app N) C n).map D.int).length i=some i.toNat:=λC i i0 i1=>by
  have:=ye (n:=((lo (ae.app N) C n).map D.int).length) (j:=i.toNat) (by rw[Zaa,nN];lk)
  rwa [Zat i0]at this
 have eX:((xs.map D.int).length:Int)=(n:Int):=by rw[Zaa,hlx]
 exists _,Z,fS hL,Dl,mE (xs:=lo (ae.app N) (pT xs ys sm n k) n) IX (by rw[nN];exact IY),aS,eX,O8;refine Z _ _ ?_;clear Z;exists _,Z,mX hL;refine⟨_,ix _ _ IX IY,Z _ _ (aO (rX ?_))⟩;clear Z;rw[Xdq IX (by rw[nN];exact IY),LS IX IY,LS IX IY];have Af:(s.set rl (.lst ((lo (ae.app N) (pT xs ys sm n k ++ [(pF xs ys k,-(ae.app sm k))] ++ [(pF xs ys k,-(ae.app sm ((n:Int)+k)))]) n).map D.int)))[rl]?=some (.lst ((lo (ae.app N) (pT xs ys sm n k ++ [(pF xs ys k,-(ae.app sm k))] ++ [(pF xs ys k,-(ae.app sm ((n:Int)+k)))]) n).map D.int)):=Zag (eY hL);have hT1:(s.set rl (.lst ((lo (ae.app N) (pT xs ys sm n k ++ [(pF xs ys k,-(ae.app sm k))] ++ [(pF xs ys k,-(ae.app sm ((n:Int)+k)))]) n).map D.int)))[st.length]?=some (.dct (dF xs ys)):=by rw[Zao ⋯];exact hT
 have O9:Ex [] st (s.set rl (.lst ((lo (ae.app N) (pT xs ys sm n k ++ [(pF xs ys k,-(ae.app sm k))] ++ [(pF xs ys k,-(ae.app sm ((n:Int)+k)))]) n).map D.int))):=ks.loc hls;have eC:pT xs ys sm n (k+1)=pT xs ys sm n k ++ [(pF xs ys k,-(ae.app sm k))] ++ [(pF xs ys k,-(ae.app sm ((n:Int)+k)))] ++ [(bS xs ys k 3,ae.app sm k)] ++ [(bS xs ys k 2,ae.app sm ((n:Int)+k))]:=by
  show pT xs ys sm n k ++ y8 xs ys sm n k=_;unfold y8;simp
 generalize (pT xs ys sm n k ++ [(pF xs ys k,-(ae.app sm k))] ++ [(pF xs ys k,-(ae.app sm ((n:Int)+k)))])=C1 at Af hT1 O9 eC ⊢;generalize (s.set rl (.lst ((lo (ae.app N) C1 n).map D.int)))=t1 at Af hT1 O9 ⊢;exists _,Z,fS Af,Dl,mE (xs:=lo (ae.app N) C1 n) O4 (by rw[nN];exact O5),aS,eX,O8;refine Z _ _ ?_;clear Z;exists _,Z,mX Af;refine⟨_,ix _ _ O4 O5,Z _ _ (rX ?_)⟩;clear Z;rw[OU,LS O4 O5];have Ag:(t1.set rl (.lst ((lo (ae.app N) (C1 ++ [(bS xs ys k 3,ae.app sm k)]) n).map D.int)))[rl]?=some (.lst ((lo (ae.app N) (C1 ++ [(bS xs ys k 3,ae.app sm k)]) n).map D.int)):=Zag (eY Af);have hT2:(t1.set rl (.lst ((lo (ae.app N) (C1 ++ [(bS xs ys k 3,ae.app sm k)]) n).map D.int)))[st.length]?=some (.dct (dF xs ys)):=by rw[Zao ⋯];exact hT1
 have Pa:Ex [] st (t1.set rl (.lst ((lo (ae.app N) (C1 ++ [(bS xs ys k 3,ae.app sm k)]) n).map D.int))):=O9.loc hls;generalize (C1 ++ [(bS xs ys k 3,ae.app sm k)])=C2 at Ag hT2 Pa eC ⊢;generalize (t1.set rl (.lst ((lo (ae.app N) C2 n).map D.int)))=t2 at Ag hT2 Pa ⊢;exists _,Z,fS Ag,Dl,mE (xs:=lo (ae.app N) C2 n) O6 (by rw[nN];exact O7),aS,eX,O8;refine Z _ _ ?_;clear Z;exists _,Z,mX Ag;refine⟨_,ix _ _ O6 O7,Z _ _ ⟨_,_,_,_,_,rfl,?_,?_,Pa.loc hls⟩⟩;rw[Zao ⋯];exact hT2;rw[Zag (eY Ag),OU,LS O6 O7,eC];rintro δ s ⟨v5,v6,v7,v8,v9,rfl,hT,hL,ks⟩;rw[gh]at hL;refine cZ ?_;k_lt Z;refine Bu ((lo (ae.app N) (pT xs ys sm n n) n).map D.int) (λd=>.bl (decide (inD d=0))) ?_ (by rw[Zaa,y6];lk) ?_ ?_;k_lt cH;exact⟨_,fS hL,cH _ _ ⟨Y1 (fS hL),Ex.refl⟩⟩;intro d hd s5 k5;obtain⟨x,hx,rfl⟩:=SV hd;exists _,cH,Zav,Za3,Zbc,Zbd;exact cH _ _ ⟨rfl,Ex.refl⟩;intro s5 k5;have e1:fw bV (((lo (ae.app N) (pT xs ys sm n n) n).map D.int).map λd=>D.bl (decide (inD d=0)))=some ((lo (ae.app N) (pT xs ys sm n n) n).map λx=>decide (x=0)):=by
  rw[ZaA];exact CM (f:=bV) (g:=λx=>D.bl (decide (x=0))) (k:=λx=>decide (x=0)) (λ_=>rfl) _
 have e2:((lo (ae.app N) (pT xs ys sm n n) n).map λx=>decide (x=0)).all id=(lo (ae.app N) (pT xs ys sm n n) n).all λx=>decide (x=0):=by rw[List.all_map];rfl
 exists vV,e1,e2;exact Z _ _ ⟨N,rs,tL,hr,hN,rfl,(ks.trans k5).app _⟩
def UI:∀(w:List bK) (p:List Int×List Int),oI p w=ae.b7 p w:=by
 have hq:∀(p:List Int×List Int) (j:Nat),vZ p.1 p.2 j=ae.tj j p:=λp j=>by
  induction j with
  |zero=>rfl
  |succ j ih=>show(ae.inv (vZ p.1 p.2 j).2,(vZ p.1 p.2 j).1)=ae.Qt (ae.tj j p);rw[ih];rfl
 have hs:∀(p:List Int×List Int) (s:bK),mO p s=ae.stM p s:=λp s=>by
  unfold mO ae.stM;rw[hq];rfl
 intro w
 induction w with
 |nil=>intro p;rfl
 |cons s w ih =>
  intro p;show oI (mO p s) w=ae.b7 (ae.stM p s) w;rw[hs,ih]
abbrev sL(n:Nat)(f:Int->Int):List D:=(ae.upto n).map λi=>D.int (f i)
abbrev gZ(n:Nat)(s:ae.Se):D:=.tup (sL n s.1 ++ sL n s.2)
def rL(n:Nat)(f:Int->Int):(sL n f).length=n:=by unfold sL;rw[Zaa,ae.tW]
def UJ{n:Nat}{f g:Int->Int}(h:∀u:Int,0<=u->u<(n:Int)->f u=g u):sL n f=sL n g:=ZaT λu hu=>by
 obtain⟨a,b⟩:=ae.pP.mp hu;rw[h u a b]
def UK{n:Nat}{s t:ae.Se}(h:ae.oP n s t):gZ n s=gZ n t:=by unfold gZ;rw[UJ λu a b=>(h u a b).1,UJ λu a b=>(h u a b).2]
def IZ{n:Nat}{f:Int->Int}{u:Int}(h0:0<=u)(h1:u<(n:Int)):(sL n f)[u.toNat]?=some (.int (f u)):=by unfold sL;rw[Zaj,ae.Cz ⋯];simp only[Option.map_some];rw[Zat h0]
def Pb{ds:List D}{i:Int}{d:D}(h0:0<=i)(h:ds[i.toNat]?=some d):gT ds i=some d:=by
 have:=(Zad.mp h).1;unfold gT lS;rw[if_pos h0,if_pos ⋯]
 simpa using h
def y9{n:Nat}{f:Int->Int}{u:Int}(h0:0<=u)(h1:u<(n:Int)):gT (sL n f) u=some (.int (f u)):=Pb h0 (IZ h0 h1)
def UL{n:Nat}{f g:Int->Int}{u:Int}(h0:0<=u)(h1:u<(n:Int)):gT (sL n f ++ sL n g) ((n:Int)+u)=some (.int (g u)):=Pb ⋯ (by
 rw[ZaB (by rw[rL];lk),rL,show((n:Int)+u).toNat-n=u.toNat by lk]
 exact IZ h0 h1)
abbrev ui(f:Int->Int)(u v:Int):Int->Int:=λt=>if t=u then v else f t
def Pc{n:Nat}{f:Int->Int}{u v:Int}(h0:0<=u)(h1:u<(n:Int)):(sL n f).set u.toNat (.int v)=sL n (ui f u v):=by
 refine ZbJ λi=>?_;by_cases hi:i<n;have e:(sL n (ui f u v))[i]?=some (.int (ui f u v (i:Int))):=by
  have:=IZ (n:=n) (f:=ui f u v) (u:=(i:Int)) ⋯ ⋯
  rwa [Zae]at this
 rw[e];by_cases z:u.toNat=i;rw[<- z,Zag (by rw[rL];lk)];unfold ui;rw[if_pos ⋯];rw[Zao z]
 have:=IZ (n:=n) (f:=f) (u:=(i:Int)) ⋯ ⋯;rw[Zae]at this;rw[this];unfold ui;rw[if_neg ⋯]
 rw[ZaL (by rw[ZaU,rL];lk),ZaL (by rw[rL];lk)]
def UM(n:Nat):(List.replicate n [D.int 0]).flatten=sL n λ_=>0:=by
 refine ZbJ λi=>?_;have e:(List.replicate n [D.int 0]).flatten=List.replicate n (D.int 0):=by
  induction n with
  |zero=>rfl
  |succ m ih=>rw[ZaK,ZaQ,ih];rfl
 rw[e];by_cases hi:i<n
 have:=IZ (n:=n) (f:=λ_=>0) (u:=(i:Int)) ⋯ ⋯
 rw[Zae]at this;rw[this,Zbg,if_pos hi];rw[ZaL (by rw[ZaG];lk),ZaL (by rw[rL];lk)]
def UN{n:Nat}{f g:Int->Int}:cutD (sL n f ++ sL n g) none (some (n:Int))=sL n f:=by rw[CU,List.take_append_of_le_length (by rw[rL];lk),Zcj (by rw[rL];lk)]
abbrev Gf(h g:Int->Int):Nat->Int->Int
 |0=>λ_=>0
 |i+1=>ui (Gf h g i) (h (i:Int)) (g (i:Int))
def za{n:Nat}{h g:Int->Int}(inj:∀a b:Int,0<=a->a<(n:Int)->0<=b->b<(n:Int)->h a=h b->a=b):∀(i:Nat),i<=n->∀s:Nat,s<i->Gf h g i (h (s:Int))=g (s:Int)
 |0,_,s,hs=>by lk
 |i+1,hi,s,hs=>by
  show(if h (s:Int)=h (i:Int)then g (i:Int)else Gf h g i (h (s:Int)))=_;by_cases e:s=i;subst e;rw[if_pos rfl];rw[if_neg λz=>e (by have:=inj s i ⋯ ⋯ ⋯ ⋯ z;lk)];exact za inj i ⋯ s ⋯
abbrev lF(xs:List Int)(a b:Nat)(f g:Int->Int)(i:Nat):Int->Int:=λu=>f u-ae.Sg i (λs=>ae.Sg a (λj=>if ae.aJ (ae.inv xs) (s:Int) (j+1)=u then g (s:Int)else 0))+ae.Sg i (λs=>ae.Sg b (λj=>if ae.aJ xs (ae.aJ (ae.inv xs) (s:Int) a) j=u then g (s:Int)else 0))
abbrev uj(xs:List Int)(s v:Int)(a:Nat)(F:Int->Int):Int->Int:=λu=>F u-ae.Sg a (λj=>if ae.aJ (ae.inv xs) s (j+1)=u then v else 0)
abbrev xB(xs:List Int)(r v:Int)(b:Nat)(F:Int->Int):Int->Int:=λu=>F u+ae.Sg b (λj=>if ae.aJ xs r j=u then v else 0)
def Xc4(xs:List Int)(s v:Int)(a:Nat)(F:Int->Int):ui (uj xs s v a F) (ae.aJ (ae.inv xs) s (a+1)) (uj xs s v a F (ae.aJ (ae.inv xs) s (a+1))-v)=uj xs s v (a+1) F:=by
 funext u
 unfold ui uj;by_cases e:u=ae.aJ (ae.inv xs) s (a+1);rw[if_pos e];subst e;show _=F _-(ae.Sg a _+(if _ then v else 0));rw[if_pos rfl];lk;rw[if_neg e];show _=F u-(ae.Sg a _+(if _ then v else 0));rw[if_neg λz=>e z.symm];lk
def zc5(xs:List Int)(r v:Int)(b:Nat)(F:Int->Int):ui (xB xs r v b F) (ae.aJ xs r b) (xB xs r v b F (ae.aJ xs r b)+v)=xB xs r v (b+1) F:=by
 funext u
 unfold ui xB;by_cases e:u=ae.aJ xs r b;rw[if_pos e];subst e;show _=F _+(ae.Sg b _+(if _ then v else 0));rw[if_pos rfl];lk;rw[if_neg e];show _=F u+(ae.Sg b _+(if _ then v else 0));rw[if_neg λz=>e z.symm];lk
def yc5(xs:List Int)(a b:Nat)(f g:Int->Int)(i:Nat):xB xs (ae.aJ (ae.inv xs) (i:Int) a) (g (i:Int)) b (uj xs (i:Int) (g (i:Int)) a (lF xs a b f g i))=lF xs a b f g (i+1):=by
 funext u
 unfold xB uj lF;show _=f u-(ae.Sg i _+_)+(ae.Sg i _+_);dsimp only;lk
def Zc5(xs:List Int)(a b:Nat)(f g:Int->Int):lF xs a b f g 0=f:=by
 funext u
 show f u-0+0=f u;lk
structure wa(st s:Store)(xs ys:List Int)(n T r5 r6:Nat)(F G:Int->Int):Prop where
 t:s[T]?=some (.dct (dF xs ys))
 l:s[r5]?=some (.lst (sL n F))
 z:s[r6]?=some (.lst (sL n G))
 x:Ex [] st s
def wa.I0{st s:Store}{xs ys:List Int}{n T r5 r6:Nat}{F G:Int->Int}(h:wa st s xs ys n T r5 r6 F G)(h1:st.length<=r5)(ht:T≠r5)(h6:r6≠r5){u v:Int}(u0:0<=u)(u1:u<(n:Int)):wa st (s.set r5 (.lst ((sL n F).set u.toNat (.int v)))) xs ys n T r5 r6 (ui F u v) G :=
 ⟨by rw[Zao ⋯];exact h.t,by rw[Zag (eY h.l),Pc u0 u1],by rw[Zao ⋯];exact h.z,h.x.loc h1⟩
def wa.Pd{st s:Store}{xs ys:List Int}{n T r5 r6:Nat}{F G:Int->Int}(h:wa st s xs ys n T r5 r6 F G)(h1:st.length<=r6)(ht:T≠r6)(h6:r5≠r6){u v:Int}(u0:0<=u)(u1:u<(n:Int)):wa st (s.set r6 (.lst ((sL n G).set u.toNat (.int v)))) xs ys n T r5 r6 F (ui G u v) :=
 ⟨by rw[Zao ⋯];exact h.t,by rw[Zao ⋯];exact h.l,by rw[Zag (eY h.z),Pc u0 u1],h.x.loc h1⟩
def LU{n:Nat}{u:Int}(u0:0<=u)(u1:u<(n:Int)):lS n u=some u.toNat:=by unfold lS;rw[if_pos u0,if_pos u1]
def Xcr{st:Store}{xs ys:List Int}{n:Nat}{k:Int}{f g:Int->Int}(tx:ae.Tn n xs)(ty:ae.Tn n ys)(hn:n<=100)(hk:k.natAbs<=1000):Wp (C8 [bJ xs ys,.int k,gZ n (f,g)] st) λd st'=>∃F G,d=gZ n (F,G)/\F=lF xs k.toNat (-k).toNat f g n/\G=Gf (λs=>ae.aJ xs (ae.aJ (ae.inv xs) s k.toNat) (-k).toNat) g n/\Ex [] st st':=by
 have hlx:=tx.length;refine mM ?_;show Ws (Le [some (bJ xs ys),some (.int k),some (gZ n (f,g)),none,none,none,none,none,none,none,none] st) _ _ _ _;unfold Le;refine aO (bt ?_);k_lt Z;refine aR (LF tx ty hn) ?_;rintro d st1 ⟨rfl,ht1,k1⟩;have hl1:=eY ht1;refine Z _ _ (aO (bt ?_));k_lt2 Z;unfold bJ;w_how;rw[Zaa,hlx];refine Z _ _ (aO (bt ?_));k_lt2 Z;unfold gZ;exists UN;refine Z _ _ (aO (bt ?_));k_lt2 Z;refine⟨rfl,by lk,i9 (by simp only[Zaz,ZbQ];lk),?_⟩;rw[Zae,UM];obtain⟨T,hT⟩:∃T,T=st.length:=⟨_,rfl⟩;obtain⟨r5,h5⟩:∃r,r=st1.length:=⟨_,rfl⟩;obtain⟨r6,h6⟩:∃r,r=(st1 ++ [O.lst (sL n f)] ++ [O.lst [D.int 0]]).length:=⟨_,rfl⟩;have e6:r6=r5+2:=by rw[h6,h5];simp
 have hO:wa st (st1 ++ [O.lst (sL n f)] ++ [O.lst [D.int 0]] ++ [O.lst (sL n λ_=>0)]) xs ys n T r5 r6 (lF xs k.toNat (-k).toNat f g 0) (Gf (λs=>ae.aJ xs (ae.aJ (ae.inv xs) s k.toNat) (-k).toNat) g 0):=⟨by rw[hT];exact nH (nH (nH ht1)),by rw[Zc5,h5];exact nH (nH jW),by rw[h6];exact jW,((k1.app _).app _).app _⟩;refine Z _ _ ?_;clear Z;show Ws _ _ _ _ _;rw[<- h6,<- h5,<- hT];have hT5:T<r5:=by lk
 generalize st1 ++ [O.lst (sL n f)] ++ [O.lst [D.int 0]] ++ [O.lst (sL n λ_=>0)]=s0 at hO ⊢;obtain⟨a,ha⟩:∃a,a=k.toNat:=⟨_,rfl⟩;obtain⟨b,hb⟩:∃b,b=(-k).toNat:=⟨_,rfl⟩;rw[<- ha,<- hb]at hO ⊢;refine aO (lA (aF 0 n) (λi δ s=>∃v7 v8 v9 v10:Option D,δ=[some (bJ xs ys),some (.int k),some (gZ n (f,g)),some (.ref T),some (.int (n:Int)),some (.ref r5),some (.ref r6),v7,v8,v9,v10]/\wa st s xs ys n T r5 r6 (lF xs a b f g i) (Gf (λs=>ae.aJ xs (ae.aJ (ae.inv xs) s a) b) g i)) ?_ (by rw[gh];lk) ?_ ?_);k_lt Z;exact⟨by lk,Z _ _ ⟨by rw[Zae],none,none,none,none,rfl,hO⟩⟩;rintro i d δ s hd ⟨v7,v8,v9,v10,rfl,ho⟩;have hil:=eY hd;rw[gh]at hil;rw[vT hil,Za9]at hd;cases hd;have i0:(0:Int)<=(i:Int):=by lk
 have i1:(i:Int)<(n:Int):=by lk
 k_lt Z;refine Z _ _ (aO (bt ?_));k_lt2 Z;unfold gZ;w_how;refine⟨_,UL i0 i1,?_⟩;refine Z _ _ (aO (bt ?_));k_lt2 Z;refine Z _ _ ?_;clear Z;show Ws _ _ _ _ _;refine aO (lA (aF 0 a) (λj δ s=>∃v10:Option D,δ=[some (bJ xs ys),some (.int k),some (gZ n (f,g)),some (.ref T),some (.int (n:Int)),some (.ref r5),some (.ref r6),some (.int (i:Int)),some (.int (g (i:Int))),some (.int (ae.aJ (ae.inv xs) (i:Int) j)),v10]/\wa st s xs ys n T r5 r6 (uj xs (i:Int) (g (i:Int)) j (lF xs a b f g i)) (Gf (λs=>ae.aJ xs (ae.aJ (ae.inv xs) s a) b) g i)) ?_ (by rw[gh];lk) ?_ ?_);k_lt Z;refine⟨by lk,Z _ _ ⟨by rw[ha],_,rfl,?_⟩⟩;have e:uj xs (i:Int) (g (i:Int)) 0 (lF xs a b f g i)=lF xs a b f g i:=by
  funext u
  show lF xs a b f g i u-0=_;lk
 rw[e];exact ho;rintro j d δ s2 hd ⟨MZ,rfl,ho2⟩;have rB:=ae.u9 tx.bQ i0 i1 j;have Dn:=ae.u9 tx.bQ i0 i1 (j+1);k_lt Z;refine Z _ _ (aO (bt ?_));k_lt2 Z;refine⟨_,sE ho2.t,_,rfl,_,Df xs ys (j:=2) ∅,?_⟩;exists mE (xs:=stepT xs ys 2) rB.1 (by show _<((ae.inv xs).length:Int);rw[tx.bQ.length];exact rB.2);refine Z _ _ (rX ?_);clear Z;exists _,Z,fS ho2.l;have e1:ae.app (stepT xs ys 2) (ae.aJ (ae.inv xs) (i:Int) j)=ae.aJ (ae.inv xs) (i:Int) (j+1):=rfl;rw[e1];refine⟨_,y9 Dn.1 Dn.2,?_⟩;w_how;refine Z _ _ ?_;k_lt2 Z;refine⟨_,mX ho2.l,_,by rw[rL];exact LU Dn.1 Dn.2,Z _ _ ⟨_,rfl,?_⟩⟩;rw[<- Xc4];exact ho2.I0 ⋯ ⋯ ⋯ Dn.1 Dn.2;rintro δ s2 ⟨MZ,rfl,ho2⟩;rw[gh]at ho2 ⊢;have rA:=ae.u9 tx.bQ i0 i1 a;refine aO (lA (aF 0 b) (λj δ s=>∃v10:Option D,δ=[some (bJ xs ys),some (.int k),some (gZ n (f,g)),some (.ref T),some (.int (n:Int)),some (.ref r5),some (.ref r6),some (.int (i:Int)),some (.int (g (i:Int))),some (.int (ae.aJ xs (ae.aJ (ae.inv xs) (i:Int) a) j)),v10]/\wa st s xs ys n T r5 r6 (xB xs (ae.aJ (ae.inv xs) (i:Int) a) (g (i:Int)) j (uj xs (i:Int) (g (i:Int)) a (lF xs a b f g i))) (Gf (λs=>ae.aJ xs (ae.aJ (ae.inv xs) s a) b) g i)) ?_ (by rw[gh];lk) ?_ ?_);k_lt Z;refine⟨by lk,Z _ _ ⟨by rw[hb],_,rfl,?_⟩⟩;have e:xB xs (ae.aJ (ae.inv xs) (i:Int) a) (g (i:Int)) 0 (uj xs (i:Int) (g (i:Int)) a (lF xs a b f g i))=uj xs (i:Int) (g (i:Int)) a (lF xs a b f g i):=by
  funext u
  show uj xs (i:Int) (g (i:Int)) a (lF xs a b f g i) u+0=_;lk
 rw[e];exact ho2;rintro j d δ s3 hd ⟨Pe,rfl,B3⟩;have rB:=ae.u9 tx rA.1 rA.2 j;k_lt Z;refine Z _ _ (aO (rX ?_));clear Z;exists _,Z,fS B3.l;refine⟨_,y9 rB.1 rB.2,?_⟩;w_how;refine Z _ _ ?_;k_lt2 Z;refine⟨_,mX B3.l,_,by rw[rL];exact LU rB.1 rB.2,Z _ _ (bt ?_)⟩;clear Z;have Pf:=B3.I0 (v:=xB xs (ae.aJ (ae.inv xs) (i:Int) a) (g (i:Int)) j (uj xs (i:Int) (g (i:Int)) a (lF xs a b f g i)) (ae.aJ xs (ae.aJ (ae.inv xs) (i:Int) a) j)+g (i:Int)) ⋯ ⋯ ⋯ rB.1 rB.2;rw[zc5]at Pf;k_lt Z;refine⟨_,sE Pf.t,_,rfl,_,Df xs ys (j:=0) ∅,?_⟩;exists mE (xs:=stepT xs ys 0) rB.1 (by show _<(xs.length:Int);rw[tx.length];exact rB.2);exact Z _ _ ⟨_,rfl,Pf⟩;rintro δ s3 ⟨Pe,rfl,B3⟩;rw[gh]at B3 ⊢;have rB:=ae.u9 tx rA.1 rA.2 b;refine rX ?_;k_lt Z;refine Z _ _ ?_;k_lt2 Z;refine⟨_,mX B3.z,_,by rw[rL];exact LU rB.1 rB.2,Z _ _ ⟨_,_,_,_,rfl,?_⟩⟩;rw[<- yc5];exact B3.Pd ⋯ ⋯ ⋯ rB.1 rB.2;rintro δ s ⟨v7,v8,v9,v10,rfl,ho⟩;rw[gh]at ho;refine cZ ?_;k_lt Z;refine⟨_,mX ho.l,_,mX ho.z,i9 (by rw[rL,rL];lk),Z _ _ ⟨_,_,rfl,rfl,rfl,ho.x.app _⟩⟩
def Pg{n:Nat}{h h' g:Int->Int}(hB:∀u:Int,0<=u->u<(n:Int)->0<=h' u/\h' u<(n:Int))(e1:∀u:Int,0<=u->u<(n:Int)->h (h' u)=u)(e2:∀u:Int,0<=u->u<(n:Int)->h' (h u)=u){u:Int}(h0:0<=u)(h1:u<(n:Int)):Gf h g n u=g (h' u):=by obtain⟨b0,b1⟩:=hB u h0 h1;have:=za (n:=n) (h:=h) (g:=g) (λa b a0 a1 c0 c1 z=>by rw[<- e2 a a0 a1,z,e2 b c0 c1]) n (Zab n) (h' u).toNat ⋯;rw[Zat b0,e1 u h0 h1]at this;exact this
def Yc5{n:Nat}{xs ys:List Int}{k:Int}{f g:Int->Int}(tx:ae.Tn n xs):ae.oP n (lF xs k.toNat (-k).toNat f g n,Gf (λs=>ae.aJ xs (ae.aJ (ae.inv xs) s k.toNat) (-k).toNat) g n) (ae.cS (xs,ys) (ae.br (true,k)) (f,g)):=by
 intro u h0 h1;rcases Int.lt_or_le k 0 with hk|hk
 obtain⟨m,rfl⟩:∃m:Nat,k=-(m:Int):=⟨k.natAbs,by lk⟩;have ea:(-(m:Int)).toNat=0:=by lk
 have eb:(- -(m:Int)).toNat=m:=by lk
 rw[ae.NF ⋯,ae.RP,ea,eb];refine⟨?_,?_⟩;show f u-ae.Sg n (λ_=>0)+ae.Sg n (λs=>ae.Sg m (λj=>if ae.aJ xs (ae.aJ (ae.inv xs) (s:Int) 0) j=u then g (s:Int)else 0))=f u+ae.Sg m (λj=>g (ae.aJ (ae.inv xs) u j));rw[ae.J2,ae.RQ];have:ae.Sg m (λj=>ae.Sg n (λs=>if ae.aJ xs (ae.aJ (ae.inv xs) (s:Int) 0) j=u then g (s:Int)else 0))=ae.Sg m (λj=>g (ae.aJ (ae.inv xs) u j)):=ae.NJ λj _ =>
  ae.RS (f:=λt=>ae.aJ xs t j) (g:=λt=>ae.aJ (ae.inv xs) t j) h0 h1 g (ae.u9 tx.bQ h0 h1 j) (ae.J3 tx h0 h1 j) λt t0 t1 e=>by
   show t=ae.aJ (ae.inv xs) u j;rw[<- e,ae.CF tx t0 t1]
 rw[this];lk;exact Pg (h':=λt=>ae.aJ (ae.inv xs) t m) (λu a b=>ae.u9 tx.bQ a b m) (λu a b=>ae.J3 tx a b m) (λu a b=>ae.CF tx a b m) h0 h1;obtain⟨m,rfl⟩:∃m:Nat,k=(m:Int):=⟨k.toNat,by lk⟩;have ea:((m:Int)).toNat=m:=by lk
 have eb:(-(m:Int)).toNat=0:=by lk
 rw[ae.ND,ae.RO,ea,eb];refine⟨?_,?_⟩;show f u-ae.Sg n (λs=>ae.Sg m (λj=>if ae.aJ (ae.inv xs) (s:Int) (j+1)=u then g (s:Int)else 0))+ae.Sg n (λ_=>0)=f u-ae.Sg m (λj=>g (ae.aJ xs u (j+1)));rw[ae.J2,ae.RQ];have:ae.Sg m (λj=>ae.Sg n (λs=>if ae.aJ (ae.inv xs) (s:Int) (j+1)=u then g (s:Int)else 0))=ae.Sg m (λj=>g (ae.aJ xs u (j+1))):=ae.NJ λj _ =>
  ae.RS (f:=λt=>ae.aJ (ae.inv xs) t (j+1)) (g:=λt=>ae.aJ xs t (j+1)) h0 h1 g (ae.u9 tx h0 h1 (j+1)) (ae.CF tx h0 h1 (j+1)) λt t0 t1 e=>by
   show t=ae.aJ xs u (j+1);rw[<- e,ae.J3 tx t0 t1]
 rw[this];lk;exact Pg (h':=λt=>ae.aJ xs t m) (λu a b=>ae.u9 tx a b m) (λu a b=>ae.CF tx a b m) (λu a b=>ae.J3 tx a b m) h0 h1
def Ja{st:Store}{xs ys:List Int}{n:Nat}{k:Int}{s:ae.Se}(tx:ae.Tn n xs)(ty:ae.Tn n ys)(hn:n<=100)(hk:k.natAbs<=1000):Wp (C8 [bJ xs ys,.int k,gZ n s] st) λd st'=>d=gZ n (ae.cS (xs,ys) (ae.br (true,k)) s)/\Ex [] st st':=by refine aR (Xcr (f:=s.1) (g:=s.2) tx ty hn hk) ?_;rintro d st1 ⟨F,G,rfl,rfl,rfl,k1⟩;exact⟨UK (Yc5 tx),k1⟩
def zb{n:Nat}(hn:n<=100)(n0:0<n):∀(j d:Nat),j<d->∀{st:Store} {xs ys:List Int} {s:ae.Se},ae.Tn n xs->ae.Tn n ys->Wp (yQ d [bJ xs ys,.int (j:Int),gZ n s] st) λx st'=>x=gZ n (ae.cS (xs,ys) (List.replicate j (false,1)) s)/\Ex [] st st'
 |j,0,h,_,_,_,_,_,_=>by lk
 |0,d+1,_,st,xs,ys,s,tx,ty=>by
  refine mM ?_;show Ws (C9 (yQ d) [some (bJ xs ys),some (.int 0),some (gZ n s),none,none,none,none] st) _ _ _ _;unfold C9;refine aO (gi ?_);k_lt Z;refine Z _ _ ⟨λ_=>cZ ?_,λz=>absurd z ∅⟩;k_lt2 Z;exact Z _ _ ⟨rfl,Ex.refl⟩
 |j+1,d+1,h,st,xs,ys,s,tx,ty=>by
  have hlx:=tx.length;refine mM ?_;show Ws (C9 (yQ d) [some (bJ xs ys),some (.int ((j+1:Nat):Int)),some (gZ n s),none,none,none,none] st) _ _ _ _;unfold C9;refine aO (gi ?_);k_lt Z;refine Z _ _ ⟨λz=>absurd z (by rw[decide_eq_true_eq];lk),λ_=>jb (aO (bt ?_))⟩;k_lt2 Z;refine aR (TX tx ty hn) ?_;rintro d s1 ⟨rfl,k1⟩;rw[show(((j+1:Nat):Int)-1)=(j:Int) by lk];refine aR (zb hn n0 j d ⋯ ty.bQ tx) ?_;rintro d s2 ⟨rfl,k2⟩;have et:ae.cS (xs,ys) (List.replicate (j+1) (false,1)) s=ae.uu ys (ae.cS (ae.inv ys,xs) (List.replicate j (false,1)) s):=rfl;generalize ae.cS (ae.inv ys,xs) (List.replicate j (false,1)) s=t at et ⊢;refine Z _ _ (aO (bt ?_));k_lt2 Z;unfold bJ;w_how;rw[Zaa,hlx];refine Z _ _ (aO (bt ?_));k_lt2 Z;refine⟨rfl,by lk,i9 (by simp only[Zaz,ZbQ];lk),?_⟩;rw[Zae,UM];have e5:(s2 ++ [O.lst [D.int 0]]).length=s2.length+1:=by simp
  refine Z _ _ ?_;clear Z;show Ws _ _ _ _ _;rw[e5];refine aO (lA (aF 0 n) (λi δ s'=>∃v6:Option D,δ=[some (bJ xs ys),some (.int ((j+1:Nat):Int)),some (gZ n s),some (gZ n t),some (.int (n:Int)),some (.ref (s2.length+1)),v6]/\s'[s2.length+1]?=some (.lst (sL n (Gf (ae.app ys) t.2 i)))/\Ex [] st s') ?_ (by rw[gh];lk) ?_ ?_);k_lt Z;refine⟨by lk,Z _ _ ⟨by rw[Zae],none,rfl,?_,(((k1.trans k2).app _).app _)⟩⟩;rw[<- e5];exact jW;rintro i d' δ s' hd ⟨v6,rfl,hl,kx⟩;have hil:=eY hd;rw[gh]at hil;rw[vT hil,Za9]at hd;cases hd;have i0:(0:Int)<=(i:Int):=by lk
  have i1:(i:Int)<(n:Int):=by lk
  have yB:=ty.app i0 i1;unfold bJ gZ;k_lt Z;refine Z _ _ (rX ?_);k_lt2 Z;refine⟨_,UL i0 i1,Z _ _ ?_⟩;clear Z;exists _,Z,mE (xs:=ys) i0 (by rw[ty.length];exact i1);refine⟨_,mX hl,_,by rw[rL];exact LU yB.1 yB.2,Z _ _ ⟨_,rfl,?_,kx.loc (by have:=(k1.trans k2).len;lk)⟩⟩;rw[Zag (eY hl),Pc yB.1 yB.2];rfl;rintro δ s' ⟨v6,rfl,hl,kx⟩;rw[gh]at hl;refine cZ ?_;k_lt Z;refine Bu (sL n t.1) (λd=>match d with|.int z=>.int (-z)|_=>.non) ?_ (by rw[rL];lk) ?_ ?_;unfold gZ;exists _,cH,UN;exact cH _ _ ⟨vW _ _,Ex.refl⟩;intro d' hd' s3 k3;unfold sL at hd';obtain⟨u,hu,rfl⟩:=ZaP.mp hd';k_lt cH;exact cH _ _ ⟨rfl,Ex.refl⟩;intro s3 k3;have eM:(sL n t.1).map (λd=>match d with|.int z=>D.int (-z)|_=>.non)=sL n (λu=>-t.1 u):=by
   unfold sL;rw[ZaA];rfl
  rw[eM];have hl3:=k3.keep _ _ hl (by simp);exists mX (nH (m:=[O.lst (sL n λu=>-t.1 u)]) hl3),Kk;refine⟨i9 (by rw[rL,rL];lk),Z _ _ ⟨?_,((kx.trans k3).app _).app _⟩⟩;rw[et];refine UK (s:=(Gf (ae.app ys) t.2 n,λu=>-t.1 u)) (t:=ae.uu ys t) λu h0 h1=>⟨?_,rfl⟩;exact Pg (h':=ae.app (ae.inv ys)) (λu a b=>ty.jY a b) (λu a b=>ty.a9 a b) (λu a b=>ty.bg a b) h0 h1
def UO{n:Nat}{p:ae.cU}(h:ae.Vf n p)(w:List bK):ae.Vf n (ae.b7 p w):=h.ld
def zdr(p:ae.cU)(w:List bK){i:Nat}{s:bK}(h:w[i]?=some s):ae.b7 p (w.take (i+1))=ae.stM (ae.b7 p (w.take i)) s:=by obtain⟨hi,e⟩:=Zad.mp h;rw[ZaD hi,ae.ym,e];rfl
def yb0{st:Store}{xs ys:List Int}{n:Nat}{w:List bK}{s:ae.Se}(tx:ae.Tn n xs)(ty:ae.Tn n ys)(n0:0<n)(hn:n<=100)(hw:∀s∈w,tG s)(hb:∀s∈w,s.2.natAbs<=1000)(hl:w.length<=1000):Wp (vE [bJ xs ys,.tup (w.map bG),gZ n s] st) λd st'=>d=gZ n (ae.cS (xs,ys) (w.flatMap ae.br) s)/\Ex [] st st':=by
 have vf:ae.Vf n (xs,ys):=⟨tx,ty⟩;refine mM ?_;show Ws (Lg [some (bJ xs ys),some (.tup (w.map bG)),some (gZ n s),none,none,none] st) _ _ _ _;unfold Lg;refine aO (bt ?_);k_lt Z;refine Z _ _ ?_;clear Z;show Ws _ _ _ _ _;refine aO (lA (j5 ((w.length:Int)-1) w.length) (λi δ s'=>∃v4 v5:Option D,δ=[some (bJ xs ys),some (.tup (w.map bG)),some (gZ n s),some (gZ n (ae.cS (ae.b7 (xs,ys) (w.take (w.length-i))) ((w.drop (w.length-i)).flatMap ae.br) s)),v4,v5]/\Ex [] st s') ?_ (by rw[FY];lk) ?_ ?_);exists _,Z,Zd;rw[Zaa];refine⟨_,_,⟨rfl,rfl⟩,by lk,Z _ _ ⟨by rw[show((w.length:Int)-1 - -1).toNat=w.length by lk],none,none,?_,Ex.refl⟩⟩;rw[Nat.sub_zero,List.drop_length];rfl;rintro i d δ s' hd ⟨v4,v5,rfl,kx⟩;have hil:=eY hd;rw[FY]at hil;rw[Tv hil]at hd;cases hd;obtain⟨j,hj⟩:∃j:Nat,w.length=i+(j+1):=⟨w.length-i-1,by lk⟩;have ej:((w.length:Int)-1-(i:Int))=(j:Int):=by lk
 rw[ej,show w.length-i=j+1 by lk,show w.length-(i+1)=j by lk];have hjl:j<w.length:=by lk
 have ew:w[j]?=some w[j]:=Zam hjl;have hm:w[j]∈w:=Zb0 hjl;have ok:=hw _ hm;have bd:=hb _ hm;have eC:ae.cS (ae.b7 (xs,ys) (w.take j)) ((w.drop j).flatMap ae.br) s=ae.cS (ae.b7 (xs,ys) (w.take j)) (ae.br w[j]) (ae.cS (ae.b7 (xs,ys) (w.take (j+1))) ((w.drop (j+1)).flatMap ae.br) s):=by
  rw[List.drop_eq_getElem_cons hjl,ZaV,ae.wW,ae.RM (UO vf _) ok,zdr _ _ ew]
 rw[eC];generalize ae.cS (ae.b7 (xs,ys) (w.take (j+1))) ((w.drop (j+1)).flatMap ae.br) s=t;have va:=UO vf (w.take j);have hat:gT (w.map bG) (j:Int)=some (bG w[j]):=Pb ⋯ (by rw[Zae,Zaj,ew];rfl);clear eC;obtain⟨b,k,ebk⟩:∃b k,w[j]=(b,k):=⟨_,_,rfl⟩;rw[ebk]at ok bd hat ⊢;generalize hq:ae.b7 (xs,ys) (w.take j)=q at va ⊢;k_lt Z;refine Z _ _ (aO (bt ?_));clear Z;exists _,Z,CU;rw[<- List.map_take];refine aR (T2 (p:=(xs,ys)) ⟨tx,ty⟩ hn (λs hs=>hw s (ZbN hs)) (by rw[Za2];lk)) ?_;rintro d s1 ⟨rfl,k1⟩;rw[UI,hq];simp only at bd;have es1:bG (b,k)=.tup [.str (if b then "s" else "t"),.int k]:=rfl;rw[es1]at hat;refine Z _ _ (gi ?_);clear Z;exists _,Z,hat;cases b with
 |true =>
  refine Z _ _ ⟨λ_=>bt ?_,λz=>absurd z ∅⟩;clear Z;exists _,Z,hat;refine aR (Ja (xs:=q.1) (ys:=q.2) (s:=t) va.1 va.2 hn bd) ?_;rintro d s2 ⟨rfl,k2⟩;exact Z _ _ ⟨_,_,rfl,(kx.trans k1).trans k2⟩
 |false =>
  have p3:=ok rfl;simp only at p3;obtain⟨m,rfl⟩:∃m:Nat,k=(m:Int):=⟨k.toNat,by lk⟩;refine Z _ _ ⟨λz=>absurd z ∅,λ_=>bt ?_⟩;clear Z;exists _,Z,hat;refine aR (zb hn n0 m 6 ⋯ (xs:=q.1) (ys:=q.2) (s:=t) va.1 va.2) ?_;rintro d s2 ⟨rfl,k2⟩;rw[<- ae.NG];exact Z _ _ ⟨_,_,rfl,(kx.trans k1).trans k2⟩
 rintro δ s' ⟨v4,v5,rfl,kx⟩;rw[FY,Zbs];refine cZ ?_;k_lt Z;exact Z _ _ ⟨rfl,kx⟩
abbrev iz(k:Int):Nat->List Nat
 |1=>List.replicate k.toNat 2 ++ List.replicate (-k).toNat 0 ++ [1]
 |3=>3 :: (List.replicate k.toNat 0 ++ List.replicate (-k).toNat 2)
 |j=>[j]
abbrev kZ(s:bK)(j:Nat):List Nat:=if s.1=true then iz (if s.2<0 then -1 else 1) j else[(j+3) % 4]
abbrev qh(g:Nat->List Nat):Nat->List Nat->List Nat
 |0,js=>js
 |m+1,js=>(qh g m js).flatMap g
abbrev pH(s:bK)(js:List Nat):List Nat:=qh (kZ s) s.2.natAbs js
abbrev carry(w:List bK)(js:List Nat):List Nat:=w.foldl (λjs s=>pH s js) js
def Jb(g:Nat->List Nat){a:Nat}(h:g a=[a]):∀m:Nat,(List.replicate m a).flatMap g=List.replicate m a
 |0=>rfl
 |m+1=>by rw[ZaK,ZaV,h,Jb g h m];rfl
def xc5(k:Nat)(j:Nat):(iz (k:Int) j).flatMap (iz 1)=iz ((k+1:Nat):Int) j:=by
 have e1:(-(k:Int)).toNat=0:=by lk
 have e2:(-((k+1:Nat):Int)).toNat=0:=by lk
 unfold iz;split
 ·rw[e1,e2,Zae,Zae]
  simp only[Zb8,Za6];rw[ZbB];have:(List.replicate k 2).flatMap (iz 1)=List.replicate k 2:=Jb _ rfl k;unfold iz at this;rw[this,Zbr];exact(Zbt _ [2] [1]).symm
 ·rw[e1,e2,Zae,Zae]
  simp only[Zb8,Za6];rw[ZaV];have:(List.replicate k 0).flatMap (iz 1)=List.replicate k 0:=Jb _ rfl k;unfold iz at this;rw[this,ZaK];rfl
 ·next h1 h3 =>
  rw[ZaV,List.flatMap_nil,Za6];split
  ·exact absurd rfl h1
  ·exact absurd rfl h3
  ·rfl
def ZcQ(k:Nat)(j:Nat):(iz (-(k:Int)) j).flatMap (iz (-1))=iz (-((k+1:Nat):Int)) j:=by
 have e1:(-(k:Int)).toNat=0:=by lk
 have e2:(-((k+1:Nat):Int)).toNat=0:=by lk
 have e3:(- -(k:Int)).toNat=k:=by lk
 have e4:(- -((k+1:Nat):Int)).toNat=k+1:=by lk
 unfold iz;split
 ·rw[e1,e2,e3,e4]
  simp only[Zb8,Zcw];rw[ZbB];have:(List.replicate k 0).flatMap (iz (-1))=List.replicate k 0:=Jb _ rfl k;unfold iz at this;rw[this,Zbr];exact(Zbt _ [0] [1]).symm
 ·rw[e1,e2,e3,e4]
  simp only[Zb8,Zcw];rw[ZaV];have:(List.replicate k 2).flatMap (iz (-1))=List.replicate k 2:=Jb _ rfl k;unfold iz at this;rw[this,ZaK];rfl
 ·next h1 h3 =>
  rw[ZaV,List.flatMap_nil,Za6];split
  ·exact absurd rfl h1
  ·exact absurd rfl h3
  ·rfl
def UP(j:Nat):iz 0 j=[j]:=by unfold iz;split<;>rfl
def Ph:∀js:List Nat,js.flatMap (λj=>[j])=js
 |[]=>rfl
 |j :: js=>by rw[ZaV,Ph js];rfl
def Zdr(k:Nat)(js:List Nat):qh (iz 1) k js=js.flatMap (iz (k:Int)):=by
 induction k with
 |zero =>
  show js=js.flatMap (iz 0);rw[show iz 0=λj=>[j]from funext UP,Ph]
 |succ m ih =>
  show(qh (iz 1) m js).flatMap (iz 1)=_;rw[ih,List.flatMap_assoc]
  congr 1
  exact funext λj=>xc5 m j
def Ydr(k:Nat)(js:List Nat):qh (iz (-1)) k js=js.flatMap (iz (-(k:Int))):=by
 induction k with
 |zero =>
  show js=js.flatMap (iz 0);rw[show iz 0=λj=>[j]from funext UP,Ph]
 |succ m ih =>
  show(qh (iz (-1)) m js).flatMap (iz (-1))=_;rw[ih,List.flatMap_assoc]
  congr 1
  exact funext λj=>ZcQ m j
def Pj(k:Int)(js:List Nat):pH (true,k) js=js.flatMap (iz k):=by
 unfold pH;by_cases h:k<0
 have:kZ (true,k)=iz (-1):=by funext j;unfold kZ;rw[if_pos rfl,if_pos h]
 rw[this,Ydr]
 congr 2
 show -((k.natAbs:Nat):Int)=k;lk
 have:kZ (true,k)=iz 1:=by funext j;unfold kZ;rw[if_pos rfl,if_neg h]
 rw[this,Zdr]
 congr 2
 show((k.natAbs:Nat):Int)=k;lk
def B4(k:Int){j:Nat}(hj:j<4):∀i∈iz k j,i<4:=by
 unfold iz;split;intro i hi;rcases ZaE.mp hi with h|h
 rcases ZaE.mp h with h|h
 rw[(ZbS.mp h).2];decide;rw[(ZbS.mp h).2];decide;rw[ZaM.mp h];decide;intro i hi;rcases Zar.mp hi with h|h
 rw[h];decide;rcases ZaE.mp h with h|h
 rw[(ZbS.mp h).2];decide;rw[(ZbS.mp h).2];decide;intro i hi;rw[ZaM.mp hi];exact hj
def Pk{g:Nat->List Nat}{c:Nat}(h:∀j,(g j).length<=c):∀js:List Nat,(js.flatMap g).length<=js.length*c
 |[]=>by simp
 |j :: js=>by
  rw[ZaV,Zak,Zaz,ZbV];have:=h j;have:=Pk h js;lk
def zc{g:Nat->List Nat}(h:∀j,j<4->∀i∈g j,i<4){js:List Nat}(hj:∀j∈js,j<4):∀i∈js.flatMap g,i<4:=λi hi=>by
 obtain⟨j,hj',hi'⟩:=List.mem_flatMap.mp hi;exact h j (hj j hj') i hi'
def UQ(s:bK)(j:Nat)(hj:j<4):∀i∈kZ s j,i<4:=by unfold kZ;split;exact B4 _ hj;intro i hi;rw[ZaM.mp hi];exact ZcD _ ∅
def Pm(s:bK){js:List Nat}(hj:∀j∈js,j<4):∀m,∀i∈qh (kZ s) m js,i<4
 |0=>hj
 |m+1=>zc (UQ s) (Pm s hj m)
def xdr(s:bK){js:List Nat}(hj:∀j∈js,j<4):∀i∈pH s js,i<4:=Pm s hj _
def UR{s:bK}(hs:s.1=false)(js:List Nat):∀m,(qh (kZ s) m js).length<=js.length
 |0=>Zab _
 |m+1=>by
  have h1:=UR hs js m;have h2:=Pk (g:=kZ s) (c:=1) (λj=>by unfold kZ;rw[if_neg (by rw[hs];decide)];simp) (qh (kZ s) m js);show((qh (kZ s) m js).flatMap (kZ s)).length<=_;lk
def Jc:∀(w:List bK) {js:List Nat},(∀j∈js,j<4)->∀i∈carry w js,i<4
 |[],_,h=>h
 |s :: w,_,h=>Jc w (xdr s h)
def Pn(w:List bK)(s:bK)(js:List Nat):carry (w ++ [s]) js=pH s (carry w js):=by unfold carry;rw[ZaR];rfl
def Jd(xs ys:List Int)(j:Nat):∀(m:Nat) (x:Int),dH xs ys x (List.replicate m j)=ae.aJ (stepT xs ys j) x m
 |0,_=>rfl
 |m+1,x=>by
  rw[Zbr,tK,Jd xs ys j m x];show bS xs ys _ j=_;rw[yU];rfl
def B5(xs ys:List Int)(k x:Int):dH xs ys x (List.replicate k.toNat 0 ++ List.replicate (-k).toNat 2)=ae.pw xs k x:=by rw[tK,Jd,Jd];unfold ae.pw;split;rw[show(-k).toNat=0 by lk];rfl;rw[show k.toNat=0 by lk];rfl
def Xdr(xs ys:List Int)(k x:Int):dH xs ys x (List.replicate k.toNat 2 ++ List.replicate (-k).toNat 0)=ae.pw xs (-k) x:=by rw[tK,Jd,Jd];unfold ae.pw;split;rw[show k.toNat=0 by lk];rfl;rw[show(-k).toNat=0 by lk,show(- -k).toNat=k.toNat by lk];rfl
def Dp{n:Nat}{xs ys:List Int}(tx:ae.Tn n xs)(ty:ae.Tn n ys)(k:Int){x:Int}(x0:0<=x)(x1:x<(n:Int)){j:Nat}(hj:j<4):bS xs (ae.shr xs ys k) x j=dH xs ys x (iz k j):=by
 have c:j=0\/j=1\/j=2\/j=3:=by lk
 rcases c with rfl|rfl|rfl|rfl
 rfl;show _=dH xs ys x (List.replicate k.toNat 2 ++ List.replicate (-k).toNat 0 ++ [1]);rw[tK,Xdr];exact tx.lU x0 x1;rfl;show ae.app (ae.inv (ae.shr xs ys k)) x=dH xs ys (ae.app (ae.inv ys) x) (List.replicate k.toNat 0 ++ List.replicate (-k).toNat 2);rw[B5];obtain⟨b0,b1⟩:=ty.bQ.app x0 x1;obtain⟨c0,c1⟩:=tx.pw b0 b1 k;have:=(tx.shr ty k).bg c0 c1;rw[tx.lU c0 c1,tx.pw_add b0 b1,show -k+k=0 by lk,ae.XG,ty.a9 x0 x1]at this;exact this
def Zcb{n:Nat}{xs ys:List Int}(ty:ae.Tn n ys)(x:Int){j:Nat}(hj:j<4):bS (ae.inv ys) xs x j=bS xs ys x ((j+3) % 4):=by
 have c:j=0\/j=1\/j=2\/j=3:=by lk
 rcases c with rfl|rfl|rfl|rfl
 rfl;rfl;show ae.app (ae.inv (ae.inv ys)) x=ae.app ys x;rw[ty.inv_inv];rfl
def Xc5(g:Nat->List Nat)(js:List Nat):Str.join (Str.ofString "") (js.map λj=>ax (g j))=ax (js.flatMap g):=by
 have e:(js.map λj=>ax (g j))=(js.map λj=>(g j).map iT).map sO:=by rw[ZaA];rfl
 rw[e,show(Str.ofString "")=sO []from rfl,vt];unfold ax
 congr 1
 rw[<- List.flatMap_def,List.map_flatMap]
def US{st:Store}{Q:D->Store->Prop}{k:Nat}{g:Nat->List Nat}{js:List Nat}(h:items st k=some ((js.map λj=>ax (g j)).map D.str))(hl:js.length<=50000)(ht:(js.flatMap g).length<=100000):Wp (kY (.str (Str.ofString "")) [.ref k] st) Q↔Q (.str (ax (js.flatMap g))) st:=by
 have e:((js.map λj=>ax (g j)).map (·.length)).sum=(js.flatMap g).length:=by
  rw[List.length_flatMap,ZaA]
  congr 1
  exact ZaT λj _=>tJ (g j)
 rw[Ta h ∅ (by rw[e,Zaa];lk),Xc5]
def UT(j:Nat)(m:Nat):vw (ax [j]) m=ax (List.replicate m j):=by
 unfold vw ax;rw[S6]
 congr 1
 induction m with
 |zero=>rfl
 |succ m ih=>rw[ZaK,ZaQ,ih];rfl
def Je(a:bK)(c:Nat×Nat):c.1+c.2<=(gv a c).1+(gv a c).2:=by unfold gv;split;show _<=c.1+a.2.natAbs*c.2+c.2;lk;split;show _<=c.2+c.1;lk;exact Zab _
def Po:∀(w:List bK) (c:Nat×Nat),c.1+c.2<=(gw w c).1+(gw w c).2
 |[],_=>Zab _
 |a :: w,c=>Zaw (Po w c) (Je a (gw w c))
def UU(h v:Nat):∀w:List bK,gw w (h,v)=(h*(gw w (1,0)).1+v*(gw w (0,1)).1,h*(gw w (1,0)).2+v*(gw w (0,1)).2)
 |[]=>by show(h,v)=(h*1+v*0,h*0+v*1);simp
 |a :: w=>by
  show gv a (gw w (h,v))=(h*(gv a (gw w (1,0))).1+v*(gv a (gw w (0,1))).1,h*(gv a (gw w (1,0))).2+v*(gv a (gw w (0,1))).2);rw[UU h v w];unfold gv;split;simp only[Zb6,and_true];simp only[ZcJ,Nat.mul_left_comm];lk;split;rfl;rfl
abbrev Nm(w:List bK):Prop:=∀c,c=(1,0)\/c=(0,1)->(gw w c).1+(gw w c).2<=443
def Nm.le{w:List bK}(h:Nm w)(c:Nat×Nat):(gw w c).1+(gw w c).2<=443*(c.1+c.2):=by have e:=UU c.1 c.2 w;have h1:=h (1,0) (.inl rfl);have h2:=h (0,1) (.inr rfl);rw[show(c.1,c.2)=c from rfl]at e;rw[e];have a:=Zbj c.1 h1;have b:=Zbj c.2 h2;simp only[ZcJ]at a b ⊢;lk
def UW:∀(w:List bK),1<=(gw w (1,1)).1/\1<=(gw w (1,1)).2
 |[]=>⟨Zab _,Zab _⟩
 |a :: w=>by
  obtain⟨h1,h2⟩:=UW w;show 1<=(gv a (gw w (1,1))).1/\1<=(gv a (gw w (1,1))).2;unfold gv;split;exact⟨by show 1<=_+_;lk,h2⟩;split;exact⟨h2,h1⟩;exact⟨h1,h2⟩
def Nm.num{w:List bK}(h:Nm w)(hp:∀s∈w,ae.eV s){s:bK}(hs:s∈w):s.2.natAbs<=886:=by
 obtain⟨b,k⟩:=s;cases b with
 |false=>have:1<=k/\k<=3:=(hp _ hs).1 rfl;show k.natAbs<=886;lk
 |true =>
  obtain⟨u,t,rfl⟩:=List.append_of_mem hs;have h2:=h.le (1,1);rw[BQ]at h2;have u1:=Po u (gw ((true,k) :: t) (1,1));have o:=(UW t).2;have e:(gw ((true,k) :: t) (1,1)).1=(gw t (1,1)).1+k.natAbs*(gw t (1,1)).2:=rfl;have:k.natAbs*1<=k.natAbs*(gw t (1,1)).2:=Zbj _ o;have h2:(gw u (gw ((true,k) :: t) (1,1))).1+(gw u (gw ((true,k) :: t) (1,1))).2<=886:=h2;show k.natAbs<=886;lk
def yds{a:bK}(h:a.1=true->a.2.natAbs<=3)(c:Nat×Nat):(gv a c).1+(gv a c).2<=4*(c.1+c.2):=by
 unfold gv;split
 ·next z =>
  have:a.2.natAbs*c.2<=3*c.2:=Zbq _ (h z);show c.1+a.2.natAbs*c.2+c.2<=_;lk
 ·split
  ·show c.2+c.1<=_;lk
  ·lk
def UX:∀{w:List bK},(∀a∈w,a.1=true->a.2.natAbs<=3)->∀c:Nat×Nat,(gw w c).1+(gw w c).2<=4 ^ w.length*(c.1+c.2)
 |[],_,c=>by show c.1+c.2<=1*(c.1+c.2);lk
 |a :: w,h,c=>by
  have h1:=yds (h a Zaf) (gw w c);have h2:=UX (w:=w) (λb hb=>h b (Zah _ hb)) c;show(gv a (gw w c)).1+(gv a (gw w c)).2<=4 ^ (w.length+1)*(c.1+c.2);rw[Nat.pow_succ,Zcx (4 ^ w.length) 4,Nat.mul_assoc];lk
def zc6{w:List bK}(h:∀s∈w,xv 3 s)(hl:w.length<=4):Nm w:=λc hc=>by
 have a:=UX (w:=w) (λs hs z=>by have:=(h s hs).2.1 z;lk) c;have b:4 ^ w.length<=4 ^ 4:=Nat.pow_le_pow_right ∅ hl;have e:c.1+c.2=1:=by rcases hc with rfl|rfl<;>rfl
 rw[e,Zck]at a;lk
abbrev hc:List Nat->Nat×Nat
 |[]=>(0,0)
 |j :: r=>((hc r).1+(j+1) % 2,(hc r).2+j % 2)
def Dq:∀a b:List Nat,hc (a ++ b)=((hc a).1+(hc b).1,(hc a).2+(hc b).2)
 |[],b=>by show hc b=(0+_,0+_);simp
 |j :: a,b=>by
  show((hc (a ++ b)).1+_,(hc (a ++ b)).2+_)=((hc a).1+_+_,(hc a).2+_+_);rw[Dq a b];simp only[Zb6];lk
def LV:∀a:List Nat,(hc a).1+(hc a).2=a.length
 |[]=>rfl
 |j :: a=>by
  have:=LV a;show(hc a).1+(j+1) % 2+((hc a).2+j % 2)=a.length+1;lk
def Jf(j:Nat)(h:j % 2=0):∀m,hc (List.replicate m j)=(m,0)
 |0=>rfl
 |m+1=>by
  show((hc (List.replicate m j)).1+(j+1) % 2,(hc (List.replicate m j)).2+j % 2)=_;rw[Jf j h m];simp only[Zb6];lk
def Jg(k:Int){j:Nat}(hj:j<4):hc (iz k j)=((j+1) % 2+k.natAbs*(j % 2),j % 2):=by
 rcases(show j=0\/j=1\/j=2\/j=3 by lk)with rfl|rfl|rfl|rfl
 show((0+1:Nat),(0:Nat))=(1+k.natAbs*0,0);simp;show hc (List.replicate k.toNat 2 ++ List.replicate (-k).toNat 0 ++ [1])=(0+k.natAbs*1,1);rw[Dq,Dq,Jf 2 rfl,Jf 0 rfl];have e:k.toNat+(-k).toNat=k.natAbs:=by lk
 show(k.toNat+(-k).toNat+0,0+0+1)=(0+k.natAbs*1,1);rw[e,Zck,Nat.add_comm 0 k.natAbs];show((0+1:Nat),(0:Nat))=(1+k.natAbs*0,0);simp;show((hc (List.replicate k.toNat 0 ++ List.replicate (-k).toNat 2)).1+0,(hc (List.replicate k.toNat 0 ++ List.replicate (-k).toNat 2)).2+1)=(0+k.natAbs*1,1);rw[Dq,Jf 0 rfl,Jf 2 rfl];have e:k.toNat+(-k).toNat=k.natAbs:=by lk
 show(k.toNat+(-k).toNat+0,0+0+1)=(0+k.natAbs*1,1);rw[e,Zck,Nat.add_comm 0 k.natAbs]
def UY(k:Int):∀{js:List Nat},(∀j∈js,j<4)->hc (js.flatMap (iz k))=gv (true,k) (hc js)
 |[],_=>rfl
 |j :: js,hj=>by
  rw[ZaV,Dq,UY k λi hi=>hj i (Zah _ hi),Jg k (hj j Zaf)];show((j+1) % 2+k.natAbs*(j % 2)+((hc js).1+k.natAbs*(hc js).2),j % 2+(hc js).2)=((hc js).1+(j+1) % 2+k.natAbs*((hc js).2+j % 2),(hc js).2+j % 2);simp only[Zb6,ZcJ];lk
def UZ:∀js:List Nat,hc (js.flatMap λj=>[(j+3) % 4])=((hc js).2,(hc js).1)
 |[]=>rfl
 |j :: js=>by
  rw[ZaV,Dq,UZ js];show(0+((j+3) % 4+1) % 2+(hc js).2,0+((j+3) % 4) % 2+(hc js).1)=((hc js).2+j % 2,(hc js).1+(j+1) % 2);simp only[Zb6];lk
def Zds{a:bK}(ha:a.1=false->1<=a.2/\a.2<=3){js:List Nat}(hj:∀j∈js,j<4):hc (pH a js)=gv a (hc js):=by
 obtain⟨b,k⟩:=a;cases b with
 |true=>rw[Pj];exact UY k hj
 |false =>
  have hk:1<=k/\k<=3:=ha rfl;have key:∀m,hc (qh (kZ (false,k)) m js)=if m % 2=1 then((hc js).2,(hc js).1)else hc js:=λm=>by
   induction m with
   |zero=>rfl
   |succ m ih =>
    have e:qh (kZ (false,k)) (m+1) js=(qh (kZ (false,k)) m js).flatMap λj=>[(j+3) % 4]:=rfl;rw[e,UZ,ih];by_cases z:m % 2=1;rw[if_pos z,if_neg ⋯];rw[if_neg z,if_pos ⋯]
  show hc (qh (kZ (false,k)) k.natAbs js)=if k.toNat % 2=1 then((hc js).2,(hc js).1)else hc js
  rw[key,show k.natAbs=k.toNat by lk]
def U0{w:List bK}(hw:∀s∈w,ae.eV s){js:List Nat}(hj:∀j∈js,j<4):hc (carry w.reverse js)=gw w (hc js):=by
 induction w with
 |nil=>rfl
 |cons a w ih =>
  rw[Zbb,Pn,Zds (hw a Zaf).1 (Jc _ hj),ih λs hs=>hw s (Zah _ hs)];rfl
abbrev xC(k:Int):List (Key×D):=[(.inr "r",.str (ax (iz k 0))),(.inr "l",.str (ax (iz k 2))),(.inr "u",.str (ax (iz k 1))),(.inr "d",.str (ax (iz k 3)))]
def Pp(k:Int){j:Nat}(hj:j<4):cK (xC k) (.inr (bu j))=some (.str (ax (iz k j))):=by
 have c:j=0\/j=1\/j=2\/j=3:=by lk
 rcases c with rfl|rfl|rfl|rfl<;>rfl
abbrev B6(K:List (Key×D)):D->D:=λd=>match d with|.str x=>(match cK K (.inr x)with|some y=>y|none=>.non)|_=>.non
def Yds{K:List (Key×D)}{g:Nat->List Nat}{js:List Nat}(hK:∀j,j<4->cK K (.inr (bu j))=some (.str (ax (g j))))(hj:∀j∈js,j<4):(js.map λj=>D.str (bu j)).map (B6 K)=(js.map λj=>ax (g j)).map D.str:=by rw[ZaA,ZaA];refine ZaT λj hj'=>?_;show(match cK K (.inr (bu j))with|some y=>y|none=>.non)=D.str (ax (g j));rw[hK j (hj j hj')]
def xb0{st:Store}{k:Int}{js:List Nat}(hk:k.natAbs<=1000)(hj:∀j∈js,j<4)(hl:js.length<=50000)(ht:(js.flatMap (iz k)).length<=50000):Wp (Li [.int k,.str (ax js)] st) λd st'=>d=.str (ax (js.flatMap (iz k)))/\Ex [] st st':=by
 refine mM ?_;show Ws (Lh [some (.int k),some (.str (ax js)),none,none,none] st) _ _ _ _;unfold Lh;have el:(D.str (Str.ofString "l"))=.str (ax [2]):=rfl;have er:(D.str (Str.ofString "r"))=.str (ax [0]):=rfl;have eu:(D.str (Str.ofString "u"))=.str (ax [1]):=rfl;have ed:(D.str (Str.ofString "d"))=.str (ax [3]):=rfl;refine aO (bt ?_);exists _,Z,Oc,Bv,el,er,UT,BV,tJ,ZaG;refine⟨⟨by simp,by lk,by lk⟩,⟨by simp,by lk,by lk⟩,i9 ⋯,?_⟩;refine Z _ _ (aO (bt ?_));clear Z;exists _,Z,Oc,Bv,el,er,UT,BV,tJ,ZaG;refine⟨⟨by simp,by lk,by lk⟩,⟨by simp,by lk,by lk⟩,i9 ⋯,?_⟩;refine Z _ _ (aO (bt ?_));clear Z;exists _,Z,Oc,Bv,eu,ed,BV,tJ,ZaG;have ll:(List.replicate k.toNat 2 ++ List.replicate (-k).toNat 0:List Nat).length<=2000:=by rw[Zak,ZaG,ZaG];lk
 have lr:(List.replicate k.toNat 0 ++ List.replicate (-k).toNat 2:List Nat).length<=2000:=by rw[Zak,ZaG,ZaG];lk
 refine⟨i9 (by rw[ZaC];lk),i9 (by rw[ZaC];lk),jW,xC k,rfl,(show 4<=15 by decide),?_⟩;rw[SF];refine Z _ _ (cZ ?_);k_lt2 Z;refine⟨rfl,?_⟩;refine Bu (js.map λj=>.str (bu j)) (B6 (xC k)) ?_ (by rw[Zaa];lk) ?_ ?_;exists _,cH,CV;rw[Dg js hj,tJ];exact⟨by lk,cH _ _ ⟨vW _ _,Ex.refl⟩⟩;intro d hd s5 k5;obtain⟨j,hj',rfl⟩:=ZaP.mp hd;have sH:=hj j hj';exists _,cH,Zav,Za3,Zbc,Zbd;refine⟨xC k,sE (k5.keep _ _ jW (by simp)),_,rfl,_,Pp k sH,cH _ _ ⟨?_,Ex.refl⟩⟩;unfold B6;simp only[Pp k sH];intro s5 k5;rw[Yds (g:=iz k) (λj hj=>Pp k hj) hj,US vV hl ⋯];exact Z _ _ ⟨rfl,((Ex.cE _).trans k5).app _⟩
abbrev uu:List (Str×TV):=[("r",.str "d"),("l",.str "u"),("u",.str "r"),("d",.str "l")]
def Pq{j:Nat}(hj:j<4):mz uu (bu j)=some (.str (ax [(j+3) % 4])):=by
 have c:j=0\/j=1\/j=2\/j=3:=by lk
 rcases c with rfl|rfl|rfl|rfl<;>rfl
def xbA{st:Store}{k:Int}{js:List Nat}(k1:1<=k)(k2:k<=3)(hj:∀j∈js,j<4)(hl:js.length<=50000):Wp (Lk [.int k,.str (ax js)] st) λd st'=>d=.str (ax (pH (false,k) js))/\Ex [] st st':=by
 obtain⟨m,rfl⟩:∃m:Nat,k=(m:Int):=⟨k.toNat,by lk⟩;refine mM ?_;show Ws (HW [some (.int (m:Int)),some (.str (ax js)),none,none] st) _ _ _ _;unfold HW;refine aO (bt ?_);k_lt Z;refine Z _ _ (aO (lA (aF 0 m) (λi δ s2=>∃v3:Option D,δ=[some (.int (m:Int)),some (.str (ax js)),some (.str (ax (qh (kZ (false,(m:Int))) i js))),v3]/\Ex [] st s2) ?_ (by rw[gh];lk) ?_ ?_));k_lt2 Z;exact⟨by lk,Z _ _ ⟨by rw[Zae],none,rfl,Ex.refl⟩⟩;clear Z;rintro i d δ s2 hd ⟨v3,rfl,k2⟩;have hj2:=Pm (false,(m:Int)) hj i;have hl2:=UR (s:=(false,(m:Int))) rfl js i;have el:kZ (false,(m:Int))=λj=>[(j+3) % 4]:=by funext j;unfold kZ;rw[if_neg (show ¬(false=true)from Zal)]
 generalize hI:qh (kZ (false,(m:Int))) i js=xD at hj2 hl2;have eI:qh (kZ (false,(m:Int))) (i+1) js=xD.flatMap λj=>[(j+3) % 4]:=by
  show(qh (kZ (false,(m:Int))) i js).flatMap (kZ (false,(m:Int)))=_;rw[hI,el]
 k_lt Z;refine Z _ _ (bt ?_);k_lt2 Z;refine⟨rfl,?_⟩;refine Bu (xD.map λj=>.str (bu j)) (λd=>match d with|.str x=>(match mz uu x with|some y=>vX y|none=>.non)|_=>.non) ?_ (by rw[Zaa];lk) ?_ ?_;exists _,cH,CV;rw[Dg xD hj2,tJ];exact⟨by lk,cH _ _ ⟨vW _ _,Ex.refl⟩⟩;intro d hd s5 k5;obtain⟨j,hj',rfl⟩:=ZaP.mp hd;have sH:=hj2 j hj';exists _,cH,Ol;refine⟨_,Pq sH,cH _ _ ⟨?_,Ex.refl⟩⟩;simp only[Pq sH];intro s5 k5;have em:(xD.map λj=>D.str (bu j)).map (λd=>match d with|.str x=>(match mz uu x with|some y=>vX y|none=>.non)|_=>.non)=(xD.map λj=>ax [(j+3) % 4]).map D.str:=by
  rw[ZaA,ZaA];refine ZaT λj hj'=>?_;show(match mz uu (bu j)with|some y=>vX y|none=>.non)=D.str (ax [(j+3) % 4]);rw[Pq (hj2 j hj')];rfl
 rw[em,US (g:=λj=>[(j+3) % 4]) vV ⋯ (Zaw (Pk (c:=1) (λj=>by simp) xD) ⋯)];exact Z _ _ ⟨_,by rw[eI];rfl,(k2.trans k5).app _⟩;clear Z;rintro δ s2 ⟨v3,rfl,k2⟩;rw[gh];refine cZ ?_;k_lt Z;exact Z _ _ ⟨by unfold pH;rfl,k2⟩
def U1{st:Store}{w:List bK}{js:List Nat}(hw:∀s∈w,ae.eV s/\s.2.natAbs<=1000)(h4:w.length<=60)(hj:∀j∈js,j<4)(hb:(gw w (hc js)).1+(gw w (hc js)).2<=50000):Wp (BF [.tup (w.map bG),.str (ax js)] st) λd st'=>d=.str (ax (carry w.reverse js))/\Ex [] st st':=by
 refine mM ?_;show Ws (HY [some (.tup (w.map bG)),some (.str (ax js)),none,none] st) _ _ _ _;unfold HY;refine aO (bt ?_);k_lt Z;have hlen:∀i,(carry (w.reverse.take i) js).length<=50000:=λi=>by
  rw[List.take_reverse,<- LV,U0 (λs hs=>(hw s (ZcE hs)).1) hj];have u:=Po (w.take (w.length-i)) (gw (w.drop (w.length-i)) (hc js));rw[<- BQ,List.take_append_drop]at u;lk
 refine Z _ _ (aO (lA (w.reverse.map bG) (λi δ s2=>∃v3:Option D,δ=[some (.tup (w.map bG)),some (.str (ax js)),some (.str (ax (carry (w.reverse.take i) js))),v3]/\Ex [] st s2) ?_ (by rw[Zaa,ZaO];lk) ?_ ?_));clear Z;exists _,Z,Oh;refine⟨_,rfl,Z _ _ ⟨?_,none,rfl,Ex.refl⟩⟩;rw[Zb3];clear Z;rintro i d δ s2 hd ⟨v3,rfl,k2⟩;rw[Zaj]at hd;obtain⟨s,hs,rfl⟩:=Zax.mp hd;obtain⟨hil,es⟩:=Zad.mp hs;have hos:=hw s (Zb2.mp (Zas hs));have ec:carry (w.reverse.take (i+1)) js=pH s (carry (w.reverse.take i) js):=by rw[ZaD hil,Pn,es]
 have hlt:=Jc (w.reverse.take i) hj;have hle:=hlen i;have B7:=hlen (i+1);rw[ec]at B7;generalize carry (w.reverse.take i) js=xD at ec hlt hle B7 ⊢;obtain⟨b,k⟩:=s;obtain⟨⟨hk1,hk3⟩,hk2⟩:=hos;simp only at hk1 hk2 hk3;k_lt Z;refine Z _ _ (gi ?_);clear Z;cases b with
 |true =>
  exists _,Z,show bG (true,k)=.tup [.str "s",.int k]from rfl;refine Z _ _ ⟨λ_=>bt ?_,λz=>absurd z ∅⟩;clear Z;exists _,Z,show bG (true,k)=.tup [.str "s",.int k]from rfl;refine aR (xb0 (k:=k) (js:=xD) ⋯ hlt ⋯ (by rw[<- Pj];exact B7)) ?_;rintro d s3 ⟨rfl,k3⟩;refine Z _ _ ⟨some (bG (true,k)),?_,k2.trans k3⟩;rw[ec,Pj];rfl
 |false =>
  exists _,Z,show bG (false,k)=.tup [.str "t",.int k]from rfl;refine Z _ _ ⟨λz=>absurd z ∅,λ_=>bt ?_⟩;clear Z;exists _,Z,show bG (false,k)=.tup [.str "t",.int k]from rfl;refine aR (xbA (k:=k) (js:=xD) (hk1 rfl).1 (hk1 rfl).2 hlt ⋯) ?_;rintro d s3 ⟨rfl,k3⟩;refine Z _ _ ⟨some (bG (false,k)),?_,k2.trans k3⟩;rw[ec];rfl
 clear Z;rintro δ s2 ⟨v3,rfl,k2⟩;rw[Zaa,Za8];refine cZ ?_;k_lt Z;exact Z _ _ ⟨rfl,k2⟩
abbrev qQ(a:bK):Prop:=a=(true,1)\/a=(true,-1)\/a=(false,1)
def yc6{a b:bK}(hb:a.1=false->1<=a.2/\a.2<=3)(h:b∈ae.br a):qQ b:=by
 have e:=List.eq_of_mem_replicate h;obtain⟨c,k⟩:=a;cases c with
 |true=>by_cases z:k<0<;>simp[z]at e<;>simp[qQ,e]
 |false =>
  have:=hb rfl;rw[if_neg (show ¬((false,k):bK).2<0 by show ¬k<0;have:1<=k:=this.1;lk)]at e;exact .inr (.inr e)
abbrev B8(p:ae.cU)(s:ae.Se)(t:Int):Nat->Int
 |0=>s.2 (ae.app p.1 t)
 |1=>-(s.1 (ae.app p.2 t))
 |2=>-(s.2 t)
 |_=>s.1 t
abbrev o4(p:ae.cU)(s:ae.Se):Int->List Nat->Int
 |_,[]=>0
 |t,j :: r=>B8 p s t j+o4 p s (bS p.1 p.2 t j) r
def U2(p:ae.cU)(s:ae.Se):∀(t:Int) (a b:List Nat),o4 p s t (a ++ b)=o4 p s t a+o4 p s (dH p.1 p.2 t a) b
 |t,[],b=>by show _=0+_;rw[Za9];rfl
 |t,j :: a,b=>by
  show _+o4 p s (bS p.1 p.2 t j) (a ++ b)=_+_+o4 p s (dH p.1 p.2 (bS p.1 p.2 t j) a) b;rw[U2 p s _ a b,Int.add_assoc]
abbrev zd(p:ae.cU)(a:bK)(s:ae.Se)(t:Int):Int:=if a.1=true then(if 0<a.2 then s.2 (ae.app p.1 t)else -(s.2 t))else 0
def xds{n:Nat}{p:ae.cU}(h:ae.Vf n p){a:bK}(ha:qQ a){t:Int}(t0:0<=t)(t1:t<(n:Int)){j:Nat}(hj:j<4):bS (ae.stM p a).1 (ae.stM p a).2 t j=dH p.1 p.2 t (kZ a j):=by
 rcases ha with rfl|rfl|rfl
 exact Dp h.1 h.2 1 t0 t1 hj;exact Dp h.1 h.2 (-1) t0 t1 hj;exact Zcb h.2 t hj
def B9{n:Nat}{p:ae.cU}(h:ae.Vf n p){a:bK}(ha:qQ a)(s:ae.Se){t:Int}(t0:0<=t)(t1:t<(n:Int)){j:Nat}(hj:j<4):o4 p (ae.rS p a s) t (kZ a j)=B8 (ae.stM p a) s t j+zd p a s (dH p.1 p.2 t (kZ a j))-zd p a s t:=by
 have c:j=0\/j=1\/j=2\/j=3:=by lk
 have xi:=h.1.bg t0 t1;have ix:=h.1.a9 t0 t1;have yi:=h.2.bg t0 t1;rcases ha with rfl|rfl|rfl
 have ey:ae.app (ae.stM p (true,1)).2 t=ae.app p.2 (ae.app (ae.inv p.1) t):=Dp h.1 h.2 1 t0 t1 (j:=1) ∅;rcases c with rfl|rfl|rfl|rfl
 show s.2 (ae.app p.1 (ae.app p.1 t))+0=s.2 (ae.app p.1 t)+s.2 (ae.app p.1 (ae.app p.1 t))-s.2 (ae.app p.1 t);lk;show -(s.2 (ae.app p.1 t))+(-(s.1 (ae.app p.2 (ae.app (ae.inv p.1) t))-s.2 (ae.app p.1 (ae.app p.2 (ae.app (ae.inv p.1) t))))+0)=-(s.1 (ae.app (ae.stM p (true,1)).2 t))+s.2 (ae.app p.1 (ae.app p.2 (ae.app (ae.inv p.1) t)))-s.2 (ae.app p.1 t);rw[ey];lk;show -(s.2 (ae.app p.1 t))+0=-(s.2 t)+s.2 (ae.app p.1 (ae.app (ae.inv p.1) t))-s.2 (ae.app p.1 t);rw[ix];lk;show s.1 t-s.2 (ae.app p.1 t)+(s.2 (ae.app p.1 (ae.app p.1 (ae.app (ae.inv p.2) t)))+0)=s.1 t+s.2 (ae.app p.1 (ae.app p.1 (ae.app (ae.inv p.2) t)))-s.2 (ae.app p.1 t);lk;have ey:ae.app (ae.stM p (true,-1)).2 t=ae.app p.2 (ae.app p.1 t):=Dp h.1 h.2 (-1) t0 t1 (j:=1) ∅;rcases c with rfl|rfl|rfl|rfl
 show s.2 (ae.app (ae.inv p.1) (ae.app p.1 t))+0=s.2 (ae.app p.1 t) + -(s.2 (ae.app p.1 t)) - -(s.2 t);rw[xi];lk;show s.2 (ae.app (ae.inv p.1) (ae.app p.1 t))+(-(s.1 (ae.app p.2 (ae.app p.1 t))+s.2 (ae.app p.2 (ae.app p.1 t)))+0)=-(s.1 (ae.app (ae.stM p (true,-1)).2 t)) + -(s.2 (ae.app p.2 (ae.app p.1 t))) - -(s.2 t);rw[xi,ey];lk;show -(s.2 (ae.app (ae.inv p.1) t))+0=-(s.2 t) + -(s.2 (ae.app (ae.inv p.1) t)) - -(s.2 t);lk;show s.1 t+s.2 t+(-(s.2 (ae.app (ae.inv p.1) (ae.app (ae.inv p.2) t)))+0)=s.1 t + -(s.2 (ae.app (ae.inv p.1) (ae.app (ae.inv p.2) t))) - -(s.2 t);lk;rcases c with rfl|rfl|rfl|rfl
 show s.2 (ae.app (ae.inv p.2) t)+0=s.2 (ae.app (ae.inv p.2) t)+0-0;lk;show -(s.1 (ae.app p.1 t))+0=-(s.1 (ae.app p.1 t))+0-0;lk;show -(s.2 (ae.app (ae.inv p.2) (ae.app p.2 t)))+0=-(s.2 t)+0-0;rw[yi];lk;show - -(s.1 t)+0=s.1 t+0-0;lk
def U3{n:Nat}{p:ae.cU}(h:ae.Vf n p)(a:bK):ae.Vf n (ae.stM p a):=h.st a
def U4{n:Nat}{p:ae.cU}(h:ae.Vf n p){a:bK}(ha:qQ a)(s:ae.Se):∀(js:List Nat) {t:Int},0<=t->t<(n:Int)->(∀j∈js,j<4) ->
  dH p.1 p.2 t (js.flatMap (kZ a))=dH (ae.stM p a).1 (ae.stM p a).2 t js/\o4 p (ae.rS p a s) t (js.flatMap (kZ a))=o4 (ae.stM p a) s t js+zd p a s (dH (ae.stM p a).1 (ae.stM p a).2 t js)-zd p a s t
 |[],t,_,_,_=>⟨rfl,by show 0=0+zd p a s t-zd p a s t;lk⟩
 |j :: js,t,t0,t1,hj=>by
  have hj0:=hj j Zaf;have e:=xds h ha t0 t1 hj0;have hb:=Dh h.1 h.2 (kZ a j) t0 t1;obtain⟨i1,i2⟩:=U4 h ha s js hb.1 hb.2 λi hi=>hj i (Zah _ hi);have c:=B9 h ha s t0 t1 hj0;rw[ZaV,tK,U2,i1,i2,c];show _/\_=B8 (ae.stM p a) s t j+o4 (ae.stM p a) s (bS (ae.stM p a).1 (ae.stM p a).2 t j) js+zd p a s (dH (ae.stM p a).1 (ae.stM p a).2 (bS (ae.stM p a).1 (ae.stM p a).2 t j) js)-zd p a s t;rw[e];refine⟨?_,by lk⟩;show _=dH (ae.stM p a).1 (ae.stM p a).2 (bS (ae.stM p a).1 (ae.stM p a).2 t j) js;rw[e]
abbrev nX:List bK->List Nat->List Nat
 |[],js=>js
 |a :: w,js=>(nX w js).flatMap (kZ a)
def Zc6(u v:List bK)(js:List Nat):nX (u ++ v) js=nX u (nX v js):=by
 induction u with
 |nil=>rfl
 |cons a u ih=>show(nX (u ++ v) js).flatMap _=_;rw[ih];rfl
def U5(a:bK)(js:List Nat):∀k,nX (List.replicate k a) js=qh (kZ a) k js
 |0=>rfl
 |k+1=>by
  show(nX (List.replicate k a) js).flatMap (kZ a)=(qh (kZ a) k js).flatMap (kZ a);rw[U5 a js k]
def YcR(a:bK)(js:List Nat):nX (ae.br a) js=pH a js:=by
 unfold ae.br;rw[U5];unfold pH
 congr 1
 funext j
 unfold kZ;by_cases h:a.2<0<;>simp[h]
def U6:∀(w:List bK) (js:List Nat),carry w.reverse js=nX (w.flatMap ae.br) js
 |[],_=>rfl
 |a :: w,js=>by rw[Zbb,Pn,U6 w js,ZaV,Zc6,YcR]
def Pr{w:List bK}{js:List Nat}(hj:∀j∈js,j<4):∀i∈nX w js,i<4:=by
 induction w with
 |nil=>exact hj
 |cons a w ih=>exact zc (UQ a) ih
def LW{n:Nat}(s:ae.Se):∀(w:List bK) {p:ae.cU},ae.Vf n p->(∀a∈w,qQ a)->∀{js:List Nat} {t:Int},(∀j∈js,j<4)->0<=t->t<(n:Int) ->
  dH p.1 p.2 t (nX w js)=dH (ae.b7 p w).1 (ae.b7 p w).2 t js/\(dH (ae.b7 p w).1 (ae.b7 p w).2 t js=t->o4 p (ae.cS p w s) t (nX w js)=o4 (ae.b7 p w) s t js)
 |[],p,_,_,js,t,_,_,_=>⟨rfl,λ_=>rfl⟩
 |a :: w,p,h,hw,js,t,hj,t0,t1=>by
  have ha:=hw a Zaf;obtain⟨i1,i2⟩:=LW s w (U3 h a) (λb hb=>hw b (Zah _ hb)) hj t0 t1;obtain⟨r1,r2⟩:=U4 h ha (ae.cS (ae.stM p a) w s) (nX w js) t0 t1 (Pr hj);refine⟨r1.trans i1,λhc=>?_⟩;have hc:dH (ae.b7 (ae.stM p a) w).1 (ae.b7 (ae.stM p a) w).2 t js=t:=hc;show o4 p (ae.rS p a (ae.cS (ae.stM p a) w s)) t ((nX w js).flatMap (kZ a))=o4 (ae.b7 (ae.stM p a) w) s t js;rw[r2,i2 hc,i1,hc];lk
abbrev nY(n:Nat)(s:ae.Se):List Int:=(ae.upto n).map s.1 ++ (ae.upto n).map s.2
def Ca(n:Nat)(s:ae.Se):(nY n s).length=2*n:=by unfold nY;rw[Zak,Zaa,Zaa,ae.tW];lk
def Jh(n:Nat)(s:ae.Se):gZ n s=.tup ((nY n s).map D.int):=by unfold gZ nY sL;rw[Zay,ZaA,ZaA];rfl
def ze{n:Nat}{s:ae.Se}{u:Int}(u0:0<=u)(u1:u<(n:Int)):ae.app (nY n s) u=s.1 u/\ae.app (nY n s) ((n:Int)+u)=s.2 u:=by
 have hl:=Ca n s;have g:(ae.upto n)[u.toNat]?=some u:=by
  have:=ae.Cz (n:=n) (i:=u.toNat) ⋯
  rwa [Zat u0]at this
 have e1:=ae.nE (xs:=nY n s) (i:=u) u0 ⋯;have e2:=ae.nE (xs:=nY n s) (i:=(n:Int)+u) ⋯ ⋯;have hm:((ae.upto n).map s.1).length=n:=by rw[Zaa,ae.tW]
 unfold nY at e1 e2;rw[ZaH ⋯,Zaj,g]at e1;rw[ZaB ⋯,hm,show((n:Int)+u).toNat-n=u.toNat by lk,Zaj,g]at e2;exact⟨(Zai e1).symm,(Zai e2).symm⟩
def Ji{n:Nat}{p:ae.cU}(h:ae.Vf n p)(s:ae.Se):∀(js:List Nat) {t:Int},0<=t->t<(n:Int)->(∀j∈js,j<4)->ny p.1 p.2 n (nY n s) t js=o4 p s t js
 |[],_,_,_,_=>rfl
 |j :: js,t,t0,t1,hj=>by
  have hb:=ug (j:=j) h.1 h.2 t0 t1;show lh j*ae.app (nY n s) (hU p.1 p.2 n t j)+ny p.1 p.2 n (nY n s) (bS p.1 p.2 t j) js=B8 p s t j+o4 p s (bS p.1 p.2 t j) js;rw[Ji h s js hb.1 hb.2 λi hi=>hj i (Zah _ hi)]
  congr 1
  have hj0:=hj j Zaf;obtain⟨x0,x1⟩:=h.1.app t0 t1;obtain⟨y0,y1⟩:=h.2.app t0 t1;rcases(show j=0\/j=1\/j=2\/j=3 by lk)with rfl|rfl|rfl|rfl
  show 1*ae.app (nY n s) ((n:Int)+ae.app p.1 t)=s.2 (ae.app p.1 t);rw[(ze x0 x1).2];lk;show(-1)*ae.app (nY n s) (ae.app p.2 t)=-(s.1 (ae.app p.2 t));rw[(ze y0 y1).1];lk;show(-1)*ae.app (nY n s) ((n:Int)+t)=-(s.2 t);rw[(ze t0 t1).2];lk;show 1*ae.app (nY n s) t=s.1 t;rw[(ze t0 t1).1];lk
abbrev SU(n:Nat)(F:Int->Int):Int:=((ae.upto n).map F).sum
def Yc6{a b:List Int}(h:a.Perm b):a.sum=b.sum:=by
 induction h with
 |nil=>rfl
 |cons x _ ih=>rw[ZbI,ZbI,ih]
 |swap x y l=>simp only[ZbI];lk
 |trans _ _ i1 i2=>exact i1.trans i2
def Ds{n:Nat}{F G:Int->Int}(h:∀t:Int,0<=t->t<(n:Int)->F t=G t):SU n F=SU n G:=by
 unfold SU
 congr 1
 exact ZaT λt ht=>h t (ae.pP.mp ht).1 (ae.pP.mp ht).2
def Jj{n:Nat}{π:List Int}(h:ae.Tn n π)(F:Int->Int):SU n (λt=>F (ae.app π t))=SU n F:=by
 unfold SU;have e:(ae.upto n).map (λt=>F (ae.app π t))=π.map F:=by
  have:=congrArg (List.map F) (ae.Nk h.length);rw[ZaA]at this;exact this
 rw[e];exact Yc6 (h.map F)
def U7:∀(l:List Int) (F G:Int->Int),(l.map λt=>F t+G t).sum=(l.map F).sum+(l.map G).sum
 |[],_,_=>rfl
 |a :: l,F,G=>by
  rw[Zav,Zav,Zav,ZbI,ZbI,ZbI,U7 l F G];lk
def Dt(n:Nat)(F G:Int->Int):SU n (λt=>F t+G t)=SU n F+SU n G:=U7 _ F G
abbrev cn(p:ae.cU)(t:Int):Int:=ae.app (ae.inv p.2) (ae.app (ae.inv p.1) (ae.app p.2 (ae.app p.1 t)))
def Pt{n:Nat}{p:ae.cU}(h:ae.Vf n p){t:Int}(t0:0<=t)(t1:t<(n:Int)):ae.app (ae.mD p.1 p.2) t=cn p t:=by obtain⟨a0,a1⟩:=h.1.app t0 t1;obtain⟨b0,b1⟩:=h.2.app a0 a1;unfold ae.mD cn;rw[ae.u3 t0 (by rw[ae.ER,h.1.length];exact t1),ae.u3 t0 (by rw[h.1.length];exact t1),ae.u3 b0 (by rw[ae.EM,h.1.length];exact b1)]
abbrev dv(p:ae.cU)(s:ae.Se)(t:Int):Int:=s.1 (ae.app p.2 t)+s.2 (ae.app p.1 t)-s.1 (ae.app p.2 (ae.app p.1 t))-s.2 (ae.app p.2 (ae.app p.1 t))
abbrev Cb(n:Nat)(p:ae.cU)(s:ae.Se):Prop:=∃ψ:Int->Int,∀t:Int,0<=t->t<(n:Int)->dv p s t=ψ (cn p t)-ψ t
def U8{n:Nat}(f:Int->Int)(xs ys sm:List Int)(c:Int):∀k:Nat,tot f (pT xs ys sm n k) c=SU k λs=>tot f (y8 xs ys sm n s) c
 |0=>rfl
 |k+1=>by
  show tot f (pT xs ys sm n k ++ y8 xs ys sm n (k:Int)) c=_;rw[UH,U8 f xs ys sm c k];unfold SU;rw[show ae.upto (k+1)=ae.upto k ++ [(k:Int)] by unfold ae.upto;rw[List.range_succ,Zay];rfl,Zay,List.sum_append];simp
def Cc(f:Int->Int)(xs ys sm:List Int)(n:Nat)(s c:Int):tot f (y8 xs ys sm n s) c=(if f (pF xs ys s)=c then -(ae.app sm s) + -(ae.app sm ((n:Int)+s))else 0)+(if f (bS xs ys s 3)=c then ae.app sm s else 0)+(if f (bS xs ys s 2)=c then ae.app sm ((n:Int)+s)else 0):=by unfold tot y8;simp only[Zav,Za3,ZbI,List.sum_nil];by_cases h:f (pF xs ys s)=c;simp only[if_pos h];lk;simp only[if_neg h];lk
def zcs{n:Nat}{p:ae.cU}(h:ae.Vf n p){s:ae.Se}(hc:Cb n p s){N:Int->Int}(hN:∀t:Int,0<=t->t<(n:Int)->N (cn p t)=N t)(c:Int):tot N (pT p.1 p.2 (nY n s) n n) c=0:=by
 obtain⟨ψ,hψ⟩:=hc;have A:∀{t:Int},0<=t->t<(n:Int)->0<=ae.app p.1 t/\ae.app p.1 t<(n:Int):=λa b=>h.1.app a b;have B:∀{t:Int},0<=t->t<(n:Int)->0<=ae.app p.2 t/\ae.app p.2 t<(n:Int):=λa b=>h.2.app a b;have xi:∀{t:Int},0<=t->t<(n:Int)->ae.app (ae.inv p.1) (ae.app p.1 t)=t:=λa b=>h.1.bg a b;have yi:∀{t:Int},0<=t->t<(n:Int)->ae.app (ae.inv p.2) (ae.app p.2 t)=t:=λa b=>h.2.bg a b;rw[U8];have e1:SU n (λs'=>tot N (y8 p.1 p.2 (nY n s) n s') c)=SU n (λu=>(if N (pF p.1 p.2 u)=c then -(s.1 u) + -(s.2 u)else 0)+(if N (bS p.1 p.2 u 3)=c then s.1 u else 0)+(if N (bS p.1 p.2 u 2)=c then s.2 u else 0)):=Ds λt t0 t1=>by
  rw[Cc,(ze t0 t1).1,(ze t0 t1).2]
 rw[e1,Dt,Dt];have e2:SU n (λu=>if N (pF p.1 p.2 u)=c then -(s.1 u) + -(s.2 u)else 0)=SU n (λt=>if N t=c then -(s.1 (ae.app p.2 (ae.app p.1 t))) + -(s.2 (ae.app p.2 (ae.app p.1 t)))else 0):=by
  rw[<- Jj h.2,<- Jj h.1];refine Ds λt t0 t1=>?_;obtain⟨a0,a1⟩:=A t0 t1;have e:pF p.1 p.2 (ae.app p.2 (ae.app p.1 t))=t:=by
   show ae.app (ae.inv p.1) (ae.app (ae.inv p.2) (ae.app p.2 (ae.app p.1 t)))=t;rw[yi a0 a1,xi t0 t1]
  rw[e]
 have e3:SU n (λu=>if N (bS p.1 p.2 u 3)=c then s.1 u else 0)=SU n (λt=>if N t=c then s.1 (ae.app p.2 t)else 0):=by
  rw[<- Jj h.2];refine Ds λt t0 t1=>?_;show(if N (ae.app (ae.inv p.2) (ae.app p.2 t))=c then _ else _)=_;rw[yi t0 t1]
 have e4:SU n (λu=>if N (bS p.1 p.2 u 2)=c then s.2 u else 0)=SU n (λt=>if N t=c then s.2 (ae.app p.1 t)else 0):=by
  rw[<- Jj h.1];refine Ds λt t0 t1=>?_;show(if N (ae.app (ae.inv p.1) (ae.app p.1 t))=c then _ else _)=_;rw[xi t0 t1]
 rw[e2,e3,e4,<- Dt,<- Dt];have e5:SU n (λt=>(if N t=c then -(s.1 (ae.app p.2 (ae.app p.1 t))) + -(s.2 (ae.app p.2 (ae.app p.1 t)))else 0)+(if N t=c then s.1 (ae.app p.2 t)else 0)+(if N t=c then s.2 (ae.app p.1 t)else 0))=SU n (λt=>(if N (ae.app (ae.mD p.1 p.2) t)=c then ψ (ae.app (ae.mD p.1 p.2) t)else 0)+(if N t=c then -(ψ t)else 0)):=Ds λt t0 t1=>by
  have d:=hψ t t0 t1;unfold dv at d;rw[Pt h t0 t1,hN t t0 t1];by_cases z:N t=c;simp only[if_pos z];lk;simp only[if_neg z];rfl
 rw[e5,Dt,Jj (h.1.mD h.2) (λt=>if N t=c then ψ t else 0),<- Dt];have e6:SU n (λt=>(if N t=c then ψ t else 0)+(if N t=c then -(ψ t)else 0))=SU n (λ_=>0):=Ds λt t0 t1=>by
  by_cases z:N t=c;simp only[if_pos z];lk;simp only[if_neg z];rfl
 rw[e6];unfold SU
 induction (ae.upto n)with
 |nil=>rfl
 |cons a l ih=>rw[Zav,ZbI,ih];rfl
def U9{st:Store}{p:ae.cU}{n:Nat}{s:ae.Se}(h:ae.Vf n p)(hn:n<=100)(hc:Cb n p s):Wp (yR [bJ p.1 p.2,gZ n s] st) λd st'=>d=.bl true/\Ex [] st st':=by
 rw[Jh];refine aR (YbO h.1 h.2 hn (Ca n s)) ?_;rintro d s1 ⟨N,rs,hl,hr,hN,rfl,k1⟩;refine⟨?_,k1⟩
 congr 1
 rw[List.all_eq_true];intro x hx;obtain⟨i,hi,rfl⟩:=Zbz hx;rw[IU];refine decide_eq_true (zcs h hc (λt t0 t1=>?_) _);obtain⟨r,hr1,B1⟩:=hr.has t0 t1;obtain⟨i,hi⟩:=Zb4 hr1;obtain⟨j,_,ring⟩:=hr.all.1 r hr1;have hm:cn p t∈r:=by
  have:=ring.qz B1 1
  rwa [show ae.aJ (ae.mD p.1 p.2) t 1=ae.app (ae.mD p.1 p.2) t from rfl,Pt h t0 t1]at this
 have hb:0<=cn p t/\cn p t<(n:Int):=by
  rw[<- Pt h t0 t1];exact(h.1.mD h.2).app t0 t1
 have e1:=ae.nE (xs:=N) (i:=t) t0 ⋯;have e2:=ae.nE (xs:=N) (i:=cn p t) hb.1 ⋯;rw[hN i r hi t B1]at e1;rw[hN i r hi _ hm]at e2;exact(Zai e2).symm.trans (Zai e1)
section
variable {n:Nat}{p:ae.cU}
def Cd{s t:ae.Se}(a:Cb n p s)(b:Cb n p t)(w:Int):Cb n p (λu=>s.1 u+w*t.1 u,λu=>s.2 u+w*t.2 u):=by obtain⟨ψ,h1⟩:=a;obtain⟨U,h2⟩:=b;refine⟨λu=>ψ u+w*U u,λu u0 u1=>?_⟩;have e1:=h1 u u0 u1;have e2:=congrArg (w * ·) (h2 u u0 u1);unfold dv at e1 e2 ⊢;simp only[Int.mul_add,Int.mul_sub]at e2 ⊢;lk
def Xds(h:ae.Vf n p)(w:Int->Int):Cb n p (λu=>w u-w (ae.app (ae.inv p.2) u),λu=>w (ae.app (ae.inv p.1) u)-w u):=by refine⟨λu=>-(w (ae.app p.2 u)),λt t0 t1=>?_⟩;obtain⟨a0,a1⟩:=h.1.app t0 t1;obtain⟨b0,b1⟩:=h.2.app a0 a1;have c:=h.1.jY b0 b1;unfold dv cn;simp only;rw[h.2.bg t0 t1,h.1.bg t0 t1,h.2.bg a0 a1,h.2.a9 c.1 c.2];lk
def Ce(h:ae.Vf n p){f:Int->Int}(hf:∀t:Int,0<=t->t<(n:Int)->f (ae.app p.1 t)=f t):Cb n p (f,λ_=>0):=by refine⟨λu=>-(f (ae.app p.2 u)),λt t0 t1=>?_⟩;obtain⟨a0,a1⟩:=h.1.app t0 t1;obtain⟨b0,b1⟩:=h.2.app a0 a1;have c:=h.1.jY b0 b1;have e:=hf _ c.1 c.2;rw[h.1.a9 b0 b1]at e;unfold dv cn;simp only;rw[h.2.a9 c.1 c.2];lk
def Cf(h:ae.Vf n p){g:Int->Int}(hg:∀t:Int,0<=t->t<(n:Int)->g (ae.app p.2 t)=g t):Cb n p (λ_=>0,g):=by refine⟨λ_=>0,λt t0 t1=>?_⟩;obtain⟨a0,a1⟩:=h.1.app t0 t1;have e:=hg _ a0 a1;unfold dv;simp only;lk
def Cb.congr(h:ae.Vf n p){s t:ae.Se}(a:Cb n p s)(e:ae.oP n s t):Cb n p t:=by obtain⟨ψ,hψ⟩:=a;refine⟨ψ,λu u0 u1=>?_⟩;obtain⟨a0,a1⟩:=h.1.app u0 u1;obtain⟨b0,b1⟩:=h.2.app u0 u1;obtain⟨c0,c1⟩:=h.2.app a0 a1;have:=hψ u u0 u1;unfold dv at this ⊢;rw[<- (e _ b0 b1).1,<- (e _ a0 a1).2,<- (e _ c0 c1).1,<- (e _ c0 c1).2];exact this
def Cg(h:ae.Vf n p){a:bK}(ha:qQ a){s:ae.Se}(c:Cb n (ae.stM p a) s):Cb n p (ae.rS p a s):=by
 obtain⟨ψ,hψ⟩:=c;have A:∀{t:Int},0<=t->t<(n:Int)->0<=ae.app p.1 t/\ae.app p.1 t<(n:Int):=λa b=>h.1.app a b;have B:∀{t:Int},0<=t->t<(n:Int)->0<=ae.app p.2 t/\ae.app p.2 t<(n:Int):=λa b=>h.2.app a b;have Ai:∀{t:Int},0<=t->t<(n:Int)->0<=ae.app (ae.inv p.1) t/\ae.app (ae.inv p.1) t<(n:Int):=λa b=>h.1.jY a b;have Bi:∀{t:Int},0<=t->t<(n:Int)->0<=ae.app (ae.inv p.2) t/\ae.app (ae.inv p.2) t<(n:Int):=λa b=>h.2.jY a b;have xi:∀{t:Int},0<=t->t<(n:Int)->ae.app (ae.inv p.1) (ae.app p.1 t)=t:=λa b=>h.1.bg a b;have yi:∀{t:Int},0<=t->t<(n:Int)->ae.app (ae.inv p.2) (ae.app p.2 t)=t:=λa b=>h.2.bg a b;have ix:∀{t:Int},0<=t->t<(n:Int)->ae.app p.1 (ae.app (ae.inv p.1) t)=t:=λa b=>h.1.a9 a b;have iy:∀{t:Int},0<=t->t<(n:Int)->ae.app p.2 (ae.app (ae.inv p.2) t)=t:=λa b=>h.2.a9 a b;have key:∀{t:Int},0<=t->t<(n:Int)->0<=ae.app p.2 (ae.app p.1 t)/\ae.app p.2 (ae.app p.1 t)<(n:Int):=λt0 t1=>B (A t0 t1).1 (A t0 t1).2;have yc:∀{t:Int},0<=t->t<(n:Int)->ae.app p.2 (cn p t)=ae.app (ae.inv p.1) (ae.app p.2 (ae.app p.1 t)):=λt0 t1=>iy (Ai (key t0 t1).1 (key t0 t1).2).1 (Ai (key t0 t1).1 (key t0 t1).2).2;have Va:∀{t:Int},0<=t->t<(n:Int)->ae.app p.1 (ae.app p.2 (cn p t))=ae.app p.2 (ae.app p.1 t):=λt0 t1=>by
  rw[yc t0 t1,ix (key t0 t1).1 (key t0 t1).2]
 rcases ha with rfl|rfl|rfl
 have N:∀{t:Int} {j:Nat},0<=t->t<(n:Int)->j<4->bS p.1 (ae.shr p.1 p.2 1) t j=dH p.1 p.2 t (iz 1 j):=λt0 t1 hj=>Dp h.1 h.2 1 t0 t1 hj;have Y:∀{t:Int},0<=t->t<(n:Int)->ae.app (ae.shr p.1 p.2 1) t=ae.app p.2 (ae.app (ae.inv p.1) t):=λt0 t1=>N (j:=1) t0 t1 ∅;have Yi:∀{t:Int},0<=t->t<(n:Int)->ae.app (ae.inv (ae.shr p.1 p.2 1)) t=ae.app p.1 (ae.app (ae.inv p.2) t):=λt0 t1=>N (j:=3) t0 t1 ∅;refine⟨λt=>ψ (ae.app p.1 t)+s.2 (ae.app p.1 (ae.app p.2 t)),λt t0 t1=>?_⟩;obtain⟨a0,a1⟩:=A t0 t1;obtain⟨aa0,aa1⟩:=A a0 a1;obtain⟨c0,c1⟩:=key t0 t1;obtain⟨d0,d1⟩:=Ai c0 c1;have e:=hψ _ a0 a1;unfold dv cn at e;have e:s.1 (ae.app (ae.shr p.1 p.2 1) (ae.app p.1 t))+s.2 (ae.app p.1 (ae.app p.1 t))-s.1 (ae.app (ae.shr p.1 p.2 1) (ae.app p.1 (ae.app p.1 t)))-s.2 (ae.app (ae.shr p.1 p.2 1) (ae.app p.1 (ae.app p.1 t)))=ψ (ae.app (ae.inv (ae.shr p.1 p.2 1)) (ae.app (ae.inv p.1) (ae.app (ae.shr p.1 p.2 1) (ae.app p.1 (ae.app p.1 t)))))-ψ (ae.app p.1 t):=e;rw[Y a0 a1,Y aa0 aa1,xi t0 t1,xi a0 a1,Yi d0 d1]at e;show s.1 (ae.app p.2 t)-s.2 (ae.app p.1 (ae.app p.2 t))+s.2 (ae.app p.1 (ae.app p.1 t))-(s.1 (ae.app p.2 (ae.app p.1 t))-s.2 (ae.app p.1 (ae.app p.2 (ae.app p.1 t))))-s.2 (ae.app p.1 (ae.app p.2 (ae.app p.1 t)))=ψ (ae.app p.1 (cn p t))+s.2 (ae.app p.1 (ae.app p.2 (cn p t)))-(ψ (ae.app p.1 t)+s.2 (ae.app p.1 (ae.app p.2 t)));rw[Va t0 t1];unfold cn;lk;have N:∀{t:Int} {j:Nat},0<=t->t<(n:Int)->j<4->bS p.1 (ae.shr p.1 p.2 (-1)) t j=dH p.1 p.2 t (iz (-1) j):=λt0 t1 hj=>Dp h.1 h.2 (-1) t0 t1 hj;have Y:∀{t:Int},0<=t->t<(n:Int)->ae.app (ae.shr p.1 p.2 (-1)) t=ae.app p.2 (ae.app p.1 t):=λt0 t1=>N (j:=1) t0 t1 ∅;have Yi:∀{t:Int},0<=t->t<(n:Int)->ae.app (ae.inv (ae.shr p.1 p.2 (-1))) t=ae.app (ae.inv p.1) (ae.app (ae.inv p.2) t):=λt0 t1=>N (j:=3) t0 t1 ∅;refine⟨λt=>ψ (ae.app (ae.inv p.1) t)-s.2 (ae.app p.2 t),λt t0 t1=>?_⟩;obtain⟨a0,a1⟩:=A t0 t1;obtain⟨i0,i1⟩:=Ai t0 t1;obtain⟨c0,c1⟩:=key t0 t1;obtain⟨d0,d1⟩:=Ai c0 c1;have e:=hψ _ i0 i1;have e:s.1 (ae.app (ae.shr p.1 p.2 (-1)) (ae.app (ae.inv p.1) t))+s.2 (ae.app p.1 (ae.app (ae.inv p.1) t))-s.1 (ae.app (ae.shr p.1 p.2 (-1)) (ae.app p.1 (ae.app (ae.inv p.1) t)))-s.2 (ae.app (ae.shr p.1 p.2 (-1)) (ae.app p.1 (ae.app (ae.inv p.1) t)))=ψ (ae.app (ae.inv (ae.shr p.1 p.2 (-1))) (ae.app (ae.inv p.1) (ae.app (ae.shr p.1 p.2 (-1)) (ae.app p.1 (ae.app (ae.inv p.1) t)))))-ψ (ae.app (ae.inv p.1) t):=e;rw[ix t0 t1,Y i0 i1,Y t0 t1,ix t0 t1,Yi d0 d1]at e;show s.1 (ae.app p.2 t)+s.2 (ae.app p.2 t)+s.2 (ae.app (ae.inv p.1) (ae.app p.1 t))-(s.1 (ae.app p.2 (ae.app p.1 t))+s.2 (ae.app p.2 (ae.app p.1 t)))-s.2 (ae.app (ae.inv p.1) (ae.app p.2 (ae.app p.1 t)))=ψ (ae.app (ae.inv p.1) (cn p t))-s.2 (ae.app p.2 (cn p t))-(ψ (ae.app (ae.inv p.1) t)-s.2 (ae.app p.2 t));rw[yc t0 t1,xi t0 t1];unfold cn;lk;refine⟨λt=>ψ (ae.app p.2 t)+s.1 (ae.app p.1 (ae.app p.2 t)),λt t0 t1=>?_⟩;obtain⟨a0,a1⟩:=A t0 t1;obtain⟨b0,b1⟩:=B t0 t1;obtain⟨c0,c1⟩:=key t0 t1;have hi:ae.inv (ae.inv p.2)=p.2:=h.2.inv_inv;have e:=hψ _ b0 b1;have e:s.1 (ae.app p.1 (ae.app p.2 t))+s.2 (ae.app (ae.inv p.2) (ae.app p.2 t))-s.1 (ae.app p.1 (ae.app (ae.inv p.2) (ae.app p.2 t)))-s.2 (ae.app p.1 (ae.app (ae.inv p.2) (ae.app p.2 t)))=ψ (ae.app (ae.inv p.1) (ae.app (ae.inv (ae.inv p.2)) (ae.app p.1 (ae.app (ae.inv p.2) (ae.app p.2 t)))))-ψ (ae.app p.2 t):=e;rw[hi,yi t0 t1]at e;show s.2 (ae.app (ae.inv p.2) (ae.app p.2 t)) + -(s.1 (ae.app p.1 t))-s.2 (ae.app (ae.inv p.2) (ae.app p.2 (ae.app p.1 t))) - -(s.1 (ae.app p.2 (ae.app p.1 t)))=ψ (ae.app p.2 (cn p t))+s.1 (ae.app p.1 (ae.app p.2 (cn p t)))-(ψ (ae.app p.2 t)+s.1 (ae.app p.1 (ae.app p.2 t)));rw[Va t0 t1,yc t0 t1,yi t0 t1,yi a0 a1];lk
end
def Vb{n:Nat}{s:ae.Se}:∀(w:List bK) {p:ae.cU},ae.Vf n p->(∀a∈w,qQ a)->Cb n (ae.b7 p w) s->Cb n p (ae.cS p w s)
 |[],_,_,_,c=>c
 |a :: w,p,h,hw,c=>Cg h (hw a Zaf) (Vb w (U3 h a) (λb hb=>hw b (Zah _ hb)) c)
abbrev rM(n:Nat)(L:List Int):ae.Se:=(λu=>ae.app L u,λu=>ae.app L ((n:Int)+u))
def Vc{n:Nat}{L:List Int}(h:L.length=2*n):nY n (rM n L)=L:=by
 have hl:=Ca n (rM n L);refine ZbJ λi=>?_;by_cases hi:i<2*n;have e1:=ae.nE (xs:=nY n (rM n L)) (i:=(i:Int)) ⋯ ⋯;have e2:=ae.nE (xs:=L) (i:=(i:Int)) ⋯ ⋯;rw[Zae]at e1 e2;rw[e1,e2];by_cases hn:i<n;rw[(ze (u:=(i:Int)) ⋯ ⋯).1];rfl
 have:=(ze (n:=n) (s:=rM n L) (u:=(i:Int)-n) ⋯ ⋯).2
 rw[show(n:Int)+((i:Int)-n)=(i:Int) by lk]at this;rw[this];show some (ae.app L ((n:Int)+((i:Int)-n)))=_;rw[show(n:Int)+((i:Int)-n)=(i:Int) by lk];rw[ZaL ⋯,ZaL ⋯]
def LX{n:Nat}{L:List Int}(h:L.length=2*n):D.tup (L.map D.int)=gZ n (rM n L):=by rw[Jh,Vc h]
def Vd{n:Nat}{p:ae.cU}(h:ae.Vf n p)(w:List Int):Cb n p (rM n (kF p.1 p.2 n w)) :=
 Cb.congr h (Xds h (ae.app w)) λu u0 u1=>⟨(LP h.1 h.2 u0 u1).symm,(LQ h.1 h.2 u0 u1).symm⟩
def Ve{n:Nat}{zs:List Int}(tz:ae.Tn n zs){a b:Int}(a0:0<=a)(a1:a<(n:Int))(b0:0<=b)(b1:b<(n:Int))(k:Nat)(e:ae.aJ zs a k=ae.aJ zs b k):a=b:=by have:=ae.CF tz a0 a1 k;rw[e,ae.CF tz b0 b1 k]at this;exact this.symm
abbrev On(zs:List Int)(s:Int)(k:Nat)(u:Int):Prop:=∃j,j<k/\u=ae.aJ zs s j
def Vg{n:Nat}{zs:List Int}{s:Int}{k:Nat}(tz:ae.Tn n zs)(s0:0<=s)(s1:s<(n:Int))(hk:On zs s k (ae.aJ zs s k)){u:Int}(u0:0<=u)(u1:u<(n:Int)):On zs s k (ae.app zs u)↔On zs s k u:=by
 obtain⟨j,hj,ej⟩:=hk;have B:∀i,0<=ae.aJ zs s i/\ae.aJ zs s i<(n:Int):=λi=>ae.u9 tz s0 s1 i;have back:∀{v:Int} {i:Nat},0<=v->v<(n:Int)->ae.app zs v=ae.aJ zs s (i+1)->v=ae.aJ zs s i:=λ{v i} v0 v1 e=>Ve tz v0 v1 (B i).1 (B i).2 1 e;constructor;rintro⟨i,hi,e⟩;cases i with
 |succ i=>exact⟨i,by lk,back u0 u1 e⟩
 |zero =>
  have per:ae.aJ zs s (k-j)=s:=by
   refine Ve tz (B _).1 (B _).2 s0 s1 j ?_;rw[<- ej];have:∀a b,ae.aJ zs (ae.aJ zs s a) b=ae.aJ zs s (a+b):=λa b=>by
    induction b with
    |zero=>rfl
    |succ b ih=>show ae.app zs (ae.aJ zs (ae.aJ zs s a) b)=_;rw[ih];rfl
   rw[this,show k-j+j=k by lk]
  refine⟨k-j-1,by lk,back u0 u1 ?_⟩;rw[show k-j-1+1=k-j by lk,per];exact e
 rintro⟨i,hi,e⟩;by_cases z:i+1<k;exact⟨i+1,z,by rw[e];rfl⟩;refine⟨j,hj,?_⟩;rw[<- ej,e,show k=i+1 by lk];rfl
def CA{L:List Int}{k v i:Int}(k0:0<=k)(k1:k<(L.length:Int))(i0:0<=i):ae.app (L.set k.toNat v) i=if i=k then v else ae.app L i:=by unfold ae.app;rw[Zau,Zau];by_cases h:i=k;subst h;rw[if_pos rfl,Zag ⋯];rfl;rw[if_neg h,Zao ⋯]
def YcS{L:List Int}{k:Nat}(hk:L[k]?=some 0):((L.set k 1).filter λx=>x == 0).length<(L.filter λx=>x == 0).length:=by
 induction L generalizing k with
 |nil=>simp at hk
 |cons a L ih =>
  cases k with
  |zero =>
   have:a=0:=by simpa using hk
   subst this;simp
  |succ k =>
   have hk':L[k]?=some 0:=by simpa using hk
   have:=ih hk';rw[List.set_cons_succ,Zcn,Zcn];split
   simp only[Zaz];lk;exact this
def ycs{st:Store}{xs ys:List Int}{n:Nat}{s w:Int}(tx:ae.Tn n xs)(ty:ae.Tn n ys)(hn:n<=100)(s0:0<=s)(s1:s<(n:Int))(hw:w=0\/w=1):Wp (Lc [bJ xs ys,.int s,.int w] st) λd st'=>∃L:List Int,d=.tup (L.map D.int)/\L.length=2*n/\Cb n (xs,ys) (rM n L)/\Ex [] st st':=by
 have hlx:=tx.length;have BK:=ty.length;obtain⟨zs,hz,tz,hz0,hz1⟩:∃zs:List Int,gT [D.tup (xs.map D.int),D.tup (ys.map D.int)] w=some (.tup (zs.map D.int))/\ae.Tn n zs/\(w=0->zs=xs)/\(w=1->zs=ys):=by
  rcases hw with rfl|rfl
  exact⟨xs,Fy _ _,tx,λ_=>rfl,λz=>(by cases z)⟩;exact⟨ys,Fz _ _ _,ty,λz=>(by cases z),λ_=>rfl⟩
 have TK:=tz.length;have hnw:0<=(n:Int)*w/\(n:Int)*w<=(n:Int):=by rcases hw with rfl|rfl<;>lk
 refine mM ?_;show Ws (HK [some (bJ xs ys),some (.int s),some (.int w),none,none,none] st) _ _ _ _;unfold HK;refine aO (bt ?_);exists _,Z,show bJ xs ys=.tup [.tup (xs.map D.int),.tup (ys.map D.int)]from rfl;rw[Zaa,hlx];refine Z _ _ (aO (bt ?_));k_lt2 Z;rw[show(2*(n:Int)).toNat=2*n by lk,rep0,show(st ++ [O.lst [D.int 0]]).length=st.length+1 by simp];have hg:(st ++ [O.lst [D.int 0]] ++ [O.lst ((List.replicate (2*n) (0:Int)).map D.int)])[st.length+1]?=some (.lst ((List.replicate (2*n) (0:Int)).map D.int)):=by
  rw[show st.length+1=(st ++ [O.lst [D.int 0]]).length by simp];exact jW
 have kk:Ex [] st (st ++ [O.lst [D.int 0]] ++ [O.lst ((List.replicate (2*n) (0:Int)).map D.int)]):=(Ex.cE _).app _;generalize st ++ [O.lst [D.int 0]] ++ [O.lst ((List.replicate (2*n) (0:Int)).map D.int)]=st1 at hg kk;refine⟨rfl,.inl ⟨by decide,by decide⟩,⟨by lk,by lk⟩,i9 (by rw[ZaC];lk),?_⟩;refine Z _ _ (aO (bt ?_));k_lt2 Z;refine Z _ _ (aO (Ba (λm δ s2=>∃(L:List Int) (h:Int) (k:Nat),m=(L.filter λx=>x == 0).length/\L.length=2*n/\0<=h/\h<(n:Int)/\h=ae.aJ zs s k/\(∀u:Int,0<=u->u<(n:Int)->(On zs s k u->ae.app L ((n:Int)*w+u)=1)/\(¬On zs s k u->ae.app L ((n:Int)*w+u)=0))/\(∀i:Int,0<=i->i<2*(n:Int)->(i<(n:Int)*w\/(n:Int)*w+(n:Int)<=i)->ae.app L i=0)/\δ=[some (bJ xs ys),some (.int s),some (.int w),some (.int (n:Int)),some (.ref (st.length+1)),some (.int h)]/\s2[st.length+1]?=some (.lst (L.map D.int))/\Ex [] st s2) ((List.replicate (2*n) (0:Int)).filter λx=>x == 0).length (Za1 (Zaw (List.length_filter_le _ _) (by rw[ZaG];exact Zbj 2 hn)) ∅) ⟨_,s,0,rfl,ZaG,s0,s1,rfl,(λu _ _=>⟨λ⟨j,hj,_⟩=>absurd hj (Za7 _),λ_=>LN _ _⟩),(λi _ _ _=>LN _ _),rfl,hg,kk⟩ ?_));clear Z;rintro m δ s2 ⟨L,h,k,rfl,hL,h0,h1,hk,Ci,hof,rfl,hs,k2⟩;exists _,Z,fS hs,mE (xs:=L) (i:=(n:Int)*w+h) ⋯ ⋯;refine⟨.inl ⋯,Z _ _ ⟨λht=>?_,λhf=>?_⟩⟩;have IW:ae.app L ((n:Int)*w+h)=0:=by simpa using ht
 refine aO (rX ?_);k_lt2 Z;refine Z _ _ ?_;clear Z;exists _,Z,mX hs;have hix:lS (L.map D.int).length ((n:Int)*w+h)=some ((n:Int)*w+h).toNat:=Uy (v:=0) hs ⋯ ⋯;refine⟨.inl ⋯,_,hix,Z _ _ (bt ?_)⟩;clear Z;have hb:=tz.app h0 h1;exists _,Z,show bJ xs ys=.tup [.tup (xs.map D.int),.tup (ys.map D.int)]from rfl,hz,mE (xs:=zs) h0 ⋯;refine Z _ _ ⟨((L.set ((n:Int)*w+h).toNat 1).filter λx=>x == 0).length,?_,L.set ((n:Int)*w+h).toNat 1,_,k+1,rfl,by rw[ZaU,hL],hb.1,hb.2,by rw[hk];rfl,λu u0 u1=>?_,λi i0 i1 hi=>?_,rfl,?_,k2.loc ⋯⟩;refine YcS ?_
 have:=ae.nE (xs:=L) (i:=(n:Int)*w+h) ⋯ ⋯;rw[this,IW]
 rw[CA ⋯ ⋯ ⋯];by_cases z:u=h;rw[if_pos ⋯];exact⟨λ_=>rfl,λq=>absurd ⟨k,by lk,by rw[z,hk]⟩ q⟩;rw[if_neg ⋯];refine⟨λ⟨j,hj,e⟩=>(Ci u u0 u1).1 ⟨j,?_,e⟩,λq=>(Ci u u0 u1).2 λ⟨j,hj,e⟩=>q ⟨j,by lk,e⟩⟩;rcases(show j<k\/j=k by lk)with y|y
 exact y;rw[y,<- hk]at e;exact absurd e z;rw[CA ⋯ ⋯ i0,if_neg ⋯];exact hof i i0 i1 hi;rw[Zag (eY hs),ZbG];refine cZ ?_;clear Z;exists _,Z,fS hs;refine Z _ _ ⟨L,rfl,hL,?_,k2⟩;have hne:¬ae.app L ((n:Int)*w+h)=0:=by simpa using hf
 have hK:On zs s k (ae.aJ zs s k):=Classical.byContradiction λq=>hne ((Ci h h0 h1).2 (by rw[hk];exact q));have inv:∀u:Int,0<=u->u<(n:Int)->ae.app L ((n:Int)*w+ae.app zs u)=ae.app L ((n:Int)*w+u):=λu u0 u1=>by
  obtain⟨b0,b1⟩:=tz.app u0 u1;by_cases z:On zs s k u;rw[(Ci u u0 u1).1 z,(Ci _ b0 b1).1 ((Vg tz s0 s1 hK u0 u1).mpr z)];rw[(Ci u u0 u1).2 z,(Ci _ b0 b1).2 λq=>z ((Vg tz s0 s1 hK u0 u1).mp q)]
 rcases hw with rfl|rfl
 rw[hz0 rfl]at inv;refine Cb.congr (p:=(xs,ys)) ⟨tx,ty⟩ (Ce (f:=λu=>ae.app L u) ⟨tx,ty⟩ λu u0 u1=>?_) λu u0 u1=>⟨rfl,(hof _ ⋯ ⋯ ⋯).symm⟩;have:=inv u u0 u1
 rwa [show(n:Int)*0+ae.app xs u=ae.app xs u by lk,show(n:Int)*0+u=u by lk]at this
 rw[hz1 rfl]at inv;refine Cb.congr (p:=(xs,ys)) ⟨tx,ty⟩ (Cf (g:=λu=>ae.app L ((n:Int)+u)) ⟨tx,ty⟩ λu u0 u1=>?_) λu u0 u1=>⟨(hof _ ⋯ ⋯ ⋯).symm,rfl⟩;have:=inv u u0 u1
 rwa [show(n:Int)*1+ae.app ys u=(n:Int)+ae.app ys u by lk,show(n:Int)*1+u=(n:Int)+u by lk]at this
def Vh{st:Store}{a b:List Int}{w:Int}(hl:a.length=b.length)(hb:b.length<100000)(h0:-100<=w)(h1:w<=100):Wp (Hl [.tup (a.map D.int),.tup (b.map D.int),.int w] st) λd st'=>∃L:List Int,d=.tup (L.map D.int)/\L.length=a.length/\(∀i:Int,0<=i->i<(a.length:Int)->ae.app L i=ae.app a i+w*ae.app b i)/\Ex [] st st':=by
 refine mM ?_;show Ws (Hk [some (.tup (a.map D.int)),some (.tup (b.map D.int)),some (.int w)] st) _ _ _ _;unfold Hk;refine cZ ?_;k_lt Z;refine Y7 ((a.zip b).map λp=>(D.int p.1,D.int p.2)) (λp=>match p with|(.int x,.int y)=>.int (x+w*y)|_=>.non) ?_ (by rw[Zaa,List.length_zip];lk) ?_ ?_;exists _,cH,Te;refine⟨_,_,⟨rfl,rfl⟩,_,rfl,_,rfl,cH _ _ ⟨?_,Ex.refl⟩⟩;rw[Ul hl,ZaA];exact vW _ _;intro p hp s9 k9;obtain⟨q,_,rfl⟩:=ZaP.mp hp;exists _,cH,Zav,Za3,Zbc,Zbd;exact⟨.inl ⋯,cH _ _ ⟨rfl,Ex.refl⟩⟩;intro s9 k9;have es:(((a.zip b).map λp=>(D.int p.1,D.int p.2)).map λp=>match p with|(.int x,.int y)=>.int (x+w*y)|_=>.non)=((a.zip b).map λp=>p.1+w*p.2).map D.int:=by
  rw[ZaA,ZaA];rfl
 rw[es];w_how;refine Z _ _ ⟨_,rfl,by rw[Zaa,List.length_zip];lk,λi i0 i1=>?_,k9.app _⟩;have ea:=ae.nE (xs:=a) i0 i1;have eb:=ae.nE (xs:=b) (i:=i) i0 ⋯;have ec:=ae.nE (xs:=(a.zip b).map λp=>p.1+w*p.2) (i:=i) i0 (by rw[Zaa,List.length_zip];lk);have ez:(a.zip b)[i.toNat]?=some (ae.app a i,ae.app b i):=List.getElem?_zip_eq_some.mpr ⟨ea,eb⟩;rw[Zaj,ez]at ec;exact(Zai ec).symm
def Vi{n:Nat}{p:ae.cU}(h:ae.Vf n p){a b L:List Int}{w:Int}(ca:Cb n p (rM n a))(cb:Cb n p (rM n b))(hl:a.length=2*n)(e:∀i:Int,0<=i->i<(a.length:Int)->ae.app L i=ae.app a i+w*ae.app b i):Cb n p (rM n L) :=
 Cb.congr h (Cd ca cb w) λu u0 u1=>⟨(e u u0 ⋯).symm,(e _ ⋯ ⋯).symm⟩
def Vj{st:Store}{f:Nat}{δ:ai}{js:List Nat}{fi:ai->Dm Src}{g:ai->Dm D}{m:Nat}{Q:D->Store->Prop}(hf:aM st f)(hm:m<100000)(hi:Wp (fi δ st) λS st1=>S=.fix (aF 0 m)/\st1=st)
  (hg:∀d s,aM s f->Wp (g (some d :: js.map λj=>δ.getD j none) s) λy s2=>(∃x:Int,y=.int x)/\aM s2 f/\Ex [f] s s2) (fin:∀(L:List Int) s,L.length=m->aM s f->Ex [f] st s->Q (.ref s.length) (s ++ [.lst (L.map D.int)])):Wp (dC fi 1 js (hName 0) dQ g δ st) Q:=by
 refine N9 (aF 0 m) (λ_ d=>∃x:Int,d=.int x) (λs'=>aM s' f/\Ex [f] st s') ?_ (by rw[gh];lk) ?_ ?_;refine aR hi λS s1 h=>?_;obtain⟨rfl,rfl⟩:=h;exact⟨λi st2 hi h=>vW _ st2 i st2 hi Ex.refl,hf,Ex.refl⟩;intro i d hd s ⟨fs,ks⟩;exact aR (hg d s fs) λy s2 h=>⟨h.1,h.2.1,ks.trans h.2.2⟩;intro zs s ⟨fs,ks⟩ EH hz;obtain⟨L,rfl⟩:=Uk hz;rw[gh,Zaa]at EH;exact fin L s EH fs ks
def zbz{st:Store}{xs ys:List Int}{n f:Nat}(hf:aM st f)(tx:ae.Tn n xs)(ty:ae.Tn n ys)(n1:1<=n)(hn:n<=100):Wp (Ld [.ref f,bJ xs ys] st) λd st'=>∃L:List Int,d=.tup (L.map D.int)/\L.length=2*n/\Cb n (xs,ys) (rM n L)/\aM st' f/\Ex [f] st st':=by have hlx:=tx.length;refine mM ?_;show Ws (HN [some (.ref f),some (bJ xs ys),none,none,none,none] st) _ _ _ _;unfold HN;refine aO (bt ?_);exists _,Z,show bJ xs ys=.tup [.tup (xs.map D.int),.tup (ys.map D.int)]from rfl;rw[Zaa,hlx];refine Z _ _ (aO (bt ?_));k_lt2 Z;refine Vj (m:=n) hf ⋯ ?_ ?_ ?_;k_lt cH;exact⟨by lk,cH _ _ ⟨by rw[Zae],rfl⟩⟩;intro d s fs;exists _,cH,Zav,Za3,Zbc,Zbd;refine aR (qP (n:=7) fs ∅ ∅) ?_;rintro d s2 ⟨c,rfl,c0,c1,IP,IQ⟩;w_how;exact cH _ _ ⟨⟨_,rfl⟩,IP,IQ⟩;intro W s hW fs ks;refine aR (OZ (w:=W) tx ty hn hW (.inr ⟨_,rfl,jW⟩)) ?_;rintro d s1 ⟨rfl,k1⟩;have f1:aM s1 f:=(fs.keep (Ex.cE _)).keep k1;have e1:Ex [f] st s1:=(ks.app _).trans k1.any;obtain⟨d0,s7,e0,ct,rfl,ct0,ct1,f7,k7⟩:=qP (n:=4) f1 ∅ ∅;refine Z _ _ (aO (lA (aF 0 ct.toNat) (λi δ s2=>∃(v4 v5:Option D) (L:List Int),δ=[some (.ref f),some (bJ xs ys),some (.int (n:Int)),some (.tup (L.map D.int)),v4,v5]/\L.length=2*n/\Cb n (xs,ys) (rM n L)/\aM s2 f/\Ex [f] st s2) ?_ (by rw[gh];lk) ?_ ?_));k_lt2 Z;refine⟨_,_,e0,?_⟩;exact⟨_,rfl,by lk,Z _ _ ⟨rfl,none,none,_,rfl,LO xs ys n W,Vd (p:=(xs,ys)) ⟨tx,ty⟩ W,f7,e1.trans k7⟩⟩;clear Z;rintro i d δ s2 hd ⟨v4,v5,L,rfl,hL,hC,f2,k2⟩;k_lt Z;refine Z _ _ (aO (bt ?_));k_lt2 Z;refine aR (qP (n:=2) f2 ∅ ∅) ?_;rintro d s3 ⟨c,rfl,c0,c1,f3,k3⟩;refine Z _ _ (bt ?_);k_lt2 Z;refine aR (qP (n:=(n:Int)) f3 ⋯ ⋯) ?_;rintro d s4 ⟨o,rfl,o0,o1,f4,k4⟩;refine aR (ycs (s:=o) (w:=c) tx ty hn o0 o1 ⋯) ?_;rintro d s5 ⟨M,rfl,hM,cM,k5⟩;refine aR (qP (n:=5) (f4.keep k5) ∅ ∅) ?_;rintro d s6 ⟨e,rfl,e0',JM,f6,k6⟩;w_how;refine aR (Vh (a:=L) (b:=M) (w:=e-2) (by rw[hL,hM]) ⋯ ⋯ ⋯) ?_;rintro d s8 ⟨N,rfl,hN,eN,k8⟩;exact Z _ _ ⟨_,_,N,rfl,by rw[hN,hL],Vi (p:=(xs,ys)) ⟨tx,ty⟩ hC cM hL eN,f6.keep k8,((((k2.trans k3).trans k4).trans k5.any).trans k6).trans k8.any⟩;clear Z;rintro δ s2 ⟨v4,v5,L,rfl,hL,hC,f2,k2⟩;refine cZ ?_;k_lt Z;exact Z _ _ ⟨L,rfl,hL,hC,f2,k2⟩
def Vk{n:Nat}{p:ae.cU}(h:ae.Vf n p){s u:ae.Se}(e:ae.oP n s u):∀(js:List Nat) {t:Int},0<=t->t<(n:Int)->o4 p s t js=o4 p u t js
 |[],_,_,_=>rfl
 |j :: js,t,t0,t1=>by
  have hb:=ug (j:=j) h.1 h.2 t0 t1;show B8 p s t j+_=B8 p u t j+_;rw[Vk h e js hb.1 hb.2]
  congr 1
  obtain⟨x0,x1⟩:=h.1.app t0 t1;obtain⟨y0,y1⟩:=h.2.app t0 t1;unfold B8;split;exact(e _ x0 x1).2;rw[(e _ y0 y1).1];rw[(e _ t0 t1).2];exact(e _ t0 t1).1
abbrev Zr(p:ae.cU)(s:ae.Se):Prop:=∀js:List Nat,(∀j∈js,j<4)->dH p.1 p.2 0 js=0->o4 p s 0 js=0
abbrev zf(n:Nat)(p:ae.cU)(s:ae.Se):Prop:=∀k,k<2*n->bad p.1 p.2 n (nY n s) k=false
def Du{n:Nat}{p:ae.cU}(w:ae.Wh n p):qH n p.1 p.2:=⟨w.v.1,w.v.2,w.all⟩
def Vl{n:Nat}{p:ae.cU}(w:ae.Wh n p)(n1:1<=n)(hn:n<=8)(s:ae.Se):zf n p s↔Zr p s:=by constructor;intro h js hj hc;rw[<- Ji w.v s js (ZaS 0) ⋯ hj,<- Ux (Du w) n1 hn (Ca n s) h,OY w.v.1 w.v.2 js (ZaS 0) ⋯ hj,hc];lk;intro h k hk;obtain⟨r1,r2,_⟩:=LL (Du w) n1 hn (s:=((k / 2:Nat):Int)) ⋯ ⋯ (j:=k % 2) (ZcD _ ∅);unfold bad;rw[Ji w.v s _ (ZaS 0) ⋯ r1,h _ r1 r2];rfl
def Jk{w:List bK}(hw:∀s∈w,ae.eV s):ae.g9 (ae.g9 w)=w:=by
 unfold ae.g9;rw[Zb3,List.reverse_reverse,ZaA];have:w.map (ae.lb ∘ ae.lb)=w.map id:=ZaT λs hs=>by
  obtain⟨b,k⟩:=s;cases b with
  |true=>show(true,- -k)=(true,k);rw[Int.neg_neg]
  |false=>show(false,4-(4-k))=(false,k);congr 1;lk
 rw[this,List.map_id]
def LY{w:List bK}(hw:∀s∈w,ae.eV s):∀a∈w.flatMap ae.br,qQ a:=λa ha=>by
 obtain⟨s,hs,h⟩:=List.mem_flatMap.mp ha;exact yc6 (hw s hs).1 h
def Jl{n:Nat}{w:List bK}{p:ae.cU}(h:ae.Vf n p)(hw:∀s∈w,ae.eV s):ae.b7 p (w.flatMap ae.br)=ae.b7 p w:=ae.RN (λ_=>trivial) h λs hs=>(hw s hs).1
def Cj{n:Nat}{p:ae.cU}(h:ae.Vf n p)(n1:1<=n){w:List bK}(hw:∀s∈w,ae.eV s)(s:ae.Se):Zr p (ae.cS p (w.flatMap ae.br) s)↔Zr (ae.b7 p w) s:=by
 have z1:(0:Int)<(n:Int):=by lk
 have hq:ae.Vf n (ae.b7 p w):=h.ld;constructor;intro z js hj hc;rw[<- Jl h hw]at hc ⊢;obtain⟨c1,c2⟩:=LW s (w.flatMap ae.br) h (LY hw) hj (ZaS 0) z1;rw[<- c2 hc];exact z _ (Pr hj) (c1.trans hc);intro z js hj hc;have hv:∀s∈ae.g9 w,ae.eV s:=ae.JW hw;obtain⟨f1,f2⟩:=ae.NI hq hv s;rw[Jk hw,ZbB,ae.wW]at f1;have back:ae.b7 (ae.b7 p w) ((ae.g9 w).flatMap ae.br)=p:=by
  have:=(ae.NI h hw s).2;rw[ZbB,ae.b7,ZaR]at this;have e:ae.b7 (ae.b7 p (w.flatMap ae.br)) ((ae.g9 w).flatMap ae.br)=p:=this
  rwa [Jl h hw]at e
 rw[back]at f1;obtain⟨c1,c2⟩:=LW (ae.cS p (w.flatMap ae.br) s) ((ae.g9 w).flatMap ae.br) hq (LY hv) hj (ZaS 0) z1;rw[back]at c1 c2;rw[<- c2 hc,Vk hq f1 _ (ZaS 0) z1];exact z _ (Pr hj) (c1.trans hc)
def Vm{n:Nat}{p:ae.cU}(W:ae.Wh n p)(n1:1<=n)(hn:n<=8){w:List bK}(hw:∀s∈w,ae.eV s)(s:ae.Se):zf n p (ae.cS p (w.flatMap ae.br) s)↔zf n (ae.b7 p w) s:=by rw[Vl W n1 hn,Vl (ae.Wh.ld ⋯ W) n1 hn,Cj W.v n1 hw]
def xc6{n:Nat}{p:ae.cU}(W:ae.Wh n p)(n1:1<=n)(hn:n<=8)(w:List Int):zf n p (rM n (kF p.1 p.2 n w)):=λk hk=>by
 rw[Vc (LO p.1 p.2 n w)];exact Yc4 (Du W) n1 hn k hk
def zg(n:Nat)(s:ae.Se):pU 1 (gZ n s):=λd hd=>by
 rcases ZaE.mp hd with h|h
 obtain⟨u,_,rfl⟩:=ZaP.mp h;trivial;obtain⟨u,_,rfl⟩:=ZaP.mp h;trivial
def Vn{st:Store}{Q:D->Store->Prop}{neg:Bool}{n:Nat}{s:ae.Se}:Wp (oG neg (gZ n s) (gZ n s) st) Q↔Q (.bl (!neg)) st:=by rw[Bw (n:=1) (zg n s) (zg n s) ∅];cases neg<;>simp
structure uD(w:List bK):Prop where
 pr:∀s∈w,ae.eV s
 len:w.length<=60
 nm:Nm w
def uD.tG{w:List bK}(h:uD w):∀s∈w,tG s:=λs hs=>(h.pr s hs).1
def uD.num{w:List bK}(h:uD w):∀s∈w,s.2.natAbs<=1000:=λs hs=>by have:=h.nm.num h.pr hs;lk
def uD.hb{w:List bK}(h:uD w){js:List Nat}(hl:js.length<=100):(gw w (hc js)).1+(gw w (hc js)).2<=50000:=by have:=h.nm.le (hc js);rw[LV]at this;lk
def Ck{st:Store}{p:ae.cU}{n:Nat}{w:List bK}(h:ae.Vf n p)(hn:n<=8)(hw:∀s∈w,tG s)(hl:w.length<=60):Wp (vC [mZ p,.tup (w.map bG)] st) λd st'=>d=mZ (ae.b7 p w)/\Ex [] st st':=by rw[<- UI];exact T2 h ⋯ hw ⋯
def tM{st:Store}{p:ae.cU}{n:Nat}{w:List bK}{s:ae.Se}(h:ae.Vf n p)(n1:1<=n)(hn:n<=8)(hw:∀s∈w,tG s)(hb:∀s∈w,s.2.natAbs<=1000)(hl:w.length<=60):Wp (vE [mZ p,.tup (w.map bG),gZ n s] st) λd st'=>d=gZ n (ae.cS p (w.flatMap ae.br) s)/\Ex [] st st':=yb0 h.1 h.2 n1 ⋯ hw hb ⋯
def pI{st:Store}{p:ae.cU}{n:Nat}{t:Int}{js:List Nat}{s:ae.Se}(h:ae.Vf n p)(hn:n<=8)(t0:0<=t)(t1:t<(n:Int))(hj:∀j∈js,j<4)(hl:js.length<=50000):Wp (qZ [mZ p,.int t,.str (ax js),gZ n s] st) λd st'=>d=.int (o4 p s t js)/\Ex [] st st':=by rw[Jh,<- Ji h s js t0 t1 hj];exact OT h.1 h.2 ⋯ t0 t1 hj hl (Ca n s)
def Vo{n:Nat}{p:ae.cU}(W:ae.Wh n p)(n1:1<=n)(hn:n<=8)(s:ae.Se):(zf n p s/\pE p.1 p.2 n (nY n s)=.tup [.str "border",.tup ((vI p.1 p.2 n (nY n s)).map D.int)])\/(¬zf n p s/\∃R:List Nat,pE p.1 p.2 n (nY n s)=.tup [.str "ride",.str (ax R)]/\(∀i∈R,i<4)/\dH p.1 p.2 0 R=0/\R.length<=100/\o4 p s 0 R≠0):=by
 cases e:(List.range (2*n)).find? (bad p.1 p.2 n (nY n s))with
 |none =>
  have h:zf n p s:=λk hk=>by
   have:=List.find?_eq_none.mp e k (Za0.mpr hk)
   simpa using this
  exact .inl ⟨h,OX h⟩
 |some k =>
  obtain⟨b,hk,_⟩:=List.find?_range_eq_some.mp e;have hk:=Za0.mp hk;refine .inr ⟨λh=>(by rw[h k hk]at b;cases b),mD p.1 p.2 n ((k / 2:Nat):Int) (k % 2),by unfold pE;rw[e],?_⟩;obtain⟨r1,r2,r3⟩:=LL (Du W) n1 hn (s:=((k / 2:Nat):Int)) ⋯ ⋯ (j:=k % 2) (ZcD _ ∅);refine⟨r1,r2,by lk,?_⟩;unfold bad at b;rw[Ji W.v s _ (ZaS 0) ⋯ r1]at b;simpa using b
def Cm{st:Store}{p:ae.cU}{n:Nat}{s:ae.Se}(W:ae.Wh n p)(n1:1<=n)(hn:n<=8):Wp (xo [mZ p,gZ n s] st) λd st'=>d=pE p.1 p.2 n (nY n s)/\Ex [] st st':=by rw[Jh];exact Yca (Du W) n1 hn (Ca n s)
def Vp{st:Store}{Q:D->Store->Prop}{p:ae.cU}{t:Int}{js:List Nat}:Wp (av (.tup ((qg p.1 p.2 t js).map D.int)) (.int (-1)) st) Q↔Q (.int (dH p.1 p.2 t js)) st:=by rw[Sq];constructor;rintro⟨x,e,q⟩;rw[OL]at e;cases e;exact q;exactλq=>⟨_,OL _ _ _ _,q⟩
def uk{st:Store}{Q:D->Store->Prop}{a b:D}:Wp (av (.tup [a,b]) (.int 0) st) Q↔Q a st:=bz
def zdt{st:Store}{Q:D->Store->Prop}{a b:D}:Wp (av (.tup [a,b]) (.int 1) st) Q↔Q b st:=bz
def Jm:¬Str.ofString "ride" = Str.ofString "border" := by w_fin
def Pu:¬Str.ofString "border" = Str.ofString "ride" := by w_fin
def Ycs{st:Store}{p:ae.cU}{n:Nat}{w:List bK}{s:ae.Se}{t:Int}{js:List Nat}(W:ae.Wh n p)(n1:1<=n)(hn:n<=8)(hw:uD w)(c:Cb n (ae.b7 p w) s)(t0:0<=t)(t1:t<(n:Int))(hj:∀j∈js,j<4)(hl:js.length<=100)(hcl:dH (ae.b7 p w).1 (ae.b7 p w).2 t js=t):
  Wp (Lr [mZ p,.tup (w.map bG),gZ n s,.int t,.str (ax js)] st) λd st'=>d=.bl true/\Ex [] st st':=by
 have WQ:ae.Wh n (ae.b7 p w):=ae.Wh.ld ⋯ W;have c2:Cb n p (ae.cS p (w.flatMap ae.br) s):=Vb _ W.v (LY hw.pr) (by rw[Jl W.v hw.pr];exact c);have Vq:∀{js:List Nat} {t:Int},(∀j∈js,j<4)->0<=t->t<(n:Int)->dH (ae.b7 p w).1 (ae.b7 p w).2 t js=t->dH p.1 p.2 t (carry w.reverse js)=t/\o4 p (ae.cS p (w.flatMap ae.br) s) t (carry w.reverse js)=o4 (ae.b7 p w) s t js:=λhj t0 t1 hc=>by
  rw[U6];obtain⟨a,b⟩:=LW s (w.flatMap ae.br) W.v (LY hw.pr) hj t0 t1;rw[Jl W.v hw.pr]at a b;exact⟨a.trans hc,b hc⟩
 have ln:∀{js:List Nat},(∀j∈js,j<4)->js.length<=100->(carry w.reverse js).length<=50000:=λhj hl=>by
  rw[<- LV,U0 hw.pr hj];exact hw.hb hl
 have kinds:=Vm W n1 hn hw.pr s;have bT:=Vo WQ n1 hn s;have bB:=Vo W n1 hn (ae.cS p (w.flatMap ae.br) s);refine mM ?_;show Ws (Lq [some (mZ p),some (.tup (w.map bG)),some (gZ n s),some (.int t),some (.str (ax js)),none,none,none,none,none,none,none] st) _ _ _ _;unfold Lq;refine aO (bt ?_);k_lt Z;refine aR (Ck W.v hn hw.tG hw.len) ?_;rintro d s1 ⟨rfl,k1⟩;refine Z _ _ (aO (bt ?_));k_lt2 Z;refine aR (tM W.v n1 hn hw.tG hw.num hw.len) ?_;rintro d s2 ⟨rfl,k2⟩;refine Z _ _ (aO (bt ?_));k_lt2 Z;refine aR (U1 (λs hs=>⟨hw.pr s hs,hw.num s hs⟩) hw.len hj (hw.hb hl)) ?_;rintro d s3 ⟨rfl,k3⟩;have Vr:=(k1.trans k2).trans k3;clear k1 k2 k3;refine Z _ _ (aO (gi ?_));k_lt2 Z;refine aR (U9 (p:=ae.b7 p w) WQ.v ⋯ c) ?_;rintro d s4 ⟨rfl,k4⟩;rw[S5];refine⟨_,rfl,?_⟩;rw[if_neg ∅];refine aR (U9 (p:=p) W.v ⋯ c2) ?_;rintro d s5 ⟨rfl,k5⟩;rw[S5];have LZ:=(Vr.trans k4).trans k5;clear Vr k4 k5;refine⟨_,rfl,Z _ _ ⟨λz=>absurd z ∅,λ_=>jb (aO (gi ?_))⟩⟩;k_lt2 Z;obtain⟨g1,g2⟩:=Vq hj t0 t1 hcl;have cj:=Jc w.reverse hj;have Vs:=ln hj hl;refine aR (OM W.v.1 W.v.2 ⋯ t0 t1 cj Vs) ?_;rintro d s6 ⟨rfl,k6⟩;rw[Vp,g1];w_how;refine Z _ _ ⟨λz=>absurd z (by simp),λ_=>jb (aO (gi ?_))⟩;k_lt2 Z;refine aR (pI WQ.v hn t0 t1 hj ⋯) ?_;rintro d s7 ⟨rfl,k7⟩;refine aR (pI W.v hn t0 t1 cj Vs) ?_;rintro d s8 ⟨rfl,k8⟩;rw[g2];w_how;refine Z _ _ ⟨λz=>absurd z (by simp),λ_=>jb (aO (Fv ?_))⟩;k_lt2 Z;refine aR (Cm WQ n1 hn) ?_;rintro d s9 ⟨rfl,k9⟩;refine aR (Cm W n1 hn) ?_;rintro d Ey ⟨rfl,Jn⟩;have K:=((((LZ.trans k6).trans k7).trans k8).trans k9).trans Jn;refine Z _ _ ⟨_,_,rfl,?_⟩;clear Z LZ k6 k7 k8 k9 Jn g1 g2;generalize pE (ae.b7 p w).1 (ae.b7 p w).2 n (nY n s)=DT at bT ⊢;generalize hDB:pE p.1 p.2 n (nY n (ae.cS p (w.flatMap ae.br) s))=DB at bB ⊢;show Ws _ _ _ _ _;have both:(∃a b:List D,DT=.tup [.str "border",.tup a]/\zf n p (ae.cS p (w.flatMap ae.br) s)/\DB=.tup [.str "border",.tup ((vI p.1 p.2 n (nY n (ae.cS p (w.flatMap ae.br) s))).map D.int)])\/∃R R2:List Nat,(DT=.tup [.str "ride",.str (ax R)]/\(∀i∈R,i<4)/\dH (ae.b7 p w).1 (ae.b7 p w).2 0 R=0/\R.length<=100)/\DB=.tup [.str "ride",.str (ax R2)]/\(∀i∈R2,i<4)/\dH p.1 p.2 0 R2=0/\R2.length<=100/\o4 p (ae.cS p (w.flatMap ae.br) s) 0 R2≠0:=by
  rcases bT with⟨a,e⟩|⟨a,R,e,r1,r2,r3,_⟩
  rcases bB with⟨b,f⟩|⟨b,_⟩
  exact .inl ⟨_,[],e,b,f⟩;exact absurd (kinds.mpr a) b;rcases bB with⟨b,f⟩|⟨b,R2,f,q⟩
  exact absurd (kinds.mp b) a;exact .inr ⟨R,R2,⟨e,r1,r2,r3⟩,f,q⟩
 refine aO (vU (N:=λδ s'=>δ=[some (mZ p),some (.tup (w.map bG)),some (gZ n s),some (.int t),some (.str (ax js)),some (mZ (ae.b7 p w)),some (gZ n (ae.cS p (w.flatMap ae.br) s)),some (.str (ax (carry w.reverse js))),some DT,some DB,none,none]/\Ex [] st s') (gi ?_) ?_);k_lt Z;rcases both with⟨a,_,rfl,nb,rfl⟩|⟨R,R2,⟨rfl,_⟩,rfl,_⟩
 rw[uk,uk,ux];refine⟨_,rfl,?_⟩;rw[if_neg (by simp),uk,ux];refine⟨_,rfl,?_⟩;rw[if_pos (by simp),zdt];refine aR (OZ W.v.1 W.v.2 ⋯ (ydq _ _ _ _) (.inl rfl)) ?_;rintro d sA ⟨rfl,kA⟩;rw[Ux (Du W) n1 hn (Ca n _) nb,<- Jh,Vn];exact⟨_,rfl,Z _ _ ⟨λz=>absurd z ∅,λ_=>jb ⟨rfl,K.trans kA⟩⟩⟩;rw[uk,uk,ux];refine⟨_,rfl,?_⟩;rw[if_neg (by simp),uk,ux];refine⟨_,rfl,?_⟩;rw[if_neg (by simp[Jm])];exact Z _ _ ⟨λz=>absurd z ∅,λ_=>jb ⟨rfl,K⟩⟩;rintro δ s11 ⟨rfl,K2⟩;refine aO (vU (N:=λδ s'=>δ=[some (mZ p),some (.tup (w.map bG)),some (gZ n s),some (.int t),some (.str (ax js)),some (mZ (ae.b7 p w)),some (gZ n (ae.cS p (w.flatMap ae.br) s)),some (.str (ax (carry w.reverse js))),some DT,some DB,none,none]/\Ex [] st s') (gi ?_) ?_);k_lt Z;rcases both with⟨a,_,rfl,nb,rfl⟩|⟨R,R2,⟨rfl,_⟩,rfl,r1,r2,r3,r4⟩
 rw[uk,ux];refine⟨_,rfl,?_⟩;rw[if_neg (by simp[Pu])];exact Z _ _ ⟨λz=>absurd z ∅,λ_=>jb ⟨rfl,K2⟩⟩;rw[uk,ux];refine⟨_,rfl,?_⟩;rw[if_pos (by simp),zdt];refine aR (pI W.v hn (ZaS 0) ⋯ r1 ⋯) ?_;rintro d sA ⟨rfl,kA⟩;w_how;exact Z _ _ ⟨λz=>absurd z (by simp[r4]),λ_=>jb ⟨rfl,K2.trans kA⟩⟩;rintro δ s12 ⟨rfl,K3⟩;refine aO (vU (N:=λδ s'=>δ=[some (mZ p),some (.tup (w.map bG)),some (gZ n s),some (.int t),some (.str (ax js)),some (mZ (ae.b7 p w)),some (gZ n (ae.cS p (w.flatMap ae.br) s)),some (.str (ax (carry w.reverse js))),some DT,some DB,none,none]/\Ex [] st s') (gi ?_) ?_);k_lt Z;rcases both with⟨a,_,rfl,nb,rfl⟩|⟨R,R2,⟨rfl,_⟩,rfl,r1,r2,r3,r4⟩
 rw[uk,ux];refine⟨_,rfl,?_⟩;rw[if_neg (by simp[Pu])];exact Z _ _ ⟨λz=>absurd z ∅,λ_=>jb ⟨rfl,K3⟩⟩;rw[uk,ux];refine⟨_,rfl,?_⟩;rw[if_pos (by simp),zdt];refine aR (OM W.v.1 W.v.2 ⋯ (ZaS 0) ⋯ r1 ⋯) ?_;rintro d sA ⟨rfl,kA⟩;rw[Vp,r2];w_how;exact Z _ _ ⟨λz=>absurd z (by simp),λ_=>jb ⟨rfl,K3.trans kA⟩⟩;rintro δ s13 ⟨rfl,K4⟩;refine aO (vU (N:=λδ s'=>∃v10:Option D,δ=[some (mZ p),some (.tup (w.map bG)),some (gZ n s),some (.int t),some (.str (ax js)),some (mZ (ae.b7 p w)),some (gZ n (ae.cS p (w.flatMap ae.br) s)),some (.str (ax (carry w.reverse js))),some DT,some DB,v10,none]/\Ex [] st s') (gi ?_) ?_);k_lt Z;rcases both with⟨a,_,rfl,nb,rfl⟩|⟨R,R2,⟨rfl,r1,r2,r3⟩,rfl,_⟩
 rw[uk,ux];exact⟨_,rfl,Z _ _ ⟨λz=>absurd z (by simp[Pu]),λ_=>jb ⟨_,rfl,K4⟩⟩⟩;rw[uk,ux];refine⟨_,rfl,Z _ _ ⟨λ_=>aO (bt ?_),λz=>absurd z (by simp)⟩⟩;k_lt2 Z;refine aR (U1 (λs hs=>⟨hw.pr s hs,hw.num s hs⟩) hw.len r1 (hw.hb r3)) ?_;rintro d sA ⟨rfl,kA⟩;refine Z _ _ (gi ?_);k_lt2 Z;obtain⟨g1,g2⟩:=Vq r1 (ZaS 0) ⋯ r2;refine aR (pI W.v hn (ZaS 0) ⋯ (Jc w.reverse r1) (ln r1 r3)) ?_;rintro d sB ⟨rfl,kB⟩;refine aR (pI WQ.v hn (ZaS 0) ⋯ r1 ⋯) ?_;rintro d sC ⟨rfl,kC⟩;rw[g2];w_how;exact Z _ _ ⟨λz=>absurd z (by simp),λ_=>jb ⟨_,rfl,((K4.trans kA).trans kB).trans kC⟩⟩;rintro δ s14 ⟨v10,rfl,K5⟩;refine aO (bt ?_);exists _,Z,CU;have tk:cutD (w.map bG) none (some (1:Int))=(w.take 1).map bG:=by
  have:=CU (w.map bG) 1;rw[List.map_take];exact this
 have dr:cutD (w.map bG) (some (1:Int)) none=(w.drop 1).map bG:=by
  have:=YZ (w.map bG) 1;rw[List.map_drop];exact this
 rw[tk];have hlw:=hw.len;refine aR (Ck W.v hn (λs hs=>hw.tG s (ZbN hs)) (by rw[Za2];lk)) ?_;rintro d s15 ⟨rfl,LZ⟩;refine Z _ _ (cZ ?_);k_lt2 Z;rw[tk,dr];refine aR (tM (p:=ae.b7 p (w.take 1)) W.v.ld n1 hn (λs hs=>hw.tG s (ZcE hs)) (λs hs=>hw.num s (ZcE hs)) (by rw[Zcl];lk)) ?_;rintro d s16 ⟨rfl,k16⟩;refine aR (tM W.v n1 hn (λs hs=>hw.tG s (ZbN hs)) (λs hs=>hw.num s (ZbN hs)) (by rw[Za2];lk)) ?_;rintro d s17 ⟨rfl,k17⟩;have e:ae.cS p ((w.take 1).flatMap ae.br) (ae.cS (ae.b7 p (w.take 1)) ((w.drop 1).flatMap ae.br) s)=ae.cS p (w.flatMap ae.br) s:=by
  rw[<- Jl W.v λs hs=>hw.pr s (ZbN hs),<- ae.wW,<- ZbB,List.take_append_drop]
 rw[e,Vn];exact Z _ _ ⟨rfl,((K5.trans LZ).trans k16).trans k17⟩
def zbP{st:Store}{f n:Nat}{p:ae.cU}{w:List bK}(hf:aM st f)(W:ae.Wh n p)(n1:1<=n)(hn:n<=8)(hw:uD w):Wp (Lu [.ref f,mZ p,.tup (w.map bG)] st) λd st'=>d=.bl true/\aM st' f/\Ex [f] st st':=by
 have WQ:ae.Wh n (ae.b7 p w):=ae.Wh.ld ⋯ W;have hx:=W.v.1.length;refine mM ?_;show Ws (Iq [some (.ref f),some (mZ p),some (.tup (w.map bG)),none,none,none,none,none,none] st) _ _ _ _;unfold Iq;refine aO (bt ?_);k_lt Z;refine aR (Ck W.v hn hw.tG hw.len) ?_;rintro d s1 ⟨rfl,k1⟩;refine Z _ _ (aO (bt ?_));clear Z;exists _,Z,show mZ p=.tup [.tup (p.1.map D.int),.tup (p.2.map D.int)]from rfl;rw[Zaa,hx];refine aR (qP (n:=(n:Int)) (hf.keep k1) ⋯ ⋯) ?_;rintro d s2 ⟨t,rfl,t0,t1,f2,k2⟩;refine Z _ _ (aO (bt ?_));k_lt2 Z;refine aR (ycb (xs:=(ae.b7 p w).1) (ys:=(ae.b7 p w).2) f2 WQ.v.1 WQ.v.2 hn t0 t1) ?_;rintro d s3 ⟨js,rfl,hj,hjl,hcl,f3,k3⟩;refine Z _ _ (aO (bt ?_));k_lt2 Z;refine⟨rfl,?_⟩;refine aR (qP (n:=2) (f3.keep (Ex.cE [O.lst [D.int 3,D.int 300]])) ∅ ∅) ?_;rintro d s4 ⟨e,rfl,e0,e1,f4,k4⟩;have ac9:=f3.lt;have Vt:items s4 s3.length=some [D.int 3,D.int 300]:=fS (k4.keep _ _ jW (by simp;lk));obtain⟨Dw,Jo,ada,adb⟩:∃Dw:Int,gT [D.int 3,D.int 300] e=some (.int Dw)/\3<=Dw/\Dw<=300:=by
  rcases(show e=0\/e=1 by lk)with rfl|rfl
  exact⟨3,rfl,by decide,by decide⟩;exact⟨300,rfl,by decide,by decide⟩
 exists Vt,Jo;have K4:Ex [f] st s4:=(((k1.any.trans k2).trans k3).app _).trans k4;clear k1 k2 k3 k4 Vt Jo;refine Z _ _ (aO (bt ?_));k_lt2 Z;refine Vj (m:=n) f4 ⋯ ?_ ?_ ?_;exists _,cH,show mZ p=.tup [.tup (p.1.map D.int),.tup (p.2.map D.int)]from rfl;rw[Zaa,hx];exact⟨by lk,cH _ _ ⟨by rw[Zae],rfl⟩⟩;intro d s fs;exists _,cH,Zav,Za3,Zbc,Zbd;refine⟨.inl ⟨by decide,by decide⟩,?_⟩;refine aR (qP (n:=2*Dw+1) fs ⋯ ⋯) ?_;rintro d s2 ⟨c,rfl,c0,c1,IP,IQ⟩;w_how;exact cH _ _ ⟨⟨_,rfl⟩,IP,IQ⟩;intro B0 s5 BN f5 k5;refine aR (OZ (w:=B0) WQ.v.1 WQ.v.2 ⋯ BN (.inr ⟨_,rfl,jW⟩)) ?_;rintro d s6 ⟨rfl,k6⟩;have f6:aM s6 f:=(f5.keep (Ex.cE _)).keep k6;have K6:Ex [f] st s6:=(K4.trans (k5.app _)).trans k6.any;have Jp:=LO (ae.b7 p w).1 (ae.b7 p w).2 n B0;have cB:=Vd WQ.v B0;have nB:=xc6 WQ n1 hn B0;rw[LX Jp];generalize hBe:kF (ae.b7 p w).1 (ae.b7 p w).2 n B0=B at Jp cB nB ⊢;refine Z _ _ (aO (gi ?_));clear Z K4 k5 k6 f5 f4;k_lt Z;refine aR (tM W.v n1 hn hw.tG hw.num hw.len) ?_;rintro d s7 ⟨rfl,k7⟩;refine aR (Cm W n1 hn) ?_;rintro d s8 ⟨rfl,k8⟩;rw[OX ((Vm W n1 hn hw.pr (rM n B)).mpr nB),uk,ux];have f8:=f6.keep (k7.trans k8);have K8:Ex [f] st s8:=K6.trans (k7.trans k8).any;refine⟨_,rfl,Z _ _ ⟨λz=>absurd z (by simp),λ_=>jb ?_⟩⟩;clear Z;obtain⟨d1,s9,e9,L,rfl,hL,cL,f9,k9⟩:=zbz (st:=s8) (xs:=(ae.b7 p w).1) (ys:=(ae.b7 p w).2) f8 WQ.v.1 WQ.v.2 n1 ⋯;obtain⟨d2,Ey,e10,N,rfl,hN,eN,Jn⟩:=Vh (st:=s9) (a:=L) (b:=B) (w:=1) (by rw[hL,Jp]) ⋯ ∅ ∅;have tL:N.length=2*n:=by rw[hN,hL]
 have cN:=Vi WQ.v cL cB hL eN;refine aO (lA [gZ n (rM n N),gZ n (rM n B)] (λi δ s'=>∃v8:Option D,δ=[some (.ref f),some (mZ p),some (.tup (w.map bG)),some (mZ (ae.b7 p w)),some (.int t),some (.str (ax js)),some (.int Dw),some (gZ n (rM n B)),v8]/\aM s' f/\Ex [f] st s') ?_ (show 2<100000 by decide) ?_ ?_);k_lt Z;refine⟨_,_,e9,?_⟩;rw[<- LX Jp];refine⟨_,_,e10,rfl,Z _ _ ⟨by rw[LX tL,LX Jp],none,rfl,f9.keep Jn,(K8.trans k9).trans Jn.any⟩⟩;rintro i d δ s' hd ⟨v8,rfl,fs,ks⟩;obtain⟨S,rfl,cS⟩:∃S,d=gZ n S/\Cb n (ae.b7 p w) S:=by
  have hil:=eY hd;rcases(show i=0\/i=1 by simp at hil;lk)with rfl|rfl
  cases hd;exact⟨_,rfl,cN⟩;cases hd;exact⟨_,rfl,cB⟩
 k_lt Z;refine Z _ _ (gi ?_);k_lt2 Z;refine aR (Ycs W n1 hn hw cS t0 t1 hj ⋯ hcl) ?_;rintro d s11 ⟨rfl,Vu⟩;exact⟨_,rfl,Z _ _ ⟨λz=>absurd z ∅,λ_=>jb ⟨_,rfl,fs.keep Vu,ks.trans Vu.any⟩⟩⟩;rintro δ s' ⟨v8,rfl,fs,ks⟩;refine cZ ?_;k_lt Z;exact Z _ _ ⟨rfl,fs,ks⟩
def zcT{w:List bK}(h:∀s∈w,xv 3 s)(hl:w.length<=4):uD w:=⟨λs hs=>⟨(h s hs).1,(h s hs).2.2⟩,by lk,zc6 h hl⟩
def vJ(ns:List Int)(hn:ns.length<=63):Wp (Oq [.ref 0] [.rT (ns.map D.int)]) λd _=>d=.bl true:=by
 refine nI ?_;intro qR;show Ws (Iu [some (.ref 0),none,none,none,none,none,none,none] [.rT (ns.map D.int)]) _ _ _ _;unfold Iu;have hc6:(cutD (ns.map D.int) none (some (6:Int))).length<=6:=by
  have:=CU (ns.map D.int) 6;rw[show(some (6:Int))=some ((6:Nat):Int)from rfl,this,Za2];lk
 obtain⟨m,hm,hm6⟩:∃m:Nat,(if((cutD (ns.map D.int) none (some (6:Int))).length:Int) > 2 then((cutD (ns.map D.int) none (some (6:Int))).length:Int)else 2)=(m:Int)/\m<=6:=by
  split;exact⟨_,rfl,hc6⟩;exact⟨2,rfl,by decide⟩
 have h00:([O.rT (ns.map D.int)]:Store)[0]?=some (.rT (ns.map D.int)):=rfl
 let pD:IV:=λi δ st=>∃(v1 v2 v3 v4 v5 v6 v7:Option D),δ=[some (.ref 0),v1,v2,v3,v4,v5,v6,v7]/\st[0]?=some (.rT (ns.map D.int))
 refine aO (lA (aF 0 m) pD ?_ (by rw[gh];lk) ?_ ?_);exists _,Z,SD h00,hm;exact⟨by lk,Z _ _ ⟨by rw[Zae],_,_,_,_,_,_,_,rfl,rfl⟩⟩;rintro i d δ st hd ⟨v1,v2,v3,v4,v5,v6,v7,rfl,h0⟩;have hil:=eY hd;rw[gh]at hil;rw[vT hil,Za9]at hd;cases hd;k_lt Z;refine Z _ _ (aO (bt ?_));k_lt2 Z;refine aR (ZcL (a:=0) (ns:=ns) (k:=i) (SD h0) ⋯) ?_;rintro d s1 ⟨rfl,f1,k1⟩;generalize hF:st.length=ff at f1 ⊢;have hff:0<ff:=by rw[<- hF];exact eY h0
 have h01:=k1.keep _ _ h0 (by simp);refine Z _ _ (aO (Fv ?_));k_lt2 Z;refine aR (T3 (most:=4) (great:=3) f1 ∅ ∅ ∅ ∅) ?_;rintro d s2 ⟨w,rfl,hw,hwl,f2,k2⟩;refine aR (T3 (most:=8) (great:=2) f2 ∅ ∅ ∅ ∅) ?_;rintro d s3 ⟨v,rfl,hv,hvl,f3,k3⟩;refine Z _ _ ⟨_,_,rfl,aO (bt ?_)⟩;k_lt2 Z;refine aR (qP (n:=8) f3 ∅ ∅) ?_;rintro d s4 ⟨n0,rfl,n00,n01,f4,k4⟩;w_how;obtain⟨n,rfl⟩:∃n:Nat,n0=(n:Int)-1:=⟨(n0+1).toNat,by lk⟩;rw[show(1:Int)+((n:Int)-1)=(n:Int) by lk];refine aR (zcr (n:=n) f4 ⋯ ⋯) ?_;rintro d s5 ⟨xs,ys,rfl,fl,f5,k5⟩;have W:ae.Wh n (xs,ys):=⟨⟨fl.1,fl.2.1⟩,fl.2.2⟩;refine Z _ _ (aO (bt ?_));k_lt2 Z;have vp:∀s∈v,ae.eV s:=λs hs=>⟨(hv s hs).1,(hv s hs).2.2⟩;have vn:∀s∈v,s.2.natAbs<=3:=λs hs=>by
  obtain⟨b,k⟩:=s;cases b with
  |true=>have:(k.natAbs:Int)<=2:=(hv _ hs).2.1 rfl;show k.natAbs<=3;lk
  |false=>have:1<=k/\k<=3:=(hv _ hs).1 rfl;show k.natAbs<=3;lk
 refine aR (OE (w:=v) (λs hs=>⟨vp s hs,by have:=vn s hs;lk⟩) ⋯) ?_;rintro d s6 ⟨rfl,k6⟩;refine aR (Xb9 (IJ hv ⋯) (ae.JX vp)) ?_;rintro d s7 ⟨u,rfl,up,ul,un,k7⟩;have wu:uD u:=⟨up,ul,un⟩;have ww:uD w:=zcT hw ⋯;have f7:=f5.keep (k6.trans k7);have h07:s7[0]?=some (.rT (ns.map D.int)):=(((((k2.trans k3).trans k4).trans k5).trans k6.any).trans k7.any).keep _ _ h01 (by simp;lk);clear k2 k3 k4 k5 k6 k7 f1 f2 f3 f4 f5;refine Z _ _ ?_;clear Z
 obtain⟨ds,hds,hdl⟩:∃ds:List D,ds=[.tup (w.map bG)] ++ (List.replicate (if decide ((u.length:Int)<21)=true then(1:Int)else 0).toNat [D.tup (u.map bG)]).flatten/\∀d∈ds,∃z,d=.tup (z.map bG)/\uD z:=⟨_,rfl,λd hd=>by
  rcases ZaE.mp hd with hd|hd
  exact⟨w,ZaM.mp hd,ww⟩;obtain⟨l,hl,h⟩:=List.mem_flatten.mp hd;rw[List.eq_of_mem_replicate hl]at h
  exact⟨u,ZaM.mp h,wu⟩⟩
 have hdn:ds.length<=2:=by
  rw[hds];split<;>simp
 let Iy:IV:=λj δ s'=>∃v7:Option D,δ=[some (.ref 0),some (.int (i:Int)),some (.ref ff),some (.tup (w.map bG)),some (.tup (v.map bG)),some (bJ xs ys),some (.tup (u.map bG)),v7]/\s'[0]?=some (.rT (ns.map D.int))/\aM s' ff/\s'[s7.length+3]?=some (.lst ds)
 refine Sr ds (s7.length+3) Iy ?_ ⋯ (λj δ s' h=>h.elim λ_ h=>fS h.2.2.2) ?_ ?_;k_lt Z;rw[Zaa];generalize hk:(if decide ((u.length:Int)<21)=true then(1:Int)else 0)=k at hds ⊢;have hk1:0<=k/\k<=1:=by rw[<- hk];split<;>decide
 have hfl:(List.replicate k.toNat [D.tup (u.map bG)]).flatten.length<=1:=by simp;lk
 refine⟨rfl,rfl,⟨by lk,by lk⟩,i9 (by rw[ZaC];lk),i9 (by rw[ZaC];lk),?_⟩;rw[<- hds];have el:(s7 ++ [O.lst [D.tup (w.map bG)]] ++ [O.lst [D.tup (u.map bG)]] ++ [O.lst (List.replicate k.toNat [D.tup (u.map bG)]).flatten]).length=s7.length+3:=by simp
 rw[el];refine Z _ _ ⟨rfl,_,rfl,nH (nH (nH (nH h07))),f7.keep ((((Ex.cE _).app _).app _).app _),?_⟩;rw[<- el];exact jW;rintro j d δ s' hd ⟨v7,rfl,h0',fs,hi⟩;obtain⟨z,rfl,wz⟩:=hdl d (Zas hd);k_lt Z;refine Z _ _ (gi ?_);k_lt2 Z;refine aR (zbP (p:=(xs,ys)) fs W ⋯ ⋯ wz) ?_;rintro d s8 ⟨rfl,f8,k8⟩;have hfs:=fs.lt;refine⟨_,rfl,Z _ _ ⟨λz=>absurd z ∅,λ_=>jb ⟨_,rfl,k8.keep _ _ h0' (by simp;lk),f8,k8.keep _ _ hi (by have:=f7.lt;simp;lk)⟩⟩⟩;rintro δ s' ⟨v7,rfl,h0',fs,hi⟩;exact⟨_,_,_,_,_,_,_,rfl,h0'⟩;rintro δ st ⟨v1,v2,v3,v4,v5,v6,v7,rfl,_⟩;refine cZ ?_;k_lt Z;exact Z _ _ rfl
def Cn{P:Program}{w:World}{K:Zfr}{mg:Str->Option Value}{base:Heap}(T:Txt mg)(vD:pf K mg "BACK" [("r",.str "l"),("u",.str "d")])(jJ:pf K mg "OVER_QUARTER" [("r",.str "d"),("l",.str "u"),("u",.str "r"),("d",.str "l")]){pB:V}(nJ:uL K mg "QUARTER" pB (.tup [(.int 0),(.int (-1)),(.int 1),(.int 0)]))(sG:pf K mg "SIGNS" [("r",.int 1),("l",.int (-1)),("u",.int (-1)),("d",.int 1)]){lB:V}(gK:uL K mg "UNMOVED" lB (.tup [(.int 1),(.int 0),(.int 0),(.int 1)])){j6:Addr}{j7:FuncData}(iK:D10 K mg j6 j7){j9:Addr}{ka:FuncData}(az:D11 K mg j9 ka){gj:Addr}{gk:FuncData}(cV:D12 K mg gj gk){lW:Addr}{lX:FuncData}(iB:D13 K mg lW lX){jd:Addr}{je:FuncData}(gJ:D14 K mg jd je){lY:Addr}{lZ:FuncData}(jU:D15 K mg lY lZ){oS:Addr}{oT:FuncData}(h8:D16 K mg oS oT){qK:Addr}{qL:FuncData}(iL:D17 K mg qK qL){jh:Addr}{ji:FuncData}(gL:D18 K mg jh ji){l8:Addr}{l9:FuncData}(cF:D19 K mg l8 l9){nK:Addr}{nL:FuncData}(lC:D20 K mg nK nL){h9:Addr}{ia:FuncData}(fE:D21 K mg h9 ia){oU:Addr}{oV:FuncData}(nO:D22 K mg oU oV){jl:Addr}{jm:FuncData}(gM:D23 K mg jl jm){gn:Addr}{gp:FuncData}(dS:D24 K mg gn gp){ma:Addr}{md:FuncData}(jV:D25 K mg ma md){jo:Addr}{jq:FuncData}(gN:D26 K mg jo jq){kb:Addr}{kc:FuncData}(iM:D27 K mg kb kc){ke:Addr}{kf:FuncData}(iN:D28 K mg ke kf){nP:Addr}{nQ:FuncData}(lD:D29 K mg nP nQ){kh:Addr}{ki:FuncData}(fU:D30 K mg kh ki){mh:Addr}{mj:FuncData}(cX:D31 K mg mh mj){kj:Addr}{kl:FuncData}(iP:D32 K mg kj kl){ml:Addr}{mq:FuncData}(eZ:D33 K mg ml mq){qM:Addr}{qN:FuncData}(pC:D34 K mg qM qN){nS:Addr}{nT:FuncData}(lE:D35 K mg nS nT){ic:Addr}{ie:FuncData}(aZ:D36 K mg ic ie){eG:Addr}{eJ:FuncData}(bH:D37 K mg eG eJ){ig:Addr}{ik:FuncData}(fF:D38 K mg ig ik){oX:Addr}{oY:FuncData}(dY:D39 K mg oX oY){jt:Addr}{ju:FuncData}(gO:D40 K mg jt ju){ip:Addr}{iq:FuncData}(fH:D41 K mg ip iq){c5:Addr}{c6:FuncData}(b9:D42 K mg c5 c6){kn:Addr}{ko:FuncData}(bX:D43 K mg kn ko){mr:Addr}{mv:FuncData}(e7:D44 K mg mr mv){gs:Addr}{gu:FuncData}(dU:D45 K mg gs gu){fI:Addr}{fJ:FuncData}(aP:D46 K mg fI fJ){kq:Addr}{kr:FuncData}(dD:D47 K mg kq kr){c9:Addr}{da:FuncData}(cc:D48 K mg c9 da){ku:Addr}{ky:FuncData}(iQ:D49 K mg ku ky){oZ:Addr}{o3:FuncData}(iw:D50 K mg oZ o3){gy:Addr}{gA:FuncData}(dW:D51 K mg gy gA){nV:Addr}{nW:FuncData}(cG:D52 K mg nV nW){dZ:Addr}{ef:FuncData}(bp:D53 K mg dZ ef){jy:Addr}{jz:FuncData}(gP:D54 K mg jy jz){de:Addr}{df:FuncData}(cf:D55 K mg de df){dh:Addr}{di:FuncData}(cg:D56 K mg dh di){cv:Addr}{cw:FuncData}(bO:Def K mg "seam_over_quarters" Dc ["floor","k","seam"] cv cw){gD:Addr}{gE:FuncData}(bC:D57 K mg gD gE){dk:Addr}{dm:FuncData}(cm:D58 K mg dk dm){cy:Addr}{cz:FuncData}(bP:D59 K mg cy cz){gF:Addr}{gG:FuncData}(cY:D60 K mg gF gG){fK:Addr}{fL:FuncData}(dE:D61 K mg fK fL){jB:Addr}{jC:FuncData}(gQ:D62 K mg jB jC){eh:Addr}{ek:FuncData}(cR:D63 K mg eh ek){kD:Addr}{kE:FuncData}(fX:D64 K mg kD kE){jE:Addr}{jF:FuncData}(gR:D65 K mg jE jF){eA:Addr}{eB:FuncData}(cT:D66 K mg eA eB){Jq:Addr}{Jr:FuncData}(Pw:D67 K mg Jq Jr):G67 P w K mg base Jq Jr:=by have j8:=Zi (P:=P) (w:=w) (base:=base) iK T;have aA:=Zj (P:=P) (w:=w) (base:=base) az T;have dR:=Zk (P:=P) (w:=w) (base:=base) az aA cV T;have jT:=Zl (P:=P) (w:=w) (base:=base) iB T;have jf:=Zm (P:=P) (w:=w) (base:=base) az aA cV dR iB jT gJ T;have l6:=Zo (P:=P) (w:=w) (base:=base) jU T;have jg:=Zq (P:=P) (w:=w) (base:=base) h8 T;have jI:=Zt (P:=P) (w:=w) (base:=base) iL T;have jk:=Zu (P:=P) (w:=w) (base:=base) iL jI gL T nJ gK;have cW:=Zv (P:=P) (w:=w) (base:=base) iL jI gL jk cF T gK;have nM:=Zx (P:=P) (w:=w) (base:=base) lC T;have ib:=Zy (P:=P) (w:=w) (base:=base) jU l6 h8 jg cF cW lC nM fE T;have oW:=Zz (P:=P) (w:=w) (base:=base) nO T;have jn:=ZA (P:=P) (w:=w) (base:=base) nO oW gM T;have gq:=ZD (P:=P) (w:=w) (base:=base) gM jn dS T;have mf:=ZF (P:=P) (w:=w) (base:=base) jV T;have jr:=ZH (P:=P) (w:=w) (base:=base) h8 jg gN T;have kd:=ZJ (P:=P) (w:=w) (base:=base) iM T;have kg:=ZL (P:=P) (w:=w) (base:=base) iM kd iN T;have nR:=ZM (P:=P) (w:=w) (base:=base) iL jI cF cW fE ib dS gq jV mf gN jr iN kg lD T;have iO:=ZN (P:=P) (w:=w) (base:=base) az aA fU T;have dN:=ZP (P:=P) (w:=w) (base:=base) cX T;have km:=ZQ (P:=P) (w:=w) (base:=base) iP T;have fV:=ZR (P:=P) (w:=w) (base:=base) iP km eZ T;have qO:=ZT (P:=P) (w:=w) (base:=base) eZ fV pC T;have nU:=ZV (P:=P) (w:=w) (base:=base) cX dN pC qO lE T;have bh:=ZW (P:=P) (w:=w) (base:=base) aZ T;have cq:=ZY (P:=P) (w:=w) (base:=base) aZ bh bH T;have il:=ZZ (P:=P) (w:=w) (base:=base) lE nU bH cq fF T;have fG:=Z0 (P:=P) (w:=w) (base:=base) fF il dY T;have jv:=Z2 (P:=P) (w:=w) (base:=base) az aA gO T;have iu:=Z3 (P:=P) (w:=w) (base:=base) fH T;have c7:=Z4 (P:=P) (w:=w) (base:=base) gO jv fH iu b9 T;have cu:=Z5 (P:=P) (w:=w) (base:=base) bX T;have fW:=Z7 (P:=P) (w:=w) (base:=base) e7 T;have gx:=Z8 (P:=P) (w:=w) (base:=base) dU T;have aT:=Xbq (P:=P) (w:=w) (base:=base) aZ bh aP T;have eK:=ybX (P:=P) (w:=w) (base:=base) aP aT dD T;have dc:=Ybe (P:=P) (w:=w) (base:=base) dU gx dD eK cc T;have kz:=YbX (P:=P) (w:=w) (base:=base) iQ T vD;have jw:=zcL (P:=P) (w:=w) (base:=base) aP aT iw T;have gC:=Ybx (P:=P) (w:=w) (base:=base) dW T;have cQ:=Xcq (P:=P) (w:=w) (base:=base) iw jw dW gC cG T sG;have bE:=Zbn (P:=P) (w:=w) (base:=base) dD eK cc dc iQ kz cG cQ bp T;have jA:=XbL (P:=P) (w:=w) (base:=base) gP T;have dg:=xbe (P:=P) (w:=w) (base:=base) az aA bX cu e7 fW gP jA cf T;have dj:=Xbe (P:=P) (w:=w) (base:=base) aP aT cg T;have cx:=Xa7 (P:=P) (w:=w) (base:=base) bH cq bO T;have bI:=xbx (P:=P) (w:=w) (base:=base) dY fG cg dj bO cx bC T;have dn:=zbf (P:=P) (w:=w) (base:=base) cm T;have cC:=za8 (P:=P) (w:=w) (base:=base) bP T jJ;have dX:=Xbx (P:=P) (w:=w) (base:=base) cm dn bP cC cY T;have fM:=zbr (P:=P) (w:=w) (base:=base) cX dN aZ bh dE T;have jD:=ybM (P:=P) (w:=w) (base:=base) eZ fV dE fM gQ T;have eo:=Ybn (P:=P) (w:=w) (base:=base) gQ jD cR T;have iR:=xbX (P:=P) (w:=w) (base:=base) aP aT cR eo fX T;have jG:=ZbM (P:=P) (w:=w) (base:=base) dY fG bX cu iw jw cG cQ bp bE bC bI cY dX fX iR gR T;have eE:=xbn (P:=P) (w:=w) (base:=base) az aA dY fG b9 c7 bX cu e7 fW bp bE cf dg bC bI gR jG cT T;have Px:=BJ (P:=P) (w:=w) (base:=base) iK j8 az aA gJ jf cF cW lD nR fU iO cT eE Pw T;exact Px
end My
open PySem PySem.W PyProof.Rows L2
namespace PySem.W.Fast
abbrev tw13403204496799272998:=0
abbrev tw17456162239991006498:=0
abbrev tw13497073657280709348:=0
abbrev tw6106206637629258149:=0
abbrev tw14804957444415724037:=0
abbrev tw2230316089375031842:=0
abbrev tw14833760613542634751:=0
abbrev tw14836147047614537819:=0
abbrev tw12174106501195114617:=0
abbrev tw17573932154635321264:=0
abbrev tw15000592711657857732:=0
abbrev tw10254161813085648850:=0
abbrev tw11269744705083496687:=0
abbrev tw13913057905306444194:=0
abbrev tw1817073540777686415:=0
abbrev tw14714156422201354528:=0
abbrev tw8098389803301788578:=0
abbrev tw12505004978330864424:=0
abbrev tw9248715867329991872:=0
abbrev tw11421762748538988072:=0
abbrev tw15086435651450946483:=0
abbrev tw5473785894119334291:=0
abbrev tw4870545126897024878:=0
abbrev tw2559092157707529096:=0
abbrev tw9039502150798537078:=0
abbrev tw2990828990581115877:=0
abbrev tw3832867925790868719:=0
abbrev tw13704090915308441745:=0
abbrev tw16381339247160015475:=0
abbrev tw16109541946615028384:=0
abbrev tw6580131495986750839:=0
abbrev tw16981556040337809359:=0
abbrev tw15650731854283620134:=0
abbrev tw717673969601303309:=0
abbrev tw7437430387355599288:=0
abbrev tw16842483884655178173:=0
abbrev tw9946280963870710187:=0
abbrev tw5826360120627254507:=0
abbrev tw1518257523454291876:=0
abbrev tw9595539705633670020:=0
abbrev tw5221775013979860502:=0
abbrev tw15653508275768631620:=0
abbrev tw18236044766596524072:=0
abbrev tw9679425873084079806:=0
abbrev tw4297874484105531587:=0
abbrev tw13776467813359997421:=0
abbrev tw1760262523580540856:=0
abbrev tw9899269040555594543:=0
abbrev tw16820987765478736970:=0
abbrev tw7560626491441528535:=0
abbrev tw3664255516665712640:=0
abbrev tw16981527172426679239:=0
abbrev tw16453664898269247262:=0
abbrev tw5502279430352470890:=0
abbrev tw15863300430287542607:=0
abbrev tw8005849153994497177:=0
abbrev tw12798668106577404211:=0
abbrev tw15132246654036790189:=0
abbrev tw8850767253260171791:=0
abbrev tw17681385989252944195:=0
abbrev tw8277166787585621394:=0
abbrev tw11151574152505573340:=0
abbrev tw9569350290044896885:=0
abbrev tw15219021460768778630:=0
abbrev tw87873694316821787:=0
abbrev tw7449584742486703654:=0
abbrev tw3691405456993269673:=0
abbrev tw15833403874415566863:=0
abbrev tw408296561355030499:=0
abbrev tw6403760116807819550:=0
abbrev tw15765451867066123834:=0
abbrev tw11741858232880512323:=0
abbrev tw11555477343099196343:=0
abbrev tw17888081731682723779:=0
abbrev tw10975340472796539906:=0
abbrev tw8648278064804182201:=0
abbrev tw1697240951857134632:=0
abbrev tw17612991103316311981:=0
abbrev tw12832958611242690729:=0
abbrev tw9931321160298984509:=0
abbrev tw5032854943758901935:=0
abbrev tw12968514352715154736:=0
abbrev tw108353825289312729:=0
abbrev tw15125303992392118025:=0
abbrev tw5314908204226200797:=0
abbrev tw1878064968331960232:=0
abbrev tw13518932275413288839:=0
abbrev tw15944517676226667409:=0
abbrev tw7426489228838211375:=0
abbrev tw9461373048569655396:=0
abbrev tw5371378949189184709:=0
abbrev tw14037067576176005940:=0
abbrev tw13115720092992000810:=0
abbrev tw13117309578831324807:=0
abbrev tw7589790251760927418:=0
abbrev tw5645383298100889944:=0
abbrev tw5390927316322171017:=0
abbrev tw5322572643479965644:=0
abbrev tw14023190608165849919:=0
abbrev tw12143412498006542862:=0
abbrev tw6497512013993292695:=0
abbrev tw11762095928092279489:=0
abbrev tw4703139236394651565:=0
abbrev tw5194245186387859631:=0
abbrev tw7420112569981273455:=0
abbrev tw13155634349289104312:=0
abbrev tw11197433103421421120:=0
abbrev tw4044885510159813143:=0
abbrev tw13640625032352348141:=0
abbrev tw7032486370931758639:=0
abbrev tw18254643881420827261:=0
abbrev tw5193625845914677628:=0
abbrev tw15250262140216372474:=0
abbrev tw12156753310024586375:=0
abbrev tw3214135544912160679:=0
abbrev tw5518803573423445109:=0
abbrev tw14193473708155474008:=0
abbrev tw9586245262108712121:=0
abbrev tw4668194510158605496:=0
abbrev tw1172570371524589725:=0
abbrev tw1128724336174241694:=0
abbrev tw5753105042573887413:=0
abbrev tw507812181205240919:=0
abbrev tw15992154873277641876:=0
abbrev tw2077670480651750107:=0
abbrev tw587434427907317090:=0
abbrev tw5925672041026372503:=0
abbrev tw7537276113337949127:=0
abbrev tw7019406063288333657:=0
abbrev tw13670408457609580315:=0
abbrev tw2176887179925405800:=0
abbrev tw4386006417600893853:=0
abbrev tw17034830236178546780:=0
abbrev tw17552522441139024255:=0
abbrev tw7517555892258017785:=0
abbrev tw902233628775314497:=0
abbrev tw6974702659897725586:=0
abbrev tw10916860006969327278:=0
abbrev tw6084860036513728535:=0
abbrev tw16351999927449617353:=0
abbrev tw1223885237759835564:=0
abbrev tw13044253783865939244:=0
abbrev tw6975391792357463361:=0
abbrev tw8921308168313078380:=0
abbrev tw5179315828474239969:=0
abbrev tw2840095175188775235:=0
abbrev tw6309834175981165500:=0
abbrev tw14519375877774282127:=0
abbrev tw18095424180608566554:=0
abbrev tw6600859414113900282:=0
abbrev tw1637284568576342494:=0
abbrev tw10656509709161556842:=0
abbrev tw1927793609422807644:=0
abbrev tw14729944687152963639:=0
abbrev tw18288359816055071837:=0
abbrev tw16933943720329890630:=0
abbrev tw13153263109174707770:=0
abbrev tw7028049120970077600:=0
abbrev tw4931250917323883782:=0
abbrev tw10648629966513741754:=0
abbrev tw14830305058601622384:=0
abbrev tw8392377095399813435:=0
abbrev tw5884129992693065493:=0
abbrev tw3726809679414802495:=0
abbrev tw6486437531129523020:=0
abbrev tw11765682000655325647:=0
abbrev tw4317183293317737740:=0
abbrev tw18198220069915191439:=0
abbrev tw4982778571694453218:=0
abbrev tw9501466134872454432:=0
abbrev tw8986535886009548043:=0
abbrev tw14660303252679598817:=0
abbrev tw15799739801875665113:=0
abbrev tw6437122775419642441:=0
abbrev tw3816085145248970674:=0
abbrev tw15520693203733388377:=0
abbrev tw13280797466361667789:=0
abbrev tw2962807303905646589:=0
abbrev tw57852942902703434:=0
abbrev tw12847930667285620414:=0
abbrev tw14742284288206756671:=0
abbrev tw3554591966471869193:=0
abbrev tw10220259990223196648:=0
abbrev tw7367934482070372425:=0
abbrev tw1021253444023350942:=0
abbrev tw10715986698086433024:=0
abbrev tw6083468883133675046:=0
abbrev tw15207285168572094722:=0
abbrev tw10967992331152916190:=0
abbrev tw10523966886351087542:=0
abbrev tw6749189633954798559:=0
abbrev tw3109864753681916591:=0
abbrev tw6877071620982533821:=0
abbrev tw10532723614855515267:=0
abbrev tw15739502272587802285:=0
abbrev tw336337039995105073:=0
abbrev tw9088565159175446950:=0
abbrev tw6655801138007753272:=0
abbrev tw6152043213617169564:=0
abbrev tw3276107621537412949:=0
abbrev tw17930188271391929237:=0
abbrev tw1516052993965017149:=0
abbrev tw7711706908670529969:=0
abbrev tw12036030381535656566:=0
abbrev tw5005392585572434894:=0
abbrev tw57011291445696050:=0
abbrev tw6094666641793432987:=0
abbrev tw14598827166380073797:=0
abbrev tw14796367793692935413:=0
abbrev tw9183158013323954306:=0
abbrev tw5729937693318285254:=0
abbrev tw11628679588390119201:=0
abbrev tw15227903200984710588:=0
abbrev tw8476016287364777975:=0
abbrev tw2794743258158240671:=0
abbrev tw3043489115841199433:=0
abbrev tw10567825959187731570:=0
abbrev tw459022397857243521:=0
abbrev tw8151790987872497492:=0
abbrev tw15879788980005473289:=0
abbrev tw15462476715540955683:=0
abbrev tw12087889185717501359:=0
abbrev tw10020110029996287236:=0
abbrev tw6074965954630082158:=0
abbrev tw2167082271652686824:=0
abbrev tw5639646654743621713:=0
abbrev tw6458042625240029553:=0
abbrev tw1569081738660141791:=0
abbrev tw15030214027577692958:=0
abbrev tw7534482103095322940:=0
abbrev tw9781093941217340080:=0
abbrev tw3468559599432552504:=0
abbrev tw5728359274722821583:=0
abbrev tw18268618305146978979:=0
abbrev tw9776643976220714101:=0
abbrev tw9636622614492134298:=0
abbrev tw9406140045917500110:=0
abbrev tw1903274307387613159:=0
abbrev tw348663377404819145:=0
abbrev tw1383905248865106436:=0
abbrev tw8812012798982471427:=0
abbrev tw5470634975317823651:=0
abbrev tw891694519241118036:=0
abbrev tw15888983513581113848:=0
abbrev tw8268227179816474772:=0
abbrev tw1920738276559722320:=0
abbrev tw13834504035703162578:=0
abbrev tw8066507149006832270:=0
abbrev tw17194531652328930180:=0
abbrev tw8547605896034303318:=0
abbrev tw9569722376675029094:=0
abbrev tw286903289000835743:=0
abbrev tw7161744605577441446:=0
end PySem.W.Fast
end
open PySem PySem.W PyProof.Rows L2
local macro_rules|`(tactic|x_fa $a $b $c)=>`(tactic|(dsimp only [L2.KOf];refine' fq $a $b (fun _ _ _ _ _ _=>$c (by intros;rfl)) ?a ?l ?c ?k;(case a=>k_is);(case l=>k_is);(case c=>k_is);(case k=>k_is)))
set_option maxRecDepth 100000 in
set_option maxHeartbeats 0 in
theorem PySem.Challenge.cw_shearfloor_k67_whole_carried_crossings_holds : PySem.Challenge.rw_shearfloor_k67_whole_carried_crossings.Holds := by
 w_on;o_law;k_head;(case hw=>w_witness2)
 k_fill
 refine L2.Wj (l:=PySem.Challenge.rw_shearfloor_k67_whole_carried_crossings) (n:=63) (k:=13) (x:="_law_script") (CX:=bq) (sp:=L4.yD) rfl (by decide) rfl ⟨rfl,by decide,by decide,rfl⟩ (fun w h Y=>PySem.W.kIn_of Y) ?F ?S ?C
 case F =>
  intro w mg fa h KX G hmg;have T:My.Txt mg:=by
   refine' ⟨vQ KX G ?z0,vQ KX G ?z1,vQ KX G ?z2,vQ KX G ?z3,vQ KX G ?z4,vQ KX G ?z5,vQ KX G ?z6,vQ KX G ?z7,vQ KX G ?z8,vQ KX G ?z9⟩
   (case z0=>k_is);(case z1=>k_is);(case z2=>k_is);(case z3=>k_is);(case z4=>k_is);(case z5=>k_is);(case z6=>k_is);(case z7=>k_is);(case z8=>k_is);(case z9=>k_is)
  have Co:L2.pf (L2.KOf KX) mg "BACK" [("r",.str "l"),("u",.str "d")]:=by
   dsimp only [L2.KOf];refine' L2.Nh KX G ?a ?l
   (case a=>k_is);(case l=>first|rfl|k_is|decide +kernel)
  have pJ:L2.pf (L2.KOf KX) mg "OVER_QUARTER" [("r",.str "d"),("l",.str "u"),("u",.str "r"),("d",.str "l")]:=by
   dsimp only [L2.KOf];refine' L2.Nh KX G ?a ?l
   (case a=>k_is);(case l=>first|rfl|k_is|decide +kernel)
  have ot:∃v,L4.uL (L2.KOf KX) mg "QUARTER" v (.tup [(.int 0),(.int (-1)),(.int 1),(.int 0)]):=by
   dsimp only [L2.KOf];refine' L4.Tf (vs:=[V.int 0,V.int (-1),V.int 1,V.int 0]) KX G ?a ?l ?o ?z ?v ?d
   (case a=>k_is);(case l=>k_is);(case o=>rfl);(case z=>decide);(case v=>exact (.cons ⟨_,rfl⟩ (.cons ⟨_,rfl⟩ (.cons ⟨_,rfl⟩ (.cons ⟨_,rfl⟩ .nil)))));(case d=>exact fun ρ H=>(.cons (.int _) (.cons (.int _) (.cons (.int _) (.cons (.int _) .nil)))))
  obtain ⟨_,ot⟩:=ot;have xE:L2.pf (L2.KOf KX) mg "SIGNS" [("r",.int 1),("l",.int (-1)),("u",.int (-1)),("d",.int 1)]:=by
   dsimp only [L2.KOf];refine' L2.Nh KX G ?a ?l
   (case a=>k_is);(case l=>first|rfl|k_is|decide +kernel)
  have ou:∃v,L4.uL (L2.KOf KX) mg "UNMOVED" v (.tup [(.int 1),(.int 0),(.int 0),(.int 1)]):=by
   dsimp only [L2.KOf];refine' L4.Tf (vs:=[V.int 1,V.int 0,V.int 0,V.int 1]) KX G ?a ?l ?o ?z ?v ?d
   (case a=>k_is);(case l=>k_is);(case o=>rfl);(case z=>decide);(case v=>exact (.cons ⟨_,rfl⟩ (.cons ⟨_,rfl⟩ (.cons ⟨_,rfl⟩ (.cons ⟨_,rfl⟩ .nil)))));(case d=>exact fun ρ H=>(.cons (.int _) (.cons (.int _) (.cons (.int _) (.cons (.int _) .nil)))))
  obtain ⟨_,ou⟩:=ou;obtain⟨_,_,lG⟩:∃f fd,My.D10 (L2.KOf KX) mg f fd:=by x_fa KX G My.oR
  obtain⟨_,_,lH⟩:∃f fd,My.D11 (L2.KOf KX) mg f fd:=by x_fa KX G My.oR
  obtain⟨_,_,iW⟩:∃f fd,My.D12 (L2.KOf KX) mg f fd:=by x_fa KX G My.oR
  obtain⟨_,_,m8⟩:∃f fd,My.D13 (L2.KOf KX) mg f fd:=by x_fa KX G My.pZ
  obtain⟨_,_,kG⟩:∃f fd,My.D14 (L2.KOf KX) mg f fd:=by x_fa KX G My.oR
  obtain⟨_,_,m9⟩:∃f fd,My.D15 (L2.KOf KX) mg f fd:=by x_fa KX G My.oR
  obtain⟨_,_,pK⟩:∃f fd,My.D16 (L2.KOf KX) mg f fd:=by x_fa KX G My.pZ
  obtain⟨_,_,qS⟩:∃f fd,My.D17 (L2.KOf KX) mg f fd:=by x_fa KX G My.oR
  obtain⟨_,_,kH⟩:∃f fd,My.D18 (L2.KOf KX) mg f fd:=by x_fa KX G My.pZ
  obtain⟨_,_,nc⟩:∃f fd,My.D19 (L2.KOf KX) mg f fd:=by x_fa KX G My.pZ
  obtain⟨_,_,ow⟩:∃f fd,My.D20 (L2.KOf KX) mg f fd:=by x_fa KX G My.oR
  obtain⟨_,_,jK⟩:∃f fd,My.D21 (L2.KOf KX) mg f fd:=by x_fa KX G My.pZ
  obtain⟨_,_,pL⟩:∃f fd,My.D22 (L2.KOf KX) mg f fd:=by x_fa KX G My.oR
  obtain⟨_,_,kI⟩:∃f fd,My.D23 (L2.KOf KX) mg f fd:=by x_fa KX G My.pZ
  obtain⟨_,_,iX⟩:∃f fd,My.D24 (L2.KOf KX) mg f fd:=by x_fa KX G My.oR
  obtain⟨_,_,ng⟩:∃f fd,My.D25 (L2.KOf KX) mg f fd:=by x_fa KX G My.pZ
  obtain⟨_,_,kJ⟩:∃f fd,My.D26 (L2.KOf KX) mg f fd:=by x_fa KX G My.pZ
  obtain⟨_,_,lI⟩:∃f fd,My.D27 (L2.KOf KX) mg f fd:=by x_fa KX G My.pZ
  obtain⟨_,_,lJ⟩:∃f fd,My.D28 (L2.KOf KX) mg f fd:=by x_fa KX G My.pZ
  obtain⟨_,_,oy⟩:∃f fd,My.D29 (L2.KOf KX) mg f fd:=by x_fa KX G My.pZ
  obtain⟨_,_,lK⟩:∃f fd,My.D30 (L2.KOf KX) mg f fd:=by x_fa KX G My.uy
  obtain⟨_,_,nh⟩:∃f fd,My.D31 (L2.KOf KX) mg f fd:=by x_fa KX G My.oR
  obtain⟨_,_,lL⟩:∃f fd,My.D32 (L2.KOf KX) mg f fd:=by x_fa KX G My.oR
  obtain⟨_,_,ni⟩:∃f fd,My.D33 (L2.KOf KX) mg f fd:=by x_fa KX G My.pZ
  obtain⟨_,_,qT⟩:∃f fd,My.D34 (L2.KOf KX) mg f fd:=by x_fa KX G My.oR
  obtain⟨_,_,oz⟩:∃f fd,My.D35 (L2.KOf KX) mg f fd:=by x_fa KX G My.oR
  obtain⟨_,_,jL⟩:∃f fd,My.D36 (L2.KOf KX) mg f fd:=by x_fa KX G My.pZ
  obtain⟨_,_,lM⟩:∃f fd,My.D37 (L2.KOf KX) mg f fd:=by x_fa KX G My.pZ
  obtain⟨_,_,jM⟩:∃f fd,My.D38 (L2.KOf KX) mg f fd:=by x_fa KX G My.oR
  obtain⟨_,_,pM⟩:∃f fd,My.D39 (L2.KOf KX) mg f fd:=by x_fa KX G My.oR
  obtain⟨_,_,kK⟩:∃f fd,My.D40 (L2.KOf KX) mg f fd:=by x_fa KX G My.oR
  obtain⟨_,_,jN⟩:∃f fd,My.D41 (L2.KOf KX) mg f fd:=by x_fa KX G My.uy
  obtain⟨_,_,eO⟩:∃f fd,My.D42 (L2.KOf KX) mg f fd:=by x_fa KX G My.uy
  obtain⟨_,_,lN⟩:∃f fd,My.D43 (L2.KOf KX) mg f fd:=by x_fa KX G My.oR
  obtain⟨_,_,nt⟩:∃f fd,My.D44 (L2.KOf KX) mg f fd:=by x_fa KX G My.uy
  obtain⟨_,_,iY⟩:∃f fd,My.D45 (L2.KOf KX) mg f fd:=by x_fa KX G My.oR
  obtain⟨_,_,g7⟩:∃f fd,My.D46 (L2.KOf KX) mg f fd:=by x_fa KX G My.pZ
  obtain⟨_,_,lO⟩:∃f fd,My.D47 (L2.KOf KX) mg f fd:=by x_fa KX G My.uy
  obtain⟨_,_,eP⟩:∃f fd,My.D48 (L2.KOf KX) mg f fd:=by x_fa KX G My.pZ
  obtain⟨_,_,lP⟩:∃f fd,My.D49 (L2.KOf KX) mg f fd:=by x_fa KX G My.pZ
  obtain⟨_,_,pN⟩:∃f fd,My.D50 (L2.KOf KX) mg f fd:=by x_fa KX G My.uy
  obtain⟨_,_,iZ⟩:∃f fd,My.D51 (L2.KOf KX) mg f fd:=by x_fa KX G My.uy
  obtain⟨_,_,oA⟩:∃f fd,My.D52 (L2.KOf KX) mg f fd:=by x_fa KX G My.Zg
  obtain⟨_,_,fY⟩:∃f fd,My.D53 (L2.KOf KX) mg f fd:=by x_fa KX G My.oR
  obtain⟨_,_,kM⟩:∃f fd,My.D54 (L2.KOf KX) mg f fd:=by x_fa KX G My.uy
  obtain⟨_,_,eQ⟩:∃f fd,My.D55 (L2.KOf KX) mg f fd:=by x_fa KX G My.oR
  obtain⟨_,_,eR⟩:∃f fd,My.D56 (L2.KOf KX) mg f fd:=by x_fa KX G My.uy
  obtain⟨_,_,dI⟩:∃f fd,Def (L2.KOf KX) mg "seam_over_quarters" My.Dc ["floor","k","seam"] f fd:=by x_fa KX G My.uy
  obtain⟨_,_,i3⟩:∃f fd,My.D57 (L2.KOf KX) mg f fd:=by x_fa KX G My.uy
  obtain⟨_,_,eU⟩:∃f fd,My.D58 (L2.KOf KX) mg f fd:=by x_fa KX G My.oR
  obtain⟨_,_,dJ⟩:∃f fd,My.D59 (L2.KOf KX) mg f fd:=by x_fa KX G My.oR
  obtain⟨_,_,i5⟩:∃f fd,My.D60 (L2.KOf KX) mg f fd:=by x_fa KX G My.oR
  obtain⟨_,_,g8⟩:∃f fd,My.D61 (L2.KOf KX) mg f fd:=by x_fa KX G My.pZ
  obtain⟨_,_,kP⟩:∃f fd,My.D62 (L2.KOf KX) mg f fd:=by x_fa KX G My.pZ
  obtain⟨_,_,fZ⟩:∃f fd,My.D63 (L2.KOf KX) mg f fd:=by x_fa KX G My.pZ
  obtain⟨_,_,lQ⟩:∃f fd,My.D64 (L2.KOf KX) mg f fd:=by x_fa KX G My.oR
  obtain⟨_,_,kQ⟩:∃f fd,My.D65 (L2.KOf KX) mg f fd:=by x_fa KX G My.Zh
  obtain⟨_,_,gb⟩:∃f fd,My.D66 (L2.KOf KX) mg f fd:=by x_fa KX G My.uy
  obtain⟨_,_,rN⟩:∃f fd,My.D67 (L2.KOf KX) mg f fd:=by x_fa KX G My.pZ
  have e0:=hmg.symm.trans rN.m;cases e0;exact ⟨_,rN.wI,fun base _ _=>L4.AK (My.Cn T Co pJ ot xE ou lG lH iW m8 kG m9 pK qS kH nc ow jK pL kI iX ng kJ lI lJ oy lK nh lL ni qT oz jL lM jM pM kK jN eO lN nt iY g7 lO eP lP pN iZ oA fY kM eQ eR dI i3 eU dJ i5 g8 kP fZ lQ kQ gb rN) fun ns hn=>let ⟨_,st,e,h⟩:=My.vJ ns hn;⟨st,h ▸ e⟩⟩
 case S=>exact fun K H a ns hl hO hS=>⟨a,ns,rfl,hS.script hO,hl,fun _=>rfl⟩
 case C=>exact fun _ _ _ _ z=>z
