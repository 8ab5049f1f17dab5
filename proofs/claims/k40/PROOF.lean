import PyProof.Rows.All
import Wide.All
import OpenK.AllK
import Wide.FinOn
import Lean
import PyProof.EqAt
import PyProof.EqKinds
import PyProof.TupleCall
import PyProof.DictIter
import PyProof.EnumMake
import KE.KSortTup
import KE.KDictLaws
import KE.KDictSum
import PyProof.StrLawsTight
import KE.KIntText
import PyProof.MinMaxWalk
import PyProof.WalkInts
import KE.KIsAll
import PyProof.ExcInit
import PyProof.NsDelKeeps
import PyProof.ExcBaseAll.ValueError
import OpenK.KOwn
import PyProof.ExcAttrAll.ValueError
import PyProof.NoPylong
import PyProof.SumWalkG
import PySem.Challenge.RW_shearfloor_k40_written_by_makers
set_option autoImplicit true
set_option Elab.async false
set_option linter.all false
set_option compiler.extract_closed false
set_option maxRecDepth 100000
set_option maxHeartbeats 4000000
set_option genSizeOf false
set_option bootstrap.genMatcherCode false
noncomputable section
section
local macro_rules|`(command|def $n:declId $s:optDeclSig $v:declVal)=>`(theorem $n:declId $(⟨Lean.mkNode ``Lean.Parser.Command.declSig #[s.raw[0],s.raw[1][0]]⟩):declSig $v:declVal)
local macro_rules|`(command|abbrev $n:declId $s:optDeclSig $v:declVal)=>`(noncomputable def $n:declId $s:optDeclSig $v:declVal)
local macro_rules|`(⋯)=>`(by lk)
local macro_rules|`(∅)=>`(by decide)
local macro_rules|`(tactic|lk)=>`(tactic|first|lia|omega)
abbrev Zaa:=@List.length_map
abbrev Zab:=@List.getElem?_eq_some_iff
abbrev Zac:=@List.getElem?_eq_getElem
abbrev Zad:=@Nat.le_refl
abbrev Zae:=@List.length_append
abbrev Zaf:=@List.getD_eq_getElem?_getD
abbrev Zag:=@List.getElem?_map
abbrev Zah:=@List.mem_cons_self
abbrev Zai:=@List.mem_of_getElem?
abbrev Zaj:=@List.getElem?_set_self
abbrev Zak:=@List.mem_cons_of_mem
abbrev Zal:=@List.getElem?_set_ne
abbrev Zam:=@Bool.false_ne_true
abbrev Zan:=@List.getElem?_append_left
abbrev Zao:=@Option.some.inj
abbrev Zap:=@List.map_append
abbrev Zaq:=@Nat.le_trans
abbrev Zar:=@List.mem_singleton
abbrev Zas:=@List.size_toArray
abbrev Zat:=@Int.toNat_natCast
abbrev Zau:=@PySem.Heap.get?_push_of_some
abbrev Zav:=@List.getElem?_append_right
abbrev Zaw:=@List.mem_map
abbrev Zax:=@List.mem_append
abbrev Zay:=@Option.map_eq_some_iff
abbrev Zaz:=@List.map_cons
abbrev ZaA:=@PySem.Heap.get?_push_size
abbrev ZaB:=@PySem.Heap.lt_size
abbrev ZaC:=@Bool.and_eq_true
abbrev ZaD:=@List.length_cons
abbrev ZaE:=@List.mem_cons
abbrev ZaF:=@List.map_map
abbrev ZaG:=@Int.toNat_of_nonneg
abbrev ZaH:=@List.take_succ_eq_append_getElem
abbrev ZaI:=@Nat.lt_of_lt_of_le
abbrev ZaJ:=@List.mem_append_right
abbrev ZaK:=@Nat.zero_le
abbrev ZaL:=@List.length_reverse
abbrev ZaM:=@List.mem_reverse
abbrev ZaN:=@List.take_length
abbrev ZaO:=@List.replicate_succ
abbrev ZaP:=@List.getElem?_eq_none
abbrev ZaQ:=@List.map_congr_left
abbrev ZaR:=@List.getElem?_range
abbrev ZaS:=@Nat.ne_of_lt
abbrev ZaT:=@List.getElem?_eq_none_iff
abbrev ZaU:=@List.find?_cons
abbrev ZaV:=@Nat.not_lt_zero
abbrev ZaW:=@List.map_nil
abbrev ZaX:=@Nat.sub_self
abbrev ZaY:=@List.getD_cons_succ
abbrev ZaZ:=@List.getD_cons_zero
abbrev Za0:=@Option.bind_eq_some_iff
abbrev Za1:=@List.any_cons
abbrev Za2:=@Int.natAbs_mul
abbrev Za3:=@List.pairwise_iff_getElem
abbrev Za4:=@List.eq_nil_of_length_eq_zero
abbrev Za5:=@List.foldl_append
abbrev Za6:=@List.contains_iff_mem
abbrev Za7:=@List.nodup_cons
abbrev Za8:=@List.length_set
abbrev Za9:=@Nat.lt_of_le_of_lt
abbrev Zba:=@Bool.false_eq_true
abbrev Zbb:=@Nat.lt_succ_self
abbrev Zbc:=@List.getElem?_of_mem
abbrev Zbd:=@PySem.Heap.get?_update_other
abbrev Zbe:=@List.take_succ
abbrev Zbf:=@Int.emod_nonneg
abbrev Zbg:=@List.length_replicate
abbrev Zbh:=@List.length_singleton
abbrev Zbi:=@List.length_take
abbrev Zbj:=@Option.bind_some
abbrev Zbl:=@Int.neg_mul
abbrev Zbm:=@List.flatten_cons
abbrev Zbn:=@List.length_range
abbrev Zbo:=@List.getElem_of_mem
abbrev Zbp:=@PySem.Heap.get?_update_self
abbrev Zbq:=@Int.emod_lt_of_pos
abbrev Zbr:=@List.mem_append_left
abbrev Zbs:=@List.append_nil
abbrev Zbu:=@List.mem_erase_of_ne
abbrev Zbv:=@PySem.Heap.SameBut.update
abbrev Zby:=@List.lookup_cons
abbrev Zbz:=@Int.natAbs_neg
abbrev ZbA:=@Nat.zero_add
abbrev ZbB:=@List.idxOf_lt_length_of_mem
abbrev ZbC:=@Int.zero_add
abbrev ZbD:=@Nat.lt_irrefl
abbrev ZbE:=@Int.mul_assoc
abbrev ZbF:=@List.append_assoc
abbrev ZbG:=@List.reverse_cons
abbrev ZbH:=@List.drop_eq_getElem_cons
abbrev ZbI:=@Nat.mul_le_mul_right
abbrev ZbL:=@List.findIdx?_eq_some_iff_getElem
abbrev ZbM:=@PySem.Heap.size_push
abbrev ZbN:=@Option.isSome_iff_exists
abbrev ZbO:=@List.getElem_mem
abbrev ZbP:=@Nat.lt_or_ge
abbrev ZbQ:=@Int.mul_comm
abbrev ZbR:=@List.not_mem_nil
abbrev ZbS:=@List.all_eq_true
abbrev ZbT:=@List.getElem?_replicate
abbrev ZbU:=@Bool.eq_iff_iff
abbrev ZbZ:=@List.prefix_append
abbrev Zb1:=@Nat.le_succ
abbrev Zb2:=@List.map_id
abbrev Zb3:=@List.ext_getElem?
abbrev Zb4:=@List.mem_range
abbrev Zb5:=@Array.getElem?_toList
abbrev Zca:=@List.Perm.refl
abbrev Zcb:=@List.any_eq_true
abbrev Zcc:=@List.prefix_refl
abbrev Zcd:=@List.reverse_reverse
abbrev Zce:=@List.map_reverse
abbrev Zcf:=@Array.length_toList
abbrev Zcg:=@List.mem_filter
abbrev Zch:=@Nat.succ_mul
abbrev Zci:=@Nat.mul_comm
abbrev Zcj:=@Nat.mul_le_mul
abbrev Zck:=@Nat.le_mul_of_pos_right
abbrev Zcl:=@List.nodup_append
abbrev Zcm:=@List.drop_of_length_le
abbrev Zcn:=@Nat.le_of_not_lt
abbrev Zcq:=@Nat.le_add_right
abbrev Zcr:=@List.getElem_map
abbrev Zcs:=@Nat.le_of_ble_eq_true
abbrev Zcu:=@Nat.le_of_lt
abbrev Zcv:=@List.length_nil
abbrev Zcw:=@Nat.pow_le_pow_right
abbrev Zcx:=@List.perm_cons_erase
abbrev Zcy:=@Bool.or_eq_true
abbrev Zcz:=@List.filterMap_cons
abbrev ZcA:=@List.drop_zero
abbrev ZcB:=@List.getElem_range
abbrev ZcC:=@List.getElem_idxOf
abbrev ZcD:=@Nat.mul_assoc
abbrev ZcE:=@Bool.xor_self
@[reducible]def Zfr:=PySem.W.Frag
namespace L2
open PySem PySem.Spec PyProof.Rows
@[reducible]def Key:=Sum Int Str
abbrev qa:Key->Value->Bool
 |.inl k,v=>Value.isInt k v
 |.inr x,v=>Value.isStrOf x v
abbrev Mr(w:World):Key->Int
 |.inl k=>hashInt k
 |.inr x=>hashStr w x
def xc:∀{k:Key} {v:Value},qa k v=true->(∃i t,k=Sum.inl i/\v=Value.int i t)\/(∃x t,k=Sum.inr x/\v=Value.str x t)
 |.inl i,v,h=>by
  obtain⟨t,e⟩:=Value.isInt_shape (k:=i) (v:=v) h;exact .inl ⟨i,t,rfl,e⟩
 |.inr x,v,h=>by
  obtain⟨t,e⟩:=Value.isStrOf_shape (x:=x) (v:=v) h;exact .inr ⟨x,t,rfl,e⟩
def Wg(i:Int)(t:Tok):qa (.inl i) (.int i t)=true:=by simp[qa,Value.isInt]
def Wi(x:Str)(t:Tok):qa (.inr x) (.str x t)=true:=by simp[qa,Value.isStrOf]
def zK(a b:Int):decide ((Sum.inl a:Key)=Sum.inl b)=(a == b):=by by_cases e:a=b;subst e;simp;have h:¬(Sum.inl a:Key)=Sum.inl b:=λq=>e (Sum.inl.inj q);rw[decide_eq_false h];exact(beq_eq_false_iff_ne.mpr e).symm
def zL(a b:Str):decide ((Sum.inr a:Key)=Sum.inr b)=decide (a=b):=by by_cases e:a=b;subst e;simp;have h:¬(Sum.inr a:Key)=Sum.inr b:=λq=>e (Sum.inr.inj q);rw[decide_eq_false h,decide_eq_false e]
def zM(a:Int)(b:Str):decide ((Sum.inl a:Key)=Sum.inr b)=false:=decide_eq_false (λq=>nomatch q)
def zN(a:Str)(b:Int):decide ((Sum.inr a:Key)=Sum.inl b)=false:=decide_eq_false (λq=>nomatch q)
abbrev cq(prog:Program)(w:World):PySem.KeyKind prog w Key where
 is:=qa
 hash:=Mr w
 inj:=λv a b ha hb=>by
  rcases xc ha with⟨i,t,rfl,rfl⟩|⟨x,t,rfl,rfl⟩
  rcases xc hb with⟨j,u,rfl,e⟩|⟨y,u,rfl,e⟩
  injection e with e1 _;rw[e1];exact nomatch e;rcases xc hb with⟨j,u,rfl,e⟩|⟨y,u,rfl,e⟩
  exact nomatch e;injection e with e1 _;rw[e1]
 byValue:=λk v h=>by
  rcases xc h with⟨i,t,rfl,rfl⟩|⟨x,t,rfl,rfl⟩<;>rfl
 pyHash:=λhv h=>by
  rcases xc hv with⟨i,t,rfl,rfl⟩|⟨x,t,rfl,rfl⟩
  exact wpAny_pyHash_int h;exact wpAny_pyHash_str h
 eqBool:=λhu hv h=>by
  rcases xc hu with⟨i,t,rfl,rfl⟩|⟨x,t,rfl,rfl⟩
  rcases xc hv with⟨j,u,rfl,rfl⟩|⟨y,u,rfl,rfl⟩
  rw[zK]at h;exact wpAny_eqBool_int h;rw[zM]at h;exact SeqAt.EqAt.int_str i t y u _ _ _ _ h;rcases xc hv with⟨j,u,rfl,rfl⟩|⟨y,u,rfl,rfl⟩
  rw[zN]at h;exact SeqAt.EqAt.str_int x t j u _ _ _ _ h;rw[zL]at h;exact wpAny_eqBool_str h
 «strs»:=λk x t v h=>by
  rcases xc h with⟨i,u,rfl,e⟩|⟨y,u,rfl,e⟩
  exact nomatch e;injection e with e1 _;subst e1;cases v<;>rfl
def Wj(prog:Program)(w:World)(i:Int)(t:Tok):(cq prog w).is (.inl i) (.int i t)=true:=Wg i t
def Wk(prog:Program)(w:World)(x:Str)(t:Tok):(cq prog w).is (.inr x) (.str x t)=true:=Wi x t
inductive V where
 |non|bl (b:Bool)|int (i:Int)|str (x:Str)|uS (b:Array UInt8)|CK (b:UInt64)|ref (a:Addr)|ty (n:String)
 deriving DecidableEq
abbrev RelV:V->Value->Prop
 |.non,u=>u=Value.none
 |.bl b,u=>u=Value.bool b
 |.int i,u=>∃t,u=Value.int i t
 |.str x,u=>∃t,u=Value.str x t
 |.uS b,u=>∃t,u=Value.bytes b t
 |.CK b,u=>∃t,u=Value.float b t
 |.ref a,u=>u=Value.ref a
 |.ty n,u=>u=Value.type n
@[reducible]def Vals:List V->List Value->Prop:=Paired RelV
def Vals.length{xs:List V}{us:List Value}(r:Vals xs us):xs.length=us.length:=Paired.length r
def Vals.get:∀{xs:List V} {us:List Value} {i:Nat} {x:V},Vals xs us->xs[i]?=some x->∃u,us[i]?=some u/\RelV x u
 |_,_,_,_,.nil,e=>by simp at e
 |_,_,0,_,.cons r _,e=>by simp at e;subst e;exact⟨_,rfl,r⟩
 |_,_,i+1,x,.cons _ t,e=>by
  obtain⟨u,h1,h2⟩:=Vals.get (i:=i) (x:=x) t (by simpa using e);exact⟨u,by simpa using h1,h2⟩
def Vals.set(r:RelV x u):∀{xs:List V} {us:List Value} (i:Nat),Vals xs us->Vals (xs.set i x) (us.set i u)
 |_,_,_,.nil=>.nil
 |_,_,0,.cons _ t=>.cons r t
 |_,_,i+1,.cons q t=>.cons q (Vals.set r i t)
def Vals.append:∀{xs ys:List V} {us ws:List Value},Vals xs us->Vals ys ws->Vals (xs ++ ys) (us ++ ws)
 |_,_,_,_,.nil,s=>s
 |_,_,_,_,.cons r t,s=>.cons r (Vals.append t s)
def Vals.take:∀{xs:List V} {us:List Value} (n:Nat),Vals xs us->Vals (xs.take n) (us.take n)
 |_,_,0,_=>.nil
 |_,_,_+1,.nil=>.nil
 |_,_,n+1,.cons r t=>.cons r (Vals.take n t)
def Vals.drop:∀{xs:List V} {us:List Value} (n:Nat),Vals xs us->Vals (xs.drop n) (us.drop n)
 |_,_,0,r=>r
 |_,_,_+1,.nil=>.nil
 |_,_,n+1,.cons _ t=>Vals.drop n t
abbrev pT:Option V->Option Value->Prop
 |some v,some u=>RelV v u
 |none,none=>True
 |_,_=>False
abbrev KV{F:Type}:List (F×V)->List (F×Value)->Prop:=Paired λ(p:F×V) (q:F×Value)=>p.1=q.1/\RelV p.2 q.2
abbrev kV:Key->V
 |.inl i=>.int i
 |.inr x=>.str x
set_option genInjectivity false in
inductive HO where
 /-- a list -/
 |lst (xs:List V)
 /-- a tuple (never changes) -/
 |tup (xs:List V)
 /-- a dict whose keys are ints and texts;one whose keys are tuples of ints and texts (the empty one is both) -/
 |dK (kvs:List (Key×V))|dT (kvs:List (List Key×V))
 /-- a set of ints: its members,its size -/
 |set (S:Int->Bool) (n:Nat)
 /-- an instance of the class at C,its dict at dx,its attributes -/
 |ins (C dx:Addr) (fs:List (Str×V))
 /-- the dict of the instance at x -/
 |own (x:Addr)
 /-- the dict of an exception -/
 |xd (fs:List (Str×V))
 /-- a bound method,f of x -/
 |met (f x:Addr)
 /-- a range object lo,lo+1,.. below hi -/
 |j5 (lo hi:Int)
 /-- a thing that is known to the object (the script;a dict while a loop walks it): read,never written while it is so -/
 |o6 (o:Obj) (u:HO)
 /-- a code DO table -/
 |zO (ps:Array Value)
 /-- any other thing,by what is true of its one object (a def of P1 own: Wl a S n:=HO.ext λh=>..) -/
 |ext (z:Heap->Prop)
@[reducible]def Hp:=Addr->Option HO
abbrev upd(H:Hp)(a:Addr)(o:HO):Hp:=λb=>if b=a then some o else H b
def rf:upd H a o a=some o:=by unfold upd;rw[if_pos rfl]
def jI(h:b≠a):upd H a o b=H b:=by unfold upd;rw[if_neg h]
def Ms{H:Hp}{a b:Addr}{o u:HO}(h:H a=some o)(h':H b=some u)(d:o≠u):a≠b:=by intro e;subst e;rw[h]at h';exact d (Zao h')
def CL{H:Hp}{a b:Addr}{o:HO}(h:H a=some o)(h':H b=none):a≠b:=by intro e;subst e;rw[h]at h';cases h'
abbrev ql(h:Heap)(a:Addr)(its:Array Value):Prop:=∃o,h.get? a=some o/\o.cls=.type "tuple" /\ o.dict=none/\∃n,o.data=.seq its n
def ql.tup{h:Heap}{a:Addr}{its:Array Value}(x:ql h a its):IsTup h a its:=let ⟨o,e,c,_,n,d⟩:=x;⟨o,e,c,n,d⟩
def ql.new(h:Heap)(its:Array Value):ql (h.push { cls:=.type "tuple",data:=.seq its }) h.objs.size its:=⟨_,ZaA _ rfl,rfl,rfl,_,rfl⟩
section
variable (P:Program)(w:World)
abbrev bP(H:Hp)(h:Heap)(a:Addr):HO->Prop
 |.lst xs=>xs.length<=sizeLine/\∃(its:List Value) (n:Nat),Vals xs its/\h.get? a=some { cls:=.type "list",data:=.seq its.toArray n }
 |.tup xs=>xs.length<=sizeLine/\∃its:List Value,Vals xs its/\ql h a its.toArray
 |.dK kvs=>kvs.length<=sizeLine/\(a == sysModules)=false/\∃vs,KV kvs vs/\h.DictOf (cq P w) a vs
 | .dT kvs=>kvs.length<=sizeLine/\(a == sysModules)=false/\∃ xs:List (List Key×Addr×Value),
   Paired (λ(p:List Key×V) (q:List Key×Addr×Value)=>p.1=q.1/\H q.2.1=some (.tup (p.1.map kV))/\RelV p.2 q.2.2) kvs xs /\
   ∃o es ep,h.get? a=some o/\o.ExactDict/\o.data=.dict es ep/\es.toList=xs.map (entryOfKey (tupleKind (cq P w)))/\(xs.map (·.1)).Nodup
 |.set S n=>h.SetOf (intKind P w) a S n
 | .ins C dx fs=>H dx=some (.own a)/\fs.length<=1000/\dx≠a/\h.get? a=some (PySem.W.instObj C dx) /\
   ∃mA,h.Ns1 dx mA/\(∀f,pT (fs.lookup f) (mA f))/\PySem.Within mA (fs.map (·.1))
 |.own _=>∃o,h.get? a=some o
 |.xd fs=>∃mA,h.Ns1 a mA/\∀f,pT (fs.lookup f) (mA f)
 |.j5 lo hi=>∃t u v,h.get? a=some { cls:=.type "range",data:=.fields #[.int lo t,.int hi u,.int 1 v] }
 |.o6 o u=>h.get? a=some o/\bP H h a u
 |.zO ps=>h.get? a=some { cls:=.none,data:=.fields ps }
 |.met f x=>h.get? a=some (PySem.W.methodObj (.ref f) (.ref x))
 |.ext z=>z h/\(∃o,h.get? a=some o)/\∀h1 h2:Heap,z h1->(∀o,h1.get? a=some o->h2.get? a=some o)->z h2
abbrev nu(H:Hp)(h:Heap):Prop:=∀a o,H a=some o->bP P w H h a o
end
section
variable {P:Program}{w:World}{H H':Hp}{h h':Heap}{a:Addr}{o:HO}
def bP.lt(x:bP P w H h a o):a<h.objs.size:=by
 cases o with
 |lst xs=>obtain⟨_,_,_,_,e⟩:=x;exact ZaB e
 |tup xs=>obtain⟨_,_,_,_,e,_⟩:=x;exact ZaB e
 |dK kvs=>obtain⟨_,_,_,_,o,_,_,e,_⟩:=x;exact ZaB e
 |dT kvs=>obtain⟨_,_,_,_,o,_,_,e,_⟩:=x;exact ZaB e
 |set S n=>obtain⟨o,_,_,_,e,_⟩:=x;exact ZaB e
 |ins C dx fs=>obtain⟨_,_,_,e,_⟩:=x;exact ZaB e
 |own y=>obtain⟨_,e⟩:=x;exact ZaB e
 |xd fs=>obtain⟨_,⟨_,_,_,e,_⟩,_⟩:=x;exact ZaB e
 |j5 lo hi=>obtain⟨_,_,_,e⟩:=x;exact ZaB e
 |o6 ob u=>obtain⟨e,_⟩:=x;exact ZaB e
 |zO ps=>exact ZaB (show h.get? a=some _ from x)
 |met f y=>exact ZaB (show h.get? a=some _ from x)
 |ext z=>obtain⟨_,⟨_,e⟩,_⟩:=x;exact ZaB e
def Paired.zP{J S:Type}{F G:J->S->Prop}:∀{l₁:List J} {l₂:List S},Paired F l₁ l₂->(∀a b,F a b->G a b)->Paired G l₁ l₂
 |_,_,.nil,_=>.nil
 |_,_,.cons r t,f=>.cons (f _ _ r) (Paired.zP t f)
def bP.stay(x:bP P w H h a o)(k:∀b u,(b=a\/H b=some (.own a))->h.get? b=some u->h'.get? b=some u)
  (ho:∀b,H b=some (.own a)->H' b=some (.own a)) (ht:∀b xs,H b=some (.tup xs)->H' b=some (.tup xs)):bP P w H' h' a o:=by
 induction o with
 |lst xs=>obtain⟨z,its,n,r,e⟩:=x;exact⟨z,its,n,r,k _ _ (.inl rfl) e⟩
 |tup xs=>obtain⟨z,its,r,ob,e,c⟩:=x;exact⟨z,its,r,ob,k _ _ (.inl rfl) e,c⟩
 |dK kvs=>obtain⟨z,y,vs,r,ob,es,ep,e,c⟩:=x;exact⟨z,y,vs,r,ob,es,ep,k _ _ (.inl rfl) e,c⟩
 |dT kvs =>
  obtain⟨z,y,xs,r,ob,es,ep,e,c⟩:=x;exact⟨z,y,xs,Paired.zP r λp q z=>⟨z.1,ht _ _ z.2.1,z.2.2⟩,ob,es,ep,k _ _ (.inl rfl) e,c⟩
 |set S n=>obtain⟨ob,es,ep,t,e,c⟩:=x;exact⟨ob,es,ep,t,k _ _ (.inl rfl) e,c⟩
 |ins C dx fs =>
  obtain⟨d,z,ne,e,mA,⟨od,es,ep,e2,c⟩,r⟩:=x;exact⟨ho _ d,z,ne,k _ _ (.inl rfl) e,mA,⟨od,es,ep,k _ _ (.inr d) e2,c⟩,r⟩
 |own y=>obtain⟨ob,e⟩:=x;exact⟨ob,k _ _ (.inl rfl) e⟩
 |xd fs=>obtain⟨mA,⟨od,es,ep,e,c⟩,r⟩:=x;exact⟨mA,⟨od,es,ep,k _ _ (.inl rfl) e,c⟩,r⟩
 |j5 lo hi=>obtain⟨t,u,v,e⟩:=x;exact⟨t,u,v,k _ _ (.inl rfl) e⟩
 |o6 ob u ih=>obtain⟨e,q⟩:=x;exact⟨k _ _ (.inl rfl) e,ih q⟩
 |zO ps =>
  have e:h.get? a=some { cls:=.none,data:=.fields ps }:=x;show h'.get? a=some { cls:=.none,data:=.fields ps };exact k a _ (.inl rfl) e
 |met f y =>
  have e:h.get? a=some (PySem.W.methodObj (.ref f) (.ref y)):=x;show h'.get? a=some (PySem.W.methodObj (.ref f) (.ref y));exact k a _ (.inl rfl) e
 |ext φ=>obtain⟨p,⟨o,e⟩,st⟩:=x;exact⟨st _ _ p λo q=>k _ _ (.inl rfl) q,⟨o,k _ _ (.inl rfl) e⟩,st⟩
def nu.lt(x:nu P w H h)(e:H a=some o):a<h.objs.size:=(x a o e).lt
def nu.fresh(x:nu P w H h)(e:h.objs.size<=a):H a=none:=by
 cases q:H a with
 |none=>rfl
 |some u=>exact absurd (ZaI (x.lt q) e) (ZbD _)
def nu.kept(x:nu P w H h)(k:∀b u,h.get? b=some u->h'.get? b=some u):nu P w H h':=λa o e =>
 (x a o e).stay (λb u _ q=>k b u q) (λ_ q=>q) λ_ _ q=>q
def nu.laid(x:nu P w H h)(k:∀b u,h.get? b=some u->h'.get? b=some u)(hp:h.objs.size<=a)(new:bP P w (upd H a o) h' a o):nu P w (upd H a o) h':=λb u e=>by
 have hn:=x.fresh hp;by_cases hb:b=a;subst hb;rw[rf]at e;cases e;exact new;rw[jI hb]at e;exact(x b u e).stay (λc v _ q=>k c v q) (λc q=>by rw[jI (CL q hn)];exact q) λc xs q=>by rw[jI (CL q hn)];exact q
end
abbrev Rd(H:Hp)(a:Addr)(u:HO):Prop:=H a=some u\/∃o,H a=some (.o6 o u)
def Rd.ok(r:Rd H a u)(x:nu P w H h):bP P w H h a u:=by
 rcases r with r|⟨o,r⟩
 exact x a u r;obtain⟨_,q⟩:=x a _ r;exact q
abbrev DP:Option HO->Prop
 |some (.lst _)=>True
 |some (.dK _)=>True
 |some (.dT _)=>True
 |some (.set _ _)=>True
 |some (.ins _ _ _)=>True
 |some (.ext _)=>True
 |_=>False
section
variable {P:Program}{w:World}{H:Hp}{h h':Heap}{x e:Addr}{o':HO}
def nu.write(ok:nu P w H h)(mu:DP (H x))(he:e=x\/H e=some (.own x))(k:∀b u,b≠e->h.get? b=some u->h'.get? b=some u)(CM:∃u,h'.get? e=some u)
  (new:bP P w (upd H x o') h' x o'):nu P w (upd H x o') h':=λb u q=>by
 have DQ:∀c y,H c=some (.own y)->c≠x:=λc y r z=>by subst z;rw[r]at mu;exact mu
 have Mt:∀c xs,H c=some (.tup xs)->c≠x:=λc xs r z=>by subst z;rw[r]at mu;exact mu
 by_cases hb:b=x;subst hb;rw[rf]at q;cases q;exact new;rw[jI hb]at q;by_cases zQ:b=e;have q':H b=some (.own x):=by
  rcases he with z|z
  exact absurd (zQ.trans z) hb;rw[zQ];exact z
 rw[q]at q';cases q';obtain⟨v,hv⟩:=CM;exact⟨v,by rw[zQ];exact hv⟩;refine(ok b u q).stay (λc v hc r=>k c v ?_ r) (λc r=>by rw[jI (DQ c b r)];exact r) λc xs r=>by rw[jI (Mt c xs r)];exact r
 rcases hc with rfl|hc
 exact zQ;rintro rfl;rcases he with z|z
 exact DQ c b hc z;rw[hc]at z;cases z;exact hb rfl
end
structure Un(fs ex:List Addr)(H H':Hp)(h h':Heap):Prop where
 keep:∀b o,h.get? b=some o->H b=none->b ∉ fs->b ∉ ex->h'.get? b=some o
 slot:∀b o,h.get? b=some o->H b=none->b∈fs->b ∉ ex->∃sl,h'.get? b=some { o with slots:=sl }
 free:∀b o,h.get? b=some o->H b=none->b ∉ ex->H' b=none
 there:∀b o,h.get? b=some o->b ∉ ex->∃o',h'.get? b=some o'
 tups:∀b xs,H b=some (.tup xs)->H' b=some (.tup xs)
 qm:∀b o u,H b=some (.o6 o u)->H' b=some (.o6 o u)
 rg:∀b ps,H b=some (.zO ps)->∃more,H' b=some (.zO (ps ++ more))
section
variable {fs fs' ex ex':List Addr}{H H1 H2:Hp}{h h1 h2 h':Heap}{a x e:Addr}{o:HO}
def Un.any(u:Un fs ex H H1 h h1)(q:h.get? b=some ob)(n:H b=none)(hx:b ∉ ex):∃sl,h1.get? b=some { ob with slots:=sl }:=by by_cases hb:b∈fs;exact u.slot b ob q n hb hx;exact⟨ob.slots,u.keep b ob q n hb hx⟩
def Un.kept(k:∀b u,h.get? b=some u->h'.get? b=some u):Un fs ex H H h h' :=
 ⟨λb ob q _ _ _=>k b ob q,λb ob q _ _ _=>⟨ob.slots,k b ob q⟩,λ_ _ _ n _=>n,λb ob q _=>⟨ob,k b ob q⟩,λ_ _ q=>q,λ_ _ _ q=>q,λ_ ps q=>⟨#[],by rw[q];simp⟩⟩
def Un.refl:Un fs ex H H h h:=Un.kept λ_ _ q=>q
def Un.laid(k:∀b u,h.get? b=some u->h'.get? b=some u)(hp:h.objs.size<=a)(hn:H a=none):Un fs ex H (upd H a o) h h' where
 keep:=λb u q _ _ _=>k b u q
 slot:=λb u q _ _ _=>⟨u.slots,k b u q⟩
 free:=λb u q n _=>by rw[jI (ZaS (ZaI (ZaB q) hp))];exact n
 there:=λb u q _=>⟨u,k b u q⟩
 tups:=λb xs q=>by rw[jI (CL q hn)];exact q
 qm:=λb u xs q=>by rw[jI (CL q hn)];exact q
 rg:=λb ps q=>⟨#[],by rw[jI (CL q hn),q];simp⟩
def Un.write(mu:DP (H x))(he:e=x\/H e=some (.own x))(k:∀b u,b≠e->h.get? b=some u->h'.get? b=some u)(CM:∃u,h'.get? e=some u):Un fs ex H (upd H x o) h h':=by
 have hx:∀b,H b=none->b≠x:=λb n z=>by subst z;rw[n]at mu;exact mu
 have hb:∀b,H b=none->b≠e:=λb n z=>by
  subst z;rcases he with r|r
  exact hx b n r;rw[n]at r;cases r
 have hm:∀b u,H b=some u->¬DP (some u)->b≠x:=λb u q nm z=>by subst z;rw[q]at mu;exact nm mu
 refine⟨λb u q n _ _=>k b u (hb b n) q,λb u q n _ _=>⟨u.slots,k b u (hb b n) q⟩,λb u q n _=>by rw[jI (hx b n)];exact n,λb u q _=>?_,
  λb xs q=>by rw[jI (hm b _ q λz=>z)];exact q,λb u xs q=>by rw[jI (hm b _ q λz=>z)];exact q,λb ps q=>⟨#[],by rw[jI (hm b _ q λz=>z),q];simp⟩⟩
 by_cases zQ:b=e;subst zQ;exact CM;exact⟨u,k b u zQ q⟩
end
abbrev JM(h:Heap)(H:Hp):List Addr:=(List.range h.objs.size).filter λa=>(H a).isSome
abbrev qo(h:Heap)(H:Hp):Heap:=PySem.W.hideAll h (JM h H)
def Wm(h:Heap)(H:Hp):(qo h H).objs.size=h.objs.size:=PySem.W.hideAll_size _ _
def Wn(e:h.get? b=some o)(n:H b=none):(qo h H).get? b=some o :=
 PySem.W.hideAll_get _ e λhm=>by
  have q:(H b).isSome=true:=(Zcg.mp hm).2;rw[n]at q;simp at q
def Wo(e:(qo h H).get? b=some o):h.get? b=some o/\H b=none:=by
 have e':h.get? b=some o:=PySem.W.of_hideAll (JM h H) e;refine⟨e',?_⟩;cases q:H b with
 |none=>rfl
 |some x =>
  have hm:b∈JM h H:=Zcg.mpr ⟨Zb4.mpr (ZaB e'),by simp[q]⟩;have z:(qo h H).get? b=none:=PySem.W.hideAll_none (JM h H) hm;rw[z]at e;cases e
abbrev xf(g h:Heap)(L:Addr):List (Addr×Obj):=(List.range h.objs.size).filterMap λa=>if a=L\/(g.get? a).isSome=true then none else(h.get? a).map λo=>(a,o)
abbrev rest(g h:Heap)(L d:Addr):List (Addr×Obj):=(xf g h L).filter λp=>decide (p.1≠d)
structure Mod(K:Zfr)(mg:Str->Option Value)(base:Heap):Prop where
 Mu:K.In base
 glob:base.Ns mainGlobals mg
 blt:∃mb,base.Ns builtinsNs mb/\∀x:Str,x≠"__name__" -> mb x=bootBuiltins x
 nolimit:base.NoLimit
set_option genInjectivity false in
structure Cx where
 prog:Program
 w:World
 K:Zfr
 mg:Str->Option Value
 base:Heap
 A:Around
 N:List Str
 s₀:Shared
 H₀:Hp
 env:Env
 outer:List Env
 stack:List Env
 ex:List Addr
 fn:Str->Bool
 calm:Bool
 pn:List (Addr×Obj)
 xe:Value->Shared->Prop
abbrev frs(l:List Env):List Addr:=l.filterMap (·.frame)
@[reducible]def Cx.fs(X:Cx):List Addr:=frs X.outer
abbrev Mv(sc:Scope)(x:Str):Prop:=sc.names.lookup x=some .local\/sc.names.lookup x=some .cell\/sc.names.lookup x=some .free
abbrev Loc(sc:Scope)(x:Str):Prop:=sc.names.lookup x=some .local\/sc.names.lookup x=some .cell
abbrev Look(env:Env)(h:Heap)(m:Str->Option Value)(x:Str)(u:Value):Prop :=
 (env.kindOf x=some .local/\m x=some u)\/((env.kindOf x=some .cell\/env.kindOf x=some .free)/\∃c,env.cells.lookup x=some c/\h.IsCell c (some u))
structure Cx.Ok(X:Cx):Prop where
 mod:Mod X.K X.mg X.base
 kind:X.env.scope.kind=.function
 glob:X.env.globals=mainGlobals
 blt:X.env.builtins=builtinsNs
 above:X.s₀.heap.objs.size<=X.env.locals
 inj:∀x y c,X.env.cells.lookup x=some c->X.env.cells.lookup y=some c->x=y
 has:∀x,(X.env.kindOf x=some .cell\/X.env.kindOf x=some .free)->∃c,X.env.cells.lookup x=some c
 DR:∀x c,X.fn x=true->X.env.cells.lookup x=some c->X.s₀.heap.objs.size<=c
 hd:X.calm=true->X.A.handled=none
 frames:X.A.frames=some X.stack
 stk:X.stack=X.outer\/(X.stack=X.env :: X.outer/\X.env.frame=some X.env.locals)
 P4:∀b∈X.ex,b≠X.env.locals/\∀x c,X.env.cells.lookup x=some c->c≠b
 bs:∀b o,X.base.get? b=some o->X.s₀.heap.get? b=some o/\X.H₀ b=none
 yc:X.base.objs.size<=X.s₀.heap.objs.size
 uT:∀b o,X.base.get? b=some o->b ∉ X.ex
 xg:∀b∈X.ex,b ∉ X.fs
 o7:X.s₀.heap.FunFrames X.base X.outer
 CN:∀b∈X.fs,X.H₀ b=none
structure Inv(X:Cx)(pins:List (Addr×Obj))(G:List (Option V))(H:Hp)(s:Shared):Prop where
 ok:X.Ok
 os:s.os=X.s₀.os
 bare:AllBare s.gens
 base:Un X.fs X.ex X.H₀ H X.s₀.heap s.heap
 loc:∃m,s.heap.Ns X.env.locals m/\∀(i:Nat) (x:Str) (v:V),X.N[i]?=some x->G[i]?=some (some v)->Mv X.env.scope x->∃u,RelV v u/\Look X.env s.heap m x u
 cell:∀x c,X.env.cells.lookup x=some c->∃v,s.heap.IsCell c v
 free:H X.env.locals=none
 mG:∀x c,X.env.cells.lookup x=some c->H c=none
 pin:∀p∈X.pn ++ pins,s.heap.get? p.1=some p.2/\H p.1=none/\p.1≠X.env.locals/\p.1 ∉ X.fs/\∀v,p.2.data≠.cell v
 hok:nu X.prog X.w H s.heap
 len:G.length=X.N.length
section
variable {X:Cx}{pins:List (Addr×Obj)}{G:List (Option V)}{H H':Hp}{s:Shared}{h':Heap}
def Cx.Ok.Mw(ok:X.Ok)(e:X.base.get? b=some o):b ∉ X.fs:=λhb=>by
 have:=(ok.o7.mem hb).1;rw[e]at this;cases this
def Inv.bs(I:Inv X pins G H s):∀b o,X.base.get? b=some o->s.heap.get? b=some o/\H b=none:=λb o e =>
 ⟨I.base.keep b o (I.ok.bs b o e).1 (I.ok.bs b o e).2 (I.ok.Mw e) (I.ok.uT b o e),I.base.free b o (I.ok.bs b o e).1 (I.ok.bs b o e).2 (I.ok.uT b o e)⟩
def Inv.bk(I:Inv X pins G H s):∀b o,X.base.get? b=some o->s.heap.get? b=some o:=λb o e=>(I.bs b o e).1
def Inv.mod(I:Inv X pins G H s):Mod X.K X.mg X.base:=I.ok.mod
def Inv.CO(I:Inv X pins G H s):X.K.In s.heap:=I.ok.mod.Mu.keeps I.bk
def Inv.lt(I:Inv X pins G H s):X.env.locals<s.heap.objs.size:=let ⟨_,hn,_⟩:=I.loc;hn.lt
def Inv.sz(I:Inv X pins G H s):X.s₀.heap.objs.size<=s.heap.objs.size:=Zaq I.ok.above (Zcu I.lt)
def Inv.DS(I:Inv X pins G H s){a:Addr}(h:s.heap.objs.size<=a):a ∉ X.fs:=λhb=>by
 obtain⟨_,o,ho,_⟩:=I.ok.o7.mem hb;exact absurd (ZaI (ZaB ho) (Zaq I.sz h)) (ZbD _)
def Inv.zR(I:Inv X pins G H s):∀x c,X.env.cells.lookup x=some c->c≠X.env.locals:=λx c e z=>by
 obtain⟨v,o,ho,hd⟩:=I.cell x c e;obtain⟨m,⟨o',es,ep,ho',hd',_⟩,_⟩:=I.loc;rw[z,ho']at ho;cases ho;rw[hd']at hd;cases hd
def Inv.o7(I:Inv X pins G H s):s.heap.FunFrames X.base X.outer:=by
 have all:∀(l:List Env),(∀b∈frs l,b∈X.fs)->X.s₀.heap.FunFrames X.base l->s.heap.FunFrames X.base l:=by
  intro l
  induction l with
  |nil=>intro _ _;trivial
  |cons env r ih =>
   intro hs hl;obtain⟨hk,⟨L,o,hf,hn,ho,hd⟩,hr⟩:=hl;have hL:L∈X.fs:=hs L (by unfold frs;rw[Zcz,hf];exact Zah);obtain⟨sl,e⟩:=I.base.slot L o ho (I.ok.CN L hL) hL λz=>I.ok.xg L z hL;exact⟨hk,⟨L,_,hf,hn,e,hd⟩,ih (λb hb=>hs b (by unfold frs;rw[Zcz,hf];exact Zak _ hb)) hr⟩
 exact all X.outer (λ_ hb=>hb) I.ok.o7
def Inv.stack(I:Inv X pins G H s):s.heap.FunFrames X.base X.stack:=by
 rcases I.ok.stk with e|⟨e,hf⟩
 rw[e];exact I.o7;rw[e];obtain⟨m,hn,_⟩:=I.loc;refine .cons (by rw[I.ok.kind];decide) hf hn ?_ I.o7;exact Heap.get?_none_of_le (Zaq I.ok.yc I.ok.above)
def Inv.o8(I:Inv X pins G H s):∀b∈frs X.stack,b∈X.env.locals :: X.fs:=λb hb=>by
 rcases I.ok.stk with e|⟨e,hf⟩
 rw[e]at hb;exact Zak _ hb;rw[e]at hb;unfold frs at hb;rw[Zcz,hf]at hb;exact hb
def Inv.sR(I:Inv X pins G H s):∀b∈frs X.stack,H b=none:=λb hb=>by
 rcases ZaE.mp (I.o8 b hb)with e|hb
 rw[e];exact I.free;obtain⟨_,o,ho,_⟩:=I.ok.o7.mem hb;exact I.base.free b o ho (I.ok.CN b hb) λz=>I.ok.xg b z hb
def Inv.step{g':Array GenState}{t':Nat}{d':Drawn}{ch:List Addr}(I:Inv X pins G H s)
  (hch:∀b∈ch,(b∈X.ex\/X.s₀.heap.objs.size<=b)/\b≠X.env.locals/\(∀x c,X.env.cells.lookup x=some c->c≠b)/\∀p∈X.pn ++ pins,p.1≠b)
  (keep:∀b o,b≠X.env.locals->b ∉ X.fs->b ∉ ch->s.heap.get? b=some o->H b=none->h'.get? b=some o)
  (slot:∀b o,b≠X.env.locals->b∈X.fs->b ∉ ch->s.heap.get? b=some o->H b=none->∃sl,h'.get? b=some { o with slots:=sl }) (free:∀b o,b ∉ ch->s.heap.get? b=some o->H b=none->H' b=none)
  (there:∀b o,b ∉ ch->s.heap.get? b=some o->∃o',h'.get? b=some o')
  (tups:∀b xs,H b=some (.tup xs)->H' b=some (.tup xs)) (qm:∀b o u,H b=some (.o6 o u)->H' b=some (.o6 o u)) (rg:∀b ps,H b=some (.zO ps)->∃more,H' b=some (.zO (ps ++ more)))
  (ns:∀m,s.heap.Ns X.env.locals m->h'.Ns X.env.locals m) (hok:nu X.prog X.w H' h') (hg:AllBare g') :
  Inv X pins G H' { s with heap:=h',gens:=g',drawn:=d',toks:=t' }:=by
 have zS:∀b o,X.s₀.heap.get? b=some o->b≠X.env.locals:=λb o e=>ZaS (ZaI (ZaB e) I.ok.above);have JN:∀b o,X.s₀.heap.get? b=some o->b ∉ X.ex->b ∉ ch:=λb o e hx hb=>by
  rcases(hch b hb).1 with z|z
  exact hx z;exact absurd (ZaI (ZaB e) z) (ZbD _)
 have cellK:∀x c,X.env.cells.lookup x=some c->∀v,s.heap.IsCell c v->h'.IsCell c v:=λx c e v ⟨o,ho,hd⟩=>by
  have DT:c ∉ ch:=λz=>(hch c z).2.2.1 x c e rfl;by_cases hc:c∈X.fs;obtain⟨sl,q⟩:=slot c o (I.zR x c e) hc DT ho (I.mG x c e);exact⟨_,q,hd⟩;exact⟨o,keep c o (I.zR x c e) hc DT ho (I.mG x c e),hd⟩
 refine⟨I.ok,I.os,hg,⟨λb o e n hb hx=>?_,λb o e n hb hx=>?_,λb o e n hx=>?_,λb o e hx=>?_,λb xs e=>tups b xs (I.base.tups b xs e),λb o xs e=>qm b o xs (I.base.qm b o xs e),λb ps e=>?_⟩,?_,λx c e=>?_,?_,λx c e=>?_,λp hp=>?_,hok,I.len⟩;exact keep b o (zS b o e) hb (JN b o e hx) (I.base.keep b o e n hb hx) (I.base.free b o e n hx);obtain⟨sl,e1⟩:=I.base.slot b o e n hb hx;obtain⟨Wq,e2⟩:=slot b _ (zS b o e) hb (JN b o e hx) e1 (I.base.free b o e n hx);exact⟨Wq,e2⟩;obtain⟨o',e1⟩:=I.base.there b o e hx;exact free b o' (JN b o e hx) e1 (I.base.free b o e n hx);obtain⟨o',e1⟩:=I.base.there b o e hx;exact there b o' (JN b o e hx) e1;obtain⟨m1,e1⟩:=I.base.rg b ps e;obtain⟨m2,e2⟩:=rg b _ e1;exact⟨m1 ++ m2,by rw[e2,Array.append_assoc]⟩;obtain⟨m,hn,hl⟩:=I.loc;refine⟨m,ns m hn,λi x v e1 e2 e3=>?_⟩;obtain⟨u,r,l⟩:=hl i x v e1 e2 e3;refine⟨u,r,?_⟩;rcases l with l|⟨k,c,e,z⟩
 exact .inl l;exact .inr ⟨k,c,e,cellK x c e _ z⟩;obtain⟨v,z⟩:=I.cell x c e;exact⟨v,cellK x c e v z⟩;obtain⟨m,⟨o,_,_,ho,_⟩,_⟩:=I.loc;exact free _ o (λz=>(hch _ z).2.1 rfl) ho I.free;obtain⟨v,o,ho,hd⟩:=I.cell x c e;exact free c o (λz=>(hch c z).2.2.1 x c e rfl) ho (I.mG x c e);obtain⟨e,n,ne,nf,d⟩:=I.pin p hp;have DT:p.1 ∉ ch:=λz=>(hch p.1 z).2.2.2 p hp rfl;exact⟨keep p.1 p.2 ne nf DT e n,free p.1 p.2 DT e n,ne,nf,d⟩
def Inv.un(I:Inv X pins G H s)(u:Un X.fs [] H H' s.heap h')(hok:nu X.prog X.w H' h'):Inv X pins G H' { s with heap:=h',toks:=t' }:=by
 obtain⟨m,⟨o,es,ep,ho,r⟩,_⟩:=id I.loc;obtain⟨sl,hL⟩:=u.any ho I.free (by simp)
 exact I.step (g':=s.gens) (d':=s.drawn) (ch:=[]) (λ_ z=>nomatch z) (λb o _ hb _ e n=>u.keep b o e n hb (by simp)) (λb o _ hb _ e n=>u.slot b o e n hb (by simp)) (λb o _ e n=>u.free b o e n (by simp)) (λb o _ e=>u.there b o e (by simp)) u.tups u.qm u.rg (λm' hm=>by
  obtain⟨o',es',Mx,ho',r'⟩:=hm;rw[ho]at ho';cases ho'
  exact⟨_,es',Mx,hL,r'⟩) hok I.bare
def Inv.call(I:Inv X pins G H s)(u:Un (frs X.stack) ch H H' s.heap h')(hok:nu X.prog X.w H' h')(hg:AllBare g')
  (hch:∀b∈ch,(b∈X.ex\/X.s₀.heap.objs.size<=b)/\b≠X.env.locals/\(∀x c,X.env.cells.lookup x=some c->c≠b)/\∀p∈X.pn ++ pins,p.1≠b) :
  Inv X pins G H' { s with heap:=h',gens:=g',drawn:=d',toks:=t' }:=by
 obtain⟨m,⟨o,es,ep,ho,r⟩,_⟩:=id I.loc;obtain⟨sl,hL⟩:=u.any ho I.free λz=>(hch _ z).2.1 rfl
 exact I.step (ch:=ch) hch (λb o hL hb hc e n=>u.keep b o e n (λz=>(ZaE.mp (I.o8 b z)).elim hL hb) hc) (λb o _ _ hc e n=>u.any e n hc) (λb o hc e n=>u.free b o e n hc) (λb o hc e=>u.there b o e hc) u.tups u.qm u.rg (λm' hm=>by
  obtain⟨o',es',Mx,ho',r'⟩:=hm;rw[ho]at ho';cases ho'
  exact⟨_,es',Mx,hL,r'⟩) hok hg
def Inv.turned(I:Inv X pins G H s)(k:∀b o,b≠it->s.heap.get? b=some o->h'.get? b=some o)(hn:H it=none)(hL:it≠X.env.locals)
  (h1:it∈X.ex\/X.s₀.heap.objs.size<=it) (h2:∀x c,X.env.cells.lookup x=some c->c≠it) (h3:∀p∈X.pn ++ pins,p.1≠it):Inv X pins G H { s with heap:=h',toks:=t' }:=by
 have DV:∀b u,H b=some u->b≠it:=λb u e z=>by rw[z,hn]at e;cases e
 refine I.step (g':=s.gens) (d':=s.drawn) (ch:=[it]) (λb hb=>?_) (λb o _ _ hc e _=>k b o (λz=>hc (by simp[z])) e) (λb o _ _ hc e _=>⟨o.slots,k b o (λz=>hc (by simp[z])) e⟩) (λ_ _ _ _ n=>n)
  (λb o hc e=>⟨o,k b o (λz=>hc (by simp[z])) e⟩) (λ_ _ e=>e) (λ_ _ _ e=>e) (λb ps e=>⟨#[],by rw[e];simp⟩) (λm hm=>?_) (λb u e=>?_) I.bare
 have e:b=it:=by simpa using hb
 subst e;exact⟨h1,hL,h2,h3⟩;obtain⟨o,es,ep,ho,r⟩:=hm;exact⟨o,es,ep,k _ o (Ne.symm hL) ho,r⟩;refine(I.hok b u e).stay (λc v hc q=>k c v ?_ q) (λ_ q=>q) λ_ _ q=>q;rcases hc with z|z
 rw[z];exact DV b u e;exact DV c _ z
def Inv.tok(I:Inv X pins G H s)(t:Nat):Inv X pins G H { s with toks:=t }:=I.un (h':=s.heap) (t':=t) Un.refl I.hok
def Inv.kept(I:Inv X pins G H s)(k:∀b u,s.heap.get? b=some u->h'.get? b=some u):Inv X pins G H { s with heap:=h',toks:=t' }:=I.un (Un.kept k) (I.hok.kept k)
def Inv.laid{a:Addr}{o:HO}{t':Nat}(I:Inv X pins G H s)(k:∀b u,s.heap.get? b=some u->h'.get? b=some u)(hp:s.heap.objs.size<=a)(new:bP X.prog X.w (upd H a o) h' a o):
  Inv X pins G (upd H a o) { s with heap:=h',toks:=t' }:=I.un (Un.laid k hp (I.hok.fresh hp)) (I.hok.laid k hp new)
def Inv.write(I:Inv X pins G H s)(mu:DP (H x))(he:e=x\/H e=some (.own x))(k:∀b u,b≠e->s.heap.get? b=some u->h'.get? b=some u)(CM:∃u,h'.get? e=some u)
  (new:bP X.prog X.w (upd H x o) h' x o):Inv X pins G (upd H x o) { s with heap:=h',toks:=t' }:=I.un (Un.write mu he k CM) (I.hok.write mu he k CM new)
def Inv.oQ(I:Inv X pins G H s)(h:∀p∈yd,s.heap.get? p.1=some p.2/\H p.1=none/\p.1≠X.env.locals/\p.1 ∉ X.fs/\∀v,p.2.data≠.cell v):Inv X yd G H s :=
 ⟨I.ok,I.os,I.bare,I.base,I.loc,I.cell,I.free,I.mG,λp hp=>(Zax.mp hp).elim (λz=>I.pin p (Zbr _ z)) (h p),I.hok,I.len⟩
def P5{N:List Str}(hN:N.Nodup){i j:Nat}{x:Str}(a:N[i]?=some x)(b:N[j]?=some x):i=j:=by obtain⟨h1,e1⟩:=Zab.mp a;obtain⟨h2,e2⟩:=Zab.mp b;exact(List.getElem_inj hN).mp (e1.trans e2.symm)
def P6(I:Inv X pins G H s)(hN:X.N.Nodup)(hi:X.N[i]?=some x)(hx:Loc X.env.scope x)(r:RelV v u)
  (h:∀s',Inv X pins (G.set i (some v)) H s'->(∃a,Heap.SameBut a s.heap s'.heap/\(a=X.env.locals\/X.env.cells.lookup x=some a))->Q () s') (hf:X.fn x=true\/X.env.scope.names.lookup x=some .local:=by first|exact .inl rfl|exact .inr rfl|assumption):wpAny M A (storeName X.env x u) Q E s:=by
 obtain⟨m,hn,hl⟩:=id I.loc;have hcls:(X.env.scope.kind == .class || (X.env.scope.kind == .module && X.env.locals != X.env.globals))=false:=by rw[I.ok.kind];rfl
 have hiσ:i<G.length:=by rw[I.len];exact(Zab.mp hi).1
 have zR:=I.zR;have tracked:∀{a:Addr} {h':Heap},(∃o,s.heap.get? a=some o/\H a=none)->Heap.SameBut a s.heap h'->nu X.prog X.w H h':=λ{a h'} ha hs b ob e=>by
  obtain⟨_,_,hfree⟩:=ha;refine(I.hok b ob e).stay (λc w' hc q=>(hs.2 c ?_).trans q) (λ_ q=>q) λ_ _ q=>q;rintro rfl;rcases hc with rfl|hc
  rw[hfree]at e;cases e;rw[hfree]at hc;cases hc
 rcases hx with hk|hk
 refine wpAny_storeName_local hk hn (λh' hn' hs=>?_) hcls;obtain⟨oL,_,_,Wr,_⟩:=id hn;refine h _ ⟨I.ok,I.os,I.bare,⟨λb o e n hb hx=>?_,λb o e n hb hx=>?_,I.base.free,λb o e hx=>?_,I.base.tups,I.base.qm,I.base.rg⟩,⟨_,hn',λj y v' e1 e2 e3=>?_⟩,λy c e=>?_,I.free,I.mG,λp hp=>?_,tracked ⟨oL,Wr,I.free⟩ hs,by simpa using I.len⟩ ⟨_,hs,.inl rfl⟩;exact(hs.2 b (ZaS (ZaI (ZaB e) I.ok.above))).trans (I.base.keep b o e n hb hx);obtain⟨sl,e1⟩:=I.base.slot b o e n hb hx;exact⟨sl,(hs.2 b (ZaS (ZaI (ZaB e) I.ok.above))).trans e1⟩;obtain⟨o',e1⟩:=I.base.there b o e hx;exact⟨o',(hs.2 b (ZaS (ZaI (ZaB e) I.ok.above))).trans e1⟩;by_cases hj:j=i;subst hj;rw[hi]at e1;cases e1;rw[Zaj hiσ]at e2;cases e2;exact⟨u,r,.inl ⟨hk,by simp⟩⟩;rw[Zal (Ne.symm hj)]at e2;obtain⟨u',r',q⟩:=hl j y v' e1 e2 e3;refine⟨u',r',?_⟩;rcases q with⟨k,e⟩|⟨k,c,e,z⟩
 refine .inl ⟨k,?_⟩
 have:y≠x:=λe=>hj (P5 hN e1 (e ▸ hi));simp[this,e]
 exact .inr ⟨k,c,e,z.sameBut hs (zR y c e)⟩;obtain⟨w',z⟩:=I.cell y c e;exact⟨w',z.sameBut hs (zR y c e)⟩;obtain⟨e,n,ne,nf,d⟩:=I.pin p hp;exact⟨(hs.2 p.1 ne).trans e,n,ne,nf,d⟩;have hfn:X.fn x=true:=by
  rcases hf with z|z
  exact z;rw[z]at hk;cases hk
 obtain⟨c,hc⟩:=I.ok.has x (.inl hk);obtain⟨w',z⟩:=I.cell x c hc;refine wpAny_storeName_cell I.ok.kind hk hc z (λh' hc' hs=>?_);obtain⟨oc,hoc,Mz⟩:=id z;refine h { s with heap:=h' } ⟨I.ok,I.os,I.bare,⟨λb o e n hb hx=>?_,λb o e n hb hx=>?_,I.base.free,λb o e hx=>?_,I.base.tups,I.base.qm,I.base.rg⟩,⟨m,hn.sameBut hs (Ne.symm (zR x c hc)),λj y v' e1 e2 e3=>?_⟩,λy c' e=>?_,I.free,I.mG,λp hp=>?_,tracked ⟨oc,hoc,I.mG x c hc⟩ hs,by simpa using I.len⟩ ⟨c,hs,.inr hc⟩;exact(hs.2 b (ZaS (ZaI (ZaB e) (I.ok.DR x c hfn hc)))).trans (I.base.keep b o e n hb hx);obtain⟨sl,e1⟩:=I.base.slot b o e n hb hx;exact⟨sl,(hs.2 b (ZaS (ZaI (ZaB e) (I.ok.DR x c hfn hc)))).trans e1⟩;obtain⟨o',e1⟩:=I.base.there b o e hx;exact⟨o',(hs.2 b (ZaS (ZaI (ZaB e) (I.ok.DR x c hfn hc)))).trans e1⟩;by_cases hj:j=i;subst hj;rw[hi]at e1;cases e1;rw[Zaj hiσ]at e2;cases e2;exact⟨u,r,.inr ⟨.inl hk,c,hc,hc'⟩⟩;rw[Zal (Ne.symm hj)]at e2;obtain⟨u',r',q⟩:=hl j y v' e1 e2 e3;refine⟨u',r',?_⟩;rcases q with q|⟨k,c',e,z'⟩
 exact .inl q;refine .inr ⟨k,c',e,z'.sameBut hs ?_⟩;rintro rfl;exact hj (P5 hN e1 (I.ok.inj _ _ _ e hc ▸ hi));by_cases hcc:c'=c;subst hcc;exact⟨_,hc'⟩;obtain⟨w2,z2⟩:=I.cell y c' e;exact⟨w2,z2.sameBut hs hcc⟩;obtain⟨e,n,ne,nf,d⟩:=I.pin p hp;refine⟨(hs.2 p.1 ?_).trans e,n,ne,nf,d⟩;intro q;rw[q,hoc]at e;have q':oc=p.2:=Zao e;exact d w' (by rw[<- q'];exact Mz)
def JO(I:Inv X pins G H s)(hN:X.N.Nodup)(hi:X.N[i]?=some x)(hx:Loc X.env.scope x)(r:RelV v u)
  (h:∀s',Inv X pins (G.set i (some v)) H s'->Q () s') (hf:X.fn x=true\/X.env.scope.names.lookup x=some .local:=by first|exact .inl rfl|exact .inr rfl|assumption):wpAny M A (storeName X.env x u) Q E s :=
 P6 I hN hi hx r (λs' I' _=>h s' I') hf
def Inv.DW(I:Inv X pins G H s)(ho:s'.os=s.os)(u:Un (frs X.stack) ch H H' s.heap s'.heap)(hok:nu X.prog X.w H' s'.heap)(hg:AllBare s'.gens)
  (hch:∀b∈ch,(b∈X.ex\/X.s₀.heap.objs.size<=b)/\b≠X.env.locals/\(∀x c,X.env.cells.lookup x=some c->c≠b)/\∀p∈X.pn ++ pins,p.1≠b):Inv X pins G H' s':=by
 obtain⟨h',g',d',t',o'⟩:=s';have e:o'=s.os:=ho;subst e;exact I.call (g':=g') (t':=t') (d':=d') u hok hg hch
end
@[reducible]def XK:=Value->Option Addr->Hp->Prop
@[reducible]def St:=List (Option V)
@[reducible]def VK:=V->Hp->Prop
@[reducible]def TE:=St->Hp->VK->Prop
@[reducible]def TT:=St->Hp->(Bool->Hp->Prop)->Prop
@[reducible]def TA:=St->Hp->(List V->Hp->Prop)->Prop
set_option genInjectivity false in
structure Ends where
 nx:St->Hp->Prop
 rt:VK
 bk:St->Hp->Prop:=λ_ _=>False
 ct:St->Hp->Prop:=λ_ _=>False
@[reducible]def TS:=Ends->St->Hp->Prop
abbrev EP(X:Cx)(pins:List (Addr×Obj))(G:St)(Q:VK)(u:Value)(s':Shared):Prop:=∃v H',Inv X pins G H' s'/\RelV v u/\Q v H'
abbrev TP(X:Cx)(pins:List (Addr×Obj))(G:St)(Q:Bool->Hp->Prop)(b:Bool)(s':Shared):Prop:=∃H',Inv X pins G H' s'/\Q b H'
abbrev AP(X:Cx)(pins:List (Addr×Obj))(G:St)(Q:List V->Hp->Prop)(us:List Value)(s':Shared):Prop:=∃vs H',Inv X pins G H' s'/\Vals vs us/\Q vs H'
abbrev SP(X:Cx)(pins:List (Addr×Obj))(D:Ends)(f:Flow)(s':Shared):Prop :=
 match f with
 |.next=>∃G' H',Inv X pins G' H' s'/\D.nx G' H'
 |.brk=>∃G' H',Inv X pins G' H' s'/\D.bk G' H'
 |.cont=>∃G' H',Inv X pins G' H' s'/\D.ct G' H'
 |.ret u=>∃v G' H',Inv X pins G' H' s'/\RelV v u/\D.rt v H'
abbrev PE(X:Cx)(e:Expr)(t:TE):Prop :=
 ∀(pins:List (Addr×Obj)) (s:Shared) (G:St) (H:Hp) (Q:VK),Inv X pins G H s->t G H Q->wpAny (model X.prog X.w) X.A (eval e X.env) (EP X pins G Q) X.xe s
abbrev PT(X:Cx)(e:Expr)(t:TT):Prop :=
 ∀(pins:List (Addr×Obj)) (s:Shared) (G:St) (H:Hp) (Q:Bool->Hp->Prop),Inv X pins G H s->t G H Q->wpAny (model X.prog X.w) X.A (isTrue e X.env (eval e X.env)) (TP X pins G Q) X.xe s
abbrev PW(X:Cx)(e:Expr)(t:TT):Prop :=
 ∀(whole:Sem Value) (pins:List (Addr×Obj)) (s:Shared) (G:St) (H:Hp) (Q:Bool->Hp->Prop),Inv X pins G H s->t G H Q->wpAny (model X.prog X.w) X.A (isTrue e X.env whole) (TP X pins G Q) X.xe s
def PW.pt(h:PW X e t):PT X e t:=h _
abbrev PA(X:Cx)(es:List Expr)(t:TA):Prop :=
 ∀(pos:Pos) (pins:List (Addr×Obj)) (s:Shared) (G:St) (H:Hp) (Q:List V->Hp->Prop),Inv X pins G H s->t G H Q->wpAny (model X.prog X.w) X.A (spliced (backTo pos (starEach es X.env))) (AP X pins G Q) X.xe s
abbrev PS(X:Cx)(st:Stmt)(t:TS):Prop :=
 ∀(pins:List (Addr×Obj)) (s:Shared) (G:St) (H:Hp) (D:Ends),Inv X pins G H s->t D G H->wpAny (model X.prog X.w) X.A (exec st X.env) (SP X pins D) X.xe s
abbrev sS(X:Cx)(st:List Stmt)(t:TS):Prop :=
 ∀(pins:List (Addr×Obj)) (s:Shared) (G:St) (H:Hp) (D:Ends),Inv X pins G H s->t D G H->wpAny (model X.prog X.w) X.A (execs st X.env) (SP X pins D) X.xe s
def cf{J:Type}{t:Sem J}{Q Q':J->Shared->Prop}{M:Model}{A:Around}{E:Value->Shared->Prop}{s:Shared}(h:wpAny M A t Q E s)(hQ:∀a s,Q a s->Q' a s):wpAny M A t Q' E s:=wpAny_mono h hQ λ_ _ x=>x
section
variable {X:Cx}
abbrev uU(i:Nat):TE:=λG H Q=>∃v,G[i]?=some (some v)/\Q v H
abbrev tC(v:V):TE:=λ_ H Q=>Q v H
def zT{i:Nat}{x:Str}{pos:Pos}(hN:X.N[i]?=some x)(hv:Mv X.env.scope x)(hd:(x == ("__debug__" : Str))=false:=by decide)(hcd:(x == ("__classdict__" : Str))=false:=by decide):PE X (.Name x pos) (uU i):=by
 intro pins s G H Q I h;obtain⟨v,e,h⟩:=h;obtain⟨m,hn,hl⟩:=I.loc;obtain⟨u,r,l⟩:=hl i x v hN e hv;have fin:EP X pins G Q u s:=⟨v,H,I,r,h⟩;rcases l with⟨hk,hm⟩|⟨hk,c,hc,hcell⟩
 exact wpAny_Name (wpAny_loadName_local I.ok.kind hk hn hm fin) hd;rcases hk with hk|hk
 exact wpAny_Name (wpAny_loadName_cell I.ok.kind hk hc hcell fin) hd;exact wpAny_Name (wpAny_loadName_free I.ok.kind hk hc hcell fin hcd) hd
def aC{i j pos}:PE X (.Constant (.int i) j pos) (tC (.int i)):=λ_ _ _ H _ I h=>wpAny_Constant_int ⟨.int i,H,I.tok _,⟨_,rfl⟩,h⟩
def zU{b j pos}:PE X (.Constant (.bool b) j pos) (tC (.bl b)):=λ_ _ _ H _ I h=>Constant_bool ⟨.bl b,H,I,rfl,h⟩
def JP{j pos}:PE X (.Constant .none j pos) (tC .non):=λ_ _ _ H _ I h=>Constant_none ⟨.non,H,I,rfl,h⟩
def o9{x j pos}:PE X (.Constant (.str x) j pos) (tC (.str x)):=λ_ _ _ H _ I h=>Calls.Constant_str ⟨.str x,H,I.tok _,⟨_,rfl⟩,h⟩
abbrev Gl(X:Cx)(x:Str):Prop:=X.env.kindOf x=some .globalImplicit
def P7{E:Value->Shared->Prop}{pins:List (Addr×Obj)}{s:Shared}{G:St}{H:Hp}{x:Str}{u:Value}{pos:Pos}{Q:Value->Shared->Prop}(I:Inv X pins G H s)(hg:Gl X x)(hm:X.mg x=some u)(h:Q u s)
  (hd:(x == ("__debug__" : Str))=false:=by decide):wpAny (model X.prog X.w) X.A (eval (.Name x pos) X.env) Q E s :=
 Calls.Name_function_global I.ok.kind hg (Calls.loadGlobal_global (by rw[I.ok.glob];exact I.mod.glob.keeps I.bk) hm h) hd
def zV{E:Value->Shared->Prop}{pins:List (Addr×Obj)}{s:Shared}{G:St}{H:Hp}{x:Str}{u:Value}{pos:Pos}{Q:Value->Shared->Prop}(I:Inv X pins G H s)(hg:Gl X x)(hm:X.mg x=none)(hv:bootBuiltins x=some u)(h:Q u s)
  (hn:x≠"__name__" := by decide) (hd:(x == ("__debug__" : Str))=false:=by decide):wpAny (model X.prog X.w) X.A (eval (.Name x pos) X.env) Q E s:=by
 obtain⟨mb,h1,h2⟩:=I.mod.blt;exact Calls.Name_function_global I.ok.kind hg (Calls.loadGlobal_builtin (by rw[I.ok.glob];exact I.mod.glob.keeps I.bk) hm (by rw[I.ok.blt];exact h1.keeps I.bk) ((h2 x hn).trans hv) h) hd
def Wt(hg:Gl X x)(hm:X.mg x=some u)(r:RelV v u)(hd:(x == ("__debug__" : Str))=false:=by decide):PE X (.Name x pos) (tC v) :=
 λ_ _ _ H _ I h=>P7 I hg hm ⟨v,H,I,r,h⟩ hd
def MA{x:Str}{v:V}{u:Value}{pos:Pos}(hg:Gl X x)(hm:X.mg x=none)(hv:bootBuiltins x=some u)(r:RelV v u)(hn:x≠"__name__" := by decide)(hd:(x == ("__debug__" : Str))=false:=by decide):PE X (.Name x pos) (tC v) :=
 λ_ _ _ H _ I h=>zV I hg hm hv ⟨v,H,I,r,h⟩ hn hd
variable {a b:Expr}{ta tb:TE}{pos:Pos}
abbrev PC(X:Cx)(op:CmpOp)(a b:Expr)(t:TE):Prop :=
 ∀(pins:List (Addr×Obj)) (s:Shared) (G:St) (H:Hp) (Q:VK),Inv X pins G H s->t G H Q ->
  wpAny (model X.prog X.w) X.A (eval a X.env) (λv s₁=>wpAny (model X.prog X.w) X.A (eval b X.env) (λu s₂=>wpAny (model X.prog X.w) X.A (compareOp op v u) (EP X pins G Q) X.xe s₂) X.xe s₁) X.xe s
def uV(b:Expr)(h:op≠.In)(h2:op≠.NotIn):behindInMarks op b=false:=by
 have e1:(op == CmpOp.In)=false:=by cases op<;>first|rfl|exact absurd rfl h
 have e2:(op == CmpOp.NotIn)=false:=by cases op<;>first|rfl|exact absurd rfl h2
 cases b<;>simp[behindInMarks,e1,e2]
abbrev tB(t:TE):TT:=λG H Q=>t G H λx H1=>∃c,x=.bl c/\Q c H1
def P8(h:PC X op a b t)(h1:behindInMarks op b=false:=by first|exact uV _ ∅ ∅|rfl):PT X (.Compare a [op] [b] pos) (tB t):=by intro pins s G H Q I hw;refine wpAny_isTrue_Compare1 (cf (h pins s G H _ I hw) λv s1 h1=>cf h1 λu s2 h2=>cf h2 λc s3 ⟨x,H1,I1,r1,q1⟩=>?_) h1;obtain⟨d,rfl,q⟩:=q1;cases r1;exact wpAny_truthy_bool ⟨H1,I1,q⟩
def CP(h:PE X e t)(he:∀whole,isTrue e X.env whole=(do let v <- whole;standAt e.pos;holding [v] (truthy v)):=by intro _;rfl):PT X e (tB t):=by intro pins s G H Q I hw;refine isTrue_plain (cf (h pins s G H _ I hw) λv s1 ⟨x,H1,I1,r1,q1⟩=>?_) (he _);obtain⟨d,rfl,q⟩:=q1;cases r1;exact wpAny_truthy_bool ⟨H1,I1,q⟩
variable {tA JQ:TT}{rest:List Expr}
abbrev DX(t u:TT):TT:=λG H Q=>t G H λc H1=>if c=true then u G H1 Q else Q false H1
abbrev P9(t u:TT):TT:=λG H Q=>t G H λc H1=>if c=true then Q true H1 else u G H1 Q
abbrev DY(t:TT):TT:=λG H Q=>t G H λc H1=>Q (!c) H1
def DZ(ha:PT X a tA):PW X (.BoolOp .And [a] pos) tA:=by
 intro wh pins s G H Q I h;refine isTrue_and (cf (ha pins s G H Q I h) λc s1 e=>?_);cases c with
 |true=>exact isTrue_and_nil e
 |false=>exact e
def MB(ha:PT X a tA):PW X (.BoolOp .Or [a] pos) tA:=by
 intro wh pins s G H Q I h;refine isTrue_or (cf (ha pins s G H Q I h) λc s1 e=>?_);cases c with
 |false=>exact isTrue_or_nil e
 |true=>exact e
def D0(ha:PT X a tA)(hb:PW X (.BoolOp .And (b :: rest) pos) JQ):PW X (.BoolOp .And (a :: b :: rest) pos) (DX tA JQ):=by
 intro wh pins s G H Q I h;refine isTrue_and (cf (ha pins s G H _ I h) λc s1 ⟨H1,I1,q1⟩=>?_);cases c with
 |true=>exact hb wh pins s1 G H1 Q I1 q1
 |false=>exact⟨H1,I1,q1⟩
def JR(ha:PT X a tA)(hb:PW X (.BoolOp .Or (b :: rest) pos) JQ):PW X (.BoolOp .Or (a :: b :: rest) pos) (P9 tA JQ):=by
 intro wh pins s G H Q I h;refine isTrue_or (cf (ha pins s G H _ I h) λc s1 ⟨H1,I1,q1⟩=>?_);cases c with
 |true=>exact⟨H1,I1,q1⟩
 |false=>exact hb wh pins s1 G H1 Q I1 q1
def D1(ha:PT X a tA):PT X (.UnaryOp .Not a pos) (DY tA):=by intro pins s G H Q I h;exact isTrue_not (ha pins s G H (λc H1=>Q (!c) H1) I h)
abbrev ye(ta tb:TE):TE:=λG H Q=>ta G H λx H1=>∃c,x=.bl c/\if c=true then tb G H1 Q else Q (.bl false) H1
def zW{op}(h:PE X a t):PE X (.BoolOp op [a] pos) t:=λpins s G H Q I hw=>BoolOp_one (h pins s G H Q I hw)
def zX(ha:PE X a ta)(hb:PE X (.BoolOp .And (b :: rest) pos) tb):PE X (.BoolOp .And (a :: b :: rest) pos) (ye ta tb):=by
 intro pins s G H Q I h;refine BoolOp_and (cf (ha pins s G H _ I h) λv s1 ⟨x,H1,I1,r1,q1⟩=>?_);obtain⟨c,rfl,q1⟩:=q1;cases r1;refine wpAny_truthy_bool ?_;cases c with
 |true=>exact hb pins s1 G H1 Q I1 q1
 |false=>exact⟨.bl false,H1,I1,rfl,q1⟩
abbrev Qa(t:TT)(ta tb:TE):TE:=λG H Q=>t G H λc H1=>if c=true then ta G H1 Q else tb G H1 Q
def Qb(hc:PT X c tA)(ha:PE X a ta)(hb:PE X b tb):PE X (.IfExp c a b pos) (Qa tA ta tb):=by
 intro pins s G H Q I h;refine wpAny_IfExp (cf (hc pins s G H _ I h) λd s1 ⟨H1,I1,q1⟩=>?_);cases d with
 |true=>exact ha pins s1 G H1 Q I1 q1
 |false=>exact hb pins s1 G H1 Q I1 q1
end
abbrev jX(K:Zfr)(H:Hp)(a:Addr)(xs:List V):Prop :=
 Rd H a (.lst xs) \/
  ∃(o:Obj) (its:Array Value) (n:Nat),K.lookup a=some o/\o.cls=.type "list" /\ o.dict=none/\o.data=.seq its n/\its.size<=sizeLine/\Vals xs its.toList
abbrev fV(K:Zfr)(H:Hp)(a:Addr)(xs:List V):Prop :=
 Rd H a (.tup xs) \/
  ∃(o:Obj) (its:Array Value) (n:Nat),K.lookup a=some o/\o.cls=.type "tuple" /\ o.dict=none/\o.data=.seq its n/\its.size<=sizeLine/\Vals xs its.toList
abbrev MC:Value->Option V
 |.none=>some .non
 |.bool b=>some (.bl b)
 |.int i _=>some (.int i)
 |.str x _=>some (.str x)
 |.bytes b _=>some (.uS b)
 |.float b _=>some (.CK b)
 |.ref a=>some (.ref a)
 |.type n=>some (.ty n)
 |_=>none
def RelV.abs(r:RelV x u):MC u=some x:=by
 cases x with
 |non=>cases r;rfl
 |bl _=>cases r;rfl
 |int _=>obtain⟨t,rfl⟩:=r;rfl
 |str _=>obtain⟨t,rfl⟩:=r;rfl
 |uS _=>obtain⟨t,rfl⟩:=r;rfl
 |CK _=>obtain⟨t,rfl⟩:=r;rfl
 |ref _=>cases r;rfl
 |ty _=>cases r;rfl
def RelV.inj{x y:V}{u:Value}(r:RelV x u)(q:RelV y u):x=y:=Zao (r.abs.symm.trans q.abs)
def Vals.inj:∀{xs ys:List V} {us:List Value},Vals xs us->Vals ys us->xs=ys
 |_,_,_,.nil,.nil=>rfl
 |_,_,_,.cons r t,.cons r' t'=>by rw[r.inj r',Vals.inj t t']
section
variable {X:Cx}{pins:List (Addr×Obj)}{G:St}{H:Hp}{s:Shared}{a:Addr}{xs ys:List V}
def fV.of{K:Zfr}(h:H a=some (.tup xs)):fV K H a xs:=.inl (.inl h)
def Inv.list(I:Inv X pins G H s)(h:jX X.K H a xs):∃its:List Value,Vals xs its/\PlainL s.heap a its.toArray/\xs.length<=sizeLine:=by
 rcases h with h|⟨o,its,n,hk,hc,hd,hs,hz,r⟩
 obtain⟨z,its,n,r,e⟩:=h.ok I.hok;exact⟨its,r,⟨_,n,e,rfl,rfl,rfl⟩,z⟩;refine⟨its.toList,r,⟨o,n,I.CO a o hk,hc,hd,by simpa using hs⟩,?_⟩;have e:=r.length;simp only[Zcf]at e;lk
def Inv.qq(I:Inv X pins G H s)(h:fV X.K H a xs):∃its:List Value,Vals xs its/\ql s.heap a its.toArray/\xs.length<=sizeLine:=by
 rcases h with h|⟨o,its,n,hk,hc,hd0,hs,hz,r⟩
 obtain⟨z,its,r,p⟩:=h.ok I.hok;exact⟨its,r,p,z⟩;refine⟨its.toList,r,⟨o,I.CO a o hk,hc,hd0,n,by simpa using hs⟩,?_⟩;have e:=r.length;simp only[Zcf]at e;lk
def Inv.tuple(I:Inv X pins G H s)(h:fV X.K H a xs):∃its:List Value,Vals xs its/\IsTup s.heap a its.toArray/\xs.length<=sizeLine :=
 let ⟨its,r,p,z⟩:=I.qq h
 ⟨its,r,p.tup,z⟩
def Inv.rh(I:Inv X pins G H s)(h:jX X.K H a xs)(h':jX X.K H a ys):xs=ys:=by
 obtain⟨its,r,⟨o,n,e,_,_,d⟩,_⟩:=I.list h;obtain⟨its',r',⟨o',n',e',_,_,d'⟩,_⟩:=I.list h';rw[e]at e';cases e';rw[d]at d';injection d' with d1 _;have:its=its':=by simpa using congrArg Array.toList d1
 subst this;exact r.inj r'
def Inv.jJ(I:Inv X pins G H s)(h:fV X.K H a xs)(h':fV X.K H a ys):xs=ys:=by
 obtain⟨its,r,⟨o,e,_,n,d⟩,_⟩:=I.tuple h;obtain⟨its',r',⟨o',e',_,n',d'⟩,_⟩:=I.tuple h';rw[e]at e';cases e';rw[d]at d';injection d' with d1 _;have:its=its':=by simpa using congrArg Array.toList d1
 subst this;exact r.inj r'
end
@[reducible]def Cx.wish(X:Cx)(E:Value->Shared->Prop):Cx:={ X with xe:=E }
@[reducible]def Cx.oI(X:Cx):Cx:=X.wish λ_ _=>False
def Cx.Ok.wish{X:Cx}(ok:X.Ok)(E:Value->Shared->Prop):(X.wish E).Ok :=
 ⟨ok.mod,ok.kind,ok.glob,ok.blt,ok.above,ok.inj,ok.has,ok.DR,ok.hd,ok.frames,ok.stk,ok.P4,ok.bs,ok.yc,ok.uT,ok.xg,ok.o7,ok.CN⟩
def Cx.Ok.lb{X:Cx}{E:Value->Shared->Prop}(ok:(X.wish E).Ok):X.Ok :=
 ⟨ok.mod,ok.kind,ok.glob,ok.blt,ok.above,ok.inj,ok.has,ok.DR,ok.hd,ok.frames,ok.stk,ok.P4,ok.bs,ok.yc,ok.uT,ok.xg,ok.o7,ok.CN⟩
section
variable {X:Cx}{pins:List (Addr×Obj)}{G:St}{H:Hp}{s:Shared}{E:Value->Shared->Prop}
def Inv.wish(I:Inv X pins G H s)(E:Value->Shared->Prop):Inv (X.wish E) pins G H s:=⟨I.ok.wish E,I.os,I.bare,I.base,I.loc,I.cell,I.free,I.mG,I.pin,I.hok,I.len⟩
def Inv.lb(I:Inv (X.wish E) pins G H s):Inv X pins G H s:=⟨I.ok.lb,I.os,I.bare,I.base,I.loc,I.cell,I.free,I.mG,I.pin,I.hok,I.len⟩
def SP.lb(h:SP (X.wish E) pins D f s'):SP X pins D f s':=by
 cases f with
 |next=>obtain⟨G',H',I,q⟩:=h;exact⟨G',H',I.lb,q⟩
 |brk=>obtain⟨G',H',I,q⟩:=h;exact⟨G',H',I.lb,q⟩
 |cont=>obtain⟨G',H',I,q⟩:=h;exact⟨G',H',I.lb,q⟩
 |ret u=>obtain⟨v,G',H',I,r,q⟩:=h;exact⟨v,G',H',I.lb,r,q⟩
def sS.oI{st:List Stmt}{t:TS}(h:sS X.oI st t):sS X st t:=λpins s G H D I hw =>
 wpAny_mono (h pins s G H D (I.wish _) hw) (λ_ _ q=>q.lb) λ_ _ z=>False.elim z
end
section
variable {X:Cx}{st:Stmt}{rest:List Stmt}{t u:TS}{e:Expr}{te:TE}{pos:Pos}
abbrev yf:TS:=λD G H=>D.nx G H
abbrev D2(t u:TS):TS:=λD G H=>t { D with nx:=u D } G H
def jY:sS X [] yf:=λ_ _ G H _ I h=>wpAny_execs_nil ⟨G,H,I,h⟩
def Wu(h1:PS X st t)(h2:sS X rest u):sS X (st :: rest) (D2 t u):=by
 intro pins s G H D I h;refine wpAny_execs_cons (cf (h1 pins s G H { D with nx:=u D } I h) λf s1 q=>?_);cases f with
 |next =>
  obtain⟨G',H',I',q⟩:=q;exact h2 pins s1 G' H' D I' q
 |ret v=>exact q
 |brk=>exact q
 |cont=>exact q
def Wv(h1:PS X st t):sS X [st] t:=by
 intro pins s G H D I h;refine wpAny_execs_cons (cf (h1 pins s G H D I h) λf s1 q=>?_);cases f with
 |next=>exact wpAny_execs_nil q
 |ret v=>exact q
 |brk=>exact q
 |cont=>exact q
def Inv.quiet{pins:List (Addr×Obj)}{G:St}{H:Hp}{s:Shared}(I:Inv X pins G H s):interactive X.env=false:=by simp[interactive,I.ok.kind]
abbrev yg(te:TE):TS:=λD G H=>te G H λ_ H1=>D.nx G H1
def pO(he:PE X e te)(hs:swapsWith e none pos.line X.env=pure false:=by rfl):PS X (.Expr e pos) (yg te):=by intro pins s G H D I h;exact wpAny_Expr_any (cf (he pins s G H _ I h) λv s1 ⟨x,H1,I1,r1,q1⟩=>⟨G,H1,I1,q1⟩) I.quiet hs
abbrev D3(te:TE):TS:=λD G H=>te G H D.rt
def cI(he:PE X e te):PS X (.Return (some e) pos) (D3 te):=by intro pins s G H D I h;exact wpAny_Return_some (cf (he pins s G H _ I h) λv s1 ⟨x,H1,I1,r1,q1⟩=>⟨x,G,H1,I1,r1,q1⟩)
abbrev D4(c:TT)(t u:TS):TS:=λD G H=>c G H λb H1=>if b=true then t D G H1 else u D G H1
def D5{c:Expr}{a b:List Stmt}{tc:TT}(hc:PT X c tc)(ha:sS X a t)(hb:sS X b u):PS X (.If c a b pos) (D4 tc t u):=by
 intro pins s G H D I h;refine wpAny_If (cf (hc pins s G H _ I h) λd s1 ⟨H1,I1,q1⟩=>?_);cases d with
 |true=>exact ha pins s1 G H1 D I1 q1
 |false=>exact hb pins s1 G H1 D I1 q1
abbrev uW:TS:=λ_ _ _=>False
def Qc:PS X st uW:=λ_ _ _ _ _ _ h=>h.elim
end
@[reducible]def TG:=V->St->Hp->(St->Hp->Prop)->Prop
@[reducible]def uX:=List V->St->Hp->(St->Hp->Prop)->Prop
abbrev PG(X:Cx)(target:Expr)(t:TG):Prop :=
 ∀(pins:List (Addr×Obj)) (s:Shared) (G:St) (H:Hp) (v:V) (u:Value) (Q:St->Hp->Prop),Inv X pins G H s->RelV v u->t v G H Q ->
  wpAny (model X.prog X.w) X.A (assign target X.env u) (λ_ s'=>∃G' H',Inv X pins G' H' s'/\Q G' H') X.xe s
abbrev D6(X:Cx)(ts:List Expr)(t:uX):Prop :=
 ∀(pins:List (Addr×Obj)) (s:Shared) (G:St) (H:Hp) (vs:List V) (us:List Value) (Q:St->Hp->Prop),Inv X pins G H s->Vals vs us->t vs G H Q ->
  wpAny (model X.prog X.w) X.A (assignInOrder ((assignEach ts X.env).map (·.2)) us) (λ_ s'=>∃G' H',Inv X pins G' H' s'/\Q G' H') X.xe s
@[reducible]def zY:=V->V->V->Hp->(Hp->Prop)->Prop
abbrev D7(X:Cx)(t:zY):Prop :=
 ∀(pins:List (Addr×Obj)) (s:Shared) (G:St) (H:Hp) (o i v:V) (ov iv u:Value) (Q:Hp->Prop),Inv X pins G H s->RelV o ov->RelV i iv->RelV v u->t o i v H Q ->
  wpAny (model X.prog X.w) X.A (setItem ov iv u) (λ_ s'=>∃H',Inv X pins G H' s'/\Q H') X.xe s
section
variable {X:Cx}{pos:Pos}
abbrev rj(i:Nat):TG:=λv G H Q=>Q (G.set i (some v)) H
def b7(hN:X.N.Nodup)(hi:X.N[i]?=some x)(hx:Loc X.env.scope x)(hf:X.fn x=true\/X.env.scope.names.lookup x=some .local:=by first|exact .inl rfl|exact .inr rfl|assumption):PG X (.Name x pos) (rj i):=by intro pins s G H v u Q I r h;exact wpAny_assign_Name (JO I hN hi hx r (λs' I'=>⟨_,H,I',h⟩) hf)
abbrev D8:uX:=λvs G H Q=>vs=[]/\Q G H
abbrev yh(t:TG)(u:uX):uX:=λvs G H Q=>∃v r,vs=v :: r/\t v G H λG' H'=>u r G' H' Q
def qr:D6 X [] D8:=by intro pins s G H vs us Q I r h;obtain⟨e,h⟩:=h;subst e;cases r;exact assignInOrder_nil ⟨G,H,I,h⟩
def iF(h1:PG X e t)(h2:D6 X es u)
  (hs:(assignEach (e :: es) X.env).map (·.2)=assign e X.env :: (assignEach es X.env).map (·.2):=by rfl):D6 X (e :: es) (yh t u):=by
 intro pins s G H vs us Q I r h;obtain⟨v,vr,e1,h⟩:=h;subst e1;cases r with
 |cons r rr =>
  rw[hs];refine assignInOrder_cons (cf (h1 pins s G H _ _ _ I r h) λ_ s1 ⟨G1,H1,I1,q1⟩=>?_);exact h2 pins s1 G1 H1 _ _ Q I1 rr q1
abbrev zZ(K:Zfr)(n:Nat)(t:uX):TG:=λv G H Q=>∃a xs,v=.ref a/\fV K H a xs/\xs.length=n/\t xs G H Q
def qu{es:List Expr}{k:Nat}{t:uX}{n:Nat}(hc:X.calm=true)(h:D6 X es t)
  (hn:(assignEach es X.env).length=n:=by rfl) (hst:(assignEach es X.env).findIdx? (·.1)=none:=by rfl):PG X (.Tuple es k pos) (zZ X.K n t):=by
 intro pins s G H v u Q I r hw;obtain⟨a,xs,e1,hq,hl,hw⟩:=hw;subst e1;cases r;obtain⟨its,rv,ht,hz⟩:=I.tuple hq;refine assign_Tuple_tuple (I.ok.hd hc) ht (by simp[hn,<- hl,rv.length]) hst λh' hx=>?_;have I1:Inv X pins G H { s with heap:=h' }:=I.kept (t':=s.toks) λb o e=>hx b o (ZaS (ZaB e)) e;exact h pins _ G H xs _ Q I1 (by simpa using rv) hw
abbrev mD(to ti:TE)(t:zY):TG:=λv G H Q=>to G H λo H1=>ti G H1 λi H2=>t o i v H2 λH3=>Q G H3
def CQ(ho:PE X o to)(hi:PE X i ti)(hs:D7 X t)
  (ha:∀v,assign (.Subscript o i pos) X.env v=(do
   let ov <- holding [v] (eval o X.env)
   let iv <- holding [v,ov] (eval i X.env)
   standAt pos
   holding [v,ov,iv] (setItem ov iv v)
   release [v,ov,iv] []):=by intro _;rfl):PG X (.Subscript o i pos) (mD to ti t):=by
 intro pins s G H v u Q I r h;rw[ha];refine wpAny_bind (wpAny_holding (cf (ho pins s G H _ I h) λov s1 ⟨x,H1,I1,r1,q1⟩=>?_));refine wpAny_bind (wpAny_holding (cf (hi pins s1 G H1 _ I1 q1) λiv s2 ⟨y,H2,I2,r2,q2⟩=>?_));refine wpAny_bind (wpAny_standAt (wpAny_bind (wpAny_holding (cf (hs pins s2 G H2 x y v ov iv u _ I2 r1 r2 r q2) λ_ s3 ⟨H3,I3,q3⟩=>?_))));exact wpAny_release ⟨G,H3,I3,q3⟩
abbrev xh(te:TE)(g:TG):TS:=λD G H=>te G H λx H1=>g x G H1 D.nx
def wH(he:PE X e te)(hg:PG X tg g)(hs:swapsWithSole [tg] e pos.line X.env=pure false:=by rfl)(hw:swappedStores [tg] e X.env=pure none:=by rfl)
  (h1:(assignEach [tg] X.env).map (·.2)=[assign tg X.env]:=by rfl):PS X (.Assign [tg] e pos) (xh te g):=by
 intro pins s G H D I h;refine wpAny_Assign_stores (cf (he pins s G H _ I h) λv s1 ⟨x,H1,I1,r1,q1⟩=>?_) hs hw;rw[h1];exact cf (hg pins s1 G H1 x v _ I1 r1 q1) λ_ s2 q=>q
def Aa{i:Nat}{x:Str}{e:Expr}{te:TE}{pos':Pos}(hN:X.N.Nodup)(hi:X.N[i]?=some x)(hx:Loc X.env.scope x)(he:PE X e te)(hs:swapsWith e (some (.Name x pos')) pos.line X.env=pure false:=by rfl)(hf:X.fn x=true\/X.env.scope.names.lookup x=some .local:=by first | exact .inl rfl | exact .inr rfl | assumption):
  PS X (.Assign [.Name x pos'] e pos) (xh te (rj i)):=by
 intro pins s G H D I h;refine wpAny_Assign_Name (cf (he pins s G H _ I h) λv s1 ⟨y,H1,I1,r1,q1⟩=>?_) hs;exact JO I1 hN hi hx r1 (λs2 I2=>⟨_,H1,I2,q1⟩) hf
abbrev D9(i j:Nat)(ta:TA):TS:=λD G H=>ta G H λvs H1=>∃v w,vs=[v,w]/\D.nx ((G.set i (some v)).set j (some w)) H1
def Qd{kt k2 MD}(hc:X.calm=true)(hN:X.N.Nodup)(hi:X.N[i]?=some x)(hj:X.N[j]?=some y)(hij:i≠j)
  (hx:X.env.scope.names.lookup x=some .local) (hy:X.env.scope.names.lookup y=some .local) (ha:PA X [a,b] ta)
  (hw:swappedStores [.Tuple [.Name x px,.Name y py] kt pt] (.Tuple [a,b] k2 MD) X.env=pure (some [x,y]))
  (hs:swapsWithSole [.Tuple [.Name x px,.Name y py] kt pt] (.Tuple [a,b] k2 MD) pos.line X.env=pure false:=by rfl) :
  PS X (.Assign [.Tuple [.Name x px,.Name y py] kt pt] (.Tuple [a,b] k2 MD) pos) (D9 i j ta):=by
 intro pins s G H D I h;rw[exec_Assign_arm];refine wpAny_bind (wpAny_standAt ?_);rw[hs];refine wpAny_bind (wpAny_pure ?_);rw[if_neg ∅];refine wpAny_bind (Tuple_ (cf (ha _ pins s G H _ I h) λus s1 ⟨vs,H1,I1,r1,q1⟩=>?_));obtain⟨v,w,e1,q1⟩:=q1;subst e1;obtain⟨u1,u2,rfl,rv,rw'⟩:∃u1 u2,us=[u1,u2]/\RelV v u1/\RelV w u2:=by
  cases r1 with
  |cons p q =>
   cases q with
   |cons p' q' =>
    cases q';exact⟨_,_,rfl,p,p'⟩
 refine wpAny_newObj_type ?_ (by show 2<=sizeLine;decide);have I2:Inv X pins G H1 { s1 with heap:=s1.heap.push { cls:=.type "tuple",data:=.seq [u1,u2].toArray } }:=I1.kept (t':=s1.toks) λb o e=>Zau _ e;rw[hw];refine wpAny_bind (wpAny_pure ?_);show wpAny (model X.prog X.w) X.A (do rule "assign.swapped-stores";let items <- unpackItems (.ref s1.heap.objs.size) 2 none;assignInOrder [λv=>bindName X.env y v,λv=>bindName X.env x v] items.reverse;pure Flow.next) _ _ _;refine wpAny_bind (wpAny_rule (wpAny_bind (unpackItems_tuple (items:=#[u1,u2]) (I.ok.hd hc) (IsTup.new s1.heap _) λh' hx'=>?_)));have I3:=I2.kept (h':=h') (t':=s1.toks) λb o e=>hx' b o (ZaS (ZaB e)) e;show wpAny _ _ (assignInOrder [λv=>bindName X.env y v,λv=>bindName X.env x v] [u2,u1] >>= λ_=>pure Flow.next) _ _ _;refine wpAny_bind (assignInOrder_cons (wpAny_bindName (JO I3 hN hj (.inl hy) rw' (λs2 I4=>?_) (.inr hy))));refine assignInOrder_cons (wpAny_bindName (JO I4 hN hi (.inl hx) rv (λs3 I5=>assignInOrder_nil (wpAny_pure ?_)) (.inr hx)));rw[List.set_comm _ _ (Ne.symm hij)]at I5;exact⟨_,H1,I5,q1⟩
end
section
variable {X:Cx}{pos:Pos}
abbrev uY(c:TT)(tb:TS):TS:=λD G H=>∃W:Nat->St->Hp->Prop,(∃m,W m G H)/\∀m G H,W m G H ->
 c G H λb H1=>if b=true then∃N:St->Hp->Prop,(∀G' H',N G' H'->∃m',m' < m/\W m' G' H')/\tb { D with nx:=N,ct:=N,bk:=D.nx } G H1 else D.nx G H1
def yi(hp:PassesOwn (model X.prog X.w) X.A X.env X.xe)(hc:PT X c tc)(hb:sS X body tb):PS X (.While c body [] pos) (uY tc tb):=by
 intro pins s G H D I h;obtain⟨W,⟨m0,w0⟩,turn⟩:=h;refine wpAny_While (codeAny_whileLoop (λn s'=>∃G' H',Inv X pins G' H' s'/\W n G' H') ?_ m0 ⟨G,H,I,w0⟩);rintro n s1 ⟨G1,H1,I1,w1⟩;refine wpAny_passesOwn hp (cf (hc pins s1 G1 H1 _ I1 (turn n G1 H1 w1)) λb s2 ⟨H2,I2,q2⟩=>?_);cases b with
 |true =>
  obtain⟨N,hN,q2⟩:=q2;rw[if_pos rfl];refine wpAny_passesOwn hp (cf (hb pins s2 G1 H2 _ I2 q2) λf s3 q3=>?_);cases f with
  |next =>
   obtain⟨G3,H3,I3,n3⟩:=q3;obtain⟨m',hm,w3⟩:=hN G3 H3 n3;exact⟨m',hm,G3,H3,I3,w3⟩
  |cont =>
   obtain⟨G3,H3,I3,n3⟩:=q3;obtain⟨m',hm,w3⟩:=hN G3 H3 n3;exact⟨m',hm,G3,H3,I3,w3⟩
  |brk=>exact q3
  |ret v=>exact q3
 |false =>
  rw[if_neg Zam];exact wpAny_execs_nil ⟨G1,H2,I2,q2⟩
end
set_option genInjectivity false in
structure It where
 go:Nat->Hp->Prop
 xi:Nat->Hp->V->Hp->Prop
 stop:Nat->Hp->Prop
abbrev nX(X:Cx)(pins:List (Addr×Obj))(H:Hp)(b:Addr):Prop :=
 H b=none/\b≠X.env.locals/\b ∉ X.fs/\(b∈X.ex\/X.s₀.heap.objs.size<=b)/\(∀x c,X.env.cells.lookup x=some c->c≠b)/\∀p∈X.pn ++ pins,p.1≠b
def Inv.se{X:Cx}{pins:List (Addr×Obj)}{G:St}{H H':Hp}{s:Shared}{b:Addr}(I:Inv X pins G H s)(hb:s.heap.objs.size<=b)(hn:H' b=none):nX X pins H' b:=by refine⟨hn,Nat.ne_of_gt (ZaI I.lt hb),I.DS hb,.inr (Zaq I.sz hb),λx c e z=>?_,λp hp z=>?_⟩;obtain⟨v,q⟩:=I.cell x c e;exact absurd (ZaI q.lt (by rw[z];exact hb)) (ZbD _);exact absurd (ZaI (ZaB (I.pin p hp).1) (by rw[z];exact hb)) (ZbD _)
structure Turn(P:Program)(w:World)(K:Zfr)(tg:Expr)(J:It)(fp:List Addr)(it:Addr)(tn:Nat->Heap->Prop):Prop where
 mem:it∈fp
 obj:∀i h,tn i h->∀b∈fp,∃o,h.get? b=some o/\∀v,o.data≠.cell v
 keep:∀i h h',tn i h->(∀b∈fp,∀o,h.get? b=some o->h'.get? b=some o)->tn i h'
 item:∀(X:Cx),X.prog=P->X.w=w->X.K=K->X.calm=true->∀(i:Nat) (pins:List (Addr×Obj)) (s:Shared) (G:St) (H:Hp) (E:Value->Shared->Prop),Inv X pins G H s->(∀b∈fp,nX X pins H b)->tn i s.heap->J.go i H ->
  wpAny (model P w) X.A (pyNext (.ref it)) (λr s1=>∃u,r=some u /\
   wpAny (model P w) X.A (letOwnedTupleGo tg (.ref it) u) (λ_ s2=>∃x H',Inv X pins G H' s2/\RelV x u/\J.xi i H x H'/\tn (i+1) s2.heap/\∀b∈fp,H' b=none) E s1) E s
 done:∀(X:Cx),X.prog=P->X.w=w->X.K=K->X.calm=true->∀(i:Nat) (pins:List (Addr×Obj)) (s:Shared) (G:St) (H:Hp) (E:Value->Shared->Prop),Inv X pins G H s->(∀b∈fp,nX X pins H b)->tn i s.heap->J.stop i H ->
  wpAny (model P w) X.A (pyNext (.ref it)) (λr s1=>r=none/\Inv X pins G H s1) E s
 self:∀(A:Around) (i:Nat) (s:Shared) (Q:Value->Shared->Prop) (E:Value->Shared->Prop),tn i s.heap->Q (.ref it) s->wpAny (model P w) A (pyIter (.ref it)) Q E s
@[reducible]def TI:=St->Hp->(It->Hp->Prop)->Prop
abbrev ME(X:Cx)(pins:List (Addr×Obj))(G:St)(tg:Expr)(R:It->Hp->Prop)(itv:Value)(s2:Shared):Prop :=
 ∃(it:Addr) (fp:List Addr) (tn:Nat->Heap->Prop) (J:It) (H':Hp),itv=.ref it/\Inv X pins G H' s2/\Turn X.prog X.w X.K tg J fp it tn/\tn 0 s2.heap/\(∀b∈fp,nX X pins H' b)/\R J H'
abbrev PI(X:Cx)(tg iter:Expr)(wi:TI):Prop :=
 ∀(pins:List (Addr×Obj)) (s:Shared) (G:St) (H:Hp) (R:It->Hp->Prop),Inv X pins G H s->wi G H R ->
  wpAny (model X.prog X.w) X.A (eval iter X.env) (λv s1=>wpAny (model X.prog X.w) X.A (pyIter v) (ME X pins G tg R) X.xe s1) X.xe s
def JS(ho:s.heap.get? it=some o)(hc:o.cls=.type n)(hd:o.data=.fields vs)
  (hn:["enumerate","zip","dict_itemiterator","dict_reverseitemiterator","odict_iterator","itertools.zip_longest","itertools.pairwise"].contains n=false) (hQ:Q () s):wpAny M A (letOwnedTupleGo tg (.ref it) u) Q E s:=by
 unfold letOwnedTupleGo;cases tg<;>first
  |exact wpAny_pure hQ
  | (cases u <;> first
    |exact wpAny_pure hQ
    | (refine wpAny_bind (wpAny_load ho ?_)
       rw[hc,hd];show wpAny M A (if(["enumerate","zip","dict_itemiterator","dict_reverseitemiterator","odict_iterator","itertools.zip_longest","itertools.pairwise"].contains n && vs[0]? == some (rawInt _))=true then _ else _) Q E s;rw[if_neg (by intro h;rw[hn,Bool.false_and]at h;cases h)]
       exact wpAny_pure hQ))
abbrev Qe(K:Zfr)(a:Addr):It :=
 ⟨λi H=>∃xs x,jX K H a xs/\xs[i]?=some x,λi H x H'=>H'=H/\∀xs,jX K H a xs->xs[i]?=some x,λi H=>∃xs,jX K H a xs/\xs.length<=i⟩
abbrev Qf(K:Zfr)(a:Addr):It :=
 ⟨λi H=>∃xs x,fV K H a xs/\xs[i]?=some x,λi H x H'=>H'=H/\∀xs,fV K H a xs->xs[i]?=some x,λi H=>∃xs,fV K H a xs/\xs.length<=i⟩
abbrev Ea(lo:Int)(n:Nat):It:=⟨λi _=>i<n,λi H x H'=>H'=H/\x=.int (lo+i),λi _=>n<=i⟩
def Ww{P:Program}{w:World}{K:Zfr}{tg:Expr}(a it:Addr):Turn P w K tg (Qe K a) [it] it (λi h=>h.IsListIter it a i) where
 mem:=by simp
 obj:=λi h st b hb=>by
  have e:b=it:=by simpa using hb
  subst e;obtain⟨o,e,c,d⟩:=st;exact⟨o,e,λv z=>by rw[d]at z;cases z⟩
 keep:=λi h h' st k=>st.at λo e=>k it (by simp) o e
 item:=by
  intro X hP hw hK hc i pins s G H E I hf st hg;subst hP hw hK;obtain⟨xs,x,hq,hx⟩:=hg;obtain⟨its,rv,p,hz⟩:=I.list hq;obtain⟨u,hu,ru⟩:=rv.get hx;obtain⟨f0,f1,f2,f3,f4,f5⟩:=hf it (by simp);refine wpAny_pyNext_list_item st p.isList (x:=u) (by simpa using hu) λh' st' sb=>?_;have I1:Inv X pins G H { s with heap:=h' }:=I.turned (t':=s.toks) (λb o hb e=>(sb.2 b hb).trans e) f0 f1 f3 f4 f5;obtain⟨o,e,c,d⟩:=id st';exact⟨u,rfl,JS (s:={ s with heap:=h' }) e c d ∅ ⟨x,H,I1,ru,⟨rfl,λys hy=>by rw[I.rh hy hq];exact hx⟩,st',λb hb=>(hf b hb).1⟩⟩
 done:=by
  intro X hP hw hK hc i pins s G H E I hf st hg;subst hP hw hK;obtain⟨xs,hq,hx⟩:=hg;obtain⟨its,rv,p,hz⟩:=I.list hq;obtain⟨f0,f1,f2,f3,f4,f5⟩:=hf it (by simp);have hl:=rv.length;exact wpAny_pyNext_list_end (I.ok.hd hc) st p.isList (by simp;lk) λh' eb=>⟨rfl,I.turned (t':=s.toks) (λb o hb e=>eb b o hb e) f0 f1 f3 f4 f5⟩
 self:=λ_ _ _ _ _ st h=>wpAny_pyIter_listiter st h
def Wx{P:Program}{w:World}{K:Zfr}{tg:Expr}(a it:Addr):Turn P w K tg (Qf K a) [it] it (λi h=>h.IsTupleIter it a i) where
 mem:=by simp
 obj:=λi h st b hb=>by
  have e:b=it:=by simpa using hb
  subst e;obtain⟨o,e,c,d⟩:=st;exact⟨o,e,λv z=>by rw[d]at z;cases z⟩
 keep:=λi h h' st k=>st.at λo e=>k it (by simp) o e
 item:=by
  intro X hP hw hK hc i pins s G H E I hf st hg;subst hP hw hK;obtain⟨xs,x,hq,hx⟩:=hg;obtain⟨its,rv,p,hz⟩:=I.tuple hq;obtain⟨u,hu,ru⟩:=rv.get hx;obtain⟨f0,f1,f2,f3,f4,f5⟩:=hf it (by simp);refine wpAny_pyNext_tuple_item st (show s.heap.IsTuple a its.toArray from p) (x:=u) (by simpa using hu) λh' st' sb=>?_;have I1:Inv X pins G H { s with heap:=h' }:=I.turned (t':=s.toks) (λb o hb e=>(sb.2 b hb).trans e) f0 f1 f3 f4 f5;obtain⟨o,e,c,d⟩:=id st';exact⟨u,rfl,JS (s:={ s with heap:=h' }) e c d ∅ ⟨x,H,I1,ru,⟨rfl,λys hy=>by rw[I.jJ hy hq];exact hx⟩,st',λb hb=>(hf b hb).1⟩⟩
 done:=by
  intro X hP hw hK hc i pins s G H E I hf st hg;subst hP hw hK;obtain⟨xs,hq,hx⟩:=hg;obtain⟨its,rv,p,hz⟩:=I.tuple hq;obtain⟨f0,f1,f2,f3,f4,f5⟩:=hf it (by simp);have hl:=rv.length;exact wpAny_pyNext_tuple_end (I.ok.hd hc) st (show s.heap.IsTuple a its.toArray from p) (by simp;lk) λh' eb=>⟨rfl,I.turned (t':=s.toks) (λb o hb e=>eb b o hb e) f0 f1 f3 f4 f5⟩
 self:=λ_ _ _ _ _ st h=>wpAny_pyIter_tupleiter st h
def Wy{P:Program}{w:World}{K:Zfr}{tg:Expr}(it:Addr)(lo:Int)(n:Nat):Turn P w K tg (Ea lo n) [it] it (λi h=>IsRangeIter h it (lo+(i:Nat)*1) ((n:Int)-(i:Nat)) 1) where
 mem:=by simp
 obj:=λi h st b hb=>by
  have e:b=it:=by simpa using hb
  subst e
  exact⟨_,st,λv z=>by
   have z':Data.fields _=Data.cell v:=z
   cases z'⟩
 keep:=λi h h' st k=>k it (by simp) _ st
 item:=by
  intro X hP hw hK hc i pins s G H E I hf st hg;subst hP hw hK;obtain⟨f0,f1,f2,f3,f4,f5⟩:=hf it (by simp);have W:=Walks.range (prog:=X.prog) (w:=X.w) (I.ok.hd hc) it lo 1 n;refine W.item i s _ _ hg st λv h' tk hv st' kk=>?_;obtain⟨t,rfl⟩:=hv;have I1:Inv X pins G H { s with heap:=h',toks:=tk }:=I.turned (λb o hb e=>kk b o (by simpa using hb) e) f0 f1 f3 f4 f5;refine⟨_,rfl,JS (s:={ s with heap:=h',toks:=tk }) (n:="range_iterator") st' rfl rfl ∅ ⟨.int (lo+i),H,I1,⟨t,?_⟩,⟨rfl,rfl⟩,st',λb hb=>(hf b hb).1⟩⟩;rw[Int.mul_one]
 done:=by
  intro X hP hw hK hc i pins s G H E I hf st hg;subst hP hw hK;obtain⟨f0,f1,f2,f3,f4,f5⟩:=hf it (by simp);exact wpAny_pyNext_range_end (I.ok.hd hc) st (by have:n<=i:=hg;lk) λh' eb=>⟨rfl,I.turned (t':=s.toks) (λb o hb e=>eb b o hb e) f0 f1 f3 f4 f5⟩
 self:=λ_ _ _ _ _ st h=>wpAny_pyIter_rangeiter st h
section
variable {X:Cx}{tg:Expr}
abbrev uZ(K:Zfr)(tl:TE):TI:=λG H R=>tl G H λx H1=>∃a,x=.ref a/\(∃xs,jX K H1 a xs)/\R (Qe K a) H1
abbrev Eb(K:Zfr)(tl:TE):TI:=λG H R=>tl G H λx H1=>∃a,x=.ref a/\(∃xs,fV K H1 a xs)/\R (Qf K a) H1
def Ec(hl:PE X l tl):PI X tg l (uZ X.K tl):=by
 intro pins s G H R I h;refine cf (hl pins s G H _ I h) λv s1 ⟨x,H1,I1,r1,q1⟩=>?_;obtain⟨a,e,⟨xs,hq⟩,q⟩:=q1;subst e;cases r1;obtain⟨its,rv,p,hz⟩:=I1.list hq;refine wpAny_pyIter_list p.isList ?_;refine⟨s1.heap.objs.size,[s1.heap.objs.size],_,_,H1,rfl,I1.kept (t':=s1.toks) λb o e=>Zau _ e,Ww a _,⟨_,ZaA _ rfl,rfl,rfl⟩,λb hb=>?_,q⟩;have e:b=s1.heap.objs.size:=by simpa using hb
 subst e;exact I1.se (Zad _) (I1.hok.fresh (Zad _))
def oJ(hl:PE X l tl):PI X tg l (Eb X.K tl):=by
 intro pins s G H R I h;refine cf (hl pins s G H _ I h) λv s1 ⟨x,H1,I1,r1,q1⟩=>?_;obtain⟨a,e,⟨xs,hq⟩,q⟩:=q1;subst e;cases r1;obtain⟨its,rv,p,hz⟩:=I1.tuple hq;refine wpAny_pyIter_tuple (show s1.heap.IsTuple a its.toArray from p) ?_;refine⟨s1.heap.objs.size,[s1.heap.objs.size],_,_,H1,rfl,I1.kept (t':=s1.toks) λb o e=>Zau _ e,Wx a _,⟨_,ZaA _ rfl,rfl,rfl⟩,λb hb=>?_,q⟩;have e:b=s1.heap.objs.size:=by simpa using hb
 subst e;exact I1.se (Zad _) (I1.hok.fresh (Zad _))
def Qg{pins:List (Addr×Obj)}{G:St}{H:Hp}{s:Shared}{R:It->Hp->Prop}{E:Value->Shared->Prop}{lo hi:Int}{t u v:Tok}{tk:Nat}(I:Inv X pins G H s)(h1:-(2 ^ 62)<=lo)(h2:lo<2 ^ 62)(h3:-(2 ^ 62)<=hi)(h4:hi<2 ^ 62)
  (q:R (Ea lo (hi-lo).toNat) H):wpAny (model X.prog X.w) X.A (pyIter (.ref s.heap.objs.size)) (ME X pins G tg R) E { s with heap:=s.heap.push { cls:=.type "range",data:=.fields #[.int lo t,.int hi u,.int 1 v] },toks:=tk }:=by
 refine wpAny_pyIter_range (IsRange.new ..) (small_one h1 h2 h3 h4) ?_;have I1:Inv X pins G H { s with heap:=s.heap.push { cls:=.type "range",data:=.fields #[.int lo t,.int hi u,.int 1 v] },toks:=tk }:=I.kept λb o e=>Zau _ e
 refine⟨(s.heap.push { cls:=.type "range",data:=.fields #[.int lo t,.int hi u,.int 1 v] }).objs.size,[(s.heap.push { cls:=.type "range",data:=.fields #[.int lo t,.int hi u,.int 1 v] }).objs.size],_,_,H,rfl,
  I1.kept (t':=tk) λb o e=>Zau _ e,Wy _ lo (hi-lo).toNat,?_,λb hb=>?_,q⟩
 have e1:lo+((0:Nat):Int)*1=lo:=by simp
 have e2:(((hi-lo).toNat:Nat):Int)-((0:Nat):Int)=Builtin.Range.rangeSize lo hi 1:=by rw[rangeSize_one];split<;>lk
 show IsRangeIter _ _ (lo+((0:Nat):Int)*1) ((((hi-lo).toNat:Nat):Int)-((0:Nat):Int)) 1;rw[e1,e2];exact ZaA _ rfl;have e:b=(s.heap.push { cls:=.type "range",data:=.fields #[.int lo t,.int hi u,.int 1 v] }).objs.size:=by simpa using hb
 subst e;exact I1.se (Zad _) (I1.hok.fresh (Zad _))
abbrev yj(ta:TA):TI:=λG H R=>ta G H λvs H1=>∃j:Int,vs=[.int j]/\-(2 ^ 62)<=j/\j<2 ^ 62/\R (Ea 0 j.toNat) H1
abbrev ym(ta:TA):TI:=λG H R=>ta G H λvs H1=>∃i j:Int,vs=[.int i,.int j]/\(-(2 ^ 62)<=i/\i<2 ^ 62/\-(2 ^ 62)<=j/\j<2 ^ 62)/\R (Ea i (j-i).toNat) H1
def qV(hg:Gl X "range")(hm:X.mg "range" = none)(ha:PA X [a] ta)(hs:starEach [a] X.env=[(false,eval a X.env)]:=by rfl):PI X tg (.Call (.Name "range" p) [a] [] pos) (yj ta):=by
 intro pins s G H R I h;refine Call_ (zV I hg hm boot_range (PyProof.Rows.callWith_type1 (cf (ha pos pins s G H _ I h) λus s1 ⟨vs,H1,I1,r1,q1⟩=>?_) hs rfl));obtain⟨j,e,q1,q2,q⟩:=q1;subst e;cases r1 with
 |cons r rr =>
  cases rr;obtain⟨t,rfl⟩:=r;exact call_range_1 (Qg I1 ⋯ ⋯ q1 q2 (by simpa using q))
def Wz{a b:Expr}{ta:TA}{p pos:Pos}(hg:Gl X "range")(hm:X.mg "range" = none)(ha:PA X [a,b] ta)(hs:starEach [a,b] X.env=[(false,eval a X.env),(false,eval b X.env)]:=by rfl)(hs2:starEach [b] X.env=[(false,eval b X.env)]:=by rfl):
  PI X tg (.Call (.Name "range" p) [a,b] [] pos) (ym ta):=by
 intro pins s G H R I h;refine Call_ (zV I hg hm boot_range (PyProof.Rows.callWith_type1 (cf (ha pos pins s G H _ I h) λus s1 ⟨vs,H1,I1,r1,q1⟩=>?_) (by rw[hs,hs2]) (by rw[hs2];rfl)));obtain⟨i,j,e,⟨q1,q2,q3,q4⟩,q⟩:=q1;subst e;cases r1 with
 |cons r rr =>
  cases rr with
  |cons r' rr =>
   cases rr;obtain⟨t,rfl⟩:=r;obtain⟨t',rfl⟩:=r';exact call_range_2 (Qg I1 q1 q2 q3 q4 q)
abbrev Ed(wi:TI)(g:TG)(tb:TS):TS:=λD G H=>wi G H λJ H1=>∃W:Nat->Nat->St->Hp->Prop,(∃m,W 0 m G H1)/\∀i m G H,W i m G H ->
 (J.stop i H/\D.nx G H)\/(J.go i H/\∃N:St->Hp->Prop,(∀G' H',N G' H'->∃m',m' < m/\W (i+1) m' G' H')/\∀x H',J.xi i H x H'->g x G H' λG2 H2=>tb { D with nx:=N,ct:=N,bk:=D.nx } G2 H2)
abbrev pd(fp:List Addr)(h:Heap):List (Addr×Obj):=fp.filterMap λb=>(h.get? b).map λo=>(b,o)
def JT(hb:b∈fp)(e:h.get? b=some o):(b,o)∈pd fp h:=List.mem_filterMap.mpr ⟨b,hb,by rw[e];rfl⟩
def WA(hp:p∈pd fp h):p.1∈fp/\h.get? p.1=some p.2:=by
 obtain⟨b,hb,e⟩:=List.mem_filterMap.mp hp;cases q:h.get? b with
 |none=>rw[q]at e;cases e
 |some o =>
  rw[q]at e;have e':(b,o)=p:=Zao e;subst e';exact⟨hb,q⟩
def Inv.pinned{pins:List (Addr×Obj)}{G:St}{H:Hp}{s:Shared}{fp:List Addr}(I:Inv X pins G H s)(hf:∀b∈fp,nX X pins H b)(ho:∀b∈fp,∃o,s.heap.get? b=some o/\∀v,o.data≠.cell v):Inv X (pins ++ pd fp s.heap) G H s :=
 I.oQ λp hp=>(Zax.mp hp).elim (λz=>I.pin p (ZaJ _ z)) λz=>by
  obtain⟨hb,e⟩:=WA z;obtain⟨f0,f1,f2,_⟩:=hf p.1 hb;obtain⟨o,e',d⟩:=ho p.1 hb;rw[e]at e';cases e';exact⟨e,f0,f1,f2,d⟩
def Inv.ny{pins pl:List (Addr×Obj)}{G:St}{H:Hp}{s:Shared}(I:Inv X (pins ++ pl) G H s):Inv X pins G H s:=I.oQ λp hp=>I.pin p (ZaJ _ (Zbr _ hp))
def Ab{iter:Expr}{body:List Stmt}{wi:TI}{g:TG}{tb:TS}{pos:Pos}(hp:PassesOwn (model X.prog X.w) X.A X.env X.xe)(hc:X.calm=true)(hi:PI X tg iter wi)(hg:PG X tg g)(hb:sS X body tb)
  (hs:∀x,foldedSetIterable iter X.env x=pure x:=by intro _;rfl):PS X (.For tg iter body [] pos) (Ed wi g tb):=by
 intro pins s G H D I h;refine wpAny_For (cf (hi pins s G H _ I h) λv s1 h1=>cf h1 λitv s2 h2=>?_) hs;obtain⟨it,fp,tn,J,H2,e,I2,T,st2,f2,W,⟨m0,w0⟩,turn⟩:=h2;subst e;have stat:∀{H':Hp},(∀b∈fp,H' b=none)->∀b∈fp,nX X pins H' b:=λhn b hb=>⟨hn b hb,(f2 b hb).2⟩;refine codeAny_forLoop_any (λn s'=>∃i G' H',Inv X pins G' H' s'/\tn i s'.heap/\(∀b∈fp,H' b=none)/\W i n G' H') ?_ m0 ⟨0,G,H2,I2,st2,λb hb=>(f2 b hb).1,w0⟩;rintro n s3 ⟨i,G3,H3,I3,st3,Qh,w3⟩;rcases turn i n G3 H3 w3 with⟨stop,qn⟩|⟨go,N,hN,step⟩
 ·refine wpAny_passesOwn hp (cf (T.done X rfl rfl rfl hc i pins s3 G3 H3 X.xe I3 (stat Qh) st3 stop) λr s4 ⟨hr,I4⟩=>?_)
  subst hr;exact wpAny_execs_nil ⟨G3,H3,I4,qn⟩
 ·refine wpAny_passesOwn hp (cf (T.item X rfl rfl rfl hc i pins s3 G3 H3 X.xe I3 (stat Qh) st3 go) λr s4 ⟨u,hr,h4⟩=>?_)
  subst hr;refine wpAny_passesOwn hp (cf h4 λ_ s5 ⟨x,H5,I5,r5,y5,mH,JU⟩=>?_);have WB:=I5.pinned (stat JU) (T.obj _ _ mH);refine wpAny_passesOwn hp (cf (hg _ s5 G3 H5 x u _ WB r5 (step x H5 y5)) λ_ s6 ⟨G6,H6,I6,q6⟩=>?_);refine wpAny_passesOwn hp (cf (hb _ s6 G6 H6 _ I6 q6) λf s7 q7=>?_);have again:∀{G7:St} {H7:Hp},Inv X (pins ++ pd fp s5.heap) G7 H7 s7->N G7 H7->∃m,m<n/\∃i G' H',Inv X pins G' H' s7/\tn i s7.heap/\(∀b∈fp,H' b=none)/\W i m G' H':=λ{G7 H7} I7 n7=>by
   obtain⟨m',hm,w7⟩:=hN G7 H7 n7;refine⟨m',hm,i+1,G7,H7,I7.ny,T.keep _ _ _ mH λb hb o e=>(I7.pin (b,o) (ZaJ _ (ZaJ _ (JT hb e)))).1,λb hb=>?_,w7⟩;obtain⟨o,e,d⟩:=T.obj _ _ mH b hb;exact(I7.pin (b,o) (ZaJ _ (ZaJ _ (JT hb e)))).2.1
  cases f with
  |next=>obtain⟨G7,H7,I7,n7⟩:=q7;exact again I7 n7
  |cont=>obtain⟨G7,H7,I7,n7⟩:=q7;exact again I7 n7
  |brk=>obtain⟨G7,H7,I7,q7⟩:=q7;exact⟨G7,H7,I7.ny,q7⟩
  |ret v=>obtain⟨x7,G7,H7,I7,r7,q7⟩:=q7;exact⟨x7,G7,H7,I7.ny,r7,q7⟩
end
@[reducible]def R2:=V->V->Hp->VK->Prop
abbrev kY(X:Cx)(f:Value->Value->Sem Value)(r:R2):Prop :=
 ∀(pins:List (Addr×Obj)) (s:Shared) (G:St) (H:Hp) (x y:V) (v u:Value) (Q:VK),Inv X pins G H s->RelV x v->RelV y u->r x y H Q ->
  wpAny (model X.prog X.w) X.A (f v u) (EP X pins G Q) X.xe s
abbrev MF(X:Cx)(f:Value->Sem Value)(r:V->Hp->VK->Prop):Prop :=
 ∀(pins:List (Addr×Obj)) (s:Shared) (G:St) (H:Hp) (x:V) (v:Value) (Q:VK),Inv X pins G H s->RelV x v->r x H Q ->
  wpAny (model X.prog X.w) X.A (f v) (EP X pins G Q) X.xe s
abbrev eJ(X:Cx)(f:Value)(r:List V->Hp->VK->Prop):Prop :=
 ∀(pins:List (Addr×Obj)) (s:Shared) (G:St) (H:Hp) (xs:List V) (us:List Value) (Q:VK),Inv X pins G H s->Vals xs us->r xs H Q ->
  wpAny (model X.prog X.w) X.A (call f us) (EP X pins G Q) X.xe s
abbrev Ee(r:R2)(ta tb:TE):TE:=λG H Q=>ta G H λx H1=>tb G H1 λy H2=>r x y H2 Q
abbrev Qi(r:V->Hp->VK->Prop)(ta:TE):TE:=λG H Q=>ta G H λx H1=>r x H1 Q
abbrev rI(C:Int->Int->Prop)(g:Int->Int->V):R2:=λx y H Q=>∃i j,x=.int i/\y=.int j/\C i j/\Q (g i j) H
abbrev sf(g:Int->Int->V):R2:=λx y H Q=>∃i j,x=.int i/\y=.int j/\Q (g i j) H
abbrev rU(g:Int->V):V->Hp->VK->Prop:=λx H Q=>∃i,x=.int i/\Q (g i) H
section
variable {X:Cx}{a b c:Expr}{ta tb tc:TE}{pos:Pos}
def Ac(ha:PE X a ta)(hb:PE X b tb){pins:List (Addr×Obj)}{s:Shared}{G:St}{H:Hp}{R:V->V->Hp->Prop}(I:Inv X pins G H s)
  (h:ta G H λx H1=>tb G H1 λy H2=>R x y H2) {Q:Value->Shared->Prop} {f:Value->Value->Sem Value}
  (hf:∀v u s2 x y H2,Inv X pins G H2 s2->RelV x v->RelV y u->R x y H2->wpAny (model X.prog X.w) X.A (f v u) Q X.xe s2) :
  wpAny (model X.prog X.w) X.A (eval a X.env) (λv s₁=>wpAny (model X.prog X.w) X.A (eval b X.env) (λu s₂=>wpAny (model X.prog X.w) X.A (f v u) Q X.xe s₂) X.xe s₁) X.xe s:=by
 refine cf (ha pins s G H _ I h) λv s1 ⟨x,H1,I1,r1,q1⟩=>?_;refine cf (hb pins s1 G H1 _ I1 q1) λu s2 ⟨y,H2,I2,r2,q2⟩=>?_;exact hf v u s2 x y H2 I2 r1 r2 q2
def bp(ho:kY X (binaryOp op) r)(ha:PE X a ta)(hb:PE X b tb):PE X (.BinOp a op b pos) (Ee r ta tb):=by intro pins s G H Q I h;exact wpAny_BinOp (Ac ha hb I h λv u s2 x y H2 I2 rx ry q=>ho pins s2 G H2 x y v u Q I2 rx ry q)
def sU(ho:MF X (unaryOp op) r)(ha:PE X a ta):PE X (.UnaryOp op a pos) (Qi r ta):=by intro pins s G H Q I h;exact UnaryOp_ (cf (ha pins s G H _ I h) λv s1 ⟨x,H1,I1,r1,q1⟩=>ho pins s1 G H1 x v Q I1 r1 q1)
def CT{f:Value->Value->Sem Value}{C:Int->Int->Prop}{g:Int->Int->Int}
  (rule:∀(i j:Int) (t u:Tok) (s:Shared) (Q:Value->Shared->Prop) (E:Value->Shared->Prop),C i j->Q (.int (g i j) s.toks) { s with toks:=s.toks+1 }->wpAny (model X.prog X.w) X.A (f (.int i t) (.int j u)) Q E s) :
  kY X f (rI C λi j=>.int (g i j)):=by
 intro pins s G H x y v u Q I rx ry h;obtain⟨i,j,rfl,rfl,hc,q⟩:=h;obtain⟨t,rfl⟩:=rx;obtain⟨t',rfl⟩:=ry;exact rule i j t t' s _ _ hc ⟨.int (g i j),H,I.tok _,⟨_,rfl⟩,q⟩
def Ef{f:Value->Value->Sem Value}{g:Int->Int->Int}
  (rule:∀(i j:Int) (t u:Tok) (s:Shared) (Q:Value->Shared->Prop) (E:Value->Shared->Prop),Q (.int (g i j) s.toks) { s with toks:=s.toks+1 }->wpAny (model X.prog X.w) X.A (f (.int i t) (.int j u)) Q E s) :
  kY X f (sf λi j=>.int (g i j)):=by
 intro pins s G H x y v u Q I rx ry h;obtain⟨i,j,rfl,rfl,q⟩:=h;obtain⟨t,rfl⟩:=rx;obtain⟨t',rfl⟩:=ry;exact rule i j t t' s _ _ ⟨.int (g i j),H,I.tok _,⟨_,rfl⟩,q⟩
def xj{f:Value->Value->Sem Value}{g:Int->Int->Bool}
  (rule:∀(i j:Int) (t u:Tok) (s:Shared) (Q:Value->Shared->Prop) (E:Value->Shared->Prop),Q (.bool (g i j)) s->wpAny (model X.prog X.w) X.A (f (.int i t) (.int j u)) Q E s) :
  kY X f (sf λi j=>.bl (g i j)):=by
 intro pins s G H x y v u Q I rx ry h;obtain⟨i,j,rfl,rfl,q⟩:=h;obtain⟨t,rfl⟩:=rx;obtain⟨t',rfl⟩:=ry;exact rule i j t t' s _ _ ⟨.bl (g i j),H,I,rfl,q⟩
abbrev Eg(i j:Int):Prop:=0<j/\j<1073741824
abbrev Eh(i j:Int):Prop:=0<=j/\j<=1000000/\i.natAbs<2 ^ 64
abbrev u3(i j:Int):Prop:=(-(2 ^ 64)<i/\i<2 ^ 64)\/(-(2 ^ 64)<j/\j<2 ^ 64)
def u3.ok(h:u3 i j):IntMulOk i j:=by
 rcases h with⟨h1,h2⟩|⟨h1,h2⟩
 exact .of_left (intBits_le_64 h1 h2);exact .of_right (intBits_le_64 h1 h2)
def mE:kY X (binaryOp .Add) (sf λi j=>.int (i+j)):=Ef λ_ _ _ _ _ _ _ q=>add_int q
def u5:kY X (binaryOp .Sub) (sf λi j=>.int (i-j)):=Ef λ_ _ _ _ _ _ _ q=>sub_int q
def u6:kY X (binaryOp .Mult) (rI u3 λi j=>.int (i*j)):=CT λ_ _ _ _ _ _ _ hc q=>mul_int q hc.ok
def MG:kY X (binaryOp .FloorDiv) (rI Eg λi j=>.int (i / j)):=CT λi j _ _ _ _ _ hc q=>by
 have h1:(0:Int)<j:=hc.1;have h2:j<1073741824:=hc.2;exact floordiv_int ⋯ (by rw[Int.fdiv_eq_ediv_of_nonneg i ⋯];exact q) (.inl (PyProof.noPylong_small ⋯))
def ui:kY X (binaryOp .Mod) (rI (λ_ j=>0<j) λi j=>.int (i % j)):=CT λi j _ _ _ _ _ hc q=>by
 have h1:(0:Int)<j:=hc;exact mod_int' ⋯ (by rw[Int.fmod_eq_emod_of_nonneg i ⋯];exact q)
def Qj:kY X (binaryOp .Pow) (rI Eh λi j=>.int (i ^ j.toNat)):=CT λ_ _ _ _ _ _ _ hc q=>pow_int_small hc.1 hc.2.1 hc.2.2 q
def WC{f:Value->Sem Value}{g:Int->Int}
  (rule:∀(i:Int) (t:Tok) (s:Shared) (Q:Value->Shared->Prop) (E:Value->Shared->Prop),Q (.int (g i) s.toks) { s with toks:=s.toks+1 }->wpAny (model X.prog X.w) X.A (f (.int i t)) Q E s) :
  MF X f (rU λi=>.int (g i)):=by
 intro pins s G H x v Q I rx h;obtain⟨i,rfl,q⟩:=h;obtain⟨t,rfl⟩:=rx;exact rule i t s _ _ ⟨.int (g i),H,I.tok _,⟨_,rfl⟩,q⟩
def sW:MF X (unaryOp .USub) (rU λi=>.int (-i)):=WC λ_ _ _ _ _ q=>neg_int q
end
abbrev si:V->V->Bool
 |.non,.non=>true|.non,.int _=>true|.int _,.non=>true|.non,.bl _=>true|.bl _,.non=>true|.non,.str _=>true|.str _,.non=>true
 |.int _,.int _=>true|.bl _,.bl _=>true|.str _,.str _=>true|.uS _,.uS _=>true
 |.int _,.str _=>true|.str _,.int _=>true|.bl _,.str _=>true|.str _,.bl _=>true
 |_,_=>false
abbrev Qk:R2:=λx y H Q=>si x y=true/\Q (.bl (decide (x=y))) H
abbrev Ql:R2:=λx y H Q=>si x y=true/\Q (.bl (!decide (x=y))) H
def Qm:decide (V.int i=V.int j)=(i == j):=by rw[ZbU];simp
def Qn:decide (V.bl i=V.bl j)=(i == j):=by rw[ZbU];simp
def Qo:decide (V.str i=V.str j)=(i == j):=by rw[ZbU];simp
def Qp:decide (V.uS i=V.uS j)=(i.toList == j.toList):=by rw[ZbU];cases i;cases j;simp
section
variable {X:Cx}{a b c:Expr}{ta tb tc:TE}{pos:Pos}
def mI{pins:List (Addr×Obj)}{G:St}{H:Hp}{s:Shared}{Q:VK}{k k':Bool}(I:Inv X pins G H s)(q:Q (.bl k) H)(e:k=k'):EP X pins G Q (.bool k') s:=by subst e;exact⟨.bl k,H,I,rfl,q⟩
def nz:kY X (compareOp .Eq) Qk:=by
 intro pins s G H x y v u Q I rx ry h;obtain⟨hs,q⟩:=h;cases x with
 |non =>
  cases rx;cases y with
  |non=>cases ry;exact PySem.EqNone.eq_none_none (mI I q (by simp))
  |bl j=>cases ry;exact PySem.EqNone.eq_none_bool (mI I q (by simp))
  |int j=>obtain⟨t',rfl⟩:=ry;exact PySem.EqNone.eq_none_int (mI I q (by simp))
  |str j=>obtain⟨t',rfl⟩:=ry;exact PySem.EqNone.eq_none_str (mI I q (by simp))
  |_=>exact absurd (show false=true from hs) Zam
 |bl i =>
  cases rx;cases y with
  |non=>cases ry;exact PySem.EqNone.eq_bool_none (mI I q (by simp))
  |bl j=>cases ry;exact eq_bool (mI I q Qn)
  |str j=>obtain⟨t',rfl⟩:=ry;exact PySem.EqMixed.eq_bool_str (mI I q (by simp))
  |_=>exact absurd (show false=true from hs) Zam
 |int i =>
  obtain⟨t,rfl⟩:=rx;cases y with
  |non=>cases ry;exact PySem.EqNone.eq_int_none (mI I q (by simp))
  |int j=>obtain⟨t',rfl⟩:=ry;exact eq_int (mI I q Qm)
  |str j=>obtain⟨t',rfl⟩:=ry;exact PySem.EqMixed.eq_int_str (mI I q (by simp))
  |_=>exact absurd (show false=true from hs) Zam
 |str i =>
  obtain⟨t,rfl⟩:=rx;cases y with
  |non=>cases ry;exact PySem.EqNone.eq_str_none (mI I q (by simp))
  |bl j=>cases ry;exact PySem.EqMixed.eq_str_bool (mI I q (by simp))
  |int j=>obtain⟨t',rfl⟩:=ry;exact PySem.EqMixed.eq_str_int (mI I q (by simp))
  |str j=>obtain⟨t',rfl⟩:=ry;exact eq_str (mI I q Qo)
  |_=>exact absurd (show false=true from hs) Zam
 |uS i =>
  obtain⟨t,rfl⟩:=rx;cases y with
  |uS j=>obtain⟨t',rfl⟩:=ry;exact PySem.W.eq_bytes (mI I q Qp)
  |_=>exact absurd (show false=true from hs) Zam
 |_=>cases y<;>exact absurd (show false=true from hs) Zam
def Ei:kY X (compareOp .NotEq) Ql:=by
 intro pins s G H x y v u Q I rx ry h;obtain⟨hs,q⟩:=h;cases x with
 |non =>
  cases rx;cases y with
  |non=>cases ry;exact PySem.EqNone.ne_none_none (mI I q (by simp))
  |bl j=>cases ry;exact PySem.EqNone.ne_none_bool (mI I q (by simp))
  |int j=>obtain⟨t',rfl⟩:=ry;exact PySem.EqNone.ne_none_int (mI I q (by simp))
  |str j=>obtain⟨t',rfl⟩:=ry;exact PySem.EqNone.ne_none_str (mI I q (by simp))
  |_=>exact absurd (show false=true from hs) Zam
 |bl i =>
  cases rx;cases y with
  |non=>cases ry;exact PySem.EqNone.ne_bool_none (mI I q (by simp))
  |bl j=>cases ry;exact ne_bool (mI I q (congrArg not Qn))
  |str j=>obtain⟨t',rfl⟩:=ry;exact PySem.EqMixed.ne_bool_str (mI I q (by simp))
  |_=>exact absurd (show false=true from hs) Zam
 |int i =>
  obtain⟨t,rfl⟩:=rx;cases y with
  |non=>cases ry;exact PySem.EqNone.ne_int_none (mI I q (by simp))
  |int j=>obtain⟨t',rfl⟩:=ry;exact ne_int (mI I q (congrArg not Qm))
  |str j=>obtain⟨t',rfl⟩:=ry;exact PySem.EqMixed.ne_int_str (mI I q (by simp))
  |_=>exact absurd (show false=true from hs) Zam
 |str i =>
  obtain⟨t,rfl⟩:=rx;cases y with
  |non=>cases ry;exact PySem.EqNone.ne_str_none (mI I q (by simp))
  |bl j=>cases ry;exact PySem.EqMixed.ne_str_bool (mI I q (by simp))
  |int j=>obtain⟨t',rfl⟩:=ry;exact PySem.EqMixed.ne_str_int (mI I q (by simp))
  |str j=>obtain⟨t',rfl⟩:=ry;exact ne_str (mI I q (congrArg not Qo))
  |_=>exact absurd (show false=true from hs) Zam
 |uS i =>
  obtain⟨t,rfl⟩:=rx;cases y with
  |uS j=>obtain⟨t',rfl⟩:=ry;exact PySem.W.ne_bytes (mI I q (congrArg not Qp))
  |_=>exact absurd (show false=true from hs) Zam
 |_=>cases y<;>exact absurd (show false=true from hs) Zam
def Ad:kY X (compareOp .Lt) (sf λi j=>.bl (decide (i<j))):=xj λ_ _ _ _ _ _ _ q=>lt_int q
def yo:kY X (compareOp .LtE) (sf λi j=>.bl (decide (i<=j))):=xj λ_ _ _ _ _ _ _ q=>le_int q
def CU:kY X (compareOp .Gt) (sf λi j=>.bl (decide (j<i))):=xj λ_ _ _ _ _ _ _ q=>gt_int q
def Ej:kY X (compareOp .GtE) (sf λi j=>.bl (decide (j<=i))):=xj λ_ _ _ _ _ _ _ q=>ge_int q
def Ae:kY X (compareOp .Is) (λx y H Q=>y=.non/\Q (.bl (decide (x=.non))) H):=by
 intro pins s G H x y v u Q I rx ry h;obtain⟨rfl,q⟩:=h;cases ry;refine is_none_gen (mI I q ?_);cases x<;>first
  |(cases rx;rfl)
  |(obtain⟨t,rfl⟩:=rx;rfl)
def WD:kY X (compareOp .IsNot) (λx y H Q=>y=.non/\Q (.bl (!decide (x=.non))) H):=by
 intro pins s G H x y v u Q I rx ry h;obtain⟨rfl,q⟩:=h;cases ry;refine isnot_none_gen (mI I q ?_);cases x<;>first
  |(cases rx;rfl)
  |(obtain⟨t,rfl⟩:=rx;rfl)
def aI(b:Expr)(h:op≠.In:=by decide)(h2:op≠.NotIn:=by decide):behindInMarks op b=false:=by
 have e1:(op == CmpOp.In)=false:=by cases op<;>first|rfl|exact absurd rfl h
 have e2:(op == CmpOp.NotIn)=false:=by cases op<;>first|rfl|exact absurd rfl h2
 cases b<;>simp[behindInMarks,e1,e2]
def xk(ho:kY X (compareOp op) r)(ha:PE X a ta)(hb:PE X b tb)(hm:behindInMarks op b=false):PE X (.Compare a [op] [b] pos) (Ee r ta tb):=by intro pins s G H Q I h;exact wpAny_Compare1 (Ac ha hb I h λv u s2 x y H2 I2 rx ry q=>ho pins s2 G H2 x y v u Q I2 rx ry q) hm
abbrev yp(t:TE):TT:=λG H Q=>t G H λx H'=>∃k,x=.bl k/\Q k H'
def dM(ho:kY X (compareOp op) r)(ha:PE X a ta)(hb:PE X b tb)(hm:behindInMarks op b=false):PT X (.Compare a [op] [b] pos) (yp (Ee r ta tb)):=by
 intro pins s G H Q I h
 refine wpAny_isTrue_Compare1 (cf (ha pins s G H _ I h) λv s1 ⟨x,H1,I1,r1,q1⟩=>cf (hb pins s1 G H1 _ I1 q1) λu s2 ⟨y,H2,I2,r2,q2⟩ =>
  cf (ho pins s2 G H2 x y v u _ I2 r1 r2 q2) λc s3 ⟨z,H3,I3,r3,k,e,q3⟩=>?_) hm
 subst e;cases r3;exact wpAny_truthy_bool ⟨H3,I3,q3⟩
def nY:(sizeLine:Nat)<2 ^ 63:=by rw[sizeLine_eq];decide
def vals1(r:Vals [x] us):∃u,us=[u]/\RelV x u:=by
 cases r with
 |cons r1 r2=>cases r2;exact⟨_,rfl,r1⟩
def vals2(r:Vals [x,y] us):∃u w',us=[u,w']/\RelV x u/\RelV y w':=by
 cases r with
 |cons r1 r2 =>
  cases r2 with
  |cons r3 r4=>cases r4;exact⟨_,_,rfl,r1,r3⟩
def Qq:eJ X (.builtin "abs") (λxs H Q=>∃i,xs=[.int i]/\Q (.int (if i<0 then -i else i)) H):=by intro pins s G H xs us Q I r h;obtain⟨i,rfl,q⟩:=h;obtain⟨u,rfl,t,rfl⟩:=vals1 r;exact call_abs_int λu tk=>⟨.int (if i<0 then -i else i),H,I.tok _,⟨_,rfl⟩,q⟩
def Qr(hc:X.calm=true):eJ X (.builtin "max") (λxs H Q=>∃i j,xs=[.int i,.int j]/\Q (.int (if j > i then j else i)) H):=by intro pins s G H xs us Q I r h;obtain⟨i,j,rfl,q⟩:=h;obtain⟨u,w',rfl,⟨t,rfl⟩,⟨t',rfl⟩⟩:=vals2 r;refine max_two_ints (I.ok.hd hc) λh' tk k=>⟨_,H,I.kept k,?_,q⟩;by_cases hj:j > i;rw[if_pos hj,if_pos hj];exact⟨_,rfl⟩;rw[if_neg hj,if_neg hj];exact⟨_,rfl⟩
def WE(hc:X.calm=true):eJ X (.builtin "min") (λxs H Q=>∃i j,xs=[.int i,.int j]/\Q (.int (if j<i then j else i)) H):=by intro pins s G H xs us Q I r h;obtain⟨i,j,rfl,q⟩:=h;obtain⟨u,w',rfl,⟨t,rfl⟩,⟨t',rfl⟩⟩:=vals2 r;refine min_two_ints (I.ok.hd hc) λh' tk k=>⟨_,H,I.kept k,?_,q⟩;by_cases hj:j<i;rw[if_pos hj,if_pos hj];exact⟨_,rfl⟩;rw[if_neg hj,if_neg hj];exact⟨_,rfl⟩
def Ek:eJ X (.type "int") (λxs H Q=>(∃i,xs=[.int i]/\Q (.int i) H)\/∃k,xs=[.bl k]/\Q (.int (if k then 1 else 0)) H):=by
 intro pins s G H xs us Q I r h;rcases h with⟨i,rfl,q⟩|⟨k,rfl,q⟩
 obtain⟨u,rfl,t,rfl⟩:=vals1 r;exact call_int_int ⟨.int i,H,I,⟨_,rfl⟩,q⟩;obtain⟨u,rfl,r1⟩:=vals1 r;cases r1;exact call_int_bool ⟨.int (if k then 1 else 0),H,I.tok _,⟨_,rfl⟩,q⟩
end
def pT.some_of(r:pT (some v) o):∃u,o=some u/\RelV v u:=by
 cases o with
 |none=>exact(show False from r).elim
 |some u=>exact⟨u,rfl,r⟩
structure WG(K:Zfr)(C:Addr):Prop where
 pg:PySem.W.plainGet K C Str.empty=true
 hd:PySem.W.hasDictIn K C=true
 po:PySem.W.plainOver K C=true
 sa:PySem.W.findIn K (.ref C) "__setattr__" = some (some (.builtin "object.__setattr__"))
structure qv(K:Zfr)(C:Addr)(f:Str)(v:V)(u:Value):Prop where
 at_:PySem.W.findIn K (.ref C) f=some (some u)
 rel:RelV v u
 get:PySem.W.specialIn K u "__get__" = some none
 cp:PySem.W.copiedNames.contains f=false
section
variable {X:Cx}{pins:List (Addr×Obj)}{G:St}{H:Hp}{s:Shared}{A:Around}{E:Value->Shared->Prop}{Q:Value->Shared->Prop}{c:Value}{b:Bool}
inductive oK(K:Zfr)(H:Hp):V->Value->Prop where
 |non:oK K H .non (.type "NoneType")
 |bl (x:Bool):oK K H (.bl x) (.type "bool")
 |int (i:Int):oK K H (.int i) (.type "int")
 |str (x:Str):oK K H (.str x) (.type "str")
 |CK (x:UInt64):oK K H (.CK x) (.type "float")
 |lst {a:Addr} {xs:List V} (e:H a=some (.lst xs)):oK K H (.ref a) (.type "list")
 |o6 {a:Addr} {o:Obj} {xs:List V} (e:H a=some (.o6 o (.lst xs))):oK K H (.ref a) (.type "list")
 |tup {a:Addr} {xs:List V} (e:H a=some (.tup xs)):oK K H (.ref a) (.type "tuple")
 |dK {a:Addr} {kvs:List (Key×V)} (e:H a=some (.dK kvs)):oK K H (.ref a) (.type "dict")
 |dT {a:Addr} {kvs:List (List Key×V)} (e:H a=some (.dT kvs)):oK K H (.ref a) (.type "dict")
 | ins {a C dx:Addr} {fs:List (Str×V)} (e:H a=some (.ins C dx fs)) (cl:WG K C) (ha:PySem.W.findIn K (.ref C) "__class__" = some (some (.builtin "object.__class__")))
   (hn:PySem.W.specialIn K (.builtin "object.__class__") "__get__" = some (some (.builtin "getset_descriptor.__get__"))) (htk:PySem.W.takesIn K (.builtin "object.__class__")=some true)
   (hm:PySem.W.mroIn K C (.type "object")=some true):oK K H (.ref a) (.ref C)
end
structure iJ(k:Nat)(A:Around):Prop where
 hd:A.handled=none
 dp:A.depth+3*k+5<recursionLimit
 un:A.units+16*k+200<cLine
 gd:A.guards=some []
def iJ.mono(r:iJ k A)(h:j<=k):iJ j A:=⟨r.hd,by have:=r.dp;lk,by have:=r.un;lk,r.gd⟩
def iJ.deeper(r:iJ (k+1) A)(env:Env):iJ k (A.deeper env) :=
 ⟨r.hd,by have:=r.dp;show A.depth+1+3*k+5<_;lk,by have:=r.un;show A.units+3+16*k+200<_;lk,r.gd⟩
def iJ.depth(r:iJ k A):A.depth<recursionLimit:=by have:=r.dp;lk
def iJ.units(r:iJ k A):A.units+64<cLine:=by have:=r.un;lk
abbrev El:TA:=λ_ H Q=>Q [] H
abbrev yq(ta:TE)(tr:TA):TA:=λG H Q=>ta G H λx H1=>tr G H1 λxs H2=>Q (x :: xs) H2
section
variable {X:Cx}{e:Expr}{es:List Expr}{te:TE}{t:TA}{pos:Pos}
def aq:PA X [] El:=λ_ _ _ _ H Q I h=>Calls.spliced_nil ⟨[],H,I,.nil,h⟩
def WH(ha:PE X e te)(hr:PA X es t)(hs:starEach (e :: es) X.env=(false,eval e X.env) :: starEach es X.env:=by rfl):PA X (e :: es) (yq te t):=by intro pos pins s G H Q I h;rw[hs];show wpAny _ _ (spliced ((false,eval e X.env) :: backTo pos (starEach es X.env))) _ _ s;refine Calls.spliced_cons (cf (ha pins s G H _ I h) λu s1 ⟨x,H1,I1,r1,q1⟩=>?_);exact cf (hr pos pins s1 G H1 _ I1 q1) λus s2 ⟨xs,H2,I2,r2,q2⟩=>⟨x :: xs,H2,I2,.cons r1 r2,q2⟩
abbrev u7(t:TA):TE:=λG H Q=>t G H λxs H1=>xs.length<=sizeLine/\∀p,H1 p=none->Q (.ref p) (upd H1 p (.tup xs))
abbrev Em(t:TA):TE:=λG H Q=>t G H λxs H1=>xs.length<=sizeLine/\∀p,H1 p=none->Q (.ref p) (upd H1 p (.lst xs))
def cJ{x1}(h:PA X es t):PE X (.Tuple es x1 pos) (u7 t):=by intro pins s G H Q I hq;refine wpAny_Tuple_spliced (cf (h pos pins s G H _ I hq) λus s1 ⟨xs,H1,I1,r,z,q⟩=>⟨by rw[<- r.length];exact z,?_⟩);have hf:H1 s1.heap.objs.size=none:=I1.hok.fresh (Zad _);refine⟨.ref s1.heap.objs.size,upd H1 s1.heap.objs.size (.tup xs),I1.laid (t':=s1.toks) (λb u e=>Zau _ e) (Zad _) ?_,rfl,q _ hf⟩;exact⟨z,us,r,⟨_,ZaA _ rfl,rfl,rfl,_,rfl⟩⟩
def jG(h:PA X es t):PE X (.List es pos) (Em t):=by intro pins s G H Q I hq;refine wpAny_List_spliced (cf (h pos pins s G H _ I hq) λus s1 ⟨xs,H1,I1,r,z,q⟩=>⟨by rw[<- r.length];exact z,?_⟩);have hf:H1 s1.heap.objs.size=none:=I1.hok.fresh (Zad _);refine⟨.ref s1.heap.objs.size,upd H1 s1.heap.objs.size (.lst xs),I1.laid (t':=s1.toks) (λb u e=>Zau _ e) (Zad _) ?_,rfl,q _ hf⟩;exact⟨z,us,0,r,ZaA _ rfl⟩
end
@[reducible]def Sp:=List V->Hp->VK->XK->Prop
@[reducible]def sX:=List Env->Hp->Shared->XK->Value->Shared->Prop
structure xl(P:Program)(w:World)(K:Zfr)(mg:Str->Option Value)(base:Heap)(A:Around)(outer:List Env)(s:Shared)(H:Hp):Prop where
 frames:A.frames=some outer
 mod:Mod K mg base
 bs:∀b o,base.get? b=some o->s.heap.get? b=some o/\H b=none
 yc:base.objs.size<=s.heap.objs.size
 o7:s.heap.FunFrames base outer
 CN:∀b∈frs outer,H b=none
 hok:nu P w H s.heap
 bare:AllBare s.gens
abbrev CE(outer:List Env)(P:Program)(w:World)(H:Hp)(s:Shared)(Q:VK)(u:Value)(s':Shared):Prop :=
 ∃v H',s'.os=s.os/\AllBare s'.gens/\Un (frs outer) [] H H' s.heap s'.heap/\nu P w H' s'.heap/\RelV v u/\Q v H'
abbrev CR(CX:sX)(outer:List Env)(P:Program)(w:World)(H:Hp)(s:Shared)(Q:VK)(E:XK)(r:Result)(s':Shared):Prop :=
 match r with
 |.ok (.ret u)=>CE outer P w H s Q u s'
 |.ok _=>False
 |.error e=>CX outer H s E e s'
structure aD(P:Program)(w:World)(K:Zfr)(mg:Str->Option Value)(base:Heap)(CX:sX)(k:Nat)(f:Addr)(fd:FuncData)(ps:List Str)(sp:Sp):Prop where
 len:∀vs H Q E,sp vs H Q E->vs.length=ps.length
 run:∀(A:Around) (outer:List Env) (s:Shared) (H:Hp) (args:Args) (us:List Value) (vs:List V) (Q:VK) (E:XK),iJ k A->xl P w K mg base A outer s H->BindsTo s fd args (ps.zip us)->Vals vs us->sp vs H Q E ->
  codeAny (model P w) A (.call (.ref f) args) (CR CX outer P w H s Q E) s
def aD.imp{P:Program}{w:World}{K:Zfr}{mg:Str->Option Value}{base:Heap}{CX:sX}{k:Nat}{f:Addr}{fd:FuncData}{ps:List Str}{sp Qs:Sp}(F:aD P w K mg base CX k f fd ps sp)
  (h:∀vs H Q E,Qs vs H Q E->sp vs H Q E):aD P w K mg base CX k f fd ps Qs :=
 ⟨λvs H Q E q=>F.len vs H Q E (h _ _ _ _ q),λA outer s H args us vs Q E hr he hb hv hs=>F.run A outer s H args us vs Q E hr he hb hv (h _ _ _ _ hs)⟩
section
variable {X:Cx}{pins:List (Addr×Obj)}{G:St}{H:Hp}{s s':Shared}
def Inv.MH(I:Inv X pins G H s):xl X.prog X.w X.K X.mg X.base X.A X.stack s H :=
 ⟨I.ok.frames,I.ok.mod,I.bs,Zaq I.ok.yc I.sz,I.stack,I.sR,I.hok,I.bare⟩
def Inv.after(I:Inv X pins G H s)(h:CE X.stack X.prog X.w H s Q u s'):EP X pins G Q u s':=by obtain⟨v,H',os,bare,un,hok,r,q⟩:=h;obtain⟨hh,g,d,t,os'⟩:=s';obtain rfl:os'=s.os:=os;exact⟨v,H',I.call (h':=hh) (g':=g) (d':=d) (t':=t) (ch:=[]) un hok bare (λb z=>absurd z (by simp)),r,q⟩
end
abbrev rm(sp:Sp)(qb:List V)(E:XK)(t:TA):TE:=λG H Q=>t G H λvs H1=>sp (vs ++ qb) H1 Q E
abbrev Binds(K:Zfr)(fd:FuncData)(ps:List Str)(ds:List Value):Prop :=
 ∀(s:Shared) (us:List Value),K.In s.heap->(us ++ ds).length=ps.length->BindsTo s fd ⟨us,[]⟩ (ps.zip (us ++ ds))
def Binds.all{K:Zfr}{fd:FuncData}{ps:List Str}(h:∀us:List Value,us.length=ps.length->bindArgs fd ⟨us,[]⟩=pure (ps.zip us)):Binds K fd ps []:=λs us _ hl=>by
 rw[Zbs]at hl ⊢;exact .of_eq (h us hl)
abbrev Passes(CX:sX)(X:Cx)(E:XK):Prop:=∀(pins:List (Addr×Obj)) (G:St) (H:Hp) (s:Shared) (e:Value) (s':Shared),Inv X pins G H s->CX X.stack H s E e s'->X.xe e s'
section
variable {X:Cx}{CX:sX}{k:Nat}{f C:Addr}{fd:FuncData}{ps:List Str}{sp:Sp}{qb:List V}{ds:List Value}{E:XK}{x m:Str}{p pos apos:Pos}{e o:Expr}{es:List Expr}{ta:TE}{t:TA}
def Af{pins:List (Addr×Obj)}{G:St}{H:Hp}{s:Shared}{Q:VK}{us:List Value}{vs:List V}(F:aD X.prog X.w X.K X.mg X.base CX k f fd ps sp)(hr:iJ k X.A)(hb:Binds X.K fd ps ds)(hd:Vals qb ds)(hx:Passes CX X E)
  (I:Inv X pins G H s) (r:Vals vs us) (h:sp (vs ++ qb) H Q E):wpAny (model X.prog X.w) X.A (call (.ref f) us) (EP X pins G Q) X.xe s:=by
 have r2:Vals (vs ++ qb) (us ++ ds):=r.append hd;have hl:(us ++ ds).length=ps.length:=by rw[<- r2.length];exact F.len _ _ _ _ h
 refine wpAny_call (codeAny_mono (F.run X.A X.stack s H ⟨us,[]⟩ (us ++ ds) (vs ++ qb) Q E hr I.MH (hb s us I.CO hl) r2 h) λr s' hq=>?_);cases r with
 |error e=>exact hx pins G H s e s' I hq
 |ok fl =>
  cases fl with
  |ret u=>exact I.after hq
  |next=>exact False.elim hq
  |brk=>exact False.elim hq
  |cont=>exact False.elim hq
def Qu(F:aD X.prog X.w X.K X.mg X.base CX k f fd ps sp)(hr:iJ k X.A)(hg:Gl X x)(hm:X.mg x=some (.ref f))(hk:PySem.W.keepIn X.K (.ref f)=true)(hb:Binds X.K fd ps ds)(hd:Vals qb ds)(hx:Passes CX X E)
  (ha:PA X (e :: es) t) (hdb:(x == ("__debug__" : Str))=false:=by decide) (he:starEach (e :: es) X.env=(false,eval e X.env) :: starEach es X.env:=by rfl) (hpl:(backTo pos (starEach es X.env)).any (·.1)=false:=by rfl) :
  PE X (.Call (.Name x p) (e :: es) [] pos) (rm sp qb E t):=by
 intro pins s G H Q I h;refine wpAny_Call_Name_kw (P7 I hg hm ?_ hdb);refine PySem.W.callWith_K (h₀:=X.base) I.ok.mod.Mu hk (cf (ha pos pins s G H _ I h) λus s1 ⟨vs,H1,I1,r,q⟩=>⟨I1.CO,?_⟩) he hpl;exact Af F hr hb hd hx I1 r q
structure Mk(K:Zfr)(C f:Addr):Prop where
 makes:PySem.W.makesIn K C=true
 init:PySem.W.findIn K (.ref C) "__init__" = some (some (.ref f))
 fn:PySem.W.isFn K (.ref f)=true
 kp:PySem.W.keepIn K (.ref C)=true
end
structure ax(N P:List Str)(sc:Scope):Prop where
 kind:sc.kind=.function
 co:sc.isCoroutine=false
 gen:sc.isGenerator=false
 nd:N.Nodup
 pre:N.take P.length=P
 par:∀x∈P,sc.names.lookup x=some .local\/sc.names.lookup x=some .cell
 Ag:∀y∈sc.names,y.2≠.free
def Qv{kindOf:Str->Option NameKind}{x:Str}:∀{binds:List (Str×Value)} {m:Str->Option Value},(∀v,(x,v) ∉ binds)->bindL kindOf binds m x=m x
 |[],_,_=>rfl
 |(n,v) :: r,m,h=>by
  unfold bindL;rw[Qv λw hw=>h w (Zak _ hw)];split
  have:x≠n:=by rintro rfl;exact h v Zah
  simp[this];rfl
def Qw{kindOf:Str->Option NameKind}{x:Str}:∀{binds:List (Str×Value)} {m:Str->Option Value},(∀v,(x,v) ∉ binds)->bindC kindOf binds m x=m x
 |[],_,_=>rfl
 |(n,v) :: r,m,h=>by
  unfold bindC;rw[Qw λw hw=>h w (Zak _ hw)];split;rfl
  have:x≠n:=by rintro rfl;exact h v Zah
  simp[this]
def Qx{kindOf:Str->Option NameKind}{x:Str}{v:Value}:∀{P:List Str} {vs:List Value} {i:Nat} {m:Str->Option Value},P.Nodup->P[i]?=some x->vs[i]?=some v->kindOf x=some .local ->
  bindL kindOf (P.zip vs) m x=some v
 |[],_,_,_,_,h,_,_=>by simp at h
 |_ :: _,[],_,_,_,_,h,_=>by simp at h
 |p :: P,w :: vs,0,m,nd,h1,h2,hk=>by
  simp at h1 h2;subst h1;subst h2;show bindL kindOf ((p,w) :: P.zip vs) m p=_;unfold bindL;rw[Qv λv hv=>(Za7.mp nd).1 (List.of_mem_zip hv).1,if_pos hk];simp
 |p :: P,w :: vs,i+1,m,nd,h1,h2,hk=>by
  show bindL kindOf ((p,w) :: P.zip vs) m x=_;unfold bindL;exact Qx (i:=i) (Za7.mp nd).2 (by simpa using h1) (by simpa using h2) hk
def Qy{kindOf:Str->Option NameKind}{x:Str}{v:Value}:∀{P:List Str} {vs:List Value} {i:Nat} {m:Str->Option Value},P.Nodup->P[i]?=some x->vs[i]?=some v->kindOf x≠some .local ->
  bindC kindOf (P.zip vs) m x=some v
 |[],_,_,_,_,h,_,_=>by simp at h
 |_ :: _,[],_,_,_,_,h,_=>by simp at h
 |p :: P,w :: vs,0,m,nd,h1,h2,hk=>by
  simp at h1 h2;subst h1;subst h2;show bindC kindOf ((p,w) :: P.zip vs) m p=_;unfold bindC;rw[Qw λv hv=>(Za7.mp nd).1 (List.of_mem_zip hv).1,if_neg hk];simp
 |p :: P,w :: vs,i+1,m,nd,h1,h2,hk=>by
  show bindC kindOf ((p,w) :: P.zip vs) m x=_;unfold bindC;exact Qy (i:=i) (Za7.mp nd).2 (by simpa using h1) (by simpa using h2) hk
abbrev start(N:List Str)(vs:List V):St:=vs.map some ++ List.replicate (N.length-vs.length) none
abbrev fI(CX:sX)(P:Program)(w:World)(K:Zfr)(mg:Str->Option Value)(base:Heap)(N:List Str)(qual:Str)(scope:Scope)(f:Addr)(cd:Value)(A:Around)(outer:List Env)(s:Shared)(H:Hp)(E:XK):Cx where
 prog:=P
 w:=w
 K:=K
 mg:=mg
 base:=base
 A:=A.deeper (envOfC qual scope s.heap.objs.size f cd)
 N:=N
 s₀:=s
 H₀:=H
 env:=envOfC qual scope s.heap.objs.size f cd
 outer:=outer
 stack:=envOfC qual scope s.heap.objs.size f cd :: outer
 ex:=[]
 calm:=true
 fn:=λ_=>true
 pn:=[]
 xe:=λe s'=>wpAny (model P w) (A.deeper (envOfC qual scope s.heap.objs.size f cd)) («leaving» (envOfC qual scope s.heap.objs.size f cd) e) (λ_ s''=>CX outer H s E e s'') (λe' s''=>CX outer H s E e' s'') s'
def Qz{sc:Scope}{n:Nat}{x:Str}(h:sc.names.lookup x=some .cell):∃c,(cellsFrom n sc.names []).lookup x=some c:=by have q:=PySem.W.cellsFrom_some sc.names n [] (.inl h);exact ZbN.mp q
def WI{CX:sX}{P:Program}{w:World}{K:Zfr}{mg:Str->Option Value}{base:Heap}{N ps:List Str}{qual:Str}{scope:Scope}{f:Addr}{cd:Value}{A:Around}{outer:List Env}{s s1:Shared}{H:Hp}{E:XK}{us:List Value}{vs:List V}
  (S:ax N ps scope) (hd:A.handled=none) (e0:xl P w K mg base A outer s H) (hl:vs.length=ps.length) (r:Vals vs us)
  (x:InCallC s s.heap.objs.size (bindL (envOfC qual scope s.heap.objs.size f cd).kindOf (ps.zip us) λ_=>none) (cellsFrom (s.heap.objs.size+1) scope.names []) (bindC (envOfC qual scope s.heap.objs.size f cd).kindOf (ps.zip us) λ_=>none) s1) :
  Inv (fI CX P w K mg base N qual scope f cd A outer s H E) [] (start N vs) H s1:=by
 have hpl:ps.length<=N.length:=by have:=congrArg List.length S.pre;rw[Zbi]at this;lk
 obtain⟨h1,tk,rfl,hk⟩:=x.done;have En:∀b:Addr,b ∉ (fI CX P w K mg base N qual scope f cd A outer s H E).ex:=λb z=>absurd (show b∈([]:List Addr)from z) (by simp)
 refine⟨⟨e0.mod,S.kind,rfl,rfl,Zad _,λy z c h1 h2=>?_,λy hy=>?_,λy c _ h=>?_,λ_=>hd,Around.frames_deeper e0.frames,.inr ⟨rfl,rfl⟩,λb z=>absurd z (En b),e0.bs,e0.yc,λb _ _=>En b,λb z=>absurd z (En b),e0.o7,e0.CN⟩,
  rfl,e0.bare,Un.kept hk,⟨_,x.toInCall.ns,λi y v h1 h2 h3=>?_⟩,λy c h=>⟨_,x.cell y c h⟩,e0.hok.fresh (Zad _),λy c h=>?_,λp hp=>absurd (show p∈([]:List (Addr×Obj))from hp) (by simp),e0.hok.kept hk,?_⟩
 exact name_of_addr x.apart (PySem.mem_of_lookup h1) (PySem.mem_of_lookup h2);have hy:scope.names.lookup y=some .cell\/scope.names.lookup y=some .free:=hy;rcases hy with hy|hy
 exact Qz hy;exact absurd rfl (S.Ag _ (PySem.mem_of_lookup hy));exact Zcu (x.above y c (PySem.mem_of_lookup h));have hi:i < vs.length:=by
  unfold start at h2;by_cases hi:i<vs.length;exact hi;rw[Zav (by simpa using hi)]at h2;rw[ZbT]at h2;split at h2<;>cases h2
 have ha:vs[i]?=some v:=by
  unfold start at h2;rw[Zan (by simpa using hi),Zag]at h2;cases e:vs[i]? with
  |none=>rw[e]at h2;cases h2
  |some a=>rw[e]at h2;cases h2;rfl
 obtain⟨u,hu,rv⟩:=r.get ha;have hp:ps[i]?=some y:=by
  rw[<- S.pre,List.getElem?_take_of_lt ⋯];exact h1
 have QA:ps.Nodup:=by rw[<- S.pre];exact S.nd.sublist (List.take_sublist _ _)
 refine⟨u,rv,?_⟩;rcases S.par y (Zai hp)with k|k
 exact .inl ⟨k,Qx QA hp hu k⟩;obtain⟨c,e⟩:=Qz (n:=s.heap.objs.size+1) k;refine .inr ⟨.inl k,c,e,?_⟩;have q:=x.cell y c e;rw[Qy QA hp hu (by show scope.names.lookup y≠_;rw[k];decide)]at q;exact q;exact e0.hok.fresh (Zcu (x.above y c (PySem.mem_of_lookup h)));unfold start;show _=N.length;rw[Zae,Zaa,Zbg];lk
def yr{CX:sX}{P:Program}{w:World}{K:Zfr}{mg:Str->Option Value}{base:Heap}{k:Nat}{f:Addr}{name qual:Str}{params:Arguments}{body:List Stmt}{scope:Scope}{dV kV doc pm cdv ct oc:Value}{an od:Option Addr}
  {osl:Array (Option Value)} {N ps:List Str} {sp:Sp} (lk:K.lookup f=some ⟨oc,od,.func (PySem.W.fnOf name qual params body scope dV kV doc pm an cdv ct),osl⟩) (hcd:PySem.W.codeIn K cdv qual=true) (S:ax N ps scope)
  (len:∀vs H Q E,sp vs H Q E->vs.length=ps.length)
  (hbody:∀(A:Around) (outer:List Env) (s:Shared) (H:Hp) (vs:List V) (Q:VK) (E:XK),iJ k (A.deeper (envOfC qual scope s.heap.objs.size f cdv))->sp vs H Q E ->
   ∃t,sS (fI CX P w K mg base N qual scope f cdv A outer s H E) body t/\t { nx:=λ_ H'=>Q .non H',rt:=Q } (start N vs) H) :
  aD P w K mg base CX (k+1) f (PySem.W.fnOf name qual params body scope dV kV doc pm an cdv ct) ps sp:=by
 refine⟨len,λA outer s H args us vs Q E hr e0 hb r uJ=>?_⟩;have hl:=len _ _ _ _ uJ;have KX:K.In s.heap:=e0.mod.Mu.keeps λb o e=>(e0.bs b o e).1;have lim:s.heap.NoLimit:=e0.mod.nolimit.keeps λb o e=>(e0.bs b o e).1;have hkind:∀y∈ps.zip us,scope.names.lookup y.1=some .local\/(scope.names.lookup y.1=some .cell/\((cellsFrom (s.heap.objs.size+1) scope.names []).lookup y.1).isSome=true):=λ⟨n,v⟩ hy=>by
  rcases S.par n (List.of_mem_zip hy).1 with q|q
  ·exact .inl q
  ·exact .inr ⟨q,PySem.W.cellsFrom_some _ _ _ (.inl q)⟩
 refine codeAny_call_function hr.depth (KX _ _ lk) rfl S.co S.gen rfl (PySem.W.codeRec_of KX hcd) (hb _ _ _ _ ?_);refine wpAny_newFunctionEnv_cells S.kind hkind λenv he s1 x=>?_;subst he;refine⟨lim.keeps x.toInCall.keep,codeAny_func ?_⟩;obtain⟨t,ht,hq⟩:=hbody A outer s H vs Q E (hr.deeper _) uJ;have I:Inv (fI CX P w K mg base N qual scope f cdv A outer s H E) [] (start N vs) H s1:=WI S hr.hd e0 hl r x;refine wpAny_mono (ht [] s1 (start N vs) H _ I hq) (λfl s' hs=>?_) λe s' hs=>hs;have fin:∀{G':St} {H':Hp} {v:V} {u:Value},Inv (fI CX P w K mg base N qual scope f cdv A outer s H E) [] G' H' s'->RelV v u->Q v H'->CE outer P w H s Q u s' :=
  λ{G' H' v u} J rv q=>⟨v,H',J.os,J.bare,J.base,J.hok,rv,q⟩
 cases fl with
 |ret u =>
  obtain⟨v,G',H',J,rv,q⟩:=hs;exact fin J rv q
 |next =>
  obtain⟨G',H',J,q⟩:=hs;exact fin (v:=V.non) (u:=Value.none) J rfl q
 |brk =>
  obtain⟨_,_,_,q⟩:=hs;exact False.elim q
 |cont =>
  obtain⟨_,_,_,q⟩:=hs;exact False.elim q
section
variable {X:Cx}{x:Str}{p pos:Pos}{e:Expr}{es:List Expr}{t:TA}{id T:String}{r:List V->Hp->VK->Prop}
abbrev MI(r:List V->Hp->VK->Prop)(t:TA):TE:=λG H Q=>t G H λvs H1=>r vs H1 Q
def jq(hc:eJ X (.builtin id) r)(hg:Gl X x)(hm:X.mg x=none)(hv:bootBuiltins x=some (.builtin id))(ha:PA X (e :: es) t)(hn:x≠"__name__" := by decide)(hdb:(x == ("__debug__" : Str))=false:=by decide)
  (he:starEach (e :: es) X.env=(false,eval e X.env) :: starEach es X.env:=by rfl) (hpl:(backTo pos (starEach es X.env)).any (·.1)=false:=by rfl):PE X (.Call (.Name x p) (e :: es) [] pos) (MI r t):=by
 intro pins s G H Q I h;refine wpAny_Call_Name_kw (zV I hg hm hv ?_ hn hdb);exact PyProof.Rows.callWith_builtin1 (cf (ha pos pins s G H _ I h) λus s1 ⟨vs,H1,I1,r1,q1⟩=>hc pins s1 G H1 vs us Q I1 r1 q1) he hpl
def eK(hc:eJ X (.type T) r)(hg:Gl X x)(hm:X.mg x=none)(hv:bootBuiltins x=some (.type T))(ha:PA X (e :: es) t)(hn:x≠"__name__" := by decide)(hdb:(x == ("__debug__" : Str))=false:=by decide)
  (he:starEach (e :: es) X.env=(false,eval e X.env) :: starEach es X.env:=by rfl) (hpl:(backTo pos (starEach es X.env)).any (·.1)=false:=by rfl):PE X (.Call (.Name x p) (e :: es) [] pos) (MI r t):=by
 intro pins s G H Q I h;refine wpAny_Call_Name_kw (zV I hg hm hv ?_ hn hdb);exact PyProof.Rows.callWith_type1 (cf (ha pos pins s G H _ I h) λus s1 ⟨vs,H1,I1,r1,q1⟩=>hc pins s1 G H1 vs us Q I1 r1 q1) he hpl
end
end L2
namespace HT
open PySem PyProof.Rows
def WJ(A:Around)(s:Shared)(a:Int)(t:Tok)(c:Int)(u:Tok):∃e,SeqAt.EqAt A s (.int a t) (.int c u) e/\(e=true↔a=c) :=
 ⟨(a == c),SeqAt.EqAt.int_int a t c u,by simp⟩
section
variable {prog:Program}{w:World}{A:Around}{E:Value->Shared->Prop}{s:Shared}
def WK(ht:IsTup s.heap t vs.toArray)(hb:IsTup s.heap b ws.toArray)(hv:vs≠[])
  (h1:ws=[]->Q (.ref t) s) (h2:ws≠[]->Q (.ref s.heap.objs.size) { s with heap:=s.heap.push { cls:=.type "tuple",data:=.seq (vs ++ ws).toArray } })
  (hsz:vs.length+ws.length<=sizeLine):wpAny (model prog w) A (binaryOp .Add (.ref t) (.ref b)) Q E s:=by
 obtain⟨⟨cls,dd,data,sl⟩,ho,hc,n,hd⟩:=id ht;obtain⟨⟨MJ,dd2,data2,sl2⟩,ho2,hc2,n2,hd2⟩:=id hb;simp only at hc hd hc2 hd2;subst hc hd hc2 hd2;have e:vs.toArray ++ ws.toArray=(vs ++ ws).toArray:=by simp
 by_cases hw:ws=[];exact concat_meets ⟨_,ho,rfl⟩ ⟨_,ho2,rfl⟩ noFill_tuple_add seq_tuple_add PySem.F.slot_tuple_add PySem.F.entry_tuple_add (PySem.F.args_tuple_add_2 _ _)
  (tuple_addW1 t b vs.toArray ws.toArray n n2 dd dd2 sl sl2 (by simpa using hv) (by simp[hw])) ⟨ho,ho2,h1 hw⟩
 refine concat_meets ⟨_,ho,rfl⟩ ⟨_,ho2,rfl⟩ noFill_tuple_add seq_tuple_add PySem.F.slot_tuple_add PySem.F.entry_tuple_add (PySem.F.args_tuple_add_2 _ _)
  (tuple_addW2 t b vs.toArray ws.toArray n n2 dd dd2 sl sl2 (by simpa using hv) (by simpa using hw) (by rw[Zas,Zas];exact hsz)) ⟨ho,ho2,?_⟩
 rw[e];exact h2 hw
abbrev cK(n d:Nat):Option Int->Nat
 |none=>d
 |some v=>if v<0 then(v+(n:Int)).toNat else min v.toNat n
def WL(n d:Nat):cK n d none=d:=rfl
def WM(n d k:Nat):cK n d (some (k:Int))=min k n:=by show(if(k:Int)<0 then((k:Int)+(n:Int)).toNat else min (k:Int).toNat n)=min k n;rw[if_neg ⋯,Zat]
def Ah(n d:Nat)(hd:d<=n)(o:Option Int):cK n d o<=n:=by
 cases o with
 |none=>exact hd
 |some v =>
  show(if v<0 then(v+(n:Int)).toNat else min v.toNat n)<=n;by_cases hv:v<0;rw[if_pos hv];lk;rw[if_neg hv];exact Nat.min_le_right _ _
def QB(v:Int)(n d:Nat):(if v<0 then max (v+(n:Int)) 0 else min v (n:Int))=((cK n d (some v):Nat):Int):=by show(if v<0 then max (v+(n:Int)) 0 else min v (n:Int))=(((if v<0 then(v+(n:Int)).toNat else min v.toNat n):Nat):Int);by_cases hv:v<0;simp only[if_pos hv];lk;simp only[if_neg hv];lk
def WN(lo hi:Option Int)(n:Nat):Builtin.Slice.sliceAdjust lo hi 1 (n:Int)=(((cK n 0 lo:Nat):Int),((cK n n hi:Nat):Int)):=by
 have h1:¬((1:Int)<0):=by lk
 unfold Builtin.Slice.sliceAdjust;simp only[h1,if_false];refine Prod.ext ?_ ?_;cases lo with
 |none=>rfl
 |some v=>exact QB v n 0
 cases hi with
 |none=>rfl
 |some v=>exact QB v n n
def WO(i j:Nat):Builtin.Slice.slicePlaces (i:Int) (j:Int) 1=j-i:=by
 unfold Builtin.Slice.slicePlaces;have h1:(1:Int) > 0:=by lk
 simp only[h1,if_true,Int.ediv_one];split<;>lk
def QC(p:IsPart v o)(h:Q o s):wpAny (model prog w) A (Builtin.Slice.slicePartIndex v) Q E s:=by
 cases p with
 |none=>exact slicePart_none h
 |int i t=>exact slicePart_int h
def QD{sl:Addr}{vl vu:Value}{lo hi:Option Int}{n:Nat}{Q:Int×Int×Nat->Shared->Prop}(hs:s.heap.IsSliceOf sl vl vu .none)(pl:IsPart vl lo)(pu:IsPart vu hi)
  (h:Q (((cK n 0 lo:Nat):Int),1,cK n n hi-cK n 0 lo) s):wpAny (model prog w) A (Builtin.Slice.sliceApplied (.ref sl) (pure (n:Int))) Q E s:=by
 obtain⟨os,hos,hcs,hds⟩:=id hs;unfold Builtin.Slice.sliceApplied Builtin.Slice.sliceFields;refine wpAny_bind (wpAny_bind (wpAny_field hos hds (x:=vl) rfl (wpAny_bind (wpAny_field hos hds (x:=vu) rfl (wpAny_bind (wpAny_field hos hds (x:=.none) rfl (wpAny_pure ?_)))))));refine wpAny_bind (slicePart_none ?_);show wpAny _ _ (if((1:Int) == 0)=true then _ else _) _ _ s;rw[if_neg ∅];refine wpAny_bind (QC pl (wpAny_bind (QC pu (wpAny_bind (wpAny_pure ?_)))));show wpAny _ _ (match Builtin.Slice.sliceAdjust lo hi 1 (n:Int)with|(lo,hi)=>pure (lo,(1:Int),Builtin.Slice.slicePlaces lo hi 1)) _ _ s;rw[WN lo hi n];show wpAny _ _ (pure (((cK n 0 lo:Nat):Int),(1:Int),Builtin.Slice.slicePlaces ((cK n 0 lo:Nat):Int) ((cK n n hi:Nat):Int) 1)) _ _ s;rw[WO];exact wpAny_pure h
def WQ(xs:Array Value)(i k:Nat):((List.range k).filterMap λ(m:Nat)=>xs[((i:Int)+(m:Int)*1).toNat]?).toArray=((xs.toList.drop i).take k).toArray:=by
 have e:(λ(m:Nat)=>xs[((i:Int)+(m:Int)*1).toNat]?)=λm=>xs[i+m]?:=by
  funext m
  have:((i:Int)+(m:Int)*1).toNat=i+m:=by lk
  rw[this]
 rw[e];have:=pick_run xs i k;rw[List.filterMap_map]at this;have e2:((λx=>xs[x]?) ∘ λx=>i+x)=λm=>xs[i+m]?:=rfl;rw[e2]at this;rw[this]
def WR{t sl:Addr}{items:Array Value}{vl vu:Value}{lo hi:Option Int}{Q:Value->Shared->Prop}(ht:IsTup s.heap t items)(hs:s.heap.IsSliceOf sl vl vu .none)(pl:IsPart vl lo)(pu:IsPart vu hi)
  (hw:¬(cK items.size 0 lo=0/\cK items.size items.size hi=items.size))
  (h:Q (.ref s.heap.objs.size) { s with heap:=s.heap.push { cls:=.type "tuple",data:=.seq ((items.toList.drop (cK items.size 0 lo)).take (cK items.size items.size hi-cK items.size 0 lo)).toArray } })
  (hsz:items.size<=sizeLine):wpAny (model prog w) A (getItem (.ref t) (.ref sl)) Q E s:=by
 have sY:sizeOk (.seq ((items.toList.drop (cK items.size 0 lo)).take (cK items.size items.size hi-cK items.size 0 lo)).toArray):=by
  show((items.toList.drop (cK items.size 0 lo)).take (cK items.size items.size hi-cK items.size 0 lo)).toArray.size<=sizeLine;rw[Zas,Zbi,List.length_drop,Zcf];lk
 have hj:cK items.size items.size hi<=items.size:=Ah _ _ (Zad _) hi;obtain⟨os,hos,hcs,hds⟩:=id hs;have MK:s.TypeIs (.ref sl) "slice" := ⟨os,hos,hcs⟩;unfold getItem
 try with_reducible refine wpAny_holding ?_
 first|refine wpAny_bind (wpAny_pure ?_)|skip
 refine wpAny_bind (wpAny_sequenceKey ht.typeIs ∅ ?_)
 refine wpAny_bind (wpAny_callSpecial?_slot (name:=Str.ofString "__getitem__") ht.typeIs PyProof.Rows.slot_tuple_getitem
  (wpAny_call_entry PyProof.Rows.slot_tuple_getitem ht.typeIs entry_tuple_getitem ?_ (args_tuple_getitem _ _)))
 show wpAny _ _ (Builtin.Tuple.tupleItemsOf (.ref t) >>= _) _ _ s;refine wpAny_bind (tupleItemsOf_ ht ?_);refine wpAny_bind (wpAny_typeOf MK ?_);rw[if_pos ∅];refine wpAny_bind (QD hs pl pu ?_);have hno:¬((((cK items.size 0 lo:Nat):Int) == 0 && (1:Int) == 1 && (cK items.size items.size hi-cK items.size 0 lo) == items.size)=true):=by
  intro q;rw[ZaC,ZaC]at q;have q1:((cK items.size 0 lo:Nat):Int)=0:=eq_of_beq q.1.1;have q2:cK items.size items.size hi-cK items.size 0 lo=items.size:=eq_of_beq q.2;exact hw ⟨by lk,by lk⟩
 show wpAny _ _ (if(((cK items.size 0 lo:Nat):Int) == 0 && (1:Int) == 1 && (cK items.size items.size hi-cK items.size 0 lo) == items.size)=true then _ else _) _ _ s;rw[if_neg hno,WQ]
 first
  |exact wpAny_bind (m:=Builtin.Tuple.tupleExact _) (wpAny_newObj_type (wpAny_pure ⟨_,rfl,wpAny_pure h⟩) sY)
  |exact wpAny_bind (m:=Builtin.Tuple.tupleExact _) (wpAny_newObj_type (wpAny_bind (wpAny_pure (wpAny_pure ⟨_,rfl,wpAny_pure h⟩))) sY)
  |exact wpAny_bind (wpAny_bind (m:=Builtin.Tuple.tupleExact _) (wpAny_newObj_type (wpAny_pure (wpAny_pure ⟨_,rfl,wpAny_pure h⟩)) sY))
  |exact wpAny_bind (wpAny_bind (m:=Builtin.Tuple.tupleExact _) (wpAny_newObj_type (wpAny_pure ⟨_,rfl,wpAny_pure h⟩) sY))
end
end HT
namespace L2
open PySem PySem.Spec PyProof.Rows
@[reducible]def TO:=St->Hp->(Option Int->Hp->Prop)->Prop
abbrev PO(X:Cx)(e:Option Expr)(t:TO):Prop :=
 ∀(pins:List (Addr×Obj)) (s:Shared) (G:St) (H:Hp) (Q:Option Int->Hp->Prop),Inv X pins G H s->t G H Q ->
  wpAny (model X.prog X.w) X.A (evalPart e X.env) (λu s'=>∃o H',Inv X pins G H' s'/\IsPart u o/\Q o H') X.xe s
abbrev sZ:TO:=λ_ H Q=>Q none H
abbrev yt(t:TE):TO:=λG H Q=>t G H λx H1=>∃i,x=.int i/\Q (some i) H1
def ML:∀{us:List Value},Vals (ns.map V.int) us->IntsAre us ns:=by
 induction ns with
 |nil=>intro us r;rw[ZaW]at r;cases r;exact .nil
 |cons n ns ih =>
  intro us r;rw[Zaz]at r;cases r with
  |cons r1 r2 =>
   obtain⟨t,e⟩:=r1;subst e;exact .cons n t (ih r2)
section
variable {X:Cx}{e:Expr}{te:TE}{lo hi:Option Expr}{tl th:TO}{pos p2:Pos}
def QE:PO X none sZ:=by intro pins s G H Q I h;rw[evalPart_none];exact wpAny_pure ⟨none,H,I,.none,h⟩
def QF(h:PE X e te):PO X (some e) (yt te):=by intro pins s G H Q I hw;rw[evalPart_some];refine cf (h pins s G H _ I hw) λu s1 ⟨x,H1,I1,r1,q1⟩=>?_;obtain⟨i,rfl,q⟩:=q1;obtain⟨t,rfl⟩:=r1;exact⟨some i,H1,I1,.int i t,q⟩
abbrev JV(X:Cx)(r:V->Option Int->Option Int->Hp->VK->Prop):Prop :=
 ∀(pins:List (Addr×Obj)) (s:Shared) (G:St) (H:Hp) (x:V) (v vl vu:Value) (lo hi:Option Int) (sl:Addr) (Q:VK),Inv X pins G H s->RelV x v->s.heap.IsSliceOf sl vl vu .none->IsPart vl lo->IsPart vu hi->r x lo hi H Q ->
  ∃T id,typeLookup (.type T) "__getitem__" = pure (some (.builtin id))/\s.TypeIs v T/\wpAny (model X.prog X.w) X.A (getItem v (.ref sl)) (EP X pins G Q) X.xe s
abbrev QG(r:V->Option Int->Option Int->Hp->VK->Prop)(te:TE)(tl th:TO):TE:=λG H Q=>te G H λx H1=>tl G H1 λl H2=>th G H2 λu H3=>r x l u H3 Q
def QH(hr:JV X r)(he:PE X e te)(hl:PO X lo tl)(hu:PO X hi th):PE X (.Subscript e (.Slice lo hi none p2) pos) (QG r te tl th):=by intro pins s G H Q I h;refine Subscript_ (cf (he pins s G H _ I h) λv s1 ⟨x,H1,I1,r1,q1⟩=>?_);refine wpAny_Slice (cf (hl pins s1 G H1 _ I1 q1) λvl s2 ⟨l,H2,I2,pl,q2⟩=>cf (hu pins s2 G H2 _ I2 q2) λvu s3 ⟨u,H3,I3,pu,q3⟩=>?_);rw[evalPart_none];refine wpAny_pure ?_;have I4:Inv X pins G H3 { s3 with heap:=s3.heap.push { cls:=.type "slice",data:=.fields #[vl,vu,.none] } }:=I3.kept (t':=s3.toks) λb ob q=>Zau _ q;obtain⟨T,id,hT,ht,hg⟩:=hr pins { s3 with heap:=s3.heap.push { cls:=.type "slice",data:=.fields #[vl,vu,.none] } } G H3 x v vl vu l u s3.heap.objs.size Q I4 r1 (Heap.IsSliceOf.new ..) pl pu q3;show wpAny (model X.prog X.w) X.A (subscriptTail e (.Slice lo hi none p2) v (.ref s3.heap.objs.size)) (EP X pins G Q) X.xe { s3 with heap:=s3.heap.push { cls:=.type "slice",data:=.fields #[vl,vu,.none] } };exact tail_any (ops:=[.ref s3.heap.objs.size,v]) ht hT hg (by with_unfolding_all rfl)
abbrev pe(xs:List V)(lo hi:Option Int):List V:=(xs.drop (HT.cK xs.length 0 lo)).take (HT.cK xs.length xs.length hi-HT.cK xs.length 0 lo)
def QI(xs:List V)(lo hi:Option Int):(pe xs lo hi).length<=xs.length:=by unfold pe;rw[Zbi,List.length_drop];lk
abbrev MN(K:Zfr):V->Option Int->Option Int->Hp->VK->Prop:=λx lo hi H Q=>∃a xs,x=.ref a/\fV K H a xs /\
 ¬(HT.cK xs.length 0 lo=0/\HT.cK xs.length xs.length hi=xs.length)/\∀p,H p=none->Q (.ref p) (upd H p (.tup (pe xs lo hi)))
def Ai:JV X (MN X.K):=by
 intro pins s G H x v vl vu lo hi sl Q I rx hs pl pu h;obtain⟨a,xs,rfl,hx,hw,q⟩:=h;cases rx;obtain⟨its,r,ht,hz⟩:=I.tuple hx;have hlen:its.toArray.size=xs.length:=by rw[Zas];exact r.length.symm
 refine⟨"tuple",_,PyProof.Rows.slot_tuple_getitem.lookup,ht.typeIs,?_⟩;refine HT.WR ht hs pl pu (by rw[hlen];exact hw) ?_ (by rw[hlen];exact hz);rw[hlen];refine⟨.ref s.heap.objs.size,_,I.laid (t':=s.toks) (o:=.tup (pe xs lo hi)) (λb ob q=>Zau _ q) (Zad _) ?_,rfl,q _ (I.hok.fresh (Zad _))⟩;exact⟨Zaq (QI xs lo hi) hz,_,(r.drop (HT.cK xs.length 0 lo)).take (HT.cK xs.length xs.length hi-HT.cK xs.length 0 lo),ql.new _ _⟩
abbrev Eo(K:Zfr):R2:=λx y H Q=>∃a b xs ys,x=.ref a/\y=.ref b/\fV K H a xs/\fV K H b ys/\xs≠[]/\xs.length+ys.length<=sizeLine /\
 (ys=[]->Q (.ref a) H)/\(ys≠[]->∀p,H p=none->Q (.ref p) (upd H p (.tup (xs ++ ys))))
def Vals.oR(r:Vals xs us):us=[]↔xs=[]:=by
 cases r with
 |nil=>simp
 |cons _ _=>simp
def WS:kY X (binaryOp .Add) (Eo X.K):=by intro pins s G H x y v u Q I rx ry h;obtain⟨a,b,xs,ys,rfl,rfl,ha,hb,hx,hz,q1,q2⟩:=h;cases rx;cases ry;obtain⟨its,r1,p1,_⟩:=I.tuple ha;obtain⟨its2,r2,p2,_⟩:=I.tuple hb;refine HT.WK p1 p2 (λz=>hx (r1.oR.mp z)) (λz=>⟨.ref a,H,I,rfl,q1 (r2.oR.mp z)⟩) (λz=>?_) (by rw[<- r1.length,<- r2.length];exact hz);refine⟨.ref s.heap.objs.size,_,I.laid (t':=s.toks) (o:=.tup (xs ++ ys)) (λb ob q=>Zau _ q) (Zad _) ?_,rfl,q2 (λw=>z (r2.oR.mpr w)) _ (I.hok.fresh (Zad _))⟩;exact⟨by rw[Zae];exact hz,_,r1.append r2,ql.new _ _⟩
end
abbrev oA(n:Nat)(i:Int):Option Nat:=if 0<=i then(if i<n then some i.toNat else none)else if -(n:Int)<=i then some (i+n).toNat else none
abbrev dA{J:Type}(xs:List J)(i:Int):Option J:=(oA xs.length i).bind λj=>xs[j]?
def MO(h:oA n i=some j):seqIndex? i n=some j/\j<n/\-(n:Int)<=i/\i<n:=by unfold oA at h;by_cases h0:0<=i;rw[if_pos h0]at h;by_cases h1:i<n;rw[if_pos h1]at h;have e:i.toNat=j:=Zao h;exact⟨by rw[seqIndex_of h0 h1,e],by lk,by lk,h1⟩;rw[if_neg h1]at h;cases h;rw[if_neg h0]at h;by_cases h1:-(n:Int)<=i;rw[if_pos h1]at h;have e:(i+n).toNat=j:=Zao h;exact⟨by rw[seqIndex_neg ⋯ h1,e],by lk,h1,by lk⟩;rw[if_neg h1]at h;cases h
def QJ{J:Type}{xs:List J}{i:Int}{v:J}(h:dA xs i=some v):∃j,seqIndex? i xs.length=some j/\xs[j]?=some v/\j<xs.length/\-(xs.length:Int)<=i/\i<xs.length:=by
 unfold dA at h;cases e:oA xs.length i with
 |none=>rw[e]at h;cases h
 |some j =>
  rw[e]at h;obtain⟨h1,h2,h3,h4⟩:=MO e;exact⟨j,h1,h,h2,h3,h4⟩
def CV{J:Type}{xs:List J}{j:Nat}{v:J}(h:xs[j]?=some v):dA xs (j:Int)=some v:=by
 have hj:j<xs.length:=(Zab.mp h).1;have e:oA xs.length (j:Int)=some j:=by
  unfold oA;rw[if_pos ⋯,if_pos ⋯];simp
 unfold dA;rw[e];exact h
abbrev xm(b:Expr):Prop:=∀o i,subscripted b false o i=operate [o,i] (getItem o i)
abbrev Ep(X:Cx)(r:R2):Prop :=
 ∀(value slice:Expr) (pins:List (Addr×Obj)) (s:Shared) (G:St) (H:Hp) (x y:V) (v u:Value) (Q:VK),Inv X pins G H s->RelV x v->RelV y u->r x y H Q ->
  subscripted slice false v u=operate [v,u] (getItem v u)->wpAny (model X.prog X.w) X.A (subscriptTail value slice v u) (EP X pins G Q) X.xe s
abbrev yu(X:Cx)(id:String)(r:V->List V->Hp->VK->Prop):Prop :=
 ∀(pins:List (Addr×Obj)) (s:Shared) (G:St) (H:Hp) (x:V) (xs:List V) (v:Value) (us:List Value) (Q:VK),Inv X pins G H s->RelV x v->Vals xs us->r x xs H Q ->
  wpAny (model X.prog X.w) X.A (call (.builtin id) (v :: us)) (EP X pins G Q) X.xe s
section
variable {X:Cx}{a b:Expr}{ta tb:TE}{pos:Pos}
def Er{r:R2}(hr:Ep X r)(ha:PE X a ta)(hb:PE X b tb)(hs:xm b):PE X (.Subscript a b pos) (Ee r ta tb):=by intro pins s G H Q I h;exact Subscript_ (Ac ha hb I h λv u s2 x y H2 I2 rx ry q=>hr a b pins s2 G H2 x y v u Q I2 rx ry q (hs _ _))
abbrev Aj(K:Zfr):R2:=λx y H Q=>∃p xs i v,x=.ref p/\y=.int i/\jX K H p xs/\dA xs i=some v/\Q v H
abbrev Ak(K:Zfr):R2:=λx y H Q=>∃p xs i v,x=.ref p/\y=.int i/\fV K H p xs/\dA xs i=some v/\Q v H
def kW:Ep X (Aj X.K):=by
 intro value slice pins s G H x y v u Q I rx ry h hs;obtain⟨p,xs,i,z,rfl,rfl,hq,he,q⟩:=h;cases rx;obtain⟨t,rfl⟩:=ry;obtain⟨its,r,pl,hz⟩:=I.list hq;obtain⟨j,h1,h2,h3,h4,h5⟩:=QJ he;obtain⟨w,ew,rw'⟩:=r.get h2;have hl:=r.length;have hn:=nY;have fin:EP X pins G Q w s:=⟨z,H,I,rw',q⟩;by_cases h0:0<=i;have hj:i.toNat=j:=by
  rw[seqIndex_of h0 h5]at h1;exact Zao h1
 exact item_listR pl.isList h0 ⋯ (by rw[hj];simpa using ew) fin hs;have hj:(i + (its.toArray.size:Int)).toNat=j:=by
  rw[seqIndex_neg ⋯ h4]at h1;rw[Zas,<- hl];exact Zao h1
 exact subscriptTail_builtinR (x:=w) pl.isList.typeIs slot_list_getitem.lookup
  (wpAny_getItem_list_neg (Q:=λr s'=>r=w/\EP X pins G Q r s') pl.isList ⋯ (by rw[Zas]<;>lk) ⋯ (by rw[hj];simpa using ew) ⟨rfl,fin⟩) hs
def bB:Ep X (Ak X.K):=by
 intro value slice pins s G H x y v u Q I rx ry h hs;obtain⟨p,xs,i,z,rfl,rfl,hq,he,q⟩:=h;cases rx;obtain⟨t,rfl⟩:=ry;obtain⟨its,r,pl,hz⟩:=I.tuple hq;obtain⟨j,h1,h2,h3,h4,h5⟩:=QJ he;obtain⟨w,ew,rw'⟩:=r.get h2;have hl:=r.length;have hn:=nY;have fin:EP X pins G Q w s:=⟨z,H,I,rw',q⟩;exact subscriptTail_builtinR (x:=w) pl.typeIs slot_tuple_getitem.lookup
  (getItem_tuple (j:=j) (Q:=λr s'=>r=w/\EP X pins G Q r s') pl ⋯ ⋯ (by rw[Zas,<- hl];exact h1) (by simpa using ew) ⟨rfl,fin⟩) hs
def WT(its:List Value)(n j:Nat)(u:Value):Obj.mapSeq (·.setIfInBounds j u) { cls:=.type "list",data:=.seq its.toArray n }={ cls:=.type "list",data:=.seq (its.set j u).toArray n }:=by simp[Obj.mapSeq]
def Inv.lst{pins:List (Addr×Obj)}{G:St}{H:Hp}{s:Shared}{p:Addr}{xs:List V}(I:Inv X pins G H s)(h:H p=some (.lst xs)):
  ∃(its:List Value) (n:Nat),Vals xs its/\s.heap.get? p=some { cls:=.type "list",data:=.seq its.toArray n }/\xs.length<=sizeLine:=by
 obtain⟨z,its,n,r,e⟩:=I.hok p _ h;exact⟨its,n,r,e,z⟩
def Inv.Al{pins:List (Addr×Obj)}{G:St}{H:Hp}{s:Shared}{p:Addr}{xs ys:List V}{its its':List Value}{n n':Nat}{f:Obj->Obj}(I:Inv X pins G H s)(h:H p=some (.lst xs))
  (ho:s.heap.get? p=some { cls:=.type "list",data:=.seq its.toArray n }) (hf:f { cls:=.type "list",data:=.seq its.toArray n }={ cls:=.type "list",data:=.seq its'.toArray n' }) (r:Vals ys its') (hz:ys.length<=sizeLine) (t:Nat) :
  Inv X pins G (upd H p (.lst ys)) { s with heap:=s.heap.update p f,toks:=t }:=by
 have e:(s.heap.update p f).get? p=some { cls:=.type "list",data:=.seq its'.toArray n' }:=by
  rw[Zbp f ho (by rw[hf]<;>rfl),hf]
 refine I.write (x:=p) (e:=p) (by rw[h];trivial) (.inl rfl) (λb u hb q=>(Zbd _ _ (Ne.symm hb)).trans q) ⟨_,e⟩ ?_;exact⟨hz,its',n',r,e⟩
abbrev yw:V->V->V->Hp->(Hp->Prop)->Prop:=λo i v H Q=>∃p xs k j,o=.ref p/\i=.int k/\H p=some (.lst xs)/\oA xs.length k=some j/\Q (upd H p (.lst (xs.set j v)))
def CW:D7 X yw:=by
 intro pins s G H o i v ov iv u Q I ro ri rv h;obtain⟨p,xs,k,j,rfl,rfl,hp,hj,q⟩:=h;cases ro;obtain⟨t,rfl⟩:=ri;obtain⟨its,n,r,ho,hz⟩:=I.lst hp;obtain⟨h1,h2,h3,h4⟩:=MO hj;have hl:=r.length;have hn:=nY;have I':Inv X pins G (upd H p (.lst (xs.set j v))) { s with heap:=s.heap.update p (Obj.mapSeq (·.setIfInBounds j u)) } :=
  I.Al hp ho (WT its n j u) (r.set rv j) (by rw[Za8];exact hz) s.toks
 by_cases h0:0<=k;have hk:k.toNat=j:=by
  rw[seqIndex_of h0 h4]at h1;exact Zao h1
 exact PySem.W.ki_setAt ho h0 ⋯ (by rw[Zas,<- hl];exact h4) (by rw[hk];exact⟨_,I',q⟩);have hk:(k + (its.toArray.size:Int)).toNat=j:=by
  rw[seqIndex_neg ⋯ h3]at h1;rw[Zas,<- hl];exact Zao h1
 exact PySem.W.ki_setBack ho ⋯ (by rw[Zas,<- hl];exact h3) ⋯ (by rw[hk];exact⟨_,I',q⟩)
def WU(lo hi:Option Int)(n:Nat):(sliceBounds lo hi none n).1=((HT.cK n 0 lo:Nat):Int)/\(sliceBounds lo hi none n).2.1=((HT.cK n n hi:Nat):Int)/\(sliceBounds lo hi none n).2.2=1:=by
 refine⟨?_,?_,rfl⟩;cases lo with
 |none=>simp[sliceBounds,HT.cK]
 |some i =>
  simp only[sliceBounds,HT.cK,Option.getD_none,show(1:Int) > 0 by decide,if_true];by_cases h:i<0;simp only[h,if_true]<;>lk;simp only[h,if_false]<;>lk
 cases hi with
 |none=>simp[sliceBounds,HT.cK]
 |some i =>
  simp only[sliceBounds,HT.cK,Option.getD_none,show(1:Int) > 0 by decide,if_true];by_cases h:i<0;simp only[h,if_true]<;>lk;simp only[h,if_false]<;>lk
def WV(its:List Value)(lo hi:Option Int):slicePick its.toArray lo hi none=((its.drop (HT.cK its.length 0 lo)).take (HT.cK its.length its.length hi-HT.cK its.length 0 lo)).toArray:=by obtain⟨h1,h2,h3⟩:=WU lo hi its.toArray.size;unfold slicePick;rw[h1,h2,h3];simp only[sliceRange_one,pick_run,Zas]<;>rfl
abbrev Es(K:Zfr):V->Option Int->Option Int->Hp->VK->Prop:=λx lo hi H Q=>∃a xs,x=.ref a/\jX K H a xs/\∀p,H p=none->Q (.ref p) (upd H p (.lst (pe xs lo hi)))
def WW:JV X (Es X.K):=by intro pins s G H x v vl vu lo hi sl Q I rx hs pl pu h;obtain⟨a,xs,rfl,hx,q⟩:=h;cases rx;obtain⟨its,r,ht,hz⟩:=I.list hx;have hlen:=r.length;refine⟨"list",_,slot_list_getitem.lookup,ht.isList.typeIs,?_⟩;refine wpAny_getItem_list_slice ht.isList hs pl pu .none (by simp) ?_ (by rw[Zas]<;>lk);rw[WV,<- hlen];refine⟨.ref s.heap.objs.size,_,I.laid (t':=s.toks) (o:=.lst (pe xs lo hi)) (λb ob q=>Zau _ q) (Zad _) ?_,rfl,q _ (I.hok.fresh (Zad _))⟩;exact⟨Zaq (QI xs lo hi) hz,_,0,(r.drop (HT.cK xs.length 0 lo)).take (HT.cK xs.length xs.length hi-HT.cK xs.length 0 lo),ZaA _ rfl⟩
abbrev mJ:V->Bool
 |.non=>true
 |.bl _=>true
 |.int _=>true
 |.str _=>true
 |_=>false
abbrev yx:V->V->Bool
 |.non,.non=>true
 |.bl a,.bl b=>a == b
 |.bl a,.int b=>(if a then 1 else 0) == b
 |.int a,.bl b=>a == (if b then 1 else 0)
 |.int a,.int b=>a == b
 |.str a,.str b=>a == b
 |_,_=>false
def Am(ry:RelV y u)(rx:RelV x v)(fy:mJ y=true)(fx:mJ x=true):SeqAt.EqAt A s u v (yx y x):=by
 cases y with
 |non =>
  cases ry;cases x with
  |non=>cases rx;exact SeqAt.EqAt.same _
  |bl b=>cases rx;exact SeqAt.EqAt.none_bool b
  |int b=>obtain⟨t,rfl⟩:=rx;exact SeqAt.EqAt.none_int b t
  |str b=>obtain⟨t,rfl⟩:=rx;exact SeqAt.EqAt.none_str b t
  |_=>exact absurd (show false=true from fx) Zam
 |bl a =>
  cases ry;cases x with
  |non=>cases rx;exact SeqAt.EqAt.bool_none a
  |bl b=>cases rx;exact SeqAt.EqAt.bool_bool a b
  |int b=>obtain⟨t,rfl⟩:=rx;exact SeqAt.EqAt.bool_int a b t
  |str b=>obtain⟨t,rfl⟩:=rx;exact SeqAt.EqAt.bool_str a b t
  |_=>exact absurd (show false=true from fx) Zam
 |int a =>
  obtain⟨t',rfl⟩:=ry;cases x with
  |non=>cases rx;exact SeqAt.EqAt.int_none a t'
  |bl b=>cases rx;exact SeqAt.EqAt.int_bool a t' b
  |int b=>obtain⟨t,rfl⟩:=rx;exact SeqAt.EqAt.int_int a t' b t
  |str b=>obtain⟨t,rfl⟩:=rx;exact SeqAt.EqAt.int_str a t' b t
  |_=>exact absurd (show false=true from fx) Zam
 |str a =>
  obtain⟨t',rfl⟩:=ry;cases x with
  |non=>cases rx;exact SeqAt.EqAt.str_none a t'
  |bl b=>cases rx;exact SeqAt.EqAt.str_bool a t' b
  |int b=>obtain⟨t,rfl⟩:=rx;exact SeqAt.EqAt.str_int a t' b t
  |str b=>obtain⟨t,rfl⟩:=rx;exact SeqAt.EqAt.str_str a t' b t
  |_=>exact absurd (show false=true from fx) Zam
 |_=>exact absurd (show false=true from fy) Zam
abbrev sj(x:V)(u:Value):Bool:=match u with
 |.none=>yx .non x
 |.bool b=>yx (.bl b) x
 |.int i _=>yx (.int i) x
 |.str z _=>yx (.str z) x
 |_=>false
def QK(r:RelV y u)(f:mJ y=true):sj x u=yx y x:=by
 cases y with
 |non=>cases r;rfl
 |bl b=>cases r;rfl
 |int i=>obtain⟨t,rfl⟩:=r;rfl
 |str z=>obtain⟨t,rfl⟩:=r;rfl
 |_=>exact absurd (show false=true from f) Zam
def Et:∀{xs:List V} {us:List Value},Vals xs us->xs.all mJ=true->us.any (sj x)=xs.any λy=>yx y x
 |_,_,.nil,_=>rfl
 |y :: xs,u :: us,.cons r t,f=>by
  rw[List.all_cons,ZaC]at f;rw[Za1,Za1,QK r f.1,Et t f.2]
def Eu(rx:RelV x v)(fx:mJ x=true):∀{xs:List V} {us:List Value},Vals xs us->xs.all mJ=true->∀u∈us,SeqAt.EqAt A s u v (sj x u)
 |_,_,.nil,_=>λu hu=>by cases hu
 |y :: xs,u :: us,.cons r t,f=>λu' hu=>by
  rw[List.all_cons,ZaC]at f;rcases ZaE.mp hu with rfl|hu
  rw[QK r f.1];exact Am r rx f.1 fx;exact Eu rx fx t f.2 u' hu
abbrev yy(x:V)(xs:List V):Bool:=xs.any λy=>yx y x
abbrev JW(K:Zfr)(neg:Bool):R2:=λx y H Q=>∃p xs,y=.ref p/\(jX K H p xs\/fV K H p xs)/\mJ x=true/\xs.all mJ=true/\Q (.bl (if neg then !yy x xs else yy x xs)) H
def WX:kY X (compareOp .In) (JW X.K false):=by
 intro pins s G H x y v u Q I rx ry h;obtain⟨p,xs,rfl,hq,fx,fs,q⟩:=h;cases ry;rcases hq with hq|hq
 obtain⟨its,r,pl,hz⟩:=I.list hq;refine SeqAt.in_listAt (sj x) pl.isList (λw hw=>Eu rx fx r fs w (by simpa using hw)) ⟨.bl _,H,I,rfl,?_⟩;rw[show its.toArray.any (sj x)=its.any (sj x) by simp,Et r fs];exact q;obtain⟨its,r,pl,hz⟩:=I.tuple hq;refine SeqAt.in_tupleAt (sj x) pl (λw hw=>Eu rx fx r fs w (by simpa using hw)) ⟨.bl _,H,I,rfl,?_⟩;rw[show its.toArray.any (sj x)=its.any (sj x) by simp,Et r fs];exact q
def Ew:kY X (compareOp .NotIn) (JW X.K true):=by
 intro pins s G H x y v u Q I rx ry h;obtain⟨p,xs,rfl,hq,fx,fs,q⟩:=h;cases ry;rcases hq with hq|hq
 obtain⟨its,r,pl,hz⟩:=I.list hq;refine SeqAt.notIn_listAt (sj x) pl.isList (λw hw=>Eu rx fx r fs w (by simpa using hw)) ⟨.bl _,H,I,rfl,?_⟩;rw[show its.toArray.any (sj x)=its.any (sj x) by simp,Et r fs];exact q;obtain⟨its,r,pl,hz⟩:=I.tuple hq;refine SeqAt.notIn_tupleAt (sj x) pl (λw hw=>Eu rx fx r fs w (by simpa using hw)) ⟨.bl _,H,I,rfl,?_⟩;rw[show its.toArray.any (sj x)=its.any (sj x) by simp,Et r fs];exact q
def mL:eJ X (.builtin "len") (λxs H Q=>∃p ys,xs=[.ref p]/\(jX X.K H p ys\/fV X.K H p ys)/\Q (.int ys.length) H):=by
 intro pins s G H xs us Q I r h;obtain⟨p,ys,rfl,hq,q⟩:=h;obtain⟨u,rfl,rx⟩:=vals1 r;cases rx;have hn:=nY;rcases hq with hq|hq
 obtain⟨its,r',pl,hz⟩:=I.list hq;have hlen:=r'.length;exact Calls.call_len_list pl.isList (by simp only[Zas]<;>lk) ⟨.int ys.length,H,I.tok _,⟨s.toks+1,by rw[Zas,hlen]⟩,q⟩;obtain⟨its,r',pl,hz⟩:=I.tuple hq;have hlen:=r'.length;exact len_tuple pl (by simp only[Zas]<;>lk) ⟨.int ys.length,H,I.tok _,⟨s.toks+1,by rw[Zas,hlen]⟩,q⟩
def MP:eJ X (.type "list") (λxs H Q=>∃p ys,xs=[.ref p]/\(jX X.K H p ys\/fV X.K H p ys)/\∀l,H l=none->Q (.ref l) (upd H l (.lst ys))):=by
 intro pins s G H xs us Q I r h;obtain⟨p,ys,rfl,hq,q⟩:=h;obtain⟨u,rfl,rx⟩:=vals1 r;cases rx;have fin:∀ (its:List Value),Vals ys its->ys.length<=sizeLine->∀ (h':Heap) (c':Nat),(∀ b o',s.heap.get? b=some o'->h'.get? b=some o') ->
   h'.get? s.heap.objs.size=some { cls:=.type "list",dict:=none,data:=.seq its.toArray c',slots:=#[] }->EP X pins G Q (.ref s.heap.objs.size) { s with heap:=h' }:=λits r' hz h' c' kp e =>
  ⟨.ref s.heap.objs.size,_,I.laid (t':=s.toks) kp (Zad _) (show bP X.prog X.w _ h' _ (.lst ys)from⟨hz,its,c',r',e⟩),rfl,q _ (I.hok.fresh (Zad _))⟩
 rcases hq with hq|hq
 obtain⟨its,r',pl,hz⟩:=I.list hq;have hlen:=r'.length;obtain⟨o,ho,hc,n,hd⟩:=pl.isList;exact call_list_seq p (.inl rfl) ho hc hd (λh' c' kp e=>fin its r' hz h' c' kp e) (by simp only[Zas]<;>lk);obtain⟨its,r',pl,hz⟩:=I.tuple hq;have hlen:=r'.length;obtain⟨o,ho,hc,n,hd⟩:=pl;exact call_list_seq p (.inr rfl) ho hc hd (λh' c' kp e=>fin its r' hz h' c' kp e) (by simp only[Zas]<;>lk)
def oB:eJ X (.type "tuple") (λxs H Q=>∃p ys,xs=[.ref p]/\((jX X.K H p ys/\∀l,H l=none->Q (.ref l) (upd H l (.tup ys)))\/(fV X.K H p ys/\Q (.ref p) H))):=by
 intro pins s G H xs us Q I r h;obtain⟨p,ys,rfl,h⟩:=h;obtain⟨u,rfl,rx⟩:=vals1 r;cases rx;rcases h with⟨hq,q⟩|⟨hq,q⟩
 obtain⟨its,r',pl,hz⟩:=I.list hq;have hlen:=r'.length;refine call_tuple_list pl.isList (λh' kp=>?_) (by simp only[Zas]<;>lk);have I1:Inv X pins G H { s with heap:=h' }:=I.kept (t':=s.toks) kp;have I2:Inv X pins G (upd H h'.objs.size (.tup ys)) { s with heap:=h'.push { cls:=.type "tuple",data:=.seq its.toArray } } :=
  I1.laid (t':=s.toks) (λb o e=>Zau _ e) (Zad _) (show bP X.prog X.w _ _ _ (.tup ys)from⟨hz,its,r',ql.new _ _⟩)
 exact⟨.ref h'.objs.size,_,I2,rfl,q _ (I1.hok.fresh (Zad _))⟩;obtain⟨its,r',pl,hz⟩:=I.tuple hq;exact call_tuple_same pl ⟨.ref p,H,I,rfl,q⟩
abbrev JX(K:Zfr)(T:String)(x:V)(H:Hp):Prop:=match x with
 |.str _=>T="str"
 |.int _=>T="int"
 | .ref p=>(T="list" /\ ∃ xs,jX K H p xs)\/(T="tuple" /\ ∃ xs,fV K H p xs) \/
   (T="dict" /\ ((∃kvs,H p=some (.dK kvs))\/∃kvs,H p=some (.dT kvs)))\/(T="set" /\ ∃S n,H p=some (.set S n))
 |_=>False
def QL{pins:List (Addr×Obj)}{G:St}{H:Hp}{s:Shared}{T:String}{x:V}{v:Value}(I:Inv X pins G H s)(r:RelV x v)(ty:JX X.K T x H):
  s.TypeIs v T/\∀a,v=.ref a->∃ob,s.heap.get? a=some ob/\ob.dict=none:=by
 cases x with
 |str z =>
  obtain⟨t,rfl⟩:=r;cases(show T="str" from ty);exact⟨typeIs_str s z t,λ_ e=>nomatch e⟩
 |int i =>
  obtain⟨t,rfl⟩:=r;cases(show T="int" from ty);exact⟨typeIs_int s i t,λ_ e=>nomatch e⟩
 |ref p =>
  cases r;rcases ty with⟨rfl,xs,hq⟩|⟨rfl,xs,hq⟩|⟨rfl,hk⟩|⟨rfl,S,n,hk⟩
  obtain⟨its,_,pl,_⟩:=I.list hq;refine⟨pl.isList.typeIs,λa e=>?_⟩;cases e;obtain⟨o,n,e,c,hd,_⟩:=pl;exact⟨o,e,hd⟩;obtain⟨its,_,⟨o,e,c,d,_⟩,_⟩:=I.qq hq;refine⟨⟨o,e,c⟩,λa e2=>?_⟩;cases e2;exact⟨o,e,d⟩;have z:∃ o,s.heap.get? p=some o/\o.ExactDict:=by
   rcases hk with⟨kvs,hk⟩|⟨kvs,hk⟩
   obtain⟨_,_,_,_,o,_,_,e,ex,_⟩:=I.hok p _ hk;exact⟨o,e,ex⟩;obtain⟨_,_,_,_,o,_,_,e,ex,_⟩:=I.hok p _ hk;exact⟨o,e,ex⟩
  obtain⟨o,e,ex⟩:=z;refine⟨⟨o,e,ex.1⟩,λa e2=>?_⟩;cases e2;exact⟨o,e,ex.2.1⟩;obtain⟨o,_,_,_,e,ex,_⟩:=I.hok p _ hk;refine⟨⟨o,e,ex.1⟩,λa e2=>?_⟩;cases e2;exact⟨o,e,ex.2.1⟩
 |_=>exact False.elim ty
abbrev Ey(K:Zfr)(T:String)(r:V->List V->Hp->VK->Prop)(to:TE):TE:=λG H Q=>to G H λx H1=>JX K T x H1/\r x [] H1 Q
abbrev MQ(K:Zfr)(T:String)(r:V->List V->Hp->VK->Prop)(to:TE)(t:TA):TE:=λG H Q=>to G H λx H1=>JX K T x H1/\t G H1 λxs H2=>r x xs H2 Q
variable {o e:Expr}{es:List Expr}{to:TE}{t:TA}{name:Str}{apos cpos:Pos}{T id:String}{r:V->List V->Hp->VK->Prop}
def An(pa:PlainAttrs T)(slot:Slot T name id)(hty:typeOf (.builtin id)=pure (.type "method_descriptor"))(hm:yu X id r)(ho:PE X o to)
  (hbase:attributeBase o name X.env (eval o X.env)=eval o X.env:=by rfl) (hline:(apos.endLine == cpos.line)=true:=by rfl):PE X (.Call (.Attribute o name apos) [] [] cpos) (Ey X.K T r to):=by
 intro pins s G H Q I h;refine wpAny_Call_method0_late hbase hline (cf (ho pins s G H _ I h) λv s1 ⟨x,H1,I1,r1,ty,q1⟩=>?_);obtain⟨h1,h2⟩:=QL I1 r1 ty;exact⟨T,id,pa,slot,hty,h1,h2,Calls.callWith_builtin rfl (PySem.evalArgs_none (hm pins s1 G H1 x [] v [] Q I1 r1 .nil q1))⟩
def oC(pa:PlainAttrs T)(slot:Slot T name id)(hty:typeOf (.builtin id)=pure (.type "method_descriptor"))(hm:yu X id r)(ho:PE X o to)(ha:PA X (e :: es) t)
  (hbase:attributeBase o name X.env (eval o X.env)=eval o X.env:=by rfl)
  (hfew:((backTo cpos (starEach (e :: es) X.env)).all (λx=>!x.1) && (backToKw cpos (keywordEach [] X.env)).all (λx=>x.1.isSome)
   && decide ((e :: es).length+([]:List Keyword).length+(if([]:List Keyword).isEmpty then 0 else 1)<30))=true:=by rfl)
  (hline:(apos.endLine == cpos.line)=true:=by rfl) (hs:starEach (e :: es) X.env=(false,eval e X.env) :: starEach es X.env:=by rfl) (hplain:(backTo cpos (starEach es X.env)).any (·.1)=false:=by rfl) :
  PE X (.Call (.Attribute o name apos) (e :: es) [] cpos) (MQ X.K T r to t):=by
 intro pins s G H Q I h;refine wpAny_Call_method_late hbase hfew hline rfl (cf (ho pins s G H _ I h) λv s1 ⟨x,H1,I1,r1,ty,q1⟩=>?_);obtain⟨h1,h2⟩:=QL I1 r1 ty;refine⟨T,id,pa,slot,hty,h1,h2,?_⟩;have hA:=ha cpos pins s1 G H1 _ I1 q1;rw[hs]at hA ⊢;refine Calls.callWith_builtin (by show(false || (backTo cpos (starEach es X.env)).any (·.1))=false;rw[hplain]<;>rfl) (Calls.evalArgs_plain ?_);exact cf hA λus s2 ⟨vs,H2,I2,r2,q2⟩=>hm pins s2 G H2 x vs v us Q I2 r1 r2 q2
end
abbrev JY(X:Cx)(id:String)(r:V->List V->Hp->VK->Prop):Prop :=
 ∀(pins:List (Addr×Obj)) (s:Shared) (G:St) (H:Hp) (x:V) (xs:List V) (v:Value) (us:List Value) (Q:VK),Inv X pins G H s->RelV x v->Vals xs us->r x xs H Q ->
  wpAny (model X.prog X.w) X.A (call (.builtin id) (v :: us)) (EP X pins G Q) X.xe s
def Vals.one:∀{x:V} {us:List Value},Vals [x] us->∃u,us=[u]/\RelV x u
 |_,_,.cons r .nil=>⟨_,rfl,r⟩
def Vals.zero:∀{us:List Value},Vals [] us->us=[]
 |_,.nil=>rfl
def Vals.dropLast(h:Vals xs us):Vals xs.dropLast us.dropLast:=by
 induction h with
 |nil=>exact .nil
 |cons r t ih =>
  cases t with
  |nil=>exact .nil
  |cons q t'=>exact .cons r ih
def Vals.eraseIdx:∀{xs:List V} {us:List Value} (i:Nat),Vals xs us->Vals (xs.eraseIdx i) (us.eraseIdx i)
 |_,_,_,.nil=>.nil
 |_,_,0,.cons _ t=>t
 |_,_,i+1,.cons r t=>.cons r (Vals.eraseIdx i t)
def Vals.rep(h:Vals xs us):∀k:Nat,Vals (List.replicate k xs).flatten (List.replicate k us).flatten
 |0=>.nil
 |k+1=>by
  rw[ZaO,ZaO,Zbm,Zbm];exact Vals.append h (Vals.rep h k)
def WY{J:Type}(l:List J):l.eraseIdx (l.length-1)=l.dropLast:=by
 induction l with
 |nil=>rfl
 |cons a r ih =>
  cases r with
  |nil=>rfl
  |cons b r =>
   have e:(a :: b :: r).length-1=((b :: r).length-1)+1:=by
    have h1:(a :: b :: r).length=r.length+2:=rfl;have h2:(b :: r).length=r.length+1:=rfl;lk
   rw[e,List.eraseIdx_cons_succ,ih]
   all_goals rfl
def QM{J:Type}:∀(l:List J) (i:Nat),(l.eraseIdx i).length<=l.length
 |[],_=>Zad _
 |_ :: _,0=>Zb1 _
 |_ :: r,i+1=>Nat.succ_le_succ (QM r i)
def QN(its:List Value):∀(k:Nat) (acc:List Value),
  List.foldl (λx1 x2=>x1 ++ x2) acc.toArray (List.replicate k its.toArray)=(acc ++ (List.replicate k its).flatten).toArray
 |0,acc=>by simp
 |k+1,acc=>by
  have e:acc.toArray ++ its.toArray=(acc ++ its).toArray:=by simp
  have e2:(acc ++ its) ++ (List.replicate k its).flatten=acc ++ (List.replicate (k+1) its).flatten:=by
   rw[ZaO,Zbm,ZbF]
  rw[<- e2,<- QN its k (acc ++ its),<- e,ZaO,List.foldl_cons]
section
variable {X:Cx}{pins:List (Addr×Obj)}{G:St}{H:Hp}{s:Shared}{l b:Addr}{xs ys zs:List V}
def Inv.xn{its its':List Value}{n:Nat}{f:Array Value->Array Value}{t':Nat}(I:Inv X pins G H s)(hH:H l=some (.lst xs))
  (e:s.heap.get? l=some { cls:=.type "list",data:=.seq its.toArray n }) (hf:f its.toArray=its'.toArray) (hv:Vals ys its') (hz:ys.length<=sizeLine) :
  Inv X pins G (upd H l (.lst ys)) { s with heap:=s.heap.update l (Obj.mapSeq f),toks:=t' }:=by
 have q:=PySem.IsL.update e f;rw[hf]at q;refine I.write (x:=l) (e:=l) (by rw[hH];exact trivial) (.inl rfl) (λb' u hb hu=>(Zbd s.heap (Obj.mapSeq f) (Ne.symm hb)).trans hu) ⟨_,q⟩ ?_;exact⟨hz,its',_,hv,q⟩
def Inv.Ez(I:Inv X pins G H s)(hv:Vals ys its)(hz:ys.length<=sizeLine):
  Inv X pins G (upd H s.heap.objs.size (.lst ys)) { s with heap:=s.heap.push { cls:=.type "list",data:=.seq its.toArray },toks:=t' } :=
 I.laid (λ_ _ q=>Zau _ q) (Zad _) ⟨hz,its,0,hv,ZaA _ rfl⟩
def Inv.fresh(I:Inv X pins G H s):H s.heap.objs.size=none:=I.hok.fresh (Zad _)
def Inv.rn(I:Inv X pins G H s)(hH:H l=some (.lst xs)):xs.length<=sizeLine/\∃(its:List Value) (n:Nat),Vals xs its/\xs.length=its.length/\s.heap.get? l=some { cls:=.type "list",data:=.seq its.toArray n }:=by obtain⟨z,its,n,r,e⟩:=I.hok l _ hH;exact⟨z,its,n,r,r.length,e⟩
def rq(h:n<=sizeLine):Builtin.List.listTooLong n=false:=by unfold Builtin.List.listTooLong;exact decide_eq_false ⋯
end
section
variable {X:Cx}
abbrev tf:V->List V->Hp->VK->Prop:=λx vs H Q=>∃l xs y,x=.ref l/\vs=[y]/\H l=some (.lst xs)/\xs.length<sizeLine/\Q .non (upd H l (.lst (xs ++ [y])))
def pV:JY X "list.append" tf:=by intro pins s G H x vs v us Q I rx rv h;obtain⟨l,xs,y,rfl,rfl,hH,hz,q⟩:=h;cases rx;obtain⟨u,rfl,ru⟩:=rv.one;obtain⟨z,its,n,r,hl,e⟩:=I.rn hH;refine call_meets F.slot_list_append ⟨_,e,rfl⟩ F.entry_list_append (F.args_list_append_2 _ _) (PySem.list_append l its.toArray n u (by rw[Zas];lk)) ⟨e,?_⟩;refine⟨.non,_,I.xn (its':=its ++ [u]) hH e (by simp) (r.append (.cons ru .nil)) ?_,rfl,q⟩;rw[Zae,Zbh];lk
abbrev tj:V->List V->Hp->VK->Prop:=λx vs H Q=>∃l b xs zs,x=.ref l/\vs=[.ref b]/\H l=some (.lst xs)/\H b=some (.lst zs)/\xs.length+zs.length<=sizeLine/\Q .non (upd H l (.lst (xs ++ zs)))
def WZ:JY X "list.extend" tj:=by
 intro pins s G H x vs v us Q I rx rv h;obtain⟨l,b,xs,zs,rfl,rfl,hH,hB,hz,q⟩:=h;cases rx;obtain⟨u,rfl,ru⟩:=rv.one;cases ru;obtain⟨z,its,n,r,hl,e⟩:=I.rn hH;obtain⟨z2,its2,n2,r2,hl2,e2⟩:=I.rn hB;have hsz:its.toArray.size+its2.toArray.size<=sizeLine:=by rw[Zas,Zas];lk
 have u9:¬(!its.toArray.isEmpty && Builtin.List.listTooLong (its.toArray.size+its2.toArray.size))=true:=by
  rw[rq hsz,Bool.and_false];exact Zam
 refine call_meets F.slot_list_extend ⟨_,e,rfl⟩ F.entry_list_extend (F.args_list_extend_2 _ _)
  (AutoSeq1.list_extend_list_list_0 l its.toArray n b its2.toArray n2 u9 (by rw[Zas];lk) ⋯) ⟨e,e2,?_⟩
 refine⟨.non,_,I.xn (its':=its ++ its2) hH e (by simp) (r.append r2) ?_,rfl,q⟩;rw[Zae];lk
abbrev EA:V->List V->Hp->VK->Prop:=λx vs H Q=>∃l xs y,x=.ref l/\vs=[]/\H l=some (.lst xs)/\xs[xs.length-1]?=some y/\Q y (upd H l (.lst xs.dropLast))
def Ao:JY X "list.pop" EA:=by
 intro pins s G H x vs v us Q I rx rv h;obtain⟨l,xs,y,rfl,rfl,hH,hy,q⟩:=h;cases rx;have W0:=rv.zero;subst W0;obtain⟨z,its,n,r,hl,e⟩:=I.rn hH;obtain⟨u,hu,ru⟩:=r.get hy;have hy':its.toArray[its.toArray.size-1]?=some u:=by
  show its.toArray[its.length-1]?=some u;rw[<- Zb5,<- hl];exact hu
 refine call_meets F.slot_list_pop ⟨_,e,rfl⟩ F.entry_list_pop (F.args_list_pop_1 _) (MeetsSeq.list_pop_last l its.toArray n u hy' (by rw[Zas];lk)) ⟨e,?_⟩;refine⟨y,_,I.xn (its':=its.dropLast) hH e ?_ r.dropLast ?_,ru,q⟩;show its.toArray.eraseIdxIfInBounds (its.toArray.size-1)=its.dropLast.toArray;rw[Zas,List.eraseIdxIfInBounds_toArray,WY];rw[List.length_dropLast];lk
abbrev va:V->List V->Hp->VK->Prop:=λx vs H Q=>∃l xs i k y,x=.ref l/\vs=[.int i]/\H l=some (.lst xs)/\-(2 ^ 63)<=i/\i<2 ^ 63/\seqIndex? i xs.length=some k/\xs[k]?=some y/\Q y (upd H l (.lst (xs.eraseIdx k)))
def W2:JY X "list.pop" va:=by
 intro pins s G H x vs v us Q I rx rv h;obtain⟨l,xs,i,k,y,rfl,rfl,hH,h1,h2,hk,hy,q⟩:=h;cases rx;obtain⟨u,rfl,ru⟩:=rv.one;obtain⟨t,rfl⟩:=ru;obtain⟨z,its,n,r,hl,e⟩:=I.rn hH;obtain⟨w,hw,rw'⟩:=r.get hy;refine call_meets F.slot_list_pop ⟨_,e,rfl⟩ F.entry_list_pop (F.args_list_pop_2 _ _)
  (MeetsSeq.list_pop_at l its.toArray n i t k w (fitsIndex_both h1 h2) (by rw[Zas,<- hl];exact hk) (by rw[<- Zb5];exact hw) (by rw[Zas];lk)) ⟨e,?_⟩
 refine⟨y,_,I.xn (its':=its.eraseIdx k) hH e ?_ (r.eraseIdx k) ?_,rw',q⟩;show its.toArray.eraseIdxIfInBounds k=(its.eraseIdx k).toArray;rw[List.eraseIdxIfInBounds_toArray]
 have:=QM xs k
 lk
abbrev EB:R2:=λx y H Q=>∃l b xs zs,x=.ref l/\y=.ref b/\H l=some (.lst xs)/\H b=some (.lst zs)/\xs.length+zs.length<=sizeLine/\∀p,H p=none->Q (.ref p) (upd H p (.lst (xs ++ zs)))
def Ap:kY X (binaryOp .Add) EB:=by
 intro pins s G H x y v u Q I rx ry h;obtain⟨l,b,xs,zs,rfl,rfl,hH,hB,hz,q⟩:=h;cases rx;cases ry;obtain⟨z,its,n,r,hl,e⟩:=I.rn hH;obtain⟨z2,its2,n2,r2,hl2,e2⟩:=I.rn hB;refine PySem.P.add_list e e2 ?_ (by rw[Zas,Zas];lk);have ea:its.toArray ++ its2.toArray=(its ++ its2).toArray:=by simp
 rw[ea];exact⟨.ref _,_,I.Ez (t':=s.toks) (r.append r2) (by rw[Zae];lk),rfl,q _ I.fresh⟩
abbrev EC:R2:=λx y H Q=>∃l k xs,x=.ref l/\y=.int k/\H l=some (.lst xs)/\-(2 ^ 63)<=k/\k<2 ^ 63/\xs.length*k.toNat<=sizeLine /\
 ∀p,H p=none->Q (.ref p) (upd H p (.lst (List.replicate k.toNat xs).flatten))
def xdg{J:Type}(xs:List J)(k:Nat):(List.replicate k xs).flatten.length=k*xs.length:=by
 induction k with
 |zero=>simp
 |succ k ih=>rw[ZaO,Zbm,Zae,ih,Zch,Nat.add_comm]
def MR:kY X (binaryOp .Mult) EC:=by
 intro pins s G H x y v u Q I rx ry h;obtain⟨l,k,xs,rfl,rfl,hH,h1,h2,hz,q⟩:=h;cases rx;obtain⟨t,rfl⟩:=ry;obtain⟨z,its,n,r,hl,e⟩:=I.rn hH;have hlen:its.toArray.size*k.toNat<=sizeLine:=by rw[Zas,<- hl];exact hz
 have hcap:¬its.toArray.size*k.toNat > (2 ^ 63-1) / 8:=by
  have:(sizeLine:Nat)<=(2 ^ 63-1) / 8:=by decide
  lk
 have hfit:¬(!Builtin.List.listFitsIndex k)=true:=by
  rw[fitsIndex_both h1 h2];exact Zam
 have u9:¬Builtin.List.listTooLong (its.toArray.size*k.toNat)=true:=by
  rw[rq hlen];exact Zam
 have hnew:List.foldl (λx1 x2=>x1 ++ x2) #[] (List.replicate (if its.toArray.isEmpty=true then 0 else k.toNat) its.toArray)=(List.replicate k.toNat its).flatten.toArray:=by
  have f0:∀m:Nat,List.foldl (λx1 x2=>x1 ++ x2) #[] (List.replicate m its.toArray)=(List.replicate m its).flatten.toArray:=λm=>by
   have:=QN its m [];rw[List.nil_append]at this;exact this
  rw[f0];cases its with
  |nil=>simp
  |cons a r'=>rw[if_neg (by simp)]
 refine wpAny_binaryOp_repeat_ref (T:="list") (U:="int") ∅ ⟨_,e,rfl⟩ (λs'=>typeIs_int s' k t) noFill_list_mul F.fills_int_mul F.slot_int_rmul repeat_list F.slot_int_index.lookup
  (call_meets F.slot_int_rmul (typeIs_int s k t) F.entry_int_rmul (F.args_int_rmul_2 _ _) (int___rmul___int_list k t l its.toArray n)
   ⟨e,rfl,⟨_,e,rfl⟩,call_meets F.slot_list_mul ⟨_,e,rfl⟩ F.entry_list_mul (F.args_list_mul_2 _ _) (AutoListH.list___mul___list_int_3 l its.toArray n k t hfit hcap u9) ⟨e,?_⟩⟩)
 rw[hnew];exact⟨.ref _,_,I.Ez (t':=s.toks) (r.rep k.toNat) (by rw[xdg,Zci];exact hz),rfl,q _ I.fresh⟩
end
section
variable {F:Type}[DecidableEq F]
abbrev jK(kvs:List (F×V))(k:F):Option V:=(kvs.find? λkv=>decide (kv.1=k)).map (·.2)
abbrev putK(kvs:List (F×V))(k:F)(v:V):List (F×V) :=
 if(kvs.any λkv=>decide (kv.1=k))=true then kvs.map (λkv=>if kv.1=k then(kv.1,v)else kv)else kvs ++ [(k,v)]
def MS{p:F×V}{r:List (F×V)}{k:F}(e:p.1=k):jK (p :: r) k=some p.2:=by simp[jK,ZaU,e]
def MT{p:F×V}{r:List (F×V)}{k:F}(e:¬p.1=k):jK (p :: r) k=jK r k:=by simp[jK,ZaU,e]
def QO(k:F):∀kvs:List (F×V),(kvs.any λkv=>decide (kv.1=k))=(jK kvs k).isSome
 |[]=>rfl
 |p :: r=>by
  rw[Za1];by_cases e:p.1=k;simp only[MS e,decide_eq_true e,Bool.true_or,Option.isSome_some];rw[MT e,decide_eq_false e,Bool.false_or];exact QO k r
def MU(kvs:List (F×V))(k:F)(v:V):(putK kvs k v).length<=kvs.length+1:=by unfold putK;split;rw[Zaa];lk;rw[Zae,ZaD,Zcv];lk
def pT.jL(r:pT o u):o.isSome=u.isSome:=by
 cases o with
 |none=>cases u with
  |none=>rfl
  |some _=>exact(show False from r).elim
 |some _=>cases u with
  |none=>exact(show False from r).elim
  |some _=>rfl
def KV.val(r:KV kvs vs)(k:F):pT (jK kvs k) (valueAt vs k):=by
 unfold KV at r
 induction r with
 |nil=>exact True.intro
 |@cons p q ps qs h t ih =>
  obtain⟨h1,h2⟩:=h;by_cases e:p.1=k;have e':q.1=k:=h1.symm.trans e;have b:valueAt (q :: qs) k=some q.2:=by simp[valueAt,ZaU,e']
  rw[MS e,b];exact h2;have e':¬q.1=k:=λz=>e (h1.trans z);have b:valueAt (q :: qs) k=valueAt qs k:=by simp[valueAt,ZaU,e']
  rw[MT e,b];exact ih
def KV.any(r:KV kvs vs)(k:F):(kvs.any λkv=>decide (kv.1=k))=vs.any λkv=>decide (kv.1=k):=by
 unfold KV at r
 induction r with
 |nil=>rfl
 |cons h t ih=>rw[Za1,Za1,ih,h.1]
def KV.repl(r:KV kvs vs)(k:F)(ry:RelV y u):
  KV (kvs.map λkv=>if kv.1=k then(kv.1,y)else kv) (vs.map λkv=>if kv.1=k then(kv.1,u)else kv):=by
 unfold KV at r ⊢
 induction r with
 |nil=>exact .nil
 |@cons p q ps qs h t ih =>
  rw[Zaz,Zaz];refine .cons ?_ ih;obtain⟨h1,h2⟩:=h;by_cases e:p.1=k;rw[if_pos e,if_pos (h1.symm.trans e)];exact⟨h1,ry⟩;rw[if_neg e,if_neg (λz=>e (h1.trans z))];exact⟨h1,h2⟩
def KV.put(r:KV kvs vs)(k:F)(ry:RelV y u):KV (putK kvs k y) (stored vs k u):=by unfold putK stored;rw[r.any k];by_cases e:(vs.any λkv=>decide (kv.1=k))=true;rw[if_pos e,if_pos e];exact r.repl k ry;rw[if_neg e,if_neg e];exact Paired.snoc r ⟨rfl,ry⟩
def KV.length{kvs:List (F×V)}{vs:List (F×Value)}(r:KV kvs vs):kvs.length=vs.length:=Paired.length r
end
def CY(r:RelV (kV k) u):(cq P w).is k u=true:=by
 cases k with
 |inl i=>obtain⟨t,e⟩:=(show∃t,u=Value.int i t from r);subst e;exact Wj P w i t
 |inr x=>obtain⟨t,e⟩:=(show∃t,u=Value.str x t from r);subst e;exact Wk P w x t
def QP:∀{ks:List Key} {us:List Value},Vals (ks.map kV) us->ItemsAre (cq P w) ks us
 |[],_,r=>by rw[ZaW]at r;cases r;exact .nil
 |k :: ks,_,r=>by
  rw[Zaz]at r;cases r with
  |cons h t=>exact .cons (CY h) (QP t)
@[reducible]def KT(H:Hp):List (List Key×V)->List (List Key×Addr×Value)->Prop:=Paired λp q=>p.1=q.1/\H q.2.1=some (.tup (p.1.map kV))/\RelV p.2 q.2.2
def KT.val(r:KT H kvs xs)(k:List Key):pT (jK kvs k) ((atKey xs k).map (·.2)):=by
 induction r with
 |nil=>exact True.intro
 |@cons p q ps qs h t ih =>
  obtain⟨h1,_,h2⟩:=h;by_cases e:p.1=k;have e':q.1=k:=h1.symm.trans e;have b:atKey (q :: qs) k=some q.2:=by simp[atKey,ZaU,e']
  rw[MS e,b];exact h2;have e':¬q.1=k:=λz=>e (h1.trans z);have b:atKey (q :: qs) k=atKey qs k:=by simp[atKey,ZaU,e']
  rw[MT e,b];exact ih
def KT.repl(r:KT H kvs xs)(k:List Key)(ry:RelV y u):
  KT H (kvs.map λkv=>if kv.1=k then(kv.1,y)else kv) (xs.map (putAt k u)):=by
 induction r with
 |nil=>exact .nil
 |@cons p q ps qs h t ih =>
  rw[Zaz,Zaz];refine .cons ?_ ih;obtain⟨h1,h2,h3⟩:=h;unfold putAt;by_cases e:p.1=k;rw[if_pos e,if_pos (h1.symm.trans e)];exact⟨h1,h2,ry⟩;rw[if_neg e,if_neg (λz=>e (h1.trans z))];exact⟨h1,h2,h3⟩
def KT.put(r:KT H kvs xs)(k:List Key)(hb:H b=some (.tup (k.map kV)))(ry:RelV y u):
  KT H (putK kvs k y) (storedH xs k b u):=by
 have e:(kvs.any λkv=>decide (kv.1=k))=(atKey xs k).isSome:=by
  rw[QO,(r.val k).jL,Option.isSome_map]
 unfold putK storedH;rw[e];by_cases q:(atKey xs k).isSome=true;rw[if_pos q,if_pos q];exact r.repl k ry;rw[if_neg q,if_neg q];exact Paired.snoc r ⟨rfl,hb,ry⟩
def KT.keeps(r:KT H kvs xs)(ht:∀b ys,H b=some (.tup ys)->H' b=some (.tup ys)):KT H' kvs xs :=
 Paired.zP r λ_ _ z=>⟨z.1,ht _ _ z.2.1,z.2.2⟩
section
variable {P:Program}{w:World}{H:Hp}{h:Heap}{a:Addr}
def yz(ok:nu P w H h)(e:Rd H a u):bP P w H h a u:=e.ok ok
def ED(ok:nu P w H h)(e:Rd H a (.dK kvs)):kvs.length<=sizeLine/\(a == sysModules)=false/\∃vs,KV kvs vs/\h.DictOf (cq P w) a vs :=
 show bP P w H h a (.dK kvs)from yz ok e
def yA(ok:nu P w H h)(e:H a=some (.dK kvs)):kvs.length<=sizeLine/\(a == sysModules)=false/\∃vs,KV kvs vs/\h.DictOf (cq P w) a vs:=ED ok (.inl e)
def vd(ok:nu P w H h)(e:H a=some (.tup (ks.map kV))):(tupleKind (cq P w)).is h ks a:=by obtain⟨_,its,r,o,h1,h2,_,n,h3⟩:=(show bP P w H h a (.tup (ks.map kV))from ok a _ e);exact⟨o,its.toArray,n,h1,h2,h3,by simpa using QP r⟩
def EE(ok:nu P w H h)(e:Rd H a (.dT kvs)):kvs.length<=sizeLine/\(a == sysModules)=false /\
  ∃xs,KT H kvs xs/\h.DictOfH (tupleKind (cq P w)) a xs:=by
 obtain⟨z,y,xs,r,o,es,ep,h1,h2,h3,h4,h5⟩:=(show bP P w H h a (.dT kvs)from yz ok e);refine⟨z,y,xs,r,o,es,ep,h1,h2,h3,h4,λx hx=>?_,h5⟩;have all:∀{l:List (List Key×V)} {m:List (List Key×Addr×Value)},KT H l m->∀x∈m,(tupleKind (cq P w)).is h x.1 x.2.1:=by
  intro l m q
  induction q with
  |nil=>intro x hx;exact nomatch hx
  |@cons p q ps qs hq t ih =>
   intro x hx;rcases ZaE.mp hx with e|hx
   subst e;exact vd ok (by rw[<- hq.1];exact hq.2.1);exact ih x hx
 exact all r x hx
def EF(ok:nu P w H h)(e:H a=some (.dT kvs)):kvs.length<=sizeLine/\(a == sysModules)=false /\
  ∃xs,KT H kvs xs/\h.DictOfH (tupleKind (cq P w)) a xs:=EE ok (.inl e)
end
abbrev mM(H:Hp)(a:Addr)(y:V)(r:Option V):Prop :=
 (∃kvs k,Rd H a (.dK kvs)/\y=kV k/\r=jK kvs k)\/∃kvs k b,Rd H a (.dT kvs)/\y=.ref b/\H b=some (.tup (k.map kV))/\r=jK kvs k
abbrev rA(H:Hp)(a:Addr)(y v:V)(H':Hp):Prop :=
 (∃kvs k,H a=some (.dK kvs)/\y=kV k/\kvs.length<sizeLine/\H'=upd H a (.dK (putK kvs k v))) \/
 ∃kvs k b,H a=some (.dT kvs)/\y=.ref b/\H b=some (.tup (k.map kV))/\kvs.length<sizeLine/\H'=upd H a (.dT (putK kvs k v))
def mM.k{H:Hp}{a:Addr}{kvs:List (Key×V)}{k:Key}(e:H a=some (.dK kvs)):mM H a (kV k) (jK kvs k):=.inl ⟨kvs,k,.inl e,rfl,rfl⟩
def mM.t{H:Hp}{a b:Addr}{kvs:List (List Key×V)}{k:List Key}(e:H a=some (.dT kvs))(eb:H b=some (.tup (k.map kV))):mM H a (.ref b) (jK kvs k):=.inr ⟨kvs,k,b,.inl e,rfl,eb,rfl⟩
def rA.k{H:Hp}{a:Addr}{kvs:List (Key×V)}{k:Key}{v:V}(e:H a=some (.dK kvs))(hl:kvs.length<sizeLine):rA H a (kV k) v (upd H a (.dK (putK kvs k v))):=.inl ⟨kvs,k,e,rfl,hl,rfl⟩
def rA.t{H:Hp}{a b:Addr}{kvs:List (List Key×V)}{k:List Key}{v:V}(e:H a=some (.dT kvs))(eb:H b=some (.tup (k.map kV)))(hl:kvs.length<sizeLine):
  rA H a (.ref b) v (upd H a (.dT (putK kvs k v))):=.inr ⟨kvs,k,b,e,rfl,eb,hl,rfl⟩
section
variable {X:Cx}{pins:List (Addr×Obj)}{G:St}{H:Hp}{s:Shared}{a:Addr}{y v:V}{u r:Value}{o:Option V}{A:Around}{E:Value->Shared->Prop}
def Inv.big(I:Inv X pins G H s):sysModules<s.heap.objs.size:=by have h:mainGlobals<s.heap.objs.size:=(I.mod.glob.keeps I.bk).lt;exact Nat.lt_trans ∅ h
def W3(hu:A.units+1<cLine)(I:Inv X pins G H s)(g:mM H a y (some v))(ry:RelV y u)(h:∀w' s',Inv X pins G H s'->RelV v w'->Q w' s'):
  wpAny (model X.prog X.w) A (getItem (.ref a) u) Q E s:=by
 rcases g with⟨kvs,k,e,ey,l⟩|⟨kvs,k,b,e,ey,eb,l⟩
 subst ey;obtain⟨z,hd,vs,rel,dd⟩:=ED I.hok e;obtain⟨w',hw,rw'⟩:=pT.some_of (v:=v) (o:=valueAt vs k) (by rw[l];exact rel.val k);exact wpAny_getItem_of (CY ry) dd.mapOf hw (h w' _ (I.tok _) rw');subst ey;cases(show u=Value.ref b from ry);obtain⟨z,hd,xs,rel,dd⟩:=EE I.hok e;obtain⟨w',hw,rw'⟩:=pT.some_of (v:=v) (o:=(atKey xs k).map (·.2)) (by rw[l];exact rel.val k);obtain⟨p,hp,hp2⟩:=Zay.mp hw;refine wpAny_getItem_heap (tupleKind_room_in1 hu) (vd I.hok eb) dd hp ?_;rw[hp2];exact h w' _ (I.tok _) rw'
def MV(hu:A.units+1<cLine)(I:Inv X pins G H s)(g:mM H a y o)(ry:RelV y u)(h:∀s',Inv X pins G H s'->Q (.bool o.isSome) s'):
  wpAny (model X.prog X.w) A (compareOp .In u (.ref a)) Q E s:=by
 rcases g with⟨kvs,k,e,ey,l⟩|⟨kvs,k,b,e,ey,eb,l⟩
 subst ey;obtain⟨z,hd,vs,rel,dd⟩:=ED I.hok e;refine wpAny_in_of (CY ry) hd dd.mapOf ?_;rw[<- (rel.val k).jL,<- l];exact h _ (I.tok _);subst ey;cases(show u=Value.ref b from ry);obtain⟨z,hd,xs,rel,dd⟩:=EE I.hok e;refine wpAny_in_heap (tupleKind_room_in1 hu) (vd I.hok eb) hd dd ?_;have q:=(rel.val k).jL;rw[Option.isSome_map]at q;rw[<- q,<- l];exact h _ (I.tok _)
def W4(hu:A.units+1<cLine)(I:Inv X pins G H s)(g:mM H a y o)(ry:RelV y u)(h:∀s',Inv X pins G H s'->Q (.bool (!o.isSome)) s'):
  wpAny (model X.prog X.w) A (compareOp .NotIn u (.ref a)) Q E s:=by
 rcases g with⟨kvs,k,e,ey,l⟩|⟨kvs,k,b,e,ey,eb,l⟩
 subst ey;obtain⟨z,hd,vs,rel,dd⟩:=ED I.hok e;refine wpAny_notIn_of (CY ry) hd dd.mapOf ?_;rw[<- (rel.val k).jL,<- l];exact h _ (I.tok _);subst ey;cases(show u=Value.ref b from ry);obtain⟨z,hd,xs,rel,dd⟩:=EE I.hok e;refine wpAny_notIn_heap (tupleKind_room_in1 hu) (vd I.hok eb) hd dd ?_;have q:=(rel.val k).jL;rw[Option.isSome_map]at q;rw[<- q,<- l];exact h _ (I.tok _)
def MW(I:Inv X pins G H s)(mu:DP (H a))(hs:Heap.SameBut a s.heap h')(he:∃q,h'.get? a=some q)(new:bP X.prog X.w (upd H a ob) h' a ob):
  Inv X pins G (upd H a ob) { s with heap:=h',toks:=t' } :=
 I.write (x:=a) (e:=a) mu (.inl rfl) (λb q hb z=>(hs.2 b hb).trans z) he new
def QQ(z:kvs.length<=sizeLine)(hd:(a == sysModules)=false)(rel:KV kvs vs)(dd:h'.DictOf (cq P w) a vs):
  bP P w H' h' a (.dK kvs):=⟨z,hd,vs,rel,dd⟩
def W5(hu:A.units+1<cLine)(I:Inv X pins G H s)(g:rA H a y v H')(ry:RelV y u)(rv:RelV v r)(h:∀s',Inv X pins G H' s'->Q () s'):
  wpAny (model X.prog X.w) A (setItem (.ref a) u r) Q E s:=by
 rcases g with⟨kvs,k,e,ey,l,eH⟩|⟨kvs,k,b,e,ey,eb,l,eH⟩
 subst ey eH;obtain⟨z,hd,vs,rel,dd⟩:=yA I.hok e;have hz:vs.length<=sizeLine:=by rw[<- rel.length];exact z
 have hl:(putK kvs k v).length<=sizeLine:=by have:=MU kvs k v;lk
 refine wpAny_setItem_pairs (hsz:=hz) (CY ry) dd λh' Aq hs=>h _ ?_;have he:∃q,h'.get? a=some q:=let ⟨q,_,_,hq,_⟩:=Aq;⟨q,hq⟩
 exact MW I (by rw[e];exact True.intro) hs he (QQ hl hd (rel.put k rv) Aq);subst ey eH;cases(show u=Value.ref b from ry);obtain⟨z,hd,xs,rel,dd⟩:=EF I.hok e;have hz:xs.length<=sizeLine:=by rw[<- Paired.length rel];exact z
 have hl:(putK kvs k v).length<=sizeLine:=by have:=MU kvs k v;lk
 refine wpAny_setItem_heap (hsz:=hz) (tupleKind_room_in1 hu) (vd I.hok eb) dd λh' Aq hs=>h _ ?_;obtain⟨q,es,ep,hq,h2,h3,h4,_,h5⟩:=Aq;refine MW I (by rw[e];exact True.intro) hs ⟨q,hq⟩ ⟨hl,hd,_,(rel.put k eb rv).keeps λc ys ec=>?_,q,es,ep,hq,h2,h3,h4,h5⟩;rw[jI (Ms ec e (λz=>nomatch z))];exact ec
end
abbrev EG(i:Expr):Prop:=∀ov iv,subscripted i false ov iv=operate [ov,iv] (getItem ov iv)
def W6{prog:Program}{w:World}{A:Around}{E:Value->Shared->Prop}{s:Shared}{env:Env}{value slice:Expr}{pos:Pos}{T id:String}{Q:Value->Shared->Prop}
  (hl:typeLookup (.type T) "__getitem__" = pure (some (.builtin id))) (hs:EG slice)
  (h:wpAny (model prog w) A (eval value env) (λo s₁=>wpAny (model prog w) A (eval slice env) (λi s₂=>s₂.TypeIs o T/\wpAny (model prog w) A (getItem o i) Q E s₂) E s₁) E s) :
  wpAny (model prog w) A (eval (.Subscript value slice pos) env) Q E s:=by
 refine Subscript_ (wpAny_mono h (λo s₁ h₁=>wpAny_mono h₁ (λi s₂ h₂=>?_) λ_ _ x=>x) λ_ _ x=>x);obtain⟨hT,h₂⟩:=h₂;unfold subscriptTail;refine wpAny_bind ?_;rw[getitemInPython_of_ne hT.not_modules];refine wpAny_bind (wpAny_specialOf hT hl ?_);have fin:wpAny (model prog w) A (subscripted slice false o i) (λr s₃=>wpAny (model prog w) A (letTemporaryGo value o r >>= λ_=>pure r) Q E s₃) E s₂:=by
  rw[hs o i];exact wpAny_operating (wpAny_mono h₂ (λr s₃ h₃=>wpAny_bind (wpAny_letTemporaryGo (wpAny_pure h₃))) λ_ _ x=>x)
 first
  |exact wpAny_pure (wpAny_bind fin)
  |exact wpAny_bind (wpAny_pure (wpAny_bind fin))
  |exact wpAny_bind fin
def W7{X:Cx}{pins:List (Addr×Obj)}{G:St}{H:Hp}{s:Shared}{a:Addr}{y:V}{o:Option V}(I:Inv X pins G H s)(g:mM H a y o):s.TypeIs (.ref a) "dict" := by
 rcases g with⟨kvs,k,e,_,_⟩|⟨kvs,k,b,e,_,_,_⟩
 obtain⟨_,_,vs,_,dd⟩:=ED I.hok e;exact dd.typeIs;obtain⟨_,_,xs,_,dd⟩:=EE I.hok e;exact dd.typeIs
abbrev ve(td ty:TE):TE:=λG H Q=>td G H λx H1=>ty G H1 λy H2=>∃a v,x=.ref a/\mM H2 a y (some v)/\Q v H2
abbrev EH(ty td:TE):TE:=λG H Q=>ty G H λy H1=>td G H1 λx H2=>∃a o,x=.ref a/\mM H2 a y o/\Q (.bl o.isSome) H2
abbrev tm(ty td:TE):TE:=λG H Q=>ty G H λy H1=>td G H1 λx H2=>∃a o,x=.ref a/\mM H2 a y o/\Q (.bl (!o.isSome)) H2
abbrev vf(td ty tv:TE):TS:=λD G H=>tv G H λv H1=>td G H1 λx H2=>ty G H2 λy H3=>∃a H4,x=.ref a/\rA H3 a y v H4/\D.nx G H4
section
variable {X:Cx}{o i e value:Expr}{pos pos' tpos:Pos}{td ty tv:TE}
def QR(hu:X.A.units+1<cLine)(ho:PE X o td)(hi:PE X i ty)(hs:EG i):PE X (.Subscript o i pos) (ve td ty):=by intro pins s G H Q I h;refine W6 PySem.F.slot_dict_getitem.lookup hs (cf (ho pins s G H _ I h) λu s1 ⟨x,H1,I1,rx,q1⟩=>cf (hi pins s1 G H1 _ I1 q1) λiv s2 ⟨y,H2,I2,ry,a,v,ex,g,q2⟩=>?_);subst ex;obtain rfl:u=Value.ref a:=rx;exact⟨W7 I2 g,W3 hu I2 g ry λw' s3 I3 rw'=>⟨v,H2,I3,rw',q2⟩⟩
def Ar(hu:X.A.units+1<cLine)(hi:PE X i ty)(ho:PE X o td):PC X .In i o (EH ty td):=by intro pins s G H Q I h;refine cf (hi pins s G H _ I h) λiv s1 ⟨y,H1,I1,ry,q1⟩=>cf (ho pins s1 G H1 _ I1 q1) λu s2 ⟨x,H2,I2,rx,a,ov,ex,g,q2⟩=>?_;subst ex;obtain rfl:u=Value.ref a:=rx;exact MV hu I2 g ry λs3 I3=>⟨.bl ov.isSome,H2,I3,rfl,q2⟩
def W8(hu:X.A.units+1<cLine)(hi:PE X i ty)(ho:PE X o td):PC X .NotIn i o (tm ty td):=by intro pins s G H Q I h;refine cf (hi pins s G H _ I h) λiv s1 ⟨y,H1,I1,ry,q1⟩=>cf (ho pins s1 G H1 _ I1 q1) λu s2 ⟨x,H2,I2,rx,a,ov,ex,g,q2⟩=>?_;subst ex;obtain rfl:u=Value.ref a:=rx;exact W4 hu I2 g ry λs3 I3=>⟨.bl (!ov.isSome),H2,I3,rfl,q2⟩
def QS(hu:X.A.units+1<cLine)(ho:PE X o td)(hi:PE X i ty)(hv:PE X value tv)(hs:swapsWith value (some (.Subscript o i pos')) pos.line X.env=pure false):
  PS X (.Assign [.Subscript o i pos'] value pos) (vf td ty tv):=by
 intro pins s G H D I h;refine wpAny_Assign_Subscript (cf (hv pins s G H _ I h) λr s1 ⟨v,H1,I1,rv,q1⟩=>cf (ho pins s1 G H1 _ I1 q1) λu s2 ⟨x,H2,I2,rx,q2⟩=>cf (hi pins s2 G H2 _ I2 q2) λiv s3 ⟨y,H3,I3,ry,a,H4,ex,g,q3⟩=>?_) hs;subst ex;obtain rfl:u=Value.ref a:=rx;exact W5 hu I3 g ry rv λs4 I4=>⟨G,H4,I4,q3⟩
end
def QT(h:Heap)(hb:sysModules<h.objs.size):bP P w H (h.push { cls:=.type "dict",data:=.dict #[] }) h.objs.size (.dK []) :=
 ⟨ZaK _,beq_eq_false_iff_ne.mpr (Ne.symm (ZaS hb)),[],.nil,Heap.DictOf.new h⟩
def W9(h:Heap)(hb:sysModules<h.objs.size):bP P w H (h.push { cls:=.type "dict",data:=.dict #[] }) h.objs.size (.dT []) :=
 ⟨ZaK _,beq_eq_false_iff_ne.mpr (Ne.symm (ZaS hb)),[],.nil,_,#[],0,ZaA _ rfl,⟨rfl,rfl,rfl⟩,rfl,rfl,List.nodup_nil⟩
abbrev vg:TE:=λ_ H Q=>∀p,H p=none->Q (.ref p) (upd H p (.dK []))
abbrev vh:TE:=λ_ H Q=>∀p,H p=none->Q (.ref p) (upd H p (.dT []))
section
variable {X:Cx}{pos:Pos}
def Xa:PE X (.Dict [] [] pos) vg:=λpins s G H Q I h =>
 wpAny_Dict_empty ⟨.ref s.heap.objs.size,_,I.laid (a:=s.heap.objs.size) (o:=.dK []) (t':=s.toks) (λ_ _ q=>Zau _ q) (Zad _) (QT s.heap I.big),rfl,h _ (I.hok.fresh (Zad _))⟩
def Xb:PE X (.Dict [] [] pos) vh:=λpins s G H Q I h =>
 wpAny_Dict_empty ⟨.ref s.heap.objs.size,_,I.laid (a:=s.heap.objs.size) (o:=.dT []) (t':=s.toks) (λ_ _ q=>Zau _ q) (Zad _) (W9 s.heap I.big),rfl,h _ (I.hok.fresh (Zad _))⟩
end
abbrev qw:List (TE×TE)->St->Hp->(List (V×V)->Hp->Prop)->Prop
 |[],_,H,Q=>Q [] H
 |(tk,tv) :: r,G,H,Q=>tk G H λx H1=>tv G H1 λy H2=>qw r G H2 λps H3=>Q ((x,y) :: ps) H3
@[reducible]def VV:List (V×V)->List (Value×Value)->Prop:=Paired λp q=>RelV p.1 q.1/\RelV p.2 q.2
abbrev JZ(X:Cx)(pos:Pos)(keys:List (Option Expr))(values:List Expr)(rB:List (TE×TE)):Prop :=
 ∀(pins:List (Addr×Obj)) (s:Shared) (G:St) (H:Hp) (Q:List (V×V)->Hp->Prop),Inv X pins G H s->qw rB G H Q ->
  wpAny (model X.prog X.w) X.A (evalPairs (pairTrees keys values X.env pos)) (λvs s'=>∃ps H',Inv X pins G H' s'/\VV ps vs/\Q ps H') X.xe s
def Xc:JZ X pos [] [] []:=λpins s G H Q I h=>pairTrees_nil_walk ⟨[],H,I,.nil,h⟩
def QU{X:Cx}{pos:Pos}{k v:Expr}{ks:List (Option Expr)}{vs:List Expr}{tk tv:TE}{rB:List (TE×TE)}(hk:PE X k tk)(hv:PE X v tv)(hr:JZ X pos ks vs rB):
  JZ X pos (some k :: ks) (v :: vs) ((tk,tv) :: rB):=λpins s G H Q I h =>
 pairTrees_cons_walk (cf (hk pins s G H _ I h) λu s1 ⟨x,H1,I1,rx,q1⟩=>cf (hv pins s1 G H1 _ I1 q1) λw2 s2 ⟨y,H2,I2,ry,q2⟩ =>
  cf (hr pins s2 G H2 _ I2 q2) λws s3 ⟨ps,H3,I3,rel,q3⟩=>⟨(x,y) :: ps,H3,I3,.cons ⟨rx,ry⟩ rel,q3⟩)
abbrev nZ(kvs more:List (Key×V)):List (Key×V):=more.foldl (λacc kv=>putK acc kv.1 kv.2) kvs
def KV.merge:∀{more:List (Key×V)} {rs:List (Key×Value)} {kvs:List (Key×V)} {vs:List (Key×Value)},KV more rs->KV kvs vs->KV (nZ kvs more) (merged vs rs):=by
 intro more rs kvs vs r;unfold KV at r
 induction r generalizing kvs vs with
 |nil=>intro q;exact q
 |@cons p q ps qs h t ih =>
  intro r0;have e:KV (putK kvs p.1 p.2) (stored vs q.1 q.2):=by
   have:=r0.put p.1 h.2;rw[<- h.1];exact this
  exact ih e
def QV:∀(more kvs:List (Key×V)),(nZ kvs more).length<=kvs.length+more.length
 |[],kvs=>by show kvs.length<=kvs.length+0;lk
 |p :: r,kvs=>by
  have h1:=QV r (putK kvs p.1 p.2);have h2:=MU kvs p.1 p.2;show(nZ (putK kvs p.1 p.2) r).length<=_;rw[ZaD];lk
def QW:∀{kvs:List (Key×V)} {ws:List (Value×Value)},VV (kvs.map λkv=>(kV kv.1,kv.2)) ws->∃rs,Carries (cq P w) ws rs/\KV kvs rs
 |[],_,r=>by rw[ZaW]at r;cases r;exact⟨[],True.intro,.nil⟩
 |p :: kvs,_,r=>by
  rw[Zaz]at r;cases r with
  |@cons a b as bs h t =>
   obtain⟨rs,c,q⟩:=QW (P:=P) (w:=w) t;obtain⟨b1,b2⟩:=b;exact⟨(p.1,b2) :: rs,⟨CY h.1,rfl,c⟩,.cons ⟨rfl,h.2⟩ q⟩
abbrev yB(rB:List (TE×TE)):TE:=λG H Q=>∀p,H p=none->qw rB G (upd H p (.dK [])) λps H2=>H2 p=some (.dK [])/\∃kvs:List (Key×V),ps=kvs.map (λkv=>(kV kv.1,kv.2))/\kvs.length<=15/\Q (.ref p) (upd H2 p (.dK (nZ [] kvs)))
def Xe{X:Cx}{pos:Pos}{keys:List (Option Expr)}{values:List Expr}{rB:List (TE×TE)}(h:JZ X pos keys values rB)(hall:keys.all (·.isSome)=true)(hl:keys.length=values.length)(h0:keys≠[])
  (Xf:keys.length<=15):PE X (.Dict keys values pos) (yB rB):=by
 intro pins s G H Q I q;have hn:=I.hok.fresh (Zad s.heap.objs.size);have I1:=I.laid (a:=s.heap.objs.size) (o:=.dK []) (h':=s.heap.push { cls:=.type "dict",data:=.dict #[] }) (t':=s.toks) (λ_ _ q=>Zau _ q) (Zad _) (QT s.heap I.big);refine wpAny_Dict_walk (knd:=cq X.prog X.w) hall hl h0 Xf (cf (h pins _ G _ _ I1 (q _ hn)) λws s2 ⟨ps,H2,I2,rel,e,kvs,ep,lk,q2⟩=>?_);subst ep;obtain⟨rs,c,rk⟩:=QW (P:=X.prog) (w:=X.w) rel;obtain⟨z,hd,vs0,r0,dd⟩:=yA I2.hok e;cases r0;refine⟨rs,c,dd,λh' Aq hs=>⟨.ref s.heap.objs.size,_,?_,rfl,q2⟩⟩;have hz:(nZ [] kvs).length<=sizeLine:=by
  have h1:=QV kvs [];rw[Zcv]at h1;rw[sizeLine_eq];lk
 have he:∃q,h'.get? s.heap.objs.size=some q:=let ⟨q,_,_,hq,_⟩:=Aq;⟨q,hq⟩
 exact MW I2 (by rw[e];exact True.intro) hs he (QQ hz hd (rk.merge .nil) Aq)
end L2
namespace QX
open PySem PySem.W PySem.Calls PyProof.Rows
def Xg:∀(ns:List Int) (vs:List Value),WellAll P h vs (ns.map WData.int)->IntsAre vs ns:=by
 intro ns
 induction ns with
 |nil =>
  intro vs w;rw[ZaW]at w;cases w;exact .nil
 |cons n ns ih =>
  intro vs w;rw[Zaz]at w;cases w with
  |cons a b =>
   cases a;exact .cons _ _ (ih _ b)
def Xh{l:OpenLaw}{n:Nat}(hn:l.most=some n){P:Params}{h:Heap}{args:List WData}{vals:List Value}
  (hpre:l.row.toRowW.claim.pre args=true) (hwl:WellAll P h vals args) :
  ∃a vs ns,vals=[Value.ref a]/\args=[WData.list (ns.map WData.int)]/\h.get? a=some { cls:=.type "list",data:=.seq vs.toArray }/\IntsAre vs ns/\ns.length<=n:=by
 have hsh:WShape.hasAll [] args [.list .int]=true:=(pre_splitW hpre).1;have hc:l.pre.holds [] { args:=args }=true:=(pre_splitW hpre).2;obtain⟨d,r,rfl,h1,h2⟩:=hasAllW_cons hsh;obtain rfl:=hasAllW_nil h2;obtain⟨xs,rfl,h3⟩:=hasW_list h1;obtain⟨ns,rfl⟩:=items_int h3;have hlen:ns.length<=n:=by
  unfold OpenLaw.pre at hc;have h4:(WTm.not (.lt (.lit (.int (n:Int))) (.len (.arg 0)))).holds [] { args:=[.list (ns.map .int)] }=true:=by
   have h4:=(holds_andW hc).1;rw[hn]at h4;exact h4
  have h5:=condW_of h4 (w_not (w_lt w_lit (w_len_list (w_arg rfl))));rw[Zaa]at h5;refine Zcn λq=>?_;have q':(n:Int)<((ns.length:Nat):Int):=by lk
  first
   |(rw[decide_eq_true q']at h5;exact absurd h5 ∅)
   |(simp at h5;lk)
 cases hwl with
 |cons w1 w2 =>
  cases w2;cases w1 with
  |list ho hall=>exact⟨_,_,ns,rfl,rfl,ho,Xg ns _ hall,hlen⟩
def Xi(l:OpenLaw)(args:List WData):l.row.toRowW.claim.post args (.bool true) args=true :=
 postW_of (r:=l.row.toRowW) (X:=(true == true))
  (show WShape.has [] (.bool true) .bool=true by first|rfl|decide|simp[WShape.has,WShape.arms,WShape.armsAll])
  (show(WTm.eq .res (.lit (.bool true))).value [] { args:=args,res:=some (.bool true),after:=args }=some (.bool (true == true))from w_eq_bool (w_res rfl) w_lit) rfl
def Xj{l:OpenLaw}{n:Nat}{q:Program}{loose:List Str}{XP:(Str->Option Value)->Heap->Prop}{YP:World->Heap->Prop}{d:DefRec}
  (hn:l.most=some n) (hdf:d.params.defaults=[])
  (call:∀(w:World) (s₀ s₁:Shared) (mg mb:Str->Option Value) (fa:Addr) (o:Obj) (pm cd doc:Value) (a:Addr) (vs:List Value) (ns:List Int),
   Ground q loose [] XP w s₀ mg mb s₁.heap->YP w s₁.heap ->
   s₁.heap.get? fa=some o->o.data=.func (docDef d.name d.params d.body d.scope pm cd doc)->s₁.heap.CodeRec cd d.name->mg d.name=some (.ref fa) ->
   s₁.heap.get? a=some { cls:=.type "list",data:=.seq vs.toArray }->IntsAre vs ns->ns.length<=n->s₁.gens=#[] ->
   codeAny (model l.prog w) callerA (.call (.ref fa) ⟨[.ref a],[]⟩) (λr s'=>r=.ok (.ret (.bool true))/\OldK s₁.heap s'.heap/\s'.os=s₁.os/\AllBare s'.gens) s₁) :
  WalkO q loose XP YP l.row.toRowW d [] (λf vs=>PySem.call f vs):=by
 intro w s₀ s₁ mg mb G Y fa o pm cd doc dV kV ho hd hcd hD hmg hg args vals as hpre hlay hrd hwl hlo;obtain rfl:dV=.none:=Dflts.none hD hdf;obtain rfl:kV=.none:=Dflts.noKw hD;obtain⟨a,vs,ns,rfl,rfl,hobj,hints,hlen⟩:=Xh hn hpre hwl;refine enter_call (codeAny_mono (call w s₀ s₁ mg mb fa o pm cd doc a vs ns G Y ho (fd_plain hd) hcd hmg hobj hints hlen hg) λr s' hq=>?_);obtain⟨rfl,h2,h3,h4⟩:=hq;exact⟨.inl ⟨.bool true,.bool true,[],rfl,λ_=>rfl,.bool true,Xi l _,λ_=>⟨List.Pairwise.nil,λ_ hm=>(nomatch hm)⟩⟩,h2,h3,h4⟩
end QX
namespace L2
open PySem PySem.Spec PyProof.Rows
def QY:∀{vs:List Value} {ns:List Int},IntsAre vs ns->Vals (ns.map V.int) vs
 |_,_,.nil=>.nil
 |_,_,.cons n t h=>.cons ⟨t,rfl⟩ (QY h)
abbrev Only(H:Hp):Prop:=∀b,H b=none\/∃o xs,H b=some (.o6 o (.lst xs))
def Xk{P:Program}{w:World}{K:Zfr}{mg mb:Str->Option Value}{CX:sX}{k:Nat}{fa a:Addr}{fd:FuncData}{x:Str}{sp:Sp}{s₁:Shared}{vs:List Value}{ns:List Int}
  (KX:K.In s₁.heap) (hns:s₁.heap.Ns mainGlobals mg) (hb:s₁.heap.Ns builtinsNs mb) (Xl:∀x:Str,x≠"__name__" -> mb x=bootBuiltins x) (hlim:s₁.heap.NoLimit) (hg:s₁.gens=#[])
  (ha:s₁.heap.get? a=some { cls:=.type "list",data:=.seq vs.toArray }) (hi:IntsAre vs ns) (hl:ns.length<=sizeLine) (hr:iJ k callerA)
  (F:∀base:Heap,K.In base->base.Ns mainGlobals mg->aD P w K mg base CX k fa fd [x] sp) (hbind:∀(s:Shared) (u:Value),BindsTo s fd ⟨[u],[]⟩ [(x,u)])
  (uJ:∀H:Hp,Only H->jX K H a (ns.map V.int)->sp [.ref a] H (λv _=>v=.bl true) λ_ _ _=>False)
  (EI:∀H e s',CX [] H s₁ (λ_ _ _=>False) e s'->False) :
  codeAny (model P w) callerA (.call (.ref fa) ⟨[.ref a],[]⟩) (λr s'=>r=.ok (.ret (.bool true))/\OldK s₁.heap s'.heap/\s'.os=s₁.os/\AllBare s'.gens) s₁:=by
 have rv:=QY hi;have MX:=hi.length;have core:∀ H:Hp,Only H->jX K H a (ns.map V.int)->nu P w H s₁.heap->(∀ b,H b≠none->b=a)->(H a≠none->K.lookup a=none) ->
   codeAny (model P w) callerA (.call (.ref fa) ⟨[.ref a],[]⟩) (λr s'=>r=.ok (.ret (.bool true))/\OldK s₁.heap s'.heap/\s'.os=s₁.os/\AllBare s'.gens) s₁:=by
  intro H hO hS hok hA hK;have tq:∀{b:Addr} {o:Obj},s₁.heap.get? b=some o->H b=none->(qo s₁.heap H).get? b=some o:=λe n=>Wn e n;have En:∀{b:Addr} {o:Obj} {es:Array DictEntry} {ep:Nat},s₁.heap.get? b=some o->o.data=.dict es ep->H b=none:=λ{b o es ep} e d=>by
   cases q:H b with
   |none=>rfl
   |some u =>
    have e':b=a:=hA b (by rw[q];simp);subst e';rw[ha]at e;cases e;have d':Data.seq vs.toArray _=Data.dict es ep:=d;cases d'
  have J0:∀{b:Addr} {m:Str->Option Value},s₁.heap.Ns b m->(qo s₁.heap H).Ns b m:=λ{b m} ⟨o,es,ep,e,d,r⟩=>⟨o,es,ep,tq e (En e d),d,r⟩
  have QZ:K.In (qo s₁.heap H):=λb o e=>tq (KX b o e) (by
   cases q:H b with
   |none=>rfl
   |some u =>
    have e':b=a:=hA b (by rw[q];simp);subst e'
    rw[hK (by rw[q];simp)]at e;cases e)
  have hM:Mod K mg (qo s₁.heap H):=⟨QZ,J0 hns,⟨mb,J0 hb,Xl⟩,let ⟨mc,h1,h2⟩:=hlim;⟨mc,J0 h1,h2⟩⟩;have e0:xl P w K mg (qo s₁.heap H) callerA [] s₁ H:=⟨rfl,hM,λb o e=>Wo e,Nat.le_of_eq (Wm _ _),trivial,λb hb=>absurd (show b∈([]:List Addr)from hb) (by simp),hok,.of_eq hg⟩;refine codeAny_mono ((F _ QZ (J0 hns)).run callerA [] s₁ H ⟨[.ref a],[]⟩ [.ref a] [.ref a] _ _ hr e0 (hbind s₁ (.ref a)) (.cons rfl .nil) (uJ H hO hS)) λr s' h=>?_;cases r with
  |error e=>exact(EI H e s' h).elim
  |ok fl =>
   cases fl with
   |next=>exact False.elim h
   |brk=>exact False.elim h
   |cont=>exact False.elim h
   |ret u =>
    obtain⟨v,H',os,bare,un,MY,r',q⟩:=h;have q':v=.bl true:=q;subst q';obtain rfl:u=Value.bool true:=r';refine⟨rfl,OldK.of_keep λb o e=>?_,os,bare⟩;cases q:H b with
    |none=>exact un.keep b o e q (by intro z;exact absurd (show b∈([]:List Addr)from z) (by simp)) (by simp)
    |some u =>
     rcases hO b with z|⟨ob,xs,z⟩
     ·rw[q]at z;cases z
     ·have z2:=un.qm b ob _ z
      obtain⟨e1,_⟩:=hok b _ z;obtain⟨e2,_⟩:=MY b _ z2;rw[e]at e1;cases e1;exact e2
 cases hk:K.lookup a with
 |some o =>
  have e:=KX a o hk;rw[ha]at e;cases e;refine core (λ_=>none) (λ_=>.inl rfl) (.inr ⟨_,vs.toArray,_,hk,rfl,rfl,rfl,by rw[Zas,MX];exact hl,by simpa using rv⟩) (λb u z=>by have z':(none:Option HO)=some u:=z;cases z') (λb z=>absurd rfl z) λz=>absurd rfl z
 |none =>
  refine core (λb=>if b=a then some (.o6 { cls:=.type "list",data:=.seq vs.toArray } (.lst (ns.map V.int)))else none) (λb=>?_) (.inl (.inr ⟨{ cls:=.type "list",data:=.seq vs.toArray },if_pos rfl⟩)) (λb u z=>?_) (λb z=>?_) λ_=>hk
  ·by_cases hb:b=a
   ·exact .inr ⟨_,_,if_pos hb⟩
   ·exact .inl (if_neg hb)
  ·by_cases hb:b=a
   ·have z':=(if_pos hb).symm.trans z
    cases z';subst hb;exact⟨ha,by rw[Zaa];exact hl,vs,_,rv,ha⟩
   ·have z':=(if_neg hb).symm.trans z
    cases z'
  ·by_cases hb:b=a
   ·exact hb
   ·exact absurd (if_neg hb) z
@[reducible]def KOf{K:Zfr}{h:Heap}(_:K.In h):Zfr:=K
def Xm{l:PySem.W.OpenLaw}{n k:Nat}{q:Program}{loose:List Str}{XP:(Str->Option Value)->Heap->Prop}{YP:World->Heap->Prop}{d:DefRec}{K:Params->Zfr}{CX:World->sX}{sp:World->Sp}{x:Str}
  (hn:l.most=some n) (hn2:n<=sizeLine) (hdf:d.params.defaults=[]) (hr:iJ k callerA)
  (hY:∀(w:World) (h:Heap),YP w h->(K w.params).In h)
  (F:∀(w:World) (mg:Str->Option Value) (fa:Addr) (h:Heap),(K w.params).In h->h.Ns mainGlobals mg->mg d.name=some (.ref fa) ->
   ∃fd:FuncData,(∀(s:Shared) (u:Value),BindsTo s fd ⟨[u],[]⟩ [(x,u)]) /\
    ∀base:Heap,(K w.params).In base->base.Ns mainGlobals mg->aD l.prog w (K w.params) mg base (CX w) k fa fd [x] (sp w))
  (uJ:∀(w:World) (H:Hp) (a:Addr) (ns:List Int),ns.length<=n->Only H->jX (K w.params) H a (ns.map V.int)->sp w [.ref a] H (λv _=>v=.bl true) λ_ _ _=>False)
  (EI:∀(w:World) (H:Hp) (s:Shared) (e:Value) (s':Shared),CX w [] H s (λ_ _ _=>False) e s'->False) :
  PySem.W.WalkO q loose XP YP l.row.toRowW d [] (λf vs=>PySem.call f vs):=by
 refine QX.Xj hn hdf λw s₀ s₁ mg mb fa o pm cd doc a vs ns G Y ho hd hcd hmg hobj hints hlen hg=>?_;have KX:=hY w _ Y;obtain⟨fd,hb,hF⟩:=F w mg fa _ KX G.T.g hmg;exact Xk KX G.T.g G.T.b G.T.builtins G.T.nolimit hg hobj hints (Zaq hlen hn2) hr hF hb (λH hO hS=>uJ w H a ns hlen hO hS) λH e s'=>EI w H s₁ e s'
def Xn{l:PySem.W.OpenLaw}{n k:Nat}{q:Program}{loose:List Str}{XP:(Str->Option Value)->Heap->Prop}{YP:World->Heap->Prop}{d:DefRec}{K:Params->Zfr}{CX:sX}{sp:Zfr->Sp}{x:Str}
  (hn:l.most=some n) (hn2:n<=sizeLine) (hdf:d.params.defaults=[]) (hr:iJ k callerA)
  (hY:∀(w:World) (h:Heap),YP w h->(K w.params).In h)
  (F:∀(w:World) (mg:Str->Option Value) (fa:Addr) (h:Heap),(K w.params).In h->h.Ns mainGlobals mg->mg d.name=some (.ref fa) ->
   ∃fd:FuncData,(∀(s:Shared) (u:Value),BindsTo s fd ⟨[u],[]⟩ [(x,u)]) /\
    ∀base:Heap,(K w.params).In base->base.Ns mainGlobals mg->aD l.prog w (K w.params) mg base CX k fa fd [x] (sp (K w.params)))
  (uJ:∀(K:Zfr) (H:Hp) (a:Addr) (ns:List Int),ns.length<=n->Only H->jX K H a (ns.map V.int)->sp K [.ref a] H (λv _=>v=.bl true) λ_ _ _=>False)
  (EI:∀(H:Hp) (s:Shared) (e:Value) (s':Shared),CX [] H s (λ_ _ _=>False) e s'->False) :
  PySem.W.WalkO q loose XP YP l.row.toRowW d [] (λf vs=>PySem.call f vs) :=
 Xm (K:=K) (CX:=λ_=>CX) (sp:=λw=>sp (K w.params)) hn hn2 hdf hr hY F (λw H a ns h1 h2 h3=>uJ (K w.params) H a ns h1 h2 h3) λ_ H s e s'=>EI H s e s'
abbrev gh(s:Stmt):Arguments:=match s with
 |.FunctionDef _ a _ _ _ _ _ _ _ _=>a
 |_=>{ posonlyargs:=[],args:=[],vararg:=none,kwonlyargs:=[],kw_defaults:=[],kwarg:=none,defaults:=[] }
abbrev dN(s:Stmt):List Stmt:=match s with
 |.FunctionDef _ _ b _ _ _ _ _ _ _=>b
 |_=>[]
abbrev aj(s:Stmt):Scope:=match s with
 |.FunctionDef _ _ _ _ _ _ sc _ _ _=>sc
 |_=>{ kind:=.function,names:=[],isGenerator:=false,isCoroutine:=false }
@[reducible]def a9:sX:=λ_ _ _ _ _ _=>False
@[reducible]def E0:XK:=λ_ _ _=>False
def yC:Passes a9 X E0:=λ_ _ _ _ _ _ _ h=>h.elim
structure J1(K:Zfr)(x qual:Str)(st:Stmt)(f:Addr)(fd:FuncData):Prop where
 ex:∃(oc:Value) (od:Option Addr) (kV doc pm:Value) (an:Option Addr) (cdv ct:Value) (osl:Array (Option Value)),
  fd=PySem.W.fnOf x qual (gh st) (dN st) (aj st) .none kV doc pm an cdv ct/\K.lookup f=some ⟨oc,od,.func fd,osl⟩/\PySem.W.codeIn K cdv qual=true
 kp:PySem.W.keepIn K (.ref f)=true
section
variable {P:Program}{w:World}{K:Zfr}{mg:Str->Option Value}{base:Heap}
def J1.ok{x qual:Str}{st:Stmt}{f:Addr}{fd:FuncData}{N ps:List Str}{k:Nat}{sp:Sp}(F:J1 K x qual st f fd)(S:ax N ps (aj st))(len:∀vs H Q E,sp vs H Q E->vs.length=ps.length)
  (hbody:∀(cdv:Value) (A:Around) (outer:List Env) (s:Shared) (H:Hp) (vs:List V) (Q:VK) (E:XK),iJ k (A.deeper (envOfC qual (aj st) s.heap.objs.size f cdv))->sp vs H Q E ->
   ∃t,sS (fI a9 P w K mg base N qual (aj st) f cdv A outer s H E).oI (dN st) t/\t { nx:=λ_ H'=>Q .non H',rt:=Q } (start N vs) H):aD P w K mg base a9 (k+1) f fd ps sp:=by
 obtain⟨oc,od,kV,doc,pm,an,cdv,ct,osl,rfl,lk,hcd⟩:=F.ex;refine yr lk hcd S len λA outer s H vs Q E hr uJ=>?_;obtain⟨t,h,q⟩:=hbody cdv A outer s H vs Q E hr uJ;exact⟨t,h.oI,q⟩
def As{x qual:Str}{st:Stmt}{f:Addr}{oc:Value}{od an:Option Addr}{osl:Array (Option Value)}{kV doc pm cdv ct:Value}(l:K.lookup f=some ⟨oc,od,.func (PySem.W.fnOf x qual (gh st) (dN st) (aj st) .none kV doc pm an cdv ct),osl⟩)
  (c:PySem.W.codeIn K cdv qual=true) (k:PySem.W.keepIn K (.ref f)=true):J1 K x qual st f (PySem.W.fnOf x qual (gh st) (dN st) (aj st) .none kV doc pm an cdv ct):=⟨⟨oc,od,kV,doc,pm,an,cdv,ct,osl,rfl,l,c⟩,k⟩
end
def MZ(hr:iJ k A):A.units+1<cLine:=Za9 (Nat.add_le_add_left (by decide:1<=64) _) hr.units
section
variable {X:Cx}
def pv(i:Nat){x:Str}{pos:Pos}(hN:X.N[i]?=some x:=by rfl)(hv:Mv X.env.scope x:=by first | exact Or.inl rfl | exact Or.inr (Or.inl rfl) | exact Or.inr (Or.inr rfl))(hd:(x == ("__debug__" : Str))=false:=by decide)
  (hcd:(x == ("__classdict__" : Str))=false:=by decide):PE X (.Name x pos) (uU i):=zT hN hv hd hcd
end
def sr{A B:Prop}(h:B):if false=true then A else B:=by rw[if_neg Zam];exact h
def su{A B:Prop}(h:A):if true=true then A else B:=by rw[if_pos rfl];exact h
abbrev gi(H H':Hp):Prop:=∀b o,H b=some o->H' b=some o
def gi.refl(H:Hp):gi H H:=λ_ _ h=>h
def mN:bootBuiltins "len" = some (.builtin "len"):=by decide +kernel
def EJ:bootBuiltins "int" = some (.type "int"):=by decide +kernel
def Xo:bootBuiltins "bool" = some (.type "bool"):=by decide +kernel
def uj:bootBuiltins "list" = some (.type "list"):=by decide +kernel
def nV:bootBuiltins "tuple" = some (.type "tuple"):=by decide +kernel
def vk:bootBuiltins "range" = some (.type "range"):=by decide +kernel
def M0:bootBuiltins "isinstance" = some (.builtin "isinstance"):=by decide +kernel
def M1:bootBuiltins "max" = some (.builtin "max"):=by decide +kernel
def M3:bootBuiltins "min" = some (.builtin "min"):=by decide +kernel
def Xp:bootBuiltins "reversed" = some (.type "reversed"):=by decide +kernel
structure Kp(ch:List Addr)(H H':Hp):Prop where
 keep:∀b o,H b=some o->b ∉ ch->H' b=some o
 tup:∀b xs,H b=some (.tup xs)->H' b=some (.tup xs)
 o6:∀b o u,H b=some (.o6 o u)->H' b=some (.o6 o u)
section
variable {ch:List Addr}{H H1 H2:Hp}{a l p:Addr}{o:HO}{xs ys:List V}{K:Zfr}
def Kp.refl:Kp ch H H:=⟨λ_ _ h _=>h,λ_ _ h=>h,λ_ _ _ h=>h⟩
def Kp.of_same(h:gi H H1):Kp ch H H1:=⟨λb o e _=>h b o e,λb xs e=>h b _ e,λb o u e=>h b _ e⟩
def Kp.put(h:Kp ch H H1)(ha:a∈ch)(e:H1 a=some (.lst xs)):Kp ch H (upd H1 a o) :=
 ⟨λb u q n=>by rw[jI (λz=>n (by rw[z];exact ha))];exact h.keep b u q n,
   λb u q=>by
  have r:=h.tup b u q;rw[jI (Ms r e (by intro z;cases z))];exact r,
   λb u v q=>by
  have r:=h.o6 b u v q
  rw[jI (Ms r e (by intro z;cases z))];exact r⟩
def Kp.M4(h:Kp ch H H1)(q:fV K H a xs):fV K H1 a xs:=by
 rcases q with(q|⟨o,q⟩)|q
 exact .inl (.inl (h.tup a xs q));exact .inl (.inr ⟨o,h.o6 a o _ q⟩);exact .inr q
abbrev EK(K:Zfr)(H:Hp)(a:Addr)(xs:List V):Prop :=
 (∃o,H a=some (.o6 o (.lst xs))) \/
  ∃(o:Obj) (its:Array Value) (n:Nat),K.lookup a=some o/\o.cls=.type "list" /\ o.dict=none/\o.data=.seq its n/\its.size<=sizeLine/\Vals xs its.toList
def EK.sq(h:EK K H a xs):jX K H a xs:=h.elim (λ⟨o,e⟩=>.inl (.inr ⟨o,e⟩)) .inr
def jX.script(hO:Only H)(q:jX K H a xs):EK K H a xs:=by
 rcases q with(q|⟨o,q⟩)|q
 rcases hO a with e|⟨o,ys,e⟩
 rw[e]at q;cases q;rw[e]at q;cases q;exact .inl ⟨o,q⟩;exact .inr q
def gi.up(h:H p=none):gi H (upd H p o):=λb u e=>by rw[jI (CL e h)];exact e
end
abbrev sv(K:Zfr)(H:Hp)(xs:List V)(Q:VK):Prop:=∀p H',fV K H' p xs->gi H H'->Q (.ref p) H'
section
variable {X:Cx}
def sv.new{K:Zfr}{H:Hp}{xs:List V}{Q:VK}(h:sv K H xs Q):∀p,H p=none->Q (.ref p) (upd H p (.tup xs)):=λp hp=>h p _ (fV.of rf) (gi.up hp)
def sv.it{K:Zfr}{H:Hp}{xs:List V}{Q:VK}{a:Addr}(h:sv K H xs Q)(q:fV K H a xs):Q (.ref a) H:=h a H q (gi.refl H)
abbrev vm(K:Zfr):R2:=λx y H Q=>∃a b xs ys,x=.ref a/\y=.ref b/\fV K H a xs/\fV K H b ys/\xs.length+ys.length<=sizeLine/\sv K H (xs ++ ys) Q
def vn:kY X (binaryOp .Add) (vm X.K):=by
 intro pins s G H x y v u Q I rx ry h;obtain⟨a,b,xs,ys,rfl,rfl,ha,hb,hz,q⟩:=h;by_cases hx:xs=[];subst hx;cases rx;cases ry;obtain⟨its,r1,p1,_⟩:=I.tuple ha;obtain⟨its2,r2,p2,_⟩:=I.tuple hb;have e:its=[]:=r1.oR.mpr rfl;subst e;obtain⟨⟨cls,dd,data,sl⟩,ho,hc,n,hd⟩:=id p1;obtain⟨⟨MJ,dd2,data2,sl2⟩,ho2,hc2,n2,hd2⟩:=id p2;simp only at hc hd hc2 hd2;subst hc hd hc2 hd2;exact concat_meets ⟨_,ho,rfl⟩ ⟨_,ho2,rfl⟩ noFill_tuple_add seq_tuple_add PySem.F.slot_tuple_add PySem.F.entry_tuple_add (PySem.F.args_tuple_add_2 _ _)
  (tuple_addW0 a b #[] its2.toArray n n2 dd dd2 sl sl2 (by simp)) ⟨ho,ho2,⟨.ref b,H,I,rfl,q.it (by simpa using hb)⟩⟩
 exact WS pins s G H _ _ v u Q I rx ry ⟨a,b,xs,ys,rfl,rfl,ha,hb,hx,hz,λe=>q.it (by subst e;simpa using ha),λ_=>q.new⟩
def Xq{prog:Program}{w:World}{A:Around}{E:Value->Shared->Prop}{s:Shared}{t sl:Addr}{items:Array Value}{vl vu:Value}{lo hi:Option Int}{Q:Value->Shared->Prop}(ht:IsTup s.heap t items)(hs:s.heap.IsSliceOf sl vl vu .none)(pl:IsPart vl lo)(pu:IsPart vu hi)
  (hw:HT.cK items.size 0 lo=0/\HT.cK items.size items.size hi=items.size) (h:Q (.ref t) s):wpAny (model prog w) A (getItem (.ref t) (.ref sl)) Q E s:=by
 obtain⟨os,hos,hcs,hds⟩:=id hs;have MK:s.TypeIs (.ref sl) "slice" := ⟨os,hos,hcs⟩;unfold getItem
 try with_reducible refine wpAny_holding ?_
 first|refine wpAny_bind (wpAny_pure ?_)|skip
 refine wpAny_bind (wpAny_sequenceKey ht.typeIs ∅ ?_)
 refine wpAny_bind (wpAny_callSpecial?_slot (name:=Str.ofString "__getitem__") ht.typeIs PyProof.Rows.slot_tuple_getitem
  (wpAny_call_entry PyProof.Rows.slot_tuple_getitem ht.typeIs entry_tuple_getitem ?_ (args_tuple_getitem _ _)))
 show wpAny _ _ (Builtin.Tuple.tupleItemsOf (.ref t) >>= _) _ _ s;refine wpAny_bind (tupleItemsOf_ ht ?_);refine wpAny_bind (wpAny_typeOf MK ?_);rw[if_pos ∅];refine wpAny_bind (HT.QD hs pl pu ?_);have hyes:((((HT.cK items.size 0 lo:Nat):Int) == 0 && (1:Int) == 1 && (HT.cK items.size items.size hi-HT.cK items.size 0 lo) == items.size)=true):=by
  rw[hw.1,hw.2];simp
 show wpAny _ _ (if(((HT.cK items.size 0 lo:Nat):Int) == 0 && (1:Int) == 1 && (HT.cK items.size items.size hi-HT.cK items.size 0 lo) == items.size)=true then _ else _) _ _ s;rw[if_pos hyes];obtain⟨o,ho,hc,n,hd⟩:=id ht;unfold Builtin.Tuple.tupleIsExact
 first
  |exact wpAny_bind (wpAny_bind (wpAny_typeOf (T:="tuple") ⟨o,ho,hc⟩ (wpAny_pure (wpAny_bind (wpAny_rule (wpAny_pure ⟨_,rfl,wpAny_pure h⟩))))))
  |exact wpAny_bind (wpAny_bind (wpAny_typeOf (T:="tuple") ⟨o,ho,hc⟩ (wpAny_pure (wpAny_bind (wpAny_rule (wpAny_bind (wpAny_pure ⟨_,rfl,wpAny_pure h⟩)))))))
  |trace_state
abbrev yD(K:Zfr):V->Option Int->Option Int->Hp->VK->Prop:=λx lo hi H Q=>∃a xs,x=.ref a/\fV K H a xs/\sv K H (pe xs lo hi) Q
def Xr{xs:List V}{lo hi:Option Int}(h:HT.cK xs.length 0 lo=0/\HT.cK xs.length xs.length hi=xs.length):pe xs lo hi=xs:=by unfold pe;rw[h.1,h.2];simp
def Xs:JV X (yD X.K):=by
 intro pins s G H x v vl vu lo hi sl Q I rx hs pl pu h;obtain⟨a,xs,rfl,hx,q⟩:=h;by_cases hw:HT.cK xs.length 0 lo=0/\HT.cK xs.length xs.length hi=xs.length;cases rx;obtain⟨its,r,ht,hz⟩:=I.tuple hx;have hlen:its.toArray.size=xs.length:=by rw[Zas];exact r.length.symm
 refine⟨"tuple",_,PyProof.Rows.slot_tuple_getitem.lookup,ht.typeIs,?_⟩;exact Xq ht hs pl pu (by rw[hlen];exact hw) ⟨.ref a,H,I,rfl,q.it (by rw[Xr hw];exact hx)⟩;exact Ai pins s G H _ v vl vu lo hi sl Q I rx hs pl pu ⟨a,xs,rfl,hx,hw,q.new⟩
abbrev gZ(lo:Int)(n:Nat):List V:=(List.range n).map λ(k:Nat)=>V.int (lo+k)
def Xt(lo:Int)(n:Nat):(gZ lo n).length=n:=by simp[gZ]
def EL:eJ X (.type "range") (λxs H Q=>∃j:Int,xs=[.int j]/\∀p,H p=none->Q (.ref p) (upd H p (.j5 0 j))):=by intro pins s G H xs us Q I r h;obtain⟨j,rfl,q⟩:=h;obtain⟨u,rfl,t,rfl⟩:=vals1 r;refine call_range_1 ⟨.ref s.heap.objs.size,_,I.laid (o:=.j5 0 j) (λb o e=>Zau _ e) (Zad _) ?_,rfl,q _ (I.hok.fresh (Zad _))⟩;exact⟨_,_,_,ZaA _ rfl⟩
def CZ:eJ X (.type "range") (λxs H Q=>∃i j:Int,xs=[.int i,.int j]/\∀p,H p=none->Q (.ref p) (upd H p (.j5 i j))):=by intro pins s G H xs us Q I r h;obtain⟨i,j,rfl,q⟩:=h;obtain⟨u,u',rfl,⟨t,rfl⟩,t',rfl⟩:=vals2 r;refine call_range_2 ⟨.ref s.heap.objs.size,_,I.laid (o:=.j5 i j) (λb o e=>Zau _ e) (Zad _) ?_,rfl,q _ (I.hok.fresh (Zad _))⟩;exact⟨_,_,_,ZaA _ rfl⟩
def Q0:∀(n:Nat) (lo:Int) (us:List Value),us.length=n->(∀(j:Nat) (v:Value),us[j]?=some v->∃t,v=.int (lo+j*1) t)->Vals (gZ lo n) us
 |0,lo,[],_,_=>.nil
 |0,lo,_ :: _,h,_=>by simp at h
 |n+1,lo,[],h,_=>by simp at h
 |n+1,lo,u :: us,h,hv=>by
  have e:gZ lo (n+1)=V.int lo :: gZ (lo+1) n:=by
   unfold gZ;rw[List.range_succ_eq_map,Zaz,ZaF]
   congr 1
   simp;apply ZaQ;intro i _;simp only[Function.comp]
   congr 1
   push_cast
   lk
  rw[e];obtain⟨t,ht⟩:=hv 0 u rfl;refine .cons ⟨t,by rw[ht];simp⟩ (Q0 n (lo+1) us (by simpa using h) λj v hj=>?_);obtain⟨t',ht'⟩:=hv (j+1) v hj;refine⟨t',ht'.trans ?_⟩
  congr 1
  lk
def wI(hc:X.calm=true):eJ X (.type "list") (λxs H Q=>∃p lo hi,xs=[.ref p]/\H p=some (.j5 lo hi)/\(-(2 ^ 62)<=lo/\lo<2 ^ 62/\-(2 ^ 62)<=hi/\hi<2 ^ 62)/\(hi-lo).toNat<=2 ^ 24 /\
  ∀l,H l=none->Q (.ref l) (upd H l (.lst (gZ lo (hi-lo).toNat)))):=by
 intro pins s G H xs us Q I r h;obtain⟨p,lo,hi,rfl,hp,⟨b1,b2,b3,b4⟩,hz,q⟩:=h;obtain⟨u,rfl,ru⟩:=vals1 r;cases ru;obtain⟨t,t',t'',e⟩:=(show bP X.prog X.w H s.heap p (.j5 lo hi)from I.hok p _ hp);refine call_list_range (a:=lo) (b:=hi) (c:=1) (n:=(hi-lo).toNat) (I.ok.hd hc) (show IsRange s.heap p lo hi 1 t t' t'' from e) (small_one b1 b2 b3 b4) (by rw[rangeSize_one];split<;>lk) hz λh' tk acc c kp hD hI=>?_;refine⟨.ref s.heap.objs.size,_,I.laid (t':=tk) (o:=.lst (gZ lo (hi-lo).toNat)) kp (Zad _) ?_,rfl,q _ (I.hok.fresh (Zad _))⟩;refine⟨by rw[Xt];exact Zaq hz ∅,acc.toList,c,Q0 _ _ _ (by rw[Zcf];exact hI.1) λj v hj=>hI.2 j v (by rw[<- hj,Zb5]),by simpa using hD⟩
end
mutual
inductive Rep(K:Zfr)(H:Hp):V->PyData->Prop
 |non:Rep K H .non .none
 |bl (b:Bool):Rep K H (.bl b) (.bool b)
 |int (i:Int):Rep K H (.int i) (.int i)
 |str (x:Str):Rep K H (.str x) (.str x)
 |tup {a:Addr} {xs:List V} {ds:List PyData}:fV K H a xs->g5 K H xs ds->Rep K H (.ref a) (.tuple ds)
 |lst {a:Addr} {xs:List V} {ds:List PyData}:jX K H a xs->g5 K H xs ds->Rep K H (.ref a) (.list ds)
inductive g5(K:Zfr)(H:Hp):List V->List PyData->Prop
 |nil:g5 K H [] []
 |cons {v:V} {vs:List V} {d:PyData} {ds:List PyData}:Rep K H v d->g5 K H vs ds->g5 K H (v :: vs) (d :: ds)
end
section
variable {X:Cx}{pins:List (Addr×Obj)}{G:St}{H:Hp}{s:Shared}
mutual
theorem Rep.reads(I:Inv X pins G H s):∀{v:V} {d:PyData} {u:Value},Rep X.K H v d->RelV v u->∃as,Reads s.heap u d as
 |_,_,_,.non,r=>by cases r;exact⟨_,.none⟩
 |_,_,_,.bl b,r=>by cases r;exact⟨_,.bool b⟩
 |_,_,_,.int i,r=>by obtain⟨t,rfl⟩:=r;exact⟨_,.int i t⟩
 |_,_,_,.str x,r=>by obtain⟨t,rfl⟩:=r;exact⟨_,.str x t⟩
 |_,_,_,.tup q rs,r=>by
  cases r;obtain⟨its,rv,⟨o,e,c,n,hd⟩,_⟩:=I.tuple q;obtain⟨as,ra⟩:=g5.reads I rs rv;exact⟨_,.tuple e c hd (by simpa using ra)⟩
 |_,_,_,.lst q rs,r=>by
  cases r;obtain⟨its,rv,pl,_⟩:=I.list q;obtain⟨o,e,c,n,hd⟩:=pl.isList;obtain⟨as,ra⟩:=g5.reads I rs rv;exact⟨_,.list e c hd (by simpa using ra)⟩
theorem g5.reads(I:Inv X pins G H s):∀{vs:List V} {ds:List PyData} {us:List Value},g5 X.K H vs ds->Vals vs us->∃as,ReadsAll s.heap us ds as
 |_,_,_,.nil,r=>by cases r;exact⟨_,.nil⟩
 |_,_,_,.cons h t,r=>by
  cases r with
  |cons r1 r2 =>
   obtain⟨as,h1⟩:=Rep.reads I h r1;obtain⟨bs,h2⟩:=g5.reads I t r2;exact⟨_,.cons h1 h2⟩
end
abbrev xo(K:Zfr)(neg:Bool):R2:=λx y H Q=>∃d e,Rep K H x d/\Rep K H y e/\PyData.canLay0 d=true/\PyData.canLay0 e=true/\min d.depth e.depth<=60/\Q (.bl (if neg then !PyData.eqv d e else PyData.eqv d e)) H
def M5(hu:X.A.units+64<cLine):kY X (compareOp .Eq) (xo X.K false):=by intro pins s G H x y v u Q I rx ry h;obtain⟨d,e,hd,he,c1,c2,dp,q⟩:=h;obtain⟨as,ra⟩:=hd.reads I rx;obtain⟨bs,rb⟩:=he.reads I ry;exact SeqAt.eqOverData X.prog X.w X.A X.xe s v u d e as bs _ ra rb c1 c2 ⋯ ⟨.bl _,H,I,rfl,q⟩
def M6(hu:X.A.units+64<cLine):kY X (compareOp .NotEq) (xo X.K true):=by intro pins s G H x y v u Q I rx ry h;obtain⟨d,e,hd,he,c1,c2,dp,q⟩:=h;obtain⟨as,ra⟩:=hd.reads I rx;obtain⟨bs,rb⟩:=he.reads I ry;exact SeqAt.neOverData X.prog X.w X.A X.xe s v u d e as bs _ ra rb c1 c2 ⋯ ⟨.bl _,H,I,rfl,q⟩
end
section
variable {K:Zfr}{H:Hp}
abbrev cZ(ns:List Int):List PyData:=ns.map PyData.int
def Au:∀(ns:List Int),PyData.canLayAll0 (cZ ns)=true
 |[]=>rfl
 |n :: r=>by show(true && PyData.canLayAll0 (cZ r))=true;rw[Au r];rfl
def C0:∀(ns:List Int),PyData.depthAll (cZ ns)=0
 |[]=>rfl
 |n :: r=>by show max 0 (PyData.depthAll (cZ r))=0;rw[C0 r];rfl
def EM:∀(ns ms:List Int),PyData.eqvAll (cZ ns) (cZ ms)=decide (ns=ms)
 |[],[]=>rfl
 |[],_ :: _=>rfl
 |_ :: _,[]=>rfl
 |n :: ns,m :: ms=>by
  show((n == m) && PyData.eqvAll (cZ ns) (cZ ms))=decide (n :: ns=m :: ms);rw[EM ns ms];by_cases h:n=m;subst h;simp;simp[h]
end
end L2
namespace L2
open PySem PySem.Spec PyProof.Rows
structure Def(K:Zfr)(mg:Str->Option Value)(x:Str)(st:Stmt)(ps:List Str)(f:Addr)(fd:FuncData):Prop where
 F:J1 K x x st f fd
 be:∀us:List Value,us.length=ps.length->bindArgs fd ⟨us,[]⟩=pure (ps.zip us)
 m:mg x=some (.ref f)
def Def.b{K:Zfr}{mg:Str->Option Value}{x:Str}{st:Stmt}{ps:List Str}{f:Addr}{fd:FuncData}(D:Def K mg x st ps f fd):Binds K fd ps []:=.all D.be
def eB{K:Zfr}{h:Heap}{mg:Str->Option Value}(X:K.In h)(G:h.Ns mainGlobals mg){x:Str}{st:Stmt}{ps:List Str}{f:Addr}{oc:Value}{od an:Option Addr}{osl:Array (Option Value)}{kV doc pm cdv ct:Value}
  (hb:∀(kV doc pm:Value) (an:Option Addr) (cdv ct:Value) (us:List Value),us.length=ps.length->bindArgs (PySem.W.fnOf x x (gh st) (dN st) (aj st) .none kV doc pm an cdv ct) ⟨us,[]⟩=pure (ps.zip us))
  (a:PySem.W.nsIn K mainGlobals x=some (some (.ref f))) (l:K.lookup f=some ⟨oc,od,.func (PySem.W.fnOf x x (gh st) (dN st) (aj st) .none kV doc pm an cdv ct),osl⟩)
  (c:PySem.W.codeIn K cdv x=true) (k:PySem.W.keepIn K (.ref f)=true):∃f fd,Def K mg x st ps f fd :=
 ⟨f,_,As l c k,hb kV doc pm an cdv ct,PySem.W.mg_of X G a⟩
def Def.xq{K:Zfr}{mg:Str->Option Value}{x p:Str}{st:Stmt}{f:Addr}{fd:FuncData}(D:Def K mg x st [p] f fd)(s:Shared)(u:Value):BindsTo s fd ⟨[u],[]⟩ [(p,u)]:=.of_eq (D.be [u] rfl)
def uk{K:Zfr}{h:Heap}{mg:Str->Option Value}(X:K.In h)(G:h.Ns mainGlobals mg){x:Str}(z:PySem.W.nsIn K mainGlobals x=some none):mg x=none:=PySem.W.mg_none_of X G z
def C1(h:j<n):oA n (j:Int)=some j:=by unfold oA;rw[if_pos ⋯,if_pos ⋯];simp
def Av{J:Type}{xs:List J}{i:Int}(h0:0<=i)(h1:i<xs.length):∃v,dA xs i=some v/\v∈xs:=by
 have hi:i.toNat<xs.length:=by lk
 refine⟨xs[i.toNat],?_,ZbO hi⟩;have:=CV (xs:=xs) (j:=i.toNat) (v:=xs[i.toNat]) (by simp[hi])
 rwa [ZaG h0]at this
def dT{c:Prop}[Decidable c](h:decide c=true):c:=of_decide_eq_true h
abbrev vo(H:Hp)(f:Addr):Prop:=∃o m:Int,H f=some (.lst [.int o,.int m])/\0<=o/\0<=m/\m<4294967296
abbrev Ev(f:Addr)(H0:Hp)(G:St)(t:TE)(R:V->Hp->Prop):Prop :=
 ∀H Q,vo H f->Kp [f] H0 H->(∀v H',R v H'->vo H' f->Kp [f] H0 H'->Kp [f] H H'->Q v H')->t G H Q
section
variable {K:Zfr}{f:Addr}{H0:Hp}{G:St}{i:Nat}{t u ta tb:TE}{R R':V->Hp->Prop}{P P' P2:Int->Prop}{L M:Nat}
def um(h:G[i]?=some (some v))(hr:∀H,Kp [f] H0 H->R v H):Ev f H0 G (uU i) R:=λH Q hf k q=>⟨v,h,q v H (hr H k) hf k Kp.refl⟩
end
def EN:∀(names:List (Str×NameKind)) (n:Nat) (acc:List (Str×Addr)),cellsFrom n names acc=cellsFrom n names [] ++ acc
 |[],_,_=>rfl
 |(x,k) :: r,n,acc=>by
  show(if k == .cell then cellsFrom (n+1) r ((x,n) :: acc)else cellsFrom n r acc)=(if k == .cell then cellsFrom (n+1) r [(x,n)]else cellsFrom n r []) ++ acc;by_cases hk:(k == NameKind.cell)=true;rw[if_pos hk,if_pos hk,EN r (n+1) ((x,n) :: acc),EN r (n+1) [(x,n)],ZbF];rfl;rw[if_neg hk,if_neg hk];exact EN r n acc
def M7:∀(names:List (Str×NameKind)) (n:Nat),(x,c)∈cellsFrom n names []->(x,NameKind.cell)∈names/\n<=c
 |[],_,h=>nomatch h
 |(y,k) :: r,n,h=>by
  have h':(x,c)∈(if k == .cell then cellsFrom (n+1) r [(y,n)]else cellsFrom n r []):=h;by_cases hk:(k == NameKind.cell)=true;rw[if_pos hk,EN]at h';rcases Zax.mp h' with h'|h'
  obtain⟨h1,h2⟩:=M7 r (n+1) h';exact⟨Zak _ h1,by lk⟩;have e:(x,c)=(y,n):=by simpa using h'
  cases e;have e2:k=NameKind.cell:=by simpa using hk
  subst e2;exact⟨Zah,Zad _⟩;rw[if_neg hk]at h';obtain⟨h1,h2⟩:=M7 r n h';exact⟨Zak _ h1,h2⟩
def M8(f:Str×NameKind->List (Str×Addr)->Sem (ForInStep (List (Str×Addr))))
  (hf:∀name kind cs,f (name,kind) cs=if kind == .free then(do let c <- cellOf env name;pure (.yield ((name,c) :: cs)))else pure (.yield cs)) :
  ∀(names:List (Str×NameKind)) (acc:List (Str×Addr)),(∀y∈names,y.2=NameKind.free->∃c,env.cells.lookup y.1=some c) ->
   ∃cl,(forIn names acc f:Sem (List (Str×Addr)))=pure cl/\(∀n c,(n,c)∈cl->(n,c)∈acc\/(env.cells.lookup n=some c/\(n,NameKind.free)∈names))/\(∀p∈acc,p∈cl)/\∀n,(n,NameKind.free)∈names->∃c,(n,c)∈cl
 |[],acc,_=>⟨acc,by rw[List.forIn_nil],λn c h=>.inl h,λp h=>h,λn h=>nomatch h⟩
 |(x,k) :: r,acc,h=>by
  have hr:∀y∈r,y.2=NameKind.free->∃c,env.cells.lookup y.1=some c:=λy hy=>h y (Zak _ hy);by_cases hk:k=NameKind.free;subst hk;obtain⟨c,hc⟩:=h (x,.free) Zah rfl;have e:cellOf env x=pure c:=by unfold cellOf;rw[hc]
  obtain⟨cl,e1,h1,h2,h3⟩:=M8 f hf r ((x,c) :: acc) hr;refine⟨cl,?_,λn d hd=>?_,λp hp=>h2 p (Zak _ hp),λn hn=>?_⟩;rw[List.forIn_cons,hf,if_pos (by rfl),e];exact e1;rcases h1 n d hd with q|⟨q,q'⟩
  rcases ZaE.mp q with q|q
  cases q;exact .inr ⟨hc,Zah⟩;exact .inl q;exact .inr ⟨q,Zak _ q'⟩;rcases ZaE.mp hn with q|q
  cases q;exact⟨c,h2 _ Zah⟩;exact h3 n q;obtain⟨cl,e1,h1,h2,h3⟩:=M8 f hf r acc hr;have hb:¬((k == NameKind.free)=true):=by simpa using hk
  refine⟨cl,?_,λn d hd=>?_,h2,λn hn=>?_⟩;rw[List.forIn_cons,hf,if_neg hb];exact e1;rcases h1 n d hd with q|⟨q,q'⟩
  exact .inl q;exact .inr ⟨q,Zak _ q'⟩;rcases ZaE.mp hn with q|q
  cases q;exact absurd rfl hk;exact h3 n q
def Q5(h:∀y∈scope.names,y.2=NameKind.free->∃c,env.cells.lookup y.1=some c):
  ∃cl,closureFor scope env=pure cl/\(∀n c,(n,c)∈cl->env.cells.lookup n=some c/\(n,NameKind.free)∈scope.names)/\∀n,(n,NameKind.free)∈scope.names->∃c,(n,c)∈cl:=by
 have key:∀ (f:Str×NameKind->List (Str×Addr)->Sem (ForInStep (List (Str×Addr)))),(∀ name kind cs,f (name,kind) cs=if kind == .free then(do let c <- cellOf env name;pure (.yield ((name,c) :: cs)))else pure (.yield cs)) ->
   ∃cl,((forIn scope.names [] f:Sem (List (Str×Addr))) >>= λr=>pure r)=pure cl/\(∀n c,(n,c)∈cl->env.cells.lookup n=some c/\(n,NameKind.free)∈scope.names)/\∀n,(n,NameKind.free)∈scope.names->∃c,(n,c)∈cl:=λf hf=>by
  obtain⟨cl,e,h1,_,h3⟩:=M8 f hf scope.names [] h;refine⟨cl,?_,λn c hc=>(h1 n c hc).elim (λz=>nomatch z) id,h3⟩;rw[e];rfl
 simp only[closureFor];exact key _ λname kind cs=>by cases hk:kind == NameKind.free<;>simp[hk]
def ltN{a b:Addr}(h:a<b):@LT.lt Nat _ a b:=h
def zS{a b:Addr}(h:@LT.lt Nat _ a b):a≠b:=ZaS h
def Q6{a b:Addr}(h:@LT.lt Nat _ b a):a≠b:=Nat.ne_of_gt h
def Xu
  (h:∀h',h'.Ns s.heap.objs.size (λ_=>none)->(∀b o,s.heap.get? b=some o->h'.get? b=some o)->CellsOk h' (s.heap.objs.size+1) (cellsFrom (s.heap.objs.size+1) scope.names []) ->
   Q { scope:=scope,locals:=s.heap.objs.size,globals:=g,cells:=cellsFrom (s.heap.objs.size+1) scope.names cl,qual:=q,func:=none,code:=env.code,frame:=env.frame,builtins:=env.builtins } { s with heap:=h' }) :
  wpAny M A (newFunctionEnv scope g cl [] q none .none (some env)) Q E s:=by
 simp only[newFunctionEnv,Option.isSome_some,if_true];refine wpAny_bind (wpAny_alloc ?_);refine wpAny_bind (wpAny_layCells _ (λname kind cells=>by cases hkc:kind == NameKind.cell<;>simp[hkc]) _ _ _ _ ?_);have ok:=cellsFrom_ok scope.names (s.heap.push { cls:=.type "dict",data:=.dict #[] }) (s.heap.objs.size+1) [] ⟨λ_ _ hm=>(nomatch hm),List.Pairwise.nil⟩ (by rw[ZbM];exact Zad _);rw[ZbM]at ok;rw[show({ s with heap:=s.heap.push { cls:=.type "dict",data:=.dict #[] } }:Shared).heap.objs.size=s.heap.objs.size+1 from ZbM ..];refine wpAny_bind ?_;rw[List.forIn_nil];refine wpAny_pure (wpAny_pure ?_);exact h _ ((Heap.Ns.new s.heap (.type "dict")).keeps (pushCells_keeps _ _)) (λb o e=>pushCells_keeps _ _ b o (Zau _ e)) ok
abbrev aN(X:Cx)(N:List Str)(scope:Scope)(cells:List (Str×Addr))(C:Addr)(fp:List Addr)(s:Shared)(H:Hp):Cx where
 prog:=X.prog
 w:=X.w
 K:=X.K
 mg:=X.mg
 base:=X.base
 A:=X.A
 N:=N
 s₀:=s
 H₀:=H
 env:=compEnvC scope cells C X.env
 outer:=X.stack
 stack:=X.stack
 ex:=fp
 fn:=λx=>decide (scope.names.lookup x=some .cell)
 calm:=X.calm
 pn:=[]
 xe:=λ_ _=>False
abbrev vt(scope sc:Scope):Scope :=
 { scope with names:=scope.names.map λ(n,k)=>if(k == .free && sc.kind == .function && sc.names.lookup n == some .cell)then(n,.cell)else(n,k) }
structure vw(sc scope:Scope)(own fr:List Str):Prop where
 kind:scope.kind=.function
 nd:(own ++ fr).Nodup
 C2:(scope.names.map (·.1)).Nodup
 free:∀y∈scope.names,y.2=.free->sc.names.lookup y.1=some .cell\/sc.names.lookup y.1=some .free
 M9:∀x∈fr,scope.names.lookup x=some .free
structure g7(X:Cx)(scope:Scope)(own fr:List Str)(js:List Nat):Prop where
 c:vw X.env.scope scope own fr
 ix:js.map (λj=>X.N[j]?)=fr.map some
def g7.kind(S:g7 X scope own fr js):scope.kind=.function:=S.c.kind
def g7.C2(S:g7 X scope own fr js):(scope.names.map (·.1)).Nodup:=S.c.C2
def g7.M9(S:g7 X scope own fr js):∀x∈fr,scope.names.lookup x=some .free:=S.c.M9
def g7.free(S:g7 X scope own fr js):∀y∈scope.names,y.2=.free->X.env.kindOf y.1=some .cell\/X.env.kindOf y.1=some .free:=S.c.free
def EO{J:Type}:∀{l:List (Str×J)} {n:Str} {c:J},(l.map (·.1)).Nodup->(n,c)∈l->l.lookup n=some c
 |(k,v) :: r,n,c,nd,h=>by
  obtain⟨h1,h2⟩:=Za7.mp nd;rw[Zby];rcases ZaE.mp h with e|h
  cases e;simp
  have:(n == k)=false:=beq_eq_false_iff_ne.mpr λe=>h1 (by rw[<- e];exact Zaw.mpr ⟨(n,c),h,rfl⟩)
  rw[this];exact EO h2 h
def Q7(scope:Scope)(env:Env)(x:Str):(relabel scope env).names.lookup x=none/\scope.names.lookup x=none \/
  ∃k,scope.names.lookup x=some k/\(relabel scope env).names.lookup x=some (if(k == .free && env.scope.kind == .function && env.kindOf x == some .cell)then .cell else k):=by
 have key:∀ names:List (Str×NameKind),(names.map λ(n,k)=>if(k == NameKind.free && env.scope.kind == .function && env.kindOf n == some .cell)then(n,NameKind.cell)else(n,k)).lookup x=none/\names.lookup x=none \/
   ∃k,names.lookup x=some k/\(names.map λ(n,k)=>if(k == NameKind.free && env.scope.kind == .function && env.kindOf n == some .cell)then(n,NameKind.cell)else(n,k)).lookup x=some (if(k == .free && env.scope.kind == .function && env.kindOf x == some .cell)then .cell else k):=by
  intro names
  induction names with
  |nil=>exact .inl ⟨rfl,rfl⟩
  |cons p r ih =>
   obtain⟨n,k⟩:=p;rw[Zaz];cases hx:x == n with
   |true =>
    have e:x=n:=by simpa using hx
    subst e;refine .inr ⟨k,by simp[Zby],?_⟩;by_cases hc:(k == NameKind.free && env.scope.kind == .function && env.kindOf x == some .cell)=true;simp only[if_pos hc];simp[Zby];simp only[if_neg hc];simp[Zby]
   |false =>
    have e1:∀q:NameKind,(((n,q) :: (r.map λ(n,k)=>if(k == NameKind.free && env.scope.kind == .function && env.kindOf n == some .cell)then(n,NameKind.cell)else(n,k))).lookup x)=((r.map λ(n,k)=>if(k == NameKind.free && env.scope.kind == .function && env.kindOf n == some .cell)then(n,NameKind.cell)else(n,k)).lookup x):=λq=>by rw[Zby,hx]
    have e2:((n,k) :: r).lookup x=r.lookup x:=by rw[Zby,hx]
    rw[e2];by_cases hc:(k == NameKind.free && env.scope.kind == .function && env.kindOf n == some .cell)=true;simp only[if_pos hc];rw[e1];exact ih;simp only[if_neg hc];rw[e1];exact ih
 exact key scope.names
abbrev lh(n:Nat)(js:List Nat)(G:St):St:=List.replicate n none ++ js.map λj=>G.getD j none
def Inv.ER{X:Cx}{pins:List (Addr×Obj)}{G:St}{H:Hp}{s:Shared}{a:Addr}{o:HO}(I:Inv X pins G H s)(f:nX X pins H a)(new:bP X.prog X.w (upd H a o) s.heap a o):Inv X pins G (upd H a o) s:=by
 obtain⟨f0,f1,f2,f3,f4,f5⟩:=f;have ne:∀b u,H b=some u->b≠a:=λb u e z=>by rw[z,f0]at e;cases e
 refine I.step (h':=s.heap) (H':=upd H a o) (g':=s.gens) (d':=s.drawn) (t':=s.toks) (ch:=[a]) (λb hb=>?_) (λb u _ _ _ e _=>e) (λb u _ _ _ e _=>⟨u.slots,e⟩) (λb u hb e n=>?_) (λb u _ e=>⟨u,e⟩)
  (λb xs e=>by rw[jI (ne b _ e)];exact e) (λb u xs e=>by rw[jI (ne b _ e)];exact e) (λb ps e=>⟨#[],by rw[jI (ne b _ e),e];simp⟩) (λm hm=>hm) (λb u e=>?_) I.bare
 have e:b=a:=by simpa using hb
 subst e;exact⟨f3,f1,f4,f5⟩;rw[jI (λz=>hb (by simp[z]))];exact n;by_cases hb:b=a;subst hb;rw[rf]at e;cases e;exact new;rw[jI hb]at e;exact(I.hok b u e).stay (λc v _ q=>q) (λc q=>by rw[jI (ne c _ q)];exact q) λc xs q=>by rw[jI (ne c _ q)];exact q
abbrev PF(X:Cx)(ifs:List Expr)(t:TT):Prop :=
 ∀(pins:List (Addr×Obj)) (s:Shared) (G:St) (H:Hp) (Q:Bool->Hp->Prop),Inv X pins G H s->t G H Q ->
  wpAny (model X.prog X.w) X.A (forIn ifs true λc r=>if r=true then do let ok <- isTrue c X.env (eval c X.env);pure (ForInStep.yield ok)else pure (ForInStep.yield r)) (TP X pins G Q) X.xe s
def rV:PF X [] (λ_ H Q=>Q true H):=λ_ _ _ H _ I h=>wpAny_tests_nil ⟨H,I,h⟩
def Na(h:PT X c t):PF X [c] t:=λpins s G H Q I hw=>wpAny_tests_one (h pins s G H Q I hw)
def Xv(I:Nat->Shared->Prop)
  (turn:∀n s,I n s->wpAny (model prog w) A (pyNext it) (λr s₁=>match r with
   |none=>R (.ok .next) s₁
   | some v=>wpAny (model prog w) A (letOwnedTupleGo target it v) (λ_ s₁'=>wpAny (model prog w) A (assign target env v) (λ_ s₂ =>
     wpAny (model prog w) A (forIn ifs true λc r=>if r=true then do let ok <- isTrue c env (eval c env);pure (ForInStep.yield ok)else pure (ForInStep.yield r)) (λok s₃ =>
      if ok=true then wpAny (model prog w) A (eval elt env) (λx s₄ =>
       wpAny (model prog w) A (call (.builtin "list.append") [acc,x]) (λ_ s₅=>∃m,m<n/\I m s₅) (λ_ _=>False) s₄) (λ_ _=>False) s₃
      else∃m,m<n/\I m s₃) (λ_ _=>False) s₂) (λ_ _=>False) s₁') (λ_ _=>False) s₁) (λ_ _=>False) s)
  (n:Nat) (h:I n s) :
  codeAny (model prog w) A (.compLoop (.ListComp elt [⟨target,iter,ifs,0⟩] scope pos) 0 it acc env) R s:=by
 refine codeAny_loop rfl I (λn s hI=>?_) n h;show wpAny _ A ((compTurn (.ListComp elt [⟨target,iter,ifs,0⟩] scope pos) 0 it acc env).onRaise (λx=>do noteFrame x env;theTreesLotGoes x)) _ _ s;refine wpAny_noted ?_;rw[compTurn_list];refine wpAny_bind (wpAny_standAt (wpAny_bind (wpAny_mono (turn n s hI) (λr s₁ h₁=>?_) λ_ _ h'=>h'.elim)));cases r with
 |none=>exact wpAny_pure h₁
 |some v =>
  refine wpAny_bind (wpAny_mono h₁ (λ_ s₁' h₁'=>?_) λ_ _ h'=>h'.elim);refine wpAny_bind (wpAny_mono h₁' (λ_ s₂ h₂=>wpAny_bind (wpAny_mono h₂ (λok s₃ h₃=>?_) λ_ _ h'=>h'.elim)) λ_ _ h'=>h'.elim);cases ok with
  |false=>exact wpAny_pure ⟨rfl,h₃⟩
  |true =>
   exact wpAny_bind (wpAny_bind (wpAny_mono h₃ (λx s₄ h₄=>wpAny_bind (wpAny_mono h₄ (λ_ s₅ h₅=>wpAny_pure (wpAny_pure ⟨rfl,h₅⟩)) λ_ _ h'=>h'.elim)) λ_ _ h'=>h'.elim))
abbrev Aw(J:It)(n:Nat)(js:List Nat)(g:TG)(tc:TT)(te:TE)(G:St)(H1:Hp)(Q:VK):Prop :=
 ∃W:Nat->Nat->List V->St->Hp->Prop,(∃m,W 0 m [] (lh n js G) H1)/\∀i m ys G' H',W i m ys G' H' ->
  ys.length<sizeLine/\((J.stop i H'/\∀p,H' p=none->Q (.ref p) (upd H' p (.lst ys))) \/
   (J.go i H'/\∀x H2,J.xi i H' x H2->g x G' H2 λG2 H3=>tc G2 H3 λb H4=>if b=true then te G2 H4 λy H5=>∃m',m' < m/\W (i+1) m' (ys ++ [y]) G2 H5 else∃m',m' < m/\W (i+1) m' ys G2 H4))
abbrev vz(wi:TI)(n:Nat)(js:List Nat)(g:TG)(tc:TT)(te:TE):TE:=λG H Q=>wi G H λJ H1=>Aw J n js g tc te G H1 Q
section
variable {X:Cx}{pins:List (Addr×Obj)}{G:St}{tg iter elt:Expr}{ifs:List Expr}{scope:Scope}{pos:Pos}{own fr:List Str}{js:List Nat}{g:TG}{tc:TT}{te:TE}{wi:TI}
def Q8{H2:Hp}{s2:Shared}{it:Addr}{fp:List Addr}{tn:Nat->Heap->Prop}{J:It}{Q:VK}{E:Value->Shared->Prop}{cl:List (Str×Addr)}{RR:Value->Addr->Result->Shared->Prop}
  (hc:X.calm=true) (S:g7 X scope own fr js) (hg:∀cells C fp s H,PG (aN X (own ++ fr) scope cells C fp s H) tg g) (hf:∀cells C fp s H,PF (aN X (own ++ fr) scope cells C fp s H) ifs tc) (he:∀cells C fp s H,PE (aN X (own ++ fr) scope cells C fp s H) elt te)
  (I2:Inv X pins G H2 s2) (T:Turn X.prog X.w X.K tg J fp it tn) (st2:tn 0 s2.heap) (f2:∀b∈fp,nX X pins H2 b)
  (sx:∀n c,(n,c)∈cl->X.env.cells.lookup n=some c/\(n,NameKind.free)∈scope.names) (vA:∀n,(n,NameKind.free)∈scope.names->∃c,(n,c)∈cl)
  (W:Nat->Nat->List V->St->Hp->Prop) (m0:Nat) (w0:W 0 m0 [] (lh own.length js G) H2)
  (turn:∀i m ys G' H',W i m ys G' H'->ys.length<sizeLine/\((J.stop i H'/\∀p,H' p=none->Q (.ref p) (upd H' p (.lst ys))) \/
   (J.go i H'/\∀x H2,J.xi i H' x H2->g x G' H2 λG2 H3=>tc G2 H3 λb H4=>if b=true then te G2 H4 λy H5=>∃m',m' < m/\W (i+1) m' (ys ++ [y]) G2 H5 else∃m',m' < m/\W (i+1) m' ys G2 H4)))
  (fin:∀(acc C:Addr) (H':Hp) (s':Shared) (v:V),v=.ref acc->Inv X pins G H' s'->nX X pins H' C->(∃m,s'.heap.Ns C m)->Q v H'->RR (.ref acc) C (.ok .next) s') :
  wpAny (model X.prog X.w) X.A (newList []) (λacc s3=>wpAny (model X.prog X.w) X.A (newFunctionEnv scope X.env.globals cl [] X.env.qual none .none (some X.env)) (λcenv s4 =>
   codeAny (model X.prog X.w) X.A (.compStart (.ListComp elt [⟨tg,iter,ifs,0⟩] scope pos) 0 (.ref it) acc { cenv with scope:=relabel scope X.env }) (RR acc cenv.locals) s4) E s3) E s2:=by
 refine wpAny_newObj_type ?_;refine Xu λh4 hns Q9 qx=>?_;have hA:s2.heap.objs.size<(s2.heap.push { cls:=.type "list",data:=.seq ([]:List Value).toArray }).objs.size:=by rw[ZbM];exact Zbb _
 generalize hC:(s2.heap.push { cls:=.type "list",data:=.seq ([]:List Value).toArray }).objs.size=C at hns qx hA ⊢;generalize hac:s2.heap.objs.size=acc at hA ⊢;have Nb:acc≠C:=ZaS hA;have old:∀b o,s2.heap.get? b=some o->h4.get? b=some o:=λb o e=>Q9 b o (Zau _ e);have hacc:h4.get? acc=some { cls:=.type "list",data:=.seq ([]:List Value).toArray }:=Q9 _ _ (by rw[<- hac];exact ZaA _ rfl);have Nc:∀x c,(x,c)∈cellsFrom (C+1) scope.names []->h4.IsCell c none/\C+1<=c/\scope.names.lookup x=some .cell:=λx c h=>⟨(qx.empty x c h).1,(qx.empty x c h).2,EO S.C2 (M7 _ _ h).1⟩;have lk:∀x c,(cellsFrom (C+1) scope.names cl).lookup x=some c->(h4.IsCell c none/\C+1<=c/\(x,c)∈cellsFrom (C+1) scope.names [])\/(X.env.cells.lookup x=some c/\scope.names.lookup x=some .free):=λx c h=>by
  rw[EN]at h;rcases Zax.mp (PySem.mem_of_lookup h)with q|q
  exact .inl ⟨(Nc x c q).1,(Nc x c q).2.1,q⟩;exact .inr ⟨(sx x c q).1,EO S.C2 (sx x c q).2⟩
 have Nd:∀x c,X.env.cells.lookup x=some c->c<s2.heap.objs.size:=λx c h=>by
  obtain⟨v,z⟩:=I2.cell x c h;exact z.lt
 have tD:∀x c,(cellsFrom (C+1) scope.names cl).lookup x=some c->c≠C/\c≠acc/\H2 c=none/\∀b∈fp,c≠b:=λx c h=>by
  rcases lk x c h with⟨_,h1,_⟩|⟨h1,_⟩
  refine⟨Q6 ⋯,Q6 ⋯,I2.hok.fresh ⋯,λb hb z=>?_⟩;obtain⟨o,e,_⟩:=T.obj 0 _ st2 b hb;have:=ltN (ZaB e);rw[<- z]at this;lk
  have:=ltN (Nd x c h1)
  exact⟨zS ⋯,zS ⋯,I2.mG x c h1,λb hb=>(f2 b hb).2.2.2.2.1 x c h1⟩
 have ES:∀x,scope.names.lookup x=some .free->∃c,X.env.cells.lookup x=some c/\(cellsFrom (C+1) scope.names cl).lookup x=some c:=λx h=>by
  obtain⟨c,Ra⟩:=vA x (PySem.mem_of_lookup h);have hc1:=(sx x c Ra).1;have hs:((cellsFrom (C+1) scope.names cl).lookup x).isSome=true:=by
   refine PySem.W.cellsFrom_some scope.names (C+1) cl (.inr ?_);cases q:cl.lookup x with
   |some d=>rfl
   |none =>
    exfalso;have:∀{l:List (Str×Addr)},(x,c)∈l->l.lookup x≠none:=by
     intro l
     induction l with
     |nil=>intro h;exact nomatch h
     |cons p r ih =>
      intro h z;obtain⟨k,v⟩:=p;rw[Zby]at z;cases hb:x == k with
      |true=>rw[hb]at z;cases z
      |false =>
       rw[hb]at z;rcases ZaE.mp h with e|h
       cases e;simp at hb;exact ih h z
    exact this Ra q
  obtain⟨d,hd⟩:=ZbN.mp hs;rcases lk x d hd with⟨_,_,h2⟩|⟨h1,_⟩
  have:=(Nc x d h2).2.2
  rw[h]at this;cases this;rw[hc1]at h1;cases h1;exact⟨c,hc1,hd⟩
 have J3:∀b∈fp,b≠C/\b≠acc:=λb hb=>by
  obtain⟨o,e,_⟩:=T.obj 0 _ st2 b hb;have:=ltN (ZaB e);exact⟨zS ⋯,zS ⋯⟩
 have Xw:(relabel scope X.env).kind=.function:=S.kind;have ok:(aN X (own ++ fr) scope (cellsFrom (C+1) scope.names cl) C fp s2 H2).Ok:=by
  refine⟨I2.ok.mod,Xw,I2.ok.glob,I2.ok.blt,?_,λx y c h1 h2=>?_,λx hx=>?_,λx c hx h=>?_,I2.ok.hd,I2.ok.frames,.inl rfl,λb hb=>⟨(J3 b hb).1,λx c h=>(tD x c h).2.2.2 b hb⟩,I2.bs,Zaq I2.ok.yc I2.sz,λb o e hb=>?_,λb hb z=>?_,I2.stack,I2.sR⟩;show s2.heap.objs.size<=C;lk;rcases lk x c h1 with⟨_,q1,q2⟩|⟨q1,_⟩
  rcases lk y c h2 with⟨_,r1,r2⟩|⟨r1,_⟩
  exact name_of_addr qx.apart q2 r2
  have:=ltN (Nd y c r1);lk
  rcases lk y c h2 with⟨_,r1,r2⟩|⟨r1,_⟩
  have:=ltN (Nd x c q1);lk
  exact I2.ok.inj x y c q1 r1;have hx':(relabel scope X.env).names.lookup x=some .cell\/(relabel scope X.env).names.lookup x=some .free:=hx;rcases Q7 scope X.env x with⟨e,_⟩|⟨k,e1,e2⟩
  rcases hx' with z|z<;>(rw[e]at z;cases z)
  by_cases hk:k=.free;subst hk;obtain⟨c,_,h⟩:=ES x e1;exact⟨c,h⟩;have hk':k=.cell:=by
   have hb:(k == NameKind.free)=false:=beq_eq_false_iff_ne.mpr hk;rw[hb]at e2;simp only[Bool.false_and,Zba,if_false]at e2;rcases hx' with z|z
   rw[e2]at z;exact Zao z;rw[e2]at z;exact absurd (Zao z) hk
  subst hk';exact ZbN.mp (PySem.W.cellsFrom_some scope.names (C+1) cl (.inl e1));have hx':scope.names.lookup x=some .cell:=of_decide_eq_true hx;show s2.heap.objs.size<=c;rcases lk x c h with⟨_,q,_⟩|⟨_,q⟩
  lk;rw[hx']at q;cases q;rcases(f2 b hb).2.2.2.1 with z|z
  exact I2.ok.uT b o e z;have h1:@LT.lt Nat _ b X.base.objs.size:=ZaB e;have h2:=I2.ok.yc;lk;rcases ZaE.mp (I2.o8 b z)with e|e
  exact(f2 b hb).2.1 e;exact(f2 b hb).2.2.1 e
 have I4:Inv (aN X (own ++ fr) scope (cellsFrom (C+1) scope.names cl) C fp s2 H2) [(acc,{ cls:=.type "list",data:=.seq ([]:List Value).toArray })] (lh own.length js G) H2 { s2 with heap:=h4 }:=by
  refine⟨ok,rfl,I2.bare,Un.kept old,⟨_,hns,λi x v e1 e2 e3=>?_⟩,λx c h=>?_,I2.hok.fresh (by show s2.heap.objs.size<=C;lk),λx c h=>(tD x c h).2.2.1,λp hp=>?_,I2.hok.kept old,?_⟩;have wJ:(own ++ fr)[i]?=some x:=e1;unfold lh at e2;by_cases hi:i<own.length;rw[Zan (by simpa using hi),ZbT]at e2;split at e2<;>cases e2;rw[Zav (by simpa using hi),Zbg,Zag]at e2;rw[Zav ⋯]at wJ;cases hj:js[i-own.length]? with
  |none=>rw[hj]at e2;cases e2
  |some j =>
   rw[hj]at e2;have yE:G.getD j none=some v:=Zao e2;have hN:X.N[j]?=some x:=by
    have q:=congrArg (λl=>l[i-own.length]?) S.ix;simp only[Zag,hj,wJ,Option.map_some]at q;exact Zao q
   have hσ:G[j]?=some (some v):=by
    rw[Zaf]at yE;cases q:G[j]? with
    |none=>rw[q]at yE;cases yE
    |some o=>rw[q]at yE;exact congrArg some yE
   have hfr:scope.names.lookup x=some .free:=S.M9 x (Zai wJ);have hk:=S.free _ (PySem.mem_of_lookup hfr) rfl;obtain⟨m,_,hl⟩:=I2.loc;obtain⟨u,ru,lo⟩:=hl j x v hN hσ (by rcases hk with k|k;exact .inr (.inl k);exact .inr (.inr k));refine⟨u,ru,.inr ⟨?_,?_⟩⟩;rcases Q7 scope X.env x with⟨_,e⟩|⟨k,q1,q2⟩
   rw[hfr]at e;cases e;rw[hfr]at q1;cases q1;have Xx:(compEnvC scope (cellsFrom (C+1) scope.names cl) C X.env).kindOf x=some (if(NameKind.free == .free && X.env.scope.kind == .function && X.env.kindOf x == some .cell)=true then .cell else .free):=q2;rw[show(aN X (own ++ fr) scope (cellsFrom (C+1) scope.names cl) C fp s2 H2).env.kindOf x=_ from Xx];split;exact .inl rfl;exact .inr rfl;rcases lo with⟨k,_⟩|⟨_,c,hc1,hc2⟩
   rcases hk with k'|k'<;>(rw[k]at k';cases k')
   obtain⟨d,hd1,hd2⟩:=ES x hfr;rw[hc1]at hd1;cases hd1;exact⟨c,hd2,hc2.keeps old⟩
  rcases lk x c h with⟨q,_,_⟩|⟨q,_⟩
  exact⟨_,q⟩;obtain⟨v,z⟩:=I2.cell x c q;exact⟨v,z.keeps old⟩;have e:p=(acc,{ cls:=.type "list",data:=.seq ([]:List Value).toArray }):=by simpa[aN]using hp
  subst e;refine⟨hacc,I2.hok.fresh ⋯,Nb,λz=>?_,λv z=>nomatch z⟩;rcases ZaE.mp (I2.o8 acc z)with e|e
  have:=ltN I2.lt
  rw[<- e]at this;lk;exact I2.DS ⋯ e;show(lh own.length js G).length=(own ++ fr).length;have q:=congrArg List.length S.ix;simp only[Zaa]at q;unfold lh;rw[Zae,Zbg,Zaa,Zae,q]
 have Nf:∀{H':Hp} {ob:Obj},(∀b∈fp,H' b=none)->∀b∈fp,nX (aN X (own ++ fr) scope (cellsFrom (C+1) scope.names cl) C fp s2 H2) [(acc,ob)] H' b:=λ{H' ob} hn b hb =>
  ⟨hn b hb,(J3 b hb).1,λz=>by
   rcases ZaE.mp (I2.o8 b z)with e|e
   exact(f2 b hb).2.1 e;exact(f2 b hb).2.2.1 e,.inl hb,λx c h=>(tD x c h).2.2.2 b hb,λp hp=>by
   have e:p=(acc,ob):=by simpa[aN]using hp
   subst e
   exactλz=>(J3 b hb).2 z.symm⟩
 have loop:codeAny (model X.prog X.w) X.A (.compLoop (.ListComp elt [⟨tg,iter,ifs,0⟩] scope pos) 0 (.ref it) (.ref acc) (compEnvC scope (cellsFrom (C+1) scope.names cl) C X.env)) (RR (.ref acc) C) { s2 with heap:=h4 }:=by
  refine Xv (λm s'=>∃(i:Nat) (ys:List V) (its:List Value) (n:Nat) (G':St) (H':Hp),Inv (aN X (own ++ fr) scope (cellsFrom (C+1) scope.names cl) C fp s2 H2) [(acc,{ cls:=.type "list",data:=.seq its.toArray n })] G' H' s'/\Vals ys its/\tn i s'.heap/\(∀b∈fp,H' b=none)/\W i m ys G' H') ?_ m0
   ⟨0,[],[],0,_,H2,I4,.nil,T.keep _ _ _ st2 λb _ o e=>old b o e,λb hb=>(f2 b hb).1,w0⟩
  rintro n s5 ⟨i,ys,its,en,G5,H5,I5,rv,mH,JU,w5⟩;obtain⟨hz,alt⟩:=turn i n ys G5 H5 w5;rcases alt with⟨stop,qn⟩|⟨go,step⟩
  refine cf (T.done (aN X (own ++ fr) scope (cellsFrom (C+1) scope.names cl) C fp s2 H2) rfl rfl rfl hc i _ s5 G5 H5 _ I5 (Nf JU) mH stop) λr s6 ⟨hr,I6⟩=>?_;subst hr;show RR (.ref acc) C (.ok .next) s6;have u:Un (frs X.stack) fp H2 H5 s2.heap s6.heap:=I6.base;have J6:Inv X pins G H5 s6:=I2.DW I6.os u I6.hok I6.bare λb hb=>⟨(f2 b hb).2.2.2.1,(f2 b hb).2.1,(f2 b hb).2.2.2.2.1,(f2 b hb).2.2.2.2.2⟩;have pacc:=I6.pin (acc,_) (ZaJ _ Zah);have Ng:nX X pins H5 acc:=I2.se ⋯ pacc.2.1;have fC:nX X pins H5 C:=I2.se ⋯ I6.free;have K6:Inv X pins G (upd H5 acc (.lst ys)) s6:=J6.ER Ng ⟨Zcu hz,its,en,rv,pacc.1⟩;obtain⟨m,hm,_⟩:=I6.loc;exact fin acc C _ s6 (.ref acc) rfl K6 ⟨by rw[jI Nb.symm];exact fC.1,fC.2⟩ ⟨m,hm⟩ (qn acc pacc.2.1);refine cf (T.item (aN X (own ++ fr) scope (cellsFrom (C+1) scope.names cl) C fp s2 H2) rfl rfl rfl hc i _ s5 G5 H5 _ I5 (Nf JU) mH go) λr s6 ⟨u,hr,h6⟩=>?_;subst hr;refine cf h6 λ_ s7 ⟨x,H7,I7,r7,y7,uK,Xy⟩=>?_;have Xz:=I7.pinned (Nf Xy) (T.obj _ _ uK);refine cf (hg _ _ _ _ _ _ s7 G5 H7 x u _ Xz r7 (step x H7 y7)) λ_ s8 ⟨G8,H8,I8,q8⟩=>?_;refine cf (hf _ _ _ _ _ _ s8 G8 H8 _ I8 q8) λb s9 ⟨H9,I9,q9⟩=>?_;have J4:∀{s':Shared} {G':St} {H':Hp},Inv (aN X (own ++ fr) scope (cellsFrom (C+1) scope.names cl) C fp s2 H2) ([(acc,{ cls:=.type "list",data:=.seq its.toArray en })] ++ pd fp s7.heap) G' H' s'->tn (i+1) s'.heap/\∀b∈fp,H' b=none:=λ{s' G' H'} I' =>
   ⟨T.keep _ _ _ uK λb hb o e=>(I'.pin (b,o) (ZaJ _ (ZaJ _ (JT hb e)))).1,λb hb=>by
    obtain⟨o,e,d⟩:=T.obj _ _ uK b hb
    exact(I'.pin (b,o) (ZaJ _ (ZaJ _ (JT hb e)))).2.1⟩
  cases b with
  |false =>
   obtain⟨m',hm,w9⟩:=q9;exact⟨m',hm,i+1,ys,its,en,G8,H9,I9.ny,rv,(J4 I9).1,(J4 I9).2,w9⟩
  |true =>
   refine cf (he _ _ _ _ _ _ s9 G8 H9 _ I9 q9) λy Nh ⟨yv,Ni,J5,XA,m',hm,XB⟩=>?_;have pacc:=J5.pin (acc,_) (ZaJ _ (Zbr _ Zah));have hlen:=rv.length;refine wpAny_list_append_plain (items:=its.toArray) ⟨en,pacc.1⟩ (λh11 ⟨Rb,Nj⟩ ET=>?_) (by simp only[Zas];lk);have cA:∀x c,(cellsFrom (C+1) scope.names cl).lookup x=some c->c≠acc:=λx c h=>(tD x c h).2.1;have Ia:Inv (aN X (own ++ fr) scope (cellsFrom (C+1) scope.names cl) C fp s2 H2) [] G8 Ni Nh:=J5.oQ λp hp=>nomatch hp;have Ib:Inv (aN X (own ++ fr) scope (cellsFrom (C+1) scope.names cl) C fp s2 H2) [] G8 Ni { Nh with heap:=h11 }:=Ia.turned (it:=acc) (t':=Nh.toks) (λb o hb e=>(ET.2 b hb).trans e) pacc.2.1 Nb (.inr (by show s2.heap.objs.size<=acc;lk)) cA λp hp=>nomatch (show p∈([]:List (Addr×Obj))from by simpa[aN]using hp);refine⟨m',hm,i+1,ys ++ [yv],its ++ [y],Rb,G8,Ni,Ib.oQ λp hp=>?_,rv.append (.cons XA .nil),T.keep _ _ _ (J4 J5).1 λb hb o e=>(ET.2 b (J3 b hb).2).trans e,(J4 J5).2,XB⟩;have e:p=(acc,{ cls:=.type "list",data:=.seq (its ++ [y]).toArray Rb }):=by simpa using hp
   subst e;exact⟨by simpa using Nj,pacc.2.1,pacc.2.2.1,pacc.2.2.2.1,λv z=>nomatch z⟩
 exact codeAny_compStart_list loop (T.self X.A 0 _ _ _ (T.keep _ _ _ st2 λb _ o e=>old b o e) loop)
def rC(hc:X.calm=true)(S:g7 X scope own fr js)(hi:PI X tg iter wi)(hg:∀cells C fp s H,PG (aN X (own ++ fr) scope cells C fp s H) tg g)(hf:∀cells C fp s H,PF (aN X (own ++ fr) scope cells C fp s H) ifs tc)(he:∀cells C fp s H,PE (aN X (own ++ fr) scope cells C fp s H) elt te)
  (hs:∀x,foldedSetIterable iter X.env x=pure x:=by intro _;rfl):PE X (.ListComp elt [⟨tg,iter,ifs,0⟩] scope pos) (vz wi own.length js g tc te):=by
 intro pins s G H Q I h;obtain⟨cl,hcl,sx,vA⟩:=Q5 (scope:=scope) (env:=X.env) λy hy hk=>I.ok.has y.1 (S.free y hy hk);rw[eval_ListComp];refine wpAny_comprehension_free (use:=none) rfl hs hcl S.kind (λy hy hk=>by rw[<- hk];exact EO S.C2 hy) (cf (hi pins s G H _ I h) λv s1 h1=>cf h1 λitv s2 h2=>?_);obtain⟨it,fp,tn,J,H2,e,I2,T,st2,f2,W,⟨m0,w0⟩,turn⟩:=h2;subst e;refine Q8 (RR:=λacc C=>compPost (model X.prog X.w) X.A X.xe none (EP X pins G Q) acc C) hc S hg hf he I2 T st2 f2 sx vA W m0 w0 turn ?_;intro acc C H' s' v hv I' fC ⟨m,hm⟩ q;subst hv;obtain⟨f0,f1,XC,f3,f4,f5⟩:=fC;exact⟨m,hm,λh'' Ax=>⟨.ref acc,H',I'.turned (it:=C) (t':=s'.toks) (λb o hb e=>(Ax.2 b hb).trans e) f0 f1 f3 f4 f5,rfl,q⟩⟩
def Rc{i:Nat}{x:Str}{pos' spos:Pos}(hc:X.calm=true)(hN:X.N.Nodup)(hx:X.N[i]?=some x)(hl:X.env.scope.names.lookup x=some .local)(S:g7 X scope own fr js)(hi:PI X tg iter wi)(hg:∀cells C fp s H,PG (aN X (own ++ fr) scope cells C fp s H) tg g)(hf:∀cells C fp s H,PF (aN X (own ++ fr) scope cells C fp s H) ifs tc)(he:∀cells C fp s H,PE (aN X (own ++ fr) scope cells C fp s H) elt te)
  (hsw:swapsWith (.ListComp elt [⟨tg,iter,ifs,0⟩] scope pos) (some (.Name x pos')) spos.line X.env=pure true:=by rfl)
  (hs:∀x,foldedSetIterable iter X.env x=pure x:=by intro _;rfl):PS X (.Assign [.Name x pos'] (.ListComp elt [⟨tg,iter,ifs,0⟩] scope pos) spos) (xh (vz wi own.length js g tc te) (rj i)):=by
 intro pins s G H D I h;obtain⟨cl,hcl,sx,vA⟩:=Q5 (scope:=scope) (env:=X.env) λy hy hk=>I.ok.has y.1 (S.free y hy hk);rw[exec_Assign_Name_used _ _ _ _ hsw];refine wpAny_bind (wpAny_standAt (wpAny_bind ?_));show wpAny _ X.A (do let _ <- comprehension (.ListComp elt [⟨tg,iter,ifs,0⟩] scope pos) scope X.env _ (newList []) false (eval iter X.env) (some (assign (.Name x pos') X.env))) _ _ s
 refine wpAny_bind (wpAny_mono (wpAny_comprehension_free (use:=some (assign (.Name x pos') X.env)) (Q:=λ_ s'=>SP X pins D .next s') rfl hs hcl S.kind (λy hy hk=>by rw[<- hk];exact EO S.C2 hy)
  (cf (hi pins s G H _ I h) λv s1 h1=>cf h1 λitv s2 h2=>?_)) (λ_ s' hq=>wpAny_pure (wpAny_pure hq)) λ_ _ e=>e)
 obtain⟨it,fp,tn,J,H2,e,I2,T,st2,f2,W,⟨m0,w0⟩,turn⟩:=h2;subst e;refine Q8 (Q:=λv H'=>rj i v G H' D.nx) (RR:=λacc C=>compPost (model X.prog X.w) X.A X.xe (some (assign (.Name x pos') X.env)) (λ_ s'=>SP X pins D .next s') acc C) hc S hg hf he I2 T st2 f2 sx vA W m0 w0 turn ?_;intro acc C H' s' v hv I' fC ⟨m,hm⟩ q;subst hv;obtain⟨f0,f1,XC,f3,f4,f5⟩:=fC;show wpAny _ X.A (assign (.Name x pos') X.env (.ref acc)) _ _ _;refine wpAny_assign_Name (P6 I' hN hx (.inl hl) (show RelV (.ref acc) (.ref acc)from rfl) (λs'' XD ⟨a,hs1,ha⟩=>?_) (.inr hl));have haC:a≠C:=by
  rcases ha with e|e
  rw[e];exact f1.symm;exact f4 _ _ e
 exact⟨m,hm.sameBut hs1 haC.symm,λh'' Ax=>⟨_,H',XD.turned (it:=C) (t':=s''.toks) (λb o hb e=>(Ax.2 b hb).trans e) f0 f1 f3 f4 f5,q⟩⟩
end
mutual
noncomputable def wD:PyData->Nat
 |.none=>4
 |.bool _=>5
 |.int _=>1921
 |.str x=>(reprText x).length
 |.list _=>0
 |.tuple xs=>EU xs+3
 |.dict _=>0
noncomputable def EU:List PyData->Nat
 |[]=>0
 |x :: xs=>wD x+2+EU xs
end
abbrev mO(ns:List Int):PyData:=.tuple (cZ ns)
def Nk:∀(rs:List (List Int)),PyData.canLayAll0 (rs.map mO)=true
 |[]=>rfl
 |r :: rs=>by
  show(PyData.canLayAll0 (cZ r) && PyData.canLayAll0 (rs.map mO))=true;rw[Au,Nk rs];rfl
def Rf:∀(rs:List (List Int)),PyData.depthAll (rs.map mO)<=1
 |[]=>ZaK _
 |r :: rs=>by
  show max (PyData.depthAll (cZ r)+1) (PyData.depthAll (rs.map mO))<=1;have:=Rf rs;rw[C0];lk
abbrev Nl(i:Int):Prop:=-1000000000000000000<=i/\i<=1000000000000000000
end L2
namespace L2
open PySem PySem.Spec PyProof.Rows
section
variable {X:Cx}{K:Zfr}
def wK(hK:X.K=K):Ep X (Aj K):=by subst hK;exact kW
def wL(hK:X.K=K):Ep X (Ak K):=by subst hK;exact bB
def Rg(hK:X.K=K):kY X (compareOp .NotIn) (JW K true):=by subst hK;exact Ew
def XE(hK:X.K=K)(hu:X.A.units+64<cLine):kY X (compareOp .Eq) (xo K false):=by subst hK;exact M5 hu
def XF(hK:X.K=K):eJ X (.type "tuple") (λxs H Q=>∃p ys,xs=[V.ref p]/\((jX K H p ys/\∀l,H l=none->Q (.ref l) (upd H l (.tup ys)))\/(fV K H p ys/\Q (.ref p) H))):=by subst hK;exact oB
def XG(hK:X.K=K)(hl:PE X l tl):PI X tg l (uZ K tl):=by subst hK;exact Ec hl
end
section
variable {prog:Program}{w:World}{A:Around}{E:Value->Shared->Prop}{s:Shared}
def XH(hj:s.heap.IsTupleIter j t i)(ht:s.heap.IsTuple t ys)(hy:ys[i]?=some y)
  (hQ:∀h',h'.IsTupleIter j t (i+1)->Heap.SameBut j s.heap h'->Q y { s with heap:=h' }):wpAny (model prog w) A (Builtin.SmallTypes.nextOf (.ref j)) Q E s:=by
 obtain⟨r,hr,rc,rd⟩:=id hj;obtain⟨q,hq,_,nq,dq⟩:=ht;unfold Builtin.SmallTypes.nextOf;refine wpAny_bind (wpAny_callSpecial?_slot (name:=Str.ofString "__next__") hj.typeIs F.slot_tuple_iterator_next (wpAny_call_entry F.slot_tuple_iterator_next hj.typeIs F.entry_tuple_iterator_next ?_ (F.args_tuple_iterator_next_1 _)));show wpAny _ _ (PySem.field (.ref j) 0 >>= _) _ _ s;refine wpAny_bind (wpAny_field hr rd (x:=.ref t) rfl ?_);show wpAny _ _ (if(Value.ref t == Value.none)=true then _ else _) _ _ s;rw[if_neg (λz:(Value.ref t == Value.none)=true=>Zam z)];show wpAny _ _ (PySem.field (.ref j) 1 >>= _) _ _ s;refine wpAny_bind (wpAny_field hr rd (x:=.int i 0) rfl ?_);show wpAny _ _ (seqItems? (.ref t) >>= _) _ _ s;refine wpAny_bind (wpAny_seqItems hq dq ?_);simp only[Zat,hy];refine wpAny_bind (wpAny_setField hr rd (by simp) (wpAny_pure ⟨y,rfl,wpAny_pure (hQ _ ⟨_,Zbp _ hr (Obj.isFreed_of_fields (Obj.data_mapFields rd _)),(Obj.cls_mapFields ..).trans rc,by rw[Obj.data_mapFields rd];simp[rawInt]⟩ (Zbv ..))⟩))
def XI(hh:A.handled=none)(hj:s.heap.IsTupleIter j t i)(ht:s.heap.IsTuple t ys)(hy:ys[i]?=none)
  (hE:∀h' e,Heap.ExtBut j s.heap h'->(∃o,h'.get? e=some o/\o.cls=.type "StopIteration")->E (.ref e) { s with heap:=h' }):wpAny (model prog w) A (Builtin.SmallTypes.nextOf (.ref j)) Q E s:=by
 obtain⟨r,hr,rc,rd⟩:=id hj;obtain⟨q,hq,_,nq,dq⟩:=ht;unfold Builtin.SmallTypes.nextOf;refine wpAny_bind (wpAny_callSpecial?_slot (name:=Str.ofString "__next__") hj.typeIs F.slot_tuple_iterator_next (wpAny_call_entry F.slot_tuple_iterator_next hj.typeIs F.entry_tuple_iterator_next ?_ (F.args_tuple_iterator_next_1 _)));show wpAny _ _ (PySem.field (.ref j) 0 >>= _) _ _ s;refine wpAny_bind (wpAny_field hr rd (x:=.ref t) rfl ?_);show wpAny _ _ (if(Value.ref t == Value.none)=true then _ else _) _ _ s;rw[if_neg (λz:(Value.ref t == Value.none)=true=>Zam z)];show wpAny _ _ (PySem.field (.ref j) 1 >>= _) _ _ s;refine wpAny_bind (wpAny_field hr rd (x:=.int i 0) rfl ?_);show wpAny _ _ (seqItems? (.ref t) >>= _) _ _ s;refine wpAny_bind (wpAny_seqItems hq dq ?_);simp only[Zat,hy];refine wpAny_bind (wpAny_rule (wpAny_bind (wpAny_setField hr rd (by simp) ?_)));show wpAny _ _ (newExc (.type "StopIteration") [] >>= _) _ _ _;refine wpAny_bind ?_;simp only[newExc,newTuple];refine wpAny_bind (wpAny_newObj_type ?_ (by size_fits));refine wpAny_bind (m:=firstArgMember _ _) (wpAny_of_eq (a:=Value.none) (by first|rfl|(simp only[firstArgMember];rfl)) ?_);refine wpAny_newObj_type ?_ (by size_fits);simp only[raiseNew];refine wpAny_bind (wpAny_handled ?_);first|rw[show A.in1.handled=none from hh]|rw[hh]
 exact wpAny_bind (wpAny_pure (wpAny_throw (hE _ _ (((Zbv ..).extBut.push _).push _) ⟨_,ZaA _ rfl,rfl⟩)))
end
def vB(hh:A.handled=none)(j t:Addr)(hne:t≠j)(ys:Array Value):
  Draws prog w A j [j,t] ys.size (λi v=>ys[i]?=some v) (λi h=>h.IsTupleIter j t i/\h.IsTuple t ys) where
 live:=λ_ _ st=>let ⟨o,ho,_⟩:=st.1;⟨o,ho⟩
 frame:=λ_ _ _ st k=>⟨st.1.at λo e=>k j (by simp) o e,let ⟨o,e,r⟩:=st.2;⟨o,k t (by simp) o e,r⟩⟩
 item:=λi s Q E hi st hQ=>XH st.1 st.2 (y:=ys[i]) (by simp[hi]) λh' a b=>hQ _ h' s.toks (by simp[hi]) ⟨a,st.2.extBut b.extBut hne⟩ b
 done:=λs Q E st hE=>XI hh st.1 st.2 (by simp) hE
def XJ(l:Addr)(items:Array Value)(n:Nat)(dct:Option Addr)(sl:Array (Option Value)):
  Meets (Builtin.«enumerate.__new__» ⟨[.type "enumerate",.ref l],[]⟩) (λ_ R s=>s.heap.get? l=some { cls:=.type "tuple",dict:=dct,data:=.seq items n,slots:=sl } /\
   R (.ok (.ret (.ref (s.heap.push { cls:=.type "tuple_iterator",data:=.fields #[.ref l,.int 0 0] }).objs.size)))
    { s with heap:=(s.heap.push { cls:=.type "tuple_iterator",data:=.fields #[.ref l,.int 0 0] }).push { cls:=.type "enumerate",data:=.fields #[.none,.bool false,.ref s.heap.objs.size,rawInt 0,.none,.none] } }) :=
 .of_wp λprog w A R s h=>by
  obtain⟨hp,g,d,tk,os⟩:=s;obtain⟨hl,h⟩:=h;have hsub:=sub_enumerate;have hL:Heap.IsTuple (Shared.heap ⟨hp,g,d,tk,os⟩) l items:=⟨_,hl,rfl,n,rfl⟩
  wp_walk using AutoSeq1.wpAny_loadPart' hl
  refine wpAny_stack_any λst=>wpAny_pure ?_;split
  ·rename_i c _ _ _ _ _
   cases(c == Value.type "enumerate")<;>(wp_walk using AutoSeq1.wpAny_loadPart' hl,wpAny_pyIter_tuple hL;exact⟨_,rfl,h⟩)
  ·wp_walk using AutoSeq1.wpAny_loadPart' hl,wpAny_pyIter_tuple hL
   exact⟨_,rfl,h⟩
section
variable {prog:Program}{w:World}{A:Around}{E:Value->Shared->Prop}{s:Shared}
def XM(ht:s.heap.IsTuple l ys)
  (h:∀h',IsEnum h' (s.heap.objs.size+1) s.heap.objs.size 0 .none->h'.IsTupleIter s.heap.objs.size l 0->h'.objs.size=s.heap.objs.size+2 ->
   (∀b o,s.heap.get? b=some o->h'.get? b=some o)->Q (.ref (s.heap.objs.size+1)) { s with heap:=h' }):wpAny (model prog w) A (call (.type "enumerate") [.ref l]) Q E s:=by
 obtain⟨⟨c,dct,dt,sl⟩,hl,hc,n,hd⟩:=ht;cases(show c=.type "tuple" from hc);cases(show dt=.seq ys n from hd);refine callType_new F.called_enumerate ∅ (F.typeCall_enumerate_1 _) (F.newCall_enumerate_1 _) (λobj=>F.args_object_init_2 obj _) F.entry_enumerate_new (XJ l ys n dct sl) ⟨hl,?_⟩;have z:(s.heap.push { cls:=.type "tuple_iterator",data:=.fields #[.ref l,.int 0 0] }).objs.size=s.heap.objs.size+1:=ZbM ..;show _/\_;rw[z];have en:IsEnum ((s.heap.push { cls:=.type "tuple_iterator",data:=.fields #[.ref l,.int 0 0] }).push { cls:=.type "enumerate",data:=.fields #[.none,.bool false,.ref s.heap.objs.size,rawInt 0,.none,.none] }) (s.heap.objs.size+1) s.heap.objs.size 0 .none:=by
  have g:=ZaA (s.heap.push { cls:=.type "tuple_iterator",data:=.fields #[.ref l,.int 0 0] }) (o:={ cls:=.type "enumerate",data:=.fields #[.none,.bool false,.ref s.heap.objs.size,rawInt 0,.none,.none] }) rfl;rw[z]at g;exact g
 exact⟨⟨_,en,rfl⟩,h _ en ⟨_,Zau _ (ZaA _ rfl),rfl,rfl⟩ (by rw[ZbM,z]) λb o e=>Zau _ (Zau _ e)⟩
end
section
variable {X:Cx}{pins:List (Addr×Obj)}{G:St}{H:Hp}{s:Shared}{h':Heap}
def Inv.xr{t':Nat}{ch:List Addr}(I:Inv X pins G H s)(k:∀b o,b ∉ ch->s.heap.get? b=some o->h'.get? b=some o)(f:∀b∈ch,nX X pins H b):Inv X pins G H { s with heap:=h',toks:=t' }:=by
 have DV:∀b u,H b=some u->b ∉ ch:=λb u e z=>by rw[(f b z).1]at e;cases e
 refine I.step (g':=s.gens) (d':=s.drawn) (ch:=ch) (λb hb=>⟨(f b hb).2.2.2.1,(f b hb).2.1,(f b hb).2.2.2.2.1,(f b hb).2.2.2.2.2⟩) (λb o _ _ hc e _=>k b o hc e) (λb o _ _ hc e _=>⟨o.slots,k b o hc e⟩) (λ_ _ _ _ n=>n)
  (λb o hc e=>⟨o,k b o hc e⟩) (λ_ _ e=>e) (λ_ _ _ e=>e) (λb ps e=>⟨#[],by rw[e];simp⟩) (λm hm=>?_) (λb u e=>?_) I.bare
 obtain⟨o,es,ep,ho,r⟩:=hm;exact⟨o,es,ep,k _ o (λz=>(f _ z).2.1 rfl) ho,r⟩;refine(I.hok b u e).stay (λc v hc q=>k c v ?_ q) (λ_ q=>q) λ_ _ q=>q;rcases hc with z|z
 rw[z];exact DV b u e;exact DV c _ z
end
abbrev Rh(K:Zfr)(a:Addr):It :=
 ⟨λi H=>∃xs x,fV K H a xs/\xs[i]?=some x,λi H x H'=>∃p y,x=.ref p/\H p=none/\H'=upd H p (.tup [.int i,y])/\∀xs,fV K H a xs->xs[i]?=some y,λi H=>∃xs,fV K H a xs/\xs.length=i⟩
def XQ{P:Program}{w:World}{K:Zfr}{es:List Expr}{x1}{pos:Pos}(a e it:Addr)(hne:e≠it):
  Turn P w K (.Tuple es x1 pos) (Rh K a) [e,it] e (λi h=>(∃old,IsEnum h e it i old)/\h.IsTupleIter it a i) where
 mem:=by simp
 obj:=λi h st b hb=>by
  obtain⟨⟨old,he⟩,o,e2,c,d⟩:=st;rcases ZaE.mp hb with rfl|hb
  exact⟨_,he,λv z=>by
   have z':Data.fields _=Data.cell v:=z
   cases z'⟩
  have q:b=it:=by simpa using hb
  subst q;exact⟨o,e2,λv z=>by rw[d]at z;cases z⟩
 keep:=λi h h' st k=>⟨let ⟨old,he⟩:=st.1;⟨old,k e (by simp) _ he⟩,st.2.at λo q=>k it (by simp) o q⟩
 item:=by
  intro X hP hw hK hc i pins s G H E I hf st hg;subst hP hw hK;obtain⟨xs,x,hq,hx⟩:=hg;obtain⟨its,rv,p,hz⟩:=I.tuple hq;obtain⟨u,hu,ru⟩:=rv.get hx;obtain⟨⟨old,he⟩,hit⟩:=st;have ht:s.heap.IsTuple a its.toArray:=p;have Nm:a≠it:=λz=>by
   obtain⟨o,e1,c1,_⟩:=hit;obtain⟨o2,e2,c2,_⟩:=ht;rw[z,e1]at e2;cases e2;exact absurd (c1.symm.trans c2) (by simp)
  have XR:e≠a:=λz=>by
   obtain⟨o2,e2,c2,_⟩:=ht;rw[<- z,he]at e2;cases e2;exact absurd c2 (by simp)
  have hl:=rv.length;have hi:i<its.toArray.size:=by
   have:=Zab.mp hu;obtain⟨q,_⟩:=this
   simpa using q
  refine wpAny_pyNext_enum_itemD (vB (A:=X.A.in1) (I.ok.hd hc) it a Nm its.toArray) he ⟨hit,ht⟩ hi hne (by simp[hne,XR]) λy h1 tk hy ho hst hT hsz kk=>?_;have ey:y=u:=by
   have:its.toArray[i]?=some u:=by simpa using hu
   exact Zao (hy.symm.trans this)
  subst ey;refine⟨_,rfl,wpAny_letOwnedTupleGo_enum ho λh2 XS sb=>?_⟩;have hel:@LT.lt Nat _ e s.heap.objs.size:=ZaB he;have hil:@LT.lt Nat _ it s.heap.objs.size:=by obtain⟨o,e1,_⟩:=hit;exact ZaB e1
  have EV:H s.heap.objs.size=none:=I.hok.fresh (Zad _);have sb':Heap.SameBut e h1 h2:=sb;have I1:Inv X pins G (upd H s.heap.objs.size (.tup [.int i,x])) { s with heap:=s.heap.push { cls:=.type "tuple",data:=.seq #[.int i tk,y] },toks:=s.toks } :=
   I.laid (λb u e=>Zau _ e) (Zad _) ⟨(by decide:2<=sizeLine),[.int i tk,y],.cons ⟨tk,rfl⟩ (.cons ru .nil),⟨_,ZaA _ rfl,rfl,rfl,_,rfl⟩⟩
  have nn:∀b∈[e,it],@LT.lt Nat _ b s.heap.objs.size:=λb hb=>by
   rcases ZaE.mp hb with rfl|hb
   exact hel;have q:b=it:=by simpa using hb
   rw[q];exact hil
  have hn:∀b∈[e,it],upd H s.heap.objs.size (.tup [.int i,x]) b=none:=λb hb=>by
   unfold upd;rw[if_neg (ZaS (nn b hb))];exact(hf b hb).1
  have I2:Inv X pins G (upd H s.heap.objs.size (.tup [.int i,x])) { s with heap:=h2,toks:=tk+1 }:=by
   refine Inv.xr (s:={ s with heap:=s.heap.push { cls:=.type "tuple",data:=.seq #[.int i tk,y] },toks:=s.toks }) (h':=h2) I1 (ch:=[e,it]) (t':=tk+1) (λb o hb q=>?_) λb hb=>⟨hn b hb,(hf b hb).2⟩;have nb:b≠e/\b≠it:=by simpa using hb
   refine(sb'.2 b nb.1).trans ?_;rcases Heap.get?_push_cases q with⟨rfl,rfl⟩|q
   exact hT;exact kk b o nb.1 nb.2 q
  refine⟨.ref s.heap.objs.size,_,I2,rfl,⟨_,x,rfl,EV,rfl,λys xt=>by rw[I.jJ xt hq];exact hx⟩,⟨⟨y,?_⟩,?_⟩,hn⟩
  have:((i+1:Nat):Int)=(i:Int)+1:=by lk
  rw[this];exact XS;exact hst.1.extBut sb'.extBut (Ne.symm hne)
 done:=by
  intro X hP hw hK hc i pins s G H E I hf st hg;subst hP hw hK;obtain⟨xs,hq,hx⟩:=hg;obtain⟨its,rv,p,hz⟩:=I.tuple hq;obtain⟨⟨old,he⟩,hit⟩:=st;have ht:s.heap.IsTuple a its.toArray:=p;have Nm:a≠it:=λz=>by
   obtain⟨o,e1,c1,_⟩:=hit;obtain⟨o2,e2,c2,_⟩:=ht;rw[z,e1]at e2;cases e2;exact absurd (c1.symm.trans c2) (by simp)
  have hl:=rv.length;have ei:its.toArray.size=i:=by simp;lk
  refine wpAny_pyNext_enum_endD (vB (A:=X.A.in1) (I.ok.hd hc) it a Nm its.toArray) he (by rw[ei];exact⟨hit,ht⟩) λh1 eb=>⟨rfl,?_⟩;obtain⟨f0,f1,f2,f3,f4,f5⟩:=hf it (by simp);exact I.turned (t':=s.toks) (λb o hb q=>eb b o hb q) f0 f1 f3 f4 f5
 self:=λ_ _ _ _ _ st h=>let ⟨_,he⟩:=st.1;wpAny_pyIter_enum he h
abbrev yF(K:Zfr)(ta:TA):TI:=λG H R=>ta G H λvs H1=>∃a,vs=[.ref a]/\(∃xs,fV K H1 a xs)/\R (Rh K a) H1
def J7{x1}(hg:Gl X "enumerate")(hm:X.mg "enumerate" = none)(ha:PA X [l] ta)(hs:starEach [l] X.env=[(false,eval l X.env)]:=by rfl):
  PI X (.Tuple es x1 p0) (.Call (.Name "enumerate" p) [l] [] pos) (yF X.K ta):=by
 intro pins s G H R I h;refine Call_ (zV I hg hm boot_enumerate (PyProof.Rows.callWith_type1 (cf (ha pos pins s G H _ I h) λus s1 ⟨vs,H1,I1,r1,q1⟩=>?_) hs rfl));obtain⟨a,e,⟨xs,hq⟩,q⟩:=q1;subst e;cases r1 with
 |cons r rr =>
  cases rr;cases r;obtain⟨its,rv,p,hz⟩:=I1.tuple hq;refine XM (show s1.heap.IsTuple a its.toArray from p) λh1 he hi hsz kk=>?_;refine wpAny_pyIter_enum he ?_;refine⟨s1.heap.objs.size+1,[s1.heap.objs.size+1,s1.heap.objs.size],_,_,H1,rfl,I1.kept (t':=s1.toks) kk,XQ a _ _ (Nat.succ_ne_self _),⟨⟨_,he⟩,hi⟩,λb hb=>?_,q⟩;have hb':@LE.le Nat _ s1.heap.objs.size b:=by
   rcases ZaE.mp hb with rfl|hb
   exact Zb1 _;have e:b=s1.heap.objs.size:=by simpa using hb
   rw[e];exact Zad _
  exact I1.se hb' (I1.hok.fresh hb')
section
open Sem (wp)
open PySem.AutoSeq1 (wpAny_loadPart')
open PySem.MeetsSeq PySem.MeetsSeq2 PySem.MeetsSeq3
def IntsAre.get{vs:List Value}{ns:List Int}(h:IntsAre vs ns):∀{i:Nat} {n:Int},ns[i]?=some n->∃t,vs[i]?=some (.int n t):=by
 induction h with
 |nil=>intro i n e;simp at e
 |cons a t h ih =>
  intro i n e;cases i with
  |zero=>exact⟨t,by simpa using e⟩
  |succ i=>simpa using ih (by simpa using e)
def vC(l:Addr)(items:Array Value)(n:Nat)(dd:Option Addr)(sl:Array (Option Value))(ns:List Int)(hi:IntsAre items.toList ns)(v:Int)(t:Tok)(j:Nat)(hj:ns[j]?=some v)(hb:∀i,i<j->ns[i]?≠some v):
  Meets (Builtin.«tuple.index» ⟨[.ref l,.int v t],[]⟩)
   (λ_ R s=>s.heap.get? l=some { cls:=.type "tuple",dict:=dd,data:=.seq items n,slots:=sl }/\R (.ok (.ret (.int (j:Int) s.toks))) { s with toks:=s.toks+1 }) :=
 .of_wp λprog w A R s h=>by
  obtain⟨hp,g,d,tk,os⟩:=s;obtain⟨hl,h⟩:=h;have z1:items.size=ns.length:=by rw[<- hi.length];simp
  have hjl:j<ns.length:=(Zab.mp hj).1
  wp_walk using wpAny_loadPart' hl
  have key:wpAny (model prog w) A.in1 (forIn (m:=Sem) [:min items.size items.size] ((none,()):Option Fin×Unit) (λ(i:Nat) _ =>
    match items[i]? with
    |some y=>do
     let b <- eqBool y (Value.int v t)
     if b=true then do
      let r <- retInt (i:Int)
      pure (ForInStep.done (some r,()))
     else pure (ForInStep.yield (none,()))
    |_=>pure (ForInStep.yield (none,()))))
   (λa s'=>a.1=some (.done (.ret (.int (j:Int) tk)))/\s'=⟨hp,g,d,tk+1,os⟩) (λe s'=>R (Except.error e) s') ⟨hp,g,d,tk,os⟩:=by
   rw[Std.Legacy.Range.forIn_eq_forIn_range'];have ez:([:min items.size items.size]:Std.Legacy.Range).size=ns.length:=by
    simp[Std.Legacy.Range.size,z1]
   rw[ez];refine wpAny_forIn_list _ (λrest b s'=>b.1=none/\s'=⟨hp,g,d,tk,os⟩/\∃k,k<=j/\rest=List.range' k (ns.length-k) 1) _ ?_ ?_ _ _ ⟨rfl,rfl,0,ZaK _,by simp⟩;rintro x rest b s' ⟨hb',rfl,k,hk,e⟩;have el:ns.length-k=(ns.length-(k+1))+1:=by lk
   rw[el,List.range'_succ]at e;injection e with e1 e2;subst e1;have pW:x<ns.length:=by lk
   obtain⟨t',ht'⟩:=IntsAre.get hi (Zac pW);have XT:items[x]?=some (.int ns[x] t'):=by rw[<- ht',Zb5]
   simp only[XT];obtain⟨e,he,hiff⟩:=HT.WJ A.in1 ⟨hp,g,d,tk,os⟩ ns[x] t' v t;refine wpAny_bind (he prog w _ _ ?_);cases e with
   |true =>
    have ev:ns[x]=v:=hiff.mp rfl;have XU:x=j:=by
     rcases ZbP x j with h'|h'
     exact absurd (by rw[Zac pW,ev]) (hb x h');lk
    subst XU
    wp_walk
    first|exact⟨rfl,rfl⟩|trivial
   |false =>
    have ev:ns[x]≠v:=λq=>absurd (hiff.mpr q) Zam;have:x≠j:=λz=>ev (by subst z;rw[Zac pW]at hj;exact Zao hj)
    wp_walk
    exact⟨rfl,rfl,x+1,by lk,e2⟩
   rintro b s' ⟨hb',rfl,k,hk,e⟩
   have:(List.range' k (ns.length-k) 1).length=0:=by rw[<- e];rfl
   rw[List.length_range']at this;lk
  refine wpAny_mono key (λa s' ha=>?_) (λ_ _ z=>z);obtain⟨ha,rfl⟩:=ha;obtain⟨a1,a2⟩:=a;cases(show a1=_ from ha);exact wpAny_pure ⟨_,rfl,h⟩
end
section
variable {X:Cx}{K:Zfr}
abbrev sy(K:Zfr):V->List V->Hp->VK->Prop:=λx vs H Q=>∃(a:Addr) (ns:List Int) (v:Int) (j:Nat),x=.ref a/\vs=[.int v]/\fV K H a (ns.map V.int)/\ns[j]?=some v/\(∀i,i<j->ns[i]?≠some v)/\Q (.int (j:Int)) H
def XW:yu X "tuple.index" (sy X.K):=by intro pins s G H x xs v us Q I rx rv h;obtain⟨a,ns,y,j,rfl,rfl,hq,hj,hb,q⟩:=h;cases rx;obtain⟨u,rfl,t,rfl⟩:=vals1 rv;obtain⟨its,r,⟨⟨c,dd,dt,sl⟩,e,hc,hd,n,hdt⟩,hz⟩:=I.qq hq;cases(show c=.type "tuple" from hc);cases(show dt=.seq its.toArray n from hdt);refine call_meets F.slot_tuple_index ⟨_,e,rfl⟩ F.entry_tuple_index (F.args_tuple_index_2 _ _) (vC a its.toArray n dd sl ns (by simpa using ML r) y t j hj hb) ⟨e,?_⟩;exact⟨.int j,H,I.tok _,⟨_,rfl⟩,q⟩
def Ri(hK:X.K=K):yu X "tuple.index" (sy K):=by subst hK;exact XW
def Nn{o e:Expr}{es:List Expr}{to:TE}{t:TA}{name:Str}{apos cpos:Pos}{T id:String}{r:V->List V->Hp->VK->Prop}(hK:X.K=K)(pa:PlainAttrs T)(slot:Slot T name id)(hty:typeOf (.builtin id)=pure (.type "method_descriptor"))(hm:yu X id r)(ho:PE X o to)(ha:PA X (e :: es) t)
  (hbase:attributeBase o name X.env (eval o X.env)=eval o X.env:=by rfl)
  (hfew:((backTo cpos (starEach (e :: es) X.env)).all (λx=>!x.1) && (backToKw cpos (keywordEach [] X.env)).all (λx=>x.1.isSome)
   && decide ((e :: es).length+([]:List Keyword).length+(if([]:List Keyword).isEmpty then 0 else 1)<30))=true:=by rfl)
  (hline:(apos.endLine == cpos.line)=true:=by rfl) (hs:starEach (e :: es) X.env=(false,eval e X.env) :: starEach es X.env:=by rfl) (hplain:(backTo cpos (starEach es X.env)).any (·.1)=false:=by rfl) :
  PE X (.Call (.Attribute o name apos) (e :: es) [] cpos) (MQ K T r to t):=by subst hK;exact oC pa slot hty hm ho ha hbase hfew hline hs hplain
def XX{es:List Expr}{k:Nat}{t:uX}{n:Nat}{pos:Pos}(hK:X.K=K)(hc:X.calm=true)(h:D6 X es t)
  (hn:(assignEach es X.env).length=n:=by rfl) (hst:(assignEach es X.env).findIdx? (·.1)=none:=by rfl):PG X (.Tuple es k pos) (zZ K n t):=by subst hK;exact qu hc h hn hst
end
open Builtin.Str
section
variable {X:Cx}{K:Zfr}
def Rj:bootBuiltins "abs" = some (.builtin "abs"):=by decide +kernel
def Ay:bootBuiltins "sum" = some (.builtin "sum"):=by decide +kernel
end
end L2
namespace L2
open PySem PySem.Spec PyProof.Rows
open Builtin.Str
set_option genInjectivity false in
inductive ZS where
 |tup (a:Addr)|lst (a:Addr)|str (x:Str)
abbrev ZS.has(K:Zfr)(H:Hp)(i:Nat)(v:V):ZS->Prop
 |.tup a=>∃xs,fV K H a xs/\xs[i]?=some v
 |.lst a=>∃xs,jX K H a xs/\xs[i]?=some v
 |.str x=>∃c,x.cps[i]?=some c/\v=.str ⟨#[c]⟩
abbrev ZS.fin(K:Zfr)(H:Hp)(i:Nat):ZS->Prop
 |.tup a=>∃xs,fV K H a xs/\xs.length=i
 |.lst a=>∃xs,jX K H a xs/\xs.length=i
 |.str x=>x.cps.size=i
def ZS.xu{X:Cx}{pins:List (Addr×Obj)}{G:St}{H:Hp}{s:Shared}{src:ZS}{i:Nat}{x y:V}(I:Inv X pins G H s)(a:src.has X.K H i x)(b:src.has X.K H i y):y=x:=by
 cases src with
 |tup p =>
  obtain⟨xs,h1,e1⟩:=a;obtain⟨ys,h2,e2⟩:=b;rw[I.jJ h2 h1]at e2;rw[e1]at e2;exact(Zao e2).symm
 |lst p =>
  obtain⟨xs,h1,e1⟩:=a;obtain⟨ys,h2,e2⟩:=b;rw[I.rh h2 h1]at e2;rw[e1]at e2;exact(Zao e2).symm
 |str z =>
  obtain⟨c,h1,rfl⟩:=a;obtain⟨d,h2,rfl⟩:=b;rw[h1]at h2;cases h2;rfl
abbrev ZS.val(K:Zfr)(H:Hp)(x:V):ZS->Prop
 |.tup a=>x=.ref a/\∃xs,fV K H a xs
 |.lst a=>x=.ref a/\∃xs,jX K H a xs
 |.str z=>x=.str z
end L2
namespace L2
open PySem PySem.Spec PyProof.Rows
section
variable {X:Cx}{K:Zfr}
abbrev eD(us:List Value)(ds:List PyData)(dx:PyData)(u:Value):Bool:=@decide (∃(i:Nat) (d:PyData),us[i]?=some u/\ds[i]?=some d/\PyData.eqv d dx=true) (Classical.propDecidable _)
def g5.get:∀{H:Hp} {vs:List V} {ds:List PyData},g5 K H vs ds->∀{i:Nat} {v:V},vs[i]?=some v->∃d,ds[i]?=some d/\Rep K H v d
 |_,_,_,.nil,i,v,e=>by simp at e
 |_,_,_,.cons (d:=d) a b,0,v,e=>⟨d,by simp,by have:_=v:=Zao (by simpa using e);rw[<- this];exact a⟩
 |_,_,_,.cons a b,i+1,v,e=>by
  obtain⟨d,e1,r⟩:=g5.get b (i:=i) (by simpa using e);exact⟨d,by simpa using e1,r⟩
def g5.xv:∀{H:Hp} {vs:List V} {ds:List PyData},g5 K H vs ds->vs.length=ds.length
 |_,_,_,.nil=>rfl
 |_,_,_,.cons _ r=>by rw[ZaD,ZaD,g5.xv r]
def Vals.EW{xs:List V}{us:List Value}(r:Vals xs us){i:Nat}{u:Value}(h:us[i]?=some u):∃v,xs[i]?=some v/\RelV v u:=by have hi:=(Zab.mp h).1;have hl:=r.length;obtain⟨u',hu,ru⟩:=r.get (i:=i) (x:=xs[i]'⋯) (Zac _);rw[h]at hu;cases hu;exact⟨_,Zac _,ru⟩
open Classical in
def Np{pins:List (Addr×Obj)}{G:St}{H:Hp}{s:Shared}{xs:List V}{us:List Value}{ds:List PyData}{x:V}{v:Value}{dx:PyData}(hu:X.A.units+64<cLine)(I:Inv X pins G H s)(r:Vals xs us)(hr:g5 X.K H xs ds)(rx:RelV x v)(hx:Rep X.K H x dx)(c1:∀d∈ds,d.canLay0=true)(c2:dx.canLay0=true)(c3:dx.depth<=60):
  ∀u∈us,SeqAt.EqAt X.A.in1 s u v (eD us ds dx u):=by
 intro u hm;obtain⟨bs,rb⟩:=hx.reads I rx;have key:∀(i:Nat) (d:PyData),us[i]?=some u->ds[i]?=some d->SeqAt.EqAt X.A.in1 s u v (PyData.eqv d dx):=λi d h1 h2=>by
  obtain⟨y,hy,ry⟩:=r.EW h1;obtain⟨d',hd',rd⟩:=hr.get hy;rw[h2]at hd';cases hd';obtain⟨as,ra⟩:=rd.reads I ry;intro prog w E Q q;refine SeqAt.eqBoolOverData prog w X.A.in1 E s u v d dx as bs Q ra rb (c1 _ (Zai h2)) c2 ?_ q;have:X.A.in1.units<=X.A.units+2:=by
   first|exact Zcq _ _|(show X.A.units<=_;lk)|(show X.A.units+1<=_;lk)
  lk
 obtain⟨i,hi⟩:=Zbc hm;have hl1:=r.length;have hl2:=hr.xv;have hil:=(Zab.mp hi).1;unfold eD;by_cases h:∃(i:Nat) (d:PyData),us[i]?=some u/\ds[i]?=some d/\PyData.eqv d dx=true;rw[decide_eq_true h];obtain⟨j,d,h1,h2,h3⟩:=h;have:=key j d h1 h2
 rwa [h3]at this
 rw[decide_eq_false h];have h2:ds[i]?=some (ds[i]'⋯):=Zac _;have k:=key i _ hi h2;cases hb:PyData.eqv (ds[i]'⋯) dx with
 |true=>exact absurd ⟨i,_,hi,h2,hb⟩ h
 |false=>rwa [hb]at k
open Classical in
def Az{xs:List V}{us:List Value}{ds:List PyData}{dx:PyData}(h1:us.length=ds.length):us.any (eD us ds dx)=ds.any λd=>PyData.eqv d dx:=by rw[ZbU,Zcb,Zcb];constructor;rintro⟨u,hu,h⟩;unfold eD at h;obtain⟨i,d,_,h2,h3⟩:=of_decide_eq_true h;exact⟨d,Zai h2,h3⟩;rintro⟨d,hd,h⟩;obtain⟨i,hi⟩:=Zbc hd;have hil:=(Zab.mp hi).1;refine⟨us[i]'⋯,ZbO _,?_⟩;unfold eD;exact decide_eq_true ⟨i,d,Zac _,hi,h⟩
abbrev EX(K:Zfr)(neg:Bool):R2:=λx y H Q=>∃p xs ds dx,y=.ref p/\(jX K H p xs\/fV K H p xs)/\g5 K H xs ds/\Rep K H x dx/\(∀d∈ds,PyData.canLay0 d=true)/\PyData.canLay0 dx=true/\PyData.depth dx<=60/\Q (.bl (if neg then !ds.any (λd=>PyData.eqv d dx)else ds.any λd=>PyData.eqv d dx)) H
def Rm(hu:X.A.units+64<cLine):kY X (compareOp .NotIn) (EX X.K true):=by
 intro pins s G H x y v u Q I rx ry h;obtain⟨p,xs,ds,dx,rfl,hq,hr,hx,c1,c2,c3,q⟩:=h;cases ry;have e2:∀{its:List Value},Vals xs its->its.toArray.any (eD its ds dx)=ds.any λd=>PyData.eqv d dx:=λ{its} r=>by
  rw[show its.toArray.any (eD its ds dx)=its.any (eD its ds dx) by simp];exact Az (xs:=xs) (by rw[<- r.length];exact hr.xv)
 rcases hq with hq|hq
 obtain⟨its,r,pl,hz⟩:=I.list hq;refine SeqAt.notIn_listAt (eD its ds dx) pl.isList (λw hw=>Np hu I r hr rx hx c1 c2 c3 w (by simpa using hw)) ⟨.bl _,H,I,rfl,?_⟩;rw[e2 r];exact q;obtain⟨its,r,pl,hz⟩:=I.tuple hq;refine SeqAt.notIn_tupleAt (eD its ds dx) pl (λw hw=>Np hu I r hr rx hx c1 c2 c3 w (by simpa using hw)) ⟨.bl _,H,I,rfl,?_⟩;rw[e2 r];exact q
end
open Builtin.Str
def EY:Slot "reversed" "__next__" "reversed.__next__" :=
 .of (owner:="reversed") (n:="__next__") (by rw[typeLookup_type,builtinLookup_eq_fast];kernel_rfl) (by decide +kernel) (by decide +kernel) (by decide +kernel)
  (by first|exact .inl (by decide +kernel)|exact .inr (by decide +kernel)) (by rw[isSubtype_type];kernel_rfl)
def Rn:Slot "reversed" "__iter__" "reversed.__iter__" :=
 .of (owner:="reversed") (n:="__iter__") (by rw[typeLookup_type,builtinLookup_eq_fast];kernel_rfl) (by decide +kernel) (by decide +kernel) (by decide +kernel)
  (by first|exact .inl (by decide +kernel)|exact .inr (by decide +kernel)) (by rw[isSubtype_type];kernel_rfl)
def Ro:entryFor table "reversed.__next__" = some Builtin.«reversed.__next__»:=entryFor_of_tree (by kernel_rfl)
def Rq(a:Value):argsOk "reversed.__next__" ⟨[a],[]⟩:=by unfold argsOk;kernel_rfl
def XY:entryFor table "reversed.__iter__" = some Builtin.«dict_keyiterator.__iter__» :=
 entryFor_alias (id':="dict_keyiterator.__iter__") (by kernel_rfl) (by first|rfl|decide +kernel) (by decide +kernel) (by kernel_rfl)
def XZ(a:Value):argsOk "reversed.__iter__" ⟨[a],[]⟩:=by unfold argsOk;kernel_rfl
def X0:typeLookup (.type "tuple") "__reversed__" = pure none:=by rw[typeLookup_type,builtinLookup_eq_fast];kernel_rfl
def X1:typeLookup (.type "str") "__reversed__" = pure none:=by rw[typeLookup_type,builtinLookup_eq_fast];kernel_rfl
abbrev n4(h:Heap)(a:Addr)(v:Value)(i:Int):Prop:=∃o,h.get? a=some o/\o.cls=.type "reversed" /\ o.data=.fields #[v,rawInt i]
def n4.at(x:n4 h a v i)(e:∀o,h.get? a=some o->h'.get? a=some o):n4 h' a v i:=let ⟨o,ho,r⟩:=x;⟨o,e _ ho,r⟩
section
variable {prog:Program}{w:World}{A:Around}{E:Value->Shared->Prop}{s:Shared}
def n4.typeIs(x:n4 s.heap a v i):s.TypeIs (.ref a) "reversed" := let ⟨o,ho,hc,_⟩:=x;⟨o,ho,hc⟩
def Rr(hit:n4 s.heap it v i)(h:Q (.ref it) s):wpAny (model prog w) A (pyIter (.ref it)) Q E s:=by refine wpAny_pyIter_slot hit.typeIs Rn (wpAny_call_entry Rn hit.typeIs XY ?_ (XZ _));show wpAny _ _ (ret (.ref it)) _ _ s;exact wpAny_pure ⟨_,rfl,"reversed",_,hit.typeIs,EY.lookup,h⟩
def X2{it:Addr}{T gid:String}{v:Value}{y:Value->Prop}{i:Nat}{Q:Option Value->Shared->Prop}(hit:n4 s.heap it v (i:Int))(hT:s.TypeIs v T)(hg:typeLookup (.type T) "__getitem__" = pure (some (.builtin gid)))
  (hget:∀(A':Around) (E':Value->Shared->Prop) (Q':Value->Shared->Prop) (tk:Tok) (n:Nat),(∀z k,y z->Q' z { s with toks:=k })->wpAny (model prog w) A' (getItem v (.int i tk)) Q' E' { s with toks:=n })
  (hQ:∀x h' k,y x->n4 h' it v ((i:Int)-1)->Heap.SameBut it s.heap h'->Q (some x) { s with heap:=h',toks:=k }):wpAny (model prog w) A (pyNext (.ref it)) Q E s:=by
 obtain⟨o,ho,hc,hd⟩:=id hit;unfold pyNext
 refine wpAny_bind (wpAny_attempt (wpAny_callSpecial?_slot (name:=Str.ofString "__next__") hit.typeIs EY
  (wpAny_call_entry EY hit.typeIs Ro ?_ (Rq _))))
 unfold Builtin.«reversed.__next__»;refine wpAny_bind (wpAny_of_eq (a:=(Value.ref it,[])) rfl ?_)
 try dsimp only
 refine wpAny_bind (wpAny_field ho hd (x:=v) rfl ?_);refine wpAny_bind (wpAny_field ho hd (x:=rawInt (i:Int)) rfl ?_);show wpAny _ _ (if(i:Int)<0 then _ else _) _ _ s;rw[if_neg ⋯];refine wpAny_bind (wpAny_specialOf hT hg ?_)
 try dsimp only
 rw[if_neg (by simp)];refine wpAny_bind (wpAny_mkInt ?_);refine wpAny_bind (wpAny_attempt (hget _ _ _ _ _ λx k hx=>?_));show wpAny _ _ (field (.ref it) 1 >>= _) _ _ _;refine wpAny_bind (wpAny_field ho hd (x:=rawInt (i:Int)) rfl ?_);refine wpAny_bind (wpAny_setField ho hd (by simp) ?_)
 first
 |refine wpAny_pure ⟨x,rfl,wpAny_pure (hQ _ _ _ hx ?_ (Zbv ..))⟩
 |refine wpAny_pure ⟨x,rfl,wpAny_bind (wpAny_pure (wpAny_pure (hQ _ _ _ hx ?_ (Zbv ..))))⟩
 exact⟨_,Zbp _ ho (Obj.isFreed_of_fields (Obj.data_mapFields hd _)),(Obj.cls_mapFields ..).trans hc,by rw[Obj.data_mapFields hd];simp[rawInt]⟩
def X3(hh:A.handled=none)(hit:n4 s.heap it v i)(hi:i<0)
  (hQ:∀h',Heap.ExtBut it s.heap h'->Q none { s with heap:=h' }):wpAny (model prog w) A (pyNext (.ref it)) Q E s:=by
 obtain⟨o,ho,hc,hd⟩:=id hit;unfold pyNext
 refine wpAny_bind (wpAny_attempt (wpAny_callSpecial?_slot (name:=Str.ofString "__next__") hit.typeIs EY
  (wpAny_call_entry EY hit.typeIs Ro ?_ (Rq _))))
 unfold Builtin.«reversed.__next__»;refine wpAny_bind (wpAny_of_eq (a:=(Value.ref it,[])) rfl ?_)
 try dsimp only
 refine wpAny_bind (wpAny_field ho hd (x:=v) rfl ?_);refine wpAny_bind (wpAny_field ho hd (x:=rawInt i) rfl ?_);show wpAny _ _ (if i<0 then _ else _) _ _ s;rw[if_pos hi];refine wpAny_bind (wpAny_rule ?_);refine wpAny_bind ?_;show wpAny _ _ (setField (.ref it) 1 (rawInt (-1)) >>= λ_=>setField (.ref it) 0 .none) _ _ _;refine wpAny_bind (wpAny_setField ho hd (by simp) ?_);have X4:=Zbp (Obj.mapFields λx=>x.setIfInBounds 1 (rawInt (-1))) ho (Obj.isFreed_of_fields (Obj.data_mapFields hd _));have hd1:=Obj.data_mapFields hd (λx=>x.setIfInBounds 1 (rawInt (-1)));refine wpAny_setField X4 hd1 (by simp) ?_
 first
 |show wpAny _ _ (newExc (.type "StopIteration") [] >>= _) _ _ _
 |(refine wpAny_bind ?_;show wpAny _ _ (newExc (.type "StopIteration") [] >>= _) _ _ _)
 refine wpAny_bind ?_;simp only[newExc,newTuple];refine wpAny_bind (wpAny_newObj_type ?_ (by size_fits));refine wpAny_bind (m:=firstArgMember _ _) (wpAny_of_eq (a:=Value.none) (by first|rfl|(simp only[firstArgMember];rfl)) ?_);refine wpAny_newObj_type ?_ (by size_fits);simp only[raiseNew];refine wpAny_bind (wpAny_handled ?_)
 first|rw[show A.in1.handled=none from hh]|rw[hh]
 refine wpAny_bind (wpAny_pure (wpAny_throw ?_));refine wpAny_bind (wpAny_isInstance (T:="StopIteration") (b:=true) ⟨_,ZaA _ rfl,rfl⟩ isSubtype_stop ?_);refine wpAny_pure (hQ _ ?_);have x2:Heap.ExtBut it s.heap ((s.heap.update it (Obj.mapFields λx=>x.setIfInBounds 1 (rawInt (-1)))).update it (Obj.mapFields λx=>x.setIfInBounds 0 .none)):=λc o hc e=>(Zbv ..).extBut c o hc ((Zbv ..).extBut c o hc e);exact(x2.push _).push _
end
abbrev Rv(K:Zfr)(src:ZS)(n:Nat):It:=⟨λi H=>i<n/\∃v,src.has K H (n-1-i) v,λi H x H'=>H'=H/\∀v,src.has K H (n-1-i) v->v=x,λi _=>i=n⟩
def ZS.got{X:Cx}{pins:List (Addr×Obj)}{G:St}{H:Hp}{s:Shared}{src:ZS}{u:Value}{x:V}{i:Nat}{v:V}(I:Inv X pins G H s)(r:RelV x u)(hv:src.val X.K H x)(nl:∀a,src≠.lst a)(hs:∀z,src=.str z->z.length<=sizeLine)(h:src.has X.K H i v):
  ∃(T gid:String) (y:Value->Prop),s.TypeIs u T/\typeLookup (.type T) "__getitem__" = pure (some (.builtin gid))/\(∀z,y z->RelV v z) /\
   ∀(A':Around) (E':Value->Shared->Prop) (Q':Value->Shared->Prop) (tk:Tok) (n:Nat),(∀z k,y z->Q' z { s with toks:=k })->wpAny (model X.prog X.w) A' (getItem u (.int i tk)) Q' E' { s with toks:=n }:=by
 have hn:=nY;cases src with
 |lst a=>exact absurd rfl (nl a)
 |tup a =>
  obtain⟨rfl,xs,hq⟩:=hv;obtain⟨xs',hq',hx⟩:=h;rw[I.jJ hq' hq]at hx;cases r;obtain⟨its,rv,pl,hz⟩:=I.tuple hq;obtain⟨w,ew,rw'⟩:=rv.get hx;have hl:=rv.length;have hi:=(Zab.mp hx).1;refine⟨"tuple",_,λz=>z=w,pl.typeIs,slot_tuple_getitem.lookup,λz e=>e ▸ rw',λA' E' Q' tk n hq'=>?_⟩;exact getItem_tuple (s:={ s with toks:=n }) (j:=i) pl ⋯ ⋯ (by rw[Zas];exact seqIndex_of ⋯ ⋯) (by simpa using ew) (hq' w n rfl)
 |str z =>
  cases hv;obtain⟨c,hx,rfl⟩:=h;obtain⟨t,rfl⟩:=r;have hi:=(Array.getElem?_eq_some_iff.mp hx).1;have hl:z.length=z.cps.size:=rfl;have hzl:=hs z rfl;refine⟨"str",_,λy=>∃t,y=.str ⟨#[c]⟩ t,typeIs_str s z t,slot_str_getitem.lookup,λy hy=>hy,λA' E' Q' tk n hq'=>?_⟩
  refine getItem_str (s:={ s with toks:=n }) (c:=c) (by
   have e1:decide ((i:Int) < -(2 ^ 63:Int))=false:=decide_eq_false ⋯;have e2:decide ((i:Int) >= 2 ^ 63)=false:=decide_eq_false ⋯
   rw[e1,e2,Bool.or_false]) (by rw[seqIndex_of ⋯ ⋯];simpa using hx) (hq' _ _ ⟨_,rfl⟩)
def X5{P:Program}{w:World}{K:Zfr}{tg:Expr}(src:ZS)(u:Value)(n:Nat)(it:Addr)(nl:∀a,src≠.lst a)(hs:∀z,src=.str z->z.length<=sizeLine)(x:V)(rx:RelV x u)(hsv:∀(H:Hp) (v:V) (i:Nat),src.has K H i v->src.val K H x):
  Turn P w K tg (Rv K src n) [it] it (λi h=>n4 h it u ((n:Int)-1-(i:Nat))) where
 mem:=by simp
 obj:=λi h st b hb=>by
  have e:b=it:=by simpa using hb
  subst e;obtain⟨o,e,c,d⟩:=st;exact⟨o,e,λv z=>by rw[d]at z;cases z⟩
 keep:=λi h h' st k=>st.at λo e=>k it (by simp) o e
 item:=by
  intro X hP hw hK hc i pins s G H E I hf st hg;subst hP hw hK;obtain⟨hin,v,hv⟩:=hg;obtain⟨f0,f1,f2,f3,f4,f5⟩:=hf it (by simp);obtain⟨T,gid,y,hT,hl,hy,hget⟩:=ZS.got I rx (hsv H v _ hv) nl hs hv;have st':n4 s.heap it u ((n-1-i:Nat):Int):=by
   have e:((n-1-i:Nat):Int)=(n:Int)-1-(i:Nat):=by lk
   rw[e];exact st
  refine X2 st' hT hl hget λz h' tk hz hr sb=>?_;have I1:Inv X pins G H { s with heap:=h',toks:=tk }:=I.turned (λb o hb e=>(sb.2 b hb).trans e) f0 f1 f3 f4 f5;have hr':n4 h' it u ((n:Int)-1-((i+1:Nat):Int)):=by
   have e:(n:Int)-1-((i+1:Nat):Int)=((n-1-i:Nat):Int)-1:=by lk
   rw[e];exact hr
  obtain⟨o,e,c,d⟩:=id hr;exact⟨z,rfl,JS (s:={ s with heap:=h',toks:=tk }) e c d ∅ ⟨v,H,I1,hy z hz,⟨rfl,λv' hv'=>ZS.xu I hv hv'⟩,hr',λb hb=>(hf b hb).1⟩⟩
 done:=by
  intro X hP hw hK hc i pins s G H E I hf st hg;subst hP hw hK;have hg:i=n:=hg;subst hg;obtain⟨f0,f1,f2,f3,f4,f5⟩:=hf it (by simp);exact X3 (I.ok.hd hc) st ⋯ λh' eb=>⟨rfl,I.turned (t':=s.toks) (λb o hb e=>eb b o hb e) f0 f1 f3 f4 f5⟩
 self:=λ_ _ _ _ _ st h=>Rr st h
def X6:Slot "reversed" "__init__" "object.__init__" :=
 .of (owner:="object") (n:="__init__") (by rw[typeLookup_type,builtinLookup_eq_fast];kernel_rfl) (by decide +kernel) (by decide +kernel) (by decide +kernel)
  (by first|exact .inl (by decide +kernel)|exact .inr (by decide +kernel)) (by rw[isSubtype_type];kernel_rfl)
def Rw:TypeCalled "reversed" "reversed.__new__" "object.__init__" :=
 ⟨by decide +kernel,by decide +kernel,⟨_,_,F.mro_reversed⟩,F.made_reversed,by decide +kernel,by rw[isSubtype_type];kernel_rfl,X6⟩
def Rx{u:Value}{T gid:String}{n:Nat}(h0:typeLookup (.type T) "__reversed__" = pure none)(h1:typeLookup (.type T) "__getitem__" = pure (some (.builtin gid)))(hsub:isSubtype (.type T) (.type "dict")=pure false)
  (Nq:["tuple.__getitem__","str.__getitem__","bytes.__getitem__","bytearray.__getitem__","memoryview.__getitem__","numpy.ndarray.__getitem__","sqlite3.Row.__getitem__"].contains gid=true) :
  Meets (Builtin.«reversed.__new__» ⟨[.type "reversed",u],[]⟩) (λ_ R s=>s.TypeIs u T /\
   (∀(prog:Program) (w:World) (A':Around) (E':Value->Shared->Prop) (Q':Value->Shared->Prop),(∀t k,Q' (.int n t) { s with toks:=k })->wpAny (model prog w) A' (call (.builtin "len") [u]) Q' E' s) /\
   ∀k,R (.ok (.ret (.ref s.heap.objs.size))) { s with heap:=s.heap.push { cls:=.type "reversed",data:=.fields #[u,rawInt ((n:Int)-1)] },toks:=k }) :=
 .of_wp λprog w A R s h=>by
 obtain⟨hT,hlen,h⟩:=h;unfold Builtin.«reversed.__new__»;refine wpAny_bind (wpAny_of_eq (newClass_reversed _) ?_)
 try dsimp only
 refine wpAny_bind (wpAny_of_eq (a:=()) (by first|rfl|kernel_rfl) ?_);refine wpAny_bind (wpAny_of_eq (a:=()) (by first|rfl|kernel_rfl) ?_)
 try dsimp only
 refine wpAny_bind (wpAny_specialOf hT h0 ?_)
 try dsimp only
 refine wpAny_bind ?_;show wpAny _ _ (isInstance u (.type "dict") >>= _) _ _ _;refine wpAny_bind (wpAny_isInstance (b:=false) hT hsub ?_);rw[if_neg Zam];refine wpAny_bind (wpAny_specialOf hT h1 ?_);show wpAny _ _ (if["tuple.__getitem__","str.__getitem__","bytes.__getitem__","bytearray.__getitem__","memoryview.__getitem__","numpy.ndarray.__getitem__","sqlite3.Row.__getitem__"].contains gid=true then _ else _) _ _ _;rw[if_pos Nq];refine wpAny_pure ?_;rw[if_neg (by simp)];refine wpAny_bind (hlen _ _ _ _ _ λt k=>?_);refine wpAny_bind (wpAny_of_eq (a:=some (n:Int)) rfl ?_)
 try dsimp only
 refine wpAny_bind ?_;show wpAny _ _ (newObj (.type "reversed") (.fields #[u,rawInt ((n:Int)-1)])) _ _ _;refine wpAny_newObj_type ?_;exact wpAny_pure ⟨_,rfl,h k⟩
def X7:isSubtype (.type "tuple") (.type "dict")=pure false:=by rw[isSubtype_type];kernel_rfl
def X8:isSubtype (.type "str") (.type "dict")=pure false:=by rw[isSubtype_type];kernel_rfl
abbrev EZ(K:Zfr)(ta:TA):TI:=λG H R=>ta G H λvs H1=>∃(x:V) (src:ZS) (n:Nat),vs=[x]/\src.val K H1 x/\src.fin K H1 n/\(∀a,src≠.lst a)/\(∀z,src=.str z->z.length<=sizeLine)/\R (Rv K src n) H1
def Ry(hg:Gl X "reversed")(hm:X.mg "reversed" = none)(ha:PA X [l] ta)(hs:starEach [l] X.env=[(false,eval l X.env)]:=by rfl):
  PI X tg (.Call (.Name "reversed" p) [l] [] pos) (EZ X.K ta):=by
 intro pins s G H R I h;refine Call_ (zV I hg hm Xp (PyProof.Rows.callWith_type1 (cf (ha pos pins s G H _ I h) λus s1 ⟨vs,H1,I1,r1,q1⟩=>?_) hs rfl));obtain⟨x,src,n,e,hv,hn,nl,hz,q⟩:=q1;subst e;obtain⟨u,rfl,r⟩:=vals1 r1;have l63:=nY;have hsv:∀(H:Hp) (v:V) (i:Nat),src.has X.K H i v->src.val X.K H x:=λH v i hh=>by
  cases src with
  |tup a=>obtain⟨xs,h1,_⟩:=hh;exact⟨hv.1,xs,h1⟩
  |lst a=>exact absurd rfl (nl a)
  |str z=>exact hv
 have fin:∀k,wpAny (model X.prog X.w) X.A (pyIter (.ref s1.heap.objs.size)) (ME X pins G tg R) X.xe { s1 with heap:=s1.heap.push { cls:=.type "reversed",data:=.fields #[u,rawInt ((n:Int)-1)] },toks:=k }:=λk=>by
  have g:n4 (s1.heap.push { cls:=.type "reversed",data:=.fields #[u,rawInt ((n:Int)-1)] }) s1.heap.objs.size u ((n:Int)-1-(0:Nat)):=⟨_,ZaA _ rfl,rfl,by simp⟩;refine Rr g ?_;refine⟨s1.heap.objs.size,[s1.heap.objs.size],_,_,H1,rfl,I1.kept (t':=k) λb o e=>Zau _ e,X5 src u n _ nl hz x r hsv,g,λb hb=>?_,q⟩;have e:b=s1.heap.objs.size:=by simpa using hb
  subst e;exact I1.se (Zad _) (I1.hok.fresh (Zad _))
 cases src with
 |lst a=>exact absurd rfl (nl a)
 |tup a =>
  obtain⟨rfl,xs,hq⟩:=id hv;obtain⟨xs',hq',hx⟩:=hn;have hx:xs.length=n:=by rw[<- I1.jJ hq' hq];exact hx
  cases r;obtain⟨its,rv,pl,hz'⟩:=I1.tuple hq;have hl:=rv.length;refine callType_new Rw ∅ (F.typeCall_reversed_1 _) (F.newCall_reversed_1 _) (λobj=>F.args_object_init_2 obj _) F.entry_reversed_new (Rx (n:=n) X0 slot_tuple_getitem.lookup X7 ∅) ⟨pl.typeIs,λprog w A' E' Q' hq=>?_,λk=>⟨⟨_,ZaA _ rfl,rfl⟩,fin k⟩⟩;have e:its.toArray.size=n:=by rw[Zas];lk
  refine len_tuple pl (by rw[e];lk) ?_;rw[e];exact hq _ _
 |str z =>
  cases hv;have hn:z.length=n:=hn;have:=hz z rfl;obtain⟨t,rfl⟩:=r;refine callType_new Rw ∅ (F.typeCall_reversed_1 _) (F.newCall_reversed_1 _) (λobj=>F.args_object_init_2 obj _) F.entry_reversed_new (Rx (n:=n) X1 slot_str_getitem.lookup X8 ∅) ⟨typeIs_str _ z t,λprog w A' E' Q' hq=>?_,λk=>⟨⟨_,ZaA _ rfl,rfl⟩,fin k⟩⟩;refine len_str ⋯ ?_;rw[hn];exact hq _ _
end L2
namespace L2
open PySem PySem.Spec PyProof.Rows
open Builtin
end L2
namespace L2
open PySem PySem.Spec PyProof.Rows
set_option genInjectivity false in
inductive TV where
 |int (i:Int)|str (x:Str)
abbrev mP(D:List (Str×TV))(k:Str):Option TV:=match D with
 |[]=>none
 |(x,v) :: r=>if k=x then some v else mP r k
abbrev DU(a:Addr)(xs:List (List Int×Addr×Value)):HO:=.ext λh=>(a == sysModules)=false/\xs.length<=sizeLine/\∃o es ep,h.get? a=some o/\o.ExactDict/\o.data=.dict es ep /\
 (∃(P:Program) (w:World),es.toList=xs.map (entryOfKey (tupleKind (intKind P w))))/\(xs.map (·.1)).Nodup
end L2
namespace L2
open PySem PySem.Spec PyProof.Rows PySem.SeqAt PySem.MeetsSeq
abbrev qy(A:Around)(s:Shared)(y x:Value)(r:Bool):Prop:=∀(prog:Program) (w:World) (E Q:Value->Shared->Prop),Q (.bool r) s->wpAny (model prog w) A (richCompare .Lt y x) Q E s
abbrev c6(e lt:Nat->Bool)(fin:Bool):List Nat->Bool
 |[]=>fin
 |i :: r=>if e i then c6 e lt fin r else lt i
def X9(l m:Addr)(a b:Array Value)(n1 n2:Nat)(d1 d2:Option Addr)(s1 s2:Array (Option Value))(e lt:Nat->Bool):
  Meets (Builtin.«tuple.__lt__» ⟨[.ref l,.ref m],[]⟩) (λA R s=>s.heap.get? l=some { cls:=.type "tuple",dict:=d1,data:=.seq a n1,slots:=s1 }/\s.heap.get? m=some { cls:=.type "tuple",dict:=d2,data:=.seq b n2,slots:=s2 } /\
    (∀j (h1:j<a.size) (h2:j<b.size),EqAt A.in1 s a[j] b[j] (e j))/\(∀j (h1:j<a.size) (h2:j<b.size),e j=false->qy A.in1 s a[j] b[j] (lt j))/\R (.ok (.ret (.bool (c6 e lt (decide (a.size<b.size)) (List.range (min a.size b.size)))))) s) :=
 .of_wp λprog w A R s h=>by
  obtain⟨hp,g,d,tk,os⟩:=s;obtain⟨hl,hm,he,hlt,h⟩:=h;have f2:=AutoSeq1.sub_tuple_tuple;have hZ:(a.toList.zip b.toList).length=min a.size b.size:=by simp
  wp_walk using wpAny_loadPart' hl,wpAny_loadPart' hm,wpAny_forIn_list _ (λrest q s'=>q.1=none/\s'=⟨hp,g,d,tk,os⟩/\∃i,rest=(a.toList.zip b.toList).drop i/\R (.ok (.ret (.bool (c6 e lt (decide (a.size<b.size)) ((List.range (min a.size b.size)).drop i))))) ⟨hp,g,d,tk,os⟩) _
  case turn =>
   rintro⟨y,x⟩ rest q s' ⟨hq,rfl,i,hz,hR⟩;have hil:i<(a.toList.zip b.toList).length:=by
    rcases ZbP i (a.toList.zip b.toList).length with k|k
    ·exact k
    ·rw[Zcm k]at hz;cases hz
   have hmn:i<min a.size b.size:=hZ ▸ hil;have g1:i<a.size:=by lk
   have g2:i<b.size:=by lk
   rw[ZbH hil]at hz;injection hz with hyx hrest;have hy:y=a[i]:=by simpa using congrArg Prod.fst hyx
   have hx:x=b[i]:=by simpa using congrArg Prod.snd hyx
   subst hy hx;have hd:(List.range (min a.size b.size)).drop i=i :: (List.range (min a.size b.size)).drop (i+1):=by simp[ZbH,hmn]
   rw[hd,c6]at hR;refine wpAny_bind (he i g1 g2 prog w _ _ ?_);cases hei:e i with
   |true =>
    rw[hei]at hR
    wp_walk
    exact⟨rfl,rfl,i+1,hrest,hR⟩
   |false =>
    rw[hei]at hR;refine wpAny_bind (wpAny_rule (wpAny_bind (hlt i g1 g2 hei prog w _ _ ?_)))
    wp_walk
    exact⟨_,rfl,hR⟩
  case fin =>
   rintro⟨q1,q2⟩ s' ⟨hq,rfl,i,hz,hR⟩;simp only at hq;subst hq;have hge:min a.size b.size<=i:=by
    rcases ZbP i (a.toList.zip b.toList).length with k|k
    ·rw[ZbH k]at hz;cases hz
    ·exact hZ ▸ k
   rw[Zcm (by simpa using hge),c6]at hR
   wp_walk
   exact⟨_,rfl,by simpa[Builtin.Tuple.tupleCompareSizes]using hR⟩
  case h =>
   exact⟨rfl,rfl,0,rfl,by simpa using h⟩
def qy.tuples(hl:s.heap.IsTuple l a)(hm:s.heap.IsTuple m b)(hu:A.units<cLine)
  (he:∀j (h1:j<a.size) (h2:j<b.size),EqAt A.in1 s a[j] b[j] (e j)) (hlt:∀j (h1:j<a.size) (h2:j<b.size),e j=false->qy A.in1 s a[j] b[j] (lt j)) :
  qy A s (.ref l) (.ref m) (c6 e lt (decide (a.size<b.size)) (List.range (min a.size b.size))):=λprog w E Q h=>by
 obtain⟨⟨c1,d1,t1,s1⟩,o1,k1,n1,j1⟩:=hl;obtain⟨⟨c2,d2,t2,s2⟩,o2,k2,n2,j2⟩:=hm;simp only at k1 j1 k2 j2;subst k1 j1 k2 j2;exact richCompare_meets_room (op:=.Lt) ⟨_,o1,rfl⟩ ⟨_,o2,rfl⟩ F.slot_tuple_lt F.entry_tuple_lt (F.args_tuple_lt_2 _ _) (X9 l m a b n1 n2 d1 d2 s1 s2 e lt)
  ⟨o1,o2,he,hlt,show Value.bool (c6 e lt (decide (a.size<b.size)) (List.range (min a.size b.size)))≠Value.notImplemented/\Q (.bool (c6 e lt (decide (a.size<b.size)) (List.range (min a.size b.size)))) s from⟨(λx=>nomatch x),h⟩⟩ hu
mutual
noncomputable def C3:PyData->PyData->Bool
 |.int a,.int b=>decide (a<b)
 |.tuple xs,.tuple ys=>ph xs ys
 |_,_=>false
noncomputable def ph:List PyData->List PyData->Bool
 |[],[]=>false
 |[],_ :: _=>true
 |_ :: _,[]=>false
 |x :: xs,y :: ys=>if PyData.eqv x y then ph xs ys else C3 x y
end
mutual
noncomputable def vD:PyData->PyData->Bool
 |.int _,.int _=>true
 |.tuple xs,.tuple ys=>qz xs ys
 |_,_=>false
noncomputable def qz:List PyData->List PyData->Bool
 |[],_=>true
 |_ :: _,[]=>true
 |x :: xs,y :: ys=>vD x y && qz xs ys
end
def Rz(e lt:Nat->Bool)(fin:Bool)(f:Nat->Nat):∀l:List Nat,c6 e lt fin (l.map f)=c6 (λi=>e (f i)) (λi=>lt (f i)) fin l
 |[]=>rfl
 |i :: r=>by
  show(if e (f i)then c6 e lt fin (r.map f)else lt (f i))=if e (f i)then _ else lt (f i)
  rw[Rz e lt fin f r]
abbrev sA(xs ys:List PyData)(j:Nat):Bool:=C3 (xs.getD j .none) (ys.getD j .none)
def RA:∀xs ys:List PyData,c6 (pairEq xs ys) (sA xs ys) (decide (xs.length<ys.length)) (List.range (min xs.length ys.length))=ph xs ys
 |[],[]=>rfl
 |[],_ :: _=>by simp[c6,ph]
 |_ :: _,[]=>by simp[c6,ph]
 |x :: xs,y :: ys=>by
  have ih:=RA xs ys;have e1:min (x :: xs).length (y :: ys).length=min xs.length ys.length+1:=by simp only[ZaD];lk
  have e2:decide ((x :: xs).length<(y :: ys).length)=decide (xs.length<ys.length):=by simp
  rw[e1,e2,List.range_succ_eq_map,c6,Rz];show(if PyData.eqv x y then c6 (pairEq xs ys) (sA xs ys) (decide (xs.length<ys.length)) (List.range (min xs.length ys.length))else C3 x y)=_;rw[ih,ph]
mutual
theorem RB:∀(da db:PyData) (A:Around) (s:Shared) (a b:Value) (as bs:List Addr),Reads s.heap a da as->Reads s.heap b db bs->vD da db=true->da.canLay0=true->db.canLay0=true->A.units+min da.depth db.depth<cLine->qy A s a b (C3 da db)
 |.int x,.int y,A,s,_,_,_,_,ra,rb,_,_,_,_=>by
  cases ra with
  |int _ t =>
   cases rb with
   |int _ u=>exactλprog w E Q h=>richCompare_gives (op:=.Lt) (typeIs_int s _ t) (typeIs_int s _ u) F.slot_int_lt F.entry_int_lt (F.args_int_lt_2 _ _) (gives_int_lt _ _ t u) (λx=>nomatch x) h
 |.tuple xs,.tuple ys,A,s,_,_,_,_,ra,rb,ok,ha,hb,hu=>by
  cases ra with
  |@tuple l o vs n _ as1 h1 h2 h3 h4 =>
   cases rb with
   |@tuple l' o' vs' n' _ bs1 k1 k2 k3 k4 =>
    have t1:s.heap.IsTuple l vs:=⟨_,h1,h2,_,h3⟩;have t2:s.heap.IsTuple l' vs':=⟨_,k1,k2,_,k3⟩;have n1:vs.size=xs.length:=by simpa using ReadsAll.length _ _ _ h4
    have n2:vs'.size=ys.length:=by simpa using ReadsAll.length _ _ _ k4
    show qy A s (.ref l) (.ref l') (ph xs ys);rw[<- RA xs ys,<- n1,<- n2];refine qy.tuples t1 t2 (room_here hu) (λj j1 j2=>?_) (λj j1 j2 _=>?_);have z:=eqAt_readsAll xs ys A.in1 s vs.toList vs'.toList _ _ h4 k4 ha hb (room_in hu) j (by simpa using j1) (by simpa using j2);simpa using z;have z:=RC xs ys A.in1 s vs.toList vs'.toList _ _ h4 k4 ok ha hb (room_in hu) j (by simpa using j1) (by simpa using j2);simpa using z
 |.int _,.none,_,_,_,_,_,_,_,_,ok,_,_,_=>nomatch ok
 |.int _,.bool _,_,_,_,_,_,_,_,_,ok,_,_,_=>nomatch ok
 |.int _,.str _,_,_,_,_,_,_,_,_,ok,_,_,_=>nomatch ok
 |.int _,.list _,_,_,_,_,_,_,_,_,ok,_,_,_=>nomatch ok
 |.int _,.tuple _,_,_,_,_,_,_,_,_,ok,_,_,_=>nomatch ok
 |.int _,.dict _,_,_,_,_,_,_,_,_,ok,_,_,_=>nomatch ok
 |.tuple _,.none,_,_,_,_,_,_,_,_,ok,_,_,_=>nomatch ok
 |.tuple _,.bool _,_,_,_,_,_,_,_,_,ok,_,_,_=>nomatch ok
 |.tuple _,.int _,_,_,_,_,_,_,_,_,ok,_,_,_=>nomatch ok
 |.tuple _,.str _,_,_,_,_,_,_,_,_,ok,_,_,_=>nomatch ok
 |.tuple _,.list _,_,_,_,_,_,_,_,_,ok,_,_,_=>nomatch ok
 |.tuple _,.dict _,_,_,_,_,_,_,_,_,ok,_,_,_=>nomatch ok
 |.none,_,_,_,_,_,_,_,_,_,ok,_,_,_=>by simp[vD]at ok
 |.bool _,_,_,_,_,_,_,_,_,_,ok,_,_,_=>by simp[vD]at ok
 |.str _,_,_,_,_,_,_,_,_,_,ok,_,_,_=>by simp[vD]at ok
 |.list _,_,_,_,_,_,_,_,_,_,ok,_,_,_=>by simp[vD]at ok
 |.dict _,_,_,_,_,_,_,_,_,_,ok,_,_,_=>by simp[vD]at ok
theorem RC:∀(xs ys:List PyData) (A:Around) (s:Shared) (vs ws:List Value) (as bs:List Addr),ReadsAll s.heap vs xs as->ReadsAll s.heap ws ys bs->qz xs ys=true->PyData.canLayAll0 xs=true->PyData.canLayAll0 ys=true->A.units+min (PyData.depthAll xs) (PyData.depthAll ys)<cLine->∀j (h1:j<vs.length) (h2:j<ws.length),qy A s vs[j] ws[j] (sA xs ys j)
 |[],_,_,_,_,_,_,_,ra,_,_,_,_,_,j,h1,_=>by cases ra;exact absurd h1 (ZaV _)
 |_ :: _,[],_,_,_,_,_,_,_,rb,_,_,_,_,j,_,h2=>by cases rb;exact absurd h2 (ZaV _)
 |x :: xs,y :: ys,A,s,_,_,_,_,ra,rb,ok,ha,hb,hu,j,h1,h2=>by
  have a':x.canLay0=true/\PyData.canLayAll0 xs=true:=by simpa[PyData.canLayAll0]using ha
  have b':y.canLay0=true/\PyData.canLayAll0 ys=true:=by simpa[PyData.canLayAll0]using hb
  have o':vD x y=true/\qz xs ys=true:=by simpa[qz]using ok
  cases ra with
  |cons r rs =>
   cases rb with
   |cons r' rs' =>
    cases j with
    |zero=>exact RB x y A s _ _ _ _ r r' o'.1 a'.1 b'.1 (room_head hu)
    |succ j=>exact RC xs ys A s _ _ _ _ rs rs' o'.2 a'.2 b'.2 (room_tail hu) j (Nat.lt_of_succ_lt_succ h1) (Nat.lt_of_succ_lt_succ h2)
end
section
variable {prog:Program}{w:World}{A:Around}{R:Result->Shared->Prop}{I:Addr}{fp wr:List Addr}{n:Nat}{P:Nat->Value->Prop}{St:Nat->Heap->Prop}
abbrev lj(a b:Heap):Prop:=∀x o,a.get? x=some o->b.get? x=some o
abbrev AA(A:Around)(h0:Heap)(P:Nat->Value->Prop)(bt:Nat->Nat->Bool):Prop:=∀i j vi vj (s:Shared),lj h0 s.heap->P i vi->P j vj->qy A s vi vj (bt i j)
def J8:(toString "min" ++ toString ".loop" : String)="min.loop" := by decide
def Nr(W:Walks prog w A.in1 I fp wr n P St)(bt:Nat->Nat->Bool)(hcmp:AA A.in1 h0 P bt)(S:Addr)(hSf:S ∉ fp)(AB:h0.get? S=none)(hw0:∀b∈wr,h0.get? b=none):
  ∀(k j:Nat) (s:Shared) (vb:Value) (c:Nat),n-(j+1)=k->j+1<=n->St (j+1) s.heap->P (argBest bt j) vb->lj h0 s.heap->s.heap.get? S=some { cls:=.type "list",dict:=none,data:=.seq #[vb,vb] c,slots:=#[] } ->
  (∀v h' tk,P (argBest bt (n-1)) v->lj h0 h'->R (.ok (.ret v)) { s with heap:=h',toks:=tk })->codeAny (model prog w) A (.builtin "min.loop" ⟨[.ref I,.none,.ref S],[]⟩) R s
 |0,j,s,vb,c,hk,hj,hst,J9,hK,hS,hR=>by
  have E1:S ∉ wr:=λz=>hSf (W.sub S z);have hin:n=j+1:=by lk
  subst hin;refine codeAny_builtin F.entry_min_loop ?_;rw[Around.under_plainId F.plain_min_loop (A:=A) _];show wpAny (model prog w) A.in1 (seqItems? (.ref S) >>= _) _ _ _;refine wpAny_bind (wpAny_seqItems hS rfl ?_);show wpAny (model prog w) A.in1 (tryCatch (pyNext (.ref I)) _ >>= _) _ _ _;refine wpAny_bind (wpAny_tryCatch (W.done s _ _ hst λh' tk hk'=>?_));have hS':=hk' S _ E1 hS;show wpAny (model prog w) A.in1 (updateSeq S (λ_=>#[]) >>= _) _ _ _;refine wpAny_bind (wpAny_updateSeq hS' rfl (wpAny_bind (wpAny_letGo (wpAny_pure (hR vb _ tk J9 λb o e=>?_)))));have hb1:b ∉ wr:=λz=>by rw[hw0 b z]at e;cases e
  have hb2:S≠b:=λz=>by rw[<- z,AB]at e;cases e
  exact(Zbd _ _ hb2).trans (hk' b o hb1 (hK b o e))
 |k+1,j,s,vb,c,hk,hj,hst,J9,hK,hS,hR=>by
  have E1:S ∉ wr:=λz=>hSf (W.sub S z);have hlt:j+1<n:=by lk
  refine codeAny_builtin F.entry_min_loop ?_;rw[Around.under_plainId F.plain_min_loop (A:=A) _];show wpAny (model prog w) A.in1 (seqItems? (.ref S) >>= _) _ _ _;refine wpAny_bind (wpAny_seqItems hS rfl ?_);show wpAny (model prog w) A.in1 (tryCatch (pyNext (.ref I)) _ >>= _) _ _ _;refine wpAny_bind (wpAny_tryCatch (W.item (j+1) s _ _ hlt hst λv h' tk hP xw hk'=>?_));have hS':=hk' S _ E1 hS;have E2:lj h0 h':=λb o e=>hk' b o (λz=>by rw[hw0 b z]at e;cases e) (hK b o e);show wpAny (model prog w) A.in1 (tryCatch (holding [v,v] (richCompare .Lt v vb >>= _)) _ >>= _) _ _ _;refine wpAny_bind (wpAny_tryCatch (wpAny_holding (wpAny_bind (hcmp (j+1) (argBest bt j) v vb _ E2 hP J9 prog w _ _ ?_))));refine wpAny_bind (wpAny_holding (wpAny_truthy_bool (wpAny_bind (wpAny_letGo (wpAny_pure ?_)))));cases hb:bt (j+1) (argBest bt j)with
  |true =>
   simp only[if_true];refine wpAny_bind (wpAny_updateSeq hS' rfl (wpAny_bind (wpAny_letGo ?_)));rw[J8];have Nt:lj h0 (h'.update S (Obj.mapSeq λ_=>#[v,v])):=λb o e=>(Zbd _ _ (λz=>by rw[<- z,AB]at e;cases e)).trans (E2 b o e);refine wpAny_pure ⟨plainId_quiet F.plain_min_loop _,Nr W bt hcmp S hSf AB hw0 k (j+1) _ v _ ⋯ hlt (W.frame _ _ _ xw λb Nu o e=>?_) (by simp only[argBest,hb,if_true];exact hP) Nt (Zbp _ hS' rfl) λv' h'' vE E3 vF=>hR v' h'' vE E3 vF⟩;exact(Zbd _ _ (λz:S=b=>hSf (z ▸ Nu))).trans e
  |false =>
   simp only[Zba,if_false];refine wpAny_bind (wpAny_letGo ?_);rw[J8];exact wpAny_pure ⟨plainId_quiet F.plain_min_loop _,Nr W bt hcmp S hSf AB hw0 k (j+1) _ vb c ⋯ hlt xw (by simp only[argBest,hb,Zba,if_false];exact J9) E2 hS' λv' h'' vE E3 vF=>hR v' h'' vE E3 vF⟩
def Ya(W:Walks prog w A.in1 I fp wr n P St)(bt:Nat->Nat->Bool)(hcmp:AA A.in1 h0 P bt)(S:Addr)(hSf:S ∉ fp)(AB:h0.get? S=none)(hw0:∀b∈wr,h0.get? b=none)(hn:0<n)(hst:St 0 s.heap)(hK:lj h0 s.heap)
  (hS:s.heap.get? S=some { cls:=.type "list",dict:=none,data:=.seq #[] c,slots:=#[] }) (hR:∀v h' tk,P (argBest bt (n-1)) v->lj h0 h'->R (.ok (.ret v)) { s with heap:=h',toks:=tk }) :
  codeAny (model prog w) A (.builtin "min.loop" ⟨[.ref I,.none,.ref S],[]⟩) R s:=by
 have E1:S ∉ wr:=λz=>hSf (W.sub S z);refine codeAny_builtin F.entry_min_loop ?_;rw[Around.under_plainId F.plain_min_loop (A:=A) _];show wpAny (model prog w) A.in1 (seqItems? (.ref S) >>= _) _ _ _;refine wpAny_bind (wpAny_seqItems hS rfl ?_);show wpAny (model prog w) A.in1 (tryCatch (pyNext (.ref I)) _ >>= _) _ _ _;refine wpAny_bind (wpAny_tryCatch (W.item 0 s _ _ hn hst λv h' tk hP xw hk'=>?_));have hS':=hk' S _ E1 hS;have E2:lj h0 h':=λb o e=>hk' b o (λz=>by rw[hw0 b z]at e;cases e) (hK b o e);show wpAny (model prog w) A.in1 (updateSeq S (λ_=>#[v,v]) >>= _) _ _ _;refine wpAny_bind (wpAny_updateSeq hS' rfl ?_);rw[J8];have Nt:lj h0 (h'.update S (Obj.mapSeq λ_=>#[v,v])):=λb o e=>(Zbd _ _ (λz=>by rw[<- z,AB]at e;cases e)).trans (E2 b o e);refine wpAny_pure ⟨plainId_quiet F.plain_min_loop _,Nr W bt hcmp S hSf AB hw0 _ 0 _ v _ rfl hn (W.frame _ _ _ xw λb Nu o e=>?_) hP Nt (Zbp _ hS' rfl) λv' h'' vE E3 vF=>hR v' h'' vE E3 vF⟩;exact(Zbd _ _ (λz:S=b=>hSf (z ▸ Nu))).trans e
end
section
variable {prog:Program}{w:World}{A:Around}{E:Value->Shared->Prop}{s:Shared}
def Yb(hh:A.handled=none)(hl:s.heap.IsList p its)(hn:0<its.size)(hcmp:AA A.in1 s.heap (λi v=>its[i]?=some v) bt)
  (hQ:∀v h' tk,its[argBest bt (its.size-1)]?=some v->lj s.heap h'->Q v { s with heap:=h',toks:=tk }):wpAny (model prog w) A (call (.builtin "min") [.ref p]) Q E s:=by
 have hlt:p<s.heap.objs.size:=by obtain⟨_,e,_⟩:=hl;exact ZaB e
 have e0:s.heap.get? s.heap.objs.size=none:=by
  cases q:s.heap.get? s.heap.objs.size with
  |none=>rfl
  |some o=>exact absurd (ZaB q) (ZbD _)
 have e1:s.heap.get? (s.heap.objs.size+1)=none:=by
  cases q:s.heap.get? (s.heap.objs.size+1)with
  |none=>rfl
  |some o=>exact absurd (ZaB q) (Nat.not_lt_of_le (Zb1 _))
 refine call_function_tree F.kind_min F.plain_min F.entry_min (F.args_min1 _) ?_;show wpAny (model prog w) A.in1 (Builtin.Builtins.bindParams "min" ["key","default"] 0 ⟨[],[]⟩ >>= _) _ _ _;refine wpAny_bind (wpAny_of_eq (show Builtin.Builtins.bindParams "min" ["key","default"] 0 ⟨[],[]⟩=pure [none,none]from rfl) (wpAny_bind (wpAny_pure ?_)));refine wpAny_bind (wpAny_pyIter_list hl (wpAny_bind (wpAny_newObj_type ?_)));have hsz:(s.heap.push { cls:=.type "list_iterator",data:=.fields #[.ref p,.int 0 0] }).objs.size=s.heap.objs.size+1:=ZbM ..;have hne:p≠s.heap.objs.size:=ZaS hlt;rw[J8];have k1:lj s.heap ((s.heap.push { cls:=.type "list_iterator",data:=.fields #[.ref p,.int 0 0] }).push { cls:=.type "list",data:=.seq #[] }):=λb o e=>Zau _ (Zau _ e);refine wpAny_pure ⟨plainId_quiet F.plain_min_loop _,?_⟩;show codeAny (model prog w) A (.builtin "min.loop" ⟨[.ref s.heap.objs.size,.none,.ref (s.heap.push { cls:=.type "list_iterator",data:=.fields #[.ref p,.int 0 0] }).objs.size],[]⟩) _ _;rw[hsz];refine Ya (c:=0) (Walks.list (A:=A.in1) hh s.heap.objs.size p hne its) bt hcmp (s.heap.objs.size+1) (λz=>?_) e1 (λb hb=>?_) hn ?_ k1 ?_ λv h' tk hv hk=>hQ v h' tk hv hk;rcases ZaE.mp z with z|z
 exact absurd z (Nat.succ_ne_self _)
 have:s.heap.objs.size+1=p:=Zar.mp z
 exact absurd hlt (by rw[<- this];exact Nat.not_lt_of_le (Zb1 _));rw[Zar.mp hb];exact e0;exact⟨⟨_,Zau _ (ZaA _ rfl),rfl,rfl⟩,(hl.push _).push _⟩;rw[<- hsz];exact ZaA _ rfl
end
def Nv:∀{us:List Value} {ds:List PyData} {as:List Addr} {i:Nat} {v:Value},ReadsAll h us ds as->us[i]?=some v->∃as',Reads h v (ds.getD i .none) as'/\ds.getD i .none∈ds
 |_,_,_,_,_,.nil,e=>by simp at e
 |_,_,_,0,_,.cons r _,e=>by simp at e;subst e;exact⟨_,r,Zah⟩
 |_,_,_,i+1,v,.cons _ rs,e=>by
  obtain⟨as',r,m⟩:=Nv (i:=i) (v:=v) rs (by simpa using e);exact⟨as',r,Zak _ m⟩
section
variable {X:Cx}
abbrev xx(ds:List PyData)(i j:Nat):Bool:=C3 (ds.getD i .none) (ds.getD j .none)
abbrev qc(ds:List PyData):Nat:=argBest (xx ds) (ds.length-1)
abbrev yG(K:Zfr):List V->Hp->VK->Prop:=λxs H Q=>∃(p:Addr) (vs:List V) (ds:List PyData),xs=[.ref p]/\jX K H p vs/\g5 K H vs ds/\0<ds.length/\(∀a∈ds,∀b∈ds,vD a b=true)/\(∀a∈ds,a.canLay0=true/\a.depth<=50)/\∃v,vs[qc ds]?=some v/\Q v H
def RD(hc:X.calm=true)(hu:X.A.units+64<cLine):eJ X (.builtin "min") (yG X.K):=by
 intro pins s G H xs us Q I r h;obtain⟨p,vs,ds,rfl,hq,hr,hn,hok,hlay,v0,hv0,q⟩:=h;obtain⟨u,rfl,ru⟩:=vals1 r;cases ru;obtain⟨its,rv,pl,_⟩:=I.list hq;obtain⟨as,ra⟩:=g5.reads I hr rv;have hlen:its.length=ds.length:=ReadsAll.length _ _ _ ra;refine Yb (bt:=xx ds) (I.ok.hd hc) pl.isList (by rw[Zas];lk) (λi j vi vj s' hK hi hj=>?_) λv h' tk hv hk=>?_;have hi':its[i]?=some vi:=by simpa using hi
 have hj':its[j]?=some vj:=by simpa using hj
 obtain⟨a1,r1,m1⟩:=Nv ra hi';obtain⟨a2,r2,m2⟩:=Nv ra hj';have b1:=(hlay _ m1).2;have b2:=(hlay _ m2).2;exact RB _ _ _ s' _ _ _ _ (Reads.keeps hK r1) (Reads.keeps hK r2) (hok _ m1 _ m2) (hlay _ m1).1 (hlay _ m2).1 (by show X.A.units+1+_<cLine;lk);have hv':its[qc ds]?=some v:=by
  have e:its.toArray.size-1=ds.length-1:=by rw[Zas,hlen]
  rw[e]at hv;unfold qc;simpa using hv
 obtain⟨u,RE,ru⟩:=Vals.get rv hv0;rw[hv']at RE;cases RE;exact⟨v0,H,I.kept hk,ru,q⟩
end
end L2
namespace L2
open PySem PySem.Spec PyProof.Rows PySem.W
section
variable {lt:Nat->Nat->Bool}{n0:Nat}{cmp:Nat->Nat->(Bool->Shared->Prop)->Shared->Prop}{s:Shared}
structure Ord(lt:Nat->Nat->Bool):Prop where
 tr:∀a b c,lt b a=false->lt c b=false->lt c a=false
 as:∀a b,lt a b=true->lt b a=false
abbrev P(p:Array Nat)(i:Nat):Nat:=p.getD i 0
variable (o:Ord lt)(hn:0<n0)(hc:∀i j (C:Bool->Shared->Prop),i<n0->j<n0->C (lt i j) s->cmp i j C s)
include o hn hc
end
end L2
namespace L2
open PySem PySem.Spec PyProof.Rows
end L2
namespace L2
open PySem PySem.Spec PyProof.Rows PySem.W
end L2
namespace L2
open PySem PySem.Spec PyProof.Rows
section
variable {X:Cx}{K:Zfr}
def Yc(hc:X.calm=true):eJ X (.builtin "sum") (λxs H Q=>∃(p:Addr) (ns:List Int),xs=[.ref p]/\jX X.K H p (ns.map V.int)/\Q (.int ns.sum) H):=by
 intro pins s G H xs us Q I r h;obtain⟨p,ns,rfl,hq,q⟩:=h;obtain⟨u,rfl,ru⟩:=vals1 r;cases ru;obtain⟨its,rv,pl,_⟩:=I.list hq;have hi:IntsAre its ns:=ML rv;obtain⟨xs,hx⟩:=hi.allInts.items;have hl':s.heap.IsList p (intItems xs):=hx ▸ pl.isList;refine sum_intListG (I.ok.hd hc) hl' λh' tk t' hk=>?_;have e1:ns=xs.toList.map (·.1):=by
  rw[<- nums_intItems,<- hx];exact(show numsOf its.toArray.toList=ns from hi.numsOf).symm
 have e2:preSum (numAt xs) xs.size=ns.sum:=by
  rw[preSum_eq,List.take_of_length_le (by simp),e1]
 rw[e2];exact⟨.int _,H,I.kept hk,⟨_,rfl⟩,q⟩
end
open Builtin
end L2
namespace L2
open PySem PySem.Spec PyProof.Rows
section
variable {X:Cx}{K:Zfr}
def Nw:∀{ns:List Int} {us:List Value} {i:Nat} {v:Value},Vals (ns.map V.int) us->us[i]?=some v->∃n t,ns[i]?=some n/\v=.int n t
 |[],_,i,v,r,h=>by cases r;simp at h
 |b :: bs,_,0,v,r,h=>by
  cases r with
  |cons r1 r2 =>
   obtain⟨t,rfl⟩:=r1;simp at h;exact⟨b,t,rfl,h.symm⟩
 |b :: bs,_,i+1,v,r,h=>by
  cases r with
  |cons r1 r2 =>
   obtain⟨c,t,e1,e2⟩:=Nw (i:=i) r2 (by simpa using h);exact⟨c,t,by simpa using e1,e2⟩
abbrev pP(ns:List Int)(i j:Nat):Bool:=decide (ns.getD i 0 > ns.getD j 0)
def Yd(hc:X.calm=true):eJ X (.builtin "max") (λxs H Q=>∃(p:Addr) (ns:List Int),xs=[.ref p]/\jX X.K H p (ns.map V.int)/\0<ns.length/\∀m,ns[argBest (pP ns) (ns.length-1)]?=some m->Q (.int m) H):=by
 intro pins s G H xs us Q I r h;obtain⟨p,ns,rfl,hq,hn,q⟩:=h;obtain⟨u,rfl,ru⟩:=vals1 r;cases ru;obtain⟨its,rv,pl,_⟩:=I.list hq;have hl:=pl.isList;have hlt:p<s.heap.objs.size:=by obtain⟨_,e,_⟩:=hl;exact ZaB e
 have hlen:=rv.length;rw[Zaa]at hlen;have hh:X.A.in1.handled=none:=I.ok.hd hc;refine call_max_walk (wpAny_pyIter_list hl ?_);refine⟨s.heap.objs.size,[s.heap.objs.size,p],[s.heap.objs.size],its.toArray.size,_,_,pP ns,rfl,Walks.list (A:=X.A.in1) hh _ p (ZaS hlt) its.toArray,⟨⟨_,ZaA _ rfl,rfl,rfl⟩,hl.push _⟩,?_,by rw[Zas];lk,CmpOf.ints_gt (λi=>ns.getD i 0) ?_,λv h' tk hP hk=>?_⟩;intro b hb;have hz:(s.heap.push { cls:=.type "list_iterator",data:=.fields #[.ref p,.int 0 0] }).objs.size=s.heap.objs.size+1:=size_push' _ _;show b<(s.heap.push { cls:=.type "list_iterator",data:=.fields #[.ref p,.int 0 0] }).objs.size;rw[hz];rcases ZaE.mp hb with rfl|hb
 exact Zbb _;rw[Zar.mp hb];exact Nat.lt_succ_of_lt hlt;intro i v hP;obtain⟨n,t,e1,e2⟩:=Nw rv (by simpa using hP);exact⟨t,by rw[e2,Zaf,e1];rfl⟩;obtain⟨n,t,e1,e2⟩:=Nw rv (by simpa using hP);rw[e2];rw[<- hlen]at e1;exact⟨.int _,H,I.kept (PyProof.Rows.LSm.kept_iter hk),⟨_,rfl⟩,q n e1⟩
end
end L2
namespace L2
open PySem PySem.Spec PyProof.Rows PySem.W
end L2
namespace L2
open PySem PySem.Spec PyProof.Rows
abbrev Ye:Option Addr->Value
 |none=>.none
 |some T=>.ref T
abbrev XO(a C:Addr)(dx tr:Option Addr):HO:=.ext λh=>∃o vs,h.get? a=some o/\o.cls=.ref C/\o.dict=dx/\o.data=.fields vs/\vs[1]?=some (Ye tr)
end L2
namespace L2
open PySem PySem.Spec PyProof.Rows PySem.W
end L2
namespace L2
open PySem PySem.Spec PyProof.Rows
section
variable {X:Cx}{K:Zfr}
abbrev tF(K:Zfr):V->List V->Hp->VK->Prop:=λx vs H Q=>∃(a:Addr) (ys:List V) (ds:List PyData) (y:V) (dy:PyData) (j:Nat),x=.ref a/\vs=[y]/\jX K H a ys/\g5 K H ys ds/\Rep K H y dy/\(∀d∈ds,PyData.canLay0 d=true)/\PyData.canLay0 dy=true/\PyData.depth dy<=60 /\
 ds.length<=1000/\(∃d,ds[j]?=some d/\PyData.eqv d dy=true)/\(∀i d,i<j->ds[i]?=some d->PyData.eqv d dy=false)/\Q (.int (j:Int)) H
def RF(hu:X.A.units+64<cLine):yu X "list.index" (tF X.K):=by
 intro pins s G H x xs v us Q I rx rv h;obtain⟨a,ys,ds,y,dy,j,rfl,rfl,hq,hr,hy,c1,c2,c3,hl,hit,hno,q⟩:=h;cases rx;obtain⟨u,rfl,ru⟩:=vals1 rv;obtain⟨its,r,pl,hz⟩:=I.list hq;obtain⟨⟨c,dd,dt,sl⟩,e,hc,n,hdt⟩:=pl.isList;cases(show c=.type "list" from hc);cases(show dt=.seq its.toArray n from hdt);have hlen:its.length=ds.length:=by rw[<- r.length];exact hr.xv
 obtain⟨d0,hd0,Yf⟩:=hit;have hjl:j<ds.length:=(Zab.mp hd0).1;have rd:∀(i:Nat) (w:Value) (d:PyData),its[i]?=some w->ds[i]?=some d->∃as,Reads s.heap w d as:=λi w d h1 h2=>by
  obtain⟨z,hz',rz⟩:=r.EW h1;obtain⟨d',hd',rp⟩:=hr.get hz';rw[h2]at hd';cases hd';exact rp.reads I rz
 refine call_meets F.slot_list_index ⟨_,e,rfl⟩ F.entry_list_index (F.args_list_index_2 _ _) (PySem.SeqAt.list_indexAt a its.toArray n dd sl u (eD its ds dy) j (by simp;lk) ⋯ ?_ λm hm Yg=>?_) ⟨e,λz hz=>?_,⟨.int _,H,I.tok _,⟨_,rfl⟩,q⟩⟩;unfold eD;refine @decide_eq_true _ (Classical.propDecidable _) ⟨j,d0,?_,hd0,Yf⟩;simp[show j<its.length by lk];unfold eD;refine @decide_eq_false _ (Classical.propDecidable _) ?_;rintro⟨i,d,h1,h2,h3⟩;have hm2:m<its.length:=by simpa using hm
 have Yh:its[m]?=some (its.toArray[m]):=by simp[hm2]
 obtain⟨dm,RG⟩:∃dm,ds[m]?=some dm:=⟨ds[m]'⋯,Zac _⟩;obtain⟨as,ra⟩:=rd i _ d h1 h2;obtain⟨bs,rb⟩:=rd m _ dm Yh RG;have ed:d=dm:=(Reads.unique ra _ _ rb).1;rw[ed,hno m dm Yg RG]at h3;cases h3;exact Np hu I r hr ru hy c1 c2 (by first|exact c3|(intro d hd;lk)) z (by simpa using hz)
end
section
variable {X:Cx}
abbrev yH(i j:Int):Prop:=j≠0/\j.natAbs.log2<9000
def Yi:kY X (binaryOp .FloorDiv) (rI yH λi j=>.int (i.fdiv j)):=CT λ_ j _ _ _ _ _ hc q=>floordiv_int hc.1 q (.inl (PyProof.noPylong_of_log2 hc.2))
end
open Builtin
abbrev P2(k:Nat):Nat:=2 ^ k
def Ny(a b:Nat):P2 a*P2 b=P2 (a+b):=(Nat.pow_add 2 a b).symm
def wM(h:a<=b):P2 a<=P2 b:=Zcw ∅ h
def AE(a:Nat):0<P2 a:=Nat.two_pow_pos a
def AF(a n:Nat):P2 a ^ n=P2 (a*n):=(Nat.pow_mul 2 a n).symm
def vG(a:Nat):P2 (a+1)=2*P2 a:=by unfold P2;rw[Nat.pow_succ,Zci]
def RH(a:Nat):a<P2 a:=Nat.lt_two_pow_self
abbrev tG(i j:Int):Prop:=u3 i j\/(Builtin.Int.intBits i<=60000000/\Builtin.Int.intBits j<=60000000)
def yI(h:i.natAbs<P2 k)(hk:k<=60000000):Builtin.Int.intBits i<=60000000:=Zaq (PyProof.Rows.intBits_le h) hk
def tG.ok(h:tG i j):IntMulOk i j:=by
 rcases h with h|⟨h1,h2⟩
 exact h.ok;exact PyProof.Rows.mulOk_of_bits (m:=60000000) (n:=60000000) h1 h2 ∅
section
variable {X:Cx}
def pQ:kY X (binaryOp .Mult) (rI tG λi j=>.int (i*j)):=CT λ_ _ _ _ _ _ _ hc q=>mul_int q hc.ok
end
end L2
namespace L2
open PySem PySem.Spec PySem.W PyProof.Rows
structure AG(K:Zfr)(x qual:Str)(st:Stmt)(f:Addr)(fd:FuncData):Prop where
 ex:∃(oc:Value) (od:Option Addr) (dV kV doc pm:Value) (an:Option Addr) (cdv ct:Value) (osl:Array (Option Value)),
  fd=PySem.W.fnOf x qual (gh st) (dN st) (aj st) dV kV doc pm an cdv ct/\K.lookup f=some ⟨oc,od,.func fd,osl⟩/\PySem.W.codeIn K cdv qual=true
 kp:PySem.W.keepIn K (.ref f)=true
def AG.ok{P:Program}{w:World}{K:Zfr}{mg:Str->Option Value}{base:Heap}{x qual:Str}{st:Stmt}{f:Addr}{fd:FuncData}{N ps:List Str}{k:Nat}{sp:Sp}(F:AG K x qual st f fd)(S:ax N ps (aj st))(len:∀vs H Q E,sp vs H Q E->vs.length=ps.length)
  (hbody:∀(cdv:Value) (A:Around) (outer:List Env) (s:Shared) (H:Hp) (vs:List V) (Q:VK) (E:XK),iJ k (A.deeper (envOfC qual (aj st) s.heap.objs.size f cdv))->sp vs H Q E ->
   ∃t,sS (fI a9 P w K mg base N qual (aj st) f cdv A outer s H E).oI (dN st) t/\t { nx:=λ_ H'=>Q .non H',rt:=Q } (start N vs) H):aD P w K mg base a9 (k+1) f fd ps sp:=by
 obtain⟨oc,od,dV,kV,doc,pm,an,cdv,ct,osl,rfl,lk,hcd⟩:=F.ex;refine yr lk hcd S len λA outer s H vs Q E hr uJ=>?_;obtain⟨t,h,q⟩:=hbody cdv A outer s H vs Q E hr uJ;exact⟨t,h.oI,q⟩
structure vH(K:Zfr)(mg:Str->Option Value)(x:Str)(st:Stmt)(ps:List Str)(qb:List V)(f:Addr)(fd:FuncData):Prop where
 F:AG K x x st f fd
 b:Binds K fd ps []
 bd:∃ds,Vals qb ds/\Binds K fd ps ds
 m:mg x=some (.ref f)
abbrev vI(x:Str)(st:Stmt)(ps:List Str)(d m:Nat):Prop :=
 ∀(T:Addr) (kV doc pm:Value) (an:Option Addr) (cdv ct:Value) (us ds:List Value),us.length=m->ds.length=d ->
  ∃k:Option (Array Value)->Sem (List (Str×Value)),bindArgs (PySem.W.fnOf x x (gh st) (dN st) (aj st) (.ref T) kV doc pm an cdv ct) ⟨us,[]⟩=seqItems? (.ref T) >>= k/\k (some ds.toArray)=pure (ps.zip (us ++ ds.drop (m+d-ps.length)))
def Yj{K:Zfr}{h:Heap}{mg:Str->Option Value}(X:K.In h)(G:h.Ns mainGlobals mg){x:Str}{st:Stmt}{ps:List Str}{qb:List V}{f T:Addr}{oc Yk:Value}{od an od':Option Addr}{osl Nz:Array (Option Value)}{kV doc pm cdv ct:Value}{its:Array Value}{n d:Nat}
  (hl:d<=ps.length) (hb:vI x st ps d (ps.length-d)) (hb2:vI x st ps d ps.length)
  (a:PySem.W.nsIn K mainGlobals x=some (some (.ref f))) (l:K.lookup f=some ⟨oc,od,.func (PySem.W.fnOf x x (gh st) (dN st) (aj st) (.ref T) kV doc pm an cdv ct),osl⟩)
  (lT:K.lookup T=some ⟨Yk,od',.seq its n,Nz⟩) (ei:its.toList.length=d) (hv:Vals qb its.toList)
  (c:PySem.W.codeIn K cdv x=true) (k:PySem.W.keepIn K (.ref f)=true):∃f fd,vH K mg x st ps qb f fd:=by
 have key:∀m (s:Shared) (us:List Value),vI x st ps d m->K.In s.heap->us.length=m->BindsTo s (PySem.W.fnOf x x (gh st) (dN st) (aj st) (.ref T) kV doc pm an cdv ct) ⟨us,[]⟩ (ps.zip (us ++ its.toList.drop (m+d-ps.length))):=λm s us h KX hu=>by
  obtain⟨kk,h1,h2⟩:=h T kV doc pm an cdv ct us its.toList hu ei;exact BindsTo.of_defaults rfl (KX _ _ lT) rfl h1 (by rw[Array.toArray_toList]at h2;exact h2)
 refine⟨f,_,⟨⟨oc,od,.ref T,kV,doc,pm,an,cdv,ct,osl,rfl,l,c⟩,k⟩,λs us KX hu=>?_,⟨its.toList,hv,λs us KX hu=>?_⟩,PySem.W.mg_of X G a⟩;rw[Zbs]at hu ⊢
 have:=key ps.length s us hb2 KX hu;rw[show ps.length+d-ps.length=its.toList.length by lk,List.drop_length,Zbs]at this;exact this
 rw[Zae]at hu
 have:=key (ps.length-d) s us hb KX ⋯;rw[show ps.length-d+d-ps.length=0 by lk,ZcA]at this;exact this
section
variable {X:Cx}{CX:sX}{k:Nat}{f:Addr}{fd:FuncData}{ps:List Str}{sp:Sp}{x:Str}{qb:List V}{E:XK}{e:Expr}{es:List Expr}{t:TA}{p pos:Pos}
def Yl(F:aD X.prog X.w X.K X.mg X.base CX k f fd ps sp)(hr:iJ k X.A)(hg:Gl X x)(hm:X.mg x=some (.ref f))(hk:PySem.W.keepIn X.K (.ref f)=true)(hb:∃ds,Vals qb ds/\Binds X.K fd ps ds)(hx:Passes CX X E)
  (ha:PA X (e :: es) t) (hdb:(x == ("__debug__" : Str))=false:=by decide) (he:starEach (e :: es) X.env=(false,eval e X.env) :: starEach es X.env:=by rfl) (hpl:(backTo pos (starEach es X.env)).any (·.1)=false:=by rfl) :
  PE X (.Call (.Name x p) (e :: es) [] pos) (rm sp qb E t):=by
 obtain⟨ds,hd,hb⟩:=hb;exact Qu F hr hg hm hk hb hd hx ha hdb he hpl
end
end L2
namespace L2
open PySem PySem.Spec PyProof.Rows
def AH(p:Addr)(a b i:Int)(t u v z:Tok):Meets (Builtin.«range.__contains__» ⟨[.ref p,.int i z],[]⟩)
  (λA R s=>IsRange s.heap p a b 1 t u v/\R (.ok (.ret (.bool (decide (a<=i/\i<b))))) s):=by
 intro prog w A R s h;obtain⟨hp,g,d,tk,os⟩:=s;obtain⟨hl,h⟩:=h;have e:(Builtin.Range.rangePlace? a b 1 i).isSome=decide (a<=i/\i<b):=by
  unfold Builtin.Range.rangePlace?;by_cases c:a<=i/\i<b;simp[c.1,c.2];rw[decide_eq_false c];by_cases c1:a<=i
  have:¬i<b:=λz=>c ⟨c1,z⟩
  simp[this];simp[c1]
 rw[<- e]at h
 wp_walk using wpAny_loadPart' hl
 exact h
section
variable {X:Cx}{K:Zfr}
abbrev E4(neg:Bool):R2:=λx y H Q=>∃(i:Int) (p:Addr) (lo hi:Int),x=.int i/\y=.ref p/\H p=some (.j5 lo hi)/\Q (.bl (if neg then !decide (lo<=i/\i<hi)else decide (lo<=i/\i<hi))) H
def Ym:kY X (compareOp .NotIn) (E4 true):=by intro pins s G H x y v u Q I rx ry h;obtain⟨i,p,lo,hi,rfl,rfl,hp,q⟩:=h;obtain⟨t0,rfl⟩:=rx;cases ry;obtain⟨t,t',t'',e⟩:=(show bP X.prog X.w H s.heap p (.j5 lo hi)from I.hok p _ hp);exact PySem.SeqRoads2.notIn_meets ⟨_,e,rfl⟩ F.slot_range_contains F.entry_range_contains (F.args_range_contains_2 _ _) (AH p lo hi i t t' t'' t0) ⟨e,_,rfl,.bl _,H,I,rfl,q⟩
end
end L2
namespace af
abbrev upto(n:Nat):List Int:=(List.range n).map λ(k:Nat)=>(k:Int)
def rD(n:Nat):(upto n).length=n:=by simp[upto]
def oS:x∈upto n↔0<=x/\x<(n:Int):=by simp only[upto,Zaw,Zb4];constructor;rintro⟨k,hk,rfl⟩;lk;rintro⟨h1,h2⟩;exact⟨x.toNat,by lk,by lk⟩
def Yn(n:Nat):(upto n).Pairwise (· < ·):=by unfold upto;rw[List.pairwise_map];exact(List.pairwise_lt_range).imp λh=>by lk
def RI(n:Nat):(upto n).Nodup:=(Yn n).imp λh=>by lk
def Ka:∀{xs ys:List Int},xs.Nodup->(∀x∈xs,x∈ys)->ys.length<=xs.length->xs.Perm ys
 |[],ys,_,_,h=>by
  have:ys=[]:=Za4 (by simpa using h);subst this;exact Zca _
 |x :: xs,ys,hn,hs,hl=>by
  obtain⟨h1,h2⟩:=Za7.mp hn;have hx:x∈ys:=hs x Zah;have hp:=Zcx hx;have hlen:(ys.erase x).length+1=ys.length:=by have:=hp.length_eq;simpa using this.symm
  refine List.Perm.trans (List.Perm.cons x (Ka (ys:=ys.erase x) h2 (λy hy=>?_) ?_)) hp.symm;have hne:y≠x:=λe=>h1 (e ▸ hy);exact(Zbu hne).mpr (hs y (Zak _ hy));simp at hl;lk
def Kb{xs:List Int}(hn:xs.Nodup)(hb:∀x∈xs,0<=x/\x<(xs.length:Int)):xs.Perm (upto xs.length):=Ka hn (λx hx=>oS.mpr (hb x hx)) (by rw[rD];exact Zad _)
end af
namespace af
abbrev app(xs:List Int)(i:Int):Int:=xs.getD i.toNat 0
abbrev bC(xs:List Int)(i:Int):Nat->Int
 |0=>i
 |j+1=>app xs (bC xs i j)
abbrev Tn(n:Nat)(xs:List Int):Prop:=xs.Perm (upto n)
def Tn.length{n:Nat}{xs:List Int}(h:Tn n xs):xs.length=n:=by rw[h.length_eq,rD]
def Tn.nodup(h:Tn n xs):xs.Nodup:=h.nodup_iff.mpr (RI n)
def Tn.bound(h:Tn n xs)(hx:x∈xs):0<=x/\x<(n:Int):=oS.mp (h.subset hx)
def rE(h0:0<=i)(h1:i<(xs.length:Int)):xs[i.toNat]?=some (app xs i):=by
 have:i.toNat<xs.length:=by lk
 unfold app;rw[Zaf,Zac this];rfl
def Yo(h0:0<=i)(h1:i<(xs.length:Int)):app xs i∈xs:=Zai (rE h0 h1)
def Tn.app(h:Tn n xs)(h0:0<=i)(h1:i<(n:Int)):0<=app xs i/\app xs i<(n:Int):=h.bound (Yo h0 (by rw[h.length];exact h1))
def Tn.inj{n:Nat}{xs:List Int}(h:Tn n xs){i j:Int}(i0:0<=i)(i1:i<(n:Int))(j0:0<=j)(j1:j<(n:Int))(e:af.app xs i=af.app xs j):i=j:=by have hl:=h.length;have a:=rE i0 (by rw[hl];exact i1);have b:=rE j0 (by rw[hl];exact j1);rw[e]at a;obtain⟨ha,ea⟩:=Zab.mp a;obtain⟨hb,eb⟩:=Zab.mp b;have:=(List.getElem_inj h.nodup).mp (ea.trans eb.symm);lk
def Tn.bC(h:Tn n xs)(h0:0<=i)(h1:i<(n:Int)):∀j,0<=bC xs i j/\bC xs i j<(n:Int)
 |0=>⟨h0,h1⟩
 |j+1=>h.app (h.bC h0 h1 j).1 (h.bC h0 h1 j).2
def Tn.back(h:Tn n xs)(h0:0<=i)(h1:i<(n:Int)):∀(a d:Nat),af.bC xs i a=af.bC xs i (a+d)->af.bC xs i d=i
 |0,d,e=>by rw[ZbA]at e;exact e.symm
 |a+1,d,e=>by
  have e':af.app xs (af.bC xs i a)=af.app xs (af.bC xs i (a+d)):=by
   have:a+1+d=(a+d)+1:=by lk
   rw[this]at e;exact e
  exact h.back h0 h1 a d (h.inj (h.bC h0 h1 a).1 (h.bC h0 h1 a).2 (h.bC h0 h1 _).1 (h.bC h0 h1 _).2 e')
def C4:∀{xs ys:List Int},xs.Nodup->(∀x∈xs,x∈ys)->xs.length<=ys.length
 |[],_,_,_=>ZaK _
 |x :: xs,ys,hn,hs=>by
  obtain⟨h1,h2⟩:=Za7.mp hn;have hx:x∈ys:=hs x Zah;have hp:=Zcx hx;have hlen:(ys.erase x).length+1=ys.length:=by have:=hp.length_eq;simpa using this.symm
  have:=C4 (ys:=ys.erase x) h2 λy hy=>(Zbu (a:=y) (b:=x) (λe=>h1 (by rw[<- e];exact hy))).mpr (hs y (Zak _ hy));simp only[ZaD];lk
abbrev row(xs:List Int)(i:Int)(m:Nat):List Int:=(List.range (m+1)).map (bC xs i)
def RJ(xs:List Int)(i:Int)(m:Nat):row xs i (m+1)=row xs i m ++ [bC xs i (m+1)]:=by unfold row;rw[List.range_succ,Zap];rfl
def wN(xs:List Int)(i:Int)(m:Nat):(row xs i m).length=m+1:=by simp[row]
def Kc:x∈row xs i m↔∃j,j<=m/\bC xs i j=x:=by unfold row;rw[Zaw];constructor;rintro⟨j,hj,e⟩;exact⟨j,by have:=Zb4.mp hj;lk,e⟩;rintro⟨j,hj,e⟩;exact⟨j,Zb4.mpr ⋯,e⟩
abbrev NB(xs:List Int)(i:Int)(m:Nat):Prop:=∀j,1<=j->j<=m->bC xs i j≠i
def Tn.mQ(h:Tn n xs)(h0:0<=i)(h1:i<(n:Int))(nb:NB xs i m):m+1<=n:=by
 have hn:(row xs i m).Nodup:=by
  unfold row List.Nodup;rw[List.pairwise_map];refine List.Pairwise.imp_of_mem (R:=λa b=>a<b) ?_ List.pairwise_lt_range;intro a b ha hb hab e;have ha':=Zb4.mp ha;have hb':=Zb4.mp hb;obtain⟨d,rfl⟩:∃d,b=a+d:=⟨b-a,by lk⟩;exact nb d ⋯ ⋯ (h.back h0 h1 a d e)
 have:=C4 hn (ys:=upto n) λx hx=>by
  obtain⟨j,_,rfl⟩:=Kc.mp hx;exact oS.mpr (h.bC h0 h1 j)
 rw[wN,rD]at this;exact this
structure j6(xs:List Int)(i:Int)(r:List Int):Prop where
 ex:∃m,r=row xs i m/\NB xs i m/\bC xs i (m+1)=i
def j6.mem(a:j6 xs i r):i∈r:=by obtain⟨m,e1,_,_⟩:=a.ex;rw[e1];exact Kc.mpr ⟨0,ZaK _,rfl⟩
def j6.len(h:Tn n xs)(h0:0<=i)(h1:i<(n:Int))(a:j6 xs i r):r.length<=n:=by obtain⟨m,e1,nb,_⟩:=a.ex;rw[e1,wN];exact h.mQ h0 h1 nb
def j6.bound(h:Tn n xs)(h0:0<=i)(h1:i<(n:Int))(a:j6 xs i r):∀x∈r,0<=x/\x<(n:Int):=by obtain⟨m,e1,nb,_⟩:=a.ex;subst e1;intro x hx;obtain⟨j,_,rfl⟩:=Kc.mp hx;exact h.bC h0 h1 j
abbrev out(left r:List Int):List Int:=left.filter λk=>!r.contains k
inductive yJ(xs:List Int):List Int->List (List Int)->Prop
 |nil:yJ xs [] []
 |cons {i:Int} {left r:List Int} {rs:List (List Int)}:j6 xs i r->yJ xs (out (i :: left) r) rs->yJ xs (i :: left) (r :: rs)
abbrev from'(n k:Nat)(seen:Int->Bool):List Int:=(((List.range n).drop k).map λ(j:Nat)=>(j:Int)).filter λx=>!seen x
def Yp(n:Nat)(seen:Int->Bool):from' n n seen=[]:=by unfold from';rw[Zcm (by simp)];rfl
def Yq(h:k<n)(seen:Int->Bool):from' n k seen=if seen (k:Int)then from' n (k+1) seen else(k:Int) :: from' n (k+1) seen:=by unfold from';rw[ZbH (by simpa using h),Zaz,List.filter_cons];simp only[ZcB];cases hs:seen (k:Int)<;>simp
def Yr:out (from' n k seen) r=from' n k (λx=>seen x || r.contains x):=by
 unfold out from';rw[List.filter_filter]
 congr 1
 funext x
 show(!r.contains x && !seen x)=!(seen x || r.contains x);cases seen x<;>cases r.contains x<;>rfl
def Ys(n:Nat):from' n 0 (λ_=>false)=upto n:=by unfold from' upto;rw[ZcA];simp
abbrev tH(n:Nat):List Int:=((List.range (n-1)).map λ(k:Nat)=>(1:Int)+k) ++ [0]
def Yt:∀n,n<21->0<n->(tH n).isPerm (upto n)=true:=by decide
def RK(h:n<21)(h0:0<n):Tn n (tH n):=List.isPerm_iff.mp (Yt n h h0)
end af
namespace af
def E5(h:xs.length=n):(upto n).map (app xs)=xs:=by apply List.ext_getElem;rw[Zaa,rD,h];intro i h1 h2;have e:=rE (xs:=xs) (i:=(i:Int)) ⋯ ⋯;simp only[Zat]at e;rw[Zac h2]at e;rw[Zcr];unfold upto;simp only[Zcr,ZcB];exact(Zao e).symm
abbrev inv(xs:List Int):List Int:=(upto xs.length).map λi=>(xs.idxOf i:Int)
def E6(xs:List Int):(inv xs).length=xs.length:=by unfold inv;rw[Zaa,rD]
def E7(h:i<n):(upto n)[i]?=some (i:Int):=by unfold upto;rw[Zag,ZaR h];rfl
def Kd(h0:0<=i)(h1:i<(xs.length:Int)):app (inv xs) i=(xs.idxOf i:Int):=by have e:=rE (xs:=inv xs) h0 (by rw[E6];exact h1);unfold inv at e;rw[Zag,E7 ⋯]at e;have:=Zao e;rw[<- inv]at this;rw[<- this,ZaG h0]
def Tn.mem(h:Tn n xs)(h0:0<=i)(h1:i<(n:Int)):i∈xs:=h.symm.subset (oS.mpr ⟨h0,h1⟩)
def Tn.idx(h:Tn n xs)(h0:0<=i)(h1:i<(n:Int)):xs.idxOf i<n:=by rw[<- h.length];exact ZbB (h.mem h0 h1)
def Tn.cG(h:Tn n xs)(h0:0<=i)(h1:i<(n:Int)):af.app xs (af.app (inv xs) i)=i:=by rw[Kd h0 (by rw[h.length];exact h1)];have hl:=h.idx h0 h1;have e:=rE (xs:=xs) (i:=(xs.idxOf i:Int)) ⋯ (by rw[h.length];lk);rw[Zat,Zac (by rw[h.length];exact hl)]at e;rw[<- Zao e];exact ZcC _
def Tn.oM(h:Tn n xs)(h0:0<=i)(h1:i<(n:Int)):0<=af.app (inv xs) i/\af.app (inv xs) i<(n:Int):=by rw[Kd h0 (by rw[h.length];exact h1)];have:=h.idx h0 h1;lk
def Tn.g8(h:Tn n xs)(h0:0<=i)(h1:i<(n:Int)):af.app (inv xs) (af.app xs i)=i:=by obtain⟨a0,a1⟩:=h.app h0 h1;obtain⟨b0,b1⟩:=h.oM a0 a1;exact h.inj b0 b1 h0 h1 (h.cG a0 a1)
def Tn.aB(h:Tn n xs):Tn n (inv xs):=by
 have hl:=h.length;unfold Tn;have e:(inv xs).length=n:=by rw[E6,hl]
 have:=Kb (xs:=inv xs) ?_ ?_
 rw[e]at this;exact this;unfold List.Nodup;rw[Za3];intro i j hi hj hij z;have a:=rE (xs:=inv xs) (i:=(i:Int)) ⋯ ⋯;have b:=rE (xs:=inv xs) (i:=(j:Int)) ⋯ ⋯;rw[Zat,Zac hi]at a;rw[Zat,Zac hj]at b;have a:=Zao a;have b:=Zao b;have c:=h.cG (i:=(i:Int)) ⋯ ⋯;have d:=h.cG (i:=(j:Int)) ⋯ ⋯;rw[<- a]at c;rw[<- b,<- z]at d;have:=c.symm.trans d;lk;intro x hx;unfold inv at hx;obtain⟨i,hi,rfl⟩:=Zaw.mp hx;have:=oS.mp hi;rw[hl]at this;have:=h.idx this.1 this.2;rw[e];lk
def wO(xs:List Int)(i:Int)(j:Nat):∀d,bC xs (bC xs i j) d=bC xs i (j+d)
 |0=>rfl
 |d+1=>by show app xs (bC xs (bC xs i j) d)=app xs (bC xs i (j+d));rw[wO xs i j d]
def RL(h:bC xs i L=i)(a:Nat):bC xs i (a+L)=bC xs i a:=by rw[Nat.add_comm,<- wO xs i L a,h]
def E8(h:bC xs i L=i):∀(q r:Nat),bC xs i (r+L*q)=bC xs i r
 |0,r=>rfl
 |q+1,r=>by rw[Nat.mul_succ,<- Nat.add_assoc,RL h];exact E8 h q r
def RM(h:bC xs i L=i)(a:Nat):bC xs i (a % L)=bC xs i a:=by have:=E8 h (a / L) (a % L);rw[Nat.mod_add_div]at this;exact this.symm
abbrev RN(xs:List Int)(k i v:Int):Prop:=∃m,NB xs i m/\bC xs i (m+1)=i/\v=bC xs i (k % ((m+1:Nat):Int)).toNat
def Tn.AI(h:Tn n xs)(h0:0<=i)(h1:i<(n:Int))(nb:NB xs i m)(bk:af.bC xs i (m+1)=i)(j:Nat)(k:Int):
  RN xs k (af.bC xs i j) (af.bC xs i (((j:Int)+k) % ((m+1:Nat):Int)).toNat):=by
 refine⟨m,λd d1 d2 e=>?_,?_,?_⟩;rw[wO]at e;exact nb d d1 d2 (h.back h0 h1 j d e.symm);rw[wO,RL bk];rw[wO];rw[<- RM bk (j+(k % ((m+1:Nat):Int)).toNat)]
 congr 1
 have hL:(0:Int)<((m+1:Nat):Int):=by lk
 have k0:=Zbf k (Int.ne_of_gt hL);have e:(((j+(k % ((m+1:Nat):Int)).toNat) % (m+1):Nat):Int)=((j:Int)+k) % ((m+1:Nat):Int):=by
  rw[Int.natCast_emod,Int.natCast_add,ZaG k0,Int.add_emod_emod]
 rw[<- e,Zat]
def yJ.all:∀{left:List Int} {rs:List (List Int)},yJ xs left rs->(∀r∈rs,∃i∈left,j6 xs i r)/\∀x∈left,∃r∈rs,x∈r:=by
 intro left rs a
 induction a with
 |nil=>exact⟨λr hr=>(nomatch hr),λx hx=>(nomatch hx)⟩
 |cons h1 _ ih =>
  refine⟨λr hr=>?_,λx hx=>?_⟩
  ·rcases ZaE.mp hr with rfl|hr
   ·exact⟨_,Zah,h1⟩
   ·obtain⟨i,hi,r'⟩:=ih.1 r hr
    exact⟨i,(Zcg.mp hi).1,r'⟩
  ·rename_i i left r rs _
   by_cases hc:x∈r
   ·exact⟨r,Zah,hc⟩
   ·obtain⟨r',hr',hx'⟩:=ih.2 x (Zcg.mpr ⟨hx,by simp[hc]⟩)
    exact⟨r',Zak _ hr',hx'⟩
def Yu(h:Tn n xs):xs.map (app (inv xs))=upto n:=by
 have e:((upto n).map (app xs)).map (app (inv xs))=upto n:=by
  rw[ZaF]
  conv=>rhs;rw[<- Zb2 (upto n)]
  apply ZaQ;intro x hx;obtain⟨a,b⟩:=oS.mp hx;exact h.g8 a b
 rw[E5 h.length]at e;exact e
def Yv(h:Tn n xs):(inv xs).map (app xs)=upto n:=by
 have e:((upto n).map (app (inv xs))).map (app xs)=upto n:=by
  rw[ZaF]
  conv=>rhs;rw[<- Zb2 (upto n)]
  apply ZaQ;intro x hx;obtain⟨a,b⟩:=oS.mp hx;exact h.cG a b
 rw[E5 (h.aB).length]at e;exact e
end af
namespace af
inductive kZ(xs ys:List Int):Int->Prop
 |zero:kZ xs ys 0
 |r {x:Int}:kZ xs ys x->kZ xs ys (app xs x)
 |u {x:Int}:kZ xs ys x->kZ xs ys (app ys x)
def kZ.bound(hx:Tn n xs)(hy:Tn n ys)(h0:0<n)(h:kZ xs ys x):0<=x/\x<(n:Int):=by
 induction h with
 |zero=>lk
 |r _ ih=>exact hx.app ih.1 ih.2
 |u _ ih=>exact hy.app ih.1 ih.2
def kZ.bC(h:kZ xs ys x):∀k,kZ xs ys (af.bC xs x k)
 |0=>h
 |k+1=>.r (h.bC k)
abbrev pX(xs:List Int)(m:Nat):List Int:=(xs.set 0 (app xs m)).set m (app xs 0)
def Yw(xs:List Int)(m:Nat):(pX xs m).length=xs.length:=by simp[pX]
def NA{xs:List Int}{m:Nat}{v x:Int}(hm:m<xs.length)(h0:0<=x):app (xs.set m v) x=if x=(m:Int)then v else app xs x:=by unfold app;rw[Zaf,Zaf];by_cases hx:x=(m:Int);rw[if_pos hx,hx,Zat,Zaj hm];rfl;rw[if_neg hx,Zal ⋯]
def C5(hm:m<xs.length)(h0:0<=x):app (pX xs m) x=if x=(m:Int)then app xs 0 else if x=0 then app xs m else app xs x:=by unfold pX;rw[NA (by simpa using hm) h0,NA ⋯ h0];rfl
def AJ(h:Tn n xs)(hm:m<n):Tn n (pX xs m):=by
 have hl:=h.length;have e:(pX xs m).length=n:=by rw[Yw,hl]
 have:=Kb (xs:=pX xs m) ?_ ?_
 unfold Tn;rw[e]at this;exact this;unfold List.Nodup;rw[Za3];intro i j hi hj hij z;have a:=rE (xs:=pX xs m) (i:=(i:Int)) ⋯ ⋯;have b:=rE (xs:=pX xs m) (i:=(j:Int)) ⋯ ⋯;rw[Zat,Zac hi]at a;rw[Zat,Zac hj]at b;have a:=Zao a;have b:=Zao b;rw[C5 ⋯ ⋯]at a b;rw[a,b]at z;have inj:∀p q:Int,0<=p->p<(n:Int)->0<=q->q<(n:Int)->app xs p=app xs q->p=q:=λp q p0 p1 q0 q1=>h.inj p0 p1 q0 q1;split at z<;>split at z<;>(try split at z)<;>(try split at z)<;>(first|lk|(have:=inj _ _ ⋯ ⋯ ⋯ ⋯ z;lk));intro x hx;obtain⟨i,hi,rfl⟩:=Zbo hx;have a:=rE (xs:=pX xs m) (i:=(i:Int)) ⋯ ⋯;rw[Zat,Zac hi]at a;rw[Zao a,C5 ⋯ ⋯,e];split;exact h.app ⋯ ⋯;split;exact h.app ⋯ ⋯;exact h.app ⋯ ⋯
def Tn.xy(h:Tn n xs)(h0:0<=i)(h1:i<(n:Int)):∃m,NB xs i m/\af.bC xs i (m+1)=i:=by
 by_cases hb:∃m,m<n/\af.bC xs i (m+1)=i
 -- the least
 have key:∀b:Nat,(∃m,m<b/\af.bC xs i (m+1)=i)->∃m,NB xs i m/\af.bC xs i (m+1)=i:=by
  intro b
  induction b with
  |zero=>rintro⟨m,hm,_⟩;lk
  |succ b ih =>
   rintro⟨m,hm,e⟩;by_cases hc:∃m,m<b/\af.bC xs i (m+1)=i;exact ih hc;refine⟨m,λj j1 j2 z=>hc ⟨j-1,by lk,?_⟩,e⟩
   have:j-1+1=j:=by lk
   rw[this];exact z
 exact key n hb;have nb:NB xs i n:=λj j1 j2 z=>by
  refine hb ⟨j-1,by lk,?_⟩;have:j-1+1=j:=by lk
  rw[this];exact z
 have:=h.mQ h0 h1 nb;lk
def Yx(hx:Tn n xs)(hy:Tn n ys)(hm:m<n)(nm:¬kZ xs ys (m:Int)):kZ (pX xs m) ys (m:Int)/\∀x,kZ xs ys x->kZ (pX xs m) ys x:=by
 have hl:=hx.length;have m0:m≠0:=λz=>nm (by rw[z];exact .zero);obtain⟨M,nb,bk⟩:=hx.xy (i:=(m:Int)) ⋯ ⋯;have Yy:∀j,af.bC xs (m:Int) j≠0:=by
  intro j z;have h':kZ xs ys (af.bC xs (af.bC xs (m:Int) j) ((M+1)*j)):=by rw[z];exact kZ.zero.bC _
  rw[wO]at h';have e2:af.bC xs (m:Int) ((M+1)*(j+1))=(m:Int):=by
   have:=E8 bk (j+1) 0;rw[ZbA]at this;exact this
  have h3:=h'.bC ((M+1)*(j+1)-(j+(M+1)*j));rw[wO]at h3;have e3:j+(M+1)*j+((M+1)*(j+1)-(j+(M+1)*j))=if j+(M+1)*j<=(M+1)*(j+1)then(M+1)*(j+1)else j+(M+1)*j:=by split<;>lk
  rw[e3]at h3;by_cases hc:j+(M+1)*j<=(M+1)*(j+1)
  ·rw[if_pos hc,e2]at h3
   exact nm h3
  ·-- round as often as needed
   have h4:=h'.bC ((M+1)*(2*j+2)-(j+(M+1)*j));rw[wO]at h4;have hbig:j+(M+1)*j<=(M+1)*(2*j+2):=by
    have a1:(M+1)*(2*j+2)=(M+1)*j+((M+1)*j+(M+1)*2):=by rw[<- Nat.mul_add,<- Nat.mul_add];congr 1;lk
    have a2:j<=(M+1)*j:=Nat.le_mul_of_pos_left j ⋯;lk
   have e5:j+(M+1)*j+((M+1)*(2*j+2)-(j+(M+1)*j))=(M+1)*(2*j+2):=by lk
   rw[e5]at h4;have:=E8 bk (2*j+2) 0;rw[ZbA]at this;rw[this]at h4;exact nm h4
 have ring:∀j,j<=M->kZ (pX xs m) ys (af.bC xs (m:Int) (j+1)):=by
  intro j
  induction j with
  |zero =>
   intro _;have h1:kZ (pX xs m) ys (af.app (pX xs m) 0):=.r .zero;rw[C5 ⋯ ⋯,if_neg ⋯,if_pos rfl]at h1;exact h1
  |succ j ih =>
   intro hj;have h1:=(ih ⋯).r;have b:=hx.bC (i:=(m:Int)) ⋯ ⋯ (j+1);rw[C5 ⋯ b.1,if_neg (nb (j+1) ⋯ ⋯),if_neg (Yy (j+1))]at h1;exact h1
 have RO:kZ (pX xs m) ys (m:Int):=by have:=ring M (Zad _);rwa [bk]at this
 refine⟨RO,λx h=>?_⟩;have hpos:0<n:=by lk
 induction h with
 |zero=>exact .zero
 |r hx' ih =>
  rename_i x
  have b:=hx'.bound hx hy hpos;by_cases h0:x=0
  ·have h1:=RO.r
   rw[C5 ⋯ ⋯,if_pos rfl]at h1;rw[h0];exact h1
  ·have Yz:x≠(m:Int):=λz=>nm (by rw[<- z];exact hx')
   have h1:=ih.r;rw[C5 ⋯ b.1,if_neg Yz,if_neg h0]at h1;exact h1
 |u _ ih=>exact ih.u
abbrev Cl(xs ys F:List Int):Prop:=∀x∈F,app xs x∈F/\app ys x∈F
def Cl.all(h:Cl xs ys F)(h0:(0:Int)∈F)(r:kZ xs ys x):x∈F:=by
 induction r with
 |zero=>exact h0
 |r _ ih=>exact(h _ ih).1
 |u _ ih=>exact(h _ ih).2
structure Fd(xs ys:List Int)(F:List Int):Prop where
 z:(0:Int)∈F
 nd:F.Nodup
 mt:∀x∈F,kZ xs ys x
def Fd.len(h:Fd xs ys F)(hx:Tn n xs)(hy:Tn n ys)(h0:0<n):F.length<=n:=by have:=C4 h.nd (ys:=upto n) λx hx'=>oS.mpr ((h.mt x hx').bound hx hy h0);rw[rD]at this;exact this
def Fd.one(xs ys:List Int):Fd xs ys [0]:=⟨by simp,by simp,λx hx=>(show x=0 by simpa using hx) ▸ .zero⟩
def round(d:Fd xs ys F)(d2:Fd xs ys F2)(p1:F <+: F1)(p2:F1 <+: F2)(c1:∀x∈F,app xs x∈F1)(c2:∀x∈F1,app ys x∈F2)(h:Cl xs ys F\/t+1<=F.length):Cl xs ys F2\/t+1+1<=F2.length:=by
 have p:=p1.trans p2;by_cases hc:Cl xs ys F;refine .inl λx hx=>?_;have hF:=hc.all d.z (d2.mt x hx);exact⟨p.subset (hc x hF).1,p.subset (hc x hF).2⟩;have hl:=h.resolve_left hc;by_cases he:F2.length<=F.length;refine absurd ?_ hc;have e2:F2=F:=(p.eq_of_length (by have:=p.length_le;lk)).symm;have e1:F1=F:=by
  have a:=p1.length_le;have b:=p2.length_le;exact(p1.eq_of_length ⋯).symm
 intro x hx;refine⟨?_,?_⟩
 have:=c1 x hx;rwa [e1]at this
 have:=c2 x (by rw[e1];exact hx);rwa [e2]at this
 exact .inr ⋯
abbrev xA(w n:Nat):List Int:=((List.range (w-1)).map λ(k:Nat)=>(1:Int)+k) ++ [0] ++ ((List.range (n-w)).map λ(k:Nat)=>(w:Int)+k)
abbrev xB(w n:Nat):List Int:=[(w:Int)] ++ ((List.range (w-1)).map λ(k:Nat)=>(1:Int)+k) ++ ((List.range (n-(w+1))).map λ(k:Nat)=>((w:Int)+1)+k) ++ [0]
def YA:∀n,n<21->∀w,w<n+1->0<w->(xA w n).isPerm (upto n)=true:=by decide +kernel
def YB:∀n,n<21->∀w,w<n->0<w->(xB w n).isPerm (upto n)=true:=by decide +kernel
def YC(h:n<21)(h1:w<=n)(h0:0<w):Tn n (xA w n):=List.isPerm_iff.mp (YA n h w ⋯ h0)
def YD(h:n<21)(h1:w<n)(h0:0<w):Tn n (xB w n):=List.isPerm_iff.mp (YB n h w h1 h0)
def less{L L':List Int}{m:Int}(nd:L'.Nodup)(hs:∀x∈L',x∈L)(hm:m∈L)(hm':m ∉ L'):L'.length<L.length:=by
 have hp:=Zcx hm;have hlen:(L.erase m).length+1=L.length:=by have:=hp.length_eq;simpa using this.symm
 have:=C4 (ys:=L.erase m) nd λx hx=>(Zbu (λe=>hm' (by rw[<- e];exact hx))).mpr (hs x hx);lk
end af
namespace af
abbrev a7(xs ys:List Int):List Int:=xs.map (app ys)
def E9(xs ys:List Int):(a7 xs ys).length=xs.length:=by simp[a7]
def tI{n:Nat}{xs ys:List Int}(hx:xs.length=n)(hy:ys.length=n)(h:∀s:Int,0<=s->s<(n:Int)->app xs s=app ys s):xs=ys:=by rw[<- E5 hx,<- E5 hy];apply ZaQ;intro s hs;obtain⟨h0,h1⟩:=oS.mp hs;exact h s h0 h1
def qW(h0:0<=s)(h1:s<(xs.length:Int)):app (a7 xs ys) s=app ys (app xs s):=by have e:=rE (xs:=a7 xs ys) h0 (by rw[E9];exact h1);unfold a7 at e;rw[Zag,rE h0 h1]at e;exact(Zao e).symm
def Tn.vJ{n:Nat}{xs:List Int}(hl:xs.length=n)(hb:∀s:Int,0<=s->s<(n:Int)->0<=af.app xs s/\af.app xs s<(n:Int))(hi:∀s t:Int,0<=s->s<(n:Int)->0<=t->t<(n:Int)->af.app xs s=af.app xs t->s=t):Tn n xs:=by
 have el:∀(i:Nat) (h:i<xs.length),xs[i]=af.app xs (i:Int):=λi h=>by
  have a:=rE (xs:=xs) (i:=(i:Int)) ⋯ ⋯;rw[Zat,Zac h]at a;exact Zao a
 have:=Kb (xs:=xs) ?_ ?_
 unfold Tn;rw[hl]at this;exact this;unfold List.Nodup;rw[Za3];intro i j h1 h2 hij z;rw[el i h1,el j h2]at z;have:=hi i j ⋯ ⋯ ⋯ ⋯ z;lk;intro x hx;obtain⟨i,h,rfl⟩:=Zbo hx;rw[el i h,hl];exact hb i ⋯ ⋯
def Tn.a7(hx:Tn n xs)(hy:Tn n ys):Tn n (a7 xs ys):=by have hl:=hx.length;refine Tn.vJ (by rw[E9];exact hl) (λs h0 h1=>?_) λs t s0 s1 t0 t1 e=>?_;rw[qW h0 ⋯];obtain⟨a,b⟩:=hx.app h0 h1;exact hy.app a b;rw[qW s0 ⋯,qW t0 ⋯]at e;obtain⟨a,b⟩:=hx.app s0 s1;obtain⟨c,d⟩:=hx.app t0 t1;exact hx.inj s0 s1 t0 t1 (hy.inj a b c d e)
def Tn.xC(hx:Tn n xs)(hy:Tn n ys)(h0:0<=s)(h1:s<(n:Int)):af.app (inv (af.a7 xs ys)) s=af.app (inv xs) (af.app (inv ys) s):=by have hf:=hx.a7 hy;obtain⟨a0,a1⟩:=hy.oM h0 h1;obtain⟨b0,b1⟩:=hx.oM a0 a1;obtain⟨c0,c1⟩:=hf.oM h0 h1;refine hf.inj c0 c1 b0 b1 ?_;rw[hf.cG h0 h1,qW b0 (by rw[hx.length];exact b1),hx.cG a0 a1,hy.cG h0 h1]
abbrev anew(xs p:List Int):List Int:=a7 (a7 (inv p) xs) p
def Tn.anew(hx:Tn n xs)(hp:Tn n p):Tn n (anew xs p):=(hp.aB.a7 hx).a7 hp
def Tn.jM(hx:Tn n xs)(hp:Tn n p)(h0:0<=s)(h1:s<(n:Int)):af.app (af.anew xs p) s=af.app p (af.app xs (af.app (inv p) s)):=by have hl:=hp.aB.length;unfold af.anew;rw[qW h0 (by rw[E9,hl];exact h1),qW h0 (by rw[hl];exact h1)]
def Tn.nA(hx:Tn n xs)(hp:Tn n p)(h0:0<=s)(h1:s<(n:Int)):af.app (af.anew xs p) (af.app p s)=af.app p (af.app xs s):=by obtain⟨a,b⟩:=hp.app h0 h1;rw[hx.jM hp a b,hp.g8 h0 h1]
def Tn.n5(hx:Tn n xs)(hp:Tn n p)(hq:Tn n q):af.anew (af.anew xs p) q=af.anew xs (af.a7 p q):=by have hf:=hp.a7 hq;refine tI (n:=n) ((hx.anew hp).anew hq).length (hx.anew hf).length λs h0 h1=>?_;obtain⟨a0,a1⟩:=hq.oM h0 h1;obtain⟨b0,b1⟩:=hp.oM a0 a1;obtain⟨c0,c1⟩:=hx.app b0 b1;rw[(hx.anew hp).jM hq h0 h1,hx.jM hp a0 a1,hx.jM hf h0 h1,hp.xC hq h0 h1,qW c0 (by rw[hp.length];exact c1)]
def Tn.n8(hx:Tn n xs)(hp:Tn n p):af.anew (af.anew xs p) (inv p)=xs:=by
 refine tI (n:=n) ((hx.anew hp).anew hp.aB).length hx.length λs h0 h1=>?_;obtain⟨a0,a1⟩:=hp.aB.oM h0 h1;have e:af.app (inv (inv p)) s=af.app p s:=by
  obtain⟨b0,b1⟩:=hp.app h0 h1;refine hp.aB.inj a0 a1 b0 b1 ?_;rw[hp.aB.cG h0 h1,hp.g8 h0 h1]
 obtain⟨b0,b1⟩:=hp.app h0 h1;obtain⟨c0,c1⟩:=hx.app h0 h1;rw[(hx.anew hp).jM hp.aB h0 h1,e,hx.nA hp h0 h1,hp.g8 c0 c1]
end af
namespace af
abbrev cL(F:List Int)(x:Int):List Int:=if x∈F then F else F ++ [x]
def yK(F:List Int)(x:Int):F <+: cL F x:=by unfold cL;split;exact Zcc _;exact ZbZ _ _
def tJ:y∈cL F x↔y∈F\/y=x:=by
 unfold cL;split
 ·next h=>exact⟨.inl,λz=>z.elim id λe=>e ▸ h⟩
 ·rw[Zax,Zar]
def RP(h:F.Nodup):(cL F x).Nodup:=by
 unfold cL;split
 ·exact h
 ·next hx =>
  rw[Zcl];exact⟨h,by simp,λa ha b hb e=>hx (by rw[Zar]at hb;rw[<- hb,<- e];exact ha)⟩
abbrev visit(xs ys F:List Int)(x:Int):List Int:=cL (cL F (app xs x)) (app ys x)
abbrev bf(xs ys:List Int)(s:Int):Nat->List Int
 |0=>[s]
 |k+1=>match (bf xs ys s k)[k]? with
  |some x=>visit xs ys (bf xs ys s k) x
  |none=>bf xs ys s k
def YE(xs ys:List Int)(s:Int)(k:Nat):bf xs ys s k <+: bf xs ys s (k+1):=by show _ <+: (match (bf xs ys s k)[k]? with|some x=>visit xs ys (bf xs ys s k) x|none=>bf xs ys s k);split;exact(yK _ _).trans (yK _ _);exact Zcc _
def AK(xs ys:List Int)(s:Int)(k:Nat):∀d,bf xs ys s k <+: bf xs ys s (k+d)
 |0=>Zcc _
 |d+1=>(AK xs ys s k d).trans (YE xs ys s (k+d))
def AL(xs ys:List Int)(s:Int):∀k,(bf xs ys s k).Nodup
 |0=>by show[s].Nodup;simp
 |k+1=>by
  show(match (bf xs ys s k)[k]? with|some x=>visit xs ys (bf xs ys s k) x|none=>bf xs ys s k).Nodup;split;exact RP (RP (AL xs ys s k));exact AL xs ys s k
def Ke(h:(bf xs ys s k).length<=k):∀d,bf xs ys s (k+d)=bf xs ys s k
 |0=>rfl
 |d+1=>by
  have e:=Ke h d;show(match (bf xs ys s (k+d))[k+d]? with|some x=>visit xs ys (bf xs ys s (k+d)) x|none=>bf xs ys s (k+d))=_;rw[e,ZaP ⋯]
section
variable {n:Nat}{xs ys:List Int}{s:Int}
def uo(hx:Tn n xs)(hy:Tn n ys)(s0:0<=s)(s1:s<(n:Int)):∀k,∀x∈bf xs ys s k,0<=x/\x<(n:Int)
 |0,x,h=>by rw[Zar.mp (show x∈[s]from h)];exact⟨s0,s1⟩
 |k+1,x,h=>by
  have ih:=uo hx hy s0 s1 k;have h':x∈(match (bf xs ys s k)[k]? with|some y=>visit xs ys (bf xs ys s k) y|none=>bf xs ys s k):=h;split at h'
  ·next y hy' =>
   obtain⟨y0,y1⟩:=ih y (Zai hy');rcases tJ.mp h' with h'|rfl
   ·rcases tJ.mp h' with h'|rfl
    ·exact ih x h'
    ·exact hx.app y0 y1
   ·exact hy.app y0 y1
  ·exact ih x h'
def Fb(hx:Tn n xs)(hy:Tn n ys)(s0:0<=s)(s1:s<(n:Int))(k:Nat):(bf xs ys s k).length<=n:=by have:=C4 (AL xs ys s k) (ys:=upto n) λx h=>oS.mpr (uo hx hy s0 s1 k x h);rw[rD]at this;exact this
def Fc(hik:i<=k)(h:(bf xs ys s k)[i]?=some x):(bf xs ys s i)[i]?=some x:=by obtain⟨d,rfl⟩:∃d,k=i+d:=⟨k-i,by lk⟩;by_cases hl:(bf xs ys s i).length<=i;rw[Ke hl d]at h;exact h;obtain⟨t,e⟩:=AK xs ys s i d;rw[<- e,Zan ⋯]at h;exact h
def NC(hx:Tn n xs)(hy:Tn n ys)(s0:0<=s)(s1:s<(n:Int)):Cl xs ys (bf xs ys s n):=by
 intro x hm;obtain⟨i,hi,e⟩:=Zbo hm;have hl:=Fb hx hy s0 s1 n;have hi':(bf xs ys s i)[i]?=some x:=Fc (k:=n) ⋯ (by rw[Zac hi,e]);have hs:visit xs ys (bf xs ys s i) x <+: bf xs ys s n:=by
  have:=AK xs ys s (i+1) (n-(i+1));rw[show i+1+(n-(i+1))=n by lk]at this;have e2:bf xs ys s (i+1)=visit xs ys (bf xs ys s i) x:=by
   show(match (bf xs ys s i)[i]? with|some x=>visit xs ys (bf xs ys s i) x|none=>bf xs ys s i)=_;rw[hi']
  rw[<- e2];exact this
 refine⟨hs.subset ?_,hs.subset ?_⟩;exact tJ.mpr (.inl (tJ.mpr (.inr rfl)));exact tJ.mpr (.inr rfl)
def Fe{zs F:List Int}(hz:Tn n zs)(nd:F.Nodup)(hb:∀x∈F,0<=x/\x<(n:Int))(hc:∀x∈F,app zs x∈F){y:Int}(y0:0<=y)(y1:y<(n:Int))(h:app zs y∈F):y∈F:=by
 have YF:(F.map (app zs)).Nodup:=by
  unfold List.Nodup;rw[List.pairwise_map];refine List.Pairwise.imp_of_mem (λ{a b} ha hb' hab e=>?_) nd;obtain⟨a0,a1⟩:=hb a ha;obtain⟨b0,b1⟩:=hb b hb';exact hab (hz.inj a0 a1 b0 b1 e)
 have pm:(F.map (app zs)).Perm F:=Ka YF (λx hx=>by obtain⟨z,hz',rfl⟩:=Zaw.mp hx;exact hc z hz') (by simp);obtain⟨z,C6,e⟩:=Zaw.mp (pm.symm.subset h);obtain⟨z0,z1⟩:=hb z C6;rw[<- hz.inj z0 z1 y0 y1 e];exact C6
def RQ(hx:Tn n xs)(hy:Tn n ys)(s0:0<=s)(s1:s<(n:Int))(all:∀x:Int,0<=x->x<(n:Int)->kZ xs ys x)(x0:0<=x)(x1:x<(n:Int)):x∈bf xs ys s n:=by
 have cl:=NC hx hy s0 s1;have nd:=AL xs ys s n;have bd:=uo hx hy s0 s1 n;have hs:s∈bf xs ys s n:=by
  have:=AK xs ys s 0 n;rw[ZbA]at this;exact this.subset (show s∈[s] by simp)
 have hpos:0<n:=by lk
 have zero:∀y,kZ xs ys y->y∈bf xs ys s n->(0:Int)∈bf xs ys s n:=by
  intro y hr
  induction hr with
  |zero=>exact id
  |r h ih =>
   intro hm;obtain⟨a,b⟩:=h.bound hx hy hpos;exact ih (Fe hx nd bd (λx hx'=>(cl x hx').1) a b hm)
  |u h ih =>
   intro hm;obtain⟨a,b⟩:=h.bound hx hy hpos;exact ih (Fe hy nd bd (λx hx'=>(cl x hx').2) a b hm)
 exact cl.all (zero s (all s s0 s1) hs) (all x x0 x1)
def Kf(hx:Tn n xs)(hy:Tn n ys)(s0:0<=s)(s1:s<(n:Int))(all:∀x:Int,0<=x->x<(n:Int)->kZ xs ys x):Tn n (bf xs ys s n) :=
 Ka (AL xs ys s n) (λx h=>oS.mpr (uo hx hy s0 s1 n x h)) (by
  have:=C4 (RI n) (ys:=bf xs ys s n) λx h=>by obtain⟨a,b⟩:=oS.mp h;exact RQ hx hy s0 s1 all a b
  exact this)
def RS(hp:Tn n p)(hb:∀x∈F,0<=x/\x<(n:Int))(x0:0<=x)(x1:x<(n:Int)):cL (F.map (app p)) (app p x)=(cL F x).map (app p):=by
 unfold cL
 have e:app p x∈F.map (app p)↔x∈F:=⟨λh=>by
  obtain⟨y,hy,e⟩:=Zaw.mp h;obtain⟨y0,y1⟩:=hb y hy
  rw[<- hp.inj y0 y1 x0 x1 e];exact hy,λh=>Zaw.mpr ⟨x,h,rfl⟩⟩
 by_cases h:x∈F;rw[if_pos h,if_pos (e.mpr h)];rw[if_neg h,if_neg λz=>h (e.mp z),Zap];rfl
def ND(hx:Tn n xs)(hy:Tn n ys)(hp:Tn n p)(s0:0<=s)(s1:s<(n:Int)):∀k,bf (anew xs p) (anew ys p) (app p s) k=(bf xs ys s k).map (app p)
 |0=>rfl
 |k+1=>by
  have ih:=ND hx hy hp s0 s1 k;show(match (bf (anew xs p) (anew ys p) (app p s) k)[k]? with|some x=>visit (anew xs p) (anew ys p) (bf (anew xs p) (anew ys p) (app p s) k) x|none=>bf (anew xs p) (anew ys p) (app p s) k)=(match (bf xs ys s k)[k]? with|some x=>visit xs ys (bf xs ys s k) x|none=>bf xs ys s k).map (app p);rw[ih,Zag];cases h:(bf xs ys s k)[k]? with
  |none=>rfl
  |some x =>
   obtain⟨x0,x1⟩:=uo hx hy s0 s1 k x (Zai h);obtain⟨a0,a1⟩:=hx.app x0 x1;obtain⟨b0,b1⟩:=hy.app x0 x1;show visit (anew xs p) (anew ys p) ((bf xs ys s k).map (app p)) (app p x)=(visit xs ys (bf xs ys s k) x).map (app p);unfold visit;rw[hx.nA hp x0 x1,hy.nA hp x0 x1,RS hp (uo hx hy s0 s1 k) a0 a1,RS hp (λz hz=>?_) b0 b1];rcases tJ.mp hz with hz|rfl
   exact uo hx hy s0 s1 k z hz;exact⟨a0,a1⟩
end
abbrev num(zs sq:List Int):List Int:=sq.map λo=>(sq.idxOf (app zs o):Int)
def Tn.inv_inv(hp:Tn n p):inv (inv p)=p:=by refine tI (n:=n) hp.aB.aB.length hp.length λs h0 h1=>?_;obtain⟨a0,a1⟩:=hp.aB.oM h0 h1;obtain⟨b0,b1⟩:=hp.app h0 h1;refine hp.aB.inj a0 a1 b0 b1 ?_;rw[hp.aB.cG h0 h1,hp.g8 h0 h1]
def yL(hz:Tn n zs)(hs:Tn n sq):anew zs (inv sq)=num zs sq:=by unfold anew num a7;rw[hs.inv_inv,ZaF];apply ZaQ;intro o ho;obtain⟨o0,o1⟩:=hs.bound ho;obtain⟨a0,a1⟩:=hz.app o0 o1;exact Kd a0 (by rw[hs.length];exact a1)
def RT(hp:Tn n p):∀{sq:List Int},(∀x∈sq,0<=x/\x<(n:Int))->∀{y:Int},0<=y->y<(n:Int)->(sq.map (app p)).idxOf (app p y)=sq.idxOf y
 |[],_,_,_,_=>rfl
 |a :: r,hb,y,y0,y1=>by
  obtain⟨a0,a1⟩:=hb a Zah;rw[Zaz,List.idxOf_cons,List.idxOf_cons,RT hp (λx hx=>hb x (Zak _ hx)) y0 y1];by_cases e:a=y;rw[e];simp;have e2:app p a≠app p y:=λz=>e (hp.inj a0 a1 y0 y1 z);rw[show(a == y)=false by simpa using e,show(app p a == app p y)=false by simpa using e2]
def RU(hz:Tn n zs)(hp:Tn n p)(hb:∀x∈sq,0<=x/\x<(n:Int)):num (anew zs p) (sq.map (app p))=num zs sq:=by unfold num;rw[ZaF];apply ZaQ;intro o ho;obtain⟨o0,o1⟩:=hb o ho;obtain⟨a0,a1⟩:=hz.app o0 o1;show((sq.map (app p)).idxOf (app (anew zs p) (app p o)):Int)=_;rw[hz.nA hp o0 o1,RT hp hb a0 a1]
end af
namespace af
abbrev pw(xs:List Int)(k i:Int):Int:=if 0<=k then bC xs i k.toNat else bC (inv xs) i (-k).toNat
section
variable {n:Nat}{xs:List Int}{i:Int}
def Tn.qA(h:Tn n xs)(i0:0<=i)(i1:i<(n:Int)):∀(k m:Nat),af.bC (inv xs) (af.bC xs i m) k=if k<=m then af.bC xs i (m-k)else af.bC (inv xs) i (k-m)
 |0,m=>by rw[if_pos (ZaK _),Nat.sub_zero];rfl
 |k+1,m=>by
  show af.app (inv xs) (af.bC (inv xs) (af.bC xs i m) k)=_;rw[h.qA i0 i1 k m];by_cases hk:k<=m;rw[if_pos hk];by_cases hk1:k+1<=m;rw[if_pos hk1];obtain⟨d,hd⟩:∃d,m-k=d+1:=⟨m-k-1,by lk⟩;rw[hd,show m-(k+1)=d by lk];obtain⟨a,b⟩:=h.bC i0 i1 d;exact h.g8 a b;rw[if_neg hk1,show m-k=0 by lk,show k+1-m=1 by lk];rfl;rw[if_neg hk,if_neg ⋯,show k+1-m=(k-m)+1 by lk];rfl
def Tn.vK(h:Tn n xs)(i0:0<=i)(i1:i<(n:Int))(k m:Nat):af.bC xs (af.bC (inv xs) i m) k=if k<=m then af.bC (inv xs) i (m-k)else af.bC xs i (k-m):=by have:=h.aB.qA i0 i1 k m;rw[h.inv_inv]at this;exact this
def Tn.pw(h:Tn n xs)(i0:0<=i)(i1:i<(n:Int))(k:Int):0<=af.pw xs k i/\af.pw xs k i<(n:Int):=by unfold af.pw;split;exact h.bC i0 i1 _;exact h.aB.bC i0 i1 _
def Tn.pw_add(h:Tn n xs)(i0:0<=i)(i1:i<(n:Int))(a b:Int):af.pw xs a (af.pw xs b i)=af.pw xs (a+b) i:=by
 by_cases ha:0<=a<;>by_cases hb:0<=b;unfold af.pw;rw[if_pos ha,if_pos hb,if_pos ⋯,wO]
 congr 1
 lk;have e1:af.pw xs b i=af.bC (inv xs) i (-b).toNat:=by unfold af.pw;rw[if_neg hb]
 have e2:∀j,af.pw xs a j=af.bC xs j a.toNat:=λj=>by unfold af.pw;rw[if_pos ha]
 rw[e1,e2,h.vK i0 i1];unfold af.pw;split;split;rw[show(-b).toNat-a.toNat=0 by lk,show(a+b).toNat=0 by lk];rfl
 congr 1;lk
 rw[if_pos ⋯];congr 1;lk;have e1:af.pw xs b i=af.bC xs i b.toNat:=by unfold af.pw;rw[if_pos hb]
 have e2:∀j,af.pw xs a j=af.bC (inv xs) j (-a).toNat:=λj=>by unfold af.pw;rw[if_neg ha]
 rw[e1,e2,h.qA i0 i1];unfold af.pw;split;rw[if_pos ⋯];congr 1;lk;rw[if_neg ⋯];congr 1;lk;unfold af.pw;rw[if_neg ha,if_neg hb,if_neg ⋯,wO]
 congr 1
 lk
def Tn.pw_per(h:Tn n xs)(i0:0<=i)(i1:i<(n:Int))(hL:af.bC xs i L=i)(q:Int):af.pw xs ((L:Int)*q) i=i:=by
 have pos:∀m:Nat,af.pw xs ((L:Int)*(m:Int)) i=i:=λm=>by
  unfold af.pw;rw[if_pos (Int.mul_nonneg ⋯ ⋯),show((L:Int)*(m:Int)).toNat=0+L*m by rw[<- Int.natCast_mul,Zat];lk,E8 hL];rfl
 by_cases hq:0<=q;obtain⟨m,rfl⟩:∃m:Nat,q=(m:Int):=⟨q.toNat,by lk⟩;exact pos m;obtain⟨m,rfl⟩:∃m:Nat,q=-(m:Int):=⟨(-q).toNat,by lk⟩
 have:=h.pw_add i0 i1 ((L:Int) * -(m:Int)) ((L:Int)*(m:Int));rw[pos m]at this;rw[this,Int.mul_neg,Int.add_left_neg];rfl
def Tn.AO(h:Tn n xs)(i0:0<=i)(i1:i<(n:Int))(o:RN xs k i v):v=af.pw xs k i:=by
 obtain⟨m,_,bk,rfl⟩:=o;have m0:=Zbf k (show((m+1:Nat):Int)≠0 by lk);have e:af.bC xs i (k % ((m+1:Nat):Int)).toNat=af.pw xs (k % ((m+1:Nat):Int)) i:=by unfold af.pw;rw[if_pos m0]
 rw[e];have e2:=h.pw_add i0 i1 (k % ((m+1:Nat):Int)) (((m+1:Nat):Int)*(k / ((m+1:Nat):Int)));rw[h.pw_per i0 i1 bk,Int.emod_add_mul_ediv]at e2;exact e2
end
abbrev cD(xs:List Int)(k:Int):List Int:=(upto xs.length).map (pw xs k)
def Ff(xs:List Int)(k:Int):(cD xs k).length=xs.length:=by simp[cD,rD]
def sC(s0:0<=s)(s1:s<(xs.length:Int)):app (cD xs k) s=pw xs k s:=by have e:=rE (xs:=cD xs k) s0 (by rw[Ff];exact s1);unfold cD at e;rw[Zag,E7 ⋯]at e;have:=Zao e;rw[ZaG s0]at this;exact this.symm
def Tn.cD(h:Tn n xs)(k:Int):Tn n (cD xs k):=by have hl:=h.length;refine Tn.vJ (by rw[Ff];exact hl) (λs s0 s1=>by rw[sC s0 ⋯];exact h.pw s0 s1 k) λs t s0 s1 t0 t1 e=>?_;rw[sC s0 ⋯,sC t0 ⋯]at e;have e2:=congrArg (af.pw xs (-k)) e;rw[h.pw_add s0 s1,h.pw_add t0 t1,Int.add_left_neg]at e2;exact e2
abbrev shr(xs ys:List Int)(k:Int):List Int:=a7 (cD xs (-k)) ys
def Tn.shr(hx:Tn n xs)(hy:Tn n ys)(k:Int):Tn n (shr xs ys k):=(hx.cD (-k)).a7 hy
def Tn.oT(hx:Tn n xs)(s0:0<=s)(s1:s<(n:Int)):af.app (af.shr xs ys k) s=af.app ys (af.pw xs (-k) s):=by have hl:=hx.length;unfold af.shr;rw[qW s0 (by rw[Ff,hl];exact s1),sC s0 (by rw[hl];exact s1)]
def Tn.xD(hx:Tn n xs)(hy:Tn n ys)(a b:Int):af.shr xs (af.shr xs ys a) b=af.shr xs ys (a+b):=by refine tI (n:=n) (hx.shr (hx.shr hy a) b).length (hx.shr hy (a+b)).length λs s0 s1=>?_;obtain⟨p0,p1⟩:=hx.pw s0 s1 (-b);rw[hx.oT s0 s1,hx.oT p0 p1,hx.oT s0 s1,hx.pw_add s0 s1,show -a + -b=-(a+b) by lk]
def Tn.vL(hx:Tn n xs)(hy:Tn n ys):af.shr xs ys 0=ys:=by refine tI (n:=n) (hx.shr hy 0).length hy.length λs s0 s1=>?_;rw[hx.oT s0 s1];rfl
end af
namespace af
abbrev yM(f:Int->Int->Bool)(a:Int):List Int->Bool
 |[]=>false
 |b :: r=>(f a b).xor (yM f a r)
abbrev pairs(f:Int->Int->Bool):List Int->Bool
 |[]=>false
 |a :: r=>(yM f a r).xor (pairs f r)
abbrev tb(l:Int->Nat)(p:Int->Int)(a b:Int):Bool:=if l a=l b\/l (p a)=l (p b)then false else(decide (l a<l b)).xor (decide (l (p a)<l (p b)))
end af
namespace af
end af
namespace af
@[reducible]def Sp:=Bool×Int
abbrev bQ(s:Sp):Prop:=(s.1=false->1<=s.2/\s.2<=3)/\s.2≠0
abbrev gj(a b:Sp):Int:=if a.1 then a.2+b.2 else(a.2+b.2) % 4
abbrev ck(a b:Sp):List Sp:=if gj a b=0 then[]else[(a.1,gj a b)]
abbrev bE:List Sp->Sp->List Sp
 |[],s=>[s]
 |t :: r,s=>if t.1=s.1 then ck t s ++ r else s :: t :: r
def vN(t:Sp)(r:List Sp)(s:Sp):bE (t :: r) s=if t.1=s.1 then ck t s ++ r else s :: t :: r:=rfl
abbrev gW(w:List Sp):List Sp:=w.foldl bE []
abbrev jN(s:Sp):Sp:=(s.1,if s.1 then -s.2 else 4-s.2)
abbrev dJ(w:List Sp):List Sp:=(w.map jN).reverse
abbrev Pl:List Sp->Prop
 |[]=>True
 |a :: r=>bQ a/\(∀b,r.head?=some b->a.1≠b.1)/\Pl r
def Pl.pr:∀{l:List Sp},Pl l->∀s∈l,bQ s
 |a :: r,h,s,hs=>by
  rcases ZaE.mp hs with rfl|hs
  exact h.1;exact Pl.pr h.2.2 s hs
def RV(ha:bQ a)(e:a.1=b.1):(gj a b=0/\ck a b=[])\/(bQ (a.1,gj a b)/\ck a b=[(a.1,gj a b)]):=by unfold ck;by_cases h:gj a b=0;exact .inl ⟨h,by rw[if_pos h]⟩;refine .inr ⟨⟨λhf=>?_,h⟩,by rw[if_neg h]⟩;simp only at hf;unfold gj at h ⊢;simp only[hf,Zba,if_false]at h ⊢;lk
def Pl.push(h:Pl l)(hs:bQ s):Pl (bE l s):=by
 cases l with
 |nil=>exact⟨hs,λb h=>(nomatch h),trivial⟩
 |cons t r =>
  rw[vN];split
  ·next e =>
   rcases RV h.1 e with⟨_,ej⟩|⟨hp,ej⟩
   ·rw[ej];exact h.2.2
   ·rw[ej];exact⟨hp,h.2.1,h.2.2⟩
  ·next e =>
   refine⟨hs,λb hb=>?_,h⟩;cases hb;exactλe'=>e e'.symm
def Pl.fold{w:List Sp}:∀{l:List Sp},Pl l->(∀s∈w,bQ s)->Pl (w.foldl bE l):=by
 induction w with
 |nil=>exactλh _=>h
 |cons s w ih=>exactλh hw=>ih (h.push (hw s (Zah))) λs' h'=>hw s' (Zak _ h')
def RW(hw:∀s∈w,bQ s):Pl (gW w):=Pl.fold (l:=[]) trivial hw
def NF(h:∀b,l.head?=some b->s.1≠b.1):bE l s=s :: l:=by
 cases l with
 |nil=>rfl
 |cons t r=>rw[vN,if_neg λe=>h t rfl e.symm]
def Pl.n9:∀{l:List Sp},Pl l->gW l.reverse=l
 |[],_=>rfl
 |a :: r,h=>by
  unfold gW;rw[ZbG,Za5];show bE (gW r.reverse) a=_;rw[Pl.n9 h.2.2,NF h.2.1]
def Kg(u v:List Sp):gW (u ++ v)=v.foldl bE (gW u):=by unfold gW;rw[Za5]
def Fg(h:bQ s):bQ (jN s):=by
 obtain⟨b,k⟩:=s;cases b with
 |true=>exact⟨nofun,λe=>h.2 (by have:-k=0:=e;show k=0;lk)⟩
 |false =>
  obtain⟨h1,h2⟩:=h.1 rfl;simp only at h1 h2;exact⟨λ_=>by show 1<=4-k/\4-k<=3;lk,by show 4-k≠0;lk⟩
def YG(hp:Pl p)(hs:bQ s):bE (bE p s) (jN s)=p:=by
 have e0:ck s (jN s)=[]:=by
  unfold ck gj jN;cases hb:s.1<;>simp<;>lk
 cases p with
 |nil =>
  show(if s.1=(jN s).1 then ck s (jN s) ++ []else _)=_;rw[if_pos (show s.1=(jN s).1 from rfl),e0];rfl
 |cons t r =>
  by_cases e:t.1=s.1;have e1:bE (t :: r) s=ck t s ++ r:=by rw[vN,if_pos e]
  rw[e1];obtain⟨tb,tk⟩:=t;obtain⟨sb,sk⟩:=s;simp only at e;subst e;have ht:=hp.1;rcases RV (b:=(tb,sk)) hp.1 rfl with⟨h0,ej⟩|⟨wQ,ej⟩
  rw[ej,List.nil_append];have eb:jN (tb,sk)=(tb,tk):=by
   unfold jN;unfold gj at h0;cases tb with
   |true=>simp only[if_true]at h0 ⊢;congr 1;lk
   |false =>
    have h1:=ht.1 rfl;have h2:=hs.1 rfl;simp only[Zba,if_false]at h0 h1 h2 ⊢
    congr 1;lk
  rw[eb];exact NF hp.2.1;rw[ej];show(if tb=(jN (tb,sk)).1 then ck (tb,gj (tb,tk) (tb,sk)) (jN (tb,sk)) ++ r else _)=_;rw[if_pos (show tb=(jN (tb,sk)).1 from rfl)];have eb:gj (tb,gj (tb,tk) (tb,sk)) (jN (tb,sk))=tk:=by
   unfold gj jN;cases tb with
   |true=>simp only[if_true];lk
   |false =>
    have h1:=ht.1 rfl;have h2:=hs.1 rfl;simp only[Zba,if_false]at h1 h2 ⊢;lk
  unfold ck;rw[eb,if_neg ht.2];rfl;have e1:bE (t :: r) s=s :: t :: r:=by rw[vN,if_neg e]
  rw[e1];show(if s.1=(jN s).1 then ck s (jN s) ++ (t :: r)else _)=_;rw[if_pos (show s.1=(jN s).1 from rfl),e0];rfl
def YH:∀{p:List Sp},Pl p->(∀s∈w,bQ s)->(w ++ dJ w).foldl bE p=p:=by
 induction w with
 |nil=>exactλ_ _=>rfl
 |cons s w ih =>
  intro p hp hw;have e:(s :: w) ++ dJ (s :: w)=s :: ((w ++ dJ w) ++ [jN s]):=by unfold dJ;simp
  rw[e];show((w ++ dJ w) ++ [jN s]).foldl bE (bE p s)=p;have hs:=hw s (Zah);rw[Za5,ih (hp.push hs) λs' h'=>hw s' (Zak _ h')];exact YG hp hs
def YI(hw:∀s∈w,bQ s):gW (w ++ dJ w)=[]:=YH (p:=[]) trivial hw
def RX(h:∀x∈l,x.2.natAbs<=M)(hs:s.2.natAbs<=B)(hp:bQ s)(hl:Pl l):∀x∈bE l s,x.2.natAbs<=M+B:=by
 intro x hx;cases l with
 |nil=>rcases Zar.mp hx with rfl;lk
 |cons t r =>
  rw[vN]at hx;have ht:=h t (Zah);split at hx
  ·next e0 =>
   rcases Zax.mp hx with hx|hx
   ·unfold ck at hx
    split at hx
    ·exact(nomatch hx)
    ·rcases Zar.mp hx with rfl
     show(gj t s).natAbs<=_;unfold gj;split
     ·lk
     ·next hb =>
      have:=hl.1.1 (by simpa using hb);have h2:=hp.1 (by rw[<- e0];simpa using hb);lk
   ·have:=h x (Zak _ hx);lk
  ·rcases ZaE.mp hx with rfl|hx
   ·lk
   ·have:=h x hx;lk
def YJ{B:Nat}{w:List Sp}:∀{l:List Sp} {M:Nat},(∀x∈l,x.2.natAbs<=M)->Pl l->(∀s∈w,bQ s/\s.2.natAbs<=B)->∀x∈w.foldl bE l,x.2.natAbs<=M+w.length*B:=by
 induction w with
 |nil=>intro l M h _ _ x hx;have:=h x hx;lk
 |cons s w ih =>
  intro l M h hl hw x hx;have hs:=hw s (Zah);have:=ih (RX h hs.2 hs.1 hl) (hl.push hs.1) (λs' h'=>hw s' (Zak _ h')) x hx;rw[ZaD,Zch];lk
def AQ(hw:∀s∈w,bQ s/\s.2.natAbs<=B):∀x∈gW w,x.2.natAbs<=w.length*B:=λx hx=>by
 have:=YJ (l:=[]) (M:=0) nofun trivial hw x hx;lk
def YK(l:List Sp)(s:Sp):(bE l s).length<=l.length+1:=by
 cases l with
 |nil=>exact Zad _
 |cons t r =>
  rw[vN];split;unfold ck;split<;>simp<;>lk;simp
def YL{w:List Sp}:∀{l:List Sp},(w.foldl bE l).length<=l.length+w.length:=by
 induction w with
 |nil=>exact Zad _
 |cons s w ih =>
  intro l;have:=ih (l:=bE l s);have h2:=YK l s;rw[ZaD];exact Zaq this ⋯
def Kh(w:List Sp):(gW w).length<=w.length:=by have:=YL (w:=w) (l:=[]);simpa[gW]using this
structure T4 where (a b c d:Int)
abbrev T4.one:T4:=⟨1,0,0,1⟩
abbrev T4.qt:T4:=⟨0,-1,1,0⟩
abbrev T4.mul(x y:T4):T4:=⟨x.a*y.a+x.b*y.c,x.a*y.b+x.b*y.d,x.c*y.a+x.d*y.c,x.c*y.b+x.d*y.d⟩
abbrev T4.og(x:T4):T4:=⟨x.d,-x.b,-x.c,x.a⟩
def T4.ext'{x y:T4}(h1:x.a=y.a)(h2:x.b=y.b)(h3:x.c=y.c)(h4:x.d=y.d):x=y:=by cases x;cases y;simp only at h1 h2 h3 h4;subst h1 h2 h3 h4;rfl
def T4.assoc(x y z:T4):(x.mul y).mul z=x.mul (y.mul z):=by apply T4.ext'<;>simp only[T4.mul,Int.add_mul,Int.mul_add,ZbE]<;>lk
def T4.one_mul(x:T4):T4.one.mul x=x:=by apply T4.ext'<;>simp[T4.mul,T4.one]
def T4.mul_one(x:T4):x.mul T4.one=x:=by apply T4.ext'<;>simp[T4.mul,T4.one]
def T4.qB(x y:T4):(x.mul y).og=y.og.mul x.og:=by apply T4.ext'<;>simp only[T4.mul,T4.og,Zbl,Int.mul_neg,Int.neg_neg,ZbQ]<;>lk
abbrev qp:Nat->T4
 |0=>T4.one
 |n+1=>T4.qt.mul (qp n)
abbrev fJ(s:Sp):T4:=if s.1 then⟨1,s.2,0,1⟩else qp s.2.toNat
abbrev oh(T:T4)(w:List Sp):T4:=w.foldl (λT s=>(fJ s).mul T) T
abbrev av(w:List Sp):T4:=oh T4.one w
def YM(w:List Sp):∀T:T4,oh T w=(av w).mul T:=by
 induction w with
 |nil=>exactλT=>(T4.one_mul T).symm
 |cons s w ih =>
  intro T;show oh ((fJ s).mul T) w=(oh ((fJ s).mul T4.one) w).mul T;rw[ih,ih,T4.mul_one,T4.assoc]
def rF(u v:List Sp):av (u ++ v)=(av v).mul (av u):=by show oh T4.one (u ++ v)=_;unfold oh;rw[Za5];exact YM v _
def uq(u:List Sp)(s:Sp):av (u ++ [s])=(fJ s).mul (av u):=by show oh T4.one (u ++ [s])=_;unfold oh;rw[Za5];rfl
def t3{k:Int}(h:1<=k/\k<=3):k=1\/k=2\/k=3:=by lk
def YN(ht:bQ t)(hs:bQ s)(e:t.1=s.1):av (ck t s)=(fJ s).mul (fJ t):=by
 obtain⟨tb,tk⟩:=t;obtain⟨sb,sk⟩:=s;simp only at e;subst e;cases tb with
 |true =>
  have e2:(fJ (true,sk)).mul (fJ (true,tk))=⟨1,tk+sk,0,1⟩:=by apply T4.ext'<;>simp[T4.mul,fJ]<;>lk
  rw[e2];unfold ck gj;simp only[if_true];split
  ·next h=>rw[h];rfl
  ·rw[show av [(true,tk+sk)]=(fJ (true,tk+sk)).mul T4.one from rfl,T4.mul_one];rfl
 |false =>
  have h1:=ht.1 rfl;have h2:=hs.1 rfl;simp only at h1 h2;rcases t3 h1 with rfl|rfl|rfl<;>rcases t3 h2 with rfl|rfl|rfl<;>rfl
def YO(hl:Pl l)(hs:bQ s):av (bE l s).reverse=(fJ s).mul (av l.reverse):=by
 cases l with
 |nil=>exact uq [] s
 |cons t r =>
  rw[vN];split
  ·next e =>
   rw[List.reverse_append,rF,ZbG,uq,<- T4.assoc]
   congr 1
   rw[<- YN hl.1 hs e];unfold ck;split<;>rfl
  ·rw[ZbG,uq]
def YQ:∀{l:List Sp},Pl l->(∀s∈w,bQ s)->av (w.foldl bE l).reverse=oh (av l.reverse) w:=by
 induction w with
 |nil=>exactλ_ _=>rfl
 |cons s w ih =>
  intro l hl hw;have hs:=hw s (Zah);show av (w.foldl bE (bE l s)).reverse=oh ((fJ s).mul (av l.reverse)) w;rw[ih (hl.push hs) λs' h'=>hw s' (Zak _ h'),YO hl hs]
def Ki(hw:∀s∈w,bQ s):av (gW w).reverse=av w:=YQ (l:=[]) trivial hw
def AR(h:bQ s):fJ (jN s)=(fJ s).og:=by
 obtain⟨b,k⟩:=s;cases b with
 |true=>apply T4.ext'<;>simp[T4.og,fJ,jN]
 |false =>
  have h1:=h.1 rfl;simp only at h1;rcases t3 h1 with rfl|rfl|rfl<;>rfl
def AU(hw:∀s∈w,bQ s):av (dJ w)=(av w).og:=by
 induction w with
 |nil=>rfl
 |cons s w ih =>
  have e:dJ (s :: w)=dJ w ++ [jN s]:=by unfold dJ;simp
  have e2:av (s :: w)=(av w).mul (fJ s):=by
   rw[show s :: w=[s] ++ w from rfl,rF]
   congr 1
   exact(uq [] s).trans (T4.mul_one _)
  rw[e,uq,ih λs' h'=>hw s' (Zak _ h'),AR (hw s (Zah)),e2,T4.qB]
abbrev T4.le(x:T4)(M:Nat):Prop:=x.a.natAbs<=M/\x.b.natAbs<=M/\x.c.natAbs<=M/\x.d.natAbs<=M
def RY{a c k:Int}{M B:Nat}(ha:a.natAbs<=M)(hc:c.natAbs<=M)(hk:k.natAbs<=B):(a+k*c).natAbs<=(B+1)*M:=by
 have h1:(k*c).natAbs<=B*M:=by rw[Za2];exact Zcj hk hc
 rw[Zch];lk
def yN(h:T.le M)(hp:bQ s)(hs:s.2.natAbs<=B):((fJ s).mul T).le ((B+1)*M):=by
 obtain⟨b,k⟩:=s;obtain⟨ha,hb,hc,hd⟩:=h;have hM:M<=(B+1)*M:=by rw[Zch];lk
 cases b with
 |true =>
  refine⟨?_,?_,?_,?_⟩<;>simp only[T4.mul,fJ,if_true,Int.one_mul,Int.zero_mul,ZbC];exact RY ha hc hs;exact RY hb hd hs;lk;lk
 |false =>
  have h1:=hp.1 rfl;simp only at h1;rcases t3 h1 with rfl|rfl|rfl<;>refine⟨?_,?_,?_,?_⟩<;>simp[T4.mul,fJ,qp,T4.qt,T4.one]<;>lk
def AV:∀{T:T4} {M:Nat},T.le M->(∀s∈w,bQ s/\s.2.natAbs<=B)->(oh T w).le ((B+1) ^ w.length*M):=by
 induction w with
 |nil=>intro T M h _;simpa[oh]using h
 |cons s w ih =>
  intro T M h hw;have hs:=hw s (Zah);have:=ih (yN h hs.1 hs.2) λs' h'=>hw s' (Zak _ h');rw[ZaD,Nat.pow_succ,ZcD];exact this
def YR(hw:∀s∈w,bQ s/\s.2.natAbs<=B)(hn:w.length<=n):(av w).le ((B+1) ^ n):=by
 have h:=AV (T:=T4.one) (M:=1) ⟨by decide,by decide,by decide,by decide⟩ hw;have h2:(B+1) ^ w.length*1<=(B+1) ^ n:=by rw[Nat.mul_one];exact Zcw ⋯ hn
 exact⟨Zaq h.1 h2,Zaq h.2.1 h2,Zaq h.2.2.1 h2,Zaq h.2.2.2 h2⟩
end af
namespace af
abbrev rW:List Int->List Int->Bool
 |[],[]=>false
 |[],_ :: _=>true
 |_ :: _,[]=>false
 |x :: xs,y :: ys=>if x=y then rW xs ys else decide (x<y)
def Kj:∀xs:List Int,rW xs xs=false
 |[]=>rfl
 |x :: xs=>by unfold rW;rw[if_pos rfl];exact Kj xs
def NG:∀{xs ys zs:List Int},rW xs ys=true->rW ys zs=true->rW xs zs=true
 |[],[],_,h,_=>by cases h
 |[],_ :: _,[],_,h=>by cases h
 |[],_ :: _,_ :: _,_,_=>rfl
 |_ :: _,[],_,h,_=>by cases h
 |_ :: _,_ :: _,[],_,h=>by cases h
 |x :: xs,y :: ys,z :: zs,h1,h2=>by
  unfold rW at h1 h2 ⊢;by_cases a:x=y;rw[if_pos a]at h1;by_cases b:y=z;rw[if_pos b]at h2;rw[if_pos (a.trans b)];exact NG h1 h2;rw[if_neg b]at h2;rw[if_neg (λe=>b (a.symm.trans e))];rw[a];exact h2;rw[if_neg a]at h1;have h1:=of_decide_eq_true h1;by_cases b:y=z;rw[<- b,if_neg a];exact decide_eq_true h1;rw[if_neg b]at h2;have h2:=of_decide_eq_true h2;rw[if_neg ⋯];exact decide_eq_true ⋯
def NH:∀{xs ys:List Int},rW xs ys=false->rW ys xs=false->xs=ys
 |[],[],_,_=>rfl
 |[],_ :: _,h,_=>by cases h
 |_ :: _,[],_,h=>by cases h
 |x :: xs,y :: ys,h1,h2=>by
  unfold rW at h1 h2;by_cases a:x=y;subst a;rw[if_pos rfl]at h1 h2;rw[NH h1 h2];rw[if_neg a]at h1;rw[if_neg (Ne.symm a)]at h2;have h1:=of_decide_eq_false h1;have h2:=of_decide_eq_false h2;lk
@[reducible]def aK:=List Int×List Int
abbrev pk(p q:aK):Bool:=if p.1=q.1 then rW p.2 q.2 else rW p.1 q.1
def RZ(p:aK):pk p p=false:=by unfold pk;rw[if_pos rfl];exact Kj _
def YS(h1:pk p q=true)(h2:pk q r=true):pk p r=true:=by unfold pk at h1 h2 ⊢;by_cases a:p.1=q.1;rw[if_pos a]at h1;by_cases b:q.1=r.1;rw[if_pos b]at h2;rw[if_pos (a.trans b)];exact NG h1 h2;rw[if_neg b]at h2;rw[if_neg (λe=>b (a.symm.trans e)),a];exact h2;rw[if_neg a]at h1;by_cases b:q.1=r.1;rw[<- b,if_neg a];exact h1;rw[if_neg b]at h2;have h:=NG h1 h2;rw[if_neg (λe=>by rw[e,Kj]at h;cases h)];exact h
def YT(h1:pk p q=false)(h2:pk q p=false):p=q:=by unfold pk at h1 h2;by_cases a:p.1=q.1;rw[if_pos a]at h1;rw[if_pos a.symm]at h2;exact Prod.ext a (NH h1 h2);rw[if_neg a]at h1;rw[if_neg (Ne.symm a)]at h2;exact absurd (NH h1 h2) a
abbrev pq:List aK->aK
 |[]=>([],[])
 |p :: l=>l.foldl (λb q=>if pk q b then q else b) p
abbrev Lst(l:List aK)(p:aK):Prop:=p∈l/\∀q∈l,pk q p=false
def Lst.unique(a:Lst l p)(b:Lst m q)(h:∀x,x∈l↔x∈m):p=q:=YT (b.2 p ((h p).mp a.1)) (a.2 q ((h q).mpr b.1))
def Lst.step(h:Lst l b):Lst (l ++ [q]) (if pk q b then q else b):=by
 split
 ·next hq =>
  refine⟨ZaJ _ (List.mem_singleton_self _),λx hx=>?_⟩;rcases Zax.mp hx with hx|hx
  ·cases YU:pk x q with
   |false=>rfl
   |true=>have:=YS YU hq;rw[h.2 x hx]at this;cases this
  ·rw[Zar.mp hx];exact RZ q
 ·next hq =>
  refine⟨Zbr _ h.1,λx hx=>?_⟩;rcases Zax.mp hx with hx|hx
  ·exact h.2 x hx
  ·rw[Zar.mp hx];simpa using hq
def Lst.fold:∀(l pre:List aK) (b:aK),Lst pre b->Lst (pre ++ l) (l.foldl (λb q=>if pk q b then q else b) b)
 |[],pre,b,h=>by rw[Zbs];exact h
 |q :: l,pre,b,h=>by
  have:=Lst.fold l (pre ++ [q]) _ (h.step (q:=q));rw[ZbF]at this;exact this
def NI(h:l≠[]):Lst l (pq l):=by
 cases l with
 |nil=>exact absurd rfl h
 |cons p l=>exact Lst.fold l [p] p ⟨List.mem_singleton_self _,λq hq=>by rw[Zar.mp hq];exact RZ p⟩
def YV(h:∀x,x∈l↔x∈m)(hl:l≠[]):pq l=pq m:=by
 have hm:m≠[]:=λe=>by
  obtain⟨x,hx⟩:=List.exists_mem_of_ne_nil l hl;have:=(h x).mp hx;rw[e]at this;cases this
 exact(NI hl).unique (NI hm) h
end af
namespace af
def yO(n:Nat):Tn n (upto n):=Zca _
def Kk{n:Nat}{s:Int}(s0:0<=s)(s1:s<(n:Int)):app (upto n) s=s:=by unfold app;rw[Zaf,E7 ⋯,Option.getD_some];lk
section
variable {n:Nat}{a b c g x y:List Int}
def tK(ha:Tn n a)(hb:Tn n b)(hc:Tn n c):a7 (a7 a b) c=a7 a (a7 b c):=by refine tI (n:=n) ((ha.a7 hb).a7 hc).length (ha.a7 (hb.a7 hc)).length λs s0 s1=>?_;obtain⟨p0,p1⟩:=ha.app s0 s1;rw[qW s0 (by rw[(ha.a7 hb).length];exact s1),qW s0 (by rw[ha.length];exact s1),qW s0 (by rw[ha.length];exact s1),qW p0 (by rw[hb.length];exact p1)]
def Fh(ha:Tn n a):a7 a (inv a)=upto n:=Yu ha
def NJ(ha:Tn n a):a7 (inv a) a=upto n:=Yv ha
def AW(ha:Tn n a):a7 a (upto n)=a:=by refine tI (n:=n) (ha.a7 (yO n)).length ha.length λs s0 s1=>?_;obtain⟨p0,p1⟩:=ha.app s0 s1;rw[qW s0 (by rw[ha.length];exact s1),Kk p0 p1]
def Kl(ha:Tn n a):a7 (upto n) a=a:=by refine tI (n:=n) ((yO n).a7 ha).length ha.length λs s0 s1=>?_;rw[qW s0 (by rw[(yO n).length];exact s1),Kk s0 s1]
def Km(ha:Tn n a)(hb:Tn n b)(h:a7 a b=upto n):inv a=b:=by
 have e:a7 (inv a) (a7 a b)=b:=by rw[<- tK ha.aB ha hb,NJ ha,Kl hb]
 rw[h,AW ha.aB]at e;exact e
def yP(ha:Tn n a)(hb:Tn n b):inv (a7 a b)=a7 (inv b) (inv a):=by refine Km (ha.a7 hb) (hb.aB.a7 ha.aB) ?_;rw[tK ha hb (hb.aB.a7 ha.aB),<- tK hb hb.aB ha.aB,Fh hb,Kl ha.aB,Fh ha]
def R0(ha:Tn n a)(hb:Tn n b):a7 (a7 a b) (inv b)=a:=by rw[tK ha hb hb.aB,Fh hb,AW ha]
def NK(ha:Tn n a)(hb:Tn n b):a7 (a7 a (inv b)) b=a:=by rw[tK ha hb.aB hb,NJ hb,AW ha]
def YW(ha:Tn n a)(hb:Tn n b):a7 a (a7 (inv a) b)=b:=by rw[<- tK ha ha.aB hb,Fh ha,Kl hb]
def Fi(hx:Tn n x)(i j:Int):a7 (cD x i) (cD x j)=cD x (i+j):=by refine tI (n:=n) ((hx.cD i).a7 (hx.cD j)).length (hx.cD (i+j)).length λs s0 s1=>?_;obtain⟨p0,p1⟩:=hx.pw s0 s1 i;have hl:=hx.length;rw[qW s0 (by rw[Ff,hl];exact s1),sC s0 (by rw[hl];exact s1),sC p0 (by rw[hl];exact p1),sC s0 (by rw[hl];exact s1),hx.pw_add s0 s1,Int.add_comm j i]
def NL(hx:Tn n x):cD x 0=upto n:=by refine tI (n:=n) (hx.cD 0).length (yO n).length λs s0 s1=>?_;rw[sC s0 (by rw[hx.length];exact s1),Kk s0 s1];rfl
def Fj(hx:Tn n x):cD x 1=x:=by refine tI (n:=n) (hx.cD 1).length hx.length λs s0 s1=>?_;rw[sC s0 (by rw[hx.length];exact s1)];rfl
def NM(hx:Tn n x)(k:Int):inv (cD x k)=cD x (-k):=Km (hx.cD k) (hx.cD (-k)) (by rw[Fi hx,Int.add_right_neg,NL hx])
def NN(hx:Tn n x):cD x (-1)=inv x:=by rw[<- NM hx,Fj hx]
def R1(hx:Tn n x)(k:Int):cD (inv x) k=cD x (-k):=by refine tI (n:=n) (hx.aB.cD k).length (hx.cD (-k)).length λs s0 s1=>?_;rw[sC s0 (by rw[hx.aB.length];exact s1),sC s0 (by rw[hx.length];exact s1)];unfold pw;by_cases h:0<=k;rw[if_pos h];by_cases h0:k=0;subst h0;rfl;rw[if_neg ⋯,show -(-k)=k by lk];rw[if_neg h,if_pos ⋯,hx.inv_inv]
def R3(ha:Tn n a)(hb:Tn n b)(hg:Tn n g):a7 (anew a g) (anew b g)=anew (a7 a b) g:=by unfold anew;have hi:=hg.aB;rw[tK (hi.a7 ha) hg ((hi.a7 hb).a7 hg),tK hi hb hg,YW hg (hb.a7 hg),tK hi ha (hb.a7 hg),<- tK ha hb hg,<- tK hi (ha.a7 hb) hg]
def YX(hg:Tn n g):anew (upto n) g=upto n:=by unfold anew;rw[AW hg.aB,NJ hg]
def R4(ha:Tn n a)(hg:Tn n g):inv (anew a g)=anew (inv a) g:=Km (ha.anew hg) (ha.aB.anew hg) (by rw[R3 ha ha.aB hg,Fh ha,YX hg])
def NP(hx:Tn n x)(hg:Tn n g)(i0:0<=i)(i1:i<(n:Int)):∀k,bC (anew x g) (app g i) k=app g (bC x i k)
 |0=>rfl
 |k+1=>by
  obtain⟨p0,p1⟩:=hx.bC i0 i1 k;show app (anew x g) (bC (anew x g) (app g i) k)=app g (app x (bC x i k));rw[NP hx hg i0 i1 k,hx.nA hg p0 p1]
def YY(hx:Tn n x)(hg:Tn n g)(i0:0<=i)(i1:i<(n:Int))(k:Int):pw (anew x g) k (app g i)=app g (pw x k i):=by unfold pw;split;exact NP hx hg i0 i1 _;rw[R4 hx hg];exact NP hx.aB hg i0 i1 _
def YZ(hx:Tn n x)(hg:Tn n g)(k:Int):cD (anew x g) k=anew (cD x k) g:=by refine tI (n:=n) ((hx.anew hg).cD k).length ((hx.cD k).anew hg).length λs s0 s1=>?_;obtain⟨p0,p1⟩:=hg.oM s0 s1;rw[sC s0 (by rw[(hx.anew hg).length];exact s1),(hx.cD k).jM hg s0 s1,sC p0 (by rw[hx.length];exact p1),<- YY hx hg p0 p1,hg.cG s0 s1]
end
abbrev Vf(n:Nat)(p:aK):Prop:=Tn n p.1/\Tn n p.2
abbrev bA(n:Nat)(p q:aK):Prop:=∃g,Tn n g/\q=(anew p.1 g,anew p.2 g)
abbrev Sh(k:Int)(p:aK):aK:=(p.1,shr p.1 p.2 k)
abbrev Qt(p:aK):aK:=(inv p.2,p.1)
section
variable {n:Nat}{p q r:aK}
def Vf.sh(h:Vf n p)(k:Int):Vf n (Sh k p):=⟨h.1,h.1.shr h.2 k⟩
def Vf.qt(h:Vf n p):Vf n (Qt p):=⟨h.2.aB,h.1⟩
def bA.refl(h:Vf n p):bA n p p:=⟨upto n,yO n,by
 have e:∀a:List Int,Tn n a->anew a (upto n)=a:=λa ha=>by
  unfold anew;rw[Km (yO n) (yO n) (AW (yO n)),Kl ha,AW ha]
 rw[e _ h.1,e _ h.2]⟩
def bA.symm(h:Vf n p)(a:bA n p q):bA n q p:=by obtain⟨g,hg,rfl⟩:=a;exact⟨inv g,hg.aB,by show p=(anew (anew p.1 g) (inv g),anew (anew p.2 g) (inv g));rw[h.1.n8 hg,h.2.n8 hg]⟩
def bA.trans(h:Vf n p)(a:bA n p q)(b:bA n q r):bA n p r:=by obtain⟨g,hg,rfl⟩:=a;obtain⟨f,hf,rfl⟩:=b;exact⟨a7 g f,hg.a7 hf,by show(anew (anew p.1 g) f,anew (anew p.2 g) f)=_;rw[h.1.n5 hg hf,h.2.n5 hg hf]⟩
def bA.sh(h:Vf n p)(a:bA n p q)(k:Int):bA n (Sh k p) (Sh k q):=by obtain⟨g,hg,rfl⟩:=a;refine⟨g,hg,?_⟩;show(anew p.1 g,a7 (cD (anew p.1 g) (-k)) (anew p.2 g))=(anew p.1 g,anew (a7 (cD p.1 (-k)) p.2) g);rw[YZ h.1 hg,R3 (h.1.cD _) h.2 hg]
def bA.qt(h:Vf n p)(a:bA n p q):bA n (Qt p) (Qt q):=by obtain⟨g,hg,rfl⟩:=a;refine⟨g,hg,?_⟩;show(inv (anew p.2 g),anew p.1 g)=(anew (inv p.2) g,anew p.1 g);rw[R4 h.2 hg]
def wR(h:Vf n p)(j k:Int):Sh k (Sh j p)=Sh (j+k) p:=by show(p.1,shr p.1 (shr p.1 p.2 j) k)=(p.1,shr p.1 p.2 (j+k));rw[h.1.xD h.2]
def qC(h:Vf n p):Sh 0 p=p:=by show(p.1,shr p.1 p.2 0)=p;rw[h.1.vL h.2]
abbrev Q2(p:aK):aK:=(inv p.1,inv p.2)
def Fm(p:aK):Qt (Qt p)=Q2 p:=rfl
def NQ(h:Vf n p):Q2 (Q2 p)=p:=by show(inv (inv p.1),inv (inv p.2))=p;rw[h.1.inv_inv,h.2.inv_inv]
def Vf.q2(h:Vf n p):Vf n (Q2 p):=⟨h.1.aB,h.2.aB⟩
def bA.q2(h:Vf n p)(a:bA n p q):bA n (Q2 p) (Q2 q):=bA.qt h.qt (bA.qt h a)
def yQ(h:Vf n p)(k:Int):bA n (Q2 (Sh k p)) (Sh k (Q2 p)):=by
 have hx:=h.1;have hy:=h.2;refine⟨cD p.1 (-k),hx.cD _,?_⟩;show(inv p.1,a7 (cD (inv p.1) (-k)) (inv p.2))=(anew (inv p.1) (cD p.1 (-k)),anew (inv (a7 (cD p.1 (-k)) p.2)) (cD p.1 (-k)));have e1:anew (inv p.1) (cD p.1 (-k))=inv p.1:=by
  unfold anew;rw[NM hx,<- NN hx,Fi hx,Fi hx]
  congr 1;lk
 have e2:anew (inv (a7 (cD p.1 (-k)) p.2)) (cD p.1 (-k))=a7 (cD (inv p.1) (-k)) (inv p.2):=by
  unfold anew;rw[yP (hx.cD _) hy,R1 hx,NM hx,tK (hx.cD _) (hy.aB.a7 (hx.cD _)) (hx.cD _),tK hy.aB (hx.cD _) (hx.cD _),Fi hx,show - -k + -k=0 by lk,NL hx,AW hy.aB]
 rw[e1,e2]
def Fn(h:Vf n p):bA n (Qt (Sh 1 (Qt p))) (Sh (-1) (Qt (Sh (-1) p))):=by
 have hx:=h.1;have hy:=h.2;have l:Qt (Sh 1 (Qt p))=(a7 (inv p.1) (inv p.2),inv p.2):=by
  show(inv (a7 (cD (inv p.2) (-1)) p.1),inv p.2)=_;rw[R1 hy,show -(-1:Int)=1 by lk,Fj hy,yP hy hx]
 have r:Sh (-1) (Qt (Sh (-1) p))=(a7 (inv p.2) (inv p.1),inv p.2):=by
  show(inv (a7 (cD p.1 (-(-1))) p.2),a7 (cD (inv (a7 (cD p.1 (-(-1))) p.2)) (-(-1))) p.1)=_;have hf:=hx.a7 hy;rw[show -(-1:Int)=1 by lk,Fj hx,Fj hf.aB,yP hx hy,NK hy.aB hx]
 refine⟨p.2,hy,?_⟩;rw[l,r];show(a7 (inv p.2) (inv p.1),inv p.2)=(a7 (a7 (inv p.2) (a7 (inv p.1) (inv p.2))) p.2,a7 (a7 (inv p.2) (inv p.2)) p.2);rw[<- tK hy.aB hx.aB hy.aB,NK (hy.aB.a7 hx.aB) hy,NK hy.aB hy]
def AX(h:Vf n p):bA n (Qt (Sh (-1) (Qt p))) (Q2 (Sh 1 (Qt (Sh 1 p)))):=by
 have hx:=h.1;have hy:=h.2;have hu:=hx.aB.a7 hy;have l:Qt (Sh (-1) (Qt p))=(a7 (inv p.1) p.2,inv p.2):=by
  show(inv (a7 (cD (inv p.2) (-(-1))) p.1),inv p.2)=_;rw[show -(-1:Int)=1 by lk,Fj hy.aB,yP hy.aB hx,hy.inv_inv]
 have r:Q2 (Sh 1 (Qt (Sh 1 p)))=(a7 (inv p.1) p.2,a7 (inv p.1) (a7 (inv p.2) p.1)):=by
  show(inv (inv (a7 (cD p.1 (-1)) p.2)),inv (a7 (cD (inv (a7 (cD p.1 (-1)) p.2)) (-1)) p.1))=_;rw[NN hx,NN hu.aB,hu.inv_inv,yP hu hx,yP hx.aB hy,hx.inv_inv]
 refine⟨a7 (inv p.2) p.1,hy.aB.a7 hx,?_⟩;rw[l,r];show(a7 (inv p.1) p.2,a7 (inv p.1) (a7 (inv p.2) p.1))=(a7 (a7 (inv (a7 (inv p.2) p.1)) (a7 (inv p.1) p.2)) (a7 (inv p.2) p.1),a7 (a7 (inv (a7 (inv p.2) p.1)) (inv p.2)) (a7 (inv p.2) p.1));have eg:inv (a7 (inv p.2) p.1)=a7 (inv p.1) p.2:=by rw[yP hy.aB hx,hy.inv_inv]
 have Y0:a7 (inv p.2) p.1=inv (a7 (inv p.1) p.2):=by rw[yP hx.aB hy,hx.inv_inv]
 rw[eg];have e1:a7 (a7 (a7 (inv p.1) p.2) (a7 (inv p.1) p.2)) (a7 (inv p.2) p.1)=a7 (inv p.1) p.2:=by rw[Y0,R0 hu hu]
 have e2:a7 (a7 (a7 (inv p.1) p.2) (inv p.2)) (a7 (inv p.2) p.1)=a7 (inv p.1) (a7 (inv p.2) p.1):=by rw[R0 hx.aB hy]
 rw[e1,e2]
end
abbrev act:Int->List Int->aK->aK
 |k,[],p=>Sh k p
 |k,j :: ks,p=>act j ks (Qt (Sh k p))
abbrev tS(k:Int):T4:=⟨1,k,0,1⟩
abbrev jZ(k:Int):T4:=⟨0,-1,1,k⟩
abbrev jO:Int->List Int->T4
 |k,[]=>tS k
 |k,j :: ks=>(jO j ks).mul (jZ k)
abbrev mF(e:Bool)(M:T4):T4:=if e then⟨-M.a,-M.b,-M.c,-M.d⟩else M
abbrev qX(e:Bool)(p:aK):aK:=if e then Q2 p else p
def Fp(e f:Bool)(M:T4):mF e (mF f M)=mF (e.xor f) M:=by cases e<;>cases f<;>simp[mF]
def Fq(e:Bool)(M N:T4):(mF e M).mul N=mF e (M.mul N):=by cases e;rfl;unfold mF T4.mul;simp only[if_true];congr 1<;>grind
section
variable {n:Nat}{p q r:aK}
def Vf.act:∀{ks:List Int} {k:Int} {p:aK},Vf n p->Vf n (af.act k ks p)
 |[],k,p,h=>h.sh k
 |j :: ks,k,p,h=>Vf.act (ks:=ks) (h.sh k).qt
def bA.act:∀{ks:List Int} {k:Int} {p q:aK},Vf n p->bA n p q->bA n (af.act k ks p) (af.act k ks q)
 |[],k,p,q,h,a=>bA.sh h a k
 |j :: ks,k,p,q,h,a=>bA.act (ks:=ks) (h.sh k).qt (bA.qt (h.sh k) (bA.sh h a k))
def bA.qX(h:Vf n p)(a:bA n p q)(e:Bool):bA n (af.qX e p) (af.qX e q):=by cases e;exact a;exact bA.q2 h a
def Kn(h:Vf n p)(e f:Bool):qX e (qX f p)=qX (e.xor f) p:=by cases e<;>cases f;rfl;rfl;rfl;exact NQ h
def Fs:∀{ks:List Int} {k:Int} {p:aK},Vf n p->bA n (act k ks (Q2 p)) (Q2 (act k ks p))
 |[],k,p,h=>bA.symm (h.sh k).q2 (yQ h k)
 |j :: ks,k,p,h=>by
  have h1:bA n (Qt (Sh k (Q2 p))) (Qt (Q2 (Sh k p))):=bA.qt (h.q2.sh k) (bA.symm (h.sh k).q2 (yQ h k));have h2:=bA.act (ks:=ks) (k:=j) ((h.q2.sh k).qt) h1;have h3:=Fs (ks:=ks) (k:=j) (h.sh k).qt;exact bA.trans (Vf.act (ks:=j :: ks) (k:=k) h.q2) h2 h3
def Ko(h:Vf n p):act k ks (Sh j p)=act (j+k) ks p:=by
 cases ks with
 |nil=>exact wR h j k
 |cons i ks=>show act i ks (Qt (Sh k (Sh j p)))=act i ks (Qt (Sh (j+k) p));rw[wR h]
def R5(h:Vf n p):act k ks (Qt p)=act 0 (k :: ks) p:=by show _=act k ks (Qt (Sh 0 p));rw[qC h]
def Y1(hj:j=0\/j=1\/j=-1):∃(k':Int) (ks':List Int) (f:Bool),ks'.length<ks.length+2/\jO a (j :: b :: ks)=mF f (jO k' ks')/\∀{n:Nat} {p:aK},Vf n p->bA n (act a (j :: b :: ks) p) (qX f (act k' ks' p)):=by
 rcases hj with rfl|rfl|rfl
 refine⟨a+b,ks,true,by lk,?_,λ{n p} h=>?_⟩;cases ks with
 |nil=>simp[jO,mF,T4.mul,tS,jZ];lk
 |cons i ks =>
  show(((jO i ks).mul (jZ b)).mul (jZ 0)).mul (jZ a)=mF true ((jO i ks).mul (jZ (a+b)));rw[T4.assoc,T4.assoc];have:(jZ b).mul ((jZ 0).mul (jZ a))=mF true (jZ (a+b)):=by simp[mF,T4.mul,jZ];lk
  rw[this];unfold mF T4.mul;simp only[if_true];congr 1<;>grind
 show bA n (act b ks (Qt (Sh 0 (Qt (Sh a p))))) (Q2 (act (a+b) ks p));rw[qC (h.sh a).qt,Fm,<- Ko h];exact Fs (h.sh a);refine⟨a-1,(b-1) :: ks,false,by simp,?_,λ{n p} h=>?_⟩;cases ks with
 |nil=>simp[jO,mF,T4.mul,tS,jZ];refine⟨?_,?_⟩<;>grind
 |cons i ks =>
  show(((jO i ks).mul (jZ b)).mul (jZ 1)).mul (jZ a)=((jO i ks).mul (jZ (b-1))).mul (jZ (a-1));rw[T4.assoc,T4.assoc,T4.assoc];have:(jZ b).mul ((jZ 1).mul (jZ a))=(jZ (b-1)).mul (jZ (a-1)):=by simp[T4.mul,jZ];refine⟨?_,?_,?_⟩<;>grind
  rw[this]
 show bA n (act b ks (Qt (Sh 1 (Qt (Sh a p))))) (act (b-1) ks (Qt (Sh (a-1) p)));have h1:=bA.act (ks:=ks) (k:=b) ((h.sh a).qt.sh 1).qt (Fn (h.sh a));rw[Ko ((h.sh a).sh (-1)).qt,wR h,show -1+b=b-1 by lk,show a + -1=a-1 by lk]at h1;exact h1;refine⟨a+1,(b+1) :: ks,true,by simp,?_,λ{n p} h=>?_⟩;cases ks with
 |nil=>simp[jO,mF,T4.mul,tS,jZ];refine⟨?_,?_⟩<;>grind
 |cons i ks =>
  show(((jO i ks).mul (jZ b)).mul (jZ (-1))).mul (jZ a)=mF true (((jO i ks).mul (jZ (b+1))).mul (jZ (a+1)));rw[T4.assoc,T4.assoc,T4.assoc];have:(jZ b).mul ((jZ (-1)).mul (jZ a))=mF true ((jZ (b+1)).mul (jZ (a+1))):=by simp[mF,T4.mul,jZ];refine⟨?_,?_,?_⟩<;>grind
  rw[this];unfold mF T4.mul;simp only[if_true];congr 1<;>grind
 show bA n (act b ks (Qt (Sh (-1) (Qt (Sh a p))))) (Q2 (act (b+1) ks (Qt (Sh (a+1) p))));have h1:=bA.act (ks:=ks) (k:=b) ((h.sh a).qt.sh (-1)).qt (AX (h.sh a));have h2:=Fs (ks:=ks) (k:=b) (((h.sh a).sh 1).qt.sh 1);rw[Ko ((h.sh a).sh 1).qt,wR h,show 1+b=b+1 by lk]at h2;have h3:=bA.trans (Vf.act (ks:=ks) (k:=b) ((h.sh a).qt.sh (-1)).qt) h1 (by rw[wR h]at *;exact h2);exact h3
abbrev big:List Int->Prop
 |[]=>True
 |[_]=>True
 |j :: b :: ks=>(2<=j\/j<=-2)/\big (b :: ks)
def R6:∀(ks:List Int) (k:Int),big ks\/∃(k':Int) (ks':List Int) (f:Bool),ks'.length<ks.length/\jO k ks=mF f (jO k' ks')/\∀{n:Nat} {p:aK},Vf n p->bA n (act k ks p) (qX f (act k' ks' p))
 |[],_=>.inl trivial
 |[_],_=>.inl trivial
 |j :: b :: ks,k=>by
  by_cases hj:j=0\/j=1\/j=-1;obtain⟨k',ks',f,hl,hm,ha⟩:=Y1 (a:=k) (b:=b) (ks:=ks) hj;exact .inr ⟨k',ks',f,by simpa using hl,hm,ha⟩;rcases R6 (b :: ks) j with h|⟨k',ks',f,hl,hm,ha⟩
  exact .inl ⟨by lk,h⟩;refine .inr ⟨k,k' :: ks',f,by simpa using hl,?_,λ{n p} h=>?_⟩;show(jO j (b :: ks)).mul (jZ k)=mF f ((jO k' ks').mul (jZ k));rw[hm,Fq];exact ha (h.sh k).qt
def R7:∀(ks:List Int) (k:Int),big ks->(ks=[]\/2<=k\/k<=-2)->(jO k ks).c.natAbs<(jO k ks).d.natAbs
 |[],k,_,_=>by show(0:Int).natAbs<(1:Int).natAbs;decide
 |j :: ks,k,h,hk=>by
  have hk:2<=k\/k<=-2:=by rcases hk with hk|hk;cases hk;exact hk
  have hj:ks=[]\/2<=j\/j<=-2:=by
   cases ks with
   |nil=>exact .inl rfl
   |cons b ks=>exact .inr h.1
  have hb:big ks:=by
   cases ks with
   |nil=>trivial
   |cons b ks=>exact h.2
  have ih:=R7 ks j hb hj;show((jO j ks).c*0+(jO j ks).d*1).natAbs<((jO j ks).c * -1+(jO j ks).d*k).natAbs;generalize (jO j ks).c=c at ih;generalize (jO j ks).d=d at ih;rw[Int.mul_zero,ZbC,Int.mul_one];have e:(d*k).natAbs=d.natAbs*k.natAbs:=Za2 d k;have e2:d.natAbs*2<=d.natAbs*k.natAbs:=Nat.mul_le_mul_left _ ⋯;lk
def Ft(h:big ks)(hn:ks≠[]):(jO k ks).c≠0:=by
 cases ks with
 |nil=>exact absurd rfl hn
 |cons j ks =>
  have hj:ks=[]\/2<=j\/j<=-2:=by
   cases ks with
   |nil=>exact .inl rfl
   |cons b ks=>exact .inr h.1
  have hb:big ks:=by
   cases ks with
   |nil=>trivial
   |cons b ks=>exact h.2
  have ih:=R7 ks j hb hj;show(jO j ks).c*0+(jO j ks).d*1≠0;lk
def NR:∀(m:Nat) (ks:List Int) (k:Int),ks.length<=m->∀(e:Bool),jO k ks=mF e T4.one->∀{n:Nat} {p:aK},Vf n p->bA n (act k ks p) (qX e p):=by
 intro m
 induction m with
 |zero =>
  intro ks k hl e hm n p h;have:ks=[]:=Za4 ⋯;subst this;have hm:(⟨1,k,0,1⟩:T4)=mF e T4.one:=hm;cases e with
  |false =>
   have hk:k=0:=congrArg T4.b hm;subst hk;show bA n (Sh 0 p) p;rw[qC h];exact bA.refl h
  |true=>exact absurd (congrArg T4.a hm) (show ¬(1:Int)=-1 by decide)
 |succ m ih =>
  intro ks k hl e hm n p h;by_cases hn:ks=[];subst hn;exact ih [] k (ZaK _) e hm h;rcases R6 ks k with hb|⟨k',ks',f,hl',hm',ha⟩
  have:=Ft (k:=k) hb hn
  rw[hm]at this;exact absurd (by cases e<;>rfl) this;have hm2:jO k' ks'=mF (f.xor e) T4.one:=by
   have:mF f (jO k ks)=jO k' ks':=by rw[hm',Fp,ZcE];rfl
   rw[<- this,hm,Fp]
  have h1:=ih ks' k' ⋯ (f.xor e) hm2 h;have h2:=bA.trans h.act (ha h) (bA.qX h.act h1 f);rw[Kn h,<- Bool.xor_assoc,ZcE,Bool.false_xor]at h2;exact h2
end
abbrev pR:Nat->aK->aK
 |0,p=>p
 |j+1,p=>Qt (pR j p)
abbrev stM(p:aK)(s:Sp):aK:=if s.1=true then Sh s.2 p else pR s.2.toNat p
abbrev eo(p:aK)(w:List Sp):aK:=w.foldl stM p
section
variable {n:Nat}{p q:aK}
def Vf.pR(h:Vf n p):∀j,Vf n (af.pR j p)
 |0=>h
 |j+1=>(Vf.pR h j).qt
def Vf.st(h:Vf n p)(s:Sp):Vf n (stM p s):=by unfold stM;split;exact h.sh _;exact h.pR _
def Vf.ld:∀{w:List Sp} {p:aK},Vf n p->Vf n (eo p w)
 |[],_,h=>h
 |s :: w,p,h=>Vf.ld (w:=w) (h.st s)
def bA.pR(h:Vf n p)(a:bA n p q):∀j,bA n (af.pR j p) (af.pR j q)
 |0=>a
 |j+1=>bA.qt (h.pR j) (bA.pR h a j)
def bA.st(h:Vf n p)(a:bA n p q)(s:Sp):bA n (stM p s) (stM q s):=by unfold stM;split;exact bA.sh h a _;exact bA.pR h a _
def bA.ld:∀{w:List Sp} {p q:aK},Vf n p->bA n p q->bA n (eo p w) (eo q w)
 |[],_,_,_,a=>a
 |s :: w,p,q,h,a=>bA.ld (w:=w) (h.st s) (bA.st h a s)
def AY(p:aK)(u v:List Sp):eo p (u ++ v)=eo (eo p u) v:=by unfold eo;rw[Za5]
end
def NS(s:Sp)(w:List Sp):av (s :: w)=(av w).mul (fJ s):=by have:=rF [s] w;rw[show av [s]=(fJ s).mul T4.one from rfl,T4.mul_one]at this;exact this
def R8(e:Bool)(M N:T4):M.mul (mF e N)=mF e (M.mul N):=by cases e;rfl;unfold mF T4.mul;simp only[if_true];congr 1<;>grind
def AZ(ks:List Int)(j k:Int):(jO k ks).mul (tS j)=jO (j+k) ks:=by
 cases ks with
 |nil=>simp[jO,T4.mul,tS]
 |cons i ks =>
  show((jO i ks).mul (jZ k)).mul (tS j)=(jO i ks).mul (jZ (j+k));rw[T4.assoc]
  congr 1
  simp[T4.mul,jZ,tS]
def A0(ks:List Int)(k:Int):(jO k ks).mul T4.qt=jO 0 (k :: ks):=rfl
def R9:∀{w:List Sp},(∀s∈w,bQ s)->∃(k:Int) (ks:List Int) (f:Bool),av w=mF f (jO k ks)/\∀{n:Nat} {p:aK},Vf n p->bA n (eo p w) (qX f (act k ks p))
 |[],_=>⟨0,[],false,rfl,λ{n p} h=>by show bA n p (Sh 0 p);rw[qC h];exact bA.refl h⟩
 |s :: w,hw=>by
  obtain⟨k,ks,f,hm,ha⟩:=R9 (w:=w) λx hx=>hw x (Zak _ hx);have hs:=hw s Zah;obtain⟨b,j⟩:=s;rw[NS,hm];cases b with
  |true =>
   refine⟨j+k,ks,f,?_,λ{n p} h=>?_⟩;rw[Fq];congr 1;exact AZ ks j k
   have:=ha (h.sh j)
   rw[Ko h]at this;exact this
  |false =>
   have c:j=1\/j=2\/j=3:=t3 (hs.1 rfl);rcases c with rfl|rfl|rfl
   refine⟨0,k :: ks,f,?_,λ{n p} h=>?_⟩;rw[Fq];congr 1
   have:=ha h.qt
   rw[R5 h]at this;exact this;refine⟨k,ks,!f,?_,λ{n p} h=>?_⟩;rw[Fq,show fJ (false,2)=mF true T4.one from rfl,R8,T4.mul_one,Fp];cases f<;>rfl;have h1:=ha h.q2;have h2:=bA.trans (Vf.ld (w:=w) h.q2) h1 (bA.qX (Vf.act h.q2) (Fs h) f);have e:qX f (Q2 (act k ks p))=qX (!f) (act k ks p):=by
    have:=Kn (p:=act k ks p) h.act f true;rw[Bool.xor_true]at this;exact this
   rw[e]at h2;exact h2;refine⟨0,k :: ks,!f,?_,λ{n p} h=>?_⟩;have e3:fJ (false,3)=mF true T4.qt:=rfl;rw[Fq,e3,R8,Fp,A0];cases f<;>rfl;have h1:=ha (p:=Q2 (Qt p)) h.qt.q2;have h2:=bA.trans (Vf.ld (w:=w) h.qt.q2) h1 (bA.qX (Vf.act h.qt.q2) (Fs h.qt) f);have e:qX f (Q2 (act k ks (Qt p)))=qX (!f) (act 0 (k :: ks) p):=by
    have:=Kn (p:=act k ks (Qt p)) h.qt.act f true;rw[Bool.xor_true]at this;rw[<- R5 h];exact this
   rw[e]at h2;exact h2
def Sb(hw:∀s∈w,bQ s)(h1:av w=T4.one)(h:Vf n p):bA n (eo p w) p:=by
 obtain⟨k,ks,f,hm,ha⟩:=R9 hw;have e:jO k ks=mF f T4.one:=by
  have:mF f (av w)=jO k ks:=by rw[hm,Fp,ZcE];rfl
  rw[<- this,h1]
 have h2:=NR ks.length ks k (Zad _) f e h;have h3:=bA.trans (Vf.ld h) (ha h) (bA.qX h.act h2 f);rw[Kn h,ZcE]at h3;exact h3
def xE(hw:∀s∈w,bQ s):∀s∈dJ w,bQ s:=λs hs=>by
 unfold dJ at hs;obtain⟨t,ht,rfl⟩:=Zaw.mp (ZaM.mp hs);exact Fg (hw t ht)
def Sd(hw:∀s∈w,bQ s):av (w ++ dJ w)=T4.one:=by
 have hp:∀s∈w ++ dJ w,bQ s:=λs hs=>by
  rcases Zax.mp hs with hs|hs
  exact hw s hs;exact xE hw s hs
 rw[<- Ki hp,YI hw];rfl
def yR(hw:∀s∈w,bQ s):(av w).a*(av w).d-(av w).b*(av w).c=1:=by have:=Sd hw;rw[rF,AU hw]at this;have h:=congrArg T4.a this;have h:(av w).d*(av w).a + -(av w).b*(av w).c=1:=h;rw[ZbQ (av w).d,Zbl]at h;lk
def C7{M:T4}(h:M.a*M.d-M.b*M.c=1):M.mul M.og=T4.one/\M.og.mul M=T4.one:=by constructor<;>(apply T4.ext'<;>simp[T4.mul,T4.og,T4.one]<;>grind)
def Se(hu:∀s∈u,bQ s)(hw:∀s∈w,bQ s)(e:av u=av w)(h:Vf n p):bA n (eo p u) (eo p w):=by
 have hb:=xE hw
 have h1:bA n (eo p (u ++ dJ w)) p:=Sb (λs hs=>by
  rcases Zax.mp hs with hs|hs
  exact hu s hs
  exact hb s hs) (by rw[rF,e,<- rF];exact Sd hw) h
 rw[AY]at h1;have h2:=bA.ld (w:=w) (Vf.ld (Vf.ld h)) h1;rw[<- AY]at h2
 have h3:bA n (eo (eo p u) (dJ w ++ w)) (eo p u):=Sb (λs hs=>by
  rcases Zax.mp hs with hs|hs
  exact hb s hs
  exact hw s hs) (by rw[rF,AU hw];exact(C7 (yR hw)).1) (Vf.ld h)
 exact bA.trans (Vf.ld h) (bA.symm (Vf.ld (Vf.ld h)) h3) h2
abbrev sD(p:aK)(n:Nat)(s:Int):aK:=(num p.1 (bf p.1 p.2 s n),num p.2 (bf p.1 p.2 s n))
abbrev aY(n:Nat)(p:aK):aK:=pq ((upto n).map (sD p n))
def uL(n0:0<n)(h:Vf n p)(a:bA n p q):aY n p=aY n q:=by
 obtain⟨g,hg,rfl⟩:=a;have key:∀s:Int,0<=s->s<(n:Int)->sD (anew p.1 g,anew p.2 g) n (app g s)=sD p n s:=λs s0 s1=>by
  show(num (anew p.1 g) (bf (anew p.1 g) (anew p.2 g) (app g s) n),num (anew p.2 g) (bf (anew p.1 g) (anew p.2 g) (app g s) n))=_;have hb:=uo h.1 h.2 s0 s1 n;rw[ND h.1 h.2 hg s0 s1 n,RU h.1 hg hb,RU h.2 hg hb];rfl
 refine YV (λx=>?_) (λe=>?_);constructor;intro hx;obtain⟨s,hs,rfl⟩:=Zaw.mp hx;obtain⟨s0,s1⟩:=oS.mp hs;exact Zaw.mpr ⟨app g s,oS.mpr (hg.app s0 s1),key s s0 s1⟩;intro hx;obtain⟨t,ht,rfl⟩:=Zaw.mp hx;obtain⟨t0,t1⟩:=oS.mp ht;obtain⟨p0,p1⟩:=hg.oM t0 t1;refine Zaw.mpr ⟨app (inv g) t,oS.mpr ⟨p0,p1⟩,?_⟩;have:=key (app (inv g) t) p0 p1;rw[hg.cG t0 t1]at this;exact this.symm
 have:=congrArg List.length e
 rw[Zaa,rD]at this;simp at this;lk
end af
namespace af
section
variable {n:Nat}{p q:aK}{g h:List Int}{s t:Int}
structure Wh(n:Nat)(p:aK):Prop where
 v:Vf n p
 all:∀x:Int,0<=x->x<(n:Int)->kZ p.1 p.2 x
def Wh.bf(w:Wh n p)(s0:0<=s)(s1:s<(n:Int)):Tn n (bf p.1 p.2 s n):=Kf w.v.1 w.v.2 s0 s1 w.all
def Sf(xs ys:List Int)(s:Int)(n:Nat):app (bf xs ys s n) 0=s:=by have:=AK xs ys s 0 n;rw[ZbA]at this;obtain⟨t,e⟩:=this;rw[<- e];rfl
abbrev gF(p q:aK)(n:Nat)(s t:Int):List Int:=a7 (inv (bf p.1 p.2 s n)) (bf q.1 q.2 t n)
abbrev Cg(n:Nat)(p q:aK)(g:List Int):Prop:=Tn n g/\q=(anew p.1 g,anew p.2 g)
def Fu(wp:Wh n p)(wq:Wh n q)(s0:0<=s)(s1:s<(n:Int))(t0:0<=t)(t1:t<(n:Int))(e:sD p n s=sD q n t):Cg n p q (gF p q n s t)/\app (gF p q n s t) s=t:=by
 have tb:=wp.bf s0 s1;have tc:=wq.bf t0 t1;have n0:0<n:=by lk
 refine⟨⟨tb.aB.a7 tc,?_⟩,?_⟩;unfold sD at e;have e1:=congrArg Prod.fst e;have e2:=congrArg Prod.snd e;simp only at e1 e2;rw[<- yL wp.v.1 tb,<- yL wq.v.1 tc]at e1;rw[<- yL wp.v.2 tb,<- yL wq.v.2 tc]at e2;have go:∀{a b:List Int},Tn n a->Tn n b->anew a (inv (bf p.1 p.2 s n))=anew b (inv (bf q.1 q.2 t n))->b=anew a (gF p q n s t):=λ{a b} ta tb' e=>by
  unfold gF;rw[<- Tn.n5 ta tb.aB tc,e];have:=Tn.n8 tb' tc.aB;rw[tc.inv_inv]at this;exact this.symm
 exact Prod.ext (go wp.v.1 wq.v.1 e1) (go wp.v.2 wq.v.2 e2);unfold gF;rw[qW s0 (by rw[E6,tb.length];exact s1)];have:app (inv (bf p.1 p.2 s n)) s=0:=by
  have:=tb.g8 (i:=0) ∅ ⋯;rw[Sf]at this;exact this
 rw[this,Sf]
def Kq(xs ys:List Int):∀k,∀y∈bf xs ys 0 k,kZ xs ys y
 |0,y,hy=>by rw[Zar.mp (show y∈[(0:Int)]from hy)];exact .zero
 |k+1,y,hy=>by
  have hy':y∈(match (bf xs ys 0 k)[k]? with|some x=>visit xs ys (bf xs ys 0 k) x|none=>bf xs ys 0 k):=hy;split at hy'
  ·next z hz =>
   have yS:=Kq xs ys k z (Zai hz);rcases tJ.mp hy' with hy'|rfl
   ·rcases tJ.mp hy' with hy'|rfl
    ·exact Kq xs ys k y hy'
    ·exact yS.r
   ·exact yS.u
  ·exact Kq xs ys k y hy'
def yT(w:Wh n p)(v:Vf n q)(n0:0<n)(h:∀F:List Int,F.Nodup->(∀x∈F,0<=x/\x<(n:Int))->Cl q.1 q.2 F->Cl p.1 p.2 F):Wh n q:=by refine⟨v,λx x0 x1=>Kq q.1 q.2 n x ?_⟩;have c:=h (bf q.1 q.2 0 n) (AL _ _ _ _) (uo v.1 v.2 ∅ ⋯ n) (NC v.1 v.2 ∅ ⋯);refine c.all ?_ (w.all x x0 x1);have:=AK q.1 q.2 0 0 n;rw[ZbA]at this;exact this.subset (show(0:Int)∈[(0:Int)] by simp)
def Sg{zs F:List Int}(hz:Tn n zs)(nd:F.Nodup)(hb:∀x∈F,0<=x/\x<(n:Int))(hc:∀x∈F,app zs x∈F):∀x∈F,app (inv zs) x∈F:=λx hx=>by
 obtain⟨x0,x1⟩:=hb x hx;obtain⟨a0,a1⟩:=hz.oM x0 x1;exact Fe hz nd hb hc a0 a1 (by rw[hz.cG x0 x1];exact hx)
def NT{zs F:List Int}(hc:∀x∈F,app zs x∈F){x:Int}(hx:x∈F):∀k,bC zs x k∈F
 |0=>hx
 |k+1=>hc _ (NT hc hx k)
def Fv{zs F:List Int}(hz:Tn n zs)(nd:F.Nodup)(hb:∀x∈F,0<=x/\x<(n:Int))(hc:∀x∈F,app zs x∈F)(k:Int){x:Int}(hx:x∈F):pw zs k x∈F:=by unfold pw;split;exact NT hc hx _;exact NT (Sg hz nd hb hc) hx _
def Wh.sh(w:Wh n p)(n0:0<n)(k:Int):Wh n (Sh k p):=by
 refine yT w (w.v.sh k) n0 λF nd hb hc x hx=>⟨(hc x hx).1,?_⟩;obtain⟨x0,x1⟩:=hb x hx;have h1:∀x∈F,app p.1 x∈F:=λx hx=>(hc x hx).1;have hy:=Fv w.v.1 nd hb h1 k hx;have:=(hc _ hy).2;obtain⟨y0,y1⟩:=hb _ hy;have e:app (Sh k p).2 (pw p.1 k x)=app p.2 x:=by
  show app (shr p.1 p.2 k) (pw p.1 k x)=_;unfold shr;have hlen:(cD p.1 (-k)).length=n:=(w.v.1.cD (-k)).length;rw[qW y0 (by rw[hlen];exact y1)]
  congr 1
  have e3:=Fi w.v.1 k (-k);rw[Int.add_right_neg,NL w.v.1]at e3;have e4:app (a7 (cD p.1 k) (cD p.1 (-k))) x=app (upto n) x:=by rw[e3]
  rw[Kk x0 x1,qW x0 (by rw[(w.v.1.cD k).length];exact x1)]at e4;have e5:app (cD p.1 k) x=pw p.1 k x:=sC x0 (by rw[w.v.1.length];exact x1);rw[e5]at e4;exact e4
 rw[e]at this;exact this
def Wh.qt(w:Wh n p)(n0:0<n):Wh n (Qt p):=by refine yT w w.v.qt n0 λF nd hb hc x hx=>⟨(hc x hx).2,?_⟩;have:=Sg w.v.2.aB nd hb (λx hx=>(hc x hx).1) x hx;rw[w.v.2.inv_inv]at this;exact this
abbrev Od(xs ys F:List Int):Prop:=F[0]?=some 0/\∀(k:Nat) (y:Int),F[k+1]?=some y->∃(j:Nat) (x:Int),j<=k/\F[j]?=some x/\(y=app xs x\/y=app ys x)
def Od.one(xs ys:List Int):Od xs ys [0]:=⟨rfl,λk y h=>by cases h⟩
def Od.snoc(h:Od xs ys F)(hx:x∈F)(hy:y=app xs x\/y=app ys x):Od xs ys (F ++ [y]):=by
 have hl:0<F.length:=List.length_pos_of_mem hx;refine⟨by rw[Zan hl];exact h.1,λk z hz=>?_⟩;by_cases hk:k+1<F.length;rw[Zan hk]at hz;obtain⟨j,x',hj,hx',e⟩:=h.2 k z hz;exact⟨j,x',hj,by rw[Zan ⋯];exact hx',e⟩;rw[Zav ⋯]at hz;have hz:z=y:=by
  cases h3:k+1-F.length with
  |zero=>rw[h3]at hz;cases hz;rfl
  |succ m=>rw[h3]at hz;cases hz
 obtain⟨j,hj,e⟩:=Zbo hx;have pW:k+1=F.length\/F.length<k+1:=by lk
 refine⟨j,x,by lk,by rw[Zan hj,Zac hj,e],by rw[hz];exact hy⟩
structure Fo(xs ys F:List Int):Prop extends Fd xs ys F where
 od:Od xs ys F
def Fo.one(xs ys:List Int):Fo xs ys [0]:=⟨Fd.one xs ys,Od.one xs ys⟩
end
end af
namespace af
section
variable {n:Nat}{xs ys r r' r2:List Int}{i j x y:Int}
abbrev Sm(xs ys r:List Int):Prop:=∀s∈r,app ys (app xs s)=app xs (app ys s)
instance:Decidable (Sm xs ys r):=inferInstanceAs (Decidable (∀s∈r,app ys (app xs s)=app xs (app ys s)))
end
end af
namespace af
section
variable {n:Nat}{p q:aK}{g:List Int}
def Wh.pR(w:Wh n p)(n0:0<n):∀j,Wh n (af.pR j p)
 |0=>w
 |j+1=>(w.pR n0 j).qt n0
def Wh.st(w:Wh n p)(n0:0<n)(s:Sp):Wh n (stM p s):=by unfold stM;split;exact w.sh n0 _;exact w.pR n0 _
def Wh.ld(n0:0<n):∀{w:List Sp} {p:aK},Wh n p->Wh n (eo p w)
 |[],_,h=>h
 |s :: w,_,h=>Wh.ld n0 (w:=w) (h.st n0 s)
end
end af
namespace af
end af
namespace af
abbrev nr(x y:Int):Int:=(2*x+y).fdiv (2*y)
def Y2(a b:Int)(hb:b≠0):(0<b->0<=a-b*a.fdiv b/\a-b*a.fdiv b<b)/\(b<0->b<a-b*a.fdiv b/\a-b*a.fdiv b<=0):=by
 have h1:=Int.mul_ediv_add_emod a b;have h2:=Zbf a hb;have h3:=Int.emod_lt a hb;rw[Int.fdiv_eq_ediv];constructor;intro h;rw[if_pos (.inl ⋯),Int.sub_zero];have:b.natAbs=b.toNat:=by lk
 constructor<;>lk;intro h;by_cases hd:b ∣ a;rw[if_pos (.inr hd),Int.sub_zero]
 have:a % b=0:=Int.emod_eq_zero_of_dvd hd;constructor<;>lk
 rw[if_neg (by rintro(z|z);lk;exact hd z),Int.mul_sub];have hne:a % b≠0:=λz=>hd (Int.dvd_of_emod_eq_zero z);constructor<;>lk
def Kr(hy:y≠0):2*(x-nr x y*y).natAbs<=y.natAbs:=by
 obtain⟨h1,h2⟩:=Y2 (2*x+y) (2*y) ⋯;have e:2*x+y-2*y*(2*x+y).fdiv (2*y)=2*(x-nr x y*y)+y:=by
  unfold nr;rw[Int.mul_sub,ZbQ ((2*x+y).fdiv (2*y)) y,ZbE];lk
 rw[e]at h1 h2;rcases(show 0<y\/y<0 by lk)with h|h
 have:=h1 ⋯;lk
 have:=h2 ⋯;lk
def Sj(hy:y≠0):(nr x y).natAbs<=x.natAbs+1:=by
 have h:=Kr (x:=x) hy;have h1:(nr x y*y).natAbs<=x.natAbs+(x-nr x y*y).natAbs:=by lk
 rw[Za2]at h1;have hy1:1<=y.natAbs:=by lk
 by_cases hq:(nr x y).natAbs<=x.natAbs+1;exact hq;exfalso;have h2:(x.natAbs+2)*y.natAbs<=(nr x y).natAbs*y.natAbs:=ZbI _ ⋯;have h3:(x.natAbs+2)*y.natAbs=x.natAbs*y.natAbs+2*y.natAbs:=Nat.add_mul _ _ _;have h4:x.natAbs<=x.natAbs*y.natAbs:=Zck _ hy1;lk
abbrev rX(k:Int):List Sp:=if k=0 then[]else[(true,k)]
def Fw:∀s∈rX k,bQ s/\s.2=k:=λs hs=>by
 unfold rX at hs;split at hs
 ·cases hs
 ·next h =>
  rw[Zar.mp hs];exact⟨⟨(λz=>by cases z),h⟩,rfl⟩
def NU(k:Int):av (rX k)=⟨1,k,0,1⟩:=by
 unfold rX;split
 ·next h=>rw[h];rfl
 ·show(fJ (true,k)).mul T4.one=_
  rw[T4.mul_one];rfl
def Fx(k:Int):(rX k).length<=1:=by unfold rX;split<;>simp
abbrev rY(x y:Int):List Sp:=rX (-(nr x y)) ++ [(false,1)]
def Ks(x y:Int):av (rY x y)=⟨0,-1,1,-(nr x y)⟩:=by unfold rY;rw[uq,NU];apply T4.ext'<;>simp[T4.mul,fJ,qp,T4.qt,T4.one]
def Sk(hy:y≠0):∀s∈rY x y,bQ s/\s.2.natAbs<=x.natAbs+1:=λs hs=>by
 have h:=Sj (x:=x) hy;rcases Zax.mp hs with hs|hs
 obtain⟨h1,h2⟩:=Fw s hs;exact⟨h1,by rw[h2];lk⟩;rw[Zar.mp hs];exact⟨⟨λ_=>⟨by decide,by decide⟩,by decide⟩,by show 1<=_;lk⟩
def NV(x y:Int):(rY x y).length<=2:=by unfold rY;rw[Zae];have:=Fx (-(nr x y));simp;lk
structure Dv(M:Nat)(x y:Int)(g:List Sp)(u v:Int)(r:Nat):Prop where
 pr:∀s∈g,bQ s/\s.2.natAbs<=M+1
 ln:g.length<=2*r
 ua:u=(av g).a*x+(av g).b*y
 vc:v=(av g).c*x+(av g).d*y
 ub:u.natAbs<=M
 vb:v.natAbs*2 ^ r<=M
def Dv.zero(hx:x.natAbs<=M)(hy:y.natAbs<=M):Dv M x y [] x y 0 :=
 ⟨(λs hs=>nomatch hs),Zad _,by show x=1*x+0*y;lk,by show y=0*x+1*y;lk,hx,by lk⟩
def Dv.step(h:Dv M x y g u v r)(hv:v≠0):Dv M x y (g ++ rY u v) (-v) (u-nr u v*v) (r+1):=by
 have hl:=Kr (x:=u) hv;have hlen:=NV u v;have h2:1<=2 ^ r:=Nat.one_le_two_pow;have vM:v.natAbs<=M:=Zaq (Zck _ h2) h.vb;have e:av (g ++ rY u v)=⟨-(av g).c,-(av g).d,(av g).a-nr u v*(av g).c,(av g).b-nr u v*(av g).d⟩:=by
  rw[rF,Ks];apply T4.ext'<;>simp[T4.mul,Zbl]<;>lk
 refine⟨λs hs=>?_,by rw[Zae];have:=h.ln;lk,?_,?_,by lk,?_⟩;rcases Zax.mp hs with hs|hs
 exact h.pr s hs;obtain⟨h1,h3⟩:=Sk hv s hs;exact⟨h1,by have:=h.ub;lk⟩;rw[e];show -v=-(av g).c*x + -(av g).d*y;rw[h.vc,Zbl,Zbl];lk;rw[e];show u-nr u v*v=((av g).a-nr u v*(av g).c)*x+((av g).b-nr u v*(av g).d)*y;generalize hq:nr u v=q;rw[h.ua,h.vc,Int.sub_mul,Int.sub_mul,Int.mul_add,ZbE,ZbE];lk
 have:=h.vb
 have h3:(u-nr u v*v).natAbs*2 ^ (r+1)=2*(u-nr u v*v).natAbs*2 ^ r:=by rw[Nat.pow_succ,Zci (2 ^ r) 2,<- ZcD,Zci _ 2]
 rw[h3];exact Zaq (ZbI _ hl) this
def Dv.few(h:Dv M x y g u v r)(hv:v≠0)(hM:M<2 ^ k):r<k:=by have h1:2 ^ r<=M:=Zaq (Nat.le_mul_of_pos_left _ ⋯) h.vb;exact(Nat.pow_lt_pow_iff_right ∅).mp (Za9 h1 hM)
abbrev pz(A:T4):List Sp:=if A.a=1 then rX A.b else(false,2) :: rX (-A.b)
def Sl(h:a*d=1):(a=1/\d=1)\/(a=-1/\d=-1):=by
 have h1:=congrArg Int.natAbs h;rw[Za2]at h1;have h2:a.natAbs=1:=Nat.eq_one_of_dvd_one ⟨_,h1.symm⟩;rcases(show a=1\/a=-1 by lk)with rfl|rfl
 exact .inl ⟨rfl,by lk⟩;exact .inr ⟨rfl,by lk⟩
def Y3(hc:A.c=0)(hd:A.a*A.d-A.b*A.c=1):av (pz A)=A:=by
 have h1:A.a*A.d=1:=by rw[hc,Int.mul_zero]at hd;lk
 unfold pz;rcases Sl h1 with⟨e1,e2⟩|⟨e1,e2⟩
 rw[if_pos e1,NU];exact T4.ext' e1.symm rfl hc.symm e2.symm;rw[if_neg (by rw[e1];decide),NS,NU];apply T4.ext';simp[T4.mul,fJ,qp,T4.qt,T4.one,e1];simp[T4.mul,fJ,qp,T4.qt,T4.one];simp[T4.mul,fJ,qp,T4.qt,T4.one,hc];simp[T4.mul,fJ,qp,T4.qt,T4.one,e2]
def NW(A:T4):∀s∈pz A,bQ s:=λs hs=>by
 unfold pz at hs;split at hs;exact(Fw s hs).1;rcases ZaE.mp hs with rfl|hs
 exact⟨λ_=>⟨by decide,by decide⟩,by decide⟩;exact(Fw s hs).1
def Sn(A:T4):(pz A).length<=2:=by
 unfold pz;split
 have:=Fx A.b;lk
 have:=Fx (-A.b);simp;lk
def Sq(A B:T4):(A.mul B).a*(A.mul B).d-(A.mul B).b*(A.mul B).c=(A.a*A.d-A.b*A.c)*(B.a*B.d-B.b*B.c):=by
 simp only[T4.mul]
 grind
def Y4(hd:T.a*T.d-T.b*T.c=1)(hg:∀s∈g,bQ s)(h0:(av g).c*T.a+(av g).d*T.c=0):av (gW (pz ((av g).mul T) ++ dJ g)).reverse=T/\∀s∈(gW (pz ((av g).mul T) ++ dJ g)).reverse,bQ s:=by
 have Y5:((av g).mul T).a*((av g).mul T).d-((av g).mul T).b*((av g).mul T).c=1:=by rw[Sq,yR hg,hd];rfl
 have Y6:((av g).mul T).c=0:=h0;have pr:∀s∈pz ((av g).mul T) ++ dJ g,bQ s:=λs hs=>by
  rcases Zax.mp hs with hs|hs
  exact NW _ s hs;exact xE hg s hs
 refine⟨?_,λs hs=>(RW pr).pr s (ZaM.mp hs)⟩;rw[Ki pr,rF,Y3 Y6 Y5,AU hg,<- T4.assoc,(C7 (yR hg)).2,T4.one_mul]
end af
namespace af
def Sr(hv:v≠0)(h:2*v.natAbs<=u.natAbs):2<=(nr u v).natAbs:=by
 have h1:=Kr (x:=u) hv;generalize nr u v=q at *;by_cases c:2<=q.natAbs;exact c;have hq:q=-1\/q=0\/q=1:=by lk
 rcases hq with rfl|rfl|rfl<;>lk
def Fy(ha:A<=max 1 C)(h2:2*C<=Y)(t:Y<=A+W):C<=max 1 W:=by lk
def grow(ha:a.natAbs<=max 1 c.natAbs)(hq:2<=q.natAbs):(-c).natAbs<=max 1 (a-q*c).natAbs:=by
 rw[Zbz];refine Fy ha (ZbI _ hq) ?_;rw[<- Za2];have e:q*c=a-(a-q*c):=by lk
 exact Zaq (Nat.le_of_eq (congrArg Int.natAbs e)) (Int.natAbs_sub_le _ _)
structure Bv(g:List Sp)(u v:Int)(r:Nat):Prop where
 b0:r=0->(av g).c=0/\(av g).d=1
 b1:1<=r->2*v.natAbs<=u.natAbs
 ba:(av g).a.natAbs<=max 1 (av g).c.natAbs
 bb:(av g).b.natAbs<=max 1 (av g).d.natAbs
 dt:(av g).a*(av g).d-(av g).b*(av g).c=1
def Bv.zero(x y:Int):Bv [] x y 0:=⟨λ_=>⟨rfl,rfl⟩,λh=>by lk,by decide,by decide,by decide⟩
def Y7(h:a*d-b*c=1):-c*(b-q*d) - -d*(a-q*c)=1:=by
 rw[Int.mul_sub,Int.mul_sub,Zbl,Zbl,Zbl,Zbl,ZbQ c b,ZbQ d a];have:c*(q*d)=d*(q*c):=by rw[<- ZbE,<- ZbE,ZbQ c q,ZbQ d q,ZbE,ZbE,ZbQ c d]
 lk
def Bv.step(h:Bv g u v r)(hv:v≠0):Bv (g ++ rY u v) (-v) (u-nr u v*v) (r+1):=by
 have e:av (g ++ rY u v)=⟨-(av g).c,-(av g).d,(av g).a-nr u v*(av g).c,(av g).b-nr u v*(av g).d⟩:=by
  rw[rF,Ks];apply T4.ext'<;>simp[T4.mul,Zbl]<;>lk
 have hl:=Kr (x:=u) hv;refine⟨λz=>by lk,λ_=>by lk,?_,?_,?_⟩;rw[e];show(-(av g).c).natAbs<=max 1 ((av g).a-nr u v*(av g).c).natAbs;by_cases hr:r=0;rw[(h.b0 hr).1];simp;exact grow h.ba (Sr hv (h.b1 ⋯));rw[e];show(-(av g).d).natAbs<=max 1 ((av g).b-nr u v*(av g).d).natAbs;by_cases hr:r=0;rw[(h.b0 hr).2];simp;lk;exact grow h.bb (Sr hv (h.b1 ⋯));rw[e];exact Y7 h.dt
end af
namespace af
end af
namespace af
section
variable {n:Nat}{p q:aK}
def Y8(vp:Vf n p)(vq:Vf n q)(k:Int)(a:bA n (Sh k p) (Sh k q)):bA n p q:=by have h:=bA.sh (vp.sh k) a (-k);rw[wR vp,wR vq,Int.add_right_neg,qC vp,qC vq]at h;exact h
def Y9(vp:Vf n p)(vq:Vf n q)(a:bA n (Qt p) (Qt q)):bA n p q:=by have h:=bA.qt vp.qt.qt.qt (bA.qt vp.qt.qt (bA.qt vp.qt a));have ep:Qt (Qt (Qt (Qt p)))=p:=NQ vp;have eq:Qt (Qt (Qt (Qt q)))=q:=NQ vq;rw[ep,eq]at h;exact h
def Ss{fs:List aK}{c:List Int}(f:aK->aK)(nd:fs.Nodup)(hl:c.length=fs.length)
  (hc:∀(k:Nat) (p:aK),fs[k]?=some p->∃j:Nat,c[k]?=some (j:Int)/\fs[j]?=some (f p))
  (hf:∀p∈fs,∀q∈fs,f p=f q->p=q):Tn fs.length c:=by
 have key:∀(k:Nat) (x:Int),c[k]?=some x->∃(p:aK) (j:Nat),fs[k]?=some p/\x=(j:Int)/\fs[j]?=some (f p):=λk x hx=>by
  have hk:k<fs.length:=by
   have:=(Zab.mp hx).1;lk
  have e:fs[k]?=some fs[k]:=Zac hk;obtain⟨j,h1,h2⟩:=hc k _ e;rw[hx]at h1;exact⟨_,j,e,Zao h1,h2⟩
 have nc:c.Nodup:=by
  refine Za3.mpr λi j hi' hj hij e0=>?_;obtain⟨x,hx⟩:∃x,c[j]?=some x:=⟨c[j],Zac hj⟩;have e:c[i]?=some x:=by rw[Zac hi',e0,<- Zac hj];exact hx
  obtain⟨p,a,p1,rfl,p2⟩:=key i x e;obtain⟨q,b,q1,eb,q2⟩:=key j _ hx;have:a=b:=by lk
  subst this;rw[p2]at q2;have e2:=hf p (Zai p1) q (Zai q1) (Zao q2);subst e2;obtain⟨g1,g2⟩:=Zab.mp p1;obtain⟨g3,g4⟩:=Zab.mp q1;exact Za3.mp nd i j g1 g3 hij (by rw[g2,g4])
 have hb:∀x∈c,0<=x/\x<(c.length:Int):=λx hx=>by
  obtain⟨k,hk⟩:=Zbc hx;obtain⟨p,j,_,rfl,h2⟩:=key k x hk;have:=(Zab.mp h2).1;lk
 have:=Kb nc hb;rw[hl]at this;exact this
def NX(p:aK)(n0:0<n):∃s:Int,0<=s/\s<(n:Int)/\aY n p=sD p n s:=by
 have h:=(NI (l:=(upto n).map (sD p n)) (λe=>by
  have:=congrArg List.length e;rw[Zaa,rD]at this;simp at this
  lk)).1
 obtain⟨s,hs,e⟩:=Zaw.mp h;obtain⟨s0,s1⟩:=oS.mp hs;exact⟨s,s0,s1,e.symm⟩
def Sv(wp:Wh n p)(wq:Wh n q)(n0:0<n)(e:aY n p=aY n q):bA n p q:=by obtain⟨s,s0,s1,es⟩:=NX p n0;obtain⟨t,t0,t1,et⟩:=NX q n0;rw[es,et]at e;obtain⟨tg,eq⟩:=(Fu wp wq s0 s1 t0 t1 e).1;exact⟨_,tg,eq⟩
def Sw(n0:0<n)(k:Int)(wp:Wh n p)(wq:Wh n q)(op:aY n p=p)(oq:aY n q=q)(e:aY n (Sh k p)=aY n (Sh k q)):p=q:=by have a:=Y8 wp.v wq.v k (Sv (wp.sh n0 k) (wq.sh n0 k) n0 e);rw[<- op,<- oq];exact uL n0 wp.v a
def A1(n0:0<n)(wp:Wh n p)(wq:Wh n q)(op:aY n p=p)(oq:aY n q=q)(e:aY n (Qt p)=aY n (Qt q)):p=q:=by have a:=Y9 wp.v wq.v (Sv (wp.qt n0) (wq.qt n0) n0 e);rw[<- op,<- oq];exact uL n0 wp.v a
end
end af
namespace L4
open PySem PySem.Spec L2
inductive D where
 |non|bl (b:Bool)|int (i:Int)|str (x:Str)|ty (n:String)|tup (ds:List D)|ref (i:Nat)
instance:Inhabited D:=⟨.non⟩
inductive O where
 |lst (ds:List D)|qd (ds:List D)|dct (kvs:List (Key×D))|Kt (kvs:List (List Int×D))|qY (kvs:List (List Key×D))|exc (c:Str) (fs:List (Str×D))|any|j5 (lo hi:Int)
@[reducible]def Store:=List O
@[reducible]def ai:=List (Option D)
@[reducible]def Dm(J:Type):=Store->Option (J×Store)
inductive Fl where
 |nx (U:ai)|bk (U:ai)|ct (U:ai)|rt (d:D)
mutual
inductive Rp(K:Zfr)(W:List Addr)(H:Hp):V->D->Prop
 |non:Rp K W H .non .non
 |bl (b:Bool):Rp K W H (.bl b) (.bl b)
 |int (i:Int):Rp K W H (.int i) (.int i)
 |str (x:Str):Rp K W H (.str x) (.str x)
 |ty (n:String):Rp K W H (.ty n) (.ty n)
 |ref {a:Addr} {i:Nat}:W[i]?=some a->Rp K W H (.ref a) (.ref i)
 |tup {a:Addr} {vs:List V} {ds:List D}:fV K H a vs->cx K W H vs ds->Rp K W H (.ref a) (.tup ds)
inductive cx(K:Zfr)(W:List Addr)(H:Hp):List V->List D->Prop
 |nil:cx K W H [] []
 |cons {v:V} {vs:List V} {d:D} {ds:List D}:Rp K W H v d->cx K W H vs ds->cx K W H (v :: vs) (d :: ds)
end
structure Mn(K:Zfr)(W:List Addr)(H:Hp)(W':List Addr)(H':Hp):Prop where
 r:∀(i:Nat) (a:Addr),W[i]?=some a->W'[i]?=some a
 t:∀a vs,fV K H a vs->fV K H' a vs
 f:∀a o u,H a=some (.o6 o u)->H' a=some (.o6 o u)
 x:∀a ws,H a=some (.xd ws)->H' a=some (.xd ws)
section
variable {K:Zfr}{W W' W2:List Addr}{H H' H2:Hp}
def Mn.refl:Mn K W H W H:=⟨λ_ _ h=>h,λ_ _ h=>h,λ_ _ _ h=>h,λ_ _ h=>h⟩
def Mn.trans(m:Mn K W H W' H')(n:Mn K W' H' W2 H2):Mn K W H W2 H2:=⟨λi a h=>n.r i a (m.r i a h),λa vs h=>n.t a vs (m.t a vs h),λa o u h=>n.f a o u (m.f a o u h),λa ws h=>n.x a ws (m.x a ws h)⟩
mutual
theorem Rp.mn(m:Mn K W H W' H'):∀{v:V} {d:D},Rp K W H v d->Rp K W' H' v d
 |_,_,.non=>.non
 |_,_,.bl b=>.bl b
 |_,_,.int i=>.int i
 |_,_,.str x=>.str x
 |_,_,.ty n=>.ty n
 |_,_,.ref e=>.ref (m.r _ _ e)
 |_,_,.tup q r=>.tup (m.t _ _ q) (cx.mn m r)
theorem cx.mn(m:Mn K W H W' H'):∀{vs:List V} {ds:List D},cx K W H vs ds->cx K W' H' vs ds
 |_,_,.nil=>.nil
 |_,_,.cons a b=>.cons (Rp.mn m a) (cx.mn m b)
end
def cx.length:∀{vs:List V} {ds:List D},cx K W H vs ds->vs.length=ds.length
 |_,_,.nil=>rfl
 |_,_,.cons _ r=>by rw[ZaD,ZaD,r.length]
def cx.got:∀{vs:List V} {ds:List D},cx K W H vs ds->∀{i:Nat} {d:D},ds[i]?=some d->∃v,vs[i]?=some v/\Rp K W H v d
 |_,_,.nil,i,v,e=>by simp at e
 |_,_,.cons (v:=v) a b,0,d,e=>⟨v,by simp,by have:_=d:=Zao (by simpa using e);rw[<- this];exact a⟩
 |_,_,.cons a b,i+1,d,e=>by
  obtain⟨v,e1,r⟩:=cx.got b (i:=i) (by simpa using e);exact⟨v,by simpa using e1,r⟩
def cx.append:∀{vs:List V} {ds:List D} {ws:List V} {es:List D},cx K W H vs ds->cx K W H ws es->cx K W H (vs ++ ws) (ds ++ es)
 |_,_,_,_,.nil,s=>s
 |_,_,_,_,.cons a b,s=>.cons a (cx.append b s)
def cx.one(r:Rp K W H v d):cx K W H [v] [d]:=.cons r .nil
def cx.take:∀{vs:List V} {ds:List D} (n:Nat),cx K W H vs ds->cx K W H (vs.take n) (ds.take n)
 |_,_,0,_=>.nil
 |_,_,_+1,.nil=>.nil
 |_,_,n+1,.cons r t=>.cons r (cx.take n t)
def cx.drop:∀{vs:List V} {ds:List D} (n:Nat),cx K W H vs ds->cx K W H (vs.drop n) (ds.drop n)
 |_,_,0,r=>r
 |_,_,_+1,.nil=>.nil
 |_,_,n+1,.cons _ t=>cx.drop n t
def cx.set(r:Rp K W H v d):∀{vs:List V} {ds:List D} (i:Nat),cx K W H vs ds->cx K W H (vs.set i v) (ds.set i d)
 |_,_,_,.nil=>.nil
 |_,_,0,.cons _ t=>.cons r t
 |_,_,i+1,.cons q t=>.cons q (cx.set r i t)
def cx.erase:∀{vs:List V} {ds:List D} (i:Nat),cx K W H vs ds->cx K W H (vs.eraseIdx i) (ds.eraseIdx i)
 |_,_,_,.nil=>.nil
 |_,_,0,.cons _ t=>t
 |_,_,i+1,.cons q t=>.cons q (cx.erase i t)
def cx.flat(r:cx K W H vs ds):∀n:Nat,cx K W H (List.replicate n vs).flatten (List.replicate n ds).flatten
 |0=>.nil
 |n+1=>by rw[ZaO,ZaO,Zbm,Zbm];exact r.append (r.flat n)
def cx.ints:∀(ns:List Int),cx K W H (ns.map V.int) (ns.map D.int)
 |[]=>.nil
 |n :: r=>.cons (.int n) (cx.ints r)
end
abbrev Rs(K:Zfr)(W:List Addr)(H:Hp)(G:St)(U:ai):Prop:=G.length=U.length/\∀(i:Nat) (d:D),U[i]?=some (some d)->∃v,G[i]?=some (some v)/\Rp K W H v d
abbrev Rk(K:Zfr)(W:List Addr)(H:Hp):List (Key×V)->List (Key×D)->Prop:=Paired λp q=>p.1=q.1/\Rp K W H p.2 q.2
abbrev Ru(K:Zfr)(W:List Addr)(H:Hp):List (List Int×D)->List (List Int×Addr×Value)->Prop:=Paired λq x=>q.1=x.1/\fV K H x.2.1 (x.1.map V.int)/\∃v,RelV v x.2.2/\Rp K W H v q.2
abbrev Rt(K:Zfr)(W:List Addr)(H:Hp):List (List Key×V)->List (List Key×D)->Prop:=Paired λp q=>p.1=q.1/\Rp K W H p.2 q.2
abbrev Xd(K:Zfr)(W:List Addr)(H:Hp):Option Addr->List (Str×D)->Prop
 |none,fs=>fs=[]
 |some d,fs=>∃ws,H d=some (.xd ws)/\∀f e,fs.lookup f=some e->∃v,ws.lookup f=some v/\Rp K W H v e
abbrev yU(K:Zfr)(W:List Addr)(H:Hp)(a:Addr):O->Prop
 |.lst ds=>∃vs,H a=some (.lst vs)/\cx K W H vs ds
 |.qd ds=>∃vs,EK K H a vs/\cx K W H vs ds
 |.dct kvs=>∃ws,H a=some (.dK ws)/\Rk K W H ws kvs
 |.Kt kvs=>∃xs,H a=some (DU a xs)/\Ru K W H kvs xs
 |.qY kvs=>∃ws,H a=some (.dT ws)/\Rt K W H ws kvs
 |.exc c fs=>∃C dx tr,PySem.W.nsIn K mainGlobals c=some (some (.ref C))/\H a=some (XO a C dx tr)/\Xd K W H dx fs
 |.any=>True
 |.j5 lo hi=>H a=some (.j5 lo hi)
abbrev O.mut:O->Bool
 |.qd _=>false
 |.any=>false
 |_=>true
structure Rl(K:Zfr)(W:List Addr)(H:Hp)(st:Store):Prop where
 len:W.length=st.length
 nd:∀(i j:Nat) (a:Addr) (o o':O),W[i]?=some a->W[j]?=some a->st[i]?=some o->st[j]?=some o'->o.mut=true->o'.mut=true->i=j
 obj:∀(i:Nat) (a:Addr) (o:O),W[i]?=some a->st[i]?=some o->yU K W H a o
section
variable {K:Zfr}{W W' W2:List Addr}{H H' H2:Hp}{st st':Store}{a p:Addr}{i:Nat}{o o':O}{ho:HO}{G:St}{U:ai}
def Rs.mn(h:Rs K W H G U)(m:Mn K W H W' H'):Rs K W' H' G U:=⟨h.1,λi d e=>let ⟨v,e1,r⟩:=h.2 i d e;⟨v,e1,r.mn m⟩⟩
def Rk.mn(m:Mn K W H W' H')(h:Rk K W H ws kvs):Rk K W' H' ws kvs:=by
 induction h with
 |nil=>exact .nil
 |cons a _ ih=>exact .cons ⟨a.1,a.2.mn m⟩ ih
def Ru.mn(m:Mn K W H W' H')(h:Ru K W H kvs xs):Ru K W' H' kvs xs:=by
 induction h with
 |nil=>exact .nil
 |cons a _ ih=>obtain⟨a1,a2,v,a3,a4⟩:=a;exact .cons ⟨a1,m.t _ _ a2,v,a3,a4.mn m⟩ ih
def Rt.mn(m:Mn K W H W' H')(h:Rt K W H ws kvs):Rt K W' H' ws kvs:=by
 induction h with
 |nil=>exact .nil
 |cons a _ ih=>exact .cons ⟨a.1,a.2.mn m⟩ ih
def Xd.mn(m:Mn K W H W' H')(h:Xd K W H dx fs):Xd K W' H' dx fs:=by
 cases dx with
 |none=>exact h
 |some d=>obtain⟨ws,e,q⟩:=h;exact⟨ws,m.x _ _ e,λf e' z=>let ⟨v,z1,z2⟩:=q f e' z;⟨v,z1,z2.mn m⟩⟩
def yU.keep(m:Mn K W H W' H')(h:∀u,H a=some u->H' a=some u)(r:yU K W H a o):yU K W' H' a o:=by
 cases o with
 |lst ds=>obtain⟨vs,e,q⟩:=r;exact⟨vs,h _ e,q.mn m⟩
 |qd ds =>
  obtain⟨vs,e,q⟩:=r;refine⟨vs,?_,q.mn m⟩;rcases e with⟨u,e⟩|e
  exact .inl ⟨u,h _ e⟩;exact .inr e
 |dct kvs=>obtain⟨ws,e,q⟩:=r;exact⟨ws,h _ e,q.mn m⟩
 |Kt kvs=>obtain⟨ws,e,q⟩:=r;exact⟨ws,h _ e,q.mn m⟩
 |qY kvs=>obtain⟨ws,e,q⟩:=r;exact⟨ws,h _ e,q.mn m⟩
 |exc c fs=>obtain⟨C,dx,tr,n,e,q⟩:=r;exact⟨C,dx,tr,n,h _ e,q.mn m⟩
 |any=>trivial
 |j5 lo hi=>exact h _ r
def Mn.same(s:gi H H'):Mn K W H W H':=⟨λ_ _ h=>h,λ_ _ h=>(Kp.of_same (ch:=[]) s).M4 h,λ_ _ _ h=>s _ _ h,λ_ _ h=>s _ _ h⟩
def Rl.same(l:Rl K W H st)(s:gi H H'):Rl K W H' st:=⟨l.len,l.nd,λi a o h1 h2=>(l.obj i a o h1 h2).keep (Mn.same s) λu e=>s _ _ e⟩
def Rl.at(l:Rl K W H st)(h1:W[i]?=some a)(h2:st[i]?=some o)(hm:o.mut=true):∃u,H a=some u/\∀x y,u≠.o6 x y:=by
 have r:=l.obj i a o h1 h2;cases o with
 |lst ds=>obtain⟨vs,e,_⟩:=r;exact⟨_,e,λx y z=>nomatch z⟩
 |qd ds=>cases hm
 |dct kvs=>obtain⟨ws,e,_⟩:=r;exact⟨_,e,λx y z=>nomatch z⟩
 |Kt kvs=>obtain⟨ws,e,_⟩:=r;exact⟨_,e,λx y z=>by cases z⟩
 |qY kvs=>obtain⟨ws,e,_⟩:=r;exact⟨_,e,λx y z=>nomatch z⟩
 |exc c fs=>obtain⟨C,dx,tr,_,e,_⟩:=r;exact⟨_,e,λx y z=>by cases z⟩
 |any=>cases hm
 |j5 lo hi=>exact⟨_,r,λx y z=>nomatch z⟩
def Mn.new(hp:H p=none):Mn K W H (W ++ [p]) (upd H p ho):=⟨λi a h=>by
  obtain⟨hi,_⟩:=Zab.mp h
  rw[Zan hi];exact h,λ_ _ h=>(Kp.of_same (ch:=[]) (gi.up hp)).M4 h,λ_ _ _ h=>gi.up hp _ _ h,λ_ _ h=>gi.up hp _ _ h⟩
def Rl.new(l:Rl K W H st)(hp:H p=none)(mk:yU K (W ++ [p]) (upd H p ho) p o):Rl K (W ++ [p]) (upd H p ho) (st ++ [o]):=by
 have m:Mn K W H (W ++ [p]) (upd H p ho):=Mn.new hp;have split:∀(i:Nat) (a:Addr) (o':O),(W ++ [p])[i]?=some a->(st ++ [o])[i]?=some o'->(W[i]?=some a/\st[i]?=some o')\/(i=W.length/\a=p/\o'=o):=λi a o' h1 h2=>by
  by_cases hi:i<W.length;rw[Zan hi]at h1;rw[Zan (by rw[<- l.len];exact hi)]at h2;exact .inl ⟨h1,h2⟩;obtain⟨hb,_⟩:=Zab.mp h1;rw[Zae,Zbh]at hb;have e:i=W.length:=by lk
  subst e;rw[Zav (Zad _),ZaX]at h1;rw[l.len,Zav (Zad _),ZaX]at h2;exact .inr ⟨rfl,(Zao h1).symm,(Zao h2).symm⟩
 refine⟨by rw[Zae,Zae,l.len];rfl,λi j a u u' h1 h2 h3 h4 m1 m2=>?_,λi a u h1 h2=>?_⟩;rcases split i a u h1 h3 with⟨g1,g2⟩|⟨rfl,rfl,rfl⟩<;>rcases split j _ u' h2 h4 with⟨k1,k2⟩|⟨k1,k2,k3⟩
 exact l.nd i j a u u' g1 k1 g2 k2 m1 m2;subst k2;obtain⟨w,e,_⟩:=l.at g1 g2 m1;rw[e]at hp;cases hp;obtain⟨w,e,_⟩:=l.at k1 k2 m2;rw[e]at hp;cases hp;exact k1.symm;rcases split i a u h1 h2 with⟨g1,g2⟩|⟨rfl,rfl,rfl⟩
 exact(l.obj i a u g1 g2).keep m λw e=>gi.up hp _ _ e;exact mk
def Rl.put(l:Rl K W H st)(hi:W[i]?=some a)(hs:st[i]?=some o)(hm:o.mut=true)(hm':o'.mut=true)(m:Mn K W H W (upd H a ho))(r:yU K W (upd H a ho) a o'):Rl K W (upd H a ho) (st.set i o'):=by
 obtain⟨w,ew,nf⟩:=l.at hi hs hm;have Za:i<st.length:=(Zab.mp hs).1;have old:∀(j:Nat) (u:O),(st.set i o')[j]?=some u->(j=i/\u=o')\/(j≠i/\st[j]?=some u):=λj u h=>by
  by_cases hj:i=j;subst hj;rw[Zaj Za]at h;exact .inl ⟨rfl,(Zao h).symm⟩;rw[Zal hj]at h;exact .inr ⟨λz=>hj z.symm,h⟩
 refine⟨by rw[Za8];exact l.len,λj k b u u' h1 h2 h3 h4 m1 m2=>?_,λj b u h1 h2=>?_⟩;rcases old j u h3 with⟨rfl,rfl⟩|⟨nj,g3⟩<;>rcases old k u' h4 with⟨rfl,rfl⟩|⟨nk,g4⟩
 rfl;exact l.nd _ _ b o u' h1 h2 hs g4 hm m2;exact l.nd _ _ b u o h1 h2 g3 hs m1 hm;exact l.nd _ _ b u u' h1 h2 g3 g4 m1 m2;rcases old j u h2 with⟨rfl,rfl⟩|⟨nj,g2⟩
 rw[hi]at h1;cases h1;exact r;by_cases hb:b=a;subst hb;cases u with
 |qd ds =>
  obtain⟨vs,e,q⟩:=l.obj j b _ h1 g2;refine⟨vs,?_,q.mn m⟩;rcases e with⟨x,e⟩|e
  rw[ew]at e;cases e;exact absurd rfl (nf _ _);exact .inr e
 |lst ds=>exact absurd (l.nd j i b _ o h1 hi g2 hs rfl hm) nj
 |Kt ds=>exact absurd (l.nd j i b _ o h1 hi g2 hs rfl hm) nj
 |qY ds=>exact absurd (l.nd j i b _ o h1 hi g2 hs rfl hm) nj
 |exc c fs=>exact absurd (l.nd j i b _ o h1 hi g2 hs rfl hm) nj
 |dct ds=>exact absurd (l.nd j i b _ o h1 hi g2 hs rfl hm) nj
 |any=>trivial
 |j5 lo up=>exact absurd (l.nd j i b _ o h1 hi g2 hs rfl hm) nj
 exact(l.obj j b u h1 g2).keep m λw e=>by rw[jI hb];exact e
def Mn.put(e:H a=some (.lst xs)):Mn K W H W (upd H a ho):=⟨λ_ _ h=>h,λb vs h=>(Kp.put (ch:=[a]) (o:=ho) Kp.refl (by simp) e).M4 h,λb o u h=>by rw[jI (λz=>by rw[z,e]at h;cases h)];exact h,λb ws h=>by rw[jI (λz=>by rw[z,e]at h;cases h)];exact h⟩
def Mn.putD(e:H a=some (.dK ws)):Mn K W H W (upd H a ho):=⟨λ_ _ h=>h,λb vs q=>by
 have ne:∀u,H b=some u->(∀w,u≠.dK w)->b≠a:=λu hu n z=>by rw[z,e]at hu;cases hu;exact n _ rfl
 rcases q with(q|⟨o,q⟩)|q
 exact .inl (.inl (by rw[jI (ne _ q λw z=>nomatch z)];exact q));exact .inl (.inr ⟨o,by rw[jI (ne _ q λw z=>nomatch z)];exact q⟩)
 exact .inr q,λb o u h=>by rw[jI (λz=>by rw[z,e]at h;cases h)];exact h,λb ws h=>by rw[jI (λz=>by rw[z,e]at h;cases h)];exact h⟩
def Mn.oN(e:H a=some (.dT ws)):Mn K W H W (upd H a ho):=⟨λ_ _ h=>h,λb vs q=>by
 have ne:∀u,H b=some u->(∀w,u≠.dT w)->b≠a:=λu hu n z=>by rw[z,e]at hu;cases hu;exact n _ rfl
 rcases q with(q|⟨o,q⟩)|q
 exact .inl (.inl (by rw[jI (ne _ q λw z=>nomatch z)];exact q));exact .inl (.inr ⟨o,by rw[jI (ne _ q λw z=>nomatch z)];exact q⟩)
 exact .inr q,λb o u h=>by rw[jI (λz=>by rw[z,e]at h;cases h)];exact h,λb ws h=>by rw[jI (λz=>by rw[z,e]at h;cases h)];exact h⟩
def Rl.newL(l:Rl K W H st)(hp:H p=none)(r:cx K W H vs ds):Rl K (W ++ [p]) (upd H p (.lst vs)) (st ++ [.lst ds]):=l.new hp ⟨vs,rf,r.mn (Mn.new hp)⟩
def Rl.newD(l:Rl K W H st)(hp:H p=none)(r:Rk K W H vs ds):Rl K (W ++ [p]) (upd H p (.dK vs)) (st ++ [.dct ds]):=l.new hp ⟨vs,rf,r.mn (Mn.new hp)⟩
def newR(l:Rl K W H st)(v:D:=.ref st.length):(W ++ [p])[st.length]?=some p:=by rw[<- l.len,Zav (Zad _),ZaX];rfl
def Rl.putL(l:Rl K W H st)(hi:W[i]?=some a)(hs:st[i]?=some (.lst xs))(r:cx K W H vs ds):Rl K W (upd H a (.lst vs)) (st.set i (.lst ds))/\Mn K W H W (upd H a (.lst vs)):=by obtain⟨ws,e,_⟩:=l.obj i a _ hi hs;have m:Mn K W H W (upd H a (.lst vs)):=Mn.put e;exact⟨l.put hi hs rfl rfl m ⟨vs,rf,r.mn m⟩,m⟩
def Rl.vO(l:Rl K W H st)(hi:W[i]?=some a)(hs:st[i]?=some (.dct xs))(r:Rk K W H vs ds):Rl K W (upd H a (.dK vs)) (st.set i (.dct ds))/\Mn K W H W (upd H a (.dK vs)):=by obtain⟨ws,e,_⟩:=l.obj i a _ hi hs;have m:Mn K W H W (upd H a (.dK vs)):=Mn.putD e;exact⟨l.put hi hs rfl rfl m ⟨vs,rf,r.mn m⟩,m⟩
abbrev items(st:Store)(i:Nat):Option (List D):=match st[i]? with
 |some (.lst ds)=>some ds
 |some (.qd ds)=>some ds
 |_=>none
def Rl.items(l:Rl K W H st)(hi:W[i]?=some a)(h:items st i=some ds):∃vs,jX K H a vs/\cx K W H vs ds:=by
 unfold L4.items at h;split at h
 ·next ds' hs=>cases h;obtain⟨vs,e,r⟩:=l.obj i a _ hi hs;exact⟨vs,.inl (.inl e),r⟩
 ·next ds' hs=>cases h;obtain⟨vs,e,r⟩:=l.obj i a _ hi hs;exact⟨vs,e.sq,r⟩
 ·cases h
end
abbrev So(K:Zfr){J S:Type}(R:List Addr->Hp->J->S->Prop)(t:St->Hp->(J->Hp->Prop)->Prop)(f:ai->Dm S):Prop :=
 ∀(W:List Addr) (G:St) (H:Hp) (U:ai) (st:Store) (b:S) (st':Store) (Q:J->Hp->Prop),Rl K W H st->Rs K W H G U->f U st=some (b,st') ->
  (∀a H' W',Mn K W H W' H'->Rl K W' H' st'->R W' H' a b->Q a H')->t G H Q
@[reducible]def dB(K:Zfr)(t:TE)(f:ai->Dm D):Prop:=So K (Rp K) t f
@[reducible]def sE(K:Zfr)(t:TT)(f:ai->Dm Bool):Prop:=So K (λ_ _=>Eq) t f
@[reducible]def rG(K:Zfr)(t:TA)(f:ai->Dm (List D)):Prop:=So K (cx K) t f
@[reducible]def Ku(K:Zfr)(t:TO)(f:ai->Dm (Option Int)):Prop:=So K (λ_ _=>Eq) t f
abbrev NY(K:Zfr)(r:V->Hp->VK->Prop)(g:D->Dm D):Prop :=
 ∀(W:List Addr) (H:Hp) (st:Store) (x:V) (a:D) (b:D) (st':Store) (Q:VK),Rl K W H st->Rp K W H x a->g a st=some (b,st')->(∀v H' W',Mn K W H W' H'->Rl K W' H' st'->Rp K W' H' v b->Q v H')->r x H Q
abbrev oi(K:Zfr)(r:R2)(g:D->D->Dm D):Prop :=
 ∀(W:List Addr) (H:Hp) (st:Store) (x y:V) (a c:D) (b:D) (st':Store) (Q:VK),Rl K W H st->Rp K W H x a->Rp K W H y c->g a c st=some (b,st')->(∀v H' W',Mn K W H W' H'->Rl K W' H' st'->Rp K W' H' v b->Q v H')->r x y H Q
abbrev sF(K:Zfr)(r:List V->Hp->VK->Prop)(g:List D->Dm D):Prop :=
 ∀(W:List Addr) (H:Hp) (st:Store) (xs:List V) (as:List D) (b:D) (st':Store) (Q:VK),Rl K W H st->cx K W H xs as->g as st=some (b,st')->(∀v H' W',Mn K W H W' H'->Rl K W' H' st'->Rp K W' H' v b->Q v H')->r xs H Q
abbrev xF(K:Zfr)(T:String)(r:V->List V->Hp->VK->Prop)(g:D->List D->Dm D):Prop :=
 ∀(W:List Addr) (H:Hp) (st:Store) (x:V) (xs:List V) (a:D) (as:List D) (b:D) (st':Store) (Q:VK),Rl K W H st->Rp K W H x a->cx K W H xs as->g a as st=some (b,st')->(∀v H' W',Mn K W H W' H'->Rl K W' H' st'->Rp K W' H' v b->Q v H')->r x xs H Q
abbrev bnd{J S:Type}(m:Option (J×Store))(k:J->Dm S):Option (S×Store):=match m with
 |some (a,st)=>k a st
 |none=>none
def cM{J S:Type}{m:Option (J×Store)}{k:J->Dm S}{r:S×Store}(h:bnd m k=some r):∃a st,m=some (a,st)/\k a st=some r:=by
 cases m with
 |none=>cases h
 |some p=>exact⟨p.1,p.2,rfl,h⟩
section
variable {K:Zfr}
abbrev ag(i:Nat):ai->Dm D:=λU st=>match U[i]? with
 |some (some d)=>some (d,st)
 |_=>none
def bI(i:Nat):dB K (uU i) (ag i):=by
 intro W G H U st b st' Q l rs e q;unfold ag at e;split at e
 ·next d hd=>cases e;obtain⟨v,ev,r⟩:=rs.2 i _ hd;exact⟨v,ev,q v H W .refl l r⟩
 ·cases e
abbrev fC(d:D):ai->Dm D:=λ_ st=>some (d,st)
def ur(h:∀W H,Rp K W H v d):dB K (tC v) (fC d):=by intro W G H U st b st' Q l rs e q;cases e;exact q v H W .refl l (h W H)
def g9(i:Int):dB K (tC (.int i)) (fC (.int i)):=ur λ_ _=>.int i
def Kv(b:Bool):dB K (tC (.bl b)) (fC (.bl b)):=ur λ_ _=>.bl b
def Fz(x:Str):dB K (tC (.str x)) (fC (.str x)):=ur λ_ _=>.str x
def NZ:dB K (tC .non) (fC .non):=ur λ_ _=>.non
def yV(n:String):dB K (tC (.ty n)) (fC (.ty n)):=ur λ_ _=>.ty n
abbrev ao(g:D->D->Dm D)(fa fb:ai->Dm D):ai->Dm D:=λU st=>bnd (fa U st) λa st1=>bnd (fb U st1) λb st2=>g a b st2
def iK(hr:oi K r g)(ha:dB K ta fa)(hb:dB K tb fb):dB K (Ee r ta tb) (ao g fa fb):=by intro W G H U st b st' Q l rs e q;obtain⟨a,st1,e1,e⟩:=cM e;obtain⟨c,st2,e2,e⟩:=cM e;refine ha W G H U st a st1 _ l rs e1 λx H1 W1 m1 l1 r1=>hb W1 G H1 U st1 c st2 _ l1 (rs.mn m1) e2 λy H2 W2 m2 l2 r2=>?_;exact hr W2 H2 st2 x y a c b st' Q l2 (r1.mn m2) r2 e λv H3 W3 m3 l3 r3=>q v H3 W3 ((m1.trans m2).trans m3) l3 r3
abbrev rH(g:D->Dm D)(fa:ai->Dm D):ai->Dm D:=λU st=>bnd (fa U st) λa st1=>g a st1
def Kw(hr:NY K r g)(ha:dB K ta fa):dB K (Qi r ta) (rH g fa):=by intro W G H U st b st' Q l rs e q;obtain⟨a,st1,e1,e⟩:=cM e;exact ha W G H U st a st1 _ l rs e1 λx H1 W1 m1 l1 r1=>hr W1 H1 st1 x a b st' Q l1 r1 e λv H3 W3 m3 l3 r3=>q v H3 W3 (m1.trans m3) l3 r3
abbrev ah:ai->Dm (List D):=λ_ st=>some ([],st)
abbrev ae(fa:ai->Dm D)(fr:ai->Dm (List D)):ai->Dm (List D):=λU st=>bnd (fa U st) λa st1=>bnd (fr U st1) λr st2=>some (a :: r,st2)
def cT:rG K El ah:=by intro W G H U st b st' Q l rs e q;cases e;exact q [] H W .refl l .nil
def bu(ha:dB K ta fa)(hr:rG K tr fr):rG K (yq ta tr) (ae fa fr):=by intro W G H U st b st' Q l rs e q;obtain⟨a,st1,e1,e⟩:=cM e;obtain⟨c,st2,e2,e⟩:=cM e;cases e;exact ha W G H U st a st1 _ l rs e1 λx H1 W1 m1 l1 r1=>hr W1 G H1 U st1 c _ _ l1 (rs.mn m1) e2 λy H2 W2 m2 l2 r2=>q _ H2 W2 (m1.trans m2) l2 (.cons (r1.mn m2) r2)
abbrev lim(n:Nat):Bool:=Nat.ble n 100000
def xG(h:lim n=true):n<=sizeLine:=Zaq (Zcs h) ∅
def Kx(h:lim n=true):n<sizeLine:=Za9 (Zcs h) ∅
abbrev aS(fa:ai->Dm (List D)):ai->Dm D:=λU st=>bnd (fa U st) λas st1=>if lim as.length=true then some (.tup as,st1)else none
def tL(ha:rG K ta fa):dB K (u7 ta) (aS fa):=by
 intro W G H U st b st' Q l rs e q;obtain⟨as,st1,e1,e⟩:=cM e;split at e
 ·next hl =>
  cases e;refine ha W G H U st as _ _ l rs e1 λxs H1 W1 m1 l1 r1=>⟨by rw[r1.length];exact xG hl,λp hp=>?_⟩;have m2:Mn K W1 H1 W1 (upd H1 p (.tup xs)):=Mn.same (gi.up hp);exact q _ _ W1 (m1.trans m2) (l1.same (gi.up hp)) (.tup (fV.of rf) (r1.mn m2))
 ·cases e
abbrev bL(fa:ai->Dm (List D)):ai->Dm D:=λU st=>bnd (fa U st) λas st1=>if lim as.length=true then some (.ref st1.length,st1 ++ [.lst as])else none
def uM(ha:rG K ta fa):dB K (Em ta) (bL fa):=by
 intro W G H U st b st' Q l rs e q;obtain⟨as,st1,e1,e⟩:=cM e;split at e
 ·next hl =>
  cases e;refine ha W G H U st as _ _ l rs e1 λxs H1 W1 m1 l1 r1=>⟨by rw[r1.length];exact xG hl,λp hp=>?_⟩;exact q _ _ _ (m1.trans (Mn.new hp)) (l1.newL hp r1) (.ref (newR l1))
 ·cases e
abbrev az(fa:ai->Dm D):ai->Dm Bool:=λU st=>bnd (fa U st) λa st1=>match a with
 |.bl b=>some (b,st1)
 |_=>none
def tM(ha:dB K ta fa):sE K (yp ta) (az fa):=by intro W G H U st b st' Q l rs e q;obtain⟨a,st1,e1,e⟩:=cM e;cases a<;>simp at e;obtain⟨rfl,rfl⟩:=e;refine ha W G H U st _ _ _ l rs e1 λx H1 W1 m1 l1 r1=>?_;cases r1;exact⟨_,rfl,q _ H1 W1 m1 l1 rfl⟩
def FA(ha:dB K ta fa):sE K (tB ta) (az fa):=tM ha
abbrev pY(fa:ai->Dm Bool):ai->Dm Bool:=λU st=>bnd (fa U st) λa st1=>some (!a,st1)
def Ky(ha:sE K ta fa):sE K (DY ta) (pY fa):=by intro W G H U st b st' Q l rs e q;obtain⟨a,st1,e1,e⟩:=cM e;cases e;exact ha W G H U st _ _ _ l rs e1 λx H1 W1 m1 l1 r1=>q _ H1 W1 m1 l1 (by rw[r1])
abbrev pZ(fa fb:ai->Dm Bool):ai->Dm Bool:=λU st=>bnd (fa U st) λa st1=>if a=true then fb U st1 else some (false,st1)
abbrev yW(fa fb:ai->Dm Bool):ai->Dm Bool:=λU st=>bnd (fa U st) λa st1=>if a=true then some (true,st1)else fb U st1
def FC(ha:sE K ta fa)(hb:sE K tb fb):sE K (DX ta tb) (pZ fa fb):=by
 intro W G H U st b st' Q l rs e q;obtain⟨a,st1,e1,e⟩:=cM e;refine ha W G H U st _ _ _ l rs e1 λx H1 W1 m1 l1 r1=>?_;subst r1;cases x with
 |true =>
  refine su ?_;rw[if_pos rfl]at e;exact hb W1 G H1 U st1 b st' _ l1 (rs.mn m1) e λy H2 W2 m2 l2 r2=>q y H2 W2 (m1.trans m2) l2 r2
 |false =>
  refine sr ?_;rw[if_neg Zam]at e;cases e;exact q _ H1 W1 m1 l1 rfl
def N2(ha:sE K ta fa)(hb:sE K tb fb):sE K (P9 ta tb) (yW fa fb):=by
 intro W G H U st b st' Q l rs e q;obtain⟨a,st1,e1,e⟩:=cM e;refine ha W G H U st _ _ _ l rs e1 λx H1 W1 m1 l1 r1=>?_;subst r1;cases x with
 |false =>
  refine sr ?_;rw[if_neg Zam]at e;exact hb W1 G H1 U st1 b st' _ l1 (rs.mn m1) e λy H2 W2 m2 l2 r2=>q y H2 W2 (m1.trans m2) l2 r2
 |true =>
  refine su ?_;rw[if_pos rfl]at e;cases e;exact q _ H1 W1 m1 l1 rfl
abbrev tN(fa fb:ai->Dm D):ai->Dm D:=λU st=>bnd (az fa U st) λa st1=>if a=true then fb U st1 else some (.bl false,st1)
abbrev FD(fa fb:ai->Dm D):ai->Dm D:=λU st=>bnd (az fa U st) λa st1=>if a=true then some (.bl true,st1)else fb U st1
abbrev yX(fa:ai->Dm D):ai->Dm D:=λU st=>bnd (az fa U st) λa st1=>some (.bl (!a),st1)
def Zb(h:az fa U st=some (b,st1)):fa U st=some (.bl b,st1):=by obtain⟨a,st2,e1,e⟩:=cM h;cases a<;>simp at e;obtain⟨rfl,rfl⟩:=e;exact e1
def Sx(ha:dB K ta fa)(hb:dB K tb fb):dB K (ye ta tb) (tN fa fb):=by
 intro W G H U st b st' Q l rs e q;obtain⟨a,st1,e1,e⟩:=cM e;refine ha W G H U st _ _ _ l rs (Zb e1) λx H1 W1 m1 l1 r1=>?_;cases r1;refine⟨a,rfl,?_⟩;cases a with
 |true =>
  refine su ?_;rw[if_pos rfl]at e;exact hb W1 G H1 U st1 b st' _ l1 (rs.mn m1) e λy H2 W2 m2 l2 r2=>q y H2 W2 (m1.trans m2) l2 r2
 |false =>
  refine sr ?_;rw[if_neg Zam]at e;cases e;exact q _ H1 W1 m1 l1 (.bl _)
abbrev c7{S:Type}(c:ai->Dm Bool)(fa fb:ai->Dm S):ai->Dm S:=λU st=>bnd (c U st) λa st1=>if a=true then fa U st1 else fb U st1
def yZ(hc:sE K tc c)(ha:dB K ta fa)(hb:dB K tb fb):dB K (Qa tc ta tb) (c7 c fa fb):=by
 intro W G H U st b st' Q l rs e q;obtain⟨a,st1,e1,e⟩:=cM e;refine hc W G H U st _ _ _ l rs e1 λx H1 W1 m1 l1 r1=>?_;subst r1;cases x with
 |true =>
  refine su ?_;rw[if_pos rfl]at e;exact ha W1 G H1 U st1 b st' _ l1 (rs.mn m1) e λy H2 W2 m2 l2 r2=>q y H2 W2 (m1.trans m2) l2 r2
 |false =>
  refine sr ?_;rw[if_neg Zam]at e;exact hb W1 G H1 U st1 b st' _ l1 (rs.mn m1) e λy H2 W2 m2 l2 r2=>q y H2 W2 (m1.trans m2) l2 r2
abbrev nB:ai->Dm (Option Int):=λ_ st=>some (none,st)
abbrev qe(fa:ai->Dm D):ai->Dm (Option Int):=λU st=>bnd (fa U st) λa st1=>match a with
 |.int i=>some (some i,st1)
 |_=>none
def Sy:Ku K sZ nB:=by intro W G H U st b st' Q l rs e q;cases e;exact q _ H W .refl l rfl
def Sz(ha:dB K ta fa):Ku K (yt ta) (qe fa):=by intro W G H U st b st' Q l rs e q;obtain⟨a,st1,e1,e⟩:=cM e;cases a<;>simp at e;obtain⟨rfl,rfl⟩:=e;refine ha W G H U st _ _ _ l rs e1 λx H1 W1 m1 l1 r1=>?_;cases r1;exact⟨_,rfl,q _ H1 W1 m1 l1 rfl⟩
abbrev A2(K:Zfr)(r:V->Option Int->Option Int->Hp->VK->Prop)(g:D->Option Int->Option Int->Dm D):Prop :=
 ∀lo hi,NY K (λx=>r x lo hi) (λa=>g a lo hi)
abbrev C8(g:D->Option Int->Option Int->Dm D)(fa:ai->Dm D)(fl fh:ai->Dm (Option Int)):ai->Dm D:=λU st=>bnd (fa U st) λa st1=>bnd (fl U st1) λlo st2=>bnd (fh U st2) λhi st3=>g a lo hi st3
def y2(hr:A2 K r g)(ha:dB K ta fa)(hl:Ku K tl fl)(hh:Ku K th fh):dB K (QG r ta tl th) (C8 g fa fl fh):=by intro W G H U st b st' Q l rs e q;obtain⟨a,st1,e1,e⟩:=cM e;obtain⟨lo,st2,e2,e⟩:=cM e;obtain⟨hi,st3,e3,e⟩:=cM e;refine ha W G H U st a st1 _ l rs e1 λx H1 W1 m1 l1 r1=>hl W1 G H1 U st1 lo st2 _ l1 (rs.mn m1) e2 λy H2 W2 m2 l2 r2=>hh W2 G H2 U st2 hi st3 _ l2 (rs.mn (m1.trans m2)) e3 λz H3 W3 m3 l3 r3=>?_;subst r2 r3;exact hr y z W3 H3 st3 x a b st' Q l3 (r1.mn (m2.trans m3)) e λv H4 W4 m4 l4 r4=>q v H4 W4 (((m1.trans m2).trans m3).trans m4) l4 r4
abbrev aJ(g:List D->Dm D)(fa:ai->Dm (List D)):ai->Dm D:=λU st=>bnd (fa U st) λas st1=>g as st1
def rZ(hr:sF K r g)(ha:rG K ta fa):dB K (MI r ta) (aJ g fa):=by intro W G H U st b st' Q l rs e q;obtain⟨as,st1,e1,e⟩:=cM e;exact ha W G H U st as st1 _ l rs e1 λx H1 W1 m1 l1 r1=>hr W1 H1 st1 x as b st' Q l1 r1 e λv H3 W3 m3 l3 r3=>q v H3 W3 (m1.trans m3) l3 r3
abbrev bg(K:Zfr)(n:Nat)(F:List D->Dm D):Sp:=λvs H Q _=>vs.length=n/\∃(W:List Addr) (st:Store) (ds:List D) (b:D) (st':Store),Rl K W H st/\cx K W H vs ds/\F ds st=some (b,st') /\
 ∀v H' W',Mn K W H W' H'->Rl K W' H' st'->Rp K W' H' v b->Q v H'
def oU(ha:rG K ta fa)(hn:∀U st as st',fa U st=some (as,st')->as.length=n):dB K (rm (bg K n F) [] E ta) (aJ F fa):=by intro W G H U st b st' Q l rs e q;obtain⟨as,st1,e1,e⟩:=cM e;refine ha W G H U st as st1 _ l rs e1 λvs H1 W1 m1 l1 r1=>⟨?_,W1,st1,as,b,st',l1,?_,e,λv H3 W3 m3 l3 r3=>q v H3 W3 (m1.trans m3) l3 r3⟩;rw[Zbs,r1.length];exact hn _ _ _ _ e1;rw[Zbs];exact r1
def SA(h:ah U st=some (as,st')):as.length=0:=by cases h;rfl
def FE(hr:∀U st as st',fr U st=some (as,st')->as.length=n):∀U st as st',ae fa fr U st=some (as,st')->as.length=n+1:=λU st as st' h=>by
 obtain⟨a,st1,e1,e⟩:=cM h;obtain⟨c,st2,e2,e⟩:=cM e;cases e;rw[ZaD,hr _ _ _ _ e2]
end
end L4
namespace L4
open PySem PySem.Spec L2
section
variable {K:Zfr}
abbrev y3(h:Int->Int->D):D->D->Dm D
 |.int i,.int j,st=>some (h i j,st)
 |_,_,_=>none
def C9(hh:∀i j W H,Rp K W H (gv i j) (h i j)):oi K (sf gv) (y3 h):=by intro W H st x y a c b st' Q l rx ry e q;unfold y3 at e;split at e;cases e;cases rx;cases ry;exact⟨_,_,rfl,rfl,q _ H W .refl l (hh _ _ W H)⟩;cases e
abbrev xH(c:Int->Int->Bool)(h:Int->Int->D):D->D->Dm D
 |.int i,.int j,st=>if c i j=true then some (h i j,st)else none
 |_,_,_=>none
def Dc(hc:∀i j,c i j=true->C i j)(hh:∀i j W H,Rp K W H (gv i j) (h i j)):oi K (rI C gv) (xH c h):=by
 intro W H st x y a d b st' Q l rx ry e q;unfold xH at e;split at e
 ·split at e
  ·next hcc=>cases e;cases rx;cases ry;exact⟨_,_,rfl,rfl,hc _ _ hcc,q _ H W .refl l (hh _ _ W H)⟩
  ·cases e
 ·cases e
abbrev cy:D->D->Dm D:=y3 λi j=>.int (i+j)
abbrev mD:D->D->Dm D:=y3 λi j=>.int (i-j)
abbrev nC:D->D->Dm D:=xH (λi j=>decide (-18446744073709551616<i/\i<18446744073709551616) || decide (-18446744073709551616<j/\j<18446744073709551616)) λi j=>.int (i*j)
abbrev qf:D->D->Dm D:=xH (λi j=>decide (0<j/\j<1073741824)) λi j=>.int (i / j)
abbrev lq:D->D->Dm D:=xH (λi j=>decide (0<j)) λi j=>.int (i % j)
abbrev vP:D->D->Dm D:=xH (λi j=>decide (0<=j/\j<=1000000/\i.natAbs<18446744073709551616)) λi j=>.int (i ^ j.toNat)
abbrev xI:D->D->Dm D:=y3 λi j=>.bl (decide (i<j))
abbrev FF:D->D->Dm D:=y3 λi j=>.bl (decide (i<=j))
abbrev y4:D->D->Dm D:=y3 λi j=>.bl (decide (j<i))
abbrev N3:D->D->Dm D:=y3 λi j=>.bl (decide (j<=i))
def FG:oi K (sf λi j=>.int (i+j)) cy:=C9 λ_ _ _ _=>.int _
def SD:oi K (sf λi j=>.int (i-j)) mD:=C9 λ_ _ _ _=>.int _
def N4:oi K (rI u3 λi j=>.int (i*j)) nC:=Dc (λi j h=>by
 rw[Zcy,decide_eq_true_eq,decide_eq_true_eq]at h
 exact h) λ_ _ _ _=>.int _
def SE:oi K (rI Eg λi j=>.int (i / j)) qf:=Dc (λi j h=>of_decide_eq_true (p:=0<j/\j<1073741824) h) λ_ _ _ _=>.int _
def N5:oi K (rI (λ_ j=>0<j) λi j=>.int (i % j)) lq:=Dc (λi j h=>of_decide_eq_true h) λ_ _ _ _=>.int _
def SF:oi K (rI Eh λi j=>.int (i ^ j.toNat)) vP:=Dc (λi j h=>by have h:=of_decide_eq_true (p:=0<=j/\j<=1000000/\i.natAbs<18446744073709551616) h;exact⟨h.1,h.2.1,by lk⟩) λ_ _ _ _=>.int _
def N6:oi K (sf λi j=>.bl (decide (i<j))) xI:=C9 λ_ _ _ _=>.bl _
def N7:oi K (sf λi j=>.bl (decide (i<=j))) FF:=C9 λ_ _ _ _=>.bl _
def N8:oi K (sf λi j=>.bl (decide (j<i))) y4:=C9 λ_ _ _ _=>.bl _
def y6:oi K (sf λi j=>.bl (decide (j<=i))) N3:=C9 λ_ _ _ _=>.bl _
abbrev kX:D->Dm D
 |.int i,st=>some (.int (-i),st)
 |_,_=>none
def Kz:NY K (rU λi=>.int (-i)) kX:=by intro W H st x a b st' Q l rx e q;unfold kX at e;split at e;cases e;cases rx;exact⟨_,rfl,q _ H W .refl l (.int _)⟩;cases e
abbrev sV:D->Option V
 |.non=>some .non
 |.bl b=>some (.bl b)
 |.int i=>some (.int i)
 |.str x=>some (.str x)
 |_=>none
def Dd(r:Rp K W H x a)(h:sV a=some v):x=v:=by cases r<;>first|(cases h;rfl)|cases h
abbrev gf(neg:Bool):D->D->Dm D:=λa b st=>match sV a,sV b with
 |some x,some y=>if si x y=true then some (.bl (if neg then !decide (x=y)else decide (x=y)),st)else none
 |_,_=>none
def y8:oi K Qk (gf false):=by
 intro W H st x y a c b st' Q l rx ry e q;unfold gf at e;split at e
 ·next u v h1 h2 =>
  split at e
  ·next hs=>cases e;cases Dd rx h1;cases Dd ry h2;exact⟨hs,q _ H W .refl l (.bl _)⟩
  ·cases e
 ·cases e
def N9:oi K Ql (gf true):=by
 intro W H st x y a c b st' Q l rx ry e q;unfold gf at e;split at e
 ·next u v h1 h2 =>
  split at e
  ·next hs=>cases e;cases Dd rx h1;cases Dd ry h2;exact⟨hs,q _ H W .refl l (.bl _)⟩
  ·cases e
 ·cases e
abbrev bX{J S:Type}(f:J->Option S):List J->Option (List S)
 |[]=>some []
 |a :: r=>match f a,bX f r with
  |some b,some s=>some (b :: s)
  |_,_=>none
def De{J S:Type}{f:J->Option S}{a:J}{r:List J}{s:List S}(h:bX f (a :: r)=some s):∃b t,f a=some b/\bX f r=some t/\s=b :: t:=by
 unfold bX at h;split at h
 ·next b t h1 h2=>cases h;exact⟨b,t,h1,h2,rfl⟩
 ·cases h
def y9{J S γ:Type}{f:J->Option S}{g:γ->J}{k:γ->S}(h:∀c,f (g c)=some (k c)):∀l:List γ,bX f (l.map g)=some (l.map k)
 |[]=>rfl
 |c :: r=>by
  show bX f (g c :: r.map g)=_;unfold bX;rw[h c,y9 h r];rfl
abbrev gX(st:Store):Nat->D->Option PyData
 |0,_=>none
 |_+1,.non=>some .none
 |_+1,.bl b=>some (.bool b)
 |_+1,.int i=>some (.int i)
 |_+1,.str x=>some (.str x)
 |_+1,.ty _=>none
 |n+1,.tup ds=>(bX (gX st n) ds).map PyData.tuple
 |n+1,.ref i=>match items st i with
  |some ds=>(bX (gX st n) ds).map PyData.list
  |none=>none
def Df(l:Rl K W H st):∀(n:Nat) {v:V} {d:D} {p:PyData},Rp K W H v d->gX st n d=some p->Rep K H v p
 |0,_,_,_,_,h=>by simp[gX]at h
 |n+1,v,d,p,r,h=>by
  have all:∀{vs:List V} {ds:List D} {ps:List PyData},cx K W H vs ds->bX (gX st n) ds=some ps->g5 K H vs ps:=by
   intro vs ds ps rr
   induction vs generalizing ds ps with
   |nil=>intro hm;cases rr;cases hm;exact .nil
   |cons w ws ih =>
    intro hm;cases rr with
    |cons ra rb =>
     obtain⟨b,t,h1,h2,rfl⟩:=De hm;exact .cons (Df l n ra h1) (ih rb h2)
  cases r with
  |non=>simp[gX]at h;subst h;exact .non
  |bl b=>simp[gX]at h;subst h;exact .bl b
  |int i=>simp[gX]at h;subst h;exact .int i
  |str x=>simp[gX]at h;subst h;exact .str x
  |ty n=>simp[gX]at h
  |ref hi =>
   simp only[gX]at h;split at h
   ·next ds hd =>
    obtain⟨ps,h1,rfl⟩:=Zay.mp h;obtain⟨vs,e,rr⟩:=l.items hi hd;exact .lst e (all rr h1)
   ·cases h
  |tup q rr =>
   simp only[gX]at h;obtain⟨ps,h1,rfl⟩:=Zay.mp h;exact .tup q (all rr h1)
abbrev jP(neg:Bool):D->D->Dm D:=λa b st=>match gX st 20 a,gX st 20 b with
 |some p,some q=>if(PyData.canLay0 p && PyData.canLay0 q && decide (min p.depth q.depth<=60))=true then some (.bl (if neg then !PyData.eqv p q else PyData.eqv p q),st)else none
 |_,_=>none
def KA(neg:Bool):oi K (xo K neg) (jP neg):=by
 intro W H st x y a c b st' Q l rx ry e q;unfold jP at e;split at e
 ·next u v h1 h2 =>
  split at e
  ·next hs =>
   cases e;rw[ZaC,ZaC,decide_eq_true_eq]at hs;exact⟨u,v,Df l 20 rx h1,Df l 20 ry h2,hs.1.1,hs.1.2,hs.2,q _ H W .refl l (.bl _)⟩
  ·cases e
 ·cases e
def at_of(r:cx K W H vs ds)(h:dA ds i=some d):∃v,dA vs i=some v/\Rp K W H v d:=by
 unfold dA at h ⊢;rw[r.length];cases hx:oA ds.length i with
 |none=>rw[hx]at h;cases h
 |some j =>
  rw[hx]at h;exact r.got h
abbrev ay:D->D->Dm D
 |.tup ds,.int i,st=>match dA ds i with
  |some d=>some (d,st)
  |none=>none
 |_,_,_=>none
def sG:oi K (Ak K) ay:=by
 intro W H st x y a c b st' Q l rx ry e q;unfold ay at e;split at e
 ·split at e
  ·next d hd =>
   cases e;cases ry;cases rx with
   |tup s r =>
    obtain⟨v,hv,rv⟩:=at_of r hd;exact⟨_,_,_,v,rfl,rfl,s,hv,q v H W .refl l rv⟩
  ·cases e
 ·cases e
abbrev bw:D->D->Dm D
 |.ref r,.int i,st=>match items st r with
  |some ds=>match dA ds i with
   |some d=>some (d,st)
   |none=>none
  |none=>none
 |_,_,_=>none
def tO:oi K (Aj K) bw:=by
 intro W H st x y a c b st' Q l rx ry e q;unfold bw at e;split at e
 ·split at e
  ·next ds hi =>
   split at e
   ·next d hd =>
    cases e;cases ry;cases rx with
    |ref hr =>
     obtain⟨vs,s,r⟩:=l.items hr hi;obtain⟨v,hv,rv⟩:=at_of r hd;exact⟨_,_,_,v,rfl,rfl,s,hv,q v H W .refl l rv⟩
   ·cases e
  ·cases e
 ·cases e
abbrev A3:D->D->Dm D
 | .str z,.int i,st=>if lim z.length=true then match dA z.cps.toList i with
   |some c=>some (.str ⟨#[c]⟩,st)
   |none=>none
  else none
 |_,_,_=>none
abbrev cutD(xs:List D)(lo hi:Option Int):List D:=(xs.drop (HT.cK xs.length 0 lo)).take (HT.cK xs.length xs.length hi-HT.cK xs.length 0 lo)
def cx.cut(r:cx K W H vs ds)(lo hi:Option Int):cx K W H (pe vs lo hi) (cutD ds lo hi):=by unfold pe cutD;rw[r.length];exact(r.drop _).take _
abbrev A4:D->Option Int->Option Int->Dm D
 |.tup ds,lo,hi,st=>some (.tup (cutD ds lo hi),st)
 |_,_,_,_=>none
def got(l:Rl K W H st)(r:cx K W H vs ds)(q:∀v H' W',Mn K W H W' H'->Rl K W' H' st->Rp K W' H' v (.tup ds)->Q v H'):sv K H vs Q :=
 λp H' s e=>q _ H' W (Mn.same e) (l.same e) (.tup s (r.mn (Mn.same e)))
def SG:A2 K (yD K) A4:=by
 intro lo hi W H st x a b st' Q l rx e q;cases a with
 |tup ds =>
  cases e;cases rx with
  |tup s r=>exact⟨_,_,rfl,s,got l (r.cut lo hi) q⟩
 |_=>cases e
abbrev vQ:D->Option Int->Option Int->Dm D
 |.ref r,lo,hi,st=>match items st r with
  |some ds=>some (.ref st.length,st ++ [.lst (cutD ds lo hi)])
  |none=>none
 |_,_,_,_=>none
def SH:A2 K (Es K) vQ:=by
 intro lo hi W H st x a b st' Q l rx e q;cases a with
 |ref i =>
  simp only[vQ]at e;split at e
  ·next ds hd =>
   cases e;cases rx with
   |ref hr =>
    obtain⟨vs,s,r⟩:=l.items hr hd;exact⟨_,_,rfl,s,λp hp=>q _ _ _ (Mn.new hp) (l.newL hp (r.cut lo hi)) (.ref (newR l))⟩
  ·cases e
 |_=>cases e
abbrev fK:D->D->Dm D
 |.tup a,.tup b,st=>if lim (a.length+b.length)=true then some (.tup (a ++ b),st)else none
 |_,_,_=>none
def SI:oi K (vm K) fK:=by
 intro W H st x y a c b st' Q l rx ry e q;unfold fK at e;split at e
 ·split at e
  ·next hl =>
   cases e;cases rx with
   |tup s r =>
    cases ry with
    |tup s' r'=>exact⟨_,_,_,_,rfl,rfl,s,s',by rw[r.length,r'.length];exact xG hl,got l (r.append r') q⟩
  ·cases e
 ·cases e
abbrev own(st:Store)(i:Nat):Option (List D):=match st[i]? with
 |some (.lst ds)=>some ds
 |_=>none
def sH(h:own st i=some ds):st[i]?=some (.lst ds):=by
 unfold own at h;split at h
 ·next ds' hs=>cases h;exact hs
 ·cases h
abbrev pA:D->D->Dm D
 |.ref i,.ref j,st=>match own st i,own st j with
  |some a,some b=>if lim (a.length+b.length)=true then some (.ref st.length,st ++ [.lst (a ++ b)])else none
  |_,_=>none
 |_,_,_=>none
def SJ:oi K EB pA:=by
 intro W H st x y a c b st' Q l rx ry e q;unfold pA at e;split at e
 ·split at e
  ·next a b h1 h2 =>
   split at e
   ·next hl =>
    cases e;cases rx with
    |ref hi =>
     cases ry with
     |ref hj =>
      obtain⟨vs,e1,r1⟩:=l.obj _ _ _ hi (sH h1);obtain⟨ws,e2,r2⟩:=l.obj _ _ _ hj (sH h2);exact⟨_,_,_,_,rfl,rfl,e1,e2,by rw[r1.length,r2.length];exact xG hl,λp hp=>q _ _ _ (Mn.new hp) (l.newL hp (r1.append r2)) (.ref (newR l))⟩
   ·cases e
  ·cases e
 ·cases e
abbrev uu:D->D->Dm D
 |.ref i,.int k,st=>match own st i with
  |some a=>if(decide (-9223372036854775808<=k/\k<9223372036854775808) && lim (a.length*k.toNat))=true then some (.ref st.length,st ++ [.lst (List.replicate k.toNat a).flatten])else none
  |_=>none
 |_,_,_=>none
def SK:∀{ws vs:List V} {ds:List D},cx K W H ws ds->bX sV ds=some vs->ws=vs
 |_,_,_,.nil,h=>by cases h;rfl
 |_,_,_,.cons a b,h=>by
  obtain⟨x,t,h1,h2,rfl⟩:=De h;rw[Dd a h1,SK b h2]
def SM(h:sV a=some v):mJ v=true:=by cases a<;>first|(cases h;rfl)|cases h
def SN:∀{ds:List D} {vs:List V},bX sV ds=some vs->vs.all mJ=true
 |[],_,h=>by cases h;rfl
 |d :: r,_,h=>by
  obtain⟨x,t,h1,h2,rfl⟩:=De h;rw[List.all_cons,SM h1,SN h2];rfl
abbrev cH(st:Store):D->Option (List D)
 |.tup ds=>some ds
 |.ref i=>items st i
 |_=>none
def KC(l:Rl K W H st)(r:Rp K W H x a)(h:cH st a=some ds):∃p vs,x=.ref p/\(jX K H p vs\/fV K H p vs)/\cx K W H vs ds:=by
 cases r<;>first|(cases h;done)|skip
 ·next hi=>obtain⟨vs,s,r⟩:=l.items hi h;exact⟨_,vs,rfl,.inl s,r⟩
 ·next s r=>cases h;exact⟨_,_,rfl,.inr s,r⟩
abbrev tP(neg:Bool):D->D->Dm D:=λa c st=>match sV a,(cH st c).bind (bX sV)with
 |some x,some vs=>some (.bl (if neg then !yy x vs else yy x vs),st)
 |_,_=>none
def za(neg:Bool):oi K (JW K neg) (tP neg):=by
 intro W H st x y a c b st' Q l rx ry e q;unfold tP at e;split at e
 ·next u vs h1 h2 =>
  cases e;obtain⟨ds,h3,h4⟩:=Za0.mp h2;obtain⟨p,ws,rfl,s,r⟩:=KC l ry h3;cases Dd rx h1;cases SK r h4;exact⟨p,_,rfl,s,SM h1,SN h4,q _ H W .refl l (.bl _)⟩
 ·cases e
def cx.one'(r:cx K W H vs [d]):∃v,vs=[v]/\Rp K W H v d:=by cases r with|cons a b=>cases b;exact⟨_,rfl,a⟩
def cx.two'(r:cx K W H vs [d,e]):∃v w,vs=[v,w]/\Rp K W H v d/\Rp K W H w e:=by
 cases r with
 |cons a b=>obtain⟨w,rfl,r⟩:=b.one';exact⟨_,_,rfl,a,r⟩
abbrev cU:List D->Dm D
 |[a],st=>match cH st a with
  |some ds=>some (.int ds.length,st)
  |none=>none
 |_,_=>none
def zb:sF K (λxs H Q=>∃p ys,xs=[.ref p]/\(jX K H p ys\/fV K H p ys)/\Q (.int ys.length) H) cU:=by
 intro W H st xs as b st' Q l rx e q;unfold cU at e;split at e
 ·split at e
  ·next ds hd =>
   cases e;obtain⟨v,rfl,r⟩:=rx.one';obtain⟨p,vs,rfl,s,r⟩:=KC l r hd;exact⟨p,vs,rfl,s,q _ H W .refl l (by rw[r.length];exact .int _)⟩
  ·cases e
 ·cases e
abbrev qg:List D->Dm D
 |[a],st=>match cH st a with
  |some ds=>some (.ref st.length,st ++ [.lst ds])
  |none=>none
 |_,_=>none
def SO:sF K (λxs H Q=>∃p ys,xs=[.ref p]/\(jX K H p ys\/fV K H p ys)/\∀l,H l=none->Q (.ref l) (upd H l (.lst ys))) qg:=by
 intro W H st xs as b st' Q l rx e q;unfold qg at e;split at e
 ·split at e
  ·next ds hd =>
   cases e;obtain⟨v,rfl,r⟩:=rx.one';obtain⟨p,vs,rfl,s,r⟩:=KC l r hd;exact⟨p,vs,rfl,s,λp hp=>q _ _ _ (Mn.new hp) (l.newL hp r) (.ref (newR l))⟩
  ·cases e
 ·cases e
abbrev bh:List D->Dm D
 |[a],st=>match cH st a with
  |some ds=>some (.tup ds,st)
  |none=>none
 |_,_=>none
def FH:sF K (λxs H Q=>∃p ys,xs=[.ref p]/\((jX K H p ys/\∀l,H l=none->Q (.ref l) (upd H l (.tup ys)))\/(fV K H p ys/\Q (.ref p) H))) bh:=by
 intro W H st xs as b st' Q l rx e q;unfold bh at e;split at e
 ·split at e
  ·next ds hd =>
   cases e;obtain⟨v,rfl,r⟩:=rx.one';obtain⟨p,vs,rfl,s,r'⟩:=KC l r hd;refine⟨p,vs,rfl,?_⟩;rcases s with s|s
   ·exact .inl ⟨s,(got l r' q).new⟩
   ·exact .inr ⟨s,(got l r' q).it s⟩
  ·cases e
 ·cases e
abbrev rJ:List D->Dm D
 |[.int i,.int j],st=>some (.int (if j > i then j else i),st)
 |_,_=>none
abbrev tQ:List D->Dm D
 |[.int i,.int j],st=>some (.int (if j<i then j else i),st)
 |_,_=>none
def Oa:sF K (λxs H Q=>∃i j,xs=[.int i,.int j]/\Q (.int (if j > i then j else i)) H) rJ:=by intro W H st xs as b st' Q l rx e q;unfold rJ at e;split at e;cases e;obtain⟨v,w,rfl,r1,r2⟩:=rx.two';cases r1;cases r2;exact⟨_,_,rfl,q _ H W .refl l (.int _)⟩;cases e
def Zc:sF K (λxs H Q=>∃i j,xs=[.int i,.int j]/\Q (.int (if j<i then j else i)) H) tQ:=by intro W H st xs as b st' Q l rx e q;unfold tQ at e;split at e;cases e;obtain⟨v,w,rfl,r1,r2⟩:=rx.two';cases r1;cases r2;exact⟨_,_,rfl,q _ H W .refl l (.int _)⟩;cases e
abbrev nD:List D->Dm D
 |[.int i],st=>some (.int i,st)
 |[.bl k],st=>some (.int (if k then 1 else 0),st)
 |_,_=>none
def Ob:sF K (λxs H Q=>(∃i,xs=[.int i]/\Q (.int i) H)\/∃k,xs=[.bl k]/\Q (.int (if k then 1 else 0)) H) nD:=by intro W H st xs as b st' Q l rx e q;unfold nD at e;split at e;cases e;obtain⟨v,rfl,r⟩:=rx.one';cases r;exact .inl ⟨_,rfl,q _ H W .refl l (.int _)⟩;cases e;obtain⟨v,rfl,r⟩:=rx.one';cases r;exact .inr ⟨_,rfl,q _ H W .refl l (.int _)⟩;cases e
abbrev gk:List D->Dm D
 |[.int j],st=>some (.ref st.length,st ++ [.j5 0 j])
 |_,_=>none
abbrev eX:List D->Dm D
 |[.int i,.int j],st=>some (.ref st.length,st ++ [.j5 i j])
 |_,_=>none
def SQ:sF K (λxs H Q=>∃j:Int,xs=[.int j]/\∀p,H p=none->Q (.ref p) (upd H p (.j5 0 j))) gk:=by intro W H st xs as b st' Q l rx e q;unfold gk at e;split at e;cases e;obtain⟨v,rfl,r⟩:=rx.one';cases r;exact⟨_,rfl,λp hp=>q _ _ _ (Mn.new hp) (l.new hp (show yU K _ _ p (.j5 _ _)from rf)) (.ref (newR l))⟩;cases e
def SR:sF K (λxs H Q=>∃i j:Int,xs=[.int i,.int j]/\∀p,H p=none->Q (.ref p) (upd H p (.j5 i j))) eX:=by intro W H st xs as b st' Q l rx e q;unfold eX at e;split at e;cases e;obtain⟨v,w,rfl,r1,r2⟩:=rx.two';cases r1;cases r2;exact⟨_,_,rfl,λp hp=>q _ _ _ (Mn.new hp) (l.new hp (show yU K _ _ p (.j5 _ _)from rf)) (.ref (newR l))⟩;cases e
abbrev aH(lo:Int)(n:Nat):List D:=(List.range n).map λ(k:Nat)=>D.int (lo+k)
def Zd(lo:Int)(n:Nat):cx K W H (gZ lo n) (aH lo n):=by
 unfold gZ aH
 induction (List.range n)with
 |nil=>exact .nil
 |cons a r ih=>exact .cons (.int _) ih
abbrev r6(lo hi:Int):Bool:=decide (-4611686018427387904<=lo/\lo<4611686018427387904/\-4611686018427387904<=hi/\hi<4611686018427387904) && lim (hi-lo).toNat
def SS(h:r6 lo hi=true):(-(2 ^ 62)<=lo/\lo<2 ^ 62/\-(2 ^ 62)<=hi/\hi<2 ^ 62)/\(hi-lo).toNat<=2 ^ 24:=by unfold r6 at h;rw[ZaC,decide_eq_true_eq]at h;exact⟨by lk,Zaq (Zcs h.2) ∅⟩
abbrev hJ(st:Store):D->Option (Int×Int)
 |.ref i=>match st[i]? with
  |some (.j5 lo hi)=>some (lo,hi)
  |_=>none
 |_=>none
def SU(l:Rl K W H st)(r:Rp K W H x a)(h:hJ st a=some (lo,hi)):∃p,x=.ref p/\H p=some (.j5 lo hi):=by
 cases r<;>first|(cases h;done)|skip
 ·next hi' =>
  simp only[hJ]at h;split at h
  ·next lo' Ze hs=>cases h;exact⟨_,rfl,l.obj _ _ _ hi' hs⟩
  ·cases h
abbrev c9:List D->Dm D
 |[a],st=>match hJ st a with
  |some (lo,hi)=>if r6 lo hi=true then some (.ref st.length,st ++ [.lst (aH lo (hi-lo).toNat)])else none
  |none=>none
 |_,_=>none
def SV:sF K (λxs H Q=>∃p lo hi,xs=[.ref p]/\H p=some (.j5 lo hi)/\(-(2 ^ 62)<=lo/\lo<2 ^ 62/\-(2 ^ 62)<=hi/\hi<2 ^ 62)/\(hi-lo).toNat<=2 ^ 24 /\
  ∀l,H l=none->Q (.ref l) (upd H l (.lst (gZ lo (hi-lo).toNat)))) c9:=by
 intro W H st xs as b st' Q l rx e q;unfold c9 at e;split at e
 ·split at e
  ·next lo hi hd =>
   split at e
   ·next ok =>
    cases e;obtain⟨v,rfl,r⟩:=rx.one';obtain⟨p,rfl,s⟩:=SU l r hd;exact⟨p,lo,hi,rfl,s,(SS ok).1,(SS ok).2,λp hp=>q _ _ _ (Mn.new hp) (l.newL hp (Zd lo _)) (.ref (newR l))⟩
   ·cases e
  ·cases e
 ·cases e
abbrev xJ:List D->Dm D
 |[a],st=>match hJ st a with
  |some (lo,hi)=>if r6 lo hi=true then some (.tup (aH lo (hi-lo).toNat),st)else none
  |none=>none
 |_,_=>none
abbrev iV:D->Option Int
 |.int i=>some i
 |_=>none
def FI:∀{ws:List V} {ds:List D} {ns:List Int},cx K W H ws ds->bX iV ds=some ns->ws=ns.map V.int
 |_,_,_,.nil,h=>by cases h;rfl
 |_,_,_,.cons a b,h=>by
  obtain⟨x,t,h1,h2,rfl⟩:=De h;rw[FI b h2];cases a<;>first|(cases h1;rfl)|cases h1
abbrev bV:D->Option Bool
 |.bl i=>some i
 |_=>none
abbrev A5:List D->Dm D
 |[.ref i],st=>match (items st i).bind (bX bV)with
  |some bs=>some (.bl (bs.all id),st)
  |none=>none
 |_,_=>none
abbrev wU(T:String)(st:Store):D->Bool
 |.str _=>T == "str"
 |.tup _=>T == "tuple"
 |.ref i=>T == "list" && (items st i).isSome
 |_=>false
def SW(l:Rl K W H st)(r:Rp K W H x a)(h:wU T st a=true):JX K T x H:=by
 cases r<;>first|(cases h;done)|skip
 ·exact eq_of_beq h
 ·next hi =>
  simp only[wU,ZaC]at h;obtain⟨ds,hd⟩:=ZbN.mp h.2;obtain⟨vs,s,_⟩:=l.items hi hd;exact .inl ⟨eq_of_beq h.1,vs,s⟩
 ·next s r=>exact .inr (.inl ⟨eq_of_beq h,_,s⟩)
abbrev iM(T:String)(g:D->List D->Dm D)(fo:ai->Dm D)(fa:ai->Dm (List D)):ai->Dm D:=λU st=>bnd (fo U st) λo st1=>if wU T st1 o=true then bnd (fa U st1) λas st2=>g o as st2 else none
def Dg(hr:xF K T r g)(ho:dB K to fo)(ha:rG K ta fa):dB K (MQ K T r to ta) (iM T g fo fa):=by
 intro W G H U st b st' Q l rs e q;obtain⟨o,st1,e1,e⟩:=cM e;split at e
 ·next ht =>
  obtain⟨as,st2,e2,e⟩:=cM e;refine ho W G H U st o st1 _ l rs e1 λx H1 W1 m1 l1 r1=>⟨SW l1 r1 ht,ha W1 G H1 U st1 as st2 _ l1 (rs.mn m1) e2 λxs H2 W2 m2 l2 r2=>?_⟩;exact hr W2 H2 st2 x xs o as b st' Q l2 (r1.mn m2) r2 e λv H3 W3 m3 l3 r3=>q v H3 W3 ((m1.trans m2).trans m3) l3 r3
 ·cases e
abbrev aL:D->List D->Dm D
 |.ref i,[y],st=>match own st i with
  |some xs=>if lim xs.length=true then some (.non,st.set i (.lst (xs ++ [y])))else none
  |none=>none
 |_,_,_=>none
def Dh:xF K "list" tf aL:=by
 intro W H st x xs a as b st' Q l rx uv e q;unfold aL at e;split at e
 ·split at e
  ·next ys hy =>
   split at e
   ·next hl =>
    cases e;obtain⟨v,rfl,r⟩:=uv.one';cases rx with
    |ref hi =>
     obtain⟨vs,e1,r1⟩:=l.obj _ _ _ hi (sH hy);obtain⟨l2,m2⟩:=l.putL hi (sH hy) (r1.append (.one r));exact⟨_,vs,v,rfl,rfl,e1,by rw[r1.length];exact Kx hl,q _ _ W m2 l2 .non⟩
   ·cases e
  ·cases e
 ·cases e
abbrev lR:D->List D->Dm D
 |.ref i,[.ref j],st=>match own st i,own st j with
  |some xs,some ys=>if lim (xs.length+ys.length)=true then some (.non,st.set i (.lst (xs ++ ys)))else none
  |_,_=>none
 |_,_,_=>none
def SX:xF K "list" tj lR:=by
 intro W H st x xs a as b st' Q l rx uv e q;unfold lR at e;split at e
 ·split at e
  ·next xs' ys hx hy =>
   split at e
   ·next hl =>
    cases e;obtain⟨v,rfl,r⟩:=uv.one';cases rx with
    |ref hi =>
     cases r with
     |ref hj =>
      obtain⟨vs,e1,r1⟩:=l.obj _ _ _ hi (sH hx);obtain⟨ws,e2,r2⟩:=l.obj _ _ _ hj (sH hy);obtain⟨l2,m2⟩:=l.putL hi (sH hx) (r1.append r2);exact⟨_,_,vs,ws,rfl,rfl,e1,e2,by rw[r1.length,r2.length];exact xG hl,q _ _ W m2 l2 .non⟩
   ·cases e
  ·cases e
 ·cases e
abbrev oj:D->List D->Dm D
 |.ref i,[.int k],st=>match own st i with
  | some xs=>if decide (-9223372036854775808<=k/\k < 9223372036854775808)=true then match seqIndex? k xs.length with
    |some j=>match xs[j]? with
     |some y=>some (y,st.set i (.lst (xs.eraseIdx j)))
     |none=>none
    |none=>none
   else none
  |none=>none
 |_,_,_=>none
def SY:xF K "list" va oj:=by
 intro W H st x xs a as b st' Q l rx uv e q;unfold oj at e;split at e
 ·split at e
  ·next ys hy =>
   split at e
   ·next hk =>
    split at e
    ·next j hj =>
     split at e
     ·next y hy' =>
      cases e;obtain⟨v,rfl,r⟩:=uv.one';cases r;cases rx with
      |ref hi =>
       obtain⟨vs,e1,r1⟩:=l.obj _ _ _ hi (sH hy);obtain⟨w,hw,rw'⟩:=r1.got hy';obtain⟨l2,m2⟩:=l.putL hi (sH hy) (r1.erase j);have hk:=of_decide_eq_true hk;exact⟨_,vs,_,j,w,rfl,rfl,e1,by lk,by lk,by rw[r1.length];exact hj,hw,q _ _ W m2 l2 (rw'.mn m2)⟩
     ·cases e
    ·cases e
   ·cases e
  ·cases e
 ·cases e
abbrev lr:D->List D->Dm D
 |.tup ds,[.int v],st=>match bX iV ds with
  |some ns=>match ns.findIdx? (λi=>decide (i=v))with
   |some j=>some (.int (j:Int),st)
   |none=>none
  |none=>none
 |_,_,_=>none
def S0:xF K "tuple" (sy K) lr:=by
 intro W H st x xs a as b st' Q l rx uv e q;unfold lr at e;split at e
 ·split at e
  ·next ns hn =>
   split at e
   ·next j hj =>
    cases e;obtain⟨v,rfl,r⟩:=uv.one';cases r;cases rx with
    |tup s r =>
     cases FI r hn;obtain⟨h1,h2,h3⟩:=ZbL.mp hj;refine⟨_,ns,_,j,rfl,rfl,s,?_,λi hi z=>?_,q _ H W .refl l (.int _)⟩
     ·rw[Zac h1];exact congrArg some (of_decide_eq_true h2)
     ·have:=h3 i hi
      obtain⟨hl,ez⟩:=Zab.mp z;rw[ez]at this;simp at this
   ·cases e
  ·cases e
 ·cases e
abbrev lS:D->List D->Dm D
 |.ref i,[.int v],st=>match (items st i).bind (bX iV)with
  |some ns=>if v∈ns/\ns.length<=1000/\∀i∈ns,-1000000000000000000<=i/\i<=1000000000000000000 then some (.int (ns.idxOf v:Int),st)else none
  |none=>none
 |_,_,_=>none
abbrev uw(st:Store):D->Option String
 |.non=>some "NoneType"
 |.bl _=>some "bool"
 |.int _=>some "int"
 |.str _=>some "str"
 |.tup _=>some "tuple"
 |.ref i=>match st[i]? with
  |some (.lst _)=>some "list"
  |some (.dct _)=>some "dict"
  |_=>none
 |.ty _=>none
abbrev qD:List D->Dm D
 |[a,.ty c],st=>match uw st a with
  |some T=>if T=c then some (.bl true,st)else none
  |none=>none
 |_,_=>none
end
section
variable {K:Zfr}
def S1:oi K EC uu:=by
 intro W H st x y a c b st' Q l rx ry e q;unfold uu at e;split at e
 ·split at e
  ·next ds hd =>
   split at e
   ·next ok =>
    cases e;rw[ZaC,decide_eq_true_eq]at ok;cases ry;cases rx with
    |ref hi =>
     obtain⟨vs,e1,r1⟩:=l.obj _ _ _ hi (sH hd);exact⟨_,_,vs,rfl,rfl,e1,by lk,by lk,by rw[r1.length];exact xG ok.2,λp hp=>q _ _ _ (Mn.new hp) (l.newL hp (r1.flat _)) (.ref (newR l))⟩
   ·cases e
  ·cases e
 ·cases e
def Rs.set(h:Rs K W H G U)(r:Rp K W H v d):Rs K W H (G.set i (some v)) (U.set i (some d)):=by
 refine⟨by rw[Za8,Za8];exact h.1,λj e hj=>?_⟩;by_cases hij:i=j;subst hij;have hl:i<U.length:=by
  have:=(Zab.mp hj).1
  rwa [Za8]at this
 rw[Zaj hl]at hj;cases hj;exact⟨v,by rw[Zaj (by rw[h.1];exact hl)],r⟩;rw[Zal hij]at hj;obtain⟨w,hw,rw'⟩:=h.2 j e hj;exact⟨w,by rw[Zal hij];exact hw,rw'⟩
abbrev A6(K:Zfr)(g:TG)(f:D->ai->Dm ai):Prop :=
 ∀(W:List Addr) (G:St) (H:Hp) (U:ai) (st:Store) (v:V) (d:D) (U':ai) (st':Store) (Q:St->Hp->Prop),Rl K W H st->Rs K W H G U->Rp K W H v d->f d U st=some (U',st') ->
  (∀G' H' W',Mn K W H W' H'->Rl K W' H' st'->Rs K W' H' G' U'->Q G' H')->g v G H Q
abbrev xK(K:Zfr)(g:uX)(f:List D->ai->Dm ai):Prop :=
 ∀(W:List Addr) (G:St) (H:Hp) (U:ai) (st:Store) (v:List V) (d:List D) (U':ai) (st':Store) (Q:St->Hp->Prop),Rl K W H st->Rs K W H G U->cx K W H v d->f d U st=some (U',st') ->
  (∀G' H' W',Mn K W H W' H'->Rl K W' H' st'->Rs K W' H' G' U'->Q G' H')->g v G H Q
abbrev hName(i:Nat):D->ai->Dm ai:=λd U st=>some (U.set i (some d),st)
def iG(i:Nat):A6 K (rj i) (hName i):=by intro W G H U st v d U' st' Q l rs r e q;cases e;exact q _ H W .refl l (rs.set r)
abbrev gq:List D->ai->Dm ai
 |[],U,st=>some (U,st)
 |_,_,_=>none
abbrev aM(f:D->ai->Dm ai)(g:List D->ai->Dm ai):List D->ai->Dm ai
 |d :: ds,U,st=>bnd (f d U st) λU1 st1=>g ds U1 st1
 |_,_,_=>none
def A7:xK K D8 gq:=by
 intro W G H U st v d U' st' Q l rs r e q;cases r with
 |nil=>cases e;exact⟨rfl,q _ H W .refl l rs⟩
 |cons a b=>cases e
def tR(hf:A6 K t f)(hg:xK K u g):xK K (yh t u) (aM f g):=by
 intro W G H U st v d U' st' Q l rs r e q;cases r with
 |nil=>cases e
 |cons a b =>
  obtain⟨U1,st1,e1,e⟩:=cM e;exact⟨_,_,rfl,hf W G H U st _ _ U1 st1 _ l rs a e1 λG1 H1 W1 m1 l1 r1=>hg W1 G1 H1 U1 st1 _ _ U' st' Q l1 r1 (b.mn m1) e λG2 H2 W2 m2 l2 r2=>q G2 H2 W2 (m1.trans m2) l2 r2⟩
abbrev fX(n:Nat)(f:List D->ai->Dm ai):D->ai->Dm ai
 |.tup ds,U,st=>if ds.length=n then f ds U st else none
 |_,_,_=>none
def A8(hf:xK K t f):A6 K (zZ K n t) (fX n f):=by
 intro W G H U st v d U' st' Q l rs r e q;cases r<;>first|(cases e;done)|skip
 ·next s r =>
  simp only[fX]at e;split at e
  ·next hl=>exact⟨_,_,rfl,s,by rw[r.length];exact hl,hf W G H U st _ _ U' st' Q l rs r e q⟩
  ·cases e
abbrev hSub(fo fi:ai->Dm D):D->ai->Dm ai:=λd U st=>bnd (fo U st) λo st1=>bnd (fi U st1) λi st2=>match o,i with
 |.ref r,.int k=>match own st2 r with
  |some xs=>match oA xs.length k with
   |some j=>some (U,st2.set r (.lst (xs.set j d)))
   |none=>none
  |none=>none
 |_,_=>none
def S2(ho:dB K to fo)(hi:dB K ti fi):A6 K (L2.mD to ti yw) (hSub fo fi):=by
 intro W G H U st v d U' st' Q l rs r e q;obtain⟨o,st1,e1,e⟩:=cM e;obtain⟨i,st2,e2,e⟩:=cM e;refine ho W G H U st o st1 _ l rs e1 λx H1 W1 m1 l1 r1=>hi W1 G H1 U st1 i st2 _ l1 (rs.mn m1) e2 λy H2 W2 m2 l2 r2=>?_;split at e
 ·split at e
  ·next xs hx =>
   split at e
   ·next j hj =>
    cases e;cases r2;cases r1 with
    |ref hr =>
     have hr2:=m2.r _ _ hr;obtain⟨vs,e3,r3⟩:=l2.obj _ _ _ hr2 (sH hx);obtain⟨l3,m3⟩:=l2.putL hr2 (sH hx) (r3.set (r.mn (m1.trans m2)) j);exact⟨_,vs,_,j,rfl,rfl,e3,by rw[r3.length];exact hj,q G _ W2 ((m1.trans m2).trans m3) l3 (rs.mn ((m1.trans m2).trans m3))⟩
   ·cases e
  ·cases e
 ·cases e
abbrev Go(K:Zfr)(W:List Addr)(H:Hp)(st':Store)(E:Ends):Fl->Prop
 |.nx U=>∀G' H' W',Mn K W H W' H'->Rl K W' H' st'->Rs K W' H' G' U->E.nx G' H'
 |.bk U=>∀G' H' W',Mn K W H W' H'->Rl K W' H' st'->Rs K W' H' G' U->E.bk G' H'
 |.ct U=>∀G' H' W',Mn K W H W' H'->Rl K W' H' st'->Rs K W' H' G' U->E.ct G' H'
 |.rt d=>∀v H' W',Mn K W H W' H'->Rl K W' H' st'->Rp K W' H' v d->E.rt v H'
def Go.mn(g:Go K W H st' E fl)(m:Mn K W H W1 H1):Go K W1 H1 st' E fl:=by cases fl<;>exactλv H' W' m' l r=>g v H' W' (m.trans m') l r
abbrev qE(K:Zfr)(t:TS)(f:ai->Dm Fl):Prop :=
 ∀(W:List Addr) (G:St) (H:Hp) (U:ai) (st:Store) (fl:Fl) (st':Store) (E:Ends),Rl K W H st->Rs K W H G U->f U st=some (fl,st')->Go K W H st' E fl->t E G H
abbrev aO:ai->Dm Fl:=λU st=>some (.nx U,st)
def wV:qE K yf aO:=by intro W G H U st fl st' E l rs e g;cases e;exact g G H W .refl l rs
abbrev au(f g:ai->Dm Fl):ai->Dm Fl:=λU st=>bnd (f U st) λfl st1=>match fl with
 |.nx U1=>g U1 st1
 |x=>some (x,st1)
def lu(hf:qE K t f)(hg:qE K u g):qE K (D2 t u) (au f g):=by
 intro W G H U st fl st' E l rs e q;obtain⟨x,st1,e1,e⟩:=cM e;refine hf W G H U st x st1 _ l rs e1 ?_;cases x with
 |nx U1=>exactλG1 H1 W1 m1 l1 r1=>hg W1 G1 H1 U1 st1 fl st' E l1 r1 e (q.mn m1)
 |bk U1=>cases e;exact q
 |ct U1=>cases e;exact q
 |rt d=>cases e;exact q
def vR(hc:sE K c fc)(hf:qE K t f)(hg:qE K u g):qE K (D4 c t u) (c7 fc f g):=by
 intro W G H U st fl st' E l rs e q;obtain⟨a,st1,e1,e⟩:=cM e;refine hc W G H U st _ _ _ l rs e1 λx H1 W1 m1 l1 r1=>?_;subst r1;cases x with
 |true =>
  refine su ?_;rw[if_pos rfl]at e;exact hf W1 G H1 U st1 fl st' E l1 (rs.mn m1) e (q.mn m1)
 |false =>
  refine sr ?_;rw[if_neg Zam]at e;exact hg W1 G H1 U st1 fl st' E l1 (rs.mn m1) e (q.mn m1)
abbrev bF(f:ai->Dm D):ai->Dm Fl:=λU st=>bnd (f U st) λ_ st1=>some (.nx U,st1)
def Di(hf:dB K t f):qE K (yg t) (bF f):=by intro W G H U st fl st' E l rs e q;obtain⟨a,st1,e1,e⟩:=cM e;cases e;exact hf W G H U st a _ _ l rs e1 λx H1 W1 m1 l1 r1=>q G H1 W1 m1 l1 (rs.mn m1)
abbrev aV(f:ai->Dm D):ai->Dm Fl:=λU st=>bnd (f U st) λd st1=>some (.rt d,st1)
def wW(hf:dB K t f):qE K (D3 t) (aV f):=by intro W G H U st fl st' E l rs e q;obtain⟨a,st1,e1,e⟩:=cM e;cases e;exact hf W G H U st a _ _ l rs e1 λx H1 W1 m1 l1 r1=>q x H1 W1 m1 l1 r1
abbrev aA(f:ai->Dm D)(h:D->ai->Dm ai):ai->Dm Fl:=λU st=>bnd (f U st) λd st1=>bnd (h d U st1) λU1 st2=>some (.nx U1,st2)
def nE(hf:dB K t f)(hh:A6 K g h):qE K (xh t g) (aA f h):=by intro W G H U st fl st' E l rs e q;obtain⟨a,st1,e1,e⟩:=cM e;obtain⟨U1,st2,e2,e⟩:=cM e;cases e;exact hf W G H U st a st1 _ l rs e1 λx H1 W1 m1 l1 r1=>hh W1 G H1 U st1 x a U1 _ _ l1 (rs.mn m1) r1 e2 λG2 H2 W2 m2 l2 r2=>q G2 H2 W2 (m1.trans m2) l2 r2
abbrev vS(i j:Nat)(fa:ai->Dm (List D)):ai->Dm Fl:=λU st=>bnd (fa U st) λas st1=>match as with
 |[a,b]=>some (.nx ((U.set i (some a)).set j (some b)),st1)
 |_=>none
def S3(ha:rG K t fa):qE K (D9 i j t) (vS i j fa):=by intro W G H U st fl st' E l rs e q;obtain⟨as,st1,e1,e⟩:=cM e;split at e;cases e;refine ha W G H U st _ _ _ l rs e1 λx H1 W1 m1 l1 r1=>?_;obtain⟨v,w,rfl,r,r'⟩:=r1.two';exact⟨v,w,rfl,q _ H1 W1 m1 l1 (((rs.mn m1).set r).set r')⟩;cases e
abbrev hV(c:ai->Dm Bool)(b:ai->Dm Fl):Nat->ai->Dm Fl
 |0,_,_=>none
 | n + 1,U,st=>bnd (c U st) λt st1=>if t=true then bnd (b U st1) λfl st2=>match fl with
   |.nx U2=>hV c b n U2 st2
   |.ct U2=>hV c b n U2 st2
   |.bk U2=>some (.nx U2,st2)
   |.rt d=>some (.rt d,st2)
  else some (.nx U,st1)
abbrev fuel:Nat:=1000000
abbrev jr(c:ai->Dm Bool)(b:ai->Dm Fl):ai->Dm Fl:=hV c b fuel
def Oc(hc:sE K tc c)(hb:qE K tb b):qE K (uY tc tb) (jr c b):=by
 intro W G H U st fl st' E l rs e q;refine⟨λm G1 H1=>∃W1 U1 st1,Mn K W H W1 H1/\Rl K W1 H1 st1/\Rs K W1 H1 G1 U1/\hV c b m U1 st1=some (fl,st'),⟨fuel,W,U,st,.refl,l,rs,e⟩,?_⟩;rintro m G1 H1 ⟨W1,U1,st1,m1,l1,zc,e1⟩;cases m with
 |zero=>cases e1
 |succ m =>
  obtain⟨t,st2,e2,e1⟩:=cM e1;refine hc W1 G1 H1 U1 st1 _ _ _ l1 zc e2 λx H2 W2 m2 l2 r2=>?_;subst r2;cases x with
  |true =>
   refine su ?_;rw[if_pos rfl]at e1;obtain⟨f2,st3,e3,e1⟩:=cM e1;refine⟨λG3 H3=>∃m',m' < m+1/\∃W1 U1 st1,Mn K W H W1 H3/\Rl K W1 H3 st1/\Rs K W1 H3 G3 U1/\hV c b m' U1 st1=some (fl,st'),λ_ _ h=>h,hb W2 G1 H2 U1 st2 f2 st3 _ l2 (zc.mn m2) e3 ?_⟩;cases f2 with
   |nx U3=>exactλG3 H3 W3 m3 l3 r3=>⟨m,Zbb m,W3,U3,st3,(m1.trans m2).trans m3,l3,r3,e1⟩
   |ct U3=>exactλG3 H3 W3 m3 l3 r3=>⟨m,Zbb m,W3,U3,st3,(m1.trans m2).trans m3,l3,r3,e1⟩
   |bk U3=>cases e1;exact q.mn (m1.trans m2)
   |rt d=>cases e1;exact q.mn (m1.trans m2)
  |false =>
   refine sr ?_;rw[if_neg Zam]at e1;cases e1;exact q.mn (m1.trans m2) G1 H2 W2 .refl l2 (zc.mn m2)
inductive Src where
 |fix (ds:List D)|live (i:Nat)|Zf (i:Nat)|zl (i:Nat) (es:List D)|zr (ds:List D) (i:Nat)|fn (f:Nat->Store->Option (Option D))
abbrev Src.at:Src->Nat->Store->Option (Option D)
 |.fix ds,i,_=>if i<=ds.length then some ds[i]? else none
 |.live r,i,st=>(items st r).map λds=>ds[i]?
 |.Zf r,i,st=>(items st r).bind λds=>if i<=ds.length then some (ds.mapIdx λi d=>D.tup [.int (i:Int),d])[i]? else none
 |.zl r es,i,st=>(items st r).bind λds=>if i<=(List.zipWith (λa b=>D.tup [a,b]) ds es).length then some (List.zipWith (λa b=>D.tup [a,b]) ds es)[i]? else none
 |.zr ds r,i,st=>(items st r).bind λes=>if i<=(List.zipWith (λa b=>D.tup [a,b]) ds es).length then some (List.zipWith (λa b=>D.tup [a,b]) ds es)[i]? else none
 |.fn f,i,st=>f i st
def zd(h:Src.at (.fix ds) i st=some o):i<=ds.length/\ds[i]?=o:=by
 simp only[Src.at]at h;split at h
 ·next hl=>exact⟨hl,Zao h⟩
 ·cases h
abbrev FJ(K:Zfr)(W:List Addr)(H:Hp)(J:It)(S:Src):Prop :=
 ∀(W2:List Addr) (H2:Hp) (st2:Store) (i:Nat),Mn K W H W2 H2->Rl K W2 H2 st2 ->
  (S.at i st2=some none->J.stop i H2)/\∀d,S.at i st2=some (some d)->J.go i H2/\∀x H3,J.xi i H2 x H3->Mn K W2 H2 W2 H3/\Rl K W2 H3 st2/\Rp K W2 H3 x d
@[reducible]def ze(K:Zfr)(t:TI)(f:ai->Dm Src):Prop:=So K (FJ K) t f
abbrev jt(S:Src)(g:D->ai->Dm ai)(b:ai->Dm Fl):Nat->Nat->ai->Dm Fl
 |0,_,_,_=>none
 |n+1,i,U,st=>match S.at i st with
  |none=>none
  |some none=>some (.nx U,st)
  |some (some d)=>bnd (g d U st) λU1 st1=>bnd (b U1 st1) λfl st2=>match fl with
   |.nx U2=>jt S g b n (i+1) U2 st2
   |.ct U2=>jt S g b n (i+1) U2 st2
   |.bk U2=>some (.nx U2,st2)
   |.rt d=>some (.rt d,st2)
abbrev bY(fi:ai->Dm Src)(g:D->ai->Dm ai)(b:ai->Dm Fl):ai->Dm Fl:=λU st=>bnd (fi U st) λS st1=>jt S g b fuel 0 U st1
def wX(hi:ze K wi fi)(hg:A6 K tg g)(hb:qE K tb b):qE K (Ed wi tg tb) (bY fi g b):=by
 intro W G H U st fl st' E l rs e q;obtain⟨S,mK,e0,e⟩:=cM e;refine hi W G H U st S mK _ l rs e0 λJ H0 W0 m0 l0 ok=>?_;refine⟨λi m G1 H1=>∃W1 U1 st1,Mn K W0 H0 W1 H1/\Rl K W1 H1 st1/\Rs K W1 H1 G1 U1/\jt S g b m i U1 st1=some (fl,st'),⟨fuel,W0,U,mK,.refl,l0,rs.mn m0,e⟩,?_⟩;rintro i m G1 H1 ⟨W1,U1,st1,m1,l1,zc,e1⟩;cases m with
 |zero=>cases e1
 |succ m =>
  obtain⟨hstop,hgo⟩:=ok W1 H1 st1 i m1 l1;unfold jt at e1;split at e1
  ·cases e1
  ·next hs=>cases e1;exact .inl ⟨hstop hs,q.mn (m0.trans m1) G1 H1 W1 .refl l1 zc⟩
  ·next d hs =>
   obtain⟨U2,st2,e2,e1⟩:=cM e1;obtain⟨f3,st3,e3,e1⟩:=cM e1;obtain⟨go,xi⟩:=hgo d hs;refine .inr ⟨go,λG3 H3=>∃m',m' < m+1/\∃W1 U1 st1,Mn K W0 H0 W1 H3/\Rl K W1 H3 st1/\Rs K W1 H3 G3 U1/\jt S g b m' (i+1) U1 st1=some (fl,st'),λ_ _ h=>h,λx H2 hy=>?_⟩;obtain⟨m2,l2,r2⟩:=xi x H2 hy;refine hg W1 G1 H2 U1 st1 x d U2 st2 _ l2 (zc.mn m2) r2 e2 λG4 H4 W4 m4 l4 r4=>hb W4 G4 H4 U2 st2 f3 st3 _ l4 r4 e3 ?_;have m5:=((m1.trans m2).trans m4);cases f3 with
   |nx U3=>exactλG5 H5 W5 m6 l5 r5=>⟨m,Zbb m,W5,U3,st3,m5.trans m6,l5,r5,e1⟩
   |ct U3=>exactλG5 H5 W5 m6 l5 r5=>⟨m,Zbb m,W5,U3,st3,m5.trans m6,l5,r5,e1⟩
   |bk U3=>cases e1;exact q.mn (m0.trans m5)
   |rt d=>cases e1;exact q.mn (m0.trans m5)
abbrev bT(fa:ai->Dm D):ai->Dm Src:=λU st=>bnd (fa U st) λa st1=>match a with
 |.tup ds=>some (.fix ds,st1)
 |_=>none
def Dj(ha:dB K t fa):ze K (Eb K t) (bT fa):=by
 intro W G H U st S st' Q l rs e q;obtain⟨a,st1,e1,e⟩:=cM e;cases a<;>simp at e;obtain⟨rfl,rfl⟩:=e;refine ha W G H U st _ _ _ l rs e1 λx H1 W1 m1 l1 r1=>?_;cases r1 with
 |tup s r =>
  refine⟨_,rfl,⟨_,s⟩,q _ H1 W1 m1 l1 λW2 H2 st2 i m2 l2=>⟨λh=>?_,λd h=>?_⟩⟩;exact⟨_,m2.t _ _ s,by rw[r.length];exact ZaT.mp (zd h).2⟩;obtain⟨v,hv,rv⟩:=r.got (zd h).2;refine⟨⟨_,v,m2.t _ _ s,hv⟩,λx H3 y=>?_⟩;obtain⟨rfl,hx⟩:=y;have:=hx _ (m2.t _ _ s);rw[hv]at this;cases this;exact⟨.refl,l2,rv.mn m2⟩
abbrev ju(fa:ai->Dm D):ai->Dm Src:=λU st=>bnd (fa U st) λa st1=>match a with
 |.ref i=>match items st1 i with
  |some _=>some (.live i,st1)
  |none=>none
 |_=>none
def Oe(ha:dB K t fa):ze K (uZ K t) (ju fa):=by
 intro W G H U st S st' Q l rs e q;obtain⟨a,st1,e1,e⟩:=cM e;split at e
 ·next k =>
  split at e
  ·next ds hd =>
   cases e;refine ha W G H U st _ _ _ l rs e1 λx H1 W1 m1 l1 r1=>?_;cases r1 with
   |ref hi =>
    obtain⟨vs,s,r⟩:=l1.items hi hd;refine⟨_,rfl,⟨_,s⟩,q _ H1 W1 m1 l1 λW2 H2 st2 i m2 l2=>⟨λh=>?_,λd h=>?_⟩⟩
    ·obtain⟨Zg,hd2,h⟩:=Zay.mp h
     obtain⟨S4,s2,r2⟩:=l2.items (m2.r _ _ hi) hd2;exact⟨S4,s2,by rw[r2.length];exact ZaT.mp h⟩
    ·obtain⟨Zg,hd2,h⟩:=Zay.mp h
     obtain⟨S4,s2,r2⟩:=l2.items (m2.r _ _ hi) hd2;obtain⟨v,hv,rv⟩:=r2.got h;refine⟨⟨_,v,s2,hv⟩,λx H3 y=>?_⟩;obtain⟨rfl,hx⟩:=y;have:=hx _ s2;rw[hv]at this;cases this;exact⟨.refl,l2,rv⟩
  ·cases e
 ·cases e
abbrev bR(fa:ai->Dm (List D)):ai->Dm Src:=λU st=>bnd (fa U st) λas st1=>match as with
 |[.int j]=>if decide (-4611686018427387904<=j/\j<4611686018427387904)=true then some (.fix (aH 0 j.toNat),st1)else none
 |_=>none
abbrev qF(fa:ai->Dm (List D)):ai->Dm Src:=λU st=>bnd (fa U st) λas st1=>match as with
 |[.int i,.int j]=>if decide ((-4611686018427387904<=i/\i<4611686018427387904)/\-4611686018427387904<=j/\j<4611686018427387904)=true then some (.fix (aH i (j-i).toNat),st1)else none
 |_=>none
def gs(lo:Int)(n:Nat):(aH lo n).length=n:=by simp[aH]
def zf(h:k<n):(aH lo n)[k]?=some (.int (lo+k)):=by simp[aH,h]
def S5(lo:Int)(n:Nat):FJ K W H (Ea lo n) (.fix (aH lo n)):=by
 intro W2 H2 st2 i m2 l2;refine⟨λh=>?_,λd h=>?_⟩
 have:=ZaT.mp (zd h).2
 rw[gs]at this;exact this;have h:=(zd h).2;have hl:=(Zab.mp h).1;rw[gs]at hl;rw[zf hl]at h;cases h;refine⟨hl,λx H3 y=>?_⟩;obtain⟨rfl,rfl⟩:=y;exact⟨.refl,l2,.int _⟩
def FK(ha:rG K t fa):ze K (yj t) (bR fa):=by
 intro W G H U st S st' Q l rs e q;obtain⟨as,st1,e1,e⟩:=cM e;split at e
 ·split at e
  ·next ok =>
   cases e;have ok:=of_decide_eq_true ok;refine ha W G H U st _ _ _ l rs e1 λx H1 W1 m1 l1 r1=>?_;obtain⟨v,rfl,r⟩:=r1.one';cases r;exact⟨_,rfl,by lk,by lk,q _ H1 W1 m1 l1 (S5 0 _)⟩
  ·cases e
 ·cases e
def Zh(ha:rG K t fa):ze K (ym t) (qF fa):=by
 intro W G H U st S st' Q l rs e q;obtain⟨as,st1,e1,e⟩:=cM e;split at e
 ·split at e
  ·next ok =>
   cases e;have ok:=of_decide_eq_true ok;refine ha W G H U st _ _ _ l rs e1 λx H1 W1 m1 l1 r1=>?_;obtain⟨v,w,rfl,r,r'⟩:=r1.two';cases r;cases r';exact⟨_,_,rfl,by lk,q _ H1 W1 m1 l1 (S5 _ _)⟩
  ·cases e
 ·cases e
abbrev gg(ds:List D):List D:=ds.mapIdx λi d=>.tup [.int (i:Int),d]
def FL(ds:List D):(gg ds).length=ds.length:=by simp[gg]
def Og{ds:List D}{i:Nat}{x:D}(h:(gg ds)[i]?=some x):∃d,ds[i]?=some d/\x=.tup [.int (i:Int),d]:=by unfold gg at h;rw[List.getElem?_mapIdx]at h;obtain⟨d,h1,h2⟩:=Zay.mp h;exact⟨d,h1,h2.symm⟩
abbrev mS(fa:ai->Dm (List D)):ai->Dm Src:=λU st=>bnd (fa U st) λas st1=>match as with
 |[.tup ds]=>some (.fix (gg ds),st1)
 |_=>none
def Oh(ha:rG K t fa):ze K (yF K t) (mS fa):=by
 intro W G H U st S st' Q l rs e q;obtain⟨as,st1,e1,e⟩:=cM e;split at e;cases e;refine ha W G H U st _ _ _ l rs e1 λx H1 W1 m1 l1 r1=>?_;obtain⟨v,rfl,r⟩:=r1.one';cases r with
 |tup s r =>
  refine⟨_,rfl,⟨_,s⟩,q _ H1 W1 m1 l1 λW2 H2 st2 i m2 l2=>⟨λh=>?_,λd h=>?_⟩⟩;obtain⟨h1,h2⟩:=zd h;have h2:=ZaT.mp h2;rw[FL]at h1 h2;exact⟨_,m2.t _ _ s,by rw[r.length];lk⟩;obtain⟨h1,h2⟩:=zd h;obtain⟨d',hd',rfl⟩:=Og h2;obtain⟨v,hv,rv⟩:=r.got hd';refine⟨⟨_,v,m2.t _ _ s,hv⟩,λx H3 y=>?_⟩;obtain⟨p,z,rfl,hp,rfl,hx⟩:=y;have:=hx _ (m2.t _ _ s);rw[hv]at this;cases this;have m3:Mn K W2 H2 W2 (upd H2 p (.tup [.int (i:Int),v])):=Mn.same (gi.up hp);exact⟨m3,l2.same (gi.up hp),.tup (fV.of rf) (.cons (.int _) (.one ((rv.mn m2).mn m3)))⟩
 cases e
abbrev j7(S:Src)(g:D->ai->Dm ai)(tc:ai->Dm Bool)(te:ai->Dm D):Nat->Nat->List D->ai->Dm (List D)
 |0,_,_,_,_=>none
 |n+1,i,ys,U,st=>if lim ys.length=true then match S.at i st with
  |none=>none
  |some none=>some (ys,st)
  |some (some d)=>bnd (g d U st) λU1 st1=>bnd (tc U1 st1) λt st2=>if t=true then bnd (te U1 st2) λy st3=>j7 S g tc te n (i+1) (ys ++ [y]) U1 st3 else j7 S g tc te n (i+1) ys U1 st2
  else none
abbrev rK(n:Nat)(js:List Nat)(U:ai):ai:=List.replicate n none ++ js.map λj=>U.getD j none
abbrev bU(fi:ai->Dm Src)(n:Nat)(js:List Nat)(g:D->ai->Dm ai)(tc:ai->Dm Bool)(te:ai->Dm D):ai->Dm D:=λU st=>bnd (fi U st) λS st1=>bnd (j7 S g tc te fuel 0 [] (rK n js U) st1) λys st2=>some (.ref st2.length,st2 ++ [.lst ys])
def Rs.comp(h:Rs K W H G U)(n:Nat)(js:List Nat):Rs K W H (lh n js G) (rK n js U):=by
 unfold lh rK;refine⟨by simp,λi d hd=>?_⟩;by_cases hi:i<n;rw[Zan (by simpa using hi),ZbT,if_pos hi]at hd;cases hd;rw[Zav (by simpa using Zcn hi),Zag]at hd;rw[Zav (by simpa using Zcn hi),Zag];simp only[Zbg]at hd ⊢;cases hj:js[i-n]? with
 |none=>rw[hj]at hd;cases hd
 |some j =>
  rw[hj]at hd;have hd:U.getD j none=some d:=Zao hd;rw[Zaf]at hd;have hd':U[j]?=some (some d):=by
   cases hx:U[j]? with
   |none=>rw[hx]at hd;cases hd
   |some y=>rw[hx]at hd;exact congrArg some hd
  obtain⟨v,hv,r⟩:=h.2 j d hd';exact⟨v,by show some (G.getD j none)=_;rw[Zaf,hv];rfl,r⟩
def KD(hi:ze K wi fi)(hg:A6 K tg g)(hc:sE K tc c)(hf:dB K te f):dB K (vz wi n js tg tc te) (bU fi n js g c f):=by
 intro W G H U st b st' Q l rs e q;obtain⟨S,mK,e0,e⟩:=cM e;obtain⟨zs,qZ,e9,e⟩:=cM e;cases e;refine hi W G H U st S mK _ l rs e0 λJ H0 W0 m0 l0 ok=>?_;refine⟨λi m ys G1 H1=>∃W1 U1 st1 ws,Mn K W0 H0 W1 H1/\Rl K W1 H1 st1/\Rs K W1 H1 G1 U1/\cx K W1 H1 ys ws/\j7 S g c f m i ws U1 st1=some (zs,qZ),⟨fuel,W0,_,mK,[],.refl,l0,(rs.mn m0).comp n js,.nil,e9⟩,?_⟩;rintro i m ys G1 H1 ⟨W1,U1,st1,ws,m1,l1,zc,KG,e1⟩;cases m with
 |zero=>cases e1
 |succ m =>
  obtain⟨hstop,hgo⟩:=ok W1 H1 st1 i m1 l1;unfold j7 at e1;split at e1
  ·next hl =>
   refine⟨by rw[KG.length];exact Kx hl,?_⟩;split at e1
   ·cases e1
   ·next hs =>
    cases e1;exact .inl ⟨hstop hs,λp hp=>q _ _ _ ((m0.trans m1).trans (Mn.new hp)) (l1.newL hp KG) (.ref (newR l1))⟩
   ·next d hs =>
    obtain⟨U2,st2,e2,e1⟩:=cM e1;obtain⟨t,st3,e3,e1⟩:=cM e1;obtain⟨go,xi⟩:=hgo d hs;refine .inr ⟨go,λx H2 hy=>?_⟩;obtain⟨m2,l2,r2⟩:=xi x H2 hy;refine hg W1 G1 H2 U1 st1 x d U2 st2 _ l2 (zc.mn m2) r2 e2 λG4 H4 W4 m4 l4 r4=>hc W4 G4 H4 U2 st2 t st3 _ l4 r4 e3 λt' H5 W5 m5 l5 r5=>?_;subst r5;have m6:=(((m1.trans m2).trans m4).trans m5);cases t' with
    |true =>
     refine su ?_;rw[if_pos rfl]at e1;obtain⟨y,Oi,e6,e1⟩:=cM e1;exact hf W5 G4 H5 U2 st3 y Oi _ l5 (r4.mn m5) e6 λv H7 W7 m7 l7 r7=>⟨m,Zbb m,W7,U2,Oi,ws ++ [y],m6.trans m7,l7,r4.mn (m5.trans m7),(KG.mn (((m2.trans m4).trans m5).trans m7)).append (.one r7),e1⟩
    |false =>
     refine sr ?_;rw[if_neg Zam]at e1;exact⟨m,Zbb m,W5,U2,st3,ws,m6,l5,r4.mn m5,KG.mn ((m2.trans m4).trans m5),e1⟩
  ·cases e1
abbrev b8:ai->Dm Bool:=λ_ st=>some (true,st)
abbrev dC(n:Nat)(b:ai->Dm Fl):List D->Dm D:=λds st=>bnd (b (ds.map some ++ List.replicate (n-ds.length) none) st) λfl st1=>match fl with
 |.rt d=>some (d,st1)
 |.nx _=>some (.non,st1)
 |_=>none
def Rs.start(r:cx K W H vs ds)(N:List Str):Rs K W H (start N vs) (ds.map some ++ List.replicate (N.length-ds.length) none):=by
 unfold L2.start;rw[r.length];refine⟨by simp[r.length],λi d hd=>?_⟩;by_cases hi:i<ds.length;rw[Zan (by simpa using hi),Zag]at hd;rw[Zan (by rw[Zaa,r.length];exact hi),Zag];cases hx:ds[i]? with
 |none=>rw[hx]at hd;cases hd
 |some y =>
  rw[hx]at hd;cases hd;obtain⟨v,hv,rv⟩:=r.got hx;exact⟨v,by rw[hv];rfl,rv⟩
 rw[Zav (by simpa using Zcn hi),ZbT]at hd;split at hd<;>cases hd
def eA(hb:qE K t b)(hn:N.length=n)(h:bg K k (dC n b) vs H Q E):t { nx:=λ_ H'=>Q .non H',rt:=Q } (start N vs) H:=by
 obtain⟨hk,W,st,ds,d,st',l,r,e,q⟩:=h;subst hn;obtain⟨fl,st1,e1,e⟩:=cM e;refine hb W _ H _ st fl st1 _ l (Rs.start r N) e1 ?_;cases fl with
 |rt v=>cases e;exact q
 |nx U=>cases e;exactλG' H' W' m l' r'=>q .non H' W' m l' .non
 |bk U=>cases e
 |ct U=>cases e
end
section
variable {X:Cx}{K:Zfr}
def Zi{N:List Str}{vT:Scope}{cells:List (Str×Addr)}{C:Addr}{fp:List Addr}{s:Shared}{H:Hp}{vU:Scope}{own fr:List Str}(h:vw (vt vT X.env.scope) vU own fr):vw (aN X N vT cells C fp s H).env.scope vU own fr:=h
def KH:sE K (λ_ H Q=>Q true H) b8:=by intro W G H U st b st' Q l rs e q;cases e;exact q _ H W .refl l rfl
end
abbrev zg(K:Zfr):Sp:=λvs H Q _=>∃(a:Addr) (ns:List Int),vs=[.ref a]/\EK K H a (ns.map V.int)/\ns.length<=63/\∀H',Q (.bl true) H'
def A9{P:Program}{w:World}{K:Zfr}{mg:Str->Option Value}{base:Heap}{k:Nat}{f:Addr}{fd:FuncData}{ps:List Str}{F:List D->Dm D}(G:aD P w K mg base a9 k f fd ps (bg K 1 F))
  (h:∀ns:List Int,ns.length<=63->∃st',F [.ref 0] [.qd (ns.map D.int)]=some (.bl true,st')):aD P w K mg base a9 k f fd ps (zg K):=by
 refine G.imp λvs H Q E hs=>?_;obtain⟨a,ns,rfl,hS,hn,q⟩:=hs;obtain⟨st',e⟩:=h ns hn;have one:∀i (b:Addr),([a]:List Addr)[i]?=some b->i=0/\b=a:=λi b h=>by
  cases i with
  |zero=>exact⟨rfl,(Zao h).symm⟩
  |succ i=>simp at h
 refine⟨rfl,[a],[.qd (ns.map D.int)],[.ref 0],.bl true,st',⟨rfl,λi j b o o' h1 h2 _ _ _ _=>by rw[(one i b h1).1,(one j b h2).1],λi b o h1 h2=>?_⟩,.one (.ref rfl),e,λv H' W' m l r=>by cases r;exact q H'⟩;obtain⟨rfl,rfl⟩:=one i b h1;cases(Zao h2);exact⟨ns.map V.int,hS,cx.ints ns⟩
abbrev Wp{J:Type}(m:Option (J×Store))(Q:J->Store->Prop):Prop:=∃a st,m=some (a,st)/\Q a st
section
variable {J S:Type}{Q Q':J->Store->Prop}{st:Store}{U:ai}
def aR(h:Wp m Q)(hq:∀a st,Q a st->Q' a st):Wp m Q':=let ⟨a,st,e,q⟩:=h;⟨a,st,e,hq a st q⟩
def a5:Wp (some (a,st)) Q↔Q a st:=⟨λ⟨_,_,e,q⟩=>by cases e;exact q,λq=>⟨a,st,rfl,q⟩⟩
def hW:Wp (none:Option (J×Store)) Q↔False:=⟨λ⟨_,_,e,_⟩=>(by cases e),False.elim⟩
def c5{R:S->Store->Prop}{m:Option (J×Store)}{k:J->Dm S}:Wp (bnd m k) R↔Wp m λa st1=>Wp (k a st1) R:=by
 cases m with
 |none=>exact⟨λ⟨_,_,e,_⟩=>(by cases e),λ⟨_,_,e,_⟩=>(by cases e)⟩
 |some p=>exact⟨λh=>⟨p.1,p.2,rfl,h⟩,λ⟨a,s,e,h⟩=>by cases e;exact h⟩
def qh{c:Prop}[Decidable c]:Wp (if c then m else n) Q↔if c then Wp m Q else Wp n Q:=by split<;>exact Iff.rfl
end
section
variable {st:Store}{U:ai}{Q:D->Store->Prop}
def Oj{i:Nat}:Wp (ag i U st) Q↔∃d,U[i]?=some (some d)/\Q d st:=by
 unfold ag;split
 ·next d hd=>rw[a5];exact⟨λh=>⟨d,hd,h⟩,λ⟨e,he,h⟩=>by rw[hd]at he;cases he;exact h⟩
 ·next h=>rw[hW];exact⟨False.elim,λ⟨e,he,_⟩=>h e he⟩
def Ol{d:D}:Wp (fC d U st) Q↔Q d st:=a5
def KI{g:D->D->Dm D}{fa fb:ai->Dm D}:Wp (ao g fa fb U st) Q↔Wp (fa U st) λa st1=>Wp (fb U st1) λb st2=>Wp (g a b st2) Q:=by unfold ao;rw[c5];simp only[c5]
def FN{g:D->Dm D}{fa:ai->Dm D}:Wp (rH g fa U st) Q↔Wp (fa U st) λa st1=>Wp (g a st1) Q:=c5
def Dk{g:List D->Dm D}{fa:ai->Dm (List D)}:Wp (aJ g fa U st) Q↔Wp (fa U st) λa st1=>Wp (g a st1) Q:=c5
def KJ{R:List D->Store->Prop}:Wp (ah U st) R↔R [] st:=a5
def uN{R:List D->Store->Prop}{fa:ai->Dm D}{fr:ai->Dm (List D)}:Wp (ae fa fr U st) R↔Wp (fa U st) λa st1=>Wp (fr U st1) λr st2=>R (a :: r) st2:=by unfold ae;rw[c5];simp only[c5,a5]
def S6{fa:ai->Dm (List D)}:Wp (aS fa U st) Q↔Wp (fa U st) λas st1=>lim as.length=true/\Q (.tup as) st1:=by unfold aS;rw[c5];simp only[qh,a5,hW];constructor<;>exactλh=>aR h λa s h=>by first|(split at h;exact⟨by assumption,h⟩;exact h.elim)|(rw[if_pos h.1];exact h.2)
def S7{fa:ai->Dm (List D)}:Wp (bL fa U st) Q↔Wp (fa U st) λas st1=>lim as.length=true/\Q (.ref st1.length) (st1 ++ [.lst as]):=by unfold bL;rw[c5];simp only[qh,a5,hW];constructor<;>exactλh=>aR h λa s h=>by first|(split at h;exact⟨by assumption,h⟩;exact h.elim)|(rw[if_pos h.1];exact h.2)
def KL{R:Bool->Store->Prop}{fa:ai->Dm D}:Wp (az fa U st) R↔Wp (fa U st) λa st1=>∃b,a=.bl b/\R b st1:=by unfold az;rw[c5];constructor<;>refineλh=>aR h λa s h=>?_;cases a<;>simp only[a5,hW]at h;exact⟨_,rfl,h⟩;obtain⟨b,rfl,h⟩:=h;exact a5.mpr h
def Ba{R:Bool->Store->Prop}{fa:ai->Dm Bool}:Wp (pY fa U st) R↔Wp (fa U st) λa st1=>R (!a) st1:=by unfold pY;rw[c5];simp only[a5]
def Bb{R:Bool->Store->Prop}{fa fb:ai->Dm Bool}:Wp (pZ fa fb U st) R↔Wp (fa U st) λa st1=>if a=true then Wp (fb U st1) R else R false st1:=by unfold pZ;rw[c5];simp only[qh,a5]
def FO{R:Bool->Store->Prop}{fa fb:ai->Dm Bool}:Wp (yW fa fb U st) R↔Wp (fa U st) λa st1=>if a=true then R true st1 else Wp (fb U st1) R:=by unfold yW;rw[c5];simp only[qh,a5]
def zh{J:Type}{R:J->Store->Prop}{c:ai->Dm Bool}{fa fb:ai->Dm J}:Wp (c7 c fa fb U st) R↔Wp (c U st) λa st1=>if a=true then Wp (fa U st1) R else Wp (fb U st1) R:=by unfold c7;rw[c5];simp only[qh]
def Zj{fa fb:ai->Dm D}:Wp (tN fa fb U st) Q↔Wp (az fa U st) λa st1=>if a=true then Wp (fb U st1) Q else Q (.bl false) st1:=by unfold tN;rw[c5];simp only[qh,a5]
def Bc{fa fb:ai->Dm D}:Wp (FD fa fb U st) Q↔Wp (az fa U st) λa st1=>if a=true then Q (.bl true) st1 else Wp (fb U st1) Q:=by unfold FD;rw[c5];simp only[qh,a5]
def Zk{fa:ai->Dm D}:Wp (yX fa U st) Q↔Wp (az fa U st) λa st1=>Q (.bl (!a)) st1:=by unfold yX;rw[c5];simp only[a5]
def S8{R:Option Int->Store->Prop}:Wp (nB U st) R↔R none st:=a5
def S9{R:Option Int->Store->Prop}{fa:ai->Dm D}:Wp (qe fa U st) R↔Wp (fa U st) λa st1=>∃i,a=.int i/\R (some i) st1:=by unfold qe;rw[c5];constructor<;>refineλh=>aR h λa s h=>?_;cases a<;>simp only[a5,hW]at h;exact⟨_,rfl,h⟩;obtain⟨b,rfl,h⟩:=h;exact a5.mpr h
def zi{g:D->Option Int->Option Int->Dm D}{fa:ai->Dm D}{fl fh:ai->Dm (Option Int)}:Wp (C8 g fa fl fh U st) Q↔Wp (fa U st) λa st1=>Wp (fl U st1) λlo st2=>Wp (fh U st2) λhi st3=>Wp (g a lo hi st3) Q:=by unfold C8;rw[c5];simp only[c5]
def zj{T:String}{g:D->List D->Dm D}{fo:ai->Dm D}{fa:ai->Dm (List D)}:Wp (iM T g fo fa U st) Q↔Wp (fo U st) λo st1=>wU T st1 o=true/\Wp (fa U st1) λas st2=>Wp (g o as st2) Q:=by unfold iM;rw[c5];simp only[qh,c5,hW];constructor<;>exactλh=>aR h λa s h=>by first|(split at h;exact⟨by assumption,h⟩;exact h.elim)|(rw[if_pos h.1];exact h.2)
variable {i j:Int}{ds es:List D}{k:Nat}
def Bd:Wp (cy (.int i) (.int j) st) Q↔Q (.int (i+j)) st:=a5
def Ta:Wp (mD (.int i) (.int j) st) Q↔Q (.int (i-j)) st:=a5
def FP:Wp (xI (.int i) (.int j) st) Q↔Q (.bl (decide (i<j))) st:=a5
def FQ:Wp (FF (.int i) (.int j) st) Q↔Q (.bl (decide (i<=j))) st:=a5
def FR:Wp (y4 (.int i) (.int j) st) Q↔Q (.bl (decide (j<i))) st:=a5
def FT:Wp (N3 (.int i) (.int j) st) Q↔Q (.bl (decide (j<=i))) st:=a5
def Be:Wp (kX (.int i) st) Q↔Q (.int (-i)) st:=a5
def Dl:Wp (xH c h (.int i) (.int j) st) Q↔c i j=true/\Q (h i j) st:=by
 show Wp (if c i j=true then some (h i j,st)else none) Q↔_;rw[qh,a5,hW];split
 ·next h=>exact⟨λq=>⟨h,q⟩,λq=>q.2⟩
 ·next h=>exact⟨False.elim,λq=>h q.1⟩
def Bf:Wp (nC (.int i) (.int j) st) Q↔((-18446744073709551616<i/\i<18446744073709551616)\/(-18446744073709551616<j/\j<18446744073709551616))/\Q (.int (i*j)) st:=by unfold nC;rw[Dl,Zcy,decide_eq_true_eq,decide_eq_true_eq]
def Zl:Wp (qf (.int i) (.int j) st) Q↔(0<j/\j<1073741824)/\Q (.int (i / j)) st:=by unfold qf;rw[Dl,decide_eq_true_eq]
def Bg:Wp (lq (.int i) (.int j) st) Q↔0<j/\Q (.int (i % j)) st:=by unfold lq;rw[Dl,decide_eq_true_eq]
def Bh:Wp (vP (.int i) (.int j) st) Q↔(0<=j/\j<=1000000/\i.natAbs<18446744073709551616)/\Q (.int (i ^ j.toNat)) st:=by unfold vP;rw[Dl,decide_eq_true_eq]
def Bi{neg:Bool}:Wp (gf neg (.int i) (.int j) st) Q↔Q (.bl (if neg then !decide (i=j)else decide (i=j))) st:=by
 have e:decide (V.int i=V.int j)=decide (i=j):=by
  by_cases h:i=j;subst h;simp;simp[h]
 show Wp (if si (V.int i) (V.int j)=true then some (D.bl (if neg then !decide (V.int i=V.int j)else decide (V.int i=V.int j)),st)else none) Q↔_;rw[if_pos (show si _ _=true from rfl),a5,e]
def Bj{neg:Bool}{x y:Str}:Wp (gf neg (.str x) (.str y) st) Q↔Q (.bl (if neg then !decide (x=y)else decide (x=y))) st:=by
 have e:decide (V.str x=V.str y)=decide (x=y):=by
  by_cases h:x=y;subst h;simp;simp[h]
 show Wp (if si (V.str x) (V.str y)=true then some (D.bl (if neg then !decide (V.str x=V.str y)else decide (V.str x=V.str y)),st)else none) Q↔_;rw[if_pos (show si _ _=true from rfl),a5,e]
def Om:Wp (ay (.tup ds) (.int i) st) Q↔∃d,dA ds i=some d/\Q d st:=by
 show Wp (match dA ds i with|some d=>some (d,st)|none=>none) Q↔_;cases dA ds i with
 |none=>rw[hW];exact⟨False.elim,λ⟨_,e,_⟩=>by cases e⟩
 |some d=>rw[a5];exact⟨λq=>⟨d,rfl,q⟩,λ⟨_,e,q⟩=>by cases e;exact q⟩
def Tb:Wp (bw (.ref k) (.int i) st) Q↔∃ds d,items st k=some ds/\dA ds i=some d/\Q d st:=by
 show Wp (match items st k with|some ds=>(match dA ds i with|some d=>some (d,st)|none=>none)|none=>none) Q↔_;cases items st k with
 |none=>rw[hW];exact⟨False.elim,λ⟨_,_,e,_⟩=>by cases e⟩
 |some ds =>
  show Wp (match dA ds i with|some d=>some (d,st)|none=>none) Q↔_;cases h:dA ds i with
  |none=>rw[hW];exact⟨False.elim,λ⟨_,_,e,e',_⟩=>by cases e;rw[h]at e';cases e'⟩
  |some d=>rw[a5];exact⟨λq=>⟨ds,d,rfl,h,q⟩,λ⟨_,_,e,e',q⟩=>by cases e;rw[h]at e';cases e';exact q⟩
def Bk{lo hi:Option Int}:Wp (A4 (.tup ds) lo hi st) Q↔Q (.tup (cutD ds lo hi)) st:=a5
def Tc{lo hi:Option Int}:Wp (vQ (.ref k) lo hi st) Q↔∃ds,items st k=some ds/\Q (.ref st.length) (st ++ [.lst (cutD ds lo hi)]):=by
 show Wp (match items st k with|some ds=>some (D.ref st.length,st ++ [O.lst (cutD ds lo hi)])|none=>none) Q↔_;cases items st k with
 |none=>rw[hW];exact⟨False.elim,λ⟨_,e,_⟩=>by cases e⟩
 |some ds=>rw[a5];exact⟨λq=>⟨ds,rfl,q⟩,λ⟨_,e,q⟩=>by cases e;exact q⟩
def Zm:Wp (fK (.tup ds) (.tup es) st) Q↔lim (ds.length+es.length)=true/\Q (.tup (ds ++ es)) st:=by
 show Wp (if lim (ds.length+es.length)=true then some (D.tup (ds ++ es),st)else none) Q↔_;rw[qh,a5,hW];split
 ·next h=>exact⟨λq=>⟨h,q⟩,λq=>q.2⟩
 ·next h=>exact⟨False.elim,λq=>h q.1⟩
def Td{a b:Nat}:Wp (pA (.ref a) (.ref b) st) Q↔∃xs ys,own st a=some xs/\own st b=some ys/\lim (xs.length+ys.length)=true/\Q (.ref st.length) (st ++ [.lst (xs ++ ys)]):=by
 show Wp (match own st a,own st b with|some xs,some ys=>if lim (xs.length+ys.length)=true then some (D.ref st.length,st ++ [O.lst (xs ++ ys)])else none|_,_=>none) Q↔_;cases ha:own st a<;>cases hb:own st b
 ·simp only[hW];exact⟨False.elim,λ⟨_,_,e,_⟩=>by cases e⟩
 ·simp only[hW];exact⟨False.elim,λ⟨_,_,e,_⟩=>by cases e⟩
 ·simp only[hW];exact⟨False.elim,λ⟨_,_,_,e,_⟩=>by cases e⟩
 ·next xs ys =>
  show Wp (if lim (xs.length+ys.length)=true then some (D.ref st.length,st ++ [O.lst (xs ++ ys)])else none) Q↔_;rw[qh,a5,hW];split
  ·next h=>exact⟨λq=>⟨_,_,rfl,rfl,h,q⟩,λ⟨_,_,e,e',_,q⟩=>by cases e;cases e';exact q⟩
  ·next h=>exact⟨False.elim,λ⟨_,_,e,e',q,_⟩=>by cases e;cases e';exact h q⟩
def Bl{a:D}:Wp (cU [a] st) Q↔∃ds,cH st a=some ds/\Q (.int ds.length) st:=by
 show Wp (match cH st a with|some ds=>some (D.int ds.length,st)|none=>none) Q↔_;cases cH st a with
 |none=>rw[hW];exact⟨False.elim,λ⟨_,e,_⟩=>by cases e⟩
 |some ds=>rw[a5];exact⟨λq=>⟨ds,rfl,q⟩,λ⟨_,e,q⟩=>by cases e;exact q⟩
def Zn{a:D}:Wp (qg [a] st) Q↔∃ds,cH st a=some ds/\Q (.ref st.length) (st ++ [.lst ds]):=by
 show Wp (match cH st a with|some ds=>some (D.ref st.length,st ++ [O.lst ds])|none=>none) Q↔_;cases cH st a with
 |none=>rw[hW];exact⟨False.elim,λ⟨_,e,_⟩=>by cases e⟩
 |some ds=>rw[a5];exact⟨λq=>⟨ds,rfl,q⟩,λ⟨_,e,q⟩=>by cases e;exact q⟩
def Zo{a:D}:Wp (bh [a] st) Q↔∃ds,cH st a=some ds/\Q (.tup ds) st:=by
 show Wp (match cH st a with|some ds=>some (D.tup ds,st)|none=>none) Q↔_;cases cH st a with
 |none=>rw[hW];exact⟨False.elim,λ⟨_,e,_⟩=>by cases e⟩
 |some ds=>rw[a5];exact⟨λq=>⟨ds,rfl,q⟩,λ⟨_,e,q⟩=>by cases e;exact q⟩
def Zp:Wp (rJ [.int i,.int j] st) Q↔Q (.int (if j > i then j else i)) st:=a5
def Zq:Wp (tQ [.int i,.int j] st) Q↔Q (.int (if j<i then j else i)) st:=a5
def Zr:Wp (nD [.int i] st) Q↔Q (.int i) st:=a5
def Zs{b:Bool}:Wp (nD [.bl b] st) Q↔Q (.int (if b then 1 else 0)) st:=a5
def Zt:Wp (gk [.int j] st) Q↔Q (.ref st.length) (st ++ [.j5 0 j]):=a5
def Zu:Wp (eX [.int i,.int j] st) Q↔Q (.ref st.length) (st ++ [.j5 i j]):=a5
def Zv{y:D}:Wp (aL (.ref k) [y] st) Q↔∃xs,own st k=some xs/\lim xs.length=true/\Q .non (st.set k (.lst (xs ++ [y]))):=by
 show Wp (match own st k with|some xs=>if lim xs.length=true then some (D.non,st.set k (O.lst (xs ++ [y])))else none|none=>none) Q↔_;cases own st k with
 |none=>rw[hW];exact⟨False.elim,λ⟨_,e,_⟩=>by cases e⟩
 |some xs =>
  show Wp (if lim xs.length=true then some (D.non,st.set k (O.lst (xs ++ [y])))else none) Q↔_;rw[qh,a5,hW];split
  ·next h=>exact⟨λq=>⟨_,rfl,h,q⟩,λ⟨_,e,_,q⟩=>by cases e;exact q⟩
  ·next h=>exact⟨False.elim,λ⟨_,e,q,_⟩=>by cases e;exact h q⟩
end
abbrev Ws(m:Option (Fl×Store))(N B C:ai->Store->Prop)(R:D->Store->Prop):Prop:=Wp m λfl st=>match fl with
 |.nx U=>N U st
 |.bk U=>B U st
 |.ct U=>C U st
 |.rt d=>R d st
section
variable {st:Store}{U:ai}{N B C:ai->Store->Prop}{R:D->Store->Prop}{f g:ai->Dm Fl}{e:ai->Dm D}
def Bm(h:Ws m N B C R)(hn:∀U st,N U st->N' U st):Ws m N' B C R:=aR h λfl st q=>by
 cases fl with
 |nx U=>exact hn U st q
 |bk U=>exact q
 |ct U=>exact q
 |rt d=>exact q
def aP(h:Ws (f U st) (λU1 st1=>Ws (g U1 st1) N B C R) B C R):Ws (au f g U st) N B C R:=by
 unfold Ws au;rw[c5];refine aR h λfl st1 q=>?_;cases fl with
 |nx U1=>exact q
 |bk U1=>exact a5.mpr q
 |ct U1=>exact a5.mpr q
 |rt d=>exact a5.mpr q
def jv(h:N U st):Ws (aO U st) N B C R:=a5.mpr h
def uO(h:Wp (e U st) λd st1=>Wp (t d U st1) N):Ws (aA e t U st) N B C R:=by unfold Ws aA;rw[c5];refine aR h λd st1 q=>?_;rw[c5];exact aR q λU1 st2 q=>a5.mpr q
def bj(h:Wp (e U st) λd st1=>N (U.set i (some d)) st1):Ws (aA e (hName i) U st) N B C R:=uO (aR h λd st1 q=>a5.mpr q)
def pS(h:Wp (e U st) λ_ st1=>N U st1):Ws (bF e U st) N B C R:=by unfold Ws bF;rw[c5];exact aR h λd st1 q=>a5.mpr q
def cV(h:Wp (e U st) R):Ws (aV e U st) N B C R:=by unfold Ws aV;rw[c5];exact aR h λd st1 q=>a5.mpr q
def gu(h:Wp (c U st) λb st1=>(b=true->Ws (f U st1) N B C R)/\(b=false->Ws (g U st1) N B C R)):Ws (c7 c f g U st) N B C R:=by
 unfold Ws;rw[zh];refine aR h λb st1 q=>?_;cases b with
 |true=>rw[if_pos rfl];exact q.1 rfl
 |false=>rw[if_neg Zam];exact q.2 rfl
def Te(h:Wp (fa U st) λas st1=>∃a b,as=[a,b]/\N ((U.set i (some a)).set j (some b)) st1):Ws (vS i j fa U st) N B C R:=by unfold Ws vS;rw[c5];refine aR h λas st1 q=>?_;obtain⟨a,b,rfl,q⟩:=q;exact a5.mpr q
def Oo(h:Ws (b (ds.map some ++ List.replicate (n-ds.length) none) st) (λ_ st1=>R .non st1) (λ_ _=>False) (λ_ _=>False) R):Wp (dC n b ds st) R:=by
 unfold dC;rw[c5];refine aR h λfl st1 q=>?_;cases fl with
 |nx U1=>exact a5.mpr q
 |bk U1=>exact q.elim
 |ct U1=>exact q.elim
 |rt d=>exact a5.mpr q
def zk(W:Nat->ai->Store->Prop)(m:Nat)(hm:m<fuel)(h0:W m U st)
  (step:∀m U st,W m U st->Wp (c U st) λt st1=>(t=true->Ws (b U st1) (λU2 st2=>∃m',m' < m/\W m' U2 st2) N (λU2 st2=>∃m',m' < m/\W m' U2 st2) R)/\(t=false->N U st1)):Ws (jr c b U st) N B C R:=by
 have key:∀(k m:Nat) (U:ai) (st:Store),m<k->W m U st->Ws (hV c b k U st) N B C R:=by
  intro k
  induction k with
  |zero=>intro m U st h;exact absurd h (ZaV _)
  |succ k ih =>
   intro m U st hk hw;unfold Ws hV;rw[c5];refine aR (step m U st hw) λt st1 q=>?_;cases t with
   |false=>rw[if_neg Zam];exact a5.mpr (q.2 rfl)
   |true =>
    rw[if_pos rfl,c5];refine aR (q.1 rfl) λfl st2 q=>?_;cases fl with
    |nx U2=>obtain⟨m',hm',w⟩:=q;exact ih m' U2 st2 ⋯ w
    |ct U2=>obtain⟨m',hm',w⟩:=q;exact ih m' U2 st2 ⋯ w
    |bk U2=>exact a5.mpr q
    |rt d=>exact a5.mpr q
 exact key fuel m U st hm h0
def lU(ds:List D)(Pv:Nat->ai->Store->Prop)(hi:Wp (fi U st) λS st1=>S=.fix ds/\Pv 0 U st1)(hl:ds.length<100000)
  (step:∀i d U st,ds[i]?=some d->Pv i U st->Wp (t d U st) λU1 st1=>Ws (b U1 st1) (Pv (i+1)) N (Pv (i+1)) R) (fin:∀U st,Pv ds.length U st->N U st):Ws (bY fi t b U st) N B C R:=by
 unfold Ws bY;rw[c5];refine aR hi λS mK q=>?_;obtain⟨rfl,h0⟩:=q;have key:∀(k i:Nat) (U:ai) (st:Store),i<=ds.length->ds.length-i<k->Pv i U st->Ws (jt (.fix ds) t b k i U st) N B C R:=by
  intro k
  induction k with
  |zero=>intro i U st _ h;exact absurd h (ZaV _)
  |succ k ih =>
   intro i U st hi hk hw;unfold Ws jt;have e:Src.at (.fix ds) i st=some ds[i]?:=by show(if i<=ds.length then some ds[i]? else none)=_;rw[if_pos hi]
   rw[e];cases hd:ds[i]? with
   |none =>
    have:=ZaT.mp hd;have e:i=ds.length:=by lk
    exact a5.mpr (fin U st (e ▸ hw))
   |some d =>
    have hlt:=(Zab.mp hd).1;show Wp (bnd _ _) _;rw[c5];refine aR (step i d U st hd hw) λU1 st1 q=>?_;rw[c5];refine aR q λfl st2 q=>?_;cases fl with
    |nx U2=>exact ih (i+1) U2 st2 ⋯ ⋯ q
    |ct U2=>exact ih (i+1) U2 st2 ⋯ ⋯ q
    |bk U2=>exact a5.mpr q
    |rt d=>exact a5.mpr q
 exact key fuel 0 U mK (ZaK _) (Nat.lt_trans ⋯ (show 100000<fuel by decide)) h0
def KN(ds:List D)(r:Nat)(Pv:Nat->ai->Store->Prop)(hi:Wp (fi U st) λS st1=>S=.live r/\Pv 0 U st1)(hl:ds.length<100000)(hk:∀i U st,Pv i U st->items st r=some ds)
  (step:∀i d U st,ds[i]?=some d->Pv i U st->Wp (t d U st) λU1 st1=>Ws (b U1 st1) (Pv (i+1)) N (Pv (i+1)) R) (fin:∀U st,Pv ds.length U st->N U st):Ws (bY fi t b U st) N B C R:=by
 unfold Ws bY;rw[c5];refine aR hi λS mK q=>?_;obtain⟨rfl,h0⟩:=q;have key:∀(k i:Nat) (U:ai) (st:Store),i<=ds.length->ds.length-i<k->Pv i U st->Ws (jt (.live r) t b k i U st) N B C R:=by
  intro k
  induction k with
  |zero=>intro i U st _ h;exact absurd h (ZaV _)
  |succ k ih =>
   intro i U st hi hk' hw;unfold Ws jt;have e:Src.at (.live r) i st=some ds[i]?:=by show(items st r).map _=_;rw[hk i U st hw];rfl
   rw[e];cases hd:ds[i]? with
   |none =>
    have:=ZaT.mp hd;have e:i=ds.length:=by lk
    exact a5.mpr (fin U st (e ▸ hw))
   |some d =>
    have hlt:=(Zab.mp hd).1;show Wp (bnd _ _) _;rw[c5];refine aR (step i d U st hd hw) λU1 st1 q=>?_;rw[c5];refine aR q λfl st2 q=>?_;cases fl with
    |nx U2=>exact ih (i+1) U2 st2 ⋯ ⋯ q
    |ct U2=>exact ih (i+1) U2 st2 ⋯ ⋯ q
    |bk U2=>exact a5.mpr q
    |rt d=>exact a5.mpr q
 exact key fuel 0 U mK (ZaK _) (Nat.lt_trans ⋯ (show 100000<fuel by decide)) h0
def Dn{fi:ai->Dm Src}{n:Nat}{js:List Nat}{t:D->ai->Dm ai}{c:ai->Dm Bool}{f:ai->Dm D}{Q:D->Store->Prop}(ds:List D)(Pv:Nat->List D->ai->Store->Prop)
  (hi:Wp (fi U st) λS st1=>(∀i ys U st,i<=ds.length->Pv i ys U st->S.at i st=some ds[i]?)/\Pv 0 [] (rK n js U) st1) (hl:ds.length<100000) (hy:∀i ys U st,Pv i ys U st->ys.length<=i)
  (step:∀i d ys U st,ds[i]?=some d->Pv i ys U st->Wp (t d U st) λU1 st1=>Wp (c U1 st1) λb st2=>(b=true->Wp (f U1 st2) λy st3=>Pv (i+1) (ys ++ [y]) U1 st3)/\(b=false->Pv (i+1) ys U1 st2))
  (fin:∀ys U st,Pv ds.length ys U st->Q (.ref st.length) (st ++ [.lst ys])):Wp (bU fi n js t c f U st) Q:=by
 unfold bU;rw[c5];refine aR hi λS mK q=>?_;obtain⟨hS,h0⟩:=q;have key:∀(k i:Nat) (ys:List D) (U:ai) (st:Store),i<=ds.length->ds.length-i<k->Pv i ys U st->Wp (j7 S t c f k i ys U st) λzs qZ=>∃U9,Pv ds.length zs U9 qZ:=by
  intro k
  induction k with
  |zero=>intro i ys U st _ h;exact absurd h (ZaV _)
  |succ k ih =>
   intro i ys U st hi hk' hw;unfold j7;have hlim:lim ys.length=true:=Nat.ble_eq_true_of_le (by have:=hy i ys U st hw;lk);rw[if_pos hlim,hS i ys U st hi hw];cases hd:ds[i]? with
   |none =>
    have:=ZaT.mp hd;have e:i=ds.length:=by lk
    exact a5.mpr ⟨U,e ▸ hw⟩
   |some d =>
    have hlt:=(Zab.mp hd).1;show Wp (bnd _ _) _;rw[c5];refine aR (step i d ys U st hd hw) λU1 st1 q=>?_;rw[c5];refine aR q λb st2 q=>?_;cases b with
    |true =>
     rw[if_pos rfl,c5];exact aR (q.1 rfl) λy st3 q=>ih (i+1) _ U1 st3 ⋯ ⋯ q
    |false =>
     rw[if_neg Zam];exact ih (i+1) ys U1 st2 ⋯ ⋯ (q.2 rfl)
 rw[c5];exact aR (key fuel 0 [] _ mK (ZaK _) (Nat.lt_trans ⋯ (show 100000<fuel by decide)) h0) λzs qZ ⟨U9,q⟩=>a5.mpr (fin zs U9 qZ q)
end
abbrev keyOf:D->Option Key
 |.int i=>some (.inl i)
 |.str x=>some (.inr x)
 |_=>none
abbrev lz(st:Store):D->Option (List (Key×D))
 |.ref i=>match st[i]? with
  |some (.dct kvs)=>some kvs
  |_=>none
 |_=>none
abbrev eC(kvs:List (Key×D))(k:Key):Option D:=(kvs.find? λkv=>decide (kv.1=k)).map (·.2)
abbrev putD(kvs:List (Key×D))(k:Key)(v:D):List (Key×D) :=
 if(kvs.any λkv=>decide (kv.1=k))=true then kvs.map (λkv=>if kv.1=k then(kv.1,v)else kv)else kvs ++ [(k,v)]
section
variable {K:Zfr}{W:List Addr}{H:Hp}{st:Store}
def vd(r:Rp K W H x y)(h:keyOf y=some k):x=kV k:=by cases r<;>first|(cases h;rfl)|cases h
def Oq(l:Rl K W H st)(r:Rp K W H x a)(h:lz st a=some kvs):∃p i ws,x=.ref p/\a=.ref i/\W[i]?=some p/\st[i]?=some (.dct kvs)/\H p=some (.dK ws)/\Rk K W H ws kvs:=by
 cases r<;>first|(cases h;done)|skip
 next hi =>
  simp only[lz]at h;split at h
  ·next kvs' hs =>
   cases h;obtain⟨ws,e,r⟩:=l.obj _ _ _ hi hs;exact⟨_,_,ws,rfl,rfl,hi,hs,e,r⟩
  ·cases h
def Rk.val(r:Rk K W H ws kvs)(k:Key):(∀d,eC kvs k=some d->∃v,jK ws k=some v/\Rp K W H v d)/\(jK ws k).isSome=(eC kvs k).isSome:=by
 induction r with
 |nil=>exact⟨λd h=>(by cases h),rfl⟩
 |@cons p q ps qs h t ih =>
  obtain⟨h1,h2⟩:=h;unfold eC jK at ih ⊢;rw[ZaU,ZaU];by_cases e:p.1=k;rw[decide_eq_true e,decide_eq_true (h1 ▸ e)];exact⟨λd hd=>by cases hd;exact⟨_,rfl,h2⟩,rfl⟩;rw[decide_eq_false e,decide_eq_false (h1 ▸ e)];exact ih
def Rk.app(r:Rk K W H ws kvs)(r':Rk K W H xM kvs'):Rk K W H (ws ++ xM) (kvs ++ kvs'):=by
 induction r with
 |nil=>exact r'
 |cons h _ ih=>exact .cons h ih
def Rk.put(r:Rk K W H ws kvs)(k:Key)(rv:Rp K W H v d):Rk K W H (putK ws k v) (putD kvs k d):=by
 have hany:(ws.any λkv=>decide (kv.1=k))=(kvs.any λkv=>decide (kv.1=k)):=by
  induction r with
  |nil=>rfl
  |cons h _ ih=>rw[Za1,Za1,ih,h.1]
 have hmap:Rk K W H (ws.map λkv=>if kv.1=k then(kv.1,v)else kv) (kvs.map λkv=>if kv.1=k then(kv.1,d)else kv):=by
  clear hany
  induction r with
  |nil=>exact .nil
  |@cons p q ps qs h _ ih =>
   refine .cons ?_ ih;dsimp only;by_cases e:p.1=k;rw[if_pos e,if_pos (h.1 ▸ e)];exact⟨h.1,rv⟩;rw[if_neg e,if_neg (h.1 ▸ e)];exact h
 unfold putK putD;rw[hany];split;exact hmap;exact r.app (.cons ⟨rfl,rv⟩ .nil)
def Rk.length{ws:List (Key×V)}{kvs:List (Key×D)}(r:Rk K W H ws kvs):ws.length=kvs.length:=by
 induction r with
 |nil=>rfl
 |cons _ _ ih=>rw[ZaD,ZaD,ih]
end
section
variable {K:Zfr}
abbrev vV:ai->Dm D:=λ_ st=>some (.ref st.length,st ++ [.dct []])
def Tf:dB K vg vV:=by intro W G H U st b st' Q l rs e q;cases e;exactλp hp=>q _ _ _ (Mn.new hp) (l.newD hp .nil) (.ref (newR l))
abbrev nF(fd fy:ai->Dm D):ai->Dm D:=λU st=>bnd (fd U st) λx st1=>bnd (fy U st1) λy st2=>match lz st2 x,keyOf y with
 |some kvs,some k=>match eC kvs k with
  |some v=>some (v,st2)
  |none=>none
 |_,_=>none
def Tg(hd:dB K td fd)(hy:dB K ty fy):dB K (ve td ty) (nF fd fy):=by
 intro W G H U st b st' Q l rs e q;obtain⟨x,st1,e1,e⟩:=cM e;obtain⟨y,st2,e2,e⟩:=cM e;refine hd W G H U st x st1 _ l rs e1 λvx H1 W1 m1 l1 r1=>hy W1 G H1 U st1 y st2 _ l1 (rs.mn m1) e2 λvy H2 W2 m2 l2 r2=>?_;split at e
 ·next kvs k hx hk =>
  split at e
  ·next v hv =>
   cases e;obtain⟨p,i,ws,rfl,rfl,hi,hs,hp,rk⟩:=Oq l2 (r1.mn m2) hx;obtain⟨w,hw,rw'⟩:=(rk.val k).1 _ hv;refine⟨p,w,rfl,?_,q w H2 W2 (m1.trans m2) l2 rw'⟩;rw[<- hw,vd r2 hk];exact mM.k hp
  ·cases e
 ·cases e
abbrev xN(neg:Bool)(fy fd:ai->Dm D):ai->Dm D:=λU st=>bnd (fy U st) λy st1=>bnd (fd U st1) λx st2=>match lz st2 x,keyOf y with
 |some kvs,some k=>some (.bl (if neg then !(eC kvs k).isSome else(eC kvs k).isSome),st2)
 |_,_=>none
def Ti(hy:dB K ty fy)(hd:dB K td fd):dB K (tm ty td) (xN true fy fd):=by
 intro W G H U st b st' Q l rs e q;obtain⟨y,st1,e1,e⟩:=cM e;obtain⟨x,st2,e2,e⟩:=cM e;refine hy W G H U st y st1 _ l rs e1 λvy H1 W1 m1 l1 r1=>hd W1 G H1 U st1 x st2 _ l1 (rs.mn m1) e2 λvx H2 W2 m2 l2 r2=>?_;split at e
 ·next kvs k hx hk =>
  cases e;obtain⟨p,i,ws,rfl,rfl,hi,hs,hp,rk⟩:=Oq l2 r2 hx;refine⟨p,jK ws k,rfl,by rw[vd r1 hk];exact mM.k hp,q _ H2 W2 (m1.trans m2) l2 ?_⟩;rw[(rk.val k).2];exact .bl _
 ·cases e
abbrev tU(fd fy fv:ai->Dm D):ai->Dm Fl:=λU st=>bnd (fv U st) λv st1=>bnd (fd U st1) λx st2=>bnd (fy U st2) λy st3=>match x,lz st3 x,keyOf y with
 |.ref i,some kvs,some k=>if lim kvs.length=true then some (.nx U,st3.set i (.dct (putD kvs k v)))else none
 |_,_,_=>none
def Tj(hd:dB K td fd)(hy:dB K ty fy)(hv:dB K tv fv):qE K (vf td ty tv) (tU fd fy fv):=by
 intro W G H U st fl st' E l rs e q;obtain⟨v,st1,e1,e⟩:=cM e;obtain⟨x,st2,e2,e⟩:=cM e;obtain⟨y,st3,e3,e⟩:=cM e;refine hv W G H U st v st1 _ l rs e1 λvv H1 W1 m1 l1 r1=>hd W1 G H1 U st1 x st2 _ l1 (rs.mn m1) e2 λvx H2 W2 m2 l2 r2=>hy W2 G H2 U st2 y st3 _ l2 (rs.mn (m1.trans m2)) e3 λvy H3 W3 m3 l3 r3=>?_;obtain⟨i,rfl⟩:∃i,x=.ref i:=by
  cases x<;>first|exact⟨_,rfl⟩|(simp at e;done)|cases e
 cases hx:lz st3 (.ref i)with
 |none=>rw[hx]at e;cases e
 |some kvs =>
 cases hk:keyOf y with
 |none=>rw[hx,hk]at e;cases e
 |some k =>
  rw[hx,hk]at e;simp only at e;split at e
  ·next hl =>
   cases e;obtain⟨p,j,ws,rfl,ej,hi,hs,hp,rk⟩:=Oq l3 (r2.mn m3) hx;cases ej;obtain⟨l4,m4⟩:=l3.vO hi hs (rk.put k (r1.mn (m2.trans m3)));have mm:=((m1.trans m2).trans m3).trans m4;refine⟨p,_,rfl,?_,q G _ W3 mm l4 (rs.mn mm)⟩;rw[vd r3 hk];exact rA.k hp (by rw[rk.length];exact Kx hl)
  ·cases e
abbrev vW:ai->Dm (List (D×D)):=λ_ st=>some ([],st)
abbrev pB(fk fv:ai->Dm D)(fr:ai->Dm (List (D×D))):ai->Dm (List (D×D)):=λU st=>bnd (fk U st) λk st1=>bnd (fv U st1) λv st2=>bnd (fr U st2) λr st3=>some ((k,v) :: r,st3)
abbrev To(K:Zfr)(W:List Addr)(H:Hp):List (V×V)->List (D×D)->Prop:=Paired λp q=>Rp K W H p.1 q.1/\Rp K W H p.2 q.2
abbrev KO(K:Zfr)(rB:List (TE×TE))(f:ai->Dm (List (D×D))):Prop:=So K (To K) (qw rB) f
def Tp:KO K [] vW:=by intro W G H U st b st' Q l rs e q;cases e;exact q [] H W .refl l .nil
def Tq(hk:dB K tk fk)(hv:dB K tv fv)(hr:KO K rB fr):KO K ((tk,tv) :: rB) (pB fk fv fr):=by
 intro W G H U st b st' Q l rs e q;obtain⟨k,st1,e1,e⟩:=cM e;obtain⟨v,st2,e2,e⟩:=cM e;obtain⟨r,st3,e3,e⟩:=cM e;cases e;exact hk W G H U st k st1 _ l rs e1 λx H1 W1 m1 l1 r1=>hv W1 G H1 U st1 v st2 _ l1 (rs.mn m1) e2 λy H2 W2 m2 l2 r2=>hr W2 G H2 U st2 r _ _ l2 (rs.mn (m1.trans m2)) e3 λps H3 W3 m3 l3 r3 =>
  q _ H3 W3 ((m1.trans m2).trans m3) l3 (.cons ⟨r1.mn (m2.trans m3),r2.mn m3⟩ r3)
abbrev keysOf:List (D×D)->Option (List (Key×D))
 |[]=>some []
 |(k,v) :: r=>match keyOf k,keysOf r with
  |some k',some r'=>some ((k',v) :: r')
  |_,_=>none
def Zw(r:To K W H ps qs):∀{kvs:List (Key×D)},keysOf qs=some kvs->∃ws:List (Key×V),ps=ws.map (λkv=>(kV kv.1,kv.2))/\Rk K W H ws kvs:=by
 induction r with
 |nil=>intro kvs h;cases h;exact⟨[],rfl,.nil⟩
 |@cons p q ps qs h _ ih =>
  intro kvs hk;obtain⟨q1,q2⟩:=q;obtain⟨p1,p2⟩:=p;simp only[keysOf]at hk;split at hk
  ·next k' r' h1 h2 =>
   cases hk;obtain⟨ws,rfl,rw'⟩:=ih h2;refine⟨(k',p2) :: ws,?_,.cons ⟨rfl,h.2⟩ rw'⟩;rw[Zaz,<- vd h.1 h1]
  ·cases hk
abbrev pC(kvs more:List (Key×D)):List (Key×D):=more.foldl (λacc kv=>putD acc kv.1 kv.2) kvs
def Rk.merge(r:Rk K W H more more'):∀{ws:List (Key×V)} {kvs:List (Key×D)},Rk K W H ws kvs->Rk K W H (nZ ws more) (pC kvs more'):=by
 induction r with
 |nil=>intro ws kvs h;exact h
 |@cons p q _ _ h _ ih =>
  intro ws kvs r0;have:=r0.put p.1 h.2;rw[show putD kvs p.1 q.2=putD kvs q.1 q.2 by rw[h.1]]at this;exact ih this
abbrev tV(fp:ai->Dm (List (D×D))):ai->Dm D:=λU st=>bnd (fp U (st ++ [.dct []])) λps st2=>match st2[st.length]?,keysOf ps with
 |some (.dct []),some kvs=>if kvs.length<=15 then some (.ref st.length,st2.set st.length (.dct (pC [] kvs)))else none
 |_,_=>none
def Tr(hp:KO K rB fp):dB K (yB rB) (tV fp):=by
 intro W G H U st b st' Q l rs e q;obtain⟨ps,st2,e1,e⟩:=cM e;intro p Ts;have m0:Mn K W H (W ++ [p]) (upd H p (.dK [])):=Mn.new Ts;have l0:Rl K (W ++ [p]) (upd H p (.dK [])) (st ++ [.dct []]):=l.newD Ts .nil;refine hp (W ++ [p]) G _ U _ ps st2 _ l0 (rs.mn m0) e1 λvs H2 W2 m2 l2 r2=>?_;split at e
 ·next kvs hs hk =>
  split at e
  ·next hl =>
   cases e;have hi:=m2.r _ _ (newR (p:=p) l);obtain⟨ws,e3,r3⟩:=l2.obj _ _ _ hi hs;cases r3;obtain⟨kws,rfl,rk⟩:=Zw r2 hk;obtain⟨l4,m4⟩:=l2.vO hi hs (rk.merge .nil);exact⟨e3,kws,rfl,by rw[rk.length];exact hl,q _ _ W2 ((m0.trans m2).trans m4) l4 (.ref (m4.r _ _ hi))⟩
  ·cases e
 ·cases e
end
section
variable {st:Store}{U:ai}{Q:D->Store->Prop}
def Zx:Wp (vV U st) Q↔Q (.ref st.length) (st ++ [.dct []]):=a5
def Zy{fd fy:ai->Dm D}:Wp (nF fd fy U st) Q↔Wp (fd U st) λx st1=>Wp (fy U st1) λy st2=>∃kvs k v,lz st2 x=some kvs/\keyOf y=some k/\eC kvs k=some v/\Q v st2:=by
 unfold nF;rw[c5];simp only[c5];constructor<;>refineλh=>aR h λx s h=>aR h λy s2 h=>?_
 ·split at h
  ·next kvs k h1 h2 =>
   split at h
   ·next v h3=>exact⟨kvs,k,v,by assumption,by assumption,h3,a5.mp h⟩
   ·exact(hW.mp h).elim
  ·exact(hW.mp h).elim
 ·obtain⟨kvs,k,v,h1,h2,h3,h⟩:=h
  rw[h1,h2];simp only[h3];exact a5.mpr h
def Bn{neg:Bool}{fd fy:ai->Dm D}:Wp (xN neg fy fd U st) Q↔Wp (fy U st) λy st1=>Wp (fd U st1) λx st2=>∃kvs k,lz st2 x=some kvs/\keyOf y=some k/\Q (.bl (if neg then !(eC kvs k).isSome else(eC kvs k).isSome)) st2:=by
 unfold xN;rw[c5];simp only[c5];constructor<;>refineλh=>aR h λx s h=>aR h λy s2 h=>?_
 ·split at h
  ·next kvs k h1 h2=>exact⟨kvs,k,by assumption,by assumption,a5.mp h⟩
  ·exact(hW.mp h).elim
 ·obtain⟨kvs,k,h1,h2,h⟩:=h
  rw[h1,h2];exact a5.mpr h
def Zz{R:List (D×D)->Store->Prop}:Wp (vW U st) R↔R [] st:=a5
def ZA{fk fv:ai->Dm D}{fr:ai->Dm (List (D×D))}{R:List (D×D)->Store->Prop}:Wp (pB fk fv fr U st) R↔Wp (fk U st) λk st1=>Wp (fv U st1) λv st2=>Wp (fr U st2) λr st3=>R ((k,v) :: r) st3:=by unfold pB;rw[c5];simp only[c5,a5]
def ZC{fp:ai->Dm (List (D×D))}:Wp (tV fp U st) Q↔Wp (fp U (st ++ [.dct []])) λps st2=>st2[st.length]?=some (.dct [])/\∃kvs,keysOf ps=some kvs/\kvs.length<=15/\Q (.ref st.length) (st2.set st.length (.dct (pC [] kvs))):=by
 unfold tV;rw[c5];constructor<;>refineλh=>aR h λps s h=>?_
 ·split at h
  ·next kvs h1 h2 =>
   rw[qh,a5,hW]at h;split at h
   ·next hl=>exact⟨by assumption,kvs,by assumption,hl,h⟩
   ·exact h.elim
  ·exact(hW.mp h).elim
 ·obtain⟨h1,kvs,h2,h3,h⟩:=h
  rw[h1,h2];simp only[if_pos h3];exact a5.mpr h
def ZD(h:Wp (fv U st) λv st1=>Wp (fd U st1) λx st2=>Wp (fy U st2) λy st3=>∃i kvs k,x=.ref i/\lz st3 x=some kvs/\keyOf y=some k/\lim kvs.length=true/\N U (st3.set i (.dct (putD kvs k v)))):Ws (tU fd fy fv U st) N B C R:=by unfold Ws tU;rw[c5];refine aR h λv st1 h=>?_;rw[c5];refine aR h λx st2 h=>?_;rw[c5];refine aR h λy st3 h=>?_;obtain⟨i,kvs,k,rfl,h1,h2,h3,h⟩:=h;rw[h1,h2];simp only[h3];exact a5.mpr h
end
structure Ex(c:List Nat)(st st':Store):Prop where
 len:st.length<=st'.length
 keep:∀(i:Nat) (o:O),st[i]?=some o->i ∉ c->st'[i]?=some o
section
variable {c c':List Nat}{st st1 st2:Store}{i:Nat}{o:O}{ds:List D}
def Ex.refl:Ex c st st:=⟨Zad _,λ_ _ h _=>h⟩
def Ex.trans(a:Ex c st st1)(b:Ex c st1 st2):Ex c st st2:=⟨Zaq a.len b.len,λi o h n=>b.keep i o (a.keep i o h n) n⟩
def Ex.mono(a:Ex c st st1)(h:∀x∈c,x∈c'):Ex c' st st1:=⟨a.len,λi o e n=>a.keep i o e λz=>n (h i z)⟩
def Ex.any(a:Ex [] st st1):Ex c st st1:=a.mono λx h=>nomatch h
def dc{J:Type}{l:List J}{i:Nat}{o:J}(h:l[i]?=some o):i<l.length:=(Zab.mp h).1
def j4{l m:List O}(h:l[i]?=some o):(l ++ m)[i]?=some o:=by rw[Zan (dc h)];exact h
def fW:(l ++ [o])[l.length]?=some o:=by rw[Zav (Zad _),ZaX];rfl
def Ex.app(a:Ex c st st1)(m:List O):Ex c st (st1 ++ m):=⟨by rw[Zae];exact Zaq a.len (Zcq _ _),λi o h n=>j4 (a.keep i o h n)⟩
def Ex.bZ(m:List O):Ex c st (st ++ m):=Ex.refl.app m
def Ex.put(a:Ex c st st1)(h:i∈c):Ex c st (st1.set i o):=⟨by rw[Za8];exact a.len,λj u e n=>by rw[Zal (λz=>n (by rw[<- z];exact h))];exact a.keep j u e n⟩
def Ex.loc(a:Ex c st st1)(h:st.length<=i):Ex c st (st1.set i o):=⟨by rw[Za8];exact a.len,λj u e n=>by rw[Zal (by have:=dc e;lk)];exact a.keep j u e n⟩
def bx(h:st[i]?=some (.lst ds)):items st i=some ds:=by unfold items;rw[h]
def Ot(h:st[i]?=some (.qd ds)):items st i=some ds:=by unfold items;rw[h]
def j8(h:st[i]?=some (.lst ds)):own st i=some ds:=by unfold own;rw[h]
def tW:items (st ++ [.lst ds]) st.length=some ds:=bx fW
def ZE:own (st ++ [.lst ds]) st.length=some ds:=j8 fW
def ZF{o':O}:items (st ++ [.lst ds] ++ [o']) st.length=some ds:=bx (j4 fW)
def ZG{o':O}:own (st ++ [.lst ds] ++ [o']) st.length=some ds:=j8 (j4 fW)
def ZH{o' o2:O}:items (st ++ [.lst ds] ++ [o'] ++ [o2]) st.length=some ds:=bx (j4 (j4 fW))
def ZI{o' o2:O}:own (st ++ [.lst ds] ++ [o'] ++ [o2]) st.length=some ds:=j8 (j4 (j4 fW))
def ZJ{lo hi:Int}:hJ (st ++ [.j5 lo hi]) (.ref st.length)=some (lo,hi):=by simp only[hJ,fW]
def ZK:cH st (.tup ds)=some ds:=rfl
def ZL:cH st (.ref i)=items st i:=rfl
def nW(h:(items st i).isSome=true):wU "list" st (.ref i)=true:=by simp only[wU,h];rfl
def Tt:wU "tuple" st (.tup ds)=true:=by simp only[wU];rfl
def jH(h:n<=100000):lim n=true:=Nat.ble_eq_true_of_le h
def ZM:(l ++ [o]).set l.length u=l ++ [u]:=by rw[List.set_append_right _ _ (Zad _),ZaX];rfl
end
section
variable {st:Store}{Q:D->Store->Prop}{i j:Int}{k:Nat}{ds es:List D}
def ZN{a:D}:Wp (c9 [a] st) Q↔∃p,hJ st a=some p/\r6 p.1 p.2=true/\Q (.ref st.length) (st ++ [.lst (aH p.1 (p.2-p.1).toNat)]):=by
 show Wp (match hJ st a with|some (lo,hi)=>if r6 lo hi=true then some (D.ref st.length,st ++ [O.lst (aH lo (hi-lo).toNat)])else none|none=>none) Q↔_;cases hJ st a with
 |none=>rw[hW];exact⟨False.elim,λ⟨_,e,_⟩=>by cases e⟩
 |some p =>
  obtain⟨lo,hi⟩:=p;show Wp (if r6 lo hi=true then some (D.ref st.length,st ++ [O.lst (aH lo (hi-lo).toNat)])else none) Q↔_;rw[qh,a5,hW];split
  ·next h=>exact⟨λq=>⟨_,rfl,h,q⟩,λ⟨_,e,_,q⟩=>by cases e;exact q⟩
  ·next h=>exact⟨False.elim,λ⟨_,e,q,_⟩=>by cases e;exact h q⟩
def ZO{a:D}:Wp (xJ [a] st) Q↔∃p,hJ st a=some p/\r6 p.1 p.2=true/\Q (.tup (aH p.1 (p.2-p.1).toNat)) st:=by
 show Wp (match hJ st a with|some (lo,hi)=>if r6 lo hi=true then some (D.tup (aH lo (hi-lo).toNat),st)else none|none=>none) Q↔_;cases hJ st a with
 |none=>rw[hW];exact⟨False.elim,λ⟨_,e,_⟩=>by cases e⟩
 |some p =>
  obtain⟨lo,hi⟩:=p;show Wp (if r6 lo hi=true then some (D.tup (aH lo (hi-lo).toNat),st)else none) Q↔_;rw[qh,a5,hW];split
  ·next h=>exact⟨λq=>⟨_,rfl,h,q⟩,λ⟨_,e,_,q⟩=>by cases e;exact q⟩
  ·next h=>exact⟨False.elim,λ⟨_,e,q,_⟩=>by cases e;exact h q⟩
def Bo:Wp (uu (.ref k) (.int j) st) Q↔∃xs,own st k=some xs/\(-9223372036854775808<=j/\j<9223372036854775808)/\lim (xs.length*j.toNat)=true/\Q (.ref st.length) (st ++ [.lst (List.replicate j.toNat xs).flatten]):=by
 show Wp (match own st k with|some a=>if(decide (-9223372036854775808<=j/\j<9223372036854775808) && lim (a.length*j.toNat))=true then some (D.ref st.length,st ++ [O.lst (List.replicate j.toNat a).flatten])else none|_=>none) Q↔_;cases own st k with
 |none=>simp only[hW];exact⟨False.elim,λ⟨_,e,_⟩=>by cases e⟩
 |some xs =>
  show Wp (if(decide (-9223372036854775808<=j/\j<9223372036854775808) && lim (xs.length*j.toNat))=true then some (D.ref st.length,st ++ [O.lst (List.replicate j.toNat xs).flatten])else none) Q↔_;rw[qh,a5,hW];split
  ·next h=>rw[ZaC,decide_eq_true_eq]at h;exact⟨λq=>⟨_,rfl,h.1,h.2,q⟩,λ⟨_,e,_,_,q⟩=>by cases e;exact q⟩
  ·next h=>rw[ZaC,decide_eq_true_eq]at h;exact⟨False.elim,λ⟨_,e,q,q',_⟩=>by cases e;exact h ⟨q,q'⟩⟩
def ZP:Wp (oj (.ref k) [.int i] st) Q↔∃xs j y,own st k=some xs/\(-9223372036854775808<=i/\i<9223372036854775808)/\seqIndex? i xs.length=some j/\xs[j]?=some y/\Q y (st.set k (.lst (xs.eraseIdx j))):=by
 constructor
 ·rintro⟨a,s,e,q⟩
  simp only[oj]at e;split at e
  ·next xs hx =>
   split at e
   ·next hk =>
    split at e
    ·next j hj =>
     split at e
     ·next y hy=>cases e;exact⟨xs,j,_,hx,of_decide_eq_true hk,hj,hy,q⟩
     ·cases e
    ·cases e
   ·cases e
  ·cases e
 ·rintro⟨xs,j,y,hx,hk,hj,hy,q⟩
  refine⟨_,_,?_,q⟩;simp only[oj,hx,hj,hy,decide_eq_true hk];rfl
def ZQ{b:Nat}:Wp (lR (.ref k) [.ref b] st) Q↔∃xs ys,own st k=some xs/\own st b=some ys/\lim (xs.length+ys.length)=true/\Q .non (st.set k (.lst (xs ++ ys))):=by
 constructor
 ·rintro⟨a,s,e,q⟩
  simp only[lR]at e;split at e
  ·next xs ys hx hy =>
   split at e
   ·next hl=>cases e;exact⟨xs,ys,hx,hy,hl,q⟩
   ·cases e
  ·cases e
 ·rintro⟨xs,ys,hx,hy,hl,q⟩
  refine⟨_,_,?_,q⟩;simp only[lR,hx,hy,hl];rfl
def Tv{v:Int}:Wp (lr (.tup ds) [.int v] st) Q↔∃ns j,bX iV ds=some ns/\ns.findIdx? (λi=>decide (i=v))=some j/\Q (.int (j:Int)) st:=by
 constructor
 ·rintro⟨a,s,e,q⟩
  simp only[lr]at e;split at e
  ·next ns hn =>
   split at e
   ·next j hj=>cases e;exact⟨ns,j,hn,hj,q⟩
   ·cases e
  ·cases e
 ·rintro⟨ns,j,hn,hj,q⟩
  refine⟨_,_,?_,q⟩;simp only[lr,hn,hj]
def ZR{v:Int}{ns:List Int}(h:items st k=some (ns.map D.int))(hv:v∈ns)(hl:ns.length<=1000)(hb:∀i∈ns,-1000000000000000000<=i/\i<=1000000000000000000):Wp (lS (.ref k) [.int v] st) Q↔Q (.int (ns.idxOf v:Int)) st:=by
 have e:bX iV (ns.map D.int)=some ns:=by
  have:=y9 (f:=iV) (g:=D.int) (k:=id) (λ_=>rfl) ns;rw[this,Zb2]
 have e2:lS (.ref k) [.int v] st=some (.int (ns.idxOf v:Int),st):=by
  simp only[lS,h,Zbj,e];rw[if_pos ⟨hv,hl,hb⟩]
 rw[e2,a5]
def Bp:Wp (A5 [.ref k] st) Q↔∃ds bs,items st k=some ds/\bX bV ds=some bs/\Q (.bl (bs.all id)) st:=by
 constructor
 ·rintro⟨a,s,e,q⟩
  simp only[A5]at e;split at e
  ·next bs hb =>
   cases e;obtain⟨ds,h1,h2⟩:=Za0.mp hb;exact⟨ds,bs,h1,h2,q⟩
  ·cases e
 ·rintro⟨ds,bs,h1,h2,q⟩
  refine⟨_,_,?_,q⟩;simp only[A5,h1,Zbj,h2]
def zm:Wp (tP neg a c st) Q↔∃x ds vs,sV a=some x/\cH st c=some ds/\bX sV ds=some vs/\Q (.bl (if neg then !yy x vs else yy x vs)) st:=by
 constructor
 ·rintro⟨b,s,e,q⟩
  simp only[tP]at e;split at e
  ·next x vs h1 h2 =>
   cases e;obtain⟨ds,h3,h4⟩:=Za0.mp h2;exact⟨x,ds,vs,h1,h3,h4,q⟩
  ·cases e
 ·rintro⟨x,ds,vs,h1,h2,h3,q⟩
  refine⟨_,_,?_,q⟩;simp only[tP,h1,h2,Zbj,h3]
def Tw(ns:List Int):bX sV (ns.map D.int)=some (ns.map V.int):=y9 (f:=sV) (g:=D.int) (k:=V.int) (λ_=>rfl) ns
def KP(ns:List Int):bX iV (ns.map D.int)=some ns:=by have:=y9 (f:=iV) (g:=D.int) (k:=id) (λ_=>rfl) ns;rw[this,Zb2]
def KQ:Wp (jP neg a b st) Q↔∃p q,gX st 20 a=some p/\gX st 20 b=some q/\(PyData.canLay0 p=true/\PyData.canLay0 q=true/\min p.depth q.depth<=60)/\Q (.bl (if neg then !PyData.eqv p q else PyData.eqv p q)) st:=by
 constructor
 ·rintro⟨c,s,e,q⟩
  simp only[jP]at e;split at e
  ·next x y h1 h2 =>
   split at e
   ·next hs =>
    cases e;rw[ZaC,ZaC,decide_eq_true_eq]at hs;exact⟨x,y,h1,h2,⟨hs.1.1,hs.1.2,hs.2⟩,q⟩
   ·cases e
  ·cases e
 ·rintro⟨x,y,h1,h2,⟨h3,h4,h5⟩,q⟩
  refine⟨_,_,?_,q⟩;simp only[jP,h1,h2,h3,h4,decide_eq_true h5];rfl
def Bq{z:Str}:Wp (A3 (.str z) (.int i) st) Q↔∃c,lim z.length=true/\dA z.cps.toList i=some c/\Q (.str ⟨#[c]⟩) st:=by
 constructor
 ·rintro⟨c,s,e,q⟩
  simp only[A3]at e;split at e
  ·next h1 =>
   split at e
   ·next c hc=>cases e;exact⟨c,h1,hc,q⟩
   ·cases e
  ·cases e
 ·rintro⟨c,h1,h2,q⟩
  refine⟨_,_,?_,q⟩;simp only[A3,h1,h2];rfl
def ZT{U:ai}{fa:ai->Dm (List D)}{R:Src->Store->Prop}:Wp (bR fa U st) R↔Wp (fa U st) λas st1=>∃j,as=[.int j]/\(-4611686018427387904<=j/\j<4611686018427387904)/\R (.fix (aH 0 j.toNat)) st1:=by
 unfold bR;rw[c5];constructor<;>refineλh=>aR h λas s h=>?_
 ·split at h
  ·next j =>
   rw[qh,a5,hW]at h;split at h
   ·next hk=>exact⟨j,rfl,of_decide_eq_true hk,h⟩
   ·exact h.elim
  ·exact(hW.mp h).elim
 ·obtain⟨j,rfl,h1,h⟩:=h
  simp only[decide_eq_true h1,if_true];exact a5.mpr h
def ZU{U:ai}{fa:ai->Dm (List D)}{R:Src->Store->Prop}:Wp (qF fa U st) R↔Wp (fa U st) λas st1=>∃i j,as=[.int i,.int j]/\((-4611686018427387904<=i/\i<4611686018427387904)/\-4611686018427387904<=j/\j<4611686018427387904)/\R (.fix (aH i (j-i).toNat)) st1:=by
 unfold qF;rw[c5];constructor<;>refineλh=>aR h λas s h=>?_
 ·split at h
  ·next i j =>
   rw[qh,a5,hW]at h;split at h
   ·next hk=>exact⟨i,j,rfl,of_decide_eq_true hk,h⟩
   ·exact h.elim
  ·exact(hW.mp h).elim
 ·obtain⟨i,j,rfl,h1,h⟩:=h
  simp only[decide_eq_true h1,if_true];exact a5.mpr h
def Tx{U:ai}{fa:ai->Dm D}{R:Src->Store->Prop}:Wp (bT fa U st) R↔Wp (fa U st) λa st1=>∃ds,a=.tup ds/\R (.fix ds) st1:=by unfold bT;rw[c5];constructor<;>refineλh=>aR h λa s h=>?_;cases a<;>simp only[a5,hW]at h;exact⟨_,rfl,h⟩;obtain⟨j,rfl,h⟩:=h;exact a5.mpr h
def ZV{U:ai}{fa:ai->Dm D}{R:Src->Store->Prop}:Wp (ju fa U st) R↔Wp (fa U st) λa st1=>∃i ds,a=.ref i/\items st1 i=some ds/\R (.live i) st1:=by
 unfold ju;rw[c5];constructor<;>refineλh=>aR h λa s h=>?_
 ·split at h
  ·split at h
   ·next i ds hd=>exact⟨_,ds,rfl,hd,a5.mp h⟩
   ·exact(hW.mp h).elim
  ·exact(hW.mp h).elim
 ·obtain⟨i,ds,rfl,hd,h⟩:=h
  simp only[hd];exact a5.mpr h
def ZW{U:ai}{fa:ai->Dm (List D)}{R:Src->Store->Prop}:Wp (mS fa U st) R↔Wp (fa U st) λas st1=>∃ds,as=[.tup ds]/\R (.fix (gg ds)) st1:=by unfold mS;rw[c5];constructor<;>refineλh=>aR h λas s h=>?_;split at h;exact⟨_,rfl,a5.mp h⟩;exact(hW.mp h).elim;obtain⟨ds,rfl,h⟩:=h;exact a5.mpr h
def Dp{i:Nat}{d:D}{U:ai}{R:ai->Store->Prop}:Wp (hName i d U st) R↔R (U.set i (some d)) st:=a5
def Tz{U:ai}{R:ai->Store->Prop}:Wp (gq [] U st) R↔R U st:=a5
def Ou{f:D->ai->Dm ai}{g:List D->ai->Dm ai}{d:D}{ds:List D}{U:ai}{R:ai->Store->Prop}:Wp (aM f g (d :: ds) U st) R↔Wp (f d U st) λU1 st1=>Wp (g ds U1 st1) R:=c5
def TB{n:Nat}{f:List D->ai->Dm ai}{ds:List D}{U:ai}{R:ai->Store->Prop}:Wp (fX n f (.tup ds) U st) R↔ds.length=n/\Wp (f ds U st) R:=by
 show Wp (if ds.length=n then f ds U st else none) R↔_;rw[qh,hW];split
 ·next h=>exact⟨λq=>⟨h,q⟩,λq=>q.2⟩
 ·next h=>exact⟨False.elim,λq=>h q.1⟩
def ZX{fo fi:ai->Dm D}{d:D}{U:ai}{R:ai->Store->Prop}:Wp (hSub fo fi d U st) R↔Wp (fo U st) λo st1=>Wp (fi U st1) λi st2=>∃r k xs j,o=.ref r/\i=.int k/\own st2 r=some xs/\oA xs.length k=some j/\R U (st2.set r (.lst (xs.set j d))):=by
 unfold hSub;rw[c5];simp only[c5];constructor<;>refineλh=>aR h λo s h=>aR h λi s2 h=>?_
 ·split at h
  ·split at h
   ·next xs hx =>
    split at h
    ·next j hj=>exact⟨_,_,xs,j,rfl,rfl,hx,hj,a5.mp h⟩
    ·exact(hW.mp h).elim
   ·exact(hW.mp h).elim
  ·exact(hW.mp h).elim
 ·obtain⟨r,k,xs,j,rfl,rfl,hx,hj,h⟩:=h
  simp only[hx,hj];exact a5.mpr h
def ZY{a:D}{c:String}:Wp (qD [a,.ty c] st) Q↔uw st a=some c/\Q (.bl true) st:=by
 constructor
 ·rintro⟨b,s,e,q⟩
  simp only[qD]at e;split at e
  ·next T hT =>
   split at e
   ·next h=>cases e;subst h;exact⟨hT,q⟩
   ·cases e
  ·cases e
 ·rintro⟨h,q⟩
  refine⟨_,_,?_,q⟩;simp only[qD,h,if_true]
def FU{U:ai}{R:Bool->Store->Prop}:Wp (b8 U st) R↔R true st:=a5
end
def Br{J:Type}(x:J)(xs:List J):dA (x :: xs) 0=some x:=by unfold dA oA;rw[if_pos ∅,if_pos (by simp only[ZaD];lk)];rfl
def zo{J:Type}(x y:J)(xs:List J):dA (x :: y :: xs) 1=some y:=by unfold dA oA;rw[if_pos ∅,if_pos (by simp only[ZaD];lk)];rfl
def Bs{J:Type}{a:J}{l:List J}:(a :: l)[0]?=some a:=List.getElem?_cons_zero
def Bt{J:Type}{a:J}{l:List J}{i:Nat}:(a :: l)[i+1]?=l[i]?:=List.getElem?_cons_succ
def Bu{J:Type}{a b:J}{l:List J}:(a :: l).set 0 b=b :: l:=List.set_cons_zero
def Bw{J:Type}{a b:J}{l:List J}{i:Nat}:(a :: l).set (i+1) b=a :: l.set i b:=List.set_cons_succ
def Bx{J:Type}(a b:J):(some a=some b)=(a=b):=Option.some.injEq a b
def FV{J:Type}{p:J->Prop}{a':J}:(∃a,a'=a/\p a)↔p a':=exists_eq_left'
def Ov{J:Type}{p:J->Prop}{a':J}:(∃a,a=a'/\p a)↔p a':=exists_eq_left
def FW{J:Type}{p:J->Prop}{b:Prop}:(∃x,b/\p x)↔b/\∃x,p x:=exists_and_left
def FX(a b:Int):(D.int a=D.int b)=(a=b):=D.int.injEq a b
def Ow(a b:Bool):(D.bl a=D.bl b)=(a=b):=D.bl.injEq a b
def FY(a b:Str):(D.str a=D.str b)=(a=b):=D.str.injEq a b
def FZ(a b:List D):(D.tup a=D.tup b)=(a=b):=D.tup.injEq a b
def F0(a b:Nat):(D.ref a=D.ref b)=(a=b):=D.ref.injEq a b
def By{J:Type}(a:J)(l:List J)(b:J)(m:List J):(a :: l=b :: m)=(a=b/\l=m):=List.cons.injEq a l b m
def Bz{J S:Type}(a:J)(b:S)(c:J)(d:S):((a,b)=(c,d))=(a=c/\b=d):=Prod.mk.injEq a b c d
def BA(p:Prop):(p/\True)=p:=and_true p
def BB(p:Prop):(True/\p)=p:=true_and p
def BD:(!true)=false:=rfl
def BE:(!false)=true:=rfl
def Ox:(false=true)=False:=by simp
def F3{J:Type}{h:Decidable False}(t e:J):@ite J False h t e=e:=if_false t e
def F4{J:Type}{h:Decidable True}(t e:J):@ite J True h t e=t:=if_true t e
abbrev a8:=And.intro @Oj (And.intro @Ol (And.intro @KI (And.intro @FN (And.intro @Dk (And.intro @KJ (And.intro @uN (And.intro @S6 (And.intro @S7 (And.intro @KL (And.intro @Ba (And.intro @Bb (And.intro @FO (And.intro @zh (And.intro @Zj (And.intro @Bc (And.intro @Zk (And.intro @S8 (And.intro @S9 (And.intro @zi (And.intro @zj (And.intro @Bd (And.intro @Ta (And.intro @FP (And.intro @FQ (And.intro @FR (And.intro @FT (And.intro @Be (And.intro @Bf (And.intro @Zl (And.intro @Bg (And.intro @Bh (And.intro @Bi (And.intro @Bj (And.intro @Om (And.intro @Tb (And.intro @Bk (And.intro @Tc (And.intro @Zm (And.intro @Td (And.intro @Bl (And.intro @Zn (And.intro @Zo (And.intro @Zp (And.intro @Zq (And.intro @Zr (And.intro @Zs (And.intro @Zt (And.intro @Zu (And.intro @Zv (And.intro @Zx (And.intro @Zy (And.intro @Bn (And.intro @Zz (And.intro @ZA (And.intro @ZC (And.intro @tW (And.intro @ZE (And.intro @ZF (And.intro @ZG (And.intro @ZH (And.intro @ZI (And.intro @ZJ (And.intro @ZK (And.intro @ZL (And.intro @ZN (And.intro @ZO (And.intro @Bo (And.intro @ZP (And.intro @ZQ (And.intro @Tv (And.intro @Bp (And.intro @Bq (And.intro @ZT (And.intro @ZU (And.intro @Tx (And.intro @ZV (And.intro @ZW (And.intro @Dp (And.intro @Tz (And.intro @Ou (And.intro @TB (And.intro @ZX (And.intro @ZY (And.intro @FU (And.intro @Br (And.intro @zo (And.intro @Bs (And.intro @Bt (And.intro @Bu (And.intro @Bw (And.intro @Bx (And.intro @FV (And.intro @Ov (And.intro @FW (And.intro @FX (And.intro @Ow (And.intro @FY (And.intro @FZ (And.intro @F0 (And.intro @By (And.intro @Bz (And.intro @BA (And.intro @BB (And.intro @BD (And.intro @BE (And.intro @Ox (And.intro @F3 (@F4))))))))))))))))))))))))))))))))))))))))))))))))))))))))))))))))))))))))))))))))))))))))))))))))))))))))))))
def bD{J:Type}{m:Option (J×Store)}{Q:J->Store->Prop}(h:∀Q':J->Store->Prop,(∀a st,Q a st->Q' a st)->Wp m Q'):Wp m Q:=h Q λ_ _ h=>h
section
variable {X:Cx}{K:Zfr}
def TC:∀{ns:List Int},(∀i∈ns,Nl i)->PyData.weightAll (cZ ns)<=65*ns.length
 |[],_=>by show PyData.weightAll []<=0;simp only[PyData.weightAll];exact Zad _
 |n :: r,h=>by
  have ih:=TC (ns:=r) λi hi=>h i (Zak _ hi);have hn:=h n Zah;have hw:(PyData.int n).weight<=64:=by
   simp only[PyData.weight];split;lk
   have:n.natAbs<2 ^ 63:=by unfold Nl at hn;lk
   have h2:n.natAbs.log2<63:=by
    by_cases h0:n.natAbs=0;rw[h0];decide;exact(Nat.log2_lt h0).mpr this
   lk
  show PyData.weightAll (PyData.int n :: cZ r)<=65*(r.length+1);simp only[PyData.weightAll];lk
abbrev qG(K:Zfr):V->List V->Hp->VK->Prop:=λx vs H Q=>∃(a:Addr) (ns:List Int) (v:Int),x=.ref a/\vs=[.int v]/\jX K H a (ns.map V.int)/\v∈ns/\ns.length<=1000/\(∀i∈ns,Nl i)/\Q (.int (ns.idxOf v:Int)) H
def ZZ:yu X "list.index" (qG X.K):=by
 intro pins s G H x xs v us Q I rx rv h;obtain⟨a,ns,y,rfl,rfl,hq,hm,hl,hb,q⟩:=h;cases rx;obtain⟨u,rfl,t,rfl⟩:=vals1 rv;obtain⟨its,r,pl,hz⟩:=I.list hq
 exact PyProof.Rows.index_list_ints (vs:=its) pl.isList (ML r) (by
  have hw:=TC hb;have c1:(PyData.list (List.map PyData.int ns)).canLay0=true:=Au ns;have c2:(PyData.list (List.map PyData.int ns)).depth<=64:=by show PyData.depthAll (cZ ns)+1<=64;rw[C0];lk
  have c3:(PyData.list (List.map PyData.int ns)).weight<=2 ^ 20:=by simp only[PyData.weight];exact Zaq hw ⋯
  show(_ && _ && _)=true
  rw[c1,decide_eq_true c2,decide_eq_true c3];rfl) hm ⟨.int _,H,I.tok _,⟨_,rfl⟩,q⟩
def Z0(hK:X.K=K):yu X "list.index" (qG K):=by subst hK;exact ZZ
def TF:xF K "list" (qG K) lS:=by
 intro W H st x xs a as b st' Q l rx uv e q;unfold lS at e;split at e
 ·split at e
  ·next ns hn =>
   split at e
   ·next hm =>
    cases e;obtain⟨v,rfl,r⟩:=uv.one';cases r;cases rx with
    |ref hi =>
     obtain⟨ds,h1,h2⟩:=Za0.mp hn;obtain⟨vs,s,r⟩:=l.items hi h1;cases FI r h2;exact⟨_,ns,_,rfl,rfl,s,hm.1,hm.2.1,hm.2.2,q _ H W .refl l (.int _)⟩
   ·cases e
  ·cases e
 ·cases e
end
section
variable {st:Store}{Q:D->Store->Prop}
def TH(n:Nat)(L:List Int):bX (gX st (n+1)) (L.map D.int)=some (cZ L):=y9 (f:=gX st (n+1)) (g:=D.int) (k:=PyData.int) (λ_=>by simp only[gX]) L
def Oy(a b:List PyData):PyData.eqv (.list a) (.list b)=PyData.eqvAll a b:=by simp only[PyData.eqv]
def KR(a b:List PyData):PyData.eqv (.tuple a) (.tuple b)=PyData.eqvAll a b:=by simp only[PyData.eqv]
def TJ{neg:Bool}{a b:Nat}{L M:List Int}(ha:items st a=some (L.map D.int))(hb:items st b=some (M.map D.int)):Wp (jP neg (.ref a) (.ref b) st) Q↔Q (.bl (if neg then !decide (L=M)else decide (L=M))) st:=by
 have p1:∀(i:Nat) (N:List Int),items st i=some (N.map D.int)->gX st 20 (.ref i)=some (.list (cZ N)):=λi N h=>by
  simp only[gX,h];rw[TH];rfl
 have dp:∀N:List Int,PyData.depth (.list (cZ N))<=1:=λN=>by show PyData.depthAll (cZ N)+1<=1;rw[C0];lk
 rw[KQ];constructor;rintro⟨p,q,h1,h2,_,h⟩;rw[p1 a L ha]at h1;rw[p1 b M hb]at h2;cases h1;cases h2;rw[Oy,EM]at h;exact h;intro h;refine⟨_,_,p1 a L ha,p1 b M hb,⟨Au L,Au M,by have:=dp L;lk⟩,?_⟩;rw[Oy,EM];exact h
abbrev F5(rs:List (List Int)):D:=.tup (rs.map λr=>.tup (r.map D.int))
def Oz(rs:List (List Int)):gX st 20 (F5 rs)=some (.tuple (rs.map mO)):=by unfold F5;simp only[gX];rw[y9 (f:=gX st 19) (g:=λr:List Int=>D.tup (r.map D.int)) (k:=mO) (λr=>by simp only[gX];rw[TH];rfl) rs];rfl
def OA:∀(rs ss:List (List Int)),PyData.eqvAll (rs.map mO) (ss.map mO)=decide (rs=ss)
 |[],[]=>rfl
 |[],_ :: _=>rfl
 |_ :: _,[]=>rfl
 |r :: rs,s :: ss=>by
  show(PyData.eqv (mO r) (mO s) && PyData.eqvAll (rs.map mO) (ss.map mO))=decide (r :: rs=s :: ss);rw[OA rs ss];unfold mO;rw[KR,EM];by_cases h:r=s;subst h;simp;simp[h]
def Z1:Wp (jP neg (F5 rs) (F5 ss) st) Q↔Q (.bl (if neg then !decide (rs=ss)else decide (rs=ss))) st:=by
 have dp:∀rs:List (List Int),PyData.depth (.tuple (rs.map mO))<=2:=λN=>by show PyData.depthAll (N.map mO)+1<=2;have:=Rf N;lk
 rw[KQ];constructor;rintro⟨p,q,h1,h2,_,h⟩;rw[Oz]at h1 h2;cases h1;cases h2;rw[KR,OA]at h;exact h;intro h;refine⟨_,_,Oz rs,Oz ss,⟨Nk rs,Nk ss,by have:=dp rs;lk⟩,?_⟩;rw[KR,OA];exact h
end
abbrev a6(st:Store)(f:Nat):Prop:=∃o m:Int,st[f]?=some (.lst [.int o,.int m])/\0<=o/\0<=m/\m<4294967296
def F6:oA 2 0=some 0:=by decide
def F7:oA 2 1=some 1:=by decide
def ux(n:Nat):aH 0 n=(af.upto n).map D.int:=by unfold aH af.upto;rw[ZaF];apply ZaQ;intro i _;simp
def Z2(L:List Int)(j:Nat):(L.map D.int).eraseIdx j=(L.eraseIdx j).map D.int:=by
 induction L generalizing j with
 |nil=>rfl
 |cons a r ih =>
  cases j with
  |zero=>rfl
  |succ j=>show D.int a :: (r.map D.int).eraseIdx j=_;rw[ih];rfl
def Z3{L:List Int}{j:Nat}(h:j<L.length):(L[j] :: L.eraseIdx j).Perm L:=by
 induction L generalizing j with
 |nil=>exact absurd h (ZaV _)
 |cons a r ih =>
  cases j with
  |zero=>exact Zca _
  |succ j =>
   have:=ih (j:=j) (by simpa using h);exact(List.Perm.swap _ _ _).trans (this.cons a)
def a6.keep(h:a6 st f)(e:Ex [] st st'):a6 st' f:=by obtain⟨o,m,e1,r⟩:=h;exact⟨o,m,e.keep _ _ e1 (by simp),r⟩
def a6.ne(h:a6 st f)(hi:i≠f):a6 (st.set i o) f:=by obtain⟨x,m,e1,r⟩:=h;exact⟨x,m,by rw[Zal hi];exact e1,r⟩
def a6.lt{st:Store}{f:Nat}(h:a6 st f):f<st.length:=let ⟨_,_,e,_⟩:=h;dc e
def rL{xs:List Int}{i:Int}(h0:0<=i)(h1:i<(xs.length:Int)):dA (xs.map D.int) i=some (.int (af.app xs i)):=by
 have e:(xs.map D.int)[i.toNat]?=some (.int (af.app xs i)):=by rw[Zag,af.rE h0 h1];rfl
 have:=CV e
 rwa [ZaG h0]at this
def F8{xs:List Int}{i:Nat}{d:D}(h:(xs.map D.int)[i]?=some d):∃x,xs[i]?=some x/\d=.int x:=by rw[Zag]at h;obtain⟨x,h1,h2⟩:=Zay.mp h;exact⟨x,h1,h2.symm⟩
def OB(x:Int):∀(ns:List Int),yy (.int x) (ns.map V.int)=ns.contains x
 |[]=>rfl
 |n :: r=>by
  have e:=OB x r;unfold yy at e ⊢;rw[Zaz,Za1,e,List.contains_cons]
  congr 1
  show(n == x)=(x == n);exact Bool.beq_comm
def F9{st:Store}{Q:D->Store->Prop}{neg:Bool}{x:Int}{c:D}{ns:List Int}(hc:cH st c=some (ns.map D.int)):Wp (tP neg (.int x) c st) Q↔Q (.bl (if neg then !ns.contains x else ns.contains x)) st:=by rw[zm];constructor;rintro⟨v,ds,vs,h1,h2,h3,h⟩;cases h1;rw[hc]at h2;cases h2;rw[Tw]at h3;cases h3;rw[OB]at h;exact h;intro h;refine⟨_,_,_,rfl,hc,Tw ns,?_⟩;rw[OB];exact h
abbrev bS(xs ys:List Int):D:=.tup [.tup (xs.map D.int),.tup (ys.map D.int)]
structure r9(mK st:Store)(f r u:Nat)(n:Nat)(X Y:List Int):Prop where
 hr:st[r]?=some (.lst (X.map D.int))
 hu:st[u]?=some (.lst (Y.map D.int))
 ne:r≠u
 r0:mK.length<=r
 u0:mK.length<=u
 tX:af.Tn n X
 tY:af.Tn n Y
 fd:a6 st f
 ex:Ex [f] mK st
section
variable {mK st st':Store}{f r u n:Nat}{X Y Z:List Int}{o:O}
def r9.keep(h:r9 mK st f r u n X Y)(e:Ex [] st st'):r9 mK st' f r u n X Y:=⟨e.keep _ _ h.hr (by simp),e.keep _ _ h.hu (by simp),h.ne,h.r0,h.u0,h.tX,h.tY,h.fd.keep e,h.ex.trans e.any⟩
def r9.put(h:r9 mK st f r u n X Y)(t:af.Tn n Z)(hf:f<mK.length):r9 mK (st.set r (.lst (Z.map D.int))) f r u n Z Y:=⟨Zaj (dc h.hr),by rw[Zal h.ne];exact h.hu,h.ne,h.r0,h.u0,t,h.tY,h.fd.ne (by have:=h.r0;lk),h.ex.loc h.r0⟩
end
def TK(n:Nat):(af.tH n).map D.int=aH 1 ((n:Int)-1).toNat ++ [.int 0]:=by unfold af.tH aH;rw[Zap,ZaF,show((n:Int)-1).toNat=n-1 by lk];rfl
def xO(h:0<=lo/\lo<=10000/\0<=hi/\hi<=10000):r6 lo hi=true:=by unfold r6;rw[ZaC,decide_eq_true_eq];exact⟨by lk,jH ⋯⟩
def BF(w n:Nat):(af.xA w n).map D.int=aH 1 ((w:Int)-1).toNat ++ [.int 0] ++ aH (w:Int) ((n:Int)-(w:Int)).toNat:=by unfold af.xA aH;rw[Zap,Zap,ZaF,ZaF,show((w:Int)-1).toNat=w-1 by lk,show((n:Int)-(w:Int)).toNat=n-w by lk];rfl
def Z4(xs:List D)(j:Nat):cutD xs none (some (j:Int))=xs.take j:=by unfold cutD;rw[HT.WL,HT.WM,ZcA,Nat.sub_zero,List.take_eq_take_iff];lk
def BG(h0:0<w)(h:w<n):(af.xB w n).map D.int=cutD ([D.int (w:Int)] ++ aH 1 ((w:Int)-1).toNat ++ aH ((w:Int)+1) ((n:Int)-((w:Int)+1)).toNat ++ [.int 0]) none (some (n:Int)):=by rw[Z4,List.take_of_length_le (by simp[gs];lk)];unfold af.xB aH;rw[Zap,Zap,Zap,ZaF,ZaF,show((w:Int)-1).toNat=w-1 by lk,show((n:Int)-((w:Int)+1)).toNat=n-(w+1) by lk];rfl
abbrev p4(n:Nat)(xs ys:List Int):Prop:=af.Tn n xs/\af.Tn n ys/\∀x:Int,0<=x->x<(n:Int)->af.kZ xs ys x
def TL{xs:List Int}{v:Int}(h:v∈xs):xs.findIdx? (λi=>decide (i=v))=some (xs.idxOf v):=by
 induction xs with
 |nil=>exact nomatch h
 |cons a r ih =>
  rw[List.findIdx?_cons];by_cases e:a=v;subst e;simp;have hm:v∈r:=by
   rcases ZaE.mp h with h|h
   exact absurd h.symm e;exact h
  rw[decide_eq_false e,ih hm,List.idxOf_cons,show(a == v)=false by simpa using e];rfl
abbrev qi(S:Src)(ds:List D)(st:Store):Prop:=∀(i:Nat) (st2:Store),i<=ds.length->Ex [] st st2->S.at i st2=some ds[i]?
def Z5(h:items st r=some ds)(e:Ex [] st st'):items st' r=some ds:=by
 unfold items at h ⊢;cases hx:st[r]? with
 |none=>rw[hx]at h;cases h
 |some o=>rw[e.keep _ _ hx (by simp)];rw[hx]at h;exact h
def sI(ds:List D)(st:Store):qi (.fix ds) ds st:=λi st2 hi _=>by
 show(if i<=ds.length then some ds[i]? else none)=_;rw[if_pos hi]
def Z6(h:items st r=some ds):qi (.live r) ds st:=λi st2 hi e=>by
 show(items st2 r).map _=_;rw[Z5 h e];rfl
def uP(ds:List D)(h:D->D)(hi:Wp (fi U st) λS st1=>qi S ds st1/\Ex [] st st1)(hl:ds.length<100000)
  (step:∀d∈ds,∀st1,Ex [] st st1->Wp (f (some d :: js.map λj=>U.getD j none) st1) λy st2=>y=h d/\Ex [] st1 st2) (fin:∀st',Ex [] st st'->Q (.ref st'.length) (st' ++ [.lst (ds.map h)])):Wp (bU fi 1 js (hName 0) b8 f U st) Q:=by
 obtain⟨S,st1,e1,hS,k1⟩:=hi;refine Dn ds (λi ys U' iH=>(∃v,U'=v :: js.map λj=>U.getD j none)/\ys=(ds.take i).map h/\Ex [] st1 iH) ⟨S,st1,e1,λi ys U' iH hi' hp=>hS i iH hi' hp.2.2,⟨none,rfl⟩,rfl,Ex.refl⟩ hl ?_ ?_ ?_;rintro i ys U' iH ⟨_,rfl,_⟩;rw[Zaa,Zbi];lk;rintro i d ys U' iH hd ⟨⟨v,rfl⟩,rfl,k8⟩;rw[Dp];show Wp (b8 _ _) _;rw[FU];refine⟨λ_=>?_,λh=>absurd h ∅⟩;refine aR (step d (Zai hd) iH (k1.trans k8)) ?_;rintro y qZ ⟨rfl,k9⟩;refine⟨⟨some d,rfl⟩,?_,k8.trans k9⟩;obtain⟨hlt,e⟩:=Zab.mp hd;rw[ZaH hlt,Zap,e];rfl;rintro ys U' iH ⟨_,rfl,k8⟩;rw[ZaN];exact fin iH (k1.trans k8)
def BH{xs:List Int}{d:D}(h:d∈xs.map D.int):∃x∈xs,d=.int x:=by obtain⟨x,hx,rfl⟩:=Zaw.mp h;exact⟨x,hx,rfl⟩
def Ga{xs:List Int}{f:Int->Int}{h:D->D}(e:∀x∈xs,h (.int x)=.int (f x)):(xs.map D.int).map h=(xs.map f).map D.int:=by rw[ZaF,ZaF];exact ZaQ λx hx=>e x hx
abbrev inD:D->Int
 |.int i=>i
 |_=>0
section
variable {st:Store}{Q:D->Store->Prop}
def Z7:Wp (jP neg (bS xs ys) (bS zs ws) st) Q↔Q (.bl (if neg then !decide ([xs,ys]=[zs,ws])else decide ([xs,ys]=[zs,ws]))) st:=Z1 (rs:=[xs,ys]) (ss:=[zs,ws])
end
def TM(zs:List Int):(zs.map D.int).map inD=zs:=by rw[ZaF];exact Zb2 zs
def _root_.af.xP(fl:p4 n xs ys)(tp:af.Tn n p)(n0:0<n):p4 n (af.anew xs p) (af.anew ys p):=by
 obtain⟨tx,ty,all⟩:=fl;have tX:=tx.anew tp;have tY:=ty.anew tp;refine⟨tX,tY,λx x0 x1=>?_⟩;obtain⟨a0,a1⟩:=tp.app (i:=0) ∅ ⋯;have hb:∀y:Int,0<=y->y<(n:Int)->y∈af.bf (af.anew xs p) (af.anew ys p) (af.app p 0) n:=λy y0 y1=>by
  rw[af.ND tx ty tp ∅ ⋯ n];obtain⟨b0,b1⟩:=tp.oM y0 y1;exact Zaw.mpr ⟨af.app (af.inv p) y,af.RQ tx ty ∅ ⋯ all b0 b1,tp.cG y0 y1⟩
 have hF:=af.NC tX tY (s:=0) ∅ ⋯;have nd:=af.AL (af.anew xs p) (af.anew ys p) 0 n;have bd:=af.uo tX tY (s:=0) ∅ ⋯ n;have Z8:∀k,∀y∈af.bf (af.anew xs p) (af.anew ys p) 0 k,af.kZ (af.anew xs p) (af.anew ys p) y:=by
  intro k
  induction k with
  |zero=>intro y hy;rw[Zar.mp (show y∈[(0:Int)]from hy)];exact .zero
  |succ k ih =>
   intro y hy;have hy':y∈(match (af.bf (af.anew xs p) (af.anew ys p) 0 k)[k]? with|some x=>af.visit (af.anew xs p) (af.anew ys p) (af.bf (af.anew xs p) (af.anew ys p) 0 k) x|none=>af.bf (af.anew xs p) (af.anew ys p) 0 k):=hy;split at hy'
   ·next z hz =>
    have yS:=ih z (Zai hz);rcases af.tJ.mp hy' with hy'|rfl
    ·rcases af.tJ.mp hy' with hy'|rfl
     ·exact ih y hy'
     ·exact yS.r
    ·exact yS.u
   ·exact ih y hy'
 refine Z8 n x ?_;have z0:(0:Int)∈af.bf (af.anew xs p) (af.anew ys p) 0 n:=by
  have:=af.AK (af.anew xs p) (af.anew ys p) 0 0 n;rw[ZbA]at this;exact this.subset (show(0:Int)∈[(0:Int)] by simp)
 have back:∀k,(∃y∈af.bf (af.anew xs p) (af.anew ys p) (af.app p 0) k,y∈af.bf (af.anew xs p) (af.anew ys p) 0 n)->af.app p 0∈af.bf (af.anew xs p) (af.anew ys p) 0 n:=by
  intro k
  induction k with
  |zero =>
   rintro⟨y,hy,xt⟩;rw[Zar.mp (show y∈[af.app p 0]from hy)]at xt;exact xt
  |succ k ih =>
   rintro⟨y,hy,xt⟩;have hy':y∈(match (af.bf (af.anew xs p) (af.anew ys p) (af.app p 0) k)[k]? with|some x=>af.visit (af.anew xs p) (af.anew ys p) (af.bf (af.anew xs p) (af.anew ys p) (af.app p 0) k) x|none=>af.bf (af.anew xs p) (af.anew ys p) (af.app p 0) k):=hy;split at hy'
   ·next z hz =>
    have C6:=Zai hz;obtain⟨c0,c1⟩:=af.uo tX tY a0 a1 k z C6;rcases af.tJ.mp hy' with hy'|rfl
    ·rcases af.tJ.mp hy' with hy'|rfl
     ·exact ih ⟨y,hy',xt⟩
     ·exact ih ⟨z,C6,af.Fe tX nd bd (λx hx=>(hF x hx).1) c0 c1 xt⟩
    ·exact ih ⟨z,C6,af.Fe tY nd bd (λx hx=>(hF x hx).2) c0 c1 xt⟩
   ·exact ih ⟨y,hy',xt⟩
 have hp0:=back n ⟨0,hb 0 ∅ ⋯,z0⟩;have fwd:∀k,∀y∈af.bf (af.anew xs p) (af.anew ys p) (af.app p 0) k,y∈af.bf (af.anew xs p) (af.anew ys p) 0 n:=by
  intro k
  induction k with
  |zero=>intro y hy;rw[Zar.mp (show y∈[af.app p 0]from hy)];exact hp0
  |succ k ih =>
   intro y hy;have hy':y∈(match (af.bf (af.anew xs p) (af.anew ys p) (af.app p 0) k)[k]? with|some x=>af.visit (af.anew xs p) (af.anew ys p) (af.bf (af.anew xs p) (af.anew ys p) (af.app p 0) k) x|none=>af.bf (af.anew xs p) (af.anew ys p) (af.app p 0) k):=hy;split at hy'
   ·next z hz =>
    have yS:=ih z (Zai hz);rcases af.tJ.mp hy' with hy'|rfl
    ·rcases af.tJ.mp hy' with hy'|rfl
     ·exact ih y hy'
     ·exact(hF z yS).1
    ·exact(hF z yS).2
   ·exact ih y hy'
 exact fwd n x (hb x x0 x1)
def BI(p:Key×D)(r:List (Key×D))(k:Key):eC (p :: r) k=if p.1=k then some p.2 else eC r k:=by unfold eC;rw[ZaU];by_cases e:p.1=k;rw[decide_eq_true e,if_pos e];rfl;rw[decide_eq_false e,if_neg e]
def Z9(kvs:List (Key×D))(k j:Key)(y:D):eC (putD kvs k y) j=if j=k then some y else eC kvs j:=by
 unfold putD;by_cases a:(kvs.any λkv=>decide (kv.1=k))=true;rw[if_pos a]
 induction kvs with
 |nil=>simp at a
 |cons p r ih =>
  rw[Zaz,BI,BI];by_cases e:p.1=k;rw[if_pos e];by_cases ej:j=k;rw[if_pos ej,if_pos (show(p.1,y).1=j from e.trans ej.symm)];rw[if_neg ej,if_neg (show ¬(p.1,y).1=j fromλz=>ej (z.symm.trans e)),if_neg (λz=>ej (z.symm.trans e))]
  have:∀l:List (Key×D),eC (l.map λkv=>if kv.1=k then(kv.1,y)else kv) j=eC l j:=by
   intro l
   induction l with
   |nil=>rfl
   |cons q l ihl =>
    rw[Zaz,BI,BI,ihl];by_cases eq:q.1=k;rw[if_pos eq,if_neg (show ¬(q.1,y).1=j fromλz=>ej (z.symm.trans eq)),if_neg (λz=>ej (z.symm.trans eq))];rw[if_neg eq]
  exact this r;rw[if_neg e];have a':(r.any λkv=>decide (kv.1=k))=true:=by
   rw[Za1,decide_eq_false e,Bool.false_or]at a;exact a
  rw[ih a'];by_cases ej:j=k;rw[if_pos ej,if_neg (λz=>e (z.trans ej)),if_pos ej];rw[if_neg ej,if_neg ej]
 rw[if_neg a]
 induction kvs with
 |nil =>
  show eC [(k,y)] j=_;rw[BI];by_cases ej:j=k;rw[if_pos ej.symm,if_pos ej];rw[if_neg (λz=>ej z.symm),if_neg ej]
 |cons p r ih =>
  have a':¬(r.any λkv=>decide (kv.1=k))=true:=λz=>a (by rw[Za1,z,Bool.or_true]);have ep:p.1≠k:=λz=>a (by rw[Za1,decide_eq_true z,Bool.true_or]);rw[List.cons_append,BI,ih a',BI];by_cases ej:j=k;rw[if_pos ej,if_pos ej,if_neg (λz=>ep (z.trans ej))];rw[if_neg ej,if_neg ej]
def Xb4(kvs:List (Key×D))(k:Key)(v:D):(putD kvs k v).length<=kvs.length+1:=by unfold putD;split;rw[Zaa];lk;rw[Zae,ZaD,Zcv];lk
def KS(h:st[i]?=some (.dct kvs)):lz st (.ref i)=some kvs:=by simp only[lz,h]
def TN(i:Int):keyOf (.int i)=some (.inl i):=rfl
def Ybv{r:List Int}{j:Nat}(h:j<r.length)(x:Int):(r.take (j+1)).contains x=((r.take j).contains x || x == r[j]):=by
 rw[ZaH h,List.contains_append]
 congr 1
 show([r[j]]:List Int).contains x=(x == r[j]);rw[List.contains_cons,List.contains_nil,Bool.or_false]
@[reducible]def bO:=Bool×Int
abbrev aQ(s:bO):D:=.tup [.str (if s.1 then "s" else "t"),.int s.2]
section
variable {K:Zfr}
abbrev sJ(neg:Bool):D->D->Dm D
 |a,.non,st=>some (.bl (match a with|.non=>!neg|_=>neg),st)
 |_,_,_=>none
abbrev vX(neg:Bool):R2:=λx y H Q=>y=.non/\Q (.bl (if neg then !decide (x=.non)else decide (x=.non))) H
def OC(neg:Bool):oi K (vX neg) (sJ neg):=by intro W H st x y a c b st' Q l rx ry e q;unfold sJ at e;split at e;cases e;cases ry;refine⟨rfl,?_⟩;have k:=q _ H W .refl l (.bl _);cases rx<;>cases neg<;>exact k;cases e
abbrev uy:List D->Dm D
 |[.int i],st=>some (.int (if i<0 then -i else i),st)
 |_,_=>none
def OD:sF K (λxs H Q=>∃i,xs=[V.int i]/\Q (.int (if i<0 then -i else i)) H) uy:=by intro W H st xs as b st' Q l rx e q;unfold uy at e;split at e;cases e;obtain⟨v,rfl,r⟩:=rx.one';cases r;exact⟨_,rfl,q _ H W .refl l (.int _)⟩;cases e
end
section
variable {X:Cx}
def Ydr:kY X (compareOp .Is) (vX false):=Ae
def XcH:kY X (compareOp .IsNot) (vX true):=WD
end
def at2{J:Type}(x y z:J)(xs:List J):dA (x :: y :: z :: xs) 2=some z:=by unfold dA oA;rw[if_pos ∅,if_pos (by simp only[ZaD];lk)];rfl
def TQ{J:Type}(x y z u:J)(xs:List J):dA (x :: y :: z :: u :: xs) 3=some u:=by unfold dA oA;rw[if_pos ∅,if_pos (by simp only[ZaD];lk)];rfl
section
variable {st:Store}{Q:D->Store->Prop}
def TR:Wp (sJ neg .non .non st) Q↔Q (.bl (!neg)) st:=a5
def xdr:Wp (sJ neg (.tup i) .non st) Q↔Q (.bl neg) st:=a5
def TU:Wp (uy [.int i] st) Q↔Q (.int (if i<0 then -i else i)) st:=a5
end
def ycY(ds:List D)(P:Nat->D->Prop)(I:Store->Prop)
  (hi:Wp (fi U st) λS st1=>(∀i st2,i<=ds.length->I st2->S.at i st2=some ds[i]?)/\I st1) (hl:ds.length<100000)
  (step:∀i d,ds[i]?=some d->∀st1,I st1->Wp (f (some d :: js.map λj=>U.getD j none) st1) λy st2=>P i y/\I st2)
  (fin:∀ys st',I st'->ys.length=ds.length->(∀i y,ys[i]?=some y->P i y)->Q (.ref st'.length) (st' ++ [.lst ys])):Wp (bU fi 1 js (hName 0) b8 f U st) Q:=by
 obtain⟨S,st1,e1,hS,k1⟩:=hi;refine Dn ds (λi ys U' iH=>(∃v,U'=v :: js.map λj=>U.getD j none)/\ys.length=i/\(∀i y,ys[i]?=some y->P i y)/\I iH) ⟨S,st1,e1,λi ys U' iH hi' hp=>hS i iH hi' hp.2.2.2,⟨none,rfl⟩,rfl,(λi y h=>by simp at h),k1⟩ hl ?_ ?_ ?_;rintro i ys U' iH ⟨_,h,_⟩;lk;rintro i d ys U' iH hd ⟨⟨v,rfl⟩,hlen,hP,k8⟩;rw[Dp];show Wp (b8 _ _) _;rw[FU];refine⟨λ_=>?_,λh=>absurd h ∅⟩;refine aR (step i d hd iH k8) ?_;rintro y qZ ⟨hp,k9⟩;refine⟨⟨some d,rfl⟩,by rw[Zae,hlen];rfl,λj z hz=>?_,k9⟩;by_cases hj:j<ys.length;rw[Zan hj]at hz;exact hP j z hz;have hb:=dc hz;rw[Zae,Zbh]at hb;have e:j=ys.length:=by lk
 subst e;rw[Zav (Zad _),ZaX]at hz;cases hz;rw[hlen];exact hp;rintro ys U' iH ⟨_,hlen,hP,k8⟩;exact fin ys iH k8 hlen hP
def ZcY(ds:List D)(P:Nat->D->Store->Prop)(mono:∀i y s s',P i y s->Ex [] s s'->P i y s')
  (hi:Wp (fi U st) λS st1=>qi S ds st1/\Ex [] st st1) (hl:ds.length<100000)
  (step:∀i d,ds[i]?=some d->∀st1,Ex [] st st1->Wp (f (some d :: js.map λj=>U.getD j none) st1) λy st2=>P i y st2/\Ex [] st1 st2)
  (fin:∀ys st',Ex [] st st'->ys.length=ds.length->(∀i y,ys[i]?=some y->P i y st')->Q (.ref st'.length) (st' ++ [.lst ys])):Wp (bU fi 1 js (hName 0) b8 f U st) Q:=by
 obtain⟨S,st1,e1,hS,k1⟩:=hi;refine Dn ds (λi ys U' iH=>(∃v,U'=v :: js.map λj=>U.getD j none)/\ys.length=i/\(∀i y,ys[i]?=some y->P i y iH)/\Ex [] st1 iH) ⟨S,st1,e1,λi ys U' iH hi' hp=>hS i iH hi' hp.2.2.2,⟨none,rfl⟩,rfl,(λi y h=>by simp at h),Ex.refl⟩ hl ?_ ?_ ?_;rintro i ys U' iH ⟨_,h,_⟩;lk;rintro i d ys U' iH hd ⟨⟨v,rfl⟩,hlen,hP,k8⟩;rw[Dp];show Wp (b8 _ _) _;rw[FU];refine⟨λ_=>?_,λh=>absurd h ∅⟩;refine aR (step i d hd iH (k1.trans k8)) ?_;rintro y qZ ⟨hp,k9⟩;refine⟨⟨some d,rfl⟩,by rw[Zae,hlen];rfl,λj z hz=>?_,k8.trans k9⟩;by_cases hj:j<ys.length;rw[Zan hj]at hz;exact mono _ _ _ _ (hP j z hz) k9;have hb:=dc hz;rw[Zae,Zbh]at hb;have e:j=ys.length:=by lk
 subst e;rw[Zav (Zad _),ZaX]at hz;cases hz;rw[hlen];exact hp;rintro ys U' iH ⟨_,hlen,hP,k8⟩;exact fin ys iH (k1.trans k8) hlen hP
def Ex.drop(a:Ex [] st st1)(b:Ex [f] st1 st2)(h:st.length<=f):Ex [] st st2:=⟨Zaq a.len b.len,λi o e n=>b.keep i o (a.keep i o e n) (by have:=dc e;simp;lk)⟩
abbrev jw(x:Str):List D:=x.cps.toList.map λc=>.str ⟨#[c]⟩
abbrev TX:D->Option (List D)
 |.tup ds=>some ds
 |.str x=>some (jw x)
 |_=>none
abbrev Gb:List D->List D->List D
 |a :: r,b :: t=>.tup [a,b] :: Gb r t
 |_,_=>[]
abbrev TY(fa:ai->Dm (List D)):ai->Dm Src:=λU st=>bnd (fa U st) λas st1=>match as with
 |[a,b]=>match TX a,TX b with
  |some ds,some es=>some (.fix (Gb ds es),st1)
  |_,_=>none
 |_=>none
abbrev xQ:List String:=["NoneType","bool","int","str","tuple","list","dict"]
abbrev xR:List String:=["bool","int","str","tuple","list","dict"]
abbrev BJ(T c:String):Option Bool:=if xQ.contains T && xR.contains c then some (T == c || (T == "bool" && c == "int"))else none
abbrev mT(T:String):List String->Option Bool
 |[]=>some false
 |c :: r=>match BJ T c with
  |some true=>some true
  |some false=>mT T r
  |none=>none
abbrev T1:D->Option String
 |.ty n=>some n
 |_=>none
abbrev Gd:D->Option (List String)
 |.ty n=>some [n]
 |.tup ds=>bX T1 ds
 |_=>none
abbrev p5:List D->Dm D
 |[a,c],st=>match uw st a,Gd c with
  |some T,some cs=>match mT T cs with
   |some b=>some (.bl b,st)
   |none=>none
  |_,_=>none
 |_,_=>none
def T2(h:uw st a=some T)(hc:Gd c=some cs)(hb:mT T cs=some b):Wp (p5 [a,c] st) Q↔Q (.bl b) st:=by
 have e:p5 [a,c] st=some (.bl b,st):=by simp only[p5,h,hc,hb]
 rw[e,a5]
section
variable {X:Cx}{K:Zfr}
def KU(K:Zfr)(h:BJ T c=some b):PySem.W.kitOne K (.type T) (.type c)=some b:=by
 have hh:xQ.contains T=true/\xR.contains c=true:=by
  unfold BJ at h;split at h
  ·next g=>simpa using g
  ·cases h
 have h1:T∈xQ:=Za6.mp hh.1;have h2:c∈xR:=Za6.mp hh.2;unfold xQ at h1;unfold xR at h2;simp only[ZaE,ZbR,or_false]at h1 h2;rcases h1 with rfl|rfl|rfl|rfl|rfl|rfl|rfl<;>rcases h2 with rfl|rfl|rfl|rfl|rfl|rfl<;>(cases h;rfl)
def T3(K:Zfr):∀{cs:List String} {b:Bool},mT T cs=some b->PySem.W.kitAny K (.type T) (cs.map Value.type)=some b
 |[],b,h=>by cases h;rfl
 |c :: r,b,h=>by
  simp only[mT]at h;split at h
  ·next e=>cases h;simp only[Zaz,PySem.W.kitAny,KU K e]
  ·next e=>simp only[Zaz,PySem.W.kitAny,KU K e];exact T3 K h
  ·cases h
abbrev OE(K:Zfr)(H:Hp)(x:V)(T:String):Prop:=oK K H x (.type T)\/(T="tuple" /\ ∃a ys,x=.ref a/\fV K H a ys)
abbrev BK(K:Zfr):List V->Hp->VK->Prop:=λxs H Q=>∃x c T cs b,xs=[x,c]/\OE K H x T/\((∃n,c=.ty n/\cs=[n])\/∃p,c=.ref p/\fV K H p (cs.map V.ty))/\mT T cs=some b/\Q (.bl b) H
def Xdr{pins:List (Addr×Obj)}{G:St}{H:Hp}{s:Shared}{x:V}{u:Value}{T:String}(I:Inv X pins G H s)(rx:RelV x u)(ty:OE X.K H x T):∃Hh,PySem.W.KitX X.K u (.type T) Hh/\Hh s.heap/\u≠.builtin "__main__.__loader__#opaque" := by
 rcases ty with ty|⟨rfl,a,ys,rfl,hs⟩
 generalize ht:Value.type T=t at ty;cases ty with
 |non=>cases ht;cases(show u=Value.none from rx);exact⟨_,PySem.W.kitx_none,True.intro,λz=>nomatch z⟩
 |bl y=>cases ht;cases(show u=Value.bool y from rx);exact⟨_,PySem.W.kitx_bool,True.intro,λz=>nomatch z⟩
 |int i=>cases ht;obtain⟨t,q⟩:=(show∃t,u=Value.int i t from rx);cases q;exact⟨_,PySem.W.kitx_int,True.intro,λz=>nomatch z⟩
 |str y=>cases ht;obtain⟨t,q⟩:=(show∃t,u=Value.str y t from rx);cases q;exact⟨_,PySem.W.kitx_str,True.intro,λz=>nomatch z⟩
 |CK y=>cases ht;obtain⟨t,q⟩:=(show∃t,u=Value.float y t from rx);cases q;exact⟨_,PySem.W.kitx_float,True.intro,λz=>nomatch z⟩
 |@lst a xs ea =>
  cases ht;cases(show u=Value.ref a from rx);obtain⟨_,_,n,_,h1⟩:=(show bP X.prog X.w H s.heap a (.lst xs)from I.hok a _ ea);exact⟨_,PySem.W.kitx_list,⟨_,h1,rfl⟩,λz=>nomatch z⟩
 |@o6 a ob xs ea =>
  cases ht;cases(show u=Value.ref a from rx);obtain⟨_,_,_,n,_,h1⟩:=(show bP X.prog X.w H s.heap a (.o6 ob (.lst xs))from I.hok a _ ea);exact⟨_,PySem.W.kitx_list,⟨_,h1,rfl⟩,λz=>nomatch z⟩
 |@tup a xs ea =>
  cases ht;cases(show u=Value.ref a from rx);obtain⟨_,_,_,p⟩:=(show bP X.prog X.w H s.heap a (.tup xs)from I.hok a _ ea);obtain⟨o,h1,h2,_⟩:=p;exact⟨_,PySem.W.kitx_tuple,⟨o,h1,h2⟩,λz=>nomatch z⟩
 |@dK a kvs ea =>
  cases ht;cases(show u=Value.ref a from rx);obtain⟨_,_,vs,_,p⟩:=(show bP X.prog X.w H s.heap a (.dK kvs)from I.hok a _ ea);obtain⟨o,es,ep,h1,h2,_⟩:=p;exact⟨_,PySem.W.kitx_dict,⟨o,h1,h2.1⟩,λz=>nomatch z⟩
 |@dT a kvs ea =>
  cases ht;cases(show u=Value.ref a from rx);obtain⟨_,_,xs,_,o,es,ep,h1,h2,_⟩:=(show bP X.prog X.w H s.heap a (.dT kvs)from I.hok a _ ea);exact⟨_,PySem.W.kitx_dict,⟨o,h1,h2.1⟩,λz=>nomatch z⟩
 |ins=>cases ht
 cases(show u=Value.ref a from rx);obtain⟨its,_,⟨o,h1,h2,_⟩,_⟩:=I.tuple hs;exact⟨_,PySem.W.kitx_tuple,⟨o,h1,h2⟩,λz=>nomatch z⟩
def T5:∀{cs:List String} {us:List Value},Vals (cs.map V.ty) us->us=cs.map Value.type
 |[],us,h=>by
  cases us with
  |nil=>rfl
  |cons a b=>cases h
 |x :: xs,us,h=>by
  cases us with
  |nil=>cases h
  |cons u us =>
   cases h with
   |cons r t =>
    rw[T5 t];cases(show u=Value.type x from r);rfl
def OG:eJ X (.builtin "isinstance") (BK X.K):=by
 intro pins s G H xs us Q I r h;obtain⟨x,c,T,cs,b,rfl,ty,hc,hb,q⟩:=h;obtain⟨u,u',rfl,ru,T6⟩:=vals2 r;obtain⟨Hh,Z,hh,hx⟩:=Xdr I ru ty;have fin:∀tk,EP X pins G Q (.bool b) { s with toks:=tk }:=λtk=>⟨.bl b,H,I.tok tk,rfl,q⟩;have ka:=T3 X.K hb;rcases hc with⟨n,rfl,rfl⟩|⟨p,rfl,hp⟩
 ·cases(show u'=Value.type n from T6)
  refine PySem.W.kia_one Z I.CO hh ?_ hx fin;simp only[mT]at hb;split at hb
  ·next e=>cases hb;exact KU _ e
  ·next e=>cases hb;exact KU _ e
  ·cases hb
 ·cases(show u'=Value.ref p from T6)
  obtain⟨its,rv,⟨⟨oc,od,odt,osl⟩,e,h2,h3,n,h4⟩,_⟩:=I.qq hp;cases(show oc=.type "tuple" from h2);cases(show odt=.seq its.toArray n from h4);cases T5 rv;exact PySem.W.kia_tup Z I.CO hh e ka hx fin
def ZcI(hK:X.K=K):eJ X (.builtin "isinstance") (BK K):=by subst hK;exact OG
def BL(l:Rl K W H st)(r1:Rp K W H v a)(hT:uw st a=some T):OE K H v T:=by
 cases r1<;>simp only[uw]at hT
 ·cases hT;exact .inl .non
 ·cases hT;exact .inl (.bl _)
 ·cases hT;exact .inl (.int _)
 ·cases hT;exact .inl (.str _)
 ·cases hT
 ·next hi =>
  split at hT
  ·next ds hs=>cases hT;obtain⟨vs,e1,_⟩:=l.obj _ _ _ hi hs;exact .inl (.lst e1)
  ·next ds hs=>cases hT;obtain⟨vs,e1,_⟩:=l.obj _ _ _ hi hs;exact .inl (.dK e1)
  ·cases hT
 ·next hs hr=>cases hT;exact .inr ⟨rfl,_,_,rfl,hs⟩
def T7:∀{ws:List V} {ds:List D} {ns:List String},cx K W H ws ds->bX T1 ds=some ns->ws=ns.map V.ty
 |_,_,_,.nil,h=>by cases h;rfl
 |_,_,_,.cons a b,h=>by
  obtain⟨x,t,h1,h2,rfl⟩:=De h;rw[T7 b h2];cases a<;>first|(cases h1;rfl)|cases h1
def T8:sF K (BK K) p5:=by
 intro W H st xs as b st' Q l rx e q;unfold p5 at e;split at e
 ·next a c =>
  split at e
  ·next T cs h1 h2 =>
   split at e
   ·next bb hb =>
    cases e;obtain⟨v,w,rfl,r1,r2⟩:=rx.two';refine⟨v,w,T,cs,bb,rfl,BL l r1 h1,?_,hb,q _ H W .refl l (.bl _)⟩;cases r2 with
    |non=>cases h2
    |bl _=>cases h2
    |int _=>cases h2
    |str _=>cases h2
    |ref _=>cases h2
    |ty n=>cases h2;exact .inl ⟨n,rfl,rfl⟩
    |tup s r=>exact .inr ⟨_,rfl,T7 r h2 ▸ s⟩
   ·cases e
  ·cases e
 ·cases e
end
structure qv(K:Zfr)(mg:Str->Option Value)(x:Str)(v:V)(d:D):Prop where
 ex:∃u,mg x=some u/\RelV v u
 rp:∀(W:List Addr) (H:Hp),Rp K W H v d
def BM(C:qv K mg x v d)(hg:Gl X x)(hX:X.mg=mg)(hd:(x == ("__debug__" : Str))=false):PE X (.Name x pos) (tC v):=by obtain⟨u,h,r⟩:=C.ex;subst hX;exact Wt hg h r hd
def BN(C:qv K mg x v d):dB K (tC v) (fC d):=ur C.rp
def KW{K:Zfr}{h:Heap}{mg:Str->Option Value}(X:K.In h)(G:h.Ns mainGlobals mg){x:Str}{a:Addr}{od:Option Addr}{its:Array Value}{n:Nat}{sl:Array (Option Value)}{vs:List V}{ds:List D}(e:PySem.W.nsIn K mainGlobals x=some (some (.ref a)))(l:K.lookup a=some ⟨.type "tuple",od,.seq its n,sl⟩)
  (ho:od=none) (hz:its.size<=sizeLine) (hv:Vals vs its.toList) (hd:∀(W:List Addr) (H:Hp),cx K W H vs ds):∃v,qv K mg x v (.tup ds) :=
 ⟨.ref a,⟨_,PySem.W.mg_of X G e,rfl⟩,λW H=>.tup (.inr ⟨_,its,n,l,rfl,ho,rfl,hz,hv⟩) (hd W H)⟩
def xcI(ps:List (D×D))(h:D×D->D)(hi:Wp (fi U st) λS st1=>qi S (ps.map λp=>.tup [p.1,p.2]) st1/\Ex [] st st1)(hl:ps.length<100000)
  (step:∀p∈ps,∀st1,Ex [] st st1->Wp (f (some p.1 :: some p.2 :: js.map λj=>U.getD j none) st1) λy st2=>y=h p/\Ex [] st1 st2) (fin:∀st',Ex [] st st'->Q (.ref st'.length) (st' ++ [.lst (ps.map h)])):Wp (bU fi 2 js (fX 2 (aM (hName 0) (aM (hName 1) gq))) b8 f U st) Q:=by
 obtain⟨S,st1,e1,hS,k1⟩:=hi;refine Dn (ps.map λp=>.tup [p.1,p.2]) (λi ys U' iH=>(∃v w,U'=v :: w :: js.map λj=>U.getD j none)/\ys=(ps.take i).map h/\Ex [] st1 iH) ⟨S,st1,e1,λi ys U' iH hi' hp=>hS i iH hi' hp.2.2,⟨none,none,rfl⟩,rfl,Ex.refl⟩ (by rw[Zaa];exact hl) ?_ ?_ ?_;rintro i ys U' iH ⟨_,rfl,_⟩;rw[Zaa,Zbi];lk;rintro i d ys U' iH hd ⟨⟨v,w,rfl⟩,rfl,k8⟩;rw[Zag]at hd;obtain⟨p,hp,rfl⟩:=Zay.mp hd;rw[TB];refine⟨rfl,?_⟩;rw[Ou,Dp,Ou,Dp,Tz];show Wp (b8 _ _) _;rw[FU];refine⟨λ_=>?_,λh=>absurd h ∅⟩;refine aR (step p (Zai hp) iH (k1.trans k8)) ?_;rintro y qZ ⟨rfl,k9⟩;refine⟨⟨some p.1,some p.2,rfl⟩,?_,k8.trans k9⟩;obtain⟨hlt,e⟩:=Zab.mp hp;rw[ZaH hlt,Zap,e];rfl;rintro ys U' iH ⟨_,rfl,k8⟩;rw[Zaa,ZaN];exact fin iH (k1.trans k8)
abbrev pU:Nat->D->Prop
 |_,.int _=>True
 |_,.str x=>PyData.canLay0 (.str x)=true
 |_,.non=>True
 |n+1,.tup ds=>∀d∈ds,pU n d
 |_,_=>False
abbrev jQ:Nat->D->PyData
 |_,.int i=>.int i
 |_,.str x=>.str x
 |n+1,.tup ds=>.tuple (ds.map (jQ n))
 |_,_=>.none
def Ge{J S:Type}{f:J->Option S}{g:J->S}:∀{l:List J},(∀x∈l,f x=some (g x))->bX f l=some (l.map g)
 |[],_=>rfl
 |a :: r,h=>by
  have h1:=h a Zah;have h2:=Ge (f:=f) (g:=g) (l:=r) λx hx=>h x (Zak _ hx);simp only[bX,h1,h2,Zaz]
def wY:∀(n:Nat) (d:D),pU n d->∀(m:Nat),n<m->∀st,gX st m d=some (jQ n d)
 |n,.int i,_,m+1,_,st=>by cases n<;>rfl
 |n,.str x,_,m+1,_,st=>by cases n<;>rfl
 |n,.non,_,m+1,_,st=>by cases n<;>rfl
 |n,.bl b,h,_,_,_=>by cases n<;>exact h.elim
 |n,.ty b,h,_,_,_=>by cases n<;>exact h.elim
 |n,.ref b,h,_,_,_=>by cases n<;>exact h.elim
 |0,.tup ds,h,_,_,_=>h.elim
 |n+1,.tup ds,h,m+1,hm,st=>by
  simp only[gX];rw[Ge (g:=jQ n) λx hx=>wY n x (h x hx) m ⋯ st];rfl
def OH:∀{l:List PyData},(∀x∈l,x.canLay0=true)->PyData.canLayAll0 l=true
 |[],_=>rfl
 |a :: r,h=>by
  simp only[PyData.canLayAll0,h a Zah,OH λx hx=>h x (Zak _ hx),Bool.and_self]
def OI:∀{l:List PyData},(∀x∈l,x.depth<=n)->PyData.depthAll l<=n
 |[],_=>ZaK _
 |a :: r,h=>by
  have h1:=h a Zah;have h2:=OI λx hx=>h x (Zak _ hx);simp only[PyData.depthAll];lk
def vY:∀(n:Nat) (d:D),pU n d->(jQ n d).canLay0=true/\(jQ n d).depth<=n
 |n,.int i,_=>by cases n<;>exact⟨rfl,ZaK _⟩
 |n,.str x,h=>by cases n<;>exact⟨h,ZaK _⟩
 |n,.non,_=>by cases n<;>exact⟨rfl,ZaK _⟩
 |n,.bl b,h=>by cases n<;>exact h.elim
 |n,.ty b,h=>by cases n<;>exact h.elim
 |n,.ref b,h=>by cases n<;>exact h.elim
 |0,.tup ds,h=>h.elim
 |n+1,.tup ds,h=>by
  refine⟨?_,?_⟩;show PyData.canLayAll0 (ds.map (jQ n))=true;exact OH λx hx=>by
   obtain⟨d,hd,rfl⟩:=Zaw.mp hx;exact(vY n d (h d hd)).1
  show PyData.depthAll (ds.map (jQ n))+1<=n+1
  have:=OI (n:=n) (l:=ds.map (jQ n)) λx hx=>by
   obtain⟨d,hd,rfl⟩:=Zaw.mp hx;exact(vY n d (h d hd)).2
  lk
def OJ(ih:∀a b:D,pU n a->pU n b->(PyData.eqv (jQ n a) (jQ n b)=true↔a=b)):∀(l m:List D),(∀x∈l,pU n x)->(∀x∈m,pU n x)->(PyData.eqvAll (l.map (jQ n)) (m.map (jQ n))=true↔l=m)
 |[],[],_,_=>by simp[PyData.eqvAll]
 |[],_ :: _,_,_=>by simp[PyData.eqvAll]
 |_ :: _,[],_,_=>by simp[PyData.eqvAll]
 |a :: l,b :: m,h1,h2=>by
  have e1:=ih a b (h1 a Zah) (h2 b Zah);have e2:=OJ ih l m (λx hx=>h1 x (Zak _ hx)) λx hx=>h2 x (Zak _ hx);simp only[Zaz,PyData.eqvAll,ZaC,e1,e2,List.cons.injEq]
def Dq:∀(n:Nat) (a b:D),pU n a->pU n b->(PyData.eqv (jQ n a) (jQ n b)=true↔a=b):=by
 intro n
 induction n with
 |zero =>
  intro a b ha hb;cases a<;>first|exact ha.elim|skip
  all_goals (cases b<;>first|exact hb.elim|simp[jQ,PyData.eqv])
 |succ n ih =>
  intro a b ha hb;cases a<;>first|exact ha.elim|skip
  all_goals (cases b<;>first|exact hb.elim|skip)
  all_goals first
   |(simp[jQ,PyData.eqv];done)
   |skip
  next l m =>
   have:=OJ ih l m ha hb;show PyData.eqv (.tuple (l.map (jQ n))) (.tuple (m.map (jQ n)))=true↔_;rw[KR,this];constructor
   ·rintro rfl;rfl
   ·intro h;exact D.tup.inj h
open Classical in
def BO(ha:pU n a)(hb:pU n b)(hn:n<=15):Wp (jP neg a b st) Q↔Q (.bl (if neg then !decide (a=b)else decide (a=b))) st:=by
 have e:PyData.eqv (jQ n a) (jQ n b)=decide (a=b):=by
  have:=Dq n a b ha hb;cases h:PyData.eqv (jQ n a) (jQ n b)with
  |true=>exact(decide_eq_true (this.mp h)).symm
  |false=>exact(decide_eq_false λz=>by rw[this.mpr z]at h;cases h).symm
 rw[KQ];constructor;rintro⟨p,q,h1,h2,_,h⟩;rw[wY n a ha 20 ⋯]at h1;rw[wY n b hb 20 ⋯]at h2;cases h1;cases h2;rw[e]at h;exact h;intro h;refine⟨_,_,wY n a ha 20 ⋯ st,wY n b hb 20 ⋯ st,⟨(vY n a ha).1,(vY n b hb).1,?_⟩,?_⟩
 have:=(vY n a ha).2
 lk;rw[e];exact h
def OL(n:Nat)(L:List Int):pU (n+1) (.tup (L.map D.int)):=λd hd=>by
 obtain⟨x,_,rfl⟩:=Zaw.mp hd;cases n<;>trivial
def Gf(n:Nat)(s:bO):pU (n+1) (aQ s):=λd hd=>by
 have hd:d=.str (if s.1 then "s" else "t")\/d=.int s.2:=by simpa[aQ]using hd
 rcases hd with rfl|rfl
 have h:PyData.canLay0 (.str (if s.1=true then "s" else "t" : Str))=true:=by cases s.1<;>decide +kernel
 cases n<;>exact h;cases n<;>trivial
def zp(n:Nat)(xs ys:List Int):pU (n+2) (bS xs ys):=λd hd=>by
 have hd:d=.tup (xs.map D.int)\/d=.tup (ys.map D.int):=by simpa[bS]using hd
 rcases hd with rfl|rfl
 exact OL n xs;exact OL n ys
abbrev rM(neg:Bool):D->D->Dm D:=λa c st=>match gX st 20 a,(cH st c).bind (bX (gX st 19))with
 |some dx,some ds=>if dx.canLay0 && ds.all PyData.canLay0 && decide (dx.depth<=60)then some (.bl (if neg then !ds.any (λd=>PyData.eqv d dx)else ds.any λd=>PyData.eqv d dx),st)else none
 |_,_=>none
section
variable {K:Zfr}
def KY(l:Rl K W H st)(n:Nat):∀{vs:List V} {ds:List D} {ps:List PyData},cx K W H vs ds->bX (gX st n) ds=some ps->g5 K H vs ps
 |_,_,_,.nil,h=>by cases h;exact .nil
 |_,_,_,.cons a b,h=>by
  obtain⟨x,t,h1,h2,rfl⟩:=De h;exact .cons (Df l n a h1) (KY l n b h2)
def T9(neg:Bool):oi K (EX K neg) (rM neg):=by
 intro W H st x y a c b st' Q l rx ry e q;unfold rM at e;split at e
 ·next dx ds h1 h2 =>
  split at e
  ·next ok =>
   cases e;rw[ZaC,ZaC,decide_eq_true_eq,ZbS]at ok;obtain⟨es,h3,h4⟩:=Za0.mp h2;obtain⟨p,xs,rfl,hq,rr⟩:∃p xs,y=.ref p/\(jX K H p xs\/fV K H p xs)/\cx K W H xs es:=by
    cases ry with
    |non=>cases h3
    |bl _=>cases h3
    |int _=>cases h3
    |str _=>cases h3
    |ty _=>cases h3
    |ref hi=>obtain⟨vs,s,r⟩:=l.items hi h3;exact⟨_,vs,rfl,.inl s,r⟩
    |tup s r=>cases h3;exact⟨_,_,rfl,.inr s,r⟩
   exact⟨p,xs,ds,dx,rfl,hq,KY l 19 rr h4,Df l 20 rx h1,ok.1.2,ok.1.1,ok.2,q _ H W .refl l (.bl _)⟩
  ·cases e
 ·cases e
end
open Classical in
def Ua(ha:pU n a)(hc:cH st c=some es)(he:∀e∈es,pU n e)(hn:n<=15):Wp (rM neg a c st) Q↔Q (.bl (if neg then !decide (a∈es)else decide (a∈es))) st:=by
 have h1:=wY n a ha 20 ⋯ st;have h2:bX (gX st 19) es=some (es.map (jQ n)):=Ge λx hx=>wY n x (he x hx) 19 ⋯ st;have ea:(es.map (jQ n)).any (λd=>PyData.eqv d (jQ n a))=decide (a∈es):=by
  rw[ZbU,Zcb,decide_eq_true_eq];constructor;rintro⟨d,hd,h⟩;obtain⟨x,hx,rfl⟩:=Zaw.mp hd;rw[<- (Dq n x a (he x hx) ha).mp h];exact hx;intro h;exact⟨_,Zaw.mpr ⟨a,h,rfl⟩,(Dq n a a ha ha).mpr rfl⟩
 have l1:=vY n a ha;have l2:(es.map (jQ n)).all PyData.canLay0=true:=by
  rw[ZbS];intro d hd;obtain⟨x,hx,rfl⟩:=Zaw.mp hd;exact(vY n x (he x hx)).1
 have e:rM neg a c st=some (.bl (if neg then !decide (a∈es)else decide (a∈es)),st):=by
  unfold rM;simp only[h1,hc,Zbj,h2,ea,l1.1,l2,Bool.true_and,decide_eq_true_eq];rw[if_pos ⋯]
 rw[e,a5]
abbrev KZ:D->Option (List D)
 |.tup ds=>some ds
 |.str x=>if x.length<=sizeLine then some (jw x)else none
 |_=>none
abbrev rN(fa:ai->Dm (List D)):ai->Dm Src:=λU st=>bnd (fa U st) λas st1=>match as with
 |[a]=>match KZ a with
  |some ds=>some (.fix ds.reverse,st1)
  |none=>none
 |_=>none
section
variable {K:Zfr}
def Gg(r:Rp K W H x a)(h:KZ a=some ds):∃src:ZS,src.val K H x/\(∀a,src≠.lst a)/\(∀z,src=.str z->z.length<=sizeLine)/\∀(W2:List Addr) (H2:Hp),Mn K W H W2 H2->∀i,(∀d,ds[i]?=some d->∃v,src.has K H2 i v/\Rp K W2 H2 v d)/\(i=ds.length->src.fin K H2 i):=by
 cases r with
 |non=>cases h
 |bl b=>cases h
 |int i=>cases h
 |ty n=>cases h
 |ref e=>cases h
 |str x =>
  unfold KZ at h;simp only at h;split at h
  ·next hx =>
   cases h;refine⟨.str x,rfl,nofun,λz e=>by cases e;exact hx,λW2 H2 m i=>⟨λd hd=>?_,λe=>?_⟩⟩
   ·unfold jw at hd
    rw[Zag]at hd;obtain⟨c,hc,rfl⟩:=Zay.mp hd;have hc':x.cps[i]?=some c:=by simpa using hc
    exact⟨_,⟨c,hc',rfl⟩,.str _⟩
   ·show x.cps.size=i
    rw[e];simp[jw]
  ·cases h
 |tup s r =>
  cases h;refine⟨.tup _,⟨rfl,_,s⟩,nofun,nofun,λW2 H2 m i=>⟨λd hd=>?_,λe=>?_⟩⟩
  ·obtain⟨v,hv,rv⟩:=r.got hd
   exact⟨v,⟨_,m.t _ _ s,hv⟩,rv.mn m⟩
  ·exact⟨_,m.t _ _ s,by rw[r.length];exact e.symm⟩
def Ub(ha:rG K t fa):ze K (EZ K t) (rN fa):=by
 intro W G H U st S st' Q l rs e q;obtain⟨as,st1,e1,e⟩:=cM e;split at e
 ·next a =>
  split at e
  ·next ds h1 =>
   cases e;refine ha W G H U st _ _ _ l rs e1 λxs H1 W1 m1 l1 r1=>?_;obtain⟨x,rfl,rx⟩:=r1.one';obtain⟨s1,v1,nl,hz,g1⟩:=Gg rx h1;refine⟨x,s1,ds.length,rfl,v1,(g1 W1 H1 Mn.refl ds.length).2 rfl,nl,hz,q _ H1 W1 m1 l1 λW2 H2 st2 i m2 l2=>⟨λh=>?_,λd h=>?_⟩⟩
   ·obtain⟨hl,hn⟩:=zd h
    have:=ZaT.mp hn;simp only[ZaL]at this hl;exact(show i=ds.length by lk)
   ·have hd:=(zd h).2
    have hi:i<ds.length:=by simpa using(Zab.mp hd).1
    rw[List.getElem?_reverse hi]at hd;obtain⟨v,hv,rv⟩:=(g1 W2 H2 m2 _).1 d hd;refine⟨⟨hi,v,hv⟩,λz H3 hz=>?_⟩;obtain⟨rfl,k1⟩:=hz;cases k1 _ hv;exact⟨Mn.refl,l2,rv⟩
  ·cases e
 ·cases e
end
section
variable {st:Store}
def Uc:Wp (rN fa U st) R↔Wp (fa U st) λas st1=>∃a ds,as=[a]/\KZ a=some ds/\R (.fix ds.reverse) st1:=by
 unfold rN;rw[c5];constructor<;>refineλh=>aR h λas s h=>?_
 ·split at h
  ·next a =>
   split at h
   ·next ds h1=>exact⟨a,ds,rfl,h1,a5.mp h⟩
   ·exact(hW.mp h).elim
  ·exact(hW.mp h).elim
 ·obtain⟨a,ds,rfl,h1,h⟩:=h
  simp only[h1];exact a5.mpr h
end
abbrev tZ(ps:List PyData):Bool:=decide (0<ps.length) && ps.all (λa=>ps.all λb=>vD a b) && ps.all λa=>a.canLay0 && decide (a.depth<=50)
abbrev oD:List D->Dm D
 |[.ref r],st=>match own st r with
  |some ds=>match bX (gX st 20) ds with
   |some ps=>if tZ ps=true then(match ds[qc ps]? with|some d=>some (d,st)|none=>none)else none
   |none=>none
  |none=>none
 |_,_=>none
section
variable {K:Zfr}
def Ud:sF K (yG K) oD:=by
 intro W H st xs as b st' Q l rx e q;unfold oD at e;split at e
 ·next r mK =>
  split at e
  ·next ds hd =>
   split at e
   ·next ps hp =>
    split at e
    ·next hok =>
     split at e
     ·next d hd0 =>
      cases e;obtain⟨v,rfl,r⟩:=rx.one';cases r with
      |ref hi =>
       obtain⟨vs,hs,rr⟩:=l.items hi (bx (sH hd));obtain⟨v,hv,rv⟩:=rr.got hd0;simp only[tZ,ZaC,decide_eq_true_eq,ZbS]at hok;exact⟨_,vs,ps,rfl,hs,KY l 20 rr hp,hok.1.1,hok.1.2,hok.2,v,hv,q v H W .refl l rv⟩
     ·cases e
    ·cases e
   ·cases e
  ·cases e
 ·cases e
end
def zds(h:own st r=some ds)(hp:bX (gX st 20) ds=some ps)(hok:tZ ps=true)(hd:ds[qc ps]?=some d):Wp (oD [.ref r] st) Q↔Q d st:=by
 have e:oD [.ref r] st=some (d,st):=by simp only[oD,h,hp,hok,hd,if_true]
 rw[e,a5]
abbrev tupI(xs:List Int):PyData:=.tuple (xs.map PyData.int)
abbrev mU(p:af.aK):PyData:=.tuple [tupI p.1,tupI p.2]
def OM:∀xs ys:List Int,ph (xs.map PyData.int) (ys.map PyData.int)=af.rW xs ys
 |[],[]=>rfl
 |[],_ :: _=>rfl
 |_ :: _,[]=>rfl
 |x :: xs,y :: ys=>by
  show(if(x == y)=true then ph (xs.map PyData.int) (ys.map PyData.int)else decide (x<y))=if x=y then af.rW xs ys else decide (x<y)
  rw[OM xs ys];by_cases h:x=y;rw[if_pos h,if_pos (by simp[h])];rw[if_neg h,if_neg (by simp[h])]
def Ue(xs ys:List Int):PyData.eqv (tupI xs) (tupI ys)=decide (xs=ys):=EM xs ys
def yds(p q:af.aK):C3 (mU p) (mU q)=af.pk p q:=by
 show(if PyData.eqv (tupI p.1) (tupI q.1)=true then(if PyData.eqv (tupI p.2) (tupI q.2)=true then false else ph (p.2.map PyData.int) (q.2.map PyData.int))else ph (p.1.map PyData.int) (q.1.map PyData.int))=if p.1=q.1 then af.rW p.2 q.2 else af.rW p.1 q.1
 rw[Ue,Ue,OM,OM];by_cases a:p.1=q.1;rw[if_pos a,if_pos (decide_eq_true a)];by_cases b:p.2=q.2;rw[if_pos (decide_eq_true b),b,af.Kj];rw[if_neg (by simp[b])];rw[if_neg a,if_neg (by simp[a])]
def OO:∀xs ys:List Int,qz (xs.map PyData.int) (ys.map PyData.int)=true
 |[],_=>rfl
 |_ :: _,[]=>rfl
 |x :: xs,y :: ys=>by show(true && qz (xs.map PyData.int) (ys.map PyData.int))=true;rw[OO xs ys];rfl
def Zds(p q:af.aK):vD (mU p) (mU q)=true:=by show(qz (p.1.map PyData.int) (q.1.map PyData.int) && (qz (p.2.map PyData.int) (q.2.map PyData.int) && true))=true;rw[OO,OO];rfl
def Yds(p:af.aK):(mU p).canLay0=true/\(mU p).depth<=50:=by refine⟨?_,?_⟩;show(PyData.canLayAll0 (cZ p.1) && (PyData.canLayAll0 (cZ p.2) && true))=true;rw[Au,Au];rfl;show max (PyData.depthAll (cZ p.1)+1) (max (PyData.depthAll (cZ p.2)+1) 0)+1<=50;rw[C0,C0];decide
def Ug(l:List af.aK):∀k,k<l.length->l[argBest (λi j=>af.pk (l.getD i ([],[])) (l.getD j ([],[]))) k]?=some (af.pq (l.take (k+1)))
 |0,h=>by
  cases l with
  |nil=>simp at h
  |cons p l=>rfl
 |k+1,h=>by
  have ih:=Ug l k ⋯;generalize hb:argBest (λi j=>af.pk (l.getD i ([],[])) (l.getD j ([],[]))) k=b at ih;have e1:l.getD b ([],[])=af.pq (l.take (k+1)):=by rw[Zaf,ih];rfl
  have e2:af.pq (l.take (k+1+1))=if af.pk (l.getD (k+1) ([],[])) (af.pq (l.take (k+1)))then l.getD (k+1) ([],[])else af.pq (l.take (k+1)):=by
   have et:l.take (k+1+1)=l.take (k+1) ++ [l.getD (k+1) ([],[])]:=by
    rw[ZaH h,Zaf,Zac h];rfl
   rw[et];cases l with
   |nil=>simp at h
   |cons p l =>
    show((l.take k ++ [_]).foldl _ p)=_;rw[Za5];rfl
  show l[if(af.pk (l.getD (k+1) ([],[])) (l.getD (argBest _ k) ([],[])))=true then k+1 else argBest _ k]?=_;rw[hb,e1,e2];split;rw[Zaf,Zac h];rfl;exact ih
def xds(st:Store)(p:af.aK):gX st 20 (bS p.1 p.2)=some (mU p):=by
 have h:∀(m:Nat) (xs:List Int),bX (gX st (m+1)) (xs.map D.int)=some (xs.map PyData.int):=λm xs=>by
  have:=y9 (f:=gX st (m+1)) (g:=D.int) (k:=PyData.int) (λ_=>rfl) xs;exact this
 show(bX (gX st 19) [D.tup (p.1.map D.int),D.tup (p.2.map D.int)]).map PyData.tuple=_;have e1:gX st 19 (D.tup (p.1.map D.int))=some (tupI p.1):=by show(bX (gX st 18) (p.1.map D.int)).map PyData.tuple=_;rw[h];rfl
 have e2:gX st 19 (D.tup (p.2.map D.int))=some (tupI p.2):=by show(bX (gX st 18) (p.2.map D.int)).map PyData.tuple=_;rw[h];rfl
 simp only[bX,e1,e2];rfl
def Uh(h:own st r=some (l.map λp=>bS p.1 p.2))(hn:0<l.length):Wp (oD [.ref r] st) Q↔Q (bS (af.pq l).1 (af.pq l).2) st:=by
 have hp:bX (gX st 20) (l.map λp=>bS p.1 p.2)=some (l.map mU):=y9 (f:=gX st 20) (g:=λp:af.aK=>bS p.1 p.2) (k:=mU) (λp=>xds st p) l;refine zds h hp ?_ ?_;simp only[tZ,ZaC,decide_eq_true_eq,ZbS,Zaa];refine⟨⟨hn,λa ha b hb=>?_⟩,λa ha=>?_⟩;obtain⟨p,_,rfl⟩:=Zaw.mp ha;obtain⟨q,_,rfl⟩:=Zaw.mp hb;exact Zds p q;obtain⟨p,_,rfl⟩:=Zaw.mp ha;exact Yds p;have hb:=Ug l (l.length-1) ⋯;rw[show l.length-1+1=l.length by lk,ZaN]at hb;have e:∀k,k<l.length->argBest (xx (l.map mU)) k=argBest (λi j=>af.pk (l.getD i ([],[])) (l.getD j ([],[]))) k/\argBest (λi j=>af.pk (l.getD i ([],[])) (l.getD j ([],[]))) k<l.length:=by
  intro k
  induction k with
  |zero=>intro hk;exact⟨rfl,hk⟩
  |succ k ih =>
   intro hk;obtain⟨e1,e2⟩:=ih ⋯;have eb:xx (l.map mU) (k+1) (argBest (xx (l.map mU)) k)=af.pk (l.getD (k+1) ([],[])) (l.getD (argBest (λi j=>af.pk (l.getD i ([],[])) (l.getD j ([],[]))) k) ([],[])):=by
    rw[e1];unfold xx;rw[Zaf,Zaf,Zag,Zag,Zac hk,Zac e2,Zaf,Zaf,Zac hk,Zac e2];exact yds _ _
   refine⟨?_,?_⟩;show(if xx (l.map mU) (k+1) (argBest (xx (l.map mU)) k)=true then k+1 else argBest (xx (l.map mU)) k)=if _=true then k+1 else _
   rw[eb,e1];show(if _=true then k+1 else _)<l.length;split;exact hk;exact e2
 unfold qc;rw[Zaa,(e (l.length-1) ⋯).1,Zag,hb];rfl
section
variable {K:Zfr}
abbrev xS(T:String)(g:D->List D->Dm D)(fo:ai->Dm D):ai->Dm D:=λU st=>bnd (fo U st) λo st1=>if wU T st1 o=true then g o [] st1 else none
def BP(hr:xF K T r g)(ho:dB K to fo):dB K (Ey K T r to) (xS T g fo):=by
 intro W G H U st b st' Q l rs e q;obtain⟨o,st1,e1,e⟩:=cM e;split at e
 ·next ht =>
  refine ho W G H U st o st1 _ l rs e1 λx H1 W1 m1 l1 r1=>⟨SW l1 r1 ht,?_⟩;exact hr W1 H1 st1 x [] o [] b st' Q l1 r1 .nil e λv H3 W3 m3 l3 r3=>q v H3 W3 (m1.trans m3) l3 r3
 ·cases e
end
section
variable {st:Store}{Q:D->Store->Prop}{i:Nat}
def Gh{J:Type}{m:Option (J×Store)}{R R':J->Store->Prop}(h:∀a s,R a s↔R' a s):Wp m R↔Wp m R':=by have e:R=R':=funext λa=>funext λs=>propext (h a s);rw[e]
def BQ:Wp (xS T g fo U st) Q↔Wp (fo U st) λo st1=>wU T st1 o=true/\Wp (g o [] st1) Q:=by
 unfold xS;rw[c5];refine Gh λo st1=>?_;rw[qh,hW];split
 ·next h=>exact⟨λq=>⟨h,q⟩,λq=>q.2⟩
 ·next h=>exact⟨False.elim,λq=>h q.1⟩
end
section
variable {K:Zfr}
abbrev sL:ai->Dm Fl:=λ_ _=>none
def OQ:qE K uW sL:=by intro W G H U st fl st' E l rs e q;cases e
end
section
variable {K:Zfr}
abbrev uz:List D->Dm D
 |[.ref i],st=>match (items st i).bind (bX iV)with
  |some ns=>some (.int ns.sum,st)
  |none=>none
 |_,_=>none
def Ui:sF K (λxs H Q=>∃(p:Addr) (ns:List Int),xs=[.ref p]/\jX K H p (ns.map V.int)/\Q (.int ns.sum) H) uz:=by
 intro W H st xs as b st' Q l rx e q;unfold uz at e;split at e
 ·split at e
  ·next ns hd =>
   cases e;obtain⟨v,rfl,r⟩:=rx.one';obtain⟨ds,h3,h4⟩:=Za0.mp hd;cases r with
   |ref hi =>
    obtain⟨vs,s,r⟩:=l.items hi h3;cases FI r h4;exact⟨_,ns,rfl,s,q _ H W .refl l (.int _)⟩
  ·cases e
 ·cases e
end
def BR{st:Store}{Q:D->Store->Prop}{k:Nat}{ns:List Int}(h:items st k=some (ns.map D.int)):Wp (uz [.ref k] st) Q↔Q (.int ns.sum) st:=by
 have e:uz [.ref k] st=some (.int ns.sum,st):=by
  simp only[uz,h,Zbj,KP]
 rw[e,a5]
section
variable {K:Zfr}
def OR(d:D)(k:Nat):(List.replicate k [d]).flatten=List.replicate k d:=by
 induction k with
 |zero=>rfl
 |succ k ih=>rw[ZaO,Zbm,ih,ZaO];rfl
end
section
variable {K:Zfr}
abbrev Uj:List D->Dm D
 |[.str x],st=>match PySem.intText? x with
  |some n=>if x.length<=640 then some (.int n,st)else none
  |none=>none
 |_,_=>none
abbrev pD:List D->Dm D
 |[.ref i],st=>match (items st i).bind (bX iV)with
  |some ns=>match ns[argBest (pP ns) (ns.length-1)]? with
   |some m=>some (.int m,st)
   |none=>none
  |none=>none
 |_,_=>none
def Xds:sF K (λxs H Q=>∃(p:Addr) (ns:List Int),xs=[.ref p]/\jX K H p (ns.map V.int)/\0<ns.length/\∀m,ns[argBest (pP ns) (ns.length-1)]?=some m->Q (.int m) H) pD:=by
 intro W H st xs as b st' Q l rx e q;unfold pD at e;split at e
 ·split at e
  ·next ns hd =>
   split at e
   ·next m hm =>
    cases e;obtain⟨v,rfl,r⟩:=rx.one';obtain⟨ds,h3,h4⟩:=Za0.mp hd;cases r with
    |ref hi =>
     obtain⟨vs,s,r⟩:=l.items hi h3;cases FI r h4;refine⟨_,ns,rfl,s,?_,λm' hm'=>?_⟩
     ·have:=(Zab.mp hm).1
      lk
     ·rw[hm]at hm'
      cases hm';exact q _ H W .refl l (.int _)
   ·cases e
  ·cases e
 ·cases e
end
section
variable {st:Store}{Q:D->Store->Prop}
def Uk(ns:List Int):∀k,k<ns.length->argBest (pP ns) k<=k/\∀i,i<=k->ns.getD i 0<=ns.getD (argBest (pP ns) k) 0
 |0,h=>⟨Zad _,λi hi=>by rw[show i=0 by lk];exact Int.le_refl _⟩
 |k+1,h=>by
  obtain⟨h1,h2⟩:=Uk ns k ⋯;show(if pP ns (k+1) (argBest (pP ns) k)=true then k+1 else argBest (pP ns) k)<=k+1/\∀i,i<=k+1->ns.getD i 0<=ns.getD (if pP ns (k+1) (argBest (pP ns) k)=true then k+1 else argBest (pP ns) k) 0;by_cases hc:ns.getD (k+1) 0 > ns.getD (argBest (pP ns) k) 0;rw[if_pos (show pP ns (k+1) (argBest (pP ns) k)=true from decide_eq_true hc)];refine⟨Zad _,λi hi=>?_⟩;by_cases hik:i<=k
  have:=h2 i hik;lk
  rw[show i=k+1 by lk];exact Int.le_refl _;rw[if_neg (show ¬pP ns (k+1) (argBest (pP ns) k)=true fromλz=>hc (of_decide_eq_true z))];refine⟨by lk,λi hi=>?_⟩;by_cases hik:i<=k;exact h2 i hik;rw[show i=k+1 by lk];lk
def zdt(h:items st r=some (ns.map D.int))(hn:ns≠[]):∃m:Int,m∈ns/\(∀y∈ns,y<=m)/\∀Q:D->Store->Prop,Wp (pD [.ref r] st) Q↔Q (.int m) st:=by
 have hl:0<ns.length:=List.length_pos_iff.mpr hn;obtain⟨h1,h2⟩:=Uk ns (ns.length-1) ⋯;have hlt:argBest (pP ns) (ns.length-1)<ns.length:=by lk
 have e0:ns.getD (argBest (pP ns) (ns.length-1)) 0=ns[argBest (pP ns) (ns.length-1)]:=by rw[Zaf,Zac hlt];rfl
 refine⟨ns[argBest (pP ns) (ns.length-1)],ZbO _,λy hy=>?_,λQ=>?_⟩;obtain⟨i,hi,rfl⟩:=Zbo hy
 have:=h2 i ⋯;rw[e0,Zaf (i:=i),Zac hi]at this;exact this
 have e:pD [.ref r] st=some (.int ns[argBest (pP ns) (ns.length - 1)],st):=by
  simp only[pD,h,Zbj,KP,Zac hlt]
 rw[e,a5]
end
section
variable {K:Zfr}
abbrev qH:D->D->Dm D:=xH (λi j=>decide (j≠0/\j.natAbs.log2<9000)) λi j=>.int (i.fdiv j)
def Um:oi K (rI yH λi j=>.int (i.fdiv j)) qH:=Dc (λi j h=>of_decide_eq_true (p:=j≠0/\j.natAbs.log2<9000) h) λ_ _ _ _=>.int _
end
section
variable {st:Store}{Q:D->Store->Prop}
def YcY:Wp (qH (.int i) (.int j) st) Q↔(j≠0/\j.natAbs.log2<9000)/\Q (.int (i.fdiv j)) st:=by unfold qH;rw[Dl,decide_eq_true_eq]
end
abbrev cv(i j:Int):Bool:=(decide (-18446744073709551616<i/\i<18446744073709551616) || decide (-18446744073709551616<j/\j<18446744073709551616)) || (decide (Builtin.Int.intBits i<=60000000) && decide (Builtin.Int.intBits j<=60000000))
abbrev cz:D->D->Dm D:=xH cv λi j=>.int (i*j)
section
variable {K:Zfr}
def Uo:oi K (rI tG λi j=>.int (i*j)) cz:=Dc (λi j h=>by
 unfold cv at h;rw[Zcy,Zcy,ZaC,decide_eq_true_eq,decide_eq_true_eq,decide_eq_true_eq,decide_eq_true_eq]at h
 exact h) λ_ _ _ _=>.int _
end
section
variable {st:Store}{Q:D->Store->Prop}
def K0:Wp (cz (.int i) (.int j) st) Q↔cv i j=true/\Q (.int (i*j)) st:=by unfold cz;rw[Dl]
def xcY(h:i.natAbs<18446744073709551616):cv i j=true:=by unfold cv;rw[decide_eq_true (show -18446744073709551616<i/\i<18446744073709551616 by lk)];rfl
def OS(hk:k<=60000000)(h:i.natAbs<P2 k)(h2:j.natAbs<P2 k):cv i j=true:=by replace h:=yI h hk;replace h2:=yI h2 hk;unfold cv;rw[decide_eq_true h,decide_eq_true h2];simp
end
abbrev eY:D->List D->Dm D
 |.ref k,[a],st=>match gX st 20 a,(items st k).bind (bX (gX st 19))with
  |some dx,some ds=>match ds.findIdx? λd=>PyData.eqv d dx with
   |some j=>if dx.canLay0 && ds.all PyData.canLay0 && decide (dx.depth<=60) && decide (ds.length<=1000)then some (.int (j:Int),st)else none
   |none=>none
  |_,_=>none
 |_,_,_=>none
section
variable {K:Zfr}
def Up:xF K "list" (tF K) eY:=by
 intro W H st x xs a as b st' Q l rx uv e q;unfold eY at e;split at e
 ·split at e
  ·next dx ds h1 h2 =>
   split at e
   ·next j hj =>
    split at e
    ·next ok =>
     cases e;rw[ZaC,ZaC,ZaC,decide_eq_true_eq,decide_eq_true_eq,ZbS]at ok;obtain⟨es,h3,h4⟩:=Za0.mp h2;obtain⟨y,rfl,r⟩:=uv.one';cases rx with
     |ref hi =>
      obtain⟨vs,s,rr⟩:=l.items hi h3;obtain⟨hjl,hj1,hj2⟩:=ZbL.mp hj
      exact⟨_,vs,ds,y,dx,j,rfl,rfl,s,KY l 19 rr h4,Df l 20 r h1,ok.1.1.2,ok.1.1.1,ok.1.2,ok.2,⟨_,Zac hjl,hj1⟩,λi d hij hd=>by
       obtain⟨hil,rfl⟩:=Zab.mp hd
       simpa using hj2 i hij,q _ H W .refl l (.int _)⟩
    ·cases e
   ·cases e
  ·cases e
 ·cases e
end
def Uq{st:Store}{Q:D->Store->Prop}{n k j:Nat}{a:D}{es:List D}(ha:pU n a)(hc:items st k=some es)(he:∀e∈es,pU n e)(hn:n<=15)(hl:es.length<=1000)(hj:es[j]?=some a)(hno:∀i e,i<j->es[i]?=some e->e≠a):Wp (eY (.ref k) [a] st) Q↔Q (.int (j:Int)) st:=by
 have h1:=wY n a ha 20 ⋯ st;have h2:bX (gX st 19) es=some (es.map (jQ n)):=Ge λx hx=>wY n x (he x hx) 19 ⋯ st;obtain⟨hjl,hje⟩:=Zab.mp hj;have hf:(es.map (jQ n)).findIdx? (λd=>PyData.eqv d (jQ n a))=some j:=by
  refine ZbL.mpr ⟨by simpa using hjl,?_,λi hij=>?_⟩;rw[Zcr,hje];exact(Dq n a a ha ha).mpr rfl;have hil:i<es.length:=by lk
  rw[Zcr];have hm:es[i]∈es:=ZbO hil;intro h;exact hno i es[i] hij (Zac hil) ((Dq n es[i] a (he _ hm) ha).mp h)
 have l1:=vY n a ha;have l2:(es.map (jQ n)).all PyData.canLay0=true:=by
  rw[ZbS];intro d hd;obtain⟨x,hx,rfl⟩:=Zaw.mp hd;exact(vY n x (he x hx)).1
 have e:eY (.ref k) [a] st=some (.int (j:Int),st):=by
  unfold eY;simp only[h1,hc,Zbj,h2,hf,l1.1,l2,Bool.true_and,Zaa,decide_eq_true_eq,ZaC];rw[if_pos ⟨by lk,hl⟩]
 rw[e,a5]
abbrev xT:D->List D->Dm D
 |.ref i,[],st=>match own st i with
  |some xs=>match xs[xs.length-1]? with
   |some y=>some (y,st.set i (.lst xs.dropLast))
   |none=>none
  |none=>none
 |_,_,_=>none
section
variable {K:Zfr}
def BS:xF K "list" EA xT:=by
 intro W H st x xs a as b st' Q l rx uv e q;unfold xT at e;split at e
 ·split at e
  ·next ys hy =>
   split at e
   ·next y hl =>
    cases e;cases uv;cases rx with
    |ref hi =>
     obtain⟨vs,e1,r1⟩:=l.obj _ _ _ hi (sH hy);obtain⟨v,hv,rv⟩:=r1.got hl;have hlen:=r1.length;have r2:cx K W H vs.dropLast ys.dropLast:=by
      rw[List.dropLast_eq_take,List.dropLast_eq_take,hlen];exact r1.take _
     obtain⟨l2,m2⟩:=l.putL hi (sH hy) r2;exact⟨_,vs,v,rfl,rfl,e1,by rw[hlen];exact hv,q _ _ W m2 l2 (rv.mn m2)⟩
   ·cases e
  ·cases e
 ·cases e
end
section
variable {st:Store}{Q:D->Store->Prop}{i:Nat}
def BU(h:own st i=some (xs ++ [y])):Wp (xT (.ref i) [] st) Q↔Q y (st.set i (.lst xs)):=by
 have e:(xs ++ [y])[(xs ++ [y]).length-1]?=some y:=by simp
 have e2:(xs ++ [y]).dropLast=xs:=by simp
 show Wp (match own st i with|some xs=>(match xs[xs.length-1]? with|some y=>some (y,st.set i (O.lst xs.dropLast))|none=>none)|none=>none) Q↔_;rw[h];dsimp only;rw[e,e2];exact a5
end
end L4
namespace af
@[reducible]def CS:=List aK×List (List Sp)×List (Nat×Nat)
abbrev aT(n:Nat)(fs:List aK)(ws:List (List Sp))(k:Nat)(s:Sp):List aK×List (List Sp)×Nat :=
 if aY n (stM (fs.getD k ([],[])) s)∈fs then(fs,ws,fs.idxOf (aY n (stM (fs.getD k ([],[])) s)))else(fs ++ [aY n (stM (fs.getD k ([],[])) s)],ws ++ [(gW (ws.getD k [] ++ [s])).reverse],fs.length)
abbrev bW(n:Nat)(c:CS):List aK×List (List Sp)×Nat:=aT n c.1 c.2.1 c.2.2.length (true,1)
abbrev dI(n:Nat)(c:CS):List aK×List (List Sp)×Nat:=aT n (bW n c).1 (bW n c).2.1 c.2.2.length (false,1)
abbrev OT(n:Nat)(c:CS):CS:=((dI n c).1,(dI n c).2.1,c.2.2 ++ [((bW n c).2.2,(dI n c).2.2)])
abbrev ch(n:Nat)(p:aK):Nat->CS
 |0=>([aY n p],[[]],[])
 |i+1=>OT n (ch n p i)
structure GR(n:Nat)(p:aK)(fs:List aK)(ws:List (List Sp)):Prop where
 nd:fs.Nodup
 own:∀q∈fs,Wh n q/\aY n q=q
 wl:ws.length=fs.length
 hd:fs[0]?=some (aY n p)
 wd:∀(k:Nat) (w:List Sp),ws[k]?=some w->Pl w.reverse/\w.length<=k/\(∀s∈w,s.2.natAbs<=k+3)/\∃q,fs[k]?=some q/\bA n (eo p w) q
abbrev LdR(n:Nat)(fs:List aK)(ls:List (Nat×Nat)):Prop:=∀(k:Nat) (l:Nat×Nat),ls[k]?=some l->∃p,fs[k]?=some p/\fs[l.1]?=some (aY n (stM p (true,1)))/\fs[l.2]?=some (aY n (stM p (false,1)))
structure GC(n:Nat)(p:aK)(c:CS)(i:Nat):Prop where
 r:GR n p c.1 c.2.1
 ll:c.2.2.length=i
 le:i<=c.1.length
 ld:LdR n c.1 c.2.2
section
variable {n:Nat}{p:aK}
def GR.few(g:GR n p fs ws):0<fs.length:=(Zab.mp g.hd).1
def xU(w:Wh n p)(n0:0<n):Wh n (aY n p)/\aY n (aY n p)=aY n p/\bA n p (aY n p):=by
 obtain⟨s,s0,s1,e⟩:=NX p n0;have tb:=w.bf s0 s1;have a:bA n p (aY n p):=⟨inv (bf p.1 p.2 s n),tb.aB,by rw[e,yL w.v.1 tb,yL w.v.2 tb];rfl⟩;have wq:Wh n (aY n p):=by
  obtain⟨g,tg,eq⟩:=a;have:=xP (xs:=p.1) (ys:=p.2) ⟨w.v.1,w.v.2,w.all⟩ tg n0;rw[eq];exact⟨⟨this.1,this.2.1⟩,this.2.2⟩
 exact⟨wq,(uL n0 w.v a).symm,a⟩
def ydt{fs:List aK}{q:aK}(h:q∈fs):fs[fs.idxOf q]?=some q:=by have hl:=ZbB h;rw[Zac hl,ZcC]
def Zdt{w:List Sp}{k:Nat}{s:Sp}(hp:Pl w.reverse)(hn:∀a∈w,a.2.natAbs<=k+3)(hs:s=(true,1)\/s=(false,1)):Pl (gW (w ++ [s]))/\∀a∈(gW (w ++ [s])),a.2.natAbs<=k+1+3:=by
 have ps:bQ s:=by rcases hs with rfl|rfl<;>exact⟨λ_=>by decide,by decide⟩
 have ew:gW w=w.reverse:=by
  have:=Pl.n9 hp
  rwa [Zcd]at this
 have e:gW (w ++ [s])=bE w.reverse s:=by
  rw[Kg,ew];rfl
 rw[e];refine⟨hp.push ps,λa ha=>?_⟩;have s1:s.2.natAbs<=1:=by rcases hs with rfl|rfl<;>decide
 exact RX (M:=k+3) (B:=1) (λx hx=>hn x (ZaM.mp hx)) s1 ps hp a ha
def uA{fs:List aK}{ws:List (List Sp)}{k:Nat}{s:Sp}(n0:0<n)(g:GR n p fs ws)(vp:Vf n p)(hk:k<fs.length)(hs:s=(true,1)\/s=(false,1)):
  GR n p (aT n fs ws k s).1 (aT n fs ws k s).2.1/\(∀(i:Nat) (q:aK),fs[i]?=some q->(aT n fs ws k s).1[i]?=some q)/\fs.length<=(aT n fs ws k s).1.length/\(aT n fs ws k s).1.length<=fs.length+1/\∃q,fs[k]?=some q/\(aT n fs ws k s).1[(aT n fs ws k s).2.2]?=some (aY n (stM q s)):=by
 have ek:fs[k]?=some (fs.getD k ([],[])):=by rw[Zaf,Zac hk];rfl
 generalize hq:fs.getD k ([],[])=q at ek;obtain⟨wq,oq⟩:=g.own q (Zai ek);have Gi:=wq.st n0 s;obtain⟨wF,oF,aF⟩:=xU Gi n0;unfold aT;rw[hq];by_cases hm:aY n (stM q s)∈fs;rw[if_pos hm];exact⟨g,λ_ _ h=>h,Zad _,Zb1 _,q,ek,ydt hm⟩;rw[if_neg hm];have hwk:k<ws.length:=by rw[g.wl];exact hk
 have ew:ws[k]?=some (ws.getD k []):=by rw[Zaf,Zac hwk];rfl
 generalize ws.getD k []=w at ew;obtain⟨pw,lw,nw,q',eq',aw⟩:=g.wd k w ew;rw[ek]at eq';cases eq';obtain⟨pl,nl⟩:=Zdt (k:=k) pw nw hs;refine⟨⟨Zcl.mpr ⟨g.nd,by simp,λx hx y hy e=>hm (by rw[<- Zar.mp hy,<- e];exact hx)⟩,λq' hq'=>?_,by rw[Zae,Zae,g.wl];rfl,by rw[Zan g.few];exact g.hd,λi v hv=>?_⟩,λi q' h=>by rw[Zan (Zab.mp h).1];exact h,by rw[Zae];lk,by rw[Zae];exact Zad _,q,ek,?_⟩;rcases Zax.mp hq' with h|h
 exact g.own q' h;rw[Zar.mp h];exact⟨wF,oF⟩;by_cases hi:i<ws.length;rw[Zan hi]at hv;obtain⟨a1,a2,a3,q',b1,b2⟩:=g.wd i v hv;exact⟨a1,a2,a3,q',by rw[Zan (Zab.mp b1).1];exact b1,b2⟩;have hi2:i=ws.length:=by
  have:=(Zab.mp hv).1;rw[Zae]at this;have:i<ws.length+1:=this;lk
 subst hi2;rw[Zav (Zad _),ZaX]at hv;cases(show some _=some v from hv);refine⟨by rw[Zcd];exact pl,?_,λa ha=>?_,aY n (stM q s),?_,?_⟩;rw[ZaL]
 have:=Kh (w ++ [s]);rw[Zae]at this;have:(gW (w ++ [s])).length<=w.length+1:=this;lk
 have:=nl a (ZaM.mp ha)
 lk;rw[g.wl,Zav (Zad _),ZaX];rfl;have cD:∀ a∈w ++ [s],bQ a:=λa ha=>by
  rcases Zax.mp ha with h|h
  exact Pl.pr pw a (ZaM.mpr h);rw[Zar.mp h];rcases hs with rfl|rfl<;>exact⟨λ_=>by decide,by decide⟩
 have e1:av (gW (w ++ [s])).reverse=av (w ++ [s]):=Ki cD;have pp:∀a∈(gW (w ++ [s])).reverse,bQ a:=λa ha=>Pl.pr pl a (ZaM.mp ha);have a1:=Se pp cD e1 vp;have a2:bA n (eo p (w ++ [s])) (stM q s):=by
  rw[AY];exact bA.st vp.ld aw s
 exact bA.trans vp.ld (bA.trans vp.ld a1 a2) aF;rw[Zav (Zad _),ZaX];rfl
def xV(n0:0<n)(w:Wh n p):∀i:Nat,(∀j,j<i->j<(ch n p j).1.length)->GC n p (ch n p i) i
 |0,_=>by
  obtain⟨wF,oF,aF⟩:=xU w n0
  exact⟨⟨by show[aY n p].Nodup;simp,λq hq=>by rw[Zar.mp hq];exact⟨wF,oF⟩,rfl,rfl,λk v hv=>by
   cases k with
   |zero =>
    cases(show some []=some v from hv);exact⟨trivial,Zad _,(λs hs=>nomatch hs),_,rfl,aF⟩
   |succ k=>cases(show none=some v from hv)⟩,rfl,ZaK _,λk l hl=>nomatch hl⟩
 |i+1,h=>by
  have g:=xV n0 w i λj hj=>h j ⋯;have hi:=h i ⋯;have pE:=g.ll;have vp:=w.v;have r1:=uA (s:=(true,1)) n0 g.r vp (k:=(ch n p i).2.2.length) ⋯ (.inl rfl);have r2:=uA (s:=(false,1)) n0 r1.1 vp (k:=(ch n p i).2.2.length) (by have:=r1.2.2.1;lk) (.inr rfl);refine⟨r2.1,by show((ch n p i).2.2 ++ [_]).length=i+1;rw[Zae,pE];rfl,?_,λk l hl=>?_⟩;have a:=r1.2.2.1;have b:=r2.2.2.1;show i+1<=(dI n (ch n p i)).1.length;unfold dI bW;lk;have hl:((ch n p i).2.2 ++ [((bW n (ch n p i)).2.2,(dI n (ch n p i)).2.2)])[k]?=some l:=hl;by_cases hk:k<(ch n p i).2.2.length;rw[Zan hk]at hl;obtain⟨q,b1,b2,b3⟩:=g.ld k l hl;exact⟨q,r2.2.1 _ _ (r1.2.1 _ _ b1),r2.2.1 _ _ (r1.2.1 _ _ b2),r2.2.1 _ _ (r1.2.1 _ _ b3)⟩;have hk2:k=(ch n p i).2.2.length:=by
   have:=(Zab.mp hl).1;rw[Zae]at this;have:k<(ch n p i).2.2.length+1:=this;lk
  subst hk2;rw[Zav (Zad _),ZaX]at hl;cases(show some _=some l from hl);obtain⟨q1,c1,c2⟩:=r1.2.2.2.2;obtain⟨q2,d1,d2⟩:=r2.2.2.2.2;have:q2=q1:=by
   have:=r1.2.1 _ _ c1;rw[d1]at this;exact Zao this
  subst this;exact⟨q2,r2.2.1 _ _ d1,r2.2.1 _ _ c2,d2⟩
def Ur:∀{l m:List aK},m.Nodup->(∀x∈m,x∈l)->l.length<=m.length->∀x∈l,x∈m
 |l,[],_,_,hl,x,hx=>by
  have:l=[]:=List.length_eq_zero_iff.mp (by simpa using hl);rw[this]at hx;cases hx
 |l,a :: m,nd,hs,hl,x,hx=>by
  by_cases e:x=a;rw[e];exact Zah;have zq:=Za7.mp nd;have ha:=hs a Zah
  have:=Ur (l:=l.erase a) (m:=m) zq.2 (λy hy=>by
   have OU:y≠a:=λz=>zq.1 (z ▸ hy)
   exact(Zbu OU).mpr (hs y (Zak _ hy))) (by rw[List.length_erase_of_mem ha];simp at hl;lk) x ((Zbu e).mpr hx)
  exact Zak _ this
def Us{f:aK->aK}:∀{l:List aK},l.Nodup->(∀a∈l,∀b∈l,f a=f b->a=b)->(l.map f).Nodup
 |[],_,_=>List.nodup_nil
 |a :: l,nd,h=>by
  rw[Zaz];have zq:=Za7.mp nd;refine Za7.mpr ⟨λhm=>?_,Us zq.2 λx hx y hy=>h x (Zak _ hx) y (Zak _ hy)⟩;obtain⟨b,hb,e⟩:=Zaw.mp hm;have:=h b (Zak _ hb) a Zah e;exact zq.1 (this ▸ hb)
structure Full(n:Nat)(p:aK)(c:CS)(N:Nat):Prop extends GC n p c N where
 fl:c.1.length=N
def Full.s(h:Full n p c N)(hq:q∈c.1):aY n (Sh 1 q)∈c.1/\aY n (Qt q)∈c.1:=by
 obtain⟨k,hk⟩:=Zbc hq;have pW:k<c.2.2.length:=by rw[h.ll,<- h.fl];exact(Zab.mp hk).1
 obtain⟨q',b1,b2,b3⟩:=h.ld k _ (Zac pW);rw[hk]at b1;cases b1;exact⟨Zai b2,Zai b3⟩
structure rO(n:Nat)(fs:List aK):Prop where
 nd:fs.Nodup
 own:∀q∈fs,Wh n q/\aY n q=q
 s:∀q∈fs,aY n (Sh 1 q)∈fs/\aY n (Qt q)∈fs
def Full.OV(h:Full n p c N):rO n c.1:=⟨h.r.nd,h.r.own,λq hq=>h.s hq⟩
def rO.sm(n0:0<n)(h:rO n fs)(hq:q∈fs):aY n (Sh (-1) q)∈fs:=by
 have inj:∀a∈fs,∀b∈fs,aY n (Sh 1 a)=aY n (Sh 1 b)->a=b:=λa ha b hb e=>Sw n0 1 (h.own a ha).1 (h.own b hb).1 (h.own a ha).2 (h.own b hb).2 e;have nd:=Us (f:=λa=>aY n (Sh 1 a)) h.nd inj
 have:=Ur nd (λx hx=>by
  obtain⟨a,ha,rfl⟩:=Zaw.mp hx
  exact(h.s a ha).1) (by rw[Zaa];exact Zad _) q hq
 obtain⟨a,ha,e⟩:=Zaw.mp this;obtain⟨wa,oa⟩:=h.own a ha;obtain⟨wF,oF,aF⟩:=xU (wa.sh n0 1) n0;have a1:bA n (Sh 1 a) q:=by rw[<- e];exact aF
 have a2:=bA.sh (wa.sh n0 1).v a1 (-1);rw[wR wa.v,show(1:Int) + -1=0 from rfl,qC wa.v]at a2;rw[<- uL n0 wa.v a2,oa];exact ha
def rO.st(n0:0<n)(h:rO n fs)(hq:q∈fs)(s:Sp):aY n (stM q s)∈fs:=by
 have up:∀k:Nat,aY n (Sh (k:Int) q)∈fs:=λk=>by
  induction k with
  |zero =>
   rw[show((0:Nat):Int)=0 from rfl,qC (h.own q hq).1.v,(h.own q hq).2];exact hq
  |succ k ih =>
   have wk:=(h.own q hq).1.sh n0 (k:Int);obtain⟨wF,oF,aF⟩:=xU wk n0;have:=(h.s _ ih).1;rw[<- uL n0 (wk.sh n0 1).v (bA.sh wk.v aF 1),wR (h.own q hq).1.v]at this;exact this
 have dn:∀k:Nat,aY n (Sh (-(k:Int)) q)∈fs:=λk=>by
  induction k with
  |zero =>
   rw[show(-((0:Nat):Int))=0 from rfl,qC (h.own q hq).1.v,(h.own q hq).2];exact hq
  |succ k ih =>
   have wk:=(h.own q hq).1.sh n0 (-(k:Int));obtain⟨wF,oF,aF⟩:=xU wk n0;have:=h.sm n0 ih;rw[<- uL n0 (wk.sh n0 (-1)).v (bA.sh wk.v aF (-1)),wR (h.own q hq).1.v,show -(k:Int) + -1=-((k+1:Nat):Int) by lk]at this;exact this
 have qt:∀k:Nat,Wh n (pR k q)/\aY n (pR k q)∈fs:=λk=>by
  induction k with
  |zero=>exact⟨(h.own q hq).1,by show aY n q∈fs;rw[(h.own q hq).2];exact hq⟩
  |succ k ih =>
   obtain⟨wk,ih⟩:=ih;obtain⟨wF,oF,aF⟩:=xU wk n0;have:=(h.s _ ih).2;rw[<- uL n0 (wk.qt n0).v (bA.qt wk.v aF)]at this;exact⟨wk.qt n0,this⟩
 unfold stM;split;rcases Int.lt_or_le s.2 0 with z|z
 have:=dn s.2.natAbs
 rwa [show -((s.2.natAbs:Nat):Int)=s.2 by lk]at this
 have:=up s.2.toNat
 rwa [show((s.2.toNat:Nat):Int)=s.2 by lk]at this
 exact(qt _).2
def rO.ld(n0:0<n)(h:rO n fs):∀(w:List Sp) (q:aK),Wh n q->aY n q∈fs->aY n (eo q w)∈fs
 |[],_,_,hq=>hq
 |s :: w,q,wq,hq=>by
  refine rO.ld n0 h w (stM q s) (wq.st n0 s) ?_;obtain⟨wF,oF,aF⟩:=xU wq n0;have:=h.st n0 hq s;rw[<- uL n0 (wq.st n0 s).v (bA.st wq.v aF s)]at this;exact this
def Full.word(n0:0<n)(h:Full n p c N)(wp:Wh n p)(w:List Sp):aY n (eo p w)∈c.1:=h.OV.ld n0 w p wp (Zai h.r.hd)
end
end af
namespace af
abbrev Tl:Nat->List (List Int)
 |1=>[[0]]
 |2=>[[0,1],[1,0]]
 |3=>[[0,1,2],[0,2,1],[1,0,2],[1,2,0],[2,0,1],[2,1,0]]
 |_=>[]
def BV:∀a∈([0,1]:List Int),∀b∈([0,1]:List Int),[a,b].Nodup->[a,b]∈Tl 2:=by decide +kernel
def XcY:∀a∈([0,1,2]:List Int),∀b∈([0,1,2]:List Int),∀c∈([0,1,2]:List Int),[a,b,c].Nodup->[a,b,c]∈Tl 3:=by decide +kernel
def Ut(n0:0<n)(n3:n<=3)(t:Tn n xs):xs∈Tl n:=by
 have hl:=t.length;have hb:∀x∈xs,x∈upto n:=λx hx=>t.subset hx;have nd:=t.nodup;clear t
 match n,n0,n3,xs,hl with
 |1,_,_,[x],_ =>
  have h1:=hb x Zah;rw[Zar.mp (show x∈[0]from h1)];exact Zah
 |2,_,_,[x,y],_=>exact BV x (hb x Zah) y (hb y (.tail _ Zah)) nd
 |3,_,_,[x,y,z],_=>exact XcY x (hb x Zah) y (hb y (.tail _ Zah)) z (hb z (.tail _ (.tail _ Zah))) nd
abbrev Ul(n:Nat):List aK:=((Tl n).flatMap λx=>(Tl n).map λy=>(x,y)).filter λq=>decide (aY n q=q)
def BW(n0:0<n)(n3:n<=3)(w:Wh n q)(h:aY n q=q):q∈Ul n:=by unfold Ul;refine Zcg.mpr ⟨List.mem_flatMap.mpr ⟨q.1,Ut n0 n3 w.v.1,Zaw.mpr ⟨q.2,Ut n0 n3 w.v.2,rfl⟩⟩,by rw[h];exact decide_eq_true rfl⟩
def Uu:∀{m l:List aK},m.Nodup->(∀x∈m,x∈l)->m.length<=l.length
 |[],_,_,_=>ZaK _
 |a :: m,l,nd,hs=>by
  have zq:=Za7.mp nd;have ha:=hs a Zah;have:=Uu (m:=m) (l:=l.erase a) zq.2 λy hy=>by
   have OU:y≠a:=λz=>zq.1 (z ▸ hy);exact(Zbu OU).mpr (hs y (Zak _ hy))
  rw[List.length_erase_of_mem ha]at this;have hp:0<l.length:=List.length_pos_of_mem ha;simp;lk
def OW:(Ul 1).length<=30/\(Ul 2).length<=30/\(Ul 3).length<=30:=by decide +kernel
def Ydt{n:Nat}(n0:0<n)(n3:n<=3){fs:List aK}(nd:fs.Nodup)(own:∀q∈fs,Wh n q/\aY n q=q):fs.length<=30:=by
 have h:=Uu (l:=Ul n) nd λq hq=>BW n0 n3 (own q hq).1 (own q hq).2;rcases(show n=1\/n=2\/n=3 by lk)with rfl|rfl|rfl
 exact Zaq h OW.1;exact Zaq h OW.2.1;exact Zaq h OW.2.2
end af
namespace af
end af
namespace af
@[reducible]def jR:=Nat×Sp×Nat
abbrev j9(x:Nat×List jR)(t:jR):Nat×List jR:=if t.2.2=x.1 then(x.1+1,x.2)else(x.1,x.2 ++ [t])
abbrev iI(C:CS)(i:Nat):Nat×Nat:=C.2.2.getD i (0,0)
abbrev cg(C:CS):Nat->Nat×List jR
 |0=>(1,[])
 |i+1=>j9 (j9 (cg C i) (i,(true,1),(iI C i).1)) (i,(false,1),(iI C i).2)
abbrev K1(C:CS)(i:Nat):Nat->Nat×List jR
 |0=>cg C i
 |1=>j9 (cg C i) (i,(true,1),(iI C i).1)
 |_=>cg C (i+1)
abbrev uQ(C:CS)(t:jR):List Sp:=C.2.1.getD t.1 [] ++ [t.2.1] ++ dJ (C.2.1.getD t.2.2 [])
abbrev xW(N:Nat)(t:jR):Prop:=t.1<N/\(t.2.1=(true,1)\/t.2.1=(false,1))/\t.2.2<N
def K2(h:∀s∈x.2,xW N s)(ht:xW N t):(∀s∈(j9 x t).2,xW N s)/\(j9 x t).2.length<=x.2.length+1:=by
 unfold j9;split;exact⟨h,Zb1 _⟩;refine⟨λs hs=>?_,by rw[Zae];exact Zad _⟩;rcases Zax.mp hs with h'|h'
 exact h s h';rw[Zar.mp h'];exact ht
def Gj(F:Full n p C N)(hi:i<N):(iI C i).1<N/\(iI C i).2<N:=by
 have hl:i<C.2.2.length:=by rw[F.ll];exact hi
 have e:C.2.2[i]?=some (iI C i):=by unfold iI;rw[Zaf,Zac hl];rfl
 obtain⟨q,_,h1,h2⟩:=F.ld i _ e;exact⟨by rw[<- F.fl];exact(Zab.mp h1).1,by rw[<- F.fl];exact(Zab.mp h2).1⟩
def Dr(F:Full n p C N):∀i,i<=N->(∀s∈(cg C i).2,xW N s)/\(cg C i).2.length<=2*i
 |0,_=>⟨(λs hs=>nomatch hs),Zad _⟩
 |i+1,hi=>by
  obtain⟨h1,h2⟩:=Dr F i ⋯;obtain⟨l1,l2⟩:=Gj F (i:=i) ⋯;have a:=K2 (t:=(i,(true,1),(iI C i).1)) h1 ⟨by show i<N;lk,.inl rfl,l1⟩;have b:=K2 (t:=(i,(false,1),(iI C i).2)) a.1 ⟨by show i<N;lk,.inr rfl,l2⟩;refine⟨b.1,?_⟩;have:=a.2;have:=b.2;show(j9 (j9 (cg C i) _) _).2.length<=_;lk
def Gk(F:Full n p C N)(hk:k<N):(∀s∈C.2.1.getD k [],bQ s/\s.2.natAbs<=N+3)/\(C.2.1.getD k []).length<=N:=by
 have hl:k<C.2.1.length:=by rw[F.r.wl,F.fl];exact hk
 have e:C.2.1[k]?=some (C.2.1.getD k []):=by rw[Zaf,Zac hl];rfl
 obtain⟨pw,lw,nw,_⟩:=F.r.wd k _ e;exact⟨λs hs=>⟨Pl.pr pw s (ZaM.mpr hs),by have:=nw s hs;lk⟩,by lk⟩
def Uv(h:bQ s)(hb:s.2.natAbs<=B)(h3:3<=B):(jN s).2.natAbs<=B:=by
 unfold jN;cases hs:s.1 with
 |true=>simp only[if_true];rw[Zbz];exact hb
 |false =>
  have:=h.1 hs;simp only[Zba,if_false];lk
def Uw(F:Full n p C N)(h:xW N t):(∀s∈uQ C t,bQ s/\s.2.natAbs<=N+3)/\(uQ C t).length<=2*N+1:=by
 obtain⟨h1,h2,h3⟩:=h;obtain⟨a1,a2⟩:=Gk F h1;obtain⟨b1,b2⟩:=Gk F h3;refine⟨λs hs=>?_,?_⟩;unfold uQ at hs;rcases Zax.mp hs with hs|hs
 rcases Zax.mp hs with hs|hs
 exact a1 s hs;rw[Zar.mp hs];rcases h2 with e|e<;>rw[e]
 exact⟨⟨λz=>(nomatch z),by decide⟩,by show 1<=_;lk⟩;exact⟨⟨λ_=>⟨by decide,by decide⟩,by decide⟩,by show 1<=_;lk⟩;have pb:=xE (λs hs=>(b1 s hs).1) s hs;unfold dJ at hs;obtain⟨x,hx,rfl⟩:=Zaw.mp (ZaM.mp hs);exact⟨pb,Uv (b1 x hx).1 (b1 x hx).2 ⋯⟩;unfold uQ dJ;rw[Zae,Zae,ZaL,Zaa];show _+1+_<=_;lk
end af
namespace af
abbrev sT(c:CS):List Int:=c.2.2.map λl=>(l.1:Int)
abbrev tT(c:CS):List Int:=c.2.2.map λl=>(l.2:Int)
section
variable {n:Nat}{p:aK}{c:CS}{N:Nat}
def Full.Gm(h:Full n p c N){k:Nat}{q:aK}(hq:c.1[k]?=some q):∃l:Nat×Nat,c.2.2[k]?=some l/\c.1[l.1]?=some (aY n (Sh 1 q))/\c.1[l.2]?=some (aY n (Qt q)):=by
 have hk:k<c.2.2.length:=by rw[h.ll,<- h.fl];exact(Zab.mp hq).1
 obtain⟨q',b1,b2,b3⟩:=h.ld k _ (Zac hk);rw[hq]at b1;cases b1;exact⟨_,Zac hk,b2,b3⟩
def Full.K3(n0:0<n)(h:Full n p c N):Tn N (sT c):=by
 have:=Ss (fs:=c.1) (c:=sT c) (λq=>aY n (Sh 1 q)) h.r.nd (by unfold sT;rw[Zaa,h.ll,h.fl]) (λk q hq=>by
  obtain⟨l,h1,h2,_⟩:=h.Gm hq
  exact⟨l.1,by unfold sT;rw[Zag,h1];rfl,h2⟩) (λa ha b hb e=>Sw n0 1 (h.r.own a ha).1 (h.r.own b hb).1 (h.r.own a ha).2 (h.r.own b hb).2 e)
 rw[h.fl]at this;exact this
def Full.tTn(n0:0<n)(h:Full n p c N):Tn N (tT c):=by
 have:=Ss (fs:=c.1) (c:=tT c) (λq=>aY n (Qt q)) h.r.nd (by unfold tT;rw[Zaa,h.ll,h.fl]) (λk q hq=>by
  obtain⟨l,h1,_,h2⟩:=h.Gm hq
  exact⟨l.2,by unfold tT;rw[Zag,h1];rfl,h2⟩) (λa ha b hb e=>A1 n0 (h.r.own a ha).1 (h.r.own b hb).1 (h.r.own a ha).2 (h.r.own b hb).2 e)
 rw[h.fl]at this;exact this
def Gn(n0:0<n)(w:Wh n q)(s:Sp):aY n (stM (aY n q) s)=aY n (stM q s):=(uL n0 (w.st n0 s).v (bA.st w.v (xU w n0).2.2 s)).symm
def K4(n0:0<n)(w:Wh n q)(u:List Sp):aY n (eo (aY n q) u)=aY n (eo q u):=(uL n0 (w.ld n0 (w:=u)).v (bA.ld w.v (xU w n0).2.2)).symm
end
end af
namespace af
abbrev cst(w:List Sp):Nat:=(w.map λs=>s.2.natAbs).sum
def K5(w:List Sp):cst w.reverse=cst w:=by unfold cst;rw[Zce,List.sum_reverse]
def uB(s:Sp)(w:List Sp):cst (s :: w)=s.2.natAbs+cst w:=by unfold cst;rw[Zaz,List.sum_cons]
def Ux(hl:Pl l)(hp:bQ s):cst (bE l s)<=cst l+s.2.natAbs:=by
 cases l with
 |nil=>show cst [s]<=_;rw[uB];unfold cst;simp
 |cons t r =>
  rw[vN];split
  ·next e0 =>
   unfold ck;split
   ·show cst r<=_
    rw[uB];lk
   ·show cst ((t.1,gj t s) :: r)<=_
    rw[uB,uB];have:(gj t s).natAbs<=t.2.natAbs+s.2.natAbs:=by
     unfold gj;split
     ·lk
     ·next hb =>
      have:=hl.1.1 (by simpa using hb);have h2:=hp.1 (by rw[<- e0];simpa using hb);lk
    show(gj t s).natAbs+_<=_;lk
  ·rw[uB];lk
section
variable {n:Nat}{p:aK}
def Uy{fs:List aK}{ws:List (List Sp)}{k:Nat}{s:Sp}(g:GR n p fs ws)(hk:k<fs.length)(hs:s=(true,1)\/s=(false,1))(h:∀(j:Nat) (w:List Sp),ws[j]?=some w->cst w<=j):∀(j:Nat) (w:List Sp),(aT n fs ws k s).2.1[j]?=some w->cst w<=j:=by
 intro j w hw;unfold aT at hw;split at hw;exact h j w hw;have hkw:k<ws.length:=by rw[g.wl];exact hk
 rcases ZbP j ws.length with hj|hj
 rw[Zan hj]at hw;exact h j w hw;rw[Zav hj]at hw;obtain⟨h1,h2⟩:=Zab.mp hw;have hj0:j-ws.length=0:=by simpa using h1
 have e:(gW (ws.getD k [] ++ [s])).reverse=w:=by
  rw[<- h2];simp[hj0]
 have hg:ws[k]?=some (ws.getD k []):=by rw[Zaf,Zac hkw];rfl
 obtain⟨hp,_⟩:=g.wd k _ hg;have ps:bQ s:=by rcases hs with rfl|rfl<;>exact⟨λ_=>by decide,by decide⟩
 have s1:s.2.natAbs=1:=by rcases hs with rfl|rfl<;>rfl
 have ew:gW (ws.getD k [])=(ws.getD k []).reverse:=by
  have:=Pl.n9 hp
  rwa [Zcd]at this
 have e2:gW (ws.getD k [] ++ [s])=bE (ws.getD k []).reverse s:=by rw[Kg,ew];rfl
 have h3:=Ux hp ps;have h4:=h k _ hg;rw[<- e,K5,e2];rw[K5]at h3;lk
def Uz(n0:0<n)(w:Wh n p):∀i:Nat,(∀j,j<i->j<(ch n p j).1.length)->∀(k:Nat) (u:List Sp),(ch n p i).2.1[k]?=some u->cst u<=k
 |0,_,k,u,hu=>by
  have hu:([[]]:List (List Sp))[k]?=some u:=hu;cases k with
  |zero=>cases hu;exact ZaK _
  |succ k=>simp at hu
 |i+1,hp,k,u,hu=>by
  have g:=xV n0 w i λj hj=>hp j ⋯;have ih:=Uz n0 w i λj hj=>hp j ⋯;have hi:i<(ch n p i).1.length:=hp i ⋯;have hl:(ch n p i).2.2.length=i:=g.ll;have h1:=uA (k:=(ch n p i).2.2.length) (s:=(true,1)) n0 g.r w.v (by rw[hl];exact hi) (.inl rfl);have c1:=Uy (k:=(ch n p i).2.2.length) (s:=(true,1)) g.r (by rw[hl];exact hi) (.inl rfl) ih;have c2:=Uy (k:=(ch n p i).2.2.length) (s:=(false,1)) h1.1 (by have:=h1.2.2.1;lk) (.inr rfl) c1;exact c2 k u hu
end
def UA{A B:T4}{M N:Nat}(ha:A.le M)(hb:B.le N):(A.mul B).le (2*(M*N)):=by
 have key:∀{a b c d:Int},a.natAbs<=M->b.natAbs<=N->c.natAbs<=M->d.natAbs<=N->(a*b+c*d).natAbs<=2*(M*N):=λ{a b c d} h1 h2 h3 h4=>by
  have e1:(a*b).natAbs<=M*N:=by rw[Za2];exact Zcj h1 h2
  have e2:(c*d).natAbs<=M*N:=by rw[Za2];exact Zcj h3 h4
  have:=Int.natAbs_add_le (a*b) (c*d);lk
 obtain⟨a1,a2,a3,a4⟩:=ha;obtain⟨b1,b2,b3,b4⟩:=hb;exact⟨key a1 b1 a2 b3,key a1 b2 a2 b4,key a3 b1 a4 b3,key a3 b2 a4 b4⟩
def UB:∀x:Nat,1<=x->2*x<=2 ^ x
 |1,_=>by decide
 |x+2,_=>by
  have:=UB (x+1) ⋯;rw[Nat.pow_succ];lk
def UC:∀j:Nat,(qp j).le 1
 |0=>⟨by decide,by decide,by decide,by decide⟩
 |j+1=>by
  obtain⟨h1,h2,h3,h4⟩:=UC j;show(T4.mul T4.qt (qp j)).le 1;refine⟨?_,?_,?_,?_⟩;show(0*(qp j).a + -1*(qp j).c).natAbs<=1;lk;show(0*(qp j).b + -1*(qp j).d).natAbs<=1;lk;show(1*(qp j).a+0*(qp j).c).natAbs<=1;lk;show(1*(qp j).b+0*(qp j).d).natAbs<=1;lk
def UD:∀{w:List Sp},(∀s∈w,bQ s)->(av w).le (2 ^ cst w)
 |[],_=>⟨by decide,by decide,by decide,by decide⟩
 |s :: w,hw=>by
  have ih:=UD (w:=w) λt ht=>hw t (Zak _ ht);have hs:=hw s Zah;have hs1:1<=s.2.natAbs:=by have:=hs.2;lk
  have e:av (s :: w)=(av w).mul (fJ s):=by
   have:=rF [s] w;rw[show[s] ++ w=s :: w from rfl]at this;rw[this]
   congr 1
   show(fJ s).mul T4.one=fJ s;exact T4.mul_one _
  have hle:(fJ s).le s.2.natAbs:=by
   unfold fJ;split;exact⟨hs1,Zad _,ZaK _,hs1⟩;obtain⟨h1,h2,h3,h4⟩:=UC s.2.toNat;exact⟨by lk,by lk,by lk,by lk⟩
  rw[e,uB];have:=UA ih hle;have h2:2*(2 ^ cst w*s.2.natAbs)<=2 ^ (s.2.natAbs+cst w):=by
   rw[Nat.pow_add,Zci (2 ^ s.2.natAbs),<- ZcD,Zci 2,ZcD];exact Nat.mul_le_mul_left _ (UB _ hs1)
  exact⟨Zaq this.1 h2,Zaq this.2.1 h2,Zaq this.2.2.1 h2,Zaq this.2.2.2 h2⟩
end af
namespace af
abbrev nG(C:CS)(i:Nat)(b:Bool):Nat:=if b then(iI C i).1 else(iI C i).2
abbrev pF(C:CS)(i:Nat):List Sp:=C.2.1.getD i []
section
variable {n:Nat}{p:aK}
def K7(fs:List aK)(ws:List (List Sp))(k:Nat)(s:Sp):ws <+: (aT n fs ws k s).2.1:=by unfold aT;split;exact List.prefix_rfl;exact ZbZ _ _
def OX(n:Nat)(p:aK)(i:Nat):(ch n p i).2.1 <+: (ch n p (i+1)).2.1/\(ch n p i).2.2 <+: (ch n p (i+1)).2.2 :=
 ⟨(K7 _ _ _ _).trans (K7 _ _ _ _),ZbZ _ _⟩
def Ds(n:Nat)(p:aK)(i:Nat):∀d,(ch n p i).2.1 <+: (ch n p (i+d)).2.1/\(ch n p i).2.2 <+: (ch n p (i+d)).2.2
 |0=>⟨List.prefix_rfl,List.prefix_rfl⟩
 |d+1=>⟨(Ds n p i d).1.trans (OX n p (i+d)).1,(Ds n p i d).2.trans (OX n p (i+d)).2⟩
def BX{J:Type}{l m:List J}(h:l <+: m){i:Nat}{x:J}(e:l[i]?=some x):m[i]?=some x:=by obtain⟨t,rfl⟩:=h;rw[Zan (Zab.mp e).1];exact e
def Gp(hw:ws.length=fs.length):
  ((aT n fs ws k s).2.2=fs.length/\(aT n fs ws k s).1.length=fs.length+1/\(aT n fs ws k s).2.1[fs.length]?=some (gW (ws.getD k [] ++ [s])).reverse)\/((aT n fs ws k s).2.2<fs.length/\(aT n fs ws k s).1.length=fs.length):=by
 unfold aT;split
 ·next h=>exact .inr ⟨ZbB h,rfl⟩
 ·refine .inl ⟨rfl,by rw[Zae];rfl,?_⟩
  rw[<- hw,Zav (Zad _),ZaX];rfl
def UE(n0:0<n)(w:Wh n p)(F:Full n p (ch n p N) N)(pr:∀j,j<N->j<(ch n p j).1.length):∀i,i<=N->(cg (ch n p N) i).1=(ch n p i).1.length
 |0,_=>rfl
 |i+1,hi=>by
  have ih:=UE n0 w F pr i ⋯;have g:=xV n0 w i λj hj=>pr j ⋯;have hl:=g.ll;have el:iI (ch n p N) i=((bW n (ch n p i)).2.2,(dI n (ch n p i)).2.2):=by
   have e1:(ch n p (i+1)).2.2[i]?=some ((bW n (ch n p i)).2.2,(dI n (ch n p i)).2.2):=by
    show((ch n p i).2.2 ++ [_])[i]?=_;rw[Zav ⋯,hl,ZaX];rfl
   have e2:=BX (Ds n p (i+1) (N-(i+1))).2 e1;rw[show i+1+(N-(i+1))=N by lk]at e2;unfold iI;rw[Zaf,e2];rfl
  have gS:=uA (k:=(ch n p i).2.2.length) (s:=(true,1)) n0 g.r w.v (by rw[hl];exact pr i ⋯) (.inl rfl);have s1:((bW n (ch n p i)).2.2=(ch n p i).1.length/\(bW n (ch n p i)).1.length=(ch n p i).1.length+1)\/((bW n (ch n p i)).2.2<(ch n p i).1.length/\(bW n (ch n p i)).1.length=(ch n p i).1.length):=(Gp (n:=n) (fs:=(ch n p i).1) (k:=(ch n p i).2.2.length) (s:=(true,1)) g.r.wl).imp (λh=>⟨h.1,h.2.1⟩) id;have s2:((dI n (ch n p i)).2.2=(bW n (ch n p i)).1.length/\(dI n (ch n p i)).1.length=(bW n (ch n p i)).1.length+1)\/((dI n (ch n p i)).2.2<(bW n (ch n p i)).1.length/\(dI n (ch n p i)).1.length=(bW n (ch n p i)).1.length):=(Gp (n:=n) (fs:=(bW n (ch n p i)).1) (k:=(ch n p i).2.2.length) (s:=(false,1)) gS.1.wl).imp (λh=>⟨h.1,h.2.1⟩) id;show(j9 (j9 (cg (ch n p N) i) (i,(true,1),(iI (ch n p N) i).1)) (i,(false,1),(iI (ch n p N) i).2)).1=((dI n (ch n p i)).1).length;have hS:(j9 (cg (ch n p N) i) (i,(true,1),(iI (ch n p N) i).1)).1=(bW n (ch n p i)).1.length:=by
   unfold j9;dsimp only;rw[ih,el];dsimp only;rcases s1 with⟨a1,a2⟩|⟨a1,a2⟩
   rw[if_pos a1,a2];rw[if_neg ⋯,a2]
  generalize j9 (cg (ch n p N) i) (i,(true,1),(iI (ch n p N) i).1)=x at hS;unfold j9;dsimp only;rw[hS,el];dsimp only;rcases s2 with⟨b1,b2⟩|⟨b1,b2⟩
  rw[if_pos b1,b2];rw[if_neg ⋯,b2]
def BZ(g:(ch n p i).2.2.length=i)(hi:i<N):iI (ch n p N) i=((bW n (ch n p i)).2.2,(dI n (ch n p i)).2.2):=by
 have e1:(ch n p (i+1)).2.2[i]?=some ((bW n (ch n p i)).2.2,(dI n (ch n p i)).2.2):=by
  show((ch n p i).2.2 ++ [_])[i]?=_;rw[Zav ⋯,g,ZaX];rfl
 have e2:=BX (Ds n p (i+1) (N-(i+1))).2 e1;rw[show i+1+(N-(i+1))=N by lk]at e2;unfold iI;rw[Zaf,e2];rfl
abbrev PlK(C:CS)(N:Nat)(t:jR):Prop:=t.1<N/\t.2.1.2=1/\t.2.2=nG C t.1 t.2.1.1
def UG(h:s∈(j9 x t).2):s∈x.2\/s=t:=by
 unfold j9 at h;split at h;exact .inl h;rcases Zax.mp h with h|h
 exact .inl h;exact .inr (Zar.mp h)
def OY(h:s∈x.2):s∈(j9 x t).2:=by unfold j9;split;exact h;exact Zbr _ h
def OZ(C:CS)(N:Nat):∀i,i<=N->∀t∈(cg C i).2,PlK C N t
 |0,_,t,h=>nomatch h
 |i+1,hi,t,h=>by
  rcases UG h with h|rfl
  rcases UG h with h|rfl
  exact OZ C N i ⋯ t h;exact⟨hi,rfl,rfl⟩;exact⟨hi,rfl,rfl⟩
def UH(C:CS)(h:t∈(cg C i).2):∀d,t∈(cg C (i+d)).2
 |0=>h
 |d+1=>OY (OY (UH C h d))
def ycZ(n0:0<n)(w:Wh n p)(F:Full n p (ch n p N) N)(pr:∀j,j<N->j<(ch n p j).1.length)(hi:i<N)(b:Bool)(h:(i,(b,1),nG (ch n p N) i b) ∉ (cg (ch n p N) N).2):av (pF (ch n p N) (nG (ch n p N) i b))=av (pF (ch n p N) i ++ [(b,1)]):=by
 have g:=xV n0 w i λj hj=>pr j ⋯;have hl:=g.ll;have el:=BZ (n:=n) (p:=p) hl hi;have hc:=UE n0 w F pr i ⋯;have gS:=uA (k:=(ch n p i).2.2.length) (s:=(true,1)) n0 g.r w.v (by rw[hl];exact pr i ⋯) (.inl rfl);have word:∀{k:Nat} {u:List Sp},(ch n p (i+1)).2.1[k]?=some u->pF (ch n p N) k=u:=λ{k u} e=>by
  have e2:=BX (Ds n p (i+1) (N-(i+1))).1 e;rw[show i+1+(N-(i+1))=N by lk]at e2;unfold pF;rw[Zaf,e2];rfl
 have hii:i<(ch n p i).2.1.length:=by rw[g.r.wl];exact pr i hi
 have ei:(ch n p i).2.1[i]?=some ((ch n p i).2.1.getD i []):=by rw[Zaf,Zac hii];rfl
 have wi:pF (ch n p N) i=(ch n p i).2.1.getD i []:=word (BX (OX n p i).1 ei);obtain⟨pw,_⟩:=g.r.wd i _ ei;have tp:∀s:Sp,s=(true,1)\/s=(false,1)->av (gW ((ch n p i).2.1.getD i [] ++ [s])).reverse=av ((ch n p i).2.1.getD i [] ++ [s]):=λs hs=>Ki λa ha=>by
  rcases Zax.mp ha with h|h
  exact Pl.pr pw a (ZaM.mpr h);rw[Zar.mp h];rcases hs with rfl|rfl<;>exact⟨λ_=>by decide,by decide⟩
 have up:∀{t:jR},t∈(cg (ch n p N) (i+1)).2->t∈(cg (ch n p N) N).2:=λ{t} ht=>by
  have:=UH (ch n p N) ht (N-(i+1))
  rwa [show i+1+(N-(i+1))=N by lk]at this
 rw[wi];cases b with
 |true =>
  have et:nG (ch n p N) i true=(bW n (ch n p i)).2.2:=by show(iI (ch n p N) i).1=_;rw[el]
  rcases Gp (n:=n) (fs:=(ch n p i).1) (k:=(ch n p i).2.2.length) (s:=(true,1)) g.r.wl with⟨a1,a2,a3⟩|⟨a1,a2⟩
  have a1:(bW n (ch n p i)).2.2=(ch n p i).1.length:=a1;have e3:(ch n p (i+1)).2.1[(ch n p i).1.length]?=some (gW ((ch n p i).2.1.getD (ch n p i).2.2.length [] ++ [(true,1)])).reverse:=BX (K7 (n:=n) (bW n (ch n p i)).1 (bW n (ch n p i)).2.1 (ch n p i).2.2.length (false,1)) a3;rw[hl]at e3;rw[et,a1,word e3];exact tp _ (.inl rfl);refine absurd (up ?_) h;refine OY ?_;unfold j9;have a1:(bW n (ch n p i)).2.2<(ch n p i).1.length:=a1;rw[hc,if_neg (by show ¬(iI (ch n p N) i).1=_;rw[el];show ¬(bW n (ch n p i)).2.2=_;lk)];exact ZaJ _ (by simp[nG])
 |false =>
  have et:nG (ch n p N) i false=(dI n (ch n p i)).2.2:=by show(iI (ch n p N) i).2=_;rw[el]
  have hS:(j9 (cg (ch n p N) i) (i,(true,1),(iI (ch n p N) i).1)).1=(bW n (ch n p i)).1.length:=by
   unfold j9;dsimp only;rw[hc,el];dsimp only;rcases Gp (n:=n) (fs:=(ch n p i).1) (k:=(ch n p i).2.2.length) (s:=(true,1)) g.r.wl with⟨a1,a2,_⟩|⟨a1,a2⟩
   have a1:(bW n (ch n p i)).2.2=(ch n p i).1.length:=a1;rw[if_pos a1];exact a2.symm;have a1:(bW n (ch n p i)).2.2<(ch n p i).1.length:=a1;rw[if_neg ⋯];exact a2.symm
  have ej:((bW n (ch n p i)).2.1).getD i []=(ch n p i).2.1.getD i []:=by
   have:=BX (K7 (n:=n) (ch n p i).1 (ch n p i).2.1 (ch n p i).2.2.length (true,1)) ei;show(aT n _ _ _ _).2.1.getD i []=_;rw[Zaf,this];rfl
  rcases Gp (n:=n) (fs:=(bW n (ch n p i)).1) (k:=(ch n p i).2.2.length) (s:=(false,1)) gS.1.wl with⟨a1,a2,a3⟩|⟨a1,a2⟩
  have a1:(dI n (ch n p i)).2.2=(bW n (ch n p i)).1.length:=a1;have e3:(ch n p (i+1)).2.1[(bW n (ch n p i)).1.length]?=some (gW ((bW n (ch n p i)).2.1.getD (ch n p i).2.2.length [] ++ [(false,1)])).reverse:=a3;rw[hl,ej]at e3;rw[et,a1,word e3];exact tp _ (.inr rfl);refine absurd (up ?_) h;have a1:(dI n (ch n p i)).2.2<(bW n (ch n p i)).1.length:=a1;show _∈(j9 (j9 (cg (ch n p N) i) (i,(true,1),(iI (ch n p N) i).1)) (i,(false,1),(iI (ch n p N) i).2)).2;generalize j9 (cg (ch n p N) i) (i,(true,1),(iI (ch n p N) i).1)=x at hS;unfold j9;rw[hS,if_neg (by show ¬(iI (ch n p N) i).2=_;rw[el];show ¬(dI n (ch n p i)).2.2=_;lk)];exact ZaJ _ (by simp[nG])
end
def K8(u v:List Sp):cst (u ++ v)=cst u+cst v:=by unfold cst;rw[Zap,List.sum_append]
abbrev t6(s:Sp):Sp:=(s.1,if 0<s.2 then 1 else -1)
abbrev oO(w:List Sp):List Sp:=(w.map λs=>List.replicate s.2.natAbs (t6 s)).flatten
def UI(w:List Sp)(s:Sp):oO (w ++ [s])=oO w ++ List.replicate s.2.natAbs (t6 s):=by unfold oO;rw[Zap,List.flatten_append];simp
def zt(e:Int):∀m:Nat,av (List.replicate m ((true,e):Sp))=⟨1,m*e,0,1⟩
 |0=>by apply T4.ext'<;>simp[av,oh,T4.one]
 |m+1=>by
  rw[List.replicate_succ',uq,zt e m];apply T4.ext'<;>simp[T4.mul,fJ,Int.add_mul]
def zu:∀m:Nat,av (List.replicate m ((false,1):Sp))=qp m
 |0=>rfl
 |m+1=>by
  rw[List.replicate_succ',uq,zu m];show(qp 1).mul (qp m)=T4.qt.mul (qp m);rw[show qp 1=T4.qt from T4.mul_one _]
def B0(h:bQ s):av (List.replicate s.2.natAbs (t6 s))=fJ s:=by
 obtain⟨b,k⟩:=s;have hk:k≠0:=h.2;cases b with
 |true =>
  unfold t6;rw[zt];apply T4.ext'<;>simp[fJ];split<;>lk
 |false =>
  have h1:=h.1 rfl;simp only at h1;have e:t6 (false,k)=(false,1):=by unfold t6;rw[if_pos (by show 0<k;lk)]
  rw[e,zu];show qp k.natAbs=qp k.toNat
  congr 1
  lk
def xdt(hw:∀s∈w,bQ s):av (oO w)=av w:=by
 induction w with
 |nil=>rfl
 |cons s w ih =>
  have e:oO (s :: w)=List.replicate s.2.natAbs (t6 s) ++ oO w:=by unfold oO;simp
  rw[e,rF,ih λt ht=>hw t (Zak _ ht),B0 (hw s Zah),NS]
abbrev Gq(s:Sp):Prop:=s.2=1\/(s.1=true/\s.2=-1)
def UJ(hw:∀s∈w,bQ s):∀s∈oO w,Gq s:=λs hs=>by
 unfold oO at hs;obtain⟨l,hl,hs⟩:=List.mem_flatten.mp hs;obtain⟨x,hx,rfl⟩:=Zaw.mp hl;rw[(List.mem_replicate.mp hs).2];have h:=hw x hx;unfold t6 Gq;dsimp only;by_cases h0:0<x.2;rw[if_pos h0];exact .inl rfl;rw[if_neg h0];refine .inr ⟨?_,rfl⟩;cases hb:x.1 with
 |true=>rfl
 |false=>have:=h.1 hb;lk
def O0(w:List Sp):(oO w).length=cst w:=by
 unfold oO cst;rw[List.length_flatten,ZaF]
 congr 1
 refine ZaQ λs _=>?_;show(List.replicate _ _).length=_;rw[Zbg]
abbrev uC(C:CS)(t:jR):T4:=av (uQ C t)
abbrev vZ(C:CS)(P:List jR)(q:Nat×Int):T4:=if q.2<0 then(uC C (P.getD q.1 (0,(true,1),0))).og else uC C (P.getD q.1 (0,(true,1),0))
abbrev uc(C:CS)(P:List jR)(l:List (Nat×Int)):T4:=l.foldl (λT q=>(vZ C P q).mul T) T4.one
def Gr(C:CS)(P:List jR)(l:List (Nat×Int))(q:Nat×Int):uc C P (l ++ [q])=(vZ C P q).mul (uc C P l):=by unfold uc;rw[Za5];rfl
abbrev p6(C:CS)(i:Nat):T4:=av (pF C i)
section
variable {n N:Nat}{p:aK}{C:CS}
def Gs(F:Full n p C N)(hi:i<N):∀s∈pF C i,bQ s:=λs hs=>((Gk F hi).1 s hs).1
def UK(F:Full n p C N)(hi:i<N):(p6 C i).mul (p6 C i).og=T4.one/\(p6 C i).og.mul (p6 C i)=T4.one:=C7 (yR (Gs F hi))
def UL(F:Full n p C N)(hi:i<N)(hj:nG C i b<N):uC C (i,(b,1),nG C i b)=(p6 C (nG C i b)).og.mul ((fJ (b,1)).mul (p6 C i)):=by show av (pF C i ++ [(b,1)] ++ dJ (pF C (nG C i b)))=_;rw[rF,uq,AU (Gs F hj)];rfl
def Gu(F:Full n p C N)(hi:i<N)(b:Bool):nG C i b<N:=by unfold nG;cases b;exact(Gj F hi).2;exact(Gj F hi).1
def B1(F:Full n p C N)(hi:i<N)(b:Bool)(X:T4):(p6 C (nG C i b)).mul ((uC C (i,(b,1),nG C i b)).mul X)=(fJ (b,1)).mul ((p6 C i).mul X):=by have hj:=Gu F hi b;rw[UL F hi hj,T4.assoc,<- T4.assoc,(UK F hj).1,T4.one_mul,T4.assoc]
def Xdt(x:T4):x.og.og=x:=by apply T4.ext'<;>simp[T4.og]
def B2(F:Full n p C N)(hi:i<N)(b:Bool)(X:T4):(p6 C i).mul ((uC C (i,(b,1),nG C i b)).og.mul X)=(fJ (b,1)).og.mul ((p6 C (nG C i b)).mul X):=by have hj:=Gu F hi b;rw[UL F hi hj,T4.qB,T4.qB,Xdt,T4.assoc,T4.assoc,<- T4.assoc (p6 C i),(UK F hi).1,T4.one_mul]
end
abbrev wb:=Nat->Bool->Option Nat
abbrev ud(C:CS)(nm:wb)(bk:Nat->Nat)(x:Nat×List (Nat×Int))(s:Sp):Nat×List (Nat×Int) :=
 if s.2=-1 then(bk x.1,match nm (bk x.1) s.1 with|some m=>x.2 ++ [(m,-1)]|none=>x.2)
 else(nG C x.1 s.1,match nm x.1 s.1 with|some m=>x.2 ++ [(m,1)]|none=>x.2)
structure Gv(C:CS)(N:Nat)(nm:wb):Prop where
 yes:∀i b m,nm i b=some m->∃t,(cg C N).2[m]?=some t/\t.1=i/\t.2.1.1=b
 no:∀i b,nm i b=none->∀t∈(cg C N).2,¬(t.1=i/\t.2.1.1=b)
def B3(n0:0<n)(w:Wh n p)(F:Full n p (ch n p N) N)(pr:∀j,j<N->j<(ch n p j).1.length)(K:Gv (ch n p N) N nm)(hb:∀i,i<N->bk i<N/\nG (ch n p N) (bk i) true=i)(hx:x.1<N)(hs:Gq s)(hq:∀q∈x.2,q.1<(cg (ch n p N) N).2.length/\(q.2=1\/q.2=-1))(e:(p6 (ch n p N) x.1).mul (uc (ch n p N) (cg (ch n p N) N).2 x.2)=av u):
  (ud (ch n p N) nm bk x s).1<N/\(∀q∈(ud (ch n p N) nm bk x s).2,q.1<(cg (ch n p N) N).2.length/\(q.2=1\/q.2=-1))/\(p6 (ch n p N) (ud (ch n p N) nm bk x s).1).mul (uc (ch n p N) (cg (ch n p N) N).2 (ud (ch n p N) nm bk x s).2)=av (u ++ [s]):=by
 have K9:∀{i m:Nat} {b:Bool},nm i b=some m->m<(cg (ch n p N) N).2.length/\(cg (ch n p N) N).2.getD m (0,(true,1),0)=(i,(b,1),nG (ch n p N) i b):=λ{i m b} h=>by
  obtain⟨t,h1,rfl,rfl⟩:=K.yes _ _ _ h;refine⟨(Zab.mp h1).1,?_⟩;rw[Zaf,h1];obtain⟨_,h3,h4⟩:=OZ (ch n p N) N N (Zad _) t (Zai h1);obtain⟨i,⟨b,k⟩,r⟩:=t;simp only at h3 h4 ⊢;rw[h3,h4];rfl
 have UM:∀{i:Nat} {b:Bool},i<N->nm i b=none->p6 (ch n p N) (nG (ch n p N) i b)=(fJ (b,1)).mul (p6 (ch n p N) i):=λ{i b} hi h=>by
  have:=ycZ n0 w F pr hi b λz=>K.no i b h _ z ⟨rfl,rfl⟩;unfold p6;rw[this,uq]
 rw[uq,<- e];unfold ud;by_cases h1:s.2=-1;obtain⟨b,k⟩:=s;simp only at h1;subst h1;obtain rfl:b=true:=by
  rcases hs with h|⟨h,_⟩
  exact absurd (show(-1:Int)=1 from h) ∅;exact h
 rw[if_pos rfl];obtain⟨b1,b2⟩:=hb x.1 hx;have eS:(fJ ((true,1):Sp)).og=fJ (true,-1):=by apply T4.ext'<;>simp[T4.og,fJ]
 refine⟨b1,?_,?_⟩;dsimp only;cases hn:nm (bk x.1) true with
 |none=>exact hq
 |some m =>
  intro q hq';rcases Zax.mp hq' with h|h
  exact hq q h;rw[Zar.mp h];exact⟨(K9 hn).1,.inr rfl⟩
 dsimp only;cases hn:nm (bk x.1) true with
 |none =>
  have:=UM b1 hn;rw[b2]at this;rw[<- eS,this,<- T4.assoc,<- T4.assoc];rw[show(fJ ((true,1):Sp)).og.mul (fJ (true,1))=T4.one by apply T4.ext'<;>simp[T4.mul,T4.og,fJ,T4.one],T4.one_mul]
 |some m =>
  dsimp only;rw[Gr,<- eS];have:=B2 F b1 true (uc (ch n p N) (cg (ch n p N) N).2 x.2);rw[b2]at this;unfold vZ;rw[if_pos (show(-1:Int)<0 by decide),(K9 hn).2,b2];exact this
 have h2:s.2=1:=by
  rcases hs with h|⟨_,h⟩
  exact h;exact absurd h h1
 obtain⟨b,k⟩:=s;simp only at h2 h1;subst h2;rw[if_neg h1];refine⟨Gu F hx b,?_,?_⟩;dsimp only;cases hn:nm x.1 b with
 |none=>exact hq
 |some m =>
  intro q hq';rcases Zax.mp hq' with h|h
  exact hq q h;rw[Zar.mp h];exact⟨(K9 hn).1,.inl rfl⟩
 dsimp only;cases hn:nm x.1 b with
 |none=>rw[UM hx hn,T4.assoc]
 |some m =>
  dsimp only;rw[Gr];unfold vZ;rw[if_neg (show ¬(1:Int)<0 by decide),(K9 hn).2];exact B1 F hx b _
section
variable {n N:Nat}{p:aK}{C:CS}
def O1(n0:0<n)(w:Wh n p)(hu:∀s∈u,bQ s)(hv:∀s∈v,bQ s)(e:av u=av v):aY n (eo p u)=aY n (eo p v):=uL n0 (w.ld n0 (w:=u)).v (Se hu hv e w.v)
def O2(n0:0<n)(w:Wh n p)(F:Full n p C N)(hi:i<N):∃q,C.1[i]?=some q/\aY n (eo p (pF C i))=q:=by
 have hl:i<C.2.1.length:=by rw[F.r.wl,F.fl];exact hi
 have e:C.2.1[i]?=some (pF C i):=by unfold pF;rw[Zaf,Zac hl];rfl
 obtain⟨_,_,_,q,hq,a⟩:=F.r.wd i _ e;exact⟨q,hq,(uL n0 (w.ld n0 (w:=pF C i)).v a).trans (F.r.own q (Zai hq)).2⟩
def O3(n0:0<n)(w:Wh n p)(h:aY n (eo p u)=aY n p):aY n (eo p (u ++ v))=aY n (eo p v):=by rw[AY,<- K4 n0 (w.ld n0 (w:=u)) v,h,K4 n0 w v]
def ydu(n0:0<n)(w:Wh n p)(hu:∀s∈u,bQ s)(h:aY n (eo p u)=aY n p):aY n (eo p (dJ u))=aY n p:=by
 have e:aY n (eo p (u ++ dJ u))=aY n (eo p []):=O1 n0 w (λs hs=>by
  rcases Zax.mp hs with h|h
  exact hu s h
  exact xE hu s h) (λs hs=>nomatch hs) (by rw[rF,AU hu,(C7 (yR hu)).2];rfl)
 rw[O3 n0 w h]at e;exact e
def zv(F:Full n p C N)(ht:t∈(cg C N).2):∀s∈uQ C t,bQ s:=λs hs=>((Uw F ((Dr F N (Zad _)).1 t ht)).1 s hs).1
def Zdu(n0:0<n)(w:Wh n p)(F:Full n p C N)(ht:t∈(cg C N).2):aY n (eo p (uQ C t))=aY n p:=by
 obtain⟨h1,h2,h3⟩:=OZ C N N (Zad _) t ht;obtain⟨i,⟨b,k⟩,r⟩:=t;simp only at h1 h2 h3;subst h2 h3;have hj:=Gu F h1 b;obtain⟨q,hq,eq⟩:=O2 n0 w F h1;obtain⟨q',hq',eq'⟩:=O2 n0 w F hj;have wi:=w.ld n0 (w:=pF C i);have hl:i<C.2.2.length:=by rw[F.ll];exact h1
 have el:C.2.2[i]?=some (iI C i):=by unfold iI;rw[Zaf,Zac hl];rfl
 obtain⟨q2,e1,e2,e3⟩:=F.ld i _ el;rw[hq]at e1;cases e1;have st:aY n (eo p (pF C i ++ [(b,1)]))=aY n (eo p (pF C (nG C i b))):=by
  rw[eq',AY];show aY n (stM (eo p (pF C i)) (b,1))=q';rw[<- Gn n0 wi,eq];cases b with
  |true=>have:C.1[(iI C i).1]?=some q':=hq';rw[e2]at this;exact Zao this
  |false=>have:C.1[(iI C i).2]?=some q':=hq';rw[e3]at this;exact Zao this
 have pj:=Gs F hj;show aY n (eo p (pF C i ++ [(b,1)] ++ dJ (pF C (nG C i b))))=_;rw[AY,<- K4 n0 (w.ld n0 (w:=pF C i ++ [(b,1)])),st,K4 n0 (w.ld n0 (w:=pF C (nG C i b))),<- AY]
 exact O1 n0 w (v:=[]) (λs hs=>by
  rcases Zax.mp hs with h|h
  exact pj s h
  exact xE pj s h) (λs hs=>nomatch hs) (by rw[rF,AU pj,(C7 (yR pj)).2];rfl)
def UN(n0:0<n)(w:Wh n p)(F:Full n p C N):∀(m:List (Nat×Int)),(∀q∈m,q.1<(cg C N).2.length)->∃u:List Sp,(∀s∈u,bQ s)/\av u=uc C (cg C N).2 m.reverse/\aY n (eo p u)=aY n p
 |[],_=>⟨[],(λs hs=>nomatch hs),rfl,rfl⟩
 |q :: m,h=>by
  obtain⟨u,hu,eu,hm⟩:=UN n0 w F m λx hx=>h x (Zak _ hx);have hq:=h q Zah;rw[ZbG];generalize m.reverse=l at eu ⊢;have ht:(cg C N).2.getD q.1 (0,(true,1),0)∈(cg C N).2:=by
   rw[Zaf,Zac hq];exact ZbO hq
  have hp:=zv F ht;have hh:=Zdu n0 w F ht;have app:∀{v:List Sp},(∀s∈v,bQ s)->aY n (eo p v)=aY n p->av v=vZ C (cg C N).2 q->∃u:List Sp,(∀s∈u,bQ s)/\av u=uc C (cg C N).2 (l ++ [q])/\aY n (eo p u)=aY n p:=λ{v} h1 h2 h3=>⟨u ++ v,λs hs=>(Zax.mp hs).elim (hu s) (h1 s),by rw[rF,h3,eu,Gr],by rw[O3 n0 w hm,h2]⟩;by_cases hs:q.2<0;exact app (xE hp) (ydu n0 w hp hh) (by unfold vZ;rw[if_pos hs,AU hp];rfl);exact app hp hh (by unfold vZ;rw[if_neg hs];rfl)
def Ydu(n0:0<n)(w:Wh n p)(F:Full n p C N)(h:∀q∈l,q.1<(cg C N).2.length):∃u:List Sp,(∀s∈u,bQ s)/\av u=uc C (cg C N).2 l/\aY n (eo p u)=aY n p:=by
 have:=UN n0 w F l.reverse λq hq=>h q (ZaM.mp hq)
 rwa [Zcd]at this
def ZcZ(n0:0<n)(w:Wh n p)(F:Full n p C N)(hr:r<N)(hl:∀q∈l,q.1<(cg C N).2.length)(hv:∀s∈v,bQ s)(e:(p6 C r).mul (uc C (cg C N).2 l)=av v):r=0↔aY n (eo p v)=aY n p:=by obtain⟨u,hu,eu,hm⟩:=Ydu n0 w F hl;have pr:=Gs F hr;have e1:aY n (eo p v)=aY n (eo p (u ++ pF C r)):=O1 n0 w hv (λs hs=>(Zax.mp hs).elim (hu s) (pr s)) (by rw[rF,eu,<- e];rfl);obtain⟨q,hq,eq⟩:=O2 n0 w F hr;rw[O3 n0 w hm,eq]at e1;rw[e1];constructor;rintro rfl;rw[F.r.hd]at hq;exact(Zao hq).symm;rintro rfl;obtain⟨g1,g2⟩:=Zab.mp hq;obtain⟨g3,g4⟩:=Zab.mp F.r.hd;refine Classical.byContradiction λz=>?_;exact Za3.mp F.r.nd 0 r g3 g1 ⋯ (by rw[g2,g4])
def UO(n:Nat)(p:aK):p6 (ch n p N) 0=T4.one:=by have e:=BX (Ds n p 0 N).1 (i:=0) (x:=[]) rfl;rw[ZbA]at e;unfold p6 pF;rw[Zaf,e];rfl
end
abbrev uD(P:List jR):Nat->wb
 |0=>λ_ _=>none
 |m+1=>λi b=>if(P.getD m (0,(true,1),0)).1=i/\(P.getD m (0,(true,1),0)).2.1.1=b then some m else uD P m i b
def UP(P:List jR):∀k,k<=P.length->∀i b m,uD P k i b=some m->∃t,P[m]?=some t/\t.1=i/\t.2.1.1=b
 |0,_,i,b,m,h=>by cases h
 |k+1,hk,i,b,m,h=>by
  unfold uD at h;split at h
  ·next e =>
   cases h;exact⟨_,by rw[Zaf,Zac ⋯];rfl,e⟩
  ·exact UP P k ⋯ i b m h
def UQ(P:List jR):∀k,k<=P.length->∀i b,uD P k i b=none->∀j t,j<k->P[j]?=some t->¬(t.1=i/\t.2.1.1=b)
 |0,_,i,b,_,j,t,hj,_=>absurd hj (ZaV _)
 |k+1,hk,i,b,h,j,t,hj,ht=>by
  unfold uD at h;split at h
  ·cases h
  ·next e =>
   by_cases hjk:j=k
   ·subst hjk
    rw[Zaf,ht]at e;exact e
   ·exact UQ P k ⋯ i b h j t ⋯ ht
def B4(C:CS)(N:Nat):Gv C N (uD (cg C N).2 (cg C N).2.length):=⟨λi b m h=>UP _ _ (Zad _) i b m h,λi b h t ht=>by
 obtain⟨j,hj⟩:=Zbc ht
 exact UQ _ _ (Zad _) i b h j t (Zab.mp hj).1 hj⟩
def UR:∀{w l:List Sp},Pl l->(∀s∈w,bQ s)->cst (w.foldl bE l)<=cst l+cst w
 |[],l,_,_=>by show cst l<=_;unfold cst;simp
 |s :: w,l,hl,hw=>by
  have hs:=hw s Zah;have h1:=Ux hl hs;have h2:=UR (hl.push hs) λt ht=>hw t (Zak _ ht);rw[uB];show cst (w.foldl bE (bE l s))<=_;lk
def xdu(hw:∀s∈w,bQ s):cst (gW w)<=cst w:=by have:=UR (l:=[]) trivial hw;rw[show cst []=0 from rfl,ZbA]at this;exact this
def US:∀{w:List Sp},(∀s∈w,s.2.natAbs<=B)->cst w<=w.length*B
 |[],_=>ZaK _
 |s :: w,h=>by
  rw[uB,ZaD,Nat.add_mul,Nat.one_mul];have:=US (w:=w) λt ht=>h t (Zak _ ht);have:=h s Zah;lk
def B5{U T:T4}{u:Int}{r:Nat}(hT:T.le 1000)(hd:T.a*T.d-T.b*T.c=1)(hU:U.a*U.d-U.b*U.c=1)(h0:U.c*T.a+U.d*T.c=0)(ba:U.a.natAbs<=max 1 U.c.natAbs)(bb:U.b.natAbs<=max 1 U.d.natAbs):(U.mul T).b.natAbs<=1001:=by
 obtain⟨h1,h2,h3,h4⟩:=hT;have hA:(U.mul T).a*(U.mul T).d=1:=by
  have:=Sq U T;rw[hU,hd]at this;have hc:(U.mul T).c=0:=h0;rw[hc,Int.mul_zero,Int.sub_zero]at this;exact this
 have e:=congrArg (λX=>T4.mul U.og X) (rfl:U.mul T=U.mul T);have e1:U.og.mul (U.mul T)=T:=by rw[<- T4.assoc,(C7 hU).2,T4.one_mul]
 have hc:(U.mul T).c=0:=h0;generalize U.mul T=A at hA e1 hc ⊢;have eb:U.d*A.b + -U.b*A.d=T.b:=congrArg T4.b e1;have ed:-U.c*A.b+U.a*A.d=T.d:=congrArg T4.d e1;have hd1:A.d.natAbs=1:=by
  rcases Sl hA with⟨_,h⟩|⟨_,h⟩<;>rw[h]<;>rfl
 have nb:(U.b*A.d).natAbs=U.b.natAbs:=by rw[Za2,hd1,Nat.mul_one]
 have na:(U.a*A.d).natAbs=U.a.natAbs:=by rw[Za2,hd1,Nat.mul_one]
 by_cases z:U.d=0;rw[z,Int.mul_zero,Int.zero_sub]at hU;have hc1:U.c.natAbs=1:=by
  have:(U.b*U.c).natAbs=1:=by lk
  rw[Za2]at this;exact Nat.eq_one_of_mul_eq_one_left this
 have e2:(U.c*A.b).natAbs=A.b.natAbs:=by rw[Za2,hc1,Nat.one_mul]
 rw[Zbl]at ed;lk;have hd0:1<=U.d.natAbs:=by lk
 have e2:(U.d*A.b).natAbs=U.d.natAbs*A.b.natAbs:=Za2 _ _;rw[Zbl]at eb;have h5:U.d.natAbs*A.b.natAbs<=1000+U.d.natAbs:=by lk
 refine Nat.le_of_mul_le_mul_left (Zaq h5 ?_) hd0;have:U.d.natAbs*1001=U.d.natAbs*1000+U.d.natAbs:=by lk
 rw[this];have:1000<=U.d.natAbs*1000:=by lk
 lk
def YcZ(hT:T.le 1000)(hd:T.a*T.d-T.b*T.c=1)(hg:∀s∈g,bQ s)(hb:∀s∈g,s.2.natAbs<=1001)(h0:(av g).c*T.a+(av g).d*T.c=0)(bv:Bv g u 0 r):cst (gW (pz ((av g).mul T) ++ dJ g))<=1003+g.length*1001:=by
 have h1:=B5 (u:=u) (r:=r) hT hd (yR hg) h0 bv.ba bv.bb;have h2:cst (dJ g)<=g.length*1001:=by
  have:=US (B:=1001) (w:=dJ g) λs hs=>by
   unfold dJ at hs;obtain⟨x,hx,rfl⟩:=Zaw.mp (ZaM.mp hs);exact Uv (hg x hx) (hb x hx) ∅
  rwa [show(dJ g).length=g.length by unfold dJ;rw[ZaL,Zaa]]at this
 have h3:cst (pz ((av g).mul T))<=1003:=by
  generalize (av g).mul T=A at h1;have sh:∀k:Int,cst (rX k)<=k.natAbs:=λk=>by
   unfold rX;split;exact ZaK _;rw[uB];exact Zad _
  unfold pz;split
  have:=sh A.b;lk
  rw[uB]
  have:=sh (-A.b);rw[Zbz]at this;show 2+cst (rX (-A.b))<=_;lk
 refine Zaq (xdu λs hs=>?_) ?_;rcases Zax.mp hs with h|h
 exact NW _ s h;exact xE hg s h;rw[K8];lk
def B6(hw:∀s∈w,bQ s):cst (dJ w)<=3*cst w:=by
 unfold dJ;rw[K5]
 induction w with
 |nil=>exact ZaK _
 |cons s w ih =>
  rw[Zaz,uB,uB];have:=ih λt ht=>hw t (Zak _ ht);have hs:=hw s Zah;have h1:(jN s).2.natAbs<=3*s.2.natAbs:=by
   unfold jN;cases hb:s.1 with
   |true=>simp only[if_true];rw[Zbz];lk
   |false =>
    have:=hs.1 hb;simp only[Zba,if_false];lk
  lk
end af
namespace L4
open PySem PySem.Spec L2
section
variable {K:Zfr}
def xcZ(ha:rG K ta fa)(hn:∀U st as st',fa U st=some (as,st')->as.length=m)(hm:m+qb.length=n)(hd:∀W H,cx K W H qb La):dB K (rm (bg K n F) qb E ta) (aJ (λas=>F (as ++ La)) fa):=by intro W G H U st b st' Q l rs e q;obtain⟨as,st1,e1,e⟩:=cM e;refine ha W G H U st as st1 _ l rs e1 λvs H1 W1 m1 l1 r1=>⟨?_,W1,st1,as ++ La,b,st',l1,?_,e,λv H3 W3 m3 l3 r3=>q v H3 W3 (m1.trans m3) l3 r3⟩;rw[Zae,r1.length,hn _ _ _ _ e1];exact hm;exact r1.append (hd _ _)
end
end L4
namespace L4
open PySem PySem.Spec PyProof.Rows L2
end L4
namespace L2
open PySem PySem.Spec PyProof.Rows
end L2
namespace L4
open PySem PySem.Spec L2
abbrev wc:List D->Option (List Key)
 |[]=>some []
 |d :: r=>match keyOf d,wc r with
  |some k,some l=>some (k :: l)
  |_,_=>none
abbrev lA(st:Store):D->Option (List (List Key×D))
 |.ref i=>match st[i]? with
  |some (.qY kvs)=>some kvs
  |_=>none
 |_=>none
abbrev mP(kvs:List (List Key×D))(k:List Key):Option D:=(kvs.find? λkv=>decide (kv.1=k)).map (·.2)
abbrev oN(kvs:List (List Key×D))(k:List Key)(v:D):List (List Key×D) :=
 if(kvs.any λkv=>decide (kv.1=k))=true then kvs.map (λkv=>if kv.1=k then(kv.1,v)else kv)else kvs ++ [(k,v)]
def O4(h:st[i]?=some (.qY kvs)):lA st (.ref i)=some kvs:=by simp only[lA,h]
section
variable {K:Zfr}{W:List Addr}{H:Hp}{st:Store}
def O5(r:cx K W H vs ds):∀{k:List Key},wc ds=some k->vs=k.map kV:=by
 induction ds generalizing vs with
 |nil=>intro k h;cases r;cases h;rfl
 |cons d ds ih =>
  intro k h;cases r with
  |cons r1 r2 =>
   rw[wc]at h;cases hd:keyOf d with
   |none=>rw[hd]at h;cases h
   |some y =>
    cases hk:wc ds with
    |none=>rw[hd,hk]at h;cases h
    |some l =>
     rw[hd,hk]at h;cases h;rw[vd r1 hd,ih r2 hk];rfl
def O6(l:Rl K W H st)(r:Rp K W H x a)(h:lA st a=some kvs):∃p i ws,x=.ref p/\a=.ref i/\W[i]?=some p/\st[i]?=some (.qY kvs)/\H p=some (.dT ws)/\Rt K W H ws kvs:=by
 cases r<;>first|(cases h;done)|skip
 next hi =>
  simp only[lA]at h;split at h
  ·next kvs' hs =>
   cases h;obtain⟨ws,e,r⟩:=l.obj _ _ _ hi hs;exact⟨_,_,ws,rfl,rfl,hi,hs,e,r⟩
  ·cases h
def Rt.val(r:Rt K W H ws kvs)(k:List Key):(∀d,mP kvs k=some d->∃v,jK ws k=some v/\Rp K W H v d)/\(jK ws k).isSome=(mP kvs k).isSome:=by
 induction r with
 |nil=>exact⟨λd h=>(by cases h),rfl⟩
 |@cons p q ps qs h t ih =>
  unfold mP jK at ih ⊢;rw[ZaU,ZaU];by_cases e:p.1=k;rw[decide_eq_true e,decide_eq_true (h.1 ▸ e)];exact⟨λd hd=>by cases hd;exact⟨_,rfl,h.2⟩,rfl⟩;rw[decide_eq_false e,decide_eq_false (h.1 ▸ e)];exact ih
def Rt.any(r:Rt K W H ws kvs)(k:List Key):(ws.any λkv=>decide (kv.1=k))=kvs.any λkv=>decide (kv.1=k):=by
 induction r with
 |nil=>rfl
 |cons h _ ih=>rw[Za1,Za1,ih,h.1]
def Rt.app(r:Rt K W H ws kvs)(r':Rt K W H xM kvs'):Rt K W H (ws ++ xM) (kvs ++ kvs'):=by
 induction r with
 |nil=>exact r'
 |cons h _ ih=>exact .cons h ih
def Rt.put(r:Rt K W H ws kvs)(k:List Key)(rv:Rp K W H v d):Rt K W H (putK ws k v) (oN kvs k d):=by
 have hany:=r.any k;have hmap:Rt K W H (ws.map λkv=>if kv.1=k then(kv.1,v)else kv) (kvs.map λkv=>if kv.1=k then(kv.1,d)else kv):=by
  clear hany
  induction r with
  |nil=>exact .nil
  |@cons p q ps qs h _ ih =>
   refine .cons ?_ ih;dsimp only;by_cases e:p.1=k;rw[if_pos e,if_pos (h.1 ▸ e)];exact⟨h.1,rv⟩;rw[if_neg e,if_neg (h.1 ▸ e)];exact h
 unfold putK oN;rw[hany];split;exact hmap;exact r.app (.cons ⟨rfl,rv⟩ .nil)
def Rt.length{ws:List (List Key×V)}{kvs:List (List Key×D)}(r:Rt K W H ws kvs):ws.length=kvs.length:=by
 induction r with
 |nil=>rfl
 |cons _ _ ih=>rw[ZaD,ZaD,ih]
end
section
variable {K:Zfr}
abbrev wg:ai->Dm D:=λ_ st=>some (.ref st.length,st ++ [.qY []])
def UT:dB K vh wg:=by intro W G H U st b st' Q l rs e q;cases e;exactλp hp=>q _ _ _ (Mn.new hp) (l.new hp ⟨[],rf,.nil⟩) (.ref (newR l))
abbrev pH(fd:ai->Dm D)(fa:ai->Dm (List D)):ai->Dm D:=λU st=>bnd (fd U st) λx st1=>bnd (fa U st1) λas st2=>match lA st2 x,wc as with
 |some kvs,some k=>if lim as.length=true then(mP kvs k).map λv=>(v,st2)else none
 |_,_=>none
def UU(hd:dB K td fd)(ha:rG K ta fa):dB K (ve td (u7 ta)) (pH fd fa):=by
 intro W G H U st b st' Q l rs e q;obtain⟨x,st1,e1,e⟩:=cM e;obtain⟨as,st2,e2,e⟩:=cM e;refine hd W G H U st x st1 _ l rs e1 λvx H1 W1 m1 l1 r1=>ha W1 G H1 U st1 as st2 _ l1 (rs.mn m1) e2 λvs H2 W2 m2 l2 r2=>?_;split at e
 ·next kvs k hx hk =>
  split at e
  ·next hl =>
   obtain⟨v,hv,ev⟩:=Zay.mp e;cases ev;obtain⟨p,i,ws,rfl,rfl,hi,hs,hp,rk⟩:=O6 l2 (r1.mn m2) hx;obtain⟨v',hv',rv⟩:=(rk.val k).1 _ hv;refine⟨by rw[r2.length];exact xG hl,λc hc=>?_⟩;have ne:p≠c:=λz=>by rw[z,hc]at hp;cases hp
   have m3:Mn K W2 H2 W2 (upd H2 c (.tup vs)):=Mn.same (gi.up hc);exact⟨p,v',rfl,by rw[<- hv'];exact mM.t (by rw[jI ne];exact hp) (by rw[rf,O5 r2 hk]),q v' _ W2 ((m1.trans m2).trans m3) (l2.same (gi.up hc)) (rv.mn m3)⟩
  ·cases e
 ·cases e
abbrev sM(fa:ai->Dm (List D))(j:Nat):ai->Dm D:=λU st=>bnd (fa U st) λas st1=>bnd (ag j U st1) λx st2=>match lA st2 x,wc as with
 |some kvs,some k=>if lim as.length=true then some (.bl (mP kvs k).isSome,st2)else none
 |_,_=>none
def UW(ha:rG K ta fa):dB K (EH (u7 ta) (uU j)) (sM fa j):=by
 intro W G H U st b st' Q l rs e q;obtain⟨as,st1,e1,e⟩:=cM e;obtain⟨x,st2,e2,e⟩:=cM e;refine ha W G H U st as st1 _ l rs e1 λvs H1 W1 m1 l1 r1=>?_;unfold ag at e2;split at e2
 ·next d hd =>
  cases e2;obtain⟨vx,ev,rx⟩:=(rs.mn m1).2 j _ hd;split at e
  ·next kvs k hx hk =>
   split at e
   ·next hl =>
    cases e;obtain⟨p,i,ws,rfl,rfl,hi,hs,hp,rk⟩:=O6 l1 rx hx;refine⟨by rw[r1.length];exact xG hl,λc hc=>⟨_,ev,p,jK ws k,rfl,?_,?_⟩⟩
    ·have ne:p≠c:=λz=>by rw[z,hc]at hp;cases hp
     exact mM.t (by rw[jI ne];exact hp) (by rw[rf,O5 r1 hk])
    ·rw[(rk.val k).2]
     exact q _ _ W1 (m1.trans (Mn.same (gi.up hc))) (l1.same (gi.up hc)) (.bl _)
   ·cases e
  ·cases e
 ·cases e2
abbrev uf(fd:ai->Dm D)(fa:ai->Dm (List D))(fv:ai->Dm D):ai->Dm Fl:=λU st=>bnd (fv U st) λv st1=>bnd (fd U st1) λx st2=>bnd (fa U st2) λas st3=>match x,lA st3 x,wc as with
 |.ref i,some kvs,some k=>if lim as.length=true/\lim kvs.length=true then some (.nx U,st3.set i (.qY (oN kvs k v)))else none
 |_,_,_=>none
def UX(hd:dB K td fd)(ha:rG K ta fa)(hv:dB K tv fv):qE K (vf td (u7 ta) tv) (uf fd fa fv):=by
 intro W G H U st fl st' E l rs e q;obtain⟨v,st1,e1,e⟩:=cM e;obtain⟨x,st2,e2,e⟩:=cM e;obtain⟨as,st3,e3,e⟩:=cM e;refine hv W G H U st v st1 _ l rs e1 λvv H1 W1 m1 l1 r1=>hd W1 G H1 U st1 x st2 _ l1 (rs.mn m1) e2 λvx H2 W2 m2 l2 r2=>ha W2 G H2 U st2 as st3 _ l2 (rs.mn (m1.trans m2)) e3 λvs H3 W3 m3 l3 r3=>?_;obtain⟨i,rfl⟩:∃i,x=.ref i:=by
  cases x<;>first|exact⟨_,rfl⟩|(simp at e;done)|cases e
 cases hx:lA st3 (.ref i)with
 |none=>rw[hx]at e;cases e
 |some kvs =>
 cases hk:wc as with
 |none=>rw[hx,hk]at e;cases e
 |some k =>
  rw[hx,hk]at e;simp only at e;split at e
  ·next hl =>
   cases e;obtain⟨p,j,ws,rfl,ej,hi,hs,hp,rk⟩:=O6 l3 (r2.mn m3) hx;cases ej;refine⟨by rw[r3.length];exact xG hl.1,λc hc=>?_⟩;have ne:p≠c:=λz=>by rw[z,hc]at hp;cases hp
   have mc:Mn K W3 H3 W3 (upd H3 c (.tup vs)):=Mn.same (gi.up hc);have UY:upd H3 c (.tup vs) p=some (.dT ws):=by rw[jI ne];exact hp
   have lc:Rl K W3 (upd H3 c (.tup vs)) st3:=l3.same (gi.up hc);have m4:Mn K W3 (upd H3 c (.tup vs)) W3 (upd (upd H3 c (.tup vs)) p (.dT (putK ws k vv))):=Mn.oN UY;have l4:=lc.put (o':=.qY (oN kvs k v)) (ho:=.dT (putK ws k vv)) hi hs rfl rfl m4 ⟨_,rf,((rk.mn mc).put k (r1.mn ((m2.trans m3).trans mc))).mn m4⟩;have mm:=(((m1.trans m2).trans m3).trans mc).trans m4;exact⟨p,_,rfl,rA.t UY (by rw[rf,O5 r3 hk]) (by rw[rk.length];exact Kx hl.2),q G _ W3 mm l4 (rs.mn mm)⟩
  ·cases e
end
section
variable {st:Store}{U:ai}{Q:D->Store->Prop}
def Xdu:Wp (wg U st) Q↔Q (.ref st.length) (st ++ [.qY []]):=a5
def zdv(h:Wp (fd U st) λx st1=>Wp (fa U st1) λas st2=>∃kvs k v,lA st2 x=some kvs/\wc as=some k/\lim as.length=true/\mP kvs k=some v/\Q v st2):Wp (pH fd fa U st) Q:=by unfold pH;rw[c5];refine aR h λx s h=>?_;rw[c5];refine aR h λas s2 h=>?_;obtain⟨kvs,k,v,h1,h2,h3,h4,q⟩:=h;rw[h1,h2];dsimp only;rw[if_pos h3,h4];exact a5.mpr q
def B7(h:Wp (fa U st) λas st1=>Wp (ag j U st1) λx st2=>∃kvs k,lA st2 x=some kvs/\wc as=some k/\lim as.length=true/\Q (.bl (mP kvs k).isSome) st2):Wp (sM fa j U st) Q:=by unfold sM;rw[c5];refine aR h λas s h=>?_;rw[c5];refine aR h λx s2 h=>?_;obtain⟨kvs,k,h1,h2,h3,q⟩:=h;rw[h1,h2];dsimp only;rw[if_pos h3];exact a5.mpr q
def ydv(h:Wp (fv U st) λv st1=>Wp (fd U st1) λx st2=>Wp (fa U st2) λas st3=>∃i kvs k,x=.ref i/\lA st3 x=some kvs/\wc as=some k/\lim as.length=true/\lim kvs.length=true/\N U (st3.set i (.qY (oN kvs k v)))):Ws (uf fd fa fv U st) N B C R:=by unfold Ws uf;rw[c5];refine aR h λv st1 h=>?_;rw[c5];refine aR h λx st2 h=>?_;rw[c5];refine aR h λas st3 h=>?_;obtain⟨i,kvs,k,rfl,h1,h2,h3,h4,h⟩:=h;rw[h1,h2];simp only[h3,h4];exact a5.mpr h
end
def XcZ(kvs:List (List Key×D))(k k':List Key)(v:D):mP (oN kvs k v) k'=if k=k' then some v else mP kvs k':=by
 unfold oN;split
 ·next h =>
  induction kvs with
  |nil=>cases h
  |cons x r ih =>
   unfold mP at ih ⊢;rw[Zaz,ZaU,ZaU];by_cases e:x.1=k
   ·rw[if_pos e]
    by_cases e2:k=k'
    ·rw[if_pos e2]
     have:decide ((x.1,v).1=k')=true:=decide_eq_true (e.trans e2);rw[this];rfl
    ·rw[if_neg e2]
     have a:decide ((x.1,v).1=k')=false:=decide_eq_false λz=>e2 (e.symm.trans z);have b:decide (x.1=k')=false:=decide_eq_false λz=>e2 (e.symm.trans z);rw[a];by_cases hr:(r.any λkv=>decide (kv.1=k))=true
     ·have:=ih hr;rw[if_neg e2]at this;exact this
     ·have er:(r.map λkv=>if kv.1=k then(kv.1,v)else kv)=r:=by
       refine(ZaQ λy hy=>?_).trans (Zb2 r);rw[if_neg λz=>hr (Zcb.mpr ⟨y,hy,decide_eq_true z⟩)];rfl
      rw[er]
   ·rw[if_neg e]
    have hr:(r.any λkv=>decide (kv.1=k))=true:=by
     rw[Za1,decide_eq_false e,Bool.false_or]at h;exact h
    by_cases e3:x.1=k'
    ·rw[decide_eq_true e3,if_neg λz=>e (e3.trans z.symm)]
    ·rw[decide_eq_false e3]
     exact ih hr
 ·next h =>
  have no:∀y∈kvs,¬y.1=k:=λy hy z=>h (Zcb.mpr ⟨y,hy,decide_eq_true z⟩);unfold mP;rw[List.find?_append];by_cases e:k=k'
  ·subst e
   have:kvs.find? (λkv=>decide (kv.1=k))=none:=List.find?_eq_none.mpr λy hy=>by simpa using no y hy
   rw[this,if_pos rfl];show Option.map _ (Option.or none (List.find? _ [(k,v)]))=_;simp
  ·rw[if_neg e]
   have:List.find? (λkv:List Key×D=>decide (kv.1=k')) [(k,v)]=none:=by simp[e]
   rw[this,Option.or_none]
def zc0(kvs:List (List Key×D))(k:List Key)(v:D):(oN kvs k v).length<=kvs.length+1:=by unfold oN;split;rw[Zaa];lk;rw[Zae];exact Zad _
abbrev wj(neg:Bool):D->D->Dm D:=λa c st=>match a,hJ st c with
 |.int i,some (lo,hi)=>some (.bl (if neg then !decide (lo<=i/\i<hi)else decide (lo<=i/\i<hi)),st)
 |_,_=>none
section
variable {K:Zfr}
def UZ(neg:Bool):oi K (E4 neg) (wj neg):=by
 intro W H st x y a c b st' Q l rx ry e q;unfold wj at e;split at e
 ·next i lo hi h2 =>
  cases e;cases rx;obtain⟨p,rfl,s⟩:=SU l ry h2;exact⟨_,p,lo,hi,rfl,rfl,s,q _ H W .refl l (.bl _)⟩
 ·cases e
end
def B8(h:st[k]?=some (.j5 lo hi)):Wp (wj neg (.int i) (.ref k) st) Q↔Q (.bl (if neg then !decide (lo<=i/\i<hi)else decide (lo<=i/\i<hi))) st:=by
 have e:hJ st (.ref k)=some (lo,hi):=by simp only[hJ];rw[h]
 unfold wj;rw[e];exact a5
end L4
namespace My
local macro_rules|`(tactic| w_up)=>`(tactic| first|exact .inl rfl|exact .inr rfl|assumption)
local macro_rules|`(tactic| w_fin)=>`(tactic| decide +kernel)
local macro_rules|`(tactic|walk)=>`(tactic|exact ⟨rfl,rfl,rfl,by w_fin,rfl,by w_fin,by w_fin⟩)
local macro_rules|`(tactic| k_lt $h)=>`(tactic| (refine L4.bD ?_;intro _ $h;set_option simprocs false in simp only[L4.a8]))
local macro_rules|`(tactic|exists $l,*)=>`(tactic|set_option simprocs false in simp only[L4.a8,$[$l:term],*])
local macro_rules|`(tactic| w_how)=>`(tactic| set_option simprocs false in simp only[L4.a8])
open PySem L2 L4
local macro_rules|`($a<|$b)=>`(@WH _ _ _ _ _ $a $b (by rfl))
local macro_rules|`($a<|>$b)=>`(@Wu _ _ _ _ _ $a $b)
local macro_rules|`($a<*$b<*$c)=>`(@Er _ _ _ _ _ _ _ $a $b $c (λ_ _=>rfl))
local macro_rules|`(~~~$a)=>`(@Wv _ _ _ $a)
local macro_rules|`($a<*>$b<*>$c)=>`(@D5 _ _ _ _ _ _ _ _ $a $b $c)
local macro_rules|`($a&&&$b&&&$c)=>`(@Ab _ _ _ _ _ _ _ _ PassesOwn.never rfl $a $b $c (by intro _;rfl))
local macro_rules|`($a>>=$b>>=$c)=>`(@Aa (i:=$a) _ _ _ _ _ _ (ax.nd $b) rfl (by w_up) $c (by rfl) (by w_up))
def yc0:∀U st as st',ah U st=some (as,st')->as.length=0:=λ_ _ _ _ h=>SA h
def B9:∀U st as st',ae f1 ah U st=some (as,st')->as.length=1:=FE yc0
def uF:∀U st as st',ae f2 (ae f1 ah) U st=some (as,st')->as.length=2:=FE B9
def O7:∀U st as st',ae f3 (ae f2 (ae f1 ah)) U st=some (as,st')->as.length=3:=FE uF
def O8:∀U st as st',ae f4 (ae f3 (ae f2 (ae f1 ah))) U st=some (as,st')->as.length=4:=FE O7
def bH{X:Cx}{k k':Nat}{f:Addr}{fd:FuncData}{ps:List Str}{sp:Sp}{x:Str}{st:Stmt}{e:Expr}{es:List Expr}{t:TA}{p pos:Pos}(F:aD X.prog X.w X.K X.mg X.base a9 k f fd ps sp)(D:Def X.K X.mg x st ps f fd)(hr:iJ k' X.A)(hk:k<=k')(hg:Gl X x)(ha:PA X (e :: es) t)(hdb:(x == ("__debug__" : Str))=false:=by decide)(he:starEach (e :: es) X.env=(false,eval e X.env) :: starEach es X.env:=by rfl)(hpl:(backTo pos (starEach es X.env)).any (·.1)=false:=by rfl):PE X (.Call (.Name x p) (e :: es) [] pos) (rm sp [] E0 t):=Qu F (hr.mono hk) hg D.m D.F.kp D.b .nil yC ha hdb he hpl
def wZ{n:Nat}{us:List Value}(h:us.length=n+1):∃a t,us=a :: t/\t.length=n:=by cases us with|nil=>cases h|cons a t=>exact⟨a,t,rfl,Nat.succ.inj h⟩
def oE(k:∀x0,bindArgs fd ⟨[x0],[]⟩=pure [(p0,x0)])(us:List Value)(h:us.length=1):bindArgs fd ⟨us,[]⟩=pure ([p0].zip us):=by obtain⟨x0,t0,rfl,g1⟩:=wZ h;cases Za4 g1;exact k x0
def oG(k:∀x0 x1,bindArgs fd ⟨[x0,x1],[]⟩=pure [(p0,x0),(p1,x1)])(us:List Value)(h:us.length=2):bindArgs fd ⟨us,[]⟩=pure ([p0,p1].zip us):=by obtain⟨x0,t0,rfl,g1⟩:=wZ h;obtain⟨x1,t1,rfl,g2⟩:=wZ g1;cases Za4 g2;exact k x0 x1
def O9(k:∀x0 x1 x2,bindArgs fd ⟨[x0,x1,x2],[]⟩=pure [(p0,x0),(p1,x1),(p2,x2)])(us:List Value)(h:us.length=3):bindArgs fd ⟨us,[]⟩=pure ([p0,p1,p2].zip us):=by obtain⟨x0,t0,rfl,g1⟩:=wZ h;obtain⟨x1,t1,rfl,g2⟩:=wZ g1;obtain⟨x2,t2,rfl,g3⟩:=wZ g2;cases Za4 g3;exact k x0 x1 x2
def U0(k:∀x0 x1 x2 x3,bindArgs fd ⟨[x0,x1,x2,x3],[]⟩=pure [(p0,x0),(p1,x1),(p2,x2),(p3,x3)])(us:List Value)(h:us.length=4):bindArgs fd ⟨us,[]⟩=pure ([p0,p1,p2,p3].zip us):=by obtain⟨x0,t0,rfl,g1⟩:=wZ h;obtain⟨x1,t1,rfl,g2⟩:=wZ g1;obtain⟨x2,t2,rfl,g3⟩:=wZ g2;obtain⟨x3,t3,rfl,g4⟩:=wZ g3;cases Za4 g4;exact k x0 x1 x2 x3
local macro_rules|`(tactic| o_norm)=>do let f:=λs:String=>(s.splitOn " ").toArray.map λs=>Lean.mkIdent (.mkSimple s);let x:=f "lu nE iK FG N4 g9 bI iG vR tM N6 rZ zb bu cT tO N8 N5 wV y6 SF wW uM SE S2 SV SQ tL Oc KA SI Dg SY oU wX FK sG Dj Oe SO za Di Dh S3 y8 SJ SR y2 SH Sy Sz FH KD A8 tR A7 FC KH TF Ud S0 SD N9 Kw Kz Fz T9 Up NZ OC Ub Ob N7 Ui Oa Uo S1 Oh Tf FA Ti Tj Kv SG UT UX yZ SX OD Um Sx Ky OQ Tr Tq Tp UW UU Tg T8 yV N2 UZ";`(tactic| repeat' (first|with_reducible (first|(first $[|apply $x]*)|exactλ_ _ _ _ h=>SA h|apply FE)|exact g9 _|exact bI _|first|(first $[|apply $x]*)))
set_option hygiene false
local macro_rules|`($a|||$b|||$c:ident)=>`(by refine D.F.ok $a (λ_ _ _ _ h=>h.1) (λc A o s H v Q E hr h=>?_);have hu:=hr.units;refine⟨_,$b,?_⟩;exact eA (b:=$c) (by delta $c;o_norm) rfl h)
set_option hygiene true
local macro_rules|`(tactic|k_in)=>`(tactic|exact ⟨⟨rfl,by w_fin,by w_fin,by dsimp only[fI,aN,Cx.oI,Cx.wish,PyProof.Rows.envOfC,compEnvC,relabel,Env.kindOf];decide +kernel,by w_fin⟩,rfl⟩)
local macro_rules|`(#[$n])=>`(fC (.int $n))
local macro_rules|`(tactic|k_lt2 $h)=>`(tactic|(clear $h;k_lt $h))
local macro_rules|`(tactic|exists _,$h:ident,$l,*)=>`(tactic|(refine L4.bD ?_;intro _ $h;exists $l,*))
abbrev top(i:Nat):Stmt:=PySem.Challenge.pw_shearfloor_k40_written_by_makers.main.body.getD i (.Pass ⟨0,0,0,0⟩)
@[reducible]def IV:=Nat->ai->Store->Prop
@[reducible]def IN:=ai->Store->Prop
def eI(h:let q:=R;Ws (b (ds.map some ++ List.replicate (n-ds.length) none) st) (λ_ st1=>q .non st1) (λ_ _=>False) (λ_ _=>False) q):Wp (dC n b ds st) R:=Oo h
structure Txt(mg:Str->Option Value):Prop where
 zw:mg "abs" = none
 Ca:mg "bool" = none
 iN:mg "enumerate" = none
 rP:mg "int" = none
 kb:mg "isinstance" = none
 bM:mg "len" = none
 eM:mg "list" = none
 wo:mg "max" = none
 wt:mg "min" = none
 aU:mg "range" = none
 pI:mg "reversed" = none
 Gw:mg "sum" = none
 aX:mg "tuple" = none
section
variable {P:Program}{w:World}{K:Zfr}{mg:Str->Option Value}{base:Heap}{f:Addr}{fd:FuncData}
abbrev Gx:ai->Dm Fl :=
 (au (aA (ao cy (ao nC #[7901] (ag 1)) #[24697]) (hName 2))
 (au (c7 (az (ao xI (ag 1) (aJ cU (ae (ag 0) ah)))) (aA (ao bw (ag 0) (ag 1)) (hName 2)) (c7 (az (ao y4 (aJ cU (ae (ag 0) ah)) #[0])) (aA (ao cy (ao nC (ao lq (ao bw (ag 0) (ao lq (ag 1) (aJ cU (ae (ag 0) ah)))) #[2147483629]) #[31]) (ao nC #[7901] (ag 1))) (hName 2)) aO))
 (au (aA #[0] (hName 3))
 (au (c7 (az (ao N3 (ag 2) (ao vP #[10] #[18]))) (aA (ag 2) (hName 3)) aO)
 (aV (bL (ae (ag 3) (ae (ao cy (ao lq (ao vP (ao cy (ao nC (ao lq (ag 2) #[2147483629]) #[48271]) (ao nC #[40692] (ag 1))) #[5]) #[2147483629]) #[1]) ah))))))))
abbrev zx:List D->Dm D:=dC 4 Gx
abbrev Gy:Stmt:=top 54
def Dt:ax ["_law_script","_law_k","_law_cell","_law_own_here"] ["_law_script","_law_k"] (aj Gy):=by walk
abbrev Gx1:=λ(n:Str)(s:Stmt)(p:List Str)K mg=>Def K mg n s p
abbrev Gx2:=λ(p:List Str)(N n:Nat)F P w K mg base f d=>aD P w K mg base a9 N f d p (bg K n F)
abbrev D10:=Gx1 "_law_feed" Gy ["_law_script","_law_k"]
abbrev G10:=Gx2 ["_law_script","_law_k"] 1 2 zx
def xbU(D:D10 K mg f fd)(T:Txt mg):G10 P w K mg base f fd:=Dt|||((2>>=Dt>>=bp mE (bp u6 aC (pv 1)) aC)<|>(dM Ad (pv 1) (jq mL (by rfl) T.bM mN (pv 0<|aq)) (aI _)<*>(~~~(2>>=Dt>>=(kW<*pv 0<*pv 1)))<*>(~~~(dM CU (jq mL (by rfl) T.bM mN (pv 0<|aq)) aC (aI _)<*>(~~~(2>>=Dt>>=bp mE (bp u6 (bp ui (kW<*pv 0<*bp ui (pv 1) (jq mL (by rfl) T.bM mN (pv 0<|aq))) aC) aC) (bp u6 aC (pv 1))))<*>jY)))<|>(3>>=Dt>>=aC)<|>(dM Ej (pv 2) (bp Qj aC aC) (aI _)<*>(~~~(3>>=Dt>>=pv 2))<*>jY)<|>(~~~(@cI _ _ _ _ (@jG _ _ _ _ (pv 3<|bp mE (bp ui (bp Qj (bp mE (bp u6 (bp ui (pv 2) aC) aC) (bp u6 aC (pv 1))) aC) aC) aC<|aq)))))|||Gx
variable {kc:Addr}{ke:FuncData}(eN:D10 K mg kc ke)(h8:G10 P w K mg base kc ke)
abbrev Gz:ai->Dm Fl :=
 (au (c7 (az (ao y4 (ao bw (ag 0) #[0]) #[0])) (au (aA (ao lq (ao bw (ag 0) #[0]) (ag 1)) (hName 2))
 (au (aA (ao qf (ao bw (ag 0) #[0]) (ag 1)) (hSub (ag 0) #[0]))
 (aV (ag 2)))) aO)
 (au (aA (ao lq (ao nC (ao bw (ag 0) #[1]) #[48271]) #[2147483647]) (hName 3))
 (au (aA (ao cy (ao lq (ao cy (ao nC (ag 3) #[40692]) #[30103]) #[2147483399]) #[1]) (hSub (ag 0) #[1]))
 (aV (ao lq (ao qf (ao cy (ao nC (ag 3) #[2147483647]) (ao bw (ag 0) #[1])) #[8191]) (ag 1))))))
abbrev oP:List D->Dm D:=dC 4 Gz
abbrev GA:Stmt:=top 55
def Pa:ax ["_law_feed_here","_law_many","_law_digit","_law_one"] ["_law_feed_here","_law_many"] (aj GA):=by walk
abbrev D11:=Gx1 "_law_take" GA ["_law_feed_here","_law_many"]
abbrev G11:=Gx2 ["_law_feed_here","_law_many"] 1 2 oP
def XbU(D:D11 K mg f fd)(T:Txt mg):G11 P w K mg base f fd:=Pa|||((dM CU (kW<*pv 0<*aC) aC (aI _)<*>((2>>=Pa>>=bp ui (kW<*pv 0<*aC) (pv 1))<|>wH (bp MG (kW<*pv 0<*aC) (pv 1)) (CQ (pv 0) aC CW)<|>(~~~(@cI _ _ _ _ (pv 2))))<*>jY)<|>(3>>=Pa>>=bp ui (bp u6 (kW<*pv 0<*aC) aC) aC)<|>wH (bp mE (bp ui (bp mE (bp u6 (pv 3) aC) aC) aC) aC) (CQ (pv 0) aC CW)<|>(~~~(@cI _ _ _ _ (bp ui (bp MG (bp mE (bp u6 (pv 3) aC) (kW<*pv 0<*aC)) aC) (pv 1)))))|||Gz
variable {kf:Addr}{kg:FuncData}(aE:D11 K mg kf kg)(aG:G11 P w K mg base kf kg)
abbrev GB:ai->Dm Fl :=
 (au (aA (aJ c9 (ae (aJ gk (ae (ag 1) ah)) ah)) (hName 2))
 (au (aA (aS ah) (hName 3))
 (au (jr (az (ao (jP true) (ag 2) (bL ah))) (aA (ao fK (ag 3) (aS (ae (iM "list" oj (ag 2) (ae (aJ oP (ae (ag 0) (ae (aJ cU (ae (ag 2) ah)) ah))) ah)) ah))) (hName 3)))
 (aV (ag 3)))))
abbrev GD:List D->Dm D:=dC 4 GB
abbrev GF:Stmt:=top 56
def Lb:ax ["_law_feed_here","_law_n","_law_left","_law_found"] ["_law_feed_here","_law_n"] (aj GF):=by walk
abbrev D12:=Gx1 "_law_turning" GF ["_law_feed_here","_law_n"]
abbrev G12:=Gx2 ["_law_feed_here","_law_n"] 2 2 GD
include aE aG in
def Xbr(D:D12 K mg f fd)(T:Txt mg):G12 P w K mg base f fd:=Lb|||((2>>=Lb>>=eK (wI rfl) (by rfl) T.eM uj (eK EL (by rfl) T.aU vk (pv 1<|aq)<|aq))<|>(3>>=Lb>>=(@cJ _ _ _ _ _ aq))<|>yi PassesOwn.never (dM (M6 hu) (pv 2) (@jG _ _ _ _ aq) (aI _)) (~~~(3>>=Lb>>=bp vn (pv 3) (@cJ _ _ _ _ _ (oC PySem.F.plainAttrs_list PySem.F.slot_list_pop PySem.F.type_list_pop W2 (pv 2) (bH aG aE hr ∅ rfl (pv 0<|jq mL (by rfl) T.bM mN (pv 2<|aq)<|aq)<|aq)<|aq))))<|>(~~~(@cI _ _ _ _ (pv 3))))|||GB
variable {eZ:Addr}{fe:FuncData}(cE:D12 K mg eZ fe)(df:G12 P w K mg base eZ fe)
abbrev GG:ai->Dm Fl :=
 (au (aA (bL (ae #[0] ah)) (hName 1))
 (au (bY (bR (ae (ao cy #[1] (aJ cU (ae (ao ay (ag 0) #[0]) ah))) ah)) (hName 2) (bY (bT (ag 0)) (hName 3) (bY (ju (aJ qg (ae (ag 1) ah))) (hName 4) (c7 (az (ao (tP true) (ao ay (ag 3) (ag 4)) (ag 1))) (bF (iM "list" aL (ag 1) (ae (ao ay (ag 3) (ag 4)) ah))) aO))))
 (aV (ag 1))))
abbrev Cb:List D->Dm D:=dC 5 GG
abbrev GH:Stmt:=top 57
def GI:ax ["_law_floor_here","_law_found","_law_turn","_law_turning_here","_law_one"] ["_law_floor_here"] (aj GH):=by walk
abbrev D13:=Gx1 "_law_met" GH ["_law_floor_here"]
abbrev G13:=Gx2 ["_law_floor_here"] 1 1 Cb
def xb5(D:D13 K mg f fd)(T:Txt mg):G13 P w K mg base f fd:=GI|||((1>>=GI>>=(@jG _ _ _ _ (aC<|aq)))<|>(qV rfl T.aU (bp mE aC (jq mL (by rfl) T.bM mN ((bB<*pv 0<*aC)<|aq))<|aq)&&&(b7 (i:=2) GI.nd rfl (by w_up))&&&(~~~(oJ (pv 0)&&&(b7 (i:=3) GI.nd rfl (by w_up))&&&(~~~(Ec (eK MP (by rfl) T.eM uj (pv 1<|aq))&&&(b7 (i:=4) GI.nd rfl (by w_up))&&&(~~~(dM Ew (bB<*pv 3<*pv 4) (pv 1) (by with_unfolding_all rfl)<*>(~~~pO (oC PySem.F.plainAttrs_list PySem.F.slot_list_append PySem.F.type_list_append pV (pv 1) ((bB<*pv 3<*pv 4)<|aq)))<*>jY)))))))<|>(~~~(@cI _ _ _ _ (pv 1))))|||GG
variable {lV:Addr}{lW:FuncData}(gY:D13 K mg lV lW)(jS:G13 P w K mg base lV lW)
abbrev GJ:ai->Dm Fl :=
 (au (aA (aJ oP (ae (ag 0) (ae #[6] ah))) (hName 2))
 (au (vS 3 4 (ae (aJ qg (ae (aJ GD (ae (ag 0) (ae (ag 1) ah))) ah)) (ae (aJ qg (ae (aJ GD (ae (ag 0) (ae (ag 1) ah))) ah)) ah)))
 (au (c7 (az (ao (gf false) (ag 2) #[0])) (aA (ao pA (aJ c9 (ae (aJ eX (ae #[1] (ae (ag 1) ah))) ah)) (bL (ae #[0] ah))) (hName 3)) aO)
 (au (c7 (az (ao (gf false) (ag 2) #[1])) (vS 3 4 (ae (aJ c9 (ae (aJ gk (ae (ag 1) ah)) ah)) (ae (ao pA (aJ c9 (ae (aJ eX (ae #[1] (ae (ag 1) ah))) ah)) (bL (ae #[0] ah))) ah))) aO)
 (au (c7 (az (ao (gf false) (ag 2) #[2])) (au (aA (ao cy #[1] (aJ oP (ae (ag 0) (ae (ag 1) ah)))) (hName 5))
 (au (aA (ao pA (ao pA (aJ c9 (ae (aJ eX (ae #[1] (ae (ag 5) ah))) ah)) (bL (ae #[0] ah))) (aJ c9 (ae (aJ eX (ae (ag 5) (ae (ag 1) ah))) ah))) (hName 3))
 (au (aA (C8 vQ (ao pA (ao pA (ao pA (bL (ae (ag 5) ah)) (aJ c9 (ae (aJ eX (ae #[1] (ae (ag 5) ah))) ah))) (aJ c9 (ae (aJ eX (ae (ao cy (ag 5) #[1]) (ae (ag 1) ah))) ah))) (bL (ae #[0] ah))) nB (qe (ag 1))) (hName 4))
 (c7 (az (ao (gf false) (ag 5) (ag 1))) (aA (aJ c9 (ae (aJ gk (ae (ag 1) ah)) ah)) (hName 4)) aO)))) aO)
 (au (aA (aS (ae (aJ bh (ae (ag 3) ah)) (ae (aJ bh (ae (ag 4) ah)) ah))) (hName 6))
 (au (aA (bU (bR (ae (ag 1) ah)) 1 [6] (hName 0) (az (ao (tP true) (ag 0) (aJ Cb (ae (ag 1) ah)))) (ag 0)) (hName 7))
 (au (jr (az (ao (jP true) (ag 7) (bL ah))) (au (aA (ao bw (ag 7) #[0]) (hName 8))
 (au (aA (aS (ae (ao bw (ag 3) (ag 8)) (ae (ao bw (ag 3) #[0]) ah))) (fX 2 (aM (hSub (ag 3) #[0]) (aM (hSub (ag 3) (ag 8)) gq))))
 (au (aA (aS (ae (aJ bh (ae (ag 3) ah)) (ae (aJ bh (ae (ag 4) ah)) ah))) (hName 6))
 (aA (bU (bR (ae (ag 1) ah)) 1 [6] (hName 0) (az (ao (tP true) (ag 0) (aJ Cb (ae (ag 1) ah)))) (ag 0)) (hName 7))))))
 (aV (ag 6))))))))))
abbrev GK:List D->Dm D:=dC 9 GJ
abbrev GL:Stmt:=top 58
def ug:ax ["_law_feed_here","_law_n","_law_form_here","_law_right","_law_up","_law_wide","_law_found","_law_apart","_law_m"] ["_law_feed_here","_law_n"] (aj GL):=by walk
abbrev D14:=Gx1 "_law_floor" GL ["_law_feed_here","_law_n"]
abbrev G14:=Gx2 ["_law_feed_here","_law_n"] 3 2 GK
include aE aG cE df gY jS in
def ZbJ(D:D14 K mg f fd)(T:Txt mg):G14 P w K mg base f fd:=ug|||((2>>=ug>>=bH aG aE hr ∅ rfl (pv 0<|aC<|aq))<|>(Qd (i:=3) (j:=4) rfl ug.nd rfl rfl ∅ rfl rfl (eK MP (by rfl) T.eM uj (bH df cE hr ∅ rfl (pv 0<|pv 1<|aq)<|aq)<|eK MP (by rfl) T.eM uj (bH df cE hr ∅ rfl (pv 0<|pv 1<|aq)<|aq)<|aq) rfl)<|>(dM nz (pv 2) aC (aI _)<*>(~~~(3>>=ug>>=bp Ap (eK (wI rfl) (by rfl) T.eM uj (eK CZ (by rfl) T.aU vk (aC<|pv 1<|aq)<|aq)) (@jG _ _ _ _ (aC<|aq))))<*>jY)<|>(dM nz (pv 2) aC (aI _)<*>(~~~(Qd (i:=3) (j:=4) rfl ug.nd rfl rfl ∅ rfl rfl (eK (wI rfl) (by rfl) T.eM uj (eK EL (by rfl) T.aU vk (pv 1<|aq)<|aq)<|bp Ap (eK (wI rfl) (by rfl) T.eM uj (eK CZ (by rfl) T.aU vk (aC<|pv 1<|aq)<|aq)) (@jG _ _ _ _ (aC<|aq))<|aq) rfl))<*>jY)<|>(dM nz (pv 2) aC (aI _)<*>((5>>=ug>>=bp mE aC (bH aG aE hr ∅ rfl (pv 0<|pv 1<|aq)))<|>(3>>=ug>>=bp Ap (bp Ap (eK (wI rfl) (by rfl) T.eM uj (eK CZ (by rfl) T.aU vk (aC<|pv 5<|aq)<|aq)) (@jG _ _ _ _ (aC<|aq))) (eK (wI rfl) (by rfl) T.eM uj (eK CZ (by rfl) T.aU vk (pv 5<|pv 1<|aq)<|aq)))<|>(4>>=ug>>=QH WW (bp Ap (bp Ap (bp Ap (@jG _ _ _ _ (pv 5<|aq)) (eK (wI rfl) (by rfl) T.eM uj (eK CZ (by rfl) T.aU vk (aC<|pv 5<|aq)<|aq))) (eK (wI rfl) (by rfl) T.eM uj (eK CZ (by rfl) T.aU vk (bp mE (pv 5) aC<|pv 1<|aq)<|aq))) (@jG _ _ _ _ (aC<|aq))) QE (QF (pv 1)))<|>(~~~(dM nz (pv 5) (pv 1) (aI _)<*>(~~~(4>>=ug>>=eK (wI rfl) (by rfl) T.eM uj (eK EL (by rfl) T.aU vk (pv 1<|aq)<|aq)))<*>jY)))<*>jY)<|>(6>>=ug>>=(@cJ _ _ _ _ _ (eK oB (by rfl) T.aX nV (pv 3<|aq)<|eK oB (by rfl) T.aX nV (pv 4<|aq)<|aq)))<|>(Rc (i:=7) (own:=["_law_s"]) (fr:=["_law_found"]) (js:=[6]) rfl ug.nd rfl rfl (by k_in) (qV rfl T.aU (pv 1<|aq)) (λ_ _ _ _ _=>(b7 (i:=0) (show((["_law_s"]:List Str) ++ (["_law_found"]:List Str)).Nodup by w_fin) rfl (by w_up))) (λ_ _ _ _ _=>(Na (dM (Rg (K:=K) rfl) (pv 0) (bH jS gY hr ∅ rfl (pv 1<|aq)) (by with_unfolding_all rfl)))) (λ_ _ _ _ _=>(pv 0)))<|>yi PassesOwn.never (dM (M6 hu) (pv 7) (@jG _ _ _ _ aq) (aI _)) ((8>>=ug>>=(kW<*pv 7<*aC))<|>wH (@cJ _ _ _ _ _ ((kW<*pv 3<*pv 8)<|(kW<*pv 3<*aC)<|aq)) (qu (n:=2) rfl (iF (CQ (pv 3) aC CW) (iF (CQ (pv 3) (pv 8) CW) qr)))<|>(6>>=ug>>=(@cJ _ _ _ _ _ (eK oB (by rfl) T.aX nV (pv 3<|aq)<|eK oB (by rfl) T.aX nV (pv 4<|aq)<|aq)))<|>(~~~(Rc (i:=7) (own:=["_law_s"]) (fr:=["_law_found"]) (js:=[6]) rfl ug.nd rfl rfl (by k_in) (qV rfl T.aU (pv 1<|aq)) (λ_ _ _ _ _=>(b7 (i:=0) (show((["_law_s"]:List Str) ++ (["_law_found"]:List Str)).Nodup by w_fin) rfl (by w_up))) (λ_ _ _ _ _=>(Na (dM (Rg (K:=K) rfl) (pv 0) (bH jS gY hr ∅ rfl (pv 1<|aq)) (by with_unfolding_all rfl)))) (λ_ _ _ _ _=>(pv 0)))))<|>(~~~(@cI _ _ _ _ (pv 6))))|||GJ
variable {iO:Addr}{iP:FuncData}(dD:D14 K mg iO iP)(fL:G14 P w K mg base iO iP)
abbrev GN:ai->Dm Fl :=
 (au (aA (bL (ae (ag 1) ah)) (hName 2))
 (au (bY (ju (aJ c9 (ae (aJ gk (ae (aJ cU (ae (ao ay (ag 0) #[0]) ah)) ah)) ah))) (hName 3) (bY (bT (ag 0)) (hName 4) (c7 (pZ (az (ao xI (ag 3) (aJ cU (ae (ag 2) ah)))) (az (ao (tP true) (ao ay (ag 4) (ao bw (ag 2) (ag 3))) (ag 2)))) (bF (iM "list" aL (ag 2) (ae (ao ay (ag 4) (ao bw (ag 2) (ag 3))) ah))) aO)))
 (aV (aJ bh (ae (bU (bT (ag 0)) 1 [2] (hName 0) b8 (aJ bh (ae (bU (ju (ag 1)) 1 [0,1] (hName 0) b8 (iM "list" lS (ag 2) (ae (ao ay (ag 1) (ag 0)) ah))) ah))) ah)))))
abbrev Lc:List D->Dm D:=dC 5 GN
abbrev GO:Stmt:=top 63
def Ld:ax ["_law_floor_here","_law_s","_law_called","_law_one","_law_turning_here"] ["_law_floor_here","_law_s"] (aj GO):=by walk
abbrev D15:=Gx1 "_law_numbered" GO ["_law_floor_here","_law_s"]
abbrev G15:=Gx2 ["_law_floor_here","_law_s"] 1 2 Lc
def Zbk(D:D15 K mg f fd)(T:Txt mg):G15 P w K mg base f fd:=Ld|||((2>>=Ld>>=(@jG _ _ _ _ (pv 1<|aq)))<|>(Ec (eK (wI rfl) (by rfl) T.eM uj (eK EL (by rfl) T.aU vk (jq mL (by rfl) T.bM mN ((bB<*pv 0<*aC)<|aq)<|aq)<|aq))&&&(b7 (i:=3) Ld.nd rfl (by w_up))&&&(~~~(oJ (pv 0)&&&(b7 (i:=4) Ld.nd rfl (by w_up))&&&(~~~(PW.pt (D0 (dM Ad (pv 3) (jq mL (by rfl) T.bM mN (pv 2<|aq)) (aI _)) (DZ (dM Ew (bB<*pv 4<*(kW<*pv 2<*pv 3)) (pv 2) (by with_unfolding_all rfl))))<*>(~~~pO (oC PySem.F.plainAttrs_list PySem.F.slot_list_append PySem.F.type_list_append pV (pv 2) ((bB<*pv 4<*(kW<*pv 2<*pv 3))<|aq)))<*>jY)))))<|>(~~~(@cI _ _ _ _ (eK oB (by rfl) T.aX nV (rC (own:=["_law_turning_here"]) (fr:=["_law_called"]) (js:=[2]) rfl (by k_in) (oJ (pv 0)) (λ_ _ _ _ _=>(b7 (i:=0) (show((["_law_turning_here"]:List Str) ++ (["_law_called"]:List Str)).Nodup by w_fin) rfl (by w_up))) (λ_ _ _ _ _=>rV) (λ_ _ _ _ _=>(eK (XF (K:=K) rfl) (by rfl) T.aX nV (rC (own:=["_law_one"]) (fr:=["_law_turning_here","_law_called"]) (js:=[0,1]) rfl ⟨Zi ⟨rfl,by w_fin,by w_fin,by dsimp only[fI,Cx.oI,Cx.wish,PyProof.Rows.envOfC];decide +kernel,by w_fin⟩,rfl⟩ (XG (K:=K) rfl (pv 1)) (λ_ _ _ _ _=>(b7 (i:=0) (show((["_law_one"]:List Str) ++ (["_law_turning_here","_law_called"]:List Str)).Nodup by w_fin) rfl (by w_up))) (λ_ _ _ _ _=>rV) (λ_ _ _ _ _=>(Nn (K:=K) rfl PySem.F.plainAttrs_list PySem.F.slot_list_index PySem.F.type_list_index (Z0 (K:=K) rfl) (pv 2) ((wL (K:=K) rfl<*pv 1<*pv 0)<|aq)))<|aq)))<|aq)))))|||GN
variable {dO:Addr}{dP:FuncData}(cN:D15 K mg dO dP)(dQ:G15 P w K mg base dO dP)
abbrev GP:ai->Dm Fl :=
 (aV (aJ oD (ae (bU (bR (ae (aJ cU (ae (ao ay (ag 0) #[0]) ah)) ah)) 1 [0] (hName 0) b8 (aJ Lc (ae (ag 1) (ae (ag 0) ah)))) ah)))
abbrev wu:List D->Dm D:=dC 1 GP
abbrev GQ:Stmt:=top 64
def zbV:ax ["_law_floor_here"] ["_law_floor_here"] (aj GQ):=by walk
abbrev D16:=Gx1 "_law_form" GQ ["_law_floor_here"]
abbrev G16:=Gx2 ["_law_floor_here"] 2 1 wu
include cN dQ in
def ybV(D:D16 K mg f fd)(T:Txt mg):G16 P w K mg base f fd:=zbV|||(~~~(@cI _ _ _ _ (jq (RD rfl hu) (by rfl) T.wt M3 (rC (own:=["_law_s"]) (fr:=["_law_floor_here"]) (js:=[0]) rfl (by k_in) (qV rfl T.aU (jq mL (by rfl) T.bM mN ((bB<*pv 0<*aC)<|aq)<|aq)) (λ_ _ _ _ _=>(b7 (i:=0) (show((["_law_s"]:List Str) ++ (["_law_floor_here"]:List Str)).Nodup by w_fin) rfl (by w_up))) (λ_ _ _ _ _=>rV) (λ_ _ _ _ _=>(bH dQ cN hr ∅ rfl (pv 1<|pv 0<|aq)))<|aq))))|||GP
variable {kh:Addr}{ki:FuncData}(bG:D16 K mg kh ki)(bN:G16 P w K mg base kh ki)
abbrev GS:ai->Dm Fl :=
 (au (c7 (az (ao xI (ag 2) #[0])) (au (aA (aJ bh (ae (bU (bR (ae (aJ cU (ae (ag 0) ah)) ah)) 1 [0] (hName 0) b8 (iM "tuple" lr (ag 1) (ae (ag 0) ah))) ah)) (hName 0))
 (aA (ao mD #[0] (ag 2)) (hName 2))) aO)
 (au (aA (bL (ae (ag 1) ah)) (hName 3))
 (au (jr (az (ao (gf true) (ao ay (ag 0) (ao bw (ag 3) (rH kX #[1]))) (ag 1))) (bF (iM "list" aL (ag 3) (ae (ao ay (ag 0) (ao bw (ag 3) (rH kX #[1]))) ah))))
 (aV (ao bw (ag 3) (ao lq (ag 2) (aJ cU (ae (ag 3) ah))))))))
abbrev Le:List D->Dm D:=dC 4 GS
abbrev GU:Stmt:=top 60
def Lf:ax ["_law_turning_here","_law_s","_law_k","_law_ring"] ["_law_turning_here","_law_s","_law_k"] (aj GU):=by walk
abbrev D17:=Gx1 "_law_behind" GU ["_law_turning_here","_law_s","_law_k"]
abbrev G17:=Gx2 ["_law_turning_here","_law_s","_law_k"] 1 3 Le
def Xbv(D:D17 K mg f fd)(T:Txt mg):G17 P w K mg base f fd:=Lf|||((dM Ad (pv 2) aC (aI _)<*>((0>>=Lf>>=eK oB (by rfl) T.aX nV (rC (own:=["_law_one"]) (fr:=["_law_turning_here"]) (js:=[0]) rfl (by k_in) (qV rfl T.aU (jq mL (by rfl) T.bM mN (pv 0<|aq)<|aq)) (λ_ _ _ _ _=>(b7 (i:=0) (show((["_law_one"]:List Str) ++ (["_law_turning_here"]:List Str)).Nodup by w_fin) rfl (by w_up))) (λ_ _ _ _ _=>rV) (λ_ _ _ _ _=>(Nn (K:=K) rfl PySem.F.plainAttrs_tuple PySem.F.slot_tuple_index PySem.F.type_tuple_index (Ri (K:=K) rfl) (pv 1) (pv 0<|aq)))<|aq))<|>(~~~(2>>=Lf>>=bp u5 aC (pv 2))))<*>jY)<|>(3>>=Lf>>=(@jG _ _ _ _ (pv 1<|aq)))<|>yi PassesOwn.never (dM Ei (bB<*pv 0<*(kW<*pv 3<*sU sW aC)) (pv 1) (aI _)) (~~~pO (oC PySem.F.plainAttrs_list PySem.F.slot_list_append PySem.F.type_list_append pV (pv 3) ((bB<*pv 0<*(kW<*pv 3<*sU sW aC))<|aq)))<|>(~~~(@cI _ _ _ _ (kW<*pv 3<*bp ui (pv 2) (jq mL (by rfl) T.bM mN (pv 3<|aq))))))|||GS
variable {gw:Addr}{gx:FuncData}(dR:D17 K mg gw gx)(gy:G17 P w K mg base gw gx)
abbrev Cc:ai->Dm Fl :=
 (au (aA (ag 0) (fX 2 (aM (hName 2) (aM (hName 3) gq))))
 (au (c7 (az (ao (gf false) (ao ay (ag 1) #[0]) (fC (.str "s")))) (aV (aS (ae (ag 2) (ae (aJ bh (ae (bU (bR (ae (aJ cU (ae (ag 3) ah)) ah)) 1 [1,2,3] (hName 0) b8 (ao ay (ag 3) (aJ Le (ae (ag 2) (ae (ag 0) (ae (ao mD #[0] (ao ay (ag 1) #[1])) ah)))))) ah)) ah)))) aO)
 (au (bY (bR (ae (ao lq (ao ay (ag 1) #[1]) #[4]) ah)) (hName 4) (aA (aS (ae (aJ bh (ae (bU (bR (ae (aJ cU (ae (ag 3) ah)) ah)) 1 [3] (hName 0) b8 (iM "tuple" lr (ag 1) (ae (ag 0) ah))) ah)) (ae (ag 2) ah))) (fX 2 (aM (hName 2) (aM (hName 3) gq)))))
 (aV (aS (ae (ag 2) (ae (ag 3) ah)))))))
abbrev zy:List D->Dm D:=dC 5 Cc
abbrev GV:Stmt:=top 61
def Du:ax ["_law_floor_here","_law_step","_law_right","_law_up","_law_turn"] ["_law_floor_here","_law_step"] (aj GV):=by walk
abbrev D18:=Gx1 "_law_stepped" GV ["_law_floor_here","_law_step"]
abbrev G18:=Gx2 ["_law_floor_here","_law_step"] 2 2 zy
include dR gy in
def zbs(D:D18 K mg f fd)(T:Txt mg):G18 P w K mg base f fd:=Du|||(wH (pv 0) (qu (n:=2) rfl (iF (b7 (i:=2) Du.nd rfl (by w_up)) (iF (b7 (i:=3) Du.nd rfl (by w_up)) qr)))<|>(dM nz (bB<*pv 1<*aC) o9 (aI _)<*>(~~~(@cI _ _ _ _ (@cJ _ _ _ _ _ (pv 2<|eK oB (by rfl) T.aX nV (rC (own:=["_law_s"]) (fr:=["_law_step","_law_right","_law_up"]) (js:=[1,2,3]) rfl (by k_in) (qV rfl T.aU (jq mL (by rfl) T.bM mN (pv 3<|aq)<|aq)) (λ_ _ _ _ _=>(b7 (i:=0) (show((["_law_s"]:List Str) ++ (["_law_step","_law_right","_law_up"]:List Str)).Nodup by w_fin) rfl (by w_up))) (λ_ _ _ _ _=>rV) (λ_ _ _ _ _=>(wL (K:=K) rfl<*pv 3<*bH gy dR hr ∅ rfl (pv 2<|pv 0<|bp u5 aC (wL (K:=K) rfl<*pv 1<*aC)<|aq)))<|aq)<|aq))))<*>jY)<|>(qV rfl T.aU (bp ui (bB<*pv 1<*aC) aC<|aq)&&&(b7 (i:=4) Du.nd rfl (by w_up))&&&(~~~wH (@cJ _ _ _ _ _ (eK oB (by rfl) T.aX nV (rC (own:=["_law_s"]) (fr:=["_law_up"]) (js:=[3]) rfl (by k_in) (qV rfl T.aU (jq mL (by rfl) T.bM mN (pv 3<|aq)<|aq)) (λ_ _ _ _ _=>(b7 (i:=0) (show((["_law_s"]:List Str) ++ (["_law_up"]:List Str)).Nodup by w_fin) rfl (by w_up))) (λ_ _ _ _ _=>rV) (λ_ _ _ _ _=>(Nn (K:=K) rfl PySem.F.plainAttrs_tuple PySem.F.slot_tuple_index PySem.F.type_tuple_index (Ri (K:=K) rfl) (pv 1) (pv 0<|aq)))<|aq)<|pv 2<|aq)) (qu (n:=2) rfl (iF (b7 (i:=2) Du.nd rfl (by w_up)) (iF (b7 (i:=3) Du.nd rfl (by w_up)) qr)))))<|>(~~~(@cI _ _ _ _ (@cJ _ _ _ _ _ (pv 2<|pv 3<|aq)))))|||Cc
variable {ff:Addr}{fg:FuncData}(bJ:D18 K mg ff fg)(b5:G18 P w K mg base ff fg)
abbrev Lg:ai->Dm Fl :=
 (au (aA (bL ah) (hName 1))
 (au (bY (bT (ag 0)) (fX 2 (aM (hName 2) (aM (hName 3) gq))) (au (c7 (pZ (az (ao (jP true) (ag 1) (bL ah))) (az (ao (gf false) (ao ay (ao bw (ag 1) (rH kX #[1])) #[0]) (ag 2)))) (aA (ao cy (ao ay (xS "list" xT (ag 1)) #[1]) (ag 3)) (hName 3)) aO)
 (au (c7 (az (ao (gf false) (ag 2) (fC (.str "t")))) (aA (ao lq (ag 3) #[4]) (hName 3)) aO)
 (c7 (az (ao (gf true) (ag 3) #[0])) (bF (iM "list" aL (ag 1) (ae (aS (ae (ag 2) (ae (ag 3) ah))) ah))) aO))))
 (aV (aJ bh (ae (ag 1) ah)))))
abbrev GW:List D->Dm D:=dC 4 Lg
abbrev GX:Stmt:=top 67
def Dw:ax ["_law_word_here","_law_found","_law_letter","_law_k"] ["_law_word_here"] (aj GX):=by walk
abbrev D19:=Gx1 "_law_plain" GX ["_law_word_here"]
abbrev G19:=Gx2 ["_law_word_here"] 1 1 GW
def YbJ(D:D19 K mg f fd)(T:Txt mg):G19 P w K mg base f fd:=by
 refine D.F.ok Dw (λ_ _ _ _ h=>h.1) (λc A o s H v Q E hr h=>?_);have hu:=hr.units;refine⟨_,((1>>=Dw>>=(@jG _ _ _ _ aq))<|>(oJ (pv 0)&&&qu (n:=2) rfl (iF (b7 (i:=2) Dw.nd rfl (by w_up)) (iF (b7 (i:=3) Dw.nd rfl (by w_up)) qr))&&&((PW.pt (D0 (dM (M6 hu) (pv 1) (@jG _ _ _ _ aq) (aI _)) (DZ (dM nz (bB<*(kW<*pv 1<*sU sW aC)<*aC) (pv 2) (aI _))))<*>(~~~(3>>=Dw>>=bp mE (bB<*An PySem.F.plainAttrs_list PySem.F.slot_list_pop PySem.F.type_list_pop Ao (pv 1)<*aC) (pv 3)))<*>jY)<|>(dM nz (pv 2) o9 (aI _)<*>(~~~(3>>=Dw>>=bp ui (pv 3) aC))<*>jY)<|>(~~~(dM Ei (pv 3) aC (aI _)<*>(~~~pO (oC PySem.F.plainAttrs_list PySem.F.slot_list_append PySem.F.type_list_append pV (pv 1) ((@cJ _ _ _ _ _ (pv 2<|pv 3<|aq))<|aq)))<*>jY))))<|>(~~~(@cI _ _ _ _ (eK oB (by rfl) T.aX nV (pv 1<|aq))))),?_⟩
 exact eA (b:=Lg) (lu (nE (uM cT) (iG 1))
  (lu (wX (Dj (bI 0)) (A8 (tR (iG 2) (tR (iG 3) A7))) (lu (vR (FC (tM (iK (KA true) (bI 1) (uM cT))) (tM (iK y8 (iK sG (iK tO (bI 1) (Kw Kz (g9 _))) (g9 _)) (bI 2)))) (nE (iK FG (iK sG (BP BS (bI 1)) (g9 _)) (bI 3)) (iG 3)) wV)
  (lu (vR (tM (iK y8 (bI 2) (Fz _))) (nE (iK N5 (bI 3) (g9 _)) (iG 3)) wV)
  (vR (tM (iK N9 (bI 3) (g9 _))) (Di (Dg Dh (bI 1) (bu (tL (bu (bI 2) (bu (bI 3) cT))) cT))) wV))))
  (wW (rZ FH (bu (bI 1) cT))))) rfl h
variable {iQ:Addr}{iR:FuncData}(fM:D19 K mg iQ iR)(iS:G19 P w K mg base iQ iR)
abbrev GY:ai->Dm Fl :=
 (au (aA (bL (ae (aJ wu (ae (ag 0) ah)) ah)) (hName 2))
 (au (aA (bL (ae (aS ah) ah)) (hName 3))
 (au (aA (bL ah) (hName 4))
 (au (bY (bR (ae (ag 1) ah)) (hName 5) (c7 (az (ao xI (ag 5) (aJ cU (ae (ag 2) ah)))) (au (bF (iM "list" aL (ag 4) (ae (bL ah) ah)))
 (au (bY (bT (aS (ae (aS (ae (fC (.str "s")) (ae #[1] ah))) (ae (aS (ae (fC (.str "t")) (ae #[1] ah))) ah)))) (hName 6) (au (aA (aJ wu (ae (aJ zy (ae (ao bw (ag 2) (ag 5)) (ae (ag 6) ah))) ah)) (hName 7))
 (au (c7 (az (ao (rM true) (ag 7) (ag 2))) (au (bF (iM "list" aL (ag 2) (ae (ag 7) ah)))
 (bF (iM "list" aL (ag 3) (ae (aJ GW (ae (ao fK (ao bw (ag 3) (ag 5)) (aS (ae (ag 6) ah))) ah)) ah)))) aO)
 (bF (iM "list" aL (ao bw (ag 4) (ag 5)) (ae (iM "list" eY (ag 2) (ae (ag 7) ah)) ah))))))
 (c7 (az (ao y4 (aJ cU (ae (ag 2) ah)) (ag 1))) (aV (fC .non)) aO))) aO))
 (aV (aJ bh (ae (bU (bR (ae (aJ cU (ae (ag 2) ah)) ah)) 1 [2,3,4] (hName 0) b8 (aS (ae (ao bw (ag 1) (ag 0)) (ae (ao bw (ag 2) (ag 0)) (ae (ao bw (ao bw (ag 3) (ag 0)) #[0]) (ae (ao bw (ao bw (ag 3) (ag 0)) #[1]) ah)))))) ah)))))))
abbrev GZ:List D->Dm D:=dC 8 GY
abbrev G0:Stmt:=top 68
def Cd:ax ["_law_floor_here","_law_most","_law_forms","_law_words","_law_links","_law_at","_law_step","_law_fresh"] ["_law_floor_here","_law_most"] (aj G0):=by walk
abbrev D20:=Gx1 "_law_chart" G0 ["_law_floor_here","_law_most"]
abbrev G20:=Gx2 ["_law_floor_here","_law_most"] 3 2 GZ
include bG bN bJ b5 fM iS in
def xbJ(D:D20 K mg f fd)(T:Txt mg):G20 P w K mg base f fd:=Cd|||((2>>=Cd>>=(@jG _ _ _ _ (bH bN bG hr ∅ rfl (pv 0<|aq)<|aq)))<|>(3>>=Cd>>=(@jG _ _ _ _ ((@cJ _ _ _ _ _ aq)<|aq)))<|>(4>>=Cd>>=(@jG _ _ _ _ aq))<|>(qV rfl T.aU (pv 1<|aq)&&&(b7 (i:=5) Cd.nd rfl (by w_up))&&&(~~~(dM Ad (pv 5) (jq mL (by rfl) T.bM mN (pv 2<|aq)) (aI _)<*>(pO (oC PySem.F.plainAttrs_list PySem.F.slot_list_append PySem.F.type_list_append pV (pv 4) ((@jG _ _ _ _ aq)<|aq))<|>(oJ (@cJ _ _ _ _ _ ((@cJ _ _ _ _ _ (o9<|aC<|aq))<|(@cJ _ _ _ _ _ (o9<|aC<|aq))<|aq))&&&(b7 (i:=6) Cd.nd rfl (by w_up))&&&((7>>=Cd>>=bH bN bG hr ∅ rfl (bH b5 bJ hr ∅ rfl ((kW<*pv 2<*pv 5)<|pv 6<|aq)<|aq))<|>(dM (Rm hu) (pv 7) (pv 2) (by with_unfolding_all rfl)<*>(pO (oC PySem.F.plainAttrs_list PySem.F.slot_list_append PySem.F.type_list_append pV (pv 2) (pv 7<|aq))<|>(~~~pO (oC PySem.F.plainAttrs_list PySem.F.slot_list_append PySem.F.type_list_append pV (pv 3) (bH iS fM hr ∅ rfl (bp vn (kW<*pv 3<*pv 5) (@cJ _ _ _ _ _ (pv 6<|aq))<|aq)<|aq))))<*>jY)<|>(~~~pO (oC PySem.F.plainAttrs_list PySem.F.slot_list_append PySem.F.type_list_append pV (kW<*pv 4<*pv 5) (oC PySem.F.plainAttrs_list PySem.F.slot_list_index PySem.F.type_list_index (RF hu) (pv 2) (pv 7<|aq)<|aq)))))<|>(~~~(dM CU (jq mL (by rfl) T.bM mN (pv 2<|aq)) (pv 1) (aI _)<*>(~~~(@cI _ _ _ _ JP))<*>jY)))<*>jY)))<|>(~~~(@cI _ _ _ _ (eK oB (by rfl) T.aX nV (rC (own:=["_law_at"]) (fr:=["_law_forms","_law_words","_law_links"]) (js:=[2,3,4]) rfl (by k_in) (qV rfl T.aU (jq mL (by rfl) T.bM mN (pv 2<|aq)<|aq)) (λ_ _ _ _ _=>(b7 (i:=0) (show((["_law_at"]:List Str) ++ (["_law_forms","_law_words","_law_links"]:List Str)).Nodup by w_fin) rfl (by w_up))) (λ_ _ _ _ _=>rV) (λ_ _ _ _ _=>(@cJ _ _ _ _ _ ((wK (K:=K) rfl<*pv 1<*pv 0)<|(wK (K:=K) rfl<*pv 2<*pv 0)<|(wK (K:=K) rfl<*(wK (K:=K) rfl<*pv 3<*pv 0)<*aC)<|(wK (K:=K) rfl<*(wK (K:=K) rfl<*pv 3<*pv 0)<*aC)<|aq)))<|aq)))))|||GY
variable {iT:Addr}{iU:FuncData}(dE:D20 K mg iT iU)(fN:G20 P w K mg base iT iU)
abbrev G1:ai->Dm Fl :=
 (au (aA (aJ GK (ae (ag 0) (ae (ao bw (bL (ae (ao cy #[1] (aJ oP (ae (ag 0) (ae #[5] ah)))) (ae #[6] ah))) (ao qf (aJ oP (ae (ag 0) (ae #[8] ah))) #[7])) ah))) (hName 2))
 (au (aA (aJ GZ (ae (ag 2) (ae (ag 1) ah))) (hName 3))
 (au (jr (az (ao (sJ false) (ag 3) (fC .non))) (au (aA (aJ GK (ae (ag 0) (ae (ao cy #[1] (aJ oP (ae (ag 0) (ae #[3] ah)))) ah))) (hName 2))
 (aA (aJ GZ (ae (ag 2) (ae (ag 1) ah))) (hName 3))))
 (aV (aS (ae (ag 2) (ae (ag 3) ah)))))))
abbrev G2:List D->Dm D:=dC 4 G1
abbrev G3:Stmt:=top 71
def G4:ax ["_law_feed_here","_law_most","_law_floor_here","_law_chart_here"] ["_law_feed_here","_law_most"] (aj G3):=by walk
abbrev D21:=Gx1 "_law_own" G3 ["_law_feed_here","_law_most"]
abbrev G21:=Gx2 ["_law_feed_here","_law_most"] 4 2 G2
include aE aG dD fL dE fN in
def Xb5(D:D21 K mg f fd)(T:Txt mg):G21 P w K mg base f fd:=G4|||((2>>=G4>>=bH fL dD hr ∅ rfl (pv 0<|(kW<*(@jG _ _ _ _ (bp mE aC (bH aG aE hr ∅ rfl (pv 0<|aC<|aq))<|aC<|aq))<*bp MG (bH aG aE hr ∅ rfl (pv 0<|aC<|aq)) aC)<|aq))<|>(3>>=G4>>=bH fN dE hr ∅ rfl (pv 2<|pv 1<|aq))<|>yi PassesOwn.never (dM Ydr (pv 3) JP (aI _)) ((2>>=G4>>=bH fL dD hr ∅ rfl (pv 0<|bp mE aC (bH aG aE hr ∅ rfl (pv 0<|aC<|aq))<|aq))<|>(~~~(3>>=G4>>=bH fN dE hr ∅ rfl (pv 2<|pv 1<|aq))))<|>(~~~(@cI _ _ _ _ (@cJ _ _ _ _ _ (pv 2<|pv 3<|aq)))))|||G1
variable {lX:Addr}{lY:FuncData}(jT:D21 K mg lX lY)(lZ:G21 P w K mg base lX lY)
abbrev G5:ai->Dm Fl :=
 (au (bY (bT (ag 1)) (hName 2) (aA (aJ zy (ae (ag 0) (ae (ag 2) ah))) (hName 0)))
 (aV (ag 0)))
abbrev Ce:List D->Dm D:=dC 3 G5
abbrev G6:Stmt:=top 62
def Pb:ax ["_law_floor_here","_law_word_here","_law_step"] ["_law_floor_here","_law_word_here"] (aj G6):=by walk
abbrev D22:=Gx1 "_law_led" G6 ["_law_floor_here","_law_word_here"]
abbrev G22:=Gx2 ["_law_floor_here","_law_word_here"] 3 2 Ce
include bJ b5 in
def zb6(D:D22 K mg f fd)(T:Txt mg):G22 P w K mg base f fd:=Pb|||((oJ (pv 1)&&&(b7 (i:=2) Pb.nd rfl (by w_up))&&&(~~~(0>>=Pb>>=bH b5 bJ hr ∅ rfl (pv 0<|pv 2<|aq))))<|>(~~~(@cI _ _ _ _ (pv 0))))|||G5
variable {l6:Addr}{l8:FuncData}(dF:D22 K mg l6 l8)(eO:G22 P w K mg base l6 l8)
abbrev G7:ai->Dm Fl :=
 (au (aA (bL ah) (hName 1))
 (au (bY (rN (ae (ag 0) ah)) (fX 2 (aM (hName 2) (aM (hName 3) gq))) (bF (iM "list" aL (ag 1) (ae (aS (ae (ag 2) (ae (ao bw (bL (ae (ao mD #[0] (ag 3)) (ae (ao mD #[4] (ag 3)) ah))) (aJ nD (ae (ao (gf false) (ag 2) (fC (.str "t"))) ah))) ah))) ah))))
 (aV (aJ bh (ae (ag 1) ah)))))
abbrev Dx:List D->Dm D:=dC 4 G7
abbrev G8:Stmt:=top 69
def Lh:ax ["_law_word_here","_law_found","_law_letter","_law_k"] ["_law_word_here"] (aj G8):=by walk
abbrev D23:=Gx1 "_law_back" G8 ["_law_word_here"]
abbrev G23:=Gx2 ["_law_word_here"] 1 1 Dx
def ZbV(D:D23 K mg f fd)(T:Txt mg):G23 P w K mg base f fd:=Lh|||((1>>=Lh>>=(@jG _ _ _ _ aq))<|>(Ry rfl T.pI (pv 0<|aq)&&&qu (n:=2) rfl (iF (b7 (i:=2) Lh.nd rfl (by w_up)) (iF (b7 (i:=3) Lh.nd rfl (by w_up)) qr))&&&(~~~pO (oC PySem.F.plainAttrs_list PySem.F.slot_list_append PySem.F.type_list_append pV (pv 1) ((@cJ _ _ _ _ _ (pv 2<|(kW<*(@jG _ _ _ _ (bp u5 aC (pv 3)<|bp u5 aC (pv 3)<|aq))<*eK Ek (by rfl) T.rP EJ (xk nz (pv 2) o9 (aI _)<|aq))<|aq))<|aq))))<|>(~~~(@cI _ _ _ _ (eK oB (by rfl) T.aX nV (pv 1<|aq)))))|||G7
variable {kj:Addr}{kl:FuncData}(cO:D23 K mg kj kl)(dw:G23 P w K mg base kj kl)
abbrev G9:ai->Dm Fl :=
 (au (c7 (az (ao (gf false) (aJ oP (ae (ag 0) (ae #[2] ah))) #[0])) (au (aA (aJ wu (ae (aJ Ce (ae (ag 1) (ae (ag 3) ah))) ah)) (hName 4))
 (au (aA (ao fK (ag 3) (aJ Dx (ae (ao bw (bU (bT (ag 2)) 1 [4] (hName 0) (az (ao (jP false) (ao ay (ag 0) #[0]) (ag 1))) (ao ay (ag 0) #[1])) #[0]) ah))) (hName 5))
 (c7 (az (ao FF (aJ uz (ae (bU (bT (ag 5)) 2 [] (fX 2 (aM (hName 0) (aM (hName 1) gq))) b8 (aJ rJ (ae (ag 1) (ae (ao mD #[0] (ag 1)) ah)))) ah)) #[60])) (aA (ag 5) (hName 3)) aO))) aO)
 (aV (ag 3)))
abbrev Ha:List D->Dm D:=dC 6 G9
abbrev Hb:Stmt:=top 70
def Li:ax ["_law_feed_here","_law_floor_here","_law_chart_here","_law_word_here","_law_goal","_law_home_here"] ["_law_feed_here","_law_floor_here","_law_chart_here","_law_word_here"] (aj Hb):=by walk
abbrev D24:=Gx1 "_law_home" Hb ["_law_feed_here","_law_floor_here","_law_chart_here","_law_word_here"]
abbrev G24:=Gx2 ["_law_feed_here","_law_floor_here","_law_chart_here","_law_word_here"] 4 4 Ha
include aE aG bG bN dF eO cO dw in
def YbV(D:D24 K mg f fd)(T:Txt mg):G24 P w K mg base f fd:=Li|||((dM nz (bH aG aE hr ∅ rfl (pv 0<|aC<|aq)) aC (aI _)<*>((4>>=Li>>=bH bN bG hr ∅ rfl (bH eO dF hr ∅ rfl (pv 1<|pv 3<|aq)<|aq))<|>(5>>=Li>>=bp vn (pv 3) (bH dw cO hr ∅ rfl ((kW<*rC (own:=["_law_row"]) (fr:=["_law_goal"]) (js:=[4]) rfl (by k_in) (oJ (pv 2)) (λ_ _ _ _ _=>(b7 (i:=0) (show((["_law_row"]:List Str) ++ (["_law_goal"]:List Str)).Nodup by w_fin) rfl (by w_up))) (λ_ _ _ _ _=>(Na (dM (XE (K:=K) rfl hu) (wL (K:=K) rfl<*pv 0<*aC) (pv 1) (aI _)))) (λ_ _ _ _ _=>(wL (K:=K) rfl<*pv 0<*aC))<*aC)<|aq)))<|>(~~~(dM yo (jq (Yc rfl) (by rfl) T.Gw Ay (rC (own:=["_law_letter","_law_k"]) (fr:=[]) (js:=[]) rfl (by k_in) (oJ (pv 5)) (λ_ _ _ _ _=>(XX (K:=K) (n:=2) rfl rfl (iF (b7 (i:=0) (show((["_law_letter","_law_k"]:List Str) ++ ([]:List Str)).Nodup by w_fin) rfl (by w_up)) (iF (b7 (i:=1) (show((["_law_letter","_law_k"]:List Str) ++ ([]:List Str)).Nodup by w_fin) rfl (by w_up)) qr)))) (λ_ _ _ _ _=>rV) (λ_ _ _ _ _=>(jq (Qr rfl) (by rfl) T.wo M1 (pv 1<|bp u5 aC (pv 1)<|aq)))<|aq)) aC (aI _)<*>(~~~(3>>=Li>>=pv 5))<*>jY)))<*>jY)<|>(~~~(@cI _ _ _ _ (pv 3))))|||G9
variable {km:Addr}{kn:FuncData}(h9:D24 K mg km kn)(ko:G24 P w K mg base km kn)
abbrev Hc:ai->Dm Fl :=
 (au (aA (ag 0) (fX 4 (aM (hName 2) (aM (hName 3) (aM (hName 4) (aM (hName 5) gq))))))
 (au (aA (ag 1) (fX 4 (aM (hName 6) (aM (hName 7) (aM (hName 8) (aM (hName 9) gq))))))
 (aV (aS (ae (ao cy (ao cz (ag 2) (ag 6)) (ao cz (ag 3) (ag 8))) (ae (ao cy (ao cz (ag 2) (ag 7)) (ao cz (ag 3) (ag 9))) (ae (ao cy (ao cz (ag 4) (ag 6)) (ao cz (ag 5) (ag 8))) (ae (ao cy (ao cz (ag 4) (ag 7)) (ao cz (ag 5) (ag 9))) ah))))))))
abbrev Hd:List D->Dm D:=dC 10 Hc
abbrev He:Stmt:=top 65
def xX:ax ["_law_one","_law_other","_law_a","_law_b","_law_c","_law_d","_law_e","_law_f","_law_g","_law_h"] ["_law_one","_law_other"] (aj He):=by walk
abbrev D25:=Gx1 "_law_times" He ["_law_one","_law_other"]
abbrev G25:=Gx2 ["_law_one","_law_other"] 1 2 Hd
def XbJ(D:D25 K mg f fd)(T:Txt mg):G25 P w K mg base f fd:=xX|||(wH (pv 0) (qu (n:=4) rfl (iF (b7 (i:=2) xX.nd rfl (by w_up)) (iF (b7 (i:=3) xX.nd rfl (by w_up)) (iF (b7 (i:=4) xX.nd rfl (by w_up)) (iF (b7 (i:=5) xX.nd rfl (by w_up)) qr)))))<|>wH (pv 1) (qu (n:=4) rfl (iF (b7 (i:=6) xX.nd rfl (by w_up)) (iF (b7 (i:=7) xX.nd rfl (by w_up)) (iF (b7 (i:=8) xX.nd rfl (by w_up)) (iF (b7 (i:=9) xX.nd rfl (by w_up)) qr)))))<|>(~~~(@cI _ _ _ _ (@cJ _ _ _ _ _ (bp mE (bp pQ (pv 2) (pv 6)) (bp pQ (pv 3) (pv 8))<|bp mE (bp pQ (pv 2) (pv 7)) (bp pQ (pv 3) (pv 9))<|bp mE (bp pQ (pv 4) (pv 6)) (bp pQ (pv 5) (pv 8))<|bp mE (bp pQ (pv 4) (pv 7)) (bp pQ (pv 5) (pv 9))<|aq)))))|||Hc
variable {iW:Addr}{iX:FuncData}(cm:D25 K mg iW iX)(cP:G25 P w K mg base iW iX)
abbrev Hf:ai->Dm Fl :=
 (au (aA (aS (ae #[1] (ae #[0] (ae #[0] (ae #[1] ah))))) (hName 1))
 (au (bY (bT (ag 0)) (fX 2 (aM (hName 2) (aM (hName 3) gq))) (bY (bR (ae (ao bw (bL (ae #[1] (ae (ag 3) ah))) (aJ nD (ae (ao (gf false) (ag 2) (fC (.str "t"))) ah))) ah)) (hName 4) (aA (aJ Hd (ae (ao bw (bL (ae (aS (ae #[1] (ae (ag 3) (ae #[0] (ae #[1] ah))))) (ae (aS (ae #[0] (ae (rH kX #[1]) (ae #[1] (ae #[0] ah))))) ah))) (aJ nD (ae (ao (gf false) (ag 2) (fC (.str "t"))) ah))) (ae (ag 1) ah))) (hName 1))))
 (aV (ag 1))))
abbrev zz:List D->Dm D:=dC 5 Hf
abbrev Hg:Stmt:=top 66
def Dy:ax ["_law_word_here","_law_found","_law_letter","_law_k","_law_turn"] ["_law_word_here"] (aj Hg):=by walk
abbrev D26:=Gx1 "_law_table" Hg ["_law_word_here"]
abbrev G26:=Gx2 ["_law_word_here"] 2 1 zz
include cm cP in
def zbK(D:D26 K mg f fd)(T:Txt mg):G26 P w K mg base f fd:=Dy|||((1>>=Dy>>=(@cJ _ _ _ _ _ (aC<|aC<|aC<|aC<|aq)))<|>(oJ (pv 0)&&&qu (n:=2) rfl (iF (b7 (i:=2) Dy.nd rfl (by w_up)) (iF (b7 (i:=3) Dy.nd rfl (by w_up)) qr))&&&(~~~(qV rfl T.aU ((kW<*(@jG _ _ _ _ (aC<|pv 3<|aq))<*eK Ek (by rfl) T.rP EJ (xk nz (pv 2) o9 (aI _)<|aq))<|aq)&&&(b7 (i:=4) Dy.nd rfl (by w_up))&&&(~~~(1>>=Dy>>=bH cP cm hr ∅ rfl ((kW<*(@jG _ _ _ _ ((@cJ _ _ _ _ _ (aC<|pv 3<|aC<|aC<|aq))<|(@cJ _ _ _ _ _ (aC<|sU sW aC<|aC<|aC<|aq))<|aq))<*eK Ek (by rfl) T.rP EJ (xk nz (pv 2) o9 (aI _)<|aq))<|pv 1<|aq))))))<|>(~~~(@cI _ _ _ _ (pv 1))))|||Hf
variable {iY:Addr}{iZ:FuncData}(cn:D26 K mg iY iZ)(cQ:G26 P w K mg base iY iZ)
abbrev Hi:ai->Dm Fl :=
 (au (aA (bL ah) (hName 3))
 (au (bY (bR (ae (aJ oP (ae (ag 0) (ae (ao cy (ag 1) #[1]) ah))) ah)) (hName 4) (c7 (az (ao (gf false) (aJ oP (ae (ag 0) (ae #[2] ah))) #[0])) (bF (iM "list" aL (ag 3) (ae (aS (ae (fC (.str "t")) (ae (ao cy #[1] (aJ oP (ae (ag 0) (ae #[3] ah)))) ah))) ah))) (au (aA (ao cy #[1] (aJ oP (ae (ag 0) (ae (ag 2) ah)))) (hName 4))
 (bF (iM "list" aL (ag 3) (ae (aS (ae (fC (.str "s")) (ae (ao bw (bL (ae (ag 4) (ae (ao mD #[0] (ag 4)) ah))) (aJ oP (ae (ag 0) (ae #[2] ah)))) ah))) ah))))))
 (aV (aJ bh (ae (ag 3) ah)))))
abbrev Hj:List D->Dm D:=dC 5 Hi
abbrev Hk:Stmt:=top 59
def Lj:ax ["_law_feed_here","_law_most","_law_great","_law_found","_law_k"] ["_law_feed_here","_law_most","_law_great"] (aj Hk):=by walk
abbrev D27:=Gx1 "_law_word" Hk ["_law_feed_here","_law_most","_law_great"]
abbrev G27:=Gx2 ["_law_feed_here","_law_most","_law_great"] 2 3 Hj
include aE aG in
def xbV(D:D27 K mg f fd)(T:Txt mg):G27 P w K mg base f fd:=Lj|||((3>>=Lj>>=(@jG _ _ _ _ aq))<|>(qV rfl T.aU (bH aG aE hr ∅ rfl (pv 0<|bp mE (pv 1) aC<|aq)<|aq)&&&(b7 (i:=4) Lj.nd rfl (by w_up))&&&(~~~(dM nz (bH aG aE hr ∅ rfl (pv 0<|aC<|aq)) aC (aI _)<*>(~~~pO (oC PySem.F.plainAttrs_list PySem.F.slot_list_append PySem.F.type_list_append pV (pv 3) ((@cJ _ _ _ _ _ (o9<|bp mE aC (bH aG aE hr ∅ rfl (pv 0<|aC<|aq))<|aq))<|aq)))<*>((4>>=Lj>>=bp mE aC (bH aG aE hr ∅ rfl (pv 0<|pv 2<|aq)))<|>(~~~pO (oC PySem.F.plainAttrs_list PySem.F.slot_list_append PySem.F.type_list_append pV (pv 3) ((@cJ _ _ _ _ _ (o9<|(kW<*(@jG _ _ _ _ (pv 4<|bp u5 aC (pv 4)<|aq))<*bH aG aE hr ∅ rfl (pv 0<|aC<|aq))<|aq))<|aq)))))))<|>(~~~(@cI _ _ _ _ (eK oB (by rfl) T.aX nV (pv 3<|aq)))))|||Hi
variable {kq:Addr}{kr:FuncData}(ie:D27 K mg kq kr)(ku:G27 P w K mg base kq kr)
abbrev Hl:ai->Dm Fl :=
 (au (aA (ao uu (bL (ae #[0] ah)) (aJ cU (ae (ag 0) ah))) (hName 1))
 (au (bY (mS (ae (ag 0) ah)) (fX 2 (aM (hName 2) (aM (hName 3) gq))) (aA (ag 2) (hSub (ag 1) (ag 3))))
 (aV (aJ bh (ae (ag 1) ah)))))
abbrev Cf:List D->Dm D:=dC 4 Hl
abbrev Hm:Stmt:=top 6
def Lk:ax ["turning","back","number","led"] ["turning"] (aj Hm):=by walk
abbrev D28:=Gx1 "turned_back" Hm ["turning"]
abbrev G28:=Gx2 ["turning"] 1 1 Cf
def zbw(D:D28 K mg f fd)(T:Txt mg):G28 P w K mg base f fd:=Lk|||((1>>=Lk>>=bp MR (@jG _ _ _ _ (aC<|aq)) (jq mL (by rfl) T.bM mN (pv 0<|aq)))<|>(J7 rfl T.iN (pv 0<|aq)&&&qu (n:=2) rfl (iF (b7 (i:=2) Lk.nd rfl (by w_up)) (iF (b7 (i:=3) Lk.nd rfl (by w_up)) qr))&&&(~~~wH (pv 2) (CQ (pv 1) (pv 3) CW)))<|>(~~~(@cI _ _ _ _ (eK oB (by rfl) T.aX nV (pv 1<|aq)))))|||Hl
variable {gA:Addr}{gB:FuncData}(aW:D28 K mg gA gB)(aZ:G28 P w K mg base gA gB)
abbrev Hn:ai->Dm Fl :=
 (aV (aJ bh (ae (bU (bT (ag 0)) 1 [1] (hName 0) b8 (ao ay (ag 1) (ag 0))) ah)))
abbrev zA:List D->Dm D:=dC 2 Hn
abbrev Ho:Stmt:=top 5
def yb6:ax ["one","other"] ["one","other"] (aj Ho):=by walk
abbrev D29:=Gx1 "followed" Ho ["one","other"]
abbrev G29:=Gx2 ["one","other"] 1 2 zA
def Zb6(D:D29 K mg f fd)(T:Txt mg):G29 P w K mg base f fd:=yb6|||(~~~(@cI _ _ _ _ (eK oB (by rfl) T.aX nV (rC (own:=["number"]) (fr:=["other"]) (js:=[1]) rfl (by k_in) (oJ (pv 0)) (λ_ _ _ _ _=>(b7 (i:=0) (show((["number"]:List Str) ++ (["other"]:List Str)).Nodup by w_fin) rfl (by w_up))) (λ_ _ _ _ _=>rV) (λ_ _ _ _ _=>(wL (K:=K) rfl<*pv 1<*pv 0))<|aq))))|||Hn
variable {l9:Addr}{ma:FuncData}(cb:D29 K mg l9 ma)(cF:G29 P w K mg base l9 ma)
abbrev Hq:ai->Dm Fl :=
 (au (aA (aJ Cf (ae (ag 1) ah)) (hName 2))
 (au (aA (aJ zA (ae (aJ zA (ae (ag 2) (ae (ao ay (ag 0) #[0]) ah))) (ae (ag 1) ah))) (hName 3))
 (au (aA (aJ zA (ae (aJ zA (ae (ag 2) (ae (ao ay (ag 0) #[1]) ah))) (ae (ag 1) ah))) (hName 4))
 (aV (aS (ae (ag 3) (ae (ag 4) ah)))))))
abbrev Ll:List D->Dm D:=dC 5 Hq
abbrev Hr:Stmt:=top 13
def Lm:ax ["floor","p","back","right","up"] ["floor","p"] (aj Hr):=by walk
abbrev D30:=Gx1 "called_anew" Hr ["floor","p"]
abbrev G30:=Gx2 ["floor","p"] 2 2 Ll
include aW aZ cb cF in
def ybw(D:D30 K mg f fd)(T:Txt mg):G30 P w K mg base f fd:=Lm|||((2>>=Lm>>=bH aZ aW hr ∅ rfl (pv 1<|aq))<|>(3>>=Lm>>=bH cF cb hr ∅ rfl (bH cF cb hr ∅ rfl (pv 2<|(bB<*pv 0<*aC)<|aq)<|pv 1<|aq))<|>(4>>=Lm>>=bH cF cb hr ∅ rfl (bH cF cb hr ∅ rfl (pv 2<|(bB<*pv 0<*aC)<|aq)<|pv 1<|aq))<|>(~~~(@cI _ _ _ _ (@cJ _ _ _ _ _ (pv 3<|pv 4<|aq)))))|||Hq
variable {gC:Addr}{gD:FuncData}(dS:D30 K mg gC gD)(gE:G30 P w K mg base gC gD)
abbrev Hs:ai->Dm Fl :=
 (au (aA (bL (ae (ag 1) ah)) (hName 2))
 (au (aA #[0] (hName 3))
 (au (jr (az (ao xI (ag 3) (aJ cU (ae (ag 2) ah)))) (au (bY (bT (ag 0)) (hName 4) (au (aA (ao ay (ag 4) (ao bw (ag 2) (ag 3))) (hName 5))
 (c7 (az (ao (tP true) (ag 5) (ag 2))) (bF (iM "list" aL (ag 2) (ae (ag 5) ah))) aO)))
 (aA (ao cy (ag 3) #[1]) (hName 3))))
 (aV (aJ bh (ae (ag 2) ah))))))
abbrev Ln:List D->Dm D:=dC 6 Hs
abbrev Ht:Stmt:=top 11
def Dz:ax ["floor","s","squares","place","turning","reached"] ["floor","s"] (aj Ht):=by walk
abbrev D31:=Gx1 "squares_from" Ht ["floor","s"]
abbrev G31:=Gx2 ["floor","s"] 1 2 Ln
def ybs(D:D31 K mg f fd)(T:Txt mg):G31 P w K mg base f fd:=Dz|||((2>>=Dz>>=(@jG _ _ _ _ (pv 1<|aq)))<|>(3>>=Dz>>=aC)<|>yi PassesOwn.never (dM Ad (pv 3) (jq mL (by rfl) T.bM mN (pv 2<|aq)) (aI _)) ((oJ (pv 0)&&&(b7 (i:=4) Dz.nd rfl (by w_up))&&&((5>>=Dz>>=(bB<*pv 4<*(kW<*pv 2<*pv 3)))<|>(~~~(dM Ew (pv 5) (pv 2) (by with_unfolding_all rfl)<*>(~~~pO (oC PySem.F.plainAttrs_list PySem.F.slot_list_append PySem.F.type_list_append pV (pv 2) (pv 5<|aq)))<*>jY))))<|>(~~~(3>>=Dz>>=bp mE (pv 3) aC)))<|>(~~~(@cI _ _ _ _ (eK oB (by rfl) T.aX nV (pv 2<|aq)))))|||Hs
variable {fj:Addr}{fm:FuncData}(dg:D31 K mg fj fm)(fq:G31 P w K mg base fj fm)
abbrev Hu:ai->Dm Fl :=
 (aV (aJ Cf (ae (aJ Ln (ae (ag 0) (ae (ag 1) ah))) ah)))
abbrev Lo:List D->Dm D:=dC 2 Hu
abbrev Hv:Stmt:=top 14
def zbi:ax ["floor","s"] ["floor","s"] (aj Hv):=by walk
abbrev D32:=Gx1 "numbering_from" Hv ["floor","s"]
abbrev G32:=Gx2 ["floor","s"] 2 2 Lo
include aW aZ dg fq in
def ybi(D:D32 K mg f fd)(T:Txt mg):G32 P w K mg base f fd:=zbi|||(~~~(@cI _ _ _ _ (bH aZ aW hr ∅ rfl (bH fq dg hr ∅ rfl (pv 0<|pv 1<|aq)<|aq))))|||Hu
variable {dk:Addr}{dr:FuncData}(cB:D32 K mg dk dr)(du:G32 P w K mg base dk dr)
abbrev Hw:ai->Dm Fl :=
 (aV (aJ Ll (ae (ag 0) (ae (aJ Lo (ae (ag 0) (ae (ag 1) ah))) ah))))
abbrev Lp:List D->Dm D:=dC 2 Hw
abbrev Hx:Stmt:=top 15
def Ybk:ax ["floor","s"] ["floor","s"] (aj Hx):=by walk
abbrev D33:=Gx1 "numbered_from" Hx ["floor","s"]
abbrev G33:=Gx2 ["floor","s"] 3 2 Lp
include dS gE cB du in
def xbk(D:D33 K mg f fd)(T:Txt mg):G33 P w K mg base f fd:=Ybk|||(~~~(@cI _ _ _ _ (bH gE dS hr ∅ rfl (pv 0<|bH du cB hr ∅ rfl (pv 0<|pv 1<|aq)<|aq))))|||Hw
variable {dU:Addr}{dW:FuncData}(cR:D33 K mg dU dW)(dX:G33 P w K mg base dU dW)
abbrev Hy:ai->Dm Fl :=
 (aV (aJ oD (ae (bU (bR (ae (aJ cU (ae (ao ay (ag 0) #[0]) ah)) ah)) 1 [0] (hName 0) b8 (aJ Lp (ae (ag 1) (ae (ag 0) ah)))) ah)))
abbrev DA:List D->Dm D:=dC 1 Hy
abbrev Hz:Stmt:=top 16
def Zco:ax ["floor"] ["floor"] (aj Hz):=by walk
abbrev D34:=Gx1 "form_of" Hz ["floor"]
abbrev G34:=Gx2 ["floor"] 4 1 DA
include cR dX in
def Yco(D:D34 K mg f fd)(T:Txt mg):G34 P w K mg base f fd:=Zco|||(~~~(@cI _ _ _ _ (jq (RD rfl hu) (by rfl) T.wt M3 (rC (own:=["s"]) (fr:=["floor"]) (js:=[0]) rfl (by k_in) (qV rfl T.aU (jq mL (by rfl) T.bM mN ((bB<*pv 0<*aC)<|aq)<|aq)) (λ_ _ _ _ _=>(b7 (i:=0) (show((["s"]:List Str) ++ (["floor"]:List Str)).Nodup by w_fin) rfl (by w_up))) (λ_ _ _ _ _=>rV) (λ_ _ _ _ _=>(bH dX cR hr ∅ rfl (pv 1<|pv 0<|aq)))<|aq))))|||Hy
variable {nH:Addr}{nI:FuncData}(fO:D34 K mg nH nI)(ig:G34 P w K mg base nH nI)
abbrev HA:ai->Dm Fl :=
 (au (aA (bL (ae (ag 1) ah)) (hName 2))
 (au (aA (ao ay (ag 0) (ag 1)) (hName 3))
 (au (jr (az (ao (gf true) (ag 3) (ag 1))) (au (bF (iM "list" aL (ag 2) (ae (ag 3) ah)))
 (aA (ao ay (ag 0) (ag 3)) (hName 3))))
 (aV (aJ bh (ae (ag 2) ah))))))
abbrev Lq:List D->Dm D:=dC 4 HA
abbrev HB:Stmt:=top 8
def Lr:ax ["turning","first","ring","reached"] ["turning","first"] (aj HB):=by walk
abbrev D35:=Gx1 "ring_from" HB ["turning","first"]
abbrev G35:=Gx2 ["turning","first"] 1 2 Lq
def XbV(D:D35 K mg f fd)(T:Txt mg):G35 P w K mg base f fd:=Lr|||((2>>=Lr>>=(@jG _ _ _ _ (pv 1<|aq)))<|>(3>>=Lr>>=(bB<*pv 0<*pv 1))<|>yi PassesOwn.never (dM Ei (pv 3) (pv 1) (aI _)) (pO (oC PySem.F.plainAttrs_list PySem.F.slot_list_append PySem.F.type_list_append pV (pv 2) (pv 3<|aq))<|>(~~~(3>>=Lr>>=(bB<*pv 0<*pv 3))))<|>(~~~(@cI _ _ _ _ (eK oB (by rfl) T.aX nV (pv 2<|aq)))))|||HA
variable {ky:Addr}{kz:FuncData}(ik:D35 K mg ky kz)(kA:G35 P w K mg base ky kz)
abbrev HC:ai->Dm Fl :=
 (au (aA (bL ah) (hName 1))
 (au (aA vV (hName 2))
 (au (bY (bR (ae (aJ cU (ae (ag 0) ah)) ah)) (hName 3) (c7 (az (xN true (ag 3) (ag 2))) (au (aA (aJ Lq (ae (ag 0) (ae (ag 3) ah))) (hName 4))
 (au (bF (iM "list" aL (ag 1) (ae (ag 4) ah)))
 (bY (bT (ag 4)) (hName 5) (tU (ag 2) (ag 5) (fC (.bl true)))))) aO))
 (aV (aJ bh (ae (ag 1) ah))))))
abbrev Ls:List D->Dm D:=dC 6 HC
abbrev HD:Stmt:=top 9
def DB:ax ["turning","rings","seen","first","ring","number"] ["turning"] (aj HD):=by walk
abbrev D36:=Gx1 "rings_of" HD ["turning"]
abbrev G36:=Gx2 ["turning"] 2 1 Ls
include ik kA in
def Yb6(D:D36 K mg f fd)(T:Txt mg):G36 P w K mg base f fd:=by refine D.F.ok DB (λ_ _ _ _ h=>h.1) (λc A o s H v Q E hr h=>?_);have hu1:=MZ hr;refine⟨_,((1>>=DB>>=(@jG _ _ _ _ aq))<|>(2>>=DB>>=Xa)<|>(qV rfl T.aU (jq mL (by rfl) T.bM mN (pv 0<|aq)<|aq)&&&(b7 (i:=3) DB.nd rfl (by w_up))&&&(~~~(P8 (W8 hu1 (pv 3) (pv 2))<*>((4>>=DB>>=bH kA ik hr ∅ rfl (pv 0<|pv 3<|aq))<|>pO (oC PySem.F.plainAttrs_list PySem.F.slot_list_append PySem.F.type_list_append pV (pv 1) (pv 4<|aq))<|>(~~~(oJ (pv 4)&&&(b7 (i:=5) DB.nd rfl (by w_up))&&&(~~~QS hu1 (pv 2) (pv 5) zU rfl))))<*>jY)))<|>(~~~(@cI _ _ _ _ (eK oB (by rfl) T.aX nV (pv 1<|aq))))),?_⟩;exact eA (b:=HC) (by delta HC;o_norm) rfl h
variable {md:Addr}{mf:FuncData}(jU:D36 K mg md mf)(mh:G36 P w K mg base md mf)
abbrev HE:ai->Dm Fl :=
 (au (aA (ao uu (bL (ae #[0] ah)) (aJ cU (ae (ag 0) ah))) (hName 2))
 (au (bY (bT (aJ Ls (ae (ag 0) ah))) (hName 3) (bY (mS (ae (ag 3) ah)) (fX 2 (aM (hName 4) (aM (hName 5) gq))) (aA (ao ay (ag 3) (ao lq (ao cy (ag 4) (ag 1)) (aJ cU (ae (ag 3) ah)))) (hSub (ag 2) (ag 5)))))
 (aV (aJ bh (ae (ag 2) ah)))))
abbrev Lu:List D->Dm D:=dC 6 HE
abbrev HF:Stmt:=top 7
def HG:ax ["turning","k","led","ring","place","number"] ["turning","k"] (aj HF):=by walk
abbrev D37:=Gx1 "often" HF ["turning","k"]
abbrev G37:=Gx2 ["turning","k"] 3 2 Lu
include jU mh in
def Zc0(D:D37 K mg f fd)(T:Txt mg):G37 P w K mg base f fd:=HG|||((2>>=HG>>=bp MR (@jG _ _ _ _ (aC<|aq)) (jq mL (by rfl) T.bM mN (pv 0<|aq)))<|>(oJ (bH mh jU hr ∅ rfl (pv 0<|aq))&&&(b7 (i:=3) HG.nd rfl (by w_up))&&&(~~~(J7 rfl T.iN (pv 3<|aq)&&&qu (n:=2) rfl (iF (b7 (i:=4) HG.nd rfl (by w_up)) (iF (b7 (i:=5) HG.nd rfl (by w_up)) qr))&&&(~~~wH (bB<*pv 3<*bp ui (bp mE (pv 4) (pv 1)) (jq mL (by rfl) T.bM mN (pv 3<|aq))) (CQ (pv 2) (pv 5) CW)))))<|>(~~~(@cI _ _ _ _ (eK oB (by rfl) T.aX nV (pv 2<|aq)))))|||HE
variable {qI:Addr}{qJ:FuncData}(pJ:D37 K mg qI qJ)(qK:G37 P w K mg base qI qJ)
abbrev HI:ai->Dm Fl :=
 (aV (aS (ae (ao ay (ag 0) #[0]) (ae (aJ zA (ae (aJ Lu (ae (ao ay (ag 0) #[0]) (ae (rH kX (ag 1)) ah))) (ae (ao ay (ag 0) #[1]) ah))) ah))))
abbrev Lv:List D->Dm D:=dC 2 HI
abbrev HJ:Stmt:=top 38
def xco:ax ["floor","k"] ["floor","k"] (aj HJ):=by walk
abbrev D38:=Gx1 "sheared" HJ ["floor","k"]
abbrev G38:=Gx2 ["floor","k"] 4 2 Lv
include cb cF pJ qK in
def Xco(D:D38 K mg f fd)(T:Txt mg):G38 P w K mg base f fd:=xco|||(~~~(@cI _ _ _ _ (@cJ _ _ _ _ _ ((bB<*pv 0<*aC)<|bH cF cb hr ∅ rfl (bH qK pJ hr ∅ rfl ((bB<*pv 0<*aC)<|sU sW (pv 1)<|aq)<|(bB<*pv 0<*aC)<|aq)<|aq))))|||HI
variable {nJ:Addr}{nK:FuncData}(lB:D38 K mg nJ nK)(nL:G38 P w K mg base nJ nK)
abbrev HK:ai->Dm Fl :=
 (aV (aS (ae (aJ Cf (ae (ao ay (ag 0) #[1]) ah)) (ae (ao ay (ag 0) #[0]) ah))))
abbrev Lw:List D->Dm D:=dC 1 HK
abbrev HL:Stmt:=top 39
def zbW:ax ["floor"] ["floor"] (aj HL):=by walk
abbrev D39:=Gx1 "quartered" HL ["floor"]
abbrev G39:=Gx2 ["floor"] 2 1 Lw
include aW aZ in
def ybW(D:D39 K mg f fd)(T:Txt mg):G39 P w K mg base f fd:=zbW|||(~~~(@cI _ _ _ _ (@cJ _ _ _ _ _ (bH aZ aW hr ∅ rfl ((bB<*pv 0<*aC)<|aq)<|(bB<*pv 0<*aC)<|aq))))|||HK
variable {kC:Addr}{kD:FuncData}(il:D39 K mg kC kD)(kE:G39 P w K mg base kC kD)
abbrev HM:ai->Dm Fl :=
 (au (c7 (az (ao (gf false) (ao ay (ag 1) #[0]) (fC (.str "s")))) (aV (aJ Lv (ae (ag 0) (ae (ao ay (ag 1) #[1]) ah)))) aO)
 (au (aA (ag 0) (hName 2))
 (au (bY (bR (ae (ao ay (ag 1) #[1]) ah)) (hName 3) (aA (aJ Lw (ae (ag 2) ah)) (hName 2)))
 (aV (ag 2)))))
abbrev Lx:List D->Dm D:=dC 4 HM
abbrev HN:Stmt:=top 41
def Ly:ax ["floor","step","led","turn"] ["floor","step"] (aj HN):=by walk
abbrev D40:=Gx1 "led_by_step" HN ["floor","step"]
abbrev G40:=Gx2 ["floor","step"] 5 2 Lx
include lB nL il kE in
def Zbw(D:D40 K mg f fd)(T:Txt mg):G40 P w K mg base f fd:=Ly|||((dM nz (bB<*pv 1<*aC) o9 (aI _)<*>(~~~(@cI _ _ _ _ (bH nL lB hr ∅ rfl (pv 0<|(bB<*pv 1<*aC)<|aq))))<*>jY)<|>(2>>=Ly>>=pv 0)<|>(qV rfl T.aU ((bB<*pv 1<*aC)<|aq)&&&(b7 (i:=3) Ly.nd rfl (by w_up))&&&(~~~(2>>=Ly>>=bH kE il hr ∅ rfl (pv 2<|aq))))<|>(~~~(@cI _ _ _ _ (pv 2))))|||HM
variable {gG:Addr}{gH:FuncData}(dY:D40 K mg gG gH)(gI:G40 P w K mg base gG gH)
abbrev HP:ai->Dm Fl :=
 (au (aA (ag 0) (hName 2))
 (au (bY (bT (ag 1)) (hName 3) (aA (aJ Lx (ae (ag 2) (ae (ag 3) ah))) (hName 2)))
 (aV (ag 2))))
abbrev Lz:List D->Dm D:=dC 4 HP
abbrev HQ:Stmt:=top 40
def LA:ax ["floor","word","led","step"] ["floor","word"] (aj HQ):=by walk
abbrev D41:=Gx1 "led_by" HQ ["floor","word"]
abbrev G41:=Gx2 ["floor","word"] 6 2 Lz
include dY gI in
def YcM(D:D41 K mg f fd)(T:Txt mg):G41 P w K mg base f fd:=LA|||((2>>=LA>>=pv 0)<|>(oJ (pv 1)&&&(b7 (i:=3) LA.nd rfl (by w_up))&&&(~~~(2>>=LA>>=bH gI dY hr ∅ rfl (pv 2<|pv 3<|aq))))<|>(~~~(@cI _ _ _ _ (pv 2))))|||HP
variable {oV:Addr}{oW:FuncData}(nM:D41 K mg oV oW)(oX:G41 P w K mg base oV oW)
abbrev HR:ai->Dm Fl :=
 (au (aA (ao cy (ao ay (ag 0) #[1]) (ao ay (ag 1) #[1])) (hName 2))
 (au (c7 (az (ao (gf false) (ao ay (ag 0) #[0]) (fC (.str "t")))) (aA (ao lq (ag 2) #[4]) (hName 2)) aO)
 (au (c7 (az (ao (gf false) (ag 2) #[0])) (aV (aS ah)) aO)
 (aV (aS (ae (aS (ae (ao ay (ag 0) #[0]) (ae (ag 2) ah))) ah))))))
abbrev LB:List D->Dm D:=dC 3 HR
abbrev HS:Stmt:=top 26
def Pc:ax ["one","other","number"] ["one","other"] (aj HS):=by walk
abbrev D42:=Gx1 "joined" HS ["one","other"]
abbrev G42:=Gx2 ["one","other"] 1 2 LB
def xcM(D:D42 K mg f fd)(T:Txt mg):G42 P w K mg base f fd:=Pc|||((2>>=Pc>>=bp mE (bB<*pv 0<*aC) (bB<*pv 1<*aC))<|>(dM nz (bB<*pv 0<*aC) o9 (aI _)<*>(~~~(2>>=Pc>>=bp ui (pv 2) aC))<*>jY)<|>(dM nz (pv 2) aC (aI _)<*>(~~~(@cI _ _ _ _ (@cJ _ _ _ _ _ aq)))<*>jY)<|>(~~~(@cI _ _ _ _ (@cJ _ _ _ _ _ ((@cJ _ _ _ _ _ ((bB<*pv 0<*aC)<|pv 2<|aq))<|aq)))))|||HR
variable {oY:Addr}{oZ:FuncData}(nO:D42 K mg oY oZ)(o3:G42 P w K mg base oY oZ)
abbrev HU:ai->Dm Fl :=
 (au (aA (aS ah) (hName 1))
 (au (bY (bT (ag 0)) (hName 2) (c7 (pZ (az (ao y4 (aJ cU (ae (ag 1) ah)) #[0])) (az (ao (gf false) (ao ay (ao ay (ag 1) (rH kX #[1])) #[0]) (ao ay (ag 2) #[0])))) (aA (ao fK (C8 A4 (ag 1) nB (qe (rH kX #[1]))) (aJ LB (ae (ao ay (ag 1) (rH kX #[1])) (ae (ag 2) ah)))) (hName 1)) (aA (ao fK (ag 1) (aS (ae (ag 2) ah))) (hName 1))))
 (aV (ag 1))))
abbrev LC:List D->Dm D:=dC 3 HU
abbrev HV:Stmt:=top 27
def HW:ax ["word","plain","step"] ["word"] (aj HV):=by walk
abbrev D43:=Gx1 "made_plain" HV ["word"]
abbrev G43:=Gx2 ["word"] 2 1 LC
include nO o3 in
def ZbK(D:D43 K mg f fd)(T:Txt mg):G43 P w K mg base f fd:=HW|||((1>>=HW>>=(@cJ _ _ _ _ _ aq))<|>(oJ (pv 0)&&&(b7 (i:=2) HW.nd rfl (by w_up))&&&(~~~(PW.pt (D0 (dM CU (jq mL (by rfl) T.bM mN (pv 1<|aq)) aC (aI _)) (DZ (dM nz (bB<*(bB<*pv 1<*sU sW aC)<*aC) (bB<*pv 2<*aC) (aI _))))<*>(~~~(1>>=HW>>=bp vn (QH Xs (pv 1) QE (QF (sU sW aC))) (bH o3 nO hr ∅ rfl ((bB<*pv 1<*sU sW aC)<|pv 2<|aq))))<*>(~~~(1>>=HW>>=bp vn (pv 1) (@cJ _ _ _ _ _ (pv 2<|aq)))))))<|>(~~~(@cI _ _ _ _ (pv 1))))|||HU
variable {i5:Addr}{i6:FuncData}(fP:D43 K mg i5 i6)(i9:G43 P w K mg base i5 i6)
abbrev HX:ai->Dm Fl :=
 (aV (aJ LC (ae (ao fK (ag 0) (ag 1)) ah)))
abbrev HY:List D->Dm D:=dC 2 HX
abbrev HZ:Stmt:=top 28
def Xbs:ax ["one","other"] ["one","other"] (aj HZ):=by walk
abbrev D44:=Gx1 "put_together" HZ ["one","other"]
abbrev G44:=Gx2 ["one","other"] 3 2 HY
include fP i9 in
def zbt(D:D44 K mg f fd)(T:Txt mg):G44 P w K mg base f fd:=Xbs|||(~~~(@cI _ _ _ _ (bH i9 fP hr ∅ rfl (bp vn (pv 0) (pv 1)<|aq))))|||HX
variable {ft:Addr}{fu:FuncData}(bK:D44 K mg ft fu)(b6:G44 P w K mg base ft fu)
abbrev Ie:ai->Dm Fl :=
 (au (aA (aJ DA (ae (aJ Lz (ae (ao bw (ag 0) (ag 2)) (ae (aS (ae (ag 3) ah)) ah))) ah)) (hName 4))
 (au (c7 (az (ao (rM true) (ag 4) (ag 0))) (au (bF (iM "list" aL (ag 0) (ae (ag 4) ah)))
 (bF (iM "list" aL (ag 1) (ae (aJ HY (ae (ao bw (ag 1) (ag 2)) (ae (aS (ae (ag 3) ah)) ah))) ah)))) aO)
 (aV (iM "list" eY (ag 0) (ae (ag 4) ah)))))
abbrev Ci:List D->Dm D:=dC 5 Ie
abbrev Ig:Stmt:=top 46
def U1:ax ["forms","words","place","step","form"] ["forms","words","place","step"] (aj Ig):=by walk
abbrev D45:=Gx1 "row_led_to" Ig ["forms","words","place","step"]
abbrev G45:=Gx2 ["forms","words","place","step"] 7 4 Ci
include fO ig nM oX bK b6 in
def YbK(D:D45 K mg f fd)(T:Txt mg):G45 P w K mg base f fd:=U1|||((4>>=U1>>=bH ig fO hr ∅ rfl (bH oX nM hr ∅ rfl ((kW<*pv 0<*pv 2)<|(@cJ _ _ _ _ _ (pv 3<|aq))<|aq)<|aq))<|>(dM (Rm hu) (pv 4) (pv 0) (by with_unfolding_all rfl)<*>(pO (oC PySem.F.plainAttrs_list PySem.F.slot_list_append PySem.F.type_list_append pV (pv 0) (pv 4<|aq))<|>(~~~pO (oC PySem.F.plainAttrs_list PySem.F.slot_list_append PySem.F.type_list_append pV (pv 1) (bH b6 bK hr ∅ rfl ((kW<*pv 1<*pv 2)<|(@cJ _ _ _ _ _ (pv 3<|aq))<|aq)<|aq))))<*>jY)<|>(~~~(@cI _ _ _ _ (oC PySem.F.plainAttrs_list PySem.F.slot_list_index PySem.F.type_list_index (RF hu) (pv 0) (pv 4<|aq)))))|||Ie
variable {ja:Addr}{jb:FuncData}(dG:D45 K mg ja jb)(fQ:G45 P w K mg base ja jb)
abbrev LD:ai->Dm Fl :=
 (au (aA (bL (ae (aJ DA (ae (ag 0) ah)) ah)) (hName 2))
 (au (aA (bL (ae (aS ah) ah)) (hName 3))
 (au (aA (bL ah) (hName 4))
 (au (jr (az (ao xI (aJ cU (ae (ag 4) ah)) (aJ cU (ae (ag 2) ah)))) (au (c7 (az (ao y4 (aJ cU (ae (ag 2) ah)) (ag 1))) sL aO)
 (au (aA (aJ cU (ae (ag 4) ah)) (hName 5))
 (au (aA (aJ Ci (ae (ag 2) (ae (ag 3) (ae (ag 5) (ae (fC (.tup [(.str "s"),(.int 1)])) ah))))) (hName 6))
 (au (aA (aJ Ci (ae (ag 2) (ae (ag 3) (ae (ag 5) (ae (fC (.tup [(.str "t"),(.int 1)])) ah))))) (hName 7))
 (bF (iM "list" aL (ag 4) (ae (aS (ae (ag 6) (ae (ag 7) ah))) ah))))))))
 (aV (aJ bh (ae (bU (bR (ae (aJ cU (ae (ag 2) ah)) ah)) 1 [2,3,4] (hName 0) b8 (aS (ae (ao bw (ag 1) (ag 0)) (ae (ao bw (ag 2) (ag 0)) (ae (ao ay (ao bw (ag 3) (ag 0)) #[0]) (ae (ao ay (ao bw (ag 3) (ag 0)) #[1]) ah)))))) ah)))))))
abbrev DC:List D->Dm D:=dC 8 LD
abbrev Ih:Stmt:=top 45
def Cj:ax ["floor","most","forms","words","leads","place","s","t"] ["floor","most"] (aj Ih):=by walk
include fO ig dG fQ in
def xb6(D:vH K mg "chart_of" Ih ["floor","most"] [V.int 60] f fd)(T:Txt mg)(bq:qv K mg "QUARTER_charts" cC (.tup [(.str "t"),(.int 1)]))(lC:qv K mg "SHEAR" pK (.tup [(.str "s"),(.int 1)])):aD P w K mg base a9 8 f fd ["floor","most"] (bg K 2 DC):=by
 refine D.F.ok Cj (λ_ _ _ _ h=>h.1) (λc A o s H v Q E hr h=>?_);refine⟨_,((2>>=Cj>>=(@jG _ _ _ _ (bH ig fO hr ∅ rfl (pv 0<|aq)<|aq)))<|>(3>>=Cj>>=(@jG _ _ _ _ ((@cJ _ _ _ _ _ aq)<|aq)))<|>(4>>=Cj>>=(@jG _ _ _ _ aq))<|>yi PassesOwn.never (dM Ad (jq mL (by rfl) T.bM mN (pv 4<|aq)) (jq mL (by rfl) T.bM mN (pv 2<|aq)) (aI _)) ((dM CU (jq mL (by rfl) T.bM mN (pv 2<|aq)) (pv 1) (aI _)<*>(~~~Qc)<*>jY)<|>(5>>=Cj>>=jq mL (by rfl) T.bM mN (pv 4<|aq))<|>(6>>=Cj>>=bH fQ dG hr ∅ rfl (pv 2<|pv 3<|pv 5<|BM lC rfl rfl ∅<|aq))<|>(7>>=Cj>>=bH fQ dG hr ∅ rfl (pv 2<|pv 3<|pv 5<|BM bq rfl rfl ∅<|aq))<|>(~~~pO (oC PySem.F.plainAttrs_list PySem.F.slot_list_append PySem.F.type_list_append pV (pv 4) ((@cJ _ _ _ _ _ (pv 6<|pv 7<|aq))<|aq))))<|>(~~~(@cI _ _ _ _ (eK oB (by rfl) T.aX nV (rC (own:=["k"]) (fr:=["forms","words","leads"]) (js:=[2,3,4]) rfl (by k_in) (qV rfl T.aU (jq mL (by rfl) T.bM mN (pv 2<|aq)<|aq)) (λ_ _ _ _ _=>(b7 (i:=0) (show((["k"]:List Str) ++ (["forms","words","leads"]:List Str)).Nodup by w_fin) rfl (by w_up))) (λ_ _ _ _ _=>rV) (λ_ _ _ _ _=>(@cJ _ _ _ _ _ ((wK (K:=K) rfl<*pv 1<*pv 0)<|(wK (K:=K) rfl<*pv 2<*pv 0)<|(wL (K:=K) rfl<*(wK (K:=K) rfl<*pv 3<*pv 0)<*aC)<|(wL (K:=K) rfl<*(wK (K:=K) rfl<*pv 3<*pv 0)<*aC)<|aq)))<|aq))))),?_⟩
 exact eA (b:=LD) (lu (nE (uM (bu (oU (F:=DA) (bu (bI 0) cT) B9) cT)) (iG 2))
  (lu (nE (uM (bu (tL cT) cT)) (iG 3))
  (lu (nE (uM cT) (iG 4))
  (lu (Oc (tM (iK N6 (rZ zb (bu (bI 4) cT)) (rZ zb (bu (bI 2) cT)))) (lu (vR (tM (iK N8 (rZ zb (bu (bI 2) cT)) (bI 1))) OQ wV)
  (lu (nE (rZ zb (bu (bI 4) cT)) (iG 5))
  (lu (nE (oU (F:=Ci) (bu (bI 2) (bu (bI 3) (bu (bI 5) (bu (BN lC) cT)))) O8) (iG 6))
  (lu (nE (oU (F:=Ci) (bu (bI 2) (bu (bI 3) (bu (bI 5) (bu (BN bq) cT)))) O8) (iG 7))
  (Di (Dg Dh (bI 4) (bu (tL (bu (bI 6) (bu (bI 7) cT))) cT))))))))
  (wW (rZ FH (bu (KD (FK (bu (rZ zb (bu (bI 2) cT)) cT)) (iG 0) KH (tL (bu (iK tO (bI 1) (bI 0)) (bu (iK tO (bI 2) (bI 0)) (bu (iK sG (iK tO (bI 3) (bI 0)) (g9 _)) (bu (iK sG (iK tO (bI 3) (bI 0)) (g9 _)) cT)))))) cT))))))) rfl h
variable {mj:Addr}{ml:FuncData}(eQ:vH K mg "chart_of" Ih ["floor","most"] [V.int 60] mj ml)(mq:aD P w K mg base a9 8 mj ml ["floor","most"] (bg K 2 DC))
abbrev Ii:ai->Dm Fl :=
 (au (aA (bL ah) (hName 1))
 (au (aA #[1] (hName 2))
 (au (bY (bT (ag 0)) (fX 4 (aM (hName 3) (aM (hName 4) (aM (hName 5) (aM (hName 6) gq))))) (bY (bT (aS (ae (aS (ae (fC (.str "s")) (ae (ag 5) ah))) (ae (aS (ae (fC (.str "t")) (ae (ag 6) ah))) ah)))) (fX 2 (aM (hName 7) (aM (hName 8) gq))) (c7 (az (ao (gf false) (ag 8) (ag 2))) (aA (ao cy (ag 2) #[1]) (hName 2)) (bF (iM "list" aL (ag 1) (ae (aJ zz (ae (ao fK (ao fK (ag 4) (aS (ae (aS (ae (ag 7) (ae #[1] ah))) ah))) (aJ Dx (ae (ao ay (ao ay (ag 0) (ag 8)) #[1]) ah))) ah)) ah))))))
 (aV (aJ bh (ae (ag 1) ah))))))
abbrev Ij:List D->Dm D:=dC 9 Ii
abbrev Ik:Stmt:=top 72
def w6:ax ["_law_chart_here","_law_found","_law_behind_here","_law_floor_here","_law_word_here","_law_s","_law_t","_law_letter","_law_goal"] ["_law_chart_here"] (aj Ik):=by walk
abbrev D46:=Gx1 "_law_makers" Ik ["_law_chart_here"]
abbrev G46:=Gx2 ["_law_chart_here"] 3 1 Ij
include cO dw cn cQ in
def Ybw(D:D46 K mg f fd)(T:Txt mg):G46 P w K mg base f fd:=w6|||((1>>=w6>>=(@jG _ _ _ _ aq))<|>(2>>=w6>>=aC)<|>(oJ (pv 0)&&&qu (n:=4) rfl (iF (b7 (i:=3) w6.nd rfl (by w_up)) (iF (b7 (i:=4) w6.nd rfl (by w_up)) (iF (b7 (i:=5) w6.nd rfl (by w_up)) (iF (b7 (i:=6) w6.nd rfl (by w_up)) qr))))&&&(~~~(oJ (@cJ _ _ _ _ _ ((@cJ _ _ _ _ _ (o9<|pv 5<|aq))<|(@cJ _ _ _ _ _ (o9<|pv 6<|aq))<|aq))&&&qu (n:=2) rfl (iF (b7 (i:=7) w6.nd rfl (by w_up)) (iF (b7 (i:=8) w6.nd rfl (by w_up)) qr))&&&(~~~(dM nz (pv 8) (pv 2) (aI _)<*>(~~~(2>>=w6>>=bp mE (pv 2) aC))<*>(~~~pO (oC PySem.F.plainAttrs_list PySem.F.slot_list_append PySem.F.type_list_append pV (pv 1) (bH cQ cn hr ∅ rfl (bp vn (bp vn (pv 4) (@cJ _ _ _ _ _ ((@cJ _ _ _ _ _ (pv 7<|aC<|aq))<|aq))) (bH dw cO hr ∅ rfl ((bB<*(bB<*pv 0<*pv 8)<*aC)<|aq))<|aq)<|aq))))))))<|>(~~~(@cI _ _ _ _ (eK oB (by rfl) T.aX nV (pv 1<|aq)))))|||Ii
variable {gJ:Addr}{gK:FuncData}(dZ:D46 K mg gJ gK)(gL:G46 P w K mg base gJ gK)
abbrev Il:ai->Dm Fl :=
 (aV (aS (ae (aJ bh (ae (bU (bT (ag 0)) 1 [] (hName 0) b8 (ao ay (ag 0) #[2])) ah)) (ae (aJ bh (ae (bU (bT (ag 0)) 1 [] (hName 0) b8 (ao ay (ag 0) #[3])) ah)) ah))))
abbrev LF:List D->Dm D:=dC 1 Il
abbrev Im:Stmt:=top 47
def ybt:ax ["chart"] ["chart"] (aj Im):=by walk
abbrev D47:=Gx1 "row_turnings" Im ["chart"]
abbrev G47:=Gx2 ["chart"] 1 1 LF
def Zbt(D:D47 K mg f fd)(T:Txt mg):G47 P w K mg base f fd:=ybt|||(~~~(@cI _ _ _ _ (@cJ _ _ _ _ _ (eK oB (by rfl) T.aX nV (rC (own:=["row"]) (fr:=[]) (js:=[]) rfl (by k_in) (oJ (pv 0)) (λ_ _ _ _ _=>(b7 (i:=0) (show((["row"]:List Str) ++ ([]:List Str)).Nodup by w_fin) rfl (by w_up))) (λ_ _ _ _ _=>rV) (λ_ _ _ _ _=>(wL (K:=K) rfl<*pv 0<*aC))<|aq)<|eK oB (by rfl) T.aX nV (rC (own:=["row"]) (fr:=[]) (js:=[]) rfl (by k_in) (oJ (pv 0)) (λ_ _ _ _ _=>(b7 (i:=0) (show((["row"]:List Str) ++ ([]:List Str)).Nodup by w_fin) rfl (by w_up))) (λ_ _ _ _ _=>rV) (λ_ _ _ _ _=>(wL (K:=K) rfl<*pv 0<*aC))<|aq)<|aq))))|||Il
variable {fw:Addr}{fz:FuncData}(dh:D47 K mg fw fz)(fA:G47 P w K mg base fw fz)
abbrev LG:ai->Dm Fl :=
 (au (aA (bL ah) (hName 1))
 (au (aA #[1] (hName 2))
 (au (bY (mS (ae (ag 0) ah)) (fX 2 (aM (hName 3) (aM (hName 4) gq))) (bY (bT (aS (ae (aS (ae (fC (.tup [(.str "s"),(.int 1)])) (ae (ao ay (ag 4) #[2]) ah))) (ae (aS (ae (fC (.tup [(.str "t"),(.int 1)])) (ae (ao ay (ag 4) #[3]) ah))) ah)))) (fX 2 (aM (hName 5) (aM (hName 6) gq))) (c7 (az (ao (gf false) (ag 6) (ag 2))) (aA (ao cy (ag 2) #[1]) (hName 2)) (bF (iM "list" aL (ag 1) (ae (aS (ae (ag 3) (ae (ag 5) (ae (ag 6) ah)))) ah))))))
 (aV (aJ bh (ae (ag 1) ah))))))
abbrev LH:List D->Dm D:=dC 7 LG
abbrev Io:Stmt:=top 49
def zB:ax ["chart","places","rows_so_far","number","row","step","reached"] ["chart"] (aj Io):=by walk
abbrev D48:=Gx1 "maker_places" Io ["chart"]
abbrev G48:=Gx2 ["chart"] 1 1 LH
def Ybt(D:D48 K mg f fd)(T:Txt mg)(bq:qv K mg "QUARTER_charts" cC (.tup [(.str "t"),(.int 1)]))(lC:qv K mg "SHEAR" pK (.tup [(.str "s"),(.int 1)])):G48 P w K mg base f fd:=by
 refine D.F.ok zB (λ_ _ _ _ h=>h.1) (λc A o s H v Q E hr h=>?_);refine⟨_,((1>>=zB>>=(@jG _ _ _ _ aq))<|>(2>>=zB>>=aC)<|>(J7 rfl T.iN (pv 0<|aq)&&&qu (n:=2) rfl (iF (b7 (i:=3) zB.nd rfl (by w_up)) (iF (b7 (i:=4) zB.nd rfl (by w_up)) qr))&&&(~~~(oJ (@cJ _ _ _ _ _ ((@cJ _ _ _ _ _ (BM lC rfl rfl ∅<|(bB<*pv 4<*aC)<|aq))<|(@cJ _ _ _ _ _ (BM bq rfl rfl ∅<|(bB<*pv 4<*aC)<|aq))<|aq))&&&qu (n:=2) rfl (iF (b7 (i:=5) zB.nd rfl (by w_up)) (iF (b7 (i:=6) zB.nd rfl (by w_up)) qr))&&&(~~~(dM nz (pv 6) (pv 2) (aI _)<*>(~~~(2>>=zB>>=bp mE (pv 2) aC))<*>(~~~pO (oC PySem.F.plainAttrs_list PySem.F.slot_list_append PySem.F.type_list_append pV (pv 1) ((@cJ _ _ _ _ _ (pv 3<|pv 5<|pv 6<|aq))<|aq))))))))<|>(~~~(@cI _ _ _ _ (eK oB (by rfl) T.aX nV (pv 1<|aq))))),?_⟩
 exact eA (b:=LG) (lu (nE (uM cT) (iG 1))
  (lu (nE (g9 _) (iG 2))
  (lu (wX (Oh (bu (bI 0) cT)) (A8 (tR (iG 3) (tR (iG 4) A7))) (wX (Dj (tL (bu (tL (bu (BN lC) (bu (iK sG (bI 4) (g9 _)) cT))) (bu (tL (bu (BN bq) (bu (iK sG (bI 4) (g9 _)) cT))) cT)))) (A8 (tR (iG 5) (tR (iG 6) A7))) (vR (tM (iK y8 (bI 6) (bI 2))) (nE (iK FG (bI 2) (g9 _)) (iG 2)) (Di (Dg Dh (bI 1) (bu (tL (bu (bI 3) (bu (bI 5) (bu (bI 6) cT)))) cT))))))
  (wW (rZ FH (bu (bI 1) cT)))))) rfl h
variable {fB:Addr}{fD:FuncData}(di:D48 K mg fB fD)(fE:G48 P w K mg base fB fD)
abbrev Ip:ai->Dm Fl :=
 (au (aA wg (hName 1))
 (au (bY (mS (ae (aJ LH (ae (ag 0) ah)) ah)) (fX 2 (aM (hName 2) (aM (hName 3) gq))) (uf (ag 1) (ae (ao ay (ag 3) #[0]) (ae (ao ay (ao ay (ag 3) #[1]) #[0]) ah)) (ag 2)))
 (aV (ag 1))))
abbrev LI:List D->Dm D:=dC 4 Ip
abbrev Iq:Stmt:=top 51
def LJ:ax ["chart","numbers","maker","place"] ["chart"] (aj Iq):=by walk
abbrev D49:=Gx1 "maker_numbers" Iq ["chart"]
abbrev G49:=Gx2 ["chart"] 2 1 LI
include di fE in
def Xbk(D:D49 K mg f fd)(T:Txt mg):G49 P w K mg base f fd:=by refine D.F.ok LJ (λ_ _ _ _ h=>h.1) (λc A o s H v Q E hr h=>?_);have hu1:=MZ hr;refine⟨_,((1>>=LJ>>=Xb)<|>(J7 rfl T.iN (bH fE di hr ∅ rfl (pv 0<|aq)<|aq)&&&qu (n:=2) rfl (iF (b7 (i:=2) LJ.nd rfl (by w_up)) (iF (b7 (i:=3) LJ.nd rfl (by w_up)) qr))&&&(~~~QS hu1 (pv 1) (@cJ _ _ _ _ _ ((bB<*pv 3<*aC)<|(bB<*(bB<*pv 3<*aC)<*aC)<|aq)) (pv 2) rfl))<|>(~~~(@cI _ _ _ _ (pv 1)))),?_⟩;exact eA (b:=Ip) (by delta Ip;o_norm) rfl h
variable {d4:Addr}{d5:FuncData}(cS:D49 K mg d4 d5)(d6:G49 P w K mg base d4 d5)
abbrev Ir:ai->Dm Fl :=
 (au (aA (bL ah) (hName 1))
 (au (bY (bT (ag 0)) (hName 2) (au (aA (c7 (az (ao y4 (ao ay (ag 2) #[1]) #[0])) #[1] (rH kX #[1])) (hName 3))
 (bF (iM "list" lR (ag 1) (ae (ao uu (bL (ae (aS (ae (ao ay (ag 2) #[0]) (ae (ag 3) ah))) ah)) (aJ uy (ae (ao ay (ag 2) #[1]) ah))) ah)))))
 (aV (ag 1))))
abbrev Iu:List D->Dm D:=dC 4 Ir
abbrev Iv:Stmt:=top 52
def LK:ax ["word","singles","step","way"] ["word"] (aj Iv):=by walk
abbrev D50:=Gx1 "single_steps" Iv ["word"]
abbrev G50:=Gx2 ["word"] 1 1 Iu
def xbt(D:D50 K mg f fd)(T:Txt mg):G50 P w K mg base f fd:=LK|||((1>>=LK>>=(@jG _ _ _ _ aq))<|>(oJ (pv 0)&&&(b7 (i:=2) LK.nd rfl (by w_up))&&&((3>>=LK>>=Qb (dM CU (bB<*pv 2<*aC) aC (aI _)) aC (sU sW aC))<|>(~~~pO (oC PySem.F.plainAttrs_list PySem.F.slot_list_extend PySem.F.type_list_extend WZ (pv 1) (bp MR (@jG _ _ _ _ ((@cJ _ _ _ _ _ ((bB<*pv 2<*aC)<|pv 3<|aq))<|aq)) (jq Qq (by rfl) T.zw Rj ((bB<*pv 2<*aC)<|aq))<|aq)))))<|>(~~~(@cI _ _ _ _ (pv 1))))|||Ir
variable {fF:Addr}{fG:FuncData}(dj:D50 K mg fF fG)(fH:G50 P w K mg base fF fG)
abbrev Iw:ai->Dm Fl :=
 (aV (aS (ae (ao cy (ao cz (ao ay (ag 0) #[0]) (ao ay (ag 1) #[0])) (ao cz (ao ay (ag 0) #[1]) (ao ay (ag 1) #[1]))) (ae (ao cy (ao cz (ao ay (ag 0) #[2]) (ao ay (ag 1) #[0])) (ao cz (ao ay (ag 0) #[3]) (ao ay (ag 1) #[1]))) ah))))
abbrev LL:List D->Dm D:=dC 2 Iw
abbrev Iy:Stmt:=top 20
def Xb6:ax ["table","pair"] ["table","pair"] (aj Iy):=by walk
abbrev D51:=Gx1 "led_pair" Iy ["table","pair"]
abbrev G51:=Gx2 ["table","pair"] 1 2 LL
def zb7(D:D51 K mg f fd)(T:Txt mg):G51 P w K mg base f fd:=Xb6|||(~~~(@cI _ _ _ _ (@cJ _ _ _ _ _ (bp mE (bp pQ (bB<*pv 0<*aC) (bB<*pv 1<*aC)) (bp pQ (bB<*pv 0<*aC) (bB<*pv 1<*aC))<|bp mE (bp pQ (bB<*pv 0<*aC) (bB<*pv 1<*aC)) (bp pQ (bB<*pv 0<*aC) (bB<*pv 1<*aC))<|aq))))|||Iw
variable {mr:Addr}{mv:FuncData}(jV:D51 K mg mr mv)(mw:G51 P w K mg base mr mv)
abbrev Iz:ai->Dm Fl :=
 (au (c7 (az (ao (gf false) (ag 0) #[0])) (aV (aS ah)) aO)
 (aV (aS (ae (aS (ae (fC (.str "s")) (ae (ag 0) ah))) ah))))
abbrev DE:List D->Dm D:=dC 1 Iz
abbrev IA:Stmt:=top 35
def XcM:ax ["k"] ["k"] (aj IA):=by walk
abbrev D52:=Gx1 "shears" IA ["k"]
abbrev G52:=Gx2 ["k"] 1 1 DE
def zcN(D:D52 K mg f fd)(T:Txt mg):G52 P w K mg base f fd:=XcM|||((dM nz (pv 0) aC (aI _)<*>(~~~(@cI _ _ _ _ (@cJ _ _ _ _ _ aq)))<*>jY)<|>(~~~(@cI _ _ _ _ (@cJ _ _ _ _ _ ((@cJ _ _ _ _ _ (o9<|pv 0<|aq))<|aq)))))|||Iz
variable {o4:Addr}{o5:FuncData}(gM:D52 K mg o4 o5)(jc:G52 P w K mg base o4 o5)
abbrev IB:ai->Dm Fl :=
 (aV (aS (ae (ao cy (ao cz (ao ay (ag 0) #[0]) (ao ay (ag 1) #[0])) (ao cz (ao ay (ag 0) #[1]) (ao ay (ag 1) #[2]))) (ae (ao cy (ao cz (ao ay (ag 0) #[0]) (ao ay (ag 1) #[1])) (ao cz (ao ay (ag 0) #[1]) (ao ay (ag 1) #[3]))) (ae (ao cy (ao cz (ao ay (ag 0) #[2]) (ao ay (ag 1) #[0])) (ao cz (ao ay (ag 0) #[3]) (ao ay (ag 1) #[2]))) (ae (ao cy (ao cz (ao ay (ag 0) #[2]) (ao ay (ag 1) #[1])) (ao cz (ao ay (ag 0) #[3]) (ao ay (ag 1) #[3]))) ah))))))
abbrev zC:List D->Dm D:=dC 2 IB
abbrev IC:Stmt:=top 19
def Yc0:ax ["one","other"] ["one","other"] (aj IC):=by walk
abbrev D53:=Gx1 "times" IC ["one","other"]
abbrev G53:=Gx2 ["one","other"] 1 2 zC
def xc0(D:D53 K mg f fd)(T:Txt mg):G53 P w K mg base f fd:=Yc0|||(~~~(@cI _ _ _ _ (@cJ _ _ _ _ _ (bp mE (bp pQ (bB<*pv 0<*aC) (bB<*pv 1<*aC)) (bp pQ (bB<*pv 0<*aC) (bB<*pv 1<*aC))<|bp mE (bp pQ (bB<*pv 0<*aC) (bB<*pv 1<*aC)) (bp pQ (bB<*pv 0<*aC) (bB<*pv 1<*aC))<|bp mE (bp pQ (bB<*pv 0<*aC) (bB<*pv 1<*aC)) (bp pQ (bB<*pv 0<*aC) (bB<*pv 1<*aC))<|bp mE (bp pQ (bB<*pv 0<*aC) (bB<*pv 1<*aC)) (bp pQ (bB<*pv 0<*aC) (bB<*pv 1<*aC))<|aq))))|||IB
variable {qL:Addr}{qM:FuncData}(ip:D53 K mg qL qM)(jx:G53 P w K mg base qL qM)
abbrev LM:ai->Dm Fl :=
 (au (c7 (az (ao (gf false) (ao ay (ag 0) #[0]) (fC (.str "s")))) (aV (aS (ae #[1] (ae (ao ay (ag 0) #[1]) (ae #[0] (ae #[1] ah)))))) aO)
 (au (aA (fC (.tup [(.int 1),(.int 0),(.int 0),(.int 1)])) (hName 1))
 (au (bY (bR (ae (ao ay (ag 0) #[1]) ah)) (hName 2) (aA (aJ zC (ae (fC (.tup [(.int 0),(.int (-1)),(.int 1),(.int 0)])) (ae (ag 1) ah))) (hName 1)))
 (aV (ag 1)))))
abbrev IE:List D->Dm D:=dC 3 LM
abbrev IF:Stmt:=top 24
def LN:ax ["step","table","turn"] ["step"] (aj IF):=by walk
abbrev D54:=Gx1 "step_table" IF ["step"]
abbrev G54:=Gx2 ["step"] 2 1 IE
include ip jx in
def xbK(D:D54 K mg f fd)(T:Txt mg)(d7:qv K mg "QUARTER_words" iq (.tup [(.int 0),(.int (-1)),(.int 1),(.int 0)]))(fR:qv K mg "UNMOVED" lD (.tup [(.int 1),(.int 0),(.int 0),(.int 1)])):G54 P w K mg base f fd:=by
 refine D.F.ok LN (λ_ _ _ _ h=>h.1) (λc A o s H v Q E hr h=>?_);refine⟨_,((dM nz (bB<*pv 0<*aC) o9 (aI _)<*>(~~~(@cI _ _ _ _ (@cJ _ _ _ _ _ (aC<|(bB<*pv 0<*aC)<|aC<|aC<|aq))))<*>jY)<|>(1>>=LN>>=BM fR rfl rfl ∅)<|>(qV rfl T.aU ((bB<*pv 0<*aC)<|aq)&&&(b7 (i:=2) LN.nd rfl (by w_up))&&&(~~~(1>>=LN>>=bH jx ip hr ∅ rfl (BM d7 rfl rfl ∅<|pv 1<|aq))))<|>(~~~(@cI _ _ _ _ (pv 1)))),?_⟩
 exact eA (b:=LM) (lu (vR (tM (iK y8 (iK sG (bI 0) (g9 _)) (Fz _))) (wW (tL (bu (g9 _) (bu (iK sG (bI 0) (g9 _)) (bu (g9 _) (bu (g9 _) cT)))))) wV)
  (lu (nE (BN fR) (iG 1))
  (lu (wX (FK (bu (iK sG (bI 0) (g9 _)) cT)) (iG 2) (nE (oU (F:=zC) (bu (BN d7) (bu (bI 1) cT)) uF) (iG 1)))
  (wW (bI 1))))) rfl h
variable {jd:Addr}{je:FuncData}(fS:D54 K mg jd je)(jf:G54 P w K mg base jd je)
abbrev LO:ai->Dm Fl :=
 (au (aA (fC (.tup [(.int 1),(.int 0),(.int 0),(.int 1)])) (hName 1))
 (au (bY (bT (ag 0)) (hName 2) (aA (aJ zC (ae (aJ IE (ae (ag 2) ah)) (ae (ag 1) ah))) (hName 1)))
 (aV (ag 1))))
abbrev IG:List D->Dm D:=dC 3 LO
abbrev IH:Stmt:=top 25
def LP:ax ["word","table","step"] ["word"] (aj IH):=by walk
abbrev D55:=Gx1 "table_of" IH ["word"]
abbrev G55:=Gx2 ["word"] 3 1 IG
include ip jx fS jf in
def yb7(D:D55 K mg f fd)(T:Txt mg)(fR:qv K mg "UNMOVED" lD (.tup [(.int 1),(.int 0),(.int 0),(.int 1)])):G55 P w K mg base f fd:=by
 refine D.F.ok LP (λ_ _ _ _ h=>h.1) (λc A o s H v Q E hr h=>?_);refine⟨_,((1>>=LP>>=BM fR rfl rfl ∅)<|>(oJ (pv 0)&&&(b7 (i:=2) LP.nd rfl (by w_up))&&&(~~~(1>>=LP>>=bH jx ip hr ∅ rfl (bH jf fS hr ∅ rfl (pv 2<|aq)<|pv 1<|aq))))<|>(~~~(@cI _ _ _ _ (pv 1)))),?_⟩
 exact eA (b:=LO) (lu (nE (BN fR) (iG 1))
  (lu (wX (Dj (bI 0)) (iG 2) (nE (oU (F:=zC) (bu (oU (F:=IE) (bu (bI 2) cT) B9) (bu (bI 1) cT)) uF) (iG 1)))
  (wW (bI 1)))) rfl h
variable {mx:Addr}{my:FuncData}(dH:D55 K mg mx my)(eU:G55 P w K mg base mx my)
abbrev II:ai->Dm Fl :=
 (aV (ao qH (ao cy (ao nC #[2] (ag 0)) (ag 1)) (ao nC #[2] (ag 1))))
abbrev LQ:List D->Dm D:=dC 2 II
abbrev IJ:Stmt:=top 34
def zcp:ax ["number","divisor"] ["number","divisor"] (aj IJ):=by walk
abbrev D56:=Gx1 "nearest" IJ ["number","divisor"]
abbrev G56:=Gx2 ["number","divisor"] 1 2 LQ
def ycp(D:D56 K mg f fd)(T:Txt mg):G56 P w K mg base f fd:=zcp|||(~~~(@cI _ _ _ _ (bp Yi (bp mE (bp u6 aC (pv 0)) (pv 1)) (bp u6 aC (pv 1)))))|||II
variable {nP:Addr}{nQ:FuncData}(lE:D56 K mg nP nQ)(nR:G56 P w K mg base nP nQ)
abbrev IK:ai->Dm Fl :=
 (au (aA (aS ah) (hName 1))
 (au (aA (ag 0) (hName 2))
 (au (jr (az (ao (gf true) (ao ay (ag 2) #[1]) #[0])) (au (aA (ao fK (aJ DE (ae (rH kX (aJ LQ (ae (ao ay (ag 2) #[0]) (ae (ao ay (ag 2) #[1]) ah)))) ah)) (aS (ae (aS (ae (fC (.str "t")) (ae #[1] ah))) ah))) (hName 3))
 (au (aA (aJ LL (ae (aJ IG (ae (ag 3) ah)) (ae (ag 2) ah))) (hName 2))
 (aA (ao fK (ag 1) (ag 3)) (hName 1)))))
 (aV (ag 1)))))
abbrev LR:List D->Dm D:=dC 4 IK
abbrev IL:Stmt:=top 33
def DF:ax ["pair","gone","left","steps"] ["pair"] (aj IL):=by walk
abbrev D57:=Gx1 "level_steps" IL ["pair"]
abbrev G57:=Gx2 ["pair"] 4 1 LR
include jV mw gM jc dH eU lE nR in
def xbw(D:D57 K mg f fd)(T:Txt mg):G57 P w K mg base f fd:=DF|||((1>>=DF>>=(@cJ _ _ _ _ _ aq))<|>(2>>=DF>>=pv 0)<|>yi PassesOwn.never (dM Ei (bB<*pv 2<*aC) aC (aI _)) ((3>>=DF>>=bp vn (bH jc gM hr ∅ rfl (sU sW (bH nR lE hr ∅ rfl ((bB<*pv 2<*aC)<|(bB<*pv 2<*aC)<|aq))<|aq)) (@cJ _ _ _ _ _ ((@cJ _ _ _ _ _ (o9<|aC<|aq))<|aq)))<|>(2>>=DF>>=bH mw jV hr ∅ rfl (bH eU dH hr ∅ rfl (pv 3<|aq)<|pv 2<|aq))<|>(~~~(1>>=DF>>=bp vn (pv 1) (pv 3))))<|>(~~~(@cI _ _ _ _ (pv 1))))|||IK
variable {gO:Addr}{gP:FuncData}(d8:D57 K mg gO gP)(gQ:G57 P w K mg base gO gP)
abbrev IP:ai->Dm Fl :=
 (aV (tN (ao (gf false) (aJ cU (ae (ag 0) ah)) #[4]) (ao (gf false) (ao mD (ao cz (ao ay (ag 0) #[0]) (ao ay (ag 0) #[3])) (ao cz (ao ay (ag 0) #[1]) (ao ay (ag 0) #[2]))) #[1])))
abbrev LS:List D->Dm D:=dC 1 IP
abbrev IQ:Stmt:=top 18
def Zb7:ax ["thing"] ["thing"] (aj IQ):=by walk
abbrev D58:=Gx1 "is_table" IQ ["thing"]
abbrev G58:=Gx2 ["thing"] 1 1 LS
def Yb7(D:D58 K mg f fd)(T:Txt mg):G58 P w K mg base f fd:=Zb7|||(~~~(@cI _ _ _ _ (zX (xk nz (jq mL (by rfl) T.bM mN (pv 0<|aq)) aC (aI _)) (zW (xk nz (bp u5 (bp pQ (bB<*pv 0<*aC) (bB<*pv 0<*aC)) (bp pQ (bB<*pv 0<*aC) (bB<*pv 0<*aC))) aC (aI _))))))|||IP
variable {mz:Addr}{mB:FuncData}(jW:D58 K mg mz mB)(mC:G58 P w K mg base mz mB)
abbrev IU:ai->Dm Fl :=
 (au (c7 (az (ao (gf false) (ao ay (ag 0) #[0]) #[1])) (aV (aJ DE (ae (ao ay (ag 0) #[1]) ah))) aO)
 (aV (ao fK (aS (ae (aS (ae (fC (.str "t")) (ae #[2] ah))) ah)) (aJ DE (ae (rH kX (ao ay (ag 0) #[1])) ah)))))
abbrev LU:List D->Dm D:=dC 1 IU
abbrev IW:Stmt:=top 36
def XbK:ax ["table"] ["table"] (aj IW):=by walk
abbrev D59:=Gx1 "level_word" IW ["table"]
abbrev G59:=Gx2 ["table"] 2 1 LU
include gM jc in
def zbL(D:D59 K mg f fd)(T:Txt mg):G59 P w K mg base f fd:=XbK|||((dM nz (bB<*pv 0<*aC) aC (aI _)<*>(~~~(@cI _ _ _ _ (bH jc gM hr ∅ rfl ((bB<*pv 0<*aC)<|aq))))<*>jY)<|>(~~~(@cI _ _ _ _ (bp vn (@cJ _ _ _ _ _ ((@cJ _ _ _ _ _ (o9<|aC<|aq))<|aq)) (bH jc gM hr ∅ rfl (sU sW (bB<*pv 0<*aC)<|aq))))))|||IU
variable {jg:Addr}{jh:FuncData}(fT:D59 K mg jg jh)(ji:G59 P w K mg base jg jh)
abbrev IX:ai->Dm Fl :=
 (au (c7 (az (ao (gf false) (ao ay (ag 0) #[0]) (fC (.str "s")))) (aV (aS (ae (fC (.str "s")) (ae (rH kX (ao ay (ag 0) #[1])) ah)))) aO)
 (aV (aS (ae (fC (.str "t")) (ae (ao mD #[4] (ao ay (ag 0) #[1])) ah)))))
abbrev LV:List D->Dm D:=dC 1 IX
abbrev IY:Stmt:=top 29
def ZbW:ax ["step"] ["step"] (aj IY):=by walk
abbrev D60:=Gx1 "back_step" IY ["step"]
abbrev G60:=Gx2 ["step"] 1 1 LV
def YbW(D:D60 K mg f fd)(T:Txt mg):G60 P w K mg base f fd:=ZbW|||((dM nz (bB<*pv 0<*aC) o9 (aI _)<*>(~~~(@cI _ _ _ _ (@cJ _ _ _ _ _ (o9<|sU sW (bB<*pv 0<*aC)<|aq))))<*>jY)<|>(~~~(@cI _ _ _ _ (@cJ _ _ _ _ _ (o9<|bp u5 aC (bB<*pv 0<*aC)<|aq)))))|||IX
variable {kF:Addr}{kG:FuncData}(iu:D60 K mg kF kG)(kH:G60 P w K mg base kF kG)
abbrev IZ:ai->Dm Fl :=
 (aV (aJ bh (ae (bU (rN (ae (ag 0) ah)) 1 [] (hName 0) b8 (aJ LV (ae (ag 0) ah))) ah)))
abbrev LW:List D->Dm D:=dC 1 IZ
abbrev Ja:Stmt:=top 30
def xbW:ax ["word"] ["word"] (aj Ja):=by walk
abbrev D61:=Gx1 "back_word" Ja ["word"]
abbrev G61:=Gx2 ["word"] 2 1 LW
include iu kH in
def XbW(D:D61 K mg f fd)(T:Txt mg):G61 P w K mg base f fd:=xbW|||(~~~(@cI _ _ _ _ (eK oB (by rfl) T.aX nV (rC (own:=["step"]) (fr:=[]) (js:=[]) rfl (by k_in) (Ry rfl T.pI (pv 0<|aq)) (λ_ _ _ _ _=>(b7 (i:=0) (show((["step"]:List Str) ++ ([]:List Str)).Nodup by w_fin) rfl (by w_up))) (λ_ _ _ _ _=>rV) (λ_ _ _ _ _=>(bH kH iu hr ∅ rfl (pv 0<|aq)))<|aq))))|||IZ
variable {kI:Addr}{kJ:FuncData}(iw:D61 K mg kI kJ)(kK:G61 P w K mg base kI kJ)
abbrev Jb:ai->Dm Fl :=
 (au (c7 (pY (az (aJ LS (ae (ag 0) ah)))) sL aO)
 (au (aA (aJ LR (ae (aS (ae (ao ay (ag 0) #[0]) (ae (ao ay (ag 0) #[2]) ah))) ah)) (hName 1))
 (aV (aJ HY (ae (aJ LU (ae (aJ zC (ae (aJ IG (ae (ag 1) ah)) (ae (ag 0) ah))) ah)) (ae (aJ LW (ae (ag 1) ah)) ah))))))
abbrev DG:List D->Dm D:=dC 2 Jb
abbrev Jc:Stmt:=top 32
def U2:ax ["table","gone"] ["table"] (aj Jc):=by walk
abbrev D62:=Gx1 "word_of" Jc ["table"]
abbrev G62:=Gx2 ["table"] 5 1 DG
include bK b6 ip jx dH eU d8 gQ jW mC fT ji iw kK in
def Zcp(D:D62 K mg f fd)(T:Txt mg):G62 P w K mg base f fd:=U2|||((D1 (CP (bH mC jW hr ∅ rfl (pv 0<|aq)))<*>(~~~Qc)<*>jY)<|>(1>>=U2>>=bH gQ d8 hr ∅ rfl ((@cJ _ _ _ _ _ ((bB<*pv 0<*aC)<|(bB<*pv 0<*aC)<|aq))<|aq))<|>(~~~(@cI _ _ _ _ (bH b6 bK hr ∅ rfl (bH ji fT hr ∅ rfl (bH jx ip hr ∅ rfl (bH eU dH hr ∅ rfl (pv 1<|aq)<|pv 0<|aq)<|aq)<|bH kK iw hr ∅ rfl (pv 1<|aq)<|aq)))))|||Jb
variable {nS:Addr}{nT:FuncData}(lF:D62 K mg nS nT)(nU:G62 P w K mg base nS nT)
abbrev Jd:ai->Dm Fl :=
 (au (aA (aJ LF (ae (ag 0) ah)) (hName 2))
 (au (aA (tV (pB (fC (.str "s")) (ao ay (ag 2) #[0]) (pB (fC (.str "t")) (ao ay (ag 2) #[1]) vW))) (hName 3))
 (au (aA (aJ Cf (ae (ao ay (ag 2) #[0]) ah)) (hName 4))
 (au (aA (aJ LI (ae (ag 0) ah)) (hName 5))
 (au (aA (bL ah) (hName 6))
 (au (aA #[0] (hName 7))
 (au (bY (ju (aJ Iu (ae (aJ DG (ae (ag 1) ah)) ah))) (fX 2 (aM (hName 8) (aM (hName 9) gq))) (au (c7 (az (ao (gf false) (ag 9) (rH kX #[1]))) (aA (ao ay (ag 4) (ag 7)) (hName 7)) aO)
 (au (c7 (az (sM (ae (ag 7) (ae (ag 8) ah)) 5)) (bF (iM "list" aL (ag 6) (ae (aS (ae (pH (ag 5) (ae (ag 7) (ae (ag 8) ah))) (ae (ag 9) ah))) ah))) aO)
 (c7 (az (ao (gf false) (ag 9) #[1])) (aA (ao ay (nF (ag 3) (ag 8)) (ag 7)) (hName 7)) aO))))
 (aV (c7 (az (ao (gf false) (ag 7) #[0])) (aJ bh (ae (ag 6) ah)) (fC .non))))))))))
abbrev DH:List D->Dm D:=dC 10 Jd
abbrev Je:Stmt:=top 50
def wx:ax ["chart","table","turnings","ahead","back","numbers","pairs","row","letter","way"] ["chart","table"] (aj Je):=by walk
abbrev D63:=Gx1 "written_by" Je ["chart","table"]
abbrev G63:=Gx2 ["chart","table"] 6 2 DH
include aW aZ dh fA cS d6 dj fH lF nU in
def ybL(D:D63 K mg f fd)(T:Txt mg):G63 P w K mg base f fd:=by refine D.F.ok wx (λ_ _ _ _ h=>h.1) (λc A o s H v Q E hr h=>?_);have hu1:=MZ hr;refine⟨_,((2>>=wx>>=bH fA dh hr ∅ rfl (pv 0<|aq))<|>(3>>=wx>>=(@Xe _ _ _ _ _ (@QU _ _ _ _ _ _ _ _ _ o9 (bB<*pv 2<*aC) (@QU _ _ _ _ _ _ _ _ _ o9 (bB<*pv 2<*aC) Xc)) rfl rfl ∅ ∅))<|>(4>>=wx>>=bH aZ aW hr ∅ rfl ((bB<*pv 2<*aC)<|aq))<|>(5>>=wx>>=bH d6 cS hr ∅ rfl (pv 0<|aq))<|>(6>>=wx>>=(@jG _ _ _ _ aq))<|>(7>>=wx>>=aC)<|>(Ec (bH fH dj hr ∅ rfl (bH nU lF hr ∅ rfl (pv 1<|aq)<|aq))&&&qu (n:=2) rfl (iF (b7 (i:=8) wx.nd rfl (by w_up)) (iF (b7 (i:=9) wx.nd rfl (by w_up)) qr))&&&((dM nz (pv 9) (sU sW aC) (aI _)<*>(~~~(7>>=wx>>=(bB<*pv 4<*pv 7)))<*>jY)<|>(P8 (Ar hu1 (@cJ _ _ _ _ _ (pv 7<|pv 8<|aq)) (pv 5))<*>(~~~pO (oC PySem.F.plainAttrs_list PySem.F.slot_list_append PySem.F.type_list_append pV (pv 6) ((@cJ _ _ _ _ _ (QR hu1 (pv 5) (@cJ _ _ _ _ _ (pv 7<|pv 8<|aq)) (λ_ _=>rfl)<|pv 9<|aq))<|aq)))<*>jY)<|>(~~~(dM nz (pv 9) aC (aI _)<*>(~~~(7>>=wx>>=(bB<*QR hu1 (pv 3) (pv 8) (λ_ _=>rfl)<*pv 7)))<*>jY))))<|>(~~~(@cI _ _ _ _ (Qb (dM nz (pv 7) aC (aI _)) (eK oB (by rfl) T.aX nV (pv 6<|aq)) JP)))),?_⟩;exact eA (b:=Jd) (by delta Jd;o_norm) rfl h
variable {jk:Addr}{jl:FuncData}(fU:D63 K mg jk jl)(jm:G63 P w K mg base jk jl)
abbrev Jf:ai->Dm Fl :=
 (aV (aS (ae (ao ay (ag 0) #[3]) (ae (ao mD #[0] (ao ay (ag 0) #[1])) (ae (ao mD #[0] (ao ay (ag 0) #[2])) (ae (ao ay (ag 0) #[0]) ah))))))
abbrev LX:List D->Dm D:=dC 1 Jf
abbrev Jg:Stmt:=top 73
def Xbw:ax ["_law_table_here"] ["_law_table_here"] (aj Jg):=by walk
abbrev D64:=Gx1 "_law_undone" Jg ["_law_table_here"]
abbrev G64:=Gx2 ["_law_table_here"] 1 1 LX
def zbx(D:D64 K mg f fd)(T:Txt mg):G64 P w K mg base f fd:=Xbw|||(~~~(@cI _ _ _ _ (@cJ _ _ _ _ _ ((bB<*pv 0<*aC)<|bp u5 aC (bB<*pv 0<*aC)<|bp u5 aC (bB<*pv 0<*aC)<|(bB<*pv 0<*aC)<|aq))))|||Jf
variable {gR:Addr}{gT:FuncData}(d9:D64 K mg gR gT)(gU:G64 P w K mg base gR gT)
abbrev Jh:ai->Dm Fl :=
 (au (c7 (pY (az (aJ p5 (ae (ag 2) (ae (fC (.ty "tuple")) ah))))) (aV (fC (.bl false))) aO)
 (au (aA (aS (ae #[1] (ae #[0] (ae #[0] (ae #[1] ah))))) (hName 3))
 (au (bY (bT (ag 2)) (hName 4) (au (c7 (yW (pY (az (aJ p5 (ae (ag 4) (ae (fC (.ty "tuple")) ah))))) (yW (az (ao (gf true) (aJ cU (ae (ag 4) ah)) #[2])) (az (ao (tP false) (fC (.bl true)) (bU (bT (ag 4)) 1 [] (hName 0) b8 (aJ p5 (ae (ag 0) (ae (fC (.ty "bool")) ah)))))))) (aV (fC (.bl false))) aO)
 (au (c7 (yW (az (ao (wj true) (ao ay (ag 4) #[0]) (aJ gk (ae (aJ cU (ae (ag 0) ah)) ah)))) (az (ao (tP true) (ao ay (ag 4) #[1]) (aS (ae #[1] (ae (ao mD #[0] #[1]) ah)))))) (aV (fC (.bl false))) aO)
 (aA (aJ Hd (ae (ao bw (bL (ae (ao ay (ag 0) (ao ay (ag 4) #[0])) (ae (aJ LX (ae (ao ay (ag 0) (ao ay (ag 4) #[0])) ah)) ah))) (aJ nD (ae (ao xI (ao ay (ag 4) #[1]) #[0]) ah))) (ae (ag 3) ah))) (hName 3)))))
 (aV (ao (jP false) (ag 3) (ag 1))))))
abbrev DI:List D->Dm D:=dC 5 Jh
abbrev Ji:Stmt:=top 74
def LY:ax ["_law_makers_here","_law_table_here","_law_found","_law_come","_law_pair"] ["_law_makers_here","_law_table_here","_law_found"] (aj Ji):=by walk
abbrev D65:=Gx1 "_law_is_written" Ji ["_law_makers_here","_law_table_here","_law_found"]
abbrev G65:=Gx2 ["_law_makers_here","_law_table_here","_law_found"] 2 3 DI
include cm cP d9 gU in
def ybf(D:D65 K mg f fd)(T:Txt mg):G65 P w K mg base f fd:=LY|||((D1 (CP (jq OG (by rfl) T.kb M0 (pv 2<|MA (v:=.ty "tuple") rfl T.aX nV rfl<|aq)))<*>(~~~(@cI _ _ _ _ zU))<*>jY)<|>(3>>=LY>>=(@cJ _ _ _ _ _ (aC<|aC<|aC<|aC<|aq)))<|>(oJ (pv 2)&&&(b7 (i:=4) LY.nd rfl (by w_up))&&&((PW.pt (JR (D1 (CP (jq OG (by rfl) T.kb M0 (pv 4<|MA (v:=.ty "tuple") rfl T.aX nV rfl<|aq)))) (JR (dM Ei (jq mL (by rfl) T.bM mN (pv 4<|aq)) aC (aI _)) (MB (dM WX zU (rC (own:=["_law_one"]) (fr:=[]) (js:=[]) rfl (by k_in) (oJ (pv 4)) (λ_ _ _ _ _=>(b7 (i:=0) (show((["_law_one"]:List Str) ++ ([]:List Str)).Nodup by w_fin) rfl (by w_up))) (λ_ _ _ _ _=>rV) (λ_ _ _ _ _=>(jq (ZcI (K:=K) rfl) (by rfl) T.kb M0 (pv 0<|MA (v:=.ty "bool") rfl T.Ca Xo rfl<|aq)))) (by with_unfolding_all rfl)))))<*>(~~~(@cI _ _ _ _ zU))<*>jY)<|>(PW.pt (JR (dM Ym (bB<*pv 4<*aC) (eK EL (by rfl) T.aU vk (jq mL (by rfl) T.bM mN (pv 0<|aq)<|aq)) (by with_unfolding_all rfl)) (MB (dM Ew (bB<*pv 4<*aC) (@cJ _ _ _ _ _ (aC<|bp u5 aC aC<|aq)) (by with_unfolding_all rfl))))<*>(~~~(@cI _ _ _ _ zU))<*>jY)<|>(~~~(3>>=LY>>=bH cP cm hr ∅ rfl ((kW<*(@jG _ _ _ _ ((bB<*pv 0<*(bB<*pv 4<*aC))<|bH gU d9 hr ∅ rfl ((bB<*pv 0<*(bB<*pv 4<*aC))<|aq)<|aq))<*eK Ek (by rfl) T.rP EJ (xk Ad (bB<*pv 4<*aC) aC (aI _)<|aq))<|pv 3<|aq)))))<|>(~~~(@cI _ _ _ _ (xk (M5 hu) (pv 3) (pv 1) (aI _)))))|||Jh
variable {cW:Addr}{cX:FuncData}(cc:D65 K mg cW cX)(cY:G65 P w K mg base cW cX)
abbrev LZ:ai->Dm Fl :=
 (au (aA (aJ zx (ae (ag 0) (ae #[1] ah))) (hName 1))
 (au (aA (bL ah) (hName 2))
 (au (bY (bR (ae #[2] ah)) (hName 3) (au (aA (ao bw (bL (ae #[30] (ae #[60] ah))) (aJ nD (ae (ao (gf false) (aJ oP (ae (ag 1) (ae #[4] ah))) #[3]) ah))) (hName 4))
 (au (aA (aJ G2 (ae (ag 1) (ae (ag 4) ah))) (fX 2 (aM (hName 5) (aM (hName 6) gq))))
 (bF (iM "list" aL (ag 2) (ae (aS (ae (ag 5) (ae (ag 6) (ae (aJ (λas=>DC (as ++ [.int 60])) (ae (ag 5) ah)) (ae (aJ Ij (ae (ag 6) ah)) ah))))) ah))))))
 (au (bY (qF (ae #[2] (ae (aJ rJ (ae #[6] (ae (aJ tQ (ae #[10] (ae (aJ cU (ae (ag 0) ah)) ah))) ah))) ah))) (hName 7) (au (aA (aJ zx (ae (ag 0) (ae (ag 7) ah))) (hName 1))
 (au (aA (aJ oP (ae (ag 1) (ae #[2] ah))) (hName 8))
 (au (aA (aJ Ha (ae (ag 1) (ae (ao ay (ao bw (ag 2) (ag 8)) #[0]) (ae (ao ay (ao bw (ag 2) (ag 8)) #[1]) (ae (aJ Hj (ae (ag 1) (ae #[8] (ae #[4] ah)))) ah))))) (hName 9))
 (au (c7 (az (ao (gf false) (aJ oP (ae (ag 1) (ae #[4] ah))) #[0])) (aA (aS (ae (aS (ae (fC (.str "s")) (ae (ao nC (ao cy #[1] (aJ oP (ae (ag 1) (ae #[60] ah)))) (ao bw (bL (ae #[1] (ae (rH kX #[1]) ah))) (aJ oP (ae (ag 1) (ae #[2] ah))))) ah))) ah)) (hName 9)) aO)
 (au (aA (aJ zz (ae (ag 9) ah)) (hName 10))
 (bY (ju (bL (ae (ao bw (ag 2) #[0]) (ae (ao bw (ag 2) #[1]) (ae (ao bw (ag 2) #[0]) ah))))) (fX 4 (aM (hName 5) (aM (hName 6) (aM (hName 11) (aM (hName 12) gq))))) (au (aA (ao (jP false) (aJ wu (ae (aJ Ce (ae (ag 5) (ae (ag 9) ah))) ah)) (ao ay (ao ay (ag 6) #[0]) #[0])) (hName 13))
 (c7 (az (ao FF (aJ pD (ae (bU (bT (ag 10)) 1 [] (hName 0) b8 (aJ uy (ae (ag 0) ah))) ah)) #[1000])) (au (aA (aJ DH (ae (ag 11) (ae (ag 10) ah))) (hName 14))
 (c7 (yW (pZ (pY (az (ag 13))) (az (ao (sJ true) (ag 14) (fC .non)))) (pZ (az (ag 13)) (pY (az (aJ DI (ae (ag 12) (ae (ag 10) (ae (ag 14) ah)))))))) (aV (fC (.bl false))) aO)) aO)))))))))
 (aV (fC (.bl true)))))))
abbrev Pd:List D->Dm D:=dC 15 LZ
abbrev L0:Stmt:=top 75
def qN:ax ["_law_script","_law_feed_here","_law_floors","_law_turn","_law_most","_law_floor_here","_law_chart_here","_law_k","_law_at","_law_word_here","_law_table_here","_law_told","_law_makers_here","_law_due","_law_found"] ["_law_script"] (aj L0):=by walk
abbrev D66:=Gx1 "law" L0 ["_law_script"]
abbrev G66:=Gx2 ["_law_script"] 9 1 Pd
include eN h8 aE aG bG bN jT lZ dF eO h9 ko cn cQ ie ku eQ mq dZ gL fU jm cc cY in
def Ck(D:D66 K mg f fd)(T:Txt mg):G66 P w K mg base f fd:=by
 refine D.F.ok qN (λ_ _ _ _ h=>h.1) (λc A o s H v Q E hr h=>?_);have hu:=hr.units;refine⟨_,((1>>=qN>>=bH h8 eN hr ∅ rfl (pv 0<|aC<|aq))<|>(2>>=qN>>=(@jG _ _ _ _ aq))<|>(qV rfl T.aU (aC<|aq)&&&(b7 (i:=3) qN.nd rfl (by w_up))&&&((4>>=qN>>=(kW<*(@jG _ _ _ _ (aC<|aC<|aq))<*eK Ek (by rfl) T.rP EJ (xk nz (bH aG aE hr ∅ rfl (pv 1<|aC<|aq)) aC (aI _)<|aq)))<|>wH (bH lZ jT hr ∅ rfl (pv 1<|pv 4<|aq)) (qu (n:=2) rfl (iF (b7 (i:=5) qN.nd rfl (by w_up)) (iF (b7 (i:=6) qN.nd rfl (by w_up)) qr)))<|>(~~~pO (oC PySem.F.plainAttrs_list PySem.F.slot_list_append PySem.F.type_list_append pV (pv 2) ((@cJ _ _ _ _ _ (pv 5<|pv 6<|Yl mq (hr.mono ∅) rfl eQ.m eQ.F.kp eQ.bd yC (pv 5<|aq)<|bH gL dZ hr ∅ rfl (pv 6<|aq)<|aq))<|aq)))))<|>(Wz rfl T.aU (aC<|jq (Qr rfl) (by rfl) T.wo M1 (aC<|jq (WE rfl) (by rfl) T.wt M3 (aC<|jq mL (by rfl) T.bM mN (pv 0<|aq)<|aq)<|aq)<|aq)&&&(b7 (i:=7) qN.nd rfl (by w_up))&&&((1>>=qN>>=bH h8 eN hr ∅ rfl (pv 0<|pv 7<|aq))<|>(8>>=qN>>=bH aG aE hr ∅ rfl (pv 1<|aC<|aq))<|>(9>>=qN>>=bH ko h9 hr ∅ rfl (pv 1<|(bB<*(kW<*pv 2<*pv 8)<*aC)<|(bB<*(kW<*pv 2<*pv 8)<*aC)<|bH ku ie hr ∅ rfl (pv 1<|aC<|aC<|aq)<|aq))<|>(dM nz (bH aG aE hr ∅ rfl (pv 1<|aC<|aq)) aC (aI _)<*>(~~~(9>>=qN>>=(@cJ _ _ _ _ _ ((@cJ _ _ _ _ _ (o9<|bp u6 (bp mE aC (bH aG aE hr ∅ rfl (pv 1<|aC<|aq))) (kW<*(@jG _ _ _ _ (aC<|sU sW aC<|aq))<*bH aG aE hr ∅ rfl (pv 1<|aC<|aq))<|aq))<|aq))))<*>jY)<|>(10>>=qN>>=bH cQ cn hr ∅ rfl (pv 9<|aq))<|>(~~~(Ec (@jG _ _ _ _ ((kW<*pv 2<*aC)<|(kW<*pv 2<*aC)<|(kW<*pv 2<*aC)<|aq))&&&qu (n:=4) rfl (iF (b7 (i:=5) qN.nd rfl (by w_up)) (iF (b7 (i:=6) qN.nd rfl (by w_up)) (iF (b7 (i:=11) qN.nd rfl (by w_up)) (iF (b7 (i:=12) qN.nd rfl (by w_up)) qr))))&&&((13>>=qN>>=xk (M5 hu) (bH bN bG hr ∅ rfl (bH eO dF hr ∅ rfl (pv 5<|pv 9<|aq)<|aq)) (bB<*(bB<*pv 6<*aC)<*aC) (aI _))<|>(~~~(dM yo (jq (Yd rfl) (by rfl) T.wo M1 (rC (own:=["_law_one"]) (fr:=[]) (js:=[]) rfl (by k_in) (oJ (pv 10)) (λ_ _ _ _ _=>(b7 (i:=0) (show((["_law_one"]:List Str) ++ ([]:List Str)).Nodup by w_fin) rfl (by w_up))) (λ_ _ _ _ _=>rV) (λ_ _ _ _ _=>(jq Qq (by rfl) T.zw Rj (pv 0<|aq)))<|aq)) aC (aI _)<*>((14>>=qN>>=bH jm fU hr ∅ rfl (pv 11<|pv 10<|aq))<|>(~~~(PW.pt (JR (PW.pt (D0 (D1 (CP (pv 13))) (DZ (dM XcH (pv 14) JP (aI _))))) (MB (PW.pt (D0 (CP (pv 13)) (DZ (D1 (CP (bH cY cc hr ∅ rfl (pv 12<|pv 10<|pv 14<|aq)))))))))<*>(~~~(@cI _ _ _ _ zU))<*>jY)))<*>jY)))))))<|>(~~~(@cI _ _ _ _ zU))),?_⟩
 exact eA (b:=LZ) (lu (nE (oU (F:=zx) (bu (bI 0) (bu (g9 _) cT)) uF) (iG 1))
  (lu (nE (uM cT) (iG 2))
  (lu (wX (FK (bu (g9 _) cT)) (iG 3) (lu (nE (iK tO (uM (bu (g9 _) (bu (g9 _) cT))) (rZ Ob (bu (iK y8 (oU (F:=oP) (bu (bI 1) (bu (g9 _) cT)) uF) (g9 _)) cT))) (iG 4))
  (lu (nE (oU (F:=G2) (bu (bI 1) (bu (bI 4) cT)) uF) (A8 (tR (iG 5) (tR (iG 6) A7))))
  (Di (Dg Dh (bI 2) (bu (tL (bu (bI 5) (bu (bI 6) (bu (xcZ (m:=1) (F:=DC) (La:=[.int 60]) (bu (bI 5) cT) B9 rfl (λ_ _=>.cons (.int _) (.nil))) (bu (oU (F:=Ij) (bu (bI 6) cT) B9) cT))))) cT))))))
  (lu (wX (Zh (bu (g9 _) (bu (rZ Oa (bu (g9 _) (bu (rZ Zc (bu (g9 _) (bu (rZ zb (bu (bI 0) cT)) cT))) cT))) cT))) (iG 7) (lu (nE (oU (F:=zx) (bu (bI 0) (bu (bI 7) cT)) uF) (iG 1))
  (lu (nE (oU (F:=oP) (bu (bI 1) (bu (g9 _) cT)) uF) (iG 8))
  (lu (nE (oU (F:=Ha) (bu (bI 1) (bu (iK sG (iK tO (bI 2) (bI 8)) (g9 _)) (bu (iK sG (iK tO (bI 2) (bI 8)) (g9 _)) (bu (oU (F:=Hj) (bu (bI 1) (bu (g9 _) (bu (g9 _) cT))) O7) cT)))) O8) (iG 9))
  (lu (vR (tM (iK y8 (oU (F:=oP) (bu (bI 1) (bu (g9 _) cT)) uF) (g9 _))) (nE (tL (bu (tL (bu (Fz _) (bu (iK N4 (iK FG (g9 _) (oU (F:=oP) (bu (bI 1) (bu (g9 _) cT)) uF)) (iK tO (uM (bu (g9 _) (bu (Kw Kz (g9 _)) cT))) (oU (F:=oP) (bu (bI 1) (bu (g9 _) cT)) uF))) cT))) cT)) (iG 9)) wV)
  (lu (nE (oU (F:=zz) (bu (bI 9) cT) B9) (iG 10))
  (wX (Oe (uM (bu (iK tO (bI 2) (g9 _)) (bu (iK tO (bI 2) (g9 _)) (bu (iK tO (bI 2) (g9 _)) cT))))) (A8 (tR (iG 5) (tR (iG 6) (tR (iG 11) (tR (iG 12) A7))))) (lu (nE (iK (KA false) (oU (F:=wu) (bu (oU (F:=Ce) (bu (bI 5) (bu (bI 9) cT)) uF) cT) B9) (iK sG (iK sG (bI 6) (g9 _)) (g9 _))) (iG 13))
  (vR (tM (iK N7 (rZ Xds (bu (KD (Dj (bI 10)) (iG 0) KH (rZ OD (bu (bI 0) cT))) cT)) (g9 _))) (lu (nE (oU (F:=DH) (bu (bI 11) (bu (bI 10) cT)) uF) (iG 14))
  (vR (N2 (FC (Ky (FA (bI 13))) (tM (iK (OC true) (bI 14) NZ))) (FC (FA (bI 13)) (Ky (FA (oU (F:=DI) (bu (bI 12) (bu (bI 10) (bu (bI 14) cT))) O7))))) (wW (Kv _)) wV)) wV)))))))))
  (wW (Kv _)))))) rfl h
end
def rQ(hf:a6 st f)(h0:0<n)(h1:n<1073741824):Wp (oP [.ref f,.int n] st) λd st'=>∃k:Int,d=.int k/\0<=k/\k<n/\a6 st' f/\Ex [f] st st':=by obtain⟨o,m,e,o0,m0,m1⟩:=hf;have hfl:=dc e;refine Oo ?_;show Ws (Gz [some (.ref f),some (.int n),none,none] st) _ _ _ _;unfold Gz;refine aP (gu ?_);exists bx e,j8 e;refine⟨λho=>?_,λho=>?_⟩;refine aP (bj ?_);exists bx e;refine⟨h0,aP (uO ?_)⟩;exists bx e,j8 e,(show oA [D.int o,D.int m].length 0=some 0 from F6);refine⟨⟨h0,h1⟩,cV ?_⟩;w_how;refine⟨Zbf _ ⋯,Zbq _ h0,⟨o / n,m,?_,Int.ediv_nonneg o0 ⋯,m0,m1⟩,Ex.refl.put (by simp)⟩;rw[Zaj hfl];refine jv (aP (bj ?_));exists bx e;refine⟨by lk,by lk,aP (uO ?_)⟩;exists bx e,j8 e,(show oA [D.int o,D.int m].length 1=some 1 from F7);refine⟨by lk,by lk,cV ?_⟩;have e2:(st.set f (.lst [.int o,.int ((m*48271 % 2147483647*40692+30103) % 2147483399+1)]))[f]?=some (.lst [.int o,.int ((m*48271 % 2147483647*40692+30103) % 2147483399+1)]):=Zaj hfl;exists bx e2;refine⟨by lk,by lk,h0,Zbf _ ⋯,Zbq _ h0,⟨_,_,e2,o0,by lk,by lk⟩,Ex.refl.put (by simp)⟩
def U3{st:Store}{a:Nat}{ns:List Int}{k:Nat}(hs:items st a=some (ns.map D.int))(hk:k<=100):Wp (zx [.ref a,.int (k:Int)] st) λd st'=>d=.ref st.length/\a6 st' st.length/\Ex [] st st':=by
 refine Oo ?_;show Ws (Gx [some (.ref a),some (.int (k:Int)),none,none] st) _ _ _ _;unfold Gx;refine aP (bj ?_);w_how;refine⟨by lk,aP (Bm (N:=λU st1=>st1=st/\∃c:Int,U=[some (.ref a),some (.int (k:Int)),some (.int c),none]) (gu ?_) ?_)⟩;exists hs;refine⟨λh=>bj ?_,λh=>gu ?_⟩;have h:=of_decide_eq_true h;rw[Zaa]at h;exists hs;refine⟨.int (ns[k]'⋯),CV (by rw[Zag,Zac];rfl),_,rfl⟩;exists hs;refine⟨λh=>bj ?_,λh=>jv ⟨rfl,_,rfl⟩⟩;have h:=of_decide_eq_true h;obtain⟨v,hv,hm⟩:=Av (xs:=ns.map D.int) (i:=(k:Int) % ((ns.map D.int).length:Int)) (Zbf _ ⋯) (Zbq _ h);obtain⟨c,_,rfl⟩:=Zaw.mp hm;exists hs;refine⟨h,_,hv,?_⟩;w_how;exact⟨by lk,by lk,by lk,_,rfl⟩;rintro U st1 ⟨rfl,c,rfl⟩;refine aP (bj ?_);w_how;refine aP (Bm (N:=λU st2=>st2=st1/\∃o:Int,0<=o/\U=[some (.ref a),some (.int (k:Int)),some (.int c),some (.int o)]) (gu ?_) ?_);w_how;refine⟨by decide,λh=>bj ?_,λh=>jv ⟨rfl,0,by decide,rfl⟩⟩;have h:=of_decide_eq_true h;w_how;exact⟨c,Int.le_trans ∅ h,rfl⟩;rintro U st2 ⟨rfl,o,o0,rfl⟩;refine cV ?_;w_how;have h1:0<=c % 2147483629:=Zbf _ ∅;have h2:c % 2147483629<2147483629:=Zbq _ ∅;refine⟨by lk,by lk,by lk,by lk,by lk,by rfl,⟨_,_,fW,o0,?_,?_⟩,Ex.bZ _⟩
 have:=Zbf ((c % 2147483629*48271+40692*(k:Int)) ^ (5:Int).toNat) (show(2147483629:Int)≠0 by decide)
 lk
 have:=Zbq ((c % 2147483629*48271+40692*(k:Int)) ^ (5:Int).toNat) (show(0:Int)<2147483629 by decide)
 lk
def U4{st:Store}{f:Nat}{n:Nat}(hf:a6 st f)(hn:n<=100):Wp (GD [.ref f,.int (n:Int)] st) λd st'=>∃xs:List Int,d=.tup (xs.map D.int)/\af.Tn n xs/\a6 st' f/\Ex [f] st st':=by
 have hfl:=hf.lt;refine eI ?_;intro qR;show Ws (GB [some (.ref f),some (.int (n:Int)),none,none] st) _ _ _ _;unfold GB;refine aP (bj ?_);w_how;have e1:((n:Int)-0).toNat=n:=by lk
 rw[e1,ux];refine⟨by unfold r6;rw[ZaC,decide_eq_true_eq];exact⟨by lk,jH ⋯⟩,aP (bj ?_)⟩;w_how;refine⟨rfl,aP (zk (λm U st2=>∃L xs:List Int,m=L.length/\U=[some (.ref f),some (.int (n:Int)),some (.ref (st ++ [O.j5 0 (n:Int)]).length),some (.tup (xs.map D.int))]/\st2[(st ++ [O.j5 0 (n:Int)]).length]?=some (.lst (L.map D.int))/\(xs ++ L).Perm (af.upto n)/\a6 st2 f/\Ex [f] st st2) n (Za9 hn ∅) ⟨af.upto n,[],(af.rD n).symm,rfl,fW,Zca _,hf.keep ((Ex.bZ _).app _),(Ex.bZ _).app _⟩ ?_)⟩;have hl:(st ++ [O.j5 0 (n:Int)]).length≠f:=by rw[Zae];lk
 have hls:st.length<=(st ++ [O.j5 0 (n:Int)]).length:=by rw[Zae];lk
 generalize (st ++ [O.j5 0 (n:Int)]).length=l at hl hls ⊢;rintro m U st2 ⟨L,xs,rfl,rfl,hL,pm,hf2,k2⟩;have hlen:(xs ++ L).length=n:=by rw[pm.length_eq,af.rD]
 rw[Zae]at hlen;exists _,Z,TJ (L:=L) (M:=[]) (st:=st2 ++ [O.lst []]) (bx (j4 hL)) tW;refine⟨rfl,Z _ _ ⟨λh=>?_,λh=>?_⟩⟩;have hne:L≠[]:=by simpa using h
 have hpos:0<L.length:=List.length_pos_iff.mpr hne;have L3:(st2 ++ [O.lst []])[l]?=some (.lst (L.map D.int)):=j4 hL;have f3:a6 (st2 ++ [O.lst []]) f:=hf2.keep (Ex.bZ _);have k3:Ex [f] st (st2 ++ [O.lst []]):=k2.app _;generalize (st2 ++ [O.lst []])=st3 at L3 f3 k3 ⊢;refine bj ?_;exists _,Z,bx L3;refine⟨nW (by rw[bx L3];rfl),?_⟩;refine aR (rQ (n:=((L.map D.int).length:Int)) f3 (by rw[Zaa];lk) (by rw[Zaa];lk)) ?_;rintro d oH ⟨k,rfl,k0,k1,f4,k4⟩;rw[Zaa]at k1;have U5:=k4.keep _ _ L3 (by simpa using hl);have pW:k.toNat<L.length:=by lk
 exists j8 U5;have hk':((k.toNat:Nat):Int)=k:=ZaG k0;refine⟨by lk,k.toNat,?_,D.int L[k.toNat],by rw[Zag,Zac pW];rfl,rfl,jH ?_,Z _ _ ⟨(L.eraseIdx k.toNat).length,?_,L.eraseIdx k.toNat,xs ++ [L[k.toNat]],rfl,?_,?_,?_,?_,?_⟩⟩;rw[<- hk',Zat];exact(MO (C1 (by rw[Zaa];exact pW))).1;simp only[Zaa,ZaD,Zcv];lk;rw[List.length_eraseIdx,if_pos pW];lk;rw[Zap];rfl;rw[Zaj (dc U5),Z2];refine List.Perm.trans ?_ pm;rw[ZbF];exact List.Perm.append_left xs (Z3 pW);exact f4.ne hl;exact(k3.trans k4).loc hls;have he:L=[]:=by simpa using h
 subst he;refine cV ?_;k_lt Z;exact Z _ _ ⟨xs,rfl,by simpa[af.Tn]using pm,hf2.keep (Ex.bZ _),k2.app _⟩
def Ydv(tx:af.Tn n xs)(ty:af.Tn n ys)(n0:0<n)(hn:n<=100):Wp (Cb [bS xs ys] st) λd st'=>∃(g:Nat) (F:List Int),d=.ref g/\items st' g=some (F.map D.int)/\(∀x,x∈F↔af.kZ xs ys x)/\F.length<=n/\af.Od xs ys F/\Ex [] st st':=by
 have hlx:=tx.length;have DJ:=ty.length;refine eI ?_;intro qR;show Ws (GG [some (bS xs ys),none,none,none,none] st) _ _ _ _;unfold GG;refine aP (bj ?_);k_lt Z
 let iL:IV:=λi U st2=>∃(v2 v3 v4:Option D) (F:List Int),U=[some (bS xs ys),some (.ref st.length),v2,v3,v4]/\st2[st.length]?=some (.lst (F.map D.int))/\af.Fo xs ys F/\(af.Cl xs ys F\/i+1<=F.length)/\Ex [] st st2
 refine⟨rfl,Z _ _ (aP (lU (aH 0 (n+1)) iL ?_ ?_ ?_ ?_))⟩;unfold bS;k_lt Z;have e0:((1:Int)+((xs.map D.int).length:Int)).toNat=n+1:=by rw[Zaa];lk
 refine⟨by rw[Zaa];lk,Z _ _ ⟨by rw[e0],none,none,none,[0],rfl,fW,af.Fo.one xs ys,.inr (Zad _),Ex.bZ _⟩⟩;rw[gs];lk;rintro i d U st2 hd ⟨v2,v3,v4,F,rfl,zD,hF,hcl,k2⟩;k_lt Z
 refine Z _ _ (lU [.tup (xs.map D.int),.tup (ys.map D.int)] (λm U st3=>∃ (v3 v4:Option D) (G:List Int),U=[some (bS xs ys),some (.ref st.length),some d,v3,v4]/\st3[st.length]?=some (.lst (G.map D.int))/\af.Fo xs ys G /\
   (m=0->G=F)/\(m=1->F <+: G/\∀x∈F,af.app xs x∈G)/\(2<=m->∃F1,F <+: F1/\F1 <+: G/\(∀x∈F,af.app xs x∈F1)/\∀x∈F1,af.app ys x∈G)/\Ex [] st st3) ?_ (by simp) ?_ ?_)
 unfold bS;k_lt Z;exact Z _ _ ⟨rfl,v3,v4,F,rfl,zD,hF,λ_=>rfl,λz=>by lk,λz=>by lk,k2⟩;rintro m z U st3 hm ⟨v3,v4,G,rfl,wy,hG,m0,m1,_,k3⟩;have hm2:m<2:=dc hm;obtain⟨zs,rfl,hz,em⟩:∃(zs:List Int),z=.tup (zs.map D.int)/\(zs=xs\/zs=ys)/\((m=0/\zs=xs)\/(m=1/\zs=ys)):=by
  rcases(show m=0\/m=1 by lk)with rfl|rfl
  exact⟨xs,by simpa using hm.symm,.inl rfl,.inl ⟨rfl,rfl⟩⟩;exact⟨ys,by simpa using hm.symm,.inr rfl,.inr ⟨rfl,rfl⟩⟩
 have tz:af.Tn n zs:=by rcases hz with rfl|rfl;exact tx;exact ty
 have U6:=tz.length;have go:∀x,af.kZ xs ys x->af.kZ xs ys (af.app zs x):=λx h=>by rcases hz with rfl|rfl;exact h.r;exact h.u
 k_lt Z
 let xY:IV:=λj U oH=>∃(v4:Option D) (G':List Int),U=[some (bS xs ys),some (.ref st.length),some d,some (.tup (zs.map D.int)),v4]/\oH[st.length]?=some (.lst (G'.map D.int))/\oH[st3.length]?=some (.lst (G.map D.int))/\af.Fo xs ys G'/\G <+: G'/\(∀i',i' < j->∀x,G[i']?=some x->af.app zs x∈G')/\Ex [] st oH
 refine Z _ _ (KN (G.map D.int) st3.length xY ?_ ?_ ?_ ?_ ?_);exists _,Z,bx wy;exact Z _ _ ⟨rfl,v4,G,rfl,j4 wy,fW,hG,Zcc _,λi' h=>absurd h (ZaV _),k3.app _⟩;rw[Zaa]
 have:=hG.len tx ty n0;lk
 rintro j U oH ⟨_,_,_,_,h,_⟩;exact bx h;rintro j y0' U oH hj0 ⟨v4,G',rfl,wz,uR,Cm,pG,hd',k4⟩;obtain⟨y,hj,rfl⟩:=F8 hj0;have hjl:=dc hj;have hR:=hG.mt _ (Zai hj);obtain⟨y0,y1⟩:=hR.bound tx ty n0;have at':=rL (xs:=zs) y0 (by rw[U6];exact y1);have hnext:∀L5:List Int,G' <+: L5->af.app zs y∈L5->∀i',i' < j+1->∀x,G[i']?=some x->af.app zs x∈L5:=λL5 p h i' hi' x hx=>by
  by_cases e:i'=j;subst e;rw[hj]at hx;cases hx;exact h;exact p.subset (hd' i' ⋯ x hx)
 k_lt Z;refine Z _ _ (gu ?_);exists _,b9,at',F9 (st:=oH) (c:=.ref st.length) (ns:=G') (bx wz);refine b9 _ _ ⟨λhcn=>?_,λhcn=>?_⟩;have hnm:af.app zs y ∉ G':=λz=>by rw[Za6.mpr z]at hcn;cases hcn
 have U7:af.Fo xs ys (G' ++ [af.app zs y]):=by
  refine⟨⟨Zbr _ Cm.z,?_,λx hx=>?_⟩,Cm.od.snoc (pG.subset (Zai hj)) (hz.imp (λe=>by rw[e]) λe=>by rw[e])⟩;rw[Zcl];refine⟨Cm.nd,by simp,λx hx y' hy e=>hnm ?_⟩;have e2:y'=af.app zs y:=by simpa using hy
  rw[<- e2,<- e];exact hx;rcases Zax.mp hx with h|h
  exact Cm.mt x h;have e2:x=af.app zs y:=by simpa using h
  rw[e2];exact go _ hR
 have hlen2:=U7.len tx ty n0;rw[Zae]at hlen2;refine pS ?_;exists _,wA,at',j8 wz;refine⟨nW (by rw[bx wz];rfl),jH (by rw[Zaa];simp at hlen2;lk),wA _ _ ⟨_,G' ++ [af.app zs y],rfl,?_,?_,U7,pG.trans (ZbZ _ _),hnext _ (ZbZ _ _) (by simp),k4.loc (Zad _)⟩⟩;rw[Zaj (dc wz),Zap];rfl;rw[Zal (by have:=dc wy;lk)];exact uR;have hcn:G'.contains (af.app zs y)=true:=by simpa using hcn
 exact jv ⟨_,G',rfl,wz,uR,Cm,pG,hnext G' (Zcc _) (Za6.mp hcn),k4⟩;rintro U oH ⟨v4,G',rfl,wz,uR,Cm,pG,hd',k4⟩;rw[Zaa]at hd';have hall:∀x∈G,af.app zs x∈G':=λx hx=>by
  obtain⟨i',hi',e⟩:=Zbo hx;exact hd' i' hi' x (by rw[Zac hi',e])
 refine⟨_,_,G',rfl,wz,Cm,λz=>by lk,λz=>?_,λz=>?_,k4⟩;rcases em with⟨rfl,rfl⟩|⟨rfl,_⟩
 have:=m0 rfl
 subst this;exact⟨pG,hall⟩;lk;rcases em with⟨rfl,_⟩|⟨rfl,rfl⟩
 lk;obtain⟨p1,c1⟩:=m1 rfl;exact⟨G,p1,pG,c1,hall⟩;rintro U st3 ⟨v3,v4,G,rfl,wy,hG,_,_,m2,k3⟩;obtain⟨F1,p1,p2,c1,c2⟩:=m2 (Zad 2);exact⟨_,_,_,G,rfl,wy,hG,af.round hF.toFd hG.toFd p1 p2 c1 c2 hcl,k3⟩;rintro U st2 ⟨v2,v3,v4,F,rfl,zD,hF,hcl,k2⟩;rw[gs]at hcl;have hl:=hF.len tx ty n0;have hc:af.Cl xs ys F:=hcl.resolve_right ⋯;refine cV ?_;k_lt Z;exact Z _ _ ⟨_,F,rfl,bx zD,λx=>⟨hF.mt x,λh=>hc.all hF.z h⟩,hl,hF.od,k2⟩
def yc1(tx:af.Tn n xs)(ty:af.Tn n ys)(n0:0<n)(hn:n<=100):Wp (Cb [bS xs ys] st) λd st'=>∃(g:Nat) (F:List Int),d=.ref g/\items st' g=some (F.map D.int)/\(∀x,x∈F↔af.kZ xs ys x)/\F.length<=n/\Ex [] st st' :=
 aR (Ydv tx ty n0 hn) λd st' ⟨g,F,h1,h2,h3,h4,_,h5⟩=>⟨g,F,h1,h2,h3,h4,h5⟩
def U8(tX:af.Tn n X)(tY:af.Tn n Y)(n0:0<n)(hn:n<=100)(h1:U[1]?=some (some (.int (n:Int))))(h6:U[6]?=some (some (bS X Y)))
  (q:∀(L:List Int) (st':Store),L.length<=n->L.Nodup->(∀x,x∈L↔(0<=x/\x<(n:Int)/\¬af.kZ X Y x))->Ex [] st st'->Q (.ref st'.length) (st' ++ [.lst (L.map D.int)])) :
  Wp (bU (bR (ae (ag 1) ah)) 1 [6] (hName 0) (az (ao (tP true) (ag 0) (aJ Cb (ae (ag 1) ah)))) (ag 0) U st) Q:=by
 have h6':U.getD 6 none=some (bS X Y):=by rw[Zaf,h6];rfl
 refine Dn (aH 0 n) (λj zs U' iH=>∃(v:Option D) (L:List Int),U'=[v,some (bS X Y)]/\zs=L.map D.int/\L.length<=j/\L.Nodup/\(∀x,x∈L↔(0<=x/\x<(j:Int)/\¬af.kZ X Y x))/\Ex [] st iH) ?_ (by rw[gs];lk) ?_ ?_ ?_;exists _,Z,h1;refine⟨by lk,Z _ _ ⟨λi ys U st hi _=>?_,none,[],?_,rfl,Zad _,List.nodup_nil,λx=>⟨(λh=>nomatch h),λh=>by lk⟩,Ex.refl⟩⟩;rw[Zat];show(if i<=(aH 0 n).length then some (aH 0 n)[i]? else none)=_;rw[if_pos hi];unfold rK;simp only[Zaz,ZaW,h6'];rfl;rintro j zs U' iH ⟨v,L,_,rfl,hl,_⟩;rw[Zaa];exact hl;rintro j d zs U' iH hd ⟨v,L,rfl,rfl,pE,nd,hL,k8⟩;have hjl:=dc hd;rw[gs]at hjl;rw[zf hjl]at hd;cases hd;rw[ZbC];k_lt Z;refine Z _ _ ?_;k_lt b9;refine aR (yc1 (st:=iH) tX tY n0 hn) ?_;rintro d qZ ⟨g,F,rfl,hg,hF,hFl,k9⟩;rw[F9 (c:=.ref g) (ns:=F) hg];refine⟨_,rfl,b9 _ _ ⟨λhc=>?_,λhc=>?_⟩⟩;have hR:¬af.kZ X Y (j:Int):=λh=>by rw[Za6.mpr ((hF _).mpr h)]at hc;cases hc
 k_lt wA;refine wA _ _ ⟨_,L ++ [(j:Int)],rfl,by rw[Zap];rfl,by rw[Zae];simp;lk,?_,λx=>?_,k8.trans k9⟩;rw[Zcl];refine⟨nd,by simp,λx hx y hy e=>?_⟩;have e2:y=(j:Int):=by simpa using hy
 have:=((hL x).mp hx).2.1;lk
 rw[Zax,hL x];constructor;rintro(⟨a1,a2,a3⟩|h);exact⟨a1,by lk,a3⟩;have e2:x=(j:Int):=by simpa using h
 rw[e2];exact⟨by lk,by lk,hR⟩;rintro⟨a1,a2,a3⟩;rcases Int.lt_or_le x (j:Int)with h|h
 exact .inl ⟨a1,h,a3⟩;exact .inr (by simp;lk);have hc:F.contains (j:Int)=true:=by simpa using hc
 have hR:=(hF _).mp (Za6.mp hc);refine⟨_,L,rfl,rfl,by lk,nd,λx=>?_,k8.trans k9⟩;rw[hL x];constructor;rintro⟨a1,a2,a3⟩;exact⟨a1,by lk,a3⟩;rintro⟨a1,a2,a3⟩;refine⟨a1,?_,a3⟩;rcases Int.lt_or_le x (j:Int)with h|h
 exact h;exact absurd hR (by rw[show(j:Int)=x by lk];exact a3);rintro zs U' iH ⟨v,L,rfl,rfl,pE,nd,hL,k8⟩;rw[gs]at pE hL;exact q L iH pE nd hL k8
abbrev Ev(f:ai->Dm D)(U:ai)(d:D):Prop:=∀st,f U st=some (d,st)
abbrev Mk(f:ai->Dm D)(U:ai)(xs:List D):Prop:=∀st,∃r st',f U st=some (.ref r,st')/\Ex [] st st'/\st.length<=r/\st'[r]?=some (.lst xs)
section
variable {U:ai}{f g fa fb:ai->Dm D}{xs ys:List D}{d:D}{i j:Int}{st:Store}
def um(h:U[k]?=some (some d)):Ev (ag k) U d:=λst=>by unfold ag;rw[h]
def qO:Ev (fC d) U d:=λ_=>rfl
def Cn(a:Ev fa U (.int i))(b:Ev fb U (.int j)):Ev (ao cy fa fb) U (.int (i+j)):=λst=>by unfold ao;rw[a];show bnd (fb U st) _=_;rw[b];rfl
def Ev.wp(a:Ev f U d)(q:Q d st):Wp (f U st) Q:=⟨d,st,a st,q⟩
def Mk.wp(a:Mk f U xs)(q:∀r st',Ex [] st st'->st.length<=r->st'[r]?=some (.lst xs)->Q (.ref r) st'):Wp (f U st) Q :=
 let ⟨r,s,e,h1,h2,h3⟩:=a st;⟨_,s,e,q r s h1 h2 h3⟩
def L6(h:∀st,Wp (f U st) λd s=>∃r,d=.ref r/\Ex [] st s/\st.length<=r/\s[r]?=some (.lst xs)):Mk f U xs:=λst =>
 let ⟨_,s,e,r,e2,q⟩:=h st;⟨r,s,e2 ▸ e,q⟩
def U9(h:∀st,Wp (aJ gr fr U st) λd s=>d=.ref st.length/\s=st ++ [.j5 i j])(ok:r6 i j=true):Mk (aJ c9 (ae (aJ gr fr) ah)) U (aH i (j-i).toNat):=L6 λst=>by
 rw[Dk,uN];refine aR (h st) ?_;rintro d s ⟨rfl,rfl⟩;w_how;exact⟨ok,(Ex.bZ _).app _,by rw[Zae];exact Zcq _ _,fW⟩
def DK(a:Ev fa U (.int i))(b:Ev fb U (.int j))(ok:r6 i j=true):Mk (aJ c9 (ae (aJ eX (ae fa (ae fb ah))) ah)) U (aH i (j-i).toNat):=by refine U9 (λst=>?_) ok;rw[Dk,uN];refine a.wp ?_;rw[uN];refine b.wp ?_;w_how
def Va(b:Ev fb U (.int j))(ok:r6 0 j=true):Mk (aJ c9 (ae (aJ gk (ae fb ah)) ah)) U (aH 0 (j-0).toNat):=by refine U9 (λst=>?_) ok;rw[Dk,uN];refine b.wp ?_;w_how
def Jk(a:Ev fa U d):Mk (bL (ae fa ah)) U [d]:=L6 λst=>by
 rw[S7,uN];refine a.wp ?_;w_how;exact⟨rfl,Ex.bZ _,Zad _,fW⟩
def Cp(a:Mk f U xs)(b:Mk g U ys)(l:xs.length+ys.length<=100000):Mk (ao pA f g) U (xs ++ ys):=L6 λst=>by
 rw[KI];refine a.wp λr s e h hr=>b.wp λr2 s2 e2 h2 hr2=>Td.mpr ⟨xs,ys,j8 (e2.keep _ _ hr (by simp)),j8 hr2,jH l,_,rfl,(e.trans e2).app _,Zaq e.len e2.len,fW⟩
def Jl(a:Mk f U xs)(b:Ev fb U (.int j)):Mk (C8 vQ f nB (qe fb)) U (cutD xs none (some j)):=L6 λst=>by
 rw[zi];refine a.wp λr s e h hr=>?_;rw[S8,S9];refine b.wp ⟨_,rfl,Tc.mpr ⟨xs,bx hr,_,rfl,e.app _,e.len,fW⟩⟩
end
def Cq(h:r9 mK st f r u n X Y)(e:Ex [] st st')(hl:st.length<=r')(hr:st'[r']?=some (.lst (Z.map D.int)))(t:af.Tn n Z):r9 mK st' f r' u n Z Y:=⟨hr,e.keep _ _ h.hu (by simp),λz=>ZbD _ (ZaI (dc h.hu) (z ▸ hl)),Zaq h.ex.len hl,h.u0,t,h.tY,h.fd.keep e,h.ex.trans e.any⟩
def Cr(h:r9 mK st f r u n X Y)(e:Ex [] st st')(hl:st.length<=u')(hr:st'[u']?=some (.lst (Z.map D.int)))(t:af.Tn n Z):r9 mK st' f r u' n X Z:=⟨e.keep _ _ h.hr (by simp),hr,λz=>ZbD _ (ZaI (dc h.hr) (z ▸ hl)),h.r0,Zaq h.ex.len hl,h.tX,t,h.fd.keep e,h.ex.trans e.any⟩
def Vb{st:Store}{f n:Nat}(hf:a6 st f)(n1:1<=n)(n20:n<=20):Wp (GK [.ref f,.int (n:Int)] st) λd st'=>∃xs ys:List Int,d=bS xs ys/\p4 n xs ys/\a6 st' f/\Ex [f] st st':=by
 have hfl:=hf.lt;refine eI ?_;intro qR;show Ws (GJ [some (.ref f),some (.int (n:Int)),none,none,none,none,none,none,none] st) _ _ _ _;unfold GJ;refine aP (bj ?_);k_lt Z;refine aR (rQ (n:=6) hf ∅ ∅) ?_;rintro d st1 ⟨form,rfl,g0,g6,f1,k1⟩;refine Z _ _ (aP (Te ?_));k_lt2 Z;refine aR (U4 (n:=n) f1 ⋯) ?_;rintro d st2 ⟨X,rfl,tX,f2,k2⟩;w_how;refine aR (U4 (n:=n) (f2.keep (Ex.bZ [.lst (X.map D.int)])) ⋯) ?_;rintro d st3 ⟨Y,rfl,tY,f3,k3⟩;w_how;refine Z _ _ ⟨_,_,rfl,?_⟩;clear Z;have rR:st3[st2.length]?=some (.lst (X.map D.int)):=k3.keep _ _ fW (by have:=f2.lt;simp;lk);have two:r9 st (st3 ++ [.lst (Y.map D.int)]) f st2.length st3.length n X Y:=⟨j4 rR,fW,by have:=dc rR;lk,(k1.trans k2).len,((k1.trans k2).trans ((Ex.bZ _).trans k3)).len,tX,tY,f3.keep (Ex.bZ _),(((k1.trans k2).app _).trans k3).app _⟩;show Ws _ _ _ _ _;generalize (st3 ++ [O.lst (Y.map D.int)])=oH at two ⊢;generalize st2.length=r at two ⊢;generalize st3.length=u at two ⊢;clear rR tX tY f3 k3 f2 k2 f1 k1
 let iL:IN:=λU mH=>∃(r u:Nat) (X Y:List Int),U=[some (.ref f),some (.int (n:Int)),some (.int form),some (.ref r),some (.ref u),none,none,none,none]/\r9 st mH f r u n X Y
 refine aP (Bm (N:=iL) (gu ?_) ?_);k_lt Z;refine Z _ _ ⟨λ_=>bj ?_,λ_=>jv ⟨r,u,X,Y,rfl,two⟩⟩;have m:=Cp (DK (U:=[some (.ref f),some (.int (n:Int)),some (.int form),some (.ref r),some (.ref u),none,none,none,none]) (qO (d:=.int 1)) (um (k:=1) rfl) (xO ⋯)) (Jk (qO (d:=.int 0))) (by rw[gs];simp;lk);rw[<- TK]at m;exact m.wp λr' s' e hl hr=>⟨r',u,_,Y,rfl,Cq two e hl hr (af.RK (show n<21 by lk) ⋯)⟩;rintro U mH ⟨r,u,X,Y,rfl,two⟩
 let xY:IN:=λU mH=>∃(r u:Nat) (X Y:List Int),U=[some (.ref f),some (.int (n:Int)),some (.int form),some (.ref r),some (.ref u),none,none,none,none]/\r9 st mH f r u n X Y
 refine aP (Bm (N:=xY) (gu ?_) ?_);k_lt Z;refine Z _ _ ⟨λ_=>Te ?_,λ_=>jv ⟨r,u,X,Y,rfl,two⟩⟩;have m:=Cp (DK (U:=[some (.ref f),some (.int (n:Int)),some (.int form),some (.ref r),some (.ref u),none,none,none,none]) (qO (d:=.int 1)) (um (k:=1) rfl) (xO ⋯)) (Jk (qO (d:=.int 0))) (by rw[gs];simp;lk);rw[<- TK]at m;have m2:=Va (U:=[some (.ref f),some (.int (n:Int)),some (.int form),some (.ref r),some (.ref u),none,none,none,none]) (um (k:=1) rfl) (xO ⋯);rw[show((n:Int)-0).toNat=n by lk,ux]at m2;rw[uN];refine m2.wp λr' s' e hl hr=>?_;rw[uN];refine m.wp λu' s2 e2 hl2 hr2=>?_;rw[KJ];exact⟨_,_,rfl,r',u',_,_,rfl,Cr (Cq two e hl hr (Zca _)) e2 hl2 hr2 (af.RK (show n<21 by lk) ⋯)⟩;rintro U Oi ⟨r,u,X,Y,rfl,two⟩
 let pv2:IN:=λU mH=>∃(r u:Nat) (v5:Option D) (X Y:List Int),U=[some (.ref f),some (.int (n:Int)),some (.int form),some (.ref r),some (.ref u),v5,none,none,none]/\r9 st mH f r u n X Y
 refine aP (Bm (N:=pv2) (gu ?_) ?_);k_lt Z;refine Z _ _ ⟨λ_=>aP (bj ?_),λ_=>jv ⟨r,u,none,X,Y,rfl,two⟩⟩;k_lt b9;refine aR (rQ (n:=(n:Int)) two.fd ⋯ ⋯) ?_;rintro d uK ⟨w,rfl,w0,w1,f7,k7⟩;obtain⟨wd,rfl⟩:∃wd:Nat,w=(wd:Int)-1:=⟨(w+1).toNat,by lk⟩;have t7:r9 st uK f r u n X Y:=⟨k7.keep _ _ two.hr (by have:=two.r0;simp;lk),k7.keep _ _ two.hu (by have:=two.u0;simp;lk),two.ne,two.r0,two.u0,two.tX,two.tY,f7,two.ex.trans k7⟩;w_how;rw[show(1:Int)+((wd:Int)-1)=(wd:Int) by lk];refine b9 _ _ (aP (bj ?_));clear b9 Z;have m:=Cp (Cp (DK (U:=[some (.ref f),some (.int (n:Int)),some (.int form),some (.ref r),some (.ref u),some (.int (wd:Int)),none,none,none]) (qO (d:=.int 1)) (um (k:=5) rfl) (xO ⋯)) (Jk (qO (d:=.int 0))) (by rw[gs];simp;lk)) (DK (um (k:=5) rfl) (um (k:=1) rfl) (xO ⋯)) (by rw[Zae,gs,gs];simp;lk);rw[<- BF]at m;refine m.wp λr8 iH e8 Vc Vd=>aP (bj ?_);have t8:=Cq t7 e8 Vc Vd (af.YC (w:=wd) (show n<21 by lk) ⋯ ⋯);clear m e8 Vc Vd;have m:=Jl (Cp (Cp (Cp (Jk (um (U:=[some (.ref f),some (.int (n:Int)),some (.int form),some (.ref r8),some (.ref u),some (.int (wd:Int)),none,none,none]) (k:=5) rfl)) (DK (qO (d:=.int 1)) (um (k:=5) rfl) (xO ⋯)) (by simp[gs];lk)) (DK (Cn (um (k:=5) rfl) (qO (d:=.int 1))) (um (k:=1) rfl) (xO ⋯)) (by simp[gs];lk)) (Jk (qO (d:=.int 0))) (by simp[gs];lk)) (um (k:=1) rfl);refine m.wp λuE Pe eE hlE Ve=>gu ?_;clear m;have tE:=t8.keep eE;k_lt Z;refine Z _ _ ⟨λhw=>?_,λhw=>?_⟩;refine bj ?_;have m2:=Va (U:=[some (.ref f),some (.int (n:Int)),some (.int form),some (.ref r8),some (.ref uE),some (.int (wd:Int)),none,none,none]) (um (k:=1) rfl) (xO ⋯);rw[show((n:Int)-0).toNat=n by lk,ux]at m2;exact m2.wp λu' s' e hl hr=>⟨r8,u',_,_,_,rfl,Cr tE e hl hr (Zca _)⟩;have hne:wd≠n:=λz=>by simp[z]at hw
 rw[<- BG ⋯ ⋯]at Ve;exact jv ⟨r8,uE,_,_,_,rfl,Cr t8 eE hlE Ve (af.YD (w:=wd) (show n<21 by lk) ⋯ ⋯)⟩;rintro U uK ⟨r,u,v5,X,Y,rfl,two⟩;have n0:0<n:=by lk
 refine aP (bj ?_);exists _,Z,bx two.hr,bx two.hu;refine⟨rfl,Z _ _ (aP (bj (U8 (X:=X) (Y:=Y) two.tX two.tY n0 ⋯ rfl rfl ?_)))⟩;clear Z;intro L iH pE nd hL k8;have t8:=(two.keep k8).keep (Ex.bZ [.lst (L.map D.int)])
 let pv3:IV:=λmm U qZ=>∃(pa:Nat) (X L:List Int) (v8:Option D),mm=L.length/\U=[some (.ref f),some (.int (n:Int)),some (.int form),some (.ref r),some (.ref u),v5,some (bS X Y),some (.ref pa),v8]/\r9 st qZ f r u n X Y/\items qZ pa=some (L.map D.int)/\L.length<=n/\L.Nodup/\(∀x,x∈L↔(0<=x/\x<(n:Int)/\¬af.kZ X Y x))
 refine aP (zk pv3 L.length (Za9 pE (Za9 n20 ∅)) ⟨_,X,L,none,rfl,rfl,t8,tW,pE,nd,hL⟩ ?_);rintro mm U qZ ⟨pa,X,L,v8,rfl,rfl,two,hpa,pE,nd,hL⟩;have hlX:=two.tX.length;have Cs:items (qZ ++ [O.lst []]) pa=some (L.map D.int):=by
  unfold items at hpa ⊢;cases e:qZ[pa]? with
  |none=>rw[e]at hpa;cases hpa
  |some o=>rw[j4 e];rw[e]at hpa;exact hpa
 exists _,Z,TJ (L:=L) (M:=[]) (st:=qZ ++ [O.lst []]) Cs tW;refine⟨rfl,Z _ _ ⟨λh=>?_,λh=>?_⟩⟩;have hne:L≠[]:=by simpa using h
 clear Z;obtain⟨m,L1,rfl⟩:∃m L1,L=m :: L1:=by cases L with|nil=>exact absurd rfl hne|cons m L1=>exact⟨m,L1,rfl⟩
 obtain⟨m0,m1,mR⟩:=(hL m).mp Zah;have t2:=two.keep (Ex.bZ [O.lst []]);generalize (qZ ++ [O.lst []])=Pe at Cs t2 ⊢;refine aP (bj ?_);exists _,Z,Cs,Zaz;refine Z _ _ (aP (uO ?_));clear Z;exists _,Z,bx t2.hr,rL (xs:=X) m0 ⋯,rL (xs:=X) (i:=0) ∅ ⋯;refine⟨rfl,Z _ _ ?_⟩;clear Z;have i0:oA (X.map D.int).length 0=some 0:=C1 (j:=0) (by rw[Zaa];lk);have im:oA ((X.map D.int).set 0 (.int (af.app X m))).length m=some m.toNat:=by
  rw[Za8];have:=C1 (n:=(X.map D.int).length) (j:=m.toNat) (by rw[Zaa];lk)
  rwa [ZaG m0]at this
 have rR:(Pe.set r (.lst ((X.map D.int).set 0 (.int (af.app X m)))))[r]?=some (.lst ((X.map D.int).set 0 (.int (af.app X m)))):=Zaj (dc t2.hr);have eS:((X.map D.int).set 0 (.int (af.app X m))).set m.toNat (.int (af.app X 0))=(af.pX X m.toNat).map D.int:=by
  unfold af.pX;rw[ZaG m0,List.map_set,List.map_set]
 exists _,Z,j8 t2.hr,j8 rR,i0,im,eS;refine⟨rfl,Z _ _ (aP (bj ?_))⟩;clear Z;have tS:=af.AJ t2.tX (m:=m.toNat) ⋯;have hmet:=af.Yx t2.tX t2.tY (m:=m.toNat) ⋯ (by rw[ZaG m0];exact mR);rw[ZaG m0]at hmet;rw[List.set_set];have t3:=t2.put (Z:=af.pX X m.toNat) tS hfl;generalize Pe.set r _=st3 at t3 ⊢;exists _,Z,bx t3.hr,bx t3.hu;refine⟨rfl,Z _ _ (bj (U8 (X:=af.pX X m.toNat) (Y:=Y) t3.tX t3.tY n0 ⋯ rfl rfl ?_))⟩;intro L' oH Pf Vg hL' k4;refine⟨_,?_,oH.length,af.pX X m.toNat,L',_,rfl,rfl,(t3.keep k4).keep (Ex.bZ _),tW,Pf,Vg,hL'⟩;refine af.less (m:=m) Vg (λx hx=>?_) Zah (λh=>((hL' m).mp h).2.2 hmet.1);obtain⟨a1,a2,a3⟩:=(hL' x).mp hx;exact(hL x).mpr ⟨a1,a2,λh=>a3 (hmet.2 x h)⟩;have he:L=[]:=by simpa using h
 subst he;refine cV ?_;k_lt b9;have t2:=two.keep (Ex.bZ [O.lst []]);refine b9 _ _ ⟨X,Y,rfl,⟨t2.tX,t2.tY,λx x0 x1=>?_⟩,t2.fd,t2.ex⟩;exact Classical.byContradiction λh=>nomatch (hL x).mpr ⟨x0,x1,h⟩
def L7(tn:af.Tn n xs)(hn:n<=100):Wp (Cf [.tup (xs.map D.int)] st) λd st'=>d=.tup ((af.inv xs).map D.int)/\Ex [] st st':=by
 have hlen:=tn.length;refine eI ?_;intro qR;show Ws (Hl [some (.tup (xs.map D.int)),none,none,none] st) _ _ _ _;unfold Hl;refine aP (bj ?_);k_lt Z;have e0:(((xs.map D.int).length:Int)).toNat=n:=by rw[Zaa];lk
 have ez:(List.replicate n [D.int 0]).flatten=(List.replicate n (0:Int)).map D.int:=by
  induction n with
  |zero=>rfl
  |succ n ih=>simp[ZaO]
 rw[e0,ez];refine⟨rfl,by rw[Zaa];lk,jH (by simp;lk),Z _ _ (aP (lU (gg (xs.map D.int)) (λk U st2=>∃(v2 v3:Option D) (bs:List Int),U=[some (.tup (xs.map D.int)),some (.ref (st ++ [O.lst [D.int 0]]).length),v2,v3]/\st2[(st ++ [O.lst [D.int 0]]).length]?=some (.lst (bs.map D.int))/\bs.length=n/\(∀j,j<k->∀x,xs[j]?=some x->bs[x.toNat]?=some (j:Int))/\Ex [] st st2) ?_ ?_ ?_ ?_))⟩;k_lt Z;exact Z _ _ ⟨rfl,none,none,_,rfl,fW,by simp,λj hj=>absurd hj (ZaV _),(Ex.bZ _).app _⟩;rw[FL,Zaa];lk;have Jm:st.length<=(st ++ [O.lst [D.int 0]]).length:=by simp
 generalize (st ++ [O.lst [D.int 0]]).length=B at Jm ⊢;rintro k d U st2 hd ⟨v2,v3,bs,rfl,hB,xa,xZ,k2⟩;obtain⟨d',hd',rfl⟩:=Og hd;obtain⟨x,hx,rfl⟩:=F8 hd';obtain⟨x0,x1⟩:=tn.bound (Zai hx);have pW:=dc hx;k_lt Z;refine⟨rfl,Z _ _ (uO ?_)⟩;have hix:oA (bs.map D.int).length x=some x.toNat:=by
  have:=C1 (n:=(bs.map D.int).length) (j:=x.toNat) (by rw[Zaa];lk)
  rwa [ZaG x0]at this
 have es:(bs.map D.int).set x.toNat (.int (k:Int))=(bs.set x.toNat (k:Int)).map D.int:=by rw[List.map_set]
 k_lt b9;refine b9 _ _ ?_;exists _,wA,j8 hB,hix,es;refine wA _ _ ⟨_,_,bs.set x.toNat (k:Int),rfl,Zaj (dc hB),by rw[Za8];exact xa,λj hj y hy=>?_,k2.loc Jm⟩;by_cases hjk:j=k;subst hjk;rw[hx]at hy;cases hy;rw[Zaj (by rw[xa];lk)];obtain⟨y0,y1⟩:=tn.bound (Zai hy);rw[Zal (λz=>?_)];exact xZ j ⋯ y hy;obtain⟨h1,e1⟩:=Zab.mp hx;obtain⟨h2,e2⟩:=Zab.mp hy;exact hjk ((List.getElem_inj tn.nodup).mp (show xs[j]=xs[k] by lk));rintro U st2 ⟨v2,v3,bs,rfl,hB,xa,xZ,k2⟩;rw[FL,Zaa]at xZ;have eb:bs=af.inv xs:=by
  apply Zb3;intro i;by_cases hi:i<n;have hm:=tn.mem (i:=(i:Int)) ⋯ ⋯;have hil:=ZbB hm;have:=xZ (xs.idxOf (i:Int)) hil (i:Int) (by rw[Zac hil];exact congrArg some (ZcC hil));rw[Zat]at this;rw[this];have ea:=af.rE (xs:=af.inv xs) (i:=(i:Int)) ⋯ (by rw[af.E6];lk);rw[Zat,af.Kd ⋯ ⋯]at ea;exact ea.symm;rw[ZaP ⋯,ZaP (by rw[af.E6];lk)]
 subst eb;refine cV ?_;exists _,Z,bx hB;exact Z _ _ ⟨rfl,k2⟩
def Jn(hb:∀x∈xs,0<=x/\x<(ys.length:Int))(hn:xs.length<=100):Wp (zA [.tup (xs.map D.int),.tup (ys.map D.int)] st) λd st'=>d=.tup ((af.a7 xs ys).map D.int)/\Ex [] st st':=by refine eI ?_;intro qR;show Ws (Hn [some (.tup (xs.map D.int)),some (.tup (ys.map D.int))] st) _ _ _ _;unfold Hn;refine cV ?_;k_lt Z;refine uP (xs.map D.int) (λd=>.int (af.app ys (inD d))) ?_ (by rw[Zaa];lk) ?_ ?_;k_lt b9;exact b9 _ _ ⟨sI _ _,Ex.refl⟩;intro d hd st1 k1;obtain⟨x,hx,rfl⟩:=BH hd;obtain⟨x0,x1⟩:=hb x hx;exists _,b9,Zaz,ZaW,ZaY,ZaZ,rL (xs:=ys) x0 x1;exact b9 _ _ ⟨rfl,Ex.refl⟩;intro st' k';rw[Ga (f:=af.app ys) λx hx=>rfl];w_how;exact Z _ _ ⟨rfl,k'.app _⟩
def xb7(tx:af.Tn n xs)(ty:af.Tn n ys)(tp:af.Tn n p)(hn:n<=100):Wp (Ll [bS xs ys,.tup (p.map D.int)] st) λd st'=>d=bS (af.anew xs p) (af.anew ys p)/\Ex [] st st':=by have hlx:=tx.length;have DJ:=ty.length;have L8:=tp.length;have ti:=tp.aB;have hli:=ti.length;refine eI ?_;intro qR;show Ws (Hq [some (bS xs ys),some (.tup (p.map D.int)),none,none,none] st) _ _ _ _;unfold Hq bS;refine aP (bj ?_);k_lt Z;refine aR (L7 tp hn) ?_;rintro d st1 ⟨rfl,k1⟩;refine Z _ _ (aP (bj ?_));k_lt2 Z;refine aR (Jn (xs:=af.inv p) (ys:=xs) (λx hx=>by rw[hlx];exact ti.bound hx) ⋯) ?_;rintro d st2 ⟨rfl,k2⟩;refine aR (Jn (xs:=af.a7 (af.inv p) xs) (ys:=p) (λx hx=>by rw[L8];exact(ti.a7 tx).bound hx) (by rw[af.E9];lk)) ?_;rintro d st3 ⟨rfl,k3⟩;refine Z _ _ (aP (bj ?_));k_lt2 Z;refine aR (Jn (xs:=af.inv p) (ys:=ys) (λx hx=>by rw[DJ];exact ti.bound hx) ⋯) ?_;rintro d oH ⟨rfl,k4⟩;refine aR (Jn (xs:=af.a7 (af.inv p) ys) (ys:=p) (λx hx=>by rw[L8];exact(ti.a7 ty).bound hx) (by rw[af.E9];lk)) ?_;rintro d mH ⟨rfl,k5⟩;refine Z _ _ (cV ?_);k_lt2 Z;exact⟨rfl,Z _ _ ⟨rfl,(((k1.trans k2).trans k3).trans k4).trans k5⟩⟩
def Vh:(!F.contains x)=true->af.cL F x=F ++ [x]:=λh=>by
 unfold af.cL;rw[if_neg λz=>by rw[Za6.mpr z]at h;cases h]
def Vi:(!F.contains x)=false->af.cL F x=F:=λh=>by
 unfold af.cL;rw[if_pos (Za6.mp (by simpa using h))]
def ZbX(tx:af.Tn n xs)(ty:af.Tn n ys)(hn:n<=100)(s0:0<=s)(s1:s<(n:Int)):Wp (Ln [bS xs ys,.int s] st) λd st'=>d=.tup ((af.bf xs ys s n).map D.int)/\Ex [] st st':=by
 have hlx:=tx.length;have DJ:=ty.length;refine eI ?_;intro qR;show Ws (Hs [some (bS xs ys),some (.int s),none,none,none,none] st) _ _ _ _;unfold Hs;refine aP (bj ?_);k_lt Z;refine⟨rfl,Z _ _ (aP (bj ?_))⟩;k_lt2 Z
 let iL:IV:=λm U st2=>∃(k:Nat) (v4 v5:Option D),m=n-k/\U=[some (bS xs ys),some (.int s),some (.ref st.length),some (.int (k:Int)),v4,v5]/\st2[st.length]?=some (.lst ((af.bf xs ys s k).map D.int))/\k<=(af.bf xs ys s k).length/\Ex [] st st2
 refine Z _ _ (aP (zk iL n (Za9 hn ∅) ⟨0,none,none,by lk,rfl,fW,ZaK _,Ex.bZ _⟩ ?_));clear Z;rintro m U st2 ⟨k,v4,v5,rfl,rfl,hl,hk,k2⟩;have xa:=af.Fb tx ty s0 s1 k;exists _,Z,bx hl;refine Z _ _ ⟨λhlt=>?_,λhlt=>?_⟩;clear Z;have hlt:=of_decide_eq_true hlt;rw[Zaa]at hlt;have pW:k<(af.bf xs ys s k).length:=by lk
 obtain⟨x,hx⟩:∃x,(af.bf xs ys s k)[k]?=some x:=⟨_,Zac pW⟩;obtain⟨x0,x1⟩:=af.uo tx ty s0 s1 k x (Zai hx);have e1:af.bf xs ys s (k+1)=af.visit xs ys (af.bf xs ys s k) x:=by
  show(match (af.bf xs ys s k)[k]? with|some x=>af.visit xs ys (af.bf xs ys s k) x|none=>af.bf xs ys s k)=_;rw[hx]
 have hb1:=af.Fb tx ty s0 s1 (k+1);rw[e1]at hb1;have hp1:=(af.yK (af.cL (af.bf xs ys s k) (af.app xs x)) (af.app ys x)).length_le;have hp0:=(af.yK (af.bf xs ys s k) (af.app xs x)).length_le;change _<=(af.visit xs ys (af.bf xs ys s k) x).length at hp1;refine aP (lU [.tup (xs.map D.int),.tup (ys.map D.int)] (λm U st3=>∃(v4 v5:Option D) (G:List Int),U=[some (bS xs ys),some (.int s),some (.ref st.length),some (.int (k:Int)),v4,v5]/\st3[st.length]?=some (.lst (G.map D.int))/\(m=0->G=af.bf xs ys s k)/\(m=1->G=af.cL (af.bf xs ys s k) (af.app xs x))/\(m=2->G=af.visit xs ys (af.bf xs ys s k) x)/\Ex [] st st3) ?_ (by simp) ?_ ?_);unfold bS;k_lt Z;exact Z _ _ ⟨rfl,v4,v5,_,rfl,hl,λ_=>rfl,λz=>by lk,λz=>by lk,k2⟩;rintro m z U st3 hm ⟨v4,v5,G,rfl,hl3,g0,g1,_,k3⟩;have hm2:m<2:=dc hm;obtain⟨zs,rfl,tz,em⟩:∃(zs:List Int),z=.tup (zs.map D.int)/\af.Tn n zs/\((m=0/\zs=xs)\/(m=1/\zs=ys)):=by
  rcases(show m=0\/m=1 by lk)with rfl|rfl
  exact⟨xs,by simpa using hm.symm,tx,.inl ⟨rfl,rfl⟩⟩;exact⟨ys,by simpa using hm.symm,ty,.inr ⟨rfl,rfl⟩⟩
 have hG:G.length<=100/\G[k]?=some x:=by
  rcases em with⟨rfl,_⟩|⟨rfl,_⟩
  rw[g0 rfl];exact⟨by lk,hx⟩;rw[g1 rfl];refine⟨by lk,?_⟩;obtain⟨t,e⟩:=af.yK (af.bf xs ys s k) (af.app xs x);rw[<- e,Zan pW];exact hx
 have Jo:∀G',G'=af.cL G (af.app zs x)->(m+1=0->G'=af.bf xs ys s k)/\(m+1=1->G'=af.cL (af.bf xs ys s k) (af.app xs x))/\(m+1=2->G'=af.visit xs ys (af.bf xs ys s k) x):=λG' e=>by
  rcases em with⟨rfl,rfl⟩|⟨rfl,rfl⟩
  exact⟨λz=>by lk,λ_=>by rw[e,g0 rfl],λz=>by lk⟩;exact⟨λz=>by lk,λz=>by lk,λ_=>by rw[e,g1 rfl];rfl⟩
 have hat:dA (G.map D.int) (k:Int)=some (.int x):=CV (by rw[Zag,hG.2];rfl);k_lt Z;refine Z _ _ (aP (bj ?_));clear Z;exists _,Z,bx hl3,hat,rL (xs:=zs) x0 (by rw[tz.length];exact x1);refine Z _ _ (gu ?_);clear Z;exists _,Z,F9 (st:=st3) (c:=.ref st.length) (ns:=G) (bx hl3);refine Z _ _ ⟨λhc=>pS ?_,λhc=>jv ?_⟩;obtain⟨n0,n1,n2⟩:=Jo (G ++ [af.app zs x]) (Vh hc).symm;exists _,b9,j8 hl3;refine⟨nW (by rw[bx hl3];rfl),jH (by rw[Zaa];lk),b9 _ _ ⟨_,_,G ++ [af.app zs x],rfl,?_,n0,n1,n2,k3.loc (Zad _)⟩⟩;rw[Zaj (dc hl3),Zap];rfl;obtain⟨n0,n1,n2⟩:=Jo G (Vi hc).symm;exact⟨_,_,G,rfl,hl3,n0,n1,n2,k3⟩;rintro U st3 ⟨v4,v5,G,rfl,hl3,_,_,g2,k3⟩;have g2:=g2 rfl;subst g2;refine bj ?_;k_lt Z;refine Z _ _ ⟨n-(k+1),by lk,k+1,v4,v5,rfl,by simp,by rw[e1];exact hl3,by rw[e1];lk,k3⟩;have hlt:=of_decide_eq_false hlt;rw[Zaa]at hlt;have hle:(af.bf xs ys s k).length<=k:=by lk
 have e:af.bf xs ys s n=af.bf xs ys s k:=by
  have:=af.Ke hle (n-k)
  rwa [show k+(n-k)=n by lk]at this
 refine cV ?_;exists _,b9,bx hl;rw[<- e];exact b9 _ _ ⟨rfl,k2⟩
def xcN(tn:af.Tn n xs)(hn:n<=100)(i0:0<=i)(i1:i<(n:Int)):Wp (Lq [.tup (xs.map D.int),.int i] st) λd st'=>∃r:List Int,d=.tup (r.map D.int)/\af.j6 xs i r/\Ex [] st st':=by
 have hlen:=tn.length;refine eI ?_;intro qR;show Ws (HA [some (.tup (xs.map D.int)),some (.int i),none,none] st) _ _ _ _;unfold HA;refine aP (bj ?_);k_lt Z;refine⟨rfl,Z _ _ (aP (bj ?_))⟩;clear Z;exists _,Z,rL (xs:=xs) i0 ⋯
 let iL:IV:=λm U st2=>∃k:Nat,m=n-(k+1)/\U=[some (.tup (xs.map D.int)),some (.int i),some (.ref st.length),some (.int (af.bC xs i (k+1)))]/\st2[st.length]?=some (.lst ((af.row xs i k).map D.int))/\af.NB xs i k/\Ex [] st st2
 refine Z _ _ (aP (zk iL (n-1) (Za9 (show n-1<=100 by lk) ∅) ⟨0,rfl,rfl,fW,λj h1 h2=>by lk,Ex.bZ _⟩ ?_));clear Z;rintro m U st2 ⟨k,rfl,rfl,hL,nb,k2⟩;have hrl:=tn.mQ i0 i1 nb;k_lt Z;refine Z _ _ ⟨λhb=>?_,λhb=>?_⟩;have hb:af.bC xs i (k+1)≠i:=by simpa using hb
 have Jp:af.NB xs i (k+1):=λj h1 h2=>by
  by_cases hj:j<=k;exact nb j h1 hj
  have:j=k+1:=by lk
  rw[this];exact hb
 have hle:=tn.mQ i0 i1 Jp;have hit:=tn.bC i0 i1 (k+1);refine aP (pS ?_);exists _,b9,j8 hL;refine⟨nW (by rw[bx hL];rfl),jH (by rw[Zaa,af.wN];lk),b9 _ _ (bj ?_)⟩;clear b9;exists _,b9,rL (xs:=xs) hit.1 ⋯;refine b9 _ _ ⟨n-(k+1+1),by lk,k+1,rfl,rfl,?_,Jp,k2.loc (Zad _)⟩;rw[Zaj (dc hL),af.RJ,Zap];rfl;have hb:af.bC xs i (k+1)=i:=by simpa using hb
 refine cV ?_;exists _,b9,bx hL;exact b9 _ _ ⟨_,rfl,⟨k,rfl,nb,hb⟩,k2⟩
def Ycp(tn:af.Tn n xs)(hn:n<=100):Wp (Ls [.tup (xs.map D.int)] st) λd st'=>∃rs:List (List Int),d=F5 rs/\af.yJ xs (af.upto n) rs/\(∀r∈rs,r.length<=n/\∀x∈r,0<=x/\x<(n:Int))/\rs.length<=n/\Ex [] st st':=by
 have hlen:=tn.length;refine eI ?_;intro qR;show Ws (HC [some (.tup (xs.map D.int)),none,none,none,none,none] st) _ _ _ _;unfold HC;refine aP (bj ?_);k_lt Z;refine⟨rfl,Z _ _ (aP (bj ?_))⟩;k_lt2 Z;have eS:(st ++ [O.lst []]).length=st.length+1:=by simp
 rw[eS]
 refine Z _ _ (aP (lU (aH 0 n) (λk U st2=>∃ (v3 v4 v5:Option D) (rs:List (List Int)) (kvs:List (Key×D)),U=[some (.tup (xs.map D.int)),some (.ref st.length),some (.ref (st.length + 1)),v3,v4,v5]/\st2[st.length]?=some (.lst (rs.map λr=>.tup (r.map D.int)))/\st2[st.length + 1]?=some (.dct kvs) /\
   (∀rest,af.yJ xs (af.from' n k (λx=>(eC kvs (Sum.inl x:Key)).isSome)) rest->af.yJ xs (af.upto n) (rs ++ rest))/\(∀r∈rs,r.length<=n/\∀x∈r,0<=x/\x<(n:Int))/\rs.length<=k/\kvs.length<=k*n/\Ex [] st st2) ?_ (by rw[gs];lk) ?_ ?_))
 k_lt2 Z;rw[Zaa,hlen];refine⟨by lk,Z _ _ ⟨by rw[Zat],none,none,none,[],[],rfl,j4 fW,by rw[<- eS];exact fW,λrest hrest=>?_,(λr hr=>nomatch hr),Zad _,ZaK _,(Ex.bZ _).app _⟩⟩;have e:af.from' n 0 (λx=>(eC ([]:List (Key×D)) (Sum.inl x:Key)).isSome)=af.upto n:=af.Ys n;rw[e]at hrest;exact hrest;rintro k d U st2 hd ⟨v3,v4,v5,rs,kvs,rfl,L9,Ma,zE,hb,hrl,pW,k2⟩;have hk:=dc hd;rw[gs]at hk;rw[zf hk,ZbC]at hd;cases hd;have hkn:k*n<=10000:=Zaq (Zcj (show k<=100 by lk) hn) ∅;k_lt2 Z;refine Z _ _ (gu ?_);clear Z;exists _,Z,KS Ma,TN;have hfs:=af.Yq hk (λx=>(eC kvs (Sum.inl x:Key)).isSome);refine Z _ _ ⟨λhs=>?_,λhs=>?_⟩;have Pg:(eC kvs (Sum.inl (k:Int):Key)).isSome=false:=by simpa using hs
 simp only[Pg,Zba,if_false]at hfs;clear Z;refine aP (bj ?_);k_lt Z;refine aR (xcN tn hn (i:=(k:Int)) ⋯ ⋯) ?_;rintro d st3 ⟨r,rfl,qj,k3⟩;refine Z _ _ (aP (pS ?_));clear Z;have Ph:=k3.keep _ _ L9 (by simp);have hS3:=k3.keep _ _ Ma (by simp);have Pj:=qj.len tn ⋯ ⋯;have hrb:=qj.bound tn ⋯ ⋯;exists _,Z,j8 Ph;refine⟨nW (by rw[bx Ph];rfl),jH (by rw[Zaa];lk),Z _ _ ?_⟩;clear Z
 refine lU (r.map D.int) (λj U mH=>∃ (v5:Option D) (kvs':List (Key×D)),U=[some (.tup (xs.map D.int)),some (.ref st.length),some (.ref (st.length + 1)),some (.int (k:Int)),some (.tup (r.map D.int)),v5]/\mH[st.length]?=some (.lst ((rs ++ [r]).map λr=>.tup (r.map D.int)))/\mH[st.length + 1]?=some (.dct kvs') /\
   (∀x:Int,(eC kvs' (Sum.inl x:Key)).isSome=((eC kvs (Sum.inl x:Key)).isSome || (r.take j).contains x))/\kvs'.length<=kvs.length+j/\Ex [] st mH) ?_ (by rw[Zaa];lk) ?_ ?_
 k_lt Z;refine Z _ _ ⟨rfl,v5,kvs,rfl,?_,?_,λx=>by simp,by lk,(k2.trans k3).loc (Zad _)⟩;rw[Zaj (dc Ph),Zap];rfl;rw[Zal ⋯];exact hS3;rintro j y U mH hj ⟨v5,kvs',rfl,Pk,Mb,Mc,Jq,k5⟩;obtain⟨x,hx,rfl⟩:=F8 hj;obtain⟨hjl,ex⟩:=Zab.mp hx;subst ex;k_lt Z;refine Z _ _ (ZD ?_);k_lt2 Z;refine Z _ _ ?_;k_lt b9;refine b9 _ _ ?_;k_lt wA;refine wA _ _ ⟨_,kvs',_,rfl,KS Mb,TN _,jH ⋯,_,_,rfl,?_,Zaj (dc Mb),λx=>?_,?_,k5.loc ⋯⟩;rw[Zal ⋯];exact Pk;rw[Z9,Ybv hjl];by_cases hx:x=r[j];subst hx;simp;rw[if_neg (by intro z;exact hx (Sum.inl.inj z)),Mc x]
 have:(x == r[j])=false:=beq_eq_false_iff_ne.mpr hx;rw[this,Bool.or_false]
 have:=Xb4 kvs' (Sum.inl r[j]:Key) (.bl true);lk
 rintro U mH ⟨v5,kvs',rfl,Pk,Mb,Mc,Jq,k5⟩;rw[Zaa]at Jq Mc;refine⟨_,_,_,rs ++ [r],kvs',rfl,Pk,Mb,λrest hrest=>?_,λr' hr'=>?_,by rw[Zae];simp;lk,by rw[Zch];lk,k5⟩;have e:(λx=>(eC kvs' (Sum.inl x:Key)).isSome)=λx=>((eC kvs (Sum.inl x:Key)).isSome || r.contains x):=by
  funext x;rw[Mc x,ZaN]
 rw[e,<- af.Yr]at hrest;rw[ZbF];refine zE _ ?_;rw[hfs];refine .cons qj ?_;have e2:af.out ((k:Int) :: af.from' n (k+1) (λx=>(eC kvs (Sum.inl x:Key)).isSome)) r=af.out (af.from' n (k+1) (λx=>(eC kvs (Sum.inl x:Key)).isSome)) r:=by
  unfold af.out;rw[List.filter_cons,if_neg (by simp[qj.mem])]
 rw[e2];exact hrest;rcases Zax.mp hr' with h|h
 exact hb r' h
 have:r'=r:=by simpa using h
 subst this;exact⟨Pj,hrb⟩;have Pg:(eC kvs (Sum.inl (k:Int):Key)).isSome=true:=by simpa using hs
 simp only[Pg,if_true]at hfs;exact jv ⟨_,_,_,rs,kvs,rfl,L9,Ma,λrest hrest=>zE rest (by rw[hfs];exact hrest),hb,by lk,by rw[Zch];lk,k2⟩;rintro U st2 ⟨v3,v4,v5,rs,kvs,rfl,L9,Ma,zE,hb,hrl,pW,k2⟩;rw[gs]at zE hrl;refine cV ?_;clear Z;exists _,Z,bx L9;refine Z _ _ ⟨rs,rfl,?_,hb,hrl,k2⟩;have:=zE [] (by rw[af.Yp];exact .nil)
 rwa [Zbs]at this
def xdv{rs:List (List Int)}{m:Nat}{d:D}(h:(rs.map λr=>D.tup (r.map D.int))[m]?=some d):∃r,rs[m]?=some r/\d=.tup (r.map D.int):=by rw[Zag]at h;obtain⟨r,h1,h2⟩:=Zay.mp h;exact⟨r,h1,h2.symm⟩
def Vj(h0:0<=j)(h1:j<((m+1:Nat):Int)):dA ((af.row xs i m).map D.int) j=some (.int (af.bC xs i j.toNat)):=by
 have e:((af.row xs i m).map D.int)[j.toNat]?=some (.int (af.bC xs i j.toNat)):=by
  unfold af.row;rw[ZaF,Zag,ZaR ⋯];rfl
 have:=CV e
 rwa [ZaG h0]at this
def Vk(h0:0<=m)(h1:m<(bs.length:Int))(x0:0<=x):af.app (bs.set m.toNat v) x=if x=m then v else af.app bs x:=by have:=af.NA (xs:=bs) (m:=m.toNat) (v:=v) (x:=x) ⋯ x0;rw[ZaG h0]at this;exact this
def xcp(tn:af.Tn n xs)(hn:n<=100):Wp (Lu [.tup (xs.map D.int),.int k] st) λd st'=>d=.tup ((af.cD xs k).map D.int)/\Ex [] st st':=by
 have hlen:=tn.length;refine eI ?_;intro qR;show Ws (HE [some (.tup (xs.map D.int)),some (.int k),none,none,none,none] st) _ _ _ _;unfold HE;refine aP (bj ?_);k_lt Z;have e0:(((xs.map D.int).length:Int)).toNat=n:=by rw[Zaa];lk
 have ez:(List.replicate n [D.int 0]).flatten=(List.replicate n (0:Int)).map D.int:=by
  clear hlen tn hn e0
  induction n with
  |zero=>rfl
  |succ n ih=>simp[ZaO]
 rw[e0,ez];have Jm:st.length<=(st ++ [O.lst [D.int 0]]).length:=by simp
 refine⟨rfl,by rw[Zaa];lk,jH (by simp;lk),Z _ _ ?_⟩;clear Z;have Pm:(st ++ [O.lst [D.int 0]] ++ [O.lst ((List.replicate n (0:Int)).map D.int)])[(st ++ [O.lst [D.int 0]]).length]?=some (.lst ((List.replicate n (0:Int)).map D.int)):=fW;have kB:Ex [] st (st ++ [O.lst [D.int 0]] ++ [O.lst ((List.replicate n (0:Int)).map D.int)]):=(Ex.bZ _).app _;generalize (st ++ [O.lst [D.int 0]] ++ [O.lst ((List.replicate n (0:Int)).map D.int)])=stB at Pm kB ⊢;generalize (st ++ [O.lst [D.int 0]]).length=B at Jm Pm ⊢;show Ws _ _ _ _ _;obtain⟨d,st2,e2,rs,rfl,zE,hrb,hrl,k2⟩:=Ycp (st:=stB) tn hn
 let iL:IV:=λm U st3=>∃(v3 v4 v5:Option D) (bs:List Int),U=[some (.tup (xs.map D.int)),some (.int k),some (.ref B),v3,v4,v5]/\st3[B]?=some (.lst (bs.map D.int))/\bs.length=n/\(∀j,j<m->∀r,rs[j]?=some r->∀x∈r,af.app bs x=af.pw xs k x)/\Ex [] st st3
 refine aP (lU (rs.map λr=>.tup (r.map D.int)) iL ?_ (by rw[Zaa];lk) ?_ ?_)
 ·k_lt Z
  refine⟨_,_,e2,?_⟩;exact⟨_,rfl,Z _ _ ⟨rfl,none,none,none,_,rfl,k2.keep _ _ Pm (by simp),by simp,λj hj=>absurd hj (ZaV _),kB.trans k2⟩⟩
 ·rintro m d U st3 hm ⟨v3,v4,v5,bs,rfl,Pn,xa,xZ,k3⟩
  obtain⟨r,hr,rfl⟩:=xdv hm;obtain⟨i,hi,qj⟩:=zE.all.1 r (Zai hr);obtain⟨i0,i1⟩:=af.oS.mp hi;obtain⟨M,rfl,nb,bk⟩:=qj.ex;have hM:=tn.mQ i0 i1 nb;k_lt Z
  let xY:IV:=λt U oH=>∃(v4 v5:Option D) (cs:List Int),U=[some (.tup (xs.map D.int)),some (.int k),some (.ref B),some (.tup ((af.row xs i M).map D.int)),v4,v5]/\oH[B]?=some (.lst (cs.map D.int))/\cs.length=n/\(∀x:Int,0<=x->x<(n:Int)->af.app bs x=af.pw xs k x->af.app cs x=af.pw xs k x)/\(∀j,j<t->af.app cs (af.bC xs i j)=af.pw xs k (af.bC xs i j))/\Ex [] st oH
  refine Z _ _ (lU (gg ((af.row xs i M).map D.int)) xY ?_ ?_ ?_ ?_)
  ·clear Z
   k_lt Z;exact Z _ _ ⟨rfl,v4,v5,bs,rfl,Pn,xa,λ_ _ _ h=>h,λj hj=>absurd hj (ZaV _),k3⟩
  ·rw[FL,Zaa,af.wN];lk
  ·rintro t d U oH hd ⟨v4,v5,cs,rfl,Md,hcl,hcs,hct,k4⟩
   obtain⟨d',hd',rfl⟩:=Og hd;obtain⟨y,hy,rfl⟩:=F8 hd';have Vl:=dc hy;rw[af.wN]at Vl;have ey:y=af.bC xs i t:=by
    unfold af.row at hy;rw[Zag,ZaR Vl]at hy;exact(Zao hy).symm
   subst ey;obtain⟨x0,x1⟩:=tn.bC i0 i1 t;have hL:(0:Int)<((M+1:Nat):Int):=by lk
   have m0:=Zbf ((t:Int)+k) (Int.ne_of_gt hL);have m1:=Zbq ((t:Int)+k) hL;have eL:((((af.row xs i M).map D.int).length:Nat):Int)=((M+1:Nat):Int):=by rw[Zaa,af.wN]
   have hix:oA (cs.map D.int).length (af.bC xs i t)=some (af.bC xs i t).toNat:=by
    have:=C1 (n:=(cs.map D.int).length) (j:=(af.bC xs i t).toNat) (by rw[Zaa];lk)
    rwa [ZaG x0]at this
   have es:∀v:Int,(cs.map D.int).set (af.bC xs i t).toNat (.int v)=(cs.set (af.bC xs i t).toNat v).map D.int:=λv=>by rw[List.map_set]
   k_lt2 Z;refine⟨rfl,Z _ _ (uO ?_)⟩;clear Z;exists _,Z,eL,Vj m0 m1;refine⟨hL,Z _ _ ?_⟩;clear Z;exists _,Z,j8 Md,hix,es;have hat:=tn.AO x0 x1 (tn.AI i0 i1 nb bk t k);refine Z _ _ ⟨_,_,_,rfl,Zaj (dc Md),by rw[Za8];exact hcl,λx h0 h1 h=>?_,λj hj=>?_,k4.loc Jm⟩
   ·rw[Vk x0 ⋯ h0]
    split
    ·next e=>rw[e];exact hat
    ·exact hcs x h0 h1 h
   ·obtain⟨y0,y1⟩:=tn.bC i0 i1 j
    rw[Vk x0 ⋯ y0];split
    ·next e=>rw[e];exact hat
    ·next e =>
     by_cases hjt:j=t
     ·rw[hjt]at e;exact absurd rfl e
     ·exact hct j ⋯
  ·rintro U oH ⟨v4,v5,cs,rfl,Md,hcl,hcs,hct,k4⟩
   rw[FL,Zaa,af.wN]at hct;refine⟨_,_,_,cs,rfl,Md,hcl,λj hj r hr2 x hx=>?_,k4⟩;by_cases hjm:j=m
   ·subst hjm
    rw[hr]at hr2;cases hr2;obtain⟨jj,hjj,rfl⟩:=af.Kc.mp hx;exact hct jj ⋯
   ·obtain⟨b0,b1⟩:=(hrb r (Zai hr2)).2 x hx
    exact hcs x b0 b1 (xZ j ⋯ r hr2 x hx)
 ·rintro U st3 ⟨v3,v4,v5,bs,rfl,Pn,xa,xZ,k3⟩
  rw[Zaa]at xZ;have e:bs=af.cD xs k:=by
   refine af.tI (n:=n) xa (by rw[af.Ff];exact hlen) λs s0 s1=>?_;rw[af.sC s0 ⋯];obtain⟨r,hr',hx⟩:=zE.all.2 s (af.oS.mpr ⟨s0,s1⟩);obtain⟨j,hj,ej⟩:=Zbo hr';exact xZ j hj r (by rw[Zac hj,ej]) s hx
  subst e;refine cV ?_;exists _,Z,bx Pn;exact Z _ _ ⟨rfl,k3⟩
def YbX(tx:af.Tn n xs)(ty:af.Tn n ys)(hn:n<=100):Wp (Lv [bS xs ys,.int k] st) λd st'=>d=bS xs (af.shr xs ys k)/\Ex [] st st':=by refine eI ?_;intro qR;show Ws (HI [some (bS xs ys),some (.int k)] st) _ _ _ _;unfold HI bS;refine cV ?_;have tp:=tx.cD (-k);k_lt Z;refine aR (xcp (k:=-k) tx hn) ?_;rintro d st1 ⟨rfl,k1⟩;refine aR (Jn (xs:=af.cD xs (-k)) (ys:=ys) (λx hx=>by rw[ty.length];exact tp.bound hx) (by rw[tp.length];exact hn)) ?_;rintro d st2 ⟨rfl,k2⟩;exact⟨rfl,Z _ _ ⟨rfl,k1.trans k2⟩⟩
def ybx(tx:af.Tn n xs)(ty:af.Tn n ys)(hn:n<=100):Wp (Lw [bS xs ys] st) λd st'=>d=bS (af.inv ys) xs/\Ex [] st st':=by refine eI ?_;intro qR;show Ws (HK [some (bS xs ys)] st) _ _ _ _;unfold HK bS;refine cV ?_;k_lt Z;refine aR (L7 ty hn) ?_;rintro d st1 ⟨rfl,k1⟩;exact⟨rfl,Z _ _ ⟨rfl,k1⟩⟩
def Vm{st:Store}{Q:D->Store->Prop}{xs:List Int}{v:Int}(h:v∈xs):Wp (lr (.tup (xs.map D.int)) [.int v] st) Q↔Q (.int (xs.idxOf v:Int)) st:=by rw[Tv];constructor;rintro⟨ns,j,h1,h2,q⟩;rw[KP]at h1;cases h1;rw[TL h]at h2;cases h2;exact q;intro q;exact⟨xs,_,KP xs,TL h,q⟩
def Vn:dA ((af.row xs i m).map D.int) (-1)=some (.int (af.bC xs i m)):=by
 have hl:((af.row xs i m).map D.int).length=m+1:=by rw[Zaa,af.wN]
 unfold dA oA;rw[if_neg ∅,hl,if_pos ⋯,Zbj,show((-1:Int)+((m+1:Nat):Int)).toNat=m by lk];unfold af.row;rw[ZaF,Zag,ZaR ⋯];rfl
def Xb7(tn:af.Tn n xs)(hn:n<=100)(s0:0<=s)(s1:s<(n:Int)):Wp (Le [.tup (xs.map D.int),.int s,.int k] st) λd st'=>d=.int (af.pw xs k s)/\Ex [] st st':=by
 have hlen:=tn.length;refine eI ?_;intro qR;show Ws (GS [some (.tup (xs.map D.int)),some (.int s),some (.int k),none] st) _ _ _ _;unfold GS
 let iL:IN:=λU st1=>∃(zs:List Int) (j:Nat),U=[some (.tup (zs.map D.int)),some (.int s),some (.int (j:Int)),none]/\af.Tn n zs/\af.bC zs s j=af.pw xs k s/\Ex [] st st1
 refine aP (Bm (N:=iL) (gu ?_) ?_);k_lt Z;refine Z _ _ ⟨λh=>?_,λh=>jv ⟨xs,k.toNat,?_,tn,?_,Ex.refl⟩⟩;have h:=of_decide_eq_true h;clear Z;refine aP (bj ?_);k_lt Z;refine uP (aH 0 n) (λd=>.int (xs.idxOf (inD d):Int)) ?_ (by rw[gs];lk) ?_ ?_;k_lt b9;rw[Zaa,hlen];exact⟨by lk,b9 _ _ ⟨by rw[Zat];exact sI _ _,Ex.refl⟩⟩;intro d hd uK k7;rw[ux]at hd;obtain⟨x,hx,rfl⟩:=BH hd;obtain⟨x0,x1⟩:=af.oS.mp hx;exists _,b9,Zaz,ZaW,ZaY,ZaZ,Tt,Vm (tn.mem x0 x1);exact b9 _ _ ⟨rfl,Ex.refl⟩;intro uK k7;have e:(aH 0 n).map (λd=>D.int (xs.idxOf (inD d):Int))=(af.inv xs).map D.int:=by
  rw[ux,Ga (f:=λx=>(xs.idxOf x:Int)) λx hx=>rfl];unfold af.inv;rw[hlen]
 rw[e];w_how;refine Z _ _ (bj ?_);k_lt2 Z;refine Z _ _ ⟨af.inv xs,(-k).toNat,?_,tn.aB,?_,k7.app _⟩;rw[show(0:Int)-k=(((-k).toNat:Nat):Int) by lk];rfl;unfold af.pw;rw[if_neg ⋯];have h:=of_decide_eq_false h;rw[ZaG ⋯];have h:=of_decide_eq_false h;unfold af.pw;rw[if_pos ⋯];rintro U st1 ⟨zs,j,rfl,tz,ej,k1⟩;have U6:=tz.length;refine aP (bj ?_);k_lt Z
 let xY:IV:=λm U st2=>∃k:Nat,m=n-(k+1)/\U=[some (.tup (zs.map D.int)),some (.int s),some (.int (j:Int)),some (.ref st1.length)]/\st2[st1.length]?=some (.lst ((af.row zs s k).map D.int))/\af.NB zs s k/\Ex [] st1 st2
 refine⟨rfl,Z _ _ (aP (zk xY (n-1) (Za9 (show n-1<=100 by lk) ∅) ⟨0,rfl,rfl,fW,λj h1 h2=>by lk,Ex.bZ _⟩ ?_))⟩;clear Z;rintro m U st2 ⟨k',rfl,rfl,hL,nb,k2⟩;have hrl:=tz.mQ s0 s1 nb;obtain⟨y0,y1⟩:=tz.bC s0 s1 k';exists _,Z,bx hL,Vn,rL (xs:=zs) y0 ⋯;refine Z _ _ ⟨λhb=>?_,λhb=>?_⟩;have hb:af.bC zs s (k' + 1)≠s:=by show af.app zs (af.bC zs s k')≠s;simpa using hb
 have Jp:af.NB zs s (k' + 1):=λj h1 h2=>by
  by_cases hj:j<=k';exact nb j h1 hj
  have:j=k' + 1:=by lk
  rw[this];exact hb
 have hle:=tz.mQ s0 s1 Jp;refine pS ?_;exists _,b9,bx hL,Vn,rL (xs:=zs) y0 ⋯,j8 hL;refine⟨nW (by rw[bx hL];rfl),jH (by rw[Zaa,af.wN];lk),b9 _ _ ⟨n-(k' + 1+1),by lk,k' + 1,rfl,rfl,?_,Jp,k2.loc (Zad _)⟩⟩;rw[Zaj (dc hL),af.RJ,Zap];rfl;have hb:af.bC zs s (k' + 1)=s:=by show af.app zs (af.bC zs s k')=s;simpa using hb
 refine cV ?_;have hpos:(0:Int)<((k' + 1:Nat):Int):=by lk
 have eL:((((af.row zs s k').map D.int).length:Nat):Int)=((k' + 1:Nat):Int):=by rw[Zaa,af.wN]
 exists _,b9,bx hL,eL,Vj (Zbf (j:Int) (Int.ne_of_gt hpos)) (Zbq (j:Int) hpos);refine⟨hpos,b9 _ _ ⟨?_,k1.trans k2⟩⟩;rw[<- ej,show((j:Int) % ((k' + 1:Nat):Int)).toNat=j % (k' + 1) by lk,af.RM hb]
def Xcp(tx:af.Tn n xs)(ty:af.Tn n ys)(hn:n<=100):Wp (zy [bS xs ys,.tup [.str "s",.int k]] st) λd st'=>d=bS xs (af.shr xs ys k)/\Ex [] st st':=by
 have hlx:=tx.length;have DJ:=ty.length;refine eI ?_;intro qR;show Ws (Cc [some (bS xs ys),some (.tup [.str "s",.int k]),none,none,none] st) _ _ _ _;unfold Cc bS;refine aP (uO ?_);k_lt Z;refine Z _ _ ?_;k_lt2 Z;refine⟨rfl,Z _ _ (aP (gu ?_))⟩;k_lt2 Z;refine Z _ _ ⟨λ_=>cV ?_,λh=>absurd h (by simp)⟩;k_lt2 Z;refine uP (aH 0 n) (λd=>.int (af.app ys (af.pw xs (-k) (inD d)))) ?_ (by rw[gs];lk) ?_ ?_;k_lt b9;rw[Zaa,DJ];exact⟨by lk,b9 _ _ ⟨by rw[Zat];exact sI _ _,Ex.refl⟩⟩;intro d hd uK k7;rw[ux]at hd;obtain⟨x,hx,rfl⟩:=BH hd;obtain⟨x0,x1⟩:=af.oS.mp hx;obtain⟨p0,p1⟩:=tx.pw x0 x1 (-k);exists _,b9,Zaz,ZaW,ZaY,ZaZ;refine aR (Xb7 (k:=0-k) tx hn x0 x1) ?_;rintro d iH ⟨rfl,k8⟩;rw[show(0:Int)-k=-k by lk];exists rL (xs:=ys) p0 ⋯;exact b9 _ _ ⟨rfl,k8⟩;intro uK k7;have e:(aH 0 n).map (λd=>D.int (af.app ys (af.pw xs (-k) (inD d))))=(af.shr xs ys k).map D.int:=by
  rw[ux,Ga (f:=λx=>af.app ys (af.pw xs (-k) x)) λx hx=>rfl];unfold af.shr af.a7 af.cD;rw[hlx,ZaF,ZaF,ZaF];rfl
 rw[e];w_how;exact⟨rfl,Z _ _ ⟨rfl,k7.app _⟩⟩
abbrev p7(xs ys:List Int):Nat->List Int×List Int
 |0=>(xs,ys)
 |j+1=>(af.inv (p7 xs ys j).2,(p7 xs ys j).1)
def Jr(tx:af.Tn n xs)(ty:af.Tn n ys):∀j,af.Tn n (p7 xs ys j).1/\af.Tn n (p7 xs ys j).2
 |0=>⟨tx,ty⟩
 |j+1=>⟨(Jr tx ty j).2.aB,(Jr tx ty j).1⟩
def zcq{st:Store}{xs ys:List Int}{n j:Nat}(tx:af.Tn n xs)(ty:af.Tn n ys)(hn:n<=100)(hj:j<4):Wp (zy [bS xs ys,.tup [.str "t",.int (j:Int)]] st) λd st'=>d=bS (p7 xs ys j).1 (p7 xs ys j).2/\Ex [] st st':=by
 refine eI ?_;intro qR;show Ws (Cc [some (bS xs ys),some (.tup [.str "t",.int (j:Int)]),none,none,none] st) _ _ _ _;unfold Cc bS;refine aP (uO ?_);k_lt Z;refine Z _ _ ?_;k_lt2 Z;refine⟨rfl,Z _ _ (aP (gu ?_))⟩;k_lt2 Z
 let iL:IV:=λi U st2=>∃v4:Option D,U=[some (.tup [.tup (xs.map D.int),.tup (ys.map D.int)]),some (.tup [.str "t",.int (j:Int)]),some (.tup ((p7 xs ys i).1.map D.int)),some (.tup ((p7 xs ys i).2.map D.int)),v4]/\Ex [] st st2
 refine Z _ _ ⟨λh=>absurd h ∅,λ_=>jv (aP (lU (aH 0 j) iL ?_ (by rw[gs];lk) ?_ ?_))⟩;k_lt2 Z;rw[show(j:Int) % 4=(j:Int) by lk];exact⟨by lk,by lk,Z _ _ ⟨by rw[Zat],none,rfl,Ex.refl⟩⟩;rintro i d U st2 hd ⟨v4,rfl,k2⟩;obtain⟨ta,tb⟩:=Jr tx ty i;show Wp _ _;have hlb:=tb.length;generalize hzs:(p7 xs ys i).2=zs at tb hlb ⊢;k_lt2 Z;refine Z _ _ (uO ?_);k_lt2 Z;refine uP (aH 0 n) (λd=>.int (zs.idxOf (inD d):Int)) ?_ (by rw[gs];lk) ?_ ?_;k_lt b9;rw[Zaa,hlb];exact⟨by lk,b9 _ _ ⟨by rw[Zat];exact sI _ _,Ex.refl⟩⟩;intro d hd uK k7;rw[ux]at hd;obtain⟨x,hx,rfl⟩:=BH hd;obtain⟨x0,x1⟩:=af.oS.mp hx;exists _,b9,Zaz,ZaW,ZaY,ZaZ,Tt,Vm (tb.mem x0 x1);exact b9 _ _ ⟨rfl,Ex.refl⟩;intro uK k7;have e:(aH 0 n).map (λd=>D.int (zs.idxOf (inD d):Int))=(af.inv zs).map D.int:=by
  rw[ux,Ga (f:=λx=>(zs.idxOf x:Int)) λx hx=>rfl];unfold af.inv;rw[hlb]
 rw[e];w_how;refine⟨rfl,Z _ _ ?_⟩;k_lt2 Z;refine⟨rfl,Z _ _ ⟨some d,?_,(k2.trans k7).app _⟩⟩;rw[show(p7 xs ys (i+1)).1=af.inv (p7 xs ys i).2 from rfl,show(p7 xs ys (i+1)).2=(p7 xs ys i).1 from rfl,hzs];rintro U st2 ⟨v4,rfl,k2⟩;rw[gs];refine cV ?_;k_lt2 Z;exact⟨rfl,Z _ _ ⟨rfl,k2⟩⟩
abbrev Js(s:bO):Prop:=s.1=false->1<=s.2/\s.2<=3
abbrev jn(p:List Int×List Int)(s:bO):List Int×List Int:=if s.1=true then(p.1,af.shr p.1 p.2 s.2)else p7 p.1 p.2 s.2.toNat
abbrev mV(p:List Int×List Int)(w:List bO):List Int×List Int:=w.foldl jn p
def Yc1(h:af.Tn n p.1/\af.Tn n p.2)(s:bO):af.Tn n (jn p s).1/\af.Tn n (jn p s).2:=by unfold jn;split;exact⟨h.1,h.1.shr h.2 _⟩;exact Jr h.1 h.2 _
def Po:∀{p:List Int×List Int},af.Tn n p.1/\af.Tn n p.2->∀w:List bO,af.Tn n (mV p w).1/\af.Tn n (mV p w).2
 |_,h,[]=>h
 |_,h,s :: w=>Po (Yc1 h s) w
def xc1(p:List Int×List Int)(v w:List bO):mV p (v ++ w)=mV (mV p v) w:=by unfold mV;rw[Za5]
def Vo(p:List Int×List Int)(w:List bO)(s:bO):mV p (w ++ [s])=jn (mV p w) s:=by rw[xc1];rfl
abbrev bz(p:List Int×List Int):D:=bS p.1 p.2
def Vp(h:af.Tn n p.1/\af.Tn n p.2)(hn:n<=100)(hs:Js s):Wp (zy [bz p,aQ s] st) λd st'=>d=bz (jn p s)/\Ex [] st st':=by
 obtain⟨b,k⟩:=s;cases b with
 |true=>exact Xcp (k:=k) h.1 h.2 hn
 |false =>
  obtain⟨k1,k3⟩:=hs rfl;obtain⟨j,rfl⟩:∃j:Nat,k=(j:Int):=⟨k.toNat,by simp only at k1;lk⟩;have:=zcq (st:=st) (j:=j) h.1 h.2 hn (by simp only at k3;lk);refine aR this ?_;rintro d st1 ⟨rfl,k1⟩;refine⟨?_,k1⟩;unfold bz jn;rw[if_neg (show ¬(false=true)from Zam),Zat]
def Vq(h:af.Tn n p.1/\af.Tn n p.2)(hn:n<=100)(hw:∀s∈w,Js s)(hl:w.length<=1000):Wp (Ce [bz p,.tup (w.map aQ)] st) λd st'=>d=bz (mV p w)/\Ex [] st st':=by
 refine eI ?_;intro qR;show Ws (G5 [some (bz p),some (.tup (w.map aQ)),none] st) _ _ _ _;unfold G5
 let iL:IV:=λi U st2=>∃v2:Option D,U=[some (bz (mV p (w.take i))),some (.tup (w.map aQ)),v2]/\Ex [] st st2
 refine aP (lU (w.map aQ) iL ?_ (by rw[Zaa];lk) ?_ ?_);k_lt Z;exact Z _ _ ⟨rfl,none,rfl,Ex.refl⟩;rintro i d U st2 hd ⟨v2,rfl,k2⟩;rw[Zag]at hd;obtain⟨s,hs,rfl⟩:=Zay.mp hd;obtain⟨hil,es⟩:=Zab.mp hs;k_lt Z;refine Z _ _ (bj ?_);k_lt2 Z;refine aR (Vp (Po h _) hn (hw s (Zai hs))) ?_;rintro d st3 ⟨rfl,k3⟩;refine Z _ _ ⟨some (aQ s),?_,k2.trans k3⟩;rw[ZaH hil,Vo,es];rfl;rintro U st2 ⟨v2,rfl,k2⟩;rw[Zaa,ZaN];refine cV ?_;k_lt Z;exact Z _ _ ⟨rfl,k2⟩
def ybY(h:af.Tn n p.1/\af.Tn n p.2)(hn:n<=100)(hs:Js s):Wp (Lx [bz p,aQ s] st) λd st'=>d=bz (jn p s)/\Ex [] st st':=by
 obtain⟨b,k⟩:=s;refine eI ?_;intro qR;show Ws (HM [some (bz p),some (aQ (b,k)),none,none] st) _ _ _ _;unfold HM aQ;cases b with
 |true =>
  refine aP (gu ?_);k_lt Z;refine Z _ _ ⟨λ_=>cV ?_,λz=>absurd z ∅⟩;k_lt2 Z;refine aR (YbX (k:=k) h.1 h.2 hn) ?_;rintro d st1 ⟨rfl,k1⟩;exact Z _ _ ⟨rfl,k1⟩
 |false =>
  obtain⟨k1,k3⟩:=hs rfl;obtain⟨j,rfl⟩:∃j:Nat,k=(j:Int):=⟨k.toNat,by simp only at k1;lk⟩;refine aP (gu ?_);k_lt Z;refine Z _ _ ⟨λz=>absurd z ∅,λ_=>jv (aP (bj ?_))⟩;k_lt2 Z
  let iL:IV:=λi U st2=>∃v3:Option D,U=[some (bz p),some (aQ (false,(j:Int))),some (bS (p7 p.1 p.2 i).1 (p7 p.1 p.2 i).2),v3]/\Ex [] st st2
  refine Z _ _ (aP (lU (aH 0 j) iL ?_ (by rw[gs];simp only at k3;lk) ?_ ?_));k_lt2 Z;exact⟨by simp only at k3;lk,Z _ _ ⟨by rw[Zat],none,rfl,Ex.refl⟩⟩;rintro i d U st2 hd ⟨v3,rfl,k2⟩;obtain⟨ta,tb⟩:=Jr h.1 h.2 i;k_lt2 Z;refine Z _ _ (bj ?_);k_lt2 Z;refine aR (ybx ta tb hn) ?_;rintro d' st3 ⟨rfl,k3⟩;exact Z _ _ ⟨some d,rfl,k2.trans k3⟩;rintro U st2 ⟨v3,rfl,k2⟩;rw[gs];refine cV ?_;k_lt2 Z;refine Z _ _ ⟨?_,k2⟩;unfold bz jn;rw[if_neg (show ¬(false=true)from Zam),Zat]
def Xc1(h:af.Tn n p.1/\af.Tn n p.2)(hn:n<=100)(hw:∀s∈w,Js s)(hl:w.length<=1000):Wp (Lz [bz p,.tup (w.map aQ)] st) λd st'=>d=bz (mV p w)/\Ex [] st st':=by
 refine eI ?_;intro qR;show Ws (HP [some (bz p),some (.tup (w.map aQ)),none,none] st) _ _ _ _;unfold HP;refine aP (bj ?_);k_lt Z
 let iL:IV:=λi U st2=>∃v2:Option D,U=[some (bz p),some (.tup (w.map aQ)),some (bz (mV p (w.take i))),v2]/\Ex [] st st2
 refine Z _ _ (aP (lU (w.map aQ) iL ?_ (by rw[Zaa];lk) ?_ ?_));k_lt2 Z;exact Z _ _ ⟨rfl,none,rfl,Ex.refl⟩;rintro i d U st2 hd ⟨v2,rfl,k2⟩;rw[Zag]at hd;obtain⟨s,hs,rfl⟩:=Zay.mp hd;obtain⟨hil,es⟩:=Zab.mp hs;k_lt2 Z;refine Z _ _ (bj ?_);k_lt2 Z;refine aR (ybY (Po h _) hn (hw s (Zai hs))) ?_;rintro d st3 ⟨rfl,k3⟩;refine Z _ _ ⟨some (aQ s),?_,k2.trans k3⟩;rw[ZaH hil,Vo,es];rfl;rintro U st2 ⟨v2,rfl,k2⟩;rw[Zaa,ZaN];refine cV ?_;k_lt2 Z;exact Z _ _ ⟨rfl,k2⟩
abbrev qk(g:Int)(s:bO):Prop:=(s.1=false->1<=s.2/\s.2<=3)/\(s.2.natAbs:Int)<=g/\s.2≠0
def ycq(hf:a6 st f)(m0:0<=most)(m1:most<=100)(g0:3<=great)(g1:great<=1000):Wp (Hj [.ref f,.int most,.int great] st) λd st'=>∃w:List bO,d=.tup (w.map aQ)/\(∀s∈w,qk great s)/\(w.length:Int)<=most/\a6 st' f/\Ex [f] st st':=by
 have hfl:=hf.lt;refine eI ?_;intro qR;show Ws (Hi [some (.ref f),some (.int most),some (.int great),none,none] st) _ _ _ _;unfold Hi;refine aP (bj ?_);k_lt Z;refine⟨rfl,Z _ _ ?_⟩;clear Z;show Ws _ _ _ _ _;obtain⟨d,st1,e1,c,rfl,c0,c1,f1,k1⟩:=rQ (st:=st ++ [O.lst []]) (n:=most+1) (hf.keep (Ex.bZ _)) ⋯ ⋯;obtain⟨m,rfl⟩:∃m:Nat,c=(m:Int):=⟨c.toNat,by lk⟩;have hl1:st1[st.length]?=some (.lst []):=k1.keep _ _ fW (by simp;lk);have kx:Ex [f] st st1:=(Ex.bZ _).trans k1
 let iL:IV:=λi U st2=>∃(v4:Option D) (w:List bO),U=[some (.ref f),some (.int most),some (.int great),some (.ref st.length),v4]/\st2[st.length]?=some (.lst (w.map aQ))/\(∀s∈w,qk great s)/\w.length<=i/\a6 st2 f/\Ex [f] st st2
 refine aP (lU (aH 0 m) iL ?_ (by rw[gs];lk) ?_ ?_);k_lt Z;refine⟨_,_,e1,?_⟩;exact⟨_,rfl,by lk,Z _ _ ⟨by rw[Zat],none,[],rfl,hl1,(λs hs=>nomatch hs),Zad _,f1,kx⟩⟩;rintro i d U st2 hd ⟨v4,w,rfl,hl2,hw,hwl,f2,k2⟩;have hil:=dc hd;rw[gs]at hil;have put:∀(s:bO) (mH:Store),qk great s->a6 mH f->mH[st.length]?=some (.lst (w.map aQ))->Ex [f] st mH->∀v4:Option D,∃(v4':Option D) (w':List bO),[some (.ref f),some (.int most),some (.int great),some (.ref st.length),v4]=[some (.ref f),some (.int most),some (.int great),some (.ref st.length),v4']/\(mH.set st.length (.lst (w.map aQ ++ [aQ s])))[st.length]?=some (.lst (w'.map aQ))/\(∀s∈w',qk great s)/\w'.length<=i+1/\a6 (mH.set st.length (.lst (w.map aQ ++ [aQ s]))) f/\Ex [f] st (mH.set st.length (.lst (w.map aQ ++ [aQ s]))):=λs mH os f5 h5 k5 v4=>by
  refine⟨v4,w ++ [s],rfl,?_,λs' hs'=>?_,by rw[Zae];simp;lk,f5.ne ⋯,k5.loc (Zad _)⟩;rw[Zaj (dc h5),Zap];rfl;rcases Zax.mp hs' with h|h
  exact hw s' h;rw[Zar.mp h];exact os
 k_lt Z;refine Z _ _ (gu ?_);k_lt2 Z;refine aR (rQ (n:=2) f2 ∅ ∅) ?_;rintro d' st3 ⟨b,rfl,b0,b1,f3,k3⟩;have hl3:=k3.keep _ _ hl2 (by simp;lk);w_how;refine Z _ _ ⟨λ_=>pS ?_,λ_=>aP (bj ?_)⟩;k_lt2 Z;refine⟨nW (by rw[bx hl3];rfl),?_⟩;refine aR (rQ (n:=3) f3 ∅ ∅) ?_;rintro d' oH ⟨c,rfl,c0,c1,f4,k4⟩;have uR:=k4.keep _ _ hl3 (by simp;lk);exists j8 uR;refine⟨rfl,jH (by rw[Zaa];lk),Z _ _ ?_⟩;exact put (false,1+c) oH ⟨λ_=>⟨by show 1<=1+c;lk,by show 1+c<=3;lk⟩,by show((1+c).natAbs:Int)<=great;lk,by show 1+c≠0;lk⟩ f4 uR ((k2.trans k3).trans k4) _;k_lt2 Z;refine aR (rQ (n:=great) f3 ⋯ ⋯) ?_;rintro d' oH ⟨c,rfl,c0,c1,f4,k4⟩;have uR:=k4.keep _ _ hl3 (by simp;lk);w_how;refine Z _ _ (pS ?_);k_lt2 Z;refine⟨nW (by rw[bx uR];rfl),rfl,?_⟩;refine aR (rQ (n:=2) (f4.keep (Ex.bZ [O.lst [D.int (1+c),D.int (0-(1+c))]])) ∅ ∅) ?_;rintro d' mH ⟨g,rfl,g0',g1',f5,k5⟩;have hi5:mH[oH.length]?=some (.lst [D.int (1+c),D.int (0-(1+c))]):=k5.keep _ _ fW (by have:=f4.lt;simp;lk);have Jq:mH[st.length]?=some (.lst (w.map aQ)):=k5.keep _ _ (j4 uR) (by simp;lk);obtain⟨sg,hsg,s1,s2⟩:∃sg:Int,dA [D.int (1+c),D.int (0-(1+c))] g=some (.int sg)/\(sg.natAbs:Int)<=great/\sg≠0:=by
  rcases(show g=0\/g=1 by lk)with rfl|rfl
  exact⟨1+c,Br _ _,by lk,by lk⟩;exact⟨0-(1+c),zo _ _ _,by lk,by lk⟩
 exists bx hi5,hsg,j8 Jq;refine⟨rfl,jH (by rw[Zaa];lk),Z _ _ ?_⟩;exact put (true,sg) mH ⟨λz=>Bool.noConfusion (show true=false from z),s1,s2⟩ f5 Jq (((k2.trans k3).trans k4).trans ((Ex.bZ _).trans k5)) _;rintro U st2 ⟨v4,w,rfl,hl2,hw,hwl,f2,k2⟩;rw[gs]at hwl;refine cV ?_;exists _,Z,bx hl2;exact Z _ _ ⟨w,rfl,hw,by lk,f2,k2⟩
abbrev dz(T:af.T4):D:=.tup [.int T.a,.int T.b,.int T.c,.int T.d]
abbrev Me(A B:af.T4):Prop:=∀x∈[A.a,A.b,A.c,A.d],∀y∈[B.a,B.b,B.c,B.d],cv x y=true
def Pp(h:A.le 18446744073709551615):Me A B:=λx hx y _=>by
 refine xcY ?_;obtain⟨h1,h2,h3,h4⟩:=h;simp only[ZaE,ZbR,or_false]at hx;rcases hx with rfl|rfl|rfl|rfl<;>lk
def Pq(hk:k<=60000000)(hM:M<P2 k)(h:A.le M)(h':B.le M):Me A B:=λx hx y hy=>by
 obtain⟨h1,h2,h3,h4⟩:=h;obtain⟨g1,g2,g3,g4⟩:=h';simp only[ZaE,ZbR,or_false]at hx hy;refine OS hk ?_ ?_;rcases hx with rfl|rfl|rfl|rfl<;>lk
 rcases hy with rfl|rfl|rfl|rfl<;>lk
def Pr(h:Me A B):Wp (zC [dz A,dz B] st) λd st'=>d=dz (A.mul B)/\Ex [] st st':=by refine eI ?_;intro qR;show Ws (IB [some (dz A),some (dz B)] st) _ _ _ _;unfold IB dz;refine cV ?_;have hh:∀x y:Int,x∈[A.a,A.b,A.c,A.d]->y∈[B.a,B.b,B.c,B.d]->cv x y=true:=λx y hx hy=>h x hx y hy;have a1:∀y∈[B.a,B.b,B.c,B.d],cv A.a y=true:=h _ (by simp);have a2:∀y∈[B.a,B.b,B.c,B.d],cv A.b y=true:=h _ (by simp);have a3:∀y∈[B.a,B.b,B.c,B.d],cv A.c y=true:=h _ (by simp);have a4:∀y∈[B.a,B.b,B.c,B.d],cv A.d y=true:=h _ (by simp);exists _,Z,K0,at2,TQ;exact⟨a1 _ (by simp),a2 _ (by simp),a1 _ (by simp),a2 _ (by simp),a3 _ (by simp),a4 _ (by simp),a3 _ (by simp),a4 _ (by simp),rfl,Z _ _ ⟨rfl,Ex.refl⟩⟩
def ZbY{st:Store}{s:bO}(h:af.bQ s):Wp (IE [aQ s] st) λd st'=>d=dz (af.fJ s)/\Ex [] st st':=by
 obtain⟨b,k⟩:=s;refine eI ?_;intro qR;show Ws (LM [some (aQ (b,k)),none,none] st) _ _ _ _;unfold LM aQ;cases b with
 |true =>
  refine aP (gu ?_);k_lt Z;refine Z _ _ ⟨λ_=>cV ?_,λh=>absurd h ∅⟩;k_lt2 Z;exact⟨rfl,Z _ _ ⟨rfl,Ex.refl⟩⟩
 |false =>
  obtain⟨k1,k3⟩:=h.1 rfl;simp only at k1 k3;obtain⟨j,rfl⟩:∃j:Nat,k=(j:Int):=⟨k.toNat,by lk⟩;refine aP (gu ?_);k_lt Z;refine Z _ _ ⟨λh=>absurd h ∅,λ_=>jv (aP (bj ?_))⟩;k_lt2 Z;refine Z _ _ ?_;clear Z;show Ws _ _ _ _ _
  let iL:IV:=λi U st2=>∃v:Option D,U=[some (.tup [.str "t",.int (j:Int)]),some (dz (af.qp i)),v]/\Ex [] st st2
  refine aP (lU (aH 0 j) iL ?_ (by rw[gs];lk) ?_ ?_);k_lt Z;exact⟨by lk,Z _ _ ⟨by rw[Zat],none,rfl,Ex.refl⟩⟩;rintro i d U st2 hd ⟨v,rfl,k2⟩;k_lt Z;refine Z _ _ (bj ?_);k_lt2 Z;refine aR (Pr (A:=af.T4.qt) (B:=af.qp i) (Pp ⟨by decide,by decide,by decide,by decide⟩)) ?_;rintro d st3 ⟨rfl,k3⟩;exact Z _ _ ⟨_,rfl,k2.trans k3⟩;rintro U st2 ⟨v,rfl,k2⟩;rw[gs];refine cV ?_;k_lt Z;refine Z _ _ ⟨?_,k2⟩;show dz (af.qp j)=dz (af.qp (j:Int).toNat);rw[Zat]
def Vr{s:bO}{B:Nat}(h:af.bQ s)(hs:s.2.natAbs<=B):(af.fJ s).le (B+1):=by
 have:=af.yN (T:=af.T4.one) (s:=s) (M:=1) (B:=B) ⟨by decide,by decide,by decide,by decide⟩ h hs
 rwa [af.T4.mul_one,Nat.mul_one]at this
def x4{T:af.T4}{M N:Nat}(h:T.le M)(hn:M<=N):T.le N:=⟨Zaq h.1 hn,Zaq h.2.1 hn,Zaq h.2.2.1 hn,Zaq h.2.2.2 hn⟩
def Pt{w:List bO}{b n:Nat}(hw:∀s∈w,af.bQ s/\s.2.natAbs+1<=P2 b)(hn:w.length<=n):(af.av w).le (P2 (b*n)):=by
 have:=af.YR (B:=P2 b-1) (n:=n) (w:=w) (λs hs=>⟨(hw s hs).1,by have:=(hw s hs).2;lk⟩) hn
 rwa [show P2 b-1+1=P2 b by have:=AE b;lk,AF]at this
def Vs{st:Store}{w:List bO}{b:Nat}(hb:b<=50000)(hw:∀s∈w,af.bQ s/\s.2.natAbs+1<=P2 b)(hl:w.length<=1000):Wp (IG [.tup (w.map aQ)] st) λd st'=>d=dz (af.av w)/\Ex [] st st':=by
 refine eI ?_;intro qR;show Ws (LO [some (.tup (w.map aQ)),none,none] st) _ _ _ _;unfold LO;refine aP (bj ?_);k_lt Z;refine Z _ _ ?_;clear Z;show Ws _ _ _ _ _
 let iL:IV:=λi U st2=>∃v:Option D,U=[some (.tup (w.map aQ)),some (dz (af.av (w.take i))),v]/\Ex [] st st2
 refine aP (lU (w.map aQ) iL ?_ (by rw[Zaa];lk) ?_ ?_);k_lt Z;exact Z _ _ ⟨rfl,none,rfl,Ex.refl⟩;rintro i d U st2 hd ⟨v2,rfl,k2⟩;rw[Zag]at hd;obtain⟨s,hs,rfl⟩:=Zay.mp hd;obtain⟨hil,es⟩:=Zab.mp hs;have hsw:=hw s (Zai hs);k_lt Z;refine Z _ _ (bj ?_);k_lt2 Z;refine aR (ZbY hsw.1) ?_;rintro d st3 ⟨rfl,k3⟩;refine aR (Pr (Pq (M:=P2 (b*1000)) (k:=b*1000+1) ⋯ (by rw[vG];have:=AE (b*1000);lk) (x4 (Vr (B:=P2 b-1) hsw.1 ⋯) (by have:=AE b;have:=wM (show b<=b*1000 by lk);lk)) (Pt (λs hs=>hw s (List.mem_of_mem_take hs)) (by rw[Zbi];lk)))) ?_;rintro d oH ⟨rfl,k4⟩;refine Z _ _ ⟨some (aQ s),?_,(k2.trans k3).trans k4⟩;rw[ZaH hil,af.uq,es];rfl;rintro U st2 ⟨v2,rfl,k2⟩;rw[Zaa,ZaN];refine cV ?_;k_lt Z;exact Z _ _ ⟨rfl,k2⟩
def Zb8:Wp (LB [aQ a,aQ b] st) λd st'=>d=.tup ((af.ck a b).map aQ)/\Ex [] st st':=by
 obtain⟨ab,ak⟩:=a;obtain⟨bb,bk⟩:=b;refine eI ?_;intro qR;show Ws (HR [some (.tup [.str (if ab then "s" else "t"),.int ak]),some (.tup [.str (if bb then "s" else "t"),.int bk]),none] st) _ _ _ _;unfold HR;have hj:af.ck (ab,ak) (bb,bk)=if af.gj (ab,ak) (bb,bk)=0 then[]else[(ab,af.gj (ab,ak) (bb,bk))]:=rfl
 refine aP (bj ?_);k_lt Z;refine Z _ _ ?_;clear Z;show Ws _ _ _ _ _
 let iL:IN:=λU st1=>st1=st/\U=[some (.tup [.str (if ab then "s" else "t"),.int ak]),some (.tup [.str (if bb then "s" else "t"),.int bk]),some (.int (af.gj (ab,ak) (bb,bk)))]
 refine aP (Bm (N:=iL) (gu ?_) ?_);k_lt Z;refine Z _ _ ⟨λh=>bj ?_,λh=>jv ⟨rfl,?_⟩⟩;cases ab with
 |true=>exact absurd h ∅
 |false =>
  k_lt2 Z;exact⟨by decide,Z _ _ ⟨rfl,rfl⟩⟩
 cases ab with
 |true=>rfl
 |false=>exact absurd h ∅
 rintro U st1 ⟨rfl,rfl⟩;refine aP (gu ?_);k_lt Z;refine Z _ _ ⟨λh=>cV ?_,λh=>jv (cV ?_)⟩;have h:=of_decide_eq_true h;k_lt2 Z;refine⟨rfl,Z _ _ ⟨?_,Ex.refl⟩⟩;rw[hj,if_pos h];rfl;have h:=of_decide_eq_false h;k_lt2 Z;refine⟨rfl,rfl,Z _ _ ⟨?_,Ex.refl⟩⟩;rw[hj,if_neg h];rfl
def Pu{xs:List D}{x:D}:dA (xs ++ [x]) (-1)=some x:=by
 unfold dA oA;rw[Zae,if_neg ∅,if_pos (by simp;lk)];simp only[Zbj];have e:((-1:Int)+((xs.length+[x].length:Nat):Int)).toNat=xs.length:=by simp only[Zbh];lk
 rw[e];simp
def zc2:cutD (xs ++ [x]) none (some (-1))=xs:=by
 have e1:HT.cK (xs ++ [x]).length 0 none=0:=rfl;have e2:HT.cK (xs ++ [x]).length (xs ++ [x]).length (some (-1))=xs.length:=by
  unfold HT.cK;simp only;rw[if_pos ∅,Zae,Zbh];lk
 unfold cutD;rw[e1,e2,ZcA,Nat.sub_zero];simp
def ycO(a b:Bool):(((if a=true then("s" : Str)else "t")=(if b=true then("s" : Str)else "t")))↔a=b:=by cases a<;>cases b<;>decide
def Zbx{st:Store}{w:List bO}(hl:w.length<=1000):Wp (LC [.tup (w.map aQ)] st) λd st'=>d=.tup ((af.gW w).reverse.map aQ)/\Ex [] st st':=by
 refine eI ?_;intro qR;show Ws (HU [some (.tup (w.map aQ)),none,none] st) _ _ _ _;unfold HU;refine aP (bj ?_);k_lt Z;refine⟨rfl,Z _ _ ?_⟩;clear Z;show Ws _ _ _ _ _;refine aP (lU (w.map aQ) (λi U st2=>∃v:Option D,U=[some (.tup (w.map aQ)),some (.tup ((af.gW (w.take i)).reverse.map aQ)),v]/\Ex [] st st2) ?_ (by rw[Zaa];lk) ?_ ?_);k_lt Z;exact Z _ _ ⟨rfl,none,rfl,Ex.refl⟩;rintro i d U st2 hd ⟨v2,rfl,k2⟩;rw[Zag]at hd;obtain⟨s,hs,rfl⟩:=Zay.mp hd;obtain⟨hil,es⟩:=Zab.mp hs;have ep:af.gW (w.take (i+1))=af.bE (af.gW (w.take i)) s:=by rw[ZaH hil,af.Kg,es];rfl
 have hpl:(af.gW (w.take i)).length<=1000:=by have:=af.Kh (w.take i);rw[Zbi]at this;lk
 rw[ep];clear ep;generalize af.gW (w.take i)=l at hpl ⊢;k_lt Z;refine Z _ _ (gu ?_);k_lt2 Z;cases l with
 |nil =>
  refine Z _ _ ⟨λh=>absurd h ∅,λ_=>bj ?_⟩;k_lt2 Z;exact⟨rfl,rfl,Z _ _ ⟨some (aQ s),rfl,k2⟩⟩
 |cons t r =>
  have eg:(t :: r).reverse.map aQ=r.reverse.map aQ ++ [aQ t]:=by simp
  rw[eg];have el:decide ((0:Int)<((r.reverse.map aQ ++ [aQ t]).length:Nat))=true:=decide_eq_true (by simp);have es1:aQ t=.tup [.str (if t.1 then "s" else "t"),.int t.2]:=rfl;have Mf:aQ s=.tup [.str (if s.1 then "s" else "t"),.int s.2]:=rfl;have elt:(if t.1=true then("s" : Str)else "t")=(if s.1=true then("s" : Str)else "t")↔t.1=s.1:=ycO _ _;exists Pu,es1,Mf;rw[if_pos (by simp)];refine Z _ _ ⟨λh=>bj ?_,λh=>bj ?_⟩;have h:=elt.mp (of_decide_eq_true h);k_lt2 Z;rw[eg,zc2];exists Pu;refine aR Zb8 ?_;rintro d st3 ⟨rfl,k3⟩;w_how;refine⟨jH ?_,Z _ _ ⟨some (aQ s),?_,k2.trans k3⟩⟩
  have:(af.ck t s).length<=1:=by unfold af.ck;split<;>simp
  simp only[Zaa,ZaL];simp only[ZaD]at hpl;lk;have ej:(af.ck t s).reverse=af.ck t s:=by unfold af.ck;split<;>rfl
  rw[af.vN,if_pos h,List.reverse_append,Zap,ej];rfl;have h:=λe=>of_decide_eq_false h (elt.mpr e);k_lt2 Z;refine⟨rfl,jH ?_,Z _ _ ⟨some (aQ s),?_,k2⟩⟩;simp only[Zaa,ZaL,Zbh];lk;have e2:(s :: t :: r).reverse.map aQ=(t :: r).reverse.map aQ ++ [aQ s]:=by simp
  rw[af.vN,if_neg h,e2];rfl
 rintro U st2 ⟨v2,rfl,k2⟩;rw[Zaa,ZaN];refine cV ?_;k_lt Z;exact Z _ _ ⟨rfl,k2⟩
def Vt{st:Store}{v w:List bO}(hl:v.length+w.length<=1000):Wp (HY [.tup (v.map aQ),.tup (w.map aQ)] st) λd st'=>d=.tup ((af.gW (v ++ w)).reverse.map aQ)/\Ex [] st st':=by refine eI ?_;intro qR;show Ws (HX [some (.tup (v.map aQ)),some (.tup (w.map aQ))] st) _ _ _ _;unfold HX;refine cV ?_;k_lt Z;refine⟨jH (by simp only[Zaa];lk),?_⟩;rw[<- Zap];refine aR (Zbx (by rw[Zae];exact hl)) ?_;rintro d st3 ⟨rfl,k3⟩;exact Z _ _ ⟨rfl,k3⟩
def YbL:Wp (LV [aQ s] st) λd st'=>d=aQ (af.jN s)/\Ex [] st st':=by
 obtain⟨b,k⟩:=s;refine eI ?_;intro qR;show Ws (IX [some (.tup [.str (if b then "s" else "t"),.int k])] st) _ _ _ _;unfold IX;refine aP (gu ?_);cases b with
 |true =>
  k_lt Z;refine Z _ _ ⟨λ_=>cV ?_,λh=>absurd h ∅⟩;k_lt2 Z;exact⟨rfl,Z _ _ ⟨rfl,Ex.refl⟩⟩
 |false =>
  k_lt Z;refine Z _ _ ⟨λh=>absurd h ∅,λ_=>jv (cV ?_)⟩;k_lt2 Z;exact⟨rfl,Z _ _ ⟨rfl,Ex.refl⟩⟩
def xbL{st:Store}{w:List bO}(hl:w.length<=1000):Wp (LW [.tup (w.map aQ)] st) λd st'=>d=.tup ((af.dJ w).map aQ)/\Ex [] st st':=by
 refine eI ?_;intro qR;show Ws (IZ [some (.tup (w.map aQ))] st) _ _ _ _;unfold IZ;refine cV ?_;k_lt Z;refine ycY (w.reverse.map aQ) (λi y=>∃s,w.reverse[i]?=some s/\y=aQ (af.jN s)) (Ex [] st) ?_ (by rw[Zaa,ZaL];lk) ?_ ?_;exists _,b9,Uc;refine⟨_,rfl,b9 _ _ ⟨λi st2 hi _=>?_,Ex.refl⟩⟩;rw[<- Zce];exact sI _ st2 i st2 hi Ex.refl;intro i d hd st1 k1;rw[Zag]at hd;obtain⟨s,hs,rfl⟩:=Zay.mp hd;k_lt b9;refine aR YbL ?_;rintro d st3 ⟨rfl,k3⟩;exact b9 _ _ ⟨⟨s,hs,rfl⟩,k1.trans k3⟩;intro ys st' k' hy h;w_how;refine Z _ _ ⟨?_,k'.app _⟩
 congr 1
 refine Zb3 λi=>?_;rw[Zaa,ZaL]at hy;have eb:af.dJ w=w.reverse.map af.jN:=by unfold af.dJ;rw[Zce]
 rw[eb,Zag,Zag];rcases ZbP i ys.length with hi|hi
 obtain⟨s,hs,e⟩:=h i ys[i] (Zac hi);rw[hs,Zac hi,e];rfl;rw[ZaP hi,ZaP (by rw[ZaL];lk)];rfl
def Pw(h:Me A B):Wp (Hd [dz A,dz B] st) λd st'=>d=dz (A.mul B)/\Ex [] st st':=by refine eI ?_;intro qR;show Ws (Hc [some (dz A),some (dz B),none,none,none,none,none,none,none,none] st) _ _ _ _;unfold Hc dz;have a1:∀y∈[B.a,B.b,B.c,B.d],cv A.a y=true:=h _ (by simp);have a2:∀y∈[B.a,B.b,B.c,B.d],cv A.b y=true:=h _ (by simp);have a3:∀y∈[B.a,B.b,B.c,B.d],cv A.c y=true:=h _ (by simp);have a4:∀y∈[B.a,B.b,B.c,B.d],cv A.d y=true:=h _ (by simp);refine aP (uO ?_);k_lt Z;refine Z _ _ ?_;k_lt2 Z;refine⟨rfl,Z _ _ (aP (uO ?_))⟩;k_lt2 Z;refine Z _ _ ?_;k_lt2 Z;refine⟨rfl,Z _ _ (cV ?_)⟩;clear Z;exists _,Z,K0;exact⟨a1 _ (by simp),a2 _ (by simp),a1 _ (by simp),a2 _ (by simp),a3 _ (by simp),a4 _ (by simp),a3 _ (by simp),a4 _ (by simp),rfl,Z _ _ ⟨rfl,Ex.refl⟩⟩
def Vu{st:Store}{w:List bO}(hw:∀s∈w,af.bQ s/\s.2.natAbs<=1000000)(hl:w.length<=1000):Wp (zz [.tup (w.map aQ)] st) λd st'=>d=dz (af.av w)/\Ex [] st st':=by
 refine eI ?_;intro qR;show Ws (Hf [some (.tup (w.map aQ)),none,none,none,none] st) _ _ _ _;unfold Hf;refine aP (bj ?_);k_lt Z;refine⟨rfl,Z _ _ ?_⟩;clear Z;show Ws _ _ _ _ _;refine aP (lU (w.map aQ) (λi U st2=>∃v1 v2 v3:Option D,U=[some (.tup (w.map aQ)),some (dz (af.av (w.take i))),v1,v2,v3]/\Ex [] st st2) ?_ (by rw[Zaa];lk) ?_ ?_);k_lt Z;exact Z _ _ ⟨rfl,none,none,none,rfl,Ex.refl⟩;rintro i d U st2 hd ⟨v1,v2,v3,rfl,k2⟩;rw[Zag]at hd;obtain⟨s,hs,rfl⟩:=Zay.mp hd;obtain⟨hil,es⟩:=Zab.mp hs;obtain⟨hp,hb⟩:=hw s (Zai hs);have en:af.av (w.take (i+1))=(af.fJ s).mul (af.av (w.take i)):=by rw[ZaH hil,af.uq,es]
 rw[en];clear en;generalize af.av (w.take i)=T;obtain⟨b,k⟩:=s;have es1:aQ (b,k)=.tup [.str (if b then "s" else "t"),.int k]:=rfl;rw[es1];k_lt Z;refine⟨rfl,Z _ _ ?_⟩;clear Z;show Ws _ _ _ _ _;cases b with
 |true =>
  refine lU (aH 0 1) (λi U st3=>∃v3:Option D,U=[some (.tup (w.map aQ)),some (dz (if i=0 then T else(af.fJ (true,k)).mul T)),some (.str "s"),some (.int k),v3]/\Ex [] st st3) ?_ (by rw[gs];lk) ?_ ?_;k_lt Z;refine⟨rfl,.int 1,by rw[if_neg ∅];exact Br _ _,_,rfl,?_⟩;exact⟨by decide,Z _ _ ⟨rfl,_,rfl,k2.trans (Ex.bZ _)⟩⟩;rintro i d U st3 hd ⟨w3,rfl,k3⟩;have hi0:i=0:=by have:=dc hd;rw[gs]at this;lk
  subst hi0;k_lt Z;refine Z _ _ (bj ?_);k_lt2 Z;refine⟨rfl,rfl,rfl,dz (af.fJ (true,k)),by rw[if_neg ∅];exact Br _ _,?_⟩;refine aR (Pw (A:=af.fJ (true,k)) (B:=T) (Pp (x4 (Vr hp hb) ∅))) ?_;rintro d oH ⟨rfl,k4⟩;exact Z _ _ ⟨_,rfl,(k3.trans (Ex.bZ _)).trans k4⟩;rintro U st3 ⟨w3,rfl,k3⟩;exact⟨_,_,_,rfl,k3⟩
 |false =>
  obtain⟨j1,j3⟩:=hp.1 rfl;simp only at j1 j3;obtain⟨j,rfl⟩:∃j:Nat,k=(j:Int):=⟨k.toNat,by lk⟩;refine lU (aH 0 j) (λi U st3=>∃v3:Option D,U=[some (.tup (w.map aQ)),some (dz ((af.qp i).mul T)),some (.str "t"),some (.int (j:Int)),v3]/\Ex [] st st3) ?_ (by rw[gs];lk) ?_ ?_;k_lt Z;refine⟨rfl,.int (j:Int),by rw[if_pos ∅];exact zo _ _ _,_,rfl,?_⟩;refine⟨by lk,Z _ _ ⟨by rw[Zat],v3,?_,k2.trans (Ex.bZ _)⟩⟩;rw[show(af.qp 0).mul T=T from af.T4.one_mul T];rfl;rintro i d U st3 hd ⟨w3,rfl,k3⟩;k_lt Z;refine Z _ _ (bj ?_);k_lt2 Z;refine⟨rfl,rfl,rfl,dz af.T4.qt,by rw[if_pos ∅];exact zo _ _ _,?_⟩;refine aR (Pw (A:=af.T4.qt) (B:=(af.qp i).mul T) (Pp ⟨by decide,by decide,by decide,by decide⟩)) ?_;rintro d' oH ⟨rfl,k4⟩;refine Z _ _ ⟨some d,?_,(k3.trans (Ex.bZ _)).trans k4⟩;rw[show(af.qp (i+1)).mul T=af.T4.qt.mul ((af.qp i).mul T)from af.T4.assoc _ _ _];rfl;rintro U st3 ⟨w3,rfl,k3⟩;rw[gs];exact⟨_,_,_,rfl,k3⟩
 rintro U st2 ⟨v1,v2,v3,rfl,k2⟩;rw[Zaa,ZaN];refine cV ?_;k_lt Z;exact Z _ _ ⟨rfl,k2⟩
def YbY(hy:y≠0)(hb:y.natAbs<P2 100):Wp (LQ [.int x,.int y] st) λd st'=>d=.int (af.nr x y)/\Ex [] st st':=by
 have hl:(2*y).natAbs.log2<9000:=by
  have h1:(2*y).natAbs<2 ^ 101:=by
   have e:P2 101=2*P2 100:=vG 100;show _<P2 101;lk
  have:=(Nat.log2_lt (n:=(2*y).natAbs) (k:=101) ⋯).mpr h1;lk
 refine eI ?_;intro qR;show Ws (II [some (.int x),some (.int y)] st) _ _ _ _;unfold II;refine cV ?_;exists _,Z,YcY;exact⟨.inl ∅,.inl ∅,⟨by lk,hl⟩,Z _ _ ⟨rfl,Ex.refl⟩⟩
def Px:Wp (DE [.int k] st) λd st'=>d=.tup ((af.rX k).map aQ)/\Ex [] st st':=by refine eI ?_;intro qR;show Ws (Iz [some (.int k)] st) _ _ _ _;unfold Iz;refine aP (gu ?_);k_lt Z;refine Z _ _ ⟨λh=>cV ?_,λh=>jv (cV ?_)⟩;have h:k=0:=of_decide_eq_true h;k_lt2 Z;refine⟨rfl,Z _ _ ⟨?_,Ex.refl⟩⟩;unfold af.rX;rw[if_pos h];rfl;have h:¬k=0:=of_decide_eq_false h;k_lt2 Z;refine⟨rfl,rfl,Z _ _ ⟨?_,Ex.refl⟩⟩;unfold af.rX;rw[if_neg h];rfl
def xbY(hT:T.le (P2 102))(hx:x.natAbs<=P2 102)(hy:y.natAbs<=P2 102):Wp (LL [dz T,.tup [.int x,.int y]] st) λd st'=>d=.tup [.int (T.a*x+T.b*y),.int (T.c*x+T.d*y)]/\Ex [] st st':=by
 have ok:∀i j:Int,i.natAbs<=P2 102->j.natAbs<=P2 102->cv i j=true:=λi j hi hj=>by
  have e:P2 103=2*P2 102:=vG 102;have:=AE 102;exact OS (k:=103) ∅ ⋯ ⋯
 obtain⟨h1,h2,h3,h4⟩:=hT;refine eI ?_;intro qR;show Ws (Iw [some (dz T),some (.tup [.int x,.int y])] st) _ _ _ _;unfold Iw dz;refine cV ?_;exists _,Z,K0,at2,TQ;exact⟨ok _ _ h1 hx,ok _ _ h2 hy,ok _ _ h3 hx,ok _ _ h4 hy,rfl,Z _ _ ⟨rfl,Ex.refl⟩⟩
def Ct:Wp (ay (.tup [.int x,.int y]) (.int 0) st) Q↔Q (.int x) st:=a5
def Vv:Wp (ay (.tup [.int x,.int y]) (.int 1) st) Q↔Q (.int y) st:=a5
def sN(hM:M<2 ^ k)(hk:k<=100):M<P2 100/\P2 101=2*P2 100/\P2 102=2*P2 101/\100<P2 100:=⟨ZaI hM (Zcw (n:=2) ∅ hk),vG 100,vG 101,RH 100⟩
abbrev uG:Nat->Int->Int->List bO
 |0,_,_=>[]
 |f+1,u,v=>if v=0 then[]else af.rY u v ++ uG f (-v) (u-af.nr u v*v)
def ydw(hv:v≠0)(hr:r<=k)(e:uG (k+1) x y=g ++ uG (k+1-r) u v):uG (k+1) x y=g ++ af.rY u v ++ uG (k+1-(r+1)) (-v) (u-af.nr u v*v):=by rw[e,show k+1-r=(k+1-(r+1))+1 by lk,uG,if_neg hv,ZbF]
def Cu(hv:v=0)(hr:r<=k)(e:uG (k+1) x y=g ++ uG (k+1-r) u v):g=uG (k+1) x y:=by rw[e,show k+1-r=(k+1-(r+1))+1 by lk,uG,if_pos hv,Zbs]
def xbu(hM:M<2 ^ k)(hk:k<=100)(hx:x.natAbs<=M)(hy:y.natAbs<=M):Wp (LR [.tup [.int x,.int y]] st) λd st'=>∃g:List bO,d=.tup (g.map aQ)/\(∀s∈g,af.bQ s/\s.2.natAbs<=M+1)/\g.length<=2*k/\(af.av g).c*x+(af.av g).d*y=0/\(∃(u:Int) (r:Nat),af.Bv g u 0 r)/\g=uG (k+1) x y/\Ex [] st st':=by
 refine eI ?_;intro qR;show Ws (IK [some (.tup [.int x,.int y]),none,none,none] st) _ _ _ _;unfold IK;refine aP (bj ?_);refine bD ?_;intro cj Z;w_how;refine⟨rfl,?_⟩;refine Z _ _ (aP (bj ?_));clear Z;refine bD ?_;intro cj Z;w_how
 let iL:IV:=λm U s=>∃(g:List bO) (u v:Int) (r:Nat) (v3:Option D),m=k+1-r/\r<=k/\U=[some (.tup [.int x,.int y]),some (.tup (g.map aQ)),some (.tup [.int u,.int v]),v3]/\af.Dv M x y g u v r/\af.Bv g u v r/\uG (k+1) x y=g ++ uG (k+1-r) u v/\Ex [] st s
 refine Z _ _ (aP (zk iL (k+1) (by show k+1<1000000;lk) ⟨[],x,y,0,none,rfl,ZaK _,rfl,af.Dv.zero hx hy,af.Bv.zero x y,rfl,Ex.refl⟩ ?_));clear Z;rintro m U s ⟨g,u,v,r,v3,rfl,hr,rfl,dv,bv,el,k1⟩;have hub:=dv.ub;obtain⟨Py,Vw,Vx,Vy⟩:=sN hM hk;have hvb:v.natAbs<=M:=Zaq (Zck _ (Nat.one_le_two_pow)) dv.vb;exists _,Z,Vv;refine Z _ _ ⟨λhc=>?_,λhc=>?_⟩;have hv:v≠0:=by simpa using hc
 have few:=dv.few (k:=k) hv hM;have dv':=dv.step hv;refine aP (bj ?_);clear Z;exists _,Z,Ct,Vv;refine aR (YbY hv ⋯) ?_;rintro d s1 ⟨rfl,k2⟩;w_how;refine aR (Px) ?_;rintro d s2 ⟨rfl,k3⟩;w_how;have hsl:=af.Fx (-(af.nr u v));refine⟨rfl,rfl,jH (by rw[Zaa];show _+1<=_;lk),?_⟩;have e1:((af.rX (-(af.nr u v))).map aQ ++ [D.tup [D.str "t",D.int 1]])=(af.rY u v).map aQ:=by
  unfold af.rY;rw[Zap];rfl
 rw[e1];have wQ:=af.Sk (x:=u) hv;refine Z _ _ (aP (bj ?_));clear Z;refine bD ?_;intro cj Z;w_how;refine aR (Vs (b:=102) (w:=af.rY u v) ∅ (λs hs=>⟨(wQ s hs).1,by have:=(wQ s hs).2;lk⟩) (by have:=af.NV u v;lk)) ?_;rintro d s3 ⟨rfl,k4⟩;have hnr:=af.Sj (x:=u) hv;refine aR (xbY (T:=af.av (af.rY u v)) (x:=u) (y:=v) (by rw[af.Ks];exact⟨by show(0:Int).natAbs<=_;lk,by show(-1:Int).natAbs<=_;lk,by show(1:Int).natAbs<=_;lk,by show(-(af.nr u v)).natAbs<=_;lk⟩) ⋯ ⋯) ?_;rintro d s4 ⟨rfl,k5⟩;rw[af.Ks];have e2:∀q:Int,D.tup [.int ((0:Int)*u + -1*v),.int (1*u + -q*v)]=.tup [.int (-v),.int (u-q*v)]:=λq=>by
  have a1:(0:Int)*u + -1*v=-v:=by lk
  have a2:1*u + -q*v=u-q*v:=by rw[Zbl];lk
  rw[a1,a2]
 show cj (D.tup [.int ((0:Int)*u + -1*v),.int (1*u + -(af.nr u v)*v)]) s4;rw[e2];refine Z _ _ (bj ?_);clear Z;refine bD ?_;intro cj Z;w_how;have zF:=dv.ln;have hdl:=af.NV u v;refine⟨jH (by rw[Zaa,Zaa];lk),Z _ _ ⟨k+1-(r+1),by lk,g ++ af.rY u v,_,_,r+1,_,rfl,by lk,by rw[Zap];rfl,dv',bv.step hv,ydw hv hr el,(((k1.trans k2).trans k3).trans k4).trans k5⟩⟩;have hv:v=0:=by simpa using hc
 refine cV ?_;clear Z;refine bD ?_;intro cj Z;w_how;exact Z _ _ ⟨g,rfl,dv.pr,by have:=dv.ln;lk,by rw[<- dv.vc];exact hv,⟨u,r,hv ▸ bv⟩,Cu hv hr el,k1⟩
def Pz:Wp (ay (dz T) (.int 0) st) Q↔Q (.int T.a) st:=a5
def PB:Wp (ay (dz T) (.int 1) st) Q↔Q (.int T.b) st:=a5
def Vz:Wp (ay (dz T) (.int 2) st) Q↔Q (.int T.c) st:=a5
def Cv:Wp (ay (dz T) (.int 3) st) Q↔Q (.int T.d) st:=a5
def XbY(hl:T.le (P2 100)):Wp (LS [dz T] st) λd st'=>d=.bl (decide (T.a*T.d-T.b*T.c=1))/\Ex [] st st':=by
 have ok:∀i j:Int,i.natAbs<=P2 100->j.natAbs<=P2 100->cv i j=true:=λi j hi hj=>by
  have e:P2 101=2*P2 100:=vG 100;have:=AE 100;exact OS (k:=101) ∅ ⋯ ⋯
 refine eI ?_;intro qR;show Ws (IP [some (dz T)] st) _ _ _ _;unfold IP;refine cV ?_;have hs:cH st (dz T)=some [.int T.a,.int T.b,.int T.c,.int T.d]:=rfl;exists _,Z,hs,K0,Pz,PB,Vz,Cv;obtain⟨h1,h2,h3,h4⟩:=hl;rw[if_pos (show decide ((([D.int T.a,D.int T.b,D.int T.c,D.int T.d]:List D).length:Int)=4)=true from rfl)];exact⟨ok _ _ h1 h4,ok _ _ h2 h3,Z _ _ ⟨rfl,Ex.refl⟩⟩
def Ybx:Wp (LU [dz A] st) λd st'=>d=.tup ((af.pz A).map aQ)/\Ex [] st st':=by
 refine eI ?_;intro qR;show Ws (IU [some (dz A)] st) _ _ _ _;unfold IU;refine aP (gu ?_);exists _,Z,Pz;refine Z _ _ ⟨λh=>cV ?_,λh=>jv (cV ?_)⟩;have h:A.a=1:=of_decide_eq_true h;clear Z;exists _,Z,PB;refine aR (Px) ?_;rintro d s1 ⟨rfl,k1⟩;refine Z _ _ ⟨?_,k1⟩;unfold af.pz;rw[if_pos h];have h:¬A.a=1:=of_decide_eq_false h;clear Z;exists _,Z,PB;refine⟨rfl,rfl,?_⟩;refine aR (Px) ?_;rintro d s1 ⟨rfl,k1⟩;w_how
 have:=af.Fx (-A.b);refine⟨jH (by rw[Zaa];show 1+_<=_;lk),Z _ _ ⟨?_,k1⟩⟩;unfold af.pz;rw[if_neg h];rfl
def Yb8{T:af.T4}{g:List bO}{M k:Nat}(hM:M<2 ^ k)(hk:k<=100)(hl:T.le M)(hg:∀s∈g,af.bQ s/\s.2.natAbs<=M+1)(zF:g.length<=2*k):∀s∈af.gW (af.pz ((af.av g).mul T) ++ af.dJ g),s.2.natAbs+1<=P2 20400:=by
 obtain⟨Py,Vw,Vx,Vy⟩:=sN hM hk;have h61:M+2<=P2 101:=by lk
 have hgt:=Pt (w:=g) (b:=101) (n:=200) (λs hs=>⟨(hg s hs).1,by have:=(hg s hs).2;lk⟩) ⋯;have Jt:∀x y:Int,x.natAbs<=P2 (101*200)->y.natAbs<=M->(x*y).natAbs<=P2 20301:=λx y hx hy=>by
  rw[Za2];refine Zaq (Zcj hx (Zaq hy (Zaq (Zcq M 2) h61))) ?_;rw[Ny];exact wM ∅
 have hA:((af.av g).mul T).b.natAbs<=P2 20302:=by
  have e:((af.av g).mul T).b=(af.av g).a*T.b+(af.av g).b*T.d:=rfl;have h1:=Jt _ _ hgt.1 hl.2.1;have h2:=Jt _ _ hgt.2.1 hl.2.2.2;have h3:P2 20302=2*P2 20301:=vG 20301;rw[e];lk
 have PD:P2 101<=P2 20302:=wM ∅;have h7:20302<P2 20302:=RH 20302;generalize hB:P2 20302=B at hA PD h7;have hv:∀s∈af.pz ((af.av g).mul T),af.bQ s/\s.2.natAbs<=B:=λs hs=>by
  refine⟨af.NW _ s hs,?_⟩;unfold af.pz at hs;split at hs;rw[(af.Fw s hs).2];exact hA;rcases ZaE.mp hs with rfl|hs
  show(2:Int).natAbs<=B;lk;rw[(af.Fw s hs).2,Zbz];exact hA
 have hb:∀s∈af.dJ g,af.bQ s/\s.2.natAbs<=B:=λs hs=>by
  refine⟨af.xE (λs hs=>(hg s hs).1) s hs,?_⟩;unfold af.dJ at hs;obtain⟨t,ht,rfl⟩:=Zaw.mp (ZaM.mp hs);obtain⟨h1,h2⟩:=hg t ht;obtain⟨b,k⟩:=t;cases b with
  |true=>show(-k).natAbs<=B;simp only at h2;lk
  |false=>have:=h1.1 rfl;simp only at this;show(4-k).natAbs<=B;lk
 intro s hs
 have hq:=af.AQ (B:=B) (w:=af.pz ((af.av g).mul T) ++ af.dJ g) (λs hs=>by
  rcases Zax.mp hs with h|h
  exact hv s h
  exact hb s h) s hs
 have hlen:(af.pz ((af.av g).mul T) ++ af.dJ g).length<=256:=by
  rw[Zae];have h1:=af.Sn ((af.av g).mul T);have h2:(af.dJ g).length=g.length:=by unfold af.dJ;rw[ZaL,Zaa]
  lk
 have h3:s.2.natAbs<=256*B:=Zaq hq (ZbI _ hlen);have h4:P2 20310=256*B:=by
  have:=Ny 8 20302;rw[hB]at this;rw[show(20310:Nat)=8+20302 from rfl,<- this];rfl
 have h5:P2 20311=2*P2 20310:=vG 20310;have h6:P2 20311<=P2 20400:=wM ∅;lk
def zbZ(hM:M<2 ^ k)(hk:k<=100)(hl:T.le M)(hd:T.a*T.d-T.b*T.c=1):Wp (DG [dz T] st) λd st'=>∃w:List bO,d=.tup (w.map aQ)/\(∀s∈w,af.bQ s/\s.2.natAbs+1<=P2 20400)/\w.length<=2*k+2/\af.av w=T/\(∃(g:List bO) (u:Int) (r:Nat),w=(af.gW (af.pz ((af.av g).mul T) ++ af.dJ g)).reverse/\(∀s∈g,af.bQ s/\s.2.natAbs<=M+1)/\g.length<=2*k/\(af.av g).c*T.a+(af.av g).d*T.c=0/\af.Bv g u 0 r)/\Ex [] st st':=by
 refine eI ?_;intro qR;show Ws (Jb [some (dz T),none] st) _ _ _ _;unfold Jb;refine aP (gu ?_);k_lt Z;obtain⟨Py,Vw,Vx,Vy⟩:=sN hM hk;refine aR (XbY (x4 hl ⋯)) ?_;rintro d s1 ⟨rfl,k1⟩;refine⟨_,rfl,?_⟩;refine Z _ _ ⟨λh=>absurd h (by simp[hd]),λ_=>jv (aP (bj ?_))⟩;clear Z;exists _,Z,Pz,Vz;refine⟨rfl,?_⟩;refine aR (xbu hM hk hl.1 hl.2.2.1) ?_;rintro d s2 ⟨g,rfl,hg,zF,h0,⟨u,r,bv⟩,_,k2⟩;refine Z _ _ (cV ?_);k_lt2 Z;have hgp:∀s∈g,af.bQ s:=λs hs=>(hg s hs).1;have VA:∀s∈g,af.bQ s/\s.2.natAbs+1<=P2 101:=λs hs=>⟨(hg s hs).1,by have:=(hg s hs).2;lk⟩;refine aR (Vs (b:=101) (w:=g) ∅ VA ⋯) ?_;rintro d s3 ⟨rfl,k3⟩;have hgt:=Pt (n:=200) VA ⋯;refine aR (Pr (Pq (k:=101*200+1) (M:=P2 (101*200)) ∅ (by have:=AE (101*200);have:=vG (101*200);lk) hgt (x4 hl (Zaq (Zcu Py) (wM ∅))))) ?_;rintro d s4 ⟨rfl,k4⟩;refine aR (Ybx) ?_;rintro d s5 ⟨rfl,k5⟩;refine aR (xbL (w:=g) ⋯) ?_;rintro d s6 ⟨rfl,k6⟩;have pE:=af.Sn ((af.av g).mul T);have xa:(af.dJ g).length=g.length:=by unfold af.dJ;rw[ZaL,Zaa]
 refine aR (Vt (v:=af.pz ((af.av g).mul T)) (w:=af.dJ g) ⋯) ?_;rintro d s7 ⟨rfl,k7⟩;obtain⟨e1,e2⟩:=af.Y4 hd hgp h0;refine Z _ _ ⟨_,rfl,λs hs=>⟨e2 s hs,Yb8 hM hk hl hg zF s (ZaM.mp hs)⟩,?_,e1,⟨g,u,r,rfl,hg,zF,h0,bv⟩,(((((k1.trans k2).trans k3).trans k4).trans k5).trans k6).trans k7⟩;rw[ZaL];have:=af.Kh (af.pz ((af.av g).mul T) ++ af.dJ g);rw[Zae]at this;lk
def xbx(fl:p4 n xs ys)(hn:n<=100)(s0:0<=s)(s1:s<(n:Int)):Wp (Lo [bS xs ys,.int s] st) λd st'=>d=.tup ((af.inv (af.bf xs ys s n)).map D.int)/\Ex [] st st':=by obtain⟨tx,ty,all⟩:=fl;refine eI ?_;intro qR;show Ws (Hu [some (bS xs ys),some (.int s)] st) _ _ _ _;unfold Hu;refine cV ?_;k_lt Z;refine aR (ZbX tx ty hn s0 s1) ?_;rintro d st1 ⟨rfl,k1⟩;refine aR (L7 (af.Kf tx ty s0 s1 all) hn) ?_;rintro d st2 ⟨rfl,k2⟩;exact Z _ _ ⟨rfl,k1.trans k2⟩
abbrev Cw(xs ys:List Int)(s:Int)(n:Nat):D:=bS (af.num xs (af.bf xs ys s n)) (af.num ys (af.bf xs ys s n))
def XbL(fl:p4 n xs ys)(hn:n<=100)(s0:0<=s)(s1:s<(n:Int)):Wp (Lp [bS xs ys,.int s] st) λd st'=>d=Cw xs ys s n/\Ex [] st st':=by have fl':=fl;obtain⟨tx,ty,all⟩:=fl;have tb:=af.Kf tx ty s0 s1 all;refine eI ?_;intro qR;show Ws (Hw [some (bS xs ys),some (.int s)] st) _ _ _ _;unfold Hw;refine cV ?_;k_lt Z;refine aR (xbx fl' hn s0 s1) ?_;rintro d st1 ⟨rfl,k1⟩;refine aR (xb7 tx ty tb.aB hn) ?_;rintro d st2 ⟨rfl,k2⟩;rw[af.yL tx tb,af.yL ty tb];exact Z _ _ ⟨rfl,k1.trans k2⟩
def xb8(fl:p4 n xs ys)(hn:n<=100)(s0:0<=s)(s1:s<(n:Int)):Wp (Lc [bS xs ys,.int s] st) λd st'=>d=Cw xs ys s n/\Ex [] st st':=by
 obtain⟨tx,ty,all⟩:=fl;have hlx:=tx.length;have DJ:=ty.length;refine eI ?_;intro qR;show Ws (GN [some (bS xs ys),some (.int s),none,none,none] st) _ _ _ _;unfold GN;refine aP (bj ?_);k_lt Z;refine⟨rfl,Z _ _ (aP (KN ((af.upto n).map D.int) (st.length+2) (λk U st2=>∃(v3 v4:Option D),U=[some (bS xs ys),some (.int s),some (.ref st.length),v3,v4]/\st2[st.length]?=some (.lst ((af.bf xs ys s k).map D.int))/\st2[st.length+2]?=some (.lst ((af.upto n).map D.int))/\Ex [] st st2) ?_ ?_ ?_ ?_ ?_))⟩;clear Z;unfold bS;k_lt Z;rw[Zaa,hlx,show((n:Int)-0).toNat=n by lk,ux];have e:(st ++ [O.lst [D.int s]] ++ [O.j5 0 (n:Int)]).length=st.length+2:=by simp
 rw[e];exact⟨xO ⋯,Z _ _ ⟨rfl,none,none,rfl,j4 (j4 fW),by rw[<- e];exact fW,((Ex.bZ _).app _).app _⟩⟩;rw[Zaa,af.rD];lk;rintro k U st2 ⟨_,_,_,_,h,_⟩;exact bx h;rintro k d U st2 hd ⟨v3,v4,rfl,hl,hr,k2⟩;obtain⟨x',hx',rfl⟩:=F8 hd;have hkn:=dc hx';rw[af.rD]at hkn;rw[af.E7 hkn]at hx';cases hx';have xa:=af.Fb tx ty s0 s1 k;have hb1:=af.Fb tx ty s0 s1 (k+1);k_lt2 Z;refine Z _ _ ?_;clear Z;by_cases pW:k<(af.bf xs ys s k).length;obtain⟨x,hx⟩:∃x,(af.bf xs ys s k)[k]?=some x:=⟨_,Zac pW⟩;obtain⟨x0,x1⟩:=af.uo tx ty s0 s1 k x (Zai hx);have e1:af.bf xs ys s (k+1)=af.visit xs ys (af.bf xs ys s k) x:=by
  show(match (af.bf xs ys s k)[k]? with|some x=>af.visit xs ys (af.bf xs ys s k) x|none=>af.bf xs ys s k)=_;rw[hx]
 rw[e1]at hb1 ⊢;have hp1:=(af.yK (af.cL (af.bf xs ys s k) (af.app xs x)) (af.app ys x)).length_le;have hp0:=(af.yK (af.bf xs ys s k) (af.app xs x)).length_le;change _<=(af.visit xs ys (af.bf xs ys s k) x).length at hp1;refine lU [.tup (xs.map D.int),.tup (ys.map D.int)] (λm U st3=>∃(v4:Option D) (G:List Int),U=[some (bS xs ys),some (.int s),some (.ref st.length),some (.int (k:Int)),v4]/\st3[st.length]?=some (.lst (G.map D.int))/\st3[st.length+2]?=some (.lst ((af.upto n).map D.int))/\(m=0->G=af.bf xs ys s k)/\(m=1->G=af.cL (af.bf xs ys s k) (af.app xs x))/\(m=2->G=af.visit xs ys (af.bf xs ys s k) x)/\Ex [] st st3) ?_ (by simp) ?_ ?_;unfold bS;k_lt Z;exact Z _ _ ⟨rfl,v4,_,rfl,hl,hr,λ_=>rfl,λz=>by lk,λz=>by lk,k2⟩;rintro m z U st3 hm ⟨v4,G,rfl,hl3,rR,g0,g1,_,k3⟩;have hm2:m<2:=dc hm;obtain⟨zs,rfl,tz,em⟩:∃(zs:List Int),z=.tup (zs.map D.int)/\af.Tn n zs/\((m=0/\zs=xs)\/(m=1/\zs=ys)):=by
  rcases(show m=0\/m=1 by lk)with rfl|rfl
  exact⟨xs,by simpa using hm.symm,tx,.inl ⟨rfl,rfl⟩⟩;exact⟨ys,by simpa using hm.symm,ty,.inr ⟨rfl,rfl⟩⟩
 have hG:G.length<=100/\G[k]?=some x/\k<G.length:=by
  rcases em with⟨rfl,_⟩|⟨rfl,_⟩
  rw[g0 rfl];exact⟨by lk,hx,pW⟩;rw[g1 rfl];refine⟨by lk,?_,by lk⟩;obtain⟨t,e⟩:=af.yK (af.bf xs ys s k) (af.app xs x);rw[<- e,Zan pW];exact hx
 have Jo:∀G',G'=af.cL G (af.app zs x)->(m+1=0->G'=af.bf xs ys s k)/\(m+1=1->G'=af.cL (af.bf xs ys s k) (af.app xs x))/\(m+1=2->G'=af.visit xs ys (af.bf xs ys s k) x):=λG' e=>by
  rcases em with⟨rfl,rfl⟩|⟨rfl,rfl⟩
  exact⟨λz=>by lk,λ_=>by rw[e,g0 rfl],λz=>by lk⟩;exact⟨λz=>by lk,λz=>by lk,λ_=>by rw[e,g1 rfl];rfl⟩
 have hat:dA (G.map D.int) (k:Int)=some (.int x):=CV (by rw[Zag,hG.2.1];rfl);have hdt:decide ((k:Int)<((G.map D.int).length:Int))=true:=decide_eq_true (by rw[Zaa];lk);k_lt Z;refine Z _ _ (gu ?_);clear Z;exists _,Z,bx hl3,hdt,hat,rL (xs:=zs) x0 (by rw[tz.length];exact x1),F9 (st:=st3) (c:=.ref st.length) (ns:=G) (bx hl3);refine Z _ _ ⟨λhc=>pS ?_,λhc=>jv ?_⟩;obtain⟨n0,n1,n2⟩:=Jo (G ++ [af.app zs x]) (Vh hc).symm;exists _,b9,bx hl3,hat,rL (xs:=zs) x0 (by rw[tz.length];exact x1),j8 hl3;refine⟨nW (by rw[bx hl3];rfl),jH (by rw[Zaa];lk),b9 _ _ ⟨_,G ++ [af.app zs x],rfl,?_,?_,n0,n1,n2,k3.loc (Zad _)⟩⟩;rw[Zaj (dc hl3),Zap];rfl;rw[Zal ⋯];exact rR;obtain⟨n0,n1,n2⟩:=Jo G (Vi hc).symm;exact⟨_,G,rfl,hl3,rR,n0,n1,n2,k3⟩;rintro U st3 ⟨v4,G,rfl,hl3,rR,_,_,g2,k3⟩;have g2:=g2 rfl;subst g2;exact⟨_,_,rfl,hl3,rR,k3⟩;have e1:af.bf xs ys s (k+1)=af.bf xs ys s k:=af.Ke (k:=k) ⋯ 1;rw[e1];have hdf:decide ((k:Int)<(((af.bf xs ys s k).map D.int).length:Int))=false:=decide_eq_false (by rw[Zaa];lk);refine lU [.tup (xs.map D.int),.tup (ys.map D.int)] (λm U st3=>∃(v4:Option D),U=[some (bS xs ys),some (.int s),some (.ref st.length),some (.int (k:Int)),v4]/\st3=st2) ?_ (by simp) ?_ ?_;unfold bS;k_lt Z;exact Z _ _ ⟨rfl,v4,rfl,rfl⟩;rintro m z U st3 hm ⟨v4,rfl,rfl⟩;k_lt Z;refine Z _ _ (gu ?_);clear Z;exists _,Z,bx hl,hdf;exact Z _ _ ⟨λh=>absurd h ∅,λ_=>jv ⟨_,rfl,rfl⟩⟩;rintro U st3 ⟨v4,rfl,rfl⟩;exact⟨_,_,rfl,hl,hr,k2⟩;rintro U st2 ⟨v3,v4,rfl,hl,hr,k2⟩;rw[Zaa,af.rD]at hl;have tb:=af.Kf tx ty s0 s1 all;have hlb:=tb.length;generalize Ju:af.bf xs ys s n=sq at hl tb hlb ⊢;clear Z;unfold bS;refine cV ?_;k_lt Z;refine uP [.tup (xs.map D.int),.tup (ys.map D.int)] (λd=>match d with|.tup ds=>.tup ((af.num (ds.map inD) sq).map D.int)|_=>.non) ?_ (by simp) ?_ ?_;k_lt b9;exact b9 _ _ ⟨sI _ _,Ex.refl⟩;intro d hd st3 k3;obtain⟨zs,rfl,tz⟩:∃zs:List Int,d=.tup (zs.map D.int)/\af.Tn n zs:=by
  rcases ZaE.mp hd with rfl|hd
  exact⟨xs,rfl,tx⟩;exact⟨ys,Zar.mp hd,ty⟩
 have hl3:=k3.keep _ _ hl (by simp);exists _,b9,Zaz,ZaW,ZaY,ZaZ;refine uP (sq.map D.int) (λd=>.int (sq.idxOf (af.app zs (inD d)):Int)) ?_ (by rw[Zaa];lk) ?_ ?_;k_lt wA;exact⟨_,bx hl3,wA _ _ ⟨Z6 (bx hl3),Ex.refl⟩⟩;intro d hd oH k4;obtain⟨x,hx,rfl⟩:=BH hd;obtain⟨x0,x1⟩:=tb.bound hx;obtain⟨a0,a1⟩:=tz.app x0 x1;have uR:=k4.keep _ _ hl3 (by simp);exists _,wA,Zaz,ZaW,ZaY,ZaZ,rL (xs:=zs) x0 (by rw[tz.length];exact x1),ZR (bx uR) (tb.mem a0 a1) ⋯ (λi hi=>by have:=tb.bound hi;lk);exact⟨nW (by rw[bx uR];rfl),wA _ _ ⟨rfl,Ex.refl⟩⟩;intro oH k4;rw[Ga (f:=λx=>(sq.idxOf (af.app zs x):Int)) λx hx=>rfl];w_how;refine b9 _ _ ⟨?_,k4.app _⟩;show D.tup _=D.tup ((af.num ((zs.map D.int).map inD) sq).map D.int);rw[TM];rfl;intro st3 k3;w_how;refine Z _ _ ⟨?_,(k2.trans k3).app _⟩;simp only[Zaz,ZaW,TM];unfold Cw;rw[Ju];rfl
def VB(fl:p4 n xs ys):af.Wh n (xs,ys):=⟨⟨fl.1,fl.2.1⟩,fl.2.2⟩
def DL(w:af.Wh n p):p4 n p.1 p.2:=⟨w.v.1,w.v.2,w.all⟩
def VC(p:af.aK)(n:Nat):(aH 0 n).map (λd=>bS (af.sD p n (inD d)).1 (af.sD p n (inD d)).2)=((af.upto n).map (af.sD p n)).map λq=>bS q.1 q.2:=by rw[ux,ZaF,ZaF];rfl
def VD(fl:p4 n xs ys)(n0:0<n)(hn:n<=20):Wp (DA [bS xs ys] st) λd st'=>d=bS (af.aY n (xs,ys)).1 (af.aY n (xs,ys)).2/\Ex [] st st':=by have hlx:=fl.1.length;refine eI ?_;intro qR;show Ws (Hy [some (bS xs ys)] st) _ _ _ _;unfold Hy;refine cV ?_;k_lt Z;refine uP (aH 0 n) (λd=>bS (af.sD (xs,ys) n (inD d)).1 (af.sD (xs,ys) n (inD d)).2) ?_ (by rw[gs];lk) ?_ ?_;unfold bS;k_lt b9;rw[Zaa,hlx];exact⟨by lk,b9 _ _ ⟨by rw[Zat];exact sI _ _,Ex.refl⟩⟩;intro d hd st2 k2;rw[ux]at hd;obtain⟨x,hx,rfl⟩:=BH hd;obtain⟨x0,x1⟩:=af.oS.mp hx;exists _,b9,Zaz,ZaW,ZaY,ZaZ;refine aR (XbL fl ⋯ x0 x1) ?_;rintro d st3 ⟨rfl,k3⟩;exact b9 _ _ ⟨rfl,k3⟩;intro st' k';rw[VC,Uh (j8 fW) (by rw[Zaa,af.rD];exact n0)];exact Z _ _ ⟨rfl,k'.app _⟩
def Mg(fl:p4 n xs ys)(n0:0<n)(hn:n<=20):Wp (wu [bS xs ys] st) λd st'=>d=bS (af.aY n (xs,ys)).1 (af.aY n (xs,ys)).2/\Ex [] st st':=by have hlx:=fl.1.length;refine eI ?_;intro qR;show Ws (GP [some (bS xs ys)] st) _ _ _ _;unfold GP;refine cV ?_;k_lt Z;refine uP (aH 0 n) (λd=>bS (af.sD (xs,ys) n (inD d)).1 (af.sD (xs,ys) n (inD d)).2) ?_ (by rw[gs];lk) ?_ ?_;unfold bS;k_lt b9;rw[Zaa,hlx];exact⟨by lk,b9 _ _ ⟨by rw[Zat];exact sI _ _,Ex.refl⟩⟩;intro d hd st2 k2;rw[ux]at hd;obtain⟨x,hx,rfl⟩:=BH hd;obtain⟨x0,x1⟩:=af.oS.mp hx;exists _,b9,Zaz,ZaW,ZaY,ZaZ;refine aR (xb8 fl ⋯ x0 x1) ?_;rintro d st3 ⟨rfl,k3⟩;exact b9 _ _ ⟨rfl,k3⟩;intro st' k';rw[VC,Uh (j8 fW) (by rw[Zaa,af.rD];exact n0)];exact Z _ _ ⟨rfl,k'.app _⟩
def E5{n:Nat}{f:Int->Int}{x:Int}(x0:0<=x)(x1:x<(n:Int)):af.app ((af.upto n).map f) x=f x:=by unfold af.app;rw[Zaf,Zag,af.E7 ⋯];show f ((x.toNat:Nat):Int)=f x;rw[ZaG x0]
def Cy(hg:3<=g)(h:qk g s):qk g (af.jN s):=by
 obtain⟨b,k⟩:=s;obtain⟨h1,h2,h3⟩:=h;cases b with
 |true =>
  refine⟨λz=>Bool.noConfusion (show true=false from z),?_,?_⟩;show((-k).natAbs:Int)<=g;rw[Zbz];exact h2;show -k≠0;exactλz=>h3 (by show k=0;lk)
 |false =>
  have:=h1 rfl;simp only at this;refine⟨λ_=>⟨by show 1<=4-k;lk,by show 4-k<=3;lk⟩,?_,?_⟩
  show((4-k).natAbs:Int)<=g;lk;show 4-k≠0;lk
def Zdw{g:Int}(hg:3<=g){w:List bO}(h:∀s∈w,qk g s):∀s∈af.dJ w,qk g s:=λs hs=>by
 unfold af.dJ at hs;obtain⟨t,ht,rfl⟩:=Zaw.mp (ZaM.mp hs);exact Cy hg (h t ht)
def VE(w:List bO):(af.dJ w).length=w.length:=by unfold af.dJ;rw[ZaL,Zaa]
def VF(h:qk g s):af.bQ s:=⟨h.1,h.2.2⟩
def Ydw{g:Int}{v w:List bO}(h1:∀s∈v,qk g s)(h2:∀s∈w,qk g s):∀s∈v ++ w,qk g s:=λs hs=>by
 rcases Zax.mp hs with h|h
 exact h1 s h;exact h2 s h
def VG:∀(w:List bO) (p:List Int×List Int),mV p w=af.eo p w:=by
 have hq:∀(p:List Int×List Int) (j:Nat),p7 p.1 p.2 j=af.pR j p:=λp j=>by
  induction j with
  |zero=>rfl
  |succ j ih=>show(af.inv (p7 p.1 p.2 j).2,(p7 p.1 p.2 j).1)=af.Qt (af.pR j p);rw[ih];rfl
 have hs:∀(p:List Int×List Int) (s:bO),jn p s=af.stM p s:=λp s=>by
  unfold jn af.stM;rw[hq];rfl
 intro w
 induction w with
 |nil=>intro p;rfl
 |cons s w ih =>
  intro p;show mV (jn p s) w=af.eo (af.stM p s) w;rw[hs,ih]
open Classical in
def xdw(ha:items st a=some ds)(hb:items st b=some es)(h1:∀d∈ds,pU n d)(h2:∀d∈es,pU n d)(hn:n<=14):Wp (jP neg (.ref a) (.ref b) st) Q↔Q (.bl (if neg then !decide (ds=es)else decide (ds=es))) st:=by
 have p1:∀(i:Nat) (l:List D),items st i=some l->(∀d∈l,pU n d)->gX st 20 (.ref i)=some (.list (l.map (jQ n))):=λi l h hl=>by
  simp only[gX,h];rw[Ge (g:=jQ n) λx hx=>wY n x (hl x hx) 19 ⋯ st];rfl
 have e:PyData.eqv (.list (ds.map (jQ n))) (.list (es.map (jQ n)))=decide (ds=es):=by
  rw[Oy];have:=OJ (Dq n) ds es h1 h2;cases h:PyData.eqvAll (ds.map (jQ n)) (es.map (jQ n))with
  |true=>exact(decide_eq_true (this.mp h)).symm
  |false=>exact(decide_eq_false λz=>by rw[this.mpr z]at h;cases h).symm
 have ly:∀l:List D,(∀d∈l,pU n d)->PyData.canLay0 (.list (l.map (jQ n)))=true/\PyData.depth (.list (l.map (jQ n)))<=n+1:=λl hl=>by
  refine⟨?_,?_⟩;show PyData.canLayAll0 (l.map (jQ n))=true;exact OH λx hx=>by
   obtain⟨d,hd,rfl⟩:=Zaw.mp hx;exact(vY n d (hl d hd)).1
  show PyData.depthAll (l.map (jQ n))+1<=n+1
  have:=OI (n:=n) (l:=l.map (jQ n)) λx hx=>by
   obtain⟨d,hd,rfl⟩:=Zaw.mp hx;exact(vY n d (hl d hd)).2
  lk
 rw[KQ];constructor;rintro⟨p,q,e1,e2,_,h⟩;rw[p1 a ds ha h1]at e1;rw[p1 b es hb h2]at e2;cases e1;cases e2;rw[e]at h;exact h;intro h;refine⟨_,_,p1 a ds ha h1,p1 b es hb h2,⟨(ly ds h1).1,(ly es h2).1,?_⟩,?_⟩
 have:=(ly ds h1).2
 lk;rw[e];exact h
def VH(pa:af.bQ (b,k))(h:∀(t:bO) (r:List bO),R=t :: r->t.1≠b):af.bE R (b,k)=(if(if b=true then k else k % 4)=0 then R else(b,if b=true then k else k % 4) :: R):=by
 have e:(if b=true then k else k % 4)=k:=by
  cases b with
  |true=>rfl
  |false =>
   have:=pa.1 rfl;simp only at this;rw[if_neg Zam];lk
 rw[e,if_neg pa.2];exact af.NF λt ht=>by
  cases R with
  |nil=>cases ht
  |cons x r=>cases ht;exactλz=>h _ _ rfl z.symm
def PH{st s2:Store}{w0:D}{b:Bool}{k':Int}{R' X:List bO}{N B C:ai->Store->Prop}{R:D->Store->Prop}(h2:s2[st.length]?=some (.lst (R'.reverse.map aQ)))(k2:Ex [] st s2)(hl:R'.length<=1000)(ep:X=(if(if b=true then k' else k' % 4)=0 then R' else(b,if b=true then k' else k' % 4) :: R'))
  (hN:∀(v3:Option D) (s:Store),s[st.length]?=some (.lst (X.reverse.map aQ))->Ex [] st s->N [some w0,some (.ref st.length),some (.str (if b then "s" else "t")),v3] s) :
  Ws (au (c7 (az (ao (gf false) (ag 2) (fC (.str "t")))) (aA (ao lq (ag 3) #[4]) (hName 3)) aO) (c7 (az (ao (gf true) (ag 3) #[0])) (bF (iM "list" aL (ag 1) (ae (aS (ae (ag 2) (ae (ag 3) ah))) ah))) aO) [some w0,some (.ref st.length),some (.str (if b then "s" else "t")),some (.int k')] s2) N B C R:=by
 have fin:∀kk:Int,kk=(if b=true then k' else k' % 4)->Ws (c7 (az (ao (gf true) (ag 3) #[0])) (bF (iM "list" aL (ag 1) (ae (aS (ae (ag 2) (ae (ag 3) ah))) ah))) aO [some w0,some (.ref st.length),some (.str (if b then "s" else "t")),some (.int kk)] s2) N B C R:=λkk hk=>by
  rw[<- hk]at ep;refine gu ?_;k_lt Z;by_cases z:kk=0;refine Z _ _ ⟨λy=>absurd z (by simpa using y),λ_=>jv (hN _ _ ?_ k2)⟩;rw[ep,if_pos z];exact h2;refine Z _ _ ⟨λ_=>pS ?_,λy=>absurd y (by simp[z])⟩;clear Z;exists _,Z,j8 h2;refine⟨nW (by rw[bx h2];rfl),rfl,jH (by rw[Zaa,ZaL];lk),Z _ _ (hN _ _ ?_ (k2.loc (Zad _)))⟩;rw[Zaj (dc h2),ep,if_neg z,ZbG,Zap];rfl
 refine aP (gu ?_);cases b with
 |true =>
  k_lt Z;exact Z _ _ ⟨λz=>absurd z ∅,λ_=>jv (fin k' rfl)⟩
 |false =>
  k_lt Z;refine Z _ _ ⟨λ_=>bj ?_,λz=>absurd z ∅⟩;k_lt2 Z;exact⟨by decide,Z _ _ (fin (k' % 4) rfl)⟩
def Xb8{st:Store}{w:List bO}(hw:∀s∈w,af.bQ s)(hl:w.length<=1000):Wp (GW [.tup (w.map aQ)] st) λd st'=>d=.tup ((af.gW w).reverse.map aQ)/\Ex [] st st':=by
 refine eI ?_;intro qR;show Ws (Lg [some (.tup (w.map aQ)),none,none,none] st) _ _ _ _;unfold Lg;refine aP (bj ?_);k_lt Z;refine⟨rfl,Z _ _ ?_⟩;clear Z;show Ws _ _ _ _ _;refine aP (lU (w.map aQ) (λi U s=>∃v2 v3:Option D,U=[some (.tup (w.map aQ)),some (.ref st.length),v2,v3]/\s[st.length]?=some (.lst ((af.gW (w.take i)).reverse.map aQ))/\Ex [] st s) ?_ (by rw[Zaa];lk) ?_ ?_);k_lt Z;exact Z _ _ ⟨rfl,none,none,rfl,fW,Ex.bZ _⟩;rintro i d U s hd ⟨v2,v3,rfl,hs,kx⟩;rw[Zag]at hd;obtain⟨a,ha,rfl⟩:=Zay.mp hd;obtain⟨hi,ea⟩:=Zab.mp ha;have pa:=hw a (Zai ha);have et:af.gW (w.take (i+1))=af.bE (af.gW (w.take i)) a:=by
  rw[ZaH hi,af.Kg,ea];rfl
 have hlen:=af.Kh (w.take i);rw[Zbi]at hlen;have pl:af.Pl (af.gW (w.take i)):=af.RW λs hs=>hw s (List.mem_of_mem_take hs);rw[et];generalize af.gW (w.take i)=R at hs hlen pl ⊢;obtain⟨b,k⟩:=a;have es1:aQ (b,k)=.tup [.str (if b then "s" else "t"),.int k]:=rfl;rw[es1];k_lt Z;refine⟨rfl,Z _ _ (aP (gu ?_))⟩;clear Z;exists _,Z,bx hs;refine⟨rfl,?_⟩;have pus:∀d∈R.reverse.map aQ,pU 1 d:=λd hd=>by
  obtain⟨x,_,rfl⟩:=Zaw.mp hd;exact Gf 0 x
 rw[xdw (n:=1) (ds:=R.reverse.map aQ) (es:=[]) (bx (j4 hs)) tW pus (λd hd=>nomatch hd) ∅];have hs1:=j4 (m:=[O.lst []]) hs;have Mh:Ex [] st (s ++ [O.lst []]):=kx.app _;generalize s ++ [O.lst []]=s1 at hs1 Mh ⊢;have Jv:∀(t:bO) (r:List bO),R=t :: r->R.reverse.map aQ=r.reverse.map aQ ++ [aQ t]:=λt r e=>by rw[e,ZbG,Zap];rfl
 cases R with
 |nil =>
  refine⟨false,by simp,?_⟩;rw[if_neg ∅];refine Z _ _ ⟨λz=>absurd z ∅,λ_=>jv ?_⟩;refine PH (X:=af.bE [] (b,k)) hs1 Mh (by simp) ?_ λv3 s h1 h2=>⟨_,_,rfl,h1,h2⟩;exact VH (R:=[]) pa (by simp)
 |cons t r =>
  have e1:=Jv t r rfl;refine⟨true,by simp,?_⟩;rw[if_pos rfl,bx hs1,e1];refine⟨_,rfl,aQ t,Pu,?_⟩;obtain⟨bt,kt⟩:=t;have Mf:aQ (bt,kt)=.tup [.str (if bt then "s" else "t"),.int kt]:=rfl;rw[Mf];w_how;have eD:decide ((if bt=true then("s" : Str)else "t")=if b=true then("s" : Str)else "t")=decide (bt=b):=by cases bt<;>cases b<;>decide
  rw[eD];by_cases hb:bt=b;subst hb;refine Z _ _ ⟨λ_=>bj ?_,λz=>absurd z (by simp)⟩;clear Z;rw[e1]at hs1;exists _,Z,BQ;refine⟨nW (by rw[bx hs1];rfl),?_⟩;rw[BU (j8 hs1),Mf];w_how;refine Z _ _ ?_;have hs2:(s1.set st.length (.lst (r.reverse.map aQ)))[st.length]?=some (.lst (r.reverse.map aQ)):=Zaj (dc hs1);refine PH (X:=af.bE ((bt,kt) :: r) (bt,k)) hs2 (Mh.loc (Zad _)) (by rw[ZaD]at hlen;lk) ?_ λv3 s h1 h2=>⟨_,_,rfl,h1,h2⟩;rw[af.vN,if_pos rfl];unfold af.ck af.gj;cases bt<;>simp<;>split<;>rfl;refine Z _ _ ⟨λz=>absurd (of_decide_eq_true z) hb,λ_=>jv ?_⟩;refine PH (X:=af.bE ((bt,kt) :: r) (b,k)) hs1 Mh ⋯ ?_ λv3 s h1 h2=>⟨_,_,rfl,h1,h2⟩;exact VH (R:=(bt,kt) :: r) pa (λt r e=>by cases e;exact hb)
 rintro U s ⟨v2,v3,rfl,hs,kx⟩;rw[Zaa,ZaN]at hs;refine cV ?_;exists _,Z,bx hs;exact Z _ _ ⟨rfl,kx⟩
def VI{st:Store}{w:List bO}(hl:w.length<=1000):Wp (Dx [.tup (w.map aQ)] st) λd st'=>d=.tup ((af.dJ w).map aQ)/\Ex [] st st':=by
 refine eI ?_;intro qR;show Ws (G7 [some (.tup (w.map aQ)),none,none,none] st) _ _ _ _;unfold G7;refine aP (bj ?_);k_lt Z;refine⟨rfl,Z _ _ ?_⟩;clear Z;show Ws _ _ _ _ _;have er:(w.map aQ).reverse=w.reverse.map aQ:=Zce.symm;refine aP (lU (w.reverse.map aQ) (λi U s=>∃v2 v3:Option D,U=[some (.tup (w.map aQ)),some (.ref st.length),v2,v3]/\s[st.length]?=some (.lst (((w.reverse.take i).map af.jN).map aQ))/\Ex [] st s) ?_ (by rw[Zaa,ZaL];lk) ?_ ?_);exists _,Z,Uc;refine⟨_,rfl,?_⟩;rw[er];refine Z _ _ ⟨rfl,none,none,rfl,fW,Ex.bZ _⟩;rintro i d U s hd ⟨v2,v3,rfl,hs,kx⟩;rw[Zag]at hd;obtain⟨a,ha,rfl⟩:=Zay.mp hd;obtain⟨hi,ea⟩:=Zab.mp ha;have et:((w.reverse.take (i+1)).map af.jN).map aQ=((w.reverse.take i).map af.jN).map aQ ++ [aQ (af.jN a)]:=by
  rw[ZaH hi,ea,Zap,Zap];rfl
 rw[et];have hln:(((w.reverse.take i).map af.jN).map aQ).length<=1000:=by
  rw[Zaa,Zaa,Zbi,ZaL];lk
 generalize ((w.reverse.take i).map af.jN).map aQ=L at hs hln ⊢;obtain⟨b,k⟩:=a;have es1:aQ (b,k)=.tup [.str (if b then "s" else "t"),.int k]:=rfl;rw[es1];k_lt Z;refine⟨rfl,Z _ _ (pS ?_)⟩;clear Z;have ln:L.length<16777216:=by lk
 have h2:=j4 (m:=[O.lst [D.int (0-k),D.int (4-k)]]) hs;have k2:Ex [] st (s ++ [O.lst [D.int (0-k),D.int (4-k)]]):=kx.app _;have fin:∀x:D,x=.int (af.jN (b,k)).2->∃v2 v3:Option D,[some (D.tup (w.map aQ)),some (.ref st.length),some (D.str (if b then "s" else "t")),some (D.int k)]=[some (.tup (w.map aQ)),some (.ref st.length),v2,v3]/\((s ++ [O.lst [D.int (0-k),D.int (4-k)]]).set st.length (.lst (L ++ [D.tup [D.str (if b then "s" else "t"),x]])))[st.length]?=some (.lst (L ++ [aQ (af.jN (b,k))]))/\Ex [] st ((s ++ [O.lst [D.int (0-k),D.int (4-k)]]).set st.length (.lst (L ++ [D.tup [D.str (if b then "s" else "t"),x]]))):=λx ex=>by
  refine⟨_,_,rfl,?_,k2.loc (Zad _)⟩;rw[Zaj (dc h2),ex];cases b<;>rfl
 cases b with
 |true =>
  exists _,Z,tW;exact⟨nW (by rw[bx hs];rfl),rfl,.int (0-k),by rfl,rfl,L,j8 h2,jH ⋯,Z _ _ (fin _ (by simp[af.jN]))⟩
 |false =>
  exists _,Z,tW;exact⟨nW (by rw[bx hs];rfl),rfl,.int (4-k),by rfl,rfl,L,j8 h2,jH ⋯,Z _ _ (fin _ (by simp[af.jN]))⟩
 rintro U s ⟨v2,v3,rfl,hs,kx⟩;rw[Zaa,ZaN]at hs;refine cV ?_;exists _,Z,bx hs;refine Z _ _ ⟨?_,kx⟩;unfold af.dJ;rw[Zce]
def VJ(p:List Int×List Int)(s:bO):jn p s=af.stM p s:=by
 have hq:∀j,p7 p.1 p.2 j=af.pR j p:=λj=>by
  induction j with
  |zero=>rfl
  |succ j ih=>show _=_;unfold p7 af.pR;rw[ih];rfl
 unfold jn af.stM;split;rfl;exact hq _
def PJ{p q:af.aK}(h:bz p=bz q):p=q:=by
 have h:D.tup [.tup (p.1.map D.int),.tup (p.2.map D.int)]=D.tup [.tup (q.1.map D.int),.tup (q.2.map D.int)]:=h;injection h with h;injection h with h1 h2;injection h2 with h2 _;have inj:∀{x y:List Int},D.tup (x.map D.int)=D.tup (y.map D.int)->x=y:=λ{x y} e=>by
  injection e with e;have:=congrArg (List.map inD) e;rw[ZaF,ZaF]at this;exact(Zb2 x).symm.trans (this.trans (Zb2 y))
 exact Prod.ext (inj h1) (inj h2)
def sO{J:Type}{fs:List J}{g:J->D}{k:Nat}{p:J}(h:fs[k]?=some p):dA (fs.map g) (k:Int)=some (g p):=by have hk:k<fs.length:=(Zab.mp h).1;unfold dA;rw[C1 (by rw[Zaa];exact hk)];show(fs.map g)[k]?=_;rw[Zag,h];rfl
def VL{fs:List af.aK}{F:af.aK}{j:Nat}(nd:fs.Nodup)(hj:fs[j]?=some F):∀i e,i<j->(fs.map bz)[i]?=some e->e≠bz F:=λi e hij he z=>by
 rw[Zag]at he;obtain⟨q,hq,rfl⟩:=Zay.mp he;have:=PJ z;subst this;obtain⟨g1,g2⟩:=Zab.mp hq;obtain⟨g3,g4⟩:=Zab.mp hj;exact Za3.mp nd i j g1 g3 hij (by rw[g2,g4])
def de{J:Type}{l:List J}{k:Nat}{d:J}(h:k<l.length):l[k]?=some (l.getD k d):=by rw[Zaf,Zac h];rfl
abbrev wD(w:List bO):D:=.tup (w.map aQ)
def VM{s:Store}{a b c r n k:Nat}{p:af.aK}{fs:List af.aK}{ws:List (List bO)}{rs:List Nat}{L:List Int}{s1:bO}{v0 v1 v7:Option D}{N B C:ai->Store->Prop}{R:D->Store->Prop}
  (n0:0<n) (hn:n<=20) (hs:s1=(true,1)\/s1=(false,1)) (ab:a≠b) (ac:a≠c) (bc:b≠c) (ar:a≠r) (br:b≠r) (cr:c≠r)
  (ha:s[a]?=some (.lst (fs.map bz))) (hb:s[b]?=some (.lst (ws.map wD))) (hc:s[c]?=some (.lst (rs.map D.ref))) (hr:s[r]?=some (.lst (L.map D.int))) (hrk:rs[k]?=some r)
  (g:af.GR n p fs ws) (vp:af.Vf n p) (hk:k<fs.length) (few:fs.length<=100) (hL:L.length<=5)
  (hN:∀(v:Option D) (s':Store),s'[a]?=some (.lst ((af.aT n fs ws k s1).1.map bz))->s'[b]?=some (.lst ((af.aT n fs ws k s1).2.1.map wD))->s'[c]?=some (.lst (rs.map D.ref))->s'[r]?=some (.lst ((L ++ [((af.aT n fs ws k s1).2.2:Int)]).map D.int))->Ex [a,b,r] s s'->N [v0,v1,some (.ref a),some (.ref b),some (.ref c),some (.int (k:Int)),some (aQ s1),v] s') :
  Ws ((au (aA (aJ wu (ae (aJ zy (ae (ao bw (ag 2) (ag 5)) (ae (ag 6) ah))) ah)) (hName 7))
 (au (c7 (az (ao (rM true) (ag 7) (ag 2))) (au (bF (iM "list" aL (ag 2) (ae (ag 7) ah)))
 (bF (iM "list" aL (ag 3) (ae (aJ GW (ae (ao fK (ao bw (ag 3) (ag 5)) (aS (ae (ag 6) ah))) ah)) ah)))) aO)
 (bF (iM "list" aL (ao bw (ag 4) (ag 5)) (ae (iM "list" eY (ag 2) (ae (ag 7) ah)) ah))))) [v0,v1,some (.ref a),some (.ref b),some (.ref c),some (.int (k:Int)),some (aQ s1),v7] s) N B C R:=by
 have ek:=de (d:=(([],[]):af.aK)) hk;have hkw:k<ws.length:=by rw[g.wl];exact hk
 have ew:=de (d:=([]:List bO)) hkw;have ps:af.bQ s1:=by rcases hs with rfl|rfl<;>exact⟨λ_=>by decide,by decide⟩
 have gN:=af.uA n0 g vp hk hs;have lN:(af.aT n fs ws k s1).1.length<=101:=by have:=gN.2.2.2.1;lk
 generalize hq:fs.getD k ([],[])=q at ek;generalize hw:ws.getD k []=w at ew;obtain⟨wq,oq⟩:=g.own q (Zai ek);obtain⟨pw,lw,nw,-⟩:=g.wd k w ew;have hat:dA (fs.map bz) (k:Int)=some (bz q):=sO ek;have PK:dA (rs.map D.ref) (k:Int)=some (.ref r):=sO hrk;refine aP (bj ?_);exists _,Z,bx ha,hat;refine aR (Vp (p:=q) (s:=s1) ⟨wq.v.1,wq.v.2⟩ ⋯ ps.1) ?_;rintro d t1 ⟨rfl,k1⟩;rw[VJ];have Gi:=wq.st n0 s1;have eS:bz (af.stM q s1)=bS (af.stM q s1).1 (af.stM q s1).2:=rfl;rw[eS];refine aR (Mg (DL Gi) n0 hn) ?_;rintro d t2 ⟨rfl,k2⟩;have eF:bS (af.aY n ((af.stM q s1).1,(af.stM q s1).2)).1 (af.aY n ((af.stM q s1).1,(af.stM q s1).2)).2=bz (af.aY n (af.stM q s1)):=rfl;rw[eF];have uH:=k1.trans k2;have ha2:=uH.keep _ _ ha (by simp);have hb2:=uH.keep _ _ hb (by simp);have hc2:=uH.keep _ _ hc (by simp);have hr2:=uH.keep _ _ hr (by simp);have pf:∀q:af.aK,pU 2 (bz q):=λq=>zp 0 _ _;have rest:∀ {s3:Store},s3[a]?=some (.lst ((af.aT n fs ws k s1).1.map bz))->s3[b]?=some (.lst ((af.aT n fs ws k s1).2.1.map wD))->s3[c]?=some (.lst (rs.map D.ref))->s3[r]?=some (.lst (L.map D.int))->Ex [a,b,r] s s3->(af.aT n fs ws k s1).1[(af.aT n fs ws k s1).2.2]?=some (af.aY n (af.stM q s1)) ->
   Ws ((bF (iM "list" aL (ao bw (ag 4) (ag 5)) (ae (iM "list" eY (ag 2) (ae (ag 7) ah)) ah))) [v0,v1,some (.ref a),some (.ref b),some (.ref c),some (.int (k:Int)),some (aQ s1),some (bz (af.aY n (af.stM q s1)))] s3) N B C R:=by
  intro s3 q5 sP hc3 rR k3 hj;refine pS ?_;exists _,b9,bx hc3,PK;refine⟨nW (by rw[bx rR];rfl),nW (by rw[bx q5];rfl),?_⟩;rw[Uq (n:=2) (j:=(af.aT n fs ws k s1).2.2) (pf _) (bx q5) (λe he=>by obtain⟨q,_,rfl⟩:=Zaw.mp he;exact pf q) ∅ (by rw[Zaa];lk) (by rw[Zag,hj];rfl) (VL gN.1.nd hj)];exists j8 rR;refine⟨jH (by rw[Zaa];lk),b9 _ _ (hN _ _ ?_ ?_ ?_ ?_ ?_)⟩;rw[Zal (Ne.symm ar)];exact q5;rw[Zal (Ne.symm br)];exact sP;rw[Zal (Ne.symm cr)];exact hc3;rw[Zaj (dc rR),Zap];rfl;exact k3.put (by simp)
 have hj:(af.aT n fs ws k s1).1[(af.aT n fs ws k s1).2.2]?=some (af.aY n (af.stM q s1)):=by
  obtain⟨q',h1,h2⟩:=gN.2.2.2.2;rw[ek]at h1;cases h1;exact h2
 refine Z _ _ (aP (gu ?_));k_lt2 Z;have Ju:cH t2 (.ref a)=some (fs.map bz):=bx ha2;rw[Ua (n:=2) (es:=fs.map bz) (pf _) Ju (λe he=>by obtain⟨q,_,rfl⟩:=Zaw.mp he;exact pf q) ∅];by_cases hm:af.aY n (af.stM q s1)∈fs;have hm':bz (af.aY n (af.stM q s1))∈fs.map bz:=Zaw.mpr ⟨_,hm,rfl⟩;have eR:af.aT n fs ws k s1=(fs,ws,fs.idxOf (af.aY n (af.stM q s1))):=by unfold af.aT;rw[hq,if_pos hm]
 refine⟨false,by simp[hm'],Z _ _ ⟨λz=>(nomatch z),λ_=>jv (rest ?_ ?_ hc2 hr2 uH.any hj)⟩⟩;rw[eR];exact ha2;rw[eR];exact hb2;have hm':bz (af.aY n (af.stM q s1)) ∉ fs.map bz:=λz=>by
  obtain⟨q',h1,h2⟩:=Zaw.mp z;exact hm (PJ h2 ▸ h1)
 have eR:af.aT n fs ws k s1=(fs ++ [af.aY n (af.stM q s1)],ws ++ [(af.gW (w ++ [s1])).reverse],fs.length):=by unfold af.aT;rw[hq,hw,if_neg hm]
 refine⟨true,by simp[hm'],Z _ _ ⟨λ_=>?_,λz=>(nomatch z)⟩⟩;clear Z;refine aP (pS ?_);exists _,Z,j8 ha2;refine⟨nW (by rw[bx ha2];rfl),jH (by rw[Zaa];lk),Z _ _ (pS ?_)⟩;clear Z;have em:fs.map bz ++ [bz (af.aY n (af.stM q s1))]=(af.aT n fs ws k s1).1.map bz:=by rw[eR,Zap];rfl
 rw[em];have q5:(t2.set a (.lst ((af.aT n fs ws k s1).1.map bz)))[a]?=some (.lst ((af.aT n fs ws k s1).1.map bz)):=Zaj (dc ha2);have sP:(t2.set a (.lst ((af.aT n fs ws k s1).1.map bz)))[b]?=some (.lst (ws.map wD)):=by rw[Zal ab];exact hb2
 have hc3:(t2.set a (.lst ((af.aT n fs ws k s1).1.map bz)))[c]?=some (.lst (rs.map D.ref)):=by rw[Zal ac];exact hc2
 have rR:(t2.set a (.lst ((af.aT n fs ws k s1).1.map bz)))[r]?=some (.lst (L.map D.int)):=by rw[Zal ar];exact hr2
 have k3:Ex [a,b,r] s (t2.set a (.lst ((af.aT n fs ws k s1).1.map bz))):=(uH.any).put (by simp);generalize t2.set a (.lst ((af.aT n fs ws k s1).1.map bz))=s3 at q5 sP hc3 rR k3 ⊢;have Cz:dA (ws.map wD) (k:Int)=some (wD w):=sO ew;exists _,Z,bx sP,Cz;refine⟨nW (by rw[bx sP];rfl),rfl,?_⟩;have e1:w.map aQ ++ [aQ s1]=(w ++ [s1]).map aQ:=by rw[Zap];rfl
 unfold wD;w_how;rw[e1];refine⟨jH (by rw[Zaa];show _+1<=_;lk),?_⟩;have cD:∀x∈w ++ [s1],af.bQ x:=λx hx=>by
  rcases Zax.mp hx with h|h
  exact af.Pl.pr pw x (ZaM.mpr h);rw[Zar.mp h];exact ps
 refine aR (Xb8 (w:=w ++ [s1]) cD (by rw[Zae];show _+1<=_;lk)) ?_;rintro d s4 ⟨rfl,k4⟩;have Jw:=k4.keep _ _ q5 (by simp);have CA:=k4.keep _ _ sP (by simp);have hc4:=k4.keep _ _ hc3 (by simp);have hr4:=k4.keep _ _ rR (by simp);exists j8 CA;refine⟨jH (by rw[Zaa,g.wl];lk),Z _ _ (rest ?_ ?_ ?_ ?_ ((k3.trans k4.any).put (by simp)) hj)⟩;rw[Zal (Ne.symm ab)];exact Jw;rw[Zaj (dc CA),eR,Zap];rfl;rw[Zal bc];exact hc4;rw[Zal br];exact hr4
abbrev p8(p:af.aK)(w:List bO)(l:Nat×Nat):D:=.tup [bz p,wD w,.int (l.1:Int),.int (l.2:Int)]
abbrev jw(c:af.CS)(N:Nat):D:=.tup ((List.range N).map λk=>p8 (c.1.getD k ([],[])) (c.2.1.getD k []) (c.2.2.getD k (0,0)))
structure x5(st s:Store)(ia ib ic:Nat)(fs:List af.aK)(ws:List (List bO))(ls:List (Nat×Nat))(rs:List Nat):Prop where
 a:s[ia]?=some (.lst (fs.map bz))
 b:s[ib]?=some (.lst (ws.map wD))
 c:s[ic]?=some (.lst (rs.map D.ref))
 l:ls.length<=rs.length
 r:∀(k r:Nat) (l:Nat×Nat),rs[k]?=some r->ls[k]?=some l->s[r]?=some (.lst [.int (l.1:Int),.int (l.2:Int)])
 h:∀r∈rs,ic<r/\r<s.length
 e:Ex [] st s
def Jx{x y:D}:dA [x,y] 0=some x:=rfl
def Jy{x y:D}:dA [x,y] 1=some y:=rfl
def VN{st:Store}{p:af.aK}{n most:Nat}(w0:af.Wh n p)(n0:0<n)(hn:n<=20)(m1:1<=most)(DM:most<=60):Wp (GZ [bz p,.int (most:Int)] st) λd st'=>Ex [] st st'/\((∃N,N<=most/\af.Full n p (af.ch n p N) N/\(∀j,j<N->j<(af.ch n p j).1.length)/\d=jw (af.ch n p N) N)\/(d=.non/\∃i,(∀j,j<i->j<(af.ch n p j).1.length)/\most<(af.ch n p i).1.length)):=by
 refine eI ?_;intro qR;show Ws (GY [some (bz p),some (.int (most:Int)),none,none,none,none,none,none] st) _ _ _ _;unfold GY;refine aP (bj ?_);k_lt Z;refine aR (Mg (DL w0) n0 hn) ?_;rintro d s1 ⟨rfl,k1⟩;refine⟨rfl,Z _ _ (aP (bj ?_))⟩;k_lt2 Z;refine⟨rfl,rfl,Z _ _ (aP (bj ?_))⟩;k_lt2 Z;refine⟨rfl,Z _ _ ?_⟩;clear Z;have eF:bS (af.aY n (p.1,p.2)).1 (af.aY n (p.1,p.2)).2=bz (af.aY n p):=rfl;rw[eF];obtain⟨a,b,c,s2,ea,eb,ec,es,ab,bc,la,I0⟩:∃(a b c:Nat) (s2:Store),s1.length=a/\(s1 ++ [O.lst [bz (af.aY n p)]]).length=b/\(s1 ++ [O.lst [bz (af.aY n p)]] ++ [O.lst [D.tup []]]).length=c/\s1 ++ [O.lst [bz (af.aY n p)]] ++ [O.lst [D.tup []]] ++ [O.lst []]=s2/\a<b/\b<c/\st.length<=a/\x5 st s2 a b c (af.ch n p 0).1 (af.ch n p 0).2.1 (af.ch n p 0).2.2 [] :=
  ⟨_,_,_,_,rfl,rfl,rfl,rfl,by simp,by simp,k1.len,j4 (j4 fW),j4 fW,fW,Zad _,(λk r l h=>nomatch h),(λr h=>nomatch h),((k1.app _).app _).app _⟩
 rw[ea,eb,ec,es]
 let iL:IV:=λi U s=>∃(v5 v6 v7:Option D) (j:Nat) (rs:List Nat),U=[some (bz p),some (.int (most:Int)),some (.ref a),some (.ref b),some (.ref c),v5,v6,v7]/\j<=i/\(∀j',j' < j->j' < (af.ch n p j').1.length)/\(af.ch n p j).1.length<=most/\(j=i\/(af.ch n p j).1.length=j)/\rs.length=j/\x5 st s a b c (af.ch n p j).1 (af.ch n p j).2.1 (af.ch n p j).2.2 rs
 refine aP (lU (aH 0 most) iL ?_ (by rw[gs];lk) ?_ ?_);k_lt Z;refine⟨by lk,Z _ _ ⟨by rw[Zat],none,none,none,0,[],rfl,Zad _,(λj' h=>nomatch h),(show 1<=most from m1),.inl rfl,rfl,I0⟩⟩;rintro i d U s hd ⟨v5,v6,v7,j,rs,rfl,hj,pr,few,jo,hrs,I⟩;have hi:i<most:=by have:=dc hd;rw[gs]at this;exact this
 rw[zf hi,ZbC]at hd;cases hd;have g:=af.xV n0 w0 j pr;k_lt Z;refine Z _ _ (gu ?_);clear Z;exists _,Z,bx I.a;rw[Zaa];refine Z _ _ ⟨λz=>?_,λz=>jv ?_⟩;have z:i<(af.ch n p j).1.length:=by have:=of_decide_eq_true z;lk
 have ej:j=i:=by rcases jo with h|h<;>lk
 subst ej;clear Z;have pE:=g.ll;have zF:=g.le;refine aP (pS ?_);k_lt Z;have Ic:=j4 (m:=[O.lst []]) I.c;refine⟨nW (by rw[bx I.c];rfl),rfl,_,j8 Ic,jH (by rw[Zaa];lk),Z _ _ ?_⟩;clear Z;have er:rs.map D.ref ++ [D.ref s.length]=(rs ++ [s.length]).map D.ref:=by rw[Zap];rfl
 rw[er];have lc:=dc I.c;have I1:x5 st ((s ++ [O.lst []]).set c (.lst ((rs ++ [s.length]).map D.ref))) a b c (af.ch n p j).1 (af.ch n p j).2.1 (af.ch n p j).2.2 (rs ++ [s.length]):=by
  refine⟨?_,?_,Zaj (dc Ic),by rw[Zae];have:=I.l;lk,λk r l h1 h2=>?_,λr hr=>?_,?_⟩;rw[Zal ⋯];exact j4 I.a;rw[Zal ⋯];exact j4 I.b;have hk:k<rs.length:=by have:=(Zab.mp h2).1;lk
  rw[Zan hk]at h1;have hc:=I.h r (Zai h1);rw[Zal ⋯];exact j4 (I.r k r l h1 h2);rw[Za8,Zae];rcases Zax.mp hr with h|h
  have:=I.h r h;exact⟨this.1,Nat.lt_succ_of_lt this.2⟩
  rw[Zar.mp h];exact⟨lc,Zbb _⟩;exact(I.e.app _).loc ⋯
 have hr1:((s ++ [O.lst []]).set c (.lst ((rs ++ [s.length]).map D.ref)))[s.length]?=some (.lst (([]:List Int).map D.int)):=by
  rw[Zal ⋯];exact fW
 have hrk:(rs ++ [s.length])[j]?=some s.length:=by rw[Zav ⋯,hrs,ZaX];rfl
 have old:∀r∈rs,r≠s.length:=λr h=>by have:=I.h r h;lk
 have lsr:c<s.length:=lc;generalize (s ++ [O.lst []]).set c (.lst ((rs ++ [s.length]).map D.ref))=s3 at I1 hr1;generalize s.length=r at I1 hr1 hrk old lsr;have r1:=af.uA (s:=(true,1)) n0 g.r w0.v (k:=j) z (.inl rfl);have r2:=af.uA (s:=(false,1)) n0 r1.1 w0.v (k:=j) (by have:=r1.2.2.1;lk) (.inr rfl);have eS:af.bW n (af.ch n p j)=af.aT n (af.ch n p j).1 (af.ch n p j).2.1 j (true,1):=by unfold af.bW;rw[pE]
 have eT:af.dI n (af.ch n p j)=af.aT n (af.aT n (af.ch n p j).1 (af.ch n p j).2.1 j (true,1)).1 (af.aT n (af.ch n p j).1 (af.ch n p j).2.1 j (true,1)).2.1 j (false,1):=by unfold af.dI;rw[eS,pE]
 have mk:∀{fs fs':List af.aK} {ws xM:List (List bO)} {s s':Store},x5 st s a b c fs ws (af.ch n p j).2.2 (rs ++ [r])->s'[a]?=some (.lst (fs'.map bz))->s'[b]?=some (.lst (xM.map wD))->s'[c]?=some (.lst ((rs ++ [r]).map D.ref))->Ex [a,b,r] s s'->x5 st s' a b c fs' xM (af.ch n p j).2.2 (rs ++ [r]):=by
  intro fs fs' ws xM s s' J h1 h2 h3 k;refine⟨h1,h2,h3,J.l,λi r' l e1 e2=>?_,λr' hr=>?_,⟨Zaq J.e.len k.len,λi o e n=>k.keep i o (J.e.keep i o e n) (by have:=dc e;simp;lk)⟩⟩;have hk:i<rs.length:=by have:=(Zab.mp e2).1;lk
  have wJ:=e1;rw[Zan hk]at wJ;have hm:=Zai wJ;have hc:=J.h r' (Zai e1);have:=old r' hm;exact k.keep _ _ (J.r i r' l e1 e2) (by simp;lk);have hc:=J.h r' hr;exact⟨hc.1,ZaI hc.2 k.len⟩
 refine aP (lU [aQ (true,1),aQ (false,1)] (λm U s=>∃(v6 v7:Option D),U=[some (bz p),some (.int (most:Int)),some (.ref a),some (.ref b),some (.ref c),some (.int (j:Int)),v6,v7]/\((m=0/\x5 st s a b c (af.ch n p j).1 (af.ch n p j).2.1 (af.ch n p j).2.2 (rs ++ [r])/\s[r]?=some (.lst (([]:List Int).map D.int)))\/(m=1/\x5 st s a b c (af.bW n (af.ch n p j)).1 (af.bW n (af.ch n p j)).2.1 (af.ch n p j).2.2 (rs ++ [r])/\s[r]?=some (.lst (([((af.bW n (af.ch n p j)).2.2:Int)]:List Int).map D.int)))\/(m=2/\x5 st s a b c (af.dI n (af.ch n p j)).1 (af.dI n (af.ch n p j)).2.1 (af.ch n p j).2.2 (rs ++ [r])/\s[r]?=some (.lst (([((af.bW n (af.ch n p j)).2.2:Int),((af.dI n (af.ch n p j)).2.2:Int)]:List Int).map D.int))))) ?_ ∅ ?_ ?_);k_lt Z;exact⟨rfl,rfl,rfl,Z _ _ ⟨rfl,v6,v7,rfl,.inl ⟨rfl,I1,hr1⟩⟩⟩;rintro m d U s5 hd ⟨v6,v7,rfl,hm⟩;k_lt Z;refine Z _ _ ?_;clear Z;rcases hm with⟨rfl,J,hr⟩|⟨rfl,J,hr⟩|⟨rfl,J,hr⟩
 cases(show some (aQ (true,1))=some d from hd);refine VM (s1:=(true,1)) n0 hn (.inl rfl) ⋯ ⋯ ⋯ ⋯ ⋯ ⋯ J.a J.b J.c hr hrk g.r w0.v z ⋯ (by simp) λv s' h1 h2 h3 h4 h5=>?_;refine⟨_,v,rfl,.inr (.inl ⟨rfl,?_,?_⟩)⟩;rw[eS];exact mk J h1 h2 h3 h5;rw[eS];exact h4;cases(show some (aQ (false,1))=some d from hd);rw[eS]at J hr;refine VM (s1:=(false,1)) n0 hn (.inr rfl) ⋯ ⋯ ⋯ ⋯ ⋯ ⋯ J.a J.b J.c hr hrk r1.1 w0.v (by have:=r1.2.2.1;lk) (by have:=r1.2.2.2.1;lk) (by simp) λv s' h1 h2 h3 h4 h5=>?_;refine⟨_,v,rfl,.inr (.inr ⟨rfl,?_,?_⟩)⟩;rw[eT];exact mk J h1 h2 h3 h5;rw[eT,eS];exact h4;cases(show none=some d from hd);rintro U s5 ⟨v6,v7,rfl,⟨h,_⟩|⟨h,_⟩|⟨_,J,hr⟩⟩;cases h;cases h;have VO:∀j',j' < j+1->j' < (af.ch n p j').1.length:=λj' h=>by
  rcases ZbP j' j with h'|h'
  exact pr j' h'
  have:j'=j:=by lk
  subst this;exact z
 have J2:x5 st s5 a b c (af.ch n p (j+1)).1 (af.ch n p (j+1)).2.1 (af.ch n p (j+1)).2.2 (rs ++ [r]):=by
  refine⟨J.a,J.b,J.c,?_,λk r' l e1 e2=>?_,J.h,J.e⟩;show((af.ch n p j).2.2 ++ [_]).length<=_;rw[Zae,Zae,pE,hrs];exact Zad _;have e2:((af.ch n p j).2.2 ++ [((af.bW n (af.ch n p j)).2.2,(af.dI n (af.ch n p j)).2.2)])[k]?=some l:=e2;by_cases hk:k<(af.ch n p j).2.2.length;rw[Zan hk]at e2;exact J.r k r' l e1 e2;have hk2:k=j:=by
   have:=(Zab.mp e2).1;rw[Zae]at this;have:k<(af.ch n p j).2.2.length+1:=this;lk
  subst hk2;rw[Zav ⋯,pE,ZaX]at e2;cases(show some _=some l from e2);rw[hrk]at e1;cases e1;exact hr
 refine gu ?_;exists _,Z,bx J2.a;rw[Zaa];refine Z _ _ ⟨λy=>cV ?_,λy=>jv ⟨_,_,_,j+1,_,rfl,Zad _,VO,?_,.inl rfl,?_,J2⟩⟩;k_lt2 Z;exact Z _ _ ⟨J2.e,.inr ⟨rfl,j+1,VO,by have:=of_decide_eq_true y;lk⟩⟩
 have:=of_decide_eq_false y;lk
 rw[Zae,hrs];rfl;have z:¬i<(af.ch n p j).1.length:=by have:=of_decide_eq_false z;lk
 have:=g.le;exact⟨_,_,_,j,rs,rfl,by lk,pr,few,by lk,hrs,I⟩
 rintro U s ⟨v5,v6,v7,j,rs,rfl,hj,pr,few,jo,hrs,I⟩;rw[gs]at hj jo;have g:=af.xV n0 w0 j pr;have zF:=g.le;have PL:(af.ch n p j).1.length=j:=by rcases jo with h|h<;>lk
 have zG:af.Full n p (af.ch n p j) j:={ toGC:=g,fl:=PL };refine cV ?_;k_lt Z;generalize hC:af.ch n p j=C at I g PL zG;refine uP (aH 0 j) (λd=>p8 (C.1.getD (inD d).toNat ([],[])) (C.2.1.getD (inD d).toNat []) (C.2.2.getD (inD d).toNat (0,0))) ?_ (by rw[gs];lk) ?_ ?_;exists _,b9,bx I.a;rw[Zaa,PL];exact⟨by lk,b9 _ _ ⟨by rw[Zat];exact sI _ _,Ex.refl⟩⟩;intro d hd s5 k5;obtain⟨i,hi⟩:=Zbc hd;have hil:=dc hi;rw[gs]at hil;rw[zf hil,ZbC]at hi;cases hi;have hwl:=g.r.wl;have pE:=g.ll;have ef:=de (d:=(([],[]):af.aK)) (show i<C.1.length by lk);have ew:=de (d:=([]:List bO)) (show i<C.2.1.length by lk);have el:=de (d:=((0,0):Nat×Nat)) (show i<C.2.2.length by lk);have er:=de (d:=0) (show i<rs.length by lk);have hR:=k5.keep _ _ (I.r i _ _ er el) (by simp);have a1:dA (C.1.map bz) (i:Int)=some (bz (C.1.getD i ([],[]))):=sO ef;have a2:dA (C.2.1.map wD) (i:Int)=some (wD (C.2.1.getD i [])):=sO ew;have a3:dA (rs.map D.ref) (i:Int)=some (.ref (rs.getD i 0)):=sO er;have Jz:=k5.keep _ _ I.a (by simp);have PN:=k5.keep _ _ I.b (by simp);have hc5:=k5.keep _ _ I.c (by simp);generalize rs.getD i 0=r at hR a3;exists _,b9,Zaz,ZaW,ZaY,ZaZ,bx Jz,bx PN,bx hc5,a1,a2,a3,bx hR,Jx,Jy;exact⟨rfl,b9 _ _ ⟨rfl,Ex.refl⟩⟩;intro s5 k5;refine⟨_,tW,Z _ _ ⟨(I.e.trans k5).app _,.inl ⟨j,by lk,by rw[hC];exact zG,pr,?_⟩⟩⟩;rw[hC];unfold jw
 congr 1
 unfold aH;rw[ZaF];refine ZaQ λi _=>?_;show p8 _ _ _=_;simp only[Function.comp,inD,ZbC,Zat]
def zH(n0:0<n)(w:af.Wh n p):∀(N j:Nat),(∀i,i<N->i<(af.ch n p i).1.length)->j<=N->(af.ch n p j).1.length<=(af.ch n p N).1.length
 |0,j,_,hj=>by
  have:j=0:=by lk
  subst this;exact Zad _
 |N+1,j,pr,hj=>by
  by_cases e:j=N+1;subst e;exact Zad _;have h1:=zH n0 w N j (λi hi=>pr i ⋯) ⋯;have g:=af.xV n0 w N λi hi=>pr i ⋯;have hN:=pr N ⋯;have pE:=g.ll;have r1:=af.uA (s:=(true,1)) n0 g.r w.v (k:=(af.ch n p N).2.2.length) ⋯ (.inl rfl);have r2:=af.uA (s:=(false,1)) n0 r1.1 w.v (k:=(af.ch n p N).2.2.length) (by have:=r1.2.2.1;lk) (.inr rfl);have a:=r1.2.2.1;have b:=r2.2.2.1;have:(af.ch n p N).1.length<=(af.ch n p (N+1)).1.length:=Zaq a b;lk
def VP{st:Store}{a b n k:Nat}{p:af.aK}{fs:List af.aK}{ws:List (List bO)}{s1:bO}(n0:0<n)(hn:n<=20)(hs:s1=(true,1)\/s1=(false,1))(ab:a≠b)(ha:st[a]?=some (.lst (fs.map bz)))(hb:st[b]?=some (.lst (ws.map wD)))(g:af.GR n p fs ws)(vp:af.Vf n p)(hk:k<fs.length)(few:fs.length<=100):
  Wp (Ci [.ref a,.ref b,.int (k:Int),aQ s1] st) λd st'=>d=.int ((af.aT n fs ws k s1).2.2:Int)/\st'[a]?=some (.lst ((af.aT n fs ws k s1).1.map bz))/\st'[b]?=some (.lst ((af.aT n fs ws k s1).2.1.map wD))/\Ex [a,b] st st':=by
 refine eI ?_;intro qR;show Ws (Ie [some (.ref a),some (.ref b),some (.int (k:Int)),some (aQ s1),none] st) _ _ _ _;unfold Ie;have ek:=de (d:=(([],[]):af.aK)) hk;have hkw:k<ws.length:=by rw[g.wl];exact hk
 have ew:=de (d:=([]:List bO)) hkw;have ps:af.bQ s1:=by rcases hs with rfl|rfl<;>exact⟨λ_=>by decide,by decide⟩
 have gN:=af.uA n0 g vp hk hs;have lN:(af.aT n fs ws k s1).1.length<=101:=by have:=gN.2.2.2.1;lk
 generalize hq:fs.getD k ([],[])=q at ek;generalize hw:ws.getD k []=w at ew;obtain⟨wq,oq⟩:=g.own q (Zai ek);obtain⟨pw,lw,nw,-⟩:=g.wd k w ew;have hat:dA (fs.map bz) (k:Int)=some (bz q):=sO ek;refine aP (bj ?_);exists _,Z,bx ha,hat;refine⟨rfl,?_⟩;have hw1:(D.tup [aQ s1])=.tup ([s1].map aQ):=rfl;rw[hw1];refine aR (Xc1 (p:=q) (w:=[s1]) ⟨wq.v.1,wq.v.2⟩ ⋯ (λx hx=>by rw[Zar.mp hx];exact ps.1) (show 1<=1000 by decide)) ?_;rintro d t1 ⟨rfl,k1⟩;have e1:mV q [s1]=af.stM q s1:=VJ q s1;rw[e1];have Gi:=wq.st n0 s1;have eS:bz (af.stM q s1)=bS (af.stM q s1).1 (af.stM q s1).2:=rfl;rw[eS];refine aR (VD (DL Gi) n0 hn) ?_;rintro d t2 ⟨rfl,k2⟩;have eF:bS (af.aY n ((af.stM q s1).1,(af.stM q s1).2)).1 (af.aY n ((af.stM q s1).1,(af.stM q s1).2)).2=bz (af.aY n (af.stM q s1)):=rfl;rw[eF];have uH:=k1.trans k2;have ha2:=uH.keep _ _ ha (by simp);have hb2:=uH.keep _ _ hb (by simp);have pf:∀q:af.aK,pU 2 (bz q):=λq=>zp 0 _ _;have hj:(af.aT n fs ws k s1).1[(af.aT n fs ws k s1).2.2]?=some (af.aY n (af.stM q s1)):=by
  obtain⟨q',h1,h2⟩:=gN.2.2.2.2;rw[ek]at h1;cases h1;exact h2
 have rest:∀ {s3:Store},s3[a]?=some (.lst ((af.aT n fs ws k s1).1.map bz))->s3[b]?=some (.lst ((af.aT n fs ws k s1).2.1.map wD))->Ex [a,b] st s3 ->
   Ws ((aV (iM "list" eY (ag 0) (ae (ag 4) ah))) [some (.ref a),some (.ref b),some (.int (k:Int)),some (aQ s1),some (bz (af.aY n (af.stM q s1)))] s3) (λ_ st1=>D.non=D.int ((af.aT n fs ws k s1).2.2:Int)/\st1[a]?=some (.lst ((af.aT n fs ws k s1).1.map bz))/\st1[b]?=some (.lst ((af.aT n fs ws k s1).2.1.map wD))/\Ex [a,b] st st1) (λ_ _=>False) (λ_ _=>False) (λd st1=>d=D.int ((af.aT n fs ws k s1).2.2:Int)/\st1[a]?=some (.lst ((af.aT n fs ws k s1).1.map bz))/\st1[b]?=some (.lst ((af.aT n fs ws k s1).2.1.map wD))/\Ex [a,b] st st1):=by
  intro s3 q5 sP k3;refine cV ?_;k_lt b9;refine⟨nW (by rw[bx q5];rfl),?_⟩;rw[Uq (n:=2) (j:=(af.aT n fs ws k s1).2.2) (pf _) (bx q5) (λe he=>by obtain⟨q,_,rfl⟩:=Zaw.mp he;exact pf q) ∅ (by rw[Zaa];lk) (by rw[Zag,hj];rfl) (VL gN.1.nd hj)];exact b9 _ _ ⟨rfl,q5,sP,k3⟩
 refine Z _ _ (aP (gu ?_));k_lt2 Z;have Ju:cH t2 (.ref a)=some (fs.map bz):=bx ha2;rw[Ua (n:=2) (es:=fs.map bz) (pf _) Ju (λe he=>by obtain⟨q,_,rfl⟩:=Zaw.mp he;exact pf q) ∅];by_cases hm:af.aY n (af.stM q s1)∈fs;have hm':bz (af.aY n (af.stM q s1))∈fs.map bz:=Zaw.mpr ⟨_,hm,rfl⟩;have eR:af.aT n fs ws k s1=(fs,ws,fs.idxOf (af.aY n (af.stM q s1))):=by unfold af.aT;rw[hq,if_pos hm]
 refine⟨false,by simp[hm'],Z _ _ ⟨λz=>(nomatch z),λ_=>jv (rest ?_ ?_ uH.any)⟩⟩;rw[eR];exact ha2;rw[eR];exact hb2;have hm':bz (af.aY n (af.stM q s1)) ∉ fs.map bz:=λz=>by
  obtain⟨q',h1,h2⟩:=Zaw.mp z;exact hm (PJ h2 ▸ h1)
 have eR:af.aT n fs ws k s1=(fs ++ [af.aY n (af.stM q s1)],ws ++ [(af.gW (w ++ [s1])).reverse],fs.length):=by unfold af.aT;rw[hq,hw,if_neg hm]
 refine⟨true,by simp[hm'],Z _ _ ⟨λ_=>?_,λz=>(nomatch z)⟩⟩;clear Z;refine aP (pS ?_);exists _,Z,j8 ha2;refine⟨nW (by rw[bx ha2];rfl),jH (by rw[Zaa];lk),Z _ _ (pS ?_)⟩;clear Z;have em:fs.map bz ++ [bz (af.aY n (af.stM q s1))]=(af.aT n fs ws k s1).1.map bz:=by rw[eR,Zap];rfl
 rw[em];have q5:(t2.set a (.lst ((af.aT n fs ws k s1).1.map bz)))[a]?=some (.lst ((af.aT n fs ws k s1).1.map bz)):=Zaj (dc ha2);have sP:(t2.set a (.lst ((af.aT n fs ws k s1).1.map bz)))[b]?=some (.lst (ws.map wD)):=by rw[Zal ab];exact hb2
 have k3:Ex [a,b] st (t2.set a (.lst ((af.aT n fs ws k s1).1.map bz))):=(uH.any).put (by simp);generalize t2.set a (.lst ((af.aT n fs ws k s1).1.map bz))=s3 at q5 sP k3 ⊢;have Cz:dA (ws.map wD) (k:Int)=some (.tup (w.map aQ)):=sO (g:=wD) ew;exists _,Z,bx sP,Cz;refine⟨nW (by rw[bx sP];rfl),rfl,?_⟩;rw[hw1];refine aR (Vt (v:=w) (w:=[s1]) (by show _+1<=_;lk)) ?_;rintro d s4 ⟨rfl,k4⟩;have Jw:=k4.keep _ _ q5 (by simp);have CA:=k4.keep _ _ sP (by simp);exists j8 CA;refine⟨jH (by rw[Zaa,g.wl];lk),Z _ _ (rest ?_ ?_ ((k3.trans k4.any).put (by simp)))⟩;rw[Zal (Ne.symm ab)];exact Jw;rw[Zaj (dc CA),eR,Zap];rfl
abbrev CB(l:Nat×Nat):D:=.tup [.int (l.1:Int),.int (l.2:Int)]
def YbZ(w0:af.Wh n p)(n0:0<n)(hn:n<=20)(F:af.Full n p (af.ch n p N) N)(pr:∀j,j<N->j<(af.ch n p j).1.length)(hN:N<=most)(DM:most<=60):Wp (DC [bz p,.int (most:Int)] st) λd st'=>d=jw (af.ch n p N) N/\Ex [] st st':=by
 refine eI ?_;intro qR;show Ws (LD [some (bz p),some (.int (most:Int)),none,none,none,none,none,none] st) _ _ _ _;unfold LD;refine aP (bj ?_);k_lt Z;refine aR (VD (DL w0) n0 hn) ?_;rintro d s1 ⟨rfl,k1⟩;refine⟨rfl,Z _ _ (aP (bj ?_))⟩;k_lt2 Z;refine⟨rfl,rfl,Z _ _ (aP (bj ?_))⟩;k_lt2 Z;refine⟨rfl,Z _ _ ?_⟩;clear Z;have eF:bS (af.aY n (p.1,p.2)).1 (af.aY n (p.1,p.2)).2=bz (af.aY n p):=rfl;rw[eF];obtain⟨a,b,c,s2,ea,eb,ec,es,ab,bc,la,ha,hb,hc,kx⟩:∃(a b c:Nat) (s2:Store),s1.length=a/\(s1 ++ [O.lst [bz (af.aY n p)]]).length=b/\(s1 ++ [O.lst [bz (af.aY n p)]] ++ [O.lst [D.tup []]]).length=c/\s1 ++ [O.lst [bz (af.aY n p)]] ++ [O.lst [D.tup []]] ++ [O.lst []]=s2/\a<b/\b<c/\st.length<=a/\s2[a]?=some (.lst ((af.ch n p 0).1.map bz))/\s2[b]?=some (.lst ((af.ch n p 0).2.1.map wD))/\s2[c]?=some (.lst ((af.ch n p 0).2.2.map CB))/\Ex [] st s2 :=
  ⟨_,_,_,_,rfl,rfl,rfl,rfl,by simp,by simp,k1.len,j4 (j4 fW),j4 fW,fW,((k1.app _).app _).app _⟩
 rw[ea,eb,ec,es]
 let iL:IV:=λm U s=>∃(v5 v6 v7:Option D) (j:Nat),U=[some (bz p),some (.int (most:Int)),some (.ref a),some (.ref b),some (.ref c),v5,v6,v7]/\m+j=N/\s[a]?=some (.lst ((af.ch n p j).1.map bz))/\s[b]?=some (.lst ((af.ch n p j).2.1.map wD))/\s[c]?=some (.lst ((af.ch n p j).2.2.map CB))/\Ex [] st s
 refine aP (zk iL N (by show N<1000000;lk) ⟨none,none,none,0,rfl,rfl,ha,hb,hc,kx⟩ ?_);rintro m U s ⟨v5,v6,v7,j,rfl,hm,ha,hb,hc,k⟩;have g:=af.xV n0 w0 j λi hi=>pr i ⋯;have pE:=g.ll;have up:=zH n0 w0 N j pr ⋯;have hfl:=F.fl;exists _,Z,bx ha,bx hc;rw[Zaa,Zaa,pE];refine Z _ _ ⟨λz=>aP (gu ?_),λz=>cV ?_⟩;have z:j<(af.ch n p j).1.length:=by have:=of_decide_eq_true z;lk
 clear Z;exists _,Z,bx ha;rw[Zaa];refine Z _ _ ⟨λy=>?_,λy=>jv (aP (bj ?_))⟩
 have:=of_decide_eq_true y
 lk;clear Z;have hjN:j<N:=by
  rcases ZbP j N with h|h
  exact h
  have:j=N:=by lk
  subst this;lk
 exists _,Z,bx hc;rw[Zaa,pE];refine Z _ _ (aP (bj ?_));k_lt2 Z;have es1:D.tup [D.str (Str.ofString "s"),D.int 1]=aQ (true,1):=rfl;have et1:D.tup [D.str (Str.ofString "t"),D.int 1]=aQ (false,1):=rfl;rw[es1];have r1:=af.uA (s:=(true,1)) n0 g.r w0.v (k:=j) z (.inl rfl);have r2:=af.uA (s:=(false,1)) n0 r1.1 w0.v (k:=j) (by have:=r1.2.2.1;lk) (.inr rfl);refine aR (VP (s1:=(true,1)) (k:=j) n0 hn (.inl rfl) ⋯ ha hb g.r w0.v z ⋯) ?_;rintro d s3 ⟨rfl,q5,sP,k3⟩;have hc3:=k3.keep _ _ hc (by simp;lk);refine Z _ _ (aP (bj ?_));k_lt2 Z;rw[et1];refine aR (VP (s1:=(false,1)) (k:=j) n0 hn (.inr rfl) ⋯ q5 sP r1.1 w0.v (by have:=r1.2.2.1;lk) (by have:=r1.2.2.2.1;lk)) ?_;rintro d s4 ⟨rfl,Jw,CA,k4⟩;have hc4:=k4.keep _ _ hc3 (by simp;lk);refine Z _ _ (pS ?_);clear Z;exists _,Z,j8 hc4;have eS:af.bW n (af.ch n p j)=af.aT n (af.ch n p j).1 (af.ch n p j).2.1 j (true,1):=by unfold af.bW;rw[pE]
 have eT:af.dI n (af.ch n p j)=af.aT n (af.aT n (af.ch n p j).1 (af.ch n p j).2.1 j (true,1)).1 (af.aT n (af.ch n p j).1 (af.ch n p j).2.1 j (true,1)).2.1 j (false,1):=by unfold af.dI;rw[eS,pE]
 have kd:∀{x y:Store},Ex [] st x->Ex [a,b] x y->Ex [] st y:=λ{x y} h g=>⟨Zaq h.len g.len,λi o e n=>g.keep i o (h.keep i o e n) (by have:=dc e;simp;lk)⟩;have k5:Ex [] st s4:=kd (kd k k3) k4;refine⟨nW (by rw[bx hc4];rfl),rfl,jH (by rw[Zaa];lk),Z _ _ ⟨m-1,by lk,_,_,_,j+1,rfl,by lk,?_,?_,?_,k5.loc ⋯⟩⟩;rw[Zal ⋯];show _=some (O.lst ((af.dI n (af.ch n p j)).1.map bz));rw[eT];exact Jw;rw[Zal ⋯];show _=some (O.lst ((af.dI n (af.ch n p j)).2.1.map wD));rw[eT];exact CA;rw[Zaj (dc hc4)];show _=some (O.lst (((af.ch n p j).2.2 ++ [((af.bW n (af.ch n p j)).2.2,(af.dI n (af.ch n p j)).2.2)]).map CB));rw[Zap,eT,eS];rfl;have z:¬j<(af.ch n p j).1.length:=by have:=of_decide_eq_false z;lk
 have ej:j=N:=by
  rcases ZbP j N with h|h
  exact absurd (pr j h) z;lk
 subst ej;k_lt2 Z;generalize hC:af.ch n p j=C at ha hb hc g F hfl pE;refine uP (aH 0 j) (λd=>p8 (C.1.getD (inD d).toNat ([],[])) (C.2.1.getD (inD d).toNat []) (C.2.2.getD (inD d).toNat (0,0))) ?_ (by rw[gs];lk) ?_ ?_;exists _,b9,bx ha;rw[Zaa,hfl];exact⟨by lk,b9 _ _ ⟨by rw[Zat];exact sI _ _,Ex.refl⟩⟩;intro d hd s5 k5;obtain⟨i,hi⟩:=Zbc hd;have hil:=dc hi;rw[gs]at hil;rw[zf hil,ZbC]at hi;cases hi;have hwl:=g.r.wl;have ef:=de (d:=(([],[]):af.aK)) (show i<C.1.length by lk);have ew:=de (d:=([]:List bO)) (show i<C.2.1.length by lk);have el:=de (d:=((0,0):Nat×Nat)) (show i<C.2.2.length by lk);have a1:dA (C.1.map bz) (i:Int)=some (bz (C.1.getD i ([],[]))):=sO ef;have a2:dA (C.2.1.map wD) (i:Int)=some (wD (C.2.1.getD i [])):=sO ew;have a3:dA (C.2.2.map CB) (i:Int)=some (CB (C.2.2.getD i (0,0))):=sO el;have g0:∀{l:Nat×Nat} {s:Store} {Q:D->Store->Prop},Wp (ay (CB l) (.int 0) s) Q↔Q (.int (l.1:Int)) s:=a5;have g1:∀{l:Nat×Nat} {s:Store} {Q:D->Store->Prop},Wp (ay (CB l) (.int 1) s) Q↔Q (.int (l.2:Int)) s:=a5;have Jz:=k5.keep _ _ ha (by simp);have PN:=k5.keep _ _ hb (by simp);have hc5:=k5.keep _ _ hc (by simp);exists _,b9,Zaz,ZaW,ZaY,ZaZ,bx Jz,bx PN,bx hc5,a1,a2,a3,g0,g1;exact⟨rfl,b9 _ _ ⟨rfl,Ex.refl⟩⟩;intro s5 k5;refine⟨_,tW,Z _ _ ⟨?_,(k.trans k5).app _⟩⟩;rw[hC];unfold jw
 congr 1
 unfold aH;rw[ZaF];refine ZaQ λi _=>?_;show p8 _ _ _=_;simp only[Function.comp,inD,ZbC,Zat]
def Xdw(c:af.CS)(N:Nat):∃ds,jw c N=.tup ds:=⟨_,rfl⟩
def yb9{st:Store}{f most:Nat}(hf:a6 st f)(VQ:30<=most)(DM:most<=60):Wp (G2 [.ref f,.int (most:Int)] st) λd st'=>∃(n:Nat) (p:af.aK) (N:Nat),d=.tup [bz p,jw (af.ch n p N) N]/\af.Wh n p/\0<n/\n<=6/\af.Full n p (af.ch n p N) N/\(∀j,j<N->j<(af.ch n p j).1.length)/\N<=most/\a6 st' f/\Ex [f] st st':=by
 refine eI ?_;intro qR;show Ws (G1 [some (.ref f),some (.int (most:Int)),none,none] st) _ _ _ _;unfold G1;refine aP (bj ?_);k_lt Z;refine aR (rQ (n:=5) hf ∅ ∅) ?_;rintro d t1 ⟨k1,rfl,k10,k11,f1,e1⟩;w_how;refine⟨rfl,?_⟩;have f2:a6 (t1 ++ [O.lst [D.int (1+k1),D.int 6]]) f:=f1.keep (Ex.bZ _);have i2:(t1 ++ [O.lst [D.int (1+k1),D.int 6]])[t1.length]?=some (.lst [D.int (1+k1),D.int 6]):=fW;have e2:Ex [f] st (t1 ++ [O.lst [D.int (1+k1),D.int 6]]):=e1.app _;have lf:=f1.lt;have hne:t1.length≠f:=by lk
 generalize t1 ++ [O.lst [D.int (1+k1),D.int 6]]=t2 at f2 i2 e2 ⊢;generalize t1.length=r at i2 hne ⊢;refine aR (rQ (n:=8) f2 ∅ ∅) ?_;rintro d t3 ⟨k2,rfl,k20,k21,f3,e3⟩;have i3:items t3 r=some [D.int (1+k1),D.int 6]:=bx (e3.keep _ _ i2 (by simp;exact hne));exists i3;obtain⟨n,x,hx,ex,n0,n6⟩:∃(n:Nat) (x:D),dA [D.int (1+k1),D.int 6] (k2 / 7)=some x/\x=.int (n:Int)/\0<n/\n<=6:=by
  rcases(show k2 / 7=0\/k2 / 7=1 by lk)with h|h
  rw[h];exact⟨(1+k1).toNat,_,rfl,by rw[ZaG ⋯],by lk,by lk⟩;rw[h];exact⟨6,_,rfl,rfl,by decide,by decide⟩
 refine⟨by decide,x,hx,?_⟩;rw[ex];clear hx ex;refine aR (Vb (n:=n) f3 ⋯ ⋯) ?_;rintro d t4 ⟨xs,ys,rfl,fl,f4,e4⟩;refine Z _ _ (aP (bj ?_));k_lt2 Z;have w4:=VB fl;have e14:Ex [f] st t4:=(e2.trans e3).trans e4;refine aR (VN (p:=(xs,ys)) (most:=most) w4 n0 ⋯ ⋯ DM) ?_;rintro d t5 ⟨e5,hc⟩;have f5:=f4.keep e5;refine Z _ _ ?_;clear Z;show Ws _ _ _ _ _
 let iL:IV:=λm U s=>∃(n:Nat) (p:af.aK) (d:D),U=[some (.ref f),some (.int (most:Int)),some (bz p),some d]/\af.Wh n p/\0<n/\n<=6/\((∃N,N<=most/\af.Full n p (af.ch n p N) N/\(∀j,j<N->j<(af.ch n p j).1.length)/\d=jw (af.ch n p N) N)\/(d=.non/\m=1))/\a6 s f/\Ex [f] st s
 refine aP (zk iL 1 ∅ ?_ ?_);refine⟨n,(xs,ys),d,rfl,w4,n0,n6,?_,f5,e14.trans e5.any⟩;rcases hc with h|h
 exact .inl h;exact .inr ⟨h.1,rfl⟩;rintro m U s ⟨n,p,d,rfl,w4,n0,n6,hd,f6,e6⟩;rcases hd with⟨N,PQ,hF,wQ,rfl⟩|⟨rfl,rfl⟩
 obtain⟨ds,VR⟩:=Xdw (af.ch n p N) N;rw[VR];exists _,Z,xdr;refine Z _ _ ⟨λz=>(nomatch z),λ_=>cV ?_⟩;k_lt2 Z;exact⟨rfl,Z _ _ ⟨n,p,N,by rw[VR],w4,n0,n6,hF,wQ,PQ,f6,e6⟩⟩;exists _,Z,TR;refine Z _ _ ⟨λ_=>aP (bj ?_),λz=>(nomatch z)⟩;k_lt2 Z;refine aR (rQ (n:=3) f6 ∅ ∅) ?_;rintro d t7 ⟨k3,rfl,k30,k31,f7,e7⟩;w_how;obtain⟨n',hn'⟩:∃n':Nat,(1:Int)+k3=(n':Int):=⟨(1+k3).toNat,by lk⟩;rw[hn'];refine aR (Vb (n:=n') f7 ⋯ ⋯) ?_;rintro d t8 ⟨xs,ys,rfl,fl,f8,e8⟩;refine Z _ _ (bj ?_);k_lt2 Z;have w8:=VB fl;refine aR (VN (p:=(xs,ys)) (most:=most) w8 (show 0<n' by lk) ⋯ ⋯ DM) ?_;rintro d t9 ⟨e9,hc⟩;rcases hc with⟨N,PQ,hF,wQ,rfl⟩|⟨rfl,i,pr,hi⟩
 exact Z _ _ ⟨0,by decide,n',(xs,ys),_,rfl,w8,by lk,by lk,.inl ⟨N,PQ,hF,wQ,rfl⟩,f8.keep e9,((e6.trans e7).trans e8).trans e9.any⟩;have g:=af.xV ⋯ w8 i pr
 have:=af.Ydt (n:=n') ⋯ ⋯ g.r.nd g.r.own;lk
abbrev wB(C:af.CS)(t:af.jR):D:=dz (af.av (af.uQ C t))
def VS(hg:g<N):Wp (ay (jw C N) (.int (g:Int)) st) Q↔Q (p8 (C.1.getD g ([],[])) (C.2.1.getD g []) (C.2.2.getD g (0,0))) st:=by have e:dA ((List.range N).map λk=>p8 (C.1.getD k ([],[])) (C.2.1.getD k []) (C.2.2.getD k (0,0))) (g:Int)=some (p8 (C.1.getD g ([],[])) (C.2.1.getD g []) (C.2.2.getD g (0,0))):=sO (g:=λk=>p8 (C.1.getD k ([],[])) (C.2.1.getD k []) (C.2.2.getD k (0,0))) (ZaR hg);unfold jw;rw[Om,e];exact⟨λ⟨d,h1,h2⟩=>by cases h1;exact h2,λh=>⟨_,rfl,h⟩⟩
def CC:Wp (ay (p8 p w l) (.int 1) st) Q↔Q (wD w) st:=a5
def VT{n N a i:Nat}(F:af.Full n p C N)(hN:N<=60)(ht:af.xW N t)(hx:x.2.length<=130)(ha:s[a]?=some (.lst (x.2.map (wB C))))
  (x6:∀(s':Store),s'[a]?=some (.lst ((af.j9 x t).2.map (wB C)))->Ex [a] s s'->Nx [some (jw C N),some (.ref a),some (.int ((af.j9 x t).1:Int)),v3,some (wD (C.2.1.getD t.1 [])),v5,v6,some (.str (if t.2.1.1 then "s" else "t")),some (.int (t.2.2:Int))] s') :
  Ws ((c7 (az (ao (gf false) (ag 8) (ag 2))) (aA (ao cy (ag 2) #[1]) (hName 2)) (bF (iM "list" aL (ag 1) (ae (aJ zz (ae (ao fK (ao fK (ag 4) (aS (ae (aS (ae (ag 7) (ae #[1] ah))) ah))) (aJ Dx (ae (ao ay (ao ay (ag 0) (ag 8)) #[1]) ah))) ah)) ah)))) [some (jw C N),some (.ref a),some (.int (x.1:Int)),v3,some (wD (C.2.1.getD t.1 [])),v5,v6,some (.str (if t.2.1.1 then "s" else "t")),some (.int (t.2.2:Int))] s) Nx B Co R:=by
 obtain⟨hw,lw⟩:=af.Uw F ht;refine gu ?_;k_lt Z;by_cases e:t.2.2=x.1;refine Z _ _ ⟨λ_=>bj ?_,λz=>absurd z (by simp[e])⟩;k_lt2 Z;refine Z _ _ ?_;have em:af.j9 x t=(x.1+1,x.2):=by unfold af.j9;rw[if_pos e]
 rw[em]at x6;exact x6 s ha Ex.refl;refine Z _ _ ⟨λz=>absurd (of_decide_eq_true z) (λz=>e ⋯),λ_=>pS ?_⟩;clear Z;have em:af.j9 x t=(x.1,x.2 ++ [t]):=by unfold af.j9;rw[if_neg e]
 rw[em]at x6;k_lt Z;have es:D.tup [D.str (if t.2.1.1=true then "s" else "t"),D.int 1]=aQ t.2.1:=by
  obtain⟨_,h2|h2,_⟩:=ht<;>rw[h2]<;>rfl
 refine⟨nW (by rw[bx ha];rfl),rfl,rfl,?_⟩;rw[show D.tup [D.str (if t.2.1.1=true then Str.ofString "s" else Str.ofString "t"),D.int 1]=aQ t.2.1 from es];obtain⟨r1,r2⟩:=af.Gk F ht.1;obtain⟨r3,r4⟩:=af.Gk F ht.2.2;unfold wD;w_how;rw[show(C.2.1.getD t.1 []).map aQ ++ [aQ t.2.1]=(C.2.1.getD t.1 [] ++ [t.2.1]).map aQ by rw[Zap];rfl];refine⟨jH (by rw[Zaa];show _+1<=_;lk),?_⟩;rw[VS ht.2.2,CC];unfold wD;refine aR (VI (w:=C.2.1.getD t.2.2 []) ⋯) ?_;rintro d s2 ⟨rfl,k2⟩;w_how;rw[<- Zap];have hm:C.2.1.getD t.1 [] ++ [t.2.1] ++ af.dJ (C.2.1.getD t.2.2 [])=af.uQ C t:=rfl;rw[hm];refine⟨jH (by rw[Zaa,Zaa];have:=VE (C.2.1.getD t.2.2 []);rw[Zae];show _+1+_<=_;lk),?_⟩;refine aR (Vu (w:=af.uQ C t) (λs hs=>⟨(hw s hs).1,by have:=(hw s hs).2;lk⟩) ⋯) ?_;rintro d s3 ⟨rfl,k3⟩;have q5:=(k2.trans k3).keep _ _ ha (by simp);refine⟨_,j8 q5,jH (by rw[Zaa];lk),Z _ _ (x6 _ ?_ (((k2.trans k3).any).put (by simp)))⟩;rw[Zaj (dc q5),Zap];rfl
def zdx(F:af.Full n p C N)(hi:i<=N)(hN:N<=60):(af.cg C i).2.length<=120:=by have:=(af.Dr F i hi).2;lk
def Xbx(F:af.Full n p C N)(hN:N<=60):Wp (Ij [jw C N] st) λd st'=>d=.tup ((af.cg C N).2.map (wB C))/\Ex [] st st':=by
 refine eI ?_;intro qR;show Ws (Ii [some (jw C N),none,none,none,none,none,none,none,none] st) _ _ _ _;unfold Ii;refine aP (bj ?_);k_lt Z;refine⟨rfl,Z _ _ (aP (bj ?_))⟩;k_lt2 Z;refine Z _ _ ?_;clear Z;obtain⟨a,s0,ea,es,ha,kx⟩:∃(a:Nat) (s0:Store),st.length=a/\st ++ [O.lst []]=s0/\s0[a]?=some (.lst ((af.cg C 0).2.map (wB C)))/\Ex [] st s0:=⟨_,_,rfl,rfl,fW,Ex.bZ _⟩;rw[ea,es]
 let iL:IV:=λi U s=>∃(v3 v4 v5 v6 v7 v8:Option D),U=[some (jw C N),some (.ref a),some (.int ((af.cg C i).1:Int)),v3,v4,v5,v6,v7,v8]/\s[a]?=some (.lst ((af.cg C i).2.map (wB C)))/\Ex [] st s
 refine aP (lU ((List.range N).map λk=>p8 (C.1.getD k ([],[])) (C.2.1.getD k []) (C.2.2.getD k (0,0))) iL ?_ (by rw[Zaa,Zbn];lk) ?_ ?_);k_lt Z;exact⟨_,rfl,Z _ _ ⟨rfl,_,_,_,_,_,_,rfl,ha,kx⟩⟩;rintro i d U s hd ⟨v3,v4,v5,v6,v7,v8,rfl,ha,k⟩;have hi:i<N:=by have:=dc hd;rw[Zaa,Zbn]at this;exact this
 rw[Zag,ZaR hi]at hd;cases hd;dsimp only;have l1:=af.Gj F hi;have m1:=af.Dr F i ⋯;have t1:af.xW N (i,(true,1),(af.iI C i).1):=⟨hi,.inl rfl,l1.1⟩;have t2:af.xW N (i,(false,1),(af.iI C i).2):=⟨hi,.inr rfl,l1.2⟩;have m2:=af.K2 m1.1 t1;unfold p8;k_lt Z;refine⟨rfl,Z _ _ ?_⟩;clear Z;refine lU [.tup [.str "s",.int ((af.iI C i).1:Int)],.tup [.str "t",.int ((af.iI C i).2:Int)]] (λj U s=>∃(v7 v8:Option D),U=[some (jw C N),some (.ref a),some (.int ((af.K1 C i j).1:Int)),some (bz (C.1.getD i ([],[]))),some (wD (C.2.1.getD i [])),some (.int ((af.iI C i).1:Int)),some (.int ((af.iI C i).2:Int)),v7,v8]/\s[a]?=some (.lst ((af.K1 C i j).2.map (wB C)))/\Ex [] st s) ?_ (show 2<100000 by decide) ?_ ?_;k_lt Z;exact⟨rfl,rfl,rfl,Z _ _ ⟨rfl,_,_,rfl,ha,k⟩⟩;rintro j d U s' hd ⟨v7,v8,rfl,ha',k'⟩;rcases j with _|_|j
 cases hd;k_lt Z;refine⟨rfl,Z _ _ ?_⟩;exact VT (i:=i) (x:=af.cg C i) (t:=(i,(true,1),(af.iI C i).1)) F hN t1 ⋯ ha' λs2 ha2 k2=>⟨_,_,rfl,ha2,k'.drop k2 ⋯⟩;cases hd;k_lt Z;refine⟨rfl,Z _ _ ?_⟩;exact VT (i:=i) (x:=af.j9 (af.cg C i) (i,(true,1),(af.iI C i).1)) (t:=(i,(false,1),(af.iI C i).2)) F hN t2 (by have:=m2.2;lk) ha' λs2 ha2 k2=>⟨_,_,rfl,ha2,k'.drop k2 ⋯⟩;exact absurd hd (by simp);rintro U s' ⟨v7,v8,rfl,ha',k'⟩;exact⟨_,_,_,_,_,_,rfl,ha',k'⟩;rintro U s ⟨v3,v4,v5,v6,v7,v8,rfl,ha,k⟩;rw[Zaa,Zbn]at ha;refine cV ?_;k_lt Z;exact⟨_,bx ha,Z _ _ ⟨rfl,k⟩⟩
abbrev wC(t:af.jR):D:=.tup [.int (t.1:Int),aQ t.2.1,.int (t.2.2:Int)]
def VU{a N:Nat}(hx:x.2.length<=130)(ha:s[a]?=some (.lst (x.2.map wC)))
  (x6:∀(s':Store),s'[a]?=some (.lst ((af.j9 x t).2.map wC))->Ex [a] s s'->Nx [some c,some (.ref a),some (.int ((af.j9 x t).1:Int)),some (.int (t.1:Int)),v4,some (aQ t.2.1),some (.int (t.2.2:Int))] s') :
  Ws ((c7 (az (ao (gf false) (ag 6) (ag 2))) (aA (ao cy (ag 2) #[1]) (hName 2)) (bF (iM "list" aL (ag 1) (ae (aS (ae (ag 3) (ae (ag 5) (ae (ag 6) ah)))) ah)))) [some c,some (.ref a),some (.int (x.1:Int)),some (.int (t.1:Int)),v4,some (aQ t.2.1),some (.int (t.2.2:Int))] s) Nx B Co R:=by
 refine gu ?_;k_lt Z;by_cases e:t.2.2=x.1;refine Z _ _ ⟨λ_=>bj ?_,λz=>absurd z (by simp[e])⟩;k_lt2 Z;refine Z _ _ ?_;have em:af.j9 x t=(x.1+1,x.2):=by unfold af.j9;rw[if_pos e]
 rw[em]at x6;exact x6 s ha Ex.refl;refine Z _ _ ⟨λz=>absurd (of_decide_eq_true z) (λz=>e ⋯),λ_=>pS ?_⟩;clear Z;have em:af.j9 x t=(x.1,x.2 ++ [t]):=by unfold af.j9;rw[if_neg e]
 rw[em]at x6;exists _,Z,j8 ha;refine⟨nW (by rw[bx ha];rfl),rfl,jH (by rw[Zaa];lk),Z _ _ (x6 _ ?_ (Ex.refl.put (by simp)))⟩;rw[Zaj (dc ha),Zap];rfl
def VW:Wp (ay (p8 p w l) (.int 2) st) Q↔Q (.int (l.1:Int)) st:=a5
def VX:Wp (ay (p8 p w l) (.int 3) st) Q↔Q (.int (l.2:Int)) st:=a5
def VY{ds:List D}{i:Nat}{d:D}(h:ds[i]?=some d):(gg ds)[i]?=some (.tup [.int (i:Int),d]):=by unfold gg;simp[Zag,List.getElem?_zipIdx,h]
def Zb9(F:af.Full n p C N)(hN:N<=60):Wp (LH [jw C N] st) λd st'=>d=.tup ((af.cg C N).2.map wC)/\Ex [] st st':=by
 refine eI ?_;intro qR;show Ws (LG [some (jw C N),none,none,none,none,none,none] st) _ _ _ _;unfold LG;refine aP (bj ?_);k_lt Z;refine⟨rfl,Z _ _ (aP (bj ?_))⟩;k_lt2 Z;refine Z _ _ ?_;clear Z;obtain⟨a,s0,ea,es,ha,kx⟩:∃(a:Nat) (s0:Store),st.length=a/\st ++ [O.lst []]=s0/\s0[a]?=some (.lst ((af.cg C 0).2.map wC))/\Ex [] st s0:=⟨_,_,rfl,rfl,fW,Ex.bZ _⟩;rw[ea,es];have eL:(gg ((List.range N).map λk=>p8 (C.1.getD k ([],[])) (C.2.1.getD k []) (C.2.2.getD k (0,0)))).length=N:=by unfold gg;simp
 let iL:IV:=λi U s=>∃(v3 v4 v5 v6:Option D),U=[some (jw C N),some (.ref a),some (.int ((af.cg C i).1:Int)),v3,v4,v5,v6]/\s[a]?=some (.lst ((af.cg C i).2.map wC))/\Ex [] st s
 refine aP (lU (gg ((List.range N).map λk=>p8 (C.1.getD k ([],[])) (C.2.1.getD k []) (C.2.2.getD k (0,0)))) iL ?_ ⋯ ?_ ?_);k_lt Z;exact⟨_,rfl,Z _ _ ⟨rfl,_,_,_,_,rfl,ha,kx⟩⟩;rintro i d U s hd ⟨v3,v4,v5,v6,rfl,ha,k⟩;have hi:i<N:=by have:=dc hd;lk
 rw[VY (d:=p8 (C.1.getD i ([],[])) (C.2.1.getD i []) (C.2.2.getD i (0,0))) (by rw[Zag,ZaR hi];rfl)]at hd;cases hd;have l1:=af.Gj F hi;have m1:=af.Dr F i ⋯;have m2:=af.K2 m1.1 (show af.xW N (i,(true,1),(af.iI C i).1)from⟨hi,.inl rfl,l1.1⟩);k_lt Z;refine⟨rfl,Z _ _ ?_⟩;clear Z;refine lU [.tup [aQ (true,1),.int ((af.iI C i).1:Int)],.tup [aQ (false,1),.int ((af.iI C i).2:Int)]] (λj U s=>∃(v5 v6:Option D),U=[some (jw C N),some (.ref a),some (.int ((af.K1 C i j).1:Int)),some (.int (i:Int)),some (p8 (C.1.getD i ([],[])) (C.2.1.getD i []) (C.2.2.getD i (0,0))),v5,v6]/\s[a]?=some (.lst ((af.K1 C i j).2.map wC))/\Ex [] st s) ?_ (show 2<100000 by decide) ?_ ?_;exists _,Z,VW,VX;exact⟨rfl,rfl,rfl,Z _ _ ⟨rfl,_,_,rfl,ha,k⟩⟩;rintro j d U s' hd ⟨v5,v6,rfl,ha',k'⟩;rcases j with _|_|j
 cases hd;k_lt Z;refine⟨rfl,Z _ _ ?_⟩;exact VU (N:=N) (x:=af.cg C i) (t:=(i,(true,1),(af.iI C i).1)) ⋯ ha' λs2 ha2 k2=>⟨_,_,rfl,ha2,k'.drop k2 ⋯⟩;cases hd;k_lt Z;refine⟨rfl,Z _ _ ?_⟩;exact VU (N:=N) (x:=af.j9 (af.cg C i) (i,(true,1),(af.iI C i).1)) (t:=(i,(false,1),(af.iI C i).2)) (by have:=m2.2;lk) ha' λs2 ha2 k2=>⟨_,_,rfl,ha2,k'.drop k2 ⋯⟩;exact absurd hd (by simp);rintro U s' ⟨v5,v6,rfl,ha',k'⟩;exact⟨_,_,_,_,rfl,ha',k'⟩;rintro U s ⟨v3,v4,v5,v6,rfl,ha,k⟩;rw[eL]at ha;refine cV ?_;k_lt Z;exact⟨_,bx ha,Z _ _ ⟨rfl,k⟩⟩
def VZ:Wp (ay (bS xs ys) (.int 0) st) Q↔Q (.tup (xs.map D.int)) st:=a5
def ydx:Wp (ay (bS xs ys) (.int 1) st) Q↔Q (.tup (ys.map D.int)) st:=a5
abbrev Mi(c:af.CS)(k:Nat):D:=p8 (c.1.getD k ([],[])) (c.2.1.getD k []) (c.2.2.getD k (0,0))
def V0(c:af.CS)(N:Nat):jw c N=.tup ((List.range N).map (Mi c)):=rfl
def yc2(h:c.2.2.length=N):(List.range N).map (λk=>((c.2.2.getD k (0,0)).1:Int))=af.sT c:=by unfold af.sT;refine Zb3 λk=>?_;rw[Zag,Zag];by_cases hk:k<N;rw[ZaR hk,Zac (by lk:k<c.2.2.length)];show some ((c.2.2.getD k (0,0)).1:Int)=_;rw[Zaf,Zac (by lk:k<c.2.2.length)];rfl;rw[ZaP (by simp;lk),ZaP ⋯];rfl
def Zc2(h:c.2.2.length=N):(List.range N).map (λk=>((c.2.2.getD k (0,0)).2:Int))=af.tT c:=by unfold af.tT;refine Zb3 λk=>?_;rw[Zag,Zag];by_cases hk:k<N;rw[ZaR hk,Zac (by lk:k<c.2.2.length)];show some ((c.2.2.getD k (0,0)).2:Int)=_;rw[Zaf,Zac (by lk:k<c.2.2.length)];rfl;rw[ZaP (by simp;lk),ZaP ⋯];rfl
def V1(hi:Wp (fi U st) λS st1=>qi S ((List.range N).map (Mi c)) st1/\Ex [] st st1)(hN:N<=60)(hf:∀(k:Nat) (s:Store) (R:D->Store->Prop),R (.int (f k)) s->Wp (ay (Mi c k) (.int j) s) R)(Z:∀s,Ex [] st s->Q (.ref s.length) (s ++ [.lst (((List.range N).map f).map D.int)])):Wp (bU fi 1 [] (hName 0) b8 (ao ay (ag 0) (fC (.int j))) U st) Q:=by
 refine ZcY ((List.range N).map (Mi c)) (λi y _=>y=.int (f i)) (λ_ _ _ _ h _=>h) hi (by rw[Zaa,Zbn];lk) ?_ ?_;intro i d hd s1 k1;rw[Zag]at hd;obtain⟨k,hk,rfl⟩:=Zay.mp hd;have hik:k=i:=by
  have:=(Zab.mp hk);obtain⟨h1,h2⟩:=this;rw[ZcB]at h2;exact h2.symm
 subst hik;k_lt b9;exact hf _ _ _ (b9 _ _ ⟨rfl,Ex.refl⟩);intro ys s1 k1 hl hy;have e:ys=((List.range N).map f).map D.int:=by
  refine Zb3 λi=>?_;rw[Zaa,Zbn]at hl;by_cases hi':i<N;rw[Zag,Zag,ZaR hi',Zac ⋯,hy i _ (Zac (by lk:i<ys.length))];rfl;rw[ZaP ⋯,ZaP (by simp;lk)]
 rw[e];exact Z _ k1
def xbZ(F:af.Full n p c N)(hN:N<=60):Wp (LF [jw c N] st) λd st'=>d=bS (af.sT c) (af.tT c)/\Ex [] st st':=by refine eI ?_;intro qR;show Ws (Il [some (jw c N)] st) _ _ _ _;unfold Il;refine cV ?_;k_lt Z;refine V1 (c:=c) (N:=N) (f:=λk=>((c.2.2.getD k (0,0)).1:Int)) ?_ hN (λk s R h=>VW.mpr h) λs1 k1=>?_;k_lt hP;exact⟨_,V0 c N,hP _ _ ⟨sI _ _,Ex.refl⟩⟩;rw[yc2 F.ll];w_how;refine V1 (c:=c) (N:=N) (f:=λk=>((c.2.2.getD k (0,0)).2:Int)) ?_ hN (λk s R h=>VX.mpr h) λs2 k2=>?_;k_lt hP;exact⟨_,V0 c N,hP _ _ ⟨sI _ _,Ex.refl⟩⟩;rw[Zc2 F.ll];w_how;exact⟨rfl,Z _ _ ⟨rfl,(k1.trans (Ex.bZ _)).trans (k2.trans (Ex.bZ _))⟩⟩
abbrev sQ(b:Bool):Str:=if b=true then "s" else "t"
def Zdx(h:sQ a=sQ b):a=b:=by cases a<;>cases b<;>first|rfl|exact absurd h ∅
abbrev xb(i:Nat)(b:Bool):List Key:=[.inl (i:Int),.inr (sQ b)]
def Ydx(h:xb i a=xb j b):i=j/\a=b:=by unfold xb at h;injection h with h1 h2;injection h1 with h1;injection h2 with h2 _;injection h2 with h2;exact⟨by lk,Zdx h2⟩
abbrev DN(P:List af.jR)(m:Nat)(kvs:List (List Key×D)):Prop:=kvs.length<=m/\∀i b,mP kvs (xb i b)=(af.uD P m i b).map λm=>.int (m:Int)
def DN.put{P:List af.jR}{m:Nat}{kvs:List (List Key×D)}{t:af.jR}(h:DN P m kvs)(ht:P[m]?=some t):DN P (m+1) (oN kvs (xb t.1 t.2.1.1) (.int (m:Int))):=by
 refine⟨by have:=zc0 kvs (xb t.1 t.2.1.1) (.int (m:Int));have:=h.1;lk,λi b=>?_⟩;rw[XcZ];have e:P.getD m (0,(true,1),0)=t:=by rw[Zaf,ht];rfl
 unfold af.uD;rw[e];by_cases c:t.1=i/\t.2.1.1=b;rw[if_pos c,if_pos (by rw[c.1,c.2])];rfl;rw[if_neg c,if_neg λz=>c (Ydx z),h.2]
def JA:Wp (ay (wC t) (.int 0) st) Q↔Q (.int (t.1:Int)) st:=a5
def CD:Wp (ay (wC t) (.int 1) st) Q↔Q (aQ t.2.1) st:=a5
def V2:Wp (ay (aQ s) (.int 0) st) Q↔Q (.str (sQ s.1)) st:=a5
def V3:Wp (ay (aQ s) (.int 1) st) Q↔Q (.int s.2) st:=a5
def XbZ(F:af.Full n p C N)(hN:N<=60):Wp (LI [jw C N] st) λd st'=>∃g kvs,d=.ref g/\st.length<=g/\st'[g]?=some (.qY kvs)/\DN (af.cg C N).2 (af.cg C N).2.length kvs/\Ex [] st st':=by
 have hP:=zdx F (Zad N) hN;refine eI ?_;intro qR;show Ws (Ip [some (jw C N),none,none,none] st) _ _ _ _;unfold Ip;refine aP (bj ?_);exists _,Z,Xdu;refine Z _ _ ?_;clear Z;obtain⟨g,s0,eg,es,hg,kx,lg⟩:∃(g:Nat) (s0:Store),st.length=g/\st ++ [O.qY []]=s0/\s0[g]?=some (.qY [])/\Ex [] st s0/\st.length<=g:=⟨_,_,rfl,rfl,fW,Ex.bZ _,Zad _⟩;rw[eg,es];clear eg es;have eL:(gg ((af.cg C N).2.map wC)).length=(af.cg C N).2.length:=by unfold gg;simp
 refine aP (lU (gg ((af.cg C N).2.map wC)) (λm U s=>∃(v2 v3:Option D) (kvs:List (List Key×D)),U=[some (jw C N),some (.ref g),v2,v3]/\s[g]?=some (.qY kvs)/\DN (af.cg C N).2 m kvs/\Ex [] st s) ?_ ⋯ ?_ ?_);k_lt Z;refine aR (Zb9 F hN) ?_;rintro d s1 ⟨rfl,k1⟩;exact⟨_,rfl,Z _ _ ⟨rfl,_,_,[],rfl,k1.keep _ _ hg (by simp),⟨Zad _,λi b=>rfl⟩,kx.trans k1⟩⟩;rintro m d U s hd ⟨v2,v3,kvs,rfl,hs,hn,kk⟩;have hm:m<(af.cg C N).2.length:=by have:=dc hd;lk
 obtain⟨t,ht⟩:∃t,(af.cg C N).2[m]?=some t:=⟨_,Zac hm⟩;rw[VY (d:=wC t) (by rw[Zag,ht];rfl)]at hd;cases hd;k_lt Z;refine⟨rfl,Z _ _ (ydv ?_)⟩;clear Z;exists JA,CD,V2;refine⟨kvs,O4 hs,xb t.1 t.2.1.1,rfl,rfl,jH (by have:=hn.1;lk),?_⟩;exact⟨_,_,⟨rfl,rfl⟩,_,Zaj (dc hs),hn.put ht,kk.loc lg⟩;rintro U s ⟨v2,v3,kvs,rfl,hs,hn,kk⟩;rw[eL]at hn;refine cV ?_;k_lt Z;exact Z _ _ ⟨g,kvs,rfl,by lk,hs,hn,kk⟩
def OR{J:Type}(x:J):∀m:Nat,(List.replicate m [x]).flatten=List.replicate m x
 |0=>rfl
 |m+1=>by rw[ZaO,ZaO,Zbm,OR x m];rfl
def zb0{st:Store}{w:List bO}(hl:w.length<=1000)(hc:af.cst w<=50000):Wp (Iu [wD w] st) λd st'=>∃g,d=.ref g/\st.length<=g/\st'[g]?=some (.lst ((af.oO w).map aQ))/\Ex [] st st':=by
 refine eI ?_;intro qR;show Ws (Ir [some (wD w),none,none,none] st) _ _ _ _;unfold Ir;refine aP (bj ?_);k_lt Z;refine⟨rfl,Z _ _ ?_⟩;clear Z;obtain⟨g,s0,eg,es,hg,kx,lg⟩:∃(g:Nat) (s0:Store),st.length=g/\st ++ [O.lst []]=s0/\s0[g]?=some (.lst ((af.oO (w.take 0)).map aQ))/\Ex [] st s0/\st.length<=g:=⟨_,_,rfl,rfl,fW,Ex.bZ _,Zad _⟩;rw[eg,es];clear eg es
 let iL:IV:=λi U s=>∃v2 v3:Option D,U=[some (wD w),some (.ref g),v2,v3]/\s[g]?=some (.lst ((af.oO (w.take i)).map aQ))/\Ex [] st s
 refine aP (lU (w.map aQ) iL ?_ (by rw[Zaa];lk) ?_ ?_);k_lt Z;exact⟨_,rfl,Z _ _ ⟨rfl,_,_,rfl,hg,kx⟩⟩;rintro i d U s hd ⟨v2,v3,rfl,hs,kk⟩;rw[Zag]at hd;obtain⟨a,ha,rfl⟩:=Zay.mp hd;have hil:=(Zab.mp ha).1;have et:w.take (i+1)=w.take i ++ [a]:=by rw[Zbe,ha];rfl
 have hcs:af.cst (w.take (i+1))<=50000:=by
  refine Zaq ?_ hc;have:=af.K8 (w.take (i+1)) (w.drop (i+1));rw[List.take_append_drop]at this;lk
 have e0:(af.oO (w.take i)).length+a.2.natAbs<=50000:=by
  have:=af.O0 (w.take (i+1));rw[et,af.UI,Zae,Zbg,<- et]at this;lk
 have ab:(if a.2<0 then -a.2 else a.2)=(a.2.natAbs:Int):=by split<;>lk
 k_lt Z;refine Z _ _ (aP (bj ?_));clear Z;have fin:∀q:D->Store->Prop,q (.int (af.t6 a).2) s->(if decide ((0:Int)<a.2)=true then q (D.int 1) s else q (D.int (-1)) s):=by
  intro q;unfold af.t6;by_cases z:0<a.2<;>simp[z]
 exists _,Z,V3;refine fin _ (Z _ _ (pS ?_));clear Z fin;exists _,Z,V2,V3,TU;refine⟨nW (by rw[bx hs];rfl),?_⟩;rw[ab,Zat];have ef:(List.replicate a.2.natAbs [D.tup [D.str (sQ a.1),D.int (af.t6 a).2]]).flatten=(List.replicate a.2.natAbs (af.t6 a)).map aQ:=by
  rw[List.map_replicate];exact OR _ _
 rw[ef];have hs2:=j4 (m:=[O.lst ((List.replicate a.2.natAbs (af.t6 a)).map aQ)]) (j4 (m:=[O.lst [D.tup [D.str (sQ a.1),D.int (af.t6 a).2]]]) hs);refine⟨rfl,rfl,⟨by lk,by lk⟩,jH (by simp;lk),_,j8 hs2,jH (by rw[Zaa,Zaa,Zbg];lk),Z _ _ ⟨_,_,rfl,?_,((kk.app _).app _).loc lg⟩⟩;rw[Zaj (dc hs2),et,af.UI,Zap];rintro U s ⟨v2,v3,rfl,hs,kk⟩;rw[Zaa,ZaN]at hs;refine cV ?_;k_lt Z;exact Z _ _ ⟨g,rfl,by lk,hs,kk⟩
abbrev rS(C:af.CS)(N:Nat)(l:List bO):Nat×List (Nat×Int):=l.foldl (af.ud C (af.uD (af.cg C N).2 (af.cg C N).2.length) λi=>(af.app (af.inv (af.sT C)) (i:Int)).toNat) (0,[])
def Mj(C:af.CS)(N:Nat)(l:List bO)(s:bO):rS C N (l ++ [s])=af.ud C (af.uD (af.cg C N).2 (af.cg C N).2.length) (λi=>(af.app (af.inv (af.sT C)) (i:Int)).toNat) (rS C N l) s:=by unfold rS;rw[Za5];rfl
abbrev x8(q:Nat×Int):D:=.tup [.int (q.1:Int),.int q.2]
def JB(F:af.Full n p C N)(hi:i<N):af.app (af.sT C) (i:Int)=(af.nG C i true:Int):=by
 have hl:i<C.2.2.length:=by rw[F.ll];exact hi
 have e:=de (d:=((0,0):Nat×Nat)) hl;have h2:=rL (xs:=af.sT C) (i:=(i:Int)) ⋯ (by unfold af.sT;rw[Zaa];lk);have h3:dA ((af.sT C).map D.int) (i:Int)=some (D.int ((C.2.2.getD i (0,0)).1:Int)):=by
  unfold af.sT;rw[ZaF];exact sO (g:=D.int ∘ λl:Nat×Nat=>(l.1:Int)) e
 rw[h3]at h2;injection h2 with h2;injection h2 with h2;exact h2.symm
def PR(F:af.Full n p C N)(hi:i<N):af.app (af.tT C) (i:Int)=(af.nG C i false:Int):=by
 have hl:i<C.2.2.length:=by rw[F.ll];exact hi
 have e:=de (d:=((0,0):Nat×Nat)) hl;have h2:=rL (xs:=af.tT C) (i:=(i:Int)) ⋯ (by unfold af.tT;rw[Zaa];lk);have h3:dA ((af.tT C).map D.int) (i:Int)=some (D.int ((C.2.2.getD i (0,0)).2:Int)):=by
  unfold af.tT;rw[ZaF];exact sO (g:=D.int ∘ λl:Nat×Nat=>(l.2:Int)) e
 rw[h3]at h2;injection h2 with h2;injection h2 with h2;exact h2.symm
def PU(n0:0<n)(F:af.Full n p C N)(hi:i<N):(af.app (af.inv (af.sT C)) (i:Int)).toNat<N/\af.nG C (af.app (af.inv (af.sT C)) (i:Int)).toNat true=i/\0<=af.app (af.inv (af.sT C)) (i:Int):=by
 have ts:=F.K3 n0;have ti:=ts.aB;obtain⟨b0,b1⟩:=ti.app (i:=(i:Int)) ⋯ ⋯;have hb:(af.app (af.inv (af.sT C)) (i:Int)).toNat<N:=by lk
 refine⟨hb,?_,b0⟩;have e:=JB F hb;rw[ZaG b0]at e;have:af.app (af.sT C) (af.app (af.inv (af.sT C)) (i:Int))=(i:Int):=ts.cG ⋯ ⋯;lk
def Xdx{C:af.CS}{nm:af.wb}{bk:Nat->Nat}{x:Nat×List (Nat×Int)}{s:bO}:(af.ud C nm bk x s).2.length<=x.2.length+1:=by unfold af.ud;split;dsimp only;split;rw[Zae];exact Zad _;exact Zb1 _;dsimp only;split;rw[Zae];exact Zad _;exact Zb1 _
def PV(C:af.CS)(N:Nat)(l:List bO):∀i,(rS C N (l.take i)).2.length<=i
 |0=>ZaK _
 |i+1=>by
  have ih:=PV C N l i;cases h:l[i]? with
  |none =>
   have e:l.take (i+1)=l.take i:=by rw[Zbe,h];simp
   rw[e];lk
  |some a =>
   have e:l.take (i+1)=l.take i ++ [a]:=by rw[Zbe,h];rfl
   rw[e,Mj];have:=Xdx (C:=C) (nm:=af.uD (af.cg C N).2 (af.cg C N).2.length) (bk:=λi=>(af.app (af.inv (af.sT C)) (i:Int)).toNat) (x:=rS C N (l.take i)) (s:=a);lk
def V4(n0:0<n)(F:af.Full n p C N)(N0:0<N)(l:List bO):∀i,(rS C N (l.take i)).1<N
 |0=>N0
 |i+1=>by
  have ih:=V4 n0 F N0 l i;cases h:l[i]? with
  |none =>
   have e:l.take (i+1)=l.take i:=by rw[Zbe,h];simp
   rw[e];exact ih
  |some a =>
   have e:l.take (i+1)=l.take i ++ [a]:=by rw[Zbe,h];rfl
   rw[e,Mj];unfold af.ud;split;exact(PU n0 F ih).1;exact af.Gu F ih a.1
def V5(tx:af.Tn n xs)(x0:0<=x)(x1:x<(n:Int))(h:Q (.int (af.app xs x)) st):Wp (ay (.tup (xs.map D.int)) (.int x) st) Q:=by rw[Om];exact⟨_,rL x0 (by rw[tx.length];exact x1),h⟩
structure sd where (C:af.CS)(N:Nat)(dT:D)(l:List bO)(st:Store)(ga gn gp gl:Nat)(kvs:List (List Key×D))
abbrev sd.dl(e:sd)(r:Nat)(v8 v9:Option D):ai:=[some (jw e.C e.N),some e.dT,some (bS (af.sT e.C) (af.tT e.C)),some (.ref e.ga),some (.tup ((af.inv (af.sT e.C)).map D.int)),some (.ref e.gn),some (.ref e.gp),some (.int (r:Int)),v8,v9]
structure x9(e:sd)(x:List (Nat×Int))(s:Store):Prop where
 a:s[e.ga]?=some (.dct [(.inr "s",.tup ((af.sT e.C).map D.int)),(.inr "t",.tup ((af.tT e.C).map D.int))])
 n:s[e.gn]?=some (.qY e.kvs)
 p:s[e.gp]?=some (.lst (x.map x8))
 l:s[e.gl]?=some (.lst (e.l.map aQ))
 k:Ex [] e.st s
abbrev CF(e:sd)(x:Nat×List (Nat×Int))(U:ai)(s:Store):Prop:=∃v8 v9,U=e.dl x.1 v8 v9/\x9 e x.2 s
structure Ml(e:sd):Prop where
 hN:e.N<=60
 nm:DN (af.cg e.C e.N).2 (af.cg e.C e.N).2.length e.kvs
 d1:e.gp≠e.ga
 d2:e.gp≠e.gn
 d3:e.gp≠e.gl
 lp:e.st.length<=e.gp
def x9.put(o:Ml e)(h:x9 e x s):x9 e y (s.set e.gp (.lst (y.map x8))) :=
 ⟨by rw[Zal o.d1];exact h.a,by rw[Zal o.d2];exact h.n,Zaj (dc h.p),by rw[Zal o.d3];exact h.l,h.k.loc o.lp⟩
def zdy{e:sd}{n:Nat}{p:af.aK}{r1:Nat}{x2:Nat×List (Nat×Int)}{a:bO}{s:Store}{B:ai->Store->Prop}{R:D->Store->Prop}(n0:0<n)(F:af.Full n p e.C e.N)(hr1:r1<e.N)(e1:a.2=1->x2.1=af.nG e.C r1 a.1)(wJ:a.2≠1->x2.1=r1)(h:x9 e x2.2 s):
  Ws ((c7 (az (ao (gf false) (ag 9) #[1])) (aA (ao ay (nF (ag 3) (ag 8)) (ag 7)) (hName 7)) aO) (e.dl r1 (some (.str (sQ a.1))) (some (.int a.2))) s) (CF e x2) B (CF e x2) R:=by
 have ts:=F.K3 n0;have tt:=F.tTn n0;unfold sd.dl;refine gu ?_;k_lt Z;refine Z _ _ ⟨λz=>bj ?_,λz=>jv ?_⟩;have z:a.2=1:=by simpa using z
 clear Z;have e1:=e1 z;have fin:Wp (ao ay (nF (ag 3) (ag 8)) (ag 7) (e.dl r1 (some (.str (sQ a.1))) (some (.int a.2))) s) λd s1=>d=.int (x2.1:Int)/\s1=s:=by
  unfold sd.dl;rw[e1];cases hb:a.1 with
  |true =>
   exists KS h.a;refine⟨.inr "s",rfl,_,rfl,V5 ts ⋯ ⋯ ?_⟩;exact⟨by rw[JB F hr1],rfl⟩
  |false =>
   exists KS h.a;refine⟨.inr "t",rfl,_,rfl,V5 tt ⋯ ⋯ ?_⟩;exact⟨by rw[PR F hr1],rfl⟩
 refine aR fin ?_;rintro d s1 ⟨rfl,rfl⟩;exact⟨_,_,rfl,h⟩;have z:a.2≠1:=by simpa using z
 exact⟨_,_,by rw[wJ z];rfl,h⟩
def V6{e:sd}{n:Nat}{p:af.aK}{r1:Nat}{x:List (Nat×Int)}{x2:Nat×List (Nat×Int)}{a:bO}{s:Store}{B:ai->Store->Prop}{R:D->Store->Prop}(n0:0<n)(F:af.Full n p e.C e.N)(o:Ml e)(hr1:r1<e.N)(lx:x.length<=50000)(e2:x2.2=(match af.uD (af.cg e.C e.N).2 (af.cg e.C e.N).2.length r1 a.1 with|some m=>x ++ [(m,a.2)]|none=>x))(e1:a.2=1->x2.1=af.nG e.C r1 a.1)(wJ:a.2≠1->x2.1=r1)(h:x9 e x s):
  Ws ((au (c7 (az (sM (ae (ag 7) (ae (ag 8) ah)) 5)) (bF (iM "list" aL (ag 6) (ae (aS (ae (pH (ag 5) (ae (ag 7) (ae (ag 8) ah))) (ae (ag 9) ah))) ah))) aO)
 (c7 (az (ao (gf false) (ag 9) #[1])) (aA (ao ay (nF (ag 3) (ag 8)) (ag 7)) (hName 7)) aO)) (e.dl r1 (some (.str (sQ a.1))) (some (.int a.2))) s) (CF e x2) B (CF e x2) R:=by
 have hv:=o.nm.2 r1 a.1;have go:∀(s2:Store),x9 e x2.2 s2->Ws ((c7 (az (ao (gf false) (ag 9) #[1])) (aA (ao ay (nF (ag 3) (ag 8)) (ag 7)) (hName 7)) aO) (e.dl r1 (some (.str (sQ a.1))) (some (.int a.2))) s2) (CF e x2) B (CF e x2) R:=λs2 h2=>zdy n0 F hr1 e1 wJ h2;refine aP (gu ?_);refine bD ?_;intro cj Z;have t:Wp (sM (ae (ag 7) (ae (ag 8) ah)) 5 (e.dl r1 (some (.str (sQ a.1))) (some (.int a.2))) s) λd s1=>d=.bl (mP e.kvs (xb r1 a.1)).isSome/\s1=s:=by
  refine B7 ?_;unfold sd.dl;w_how;exact⟨_,O4 h.n,xb r1 a.1,rfl,rfl,rfl⟩
 rw[KL];refine aR t ?_;rintro d s1 ⟨rfl,rfl⟩;refine⟨_,rfl,Z _ _ ?_⟩;clear Z t;cases hm:af.uD (af.cg e.C e.N).2 (af.cg e.C e.N).2.length r1 a.1 with
 |none =>
  rw[hm]at hv e2;rw[hv];refine⟨λz=>(nomatch z),λ_=>jv (go _ ?_)⟩;rw[e2];exact h
 |some m =>
  rw[hm]at hv e2;rw[hv];refine⟨λ_=>pS ?_,λz=>(nomatch z)⟩;have t:Wp (pH (ag 5) (ae (ag 7) (ae (ag 8) ah)) (e.dl r1 (some (.str (sQ a.1))) (some (.int a.2))) s1) λd s2=>d=.int (m:Int)/\s2=s1:=by
   refine zdv ?_;unfold sd.dl;w_how;exact⟨_,O4 h.n,xb r1 a.1,rfl,rfl,_,hv,rfl⟩
  refine bD ?_;intro cj Z;rw[zj];refine Oj.mpr ⟨_,rfl,nW (by rw[bx h.p];rfl),?_⟩;rw[uN,S6,uN];refine aR t ?_;rintro d s2 ⟨rfl,rfl⟩;unfold sd.dl;exists j8 h.p;refine⟨rfl,jH (by rw[Zaa];lk),Z _ _ (go _ ?_)⟩;have:=h.put o (y:=x ++ [(m,a.2)]);rw[Zap]at this;rw[e2];exact this
def CG(n0:0<n)(F:af.Full n p e.C e.N)(o:Ml e)(hl:e.l.length<=50000)(hs:∀s∈e.l,af.Gq s)(hi:Wp (fi (e.dl 0 none none) s0) λS s1=>S=.live e.gl/\x9 e [] s1)
  (fin:∀s v8 v9,x9 e (rS e.C e.N e.l).2 s->Nx (e.dl (rS e.C e.N e.l).1 v8 v9) s) :
  Ws (bY fi (fX 2 (aM (hName 8) (aM (hName 9) gq))) (au (c7 (az (ao (gf false) (ag 9) (rH kX #[1]))) (aA (ao ay (ag 4) (ag 7)) (hName 7)) aO)
 (au (c7 (az (sM (ae (ag 7) (ae (ag 8) ah)) 5)) (bF (iM "list" aL (ag 6) (ae (aS (ae (pH (ag 5) (ae (ag 7) (ae (ag 8) ah))) (ae (ag 9) ah))) ah))) aO)
 (c7 (az (ao (gf false) (ag 9) #[1])) (aA (ao ay (nF (ag 3) (ag 8)) (ag 7)) (hName 7)) aO))) (e.dl 0 none none) s0) Nx B Co R:=by
 have N1:0<e.N:=by have:=F.r.few;rw[F.fl]at this;exact this
 have ti:=(F.K3 n0).aB;refine KN (e.l.map aQ) e.gl (λi U s=>CF e (rS e.C e.N (e.l.take i)) U s) ?_ (by rw[Zaa];lk) ?_ ?_ ?_;refine aR hi ?_;rintro S s1 ⟨rfl,h⟩;exact⟨rfl,_,_,rfl,h⟩;rintro i U s ⟨v8,v9,rfl,h⟩;exact bx h.l;rintro i d U s hd ⟨v8,v9,rfl,h⟩;rw[Zag]at hd;obtain⟨a,ha,rfl⟩:=Zay.mp hd;have hil:=(Zab.mp ha).1;have et:e.l.take (i+1)=e.l.take i ++ [a]:=by rw[Zbe,ha];rfl
 have hr:=V4 n0 F N1 e.l i;have L8:=PV e.C e.N e.l i;have sa:=hs a (Zai ha);rw[et,Mj];generalize rS e.C e.N (e.l.take i)=x at hr L8 h ⊢;have V7:=PU n0 F hr;unfold sd.dl aQ;k_lt Z;refine⟨rfl,Z _ _ (aP (gu ?_))⟩;k_lt2 Z;refine Z _ _ ⟨λz=>bj ?_,λz=>jv ?_⟩;have z:a.2=-1:=by simpa using z
 clear Z;w_how;refine⟨_,rL (i:=(x.1:Int)) ⋯ (by rw[ti.length];lk),?_⟩;rw[<- ZaG V7.2.2];refine V6 (a:=a) (x:=x.2) n0 F o V7.1 ⋯ ?_ ?_ ?_ h;unfold af.ud;rw[if_pos z,z]<;>rfl;intro z1;lk;intro _;unfold af.ud;rw[if_pos z];have z:a.2≠-1:=by simpa using z
 have z1:a.2=1:=by
  rcases sa with h|⟨_,h⟩
  exact h;exact absurd h z
 refine V6 (a:=a) (x:=x.2) n0 F o hr ⋯ ?_ ?_ ?_ h;unfold af.ud;rw[if_neg z,z1]<;>rfl;intro _;unfold af.ud;rw[if_neg z];intro z2;exact absurd z1 z2;rintro U s ⟨v8,v9,rfl,h⟩;rw[Zaa,ZaN]at h ⊢;exact fin s v8 v9 h
def ya(hT:T.le 1000)(hd:T.a*T.d-T.b*T.c=1):Wp (DG [dz T] st) λd st'=>∃w:List bO,d=wD w/\(∀s∈w,af.bQ s)/\w.length<=1000/\af.av w=T/\af.cst w<=50000/\Ex [] st st':=by refine aR (zbZ (M:=1000) (k:=10) ∅ ∅ hT hd) ?_;rintro d s1 ⟨w,rfl,hw,lw,tw,⟨g,u,r,ew,hg,zF,h0,bv⟩,k1⟩;refine⟨w,rfl,λs hs=>(hw s hs).1,by lk,tw,?_,k1⟩;have:=af.YcZ hT hd (λs hs=>(hg s hs).1) (λs hs=>(hg s hs).2) h0 bv;rw[ew,af.K5];have h2:g.length*1001<=20*1001:=ZbI _ zF;lk
def yb0(n0:0<n)(F:af.Full n p (af.ch n p N) N)(hN:N<=60)(hT:T.le 1000)(hd:T.a*T.d-T.b*T.c=1):Wp (DH [jw (af.ch n p N) N,dz T] st) λd st'=>∃w:List bO,(∀s∈w,af.bQ s)/\af.av w=T/\af.cst w<=50000/\d=(if(rS (af.ch n p N) N (af.oO w)).1=0 then .tup ((rS (af.ch n p N) N (af.oO w)).2.map x8)else .non)/\Ex [] st st':=by
 have ts:=F.K3 n0;generalize hC:af.ch n p N=C at F ts;refine eI ?_;intro qR;show Ws (Jd [some (jw C N),some (dz T),none,none,none,none,none,none,none,none] st) _ _ _ _;unfold Jd;refine aP (bj ?_);k_lt Z;refine aR (xbZ F hN) ?_;rintro d s1 ⟨rfl,k1⟩;refine Z _ _ (aP (bj ?_));clear Z;exists _,Z,VZ,ydx;refine⟨fW,_,rfl,(show 2<=15 by decide),?_⟩;rw[ZM];have em:∀x y:D,pC [] ([(Sum.inr "s",x),(Sum.inr "t",y)]:List (Key×D))=([(Sum.inr "s",x),(Sum.inr "t",y)]:List (Key×D)):=λx y=>by
  unfold pC;rfl
 refine Z _ _ (aP (bj ?_));clear Z;rw[em];obtain⟨ga,s2,ea,es,ha,k2,la⟩:∃(ga:Nat) (s2:Store),s1.length=ga/\s1 ++ [O.dct [(Sum.inr "s",D.tup ((af.sT C).map D.int)),(Sum.inr "t",D.tup ((af.tT C).map D.int))]]=s2/\s2[ga]?=some (.dct [(Sum.inr "s",D.tup ((af.sT C).map D.int)),(Sum.inr "t",D.tup ((af.tT C).map D.int))])/\Ex [] st s2/\st.length<=ga:=⟨_,_,rfl,rfl,fW,k1.app _,k1.len⟩;rw[ea,es];clear ea es em;exists _,Z,VZ;refine aR (L7 ts ⋯) ?_;rintro d s3 ⟨rfl,k3⟩;refine Z _ _ (aP (bj ?_));k_lt2 Z;refine aR (XbZ F hN) ?_;rintro d s4 ⟨gn,kvs,rfl,lgn,hn,nm,k4⟩;refine Z _ _ (aP (bj ?_));k_lt2 Z;refine⟨rfl,Z _ _ (aP (bj ?_))⟩;clear Z;have lga:ga<s4.length:=dc (k4.keep _ _ (k3.keep _ _ ha (by simp)) (by simp));have adB:gn<s4.length:=dc hn;obtain⟨gp,s5,ep,es,hp,hn5,Jz,k5,lp,gpl⟩:∃(gp:Nat) (s5:Store),s4.length=gp/\s4 ++ [O.lst []]=s5/\s5[gp]?=some (.lst (([]:List (Nat×Int)).map x8))/\s5[gn]?=some (.qY kvs)/\s5[ga]?=some (.dct [(Sum.inr "s",D.tup ((af.sT C).map D.int)),(Sum.inr "t",D.tup ((af.tT C).map D.int))])/\Ex [] st s5/\st.length<=gp/\gp<s5.length:=⟨_,_,rfl,rfl,fW,j4 hn,j4 (k4.keep _ _ (k3.keep _ _ ha (by simp)) (by simp)),((k2.trans k3).trans k4).app _,((k2.trans k3).trans k4).len,by rw[Zae];exact Zbb _⟩;rw[ep,es];have ng:gp≠ga/\gp≠gn:=by lk
 clear ep es;k_lt Z;refine Z _ _ (aP ?_);clear Z;have hfi:Wp (ju (aJ Iu (ae (aJ DG (ae (ag 1) ah)) ah)) [some (jw C N),some (dz T),some (bS (af.sT C) (af.tT C)),some (.ref ga),some (.tup ((af.inv (af.sT C)).map D.int)),some (.ref gn),some (.ref gp),some (.int 0),none,none] s5) λS s1=>∃(w:List bO) (gl:Nat),S=.live gl/\s1[gl]?=some (.lst ((af.oO w).map aQ))/\s5.length<=gl/\(∀s∈w,af.bQ s)/\af.av w=T/\af.cst w<=50000/\Ex [] s5 s1:=by
  k_lt Z;refine aR (ya hT hd) ?_;rintro d s6 ⟨w,rfl,pw,lw,tw,cw,k6⟩;refine aR (zb0 lw cw) ?_;rintro d s7 ⟨gl,rfl,V8,hl,k7⟩;exact⟨_,rfl,_,bx hl,Z _ _ ⟨w,gl,rfl,hl,Zaq k6.len V8,pw,tw,cw,k6.trans k7⟩⟩
 obtain⟨S,s6,e6,w,gl,rfl,hl,V8,pw,tw,cw,k6⟩:=hfi;have o:Ml ⟨C,N,dz T,af.oO w,st,ga,gn,gp,gl,kvs⟩:=⟨hN,nm,ng.1,ng.2,by show gp≠gl;lk,lp⟩;refine CG (e:=⟨C,N,dz T,af.oO w,st,ga,gn,gp,gl,kvs⟩) n0 F o (by show(af.oO w).length<=50000;rw[af.O0];exact cw) (af.UJ pw) ⟨_,s6,e6,rfl,k6.keep _ _ Jz (by simp),k6.keep _ _ hn5 (by simp),k6.keep _ _ hp (by simp),hl,k5.trans k6⟩ ?_;intro s v8 v9 hs;refine cV ?_;unfold sd.dl;k_lt Z;by_cases z:(rS C N (af.oO w)).1=0;rw[if_pos (by rw[z];rfl)];refine⟨_,bx hs.p,Z _ _ ⟨w,pw,tw,cw,?_,hs.k⟩⟩;rw[if_pos z];rw[if_neg (by simp;lk)];refine Z _ _ ⟨w,pw,tw,cw,?_,hs.k⟩;rw[if_neg z]
def zby:Wp (LX [dz T] st) λd st'=>d=dz T.og/\Ex [] st st':=by refine eI ?_;intro qR;show Ws (Jf [some (dz T)] st) _ _ _ _;unfold Jf dz;refine cV ?_;k_lt Z;refine⟨_,rfl,_,rfl,Ta.mpr ⟨rfl,Z _ _ ⟨?_,Ex.refl⟩⟩⟩;show D.tup [D.int T.d,D.int (0-T.b),D.int (0-T.c),D.int T.a]=D.tup [D.int T.d,D.int (-T.b),D.int (-T.c),D.int T.a];rw[Int.zero_sub,Int.zero_sub]
def mk_le(n0:0<n)(w:af.Wh n p)(F:af.Full n p C N)(hC:C=af.ch n p N)(pr:∀j,j<N->j<(af.ch n p j).1.length)(hN:N<=60)(ht:t∈(af.cg C N).2):(af.uC C t).le (P2 240):=by
 obtain⟨h1,h2,h3⟩:=(af.Dr F N (Zad _)).1 t ht;have hp:=af.zv F ht;have cw:∀k,k<N->af.cst (C.2.1.getD k [])<=59:=λk hk=>by
  have hl:k<C.2.1.length:=by rw[F.r.wl,F.fl];exact hk
  have e:=de (d:=([]:List bO)) hl;have:=af.Uz n0 w N pr k (C.2.1.getD k []) (by rw[<- hC];exact e);lk
 have hb:∀{v:List bO},(∀s∈v,af.bQ s)->af.cst (af.dJ v)<=3*af.cst v:=λ{v} hv=>af.B6 hv;have c1:=cw t.1 h1;have c2:=cw t.2.2 h3;have c3:=hb (af.Gs F h3);have c4:af.cst (af.uQ C t)<=240:=by
  unfold af.uQ;rw[af.K8,af.K8,af.uB];have e1:t.2.1.2.natAbs=1:=by rcases h2 with e|e<;>rw[e]<;>rfl
  have c3:af.cst (af.dJ (C.2.1.getD t.2.2 []))<=3*af.cst (C.2.1.getD t.2.2 []):=c3;have e0:af.cst ([]:List bO)=0:=rfl;lk
 exact x4 (af.UD hp) (wM c4)
def zI{C:af.CS}{P:List af.jR}{q:Nat×Int}{M:Nat}(hb:∀t∈P,(af.uC C t).le M)(hq:q.1<P.length):(af.vZ C P q).le M:=by
 have ht:P.getD q.1 (0,(true,1),0)∈P:=by
  rw[Zaf,Zac hq];exact ZbO hq
 unfold af.vZ;split;obtain⟨a,b,c,d⟩:=hb _ ht;exact⟨d,by show(-_:Int).natAbs<=_;rw[Zbz];exact b,by show(-_:Int).natAbs<=_;rw[Zbz];exact c,a⟩;exact hb _ ht
def zJ{C:af.CS}{P:List af.jR}{l:List (Nat×Int)}(hb:∀t∈P,(af.uC C t).le (P2 240))(hl:∀q∈l,q.1<P.length):∀i,(af.uc C P (l.take i)).le (P2 (242*i))
 |0=>⟨Zad _,ZaK _,ZaK _,Zad _⟩
 |i+1=>by
  have ih:=zJ hb hl i;cases h:l[i]? with
  |none =>
   have e:l.take (i+1)=l.take i:=by rw[Zbe,h];simp
   rw[e];exact x4 ih (wM ⋯)
  |some q =>
   have e:l.take (i+1)=l.take i ++ [q]:=by rw[Zbe,h];rfl
   rw[e,af.Gr];have hq:=hl q (Zai h);have h1:=zI hb hq;have:=af.UA h1 ih;rw[Ny,<- vG]at this;exact x4 this (wM ⋯)
def V9{n N:Nat}{p:af.aK}(n0:0<n)(w:af.Wh n p)(F:af.Full n p (af.ch n p N) N)(pr:∀j,j<N->j<(af.ch n p j).1.length){l:List bO}(hs:∀s∈l,af.Gq s):∀i,(rS (af.ch n p N) N (l.take i)).1<N/\(∀q∈(rS (af.ch n p N) N (l.take i)).2,q.1<(af.cg (af.ch n p N) N).2.length/\(q.2=1\/q.2=-1))/\(af.p6 (af.ch n p N) (rS (af.ch n p N) N (l.take i)).1).mul (af.uc (af.ch n p N) (af.cg (af.ch n p N) N).2 (rS (af.ch n p N) N (l.take i)).2)=af.av (l.take i)
 |0=>by
  have N1:0<N:=by have:=F.r.few;rw[F.fl]at this;exact this
  refine⟨N1,(λq hq=>nomatch hq),?_⟩;show(af.p6 (af.ch n p N) 0).mul af.T4.one=af.T4.one;rw[af.UO];rfl
 |i+1=>by
  obtain⟨h1,h2,h3⟩:=V9 n0 w F pr hs i;cases h:l[i]? with
  |none =>
   have e:l.take (i+1)=l.take i:=by rw[Zbe,h];simp
   rw[e];exact⟨h1,h2,h3⟩
  |some a =>
   have e:l.take (i+1)=l.take i ++ [a]:=by rw[Zbe,h];rfl
   rw[e,Mj];exact af.B3 n0 w F pr (af.B4 _ _) (λi hi=>let b:=PU n0 F hi;⟨b.1,b.2.1⟩) h1 (hs a (Zai h)) h2 h3
def JC{p q:af.aK}:[p.1,p.2]=[q.1,q.2]↔p=q:=⟨λz=>by injection z with z1 z2;injection z2 with z2 _;exact Prod.ext z1 z2,λz=>by rw[z]⟩
def Wa{st:Store}{Q:D->Store->Prop}{neg:Bool}{p q:af.aK}:Wp (jP neg (bz p) (bz q) st) Q↔Q (.bl (if neg then !decide (p=q)else decide (p=q))) st:=by show Wp (jP neg (bS p.1 p.2) (bS q.1 q.2) st) Q↔_;rw[Z7,decide_eq_decide.mpr (JC (p:=p) (q:=q))]
abbrev JD:D×D->D
 |(_,.int k)=>.int (k.natAbs:Int)
 |_=>.non
def Zb0(hf:a6 st f)(w0:af.Wh n p)(n0:0<n)(hn:n<=20)(F:af.Full n p C N)(hN:N<=60)(hw:∀s∈w,qk 900 s)(hl:w.length<=100):Wp (Ha [.ref f,bz p,jw C N,wD w] st) λd st'=>∃w':List bO,d=wD w'/\(∀s∈w',qk 900 s)/\w'.length<=200/\a6 st' f/\Ex [f] st st':=by
 refine eI ?_;intro qR;show Ws (G9 [some (.ref f),some (bz p),some (jw C N),some (wD w),none,none] st) _ _ _ _;unfold G9;refine aP (gu ?_);k_lt Z;refine aR (rQ (n:=2) hf ∅ ∅) ?_;rintro d t1 ⟨k1,rfl,k10,k11,f1,e1⟩;w_how;refine Z _ _ ⟨λz=>aP (bj ?_),λz=>jv (cV ?_)⟩;k_lt2 Z;have ow:∀s∈w,Js s:=λs hs=>(hw s hs).1;refine aR (Vq (p:=p) (w:=w) ⟨w0.v.1,w0.v.2⟩ ⋯ ow ⋯) ?_;rintro d t2 ⟨rfl,yE⟩;rw[VG];have wl:=w0.ld n0 (w:=w);refine aR (Mg (xs:=(af.eo p w).1) (ys:=(af.eo p w).2) (DL wl) n0 hn) ?_;rintro d t3 ⟨rfl,e3⟩;refine Z _ _ (aP (bj ?_));k_lt2 Z;have eG:bS (af.aY n ((af.eo p w).1,(af.eo p w).2)).1 (af.aY n ((af.eo p w).1,(af.eo p w).2)).2=bz (af.aY n (af.eo p w)):=rfl;have hG:=F.word n0 w0 w;generalize hGG:af.aY n (af.eo p w)=G at hG;rw[hGG]at eG;obtain⟨k0,hk0⟩:=Zbc hG;have hkN:k0<N:=by rw[<- F.fl];exact(Zab.mp hk0).1
 have hkG:C.1.getD k0 ([],[])=G:=by rw[Zaf,hk0];rfl
 refine Dn ((List.range N).map λk=>p8 (C.1.getD k ([],[])) (C.2.1.getD k []) (C.2.2.getD k (0,0))) (λi ys U' s=>(∃v,U'=[v,some (bz G)])/\ys.length<=i/\(∀y∈ys,∃k,k<N/\y=wD (C.2.1.getD k []))/\(k0<i->ys≠[])/\Ex [] t3 s) ?_ (by rw[Zaa,Zbn];lk) (λi ys U s h=>h.2.1) ?_ ?_;k_lt b9;exact⟨_,rfl,b9 _ _ ⟨λi ys U s hi _=>if_pos hi,⟨_,rfl⟩,Zad _,(λy hy=>nomatch hy),(λz=>absurd z (ZaV _)),Ex.refl⟩⟩;rintro k d ys U s hd ⟨⟨v,rfl⟩,yl,yk,yn,ks⟩;have hk:=dc hd;rw[Zaa,Zbn]at hk;rw[Zag,ZaR hk]at hd;cases hd;k_lt b9;refine b9 _ _ ?_;clear b9;unfold p8;k_lt b9;rw[Wa];refine⟨_,rfl,b9 _ _ ⟨λz=>?_,λz=>⟨⟨_,rfl⟩,by lk,yk,λz2=>?_,ks⟩⟩⟩;k_lt2 b9;refine b9 _ _ ⟨⟨_,rfl⟩,by rw[Zae];show _+1<=_;lk,λy hy=>?_,λ_ e=>by simp at e,ks⟩;rcases Zax.mp hy with h|h
 exact yk y h;exact⟨k,hk,Zar.mp h⟩;refine yn (Nat.lt_of_le_of_ne ⋯ λe=>?_);subst e;rw[hkG]at z;simp at z;rintro ys U s5 ⟨-,yl,yk,yn,k5⟩;rw[Zaa,Zbn]at yl yn;obtain⟨d0,rest,rfl⟩:∃d0 rest,ys=d0 :: rest:=by
  cases ys with
  |nil=>exact absurd rfl (yn hkN)
  |cons a l=>exact⟨a,l,rfl⟩
 obtain⟨i,hi,rfl⟩:=yk d0 Zah;have hwl:=F.r.wl;have hfl:=F.fl;have ew:=de (d:=([]:List bO)) (show i<C.2.1.length by lk);obtain⟨pw,lw,nw,-⟩:=F.r.wd i _ ew;generalize C.2.1.getD i []=u at ew pw lw nw;have ou:∀s∈u,qk 900 s:=λs hs=>by
  have pr:=af.Pl.pr pw s (ZaM.mpr hs);have:=nw s hs;exact⟨pr.1,by lk,pr.2⟩
 refine Tb.mpr ⟨_,wD u,tW,Br _ _,?_⟩;unfold wD;refine aR (VI (w:=u) ⋯) ?_;rintro d s6 ⟨rfl,k6⟩;w_how;rw[<- Zap];have bl:=VE u;have k36:Ex [] t3 s6:=(k5.app _).trans k6;have hv:=Ydw hw (Zdw ∅ ou);have lv:(w ++ af.dJ u).length<=200:=by rw[Zae];lk
 generalize w ++ af.dJ u=v at hv lv ⊢;refine⟨jH (by rw[Zaa,Zaa];lk),Z _ _ (gu ?_)⟩;clear Z;refine bD ?_;intro cj Z;rw[KL,KI,Dk,uN];have em:v.map aQ=(v.map λs=>((D.str (sQ s.1),D.int s.2):D×D)).map λp=>.tup [p.1,p.2]:=by rw[ZaF];rfl
 refine xcI (v.map λs=>((D.str (sQ s.1),D.int s.2):D×D)) JD ?_ (by rw[Zaa];lk) ?_ ?_;k_lt hP;exact hP _ _ ⟨by rw[<- em];exact sI _ _,Ex.refl⟩;intro q hq s7 k7;obtain⟨s,hs,rfl⟩:=Zaw.mp hq;k_lt hP;refine hP _ _ ⟨?_,Ex.refl⟩;show D.int _=D.int _
 congr 1
 split<;>lk;intro s7 k7;have e2:((v.map λs=>((D.str (sQ s.1),D.int s.2):D×D)).map JD)=(v.map λs=>(s.2.natAbs:Int)).map D.int:=by
  rw[ZaF,ZaF];rfl
 rw[e2,KJ,BR tW];w_how;have Wb:Ex [] t3 (s7 ++ [O.lst ((v.map λs=>(s.2.natAbs:Int)).map D.int)]):=k36.trans (k7.app _);have fin:∀u':List bO,(∀s∈u',qk 900 s)->u'.length<=200->∃w':List bO,D.tup (u'.map aQ)=wD w'/\(∀s∈w',qk 900 s)/\w'.length<=200/\a6 (s7 ++ [O.lst ((v.map λs=>(s.2.natAbs:Int)).map D.int)]) f/\Ex [f] st (s7 ++ [O.lst ((v.map λs=>(s.2.natAbs:Int)).map D.int)]):=λu' h1 h2=>⟨u',rfl,h1,h2,f1.keep ((yE.trans e3).trans Wb),e1.trans ((yE.trans e3).trans Wb).any⟩;refine Z _ _ ⟨λ_=>bj ?_,λ_=>jv (cV ?_)⟩;k_lt2 Z;refine Z _ _ (cV ?_);k_lt2 Z;exact Z _ _ (fin _ hv lv);k_lt2 Z;exact Z _ _ (fin w hw ⋯);k_lt2 Z;exact Z _ _ ⟨w,rfl,hw,by lk,f1,e1⟩
def ZcP{st:Store}{C:af.CS}{P:List af.jR}{l:List (Nat×Int)}{T:af.T4}(hb:∀t∈P,(af.uC C t).le (P2 240))(hl:∀q∈l,q.1<P.length/\(q.2=1\/q.2=-1))(hn:l.length<=50000)(hT:af.uc C P l=T):Wp (DI [.tup (P.map (wB C)),dz T,.tup (l.map x8)] st) λd st'=>d=.bl true/\Ex [] st st':=by
 have Wc:∀(ds:List D) (s':Store) (Q:D->Store->Prop),Wp (p5 [.tup ds,.ty "tuple"] s') Q↔Q (.bl true) s':=λds s' Q=>T2 (T:="tuple") (cs:=["tuple"]) rfl rfl ∅;have isB:∀(k:Int) (s':Store) (Q:D->Store->Prop),Wp (p5 [.int k,.ty "bool"] s') Q↔Q (.bl false) s':=λds s' Q=>T2 (T:="int") (cs:=["bool"]) rfl rfl ∅;refine eI ?_;intro qR;show Ws (Jh [some (.tup (P.map (wB C))),some (dz T),some (.tup (l.map x8)),none,none] st) _ _ _ _;unfold Jh;refine aP (gu ?_);exists _,Z,Wc;refine Z _ _ ⟨λz=>by simp at z,λ_=>jv (aP (bj ?_))⟩;k_lt2 Z;refine⟨rfl,Z _ _ ?_⟩;clear Z
 let iL:IV:=λi U s=>∃v4:Option D,U=[some (.tup (P.map (wB C))),some (dz T),some (.tup (l.map x8)),some (dz (af.uc C P (l.take i))),v4]/\Ex [] st s
 refine aP (lU (l.map x8) iL ?_ (by rw[Zaa];lk) ?_ ?_);k_lt Z;exact Z _ _ ⟨rfl,_,rfl,Ex.refl⟩;rintro i d U s hd ⟨v4,rfl,kk⟩;rw[Zag]at hd;obtain⟨q,hq,rfl⟩:=Zay.mp hd;have hil:=(Zab.mp hq).1;have et:l.take (i+1)=l.take i ++ [q]:=by rw[Zbe,hq];rfl
 have cl1:=zJ hb (λq hq=>(hl q hq).1) (l:=l) i;obtain⟨q1,q2⟩:=hl q (Zai hq);have eP:P[q.1]?=some (P.getD q.1 (0,(true,1),0)):=de q1;have zo:dA (P.map (wB C)) (q.1:Int)=some (dz (af.uC C (P.getD q.1 (0,(true,1),0)))):=sO eP;unfold x8;k_lt Z;refine Z _ _ (aP (gu ?_));clear Z;exists _,Z,Wc;rw[if_neg (by simp)];refine uP [.int (q.1:Int),.int q.2] (λ_=>.bl false) ?_ (by simp) ?_ ?_;k_lt hP;exact hP _ _ ⟨sI _ _,Ex.refl⟩;intro d hd s1 k1;obtain⟨k,rfl⟩:∃k:Int,d=.int k:=by
  simp only[ZaE,ZbR,or_false]at hd;rcases hd with rfl|rfl<;>exact⟨_,rfl⟩
 exists _,hP,isB;exact hP _ _ ⟨rfl,Ex.refl⟩;intro s1 k1;have hit:cH (s1 ++ [O.lst ([D.int (q.1:Int),D.int q.2].map λ_=>D.bl false)]) (.ref s1.length)=some [.bl false,.bl false]:=tW;refine zm.mpr ⟨.bl true,[.bl false,.bl false],[.bl false,.bl false],rfl,hit,rfl,?_⟩;refine⟨_,rfl,Z _ _ ⟨λz=>(by cases z),λ_=>jv (aP (gu ?_))⟩⟩;clear Z hit;have k2:Ex [] st (s1 ++ [O.lst ([D.int (q.1:Int),D.int q.2].map λ_=>D.bl false)]):=kk.trans (k1.app _);generalize s1 ++ [O.lst ([D.int (q.1:Int),D.int q.2].map λ_=>D.bl false)]=s2 at k2 ⊢;k_lt Z;rw[Zaa];rw[B8 fW];rw[if_pos rfl,decide_eq_true (show(0:Int)<=(q.1:Int)/\(q.1:Int)<(P.length:Int) by lk)];refine⟨_,rfl,?_⟩;rw[if_neg ∅];refine⟨rfl,?_⟩;rw[F9 (ns:=[1,-1]) rfl,if_pos rfl];have hc:([1,-1]:List Int).contains q.2=true:=by rcases q2 with e|e<;>rw[e]<;>rfl
 rw[hc];refine⟨_,rfl,Z _ _ ⟨λz=>(by cases z),λ_=>jv (bj ?_)⟩⟩;clear Z;have k3:=k2.app [O.j5 0 (P.length:Int)];generalize s2 ++ [O.j5 0 (P.length:Int)]=s3 at k3 ⊢;exists _,Z,zo;refine aR (zby) ?_;rintro d s4 ⟨rfl,k4⟩;have ex:dA [dz (af.uC C (P.getD q.1 (0,(true,1),0))),dz (af.uC C (P.getD q.1 (0,(true,1),0))).og] (if decide (q.2<0)=true then 1 else 0)=some (dz (af.vZ C P q)):=by
  unfold af.vZ;by_cases z:q.2<0;rw[if_pos (decide_eq_true z),if_pos z];rfl;rw[if_neg (by simpa using z),if_neg z];rfl
 have h1:=zI hb q1;refine⟨rfl,_,ex,?_⟩;refine aR (Pw (Pq (k:=242*i+240+1) (M:=P2 (242*i+240)) ⋯ (by have:=AE (242*i+240);have:=vG (242*i+240);lk) (x4 h1 (wM ⋯)) (x4 cl1 (wM ⋯)))) ?_;rintro d s5 ⟨rfl,k5⟩;rw[<- af.Gr,<- et];exact Z _ _ ⟨_,rfl,(k3.trans (k4.trans (Ex.bZ _))).trans k5⟩;rintro U s ⟨v4,rfl,kk⟩;rw[Zaa,ZaN,hT];refine cV ?_;k_lt Z;have pu:pU 1 (dz T):=OL 0 [T.a,T.b,T.c,T.d];refine(BO (n:=1) pu pu ∅).mpr ?_;rw[if_neg ∅,@decide_eq_true _ (_) (rfl:dz T=dz T)];exact Z _ _ ⟨rfl,kk⟩
structure uI(n:Nat)(p:af.aK)(N:Nat):Prop where
 w:af.Wh n p
 n0:0<n
 n6:n<=6
 F:af.Full n p (af.ch n p N) N
 pr:∀j,j<N->j<(af.ch n p j).1.length
 hN:N<=60
abbrev yb(n:Nat)(p:af.aK)(N:Nat):D:=.tup ((af.cg (af.ch n p N) N).2.map (wB (af.ch n p N)))
abbrev p9(e:Nat×af.aK×Nat):D:=.tup [bz e.2.1,jw (af.ch e.1 e.2.1 e.2.2) e.2.2,jw (af.ch e.1 e.2.1 e.2.2) e.2.2,yb e.1 e.2.1 e.2.2]
abbrev JE:D->D
 |.int k=>.int (k.natAbs:Int)
 |_=>.non
abbrev CH:ai->Dm Fl:=(au (aA (ao (jP false) (aJ wu (ae (aJ Ce (ae (ag 5) (ae (ag 9) ah))) ah)) (ao ay (ao ay (ag 6) #[0]) #[0])) (hName 13))
 (c7 (az (ao FF (aJ pD (ae (bU (bT (ag 10)) 1 [] (hName 0) b8 (aJ uy (ae (ag 0) ah))) ah)) #[1000])) (au (aA (aJ DH (ae (ag 11) (ae (ag 10) ah))) (hName 14))
 (c7 (yW (pZ (pY (az (ag 13))) (az (ao (sJ true) (ag 14) (fC .non)))) (pZ (az (ag 13)) (pY (az (aJ DI (ae (ag 12) (ae (ag 10) (ae (ag 14) ah)))))))) (aV (fC (.bl false))) aO)) aO))
def CI(o:uI n p N)(hw:∀s∈w,qk 900 s)(hl:w.length<=200)
  (fin:∀qP qQ s',Ex [] s s'->Nx [v0,v1,v2,v3,v4,some (bz p),some (jw (af.ch n p N) N),v7,v8,some (wD w),some (dz (af.av w)),some (jw (af.ch n p N) N),some (yb n p N),qP,qQ] s') :
  Ws (CH
   [v0,v1,v2,v3,v4,some (bz p),some (jw (af.ch n p N) N),v7,v8,some (wD w),some (dz (af.av w)),some (jw (af.ch n p N) N),some (yb n p N),qP,qQ] s) Nx B Co R:=by
 obtain⟨w0,n0,n6,F,pr,hN⟩:=o;have N1:0<N:=by have:=F.r.few;rw[F.fl]at this;exact this
 have hu:∀s∈w,af.bQ s:=λs hs=>VF (hw s hs);have hd:=af.yR hu;generalize hTT:af.av w=T at fin hd ⊢;have e0:(af.ch n p N).1.getD 0 ([],[])=af.aY n p:=by rw[Zaf,F.r.hd];rfl
 have PX:∀{st:Store} {Q:D->Store->Prop},Q (bz (af.aY n p)) st->Wp (ay (jw (af.ch n p N) N) (.int 0) st) λa st1=>Wp (ay a (.int 0) st1) Q:=λ{st Q} q=>by
  have:=(VS (st:=st) (C:=af.ch n p N) (N:=N) (g:=0) N1 (Q:=λa st1=>Wp (ay a (.int 0) st1) Q)).mpr ?_
  exact this;rw[e0];exact a5.mpr q
 unfold CH;refine aP (bj ?_);k_lt Z;unfold wD;refine aR (Vq (p:=p) (w:=w) ⟨w0.v.1,w0.v.2⟩ ⋯ (λs hs=>(hw s hs).1) ⋯) ?_;rintro d s1 ⟨rfl,k1⟩;rw[VG];have wv:=w0.ld n0 (w:=w);show Wp (wu [bS (af.eo p w).1 (af.eo p w).2] s1) _;refine aR (Mg (DL wv) n0 ⋯) ?_;rintro d s2 ⟨rfl,k2⟩;refine PX ?_;show Wp (jP false (bz (af.aY n (af.eo p w))) (bz (af.aY n p)) s2) _;rw[Wa];have uH:=k1.trans k2;refine Z _ _ (gu ?_);clear Z;rw[if_neg ∅];obtain⟨b,hb⟩:∃b,decide (af.aY n (af.eo p w)=af.aY n p)=b:=⟨_,rfl⟩;rw[hb];refine bD ?_;intro cj Z;rw[KL,KI,Dk,uN];refine uP [.int T.a,.int T.b,.int T.c,.int T.d] JE ?_ (by simp) ?_ ?_;rw[Tx,Oj];exact⟨_,rfl,_,rfl,sI _ _,Ex.refl⟩;intro d hd s1 k1;obtain⟨k,rfl⟩:∃k:Int,d=.int k:=by
  simp only[ZaE,ZbR,or_false]at hd;rcases hd with rfl|rfl|rfl|rfl<;>exact⟨_,rfl⟩
 exists _,hP,TU;refine hP _ _ ⟨?_,Ex.refl⟩;show D.int _=D.int _
 congr 1
 split<;>lk;intro s3 k3;have em:List.map JE [D.int T.a,D.int T.b,D.int T.c,D.int T.d]=[(T.a.natAbs:Int),(T.b.natAbs:Int),(T.c.natAbs:Int),(T.d.natAbs:Int)].map D.int:=rfl;rw[em];have hi1:items (s3 ++ [O.lst ([(T.a.natAbs:Int),(T.b.natAbs:Int),(T.c.natAbs:Int),(T.d.natAbs:Int)].map D.int)]) s3.length=some ([(T.a.natAbs:Int),(T.b.natAbs:Int),(T.c.natAbs:Int),(T.d.natAbs:Int)].map D.int):=tW;have k4:Ex [] s (s3 ++ [O.lst ([(T.a.natAbs:Int),(T.b.natAbs:Int),(T.c.natAbs:Int),(T.d.natAbs:Int)].map D.int)]):=uH.trans (k3.app _);generalize s3 ++ [O.lst ([(T.a.natAbs:Int),(T.b.natAbs:Int),(T.c.natAbs:Int),(T.d.natAbs:Int)].map D.int)]=s4 at hi1 k4 ⊢;obtain⟨m,hm,JF,wm⟩:=zdt hi1 (by simp);rw[KJ,wm];w_how;refine Z _ _ ⟨λz=>aP (bj ?_),λ_=>jv (fin _ _ _ k4)⟩;have z:m<=1000:=by simpa using z
 have hT:T.le 1000:=⟨by have:=JF (T.a.natAbs:Int) (by simp);lk,by have:=JF (T.b.natAbs:Int) (by simp);lk,by have:=JF (T.c.natAbs:Int) (by simp);lk,by have:=JF (T.d.natAbs:Int) (by simp);lk⟩;clear Z hm JF wm;k_lt Z;refine aR (yb0 n0 F hN hT hd) ?_;rintro d s5 ⟨u,pu,tu,cu,rfl,k5⟩;refine Z _ _ (gu ?_);clear Z;have hs:=af.UJ pu;obtain⟨h1,h2,h3⟩:=V9 n0 w0 F pr hs (af.oO u).length;rw[ZaN]at h1 h2 h3;rw[af.xdt pu,tu,<- hTT]at h3;have hr:=af.ZcZ n0 w0 F h1 (λq hq=>(h2 q hq).1) hu h3;cases b with
 |false =>
  rw[if_neg (λe=>of_decide_eq_false hb (hr.mp e))];exists _,Z,TR;exact Z _ _ ⟨λz=>by simp at z,λ_=>jv (fin _ _ _ (k4.trans k5))⟩
 |true =>
  have r0:=hr.mpr (of_decide_eq_true hb);rw[if_pos r0];have rl:=PV (af.ch n p N) N (af.oO u) (af.oO u).length;rw[ZaN,af.O0]at rl;have mb:∀t∈(af.cg (af.ch n p N) N).2,(af.uC (af.ch n p N) t).le (P2 240):=λt ht=>mk_le n0 w0 F rfl pr hN ht;rw[r0,af.UO,af.T4.one_mul,hTT]at h3;k_lt Z;unfold yb;refine aR (ZcP mb h2 ⋯ h3) ?_;rintro d s6 ⟨rfl,k6⟩;exact⟨_,rfl,Z _ _ ⟨λz=>by simp at z,λ_=>jv (fin _ _ _ ((k4.trans k5).trans k6))⟩⟩
def Wd{s:Store}{ns:List Int}{g:Nat}{ea eb:Nat×af.aK×Nat}{w:List bO}{v1 v3 v4 v5 v6 v7 v8 v10 v11 uh qP qQ:Option D}{Nx B Co:ai->Store->Prop}{R:D->Store->Prop}(oa:uI ea.1 ea.2.1 ea.2.2)(ob:uI eb.1 eb.2.1 eb.2.2)(hw:∀s∈w,qk 900 s)(hl:w.length<=200)(h0:s[0]?=some (.qd (ns.map D.int)))(hg:s[g]?=some (.lst [p9 ea,p9 eb]))
  (fin:∀(v5 v6 v10 v11 uh qP qQ:Option D) (s':Store),s'[0]?=some (.qd (ns.map D.int))->s'[g]?=some (.lst [p9 ea,p9 eb])->Nx [some (.ref 0),v1,some (.ref g),v3,v4,v5,v6,v7,v8,some (wD w),v10,v11,uh,qP,qQ] s') :
  Ws ((au (aA (aJ zz (ae (ag 9) ah)) (hName 10))
 (bY (ju (bL (ae (ao bw (ag 2) #[0]) (ae (ao bw (ag 2) #[1]) (ae (ao bw (ag 2) #[0]) ah))))) (fX 4 (aM (hName 5) (aM (hName 6) (aM (hName 11) (aM (hName 12) gq))))) CH)) [some (.ref 0),v1,some (.ref g),v3,v4,v5,v6,v7,v8,some (wD w),v10,v11,uh,qP,qQ] s) Nx B Co R:=by
 refine aP (bj ?_);k_lt Z;unfold wD;refine aR (Vu (w:=w) (λs hs=>⟨VF (hw s hs),by have:=(hw s hs).2.1;lk⟩) ⋯) ?_;rintro d s1 ⟨rfl,k1⟩;have h01:=k1.keep _ _ h0 (by simp);have JG:=k1.keep _ _ hg (by simp);refine Z _ _ ?_;clear Z;refine KN [p9 ea,p9 eb,p9 ea] s1.length (λi U s'=>∃(v5 v6 v11 uh qP qQ:Option D),U=[some (.ref 0),v1,some (.ref g),v3,v4,v5,v6,v7,v8,some (wD w),some (dz (af.av w)),v11,uh,qP,qQ]/\s'[0]?=some (.qd (ns.map D.int))/\s'[g]?=some (.lst [p9 ea,p9 eb])/\s'[s1.length]?=some (.lst [p9 ea,p9 eb,p9 ea])) ?_ (show 3<100000 by decide) ?_ ?_ ?_;exists _,Z,bx JG;exact⟨rfl,Z _ _ ⟨rfl,_,_,_,_,_,_,rfl,j4 h01,j4 JG,fW⟩⟩;rintro i U s' ⟨v5,v6,v11,uh,qP,qQ,rfl,h0,hg,h⟩;exact bx h;rintro i d U s' hd ⟨v5,v6,v11,uh,qP,qQ,rfl,h0',hg',hr⟩;obtain⟨e,oe,rfl⟩:∃e:Nat×af.aK×Nat,uI e.1 e.2.1 e.2.2/\d=p9 e:=by
  have:=Zai hd;simp only[ZaE,ZbR,or_false]at this;rcases this with h|h|h
  exact⟨ea,oa,h⟩;exact⟨eb,ob,h⟩;exact⟨ea,oa,h⟩
 obtain⟨n,p,N⟩:=e;unfold p9;k_lt Z;refine⟨rfl,Z _ _ ?_⟩;clear Z;exact CI oe hw hl λqP qQ s2 k2=>⟨_,_,_,_,_,_,rfl,k2.keep _ _ h0' (by simp),k2.keep _ _ hg' (by simp),k2.keep _ _ hr (by simp)⟩;rintro U s' ⟨v5,v6,v11,uh,qP,qQ,rfl,h0',hg',hr⟩;exact fin _ _ _ _ _ _ _ _ h0' hg'
def wG(ns:List Int)(hns:ns.length<=63):Wp (Pd [.ref 0] [.qd (ns.map D.int)]) λd _=>d=.bl true:=by
 refine eI ?_;intro qR;show Ws (LZ [some (.ref 0),none,none,none,none,none,none,none,none,none,none,none,none,none,none] [.qd (ns.map D.int)]) _ _ _ _;unfold LZ;have JH:([O.qd (ns.map D.int)]:Store)[0]?=some (.qd (ns.map D.int)):=rfl;generalize ([O.qd (ns.map D.int)]:Store)=mK at JH;refine aP (bj ?_);k_lt Z;show Wp (zx [.ref 0,.int ((1:Nat):Int)] mK) _;refine aR (U3 (a:=0) (ns:=ns) (k:=1) (Ot JH) ⋯) ?_;rintro d s1 ⟨rfl,f1,k1⟩;have h01:=k1.keep _ _ JH (by simp);have EV:0<mK.length:=dc JH;generalize mK.length=f at f1 EV;refine Z _ _ (aP (bj ?_));k_lt2 Z;refine⟨rfl,Z _ _ ?_⟩;clear Z;obtain⟨g,s0,eg,es,hg,h02,f2,g0⟩:∃(g:Nat) (s0:Store),s1.length=g/\s1 ++ [O.lst []]=s0/\s0[g]?=some (.lst (([]:List (Nat×af.aK×Nat)).map p9))/\s0[0]?=some (.qd (ns.map D.int))/\a6 s0 f/\f<g:=⟨_,_,rfl,rfl,fW,j4 h01,f1.keep (Ex.bZ _),f1.lt⟩;rw[eg,es];clear eg es JH h01 f1 k1;obtain⟨m,hm,adN⟩:∃m:Nat,(if(if(ns.length:Int)<10 then(ns.length:Int)else 10) > 6 then(if(ns.length:Int)<10 then(ns.length:Int)else 10)else 6)=(m:Int)+2/\m<=8:=by
  refine⟨((if(if(ns.length:Int)<10 then(ns.length:Int)else 10) > 6 then(if(ns.length:Int)<10 then(ns.length:Int)else 10)else 6)-2).toNat,?_,?_⟩<;>split<;>split<;>lk
 let iL:IV:=λi U s=>∃(v3 v4 v5 v6:Option D) (es:List (Nat×af.aK×Nat)),U=[some (.ref 0),some (.ref f),some (.ref g),v3,v4,v5,v6,none,none,none,none,none,none,none,none]/\s[0]?=some (.qd (ns.map D.int))/\s[g]?=some (.lst (es.map p9))/\es.length=i/\(∀e∈es,uI e.1 e.2.1 e.2.2)/\a6 s f
 refine aP (lU (aH 0 2) iL ?_ (by rw[gs];lk) ?_ ?_);k_lt Z;exact⟨⟨by decide,by decide⟩,Z _ _ ⟨rfl,_,_,_,_,[],rfl,h02,hg,rfl,(λe he=>nomatch he),f2⟩⟩;clear h02 hg f2;rintro i d U s hd ⟨v3,v4,v5,v6,es,rfl,h0,hg,el,hes,f2⟩;have hil:=dc hd;rw[gs]at hil;rw[zf hil]at hd;cases hd;k_lt Z;refine Z _ _ (aP (bj ?_));k_lt2 Z;have f3:=f2.keep (Ex.bZ [O.lst [D.int 30,D.int 60]]);have JI:=j4 (m:=[O.lst [D.int 30,D.int 60]]) h0;have wy:=j4 (m:=[O.lst [D.int 30,D.int 60]]) hg;have i3:(s ++ [O.lst [D.int 30,D.int 60]])[s.length]?=some (.lst [D.int 30,D.int 60]):=fW;have hne:s.length≠f:=by have:=f2.lt;lk
 generalize s ++ [O.lst [D.int 30,D.int 60]]=s3 at f3 JI wy i3 ⊢;generalize s.length=r at i3 hne ⊢;refine⟨rfl,?_⟩;refine aR (rQ (n:=4) f3 ∅ ∅) ?_;rintro d s4 ⟨k,rfl,k0,k2,f4,e4⟩;have PY:=e4.keep _ _ JI (by simp;lk);have wz:=e4.keep _ _ wy (by simp;lk);have i4:=bx (e4.keep _ _ i3 (by simp;exact hne));exists i4;obtain⟨most,hmo,VQ,DM⟩:∃most:Nat,dA [D.int 30,D.int 60] (if decide (k=3)=true then 1 else 0)=some (.int (most:Int))/\30<=most/\most<=60:=by
  by_cases h:k=3;exact⟨60,by rw[if_pos (decide_eq_true h)];rfl,by decide,by decide⟩;exact⟨30,by rw[if_neg (by simpa using h)];rfl,by decide,by decide⟩
 refine⟨_,hmo,Z _ _ (aP (uO ?_))⟩;k_lt2 Z;refine aR (yb9 (most:=most) f4 VQ DM) ?_;rintro d s5 ⟨n,p,N,rfl,w0,n0,n6,hF,wQ,hN,f5,e5⟩;have Mm:=e5.keep _ _ PY (by simp;lk);have JJ:=e5.keep _ _ wz (by simp;lk);refine Z _ _ ?_;k_lt2 Z;refine⟨rfl,Z _ _ (pS ?_)⟩;k_lt2 Z;refine⟨nW (by rw[bx JJ];rfl),?_⟩;show Wp (DC [bz p,.int ((60:Nat):Int)] s5) _;refine aR (YbZ (most:=60) w0 n0 ⋯ hF wQ ⋯ ∅) ?_;rintro d s6 ⟨rfl,k6⟩;have Mp:=k6.keep _ _ Mm (by simp);have Mq:=k6.keep _ _ JJ (by simp);refine aR (Xbx hF ⋯) ?_;rintro d s7 ⟨rfl,k7⟩;have h07:=k7.keep _ _ Mp (by simp);have Wf:=k7.keep _ _ Mq (by simp);exists j8 Wf;refine⟨rfl,jH (by rw[Zaa];lk),Z _ _ ⟨_,_,_,_,es ++ [(n,p,N)],rfl,?_,?_,by rw[Zae,el];rfl,λe he=>?_,(f5.keep (k6.trans k7)).ne ⋯⟩⟩;rw[Zal ⋯];exact h07;rw[Zaj (dc Wf),Zap];rfl;rcases Zax.mp he with h|h
 exact hes e h;rw[Zar.mp h];exact⟨w0,n0,n6,hF,wQ,by show N<=60;lk⟩;clear h02 hg f2;rintro U s ⟨v3,v4,v5,v6,es,rfl,h0,hg,el,hes,-⟩;rw[gs]at el;obtain⟨ea,eb,rfl⟩:∃ea eb,es=[ea,eb]:=by
  match es,el with
  |[a,b],_=>exact⟨a,b,rfl⟩
 have oa:=hes ea (by simp);have ob:=hes eb (by simp);clear hes el
 let xY:IV:=λi U s=>∃(v1 v3 v4 v5 v6 v7 v8 v9 v10 v11 uh qP qQ:Option D),U=[some (.ref 0),v1,some (.ref g),v3,v4,v5,v6,v7,v8,v9,v10,v11,uh,qP,qQ]/\s[0]?=some (.qd (ns.map D.int))/\s[g]?=some (.lst [p9 ea,p9 eb])
 refine aP (lU (aH 2 m) xY ?_ (by rw[gs];lk) ?_ ?_);exists _,Z,Ot h0;rw[Zaa,hm];exact⟨2,(m:Int)+2,⟨rfl,rfl⟩,⟨⟨by decide,by decide⟩,by lk,by lk⟩,Z _ _ ⟨by rw[show((m:Int)+2-2).toNat=m by lk],_,_,_,_,_,_,_,_,_,_,_,_,_,rfl,h0,hg⟩⟩;clear h0 hg;rintro i d U s hd ⟨v1,v3,v4,v5,v6,v7,v8,v9,v10,v11,uh,qP,qQ,rfl,h0,hg⟩;have hil:=dc hd;rw[gs]at hil;rw[zf hil]at hd;cases hd;k_lt Z;refine Z _ _ (aP (bj ?_));k_lt2 Z;rw[show(2:Int)+(i:Int)=((2+i:Nat):Int) by lk];refine aR (U3 (a:=0) (ns:=ns) (k:=2+i) (Ot h0) ⋯) ?_;rintro d s1 ⟨rfl,f1,k1⟩;have h01:=k1.keep _ _ h0 (by simp);have JG:=k1.keep _ _ hg (by simp);have EV:g<s.length:=dc hg;generalize s.length=f' at f1 EV;refine Z _ _ (aP (bj ?_));k_lt2 Z;refine aR (rQ (n:=2) f1 ∅ ∅) ?_;rintro d s2 ⟨a,rfl,a0,a1,f2,e2⟩;have h02:=e2.keep _ _ h01 (by simp;lk);have zD:=e2.keep _ _ JG (by simp;lk);refine Z _ _ (aP (bj ?_));clear Z;obtain⟨en,on,hat⟩:∃en:Nat×af.aK×Nat,uI en.1 en.2.1 en.2.2/\dA [p9 ea,p9 eb] a=some (p9 en):=by
  rcases(show a=0\/a=1 by lk)with e|e
  rw[e];exact⟨ea,oa,Br _ _⟩;rw[e];exact⟨eb,ob,zo _ _ _⟩
 exists _,Z,bx zD;refine⟨_,hat,a5.mpr ⟨_,bx zD,_,hat,a5.mpr ?_⟩⟩;refine aR (ycq (most:=8) (great:=4) f2 ∅ ∅ ∅ ∅) ?_;rintro d s3 ⟨w,rfl,hw,lw,f3,e3⟩;have JI:=e3.keep _ _ h02 (by simp;lk);have wy:=e3.keep _ _ zD (by simp;lk);have hw9:∀s∈w,qk 900 s:=λs hs=>by
  obtain⟨c1,c2,c3⟩:=hw s hs;exact⟨c1,by lk,c3⟩
 refine aR (Zb0 (w:=w) f3 on.w on.n0 (by have:=on.n6;lk) on.F on.hN hw9 ⋯) ?_;rintro d s4 ⟨w1,rfl,hw1,lw1,f4,e4⟩;have PY:=e4.keep _ _ JI (by simp;lk);have wz:=e4.keep _ _ wy (by simp;lk);refine Z _ _ (aP ?_);clear Z h01 JG h02 zD JI wy f1 f2 f3 e2 e3 e4 k1;refine gu ?_;k_lt Z;refine aR (rQ (n:=4) f4 ∅ ∅) ?_;rintro d s5 ⟨b,rfl,b0,b1,f5,e5⟩;have Mm:=e5.keep _ _ PY (by simp;lk);have JJ:=e5.keep _ _ wz (by simp;lk);w_how;refine Z _ _ ⟨λz=>bj ?_,λz=>jv ?_⟩;k_lt2 Z;refine aR (rQ (n:=60) f5 ∅ ∅) ?_;rintro d s6 ⟨c,rfl,c0,c1,f6,e6⟩;have Mp:=j4 (m:=[O.lst [D.int 1,D.int (-1)]]) (e6.keep _ _ Mm (by simp;lk));have Mq:=j4 (m:=[O.lst [D.int 1,D.int (-1)]]) (e6.keep _ _ JJ (by simp;lk));have f7:=f6.keep (Ex.bZ [O.lst [D.int 1,D.int (-1)]]);have i7:(s6 ++ [O.lst [D.int 1,D.int (-1)]])[s6.length]?=some (.lst [D.int 1,D.int (-1)]):=fW;have hne:s6.length≠f':=by have:=f6.lt;lk
 w_how;generalize s6 ++ [O.lst [D.int 1,D.int (-1)]]=s7 at Mp Mq f7 i7 ⊢;generalize s6.length=r at i7 hne ⊢;refine⟨rfl,?_⟩;refine aR (rQ (n:=2) f7 ∅ ∅) ?_;rintro d s8 ⟨x,rfl,x0,x1,f8,e8⟩;have h08:=e8.keep _ _ Mp (by simp;lk);have hg8:=e8.keep _ _ Mq (by simp;lk);have i8:=bx (e8.keep _ _ i7 (by simp;exact hne));obtain⟨y,hy,hy1⟩:∃y:Int,dA [D.int 1,D.int (-1)] x=some (.int y)/\(y=1\/y=-1):=by
  rcases(show x=0\/x=1 by lk)with e|e
  rw[e];exact⟨1,Br _ _,.inl rfl⟩;rw[e];exact⟨-1,zo _ _ _,.inr rfl⟩
 exists i8,hy;have hk:((1+c)*y).natAbs<=60/\(1+c)*y≠0:=by rcases hy1 with e|e<;>rw[e]<;>lk
 refine⟨.inl ⟨by lk,by lk⟩,rfl,rfl,Z _ _ ?_⟩;generalize (1+c)*y=kk at hk ⊢
 exact Wd (w:=[(true,kk)]) oa ob (λs hs=>by
  rw[Zar.mp hs]
  exact⟨λz=>(nomatch z),by show((kk.natAbs:Nat):Int)<=900;lk,hk.2⟩) (show 1<=200 by decide) h08 hg8 λv5 v6 v10 v11 uh qP qQ s' h0 hg=>⟨_,_,_,_,_,_,_,_,_,_,_,_,_,rfl,h0,hg⟩
 exact Wd oa ob hw1 lw1 Mm JJ λv5 v6 v10 v11 uh qP qQ s' h0 hg=>⟨_,_,_,_,_,_,_,_,_,_,_,_,_,rfl,h0,hg⟩;rintro U s ⟨v1,v3,v4,v5,v6,v7,v8,v9,v10,v11,uh,qP,qQ,rfl,h0,hg⟩;refine cV ?_;k_lt Z;exact Z _ _ rfl
def CJ{P:Program}{w:World}{K:Zfr}{mg:Str->Option Value}{base:Heap}(T:Txt mg){cC:V}(bq:qv K mg "QUARTER_charts" cC (.tup [(.str "t"),(.int 1)])){iq:V}(d7:qv K mg "QUARTER_words" iq (.tup [(.int 0),(.int (-1)),(.int 1),(.int 0)])){pK:V}(lC:qv K mg "SHEAR" pK (.tup [(.str "s"),(.int 1)])){lD:V}(fR:qv K mg "UNMOVED" lD (.tup [(.int 1),(.int 0),(.int 0),(.int 1)])){kc:Addr}{ke:FuncData}(eN:D10 K mg kc ke){kf:Addr}{kg:FuncData}(aE:D11 K mg kf kg){eZ:Addr}{fe:FuncData}(cE:D12 K mg eZ fe){lV:Addr}{lW:FuncData}(gY:D13 K mg lV lW){iO:Addr}{iP:FuncData}(dD:D14 K mg iO iP){dO:Addr}{dP:FuncData}(cN:D15 K mg dO dP){kh:Addr}{ki:FuncData}(bG:D16 K mg kh ki){gw:Addr}{gx:FuncData}(dR:D17 K mg gw gx){ff:Addr}{fg:FuncData}(bJ:D18 K mg ff fg){iQ:Addr}{iR:FuncData}(fM:D19 K mg iQ iR){iT:Addr}{iU:FuncData}(dE:D20 K mg iT iU){lX:Addr}{lY:FuncData}(jT:D21 K mg lX lY){l6:Addr}{l8:FuncData}(dF:D22 K mg l6 l8){kj:Addr}{kl:FuncData}(cO:D23 K mg kj kl){km:Addr}{kn:FuncData}(h9:D24 K mg km kn){iW:Addr}{iX:FuncData}(cm:D25 K mg iW iX){iY:Addr}{iZ:FuncData}(cn:D26 K mg iY iZ){kq:Addr}{kr:FuncData}(ie:D27 K mg kq kr){gA:Addr}{gB:FuncData}(aW:D28 K mg gA gB){l9:Addr}{ma:FuncData}(cb:D29 K mg l9 ma){gC:Addr}{gD:FuncData}(dS:D30 K mg gC gD){fj:Addr}{fm:FuncData}(dg:D31 K mg fj fm){dk:Addr}{dr:FuncData}(cB:D32 K mg dk dr){dU:Addr}{dW:FuncData}(cR:D33 K mg dU dW){nH:Addr}{nI:FuncData}(fO:D34 K mg nH nI){ky:Addr}{kz:FuncData}(ik:D35 K mg ky kz){md:Addr}{mf:FuncData}(jU:D36 K mg md mf){qI:Addr}{qJ:FuncData}(pJ:D37 K mg qI qJ){nJ:Addr}{nK:FuncData}(lB:D38 K mg nJ nK){kC:Addr}{kD:FuncData}(il:D39 K mg kC kD){gG:Addr}{gH:FuncData}(dY:D40 K mg gG gH){oV:Addr}{oW:FuncData}(nM:D41 K mg oV oW){oY:Addr}{oZ:FuncData}(nO:D42 K mg oY oZ){i5:Addr}{i6:FuncData}(fP:D43 K mg i5 i6){ft:Addr}{fu:FuncData}(bK:D44 K mg ft fu){ja:Addr}{jb:FuncData}(dG:D45 K mg ja jb){mj:Addr}{ml:FuncData}(eQ:vH K mg "chart_of" Ih ["floor","most"] [V.int 60] mj ml){gJ:Addr}{gK:FuncData}(dZ:D46 K mg gJ gK){fw:Addr}{fz:FuncData}(dh:D47 K mg fw fz){fB:Addr}{fD:FuncData}(di:D48 K mg fB fD){d4:Addr}{d5:FuncData}(cS:D49 K mg d4 d5){fF:Addr}{fG:FuncData}(dj:D50 K mg fF fG){mr:Addr}{mv:FuncData}(jV:D51 K mg mr mv){o4:Addr}{o5:FuncData}(gM:D52 K mg o4 o5){qL:Addr}{qM:FuncData}(ip:D53 K mg qL qM){jd:Addr}{je:FuncData}(fS:D54 K mg jd je){mx:Addr}{my:FuncData}(dH:D55 K mg mx my){nP:Addr}{nQ:FuncData}(lE:D56 K mg nP nQ){gO:Addr}{gP:FuncData}(d8:D57 K mg gO gP){mz:Addr}{mB:FuncData}(jW:D58 K mg mz mB){jg:Addr}{jh:FuncData}(fT:D59 K mg jg jh){kF:Addr}{kG:FuncData}(iu:D60 K mg kF kG){kI:Addr}{kJ:FuncData}(iw:D61 K mg kI kJ){nS:Addr}{nT:FuncData}(lF:D62 K mg nS nT){jk:Addr}{jl:FuncData}(fU:D63 K mg jk jl){gR:Addr}{gT:FuncData}(d9:D64 K mg gR gT){cW:Addr}{cX:FuncData}(cc:D65 K mg cW cX){JK:Addr}{JL:FuncData}(PZ:D66 K mg JK JL):G66 P w K mg base JK JL:=by have h8:=xbU (P:=P) (w:=w) (base:=base) eN T;have aG:=XbU (P:=P) (w:=w) (base:=base) aE T;have df:=Xbr (P:=P) (w:=w) (base:=base) aE aG cE T;have jS:=xb5 (P:=P) (w:=w) (base:=base) gY T;have fL:=ZbJ (P:=P) (w:=w) (base:=base) aE aG cE df gY jS dD T;have dQ:=Zbk (P:=P) (w:=w) (base:=base) cN T;have bN:=ybV (P:=P) (w:=w) (base:=base) cN dQ bG T;have gy:=Xbv (P:=P) (w:=w) (base:=base) dR T;have b5:=zbs (P:=P) (w:=w) (base:=base) dR gy bJ T;have iS:=YbJ (P:=P) (w:=w) (base:=base) fM T;have fN:=xbJ (P:=P) (w:=w) (base:=base) bG bN bJ b5 fM iS dE T;have lZ:=Xb5 (P:=P) (w:=w) (base:=base) aE aG dD fL dE fN jT T;have eO:=zb6 (P:=P) (w:=w) (base:=base) bJ b5 dF T;have dw:=ZbV (P:=P) (w:=w) (base:=base) cO T;have ko:=YbV (P:=P) (w:=w) (base:=base) aE aG bG bN dF eO cO dw h9 T;have cP:=XbJ (P:=P) (w:=w) (base:=base) cm T;have cQ:=zbK (P:=P) (w:=w) (base:=base) cm cP cn T;have ku:=xbV (P:=P) (w:=w) (base:=base) aE aG ie T;have aZ:=zbw (P:=P) (w:=w) (base:=base) aW T;have cF:=Zb6 (P:=P) (w:=w) (base:=base) cb T;have gE:=ybw (P:=P) (w:=w) (base:=base) aW aZ cb cF dS T;have fq:=ybs (P:=P) (w:=w) (base:=base) dg T;have du:=ybi (P:=P) (w:=w) (base:=base) aW aZ dg fq cB T;have dX:=xbk (P:=P) (w:=w) (base:=base) dS gE cB du cR T;have ig:=Yco (P:=P) (w:=w) (base:=base) cR dX fO T;have kA:=XbV (P:=P) (w:=w) (base:=base) ik T;have mh:=Yb6 (P:=P) (w:=w) (base:=base) ik kA jU T;have qK:=Zc0 (P:=P) (w:=w) (base:=base) jU mh pJ T;have nL:=Xco (P:=P) (w:=w) (base:=base) cb cF pJ qK lB T;have kE:=ybW (P:=P) (w:=w) (base:=base) aW aZ il T;have gI:=Zbw (P:=P) (w:=w) (base:=base) lB nL il kE dY T;have oX:=YcM (P:=P) (w:=w) (base:=base) dY gI nM T;have o3:=xcM (P:=P) (w:=w) (base:=base) nO T;have i9:=ZbK (P:=P) (w:=w) (base:=base) nO o3 fP T;have b6:=zbt (P:=P) (w:=w) (base:=base) fP i9 bK T;have fQ:=YbK (P:=P) (w:=w) (base:=base) fO ig nM oX bK b6 dG T;have mq:=xb6 (P:=P) (w:=w) (base:=base) fO ig dG fQ eQ T bq lC;have gL:=Ybw (P:=P) (w:=w) (base:=base) cO dw cn cQ dZ T;have fA:=Zbt (P:=P) (w:=w) (base:=base) dh T;have fE:=Ybt (P:=P) (w:=w) (base:=base) di T bq lC;have d6:=Xbk (P:=P) (w:=w) (base:=base) di fE cS T;have fH:=xbt (P:=P) (w:=w) (base:=base) dj T;have mw:=zb7 (P:=P) (w:=w) (base:=base) jV T;have jc:=zcN (P:=P) (w:=w) (base:=base) gM T;have jx:=xc0 (P:=P) (w:=w) (base:=base) ip T;have jf:=xbK (P:=P) (w:=w) (base:=base) ip jx fS T d7 fR;have eU:=yb7 (P:=P) (w:=w) (base:=base) ip jx fS jf dH T fR;have nR:=ycp (P:=P) (w:=w) (base:=base) lE T;have gQ:=xbw (P:=P) (w:=w) (base:=base) jV mw gM jc dH eU lE nR d8 T;have mC:=Yb7 (P:=P) (w:=w) (base:=base) jW T;have ji:=zbL (P:=P) (w:=w) (base:=base) gM jc fT T;have kH:=YbW (P:=P) (w:=w) (base:=base) iu T;have kK:=XbW (P:=P) (w:=w) (base:=base) iu kH iw T;have nU:=Zcp (P:=P) (w:=w) (base:=base) bK b6 ip jx dH eU d8 gQ jW mC fT ji iw kK lF T;have jm:=ybL (P:=P) (w:=w) (base:=base) aW aZ dh fA cS d6 dj fH lF nU fU T;have gU:=zbx (P:=P) (w:=w) (base:=base) d9 T;have cY:=ybf (P:=P) (w:=w) (base:=base) cm cP d9 gU cc T;have P0:=Ck (P:=P) (w:=w) (base:=base) eN h8 aE aG bG bN jT lZ dF eO h9 ko cn cQ ie ku eQ mq dZ gL fU jm cc cY PZ T;exact P0
end My
open PySem PySem.W PyProof.Rows L2
namespace PySem.W.Fast
abbrev tw9647978903114060412:=0
abbrev tw4516250008790910241:=0
abbrev tw16377581032089713387:=0
abbrev tw11361011876725036530:=0
abbrev tw8087548675583645103:=0
abbrev tw7077954757659542419:=0
abbrev tw14237654183468311948:=0
abbrev tw14321403390643861083:=0
abbrev tw15260962837037777234:=0
abbrev tw1654949766669436098:=0
abbrev tw6290553341040678396:=0
abbrev tw9054041348724468560:=0
abbrev tw851026932113646222:=0
abbrev tw10323199254135640975:=0
abbrev tw898110848415187041:=0
abbrev tw11234091466129555739:=0
abbrev tw7073661579066922920:=0
abbrev tw16797882735803711415:=0
abbrev tw14089296253251506127:=0
abbrev tw9273081610240719176:=0
abbrev tw18222100187719879400:=0
abbrev tw9559480094894222156:=0
abbrev tw12011037502334818827:=0
abbrev tw8085174714581347801:=0
abbrev tw9521255563434108237:=0
abbrev tw15346347564634886065:=0
abbrev tw9101362065170337592:=0
abbrev tw17431740175207734740:=0
abbrev tw5155813982164361279:=0
abbrev tw9750164738237452500:=0
abbrev tw695769818058305257:=0
abbrev tw12292842085127024647:=0
abbrev tw8542798437637184719:=0
abbrev tw7043484805485170213:=0
abbrev tw15527881011940002326:=0
abbrev tw12514236364729708419:=0
abbrev tw5199889097702697762:=0
abbrev tw12862088468174730676:=0
abbrev tw16763810828017607664:=0
abbrev tw4893182090757727040:=0
abbrev tw11405058795585897243:=0
abbrev tw6202802714621616726:=0
abbrev tw3818688511334016346:=0
abbrev tw14959336862622113194:=0
abbrev tw17885715376786977508:=0
abbrev tw896780073815256598:=0
abbrev tw13051131344652295945:=0
abbrev tw1036777042772913770:=0
abbrev tw15564617950854595450:=0
abbrev tw8603491026730498239:=0
abbrev tw11459564828371850191:=0
abbrev tw7130190064656801039:=0
abbrev tw10654252090052383591:=0
abbrev tw3866933374468004362:=0
abbrev tw8812963369644308091:=0
abbrev tw7253567321118018383:=0
abbrev tw6111796839577676764:=0
abbrev tw8806548295420709514:=0
abbrev tw980350557965417769:=0
abbrev tw15002134224644601286:=0
abbrev tw14885043609011557114:=0
abbrev tw7716988739687929506:=0
abbrev tw6444556153228005739:=0
abbrev tw14592407177750682319:=0
abbrev tw1864501416844442870:=0
abbrev tw17003090586208201208:=0
abbrev tw4034893367704830948:=0
abbrev tw7562776630462178969:=0
abbrev tw11860399462157510449:=0
abbrev tw9981211893276267908:=0
abbrev tw8676105747805907063:=0
abbrev tw10767135393367946816:=0
abbrev tw7905335121478654244:=0
abbrev tw8150541440991820198:=0
abbrev tw13353492566658610923:=0
abbrev tw17943194687259862456:=0
abbrev tw18213128870141167136:=0
abbrev tw3053619769155318446:=0
abbrev tw9736398564206871465:=0
abbrev tw2776703527002059534:=0
abbrev tw9316755563506323477:=0
abbrev tw12721392758294813256:=0
abbrev tw3953560394560069364:=0
abbrev tw7197379153162721744:=0
abbrev tw8882751308354687476:=0
abbrev tw5989488015276472650:=0
abbrev tw17005079544536962336:=0
abbrev tw484092655851556409:=0
abbrev tw13643627999514870335:=0
abbrev tw10851792873112177137:=0
abbrev tw15412303704835955393:=0
abbrev tw1866038979820630911:=0
abbrev tw14712183572672922034:=0
abbrev tw14336034320244790549:=0
abbrev tw10392367926334596906:=0
abbrev tw442668744644114594:=0
abbrev tw18029486441967344549:=0
abbrev tw2477155546285794041:=0
abbrev tw12127752189976136769:=0
abbrev tw11221622555597270518:=0
abbrev tw2955442947235851661:=0
abbrev tw9073737335553206780:=0
abbrev tw5417114331374029014:=0
abbrev tw3267002605587933659:=0
abbrev tw18184518123780741932:=0
abbrev tw745172828070208588:=0
abbrev tw1989220326374238140:=0
abbrev tw14948597010665526149:=0
abbrev tw4996487904254097353:=0
abbrev tw13200974409631053678:=0
abbrev tw3674742211695116279:=0
abbrev tw11417407392466330626:=0
abbrev tw11997879011498261905:=0
abbrev tw7084370086289406935:=0
abbrev tw1436542565468451154:=0
abbrev tw7882332063911242389:=0
abbrev tw12508180954744922407:=0
abbrev tw9788637009660630631:=0
abbrev tw14133941568909447980:=0
abbrev tw11771003606247000521:=0
abbrev tw3834319983984861949:=0
abbrev tw14500567900783188353:=0
abbrev tw6383796085131265731:=0
abbrev tw5256602665362090499:=0
abbrev tw15356994267229547999:=0
abbrev tw13757813691838188486:=0
abbrev tw4724056626130985816:=0
abbrev tw2031363648562409176:=0
abbrev tw17868618610176415371:=0
abbrev tw111752879530253729:=0
abbrev tw6981415470351898467:=0
abbrev tw7070527625993400891:=0
abbrev tw10303757137072624258:=0
abbrev tw5651218775476508882:=0
abbrev tw15055751451943329823:=0
abbrev tw4296419128486147125:=0
abbrev tw12996160256413563407:=0
abbrev tw6274983750461760900:=0
abbrev tw1819151557181124018:=0
abbrev tw13390614916877653665:=0
abbrev tw7500448957373698576:=0
abbrev tw17399120242937785423:=0
abbrev tw2466993419975638340:=0
abbrev tw12858208490823089619:=0
abbrev tw12400333487761640759:=0
abbrev tw10616224078070021322:=0
abbrev tw6101139093390359829:=0
abbrev tw1830885243872569187:=0
abbrev tw10366047267544986231:=0
abbrev tw12586852602698745641:=0
abbrev tw10250470768389948569:=0
abbrev tw9120414122524987405:=0
abbrev tw8719988056201295729:=0
abbrev tw15953850800791168182:=0
abbrev tw2757902110585673052:=0
abbrev tw14823190197814952518:=0
abbrev tw9627997248121575800:=0
abbrev tw18079711180195101076:=0
abbrev tw2336826273979665784:=0
abbrev tw4400338446644426895:=0
abbrev tw1494219061581690999:=0
abbrev tw12129208386901522329:=0
abbrev tw14038359426071903477:=0
abbrev tw18363026429342749461:=0
abbrev tw10747104662045075316:=0
abbrev tw17553448371173918092:=0
abbrev tw339889952183290573:=0
abbrev tw1298497919867464050:=0
abbrev tw12578467072868417887:=0
abbrev tw13156269713496576224:=0
abbrev tw8647145403562707086:=0
abbrev tw14010322145456380720:=0
abbrev tw7499181246156120135:=0
abbrev tw3542772539726159722:=0
abbrev tw466752864679699329:=0
abbrev tw7530939084645702643:=0
abbrev tw1318379100221180311:=0
abbrev tw14655813826884153364:=0
abbrev tw2660896915453480681:=0
abbrev tw12933163543690848130:=0
abbrev tw1263627273091370144:=0
abbrev tw11065844361161170416:=0
abbrev tw17101891560854633460:=0
abbrev tw14016851546993502222:=0
abbrev tw17402337790425660168:=0
abbrev tw9932682429883284033:=0
abbrev tw8634846528529453447:=0
abbrev tw3440789123493314558:=0
abbrev tw7274725371994351526:=0
abbrev tw7021137956127259443:=0
abbrev tw9485855177673529575:=0
abbrev tw3467930719134882615:=0
abbrev tw16462379986359046922:=0
abbrev tw17537360402072151084:=0
abbrev tw3692582542781541909:=0
abbrev tw9719581429189571670:=0
abbrev tw7703284009804659426:=0
abbrev tw11624230883416890153:=0
abbrev tw9375563544626000661:=0
abbrev tw7868406026888061188:=0
abbrev tw17417898912204595409:=0
abbrev tw3282746541816355615:=0
abbrev tw9076404012480534855:=0
abbrev tw4720544740035159691:=0
abbrev tw2091070724549741331:=0
abbrev tw3588917345083615476:=0
abbrev tw9595194330973838038:=0
abbrev tw6236588352429518485:=0
abbrev tw9064675708181490897:=0
abbrev tw11736602770665479054:=0
abbrev tw8887731877792536518:=0
abbrev tw16499922069890525528:=0
abbrev tw4457847207197630741:=0
abbrev tw17149303277461268111:=0
abbrev tw8076636168127402268:=0
abbrev tw3268859841664467660:=0
abbrev tw10728320469792270852:=0
abbrev tw10454941581529462339:=0
abbrev tw1158299948846447891:=0
abbrev tw6349359429542236397:=0
abbrev tw4429821833730138278:=0
abbrev tw10860680282129957833:=0
abbrev tw17989014122077617835:=0
abbrev tw6097208360863367314:=0
abbrev tw14539384676296148872:=0
abbrev tw908335081086540154:=0
abbrev tw13060976916551147765:=0
abbrev tw2591531869967422467:=0
abbrev tw3379779122087212323:=0
abbrev tw4372393038780810325:=0
abbrev tw18089971106137760875:=0
abbrev tw1113084545291076348:=0
abbrev tw1036120322357856569:=0
abbrev tw16590145665218790422:=0
abbrev tw10646623085058580840:=0
abbrev tw8962452288882716415:=0
abbrev tw2264726026834368541:=0
abbrev tw3780829880584043167:=0
abbrev tw1882361763167598625:=0
abbrev tw4760962901414248164:=0
abbrev tw15627244722299945140:=0
abbrev tw7512271782305341969:=0
abbrev tw9480784369791252835:=0
abbrev tw14852704727201005611:=0
abbrev tw13443180046316632329:=0
abbrev tw8048873238623433104:=0
abbrev tw12344423770324529292:=0
abbrev tw10799433398466197475:=0
abbrev tw4049690958321402798:=0
abbrev tw15853480615481272417:=0
abbrev tw4058931298447367949:=0
abbrev tw2824310934051339373:=0
end PySem.W.Fast
end
open PySem PySem.W PyProof.Rows L2
local macro_rules|`(tactic|x_fa $a $b $c)=>`(tactic|(dsimp only [L2.KOf];refine' eB $a $b (fun _ _ _ _ _ _=>$c (by intros;rfl)) ?a ?l ?c ?k;(case a=>k_is);(case l=>k_is);(case c=>k_is);(case k=>k_is)))
set_option maxRecDepth 100000 in
set_option maxHeartbeats 0 in
theorem PySem.Challenge.cw_shearfloor_k40_written_by_makers_holds : PySem.Challenge.rw_shearfloor_k40_written_by_makers.Holds := by
 w_on;o_law;k_head;(case hw=>w_witness2)
 k_fill
 refine L2.Xn (l:=PySem.Challenge.rw_shearfloor_k40_written_by_makers) (n:=63) (k:=9) (x:="_law_script") (CX:=a9) (sp:=L4.zg) rfl (by decide) rfl ⟨rfl,by decide,by decide,rfl⟩ (fun w h Y=>PySem.W.kIn_of Y) ?F ?S ?C
 case F =>
  intro w mg fa h KX G hmg;have T:My.Txt mg:=by
   refine' ⟨uk KX G ?z0,uk KX G ?z1,uk KX G ?z2,uk KX G ?z3,uk KX G ?z4,uk KX G ?z5,uk KX G ?z6,uk KX G ?z7,uk KX G ?z8,uk KX G ?z9,uk KX G ?z10,uk KX G ?z11,uk KX G ?z12⟩
   (case z0=>k_is);(case z1=>k_is);(case z2=>k_is);(case z3=>k_is);(case z4=>k_is);(case z5=>k_is);(case z6=>k_is);(case z7=>k_is);(case z8=>k_is);(case z9=>k_is);(case z10=>k_is);(case z11=>k_is);(case z12=>k_is)
  have eV:∃v,L4.qv (L2.KOf KX) mg "QUARTER_charts" v (.tup [(.str "t"),(.int 1)]):=by
   dsimp only [L2.KOf];refine' L4.KW (vs:=[V.str "t",V.int 1]) KX G ?a ?l ?o ?z ?v ?d
   (case a=>k_is);(case l=>k_is);(case o=>rfl);(case z=>decide);(case v=>exact (.cons ⟨_,rfl⟩ (.cons ⟨_,rfl⟩ .nil)));(case d=>exact fun ρ H=>(.cons (.str _) (.cons (.int _) .nil)))
  obtain ⟨_,eV⟩:=eV;have fY:∃v,L4.qv (L2.KOf KX) mg "QUARTER_words" v (.tup [(.int 0),(.int (-1)),(.int 1),(.int 0)]):=by
   dsimp only [L2.KOf];refine' L4.KW (vs:=[V.int 0,V.int (-1),V.int 1,V.int 0]) KX G ?a ?l ?o ?z ?v ?d
   (case a=>k_is);(case l=>k_is);(case o=>rfl);(case z=>decide);(case v=>exact (.cons ⟨_,rfl⟩ (.cons ⟨_,rfl⟩ (.cons ⟨_,rfl⟩ (.cons ⟨_,rfl⟩ .nil)))));(case d=>exact fun ρ H=>(.cons (.int _) (.cons (.int _) (.cons (.int _) (.cons (.int _) .nil)))))
  obtain ⟨_,fY⟩:=fY;have qS:∃v,L4.qv (L2.KOf KX) mg "SHEAR" v (.tup [(.str "s"),(.int 1)]):=by
   dsimp only [L2.KOf];refine' L4.KW (vs:=[V.str "s",V.int 1]) KX G ?a ?l ?o ?z ?v ?d
   (case a=>k_is);(case l=>k_is);(case o=>rfl);(case z=>decide);(case v=>exact (.cons ⟨_,rfl⟩ (.cons ⟨_,rfl⟩ .nil)));(case d=>exact fun ρ H=>(.cons (.str _) (.cons (.int _) .nil)))
  obtain ⟨_,qS⟩:=qS;have om:∃v,L4.qv (L2.KOf KX) mg "UNMOVED" v (.tup [(.int 1),(.int 0),(.int 0),(.int 1)]):=by
   dsimp only [L2.KOf];refine' L4.KW (vs:=[V.int 1,V.int 0,V.int 0,V.int 1]) KX G ?a ?l ?o ?z ?v ?d
   (case a=>k_is);(case l=>k_is);(case o=>rfl);(case z=>decide);(case v=>exact (.cons ⟨_,rfl⟩ (.cons ⟨_,rfl⟩ (.cons ⟨_,rfl⟩ (.cons ⟨_,rfl⟩ .nil)))));(case d=>exact fun ρ H=>(.cons (.int _) (.cons (.int _) (.cons (.int _) (.cons (.int _) .nil)))))
  obtain ⟨_,om⟩:=om;obtain⟨_,_,lG⟩:∃f fd,My.D10 (L2.KOf KX) mg f fd:=by x_fa KX G My.oG
  obtain⟨_,_,lH⟩:∃f fd,My.D11 (L2.KOf KX) mg f fd:=by x_fa KX G My.oG
  obtain⟨_,_,iy⟩:∃f fd,My.D12 (L2.KOf KX) mg f fd:=by x_fa KX G My.oG
  obtain⟨_,_,mW⟩:∃f fd,My.D13 (L2.KOf KX) mg f fd:=by x_fa KX G My.oE
  obtain⟨_,_,kL⟩:∃f fd,My.D14 (L2.KOf KX) mg f fd:=by x_fa KX G My.oG
  obtain⟨_,_,fZ⟩:∃f fd,My.D15 (L2.KOf KX) mg f fd:=by x_fa KX G My.oG
  obtain⟨_,_,lI⟩:∃f fd,My.D16 (L2.KOf KX) mg f fd:=by x_fa KX G My.oE
  obtain⟨_,_,jz⟩:∃f fd,My.D17 (L2.KOf KX) mg f fd:=by x_fa KX G My.O9
  obtain⟨_,_,iz⟩:∃f fd,My.D18 (L2.KOf KX) mg f fd:=by x_fa KX G My.oG
  obtain⟨_,_,kM⟩:∃f fd,My.D19 (L2.KOf KX) mg f fd:=by x_fa KX G My.oE
  obtain⟨_,_,kN⟩:∃f fd,My.D20 (L2.KOf KX) mg f fd:=by x_fa KX G My.oG
  obtain⟨_,_,mX⟩:∃f fd,My.D21 (L2.KOf KX) mg f fd:=by x_fa KX G My.oG
  obtain⟨_,_,mY⟩:∃f fd,My.D22 (L2.KOf KX) mg f fd:=by x_fa KX G My.oG
  obtain⟨_,_,lJ⟩:∃f fd,My.D23 (L2.KOf KX) mg f fd:=by x_fa KX G My.oE
  obtain⟨_,_,lK⟩:∃f fd,My.D24 (L2.KOf KX) mg f fd:=by x_fa KX G My.U0
  obtain⟨_,_,kO⟩:∃f fd,My.D25 (L2.KOf KX) mg f fd:=by x_fa KX G My.oG
  obtain⟨_,_,kP⟩:∃f fd,My.D26 (L2.KOf KX) mg f fd:=by x_fa KX G My.oE
  obtain⟨_,_,lL⟩:∃f fd,My.D27 (L2.KOf KX) mg f fd:=by x_fa KX G My.O9
  obtain⟨_,_,jA⟩:∃f fd,My.D28 (L2.KOf KX) mg f fd:=by x_fa KX G My.oE
  obtain⟨_,_,mZ⟩:∃f fd,My.D29 (L2.KOf KX) mg f fd:=by x_fa KX G My.oG
  obtain⟨_,_,jB⟩:∃f fd,My.D30 (L2.KOf KX) mg f fd:=by x_fa KX G My.oG
  obtain⟨_,_,iA⟩:∃f fd,My.D31 (L2.KOf KX) mg f fd:=by x_fa KX G My.oG
  obtain⟨_,_,eW⟩:∃f fd,My.D32 (L2.KOf KX) mg f fd:=by x_fa KX G My.oG
  obtain⟨_,_,f9⟩:∃f fd,My.D33 (L2.KOf KX) mg f fd:=by x_fa KX G My.oG
  obtain⟨_,_,oo⟩:∃f fd,My.D34 (L2.KOf KX) mg f fd:=by x_fa KX G My.oE
  obtain⟨_,_,lM⟩:∃f fd,My.D35 (L2.KOf KX) mg f fd:=by x_fa KX G My.oG
  obtain⟨_,_,m8⟩:∃f fd,My.D36 (L2.KOf KX) mg f fd:=by x_fa KX G My.oE
  obtain⟨_,_,qT⟩:∃f fd,My.D37 (L2.KOf KX) mg f fd:=by x_fa KX G My.oG
  obtain⟨_,_,ot⟩:∃f fd,My.D38 (L2.KOf KX) mg f fd:=by x_fa KX G My.oG
  obtain⟨_,_,lO⟩:∃f fd,My.D39 (L2.KOf KX) mg f fd:=by x_fa KX G My.oE
  obtain⟨_,_,jC⟩:∃f fd,My.D40 (L2.KOf KX) mg f fd:=by x_fa KX G My.oG
  obtain⟨_,_,pL⟩:∃f fd,My.D41 (L2.KOf KX) mg f fd:=by x_fa KX G My.oG
  obtain⟨_,_,pM⟩:∃f fd,My.D42 (L2.KOf KX) mg f fd:=by x_fa KX G My.oG
  obtain⟨_,_,kQ⟩:∃f fd,My.D43 (L2.KOf KX) mg f fd:=by x_fa KX G My.oE
  obtain⟨_,_,iB⟩:∃f fd,My.D44 (L2.KOf KX) mg f fd:=by x_fa KX G My.oG
  obtain⟨_,_,kR⟩:∃f fd,My.D45 (L2.KOf KX) mg f fd:=by x_fa KX G My.U0
  have m9:∃f fd,vH (L2.KOf KX) mg "chart_of" My.Ih ["floor","most"] [V.int 60] f fd:=by
   dsimp only [L2.KOf];refine' Yj (d:=1) KX G (by decide) (fun _ _ _ _ _ _ _ us ds hl hd=>match us,ds,hl,hd with|[_],[_],_,_=>⟨_,rfl,rfl⟩) (fun _ _ _ _ _ _ _ us ds hl hd=>match us,ds,hl,hd with|[_,_],[_],_,_=>⟨_,rfl,rfl⟩) ?a ?l ?lT ?e ?v ?c ?k
   (case a=>k_is);(case l=>k_is);(case lT=>k_is);(case e=>rfl);(case v=>exact .cons ⟨_,rfl⟩ (.nil));(case c=>k_is);(case k=>k_is)
  obtain ⟨_,_,m9⟩:=m9;obtain⟨_,_,jD⟩:∃f fd,My.D46 (L2.KOf KX) mg f fd:=by x_fa KX G My.oE
  obtain⟨_,_,iC⟩:∃f fd,My.D47 (L2.KOf KX) mg f fd:=by x_fa KX G My.oE
  obtain⟨_,_,iD⟩:∃f fd,My.D48 (L2.KOf KX) mg f fd:=by x_fa KX G My.oE
  obtain⟨_,_,gb⟩:∃f fd,My.D49 (L2.KOf KX) mg f fd:=by x_fa KX G My.oE
  obtain⟨_,_,iE⟩:∃f fd,My.D50 (L2.KOf KX) mg f fd:=by x_fa KX G My.oE
  obtain⟨_,_,nh⟩:∃f fd,My.D51 (L2.KOf KX) mg f fd:=by x_fa KX G My.oG
  obtain⟨_,_,pN⟩:∃f fd,My.D52 (L2.KOf KX) mg f fd:=by x_fa KX G My.oE
  obtain⟨_,_,qU⟩:∃f fd,My.D53 (L2.KOf KX) mg f fd:=by x_fa KX G My.oG
  obtain⟨_,_,kS⟩:∃f fd,My.D54 (L2.KOf KX) mg f fd:=by x_fa KX G My.oE
  obtain⟨_,_,ni⟩:∃f fd,My.D55 (L2.KOf KX) mg f fd:=by x_fa KX G My.oE
  obtain⟨_,_,oy⟩:∃f fd,My.D56 (L2.KOf KX) mg f fd:=by x_fa KX G My.oG
  obtain⟨_,_,jE⟩:∃f fd,My.D57 (L2.KOf KX) mg f fd:=by x_fa KX G My.oE
  obtain⟨_,_,nt⟩:∃f fd,My.D58 (L2.KOf KX) mg f fd:=by x_fa KX G My.oE
  obtain⟨_,_,kT⟩:∃f fd,My.D59 (L2.KOf KX) mg f fd:=by x_fa KX G My.oE
  obtain⟨_,_,lP⟩:∃f fd,My.D60 (L2.KOf KX) mg f fd:=by x_fa KX G My.oE
  obtain⟨_,_,lQ⟩:∃f fd,My.D61 (L2.KOf KX) mg f fd:=by x_fa KX G My.oE
  obtain⟨_,_,oz⟩:∃f fd,My.D62 (L2.KOf KX) mg f fd:=by x_fa KX G My.oE
  obtain⟨_,_,kU⟩:∃f fd,My.D63 (L2.KOf KX) mg f fd:=by x_fa KX G My.oG
  obtain⟨_,_,jF⟩:∃f fd,My.D64 (L2.KOf KX) mg f fd:=by x_fa KX G My.oE
  obtain⟨_,_,eh⟩:∃f fd,My.D65 (L2.KOf KX) mg f fd:=by x_fa KX G My.O9
  obtain⟨_,_,rT⟩:∃f fd,My.D66 (L2.KOf KX) mg f fd:=by x_fa KX G My.oE
  have e0:=hmg.symm.trans rT.m;cases e0;exact ⟨_,rT.xq,fun base _ _=>L4.A9 (My.CJ T eV fY qS om lG lH iy mW kL fZ lI jz iz kM kN mX mY lJ lK kO kP lL jA mZ jB iA eW f9 oo lM m8 qT ot lO jC pL pM kQ iB kR m9 jD iC iD gb iE nh pN qU kS ni oy jE nt kT lP lQ oz kU jF eh rT) fun ns hn=>let ⟨_,st,e,h⟩:=My.wG ns hn;⟨st,h ▸ e⟩⟩
 case S=>exact fun K H a ns hl hO hS=>⟨a,ns,rfl,hS.script hO,hl,fun _=>rfl⟩
 case C=>exact fun _ _ _ _ z=>z
